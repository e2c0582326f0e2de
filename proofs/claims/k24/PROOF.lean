import PyProof.Rows.All
import Wide.All
import OpenK.AllK
import Wide.FinOn
import Lean
import PyProof.EqAt
import PyProof.EqKinds
import PyProof.TupleCall
import KE.KEqDict
import PySem.Challenge.RW_chiefway_k24_where_a_make_falls_short
set_option autoImplicit true
set_option relaxedAutoImplicit true
set_option Elab.async false
set_option linter.all false
set_option maxRecDepth 100000
open PySem renaming wpAny_bind → zaa, Shared → zab, wpAny_pure → zac, starEach → zah, sizeLine → zaj, Program → zam, compareOp → zaq, Around → zar, wpAny_field → zaC, pyNext → zaH, backTo → zaJ, bootBuiltins → zaM, rawInt → zaN, Paired → zaV, binaryOp → zaW, wpAny_setField_rec → zaZ, mainGlobals → za2, tupleKind → za4, wpAny_seqItems → za5, swapsWith → za6, wpAny_mono → za8, Builtin → za9, wpAny_call_entry → zba, assignEach → zbe, IsPair → zbh, sysModules → zbi, wpAny_holding → zbm, wpAny_newObj_type → zbo, assign → zbp, FuncData → zbq, codeAny → zbr, wpAny_callSpecial?_slot → zbt, wpAny_letGo → zbu, wpAny_truthy_bool → zbx, plainId_quiet → zbB, Keyword → zbG, relabel → zbK, wpAny_pyIter_tuple → zbM, foldedSetIterable → zbO, wpAny_loadPart' → zbQ, wpAny_rule → zbT, IsEnum → zbU, NameKind → zbY, IsPart → zbZ, getItem → zb0, sliceBounds → zb2, DictEntry → zb3, wpAny_dictEntries → zb4, wpAny_attempt → zb5, wpAny_onRaise → zb9, wpAny_pyIter_list → zcd, behindInMarks → zce, sizeLine_eq → zcf, codeAny_builtin → zcj, holding → zco, wpAny_typeOf → zcq, call_meets → zcs, wpAny_updateSeq → zct, wpAny_passesOwn → zcA, backToKw → zcD, keywordEach → zcE, cellsFrom → zcF, typeIs_int → zcH, attributeBase → zcI, valueAt → zcL, callerA → zcN, wpAny_dictEpoch → zcP, updateSeq → zcQ, wpAny_tryCatch → zcR, PassesOwn → zcU, lastMarks → zcW, tupleKind_room_in1 → zcZ, setField → zc6, firstArgMember → zc7, wpAny_isInstance → zc8, wpAny_newTuple → zc9, wpAny_standAt → zdj, mem_of_lookup → zdl, wpAny_setField → zdt, wpAny_of_eq → zdv, isSubtype_stop → zdw, seqItems? → zdB, wpAny_execs_nil → zdM, swapsWithSole → zdN, swappedStores → zdO, letOwnedTupleGo → zdP, IsRangeIter → zdQ, codeAny_mono → zdU, wpAny_Call_Name_kw → zdV, subscripted → zd1, call_meetsIn → zd6, wpAny_notOrdered_dict → zd9, wpAny_typeNameOfWhole_keyiter → zeb, wpAny_typeNameOf_keyiter → zec, wpAny_fieldsOf → zed, wpAny_typeNameOfWhole_itemiter → zeh, wpAny_typeNameOf_itemiter → zei, wpAny_newList → zel, callType_new → zeu, wpAny_pyIter_zip → zew, getattributeRaised → zeG, wpAny_forIn_list → zeV, noFill_tuple_add → zeX, wpAny_specialOf → ze5, wpAny_isOneOf_itemiter → zfc, wpAny_updateSeq_pair → zfg
open Option renaming bind_some → zad, map_some → zae, bind → zdG, isSome_map → zd5
open PySem.W renaming Frag → zaf, kia_one → zbz, fnOf → zbH, keepIn → zcp, nsIn → zcx, codeIn → zcY, kitOne → zdk, kitx_dict → zdS, kitAny → zeH, mg_of → zeM, instObj → zeP, methodObj → zeQ, OpenLaw → ze8
open PySem.Heap renaming get?_push_of_some → zag, lt_size → zai, get?_push_size → zat, SameBut → zaS, size_push → zbl, get?_update_other → zbI, get?_update_self → zbR, ExtBut → zdu, IsTuple → zdD, IsList → zet
open List renaming map_cons → zak, length_map → zao, mem_cons_self → zas, mem_cons_of_mem → zav, size_toArray → zaz, range → zaA, getElem?_map → zaB, mem_cons → zaD, not_mem_nil → zaE, replicate → zaO, map_map → zaQ, length_cons → zaT, mem_of_getElem? → zaX, getElem?_eq_getElem → zaY, find?_cons → za7, length_append → zbk, map_append → zbv, any_cons → zbA, mem_append_right → zbF, length → zbP, take_add_one → zbW, map_nil → zb1, length_nil → zcg, replicate_succ → zcr, append_nil → zcC, all_cons → zcG, flatten_cons → zcJ, foldl_cons → zcK, all_eq_true → zcO, take_length → zcT, length_take → zcX, nodup_nil → zc0, getD → zc3, sum_cons → zde, eq_of_mem_replicate → zdg, mem_append_left → zdh, getElem_inj → zdi, getElem?_append_left → zdm, ext_getElem → zdo, toArray → zdq, getElem_mem → zdz, nodup_cons → zdA, forIn_cons → zdC, lookup_cons → zdE, getElem?_set_ne → zdL, zip_cons_cons → zdW, length_drop → zdY, length_singleton → zd3, filter_cons → zd4, zipIdx_cons → zeq, zipIdx_nil → zer, forIn_nil → zes, drop_eq_getElem_cons → zex, map_congr_left → zeE, mem_map_of_mem → zeI, forall_mem_cons → zeL, filterMap_cons → zeR, of_mem_zip → zeT, getElem?_append_right → zeU, append_assoc → ze3, foldl_append → zff, nil_append → zfh, find?_append → zfi, mem_of_find?_eq_some → zfm
open PySem.Value renaming ref → zal, none → zaL, bool → zcb, type → zcn, notImplemented → zeW
open Nat renaming le_refl → zan, ne_of_lt → zay, ne_of_gt → zaG, zero_le → za3, lt_of_lt_of_le → zbb, lt_irrefl → zbc, le_trans → zbd, lt_trans → zcM, lt_succ_self → zdb, zero_add → zdc, le_of_lt → zdK, lt_of_le_of_lt → zd8, not_lt_zero → ze7, le_of_ble_eq_true → zfl
open Sum renaming inl → zap, inr → zcz
open Bool renaming false_ne_true → zau, and_eq_true → zaK, false_eq_true → zb6, eq_iff_iff → zcV, eq_false_iff → zc2, or_eq_true → zdp, not_eq_true → zdF, beq_eq_decide_eq → ze9
open Int renaming emod_nonneg → zaw, emod_lt_of_pos → zax, dvd_add → zaF, ne_of_gt → zaU, mul_one → zby, mul_assoc → zbC, pow_succ → zbD, le_of_lt → zbV, toNat_natCast → zb7, dvd_mul_of_dvd_left → zcw, dvd_zero → zcy, pow_zero → zcS, mul_comm → zdd, dvd_sub → zdf, mul_add → zdH, pow_add → zdI, sub_self → zdJ, add_emod → zez, mul_emod → zeA, emod_emod_of_dvd → zeB, dvd_refl → zeC, le_refl → zeD, sub_mul → zeJ, dvd_mul_of_dvd_right → zeK, add_mul → zeN, emod_eq_of_lt → zeO, ediv_nonneg → zfa, dvd_self_sub_emod → zfk
open Option.some renaming inj → zaI
open PyProof.Rows renaming IntsAre → zaP, seqObj → za1, envOfC → zbn, kindOf → zbs, AllBare → zcc, callWith_type1 → zcB, slot_tuple_getitem → zdZ
open Ne renaming symm → zaR
open PySem.Str renaming ofString → za0
open True renaming intro → zbf
open PySem.Obj renaming mapSeq → zbg, data_mapFields → zee
open Array renaming length_toList → zbj, getD → zc5, getElem?_toList → zdy, getElem?_eq_getElem → zfb
open PySem.Builtin.SmallTypes renaming nextOf → zbw, ownedTupleIsFree → zb8, ownedTupleHandOut → zda
open False renaming elim → zbE
open Or renaming inl → zbJ, inr → zbS
open PySem.Shared renaming heap → zbL, TypeIs → zej
open PySem.Builtin.Range renaming rangeSize → zbN, small → zch, rangeFitsLong → zfo
open PySem.Paired renaming length → zbX
open ToString renaming toString → zca
open PySem.Heap.SameBut renaming update → zci, refl → zfd
open PySem.Around renaming under_plainId → zck
open PySem.NameKind renaming free → zcl
open PySem.F renaming plain_max_loop → zcm, slot_zip_next → zcu, slot_dict_get → zc1, plain_extend_loop → zdx, entry_dict_get → zd7, slot_dict_keyiterator_next → zea, slot_dict_itemiterator_next → zeg, slot_tuple_iterator_next → zen, entry_zip_next → zeo, args_zip_next_1 → zep, slot_enumerate_next → zey, slot_tuple_add → zeY, entry_tuple_add → zeZ, args_tuple_add_2 → ze0, plainAttrs_dict → ze6, entry_max_loop → zfj, entry_dict_keyiterator_next → zfp, args_dict_keyiterator_next_1 → zfq, entry_dict_itemiterator_next → zfr, args_dict_itemiterator_next_1 → zfs, slot_dict_items_iter → zft, entry_tuple_iterator_next → zfv, args_tuple_iterator_next_1 → zfw
open Classical renaming propDecidable → zcv
open ForInStep renaming yield → zc4
open PySem.SeqAt renaming EqAt → zdn
open PySem.Builtin.Dict renaming showsAll → zdr, updateFrom → zem
open PySem.Builtin.Dict_items renaming ownsTuple → zds, pairFromOwner → zef, ownedTupleIsFree → zek, ownedTupleFields → zfu
open PySem.Builtin.Str renaming occurrences → zdR
open PySem.Calls renaming spliced_cons → zdT, callWith_builtin → zd2, spliced_nil → zeS, evalArgs_plain → ze2
open PySem.Builtin.Slice renaming slicePlaces → zdX, sliceAdjust → ze1
open PySem.Builtin.Tuple renaming tupleExact → zd0, tupleCompareSizes → zfn
open PySem.Builtin.Builtins renaming bindParams → zeF
open PySem.Builtin.List renaming listTooLong → ze4, listExtendWith → zfe
noncomputable section
namespace L2
open PySem PySem.Spec PyProof.Rows
abbrev Key:=Sum Int Str
def t5:Key->Value->Bool
 | .inl k,v=>Value.isInt k v
 | .inr x,v=>Value.isStrOf x v
def ZC(w:World):Key->Int
 | .inl k=>hashInt k
 | .inr x=>hashStr w x
theorem bT:∀ {k:Key} {v:Value},t5 k v=true->(∃i t,k=zap i/\v=Value.int i t)\/(∃x t,k=zcz x/\v=Value.str x t)
 | .inl i,v,h=>by
  obtain⟨t,e⟩:=Value.isInt_shape (k:=i) (v:=v) h;exact .inl ⟨i,t,rfl,e⟩
 | .inr x,v,h=>by
  obtain⟨t,e⟩:=Value.isStrOf_shape (x:=x) (v:=v) h;exact .inr ⟨x,t,rfl,e⟩
theorem E4(i:Int)(t:Tok):t5 (.inl i) (.int i t)=true:=by simp[t5,Value.isInt]
theorem FH(x:Str)(t:Tok):t5 (.inr x) (.str x t)=true:=by simp[t5,Value.isStrOf]
theorem TN(a b:Int):decide ((zap a:Key)=zap b)=(a == b):=by
 by_cases e:a=b
 ·subst e;simp
 ·have h:¬ (zap a:Key)=zap b:=λq=>e (Sum.inl.inj q)
  rw[decide_eq_false h];exact(beq_eq_false_iff_ne.mpr e).symm
theorem QZ(a b:Str):decide ((zcz a:Key)=zcz b)=decide (a=b):=by
 by_cases e:a=b
 ·subst e;simp
 ·have h:¬ (zcz a:Key)=zcz b:=λq=>e (Sum.inr.inj q)
  rw[decide_eq_false h,decide_eq_false e]
theorem T7(a:Int)(b:Str):decide ((zap a:Key)=zcz b)=false:=decide_eq_false (λq=>nomatch q)
theorem R1(a:Str)(b:Int):decide ((zcz a:Key)=zap b)=false:=decide_eq_false (λq=>nomatch q)
def aU(prog:zam)(w:World):PySem.KeyKind prog w Key where
 is:=t5
 hash:=ZC w
 inj:=λv a b F z=>by
  rcases bT F with⟨i,t,rfl,rfl⟩|⟨x,t,rfl,rfl⟩
  ·rcases bT z with⟨j,u,rfl,e⟩|⟨y,u,rfl,e⟩
   ·injection e with e1 _;rw[e1]
   ·exact nomatch e
  ·rcases bT z with⟨j,u,rfl,e⟩|⟨y,u,rfl,e⟩
   ·exact nomatch e
   ·injection e with e1 _;rw[e1]
 byValue:=λk v h=>by
  rcases bT h with⟨i,t,rfl,rfl⟩|⟨x,t,rfl,rfl⟩ <;> rfl
 pyHash:=λq h=>by
  rcases bT q with⟨i,t,rfl,rfl⟩|⟨x,t,rfl,rfl⟩
  ·exact wpAny_pyHash_int h
  ·exact wpAny_pyHash_str h
 eqBool:=λB q h=>by
  rcases bT B with⟨i,t,rfl,rfl⟩|⟨x,t,rfl,rfl⟩
  ·rcases bT q with⟨j,u,rfl,rfl⟩|⟨y,u,rfl,rfl⟩
   ·rw[TN]at h;exact wpAny_eqBool_int h
   ·rw[T7]at h;exact SeqAt.EqAt.int_str i t y u _ _ _ _ h
  ·rcases bT q with⟨j,u,rfl,rfl⟩|⟨y,u,rfl,rfl⟩
   ·rw[R1]at h;exact SeqAt.EqAt.str_int x t j u _ _ _ _ h
   ·rw[QZ]at h;exact wpAny_eqBool_str h
 «strs»:=λk x t v h=>by
  rcases bT h with⟨i,u,rfl,e⟩|⟨y,u,rfl,e⟩
  ·exact nomatch e
  ·injection e with e1 _
   subst e1;cases v <;> rfl
theorem wJ(prog:zam)(w:World)(i:Int)(t:Tok):(aU prog w).is (.inl i) (.int i t)=true:=E4 i t
theorem v8(prog:zam)(w:World)(x:Str)(t:Tok):(aU prog w).is (.inr x) (.str x t)=true:=FH x t
inductive V where
 | non|bl (b:Bool)|int (i:Int)|str (x:Str)|byt (b:Array UInt8)|flt (b:UInt64)|ref (a:Addr)|ty (n:String)
 deriving DecidableEq
noncomputable def RelV:V->Value->Prop
 | .non,u=>u=zaL
 | .bl b,u=>u=zcb b
 | .int i,u=>∃t,u=Value.int i t
 | .str x,u=>∃t,u=Value.str x t
 | .byt b,u=>∃t,u=Value.bytes b t
 | .flt b,u=>∃t,u=Value.float b t
 | .ref a,u=>u=zal a
 | .ty n,u=>u=zcn n
abbrev Vals:List V->List Value->Prop:=zaV RelV
theorem Vals.length(r:Vals xs us):xs.length=us.length:=zbX r
theorem Vals.get:∀ {xs:List V} {us:List Value} {i:Nat} {x:V},Vals xs us->xs[i]?=some x->∃u,us[i]?=some u/\RelV x u
 | _,_,_,_,.nil,e=>by simp at e
 | _,_,0,_,.cons r _,e=>by simp at e;subst e;exact⟨_,rfl,r⟩
 | _,_,i+1,x,.cons _ t,e=>by
  obtain⟨u,h1,h2⟩:=Vals.get (i:=i) (x:=x) t (by simpa using e);exact⟨u,by simpa using h1,h2⟩
theorem Vals.set(r:RelV x u):∀ {xs:List V} {us:List Value} (i:Nat),Vals xs us->Vals (xs.set i x) (us.set i u)
 | _,_,_,.nil=>.nil
 | _,_,0,.cons _ t=>.cons r t
 | _,_,i+1,.cons q t=>.cons q (Vals.set r i t)
theorem Vals.append:∀ {xs ys:List V} {us ws:List Value},Vals xs us->Vals ys ws->Vals (xs++ys) (us++ws)
 | _,_,_,_,.nil,s=>s
 | _,_,_,_,.cons r t,s=>.cons r (Vals.append t s)
theorem Vals.take:∀ {xs:List V} {us:List Value} (n:Nat),Vals xs us->Vals (xs.take n) (us.take n)
 | _,_,0,_=>.nil
 | _,_,_+1,.nil=>.nil
 | _,_,n+1,.cons r t=>.cons r (Vals.take n t)
theorem Vals.drop:∀ {xs:List V} {us:List Value} (n:Nat),Vals xs us->Vals (xs.drop n) (us.drop n)
 | _,_,0,r=>r
 | _,_,_+1,.nil=>.nil
 | _,_,n+1,.cons _ t=>Vals.drop n t
def RelO:Option V->Option Value->Prop
 | some v,some u=>RelV v u
 | none,none=>True
 | _,_=>False
def KV{κ:Type}:List (κ×V)->List (κ×Value)->Prop:=zaV λ(p:κ×V) (q:κ×Value)=>p.1=q.1/\RelV p.2 q.2
def kV:Key->V
 | .inl i=>.int i
 | .inr x=>.str x
inductive HO where
 /-- a list -/
 | lst (xs:List V)
 /-- a tuple (never changes) -/
 | tup (xs:List V)
 /-- a dict whose keys are ints and texts;one whose keys are tuples of ints and texts (the empty one is both) -/
 | dK (kvs:List (Key×V))|dT (kvs:List (List Key×V))
 /-- a set of ints: its members, its size -/
 | set (S:Int->Bool) (n:Nat)
 /-- an instance of the class at C, its dict at dx, its attributes -/
 | ins (C dx:Addr) (fs:List (Str×V))
 /-- the dict of the instance at x -/
 | own (x:Addr)
 /-- the dict of an exception -/
 | xd (fs:List (Str×V))
 /-- a bound method, f of x -/
 | met (f x:Addr)
 /-- a range object lo, lo+1, .. below hi -/
 | rng (lo hi:Int)
 /-- a thing that is known to the object (the script;a dict while a loop walks it): read, never written while it is so -/
 | frz (o:Obj) (u:HO)
 /-- a code object's table -/
 | tbl (ps:Array Value)
 /-- any other thing, by what is true of its one object (a def of one's own: SetO a S n:=HO.ext λh => ..) -/
 | ext (φ:Heap->Prop)
abbrev Hp:=Addr->Option HO
def upd(H:Hp)(a:Addr)(o:HO):Hp:=λb=>if b=a then some o else H b
theorem aI:upd H a o a=some o:=by unfold upd;rw[if_pos rfl]
theorem aE(h:b≠a):upd H a o b=H b:=by unfold upd;rw[if_neg h]
theorem DH{H:Hp}{a b:Addr}{o u:HO}(h:H a=some o)(h':H b=some u)(d:o≠u):a≠b:=by
 intro e;subst e;rw[h]at h';exact d (zaI h')
theorem aQ{H:Hp}{a b:Addr}{o:HO}(h:H a=some o)(h':H b=none):a≠b:=by
 intro e;subst e;rw[h]at h';cases h'
section
variable (P:zam)(w:World)
def IsTupN(h:Heap)(a:Addr)(items:Array Value):Prop:=∃o,h.get? a=some o/\o.cls=.type "tuple" /\ ∃n,o.data=.seq items n/\o.dict=none
theorem IsTupN.tup{h:Heap}{a:Addr}{items:Array Value}(x:IsTupN h a items):IsTup h a items:=let ⟨o,e,c,n,d,_⟩:=x;⟨o,e,c,n,d⟩
theorem IsTupN.lt(x:IsTupN h a items):a<h.objs.size:=x.tup.lt
theorem IsTupN.new(h:Heap)(items:Array Value):IsTupN (h.push {cls:=.type "tuple",data:=.seq items}) h.objs.size items:=⟨_,zat _ rfl,rfl,_,rfl,rfl⟩
def ObjOk(H:Hp)(h:Heap)(a:Addr):HO->Prop
 | .lst xs=>xs.length<=zaj/\∃(its:List Value) (n:Nat),Vals xs its/\h.get? a=some {cls:=.type "list",data:=.seq its.toArray n}
 | .tup xs=>xs.length<=zaj/\∃its:List Value,Vals xs its/\IsTupN h a its.toArray
 | .dK kvs=>kvs.length<=zaj/\(a == zbi)=false/\∃vs,KV kvs vs/\h.DictOf (aU P w) a vs
 | .dT kvs=>kvs.length<=zaj/\(a == zbi)=false/\∃xs:List (List Key×Addr×Value),
   zaV (λ(p:List Key×V) (q:List Key×Addr×Value)=>p.1=q.1/\H q.2.1=some (.tup (p.1.map kV))/\RelV p.2 q.2.2) kvs xs /\
   ∃o es ep,h.get? a=some o/\o.ExactDict/\o.data=.dict es ep/\es.toList=xs.map (entryOfKey (za4 (aU P w)))/\(xs.map (·.1)).Nodup
 | .set S n=>h.SetOf (intKind P w) a S n
 | .ins C dx fs=>H dx=some (.own a)/\fs.length<=1000/\dx≠a/\h.get? a=some (zeP C dx) /\
   ∃mA,h.Ns1 dx mA/\(∀f,RelO (fs.lookup f) (mA f))/\PySem.Within mA (fs.map (·.1))
 | .own _=>∃o,h.get? a=some o
 | .xd fs=>∃mA,h.Ns1 a mA/\∀f,RelO (fs.lookup f) (mA f)
 | .rng lo hi=>∃t u v,h.get? a=some {cls:=.type "range",data:=.fields #[.int lo t,.int hi u,.int 1 v]}
 | .frz o u=>h.get? a=some o/\ObjOk H h a u
 | .tbl ps=>h.get? a=some {cls:=.none,data:=.fields ps}
 | .met f x=>h.get? a=some (zeQ (.ref f) (.ref x))
 | .ext φ=>φ h/\(∃o,h.get? a=some o)/\∀h1 h2:Heap,φ h1->(∀o,h1.get? a=some o->h2.get? a=some o)->φ h2
def HOk(H:Hp)(h:Heap):Prop:=∀a o,H a=some o->ObjOk P w H h a o
end
section
variable {P:zam}{w:World}{H H':Hp}{h h':Heap}{a:Addr}{o:HO}
theorem ObjOk.lt(x:ObjOk P w H h a o):a<h.objs.size:=by
 cases o with
 | lst xs=>obtain⟨_,_,_,_,e⟩:=x;exact zai e
 | tup xs=>obtain⟨_,_,_,p⟩:=x;exact p.lt
 | dK kvs=>obtain⟨_,_,_,_,o,_,_,e,_⟩:=x;exact zai e
 | dT kvs=>obtain⟨_,_,_,_,o,_,_,e,_⟩:=x;exact zai e
 | set S n=>obtain⟨o,_,_,_,e,_⟩:=x;exact zai e
 | ins C dx fs=>obtain⟨_,_,_,e,_⟩:=x;exact zai e
 | own y=>obtain⟨_,e⟩:=x;exact zai e
 | xd fs=>obtain⟨_,⟨_,_,_,e,_⟩,_⟩:=x;exact zai e
 | rng lo hi=>obtain⟨_,_,_,e⟩:=x;exact zai e
 | frz ob u=>obtain⟨e,_⟩:=x;exact zai e
 | tbl ps=>exact zai (show h.get? a=some _ from x)
 | met f y=>exact zai (show h.get? a=some _ from x)
 | ext φ=>obtain⟨_,⟨_,e⟩,_⟩:=x;exact zai e
theorem Paired.mapP{z q:Type}{F G:z->q->Prop}:∀ {l₁:List z} {l₂:List q},zaV F l₁ l₂->(∀a b,F a b->G a b)->zaV G l₁ l₂
 | _,_,.nil,_=>.nil
 | _,_,.cons r t,f=>.cons (f _ _ r) (Paired.mapP t f)
theorem ObjOk.stay(x:ObjOk P w H h a o)(k:∀b u,(b=a\/H b=some (.own a))->h.get? b=some u->h'.get? b=some u)
  (F:∀b,H b=some (.own a)->H' b=some (.own a)) (J:∀b xs,H b=some (.tup xs)->H' b=some (.tup xs)):ObjOk P w H' h' a o:=by
 induction o with
 | lst xs=>obtain⟨z,B,n,r,e⟩:=x;exact⟨z,B,n,r,k _ _ (.inl rfl) e⟩
 | tup xs=>obtain⟨z,B,r,ob,e,c⟩:=x;exact⟨z,B,r,ob,k _ _ (.inl rfl) e,c⟩
 | dK kvs=>obtain⟨z,y,vs,r,ob,es,ep,e,c⟩:=x;exact⟨z,y,vs,r,ob,es,ep,k _ _ (.inl rfl) e,c⟩
 | dT kvs=>
  obtain⟨z,y,xs,r,ob,es,ep,e,c⟩:=x;exact⟨z,y,xs,Paired.mapP r λp q z=>⟨z.1,J _ _ z.2.1,z.2.2⟩,ob,es,ep,k _ _ (.inl rfl) e,c⟩
 | set S n=>obtain⟨ob,es,ep,t,e,c⟩:=x;exact⟨ob,es,ep,t,k _ _ (.inl rfl) e,c⟩
 | ins C dx fs=>
  obtain⟨d,z,ne,e,mA,⟨od,es,ep,G,c⟩,r⟩:=x;exact⟨F _ d,z,ne,k _ _ (.inl rfl) e,mA,⟨od,es,ep,k _ _ (.inr d) G,c⟩,r⟩
 | own y=>obtain⟨ob,e⟩:=x;exact⟨ob,k _ _ (.inl rfl) e⟩
 | xd fs=>obtain⟨mA,⟨od,es,ep,e,c⟩,r⟩:=x;exact⟨mA,⟨od,es,ep,k _ _ (.inl rfl) e,c⟩,r⟩
 | rng lo hi=>obtain⟨t,u,v,e⟩:=x;exact⟨t,u,v,k _ _ (.inl rfl) e⟩
 | frz ob u ih=>obtain⟨e,q⟩:=x;exact⟨k _ _ (.inl rfl) e,ih q⟩
 | tbl ps=>
  have e:h.get? a=some {cls:=.none,data:=.fields ps}:=x;show h'.get? a=some {cls:=.none,data:=.fields ps};exact k a _ (.inl rfl) e
 | met f y=>
  have e:h.get? a=some (zeQ (.ref f) (.ref y)):=x;show h'.get? a=some (zeQ (.ref f) (.ref y));exact k a _ (.inl rfl) e
 | ext φ=>obtain⟨p,⟨o,e⟩,st⟩:=x;exact⟨st _ _ p λo q=>k _ _ (.inl rfl) q,⟨o,k _ _ (.inl rfl) e⟩,st⟩
theorem HOk.lt(x:HOk P w H h)(e:H a=some o):a<h.objs.size:=(x a o e).lt
theorem HOk.fresh(x:HOk P w H h)(e:h.objs.size<=a):H a=none:=by
 cases q:H a with
 | none=>rfl
 | some u=>exact absurd (zbb (x.lt q) e) (zbc _)
theorem HOk.kept(x:HOk P w H h)(k:∀b u,h.get? b=some u->h'.get? b=some u):HOk P w H h':=λa o e=>
 (x a o e).stay (λb u _ q=>k b u q) (λ_ q=>q) λ_ _ q=>q
theorem HOk.laid(x:HOk P w H h)(k:∀b u,h.get? b=some u->h'.get? b=some u)(F:h.objs.size<=a)(new:ObjOk P w (upd H a o) h' a o):HOk P w (upd H a o) h':=λb u e=>by
 have B:=x.fresh F;by_cases z:b=a
 ·subst z;rw[aI]at e;cases e;exact new
 ·rw[aE z]at e
  exact(x b u e).stay (λc v _ q=>k c v q) (λc q=>by rw[aE (aQ q B)];exact q) λc xs q=>by rw[aE (aQ q B)];exact q
end
def Rd(H:Hp)(a:Addr)(u:HO):Prop:=H a=some u\/∃o,H a=some (.frz o u)
theorem Rd.ok(r:Rd H a u)(x:HOk P w H h):ObjOk P w H h a u:=by
 rcases r with r|⟨o,r⟩
 ·exact x a u r
 ·obtain⟨_,q⟩:=x a _ r
  exact q
def XX:Option HO->Prop
 | some (.lst _)=>True
 | some (.dK _)=>True
 | some (.dT _)=>True
 | some (.set _ _)=>True
 | some (.ins _ _ _)=>True
 | some (.ext _)=>True
 | _=>False
section
variable {P:zam}{w:World}{H:Hp}{h h':Heap}{x e:Addr}{o':HO}
theorem HOk.write(ok:HOk P w H h)(N:XX (H x))(Y:e=x\/H e=some (.own x))(k:∀b u,b≠e->h.get? b=some u->h'.get? b=some u)(U:∃u,h'.get? e=some u)
  (new:ObjOk P w (upd H x o') h' x o'):HOk P w (upd H x o') h':=λb u q=>by
 have F:∀c y,H c=some (.own y)->c≠x:=λc y r z=>by subst z;rw[r]at N;exact N
 have G:∀c xs,H c=some (.tup xs)->c≠x:=λc xs r z=>by subst z;rw[r]at N;exact N
 by_cases J:b=x
 ·subst J;rw[aI]at q;cases q;exact new
 ·rw[aE J]at q
  by_cases B:b=e
  ·have W:H b=some (.own x):=by
    rcases Y with z|z
    ·exact absurd (B.trans z) J
    ·rw[B];exact z
   rw[q]at W;cases W;obtain⟨v,hv⟩:=U;exact⟨v,by rw[B];exact hv⟩
  ·refine(ok b u q).stay (λc v M r=>k c v ?_ r) (λc r=>by rw[aE (F c b r)];exact r) λc xs r=>by rw[aE (G c xs r)];exact r
   rcases M with rfl|M
   ·exact B
   ·rintro rfl
    rcases Y with z|z
    ·exact F c b M z
    ·rw[M]at z;cases z;exact J rfl
end
structure Un(fs ex:List Addr)(H H':Hp)(h h':Heap):Prop where
 keep:∀b o,h.get? b=some o->H b=none->b∉fs->b∉ex->h'.get? b=some o
 slot:∀b o,h.get? b=some o->H b=none->b∈fs->b∉ex->∃sl,h'.get? b=some {o with slots:=sl}
 free:∀b o,h.get? b=some o->H b=none->b∉ex->H' b=none
 there:∀b o,h.get? b=some o->b∉ex->∃o',h'.get? b=some o'
 tups:∀b xs,H b=some (.tup xs)->H' b=some (.tup xs)
 frzs:∀b o u,H b=some (.frz o u)->H' b=some (.frz o u)
 tbls:∀b ps,H b=some (.tbl ps)->∃more,H' b=some (.tbl (ps++more))
section
variable {fs fs' ex ex':List Addr}{H H1 H2:Hp}{h h1 h2 h':Heap}{a x e:Addr}{o:HO}
theorem Un.any(u:Un fs ex H H1 h h1)(q:h.get? b=some ob)(n:H b=none)(B:b∉ex):∃F,h1.get? b=some {ob with slots:=F}:=by
 by_cases z:b∈fs
 ·exact u.slot b ob q n z B
 ·exact⟨ob.slots,u.keep b ob q n z B⟩
theorem Un.trans(a:Un fs ex H H1 h h1)(b:Un fs ex H1 H2 h1 h2):Un fs ex H H2 h h2 where
 keep:=λc ob q n F z=>b.keep c ob (a.keep c ob q n F z) (a.free c ob q n z) F z
 slot:=λc ob q n F z=>by
  obtain⟨U,B⟩:=a.slot c ob q n F z;obtain⟨J,G⟩:=b.slot c _ B (a.free c ob q n z) F z;exact⟨J,G⟩
 free:=λc ob q n z=>by
  obtain⟨o',B⟩:=a.there c ob q z;exact b.free c o' B (a.free c ob q n z) z
 there:=λc ob q z=>by
  obtain⟨o',B⟩:=a.there c ob q z;exact b.there c o' B z
 tups:=λc xs q=>b.tups c xs (a.tups c xs q)
 frzs:=λc ob xs q=>b.frzs c ob xs (a.frzs c ob xs q)
 tbls:=λc ps q=>by
  obtain⟨N,B⟩:=a.tbls c ps q;obtain⟨M,G⟩:=b.tbls c _ B;exact⟨N++M,by rw[G,Array.append_assoc]⟩
theorem Un.kept(k:∀b u,h.get? b=some u->h'.get? b=some u):Un fs ex H H h h':=
 ⟨λb ob q _ _ _=>k b ob q,λb ob q _ _ _=>⟨ob.slots,k b ob q⟩,λ_ _ _ n _=>n,λb ob q _=>⟨ob,k b ob q⟩,λ_ _ q=>q,λ_ _ _ q=>q,λ_ ps q=>⟨#[],by rw[q];simp⟩⟩
theorem Un.refl:Un fs ex H H h h:=Un.kept λ_ _ q=>q
theorem Un.laid(k:∀b u,h.get? b=some u->h'.get? b=some u)(B:h.objs.size<=a)(z:H a=none):Un fs ex H (upd H a o) h h' where
 keep:=λb u q _ _ _=>k b u q
 slot:=λb u q _ _ _=>⟨u.slots,k b u q⟩
 free:=λb u q n _=>by rw[aE (zay (zbb (zai q) B))];exact n
 there:=λb u q _=>⟨u,k b u q⟩
 tups:=λb xs q=>by rw[aE (aQ q z)];exact q
 frzs:=λb u xs q=>by rw[aE (aQ q z)];exact q
 tbls:=λb ps q=>⟨#[],by rw[aE (aQ q z),q];simp⟩
theorem Un.write(F:XX (H x))(U:e=x\/H e=some (.own x))(k:∀b u,b≠e->h.get? b=some u->h'.get? b=some u)(G:∃u,h'.get? e=some u):Un fs ex H (upd H x o) h h':=by
 have M:∀b,H b=none->b≠x:=λb n z=>by subst z;rw[n]at F;exact F
 have N:∀b,H b=none->b≠e:=λb n z=>by
  subst z;rcases U with r|r
  ·exact M b n r
  ·rw[n]at r;cases r
 have J:∀b u,H b=some u->¬ XX (some u)->b≠x:=λb u q nm z=>by subst z;rw[q]at F;exact nm F
 refine⟨λb u q n _ _=>k b u (N b n) q,λb u q n _ _=>⟨u.slots,k b u (N b n) q⟩,λb u q n _=>by rw[aE (M b n)];exact n,λb u q _=>?_,
  λb xs q=>by rw[aE (J b _ q λz=>z)];exact q,λb u xs q=>by rw[aE (J b _ q λz=>z)];exact q,λb ps q=>⟨#[],by rw[aE (J b _ q λz=>z),q];simp⟩⟩
 by_cases B:b=e
 ·subst B;exact G
 ·exact⟨u,k b u B q⟩
theorem Un.mono(u:Un fs ex H H1 h h1)(hs:∀b∈fs,b∈fs')(F:∀b∈ex,b∈ex'):Un fs' ex' H H1 h h1:=
 ⟨λb ob q n G B=>u.keep b ob q n (λz=>G (hs b z)) λz=>B (F b z),λ_ _ q n _ B=>u.any q n λz=>B (F _ z),λb ob q n B=>u.free b ob q n λz=>B (F b z),λb ob q B=>u.there b ob q λz=>B (F b z),u.tups,u.frzs,u.tbls⟩
end
def X0(h:Heap)(H:Hp):List Addr:=(zaA h.objs.size).filter λa=>(H a).isSome
def vW(h:Heap)(H:Hp):Heap:=PySem.W.hideAll h (X0 h H)
theorem D6(h:Heap)(H:Hp):(vW h H).objs.size=h.objs.size:=PySem.W.hideAll_size _ _
theorem HK(e:h.get? b=some o)(n:H b=none):(vW h H).get? b=some o:=
 PySem.W.hideAll_get _ e λz=>by
  have q:(H b).isSome=true:=(List.mem_filter.mp z).2;rw[n]at q;simp at q
theorem L5(e:(vW h H).get? b=some o):h.get? b=some o/\H b=none:=by
 have B:h.get? b=some o:=PySem.W.of_hideAll (X0 h H) e;refine⟨B,?_⟩;cases q:H b with
 | none=>rfl
 | some x=>
  have F:b∈X0 h H:=List.mem_filter.mpr ⟨List.mem_range.mpr (zai B),by simp[q]⟩;have z:(vW h H).get? b=none:=PySem.W.hideAll_none (X0 h H) F;rw[z]at e;cases e
noncomputable def LL(g h:Heap)(L:Addr):List (Addr×Obj):=(zaA h.objs.size).filterMap λa=>if a=L\/(g.get? a).isSome=true then none else(h.get? a).map λo=>(a,o)
def rest(g h:Heap)(L d:Addr):List (Addr×Obj):=(LL g h L).filter λp=>decide (p.1≠d)
structure Mod(K:zaf)(mg:Str->Option Value)(base:Heap):Prop where
 kin:K.In base
 glob:base.Ns za2 mg
 blt:∃mb,base.Ns builtinsNs mb/\∀x:Str,x ≠ "__name__" -> mb x=zaM x
 nolimit:base.NoLimit
structure Cx where
 prog:zam
 w:World
 K:zaf
 mg:Str->Option Value
 base:Heap
 A:zar
 N:List Str
 s₀:zab
 H₀:Hp
 env:Env
 outer:List Env
 stack:List Env
 ex:List Addr
 fn:Str->Bool
 calm:Bool
 pn:List (Addr×Obj)
 xe:Value->zab->Prop
noncomputable def frs(l:List Env):List Addr:=l.filterMap (·.frame)
abbrev Cx.fs(X:Cx):List Addr:=frs X.outer
def UY(sc:Scope)(x:Str):Prop:=sc.names.lookup x=some .local\/sc.names.lookup x=some .cell\/sc.names.lookup x=some .free
def Loc(sc:Scope)(x:Str):Prop:=sc.names.lookup x=some .local\/sc.names.lookup x=some .cell
def Look(env:Env)(h:Heap)(m:Str->Option Value)(x:Str)(u:Value):Prop:=
 (env.kindOf x=some .local/\m x=some u)\/((env.kindOf x=some .cell\/env.kindOf x=some .free)/\∃c,env.cells.lookup x=some c/\h.IsCell c (some u))
structure Cx.Ok(X:Cx):Prop where
 mod:Mod X.K X.mg X.base
 kind:X.env.scope.kind=.function
 glob:X.env.globals=za2
 blt:X.env.builtins=builtinsNs
 above:X.s₀.heap.objs.size<=X.env.locals
 inj:∀x y c,X.env.cells.lookup x=some c->X.env.cells.lookup y=some c->x=y
 has:∀x,(X.env.kindOf x=some .cell\/X.env.kindOf x=some .free)->∃c,X.env.cells.lookup x=some c
 cab:∀x c,X.fn x=true->X.env.cells.lookup x=some c->X.s₀.heap.objs.size<=c
 hd:X.calm=true->X.A.handled=none
 frames:X.A.frames=some X.stack
 stk:X.stack=X.outer\/(X.stack=X.env::X.outer/\X.env.frame=some X.env.locals)
 exf:∀b∈X.ex,b≠X.env.locals/\∀x c,X.env.cells.lookup x=some c->c≠b
 bs:∀b o,X.base.get? b=some o->X.s₀.heap.get? b=some o/\X.H₀ b=none
 bsz:X.base.objs.size<=X.s₀.heap.objs.size
 noex:∀b o,X.base.get? b=some o->b∉X.ex
 exfs:∀b∈X.ex,b∉X.fs
 funs:X.s₀.heap.FunFrames X.base X.outer
 frf:∀b∈X.fs,X.H₀ b=none
structure Inv(X:Cx)(pins:List (Addr×Obj))(σ:List (Option V))(H:Hp)(s:zab):Prop where
 ok:X.Ok
 os:s.os=X.s₀.os
 bare:zcc s.gens
 base:Un X.fs X.ex X.H₀ H X.s₀.heap s.heap
 loc:∃m,s.heap.Ns X.env.locals m/\∀(i:Nat) (x:Str) (v:V),X.N[i]?=some x->σ[i]?=some (some v)->UY X.env.scope x->∃u,RelV v u/\Look X.env s.heap m x u
 cell:∀x c,X.env.cells.lookup x=some c->∃v,s.heap.IsCell c v
 free:H X.env.locals=none
 freeC:∀x c,X.env.cells.lookup x=some c->H c=none
 pin:∀p∈X.pn++pins,s.heap.get? p.1=some p.2/\H p.1=none/\p.1≠X.env.locals/\p.1∉X.fs/\∀v,p.2.data≠.cell v
 hok:HOk X.prog X.w H s.heap
 len:σ.length=X.N.length
section
variable {X:Cx}{pins:List (Addr×Obj)}{σ:List (Option V)}{H H':Hp}{s:zab}{h':Heap}
theorem Cx.Ok.nofr(ok:X.Ok)(e:X.base.get? b=some o):b∉X.fs:=λq=>by
 have:=(ok.funs.mem q).1;rw[e]at this;cases this
theorem Inv.bs(I:Inv X pins σ H s):∀b o,X.base.get? b=some o->s.heap.get? b=some o/\H b=none:=λb o e=>
 ⟨I.base.keep b o (I.ok.bs b o e).1 (I.ok.bs b o e).2 (I.ok.nofr e) (I.ok.noex b o e),I.base.free b o (I.ok.bs b o e).1 (I.ok.bs b o e).2 (I.ok.noex b o e)⟩
theorem Inv.bk(I:Inv X pins σ H s):∀b o,X.base.get? b=some o->s.heap.get? b=some o:=λb o e=>(I.bs b o e).1
theorem Inv.mod(I:Inv X pins σ H s):Mod X.K X.mg X.base:=I.ok.mod
theorem Inv.kIn(I:Inv X pins σ H s):X.K.In s.heap:=I.ok.mod.kin.keeps I.bk
theorem Inv.lt(I:Inv X pins σ H s):X.env.locals<s.heap.objs.size:=let ⟨_,hn,_⟩:=I.loc;hn.lt
theorem Inv.sz(I:Inv X pins σ H s):X.s₀.heap.objs.size<=s.heap.objs.size:=zbd I.ok.above (zdK I.lt)
theorem Inv.nofs(I:Inv X pins σ H s)(h:s.heap.objs.size<=a):a∉X.fs:=λz=>by
 obtain⟨_,o,q,_⟩:=I.ok.funs.mem z;exact absurd (zbb (zai q) (zbd I.sz h)) (zbc _)
theorem Inv.cne(I:Inv X pins σ H s):∀x c,X.env.cells.lookup x=some c->c≠X.env.locals:=λx c e z=>by
 obtain⟨v,o,F,G⟩:=I.cell x c e;obtain⟨m,⟨o',es,ep,B,q,_⟩,_⟩:=I.loc;rw[z,B]at F;cases F;rw[q]at G;cases G
theorem Inv.funs(I:Inv X pins σ H s):s.heap.FunFrames X.base X.outer:=by
 have all:∀(l:List Env),(∀b∈frs l,b∈X.fs)->X.s₀.heap.FunFrames X.base l->s.heap.FunFrames X.base l:=by
  intro l;induction l with
  | nil=>intro _ _;trivial
  | cons env r ih=>
   intro hs U;obtain⟨M,⟨L,o,F,W,G,J⟩,N⟩:=U;have q:L∈X.fs:=hs L (by unfold frs;rw[zeR,F];exact zas);obtain⟨Y,e⟩:=I.base.slot L o G (I.ok.frf L q) q λz=>I.ok.exfs L z q
   exact⟨M,⟨L,_,F,W,e,J⟩,ih (λb B=>hs b (by unfold frs;rw[zeR,F];exact zav _ B)) N⟩
 exact all X.outer (λ_ B=>B) I.ok.funs
theorem Inv.stack(I:Inv X pins σ H s):s.heap.FunFrames X.base X.stack:=by
 rcases I.ok.stk with e|⟨e,z⟩
 ·rw[e];exact I.funs
 ·rw[e]
  obtain⟨m,q,_⟩:=I.loc;refine .cons (by rw[I.ok.kind];decide) z q ?_ I.funs;exact Heap.get?_none_of_le (zbd I.ok.bsz I.ok.above)
theorem Inv.stkSub(I:Inv X pins σ H s):∀b∈frs X.stack,b∈X.env.locals::X.fs:=λb q=>by
 rcases I.ok.stk with e|⟨e,z⟩
 ·rw[e]at q;exact zav _ q
 ·rw[e]at q
  unfold frs at q;rw[zeR,z]at q;exact q
theorem Inv.stkFree(I:Inv X pins σ H s):∀b∈frs X.stack,H b=none:=λb q=>by
 rcases List.mem_cons.mp (I.stkSub b q)with e|q
 ·rw[e];exact I.free
 ·obtain⟨_,o,B,_⟩:=I.ok.funs.mem q
  exact I.base.free b o B (I.ok.frf b q) λz=>I.ok.exfs b z q
theorem Inv.step{g':Array GenState}{t':Nat}{d':Drawn}{ch:List Addr}(I:Inv X pins σ H s)
  (J:∀b∈ch,(b∈X.ex\/X.s₀.heap.objs.size<=b)/\b≠X.env.locals/\(∀x c,X.env.cells.lookup x=some c->c≠b)/\∀p∈X.pn++pins,p.1≠b)
  (keep:∀b o,b≠X.env.locals->b∉X.fs->b∉ch->s.heap.get? b=some o->H b=none->h'.get? b=some o)
  (U:∀b o,b≠X.env.locals->b∈X.fs->b∉ch->s.heap.get? b=some o->H b=none->∃sl,h'.get? b=some {o with slots:=sl}) (free:∀b o,b∉ch->s.heap.get? b=some o->H b=none->H' b=none)
  (there:∀b o,b∉ch->s.heap.get? b=some o->∃o',h'.get? b=some o')
  (ab:∀b xs,H b=some (.tup xs)->H' b=some (.tup xs)) (aa:∀b o u,H b=some (.frz o u)->H' b=some (.frz o u)) (ae:∀b ps,H b=some (.tbl ps)->∃more,H' b=some (.tbl (ps++more)))
  (ns:∀m,s.heap.Ns X.env.locals m->h'.Ns X.env.locals m) (ag:HOk X.prog X.w H' h') (hg:zcc g') :
  Inv X pins σ H' {s with heap:=h',gens:=g',drawn:=d',toks:=t'}:=by
 have ad:∀b o,X.s₀.heap.get? b=some o->b≠X.env.locals:=λb o e=>zay (zbb (zai e) I.ok.above)
 have M:∀b o,X.s₀.heap.get? b=some o->b∉X.ex->b∉ch:=λb o e B W=>by
  rcases(J b W).1 with z|z
  ·exact B z
  ·exact absurd (zbb (zai e) z) (zbc _)
 have F:∀x c,X.env.cells.lookup x=some c->∀v,s.heap.IsCell c v->h'.IsCell c v:=by
  rintro x c e v ⟨o,Y,hd⟩;have G:c∉ch:=λz=>(J c z).2.2.1 x c e rfl
  by_cases hc:c∈X.fs
  ·obtain⟨sl,q⟩:=U c o (I.cne x c e) hc G Y (I.freeC x c e)
   exact⟨_,q,hd⟩
  ·exact⟨o,keep c o (I.cne x c e) hc G Y (I.freeC x c e),hd⟩
 refine⟨I.ok,I.os,hg,⟨λb o e n W B=>?_,λb o e n W B=>?_,λb o e n B=>?_,λb o e B=>?_,λb xs e=>ab b xs (I.base.tups b xs e),λb o xs e=>aa b o xs (I.base.frzs b o xs e),λb ps e=>?_⟩,?_,λx c e=>?_,?_,λx c e=>?_,λp hp=>?_,ag,I.len⟩
 ·exact keep b o (ad b o e) W (M b o e B) (I.base.keep b o e n W B) (I.base.free b o e n B)
 ·obtain⟨sl,N⟩:=I.base.slot b o e n W B
  obtain⟨ai,e2⟩:=U b _ (ad b o e) W (M b o e B) N (I.base.free b o e n B);exact⟨ai,e2⟩
 ·obtain⟨o',N⟩:=I.base.there b o e B
  exact free b o' (M b o e B) N (I.base.free b o e n B)
 ·obtain⟨o',N⟩:=I.base.there b o e B
  exact there b o' (M b o e B) N
 ·obtain⟨m1,N⟩:=I.base.tbls b ps e
  obtain⟨m2,e2⟩:=ae b _ N;exact⟨m1++m2,by rw[e2,Array.append_assoc]⟩
 ·obtain⟨m,hn,hl⟩:=I.loc
  refine⟨m,ns m hn,λi x v N e2 e3=>?_⟩;obtain⟨u,r,l⟩:=hl i x v N e2 e3;refine⟨u,r,?_⟩;rcases l with l|⟨k,c,e,z⟩
  ·exact .inl l
  ·exact .inr ⟨k,c,e,F x c e _ z⟩
 ·obtain⟨v,z⟩:=I.cell x c e
  exact⟨v,F x c e v z⟩
 ·obtain⟨m,⟨o,_,_,Y,_⟩,_⟩:=I.loc
  exact free _ o (λz=>(J _ z).2.1 rfl) Y I.free
 ·obtain⟨v,o,Y,hd⟩:=I.cell x c e
  exact free c o (λz=>(J c z).2.2.1 x c e rfl) Y (I.freeC x c e)
 ·obtain⟨e,n,ne,nf,d⟩:=I.pin p hp
  have G:p.1∉ch:=λz=>(J p.1 z).2.2.2 p hp rfl
  exact⟨keep p.1 p.2 ne nf G e n,free p.1 p.2 G e n,ne,nf,d⟩
theorem Inv.un{t':Nat}(I:Inv X pins σ H s)(u:Un X.fs [] H H' s.heap h')(B:HOk X.prog X.w H' h'):Inv X pins σ H' {s with heap:=h',toks:=t'}:=by
 obtain⟨m,⟨o,es,ep,M,r⟩,_⟩:=id I.loc;obtain⟨Y,N⟩:=u.any M I.free (by simp);exact I.step (g':=s.gens) (d':=s.drawn) (ch:=[]) (λ_ z=>nomatch z) (λb o _ F _ e n=>u.keep b o e n F (by simp)) (λb o _ F _ e n=>u.slot b o e n F (by simp)) (λb o _ e n=>u.free b o e n (by simp)) (λb o _ e=>u.there b o e (by simp)) u.tups u.frzs u.tbls (λm' W=>by
  obtain⟨o',G,J,q,U⟩:=W;rw[M]at q;cases q;exact⟨_,G,J,N,U⟩) B I.bare
theorem Inv.call{g':Array GenState}{t':Nat}{d':Drawn}{ch:List Addr}(I:Inv X pins σ H s)(u:Un (frs X.stack) ch H H' s.heap h')(G:HOk X.prog X.w H' h')(hg:zcc g')
  (F:∀b∈ch,(b∈X.ex\/X.s₀.heap.objs.size<=b)/\b≠X.env.locals/\(∀x c,X.env.cells.lookup x=some c->c≠b)/\∀p∈X.pn++pins,p.1≠b) :
  Inv X pins σ H' {s with heap:=h',gens:=g',drawn:=d',toks:=t'}:=by
 obtain⟨m,⟨o,es,ep,U,r⟩,_⟩:=id I.loc;obtain⟨sl,J⟩:=u.any U I.free λz=>(F _ z).2.1 rfl
 exact I.step (ch:=ch) F (λb o J W q e n=>u.keep b o e n (λz=>(List.mem_cons.mp (I.stkSub b z)).elim J W) q) (λb o _ _ q e n=>u.any e n q) (λb o q e n=>u.free b o e n q) (λb o q e=>u.there b o e q) u.tups u.frzs u.tbls (λm' hm=>by
  obtain⟨o',M,N,B,Y⟩:=hm;rw[U]at B;cases B;exact⟨_,M,N,J,Y⟩) G hg
theorem Inv.turned{t':Nat}{it:Addr}(I:Inv X pins σ H s)(k:∀b o,b≠it->s.heap.get? b=some o->h'.get? b=some o)(U:H it=none)(G:it≠X.env.locals)
  (h1:it∈X.ex\/X.s₀.heap.objs.size<=it) (h2:∀x c,X.env.cells.lookup x=some c->c≠it) (N:∀p∈X.pn++pins,p.1≠it):Inv X pins σ H {s with heap:=h',toks:=t'}:=by
 have F:∀b u,H b=some u->b≠it:=λb u e z=>by rw[z,U]at e;cases e
 refine I.step (g':=s.gens) (d':=s.drawn) (ch:=[it]) (λb M=>?_) (λb o _ _ B e _=>k b o (λz=>B (by simp[z])) e) (λb o _ _ B e _=>⟨o.slots,k b o (λz=>B (by simp[z])) e⟩) (λ_ _ _ _ n=>n)
  (λb o B e=>⟨o,k b o (λz=>B (by simp[z])) e⟩) (λ_ _ e=>e) (λ_ _ _ e=>e) (λb ps e=>⟨#[],by rw[e];simp⟩) (λm W=>?_) (λb u e=>?_) I.bare
 ·have e:b=it:=by simpa using M
  subst e;exact⟨h1,G,h2,N⟩
 ·obtain⟨o,es,ep,J,r⟩:=W
  exact⟨o,es,ep,k _ o (zaR G) J,r⟩
 ·refine(I.hok b u e).stay (λc v B q=>k c v ?_ q) (λ_ q=>q) λ_ _ q=>q
  rcases B with z|z
  ·rw[z];exact F b u e
  ·exact F c _ z
theorem Inv.tok(I:Inv X pins σ H s)(t:Nat):Inv X pins σ H {s with toks:=t}:=I.un (h':=s.heap) (t':=t) Un.refl I.hok
theorem Inv.kept(I:Inv X pins σ H s)(k:∀b u,s.heap.get? b=some u->h'.get? b=some u):Inv X pins σ H {s with heap:=h',toks:=t'}:=I.un (Un.kept k) (I.hok.kept k)
theorem Inv.laid(I:Inv X pins σ H s)(k:∀b u,s.heap.get? b=some u->h'.get? b=some u)(q:s.heap.objs.size<=a)(new:ObjOk X.prog X.w (upd H a o) h' a o) :
  Inv X pins σ (upd H a o) {s with heap:=h',toks:=t'}:=I.un (Un.laid k q (I.hok.fresh q)) (I.hok.laid k q new)
theorem Inv.write(I:Inv X pins σ H s)(B:XX (H x))(z:e=x\/H e=some (.own x))(k:∀b u,b≠e->s.heap.get? b=some u->h'.get? b=some u)(q:∃u,h'.get? e=some u)
  (new:ObjOk X.prog X.w (upd H x o) h' x o):Inv X pins σ (upd H x o) {s with heap:=h',toks:=t'}:=I.un (Un.write B z k q) (I.hok.write B z k q new)
theorem Inv.pins_of(I:Inv X pins σ H s)(h:∀p∈pins',s.heap.get? p.1=some p.2/\H p.1=none/\p.1≠X.env.locals/\p.1∉X.fs/\∀v,p.2.data≠.cell v):Inv X pins' σ H s:=
 ⟨I.ok,I.os,I.bare,I.base,I.loc,I.cell,I.free,I.freeC,λp q=>(List.mem_append.mp q).elim (λz=>I.pin p (zdh _ z)) (h p),I.hok,I.len⟩
theorem x9{N:List Str}(q:N.Nodup){i j:Nat}{x:Str}(a:N[i]?=some x)(b:N[j]?=some x):i=j:=by
 obtain⟨h1,z⟩:=List.getElem?_eq_some_iff.mp a;obtain⟨h2,B⟩:=List.getElem?_eq_some_iff.mp b;exact(zdi q).mp (z.trans B.symm)
theorem tP{M:Model}{A:zar}{E:Value->zab->Prop}{i:Nat}{x:Str}{v:V}{u:Value}{Q:Unit->zab->Prop}(I:Inv X pins σ H s)(hN:X.N.Nodup)(hi:X.N[i]?=some x)(J:Loc X.env.scope x)(r:RelV v u)
  (h:∀s',Inv X pins (σ.set i (some v)) H s'->(∃a,zaS a s.heap s'.heap/\(a=X.env.locals\/X.env.cells.lookup x=some a))->Q () s') (hf:X.fn x=true\/X.env.scope.names.lookup x=some .local:=by first|exact .inl rfl|exact .inr rfl|assumption):wpAny M A (storeName X.env x u) Q E s:=by
 obtain⟨m,hn,hl⟩:=id I.loc;have ag:(X.env.scope.kind == .class || (X.env.scope.kind == .module && X.env.locals != X.env.globals))=false:=by rw[I.ok.kind];rfl
 have Y:i<σ.length:=by rw[I.len];exact(List.getElem?_eq_some_iff.mp hi).1
 have cne:=I.cne;have F:∀ {a:Addr} {h':Heap},(∃o,s.heap.get? a=some o/\H a=none)->zaS a s.heap h'->HOk X.prog X.w H h':=λ{a h'} ha hs b ob e=>by
  obtain⟨_,_,U⟩:=ha;refine(I.hok b ob e).stay (λc w' G q=>(hs.2 c ?_).trans q) (λ_ q=>q) λ_ _ q=>q
  rintro rfl;rcases G with rfl|G
  ·rw[U]at e;cases e
  ·rw[U]at G;cases G
 rcases J with hk|hk
 ·refine wpAny_storeName_local hk hn (λh' an hs=>?_) ag
  obtain⟨oL,_,_,am,_⟩:=id hn;refine h _ ⟨I.ok,I.os,I.bare,⟨λb o e n hb J=>?_,λb o e n hb J=>?_,I.base.free,λb o e J=>?_,I.base.tups,I.base.frzs,I.base.tbls⟩,⟨_,an,λj y v' B W e3=>?_⟩,λy c e=>?_,I.free,I.freeC,λp hp=>?_,F ⟨oL,am,I.free⟩ hs,by simpa using I.len⟩ ⟨_,hs,.inl rfl⟩
  ·exact(hs.2 b (zay (zbb (zai e) I.ok.above))).trans (I.base.keep b o e n hb J)
  ·obtain⟨sl,B⟩:=I.base.slot b o e n hb J
   exact⟨sl,(hs.2 b (zay (zbb (zai e) I.ok.above))).trans B⟩
  ·obtain⟨o',B⟩:=I.base.there b o e J
   exact⟨o',(hs.2 b (zay (zbb (zai e) I.ok.above))).trans B⟩
  ·by_cases hj:j=i
   ·subst hj
    rw[hi]at B;cases B;rw[List.getElem?_set_self Y]at W;cases W;exact⟨u,r,.inl ⟨hk,by simp⟩⟩
   ·rw[zdL (zaR hj)]at W
    obtain⟨u',r',q⟩:=hl j y v' B W e3;refine⟨u',r',?_⟩;rcases q with⟨k,e⟩|⟨k,c,e,z⟩
    ·refine .inl ⟨k,?_⟩
     have:y≠x:=λe=>hj (x9 hN B (e ▸ hi))
     simp[this,e]
    ·exact .inr ⟨k,c,e,z.sameBut hs (cne y c e)⟩
  ·obtain⟨w',z⟩:=I.cell y c e
   exact⟨w',z.sameBut hs (cne y c e)⟩
  ·obtain⟨e,n,ne,nf,d⟩:=I.pin p hp
   exact⟨(hs.2 p.1 ne).trans e,n,ne,nf,d⟩
 ·have ab:X.fn x=true:=by
   rcases hf with z|z
   ·exact z
   ·rw[z]at hk;cases hk
  obtain⟨c,G⟩:=I.ok.has x (.inl hk);obtain⟨w',z⟩:=I.cell x c G;refine wpAny_storeName_cell I.ok.kind hk G z (λh' ae hs=>?_);obtain⟨oc,af,ah⟩:=id z;refine h {s with heap:=h'} ⟨I.ok,I.os,I.bare,⟨λb o e n hb J=>?_,λb o e n hb J=>?_,I.base.free,λb o e J=>?_,I.base.tups,I.base.frzs,I.base.tbls⟩,⟨m,hn.sameBut hs (zaR (cne x c G)),λj y v' B W e3=>?_⟩,λy c' e=>?_,I.free,I.freeC,λp hp=>?_,F ⟨oc,af,I.freeC x c G⟩ hs,by simpa using I.len⟩ ⟨c,hs,.inr G⟩
  ·exact(hs.2 b (zay (zbb (zai e) (I.ok.cab x c ab G)))).trans (I.base.keep b o e n hb J)
  ·obtain⟨sl,B⟩:=I.base.slot b o e n hb J
   exact⟨sl,(hs.2 b (zay (zbb (zai e) (I.ok.cab x c ab G)))).trans B⟩
  ·obtain⟨o',B⟩:=I.base.there b o e J
   exact⟨o',(hs.2 b (zay (zbb (zai e) (I.ok.cab x c ab G)))).trans B⟩
  ·by_cases hj:j=i
   ·subst hj
    rw[hi]at B;cases B;rw[List.getElem?_set_self Y]at W;cases W;exact⟨u,r,.inr ⟨.inl hk,c,G,ae⟩⟩
   ·rw[zdL (zaR hj)]at W
    obtain⟨u',r',q⟩:=hl j y v' B W e3;refine⟨u',r',?_⟩;rcases q with q|⟨k,c',e,z'⟩
    ·exact .inl q
    ·refine .inr ⟨k,c',e,z'.sameBut hs ?_⟩
     rintro rfl;exact hj (x9 hN B (I.ok.inj _ _ _ e G ▸ hi))
  ·by_cases ai:c'=c
   ·subst ai;exact⟨_,ae⟩
   ·obtain⟨w2,z2⟩:=I.cell y c' e
    exact⟨w2,z2.sameBut hs ai⟩
  ·obtain⟨e,n,ne,nf,d⟩:=I.pin p hp
   refine⟨(hs.2 p.1 ?_).trans e,n,ne,nf,d⟩;intro q;rw[q,af]at e;have q':oc=p.2:=zaI e;exact d w' (by rw[<- q'];exact ah)
theorem yO(I:Inv X pins σ H s)(q:X.N.Nodup)(hi:X.N[i]?=some x)(z:Loc X.env.scope x)(r:RelV v u)
  (h:∀s',Inv X pins (σ.set i (some v)) H s'->Q () s') (B:X.fn x=true\/X.env.scope.names.lookup x=some .local:=by first|exact .inl rfl|exact .inr rfl|assumption):wpAny M A (storeName X.env x u) Q E s:=
 tP I q hi z r (λs' F _=>h s' F) B
theorem Inv.call'(I:Inv X pins σ H s)(B:s'.os=s.os)(u:Un (frs X.stack) ch H H' s.heap s'.heap)(z:HOk X.prog X.w H' s'.heap)(F:zcc s'.gens)
  (q:∀b∈ch,(b∈X.ex\/X.s₀.heap.objs.size<=b)/\b≠X.env.locals/\(∀x c,X.env.cells.lookup x=some c->c≠b)/\∀p∈X.pn++pins,p.1≠b):Inv X pins σ H' s':=by
 obtain⟨h',g',d',t',o'⟩:=s';have e:o'=s.os:=B;subst e;exact I.call (g':=g') (t':=t') (d':=d') u z F q
end
abbrev XK:=Value->Option Addr->Hp->Prop
abbrev St:=List (Option V)
abbrev VK:=V->Hp->Prop
abbrev TE:=St->Hp->VK->Prop
abbrev TT:=St->Hp->(Bool->Hp->Prop)->Prop
abbrev TA:=St->Hp->(List V->Hp->Prop)->Prop
structure Ends where
 nx:St->Hp->Prop
 rt:VK
 bk:St->Hp->Prop:=λ_ _=>False
 ct:St->Hp->Prop:=λ_ _=>False
abbrev TS:=Ends->St->Hp->Prop
inductive EP(X:Cx)(pins:List (Addr×Obj))(σ:St)(Q:VK)(u:Value)(s':zab):Prop
 | mk (v:V) (H':Hp) (i:Inv X pins σ H' s') (r:RelV v u) (q:Q v H'):EP X pins σ Q u s'
inductive TP(X:Cx)(pins:List (Addr×Obj))(σ:St)(Q:Bool->Hp->Prop)(b:Bool)(s':zab):Prop
 | mk (H':Hp) (i:Inv X pins σ H' s') (q:Q b H'):TP X pins σ Q b s'
inductive AP(X:Cx)(pins:List (Addr×Obj))(σ:St)(Q:List V->Hp->Prop)(us:List Value)(s':zab):Prop
 | mk (vs:List V) (H':Hp) (i:Inv X pins σ H' s') (r:Vals vs us) (q:Q vs H'):AP X pins σ Q us s'
def SP(X:Cx)(pins:List (Addr×Obj))(D:Ends)(f:Flow)(s':zab):Prop:=
 match f with
 | .next=>∃σ' H',Inv X pins σ' H' s'/\D.nx σ' H'
 | .brk=>∃σ' H',Inv X pins σ' H' s'/\D.bk σ' H'
 | .cont=>∃σ' H',Inv X pins σ' H' s'/\D.ct σ' H'
 | .ret u=>∃v σ' H',Inv X pins σ' H' s'/\RelV v u/\D.rt v H'
def PE(X:Cx)(e:Expr)(t:TE):Prop:=
 ∀(pins:List (Addr×Obj)) (s:zab) (σ:St) (H:Hp) (Q:VK),Inv X pins σ H s->t σ H Q->wpAny (model X.prog X.w) X.A (eval e X.env) (EP X pins σ Q) X.xe s
def PT(X:Cx)(e:Expr)(t:TT):Prop:=
 ∀(pins:List (Addr×Obj)) (s:zab) (σ:St) (H:Hp) (Q:Bool->Hp->Prop),Inv X pins σ H s->t σ H Q->wpAny (model X.prog X.w) X.A (isTrue e X.env (eval e X.env)) (TP X pins σ Q) X.xe s
def PW(X:Cx)(e:Expr)(t:TT):Prop:=
 ∀(whole:Sem Value) (pins:List (Addr×Obj)) (s:zab) (σ:St) (H:Hp) (Q:Bool->Hp->Prop),Inv X pins σ H s->t σ H Q->wpAny (model X.prog X.w) X.A (isTrue e X.env whole) (TP X pins σ Q) X.xe s
theorem PW.pt{X:Cx}{e:Expr}{t:TT}(h:PW X e t):PT X e t:=h _
def PA(X:Cx)(es:List Expr)(t:TA):Prop:=
 ∀(pos:Pos) (pins:List (Addr×Obj)) (s:zab) (σ:St) (H:Hp) (Q:List V->Hp->Prop),Inv X pins σ H s->t σ H Q->wpAny (model X.prog X.w) X.A (spliced (zaJ pos (zah es X.env))) (AP X pins σ Q) X.xe s
def PS(X:Cx)(st:Stmt)(t:TS):Prop:=
 ∀(pins:List (Addr×Obj)) (s:zab) (σ:St) (H:Hp) (D:Ends),Inv X pins σ H s->t D σ H->wpAny (model X.prog X.w) X.A (exec st X.env) (SP X pins D) X.xe s
def PSs(X:Cx)(st:List Stmt)(t:TS):Prop:=
 ∀(pins:List (Addr×Obj)) (s:zab) (σ:St) (H:Hp) (D:Ends),Inv X pins σ H s->t D σ H->wpAny (model X.prog X.w) X.A (execs st X.env) (SP X pins D) X.xe s
theorem bL{z:Type}{t:Sem z}{Q q:z->zab->Prop}{M:Model}{A:zar}{E:Value->zab->Prop}{s:zab}(h:wpAny M A t Q E s)(B:∀a s,Q a s->q a s):wpAny M A t q E s:=za8 h B λ_ _ x=>x
section
variable {X:Cx}
def sJ(i:Nat):TE:=λσ H Q=>∃v,σ[i]?=some (some v)/\Q v H
def tC(v:V):TE:=λ_ H Q=>Q v H
theorem TH(M:X.N[i]?=some x)(U:UY X.env.scope x)(B:(x == ("__debug__" : Str))=false:=by decide)(F:(x == ("__classdict__" : Str))=false:=by decide):PE X (.Name x pos) (sJ i):=by
 intro pins s σ H Q I h;obtain⟨v,e,h⟩:=h;obtain⟨m,W,J⟩:=I.loc;obtain⟨u,r,l⟩:=J i x v M e U;have fin:EP X pins σ Q u s:=⟨v,H,I,r,h⟩;rcases l with⟨z,Y⟩|⟨z,c,G,q⟩
 ·exact wpAny_Name (wpAny_loadName_local I.ok.kind z W Y fin) B
 ·rcases z with z|z
  ·exact wpAny_Name (wpAny_loadName_cell I.ok.kind z G q fin) B
  ·exact wpAny_Name (wpAny_loadName_free I.ok.kind z G q fin F) B
theorem UD{i j pos}:PE X (.Constant (.int i) j pos) (tC (.int i)):=λ_ _ _ H _ I h=>wpAny_Constant_int ⟨.int i,H,I.tok _,⟨_,rfl⟩,h⟩
theorem V8{b j pos}:PE X (.Constant (.bool b) j pos) (tC (.bl b)):=λ_ _ _ H _ I h=>Constant_bool ⟨.bl b,H,I,rfl,h⟩
theorem TK{j pos}:PE X (.Constant .none j pos) (tC .non):=λ_ _ _ H _ I h=>Constant_none ⟨.non,H,I,rfl,h⟩
theorem SI{x j pos}:PE X (.Constant (.str x) j pos) (tC (.str x)):=λ_ _ _ H _ I h=>Calls.Constant_str ⟨.str x,H,I.tok _,⟨_,rfl⟩,h⟩
def Gl(X:Cx)(x:Str):Prop:=X.env.kindOf x=some .globalImplicit
theorem CN(I:Inv X pins σ H s)(z:Gl X x)(B:X.mg x=some u)(h:Q u s)
  (q:(x == ("__debug__" : Str))=false:=by decide):wpAny (model X.prog X.w) X.A (eval (.Name x pos) X.env) Q E s:=
 Calls.Name_function_global I.ok.kind z (Calls.loadGlobal_global (by rw[I.ok.glob];exact I.mod.glob.keeps I.bk) B h) q
theorem eW{E:Value->zab->Prop}{pins:List (Addr×Obj)}{s:zab}{σ:St}{H:Hp}{x:Str}{u:Value}{pos:Pos}{Q:Value->zab->Prop}(I:Inv X pins σ H s)(B:Gl X x)(G:X.mg x=none)(z:zaM x=some u)(h:Q u s)
  (F:x ≠ "__name__" := by decide) (q:(x == ("__debug__" : Str))=false:=by decide):wpAny (model X.prog X.w) X.A (eval (.Name x pos) X.env) Q E s:=by
 obtain⟨J,h1,h2⟩:=I.mod.blt;exact Calls.Name_function_global I.ok.kind B (Calls.loadGlobal_builtin (by rw[I.ok.glob];exact I.mod.glob.keeps I.bk) G (by rw[I.ok.blt];exact h1.keeps I.bk) ((h2 x F).trans z) h) q
theorem C3(z:Gl X x)(B:X.mg x=some u)(r:RelV v u)(q:(x == ("__debug__" : Str))=false:=by decide):PE X (.Name x pos) (tC v):=
 λ_ _ _ H _ I h=>CN I z B ⟨v,H,I,r,h⟩ q
theorem L8(B:Gl X x)(G:X.mg x=none)(z:zaM x=some u)(r:RelV v u)(F:x ≠ "__name__" := by decide)(q:(x == ("__debug__" : Str))=false:=by decide):PE X (.Name x pos) (tC v):=
 λ_ _ _ H _ I h=>eW I B G z ⟨v,H,I,r,h⟩ F q
variable {a b:Expr}{ta tb:TE}{pos:Pos}
def tB(t:TE):TT:=λσ H Q=>t σ H λx H1=>∃c,x=.bl c/\Q c H1
theorem Q5{e:Expr}{t:TE}(h:PE X e t)(G:∀z,isTrue e X.env z=(do let v <- z;standAt e.pos;zco [v] (truthy v)):=by intro _;rfl):PT X e (tB t):=by
 intro pins s σ H Q I hw;refine isTrue_plain (bL (h pins s σ H _ I hw) λv M ⟨x,H1,B,F,J⟩=>?_) (G _);obtain⟨d,rfl,q⟩:=J;cases F;exact zbx ⟨H1,B,q⟩
variable {tA tB':TT}{rest:List Expr}
def Y1(t u:TT):TT:=λσ H Q=>t σ H λc H1=>if c=true then u σ H1 Q else Q false H1
def tOr(t u:TT):TT:=λσ H Q=>t σ H λc H1=>if c=true then Q true H1 else u σ H1 Q
def Y5(t:TT):TT:=λσ H Q=>t σ H λc H1=>Q (!c) H1
theorem LX(q:PT X a tA):PW X (.BoolOp .And [a] pos) tA:=by
 intro B pins s σ H Q I h;refine isTrue_and (bL (q pins s σ H Q I h) λc z e=>?_);cases c with
 | true=>exact isTrue_and_nil e
 | false=>exact e
theorem Q3(q:PT X a tA):PW X (.BoolOp .Or [a] pos) tA:=by
 intro B pins s σ H Q I h;refine isTrue_or (bL (q pins s σ H Q I h) λc z e=>?_);cases c with
 | false=>exact isTrue_or_nil e
 | true=>exact e
theorem Q4(G:PT X a tA)(F:PW X (.BoolOp .And (b::rest) pos) tB'):PW X (.BoolOp .And (a::b::rest) pos) (Y1 tA tB'):=by
 intro J pins s σ H Q I h;refine isTrue_and (bL (G pins s σ H _ I h) λc B ⟨H1,q,z⟩=>?_);cases c with
 | true=>exact F J pins B σ H1 Q q z
 | false=>exact⟨H1,q,z⟩
theorem WA(G:PT X a tA)(F:PW X (.BoolOp .Or (b::rest) pos) tB'):PW X (.BoolOp .Or (a::b::rest) pos) (tOr tA tB'):=by
 intro J pins s σ H Q I h;refine isTrue_or (bL (G pins s σ H _ I h) λc B ⟨H1,q,z⟩=>?_);cases c with
 | true=>exact⟨H1,q,z⟩
 | false=>exact F J pins B σ H1 Q q z
theorem Q2(z:PT X a tA):PT X (.UnaryOp .Not a pos) (Y5 tA):=by
 intro pins s σ H Q I h;exact isTrue_not (bL (z pins s σ H (λc H1=>Q (!c) H1) I h) λ_ _ ⟨H',i,q⟩=>⟨H',i,q⟩)
def VJ(ta tb:TE):TE:=λσ H Q=>ta σ H λx H1=>∃c,x=.bl c/\if c=true then tb σ H1 Q else Q (.bl false) H1
def YX(ta tb:TE):TE:=λσ H Q=>ta σ H λx H1=>∃c,x=.bl c/\if c=true then Q (.bl true) H1 else tb σ H1 Q
def WK(ta:TE):TE:=λσ H Q=>ta σ H λx H1=>∃c,x=.bl c/\Q (.bl (!c)) H1
theorem RF{op}(h:PE X a t):PE X (.BoolOp op [a] pos) t:=λpins s σ H Q I hw=>BoolOp_one (h pins s σ H Q I hw)
theorem S6(G:PE X a ta)(F:PE X (.BoolOp .And (b::rest) pos) tb):PE X (.BoolOp .And (a::b::rest) pos) (VJ ta tb):=by
 intro pins s σ H Q I h;refine BoolOp_and (bL (G pins s σ H _ I h) λv B ⟨x,H1,z,J,q⟩=>?_);obtain⟨c,rfl,q⟩:=q;cases J;refine zbx ?_;cases c with
 | true=>exact F pins B σ H1 Q z q
 | false=>exact⟨.bl false,H1,z,rfl,q⟩
theorem WE(G:PE X a ta)(F:PE X (.BoolOp .Or (b::rest) pos) tb):PE X (.BoolOp .Or (a::b::rest) pos) (YX ta tb):=by
 intro pins s σ H Q I h;refine BoolOp_or (bL (G pins s σ H _ I h) λv B ⟨x,H1,z,J,q⟩=>?_);obtain⟨c,rfl,q⟩:=q;cases J;refine zbx ?_;cases c with
 | false=>exact F pins B σ H1 Q z q
 | true=>exact⟨.bl true,H1,z,rfl,q⟩
theorem SS(B:PE X a ta):PE X (.UnaryOp .Not a pos) (WK ta):=by
 intro pins s σ H Q I h;refine UnaryOp_ (bL (B pins s σ H _ I h) λv G ⟨x,H1,z,F,q⟩=>?_);obtain⟨c,rfl,q⟩:=q;cases F;exact not_of (zbx ⟨.bl (!c),H1,z,rfl,q⟩)
def tIf(t:TT)(ta tb:TE):TE:=λσ H Q=>t σ H λc H1=>if c=true then ta σ H1 Q else tb σ H1 Q
theorem HD{c:Expr}(J:PT X c tA)(G:PE X a ta)(F:PE X b tb):PE X (.IfExp c a b pos) (tIf tA ta tb):=by
 intro pins s σ H Q I h;refine wpAny_IfExp (bL (J pins s σ H _ I h) λd q ⟨H1,z,B⟩=>?_);cases d with
 | true=>exact G pins q σ H1 Q z B
 | false=>exact F pins q σ H1 Q z B
end
def SqL(K:zaf)(H:Hp)(a:Addr)(xs:List V):Prop:=
 Rd H a (.lst xs) \/
  ∃(o:Obj) (its:Array Value) (n:Nat),K.lookup a=some o/\o.cls=.type "list" /\ o.dict=none/\o.data=.seq its n/\its.size<=zaj/\Vals xs its.toList
def SqT(K:zaf)(H:Hp)(a:Addr)(xs:List V):Prop:=
 Rd H a (.tup xs) \/
  ∃(o:Obj) (its:Array Value) (n:Nat),K.lookup a=some o/\o.cls=.type "tuple" /\ o.data=.seq its n/\its.size<=zaj/\Vals xs its.toList
noncomputable def ZR:Value->Option V
 | .none=>some .non
 | .bool b=>some (.bl b)
 | .int i _=>some (.int i)
 | .str x _=>some (.str x)
 | .bytes b _=>some (.byt b)
 | .float b _=>some (.flt b)
 | .ref a=>some (.ref a)
 | .type n=>some (.ty n)
 | _=>none
theorem RelV.abs(r:RelV x u):ZR u=some x:=by
 cases x with
 | non=>cases r;rfl
 | bl _=>cases r;rfl
 | int _=>obtain⟨t,rfl⟩:=r;rfl
 | str _=>obtain⟨t,rfl⟩:=r;rfl
 | byt _=>obtain⟨t,rfl⟩:=r;rfl
 | flt _=>obtain⟨t,rfl⟩:=r;rfl
 | ref _=>cases r;rfl
 | ty _=>cases r;rfl
theorem RelV.inj(r:RelV x u)(q:RelV y u):x=y:=zaI (r.abs.symm.trans q.abs)
theorem Vals.inj:∀ {xs ys:List V} {us:List Value},Vals xs us->Vals ys us->xs=ys
 | _,_,_,.nil,.nil=>rfl
 | _,_,_,.cons r t,.cons r' t'=>by rw[r.inj r',Vals.inj t t']
section
variable {X:Cx}{pins:List (Addr×Obj)}{σ:St}{H:Hp}{s:zab}{a:Addr}{xs ys:List V}
theorem SqL.of{K:zaf}(h:H a=some (.lst xs)):SqL K H a xs:=.inl (.inl h)
theorem SqT.of{K:zaf}(h:H a=some (.tup xs)):SqT K H a xs:=.inl (.inl h)
theorem Inv.list(I:Inv X pins σ H s)(h:SqL X.K H a xs):∃q:List Value,Vals xs q/\PlainL s.heap a q.toArray/\xs.length<=zaj:=by
 rcases h with h|⟨o,q,n,G,B,F,hs,hz,r⟩
 ·obtain⟨z,q,n,r,e⟩:=h.ok I.hok
  exact⟨q,r,⟨_,n,e,rfl,rfl,rfl⟩,z⟩
 ·refine⟨q.toList,r,⟨o,n,I.kIn a o G,B,F,by simpa using hs⟩,?_⟩
  have e:=r.length;simp only[zbj]at e
  lia
theorem Inv.tuple(I:Inv X pins σ H s)(h:SqT X.K H a xs):∃q:List Value,Vals xs q/\IsTup s.heap a q.toArray/\xs.length<=zaj:=by
 rcases h with h|⟨o,q,n,F,B,hs,hz,r⟩
 ·obtain⟨z,q,r,p⟩:=h.ok I.hok
  exact⟨q,r,p.tup,z⟩
 ·refine⟨q.toList,r,⟨o,I.kIn a o F,B,n,by simpa using hs⟩,?_⟩
  have e:=r.length;simp only[zbj]at e
  lia
theorem Inv.list_inj(I:Inv X pins σ H s)(h:SqL X.K H a xs)(h':SqL X.K H a ys):xs=ys:=by
 obtain⟨q,r,⟨o,n,e,_,_,d⟩,_⟩:=I.list h;obtain⟨its',B,⟨o',F,z,_,_,d'⟩,_⟩:=I.list h';rw[e]at z;cases z;rw[d]at d';injection d' with d1 _
 have:q=its':=by simpa using congrArg Array.toList d1
 subst this;exact r.inj B
theorem Inv.tuple_inj(I:Inv X pins σ H s)(h:SqT X.K H a xs)(h':SqT X.K H a ys):xs=ys:=by
 obtain⟨q,r,⟨o,e,_,n,d⟩,_⟩:=I.tuple h;obtain⟨its',B,⟨o',z,_,F,d'⟩,_⟩:=I.tuple h';rw[e]at z;cases z;rw[d]at d';injection d' with d1 _
 have:q=its':=by simpa using congrArg Array.toList d1
 subst this;exact r.inj B
end
abbrev Cx.wish(X:Cx)(E:Value->zab->Prop):Cx:={X with xe:=E}
abbrev Cx.nox(X:Cx):Cx:=X.wish λ_ _=>False
theorem Cx.Ok.wish{X:Cx}(ok:X.Ok)(E:Value->zab->Prop):(X.wish E).Ok:=
 ⟨ok.mod,ok.kind,ok.glob,ok.blt,ok.above,ok.inj,ok.has,ok.cab,ok.hd,ok.frames,ok.stk,ok.exf,ok.bs,ok.bsz,ok.noex,ok.exfs,ok.funs,ok.frf⟩
theorem Cx.Ok.unwish{X:Cx}{E:Value->zab->Prop}(ok:(X.wish E).Ok):X.Ok:=
 ⟨ok.mod,ok.kind,ok.glob,ok.blt,ok.above,ok.inj,ok.has,ok.cab,ok.hd,ok.frames,ok.stk,ok.exf,ok.bs,ok.bsz,ok.noex,ok.exfs,ok.funs,ok.frf⟩
section
variable {X:Cx}{pins:List (Addr×Obj)}{σ:St}{H:Hp}{s:zab}{E:Value->zab->Prop}
theorem Inv.wish(I:Inv X pins σ H s)(E:Value->zab->Prop):Inv (X.wish E) pins σ H s:=⟨I.ok.wish E,I.os,I.bare,I.base,I.loc,I.cell,I.free,I.freeC,I.pin,I.hok,I.len⟩
theorem Inv.unwish(I:Inv (X.wish E) pins σ H s):Inv X pins σ H s:=⟨I.ok.unwish,I.os,I.bare,I.base,I.loc,I.cell,I.free,I.freeC,I.pin,I.hok,I.len⟩
theorem SP.unwish(h:SP (X.wish E) pins D f s'):SP X pins D f s':=by
 cases f with
 | next=>obtain⟨z,H',I,q⟩:=h;exact⟨z,H',I.unwish,q⟩
 | brk=>obtain⟨z,H',I,q⟩:=h;exact⟨z,H',I.unwish,q⟩
 | cont=>obtain⟨z,H',I,q⟩:=h;exact⟨z,H',I.unwish,q⟩
 | ret u=>obtain⟨v,z,H',I,r,q⟩:=h;exact⟨v,z,H',I.unwish,r,q⟩
theorem PE.nox(h:PE X.nox e t):PE X e t:=λpins s σ H Q I hw=>
 za8 (h pins s σ H Q (I.wish _) hw) (λ_ _ ⟨v,H',B,r,q⟩=>⟨v,H',B.unwish,r,q⟩) λ_ _ z=>zbE z
theorem PT.nox(h:PT X.nox e t):PT X e t:=λpins s σ H Q I hw=>
 za8 (h pins s σ H Q (I.wish _) hw) (λ_ _ ⟨H',B,q⟩=>⟨H',B.unwish,q⟩) λ_ _ z=>zbE z
theorem PSs.nox{st:List Stmt}{t:TS}(h:PSs X.nox st t):PSs X st t:=λpins s σ H D I hw=>
 za8 (h pins s σ H D (I.wish _) hw) (λ_ _ q=>q.unwish) λ_ _ z=>zbE z
end
section
variable {X:Cx}{st:Stmt}{rest:List Stmt}{t u:TS}{e:Expr}{te:TE}{pos:Pos}
def VE:TS:=λD σ H=>D.nx σ H
def XD(t u:TS):TS:=λD σ H=>t {D with nx:=u D} σ H
theorem NO:PSs X [] VE:=λ_ _ σ H _ I h=>zdM ⟨σ,H,I,h⟩
theorem G6(h1:PS X st t)(h2:PSs X rest u):PSs X (st::rest) (XD t u):=by
 intro pins s σ H D I h;refine wpAny_execs_cons (bL (h1 pins s σ H {D with nx:=u D} I h) λf B q=>?_);cases f with
 | next=>
  obtain⟨z,H',F,q⟩:=q;exact h2 pins B z H' D F q
 | ret v=>exact q
 | brk=>exact q
 | cont=>exact q
theorem NK(h1:PS X st t):PSs X [st] t:=by
 intro pins s σ H D I h;refine wpAny_execs_cons (bL (h1 pins s σ H D I h) λf z q=>?_);cases f with
 | next=>exact zdM q
 | ret v=>exact q
 | brk=>exact q
 | cont=>exact q
theorem Inv.quiet(I:Inv X pins σ H s):interactive X.env=false:=by simp[interactive,I.ok.kind]
def WR(te:TE):TS:=λD σ H=>te σ H λ_ H1=>D.nx σ H1
theorem CI(z:PE X e te)(hs:za6 e none pos.line X.env=pure false:=by rfl):PS X (.Expr e pos) (WR te):=by
 intro pins s σ H D I h;exact wpAny_Expr_any (bL (z pins s σ H _ I h) λv F ⟨x,H1,q,G,B⟩=>⟨σ,H1,q,B⟩) I.quiet hs
def Y2(te:TE):TS:=λD σ H=>te σ H D.rt
theorem RM(B:PE X e te):PS X (.Return (some e) pos) (Y2 te):=by
 intro pins s σ H D I h;exact wpAny_Return_some (bL (B pins s σ H _ I h) λv G ⟨x,H1,q,z,F⟩=>⟨x,σ,H1,q,z,F⟩)
def YM(c:TT)(t u:TS):TS:=λD σ H=>c σ H λb H1=>if b=true then t D σ H1 else u D σ H1
theorem VR{c:Expr}{a b:List Stmt}{tc:TT}(J:PT X c tc)(G:PSs X a t)(F:PSs X b u):PS X (.If c a b pos) (YM tc t u):=by
 intro pins s σ H D I h;refine wpAny_If (bL (J pins s σ H _ I h) λd q ⟨H1,z,B⟩=>?_);cases d with
 | true=>exact G pins q σ H1 D z B
 | false=>exact F pins q σ H1 D z B
end
abbrev TG:=V->St->Hp->(St->Hp->Prop)->Prop
abbrev P1:=List V->St->Hp->(St->Hp->Prop)->Prop
def PG(X:Cx)(q:Expr)(t:TG):Prop:=
 ∀(pins:List (Addr×Obj)) (s:zab) (σ:St) (H:Hp) (v:V) (u:Value) (Q:St->Hp->Prop),Inv X pins σ H s->RelV v u->t v σ H Q->
  wpAny (model X.prog X.w) X.A (zbp q X.env u) (λ_ s'=>∃z H',Inv X pins z H' s'/\Q z H') X.xe s
def PGs(X:Cx)(ts:List Expr)(t:P1):Prop:=
 ∀(pins:List (Addr×Obj)) (s:zab) (σ:St) (H:Hp) (vs:List V) (us:List Value) (Q:St->Hp->Prop),Inv X pins σ H s->Vals vs us->t vs σ H Q->
  wpAny (model X.prog X.w) X.A (assignInOrder ((zbe ts X.env).map (·.2)) us) (λ_ s'=>∃q H',Inv X pins q H' s'/\Q q H') X.xe s
abbrev KO:=V->V->V->Hp->(Hp->Prop)->Prop
def OJ(X:Cx)(t:KO):Prop:=
 ∀(pins:List (Addr×Obj)) (s:zab) (σ:St) (H:Hp) (o i v:V) (ov iv u:Value) (Q:Hp->Prop),Inv X pins σ H s->RelV o ov->RelV i iv->RelV v u->t o i v H Q->
  wpAny (model X.prog X.w) X.A (setItem ov iv u) (λ_ s'=>∃H',Inv X pins σ H' s'/\Q H') X.xe s
section
variable {X:Cx}{pos:Pos}
def rM(i:Nat):TG:=λv σ H Q=>Q (σ.set i (some v)) H
theorem nO(q:X.N.Nodup)(hi:X.N[i]?=some x)(z:Loc X.env.scope x)(B:X.fn x=true\/X.env.scope.names.lookup x=some .local:=by first|exact .inl rfl|exact .inr rfl|assumption):PG X (.Name x pos) (rM i):=by
 intro pins s σ H v u Q I r h;exact wpAny_assign_Name (yO I q hi z r (λs' F=>⟨_,H,F,h⟩) B)
def ZS:P1:=λvs σ H Q=>vs=[]/\Q σ H
def PC(t:TG)(u:P1):P1:=λvs σ H Q=>∃v r,vs=v::r/\t v σ H λq H'=>u r q H' Q
theorem N9:PGs X [] ZS:=by
 intro pins s σ H vs us Q I r h;obtain⟨e,h⟩:=h;subst e;cases r;exact assignInOrder_nil ⟨σ,H,I,h⟩
theorem pX{e:Expr}{es:List Expr}{t:TG}{u:P1}(h1:PG X e t)(h2:PGs X es u)
  (hs:(zbe (e::es) X.env).map (·.2)=zbp e X.env::(zbe es X.env).map (·.2):=by rfl):PGs X (e::es) (PC t u):=by
 intro pins s σ H vs us Q I r h;obtain⟨v,J,F,h⟩:=h;subst F;cases r with
 | cons r rr=>
  rw[hs];refine assignInOrder_cons (bL (h1 pins s σ H _ _ _ I r h) λ_ z ⟨q,H1,B,G⟩=>?_);exact h2 pins z q H1 _ _ Q B rr G
def XG(K:zaf)(n:Nat)(t:P1):TG:=λv σ H Q=>∃a xs,v=.ref a/\SqT K H a xs/\xs.length=n/\t xs σ H Q
theorem AX(N:X.calm=true)(h:PGs X es t)
  (Y:(zbe es X.env).length=n:=by rfl) (q:(zbe es X.env).findIdx? (·.1)=none:=by rfl):PG X (.Tuple es k pos) (XG X.K n t):=by
 intro pins s σ H v u Q I r hw;obtain⟨a,xs,G,U,J,hw⟩:=hw;subst G;cases r;obtain⟨W,z,M,hz⟩:=I.tuple U;refine assign_Tuple_tuple (I.ok.hd N) M (by simp[Y,<- J,z.length]) q λh' F=>?_
 have B:Inv X pins σ H {s with heap:=h'}:=I.kept (t':=s.toks) λb o e=>F b o (zay (zai e)) e
 exact h pins _ σ H xs _ Q B (by simpa using z) hw
def UK(to q:TE)(t:KO):TG:=λv σ H Q=>to σ H λo H1=>q σ H1 λi H2=>t o i v H2 λz=>Q σ z
theorem JM{o i:Expr}{to B:TE}{t:KO}(F:PE X o to)(hi:PE X i B)(hs:OJ X t)
  (ha:∀v, zbp (.Subscript o i pos) X.env v = (do
   let q <- zco [v] (eval o X.env);let z <- zco [v,q] (eval i X.env)
   standAt pos
   zco [v,q,z] (setItem q z v)
   release [v,q,z] []):=by intro _;rfl):PG X (.Subscript o i pos) (UK to B t):=by
 intro pins s σ H v u Q I r h;rw[ha];refine zaa (zbm (bL (F pins s σ H _ I h) λq G ⟨x,H1,M,r1,q1⟩=>?_));refine zaa (zbm (bL (hi pins G σ H1 _ M q1) λz s2 ⟨y,H2,I2,N,J⟩=>?_));refine zaa (zdj (zaa (zbm (bL (hs pins s2 σ H2 x y v q z u _ I2 r1 N r J) λ_ s3 ⟨Y,W,U⟩=>?_))));exact wpAny_release ⟨σ,Y,W,U⟩
def KP(te:TE)(g:TG):TS:=λD σ H=>te σ H λx H1=>g x σ H1 D.nx
theorem J6{tg e:Expr}{te:TE}{g:TG}(J:PE X e te)(F:PG X tg g)(hs:zdN [tg] e pos.line X.env=pure false:=by rfl)(hw:zdO [tg] e X.env=pure none:=by rfl)
  (h1:(zbe [tg] X.env).map (·.2)=[zbp tg X.env]:=by rfl):PS X (.Assign [tg] e pos) (KP te g):=by
 intro pins s σ H D I h;refine wpAny_Assign_stores (bL (J pins s σ H _ I h) λv z ⟨x,H1,B,G,M⟩=>?_) hs hw;rw[h1];exact bL (F pins z σ H1 x v _ B G M) λ_ N q=>q
theorem JU{i:Nat}{x:Str}{e:Expr}{te:TE}{pos':Pos}(B:X.N.Nodup)(hi:X.N[i]?=some x)(z:Loc X.env.scope x)(J:PE X e te)(hs:za6 e (some (.Name x pos')) pos.line X.env=pure false:=by rfl)(U:X.fn x=true\/X.env.scope.names.lookup x=some .local:=by first|exact .inl rfl|exact .inr rfl|assumption) :
  PS X (.Assign [.Name x pos'] e pos) (KP te (rM i)):=by
 intro pins s σ H D I h;refine wpAny_Assign_Name (bL (J pins s σ H _ I h) λv W ⟨y,H1,q,F,M⟩=>?_) hs;exact yO q B hi z F (λY G=>⟨_,H1,G,M⟩) U
end
section
variable {X:Cx}{pos:Pos}
def QP(c:TT)(tb:TS):TS:=λD σ H=>∃W:Nat->St->Hp->Prop,(∃m,W m σ H)/\∀m σ H,W m σ H->
 c σ H λb H1=>if b=true then ∃N:St->Hp->Prop,(∀q H',N q H'->∃z,z<m/\W z q H')/\tb {D with nx:=N,ct:=N,bk:=D.nx} σ H1 else D.nx σ H1
theorem HF{c:Expr}{body:List Stmt}{tc:TT}{tb:TS}(hp:zcU (model X.prog X.w) X.A X.env X.xe)(hc:PT X c tc)(hb:PSs X body tb):PS X (.While c body [] pos) (QP tc tb):=by
 intro pins s σ H D I h;obtain⟨W,⟨m0,w0⟩,turn⟩:=h;refine wpAny_While (codeAny_whileLoop (λn s'=>∃F H',Inv X pins F H' s'/\W n F H') ?_ m0 ⟨σ,H,I,w0⟩);rintro n s1 ⟨z,H1,I1,w1⟩;refine zcA hp (bL (hc pins s1 z H1 _ I1 (turn n z H1 w1)) λb s2 ⟨H2,I2,G⟩=>?_);cases b with
 | true=>
  obtain⟨N,hN,G⟩:=G;rw[if_pos rfl];refine zcA hp (bL (hb pins s2 z H2 _ I2 G) λf s3 J=>?_);cases f with
  | next=>
   obtain⟨q,B,I3,M⟩:=J;obtain⟨Y,hm,U⟩:=hN q B M;exact⟨Y,hm,q,B,I3,U⟩
  | cont=>
   obtain⟨q,B,I3,M⟩:=J;obtain⟨Y,hm,U⟩:=hN q B M;exact⟨Y,hm,q,B,I3,U⟩
  | brk=>exact J
  | ret v=>exact J
 | false=>
  rw[if_neg zau];exact zdM ⟨z,H2,I2,G⟩
end
structure It where
 go:Nat->Hp->Prop
 yld:Nat->Hp->V->Hp->Prop
 stop:Nat->Hp->Prop
def iB(X:Cx)(pins:List (Addr×Obj))(H:Hp)(b:Addr):Prop:=
 H b=none/\b≠X.env.locals/\b∉X.fs/\(b∈X.ex\/X.s₀.heap.objs.size<=b)/\(∀x c,X.env.cells.lookup x=some c->c≠b)/\∀p∈X.pn++pins,p.1≠b
theorem Inv.fpOk(I:Inv X pins σ H s)(B:s.heap.objs.size<=b)(G:H' b=none):iB X pins H' b:=by
 refine⟨G,zaG (zbb I.lt B),I.nofs B,.inr (zbd I.sz B),λx c e z=>?_,λp F z=>?_⟩
 ·obtain⟨v,q⟩:=I.cell x c e
  exact absurd (zbb q.lt (by rw[z];exact B)) (zbc _)
 ·exact absurd (zbb (zai (I.pin p F).1) (by rw[z];exact B)) (zbc _)
structure Turn(P:zam)(w:World)(K:zaf)(tg:Expr)(J:It)(fp:List Addr)(it:Addr)(tn:Nat->Heap->Prop):Prop where
 mem:it∈fp
 obj:∀i h,tn i h->∀b∈fp,∃o,h.get? b=some o/\∀v,o.data≠.cell v
 keep:∀i h h',tn i h->(∀b∈fp,∀o,h.get? b=some o->h'.get? b=some o)->tn i h'
 item:∀(X:Cx),X.prog=P->X.w=w->X.K=K->X.calm=true->∀(i:Nat) (pins:List (Addr×Obj)) (s:zab) (σ:St) (H:Hp) (E:Value->zab->Prop),Inv X pins σ H s->(∀b∈fp,iB X pins H b)->tn i s.heap->J.go i H->
  wpAny (model P w) X.A (zaH (.ref it)) (λr s1=>∃u,r=some u /\
   wpAny (model P w) X.A (zdP tg (.ref it) u) (λ_ s2=>∃x H',Inv X pins σ H' s2/\RelV x u/\J.yld i H x H'/\tn (i+1) s2.heap/\∀b∈fp,H' b=none) E s1) E s
 done:∀(X:Cx),X.prog=P->X.w=w->X.K=K->X.calm=true->∀(i:Nat) (pins:List (Addr×Obj)) (s:zab) (σ:St) (H:Hp) (E:Value->zab->Prop),Inv X pins σ H s->(∀b∈fp,iB X pins H b)->tn i s.heap->J.stop i H->
  wpAny (model P w) X.A (zaH (.ref it)) (λr s1=>r=none/\Inv X pins σ H s1) E s
 self:∀(A:zar) (i:Nat) (s:zab) (Q:Value->zab->Prop) (E:Value->zab->Prop),tn i s.heap->Q (.ref it) s->wpAny (model P w) A (pyIter (.ref it)) Q E s
abbrev TI:=St->Hp->(It->Hp->Prop)->Prop
def PIE(X:Cx)(pins:List (Addr×Obj))(σ:St)(tg:Expr)(R:It->Hp->Prop)(q:Value)(z:zab):Prop:=
 ∃(it:Addr) (fp:List Addr) (tn:Nat->Heap->Prop) (J:It) (H':Hp),q=.ref it/\Inv X pins σ H' z/\Turn X.prog X.w X.K tg J fp it tn/\tn 0 z.heap/\(∀b∈fp,iB X pins H' b)/\R J H'
def PI(X:Cx)(tg q:Expr)(wi:TI):Prop:=
 ∀(pins:List (Addr×Obj)) (s:zab) (σ:St) (H:Hp) (R:It->Hp->Prop),Inv X pins σ H s->wi σ H R->
  wpAny (model X.prog X.w) X.A (eval q X.env) (λv z=>wpAny (model X.prog X.w) X.A (pyIter v) (PIE X pins σ tg R) X.xe z) X.xe s
theorem rN(z:s.heap.get? it=some o)(F:o.cls=.type n)(B:o.data=.fields vs)
    (G:["enumerate", "zip", "dict_itemiterator", "dict_reverseitemiterator", "odict_iterator", "itertools.zip_longest", "itertools.pairwise"].contains n=false) (q:Q () s):wpAny M A (zdP tg (.ref it) u) Q E s:=by
  unfold zdP;cases tg <;> first
    | exact zac q
    | (cases u <;> first
        | exact zac q
        | (refine zaa (wpAny_load z ?_)
           rw[F,B];show wpAny M A (if(["enumerate", "zip", "dict_itemiterator", "dict_reverseitemiterator", "odict_iterator", "itertools.zip_longest", "itertools.pairwise"].contains n && vs[0]? == some (zaN _))=true then _ else _) Q E s;rw[if_neg (by intro h;rw[G,Bool.false_and]at h;cases h)];exact zac q))
def Z1(K:zaf)(a:Addr):It:=
 ⟨λi H=>∃xs x,SqL K H a xs/\xs[i]?=some x,λi H x H'=>H'=H/\∀xs,SqL K H a xs->xs[i]?=some x,λi H=>∃xs,SqL K H a xs/\xs.length<=i⟩
def Z5(K:zaf)(a:Addr):It:=
 ⟨λi H=>∃xs x,SqT K H a xs/\xs[i]?=some x,λi H x H'=>H'=H/\∀xs,SqT K H a xs->xs[i]?=some x,λi H=>∃xs,SqT K H a xs/\xs.length<=i⟩
noncomputable def XR(lo:Int)(n:Nat):It:=⟨λi _=>i<n,λi H x H'=>H'=H/\x=.int (lo+i),λi _=>n<=i⟩
theorem D2{P:zam}{w:World}{K:zaf}{tg:Expr}(a it:Addr):Turn P w K tg (Z1 K a) [it] it (λi h=>h.IsListIter it a i) where
 mem:=by simp
 obj:=λi h st b q=>by
  have e:b=it:=by simpa using q
  subst e;obtain⟨o,e,c,d⟩:=st;exact⟨o,e,λv z=>by rw[d]at z;cases z⟩
 keep:=λi h h' st k=>st.at λo e=>k it (by simp) o e
 item:=by
  intro X W hw Y hc i pins s σ H E I G st hg;subst W hw Y;obtain⟨xs,x,F,hx⟩:=hg;obtain⟨U,rv,p,hz⟩:=I.list F;obtain⟨u,hu,ru⟩:=rv.get hx;obtain⟨f0,f1,f2,N,J,M⟩:=G it (by simp);refine wpAny_pyNext_list_item st p.isList (x:=u) (by simpa using hu) λh' B sb=>?_
  have I1:Inv X pins σ H {s with heap:=h'}:=I.turned (t':=s.toks) (λb o q e=>(sb.2 b q).trans e) f0 f1 N J M;obtain⟨o,e,c,d⟩:=id B;exact⟨u,rfl,rN (s:={s with heap:=h'}) e c d (by decide) ⟨x,H,I1,ru,⟨rfl,λys hy=>by rw[I.list_inj hy F];exact hx⟩,B,λb q=>(G b q).1⟩⟩
 done:=by
  intro X W hw Y hc i pins s σ H E I G st hg;subst W hw Y;obtain⟨xs,F,hx⟩:=hg;obtain⟨U,rv,p,hz⟩:=I.list F;obtain⟨f0,f1,f2,N,J,M⟩:=G it (by simp);have hl:=rv.length;exact wpAny_pyNext_list_end (I.ok.hd hc) st p.isList (by simp;lia) λh' eb=>⟨rfl,I.turned (t':=s.toks) (λb o q e=>eb b o q e) f0 f1 N J M⟩
 self:=λ_ _ _ _ _ st h=>wpAny_pyIter_listiter st h
theorem zV{P:zam}{w:World}{K:zaf}{tg:Expr}(a it:Addr):Turn P w K tg (Z5 K a) [it] it (λi h=>h.IsTupleIter it a i) where
 mem:=by simp
 obj:=λi h st b B=>by
  have e:b=it:=by simpa using B
  subst e;obtain⟨o,e,c,d⟩:=st;exact⟨o,e,λv z=>by rw[d]at z;cases z⟩
 keep:=λi h h' st k=>st.at λo e=>k it (by simp) o e
 item:=by
  intro X W hw Y hc i pins s σ H E I J st hg;subst W hw Y;obtain⟨xs,x,G,hx⟩:=hg;obtain⟨q,rv,p,hz⟩:=I.tuple G;obtain⟨u,hu,ru⟩:=rv.get hx;obtain⟨f0,f1,f2,U,M,N⟩:=J it (by simp);refine wpAny_pyNext_tuple_item st (show s.heap.IsTuple a q.toArray from p) (x:=u) (by simpa using hu) λh' F sb=>?_
  have I1:Inv X pins σ H {s with heap:=h'}:=I.turned (t':=s.toks) (λb o B e=>(sb.2 b B).trans e) f0 f1 U M N;obtain⟨o,e,c,d⟩:=id F;exact⟨u,rfl,rN (s:={s with heap:=h'}) e c d (by decide) ⟨x,H,I1,ru,⟨rfl,λys hy=>by rw[I.tuple_inj hy G];exact hx⟩,F,λb B=>(J b B).1⟩⟩
 done:=by
  intro X W hw Y hc i pins s σ H E I J st hg;subst W hw Y;obtain⟨xs,G,hx⟩:=hg;obtain⟨q,rv,p,hz⟩:=I.tuple G;obtain⟨f0,f1,f2,U,M,N⟩:=J it (by simp);have hl:=rv.length;exact wpAny_pyNext_tuple_end (I.ok.hd hc) st (show s.heap.IsTuple a q.toArray from p) (by simp;lia) λh' eb=>⟨rfl,I.turned (t':=s.toks) (λb o B e=>eb b o B e) f0 f1 U M N⟩
 self:=λ_ _ _ _ _ st h=>wpAny_pyIter_tupleiter st h
theorem zA{P:zam}{w:World}{K:zaf}{tg:Expr}(it:Addr)(lo:Int)(n:Nat):Turn P w K tg (XR lo n) [it] it (λi h=>zdQ h it (lo+(i:Nat)*1) ((n:Int)-(i:Nat)) 1) where
 mem:=by simp
 obj:=λi h st b q=>by
  have e:b=it:=by simpa using q
  subst e;exact⟨_,st,λv z=>by
   have z':Data.fields _=Data.cell v:=z;cases z'⟩
 keep:=λi h h' st k=>k it (by simp) _ st
 item:=by
  intro X J hw M hc i pins s σ H E I F st hg;subst J hw M;obtain⟨U,N,f2,f3,G,Y⟩:=F it (by simp);have W:=Walks.range (prog:=X.prog) (w:=X.w) (I.ok.hd hc) it lo 1 n;refine W.item i s _ _ hg st λv h' tk hv B kk=>?_
  obtain⟨t,rfl⟩:=hv;have I1:Inv X pins σ H {s with heap:=h',toks:=tk}:=I.turned (λb o q e=>kk b o (by simpa using q) e) U N f3 G Y;refine⟨_,rfl,rN (s:={s with heap:=h',toks:=tk}) (n := "range_iterator") B rfl rfl (by decide) ⟨.int (lo+i),H,I1,⟨t,?_⟩,⟨rfl,rfl⟩,B,λb q=>(F b q).1⟩⟩;rw[zby]
 done:=by
  intro X J hw M hc i pins s σ H E I F st hg;subst J hw M;obtain⟨U,N,f2,f3,G,Y⟩:=F it (by simp);exact wpAny_pyNext_range_end (I.ok.hd hc) st (by have:n<=i:=hg;lia) λh' eb=>⟨rfl,I.turned (t':=s.toks) (λb o q e=>eb b o q e) U N f3 G Y⟩
 self:=λ_ _ _ _ _ st h=>wpAny_pyIter_rangeiter st h
section
variable {X:Cx}{tg:Expr}
def WF(K:zaf)(tl:TE):TI:=λσ H R=>tl σ H λx H1=>∃a,x=.ref a/\(∃xs,SqL K H1 a xs)/\R (Z1 K a) H1
def YI(K:zaf)(tl:TE):TI:=λσ H R=>tl σ H λx H1=>∃a,x=.ref a/\(∃xs,SqT K H1 a xs)/\R (Z5 K a) H1
theorem M4{l:Expr}{tl:TE}(G:PE X l tl):PI X tg l (WF X.K tl):=by
 intro pins s σ H R I h;refine bL (G pins s σ H _ I h) λv z ⟨x,H1,B,J,N⟩=>?_
 obtain⟨a,e,⟨xs,U⟩,q⟩:=N;subst e;cases J;obtain⟨M,W,p,hz⟩:=B.list U;refine zcd p.isList ?_;refine⟨z.heap.objs.size,[z.heap.objs.size],_,_,H1,rfl,B.kept (t':=z.toks) λb o e=>zag _ e,D2 a _,⟨_,zat _ rfl,rfl,rfl⟩,λb F=>?_,q⟩;have e:b=z.heap.objs.size:=by simpa using F
 subst e;exact B.fpOk (zan _) (B.hok.fresh (zan _))
theorem SV{l:Expr}{tl:TE}(J:PE X l tl):PI X tg l (YI X.K tl):=by
 intro pins s σ H R I h;refine bL (J pins s σ H _ I h) λv z ⟨x,H1,B,M,N⟩=>?_
 obtain⟨a,e,⟨xs,U⟩,q⟩:=N;subst e;cases M;obtain⟨F,W,p,hz⟩:=B.tuple U;refine zbM (show z.heap.IsTuple a F.toArray from p) ?_;refine⟨z.heap.objs.size,[z.heap.objs.size],_,_,H1,rfl,B.kept (t':=z.toks) λb o e=>zag _ e,zV a _,⟨_,zat _ rfl,rfl,rfl⟩,λb G=>?_,q⟩;have e:b=z.heap.objs.size:=by simpa using G
 subst e;exact B.fpOk (zan _) (B.hok.fresh (zan _))
theorem yL{pins:List (Addr×Obj)}{σ:St}{H:Hp}{s:zab}{R:It->Hp->Prop}{E:Value->zab->Prop}{lo hi:Int}{t u v:Tok}{tk:Nat}(I:Inv X pins σ H s)(h1:-(2^62)<=lo)(h2:lo<2^62)(G:-(2^62)<=hi)(J:hi<2^62)
  (q:R (XR lo (hi-lo).toNat) H):wpAny (model X.prog X.w) X.A (pyIter (.ref s.heap.objs.size)) (PIE X pins σ tg R) E {s with heap:=s.heap.push {cls:=.type "range",data:=.fields #[.int lo t,.int hi u,.int 1 v]},toks:=tk}:=by
 refine wpAny_pyIter_range (IsRange.new ..) (small_one h1 h2 G J) ?_;have z:Inv X pins σ H {s with heap:=s.heap.push {cls:=.type "range",data:=.fields #[.int lo t,.int hi u,.int 1 v]},toks:=tk}:=I.kept λb o e=>zag _ e
 refine⟨(s.heap.push {cls:=.type "range",data:=.fields #[.int lo t,.int hi u,.int 1 v]}).objs.size,[(s.heap.push {cls:=.type "range",data:=.fields #[.int lo t,.int hi u,.int 1 v]}).objs.size],_,_,H,rfl,
  z.kept (t':=tk) λb o e=>zag _ e,zA _ lo (hi-lo).toNat,?_,λb F=>?_,q⟩
 ·have M:lo+((0:Nat):Int)*1=lo:=by simp
  have B:(((hi-lo).toNat:Nat):Int)-((0:Nat):Int)=zbN lo hi 1:=by rw[rangeSize_one];split <;> lia
  show zdQ _ _ (lo+((0:Nat):Int)*1) ((((hi-lo).toNat:Nat):Int)-((0:Nat):Int)) 1;rw[M,B];exact zat _ rfl
 ·have e:b=(s.heap.push {cls:=.type "range",data:=.fields #[.int lo t,.int hi u,.int 1 v]}).objs.size:=by simpa using F
  subst e;exact z.fpOk (zan _) (z.hok.fresh (zan _))
def VW(ta:TA):TI:=λσ H R=>ta σ H λvs H1=>∃j:Int,vs=[.int j]/\-(2^62)<=j/\j<2^62/\R (XR 0 j.toNat) H1
def U6(ta:TA):TI:=λσ H R=>ta σ H λvs H1=>∃i j:Int,vs=[.int i,.int j]/\(-(2^62)<=i/\i<2^62/\-(2^62)<=j/\j<2^62)/\R (XR i (j-i).toNat) H1
theorem EI{a:Expr}{ta:TA}{p pos:Pos}(J:Gl X "range")(N:X.mg "range" = none)(G:PA X [a] ta)(hs:zah [a] X.env=[(false,eval a X.env)]:=by rfl):PI X tg (.Call (.Name "range" p) [a] [] pos) (VW ta):=by
 intro pins s σ H R I h;refine Call_ (eW I J N boot_range (zcB (bL (G pos pins s σ H _ I h) λus U ⟨vs,H1,F,M,z⟩=>?_) hs rfl));obtain⟨j,e,z,B,q⟩:=z;subst e;cases M with
 | cons r rr=>
  cases rr;obtain⟨t,rfl⟩:=r;exact call_range_1 (yL F (by lia) (by lia) z B (by simpa using q))
theorem ES{a b:Expr}{ta:TA}{p pos:Pos}(U:Gl X "range")(Y:X.mg "range" = none)(N:PA X [a,b] ta)(hs:zah [a,b] X.env=[(false,eval a X.env),(false,eval b X.env)]:=by rfl)(z:zah [b] X.env=[(false,eval b X.env)]:=by rfl) :
  PI X tg (.Call (.Name "range" p) [a,b] [] pos) (U6 ta):=by
 intro pins s σ H R I h;refine Call_ (eW I U Y boot_range (zcB (bL (N pos pins s σ H _ I h) λus s1 ⟨vs,H1,G,W,B⟩=>?_) (by rw[hs,z]) (by rw[z];rfl)));obtain⟨i,j,e,⟨B,F,M,J⟩,q⟩:=B;subst e;cases W with
 | cons r rr=>
  cases rr with
  | cons r' rr=>
   cases rr;obtain⟨t,rfl⟩:=r;obtain⟨t',rfl⟩:=r';exact call_range_2 (yL G B F M J q)
def ZF(wi:TI)(g:TG)(tb:TS):TS:=λD σ H=>wi σ H λJ H1=>∃W:Nat->Nat->St->Hp->Prop,(∃m,W 0 m σ H1)/\∀i m σ H,W i m σ H->
 (J.stop i H/\D.nx σ H)\/(J.go i H/\∃N:St->Hp->Prop,(∀q H',N q H'->∃B,B<m/\W (i+1) B q H')/\∀x H',J.yld i H x H'->g x σ H' λz H2=>tb {D with nx:=N,ct:=N,bk:=D.nx} z H2)
noncomputable def qY(fp:List Addr)(h:Heap):List (Addr×Obj):=fp.filterMap λb=>(h.get? b).map λo=>(b,o)
theorem fT(q:b∈fp)(e:h.get? b=some o):(b,o)∈qY fp h:=List.mem_filterMap.mpr ⟨b,q,by rw[e];rfl⟩
theorem EB(z:p∈qY fp h):p.1∈fp/\h.get? p.1=some p.2:=by
 obtain⟨b,B,e⟩:=List.mem_filterMap.mp z;cases q:h.get? b with
 | none=>rw[q]at e;cases e
 | some o=>
  rw[q]at e;have F:(b,o)=p:=zaI e;subst F;exact⟨B,q⟩
theorem Inv.pinned(I:Inv X pins σ H s)(U:∀b∈fp,iB X pins H b)(F:∀b∈fp,∃o,s.heap.get? b=some o/\∀v,o.data≠.cell v):Inv X (pins++qY fp s.heap) σ H s:=
 I.pins_of λp G=>(List.mem_append.mp G).elim (λz=>I.pin p (zbF _ z)) λz=>by
  obtain⟨q,e⟩:=EB z;obtain⟨M,J,N,_⟩:=U p.1 q;obtain⟨o,B,d⟩:=F p.1 q;rw[e]at B;cases B;exact⟨e,M,J,N,d⟩
theorem Inv.unpinned(I:Inv X (pins++pl) σ H s):Inv X pins σ H s:=I.pins_of λp q=>I.pin p (zbF _ (zdh _ q))
theorem UA{B:Expr}{body:List Stmt}{wi:TI}{g:TG}{tb:TS}{pos:Pos}(hp:zcU (model X.prog X.w) X.A X.env X.xe)(hc:X.calm=true)(hi:PI X tg B wi)(hg:PG X tg g)(hb:PSs X body tb)
  (hs:∀x,zbO B X.env x=pure x:=by intro _;rfl):PS X (.For tg B body [] pos) (ZF wi g tb):=by
 intro pins s σ H D I h;refine wpAny_For (bL (hi pins s σ H _ I h) λv s1 h1=>bL h1 λbb s2 h2=>?_) hs;obtain⟨it,fp,tn,J,H2,e,I2,T,ao,f2,W,⟨m0,w0⟩,turn⟩:=h2;subst e
 -- what stays true of the iterator's objects through the loop
 have M:∀ {H':Hp},(∀b∈fp,H' b=none)->∀b∈fp,iB X pins H' b:=λhn b hb=>⟨hn b hb,(f2 b hb).2⟩
 refine codeAny_forLoop_any (λn s'=>∃i U H',Inv X pins U H' s'/\tn i s'.heap/\(∀b∈fp,H' b=none)/\W i n U H') ?_ m0 ⟨0,σ,H2,I2,ao,λb hb=>(f2 b hb).1,w0⟩;rintro n s3 ⟨i,z,H3,I3,ag,ae,w3⟩;rcases turn i n z H3 w3 with⟨ad,qn⟩|⟨go,N,hN,step⟩
 ·refine zcA hp (bL (T.done X rfl rfl rfl hc i pins s3 z H3 X.xe I3 (M ae) ag ad) λr s4 ⟨hr,I4⟩=>?_)
  subst hr;exact zdM ⟨z,H3,I4,qn⟩
 ·refine zcA hp (bL (T.item X rfl rfl rfl hc i pins s3 z H3 X.xe I3 (M ae) ag go) λr s4 ⟨u,hr,h4⟩=>?_)
  subst hr;refine zcA hp (bL h4 λ_ s5 ⟨x,H5,I5,r5,y5,ac,al⟩=>?_);have am:=I5.pinned (M al) (T.obj _ _ ac);refine zcA hp (bL (hg _ s5 z H5 x u _ am r5 (step x H5 y5)) λ_ s6 ⟨an,H6,I6,q6⟩=>?_);refine zcA hp (bL (hb _ s6 an H6 _ I6 q6) λf s7 q7=>?_);have G:∀ {q:St} {Y:Hp},Inv X (pins++qY fp s5.heap) q Y s7->N q Y->∃m,m<n/\∃i U H',Inv X pins U H' s7/\tn i s7.heap/\(∀b∈fp,H' b=none)/\W i m U H':=λ{q Y} F n7=>by
   obtain⟨m',hm,w7⟩:=hN q Y n7;refine⟨m',hm,i+1,q,Y,F.unpinned,T.keep _ _ _ ac λb hb o e=>(F.pin (b,o) (zbF _ (zbF _ (fT hb e)))).1,λb hb=>?_,w7⟩;obtain⟨o,e,d⟩:=T.obj _ _ ac b hb;exact(F.pin (b,o) (zbF _ (zbF _ (fT hb e)))).2.1
  cases f with
  | next=>obtain⟨q,Y,F,n7⟩:=q7;exact G F n7
  | cont=>obtain⟨q,Y,F,n7⟩:=q7;exact G F n7
  | brk=>obtain⟨q,Y,F,q7⟩:=q7;exact⟨q,Y,F.unpinned,q7⟩
  | ret v=>obtain⟨x7,q,Y,F,r7,q7⟩:=q7;exact⟨x7,q,Y,F.unpinned,r7,q7⟩
end
abbrev R2:=V->V->Hp->VK->Prop
def OpR(X:Cx)(f:Value->Value->Sem Value)(r:R2):Prop:=
 ∀(pins:List (Addr×Obj)) (s:zab) (σ:St) (H:Hp) (x y:V) (v u:Value) (Q:VK),Inv X pins σ H s->RelV x v->RelV y u->r x y H Q->
  wpAny (model X.prog X.w) X.A (f v u) (EP X pins σ Q) X.xe s
def Z4(X:Cx)(f:Value->Sem Value)(r:V->Hp->VK->Prop):Prop:=
 ∀(pins:List (Addr×Obj)) (s:zab) (σ:St) (H:Hp) (x:V) (v:Value) (Q:VK),Inv X pins σ H s->RelV x v->r x H Q->
  wpAny (model X.prog X.w) X.A (f v) (EP X pins σ Q) X.xe s
def CallR(X:Cx)(f:Value)(r:List V->Hp->VK->Prop):Prop:=
 ∀(pins:List (Addr×Obj)) (s:zab) (σ:St) (H:Hp) (xs:List V) (us:List Value) (Q:VK),Inv X pins σ H s->Vals xs us->r xs H Q->
  wpAny (model X.prog X.w) X.A (call f us) (EP X pins σ Q) X.xe s
def U3(r:R2)(ta tb:TE):TE:=λσ H Q=>ta σ H λx H1=>tb σ H1 λy H2=>r x y H2 Q
def tUn(r:V->Hp->VK->Prop)(ta:TE):TE:=λσ H Q=>ta σ H λx H1=>r x H1 Q
def rI(C:Int->Int->Prop)(g:Int->Int->V):R2:=λx y H Q=>∃i j,x=.int i/\y=.int j/\C i j/\Q (g i j) H
def K4(g:Int->Int->V):R2:=λx y H Q=>∃i j,x=.int i/\y=.int j/\Q (g i j) H
def rU(g:Int->V):V->Hp->VK->Prop:=λx H Q=>∃i,x=.int i/\Q (g i) H
section
variable {X:Cx}{a b c:Expr}{ta tb tc:TE}{pos:Pos}
theorem UO(U:PE X a ta)(N:PE X b tb){pins:List (Addr×Obj)}{s:zab}{σ:St}{H:Hp}{R:V->V->Hp->Prop}(I:Inv X pins σ H s)
  (h:ta σ H λx H1=>tb σ H1 λy H2=>R x y H2) {Q:Value->zab->Prop} {f:Value->Value->Sem Value}
  (hf:∀v u B x y H2,Inv X pins σ H2 B->RelV x v->RelV y u->R x y H2->wpAny (model X.prog X.w) X.A (f v u) Q X.xe B) :
  wpAny (model X.prog X.w) X.A (eval a X.env) (λv q=>wpAny (model X.prog X.w) X.A (eval b X.env) (λu z=>wpAny (model X.prog X.w) X.A (f v u) Q X.xe z) X.xe q) X.xe s:=by
 refine bL (U pins s σ H _ I h) λv F ⟨x,H1,J,W,q1⟩=>?_
 refine bL (N pins F σ H1 _ J q1) λu B ⟨y,H2,Y,M,G⟩=>?_
 exact hf v u B x y H2 Y W M G
theorem O0{op:Operator}{r:R2}(z:OpR X (zaW op) r)(G:PE X a ta)(B:PE X b tb):PE X (.BinOp a op b pos) (U3 r ta tb):=by
 intro pins s σ H Q I h;exact wpAny_BinOp (UO G B I h λv u N x y H2 M F J q=>z pins N σ H2 x y v u Q M F J q)
theorem WP{op:UnaryOp}{r:V->Hp->VK->Prop}(q:Z4 X (unaryOp op) r)(F:PE X a ta):PE X (.UnaryOp op a pos) (tUn r ta):=by
 intro pins s σ H Q I h;exact UnaryOp_ (bL (F pins s σ H _ I h) λv z ⟨x,H1,B,G,J⟩=>q pins z σ H1 x v Q B G J)
theorem YB{f:Value->Value->Sem Value}{C:Int->Int->Prop}{g:Int->Int->Int}
  (z:∀(i j:Int) (t u:Tok) (s:zab) (Q:Value->zab->Prop) (E:Value->zab->Prop),C i j->Q (.int (g i j) s.toks) {s with toks:=s.toks+1}->wpAny (model X.prog X.w) X.A (f (.int i t) (.int j u)) Q E s) :
  OpR X f (rI C λi j=>.int (g i j)):=by
 intro pins s σ H x y v u Q I B F h;obtain⟨i,j,rfl,rfl,G,q⟩:=h;obtain⟨t,rfl⟩:=B;obtain⟨t',rfl⟩:=F;exact z i j t t' s _ _ G ⟨.int (g i j),H,I.tok _,⟨_,rfl⟩,q⟩
theorem XI{f:Value->Value->Sem Value}{g:Int->Int->Int}
  (z:∀(i j:Int) (t u:Tok) (s:zab) (Q:Value->zab->Prop) (E:Value->zab->Prop),Q (.int (g i j) s.toks) {s with toks:=s.toks+1}->wpAny (model X.prog X.w) X.A (f (.int i t) (.int j u)) Q E s) :
  OpR X f (K4 λi j=>.int (g i j)):=by
 intro pins s σ H x y v u Q I B F h;obtain⟨i,j,rfl,rfl,q⟩:=h;obtain⟨t,rfl⟩:=B;obtain⟨t',rfl⟩:=F;exact z i j t t' s _ _ ⟨.int (g i j),H,I.tok _,⟨_,rfl⟩,q⟩
theorem OG{f:Value->Value->Sem Value}{g:Int->Int->Bool}
  (z:∀(i j:Int) (t u:Tok) (s:zab) (Q:Value->zab->Prop) (E:Value->zab->Prop),Q (.bool (g i j)) s->wpAny (model X.prog X.w) X.A (f (.int i t) (.int j u)) Q E s) :
  OpR X f (K4 λi j=>.bl (g i j)):=by
 intro pins s σ H x y v u Q I B F h;obtain⟨i,j,rfl,rfl,q⟩:=h;obtain⟨t,rfl⟩:=B;obtain⟨t',rfl⟩:=F;exact z i j t t' s _ _ ⟨.bl (g i j),H,I,rfl,q⟩
def OQ(i j:Int):Prop:=0<j/\j<1073741824
def OP(i j:Int):Prop:=0<=j/\j<=1000000/\i.natAbs<2^64
theorem T8:OpR X (zaW .Add) (K4 λi j=>.int (i+j)):=XI λ_ _ _ _ _ _ _ q=>add_int q
theorem QT:OpR X (zaW .Sub) (K4 λi j=>.int (i-j)):=XI λ_ _ _ _ _ _ _ q=>sub_int q
theorem NS:OpR X (zaW .FloorDiv) (rI OQ λi j=>.int (i/j)):=YB λi j _ _ _ _ _ z q=>by
 have h1:(0:Int)<j:=z.1;have h2:j<1073741824:=z.2;exact floordiv_int (by lia) (by rw[Int.fdiv_eq_ediv_of_nonneg i (by lia)];exact q) (.inl (PyProof.noPylong_small (by lia)))
theorem QF:OpR X (zaW .Mod) (rI (λ_ j=>0<j) λi j=>.int (i%j)):=YB λi j _ _ _ _ _ z q=>by
 have h1:(0:Int)<j:=z;exact mod_int' (by lia) (by rw[Int.fmod_eq_emod_of_nonneg i (by lia)];exact q)
theorem QJ:OpR X (zaW .Pow) (rI OP λi j=>.int (i^j.toNat)):=YB λ_ _ _ _ _ _ _ z q=>pow_int_small z.1 z.2.1 z.2.2 q
theorem unI{f:Value->Sem Value}{g:Int->Int}
  (z:∀(i:Int) (t:Tok) (s:zab) (Q:Value->zab->Prop) (E:Value->zab->Prop),Q (.int (g i) s.toks) {s with toks:=s.toks+1}->wpAny (model X.prog X.w) X.A (f (.int i t)) Q E s) :
  Z4 X f (rU λi=>.int (g i)):=by
 intro pins s σ H x v Q I B h;obtain⟨i,rfl,q⟩:=h;obtain⟨t,rfl⟩:=B;exact z i t s _ _ ⟨.int (g i),H,I.tok _,⟨_,rfl⟩,q⟩
theorem QH:Z4 X (unaryOp .USub) (rU λi=>.int (-i)):=unI λ_ _ _ _ _ q=>neg_int q
end
noncomputable def UH:V->V->Bool
 | .non,.non=>true | .non,.int _=>true | .int _,.non=>true | .non,.bl _=>true | .bl _,.non=>true | .non,.str _=>true | .str _,.non=>true
 | .int _,.int _=>true | .bl _,.bl _=>true | .str _,.str _=>true | .byt _,.byt _=>true
 | .int _,.str _=>true | .str _,.int _=>true | .bl _,.str _=>true | .str _,.bl _=>true
 | _,_=>false
def qy:R2:=λx y H Q=>UH x y=true/\Q (.bl (decide (x=y))) H
def qt:R2:=λx y H Q=>UH x y=true/\Q (.bl (!decide (x=y))) H
theorem B5:decide (V.int i=V.int j)=(i == j):=by
 rw[zcV];simp
theorem J3:decide (V.bl i=V.bl j)=(i == j):=by
 rw[zcV];simp
theorem CU:decide (V.str i=V.str j)=(i == j):=by
 rw[zcV];simp
theorem BX:decide (V.byt i=V.byt j)=(i.toList == j.toList):=by
 rw[zcV];cases i;cases j;simp
section
variable {X:Cx}{a b c:Expr}{ta tb tc:TE}{pos:Pos}
theorem a9(I:Inv X pins σ H s)(q:Q (.bl k) H)(e:k=k'):EP X pins σ Q (.bool k') s:=by
 subst e;exact⟨.bl k,H,I,rfl,q⟩
theorem V1:OpR X (zaq .Eq) qy:=by
 intro pins s σ H x y v u Q I B z h;obtain⟨hs,q⟩:=h;cases x with
 | non=>
  cases B;cases y with
  | non=>cases z;exact PySem.EqNone.eq_none_none (a9 I q (by simp))
  | bl j=>cases z;exact PySem.EqNone.eq_none_bool (a9 I q (by simp))
  | int j=>obtain⟨t',rfl⟩:=z;exact PySem.EqNone.eq_none_int (a9 I q (by simp))
  | str j=>obtain⟨t',rfl⟩:=z;exact PySem.EqNone.eq_none_str (a9 I q (by simp))
  | _=>exact absurd (show false=true from hs) zau
 | bl i=>
  cases B;cases y with
  | non=>cases z;exact PySem.EqNone.eq_bool_none (a9 I q (by simp))
  | bl j=>cases z;exact eq_bool (a9 I q J3)
  | str j=>obtain⟨t',rfl⟩:=z;exact PySem.EqMixed.eq_bool_str (a9 I q (by simp))
  | _=>exact absurd (show false=true from hs) zau
 | int i=>
  obtain⟨t,rfl⟩:=B;cases y with
  | non=>cases z;exact PySem.EqNone.eq_int_none (a9 I q (by simp))
  | int j=>obtain⟨t',rfl⟩:=z;exact eq_int (a9 I q B5)
  | str j=>obtain⟨t',rfl⟩:=z;exact PySem.EqMixed.eq_int_str (a9 I q (by simp))
  | _=>exact absurd (show false=true from hs) zau
 | str i=>
  obtain⟨t,rfl⟩:=B;cases y with
  | non=>cases z;exact PySem.EqNone.eq_str_none (a9 I q (by simp))
  | bl j=>cases z;exact PySem.EqMixed.eq_str_bool (a9 I q (by simp))
  | int j=>obtain⟨t',rfl⟩:=z;exact PySem.EqMixed.eq_str_int (a9 I q (by simp))
  | str j=>obtain⟨t',rfl⟩:=z;exact eq_str (a9 I q CU)
  | _=>exact absurd (show false=true from hs) zau
 | byt i=>
  obtain⟨t,rfl⟩:=B;cases y with
  | byt j=>obtain⟨t',rfl⟩:=z;exact PySem.W.eq_bytes (a9 I q BX)
  | _=>exact absurd (show false=true from hs) zau
 | _=>cases y <;> exact absurd (show false=true from hs) zau
theorem V9:OpR X (zaq .NotEq) qt:=by
 intro pins s σ H x y v u Q I B z h;obtain⟨hs,q⟩:=h;cases x with
 | non=>
  cases B;cases y with
  | non=>cases z;exact PySem.EqNone.ne_none_none (a9 I q (by simp))
  | bl j=>cases z;exact PySem.EqNone.ne_none_bool (a9 I q (by simp))
  | int j=>obtain⟨t',rfl⟩:=z;exact PySem.EqNone.ne_none_int (a9 I q (by simp))
  | str j=>obtain⟨t',rfl⟩:=z;exact PySem.EqNone.ne_none_str (a9 I q (by simp))
  | _=>exact absurd (show false=true from hs) zau
 | bl i=>
  cases B;cases y with
  | non=>cases z;exact PySem.EqNone.ne_bool_none (a9 I q (by simp))
  | bl j=>cases z;exact ne_bool (a9 I q (congrArg not J3))
  | str j=>obtain⟨t',rfl⟩:=z;exact PySem.EqMixed.ne_bool_str (a9 I q (by simp))
  | _=>exact absurd (show false=true from hs) zau
 | int i=>
  obtain⟨t,rfl⟩:=B;cases y with
  | non=>cases z;exact PySem.EqNone.ne_int_none (a9 I q (by simp))
  | int j=>obtain⟨t',rfl⟩:=z;exact ne_int (a9 I q (congrArg not B5))
  | str j=>obtain⟨t',rfl⟩:=z;exact PySem.EqMixed.ne_int_str (a9 I q (by simp))
  | _=>exact absurd (show false=true from hs) zau
 | str i=>
  obtain⟨t,rfl⟩:=B;cases y with
  | non=>cases z;exact PySem.EqNone.ne_str_none (a9 I q (by simp))
  | bl j=>cases z;exact PySem.EqMixed.ne_str_bool (a9 I q (by simp))
  | int j=>obtain⟨t',rfl⟩:=z;exact PySem.EqMixed.ne_str_int (a9 I q (by simp))
  | str j=>obtain⟨t',rfl⟩:=z;exact ne_str (a9 I q (congrArg not CU))
  | _=>exact absurd (show false=true from hs) zau
 | byt i=>
  obtain⟨t,rfl⟩:=B;cases y with
  | byt j=>obtain⟨t',rfl⟩:=z;exact PySem.W.ne_bytes (a9 I q (congrArg not BX))
  | _=>exact absurd (show false=true from hs) zau
 | _=>cases y <;> exact absurd (show false=true from hs) zau
theorem WI:OpR X (zaq .Lt) (K4 λi j=>.bl (decide (i<j))):=OG λ_ _ _ _ _ _ _ q=>lt_int q
theorem WJ:OpR X (zaq .LtE) (K4 λi j=>.bl (decide (i<=j))):=OG λ_ _ _ _ _ _ _ q=>le_int q
theorem V3:OpR X (zaq .Gt) (K4 λi j=>.bl (decide (j<i))):=OG λ_ _ _ _ _ _ _ q=>gt_int q
theorem VP:OpR X (zaq .GtE) (K4 λi j=>.bl (decide (j<=i))):=OG λ_ _ _ _ _ _ _ q=>ge_int q
theorem FO:OpR X (zaq .In) (λx y H Q=>∃i j,x=.str i/\y=.str j/\Q (.bl (!(zdR j i 0 j.length 1).isEmpty)) H):=by
 intro pins s σ H x y v u Q I z B h;obtain⟨i,j,rfl,rfl,q⟩:=h;obtain⟨t,rfl⟩:=z;obtain⟨t',rfl⟩:=B;exact in_str (a9 I q rfl)
theorem R0:OpR X (zaq .Is) (λx y H Q=>y=.non/\Q (.bl (decide (x=.non))) H):=by
 intro pins s σ H x y v u Q I z B h;obtain⟨rfl,q⟩:=h;cases B;refine is_none_gen (a9 I q ?_);cases x <;> first
  | (cases z;rfl)
  | (obtain⟨t,rfl⟩:=z;rfl)
theorem NQ:OpR X (zaq .IsNot) (λx y H Q=>y=.non/\Q (.bl (!decide (x=.non))) H):=by
 intro pins s σ H x y v u Q I z B h;obtain⟨rfl,q⟩:=h;cases B;refine isnot_none_gen (a9 I q ?_);cases x <;> first
  | (cases z;rfl)
  | (obtain⟨t,rfl⟩:=z;rfl)
theorem OpR.or(h:OpR X f r)(h':OpR X f r'):OpR X f (λx y H Q=>r x y H Q\/r' x y H Q):=by
 intro pins s σ H x y v u Q I z B q;rcases q with q|q
 ·exact h pins s σ H x y v u Q I z B q
 ·exact h' pins s σ H x y v u Q I z B q
theorem J2(b:Expr)(h:op≠.In:=by decide)(h2:op≠.NotIn:=by decide):zce op b=false:=by
 have q:(op == CmpOp.In)=false:=by cases op <;> first|rfl|exact absurd rfl h
 have z:(op == CmpOp.NotIn)=false:=by cases op <;> first|rfl|exact absurd rfl h2
 cases b <;> simp[zce,q,z]
theorem OD(z:OpR X (zaq op) r)(G:PE X a ta)(B:PE X b tb)(N:zce op b=false):PE X (.Compare a [op] [b] pos) (U3 r ta tb):=by
 intro pins s σ H Q I h;exact wpAny_Compare1 (UO G B I h λv u U x y H2 M F J q=>z pins U σ H2 x y v u Q M F J q) N
def KC(t:TE):TT:=λσ H Q=>t σ H λx H'=>∃k,x=.bl k/\Q k H'
theorem C6{op:CmpOp}{r:R2}(q:OpR X (zaq op) r)(Y:PE X a ta)(U:PE X b tb)(hm:zce op b=false):PT X (.Compare a [op] [b] pos) (KC (U3 r ta tb)):=by
 intro pins s σ H Q I h;refine wpAny_isTrue_Compare1 (bL (Y pins s σ H _ I h) λv B ⟨x,H1,G,r1,q1⟩=>bL (U pins B σ H1 _ G q1) λu s2 ⟨y,H2,I2,J,F⟩=>
  bL (q pins s2 σ H2 x y v u _ I2 r1 J F) λc s3 ⟨z,W,N,r3,k,e,M⟩=>?_) hm
 subst e;cases r3;exact zbx ⟨W,N,M⟩
def AY(r G:R2)(ta tb tc:TE):TE:=λσ H Q=>ta σ H λx H1=>tb σ H1 λy H2=>r x y H2 λz q=>∃k,z=.bl k /\
 (if k=true then tc σ q λF B=>G y F B Q else Q (.bl false) q)
theorem GS{op q:CmpOp}{r J:R2}(ho:OpR X (zaq op) r)(B:OpR X (zaq q) J)(ha:PE X a ta)(hb:PE X b tb)(hc:PE X c tc)
  (hm:zcW [op,q] [b,c]=false:=by with_unfolding_all rfl):PE X (.Compare a [op,q] [b,c] pos) (AY r J ta tb tc):=by
 intro pins s σ H Q I h;refine Compare_chain (bL (ha pins s σ H _ I h) λv s1 ⟨x,H1,I1,r1,q1⟩=>chain_link (bL (hb pins s1 σ H1 _ I1 q1) λu s2 ⟨y,H2,I2,N,U⟩=>
  bL (ho pins s2 σ H2 x y v u _ I2 r1 N U) λd s3 ⟨z,M,G,r3,k,e,F⟩=>?_)) hm
 subst e;cases r3;refine zbx ?_;cases k with
 | false=>exact ite_ff ⟨.bl false,M,G,rfl,F⟩
 | true=>exact ite_tt (chain_last (bL (hc pins s3 σ M _ G F) λw' W ⟨z',Y,I4,r4,q4⟩=>B pins W σ Y y z' u w' Q I4 N r4 q4))
theorem HN{op q:CmpOp}{r J:R2}(ho:OpR X (zaq op) r)(B:OpR X (zaq q) J)(ha:PE X a ta)(hb:PE X b tb)(hc:PE X c tc)
  (hm:zcW [op,q] [b,c]=false:=by with_unfolding_all rfl):PT X (.Compare a [op,q] [b,c] pos) (KC (AY r J ta tb tc)):=by
 intro pins s σ H Q I h;refine isTrue_chain (bL (ha pins s σ H _ I h) λv s1 ⟨x,H1,I1,r1,q1⟩=>test_link (bL (hb pins s1 σ H1 _ I1 q1) λu s2 ⟨y,H2,I2,N,U⟩=>
  bL (ho pins s2 σ H2 x y v u _ I2 r1 N U) λd s3 ⟨z,M,G,r3,k,e,F⟩=>?_)) hm
 subst e;cases r3;refine zbx ?_;cases k with
 | false=>
  obtain⟨k',e',q'⟩:=F;cases e';exact ite_ff ⟨M,G,q'⟩
 | true=>
  refine ite_tt (test_last (bL (hc pins s3 σ M _ G F) λw' Y ⟨z',H4,I4,r4,q4⟩=>bL (B pins Y σ H4 y z' u w' _ I4 N r4 q4) λd' s5 ⟨z2,H5,I5,r5,k2,e2,W⟩=>?_));subst e2;cases r5;exact zbx ⟨H5,I5,W⟩
theorem qW:(zaj:Nat)<2^63:=by rw[zcf];decide
theorem zX:OpR X (zaW .Add) (λx y H Q=>∃i j,x=.str i/\y=.str j/\i.length+j.length<=zaj/\Q (.str (i++j)) H):=by
 intro pins s σ H x y v u Q I z B h;obtain⟨i,j,rfl,rfl,hz,q⟩:=h;obtain⟨t,rfl⟩:=z;obtain⟨t',rfl⟩:=B;exact add_str (λt' tk=>⟨.str (i++j),H,I.tok _,⟨_,rfl⟩,q⟩) hz
theorem vals1(r:Vals [x] us):∃u,us=[u]/\RelV x u:=by
 cases r with
 | cons r1 r2=>cases r2;exact⟨_,rfl,r1⟩
theorem vals2(r:Vals [x,y] us):∃u q,us=[u,q]/\RelV x u/\RelV y q:=by
 cases r with
 | cons r1 r2=>
  cases r2 with
  | cons r3 r4=>cases r4;exact⟨_,_,rfl,r1,r3⟩
theorem FG(B:X.calm=true):CallR X (.builtin "max") (λxs H Q=>∃i j,xs=[.int i,.int j]/\Q (.int (if j>i then j else i)) H):=by
 intro pins s σ H xs us Q I r h;obtain⟨i,j,rfl,q⟩:=h;obtain⟨u,F,rfl,⟨t,rfl⟩,⟨t',rfl⟩⟩:=vals2 r;refine max_two_ints (I.ok.hd B) λh' tk k=>⟨_,H,I.kept k,?_,q⟩
 by_cases z:j>i
 ·rw[if_pos z,if_pos z];exact⟨_,rfl⟩
 ·rw[if_neg z,if_neg z];exact⟨_,rfl⟩
theorem FR(B:X.calm=true):CallR X (.builtin "min") (λxs H Q=>∃i j,xs=[.int i,.int j]/\Q (.int (if j<i then j else i)) H):=by
 intro pins s σ H xs us Q I r h;obtain⟨i,j,rfl,q⟩:=h;obtain⟨u,F,rfl,⟨t,rfl⟩,⟨t',rfl⟩⟩:=vals2 r;refine min_two_ints (I.ok.hd B) λh' tk k=>⟨_,H,I.kept k,?_,q⟩
 by_cases z:j<i
 ·rw[if_pos z,if_pos z];exact⟨_,rfl⟩
 ·rw[if_neg z,if_neg z];exact⟨_,rfl⟩
theorem FD:CallR X (.type "int") (λxs H Q=>(∃i,xs=[.int i]/\Q (.int i) H)\/∃k,xs=[.bl k]/\Q (.int (if k then 1 else 0)) H):=by
 intro pins s σ H xs us Q I r h;rcases h with⟨i,rfl,q⟩|⟨k,rfl,q⟩
 ·obtain⟨u,rfl,t,rfl⟩:=vals1 r
  exact call_int_int ⟨.int i,H,I,⟨_,rfl⟩,q⟩
 ·obtain⟨u,rfl,z⟩:=vals1 r
  cases z;exact call_int_bool ⟨.int (if k then 1 else 0),H,I.tok _,⟨_,rfl⟩,q⟩
def YY(K:zaf)(x:V)(H:Hp)(n:Nat):Prop:=
 match x with
 | .str y=>y.length<=zaj/\n=y.length
 | .byt y=>y.size<=zaj/\n=y.size
 | .ref p=>(∃xs,SqL K H p xs/\n=xs.length)\/∃xs,SqT K H p xs/\n=xs.length
 | _=>False
theorem qC:CallR X (.builtin "len") (λxs H Q=>∃x n,xs=[x]/\YY X.K x H n/\Q (.int n) H):=by
 intro pins s σ H xs us Q I r h;obtain⟨x,n,rfl,e,q⟩:=h;obtain⟨u,rfl,M⟩:=vals1 r;have Y:=qW;have hs:zaj=16777216:=zcf;cases x with
 | str y=>
  obtain⟨t,rfl⟩:=M;obtain⟨U,B⟩:y.length<=zaj/\n=y.length:=e;subst B;exact len_str (by lia) ⟨.int _,H,I.tok _,⟨_,rfl⟩,q⟩
 | byt y=>
  obtain⟨t,rfl⟩:=M;obtain⟨U,B⟩:y.size<=zaj/\n=y.size:=e;subst B;exact PySem.W.len_bytes (by lia) ⟨.int _,H,I.tok _,⟨_,rfl⟩,q⟩
 | ref p=>
  cases M;have B:(∃xs,SqL X.K H p xs/\n=xs.length)\/∃xs,SqT X.K H p xs/\n=xs.length:=e;rcases B with⟨xs,G,B⟩|⟨xs,G,B⟩
  ·subst B
   obtain⟨N,J,F,hz⟩:=I.list G;have z:=J.length;exact Calls.call_len_list F.isList (by simp only[zaz];lia) ⟨.int xs.length,H,I.tok _,⟨_,by simp only[zaz];rw[z]⟩,q⟩
  ·subst B
   obtain⟨N,J,F,hz⟩:=I.tuple G;have z:=J.length;exact len_tuple F (by simp only[zaz];lia) ⟨.int xs.length,H,I.tok _,⟨_,by simp only[zaz];rw[z]⟩,q⟩
 | _=>exact(show False from e).elim
end
structure ObjM(h:Heap)(x dx C:Addr)(mA:Str->Option Value):Prop where
 obj:h.get? x=some (zeP C dx)
 ns:h.Ns1 dx mA
 ne:dx≠x
theorem E2{h:Heap}{dx:Addr}{mA:Str->Option Value}(n:h.Ns1 dx mA):∃od,h.get? dx=some od/\∀name,PySem.W.lookIn name od=some (mA name):=by
 obtain⟨o,es,ep,F,J,M,_,U⟩:=n;refine⟨o,F,λname=>?_⟩;have e:=U name;unfold nsFind findBy at e;rw[<- Array.find?_toList]at e;unfold PySem.W.lookIn;rw[J];dsimp only;split
 ·rename_i y q
  rw[q]at e;exact congrArg some e
 ·rename_i q
  rw[q]at e;have a:es.toList.any (·.refKey)=false:=by
   rw[List.any_eq_false];intro y G;obtain⟨z,t,B⟩:=M y (Array.mem_toList_iff.mp G);simp[DictEntry.refKey,B]
  have N:¬ es.toList.any (·.refKey)=true:=by rw[a];exact zau
  rw[if_neg N];exact congrArg some e
theorem ObjM.look(I:ObjM h x dx C mA):∃od,PySem.W.InstAt h x (zeP C dx) C (some od)/\∀name,PySem.W.lookIn name od=some (mA name):=
 let ⟨od,ho,hl⟩:=E2 I.ns
 ⟨od,⟨I.obj,rfl,rfl,ho⟩,hl⟩
section
variable {prog:zam}{w:World}{A:zar}{E:Value->zab->Prop}{s:zab}{K:zaf}{x dx C f:Addr}{mA:Str->Option Value}{name:Str}{v:Value}
end
theorem RelO.some_of(r:RelO (some v) o):∃u,o=some u/\RelV v u:=by
 cases o with
 | none=>exact(show False from r).elim
 | some u=>exact⟨u,rfl,r⟩
section
variable {P:zam}{w:World}{H H':Hp}{h h':Heap}{a C dx:Addr}{fs fs':List (Str×V)}
theorem LD(B:HOk P w H h)(e:H a=some (.ins C dx fs)):∃mA,ObjM h a dx C mA/\(∀f,RelO (fs.lookup f) (mA f))/\PySem.Within mA (fs.map (·.1))/\fs.length<=1000/\H dx=some (.own a):=by
 obtain⟨d,z,ne,ob,mA,n,r,q⟩:=(show ObjOk P w H h a (.ins C dx fs)from B a _ e);exact⟨mA,⟨ob,n,ne⟩,r,q,z,d⟩
end
structure Cls(K:zaf)(C:Addr):Prop where
 pg:PySem.W.plainGet K C Str.empty=true
 hd:PySem.W.hasDictIn K C=true
 po:PySem.W.plainOver K C=true
 sa:PySem.W.findIn K (.ref C) "__setattr__" = some (some (.builtin "object.__setattr__"))
theorem Cls.get{K:zaf}{C:Addr}(c:Cls K C)(f:Str):PySem.W.plainGet K C f=true:=c.pg
section
variable {X:Cx}{pins:List (Addr×Obj)}{σ:St}{H:Hp}{s:zab}{a C dx:Addr}{fs:List (Str×V)}{f:Str}{v:V}{A:zar}{E:Value->zab->Prop}
end
section
variable {X:Cx}{o e value:Expr}{f:Str}{pos pos' tpos:Pos}{ta tv:TE}
end
section
variable {X:Cx}{pins:List (Addr×Obj)}{σ:St}{H:Hp}{s:zab}{A:zar}{E:Value->zab->Prop}{Q:Value->zab->Prop}{c:Value}{b:Bool}
inductive TyOf(K:zaf)(H:Hp):V->Value->Prop where
 | non:TyOf K H .non (.type "NoneType")
 | bl (x:Bool):TyOf K H (.bl x) (.type "bool")
 | int (i:Int):TyOf K H (.int i) (.type "int")
 | str (x:Str):TyOf K H (.str x) (.type "str")
 | flt (x:UInt64):TyOf K H (.flt x) (.type "float")
 | lst {a:Addr} {xs:List V} (e:H a=some (.lst xs)):TyOf K H (.ref a) (.type "list")
 | frz {a:Addr} {o:Obj} {xs:List V} (e:H a=some (.frz o (.lst xs))):TyOf K H (.ref a) (.type "list")
 | tup {a:Addr} {xs:List V} (e:H a=some (.tup xs)):TyOf K H (.ref a) (.type "tuple")
 | dK {a:Addr} {kvs:List (Key×V)} (e:H a=some (.dK kvs)):TyOf K H (.ref a) (.type "dict")
 | dT {a:Addr} {kvs:List (List Key×V)} (e:H a=some (.dT kvs)):TyOf K H (.ref a) (.type "dict")
 | ins {a C dx:Addr} {fs:List (Str×V)} (e:H a=some (.ins C dx fs)) (cl:Cls K C) (ha:PySem.W.findIn K (.ref C) "__class__" = some (some (.builtin "object.__class__")))
   (hn:PySem.W.specialIn K (.builtin "object.__class__") "__get__" = some (some (.builtin "getset_descriptor.__get__"))) (htk:PySem.W.takesIn K (.builtin "object.__class__")=some true)
   (hm:PySem.W.mroIn K C (.type "object")=some true):TyOf K H (.ref a) (.ref C)
theorem FA(I:Inv X pins σ H s)(B:RelV x u)(ty:TyOf X.K H x t)(e:zdk X.K t c=some b)(h:∀tk,Q (.bool b) {s with toks:=tk}) :
  wpAny (model X.prog X.w) A (call (.builtin "isinstance") [u,c]) Q E s:=by
 cases ty with
 | non=>cases(show u=zaL from B);exact zbz PySem.W.kitx_none I.kIn zbf e (λz=>nomatch z) h
 | bl y=>cases(show u=zcb y from B);exact zbz PySem.W.kitx_bool I.kIn zbf e (λz=>nomatch z) h
 | int i=>obtain⟨t,q⟩:=(show ∃t,u=Value.int i t from B);cases q;exact zbz PySem.W.kitx_int I.kIn zbf e (λz=>nomatch z) h
 | str y=>obtain⟨t,q⟩:=(show ∃t,u=Value.str y t from B);cases q;exact zbz PySem.W.kitx_str I.kIn zbf e (λz=>nomatch z) h
 | flt y=>obtain⟨t,q⟩:=(show ∃t,u=Value.float y t from B);cases q;exact zbz PySem.W.kitx_float I.kIn zbf e (λz=>nomatch z) h
 | @lst a xs ea=>
  cases(show u=zal a from B);obtain⟨_,_,n,_,h1⟩:=(show ObjOk X.prog X.w H s.heap a (.lst xs)from I.hok a _ ea);exact zbz PySem.W.kitx_list I.kIn ⟨_,h1,rfl⟩ e (λz=>nomatch z) h
 | @frz a ob xs ea=>
  cases(show u=zal a from B);obtain⟨_,_,_,n,_,h1⟩:=(show ObjOk X.prog X.w H s.heap a (.frz ob (.lst xs))from I.hok a _ ea);exact zbz PySem.W.kitx_list I.kIn ⟨_,h1,rfl⟩ e (λz=>nomatch z) h
 | @tup a xs ea=>
  cases(show u=zal a from B);obtain⟨_,_,_,p⟩:=(show ObjOk X.prog X.w H s.heap a (.tup xs)from I.hok a _ ea);obtain⟨o,h1,h2,_⟩:=p;exact zbz PySem.W.kitx_tuple I.kIn ⟨o,h1,h2⟩ e (λz=>nomatch z) h
 | @dK a kvs ea=>
  cases(show u=zal a from B);obtain⟨_,_,vs,_,p⟩:=(show ObjOk X.prog X.w H s.heap a (.dK kvs)from I.hok a _ ea);obtain⟨o,es,ep,h1,h2,_⟩:=p;exact zbz zdS I.kIn ⟨o,h1,h2.1⟩ e (λz=>nomatch z) h
 | @dT a kvs ea=>
  cases(show u=zal a from B);obtain⟨_,_,xs,_,o,es,ep,h1,h2,_⟩:=(show ObjOk X.prog X.w H s.heap a (.dT kvs)from I.hok a _ ea);exact zbz zdS I.kIn ⟨o,h1,h2.1⟩ e (λz=>nomatch z) h
 | @ins a C dx fs ea cl ha hn htk hm=>
  cases(show u=zal a from B);obtain⟨mA,O,_⟩:=LD I.hok ea;obtain⟨od,J,_⟩:=O.look;exact zbz (PySem.W.kitx_own (cl.get _) cl.hd ha hn htk hm) I.kIn J e (λz=>nomatch z) h
end
structure Room(k:Nat)(A:zar):Prop where
 hd:A.handled=none
 dp:A.depth+3*k+5<recursionLimit
 un:A.units+16*k+200<cLine
theorem Room.mono(r:Room k A)(h:j<=k):Room j A:=⟨r.hd,by have:=r.dp;lia,by have:=r.un;lia⟩
theorem Room.deeper(r:Room (k+1) A)(env:Env):Room k (A.deeper env):=
 ⟨r.hd,by have:=r.dp;show A.depth+1+3*k+5<_;lia,by have:=r.un;show A.units+3+16*k+200<_;lia⟩
theorem Room.depth(r:Room k A):A.depth<recursionLimit:=by have:=r.dp;lia
theorem Room.units(r:Room k A):A.units+64<cLine:=by have:=r.un;lia
theorem Room.units0(r:Room k A):A.units<cLine:=by have:=r.un;lia
def UJ:TA:=λ_ H Q=>Q [] H
def DM(ta:TE)(q:TA):TA:=λσ H Q=>ta σ H λx H1=>q σ H1 λxs H2=>Q (x::xs) H2
section
variable {X:Cx}{e:Expr}{es:List Expr}{te:TE}{t:TA}{pos:Pos}
theorem lM:PA X [] UJ:=λ_ _ _ _ H Q I h=>zeS ⟨[],H,I,.nil,h⟩
theorem fW(J:PE X e te)(G:PA X es t)(hs:zah (e::es) X.env=(false,eval e X.env)::zah es X.env:=by rfl):PA X (e::es) (DM te t):=by
 intro pos pins s σ H Q I h;rw[hs];show wpAny _ _ (spliced ((false,eval e X.env)::zaJ pos (zah es X.env))) _ _ s;refine zdT (bL (J pins s σ H _ I h) λu q ⟨x,H1,B,M,U⟩=>?_);exact bL (G pos pins q σ H1 _ B U) λus W ⟨xs,H2,N,F,z⟩=>⟨x::xs,H2,N,.cons M F,z⟩
def Y8(t:TA):TE:=λσ H Q=>t σ H λxs H1=>xs.length<=zaj/\∀p,H1 p=none->Q (.ref p) (upd H1 p (.tup xs))
def Y7(t:TA):TE:=λσ H Q=>t σ H λxs H1=>xs.length<=zaj/\∀p,H1 p=none->Q (.ref p) (upd H1 p (.lst xs))
theorem R8{x1}(h:PA X es t):PE X (.Tuple es x1 pos) (Y8 t):=by
 intro pins s σ H Q I G;refine wpAny_Tuple_spliced (bL (h pos pins s σ H _ I G) λus B ⟨xs,H1,F,r,z,q⟩=>⟨by rw[<- r.length];exact z,?_⟩);have J:H1 B.heap.objs.size=none:=F.hok.fresh (zan _);refine⟨.ref B.heap.objs.size,upd H1 B.heap.objs.size (.tup xs),F.laid (t':=B.toks) (λb u e=>zag _ e) (zan _) ?_,rfl,q _ J⟩;exact⟨z,us,r,⟨_,zat _ rfl,rfl,_,rfl,rfl⟩⟩
theorem RN(h:PA X es t):PE X (.List es pos) (Y7 t):=by
 intro pins s σ H Q I G;refine wpAny_List_spliced (bL (h pos pins s σ H _ I G) λus B ⟨xs,H1,F,r,z,q⟩=>⟨by rw[<- r.length];exact z,?_⟩);have J:H1 B.heap.objs.size=none:=F.hok.fresh (zan _);refine⟨.ref B.heap.objs.size,upd H1 B.heap.objs.size (.lst xs),F.laid (t':=B.toks) (λb u e=>zag _ e) (zan _) ?_,rfl,q _ J⟩;exact⟨z,us,0,r,zat _ rfl⟩
end
abbrev Sp:=List V->Hp->VK->XK->Prop
abbrev GA:=List Env->Hp->zab->XK->Value->zab->Prop
structure Env0(P:zam)(w:World)(K:zaf)(mg:Str->Option Value)(base:Heap)(A:zar)(outer:List Env)(s:zab)(H:Hp):Prop where
 frames:A.frames=some outer
 mod:Mod K mg base
 bs:∀b o,base.get? b=some o->s.heap.get? b=some o/\H b=none
 bsz:base.objs.size<=s.heap.objs.size
 funs:s.heap.FunFrames base outer
 frf:∀b∈frs outer,H b=none
 hok:HOk P w H s.heap
 bare:zcc s.gens
def CE(q:List Env)(P:zam)(w:World)(H:Hp)(s:zab)(Q:VK)(u:Value)(s':zab):Prop:=
 ∃v H',s'.os=s.os/\zcc s'.gens/\Un (frs q) [] H H' s.heap s'.heap/\HOk P w H' s'.heap/\RelV v u/\Q v H'
def CR(CX:GA)(outer:List Env)(P:zam)(w:World)(H:Hp)(s:zab)(Q:VK)(E:XK)(r:Result)(s':zab):Prop:=
 match r with
 | .ok (.ret u)=>CE outer P w H s Q u s'
 | .ok _=>False
 | .error e=>CX outer H s E e s'
structure FnOk(P:zam)(w:World)(K:zaf)(mg:Str->Option Value)(base:Heap)(CX:GA)(k:Nat)(f:Addr)(fd:zbq)(ps:List Str)(sp:Sp):Prop where
 len:∀vs H Q E,sp vs H Q E->vs.length=ps.length
 run:∀(A:zar) (outer:List Env) (s:zab) (H:Hp) (args:Args) (us:List Value) (vs:List V) (Q:VK) (E:XK),Room k A->Env0 P w K mg base A outer s H->BindsTo s fd args (ps.zip us)->Vals vs us->sp vs H Q E->
  zbr (model P w) A (.call (.ref f) args) (CR CX outer P w H s Q E) s
theorem FnOk.mono{P:zam}{w:World}{K:zaf}{mg:Str->Option Value}{base:Heap}{CX:GA}{j k:Nat}{f:Addr}{fd:zbq}{ps:List Str}{sp:Sp}(F:FnOk P w K mg base CX j f fd ps sp)(h:j<=k) :
  FnOk P w K mg base CX k f fd ps sp:=⟨F.len,λA q s H args us vs Q E z=>F.run A q s H args us vs Q E (z.mono h)⟩
section
variable {X:Cx}{pins:List (Addr×Obj)}{σ:St}{H:Hp}{s s':zab}
theorem Inv.env0(I:Inv X pins σ H s):Env0 X.prog X.w X.K X.mg X.base X.A X.stack s H:=
 ⟨I.ok.frames,I.ok.mod,I.bs,zbd I.ok.bsz I.sz,I.stack,I.stkFree,I.hok,I.bare⟩
theorem Inv.after(I:Inv X pins σ H s)(h:CE X.stack X.prog X.w H s Q u s'):EP X pins σ Q u s':=by
 obtain⟨v,H',os,B,un,G,r,q⟩:=h;obtain⟨J,g,d,t,F⟩:=s';obtain rfl:F=s.os:=os;exact⟨v,H',I.call (h':=J) (g':=g) (d':=d) (t':=t) (ch:=[]) un G B (λb z=>absurd z (by simp)),r,q⟩
end
def U5(sp:Sp)(dvs:List V)(E:XK)(t:TA):TE:=λσ H Q=>t σ H λvs H1=>sp (vs++dvs) H1 Q E
def Binds(K:zaf)(fd:zbq)(ps:List Str)(ds:List Value):Prop:=
 ∀(s:zab) (us:List Value),K.In s.heap->(us++ds).length=ps.length->BindsTo s fd ⟨us,[]⟩ (ps.zip (us++ds))
theorem Binds.all{K:zaf}{fd:zbq}{ps:List Str}(h:∀us:List Value,us.length=ps.length->bindArgs fd ⟨us,[]⟩=pure (ps.zip us)):Binds K fd ps []:=λs us _ q=>by
 rw[zcC]at q ⊢;exact .of_eq (h us q)
def AZ(CX:GA)(X:Cx)(E:XK):Prop:=∀(pins:List (Addr×Obj)) (σ:St) (H:Hp) (s:zab) (e:Value) (s':zab),Inv X pins σ H s->CX X.stack H s E e s'->X.xe e s'
section
variable {X:Cx}{CX:GA}{k:Nat}{f C:Addr}{fd:zbq}{ps:List Str}{sp:Sp}{dvs:List V}{ds:List Value}{E:XK}{x m:Str}{p pos apos:Pos}{e o:Expr}{es:List Expr}{ta:TE}{t:TA}
theorem TZ(F:FnOk X.prog X.w X.K X.mg X.base CX k f fd ps sp)(J:Room k X.A)(M:Binds X.K fd ps ds)(B:Vals dvs ds)(G:AZ CX X E)
  (I:Inv X pins σ H s) (r:Vals vs us) (h:sp (vs++dvs) H Q E):wpAny (model X.prog X.w) X.A (call (.ref f) us) (EP X pins σ Q) X.xe s:=by
 have z:Vals (vs++dvs) (us++ds):=r.append B;have N:(us++ds).length=ps.length:=by rw[<- z.length];exact F.len _ _ _ _ h
 refine wpAny_call (zdU (F.run X.A X.stack s H ⟨us,[]⟩ (us++ds) (vs++dvs) Q E J I.env0 (M s us I.kIn N) z h) λr s' q=>?_);cases r with
 | error e=>exact G pins σ H s e s' I q
 | ok fl=>
  cases fl with
  | ret u=>exact I.after q
  | next=>exact zbE q
  | brk=>exact zbE q
  | cont=>exact zbE q
theorem MY(F:FnOk X.prog X.w X.K X.mg X.base CX k f fd ps sp)(U:Room k X.A)(hg:Gl X x)(hm:X.mg x=some (.ref f))(M:zcp X.K (.ref f)=true)(Y:Binds X.K fd ps ds)(J:Vals dvs ds)(N:AZ CX X E)
  (ha:PA X (e::es) t) (B:(x == ("__debug__" : Str))=false:=by decide) (he:zah (e::es) X.env=(false,eval e X.env)::zah es X.env:=by rfl) (z:(zaJ pos (zah es X.env)).any (·.1)=false:=by rfl) :
  PE X (.Call (.Name x p) (e::es) [] pos) (U5 sp dvs E t):=by
 intro pins s σ H Q I h;refine zdV (CN I hg hm ?_ B);refine PySem.W.callWith_K (h₀:=X.base) I.ok.mod.kin M (bL (ha pos pins s σ H _ I h) λus s1 ⟨vs,H1,G,r,q⟩=>⟨G.kIn,?_⟩) he z;exact TZ F U Y J N G r q
structure Mk(K:zaf)(C f:Addr):Prop where
 makes:PySem.W.makesIn K C=true
 init:PySem.W.findIn K (.ref C) "__init__" = some (some (.ref f))
 fn:PySem.W.isFn K (.ref f)=true
 kp:zcp K (.ref C)=true
end
def PK(X:Cx)(kws:List zbG)(t:TA):Prop:=
 ∀(pos:Pos) (pins:List (Addr×Obj)) (s:zab) (σ:St) (H:Hp) (Q:List V->Hp->Prop),Inv X pins σ H s->t σ H Q->wpAny (model X.prog X.w) X.A (evalAll ((zcD pos (zcE kws X.env)).map (·.2))) (AP X pins σ Q) X.xe s
section
variable {X:Cx}{CX:GA}{k:Nat}{f C:Addr}{fd:zbq}{ps ks:List Str}{sp:Sp}{E:XK}{x m:Str}{p pos apos kpos:Pos}{e o:Expr}{es:List Expr}{kws:List zbG}{te ta:TE}{t tk:TA}{nm:Option Str}
theorem QA:PK X [] UJ:=λ_ _ _ _ H Q I h=>wpAny_evalAll_nil ⟨[],H,I,.nil,h⟩
theorem LC(J:PE X e te)(G:PK X kws t):PK X (⟨nm,e,kpos⟩::kws) (DM te t):=by
 intro pos pins s σ H Q I h;show wpAny _ _ (evalAll ((do let v <- eval e X.env;standAt pos;pure v)::(zcD pos (zcE kws X.env)).map (·.2))) _ _ s;refine wpAny_evalAll_cons (zaa (bL (J pins s σ H _ I h) λu q ⟨x,H1,B,M,U⟩=>zaa (zdj (zac ?_))));exact bL (G pos pins q σ H1 _ B U) λus W ⟨xs,H2,N,F,z⟩=>⟨x::xs,H2,N,.cons M F,z⟩
variable {g:List Value->List Value->List Value}{gV:List V->List V->List V}
end
structure FnScope(N P:List Str)(sc:Scope):Prop where
 kind:sc.kind=.function
 co:sc.isCoroutine=false
 gen:sc.isGenerator=false
 nd:N.Nodup
 pre:N.take P.length=P
 par:∀x∈P,sc.names.lookup x=some .local\/sc.names.lookup x=some .cell
 nofree:∀y∈sc.names,y.2≠.free
theorem tL{zbs:Str->Option zbY}:∀ {binds:List (Str×Value)} {m:Str->Option Value},(∀v,(x,v)∉binds)->bindL zbs binds m x=m x
 | [],_,_=>rfl
 | (n,v)::r,m,h=>by
  unfold bindL;rw[tL λw hw=>h w (zav _ hw)];split
  ·have:x≠n:=by rintro rfl;exact h v zas
   simp[this]
  ·rfl
theorem tV{zbs:Str->Option zbY}:∀ {binds:List (Str×Value)} {m:Str->Option Value},(∀v,(x,v)∉binds)->bindC zbs binds m x=m x
 | [],_,_=>rfl
 | (n,v)::r,m,h=>by
  unfold bindC;rw[tV λw hw=>h w (zav _ hw)];split
  ·rfl
  ·have:x≠n:=by rintro rfl;exact h v zas
   simp[this]
theorem sN{zbs:Str->Option zbY}{x:Str}{v:Value}:∀ {P:List Str} {vs:List Value} {i:Nat} {m:Str->Option Value},P.Nodup->P[i]?=some x->vs[i]?=some v->zbs x=some .local->
  bindL zbs (P.zip vs) m x=some v
 | [],_,_,_,_,h,_,_=>by simp at h
 | _::_,[],_,_,_,_,h,_=>by simp at h
 | p::P,w::vs,0,m,nd,h1,h2,hk=>by
  simp at h1 h2;subst h1;subst h2;show bindL zbs ((p,w)::P.zip vs) m p=_;unfold bindL;rw[tL λv q=>(List.nodup_cons.mp nd).1 (zeT q).1,if_pos hk];simp
 | p::P,w::vs,i+1,m,nd,h1,h2,hk=>by
  show bindL zbs ((p,w)::P.zip vs) m x=_;unfold bindL;exact sN (i:=i) (List.nodup_cons.mp nd).2 (by simpa using h1) (by simpa using h2) hk
theorem sZ{zbs:Str->Option zbY}{x:Str}{v:Value}:∀ {P:List Str} {vs:List Value} {i:Nat} {m:Str->Option Value},P.Nodup->P[i]?=some x->vs[i]?=some v->zbs x≠some .local->
  bindC zbs (P.zip vs) m x=some v
 | [],_,_,_,_,h,_,_=>by simp at h
 | _::_,[],_,_,_,_,h,_=>by simp at h
 | p::P,w::vs,0,m,nd,h1,h2,hk=>by
  simp at h1 h2;subst h1;subst h2;show bindC zbs ((p,w)::P.zip vs) m p=_;unfold bindC;rw[tV λv q=>(List.nodup_cons.mp nd).1 (zeT q).1,if_neg hk];simp
 | p::P,w::vs,i+1,m,nd,h1,h2,hk=>by
  show bindC zbs ((p,w)::P.zip vs) m x=_;unfold bindC;exact sZ (i:=i) (List.nodup_cons.mp nd).2 (by simpa using h1) (by simpa using h2) hk
def start(N:List Str)(vs:List V):St:=vs.map some++zaO (N.length-vs.length) none
def rR(CX:GA)(P:zam)(w:World)(K:zaf)(mg:Str->Option Value)(base:Heap)(N:List Str)(q:Str)(scope:Scope)(f:Addr)(B:Value)(A:zar)(outer:List Env)(s:zab)(H:Hp)(E:XK):Cx where
 prog:=P
 w:=w
 K:=K
 mg:=mg
 base:=base
 A:=A.deeper (zbn q scope s.heap.objs.size f B)
 N:=N
 s₀:=s
 H₀:=H
 env:=zbn q scope s.heap.objs.size f B
 outer:=outer
 stack:=zbn q scope s.heap.objs.size f B::outer
 ex:=[]
 calm:=true
 fn:=λ_=>true
 pn:=[]
 xe:=λe s'=>wpAny (model P w) (A.deeper (zbn q scope s.heap.objs.size f B)) (leaving (zbn q scope s.heap.objs.size f B) e) (λ_ z=>CX outer H s E e z) (λF z=>CX outer H s E F z) s'
theorem qH{sc:Scope}{n:Nat}{x:Str}(h:sc.names.lookup x=some .cell):∃c,(zcF n sc.names []).lookup x=some c:=by
 have q:=PySem.W.cellsFrom_some sc.names n [] (.inl h);exact Option.isSome_iff_exists.mp q
theorem DU{CX:GA}{P:zam}{w:World}{K:zaf}{mg:Str->Option Value}{base:Heap}{N ps:List Str}{F:Str}{scope:Scope}{f:Addr}{Y:Value}{A:zar}{B:List Env}{s s1:zab}{H:Hp}{E:XK}{us:List Value}{vs:List V}
  (S:FnScope N ps scope) (hd:A.handled=none) (G:Env0 P w K mg base A B s H) (hl:vs.length=ps.length) (r:Vals vs us)
  (x:InCallC s s.heap.objs.size (bindL (zbn F scope s.heap.objs.size f Y).kindOf (ps.zip us) λ_=>none) (zcF (s.heap.objs.size+1) scope.names []) (bindC (zbn F scope s.heap.objs.size f Y).kindOf (ps.zip us) λ_=>none) s1) :
  Inv (rR CX P w K mg base N F scope f Y A B s H E) [] (start N vs) H s1:=by
 have ae:ps.length<=N.length:=by have:=congrArg zbP S.pre;rw[zcX]at this;lia
 obtain⟨h1,tk,rfl,hk⟩:=x.done;have M:∀b:Addr,b∉(rR CX P w K mg base N F scope f Y A B s H E).ex:=λb z=>absurd (show b∈([]:List Addr)from z) (by simp)
 refine⟨⟨G.mod,S.kind,rfl,rfl,zan _,λy z c h1 h2=>?_,λy J=>?_,λy c _ h=>?_,λ_=>hd,Around.frames_deeper G.frames,.inr ⟨rfl,rfl⟩,λb z=>absurd z (M b),G.bs,G.bsz,λb _ _=>M b,λb z=>absurd z (M b),G.funs,G.frf⟩,
  rfl,G.bare,Un.kept hk,⟨_,x.toInCall.ns,λi y v h1 h2 h3=>?_⟩,λy c h=>⟨_,x.cell y c h⟩,G.hok.fresh (zan _),λy c h=>?_,λp U=>absurd (show p∈([]:List (Addr×Obj))from U) (by simp),G.hok.kept hk,?_⟩
 ·exact name_of_addr x.apart (zdl h1) (zdl h2)
 ·have J:scope.names.lookup y=some .cell\/scope.names.lookup y=some .free:=J
  rcases J with J|J
  ·exact qH J
  ·exact absurd rfl (S.nofree _ (zdl J))
 ·exact zdK (x.above y c (zdl h))
 ·have hi:i<vs.length:=by
   unfold start at h2;by_cases hi:i<vs.length
   ·exact hi
   ·rw[zeU (by simpa using hi)]at h2
    rw[List.getElem?_replicate]at h2;split at h2 <;> cases h2
  have ha:vs[i]?=some v:=by
   unfold start at h2;rw[zdm (by simpa using hi),zaB]at h2;cases e:vs[i]? with
   | none=>rw[e]at h2;cases h2
   | some a=>rw[e]at h2;cases h2;rfl
  obtain⟨u,hu,rv⟩:=r.get ha;have U:ps[i]?=some y:=by
   rw[<- S.pre,List.getElem?_take_of_lt (by lia)];exact h1
  have W:ps.Nodup:=by rw[<- S.pre];exact S.nd.sublist (List.take_sublist _ _)
  refine⟨u,rv,?_⟩;rcases S.par y (zaX U)with k|k
  ·exact .inl ⟨k,sN W U hu k⟩
  ·obtain⟨c,e⟩:=qH (n:=s.heap.objs.size+1) k
   refine .inr ⟨.inl k,c,e,?_⟩;have q:=x.cell y c e;rw[sZ W U hu (by show scope.names.lookup y≠_;rw[k];decide)]at q;exact q
 ·exact G.hok.fresh (zdK (x.above y c (zdl h)))
 ·unfold start
  show _=N.length;rw[zbk,zao,List.length_replicate]
  lia
theorem VH{CX:GA}{P:zam}{w:World}{K:zaf}{mg:Str->Option Value}{base:Heap}{k:Nat}{f:Addr}{name B:Str}{G:Arguments}{body:List Stmt}{scope:Scope}{dV kV ab pm F ct oc:Value}{an od:Option Addr}
  {ad:Array (Option Value)} {N ps:List Str} {sp:Sp} (lk:K.lookup f=some ⟨oc,od,.func (zbH name B G body scope dV kV ab pm an F ct),ad⟩) (ag:zcY K F B=true) (S:FnScope N ps scope)
  (len:∀vs H Q E,sp vs H Q E->vs.length=ps.length)
  (U:∀(A:zar) (z:List Env) (s:zab) (H:Hp) (vs:List V) (Q:VK) (E:XK), Room k (A.deeper (zbn B scope s.heap.objs.size f F)) -> sp vs H Q E ->
   ∃t,PSs (rR CX P w K mg base N B scope f F A z s H E) body t/\t {nx:=λ_ H'=>Q .non H',rt:=Q} (start N vs) H) :
  FnOk P w K mg base CX (k+1) f (zbH name B G body scope dV kV ab pm an F ct) ps sp:=by
 refine⟨len,λA z s H args us vs Q E hr e0 hb r aa=>?_⟩;have hl:=len _ _ _ _ aa;have KX:K.In s.heap:=e0.mod.kin.keeps λb o e=>(e0.bs b o e).1
 have af:s.heap.NoLimit:=e0.mod.nolimit.keeps λb o e=>(e0.bs b o e).1
 have Y:∀y∈ps.zip us,scope.names.lookup y.1=some .local\/(scope.names.lookup y.1=some .cell/\((zcF (s.heap.objs.size+1) scope.names []).lookup y.1).isSome=true):=by
  rintro⟨n,v⟩ hy;rcases S.par n (zeT hy).1 with q|q
  ·exact .inl q
  ·exact .inr ⟨q,PySem.W.cellsFrom_some _ _ _ (.inl q)⟩
 refine codeAny_call_function hr.depth (KX _ _ lk) rfl S.co S.gen rfl (PySem.W.codeRec_of KX ag) (hb _ _ _ _ ?_);refine wpAny_newFunctionEnv_cells S.kind Y λenv he s1 x=>?_
 subst he;refine⟨af.keeps x.toInCall.keep,codeAny_func ?_⟩;obtain⟨t,ht,hq⟩:=U A z s H vs Q E (hr.deeper _) aa;have I:Inv (rR CX P w K mg base N B scope f F A z s H E) [] (start N vs) H s1:=DU S hr.hd e0 hl r x;refine za8 (ht [] s1 (start N vs) H _ I hq) (λfl s' hs=>?_) λe s' hs=>hs
 have fin:∀ {M:St} {H':Hp} {v:V} {u:Value},Inv (rR CX P w K mg base N B scope f F A z s H E) [] M H' s'->RelV v u->Q v H'->CE z P w H s Q u s':=
  λ{M H' v u} J rv q=>⟨v,H',J.os,J.bare,J.base,J.hok,rv,q⟩
 cases fl with
 | ret u=>
  obtain⟨v,M,H',J,rv,q⟩:=hs;exact fin J rv q
 | next=>
  obtain⟨M,H',J,q⟩:=hs;exact fin (v:=V.non) (u:=zaL) J rfl q
 | brk=>
  obtain⟨_,_,_,q⟩:=hs;exact zbE q
 | cont=>
  obtain⟨_,_,_,q⟩:=hs;exact zbE q
section
variable {X:Cx}{x:Str}{p pos:Pos}{e:Expr}{es:List Expr}{t:TA}{id T:String}{r:List V->Hp->VK->Prop}
def X8(r:List V->Hp->VK->Prop)(t:TA):TE:=λσ H Q=>t σ H λvs H1=>r vs H1 Q
theorem qB(U:CallR X (.builtin id) r)(M:Gl X x)(hm:X.mg x=none)(G:zaM x=some (.builtin id))(J:PA X (e::es) t)(N:x ≠ "__name__" := by decide)(z:(x == ("__debug__" : Str))=false:=by decide)
  (Y:zah (e::es) X.env=(false,eval e X.env)::zah es X.env:=by rfl) (q:(zaJ pos (zah es X.env)).any (·.1)=false:=by rfl):PE X (.Call (.Name x p) (e::es) [] pos) (X8 r t):=by
 intro pins s σ H Q I h;refine zdV (eW I M hm G ?_ N z);exact PyProof.Rows.callWith_builtin1 (bL (J pos pins s σ H _ I h) λus B ⟨vs,H1,F,W,q1⟩=>U pins B σ H1 vs us Q F W q1) Y q
theorem tU(U:CallR X (.type T) r)(M:Gl X x)(hm:X.mg x=none)(G:zaM x=some (.type T))(J:PA X (e::es) t)(N:x ≠ "__name__" := by decide)(z:(x == ("__debug__" : Str))=false:=by decide)
  (Y:zah (e::es) X.env=(false,eval e X.env)::zah es X.env:=by rfl) (q:(zaJ pos (zah es X.env)).any (·.1)=false:=by rfl):PE X (.Call (.Name x p) (e::es) [] pos) (X8 r t):=by
 intro pins s σ H Q I h;refine zdV (eW I M hm G ?_ N z);exact zcB (bL (J pos pins s σ H _ I h) λus B ⟨vs,H1,F,W,q1⟩=>U pins B σ H1 vs us Q F W q1) Y q
end
end L2
namespace HT
open PySem PyProof.Rows
noncomputable def lexLt:List Int->List Int->Bool
 | [],[]=>false
 | [],_::_=>true
 | _::_,[]=>false
 | x::xs,y::ys=>if x=y then lexLt xs ys else decide (x<y)
theorem dH(x y:Int)(xs ys:List Int):lexLt (x::xs) (y::ys)=if x=y then lexLt xs ys else decide (x<y):=rfl
theorem i8:lexLt [] []=false:=rfl
theorem gD(y:Int)(ys:List Int):lexLt [] (y::ys)=true:=rfl
theorem gB(x:Int)(xs:List Int):lexLt (x::xs) []=false:=rfl
theorem yF(A:zar)(s:zab)(a:Int)(t:Tok)(c:Int)(u:Tok):∃e,zdn A s (.int a t) (.int c u) e/\(e=true↔a=c):=
 ⟨(a == c),SeqAt.EqAt.int_int a t c u,by simp⟩
theorem HM(A:zar)(s:zab)(a:Int)(t:Tok)(c:Int)(u:Tok)(prog:zam)(w:World)(E:Value->zab->Prop)(Q:Value->zab->Prop)(h:Q (.bool (decide (a<c))) s) :
  wpAny (model prog w) A (richCompare .Lt (.int a t) (.int c u)) Q E s:=
 (PyProof.Rows.lt_int h:wpAny (model prog w) A (zaq .Lt (.int a t) (.int c u)) Q E s)
section
open PySem.SeqAt
open PySem.AutoSeq1 (wpAny_loadPart')
open PySem.MeetsSeq PySem.MeetsSeq2 PySem.MeetsSeq3
theorem rW(l b:Addr)(items z:Array Value)(n n2:Nat)(dd ad:Option Addr)(sl ab:Array (Option Value))(ns ms:List Int)(hi:zaP items.toList ns)(hj:zaP z.toList ms) :
  Meets (za9.«tuple.__lt__» ⟨[.ref l,.ref b],[]⟩)
   (λ_ R s => s.heap.get? l = some {cls := .type "tuple", dict:=dd, data := .seq items n, slots:=sl} /\ s.heap.get? b = some {cls := .type "tuple", dict:=ad, data := .seq z n2, slots:=ab} /\
    R (.ok (.ret (.bool (lexLt ns ms)))) s):=
 .of_wp λprog w A R s h=>by
  obtain⟨Y,g,d,tk,os⟩:=s;obtain⟨hl,hb,h⟩:=h;have f2:=AutoSeq1.sub_tuple_tuple;have z1:items.size=ns.length:=by rw[<- hi.length];simp
  have z2:z.size=ms.length:=by rw[<- hj.length];simp
  wp_walk using zbQ hl,zbQ hb,zeV _ (λrest b s'=>b.1=none/\s'=⟨Y,g,d,tk,os⟩/\∃(vs ws:List Value) (G F:List Int),rest=vs.zip ws /\
   zaP vs G/\zaP ws F/\G.length+z.size=F.length+items.size/\R (.ok (.ret (.bool (lexLt G F)))) ⟨Y,g,d,tk,os⟩) _
  case turn=>
   rintro⟨y,x⟩ rest b s' ⟨U,rfl,vs,ws,G,F,hz,W,J,B,M⟩;cases W with
   | nil=>rw[List.zip_nil_left]at hz;cases hz
   | cons a t hvi'=>
    cases J with
    | nil=>rw[List.zip_nil_right]at hz;cases hz
    | cons c u hwi'=>
     rw[zdW]at hz;injection hz with hyx hrest
     injection hyx with hy hx
     subst hy hx;rw[dH]at M;simp only[zaT]at B;obtain⟨e,he,N⟩:=yF A.in1 ⟨Y,g,d,tk,os⟩ a t c u;refine zaa (he prog w _ _ ?_);cases e with
     | true=>
      rw[if_pos (N.mp rfl)]at M
      wp_walk
      exact⟨rfl,rfl,_,_,_,_,hrest,hvi',hwi',by lia,M⟩
     | false=>
      rw[if_neg (λq=>absurd (N.mpr q) zau)]at M;have ac:=HM A.in1 ⟨Y,g,d,tk,os⟩ a t c u prog w
      wp_walk using ac
      exact⟨_,rfl,by simpa using M⟩
  case fin=>
   rintro⟨b1,b2⟩ s' ⟨U,rfl,vs,ws,G,F,hz,W,J,B,M⟩;simp only at U;subst U;have hv:lexLt G F=decide (items.size<z.size):=by
    cases W with
    | nil=>
     cases J with
     | nil=>
      simp only[zcg]at B;rw[i8];exact(decide_eq_false (by lia)).symm
     | cons c u hw=>
      simp only[zcg,zaT]at B;rw[gD];exact(decide_eq_true (by lia)).symm
    | cons a t hv=>
     cases J with
     | nil=>
      simp only[zcg,zaT]at B;rw[gB];exact(decide_eq_false (by lia)).symm
     | cons c u hw=>
      rw[zdW]at hz;cases hz
   rw[hv]at M
   wp_walk
   exact⟨_,rfl,by simpa[zfn]using M⟩
  case h=>
   exact⟨rfl,rfl,items.toList,z.toList,ns,ms,rfl,hi,hj,by lia,h⟩
end
section
variable {prog:zam}{w:World}{A:zar}{E:Value->zab->Prop}{s:zab}
theorem pO(hl:IsTup s.heap l items)(hb:IsTup s.heap b items2)(hi:zaP items.toList ns)(hj:zaP items2.toList ms)
  (hu:A.units<cLine) (h:Q (.bool (lexLt ns ms)) s):wpAny (model prog w) A (zaq .Lt (.ref l) (.ref b)) Q E s:=by
 obtain⟨⟨cls,dd,data,sl⟩,N,Y,n,U⟩:=id hl;obtain⟨⟨W,M,J,G⟩,z,B,n2,q⟩:=id hb;simp only at Y U B q;subst Y U B q;exact richCompare_meets_room (op:=.Lt) ⟨_,N,rfl⟩ ⟨_,z,rfl⟩ PySem.F.slot_tuple_lt PySem.F.entry_tuple_lt (PySem.F.args_tuple_lt_2 _ _) (rW l b items items2 n n2 dd M sl G ns ms hi hj)
  ⟨N,z,show zcb (lexLt ns ms)≠zeW/\Q (.bool (lexLt ns ms)) s from⟨(λx=>nomatch x),h⟩⟩ hu
theorem NH(ht:IsTup s.heap t vs.toArray)(hb:IsTup s.heap b ws.toArray)(Y:vs≠[])
  (h1:ws=[]->Q (.ref t) s) (h2:ws≠[]->Q (.ref s.heap.objs.size) {s with heap:=s.heap.push {cls:=.type "tuple",data:=.seq (vs++ws).toArray} })
  (hsz:vs.length+ws.length<=zaj):wpAny (model prog w) A (zaW .Add (.ref t) (.ref b)) Q E s:=by
 obtain⟨⟨cls,dd,data,U⟩,J,hc,n,N⟩:=id ht;obtain⟨⟨aa,G,M,B⟩,q,F,W,z⟩:=id hb;simp only at hc N F z;subst hc N F z;have e:vs.toArray++ws.toArray=(vs++ws).toArray:=by simp
 by_cases hw:ws=[]
 ·exact concat_meets ⟨_,J,rfl⟩ ⟨_,q,rfl⟩ zeX seq_tuple_add zeY zeZ (ze0 _ _)
   (tuple_addW1 t b vs.toArray ws.toArray n W dd G U B (by simpa using Y) (by simp[hw])) ⟨J,q,h1 hw⟩
 ·refine concat_meets ⟨_,J,rfl⟩ ⟨_,q,rfl⟩ zeX seq_tuple_add zeY zeZ (ze0 _ _)
   (tuple_addW2 t b vs.toArray ws.toArray n W dd G U B (by simpa using Y) (by simpa using hw) (by rw[zaz,zaz];exact hsz)) ⟨J,q,?_⟩
  rw[e];exact h2 hw
noncomputable def sIx(n d:Nat):Option Int->Nat
 | none=>d
 | some v=>if v<0 then(v+(n:Int)).toNat else min v.toNat n
theorem S7(n d:Nat)(z:d<=n)(o:Option Int):sIx n d o<=n:=by
 cases o with
 | none=>exact z
 | some v=>
  show(if v<0 then(v+(n:Int)).toNat else min v.toNat n)<=n;by_cases q:v<0
  ·rw[if_pos q];lia
  ·rw[if_neg q];exact Nat.min_le_right _ _
theorem C9(v:Int)(n d:Nat):(if v<0 then max (v+(n:Int)) 0 else min v (n:Int))=((sIx n d (some v):Nat):Int):=by
 show(if v<0 then max (v+(n:Int)) 0 else min v (n:Int))=(((if v<0 then(v+(n:Int)).toNat else min v.toNat n):Nat):Int);by_cases q:v<0
 ·simp only[if_pos q];lia
 ·simp only[if_neg q];lia
theorem AC(lo hi:Option Int)(n:Nat):ze1 lo hi 1 (n:Int)=(((sIx n 0 lo:Nat):Int),((sIx n n hi:Nat):Int)):=by
 have h1:¬ ((1:Int)<0):=by lia
 unfold ze1;simp only[h1,if_false];refine Prod.ext ?_ ?_
 ·cases lo with
  | none=>rfl
  | some v=>exact C9 v n 0
 ·cases hi with
  | none=>rfl
  | some v=>exact C9 v n n
theorem zP(i j:Nat):zdX (i:Int) (j:Int) 1=j-i:=by
 unfold zdX;have h1:(1:Int)>0:=by lia
 simp only[h1,if_true,Int.ediv_one];split <;> lia
theorem oD(p:zbZ v o)(h:Q o s):wpAny (model prog w) A (Builtin.Slice.slicePartIndex v) Q E s:=by
 cases p with
 | none=>exact slicePart_none h
 | int i t=>exact slicePart_int h
theorem eZ{G:Addr}{B F:Value}{lo hi:Option Int}{n:Nat}{Q:Int×Int×Nat->zab->Prop}(hs:s.heap.IsSliceOf G B F .none)(J:zbZ B lo)(N:zbZ F hi)
  (h:Q (((sIx n 0 lo:Nat):Int),1,sIx n n hi-sIx n 0 lo) s):wpAny (model prog w) A (Builtin.Slice.sliceApplied (.ref G) (pure (n:Int))) Q E s:=by
 obtain⟨os,q,M,z⟩:=id hs;unfold Builtin.Slice.sliceApplied Builtin.Slice.sliceFields;refine zaa (zaa (zaC q z (x:=B) rfl (zaa (zaC q z (x:=F) rfl (zaa (zaC q z (x:=.none) rfl (zac ?_)))))));refine zaa (slicePart_none ?_);show wpAny _ _ (if((1:Int) == 0)=true then _ else _) _ _ s;rw[if_neg (by decide)];refine zaa (oD J (zaa (oD N (zaa (zac ?_)))));show wpAny _ _ (match ze1 lo hi 1 (n:Int)with|(lo,hi)=>pure (lo,(1:Int),zdX lo hi 1)) _ _ s;rw[AC lo hi n];show wpAny _ _ (pure (((sIx n 0 lo:Nat):Int),(1:Int),zdX ((sIx n 0 lo:Nat):Int) ((sIx n n hi:Nat):Int) 1)) _ _ s;rw[zP];exact zac h
theorem IA(xs:Array Value)(i k:Nat):((zaA k).filterMap λ(m:Nat)=>xs[((i:Int)+(m:Int)*1).toNat]?).toArray=((xs.toList.drop i).take k).toArray:=by
 have e:(λ(m:Nat)=>xs[((i:Int)+(m:Int)*1).toNat]?)=λm=>xs[i+m]?:=by
  funext m;have:((i:Int)+(m:Int)*1).toNat=i+m:=by lia
  rw[this]
 rw[e];have:=pick_run xs i k;rw[List.filterMap_map]at this;have q:((λx=>xs[x]?) ∘ λx=>i+x)=λm=>xs[i+m]?:=rfl
 rw[q]at this;rw[this]
theorem jY{t F:Addr}{items:Array Value}{U W:Value}{lo hi:Option Int}{Q:Value->zab->Prop}(B:IsTup s.heap t items)(hs:s.heap.IsSliceOf F U W .none)(Y:zbZ U lo)(pu:zbZ W hi)
  (hw:¬ (sIx items.size 0 lo=0/\sIx items.size items.size hi=items.size))
  (h:Q (.ref s.heap.objs.size) {s with heap:=s.heap.push {cls:=.type "tuple",data:=.seq ((items.toList.drop (sIx items.size 0 lo)).take (sIx items.size items.size hi-sIx items.size 0 lo)).toArray} })
  (hsz:items.size<=zaj):wpAny (model prog w) A (zb0 (.ref t) (.ref F)) Q E s:=by
 have z:sizeOk (.seq ((items.toList.drop (sIx items.size 0 lo)).take (sIx items.size items.size hi-sIx items.size 0 lo)).toArray):=by
  show((items.toList.drop (sIx items.size 0 lo)).take (sIx items.size items.size hi-sIx items.size 0 lo)).toArray.size<=zaj;rw[zaz,zcX,zdY,zbj]
  lia
 have hj:sIx items.size items.size hi<=items.size:=S7 _ _ (zan _) hi;obtain⟨os,M,G,aa⟩:=id hs;have J:s.TypeIs (.ref F) "slice" := ⟨os,M,G⟩;unfold zb0
 try with_reducible refine zbm ?_
 first|refine zaa (zac ?_)|skip
 refine zaa (wpAny_sequenceKey B.typeIs (by decide) ?_);refine zaa (zbt (name:=za0 "__getitem__") B.typeIs zdZ
  (zba zdZ B.typeIs entry_tuple_getitem ?_ (args_tuple_getitem _ _)))
 show wpAny _ _ (Builtin.Tuple.tupleItemsOf (.ref t) >>= _) _ _ s;refine zaa (tupleItemsOf_ B ?_);refine zaa (zcq J ?_);rw[if_pos (by decide)];refine zaa (eZ hs Y pu ?_);have N:¬ ((((sIx items.size 0 lo:Nat):Int) == 0 && (1:Int) == 1 && (sIx items.size items.size hi-sIx items.size 0 lo) == items.size)=true):=by
  intro q;rw[zaK,zaK]at q;have q1:((sIx items.size 0 lo:Nat):Int)=0:=eq_of_beq q.1.1;have q2:sIx items.size items.size hi-sIx items.size 0 lo=items.size:=eq_of_beq q.2;exact hw ⟨by lia,by lia⟩
 show wpAny _ _ (if(((sIx items.size 0 lo:Nat):Int) == 0 && (1:Int) == 1 && (sIx items.size items.size hi-sIx items.size 0 lo) == items.size)=true then _ else _) _ _ s;rw[if_neg N,IA]
 first
  | exact zaa (m:=zd0 _) (zbo (zac ⟨_,rfl,zac h⟩) z)
  | exact zaa (m:=zd0 _) (zbo (zaa (zac (zac ⟨_,rfl,zac h⟩))) z)
  | exact zaa (zaa (m:=zd0 _) (zbo (zac (zac ⟨_,rfl,zac h⟩)) z))
  | exact zaa (zaa (m:=zd0 _) (zbo (zac ⟨_,rfl,zac h⟩) z))
end
end HT
namespace L2
open PySem PySem.Spec PyProof.Rows
abbrev TO:=St->Hp->(Option Int->Hp->Prop)->Prop
def PO(X:Cx)(e:Option Expr)(t:TO):Prop:=
 ∀(pins:List (Addr×Obj)) (s:zab) (σ:St) (H:Hp) (Q:Option Int->Hp->Prop),Inv X pins σ H s->t σ H Q->
  wpAny (model X.prog X.w) X.A (evalPart e X.env) (λu s'=>∃o H',Inv X pins σ H' s'/\zbZ u o/\Q o H') X.xe s
def L0:TO:=λ_ H Q=>Q none H
def VG(t:TE):TO:=λσ H Q=>t σ H λx H1=>∃i,x=.int i/\Q (some i) H1
theorem intsAre_of:∀ {us:List Value},Vals (ns.map V.int) us->zaP us ns:=by
 induction ns with
 | nil=>intro us r;rw[zb1]at r;cases r;exact .nil
 | cons n ns ih=>
  intro us r;rw[zak]at r;cases r with
  | cons r1 r2=>
   obtain⟨t,e⟩:=r1;subst e;exact .cons n t (ih r2)
section
variable {X:Cx}{e:Expr}{te:TE}{lo hi:Option Expr}{tl th:TO}{pos p2:Pos}
theorem N0:PO X none L0:=by
 intro pins s σ H Q I h;rw[evalPart_none];exact zac ⟨none,H,I,.none,h⟩
theorem M6(h:PE X e te):PO X (some e) (VG te):=by
 intro pins s σ H Q I hw;rw[evalPart_some];refine bL (h pins s σ H _ I hw) λu G ⟨x,H1,B,z,F⟩=>?_
 obtain⟨i,rfl,q⟩:=F;obtain⟨t,rfl⟩:=z;exact⟨some i,H1,B,.int i t,q⟩
def SlR(X:Cx)(r:V->Option Int->Option Int->Hp->VK->Prop):Prop:=
 ∀(pins:List (Addr×Obj)) (s:zab) (σ:St) (H:Hp) (x:V) (v vl vu:Value) (lo hi:Option Int) (sl:Addr) (Q:VK),Inv X pins σ H s->RelV x v->s.heap.IsSliceOf sl vl vu .none->zbZ vl lo->zbZ vu hi->r x lo hi H Q->
  ∃T id,typeLookup (.type T) "__getitem__" = pure (some (.builtin id))/\s.TypeIs v T/\wpAny (model X.prog X.w) X.A (zb0 v (.ref sl)) (EP X pins σ Q) X.xe s
theorem SlR.or(h:SlR X r)(h':SlR X r'):SlR X (λx lo hi H Q=>r x lo hi H Q\/r' x lo hi H Q):=by
 intro pins s σ H x v G M lo hi B Q I F hs z J q;rcases q with q|q
 ·exact h pins s σ H x v G M lo hi B Q I F hs z J q
 ·exact h' pins s σ H x v G M lo hi B Q I F hs z J q
def tSl(r:V->Option Int->Option Int->Hp->VK->Prop)(te:TE)(tl th:TO):TE:=λσ H Q=>te σ H λx H1=>tl σ H1 λl H2=>th σ H2 λu q=>r x l u q Q
theorem G9(W:SlR X r)(he:PE X e te)(hl:PO X lo tl)(Y:PO X hi th):PE X (.Subscript e (.Slice lo hi none p2) pos) (tSl r te tl th):=by
 intro pins s σ H Q I h;refine Subscript_ (bL (he pins s σ H _ I h) λv s1 ⟨x,H1,U,r1,q1⟩=>?_);refine wpAny_Slice (bL (hl pins s1 σ H1 _ U q1) λB N ⟨l,H2,I2,pl,J⟩=>bL (Y pins N σ H2 _ I2 J) λF z ⟨u,G,I3,pu,M⟩=>?_);rw[evalPart_none];refine zac ?_;have I4:Inv X pins σ G {z with heap:=z.heap.push {cls:=.type "slice",data:=.fields #[B,F,.none]} }:=I3.kept (t':=z.toks) λb ob q=>zag _ q
 obtain⟨T,id,hT,ht,hg⟩:=W pins {z with heap:=z.heap.push {cls:=.type "slice",data:=.fields #[B,F,.none]} } σ G x v B F l u z.heap.objs.size Q I4 r1 (Heap.IsSliceOf.new ..) pl pu M;show wpAny (model X.prog X.w) X.A (subscriptTail e (.Slice lo hi none p2) v (.ref z.heap.objs.size)) (EP X pins σ Q) X.xe {z with heap:=z.heap.push {cls:=.type "slice",data:=.fields #[B,F,.none]} };exact tail_any (ops:=[.ref z.heap.objs.size,v]) ht hT hg (by with_unfolding_all rfl)
def sF(xs:List V)(lo hi:Option Int):List V:=(xs.drop (HT.sIx xs.length 0 lo)).take (HT.sIx xs.length xs.length hi-HT.sIx xs.length 0 lo)
theorem mI(xs:List V)(lo hi:Option Int):(sF xs lo hi).length<=xs.length:=by
 unfold sF;rw[zcX,zdY]
 lia
def XA(K:zaf):V->Option Int->Option Int->Hp->VK->Prop:=λx lo hi H Q=>∃a xs,x=.ref a/\SqT K H a xs /\
 ¬ (HT.sIx xs.length 0 lo=0/\HT.sIx xs.length xs.length hi=xs.length)/\∀p,H p=none->Q (.ref p) (upd H p (.tup (sF xs lo hi)))
theorem R9:SlR X (XA X.K):=by
 intro pins s σ H x v W Y lo hi U Q I M hs G N h;obtain⟨a,xs,rfl,J,hw,q⟩:=h;cases M;obtain⟨B,r,F,hz⟩:=I.tuple J;have z:B.toArray.size=xs.length:=by rw[zaz];exact r.length.symm
 refine⟨"tuple",_,PyProof.Rows.slot_tuple_getitem.lookup,F.typeIs,?_⟩;refine HT.jY F hs G N (by rw[z];exact hw) ?_ (by rw[z];exact hz);rw[z];refine⟨.ref s.heap.objs.size,_,I.laid (t':=s.toks) (o:=.tup (sF xs lo hi)) (λb ob q=>zag _ q) (zan _) ?_,rfl,q _ (I.hok.fresh (zan _))⟩;exact⟨zbd (mI xs lo hi) hz,_,(r.drop (HT.sIx xs.length 0 lo)).take (HT.sIx xs.length xs.length hi-HT.sIx xs.length 0 lo),IsTupN.new _ _⟩
def Y0(K:zaf):R2:=λx y H Q=>∃a b ns ms,x=.ref a/\y=.ref b/\SqT K H a (ns.map V.int)/\SqT K H b (ms.map V.int)/\Q (.bl (HT.lexLt ns ms)) H
theorem RC(M:X.A.units<cLine):OpR X (zaq .Lt) (Y0 X.K):=by
 intro pins s σ H x y v u Q I U Y h;obtain⟨a,b,ns,ms,rfl,rfl,W,N,q⟩:=h;cases U;cases Y;obtain⟨B,r1,p1,_⟩:=I.tuple W;obtain⟨z,F,p2,_⟩:=I.tuple N;have G:zaP B.toArray.toList ns:=intsAre_of r1;have J:zaP z.toArray.toList ms:=intsAre_of F;exact HT.pO p1 p2 G J M ⟨.bl (HT.lexLt ns ms),H,I,rfl,q⟩
def V2(K:zaf):R2:=λx y H Q=>∃a b xs ys,x=.ref a/\y=.ref b/\SqT K H a xs/\SqT K H b ys/\xs≠[]/\xs.length+ys.length<=zaj /\
 (ys=[]->Q (.ref a) H)/\(ys≠[]->∀p,H p=none->Q (.ref p) (upd H p (.tup (xs++ys))))
theorem Vals.nil_iff(r:Vals xs us):us=[]↔xs=[]:=by
 cases r with
 | nil=>simp
 | cons _ _=>simp
theorem LU:OpR X (zaW .Add) (V2 X.K):=by
 intro pins s σ H x y v u Q I U Y h;obtain⟨a,b,xs,ys,rfl,rfl,W,N,M,hz,q1,J⟩:=h;cases U;cases Y;obtain⟨ab,F,p1,_⟩:=I.tuple W;obtain⟨G,B,p2,_⟩:=I.tuple N;refine HT.NH p1 p2 (λz=>M (F.nil_iff.mp z)) (λz=>⟨.ref a,H,I,rfl,q1 (B.nil_iff.mp z)⟩) (λz=>?_) (by rw[<- F.length,<- B.length];exact hz);refine⟨.ref s.heap.objs.size,_,I.laid (t':=s.toks) (o:=.tup (xs++ys)) (λb ob q=>zag _ q) (zan _) ?_,rfl,J (λw=>z (B.nil_iff.mpr w)) _ (I.hok.fresh (zan _))⟩;exact⟨by rw[zbk];exact hz,_,F.append B,IsTupN.new _ _⟩
end
noncomputable def F5(n:Nat)(i:Int):Option Nat:=if 0<=i then(if i<n then some i.toNat else none)else if -(n:Int)<=i then some (i+n).toNat else none
def dX{α:Type}(xs:List α)(i:Int):Option α:=(F5 xs.length i).bind λj=>xs[j]?
theorem B8(h:F5 n i=some j):seqIndex? i n=some j/\j<n/\-(n:Int)<=i/\i<n:=by
 unfold F5 at h;by_cases h0:0<=i
 ·rw[if_pos h0]at h
  by_cases h1:i<n
  ·rw[if_pos h1]at h
   have e:i.toNat=j:=zaI h;exact⟨by rw[seqIndex_of h0 h1,e],by lia,by lia,h1⟩
  ·rw[if_neg h1]at h;cases h
 ·rw[if_neg h0]at h
  by_cases h1:-(n:Int)<=i
  ·rw[if_pos h1]at h
   have e:(i+n).toNat=j:=zaI h;exact⟨by rw[seqIndex_neg (by lia) h1,e],by lia,h1,by lia⟩
  ·rw[if_neg h1]at h;cases h
theorem u7{q:Type}{xs:List q}{i:Int}{v:q}(h:dX xs i=some v):∃j,seqIndex? i xs.length=some j/\xs[j]?=some v/\j<xs.length/\-(xs.length:Int)<=i/\i<xs.length:=by
 unfold dX at h;cases e:F5 xs.length i with
 | none=>rw[e]at h;cases h
 | some j=>
  rw[e]at h;obtain⟨h1,h2,B,z⟩:=B8 e;exact⟨j,h1,h,h2,B,z⟩
theorem b8{q:Type}{xs:List q}{j:Nat}{v:q}(h:xs[j]?=some v):dX xs (j:Int)=some v:=by
 have z:j<xs.length:=(List.getElem?_eq_some_iff.mp h).1;have e:F5 xs.length (j:Int)=some j:=by
  unfold F5;rw[if_pos (by lia),if_pos (by lia)];simp
 unfold dX;rw[e];exact h
def uK(b:Expr):Prop:=∀o i,zd1 b false o i=operate [o,i] (zb0 o i)
def IxR(X:Cx)(r:R2):Prop:=
 ∀(value slice:Expr) (pins:List (Addr×Obj)) (s:zab) (σ:St) (H:Hp) (x y:V) (v u:Value) (Q:VK),Inv X pins σ H s->RelV x v->RelV y u->r x y H Q->
  zd1 slice false v u=operate [v,u] (zb0 v u)->wpAny (model X.prog X.w) X.A (subscriptTail value slice v u) (EP X pins σ Q) X.xe s
def MtR(X:Cx)(id:String)(r:V->List V->Hp->VK->Prop):Prop:=
 ∀(pins:List (Addr×Obj)) (s:zab) (σ:St) (H:Hp) (x:V) (xs:List V) (v:Value) (us:List Value) (Q:VK),Inv X pins σ H s->RelV x v->Vals xs us->r x xs H Q->
  wpAny (model X.prog X.w) X.A (call (.builtin id) (v::us)) (EP X pins σ Q) X.xe s
section
variable {X:Cx}{a b:Expr}{ta tb:TE}{pos:Pos}
theorem IxR.or(h:IxR X r)(h':IxR X r'):IxR X (λx y H Q=>r x y H Q\/r' x y H Q):=by
 intro value z pins s σ H x y v u Q I B F q hs;rcases q with q|q
 ·exact h value z pins s σ H x y v u Q I B F q hs
 ·exact h' value z pins s σ H x y v u Q I B F q hs
theorem MtR.or{id:String}{r B:V->List V->Hp->VK->Prop}(h:MtR X id r)(h':MtR X id B):MtR X id (λx xs H Q=>r x xs H Q\/B x xs H Q):=by
 intro pins s σ H x xs v us Q I z rs q;rcases q with q|q
 ·exact h pins s σ H x xs v us Q I z rs q
 ·exact h' pins s σ H x xs v us Q I z rs q
theorem U8(z:IxR X r)(G:PE X a ta)(B:PE X b tb)(hs:uK b):PE X (.Subscript a b pos) (U3 r ta tb):=by
 intro pins s σ H Q I h;exact Subscript_ (UO G B I h λv u N x y H2 M F J q=>z a b pins N σ H2 x y v u Q M F J q (hs _ _))
def WV(K:zaf):R2:=λx y H Q=>∃p xs i v,x=.ref p/\y=.int i/\SqL K H p xs/\dX xs i=some v/\Q v H
def W5(K:zaf):R2:=λx y H Q=>∃p xs i v,x=.ref p/\y=.int i/\SqT K H p xs/\dX xs i=some v/\Q v H
def W1:R2:=λx y H Q=>∃z i c,x=.str z/\y=.int i/\z.length<=zaj/\dX z.cps.toList i=some c/\Q (.str ⟨#[c]⟩) H
theorem LI:IxR X (WV X.K):=by
 intro value F pins s σ H x y v u Q I rx ry h hs;obtain⟨p,xs,i,z,rfl,rfl,hq,he,q⟩:=h;cases rx;obtain⟨t,rfl⟩:=ry;obtain⟨J,r,B,hz⟩:=I.list hq;obtain⟨j,h1,h2,h3,W,U⟩:=u7 he;obtain⟨w,N,M⟩:=r.get h2;have Y:=r.length;have hn:=qW;have fin:EP X pins σ Q w s:=⟨z,H,I,M,q⟩;by_cases h0:0<=i
 ·have G:i.toNat=j:=by
   rw[seqIndex_of h0 U]at h1;exact zaI h1
  exact item_listR B.isList h0 (by lia) (by rw[G];simpa using N) fin hs
 ·have G:(i+(J.toArray.size:Int)).toNat=j:=by
   rw[seqIndex_neg (by lia) W]at h1;rw[zaz,<- Y];exact zaI h1
  exact subscriptTail_builtinR (x:=w) B.isList.typeIs slot_list_getitem.lookup
   (wpAny_getItem_list_neg (Q:=λr s'=>r=w/\EP X pins σ Q r s') B.isList (by lia) (by rw[zaz] <;> lia) (by lia) (by rw[G];simpa using N) ⟨rfl,fin⟩) hs
theorem QG:IxR X (W5 X.K):=by
 intro value B pins s σ H x y v u Q I N U h hs;obtain⟨p,xs,i,z,rfl,rfl,W,he,q⟩:=h;cases N;obtain⟨t,rfl⟩:=U;obtain⟨Y,r,G,hz⟩:=I.tuple W;obtain⟨j,h1,h2,h3,h4,h5⟩:=u7 he;obtain⟨w,J,F⟩:=r.get h2;have M:=r.length;have hn:=qW;have fin:EP X pins σ Q w s:=⟨z,H,I,F,q⟩;exact subscriptTail_builtinR (x:=w) G.typeIs slot_tuple_getitem.lookup
  (getItem_tuple (j:=j) (Q:=λr s'=>r=w/\EP X pins σ Q r s') G (by lia) (by lia) (by rw[zaz,<- M];exact h1) (by simpa using J) ⟨rfl,fin⟩) hs
theorem TJ:IxR X W1:=by
 intro value B pins s σ H x y v u Q I U W h hs;obtain⟨z,i,c,rfl,rfl,hz,Y,q⟩:=h;obtain⟨t,rfl⟩:=U;obtain⟨t',rfl⟩:=W;obtain⟨j,h1,h2,h3,N,J⟩:=u7 Y;have M:z.cps.toList.length=z.length:=by simp[Str.length]
 rw[M]at h1 N J;have hn:=qW;exact tail_any (typeIs_str s z t) slot_str_getitem.lookup (getItem_str (c:=c) (by
  have G:decide (i < -(2^63:Int))=false:=decide_eq_false (by lia);have F:decide (i ≥ 2^63)=false:=decide_eq_false (by lia);rw[G,F,Bool.or_false]) (by rw[h1];simpa using h2) ⟨.str ⟨#[c]⟩,H,I.tok _,⟨_,rfl⟩,q⟩) hs
def rIx(K:zaf):R2:=λx y H Q=>WV K x y H Q\/W5 K x y H Q\/W1 x y H Q
theorem QO:IxR X (rIx X.K):=LI.or (QG.or TJ)
theorem zM(q:List Value)(n j:Nat)(u:Value):zbg (·.setIfInBounds j u) {cls:=.type "list",data:=.seq q.toArray n}={cls:=.type "list",data:=.seq (q.set j u).toArray n}:=by
 simp[zbg]
theorem Inv.lst{pins:List (Addr×Obj)}{σ:St}{H:Hp}{s:zab}{p:Addr}{xs:List V}(I:Inv X pins σ H s)(h:H p=some (.lst xs)) :
  ∃(q:List Value) (n:Nat),Vals xs q/\s.heap.get? p=some {cls:=.type "list",data:=.seq q.toArray n}/\xs.length<=zaj:=by
 obtain⟨z,q,n,r,e⟩:=I.hok p _ h;exact⟨q,n,r,e,z⟩
theorem Inv.lstUpd{pins:List (Addr×Obj)}{xs ys:List V}{z its':List Value}{n B:Nat}{f:Obj->Obj}(I:Inv X pins σ H s)(h:H p=some (.lst xs))
  (G:s.heap.get? p=some {cls:=.type "list",data:=.seq z.toArray n}) (F:f {cls:=.type "list",data:=.seq z.toArray n}={cls:=.type "list",data:=.seq its'.toArray B}) (r:Vals ys its') (hz:ys.length<=zaj) (t:Nat) :
  Inv X pins σ (upd H p (.lst ys)) {s with heap:=s.heap.update p f,toks:=t}:=by
 have e:(s.heap.update p f).get? p=some {cls:=.type "list",data:=.seq its'.toArray B}:=by
  rw[zbR f G (by rw[F] <;> rfl),F]
 refine I.write (x:=p) (e:=p) (by rw[h];trivial) (.inl rfl) (λb u J q=>(zbI _ _ (zaR J)).trans q) ⟨_,e⟩ ?_;exact⟨hz,its',B,r,e⟩
def VI:V->V->V->Hp->(Hp->Prop)->Prop:=λo i v H Q=>∃p xs k j,o=.ref p/\i=.int k/\H p=some (.lst xs)/\F5 xs.length k=some j/\Q (upd H p (.lst (xs.set j v)))
theorem set_list:OJ X VI:=by
 intro pins s σ H o i v ov iv u Q I ro Y rv h;obtain⟨p,xs,k,j,rfl,rfl,J,hj,q⟩:=h;cases ro;obtain⟨t,rfl⟩:=Y;obtain⟨z,n,r,B,hz⟩:=I.lst J;obtain⟨h1,h2,N,M⟩:=B8 hj;have G:=r.length;have hn:=qW;have U:Inv X pins σ (upd H p (.lst (xs.set j v))) {s with heap:=s.heap.update p (zbg (·.setIfInBounds j u))}:=
  I.lstUpd J B (zM z n j u) (r.set rv j) (by rw[List.length_set];exact hz) s.toks
 by_cases h0:0<=k
 ·have F:k.toNat=j:=by
   rw[seqIndex_of h0 M]at h1;exact zaI h1
  exact PySem.W.ki_setAt B h0 (by lia) (by rw[zaz,<- G];exact M) (by rw[F];exact⟨_,U,q⟩)
 ·have F:(k+(z.toArray.size:Int)).toNat=j:=by
   rw[seqIndex_neg (by lia) N]at h1;rw[zaz,<- G];exact zaI h1
  exact PySem.W.ki_setBack B (by lia) (by rw[zaz,<- G];exact N) (by lia) (by rw[F];exact⟨_,U,q⟩)
theorem uE(lo hi:Option Int)(n:Nat):(zb2 lo hi none n).1=((HT.sIx n 0 lo:Nat):Int)/\(zb2 lo hi none n).2.1=((HT.sIx n n hi:Nat):Int)/\(zb2 lo hi none n).2.2=1:=by
 refine⟨?_,?_,rfl⟩
 ·cases lo with
  | none=>simp[zb2,HT.sIx]
  | some i=>
   simp only[zb2,HT.sIx,Option.getD_none,show(1:Int)>0 by decide,if_true];by_cases h:i<0
   ·simp only[h,if_true] <;> lia
   ·simp only[h,if_false] <;> lia
 ·cases hi with
  | none=>simp[zb2,HT.sIx]
  | some i=>
   simp only[zb2,HT.sIx,Option.getD_none,show(1:Int)>0 by decide,if_true];by_cases h:i<0
   ·simp only[h,if_true] <;> lia
   ·simp only[h,if_false] <;> lia
theorem rY(q:List Value)(lo hi:Option Int):slicePick q.toArray lo hi none=((q.drop (HT.sIx q.length 0 lo)).take (HT.sIx q.length q.length hi-HT.sIx q.length 0 lo)).toArray:=by
 obtain⟨h1,h2,z⟩:=uE lo hi q.toArray.size;unfold slicePick;rw[h1,h2,z];simp only[sliceRange_one,pick_run,zaz] <;> rfl
def YR(K:zaf):V->Option Int->Option Int->Hp->VK->Prop:=λx lo hi H Q=>∃a xs,x=.ref a/\SqL K H a xs/\∀p,H p=none->Q (.ref p) (upd H p (.lst (sF xs lo hi)))
theorem M0:SlR X (YR X.K):=by
 intro pins s σ H x v W Y lo hi U Q I J hs F N h;obtain⟨a,xs,rfl,G,q⟩:=h;cases J;obtain⟨M,r,B,hz⟩:=I.list G;have z:=r.length;refine⟨"list",_,slot_list_getitem.lookup,B.isList.typeIs,?_⟩;refine wpAny_getItem_list_slice B.isList hs F N .none (by simp) ?_ (by rw[zaz] <;> lia);rw[rY,<- z];refine⟨.ref s.heap.objs.size,_,I.laid (t':=s.toks) (o:=.lst (sF xs lo hi)) (λb ob q=>zag _ q) (zan _) ?_,rfl,q _ (I.hok.fresh (zan _))⟩;exact⟨zbd (mI xs lo hi) hz,_,0,(r.drop (HT.sIx xs.length 0 lo)).take (HT.sIx xs.length xs.length hi-HT.sIx xs.length 0 lo),zat _ rfl⟩
noncomputable def kY:V->Bool
 | .non=>true
 | .bl _=>true
 | .int _=>true
 | .str _=>true
 | _=>false
noncomputable def P2:V->V->Bool
 | .non,.non=>true
 | .bl a,.bl b=>a == b
 | .bl a,.int b=>(if a then 1 else 0) == b
 | .int a,.bl b=>a == (if b then 1 else 0)
 | .int a,.int b=>a == b
 | .str a,.str b=>a == b
 | _,_=>false
theorem QV(z:RelV y u)(q:RelV x v)(B:kY y=true)(fx:kY x=true):zdn A s u v (P2 y x):=by
 cases y with
 | non=>
  cases z;cases x with
  | non=>cases q;exact SeqAt.EqAt.same _
  | bl b=>cases q;exact SeqAt.EqAt.none_bool b
  | int b=>obtain⟨t,rfl⟩:=q;exact SeqAt.EqAt.none_int b t
  | str b=>obtain⟨t,rfl⟩:=q;exact SeqAt.EqAt.none_str b t
  | _=>exact absurd (show false=true from fx) zau
 | bl a=>
  cases z;cases x with
  | non=>cases q;exact SeqAt.EqAt.bool_none a
  | bl b=>cases q;exact SeqAt.EqAt.bool_bool a b
  | int b=>obtain⟨t,rfl⟩:=q;exact SeqAt.EqAt.bool_int a b t
  | str b=>obtain⟨t,rfl⟩:=q;exact SeqAt.EqAt.bool_str a b t
  | _=>exact absurd (show false=true from fx) zau
 | int a=>
  obtain⟨t',rfl⟩:=z;cases x with
  | non=>cases q;exact SeqAt.EqAt.int_none a t'
  | bl b=>cases q;exact SeqAt.EqAt.int_bool a t' b
  | int b=>obtain⟨t,rfl⟩:=q;exact SeqAt.EqAt.int_int a t' b t
  | str b=>obtain⟨t,rfl⟩:=q;exact SeqAt.EqAt.int_str a t' b t
  | _=>exact absurd (show false=true from fx) zau
 | str a=>
  obtain⟨t',rfl⟩:=z;cases x with
  | non=>cases q;exact SeqAt.EqAt.str_none a t'
  | bl b=>cases q;exact SeqAt.EqAt.str_bool a t' b
  | int b=>obtain⟨t,rfl⟩:=q;exact SeqAt.EqAt.str_int a t' b t
  | str b=>obtain⟨t,rfl⟩:=q;exact SeqAt.EqAt.str_str a t' b t
  | _=>exact absurd (show false=true from fx) zau
 | _=>exact absurd (show false=true from B) zau
def OV(x:V)(u:Value):Bool:=match u with
 | .none=>P2 .non x
 | .bool b=>P2 (.bl b) x
 | .int i _=>P2 (.int i) x
 | .str z _=>P2 (.str z) x
 | _=>false
theorem JO(r:RelV y u)(f:kY y=true):OV x u=P2 y x:=by
 cases y with
 | non=>cases r;rfl
 | bl b=>cases r;rfl
 | int i=>obtain⟨t,rfl⟩:=r;rfl
 | str z=>obtain⟨t,rfl⟩:=r;rfl
 | _=>exact absurd (show false=true from f) zau
theorem uN:∀ {xs:List V} {us:List Value},Vals xs us->xs.all kY=true->us.any (OV x)=xs.any λy=>P2 y x
 | _,_,.nil,_=>rfl
 | y::xs,u::us,.cons r t,f=>by
  rw[zcG,zaK]at f;rw[zbA,zbA,JO r f.1,uN t f.2]
theorem qE(z:RelV x v)(fx:kY x=true):∀ {xs:List V} {us:List Value},Vals xs us->xs.all kY=true->∀u∈us,zdn A s u v (OV x u)
 | _,_,.nil,_=>λu q=>by cases q
 | y::xs,u::us,.cons r t,f=>λB q=>by
  rw[zcG,zaK]at f;rcases List.mem_cons.mp q with rfl|q
  ·rw[JO r f.1];exact QV r z f.1 fx
  ·exact qE z fx t f.2 B q
def inV(x:V)(xs:List V):Bool:=xs.any λy=>P2 y x
def qg(K:zaf)(neg:Bool):R2:=λx y H Q=>∃p xs,y=.ref p/\(SqL K H p xs\/SqT K H p xs)/\kY x=true/\xs.all kY=true/\Q (.bl (if neg then !inV x xs else inV x xs)) H
theorem EZ:OpR X (zaq .In) (qg X.K false):=by
 intro pins s σ H x y v u Q I G J h;obtain⟨p,xs,rfl,B,fx,fs,q⟩:=h;cases J;rcases B with B|B
 ·obtain⟨z,r,F,hz⟩:=I.list B
  refine SeqAt.in_listAt (OV x) F.isList (λw hw=>qE G fx r fs w (by simpa using hw)) ⟨.bl _,H,I,rfl,?_⟩;rw[show z.toArray.any (OV x)=z.any (OV x) by simp,uN r fs];exact q
 ·obtain⟨z,r,F,hz⟩:=I.tuple B
  refine SeqAt.in_tupleAt (OV x) F (λw hw=>qE G fx r fs w (by simpa using hw)) ⟨.bl _,H,I,rfl,?_⟩;rw[show z.toArray.any (OV x)=z.any (OV x) by simp,uN r fs];exact q
theorem uJ:OpR X (zaq .NotIn) (λx y H Q=>∃i j,x=.str i/\y=.str j/\Q (.bl (!(!(zdR j i 0 j.length 1).isEmpty))) H):=by
 intro pins s σ H x y v u Q I z B h;obtain⟨i,j,rfl,rfl,q⟩:=h;obtain⟨t,rfl⟩:=z;obtain⟨t',rfl⟩:=B;exact notIn_str ⟨.bl _,H,I,rfl,q⟩
theorem CallR.or(h:CallR X f r)(h':CallR X f r'):CallR X f (λxs H Q=>r xs H Q\/r' xs H Q):=by
 intro pins s σ H xs us Q I rs q;rcases q with q|q
 ·exact h pins s σ H xs us Q I rs q
 ·exact h' pins s σ H xs us Q I rs q
theorem uC:CallR X (.type "list") (λxs H Q=>∃p ys,xs=[.ref p]/\(SqL X.K H p ys\/SqT X.K H p ys)/\∀l,H l=none->Q (.ref l) (upd H l (.lst ys))):=by
 intro pins s σ H xs us Q I r h;obtain⟨p,ys,rfl,M,q⟩:=h;obtain⟨u,rfl,rx⟩:=vals1 r;cases rx;have fin:∀(z:List Value),Vals ys z->ys.length<=zaj->∀(h':Heap) (F:Nat),(∀b o',s.heap.get? b=some o'->h'.get? b=some o')->
   h'.get? s.heap.objs.size=some {cls:=.type "list",dict:=none,data:=.seq z.toArray F,slots:=#[]}->EP X pins σ Q (.ref s.heap.objs.size) {s with heap:=h'}:=λz B hz h' F G e=>
  ⟨.ref s.heap.objs.size,_,I.laid (t':=s.toks) G (zan _) (show ObjOk X.prog X.w _ h' _ (.lst ys)from⟨hz,z,F,B,e⟩),rfl,q _ (I.hok.fresh (zan _))⟩
 rcases M with M|M
 ·obtain⟨z,B,W,hz⟩:=I.list M
  have J:=B.length;obtain⟨o,N,Y,n,U⟩:=W.isList;exact call_list_seq p (.inl rfl) N Y U (λh' F G e=>fin z B hz h' F G e) (by simp only[zaz] <;> lia)
 ·obtain⟨z,B,W,hz⟩:=I.tuple M
  have J:=B.length;obtain⟨o,N,Y,n,U⟩:=W;exact call_list_seq p (.inr rfl) N Y U (λh' F G e=>fin z B hz h' F G e) (by simp only[zaz] <;> lia)
theorem sD:CallR X (.type "tuple") (λxs H Q=>∃p ys,xs=[.ref p]/\((SqL X.K H p ys/\∀l,H l=none->Q (.ref l) (upd H l (.tup ys)))\/(SqT X.K H p ys/\Q (.ref p) H))):=by
 intro pins s σ H xs us Q I r h;obtain⟨p,ys,rfl,h⟩:=h;obtain⟨u,rfl,W⟩:=vals1 r;cases W;rcases h with⟨G,q⟩|⟨G,q⟩
 ·obtain⟨z,F,B,hz⟩:=I.list G
  have M:=F.length;refine call_tuple_list B.isList (λh' U=>?_) (by simp only[zaz] <;> lia);have J:Inv X pins σ H {s with heap:=h'}:=I.kept (t':=s.toks) U;have N:Inv X pins σ (upd H h'.objs.size (.tup ys)) {s with heap:=h'.push {cls:=.type "tuple",data:=.seq z.toArray} }:=
   J.laid (t':=s.toks) (λb o e=>zag _ e) (zan _) (show ObjOk X.prog X.w _ _ _ (.tup ys)from⟨hz,z,F,IsTupN.new _ _⟩)
  exact⟨.ref h'.objs.size,_,N,rfl,q _ (J.hok.fresh (zan _))⟩
 ·obtain⟨z,F,B,hz⟩:=I.tuple G
  exact call_tuple_same B ⟨.ref p,H,I,rfl,q⟩
def qc(K:zaf)(T:String)(x:V)(H:Hp):Prop:=match x with
 | .str _=>T = "str"
 | .int _=>T = "int"
 | .ref p=>(T = "list" /\ ∃xs,SqL K H p xs)\/(T = "tuple" /\ ∃o,K.lookup p=some o/\o.cls=.type "tuple" /\ o.dict=none) \/
   (T = "dict" /\ ((∃kvs,H p=some (.dK kvs))\/∃kvs,H p=some (.dT kvs)))\/(T = "set" /\ ∃S n,H p=some (.set S n))
 | _=>False
theorem RA(I:Inv X pins σ H s)(r:RelV x v)(ty:qc X.K T x H) :
  s.TypeIs v T/\∀a,v=.ref a->∃ob,s.heap.get? a=some ob/\ob.dict=none:=by
 cases x with
 | str z=>
  obtain⟨t,rfl⟩:=r;cases(show T = "str" from ty);exact⟨typeIs_str s z t,λ_ e=>nomatch e⟩
 | int i=>
  obtain⟨t,rfl⟩:=r;cases(show T = "int" from ty);exact⟨zcH s i t,λ_ e=>nomatch e⟩
 | ref p=>
  cases r;rcases ty with⟨rfl,xs,M⟩|⟨rfl,o,q,J,B⟩|⟨rfl,q⟩|⟨rfl,S,n,q⟩
  ·obtain⟨N,_,G,_⟩:=I.list M
   refine⟨G.isList.typeIs,λa e=>?_⟩;cases e;obtain⟨o,n,e,c,B,_⟩:=G;exact⟨o,e,B⟩
  ·refine⟨⟨o,I.kIn p o q,J⟩,λa e=>?_⟩
   cases e;exact⟨o,I.kIn _ o q,B⟩
  ·have z:∃o,s.heap.get? p=some o/\o.ExactDict:=by
    rcases q with⟨kvs,q⟩|⟨kvs,q⟩
    ·obtain⟨_,_,_,_,o,_,_,e,ex,_⟩:=I.hok p _ q
     exact⟨o,e,ex⟩
    ·obtain⟨_,_,_,_,o,_,_,e,ex,_⟩:=I.hok p _ q
     exact⟨o,e,ex⟩
   obtain⟨o,e,ex⟩:=z;refine⟨⟨o,e,ex.1⟩,λa F=>?_⟩;cases F;exact⟨o,e,ex.2.1⟩
  ·obtain⟨o,_,_,_,e,ex,_⟩:=I.hok p _ q
   refine⟨⟨o,e,ex.1⟩,λa F=>?_⟩;cases F;exact⟨o,e,ex.2.1⟩
 | _=>exact zbE ty
def Z3(K:zaf)(T:String)(r:V->List V->Hp->VK->Prop)(to:TE)(t:TA):TE:=λσ H Q=>to σ H λx H1=>qc K T x H1/\t σ H1 λxs H2=>r x xs H2 Q
variable {o e:Expr}{es:List Expr}{to:TE}{t:TA}{name:Str}{apos cpos:Pos}{T id:String}{r:V->List V->Hp->VK->Prop}
theorem OY(pa:PlainAttrs T)(G:Slot T name id)(J:typeOf (.builtin id)=pure (.type "method_descriptor"))(hm:MtR X id r)(ho:PE X o to)(ha:PA X (e::es) t)
  (B:zcI o name X.env (eval o X.env)=eval o X.env:=by rfl)
  (F:((zaJ cpos (zah (e::es) X.env)).all (λx => !x.1) && (zcD cpos (zcE [] X.env)).all (λx => x.1.isSome)
   && decide ((e::es).length+([]:List zbG).length+(if([]:List zbG).isEmpty then 0 else 1)<30))=true:=by rfl)
  (z:(apos.endLine == cpos.line)=true:=by rfl) (hs:zah (e::es) X.env=(false,eval e X.env)::zah es X.env:=by rfl) (q:(zaJ cpos (zah es X.env)).any (·.1)=false:=by rfl) :
  PE X (.Call (.Attribute o name apos) (e::es) [] cpos) (Z3 X.K T r to t):=by
 intro pins s σ H Q I h;refine wpAny_Call_method_late B F z rfl (bL (ho pins s σ H _ I h) λv s1 ⟨x,H1,N,U,ty,q1⟩=>?_);obtain⟨h1,h2⟩:=RA N U ty;refine⟨T,id,pa,G,J,h1,h2,?_⟩;have M:=ha cpos pins s1 σ H1 _ N q1;rw[hs]at M ⊢;refine zd2 (by show(false || (zaJ cpos (zah es X.env)).any (·.1))=false;rw[q] <;> rfl) (ze2 ?_);exact bL M λus Y ⟨vs,H2,I2,r2,W⟩=>hm pins Y σ H2 x vs v us Q I2 U r2 W
end
def ZX(X:Cx)(id:String)(r:V->List V->Hp->VK->Prop):Prop:=
 ∀(pins:List (Addr×Obj)) (s:zab) (σ:St) (H:Hp) (x:V) (xs:List V) (v:Value) (us:List Value) (Q:VK),Inv X pins σ H s->RelV x v->Vals xs us->r x xs H Q->
  wpAny (model X.prog X.w) X.A (call (.builtin id) (v::us)) (EP X pins σ Q) X.xe s
theorem Vals.one:∀ {x:V} {us:List Value},Vals [x] us->∃u,us=[u]/\RelV x u
 | _,_,.cons r .nil=>⟨_,rfl,r⟩
theorem Vals.zero:∀ {us:List Value},Vals [] us->us=[]
 | _,.nil=>rfl
theorem Vals.dropLast(h:Vals xs us):Vals xs.dropLast us.dropLast:=by
 induction h with
 | nil=>exact .nil
 | cons r t ih=>
  cases t with
  | nil=>exact .nil
  | cons q t'=>exact .cons r ih
theorem Vals.rep(h:Vals xs us):∀k:Nat,Vals (zaO k xs).flatten (zaO k us).flatten
 | 0=>.nil
 | k+1=>by
  rw[zcr,zcr,zcJ,zcJ];exact Vals.append h (Vals.rep h k)
theorem foldl_rep(q:List Value):∀(k:Nat) (acc:List Value),
  List.foldl (λF B=>F++B) acc.toArray (zaO k q.toArray)=(acc++(zaO k q).flatten).toArray
 | 0,acc=>by simp
 | k+1,acc=>by
  have e:acc.toArray++q.toArray=(acc++q).toArray:=by simp
  have z:(acc++q)++(zaO k q).flatten=acc++(zaO (k+1) q).flatten:=by
   rw[zcr,zcJ,ze3]
  rw[<- z,<- foldl_rep q k (acc++q),<- e,zcr,zcK]
section
variable {X:Cx}{pins:List (Addr×Obj)}{σ:St}{H:Hp}{s:zab}{l b:Addr}{xs ys zs:List V}
theorem Inv.lset{z its':List Value}{n:Nat}{f:Array Value->Array Value}{t':Nat}(I:Inv X pins σ H s)(B:H l=some (.lst xs))
  (e:s.heap.get? l=some {cls:=.type "list",data:=.seq z.toArray n}) (M:f z.toArray=its'.toArray) (J:Vals ys its') (hz:ys.length<=zaj) :
  Inv X pins σ (upd H l (.lst ys)) {s with heap:=s.heap.update l (zbg f),toks:=t'}:=by
 have q:=PySem.IsL.update e f;rw[M]at q;refine I.write (x:=l) (e:=l) (by rw[B];exact trivial) (.inl rfl) (λN u G F=>(zbI s.heap (zbg f) (zaR G)).trans F) ⟨_,q⟩ ?_;exact⟨hz,its',_,J,q⟩
theorem Inv.lnew(I:Inv X pins σ H s)(z:Vals ys its)(hz:ys.length<=zaj) :
  Inv X pins σ (upd H s.heap.objs.size (.lst ys)) {s with heap:=s.heap.push {cls:=.type "list",data:=.seq its.toArray},toks:=t'}:=
 I.laid (λ_ _ q=>zag _ q) (zan _) ⟨hz,its,0,z,zat _ rfl⟩
theorem Inv.fresh(I:Inv X pins σ H s):H s.heap.objs.size=none:=I.hok.fresh (zan _)
theorem Inv.lstM(I:Inv X pins σ H s)(B:H l=some (.lst xs)):xs.length<=zaj/\∃(q:List Value) (n:Nat),Vals xs q/\xs.length=q.length/\s.heap.get? l=some {cls:=.type "list",data:=.seq q.toArray n}:=by
 obtain⟨z,q,n,r,e⟩:=I.hok l _ B;exact⟨z,q,n,r,r.length,e⟩
theorem HL(h:n<=zaj):ze4 n=false:=by
 unfold ze4;exact decide_eq_false (by lia)
end
section
variable {X:Cx}
def CB:V->List V->Hp->VK->Prop:=λx vs H Q=>∃l xs y,x=.ref l/\vs=[y]/\H l=some (.lst xs)/\xs.length<zaj/\Q .non (upd H l (.lst (xs++[y])))
theorem sV:ZX X "list.append" CB:=by
 intro pins s σ H x vs v us Q I M N h;obtain⟨l,xs,y,rfl,rfl,G,hz,q⟩:=h;cases M;obtain⟨u,rfl,J⟩:=N.one;obtain⟨z,B,n,r,U,e⟩:=I.lstM G;refine zcs F.slot_list_append ⟨_,e,rfl⟩ F.entry_list_append (F.args_list_append_2 _ _) (PySem.list_append l B.toArray n u (by rw[zaz];lia)) ⟨e,?_⟩;refine⟨.non,_,I.lset (its':=B++[u]) G e (by simp) (r.append (.cons J .nil)) ?_,rfl,q⟩;rw[zbk,zd3]
 lia
theorem len_rep{q:Type}(xs:List q)(k:Nat):(zaO k xs).flatten.length=k*xs.length:=by
 induction k with
 | zero=>simp
 | succ k ih=>rw[zcr,zcJ,zbk,ih,Nat.succ_mul,Nat.add_comm]
end
section
variable {prog:zam}{w:World}{A:zar}{E:Value->zab->Prop}{s:zab}
end
section
variable {X:Cx}
end
section
variable {κ:Type}[DecidableEq κ]
noncomputable def k5(kvs:List (κ×V))(k:κ):Option V:=(kvs.find? λq=>decide (q.1=k)).map (·.2)
noncomputable def putK(kvs:List (κ×V))(k:κ)(v:V):List (κ×V):=
 if(kvs.any λq=>decide (q.1=k))=true then kvs.map (λq=>if q.1=k then(q.1,v)else q)else kvs++[(k,v)]
noncomputable def O6(kvs:List (κ×V))(k:κ):List (κ×V):=kvs.filter λq=>decide (q.1≠k)
theorem j8{p:κ×V}{r:List (κ×V)}{k:κ}(e:p.1=k):k5 (p::r) k=some p.2:=by simp[k5,za7,e]
theorem kA{p:κ×V}{r:List (κ×V)}{k:κ}(e:¬ p.1=k):k5 (p::r) k=k5 r k:=by simp[k5,za7,e]
theorem yH(k:κ):∀kvs:List (κ×V),(kvs.any λq=>decide (q.1=k))=(k5 kvs k).isSome
 | []=>rfl
 | p::r=>by
  rw[zbA];by_cases e:p.1=k
  ·simp only[j8 e,decide_eq_true e,Bool.true_or,Option.isSome_some]
  ·rw[kA e,decide_eq_false e,Bool.false_or];exact yH k r
theorem cG(kvs:List (κ×V))(k:κ)(v:V):(putK kvs k v).length<=kvs.length+1:=by
 unfold putK;split
 ·rw[zao];lia
 ·rw[zbk,zaT,zcg];lia
theorem RelO.isSome_eq(r:RelO o u):o.isSome=u.isSome:=by
 cases o with
 | none=>cases u with
  | none=>rfl
  | some _=>exact(show False from r).elim
 | some _=>cases u with
  | none=>exact(show False from r).elim
  | some _=>rfl
theorem RelO.getD(r:RelO o u)(q:RelV d d'):RelV (o.getD d) (u.getD d'):=by
 cases o with
 | none=>cases u with
  | none=>exact q
  | some _=>exact(show False from r).elim
 | some _=>cases u with
  | none=>exact(show False from r).elim
  | some _=>exact r
theorem KV.val(r:KV kvs vs)(k:κ):RelO (k5 kvs k) (zcL vs k):=by
 unfold KV at r;induction r with
 | nil=>exact zbf
 | @cons p q ps qs h t ih=>
  obtain⟨h1,h2⟩:=h;by_cases e:p.1=k
  ·have B:q.1=k:=h1.symm.trans e
   have b:zcL (q::qs) k=some q.2:=by simp[zcL,za7,B]
   rw[j8 e,b];exact h2
  ·have B:¬ q.1=k:=λz=>e (h1.trans z)
   have b:zcL (q::qs) k=zcL qs k:=by simp[zcL,za7,B]
   rw[kA e,b];exact ih
theorem KV.any(r:KV kvs vs)(k:κ):(kvs.any λq=>decide (q.1=k))=vs.any λq=>decide (q.1=k):=by
 unfold KV at r;induction r with
 | nil=>rfl
 | cons h t ih=>rw[zbA,zbA,ih,h.1]
theorem KV.repl(r:KV kvs vs)(k:κ)(F:RelV y u) :
  KV (kvs.map λB=>if B.1=k then(B.1,y)else B) (vs.map λB=>if B.1=k then(B.1,u)else B):=by
 unfold KV at r ⊢;induction r with
 | nil=>exact .nil
 | @cons p q ps qs h t ih=>
  rw[zak,zak];refine .cons ?_ ih;obtain⟨h1,h2⟩:=h;by_cases e:p.1=k
  ·rw[if_pos e,if_pos (h1.symm.trans e)];exact⟨h1,F⟩
  ·rw[if_neg e,if_neg (λz=>e (h1.trans z))];exact⟨h1,h2⟩
theorem KV.put(r:KV kvs vs)(k:κ)(q:RelV y u):KV (putK kvs k y) (stored vs k u):=by
 unfold putK stored;rw[r.any k];by_cases e:(vs.any λz=>decide (z.1=k))=true
 ·rw[if_pos e,if_pos e];exact r.repl k q
 ·rw[if_neg e,if_neg e];exact Paired.snoc r ⟨rfl,q⟩
theorem KV.drop(r:KV kvs vs)(k:κ):KV (O6 kvs k) (without vs k):=by
 unfold KV at r ⊢;unfold O6 without;induction r with
 | nil=>exact .nil
 | @cons p q ps qs h t ih=>
  obtain⟨h1,h2⟩:=h;rw[zd4,zd4];by_cases e:p.1=k
  ·have a:¬ decide (p.1≠k)=true:=by simp[e]
   have b:¬ decide (q.1≠k)=true:=by simp[h1.symm.trans e]
   rw[if_neg a,if_neg b];exact ih
  ·have B:¬ q.1=k:=λz=>e (h1.trans z)
   have a:decide (p.1≠k)=true:=by simp[e]
   have b:decide (q.1≠k)=true:=by simp[B]
   rw[if_pos a,if_pos b];exact .cons ⟨h1,h2⟩ ih
theorem KV.length(r:KV kvs vs):kvs.length=vs.length:=zbX r
end
theorem kZ(r:RelV (kV k) u):(aU P w).is k u=true:=by
 cases k with
 | inl i=>obtain⟨t,e⟩:=(show ∃t,u=Value.int i t from r);subst e;exact wJ P w i t
 | inr x=>obtain⟨t,e⟩:=(show ∃t,u=Value.str x t from r);subst e;exact v8 P w x t
theorem tX:∀ {ks:List Key} {us:List Value},Vals (ks.map kV) us->ItemsAre (aU P w) ks us
 | [],_,r=>by rw[zb1]at r;cases r;exact .nil
 | k::ks,_,r=>by
  rw[zak]at r;cases r with
  | cons h t=>exact .cons (kZ h) (tX t)
abbrev KT(H:Hp):List (List Key×V)->List (List Key×Addr×Value)->Prop:=zaV λp q=>p.1=q.1/\H q.2.1=some (.tup (p.1.map kV))/\RelV p.2 q.2.2
theorem KT.val(r:KT H kvs xs)(k:List Key):RelO (k5 kvs k) ((atKey xs k).map (·.2)):=by
 induction r with
 | nil=>exact zbf
 | @cons p q ps qs h t ih=>
  obtain⟨h1,_,h2⟩:=h;by_cases e:p.1=k
  ·have B:q.1=k:=h1.symm.trans e
   have b:atKey (q::qs) k=some q.2:=by simp[atKey,za7,B]
   rw[j8 e,b];exact h2
  ·have B:¬ q.1=k:=λz=>e (h1.trans z)
   have b:atKey (q::qs) k=atKey qs k:=by simp[atKey,za7,B]
   rw[kA e,b];exact ih
theorem KT.repl(r:KT H kvs xs)(k:List Key)(G:RelV y u) :
  KT H (kvs.map λB=>if B.1=k then(B.1,y)else B) (xs.map (putAt k u)):=by
 induction r with
 | nil=>exact .nil
 | @cons p q ps qs h t ih=>
  rw[zak,zak];refine .cons ?_ ih;obtain⟨h1,h2,F⟩:=h;unfold putAt;by_cases e:p.1=k
  ·rw[if_pos e,if_pos (h1.symm.trans e)];exact⟨h1,h2,G⟩
  ·rw[if_neg e,if_neg (λz=>e (h1.trans z))];exact⟨h1,h2,F⟩
theorem KT.put(r:KT H kvs xs)(k:List Key)(B:H b=some (.tup (k.map kV)))(z:RelV y u) :
  KT H (putK kvs k y) (storedH xs k b u):=by
 have e:(kvs.any λF=>decide (F.1=k))=(atKey xs k).isSome:=by
  rw[yH,(r.val k).isSome_eq,zd5]
 unfold putK storedH;rw[e];by_cases q:(atKey xs k).isSome=true
 ·rw[if_pos q,if_pos q];exact r.repl k z
 ·rw[if_neg q,if_neg q];exact Paired.snoc r ⟨rfl,B,z⟩
theorem KT.keeps(r:KT H kvs xs)(q:∀b ys,H b=some (.tup ys)->H' b=some (.tup ys)):KT H' kvs xs:=
 Paired.mapP r λ_ _ z=>⟨z.1,q _ _ z.2.1,z.2.2⟩
section
variable {P:zam}{w:World}{H:Hp}{h:Heap}{a:Addr}
theorem O7(ok:HOk P w H h)(e:Rd H a u):ObjOk P w H h a u:=e.ok ok
theorem kX(ok:HOk P w H h)(e:Rd H a (.dK kvs)):kvs.length<=zaj/\(a == zbi)=false/\∃vs,KV kvs vs/\h.DictOf (aU P w) a vs:=
 show ObjOk P w H h a (.dK kvs)from O7 ok e
theorem KF(ok:HOk P w H h)(e:H a=some (.dK kvs)):kvs.length<=zaj/\(a == zbi)=false/\∃vs,KV kvs vs/\h.DictOf (aU P w) a vs:=kX ok (.inl e)
theorem fX(ok:HOk P w H h)(e:H a=some (.tup (ks.map kV))):(za4 (aU P w)).is h ks a:=by
 obtain⟨_,q,r,o,h1,h2,n,z⟩:=(show ObjOk P w H h a (.tup (ks.map kV))from ok a _ e);exact⟨o,q.toArray,n,h1,h2,z.1,by simpa using tX r⟩
theorem m6(ok:HOk P w H h)(e:Rd H a (.dT kvs)):kvs.length<=zaj/\(a == zbi)=false /\
  ∃xs,KT H kvs xs/\h.DictOfH (za4 (aU P w)) a xs:=by
 obtain⟨z,y,xs,r,o,es,ep,h1,h2,J,F,G⟩:=(show ObjOk P w H h a (.dT kvs)from O7 ok e);refine⟨z,y,xs,r,o,es,ep,h1,h2,J,F,λx B=>?_,G⟩;have all:∀ {l:List (List Key×V)} {m:List (List Key×Addr×Value)},KT H l m->∀x∈m,(za4 (aU P w)).is h x.1 x.2.1:=by
  intro l m q;induction q with
  | nil=>intro x B;exact nomatch B
  | @cons p q ps qs hq t ih=>
   intro x B;rcases List.mem_cons.mp B with e|B
   ·subst e
    exact fX ok (by rw[<- hq.1];exact hq.2.1)
   ·exact ih x B
 exact all r x B
theorem KJ(ok:HOk P w H h)(e:H a=some (.dT kvs)):kvs.length<=zaj/\(a == zbi)=false /\
  ∃xs,KT H kvs xs/\h.DictOfH (za4 (aU P w)) a xs:=m6 ok (.inl e)
end
def DGet(H:Hp)(a:Addr)(y:V)(r:Option V):Prop:=
 (∃kvs k,Rd H a (.dK kvs)/\y=kV k/\r=k5 kvs k)\/∃kvs k b,Rd H a (.dT kvs)/\y=.ref b/\H b=some (.tup (k.map kV))/\r=k5 kvs k
def DPut(H:Hp)(a:Addr)(y v:V)(H':Hp):Prop:=
 (∃kvs k,H a=some (.dK kvs)/\y=kV k/\kvs.length<zaj/\H'=upd H a (.dK (putK kvs k v))) \/
 ∃kvs k b,H a=some (.dT kvs)/\y=.ref b/\H b=some (.tup (k.map kV))/\kvs.length<zaj/\H'=upd H a (.dT (putK kvs k v))
theorem DGet.k{H:Hp}{a:Addr}{kvs:List (Key×V)}{k:Key}(e:H a=some (.dK kvs)):DGet H a (kV k) (k5 kvs k):=.inl ⟨kvs,k,.inl e,rfl,rfl⟩
theorem DGet.t{H:Hp}{a b:Addr}{kvs:List (List Key×V)}{k:List Key}(e:H a=some (.dT kvs))(q:H b=some (.tup (k.map kV))):DGet H a (.ref b) (k5 kvs k):=.inr ⟨kvs,k,b,.inl e,rfl,q,rfl⟩
theorem DPut.k{H:Hp}{a:Addr}{kvs:List (Key×V)}{k:Key}{v:V}(e:H a=some (.dK kvs))(q:kvs.length<zaj):DPut H a (kV k) v (upd H a (.dK (putK kvs k v))):=.inl ⟨kvs,k,e,rfl,q,rfl⟩
theorem DPut.t{H:Hp}{a b:Addr}{kvs:List (List Key×V)}{k:List Key}{v:V}(e:H a=some (.dT kvs))(q:H b=some (.tup (k.map kV)))(z:kvs.length<zaj) :
  DPut H a (.ref b) v (upd H a (.dT (putK kvs k v))):=.inr ⟨kvs,k,b,e,rfl,q,z,rfl⟩
section
variable {X:Cx}{pins:List (Addr×Obj)}{σ:St}{H:Hp}{s:zab}{a:Addr}{y v:V}{u r:Value}{o:Option V}{A:zar}{E:Value->zab->Prop}
theorem Inv.big(I:Inv X pins σ H s):zbi<s.heap.objs.size:=by
 have h:za2<s.heap.objs.size:=(I.mod.glob.keeps I.bk).lt;exact zcM (by decide) h
theorem FQ(W:A.units+1<cLine)(I:Inv X pins σ H s)(g:DGet H a y (some v))(M:RelV y u)(h:∀F s',Inv X pins σ H s'->RelV v F->Q F s') :
  wpAny (model X.prog X.w) A (zb0 (.ref a) u) Q E s:=by
 rcases g with⟨kvs,k,e,J,l⟩|⟨kvs,k,b,e,J,Y,l⟩
 ·subst J
  obtain⟨z,U,vs,q,dd⟩:=kX I.hok e;obtain⟨F,hw,B⟩:=RelO.some_of (v:=v) (o:=zcL vs k) (by rw[l];exact q.val k);exact wpAny_getItem_of (kZ M) dd.mapOf hw (h F _ (I.tok _) B)
 ·subst J
  cases(show u=zal b from M);obtain⟨z,U,xs,q,dd⟩:=m6 I.hok e;obtain⟨F,hw,B⟩:=RelO.some_of (v:=v) (o:=(atKey xs k).map (·.2)) (by rw[l];exact q.val k);obtain⟨p,N,G⟩:=Option.map_eq_some_iff.mp hw;refine wpAny_getItem_heap (zcZ W) (fX I.hok Y) dd N ?_;rw[G];exact h F _ (I.tok _) B
theorem ZP(M:A.units+1<cLine)(I:Inv X pins σ H s)(g:DGet H a y o)(J:RelV y u)(h:∀s',Inv X pins σ H s'->Q (.bool o.isSome) s') :
  wpAny (model X.prog X.w) A (zaq .In u (.ref a)) Q E s:=by
 rcases g with⟨kvs,k,e,G,l⟩|⟨kvs,k,b,e,G,N,l⟩
 ·subst G
  obtain⟨z,F,vs,B,dd⟩:=kX I.hok e;refine wpAny_in_of (kZ J) F dd.mapOf ?_;rw[<- (B.val k).isSome_eq,<- l];exact h _ (I.tok _)
 ·subst G
  cases(show u=zal b from J);obtain⟨z,F,xs,B,dd⟩:=m6 I.hok e;refine wpAny_in_heap (zcZ M) (fX I.hok N) F dd ?_;have q:=(B.val k).isSome_eq;rw[zd5]at q;rw[<- q,<- l];exact h _ (I.tok _)
theorem MG(M:A.units+1<cLine)(I:Inv X pins σ H s)(g:DGet H a y o)(J:RelV y u)(h:∀s',Inv X pins σ H s'->Q (.bool (!o.isSome)) s') :
  wpAny (model X.prog X.w) A (zaq .NotIn u (.ref a)) Q E s:=by
 rcases g with⟨kvs,k,e,G,l⟩|⟨kvs,k,b,e,G,N,l⟩
 ·subst G
  obtain⟨z,F,vs,B,dd⟩:=kX I.hok e;refine wpAny_notIn_of (kZ J) F dd.mapOf ?_;rw[<- (B.val k).isSome_eq,<- l];exact h _ (I.tok _)
 ·subst G
  cases(show u=zal b from J);obtain⟨z,F,xs,B,dd⟩:=m6 I.hok e;refine wpAny_notIn_heap (zcZ M) (fX I.hok N) F dd ?_;have q:=(B.val k).isSome_eq;rw[zd5]at q;rw[<- q,<- l];exact h _ (I.tok _)
theorem iO(I:Inv X pins σ H s)(G:XX (H a))(hs:zaS a s.heap h')(F:∃q,h'.get? a=some q)(new:ObjOk X.prog X.w (upd H a ob) h' a ob) :
  Inv X pins σ (upd H a ob) {s with heap:=h',toks:=t'}:=
 I.write (x:=a) (e:=a) G (.inl rfl) (λb q B z=>(hs.2 b B).trans z) F new
theorem BA(z:kvs.length<=zaj)(B:(a == zbi)=false)(q:KV kvs vs)(dd:h'.DictOf (aU P w) a vs) :
  ObjOk P w H' h' a (.dK kvs):=⟨z,B,vs,q,dd⟩
theorem D0(hu:A.units+1<cLine)(I:Inv X pins σ H s)(g:DPut H a y v H')(ry:RelV y u)(Y:RelV v r)(h:∀s',Inv X pins σ H' s'->Q () s') :
  wpAny (model X.prog X.w) A (setItem (.ref a) u r) Q E s:=by
 rcases g with⟨kvs,k,e,N,l,U⟩|⟨kvs,k,b,e,N,eb,l,U⟩
 ·subst N U
  obtain⟨z,J,vs,B,dd⟩:=KF I.hok e;have hz:vs.length<=zaj:=by rw[<- B.length];exact z
  have M:(putK kvs k v).length<=zaj:=by have:=cG kvs k v;lia
  refine wpAny_setItem_pairs (hsz:=hz) (kZ ry) dd λh' F hs=>h _ ?_
  have he:∃q,h'.get? a=some q:=let ⟨q,_,_,G,_⟩:=F;⟨q,G⟩;exact iO I (by rw[e];exact zbf) hs he (BA M J (B.put k Y) F)
 ·subst N U
  cases(show u=zal b from ry);obtain⟨z,J,xs,B,dd⟩:=KJ I.hok e;have hz:xs.length<=zaj:=by rw[<- zbX B];exact z
  have M:(putK kvs k v).length<=zaj:=by have:=cG kvs k v;lia
  refine wpAny_setItem_heap (hsz:=hz) (zcZ hu) (fX I.hok eb) dd λh' F hs=>h _ ?_
  obtain⟨q,es,ep,G,h2,h3,h4,_,h5⟩:=F;refine iO I (by rw[e];exact zbf) hs ⟨q,G⟩ ⟨M,J,_,(B.put k eb Y).keeps λc ys W=>?_,q,es,ep,G,h2,h3,h4,h5⟩;rw[aE (DH W e (λz=>nomatch z))];exact W
end
section
variable {X:Cx}{pins:List (Addr×Obj)}{σ:St}{H:Hp}{s:zab}{a:Addr}{kvs:List (Key×V)}{k:Key}{u:Value}{A:zar}{E:Value->zab->Prop}
theorem VC(I:Inv X pins σ H s)(e:Rd H a (.dK kvs))(h:∀t s',Inv X pins σ H s'->Q (.int kvs.length t) s'):wpAny (model X.prog X.w) A (call (.builtin "len") [.ref a]) Q E s:=by
 obtain⟨z,B,vs,q,dd⟩:=kX I.hok e;refine call_len_dict B dd (by rw[<- q.length];rw[zcf]at z;lia) ?_;rw[<- q.length];exact h _ _ (I.tok _)
end
def W2(i:Expr):Prop:=∀q z,zd1 i false q z=operate [q,z] (zb0 q z)
theorem NE{E:Value->zab->Prop}{T id:String}{Q:Value->zab->Prop}
  (M:typeLookup (.type T) "__getitem__" = pure (some (.builtin id))) (hs:W2 slice)
  (h:wpAny (model prog w) A (eval value env) (λo B=>wpAny (model prog w) A (eval slice env) (λi q=>q.TypeIs o T/\wpAny (model prog w) A (zb0 o i) Q E q) E B) E s) :
  wpAny (model prog w) A (eval (.Subscript value slice pos) env) Q E s:=by
 refine Subscript_ (za8 h (λo B J=>za8 J (λi q z=>?_) λ_ _ x=>x) λ_ _ x=>x);obtain⟨hT,z⟩:=z;unfold subscriptTail;refine zaa ?_;rw[getitemInPython_of_ne hT.not_modules];refine zaa (ze5 hT M ?_);have fin:wpAny (model prog w) A (zd1 slice false o i) (λr F=>wpAny (model prog w) A (letTemporaryGo value o r >>= λ_=>pure r) Q E F) E q:=by
  rw[hs o i];exact wpAny_operating (za8 z (λr F G=>zaa (wpAny_letTemporaryGo (zac G))) λ_ _ x=>x)
 first
  | exact zac (zaa fin)
  | exact zaa (zac (zaa fin))
  | exact zaa fin
theorem v6(I:Inv X pins σ H s)(g:DGet H a y o):s.TypeIs (.ref a) "dict" := by
 rcases g with⟨kvs,k,e,_,_⟩|⟨kvs,k,b,e,_,_,_⟩
 ·obtain⟨_,_,vs,_,dd⟩:=kX I.hok e
  exact dd.typeIs
 ·obtain⟨_,_,xs,_,dd⟩:=m6 I.hok e
  exact dd.typeIs
def PM(td ty:TE):TE:=λσ H Q=>td σ H λx H1=>ty σ H1 λy H2=>∃a v,x=.ref a/\DGet H2 a y (some v)/\Q v H2
def WQ(td ty tv:TE):TS:=λD σ H=>tv σ H λv H1=>td σ H1 λx H2=>ty σ H2 λy z=>∃a q,x=.ref a/\DPut z a y v q/\D.nx σ q
section
variable {X:Cx}{o i e value:Expr}{pos pos' tpos:Pos}{td ty tv:TE}
theorem L6(U:X.A.units+1<cLine)(B:PE X o td)(hi:PE X i ty)(hs:W2 i):PE X (.Subscript o i pos) (PM td ty):=by
 intro pins s σ H Q I h;refine NE PySem.F.slot_dict_getitem.lookup hs (bL (B pins s σ H _ I h) λu G ⟨x,H1,M,W,q1⟩=>bL (hi pins G σ H1 _ M q1) λiv s2 ⟨y,H2,z,Y,a,v,ex,g,J⟩=>?_);subst ex;obtain rfl:u=zal a:=W;exact⟨v6 z g,FQ U z g Y λw' s3 N q=>⟨v,H2,N,q,J⟩⟩
theorem M7(N:X.A.units+1<cLine)(W:PE X o td)(hi:PE X i ty)(B:PE X value tv)(hs:za6 value (some (.Subscript o i pos')) pos.line X.env=pure false) :
  PS X (.Assign [.Subscript o i pos'] value pos) (WQ td ty tv):=by
 intro pins s σ H D I h;refine wpAny_Assign_Subscript (bL (B pins s σ H _ I h) λr Y ⟨v,H1,J,rv,q1⟩=>bL (W pins Y σ H1 _ J q1) λu G ⟨x,H2,I2,rx,q⟩=>bL (hi pins G σ H2 _ I2 q) λiv s3 ⟨y,H3,M,U,a,F,ex,g,z⟩=>?_) hs;subst ex;obtain rfl:u=zal a:=rx;exact D0 N M g U rv λs4 I4=>⟨σ,F,I4,z⟩
end
theorem xK(h:Heap)(q:zbi<h.objs.size):ObjOk P w H (h.push {cls:=.type "dict",data:=.dict #[]}) h.objs.size (.dK []):=
 ⟨za3 _,beq_eq_false_iff_ne.mpr (zaR (zay q)),[],.nil,Heap.DictOf.new h⟩
theorem pW(h:Heap)(q:zbi<h.objs.size):ObjOk P w H (h.push {cls:=.type "dict",data:=.dict #[]}) h.objs.size (.dT []):=
 ⟨za3 _,beq_eq_false_iff_ne.mpr (zaR (zay q)),[],.nil,_,#[],0,zat _ rfl,⟨rfl,rfl,rfl⟩,rfl,rfl,zc0⟩
def SW:TE:=λ_ H Q=>∀p,H p=none->Q (.ref p) (upd H p (.dT []))
section
variable {X:Cx}{pos:Pos}
theorem G1:PE X (.Dict [] [] pos) SW:=λpins s σ H Q I h=>
 wpAny_Dict_empty ⟨.ref s.heap.objs.size,_,I.laid (a:=s.heap.objs.size) (o:=.dT []) (t':=s.toks) (λ_ _ q=>zag _ q) (zan _) (pW s.heap I.big),rfl,h _ (I.hok.fresh (zan _))⟩
end
def A4:List (TE×TE)->St->Hp->(List (V×V)->Hp->Prop)->Prop
 | [],_,H,Q=>Q [] H
 | (tk,tv)::r,σ,H,Q=>tk σ H λx H1=>tv σ H1 λy H2=>A4 r σ H2 λps H3=>Q ((x,y)::ps) H3
abbrev VV:List (V×V)->List (Value×Value)->Prop:=zaV λp q=>RelV p.1 q.1/\RelV p.2 q.2
def YC(X:Cx)(pos:Pos)(z:List (Option Expr))(q:List Expr)(B:List (TE×TE)):Prop:=
 ∀(pins:List (Addr×Obj)) (s:zab) (σ:St) (H:Hp) (Q:List (V×V)->Hp->Prop),Inv X pins σ H s->A4 B σ H Q->
  wpAny (model X.prog X.w) X.A (evalPairs (pairTrees z q X.env pos)) (λvs s'=>∃ps H',Inv X pins σ H' s'/\VV ps vs/\Q ps H') X.xe s
theorem BY:YC X pos [] [] []:=λpins s σ H Q I h=>pairTrees_nil_walk ⟨[],H,I,.nil,h⟩
theorem pZ(F:PE X k tk)(Y:PE X v tv)(M:YC X pos ks vs trs) :
  YC X pos (some k::ks) (v::vs) ((tk,tv)::trs):=λpins s σ H Q I h=>
 pairTrees_cons_walk (bL (F pins s σ H _ I h) λu z ⟨x,H1,G,W,q1⟩=>bL (Y pins z σ H1 _ G q1) λw2 s2 ⟨y,H2,I2,ry,B⟩=>
  bL (M pins s2 σ H2 _ I2 B) λws s3 ⟨ps,U,N,q,J⟩=>⟨(x,y)::ps,U,N,.cons ⟨W,ry⟩ q,J⟩)
def dU(kvs more:List (Key×V)):List (Key×V):=more.foldl (λq z=>putK q z.1 z.2) kvs
theorem KV.merge:∀ {more:List (Key×V)} {rs:List (Key×Value)} {kvs:List (Key×V)} {vs:List (Key×Value)},KV more rs->KV kvs vs->KV (dU kvs more) (merged vs rs):=by
 intro more rs kvs vs r;unfold KV at r;induction r generalizing kvs vs with
 | nil=>intro q;exact q
 | @cons p q ps qs h t ih=>
  intro z;have e:KV (putK kvs p.1 p.2) (stored vs q.1 q.2):=by
   have:=z.put p.1 h.2;rw[<- h.1];exact this
  exact ih e
theorem iT:∀(more kvs:List (Key×V)),(dU kvs more).length<=kvs.length+more.length
 | [],kvs=>by show kvs.length<=kvs.length+0;lia
 | p::r,kvs=>by
  have h1:=iT r (putK kvs p.1 p.2);have h2:=cG kvs p.1 p.2;show(dU (putK kvs p.1 p.2) r).length<=_;rw[zaT];lia
theorem pP:∀ {kvs:List (Key×V)} {ws:List (Value×Value)},VV (kvs.map λz=>(kV z.1,z.2)) ws->∃rs,Carries (aU P w) ws rs/\KV kvs rs
 | [],_,r=>by rw[zb1]at r;cases r;exact⟨[],zbf,.nil⟩
 | p::kvs,_,r=>by
  rw[zak]at r;cases r with
  | @cons a b as bs h t=>
   obtain⟨rs,c,q⟩:=pP (P:=P) (w:=w) t;obtain⟨F,B⟩:=b;exact⟨(p.1,B)::rs,⟨kZ h.1,rfl,c⟩,.cons ⟨rfl,h.2⟩ q⟩
def VB(q:List (TE×TE)):TE:=λσ H Q=>∀p,H p=none->A4 q σ (upd H p (.dK [])) λps H2=>H2 p=some (.dK [])/\∃kvs:List (Key×V),ps=kvs.map (λz=>(kV z.1,z.2))/\kvs.length<=15/\Q (.ref p) (upd H2 p (.dK (dU [] kvs)))
theorem B7(h:YC X pos keys values trs)(F:keys.all (·.isSome)=true)(hl:keys.length=values.length)(h0:keys≠[])
  (G:keys.length<=15):PE X (.Dict keys values pos) (VB trs):=by
 intro pins s σ H Q I q;have hn:=I.hok.fresh (zan s.heap.objs.size);have Y:=I.laid (a:=s.heap.objs.size) (o:=.dK []) (h':=s.heap.push {cls:=.type "dict",data:=.dict #[]}) (t':=s.toks) (λ_ _ q=>zag _ q) (zan _) (xK s.heap I.big);refine wpAny_Dict_walk (knd:=aU X.prog X.w) F hl h0 G (bL (h pins _ σ _ _ Y (q _ hn)) λws s2 ⟨ps,H2,M,J,e,kvs,ep,lk,W⟩=>?_);subst ep;obtain⟨rs,c,N⟩:=pP (P:=X.prog) (w:=X.w) J;obtain⟨z,U,ac,r0,dd⟩:=KF M.hok e;cases r0;refine⟨rs,c,dd,λh' B hs=>⟨.ref s.heap.objs.size,_,?_,rfl,W⟩⟩;have hz:(dU [] kvs).length<=zaj:=by
  have h1:=iT kvs [];rw[zcg]at h1;rw[zcf];lia
 have he:∃q,h'.get? s.heap.objs.size=some q:=let ⟨q,_,_,hq,_⟩:=B;⟨q,hq⟩;exact iO M (by rw[e];exact zbf) hs he (BA hz U (N.merge .nil) B)
structure M1(X:Cx)(o:Expr)(m:Str)(apos:Pos)(e:Expr)(cpos:Pos):Prop where
 base:zcI o m X.env (eval o X.env)=eval o X.env
 few:((zaJ cpos (zah [e] X.env)).all (λx=>!x.1) && (zcD cpos (zcE [] X.env)).all (λx=>x.1.isSome)
  && decide (([e]:List Expr).length+([]:List zbG).length+(if([]:List zbG).isEmpty then 0 else 1)<30))=true
 line:(apos.endLine == cpos.line)=true
 trees:zaJ cpos (zah [e] X.env)=[(false,eval e X.env)]
structure M2(X:Cx)(o:Expr)(m:Str)(apos:Pos)(e f:Expr)(cpos:Pos):Prop where
 base:zcI o m X.env (eval o X.env)=eval o X.env
 few:((zaJ cpos (zah [e,f] X.env)).all (λx=>!x.1) && (zcD cpos (zcE [] X.env)).all (λx=>x.1.isSome)
  && decide (([e,f]:List Expr).length+([]:List zbG).length+(if([]:List zbG).isEmpty then 0 else 1)<30))=true
 line:(apos.endLine == cpos.line)=true
 trees:zaJ cpos (zah [e,f] X.env)=[(false,eval e X.env),(false,eval f X.env)]
def UV(H:Hp)(a:Addr):Prop:=(∃kvs,Rd H a (.dK kvs))\/∃kvs,Rd H a (.dT kvs)
theorem AU(I:Inv X pins σ H s)(d:UV H a) :
  s.TypeIs (.ref a) "dict" /\ (∀b,zal a=.ref b->∃ob,s.heap.get? b=some ob/\ob.dict=none)/\(a == zbi)=false:=by
 rcases d with⟨kvs,e⟩|⟨kvs,e⟩
 ·obtain⟨_,z,vs,_,dd⟩:=kX I.hok e
  refine⟨dd.typeIs,λb q=>?_,z⟩;cases q;obtain⟨ob,_,_,h1,h2,_⟩:=dd;exact⟨ob,h1,h2.2.1⟩
 ·obtain⟨_,z,xs,_,dd⟩:=m6 I.hok e
  refine⟨dd.typeIs,λb q=>?_,z⟩;cases q;obtain⟨ob,_,_,h1,h2,_⟩:=dd;exact⟨ob,h1,h2.2.1⟩
section
variable {X:Cx}{pins:List (Addr×Obj)}{σ:St}{H:Hp}{s:zab}{a:Addr}{y d:V}{u r:Value}{o:Option V}{A:zar}{E:Value->zab->Prop}
theorem SX(N:A.units+1<cLine)(I:Inv X pins σ H s)(g:DGet H a y o)(M:RelV y u)(h:∀J s',Inv X pins σ H s'->RelV (o.getD .non) J->Q J s') :
  wpAny (model X.prog X.w) A (call (.builtin "dict.get") [.ref a,u]) Q E s:=by
 rcases g with⟨kvs,k,e,G,l⟩|⟨kvs,k,b,e,G,U,l⟩
 ·subst G
  obtain⟨z,B,vs,q,dd⟩:=kX I.hok e;refine zd6 zc1 dd.typeIs zd7 (PySem.F.args_dict_get_2 _ _) (meets_dict_get (aU X.prog X.w) a (kZ M) B) ⟨_,dd.mapOf,h _ _ (I.tok _) ?_⟩;rw[l];exact(q.val k).getD rfl
 ·subst G
  cases(show u=zal b from M);obtain⟨z,B,xs,q,dd⟩:=m6 I.hok e;refine zd6 zc1 dd.typeIs zd7 (PySem.F.args_dict_get_2 _ _) (meetsH_dict_get (za4 (aU X.prog X.w)) a b B) ⟨zcZ N,k,xs,fX I.hok U,dd,h _ _ (I.tok _) ?_⟩;rw[l];exact(q.val k).getD rfl
theorem QK(U:A.units+1<cLine)(I:Inv X pins σ H s)(g:DGet H a y o)(N:RelV y u)(J:RelV d r)(h:∀M s',Inv X pins σ H s'->RelV (o.getD d) M->Q M s') :
  wpAny (model X.prog X.w) A (call (.builtin "dict.get") [.ref a,u,r]) Q E s:=by
 rcases g with⟨kvs,k,e,G,l⟩|⟨kvs,k,b,e,G,W,l⟩
 ·subst G
  obtain⟨z,B,vs,q,dd⟩:=kX I.hok e;refine zd6 zc1 dd.typeIs zd7 (PySem.F.args_dict_get_3 _ _ _) (meets_dict_get_default (aU X.prog X.w) a (kZ N) B r) ⟨_,dd.mapOf,h _ _ (I.tok _) ?_⟩;rw[l];exact(q.val k).getD J
 ·subst G
  cases(show u=zal b from N);obtain⟨z,B,xs,q,dd⟩:=m6 I.hok e;refine zd6 zc1 dd.typeIs zd7 (PySem.F.args_dict_get_3 _ _ _) (meetsH_dict_get_default (za4 (aU X.prog X.w)) a b B r) ⟨zcZ U,k,xs,fX I.hok W,dd,h _ _ (I.tok _) ?_⟩;rw[l];exact(q.val k).getD J
end
def QY(td ty:TE):TE:=λσ H Q=>td σ H λx H1=>∃a,x=.ref a/\UV H1 a/\ty σ H1 λy H2=>∃o,DGet H2 a y o/\Q (o.getD .non) H2
def QQ(td ty tx:TE):TE:=λσ H Q=>td σ H λx H1=>∃a,x=.ref a/\UV H1 a/\ty σ H1 λy H2=>tx σ H2 λz q=>∃o,DGet q a y o/\Q (o.getD z) q
section
variable {X:Cx}{o e f:Expr}{apos cpos:Pos}{td ty tx:TE}
theorem GJ(M:X.A.units+1<cLine)(U:PE X o td)(he:PE X e ty)(m:M1 X o "get" apos e cpos):PE X (.Call (.Attribute o "get" apos) [e] [] cpos) (QY td ty):=by
 intro pins s σ H Q I h;refine wpAny_Call_method m.base m.few m.line ze6 zc1 PySem.F.type_dict_get (bL (U pins s σ H _ I h) λu W ⟨x,H1,z,rx,a,ex,d,q1⟩=>?_);subst ex;obtain rfl:u=zal a:=rx;obtain⟨Y,G,_⟩:=AU z d;refine⟨Y,G,?_⟩;rw[m.trees];refine zd2 rfl (ze2 (zdT (bL (he pins W σ H1 _ z q1) λiv s2 ⟨y,H2,I2,N,ov,g,B⟩=>zeS ?_)));exact SX M I2 g N λw' s3 J q=>⟨_,H2,J,q,B⟩
theorem G0(W:X.A.units+1<cLine)(ho:PE X o td)(he:PE X e ty)(hf:PE X f tx)(m:M2 X o "get" apos e f cpos):PE X (.Call (.Attribute o "get" apos) [e,f] [] cpos) (QQ td ty tx):=by
 intro pins s σ H Q I h;refine wpAny_Call_method m.base m.few m.line ze6 zc1 PySem.F.type_dict_get (bL (ho pins s σ H _ I h) λu s1 ⟨x,H1,B,rx,a,ex,d,q1⟩=>?_);subst ex;obtain rfl:u=zal a:=rx;obtain⟨t1,M,_⟩:=AU B d;refine⟨t1,M,?_⟩;rw[m.trees];refine zd2 rfl (ze2 (zdT (bL (he pins s1 σ H1 _ B q1) λiv N ⟨y,H2,I2,ry,G⟩=>
  zdT (bL (hf pins N σ H2 _ I2 G) λfv s3 ⟨z,Y,U,rz,ov,g,J⟩=>zeS ?_))))
 exact QK W U g ry rz λw' s4 I4 q=>⟨_,Y,I4,q,J⟩
end
section
variable {X:Cx}{pins:List (Addr×Obj)}{σ:St}{H:Hp}{s:zab}{a:Addr}{kvs:List (Key×V)}{A:zar}{E:Value->zab->Prop}
end
section
variable {X:Cx}{pins:List (Addr×Obj)}{σ:St}{H:Hp}{s:zab}{a:Addr}{y:V}{u:Value}{A:zar}{E:Value->zab->Prop}
end
end L2
namespace Att
open PySem PySem.W PySem.Calls PyProof.Rows
theorem nC:∀(ns:List Int) (vs:List Value),WellAll P h vs (ns.map WData.int)->zaP vs ns:=by
 intro ns;induction ns with
 | nil=>
  intro vs w;rw[zb1]at w;cases w;exact .nil
 | cons n ns ih=>
  intro vs w;rw[zak]at w;cases w with
  | cons a b=>
   cases a;exact .cons _ _ (ih _ b)
theorem E3{l:OpenLaw}{n:Nat}(hn:l.most=some n){P:Params}{h:Heap}{args:List WData}{z:List Value}
  (B:l.row.toRowW.claim.pre args=true) (N:WellAll P h z args) :
  ∃a vs ns,z=[zal a]/\args=[WData.list (ns.map WData.int)]/\h.get? a=some {cls:=.type "list",data:=.seq vs.toArray}/\zaP vs ns/\ns.length<=n:=by
 have M:WShape.hasAll [] args [.list .int]=true:=(pre_splitW B).1;have U:l.pre.holds [] {args:=args}=true:=(pre_splitW B).2;obtain⟨d,r,rfl,h1,h2⟩:=hasAllW_cons M;obtain rfl:=hasAllW_nil h2;obtain⟨xs,rfl,Y⟩:=hasW_list h1;obtain⟨ns,rfl⟩:=items_int Y;have F:ns.length<=n:=by
  unfold OpenLaw.pre at U;have J:(WTm.not (.lt (.lit (.int (n:Int))) (.len (.arg 0)))).holds [] {args:=[.list (ns.map .int)]}=true:=by
   have J:=(holds_andW U).1;rw[hn]at J;exact J
  have G:=condW_of J (w_not (w_lt w_lit (w_len_list (w_arg rfl))));rw[zao]at G;refine Nat.le_of_not_lt λq=>?_
  have W:(n:Int)<((ns.length:Nat):Int):=by lia
  first
   | (rw[decide_eq_true W]at G;exact absurd G (by decide))
   | (simp at G;lia)
 cases N with
 | cons w1 w2=>
  cases w2;cases w1 with
  | list ho hall=>exact⟨_,_,ns,rfl,rfl,ho,nC ns _ hall,F⟩
theorem ED(l:OpenLaw)(args:List WData):l.row.toRowW.claim.post args (.bool true) args=true:=
 postW_of (r:=l.row.toRowW) (X:=(true == true))
  (show WShape.has [] (.bool true) .bool=true by first|rfl|decide|simp[WShape.has,WShape.arms,WShape.armsAll])
  (show(WTm.eq .res (.lit (.bool true))).value [] {args:=args,res:=some (.bool true),after:=args}=some (.bool (true == true))from w_eq_bool (w_res rfl) w_lit) rfl
theorem wG{l:OpenLaw}{n:Nat}{q:zam}{F:List Str}{XP:(Str->Option Value)->Heap->Prop}{YP:World->Heap->Prop}{d:DefRec}
  (hn:l.most=some n) (ag:d.params.defaults=[])
  (call:∀(w:World) (B z:zab) (mg mb:Str -> Option Value) (U:Addr) (o:Obj) (pm cd M:Value) (a:Addr) (vs:List Value) (ns:List Int),
   Ground q F [] XP w B mg mb z.heap->YP w z.heap->
   z.heap.get? U=some o->o.data=.func (docDef d.name d.params d.body d.scope pm cd M)->z.heap.CodeRec cd d.name->mg d.name=some (.ref U)->
   z.heap.get? a=some {cls:=.type "list",data:=.seq vs.toArray}->zaP vs ns->ns.length<=n->z.gens=#[]->
   zbr (model l.prog w) zcN (.call (.ref U) ⟨[.ref a],[]⟩) (λr s'=>r=.ok (.ret (.bool true))/\OldK z.heap s'.heap/\s'.os=z.os/\zcc s'.gens) z) :
  WalkO q F XP YP l.row.toRowW d [] (λf vs=>PySem.call f vs):=by
 intro w B z mg mb G Y U o pm cd M dV kV ho hd af hD ah hg args ai as W ak au ad ay;obtain rfl:dV=.none:=Dflts.none hD ag;obtain rfl:kV=.none:=Dflts.noKw hD;obtain⟨a,vs,ns,rfl,rfl,aa,J,N⟩:=E3 hn W ad;refine enter_call (zdU (call w B z mg mb U o pm cd M a vs ns G Y ho (fd_plain hd) af ah aa J N hg) λr s' hq=>?_);obtain⟨rfl,h2,h3,h4⟩:=hq;exact⟨.inl ⟨.bool true,.bool true,[],rfl,λ_=>rfl,.bool true,ED l _,λ_=>⟨List.Pairwise.nil,λ_ hm=>(nomatch hm)⟩⟩,h2,h3,h4⟩
section
variable {prog:zam}{w:World}{A:zar}{E:Value->zab->Prop}{s:zab}{K:Frag}
noncomputable def vP(h:Heap):Heap:={h with objs:=#[]}
theorem jK(h:Heap)(b:Addr):(vP h).get? b=none:=by
 cases e:(vP h).get? b with
 | none=>rfl
 | some o=>exact absurd (zai e) (ze7 _)
noncomputable def ledger(h:Heap)(L d:Addr):List (Addr×Obj):=(zaA h.objs.size).filterMap λa=>if a=L\/a=d then none else(h.get? a).map λo=>(a,o)
theorem dF:(a,o)∈ledger h L d↔a≠L/\a≠d/\h.get? a=some o:=by
 unfold ledger;rw[List.mem_filterMap];constructor
 ·rintro⟨b,_,e⟩
  split at e
  ·cases e
  ·rename_i hb
   obtain⟨o',z,G⟩:=Option.map_eq_some_iff.mp e;cases G;exact⟨λq=>hb (.inl q),λq=>hb (.inr q),z⟩
 ·rintro⟨F,B,z⟩
  refine⟨a,List.mem_range.mpr (zai z),?_⟩;rw[if_neg (show ¬ (a=L\/a=d)from λq=>q.elim F B),z] <;> rfl
theorem SE(n:h.Ns L m):Fr (vP h) L h m:=
 ⟨n,λb o e=>(by rw[jK]at e;cases e),za3 _⟩
end
end Att
namespace L2
open PySem PySem.Spec PyProof.Rows
theorem sO:∀ {vs:List Value} {ns:List Int},zaP vs ns->Vals (ns.map V.int) vs
 | _,_,.nil=>.nil
 | _,_,.cons n t h=>.cons ⟨t,rfl⟩ (sO h)
def Only(H:Hp):Prop:=∀b,H b=none\/∃o xs,H b=some (.frz o (.lst xs))
theorem HY{P:zam}{w:World}{K:zaf}{mg mb:Str->Option Value}{CX:GA}{k:Nat}{fa a:Addr}{fd:zbq}{x:Str}{sp:Sp}{B:zab}{vs:List Value}{ns:List Int}
  (KX:K.In B.heap) (W:B.heap.Ns za2 mg) (J:B.heap.Ns builtinsNs mb) (am:∀x:Str,x ≠ "__name__" -> mb x=zaM x) (Y:B.heap.NoLimit) (hg:B.gens=#[])
  (ha:B.heap.get? a=some {cls:=.type "list",data:=.seq vs.toArray}) (hi:zaP vs ns) (hl:ns.length<=zaj) (hr:Room k zcN)
  (F:∀base:Heap,K.In base->base.Ns za2 mg->FnOk P w K mg base CX k fa fd [x] sp) (U:∀(s:zab) (u:Value),BindsTo s fd ⟨[u],[]⟩ [(x,u)])
  (ak:∀H:Hp,Only H->SqL K H a (ns.map V.int)->sp [.ref a] H (λv _=>v=.bl true) λ_ _ _=>False)
  (al:∀H e s',CX [] H B (λ_ _ _=>False) e s'->False) :
  zbr (model P w) zcN (.call (.ref fa) ⟨[.ref a],[]⟩) (λr s'=>r=.ok (.ret (.bool true))/\OldK B.heap s'.heap/\s'.os=B.os/\zcc s'.gens) B:=by
 have rv:=sO hi;have aa:=hi.length
 -- from an abstract heap in which nothing but the script may be tracked
 have N:∀H:Hp,Only H->SqL K H a (ns.map V.int)->HOk P w H B.heap->(∀b,H b≠none->b=a)->(H a≠none->K.lookup a=none)->
   zbr (model P w) zcN (.call (.ref fa) ⟨[.ref a],[]⟩) (λr s'=>r=.ok (.ret (.bool true))/\OldK B.heap s'.heap/\s'.os=B.os/\zcc s'.gens) B:=by
  intro H hO hS ae hA hK;have G:∀ {b:Addr} {o:Obj},B.heap.get? b=some o->H b=none->(vW B.heap H).get? b=some o:=λe n=>HK e n
  have ao:∀ {b:Addr} {o:Obj} {es:Array zb3} {ep:Nat},B.heap.get? b=some o->o.data=.dict es ep->H b=none:=λ{b o es ep} e d=>by
   cases q:H b with
   | none=>rfl
   | some u=>
    have e':b=a:=hA b (by rw[q];simp);subst e';rw[ha]at e;cases e;have d':Data.seq vs.toArray _=Data.dict es ep:=d;cases d'
  have M:∀ {b:Addr} {m:Str->Option Value},B.heap.Ns b m->(vW B.heap H).Ns b m:=λ{b m} ⟨o,es,ep,e,d,r⟩=>⟨o,es,ep,G e (ao e d),d,r⟩
  have af:K.In (vW B.heap H):=λb o e=>G (KX b o e) (by
   cases q:H b with
   | none=>rfl
   | some u=>
    have e':b=a:=hA b (by rw[q];simp);subst e';rw[hK (by rw[q];simp)]at e;cases e)
  have hM:Mod K mg (vW B.heap H):=⟨af,M W,⟨mb,M J,am⟩,let ⟨mc,h1,h2⟩:=Y;⟨mc,M h1,h2⟩⟩;have e0:Env0 P w K mg (vW B.heap H) zcN [] B H:=⟨rfl,hM,λb o e=>L5 e,Nat.le_of_eq (D6 _ _),trivial,λb J=>absurd (show b∈([]:List Addr)from J) (by simp),ae,.of_eq hg⟩;refine zdU ((F _ af (M W)).run zcN [] B H ⟨[.ref a],[]⟩ [.ref a] [.ref a] _ _ hr e0 (U B (.ref a)) (.cons rfl .nil) (ak H hO hS)) λr s' h=>?_
  cases r with
  | error e=>exact(al H e s' h).elim
  | ok fl=>
   cases fl with
   | next=>exact zbE h
   | brk=>exact zbE h
   | cont=>exact zbE h
   | ret u=>
    obtain⟨v,H',os,ac,un,ab,r',q⟩:=h;have q':v=.bl true:=q;subst q';obtain rfl:u=zcb true:=r';refine⟨rfl,OldK.of_keep λb o e=>?_,os,ac⟩;cases q:H b with
    | none=>exact un.keep b o e q (by intro z;exact absurd (show b∈([]:List Addr)from z) (by simp)) (by simp)
    | some u=>
     rcases hO b with z|⟨ob,xs,z⟩
     ·rw[q]at z;cases z
     ·have z2:=un.frzs b ob _ z
      obtain⟨e1,_⟩:=ae b _ z;obtain⟨e2,_⟩:=ab b _ z2;rw[e]at e1;cases e1;exact e2
 cases hk:K.lookup a with
 | some o=>
  -- the script is one of the module's own objects
  have e:=KX a o hk;rw[ha]at e;cases e;refine N (λ_=>none) (λ_=>.inl rfl) (.inr ⟨_,vs.toArray,_,hk,rfl,rfl,rfl,by rw[zaz,aa];exact hl,by simpa using rv⟩) (λb u z=>by have z':(none:Option HO)=some u:=z;cases z') (λb z=>absurd rfl z) λz=>absurd rfl z
 | none=>
  refine N (λb=>if b=a then some (.frz {cls:=.type "list",data:=.seq vs.toArray} (.lst (ns.map V.int)))else none) (λb=>?_) (.inl (.inr ⟨{cls:=.type "list",data:=.seq vs.toArray},if_pos rfl⟩)) (λb u z=>?_) (λb z=>?_) λ_=>hk
  ·by_cases J:b=a
   ·exact .inr ⟨_,_,if_pos J⟩
   ·exact .inl (if_neg J)
  ·by_cases J:b=a
   ·have z':=(if_pos J).symm.trans z
    cases z';subst J;exact⟨ha,by rw[zao];exact hl,vs,_,rv,ha⟩
   ·have z':=(if_neg J).symm.trans z
    cases z'
  ·by_cases J:b=a
   ·exact J
   ·exact absurd (if_neg J) z
theorem K9{l:ze8}{n k:Nat}{q:zam}{J:List Str}{XP:(Str->Option Value)->Heap->Prop}{YP:World->Heap->Prop}{d:DefRec}{K:Params->zaf}{CX:World->GA}{sp:World->Sp}{x:Str}
  (hn:l.most=some n) (ad:n<=zaj) (ab:d.params.defaults=[]) (hr:Room k zcN)
  (hY:∀(w:World) (h:Heap),YP w h->(K w.params).In h)
  (F:∀(w:World) (mg:Str -> Option Value) (U:Addr) (h:Heap), (K w.params).In h -> h.Ns za2 mg -> mg d.name = some (.ref U) ->
   ∃fd:zbq,(∀(s:zab) (u:Value),BindsTo s fd ⟨[u],[]⟩ [(x,u)]) /\
    ∀base:Heap,(K w.params).In base->base.Ns za2 mg->FnOk l.prog w (K w.params) mg base (CX w) k U fd [x] (sp w))
  (aa:∀(w:World) (H:Hp) (a:Addr) (ns:List Int),ns.length<=n->Only H->SqL (K w.params) H a (ns.map V.int)->sp w [.ref a] H (λv _=>v=.bl true) λ_ _ _=>False)
  (ac:∀(w:World) (H:Hp) (s:zab) (e:Value) (s':zab),CX w [] H s (λ_ _ _=>False) e s'->False) :
  PySem.W.WalkO q J XP YP l.row.toRowW d [] (λf vs=>PySem.call f vs):=by
 refine Att.wG hn ab λw ah M mg mb U o pm cd aq a vs ns G Y ho hd ak ae N B z hg=>?_
 have KX:=hY w _ Y;obtain⟨fd,hb,hF⟩:=F w mg U _ KX G.T.g ae;exact HY KX G.T.g G.T.b G.T.builtins G.T.nolimit hg N B (zbd z ad) hr hF hb (λH hO hS=>aa w H a ns z hO hS) λH e s'=>ac w H M e s'
noncomputable def dP(s:Stmt):Arguments:=match s with
 | .FunctionDef _ a _ _ _ _ _ _ _ _=>a
 | _=>{posonlyargs:=[],args:=[],vararg:=none,kwonlyargs:=[],kw_defaults:=[],kwarg:=none,defaults:=[]}
noncomputable def bZ(s:Stmt):List Stmt:=match s with
 | .FunctionDef _ _ b _ _ _ _ _ _ _=>b
 | _=>[]
def aT(s:Stmt):Scope:=match s with
 | .FunctionDef _ _ _ _ _ _ sc _ _ _=>sc
 | _=>{kind:=.function,names:=[],isGenerator:=false,isCoroutine:=false}
abbrev F6:GA:=λ_ _ _ _ _ _=>False
abbrev E0:XK:=λ_ _ _=>False
theorem VN:AZ F6 X E0:=λ_ _ _ _ _ _ _ h=>h.elim
structure Fun(K:zaf)(x qual:Str)(st:Stmt)(f:Addr)(fd:zbq):Prop where
 ex:∃(oc:Value) (od:Option Addr) (kV doc pm:Value) (an:Option Addr) (cdv ct:Value) (osl:Array (Option Value)),
  fd=zbH x qual (dP st) (bZ st) (aT st) .none kV doc pm an cdv ct/\K.lookup f=some ⟨oc,od,.func fd,osl⟩/\zcY K cdv qual=true
 kp:zcp K (.ref f)=true
section
variable {P:zam}{w:World}{K:zaf}{mg:Str->Option Value}{base:Heap}
theorem Fun.ok{x B:Str}{st:Stmt}{f:Addr}{fd:zbq}{N ps:List Str}{k:Nat}{sp:Sp}(F:Fun K x B st f fd)(S:FnScope N ps (aT st))(len:∀vs H Q E,sp vs H Q E->vs.length=ps.length)
  (J:∀(G:Value) (A:zar) (z:List Env) (s:zab) (H:Hp) (vs:List V) (Q:VK) (E:XK), Room k (A.deeper (zbn B (aT st) s.heap.objs.size f G)) -> sp vs H Q E ->
   ∃t,PSs (rR F6 P w K mg base N B (aT st) f G A z s H E).nox (bZ st) t/\t {nx:=λ_ H'=>Q .non H',rt:=Q} (start N vs) H):FnOk P w K mg base F6 (k+1) f fd ps sp:=by
 obtain⟨oc,od,kV,ab,pm,an,G,ct,aa,rfl,Y,U⟩:=F.ex;refine VH Y U S len λA z s H vs Q E W M=>?_
 obtain⟨t,h,q⟩:=J G A z s H vs Q E W M;exact⟨t,h.nox,q⟩
theorem Fun.binds{x q:Str}{st:Stmt}{f:Addr}{fd:zbq}{ps:List Str}(F:Fun K x q st f fd)
  (h:∀(kV B J:Value) (G:Option Addr) (z ct:Value) (us:List Value),us.length=ps.length->bindArgs (zbH x q (dP st) (bZ st) (aT st) .none kV B J G z ct) ⟨us,[]⟩=pure (ps.zip us)):Binds K fd ps []:=by
 obtain⟨U,od,kV,B,J,G,z,ct,M,rfl,W,N⟩:=F.ex;exact .all (h kV B J G z ct)
theorem JL{x q:Str}{st:Stmt}{f:Addr}{M:Value}{od G:Option Addr}{F:Array (Option Value)}{kV B J z ct:Value}(l:K.lookup f=some ⟨M,od,.func (zbH x q (dP st) (bZ st) (aT st) .none kV B J G z ct),F⟩)
  (c:zcY K z q=true) (k:zcp K (.ref f)=true):Fun K x q st f (zbH x q (dP st) (bZ st) (aT st) .none kV B J G z ct):=⟨⟨M,od,kV,B,J,G,z,ct,F,rfl,l,c⟩,k⟩
end
theorem PJ(q:Room k A):A.units+1<cLine:=zd8 (Nat.add_le_add_left (by decide:1<=64) _) q.units
section
variable {X:Cx}
theorem pv(i:Nat)(B:X.N[i]?=some x:=by rfl)(z:UY X.env.scope x:=by first|exact zbJ rfl|exact zbS (zbJ rfl)|exact zbS (zbS rfl))(F:(x == ("__debug__" : Str))=false:=by decide)
  (q:(x == ("__classdict__" : Str))=false:=by decide):PE X (.Name x pos) (sJ i):=TH B z F q
end
theorem YN{A B:Prop}(h:B):if false=true then A else B:=by
 rw[if_neg zau];exact h
theorem YQ{A B:Prop}(h:A):if true=true then A else B:=by
 rw[if_pos rfl];exact h
def Same(H H':Hp):Prop:=∀b o,H b=some o->H' b=some o
theorem Same.trans(a:Same H H1)(b:Same H1 H2):Same H H2:=λc o h=>b c o (a c o h)
theorem Same.free(e:Same H H')(h:H' l=Option.none):H l=Option.none:=by
 cases q:H l with
 | none=>rfl
 | some o=>
  rw[e l o q]at h;cases h
theorem Same.seq{K:zaf}{H H':Hp}{a:Addr}{xs:List V}(e:Same H H')(h:SqL K H a xs):SqL K H' a xs:=by
 rcases h with(h|⟨o,h⟩)|h
 ·exact .inl (.inl (e _ _ h))
 ·exact .inl (.inr ⟨o,e _ _ h⟩)
 ·exact .inr h
section
variable {X:Cx}
end
section
variable {κ:Type}[DecidableEq κ]
theorem C1:∀ {l:List κ} {k:κ},l.Nodup->¬ k∈l->(l++[k]).Nodup
 | [],k,_,_=>by simp
 | a::r,k,h,hk=>by
  obtain⟨h1,h2⟩:=List.nodup_cons.mp h;show(a::(r++[k])).Nodup;refine List.nodup_cons.mpr ⟨λm=>?_,C1 h2 λm=>hk (List.mem_cons.mpr (zbS m))⟩;rcases List.mem_append.mp m with q|q
  ·exact h1 q
  ·exact hk (List.mem_cons.mpr (zbJ (List.mem_singleton.mp q).symm))
end
end L2
set_option maxHeartbeats 4000000
namespace My
open PySem PySem.Spec PyProof.Rows L2
def WW(i j:Int):Prop:=(-(10^250)<i/\i<10^250)/\-(10^250)<j/\j<10^250
section
variable {X:Cx}
def ZQ(K:zaf):List V->Hp->VK->Prop:=λxs H Q=>∃x n t b,xs=[x,.ty n]/\TyOf K H x t/\zdk K t (.type n)=some b/\Q (.bl b) H
theorem GQ:CallR X (.builtin "isinstance") (ZQ X.K):=by
 intro pins s σ H xs us Q I r h;obtain⟨x,n,t,b,rfl,ty,e,q⟩:=h;obtain⟨u,F,rfl,B,z⟩:=vals2 r;cases z;exact FA I B ty e λtk=>⟨.bl b,H,I.tok tk,rfl,q⟩
end
structure Ok(P:zam)(w:World)(K:zaf)(mg:Str->Option Value)(base:Heap)(x:Str)(k:Nat)(ps:List Str)(sp:Sp):Prop where
 ex:∃f fd,zcp K (.ref f)=true/\Binds K fd ps []/\mg x=some (.ref f)/\FnOk P w K mg base F6 k f fd ps sp
structure DefAt(K:zaf)(mg:Str->Option Value)(x:Str)(st:Stmt)(ps:List Str):Prop where
 ex:∃f fd,Fun K x x st f fd/\Binds K fd ps []/\mg x=some (.ref f)
def RW(sp:Sp)(t:TA):TE:=λσ H Q=>t σ H λvs H1=>sp vs H1 Q E0
section
variable {X:Cx}{x:Str}{k:Nat}{ps:List Str}{sp:Sp}{e:Expr}{es:List Expr}{t:TA}{p pos:Pos}
theorem IC(O:Ok X.prog X.w X.K X.mg X.base x k ps sp)(G:Room k X.A)(N:Gl X x)(M:PA X (e::es) t)(z:(x == ("__debug__" : Str))=false:=by decide)
  (U:zah (e::es) X.env=(false,eval e X.env)::zah es X.env:=by rfl) (q:(zaJ pos (zah es X.env)).any (·.1)=false:=by rfl) :
  PE X (.Call (.Name x p) (e::es) [] pos) (RW sp t):=by
 obtain⟨f,fd,B,J,W,F⟩:=O.ex;have h:=MY (p:=p) (pos:=pos) F G N W B J .nil VN M z U q;intro pins s σ H Q I hw;refine h pins s σ H Q I ?_;have e:(λ(vs:List V) (H1:Hp)=>sp (vs++[]) H1 Q E0)=λvs H1=>sp vs H1 Q E0:=by
  funext vs H1;rw[zcC]
 show t σ H λvs H1=>sp (vs++[]) H1 Q E0
 rw[e];exact hw
end
section
variable {P:zam}{w:World}{K:zaf}{mg:Str->Option Value}{base:Heap}
def BodyOk(P:zam)(w:World)(K:zaf)(mg:Str->Option Value)(base:Heap)(x:Str)(st:Stmt)(N:List Str)(k:Nat)(sp:Sp):Prop:=
 ∀(f:Addr) (cdv:Value) (A:zar) (outer:List Env) (s:zab) (H:Hp) (vs:List V) (Q:VK) (E:XK),Room k (A.deeper (zbn x (aT st) s.heap.objs.size f cdv))->sp vs H Q E->
   ∃t,PSs (rR F6 P w K mg base N x (aT st) f cdv A outer s H E).nox (bZ st) t/\t {nx:=λ_ H'=>Q .non H',rt:=Q} (start N vs) H
theorem BodyOk.fn{x:Str}{st:Stmt}{N ps:List Str}{k:Nat}{sp:Sp}{f:Addr}{fd:zbq}(z:BodyOk P w K mg base x st N k sp)(F:Fun K x x st f fd)(S:FnScope N ps (aT st))(len:∀vs H Q E,sp vs H Q E->vs.length=ps.length) :
  FnOk P w K mg base F6 (k+1) f fd ps sp:=F.ok S len λB A q s H vs Q E G h=>z f B A q s H vs Q E G h
theorem BodyOk.ok{x:Str}{st:Stmt}{N ps:List Str}{k:Nat}{sp:Sp}(q:BodyOk P w K mg base x st N k sp)(D:DefAt K mg x st ps)(S:FnScope N ps (aT st))(len:∀vs H Q E,sp vs H Q E->vs.length=ps.length) :
  Ok P w K mg base x (k+1) ps sp:=by
 obtain⟨f,fd,F,B,z⟩:=D.ex;exact⟨f,fd,F.kp,B,z,q.fn F S len⟩
theorem Ok.mono(O:Ok P w K mg base x j ps sp)(h:j<=k):Ok P w K mg base x k ps sp:=by
 obtain⟨f,fd,z,q,B,F⟩:=O.ex;exact⟨f,fd,z,q,B,F.mono h⟩
end
def yS(K:zaf):Sp:=λvs H Q _=>∃(a:Addr) (ns:List Int),vs=[.ref a]/\SqL K H a (ns.map V.int)/\ns.length<=63/\∀H',Q (.bl true) H'
theorem walk{l:ze8}{q:zam}{B:List Str}{N:(Str->Option Value)->Heap->Prop}{J:World->Heap->Prop}{d:DefRec}{K:Params->zaf}{k:Nat}(M:k<=100)(hn:l.most=some 63)(G:d.params.defaults=[])
  (hY:∀(w:World) (h:Heap),J w h->(K w.params).In h)
  (F:∀(w:World) (mg:Str -> Option Value) (fa:Addr) (h:Heap), (K w.params).In h -> h.Ns za2 mg -> mg d.name = some (.ref fa) ->
   ∃fd:zbq,(∀(s:zab) (u:Value),BindsTo s fd ⟨[u],[]⟩ [("script",u)])/\∀base:Heap,(K w.params).In base->base.Ns za2 mg->FnOk l.prog w (K w.params) mg base F6 k fa fd ["script"] (yS (K w.params))) :
  PySem.W.WalkO q B N J l.row.toRowW d [] (λf vs=>PySem.call f vs):=
 L2.K9 (n:=63) (k:=k) (x := "script") (CX:=λ_=>F6) (sp:=λw=>yS (K w.params)) hn (by decide) G (Room.mono (k:=100) ⟨rfl,by decide,by decide⟩ M) hY F (λ_ _ a ns Y _ U=>⟨a,ns,rfl,U,Y,λ_=>rfl⟩) λ_ _ _ _ _ z=>z
theorem xP(h:H p=none):Same H (upd H p o):=λb u e=>by
 rw[aE (aQ e h)];exact e
theorem Same.tupR{K:zaf}{H H':Hp}{a:Addr}{xs:List V}(e:Same H H')(h:SqT K H a xs):SqT K H' a xs:=by
 rcases h with(h|⟨o,h⟩)|h
 ·exact .inl (.inl (e _ _ h))
 ·exact .inl (.inr ⟨o,e _ _ h⟩)
 ·exact .inr h
theorem boot_len:zaM "len" = some (.builtin "len"):=by decide +kernel
theorem boot_max:zaM "max" = some (.builtin "max"):=by decide +kernel
theorem boot_min:zaM "min" = some (.builtin "min"):=by decide +kernel
theorem boot_isinstance:zaM "isinstance" = some (.builtin "isinstance"):=by decide +kernel
theorem boot_sorted:zaM "sorted" = some (.builtin "sorted"):=by decide +kernel
theorem boot_int:zaM "int" = some (.type "int"):=by decide +kernel
theorem boot_bool:zaM "bool" = some (.type "bool"):=by decide +kernel
theorem boot_tuple:zaM "tuple" = some (.type "tuple"):=by decide +kernel
theorem boot_list:zaM "list" = some (.type "list"):=by decide +kernel
theorem boot_dict:zaM "dict" = some (.type "dict"):=by decide +kernel
theorem boot_range:zaM "range" = some (.type "range"):=by decide +kernel
theorem boot_zip:zaM "zip" = some (.type "zip"):=by decide +kernel
theorem boot_all:zaM "all" = some (.builtin "all"):=by decide +kernel
end My
namespace My
open PySem PySem.Spec PyProof.Rows L2 PySem.SeqAt
inductive Dx where
 | non|bl (b:Bool)|int (i:Int)|str (x:Str)|tup (l:List Dx)|lst (l:List Dx)
mutual
def Rep(K:zaf)(H:Hp):Dx->V->Prop
 | .non,v=>v=.non
 | .bl b,v=>v=.bl b
 | .int i,v=>v=.int i
 | .str x,v=>v=.str x
 | .tup l,v=>∃a xs,v=.ref a/\SqT K H a xs/\RepL K H l xs
 | .lst l,v=>∃a xs,v=.ref a/\SqL K H a xs/\RepL K H l xs
def RepL(K:zaf)(H:Hp):List Dx->List V->Prop
 | [],vs=>vs=[]
 | d::ds,vs=>∃x xs,vs=x::xs/\Rep K H d x/\RepL K H ds xs
end
section
variable {K:zaf}{H H':Hp}
mutual
theorem Rep.same(e:Same H H'):∀(d:Dx) (v:V),Rep K H d v->Rep K H' d v
 | .non,v,h=>by rw[Rep]at h ⊢;exact h
 | .bl b,v,h=>by rw[Rep]at h ⊢;exact h
 | .int i,v,h=>by rw[Rep]at h ⊢;exact h
 | .str x,v,h=>by rw[Rep]at h ⊢;exact h
 | .tup l,v,h=>by
  rw[Rep]at h ⊢;obtain⟨a,xs,q,h1,h2⟩:=h;exact⟨a,xs,q,Same.tupR e h1,RepL.same e l xs h2⟩
 | .lst l,v,h=>by
  rw[Rep]at h ⊢;obtain⟨a,xs,q,h1,h2⟩:=h;exact⟨a,xs,q,e.seq h1,RepL.same e l xs h2⟩
theorem RepL.same(e:Same H H'):∀(ds:List Dx) (vs:List V),RepL K H ds vs->RepL K H' ds vs
 | [],vs,h=>by rw[RepL]at h ⊢;exact h
 | d::ds,vs,h=>by
  rw[RepL]at h ⊢;obtain⟨x,xs,q,h1,h2⟩:=h;exact⟨x,xs,q,Rep.same e d x h1,RepL.same e ds xs h2⟩
end
theorem RepL.nil:RepL K H [] []:=by rw[RepL]
theorem RepL.cons(h1:Rep K H d v)(h2:RepL K H ds vs):RepL K H (d::ds) (v::vs):=by
 rw[RepL];exact⟨v,vs,rfl,h1,h2⟩
theorem RepL.length:∀ {ds:List Dx} {vs:List V},RepL K H ds vs->vs.length=ds.length
 | [],vs,h=>by rw[RepL]at h;rw[h];rfl
 | d::ds,vs,h=>by
  rw[RepL]at h;obtain⟨x,xs,rfl,_,h2⟩:=h;rw[zaT,zaT,RepL.length h2]
theorem RepL.get':∀ {ds:List Dx} {vs:List V} {i:Nat} {d:Dx},RepL K H ds vs->ds[i]?=some d->∃v,vs[i]?=some v/\Rep K H d v
 | [],vs,i,d,h,e=>by simp at e
 | d'::ds,vs,i,d,h,e=>by
  rw[RepL]at h;obtain⟨x,xs,rfl,h1,h2⟩:=h;cases i with
  | zero=>simp at e;subst e;exact⟨x,rfl,h1⟩
  | succ i=>exact RepL.get' (i:=i) (ds:=ds) h2 (by simpa using e)
mutual
def Dx.dep:Dx->Nat
 | .tup l=>BP l+1
 | .lst l=>BP l+1
 | .non=>0
 | .bl _=>0
 | .int _=>0
 | .str _=>0
def BP:List Dx->Nat
 | []=>0
 | d::ds=>max d.dep (BP ds)
end
mutual
def Dx.nb:Dx->Bool
 | .bl _=>false
 | .tup l=>P3 l
 | .lst l=>P3 l
 | .non=>true
 | .int _=>true
 | .str _=>true
def P3:List Dx->Bool
 | []=>true
 | d::ds=>d.nb && P3 ds
end
theorem CH:∀ {ds:List Dx} {i:Nat} {d:Dx},ds[i]?=some d->d.dep<=BP ds
 | [],i,d,e=>by simp at e
 | d'::ds,0,d,e=>by simp at e;subst e;rw[BP];lia
 | d'::ds,i+1,d,e=>by
  have:=CH (ds:=ds) (i:=i) (by simpa using e);rw[BP];lia
theorem A8:∀ {ds:List Dx} {i:Nat} {d:Dx},P3 ds=true->ds[i]?=some d->d.nb=true
 | [],i,d,_,e=>by simp at e
 | d'::ds,0,d,h,e=>by simp at e;subst e;rw[P3,zaK]at h;exact h.1
 | d'::ds,i+1,d,h,e=>by
  rw[P3,zaK]at h;exact A8 h.2 (by simpa using e)
end
section
variable {X:Cx}{pins:List (Addr×Obj)}{σ:L2.St}{H:Hp}{s:zab}
theorem CZ(I:Inv X pins σ H s)(h1:SqL X.K H a xs)(h2:SqT X.K H a ys):False:=by
 obtain⟨B,_,⟨o,n,e,c,_⟩,_⟩:=I.list h1;obtain⟨its',_,⟨o',z,q,_⟩,_⟩:=I.tuple h2;rw[e]at z;cases z;rw[c]at q;exact absurd q (by decide)
mutual
theorem Rep.inj(I:Inv X pins σ H s):∀(d e:Dx) (v:V),Rep X.K H d v->Rep X.K H e v->d=e
 | .non,e,v,h,h'=>by
  rw[Rep]at h;subst h;cases e <;> (rw[Rep]at h') <;> first|rfl|(cases h';done)|(obtain⟨_,_,z,_⟩:=h';cases z)
 | .bl b,e,v,h,h'=>by
  rw[Rep]at h;subst h;cases e <;> (rw[Rep]at h') <;> first|(cases h';rfl)|(cases h';done)|(obtain⟨_,_,z,_⟩:=h';cases z)
 | .int i,e,v,h,h'=>by
  rw[Rep]at h;subst h;cases e <;> (rw[Rep]at h') <;> first|(cases h';rfl)|(cases h';done)|(obtain⟨_,_,z,_⟩:=h';cases z)
 | .str x,e,v,h,h'=>by
  rw[Rep]at h;subst h;cases e <;> (rw[Rep]at h') <;> first|(cases h';rfl)|(cases h';done)|(obtain⟨_,_,z,_⟩:=h';cases z)
 | .tup l,e,v,h,h'=>by
  rw[Rep]at h;obtain⟨a,xs,rfl,h1,h2⟩:=h;cases e with
  | tup m=>
   rw[Rep]at h';obtain⟨b,ys,q,B,F⟩:=h';cases q;have G:=I.tuple_inj h1 B;subst G;rw[RepL.inj I l m xs h2 F]
  | lst m=>
   rw[Rep]at h';obtain⟨b,ys,q,B,F⟩:=h';cases q;exact(CZ I B h1).elim
  | non=>rw[Rep]at h';cases h'
  | bl b=>rw[Rep]at h';cases h'
  | int i=>rw[Rep]at h';cases h'
  | str x=>rw[Rep]at h';cases h'
 | .lst l,e,v,h,h'=>by
  rw[Rep]at h;obtain⟨a,xs,rfl,h1,h2⟩:=h;cases e with
  | lst m=>
   rw[Rep]at h';obtain⟨b,ys,q,B,F⟩:=h';cases q;have G:=I.list_inj h1 B;subst G;rw[RepL.inj I l m xs h2 F]
  | tup m=>
   rw[Rep]at h';obtain⟨b,ys,q,B,F⟩:=h';cases q;exact(CZ I h1 B).elim
  | non=>rw[Rep]at h';cases h'
  | bl b=>rw[Rep]at h';cases h'
  | int i=>rw[Rep]at h';cases h'
  | str x=>rw[Rep]at h';cases h'
theorem RepL.inj(I:Inv X pins σ H s):∀(ds es:List Dx) (vs:List V),RepL X.K H ds vs->RepL X.K H es vs->ds=es
 | [],es,vs,h,h'=>by
  rw[RepL]at h;subst h;cases es with
  | nil=>rfl
  | cons e es=>rw[RepL]at h';obtain⟨_,_,z,_⟩:=h';cases z
 | d::ds,es,vs,h,h'=>by
  rw[RepL]at h;obtain⟨x,xs,rfl,h1,h2⟩:=h;cases es with
  | nil=>rw[RepL]at h';cases h'
  | cons e es=>
   rw[RepL]at h';obtain⟨_,_,z,B,q⟩:=h';cases z;rw[Rep.inj I d e x h1 B,RepL.inj I ds es xs h2 q]
end
end
open Classical in
theorem uU:∀(ds es:List Dx),((zaA (min ds.length es.length)).all (λj=>decide (ds.getD j .non=es.getD j .non)) && ds.length == es.length)=decide (ds=es):=by
 intro ds es;by_cases h:ds=es
 ·subst h
  simp
 ·rw[decide_eq_false h]
  by_cases q:ds.length=es.length
  ·simp only[q,Nat.min_self,beq_self_eq_true,Bool.and_true]
   rw[zc2];intro z;rw[zcO]at z;refine h (zdo q λi h1 h2=>?_);have:=of_decide_eq_true (z i (List.mem_range.mpr h2));simpa[zc3,h1,h2]using this
  ·have:(ds.length == es.length)=false:=by simpa using q
   rw[this,Bool.and_false]
open Classical in
theorem yG(ds es:List Dx)(h:ds.length=es.length):((zaA ds.length).all (λj=>decide (ds.getD j .non=es.getD j .non)))=decide (ds=es):=by
 have:=uU ds es;rw[h,Nat.min_self,beq_self_eq_true,Bool.and_true]at this;rw[h];exact this
section
variable {X:Cx}{pins:List (Addr×Obj)}{σ:L2.St}{H:Hp}{s:zab}
theorem EqAt.to(h:EqAt A s u v b)(e:b=c):EqAt A s u v c:=e ▸ h
open Classical in
theorem kF(I:Inv X pins σ H s){n:Nat}(ih:∀(A:zar) (d e:Dx) (x y:V) (u v:Value),d.dep<=n->A.units+n<cLine->d.nb=true->e.nb=true->Rep X.K H d x->Rep X.K H e y->RelV x u->RelV y v->EqAt A s u v (decide (d=e)))
  {A:zar} {ds es:List Dx} {xs ys:List V} {us vs:List Value} (N:BP ds<=n) (hu:A.units+(n+1)<cLine) (h1:P3 ds=true) (h2:P3 es=true) (M:RepL X.K H ds xs) (F:RepL X.K H es ys) (J:Vals xs us) (B:Vals ys vs) :
  ∀j (h1:j<us.toArray.size) (h2:j<vs.toArray.size),EqAt A.in1 s us.toArray[j] vs.toArray[j] (decide (ds.getD j .non=es.getD j .non)):=by
 intro j j1 j2;have l1:=M.length;have l2:=F.length;have l3:=J.length;have l4:=B.length;have k1:j<us.length:=by simpa using j1
 have k2:j<vs.length:=by simpa using j2
 have q:ds[j]?=some (ds.getD j .non):=by simp[zc3,show j<ds.length by lia]
 have G:es[j]?=some (es.getD j .non):=by simp[zc3,show j<es.length by lia]
 obtain⟨x,ex,rx⟩:=M.get' q;obtain⟨y,W,Y⟩:=F.get' G;obtain⟨u,z,U⟩:=J.get ex;obtain⟨v,ev,rv⟩:=B.get W;have b1:us.toArray[j]=u:=by
  rw[zaY k1]at z;simpa using zaI z
 have b2:vs.toArray[j]=v:=by
  rw[zaY k2]at ev;simpa using zaI ev
 rw[b1,b2];exact ih A.in1 _ _ x y u v (zbd (CH q) N) (by show A.units+1+n<cLine;lia) (A8 h1 q) (A8 h2 G) rx Y U rv
end
section
variable {X:Cx}{pins:List (Addr×Obj)}{σ:L2.St}{H:Hp}{s:zab}
theorem PlainL.isList(p:PlainL h a its):h.IsList a its:=by
 obtain⟨o,n,e,c,_,d⟩:=p;exact⟨o,e,c,n,d⟩
open Classical in
theorem uO(I:Inv X pins σ H s) :
  ∀(n:Nat) (A:zar) (d e:Dx) (x y:V) (u v:Value),d.dep<=n->A.units+n<cLine->d.nb=true->e.nb=true->Rep X.K H d x->Rep X.K H e y->RelV x u->RelV y v->EqAt A s u v (decide (d=e)):=by
 intro n;induction n with
 | zero=>
  intro A d e x y u v hd hu Y M W q ru F;have B:A.units<cLine:=by lia
  cases d with
  | bl b=>rw[Dx.nb]at Y;cases Y
  | tup l=>rw[Dx.dep]at hd;lia
  | lst l=>rw[Dx.dep]at hd;lia
  | non=>
   rw[Rep]at W;subst W;cases ru;cases e with
   | bl b=>rw[Dx.nb]at M;cases M
   | non=>rw[Rep]at q;subst q;cases F;exact EqAt.to (EqAt.same _) (by simp)
   | int i=>rw[Rep]at q;subst q;obtain⟨t,rfl⟩:=F;exact EqAt.to (EqAt.none_int _ _) (by simp)
   | str i=>rw[Rep]at q;subst q;obtain⟨t,rfl⟩:=F;exact EqAt.to (EqAt.none_str _ _) (by simp)
   | tup l=>
    rw[Rep]at q;obtain⟨a,xs,rfl,h1,_⟩:=q;cases F;obtain⟨J,_,G,_⟩:=I.tuple h1;exact EqAt.to (EqAt.none_tuple G B) (by simp)
   | lst l=>
    rw[Rep]at q;obtain⟨a,xs,rfl,h1,_⟩:=q;cases F;obtain⟨J,_,G,_⟩:=I.list h1;exact EqAt.to (EqAt.none_list G.isList B) (by simp)
  | int i=>
   rw[Rep]at W;subst W;obtain⟨t,rfl⟩:=ru;cases e with
   | bl b=>rw[Dx.nb]at M;cases M
   | non=>rw[Rep]at q;subst q;cases F;exact EqAt.to (EqAt.int_none _ _) (by simp)
   | int j=>rw[Rep]at q;subst q;obtain⟨t',rfl⟩:=F;exact EqAt.to (EqAt.int_int _ _ _ _) (by simp[ze9])
   | str j=>rw[Rep]at q;subst q;obtain⟨t',rfl⟩:=F;exact EqAt.to (EqAt.int_str _ _ _ _) (by simp)
   | tup l=>
    rw[Rep]at q;obtain⟨a,xs,rfl,h1,_⟩:=q;cases F;obtain⟨J,_,G,_⟩:=I.tuple h1;exact EqAt.to (EqAt.int_tuple _ _ G B) (by simp)
   | lst l=>
    rw[Rep]at q;obtain⟨a,xs,rfl,h1,_⟩:=q;cases F;obtain⟨J,_,G,_⟩:=I.list h1;exact EqAt.to (EqAt.int_list _ _ G.isList B) (by simp)
  | str i=>
   rw[Rep]at W;subst W;obtain⟨t,rfl⟩:=ru;cases e with
   | bl b=>rw[Dx.nb]at M;cases M
   | non=>rw[Rep]at q;subst q;cases F;exact EqAt.to (EqAt.str_none _ _) (by simp)
   | int j=>rw[Rep]at q;subst q;obtain⟨t',rfl⟩:=F;exact EqAt.to (EqAt.str_int _ _ _ _) (by simp)
   | str j=>rw[Rep]at q;subst q;obtain⟨t',rfl⟩:=F;exact EqAt.to (EqAt.str_str _ _ _ _) (by simp[ze9])
   | tup l=>
    rw[Rep]at q;obtain⟨a,xs,rfl,h1,_⟩:=q;cases F;obtain⟨J,_,G,_⟩:=I.tuple h1;exact EqAt.to (EqAt.str_tuple _ _ G B) (by simp)
   | lst l=>
    rw[Rep]at q;obtain⟨a,xs,rfl,h1,_⟩:=q;cases F;obtain⟨J,_,G,_⟩:=I.list h1;exact EqAt.to (EqAt.str_list _ _ G.isList B) (by simp)
 | succ n ih=>
  intro A d e x y u v hd hu Y M W q ru F;have B:A.units<cLine:=by lia
  cases d with
  | bl b=>rw[Dx.nb]at Y;cases Y
  | non=>exact ih A _ e x y u v (by rw[Dx.dep];lia) (by lia) Y M W q ru F
  | int i=>exact ih A _ e x y u v (by rw[Dx.dep];lia) (by lia) Y M W q ru F
  | str i=>exact ih A _ e x y u v (by rw[Dx.dep];lia) (by lia) Y M W q ru F
  | tup l=>
   have ad:=W;rw[Rep]at W;obtain⟨a,xs,rfl,h1,q1⟩:=W;cases ru;obtain⟨J,v1,G,_⟩:=I.tuple h1;cases e with
   | bl b=>rw[Dx.nb]at M;cases M
   | non=>rw[Rep]at q;subst q;cases F;exact EqAt.to (EqAt.tuple_none G B) (by simp)
   | int j=>rw[Rep]at q;subst q;obtain⟨t',rfl⟩:=F;exact EqAt.to (EqAt.tuple_int _ _ G B) (by simp)
   | str j=>rw[Rep]at q;subst q;obtain⟨t',rfl⟩:=F;exact EqAt.to (EqAt.tuple_str _ _ G B) (by simp)
   | lst m=>
    rw[Rep]at q;obtain⟨b,ys,rfl,h2,q2⟩:=q;cases F;obtain⟨U,v2,N,_⟩:=I.list h2;exact EqAt.to (EqAt.tuple_list G N.isList B) (by simp)
   | tup m=>
    by_cases hv:v=zal a
    ·subst hv
     obtain rfl:y=V.ref a:=RelV.inj F rfl;have:=Rep.inj I _ _ _ ad q;rw[this];exact EqAt.to (EqAt.same _) (by simp)
    ·rw[Rep]at q;obtain⟨b,ys,rfl,h2,q2⟩:=q;cases F
     obtain⟨U,v2,N,_⟩:=I.tuple h2;rw[Dx.dep]at hd;rw[Dx.nb]at Y M;refine EqAt.to (EqAt.of_refs (λz=>hv (by rw[z])) (RcAt.tuples G N B (kF I ih (by lia) hu Y M q1 q2 v1 v2))) ?_;have e1:J.toArray.size=l.length:=by rw[zaz,<- v1.length,q1.length]
     have e2:U.toArray.size=m.length:=by rw[zaz,<- v2.length,q2.length]
     rw[e1,e2,uU];simp
  | lst l=>
   have ad:=W;rw[Rep]at W;obtain⟨a,xs,rfl,h1,q1⟩:=W;cases ru;obtain⟨J,v1,G,_⟩:=I.list h1;cases e with
   | bl b=>rw[Dx.nb]at M;cases M
   | non=>rw[Rep]at q;subst q;cases F;exact EqAt.to (EqAt.list_none G.isList B) (by simp)
   | int j=>rw[Rep]at q;subst q;obtain⟨t',rfl⟩:=F;exact EqAt.to (EqAt.list_int _ _ G.isList B) (by simp)
   | str j=>rw[Rep]at q;subst q;obtain⟨t',rfl⟩:=F;exact EqAt.to (EqAt.list_str _ _ G.isList B) (by simp)
   | tup m=>
    rw[Rep]at q;obtain⟨b,ys,rfl,h2,q2⟩:=q;cases F;obtain⟨U,v2,N,_⟩:=I.tuple h2;exact EqAt.to (EqAt.list_tuple G.isList N B) (by simp)
   | lst m=>
    by_cases hv:v=zal a
    ·subst hv
     obtain rfl:y=V.ref a:=RelV.inj F rfl;have:=Rep.inj I _ _ _ ad q;rw[this];exact EqAt.to (EqAt.same _) (by simp)
    ·rw[Rep]at q;obtain⟨b,ys,rfl,h2,q2⟩:=q;cases F
     obtain⟨U,v2,N,_⟩:=I.list h2;rw[Dx.dep]at hd;rw[Dx.nb]at Y M;have e1:J.toArray.size=l.length:=by rw[zaz,<- v1.length,q1.length]
     have e2:U.toArray.size=m.length:=by rw[zaz,<- v2.length,q2.length]
     by_cases hl:l.length=m.length
     ·refine EqAt.to (EqAt.of_refs (λz=>hv (by rw[z])) (RcAt.lists G.isList N.isList (by rw[e1,e2,hl]) B (kF I ih (by lia) hu Y M q1 q2 v1 v2))) ?_
      rw[e1,yG _ _ hl];simp
     ·refine EqAt.to (EqAt.of_refs (λz=>hv (by rw[z])) (RcAt.lists_lengths G.isList N.isList (by rw[e1,e2];simpa using hl) B)) ?_
      rw[decide_eq_false];intro z;cases z;exact hl rfl
end
noncomputable def Dx.seq:Dx->Bool
 | .tup _=>true | .lst _=>true | .non=>false | .bl _=>false | .int _=>false | .str _=>false
open Classical in
def XN(K:zaf)(neg:Bool):R2:=λx y H Q=>∃d e,Rep K H d x/\Rep K H e y/\d.seq=true/\e.seq=true/\d.nb=true/\e.nb=true/\d.dep<=60/\Q (.bl (if neg then !decide (d=e)else decide (d=e))) H
section
variable {X:Cx}{pins:List (Addr×Obj)}{σ:L2.St}{H:Hp}{s:zab}
open Classical in
theorem PX(I:Inv X pins σ H s)(hu:X.A.units+64<cLine)(r1:Rep X.K H d x)(M:Rep X.K H e y)(q1:d.seq=true)(J:e.seq=true)(n1:d.nb=true)(n2:e.nb=true)(hd:d.dep<=60)(ru:RelV x u)(rv:RelV y v) :
  RcAt X.A s u v (decide (d=e))/\RcNeAt X.A s u v (!decide (d=e)):=by
 have B:X.A.units<cLine:=by lia
 cases d with
 | bl b=>cases q1
 | non=>cases q1
 | int b=>cases q1
 | str b=>cases q1
 | tup l=>
  rw[Rep]at r1;obtain⟨a,xs,rfl,h1,k1⟩:=r1;cases ru;obtain⟨N,v1,G,_⟩:=I.tuple h1;have U:N.toArray.size=l.length:=by rw[zaz,<- v1.length,k1.length]
  cases e with
  | bl b=>cases J
  | non=>cases J
  | int b=>cases J
  | str b=>cases J
  | tup m=>
   rw[Rep]at M;obtain⟨b,ys,rfl,h2,Y⟩:=M;cases rv;obtain⟨F,W,q,_⟩:=I.tuple h2;have e2:F.toArray.size=m.length:=by rw[zaz,<- W.length,Y.length]
   rw[Dx.dep]at hd;rw[Dx.nb]at n1 n2;have he:=kF I (uO I 60) (A:=X.A) (by lia) (by lia) n1 n2 k1 Y v1 W;have a1:=RcAt.tuples G q B he;have a2:=RcNeAt.tuples G q B he;rw[U,e2,uU]at a1 a2;have z:decide (Dx.tup l=Dx.tup m)=decide (l=m):=by simp
   rw[z];exact⟨a1,a2⟩
  | lst m=>
   rw[Rep]at M;obtain⟨b,ys,rfl,h2,Y⟩:=M;cases rv;obtain⟨F,W,q,_⟩:=I.list h2;have z:decide (Dx.tup l=Dx.lst m)=false:=by simp
   rw[z];exact⟨RcAt.tuple_list G q.isList B,RcNeAt.tuple_list G q.isList B⟩
 | lst l=>
  rw[Rep]at r1;obtain⟨a,xs,rfl,h1,k1⟩:=r1;cases ru;obtain⟨N,v1,G,_⟩:=I.list h1;have U:N.toArray.size=l.length:=by rw[zaz,<- v1.length,k1.length]
  cases e with
  | bl b=>cases J
  | non=>cases J
  | int b=>cases J
  | str b=>cases J
  | tup m=>
   rw[Rep]at M;obtain⟨b,ys,rfl,h2,Y⟩:=M;cases rv;obtain⟨F,W,q,_⟩:=I.tuple h2;have z:decide (Dx.lst l=Dx.tup m)=false:=by simp
   rw[z];exact⟨RcAt.list_tuple G.isList q B,RcNeAt.list_tuple G.isList q B⟩
  | lst m=>
   rw[Rep]at M;obtain⟨b,ys,rfl,h2,Y⟩:=M;cases rv;obtain⟨F,W,q,_⟩:=I.list h2;have e2:F.toArray.size=m.length:=by rw[zaz,<- W.length,Y.length]
   rw[Dx.dep]at hd;rw[Dx.nb]at n1 n2;have z:decide (Dx.lst l=Dx.lst m)=decide (l=m):=by simp
   rw[z];by_cases hl:l.length=m.length
   ·have he:=kF I (uO I 60) (A:=X.A) (by lia) (by lia) n1 n2 k1 Y v1 W
    have a1:=RcAt.lists G.isList q.isList (by rw[U,e2,hl]) B he;have a2:=RcNeAt.lists G.isList q.isList (by rw[U,e2,hl]) B he;rw[U,yG _ _ hl]at a1 a2;exact⟨a1,a2⟩
   ·have z2:decide (l=m)=false:=decide_eq_false λz=>hl (by rw[z])
    rw[z2];exact⟨RcAt.lists_lengths G.isList q.isList (by rw[U,e2];simpa using hl) B,RcNeAt.lists_lengths G.isList q.isList (by rw[U,e2];simpa using hl) B⟩
end
section
variable {X:Cx}
theorem RZ(J:X.A.units+64<cLine):OpR X (zaq .Eq) (XN X.K false):=by
 intro pins s σ H x y v u Q I N U h;obtain⟨d,e,W,G,Y,B,F,M,z,q⟩:=h;exact(PX I J W G Y B F M z N U).1 X.prog X.w X.xe _ ⟨.bl _,H,I,rfl,q⟩
theorem QB(J:X.A.units+64<cLine):OpR X (zaq .NotEq) (XN X.K true):=by
 intro pins s σ H x y v u Q I N U h;obtain⟨d,e,W,G,Y,B,F,M,z,q⟩:=h;exact(PX I J W G Y B F M z N U).2 X.prog X.w X.xe _ ⟨.bl _,H,I,rfl,q⟩
end
noncomputable def US(lo c:Int)(n:Nat):It:=⟨λi _=>i<n,λi H x H'=>H'=H/\x=.int (lo+i*c),λi _=>n<=i⟩
theorem wA{P:zam}{w:World}{K:zaf}{tg:Expr}(it:Addr)(lo c:Int)(n:Nat):Turn P w K tg (US lo c n) [it] it (λi h=>zdQ h it (lo+(i:Nat)*c) ((n:Int)-(i:Nat)) c) where
 mem:=by simp
 obj:=λi h st b q=>by
  have e:b=it:=by simpa using q
  subst e;exact⟨_,st,λv z=>by
   have z':Data.fields _=Data.cell v:=z;cases z'⟩
 keep:=λi h h' st k=>k it (by simp) _ st
 item:=by
  intro X J hw M hc i pins s σ H E I F st hg;subst J hw M;obtain⟨U,N,f2,f3,G,Y⟩:=F it (by simp);have W:=Walks.range (prog:=X.prog) (w:=X.w) (I.ok.hd hc) it lo c n;refine W.item i s _ _ hg st λv h' tk hv B kk=>?_
  obtain⟨t,rfl⟩:=hv;have I1:Inv X pins σ H {s with heap:=h',toks:=tk}:=I.turned (λb o q e=>kk b o (by simpa using q) e) U N f3 G Y;exact⟨_,rfl,rN (s:={s with heap:=h',toks:=tk}) (n := "range_iterator") B rfl rfl (by decide) ⟨.int (lo+i*c),H,I1,⟨t,rfl⟩,⟨rfl,rfl⟩,B,λb q=>(F b q).1⟩⟩
 done:=by
  intro X J hw M hc i pins s σ H E I F st hg;subst J hw M;obtain⟨U,N,f2,f3,G,Y⟩:=F it (by simp);exact wpAny_pyNext_range_end (I.ok.hd hc) st (by have:n<=i:=hg;lia) λh' eb=>⟨rfl,I.turned (t':=s.toks) (λb o q e=>eb b o q e) U N f3 G Y⟩
 self:=λ_ _ _ _ _ st h=>wpAny_pyIter_rangeiter st h
noncomputable def rsz(a b c:Int):Nat:=(zbN a b c).toNat
theorem QX(a b c:Int)(q:c≠0):zbN a b c=(rsz a b c:Int):=by
 unfold rsz;have:0<=zbN a b c:=by
  unfold zbN;split
  ·rename_i h
   split
   ·have:=zfa (show 0<=b-a-1 by lia) (show 0<=c by lia)
    lia
   ·lia
  ·split
   ·have:=zfa (show 0<=a-b-1 by lia) (show 0<=-c by lia)
    lia
   ·lia
 lia
def V7(ta:TA):TI:=λσ H R=>ta σ H λvs H1=>∃i j c:Int,vs=[.int i,.int j,.int c]/\(c≠0/\c.natAbs<1000/\zch i j c=true)/\R (US i c (rsz i j c)) H1
theorem DW(hg:Gl X "range")(hm:X.mg "range" = none)(ha:PA X [a,b,c] ta)(hs:zah [a,b,c] X.env=[(false,eval a X.env),(false,eval b X.env),(false,eval c X.env)]:=by rfl)(G:zah [b,c] X.env=[(false,eval b X.env),(false,eval c X.env)]:=by rfl) :
  PI X tg (.Call (.Name "range" p) [a,b,c] [] pos) (V7 ta):=by
 intro pins s σ H R I h;refine Call_ (eW I hg hm My.boot_range (zcB (bL (ha pos pins s σ H _ I h) λus F ⟨vs,H1,N,r1,q1⟩=>?_) (by rw[hs,G]) (by rw[G];rfl)));obtain⟨i,j,z,e,⟨c0,c1,M⟩,q⟩:=q1;subst e;cases r1 with
 | cons r rr=>
  cases rr with
  | cons r' rr=>
   cases rr with
   | cons r'' rr=>
    cases rr;obtain⟨t,rfl⟩:=r;obtain⟨t',rfl⟩:=r';obtain⟨B,rfl⟩:=r'';refine call_range_3 c0 ?_ (zbJ (PyProof.noPylong_small (by lia)));refine wpAny_pyIter_range (IsRange.new ..) M ?_;have J:Inv X pins σ H1 {F with heap:=F.heap.push {cls:=.type "range",data:=.fields #[.int i t,.int j t',.int z B]},toks:=F.toks}:=N.kept λb o e=>zag _ e
    refine⟨(F.heap.push {cls:=.type "range",data:=.fields #[.int i t,.int j t',.int z B]}).objs.size,[(F.heap.push {cls:=.type "range",data:=.fields #[.int i t,.int j t',.int z B]}).objs.size],_,_,H1,rfl,
     J.kept (t':=F.toks) λb o e=>zag _ e,wA _ i z (rsz i j z),?_,λb Y=>?_,q⟩
    ·show zdQ _ _ (i+((0:Nat):Int)*z) (((rsz i j z:Nat):Int)-((0:Nat):Int)) z
     rw[<- QX i j z c0];have W:i+((0:Nat):Int)*z=i:=by simp
     have U:zbN i j z-((0:Nat):Int)=zbN i j z:=by simp
     rw[W,U];exact zat _ rfl
    ·have e:b=(F.heap.push {cls:=.type "range",data:=.fields #[.int i t,.int j t',.int z B]}).objs.size:=by simpa using Y
     subst e;exact J.fpOk (zan _) (J.hok.fresh (zan _))
theorem EG(M:1<=c)(F:c<=1000)(J:-1000000<=a)(q:a<=1000000)(G:-1000000<=b)(B:b<=1000000):zch a b c=true:=by
 have h1:a<b->0<=(b-a-1)/c/\(b-a-1)/c<=b-a-1:=λh=>⟨zfa (by lia) (by lia),Int.ediv_le_self _ (by lia)⟩
 unfold zch zbN;simp only[zfo,zaK,zdp,decide_eq_true_eq,beq_iff_eq,show c>0 by lia,if_true];split
 ·rename_i h
  have:=h1 h;generalize (b-a-1)/c=z at *
  lia
 ·lia
def TSame(H H':Hp):Prop:=∀b xs,Rd H b (.tup xs)->Rd H' b (.tup xs)
theorem Same.t(e:Same H H'):TSame H H':=λb xs h=>by
 rcases h with h|⟨o,h⟩
 ·exact .inl (e _ _ h)
 ·exact .inr ⟨o,e _ _ h⟩
theorem TSame.trans(a:TSame H H1)(b:TSame H1 H2):TSame H H2:=λc o h=>b c o (a c o h)
theorem TSame.put(h:H l=some (.lst us)):TSame H (upd H l o):=λb xs q=>by
 have ne:b≠l:=λz=>by
  subst z;rcases q with q|⟨ob,q⟩ <;> (rw[h]at q;cases q)
 rcases q with q|⟨ob,q⟩
 ·exact .inl (by rw[aE ne];exact q)
 ·exact .inr ⟨ob,by rw[aE ne];exact q⟩
theorem TSame.sq{K:zaf}{H H':Hp}{a:Addr}{xs:List V}(e:TSame H H')(h:SqT K H a xs):SqT K H' a xs:=by
 rcases h with h|h
 ·exact .inl (e _ _ h)
 ·exact .inr h
mutual
def Dx.nl:Dx->Bool
 | .lst _=>false
 | .tup l=>YA l
 | .non=>true
 | .bl _=>true
 | .int _=>true
 | .str _=>true
def YA:List Dx->Bool
 | []=>true
 | d::ds=>d.nl && YA ds
end
section
variable {K:zaf}{H H':Hp}
mutual
theorem Rep.tsame(e:TSame H H'):∀(d:Dx) (v:V),d.nl=true->Rep K H d v->Rep K H' d v
 | .non,v,_,h=>by rw[Rep]at h ⊢;exact h
 | .bl b,v,_,h=>by rw[Rep]at h ⊢;exact h
 | .int i,v,_,h=>by rw[Rep]at h ⊢;exact h
 | .str x,v,_,h=>by rw[Rep]at h ⊢;exact h
 | .tup l,v,n,h=>by
  rw[Rep]at h ⊢;rw[Dx.nl]at n;obtain⟨a,xs,q,h1,h2⟩:=h;exact⟨a,xs,q,e.sq h1,RepL.tsame e l xs n h2⟩
 | .lst l,v,n,h=>by rw[Dx.nl]at n;cases n
theorem RepL.tsame(e:TSame H H'):∀(ds:List Dx) (vs:List V),YA ds=true->RepL K H ds vs->RepL K H' ds vs
 | [],vs,_,h=>by rw[RepL]at h ⊢;exact h
 | d::ds,vs,n,h=>by
  rw[RepL]at h ⊢;rw[YA,zaK]at n;obtain⟨x,xs,q,h1,h2⟩:=h;exact⟨x,xs,q,Rep.tsame e d x n.1 h1,RepL.tsame e ds xs n.2 h2⟩
end
end
theorem Same.put(e:Same H H')(h:H l=none):Same H (upd H' l o):=λb u q=>by
 rw[aE (aQ q h)];exact e b u q
def aW(X:Cx)(N:List Str)(scope:Scope)(q:List (Str×Addr))(C:Addr)(s:zab)(H:Hp)(fp:List Addr):Cx where
 prog:=X.prog
 w:=X.w
 K:=X.K
 mg:=X.mg
 base:=X.base
 A:=X.A
 N:=N
 s₀:=s
 H₀:=H
 env:=compEnvC scope q C X.env
 outer:=X.stack
 stack:=X.stack
 ex:=fp
 fn:=λ_=>false
 calm:=X.calm
 pn:=[]
 xe:=λ_ _=>False
def DR(X:Cx)(q:List Expr)(t:TT):Prop:=
 ∀(pins:List (Addr×Obj)) (s:zab) (σ:L2.St) (H:Hp) (Q:Bool->Hp->Prop),Inv X pins σ H s->t σ H Q->
  wpAny (model X.prog X.w) X.A (forIn q true λc r=>if r=true then do let ok <- isTrue c X.env (eval c X.env);pure (zc4 ok)else pure (zc4 r)) (TP X pins σ Q) X.xe s
def YO:TT:=λ_ H Q=>Q true H
theorem N3:DR X [] YO:=λpins s σ H Q I h=>wpAny_tests_nil ⟨H,I,h⟩
theorem NA(h:PT X c t):DR X [c] t:=λpins s σ H Q I hw=>wpAny_tests_one (h pins s σ H Q I hw)
structure Clo(X:Cx)(N:List Str)(scope:Scope)(cl:List (Str×Addr)):Prop where
 clos:closureFor scope X.env=pure cl
 kind:scope.kind=.function
 nocell:∀y∈scope.names,y.2≠.cell
 names:∀y∈scope.names,y.2=.local->scope.names.lookup y.1=some .local
 sub:∀x c,cl.lookup x=some c->X.env.cells.lookup x=some c
 has:∀x,((zbK scope X.env).names.lookup x=some .cell\/(zbK scope X.env).names.lookup x=some .free)->∃c,cl.lookup x=some c
def Start(X:Cx)(N:List Str)(scope:Scope)(σ q:L2.St):Prop:=
 q.length=N.length/\∀(j:Nat) (x:Str) (v:V),N[j]?=some x->q[j]?=some (some v)->UY (zbK scope X.env) x->¬ (zbK scope X.env).names.lookup x=some .local/\∃i:Nat,X.N[i]?=some x/\σ[i]?=some (some v)/\(X.env.kindOf x=some .cell\/X.env.kindOf x=some .free)
def KL(wi:TI)(g:TG)(Y:TT)(te:TE)(S:L2.St->L2.St->Prop):TE:=λσ H Q=>∃F,S σ F/\wi σ H λJ H1=>∀D,H1 D=none->∃W:Nat->Nat->L2.St->List V->Hp->Prop,(∃m,W 0 m F [] (upd H1 D (.lst []))) /\
 ∀i m B us H2,W i m B us H2->(J.stop i H2/\Q (.ref D) H2)\/(J.go i H2/\us.length<zaj/\∀x M,J.yld i H2 x M->g x B M λq U=>Y q U λok G=>
  if ok=true then te q G λv N=>N D=some (.lst us)/\∃z,z<m/\W (i+1) z q (us++[v]) (upd N D (.lst (us++[v])))else G D=some (.lst us)/\∃z,z<m/\W (i+1) z q us G)
section
variable {X:Cx}
theorem MT(B:Inv X pins σ H3 s3)(G:Clo X N scope cl)(J:∀b∈fp,iB X pins H3 b)(M:∀b∈fp,∃o,s3.heap.get? b=some o) :
  (aW X N scope cl s3.heap.objs.size s3 H3 fp).Ok where
 mod:=B.ok.mod
 kind:=G.kind
 glob:=B.ok.glob
 blt:=B.ok.blt
 above:=zan _
 inj:=λx y c h1 h2=>B.ok.inj x y c (G.sub x c h1) (G.sub y c h2)
 has:=λx h=>G.has x h
 cab:=λx c h _=>nomatch h
 hd:=B.ok.hd
 frames:=B.ok.frames
 stk:=.inl rfl
 exf:=λb F=>by
  obtain⟨o,e⟩:=M b F;exact⟨zay (zai e),λx c h=>(J b F).2.2.2.2.1 x c (G.sub x c h)⟩
 bs:=B.bs
 bsz:=zbd B.ok.bsz B.sz
 noex:=λb o e F=>by
  rcases(J b F).2.2.2.1 with z|z
  ·exact B.ok.noex b o e z
  ·exact absurd (zbb (zai e) B.ok.bsz) (Nat.not_lt.mpr z)
 exfs:=λb F z=>by
  rcases List.mem_cons.mp (B.stkSub b z)with q|q
  ·exact(J b F).2.1 q
  ·exact(J b F).2.2.1 q
 funs:=B.stack
 frf:=B.stkFree
theorem HX(B:Inv X pins σ H3 s3)(J:Clo X N scope cl)(ff:∀b∈fp,iB X pins H3 b)(fe:∀b∈fp,∃o,s3.heap.get? b=some o)
  (st:Start X N scope σ σ') (ho:s4.os=s3.os) (hg:s4.gens=s3.gens) (M:∀b o,s3.heap.get? b=some o->s4.heap.get? b=some o) (hn:s4.heap.Ns s3.heap.objs.size m) :
  Inv (aW X N scope cl s3.heap.objs.size s3 H3 fp) [] σ' H3 s4 where
 ok:=MT B J ff fe
 os:=ho
 bare:=by rw[hg];exact B.bare
 base:=Un.kept M
 loc:=by
  refine⟨m,hn,λj x v h1 h2 z=>?_⟩;obtain⟨nl,i,Y,e2,q⟩:=st.2 j x v h1 h2 z;obtain⟨m0,an,W⟩:=B.loc;have aa:UY X.env.scope x:=by
   rcases q with q|q
   ·exact .inr (.inl q)
   ·exact .inr (.inr q)
  obtain⟨u,ru,l⟩:=W i x v Y e2 aa;refine⟨u,ru,?_⟩;rcases l with⟨lk,_⟩|⟨_,c,hc,F⟩
  ·rcases q with q|q <;> (rw[lk]at q;cases q)
  ·have kk:(zbK scope X.env).names.lookup x=some .cell\/(zbK scope X.env).names.lookup x=some .free:=by
    rcases z with z|z|z
    ·exact absurd z nl
    ·exact .inl z
    ·exact .inr z
   obtain⟨c',G⟩:=J.has x kk;have ec:=J.sub x c' G;rw[hc]at ec;cases ec;obtain⟨o,U,ab⟩:=F;exact .inr ⟨kk,c,G,o,M c o U,ab⟩
 cell:=λx c e=>by
  obtain⟨v,o,Y,d1⟩:=B.cell x c (J.sub x c e);exact⟨v,o,M c o Y,d1⟩
 free:=B.hok.fresh (zan _)
 freeC:=λx c e=>B.freeC x c (J.sub x c e)
 pin:=λp hp=>nomatch hp
 hok:=B.hok.kept M
 len:=st.1
theorem comp_back(I3:Inv X pins σ H3 s3)(U:∀b∈fp,iB X pins H3 b)
  (G:Inv (aW X N scope cl s3.heap.objs.size s3 H3 fp) [] σ5 H5 s5) (hs:zaS s3.heap.objs.size s5.heap h'):Inv X pins σ H5 {s5 with heap:=h'}:=by
 have ne:∀b o,s3.heap.get? b=some o->b≠s3.heap.objs.size:=λb o e=>zay (zai e)
 have u:=G.base;refine I3.call' (s':={s5 with heap:=h'}) (ch:=fp) G.os ⟨λb o e n F B=>?_,λb o e n F B=>?_,u.free,λb o e B=>?_,u.tups,u.frzs,u.tbls⟩ ?_ G.bare λb F=>?_
 ·exact(hs.2 b (ne b o e)).trans (u.keep b o e n F B)
 ·obtain⟨W,q⟩:=u.slot b o e n F B
  exact⟨W,(hs.2 b (ne b o e)).trans q⟩
 ·obtain⟨o',q⟩:=u.there b o e B
  exact⟨o',(hs.2 b (ne b o e)).trans q⟩
 ·intro b ob e
  have J:H5 s3.heap.objs.size=none:=G.free;refine(G.hok b ob e).stay (λc w' hc q=>(hs.2 c ?_).trans q) (λ_ q=>q) λ_ _ q=>q
  rintro rfl;rcases hc with z|z
  ·subst z;rw[J]at e;cases e
  ·rw[J]at z;cases z
 ·obtain⟨_,Y,_,f3,M,f5⟩:=U b F
  exact⟨f3,Y,M,f5⟩
theorem D5(I:Nat->zab->Prop)
  (turn:∀n s, I n s -> wpAny (model prog w) A (zaH it) (λr q => match r with
   | none=>R (.ok .next) q
   | some v=>wpAny (model prog w) A (zdP target it v) (λ_ B=>wpAny (model prog w) A (zbp target env v) (λ_ N=>
     wpAny (model prog w) A (forIn ifs true λc r=>if r=true then do let ok <- isTrue c env (eval c env);pure (zc4 ok)else pure (zc4 r)) (λok z=>
      if ok=true then wpAny (model prog w) A (eval elt env) (λx G=>
       wpAny (model prog w) A (call (.builtin "list.append") [acc,x]) (λ_ M=>∃m,m<n/\I m M) (λ_ _=>False) G) (λ_ _=>False) z
      else ∃m,m<n/\I m z) (λ_ _=>False) N) (λ_ _=>False) B) (λ_ _=>False) q) (λ_ _=>False) s)
  (n:Nat) (h:I n s) :
  zbr (model prog w) A (.compLoop (.ListComp elt [⟨target,iter,ifs,0⟩] scope pos) 0 it acc env) R s:=by
 refine codeAny_loop rfl I (λn s hI=>?_) n h;show wpAny _ A ((compTurn (.ListComp elt [⟨target,iter,ifs,0⟩] scope pos) 0 it acc env).onRaise (λx=>do noteFrame x env;theTreesLotGoes x)) _ _ s;refine wpAny_noted ?_;rw[compTurn_list];have W:∀(e:Value) (s':zab),False->notedBy (model prog w) A env (λe s'=>R (.error e) s') e s':=λ_ _ h=>h.elim
 refine zaa (zdj (zaa (za8 (turn n s hI) (λr q J=>?_) W)));cases r with
 | none=>exact zac J
 | some v=>
  refine zaa (za8 J (λ_ B U=>?_) W);refine zaa (za8 U (λ_ N aa=>zaa (za8 aa (λok z F=>?_) W)) W);cases ok with
  | false=>exact zac ⟨rfl,F⟩
  | true=>
   exact zaa (zaa (za8 F (λx G Y=>zaa (za8 Y (λ_ M ab=>zac (zac ⟨rfl,ab⟩)) W)) W))
theorem sP{ap tg ak:Expr}{an:List Expr}{scope:Scope}{pos:Pos}{N:List Str}{Y:List (Str×Addr)}{wi:TI}{g:TG}{tt:TT}{te:TE}{RR:Value->Addr->Result->zab->Prop}{pins:List (Addr×Obj)}{σ ah:L2.St}{Q:VK}{J:It}{H2:Hp}{B:zab}{it:Addr}{fp:List Addr}{tn:Nat->Heap->Prop}{E:Value->zab->Prop}
  (hc:X.calm=true) (cc:Clo X N scope Y) (hg:∀C s H fp,PG (aW X N scope Y C s H fp) tg g) (ht:∀C s H fp,DR (aW X N scope Y C s H fp) an tt) (he:∀C s H fp,PE (aW X N scope Y C s H fp) ap te)
  (I2:Inv X pins σ H2 B) (T:Turn X.prog X.w X.K tg J fp it tn) (ao:tn 0 B.heap) (f2:∀b∈fp,iB X pins H2 b) (sS:Start X N scope σ ah)
  (q2:∀D, H2 D = none -> ∃W:Nat -> Nat -> L2.St -> List V -> Hp -> Prop, (∃m, W 0 m ah [] (upd H2 D (.lst []))) /\
   ∀i m G us H2,W i m G us H2->(J.stop i H2/\Q (.ref D) H2)\/(J.go i H2/\us.length<zaj/\∀x F,J.yld i H2 x F->g x G F λai H4=>tt ai H4 λok H5=>
    if ok=true then te ai H5 λv H6=>H6 D=some (.lst us)/\∃m',m'<m/\W (i+1) m' ai (us++[v]) (upd H6 D (.lst (us++[v])))else H5 D=some (.lst us)/\∃m',m'<m/\W (i+1) m' ai us H5))
  (bp:∀(s3 s5:zab) (F H5:Hp) (M:L2.St) (D:Addr),Inv X pins σ F s3->(∀b∈fp,iB X pins F b)->Inv (aW X N scope Y s3.heap.objs.size s3 F fp) [] M H5 s5->Q (.ref D) H5->RR (.ref D) s3.heap.objs.size (.ok .next) s5) :
  wpAny (model X.prog X.w) X.A (newList []) (λa2 ba=>wpAny (model X.prog X.w) X.A (newFunctionEnv scope X.env.globals Y [] X.env.qual none .none (some X.env)) (λaj a5=>
   zbr (model X.prog X.w) X.A (.compStart (.ListComp ap [⟨tg,ak,an,0⟩] scope pos) 0 (.ref it) a2 {aj with scope:=zbK scope X.env}) (RR a2 aj.locals) a5) E ba) E B:=by
 refine zbo (wpAny_newFunctionEnv cc.nocell (by intro y hy;simp at hy) (λh1 af ag=>?_) cc.kind);dsimp only at af ag ⊢;have I3:Inv X pins σ (upd H2 B.heap.objs.size (.lst [])) {B with heap:=B.heap.push {cls:=.type "list",dict:=none,data:=.seq ([]:List Value).toArray} }:=I2.lnew (t':=B.toks) .nil (za3 _);have hD:H2 B.heap.objs.size=none:=I2.fresh;have bb:∀b∈fp,b≠B.heap.objs.size:=λb q=>by
  obtain⟨o,e,_⟩:=T.obj 0 _ ao b q;exact zay (zai e)
 have fe:∀b∈fp,∃o,(B.heap.push {cls:=.type "list",dict:=none,data:=.seq ([]:List Value).toArray}).get? b=some o:=λb q=>by
  obtain⟨o,e,_⟩:=T.obj 0 _ ao b q;exact⟨o,zag _ e⟩
 have f3:∀b∈fp,iB X pins (upd H2 B.heap.objs.size (.lst [])) b:=λb q=>⟨by rw[aE (bb b q)];exact(f2 b q).1,(f2 b q).2⟩
 obtain⟨W,⟨m0,w0⟩,turn⟩:=q2 B.heap.objs.size hD;have bf:(upd H2 B.heap.objs.size (.lst [])) B.heap.objs.size=some (.lst []):=aI;generalize hs3:({B with heap:=B.heap.push {cls:=.type "list",dict:=none,data:=.seq ([]:List Value).toArray} }:zab)=s3 at I3;have e3:B.heap.push {cls:=.type "list",dict:=none,data:=.seq ([]:List Value).toArray}=s3.heap:=by rw[<- hs3]
 rw[e3]at af ag fe ⊢;generalize B.heap.objs.size=D at *;generalize upd H2 D (.lst [])=F at *;have am:∀b o,s3.heap.get? b=some o->h1.get? b=some o:=λb o e=>(ag.2 b (zay (zai e))).trans (zag _ e)
 have a4:tn 0 s3.heap:=by
  refine T.keep 0 _ _ ao λb q o e=>?_
  rw[<- e3];exact zag _ e
 have al:∀s4:zab,s4={B with heap:=h1,toks:=B.toks+([]:List (Str×Value)).length}->
   zbr (model X.prog X.w) X.A (.compLoop (.ListComp ap [⟨tg,ak,an,0⟩] scope pos) 0 (.ref it) (.ref D) (compEnvC scope Y s3.heap.objs.size X.env)) (RR (.ref D) s3.heap.objs.size) s4:=by
  rintro s4 rfl;have I4:Inv (aW X N scope Y s3.heap.objs.size s3 F fp) [] ah F {B with heap:=h1,toks:=B.toks+([]:List (Str×Value)).length}:=
   HX (m:=λx=>([]:List (Str×Value)).reverse.lookup x) I3 cc f3 fe sS (by rw[<- hs3]) (by rw[<- hs3]) am af
  have ar:∀ {H':Hp},(∀b∈fp,H' b=none)->∀b∈fp,iB (aW X N scope Y s3.heap.objs.size s3 F fp) [] H' b:=λhn b q=>by
   have ok:=I4.ok;exact⟨hn b q,(ok.exf b q).1,ok.exfs b q,.inl q,(ok.exf b q).2,λp hp=>nomatch hp⟩
  refine D5 (λn s'=>∃i G us H',Inv (aW X N scope Y s3.heap.objs.size s3 F fp) [] G H' s'/\tn i s'.heap/\(∀b∈fp,H' b=none)/\H' D=some (.lst us)/\W i n G us H') ?_ m0 ⟨0,ah,[],F,I4,T.keep 0 _ _ a4 λb q o e=>am b o e,λb q=>(f3 b q).1,bf,w0⟩;rintro n s5 ⟨i,M,us,H5,I5,a6,a1,c1,w5⟩;rcases turn i n M us H5 w5 with⟨ay,qn⟩|⟨go,a0,step⟩
  ·refine bL (T.done (aW X N scope Y s3.heap.objs.size s3 F fp) rfl rfl rfl hc i [] s5 M H5 _ I5 (ar a1) a6 ay) λr s6 ⟨hr,I6⟩=>?_
   subst hr;exact bp s3 s6 F H5 M D I3 f3 I6 qn
  ·refine bL (T.item (aW X N scope Y s3.heap.objs.size s3 F fp) rfl rfl rfl hc i [] s5 M H5 _ I5 (ar a1) a6 go) λr s6 ⟨u,hr,h6⟩=>?_
   subst hr;refine bL h6 λ_ s7 ⟨x,H7,I7,r7,y7,as,bq⟩=>?_
   have bo:=I7.pinned (ar bq) (T.obj _ _ as);refine bL (hg _ _ _ _ _ s7 M H7 x u _ bo r7 (step x H7 y7)) λ_ s8 ⟨U,H8,I8,q8⟩=>?_
   refine bL (ht _ _ _ _ _ s8 U H8 _ I8 q8) λok s9 ⟨H9,I9,q9⟩=>?_
   have fin:∀ {ab:zab} {aa:Hp} {vs:List V},Inv (aW X N scope Y s3.heap.objs.size s3 F fp) ([]++qY fp s7.heap) U aa ab->aa D=some (.lst vs)->(∃m',m'<n/\W (i+1) m' U vs aa)->
     ∃m,m<n/\∃i G us H',Inv (aW X N scope Y s3.heap.objs.size s3 F fp) [] G H' ab/\tn i ab.heap/\(∀b∈fp,H' b=none)/\H' D=some (.lst us)/\W i m G us H':=λ{ab aa vs} ae hd ⟨m',hm,bc⟩=>by
    refine⟨m',hm,i+1,U,vs,aa,ae.unpinned,T.keep _ _ _ as λb q o e=>(ae.pin (b,o) (zbF _ (zbF _ (fT q e)))).1,λb q=>?_,hd,bc⟩;obtain⟨o,e,d⟩:=T.obj _ _ as b q;exact(ae.pin (b,o) (zbF _ (zbF _ (fT q e)))).2.1
   cases ok with
   | false=>
    rw[if_neg zau]at q9 ⊢;exact fin I9 q9.1 q9.2
   | true=>
    rw[if_pos rfl]at q9 ⊢;refine bL (he _ _ _ _ _ s9 U H9 _ I9 q9) λy ab ⟨v,aa,ae,bj,ax,bi⟩=>?_
    refine bL (sV (X:=aW X N scope Y s3.heap.objs.size s3 F fp) _ ab U aa (.ref D) [v] (.ref D) [y] (λ_ aq=>aq D=some (.lst (us++[v]))/\∃m',m'<n/\W (i+1) m' U (us++[v]) aq) ae rfl (.cons bj .nil) ⟨D,us,v,rfl,rfl,ax,a0,aI,bi⟩) λ_ ck ⟨z,aq,bl,_,az,bm⟩=>?_
    exact fin bl az bm
 exact codeAny_compStart_list (al _ rfl) (T.self X.A 0 _ _ _ (T.keep 0 _ _ a4 λb q o e=>am b o e) (al _ rfl))
theorem LG{F tg z:Expr}{B:List Expr}{scope:Scope}{pos:Pos}{N:List Str}{M:List (Str×Addr)}{wi:TI}{g:TG}{tt:TT}{te:TE}
  (hc:X.calm=true) (G:Clo X N scope M) (hi:PI X tg z wi) (hg:∀C s H fp,PG (aW X N scope M C s H fp) tg g) (ht:∀C s H fp,DR (aW X N scope M C s H fp) B tt) (he:∀C s H fp,PE (aW X N scope M C s H fp) F te)
  (hs:∀x,zbO z X.env x=pure x:=by intro _;rfl) :
  PE X (.ListComp F [⟨tg,z,B,0⟩] scope pos) (KL wi g tt te (Start X N scope)):=by
 intro pins s σ H Q I h;obtain⟨al,sS,hw⟩:=h;rw[eval_ListComp];refine wpAny_comprehension_free (use:=none) rfl hs G.clos G.kind G.names (bL (hi pins s σ H _ I hw) λv s1 h1=>bL h1 λai s2 h2=>?_);obtain⟨it,fp,tn,J,H2,e,I2,T,Y,f2,q2⟩:=h2;subst e;refine sP (wi:=wi) (Q:=Q) (RR:=λW C=>compPost (model X.prog X.w) X.A X.xe none (EP X pins σ Q) W C) hc G hg ht he I2 T Y f2 sS q2 ?_;intro s3 s5 H3 H5 ah D I3 f3 I5 q;obtain⟨m,hn,_⟩:=id I5.loc;exact⟨m,hn,λh' U=>⟨.ref D,H5,comp_back I3 f3 I5 U,rfl,q⟩⟩
end
end My
namespace My
open PySem PySem.W PyProof.Rows
structure Ord(n:Nat)(lt:Nat->Nat->Bool):Prop where
 irr:∀i,i<n->lt i i=false
 tr:∀i j k,i<n->j<n->k<n->lt i j=true->lt j k=true->lt i k=true
 tot:∀i j,i<n->j<n->i≠j->lt i j=true\/lt j i=true
noncomputable def fO(n:Nat)(lt:Nat->Nat->Bool):Nat->Nat->(Bool->zab->Prop)->zab->Prop:=λi j C s=>i<n/\j<n/\i≠j/\C (lt i j) s
def PermR(n:Nat)(p:Array Nat):Prop:=p.Perm (zdq (zaA n))
theorem PermR.size(h:PermR n p):p.size=n:=by
 have:=Array.Perm.size_eq h;simpa using this
theorem PermR.lt(h:PermR n p)(hi:i<n):p.getD i 0<n:=by
 have hs:=h.size;have q:i<p.size:=by lia
 have e:p.getD i 0=p[i]:=by simp[zc5,q]
 rw[e];have z:p[i]∈p.toList:=by simp
 have:=(Array.perm_iff_toList_perm.mp h).mem_iff.mp z;simpa using this
theorem PermR.nodup(h:PermR n p):p.toList.Nodup:=by
 have:=Array.perm_iff_toList_perm.mp h;exact this.symm.nodup (by simpa using List.nodup_range)
theorem PermR.ne(h:PermR n p)(hi:i<n)(M:j<n)(q:i≠j):p.getD i 0≠p.getD j 0:=by
 have hs:=h.size;have G:i<p.toList.length:=by rw[zbj];lia
 have F:j<p.toList.length:=by rw[zbj];lia
 have J:p.getD i 0=p.toList[i]:=by simp[zc5,show i<p.size by lia]
 have B:p.getD j 0=p.toList[j]:=by simp[zc5,show j<p.size by lia]
 rw[J,B];intro z;exact q ((zdi h.nodup).mp z)
def eS(lt:Nat->Nat->Bool)(p:Array Nat)(k:Nat):Prop:=∀i j,i<j->j<k->lt (p.getD i 0) (p.getD j 0)=true
section
variable {n:Nat}{lt:Nat->Nat->Bool}(O:Ord n lt)
include O
theorem jE(q:PermR n p)(F:r<=n)(h:∀i,i+1<r->lt (p.getD i 0) (p.getD (i+1) 0)=true):eS lt p r:=by
 intro i j z B;obtain⟨d,rfl⟩:∃d,j=i+1+d:=⟨j-i-1,by lia⟩;clear z;induction d with
 | zero=>exact h i (by lia)
 | succ d ih=>exact O.tr _ _ _ (q.lt (by lia)) (q.lt (by lia)) (q.lt (by lia)) (ih (by lia)) (h (i+1+d) (by lia))
theorem UQ(q:PermR n p)(hi:i<n)(F:j<n)(B:i≠j)(h:lt (p.getD i 0) (p.getD j 0)=false):lt (p.getD j 0) (p.getD i 0)=true:=by
 rcases O.tot _ _ (q.lt hi) (q.lt F) (q.ne hi F B)with z|z
 ·rw[h]at z;cases z
 ·exact z
theorem A5(q:PermR n p):∀(f m:Nat),1<=m->m+f<=n->(∀i,i+1<m->lt (p.getD i 0) (p.getD (i+1) 0)=true)->
  (∀r,m<=r->r<=m+f->(∀i,i+1<r->lt (p.getD i 0) (p.getD (i+1) 0)=true)->(r<m+f->lt (p.getD r 0) (p.getD (r-1) 0)=true)->G r s)->(kas_asc p f m).kasWp (fO n lt) G s
 | 0,m,h1,h2,ha,hG=>hG m (zan _) (zan _) ha λz=>absurd z (by lia)
 | f+1,m,h1,h2,ha,hG=>by
  show fO n lt _ _ _ s;refine⟨q.lt (by lia),q.lt (by lia),q.ne (by lia) (by lia) (by lia),?_⟩;cases hc:lt (p.getD m 0) (p.getD (m-1) 0)with
  | true=>
   show(KasT.ret m).kasWp (fO n lt) G s;exact hG m (zan _) (by lia) ha λ_=>hc
  | false=>
   show(kas_asc p f (m+1)).kasWp (fO n lt) G s;refine A5 q f (m+1) (by lia) (by lia) (λi hi=>?_) (λr M N F J=>hG r (by lia) (by lia) F λz=>J (by lia));by_cases e:i+1<m
   ·exact ha i e
   ·have:i=m-1:=by lia
    subst this;have B:m-1+1=m:=by lia
    rw[B];exact UQ O q (by lia) (by lia) (by lia) hc
theorem C5(q:PermR n p):∀(f m:Nat),1<=m->m+f<=n->(∀i,i+1<m->lt (p.getD (i+1) 0) (p.getD i 0)=true)->
  (∀r,m<=r->r<=m+f->(∀i,i+1<r->lt (p.getD (i+1) 0) (p.getD i 0)=true)->G (p,r,0) s)->(kas_desc f p m 0).kasWp (fO n lt) G s
 | 0,m,h1,h2,ha,hG=>hG m (zan _) (zan _) ha
 | f+1,m,h1,h2,ha,hG=>by
  show fO n lt _ _ _ s;refine⟨q.lt (by lia),q.lt (by lia),q.ne (by lia) (by lia) (by lia),?_⟩;cases hc:lt (p.getD m 0) (p.getD (m-1) 0)with
  | true=>
   show(kas_desc f p (m+1) 0).kasWp (fO n lt) G s;refine C5 q f (m+1) (by lia) (by lia) (λi hi=>?_) (λr F J B=>hG r (by lia) (by lia) B);by_cases e:i+1<m
   ·exact ha i e
   ·have:i=m-1:=by lia
    subst this;have z:m-1+1=m:=by lia
    rw[z];exact hc
  | false=>
   show fO n lt _ _ _ s;refine⟨q.lt (by lia),q.lt (by lia),q.ne (by lia) (by lia) (by lia),?_⟩;rw[UQ O q (by lia) (by lia) (by lia) hc];exact hG m (zan _) (by lia) ha
theorem J7(B:PermR n p)(F:r<=n)(k:Nat):(kas_rev p 0 r).getD k 0=if k<r then p.getD (r-1-k) 0 else p.getD k 0:=by
 have hs:=B.size;have e:=getElem?_mirror_all (xs:=p) (i:=0) (j:=r) (by lia) k;have g:∀(q:Array Nat) (k:Nat),q.getD k 0=(q[k]?).getD 0:=λq k=>by
  by_cases h:k<q.size <;> simp[zc5,h]
 unfold kas_rev;rw[g,e];by_cases h:k<r
 ·rw[if_pos ⟨za3 _,h⟩,if_pos h,g]
  congr 2
  lia
 ·rw[if_neg (λz=>h z.2),if_neg h,g]
omit O in
theorem HP(q:PermR n p)(r:Nat):PermR n (kas_rev p 0 r):=(mirror_perm p 0 r _).trans q
theorem HU(q:PermR n p)(hn:1<=n)(J:∀m U,1<=m->m<=n->PermR n U->eS lt U m->G (m,U) s):(kas_count n p).kasWp (fO n lt) G s:=by
 unfold kas_count;rw[KasT.kasWp_bind];refine A5 O q (n-1) 1 (zan _) (by lia) (λi hi=>absurd hi (by lia)) λr h1 h2 W h4=>?_
 by_cases e:r=n
 ·have:(r == n)=true:=by simp[e]
  rw[if_pos this];exact J r p h1 (by lia) q (jE O q (by lia) W)
 ·have:¬ (r == n)=true:=by simp[e]
  rw[if_neg this];have hs:=jE O q (r:=r) (by lia) W;by_cases Y:r>1
  ·rw[if_pos Y]
   show fO n lt _ _ _ s;refine⟨q.lt (by lia),q.lt (by lia),q.ne (by lia) (by lia) (by lia),?_⟩;rw[hs 0 (r-1) (by lia) (by lia)];exact J r p h1 (by lia) q hs
  ·rw[if_neg Y]
   have r1:r=1:=by lia
   subst r1;unfold kas_descPart;rw[KasT.kasWp_bind];have N:=h4 (by lia);refine C5 O q (n-(1+1)) (1+1) (by lia) (by lia) (λi hi=>?_) λz h6 h7 h8=>?_
   ·have:i=0:=by lia
    subst this;exact N
   ·show(kas_tail3 z n p).kasWp (fO n lt) G s
    unfold kas_tail3;rw[KasT.kasWp_bind];have F:z<=n:=by lia
    have B:PermR n (kas_rev p 0 z):=HP q z;refine A5 O B (n-z) z (by lia) (by lia) (λi hi=>?_) λm h9 ab M _=>?_
    ·rw[J7 O q F,J7 O q F,if_pos (by lia),if_pos hi]
     have:=h8 (z-1-(i+1)) (by lia);have e2:z-1-(i+1)+1=z-1-i:=by lia
     rw[e2]at this;exact this
    ·exact J m _ (by lia) (by lia) B (jE O B (by lia) M)
theorem qF(q:PermR n p)(M:k<n)(hs:eS lt p k):∀(f l r:Nat),l<=r->r<=k->r-l<=f->(∀i,i<l->lt (p.getD i 0) (p.getD k 0)=true)->(∀i,r<=i->i<k->lt (p.getD k 0) (p.getD i 0)=true)->
  (∀l,l<=k->(∀i,i<l->lt (p.getD i 0) (p.getD k 0)=true)->(∀i,l<=i->i<k->lt (p.getD k 0) (p.getD i 0)=true)->G l s)->(kas_place p k f l r).kasWp (fO n lt) G s
 | 0,l,r,h1,h2,h3,h4,h5,hG=>by
  have:l=r:=by lia
  subst this;exact hG l h2 h4 h5
 | f+1,l,r,h1,h2,h3,h4,h5,hG=>by
  unfold kas_place;by_cases e:l ≥ r
  ·rw[if_pos e]
   have:l=r:=by lia
   subst this;exact hG l h2 h4 h5
  ·rw[if_neg e]
   show fO n lt _ _ _ s;refine⟨q.lt (by lia),q.lt (by lia),q.ne (by lia) (by lia) (by lia),?_⟩;have U:(l+r)/2<k:=by lia
   have F:l<=(l+r)/2:=by lia
   have N:(l+r)/2<r:=by lia
   generalize (l+r)/2=mid at *;cases hc:lt (p.getD k 0) (p.getD mid 0)with
   | true=>
    show(kas_place p k f l mid).kasWp (fO n lt) G s;refine qF q M hs f l mid F (by lia) (by lia) h4 (λi hi J=>?_) hG;by_cases z:i=mid
    ·rw[z];exact hc
    ·exact O.tr _ _ _ (q.lt (by lia)) (q.lt (by lia)) (q.lt (by lia)) hc (hs mid i (by lia) J)
   | false=>
    show(kas_place p k f (mid+1) r).kasWp (fO n lt) G s;have B:=UQ O q (by lia) (by lia) (by lia) hc;refine qF q M hs f (mid+1) r (by lia) h2 (by lia) (λi hi=>?_) h5 hG;by_cases z:i=mid
    ·rw[z];exact B
    ·exact O.tr _ _ _ (q.lt (by lia)) (q.lt (by lia)) (q.lt (by lia)) (hs i mid (by lia) U) B
theorem JV(B:PermR n p)(F:k<n)(G:l<=k)(j:Nat):(bubble p k (k-l)).getD j 0=if j=l then p.getD k 0 else if l<j/\j<=k then p.getD (j-1) 0 else p.getD j 0:=by
 have hs:=B.size;have e:=getElem?_bubble (xs:=p) (src:=k) (by lia) (k-l) (by lia) j;have g:∀(q:Array Nat) (k:Nat),q.getD k 0=(q[k]?).getD 0:=λq k=>by
  by_cases h:k<q.size <;> simp[zc5,h]
 have z:k-(k-l)=l:=by lia
 rw[z]at e;rw[g,e];by_cases h:j=l
 ·rw[if_pos h,if_pos h,g]
 ·rw[if_neg h,if_neg h]
  by_cases h2:l<j/\j<=k
  ·rw[if_pos h2,if_pos h2,g]
  ·rw[if_neg h2,if_neg h2,g]
theorem JY(B:∀p,PermR n p->eS lt p n->G p s):∀(f:Nat) (p:Array Nat) (k:Nat),k+f=n->PermR n p->eS lt p k->(kas_bin f p k).kasWp (fO n lt) G s
 | 0,p,k,h1,hp,hs=>by
  have:k=n:=by lia
  subst this;exact B p hp hs
 | f+1,p,k,h1,hp,hs=>by
  unfold kas_bin;rw[KasT.kasWp_bind];have q:k<n:=by lia
  refine qF O hp q hs k 0 k (za3 _) (zan _) (by lia) (λi hi=>absurd hi (by lia)) (λi h2 Y=>absurd Y (by lia)) λl M h4 W=>?_
  refine JY B f _ (k+1) (by lia) ((bubble_perm p k _).trans hp) λi j z hj=>?_
  rw[JV O hp q M,JV O hp q M];by_cases F:i=l
  ·rw[if_pos F,if_neg (by lia),if_pos (by lia)]
   exact W (j-1) (by lia) (by lia)
  ·rw[if_neg F]
   by_cases U:j=l
   ·rw[if_pos U,if_neg (by lia)]
    exact h4 i (by lia)
   ·rw[if_neg U]
    by_cases J:l<i/\i<=k
    ·rw[if_pos J,if_pos (by lia)]
     exact hs (i-1) (j-1) (by lia) (by lia)
    ·rw[if_neg J]
     by_cases N:l<j/\j<=k
     ·rw[if_pos N]
      by_cases c:i=j-1
      ·lia
      ·exact hs i (j-1) (by lia) (by lia)
     ·rw[if_neg N]
      exact hs i j z (by lia)
theorem MA(F:1<=n)(B:∀p,PermR n p->eS lt p n->G p s):(kas_sort n).kasWp (fO n lt) G s:=by
 unfold kas_sort;rw[KasT.kasWp_bind];refine HU O (Array.Perm.refl _) F λm q h1 h2 z hs=>?_
 show(if m<n then kas_bin (n-max m 1) q (max m 1)else KasT.ret q).kasWp (fO n lt) G s;have e:max m 1=m:=by lia
 rw[e];by_cases h:m<n
 ·rw[if_pos h]
  exact JY O B (n-m) q m (by lia) z hs
 ·rw[if_neg h]
  have:m=n:=by lia
  subst this;exact B q z hs
end
theorem CK{z:Type}{n:Nat}{lt:Nat->Nat->Bool}{c:Nat->Nat->(Bool->zab->Prop)->zab->Prop}(q:∀i j C,i<n->j<n->i≠j->C (lt i j) s->c i j C s){Q:z->zab->Prop}:∀(t:KasT z),t.kasWp (fO n lt) Q s->t.kasWp c Q s
 | .ret a,h=>h
 | .ask i j k,h=>by
  obtain⟨h1,h2,F,B⟩:=(show i<n/\j<n/\i≠j/\(k (lt i j)).kasWp (fO n lt) Q s from h);exact q i j _ h1 h2 F (CK q (k (lt i j)) B)
end My
namespace My
open PySem PySem.Spec PyProof.Rows PySem.W
section
variable {prog:zam}{w:World}{A:zar}{E:Value->zab->Prop}{s:zab}{it d:Addr}{i ep:Nat}{od:Obj}{es:Array zb3}
def RawD(h:Heap)(d:Addr)(es:Array zb3)(ep:Nat):Prop:=∃o,h.get? d=some o/\o.ExactDict/\o.data=.dict es ep
theorem RawD.at'(x:RawD h d es ep)(k:∀o,h.get? d=some o->h'.get? d=some o):RawD h' d es ep:=let ⟨o,a,b⟩:=x;⟨o,k o a,b⟩
theorem RawD.typ(x:RawD s.heap d es ep):s.TypeIs (.ref d) "dict" := let ⟨o,a,b,_⟩:=x;⟨o,a,b.1⟩
theorem GW(J:(d == zbi)=false)(G:RawD s.heap d es ep)
  (M:Q (.ref s.heap.objs.size) {s with heap:=s.heap.push {cls:=.type "dict_keyiterator",data:=.fields #[.ref d,.int 0 0,.int es.size 0,.int ep 0]} }):wpAny (model prog w) A (pyIter (.ref d)) Q E s:=by
 have q:=G.typ;obtain⟨o,z,N,B⟩:=G;refine wpAny_pyIter_slot q PySem.F.slot_dict_iter (zba PySem.F.slot_dict_iter q PySem.F.entry_dict_iter ?_ (PySem.F.args_dict_iter_1 _));unfold za9.«dict.__iter__»;refine zaa ?_;unfold Builtin.Dict.dictSlotNone;refine zaa (zd9 q ?_);show wpAny _ _ (pure (zal d)) _ _ s;refine zac ?_;show wpAny _ _ (zdr d >>= _) _ _ s;unfold zdr;rw[if_neg (by rw[J];exact zau)];refine zaa (zac (zaa (zb4 z B (zaa (zcP z B ?_)))));refine zaa (zbo (zac ⟨_,rfl, "dict_keyiterator",_,⟨_,zat _ rfl,rfl⟩,PySem.F.slot_dict_keyiterator_next.lookup,?_⟩));simpa[zaN]using M
theorem HR(z:s.heap.IsKeyIter it d i es.size ep)(W:RawD s.heap d es ep)(M:i<es.size)
  (N:∀h',h'.IsKeyIter it d (i+1) es.size ep->zaS it s.heap h'->Q (some es[i].key) {s with heap:=h'}):wpAny (model prog w) A (zaH (.ref it)) Q E s:=by
 have q:=z.typeIs;obtain⟨o,F,U,B⟩:=id z;obtain⟨od,G,Y,J⟩:=W;unfold zaH;refine zaa (zb5 (zbt (name:=za0 "__next__") q zea (zba zea q zfp ?_ (zfq _))));refine zaa (zac (zaa (zaa ?_)))
 first|refine zaa (zeb q (zac ?_))|refine zaa (zec q (zac ?_))
 refine zaa (zed F B ?_);simp only[show zds "dict_keyiterator" = false by decide,zb6,if_false];show wpAny _ _ (if(zal d == zaL)=true then _ else _) _ _ s;rw[if_neg (show ¬ ((zal d == zaL)=true)from zau)];refine zaa (zac (zaa (zb4 G J ?_)));rw[if_neg (by simp)];refine zaa (zac (zaa (zcP G J ?_)));rw[if_neg (by simp)];refine zac ?_;simp only[show ¬ ((i:Int)<0)from by lia,if_false,zb7,zfb M];refine zaa ?_;first|refine zaa (zeb q (zac ?_))|refine zaa (zec q (zac ?_))
 refine zaa (wpAny_isOneOf_keyiter q ?_);show wpAny _ _ (zc6 (.ref it) 1 (zaN ((i:Int)+1)) >>= _) _ _ s;refine zaa (zdt F B (by simp) ?_);have nx:(s.heap.update it (Obj.mapFields (·.setIfInBounds 1 (zaN ((i:Int)+1))))).IsKeyIter it d (i+1) es.size ep:=⟨_,zbR _ F (Obj.isFreed_of_fields (zee B _)),(Obj.cls_mapFields ..).trans U,by rw[zee B];simp[zaN]⟩;refine zaa (zbm (zaa (wpAny_isOneOf_keyiter (s:={s with heap:=s.heap.update it (Obj.mapFields (·.setIfInBounds 1 (zaN ((i:Int)+1))))}) nx.typeIs ?_)));show wpAny _ _ (pure es[i].key) _ _ _;exact zac (zac ⟨_,rfl,zac (N _ nx (zci ..))⟩)
theorem MC(N:A.handled=none)(z:s.heap.IsKeyIter it d i es.size ep)(W:RawD s.heap d es ep)(M:es.size<=i)
  (U:∀h',zdu it s.heap h'->Q none {s with heap:=h'}):wpAny (model prog w) A (zaH (.ref it)) Q E s:=by
 have q:=z.typeIs;obtain⟨o,B,hc,F⟩:=id z;obtain⟨od,G,Y,J⟩:=W;unfold zaH;refine zaa (zb5 (zbt (name:=za0 "__next__") q zea (zba zea q zfp ?_ (zfq _))));refine zaa (zac (zaa (zaa ?_)))
 first|refine zaa (zeb q (zac ?_))|refine zaa (zec q (zac ?_))
 refine zaa (zed B F ?_);simp only[show zds "dict_keyiterator" = false by decide,zb6,if_false];show wpAny _ _ (if(zal d == zaL)=true then _ else _) _ _ s;rw[if_neg (show ¬ ((zal d == zaL)=true)from zau)];refine zaa (zac (zaa (zb4 G J ?_)));rw[if_neg (by simp)];refine zaa (zac (zaa (zcP G J ?_)));rw[if_neg (by simp)];refine zac ?_;simp only[show ¬ ((i:Int)<0)from by lia,if_false,zb7,Array.getElem?_eq_none M];refine zaa ?_;first|refine zaa (zeb q (zac ?_))|refine zaa (zec q (zac ?_))
 show wpAny _ _ (zc6 (.ref it) 0 .none >>= _) _ _ s;refine zaa (zdt B F (by simp) ?_);show wpAny _ _ (newExc (.type "StopIteration") [] >>= _) _ _ _;refine zaa ?_;simp only[newExc,newTuple];refine zaa (zbo ?_ (by size_fits));refine zaa (m:=zc7 _ _) (zdv (a:=zaL) (by first|rfl|(simp only[zc7];rfl)) ?_)
 refine zbo ?_ (by size_fits);simp only[raiseNew];refine zaa (wpAny_handled ?_);rw[show A.in1.handled=none from N];refine zaa (zac (wpAny_throw ?_));refine zaa (zc8 (T := "StopIteration") (b:=true) ⟨_,zat _ rfl,rfl⟩ zdw ?_);exact zac (U _ (((zci ..).extBut.push _).push _))
def DQ(h:Heap)(it d:Addr)(i n ep:Nat)(q fl:Value)(ok z:Value):Prop:=
 h.get? it=some {cls:=.type "dict_itemiterator",dict:=none,data:=.fields #[q,fl,.ref d,.int i 0,.int n 0,.int ep 0,ok,z],slots:=#[]}
def ItSt(h:Heap)(it d S:Addr)(i n ep:Nat):Prop:=
 (i=0/\∃ok q,DQ h it d i n ep .none (.bool false) ok q)\/∃ok q a f z,DQ h it d i n ep (zaN (a:Nat)) (.bool f) ok q/\h.get? a=some z/\a≠it/\a≠S
theorem tW(B:DQ s.heap it d i es.size ep own fl ok ov)(hm:RawD s.heap d es ep)(U:i<es.size)
  (Y:∀h1:Heap, DQ h1 it d (i+1) es.size ep own fl ok ov -> zaS it s.heap h1 ->
   wpAny (model prog w) A.in1 (zef (.ref it) 6 es[i].key es[i].val) (λv s'=>Q (some v) s') (λ_ _=>False) {s with heap:=h1}):wpAny (model prog w) A (zaH (.ref it)) Q E s:=by
 obtain⟨od,J,g2,N⟩:=hm;have F:s.TypeIs (.ref it) "dict_itemiterator" := ⟨_,B,rfl⟩;unfold zaH;refine zaa (zb5 (zbt (name:=za0 "__next__") F zeg (zba zeg F zfr ?_ (zfs _))));refine zaa (zac (zaa (zaa ?_)))
 first|refine zaa (zeh F (zac ?_))|refine zaa (zei F (zac ?_))
 refine zaa (zed B rfl ?_);simp only[show zds "dict_itemiterator" = true by decide,if_true];show wpAny _ _ (if(zal d == zaL)=true then _ else _) _ _ s;rw[if_neg (show ¬ ((zal d == zaL)=true)from zau)];refine zaa (zac (zaa (zb4 J N ?_)));rw[if_neg (by simp)];refine zaa (zac (zaa (zcP J N ?_)));rw[if_neg (by simp)];refine zac ?_;simp only[show ¬ ((i:Int)<0)from by lia,if_false,zb7,zfb U];refine zaa ?_;first|refine zaa (zeh F (zac ?_))|refine zaa (zei F (zac ?_))
 refine zaa (zfc F ?_);show wpAny _ _ (zc6 (.ref it) 3 (zaN ((i:Int)+1)) >>= _) _ _ s;refine zaa (zaZ B (by simp) λh1 W k2=>?_);have M:DQ h1 it d (i+1) es.size ep own fl ok ov:=by
  have e:((i+1:Nat):Int)=(i:Int)+1:=by lia
  unfold DQ;rw[e];simpa[zaN]using W
 have G:zej {s with heap:=h1} (.ref it) "dict_itemiterator" := ⟨_,M,rfl⟩;refine zaa (zbm (zaa (zfc G ?_)));refine zaa (zfc G ?_);show wpAny _ _ (zef (.ref it) 6 es[i].key es[i].val) _ _ {s with heap:=h1};exact za8 (Y h1 M k2) (λv s' q=>zac ⟨_,rfl,zac q⟩) λ_ _ z=>z.elim
theorem EK(ac:ItSt s.heap it d S i es.size ep)(hS:S<s.heap.objs.size)(hm:RawD s.heap d es ep)(hx:i<es.size)
  (hQ:∀h', ItSt h' it d S (i+1) es.size ep -> h'.get? s.heap.objs.size = some {cls := .type "tuple", data := .seq #[es[i].key, es[i].val]} -> h'.objs.size = s.heap.objs.size+1 ->
   (∀b o,b≠it->s.heap.get? b=some o->h'.get? b=some o)->Q (some (.ref s.heap.objs.size)) {s with heap:=h'}):wpAny (model prog w) A (zaH (.ref it)) Q E s:=by
 have G:it<s.heap.objs.size:=by
  rcases ac with⟨_,ok,N,B⟩|⟨ok,N,a,f,oa,B,_⟩ <;> exact zai B
 rcases ac with⟨_,ok,N,B⟩|⟨ok,N,a,f,oa,B,ha,F,an⟩
 ·refine tW B hm hx λh1 k1 k2=>?_
  have U:h1.objs.size=s.heap.objs.size:=k2.1;unfold zef;refine zaa (zc9 ?_);have J:DQ (h1.push {cls:=.type "tuple",data:=.seq #[es[i].key,es[i].val]}) it d (i+1) es.size ep .none (.bool false) ok N:=zag _ k1;have m2:(h1.push {cls:=.type "tuple",data:=.seq #[es[i].key,es[i].val]}).get? s.heap.objs.size=some {cls:=.type "tuple",data:=.seq #[es[i].key,es[i].val]}:=by rw[<- U];exact zat _ rfl
  have m3:(h1.push {cls:=.type "tuple",data:=.seq #[es[i].key,es[i].val]}).objs.size=s.heap.objs.size+1:=by rw[zbl,U]
  have m4:∀b o,b≠it->s.heap.get? b=some o->(h1.push {cls:=.type "tuple",data:=.seq #[es[i].key,es[i].val]}).get? b=some o:=λb o q e=>zag _ (k2.extBut b o q e)
  show wpAny _ _ (zek (.ref it) >>= _) _ _ {s with heap:=h1.push {cls:=.type "tuple",data:=.seq #[es[i].key,es[i].val]} };dsimp only;rw[U];generalize h1.push {cls:=.type "tuple",data:=.seq #[es[i].key,es[i].val]}=h2 at *;refine zaa ?_;unfold zek;refine zaa (zaC J rfl (x:=.none) rfl (zac ?_));simp only[if_true];refine zaa (zaC J rfl (x:=ok) rfl (zaa (zaC J rfl (x:=N) rfl ?_)));refine zaa (zaZ J (by simp) λz e3 M=>?_);have ak:DQ z it d (i+1) es.size ep .none (.bool false) es[i].key N:=e3;refine zaa (zaZ ak (by simp) λY e4 s4=>?_);have ah:DQ Y it d (i+1) es.size ep .none (.bool false) es[i].key es[i].val:=e4;refine zaa (zaZ ah (by simp) λh5 e5 s5=>?_);have ai:DQ h5 it d (i+1) es.size ep (zaN (s.heap.objs.size:Nat)) (.bool false) es[i].key es[i].val:=e5;refine zaa (zaZ ai (by simp) λW e6 s6=>?_);have al:DQ W it d (i+1) es.size ep (zaN (s.heap.objs.size:Nat)) (.bool false) es[i].key es[i].val:=e6;have ex:∀b o,b≠it->h2.get? b=some o->W.get? b=some o:=λb o q e=>(show zaS it h5 W from s6).extBut b o q ((show zaS it Y h5 from s5).extBut b o q ((show zaS it z Y from s4).extBut b o q ((show zaS it h2 z from M).extBut b o q e)))
  have sz:W.objs.size=s.heap.objs.size+1:=by
   rw[(show zaS it h5 W from s6).1,(show zaS it Y h5 from s5).1,(show zaS it z Y from s4).1,(show zaS it h2 z from M).1,m3]
  exact zaa (zbu (zac (hQ W (.inr ⟨_,_,_,false,_,al,ex _ _ (zaG G) m2,zaG G,zaG hS⟩) (ex _ _ (zaG G) m2) sz λb o q e=>ex b o q (m4 b o q e))))
 ·refine tW B hm hx λh1 k1 k2=>?_
  have U:h1.objs.size=s.heap.objs.size:=k2.1;unfold zef;refine zaa (zc9 ?_);have J:DQ (h1.push {cls:=.type "tuple",data:=.seq #[es[i].key,es[i].val]}) it d (i+1) es.size ep (zaN (a:Nat)) (.bool f) ok N:=zag _ k1;have m2:(h1.push {cls:=.type "tuple",data:=.seq #[es[i].key,es[i].val]}).get? s.heap.objs.size=some {cls:=.type "tuple",data:=.seq #[es[i].key,es[i].val]}:=by rw[<- U];exact zat _ rfl
  have m3:(h1.push {cls:=.type "tuple",data:=.seq #[es[i].key,es[i].val]}).objs.size=s.heap.objs.size+1:=by rw[zbl,U]
  have m4:∀b o,b≠it->s.heap.get? b=some o->(h1.push {cls:=.type "tuple",data:=.seq #[es[i].key,es[i].val]}).get? b=some o:=λb o q e=>zag _ (k2.extBut b o q e)
  show wpAny _ _ (zek (.ref it) >>= _) _ _ {s with heap:=h1.push {cls:=.type "tuple",data:=.seq #[es[i].key,es[i].val]} };dsimp only;rw[U];generalize h1.push {cls:=.type "tuple",data:=.seq #[es[i].key,es[i].val]}=h2 at *;refine zaa ?_;unfold zek;refine zaa (zaC J rfl (x:=zaN (a:Nat)) rfl ?_);show wpAny _ _ (loadIfAlive ((a:Int).toNat) >>= _) _ _ _;rw[zb7];refine zaa (kdx_alive (m4 a oa F ha) ?_);simp only[Option.isNone_some,zb6,if_false];refine zaa (zaC J rfl (x:=.bool f) rfl ?_);have fin:∀z:Heap,DQ z it d (i+1) es.size ep (zaN (a:Nat)) (.bool true) ok N->zaS it h2 z->Q (some (.ref s.heap.objs.size)) {s with heap:=z}:=λz e3 M=>
   hQ z (.inr ⟨_,_,a,true,oa,e3,M.extBut a oa F (m4 a oa F ha),F,an⟩) (M.extBut _ _ (zaG G) m2) (by rw[M.1,m3]) λb o q e=>M.extBut b o q (m4 b o q e)
  cases f with
  | true=>
   rw[if_neg (show ¬ ((zcb true != zcb true)=true)from zau)];refine zac ?_;simp only[zb6,if_false];exact zac (fin h2 J (zfd _ _))
  | false=>
   rw[if_pos (show(zcb false != zcb true)=true from rfl)];refine zaa (zaZ J (by simp) λz e3 M=>?_);refine zac ?_;simp only[zb6,if_false];exact zac (fin z e3 M)
theorem xO(J:A.handled=none)(q:DQ s.heap it d i es.size ep own fl ok ov)(N:RawD s.heap d es ep)(G:es.size<=i)
  (M:∀h',zdu it s.heap h'->Q none {s with heap:=h'}):wpAny (model prog w) A (zaH (.ref it)) Q E s:=by
 obtain⟨od,B,U,F⟩:=N;have z:s.TypeIs (.ref it) "dict_itemiterator" := ⟨_,q,rfl⟩;unfold zaH;refine zaa (zb5 (zbt (name:=za0 "__next__") z zeg (zba zeg z zfr ?_ (zfs _))));refine zaa (zac (zaa (zaa ?_)))
 first|refine zaa (zeh z (zac ?_))|refine zaa (zei z (zac ?_))
 refine zaa (zed q rfl ?_);simp only[show zds "dict_itemiterator" = true by decide,if_true];show wpAny _ _ (if(zal d == zaL)=true then _ else _) _ _ s;rw[if_neg (show ¬ ((zal d == zaL)=true)from zau)];refine zaa (zac (zaa (zb4 B F ?_)));rw[if_neg (by simp)];refine zaa (zac (zaa (zcP B F ?_)));rw[if_neg (by simp)];refine zac ?_;simp only[show ¬ ((i:Int)<0)from by lia,if_false,zb7,Array.getElem?_eq_none G];refine zaa ?_;first|refine zaa (zeh z (zac ?_))|refine zaa (zei z (zac ?_))
 show wpAny _ _ (zc6 (.ref it) 2 .none >>= _) _ _ s;refine zaa (zdt q rfl (by simp) ?_);show wpAny _ _ (newExc (.type "StopIteration") [] >>= _) _ _ _;refine zaa ?_;simp only[newExc,newTuple];refine zaa (zbo ?_ (by size_fits));refine zaa (m:=zc7 _ _) (zdv (a:=zaL) (by first|rfl|(simp only[zc7];rfl)) ?_)
 refine zbo ?_ (by size_fits);simp only[raiseNew];refine zaa (wpAny_handled ?_);rw[show A.in1.handled=none from J];refine zaa (zac (wpAny_throw ?_));refine zaa (zc8 (T := "StopIteration") (b:=true) ⟨_,zat _ rfl,rfl⟩ zdw ?_);exact zac (M _ (((zci ..).extBut.push _).push _))
theorem ItSt.keep(x:ItSt h it d S i n ep)(B:∀b o,b≠S->h.get? b=some o->h'.get? b=some o)(J:it≠S):ItSt h' it d S i n ep:=by
 rcases x with⟨e,ok,G,q⟩|⟨ok,G,a,f,N,q,M,F,z⟩
 ·exact .inl ⟨e,ok,G,B _ _ J q⟩
 ·exact .inr ⟨ok,G,a,f,N,B _ _ J q,B _ _ z M,F,z⟩
structure Made(es:Array zb3)(lo:Addr)(h:Heap)(as:List Addr):Prop where
 above:∀a∈as,lo<a
 pair:∀(j:Nat) (a:Addr),as[j]?=some a->∃e,es[j]?=some e/\h.get? a=some {cls:=.type "tuple",data:=.seq #[e.key,e.val]}
end
section
variable {prog:zam}{w:World}{A:zar}{s:zab}{R:Result->zab->Prop}{es:Array zb3}{ep:Nat}
theorem EX{S I d:Addr}(hh:A.handled=none)(am:S<I)(au:d≠S)(ar:d≠I)(hn:es.size<=zaj)(res:Value){h0:Heap}
  (hR:∀h' tk q c as,(∀b o,b≠S->b≠I->h0.get? b=some o->h'.get? b=some o)->h'.get? S=some {cls:=.type "list",dict:=none,data:=.seq q c,slots:=#[]}->as.length=es.size->Made es I h' as->q.toList=as.map zal->R (.ok (.ret res)) {s with heap:=h',toks:=tk}) :
  ∀(k i:Nat) (h:Heap) (tk c:Nat) (q:Array Value) (as:List Addr),es.size-i=k->i<=es.size->ItSt h I d S i es.size ep->RawD h d es ep->(∀b o,b≠S->b≠I->h0.get? b=some o->h.get? b=some o)->
   h.get? S=some {cls:=.type "list",dict:=none,data:=.seq q c,slots:=#[]}->q.toList=as.map zal->as.length=i->Made es I h as->I<h.objs.size->
   zbr (model prog w) A (.builtin "list.extend.loop" ⟨[.ref S,.ref I,res],[]⟩) R {s with heap:=h,toks:=tk}:=by
 have ad:S≠I:=zay am;intro k;induction k with
 | zero=>
  intro i h tk c q as hk hi ac hD B hS G W U N;have af:es.size<=i:=by lia
  refine zcj PySem.F.entry_extend_loop ?_;rw[zck zdx _];show wpAny _ A.in1 (zaH (.ref I) >>= _) _ _ _;have fin:∀h',zdu I h h'->R (.ok (.ret res)) {s with heap:=h',toks:=tk}:=λh' he=>by
   refine hR h' tk q c as (λb o h1 h2 e=>he b o h2 (B b o h1 h2 e)) (he S _ ad hS) (by lia) ⟨U.above,λj a M=>?_⟩ G;obtain⟨e,e1,e2⟩:=U.pair j a M;exact⟨e,e1,he a _ (zaG (U.above a (zaX M))) e2⟩
  rcases ac with⟨_,ok,ov,ab⟩|⟨ok,ov,a,f,oa,ab,_⟩
  ·exact zaa (xO (s:={s with heap:=h,toks:=tk}) (A:=A.in1) hh ab hD af λh' he=>zac (fin h' he))
  ·exact zaa (xO (s:={s with heap:=h,toks:=tk}) (A:=A.in1) hh ab hD af λh' he=>zac (fin h' he))
 | succ k ih=>
  intro i h tk c q as hk hi ac hD B hS G W U N;have Y:i<es.size:=by lia
  have hsz:q.size=i:=by rw[<- zbj,G,zao,W]
  refine zcj PySem.F.entry_extend_loop ?_;rw[zck zdx _];show wpAny _ A.in1 (zaH (.ref I) >>= _) _ _ _;refine zaa (EK (s:={s with heap:=h,toks:=tk}) (S:=S) ac (zai hS) hD Y λh' ah ht hz J=>?_);dsimp only at ht hz J ⊢;have ak:=J S _ ad hS;have ai:S<h.objs.size:=zai hS;have up:∀b o,b≠S->h'.get? b=some o->(h'.update S (zbg (·.push (zal h.objs.size)))).get? b=some o:=λb o hb e=>(zbI _ _ (zaR hb)).trans e
  show wpAny _ A.in1 (zcQ S (·.push (zal h.objs.size)) >>= _) _ _ _;refine zaa (zct ak rfl ?_ (by rw[hsz];lia) (by show(q.push (zal h.objs.size)).size<=zaj+1;rw[Array.size_push,hsz];lia));refine zac ⟨zbB zdx _,ih (i+1) _ tk _ (q.push (zal h.objs.size)) (as++[h.objs.size]) (by lia) Y (ah.keep up (zaR ad)) (hD.at' λo e=>up d o au (J d o ar e)) (λb o h1 h2 e=>up b o h1 (J b o h2 (B b o h1 h2 e))) (zbR _ ak rfl) (by rw[Array.toList_push,G,zbv];rfl) (by rw[zbk,W];rfl) ⟨λa ha=>?_,λj b M=>?_⟩ ?_⟩
  ·rcases List.mem_append.mp ha with ha|ha
   ·exact U.above a ha
   ·rw[List.mem_singleton.mp ha];exact N
  ·by_cases h1:j<as.length
   ·rw[zdm h1]at M
    obtain⟨e,e1,e2⟩:=U.pair j b M;have hb:=U.above b (zaX M);exact⟨e,e1,up b _ (zaG (zcM am hb)) (J b _ (zaG hb) e2)⟩
   ·rw[zeU (by lia)]at M
    have:j-as.length=0:=by
     by_cases z:j-as.length=0
     ·exact z
     ·rw[List.getElem?_eq_none (by simp only[zd3];lia)]at M;cases M
    rw[this]at M;cases M;have e:j=i:=by lia
    subst e;exact⟨es[j],by simp[Y],up _ _ (zaG ai) ht⟩
  ·have e:=up _ _ (zaG ai) ht
   exact zcM N (zai e)
end
section
variable {prog:zam}{w:World}{A:zar}{E:Value->zab->Prop}{s:zab}{r d:Addr}{es:Array zb3}{ep:Nat}
theorem DZ(z:s.heap.IsItemsView r d)(U:RawD s.heap d es ep)
  (J:Q (.ref s.heap.objs.size) {s with heap:=s.heap.push {cls:=.type "dict_itemiterator",data:=.fields #[.none,.bool false,.ref d,.int 0 0,.int es.size 0,.int ep 0,.none,.none]} }):wpAny (model prog w) A (pyIter (.ref r)) Q E s:=by
 have B:=z.typeIs;obtain⟨W,N,v2,M⟩:=id z;obtain⟨o,q,Y,G⟩:=U;refine wpAny_pyIter_slot B zft (zba zft B PySem.F.entry_dict_items_iter ?_ (PySem.F.args_dict_items_iter_1 _));unfold za9.«dict_items.__iter__»;refine zaa (zac (zaa ?_));unfold Builtin.Dict_items.dictOf;refine zaa (zaC N M (x:=.ref d) rfl (zac ?_));refine zaa ?_;unfold Builtin.Dict_items.newIterator;refine zaa (zb4 q G (zaa (zcP q G ?_)));simp only[show zds "dict_itemiterator" = true by decide,if_true];refine zbo (zac ⟨_,rfl, "dict_itemiterator",_,⟨_,zat _ rfl,rfl⟩,PySem.F.slot_dict_itemiterator_next.lookup,?_⟩) (by simp only[sizeOk,zfu,zaz,zbk,zaT,zcg,zcf];lia);simpa[zaN,zfu]using J
theorem v9{R:Result->zab->Prop}(hh:A.handled=none)(U:s.heap.IsItemsView r d)(hm:RawD s.heap d es ep)(S:Addr)(Y:S≠r)(M:d≠S)(res:Value)(B:Nat)(hS:s.heap.get? S=some {cls:=.type "list",data:=.seq #[] B})
  (hR:∀h' tk z c as,(∀b o,b≠S->s.heap.get? b=some o->h'.get? b=some o)->h'.get? S=some {cls:=.type "list",dict:=none,data:=.seq z c,slots:=#[]}->as.length=es.size->Made es s.heap.objs.size h' as->z.toList=as.map zal->R (.ok (.ret res)) {s with heap:=h',toks:=tk}) (hn:es.size<=zaj) :
  wpAny (model prog w) A.in1 (zfe (.ref S) (.ref r) res)
   (λfin s'=>match fin with | .done f=>R (.ok f) s' | .again c'=>c'.quiet=true/\zbr (model prog w) A c' R s') (λe s'=>R (.error e) s') s:=by
 have N:S<s.heap.objs.size:=zai hS;have W:d<s.heap.objs.size:=by
  obtain⟨o,e,_⟩:=hm;exact zai e
 have G:∀(h:Heap) (q tk:Nat),(∀b o,b≠S->(s.heap.push {cls:=.type "dict_itemiterator",data:=.fields #[.none,.bool false,.ref d,.int 0 0,.int es.size 0,.int ep 0,.none,.none]}).get? b=some o->h.get? b=some o)->
   h.get? S=some {cls:=.type "list",data:=.seq #[] q}->zbr (model prog w) A (.builtin "list.extend.loop" ⟨[.ref S,.ref s.heap.objs.size,res],[]⟩) R {s with heap:=h,toks:=tk}:=by
  intro h q tk hk aa;have hI:=hk s.heap.objs.size _ (zaG N) (zat _ rfl);exact EX (es:=es) (ep:=ep) (s:=s) (h0:=s.heap) hh N M (zay W) hn res (λh' af z c as ag ad hl hG J=>hR h' af z c as (λb o F e=>ag b o F (zay (zai e)) e) ad hl hG J)
   es.size 0 h tk q #[] [] (Nat.sub_zero _) (za3 _) (.inl ⟨rfl,.none,.none,hI⟩) (hm.at' λo e=>hk d o M (zag _ e)) (λb o F _ e=>hk b o F (zag _ e)) aa rfl rfl ⟨(λ_ ha=>nomatch ha),(λj a hj=>by simp at hj)⟩ (zai hI)
 unfold zfe;refine zaa (zcq (T := "dict_items") U.typeIs ?_);simp only[show Builtin.List.listSameRef (.ref S) (.ref r)=false by simp[Builtin.List.listSameRef,Y],show(zcn "dict_items" == zcn "list")=false by decide,show(zcn "dict_items" == zcn "tuple")=false by decide,Bool.or_false,zb6,if_false];refine zaa (DZ U hm ?_);have p1:=zag {cls:=.type "dict_itemiterator",data:=.fields #[.none,.bool false,.ref d,.int 0 0,.int es.size 0,.int ep 0,.none,.none]} hS;refine zaa (zbm (kdx_hint (let ⟨o,ho,hc,_⟩:=U;⟨o,zag _ ho,hc⟩) ?_));refine wpAny_ite_split (λ_=>?_) (λ_=>zac ⟨zbB zdx _,G _ B _ (λb o _ e=>e) p1⟩);refine zaa (zbT (zaa ?_));show wpAny _ _ (zcQ S (·.push .none) >>= λ_=>zcQ S (·.pop)) _ _ _;refine zaa (zct p1 rfl ?_);have p2:=zbR (zbg (·.push zaL)) p1 rfl;refine zct (hz:=by seq_fits) p2 rfl ?_;have p3:=zbR (zbg (·.pop)) p2 rfl;exact zac ⟨zbB zdx _,G _ _ _ (λb o F e=>(zbI _ _ (zaR F)).trans ((zbI _ _ (zaR F)).trans e)) p3⟩
theorem uH(hh:A.handled=none)(hv:s.heap.IsItemsView r d)(hm:RawD s.heap d es ep)(hn:es.size<=zaj)
  (h:∀(h':Heap) (tk:Nat) (as:List Addr),(∀b o,s.heap.get? b=some o->h'.get? b=some o)->as.length=es.size->Made es s.heap.objs.size h' as->R (as.map zal) {s with heap:=h',toks:=tk}) :
  wpAny (model prog w) A (collect (.ref r)) R E s:=by
 have hr:r<s.heap.objs.size:=let ⟨_,ho,_⟩:=hv;zai ho;have hd:d<s.heap.objs.size:=let ⟨_,ho,_⟩:=hm;zai ho;unfold collect;refine zaa (wpAny_runValue (zcj entry_proto_collect' ?_));rw[zck PySem.F.plain_proto_collect _];show wpAny _ A.in1 (newList [] >>= λl=>again (.builtin "list.__iadd__" ⟨[l,.ref r],[]⟩)) _ _ s;refine zaa (zbo ?_);refine zac ⟨zbB PySem.F.plain_list_iadd _,zcj entry_list_iadd' ?_⟩;rw[zck PySem.F.plain_list_iadd _];have p1:(s.heap.push {cls:=.type "list",data:=.seq ([]:List Value).toArray}).get? s.heap.objs.size=some {cls:=.type "list",data:=.seq #[]}:=zat _ rfl;show wpAny _ A.in1 (zfe (.ref s.heap.objs.size) (.ref r) (.ref s.heap.objs.size)) _ _ _;have Y:=v9 (prog:=prog) (w:=w) (A:=A) (s:={s with heap:=s.heap.push {cls:=.type "list",data:=.seq ([]:List Value).toArray} }) (es:=es) (ep:=ep)
  (R:=λ(q:Result) (s':zab) => ∃(h':Heap) (tk:Nat) (B:Array Value) (W:Nat) (as:List Addr), q = .ok (.ret (.ref s.heap.objs.size)) /\ s' = {s with heap:=h', toks:=tk} /\
   (∀b o,s.heap.get? b=some o->h'.get? b=some o)/\h'.get? s.heap.objs.size=some {cls:=.type "list",dict:=none,data:=.seq B W,slots:=#[]}/\as.length=es.size/\Made es s.heap.objs.size h' as/\B.toList=as.map zal)
  hh (let ⟨o,ho,x⟩:=hv;⟨o,zag _ ho,x⟩) (hm.at' λo e=>zag _ e) s.heap.objs.size (zaG hr) (zay hd) (.ref s.heap.objs.size) 0 p1
  (λh' tk B W as N J U M G=>⟨h',tk,B,W,as,rfl,rfl,λb o e=>N b o (zay (zai e)) (zag _ e),J,U,⟨λa ha=>zd8 (by show s.heap.objs.size<=(s.heap.push _).objs.size;rw[zbl];exact Nat.le_succ _) (M.above a ha),M.pair⟩,G⟩) hn
 refine za8 Y (λfin s' x=>?_) λe s' x=>?_
 ·cases fin with
  | done f=>
   obtain⟨h',tk,B,W,as,e,rfl,N,J,U,M,G⟩:=x;cases e;show wpAny _ A (load s.heap.objs.size >>= _) _ _ _;refine zaa (wpAny_load J (zac ?_));rw[G];exact h h' tk as N U M
  | again c₁=>
   refine⟨x.1,zdU x.2 λq ab y=>?_⟩;obtain⟨h',tk,B,W,as,e,rfl,N,J,U,M,G⟩:=y;cases e;show wpAny _ A (load s.heap.objs.size >>= _) _ _ _;refine zaa (wpAny_load J (zac ?_));rw[G];exact h h' tk as N U M
 ·obtain⟨_,_,_,_,_,z,_⟩:=x
  cases z
end
section
variable {prog:zam}{w:World}{A:zar}{E:Value->zab->Prop}{s:zab}{a L:Addr}{vs:List Value}{m:Str->Option Value}
theorem HZ(O:Ord vs.length lt)(F:s.heap.Ns L m)(W:s.heap.get? a=some (za1 "list" vs.toArray n))(M:a≠L)(ae:vs.length<64)
  (ac:2 <= vs.length -> ∀h':Heap, (∀b o, b≠a -> b≠L -> s.heap.get? b = some o -> h'.get? b = some o) -> ∃κ, (∀Q':SortKind -> zab -> Prop, Q' κ {s with heap:=h'} -> wpAny (model prog w) A (keyKind' vs.toArray) Q' (λ_ _ => False) {s with heap:=h'}) /\
   ∀i j C,i<vs.length->j<vs.length->i≠j->C (lt i j) {s with heap:=h'}->kas_ask prog w A κ vs i j C {s with heap:=h'})
  (hP:∀(p:Array Nat) (h':Heap) (c:Nat), PermR vs.length p -> eS lt p vs.length -> h'.get? a = some (za1 "list" (zdq (p.toList.map λi => vs.getD i zaL)) c) ->
   (∀b o,b≠a->b≠L->s.heap.get? b=some o->h'.get? b=some o)->h'.Ns L m->P (.done (.ret .none)) {s with heap:=h'}) :
  wpAny (model prog w) A (za9.«list.sort» ⟨[.ref a],[]⟩) P E s:=by
 by_cases h2:2<=vs.length
 ·have N:News (Att.vP s.heap) L s.heap (Att.ledger s.heap L a):=λ⟨b,o⟩ z=>⟨(Att.dF.mp z).2.2,(Att.dF.mp z).1,Att.jK _ _⟩
  refine kat_list_sort (Att.SE F) N W M (Att.jK _ _) (λ⟨b,o⟩ z=>(Att.dF.mp z).2.1) h2 ae λU h' F' N'=>?_
  have keep:∀b o,b≠a->b≠L->s.heap.get? b=some o->h'.get? b=some o:=λb o q hL e=>(N' (b,o) (zav _ (Att.dF.mpr ⟨hL,q,e⟩))).1
  obtain⟨κ,k1,k2⟩:=ac h2 h' keep;refine k1 _ (CK k2 _ (MA O (by lia) λp z hs=>?_));refine KasFin.intro F' N' (.head λ⟨b,o⟩ q=>(Att.dF.mp q).2.1) λaa c ab J=>?_
  exact hP p aa c z hs (J _ (zas ..)).1 (λb o q hL e=>(J (b,o) (zav _ (Att.dF.mpr ⟨hL,q,e⟩))).1) ab.ns
 ·have G:vs.toArray.size<2:=by rw[zaz];lia
  rw[list_sort_plain];obtain⟨U,B⟩:∃U,(s.heap.update a (zbg λ_=>(#[]:Array Value))).get? a=some (za1 "list" #[] U):=⟨_,get?_update_seq W λ_=>#[]⟩;refine zaa (listItems_at W rfl (zaa (listUpdate_at W rfl ?_ (by rw[zaz,zcf];lia) (za3 _))));refine zaa (seqEpoch_at B rfl (zaa (zc9 ?_ (by show vs.length<=_;rw[zcf];lia))));refine zaa (zel ?_ (za3 _));refine zbm ?_;show wpAny (model prog w) A _ P E {s with heap:=((s.heap.update a (zbg λ_=>(#[]:Array Value))).push (za1 "tuple" vs.toArray 0)).push (za1 "list" #[] 0)};dsimp only;rw[if_pos G,if_pos G];have Y:(((s.heap.update a (zbg λ_=>(#[]:Array Value))).push (za1 "tuple" vs.toArray 0)).push (za1 "list" #[] 0)).get? a=some (za1 "list" #[] U):=zag _ (zag _ B);refine zaa (zac ?_);rw[StateT.run_pure];refine zaa (zac ?_);dsimp only;refine zaa (seqEpoch_at Y rfl (zaa (listUpdate_at Y rfl ?_ (za3 _) ?_)))
  ·simp only[bne_self_eq_false,zb6,if_false]
   have s1:=zci s.heap a (zbg λ_=>(#[]:Array Value));have s2:=zci (((s.heap.update a (zbg λ_=>(#[]:Array Value))).push (za1 "tuple" vs.toArray 0)).push (za1 "list" #[] 0)) a (zbg λ_=>(arrOf (SortSt.mk' general' (vs.toArray.zip vs.toArray) #[] 7 none)).map (·.2));have keep:∀b o,b≠a->s.heap.get? b=some o->_:=λb o q e=>s2.extBut b o q (zag (za1 "list" #[] 0) (zag (za1 "tuple" vs.toArray 0) (s1.extBut b o q e)))
   have eo:(arrOf (SortSt.mk' general' (vs.toArray.zip vs.toArray) #[] 7 none)).map (·.2)=zdq ((zdq (zaA vs.length)).toList.map λi=>vs.getD i zaL):=by
    show((vs.toArray.zip vs.toArray).map (·.2))=_;apply Array.toList_inj.mp;rw[Array.toList_map,Array.toList_zip];show(vs.zip vs).map (·.2)=(zaA vs.length).map λi=>vs.getD i zaL
    apply zdo
    ·simp
    ·intro i h5 h6
     have:i<vs.length:=by simpa using h6
     simp[this]
   obtain⟨c,hc⟩:∃c,((((s.heap.update a (zbg λ_=>(#[]:Array Value))).push (za1 "tuple" vs.toArray 0)).push (za1 "list" #[] 0)).update a (zbg λ_=>(arrOf (SortSt.mk' general' (vs.toArray.zip vs.toArray) #[] 7 none)).map (·.2))).get? a=some (za1 "list" ((arrOf (SortSt.mk' general' (vs.toArray.zip vs.toArray) #[] 7 none)).map (·.2)) c):=⟨_,get?_update_seq Y _⟩;exact zac (hP (zdq (zaA vs.length)) _ c (Array.Perm.refl _) (λi j h1 h3=>absurd h3 (by lia)) (by rw[<- eo];exact hc) (λb o q _ e=>keep b o q e) (F.at' λo e=>keep L o (zaR M) e))
  ·rw[Array.size_map]
   show(vs.toArray.zip vs.toArray).size<=_;rw[zcf];simp
   lia
end
end My
namespace My
open PySem PySem.Spec PyProof.Rows PySem.W PySem.SeqAt
theorem uW:∀ns:List Int,HT.lexLt ns ns=false
 | []=>rfl
 | x::xs=>by rw[HT.dH,if_pos rfl];exact uW xs
theorem vK:∀a b c:List Int,HT.lexLt a b=true->HT.lexLt b c=true->HT.lexLt a c=true
 | [],[],c,h,_=>by cases h
 | [],_::_,[],_,h=>by cases h
 | [],_::_,_::_,_,_=>rfl
 | _::_,[],_,h,_=>by cases h
 | _::_,_::_,[],_,h=>by cases h
 | x::xs,y::ys,z::zs,h1,h2=>by
  rw[HT.dH]at h1 h2 ⊢;by_cases F:x=y
  ·by_cases B:y=z
   ·rw[if_pos F]at h1;rw[if_pos B]at h2;rw[if_pos (F.trans B)];exact vK xs ys zs h1 h2
   ·rw[if_neg B]at h2;rw[if_neg (λq=>B (F.symm.trans q)),F];exact h2
  ·rw[if_neg F]at h1
   have h1:=of_decide_eq_true h1;by_cases B:y=z
   ·rw[if_neg (λq=>F (q.trans B.symm))];exact decide_eq_true (by lia)
   ·rw[if_neg B]at h2
    have h2:=of_decide_eq_true h2;rw[if_neg (by lia)];exact decide_eq_true (by lia)
theorem uT:∀a b:List Int,a≠b->HT.lexLt a b=true\/HT.lexLt b a=true
 | [],[],h=>absurd rfl h
 | [],_::_,_=>.inl rfl
 | _::_,[],_=>.inr rfl
 | x::xs,y::ys,h=>by
  rw[HT.dH,HT.dH];by_cases e:x=y
  ·rw[if_pos e,if_pos e.symm]
   exact uT xs ys λq=>h (by rw[e,q])
  ·rw[if_neg e,if_neg (λq=>e q.symm)]
   rcases Int.lt_or_gt_of_ne e with q|q
   ·exact .inl (decide_eq_true q)
   ·exact .inr (decide_eq_true q)
def U0(ks:List (List Int))(i j:Nat):Bool:=HT.lexLt (ks.getD i []) (ks.getD j [])
theorem HB(G:ks.Nodup):Ord ks.length (U0 ks) where
 irr:=λi _=>uW _
 tr:=λi j k _ _ _ h1 h2=>vK _ _ _ h1 h2
 tot:=λi j hi F q=>uT _ _ λe=>q (by
  have B:ks.getD i []=ks[i]:=by simp[hi]
  have z:ks.getD j []=ks[j]:=by simp[F]
  rw[B,z]at e;exact(zdi G).mp e)
section
variable {prog:zam}{w:World}{A:zar}{E:Value->zab->Prop}{s:zab}
def TupI(h:Heap)(a:Addr)(ns:List Int):Prop:=∃q:List Value,IsTup h a q.toArray/\zaP q ns
theorem TupI.at'(x:TupI h a ns)(k:∀o,h.get? a=some o->h'.get? a=some o):TupI h' a ns:=by
 obtain⟨q,⟨o,e,c⟩,i⟩:=x;exact⟨q,⟨o,k o e,c⟩,i⟩
theorem MJ(Y:TupI s.heap x ns)(W:TupI s.heap y ms)(q:ns≠ms)(hu:A.units<cLine):EqAt A s (.ref x) (.ref y) false:=by
 obtain⟨us,tx,G⟩:=Y;obtain⟨vs,ty,M⟩:=W;have ne:x≠y:=λe=>by
  subst e;obtain⟨o,N,c1,n,d1⟩:=tx;obtain⟨o',B,c2,n',d2⟩:=ty;rw[N]at B;cases B;rw[d1]at d2;injection d2 with d3 _
  have:us=vs:=by simpa using congrArg Array.toList d3
  subst this;have:∀ {us:List Value} {a b:List Int},zaP us a->zaP us b->a=b:=by
   intro us a b h1;induction h1 generalizing b with
   | nil=>intro h2;cases h2;rfl
   | cons n t _ ih=>intro h2;cases h2 with|cons _ _ r=>rw[ih r]
  exact q (this G M)
 have he:∀j (h1:j<us.toArray.size) (h2:j<vs.toArray.size),EqAt A.in1 s us.toArray[j] vs.toArray[j] (decide (ns.getD j 0=ms.getD j 0)):=by
  intro j h1 h2;have g:∀ {us:List Value} {ns:List Int} {j:Nat} (_:zaP us ns) (h:j<us.length),∃t,us[j]=.int (ns.getD j 0) t:=by
   intro us ns j r;induction r generalizing j with
   | nil=>intro h;cases h
   | cons n t r ih=>
    intro h;cases j with
    | zero=>exact⟨t,rfl⟩
    | succ j=>
     obtain⟨t',e⟩:=ih (j:=j) (by simpa using h);exact⟨t',by simpa using e⟩
  obtain⟨t,N⟩:=g G (j:=j) (by simpa using h1);obtain⟨t',B⟩:=g M (j:=j) (by simpa using h2);have F:us.toArray[j]=us[j]'(by simpa using h1):=by simp
  have J:vs.toArray[j]=vs[j]'(by simpa using h2):=by simp
  rw[F,J,N,B];exact EqAt.to (EqAt.int_int _ _ _ _) (by simp[ze9])
 refine EqAt.to (EqAt.of_refs ne (RcAt.tuples tx ty hu he)) ?_;have F:us.toArray.size=ns.length:=by rw[zaz];exact G.length
 have J:vs.toArray.size=ms.length:=by rw[zaz];exact M.length
 rw[F,J,zc2];intro z;rw[zaK]at z;obtain⟨U,z2⟩:=z;have hl:ns.length=ms.length:=by simpa using z2
 rw[zcO]at U;refine q (zdo hl λj h1 h2=>?_);have:=of_decide_eq_true (U j (List.mem_range.mpr (by lia)));simpa[h1,h2]using this
def DP(h:Heap)(p a:Addr)(v:Value)(ns:List Int):Prop:=IsTup h p #[.ref a,v]/\TupI h a ns
theorem EF(M:DP s.heap p a u ns)(F:DP s.heap q b v ms)(z:ns≠ms)(B:A.units<cLine)(h:Q (HT.lexLt ns ms) s) :
  wpAny (model prog w) A (keyLt' (tuples' false) (.ref p) (.ref q)) Q E s:=by
 obtain⟨⟨ox,G,x2,n,x3⟩,tx⟩:=M;obtain⟨⟨oy,W,y2,m,y3⟩,ty⟩:=F;refine kat_lt G x3 W y3 ?_;refine kat_cons (MJ tx ty z B prog w _ _ (kat_no ?_));obtain⟨us,J,N⟩:=tx;obtain⟨ws,Y,U⟩:=ty;exact kat_one _ _ (HT.pO J Y N U B h)
end
end My
namespace My
open PySem PySem.Spec PyProof.Rows L2 PySem.SeqAt
theorem obj_some(x:ObjOk P w H h a o):∃ob,h.get? a=some ob:=by
 cases o with
 | lst xs=>obtain⟨_,_,_,_,e⟩:=x;exact⟨_,e⟩
 | tup xs=>obtain⟨_,_,_,ob,e,_⟩:=x;exact⟨ob,e⟩
 | dK kvs=>obtain⟨_,_,_,_,ob,_,_,e,_⟩:=x;exact⟨ob,e⟩
 | dT kvs=>obtain⟨_,_,_,_,ob,_,_,e,_⟩:=x;exact⟨ob,e⟩
 | set S n=>obtain⟨ob,_,_,_,e,_⟩:=x;exact⟨ob,e⟩
 | ins C dx fs=>obtain⟨_,_,_,e,_⟩:=x;exact⟨_,e⟩
 | own y=>exact x
 | xd fs=>obtain⟨_,⟨ob,_,_,e,_⟩,_⟩:=x;exact⟨ob,e⟩
 | rng lo hi=>obtain⟨_,_,_,e⟩:=x;exact⟨_,e⟩
 | frz ob u=>obtain⟨e,_⟩:=x;exact⟨_,e⟩
 | tbl ps=>exact⟨_,(show h.get? a=some _ from x)⟩
 | met f y=>exact⟨_,(show h.get? a=some _ from x)⟩
 | ext φ=>exact x.2.1
theorem IG(I:Inv X pins σ H s)(keep:∀b o,b≠X.env.locals->s.heap.get? b=some o->h'.get? b=some o)(ns:∀m,s.heap.Ns X.env.locals m->h'.Ns X.env.locals m)
  (same:∀b o,s.heap.get? b=some o->H' b=H b) (new:∀b o,H b=none->H' b=some o->ObjOk X.prog X.w H' h' b o):Inv X pins σ H' {s with heap:=h',toks:=t'}:=by
 have nl:∀b o,H b=some o->b≠X.env.locals:=λb o e z=>by rw[z,I.free]at e;cases e
 have B:∀b o,H b=some o->H' b=some o:=λb o e=>by
  obtain⟨ob,q⟩:=obj_some (I.hok b o e);rw[same b ob q];exact e
 refine I.step (g':=s.gens) (d':=s.drawn) (ch:=[]) (λ_ z=>nomatch z) (λb o F _ _ e _=>keep b o F e) (λb o F _ _ e _=>⟨o.slots,keep b o F e⟩) (λb o _ e n=>by rw[same b o e];exact n) (λb o _ e=>?_)
  (λb xs e=>B b _ e) (λb o u e=>B b _ e) (λb ps e=>⟨#[],by rw[B b _ e];simp⟩) ns (λb u e=>?_) I.bare
 ·by_cases G:b=X.env.locals
  ·obtain⟨m,N,_⟩:=I.loc
   obtain⟨o',_,_,J,_⟩:=ns m N;exact⟨o',by rw[G];exact J⟩
  ·exact⟨o,keep b o G e⟩
 ·cases e0:H b with
  | some v=>
   have:v=u:=by
    have:=B b v e0;rw[e]at this;exact(zaI this).symm
   subst this;refine(I.hok b v e0).stay (λc v M q=>keep c v ?_ q) (λc q=>B c _ q) λc xs q=>B c _ q
   rcases M with z|z
   ·rw[z];exact nl b _ e0
   ·exact nl c _ z
  | none=>exact new b u e0 e
def kI(p:List Int×V):List Key×V:=(p.1.map zap,p.2)
theorem M3(ns:List Int):(ns.map (zap:Int->Key)).map kV=ns.map V.int:=by
 rw[zaQ];rfl
def vL(q:List (List Int×V)):Prop:=q.Pairwise λa b=>HT.lexLt a.1 b.1=true
theorem vZ:∀ {ns:List Int} {us:List Value},Vals (ns.map V.int) us->zaP us ns:=λr=>L2.intsAre_of r
theorem AS{X:Cx}{pins:List (Addr×Obj)}{σ:L2.St}{H:Hp}{s:zab}{d:Addr}{ps:List (List Int×V)}(I:Inv X pins σ H s)(M:Rd H d (.dT (ps.map kI))) :
  ps.length<=zaj/\(d == zbi)=false/\(ps.map (·.1)).Nodup/\∃es ep,RawD s.heap d es ep/\es.size=ps.length/\∀(j:Nat) (p:List Int×V),ps[j]?=some p->∃(e:zb3) (b:Addr),es[j]?=some e/\e.key=.ref b/\H b=some (.tup (p.1.map V.int))/\RelV p.2 e.val:=by
 obtain⟨z,y,xs,r,o,es,ep,h1,h2,W,J,F⟩:=(show ObjOk X.prog X.w H s.heap d (.dT (ps.map kI))from M.ok I.hok);have hl:xs.length=ps.length:=by rw[<- zbX r,zao]
 have G:es.size=ps.length:=by
  have:=congrArg zbP J;rw[zbj,zao]at this
  lia
 have get:∀ {ps:List (List Int×V)} {xs:List (List Key×Addr×Value)},zaV (λ(p:List Key×V) (q:List Key×Addr×Value)=>p.1=q.1/\H q.2.1=some (.tup (p.1.map kV))/\RelV p.2 q.2.2) (ps.map kI) xs->
   ∀(j:Nat) (p:List Int×V),ps[j]?=some p->∃q,xs[j]?=some q/\(kI p).1=q.1/\H q.2.1=some (.tup ((kI p).1.map kV))/\RelV p.2 q.2.2:=by
  intro ps;induction ps with
  | nil=>intro xs r j p e;simp at e
  | cons p0 ps ih=>
   intro xs r j p e;rw[zak]at r;cases r with
   | cons h t=>
    cases j with
    | zero=>simp at e;subst e;exact⟨_,rfl,h⟩
    | succ j=>exact ih t j p (by simpa using e)
 have B:∀ {ps:List (List Int×V)} {xs:List (List Key×Addr×Value)},zaV (λ(p:List Key×V) (q:List Key×Addr×Value)=>p.1=q.1/\H q.2.1=some (.tup (p.1.map kV))/\RelV p.2 q.2.2) (ps.map kI) xs->
   xs.map (·.1)=ps.map λp=>p.1.map zap:=by
  intro ps;induction ps with
  | nil=>intro xs r;rw[zb1]at r;cases r;rfl
  | cons p0 ps ih=>
   intro xs r;rw[zak]at r;cases r with
   | cons h t=>rw[zak,zak,ih t,<- h.1];rfl
 refine⟨by rw[zao]at z;exact z,y,?_,es,ep,⟨o,h1,h2,W⟩,G,λj p e=>?_⟩
 ·rw[B r]at F
  have:(ps.map λp=>p.1.map (zap:Int->Key))=(ps.map (·.1)).map λns=>ns.map zap:=by rw[zaQ];rfl
  rw[this]at F;exact List.Pairwise.of_map _ (λa b h e=>h (by rw[e])) F
 ·obtain⟨q,e1,e2,U,N⟩:=get r j p e
  have Y:es[j]?=some (entryOfKey (za4 (aU X.prog X.w)) q):=by
   rw[<- zdy,J,zaB,e1];rfl
  exact⟨_,q.2.1,Y,rfl,by rw[U];show some (HO.tup (((p.1.map zap):List Key).map kV))=_;rw[M3],N⟩
theorem LM(I:Inv X pins σ H s)(h:H b=some (.tup (ns.map V.int))):TupI s.heap b ns:=by
 obtain⟨q,r,t,_⟩:=I.tuple (SqT.of h);exact⟨q,t,vZ r⟩
theorem wQ(B:PermR ps.length p)(hs:eS (U0 (ps.map (·.1))) p ps.length) :
  (p.toList.map λi=>ps.getD i ([],.non)).Perm ps/\vL (p.toList.map λi=>ps.getD i ([],.non)):=by
 have J:(zaA ps.length).map (λi=>ps.getD i ([],.non))=ps:=by
  apply zdo
  ·simp
  ·intro i h1 h2
   simp[h2]
 constructor
 ·have:=(Array.perm_iff_toList_perm.mp B).map λi=>ps.getD i (([],.non):List Int×V)
  rw[J]at this;exact this
 ·unfold vL
  rw[List.pairwise_map];rw[List.pairwise_iff_getElem];intro i j hi G z;have hsz:=B.size;rw[zbj]at hi G;have h1:=hs i j z (by lia);have g:∀k (q:k<p.size),p.getD k 0=p.toList[k]'(by rw[zbj];exact q):=λk q=>by simp[zc5,q]
  rw[g i hi,g j G]at h1;have F:∀k,(ps.map (·.1)).getD k []=(ps.getD k ([],.non)).1:=λk=>by
   by_cases h:k<ps.length
   ·simp[h]
   ·simp[Nat.le_of_not_lt h]
  unfold U0 at h1;rw[F,F]at h1;exact h1
end My
namespace My
open PySem PySem.Spec PyProof.Rows L2 PySem.SeqAt PySem.W
theorem fU{q B z:Type}{R:B->z->Prop}{f:q->B}{g:q->z}:∀(l:List q),(∀i∈l,R (f i) (g i))->zaV R (l.map f) (l.map g)
 | [],_=>.nil
 | i::l,h=>.cons (h i (zas ..)) (fU l λj F=>h j (zav _ F))
theorem mS{z B:Type}{f:B->Value}{R:B->z->Prop}:∀(ps:List z) (vs:List Value),vs.length=ps.length->(∀(j:Nat) (p:z),ps[j]?=some p->∃b,vs[j]?=some (f b)/\R b p)->∃bs:List B,vs=bs.map f/\zaV R bs ps
 | [],[],_,_=>⟨[],rfl,.nil⟩
 | [],_::_,h,_=>by cases h
 | _::_,[],h,_=>by cases h
 | p::ps,v::vs,hl,h=>by
  obtain⟨b,e,r⟩:=h 0 p rfl;obtain⟨bs,F,G⟩:=mS ps vs (by simpa using hl) λj q J=>h (j+1) q (by simpa using J)
  have:v=f b:=by simpa using e
  exact⟨b::bs,by rw[zak,<- F,this],.cons r G⟩
theorem pA{z q:Type}{R:z->q->Prop}:∀ {as:List z} {bs:List q},zaV R as bs->∀(j:Nat) (b:q),bs[j]?=some b->∃a,as[j]?=some a/\R a b
 | _,_,.nil,j,b,e=>by simp at e
 | _,_,.cons h t,0,b,e=>by simp at e;subst e;exact⟨_,rfl,h⟩
 | _,_,.cons h t,j+1,b,e=>pA t j b (by simpa using e)
section
variable {X:Cx}
def BZ(el:Hp->V->List Int×V->Prop)(H:Hp)(ps:List (List Int×V))(Q:VK):Prop:=
 ∀(l:Addr) (us:List V) (qs:List (List Int×V)) (H2:Hp),Same H H2->H l=none->H2 l=some (.lst us)->zaV (el H2) us qs->qs.Perm ps->vL qs->Q (.ref l) H2
def Z8:Hp->V->List Int×V->Prop:=λH u q=>∃a b,u=.ref a/\H a=some (.tup [.ref b,q.2])/\H b=some (.tup (q.1.map V.int))
theorem FN{pins:List (Addr×Obj)}{σ:L2.St}{H H1:Hp}{s:zab}{h1:Heap}{tk:Nat}{A:zar}{E:Value->zab->Prop}{Q:VK}{ps:List (List Int×V)}{as:List Addr}{el:Hp->V->List Int×V->Prop}{P:PySem.Fin->zab->Prop}
  (I:Inv X pins σ H s) (B:∀b o,s.heap.get? b=some o->h1.get? b=some o) (an:ps.length<64) (hn:(ps.map (·.1)).Nodup) (hl:as.length=ps.length)
  (J:∀b o,s.heap.get? b=some o->H1 b=H b) (M:∀b o,H1 b=some o->b<h1.objs.size)
  (aa:∀(b:Addr) (o:HO),H b=none->H1 b=some o->∀(h':Heap) (H':Hp),(∀c u,c≠h1.objs.size->c≠X.env.locals->h1.get? c=some u->h'.get? c=some u)->ObjOk X.prog X.w H' h' b o)
  (ad:∀(j:Nat) (p:List Int×V) (a:Addr),ps[j]?=some p->as[j]?=some a->∀H',Same H1 H'->el H' (.ref a) p)
  (al:2 <= ps.length -> ∀h':Heap, (∀b o, b≠h1.objs.size -> b≠X.env.locals -> h1.get? b = some o -> h'.get? b = some o) -> ∃κ, (∀Q':SortKind -> zab -> Prop, Q' κ {s with heap:=h', toks:=tk} -> wpAny (model X.prog X.w) A (keyKind' (as.map zal).toArray) Q' (λ_ _ => False) {s with heap:=h', toks:=tk}) /\
   ∀i j C,i<ps.length->j<ps.length->i≠j->C (U0 (ps.map (·.1)) i j) {s with heap:=h',toks:=tk}->kas_ask X.prog X.w A κ (as.map zal) i j C {s with heap:=h',toks:=tk})
  (q:BZ el H ps Q) (hP:∀s',EP X pins σ Q (.ref h1.objs.size) s'->P (.done (.ret .none)) s') :
  wpAny (model X.prog X.w) A (za9.«list.sort» ⟨[.ref h1.objs.size],[]⟩) P E {s with heap:=h1.push (za1 "list" (as.map zal).toArray 0),toks:=tk}:=by
 obtain⟨m,U,_⟩:=id I.loc;have F:(as.map zal).length=ps.length:=by rw[zao,hl]
 have ag:X.env.locals<h1.objs.size:=by
  obtain⟨o,_,_,e,_⟩:=id U;exact zai (B _ o e)
 have af:(h1.push (za1 "list" (as.map zal).toArray 0)).Ns X.env.locals m:=U.at' λo e=>zag _ (B _ o e)
 have O:Ord (as.map zal).length (U0 (ps.map (·.1))):=by
  rw[F,<- zao (f:=(·.1)) (as:=ps)];exact HB hn
 have W:H h1.objs.size=none:=by
  cases e:H h1.objs.size with
  | none=>rfl
  | some o=>
   obtain⟨ob,z⟩:=obj_some (I.hok _ o e);exact absurd (zai (B _ ob z)) (zbc _)
 have Y:H1 h1.objs.size=none:=by
  cases e:H1 h1.objs.size with
  | none=>rfl
  | some o=>exact absurd (M _ o e) (zbc _)
 refine HZ (lt:=U0 (ps.map (·.1))) (n:=0) (L:=X.env.locals) (m:=m) (s:={s with heap:=h1.push (za1 "list" (as.map zal).toArray 0),toks:=tk}) O af (zat _ rfl) (zaG ag) (by rw[F];exact an) (λh2 h' k=>?_) λp h' c hp hs aj N am=>?_
 ·rw[F]at h2
  obtain⟨κ,k1,k2⟩:=al h2 h' λb o hb hL e=>k b o hb hL (zag _ e)
  exact⟨κ,k1,λi j C hi hj=>k2 i j C (by rw[F]at hi;exact hi) (by rw[F]at hj;exact hj)⟩
 ·rw[F]at hp hs
  obtain⟨g1,g2⟩:=wQ hp hs;have G:∀c u,c≠h1.objs.size->c≠X.env.locals->h1.get? c=some u->h'.get? c=some u:=λc u ah ao e=>N c u ah ao (zag _ e)
  have lt:∀i∈p.toList,i<ps.length:=λi hi=>by
   have:=(Array.perm_iff_toList_perm.mp hp).mem_iff.mp hi;simpa using this
  have ga:∀i,i<ps.length->as[i]?=some (as.getD i 0)/\ps[i]?=some (ps.getD i ([],.non))/\(as.map zal).getD i zaL=.ref (as.getD i 0):=λi hi=>by
   have h1:i<as.length:=by lia
   refine⟨by simp[h1],by simp[hi],by simp[h1]⟩
  have ae:Same H (upd H1 h1.objs.size (.lst (p.toList.map λi=>V.ref (as.getD i 0)))):=λb o e=>by
   obtain⟨ob,z⟩:=obj_some (I.hok b o e);rw[aE (aQ e W),J b ob z];exact e
  have ap:Same H1 (upd H1 h1.objs.size (.lst (p.toList.map λi=>V.ref (as.getD i 0)))):=xP Y;have I2:Inv X pins σ (upd H1 h1.objs.size (.lst (p.toList.map λi=>V.ref (as.getD i 0)))) {s with heap:=h',toks:=tk}:=by
   refine IG I (λb o hL e=>G b o (λz=>absurd (zai (B b o e)) (by rw[z];exact zbc _)) hL (B b o e)) (λm' ai=>?_) (λb o e=>?_) (λb o n e=>?_)
   ·obtain⟨o1,be,ba,e1,d1,r1⟩:=U
    obtain⟨o2,a3,bf,e2,d2,r2⟩:=ai;rw[e1]at e2;cases e2;rw[d1]at d2;injection d2 with d3 d4
    subst d3 d4;have:m=m':=funext λx=>by rw[<- r1.2 x,<- r2.2 x]
    rw[<- this];exact am
   ·rw[aE (λz=>absurd (zai (B b o e)) (by rw[z];exact zbc _))]
    exact J b o e
   ·by_cases hb:b=h1.objs.size
    ·subst hb
     rw[aI]at e;cases e;refine⟨?_,_,c,?_,aj⟩
     ·rw[zao,zbj,hp.size,zcf]
      lia
     ·show Vals _ (p.toList.map λi=>(as.map zal).getD i zaL)
      exact fU p.toList λi hi=>by
       show(as.map zal).getD i zaL=zal (as.getD i 0);exact(ga i (lt i hi)).2.2
    ·rw[aE hb]at e
     exact aa b o n e h' _ G
  refine hP _ ⟨.ref h1.objs.size,_,I2,rfl,q _ _ _ _ ae W aI (fU p.toList λi hi=>?_) g1 g2⟩;obtain⟨a1,a2,_⟩:=ga i (lt i hi);exact ad i _ _ a2 a1 _ ap
theorem R5{A:zar}{κ:SortKind}{as:List Addr}{i j:Nat}{C:Bool->zab->Prop}{s:zab}(hi:i<as.length)(B:j<as.length)(h:wpAny (model X.prog X.w) A (keyLt' κ (.ref (as.getD i 0)) (.ref (as.getD j 0))) C (λ_ _=>False) s):kas_ask X.prog X.w A κ (as.map zal) i j C s:=by
 unfold kas_ask;have z:(as.map zal).getD i zaL=.ref (as.getD i 0):=by simp[hi]
 have q:(as.map zal).getD j zaL=.ref (as.getD j 0):=by simp[B]
 rw[z,q];exact h
theorem oK:∀ {as:List Addr} {fs:List Value},zaV (λa f=>∃q:List Value,IsTup h a q.toArray/\q[0]?=some f) as fs->KatTups h (as.map zal) fs
 | _,_,.nil=>.nil
 | _,_,.cons ⟨q,⟨o,e,c,n,d⟩,z⟩ t=>KatTups.cons e c d (by simpa using z) (oK t)
def JZ:V->List V->Hp->VK->Prop:=λx vs H Q=>∃d kvs,x=.ref d/\vs=[]/\Rd H d (.dT kvs)/\∀r,H r=none->Q (.ref r) (upd H r (.ext λh=>h.IsItemsView r d))
theorem GC:ZX X "dict.items" JZ:=by
 intro pins s σ H x vs v us Q I N U h;obtain⟨d,kvs,rfl,rfl,J,q⟩:=h;cases N;have B:=U.zero;subst B;obtain⟨z,y,xs,r,o,es,ep,h1,h2,h3,_⟩:=(show ObjOk X.prog X.w H s.heap d (.dT kvs)from J.ok I.hok);have G:s.TypeIs (.ref d) "dict" := ⟨o,h1,h2.1⟩;refine zba PySem.F.slot_dict_items G PySem.F.entry_dict_items ?_ (PySem.F.args_dict_items_1 _);unfold za9.«dict.items»;refine zaa ?_;unfold Builtin.Dict.noArgs;refine zaa (zd9 G ?_);show wpAny _ _ (pure d) _ _ s;refine zac ?_;show wpAny _ _ (zdr d >>= _) _ _ s;unfold zdr;rw[if_neg (by rw[y];exact zau)];refine zaa (zac (zaa (zbo (zac ⟨_,rfl,?_⟩))));have W:H s.heap.objs.size=none:=I.fresh;refine⟨.ref s.heap.objs.size,_,I.laid (t':=s.toks) (o:=.ext λh=>h.IsItemsView s.heap.objs.size d) (λ_ _ q=>zag _ q) (zan _) ⟨⟨_,zat _ rfl,rfl,rfl⟩,⟨_,zat _ rfl⟩,λa b ⟨o,Y,M⟩ k=>⟨o,k o Y,M⟩⟩,rfl,q _ W⟩
def F3(H:Hp)(as:List Addr)(ds:List (List V)):Hp:=λb=>match as.findIdx? (λa=>decide (a=b))with
 | some j=>some (.tup (ds.getD j []))
 | none=>H b
theorem kC(h:¬ b∈as):F3 H as ds b=H b:=by
 unfold F3;have:as.findIdx? (λa=>decide (a=b))=none:=by
  rw[List.findIdx?_eq_none_iff];intro a q;exact decide_eq_false λe=>h (e ▸ q)
 rw[this]
theorem CJ(h:b∈as):∃j,as[j]?=some b/\F3 H as ds b=some (.tup (ds.getD j [])):=by
 unfold F3;cases e:as.findIdx? (λa=>decide (a=b))with
 | none=>
  rw[List.findIdx?_eq_none_iff]at e;have:=e b h;simp at this
 | some j=>
  rw[List.findIdx?_eq_some_iff_getElem]at e;obtain⟨h1,h2,_⟩:=e;exact⟨j,by rw[zaY h1,of_decide_eq_true h2],rfl⟩
theorem uA(hc:X.calm=true)(hu:X.A.units+64<cLine):CallR X (.builtin "sorted") (λxs H Q=>∃r d ps,xs=[.ref r]/\H r=some (.ext λh=>h.IsItemsView r d)/\Rd H d (.dT (ps.map kI))/\ps.length<64/\BZ Z8 H ps Q):=by
 intro pins s σ H xs us Q I rr h;obtain⟨r,d,ps,rfl,hr,hd,a6,q⟩:=h;obtain⟨u,rfl,ru⟩:=vals1 rr;cases ru;obtain⟨hz,ca,am,es,ep,a5,al,ak⟩:=AS I hd;have hv:s.heap.IsItemsView r d:=(I.hok r _ hr).1;have nL:∀ {b:Addr} {o:HO},H b=some o->b≠X.env.locals:=λe z=>by rw[z,I.free]at e;cases e
 refine Calls.call_function_entry kind_sorted plain_sorted entry_sorted (args_sorted1 _) ?_;unfold za9.«sorted»;refine zaa (m:=checkCount "sorted" 1 1 _) (zac (zaa (uH (I.ok.hd hc) hv a5 (by rw[al];exact hz) λh1 tk as G bf ac=>?_)));have B:as.length=ps.length:=by rw[bf,al]
 obtain⟨bs,ba,au⟩:=mS (f:=zal) (R:=λb (p:List Int×V)=>H b=some (.tup (p.1.map V.int))) ps (es.toList.map (·.key)) (by rw[zao,zbj,al]) λj p hp=>by
  obtain⟨e,b,e1,W,e3,_⟩:=ak j p hp;exact⟨b,by rw[zaB,zdy,e1];exact congrArg some W,e3⟩
 have an:bs.length=ps.length:=zbX au
 -- the j-th pair
 have F:∀(j:Nat) (p:List Int×V),ps[j]?=some p->∃a b v,as[j]?=some a/\bs[j]?=some b/\H b=some (.tup (p.1.map V.int))/\RelV p.2 v/\s.heap.objs.size<a/\h1.get? a=some {cls:=.type "tuple",data:=.seq #[.ref b,v]}:=λj p hp=>by
  obtain⟨e,b,e1,W,e3,e4⟩:=ak j p hp;have J:j<ps.length:=(List.getElem?_eq_some_iff.mp hp).1;obtain⟨b',f1,f2⟩:=pA au j p hp;have ap:as[j]?=some (as[j]'(by lia)):=zaY (by lia);obtain⟨e',g1,g2⟩:=ac.pair j _ ap;rw[e1]at g1;cases g1;have Y:b=b':=by
   have z:(es.toList.map (·.key))[j]?=some (.ref b):=by rw[zaB,zdy,e1];exact congrArg some W
   rw[ba,zaB,f1]at z;have:=zaI z;injection this with this
   exact this.symm
  subst Y;exact⟨_,b,e.val,ap,f1,e3,e4,ac.above _ (zdz _),by rw[g2,W]⟩
 have ab:∀(i j:Nat) (a:Addr),as[i]?=some a->as[j]?=some a->i=j:=λi j a hi J=>by
  have li:i<ps.length:=by rw[<- B];exact(List.getElem?_eq_some_iff.mp hi).1
  have lj:j<ps.length:=by rw[<- B];exact(List.getElem?_eq_some_iff.mp J).1
  obtain⟨a1,b1,v1,M,_,x2,_,_,x3⟩:=F i _ (zaY li);obtain⟨a2,b2,v2,y1,_,U,_,_,y3⟩:=F j _ (zaY lj);rw[hi]at M;cases M;rw[J]at y1;cases y1;rw[x3]at y3;injection y3 with y3
  injection y3 with _ _ y3 _
  injection y3 with y3 _
  have Y:b1=b2:=by
   have:=congrArg (λz:Array Value=>z[0]?) y3;simpa using this
  subst Y;rw[x2]at U;injection U with U
  injection U with U
  have:ps[i].1=ps[j].1:=by
   have inj:∀ {a b:List Int},a.map V.int=b.map V.int->a=b:=by
    intro a;induction a with
    | nil=>intro b h;cases b with
     | nil=>rfl
     | cons _ _=>cases h
    | cons x xs ih=>intro b h;cases b with
     | nil=>cases h
     | cons y ys=>
      rw[zak,zak]at h;injection h with h1 h2
      injection h1 with h1
      rw[h1,ih h2]
   exact inj U
  have e1:(ps.map (·.1))[i]'(by rw[zao];exact li)=(ps.map (·.1))[j]'(by rw[zao];exact lj):=by simpa using this
  exact(zdi am).mp e1
 have aw:∀(j:Nat) (p:List Int×V) (b:Addr),ps[j]?=some p->bs[j]?=some b->((bs.zip ps).map λx=>[V.ref x.1,x.2.2]).getD j []=[V.ref b,p.2]:=λj p b h1 h2=>by
  have:((bs.zip ps).map λx=>[V.ref x.1,x.2.2])[j]?=some [V.ref b,p.2]:=by
   rw[zaB,(List.getElem?_zip_eq_some (z:=(b,p))).mpr ⟨h2,h1⟩];rfl
  simp[zc3,this]
 have aj:∀b o,s.heap.get? b=some o->¬ b∈as:=λb o e Y=>absurd (zai e) (Nat.not_lt.mpr (zdK (ac.above b Y)))
 have ar:Same H (F3 H as ((bs.zip ps).map λx=>[V.ref x.1,x.2.2])):=λb o e=>by
  obtain⟨ob,z⟩:=obj_some (I.hok b o e);rw[kC (aj b ob z)];exact e
 refine zaa (zel ?_ (by rw[zao,B];exact hz));have bb:(h1.push (za1 "list" (as.map zal).toArray 0)).get? h1.objs.size=some (za1 "list" (as.map zal).toArray 0):=zat _ rfl;show wpAny _ _ _ _ _ {s with heap:=h1.push (za1 "list" (as.map zal).toArray 0),toks:=tk};refine zaa (zbm (zba slot_list_sort ⟨_,bb,rfl⟩ entry_list_sort ?body (args_list_sort _)))
 case body=>
  refine FN (H1:=F3 H as ((bs.zip ps).map λx=>[V.ref x.1,x.2.2])) (el:=Z8) (Q:=Q) I G a6 am B (λb o e=>kC (aj b o e)) (λb o e=>?_) (λb o n e h' H' k=>?_) (λj p a hp ha H' sm=>?_) (λh2 h' k=>?_) q λs' hE=>⟨_,rfl,zac ⟨_,rfl,hE⟩⟩
  ·by_cases Y:b∈as
   ·obtain⟨j,J⟩:=List.mem_iff_getElem?.mp Y
    have lj:j<ps.length:=by rw[<- B];exact(List.getElem?_eq_some_iff.mp J).1
    obtain⟨a,b',v,M,_,_,_,_,x3⟩:=F j _ (zaY lj);rw[J]at M;cases M;exact zai x3
   ·rw[kC Y]at e
    obtain⟨ob,z⟩:=obj_some (I.hok b o e);exact zai (G b ob z)
  ·have Y:b∈as:=Classical.byContradiction λz=>by rw[kC z,n]at e;cases e
   obtain⟨j,J,W⟩:=CJ (H:=H) (ds:=(bs.zip ps).map λx=>[V.ref x.1,x.2.2]) Y;rw[W]at e;cases e;have lj:j<ps.length:=by rw[<- B];exact(List.getElem?_eq_some_iff.mp J).1
   obtain⟨a,b',v,M,x2,_,x4,x5,x3⟩:=F j _ (zaY lj);rw[J]at M;cases M;rw[aw j _ b' (zaY lj) x2];have aq:b≠X.env.locals:=zaG (zcM I.lt x5);exact⟨by show 2<=zaj;decide,[.ref b',v],.cons rfl (.cons x4 .nil),_,k b _ (zay (zai x3)) aq x3,rfl,0,rfl,rfl⟩
  ·obtain⟨a',b,v,M,x2,x3,x4,_,_⟩:=F j p hp
   rw[ha]at M;cases M;obtain⟨j',bc,W⟩:=CJ (H:=H) (as:=as) (ds:=(bs.zip ps).map λx=>[V.ref x.1,x.2.2]) (zaX ha);have:=ab j' j a bc ha;subst this;rw[aw j' p b hp x2]at W;exact⟨a,b,rfl,sm _ _ W,sm _ _ (ar _ _ x3)⟩
  ·have pI:∀(j:Nat) (p:List Int×V),ps[j]?=some p->∃a b v,as[j]?=some a/\bs[j]?=some b/\DP h' a b v p.1:=λj p hp=>by
    obtain⟨a,b,v,M,x2,x3,x4,x5,x6⟩:=F j p hp;refine⟨a,b,v,M,x2,⟨_,k a _ (zay (zai x6)) (zaG (zcM I.lt x5)) x6,rfl,0,rfl⟩,(LM I x3).at' λo e=>k b o ?_ (nL x3) (G b o e)⟩;exact λz=>absurd (zai (G b o e)) (by rw[z];exact zbc _)
   refine⟨tuples' (zcn "tuple" != zcn "tuple"),λQ' q'=>?_,λi j C hi J be hC=>?_⟩
   ·have pr:zaV (λa (f:Value)=>∃N:List Value,IsTup h' a N.toArray/\N[0]?=some f) as (bs.map zal):=by
     have:∀ {as bs:List Addr} {ps:List (List Int×V)},as.length=ps.length->bs.length=ps.length->(∀(j:Nat) (p:List Int×V),ps[j]?=some p->∃a b v,as[j]?=some a/\bs[j]?=some b/\DP h' a b v p.1)->zaV (λa (f:Value)=>∃N:List Value,IsTup h' a N.toArray/\N[0]?=some f) as (bs.map zal):=by
      intro as;induction as with
      | nil=>intro bs ps h1 h2 _;cases ps with
       | nil=>cases bs with
        | nil=>exact .nil
        | cons _ _=>cases h2
       | cons _ _=>cases h1
      | cons a as ih=>intro bs ps h1 h2 h3;cases ps with
       | nil=>cases h1
       | cons p ps=>cases bs with
        | nil=>cases h2
        | cons b bs=>
         obtain⟨a',b',v,y1,U,y3,_⟩:=h3 0 p rfl;have e1:a'=a:=by simpa using y1.symm
         have W:b'=b:=by simpa using U.symm
         subst e1 W;exact .cons ⟨[.ref b',v],y3,rfl⟩ (ih (by simpa using h1) (by simpa using h2) λj q hq=>h3 (j+1) q (by simpa using hq))
     exact this B an pI
    refine kat_kind (s:={s with heap:=h',toks:=tk}) (oK pr) (by rw[zao,an];lia) (λv hv=>?_) (by decide) q';obtain⟨b,Y,rfl⟩:=List.mem_map.mp hv;obtain⟨j,J⟩:=List.mem_iff_getElem?.mp Y;have lj:j<ps.length:=by rw[<- an];exact(List.getElem?_eq_some_iff.mp J).1
    obtain⟨a,b',v,_,U,_,N,⟨o,e1,W,_⟩,_⟩:=pI j _ (zaY lj);rw[J]at U;cases U;rw[<- W];exact(show Looks _ h' (typeOf (.ref b)) o.cls from(Looks.ld e1).andThen .now)
   ·refine R5 (by lia) (by lia) ?_
    obtain⟨x,b1,v1,M,_,x2⟩:=pI i _ (zaY hi);obtain⟨y,b2,v2,y1,_,U⟩:=pI j _ (zaY J);have ex:as.getD i 0=x:=by simp[zc3,M]
    have ey:as.getD j 0=y:=by simp[zc3,y1]
    rw[ex,ey];have a3:ps[i].1≠ps[j].1:=λz=>be (by
     have e1:(ps.map (·.1))[i]'(by rw[zao];exact hi)=(ps.map (·.1))[j]'(by rw[zao];exact J):=by simpa using z
     exact(zdi am).mp e1)
    refine EF (s:={s with heap:=h',toks:=tk}) x2 U a3 (by show X.A.units+1+1<cLine;lia) ?_;unfold U0 at hC;have k1:(ps.map (·.1)).getD i []=ps[i].1:=by simp[hi]
    have k2:(ps.map (·.1)).getD j []=ps[j].1:=by simp[J]
    rw[k1,k2]at hC;exact hC
end
theorem EA{prog:zam}{w:World}{A:zar}{E:Value->zab->Prop}{s:zab}{t z:Addr}{items:Array Value}{J M:Value}{lo hi:Option Int}{Q:Value->zab->Prop}(q:IsTup s.heap t items)(hs:s.heap.IsSliceOf z J M .none)(N:zbZ J lo)(Y:zbZ M hi)
  (hw:HT.sIx items.size 0 lo=0/\HT.sIx items.size items.size hi=items.size) (h:Q (.ref t) s):wpAny (model prog w) A (zb0 (.ref t) (.ref z)) Q E s:=by
 obtain⟨os,F,B,U⟩:=id hs;have W:s.TypeIs (.ref z) "slice" := ⟨os,F,B⟩;unfold zb0;try with_reducible refine zbm ?_
 first|refine zaa (zac ?_)|skip
 refine zaa (wpAny_sequenceKey q.typeIs (by decide) ?_);refine zaa (zbt (name:=za0 "__getitem__") q.typeIs zdZ (zba zdZ q.typeIs entry_tuple_getitem ?_ (args_tuple_getitem _ _)));show wpAny _ _ (Builtin.Tuple.tupleItemsOf (.ref t) >>= _) _ _ s;refine zaa (tupleItemsOf_ q (zaa (zcq W ?_)));rw[if_pos (by decide)];refine zaa (HT.eZ hs N Y ?_);have G:(((HT.sIx items.size 0 lo:Nat):Int) == 0 && (1:Int) == 1 && (HT.sIx items.size items.size hi-HT.sIx items.size 0 lo) == items.size)=true:=by
  rw[hw.1,hw.2];simp
 show wpAny _ _ (if(((HT.sIx items.size 0 lo:Nat):Int) == 0 && (1:Int) == 1 && (HT.sIx items.size items.size hi-HT.sIx items.size 0 lo) == items.size)=true then _ else _) _ _ s;rw[if_pos G];refine zaa (m:=Builtin.Tuple.tupleIsExact _) ?_;unfold Builtin.Tuple.tupleIsExact;refine zaa (zcq q.typeIs (zac ?_));rw[if_pos (by decide)];exact zaa (zbT (zac ⟨_,rfl,zac h⟩))
section
variable {X:Cx}
def W3(K:zaf):V->Option Int->Option Int->Hp->VK->Prop:=λx lo hi H Q=>∃a xs,x=.ref a/\SqT K H a xs/\(HT.sIx xs.length 0 lo=0/\HT.sIx xs.length xs.length hi=xs.length)/\Q (.ref a) H
theorem N2:SlR X (W3 X.K):=by
 intro pins s σ H x v W Y lo hi U Q I M hs G N h;obtain⟨a,xs,rfl,J,hw,q⟩:=h;cases M;obtain⟨B,r,F,hz⟩:=I.tuple J;have z:B.toArray.size=xs.length:=by rw[zaz];exact r.length.symm
 exact⟨"tuple",_,PyProof.Rows.slot_tuple_getitem.lookup,F.typeIs,EA F hs G N (by rw[z];exact hw) ⟨.ref a,H,I,rfl,q⟩⟩
theorem NN:SlR X (λx lo hi H Q=>XA X.K x lo hi H Q\/W3 X.K x lo hi H Q):=R9.or N2
end
theorem rA(x:ObjOk P w H h d (.dT kvs)):(d == zbi)=false/\kvs.length<=zaj/\∃es ep,RawD h d es ep/\es.size=kvs.length /\
  ∀(j:Nat) (p:List Key×V),kvs[j]?=some p->∃(e:zb3) (b:Addr),es[j]?=some e/\e.key=.ref b/\H b=some (.tup (p.1.map kV))/\RelV p.2 e.val/\e.hash=(za4 (aU P w)).hash p.1:=by
 obtain⟨z,y,xs,r,o,es,ep,h1,h2,M,F,Y⟩:=x;have hl:xs.length=kvs.length:=(zbX r).symm;have B:es.size=kvs.length:=by
  have:=congrArg zbP F;rw[zbj,zao]at this
  lia
 have get:∀ {kvs:List (List Key×V)} {xs:List (List Key×Addr×Value)},zaV (λ(p:List Key×V) (q:List Key×Addr×Value)=>p.1=q.1/\H q.2.1=some (.tup (p.1.map kV))/\RelV p.2 q.2.2) kvs xs->
   ∀(j:Nat) (p:List Key×V),kvs[j]?=some p->∃q,xs[j]?=some q/\p.1=q.1/\H q.2.1=some (.tup (p.1.map kV))/\RelV p.2 q.2.2:=by
  intro kvs xs r;induction r with
  | nil=>intro j p e;simp at e
  | cons h t ih=>
   intro j p e;cases j with
   | zero=>simp at e;subst e;exact⟨_,rfl,h⟩
   | succ j=>exact ih j p (by simpa using e)
 refine⟨y,z,es,ep,⟨o,h1,h2,M⟩,B,λj p e=>?_⟩;obtain⟨q,W,G,N,J⟩:=get r j p e;have U:es[j]?=some (entryOfKey (za4 (aU P w)) q):=by
  rw[<- zdy,F,zaB,W];rfl
 exact⟨_,q.2.1,U,rfl,N,J,by show(za4 (aU P w)).hash q.1=_;rw[G]⟩
def XT(d:Addr)(o:Obj)(kvs:List (List Key×V)):It:=
 ⟨λi H=>H d=some (.frz o (.dT kvs))/\i<kvs.length,λi H x H'=>H'=H/\∃k v b,kvs[i]?=some (k,v)/\x=.ref b/\H b=some (.tup (k.map kV)),λi H=>H d=some (.frz o (.dT kvs))/\kvs.length<=i⟩
theorem EJ{P:zam}{w:World}{K:zaf}{tg:Expr}(d it:Addr)(o:Obj)(kvs:List (List Key×V))(es:Array zb3)(ep:Nat)(W:o.data=.dict es ep)(as:es.size=kvs.length):Turn P w K tg (XT d o kvs) [it] it (λi h=>h.IsKeyIter it d i es.size ep) where
 mem:=by simp
 obj:=λi h st b B=>by
  have e:b=it:=by simpa using B
  subst e;obtain⟨o,N,e2,e3⟩:=st;exact⟨o,N,λv z=>by rw[e3]at z;cases z⟩
 keep:=λi h h' st k=>st.at λo e=>k it (by simp) o e
 item:=by
  intro X hP hw hK hc i pins s σ H E I U st hg;subst hP hw hK;obtain⟨h1,h2⟩:=hg;obtain⟨F,g2⟩:=(show ObjOk X.prog X.w H s.heap d (.frz o (.dT kvs))from I.hok d _ h1);obtain⟨_,_,aa,ai,⟨o',M,r2,r3⟩,G,q⟩:=rA g2;rw[F]at M;cases M;rw[W]at r3;injection r3 with r4 r5
  subst r4 r5;obtain⟨f0,f1,f2,f3,Y,f5⟩:=U it (by simp);have hi:i<es.size:=by lia
  refine HR st ⟨o,F,r2,W⟩ hi λh' J sb=>?_
  have I1:Inv X pins σ H {s with heap:=h'}:=I.turned (t':=s.toks) (λb o B e=>(sb.2 b B).trans e) f0 f1 f3 Y f5;obtain⟨e,b,N,e2,e3,_⟩:=q i _ (zaY h2);have ee:es[i]=e:=by
   rw[zfb hi]at N;exact zaI N
  obtain⟨o2,q1,q2,q3⟩:=id J;refine⟨_,rfl,rN (s:={s with heap:=h'}) (n := "dict_keyiterator") q1 q2 q3 (by decide) ⟨.ref b,H,I1,?_,⟨rfl,kvs[i].1,kvs[i].2,b,zaY h2,rfl,e3⟩,J,λc B=>(U c B).1⟩⟩;rw[ee,e2];rfl
 done:=by
  intro X hP hw hK hc i pins s σ H E I U st hg;subst hP hw hK;obtain⟨h1,h2⟩:=hg;obtain⟨F,g2⟩:=(show ObjOk X.prog X.w H s.heap d (.frz o (.dT kvs))from I.hok d _ h1);obtain⟨_,_,aa,ai,⟨o',M,r2,r3⟩,G,q⟩:=rA g2;rw[F]at M;cases M;obtain⟨f0,f1,f2,f3,Y,f5⟩:=U it (by simp);exact MC (I.ok.hd hc) st ⟨o,F,r2,W⟩ (by lia) λh' eb=>⟨rfl,I.turned (t':=s.toks) (λb o B e=>eb b o B e) f0 f1 f3 Y f5⟩
 self:=λ_ _ _ _ _ st h=>wpAny_pyIter_keyiter st h
theorem zC(I:Inv X pins σ H s)(B:H d=some (.dT kvs))(G:s.heap.get? d=some o):Inv X pins σ (upd H d (.frz o (.dT kvs))) s:=by
 have ne:∀b u,H b=some u->(∀z,u≠.dT z)->b≠d:=λb u e n z=>by
  subst z;rw[B]at e;exact n kvs (zaI e).symm
 have J:=I.un (h':=s.heap) (t':=s.toks) (H':=upd H d (.frz o (.dT kvs))) ⟨λb u q _ _ _=>q,λb u q _ _ _=>⟨u.slots,q⟩,λb u q n _=>by rw[aE (λz=>by rw[z,B]at n;cases n)];exact n,λb u q _=>⟨u,q⟩,
  λb xs q=>by rw[aE (ne b _ q (λz h=>by cases h))];exact q,λb u xs q=>by rw[aE (ne b _ q (λz h=>by cases h))];exact q,λb ps q=>⟨#[],by rw[aE (ne b _ q (λz h=>by cases h)),q];simp⟩⟩ (λb u e=>?_)
 ·exact J
 ·have st:∀ {b:Addr} {u:HO},ObjOk X.prog X.w H s.heap b u->ObjOk X.prog X.w (upd H d (.frz o (.dT kvs))) s.heap b u:=λx=>x.stay (λ_ _ _ q=>q) (λc q=>by rw[aE (ne c _ q (λz h=>by cases h))];exact q) λc xs q=>by rw[aE (ne c _ q (λz h=>by cases h))];exact q
  by_cases F:b=d
  ·subst F
   rw[aI]at e;cases e;exact⟨G,st (I.hok b _ B)⟩
  ·rw[aE F]at e
   exact st (I.hok b u e)
section
variable {X:Cx}{tg:Expr}
end
theorem FU{M:Model}{A:zar}{E:Value->zab->Prop}{s:zab}{b:Addr}{Q:Bool->zab->Prop}{prog:zam}{w:World}(hT:s.TypeIs (.ref b) "tuple")(h:Q false s):wpAny (model prog w) A (Builtin.Dict.quietEq (.ref b)) Q E s:=by
 unfold Builtin.Dict.quietEq;exact zaa (ze5 hT PySem.F.slot_tuple_eq.lookup (zac h))
theorem IU{prog:zam}{w:World}{A:zar}{E:Value->zab->Prop}{s:zab}{d:Addr}{es:Array zb3}{ep:Nat}{Q:Value->zab->Prop}(lo:(d == zbi)=false)(N:RawD s.heap d es ep)(hsz:es.size<=zaj)
  (B:∀e∈es.toList,∃b,e.key=.ref b/\s.TypeIs (.ref b) "tuple") (hh:∀e∈es.toList,(es.filter (·.hash == e.hash)).size<=1)
  (h:∀h' ae,RawD h' s.heap.objs.size es ae->zaS s.heap.objs.size (s.heap.push {cls:=.type "dict",data:=.dict #[]}) h'->Q (.ref s.heap.objs.size) {s with heap:=h'}):wpAny (model prog w) A (call (.type "dict") [.ref d]) Q E s:=by
 refine callType_codes (Q₁:=λU G=>U=.ref s.heap.objs.size/\G={s with heap:=s.heap.push {cls:=.type "dict",data:=.dict #[]} }) PySem.F.kt_called_dict (PySem.F.kt_typeCall_dict_1 _) PySem.F.entry_dict_init (kt_code_dict_new _ ⟨rfl,rfl⟩) ?_;rintro U G ⟨rfl,rfl⟩;have J:(s.heap.push {cls:=.type "dict",data:=.dict #[]}).get? s.heap.objs.size=some {cls:=.type "dict",data:=.dict #[]}:=zat _ rfl;have r2:RawD (s.heap.push {cls:=.type "dict",data:=.dict #[]}) d es ep:=N.at' λo e=>zag _ e
 have t1:zej {s with heap:=s.heap.push {cls:=.type "dict",data:=.dict #[]} } (.ref s.heap.objs.size) "dict" := ⟨_,J,rfl⟩;have t2:zej {s with heap:=s.heap.push {cls:=.type "dict",data:=.dict #[]} } (.ref d) "dict" := r2.typ;have ag:s.heap.objs.size≠d:=by
  obtain⟨o,e,_⟩:=N;exact λz=>absurd (zai e) (by rw[z];exact zbc _)
 refine⟨t1,PySem.F.args_dict_init_2 _ _,?_⟩;unfold za9.«dict.__init__»;refine zaa ?_;unfold Builtin.Dict.selfAndRest;refine zaa (zd9 t1 ?_);show wpAny _ _ (pure (s.heap.objs.size,[zal d])) _ _ _;refine zac ?_;show wpAny _ _ (zem "dict.__init__" s.heap.objs.size (.ref d) [] .none) _ _ _;unfold zem;refine zaa (zcq t2 ?_);rw[if_neg (by decide)];refine zaa ?_;unfold Builtin.Dict.merge;refine zaa ?_;unfold Builtin.Dict.readDirectly;refine zaa (zc8 t2 isSubtype_dict_dict ?_);simp only[Bool.not_true,zb6,if_false];refine zaa (ze5 t2 PySem.F.slot_dict_iter.lookup (zac ?_));simp only[beq_self_eq_true,if_true];refine zaa (zac ?_);obtain⟨o,W,g2,Y⟩:=r2;unfold Builtin.Dict.mergeDict;rw[if_neg (by simpa using ag)];unfold zdr;rw[if_neg (by rw[lo];exact zau)];refine zaa (zac (zaa (zb4 W Y ?_)));dsimp only;by_cases z:es.size=0
 ·have z':es=#[]:=Array.eq_empty_of_size_eq_zero z
  subst z';rw[if_neg (by simp)];refine zaa (zcP W Y (zaa (zb4 W Y ?_)));rw[Std.Legacy.Range.forIn_eq_forIn_range'];refine zaa (zac (zac (zaa (zac (zac ⟨rfl,?_⟩)))));exact h _ _ ⟨_,J,⟨rfl,rfl,rfl⟩,rfl⟩ (zfd _ _)
 ·have af:(!(decide (es.size<=8) && es.all λe=>(keyPart e.key).isSome))=true:=by
   have:(es.all λe=>(keyPart e.key).isSome)=false:=by
    rw[zc2];intro q;rw[Array.all_eq_true']at q;obtain⟨b,e1,_⟩:=B (es[0]'(by lia)) (by simp);have:=q (es[0]'(by lia)) (by simp);rw[e1]at this;exact absurd this (by simp[keyPart])
   rw[this];simp
  rw[if_pos af];refine zaa (zb4 J rfl ?_);rw[if_pos (by rfl)];refine zaa ?_;unfold Builtin.Dict.entriesForEmpty;refine zaa (zb4 W Y ?_);rw[<- Array.forIn_toList];refine zaa (zeV _ (λrest _ s'=>s'={s with heap:=s.heap.push {cls:=.type "dict",data:=.dict #[]} }/\∀e∈rest,e∈es.toList) _ ?_ ?_ _ _ ⟨rfl,λe he=>he⟩)
  ·rintro e rest b s' ⟨rfl,hm⟩
   have he:=hm e (zas ..);obtain⟨b',e1,⟨o',e2,e3⟩⟩:=B e he;rw[e1];refine zaa (FU (M:=model prog w) ⟨o',zag _ e2,e3⟩ ?_);simp only[Bool.not_false,if_true];rw[if_neg (by have:=hh e he;lia)];exact zac ⟨rfl,λe' ac=>hm e' (zav _ ac)⟩
  ·rintro b s' ⟨rfl,_⟩
   refine zac ?_;have ne:(!es.isEmpty)=true:=by
    cases q:es.isEmpty with
    | false=>rfl
    | true=>exact absurd (by rw[Array.isEmpty_iff.mp q];rfl) z
   rw[if_pos ne];refine zaa (wpAny_updateDictKeysTo J rfl (zac (zaa (zac (zac ⟨rfl,?_⟩)))) (by lia));exact h _ _ ⟨_,zbR _ J rfl,⟨rfl,rfl,rfl⟩,rfl⟩ (zci ..)
theorem oQ{q:Type}{f:q->Int}{c:Int}:∀(l:List q),(l.map f).Nodup->(l.filter λx=>f x == c).length<=1
 | [],_=>by simp
 | x::l,h=>by
  rw[zak,zdA]at h;have ih:=oQ (c:=c) l h.2;rw[zd4];by_cases e:(f x == c)=true
  ·rw[if_pos e]
   have ex:f x=c:=by simpa using e
   have:l.filter (λx=>f x == c)=[]:=by
    rw[List.filter_eq_nil_iff];intro y z B;exact h.1 (List.mem_map.mpr ⟨y,z,by rw[ex];simpa using B⟩)
   rw[this];simp
  ·rw[if_neg e]
   exact ih
section
variable {X:Cx}
theorem zH:CallR X (.type "dict") (λxs H Q=>∃d kvs,xs=[.ref d]/\Rd H d (.dT kvs)/\(kvs.map λp=>(za4 (aU X.prog X.w)).hash p.1).Nodup/\∀p,H p=none->Q (.ref p) (upd H p (.dT kvs))):=by
 intro pins s σ H xs us Q I r h;obtain⟨d,kvs,rfl,hd,U,q⟩:=h;obtain⟨u,rfl,ru⟩:=vals1 r;cases ru;obtain⟨z,y,xs,B,o,es,ep,h1,h2,h3,M,h5⟩:=(show ObjOk X.prog X.w H s.heap d (.dT kvs)from hd.ok I.hok);have ae:es.size=kvs.length:=by
  have:=congrArg zbP M;rw[zbj,zao]at this;have e:=zbX B
  lia
 have F:es.toList.map (·.hash)=kvs.map λp=>(za4 (aU X.prog X.w)).hash p.1:=by
  rw[M,zaQ];have:∀ {kvs:List (List Key×V)} {xs:List (List Key×Addr×Value)},zaV (λ(p:List Key×V) (q:List Key×Addr×Value)=>p.1=q.1/\H q.2.1=some (.tup (p.1.map kV))/\RelV p.2 q.2.2) kvs xs->
    xs.map ((·.hash) ∘ entryOfKey (za4 (aU X.prog X.w)))=kvs.map λp=>(za4 (aU X.prog X.w)).hash p.1:=by
   intro kvs xs r;induction r with
   | nil=>rfl
   | cons h t ih=>rw[zak,zak,ih,h.1];rfl
  exact this B
 have tup:∀ {kvs:List (List Key×V)} {xs:List (List Key×Addr×Value)},zaV (λ(p:List Key×V) (q:List Key×Addr×Value)=>p.1=q.1/\H q.2.1=some (.tup (p.1.map kV))/\RelV p.2 q.2.2) kvs xs->∀x∈xs,∃k:List V,H x.2.1=some (.tup k):=by
  intro kvs xs r;induction r with
  | nil=>intro x J;exact nomatch J
  | cons h t ih=>
   intro x J;rcases List.mem_cons.mp J with e|e
   ·rw[e];exact⟨_,h.2.1⟩
   ·exact ih x e
 refine IU y ⟨o,h1,h2,h3⟩ (by lia) (λe he=>?_) (λe he=>?_) λh' Y G sb=>?_
 ·rw[M]at he
  obtain⟨x,J,rfl⟩:=List.mem_map.mp he;obtain⟨k,hk⟩:=tup B x J;obtain⟨af,_,⟨ob,W,N,_⟩,_⟩:=I.tuple (SqT.of hk);exact⟨x.2.1,rfl,ob,W,N⟩
 ·have:=oQ (f:=(·.hash)) (c:=e.hash) es.toList (by rw[F];exact U)
  rw[<- zbj,Array.toList_filter];exact this
 ·have hn:H s.heap.objs.size=none:=I.fresh
  obtain⟨o',W,N,e3⟩:=G;refine⟨.ref s.heap.objs.size,_,I.laid (t':=s.toks) (o:=.dT kvs) (λb ob q=>(sb.2 b (zay (zai q))).trans (zag _ q)) (zan _) ⟨z,beq_eq_false_iff_ne.mpr (zaR (zay I.big)),xs,?_,o',es,Y,W,N,e3,M,h5⟩,rfl,q _ hn⟩;exact Paired.mapP B λp q z=>⟨z.1,by rw[aE (aQ z.2.1 hn)];exact z.2.1,z.2.2⟩
end
end My
namespace My
open PySem PySem.Spec PyProof.Rows L2 PySem.SeqAt
abbrev Tm:=List Int×Int
def kJ(t:Tm):List Key×V:=(t.1.map zap,.int t.2)
def look(cs:List Tm)(k:List Int):Option Int:=(cs.find? λt=>decide (t.1=k)).map (·.2)
def put(cs:List Tm)(k:List Int)(c:Int):List Tm:=if(cs.any λt=>decide (t.1=k))=true then cs.map (λt=>if t.1=k then(t.1,c)else t)else cs++[(k,c)]
theorem iN{a b:List Int}:(a.map (zap:Int->Key)=b.map zap)↔a=b:=by
 constructor
 ·intro h
  induction a generalizing b with
  | nil=>cases b with
   | nil=>rfl
   | cons _ _=>cases h
  | cons x xs ih=>cases b with
   | nil=>cases h
   | cons y ys=>
    rw[zak,zak]at h;injection h with h1 h2
    injection h1 with h1
    rw[h1,ih h2]
 ·intro h;rw[h]
theorem u3(cs:List Tm)(k:List Int)(c:Int):(put cs k c).length<=cs.length+1:=by
 unfold put;split
 ·rw[zao];lia
 ·rw[zbk];simp
theorem IT:∀t∈put cs k c,t.1=k\/∃u∈cs,u.1=t.1:=by
 intro t q;unfold put at q;split at q
 ·obtain⟨u,B,e⟩:=List.mem_map.mp q
  split at e
  ·rename_i z;subst e;exact .inl z
  ·subst e;exact .inr ⟨u,B,rfl⟩
 ·rcases List.mem_append.mp q with h|h
  ·exact .inr ⟨t,h,rfl⟩
  ·rw[List.mem_singleton.mp h];exact .inl rfl
theorem k8(h:(cs.map (·.1)).Nodup):((put cs k c).map (·.1)).Nodup:=by
 unfold put;split
 ·rw[zaQ]
  have:((·.1) ∘ λt:Tm=>if t.1=k then(t.1,c)else t)=(·.1):=by
   funext t;show(if t.1=k then(t.1,c)else t).1=t.1;split <;> rfl
  rw[this];exact h
 ·rename_i z
  rw[zbv];refine L2.C1 h λq=>z ?_
  obtain⟨t,B,e⟩:=List.mem_map.mp q;exact List.any_eq_true.mpr ⟨t,B,decide_eq_true e⟩
def k4(cs:List Tm)(t:Tm):List Tm:=put cs t.1 ((look cs t.1).getD 0+t.2)
def bS(ts:List Tm):List Tm:=ts.foldl k4 []
theorem EW(ts:List Tm)(t:Tm):bS (ts++[t])=k4 (bS ts) t:=by
 unfold bS;rw[zff];rfl
theorem jP:∀(ts:List Tm),(bS ts).length<=ts.length/\((bS ts).map (·.1)).Nodup/\∀t∈bS ts,∃u∈ts,u.1=t.1:=by
 intro ts;have F:∀(ts:List Tm) (cs:List Tm),(cs.map (·.1)).Nodup->(ts.foldl k4 cs).length<=cs.length+ts.length/\((ts.foldl k4 cs).map (·.1)).Nodup/\∀t∈ts.foldl k4 cs,(∃u∈ts,u.1=t.1)\/∃u∈cs,u.1=t.1:=by
  intro ts;induction ts with
  | nil=>intro cs h;exact⟨by simp,h,λt B=>.inr ⟨t,B,rfl⟩⟩
  | cons x ts ih=>
   intro cs h;obtain⟨a,b,c⟩:=ih (k4 cs x) (k8 h);refine⟨?_,b,λt B=>?_⟩
   ·have:=u3 cs x.1 ((look cs x.1).getD 0+x.2)
    rw[zcK,zaT];unfold k4 at *
    lia
   ·rcases c t B with⟨u,q,e⟩|⟨u,q,e⟩
    ·exact .inl ⟨u,zav _ q,e⟩
    ·rcases IT u q with z|⟨v,G,z⟩
     ·exact .inl ⟨x,zas ..,z.symm.trans e⟩
     ·exact .inr ⟨v,G,z.trans e⟩
 obtain⟨a,b,c⟩:=F ts [] zc0;refine⟨by have:=a;simpa[bS]using this,b,λt B=>?_⟩;rcases c t B with h|⟨u,q,_⟩
 ·exact h
 ·cases q
def bW(M:Int)(q:List Tm):List Tm:=(q.filter λt=>decide (t.2%M≠0)).map λt=>(t.1,t.2%M)
def TS(H H':Hp):Prop:=∀b xs,H b=some (.tup xs)->H' b=some (.tup xs)
theorem Same.ts(e:Same H H'):TS H H':=λb xs h=>e b _ h
theorem TS.trans(a:TS H H1)(b:TS H1 H2):TS H H2:=λc xs h=>b c xs (a c xs h)
theorem TS.put(h:H l=some u)(n:∀xs,u≠.tup xs):TS H (upd H l o):=λb xs q=>by
 rw[aE (λz=>by subst z;rw[h]at q;exact n xs (zaI q))];exact q
noncomputable def hT(ns:List Int):Int:=reduceHash (Builtin.Tuple.tupleHashOf (ns.map hashInt))
theorem N4(P:zam)(w:World)(ns:List Int):(za4 (aU P w)).hash (ns.map zap)=hT ns:=by
 show reduceHash (Builtin.Tuple.tupleHashOf ((ns.map zap).map (aU P w).hash))=_;rw[zaQ];rfl
noncomputable def AO:List (List Int):=[[0],[1],[2],[3],[4],[5],[6],[7],[8]]
noncomputable def KA:List (List Int):=([0,1,2,3,4,5,6,7,8]:List Int).flatMap λi=>([0,1,2,3,4,5,6,7,8]:List Int).map λj=>[i,j]
theorem zR:((AO++KA).map hT).Nodup:=by decide +kernel
theorem iW{q B:Type}{f:q->B}:∀ {l:List q},(l.map f).Nodup->∀ {a b:q},a∈l->b∈l->f a=f b->a=b
 | [],_,a,b,ha,_,_=>by cases ha
 | x::l,h,a,b,ha,hb,e=>by
  rw[zak,zdA]at h;rcases List.mem_cons.mp ha with z|z <;> rcases List.mem_cons.mp hb with y|y
  ·rw[z,y]
  ·subst z;exact absurd (List.mem_map.mpr ⟨b,y,e.symm⟩) h.1
  ·subst y;exact absurd (List.mem_map.mpr ⟨a,z,e⟩) h.1
  ·exact iW h.2 z y e
def vM(k:List Int):Prop:=(k.length=1\/k.length=2)/\∀e∈k,0<=e/\e<=8
theorem tI(h:vM k):k∈AO++KA:=by
 obtain⟨F,q⟩:=h;have B:∀e:Int,0<=e->e<=8->e∈([0,1,2,3,4,5,6,7,8]:List Int):=λe h1 h2=>by
  have:e=0\/e=1\/e=2\/e=3\/e=4\/e=5\/e=6\/e=7\/e=8:=by lia
  rcases this with z|z|z|z|z|z|z|z|z <;> (rw[z];decide)
 match k,F,q with
 | [x],_,q=>
  have d:=B x (q x (by simp)).1 (q x (by simp)).2;refine zdh _ ?_;have:AO=([0,1,2,3,4,5,6,7,8]:List Int).map λi=>[i]:=rfl
  rw[this];exact List.mem_map.mpr ⟨x,d,rfl⟩
 | [x,y],_,q=>
  refine zbF _ (List.mem_flatMap.mpr ⟨x,B x (q x (by simp)).1 (q x (by simp)).2,List.mem_map.mpr ⟨y,B y (q y (by simp)).1 (q y (by simp)).2,rfl⟩⟩)
 | [],F,_=>simp at F
 | _::_::_::_,F,_=>simp at F
theorem AM(P:zam)(w:World){cs:List Tm}(F:(cs.map (·.1)).Nodup)(hs:∀t∈cs,vM t.1):((cs.map kJ).map λp=>(za4 (aU P w)).hash p.1).Nodup:=by
 have e:((cs.map kJ).map λp=>(za4 (aU P w)).hash p.1)=(cs.map (·.1)).map hT:=by
  rw[zaQ,zaQ];congr 1;funext t;exact N4 P w t.1
 rw[e];have:∀ {l:List (List Int)},l.Nodup->(∀k∈l,vM k)->(l.map hT).Nodup:=by
  intro l;induction l with
  | nil=>intro _ _;exact zc0
  | cons x l ih=>
   intro h1 h2;rw[zdA]at h1;rw[zak,zdA];refine⟨λG=>?_,ih h1.2 λk q=>h2 k (zav _ q)⟩;obtain⟨y,z,e⟩:=List.mem_map.mp G;have:=iW zR (tI (h2 y (zav _ z))) (tI (h2 x (zas ..))) e;exact h1.1 (this ▸ z)
 refine this F λk q=>?_
 obtain⟨t,B,rfl⟩:=List.mem_map.mp q;exact hs t B
end My
namespace My
open PySem PySem.Spec PyProof.Rows L2
noncomputable def qm(t:Bool):String:=if t=true then "tuple_iterator" else "list_iterator"
noncomputable def qp(t:Bool):String:=if t=true then "tuple" else "list"
def SIt(t:Bool)(h:Heap)(i l:Addr)(k:Nat):Prop:=∃o,h.get? i=some o/\o.cls=.type (qm t)/\o.data=.fields #[.ref l,.int k 0]
def SSq(t:Bool)(h:Heap)(l:Addr)(xs:Array Value):Prop:=∃o,h.get? l=some o/\o.cls=.type (qp t)/\∃n,o.data=.seq xs n
theorem SIt.to(x:SIt t h i l k)(e:∀o,h.get? i=some o->h'.get? i=some o):SIt t h' i l k:=let ⟨o,ho,r⟩:=x;⟨o,e o ho,r⟩
theorem SSq.to(x:SSq t h l xs)(e:∀o,h.get? l=some o->h'.get? l=some o):SSq t h' l xs:=let ⟨o,ho,r⟩:=x;⟨o,e o ho,r⟩
section
variable {prog:zam}{w:World}{A:zar}{E:Value->zab->Prop}{s:zab}
theorem next_item(z:SIt t s.heap it l i)(N:SSq t s.heap l xs)(M:xs[i]?=some x)
  (U:∀h',SIt t h' it l (i+1)->zaS it s.heap h'->Q x {s with heap:=h'}):wpAny (model prog w) A (zbw (.ref it)) Q E s:=by
 cases t with
 | false=>exact wpAny_nextOf_list_item (it:=it) (l:=l) (items:=xs) z N M U
 | true=>
  have q:s.heap.IsTupleIter it l i:=z;obtain⟨o,F,W,B⟩:=z;obtain⟨Y,G,_,nl,J⟩:=N;unfold zbw;refine zaa (zbt (name:=za0 "__next__") q.typeIs zen (zba zen q.typeIs zfv ?_ (zfw _)));show wpAny _ _ (field (.ref it) 0 >>= _) _ _ _;refine zaa (zaC F B (x:=.ref l) rfl ?_);show wpAny _ _ (if(zal l == zaL)=true then _ else _) _ _ _;rw[if_neg (show ¬ ((zal l == zaL)=true)from zau)];show wpAny _ _ (field (.ref it) 1 >>= _) _ _ _;refine zaa (zaC F B (x:=.int i 0) rfl ?_);show wpAny _ _ (zdB (.ref l) >>= _) _ _ _;refine zaa (za5 G J ?_);simp only[zb7,M];refine zaa (zdt F B (by simp) (zac ⟨x,rfl,zac (U _ ⟨_,zbR _ F (Obj.isFreed_of_fields (zee B _)),(Obj.cls_mapFields ..).trans W,by rw[zee B];simp[zaN]⟩ (zci ..))⟩))
theorem next_end(J:A.handled=none)(z:SIt t s.heap it l i)(W:SSq t s.heap l xs)(N:xs[i]?=none)
  (U:∀h' e,zdu it s.heap h'->(∃o,h'.get? e=some o/\o.cls=.type "StopIteration")->E (.ref e) {s with heap:=h'}):wpAny (model prog w) A (zbw (.ref it)) Q E s:=by
 cases t with
 | false=>exact wpAny_nextOf_list_end (it:=it) (l:=l) (items:=xs) J z W N U
 | true=>
  have q:s.heap.IsTupleIter it l i:=z;obtain⟨o,B,hc,F⟩:=z;obtain⟨Y,G,_,nl,M⟩:=W;unfold zbw;refine zaa (zbt (name:=za0 "__next__") q.typeIs zen (zba zen q.typeIs zfv ?_ (zfw _)));show wpAny _ _ (field (.ref it) 0 >>= _) _ _ _;refine zaa (zaC B F (x:=.ref l) rfl ?_);show wpAny _ _ (if(zal l == zaL)=true then _ else _) _ _ _;rw[if_neg (show ¬ ((zal l == zaL)=true)from zau)];show wpAny _ _ (field (.ref it) 1 >>= _) _ _ _;refine zaa (zaC B F (x:=.int i 0) rfl ?_);show wpAny _ _ (zdB (.ref l) >>= _) _ _ _;refine zaa (za5 G M ?_);simp only[zb7,N];refine zaa (zbT (zaa (zdt B F (by simp) ?_)));show wpAny _ _ (newExc (.type "StopIteration") [] >>= _) _ _ _;refine zaa ?_;simp only[newExc,newTuple];refine zaa (zbo ?_ (by size_fits));refine zaa (m:=zc7 _ _) (zdv (a:=zaL) (by first|rfl|(simp only[zc7];rfl)) ?_);refine zbo ?_ (by size_fits);simp only[raiseNew]
  refine zaa (wpAny_handled ?_);first|rw[show A.in1.handled=none from J]|rw[J]
  refine zaa (zac (wpAny_throw ?_));exact U _ _ (((zci ..).extBut.push _).push _) ⟨_,zat _ rfl,rfl⟩
structure ZA(z TI TO i1 i2 l1 l2:Addr):Prop where
 z1:TI≠z
 z2:TO≠z
 z3:i1≠z
 z4:i2≠z
 z5:TI≠TO
 z6:TI≠i1
 z7:TI≠i2
 z8:TO≠i1
 z9:TO≠i2
 za:i1≠i2
 zb:l1≠z/\l1≠TO/\l1≠i1/\l1≠i2
 zc:l2≠z/\l2≠TO/\l2≠i1/\l2≠i2
theorem IS{t1 t2:Bool}{z TI TO J M l1 l2:Addr}{k1 k2:Nat}{xs ys:Array Value}{x y a b:Value}{Q:Option Value->zab->Prop}(D:ZA z TI TO J M l1 l2)
  (hz:IsZip s.heap z TI TO .none) (a3:zbh s.heap TI (.ref J) (.ref M)) (a1:zbh s.heap TO a b) (h1:SIt t1 s.heap J l1 k1) (h2:SIt t2 s.heap M l2 k2) (ar:SSq t1 s.heap l1 xs) (az:SSq t2 s.heap l2 ys) (hx:xs[k1]?=some x) (hy:ys[k2]?=some y)
  (hQ:∀h',IsZip h' z TI TO (zaN s.heap.objs.size)->zbh h' TO x y->SIt t1 h' J l1 (k1+1)->SIt t2 h' M l2 (k2+1)->zbh h' s.heap.objs.size x y->h'.objs.size=s.heap.objs.size+1->(∀c o,c≠z->c≠TO->c≠J->c≠M->s.heap.get? c=some o->h'.get? c=some o)->Q (some (.ref s.heap.objs.size)) {s with heap:=h'}) :
  wpAny (model prog w) A (zaH (.ref z)) Q E s:=by
 have hT:s.TypeIs (.ref z) "zip" := ⟨_,hz,rfl⟩;unfold zaH;refine zaa (zb5 (zbt (name:=za0 "__next__") hT zcu (zba zcu hT zeo ?_ (zep _))));show wpAny _ _ (field (.ref z) 2 >>= _) _ _ s;refine zaa (zaC hz rfl (x:=.bool false) rfl ?_);show wpAny _ _ (field (.ref z) 3 >>= _) _ _ s;refine zaa (zaC hz rfl (x:=.ref TI) rfl (zaa (za5 a3 rfl ?_)));show wpAny _ _ (zb8 (.ref z) >>= _) _ _ s;refine zaa ?_;unfold zb8;refine zaa (zaC hz rfl (x:=.none) rfl (zac ?_));simp only[if_true];refine zaa (zbT (zaa (zaC hz rfl (x:=.ref TO) rfl (zaa (zaZ hz (by simp) λha Y sa=>?_)))));replace Y:IsZip ha z TI TO .ellipsis:=Y;refine zaa ?_;simp only[zeq,zer,zdC,zes];refine zaa (zaa (zb9 ?_));show wpAny _ _ (zbw (.ref J) >>= _) _ _ {s with heap:=ha};have ea:=sa.extBut;refine zaa (next_item (t:=t1) (xs:=xs) (h1.to λo e=>ea _ _ D.z3 e) (ar.to λo e=>ea _ _ D.zb.1 e) hx λhb ay sb=>zac ?_);have eb:=sb.extBut;have U:zbh hb TO a b:=eb _ _ D.z8 (ea _ _ D.z2 a1);refine zaa (za5 U rfl (zaa (zfg U λhc F sc=>?_)));replace F:zbh hc TO x b:=F;have ec:=sc.extBut;refine zaa (zbu (zac ?_));refine zaa (zaa (zb9 ?_));show wpAny _ _ (zbw (.ref M) >>= _) _ _ {s with heap:=hc};refine zaa (next_item (t:=t2) (xs:=ys) (h2.to λo e=>ec _ _ D.z9.symm (eb _ _ D.za.symm (ea _ _ D.z4 e))) (az.to λo e=>ec _ _ D.zc.2.1 (eb _ _ D.zc.2.2.1 (ea _ _ D.zc.1 e))) hy λhd au sd=>zac ?_);have ed:=sd.extBut;have N:zbh hd TO x b:=ed _ _ D.z9 F;refine zaa (za5 N rfl (zaa (zfg N λq B se=>?_)));replace B:zbh q TO x y:=B;have ee:=se.extBut;refine zaa (zbu (zac (zac ?_)));refine zaa (za5 B rfl (zaa (zc9 ?_)));have hsz:q.objs.size=s.heap.objs.size:=by rw[se.1,sd.1,sc.1,sb.1,sa.1]
 have af:IsZip q z TI TO .ellipsis:=ee _ _ D.z2.symm (ed _ _ D.z4.symm (ec _ _ D.z2.symm (eb _ _ D.z3.symm Y)));have ax:∀c o,c≠z->c≠TO->c≠J->c≠M->s.heap.get? c=some o->q.get? c=some o:=λc o W c2 c3 c4 e=>ee _ _ c2 (ed _ _ c4 (ec _ _ c2 (eb _ _ c3 (ea _ _ W e))))
 have a0:SIt t1 q J l1 (k1+1):=ay.to λo e=>ee _ _ D.z8.symm (ed _ _ D.za (ec _ _ D.z8.symm e))
 have a5:SIt t2 q M l2 (k2+1):=au.to λo e=>ee _ _ D.z9.symm e
 have ak:z<q.objs.size:=zai af;show wpAny _ _ (zda (.ref z) (.ref q.objs.size) >>= _) _ _ _;refine zaa ?_;unfold zda;have aw:IsZip (q.push {cls:=.type "tuple",data:=.seq #[x,y]}) z TI TO .ellipsis:=zag _ af;refine zaa (zaZ aw (by simp) λhg aa sg=>?_);replace aa:IsZip hg z TI TO (zaN q.objs.size):=aa;refine zaZ aa (by simp) λhi G si=>?_;replace G:IsZip hi z TI TO (zaN q.objs.size):=G
 have up:∀c o,c≠z->q.get? c=some o->hi.get? c=some o:=λc o W e=>si.extBut _ _ W (sg.extBut _ _ W (zag _ e))
 have ac:zbh hi q.objs.size x y:=si.extBut _ _ (zaG ak) (sg.extBut _ _ (zaG ak) (zat _ rfl));have ae:hi.objs.size=q.objs.size+1:=by rw[si.1,sg.1,zbl]
 rw[hsz]at G ac ae;refine zac ⟨_,rfl,zac ?_⟩;show Q (some (.ref q.objs.size)) _;rw[hsz];exact hQ hi G (up _ _ D.z2 B) (a0.to λo e=>up _ o D.z3 e) (a5.to λo e=>up _ o D.z4 e) ac ae λc o W c2 c3 c4 e=>up c o W (ax c o W c2 c3 c4 e)
theorem GH{t1 t2:Bool}{z TI TO N U l1 l2:Addr}{k1 k2:Nat}{xs ys:Array Value}{a b:Value}{Q:Option Value->zab->Prop}(hh:A.handled=none)(D:ZA z TI TO N U l1 l2)
  (hz:IsZip s.heap z TI TO .none) (as:zbh s.heap TI (.ref N) (.ref U)) (ao:zbh s.heap TO a b) (h1:SIt t1 s.heap N l1 k1) (h2:SIt t2 s.heap U l2 k2) (W:SSq t1 s.heap l1 xs) (al:SSq t2 s.heap l2 ys) (af:xs[k1]?=none\/ys[k2]?=none)
  (hQ:∀h',(∀c o,c≠z->c≠TO->c≠N->c≠U->s.heap.get? c=some o->h'.get? c=some o)->Q none {s with heap:=h'}):wpAny (model prog w) A (zaH (.ref z)) Q E s:=by
 have hT:s.TypeIs (.ref z) "zip" := ⟨_,hz,rfl⟩;have fin:∀(h':Heap) (e:Addr),(∀c o,c≠z->c≠TO->c≠N->c≠U->s.heap.get? c=some o->h'.get? c=some o)->(∃o,h'.get? e=some o/\o.cls=.type "StopIteration")->wpAny (model prog w) A (do if <- isInstance (.ref e) (.type "StopIteration")then pure none else throw (.ref e)) Q E {s with heap:=h'}:=λh' e hk he=>by
  obtain⟨o,ho,hc⟩:=he;refine zaa (zc8 (T := "StopIteration") (b:=true) ⟨o,ho,hc⟩ zdw ?_);exact zac (hQ _ hk)
 unfold zaH;refine zaa (zb5 (zbt (name:=za0 "__next__") hT zcu (zba zcu hT zeo ?_ (zep _))));show wpAny _ _ (field (.ref z) 2 >>= _) _ _ s;refine zaa (zaC hz rfl (x:=.bool false) rfl ?_);show wpAny _ _ (field (.ref z) 3 >>= _) _ _ s;refine zaa (zaC hz rfl (x:=.ref TI) rfl (zaa (za5 as rfl ?_)));show wpAny _ _ (zb8 (.ref z) >>= _) _ _ s;refine zaa ?_;unfold zb8;refine zaa (zaC hz rfl (x:=.none) rfl (zac ?_));simp only[if_true];refine zaa (zbT (zaa (zaC hz rfl (x:=.ref TO) rfl (zaa (zaZ hz (by simp) λha G sa=>?_)))));replace G:IsZip ha z TI TO .ellipsis:=G;refine zaa ?_;simp only[zeq,zer,zdC,zes];refine zaa (zaa (zb9 ?_));show wpAny _ _ (zbw (.ref N) >>= _) _ _ {s with heap:=ha};have ea:=sa.extBut;cases hx:xs[k1]? with
 | none=>
  refine zaa (next_end (t:=t1) (xs:=xs) hh (h1.to λo e=>ea _ _ D.z3 e) (W.to λo e=>ea _ _ D.zb.1 e) hx λhb e sb he=>?_);obtain⟨oe,B,F⟩:=he;have aa:IsZip hb z TI TO .ellipsis:=sb _ _ D.z3.symm G;have M:e≠z:=λq=>by subst q;rw[aa]at B;cases B;simp at F
  exact zaZ aa (by simp) λhc _ sc=>fin hc e (λc o c1 _ c3 _ q=>sc.extBut _ _ c1 (sb _ _ c3 (ea _ _ c1 q))) ⟨oe,sc.extBut _ _ M B,F⟩
 | some x=>
  have hy:ys[k2]?=none:=by rcases af with h|h;rw[hx]at h;cases h;exact h
  refine zaa (next_item (t:=t1) (xs:=xs) (h1.to λo e=>ea _ _ D.z3 e) (W.to λo e=>ea _ _ D.zb.1 e) hx λhb a5 sb=>zac ?_);have Y:=sb.extBut;have J:zbh hb TO a b:=Y _ _ D.z8 (ea _ _ D.z2 ao);refine zaa (za5 J rfl (zaa (zfg J λhc ay sc=>?_)));have ec:=sc.extBut;refine zaa (zbu (zac ?_));refine zaa (zaa (zb9 ?_));show wpAny _ _ (zbw (.ref U) >>= _) _ _ {s with heap:=hc};refine zaa (next_end (t:=t2) (xs:=ys) hh (h2.to λo e=>ec _ _ D.z9.symm (Y _ _ D.za.symm (ea _ _ D.z4 e))) (al.to λo e=>ec _ _ D.zc.2.1 (Y _ _ D.zc.2.2.1 (ea _ _ D.zc.1 e))) hy λhd e sd he=>?_);obtain⟨oe,B,F⟩:=he;have ab:IsZip hd z TI TO .ellipsis:=sd _ _ D.z4.symm (ec _ _ D.z2.symm (Y _ _ D.z3.symm G));have M:e≠z:=λq=>by subst q;rw[ab]at B;cases B;simp at F
  exact zaZ ab (by simp) λhf _ sf=>fin hf e (λc o c1 c2 c3 c4 q=>sf.extBut _ _ c1 (sd _ _ c4 (ec _ _ c2 (Y _ _ c3 (ea _ _ c1 q))))) ⟨oe,sf.extBut _ _ M B,F⟩
abbrev m9(t:Bool)(l:Addr):Obj:={cls:=.type (qm t),data:=.fields #[.ref l,.int 0 0]}
abbrev F9(t1 t2:Bool)(h:Heap)(l1 l2:Addr):Heap:=(h.push (m9 t1 l1)).push (m9 t2 l2)
abbrev XZ(t1 t2:Bool)(h:Heap)(l1 l2:Addr):Heap:=((F9 t1 t2 h l1 l2).push {cls:=.type "tuple",data:=.seq #[.ref h.objs.size,.ref (h.push (m9 t1 l1)).objs.size]}).push {cls:=.type "tuple",data:=.seq #[.none,.none]}
abbrev U4(t1 t2:Bool)(h:Heap)(l1 l2:Addr):Heap:=(XZ t1 t2 h l1 l2).push {cls:=.type "zip",data:=.fields #[.none,.bool false,.bool false,.ref (F9 t1 t2 h l1 l2).objs.size,.ref ((F9 t1 t2 h l1 l2).push {cls:=.type "tuple",data:=.seq #[.ref h.objs.size,.ref (h.push (m9 t1 l1)).objs.size]}).objs.size]}
theorem NV(N U:Bool)(F M:Addr)(xs ys:Array Value):Meets (za9.«zip.__new__» ⟨[.type "zip",.ref F,.ref M],[]⟩) (λ_ R s=>SSq N s.heap F xs/\SSq U s.heap M ys/\R (.ok (.ret (.ref (XZ N U s.heap F M).objs.size))) {s with heap:=U4 N U s.heap F M}):=
 .of_wp λprog w A R s h=>by
  obtain⟨G,g,d,tk,os⟩:=s;obtain⟨J,W,h⟩:=h;have Y:=sub_zip;have B:SSq U (G.push (m9 N F)) M ys:=W.to λo e=>zag _ e
  cases N <;> cases U
  ·have q:zet (zbL ⟨G,g,d,tk,os⟩) F xs:=J
   have z:zet (zbL ⟨G.push {cls:=.type "list_iterator",data:=.fields #[.ref F,.int 0 0]},g,d,tk,os⟩) M ys:=B
   wp_walk using zcd q,zcd z
   exact⟨_,rfl,h⟩
  ·have q:zet (zbL ⟨G,g,d,tk,os⟩) F xs:=J
   have z:zdD (zbL ⟨G.push {cls:=.type "list_iterator",data:=.fields #[.ref F,.int 0 0]},g,d,tk,os⟩) M ys:=B
   wp_walk using zcd q,zbM z
   exact⟨_,rfl,h⟩
  ·have q:zdD (zbL ⟨G,g,d,tk,os⟩) F xs:=J
   have z:zet (zbL ⟨G.push {cls:=.type "tuple_iterator",data:=.fields #[.ref F,.int 0 0]},g,d,tk,os⟩) M ys:=B
   wp_walk using zbM q,zcd z
   exact⟨_,rfl,h⟩
  ·have q:zdD (zbL ⟨G,g,d,tk,os⟩) F xs:=J
   have z:zdD (zbL ⟨G.push {cls:=.type "tuple_iterator",data:=.fields #[.ref F,.int 0 0]},g,d,tk,os⟩) M ys:=B
   wp_walk using zbM q,zbM z
   exact⟨_,rfl,h⟩
theorem G8(q:SSq t1 s.heap l1 xs)(M:SSq t2 s.heap l2 ys)
  (h:∀h', IsZip h' (s.heap.objs.size+4) (s.heap.objs.size+2) (s.heap.objs.size+3) .none -> zbh h' (s.heap.objs.size+2) (.ref s.heap.objs.size) (.ref (s.heap.objs.size+1)) -> zbh h' (s.heap.objs.size+3) .none .none ->
   SIt t1 h' s.heap.objs.size l1 0->SIt t2 h' (s.heap.objs.size+1) l2 0->(∀c o,s.heap.get? c=some o->h'.get? c=some o)->Q (.ref (s.heap.objs.size+4)) {s with heap:=h'}):wpAny (model prog w) A (call (.type "zip") [.ref l1,.ref l2]) Q E s:=by
 refine zeu F.called_zip (by decide) (F.typeCall_zip_2 _ _) (F.newCall_zip_2 _ _) (λz=>F.args_object_init_3 z _ _) F.entry_zip_new (NV t1 t2 l1 l2 xs ys) ⟨q,M,?_⟩;have G:(s.heap.push (m9 t1 l1)).objs.size=s.heap.objs.size+1:=zbl ..;have N:(F9 t1 t2 s.heap l1 l2).objs.size=s.heap.objs.size+2:=by rw[zbl,G]
 have J:((F9 t1 t2 s.heap l1 l2).push {cls:=.type "tuple",data:=.seq #[.ref s.heap.objs.size,.ref (s.heap.push (m9 t1 l1)).objs.size]}).objs.size=s.heap.objs.size+3:=by rw[zbl,N]
 have U:(XZ t1 t2 s.heap l1 l2).objs.size=s.heap.objs.size+4:=by rw[zbl,J]
 have B:(U4 t1 t2 s.heap l1 l2).get? (XZ t1 t2 s.heap l1 l2).objs.size=some _:=zat _ rfl;have W:(U4 t1 t2 s.heap l1 l2).get? ((F9 t1 t2 s.heap l1 l2).push {cls:=.type "tuple",data:=.seq #[.ref s.heap.objs.size,.ref (s.heap.push (m9 t1 l1)).objs.size]}).objs.size=some _:=zag _ (zat _ rfl);have Y:(U4 t1 t2 s.heap l1 l2).get? (F9 t1 t2 s.heap l1 l2).objs.size=some _:=zag _ (zag _ (zat _ rfl));have g2:(U4 t1 t2 s.heap l1 l2).get? (s.heap.push (m9 t1 l1)).objs.size=some (m9 t2 l2):=zag _ (zag _ (zag _ (zat _ rfl)));have g1:(U4 t1 t2 s.heap l1 l2).get? s.heap.objs.size=some (m9 t1 l1):=zag _ (zag _ (zag _ (zag _ (zat _ rfl))));show _/\_;rw[N,J,U]at B;rw[G,N]at Y;rw[J]at W;rw[G]at g2;rw[U];exact⟨⟨_,B,rfl⟩,h _ B Y W ⟨_,g1,rfl,rfl⟩ ⟨_,g2,rfl,rfl⟩ λc o x=>zag _ (zag _ (zag _ (zag _ (zag _ x))))⟩
end
def k6(K:zaf)(t:Bool)(H:Hp)(a:Addr)(xs:List V):Prop:=if t=true then SqT K H a xs else SqL K H a xs
def qi(K:zaf)(z q:Bool)(B F:Addr):It:=
 ⟨λi H => ∃xs ys, k6 K z H B xs /\ k6 K q H F ys /\ i<xs.length /\ i<ys.length, λi H x H' => ∃p u v, x = .ref p /\ H p = none /\ H' = upd H p (.tup [u, v]) /\ ∀xs ys, k6 K z H B xs -> k6 K q H F ys -> xs[i]? = some u /\ ys[i]? = some v,
  λi H=>∃xs ys,k6 K z H B xs/\k6 K q H F ys/\(xs.length<=i\/ys.length<=i)⟩
theorem cA(I:Inv X pins σ H s)(h:k6 X.K t H a xs):∃q:List Value,Vals xs q/\SSq t s.heap a q.toArray:=by
 cases t with
 | true=>
  obtain⟨q,r,p,_⟩:=I.tuple (show SqT X.K H a xs from h);exact⟨q,r,p⟩
 | false=>
  obtain⟨q,r,p,_⟩:=I.list (show SqL X.K H a xs from h);exact⟨q,r,PlainL.isList p⟩
theorem iL(I:Inv X pins σ H s)(h:k6 X.K t H a xs)(h':k6 X.K t H a ys):xs=ys:=by
 cases t with
 | true=>exact I.tuple_inj (show SqT X.K H a xs from h) h'
 | false=>exact I.list_inj (show SqL X.K H a xs from h) h'
theorem dI{pins:List (Addr×Obj)}{t':Nat}{fp:List Addr}(I:Inv X pins σ H s)(G:∀b∈fp,iB X pins H b)(k:∀b o,b∉fp->s.heap.get? b=some o->h'.get? b=some o):Inv X pins σ H {s with heap:=h',toks:=t'}:=by
 have B:∀b u,H b=some u->b∉fp:=λb u e z=>by rw[(G b z).1]at e;cases e
 refine I.call' (s':={s with heap:=h',toks:=t'}) (ch:=fp) rfl ⟨λb o e _ _ F=>k b o F e,λb o e _ _ F=>⟨o.slots,k b o F e⟩,λ_ _ _ n _=>n,λb o e F=>⟨o,k b o F e⟩,λ_ _ q=>q,λ_ _ _ q=>q,λb ps q=>⟨#[],by rw[q];simp⟩⟩ (λb u e=>?_) I.bare λb N=>?_
 ·refine(I.hok b u e).stay (λc v Y q=>k c v ?_ q) (λ_ q=>q) λ_ _ q=>q
  rcases Y with z|z
  ·rw[z];exact B b u e
  ·exact B c _ z
 ·obtain⟨_,M,_,W,J,U⟩:=G b N
  exact⟨W,M,J,U⟩
theorem GF{P:zam}{w:World}{K:zaf}{ag:List Expr}{x1}{tp:Pos}(t1 t2:Bool){z TI TO U W l1 l2:Addr}(D:ZA z TI TO U W l1 l2) :
  Turn P w K (.Tuple ag x1 tp) (qi K t1 t2 l1 l2) [z,TI,TO,U,W] z (λi h=>IsZip h z TI TO .none/\zbh h TI (.ref U) (.ref W)/\(∃a b,zbh h TO a b)/\SIt t1 h U l1 i/\SIt t2 h W l2 i) where
 mem:=by simp
 obj:=by
  rintro i h ⟨hz,J,⟨a,b,M⟩,⟨o1,e1,_,d1⟩,⟨o2,e2,_,d2⟩⟩ c B;simp only[zaD,zaE,or_false]at B;rcases B with rfl|rfl|rfl|rfl|rfl
  ·exact⟨_,hz,λv q=>by cases q⟩
  ·exact⟨_,J,λv q=>by cases q⟩
  ·exact⟨_,M,λv q=>by cases q⟩
  ·exact⟨o1,e1,λv q=>by rw[d1]at q;cases q⟩
  ·exact⟨o2,e2,λv q=>by rw[d2]at q;cases q⟩
 keep:=λi h h' ⟨hz,J,⟨a,b,M⟩,s1,s2⟩ k=>⟨k z (by simp) _ hz,k TI (by simp) _ J,⟨a,b,k TO (by simp) _ M⟩,s1.to λo e=>k U (by simp) o e,s2.to λo e=>k W (by simp) o e⟩
 item:=by
  intro X hP hw hK B i pins s σ H E I hf st hg;subst hP hw hK;obtain⟨hz,J,⟨a,b,M⟩,s1,s2⟩:=st;obtain⟨xs,ys,q1,q2,aq,ap⟩:=hg;obtain⟨ae,r1,p1⟩:=cA I q1;obtain⟨ad,r2,p2⟩:=cA I q2;have e1:xs[i]?=some xs[i]:=by simp[aq]
  have e2:ys[i]?=some ys[i]:=by simp[ap]
  obtain⟨u,eu,ru⟩:=r1.get e1;obtain⟨v,ev,rv⟩:=r2.get e2;refine IS D hz J M s1 s2 p1 p2 (x:=u) (y:=v) (by simpa using eu) (by simpa using ev) λh' a1 a2 a3 a4 a5 a6 Y=>⟨_,rfl,?_⟩
  refine wpAny_letOwnedTupleGo_zip (s:={s with heap:=h'}) a1 λh2 am sb=>?_
  have zz:∀c,c∈[z,TI,TO,U,W]->c<s.heap.objs.size:=λc B=>by
   simp only[zaD,zaE,or_false]at B;rcases B with rfl|rfl|rfl|rfl|rfl
   ·exact zai hz
   ·exact zai J
   ·exact zai M
   ·obtain⟨o,e,_⟩:=s1;exact zai e
   ·obtain⟨o,e,_⟩:=s2;exact zai e
  have N:∀c o,c≠z->h'.get? c=some o->h2.get? c=some o:=λc o B e=>sb.extBut _ _ B e
  have I1:Inv X pins σ H {s with heap:=h2,toks:=s.toks}:=dI I hf λc o B e=>by
   simp only[zaD,zaE,or_false,not_or]at B;exact N c o B.1 (Y c o B.1 B.2.2.1 B.2.2.2.1 B.2.2.2.2 e)
  have G:H s.heap.objs.size=none:=I.fresh;have ax:zbh h2 s.heap.objs.size u v:=N _ _ (zaG (zz z (by simp))) a5;have I2:Inv X pins σ (upd H s.heap.objs.size (.tup [xs[i],ys[i]])) {s with heap:=h2}:=by
   have ay:HOk X.prog X.w (upd H s.heap.objs.size (.tup [xs[i],ys[i]])) h2:=λc ob e=>by
    by_cases B:c=s.heap.objs.size
    ·subst B;rw[aI]at e;cases e
     exact⟨by show 2<=zaj;decide,[u,v],.cons ru (.cons rv .nil),_,ax,rfl,0,rfl,rfl⟩
    ·rw[aE B]at e
     exact(I1.hok c ob e).stay (λ_ _ _ q=>q) (λd q=>by rw[aE (aQ q G)];exact q) λd ac q=>by rw[aE (aQ q G)];exact q
   refine I.call' (s':={s with heap:=h2}) (ch:=[z,TI,TO,U,W]) rfl ⟨λc o e _ _ F=>?_,λc o e _ _ F=>⟨o.slots,?_⟩,λc o e n F=>by rw[aE (zay (zai e))];exact n,λc o e F=>⟨o,?_⟩,λc ac q=>by rw[aE (aQ q G)];exact q,λc o' u' q=>by rw[aE (aQ q G)];exact q,λc ps q=>⟨#[],by rw[aE (aQ q G),q];simp⟩⟩ ay I.bare λb hb=>?_
   ·simp only[zaD,zaE,or_false,not_or]at F
    exact N c o F.1 (Y c o F.1 F.2.2.1 F.2.2.2.1 F.2.2.2.2 e)
   ·simp only[zaD,zaE,or_false,not_or]at F
    exact N c o F.1 (Y c o F.1 F.2.2.1 F.2.2.2.1 F.2.2.2.2 e)
   ·simp only[zaD,zaE,or_false,not_or]at F
    exact N c o F.1 (Y c o F.1 F.2.2.1 F.2.2.2.1 F.2.2.2.2 e)
   ·obtain⟨_,f1,_,f3,f4,f5⟩:=hf b hb
    exact⟨f3,f1,f4,f5⟩
  refine⟨.ref s.heap.objs.size,_,I2,rfl,⟨_,_,_,rfl,G,rfl,λbn ac g1 g2=>by rw[<- iL I q1 g1,<- iL I q2 g2];exact⟨e1,e2⟩⟩,⟨am,N _ _ D.z1 (Y _ _ D.z1 D.z5 D.z6 D.z7 J),⟨_,_,N _ _ D.z2 a2⟩,a3.to λo e=>N _ o D.z3 e,a4.to λo e=>N _ o D.z4 e⟩,λc B=>?_⟩;rw[aE (zay (zz c B))];exact(hf c B).1
 done:=by
  intro X hP hw hK B i pins s σ H E I hf st hg;subst hP hw hK;obtain⟨hz,J,⟨a,b,M⟩,s1,s2⟩:=st;obtain⟨xs,ys,q1,q2,ah⟩:=hg;obtain⟨ae,r1,p1⟩:=cA I q1;obtain⟨ad,r2,p2⟩:=cA I q2;have n1:=r1.length;have n2:=r2.length;refine GH (I.ok.hd B) D hz J M s1 s2 p1 p2 (ah.imp (λh=>by simp;lia) λh=>by simp;lia) λh' Y=>⟨rfl,dI (t':=s.toks) I hf λc o B e=>?_⟩
  simp only[zaD,zaE,or_false,not_or]at B;exact Y c o B.1 B.2.2.1 B.2.2.2.1 B.2.2.2.2 e
 self:=λ_ _ _ _ _ st h=>zew st.1 h
theorem VD(n q z:Nat)(h1:q<n)(h2:z<n):ZA (n+4) (n+2) (n+3) n (n+1) q z:=⟨(show(n+2:Nat)≠n+4 by lia),(show(n+3:Nat)≠n+4 by lia),(show(n:Nat)≠n+4 by lia),(show(n+1:Nat)≠n+4 by lia),(show(n+2:Nat)≠n+3 by lia),(show(n+2:Nat)≠n by lia),(show(n+2:Nat)≠n+1 by lia),(show(n+3:Nat)≠n by lia),(show(n+3:Nat)≠n+1 by lia),(show(n:Nat)≠n+1 by lia),⟨(show(q:Nat)≠n+4 by lia),(show(q:Nat)≠n+3 by lia),(show(q:Nat)≠n by lia),(show(q:Nat)≠n+1 by lia)⟩,⟨(show(z:Nat)≠n+4 by lia),(show(z:Nat)≠n+3 by lia),(show(z:Nat)≠n by lia),(show(z:Nat)≠n+1 by lia)⟩⟩
def Y9(K:zaf)(ta:TA):TI:=λσ H R=>ta σ H λvs H1=>∃F B q z xs ys,vs=[.ref q,.ref z]/\k6 K F H1 q xs/\k6 K B H1 z ys/\R (qi K F B q z) H1
theorem RP{G:List Expr}{x1}(hg:Gl X "zip")(hm:X.mg "zip" = none)(ha:PA X [a,b] ta)(hs:zah [a,b] X.env=[(false,eval a X.env),(false,eval b X.env)]:=by rfl)(F:zah [b] X.env=[(false,eval b X.env)]:=by rfl) :
  PI X (.Tuple G x1 tp) (.Call (.Name "zip" p) [a,b] [] pos) (Y9 X.K ta):=by
 intro pins s σ H R I h;refine Call_ (eW I hg hm My.boot_zip (zcB (bL (ha pos pins s σ H _ I h) λus z ⟨vs,H1,B,r1,Y⟩=>?_) (by rw[hs,F]) (by rw[F];rfl)));obtain⟨t1,t2,l1,l2,xs,ys,rfl,Y,q2,q⟩:=Y;obtain⟨u,v,rfl,ru,rv⟩:=vals2 r1;cases ru;cases rv;obtain⟨ae,_,p1⟩:=cA B Y;obtain⟨ac,_,p2⟩:=cA B q2;have b1:l1<z.heap.objs.size:=by obtain⟨o,e,_⟩:=p1;exact zai e
 have b2:l2<z.heap.objs.size:=by obtain⟨o,e,_⟩:=p2;exact zai e
 refine G8 p1 p2 λh' hz W N M U k=>?_
 refine zew hz ?_;have D:ZA (z.heap.objs.size+4) (z.heap.objs.size+2) (z.heap.objs.size+3) z.heap.objs.size (z.heap.objs.size+1) l1 l2:=VD _ _ _ b1 b2;refine⟨_,[_,_,_,_,_],_,_,H1,rfl,B.kept (t':=z.toks) k,GF t1 t2 D,⟨hz,W,⟨_,_,N⟩,M,U⟩,λc J=>B.fpOk ?_ (B.hok.fresh ?_),q⟩
 ·simp only[zaD,zaE,or_false]at J
  rcases J with rfl|rfl|rfl|rfl|rfl <;> lia
 ·simp only[zaD,zaE,or_false]at J
  rcases J with rfl|rfl|rfl|rfl|rfl <;> lia
end My
namespace P
open PySem PySem.Spec PyProof.Rows L2
inductive D where
 | non|bl (b:Bool)|int (i:Int)|str (x:Str)|tup (l:List D)|lst (l:List D)
 | dK (l:List (Key×D))|dT (l:List (List Key×D))
abbrev Av:=Addr->Prop
section
variable (A:Av)(H:Hp)
mutual
/-- a heap bears a value that stays (the things that may still be written are in A) -/
inductive Rep:D->V->Prop where
 | non:Rep .non .non
 | bl (b:Bool):Rep (.bl b) (.bl b)
 | int (i:Int):Rep (.int i) (.int i)
 | str (x:Str):Rep (.str x) (.str x)
 | tup {l:List D} {a:Addr} {xs:List V} (h:H a=some (.tup xs)) (r:RepL l xs):Rep (.tup l) (.ref a)
 | lst {l:List D} {a:Addr} {xs:List V} (n:¬ A a) (h:Rd H a (.lst xs)) (r:RepL l xs):Rep (.lst l) (.ref a)
 | dK {l:List (Key×D)} {a:Addr} {xs:List (Key×V)} (n:¬ A a) (h:Rd H a (.dK xs)) (e:xs.map (·.1)=l.map (·.1)) (r:RepL (l.map (·.2)) (xs.map (·.2))):Rep (.dK l) (.ref a)
 | dT {l:List (List Key×D)} {a:Addr} {xs:List (List Key×V)} (n:¬ A a) (h:Rd H a (.dT xs)) (e:xs.map (·.1)=l.map (·.1)) (r:RepL (l.map (·.2)) (xs.map (·.2))):Rep (.dT l) (.ref a)
inductive RepL:List D->List V->Prop where
 | nil:RepL [] []
 | cons {d:D} {v:V} {ds:List D} {vs:List V} (h:Rep d v) (t:RepL ds vs):RepL (d::ds) (v::vs)
end
inductive RepB:D->V->Prop where
 | of {d:D} {v:V} (h:Rep A H d v):RepB d v
 | lst {l:List D} {a:Addr} {xs:List V} (h:Rd H a (.lst xs)) (r:RepL A H l xs):RepB (.lst l) (.ref a)
 | dK {l:List (Key×D)} {a:Addr} {xs:List (Key×V)} (h:Rd H a (.dK xs)) (e:xs.map (·.1)=l.map (·.1)) (r:RepL A H (l.map (·.2)) (xs.map (·.2))):RepB (.dK l) (.ref a)
 | dT {l:List (List Key×D)} {a:Addr} {xs:List (List Key×V)} (h:Rd H a (.dT xs)) (e:xs.map (·.1)=l.map (·.1)) (r:RepL A H (l.map (·.2)) (xs.map (·.2))):RepB (.dT l) (.ref a)
inductive Own:D->Addr->Prop where
 | lst {l:List D} {a:Addr} {xs:List V} (h:H a=some (.lst xs)) (r:RepL A H l xs):Own (.lst l) a
 | dK {l:List (Key×D)} {a:Addr} {xs:List (Key×V)} (h:H a=some (.dK xs)) (e:xs.map (·.1)=l.map (·.1)) (r:RepL A H (l.map (·.2)) (xs.map (·.2))):Own (.dK l) a
 | dT {l:List (List Key×D)} {a:Addr} {xs:List (List Key×V)} (h:H a=some (.dT xs)) (e:xs.map (·.1)=l.map (·.1)) (r:RepL A H (l.map (·.2)) (xs.map (·.2))):Own (.dT l) a
end
noncomputable def Kp:HO->Prop
 | .tup _=>True | .lst _=>True|_=>False
structure Ext(A:Av)(H H':Hp):Prop where
 rd:∀b u,Rd H b u->Rd H' b u
 kp:∀b u,Kp u->H b=some u->H' b=some u
 ow:∀b u,A b->H b=some u->H' b=some u
 fz:∀b o u,H b=some (.frz o u)->H' b=some (.frz o u)
theorem Ext.refl(A:Av)(H:Hp):Ext A H H:=⟨λ_ _ h=>h,λ_ _ _ h=>h,λ_ _ _ h=>h,λ_ _ _ h=>h⟩
theorem Ext.trans(a:Ext A H H1)(b:Ext A H1 H2):Ext A H H2:=
 ⟨λc u h=>b.rd c u (a.rd c u h),λc u k h=>b.kp c u k (a.kp c u k h),λc u n h=>b.ow c u n (a.ow c u n h),λc o u h=>b.fz c o u (a.fz c o u h)⟩
theorem Ext.mono(h:Ext A H H')(s:∀a,A' a->A a):Ext A' H H':=⟨h.rd,h.kp,λb u n e=>h.ow b u (s b n) e,h.fz⟩
theorem Ext.same(h:Same H H'):Ext A H H':=
 ⟨λb u r=>by rcases r with r|⟨o,r⟩;exact .inl (h _ _ r);exact .inr ⟨o,h _ _ r⟩,λb u _ r=>h _ _ r,λb u _ r=>h _ _ r,λb o u r=>h _ _ r⟩
theorem Ext.tp(x:Ext A H H')(b:Addr)(xs:List V)(h:H b=some (.tup xs)):H' b=some (.tup xs):=x.kp b _ trivial h
theorem Ext.new(h:H p=none):Ext A H (upd H p o):=Ext.same (My.xP h)
mutual
theorem Rep.ext(x:Ext A H H'):Rep A H d v->Rep A H' d v
 | .non=>.non
 | .bl b=>.bl b
 | .int i=>.int i
 | .str s=>.str s
 | .tup h r=>.tup (x.tp _ _ h) (RepL.ext x r)
 | .lst n h r=>.lst n (x.rd _ _ h) (RepL.ext x r)
 | .dK n h e r=>.dK n (x.rd _ _ h) e (RepL.ext x r)
 | .dT n h e r=>.dT n (x.rd _ _ h) e (RepL.ext x r)
theorem RepL.ext(x:Ext A H H'):RepL A H ds vs->RepL A H' ds vs
 | .nil=>.nil
 | .cons h t=>.cons (Rep.ext x h) (RepL.ext x t)
end
theorem RepB.ext(x:Ext A H H'):RepB A H d v->RepB A H' d v
 | .of h=>.of (h.ext x)
 | .lst h r=>.lst (x.rd _ _ h) (r.ext x)
 | .dK h e r=>.dK (x.rd _ _ h) e (r.ext x)
 | .dT h e r=>.dT (x.rd _ _ h) e (r.ext x)
theorem Own.ext(x:Ext A H H')(q:A a):Own A H d a->Own A H' d a
 | .lst h r=>.lst (x.ow _ _ q h) (r.ext x)
 | .dK h e r=>.dK (x.ow _ _ q h) e (r.ext x)
 | .dT h e r=>.dT (x.ow _ _ q h) e (r.ext x)
theorem Own.b:Own A H d a->RepB A H d (.ref a)
 | .lst h r=>.lst (.inl h) r
 | .dK h e r=>.dK (.inl h) e r
 | .dT h e r=>.dT (.inl h) e r
mutual
/-- avoid other things: those that were not there, or fewer -/
theorem Rep.av(x:∀a,A' a->A a\/H a=none):Rep A H d v->Rep A' H d v
 | .non=>.non
 | .bl b=>.bl b
 | .int i=>.int i
 | .str s=>.str s
 | .tup h r=>.tup h (RepL.av x r)
 | .lst n h r=>.lst (λz=>(x _ z).elim n λz=>by rcases h with h|⟨o,h⟩ <;> (rw[z]at h;cases h)) h (RepL.av x r)
 | .dK n h e r=>.dK (λz=>(x _ z).elim n λz=>by rcases h with h|⟨o,h⟩ <;> (rw[z]at h;cases h)) h e (RepL.av x r)
 | .dT n h e r=>.dT (λz=>(x _ z).elim n λz=>by rcases h with h|⟨o,h⟩ <;> (rw[z]at h;cases h)) h e (RepL.av x r)
theorem RepL.av(x:∀a,A' a->A a\/H a=none):RepL A H ds vs->RepL A' H ds vs
 | .nil=>.nil
 | .cons h t=>.cons (Rep.av x h) (RepL.av x t)
end
noncomputable def U2:HO->Prop
 | .lst _=>True | .dK _=>True | .dT _=>True|_=>False
theorem eE(n:b≠a)(h:Rd H b u):Rd (upd H a o) b u:=by
 rcases h with h|⟨x,h⟩
 ·exact .inl (by rw[aE n];exact h)
 ·exact .inr ⟨x,by rw[aE n];exact h⟩
mutual
theorem Rep.put(q:A a)(B:H a=some u)(ob:U2 u):Rep A H d v->Rep A (upd H a o) d v
 | .non=>.non
 | .bl b=>.bl b
 | .int i=>.int i
 | .str s=>.str s
 | .tup (a:=b) h r=>.tup (by rw[aE (λz=>by subst z;rw[B]at h;cases h;exact ob)];exact h) (RepL.put q B ob r)
 | .lst (a:=b) n h r=>.lst n (eE (λz=>n (by rw[z];exact q)) h) (RepL.put q B ob r)
 | .dK (a:=b) n h e r=>.dK n (eE (λz=>n (by rw[z];exact q)) h) e (RepL.put q B ob r)
 | .dT (a:=b) n h e r=>.dT n (eE (λz=>n (by rw[z];exact q)) h) e (RepL.put q B ob r)
theorem RepL.put(z:A a)(q:H a=some u)(ob:U2 u):RepL A H ds vs->RepL A (upd H a o) ds vs
 | .nil=>.nil
 | .cons h t=>.cons (Rep.put z q ob h) (RepL.put z q ob t)
end
theorem Own.put{A:Av}{H:Hp}{a b:Addr}{o u:HO}(z:A a)(q:H a=some u)(ob:U2 u)(B:b≠a){d:D}:Own A H d b->Own A (upd H a o) d b
 | .lst h r=>.lst (by rw[aE B];exact h) (r.put z q ob)
 | .dK h e r=>.dK (by rw[aE B];exact h) e (r.put z q ob)
 | .dT h e r=>.dT (by rw[aE B];exact h) e (r.put z q ob)
theorem Own.av(x:∀a,A' a->A a\/H a=none):Own A H d a->Own A' H d a
 | .lst h r=>.lst h (r.av x)
 | .dK h e r=>.dK h e (r.av x)
 | .dT h e r=>.dT h e (r.av x)
theorem Own.rep(n:¬ A a):Own A H d a->Rep A H d (.ref a)
 | .lst h r=>.lst n (.inl h) r
 | .dK h e r=>.dK n (.inl h) e r
 | .dT h e r=>.dT n (.inl h) e r
section
variable {A:Av}{H:Hp}
theorem RepL.length:∀ {ds:List D} {vs:List V},RepL A H ds vs->vs.length=ds.length
 | _,_,.nil=>rfl
 | _,_,.cons _ t=>by rw[zaT,zaT,RepL.length t]
theorem RepL.get:∀ {ds:List D} {vs:List V} {i:Nat} {v:V},RepL A H ds vs->vs[i]?=some v->∃d,ds[i]?=some d/\Rep A H d v
 | _,_,i,v,.nil,e=>by simp at e
 | _,_,0,v,.cons h t,e=>by simp at e;subst e;exact⟨_,rfl,h⟩
 | _,_,i+1,v,.cons h t,e=>RepL.get (i:=i) t (by simpa using e)
theorem RepL.get':∀ {ds:List D} {vs:List V} {i:Nat} {d:D},RepL A H ds vs->ds[i]?=some d->∃v,vs[i]?=some v/\Rep A H d v
 | _,_,i,v,.nil,e=>by simp at e
 | _,_,0,v,.cons h t,e=>by simp at e;subst e;exact⟨_,rfl,h⟩
 | _,_,i+1,v,.cons h t,e=>RepL.get' (i:=i) t (by simpa using e)
theorem RepL.append:∀ {ds es:List D} {vs us:List V},RepL A H ds vs->RepL A H es us->RepL A H (ds++es) (vs++us)
 | _,_,_,_,.nil,s=>s
 | _,_,_,_,.cons h t,s=>.cons h (RepL.append t s)
theorem RepL.take:∀ {ds:List D} {vs:List V} (n:Nat),RepL A H ds vs->RepL A H (ds.take n) (vs.take n)
 | _,_,0,_=>by simp;exact .nil
 | _,_,n+1,.nil=>.nil
 | _,_,n+1,.cons h t=>.cons h (RepL.take n t)
theorem RepL.drop:∀ {ds:List D} {vs:List V} (n:Nat),RepL A H ds vs->RepL A H (ds.drop n) (vs.drop n)
 | _,_,0,r=>r
 | _,_,n+1,.nil=>.nil
 | _,_,n+1,.cons h t=>RepL.drop n t
theorem RepL.set:∀ {ds:List D} {vs:List V} {d:D} {v:V} (n:Nat),Rep A H d v->RepL A H ds vs->RepL A H (ds.set n d) (vs.set n v)
 | _,_,_,_,_,_,.nil=>.nil
 | _,_,_,_,0,r,.cons h t=>.cons r t
 | _,_,_,_,n+1,r,.cons h t=>.cons h (RepL.set n r t)
theorem Rep.b(h:Rep A H d v):RepB A H d v:=.of h
theorem RepB.int_inv(h:RepB A H (.int i) v):v=.int i:=by cases h with|of h=>cases h;rfl
theorem RepB.bl_inv(h:RepB A H (.bl i) v):v=.bl i:=by cases h with|of h=>cases h;rfl
theorem RepB.str_inv(h:RepB A H (.str i) v):v=.str i:=by cases h with|of h=>cases h;rfl
theorem RepB.non_inv(h:RepB A H .non v):v=.non:=by cases h with|of h=>cases h;rfl
theorem RepB.tup_inv(h:RepB A H (.tup l) v):∃a xs,v=.ref a/\H a=some (.tup xs)/\RepL A H l xs:=by
 cases h with|of h=>cases h with|tup h r=>exact⟨_,_,rfl,h,r⟩
theorem RepB.lst_inv(h:RepB A H (.lst l) v):∃a xs,v=.ref a/\Rd H a (.lst xs)/\RepL A H l xs:=by
 cases h with
 | of h=>cases h with|lst n h r=>exact⟨_,_,rfl,h,r⟩
 | lst h r=>exact⟨_,_,rfl,h,r⟩
theorem RepB.dK_inv(h:RepB A H (.dK l) v):∃a xs,v=.ref a/\Rd H a (.dK xs)/\xs.map (·.1)=l.map (·.1)/\RepL A H (l.map (·.2)) (xs.map (·.2)):=by
 cases h with
 | of h=>cases h with|dK n h e r=>exact⟨_,_,rfl,h,e,r⟩
 | dK h e r=>exact⟨_,_,rfl,h,e,r⟩
theorem RepB.dT_inv(h:RepB A H (.dT l) v):∃a xs,v=.ref a/\Rd H a (.dT xs)/\xs.map (·.1)=l.map (·.1)/\RepL A H (l.map (·.2)) (xs.map (·.2)):=by
 cases h with
 | of h=>cases h with|dT n h e r=>exact⟨_,_,rfl,h,e,r⟩
 | dT h e r=>exact⟨_,_,rfl,h,e,r⟩
end
abbrev cY:=List (Option D)
inductive Fact where
 | rep (d:D) (v:V)|fz (a:Addr) (o:Obj) (u:HO)
def Fact.Holds(A:Av)(H:Hp):Fact->Prop
 | .rep d v=>Rep A H d v
 | .fz a o u=>H a=some (.frz o u)
theorem Fact.ext(x:Ext A H H'):∀ {p:Fact},p.Holds A H->p.Holds A H'
 | .rep _ _,h=>Rep.ext x h
 | .fz _ _ _,h=>x.fz _ _ _ h
theorem Fact.av(x:∀a,A' a->A a\/H a=none):∀ {p:Fact},p.Holds A H->p.Holds A' H
 | .rep _ _,h=>Rep.av x h
 | .fz _ _ _,h=>h
theorem Fact.put(F:A a)(B:H a=some u)(ob:U2 u):∀ {p:Fact},p.Holds A H->p.Holds A (upd H a o)
 | .rep _ _,h=>Rep.put F B ob h
 | .fz b q w,h=>by
  have h:H b=some (.frz q w):=h;show upd H a o b=some (.frz q w);rw[aE (λz=>by subst z;rw[B]at h;cases h;exact ob)];exact h
structure ST(H0:Hp)(A0 A:Av)(E:List Fact)(O:List Nat)(σ:L2.St)(H:Hp)(ρ:cY):Prop where
 ex:Ext A0 H0 H
 sub:∀a,A0 a->A a
 l0:∀a,A0 a->H0 a≠none
 live:∀a,A a->H a≠none
 len:σ.length=ρ.length
 val:∀i d,ρ[i]?=some (some d)->i∉O->∃v,σ[i]?=some (some v)/\Rep A H d v
 own:∀i d,ρ[i]?=some (some d)->i∈O->∃a,σ[i]?=some (some (.ref a))/\A a/\H0 a=none/\Own A H d a
 inj:∀i j d d' a,i∈O->j∈O->ρ[i]?=some (some d)->ρ[j]?=some (some d')->σ[i]?=some (some (.ref a))->σ[j]?=some (some (.ref a))->i=j
 ext:∀p∈E,p.Holds A H
section
variable {H0:Hp}{A0 A:Av}{E:List Fact}{O:List Nat}{σ:L2.St}{H H':Hp}{ρ:cY}
theorem ST.mono(s:ST H0 A0 A E O σ H ρ)(x:Ext A H H'):ST H0 A0 A E O σ H' ρ where
 ex:=s.ex.trans (x.mono s.sub)
 sub:=s.sub
 l0:=s.l0
 live:=λa q=>by
  have:=s.live a q;cases e:H a with
  | none=>exact absurd e this
  | some u=>rw[x.ow a u q e];exact λz=>nomatch z
 len:=s.len
 val:=λi d h n=>by obtain⟨v,h1,h2⟩:=s.val i d h n;exact⟨v,h1,h2.ext x⟩
 own:=λi d h n=>by obtain⟨a,h1,h2,G,B⟩:=s.own i d h n;exact⟨a,h1,h2,G,B.ext x h2⟩
 inj:=s.inj
 ext:=λp F=>Fact.ext x (s.ext p F)
theorem ST.more(s:ST H0 A0 A E O σ H ρ)(h:Rep A H d v):ST H0 A0 A (.rep d v::E) O σ H ρ:=
 {s with ext:=λp q=>by rcases List.mem_cons.mp q with e|e;rw[e];exact h;exact s.ext p e}
theorem ST.less(s:ST H0 A0 A E O σ H ρ)(h:∀p∈E',p∈E):ST H0 A0 A E' O σ H ρ:=
 {s with ext:=λp q=>s.ext p (h p q)}
theorem dO(h:(ρ.set i o)[j]?=some (some d)):(j=i/\o=some d/\i<ρ.length)\/(j≠i/\ρ[j]?=some (some d)):=by
 rw[List.getElem?_set]at h;by_cases e:i=j
 ·rw[if_pos e]at h
  by_cases l:i<ρ.length
  ·rw[if_pos l]at h
   exact .inl ⟨e.symm,zaI h,l⟩
  ·rw[if_neg l]at h;cases h
 ·rw[if_neg e]at h
  exact .inr ⟨λz=>e z.symm,h⟩
theorem sig_set(h:i<σ.length):(σ.set i (some v))[i]?=some (some v):=by simp[h]
theorem jU(h:j≠i):(σ.set i (some v))[j]?=σ[j]?:=by rw[zdL (zaR h)]
theorem ST.put(s:ST H0 A0 A E O σ H ρ)(h:Rep A H d v)(n:i∉O):ST H0 A0 A E O (σ.set i (some v)) H (ρ.set i (some d)) where
 ex:=s.ex
 sub:=s.sub
 l0:=s.l0
 live:=s.live
 len:=by simp[s.len]
 val:=λj d' h' B=>by
  rcases dO h' with⟨e,q,l⟩|⟨e,q⟩
  ·subst e;cases q;exact⟨v,sig_set (by rw[s.len];exact l),h⟩
  ·obtain⟨w,h1,h2⟩:=s.val j d' q B;exact⟨w,by rw[jU e];exact h1,h2⟩
 own:=λj d' h' B=>by
  rcases dO h' with⟨e,q,l⟩|⟨e,q⟩
  ·subst e;exact absurd B n
  ·obtain⟨w,h1,h2⟩:=s.own j d' q B;exact⟨w,by rw[jU e];exact h1,h2⟩
 inj:=λj k d1 d2 a M F h1 h2 J N=>by
  have U:j≠i:=λz=>n (z ▸ M)
  have G:k≠i:=λz=>n (z ▸ F)
  rcases dO h1 with⟨e,_⟩|⟨_,h1⟩
  ·exact absurd e U
  rcases dO h2 with⟨e,_⟩|⟨_,h2⟩
  ·exact absurd e G
  exact s.inj j k d1 d2 a M F h1 h2 (by rw[jU U]at J;exact J) (by rw[jU G]at N;exact N)
 ext:=s.ext
theorem ST.shut(s:ST H0 A0 A E O σ H ρ)(h:∀i,i∈O'->i∈O):∃A',ST H0 A0 A' E O' σ H ρ:=by
 let F:Av:=λa=>∃i d,i∈O/\i∉O'/\ρ[i]?=some (some d)/\σ[i]?=some (some (.ref a))
 have cut:∀a,(A a/\¬ F a)->A a\/H a=none:=λa z=>.inl z.1
 refine⟨λa=>A a/\¬ F a,s.ex,λa M=>⟨s.sub a M,?_⟩,s.l0,λa M=>s.live a M.1,s.len,λi d hi n=>?_,λi d hi n=>?_,λi j d d' a hi hj=>s.inj i j d d' a (h i hi) (h j hj),λp Y=>Fact.av cut (s.ext p Y)⟩
 ·rintro⟨i,d,h1,h2,W,U⟩
  obtain⟨b,q,B,J,G⟩:=s.own i d W h1;rw[U]at q;cases q;exact s.l0 a M J
 ·by_cases N:i∈O
  ·obtain⟨a,q,B,J,G⟩:=s.own i d hi N
   exact⟨.ref a,q,(G.av cut).rep λz=>z.2 ⟨i,d,N,n,hi,q⟩⟩
  ·obtain⟨v,q,B⟩:=s.val i d hi N
   exact⟨v,q,B.av cut⟩
 ·obtain⟨a,q,B,J,G⟩:=s.own i d hi (h i n)
  refine⟨a,q,⟨B,?_⟩,J,G.av cut⟩;rintro⟨j,d',h1,h2,W,U⟩;have:=s.inj i j d d' a (h i n) h1 hi W q U;subst this;exact h2 n
end
abbrev Ev:=cY->Option D
abbrev Bv:=cY->Option Bool
abbrev Lv:=cY->Option (List D)
abbrev RR:=Av->Hp->D->V->Prop
inductive tD(R:RR)(O:List Nat)(f:Ev)(σ:L2.St)(H:Hp)(Q:VK):Prop
 | mk (H0:Hp) (A0 A:Av) (E:List Fact) (ρ:cY) (d:D) (st:ST H0 A0 A E O σ H ρ) (e:f ρ=some d) (q:∀v H',Ext A H H'->R A H' d v->Q v H'):tD R O f σ H Q
inductive tDT(O:List Nat)(g:Bv)(σ:L2.St)(H:Hp)(Q:Bool->Hp->Prop):Prop
 | mk (H0:Hp) (A0 A:Av) (E:List Fact) (ρ:cY) (b:Bool) (st:ST H0 A0 A E O σ H ρ) (e:g ρ=some b) (q:∀H',Ext A H H'->Q b H'):tDT O g σ H Q
def PD(X:Cx)(O:List Nat)(e:Expr)(f:Ev):Prop:=PE X e (tD Rep O f)
def PB(X:Cx)(O:List Nat)(e:Expr)(f:Ev):Prop:=PE X e (tD RepB O f)
def m8(X:Cx)(O:List Nat)(e:Expr)(g:Bv):Prop:=PT X e (tDT O g)
def PDW(X:Cx)(O:List Nat)(e:Expr)(g:Bv):Prop:=PW X e (tDT O g)
theorem PDW.pt(h:PDW X O e g):m8 X O e g:=PW.pt h
inductive RL(R:RR)(A:Av)(H:Hp):List D->List V->Prop where
 | nil:RL R A H [] []
 | cons {d v ds vs} (h:R A H d v) (t:RL R A H ds vs):RL R A H (d::ds) (v::vs)
inductive tDA(R:RR)(O:List Nat)(f:Lv)(σ:L2.St)(H:Hp)(Q:List V->Hp->Prop):Prop
 | mk (H0:Hp) (A0 A:Av) (E:List Fact) (ρ:cY) (ds:List D) (st:ST H0 A0 A E O σ H ρ) (e:f ρ=some ds) (q:∀vs H',Ext A H H'->RL R A H' ds vs->Q vs H'):tDA R O f σ H Q
def y8(X:Cx)(O:List Nat)(es:List Expr)(f:Lv):Prop:=PA X es (tDA Rep O f)
def nU(X:Cx)(O:List Nat)(es:List Expr)(f:Lv):Prop:=PA X es (tDA RepB O f)
section
variable {X:Cx}{O:List Nat}
theorem PE.mono(h:PE X e t)(x:∀σ H Q,t' σ H Q->t σ H Q):PE X e t':=λpins s σ H Q I w=>h pins s σ H Q I (x σ H Q w)
theorem PT.mono(h:PT X e t)(x:∀σ H Q,t' σ H Q->t σ H Q):PT X e t':=λpins s σ H Q I w=>h pins s σ H Q I (x σ H Q w)
theorem PW.mono(h:PW X e t)(x:∀σ H Q,t' σ H Q->t σ H Q):PW X e t':=λq pins s σ H Q I w=>h q pins s σ H Q I (x σ H Q w)
theorem PA.mono(h:PA X es t)(x:∀σ H Q,t' σ H Q->t σ H Q):PA X es t':=λpos pins s σ H Q I w=>h pos pins s σ H Q I (x σ H Q w)
theorem PD.b{e:Expr}{f:Ev}(h:PD X O e f):PB X O e f:=PE.mono h λσ H Q ⟨H0,A0,A,E,ρ,d,st,e,q⟩=>⟨H0,A0,A,E,ρ,d,st,e,λv H' x r=>q v H' x (.of r)⟩
theorem RL.toL:∀ {ds:List D} {vs:List V},RL Rep A H ds vs->RepL A H ds vs
 | _,_,.nil=>.nil
 | _,_,.cons h t=>.cons h (RL.toL t)
def aB(i:Nat):Ev:=λρ=>(ρ[i]?).join
def eC(d:D):Ev:=λ_=>some d
theorem cJ{ρ:cY}{i:Nat}{d:D}(h:(ρ[i]?).join=some d):ρ[i]?=some (some d):=by
 cases e:ρ[i]? with
 | none=>rw[e]at h;cases h
 | some o=>rw[e]at h;cases o with
  | none=>cases h
  | some x=>cases h;rfl
theorem TR{e:Expr}(i:Nat)(h:PE X e (sJ i))(n:i∉O):PD X O e (aB i):=PE.mono h <| by
 rintro σ H Q ⟨H0,A0,A,E,ρ,d,st,e,q⟩;obtain⟨v,z,r⟩:=st.val i d (cJ e) n;exact⟨v,z,q v H (Ext.refl _ _) r⟩
theorem J9{e:Expr}(i:Nat)(h:PE X e (sJ i)):PB X O e (aB i):=PE.mono h <| by
 rintro σ H Q ⟨H0,A0,A,E,ρ,d,st,e,q⟩;by_cases n:i∈O
 ·obtain⟨a,z,_,_,r⟩:=st.own i d (cJ e) n
  exact⟨_,z,q _ H (Ext.refl _ _) r.b⟩
 ·obtain⟨v,z,r⟩:=st.val i d (cJ e) n
  exact⟨v,z,q v H (Ext.refl _ _) (.of r)⟩
theorem QW{i j pos}:PD X O (.Constant (.int i) j pos) (eC (.int i)):=PE.mono UD λσ H Q ⟨H0,A0,A,E,ρ,d,st,e,q⟩=>by cases e;exact q _ H (Ext.refl _ _) (.int _)
theorem VU{i j pos}:PD X O (.Constant (.bool i) j pos) (eC (.bl i)):=PE.mono V8 λσ H Q ⟨H0,A0,A,E,ρ,d,st,e,q⟩=>by cases e;exact q _ H (Ext.refl _ _) (.bl _)
theorem P6{i j pos}:PD X O (.Constant (.str i) j pos) (eC (.str i)):=PE.mono SI λσ H Q ⟨H0,A0,A,E,ρ,d,st,e,q⟩=>by cases e;exact q _ H (Ext.refl _ _) (.str _)
theorem S3{j pos}:PD X O (.Constant .none j pos) (eC .non):=PE.mono TK λσ H Q ⟨H0,A0,A,E,ρ,d,st,e,q⟩=>by cases e;exact q _ H (Ext.refl _ _) .non
def Live(A:Av)(H:Hp):Prop:=∀a,A a->H a≠none
theorem Live.ext(l:Live A H)(x:Ext A H H'):Live A H':=λa q=>by
 cases e:H a with
 | none=>exact absurd e (l a q)
 | some u=>rw[x.ow a u q e];exact λz=>nomatch z
inductive rD(g:D->D->Option D)(x y:V)(H:Hp)(Q:VK):Prop
 | mk (A:Av) (dx dy d:D) (lv:Live A H) (rx:RepB A H dx x) (ry:RepB A H dy y) (e:g dx dy=some d) (q:∀v H',Ext A H H'->Rep A H' d v->Q v H'):rD g x y H Q
def eY(X:Cx)(f:Value->Value->Sem Value)(g:D->D->Option D):Prop:=OpR X f (rD g)
theorem OpR.mono(h:OpR X f r)(x:∀a b H Q,r' a b H Q->r a b H Q):OpR X f r':=λpins s σ H a b v u Q I q z w=>h pins s σ H a b v u Q I q z (x a b H Q w)
def aZ(g:D->D->Option D)(z q:Ev):Ev:=λρ=>(z ρ).bind λx=>(q ρ).bind λy=>g x y
theorem bind_some{z q:Type}{o:Option z}{f:z->Option q}{b:q}(h:o.bind f=some b):∃a,o=some a/\f a=some b:=by
 cases o with
 | none=>cases h
 | some a=>exact⟨a,rfl,h⟩
theorem vS{g:D->D->Option D}{J G:Ev}{σ:L2.St}{H:Hp}{Q:VK}(h:tD Rep O (aZ g J G) σ H Q):U3 (rD g) (tD RepB O J) (tD RepB O G) σ H Q:=by
 obtain⟨H0,A0,A,E,ρ,d,st,e,q⟩:=h;obtain⟨x,ex,e⟩:=bind_some e;obtain⟨y,N,e⟩:=bind_some e;exact⟨H0,A0,A,E,ρ,x,st,ex,λv H1 B Y=>⟨H0,A0,A,E,ρ,y,st.mono B,N,λw H2 F M=>⟨A,x,y,d,(st.mono (B.trans F)).live,Y.ext F,M,e,λz U x3 W=>q z U ((B.trans F).trans x3) W⟩⟩⟩
theorem O9(q:eY X (zaW op) g)(B:PB X O a fa)(z:PB X O b fb):PD X O (.BinOp a op b pos) (aZ g fa fb):=
 PE.mono (O0 q B z) λσ H Q h=>vS h
theorem SN(q:eY X (zaq op) g)(B:PB X O a fa)(z:PB X O b fb)(F:zce op b=false):PD X O (.Compare a [op] [b] pos) (aZ g fa fb):=
 PE.mono (OD q B z F) λσ H Q h=>vS h
noncomputable def yZ:D->Option Bool
 | .bl b=>some b
 | _=>none
theorem eB(h:yZ d=some b):d=.bl b:=by
 cases d <;> cases h;rfl
def eJ(f:Ev):Bv:=λρ=>(f ρ).bind yZ
theorem g8{f:Ev}{σ:L2.St}{H:Hp}{Q:Bool->Hp->Prop}(h:tDT O (eJ f) σ H Q):tD Rep O f σ H λx H'=>∃k,x=.bl k/\Q k H':=by
 obtain⟨H0,A0,A,E,ρ,b,st,e,q⟩:=h;obtain⟨x,ex,e⟩:=bind_some e;rw[eB e]at ex;exact⟨H0,A0,A,E,ρ,_,st,ex,λv H1 B z=>⟨b,RepB.bl_inv (.of z),q H1 B⟩⟩
theorem u9(q:eY X (zaq op) g)(B:PB X O a fa)(z:PB X O b fb)(F:zce op b=false):m8 X O (.Compare a [op] [b] pos) (eJ (aZ g fa fb)):=
 PT.mono (C6 q B z F) λσ H Q h=>vS (g8 h)
theorem L7(h:PD X O e f)(z:∀q,isTrue e X.env q=(do let v <- q;standAt e.pos;zco [v] (truthy v)):=by intro _;rfl):m8 X O e (eJ f):=
 PT.mono (Q5 h z) λσ H Q h=>g8 h
def vX(g:Bv):Bv:=λρ=>(g ρ).map (!·)
def sG(g h:Bv):Bv:=λρ=>(g ρ).bind λb=>if b=true then h ρ else some false
def OU(g h:Bv):Bv:=λρ=>(g ρ).bind λb=>if b=true then some true else h ρ
theorem MD(h:m8 X O a g):m8 X O (.UnaryOp .Not a pos) (vX g):=PT.mono (Q2 h) <| by
 rintro σ H Q ⟨H0,A0,A,E,ρ,b,st,e,q⟩;unfold vX at e;cases z:g ρ with
 | none=>rw[z]at e;cases e
 | some c=>rw[z]at e;cases e;exact⟨H0,A0,A,E,ρ,c,st,z,q⟩
theorem G4(h:m8 X O a g):PDW X O (.BoolOp .And [a] pos) g:=LX h
theorem NP(h:m8 X O a g):PDW X O (.BoolOp .Or [a] pos) g:=Q3 h
theorem NT{a b:Expr}{rest:List Expr}{pos:Pos}{g k:Bv}(G:m8 X O a g)(B:PDW X O (.BoolOp .And (b::rest) pos) k):PDW X O (.BoolOp .And (a::b::rest) pos) (sG g k):=
 PW.mono (Q4 G B) <| by
  rintro σ H Q ⟨H0,A0,A,E,ρ,b,st,e,q⟩;obtain⟨x,ex,e⟩:=bind_some e;refine⟨H0,A0,A,E,ρ,x,st,ex,λH1 z=>?_⟩;cases x with
  | false=>rw[if_neg zau]at e ⊢;cases e;exact q H1 z
  | true=>rw[if_pos rfl]at e ⊢;exact⟨H0,A0,A,E,ρ,b,st.mono z,e,λH2 F=>q H2 (z.trans F)⟩
theorem S8{a b:Expr}{rest:List Expr}{pos:Pos}{g k:Bv}(G:m8 X O a g)(B:PDW X O (.BoolOp .Or (b::rest) pos) k):PDW X O (.BoolOp .Or (a::b::rest) pos) (OU g k):=
 PW.mono (WA G B) <| by
  rintro σ H Q ⟨H0,A0,A,E,ρ,b,st,e,q⟩;obtain⟨x,ex,e⟩:=bind_some e;refine⟨H0,A0,A,E,ρ,x,st,ex,λH1 z=>?_⟩;cases x with
  | true=>rw[if_pos rfl]at e ⊢;cases e;exact q H1 z
  | false=>rw[if_neg zau]at e ⊢;exact⟨H0,A0,A,E,ρ,b,st.mono z,e,λH2 F=>q H2 (z.trans F)⟩
def W0(f g:Ev):Ev:=λρ=>(f ρ).bind λx=>(yZ x).bind λb=>if b=true then g ρ else some (.bl false)
def XW(f g:Ev):Ev:=λρ=>(f ρ).bind λx=>(yZ x).bind λb=>if b=true then some (.bl true)else g ρ
def W4(f:Ev):Ev:=λρ=>(f ρ).bind λx=>(yZ x).map λb=>.bl (!b)
def qh(c:Bv)(f g:Ev):Ev:=λρ=>(c ρ).bind λb=>if b=true then f ρ else g ρ
theorem RH{op}(h:PD X O a f):PD X O (.BoolOp op [a] pos) f:=RF h
theorem S5{a b:Expr}{rest:List Expr}{pos:Pos}{f g:Ev}(G:PD X O a f)(F:PD X O (.BoolOp .And (b::rest) pos) g):PD X O (.BoolOp .And (a::b::rest) pos) (W0 f g):=
 PE.mono (S6 G F) <| by
  rintro σ H Q ⟨H0,A0,A,E,ρ,d,st,e,q⟩;obtain⟨x,ex,e⟩:=bind_some e;obtain⟨b,J,e⟩:=bind_some e;rw[eB J]at ex;refine⟨H0,A0,A,E,ρ,_,st,ex,λv H1 z M=>⟨b,RepB.bl_inv (.of M),?_⟩⟩;cases b with
  | false=>rw[if_neg zau]at e ⊢;cases e;exact q _ H1 z (.bl _)
  | true=>rw[if_pos rfl]at e ⊢;exact⟨H0,A0,A,E,ρ,d,st.mono z,e,λw H2 B=>q w H2 (z.trans B)⟩
theorem U9{a b:Expr}{rest:List Expr}{pos:Pos}{f g:Ev}(G:PD X O a f)(F:PD X O (.BoolOp .Or (b::rest) pos) g):PD X O (.BoolOp .Or (a::b::rest) pos) (XW f g):=
 PE.mono (WE G F) <| by
  rintro σ H Q ⟨H0,A0,A,E,ρ,d,st,e,q⟩;obtain⟨x,ex,e⟩:=bind_some e;obtain⟨b,J,e⟩:=bind_some e;rw[eB J]at ex;refine⟨H0,A0,A,E,ρ,_,st,ex,λv H1 z M=>⟨b,RepB.bl_inv (.of M),?_⟩⟩;cases b with
  | true=>rw[if_pos rfl]at e ⊢;cases e;exact q _ H1 z (.bl _)
  | false=>rw[if_neg zau]at e ⊢;exact⟨H0,A0,A,E,ρ,d,st.mono z,e,λw H2 B=>q w H2 (z.trans B)⟩
theorem RE{a:Expr}{pos:Pos}{f:Ev}(G:PD X O a f):PD X O (.UnaryOp .Not a pos) (W4 f):=
 PE.mono (SS G) <| by
  rintro σ H Q ⟨H0,A0,A,E,ρ,d,st,e,q⟩;obtain⟨x,ex,e⟩:=bind_some e;cases z:yZ x with
  | none=>rw[z]at e;cases e
  | some b=>
   rw[z]at e;cases e;rw[eB z]at ex;exact⟨H0,A0,A,E,ρ,_,st,ex,λv H1 F B=>⟨b,RepB.bl_inv (.of B),q _ H1 F (.bl _)⟩⟩
theorem U7{c a b:Expr}{pos:Pos}{g:Bv}{f k:Ev}(M:m8 X O c g)(G:PD X O a f)(F:PD X O b k):PD X O (.IfExp c a b pos) (qh g f k):=
 PE.mono (HD M G F) <| by
  rintro σ H Q ⟨H0,A0,A,E,ρ,d,st,e,q⟩;obtain⟨b,J,e⟩:=bind_some e;refine⟨H0,A0,A,E,ρ,b,st,J,λH1 z=>?_⟩;cases b with
  | true=>rw[if_pos rfl]at e ⊢;exact⟨H0,A0,A,E,ρ,d,st.mono z,e,λw H2 B=>q w H2 (z.trans B)⟩
  | false=>rw[if_neg zau]at e ⊢;exact⟨H0,A0,A,E,ρ,d,st.mono z,e,λw H2 B=>q w H2 (z.trans B)⟩
def fZ(g g':D->D->Option D)(F B q:Ev):Ev:=λρ=>(F ρ).bind λx=>(B ρ).bind λy=>(g x y).bind λz=>(yZ z).bind λb=>if b=true then(q ρ).bind λw=>g' y w else some (.bl false)
end
section
variable {X:Cx}{O:List Nat}
theorem tE(h:tD Rep O (fZ g g' fa fb fc) σ H Q):AY (rD g) (rD g') (tD RepB O fa) (tD RepB O fb) (tD RepB O fc) σ H Q:=by
 obtain⟨H0,A0,A,E,ρ,d,st,e,q⟩:=h;obtain⟨x,ex,e⟩:=bind_some e;obtain⟨y,ey,e⟩:=bind_some e;obtain⟨z,U,e⟩:=bind_some e;obtain⟨b,W,e⟩:=bind_some e;rw[eB W]at U;refine⟨H0,A0,A,E,ρ,x,st,ex,λv H1 G r1=>⟨H0,A0,A,E,ρ,y,st.mono G,ey,λw H2 J N=>⟨A,x,y,_,(st.mono (G.trans J)).live,r1.ext J,N,U,λz Y M r3=>⟨b,RepB.bl_inv (.of r3),?_⟩⟩⟩⟩;have B:=(G.trans J).trans M;cases b with
 | false=>rw[if_neg zau]at e ⊢;cases e;exact q _ Y B (.bl _)
 | true=>
  rw[if_pos rfl]at e ⊢;obtain⟨u,eu,e⟩:=bind_some e;exact⟨H0,A0,A,E,ρ,u,st.mono B,eu,λz' H4 F r4=>⟨A,y,u,d,(st.mono (B.trans F)).live,N.ext (M.trans F),r4,e,λz2 H5 x5 r5=>q z2 H5 ((B.trans F).trans x5) r5⟩⟩
theorem HE(z:eY X (zaq op) g)(q:eY X (zaq op') g')(F:PB X O a fa)(B:PB X O b fb)(G:PB X O c fc)
  (J:zcW [op,op'] [b,c]=false:=by with_unfolding_all rfl):PD X O (.Compare a [op,op'] [b,c] pos) (fZ g g' fa fb fc):=PE.mono (GS z q F B G J) λσ H Q h=>tE h
theorem DY(z:eY X (zaq op) g)(q:eY X (zaq op') g')(F:PB X O a fa)(B:PB X O b fb)(G:PB X O c fc)
  (J:zcW [op,op'] [b,c]=false:=by with_unfolding_all rfl):m8 X O (.Compare a [op,op'] [b,c] pos) (eJ (fZ g g' fa fb fc)):=PT.mono (HN z q F B G J) λσ H Q h=>tE (g8 h)
def aY:Lv:=λ_=>some []
def aC(f:Ev)(g:Lv):Lv:=λρ=>(f ρ).bind λx=>(g ρ).bind λxs=>some (x::xs)
theorem MI:y8 X O [] aY:=PA.mono lM λσ H Q ⟨H0,A0,A,E,ρ,d,st,e,q⟩=>by cases e;exact q [] H (Ext.refl _ _) .nil
theorem B2:nU X O [] aY:=PA.mono lM λσ H Q ⟨H0,A0,A,E,ρ,d,st,e,q⟩=>by cases e;exact q [] H (Ext.refl _ _) .nil
theorem wW(J:∀A H H' d v,Ext A H H'->R A H d v->R A H' d v)(h:tDA R O (aC f g) σ H Q):DM (tD R O f) (tDA R O g) σ H Q:=by
 obtain⟨H0,A0,A,E,ρ,d,st,e,q⟩:=h;obtain⟨x,ex,e⟩:=bind_some e;obtain⟨xs,z,e⟩:=bind_some e;cases e;exact⟨H0,A0,A,E,ρ,x,st,ex,λv H1 B M=>⟨H0,A0,A,E,ρ,xs,st.mono B,z,λvs H2 F G=>q (v::vs) H2 (B.trans F) (.cons (J _ _ _ _ _ F M) G)⟩⟩
theorem GZ(z:PD X O e f)(q:y8 X O es g)(hs:zah (e::es) X.env=(false,eval e X.env)::zah es X.env:=by rfl):y8 X O (e::es) (aC f g):=
 PA.mono (fW z q hs) λσ H Q h=>wW (λ_ _ _ _ _ x r=>r.ext x) h
theorem yJ(z:PB X O e f)(q:nU X O es g)(hs:zah (e::es) X.env=(false,eval e X.env)::zah es X.env:=by rfl):nU X O (e::es) (aC f g):=
 PA.mono (fW z q hs) λσ H Q h=>wW (λ_ _ _ _ _ x r=>r.ext x) h
inductive tF(O:List Nat)(f:Ev)(σ:L2.St)(H:Hp)(Q:VK):Prop
 | mk (H0:Hp) (A0 A:Av) (E:List Fact) (ρ:cY) (d:D) (st:ST H0 A0 A E O σ H ρ) (e:f ρ=some d) (q:∀a H',Ext A H H'->H a=none->¬ A a->Own (λb=>A b\/b=a) H' d a->Q (.ref a) H'):tF O f σ H Q
def PF(X:Cx)(O:List Nat)(e:Expr)(f:Ev):Prop:=PE X e (tF O f)
theorem PF.d(h:PF X O e f):PD X O e f:=PE.mono h λσ H Q ⟨H0,A0,A,E,ρ,d,st,e,q⟩=>
 ⟨H0,A0,A,E,ρ,d,st,e,λa H' x n z o=>q _ H' x ((o.av (A':=A) λb B=>.inl (.inl B)).rep z)⟩
theorem RepL.fresh(n:H p=none)(r:RepL A H ds vs):RepL (λb=>A b\/b=p) (upd H p o) ds vs:=by
 have z:RepL (λb=>A b\/b=p) H ds vs:=r.av λb q=>by
  rcases q with q|q
  ·exact .inl q
  ·exact .inr (q ▸ n)
 exact z.ext (Ext.new n)
theorem Ext.free(x:Ext A H H')(n:H' p=none):H p=none:=by
 cases e:H p with
 | none=>rfl
 | some u=>rcases x.rd p u (.inl e)with h|⟨o,h⟩ <;> (rw[n]at h;cases h)
def iC(g:Lv):Ev:=λρ=>(g ρ).map .tup
def F1(g:Lv):Ev:=λρ=>(g ρ).map .lst
theorem RL.length:∀ {ds:List D} {vs:List V},RL R A H ds vs->vs.length=ds.length
 | _,_,.nil=>rfl
 | _,_,.cons _ t=>by rw[zaT,zaT,RL.length t]
noncomputable def aX(n:Nat):Bool:=decide (n<=1000000)
theorem fV(h:aX n=true):n<=zaj:=zbd (of_decide_eq_true h) (by decide)
theorem nQ(h:aX n=true):n<zaj:=zd8 (of_decide_eq_true h) (by decide)
theorem map_some{z q:Type}{o:Option z}{f:z->q}{b:q}(h:o.map f=some b):∃a,o=some a/\f a=b:=by
 cases o with
 | none=>cases h
 | some a=>exact⟨a,rfl,zaI h⟩
def Len(g:Lv)(n:Nat):Prop:=∀ρ ds,g ρ=some ds->ds.length=n
theorem N6:Len aY 0:=λρ ds h=>by cases h;rfl
theorem GO(h:Len g n):Len (aC f g) (n+1):=λρ ds e=>by
 obtain⟨x,ex,e⟩:=bind_some e;obtain⟨xs,q,e⟩:=bind_some e;cases e;rw[zaT,h ρ xs q]
theorem JF{es:List Expr}{z}{pos:Pos}{g:Lv}(h:y8 X O es g)(J:∀ρ ds,g ρ=some ds->ds.length<=100):PD X O (.Tuple es z pos) (iC g):=PE.mono (R8 h) <| by
 rintro σ H Q ⟨H0,A0,A,E,ρ,d,st,e,q⟩;obtain⟨ds,G,rfl⟩:=map_some e;refine⟨H0,A0,A,E,ρ,ds,st,G,λvs H1 z F=>⟨by rw[F.length];exact zbd (J ρ ds G) (by decide),λp B=>?_⟩⟩;exact q _ _ (z.trans (Ext.new B)) (.tup aI (F.toL.ext (Ext.new B)))
theorem JJ{es:List Expr}{pos:Pos}{g:Lv}(h:y8 X O es g)(M:∀ρ ds,g ρ=some ds->ds.length<=100):PF X O (.List es pos) (F1 g):=PE.mono (RN h) <| by
 rintro σ H Q ⟨H0,A0,A,E,ρ,d,st,e,q⟩;obtain⟨ds,J,rfl⟩:=map_some e;refine⟨H0,A0,A,E,ρ,ds,st,J,λvs H1 F G=>⟨by rw[G.length];exact zbd (M ρ ds J) (by decide),λp B=>?_⟩⟩;exact q p _ (F.trans (Ext.new B)) (F.free B) (λz=>(st.mono F).live p z B) (.lst aI (G.toL.fresh B))
theorem kE:PF X O (.Dict [] [] pos) (eC (.dT [])):=PE.mono G1 <| by
 rintro σ H Q ⟨H0,A0,A,E,ρ,d,st,e,q⟩ p B;cases e;exact q p _ (Ext.new B) B (λz=>st.live p z B) (.dT aI rfl .nil)
inductive rC(g:List D->Option D)(xs:List V)(H:Hp)(Q:VK):Prop
 | mk (A:Av) (ds:List D) (d:D) (lv:Live A H) (r:RL RepB A H ds xs) (e:g ds=some d) (q:∀v H',Ext A H H'->Rep A H' d v->Q v H'):rC g xs H Q
inductive rCF(g:List D->Option D)(xs:List V)(H:Hp)(Q:VK):Prop
 | mk (A:Av) (ds:List D) (d:D) (lv:Live A H) (r:RL RepB A H ds xs) (e:g ds=some d) (q:∀a H',Ext A H H'->H a=none->¬ A a->Own (λb=>A b\/b=a) H' d a->Q (.ref a) H'):rCF g xs H Q
def hW(X:Cx)(f:Value)(g:List D->Option D):Prop:=CallR X f (rC g)
def yP(X:Cx)(f:Value)(g:List D->Option D):Prop:=CallR X f (rCF g)
theorem CallR.mono(h:CallR X f r)(x:∀a H Q,r' a H Q->r a H Q):CallR X f r':=λpins s σ H a v Q I q w=>h pins s σ H a v Q I q (x a H Q w)
def aP(g:List D->Option D)(f:Lv):Ev:=λρ=>(f ρ).bind g
theorem sT(h:tD Rep O (aP g f) σ H Q):X8 (rC g) (tDA RepB O f) σ H Q:=by
 obtain⟨H0,A0,A,E,ρ,d,st,e,q⟩:=h;obtain⟨ds,J,e⟩:=bind_some e;exact⟨H0,A0,A,E,ρ,ds,st,J,λvs H1 z G=>⟨A,ds,d,(st.mono z).live,G,e,λv H2 F B=>q v H2 (z.trans F) B⟩⟩
theorem EE(h:tF O (aP g f) σ H Q):X8 (rCF g) (tDA RepB O f) σ H Q:=by
 obtain⟨H0,A0,A,E,ρ,d,st,e,q⟩:=h;obtain⟨ds,J,e⟩:=bind_some e;exact⟨H0,A0,A,E,ρ,ds,st,J,λvs H1 z G=>⟨A,ds,d,(st.mono z).live,G,e,λa H2 F n B o=>q a H2 (z.trans F) (z.free n) B o⟩⟩
section
variable {x:Str}{id T:String}{g:List D->Option D}{e:Expr}{es:List Expr}{f:Lv}{p pos:Pos}
theorem G7(J:hW X (.builtin id) g)(G:Gl X x)(U:X.mg x=none)(B:zaM x=some (.builtin id))(F:nU X O (e::es) f)(N:x ≠ "__name__" := by decide)(z:(x == ("__debug__" : Str))=false:=by decide)
  (M:zah (e::es) X.env=(false,eval e X.env)::zah es X.env:=by rfl) (q:(zaJ pos (zah es X.env)).any (·.1)=false:=by rfl) :
  PD X O (.Call (.Name x p) (e::es) [] pos) (aP g f):=PE.mono (qB J G U B F N z M q) λσ H Q h=>sT h
theorem FB(J:hW X (.type T) g)(G:Gl X x)(U:X.mg x=none)(B:zaM x=some (.type T))(F:nU X O (e::es) f)(N:x ≠ "__name__" := by decide)(z:(x == ("__debug__" : Str))=false:=by decide)
  (M:zah (e::es) X.env=(false,eval e X.env)::zah es X.env:=by rfl) (q:(zaJ pos (zah es X.env)).any (·.1)=false:=by rfl) :
  PD X O (.Call (.Name x p) (e::es) [] pos) (aP g f):=PE.mono (tU J G U B F N z M q) λσ H Q h=>sT h
theorem DX(J:yP X (.type T) g)(G:Gl X x)(U:X.mg x=none)(B:zaM x=some (.type T))(F:nU X O (e::es) f)(N:x ≠ "__name__" := by decide)(z:(x == ("__debug__" : Str))=false:=by decide)
  (M:zah (e::es) X.env=(false,eval e X.env)::zah es X.env:=by rfl) (q:(zaJ pos (zah es X.env)).any (·.1)=false:=by rfl) :
  PF X O (.Call (.Name x p) (e::es) [] pos) (aP g f):=PE.mono (tU J G U B F N z M q) λσ H Q h=>EE h
end
def spD(n:Nat)(F:List D->Option D):Sp:=λvs H Q _=>∃A ds d,Live A H/\RepL A H ds vs/\vs.length=n/\F ds=some d/\∀v H',Ext A H H'->Rep A H' d v->Q v H'
def Fn(P:zam)(w:World)(K:zaf)(mg:Str->Option Value)(base:Heap)(x:Str)(k:Nat)(ps:List Str)(F:List D->Option D):Prop:=My.Ok P w K mg base x k ps (spD ps.length F)
theorem Fn.mono{P:zam}{w:World}{K:zaf}{mg:Str->Option Value}{base:Heap}{x:Str}{j k:Nat}{ps:List Str}{F:List D->Option D}(h:Fn P w K mg base x j ps F)(l:j<=k):Fn P w K mg base x k ps F:=My.Ok.mono h l
theorem ME(O':Fn X.prog X.w X.K X.mg X.base x k ps F)(U:Room k X.A)(hg:Gl X x)(ha:y8 X O (e::es) f)(Y:∀ρ ds,f ρ=some ds->ds.length=ps.length)(B:(x == ("__debug__" : Str))=false:=by decide)
  (he:zah (e::es) X.env=(false,eval e X.env)::zah es X.env:=by rfl) (z:(zaJ pos (zah es X.env)).any (·.1)=false:=by rfl) :
  PD X O (.Call (.Name x p) (e::es) [] pos) (aP F f):=PE.mono (My.IC O' U hg ha B he z) λσ H Q ⟨H0,A0,A,E,ρ,d,st,e,q⟩=>by
 obtain⟨ds,M,e⟩:=bind_some e;exact⟨H0,A0,A,E,ρ,ds,st,M,λvs H1 G J=>⟨A,ds,d,(st.mono G).live,J.toL,by rw[J.length];exact Y ρ ds M,e,λv H2 W N=>q v H2 (G.trans W) N⟩⟩
theorem IxR.mono(h:IxR X r)(x:∀a b H Q,r' a b H Q->r a b H Q):IxR X r':=λB q pins s σ H a b v u Q I z F w=>h B q pins s σ H a b v u Q I z F (x a b H Q w)
def X6:D->D->Option D
 | .lst l,.int i=>dX l i
 | .tup l,.int i=>dX l i
 | .str z,.int i=>if aX z.length then(dX z.cps.toList i).map λc=>.str ⟨#[c]⟩else none
 | _,_=>none
theorem RepL.at(r:RepL A H ds vs)(h:dX ds i=some d):∃v,dX vs i=some v/\Rep A H d v:=by
 obtain⟨j,B,q⟩:=bind_some h;obtain⟨v,z,F⟩:=r.get' q;refine⟨v,?_,F⟩;unfold dX;rw[r.length,B];exact z
theorem YE:IxR X (rD X6):=IxR.mono QO <| by
 rintro x y H Q ⟨A,dx,J,d,N,G,M,e,q⟩;cases J with
 | int i=>
  have:=M.int_inv;subst this;cases dx with
  | lst l=>
   obtain⟨a,xs,rfl,h,r⟩:=G.lst_inv;obtain⟨v,B,F⟩:=r.at e;exact .inl ⟨a,xs,i,v,rfl,rfl,.inl h,B,q v H (Ext.refl _ _) F⟩
  | tup l=>
   obtain⟨a,xs,rfl,h,r⟩:=G.tup_inv;obtain⟨v,B,F⟩:=r.at e;exact .inr (.inl ⟨a,xs,i,v,rfl,rfl,.inl (.inl h),B,q v H (Ext.refl _ _) F⟩)
  | str z=>
   have:=G.str_inv;subst this;simp only[X6]at e;by_cases hz:aX z.length=true
   ·rw[if_pos hz]at e
    obtain⟨c,B,rfl⟩:=map_some e;exact .inr (.inr ⟨z,i,c,rfl,rfl,fV hz,B,q _ H (Ext.refl _ _) (.str _)⟩)
   ·rw[if_neg hz]at e;cases e
  | _=>cases e
 | _=>cases dx <;> cases e
abbrev Ov:=cY->Option (Option Int)
inductive tDO(O:List Nat)(g:Ov)(σ:L2.St)(H:Hp)(Q:Option Int->Hp->Prop):Prop
 | mk (H0:Hp) (A0 A:Av) (E:List Fact) (ρ:cY) (o:Option Int) (st:ST H0 A0 A E O σ H ρ) (e:g ρ=some o) (q:∀H',Ext A H H'->Q o H'):tDO O g σ H Q
def PY(X:Cx)(O:List Nat)(e:Option Expr)(g:Ov):Prop:=PO X e (tDO O g)
theorem PO.mono(h:PO X e t)(x:∀σ H Q,t' σ H Q->t σ H Q):PO X e t':=λpins s σ H Q I w=>h pins s σ H Q I (x σ H Q w)
def rP:Ov:=λ_=>some none
noncomputable def P4:D->Option Int
 | .int i=>some i
 | _=>none
theorem qI(h:P4 d=some i):d=.int i:=by cases d <;> cases h;rfl
def kT(f:Ev):Ov:=λρ=>(f ρ).bind λd=>(P4 d).map some
theorem IL:PY X O none rP:=PO.mono N0 λσ H Q ⟨H0,A0,A,E,ρ,d,st,e,q⟩=>by cases e;exact q H (Ext.refl _ _)
theorem GX{e:Expr}{f:Ev}(h:PD X O e f):PY X O (some e) (kT f):=PO.mono (M6 h) <| by
 rintro σ H Q ⟨H0,A0,A,E,ρ,d,st,e,q⟩;obtain⟨x,ex,e⟩:=bind_some e;obtain⟨i,F,rfl⟩:=map_some e;rw[qI F]at ex;exact⟨H0,A0,A,E,ρ,_,st,ex,λv H1 B z=>⟨i,RepB.int_inv (.of z),q H1 B⟩⟩
def cutD(xs:List D)(lo hi:Option Int):List D:=(xs.drop (HT.sIx xs.length 0 lo)).take (HT.sIx xs.length xs.length hi-HT.sIx xs.length 0 lo)
theorem RepL.cut{ds:List D}{vs:List V}{lo hi:Option Int}(r:RepL A H ds vs):RepL A H (cutD ds lo hi) (sF vs lo hi):=by
 unfold cutD sF;rw[r.length];exact(r.drop _).take _
def K5(g:D->Option Int->Option Int->Option D)(f:Ev)(a b:Ov):Ev:=λρ=>(f ρ).bind λx=>(a ρ).bind λlo=>(b ρ).bind λhi=>g x lo hi
inductive rS(g:D->Option Int->Option Int->Option D)(x:V)(lo hi:Option Int)(H:Hp)(Q:VK):Prop
 | mk (A:Av) (dx d:D) (lv:Live A H) (r:RepB A H dx x) (e:g dx lo hi=some d) (q:∀v H',Ext A H H'->Rep A H' d v->Q v H'):rS g x lo hi H Q
inductive rSF(g:D->Option Int->Option Int->Option D)(x:V)(lo hi:Option Int)(H:Hp)(Q:VK):Prop
 | mk (A:Av) (dx d:D) (lv:Live A H) (r:RepB A H dx x) (e:g dx lo hi=some d) (q:∀a H',Ext A H H'->H a=none->¬ A a->Own (λb=>A b\/b=a) H' d a->Q (.ref a) H'):rSF g x lo hi H Q
theorem SlR.mono(h:SlR X r)(x:∀a b c H Q,r' a b c H Q->r a b c H Q):SlR X r':=λpins s σ H a v F J lo hi z Q I B hs q G w=>h pins s σ H a v F J lo hi z Q I B hs q G (x a lo hi H Q w)
def ZK:D->Option Int->Option Int->Option D
 | .tup l,lo,hi=>some (.tup (cutD l lo hi))
 | _,_,_=>none
def XB:D->Option Int->Option Int->Option D
 | .lst l,lo,hi=>some (.lst (cutD l lo hi))
 | _,_,_=>none
theorem HA{lo hi:Option Expr}{g:D->Option Int->Option Int->Option D}{a b:Ov}(M:SlR X (rS g))(he:PB X O e f)(W:PY X O lo a)(N:PY X O hi b):PD X O (.Subscript e (.Slice lo hi none p2) pos) (K5 g f a b):=
 PE.mono (G9 M he W N) <| by
  rintro σ H Q ⟨H0,A0,A,E,ρ,d,st,e,q⟩;obtain⟨x,ex,e⟩:=bind_some e;obtain⟨l,el,e⟩:=bind_some e;obtain⟨h,J,e⟩:=bind_some e;exact⟨H0,A0,A,E,ρ,x,st,ex,λv H1 z r1=>⟨H0,A0,A,E,ρ,l,st.mono z,el,λH2 B=>⟨H0,A0,A,E,ρ,h,st.mono (z.trans B),J,λH3 F=>⟨A,x,d,(st.mono ((z.trans B).trans F)).live,r1.ext (B.trans F),e,λv Y G U=>q v Y (((z.trans B).trans F).trans G) U⟩⟩⟩⟩
theorem YJ:SlR X (rS ZK):=SlR.mono My.NN <| by
 rintro x lo hi H Q ⟨A,dx,d,G,B,e,q⟩;cases dx with
 | tup l=>
  obtain⟨a,xs,rfl,h,r⟩:=B.tup_inv;cases e;by_cases w:HT.sIx xs.length 0 lo=0/\HT.sIx xs.length xs.length hi=xs.length
  ·refine .inr ⟨a,xs,rfl,.inl (.inl h),w,q _ H (Ext.refl _ _) (.tup h ?_)⟩
   have F:sF xs lo hi=xs:=by unfold sF;rw[w.1,w.2];simp
   rw[<- F];exact r.cut
  ·exact .inl ⟨a,xs,rfl,.inl (.inl h),w,λp z=>q _ _ (Ext.new z) (.tup aI (r.cut.ext (Ext.new z)))⟩
 | _=>cases e
theorem ZV:SlR X (rSF XB):=SlR.mono M0 <| by
 rintro x lo hi H Q ⟨A,dx,d,G,F,e,q⟩;cases dx with
 | lst l=>
  obtain⟨a,xs,rfl,h,r⟩:=F.lst_inv;cases e;exact⟨a,xs,rfl,.inl h,λp B=>q p _ (Ext.new B) B (λz=>G p z B) (.lst aI (r.cut.fresh B))⟩
 | _=>cases e
end
inductive Out where
 | nx (ρ:cY)|rt (d:D)|bk (ρ:cY)|ct (ρ:cY)
abbrev Sv:=cY->Option Out
structure Lp where
 ob:List Nat
 oc:List Nat
def ZN(L:Lp)(H0:Hp)(A0:Av)(E:List Fact)(O':List Nat)(T:Ends):Out->Prop
 | .nx ρ=>∀A σ H,ST H0 A0 A E O' σ H ρ->T.nx σ H
 | .rt d=>∀v H,Ext A0 H0 H->Rep A0 H d v->T.rt v H
 | .bk ρ=>∀A σ H,ST H0 A0 A E L.ob σ H ρ->T.bk σ H
 | .ct ρ=>∀A σ H,ST H0 A0 A E L.oc σ H ρ->T.ct σ H
inductive tS(L:Lp)(O:List Nat)(f:Sv)(O':List Nat)(T:Ends)(σ:L2.St)(H:Hp):Prop
 | mk (H0:Hp) (A0 A:Av) (E:List Fact) (ρ:cY) (out:Out) (st:ST H0 A0 A E O σ H ρ) (e:f ρ=some out) (p:ZN L H0 A0 E O' T out):tS L O f O' T σ H
def iD(X:Cx)(L:Lp)(O:List Nat)(st:Stmt)(f:Sv)(O':List Nat):Prop:=PS X st (tS L O f O')
def dM(X:Cx)(L:Lp)(O:List Nat)(st:List Stmt)(f:Sv)(O':List Nat):Prop:=PSs X st (tS L O f O')
section
variable {X:Cx}{L:Lp}{O O' O2:List Nat}
theorem PS.mono{st:Stmt}{t t':TS}(h:PS X st t)(x:∀T σ H,t' T σ H->t T σ H):PS X st t':=λpins s σ H T I w=>h pins s σ H T I (x T σ H w)
theorem PSs.mono{st:List Stmt}{t t':TS}(h:PSs X st t)(x:∀T σ H,t' T σ H->t T σ H):PSs X st t':=λpins s σ H T I w=>h pins s σ H T I (x T σ H w)
noncomputable def Sub(a b:List Nat):Bool:=a.all λi=>b.contains i
theorem Sub.mem(h:Sub a b=true)(i:Nat)(hi:i∈a):i∈b:=by
 have:=(List.all_eq_true.mp h) i hi;simpa using this
def vY:Sv:=λρ=>some (.nx ρ)
def bD(f g:Sv):Sv:=λρ=>(f ρ).bind λo=>match o with
 | .nx ρ'=>g ρ'
 | o=>some o
theorem CO(h:Sub O' O=true:=by rfl):dM X L O [] vY O':=PSs.mono NO <| by
 rintro T σ H ⟨H0,A0,A,E,ρ,z,st,e,p⟩;cases e;obtain⟨A',q⟩:=st.shut (Sub.mem h);exact p A' σ H q
theorem ND(h:tS L O (bD f g) O' T σ H):XD (tS L O f O2) (tS L O2 g O') T σ H:=by
 obtain⟨H0,A0,A,E,ρ,z,st,e,p⟩:=h;obtain⟨o,B,e⟩:=bind_some e;refine⟨H0,A0,A,E,ρ,o,st,B,?_⟩;cases o with
 | nx ρ'=>exact λA' F H' q=>⟨H0,A0,A',E,ρ',z,q,e,p⟩
 | rt d=>cases e;exact p
 | bk d=>cases e;exact p
 | ct d=>cases e;exact p
theorem GV{st:Stmt}{rest:List Stmt}{f g:Sv}(h1:iD X L O st f O2)(h2:dM X L O2 rest g O'):dM X L O (st::rest) (bD f g) O':=PSs.mono (G6 h1 h2) λT σ H h=>ND h
theorem aG{st:Stmt}{f:Sv}(h1:iD X L O st f O'):dM X L O [st] f O':=NK h1
def BU(f:Ev):Sv:=λρ=>(f ρ).map .rt
theorem MH{e:Expr}{pos:Pos}{f:Ev}(z:PD X O e f):iD X L O (.Return (some e) pos) (BU f) O':=PS.mono (RM z) <| by
 rintro T σ H ⟨H0,A0,A,E,ρ,q,st,e,p⟩;obtain⟨d,B,rfl⟩:=map_some e;exact⟨H0,A0,A,E,ρ,d,st,B,λv H' x r=>p v H' (st.mono x).ex (r.av λa F=>.inl (st.sub a F))⟩
def KH(f:Ev):Sv:=λρ=>(f ρ).map λ_=>.nx ρ
theorem HI{e:Expr}{pos:Pos}{f:Ev}(B:PB X O e f)(hs:za6 e none pos.line X.env=pure false:=by rfl)(h:Sub O' O=true:=by rfl):iD X L O (.Expr e pos) (KH f) O':=PS.mono (CI B hs) <| by
 rintro T σ H ⟨H0,A0,A,E,ρ,z,st,e,p⟩;obtain⟨d,F,rfl⟩:=map_some e;refine⟨H0,A0,A,E,ρ,d,st,F,λv H' x r=>?_⟩;obtain⟨A',q⟩:=(st.mono x).shut (Sub.mem h);exact p A' σ H' q
def nT(c:Bv)(f g:Sv):Sv:=λρ=>(c ρ).bind λb=>if b=true then f ρ else g ρ
theorem BE{c:Expr}{a b:List Stmt}{pos:Pos}{g:Bv}{f k:Sv}(J:m8 X O c g)(F:dM X L O a f O')(B:dM X L O b k O'):iD X L O (.If c a b pos) (nT g f k) O':=PS.mono (VR J F B) <| by
 rintro T σ H ⟨H0,A0,A,E,ρ,q,st,e,p⟩;obtain⟨b,G,e⟩:=bind_some e;refine⟨H0,A0,A,E,ρ,b,st,G,λH1 z=>?_⟩;cases b with
 | true=>rw[if_pos rfl]at e ⊢;exact⟨H0,A0,A,E,ρ,q,st.mono z,e,p⟩
 | false=>rw[if_neg zau]at e ⊢;exact⟨H0,A0,A,E,ρ,q,st.mono z,e,p⟩
def bQ(i:Nat)(f:Ev):Sv:=λρ=>(f ρ).map λd=>.nx (ρ.set i (some d))
theorem Sub.er{a b:List Nat}{i j:Nat}(h:Sub a (b.filter (· != i))=true)(q:j∈a):j∈b/\j≠i:=by
 have:=Sub.mem h j q;rw[List.mem_filter]at this;exact⟨this.1,by simpa using this.2⟩
theorem DA{i:Nat}{x:Str}{e:Expr}{pos pos':Pos}{f:Ev}(U:X.N.Nodup)(hi:X.N[i]?=some x)(G:Loc X.env.scope x)(Y:PD X O e f)(h:Sub O' (O.filter (· != i))=true:=by rfl)
  (hs:za6 e (some (.Name x pos')) pos.line X.env=pure false:=by rfl) (hf:X.fn x=true\/X.env.scope.names.lookup x=some .local:=by first|exact .inl rfl|exact .inr rfl):iD X L O (.Assign [.Name x pos'] e pos) (bQ i f) O':=
 PS.mono (JU U hi G Y hs hf) <| by
  rintro T σ H ⟨H0,A0,A,E,ρ,M,st,e,p⟩;obtain⟨d,e1,rfl⟩:=map_some e;refine⟨H0,A0,A,E,ρ,d,st,e1,λv H' x r=>?_⟩
  -- i leaves what may be written ahead of the store: the value is borne by fewer too
  have F:=(st.mono x).more r;obtain⟨A',B⟩:=F.shut (O':=O') λj J=>(Sub.er h J).1
  exact p A' _ H' ((B.put (B.ext _ (zas ..)) λz=>(Sub.er h z).2 rfl).less λq W=>zav _ W)
theorem Own.there:Own A H d a->H a≠none
 | .lst h _=>by rw[h];exact λz=>nomatch z
 | .dK h _ _=>by rw[h];exact λz=>nomatch z
 | .dT h _ _=>by rw[h];exact λz=>nomatch z
theorem ST.own_put(s:ST H0 A0 A E O σ H ρ)(x:Ext A H H')(n:H a=none)(na:¬ A a)(o:Own (λb=>A b\/b=a) H' d a)(ni:i∉O) :
  ST H0 A0 (λb=>A b\/b=a) E (i::O) (σ.set i (some (.ref a))) H' (ρ.set i (some d)):=by
 have s':=s.mono x;have n0:H0 a=none:=s.ex.free n
 -- whatever was borne ahead avoids a
 have G:Ext (λb=>A b\/b=a) H H':=⟨x.rd,x.kp,λb u q e=>q.elim (λq=>x.ow b u q e) λq=>(by subst q;rw[n]at e;exact nomatch e),x.fz⟩;have Y:∀ {p:Fact},p.Holds A H->p.Holds (λb=>A b\/b=a) H':=λr=>Fact.ext G (Fact.av (A':=λb=>A b\/b=a) (λb q=>by
   rcases q with q|q
   ·exact .inl q
   ·exact .inr (q ▸ n)) r)
 have up:∀ {d:D} {v:V},Rep A H d v->Rep (λb=>A b\/b=a) H' d v:=λr=>by
  have r1:Rep (λb=>A b\/b=a) H _ _:=r.av λb q=>by
   rcases q with q|q
   ·exact .inl q
   ·exact .inr (q ▸ n)
  exact r1.ext G
 have aa:∀ {d:D} {b:Addr},A b->Own A H d b->Own (λc=>A c\/c=a) H' d b:=λq r=>by
  have r1:Own (λc=>A c\/c=a) H _ _:=r.av λb q=>by
   rcases q with q|q
   ·exact .inl q
   ·exact .inr (q ▸ n)
  exact r1.ext G (.inl q)
 have ha:H' a≠none:=o.there;refine⟨s'.ex,λb q=>.inl (s.sub b q),s.l0,λb q=>?_,by simp[s.len],λj d' h' U=>?_,λj d' h' U=>?_,λj k d1 d2 b hj hk h1 h2 F N=>?_,λp hp=>Y (s.ext p hp)⟩
 ·rcases q with q|q
  ·exact s'.live b q
  ·subst q;exact ha
 ·rcases dO h' with⟨e,B,l⟩|⟨e,B⟩
  ·exact absurd (List.mem_cons.mpr (.inl e)) U
  ·obtain⟨w,h1,h2⟩:=s.val j d' B λz=>U (zav _ z)
   exact⟨w,by rw[jU e];exact h1,up h2⟩
 ·rcases dO h' with⟨e,B,l⟩|⟨e,B⟩
  ·subst e;cases B
   exact⟨a,sig_set (by rw[s.len];exact l),.inr rfl,n0,o⟩
  ·rcases List.mem_cons.mp U with z|z
   ·exact absurd z e
   ·obtain⟨w,h1,h2,F,N⟩:=s.own j d' B z
    exact⟨w,by rw[jU e];exact h1,.inl h2,F,aa h2 N⟩
 ·have J:∀ {j:Nat} {d1:D},j∈i::O->(ρ.set i (some d))[j]?=some (some d1)->(σ.set i (some (.ref a)))[j]?=some (some (.ref b))->(j=i/\b=a)\/(j≠i/\j∈O/\ρ[j]?=some (some d1)/\σ[j]?=some (some (.ref b))/\b≠a):=by
   intro j d1 hj h1 F;rcases dO h1 with⟨e,B,l⟩|⟨e,B⟩
   ·subst e
    rw[sig_set (by rw[s.len];exact l)]at F;cases F;exact .inl ⟨rfl,rfl⟩
   ·rcases List.mem_cons.mp hj with z|z
    ·exact absurd z e
    ·rw[jU e]at F
     obtain⟨w,q1,q2,_⟩:=s.own j d1 B z;rw[F]at q1;cases q1;exact .inr ⟨e,z,B,F,λz=>na (z ▸ q2)⟩
  rcases J hj h1 F with⟨e1,B⟩|⟨e1,B,e3,e4,e5⟩
  ·rcases J hk h2 N with⟨W,M⟩|⟨W,M,f3,f4,f5⟩
   ·rw[e1,W]
   ·exact absurd B f5
  ·rcases J hk h2 N with⟨W,M⟩|⟨W,M,f3,f4,f5⟩
   ·exact absurd M e5
   ·exact s.inj j k d1 d2 b B M e3 f3 e4 f4
theorem IH{i:Nat}{x:Str}{e:Expr}{pos pos':Pos}{f:Ev}(W:X.N.Nodup)(hi:X.N[i]?=some x)(F:Loc X.env.scope x)(Y:PF X O e f)(h:Sub O' (i::O)=true:=by rfl)(hn:O.contains i=false:=by rfl)
  (hs:za6 e (some (.Name x pos')) pos.line X.env=pure false:=by rfl) (hf:X.fn x=true\/X.env.scope.names.lookup x=some .local:=by first|exact .inl rfl|exact .inr rfl):iD X L O (.Assign [.Name x pos'] e pos) (bQ i f) O':=
 PS.mono (JU W hi F Y hs hf) <| by
  rintro T σ H ⟨H0,A0,A,E,ρ,U,st,e,p⟩;obtain⟨d,J,rfl⟩:=map_some e;refine⟨H0,A0,A,E,ρ,d,st,J,λa H' x n G o=>?_⟩;have B:i∉O:=λz=>by
   have:O.contains i=true:=by simpa using z
   rw[hn]at this;cases this
  obtain⟨M,q⟩:=(st.own_put x n G o B).shut (Sub.mem h);exact p M _ H' q
theorem ST.write(s:ST H0 A0 A E O σ H ρ)(hi:ρ[i]?=some (some d))(hO:i∈O)(hs:σ[i]?=some (some (.ref a)))(M:A a)(h0:H0 a=none)(N:H a=some u)(ob:U2 u)(hn:Own A (upd H a o) d' a) :
  ST H0 A0 A E O σ (upd H a o) (ρ.set i (some d')):=by
 have B:∀b,H0 b≠none->b≠a:=λb U z=>U (z ▸ h0)
 refine⟨⟨λb w r=>?_,λb xs k r=>?_,λb w n r=>?_,λb q w r=>?_⟩,s.sub,s.l0,λb U=>?_,by simp[s.len],λj d2 h' J=>?_,λj d2 h' J=>?_,λj k d1 d2 b hj hk h1 h2 W Y=>?_,λp hp=>Fact.put M N ob (s.ext p hp)⟩
 ·refine eE (B b ?_) (s.ex.rd b w r)
  rcases r with r|⟨_,r⟩ <;> (rw[r];exact λz=>nomatch z)
 ·rw[aE (B b (by rw[r];exact λz=>nomatch z))];exact s.ex.kp b xs k r
 ·rw[aE (B b (by rw[r];exact λz=>nomatch z))];exact s.ex.ow b w n r
 ·rw[aE (B b (by rw[r];exact λz=>nomatch z))];exact s.ex.fz b q w r
 ·by_cases e:b=a
  ·subst e;rw[aI];exact λz=>nomatch z
  ·rw[aE e];exact s.live b U
 ·rcases dO h' with⟨e,F,l⟩|⟨e,F⟩
  ·subst e;exact absurd hO J
  ·obtain⟨w,h1,h2⟩:=s.val j d2 F J
   exact⟨w,h1,h2.put M N ob⟩
 ·rcases dO h' with⟨e,F,l⟩|⟨e,F⟩
  ·subst e;cases F;exact⟨a,hs,M,h0,hn⟩
  ·obtain⟨b,h1,h2,W,Y⟩:=s.own j d2 F J
   refine⟨b,h1,h2,W,Y.put M N ob λz=>?_⟩;subst z;exact e (s.inj j i d2 d b J hO F hi h1 hs)
 ·have G:∀ {j:Nat} {d1:D},(ρ.set i (some d'))[j]?=some (some d1)->∃d0,ρ[j]?=some (some d0):=by
   intro j d1 h;rcases dO h with⟨e,_,_⟩|⟨_,e⟩
   ·subst e;exact⟨d,hi⟩
   ·exact⟨d1,e⟩
  obtain⟨x,hx⟩:=G h1;obtain⟨y,hy⟩:=G h2;exact s.inj j k x y b hj hk hx hy W Y
noncomputable def mem(O:List Nat)(i:Nat):Bool:=O.contains i
theorem lJ(h:mem O i=true):i∈O:=by simpa[mem]using h
def K0(i:Nat)(f:Ev):Sv:=λρ=>(aB i ρ).bind λx=>match x with
 | .lst l=>(f ρ).bind λd=>if aX l.length then some (.nx (ρ.set i (some (.lst (l++[d])))))else none
 | _=>none
theorem AF{o e:Expr}{i:Nat}{apos cpos pos:Pos}{f:Ev}(Y:PE X o (sJ i))(he:PD X O e f)(B:mem O i=true)(J:PE X (.Call (.Attribute o "append" apos) [e] [] cpos) (Z3 X.K "list" CB (sJ i) (DM (tD Rep O f) UJ)))
  (hs:za6 (.Call (.Attribute o "append" apos) [e] [] cpos) none pos.line X.env=pure false:=by rfl) (h:Sub O' O=true:=by rfl):iD X L O (.Expr (.Call (.Attribute o "append" apos) [e] [] cpos) pos) (K0 i f) O':=
 PS.mono (CI J hs) <| by
  rintro T σ H ⟨H0,A0,A,E,ρ,N,st,e,p⟩;obtain⟨x,ex,e⟩:=bind_some e;cases x with
  | lst l=>
   obtain⟨d,W,e⟩:=bind_some e;by_cases hz:aX l.length=true
   ·rw[if_pos hz]at e
    cases e;obtain⟨a,G,q,U,M⟩:=st.own i _ (cJ ex) (lJ B);cases M with
    | lst h4 r4=>
     refine⟨_,G,.inl ⟨rfl,_,SqL.of h4⟩,H0,A0,A,E,ρ,d,st,W,λv H' x r=>⟨a,_,v,rfl,rfl,x.ow _ _ q h4,by rw[r4.length];exact nQ hz,?_⟩⟩;have F:=x.ow _ _ q h4;obtain⟨A',z⟩:=((st.mono x).write (o:=.lst _) (cJ ex) (lJ B) G q U F trivial (.lst aI (((r4.ext x).append (.cons r .nil)).put q F trivial))).shut (Sub.mem h);exact p A' σ _ z
   ·rw[if_neg hz]at e;cases e
  | _=>cases e
def F7:D->Option Key
 | .int i=>some (.inl i)
 | .str x=>some (.inr x)
 | _=>none
def KS:List D->Option (List Key)
 | []=>some []
 | d::ds=>(F7 d).bind λk=>(KS ds).bind λks=>some (k::ks)
def y4:D->Option (List Key)
 | .tup l=>KS l
 | _=>none
noncomputable def bY{κ:Type}[DecidableEq κ](l:List (κ×D))(k:κ):Option D:=(l.find? λp=>decide (p.1=k)).map (·.2)
noncomputable def putD{κ:Type}[DecidableEq κ](l:List (κ×D))(k:κ)(d:D):List (κ×D):=if l.any (λp=>decide (p.1=k))then l.map (λp=>if p.1=k then(p.1,d)else p)else l++[(k,d)]
end
section
variable {A:Av}{H:Hp}
section
variable {κ:Type}[DecidableEq κ]
abbrev PP(A:Av)(H:Hp):List (κ×D)->List (κ×V)->Prop:=zaV λ(p:κ×D) (q:κ×V)=>p.1=q.1/\Rep A H p.2 q.2
theorem t4:∀ {l:List (κ×D)} {xs:List (κ×V)},xs.map (·.1)=l.map (·.1)->RepL A H (l.map (·.2)) (xs.map (·.2))->PP A H l xs
 | [],[],_,_=>.nil
 | [],_::_,e,_=>by cases e
 | _::_,[],e,_=>by cases e
 | p::l,q::xs,e,r=>by
  rw[zak,zak]at e r;injection e with e1 e2
  cases r with
  | cons h t=>exact .cons ⟨e1.symm,h⟩ (t4 e2 t)
theorem DD:∀ {l:List (κ×D)} {xs:List (κ×V)},PP A H l xs->xs.map (·.1)=l.map (·.1)/\RepL A H (l.map (·.2)) (xs.map (·.2))
 | _,_,.nil=>⟨rfl,.nil⟩
 | _,_,.cons h t=>by
  obtain⟨e,r⟩:=DD t;exact⟨by rw[zak,zak,h.1,e],.cons h.2 r⟩
theorem JA(k:κ)(h:PP A H l xs):(bY l k=none/\k5 xs k=none)\/∃d v,bY l k=some d/\k5 xs k=some v/\Rep A H d v:=by
 induction h with
 | nil=>exact .inl ⟨rfl,rfl⟩
 | @cons p q l xs h t ih=>
  by_cases e:p.1=k
  ·refine .inr ⟨p.2,q.2,?_,j8 (h.1 ▸ e),h.2⟩
   simp[bY,za7,e]
  ·have B:¬ q.1=k:=λz=>e (h.1.trans z)
   have a:bY (p::l) k=bY l k:=by simp[bY,za7,e]
   rw[a,kA B];exact ih
theorem P8(k:κ)(h:PP A H l xs):(l.any λp=>decide (p.1=k))=xs.any λp=>decide (p.1=k):=by
 induction h with
 | nil=>rfl
 | cons h t ih=>rw[zbA,zbA,ih,h.1]
theorem TX(k:κ)(r:Rep A H d v)(h:PP A H l xs):PP A H (l.map λp=>if p.1=k then(p.1,d)else p) (xs.map λp=>if p.1=k then(p.1,v)else p):=by
 induction h with
 | nil=>exact .nil
 | @cons p q l xs h t ih=>
  rw[zak,zak];refine .cons ?_ ih;by_cases e:p.1=k
  ·rw[if_pos e,if_pos (h.1 ▸ e)];exact⟨h.1,r⟩
  ·rw[if_neg e,if_neg (λz=>e (h.1.trans z))];exact h
theorem Q9(h:PP A H l xs)(h':PP A H m ys):PP A H (l++m) (xs++ys):=by
 induction h with
 | nil=>exact h'
 | cons h t ih=>exact .cons h ih
theorem AQ(k:κ)(r:Rep A H d v)(h:PP A H l xs):PP A H (putD l k d) (putK xs k v):=by
 unfold putD putK;rw[P8 k h];by_cases e:(xs.any λp=>decide (p.1=k))=true
 ·rw[if_pos e,if_pos e];exact TX k r h
 ·rw[if_neg e,if_neg e];exact Q9 h (.cons ⟨rfl,r⟩ .nil)
end
theorem iP(h:F7 d=some k)(r:RepB A H d v):v=kV k:=by
 cases d <;> cases h
 ·exact r.int_inv
 ·exact r.str_inv
theorem wZ:∀ {ds:List D} {ks:List Key} {vs:List V},KS ds=some ks->RepL A H ds vs->vs=ks.map kV
 | _,_,_,h,.nil=>by cases h;rfl
 | _,_,_,h,.cons r t=>by
  obtain⟨k,q,h⟩:=bind_some h;obtain⟨ks,z,h⟩:=bind_some h;cases h;rw[zak,iP q (.of r),wZ z t]
theorem nJ(h:y4 d=some k)(r:RepB A H d v):∃b,v=.ref b/\H b=some (.tup (k.map kV)):=by
 cases d <;> try cases h
 rename_i l;obtain⟨a,xs,rfl,h1,h2⟩:=r.tup_inv;exact⟨a,rfl,by rw[h1,wZ h h2]⟩
def b6:D->D->Option (Option D)
 | .dK l,k=>(F7 k).map λk=>bY l k
 | .dT l,k=>(y4 k).map λk=>bY l k
 | _,_=>none
theorem gZ{d k:D}{x y:V}{o:Option D}(h:b6 d k=some o)(G:RepB A H d x)(J:RepB A H k y):∃a B,x=.ref a/\UV H a/\DGet H a y B/\((o=none/\B=none)\/∃z v,o=some z/\B=some v/\Rep A H z v):=by
 cases d with
 | dK l=>
  obtain⟨q,F,rfl⟩:=map_some h;obtain⟨a,xs,rfl,h1,e,r⟩:=G.dK_inv;have:=iP F J;subst this;refine⟨a,_,rfl,.inl ⟨xs,h1⟩,.inl ⟨xs,q,h1,rfl,rfl⟩,JA q (t4 e r)⟩
 | dT l=>
  obtain⟨q,F,rfl⟩:=map_some h;obtain⟨a,xs,rfl,h1,e,r⟩:=G.dT_inv;obtain⟨b,rfl,M⟩:=nJ F J;exact⟨a,_,rfl,.inr ⟨xs,h1⟩,.inr ⟨xs,q,b,h1,rfl,M,rfl⟩,JA q (t4 e r)⟩
 | _=>cases h
end
section
variable {X:Cx}{O O':List Nat}{L:Lp}
theorem PE.or(h:PE X e t)(k:PE X e u):PE X e (λσ H Q=>t σ H Q\/u σ H Q):=λpins s σ H Q I w=>w.elim (h pins s σ H Q I) (k pins s σ H Q I)
def aH(d k:D):Option D:=match d with
 | .dK _=>(b6 d k).join
 | .dT _=>(b6 d k).join
 | _=>X6 d k
theorem oE{q:Type}{o:Option (Option q)}{d:q}(h:o.join=some d):o=some (some d):=by
 cases o with
 | none=>cases h
 | some o=>cases o with
  | none=>cases h
  | some x=>cases h;rfl
theorem wY{N M:Ev}{σ:L2.St}{H:Hp}{Q:VK}(h:tD Rep O (aZ (λd k=>(b6 d k).join) N M) σ H Q):PM (tD RepB O N) (tD RepB O M) σ H Q:=by
 obtain⟨H0,A0,A,E,ρ,d,st,e,q⟩:=h;obtain⟨x,ex,e⟩:=bind_some e;obtain⟨y,W,e⟩:=bind_some e;refine⟨H0,A0,A,E,ρ,x,st,ex,λv H1 F r1=>⟨H0,A0,A,E,ρ,y,st.mono F,W,λw H2 G U=>?_⟩⟩;obtain⟨a,ov,e1,_,g,B⟩:=gZ (oE e) (r1.ext G) U;rcases B with⟨B,_⟩|⟨z,J,B,Y,r3⟩
 ·cases B
 ·cases B;subst Y
  exact⟨a,J,e1,g,q J H2 (F.trans G) r3⟩
theorem M8(J:X.A.units+1<cLine)(G:PB X O a fa)(F:PB X O b fb)(hs:uK b):PD X O (.Subscript a b pos) (aZ aH fa fb):=
 PE.mono (PE.or (U8 YE G F hs) (L6 J G F hs)) <| by
  rintro σ H Q ⟨H0,A0,A,E,ρ,d,st,e,q⟩;obtain⟨x,ex,B⟩:=bind_some e;obtain⟨y,M,B⟩:=bind_some B;have z:∀g:D->D->Option D,g x y=some d->tD Rep O (aZ g fa fb) σ H Q:=λg h=>⟨H0,A0,A,E,ρ,d,st,by unfold aZ;rw[ex,M];exact h,q⟩
  cases x with
  | dK l=>exact .inr (wY (z _ B))
  | dT l=>exact .inr (wY (z _ B))
  | _=>exact .inl (vS (z X6 B))
def rQ(fd q z:Ev):Ev:=λρ=>(fd ρ).bind λd=>(q ρ).bind λk=>(z ρ).bind λe=>(b6 d k).map λo=>o.getD e
theorem JT(k:D)(h:b6 d k=some o)(r:RepB A H d v):∃a,v=.ref a/\UV H a:=by
 cases d with
 | dK l=>obtain⟨a,xs,rfl,h1,_⟩:=r.dK_inv;exact⟨a,rfl,.inl ⟨xs,h1⟩⟩
 | dT l=>obtain⟨a,xs,rfl,h1,_⟩:=r.dT_inv;exact⟨a,rfl,.inr ⟨xs,h1⟩⟩
 | _=>cases h
theorem ML(hu:X.A.units+1<cLine)(ho:PB X O o fd)(he:PB X O e fk)(hf:PD X O f fe)(m:M2 X o "get" apos e f cpos):PD X O (.Call (.Attribute o "get" apos) [e,f] [] cpos) (rQ fd fk fe):=
 PE.mono (G0 hu ho he hf m) <| by
  rintro σ H Q ⟨H0,A0,A,E,ρ,d,st,e,q⟩;obtain⟨x,ex,e⟩:=bind_some e;obtain⟨y,ey,e⟩:=bind_some e;obtain⟨z,ez,e⟩:=bind_some e;obtain⟨ov,N,rfl⟩:=map_some e;refine⟨H0,A0,A,E,ρ,x,st,ex,λv H1 F r1=>?_⟩;obtain⟨a,Y,J⟩:=JT y N r1;refine⟨a,Y,J,H0,A0,A,E,ρ,y,st.mono F,ey,λw H2 G r2=>⟨H0,A0,A,E,ρ,z,st.mono (F.trans G),ez,λu W B r3=>?_⟩⟩;obtain⟨a',M,U,_,g,e3⟩:=gZ N (r1.ext (G.trans B)) (r2.ext B);rw[Y]at U;cases U;refine⟨M,g,?_⟩;rcases e3 with⟨rfl,rfl⟩|⟨z',v',rfl,rfl,r4⟩
  ·exact q u W ((F.trans G).trans B) r3
  ·exact q v' W ((F.trans G).trans B) r4
def sH(d k e:D):Option D:=match d with
 | .dK l=>(F7 k).bind λk=>if aX l.length then some (.dK (putD l k e))else none
 | .dT l=>(y4 k).bind λk=>if aX l.length then some (.dT (putD l k e))else none
 | .lst l=>(P4 k).bind λk=>(F5 l.length k).map λj=>.lst (l.set j e)
 | _=>none
def vT(i:Nat)(q z:Ev):Sv:=λρ=>(z ρ).bind λe=>(aB i ρ).bind λx=>(q ρ).bind λk=>(sH x k e).map λd=>.nx (ρ.set i (some d))
theorem PS.or{st:Stmt}{t u:TS}(h:PS X st t)(k:PS X st u):PS X st (λT σ H=>t T σ H\/u T σ H):=λpins s σ H T I w=>w.elim (h pins s σ H T I) (k pins s σ H T I)
theorem LO{o k value:Expr}{i:Nat}{pos pos':Pos}{fk fe:Ev}(B:X.A.units+1<cLine)(ho:PE X o (sJ i))(hk:PB X O k fk)(hv:PD X O value fe)(hO:mem O i=true)(h:Sub O' O=true:=by rfl)
  (hs:za6 value (some (.Subscript o k pos')) pos.line X.env=pure false:=by rfl) (ag:zdN [.Subscript o k pos'] value pos.line X.env=pure false:=by rfl) (hw:zdO [.Subscript o k pos'] value X.env=pure none:=by rfl)
  (hg:∀ {to ti:TE} {t:KO},PE X o to->PE X k ti->OJ X t->PG X (.Subscript o k pos') (UK to ti t):=by intro _ _ _ a b c;exact JM a b c) :
  iD X L O (.Assign [.Subscript o k pos'] value pos) (vT i fk fe) O':=
 PS.mono (PS.or (M7 B ho hk hv hs) (J6 hv (hg ho hk set_list) ag hw)) <| by
  rintro T σ H ⟨H0,A0,A,E,ρ,as,st,e,p⟩;obtain⟨z,ez,e⟩:=bind_some e;obtain⟨x,ex,e⟩:=bind_some e;obtain⟨y,ey,e⟩:=bind_some e;obtain⟨d,ed,rfl⟩:=map_some e;obtain⟨a,U,J,e3,e4⟩:=st.own i _ (cJ ex) (lJ hO);cases x with
  | dK l=>
   obtain⟨kk,e5,F⟩:=bind_some ed;by_cases hz:aX l.length=true
   ·rw[if_pos hz]at F;cases F
    refine .inl ⟨H0,A0,A,E,ρ,z,st,ez,λv H1 M r1=>⟨_,U,H0,A0,A,E,ρ,y,st.mono M,ey,λw H2 N W=>?_⟩⟩;have q:=M.trans N;cases e4 with
    | @dK _ _ xs h4 ee r4=>
     have B:=q.ow _ _ J h4;have hl:xs.length=l.length:=by have:=congrArg zbP ee;simpa using this
     have:=iP e5 W;subst this;refine⟨a,_,rfl,DPut.k B (by rw[hl];exact nQ hz),?_⟩;obtain⟨Y,r7⟩:=DD (AQ kk (r1.ext N) (t4 ee (r4.ext q)));obtain⟨A',G⟩:=((st.mono q).write (o:=.dK _) (cJ ex) (lJ hO) U J e3 B trivial (.dK aI Y (r7.put J B trivial))).shut (Sub.mem h);exact p A' σ _ G
   ·rw[if_neg hz]at F;cases F
  | dT l=>
   obtain⟨kk,e5,F⟩:=bind_some ed;by_cases hz:aX l.length=true
   ·rw[if_pos hz]at F;cases F
    refine .inl ⟨H0,A0,A,E,ρ,z,st,ez,λv H1 M r1=>⟨_,U,H0,A0,A,E,ρ,y,st.mono M,ey,λw H2 N W=>?_⟩⟩;have q:=M.trans N;cases e4 with
    | @dT _ _ xs h4 ee r4=>
     have B:=q.ow _ _ J h4;have hl:xs.length=l.length:=by have:=congrArg zbP ee;simpa using this
     obtain⟨b,rfl,hb⟩:=nJ e5 W;refine⟨a,_,rfl,DPut.t B hb (by rw[hl];exact nQ hz),?_⟩;obtain⟨Y,r7⟩:=DD (AQ kk (r1.ext N) (t4 ee (r4.ext q)));obtain⟨A',G⟩:=((st.mono q).write (o:=.dT _) (cJ ex) (lJ hO) U J e3 B trivial (.dT aI Y (r7.put J B trivial))).shut (Sub.mem h);exact p A' σ _ G
   ·rw[if_neg hz]at F;cases F
  | lst l=>
   obtain⟨kk,e5,F⟩:=bind_some ed;obtain⟨j,Y,rfl⟩:=map_some F;refine .inr ⟨H0,A0,A,E,ρ,z,st,ez,λv H1 M r1=>⟨_,U,H0,A0,A,E,ρ,y,st.mono M,ey,λw H2 N W=>?_⟩⟩;have q:=M.trans N;cases e4 with
   | @lst _ _ xs h4 r4=>
    have B:=q.ow _ _ J h4;rw[qI e5]at W;have:=W.int_inv;subst this;refine⟨a,xs,kk,j,rfl,rfl,B,by rw[r4.length];exact Y,?_⟩;obtain⟨A',G⟩:=((st.mono q).write (o:=.lst _) (cJ ex) (lJ hO) U J e3 B trivial (.lst aI (((r4.ext q).set j (r1.ext N)).put J B trivial))).shut (Sub.mem h);exact p A' σ _ G
  | _=>cases ed
noncomputable def F8(g:Int->Int->Option D):D->D->Option D
 | .int i,.int j=>g i j
 | _,_=>none
theorem qP(h:F8 g x y=some d):∃i j,x=.int i/\y=.int j/\g i j=some d:=by
 cases x <;> cases y <;> first|(cases h;done)|exact⟨_,_,rfl,rfl,h⟩
theorem vC{f:Value->Value->Sem Value}{C:Int->Int->Prop}[∀i j,Decidable (C i j)]{g:Int->Int->Int}(h:OpR X f (rI C λi j=>.int (g i j))):eY X f (F8 λi j=>if C i j then some (.int (g i j))else none):=
 OpR.mono h <| by
  rintro x y H Q ⟨A,dx,J,d,M,F,G,e,q⟩;obtain⟨i,j,rfl,rfl,z⟩:=qP e;have:=F.int_inv;subst this;have:=G.int_inv;subst this;by_cases B:C i j
  ·rw[if_pos B]at z;cases z
   exact⟨i,j,rfl,rfl,B,q _ H (Ext.refl _ _) (.int _)⟩
  ·rw[if_neg B]at z;cases z
theorem NR{f:Value->Value->Sem Value}{g:Int->Int->Int}(h:OpR X f (K4 λi j=>.int (g i j))):eY X f (F8 λi j=>some (.int (g i j))):=
 OpR.mono h <| by
  rintro x y H Q ⟨A,dx,G,d,F,z,B,e,q⟩;obtain⟨i,j,rfl,rfl,e⟩:=qP e;have:=z.int_inv;subst this;have:=B.int_inv;subst this;cases e;exact⟨i,j,rfl,rfl,q _ H (Ext.refl _ _) (.int _)⟩
theorem xT{f:Value->Value->Sem Value}{g:Int->Int->Bool}(h:OpR X f (K4 λi j=>.bl (g i j))):eY X f (F8 λi j=>some (.bl (g i j))):=
 OpR.mono h <| by
  rintro x y H Q ⟨A,dx,G,d,F,z,B,e,q⟩;obtain⟨i,j,rfl,rfl,e⟩:=qP e;have:=z.int_inv;subst this;have:=B.int_inv;subst this;cases e;exact⟨i,j,rfl,rfl,q _ H (Ext.refl _ _) (.bl _)⟩
instance:∀i j,Decidable (My.WW i j):=λi j=>by unfold My.WW;infer_instance
instance:∀i j,Decidable (OQ i j):=λi j=>by unfold OQ;infer_instance
instance:∀i j,Decidable (OP i j):=λi j=>by unfold OP;infer_instance
def OH:D->D->Option D:=F8 λi j=>some (.int (i-j))
def dS:D->D->Option D:=F8 λi j=>if 0<j then some (.int (i%j))else none
def sI:D->D->Option D:=F8 λi j=>if OQ i j then some (.int (i/j))else none
def BO:D->D->Option D:=F8 λi j=>if OP i j then some (.int (i^j.toNat))else none
def BQ:D->D->Option D:=F8 λi j=>some (.bl (decide (j<i)))
def UU:D->D->Option D:=F8 λi j=>some (.bl (decide (j<=i)))
theorem TB:eY X (zaW .Sub) OH:=NR QT
theorem QS:eY X (zaW .Mod) dS:=vC QF
theorem SU:eY X (zaW .FloorDiv) sI:=vC NS
theorem Q8:eY X (zaW .Pow) BO:=vC QJ
theorem VO:eY X (zaq .Gt) BQ:=xT V3
theorem WN:eY X (zaq .GtE) UU:=xT VP
def OO(f:Ev):Ev:=λρ=>(f ρ).bind λd=>(P4 d).map λi=>.int (-i)
theorem P9(F:PB X O a f):PD X O (.UnaryOp .USub a pos) (OO f):=PE.mono (WP QH F) <| by
 rintro σ H Q ⟨H0,A0,A,E,ρ,d,st,e,q⟩;obtain⟨x,ex,e⟩:=bind_some e;obtain⟨i,G,rfl⟩:=map_some e;rw[qI G]at ex;exact⟨H0,A0,A,E,ρ,_,st,ex,λv H1 B z=>⟨i,z.int_inv,q _ H1 B (.int _)⟩⟩
end
section
variable {X:Cx}{L:Lp}{O O':List Nat}
def OI:Sv:=λ_=>none
theorem EQ{st:Stmt}:iD X L O st OI O':=λ_ _ _ _ _ _ ⟨_,_,_,_,_,_,_,e,_⟩=>nomatch e
abbrev Gv:=D->cY->Option cY
inductive tDG(O:List Nat)(g:Gv)(v:V)(σ:L2.St)(H:Hp)(Q:L2.St->Hp->Prop):Prop
 | mk (H0:Hp) (A0 A:Av) (E:List Fact) (ρ:cY) (d:D) (ρ':cY) (st:ST H0 A0 A E O σ H ρ) (r:Rep A H d v) (e:g d ρ=some ρ') (q:∀σ',ST H0 A0 A E O σ' H ρ'->Q σ' H):tDG O g v σ H Q
def y6(X:Cx)(O:List Nat)(tg:Expr)(g:Gv):Prop:=PG X tg (tDG O g)
abbrev PZ:=List D->cY->Option cY
inductive tDGs(O:List Nat)(g:PZ)(vs:List V)(σ:L2.St)(H:Hp)(Q:L2.St->Hp->Prop):Prop
 | mk (H0:Hp) (A0 A:Av) (E:List Fact) (ρ:cY) (ds:List D) (ρ':cY) (st:ST H0 A0 A E O σ H ρ) (r:RepL A H ds vs) (e:g ds ρ=some ρ') (q:∀σ',ST H0 A0 A E O σ' H ρ'->Q σ' H):tDGs O g vs σ H Q
def BL(X:Cx)(O:List Nat)(ts:List Expr)(g:PZ):Prop:=PGs X ts (tDGs O g)
theorem PG.mono(h:PG X tg t)(x:∀v σ H Q,t' v σ H Q->t v σ H Q):PG X tg t':=λpins s σ H v u Q I r w=>h pins s σ H v u Q I r (x v σ H Q w)
theorem PGs.mono(h:PGs X ts t)(x:∀v σ H Q,t' v σ H Q->t v σ H Q):PGs X ts t':=λpins s σ H v u Q I r w=>h pins s σ H v u Q I r (x v σ H Q w)
def aL(i:Nat):Gv:=λd ρ=>some (ρ.set i (some d))
theorem kB(h:PG X tg (rM i))(n:O.contains i=false:=by rfl):y6 X O tg (aL i):=PG.mono h <| by
 rintro v σ H Q ⟨H0,A0,A,E,ρ,d,ρ',st,r,e,q⟩;cases e;exact q _ (st.put r λz=>by
  have:O.contains i=true:=by simpa using z
  rw[n]at this;cases this)
def cC:PZ:=λds ρ=>match ds with
 | []=>some ρ
 | _=>none
def aR(g:Gv)(k:PZ):PZ:=λds ρ=>match ds with
 | d::ds=>(g d ρ).bind λρ'=>k ds ρ'
 | _=>none
theorem IJ:BL X O [] cC:=PGs.mono N9 <| by
 rintro v σ H Q ⟨H0,A0,A,E,ρ,ds,ρ',st,r,e,q⟩;cases r with
 | nil=>cases e;exact⟨rfl,q _ st⟩
 | cons _ _=>cases e
theorem lG(F:∀ {t:TG} {u:P1},PG X e t->PGs X es u->PGs X (e::es) (PC t u))(h1:y6 X O e g)(h2:BL X O es k):BL X O (e::es) (aR g k):=
 PGs.mono (F h1 h2) <| by
  rintro v σ H Q ⟨H0,A0,A,E,ρ,ds,ρ',st,r,e,q⟩;cases r with
  | nil=>cases e
  | cons h t=>
   obtain⟨ρ1,G,e⟩:=bind_some e;exact⟨_,_,rfl,H0,A0,A,E,ρ,_,ρ1,st,h,G,λB z=>⟨H0,A0,A,E,ρ1,_,ρ',z,t,e,q⟩⟩
def b7(n:Nat)(k:PZ):Gv:=λd ρ=>match d with
 | .tup l=>if l.length=n then k l ρ else none
 | _=>none
theorem CW(F:PG X tg (XG X.K n (tDGs O k))):y6 X O tg (b7 n k):=PG.mono F <| by
 rintro v σ H Q ⟨H0,A0,A,E,ρ,d,ρ',st,r,e,q⟩;cases d with
 | tup l=>
  obtain⟨a,xs,rfl,h,B⟩:=RepB.tup_inv (.of r);by_cases z:l.length=n
  ·simp only[b7,if_pos z]at e
   exact⟨a,xs,rfl,.inl (.inl h),by rw[B.length];exact z,H0,A0,A,E,ρ,l,ρ',st,B,e,q⟩
  ·simp only[b7,if_neg z]at e;cases e
 | _=>cases e
def K1(f:Ev)(g:Gv):Sv:=λρ=>(f ρ).bind λd=>(g d ρ).map .nx
theorem kN(M:PD X O e f)(J:y6 X O tg g)(hs:zdN [tg] e pos.line X.env=pure false:=by rfl)(hw:zdO [tg] e X.env=pure none:=by rfl)(h:Sub O' O=true:=by rfl)(h1:(zbe [tg] X.env).map (·.2)=[zbp tg X.env]:=by rfl)(h1:(zbe [tg] X.env).map (·.2)=[zbp tg X.env]:=by rfl)(h1:(zbe [tg] X.env).map (·.2)=[zbp tg X.env]:=by rfl)(h1:(zbe [tg] X.env).map (·.2)=[zbp tg X.env]:=by rfl):iD X L O (.Assign [tg] e pos) (K1 f g) O':=
 PS.mono (J6 M J hs hw h1) <| by
  rintro T σ H ⟨H0,A0,A,E,ρ,G,st,e,p⟩;obtain⟨d,N,e⟩:=bind_some e;obtain⟨ρ',F,rfl⟩:=map_some e;refine⟨H0,A0,A,E,ρ,d,st,N,λv H' x r=>⟨H0,A0,A,E,ρ,d,ρ',st.mono x,r,F,λz B=>?_⟩⟩;obtain⟨A',q⟩:=B.shut (Sub.mem h);exact p A' z H' q
def BM(J:It)(q:List Fact)(items:List D):Prop:=
 ∀(A:Av) (H:Hp),Live A H->(∀p∈q,p.Holds A H)->∀i,(items.length<=i->J.stop i H)/\∀d,items[i]?=some d->J.go i H/\∀x H',J.yld i H x H'->Ext A H H'/\Rep A H' d x
inductive tDI(O:List Nat)(f:Lv)(σ:L2.St)(H:Hp)(R:It->Hp->Prop):Prop
 | mk (H0:Hp) (A0 A:Av) (E:List Fact) (ρ:cY) (items:List D) (st:ST H0 A0 A E O σ H ρ) (e:f ρ=some items) (q:∀J H' E1,Ext A H H'->(∀p∈E1,p.Holds A H')->BM J E1 items->R J H'):tDI O f σ H R
def PDI(X:Cx)(O:List Nat)(tg e:Expr)(f:Lv):Prop:=PI X tg e (tDI O f)
theorem PI.mono(h:PI X tg e t)(x:∀σ H Q,t' σ H Q->t σ H Q):PI X tg e t':=λpins s σ H Q I w=>h pins s σ H Q I (x σ H Q w)
theorem PI.or(h:PI X tg e t)(k:PI X tg e u):PI X tg e (λσ H Q=>t σ H Q\/u σ H Q):=λpins s σ H Q I w=>w.elim (h pins s σ H Q I) (k pins s σ H Q I)
theorem LV{a:Addr}{l:List D}{K:zaf}:BM (Z1 K a) [.rep (.lst l) (.ref a)] l:=by
 intro A H J h i;have r:Rep A H (.lst l) (.ref a):=h _ (List.mem_singleton.mpr rfl);obtain⟨G,xs,e,h1,q⟩:=RepB.lst_inv (.of r);cases e;refine⟨λhi=>⟨xs,.inl h1,by rw[q.length];exact hi⟩,λd B=>?_⟩;obtain⟨v,z,F⟩:=q.get' B;refine⟨⟨xs,v,.inl h1,z⟩,λx H' y=>?_⟩;obtain⟨rfl,y⟩:=y;have:=y xs (.inl h1);rw[z]at this;cases this;exact⟨Ext.refl _ _,F⟩
theorem P7{a:Addr}{l:List D}{K:zaf}:BM (Z5 K a) [.rep (.tup l) (.ref a)] l:=by
 intro A H J h i;have r:Rep A H (.tup l) (.ref a):=h _ (List.mem_singleton.mpr rfl);obtain⟨G,xs,e,h1,q⟩:=RepB.tup_inv (.of r);cases e;refine⟨λhi=>⟨xs,.inl (.inl h1),by rw[q.length];exact hi⟩,λd B=>?_⟩;obtain⟨v,z,F⟩:=q.get' B;refine⟨⟨xs,v,.inl (.inl h1),z⟩,λx H' y=>?_⟩;obtain⟨rfl,y⟩:=y;have:=y xs (.inl (.inl h1));rw[z]at this;cases this;exact⟨Ext.refl _ _,F⟩
noncomputable def aV(lo c:Int)(n:Nat):List D:=(zaA n).map λ(i:Nat)=>.int (lo+(i:Int)*c)
theorem a8(lo c:Int)(n:Nat):(aV lo c n).length=n:=by simp[aV]
theorem bI{lo c:Int}{n i:Nat}(h:(aV lo c n)[i]?=some d):i<n/\d=.int (lo+(i:Int)*c):=by
 unfold aV at h;rw[zaB]at h;by_cases hi:i<n
 ·rw[List.getElem?_range hi]at h;cases h;exact⟨hi,rfl⟩
 ·rw[List.getElem?_eq_none (by simpa using hi)]at h;cases h
theorem ER{lo c:Int}{n:Nat}:BM (My.US lo c n) [] (aV lo c n):=by
 intro A H z h i;refine⟨λhi=>by rw[a8]at hi;exact hi,λd q=>?_⟩;obtain⟨hi,rfl⟩:=bI q;exact⟨hi,λx H' ⟨e,y⟩=>by subst e y;exact⟨Ext.refl _ _,.int _⟩⟩
theorem xZ{lo:Int}{n:Nat}:BM (XR lo n) [] (aV lo 1 n):=by
 intro A H z h i;refine⟨λhi=>by rw[a8]at hi;exact hi,λd q=>?_⟩;obtain⟨hi,rfl⟩:=bI q;exact⟨hi,λx H' ⟨e,y⟩=>by subst e y;rw[zby];exact⟨Ext.refl _ _,.int _⟩⟩
noncomputable def cM(i:Int):Bool:=decide (-1000000<=i) && decide (i<=1000000)
def cR:List D->Option (List D)
 | [.int j]=>if cM j then some (aV 0 1 j.toNat)else none
 | _=>none
def dY:List D->Option (List D)
 | [.int i,.int j]=>if cM i && cM j then some (aV i 1 (j-i).toNat)else none
 | _=>none
def eR:List D->Option (List D)
 | [.int i,.int j,.int c]=>if c≠0/\c.natAbs<1000/\zch i j c=true then some (aV i c (My.rsz i j c))else none
 | _=>none
theorem eA(h:cM i=true):-(2^62)<=i/\i<2^62:=by
 simp only[cM,zaK,decide_eq_true_eq]at h
 lia
def lR(g:List D->Option (List D))(f:Lv):Lv:=λρ=>(f ρ).bind g
theorem RL.one(r:RL R A H [d] vs):∃v,vs=[v]/\R A H d v:=by
 cases r with|cons h t=>cases t;exact⟨_,rfl,h⟩
theorem RL.two(r:RL R A H [d,e] vs):∃v w,vs=[v,w]/\R A H d v/\R A H e w:=by
 cases r with|cons h t=>obtain⟨w,rfl,h2⟩:=RL.one t;exact⟨_,w,rfl,h,h2⟩
theorem RL.three(r:RL R A H [d,e,f] vs):∃v w u,vs=[v,w,u]/\R A H d v/\R A H e w/\R A H f u:=by
 cases r with|cons h t=>obtain⟨w,u,rfl,h2,q⟩:=RL.two t;exact⟨_,w,u,rfl,h,h2,q⟩
theorem uI(h:cR ds=some l):∃j,ds=[.int j]/\cM j=true/\l=aV 0 1 j.toNat:=by
 unfold cR at h;split at h
 ·split at h
  ·cases h;exact⟨_,rfl,by assumption,rfl⟩
  ·cases h
 ·cases h
theorem uB(h:dY ds=some l):∃i j,ds=[.int i,.int j]/\cM i=true/\cM j=true/\l=aV i 1 (j-i).toNat:=by
 unfold dY at h;split at h
 ·split at h
  ·rename_i hh
   cases h;exact⟨_,_,rfl,(zaK _ _ ▸ hh).1,(zaK _ _ ▸ hh).2,rfl⟩
  ·cases h
 ·cases h
theorem uG(h:eR ds=some l):∃i j c,ds=[.int i,.int j,.int c]/\(c≠0/\c.natAbs<1000/\zch i j c=true)/\l=aV i c (My.rsz i j c):=by
 unfold eR at h;split at h
 ·split at h
  ·cases h;exact⟨_,_,_,rfl,by assumption,rfl⟩
  ·cases h
 ·cases h
section
variable {tg a b c:Expr}{f:Lv}{p pos:Pos}
theorem zF(F:Gl X "range")(M:X.mg "range" = none)(B:nU X O [a] f)(hs:zah [a] X.env=[(false,eval a X.env)]:=by rfl):PDI X O tg (.Call (.Name "range" p) [a] [] pos) (lR cR f):=PI.mono (EI F M B hs) <| by
 rintro σ H R ⟨H0,A0,A,E,ρ,items,st,e,q⟩;obtain⟨ds,J,e⟩:=bind_some e;refine⟨H0,A0,A,E,ρ,ds,st,J,λvs H1 z G=>?_⟩;obtain⟨j,rfl,h,rfl⟩:=uI e;obtain⟨v,rfl,h1⟩:=G.one;have:=h1.int_inv;subst this;exact⟨j,rfl,(eA h).1,(eA h).2,q _ H1 [] z (λ_ h=>nomatch h) xZ⟩
theorem AK(G:Gl X "range")(N:X.mg "range" = none)(F:nU X O [a,b] f)(hs:zah [a,b] X.env=[(false,eval a X.env),(false,eval b X.env)]:=by rfl)(z:zah [b] X.env=[(false,eval b X.env)]:=by rfl):PDI X O tg (.Call (.Name "range" p) [a,b] [] pos) (lR dY f):=PI.mono (ES G N F hs z) <| by
 rintro σ H R ⟨H0,A0,A,E,ρ,items,st,e,q⟩;obtain⟨ds,M,e⟩:=bind_some e;refine⟨H0,A0,A,E,ρ,ds,st,M,λvs H1 B J=>?_⟩;obtain⟨i,j,rfl,h,h',rfl⟩:=uB e;obtain⟨v,w,rfl,h1,h2⟩:=J.two;have:=h1.int_inv;subst this;have:=h2.int_inv;subst this;exact⟨i,j,rfl,⟨(eA h).1,(eA h).2,(eA h').1,(eA h').2⟩,q _ H1 [] B (λ_ h=>nomatch h) xZ⟩
theorem AL(M:Gl X "range")(W:X.mg "range" = none)(J:nU X O [a,b,c] f)(hs:zah [a,b,c] X.env=[(false,eval a X.env),(false,eval b X.env),(false,eval c X.env)]:=by rfl)(z:zah [b,c] X.env=[(false,eval b X.env),(false,eval c X.env)]:=by rfl):PDI X O tg (.Call (.Name "range" p) [a,b,c] [] pos) (lR eR f):=PI.mono (My.DW M W J hs z) <| by
 rintro σ H R ⟨H0,A0,A,E,ρ,items,st,e,q⟩;obtain⟨ds,U,e⟩:=bind_some e;refine⟨H0,A0,A,E,ρ,ds,st,U,λvs H1 B N=>?_⟩;obtain⟨i,j,F,rfl,h,rfl⟩:=uG e;obtain⟨v,w,u,rfl,h1,h2,G⟩:=N.three;have:=h1.int_inv;subst this;have:=h2.int_inv;subst this;have:=G.int_inv;subst this;exact⟨i,j,F,rfl,h,q _ H1 [] B (λ_ h=>nomatch h) ER⟩
end
def FX:Key->D
 | .inl i=>.int i
 | .inr x=>.str x
def KU(f:Ev):Lv:=λρ=>(f ρ).bind λd=>match d with
 | .lst l=>some l
 | .tup l=>some l
 | .dT l=>some (l.map λp=>.tup (p.1.map FX))
 | _=>none
theorem qQ:∀k:List Key,RepL A H (k.map FX) (k.map kV)
 | []=>.nil
 | .inl i::k=>.cons (.int i) (qQ k)
 | .inr x::k=>.cons (.str x) (qQ k)
def SG(tl:TE):TI:=λσ H R=>tl σ H λx H1=>∃d kvs,x=.ref d/\((H1 d=some (.dT kvs)/\∀o,R (My.XT d o kvs) (upd H1 d (.frz o (.dT kvs))))\/∃o,H1 d=some (.frz o (.dT kvs))/\R (My.XT d o kvs) H1)
theorem GN(hl:PE X l tl):PI X tg l (SG tl):=by
 intro pins s σ H R I h;refine bL (hl pins s σ H _ I h) λv z ⟨x,H1,N,B,q1⟩=>?_
 obtain⟨d,kvs,rfl,q⟩:=q1;cases B;have G:∀(o:Obj) (H2:Hp),(d == zbi)=false->Inv X pins σ H2 z->z.heap.get? d=some o->ObjOk X.prog X.w H2 z.heap d (.dT kvs)->R (My.XT d o kvs) H2->wpAny (model X.prog X.w) X.A (pyIter (.ref d)) (PIE X pins σ tg R) X.xe z:=λo H2 lo F Y ok q=>by
  obtain⟨_,_,es,ep,⟨o',B,r2,W⟩,J,_⟩:=My.rA ok;rw[Y]at B;cases B;refine My.GW lo ⟨o,Y,r2,W⟩ ?_;refine⟨z.heap.objs.size,[z.heap.objs.size],_,_,_,rfl,F.kept (t':=z.toks) λb o e=>zag _ e,My.EJ d _ o kvs es ep W J,⟨_,zat _ rfl,rfl,rfl⟩,λb hb=>?_,q⟩;have e:b=z.heap.objs.size:=by simpa using hb
  subst e;exact F.fpOk (zan _) (F.hok.fresh (zan _))
 rcases q with⟨M,q⟩|⟨o,M,q⟩
 ·have ok:=(show ObjOk X.prog X.w H1 z.heap d (.dT kvs)from N.hok d _ M)
  obtain⟨lo,_,es,ep,⟨o,B,r2,W⟩,J,_⟩:=My.rA ok;have F:=My.zC N M B;have U:=(show ObjOk X.prog X.w _ z.heap d (.frz o (.dT kvs))from F.hok d _ aI);exact G o _ lo F B U.2 (q o)
 ·have ok:=(show ObjOk X.prog X.w H1 z.heap d (.frz o (.dT kvs))from N.hok d _ M)
  obtain⟨lo,_⟩:=My.rA ok.2;exact G o H1 lo N ok.1 ok.2 q
theorem C7{a:Addr}{o:Obj}{xs:List (List Key×V)}{l:List (List Key×D)}(e:xs.map (·.1)=l.map (·.1)):BM (My.XT a o xs) [.fz a o (.dT xs)] (l.map λp=>.tup (p.1.map FX)):=by
 intro A H N h i;have B:H a=some (.frz o (.dT xs)):=h _ (List.mem_singleton.mpr rfl);have U:xs.length=l.length:=by have:=congrArg zbP e;simpa using this
 refine⟨λhi=>⟨B,by rw[zao]at hi;lia⟩,λd q=>?_⟩;rw[zaB]at q;obtain⟨p,z,rfl⟩:=map_some q;have hi:i<l.length:=(List.getElem?_eq_some_iff.mp z).1;refine⟨⟨B,by lia⟩,λx H' ⟨F,k,v,b,J,G,M⟩=>?_⟩;subst F G;have:k=p.1:=by
  have h1:(xs.map (·.1))[i]?=some k:=by rw[zaB,J];rfl
  rw[e,zaB,z]at h1;exact(zaI h1).symm
 subst this;exact⟨Ext.refl _ _,.tup M (qQ _)⟩
theorem LB(n:¬ A d)(B:H d=some u)(ob:U2 u)(G:¬ Kp u):Ext A H (upd H d (.frz o u)) where
 rd:=λb w r=>by
  by_cases e:b=d
  ·subst e
   rcases r with r|⟨q,r⟩
   ·rw[B]at r;cases r;exact .inr ⟨o,aI⟩
   ·rw[B]at r;cases r;exact ob.elim
  ·exact eE e r
 kp:=λb w k r=>by rw[aE (λz=>by subst z;rw[B]at r;cases r;exact G k)];exact r
 ow:=λb w F r=>by rw[aE (λz=>n (by rw[<- z];exact F))];exact r
 fz:=λb q w r=>by rw[aE (λz=>by subst z;rw[B]at r;cases r;exact ob)];exact r
theorem MB(h:PD X O e f):PDI X O tg e (KU f):=PI.mono (PI.or (PI.or (M4 h) (SV h)) (GN h)) <| by
 rintro σ H R ⟨H0,A0,A,E,ρ,items,st,e,q⟩;obtain⟨d,J,e⟩:=bind_some e;cases d with
 | lst l=>
  cases e;refine .inl (.inl ⟨H0,A0,A,E,ρ,_,st,J,λv H1 G F=>?_⟩);obtain⟨a,xs,rfl,h1,M⟩:=RepB.lst_inv (.of F);exact⟨a,rfl,⟨xs,.inl h1⟩,q _ H1 [.rep (.lst items) (.ref a)] G (λp B=>by rw[List.mem_singleton.mp B];exact F) LV⟩
 | tup l=>
  cases e;refine .inl (.inr ⟨H0,A0,A,E,ρ,_,st,J,λv H1 G F=>?_⟩);obtain⟨a,xs,rfl,h1,M⟩:=RepB.tup_inv (.of F);exact⟨a,rfl,⟨xs,.inl (.inl h1)⟩,q _ H1 [.rep (.tup items) (.ref a)] G (λp B=>by rw[List.mem_singleton.mp B];exact F) P7⟩
 | dT l=>
  cases e;refine .inr ⟨H0,A0,A,E,ρ,_,st,J,λv H1 G F=>?_⟩;cases F with
  | @dT _ a xs n h ee M=>
   refine⟨a,xs,rfl,?_⟩;rcases h with h|⟨o,h⟩
   ·refine .inl ⟨h,λo=>q _ _ [.fz a o (.dT xs)] (G.trans (LB n h trivial λz=>z)) (λp B=>by rw[List.mem_singleton.mp B];exact aI) (C7 ee)⟩
   ·exact .inr ⟨o,h,q _ H1 [.fz a o (.dT xs)] G (λp B=>by rw[List.mem_singleton.mp B];exact h) (C7 ee)⟩
 | _=>cases e
def cE(g:Gv)(body:Sv):List D->cY->Option Out
 | [],ρ=>some (.nx ρ)
 | x::xs,ρ=>(g x ρ).bind λρ1=>(body ρ1).bind λo=>match o with
  | .nx ρ2=>cE g body xs ρ2
  | .ct ρ2=>cE g body xs ρ2
  | .bk ρ2=>some (.nx ρ2)
  | .rt d=>some (.rt d)
def jV(f:Lv)(g:Gv)(body:Sv):Sv:=λρ=>(f ρ).bind λitems=>cE g body items ρ
theorem ST.both(s:ST H0 A0 A E O σ H ρ)(h:∀p∈E1,p.Holds A H):ST H0 A0 A (E1++E) O σ H ρ:=
 {s with ext:=λp q=>by rcases List.mem_append.mp q with e|e;exact h p e;exact s.ext p e}
theorem NU(hp:zcU (model X.prog X.w) X.A X.env X.xe)(hc:X.calm=true)(hi:PDI X O tg iter f)(hg:y6 X O1 tg g)(hb:dM X ⟨Ob,O1⟩ O1 body b O1)(h1:Sub O1 O=true)(h2:Sub O' O1=true)(h3:Sub O' Ob=true)
  (hs:∀x,zbO iter X.env x=pure x:=by intro _;rfl):iD X L O (.For tg iter body [] pos) (jV f g b) O':=PS.mono (UA hp hc hi hg hb hs) λT σ H ⟨H0,A0,A,E,ρ,W,st,e,p⟩=>by
 obtain⟨items,e1,e⟩:=bind_some e;refine⟨H0,A0,A,E,ρ,items,st,e1,λJ H1 G x1 ab J1=>?_⟩;obtain⟨A1,aa⟩:=((st.mono x1).both ab).shut (Sub.mem h1);refine⟨λi m σ H=>m=items.length-i/\i<=items.length/\∃ρ A,ST H0 A0 A (G++E) O1 σ H ρ/\cE g b (items.drop i) ρ=some W,⟨items.length,by simp,za3 _,ρ,A1,aa,e⟩,?_⟩;rintro i m σ H ⟨rfl,a0,ρ,A,st,e⟩;have hE:∀p∈G,p.Holds A H:=λp hp=>st.ext p (zdh _ hp)
 obtain⟨M,go⟩:=J1 A H st.live hE i;have fin:∀ {O2:List Nat} {A:Av} {σ:L2.St} {H:Hp} {ρ:cY},Sub O' O2=true->ST H0 A0 A (G++E) O2 σ H ρ->(∀A σ H,ST H0 A0 A E O' σ H ρ->T.nx σ H)->T.nx σ H:=λhs st k=>by
  obtain⟨z,ae⟩:=(st.less (E':=E) λq hq=>zbF _ hq).shut (Sub.mem hs);exact k z _ _ ae
 by_cases F:i<items.length
 ·have ed:items[i]?=some items[i]:=by simp[F]
  obtain⟨ac,hy⟩:=go _ ed;rw[zex F]at e;obtain⟨ρ1,eg,e⟩:=bind_some e;obtain⟨o,eo,e⟩:=bind_some e;refine .inr ⟨ac,λN H'=>∃ρ2 z,ST H0 A0 z (G++E) O1 N H' ρ2/\cE g b (items.drop (i+1)) ρ2=some W,λN H' ⟨ρ2,z,B,e2⟩=>⟨items.length-(i+1),by lia,rfl,F,ρ2,z,B,e2⟩,λx H' y=>?_⟩;obtain⟨x2,r2⟩:=hy x H' y;refine⟨H0,A0,A,G++E,ρ,_,ρ1,st.mono x2,r2,eg,λap s1=>⟨H0,A0,A,G++E,ρ1,o,s1,eo,?_⟩⟩;cases o with
  | nx ρ2=>exact λz U H2 B=>⟨ρ2,z,B,e⟩
  | ct ρ2=>exact λz U H2 B=>⟨ρ2,z,B,e⟩
  | bk ρ2=>cases e;exact λz U H2 B=>fin h3 B p
  | rt d=>cases e;exact p
 ·have Y:i=items.length:=by lia
  subst Y;rw[List.drop_length]at e;cases e;exact .inl ⟨M (zan _),fin h2 st p⟩
end
noncomputable def fN(cells:List (Str×Addr)):List (Str×zbY)->List (Str×Addr)->List (Str×Addr)
 | [],cs=>cs
 | (x,k)::r,cs=>fN cells r (if k == .free then(x,(cells.lookup x).getD 0)::cs else cs)
theorem sX:∀(names:List (Str×zbY)) (cs:List (Str×Addr)),(∀y∈names,y.2=.free->∃c,env.cells.lookup y.1=some c)->
  (forIn names cs (λ(p:Str×zbY) (r:List (Str×Addr))=>if(p.2 == .free)=true then(do let c <- cellOf env p.1;pure (zc4 ((p.1,c)::r)))else(pure (zc4 r):Sem _)))=(pure (fN env.cells names cs):Sem _)
 | [],cs,_=>by simp[fN]
 | (x,k)::r,cs,h=>by
  have ih:=λcs=>sX r cs λy z=>h y (zav _ z)
  rw[zdC];by_cases e:(k == zcl)=true
  ·have F:k=.free:=by simpa using e
   obtain⟨c,B⟩:=h (x,k) (zas ..) F;have q:env.cells.lookup x=some c:=B;simp only[e,if_true,fN];have:cellOf env x=pure c:=by unfold cellOf;rw[q]
   rw[this];simp only[pure_bind,q,Option.getD_some];exact ih _
  ·simp only[e,fN]
   simp only[zb6,if_false,pure_bind];exact ih _
theorem MP(h:∀y∈scope.names,y.2=.free->∃c,env.cells.lookup y.1=some c):closureFor scope env=pure (fN env.cells scope.names []):=by
 have:=sX scope.names [] h;unfold closureFor;simp only[bind_pure];exact this
theorem xB:∀ {names:List (Str×zbY)} {cs:List (Str×Addr)} {c:Addr},(fN cells names cs).lookup x=some c->(∃q,cs.lookup x=some q/\c=q)\/((x,zcl)∈names/\c=(cells.lookup x).getD 0)
 | [],cs,c,h=>.inl ⟨c,h,rfl⟩
 | (y,k)::r,cs,c,h=>by
  rw[fN]at h;rcases xB h with⟨q,h1,h2⟩|⟨h1,h2⟩
  ·by_cases e:(k == zcl)=true
   ·rw[if_pos e,zdE]at h1
    by_cases ex:(x == y)=true
    ·rw[ex]at h1
     have z:x=y:=by simpa using ex
     have B:k=.free:=by simpa using e
     subst z B;cases h1;exact .inr ⟨zas ..,h2⟩
    ·rw[zdF]at ex
     rw[ex]at h1;exact .inl ⟨q,h1,h2⟩
   ·rw[if_neg e]at h1
    exact .inl ⟨q,h1,h2⟩
  ·exact .inr ⟨zav _ h1,h2⟩
theorem yB:∀ {names:List (Str×zbY)} {cs:List (Str×Addr)},((x,zcl)∈names\/∃c,cs.lookup x=some c)->∃c,(fN cells names cs).lookup x=some c
 | [],cs,h=>h.elim (λh=>nomatch h) id
 | (y,k)::r,cs,h=>by
  rw[fN];apply yB;rcases h with h|⟨c,h⟩
  ·rcases List.mem_cons.mp h with e|e
   ·cases e
    refine .inr ⟨(cells.lookup x).getD 0,?_⟩;simp[zdE]
   ·exact .inl e
  ·right
   by_cases e:(k == zcl)=true
   ·rw[if_pos e,zdE]
    by_cases ex:(x == y)=true
    ·rw[ex];exact⟨_,rfl⟩
    ·rw[zdF]at ex;rw[ex];exact⟨c,h⟩
   ·rw[if_neg e];exact⟨c,h⟩
theorem d7{q:Type}{v:q}:∀ {l:List (Str×q)},l.lookup x=some v->(x,v)∈l
 | (y,w)::r,h=>by
  rw[zdE]at h;by_cases ex:(x == y)=true
  ·rw[ex]at h;cases h;rw[show x=y by simpa using ex];exact zas ..
  ·rw[zdF]at ex;rw[ex]at h;exact zav _ (d7 h)
noncomputable def DE(names q:List (Str×zbY)):Bool:=
 names.all λy=>y.2 != .cell && (y.2 != .local || names.lookup y.1 == some .local) && (y.2 != .free || q.lookup y.1 == some .cell)
theorem BF{X:Cx}{N:List Str}{scope:Scope}{n:Nat}(hk:scope.kind=.function)(h:DE scope.names X.env.scope.names=true)(hc:X.env.cells=zcF n X.env.scope.names []):My.Clo X N scope (fN X.env.cells scope.names []):=by
 have h':=List.all_eq_true.mp h;have c1:∀y∈scope.names,y.2≠.cell:=λy F=>by
  have:=h' y F;simp only[zaK]at this;simpa using this.1.1
 have c2:∀y∈scope.names,y.2=.local->scope.names.lookup y.1=some .local:=λy F e=>by
  have:=h' y F;simp only[zaK,zdp]at this;rcases this.1.2 with z|z
  ·rw[e]at z;exact absurd z (by decide)
  ·simpa using z
 have Y:∀y∈scope.names,y.2=.free->∃c,X.env.cells.lookup y.1=some c:=λy F e=>by
  have:=h' y F;simp only[zaK,zdp]at this;rcases this.2 with z|z
  ·rw[e]at z;exact absurd z (by decide)
  ·rw[hc];exact qH (sc:=X.env.scope) (by simpa using z)
 have B:∀x,((zbK scope X.env).names.lookup x=some .cell\/(zbK scope X.env).names.lookup x=some .free)->(x,zcl)∈scope.names:=λx G=>by
  have M:∀U,(U=NameKind.cell\/U=zcl)->(x,U)∈(zbK scope X.env).names->(x,zcl)∈scope.names:=λU W hm=>by
   obtain⟨⟨y,k⟩,F,e⟩:=List.mem_map.mp hm;dsimp only at e;by_cases q:(k == zcl && X.env.scope.kind == .function && X.env.kindOf y == some .cell)=true
   ·rw[if_pos q]at e
    have:k=.free:=by simp only[zaK]at q;simpa using q.1.1
    cases e;subst this;exact F
   ·rw[if_neg q]at e
    cases e;rcases W with z|z
    ·exact absurd z (c1 _ F)
    ·subst z;exact F
  rcases G with G|G
  ·exact M _ (.inl rfl) (d7 G)
  ·exact M _ (.inr rfl) (d7 G)
 refine⟨MP Y,hk,c1,c2,λx c e=>?_,λx G=>yB (.inl (B x G))⟩;rcases xB e with⟨c',z,_⟩|⟨z1,z2⟩
 ·cases z
 ·obtain⟨c0,J⟩:=Y _ z1 rfl
  have J:X.env.cells.lookup x=some c0:=J;rw[z2,J];rfl
noncomputable def cZ(X:Cx)(scope:Scope):List Str->List (Option Nat)->Prop
 | [],[]=>True
 | _::N,none::ms=>cZ X scope N ms
 | x::N,some i::ms=>(X.N[i]?=some x/\((zbK scope X.env).names.lookup x == some NameKind.local)=false/\(X.env.kindOf x=some .cell\/X.env.kindOf x=some .free))/\cZ X scope N ms
 | _,_=>False
noncomputable def nW{q:Type}(ms:List (Option Nat))(σ:List (Option q)):List (Option q):=ms.map λo=>o.bind λi=>(σ[i]?).join
theorem gM:∀ {N:List Str} {ms:List (Option Nat)},cZ X scope N ms->ms.length=N.length/\∀(j:Nat) (x:Str) (i:Nat),N[j]?=some x->ms[j]?=some (some i)->X.N[i]?=some x/\(zbK scope X.env).names.lookup x≠some .local/\(X.env.kindOf x=some .cell\/X.env.kindOf x=some .free)
 | [],[],_=>⟨rfl,λj x i h _=>by simp at h⟩
 | y::N,none::ms,h=>by
  obtain⟨l,g⟩:=gM (N:=N) (ms:=ms) h;refine⟨by simp[l],λj x i h1 h2=>?_⟩;cases j with
  | zero=>simp at h2
  | succ j=>exact g j x i (by simpa using h1) (by simpa using h2)
 | y::N,some k::ms,h=>by
  obtain⟨l,g⟩:=gM (N:=N) (ms:=ms) h.2;refine⟨by simp[l],λj x i h1 h2=>?_⟩;cases j with
  | zero=>simp at h1 h2;subst h1 h2;exact⟨h.1.1,λz=>by have:=h.1.2.1;rw[z]at this;exact absurd this (by decide),h.1.2.2⟩
  | succ j=>exact g j x i (by simpa using h1) (by simpa using h2)
 | [],_::_,h=>h.elim
 | _::_,[],h=>h.elim
theorem CM{q:Type}{ms:List (Option Nat)}{σ:List (Option q)}{j:Nat}{v:q}(h:(nW ms σ)[j]?=some (some v)):∃i:Nat,ms[j]?=some (some i)/\σ[i]?=some (some v):=by
 unfold nW at h;rw[zaB]at h;obtain⟨o,B,z⟩:=map_some h;cases o with
 | none=>cases z
 | some i=>exact⟨i,B,oE z⟩
theorem GT{N:List Str}{ms:List (Option Nat)}(h:cZ X scope N ms)(σ:L2.St):My.Start X N scope σ (nW ms σ):=by
 obtain⟨l,g⟩:=gM h;refine⟨by unfold nW;rw[zao];exact l,λj x v h1 h2 _=>?_⟩;obtain⟨i,q,z⟩:=CM h2;obtain⟨a,b,c⟩:=g j x i h1 q;exact⟨b,i,a,z,c⟩
theorem ST.inner{E:List Fact}{O:List Nat}(s:ST H0 A0 A E O σ H ρ)(ms:List (Option Nat))(n:∀i,some i∈ms->i∉O):ST H0 A0 A E [] (nW ms σ) H (nW ms ρ) where
 ex:=s.ex
 sub:=s.sub
 l0:=s.l0
 live:=s.live
 len:=by simp[nW]
 val:=λj d h _=>by
  obtain⟨i,q,B⟩:=CM h;obtain⟨v,z,r⟩:=s.val i d B (n i (zaX q));refine⟨v,?_,r⟩;unfold nW;rw[zaB,q];show some ((σ[i]?).join)=_;rw[z];rfl
 own:=λj d _ h=>nomatch h
 inj:=λi j d d' a hi=>nomatch hi
 ext:=s.ext
def bR(g:Gv)(c:Bv)(f:Ev):List D->cY->Option (List D)
 | [],_=>some []
 | x::xs,ρ=>(g x ρ).bind λρ1=>(c ρ1).bind λb=>if b=true then(f ρ1).bind λd=>(bR g c f xs ρ1).bind λds=>some (d::ds)else bR g c f xs ρ1
def hZ(ms:List (Option Nat))(it:Lv)(g:Gv)(c:Bv)(f:Ev):Ev:=λρ=>(it ρ).bind λitems=>if aX items.length then(bR g c f items (nW ms ρ)).map .lst else none
def BI:Bv:=λ_=>some true
theorem GG:My.DR X [] (tDT O BI):=λpins s σ H Q I ⟨H0,A0,A,E,ρ,b,st,e,q⟩=>My.N3 pins s σ H Q I (by cases e;exact q H (Ext.refl _ _))
theorem HJ(h:m8 X O c g):My.DR X [c] (tDT O g):=My.NA h
section
variable {X:Cx}{O:List Nat}
theorem qK(a4:cZ X scope N ms)(hn:(ms.all λo=>match o with|some i=>!O.contains i|none=>true)=true)(σ:L2.St)(H:Hp)(Q:VK) :
  tF O (hZ ms it g c f) σ H Q->My.KL (tDI O it) (tDG [] g) (tDT [] c) (tD Rep [] f) (My.Start X N scope) σ H Q:=λ⟨H0,A0,A,E,ρ,d,st,e,q⟩=>by
 obtain⟨items,e1,e⟩:=bind_some e;by_cases hz:aX items.length=true
 case neg=>rw[if_neg hz]at e;cases e
 rw[if_pos hz]at e;obtain⟨ds,e2,rfl⟩:=map_some e;have a6:∀i,some i∈ms->i∉O:=λi hi z=>by
  have:=List.all_eq_true.mp hn _ hi;simp only[Bool.not_eq_true']at this;have z':O.contains i=true:=by simpa using z
  rw[z']at this;cases this
 refine⟨nW ms σ,GT a4 σ,H0,A0,A,E,ρ,items,st,e1,λJ H1 E1 x1 ay J1 D hD=>?_⟩;have a5:=(st.mono x1).live;have nA:¬ A D:=λz=>a5 D z hD
 have n0:H D=none:=x1.free hD
 -- the state of the block: the list that grows stands outside all that is borne
 refine⟨λi m am us H2=>m=items.length-i/\i<=items.length/\∃ρ2 done rest,ST H0 A0 (λb=>A b\/b=D) (E1++E) [] am H2 ρ2/\H2 D=some (.lst us)/\Ext A H H2/\RepL (λb=>A b\/b=D) H2 done us/\bR g c f (items.drop i) ρ2=some rest/\done++rest=ds/\done.length<=i,⟨items.length,by simp,za3 _,nW ms ρ,[],ds,?_,aI,x1.trans (Ext.new hD),.nil,e2,rfl,zan _⟩,?_⟩
 ·have s1:=((st.mono x1).both ay).inner ms a6
  have up:∀a,(A a\/a=D)->A a\/H1 a=none:=λa F=>F.imp id λz=>by rw[z];exact hD
  refine⟨s1.ex.trans (Ext.new hD),λa F=>.inl (s1.sub a F),s1.l0,λa F=>?_,s1.len,λi d h n=>?_,(λi d _ h=>nomatch h),(λi j d d' a hi=>nomatch hi),λp hp=>Fact.ext (Ext.new hD) (Fact.av up (s1.ext p hp))⟩
  ·rcases F with F|F
   ·rw[aE (λz=>by subst z;exact nA F)];exact s1.live a F
   ·subst F;rw[aI];exact λz=>nomatch z
  ·obtain⟨v,h1,h2⟩:=s1.val i d h n
   exact⟨v,h1,(h2.av up).ext (Ext.new hD)⟩
 ·rintro i m am us H2 ⟨rfl,bx,ρ2,done,rest,s2,ad,x2,aa,G,ed,a0⟩
  obtain⟨aj,go⟩:=J1 _ H2 s2.live (λp hp=>s2.ext p (zdh _ hp)) i;by_cases U:i<items.length
  ·have eg:items[i]?=some items[i]:=by simp[U]
   obtain⟨a1,hy⟩:=go _ eg;rw[zex U]at G;obtain⟨M,e3,G⟩:=bind_some G;obtain⟨b,e4,G⟩:=bind_some G;have ak:us.length<zaj:=by
    rw[aa.length];exact zd8 a0 (zbb U (fV hz))
   refine .inr ⟨a1,ak,λx H3 y=>?_⟩;obtain⟨x3,r3⟩:=hy x H3 y;refine⟨H0,A0,_,E1++E,ρ2,_,M,s2.mono x3,r3,e3,λbg s3=>⟨H0,A0,_,E1++E,M,b,s3,e4,λH5 x5=>?_⟩⟩;have ab:=x3.trans x5;have an:H5 D=some (.lst us):=ab.ow D _ (.inr rfl) ad;have ah:Ext A H H5:=x2.trans (ab.mono λa F=>.inl F);cases b with
   | false=>
    rw[if_neg zau]at G;exact YN ⟨an,items.length-(i+1),by lia,rfl,U,M,done,rest,s3.mono x5,an,ah,aa.ext ab,G,ed,by lia⟩
   | true=>
    rw[if_pos rfl]at G;refine YQ ?_;obtain⟨d,e6,G⟩:=bind_some G;obtain⟨ae,e7,G⟩:=bind_some G;cases G;refine⟨H0,A0,_,E1++E,M,d,s3.mono x5,e6,λv H6 x6 r6=>?_⟩;have ai:=ab.trans x6;have Y:H6 D=some (.lst us):=ai.ow D _ (.inr rfl) ad;refine⟨Y,items.length-(i+1),by lia,rfl,U,M,done++[d],ae,?_,aI,?_,((aa.ext ai).append (.cons r6 .nil)).put (.inr rfl) Y trivial,e7,by rw[<- ed];simp,by rw[zbk];show done.length+1<=i+1;lia⟩
    ·have W:=s3.mono (x5.trans x6)
     have ax:H0 D=none:=st.ex.free n0;have B:∀b,H0 b≠none->b≠D:=λb hb z=>hb (by rw[z];exact ax)
     refine⟨⟨λb w r=>eE (B b (by rcases r with r|⟨_,r⟩ <;> (rw[r];exact λz=>nomatch z))) (W.ex.rd b w r),λb xs k r=>?_,λb w n r=>?_,λb q w r=>?_⟩,W.sub,W.l0,λa F=>?_,W.len,λi d h n=>?_,(λi d _ h=>nomatch h),(λi j d d' a hi=>nomatch hi),λp hp=>Fact.put (.inr rfl) Y trivial (W.ext p hp)⟩
     ·rw[aE (B b (by rw[r];exact λz=>nomatch z))];exact W.ex.kp b xs k r
     ·rw[aE (B b (by rw[r];exact λz=>nomatch z))];exact W.ex.ow b w n r
     ·rw[aE (B b (by rw[r];exact λz=>nomatch z))];exact W.ex.fz b q w r
     ·by_cases z:a=D
      ·subst z;rw[aI];exact λz=>nomatch z
      ·rw[aE z];exact W.live a F
     ·obtain⟨v,h1,h2⟩:=W.val i d h n
      exact⟨v,h1,h2.put (.inr rfl) Y trivial⟩
    ·have ac:Ext A H H6:=ah.trans (x6.mono λa F=>.inl F)
     have B:∀b,H b≠none->b≠D:=λb hb z=>hb (by rw[z];exact n0)
     exact⟨λb w r=>eE (B b (by rcases r with r|⟨_,r⟩ <;> (rw[r];exact λz=>nomatch z))) (ac.rd b w r),
      λb xs k r=>by rw[aE (B b (by rw[r];exact λz=>nomatch z))];exact ac.kp b xs k r,
      λb w n r=>by rw[aE (B b (by rw[r];exact λz=>nomatch z))];exact ac.ow b w n r,
      λb q w r=>by rw[aE (B b (by rw[r];exact λz=>nomatch z))];exact ac.fz b q w r⟩
  ·have aw:i=items.length:=by lia
   subst aw;rw[List.drop_length]at G;cases G;rw[zcC]at ed;subst ed;exact .inl ⟨aj (zan _),q D H2 x2 n0 nA (.lst ad aa)⟩
theorem K8
  (G:X.calm=true) (z:My.Clo X N scope cl) (q:cZ X scope N ms) (M:(ms.all λo=>match o with|some i=>!O.contains i|none=>true)=true) (hi:PDI X O tg iter it) (F:∀C s H fp,y6 (My.aW X N scope cl C s H fp) [] tg g)
  (B:∀C s H fp,My.DR (My.aW X N scope cl C s H fp) ifs (tDT [] c)) (J:∀C s H fp,PD (My.aW X N scope cl C s H fp) [] elt f) (hs:∀x,zbO iter X.env x=pure x:=by intro _;rfl) :
  PF X O (.ListComp elt [⟨tg,iter,ifs,0⟩] scope pos) (hZ ms it g c f):=PE.mono (My.LG G z hi F B J hs) (qK q M)
def aK(n:Nat)(ds:List D):cY:=ds.map some++zaO (n-ds.length) none
def bA(n:Nat)(f:Sv)(ds:List D):Option D:=(f (aK n ds)).bind λo=>match o with
 | .rt d=>some d
 | .nx _=>some .non
 | _=>none
theorem ST.begun(q:Live A H)(r:RepL A H ds vs):ST H A A [] [] (L2.start N vs) H (aK N.length ds) where
 ex:=Ext.refl _ _
 sub:=λ_ h=>h
 l0:=q
 live:=q
 len:=by unfold L2.start aK;simp[r.length]
 val:=λi d h _=>by
  unfold aK at h;by_cases hi:i<ds.length
  ·rw[zdm (by simpa using hi),zaB]at h
   obtain⟨d',J,B⟩:=map_some h;cases B;obtain⟨v,F,G⟩:=r.get' J;refine⟨v,?_,G⟩;unfold L2.start;rw[zdm (by rw[zao,r.length];exact hi),zaB,F];rfl
  ·rw[zeU (by simpa using hi),List.getElem?_replicate]at h
   split at h <;> cases h
 own:=λi d _ h=>nomatch h
 inj:=λi j d d' a hi=>nomatch hi
 ext:=λp z=>nomatch z
theorem WC{P:zam}{w:World}{K:zaf}{mg:Str->Option Value}{base:Heap}{x:Str}{st:Stmt}{N ps:List Str}{k:Nat}{f:Sv}{O':List Nat}(U:My.DefAt K mg x st ps)(S:FnScope N ps (aT st))
  (h:∀(J:Addr) (B:Value) (A:zar) (z:List Env) (s:zab) (H:Hp) (E:XK),Room k (A.deeper (zbn x (aT st) s.heap.objs.size J B))->∃g,dM (rR F6 P w K mg base N x (aT st) J B A z s H E).nox ⟨[],[]⟩ [] (bZ st) g O'/\g=f) :
  Fn P w K mg base x (k+1) ps (bA N.length f):=by
 refine My.BodyOk.ok (λJ B A z s H vs Q E hr F=>?_) U S (λvs H Q E F=>by obtain⟨A,ds,d,_,_,e,_⟩:=F;exact e);obtain⟨M,ds,d,lv,r,e,eF,q⟩:=F;obtain⟨o,W,G⟩:=bind_some eF;obtain⟨g,hg,rfl⟩:=h J B A z s H E hr;refine⟨_,hg,H,M,M,[],_,o,ST.begun lv r,W,?_⟩;cases o with
 | nx ρ=>cases G;exact λA2 ae H2 s2=>q .non H2 s2.ex .non
 | rt d'=>cases G;exact λv H2 x2 Y=>q v H2 x2 Y
 | bk _=>cases G
 | ct _=>cases G
noncomputable def IY(K:zaf):Bool:=K.all λp=>match p.2.cls with
 | .type "list" => false
 | _=>true
theorem FS{K:zaf}(h:IY K=true){a:Addr}{o:Obj}(e:K.lookup a=some o):o.cls≠.type "list" := λz=>by
 have m:∀ {K:zaf},K.lookup a=some o->(a,o)∈K:=by
  intro K;induction K with
  | nil=>intro e;cases e
  | cons p r ih=>
   intro e;rw[zdE]at e;by_cases q:(a == p.1)=true
   ·rw[q]at e;cases e;rw[show a=p.1 by simpa using q];exact zas ..
   ·rw[zdF]at q;rw[q]at e;exact zav _ (ih e)
 have:=List.all_eq_true.mp h _ (m e);dsimp only at this;rw[z]at this;exact absurd this (by decide)
theorem SD{P:zam}{w:World}{K:zaf}{mg:Str->Option Value}{base:Heap}{st:Stmt}{N:List Str}{k:Nat}{f:Sv}{O':List Nat}(hK:IY K=true)
  (h:∀(M:Addr) (F:Value) (A:zar) (B:List Env) (s:zab) (H:Hp) (E:XK),Room k (A.deeper (zbn "law" (aT st) s.heap.objs.size M F))->∃g,dM (rR F6 P w K mg base N "law" (aT st) M F A B s H E).nox ⟨[],[]⟩ [] (bZ st) g O'/\g=f)
  (hv:∀ns:List Int,ns.length<=63->bA N.length f [.lst (ns.map .int)]=some (.bl true)):My.BodyOk P w K mg base "law" st N k (My.yS K):=by
 refine λM F A B s H vs Q E hr U=>?_
 obtain⟨a,ns,rfl,W,hl,q⟩:=U;have hR:Rd H a (.lst (ns.map V.int)):=by
  rcases W with W|⟨o,_,_,e,c,_⟩
  ·exact W
  ·exact absurd c (FS hK e)
 have lv:Live (λ_=>False) H:=λa h=>h.elim
 have G:∀ns:List Int,RepL (λ_=>False) H (ns.map .int) (ns.map V.int):=λns=>by
  induction ns with
  | nil=>exact .nil
  | cons n ns ih=>exact .cons (.int n) ih
 obtain⟨o,Y,J⟩:=bind_some (hv ns hl);obtain⟨g,hg,rfl⟩:=h M F A B s H E hr;refine⟨_,hg,H,λ_=>False,λ_=>False,[],_,o,ST.begun lv (.cons (.lst (λz=>z) hR (G ns)) .nil),Y,?_⟩;cases o with
 | nx ρ=>cases J
 | rt d'=>cases J;exact λv H2 x2 r2=>by cases r2;exact q _
 | bk _=>cases J
 | ct _=>cases J
end
mutual
def i9:D->Option My.Dx
 | .non=>some .non
 | .bl b=>some (.bl b)
 | .int i=>some (.int i)
 | .str x=>some (.str x)
 | .tup l=>(lP l).map .tup
 | .lst l=>(lP l).map .lst
 | .dK _=>none
 | .dT _=>none
def lP:List D->Option (List My.Dx)
 | []=>some []
 | d::ds=>(i9 d).bind λx=>(lP ds).bind λxs=>some (x::xs)
end
mutual
theorem nP:∀ {d e:D} {x:My.Dx},i9 d=some x->i9 e=some x->d=e
 | .non,e,x,h,k=>by cases h;cases e <;> simp[i9]at k <;> first|rfl|(obtain⟨_,_,z⟩:=k;cases z)
 | .bl b,e,x,h,k=>by cases h;cases e <;> simp[i9]at k <;> first|(rw[k])|(obtain⟨_,_,z⟩:=k;cases z)
 | .int b,e,x,h,k=>by cases h;cases e <;> simp[i9]at k <;> first|(rw[k])|(obtain⟨_,_,z⟩:=k;cases z)
 | .str b,e,x,h,k=>by cases h;cases e <;> simp[i9]at k <;> first|(rw[k])|(obtain⟨_,_,z⟩:=k;cases z)
 | .tup l,e,x,h,k=>by
  rw[i9]at h;obtain⟨xs,h1,rfl⟩:=map_some h;cases e with
  | tup m=>
   rw[i9]at k;obtain⟨ys,B,q⟩:=map_some k;cases q;rw[qL h1 B]
  | lst m=>rw[i9]at k;obtain⟨ys,B,q⟩:=map_some k;cases q
  | _=>simp[i9]at k
 | .lst l,e,x,h,k=>by
  rw[i9]at h;obtain⟨xs,h1,rfl⟩:=map_some h;cases e with
  | lst m=>
   rw[i9]at k;obtain⟨ys,B,q⟩:=map_some k;cases q;rw[qL h1 B]
  | tup m=>rw[i9]at k;obtain⟨ys,B,q⟩:=map_some k;cases q
  | _=>simp[i9]at k
 | .dK _,e,x,h,k=>by rw[i9]at h;cases h
 | .dT _,e,x,h,k=>by rw[i9]at h;cases h
theorem qL:∀ {d e:List D} {x:List My.Dx},lP d=some x->lP e=some x->d=e
 | [],e,x,h,k=>by
  rw[lP]at h;cases h;cases e with
  | nil=>rfl
  | cons e es=>
   rw[lP]at k;obtain⟨_,_,k⟩:=bind_some k;obtain⟨_,_,k⟩:=bind_some k;cases k
 | d::ds,e,x,h,k=>by
  rw[lP]at h;obtain⟨y,h1,h⟩:=bind_some h;obtain⟨ys,h2,h⟩:=bind_some h;cases h;cases e with
  | nil=>rw[lP]at k;cases k
  | cons e es=>
   rw[lP]at k;obtain⟨z,B,k⟩:=bind_some k;obtain⟨zs,q,k⟩:=bind_some k;cases k;rw[nP h1 B,qL h2 q]
end
mutual
theorem uX{K:zaf}{A:Av}{H:Hp}:∀ {d:D} {x:My.Dx} {v:V},i9 d=some x->Rep A H d v->My.Rep K H x v
 | .non,x,v,h,r=>by cases h;cases r;rw[My.Rep]
 | .bl b,x,v,h,r=>by cases h;cases r;rw[My.Rep]
 | .int b,x,v,h,r=>by cases h;cases r;rw[My.Rep]
 | .str b,x,v,h,r=>by cases h;cases r;rw[My.Rep]
 | .tup l,x,v,h,r=>by
  rw[i9]at h;obtain⟨xs,h1,rfl⟩:=map_some h;cases r with
  | tup hh rl=>rw[My.Rep];exact⟨_,_,rfl,.inl (.inl hh),kH h1 rl⟩
 | .lst l,x,v,h,r=>by
  rw[i9]at h;obtain⟨xs,h1,rfl⟩:=map_some h;cases r with
  | lst n hh rl=>rw[My.Rep];exact⟨_,_,rfl,.inl hh,kH h1 rl⟩
 | .dK _,x,v,h,r=>by rw[i9]at h;cases h
 | .dT _,x,v,h,r=>by rw[i9]at h;cases h
theorem kH{K:zaf}{A:Av}{H:Hp}:∀ {d:List D} {x:List My.Dx} {v:List V},lP d=some x->RepL A H d v->My.RepL K H x v
 | [],x,v,h,r=>by rw[lP]at h;cases h;cases r;rw[My.RepL]
 | d::ds,x,v,h,r=>by
  rw[lP]at h;obtain⟨y,h1,h⟩:=bind_some h;obtain⟨ys,h2,h⟩:=bind_some h;cases h;cases r with
  | cons r rs=>rw[My.RepL];exact⟨_,_,rfl,uX h1 r,kH h2 rs⟩
end
theorem gY{K:zaf}{A:Av}{H:Hp}{d:D}{x:My.Dx}{v:V}(h:i9 d=some x)(r:RepB A H d v):My.Rep K H x v:=by
 cases r with
 | of r=>exact uX h r
 | lst hh rl=>
  rw[i9]at h;obtain⟨xs,h1,rfl⟩:=map_some h;rw[My.Rep];exact⟨_,_,rfl,.inl hh,kH h1 rl⟩
 | dK=>rw[i9]at h;cases h
 | dT=>rw[i9]at h;cases h
def lN(d:D):Bool:=match i9 d with
 | some x=>x.nb && decide (x.dep<=60)
 | none=>false
noncomputable def UN:D->Bool
 | .tup _=>true | .lst _=>true|_=>false
noncomputable def O5:D->D->Bool
 | .non,.non=>true | .non,.int _=>true | .int _,.non=>true | .non,.bl _=>true | .bl _,.non=>true | .non,.str _=>true | .str _,.non=>true
 | .int _,.int _=>true | .bl _,.bl _=>true | .str _,.str _=>true
 | .int _,.str _=>true | .str _,.int _=>true | .bl _,.str _=>true | .str _,.bl _=>true
 | _,_=>false
open Classical in
def K6(d e:D):Option Bool:=if O5 d e=true\/(UN d=true/\UN e=true/\lN d=true/\lN e=true)then some (decide (d=e))else none
def yY(d e:D):Option D:=(K6 d e).map .bl
def DS(d e:D):Option D:=(K6 d e).map λb=>.bl (!b)
theorem IW(h:O5 d e=true)(r:RepB A H d v)(s:RepB A H e w):UH v w=true/\(v=w↔d=e):=by
 cases d <;> cases e <;> first
  | (cases h;done)
  | (have:=r.non_inv;subst this;have:=s.non_inv;subst this;exact⟨rfl,by simp⟩)
  | (have:=r.non_inv;subst this;have:=s.int_inv;subst this;exact⟨rfl,by simp⟩)
  | (have:=r.non_inv;subst this;have:=s.bl_inv;subst this;exact⟨rfl,by simp⟩)
  | (have:=r.non_inv;subst this;have:=s.str_inv;subst this;exact⟨rfl,by simp⟩)
  | (have:=r.int_inv;subst this;have:=s.non_inv;subst this;exact⟨rfl,by simp⟩)
  | (have:=r.int_inv;subst this;have:=s.int_inv;subst this;exact⟨rfl,by simp⟩)
  | (have:=r.int_inv;subst this;have:=s.str_inv;subst this;exact⟨rfl,by simp⟩)
  | (have:=r.bl_inv;subst this;have:=s.non_inv;subst this;exact⟨rfl,by simp⟩)
  | (have:=r.bl_inv;subst this;have:=s.bl_inv;subst this;exact⟨rfl,by simp⟩)
  | (have:=r.bl_inv;subst this;have:=s.str_inv;subst this;exact⟨rfl,by simp⟩)
  | (have:=r.str_inv;subst this;have:=s.non_inv;subst this;exact⟨rfl,by simp⟩)
  | (have:=r.str_inv;subst this;have:=s.int_inv;subst this;exact⟨rfl,by simp⟩)
  | (have:=r.str_inv;subst this;have:=s.bl_inv;subst this;exact⟨rfl,by simp⟩)
  | (have:=r.str_inv;subst this;have:=s.str_inv;subst this;exact⟨rfl,by simp⟩)
section
variable {X:Cx}{O:List Nat}
theorem OpR.orM(h:OpR X f r)(h':OpR X f r')(x:∀a b H Q,r2 a b H Q->r a b H Q\/r' a b H Q):OpR X f r2:=OpR.mono (OpR.or h h') x
theorem lK(h:lN d=true):∃x,i9 d=some x/\x.nb=true/\x.dep<=60:=by
 unfold lN at h;cases e:i9 d with
 | none=>rw[e]at h;cases h
 | some x=>rw[e]at h;simp only[zaK,decide_eq_true_eq]at h;exact⟨x,rfl,h.1,h.2⟩
theorem DC(h:UN d=true)(e:i9 d=some x):x.seq=true:=by
 cases d with
 | tup l=>rw[i9]at e;obtain⟨xs,_,rfl⟩:=map_some e;rfl
 | lst l=>rw[i9]at e;obtain⟨xs,_,rfl⟩:=map_some e;rfl
 | _=>cases h
theorem WG(hu:X.A.units+64<cLine):eY X (zaq .Eq) yY:=OpR.orM V1 (My.RZ hu) <| by
 rintro x y H Q ⟨A,dx,N,d,lv,U,W,e,q⟩;obtain⟨b,G,rfl⟩:=map_some e;unfold K6 at G;split at G
 case isFalse=>cases G
 rename_i hc;cases G;rcases hc with hs|⟨s1,s2,k1,k2⟩
 ·left
  obtain⟨h1,h2⟩:=IW hs U W;refine⟨h1,?_⟩;have:decide (x=y)=@decide (dx=N) (zcv _):=decide_eq_decide.mpr h2;rw[this];exact q _ H (Ext.refl _ _) (.bl _)
 ·right
  obtain⟨J,F,a2,Y⟩:=lK k1;obtain⟨M,B,b2,b3⟩:=lK k2;refine⟨J,M,gY F U,gY B W,DC s1 F,DC s2 B,a2,b2,Y,?_⟩;have:@decide (J=M) (zcv _)=@decide (dx=N) (zcv _):=decide_eq_decide.mpr ⟨λz=>nP F (z ▸ B),λz=>by subst z;rw[F]at B;exact zaI B⟩;show Q (.bl (@decide (J=M) (zcv _))) H;rw[this];exact q _ H (Ext.refl _ _) (.bl _)
theorem WH(hu:X.A.units+64<cLine):eY X (zaq .NotEq) DS:=OpR.orM V9 (My.QB hu) <| by
 rintro x y H Q ⟨A,dx,N,d,lv,U,W,e,q⟩;obtain⟨b,G,rfl⟩:=map_some e;unfold K6 at G;split at G
 case isFalse=>cases G
 rename_i hc;cases G;rcases hc with hs|⟨s1,s2,k1,k2⟩
 ·left
  obtain⟨h1,h2⟩:=IW hs U W;refine⟨h1,?_⟩;have:decide (x=y)=@decide (dx=N) (zcv _):=decide_eq_decide.mpr h2;rw[this];exact q _ H (Ext.refl _ _) (.bl _)
 ·right
  obtain⟨J,F,a2,Y⟩:=lK k1;obtain⟨M,B,b2,b3⟩:=lK k2;refine⟨J,M,gY F U,gY B W,DC s1 F,DC s2 B,a2,b2,Y,?_⟩;have:@decide (J=M) (zcv _)=@decide (dx=N) (zcv _):=decide_eq_decide.mpr ⟨λz=>nP F (z ▸ B),λz=>by subst z;rw[F]at B;exact zaI B⟩;show Q (.bl (!@decide (J=M) (zcv _))) H;rw[this];exact q _ H (Ext.refl _ _) (.bl _)
noncomputable def eT:D->Bool
 | .non=>true|_=>false
def UP(d e:D):Option D:=if eT e then some (.bl (eT d))else none
def DN(d e:D):Option D:=if eT e then some (.bl (!eT d))else none
theorem CT(r:RepB A H d v):decide (v=.non)=eT d:=by
 cases d with
 | non=>have:=r.non_inv;subst this;rfl
 | bl b=>have:=r.bl_inv;subst this;rfl
 | int b=>have:=r.int_inv;subst this;rfl
 | str b=>have:=r.str_inv;subst this;rfl
 | tup l=>obtain⟨_,_,rfl,_⟩:=r.tup_inv;rfl
 | lst l=>obtain⟨_,_,rfl,_⟩:=r.lst_inv;rfl
 | dK l=>obtain⟨_,_,rfl,_⟩:=r.dK_inv;rfl
 | dT l=>obtain⟨_,_,rfl,_⟩:=r.dT_inv;rfl
theorem QN:eY X (zaq .Is) UP:=OpR.mono R0 <| by
 rintro x y H Q ⟨A,dx,F,d,G,z,B,e,q⟩;unfold UP at e;cases F with
 | non=>cases e;have:=B.non_inv;subst this;exact⟨rfl,by rw[CT z];exact q _ H (Ext.refl _ _) (.bl _)⟩
 | _=>cases e
theorem NW:eY X (zaq .IsNot) DN:=OpR.mono NQ <| by
 rintro x y H Q ⟨A,dx,F,d,G,z,B,e,q⟩;unfold DN at e;cases F with
 | non=>cases e;have:=B.non_inv;subst this;exact⟨rfl,by rw[CT z];exact q _ H (Ext.refl _ _) (.bl _)⟩
 | _=>cases e
theorem Inv.lstR(I:Inv X pins σ H s)(z:Rd H l (.lst xs)):xs.length<=zaj/\∃(q:List Value) (n:Nat),Vals xs q/\xs.length=q.length/\s.heap.get? l=some {cls:=.type "list",data:=.seq q.toArray n}:=by
 obtain⟨hz,q,n,r,e⟩:=(show ObjOk X.prog X.w H s.heap l (.lst xs)from z.ok I.hok);exact⟨hz,q,n,r,r.length,e⟩
def V5:R2:=λx y H Q=>∃l b xs zs,x=.ref l/\y=.ref b/\Rd H l (.lst xs)/\Rd H b (.lst zs)/\xs.length+zs.length<=zaj/\∀p,H p=none->Q (.ref p) (upd H p (.lst (xs++zs)))
theorem LS:OpR X (zaW .Add) V5:=by
 intro pins s σ H x y v u Q I W Y h;obtain⟨l,b,xs,zs,rfl,rfl,M,J,hz,q⟩:=h;cases W;cases Y;obtain⟨z,F,n,r,hl,e⟩:=Inv.lstR I M;obtain⟨z2,B,n2,U,N,G⟩:=Inv.lstR I J;refine PySem.P.add_list e G ?_ (by rw[zaz,zaz];lia);have ea:F.toArray++B.toArray=(F++B).toArray:=by simp
 rw[ea];exact⟨.ref _,_,I.lnew (t':=s.toks) (r.append U) (by rw[zbk];lia),rfl,q _ I.fresh⟩
end
section
variable {X:Cx}{O:List Nat}
theorem RepL.nil_iff(r:RepL A H ds vs):vs=[]↔ds=[]:=by cases r <;> simp
def t9:D->D->Option D
 | .int i,.int j=>some (.int (i+j))
 | .str i,.str j=>if aX (i.length+j.length)then some (.str (i++j))else none
 | .lst l,.lst m=>if aX (l.length+m.length)then some (.lst (l++m))else none
 | .tup (a::l),.tup m=>if aX (l.length+1+m.length)then some (.tup (a::l++m))else none
 | _,_=>none
theorem SY:eY X (zaW .Add) t9:=OpR.mono (OpR.or (OpR.or T8 zX) (OpR.or LS LU)) <| by
 rintro x y H Q ⟨A,dx,G,d,U,M,N,e,q⟩;cases dx with
 | int i=>
  cases G with
  | int j=>cases e;have:=M.int_inv;subst this;have:=N.int_inv;subst this;exact .inl (.inl ⟨i,j,rfl,rfl,q _ H (Ext.refl _ _) (.int _)⟩)
  | _=>cases e
 | str i=>
  cases G with
  | str j=>
   simp only[t9]at e;by_cases hz:aX (i.length+j.length)=true
   ·rw[if_pos hz]at e;cases e;have:=M.str_inv;subst this;have:=N.str_inv;subst this
    exact .inl (.inr ⟨i,j,rfl,rfl,fV hz,q _ H (Ext.refl _ _) (.str _)⟩)
   ·rw[if_neg hz]at e;cases e
  | _=>cases e
 | lst l=>
  cases G with
  | lst m=>
   simp only[t9]at e;by_cases hz:aX (l.length+m.length)=true
   ·rw[if_pos hz]at e;cases e
    obtain⟨a,xs,rfl,h1,B⟩:=M.lst_inv;obtain⟨b,ys,rfl,h2,J⟩:=N.lst_inv;exact .inr (.inl ⟨a,b,xs,ys,rfl,rfl,h1,h2,by rw[B.length,J.length];exact fV hz,λp F=>q _ _ (Ext.new F) (.lst (λz=>U p z F) (.inl aI) ((B.append J).ext (Ext.new F)))⟩)
   ·rw[if_neg hz]at e;cases e
  | _=>cases e
 | tup l=>
  cases l with
  | nil=>cases G <;> cases e
  | cons a0 l=>
   cases G with
   | tup m=>
    simp only[t9]at e;by_cases hz:aX (l.length+1+m.length)=true
    ·rw[if_pos hz]at e;cases e
     obtain⟨a,xs,rfl,h1,B⟩:=M.tup_inv;obtain⟨b,ys,rfl,h2,J⟩:=N.tup_inv;refine .inr (.inr ⟨a,b,xs,ys,rfl,rfl,.inl (.inl h1),.inl (.inl h2),λz=>(by have:=B.nil_iff.mp z;cases this),by rw[B.length,J.length];exact fV hz,λz=>?_,λ_ p F=>q _ _ (Ext.new F) (.tup aI ((B.append J).ext (Ext.new F)))⟩);refine q _ H (Ext.refl _ _) (.tup h1 ?_);have:=J.nil_iff.mp z;subst this;rw[zcC];exact B
    ·rw[if_neg hz]at e;cases e
   | _=>cases e
 | _=>cases G <;> cases e
noncomputable def dW:List D->Option (List Int)
 | []=>some []
 | .int i::ds=>(dW ds).map (i::·)
 | _=>none
theorem cT:∀ {ds:List D} {ns:List Int} {vs:List V},dW ds=some ns->RepL A H ds vs->vs=ns.map V.int
 | [],ns,vs,h,r=>by cases h;cases r;rfl
 | .int i::ds,ns,vs,h,r=>by
  obtain⟨ms,h1,rfl⟩:=map_some h;cases r with
  | cons r rs=>cases r;rw[cT h1 rs];rfl
def YD:D->D->Option D
 | .int i,.int j=>some (.bl (decide (i<j)))
 | .tup l,.tup m=>(dW l).bind λns=>(dW m).map λms=>.bl (HT.lexLt ns ms)
 | _,_=>none
theorem RO(M:X.A.units<cLine):eY X (zaq .Lt) YD:=OpR.mono (OpR.or WI (RC M)) <| by
 rintro x y H Q ⟨A,dx,z,d,W,B,F,e,q⟩;cases dx with
 | int i=>
  cases z with
  | int j=>cases e;have:=B.int_inv;subst this;have:=F.int_inv;subst this;exact .inl ⟨i,j,rfl,rfl,q _ H (Ext.refl _ _) (.bl _)⟩
  | _=>cases e
 | tup l=>
  cases z with
  | tup m=>
   obtain⟨ns,U,e⟩:=bind_some e;obtain⟨ms,G,rfl⟩:=map_some e;obtain⟨a,xs,rfl,h1,N⟩:=B.tup_inv;obtain⟨b,ys,rfl,h2,J⟩:=F.tup_inv;have:=cT U N;subst this;have:=cT G J;subst this;exact .inr ⟨a,b,ns,ms,rfl,rfl,.inl (.inl h1),.inl (.inl h2),q _ H (Ext.refl _ _) (.bl _)⟩
  | _=>cases e
 | _=>cases z <;> cases e
open Classical in
def BH(x y:D):Option Bool:=match y with
 | .dK _=>(b6 y x).map (·.isSome)
 | .dT _=>(b6 y x).map (·.isSome)
 | .lst l=>if lN x=true/\l.all lN=true then some (l.any λd=>decide (d=x))else none
 | .tup l=>if lN x=true/\l.all lN=true then some (l.any λd=>decide (d=x))else none
 | _=>none
def X9(x y:D):Option D:=(BH x y).map .bl
def JH(x y:D):Option D:=(BH x y).map λb=>.bl (!b)
open Classical in
theorem j9(I:Inv X pins σ H s)(hu:Ar.units+60<cLine)(kx:lN x=true)(rx:RepB A H x v)(ru:RelV v u)(kl:l.all lN=true)(rl:RepL A H l xs)(W:Vals xs B) :
  ∃f:Value->Bool,(∀y∈B,zdn Ar s y u (f y))/\B.any f=l.any λd=>decide (d=x):=by
 obtain⟨F,G,a2,a3⟩:=lK kx;have U:My.Rep X.K H F v:=gY G rx;let g:Value->Bool:=λy=>decide (∃w z,RelV w y/\My.Rep X.K H z w/\z=F)
 have one:∀ {d:D} {w:V} {y:Value},lN d=true->Rep A H d w->RelV w y->g y=decide (d=x)/\zdn Ar s y u (g y):=by
  intro d w y kd rd M;obtain⟨z,N,b2,b3⟩:=lK kd;have Y:My.Rep X.K H z w:=uX N rd;have e:g y=decide (z=F):=by
   refine decide_eq_decide.mpr ⟨λ⟨w',z',q1,q2,q3⟩=>?_,λe=>⟨w,z,M,Y,e⟩⟩;have:=RelV.inj M q1;subst this;rw[My.Rep.inj I _ _ _ Y q2,q3]
  have J:decide (z=F)=decide (d=x):=decide_eq_decide.mpr ⟨λq=>nP N (q ▸ G),λq=>by subst q;rw[N]at G;exact zaI G⟩;refine⟨e.trans J,?_⟩;rw[e];exact My.uO I 60 Ar z F w v y u b3 hu b2 a2 Y U M ru
 refine⟨g,?_,?_⟩
 ·intro y hy
  obtain⟨j,hj⟩:=List.mem_iff_getElem?.mp hy;have aa:=W.length;have aw:j<B.length:=(List.getElem?_eq_some_iff.mp hj).1;have hx:xs[j]?=some (xs[j]'(by lia)):=zaY (by lia);obtain⟨u',e1,r1⟩:=W.get hx;rw[hj]at e1;cases e1;obtain⟨d,J,r2⟩:=rl.get hx;exact(one (List.all_eq_true.mp kl _ (zaX J)) r2 r1).2
 ·have all:∀(l:List D) (xs:List V) (B:List Value),l.all lN=true->RepL A H l xs->Vals xs B->B.any g=l.any λd=>decide (d=x):=by
   intro l;induction l with
   | nil=>intro xs B _ r v;cases r;cases v;rfl
   | cons d l ih=>
    intro xs B k r v;cases r with
    | cons h t=>
     cases v with
     | cons r rs=>
      rw[zcG,zaK]at k;rw[zbA,zbA,(one k.1 h r).1,ih _ _ k.2 t rs]
  exact all l xs B kl rl W
theorem VM(hu:X.A.units+64<cLine):eY X (zaq .In) X9:=by
 intro pins s σ H x y v u Q I M F h;obtain⟨A,dx,dy,d,lv,rx,J,e,q⟩:=h;obtain⟨b,z,rfl⟩:=map_some e;have fin:∀k,k=b->EP X pins σ Q (.bool k) s:=λk hk=>⟨.bl b,H,I,by rw[hk];rfl,q _ H (Ext.refl _ _) (.bl _)⟩
 have W:X.A.units+1<cLine:=by lia
 have dict:∀o,b6 dy dx=some o->o.isSome=b->wpAny (model X.prog X.w) X.A (zaq .In v u) (EP X pins σ Q) X.xe s:=λo B ob=>by
  obtain⟨a,ov,rfl,_,g,e3⟩:=gZ B J rx;cases F;refine ZP W I g M λs' I'=>⟨.bl b,H,I',?_,q _ H (Ext.refl _ _) (.bl _)⟩
  have:ov.isSome=b:=by rw[<- ob];rcases e3 with⟨rfl,rfl⟩|⟨_,_,rfl,rfl,_⟩ <;> rfl
  rw[this];rfl
 cases dy with
 | dK l=>obtain⟨o,B,ob⟩:=map_some z;exact dict o B ob
 | dT l=>obtain⟨o,B,ob⟩:=map_some z;exact dict o B ob
 | lst l=>
  simp only[BH]at z;split at z
  case isFalse=>cases z
  rename_i hc;cases z;obtain⟨a,xs,rfl,h1,r1⟩:=J.lst_inv;cases F;obtain⟨G,r,N,hz⟩:=I.list (.inl h1);obtain⟨f,U,Y⟩:=j9 (Ar:=X.A.in1) I (by show X.A.units+1+60<cLine;lia) hc.1 rx M hc.2 r1 r;refine SeqAt.in_listAt f (My.PlainL.isList N) (λw hw=>U w (by simpa using hw)) (fin _ ?_);rw[<- Y];simp
 | tup l=>
  simp only[BH]at z;split at z
  case isFalse=>cases z
  rename_i hc;cases z;obtain⟨a,xs,rfl,h1,r1⟩:=J.tup_inv;cases F;obtain⟨G,r,N,hz⟩:=I.tuple (.inl (.inl h1));obtain⟨f,U,Y⟩:=j9 (Ar:=X.A.in1) I (by show X.A.units+1+60<cLine;lia) hc.1 rx M hc.2 r1 r;refine SeqAt.in_tupleAt f N (λw hw=>U w (by simpa using hw)) (fin _ ?_);rw[<- Y];simp
 | _=>cases z
theorem IN(hu:X.A.units+64<cLine):eY X (zaq .NotIn) JH:=by
 intro pins s σ H x y v u Q I M F h;obtain⟨A,dx,dy,d,lv,rx,J,e,q⟩:=h;obtain⟨b,z,rfl⟩:=map_some e;have fin:∀k,k=(!b)->EP X pins σ Q (.bool k) s:=λk hk=>⟨.bl (!b),H,I,by rw[hk];rfl,q _ H (Ext.refl _ _) (.bl _)⟩
 have W:X.A.units+1<cLine:=by lia
 have dict:∀o,b6 dy dx=some o->o.isSome=b->wpAny (model X.prog X.w) X.A (zaq .NotIn v u) (EP X pins σ Q) X.xe s:=λo B ob=>by
  obtain⟨a,ov,rfl,_,g,e3⟩:=gZ B J rx;cases F;refine MG W I g M λs' I'=>⟨.bl (!b),H,I',?_,q _ H (Ext.refl _ _) (.bl _)⟩
  have:ov.isSome=b:=by rw[<- ob];rcases e3 with⟨rfl,rfl⟩|⟨_,_,rfl,rfl,_⟩ <;> rfl
  rw[this];rfl
 cases dy with
 | dK l=>obtain⟨o,B,ob⟩:=map_some z;exact dict o B ob
 | dT l=>obtain⟨o,B,ob⟩:=map_some z;exact dict o B ob
 | lst l=>
  simp only[BH]at z;split at z
  case isFalse=>cases z
  rename_i hc;cases z;obtain⟨a,xs,rfl,h1,r1⟩:=J.lst_inv;cases F;obtain⟨G,r,N,hz⟩:=I.list (.inl h1);obtain⟨f,U,Y⟩:=j9 (Ar:=X.A.in1) I (by show X.A.units+1+60<cLine;lia) hc.1 rx M hc.2 r1 r;refine SeqAt.notIn_listAt f (My.PlainL.isList N) (λw hw=>U w (by simpa using hw)) (fin _ ?_);rw[<- Y];simp
 | tup l=>
  simp only[BH]at z;split at z
  case isFalse=>cases z
  rename_i hc;cases z;obtain⟨a,xs,rfl,h1,r1⟩:=J.tup_inv;cases F;obtain⟨G,r,N,hz⟩:=I.tuple (.inl (.inl h1));obtain⟨f,U,Y⟩:=j9 (Ar:=X.A.in1) I (by show X.A.units+1+60<cLine;lia) hc.1 rx M hc.2 r1 r;refine SeqAt.notIn_tupleAt f N (λw hw=>U w (by simpa using hw)) (fin _ ?_);rw[<- Y];simp
 | _=>cases z
def dA:List D->Option D
 | [.lst l]=>some (.int l.length)
 | [.tup l]=>some (.int l.length)
 | [.str z]=>if aX z.length then some (.int z.length)else none
 | [.dK l]=>some (.int l.length)
 | _=>none
theorem S1:hW X (.builtin "len") dA:=by
 intro pins s σ H xs us Q I r h;obtain⟨A,ds,d,U,B,e,q⟩:=h
 match ds,B,e with
 | [.lst l],B,e=>
  cases e;obtain⟨v,rfl,h1⟩:=B.one;obtain⟨a,xs,rfl,h2,F⟩:=h1.lst_inv;exact qC pins s σ H _ us Q I r ⟨_,_,rfl,.inl ⟨xs,.inl h2,rfl⟩,by rw[F.length];exact q _ H (Ext.refl _ _) (.int _)⟩
 | [.tup l],B,e=>
  cases e;obtain⟨v,rfl,h1⟩:=B.one;obtain⟨a,xs,rfl,h2,F⟩:=h1.tup_inv;exact qC pins s σ H _ us Q I r ⟨_,_,rfl,.inr ⟨xs,.inl (.inl h2),rfl⟩,by rw[F.length];exact q _ H (Ext.refl _ _) (.int _)⟩
 | [.str z],B,e=>
  simp only[dA]at e;by_cases hz:aX z.length=true
  ·rw[if_pos hz]at e;cases e
   obtain⟨v,rfl,h1⟩:=B.one;have:=h1.str_inv;subst this;exact qC pins s σ H _ us Q I r ⟨_,_,rfl,⟨fV hz,rfl⟩,q _ H (Ext.refl _ _) (.int _)⟩
  ·rw[if_neg hz]at e;cases e
 | [.dK l],B,e=>
  cases e;obtain⟨v,rfl,h1⟩:=B.one;obtain⟨a,xs,rfl,h2,G,F⟩:=h1.dK_inv;obtain⟨u,rfl,J⟩:=vals1 r;cases J;have N:xs.length=l.length:=by have:=congrArg zbP G;simpa using this
  exact VC I h2 λt s' M=>⟨.int xs.length,H,M,⟨t,rfl⟩,by rw[N];exact q _ H (Ext.refl _ _) (.int _)⟩
 | [],_,e=>cases e
 | [.non],_,e=>cases e
 | [.bl _],_,e=>cases e
 | [.int _],_,e=>cases e
 | [.dT _],_,e=>cases e
 | _::_::_,_,e=>simp[dA]at e
noncomputable def yU:List D->Option D
 | [.int i,.int j]=>some (.int (if j<i then j else i))
 | _=>none
noncomputable def yR:List D->Option D
 | [.int i,.int j]=>some (.int (if j>i then j else i))
 | _=>none
theorem xG{ds:List D}{g:Int->Int->D}(h:(match ds with|[.int i,.int j]=>some (g i j)|_=>none)=some d):∃i j,ds=[.int i,.int j]/\d=g i j:=by
 split at h
 ·cases h;exact⟨_,_,rfl,rfl⟩
 ·cases h
theorem OA(z:X.calm=true):hW X (.builtin "min") yU:=CallR.mono (FR z) <| by
 rintro xs H Q ⟨A,ds,d,B,r,e,q⟩;obtain⟨i,j,rfl,rfl⟩:=xG (g:=λi j=>.int (if j<i then j else i)) e;obtain⟨v,w,rfl,h1,h2⟩:=r.two;have:=h1.int_inv;subst this;have:=h2.int_inv;subst this;exact⟨i,j,rfl,q _ H (Ext.refl _ _) (.int _)⟩
theorem NL(z:X.calm=true):hW X (.builtin "max") yR:=CallR.mono (FG z) <| by
 rintro xs H Q ⟨A,ds,d,B,r,e,q⟩;obtain⟨i,j,rfl,rfl⟩:=xG (g:=λi j=>.int (if j>i then j else i)) e;obtain⟨v,w,rfl,h1,h2⟩:=r.two;have:=h1.int_inv;subst this;have:=h2.int_inv;subst this;exact⟨i,j,rfl,q _ H (Ext.refl _ _) (.int _)⟩
noncomputable def jR:List D->Option D
 | [.lst l]=>some (.tup l)
 | [.tup l]=>some (.tup l)
 | _=>none
noncomputable def kR:List D->Option D
 | [.lst l]=>some (.lst l)
 | [.tup l]=>some (.lst l)
 | _=>none
theorem CY{ds:List D}{g:List D->D}(h:(match ds with|[.lst l]=>some (g l)|[.tup l]=>some (g l)|_=>none)=some d):∃l,(ds=[.lst l]\/ds=[.tup l])/\d=g l:=by
 split at h
 ·cases h;exact⟨_,.inl rfl,rfl⟩
 ·cases h;exact⟨_,.inr rfl,rfl⟩
 ·cases h
theorem p9:hW X (.type "tuple") jR:=CallR.mono sD <| by
 rintro xs H Q ⟨A,ds,d,G,r,e,q⟩;obtain⟨l,F,rfl⟩:=CY (g:=.tup) e;rcases F with rfl|rfl
 ·obtain⟨v,rfl,h1⟩:=r.one
  obtain⟨a,xs,rfl,h2,z⟩:=h1.lst_inv;exact⟨a,xs,rfl,.inl ⟨.inl h2,λp B=>q _ _ (Ext.new B) (.tup aI (z.ext (Ext.new B)))⟩⟩
 ·obtain⟨v,rfl,h1⟩:=r.one
  obtain⟨a,xs,rfl,h2,z⟩:=h1.tup_inv;exact⟨a,xs,rfl,.inr ⟨.inl (.inl h2),q _ H (Ext.refl _ _) (.tup h2 z)⟩⟩
theorem LF:yP X (.type "list") kR:=CallR.mono uC <| by
 rintro xs H Q ⟨A,ds,d,G,r,e,q⟩;obtain⟨l,J,rfl⟩:=CY (g:=.lst) e;rcases J with rfl|rfl
 ·obtain⟨v,rfl,h1⟩:=r.one
  obtain⟨a,xs,rfl,h2,F⟩:=h1.lst_inv;exact⟨a,xs,rfl,.inl (.inl h2),λp B=>q p _ (Ext.new B) B (λz=>G p z B) (.lst aI (F.fresh B))⟩
 ·obtain⟨v,rfl,h1⟩:=r.one
  obtain⟨a,xs,rfl,h2,F⟩:=h1.tup_inv;exact⟨a,xs,rfl,.inr (.inl (.inl h2)),λp B=>q p _ (Ext.new B) B (λz=>G p z B) (.lst aI (F.fresh B))⟩
end
section
variable {X:Cx}{O:List Nat}
noncomputable def Z7:D->String
 | .non => "NoneType" | .bl _ => "bool" | .int _ => "int" | .str _ => "str" | .tup _ => "tuple" | .lst _ => "list" | .dK _ => "dict" | .dT _ => "dict"
def YV(K:zaf):List V->Hp->VK->Prop:=λxs H Q=>∃A d x n b,xs=[x,.ty n]/\RepB A H d x/\zdk K (.type (Z7 d)) (.type n)=some b/\Q (.bl b) H
theorem IQ:CallR X (.builtin "isinstance") (YV X.K):=by
 intro pins s σ H xs us Q I r h;obtain⟨A,d,x,n,b,rfl,B,e,q⟩:=h;have go:∀t,TyOf X.K H x t->t=.type (Z7 d)->wpAny (model X.prog X.w) X.A (call (.builtin "isinstance") us) (EP X pins σ Q) X.xe s:=λt M N=>by
  subst N;exact My.GQ pins s σ H _ us Q I r ⟨x,n,_,b,rfl,M,e,q⟩
 cases d with
 | non=>have:=B.non_inv;subst this;exact go _ .non rfl
 | bl c=>have:=B.bl_inv;subst this;exact go _ (.bl c) rfl
 | int c=>have:=B.int_inv;subst this;exact go _ (.int c) rfl
 | str c=>have:=B.str_inv;subst this;exact go _ (.str c) rfl
 | tup l=>obtain⟨a,xs,rfl,h1,_⟩:=B.tup_inv;exact go _ (.tup h1) rfl
 | lst l=>
  obtain⟨a,xs,rfl,h1,_⟩:=B.lst_inv;rcases h1 with h1|⟨o,h1⟩
  ·exact go _ (.lst h1) rfl
  ·exact go _ (.frz h1) rfl
 | dK l=>
  obtain⟨a,xs,rfl,h1,_⟩:=B.dK_inv;obtain⟨u,J,rfl,G,F⟩:=vals2 r;cases G;cases F;obtain⟨_,_,vs,_,p⟩:=(show ObjOk X.prog X.w H s.heap a (.dK xs)from h1.ok I.hok);obtain⟨o,es,ep,h1,h2,_⟩:=p;exact zbz zdS I.kIn ⟨o,h1,h2.1⟩ e (λz=>nomatch z) λtk=>⟨.bl b,H,I.tok tk,rfl,q⟩
 | dT l=>
  obtain⟨a,xs,rfl,h1,_⟩:=B.dT_inv;obtain⟨u,J,rfl,G,F⟩:=vals2 r;cases G;cases F;obtain⟨_,_,xs,_,o,es,ep,h1,h2,_⟩:=(show ObjOk X.prog X.w H s.heap a (.dT xs)from h1.ok I.hok);exact zbz zdS I.kIn ⟨o,h1,h2.1⟩ e (λz=>nomatch z) λtk=>⟨.bl b,H,I.tok tk,rfl,q⟩
noncomputable def rT(n:String)(d:D):Bool:=match d with
 | .non=>false
 | .bl _=>n == "bool" || n == "int"
 | .int _=>n == "int"
 | .str _=>n == "str"
 | .tup _=>n == "tuple"
 | .lst _=>n == "list"
 | .dK _=>n == "dict"
 | .dT _=>n == "dict"
def X5(n:String):Prop:=∀(K:zaf) (d:D),zdk K (.type (Z7 d)) (.type n)=some (rT n d)
theorem MK:X5 "int" := λK d=>by cases d <;> rfl
theorem HQ:X5 "bool" := λK d=>by cases d <;> rfl
theorem kit_tuple:X5 "tuple" := λK d=>by cases d <;> rfl
def BN(n:String)(f:Ev):Ev:=λρ=>(f ρ).map λd=>.bl (rT n d)
theorem A3(B:X5 n)(U:Gl X "isinstance")(hm:X.mg "isinstance" = none)(z:Gl X x)(F:X.mg x=none)(M:zaM x=some (.type n))(Y:PB X O e f)(hn:x ≠ "__name__" := by decide)(J:(x == ("__debug__" : Str))=false:=by decide)
  (h1:zah [e,.Name x p2] X.env=(false,eval e X.env)::zah [.Name x p2] X.env:=by rfl) (h2:(zaJ pos (zah [.Name x p2] X.env)).any (·.1)=false:=by rfl) (N:zah [.Name x p2] X.env=(false,eval (.Name x p2) X.env)::zah [] X.env:=by rfl) :
  PD X O (.Call (.Name "isinstance" p) [e,.Name x p2] [] pos) (BN n f):=
 PE.mono (qB IQ U hm My.boot_isinstance (fW Y (fW (L8 (v:=.ty n) z F M rfl hn J) lM N) h1) (by decide) (by decide) h1 h2) <| by
  rintro σ H Q ⟨H0,A0,A,E,ρ,d,st,e,q⟩;obtain⟨x,ex,rfl⟩:=map_some e;exact⟨H0,A0,A,E,ρ,x,st,ex,λv H1 G W=>⟨A,x,v,n,_,rfl,W,B _ _,q _ H1 G (.bl _)⟩⟩
def qZ:List Key->Option (List Int)
 | []=>some []
 | .inl i::ks=>(qZ ks).map (i::·)
 | _=>none
theorem tG:∀ {k:List Key} {ns:List Int},qZ k=some ns->k=ns.map zap
 | [],ns,h=>by cases h;rfl
 | .inl i::ks,ns,h=>by obtain⟨ms,h1,rfl⟩:=map_some h;rw[tG h1];rfl
theorem mO:∀ns:List Int,qZ (ns.map zap)=some ns
 | []=>rfl
 | n::ns=>by rw[zak,qZ,mO ns];rfl
def intKeys{α:Type}:List (List Key×α)->Option (List (List Int×α))
 | []=>some []
 | p::l=>(qZ p.1).bind λns=>(intKeys l).map λr=>(ns,p.2)::r
def P0{α:Type}(p:List Int×α):List Key×α:=(p.1.map zap,p.2)
theorem jL{q:Type}:∀ {l:List (List Key×q)} {m:List (List Int×q)},intKeys l=some m->l=m.map P0
 | [],m,h=>by cases h;rfl
 | p::l,m,h=>by
  obtain⟨ns,h1,h⟩:=bind_some h;obtain⟨r,h2,rfl⟩:=map_some h;rw[zak,jL h2];congr 1;show p=(ns.map zap,p.2);rw[<- tG h1]
theorem lX{q:Type}:∀m:List (List Int×q),intKeys (m.map P0)=some m
 | []=>rfl
 | p::m=>by rw[zak,intKeys,show(P0 p).1=p.1.map zap from rfl,mO,lX m];rfl
noncomputable def vE(k:List Int):Bool:=(k.length == 1 || k.length == 2) && k.all λe=>decide (0<=e) && decide (e<=8)
theorem EU(h:vE k=true):My.vM k:=by
 simp only[vE,zaK,zdp,beq_iff_eq,zcO,decide_eq_true_eq]at h;exact h
def DO:List D->Option D
 | [.dT l]=>(intKeys l).bind λm=>if m.all λp=>vE p.1 then some (.dT l)else none
 | _=>none
theorem zS(h:DO ds=some d):∃l m,ds=[.dT l]/\d=.dT l/\intKeys l=some m/\(m.all λp=>vE p.1)=true:=by
 unfold DO at h;split at h
 ·obtain⟨m,q,h⟩:=bind_some h
  split at h
  ·cases h;exact⟨_,m,rfl,rfl,q,by assumption⟩
  ·cases h
 ·cases h
theorem pM{xs:List (List Key×V)}{m:List (List Int×D)}(e:xs.map (·.1)=(m.map P0).map (·.1)):∃ps:List (List Int×V),xs=ps.map My.kI/\ps.map (·.1)=m.map (·.1):=by
 induction m generalizing xs with
 | nil=>cases xs with
  | nil=>exact⟨[],rfl,rfl⟩
  | cons _ _=>cases e
 | cons p m ih=>cases xs with
  | nil=>cases e
  | cons x xs=>
   rw[zak,zak,zak]at e;injection e with e1 e2
   obtain⟨ps,h1,h2⟩:=ih e2;refine⟨(p.1,x.2)::ps,?_,by rw[zak,zak,h2]⟩;rw[zak,<- h1];congr 1;show x=(p.1.map zap,x.2);rw[<- show x.1=p.1.map zap from e1]
theorem NZ:yP X (.type "dict") DO:=by
 intro pins s σ H xs us Q I r h;obtain⟨A,ds,d,Y,rl,e,q⟩:=h;obtain⟨l,m,rfl,rfl,N,M⟩:=zS e;obtain⟨v,rfl,h1⟩:=rl.one;obtain⟨a,ys,rfl,h2,J,r3⟩:=h1.dT_inv;have el:=jL N;subst el;obtain⟨ps,rfl,U⟩:=pM J;obtain⟨_,_,F,_⟩:=My.AS I h2;have hn:((ps.map My.kI).map λp=>(za4 (aU X.prog X.w)).hash p.1).Nodup:=by
  let cs:List My.Tm:=ps.map λp=>(p.1,(0:Int))
  have G:cs.map (·.1)=ps.map (·.1):=by rw[zaQ];rfl
  have:=My.AM X.prog X.w (cs:=cs) (by rw[G];exact F) (λt W=>by
   have:t.1∈m.map (·.1):=by rw[<- U,<- G];exact List.mem_map.mpr ⟨t,W,rfl⟩
   obtain⟨p,B,ep⟩:=List.mem_map.mp this;rw[<- ep];exact EU (List.all_eq_true.mp M p B))
  have e5:((cs.map My.kJ).map λp=>(za4 (aU X.prog X.w)).hash p.1)=(ps.map My.kI).map λp=>(za4 (aU X.prog X.w)).hash p.1:=by
   rw[zaQ,zaQ,zaQ];rfl
  rw[<- e5];exact this
 exact My.zH pins s σ H _ us Q I r ⟨a,_,rfl,h2,hn,λp B=>q p _ (Ext.new B) B (λz=>Y p z B) (.dT aI J (r3.fresh B))⟩
def ins{α:Type}(p:List Int×α):List (List Int×α)->List (List Int×α)
 | []=>[p]
 | q::r=>if HT.lexLt p.1 q.1=true then p::q::r else q::ins p r
def bJ{α:Type}:List (List Int×α)->List (List Int×α)
 | []=>[]
 | p::r=>ins p (bJ r)
theorem ins_map{z B:Type}(f:z->B)(p:List Int×z):∀l:List (List Int×z),(ins p l).map (λx=>(x.1,f x.2))=ins (p.1,f p.2) (l.map λx=>(x.1,f x.2))
 | []=>rfl
 | q::r=>by
  rw[ins,zak,ins];by_cases h:HT.lexLt p.1 q.1=true
  ·rw[if_pos h,if_pos h];rfl
  ·rw[if_neg h,if_neg h,zak,ins_map f p r]
theorem iG{q z:Type}(f:q->z):∀l:List (List Int×q),(bJ l).map (λx=>(x.1,f x.2))=bJ (l.map λx=>(x.1,f x.2))
 | []=>rfl
 | p::r=>by rw[bJ,ins_map,iG f r,zak,bJ]
theorem qO{z:Type}(p:List Int×z):∀l:List (List Int×z),(ins p l).Perm (p::l)
 | []=>.refl _
 | q::r=>by
  rw[ins];by_cases h:HT.lexLt p.1 q.1=true
  ·rw[if_pos h]
  ·rw[if_neg h];exact((qO p r).cons q).trans (.swap ..)
theorem cU{q:Type}:∀l:List (List Int×q),(bJ l).Perm l
 | []=>.refl _
 | p::r=>(qO p (bJ r)).trans ((cU r).cons p)
def iM{q:Type}(l:List (List Int×q)):Prop:=l.Pairwise λa b=>HT.lexLt a.1 b.1=true
theorem pL{G:Type}(p:List Int×G):∀l:List (List Int×G),(∀q∈l,q.1≠p.1)->iM l->iM (ins p l)
 | [],_,_=>by rw[ins];exact List.pairwise_singleton _ _
 | q::r,hn,h=>by
  rw[ins];have B:=List.pairwise_cons.mp h;by_cases c:HT.lexLt p.1 q.1=true
  ·rw[if_pos c]
   refine List.pairwise_cons.mpr ⟨λx F=>?_,h⟩;rcases List.mem_cons.mp F with e|e
   ·rw[e];exact c
   ·exact My.vK _ _ _ c (B.1 x e)
  ·rw[if_neg c]
   refine List.pairwise_cons.mpr ⟨λx F=>?_,pL p r (λy J=>hn y (zav _ J)) B.2⟩;rcases List.mem_cons.mp ((qO p r).subset F)with e|e
   ·rw[e]
    rcases My.uT p.1 q.1 (λz=>hn q (zas ..) z.symm)with z|z
    ·exact absurd z c
    ·exact z
   ·exact B.1 x e
theorem j7{F:Type}:∀l:List (List Int×F),(l.map (·.1)).Nodup->iM (bJ l)
 | [],_=>List.Pairwise.nil
 | p::r,h=>by
  rw[zak,zdA]at h;refine pL p _ (λq B z=>h.1 ?_) (j7 r h.2);exact List.mem_map.mpr ⟨q,(cU r).subset B,z⟩
theorem sC{q:Type}{l m:List (List Int×q)}(h1:iM l)(h2:iM m)(z:l.Perm m):l=m:=by
 refine List.Perm.eq_of_pairwise (le:=λ(a b:List Int×q)=>HT.lexLt a.1 b.1=true) (λa b _ _ x y=>?_) h1 h2 z;have:=My.vK _ _ _ x y;rw[My.uW]at this;cases this
theorem wL{m:List (List Int×D)}{ps z:List (List Int×V)}(M:(ps.map (·.1)).Nodup)(h:PP A H (m.map P0) (ps.map My.kI))(hs:My.vL z)(U:z.Perm ps):zaV (λ(p:List Int×D) (q:List Int×V)=>p.1=q.1/\Rep A H p.2 q.2) (bJ m) z:=by
 -- both by one list of triples
 have B:∀ {m:List (List Int×D)} {ps:List (List Int×V)},PP A H (m.map P0) (ps.map My.kI)->∃ts:List (List Int×(D×V)),m=ts.map (λt=>(t.1,t.2.1))/\ps=ts.map (λt=>(t.1,t.2.2))/\∀t∈ts,Rep A H t.2.1 t.2.2:=by
  intro m;induction m with
  | nil=>intro ps h;cases ps with
   | nil=>exact⟨[],rfl,rfl,λ_ h=>nomatch h⟩
   | cons _ _=>cases h
  | cons p m ih=>intro ps h;cases ps with
   | nil=>cases h
   | cons q ps=>
    cases h with
    | cons h t=>
     obtain⟨ts,N,F,J⟩:=ih t;have Y:p.1=q.1:=My.iN.mp h.1;refine⟨(p.1,(p.2,q.2))::ts,by rw[zak,<- N],by rw[zak,<- F];congr 1;rw[Y],λt G=>?_⟩;rcases List.mem_cons.mp G with e|e
     ·rw[e];exact h.2
     ·exact J t e
 obtain⟨ts,N,F,J⟩:=B h;have d1:bJ m=(bJ ts).map λt=>(t.1,t.2.1):=by rw[N,iG]
 have d2:z=(bJ ts).map λt=>(t.1,t.2.2):=by
  have W:iM (bJ ps):=j7 ps M;have:=sC (l:=z) (m:=bJ ps) hs W (U.trans (cU ps).symm);rw[this,F,iG]
 rw[d1,d2];refine My.fU _ λt G=>⟨rfl,J t ((cU ts).subset G)⟩
theorem w6:∀ns:List Int,RepL A H (ns.map .int) (ns.map V.int)
 | []=>.nil
 | n::ns=>.cons (.int n) (w6 ns)
theorem QU{o:Expr}{name:Str}{id:String}{r:V->List V->Hp->VK->Prop}{to:TE}{apos cpos:Pos}(B:Slot "dict" name id)(G:typeOf (.builtin id)=pure (.type "method_descriptor"))(Y:MtR X id r)(M:PE X o to)
  (z:zcI o name X.env (eval o X.env)=eval o X.env:=by rfl) (q:(apos.endLine == cpos.line)=true:=by rfl):PE X (.Call (.Attribute o name apos) [] [] cpos) (λσ H Q=>to σ H λx H1=>∃a,x=.ref a/\UV H1 a/\r x [] H1 Q):=by
 intro pins s σ H Q I h;refine wpAny_Call_method0_late z q (bL (M pins s σ H _ I h) λv N ⟨x,H1,J,U,a,ex,F,W⟩=>?_);subst ex;cases U;obtain⟨h1,h2,_⟩:=AU J F;exact⟨"dict",id,ze6,B,G,h1,h2,zd2 rfl (PySem.evalArgs_none (Y pins N σ H1 (.ref a) [] (.ref a) [] Q J rfl .nil W))⟩
def t7(g:D->Option D)(f:Ev):Ev:=λρ=>(f ρ).bind g
def qD:D->Option D
 | .dT l=>(intKeys l).bind λm=>if m.length<64 then some (.lst ((bJ m).map λp=>.tup [.tup (p.1.map .int),p.2]))else none
 | _=>none
theorem zB(hc:X.calm=true)(hu:X.A.units+64<cLine)(hg:Gl X "sorted")(hm:X.mg "sorted" = none)(ho:PB X O o f)
  (hp:∀ {to:TE},PE X o to->PE X (.Call (.Attribute o "items" apos) [] [] cpos) (λσ H Q=>to σ H λx H1=>∃a,x=.ref a/\UV H1 a/\My.JZ x [] H1 Q))
  (he:zah [.Call (.Attribute o "items" apos) [] [] cpos] X.env=(false,eval (.Call (.Attribute o "items" apos) [] [] cpos) X.env)::zah [] X.env:=by rfl) (W:(zaJ pos (zah [] X.env)).any (·.1)=false:=by rfl) :
  PF X O (.Call (.Name "sorted" p) [.Call (.Attribute o "items" apos) [] [] cpos] [] pos) (t7 qD f):=by
 have F:CallR X (.builtin "sorted") (λxs H Q=>∃A r a ys m,xs=[.ref r]/\Live A H/\H r=some (.ext λh=>h.IsItemsView r a)/\Rd H a (.dT ys)/\ys.map (·.1)=(m.map P0).map (·.1)/\RepL A H ((m.map P0).map (·.2)) (ys.map (·.2))/\m.length<64/\∀a H',Ext A H H'->H a=none->¬ A a->Own (λb=>A b\/b=a) H' (.lst ((bJ m).map λp=>.tup [.tup (p.1.map .int),p.2])) a->Q (.ref a) H'):=by
  intro pins s σ H xs us Q I r h;obtain⟨A,r',a,ys,m,rfl,lv,B,h2,M,r3,G,q⟩:=h;obtain⟨ps,rfl,e4⟩:=pM M;obtain⟨_,_,U,_⟩:=My.AS I h2;have ae:ps.length=m.length:=by have:=congrArg zbP e4;simpa using this
  refine My.uA hc hu pins s σ H _ us Q I r ⟨r',a,ps,rfl,B,h2,by lia,λla us J H2 sm Y h3 pr pm so=>?_⟩;have sb:=wL (A:=A) (H:=H) U (t4 M r3) so pm;have up:∀ {d:D} {v:V},Rep A H d v->Rep (λb=>A b\/b=la) H2 d v:=λr=>by
   have r1:Rep (λb=>A b\/b=la) H _ _:=r.av λb hb=>hb.imp id λz=>by rw[z];exact Y
   exact r1.ext (Ext.same sm)
  have N:∀ {ts:List (List Int×D)} {J:List (List Int×V)} {us:List V},zaV (λ(p:List Int×D) (q:List Int×V)=>p.1=q.1/\Rep A H p.2 q.2) ts J->zaV (My.Z8 H2) us J->RepL (λb=>A b\/b=la) H2 (ts.map λp=>.tup [.tup (p.1.map .int),p.2]) us:=by
   intro ts J us h;induction h generalizing us with
   | nil=>intro h;cases h;exact .nil
   | cons h t ih=>
    intro h';cases h' with
    | cons h' t'=>
     obtain⟨a,b,rfl,ha,hb⟩:=h';exact .cons (.tup ha (.cons (.tup hb (by rw[h.1];exact w6 _)) (.cons (up h.2) .nil))) (ih t')
  exact q la H2 (Ext.same sm) Y (λz=>lv la z Y) (.lst h3 (N sb pr))
 refine PE.mono (qB F hg hm My.boot_sorted (fW (hp ho) lM he) (by decide) (by decide) he W) λσ H Q ⟨H0,A0,A,E,ρ,d,st,e,q⟩=>?_
 obtain⟨x,ex,e⟩:=bind_some e;cases x with
 | dT l=>
  obtain⟨m,e1,e⟩:=bind_some e;split at e
  case isFalse=>cases e
  rename_i G;cases e;have el:=jL e1;subst el;refine⟨H0,A0,A,E,ρ,_,st,ex,λv H1 x1 r1=>?_⟩;obtain⟨a,ys,rfl,h2,M,r3⟩:=r1.dT_inv;refine⟨a,rfl,.inr ⟨ys,h2⟩,a,ys,rfl,rfl,h2,λr B=>⟨A,r,a,ys,m,rfl,Live.ext (st.mono x1).live (Ext.new B),aI,eE (λz=>?_) h2,M,r3.ext (Ext.new B),G,λa' H' x' n na o=>?_⟩⟩
  ·subst z;rcases h2 with h2|⟨_,h2⟩ <;> (rw[B]at h2;cases h2)
  ·have x2:=(x1.trans (Ext.new B)).trans x'
   exact q a' H' x2 ((x1.trans (Ext.new B)).free n) na o
 | _=>cases e
end
def lO:D->Option Int->Option Int->Option D
 | .tup l,lo,hi=>some (.tup (cutD l lo hi))
 | .lst l,lo,hi=>some (.lst (cutD l lo hi))
 | _,_,_=>none
theorem ZG:SlR X (rS lO):=SlR.mono (SlR.or YJ (SlR.mono ZV λx lo hi H Q (h:rS XB x lo hi H Q)=>by
  obtain⟨A,dx,d,B,z,e,q⟩:=h;exact⟨A,dx,d,B,z,e,λa H' x n F o=>q _ H' x ((o.av (A':=A) λb G=>.inl (.inl G)).rep F)⟩)) λx lo hi H Q ⟨A,dx,d,B,z,e,q⟩=>by
 cases dx with
 | tup l=>exact .inl ⟨A,_,d,B,z,e,q⟩
 | lst l=>exact .inr ⟨A,_,d,B,z,e,q⟩
 | _=>cases e
section
variable {ρ:cY}{f g:Ev}{d x y:D}{i j:Int}{k:Nat}
@[simp] theorem q_seq{f g:Sv}:bD f g ρ=(f ρ).bind λo=>match o with | .nx ρ'=>g ρ'|o=>some o:=rfl
@[simp] theorem q_set:bQ k f ρ=(f ρ).map λd=>.nx (ρ.set k (some d)):=rfl
@[simp] theorem q_if{c:Bv}{f g:Sv}:nT c f g ρ=(c ρ).bind λb=>if b=true then f ρ else g ρ:=rfl
@[simp] theorem q_rt:BU f ρ=(f ρ).map .rt:=rfl
@[simp] theorem q_nx:vY ρ=some (.nx ρ):=rfl
@[simp] theorem q_bad:OI ρ=none:=rfl
@[simp] theorem q_asg{g:Gv}:K1 f g ρ=(f ρ).bind λd=>(g d ρ).map .nx:=rfl
@[simp] theorem q_for{f:Lv}{g:Gv}{b:Sv}:jV f g b ρ=(f ρ).bind λitems=>cE g b items ρ:=rfl
@[simp] theorem q_drop:KH f ρ=(f ρ).map λ_=>.nx ρ:=rfl
@[simp] theorem q_app:K0 k f ρ=(aB k ρ).bind λx=>match x with
 | .lst l=>(f ρ).bind λd=>if aX l.length then some (.nx (ρ.set k (some (.lst (l++[d])))))else none
 | _=>none:=rfl
@[simp] theorem q_put:vT k f g ρ=(g ρ).bind λe=>(aB k ρ).bind λx=>(f ρ).bind λq=>(sH x q e).map λd=>.nx (ρ.set k (some d)):=rfl
@[simp] theorem q_var:aB k ρ=(ρ[k]?).join:=rfl
@[simp] theorem q_c:eC d ρ=some d:=rfl
@[simp] theorem q_op:aZ o f g ρ=(f ρ).bind λx=>(g ρ).bind λy=>o x y:=rfl
@[simp] theorem q_call:aP F l ρ=(l ρ).bind F:=rfl
@[simp] theorem q_lnil:aY ρ=some []:=rfl
@[simp] theorem q_lcons:aC f l ρ=(f ρ).bind λx=>(l ρ).bind λxs=>some (x::xs):=rfl
@[simp] theorem q_tup:iC l ρ=(l ρ).map .tup:=rfl
@[simp] theorem q_lst:F1 l ρ=(l ρ).map .lst:=rfl
@[simp] theorem q_bind:t7 o f ρ=(f ρ).bind o:=rfl
@[simp] theorem q_bof:eJ f ρ=(f ρ).bind yZ:=rfl
@[simp] theorem q_asB:yZ (.bl b)=some b:=rfl
@[simp] theorem q_asI:P4 (.int i)=some i:=rfl
@[simp] theorem q_bnot:vX c ρ=(c ρ).map (!·):=rfl
@[simp] theorem q_band:sG a b ρ=(a ρ).bind λx=>if x=true then b ρ else some false:=rfl
@[simp] theorem q_bor:OU a b ρ=(a ρ).bind λx=>if x=true then some true else b ρ:=rfl
@[simp] theorem q_and:W0 f g ρ=(f ρ).bind λx=>(yZ x).bind λb=>if b=true then g ρ else some (.bl false):=rfl
@[simp] theorem q_or:XW f g ρ=(f ρ).bind λx=>(yZ x).bind λb=>if b=true then some (.bl true)else g ρ:=rfl
@[simp] theorem q_not:W4 f ρ=(f ρ).bind λx=>(yZ x).map λb=>.bl (!b):=rfl
@[simp] theorem q_neg:OO f ρ=(f ρ).bind λd=>(P4 d).map λi=>.int (-i):=rfl
@[simp] theorem q_ifx:qh c f g ρ=(c ρ).bind λb=>if b=true then f ρ else g ρ:=rfl
@[simp] theorem q_isi:BN n f ρ=(f ρ).map λd=>.bl (rT n d):=rfl
@[simp] theorem q_get2:rQ a b c ρ=(a ρ).bind λd=>(b ρ).bind λk=>(c ρ).bind λe=>(b6 d k).map λo=>o.getD e:=rfl
@[simp] theorem q_sl:K5 o f a b ρ=(f ρ).bind λx=>(a ρ).bind λlo=>(b ρ).bind λhi=>o x lo hi:=rfl
@[simp] theorem q_oN:rP ρ=some none:=rfl
@[simp] theorem q_oS:kT f ρ=(f ρ).bind λd=>(P4 d).map some:=rfl
@[simp] theorem q_lR:lR o l ρ=(l ρ).bind o:=rfl
@[simp] theorem q_lSeq:KU f ρ=(f ρ).bind λd=>match d with
 | .lst l=>some l
 | .tup l=>some l
 | .dT l=>some (l.map λp=>.tup (p.1.map FX))
 | _=>none:=rfl
@[simp] theorem q_comp{ms:List (Option Nat)}{it:Lv}{g:Gv}{c:Bv}:hZ ms it g c f ρ=(it ρ).bind λitems=>if aX items.length then(bR g c f items (nW ms ρ)).map .lst else none:=rfl
@[simp] theorem q_yes:BI ρ=some true:=rfl
@[simp] theorem q_name:aL k d ρ=some (ρ.set k (some d)):=rfl
@[simp] theorem q_gnil:cC [] ρ=some ρ:=rfl
@[simp] theorem q_gcons{g:Gv}{h:PZ}{ds:List D}:aR g h (d::ds) ρ=(g d ρ).bind λρ'=>h ds ρ':=rfl
@[simp] theorem q_gtup:b7 n h (.tup l) ρ=if l.length=n then h l ρ else none:=rfl
@[simp] theorem q_sub:OH (.int i) (.int j)=some (.int (i-j)):=rfl
@[simp] theorem q_addI:t9 (.int i) (.int j)=some (.int (i+j)):=rfl
@[simp] theorem q_ltI:YD (.int i) (.int j)=some (.bl (decide (i<j))):=rfl
@[simp] theorem q_gtI:BQ (.int i) (.int j)=some (.bl (decide (j<i))):=rfl
@[simp] theorem q_geI:UU (.int i) (.int j)=some (.bl (decide (j<=i))):=rfl
@[simp] theorem q_eqI:yY (.int i) (.int j)=some (.bl (decide (i=j))):=by
 unfold yY K6;rw[if_pos (.inl rfl)];simp
@[simp] theorem q_neI:DS (.int i) (.int j)=some (.bl (!decide (i=j))):=by
 unfold DS K6;rw[if_pos (.inl rfl)];simp
@[simp] theorem q_eqB:yY (.bl a) (.bl b)=some (.bl (decide (a=b))):=by
 unfold yY K6;rw[if_pos (.inl rfl)];simp
@[simp] theorem q_neB:DS (.bl a) (.bl b)=some (.bl (!decide (a=b))):=by
 unfold DS K6;rw[if_pos (.inl rfl)];simp
theorem bB(h:0<j):dS (.int i) (.int j)=some (.int (i%j)):=if_pos h
theorem dB(h:0<j)(h2:j<1073741824):sI (.int i) (.int j)=some (.int (i/j)):=if_pos ⟨h,h2⟩
theorem yW(h:0<=j)(h2:j<=1000000)(q:i.natAbs<2^64):BO (.int i) (.int j)=some (.int (i^j.toNat)):=if_pos ⟨h,h2,q⟩
@[simp] theorem q_isN:UP d .non=some (.bl (eT d)):=rfl
@[simp] theorem q_notN:DN d .non=some (.bl (!eT d)):=rfl
@[simp] theorem q_lenL:dA [.lst l]=some (.int l.length):=rfl
@[simp] theorem q_lenT:dA [.tup l]=some (.int l.length):=rfl
@[simp] theorem q_min:yU [.int i,.int j]=some (.int (if j<i then j else i)):=rfl
@[simp] theorem q_max:yR [.int i,.int j]=some (.int (if j>i then j else i)):=rfl
@[simp] theorem q_tuL:jR [.lst l]=some (.tup l):=rfl
@[simp] theorem q_tuT:jR [.tup l]=some (.tup l):=rfl
@[simp] theorem q_liL:kR [.lst l]=some (.lst l):=rfl
@[simp] theorem q_liT:kR [.tup l]=some (.lst l):=rfl
@[simp] theorem q_slT{l:List D}{lo hi:Option Int}:lO (.tup l) lo hi=some (.tup (cutD l lo hi)):=rfl
@[simp] theorem q_slL{l:List D}{lo hi:Option Int}:lO (.lst l) lo hi=some (.lst (cutD l lo hi)):=rfl
@[simp] theorem q_itL:aH (.lst l) (.int i)=dX l i:=rfl
@[simp] theorem q_itT:aH (.tup l) (.int i)=dX l i:=rfl
@[simp] theorem q_itD:aH (.dT l) d=(b6 (.dT l) d).join:=rfl
@[simp] theorem isi_int_int:rT "int" (.int i)=true:=rfl
@[simp] theorem isi_bool_int:rT "bool" (.int i)=false:=rfl
@[simp] theorem isi_tuple_tup:rT "tuple" (.tup l)=true:=rfl
@[simp] theorem isi_list_lst:rT "list" (.lst l)=true:=rfl
end
def turn(g:Gv)(b:Sv)(x:D):Sv:=λρ=>(g x ρ).bind b
theorem fY(I:Nat->cY->Prop)(h0:I 0 ρ)(hs:∀i x ρ,items[i]?=some x->I i ρ->∃ρ',turn g b x ρ=some (.nx ρ')/\I (i+1) ρ'):∃ρ',cE g b items ρ=some (.nx ρ')/\I items.length ρ':=by
 have B:∀(m:List D) (k:Nat) (ρ:cY),items.drop k=m->k<=items.length->I k ρ->∃ρ',cE g b m ρ=some (.nx ρ')/\I items.length ρ':=by
  intro m;induction m with
  | nil=>
   intro k ρ e F h;have:items.length<=k:=by rw[List.drop_eq_nil_iff]at e;exact e
   have:k=items.length:=by lia
   subst this;exact⟨ρ,rfl,h⟩
  | cons x m ih=>
   intro k ρ e F h;have q:k<items.length:=by
    rcases Nat.lt_or_ge k items.length with z|z
    ·exact z
    ·rw[List.drop_eq_nil_iff.mpr z]at e;cases e
   rw[zex q]at e;injection e with e1 e2
   obtain⟨ρ',h1,h2⟩:=hs k x ρ (by rw[<- e1];simp[q]) h;obtain⟨ρ2,J,M⟩:=ih (k+1) ρ' e2 q h2;refine⟨ρ2,?_,M⟩;unfold turn at h1;obtain⟨ρ1,G,N⟩:=bind_some h1;unfold cE;rw[G];show(b ρ1).bind _=_;rw[N];exact J
 exact B items 0 ρ rfl (za3 _) h0
theorem aM(h:f (aK n ds)=some (.rt d)):bA n f ds=some d:=by
 unfold bA;rw[h];rfl
theorem UE(h:f (aK n ds)=some (.nx ρ)):bA n f ds=some .non:=by
 unfold bA;rw[h];rfl
theorem aF(h:f ρ=some (.nx ρ')):bD f g ρ=g ρ':=by
 unfold bD;rw[h];rfl
theorem qV(h:f ρ=some (.rt d)):bD f g ρ=some (.rt d):=by
 unfold bD;rw[h];rfl
theorem YF(h:c ρ=some false):nT c f g ρ=g ρ:=by
 unfold nT;rw[h];rfl
theorem aN(h:f ρ=some d):bQ k f ρ=some (.nx (ρ.set k (some d))):=by
 unfold bQ;rw[h];rfl
theorem WZ(h:f ρ=some d):BU f ρ=some (.rt d):=by
 unfold BU;rw[h];rfl
theorem c7{f:Lv}{g:Gv}{b rest:Sv}{ρ:cY}{items:List D}{q:Option Out}(z:f ρ=some items)(I:Nat->cY->Prop)(h0:I 0 ρ)(hs:∀i x ρ,items[i]?=some x->I i ρ->∃ρ',turn g b x ρ=some (.nx ρ')/\I (i+1) ρ')(k:∀ρ',I items.length ρ'->rest ρ'=q):bD (jV f g b) rest ρ=q:=by
 obtain⟨ρ',e,h⟩:=fY (g:=g) (b:=b) I h0 hs;rw[aF (by rw[q_for,z];exact e)];exact k ρ' h
open My (look put bS k4 bW)
def kD(t:My.Tm):List Key×D:=(t.1.map zap,.int t.2)
noncomputable def tupI(k:List Int):D:=.tup (k.map .int)
def bN(t:My.Tm):D:=.tup [tupI t.1,.int t.2]
theorem sU:∀k:List Int,KS (k.map .int)=some (k.map zap)
 | []=>rfl
 | i::k=>by rw[zak,KS,sU k];rfl
@[simp] theorem asT_tupI(k:List Int):y4 (tupI k)=some (k.map zap):=sU k
theorem R4(cs:List My.Tm)(k:List Int):bY (cs.map kD) (k.map zap:List Key)=(look cs k).map D.int:=by
 induction cs with
 | nil=>rfl
 | cons t cs ih=>
  rw[zak];by_cases e:t.1=k
  ·have:(kD t).1=k.map zap:=by show t.1.map zap=_;rw[e]
   simp[bY,look,za7,this,e,kD]
  ·have:¬ (kD t).1=k.map zap:=by show ¬ t.1.map zap=_;rw[My.iN];exact e
   have a:bY (kD t::cs.map kD) (k.map zap)=bY (cs.map kD) (k.map zap):=by simp[bY,za7,this]
   rw[a,ih];simp[look,za7,e]
theorem JI(cs:List My.Tm)(k:List Int)(c:Int):putD (cs.map kD) (k.map zap:List Key) (.int c)=(put cs k c).map kD:=by
 unfold putD put;have e:((cs.map kD).any λB=>decide (B.1=(k.map zap:List Key)))=cs.any λt=>decide (t.1=k):=by
  rw[List.any_map];congr 1;funext t;exact decide_eq_decide.mpr (My.iN (a:=t.1) (b:=k))
 rw[e];by_cases h:(cs.any λt=>decide (t.1=k))=true
 ·rw[if_pos h,if_pos h,zaQ,zaQ]
  congr 1;funext t;show(if t.1.map zap=(k.map zap:List Key)then((t.1.map zap:List Key),D.int c)else kD t)=kD (if t.1=k then(t.1,c)else t);by_cases z:t.1=k
  ·rw[if_pos z,if_pos (My.iN.mpr z)];rfl
  ·rw[if_neg z,if_neg (λq=>z (My.iN.mp q))]
 ·rw[if_neg h,if_neg h,zbv]
  rfl
@[simp] theorem look_kD(cs:List My.Tm)(k:List Int):b6 (.dT (cs.map kD)) (tupI k)=some ((look cs k).map D.int):=by
 show(y4 (tupI k)).map _=_;rw[asT_tupI,zae,R4]
theorem CL(k:List Int)(c:Int)(h:cs.length<=1000000):sH (.dT (cs.map kD)) (tupI k) (.int c)=some (.dT ((put cs k c).map kD)):=by
 show(y4 (tupI k)).bind _=_;rw[asT_tupI,zad,if_pos (by rw[aX,zao];exact decide_eq_true h),JI]
theorem AG(cs:List My.Tm):intKeys (cs.map kD)=some (cs.map λt=>(t.1,D.int t.2)):=by
 have:=lX (cs.map λt=>(t.1,D.int t.2));rw[zaQ]at this;exact this
theorem zZ(h:cs.length<64):qD (.dT (cs.map kD))=some (.lst ((bJ cs).map bN)):=by
 show(intKeys (cs.map kD)).bind _=_;rw[AG,zad,if_pos (by rw[zao];exact h)];have:(bJ (cs.map λt=>(t.1,D.int t.2)))=(bJ cs).map λt=>(t.1,D.int t.2):=(iG D.int cs).symm
 rw[this,zaQ];rfl
theorem RI(q:0<c)(h:i<My.rsz a b c):a+(i:Int)*c<b:=by
 unfold My.rsz zbN at h;rw[if_pos (by lia)]at h;split at h
 ·have h1:(i:Int)<=(b-a-1)/c:=by lia
  have h2:(i:Int)*c<=(b-a-1)/c*c:=Int.mul_le_mul_of_nonneg_right h1 (by lia);have z:=Int.ediv_mul_le (b-a-1) (show c≠0 by lia)
  lia
 ·simp at h
theorem UG(z:n=1\/n=2)(a b:Int):∃k:List Int,cutD [.int a,.int b] none (some n)=k.map .int/\(k.length:Int)=n/\∀e∈k,e=a\/e=b:=by
 rcases z with rfl|rfl
 ·exact⟨[a],rfl,rfl,λe q=>by simp at q;exact .inl q⟩
 ·exact⟨[a,b],rfl,rfl,λe q=>by simpa using q⟩
theorem qG{ns:List Int}{k:Int}(h0:0<=k)(h:k<(ns.length:Int)):∃c,dX (ns.map D.int) k=some (.int c)/\ns[k.toNat]?=some c:=by
 obtain⟨j,rfl⟩:∃j:Nat,k=(j:Int):=⟨k.toNat,by lia⟩;have q:j<ns.length:=by lia
 exact⟨ns[j],b8 (by simp[q]),by simp[q]⟩
noncomputable def eG:D->Option (List D)
 | .lst l=>some l
 | .tup l=>some l
 | _=>none
noncomputable def iA:List D->List D->List D
 | x::xs,y::ys=>.tup [x,y]::iA xs ys
 | _,_=>[]
def OE(f:Lv):Lv:=λρ=>(f ρ).bind λds=>match ds with
 | [a,b]=>(eG a).bind λxs=>(eG b).map λys=>iA xs ys
 | _=>none
theorem xN:∀ {xs ys:List D} {i:Nat} {d:D},(iA xs ys)[i]?=some d->∃x y,xs[i]?=some x/\ys[i]?=some y/\d=.tup [x,y]
 | [],_,i,d,h=>by simp[iA]at h
 | _::_,[],i,d,h=>by simp[iA]at h
 | x::xs,y::ys,0,d,h=>by simp[iA]at h;exact⟨x,y,rfl,rfl,h.symm⟩
 | x::xs,y::ys,i+1,d,h=>xN (xs:=xs) (ys:=ys) (i:=i) (by simpa[iA]using h)
theorem xM:∀ {xs ys:List D} {i:Nat},(iA xs ys).length<=i->xs.length<=i\/ys.length<=i
 | [],_,i,_=>.inl (za3 _)
 | _::_,[],i,_=>.inr (za3 _)
 | x::xs,y::ys,0,h=>by simp[iA]at h
 | x::xs,y::ys,i+1,h=>(xM (xs:=xs) (ys:=ys) (i:=i) (by simpa[iA]using h)).imp (λz=>by simpa using z) λz=>by simpa using z
theorem iQ{A:Av}{H:Hp}{K:zaf}{d:D}{l:List D}{v:V}(h:eG d=some l)(r:Rep A H d v):∃t a xs,v=.ref a/\My.k6 K t H a xs/\RepL A H l xs/\∀A' H',Rep A' H' d v->∃ys,My.k6 K t H' a ys/\RepL A' H' l ys:=by
 cases d with
 | lst m=>
  cases h;obtain⟨a,xs,rfl,h1,z⟩:=RepB.lst_inv (.of r);refine⟨false,a,xs,rfl,.inl h1,z,λA' H' B=>?_⟩;obtain⟨F,ys,e,h2,q⟩:=RepB.lst_inv (.of B);cases e;exact⟨ys,.inl h2,q⟩
 | tup m=>
  cases h;obtain⟨a,xs,rfl,h1,z⟩:=RepB.tup_inv (.of r);refine⟨true,a,xs,rfl,.inl (.inl h1),z,λA' H' B=>?_⟩;obtain⟨F,ys,e,h2,q⟩:=RepB.tup_inv (.of B);cases e;exact⟨ys,.inl (.inl h2),q⟩
 | _=>cases h
theorem MF{X:Cx}{O:List Nat}{M:List Expr}{x1}{tp:Pos}{a b:Expr}{f:Lv}{p pos:Pos}(hg:Gl X "zip")(hm:X.mg "zip" = none)(ha:y8 X O [a,b] f)(hs:zah [a,b] X.env=[(false,eval a X.env),(false,eval b X.env)]:=by rfl)(Y:zah [b] X.env=[(false,eval b X.env)]:=by rfl) :
  PDI X O (.Tuple M x1 tp) (.Call (.Name "zip" p) [a,b] [] pos) (OE f):=PI.mono (My.RP hg hm ha hs Y) λσ H R ⟨H0,A0,A,E,ρ,items,st,e,q⟩=>by
 obtain⟨ds,e1,e⟩:=bind_some e;refine⟨H0,A0,A,E,ρ,ds,st,e1,λvs H1 x1 r1=>?_⟩;split at e
 case h_2=>cases e
 rename_i da db;obtain⟨xs,e2,e⟩:=bind_some e;obtain⟨ys,e3,rfl⟩:=map_some e;obtain⟨v,w,rfl,r2,r3⟩:=r1.two;obtain⟨t1,N,us,rfl,q1,_,k1⟩:=iQ (K:=X.K) e2 r2;obtain⟨t2,U,ws,rfl,q2,_,k2⟩:=iQ (K:=X.K) e3 r3;refine⟨t1,t2,N,U,us,ws,rfl,q1,q2,q _ H1 [.rep da (.ref N),.rep db (.ref U)] x1 (λp hp=>?_) ?_⟩
 ·rcases List.mem_cons.mp hp with z|z
  ·rw[z];exact r2
  ·rw[List.mem_singleton.mp z];exact r3
 ·intro A' H' lv hE i
  have a1:Rep A' H' da (.ref N):=hE (.rep da (.ref N)) (zas ..);have a2:Rep A' H' db (.ref U):=hE (.rep db (.ref U)) (zav _ (zas ..));obtain⟨B,W,J⟩:=k1 A' H' a1;obtain⟨F,g2,G⟩:=k2 A' H' a2;refine⟨λhi=>⟨B,F,W,g2,(xM hi).imp (λz=>by rw[J.length];exact z) λz=>by rw[G.length];exact z⟩,λd hd=>?_⟩;obtain⟨x,y,ex,ey,rfl⟩:=xN hd;obtain⟨u,eu,ru⟩:=J.get' ex;obtain⟨w,ew,ac⟩:=G.get' ey;refine⟨⟨B,F,W,g2,(List.getElem?_eq_some_iff.mp eu).1,(List.getElem?_eq_some_iff.mp ew).1⟩,λx' H2 ⟨p,u',w',e4,n,e5,e6⟩=>?_⟩;subst e4 e5;obtain⟨z1,z2⟩:=e6 B F W g2;rw[eu]at z1;cases z1;rw[ew]at z2;cases z2;exact⟨Ext.new n,.tup aI (.cons (ru.ext (Ext.new n)) (.cons (ac.ext (Ext.new n)) .nil))⟩
@[simp] theorem q_zip:OE f ρ=(f ρ).bind λds=>match ds with
 | [a,b]=>(eG a).bind λxs=>(eG b).map λys=>iA xs ys
 | _=>none:=rfl
@[simp] theorem q_seqL:eG (.lst l)=some l:=rfl
@[simp] theorem q_seqT:eG (.tup l)=some l:=rfl
noncomputable def lS(M v:Int):Nat->Int
 | 0=>1
 | k+1=>(lS M v k*v)%M
theorem JW(h0:0<M)(h1:M<10^60):∀k,0<=lS M v k/\lS M v k<10^60
 | 0=>by unfold lS;exact⟨by decide,by decide +kernel⟩
 | k+1=>by
  unfold lS;have a:=zaw (lS M v k*v) (show M≠0 by lia);have b:=zax (lS M v k*v) h0
  lia
def prodF(M:Int)(vs:List Int)(t:My.Tm):Int:=(t.1.zip vs).foldl (λp ev=>p*lS M ev.2 ev.1.toNat) t.2
def sumF(M:Int)(vs:List Int)(ts:List My.Tm):Int:=(ts.map (prodF M vs)).sum
theorem EY(M:Int)(vs:List Int)(ts:List My.Tm)(t:My.Tm):sumF M vs (ts++[t])=sumF M vs ts+prodF M vs t:=by
 simp[sumF]
theorem RY(h1:-A<a)(h2:a<A)(F:-B<b)(q:b<B):-(A*B)<a*b/\a*b<A*B:=by
 have e:(a*b).natAbs<(A*B).natAbs:=by
  rw[Int.natAbs_mul,Int.natAbs_mul];exact Nat.mul_lt_mul_of_lt_of_le (by lia) (by lia) (by lia)
 have z:0<=A*B:=Int.mul_nonneg (by lia) (by lia)
 lia
end P
namespace P
theorem f6{q:Type}:∀ {l:List q},l.length=2->∃a b,l=[a,b]
 | [a,b],_=>⟨a,b,rfl⟩
 | [],h=>by simp at h
 | [_],h=>by simp at h
 | _::_::_::_,h=>by simp at h
end P
namespace P
open PySem PySem.Spec PyProof.Rows L2
@[simp] theorem q_chain:fZ g g' fa fb fc ρ=(fa ρ).bind λx=>(fb ρ).bind λy=>(g x y).bind λz=>(yZ z).bind λb=>if b=true then(fc ρ).bind λw=>g' y w else some (.bl false):=rfl
theorem uL(h:t∈My.put cs k c):t=(k,c)\/t∈cs:=by
 unfold My.put at h;split at h
 ·obtain⟨u,q,e⟩:=List.mem_map.mp h
  split at e
  ·rename_i z;left;rw[<- e,z]
  ·right;rw[<- e];exact q
 ·rcases List.mem_append.mp h with z|z
  ·exact .inr z
  ·exact .inl (List.mem_singleton.mp z)
noncomputable def pick{α:Type}(l:List α)(lo hi st:Option Int):List α:=(sliceRange (zb2 lo hi st l.length).1 (zb2 lo hi st l.length).2.1 (zb2 lo hi st l.length).2.2).filterMap (l[·]?)
section
variable {X:Cx}{O:List Nat}
end
end P
namespace My
open PySem PySem.Spec PyProof.Rows L2 PySem.SeqAt
section
variable {X:Cx}
theorem Inv.gone(I:Inv X pins σ H s)(f:iB X pins H C)(hs:zaS C s.heap h'):Inv X pins σ H {s with heap:=h'}:=by
 obtain⟨G,M,Y,U,J,N⟩:=f;refine I.call' (s':={s with heap:=h'}) (ch:=[C]) rfl ⟨λb o e n F B=>?_,λb o e n F B=>?_,λ_ _ _ n _=>n,λb o e B=>?_,λ_ _ q=>q,λ_ _ _ q=>q,λ_ ps q=>⟨#[],by simpa using q⟩⟩ ?_ I.bare λb F=>?_
 ·exact(hs.2 b (λz=>B (z ▸ List.mem_singleton.mpr rfl))).trans e
 ·exact⟨o.slots,(hs.2 b (λz=>B (z ▸ List.mem_singleton.mpr rfl))).trans e⟩
 ·exact⟨o,(hs.2 b (λz=>B (z ▸ List.mem_singleton.mpr rfl))).trans e⟩
 ·intro b ob e
  refine(I.hok b ob e).stay (λc w' W q=>(hs.2 c ?_).trans q) (λ_ q=>q) λ_ _ q=>q
  rintro rfl;rcases W with z|z
  ·subst z;rw[G]at e;cases e
  ·rw[G]at z;cases z
 ·rw[List.mem_singleton.mp F]
  exact⟨U,M,J,N⟩
theorem CP(hN:X.N.Nodup)(W:X.N[i]?=some x)(hx:Loc X.env.scope x)
  (hc:X.calm=true) (F:Clo X N scope cl) (hi:PI X tg iter wi) (hg:∀C s H fp,PG (aW X N scope cl C s H fp) tg g) (ht:∀C s H fp,DR (aW X N scope cl C s H fp) ifs tt) (he:∀C s H fp,PE (aW X N scope cl C s H fp) elt te)
  (hs:∀x,zbO iter X.env x=pure x:=by intro _;rfl) (G:za6 (.ListComp elt [⟨tg,iter,ifs,0⟩] scope pos) (some (.Name x pos')) spos.line X.env=pure true:=by rfl)
  (hf:X.fn x=true\/X.env.scope.names.lookup x=some .local:=by first|exact .inl rfl|exact .inr rfl) :
  PS X (.Assign [.Name x pos'] (.ListComp elt [⟨tg,iter,ifs,0⟩] scope pos) spos) (KP (KL wi g tt te (Start X N scope)) (rM i)):=by
 intro pins s σ H D I h;obtain⟨ax,sS,hw⟩:=h;rw[exec_Assign_Name_used _ _ _ _ G];refine zaa (zdj (zaa ?_));show wpAny _ X.A (do let _ <- comprehension (.ListComp elt [⟨tg,iter,ifs,0⟩] scope pos) scope X.env _ (newList []) false (eval iter X.env) (some (zbp (.Name x pos') X.env))) _ _ s;refine zaa (za8 (wpAny_comprehension_free (use:=some (zbp (.Name x pos') X.env)) (Q:=λ_ s'=>SP X pins D .next s') rfl hs F.clos F.kind F.names
  (bL (hi pins s σ H _ I hw) λv s1 h1=>bL h1 λaq s2 h2=>?_)) (λ_ s' hq=>zac (zac hq)) λ_ _ e=>e)
 obtain⟨it,fp,tn,J,H2,e,I2,T,ac,f2,q2⟩:=h2;subst e;refine sP (wi:=wi) (Q:=λv H1=>rM i v σ H1 D.nx) (RR:=λaa C=>compPost (model X.prog X.w) X.A X.xe (some (zbp (.Name x pos') X.env)) (λ_ s'=>SP X pins D .next s') aa C) hc F hg ht he I2 T ac f2 sS q2 ?_
 intro s3 s5 H3 H5 ao D1 I3 f3 I5 q;obtain⟨m,hn,_⟩:=id I5.loc;have I6:Inv X pins σ H5 s5:=comp_back I3 f3 I5 (zfd _ _);have M:iB X pins H5 s3.heap.objs.size:=I3.fpOk (zan _) I5.free;show wpAny _ X.A (zbp (.Name x pos') X.env (.ref D1)) _ _ s5;refine wpAny_assign_Name (tP (v:=.ref D1) I6 hN W hx rfl (λs7 I7 ⟨a,Y,B⟩=>?_) hf);have ne:s3.heap.objs.size≠a:=λz=>by
  rcases B with B|B
  ·exact M.2.1 (z.trans B)
  ·exact M.2.2.2.2.1 x a B z.symm
 exact⟨m,Heap.Ns.sameBut hn Y ne,λh' U=>⟨_,H5,Inv.gone I7 M U,q⟩⟩
end
end My
namespace P
open PySem PySem.Spec PyProof.Rows L2 PySem.SeqAt
section
variable {X:Cx}{O O':List Nat}{L:Lp}
theorem zU(G:PS X (.Assign [.Name x pos'] e pos) (KP (tD Rep O f) (rM i)))(h:Sub O' (O.filter (· != i))=true):iD X L O (.Assign [.Name x pos'] e pos) (bQ i f) O':=
 PS.mono G <| by
  rintro T σ H ⟨H0,A0,A,E,ρ,M,st,e,p⟩;obtain⟨d,U,rfl⟩:=map_some e;refine⟨H0,A0,A,E,ρ,d,st,U,λv H' x r=>?_⟩;have F:=(st.mono x).more r;obtain⟨A',B⟩:=F.shut (O':=O') λj J=>(Sub.er h J).1
  exact p A' _ H' ((B.put (B.ext _ (zas ..)) λz=>(Sub.er h z).2 rfl).less λq N=>zav _ N)
theorem wB(B:PS X (.Assign [.Name x pos'] e pos) (KP (tF O f) (rM i)))(h:Sub O' (i::O)=true)(U:O.contains i=false):iD X L O (.Assign [.Name x pos'] e pos) (bQ i f) O':=
 PS.mono B <| by
  rintro T σ H ⟨H0,A0,A,E,ρ,N,st,e,p⟩;obtain⟨d,G,rfl⟩:=map_some e;refine⟨H0,A0,A,E,ρ,d,st,G,λa H' x n J o=>?_⟩;have F:i∉O:=λz=>by
   have:O.contains i=true:=by simpa using z
   rw[U]at this;cases this
  obtain⟨M,q⟩:=(st.own_put x n J o F).shut (Sub.mem h);exact p M _ H' q
theorem VT:tD Rep O f σ H Q->tF O f σ H Q:=λ⟨H0,A0,A,E,ρ,d,st,e,q⟩=>
 ⟨H0,A0,A,E,ρ,d,st,e,λa H' x n z o=>q _ H' x ((o.av (A':=A) λb B=>.inl (.inl B)).rep z)⟩
theorem IB(M:X.N.Nodup)(q:X.N[i]?=some x)(F:Loc X.env.scope x)
  (W:X.calm=true) (G:My.Clo X N scope cl) (z:cZ X scope N ms) (hn:(ms.all λo=>match o with|some i=>!O.contains i|none=>true)=true) (hi:PDI X O tg iter it) (U:∀C s H fp,y6 (My.aW X N scope cl C s H fp) [] tg g)
  (J:∀C s H fp,My.DR (My.aW X N scope cl C s H fp) ifs (tDT [] c)) (Y:∀C s H fp,PD (My.aW X N scope cl C s H fp) [] elt f) (h:Sub O' (O.filter (· != i))=true:=by rfl) (hs:∀x,zbO iter X.env x=pure x:=by intro _;rfl)
  (B:za6 (.ListComp elt [⟨tg,iter,ifs,0⟩] scope pos) (some (.Name x pos')) spos.line X.env=pure true:=by rfl) (hf:X.fn x=true\/X.env.scope.names.lookup x=some .local:=by first|exact .inl rfl|exact .inr rfl) :
  iD X L O (.Assign [.Name x pos'] (.ListComp elt [⟨tg,iter,ifs,0⟩] scope pos) spos) (bQ i (hZ ms it g c f)) O':=
 zU (PS.mono (My.CP M q F W G hi U J Y hs B hf) λT σ H w=>qK z hn _ _ _ (VT w)) h
theorem ET(W:X.N.Nodup)(q:X.N[i]?=some x)(J:Loc X.env.scope x)
  (hc:X.calm=true) (M:My.Clo X N scope cl) (z:cZ X scope N ms) (hn:(ms.all λo=>match o with|some i=>!O.contains i|none=>true)=true) (hi:PDI X O tg iter it) (Y:∀C s H fp,y6 (My.aW X N scope cl C s H fp) [] tg g)
  (U:∀C s H fp,My.DR (My.aW X N scope cl C s H fp) ifs (tDT [] c)) (he:∀C s H fp,PD (My.aW X N scope cl C s H fp) [] elt f) (h:Sub O' (i::O)=true:=by rfl) (F:O.contains i=false:=by rfl) (hs:∀x,zbO iter X.env x=pure x:=by intro _;rfl)
  (B:za6 (.ListComp elt [⟨tg,iter,ifs,0⟩] scope pos) (some (.Name x pos')) spos.line X.env=pure true:=by rfl) (G:X.fn x=true\/X.env.scope.names.lookup x=some .local:=by first|exact .inl rfl|exact .inr rfl) :
  iD X L O (.Assign [.Name x pos'] (.ListComp elt [⟨tg,iter,ifs,0⟩] scope pos) spos) (bQ i (hZ ms it g c f)) O':=
 wB (PS.mono (My.CP W q J hc M hi Y U he hs B G) λT σ H w=>qK z hn _ _ _ w) h F
end
end P
namespace My
open PySem PySem.Spec PyProof.Rows L2 PySem.SeqAt
def W6(K:zaf)(n:Nat)(t:P1):TG:=λv σ H Q=>∃a xs,v=.ref a/\(SqT K H a xs\/SqL K H a xs)/\xs.length=n/\t xs σ H Q
theorem rK(J:X.calm=true)(h:PGs X es t)
  (M:(zbe es X.env).length=n:=by rfl) (q:(zbe es X.env).findIdx? (·.1)=none:=by rfl):PG X (.Tuple es k pos) (W6 X.K n t):=by
 intro pins s σ H v u Q I r hw;obtain⟨a,xs,Y,z,F,hw⟩:=hw;subst Y;rcases z with z|z
 ·exact AX J h M q pins s σ H _ u Q I r ⟨a,xs,rfl,z,F,hw⟩
 ·cases r
  obtain⟨B,G,ht,hz⟩:=I.list z;have hsz:(zbe es X.env).length=B.toArray.size:=by simp[M,<- F,G.length]
  rw[assign_Tuple];refine zaa (zdj ?_);unfold unpack;rw[hsz,q];refine zaa (zbm (PySem.W.kun_itemsOf (I.ok.hd J) (My.PlainL.isList ht) λh' U=>?_));have N:Inv X pins σ H {s with heap:=h'}:=I.kept (t':=s.toks) λb o e=>U b o (zay (zai e)) e
  exact h pins _ σ H xs _ Q N (by simpa using G) hw
end My
namespace P
open PySem PySem.Spec PyProof.Rows L2 PySem.SeqAt
def kU(n:Nat)(k:PZ):Gv:=λd ρ=>match d with
 | .tup l=>if l.length=n then k l ρ else none
 | .lst l=>if l.length=n then k l ρ else none
 | _=>none
theorem kQ(F:PG X tg (My.W6 X.K n (tDGs O k))):y6 X O tg (kU n k):=PG.mono F <| by
 rintro v σ H Q ⟨H0,A0,A,E,ρ,d,ρ',st,r,e,q⟩;cases d with
 | tup l=>
  obtain⟨a,xs,rfl,h,B⟩:=RepB.tup_inv (.of r);by_cases z:l.length=n
  ·simp only[kU,if_pos z]at e
   exact⟨a,xs,rfl,.inl (.inl (.inl h)),by rw[B.length];exact z,H0,A0,A,E,ρ,l,ρ',st,B,e,q⟩
  ·simp only[kU,if_neg z]at e;cases e
 | lst l=>
  obtain⟨a,xs,rfl,h,B⟩:=RepB.lst_inv (.of r);by_cases z:l.length=n
  ·simp only[kU,if_pos z]at e
   exact⟨a,xs,rfl,.inr (.inl h),by rw[B.length];exact z,H0,A0,A,E,ρ,l,ρ',st,B,e,q⟩
  ·simp only[kU,if_neg z]at e;cases e
 | _=>cases e
@[simp] theorem q_gseqT:kU n h (.tup l) ρ=if l.length=n then h l ρ else none:=rfl
@[simp] theorem q_gseqL:kU n h (.lst l) ρ=if l.length=n then h l ρ else none:=rfl
end P
namespace P
open PySem PySem.Spec PyProof.Rows L2
def cf(q:List My.Tm)(k:List Int):Int:=(My.look q k).getD 0
theorem C4(q:My.Tm)(z:List My.Tm)(k:List Int):cf (q::z) k=if q.1=k then q.2 else cf z k:=by
 unfold cf My.look;rw[za7];by_cases e:q.1=k <;> simp[e]
theorem UC(h:k∉qs.map (·.1)):cf qs k=0:=by
 induction qs with
 | nil=>rfl
 | cons q qs ih=>
  rw[C4,if_neg (λz=>h (by simp[z])),ih λz=>h (by simp at z ⊢;exact .inr z)]
noncomputable def UF:List (List Int):=[[0],[1],[2]]
noncomputable def UT:List (List Int):=[[0,0],[0,1],[0,2],[1,0],[1,1],[1,2],[2,0],[2,1],[2,2]]
def cX(n:Int):List (List Int):=if n=1 then UF else UT
theorem eD{f:Lv}{g:Gv}{b rest:Sv}{ρ:cY}{items:List D}{R:D->Prop}(q:f ρ=some items)(I:Nat->cY->Prop)(h0:I 0 ρ)(hs:∀i x ρ,items[i]?=some x->I i ρ->∃ρ',turn g b x ρ=some (.nx ρ')/\I (i+1) ρ')(k:∀ρ',I items.length ρ'->∃d,rest ρ'=some (.rt d)/\R d):∃d,bD (jV f g b) rest ρ=some (.rt d)/\R d:=by
 obtain⟨ρ',e,h⟩:=fY (g:=g) (b:=b) I h0 hs;rw[aF (by rw[q_for,q];exact e)];exact k ρ' h
theorem dJ{n:Nat}{ds:List D}{R:D->Prop}(h:∃d,f (aK n ds)=some (.rt d)/\R d):∃d,bA n f ds=some d/\R d:=by
 obtain⟨d,e,r⟩:=h;exact⟨d,aM e,r⟩
theorem RX(q:n=1\/n=2)(h:k∈cX n):(k.length:Int)=n/\∀e∈k,0<=e/\e<=2:=by
 rcases q with rfl|rfl
 ·have:∀k∈UF,(k.length:Int)=1/\∀e∈k,0<=e/\e<=2:=by decide
  exact this k h
 ·have:∀k∈UT,(k.length:Int)=2/\∀e∈k,0<=e/\e<=2:=by decide
  exact this k h
end P
namespace My
open PySem PySem.Spec PyProof.Rows L2 PySem.SeqAt
theorem k7:fillsNumberSlot (.type "tuple") "mul" = pure false:=
 PySem.fillsNumberSlot_seq (id := "tuple.__mul__") (r:=some (.builtin "tuple.__rmul__")) PySem.F.slot_tuple_mul.lookup (by decide +kernel) PySem.F.slot_tuple_rmul.lookup (by decide +kernel)
theorem uD:seqRepeat? (.type "tuple")=pure (some (.builtin "tuple.__mul__")):=by
 unfold seqRepeat?;rw[PySem.seqSlot_of (T := "tuple") (name := "__mul__") (id := "tuple.__mul__") PySem.F.slot_tuple_mul.lookup (by decide +kernel),PySem.seqSlot_of (T := "tuple") (name := "__rmul__") (id := "tuple.__rmul__") PySem.F.slot_tuple_rmul.lookup (by decide +kernel)];rfl
theorem nY(a:Int)(t:Tok)(l:Addr)(items:Array Value)(n:Nat)(dd sl) :
  Meets (za9.«int.__rmul__» ⟨[.int a t,.ref l],[]⟩) (λ_ R s=>s.heap.get? l=some {cls:=.type "tuple",dict:=dd,data:=.seq items n,slots:=sl}/\R (.ok (.ret zeW)) s):=
 .of_wp λprog w A R s h=>by obtain⟨q,g,d,tk,os⟩:=s;obtain⟨z,h⟩:=h;wp_walk;exact⟨_,rfl,h⟩
theorem zQ(t:Tok)(l:Addr)(items:Array Value)(n:Nat)(dd sl) :
  Meets (za9.«tuple.__mul__» ⟨[.ref l,.int 1 t],[]⟩) (λ_ R s=>s.heap.get? l=some {cls:=.type "tuple",dict:=dd,data:=.seq items n,slots:=sl}/\R (.ok (.ret (.ref l))) s):=
 .of_wp λprog w A R s h=>by obtain⟨q,g,d,tk,os⟩:=s;obtain⟨z,h⟩:=h;wp_walk;exact⟨_,rfl,h⟩
theorem zD(t:Tok)(l:Addr)(x:Value)(n:Nat)(dd sl) :
  Meets (za9.«tuple.__mul__» ⟨[.ref l,.int 2 t],[]⟩) (λ_ R s=>s.heap.get? l=some {cls:=.type "tuple",dict:=dd,data:=.seq #[x] n,slots:=sl}/\R (.ok (.ret (.ref s.heap.objs.size))) {s with heap:=s.heap.push {cls:=.type "tuple",data:=.seq #[x,x]} }):=
 .of_wp λprog w A R s h=>by obtain⟨q,g,d,tk,os⟩:=s;obtain⟨z,h⟩:=h;wp_walk;exact⟨_,rfl,h⟩
theorem NY(M:IsTup s.heap l #[y])(J:x=1\/x=2)
  (h1:x=1->Q (.ref l) s) (h2:x=2->Q (.ref s.heap.objs.size) {s with heap:=s.heap.push {cls:=.type "tuple",data:=.seq #[y,y]} }):wpAny (model prog w) A (zaW .Mult (.ref l) (.int x u)) Q E s:=by
 obtain⟨⟨cls,dd,data,z⟩,q,G,n,B⟩:=id M;simp only at G B;subst G B;refine wpAny_binaryOp_repeat_ref (T := "tuple") (U := "int") (by decide) ⟨_,q,rfl⟩ (λs'=>zcH s' x u) k7 PySem.F.fills_int_mul PySem.F.slot_int_rmul uD PySem.F.slot_int_index.lookup
  (zcs PySem.F.slot_int_rmul (zcH s x u) PySem.F.entry_int_rmul (PySem.F.args_int_rmul_2 _ _) (nY x u l #[y] n dd z) ⟨q,rfl,⟨_,q,rfl⟩,?_⟩)
 rcases J with rfl|rfl
 ·exact zcs PySem.F.slot_tuple_mul ⟨_,q,rfl⟩ PySem.F.entry_tuple_mul (PySem.F.args_tuple_mul_2 _ _) (zQ u l #[y] n dd z) ⟨q,h1 rfl⟩
 ·exact zcs PySem.F.slot_tuple_mul ⟨_,q,rfl⟩ PySem.F.entry_tuple_mul (PySem.F.args_tuple_mul_2 _ _) (zD u l y n dd z) ⟨q,h2 rfl⟩
end My
namespace P
open PySem PySem.Spec PyProof.Rows L2 PySem.SeqAt
noncomputable def DJ:D->D->Option D
 | .tup [x],.int n=>if n=1 then some (.tup [x])else if n=2 then some (.tup [x,x])else none
 | _,_=>none
section
variable {X:Cx}
theorem L9:OpR X (zaW .Mult) (λx y H Q=>∃a v n,x=.ref a/\y=.int n/\SqT X.K H a [v]/\(n=1\/n=2)/\(n=1->Q (.ref a) H)/\(n=2->∀p,H p=none->Q (.ref p) (upd H p (.tup [v,v])))):=by
 intro pins s σ H x y v u Q I B J h;obtain⟨a,w,n,rfl,rfl,G,W,F,z⟩:=h;cases B;obtain⟨t,rfl⟩:∃t,u=.int n t:=J;obtain⟨U,N,M,_⟩:=I.tuple G;cases N with
 | cons r0 rr=>
  cases rr;rename_i y;refine My.NY M W (λe=>⟨.ref a,H,I,rfl,F e⟩) λe=>?_
  refine⟨.ref s.heap.objs.size,_,I.laid (t':=s.toks) (o:=.tup [w,w]) (λb ob q=>zag _ q) (zan _) ?_,rfl,z e _ (I.hok.fresh (zan _))⟩;exact⟨by show 2<=zaj;decide,_,.cons r0 (.cons r0 .nil),IsTupN.new _ _⟩
theorem L4:eY X (zaW .Mult) DJ:=OpR.mono L9 <| by
 rintro x y H Q ⟨A,dx,U,d,W,J,M,e,q⟩;unfold DJ at e;split at e
 case h_2=>cases e
 rename_i d0 n;obtain⟨a,xs,rfl,h1,N⟩:=J.tup_inv;have:=M.int_inv;subst this;cases N with
 | cons r0 rr=>
  cases rr;by_cases B:n=1
  ·rw[if_pos B]at e;cases e
   exact⟨a,_,n,rfl,rfl,.inl (.inl h1),.inl B,λ_=>q _ H (Ext.refl _ _) (.tup h1 (.cons r0 .nil)),λz=>by lia⟩
  ·rw[if_neg B]at e
   by_cases G:n=2
   ·rw[if_pos G]at e;cases e
    exact⟨a,_,n,rfl,rfl,.inl (.inl h1),.inr G,λz=>absurd z B,λ_ p F=>q _ _ (Ext.new F) (.tup aI (.cons (r0.ext (Ext.new F)) (.cons (r0.ext (Ext.new F)) .nil)))⟩
   ·rw[if_neg G]at e;cases e
end
@[simp] theorem q_mulT1:DJ (.tup [x]) (.int 1)=some (.tup [x]):=rfl
@[simp] theorem q_mulT2:DJ (.tup [x]) (.int 2)=some (.tup [x,x]):=rfl
end P
namespace My
open PySem PySem.Spec PyProof.Rows L2 PySem.SeqAt
def TV(tk tv:TE):TE:=λσ H Q=>∀p,H p=none->tk σ (upd H p (.dT [])) λx H1=>tv σ H1 λy H2=>∃k b,x=.ref b/\H2 p=some (.dT [])/\H2 b=some (.tup (k.map kV))/\Q (.ref p) (upd H2 p (.dT [(k,y)]))
theorem GL(hu:X.A.units+1<cLine)(hk:PE X k tk)(hv:PE X v tv):PE X (.Dict [some k] [v] pos) (TV tk tv):=by
 intro pins s σ H Q I q;have hn:=I.hok.fresh (zan s.heap.objs.size);have I1:=I.laid (a:=s.heap.objs.size) (o:=.dT []) (h':=s.heap.push {cls:=.type "dict",data:=.dict #[]}) (t':=s.toks) (λ_ _ q=>zag _ q) (zan _) (pW s.heap I.big);refine wpAny_Dict_any rfl rfl (by simp) (by simp) ?_;refine pairTrees_cons_walk (bL (hk pins _ σ _ _ I1 (q _ hn)) λu s1 ⟨x,H1,I2,rx,q1⟩=>bL (hv pins s1 σ H1 _ I2 q1) λw2 s2 ⟨y,H2,F,ry,U,b,ex,e,J,Y⟩=>pairTrees_nil_walk ?_);subst ex;cases(show u=zal b from rx);obtain⟨z,W,xs,B,dd⟩:=KJ F.hok e;have hz:xs.length<=zaj:=by rw[<- zbX B];exact z
 show wpAny _ X.A (storeAll s.heap.objs.size [(zal b,w2)]) _ _ s2;unfold storeAll;refine zaa (zaa (wpAny_dictSet_heap (hsz:=hz) (show X.A.units<cLine by lia) (fX F.hok J) dd λh' G hs=>?_));refine zac (zac ?_);obtain⟨q,es,ep,M,h2,h3,h4,_,h5⟩:=G;refine⟨.ref s.heap.objs.size,_,iO F (ob:=.dT (putK [] U y)) (by rw[e];exact zbf) hs ⟨q,M⟩ ⟨zbd (cG _ _ _) (by decide),W,_,(B.put U J ry).keeps λc ys N=>?_,q,es,ep,M,h2,h3,h4,h5⟩,rfl,Y⟩;rw[aE (DH N e (λz=>nomatch z))];exact N
end My
namespace P
open PySem PySem.Spec PyProof.Rows L2 PySem.SeqAt
theorem ST.aside(s:ST H0 A0 A E O σ H ρ)(F:H p=none)(o:HO):ST H0 A0 (λb=>A b\/b=p) E O σ (upd H p o) ρ:=by
 have G:∀a,(A a\/a=p)->A a\/H a=none:=λa B=>B.imp id λz=>by rw[z];exact F
 refine⟨s.ex.trans (Ext.new F),λa B=>.inl (s.sub a B),s.l0,λa B=>?_,s.len,λi d h n=>?_,λi d h n=>?_,s.inj,λq U=>Fact.ext (Ext.new F) (Fact.av G (s.ext q U))⟩
 ·rcases B with B|B
  ·rw[aE (λz=>by subst z;exact s.live _ B F)];exact s.live a B
  ·subst B;rw[aI];exact λz=>nomatch z
 ·obtain⟨v,h1,h2⟩:=s.val i d h n
  exact⟨v,h1,(h2.av G).ext (Ext.new F)⟩
 ·obtain⟨a,W,J,N,M⟩:=s.own i d h n
  exact⟨a,W,.inl J,N,Own.ext (Ext.new F) (.inl J) (M.av G)⟩
def J4(q B:Ev):Ev:=λρ=>(q ρ).bind λk=>(B ρ).bind λv=>(y4 k).map λz=>.dT [(z,v)]
@[simp] theorem q_disp1:J4 fk fv ρ=(fk ρ).bind λk=>(fv ρ).bind λv=>(y4 k).map λq=>.dT [(q,v)]:=rfl
theorem GM(hu:X.A.units+1<cLine)(hk:PB X O k fk)(Y:PD X O v fv):PF X O (.Dict [some k] [v] pos) (J4 fk fv):=
 PE.mono (My.GL hu hk Y) <| by
  rintro σ H Q ⟨H0,A0,A,E,ρ,d,st,e,q⟩;obtain⟨dk,ek,e⟩:=bind_some e;obtain⟨dv,ev,e⟩:=bind_some e;obtain⟨kk,et,rfl⟩:=map_some e;intro p J;have W:=st.aside J (.dT []);have na:¬ A p:=λz=>st.live p z J
  refine⟨H0,A0,_,E,ρ,dk,W,ek,λx H1 M r1=>⟨H0,A0,_,E,ρ,dv,W.mono M,ev,λy H2 N r2=>?_⟩⟩;obtain⟨b,rfl,U⟩:=nJ et (r1.ext N);have G:H2 p=some (.dT []):=(M.trans N).ow p _ (.inr rfl) aI;have F:Ext A H H2:=(Ext.new J).trans ((M.trans N).mono λa ha=>.inl ha);have B:∀b,H b≠none->b≠p:=λb U z=>U (by rw[z];exact J)
  refine⟨kk,b,rfl,G,U,q p _ ?_ J na (.dT aI rfl (.cons (r2.put (.inr rfl) G trivial) .nil))⟩;exact⟨λb w r=>eE (B b (by rcases r with r|⟨_,r⟩ <;> (rw[r];exact λz=>nomatch z))) (F.rd b w r),
      λb xs k r=>by rw[aE (B b (by rw[r];exact λz=>nomatch z))];exact F.kp b xs k r,
      λb w n r=>by rw[aE (B b (by rw[r];exact λz=>nomatch z))];exact F.ow b w n r,
      λb q w r=>by rw[aE (B b (by rw[r];exact λz=>nomatch z))];exact F.fz b q w r⟩
end P
namespace My
open PySem PySem.Spec PyProof.Rows L2
section
variable {X:Cx}
theorem x8{ns:List Int}{q:List Value}(r:Vals (ns.map V.int) q){i:Nat}(h:q[i]?=some v):∃t,v=.int ((ns[i]?).getD 0) t:=by
 have B:=r.length;rw[zao]at B;have hi:i<ns.length:=by rw[B];exact(List.getElem?_eq_some_iff.mp h).1
 have e:(ns.map V.int)[i]?=some (.int ns[i]):=by simp[hi]
 obtain⟨u,z,F⟩:=r.get e;rw[h]at z;cases z;obtain⟨t,rfl⟩:=F;exact⟨t,by simp[hi]⟩
theorem NX:OpR X (zaW .Add) (λx y H Q=>∃a b ys,x=.ref a/\y=.ref b/\SqT X.K H a []/\SqT X.K H b ys/\Q (.ref b) H):=by
 intro pins s σ H x y v u Q I rx ry h;obtain⟨a,b,ys,rfl,rfl,ha,hb,q⟩:=h;cases rx;cases ry;obtain⟨W,r1,p1,_⟩:=I.tuple ha;obtain⟨z,r2,p2,_⟩:=I.tuple hb;have e1:W=[]:=r1.nil_iff.mpr rfl;subst e1;obtain⟨⟨cls,dd,data,sl⟩,ho,hc,n,hd⟩:=p1;obtain⟨⟨M,ab,B,Y⟩,G,U,n2,aa⟩:=p2;have N:cls=.type "tuple" := hc;have ac:data=.seq #[] n:=hd;have J:M=.type "tuple" := U;have F:B=.seq z.toArray n2:=aa;subst N ac J F;exact concat_meets ⟨_,ho,rfl⟩ ⟨_,G,rfl⟩ zeX seq_tuple_add zeY zeZ (ze0 _ _)
  (tuple_addW0 a b #[] z.toArray n n2 dd ab sl Y rfl) ⟨ho,G,.ref b,H,I,rfl,q⟩
def VS:R2:=λx y H Q=>∃l k xs,x=.ref l/\y=.int k/\Rd H l (.lst xs)/\-(2^63)<=k/\k<2^63/\xs.length*k.toNat<=zaj /\
 ∀p,H p=none->Q (.ref p) (upd H p (.lst (zaO k.toNat xs).flatten))
theorem MZ:OpR X (zaW .Mult) VS:=by
 intro pins s σ H x y v u Q I rx ry h;obtain⟨l,k,xs,rfl,rfl,hH,h1,h2,hz,q⟩:=h;cases rx;obtain⟨t,rfl⟩:=ry;obtain⟨z,B,n,r,hl,e⟩:=P.Inv.lstR I hH;have W:B.toArray.size*k.toNat<=zaj:=by rw[zaz,<- hl];exact hz
 have N:¬ B.toArray.size*k.toNat>(2^63-1)/8:=by
  have:(zaj:Nat)<=(2^63-1)/8:=by decide
  lia
 have J:¬ (!Builtin.List.listFitsIndex k)=true:=by
  rw[fitsIndex_both h1 h2];exact zau
 have G:¬ ze4 (B.toArray.size*k.toNat)=true:=by
  rw[HL W];exact zau
 have M:List.foldl (λY x2=>Y++x2) #[] (zaO (if B.toArray.isEmpty=true then 0 else k.toNat) B.toArray)=(zaO k.toNat B).flatten.toArray:=by
  have f0:∀m:Nat,List.foldl (λY x2=>Y++x2) #[] (zaO m B.toArray)=(zaO m B).flatten.toArray:=λm=>by
   have:=foldl_rep B m [];rw[zfh]at this;exact this
  rw[f0];cases B with
  | nil=>simp
  | cons a r'=>rw[if_neg (by simp)]
 refine wpAny_binaryOp_repeat_ref (T := "list") (U := "int") (by decide) ⟨_,e,rfl⟩ (λs'=>zcH s' k t) noFill_list_mul F.fills_int_mul F.slot_int_rmul repeat_list F.slot_int_index.lookup
  (zcs F.slot_int_rmul (zcH s k t) F.entry_int_rmul (F.args_int_rmul_2 _ _) (int___rmul___int_list k t l B.toArray n)
   ⟨e,rfl,⟨_,e,rfl⟩,zcs F.slot_list_mul ⟨_,e,rfl⟩ F.entry_list_mul (F.args_list_mul_2 _ _) (AutoListH.list___mul___list_int_3 l B.toArray n k t J N G) ⟨e,?_⟩⟩)
 rw[M];exact⟨.ref _,_,I.lnew (t':=s.toks) (r.rep k.toNat) (by rw[len_rep,Nat.mul_comm];exact hz),rfl,q _ I.fresh⟩
end
end My
namespace P
open PySem PySem.Spec PyProof.Rows L2
theorem aA{q z:Type}(a:q)(f:q->Option z):(some a).bind f=f a:=by rw[zad]
theorem aD{q z:Type}(a:q)(f:q->z):(some a).map f=some (f a):=by rw[zae]
section
variable {X:Cx}{O O':List Nat}{L:Lp}
noncomputable def FY:List D->Option D
 | [.int i]=>some (.int i)
 | [.bl b]=>some (.int (if b then 1 else 0))
 | _=>none
theorem RQ:hW X (.type "int") FY:=CallR.mono FD <| by
 rintro xs H Q ⟨A,ds,d,B,r,e,q⟩;unfold FY at e;split at e
 ·cases e
  obtain⟨v,rfl,z⟩:=r.one;cases z.int_inv;exact .inl ⟨_,rfl,q _ H (Ext.refl _ _) (.int _)⟩
 ·cases e
  obtain⟨v,rfl,z⟩:=r.one;cases z.bl_inv;exact .inr ⟨_,rfl,q _ H (Ext.refl _ _) (.int _)⟩
 ·cases e
@[simp] theorem q_intB:FY [.bl b]=some (.int (if b then 1 else 0)):=rfl
@[simp] theorem q_intI:FY [.int i]=some (.int i):=rfl
theorem eN:∀ns:List Int,dW (ns.map .int)=some ns
 | []=>rfl
 | n::ns=>by rw[zak,dW,eN ns];rfl
def UI:D->D->Option D
 | .lst l,.int k=>if cM k=true/\aX (l.length*k.toNat)=true then some (.lst (zaO k.toNat l).flatten)else none
 | _,_=>none
theorem RepL.rep(r:RepL A H ds vs):∀k:Nat,RepL A H (zaO k ds).flatten (zaO k vs).flatten
 | 0=>.nil
 | k+1=>by rw[zcr,zcr,zcJ,zcJ];exact r.append (RepL.rep r k)
theorem JN(ha:PB X O a fa)(B:PB X O b fb):PF X O (.BinOp a .Mult b pos) (aZ UI fa fb):=
 PE.mono (O0 My.MZ ha B) <| by
  rintro σ H Q ⟨H0,A0,A,E,ρ,d,st,e,q⟩;obtain⟨x,ex,e⟩:=bind_some e;obtain⟨y,Y,e⟩:=bind_some e;refine⟨H0,A0,A,E,ρ,x,st,ex,λv H1 F r1=>⟨H0,A0,A,E,ρ,y,st.mono F,Y,λw H2 G N=>?_⟩⟩;unfold UI at e;split at e
  ·rename_i _ l k _
   by_cases hz:cM k=true/\aX (l.length*k.toNat)=true
   ·rw[if_pos hz]at e
    cases e;obtain⟨p,xs,rfl,W,J⟩:=(r1.ext G).lst_inv;cases N.int_inv;have hk:=eA hz.1;refine⟨p,k,xs,rfl,rfl,W,by lia,by lia,by rw[J.length];exact fV hz.2,λb B=>?_⟩;have M:H b=none:=(F.trans G).free B;have U:¬ A b:=λz=>(st.mono (F.trans G)).live b z B
    exact q b _ ((F.trans G).trans (Ext.new B)) M U (.lst aI ((J.rep k.toNat).fresh B))
   ·rw[if_neg hz]at e;cases e
  ·cases e
@[simp] theorem q_rep:UI (.lst l) (.int k)=if cM k=true/\aX (l.length*k.toNat)=true then some (.lst (zaO k.toNat l).flatten)else none:=rfl
def u6(q B:Ev):Ev:=λρ=>(q ρ).bind λk=>(B ρ).bind λv=>(F7 k).map λz=>.dK [(z,v)]
@[simp] theorem q_dispK1:u6 fk fv ρ=(fk ρ).bind λk=>(fv ρ).bind λv=>(F7 k).map λq=>.dK [(q,v)]:=rfl
theorem D7(hk:PB X O k fk)(W:PD X O v fv):PF X O (.Dict [some k] [v] pos) (u6 fk fv):=
 PE.mono (B7 (pZ hk W BY) rfl rfl (by simp) (by simp)) <| by
  rintro σ H Q ⟨H0,A0,A,E,ρ,d,st,e,q⟩;obtain⟨dk,ek,e⟩:=bind_some e;obtain⟨Y,ev,e⟩:=bind_some e;obtain⟨kk,et,rfl⟩:=map_some e;intro p J;have U:=st.aside J (.dK []);have na:¬ A p:=λz=>st.live p z J
  refine⟨H0,A0,_,E,ρ,dk,U,ek,λx H1 M r1=>⟨H0,A0,_,E,ρ,Y,U.mono M,ev,λy H2 N r2=>?_⟩⟩;have hx:=iP et (r1.ext N);subst hx;have G:H2 p=some (.dK []):=(M.trans N).ow p _ (.inr rfl) aI;have F:Ext A H H2:=(Ext.new J).trans ((M.trans N).mono λa ha=>.inl ha);have B:∀b,H b≠none->b≠p:=λb hb z=>hb (by rw[z];exact J)
  refine⟨G,[(kk,y)],rfl,by simp,q p _ ?_ J na (.dK aI rfl (.cons (r2.put (.inr rfl) G trivial) .nil))⟩;exact⟨λb w r=>eE (B b (by rcases r with r|⟨_,r⟩ <;> (rw[r];exact λz=>nomatch z))) (F.rd b w r),
      λb xs k r=>by rw[aE (B b (by rw[r];exact λz=>nomatch z))];exact F.kp b xs k r,
      λb w n r=>by rw[aE (B b (by rw[r];exact λz=>nomatch z))];exact F.ow b w n r,
      λb q w r=>by rw[aE (B b (by rw[r];exact λz=>nomatch z))];exact F.fz b q w r⟩
def bX(x y:D):Option D:=match x,y with
 | .tup l,.tup m=>if aX (l.length+m.length)then some (.tup (l++m))else none
 | x,y=>t9 x y
theorem LY:eY X (zaW .Add) bX:=OpR.mono (OpR.or SY My.NX) <| by
 rintro x y H Q ⟨A,dx,M,d,F,z,B,e,q⟩;unfold bX at e;split at e
 ·rename_i l m
  cases l with
  | nil=>
   by_cases hz:aX (([]:List D).length+m.length)=true
   ·rw[if_pos hz]at e
    cases e;obtain⟨a,xs,rfl,h1,J⟩:=z.tup_inv;obtain⟨b,ys,rfl,h2,G⟩:=B.tup_inv;cases J;exact .inr ⟨a,b,ys,rfl,rfl,.inl (.inl h1),.inl (.inl h2),q _ H (Ext.refl _ _) (.tup h2 G)⟩
   ·rw[if_neg hz]at e;cases e
  | cons a l=>
   refine .inl ⟨A,_,_,d,F,z,B,?_,q⟩;rw[<- e];rfl
 ·exact .inl ⟨A,_,_,d,F,z,B,e,q⟩
@[simp] theorem q_addAI:bX (.int i) (.int j)=some (.int (i+j)):=rfl
@[simp] theorem q_addAT:bX (.tup l) (.tup m)=if aX (l.length+m.length)then some (.tup (l++m))else none:=rfl
@[simp] theorem q_addAL:bX (.lst l) (.lst m)=if aX (l.length+m.length)then some (.lst (l++m))else none:=rfl
@[simp] theorem q_addAS:bX (.str l) (.str m)=if aX (l.length+m.length)then some (.str (l++m))else none:=rfl
def OW(fd q:Ev):Ev:=λρ=>(fd ρ).bind λd=>(q ρ).bind λk=>(b6 d k).map λo=>o.getD .non
theorem OC(W:X.A.units+1<cLine)(ho:PB X O o fd)(he:PB X O e fk)(m:M1 X o "get" apos e cpos):PD X O (.Call (.Attribute o "get" apos) [e] [] cpos) (OW fd fk):=
 PE.mono (GJ W ho he m) <| by
  rintro σ H Q ⟨H0,A0,A,E,ρ,d,st,e,q⟩;obtain⟨x,ex,e⟩:=bind_some e;obtain⟨y,Y,e⟩:=bind_some e;obtain⟨ov,J,rfl⟩:=map_some e;refine⟨H0,A0,A,E,ρ,x,st,ex,λv H1 F U=>?_⟩;obtain⟨a,N,z⟩:=JT y J U;refine⟨a,N,z,H0,A0,A,E,ρ,y,st.mono F,Y,λw H2 G r2=>?_⟩;obtain⟨a',B,M,_,g,e3⟩:=gZ J (U.ext G) r2;rw[N]at M;cases M;refine⟨B,g,?_⟩;rcases e3 with⟨rfl,rfl⟩|⟨z',v',rfl,rfl,r4⟩
  ·exact q _ H2 (F.trans G) .non
  ·exact q v' H2 (F.trans G) r4
@[simp] theorem q_get1:OW fd fk ρ=(fd ρ).bind λd=>(fk ρ).bind λk=>(b6 d k).map λo=>o.getD .non:=rfl
def hU(c:Bv)(b:Sv):Nat->cY->Option Out
 | 0,_=>none
 | n+1,ρ=>(c ρ).bind λt=>if t=true then(b ρ).bind λo=>match o with
   | .nx ρ'=>hU c b n ρ'
   | .ct ρ'=>hU c b n ρ'
   | .bk ρ'=>some (.nx ρ')
   | .rt d=>some (.rt d)
  else some (.nx ρ)
def qX(c:Bv)(b:Sv):Sv:=λρ=>hU c b 100000 ρ
theorem FM(U:zcU (model X.prog X.w) X.A X.env X.xe)(hc:m8 X O1 c g)(hb:dM X ⟨Ob,O1⟩ O1 body b O1)(h1:Sub O1 O=true)(h2:Sub O' O1=true)(h3:Sub O' Ob=true) :
  iD X L O (.While c body [] pos) (qX g b) O':=PS.mono (HF U hc hb) λT σ H ⟨H0,A0,A,E,ρ,F,st,e,p⟩=>by
 obtain⟨A1,M⟩:=st.shut (Sub.mem h1);refine⟨λm σ H=>∃ρ A,ST H0 A0 A E O1 σ H ρ/\hU g b m ρ=some F,⟨100000,ρ,A1,M,e⟩,?_⟩;rintro m σ H ⟨ρ,A,st,e⟩;cases m with
 | zero=>cases e
 | succ m=>
  obtain⟨t,et,e⟩:=bind_some e;refine⟨H0,A0,A,E,ρ,t,st,et,λH1 N=>?_⟩;have fin:∀ {O2:List Nat} {A:Av} {σ:L2.St} {H:Hp} {ρ:cY},Sub O' O2=true->ST H0 A0 A E O2 σ H ρ->(∀A σ H,ST H0 A0 A E O' σ H ρ->T.nx σ H)->T.nx σ H:=λhs st k=>by
   obtain⟨q,J⟩:=st.shut (Sub.mem hs);exact k q _ _ J
  cases t with
  | true=>
   rw[if_pos rfl]at e;dsimp only;rw[if_pos rfl];obtain⟨o,W,e⟩:=bind_some e;refine⟨λG H'=>∃ρ2 q,ST H0 A0 q E O1 G H' ρ2/\hU g b m ρ2=some F,λG H' ⟨ρ2,q,z,Y⟩=>⟨m,zdb m,ρ2,q,z,Y⟩,H0,A0,A,E,ρ,o,st.mono N,W,?_⟩;cases o with
   | nx ρ2=>exact λq B H2 z=>⟨ρ2,q,z,e⟩
   | ct ρ2=>exact λq B H2 z=>⟨ρ2,q,z,e⟩
   | bk ρ2=>cases e;exact λq B H2 z=>fin h3 z p
   | rt d=>cases e;exact p
  | false=>
   rw[if_neg zau]at e;dsimp only;rw[if_neg zau];cases e;exact fin h2 (st.mono N) p
end
end P
namespace My
open PySem PySem.Spec PyProof.Rows L2
open AutoSeq1 (wpAny_loadPart')
theorem D9(l:Addr)(items:Array Value)(n:Nat)(B:Option Addr)(J:Array (Option Value)) :
  Meets (za9.«enumerate.__new__» ⟨[.type "enumerate",.ref l],[]⟩) (λ_ R s=>s.heap.get? l=some {cls:=.type "tuple",dict:=B,data:=.seq items n,slots:=J} /\
   R (.ok (.ret (.ref (s.heap.push {cls:=.type "tuple_iterator",data:=.fields #[.ref l,.int 0 0]}).objs.size)))
    {s with heap:=(s.heap.push {cls:=.type "tuple_iterator",data:=.fields #[.ref l,.int 0 0]}).push {cls:=.type "enumerate",data:=.fields #[.none,.bool false,.ref s.heap.objs.size,zaN 0,.none,.none]} }):=
 .of_wp λprog w A R s h=>by
  obtain⟨G,g,d,tk,os⟩:=s;obtain⟨q,h⟩:=h;have F:=sub_enumerate;have z:zdD (zbL ⟨G,g,d,tk,os⟩) l items:=⟨_,q,rfl,n,rfl⟩
  wp_walk using zbQ q
  refine wpAny_stack_any λst=>zac ?_
  split
  ·rename_i c _ _ _ _ _
   cases(c == zcn "enumerate")
   ·wp_walk using zbQ q,zbM z
    exact⟨_,rfl,h⟩
   ·wp_walk using zbQ q,zbM z
    exact⟨_,rfl,h⟩
  ·wp_walk using zbQ q,zbM z
   exact⟨_,rfl,h⟩
section
variable {prog:zam}{w:World}{A:zar}{E:Value->zab->Prop}{s:zab}
theorem FL(Y:SSq t s.heap l xs)
  (h:∀h',zbU h' (s.heap.objs.size+1) s.heap.objs.size 0 .none->SIt t h' s.heap.objs.size l 0->(∀b o,s.heap.get? b=some o->h'.get? b=some o)->Q (.ref (s.heap.objs.size+1)) {s with heap:=h'}) :
  wpAny (model prog w) A (call (.type "enumerate") [.ref l]) Q E s:=by
 obtain⟨⟨cls,G,data,U⟩,N,hc,n,W⟩:=Y;have J:cls=.type (qp t):=hc;have M:data=.seq xs n:=W;subst J M;have hz:(s.heap.push (m9 t l)).objs.size=s.heap.objs.size+1:=zbl ..;have fin:zbU ((s.heap.push (m9 t l)).push {cls:=.type "enumerate",data:=.fields #[.none,.bool false,.ref s.heap.objs.size,zaN 0,.none,.none]}) (s.heap.objs.size+1) s.heap.objs.size 0 .none:=by
  have:=zat (s.heap.push (m9 t l)) (o:={cls:=.type "enumerate",data:=.fields #[.none,.bool false,.ref s.heap.objs.size,zaN 0,.none,.none]}) rfl;rw[hz]at this;exact this
 have q:=h _ fin ⟨_,zag _ (zat _ rfl),rfl,rfl⟩ λb o x=>zag _ (zag _ x)
 cases t with
 | false=>
  refine zeu F.called_enumerate (by decide) (F.typeCall_enumerate_1 _) (F.newCall_enumerate_1 _) (λz=>F.args_object_init_2 z _) F.entry_enumerate_new (meets_enumerate_newL l xs n G U) ⟨N,?_⟩;have B:(s.heap.push {cls:=.type "list_iterator",data:=.fields #[.ref l,.int 0 0]}).objs.size=s.heap.objs.size+1:=hz;show _/\_;rw[B];exact⟨⟨_,fin,rfl⟩,q⟩
 | true=>
  refine zeu F.called_enumerate (by decide) (F.typeCall_enumerate_1 _) (F.newCall_enumerate_1 _) (λz=>F.args_object_init_2 z _) F.entry_enumerate_new (D9 l xs n G U) ⟨N,?_⟩;have B:(s.heap.push {cls:=.type "tuple_iterator",data:=.fields #[.ref l,.int 0 0]}).objs.size=s.heap.objs.size+1:=hz;show _/\_;rw[B];exact⟨⟨_,fin,rfl⟩,q⟩
theorem FP{t:Bool}{e it l:Addr}{i:Nat}{items:Array Value}{x aj:Value}{Q:Value->zab->Prop}
  (he:zbU s.heap e it i aj) (ax:SIt t s.heap it l i) (hl:SSq t s.heap l items) (hx:items[i]?=some x) (ak:e≠it)
  (hQ:∀h', IsEnumOut h' e it ((i:Int)+1) x s.heap.objs.size -> SIt t h' it l (i+1) ->
   h'.get? s.heap.objs.size=some {cls:=.type "tuple",data:=.seq #[.int i s.toks,x]}->h'.objs.size=s.heap.objs.size+1->
   (∀b o,b≠e->b≠it->s.heap.get? b=some o->h'.get? b=some o)->Q (.ref s.heap.objs.size) {s with heap:=h',toks:=s.toks+1}) :
  wpAny (model prog w) A (za9.«enumerate.__next__» ⟨[.ref e],[]⟩) (λfin s'=>∃v,fin=.done (.ret v)/\Q v s') E s:=by
 obtain⟨hp,g,d,tk,os⟩:=s;show wpAny _ _ (field (.ref e) 2 >>= _) _ _ _;refine zaa (zaC he rfl (x:=.ref it) rfl ?_);refine zaa (next_item ax hl hx λN ah z=>?_);replace z:zaS it hp N:=z;have W:zbU N e it i aj:=(z.2 e ak).trans he;show wpAny _ _ (field (.ref e) 3 >>= _) _ _ ⟨N,g,d,tk,os⟩;refine zaa (zaC W rfl (x:=zaN i) rfl ?_);show wpAny _ _ (field (.ref e) 4 >>= _) _ _ ⟨N,g,d,tk,os⟩;refine zaa (zaC W rfl (x:=.none) rfl ?_);show wpAny _ _ (mkInt i >>= _) _ _ ⟨N,g,d,tk,os⟩;refine zaa (wpAny_mkInt ?_);show wpAny _ _ (zc6 (.ref e) 3 (zaN ((i:Int)+1)) >>= _) _ _ ⟨N,g,d,tk+1,os⟩;refine zaa (zaZ W (by simp) λac aa M=>?_);replace M:zaS e N ac:=M;replace aa:zbU ac e it ((i:Int)+1) aj:=aa;show wpAny _ _ (zc6 (.ref e) 4 .none >>= _) _ _ ⟨ac,g,d,tk+1,os⟩;refine zaa (zaZ aa (by simp) λU ab F=>?_);replace F:zaS e ac U:=F;replace ab:zbU U e it ((i:Int)+1) aj:=ab;show wpAny _ _ (newTuple [.int i tk,x] >>= _) _ _ ⟨U,g,d,tk+1,os⟩;refine zaa (zc9 ?_);have Y:zbU (U.push {cls:=.type "tuple",data:=.seq #[.int i tk,x]}) e it ((i:Int)+1) aj:=zag _ ab;generalize hh₄:U.push {cls:=.type "tuple",data:=.seq #[.int i tk,x]}=h₄ at Y;have hsz:U.objs.size=hp.objs.size:=by rw[F.1,M.1,z.1]
 have ap:e<hp.objs.size:=zai he;have au:h₄.get? hp.objs.size=some {cls:=.type "tuple",data:=.seq #[.int i tk,x]}:=by rw[<- hh₄,<- hsz];exact zat _ rfl
 have as:h₄.objs.size=hp.objs.size+1:=by rw[<- hh₄,zbl,hsz]
 have ar:∀b o,b≠e->b≠it->hp.get? b=some o->h₄.get? b=some o:=λb o ad aq hb=>by
  rw[<- hh₄];exact zag _ (F.extBut b o ad (M.extBut b o ad (z.extBut b o aq hb)))
 have an:SIt t h₄ it l (i+1):=by
  rw[<- hh₄];exact ah.to λo q=>zag _ (F.extBut it o (zaR ak) (M.extBut it o (zaR ak) q))
 show wpAny _ _ (zb8 (.ref e) >>= _) _ _ ⟨h₄,g,d,tk+1,os⟩;rw[hsz];clear hh₄ ab F aa M W z ah hsz U ac N;refine zaa ?_
 ·unfold zb8
  refine zaa (zaC Y rfl (x:=.none) rfl (zac ?_));simp only[if_true];refine zaa (zbT ?_);refine zaa (zaC Y rfl (x:=aj) rfl ?_);refine zaa (zaZ Y (by simp) λai ag G=>?_);replace G:zaS e h₄ ai:=G;replace ag:zbU ai e it ((i:Int)+1) x:=ag;show wpAny _ _ (zda (.ref e) (.ref hp.objs.size) >>= _) _ _ ⟨ai,g,d,tk+1,os⟩;refine zaa ?_
  ·unfold zda
   refine zaa (zaZ ag (by simp) λam ae B=>?_);replace B:zaS e ai am:=B;replace ae:IsEnumOut am e it ((i:Int)+1) x hp.objs.size:=ae;refine zaZ ae (by simp) λal af J=>?_
   replace J:zaS e am al:=J;replace af:IsEnumOut al e it ((i:Int)+1) x hp.objs.size:=af;refine zaa (zbu (zac ⟨_,rfl,hQ al af ?_ ?_ ?_ ?_⟩))
   ·exact an.to λo q=>J.extBut it o (zaR ak) (B.extBut it o (zaR ak) (G.extBut it o (zaR ak) q))
   ·exact J.extBut _ _ (zaG ap) (B.extBut _ _ (zaG ap) (G.extBut _ _ (zaG ap) au))
   ·rw[J.1,B.1,G.1,as]
   ·exact λb o ad aq hb=>J.extBut b o ad (B.extBut b o ad (G.extBut b o ad (ar b o ad aq hb)))
theorem E5{t:Bool}{e it l:Addr}{i:Nat}{items:Array Value}{x z:Value}{Q:Option Value->zab->Prop}
  (G:zbU s.heap e it i z) (q:SIt t s.heap it l i) (M:SSq t s.heap l items) (J:items[i]?=some x) (B:e≠it)
  (N:∀h', IsEnumOut h' e it ((i:Int)+1) x s.heap.objs.size -> SIt t h' it l (i+1) ->
   h'.get? s.heap.objs.size=some {cls:=.type "tuple",data:=.seq #[.int i s.toks,x]}->h'.objs.size=s.heap.objs.size+1->
   (∀b o,b≠e->b≠it->s.heap.get? b=some o->h'.get? b=some o)->Q (some (.ref s.heap.objs.size)) {s with heap:=h',toks:=s.toks+1}) :
  wpAny (model prog w) A (zaH (.ref e)) Q E s:=by
 have hT:s.TypeIs (.ref e) "enumerate" := ⟨_,G,rfl⟩;unfold zaH;exact zaa (zb5 (zbt (name:=za0 "__next__") hT zey
  (zba zey hT F.entry_enumerate_next
   (FP G q M J B λh' a b c d k=>zac (N h' a b c d k)) (F.args_enumerate_next_1 _))))
theorem GD{t:Bool}{i:Nat}{items:Array Value}{Q:Option Value->zab->Prop}(U:A.handled=none)
  (G:zbU s.heap e it i old) (q:SIt t s.heap it l i) (N:SSq t s.heap l items) (M:items[i]?=none)
  (W:∀h',zdu it s.heap h'->Q none {s with heap:=h'}):wpAny (model prog w) A (zaH (.ref e)) Q E s:=by
 have hT:s.TypeIs (.ref e) "enumerate" := ⟨_,G,rfl⟩;unfold zaH;refine zaa (zb5 (zbt (name:=za0 "__next__") hT zey
  (zba zey hT F.entry_enumerate_next ?_ (F.args_enumerate_next_1 _))))
 show wpAny _ _ (field (.ref e) 2 >>= _) _ _ _;refine zaa (zaC G rfl (x:=.ref it) rfl ?_);refine zaa (next_end U q N M λh' x B z=>?_);obtain⟨o,J,Y⟩:=z;refine zaa (zc8 (T := "StopIteration") (b:=true) ⟨o,J,Y⟩ zdw ?_);exact zac (W _ B)
end
def Z9(K:zaf)(t:Bool)(l:Addr):It:=
 ⟨λi H => ∃xs, k6 K t H l xs /\ i<xs.length, λi H x H' => ∃p u, x = .ref p /\ H p = none /\ H' = upd H p (.tup [.int (i:Int), u]) /\ ∀xs, k6 K t H l xs -> xs[i]? = some u,
  λi H=>∃xs,k6 K t H l xs/\xs.length<=i⟩
theorem FK{P:zam}{w:World}{K:zaf}{ab:List Expr}{x1}{tp:Pos}(t:Bool){e it l:Addr}(W:e≠it) :
  Turn P w K (.Tuple ab x1 tp) (Z9 K t l) [e,it] e (λi h=>(∃G,zbU h e it (i:Nat) G)/\SIt t h it l i) where
 mem:=by simp
 obj:=by
  rintro i h ⟨⟨G,J⟩,⟨o1,e1,_,d1⟩⟩ c z;simp only[zaD,zaE,or_false]at z;rcases z with rfl|rfl
  ·exact⟨_,J,λv q=>by cases q⟩
  ·exact⟨o1,e1,λv q=>by rw[d1]at q;cases q⟩
 keep:=λi h h' ⟨⟨G,J⟩,N⟩ k=>⟨⟨G,k e (by simp) _ J⟩,N.to λo q=>k it (by simp) o q⟩
 item:=by
  intro X hP hw hK z i pins s σ H E I hf st hg;subst hP hw hK;obtain⟨⟨G,J⟩,N⟩:=st;obtain⟨xs,q1,ai⟩:=hg;obtain⟨Y,r1,p1⟩:=cA I q1;have e1:xs[i]?=some xs[i]:=by simp[ai]
  obtain⟨u,eu,ru⟩:=r1.get e1;refine E5 J N p1 (x:=u) (by simpa using eu) W λh' a1 a2 a3 a4 U=>⟨_,rfl,?_⟩
  refine wpAny_letOwnedTupleGo_enum (s:={s with heap:=h',toks:=s.toks+1}) a1 λh2 ae sb=>?_
  have zz:∀c,c∈[e,it]->c<s.heap.objs.size:=λc z=>by
   simp only[zaD,zaE,or_false]at z;rcases z with rfl|rfl
   ·exact zai J
   ·obtain⟨o,q,_⟩:=N;exact zai q
  have M:∀c o,c≠e->h'.get? c=some o->h2.get? c=some o:=λc o z q=>sb.extBut _ _ z q
  have I1:Inv X pins σ H {s with heap:=h2,toks:=s.toks+1}:=dI I hf λc o z q=>by
   simp only[zaD,zaE,or_false,not_or]at z;exact M c o z.1 (U c o z.1 z.2 q)
  have B:H s.heap.objs.size=none:=I.fresh;have ak:h2.get? s.heap.objs.size=some {cls:=.type "tuple",data:=.seq #[.int i s.toks,u]}:=M _ _ (zaG (zz e (by simp))) a3;have I2:Inv X pins σ (upd H s.heap.objs.size (.tup [.int (i:Int),xs[i]])) {s with heap:=h2,toks:=s.toks+1}:=by
   have al:HOk X.prog X.w (upd H s.heap.objs.size (.tup [.int (i:Int),xs[i]])) h2:=λc ob q=>by
    by_cases z:c=s.heap.objs.size
    ·subst z;rw[aI]at q;cases q
     exact⟨by show 2<=zaj;decide,[.int i s.toks,u],.cons ⟨_,rfl⟩ (.cons ru .nil),_,ak,rfl,0,rfl,rfl⟩
    ·rw[aE z]at q
     exact(I1.hok c ob q).stay (λ_ _ _ q=>q) (λd q=>by rw[aE (aQ q B)];exact q) λd ah q=>by rw[aE (aQ q B)];exact q
   refine I.call' (s':={s with heap:=h2,toks:=s.toks+1}) (ch:=[e,it]) rfl ⟨λc o q _ _ F=>?_,λc o q _ _ F=>⟨o.slots,?_⟩,λc o q n F=>by rw[aE (zay (zai q))];exact n,λc o q F=>⟨o,?_⟩,λc ah q=>by rw[aE (aQ q B)];exact q,λc o' u' q=>by rw[aE (aQ q B)];exact q,λc ps q=>⟨#[],by rw[aE (aQ q B),q];simp⟩⟩ al I.bare λb hb=>?_
   ·simp only[zaD,zaE,or_false,not_or]at F
    exact M c o F.1 (U c o F.1 F.2 q)
   ·simp only[zaD,zaE,or_false,not_or]at F
    exact M c o F.1 (U c o F.1 F.2 q)
   ·simp only[zaD,zaE,or_false,not_or]at F
    exact M c o F.1 (U c o F.1 F.2 q)
   ·obtain⟨_,f1,_,f3,f4,f5⟩:=hf b hb
    exact⟨f3,f1,f4,f5⟩
  refine⟨.ref s.heap.objs.size,_,I2,rfl,⟨_,_,rfl,B,rfl,λaz g1=>by rw[<- iL I q1 g1];exact e1⟩,⟨⟨_,ae⟩,a2.to λo q=>M _ o (zaR W) q⟩,λc z=>?_⟩;rw[aE (zay (zz c z))];exact(hf c z).1
 done:=by
  intro X hP hw hK z i pins s σ H E I hf st hg;subst hP hw hK;obtain⟨⟨G,J⟩,N⟩:=st;obtain⟨xs,q1,ap⟩:=hg;obtain⟨Y,r1,p1⟩:=cA I q1;have n1:=r1.length;refine GD (I.ok.hd z) J N p1 (by simp;lia) λh' U=>⟨rfl,dI (t':=s.toks) I hf λc o z q=>?_⟩
  simp only[zaD,zaE,or_false,not_or]at z;exact U c o z.2 q
 self:=λ_ _ _ _ _ st h=>let ⟨⟨_,J⟩,_⟩:=st;wpAny_pyIter_enum J h
theorem boot_enumerate:zaM "enumerate" = some (.type "enumerate"):=by first|rfl|decide +kernel
def VZ(K:zaf)(ta:TA):TI:=λσ H R=>ta σ H λvs H1=>∃t l xs,vs=[.ref l]/\k6 K t H1 l xs/\R (Z9 K t l) H1
theorem MU{X:Cx}{z:List Expr}{x1}{tp:Pos}{a:Expr}{ta:TA}{p pos:Pos}(hg:Gl X "enumerate")(hm:X.mg "enumerate" = none)(Y:PA X [a] ta)(hs:zah [a] X.env=[(false,eval a X.env)]:=by rfl) :
  PI X (.Tuple z x1 tp) (.Call (.Name "enumerate" p) [a] [] pos) (VZ X.K ta):=by
 intro pins s σ H R I h;refine Call_ (eW I hg hm boot_enumerate (zcB (bL (Y pos pins s σ H _ I h) λus G ⟨vs,H1,B,r1,M⟩=>?_) (by rw[hs];rfl) rfl));obtain⟨t,l,xs,rfl,M,q⟩:=M;obtain⟨u,rfl,W⟩:=vals1 r1;cases W;obtain⟨U,_,p1⟩:=cA B M;refine FL p1 λh' N J k=>?_
 refine wpAny_pyIter_enum N ?_;have D:G.heap.objs.size+1≠G.heap.objs.size:=by lia
 refine⟨_,[_,_],_,_,H1,rfl,B.kept (t':=G.toks) k,FK t D,⟨⟨_,N⟩,J⟩,λc F=>B.fpOk ?_ (B.hok.fresh ?_),q⟩
 ·simp only[zaD,zaE,or_false]at F
  rcases F with rfl|rfl <;> lia
 ·simp only[zaD,zaE,or_false]at F
  rcases F with rfl|rfl <;> lia
end My
namespace P
open PySem PySem.Spec PyProof.Rows L2
noncomputable def fM:Nat->List D->List D
 | _,[]=>[]
 | k,x::xs=>.tup [.int (k:Int),x]::fM (k+1) xs
def PV(f:Lv):Lv:=λρ=>(f ρ).bind λds=>match ds with
 | [a]=>(eG a).map (fM 0)
 | _=>none
theorem iJ:∀ {xs:List D} {k i:Nat} {d:D},(fM k xs)[i]?=some d->∃x,xs[i]?=some x/\d=.tup [.int ((k+i:Nat):Int),x]
 | [],k,i,d,h=>by simp[fM]at h
 | x::xs,k,0,d,h=>by simp[fM]at h;exact⟨x,rfl,h.symm⟩
 | x::xs,k,i+1,d,h=>by
  obtain⟨y,q,z⟩:=iJ (xs:=xs) (k:=k+1) (i:=i) (by simpa[fM]using h);exact⟨y,by simpa using q,by rw[z];congr 4;lia⟩
theorem lF:∀(xs:List D) (k:Nat),(fM k xs).length=xs.length
 | [],_=>rfl
 | x::xs,k=>by simp[fM,lF xs]
theorem HV{J}(hg:Gl X "enumerate")(hm:X.mg "enumerate" = none)(ha:y8 X O [a] f)(hs:zah [a] X.env=[(false,eval a X.env)]:=by rfl) :
  PDI X O (.Tuple elts J tp) (.Call (.Name "enumerate" p) [a] [] pos) (PV f):=PI.mono (My.MU hg hm ha hs) λσ H R ⟨H0,A0,A,E,ρ,items,st,e,q⟩=>by
 obtain⟨ds,e1,e⟩:=bind_some e;refine⟨H0,A0,A,E,ρ,ds,st,e1,λvs H1 J r1=>?_⟩;split at e
 case h_2=>cases e
 rename_i da;obtain⟨xs,e2,rfl⟩:=map_some e;obtain⟨v,rfl,N⟩:=r1.one;obtain⟨t1,F,us,rfl,q1,_,k1⟩:=iQ (K:=X.K) e2 N;refine⟨t1,F,us,rfl,q1,q _ H1 [.rep da (.ref F)] J (λp hp=>?_) ?_⟩
 ·rw[List.mem_singleton.mp hp];exact N
 ·intro A' H' lv hE i
  have a1:Rep A' H' da (.ref F):=hE (.rep da (.ref F)) (zas ..);obtain⟨z,G,B⟩:=k1 A' H' a1;refine⟨λhi=>⟨z,G,by rw[B.length];rw[lF]at hi;exact hi⟩,λd W=>?_⟩;obtain⟨x,ex,rfl⟩:=iJ W;obtain⟨u,M,Y⟩:=B.get' ex;refine⟨⟨z,G,(List.getElem?_eq_some_iff.mp M).1⟩,λx' H2 ⟨p,u',e4,n,e5,e6⟩=>?_⟩;subst e4 e5;have U:=e6 z G;rw[M]at U;cases U;rw[zdc];exact⟨Ext.new n,.tup aI (.cons (.int _) (.cons (Y.ext (Ext.new n)) .nil))⟩
@[simp] theorem q_enum:PV f ρ=(f ρ).bind λds=>match ds with
 | [a]=>(eG a).map (fM 0)
 | _=>none:=rfl
end P
namespace P
open L2
structure Ro where
 j:Int
 k:Int
 a:Int
 b:Int
 p:Int
structure GR(M many:Int)(rs:List Ro):Prop where
 len:rs.length<=12
 jk:∀r∈rs,0<=r.j/\r.j<r.k/\r.k<many
 ab:∀r∈rs,(0<=r.a/\r.a<M)/\0<=r.b/\r.b<M
 pr:∀r∈rs,0<=r.p/\r.p<=10^30
noncomputable def eI(rs:List Ro)(n:Int):Option Ro:=if 0<=n then rs[n.toNat]? else none
theorem dZ(h:eI rs n=some r):r∈rs:=by
 unfold eI at h;split at h
 ·exact zaX h
 ·cases h
theorem lH(h:eI rs n=some r):0<=n/\n<(rs.length:Int):=by
 unfold eI at h;split at h
 ·rename_i h0
  have:=(List.getElem?_eq_some_iff.mp h).1
  lia
 ·cases h
def gw(rs:List Ro):Int->List Int->Option Int
 | at_,[]=>some at_
 | at_,n::w=>(eI rs n).bind λr=>if r.j=at_ then gw rs r.k w else none
theorem lB:∀ {at_:Int} {v w:List Int},gw rs at_ (v++w)=(gw rs at_ v).bind λe=>gw rs e w
 | at_,[],w=>rfl
 | at_,n::v,w=>by
  show((eI rs n).bind λr=>if r.j=at_ then gw rs r.k (v++w)else none)=_;cases e:eI rs n with
  | none=>simp[gw,e]
  | some r=>
   by_cases h:r.j=at_
   ·simp[gw,e,h,lB (v:=v) (w:=w)]
   ·simp[gw,e,h]
theorem LR(h:gw rs at_ w=some e)(q:eI rs n=some r)(z:r.j=e):gw rs at_ (w++[n])=some r.k:=by
 rw[lB,h];simp[gw,q,z]
theorem AV(g:GR M many rs):∀ {at_ e:Int} {w:List Int},gw rs at_ w=some e->at_+(w.length:Int)<=e
 | at_,e,[],h=>by cases h;simp
 | at_,e,m::w,h=>by
  unfold gw at h;cases er:eI rs m with
  | none=>rw[er]at h;cases h
  | some r=>
   rw[er]at h;simp only[zdG]at h;split at h
   ·have:=AV g h
    have:=(g.jk r (dZ er)).2.1;simp only[zaT];lia
   ·cases h
def bV(rs:List Ro)(M:Int)(x:Int)(w:List Int):Int:=w.foldl (λx n=>match eI rs n with|some r=>(r.a*x+r.b)%M|none=>x) x
def fP(rs:List Ro)(M:Int)(t:Int×Int)(w:List Int):Int×Int:=w.foldl (λt n=>match eI rs n with|some r=>(t.1*r.a%M,(r.a*t.2+r.b)%M)|none=>t) t
theorem xC(a x b M:Int):(a*(x%M)+b)%M=(a*x+b)%M:=by
 rw[zez,zeA,zeB _ (zeC M),<- zeA,<- zez]
theorem vN(h0:0<M):∀(w:List Int) (t:Int×Int) (x y:Int),(0<=t.1/\t.1<M)->(0<=t.2/\t.2<M)->y%M=(t.1*x+t.2)%M->
  (0<=(fP rs M t w).1/\(fP rs M t w).1<M)/\(0<=(fP rs M t w).2/\(fP rs M t w).2<M)/\bV rs M y w%M=((fP rs M t w).1*x+(fP rs M t w).2)%M
 | [],t,x,y,h1,h2,h=>⟨h1,h2,h⟩
 | n::w,t,x,y,h1,h2,h=>by
  cases e:eI rs n with
  | none=>
   have:=vN (rs:=rs) h0 w t x y h1 h2 h;simpa[fP,bV,e]using this
  | some r=>
   have G:=zaw (t.1*r.a) (zaU h0);have z:=zax (t.1*r.a) h0;have B:=zaw (r.a*t.2+r.b) (zaU h0);have q:=zax (r.a*t.2+r.b) h0;have:=vN (rs:=rs) h0 w (t.1*r.a%M,(r.a*t.2+r.b)%M) x ((r.a*y+r.b)%M) ⟨G,z⟩ ⟨B,q⟩ (by
    show(r.a*y+r.b)%M%M=(t.1*r.a%M*x+(r.a*t.2+r.b)%M)%M;rw[zeB _ (zeC M),<- xC r.a y,h,xC];have F:(t.1*r.a%M*x+(r.a*t.2+r.b)%M)%M=(t.1*r.a*x+(r.a*t.2+r.b))%M:=by
     rw[zez,zeA,zeB _ (zeC M),zeB _ (zeC M),<- zeA,<- zez]
    rw[F];congr 1;rw[zdH,<- zbC,zdd r.a t.1]
    lia)
   simpa[fP,bV,e]using this
theorem cW(h0:0<M):∀(w:List Int) (x:Int),(0<=x/\x<M)->0<=bV rs M x w/\bV rs M x w<M
 | [],x,h=>h
 | n::w,x,h=>by
  cases e:eI rs n with
  | none=>have:=cW (rs:=rs) h0 w x h;simpa[bV,e]using this
  | some r=>
   have:=cW (rs:=rs) h0 w ((r.a*x+r.b)%M) ⟨zaw _ (zaU h0),zax _ h0⟩;simpa[bV,e]using this
def Rch(rs:List Ro)(x k:Int):Prop:=∃w,gw rs x w=some k
theorem Rch.refl(rs:List Ro)(k:Int):Rch rs k k:=⟨[],rfl⟩
theorem Rch.inv(h:Rch rs x k):x=k\/∃n r,eI rs n=some r/\r.j=x/\Rch rs r.k k:=by
 obtain⟨w,hw⟩:=h;cases w with
 | nil=>cases hw;exact .inl rfl
 | cons n w=>
  unfold gw at hw;cases er:eI rs n with
  | none=>rw[er]at hw;cases hw
  | some r=>
   rw[er]at hw;simp only[zdG]at hw;split at hw
   ·rename_i hj
    exact .inr ⟨n,r,er,hj,w,hw⟩
   ·cases hw
theorem Rch.le(g:GR M many rs)(h:Rch rs x k):x<=k:=by
 obtain⟨w,hw⟩:=h;have:=AV g hw
 lia
def IsF(rs:List Ro)(k:Int):Int->List Int->Prop
 | x,[]=>x=k
 | x,n::w=>∃r,eI rs n=some r/\r.j=x/\IsF rs k r.k w/\∀m r',m<n->eI rs m=some r'->r'.j=x->¬ Rch rs r'.k k
theorem IsF.way:∀ {x:Int} {w:List Int},IsF rs k x w->gw rs x w=some k
 | x,[],h=>by rw[show x=k from h];rfl
 | x,n::w,⟨r,hr,hj,h,_⟩=>by simp[gw,hr,hj,IsF.way h]
theorem IsF.rch(h:IsF rs k x w):Rch rs x k:=⟨w,h.way⟩
noncomputable def bO(ds:List (Int×List Int))(x:Int):Option (List Int):=(ds.find? λp=>decide (p.1=x)).map (·.2)
theorem jC(h:bO ds x=none):bO (ds++[(x,w)]) y=if y=x then some w else bO ds y:=by
 unfold bO at h ⊢;rw[zfi];by_cases e:y=x
 ·subst e
  rw[if_pos rfl];have:(ds.find? λp=>decide (p.1=y))=none:=by
   cases z:ds.find? λp=>decide (p.1=y)with
   | none=>rfl
   | some p=>rw[z]at h;cases h
  rw[this];simp
 ·rw[if_neg e]
  have q:¬ x=y:=λz=>e z.symm
  simp[q]
structure FI(rs:List Ro)(k c:Int)(ds:List (Int×List Int)):Prop where
 it:∀x w,bO ds x=some w->c<=x/\x<=k/\IsF rs k x w
 no:∀x,c<=x->x<=k->bO ds x=none->¬ Rch rs x k
structure FJ(rs:List Ro)(k c:Int)(i:Nat)(ds:List (Int×List Int)):Prop where
 it:∀x w,bO ds x=some w->c<=x/\x<=k/\IsF rs k x w
 no:∀x,c<x->x<=k->bO ds x=none->¬ Rch rs x k
 me:bO ds c=none->∀m r,m<(i:Int)->eI rs m=some r->r.j=c->¬ Rch rs r.k k
theorem FI.start(rs:List Ro)(k:Int):FI rs k k [(k,[])]:=by
 refine⟨λx w h=>?_,λx h1 h2 h=>?_⟩
 ·unfold bO at h
  simp at h;obtain⟨e,rfl⟩:=h;subst e;exact⟨zeD _,zeD _,rfl⟩
 ·have e:x=k:=by lia
  subst e;simp[bO]at h
theorem FI.go(h:FI rs k (c+1) ds):FJ rs k c 0 ds:=
 ⟨λx w e=>by have:=h.it x w e;exact⟨by lia,this.2⟩,λx h1 h2 e=>h.no x (by lia) h2 e,λ_ m r z q=>by have:=(lH q).1;lia⟩
theorem FJ.skip(g:GR M many rs)(h:FJ rs k c i ds)(F:eI rs (i:Int)=some r)(N:¬ (r.j=c/\(bO ds r.k).isSome=true/\bO ds c=none)):FJ rs k c (i+1) ds:=by
 refine⟨h.it,h.no,λe m J U q G=>?_⟩;by_cases z:m<(i:Int)
 ·exact h.me e m J z q G
 ·have:m=(i:Int):=by lia
  subst this;rw[F]at q;cases q;cases e2:bO ds r.k with
  | some w=>exact absurd ⟨G,by rw[e2];rfl,e⟩ N
  | none=>
   have:=(g.jk r (dZ F)).2.1;by_cases B:r.k<=k
   ·exact h.no r.k (by lia) B e2
   ·exact λz=>B (z.le g)
theorem FJ.put(h:FJ rs k c i ds)(U:c<k)(G:eI rs (i:Int)=some r)(M:r.j=c)(hw:bO ds r.k=some w)(q:bO ds c=none):FJ rs k c (i+1) (ds++[(c,(i:Int)::w)]):=by
 refine⟨λx v e=>?_,λx h1 h2 e=>?_,λe=>?_⟩
 ·rw[jC q]at e
  by_cases z:x=c
  ·rw[if_pos z]at e
   cases e;subst z;exact⟨zeD _,by lia,r,G,M,(h.it _ _ hw).2.2,λm J N B F=>h.me q m J N B F⟩
  ·rw[if_neg z]at e
   exact h.it x v e
 ·rw[jC q,if_neg (by lia)]at e
  exact h.no x h1 h2 e
 ·rw[jC q,if_pos rfl]at e
  cases e
theorem FJ.done(h:FJ rs k c rs.length ds)(G:c<k):FI rs k c ds:=by
 refine⟨h.it,λx h1 h2 e=>?_⟩;by_cases z:x=c
 ·subst z
  intro q;rcases q.inv with z|⟨n,r,B,F,q⟩
  ·lia
  ·exact h.me e n r (lH B).2 B F q
 ·exact h.no x (by lia) h2 e
theorem FI.end(g:GR M many rs)(h:FI rs k c ds)(q:c<=j):(∀w,bO ds j=some w->IsF rs k j w)/\(bO ds j=none->¬ Rch rs j k):=by
 refine⟨λw e=>(h.it j w e).2.2,λe z=>?_⟩;exact h.no j q (z.le g) e z
noncomputable def fl{α:Type}(h:Nat->Ro->List α):Nat->List Ro->List α
 | _,[]=>[]
 | m,r::rs=>h m r++fl h (m+1) rs
noncomputable def sg(q:Nat->Ro->Int):Nat->List Ro->Int
 | _,[]=>0
 | m,r::rs=>q m r+sg q (m+1) rs
end P
namespace P
open PySem PySem.Spec PyProof.Rows L2
theorem lE{n:Nat}(h:n<=1000000):cR [.int (n:Int)]=some (aV 0 1 n):=by
 show(if cM (n:Int)then _ else _)=_;rw[if_pos (by simp only[cM,zaK,decide_eq_true_eq];lia)];simp
theorem d8(h0:0<=y)(h:y<=1000000):cR [.int y]=some (aV 0 1 y.toNat):=by
 show(if cM y then _ else _)=_;rw[if_pos (by simp only[cM,zaK,decide_eq_true_eq];lia)]
theorem EM(B:1<=c)(z:c<1000)(J:0<=a)(q:a<=1000)(G:0<=b)(F:b<=1000):∃m:Nat,eR [.int a,.int b,.int c]=some (aV a c m)/\∀i:Nat,i<m->a+(i:Int)*c<b:=
 ⟨My.rsz a b c, by
  show(if c≠0/\c.natAbs<1000/\zch a b c=true then some (aV a c (My.rsz a b c))else none)=_;rw[if_pos ⟨by lia,by lia,My.EG B (by lia) (by lia) (by lia) (by lia) (by lia)⟩],λi hi=>RI (by lia) hi⟩
theorem HC(h:v.length+w.length<=1000000):bX (tupI v) (tupI w)=some (tupI (v++w)):=by
 unfold tupI;rw[q_addAT,if_pos (by simp only[aX,zao];exact decide_eq_true h),zbv]
noncomputable def bG(r:Ro):D:=.tup [.int r.j,.int r.k,.int r.a,.int r.b,.int r.p]
theorem vR(h:eI rs n=some r):dX (rs.map bG) n=some (bG r):=by
 have q:=lH h;obtain⟨j,rfl⟩:∃j:Nat,n=(j:Int):=⟨n.toNat,by lia⟩;unfold eI at h;rw[if_pos (by lia)]at h;refine b8 ?_;rw[zaB];simp at h;rw[h];rfl
theorem at0:dX (a::l) 0=some a:=b8 (j:=0) rfl
theorem at1:dX (a::b::l) 1=some b:=b8 (j:=1) rfl
theorem at2:dX (a::b::c::l) 2=some c:=b8 (j:=2) rfl
theorem X4:dX (a::b::c::d::l) 3=some d:=b8 (j:=3) rfl
theorem FW:aH (bG r) (.int 0)=some (.int r.j):=by simp[bG,at0]
theorem BJ:aH (bG r) (.int 1)=some (.int r.k):=by simp[bG,at1]
noncomputable def y9(t:Int×Int):D:=.tup [.int t.1,.int t.2]
theorem VL:lO (bG r) (some 2) (some 4)=some (y9 (r.a,r.b)):=rfl
theorem oV(F:-1000<=a)(q:a<=1000)(B:-1000<=b)(z:b<=1000):eR [.int a,.int b,.int (-1)]=some (aV a (-1) (a-b).toNat):=by
 have e:My.rsz a b (-1)=(a-b).toNat:=by
  unfold My.rsz zbN;rw[if_neg (by decide)];by_cases h:a>b
  ·rw[if_pos h,show -(-1:Int)=1 from rfl,Int.ediv_one];lia
  ·rw[if_neg h];lia
 have s:zch a b (-1)=true:=by
  unfold zch zbN;simp only[zfo,zaK,zdp,decide_eq_true_eq,beq_iff_eq];rw[if_neg (by decide),show -(-1:Int)=1 from rfl,Int.ediv_one];have t:(if(-1:Int)>0 then decide (-2^63<=b+(-1-1)) && decide (b+(-1-1)<2^63)else decide (-2^63<=b+(-1+1)) && decide (b+(-1+1)<2^63))=true:=by
   rw[if_neg (by decide),zaK];exact⟨decide_eq_true (by lia),decide_eq_true (by lia)⟩
  rw[t];refine⟨?_,.inr rfl⟩;split <;> lia
 show(if(-1:Int)≠0/\(-1:Int).natAbs<1000/\zch a b (-1)=true then some (aV a (-1) (My.rsz a b (-1)))else none)=_;rw[if_pos ⟨by decide,by decide,s⟩,e]
def fK(p:Int×List Int):Key×D:=(.inl p.1,tupI p.2)
theorem SR(ds:List (Int×List Int))(x:Int):bY (ds.map fK) (.inl x:Key)=(bO ds x).map tupI:=by
 unfold bY bO;induction ds with
 | nil=>rfl
 | cons p ds ih=>
  rw[zak,za7,za7];by_cases e:p.1=x
  ·have q:(fK p).1=(zap x:Key):=by show(zap p.1:Key)=_;rw[e]
   simp[e,q,fK]
  ·have q:¬ (fK p).1=(zap x:Key):=λz=>e (by injection z)
   simp only[e,q,decide_false];exact ih
theorem u5(ds:List (Int×List Int))(x:Int):b6 (.dK (ds.map fK)) (.int x)=some ((bO ds x).map tupI):=by
 show some (bY (ds.map fK) (.inl x:Key))=_;rw[SR]
theorem QL(h:bO ds x=none)(hz:ds.length<=1000000):sH (.dK (ds.map fK)) (.int x) (tupI w)=some (.dK ((ds++[(x,w)]).map fK)):=by
 show(if aX (ds.map fK).length then some (D.dK (putD (ds.map fK) (.inl x:Key) (tupI w)))else none)=_;rw[if_pos (by simp only[aX,zao];exact decide_eq_true hz)];have F:((ds.map fK).any λp=>decide (p.1=(zap x:Key)))=false:=by
  rw[List.any_eq_false];intro p B;obtain⟨q,G,rfl⟩:=List.mem_map.mp B;have:q.1≠x:=λz=>by
   have:(ds.find? λp=>decide (p.1=x))≠none:=λy=>by
    rw[List.find?_eq_none]at y;exact y q G (by simp[z])
   unfold bO at h;cases y:ds.find? λp=>decide (p.1=x)with
   | none=>exact this y
   | some p=>rw[y]at h;cases h
  simp[fK,this]
 unfold putD;rw[F,zbv];rfl
noncomputable def cN(K:Nat)(p:Int->Bool):D:=.lst ((zaA K).map λ(k:Nat)=>.bl (p (k:Int)))
def bC(K:Nat)(P:Int->Int->Bool):D:=.lst ((zaA K).map λ(x:Nat)=>cN K (P (x:Int)))
theorem rL{K:Nat}{p:Int->Bool}{k:Int}(h0:0<=k)(h:k<(K:Int)):aH (cN K p) (.int k)=some (.bl (p k)):=by
 obtain⟨j,rfl⟩:∃j:Nat,k=(j:Int):=⟨k.toNat,by lia⟩;exact b8 (by simp[show j<K by lia])
theorem A9{K:Nat}{P:Int->Int->Bool}{k:Int}(h0:0<=k)(h:k<(K:Int)):aH (bC K P) (.int k)=some (cN K (P k)):=by
 obtain⟨j,rfl⟩:∃j:Nat,k=(j:Int):=⟨k.toNat,by lia⟩;exact b8 (by simp[show j<K by lia])
noncomputable def XH(K:Nat)(f:Int->D):D:=.lst ((zaA K).map λ(x:Nat)=>f (x:Int))
theorem LZ{K:Nat}{f:Int->D}{c:Int}{d:D}(h0:0<=c)(h:c<(K:Int)):sH (XH K f) (.int c) d=some (XH K λx=>if x=c then d else f x):=by
 have z:F5 ((zaA K).map λ(x:Nat)=>f (x:Int)).length c=some c.toNat:=by
  unfold F5;rw[if_pos h0,if_pos (by simpa using h)]
 show((P4 (.int c)).bind λk=>(F5 _ k).map λj=>D.lst (List.set _ j d))=_;simp only[q_asI,zdG];rw[z];show some (D.lst _)=some (D.lst _);congr 2;refine zdo (by simp) λi h1 h2=>?_
 rw[List.getElem_set];by_cases e:c.toNat=i
 ·have q:((i:Nat):Int)=c:=by lia
  simp[e,q]
 ·have q:¬ ((i:Nat):Int)=c:=by lia
  simp[e,q]
theorem xV(K:Nat):aV 0 1 K=(zaA K).map λ(k:Nat)=>D.int (k:Int):=by
 unfold aV;exact zeE λi _=>by simp
theorem yM{K:Nat}{f:Ev}{rest:List (Option D)}{F:Int->D}(h:∀k:Int,0<=k->k<(K:Int)->f (some (.int k)::rest)=some (F k)):∀(l:List Nat) (o:Option D),(∀k∈l,k<K)->bR (aL 0) BI f (l.map λ(k:Nat)=>D.int (k:Int)) (o::rest)=some (l.map λ(k:Nat)=>F (k:Int))
 | [],o,_=>rfl
 | k::l,o,hl=>by
  have ih:=yM h l (some (.int (k:Int))) λm z=>hl m (zav _ z)
  have q:=h (k:Int) (by lia) (by have:=hl k (zas ..);lia);simp[bR,q,ih]
theorem fE(h1:-1000<=a)(h2:a<=1000)(z:-1000<=b)(q:b<=1000000):dY [.int a,.int b]=some (aV a 1 (b-a).toNat):=by
 show(if(cM a && cM b)=true then _ else _)=_;rw[if_pos (by simp only[cM,zaK,decide_eq_true_eq];lia)]
end P
namespace My
open PySem PySem.Spec PyProof.Rows L2
noncomputable def W8(a:Bool):String:=if a=true then "str_ascii_iterator" else "str_iterator"
noncomputable def ZZ(x:Str):It:=⟨λi H=>i<x.cps.size,λi H y H'=>H'=H/\∃c,x.cps[i]?=some c/\y=.str ⟨#[c]⟩,λi H=>x.cps.size<=i⟩
theorem HH{P:zam}{w:World}{K:zaf}{tg:Expr}(a:Bool)(x:Str)(t:Tok)(it:Addr):Turn P w K tg (ZZ x) [it] it (λi h=>h.IsStrIter it (W8 a) x t i) where
 mem:=by simp
 obj:=λi h st b q=>by
  have e:b=it:=by simpa using q
  subst e;obtain⟨o,e,c,d⟩:=st;exact⟨o,e,λv z=>by rw[d]at z;cases z⟩
 keep:=λi h h' st k=>let ⟨o,ho,r⟩:=st;⟨o,k it (by simp) o ho,r⟩
 item:=by
  intro X Y hw hK hc i pins s σ H E I W st hg;subst Y hw hK;obtain⟨M,J,f2,U,G,N⟩:=W it (by simp);have hi:i<x.cps.size:=hg;have F:x.cps[i]?=some x.cps[i]:=by simp[hi]
  cases a with
  | true=>
   refine wpAny_pyNext_ascii_item st F λh' B sb=>?_
   have I1:Inv X pins σ H {s with heap:=h',toks:=s.toks+1}:=I.turned (t':=s.toks+1) (λb o q e=>(sb.2 b q).trans e) M J U G N;obtain⟨o,e,c,d⟩:=id B;exact⟨_,rfl,rN (s:={s with heap:=h',toks:=s.toks+1}) e c d (by decide) ⟨.str ⟨#[x.cps[i]]⟩,H,I1,⟨_,rfl⟩,⟨rfl,_,F,rfl⟩,B,λb q=>(W b q).1⟩⟩
  | false=>
   refine wpAny_pyNext_wide_item st F λh' B sb=>?_
   have I1:Inv X pins σ H {s with heap:=h',toks:=s.toks+1}:=I.turned (t':=s.toks+1) (λb o q e=>(sb.2 b q).trans e) M J U G N;obtain⟨o,e,c,d⟩:=id B;exact⟨_,rfl,rN (s:={s with heap:=h',toks:=s.toks+1}) e c d (by decide) ⟨.str ⟨#[x.cps[i]]⟩,H,I1,⟨_,rfl⟩,⟨rfl,_,F,rfl⟩,B,λb q=>(W b q).1⟩⟩
 done:=by
  intro X Y hw hK hc i pins s σ H E I W st hg;subst Y hw hK;obtain⟨M,J,f2,U,G,N⟩:=W it (by simp);have hi:x.cps.size<=i:=hg;have F:x.cps[i]?=none:=by simp[hi]
  cases a with
  | true=>exact wpAny_pyNext_ascii_end (I.ok.hd hc) st F λh' eb=>⟨rfl,I.turned (t':=s.toks) (λb o q e=>eb b o q e) M J U G N⟩
  | false=>exact wpAny_pyNext_wide_end (I.ok.hd hc) st F λh' eb=>⟨rfl,I.turned (t':=s.toks) (λb o q e=>eb b o q e) M J U G N⟩
 self:=λ_ _ _ _ _ st h=>by
  cases a with
  | true=>exact wpAny_pyIter_striter_ascii st h
  | false=>exact wpAny_pyIter_striter_wide st h
def ZI(tl:TE):TI:=λσ H R=>tl σ H λx H1=>∃y,x=.str y/\R (ZZ y) H1
section
variable {X:Cx}{tg:Expr}
theorem S2{l:Expr}{tl:TE}(G:PE X l tl):PI X tg l (ZI tl):=by
 intro pins s σ H R I h;refine bL (G pins s σ H _ I h) λv z ⟨x,H1,B,J,M⟩=>?_
 obtain⟨y,rfl,q⟩:=M;obtain⟨t,rfl⟩:=J;have fin:∀a:Bool,PIE X pins σ tg R (.ref z.heap.objs.size) {z with heap:=z.heap.push {cls:=.type (W8 a),data:=.fields #[.str y t,.int 0 0]} }:=λa=>by
  refine⟨z.heap.objs.size,[z.heap.objs.size],_,_,H1,rfl,B.kept (t':=z.toks) λb o e=>zag _ e,HH a y t _,⟨_,zat _ rfl,rfl,rfl⟩,λb F=>?_,q⟩;have e:b=z.heap.objs.size:=by simpa using F
  subst e;exact B.fpOk (zan _) (B.hok.fresh (zan _))
 cases ha:y.cps.all (·<128)
 ·exact wpAny_pyIter_wide ha (fin false)
 ·exact wpAny_pyIter_ascii ha (fin true)
theorem D8:OpR X (zaq .LtE) (λx y H Q=>∃i j,x=.str i/\y=.str j/\Q (.bl (!decide (j.cps.toList<i.cps.toList))) H):=by
 intro pins s σ H x y v u Q I z B h;obtain⟨i,j,rfl,rfl,q⟩:=h;obtain⟨t,rfl⟩:=z;obtain⟨t',rfl⟩:=B;exact PySem.P.le_str ⟨.bl _,H,I,rfl,q⟩
theorem RG{bs:List Bool}{q:List Value}(r:Vals (bs.map V.bl) q):TruthOf P w A (λi v=>q.toArray[i]?=some v) (λi=>(bs[i]?).getD false):=by
 intro i v s Q E z B;have z:q[i]?=some v:=by simpa using z
 have G:=r.length;rw[zao]at G;have hi:i<bs.length:=by rw[G];exact(List.getElem?_eq_some_iff.mp z).1
 have e:(bs.map V.bl)[i]?=some (.bl bs[i]):=by simp[hi]
 obtain⟨u,F,J⟩:=r.get e;rw[z]at F;cases F;cases J;have:(bs[i]?).getD false=bs[i]:=by simp[hi]
 dsimp only at B;rw[this]at B;exact zbx B
theorem range_all(bs:List Bool):(zaA bs.length).all (λi=>(bs[i]?).getD false)=bs.all id:=by
 rw[zcV,zcO,zcO];constructor
 ·intro h b q
  obtain⟨i,hi,rfl⟩:=List.getElem_of_mem q;have:=h i (List.mem_range.mpr hi);simpa[hi]using this
 ·intro h i hi
  have hi:=List.mem_range.mp hi;simpa[hi]using h bs[i] (zdz hi)
theorem EC(hc:X.calm=true):CallR X (.builtin "all") (λxs H Q=>∃(p:Addr) (bs:List Bool),xs=[.ref p]/\SqL X.K H p (bs.map V.bl)/\Q (.bl (bs.all id)) H):=by
 intro pins s σ H xs us Q I r h;obtain⟨p,bs,rfl,hq,q⟩:=h;obtain⟨u,rfl,Y⟩:=vals1 r;cases Y;obtain⟨B,J,U,hz⟩:=I.list hq;have F:s.heap.IsList p B.toArray:=U.isList;obtain⟨o,M,aa,n,hd⟩:=id F;have G:p≠s.heap.objs.size:=zay (zai M);refine call_all_walk (zcd F ?_);refine⟨s.heap.objs.size,_,_,_,_,_,_,rfl,Walks.list (prog:=X.prog) (w:=X.w) (A:=X.A.in1) (I.ok.hd hc) s.heap.objs.size p G B.toArray,⟨⟨_,zat _ rfl,rfl,rfl⟩,F.at λo e=>zag _ e⟩,RG J,λh' tk hm=>?_⟩;have N:∀b o,s.heap.get? b=some o->h'.get? b=some o:=λb o e=>hm b o (λW=>absurd (zai e) ((List.mem_singleton.mp W) ▸ zbc _)) (zag _ e)
 have z:=J.length;rw[zao]at z;refine⟨.bl (bs.all id),H,I.kept (t':=tk) N,?_,q⟩;rw[zaz,<- z,range_all];rfl
theorem yC:∀ {ss:List Str} {its:List Value},Vals (ss.map V.str) its->StrsAre its ss
 | [],_,.nil=>.nil
 | x::ss,_,.cons r t=>by
  obtain⟨k,rfl⟩:=r;exact .cons x k (yC t)
def rJoin(K:zaf):V->List V->Hp->VK->Prop:=λx vs H Q=>∃(sep:Str) (p:Addr) (ss:List Str),x=.str sep/\vs=[.ref p]/\SqL K H p (ss.map V.str)/\(ss.map (·.length)).sum+ss.length*sep.length<=16777216/\Q (.str (Txt.join sep ss)) H
theorem M9:ZX X "str.join" (rJoin X.K):=by
 intro pins s σ H x vs v us Q I J M h;obtain⟨sep,p,ss,rfl,rfl,N,hz,q⟩:=h;obtain⟨t,rfl⟩:=J;obtain⟨u,rfl,G⟩:=M.one;cases G;obtain⟨z,F,B,_⟩:=I.list N;exact join_list (items:=z.toArray) B.isList (by simpa using yC F) hz λt' k=>⟨.str (Txt.join sep ss),H,I.kept (t':=k) λ_ _ e=>e,⟨_,rfl⟩,q⟩
end
end My
namespace P
open PySem PySem.Spec PyProof.Rows L2
section
variable {X:Cx}{O O':List Nat}{L:Lp}
noncomputable def KR:List D->Option (List Bool)
 | []=>some []
 | .bl b::l=>(KR l).map (b::·)
 | _=>none
theorem xU:∀ {ds:List D} {ns:List Bool} {vs:List V},KR ds=some ns->RepL A H ds vs->vs=ns.map V.bl
 | [],_,_,e,.nil=>by cases e;rfl
 | d::ds,ns,_,e,.cons h t=>by
  cases d with
  | bl b=>
   obtain⟨m,q,rfl⟩:=map_some e;cases RepB.bl_inv (.of h);rw[xU q t];rfl
  | _=>cases e
theorem xX:∀bs:List Bool,KR (bs.map .bl)=some bs
 | []=>rfl
 | b::bs=>by rw[zak,KR,xX bs];rfl
def FZ:List D->Option D
 | [.lst l]=>(KR l).map λbs=>.bl (bs.all id)
 | _=>none
theorem J0(B:X.calm=true):hW X (.builtin "all") FZ:=CallR.mono (My.EC B) <| by
 rintro xs H Q ⟨A,ds,d,J,r,e,q⟩;unfold FZ at e;split at e
 ·obtain⟨bs,G,rfl⟩:=map_some e
  obtain⟨v,rfl,z⟩:=r.one;obtain⟨a,us,rfl,h1,F⟩:=z.lst_inv;rw[xU G F]at h1;exact⟨a,bs,rfl,.inl h1,q _ H (Ext.refl _ _) (.bl _)⟩
 ·cases e
@[simp] theorem q_all{bs:List Bool}:FZ [.lst (bs.map .bl)]=some (.bl (bs.all id)):=by unfold FZ;simp only[xX];rfl
noncomputable def KY:List D->Option (List Str)
 | []=>some []
 | .str b::l=>(KY l).map (b::·)
 | _=>none
theorem xE:∀ {ds:List D} {ns:List Str} {vs:List V},KY ds=some ns->RepL A H ds vs->vs=ns.map V.str
 | [],_,_,e,.nil=>by cases e;rfl
 | d::ds,ns,_,e,.cons h t=>by
  cases d with
  | str b=>
   obtain⟨m,q,rfl⟩:=map_some e;cases RepB.str_inv (.of h);rw[xE q t];rfl
  | _=>cases e
theorem tT:∀bs:List Str,KY (bs.map .str)=some bs
 | []=>rfl
 | b::bs=>by rw[zak,KY,tT bs];rfl
def t8:D->D->Option D
 | .str sep,.lst l=>(KY l).bind λss=>if(ss.map (·.length)).sum+ss.length*sep.length<=16777216 then some (.str (Txt.join sep ss))else none
 | _,_=>none
theorem NF(F:PB X O o fo)(Y:PB X O e fe)(G:∀ {to:TE} {t:TA},PE X o to->PA X [e] t->PE X (.Call (.Attribute o "join" apos) [e] [] cpos) (Z3 X.K "str" (My.rJoin X.K) to t))(hs:zah [e] X.env=(false,eval e X.env)::zah [] X.env:=by rfl):PD X O (.Call (.Attribute o "join" apos) [e] [] cpos) (aZ t8 fo fe):=
 PE.mono (G F (yJ Y B2 hs)) <| by
  rintro σ H Q ⟨H0,A0,A,E,ρ,d,st,e,q⟩;obtain⟨x,ex,e⟩:=bind_some e;obtain⟨y,N,e⟩:=bind_some e;refine⟨H0,A0,A,E,ρ,x,st,ex,λv H1 B W=>?_⟩;unfold t8 at e;split at e
  ·rename_i sep l _
   obtain⟨ss,es,e⟩:=bind_some e;by_cases hz:(ss.map (·.length)).sum+ss.length*sep.length<=16777216
   ·rw[if_pos hz]at e
    cases e;cases W.str_inv;refine⟨rfl,H0,A0,A,E,ρ,[.lst l],st.mono B,by unfold aC aY;rw[N];rfl,λvs H2 M J=>?_⟩;obtain⟨w,rfl,z⟩:=J.one;obtain⟨p,us,rfl,h1,U⟩:=z.lst_inv;rw[xE es U]at h1;exact⟨sep,p,ss,rfl,rfl,.inl h1,hz,q _ H2 (B.trans M) (.str _)⟩
   ·rw[if_neg hz]at e;cases e
  ·cases e
theorem QR(h:(ss.map (·.length)).sum+ss.length*sep.length<=16777216):t8 (.str sep) (.lst (ss.map .str))=some (.str (Txt.join sep ss)):=by
 unfold t8;simp only[tT,zdG];rw[if_pos h]
noncomputable def yX:D->D->Option D
 | .int i,.int j=>some (.bl (decide (i<=j)))
 | .str i,.str j=>some (.bl (!decide (j.cps.toList<i.cps.toList)))
 | _,_=>none
theorem SA:eY X (zaq .LtE) yX:=OpR.mono (OpR.or WJ My.D8) <| by
 rintro x y H Q ⟨A,dx,G,d,F,z,B,e,q⟩;unfold yX at e;split at e
 ·cases e
  cases z.int_inv;cases B.int_inv;exact .inl ⟨_,_,rfl,rfl,q _ H (Ext.refl _ _) (.bl _)⟩
 ·cases e
  cases z.str_inv;cases B.str_inv;exact .inr ⟨_,_,rfl,rfl,q _ H (Ext.refl _ _) (.bl _)⟩
 ·cases e
@[simp] theorem q_leAI:yX (.int i) (.int j)=some (.bl (decide (i<=j))):=rfl
@[simp] theorem q_leAS:yX (.str i) (.str j)=some (.bl (!decide (j.cps.toList<i.cps.toList))):=rfl
def F4(x y:D):Option D:=match x,y with
 | .str i,.str j=>some (.bl (!(zdR j i 0 j.length 1).isEmpty))
 | x,y=>X9 x y
def kK(x y:D):Option D:=match x,y with
 | .str i,.str j=>some (.bl (!(!(zdR j i 0 j.length 1).isEmpty)))
 | x,y=>JH x y
theorem QI(F:X.A.units+64<cLine):eY X (zaq .In) F4:=OpR.mono (OpR.or (VM F) FO) <| by
 rintro x y H Q ⟨A,dx,J,d,G,z,B,e,q⟩;unfold F4 at e;split at e
 ·cases e
  cases z.str_inv;cases B.str_inv;exact .inr ⟨_,_,rfl,rfl,q _ H (Ext.refl _ _) (.bl _)⟩
 ·exact .inl ⟨A,_,_,d,G,z,B,e,q⟩
theorem D4(F:X.A.units+64<cLine):eY X (zaq .NotIn) kK:=OpR.mono (OpR.or (IN F) uJ) <| by
 rintro x y H Q ⟨A,dx,J,d,G,z,B,e,q⟩;unfold kK at e;split at e
 ·cases e
  cases z.str_inv;cases B.str_inv;exact .inr ⟨_,_,rfl,rfl,q _ H (Ext.refl _ _) (.bl _)⟩
 ·exact .inl ⟨A,_,_,d,G,z,B,e,q⟩
noncomputable def signs(x:Str):List D:=x.cps.toList.map λc=>.str ⟨#[c]⟩
theorem SQ:BM (My.ZZ x) [] (signs x):=by
 intro A H N M i;have z:(signs x).length=x.cps.size:=by simp[signs]
 refine⟨λhi=>by rw[z]at hi;exact hi,λd q=>?_⟩;have hi:i<x.cps.size:=by rw[<- z];exact(List.getElem?_eq_some_iff.mp q).1
 refine⟨hi,λy H' ⟨e,c,F,B⟩=>?_⟩;subst e B;have:d=.str ⟨#[c]⟩:=by
  unfold signs at q;rw[zaB]at q;obtain⟨G,J,rfl⟩:=map_some q;have:x.cps[i]?=some G:=by rw[<- zdy];exact J
  rw[F]at this;cases this;rfl
 subst this;exact⟨Ext.refl _ _,.str _⟩
def kS(f:Ev):Lv:=λρ=>(f ρ).bind λd=>match d with
 | .lst l=>some l
 | .tup l=>some l
 | .dT l=>some (l.map λp=>.tup (p.1.map FX))
 | .str x=>some (signs x)
 | _=>none
@[simp] theorem q_lSeqA:kS f ρ=(f ρ).bind λd=>match d with
 | .lst l=>some l
 | .tup l=>some l
 | .dT l=>some (l.map λp=>.tup (p.1.map FX))
 | .str x=>some (signs x)
 | _=>none:=rfl
theorem HG(h:PD X O e f):PDI X O tg e (kS f):=PI.mono (PI.or (MB h) (My.S2 h)) <| by
 rintro σ H R ⟨H0,A0,A,E,ρ,items,st,e,q⟩;obtain⟨d,z,e⟩:=bind_some e;cases d with
 | str x=>
  cases e;refine .inr ⟨H0,A0,A,E,ρ,_,st,z,λv H1 G F=>?_⟩;cases RepB.str_inv (.of F);exact⟨x,rfl,q _ H1 [] G (λp B=>nomatch B) SQ⟩
 | lst l=>exact .inl ⟨H0,A0,A,E,ρ,items,st,by unfold KU;rw[z];exact e,q⟩
 | tup l=>exact .inl ⟨H0,A0,A,E,ρ,items,st,by unfold KU;rw[z];exact e,q⟩
 | dT l=>exact .inl ⟨H0,A0,A,E,ρ,items,st,by unfold KU;rw[z];exact e,q⟩
 | _=>cases e
end
structure GTup(K:zaf)(mg:Str->Option Value)(x:Str)(ss:List Str):Prop where
 ex:∃a,mg x=some (.ref a)/\∃(o:Obj) (its:Array Value) (n:Nat),K.lookup a=some o/\o.cls=.type "tuple" /\ o.data=.seq its n/\its.size<=zaj/\Vals (ss.map V.str) its.toList
structure GInt(mg:Str->Option Value)(x:Str)(i:Int):Prop where
 ex:∃t,mg x=some (.int i t)
section
variable {X:Cx}{O:List Nat}
theorem kO(g:GInt X.mg x i)(B:Gl X x)(z:(x == ("__debug__" : Str))=false:=by decide):PD X O (.Name x p) (eC (.int i)):=by
 obtain⟨t,e⟩:=g.ex;exact PE.mono (C3 (v:=.int i) B e ⟨t,rfl⟩ z) λσ H Q ⟨H0,A0,A,E,ρ,d,st,e,q⟩=>by cases e;exact q _ H (Ext.refl _ _) (.int _)
noncomputable def OL(neg:Bool)(ss:List Str):D->Option D
 | .str s=>some (.bl (if neg then !ss.contains s else ss.contains s))
 | _=>none
theorem xA(s:Str):∀ss:List Str,inV (.str s) (ss.map V.str)=ss.contains s
 | []=>rfl
 | y::ss=>by
  have ih:=xA s ss;unfold inV at ih ⊢;rw[zak,zbA,ih,List.contains_cons];congr 1;show decide (y=s)=(s == y);by_cases h:y=s
  ·subst h;simp
  ·have:¬ s=y:=λz=>h z.symm
   simp[h,this]
theorem tZ:∀ss:List Str,(ss.map V.str).all kY=true
 | []=>rfl
 | y::ss=>by rw[zak,zcG,tZ ss];rfl
theorem NB{neg:Bool}{ss:List Str}{f:Ev}{a:Addr}{K:zaf}(F:∃(o:Obj) (its:Array Value) (n:Nat),K.lookup a=some o/\o.cls=.type "tuple" /\ o.data=.seq its n/\its.size<=zaj/\Vals (ss.map V.str) its.toList){σ:L2.St}{H:Hp}{Q:VK}(h:tD Rep O (t7 (OL neg ss) f) σ H Q):U3 (qg K neg) (tD RepB O f) (tC (.ref a)) σ H Q:=by
 obtain⟨H0,A0,A,E,ρ,d,st,e,q⟩:=h;obtain⟨x,ex,e⟩:=bind_some e;refine⟨H0,A0,A,E,ρ,x,st,ex,λv H1 B z=>?_⟩;cases x with
 | str s=>
  cases e;cases z.str_inv;refine⟨a,ss.map V.str,rfl,.inr (.inr F),rfl,tZ ss,?_⟩;rw[xA];exact q _ H1 B (.bl _)
 | _=>cases e
theorem N8(g:GTup X.K X.mg x ss)(B:Gl X x)(F:PB X O e f)(q:(x == ("__debug__" : Str))=false:=by decide)(J:zce .In (.Name x p)=false:=by rfl):m8 X O (.Compare e [.In] [.Name x p] pos) (eJ (t7 (OL false ss) f)):=by
 obtain⟨a,G,z⟩:=g.ex;exact PT.mono (C6 EZ F (C3 (v:=.ref a) B G rfl q) J) λσ H Q h=>NB z (g8 h)
end
@[simp] theorem q_inG:OL neg ss (.str s)=some (.bl (if neg then !ss.contains s else ss.contains s)):=rfl
@[simp] theorem q_eqS:yY (.str a) (.str b)=some (.bl (decide (a=b))):=by
 unfold yY K6;rw[if_pos (.inl rfl)];by_cases h:a=b
 ·subst h;simp
 ·have h2:¬ D.str a=D.str b:=λz=>h (by injection z)
  simp[h]
@[simp] theorem q_neS:DS (.str a) (.str b)=some (.bl (!decide (a=b))):=by
 unfold DS K6;rw[if_pos (.inl rfl)];by_cases h:a=b
 ·subst h;simp
 ·have h2:¬ D.str a=D.str b:=λz=>h (by injection z)
  simp[h]
theorem uZ{f rest:Sv}{ρ:cY}{R:D->Prop}(W:cY->Prop)(h:∃ρ',f ρ=some (.nx ρ')/\W ρ')(k:∀ρ',W ρ'->∃d,rest ρ'=some (.rt d)/\R d):∃d,bD f rest ρ=some (.rt d)/\R d:=by
 obtain⟨ρ',e,w⟩:=h;rw[aF e];exact k ρ' w
theorem TQ(h0:0<=k)(h:k<(l.length:Int)):sH (.lst l) (.int k) e=some (.lst (l.set k.toNat e)):=by
 show(F5 l.length k).map _=_;unfold F5;rw[if_pos h0,if_pos h];rfl
theorem at_of(h0:0<=k)(h:l[k.toNat]?=some d):dX l k=some d:=by
 obtain⟨j,rfl⟩:∃j:Nat,k=(j:Int):=⟨k.toNat,by lia⟩;exact b8 (by simpa using h)
theorem PQ(h0:0<=k)(h:k<(l.length:Int)):∃d,d∈l/\l[k.toNat]?=some d/\dX l k=some d:=by
 have q:k.toNat<l.length:=by lia
 have e:l[k.toNat]?=some l[k.toNat]:=zaY q;exact⟨l[k.toNat],zdz q,e,at_of h0 e⟩
theorem uS(I:Nat->cY->Prop)(J:cY->Prop)(h:∀n ρ,I n ρ->(c ρ=some true/\∃m ρ',m<n/\b ρ=some (.nx ρ')/\I m ρ')\/(c ρ=some false/\J ρ)):∀(fuel n:Nat) (ρ:cY),n<fuel->I n ρ->∃ρ',hU c b fuel ρ=some (.nx ρ')/\J ρ'
 | 0,n,ρ,hn,_=>absurd hn (ze7 n)
 | fuel+1,n,ρ,hn,hi=>by
  rcases h n ρ hi with⟨B,m,ρ',G,F,z⟩|⟨B,q⟩
  ·obtain⟨ρ2,e,q⟩:=uS I J h fuel m ρ' (by lia) z
   refine⟨ρ2,?_,q⟩;unfold hU;rw[B,aA,if_pos rfl,F,aA];exact e
  ·refine⟨ρ,?_,q⟩
   unfold hU;rw[B,aA,if_neg zau]
theorem E9{c:Bv}{b rest:Sv}{ρ:cY}{R:D->Prop}(I:Nat->cY->Prop)(J:cY->Prop)(n:Nat)(q:n<100000)(h0:I n ρ)(h:∀n ρ,I n ρ->(c ρ=some true/\∃m ρ',m<n/\b ρ=some (.nx ρ')/\I m ρ')\/(c ρ=some false/\J ρ))(k:∀ρ',J ρ'->∃d,rest ρ'=some (.rt d)/\R d):∃d,bD (qX c b) rest ρ=some (.rt d)/\R d:=by
 obtain⟨ρ',e,z⟩:=uS I J h 100000 n ρ q h0;have B:qX c b ρ=some (.nx ρ'):=e;rw[aF B];exact k ρ' z
theorem PD.pe(h:PD X O e f):PE X e (tD Rep O f):=h
noncomputable def isStar:Expr->Bool
 | .Starred ..=>true
 | _=>false
theorem cK(h:isStar e=false):zah (e::es) env=(false,eval e env)::zah es env:=by
 cases e <;> first|rfl|cases h
theorem iS:∀ {es:List Expr},(es.all λe=>!isStar e)=true->(zaJ pos (zah es env)).any (·.1)=false
 | [],_=>by simp[zah,zaJ]
 | e::es,h=>by
  rw[zcG,zaK]at h;have q:isStar e=false:=by cases z:isStar e;rfl;rw[z]at h;exact absurd h.1 (by decide)
  have ih:=iS (pos:=pos) (env:=env) (es:=es) h.2;rw[cK q];simp only[zaJ,zak,zbA,Bool.false_or]at ih ⊢;exact ih
end P
namespace My
open PySem PySem.Spec PyProof.Rows L2 PySem.SeqAt
noncomputable def P5(val:Nat->Int):Nat->Nat->Int->Int
 | 0,_,m=>m
 | k+1,j,m=>P5 val k (j+1) (if val j>m then val j else m)
theorem FC(a v:Value):argsOk "max" ⟨[a],[(za0 "default",v)]⟩:=by unfold argsOk;kernel_rfl
section
variable {prog:zam}{w:World}{A:zar}{R:Result->zab->Prop}{I S:Addr}{fp wr:List Addr}{n:Nat}{P:Nat->Value->Prop}{St:Nat->Heap->Prop}{kw:List (Str×Value)}
theorem iH(W:Walks prog w A.in1 I fp wr n P St)(val:Nat->Int)(hv:∀j v,P j v->∃t,v=.int (val j) t)(Y:S∉fp):∀(k j:Nat) (s:zab) (m:Int) (t:Tok) (c:Nat),n-j=k->j<=n->St j s.heap->
  s.heap.get? S=some {cls:=.type "list",dict:=none,data:=.seq #[.int m t,.int m t] c,slots:=#[]}->
  (∀t' h' tk,(∀b o,b∉wr->b≠S->s.heap.get? b=some o->h'.get? b=some o)->R (.ok (.ret (.int (P5 val k j m) t'))) {s with heap:=h',toks:=tk})->
  zbr (model prog w) A (.builtin "max.loop" ⟨[.ref I,.none,.ref S],kw⟩) R s
 | k,j,s,m,t,c,hk,hj,st,gS,fin=>by
  have nw:S∉wr:=λz=>Y (W.sub _ z)
  have nm:(zca "max" ++ zca ".loop" : String) = "max.loop" := by decide
  refine zcj zfj ?_;rw[zck zcm _];show wpAny _ A.in1 (zdB (.ref S) >>= λ_=>_) _ _ s;refine zaa (za5 gS rfl ?_);show wpAny _ A.in1 (tryCatch (zaH (.ref I)) _ >>= λ_=>_) _ _ s
  match k,hk,fin with
  | 0,hk,fin=>
   have e:j=n:=by lia
   refine zaa (zcR (W.done s _ _ (e ▸ st) λh1 tk same=>?_));have G:=same S _ nw gS;show wpAny _ A.in1 (zcQ S (λ_=>#[]) >>= λ_=>_) _ _ _;refine zaa (zct G rfl (zaa (zbu (zac ?_))));exact fin t _ tk λb o nb B M=>(zbI _ _ (zaR B)).trans (same b o nb M)
  | k+1,hk,fin=>
   have lt:j<n:=by lia
   refine zaa (zcR (W.item j s _ _ lt st λv h1 tk pv N same=>?_));have G:=same S _ nw gS;obtain⟨u,rfl⟩:=hv j v pv;show wpAny _ A.in1 (tryCatch (zco [.int (val j) u,.int (val j) u] (richCompare .Gt (.int (val j) u) (.int m t) >>= λ_=>_)) _ >>= λ_=>_) _ _ _;refine zaa (zcR (zbm (zaa ?_)));refine richCompare_gives (op:=.Gt) (zcH _ _ u) (zcH _ _ t) PySem.F.slot_int_gt PySem.F.entry_int_gt (PySem.F.args_int_gt_2 _ _) (gives_int_gt _ _ u t) (λz=>nomatch z) ?_;refine zaa (zbm (zbx ?_));refine zaa (zbu (zac ?_));by_cases U:val j>m
   ·rw[decide_eq_true U]
    simp only[if_true];refine zaa (zct G rfl (zaa (zbu ?_)));rw[nm];refine zac ⟨zbB zcm _,iH W val hv Y k (j+1) _ (val j) u _ (by lia) lt (W.frame _ _ _ N λb bf o M=>?_) (zbR _ G rfl) λt' h2 J q=>?_⟩
    ·exact(zbI _ _ (λz:S=b=>Y (z ▸ bf))).trans M
    ·have:=fin t' h2 J λb o nb B M=>q b o nb B ((zbI _ _ (zaR B)).trans (same b o nb M))
     rw[P5,if_pos U]at this;exact this
   ·rw[decide_eq_false U]
    simp only[zb6,if_false];refine zaa (zbu ?_);rw[nm];refine zac ⟨zbB zcm _,iH W val hv Y k (j+1) _ m t c (by lia) lt N G λt' h2 J q=>?_⟩;have:=fin t' h2 J λb o nb B M=>q b o nb B (same b o nb M)
    rw[P5,if_neg U]at this;exact this
theorem zW(W:Walks prog w A.in1 I fp wr n P St)(val:Nat->Int)(Y:∀j v,P j v->∃t,v=.int (val j) t)(M:S∉fp)(st:St 0 s.heap)
  (U:s.heap.get? S=some {cls:=.type "list",dict:=none,data:=.seq #[] c,slots:=#[]})
  (f0:n=0->∀h' tk,(∀b o,b∉wr->b≠S->s.heap.get? b=some o->h'.get? b=some o)->R (.ok (.ret dv)) {s with heap:=h',toks:=tk})
  (fin:0<n->∀t' h' tk,(∀b o,b∉wr->b≠S->s.heap.get? b=some o->h'.get? b=some o)->R (.ok (.ret (.int (P5 val (n-1) 1 (val 0)) t'))) {s with heap:=h',toks:=tk}) :
  zbr (model prog w) A (.builtin "max.loop" ⟨[.ref I,.none,.ref S],[(za0 "default",dv)]⟩) R s:=by
 have nw:S∉wr:=λz=>M (W.sub _ z)
 have nm:(zca "max" ++ zca ".loop" : String) = "max.loop" := by decide
 refine zcj zfj ?_;rw[zck zcm _];show wpAny _ A.in1 (zdB (.ref S) >>= λ_=>_) _ _ s;refine zaa (za5 U rfl ?_);show wpAny _ A.in1 (tryCatch (zaH (.ref I)) _ >>= λ_=>_) _ _ s;by_cases h0:n=0
 ·refine zaa (zcR (W.done s _ _ (h0 ▸ st) λh1 tk same=>?_))
  refine zaa (zbT (zac ?_));exact f0 h0 _ tk λb o nb q G=>same b o nb G
 ·have lt:0<n:=Nat.pos_of_ne_zero h0
  refine zaa (zcR (W.item 0 s _ _ lt st λv h1 tk pv N same=>?_));have F:=same S _ nw U;obtain⟨u,rfl⟩:=Y 0 v pv;show wpAny _ A.in1 (zcQ S (λ_=>#[.int (val 0) u,.int (val 0) u]) >>= λ_=>_) _ _ _;refine zaa (zct F rfl ?_);rw[nm];refine zac ⟨zbB zcm _,iH W val Y M (n-1) 1 _ (val 0) u _ rfl lt (W.frame _ _ _ N λb bf o G=>?_) (zbR _ F rfl) λt' h2 J B=>?_⟩
  ·exact(zbI _ _ (λz:S=b=>M (z ▸ bf))).trans G
  ·exact fin lt t' h2 J λb o nb q G=>B b o nb q ((zbI _ _ (zaR q)).trans (same b o nb G))
end
noncomputable def lQ(d:Int):List Int->Int
 | []=>d
 | x::xs=>xs.foldl (λm y=>if y>m then y else m) x
theorem pV(ns:List Int):∀(k j:Nat) (m:Int),ns.length-j=k->P5 (λi=>(ns[i]?).getD 0) k j m=(ns.drop j).foldl (λm y=>if y>m then y else m) m
 | 0,j,m,h=>by
  rw[List.drop_eq_nil_iff.mpr (by lia)];rfl
 | k+1,j,m,h=>by
  have q:j<ns.length:=by lia
  rw[P5,zex q,zcK,pV ns k (j+1) _ (by lia)];simp[q]
section
variable {X:Cx}
theorem AD(hc:X.calm=true)(I:Inv X pins σ H s)(hq:SqL X.K H p (ns.map V.int))(q:Q (.int (lQ d ns)) H) :
  wpAny (model X.prog X.w) X.A (call (.builtin "max") [.ref p] [(za0 "default",.int d t)]) (EP X pins σ Q) X.xe s:=by
 have nm:(zca "max" ++ zca ".loop" : String) = "max.loop" := by decide
 obtain⟨G,U,pl,hz⟩:=I.list hq;have J:s.heap.IsList p G.toArray:=pl.isList;obtain⟨o,N,ac,n,hd⟩:=id J;have M:p≠s.heap.objs.size:=zay (zai N);have W:=Walks.list (prog:=X.prog) (w:=X.w) (A:=X.A.in1) (I.ok.hd hc) s.heap.objs.size p M G.toArray;refine kmk_tree PySem.F.kind_max PySem.F.plain_max PySem.F.entry_max (FC _ _) ?_;show wpAny _ X.A.in1 (zeF "max" ["key", "default"] 0 ⟨[],[(za0 "default",.int d t)]⟩ >>= λ_=>_) _ _ s;refine zaa (zdv (show zeF "max" ["key", "default"] 0 ⟨[],[(za0 "default",.int d t)]⟩=pure [none,some (.int d t)]from rfl) ?_);refine zaa (zac (zaa (zcd J (zaa (zel ?_ (za3 _))))));rw[nm];refine zac ⟨zbB zcm _,?_⟩;have B:=U.length;rw[zao]at B;have sz:G.toArray.size=ns.length:=by rw[zaz];exact B.symm
 have keep:∀h':Heap,(∀b o,b∉[s.heap.objs.size]->b≠(s.heap.push {cls:=.type "list_iterator",data:=.fields #[.ref p,.int 0 0]}).objs.size->((s.heap.push {cls:=.type "list_iterator",data:=.fields #[.ref p,.int 0 0]}).push (za1 "list" #[] 0)).get? b=some o->h'.get? b=some o)->∀b o,s.heap.get? b=some o->h'.get? b=some o:=λh' k b o e=>by
  have lt:=zai e;refine k b o (λz=>zay lt (List.mem_singleton.mp z)) ?_ (zag _ (zag _ e));rw[size_push'];exact zay (Nat.lt_succ_of_lt lt)
 refine zW W (λi=>(ns[i]?).getD 0) (λi v Y=>x8 U (by simpa using Y)) (S:=(s.heap.push {cls:=.type "list_iterator",data:=.fields #[.ref p,.int 0 0]}).objs.size) ?_ ?_ (zat _ rfl) (λh0 h' tk same=>?_) λh0 t' h' tk same=>?_
 ·rw[size_push']
  intro z;rcases List.mem_cons.mp z with z|z
  ·exact zaG (zdb _) z
  ·exact zbc _ (zcM (zdb _) ((List.mem_singleton.mp z) ▸ zai N))
 ·exact⟨⟨_,zag _ (zat _ rfl),rfl,rfl⟩,J.at λo e=>zag _ (zag _ e)⟩
 ·have e0:ns=[]:=List.length_eq_zero_iff.mp (by lia)
  subst e0;exact⟨.int d,H,I.kept (t':=tk) (keep h' same),⟨t,rfl⟩,q⟩
 ·refine⟨.int (lQ d ns),H,I.kept (t':=tk) (keep h' same),⟨t',?_⟩,q⟩
  rw[sz];cases ns with
  | nil=>rw[sz]at h0;exact absurd h0 (zbc 0)
  | cons x xs=>
   rw[pV (x::xs) _ 1 _ (by simp)];rfl
end
end My
namespace P
open PySem PySem.Spec PyProof.Rows L2
section
variable {X:Cx}{O:List Nat}
def DL(x y:D):Option D:=match x,y with
 | .lst l,.int d=>(dW l).map λns=>.int (My.lQ d ns)
 | _,_=>none
@[simp] theorem q_maxD:DL (.lst (ns.map .int)) (.int d)=some (.int (My.lQ d ns)):=by unfold DL;simp only[eN];rfl
theorem MX(hc:X.calm=true)(hg:Gl X "max")(hm:X.mg "max" = none)(he:PB X O e fe)(U:PD X O ed fd)(hs:isStar e=false):PD X O (.Call (.Name "max" p) [e] [⟨some "default",ed,kp⟩] pos) (aZ DL fe fd):=by
 intro pins s σ H Q I h;obtain⟨H0,A0,A,E,ρ,d,st,z,q⟩:=h;obtain⟨x,ex,z⟩:=bind_some z;obtain⟨y,ey,z⟩:=bind_some z;refine zdV (eW I hg hm My.boot_max ?_ (by decide) (by decide));refine PyProof.Rows.callWith_kw (bL (fW he lM (cK hs) pos pins s σ H (λvs H1=>∃v,vs=[v]/\RepB A H1 x v/\Ext A H H1) I ⟨H0,A0,A,E,ρ,x,st,ex,λv H1 B N=>⟨v,rfl,N,B⟩⟩) λus s1 ⟨vs,H1,I1,N,v,ev,rv,B⟩=>?_) (by rw[cK hs];rfl) (iS (by simp[hs]));subst ev;refine bL (LC (nm:=some "default") (kpos:=kp) U QA pos pins s1 σ H1 (λvs H2=>∃w,vs=[w]/\Rep A H2 y w/\Ext A H1 H2) I1 ⟨H0,A0,A,E,ρ,y,st.mono B,ey,λw H2 F M=>⟨w,rfl,M,F⟩⟩) λws s2 ⟨zs,H2,I2,M,w,Y,G,F⟩=>?_
 subst Y;unfold DL at z;split at z
 ·obtain⟨ns,e1,rfl⟩:=map_some z
  obtain⟨a,W,rfl,h1,r3⟩:=(rv.ext F).lst_inv;rw[cT e1 r3]at h1;cases G;obtain⟨u,rfl,ru⟩:=vals1 N;cases ru;obtain⟨u2,rfl,J⟩:=vals1 M;obtain⟨t,rfl⟩:=J;exact My.AD hc I2 (.inl h1) (q _ H2 (B.trans F) (.int _))
 ·cases z
end
end P
namespace My
open PySem PySem.Spec PyProof.Rows L2 PySem.SeqAt
theorem gC:entryFor table "dict.update.loop" = some za9.«dict.update.loop»:=entryFor_of_tree (by kernel_rfl)
theorem cF:plainId "dict.update.loop" = true:=by decide +kernel
theorem oA:typeLookup (.type "list") (za0 "keys")=pure none:=by rw[typeLookup_type,builtinLookup_eq_fast];kernel_rfl
theorem nB:typeLookup (.type "tuple") (za0 "keys")=pure none:=by rw[typeLookup_type,builtinLookup_eq_fast];kernel_rfl
section
variable {prog:zam}{w:World}{A:zar}{E:Value->zab->Prop}{s:zab}
theorem nX(J:s.heap.get? a=some o)(M:o.cls=.type "list")(q:o.data=.seq xs k)(G:o.dict=none)(hA:A.handled=none)
  (h:∀h' tk,(∀b o,s.heap.get? b=some o->h'.get? b=some o)->Q none {s with heap:=h',toks:=tk}):wpAny (model prog w) A (getAttr? (.ref a) "keys") Q E s:=by
 obtain⟨c,Y,U,W⟩:=o;simp only at M q G;subst M q G;obtain⟨N,g,d,tk,os⟩:=s;have hT:∀B,(⟨N,g,d,B,os⟩:zab).TypeIs (.ref a) "list" := λ_=>⟨_,J,rfl⟩
 have f1:=sub_AttributeError;have f3:=PySem.F.slot_list_getattribute.lookup;have f4:=PySem.F.slot_list_getattribute.bind (.ref a);have f5:=am_list_getattr_none;unfold getAttr? getAttrBy? getAttrBy
 repeat (any_goals (first|assumption|exact hT _|((with_reducible show wpAny _ _ (call (Value.builtin "list.__getattribute__") _ _) _ _ _);refine zcs PySem.F.slot_list_getattribute (hT _) am_entry_list_getattribute (PySem.F.args_list_getattribute_2 _ _) (meets_getattribute_miss_list a xs k W (za0 "keys") _ oA (by decide) (by size_fits)) ⟨J,hA,λh' B e z=>?_⟩)|wp_step))
 obtain⟨t',u',he⟩:=z.there;show wpAny _ _ (zeG _ _ _ _ _ _ _) _ _ _;unfold zeG
 repeat (any_goals (first|assumption|wp_step))
 exact h _ _ z.keeps
theorem nD(J:s.heap.get? a=some o)(M:o.cls=.type "tuple")(q:o.data=.seq xs k)(G:o.dict=none)(hA:A.handled=none)
  (h:∀h' tk,(∀b o,s.heap.get? b=some o->h'.get? b=some o)->Q none {s with heap:=h',toks:=tk}):wpAny (model prog w) A (getAttr? (.ref a) "keys") Q E s:=by
 obtain⟨c,Y,U,W⟩:=o;simp only at M q G;subst M q G;obtain⟨N,g,d,tk,os⟩:=s;have hT:∀B,(⟨N,g,d,B,os⟩:zab).TypeIs (.ref a) "tuple" := λ_=>⟨_,J,rfl⟩
 have f1:=sub_AttributeError;have f3:=PySem.F.slot_tuple_getattribute.lookup;have f4:=PySem.F.slot_tuple_getattribute.bind (.ref a);have f5:=am_tuple_getattr_none;unfold getAttr? getAttrBy? getAttrBy
 repeat (any_goals (first|assumption|exact hT _|((with_reducible show wpAny _ _ (call (Value.builtin "tuple.__getattribute__") _ _) _ _ _);refine zcs PySem.F.slot_tuple_getattribute (hT _) am_entry_tuple_getattribute (PySem.F.args_tuple_getattribute_2 _ _) (meets_getattribute_miss_tuple a xs k W (za0 "keys") _ nB (by decide) (by size_fits)) ⟨J,hA,λh' B e z=>?_⟩)|wp_step))
 obtain⟨t',u',he⟩:=z.there;show wpAny _ _ (zeG _ _ _ _ _ _ _) _ _ _;unfold zeG
 repeat (any_goals (first|assumption|wp_step))
 exact h _ _ z.keeps
end
section
variable {X:Cx}{pins:List (Addr×Obj)}{σ:L2.St}{H:Hp}{s:zab}{a:Addr}{y v:V}{u r:Value}{A:zar}{E:Value->zab->Prop}
theorem E8(hu:A.units+1<cLine)(I:Inv X pins σ H s)(g:DPut H a y v H')(ry:RelV y u)(Y:RelV v r)(h:∀h' t',Inv X pins σ H' {s with heap:=h',toks:=t'}->zaS a s.heap h'->Q () {s with heap:=h',toks:=t'}) :
  wpAny (model X.prog X.w) A (dictSet a u r) Q E s:=by
 rcases g with⟨kvs,k,e,N,l,U⟩|⟨kvs,k,b,e,N,eb,l,U⟩
 ·subst N U
  obtain⟨z,J,vs,B,dd⟩:=KF I.hok e;have hz:vs.length<=zaj:=by rw[<- B.length];exact z
  have M:(putK kvs k v).length<=zaj:=by have:=cG kvs k v;lia
  refine wpAny_dictSet_pairs (hsz:=hz) (kZ ry) dd λh' F hs=>h _ _ ?_ hs
  have he:∃q,h'.get? a=some q:=let ⟨q,_,_,G,_⟩:=F;⟨q,G⟩;exact iO I (by rw[e];exact zbf) hs he (BA M J (B.put k Y) F)
 ·subst N U
  cases(show u=zal b from ry);obtain⟨z,J,xs,B,dd⟩:=KJ I.hok e;have hz:xs.length<=zaj:=by rw[<- zbX B];exact z
  have M:(putK kvs k v).length<=zaj:=by have:=cG kvs k v;lia
  refine wpAny_dictSet_heap (hsz:=hz) (show A.units<cLine by lia) (fX I.hok eb) dd λh' F hs=>h _ _ ?_ hs
  obtain⟨q,es,ep,G,h2,h3,h4,_,h5⟩:=F;refine iO I (by rw[e];exact zbf) hs ⟨q,G⟩ ⟨M,J,_,(B.put k eb Y).keeps λc ys W=>?_,q,es,ep,G,h2,h3,h4,h5⟩;rw[aE (DH W e (λz=>nomatch z))];exact W
end
inductive Puts(d:Addr):Hp->List (V×V)->Hp->Prop where
 | nil {H:Hp}:Puts d H [] H
 | cons {H H1 H2:Hp} {y v:V} {l:List (V×V)} (h:DPut H d y v H1) (t:Puts d H1 l H2):Puts d H ((y,v)::l) H2
theorem w9(g:DPut H a y v H'):(∃u,H a=some u/\(∀xs,u≠.tup xs)/\∀o w,u≠.frz o w)/\∀b,b≠a->H' b=H b:=by
 rcases g with⟨kvs,k,e,F,l,q⟩|⟨kvs,k,b,e,F,G,l,q⟩
 ·subst q;exact⟨⟨_,e,(λ_ z=>nomatch z),(λ_ _ z=>nomatch z)⟩,λb B=>aE B⟩
 ·subst q;exact⟨⟨_,e,(λ_ z=>nomatch z),(λ_ _ z=>nomatch z)⟩,λb B=>aE B⟩
theorem G5{K:zaf}{H H':Hp}{a:Addr}{y v:V}(g:DPut H a y v H'){b:Addr}{xs:List V}(h:SqT K H b xs):SqT K H' b xs:=by
 obtain⟨⟨u,e,B,q⟩,same⟩:=w9 g;rcases h with(h|⟨o,h⟩)|h
 ·exact .inl (.inl (by rw[same b (λz=>by rw[z,e]at h;exact B _ (zaI h))];exact h))
 ·exact .inl (.inr ⟨o,by rw[same b (λz=>by rw[z,e]at h;exact q _ _ (zaI h))];exact h⟩)
 ·exact .inr h
section
variable {X:Cx}{pins:List (Addr×Obj)}{σ:L2.St}{A:zar}{R:Result->zab->Prop}{it d:Addr}{fp:List Addr}{n:Nat}{P:Nat->Value->Prop}{St:Nat->Heap->Prop}{H2:Hp}
theorem jH(W:Walks X.prog X.w A.in1 it fp [it] n P St)(hd:d∉fp)(hu:A.in1.units+1<cLine)(fin:∀s',Inv X pins σ H2 s'->R (.ok (.ret .none)) s'):∀(l:List (V×V)) (j:Nat) (s:zab) (H:Hp) (t:Tok) (i:Int),n-j=l.length->j<=n->St j s.heap->Inv X pins σ H s->iB X pins H it->
  (∀(m:Nat) (p:V×V) (v:Value),l[m]?=some p->P (j+m) v->∃b,v=.ref b/\SqT X.K H b [p.1,p.2])->Puts d H l H2->
  zbr (model X.prog X.w) A (.builtin "dict.update.loop" ⟨[.ref d,.ref it,.int i t,.none],[]⟩) R s
 | [],j,s,H,t,i,hn,hj,st,I,fo,facts,pu=>by
  cases pu;obtain⟨B,M,f2,G,F,J⟩:=fo;have e:j=n:=by simp at hn;lia
  subst e;refine zcj gC ?_;rw[zck cF _];show wpAny _ A.in1 (zaH (.ref it) >>= λ_=>_) _ _ s;refine zaa (W.done s _ _ st λh1 tk same=>?_);show wpAny _ _ (Builtin.Dict.addKeywords d [] >>= _) _ _ _;exact zaa (zac (zac (fin _ (I.turned (t':=tk) (λb o Y e=>same b o (by simpa using Y) e) B M G F J))))
 | (y,v)::l,j,s,H,t,i,hn,hj,st,I,fo,facts,pu=>by
  obtain⟨B,M,f2,G,F,J⟩:=id fo;cases pu with
  | @cons _ H1 _ _ _ _ dp pu=>
  have lt:j<n:=by rw[zaT]at hn;lia
  refine zcj gC ?_;rw[zck cF _];show wpAny _ A.in1 (zaH (.ref it) >>= λ_=>_) _ _ s;refine zaa (W.item j s _ _ lt st λv1 h1 tk pv N same=>?_);obtain⟨b,rfl,sq⟩:=facts 0 (y,v) v1 rfl pv;have I1:Inv X pins σ H {s with heap:=h1,toks:=tk}:=I.turned (t':=tk) (λb o Y e=>same b o (by simpa using Y) e) B M G F J;obtain⟨ah,rv,ht,hz⟩:=I1.tuple sq;cases rv with
  | @cons _ u _ us ru rt=>
  cases rt with
  | @cons _ r _ us2 rr rt2=>
  cases rt2;obtain⟨o,ho,hc,nn,U⟩:=id ht;show wpAny _ A.in1 (zco [zal b] _ >>= λ_=>_) _ _ _;refine zaa (zbm ?_);refine zaa (zcR ?_);unfold Builtin.Dict.pairItems;refine zaa (zcq ht.typeIs ?_);rw[if_pos (by decide)];refine zaa (za5 ho U (zac ?_));show wpAny _ A.in1 (zco [u,r] (dictSet d u r)) _ _ _;refine zbm (E8 hu I1 dp ru rr λh2 t2 I2 sb=>?_);obtain⟨⟨uo,eu,_,_⟩,q⟩:=w9 dp;have nd:it≠d:=λz=>by rw[<- z,B]at eu;cases eu
  refine zac ⟨zbB cF _,jH W hd hu fin l (j+1) _ H1 _ _ (by rw[zaT]at hn;lia) lt (W.frame _ _ _ N λb bf o eb=>?_) I2 ⟨by rw[q it nd];exact B,M,f2,G,F,J⟩ (λm p v2 hm hp=>?_) pu⟩
  ·exact(sb.2 b (λz=>hd (z ▸ bf))).trans eb
  ·obtain⟨c,e,sq⟩:=facts (m+1) p v2 (by simpa using hm) (by rw[show j+(m+1)=j+1+m by lia];exact hp)
   exact⟨c,e,G5 dp sq⟩
end
section
variable {X:Cx}
def Src(X:Cx)(H:Hp)(p:Addr)(ys:List V):Prop:=SqL X.K H p ys\/Rd H p (.tup ys)
theorem AB(hc:X.calm=true)(hu:X.A.units+64<cLine):CallR X (.type "dict") (λxs H Q=>∃p ys l,xs=[.ref p]/\Src X H p ys/\l.length=ys.length/\(∀(m:Nat) (pr:V×V),l[m]?=some pr->∃b,ys[m]?=some (.ref b)/\SqT X.K H b [pr.1,pr.2]) /\
  ∀q,H q=none->∃H2,(Puts q (upd H q (.dK [])) l H2\/Puts q (upd H q (.dT [])) l H2)/\Q (.ref q) H2):=by
 intro pins s σ H xs us Q I r h;obtain⟨p,ys,l,rfl,src,hl,ah,q⟩:=h;obtain⟨u,rfl,rx⟩:=vals1 r;cases rx;obtain⟨H2,pu,q⟩:=q s.heap.objs.size (I.hok.fresh (zan _));refine callType_codes (Q₁:=λak aa=>ak=.ref s.heap.objs.size/\aa={s with heap:=s.heap.push {cls:=.type "dict",data:=.dict #[]} }) PySem.F.kt_called_dict (PySem.F.kt_typeCall_dict_1 _) PySem.F.entry_dict_init (kt_code_dict_new _ ⟨rfl,rfl⟩) ?_;rintro ak aa ⟨rfl,rfl⟩;have n1:(s.heap.push {cls:=.type "dict",data:=.dict #[]}).get? s.heap.objs.size=some {cls:=.type "dict",data:=.dict #[]}:=zat _ rfl;have t1:zej {s with heap:=s.heap.push {cls:=.type "dict",data:=.dict #[]} } (.ref s.heap.objs.size) "dict" := ⟨_,n1,rfl⟩;refine⟨t1,PySem.F.args_dict_init_2 _ _,?_⟩;unfold za9.«dict.__init__»;refine zaa ?_;unfold Builtin.Dict.selfAndRest;refine zaa (zd9 t1 ?_);show wpAny _ _ (pure (s.heap.objs.size,[zal p])) _ _ _;refine zac ?_;show wpAny _ _ (zem "dict.__init__" s.heap.objs.size (.ref p) [] .none) _ _ _;unfold zem;obtain⟨Y,a2,IK,pu⟩:∃Y:HO,(Y=.dK []\/Y=.dT [])/\Inv X pins σ (upd H s.heap.objs.size Y) {s with heap:=s.heap.push {cls:=.type "dict",data:=.dict #[]} }/\Puts s.heap.objs.size (upd H s.heap.objs.size Y) l H2:=by
  rcases pu with pu|pu
  ·exact⟨_,.inl rfl,I.laid (a:=s.heap.objs.size) (o:=.dK []) (h':=s.heap.push {cls:=.type "dict",data:=.dict #[]}) (t':=s.toks) (λ_ _ q=>zag _ q) (zan _) (xK s.heap I.big),pu⟩
  ·exact⟨_,.inr rfl,I.laid (a:=s.heap.objs.size) (o:=.dT []) (h':=s.heap.push {cls:=.type "dict",data:=.dict #[]}) (t':=s.toks) (λ_ _ q=>zag _ q) (zan _) (pW s.heap I.big),pu⟩
 have an:∀b u,H b=some u->b≠s.heap.objs.size:=λb u e z=>zbc _ (by have:=(I.hok b u e).lt;rw[z]at this;exact this)
 have am:∀ {b:Addr} {zs:List V},SqT X.K H b zs->SqT X.K (upd H s.heap.objs.size Y) b zs:=λ{b zs} h=>by
  rcases h with(h|⟨o,h⟩)|h
  ·exact .inl (.inl (by rw[aE (an _ _ h)];exact h))
  ·exact .inl (.inr ⟨o,by rw[aE (an _ _ h)];exact h⟩)
  ·exact .inr h
 have ai:∀ {o:Obj},s.heap.get? p=some o->p<s.heap.objs.size:=λe=>zai e
 rcases src with sq|sq
 ·obtain⟨N,rv,pl,hz⟩:=I.list sq
  obtain⟨o,n,ho,G,af,J⟩:=id pl;have U:=rv.length;have B:(s.heap.push {cls:=.type "dict",data:=.dict #[]}).get? p=some o:=zag _ ho;refine zaa (zcq (s:={s with heap:=s.heap.push {cls:=.type "dict",data:=.dict #[]} }) ⟨o,B,G⟩ ?_);rw[if_pos (by decide)];refine zaa (nX (s:={s with heap:=s.heap.push {cls:=.type "dict",data:=.dict #[]} }) B G J af (I.ok.hd hc) λh' tk keep=>?_);simp only[Option.isNone_none,if_true];refine zaa (zbT (zaa (zcd (s:={s with heap:=h',toks:=tk}) (items:=N.toArray) ⟨o,keep _ _ B,G,n,J⟩ ?_)));have M:Inv X pins σ (upd H s.heap.objs.size Y) {s with heap:=h',toks:=tk}:=IK.kept (t':=tk) keep;have ae:Inv X pins σ (upd H s.heap.objs.size Y) {s with heap:=h'.push {cls:=.type "list_iterator",data:=.fields #[.ref p,.int 0 0]},toks:=tk}:=M.kept (t':=tk) λb o e=>zag _ e
  have lp:p<h'.objs.size:=zai (keep _ _ B);have ld:s.heap.objs.size<h'.objs.size:=zai (keep _ _ n1);have W:=Walks.list (prog:=X.prog) (w:=X.w) (A:=X.A.in1.in1) (I.ok.hd hc) h'.objs.size p (zay lp) N.toArray;refine zac ⟨zbB cF _,jH (X:=X) (pins:=pins) (σ:=σ) (H2:=H2) W (d:=s.heap.objs.size) ?_ (by show X.A.units+1+1+1<cLine;lia) ?_ l 0 _ _ _ _ ?_ (za3 _) ?_ ae ?_ ?_ pu⟩
  ·intro z
   rcases List.mem_cons.mp z with z|z
   ·exact zay ld z
   ·exact zaG (ai ho) (List.mem_singleton.mp z)
  ·exact λs' I'=>⟨rfl,.ref s.heap.objs.size,H2,I',rfl,q⟩
  ·rw[zaz,<- U,hl];lia
  ·exact⟨⟨_,zat _ rfl,rfl,rfl⟩,⟨o,zag _ (keep _ _ B),G,n,J⟩⟩
  ·exact M.fpOk (zan _) (M.hok.fresh (zan _))
  ·intro m pr v hm hv
   obtain⟨b,e1,e2⟩:=ah m pr hm;rw[zdc]at hv;refine⟨b,?_,am e2⟩;obtain⟨w',hw,ag⟩:=rv.get e1;rw[List.getElem?_toArray,hw]at hv;cases(show w'=zal b from ag);exact(zaI hv).symm
 ·obtain⟨hz,N,rv,o,ho,G,n,J,af⟩:=(show ObjOk X.prog X.w H s.heap p (.tup ys)from sq.ok I.hok)
  have U:=rv.length;have B:(s.heap.push {cls:=.type "dict",data:=.dict #[]}).get? p=some o:=zag _ ho;refine zaa (zcq (s:={s with heap:=s.heap.push {cls:=.type "dict",data:=.dict #[]} }) ⟨o,B,G⟩ ?_);rw[if_pos (by decide)];refine zaa (nD (s:={s with heap:=s.heap.push {cls:=.type "dict",data:=.dict #[]} }) B G J af (I.ok.hd hc) λh' tk keep=>?_);simp only[Option.isNone_none,if_true];refine zaa (zbT (zaa (zbM (s:={s with heap:=h',toks:=tk}) (items:=N.toArray) ⟨o,keep _ _ B,G,n,J⟩ ?_)));have M:Inv X pins σ (upd H s.heap.objs.size Y) {s with heap:=h',toks:=tk}:=IK.kept (t':=tk) keep;have ae:Inv X pins σ (upd H s.heap.objs.size Y) {s with heap:=h'.push {cls:=.type "tuple_iterator",data:=.fields #[.ref p,.int 0 0]},toks:=tk}:=M.kept (t':=tk) λb o e=>zag _ e
  have lp:p<h'.objs.size:=zai (keep _ _ B);have ld:s.heap.objs.size<h'.objs.size:=zai (keep _ _ n1);have W:=Walks.tuple (prog:=X.prog) (w:=X.w) (A:=X.A.in1.in1) (I.ok.hd hc) h'.objs.size p (zay lp) N.toArray;refine zac ⟨zbB cF _,jH (X:=X) (pins:=pins) (σ:=σ) (H2:=H2) W (d:=s.heap.objs.size) ?_ (by show X.A.units+1+1+1<cLine;lia) ?_ l 0 _ _ _ _ ?_ (za3 _) ?_ ae ?_ ?_ pu⟩
  ·intro z
   rcases List.mem_cons.mp z with z|z
   ·exact zay ld z
   ·exact zaG (ai ho) (List.mem_singleton.mp z)
  ·exact λs' I'=>⟨rfl,.ref s.heap.objs.size,H2,I',rfl,q⟩
  ·rw[zaz,<- U,hl];lia
  ·exact⟨⟨_,zat _ rfl,rfl,rfl⟩,⟨o,zag _ (keep _ _ B),G,n,J⟩⟩
  ·exact M.fpOk (zan _) (M.hok.fresh (zan _))
  ·intro m pr v hm hv
   obtain⟨b,e1,e2⟩:=ah m pr hm;rw[zdc]at hv;refine⟨b,?_,am e2⟩;obtain⟨w',hw,ag⟩:=rv.get e1;rw[List.getElem?_toArray,hw]at hv;cases(show w'=zal b from ag);exact(zaI hv).symm
end
section
variable {X:Cx}
theorem RB(h:H2 q=some u)(k:∀b,b≠q->H2 b=H b):H2=upd H q u:=funext λb=>by
 by_cases e:b=q
 ·subst e;rw[aI];exact h
 ·rw[aE e];exact k b e
def rF{κ:Type}[DecidableEq κ](kvs more:List (κ×V)):List (κ×V):=more.foldl (λq z=>putK q z.1 z.2) kvs
theorem J8:∀(prs:List (List Key×V)) (as:List Addr) (H:Hp) (xs:List (List Key×V)),H q=some (.dT xs)->xs.length+prs.length<zaj->zaV (λ(p:List Key×V) (b:Addr)=>H b=some (.tup (p.1.map kV))) prs as->∃H2,Puts q H ((prs.zip as).map λp=>(V.ref p.2,p.1.2)) H2/\H2 q=some (.dT (rF xs prs))/\∀b,b≠q->H2 b=H b
 | _,_,H,xs,e,hl,.nil=>⟨H,.nil,e,λ_ _=>rfl⟩
 | p::prs,b::as,H,xs,e,hl,.cons hp t=>by
  have J:=cG xs p.1 p.2;rw[zaT]at hl;obtain⟨H2,G,F,k⟩:=J8 prs as (upd H q (.dT (putK xs p.1 p.2))) (putK xs p.1 p.2) aI (by lia) (Paired.mapP t λp c z=>by rw[aE (DH z e (λz=>nomatch z))];exact z);exact⟨H2,.cons (DPut.t e hp (by lia)) G,F,λb B=>(k b B).trans (aE B)⟩
end
end My
namespace P
open PySem PySem.Spec PyProof.Rows L2
section
variable {X:Cx}{A:Av}{H:Hp}
def F2:List D->Option (List (List Key×D))
 | []=>some []
 | .tup [k,v]::l=>(y4 k).bind λkk=>(F2 l).map λr=>(kk,v)::r
 | _=>none
def rO{κ:Type}[DecidableEq κ](l more:List (κ×D)):List (κ×D):=more.foldl (λm p=>putD m p.1 p.2) l
theorem LQ{κ:Type}[DecidableEq κ]{more:List (κ×D)}{ys:List (κ×V)}(h:PP A H more ys):∀ {l:List (κ×D)} {xs:List (κ×V)},PP A H l xs->PP A H (rO l more) (My.rF xs ys):=by
 induction h with
 | nil=>intro l xs q;exact q
 | @cons p q ps qs h t ih=>
  intro l xs z;have:=ih (AQ p.1 h.2 z);rw[show rO l (p::ps)=rO (putD l p.1 p.2) ps from rfl,show My.rF xs (q::qs)=My.rF (putK xs q.1 q.2) qs from rfl,<- h.1];exact this
theorem yA:∀ {l:List D} {kvs:List (List Key×D)} {xs:List V},F2 l=some kvs->RepL A H l xs->∃(q:List (List Key×V)) (as:List Addr),PP A H kvs q/\q.length=xs.length/\zaV (λ(p:List Key×V) (b:Addr)=>H b=some (.tup (p.1.map kV))) q as/\∀(m:Nat) (z:V×V),((q.zip as).map λp=>(V.ref p.2,p.1.2))[m]?=some z->∃b,xs[m]?=some (.ref b)/\H b=some (.tup [z.1,z.2])
 | _,kvs,_,e,.nil=>by cases e;exact⟨[],[],.nil,rfl,.nil,λm z h=>by simp at h⟩
 | d::l,kvs,v::xs,e,.cons h t=>by
  unfold F2 at e;split at e
  ·cases ‹_::_=[]›
  ·rename_i k w l' heq
   injection heq with h1 h2
   subst h1 h2;obtain⟨W,Y,e⟩:=bind_some e;obtain⟨r,G,rfl⟩:=map_some e;obtain⟨q,as,F,M,U,hm⟩:=yA G t;obtain⟨a,zs,rfl,N,B⟩:=RepB.tup_inv (.of h);cases B with
   | @cons _ z1 _ zs1 q1 B=>
   cases B with
   | @cons _ z2 _ zs2 q2 B=>
   cases B;obtain⟨b,rfl,J⟩:=nJ Y (.of q1);refine⟨(W,z2)::q,b::as,.cons ⟨rfl,q2⟩ F,by simp[M],.cons J U,λm z h=>?_⟩;cases m with
   | zero=>simp at h;subst h;exact⟨a,rfl,N⟩
   | succ m=>exact hm m z (by simpa using h)
  ·cases e
noncomputable def OZ:D->Option (List D)
 | .lst l=>some l
 | .tup l=>some l
 | _=>none
def vJ:List D->Option D
 | [.dT l]=>DO [.dT l]
 | [d]=>(OZ d).bind λl=>if aX l.length then(F2 l).map λkvs=>.dT (rO [] kvs)else none
 | _=>none
theorem GE(h:OZ d=some l)(r:RepB A H d v):∃p ys,v=.ref p/\My.Src X H p ys/\RepL A H l ys:=by
 cases d with
 | lst m=>cases h;obtain⟨a,xs,rfl,h1,h2⟩:=r.lst_inv;exact⟨a,xs,rfl,.inl (.inl h1),h2⟩
 | tup m=>cases h;obtain⟨a,xs,rfl,h1,h2⟩:=r.tup_inv;exact⟨a,xs,rfl,.inr (.inl h1),h2⟩
 | _=>cases h
theorem szL(h:aX n=true):0+n<zaj:=by rw[zdc];exact nQ h
theorem HS(hc:X.calm=true)(hu:X.A.units+64<cLine):yP X (.type "dict") vJ:=by
 intro pins s σ H xs us Q I r h;obtain⟨A,ds,d,W,Y,e,q⟩:=h;unfold vJ at e;split at e
 ·exact NZ pins s σ H xs us Q I r ⟨A,_,d,W,Y,e,q⟩
 ·obtain⟨l,e1,e⟩:=bind_some e
  split at e
  ·rename_i hz
   obtain⟨kvs,e2,rfl⟩:=map_some e;obtain⟨v,rfl,h1⟩:=Y.one;obtain⟨p,ys,rfl,src,F⟩:=GE (X:=X) e1 h1;obtain⟨B,as,pp,hl,N,hm⟩:=yA e2 F;have G:=F.length;have M:=zbX N;refine My.AB hc hu pins s σ H _ us Q I r ⟨p,ys,(B.zip as).map λp=>(V.ref p.2,p.1.2),rfl,src,by rw[zao,List.length_zip,<- M,Nat.min_self];exact hl,λm pr h=>?_,λa J=>?_⟩
   ·obtain⟨b,x1,x2⟩:=hm m pr h
    exact⟨b,x1,.inl (.inl x2)⟩
   ·obtain⟨H2,pu,e3,k⟩:=My.J8 B as (upd H a (.dT [])) [] aI (by rw[hl,G];exact szL hz) (Paired.mapP N λp c z=>by rw[aE (λw=>by rw[w,J]at z;cases z)];exact z)
    have eH:H2=upd H a (.dT (My.rF [] B)):=My.RB e3 λb U=>(k b U).trans (aE U)
    obtain⟨f1,f2⟩:=DD (LQ pp (Paired.nil));refine⟨H2,.inr pu,?_⟩;rw[eH];exact q a _ (Ext.new J) J (λz=>W a z J) (.dT aI f1 (f2.fresh J))
  ·cases e
 ·cases e
end
end P
namespace My
open PySem PySem.Spec PyProof.Rows L2 PySem.SeqAt
section
variable {X:Cx}
end
end My
namespace P
open PySem PySem.Spec PyProof.Rows L2
section
variable {X:Cx}{O:List Nat}
end
section
variable {X:Cx}{O:List Nat}{e:Expr}{es:List Expr}
theorem GB(z:PD X O e f)(q:y8 X O es g)(hs:isStar e=false:=by rfl):y8 X O (e::es) (aC f g):=GZ z q (cK hs)
theorem X2(z:PB X O e f)(q:nU X O es g)(hs:isStar e=false:=by rfl):nU X O (e::es) (aC f g):=yJ z q (cK hs)
theorem lc(h:Len g n):Len (aC f g) (n+1):=GO h
theorem l0:Len aY 0:=N6
variable {x:Str}{id T:String}{g:List D->Option D}{f:Lv}{p pos:Pos}
theorem cB(J:hW X (.builtin id) g)(N:X.mg x=none)(B:zaM x=some (.builtin id))(F:nU X O (e::es) f)(G:Gl X x:=by rfl)(M:x ≠ "__name__" := by decide)(q:(x == ("__debug__" : Str))=false:=by decide)(hs:isStar e=false:=by rfl)(z:(es.all λe=>!isStar e)=true:=by rfl) :
  PD X O (.Call (.Name x p) (e::es) [] pos) (aP g f):=G7 J G N B F M q (cK hs) (iS z)
theorem X3(J:hW X (.type T) g)(N:X.mg x=none)(B:zaM x=some (.type T))(F:nU X O (e::es) f)(G:Gl X x:=by rfl)(M:x ≠ "__name__" := by decide)(q:(x == ("__debug__" : Str))=false:=by decide)(hs:isStar e=false:=by rfl)(z:(es.all λe=>!isStar e)=true:=by rfl) :
  PD X O (.Call (.Name x p) (e::es) [] pos) (aP g f):=FB J G N B F M q (cK hs) (iS z)
theorem qo(J:yP X (.type T) g)(N:X.mg x=none)(B:zaM x=some (.type T))(F:nU X O (e::es) f)(G:Gl X x:=by rfl)(M:x ≠ "__name__" := by decide)(q:(x == ("__debug__" : Str))=false:=by decide)(hs:isStar e=false:=by rfl)(z:(es.all λe=>!isStar e)=true:=by rfl) :
  PF X O (.Call (.Name x p) (e::es) [] pos) (aP g f):=DX J G N B F M q (cK hs) (iS z)
theorem cD(O':Fn X.prog X.w X.K X.mg X.base x k ps F)(B:Room k X.A)(J:y8 X O (e::es) f)(G:Len f ps.length)(M:Gl X x:=by rfl)(q:(x == ("__debug__" : Str))=false:=by decide)(hs:isStar e=false:=by rfl)(z:(es.all λe=>!isStar e)=true:=by rfl) :
  PD X O (.Call (.Name x p) (e::es) [] pos) (aP F f):=ME O' B M J G q (cK hs) (iS z)
theorem cn{L:Lp}{z O2 O3:List Nat}{st:Stmt}{q:List Stmt}{f g:Sv}(h:iD X L z st f O2)(k:dM X L O2 q g O3):dM X L z (st::q) (bD f g) O3:=GV h k
end
def qx(P:zam)(w:World)(K:zaf)(mg:Str->Option Value)(base:Heap)(N:List Str)(x:Str)(st:Stmt)(k:Nat)(b:Sv):Prop:=
 ∀(fa:Addr) (cdv:Value) (A:zar) (outer:List Env) (s:zab) (H:Hp) (E:XK),Room k (A.deeper (zbn x (aT st) s.heap.objs.size fa cdv))->∃g,dM (rR F6 P w K mg base N x (aT st) fa cdv A outer s H E).nox ⟨[],[]⟩ [] (bZ st) g []/\g=b
end P
namespace My
open PySem PySem.Spec PyProof.Rows L2 PySem.SeqAt
theorem args_max1(a:Value):argsOk "max" ⟨[a],[]⟩:=by unfold argsOk;kernel_rfl
section
variable {prog:zam}{w:World}{A:zar}{R:Result->zab->Prop}{I S:Addr}{fp wr:List Addr}{n:Nat}{P:Nat->Value->Prop}{St:Nat->Heap->Prop}
theorem zJ(W:Walks prog w A.in1 I fp wr n P St)(val:Nat->Int)(Y:∀j v,P j v->∃t,v=.int (val j) t)(J:S∉fp)(st:St 0 s.heap)
  (U:s.heap.get? S=some {cls:=.type "list",dict:=none,data:=.seq #[] c,slots:=#[]}) (lt:0<n)
  (fin:∀t' h' tk,(∀b o,b∉wr->b≠S->s.heap.get? b=some o->h'.get? b=some o)->R (.ok (.ret (.int (P5 val (n-1) 1 (val 0)) t'))) {s with heap:=h',toks:=tk}) :
  zbr (model prog w) A (.builtin "max.loop" ⟨[.ref I,.none,.ref S],[]⟩) R s:=by
 have nw:S∉wr:=λz=>J (W.sub _ z)
 have nm:(zca "max" ++ zca ".loop" : String) = "max.loop" := by decide
 refine zcj zfj ?_;rw[zck zcm _];show wpAny _ A.in1 (zdB (.ref S) >>= λ_=>_) _ _ s;refine zaa (za5 U rfl ?_);show wpAny _ A.in1 (tryCatch (zaH (.ref I)) _ >>= λ_=>_) _ _ s;refine zaa (zcR (W.item 0 s _ _ lt st λv h1 tk pv N same=>?_));have B:=same S _ nw U;obtain⟨u,rfl⟩:=Y 0 v pv;show wpAny _ A.in1 (zcQ S (λ_=>#[.int (val 0) u,.int (val 0) u]) >>= λ_=>_) _ _ _;refine zaa (zct B rfl ?_);rw[nm];refine zac ⟨zbB zcm _,iH W val Y J (n-1) 1 _ (val 0) u _ rfl lt (W.frame _ _ _ N λb bf o M=>?_) (zbR _ B rfl) λt' h2 G q=>?_⟩
 ·exact(zbI _ _ (λz:S=b=>J (z ▸ bf))).trans M
 ·exact fin t' h2 G λb o nb F M=>q b o nb F ((zbI _ _ (zaR F)).trans (same b o nb M))
end
section
variable {X:Cx}
theorem AN(hc:X.calm=true)(I:Inv X pins σ H s)(hq:SqT X.K H p (ns.map V.int))(hn:ns≠[])(q:Q (.int (lQ 0 ns)) H) :
  wpAny (model X.prog X.w) X.A (call (.builtin "max") [.ref p]) (EP X pins σ Q) X.xe s:=by
 have nm:(zca "max" ++ zca ".loop" : String) = "max.loop" := by decide
 obtain⟨B,Y,pl,hz⟩:=I.tuple hq;have M:s.heap.IsTuple p B.toArray:=pl;obtain⟨o,U,ad,n,hd⟩:=id M;have N:p≠s.heap.objs.size:=zay (zai U);have W:=Walks.tuple (prog:=X.prog) (w:=X.w) (A:=X.A.in1) (I.ok.hd hc) s.heap.objs.size p N B.toArray;refine kmk_tree PySem.F.kind_max PySem.F.plain_max PySem.F.entry_max (args_max1 _) ?_;show wpAny _ X.A.in1 (zeF "max" ["key", "default"] 0 ⟨[],[]⟩ >>= λ_=>_) _ _ s;refine zaa (zdv (show zeF "max" ["key", "default"] 0 ⟨[],[]⟩=pure [none,none]from rfl) ?_);refine zaa (zac (zaa (zbM M (zaa (zel ?_ (za3 _))))));rw[nm];refine zac ⟨zbB zcm _,?_⟩;have G:=Y.length;rw[zao]at G;have sz:B.toArray.size=ns.length:=by rw[zaz];exact G.symm
 have keep:∀h':Heap,(∀b o,b∉[s.heap.objs.size]->b≠(s.heap.push {cls:=.type "tuple_iterator",data:=.fields #[.ref p,.int 0 0]}).objs.size->((s.heap.push {cls:=.type "tuple_iterator",data:=.fields #[.ref p,.int 0 0]}).push (za1 "list" #[] 0)).get? b=some o->h'.get? b=some o)->∀b o,s.heap.get? b=some o->h'.get? b=some o:=λh' k b o e=>by
  have lt:=zai e;refine k b o (λz=>zay lt (List.mem_singleton.mp z)) ?_ (zag _ (zag _ e));rw[size_push'];exact zay (Nat.lt_succ_of_lt lt)
 have J:0<B.toArray.size:=by
  rw[sz];exact List.length_pos_iff.mpr hn
 refine zJ W (λi=>(ns[i]?).getD 0) (λi v hP=>x8 Y (by simpa using hP)) (S:=(s.heap.push {cls:=.type "tuple_iterator",data:=.fields #[.ref p,.int 0 0]}).objs.size) ?_ ?_ (zat _ rfl) J λt' h' tk same=>?_
 ·rw[size_push']
  intro z;rcases List.mem_cons.mp z with z|z
  ·exact zaG (zdb _) z
  ·exact zbc _ (zcM (zdb _) ((List.mem_singleton.mp z) ▸ zai U))
 ·exact⟨⟨_,zag _ (zat _ rfl),rfl,rfl⟩,M.at λo e=>zag _ (zag _ e)⟩
 ·refine⟨.int (lQ 0 ns),H,I.kept (t':=tk) (keep h' same),⟨t',?_⟩,q⟩
  rw[sz];cases ns with
  | nil=>exact absurd rfl hn
  | cons x xs=>
   rw[pV (x::xs) _ 1 _ (by simp)];rfl
theorem RS(G:∀v s,¬ X.xe v s)(F:PSs X body t):PS X (.Try body (h₀::hs) [] [] pos) t:=λpins s σ H D I hw=>
 wpAny_Try_except (za8 (F pins s σ H D I hw) (λf B q=>by
  cases f with
  | next=>exact zac q
  | _=>exact q) λv B z=>absurd z (G v B))
end
end My
namespace P
open PySem PySem.Spec PyProof.Rows L2
section
variable {X:Cx}{O O':List Nat}{L:Lp}
theorem LP(z:∀v s,¬ X.xe v s)(q:dM X L O body f O'):iD X L O (.Try body (h₀::hs) [] [] pos) f O':=My.RS z q
def yT:List D->Option D
 | [.tup l]=>(dW l).bind λns=>if ns=[]then none else some (.int (My.lQ 0 ns))
 | _=>none
theorem MO(G:X.calm=true):hW X (.builtin "max") yT:=by
 intro pins s σ H xs us Q I r h;obtain⟨A,ds,d,M,z,e,q⟩:=h;unfold yT at e;split at e
 ·rename_i l
  obtain⟨ns,J,e⟩:=bind_some e;split at e
  ·cases e
  ·rename_i hn
   cases e;obtain⟨v,rfl,h1⟩:=z.one;obtain⟨a,ys,rfl,h2,F⟩:=h1.tup_inv;rw[cT J F]at h2;obtain⟨u,rfl,B⟩:=vals1 r;cases B;exact My.AN G I (.inl (.inl h2)) hn (q _ H (Ext.refl _ _) (.int _))
 ·cases e
@[simp] theorem q_max1:yT [.tup (.int n::ns.map .int)]=some (.int (My.lQ 0 (n::ns))):=by
 have e:dW (.int n::ns.map .int)=some (n::ns):=eN (n::ns);show(dW (.int n::ns.map .int)).bind _=_;rw[e];rfl
end
end P
namespace My
open PySem PySem.Spec PyProof.Rows L2
def B4(r J U:R2)(ta tb tc td:TE):TE:=λσ H Q=>ta σ H λx H1=>tb σ H1 λy H2=>r x y H2 λz B=>∃k,z=.bl k /\
 (if k=true then tc σ B λG W=>J y G W λN q=>∃F,N=.bl F/\(if F=true then td σ q λu M=>U G u M Q else Q (.bl false) q)else Q (.bl false) B)
theorem EL(ho:OpR X (zaq op) r)(F:OpR X (zaq op') r')(G:OpR X (zaq op3) J)(ha:PE X a ta)(hb:PE X b tb)(hc:PE X c tc)(hd:PE X d td)
  (hm:zcW [op,op',op3] [b,c,d]=false:=by with_unfolding_all rfl):PT X (.Compare a [op,op',op3] [b,c,d] pos) (KC (B4 r r' J ta tb tc td)):=by
 intro pins s σ H Q I h;refine isTrue_chain (bL (ha pins s σ H _ I h) λv s1 ⟨x,H1,I1,r1,q1⟩=>test_link (bL (hb pins s1 σ H1 _ I1 q1) λu s2 ⟨y,H2,I2,Y,q2⟩=>
  bL (ho pins s2 σ H2 x y v u _ I2 r1 Y q2) λd s3 ⟨z,W,U,J,k,e,M⟩=>?_)) hm
 subst e;cases J;refine zbx ?_;cases k with
 | false=>
  obtain⟨k',B,q⟩:=M;cases B;exact ite_ff ⟨W,U,q⟩
 | true=>
  refine ite_tt (test_link (bL (hc pins s3 σ W _ U M) λw' s4 ⟨y',H4,I4,r4,q4⟩=>bL (F pins s4 σ H4 y y' u w' _ I4 Y r4 q4) λd2 s5 ⟨z2,H5,I5,r5,k2,e2,N⟩=>?_));subst e2;cases r5;refine zbx ?_;cases k2 with
  | false=>
   obtain⟨k',B,q⟩:=N;cases B;exact ite_ff ⟨H5,I5,q⟩
  | true=>
   refine ite_tt (test_last (bL (hd pins s5 σ H5 _ I5 N) λw2 s6 ⟨z',H6,I6,r6,q6⟩=>bL (G pins s6 σ H6 y' z' w' w2 _ I6 r4 r6 q6) λd' s7 ⟨z3,H7,I7,r7,k3,e3,q7⟩=>?_));subst e3;cases r7;exact zbx ⟨H7,I7,q7⟩
end My
namespace P
open PySem PySem.Spec PyProof.Rows L2
section
variable {X:Cx}{O:List Nat}
def nF(g g' G:D->D->Option D)(M J F fd:Ev):Ev:=λρ=>(M ρ).bind λx=>(J ρ).bind λy=>(g x y).bind λz=>(yZ z).bind λb=>if b=true then(F ρ).bind λw=>(g' y w).bind λB=>(yZ B).bind λq=>if q=true then(fd ρ).bind λu=>G w u else some (.bl false)else some (.bl false)
@[simp] theorem q_chain3:nF g g' g3 fa fb fc fd ρ=(fa ρ).bind λx=>(fb ρ).bind λy=>(g x y).bind λz=>(yZ z).bind λb=>if b=true then(fc ρ).bind λw=>(g' y w).bind λB=>(yZ B).bind λq=>if q=true then(fd ρ).bind λu=>g3 w u else some (.bl false)else some (.bl false):=rfl
theorem AE(h:tD Rep O (nF g g' g3 fa fb fc fd) σ H Q):My.B4 (rD g) (rD g') (rD g3) (tD RepB O fa) (tD RepB O fb) (tD RepB O fc) (tD RepB O fd) σ H Q:=by
 obtain⟨H0,A0,A,E,ρ,d,st,e,q⟩:=h;obtain⟨x,ex,e⟩:=bind_some e;obtain⟨y,ey,e⟩:=bind_some e;obtain⟨z,ez,e⟩:=bind_some e;obtain⟨b,eb,e⟩:=bind_some e;rw[eB eb]at ez;refine⟨H0,A0,A,E,ρ,x,st,ex,λv H1 U r1=>⟨H0,A0,A,E,ρ,y,st.mono U,ey,λw H2 W r2=>⟨A,x,y,_,(st.mono (U.trans W)).live,r1.ext W,r2,ez,λz H3 Y r3=>⟨b,RepB.bl_inv (.of r3),?_⟩⟩⟩⟩;have B:=(U.trans W).trans Y;cases b with
 | false=>rw[if_neg zau]at e ⊢;cases e;exact q _ H3 B (.bl _)
 | true=>
  rw[if_pos rfl]at e ⊢;obtain⟨u,eu,e⟩:=bind_some e;obtain⟨z2,G,e⟩:=bind_some e;obtain⟨b2,M,e⟩:=bind_some e;rw[eB M]at G;refine⟨H0,A0,A,E,ρ,u,st.mono B,eu,λz' H4 N r4=>⟨A,y,u,_,(st.mono (B.trans N)).live,r2.ext (Y.trans N),r4,G,λz2 H5 x5 r5=>⟨b2,RepB.bl_inv (.of r5),?_⟩⟩⟩;have F:=(B.trans N).trans x5;cases b2 with
  | false=>rw[if_neg zau]at e ⊢;cases e;exact q _ H5 F (.bl _)
  | true=>
   rw[if_pos rfl]at e ⊢;obtain⟨t,et,e⟩:=bind_some e;exact⟨H0,A0,A,E,ρ,t,st.mono F,et,λz6 H6 J r6=>⟨A,u,t,d,(st.mono (F.trans J)).live,r4.ext (x5.trans J),r6,e,λz7 H7 x7 r7=>q z7 H7 ((F.trans J).trans x7) r7⟩⟩
theorem zK(B:eY X (zaq op) g)(q:eY X (zaq op') g')(z:eY X (zaq op3) g3)(J:PB X O a fa)(G:PB X O b fb)(M:PB X O c fc)(F:PB X O d fd)
  (N:zcW [op,op',op3] [b,c,d]=false:=by with_unfolding_all rfl):m8 X O (.Compare a [op,op',op3] [b,c,d] pos) (eJ (nF g g' g3 fa fb fc fd)):=PT.mono (My.EL B q z J G M F N) λσ H Q h=>AE (g8 h)
end
end P
namespace My
open PySem PySem.Spec PyProof.Rows L2
def KW(i j:Int):Prop:=(-(10^250*10^250)<i/\i<10^250*10^250)/\-(10^250*10^250)<j/\j<10^250*10^250
theorem xJ(h1:-(10^250*10^250)<i)(h2:i<10^250*10^250):Builtin.Int.intBits i<=2^20:=by
 have h:i.natAbs<10^250*10^250:=by lia
 have e:(10:Nat)^250*10^250<=2^(4*250+4*250):=by
  rw[Nat.pow_add,Nat.pow_mul];have:(10:Nat)^250<=(2^4)^250:=Nat.pow_le_pow_left (by decide) 250;exact Nat.mul_le_mul this this
 exact zbd (PyProof.Rows.intBits_le (zbb h e)) (by decide)
theorem OB:OpR X (zaW .Mult) (rI KW λi j=>.int (i*j)):=YB λ_ _ _ _ _ _ _ z q=>mul_int q (IntMulOk.of_bits (xJ z.1.1 z.1.2) (xJ z.2.1 z.2.2))
end My
namespace P
open PySem PySem.Spec PyProof.Rows L2
instance:∀i j,Decidable (My.KW i j):=λi j=>by unfold My.KW;infer_instance
def JP:D->D->Option D:=F8 λi j=>if My.KW i j then some (.int (i*j))else none
open Classical in
def b5:D->D->Option D:=F8 λi j=>if My.KW i j then some (.int (i*j))else none
theorem B9:b5=JP:=by
 unfold b5 JP;congr 1
theorem MM:eY X (zaW .Mult) b5:=by rw[B9];exact vC My.OB
theorem c8(h:-(10^250*10^250)<i)(h1:i<10^250*10^250)(h2:-(10^250*10^250)<j)(q:j<10^250*10^250):b5 (.int i) (.int j)=some (.int (i*j)):=by
 rw[B9];exact if_pos ⟨⟨h,h1⟩,h2,q⟩
end P
namespace My
open PySem PySem.Spec PyProof.Rows L2 PySem.SeqAt
section
variable {X:Cx}
end
end My
namespace P
open PySem PySem.Spec PyProof.Rows L2
section
variable {X:Cx}{O Oi:List Nat}
end
end P
namespace My
open PySem PySem.Spec PySem.Calls PySem.W PySem.Builtin PySem.Builtin.ObjectAttr PySem.Builtin.Getset_descriptor
section
variable {prog:zam}{w:World}{A:zar}{E:Value->zab->Prop}{h:Heap}{g:Array GenState}{d:Drawn}{t:Nat}{os:OsState}{a C:Addr}{o:Obj}{K:Frag}
end
end My
namespace My
open PySem PySem.Spec PyProof.Rows L2 PySem.SeqAt
section
variable {l:List Env}{fs fr:List Addr}{h0 h1 h:Heap}{e C:Addr}{H H1:Hp}{P:zam}{w:World}
end
section
variable {X:Cx}{pins:List (Addr×Obj)}{σ:L2.St}{H:Hp}{s:zab}{ea:Addr}{oe:Obj}
end
end My
namespace My
open PySem PySem.Spec PyProof.Rows L2 PySem.SeqAt PySem.W
section
variable {X:Cx}{pins:List (Addr×Obj)}{σ:L2.St}{H:Hp}{s:zab}
theorem any_cons{K:zaf}{t c:Value}{cs:List Value}(h:zdk K t c=some false)(r:zeH K t cs=some false):zeH K t (c::cs)=some false:=by
 unfold zeH;rw[h];exact r
end
end My
namespace P
open PySem PySem.Spec PyProof.Rows L2
section
variable {X:Cx}{L:Lp}{O O2 O':List Nat}
end
section
variable {X:Cx}{O:List Nat}
end
end P
namespace My
open PySem PySem.Spec PyProof.Rows L2 PySem.SeqAt
section
variable {X:Cx}
def qr(cs:List V):TA:=λ_ H Q=>Q cs H
def PO(X:Cx)(q:Addr)(es:List Expr):Prop:=∃cs:List V,PA X es (qr cs)/\(cs.length=es.length)/\∀us,Vals cs us->zeH X.K (.ref q) us=some false
end
end My
namespace P
open PySem PySem.Spec PyProof.Rows L2
section
variable {X:Cx}{L:Lp}{O O':List Nat}
end
end P
namespace My
open PySem PySem.Spec PyProof.Rows L2 PySem.SeqAt
end My
namespace P
open PySem PySem.Spec PyProof.Rows L2
section
variable {X:Cx}{L:Lp}{O O':List Nat}
end
section
variable {X:Cx}{L:Lp}{O O' O2:List Nat}
end
section
variable {X:Cx}{L:Lp}{O O' O2:List Nat}{Z:List Nat}
end
end P
namespace My
open PySem PySem.Spec PyProof.Rows L2
section
variable {X:Cx}
end
end My
namespace P
open PySem PySem.Spec PyProof.Rows L2
section
variable {X:Cx}
end
end P
namespace My
open PySem PySem.Spec PyProof.Rows L2
end My
namespace P
open PySem PySem.Spec PyProof.Rows L2
section
variable {X:Cx}{O:List Nat}
end
end P
namespace My
open PySem PySem.Spec PyProof.Rows L2
section
variable {X:Cx}
end
end My
namespace P
open PySem PySem.Spec PyProof.Rows L2
section
variable {X:Cx}{O:List Nat}
end
variable {X:Cx}{O:List Nat}{e:Expr}
theorem vb(i:Nat)(h:PE X e (sJ i):=by exact pv _):PB X O e (aB i):=J9 i h
mutual
def frz:D->Bool
 | .tup l=>UL l
 | .lst _=>false
 | .dK _=>false
 | .dT _=>false
 | _=>true
def UL:List D->Bool
 | []=>true
 | d::l=>frz d && UL l
end
mutual
theorem Rep.frz:Rep A H d v->P.frz d=true->Rep A' H d v
 | .non,_=>.non
 | .bl b,_=>.bl b
 | .int i,_=>.int i
 | .str s,_=>.str s
 | .tup h r,f=>.tup h (RepL.frz r f)
 | .lst n h r,f=>nomatch f
 | .dK n h e r,f=>nomatch f
 | .dT n h e r,f=>nomatch f
theorem RepL.frz:RepL A H ds vs->UL ds=true->RepL A' H ds vs
 | .nil,_=>.nil
 | .cons h t,f=>.cons (Rep.frz h (Bool.and_eq_true_iff.mp f).1) (RepL.frz t (Bool.and_eq_true_iff.mp f).2)
end
section
variable {X:Cx}{O:List Nat}
end
end P
namespace My
open PySem PySem.Spec PyProof.Rows L2
end My
namespace P
open PySem PySem.Spec PyProof.Rows L2
section
variable {X:Cx}{O:List Nat}
end
end P
namespace My
open PySem PySem.Spec PyProof.Rows L2
abbrev cL(h:Heap)(T:Addr)(a b c:Value):Prop:=h.get? T=some {cls:=.type "tuple",data:=.seq #[a,b,c]}
structure ZB(z TI TO i1 i2 i3 l1 l2 l3:Addr):Prop where
 zT:TI≠z/\TI≠TO/\TI≠i1/\TI≠i2/\TI≠i3
 zO:TO≠z/\TO≠i1/\TO≠i2/\TO≠i3
 z1:i1≠z/\i1≠i2/\i1≠i3
 z2:i2≠z/\i2≠i3
 z3:i3≠z
 l1:l1≠z/\l1≠TO/\l1≠i1/\l1≠i2/\l1≠i3
 l2:l2≠z/\l2≠TO/\l2≠i1/\l2≠i2/\l2≠i3
 l3:l3≠z/\l3≠TO/\l3≠i1/\l3≠i2/\l3≠i3
section
variable {prog:zam}{w:World}{A:zar}{E:Value->zab->Prop}{s:zab}
theorem cP(hT:cL s.heap T a b c)
  (h:∀h',h'.get? T=some {cls:=.type "tuple",data:=.seq ((#[a,b,c]:Array Value).setIfInBounds k x)}->zaS T s.heap h'->Q () {s with heap:=h'}) :
  wpAny (model prog w) A (zcQ T (·.setIfInBounds k x)) Q E s:=by
 refine zct hT rfl (h _ ?_ (zci ..));rw[zbR _ hT rfl];simp[zbg]
theorem D3{t1 t2 t3:Bool}{z TI TO N i2 W l1 l2 l3:Addr}{k:Nat}{xs ys ws:Array Value}{x y u a b c:Value}{Q:Option Value->zab->Prop}(D:ZB z TI TO N i2 W l1 l2 l3)
  (hz:IsZip s.heap z TI TO .none) (br:cL s.heap TI (.ref N) (.ref i2) (.ref W)) (bq:cL s.heap TO a b c) (h1:SIt t1 s.heap N l1 k) (h2:SIt t2 s.heap i2 l2 k) (h3:SIt t3 s.heap W l3 k) (bl:SSq t1 s.heap l1 xs) (bc:SSq t2 s.heap l2 ys) (be:SSq t3 s.heap l3 ws) (hx:xs[k]?=some x) (hy:ys[k]?=some y) (hu:ws[k]?=some u)
  (hQ:∀h',IsZip h' z TI TO (zaN s.heap.objs.size)->cL h' TO x y u->SIt t1 h' N l1 (k+1)->SIt t2 h' i2 l2 (k+1)->SIt t3 h' W l3 (k+1)->cL h' s.heap.objs.size x y u->h'.objs.size=s.heap.objs.size+1->(∀c o,c≠z->c≠TO->c≠N->c≠i2->c≠W->s.heap.get? c=some o->h'.get? c=some o)->Q (some (.ref s.heap.objs.size)) {s with heap:=h'}) :
  wpAny (model prog w) A (zaH (.ref z)) Q E s:=by
 have hT:s.TypeIs (.ref z) "zip" := ⟨_,hz,rfl⟩;obtain⟨T1,T2,T3,T4,T5⟩:=D.zT;obtain⟨O1,O2,O3,O4⟩:=D.zO;obtain⟨a1,a2,a3⟩:=D.z1;obtain⟨b1,b2⟩:=D.z2;have c1:=D.z3;obtain⟨m1,m2,m3,m4,m5⟩:=D.l1;obtain⟨n1,n2,n3,n4,n5⟩:=D.l2;obtain⟨p1,p2,p3,p4,p5⟩:=D.l3;unfold zaH;refine zaa (zb5 (zbt (name:=za0 "__next__") hT zcu (zba zcu hT zeo ?_ (zep _))));show wpAny _ _ (field (.ref z) 2 >>= _) _ _ s;refine zaa (zaC hz rfl (x:=.bool false) rfl ?_);show wpAny _ _ (field (.ref z) 3 >>= _) _ _ s;refine zaa (zaC hz rfl (x:=.ref TI) rfl (zaa (za5 br rfl ?_)));show wpAny _ _ (zb8 (.ref z) >>= _) _ _ s;refine zaa ?_;unfold zb8;refine zaa (zaC hz rfl (x:=.none) rfl (zac ?_));simp only[if_true];refine zaa (zbT (zaa (zaC hz rfl (x:=.ref TO) rfl (zaa (zaZ hz (by simp) λha ad sa=>?_)))));replace ad:IsZip ha z TI TO .ellipsis:=ad;refine zaa ?_;simp only[zeq,zer,zdC,zes];refine zaa (zaa (zb9 ?_));show wpAny _ _ (zbw (.ref N) >>= _) _ _ {s with heap:=ha};have ea:=sa.extBut;refine zaa (next_item (t:=t1) (xs:=xs) (h1.to λo e=>ea _ _ a1 e) (bl.to λo e=>ea _ _ m1 e) hx λhb bp sb=>zac ?_);have eb:=sb.extBut;have ab:cL hb TO a b c:=eb _ _ O2 (ea _ _ O1 bq);refine zaa (za5 ab rfl (zaa (cP ab λhc F sc=>?_)));replace F:cL hc TO x b c:=F;have ec:=sc.extBut;refine zaa (zbu (zac ?_));refine zaa (zaa (zb9 ?_));show wpAny _ _ (zbw (.ref i2) >>= _) _ _ {s with heap:=hc};refine zaa (next_item (t:=t2) (xs:=ys) (h2.to λo e=>ec _ _ O3.symm (eb _ _ a2.symm (ea _ _ b1 e))) (bc.to λo e=>ec _ _ n2 (eb _ _ n3 (ea _ _ n1 e))) hy λhd bm sd=>zac ?_);have ed:=sd.extBut;have M:cL hd TO x b c:=ed _ _ O3 F;refine zaa (za5 M rfl (zaa (cP M λhe G se=>?_)));replace G:cL he TO x y c:=G;have ee:=se.extBut;refine zaa (zbu (zac ?_));refine zaa (zaa (zb9 ?_));show wpAny _ _ (zbw (.ref W) >>= _) _ _ {s with heap:=he};refine zaa (next_item (t:=t3) (xs:=ws) (h3.to λo e=>ee _ _ O4.symm (ed _ _ b2.symm (ec _ _ O4.symm (eb _ _ a3.symm (ea _ _ c1 e))))) (be.to λo e=>ee _ _ p2 (ed _ _ p4 (ec _ _ p2 (eb _ _ p3 (ea _ _ p1 e))))) hu λhj a5 sj=>zac ?_);have ej:=sj.extBut;have Y:cL hj TO x y c:=ej _ _ O4 G;refine zaa (za5 Y rfl (zaa (cP Y λq B sf=>?_)));replace B:cL q TO x y u:=B;have ef:=sf.extBut;refine zaa (zbu (zac (zac ?_)));refine zaa (za5 B rfl (zaa (zc9 ?_)));have hsz:q.objs.size=s.heap.objs.size:=by rw[sf.1,sj.1,se.1,sd.1,sc.1,sb.1,sa.1]
 have U:IsZip q z TI TO .ellipsis:=ef _ _ O1.symm (ej _ _ c1.symm (ee _ _ O1.symm (ed _ _ b1.symm (ec _ _ O1.symm (eb _ _ a1.symm ad)))));have bb:∀c o,c≠z->c≠TO->c≠N->c≠i2->c≠W->s.heap.get? c=some o->q.get? c=some o:=λc o q1 q2 q3 q4 q5 e=>ef _ _ q2 (ej _ _ q5 (ee _ _ q2 (ed _ _ q4 (ec _ _ q2 (eb _ _ q3 (ea _ _ q1 e))))))
 have bg:SIt t1 q N l1 (k+1):=bp.to λo e=>ef _ _ O2.symm (ej _ _ a3 (ee _ _ O2.symm (ed _ _ a2 (ec _ _ O2.symm e))))
 have bh:SIt t2 q i2 l2 (k+1):=bm.to λo e=>ef _ _ O3.symm (ej _ _ b2 (ee _ _ O3.symm e))
 have ba:SIt t3 q W l3 (k+1):=a5.to λo e=>ef _ _ O4.symm e
 have aq:z<q.objs.size:=zai U;show wpAny _ _ (zda (.ref z) (.ref q.objs.size) >>= _) _ _ _;refine zaa ?_;unfold zda;have bn:IsZip (q.push {cls:=.type "tuple",data:=.seq #[x,y,u]}) z TI TO .ellipsis:=zag _ U;refine zaa (zaZ bn (by simp) λhg ae sg=>?_);replace ae:IsZip hg z TI TO (zaN q.objs.size):=ae;refine zaZ ae (by simp) λhi J si=>?_;replace J:IsZip hi z TI TO (zaN q.objs.size):=J
 have up:∀c o,c≠z->q.get? c=some o->hi.get? c=some o:=λc o c1 e=>si.extBut _ _ c1 (sg.extBut _ _ c1 (zag _ e))
 have ak:cL hi q.objs.size x y u:=si.extBut _ _ (zaG aq) (sg.extBut _ _ (zaG aq) (zat _ rfl));have al:hi.objs.size=q.objs.size+1:=by rw[si.1,sg.1,zbl]
 rw[hsz]at J ak al;refine zac ⟨_,rfl,zac ?_⟩;show Q (some (.ref q.objs.size)) _;rw[hsz];exact hQ hi J (up _ _ O1 B) (bg.to λo e=>up _ o a1 e) (bh.to λo e=>up _ o b1 e) (ba.to λo e=>up _ o c1 e) ak al λc o q1 q2 q3 q4 q5 e=>up c o q1 (bb c o q1 q2 q3 q4 q5 e)
theorem EH{t1 t2 t3:Bool}{z TI TO i1 i2 i3 l1 l2 l3:Addr}{k:Nat}{xs ys ws:Array Value}{a b c:Value}{Q:Option Value->zab->Prop}(hh:A.handled=none)(D:ZB z TI TO i1 i2 i3 l1 l2 l3)
  (hz:IsZip s.heap z TI TO .none) (bl:cL s.heap TI (.ref i1) (.ref i2) (.ref i3)) (bj:cL s.heap TO a b c) (h1:SIt t1 s.heap i1 l1 k) (h2:SIt t2 s.heap i2 l2 k) (h3:SIt t3 s.heap i3 l3 k) (an:SSq t1 s.heap l1 xs) (ah:SSq t2 s.heap l2 ys) (bb:SSq t3 s.heap l3 ws) (M:xs[k]?=none\/ys[k]?=none\/ws[k]?=none)
  (hQ:∀h',(∀c o,c≠z->c≠TO->c≠i1->c≠i2->c≠i3->s.heap.get? c=some o->h'.get? c=some o)->Q none {s with heap:=h'}):wpAny (model prog w) A (zaH (.ref z)) Q E s:=by
 have hT:s.TypeIs (.ref z) "zip" := ⟨_,hz,rfl⟩;obtain⟨T1,T2,T3,T4,T5⟩:=D.zT;obtain⟨O1,O2,O3,O4⟩:=D.zO;obtain⟨a1,a2,a3⟩:=D.z1;obtain⟨b1,b2⟩:=D.z2;have c1:=D.z3;obtain⟨m1,m2,m3,m4,m5⟩:=D.l1;obtain⟨n1,n2,n3,n4,n5⟩:=D.l2;obtain⟨p1,p2,p3,p4,p5⟩:=D.l3;have fin:∀(h':Heap) (e:Addr),(∀c o,c≠z->c≠TO->c≠i1->c≠i2->c≠i3->s.heap.get? c=some o->h'.get? c=some o)->(∃o,h'.get? e=some o/\o.cls=.type "StopIteration")->wpAny (model prog w) A (do if <- isInstance (.ref e) (.type "StopIteration")then pure none else throw (.ref e)) Q E {s with heap:=h'}:=λh' e hk he=>by
  obtain⟨o,ho,hc⟩:=he;refine zaa (zc8 (T := "StopIteration") (b:=true) ⟨o,ho,hc⟩ zdw ?_);exact zac (hQ _ hk)
 unfold zaH;refine zaa (zb5 (zbt (name:=za0 "__next__") hT zcu (zba zcu hT zeo ?_ (zep _))));show wpAny _ _ (field (.ref z) 2 >>= _) _ _ s;refine zaa (zaC hz rfl (x:=.bool false) rfl ?_);show wpAny _ _ (field (.ref z) 3 >>= _) _ _ s;refine zaa (zaC hz rfl (x:=.ref TI) rfl (zaa (za5 bl rfl ?_)));show wpAny _ _ (zb8 (.ref z) >>= _) _ _ s;refine zaa ?_;unfold zb8;refine zaa (zaC hz rfl (x:=.none) rfl (zac ?_));simp only[if_true];refine zaa (zbT (zaa (zaC hz rfl (x:=.ref TO) rfl (zaa (zaZ hz (by simp) λha G sa=>?_)))));replace G:IsZip ha z TI TO .ellipsis:=G;refine zaa ?_;simp only[zeq,zer,zdC,zes];refine zaa (zaa (zb9 ?_));show wpAny _ _ (zbw (.ref i1) >>= _) _ _ {s with heap:=ha};have ea:=sa.extBut;cases hx:xs[k]? with
 | none=>
  refine zaa (next_end (t:=t1) (xs:=xs) hh (h1.to λo e=>ea _ _ a1 e) (an.to λo e=>ea _ _ m1 e) hx λhb e sb he=>?_);obtain⟨oe,B,F⟩:=he;have ap:IsZip hb z TI TO .ellipsis:=sb _ _ a1.symm G;have J:e≠z:=λq=>by subst q;rw[ap]at B;cases B;simp at F
  exact zaZ ap (by simp) λhc _ sc=>fin hc e (λc o q1 _ q3 _ _ q=>sc.extBut _ _ q1 (sb _ _ q3 (ea _ _ q1 q))) ⟨oe,sc.extBut _ _ J B,F⟩
 | some x=>
  have M:ys[k]?=none\/ws[k]?=none:=by rcases M with h|h;rw[hx]at h;cases h;exact h
  refine zaa (next_item (t:=t1) (xs:=xs) (h1.to λo e=>ea _ _ a1 e) (an.to λo e=>ea _ _ m1 e) hx λhb ci sb=>zac ?_);have N:=sb.extBut;have aa:cL hb TO a b c:=N _ _ O2 (ea _ _ O1 bj);refine zaa (za5 aa rfl (zaa (cP aa λhc U sc=>?_)));replace U:cL hc TO x b c:=U;have W:=sc.extBut;refine zaa (zbu (zac ?_));refine zaa (zaa (zb9 ?_));show wpAny _ _ (zbw (.ref i2) >>= _) _ _ {s with heap:=hc};cases hy:ys[k]? with
  | none=>
   refine zaa (next_end (t:=t2) (xs:=ys) hh (h2.to λo e=>W _ _ O3.symm (N _ _ a2.symm (ea _ _ b1 e))) (ah.to λo e=>W _ _ n2 (N _ _ n3 (ea _ _ n1 e))) hy λhd e sd he=>?_);obtain⟨oe,B,F⟩:=he;have am:IsZip hd z TI TO .ellipsis:=sd _ _ b1.symm (W _ _ O1.symm (N _ _ a1.symm G));have J:e≠z:=λq=>by subst q;rw[am]at B;cases B;simp at F
   exact zaZ am (by simp) λhf _ sf=>fin hf e (λc o q1 q2 q3 q4 q5 q=>sf.extBut _ _ q1 (sd _ _ q4 (W _ _ q2 (N _ _ q3 (ea _ _ q1 q))))) ⟨oe,sf.extBut _ _ J B,F⟩
  | some y=>
   have hu:ws[k]?=none:=by rcases M with h|h;rw[hy]at h;cases h;exact h
   refine zaa (next_item (t:=t2) (xs:=ys) (h2.to λo e=>W _ _ O3.symm (N _ _ a2.symm (ea _ _ b1 e))) (ah.to λo e=>W _ _ n2 (N _ _ n3 (ea _ _ n1 e))) hy λhd cg sd=>zac ?_);have ed:=sd.extBut;have Y:cL hd TO x b c:=ed _ _ O3 U;refine zaa (za5 Y rfl (zaa (cP Y λhe bx se=>?_)));have ee:=se.extBut;refine zaa (zbu (zac ?_));refine zaa (zaa (zb9 ?_));show wpAny _ _ (zbw (.ref i3) >>= _) _ _ {s with heap:=he};refine zaa (next_end (t:=t3) (xs:=ws) hh (h3.to λo e=>ee _ _ O4.symm (ed _ _ b2.symm (W _ _ O4.symm (N _ _ a3.symm (ea _ _ c1 e))))) (bb.to λo e=>ee _ _ p2 (ed _ _ p4 (W _ _ p2 (N _ _ p3 (ea _ _ p1 e))))) hu λhj e sj a6=>?_);obtain⟨oe,B,F⟩:=a6;have aj:IsZip hj z TI TO .ellipsis:=sj _ _ c1.symm (ee _ _ O1.symm (ed _ _ b1.symm (W _ _ O1.symm (N _ _ a1.symm G))));have J:e≠z:=λq=>by subst q;rw[aj]at B;cases B;simp at F
   exact zaZ aj (by simp) λhf _ sf=>fin hf e (λc o q1 q2 q3 q4 q5 q=>sf.extBut _ _ q1 (sj _ _ q5 (ee _ _ q2 (ed _ _ q4 (W _ _ q2 (N _ _ q3 (ea _ _ q1 q))))))) ⟨oe,sf.extBut _ _ J B,F⟩
abbrev U1(t1 t2 t3:Bool)(h:Heap)(l1 l2 l3:Addr):Heap:=(F9 t1 t2 h l1 l2).push (m9 t3 l3)
abbrev X7(t1 t2:Bool)(h:Heap)(l1 l2:Addr):Obj:={cls:=.type "tuple",data:=.seq #[.ref h.objs.size,.ref (h.push (m9 t1 l1)).objs.size,.ref (F9 t1 t2 h l1 l2).objs.size]}
abbrev XY(t1 t2 t3:Bool)(h:Heap)(l1 l2 l3:Addr):Heap:=((U1 t1 t2 t3 h l1 l2 l3).push (X7 t1 t2 h l1 l2)).push {cls:=.type "tuple",data:=.seq #[.none,.none,.none]}
abbrev UX(t1 t2 t3:Bool)(h:Heap)(l1 l2 l3:Addr):Heap:=(XY t1 t2 t3 h l1 l2 l3).push {cls:=.type "zip",data:=.fields #[.none,.bool false,.bool false,.ref (U1 t1 t2 t3 h l1 l2 l3).objs.size,.ref ((U1 t1 t2 t3 h l1 l2 l3).push (X7 t1 t2 h l1 l2)).objs.size]}
theorem pY(z:SSq t s.heap l xs)(q:Q (.ref s.heap.objs.size) {s with heap:=s.heap.push (m9 t l)}):wpAny (model prog w) A (pyIter (.ref l)) Q E s:=by
 cases t with
 | false=>exact zcd (show s.heap.IsList l xs from z) q
 | true=>exact zbM (show s.heap.IsTuple l xs from z) q
theorem IE(z F J:Bool)(q B G:Addr)(xs ys ws:Array Value):Meets (za9.«zip.__new__» ⟨[.type "zip",.ref q,.ref B,.ref G],[]⟩) (λ_ R s=>SSq z s.heap q xs/\SSq F s.heap B ys/\SSq J s.heap G ws/\R (.ok (.ret (.ref (XY z F J s.heap q B G).objs.size))) {s with heap:=UX z F J s.heap q B G}):=
 .of_wp λprog w A R s h=>by
  obtain⟨M,g,d,tk,os⟩:=s;obtain⟨N,U,ab,h⟩:=h;have ac:=sub_zip;have W:SSq z (zbL ⟨M,g,d,tk,os⟩) q xs:=N;have aa:SSq F (zbL ⟨M.push (m9 z q),g,d,tk,os⟩) B ys:=U.to λo e=>zag _ e
  have Y:SSq J (zbL ⟨(M.push (m9 z q)).push (m9 F B),g,d,tk,os⟩) G ws:=ab.to λo e=>zag _ (zag _ e)
  wp_walk using pY W,pY aa,pY Y
  exact⟨_,rfl,h⟩
theorem nZ(a b c:Value):checkTypeCall "zip" ⟨[a,b,c],[]⟩=pure ():=by kernel_rfl
theorem rV(a b c:Value):checkBuiltinCall "zip.__new__" ⟨[.type "zip",a,b,c],[]⟩=pure ():=by kernel_rfl
theorem jA(a b c d:Value):argsOk "object.__init__" ⟨[a,b,c,d],[]⟩:=by
 unfold argsOk;rw[signature?_of (id := "object.__init__") (n:=['_','_','t','i','n','i','_','_']) (o:=['t','c','e','j','b','o']) (by kernel_rfl) F.owner_object];kernel_rfl
theorem DT(z:SSq t1 s.heap l1 xs)(M:SSq t2 s.heap l2 ys)(W:SSq t3 s.heap l3 ws)
  (h:∀h', IsZip h' (s.heap.objs.size+5) (s.heap.objs.size+3) (s.heap.objs.size+4) .none -> cL h' (s.heap.objs.size+3) (.ref s.heap.objs.size) (.ref (s.heap.objs.size+1)) (.ref (s.heap.objs.size+2)) -> cL h' (s.heap.objs.size+4) .none .none .none ->
   SIt t1 h' s.heap.objs.size l1 0->SIt t2 h' (s.heap.objs.size+1) l2 0->SIt t3 h' (s.heap.objs.size+2) l3 0->(∀c o,s.heap.get? c=some o->h'.get? c=some o)->Q (.ref (s.heap.objs.size+5)) {s with heap:=h'}):wpAny (model prog w) A (call (.type "zip") [.ref l1,.ref l2,.ref l3]) Q E s:=by
 refine zeu F.called_zip (by decide) (nZ _ _ _) (rV _ _ _) (λB=>jA B _ _ _) F.entry_zip_new (IE t1 t2 t3 l1 l2 l3 xs ys ws) ⟨z,M,W,?_⟩;have G:(s.heap.push (m9 t1 l1)).objs.size=s.heap.objs.size+1:=zbl ..;have N:(F9 t1 t2 s.heap l1 l2).objs.size=s.heap.objs.size+2:=by rw[zbl,G]
 have J:(U1 t1 t2 t3 s.heap l1 l2 l3).objs.size=s.heap.objs.size+3:=by rw[zbl,N]
 have q:((U1 t1 t2 t3 s.heap l1 l2 l3).push (X7 t1 t2 s.heap l1 l2)).objs.size=s.heap.objs.size+4:=by rw[zbl,J]
 have n5:(XY t1 t2 t3 s.heap l1 l2 l3).objs.size=s.heap.objs.size+5:=by rw[zbl,q]
 have U:(UX t1 t2 t3 s.heap l1 l2 l3).get? (XY t1 t2 t3 s.heap l1 l2 l3).objs.size=some _:=zat _ rfl;have Y:(UX t1 t2 t3 s.heap l1 l2 l3).get? ((U1 t1 t2 t3 s.heap l1 l2 l3).push (X7 t1 t2 s.heap l1 l2)).objs.size=some _:=zag _ (zat _ rfl);have g4:(UX t1 t2 t3 s.heap l1 l2 l3).get? (U1 t1 t2 t3 s.heap l1 l2 l3).objs.size=some {cls:=.type "tuple",data:=.seq #[.ref s.heap.objs.size,.ref (s.heap.push (m9 t1 l1)).objs.size,.ref (F9 t1 t2 s.heap l1 l2).objs.size]}:=zag _ (zag _ (zat _ rfl));have g3:(UX t1 t2 t3 s.heap l1 l2 l3).get? (F9 t1 t2 s.heap l1 l2).objs.size=some (m9 t3 l3):=zag _ (zag _ (zag _ (zat _ rfl)));have g2:(UX t1 t2 t3 s.heap l1 l2 l3).get? (s.heap.push (m9 t1 l1)).objs.size=some (m9 t2 l2):=zag _ (zag _ (zag _ (zag _ (zat _ rfl))));have g1:(UX t1 t2 t3 s.heap l1 l2 l3).get? s.heap.objs.size=some (m9 t1 l1):=zag _ (zag _ (zag _ (zag _ (zag _ (zat _ rfl)))));show _/\_;rw[J,q,n5]at U;rw[G,N,J]at g4;rw[q]at Y;rw[N]at g3;rw[G]at g2;rw[n5];exact⟨⟨_,U,rfl⟩,h _ U g4 Y ⟨_,g1,rfl,rfl⟩ ⟨_,g2,rfl,rfl⟩ ⟨_,g3,rfl,rfl⟩ λc o x=>zag _ (zag _ (zag _ (zag _ (zag _ (zag _ x)))))⟩
end
def qa(K:zaf)(z G B:Bool)(M F J:Addr):It:=
 ⟨λi H => ∃xs ys q, k6 K z H M xs /\ k6 K G H F ys /\ k6 K B H J q /\ i<xs.length /\ i<ys.length /\ i<q.length, λi H x H' => ∃p u v r, x = .ref p /\ H p = none /\ H' = upd H p (.tup [u, v, r]) /\ ∀xs ys q, k6 K z H M xs -> k6 K G H F ys -> k6 K B H J q -> xs[i]? = some u /\ ys[i]? = some v /\ q[i]? = some r,
  λi H=>∃xs ys q,k6 K z H M xs/\k6 K G H F ys/\k6 K B H J q/\(xs.length<=i\/ys.length<=i\/q.length<=i)⟩
theorem EO{P:zam}{w:World}{K:zaf}{ae:List Expr}{x1}{tp:Pos}(t1 t2 t3:Bool){z TI TO M U N l1 l2 l3:Addr}(D:ZB z TI TO M U N l1 l2 l3) :
  Turn P w K (.Tuple ae x1 tp) (qa K t1 t2 t3 l1 l2 l3) [z,TI,TO,M,U,N] z (λi h=>IsZip h z TI TO .none/\cL h TI (.ref M) (.ref U) (.ref N)/\(∃a b c,cL h TO a b c)/\SIt t1 h M l1 i/\SIt t2 h U l2 i/\SIt t3 h N l3 i) where
 mem:=by simp
 obj:=by
  rintro i h ⟨hz,G,⟨a,b,c0,J⟩,⟨o1,e1,_,d1⟩,⟨o2,e2,_,d2⟩,⟨o3,e3,_,d3⟩⟩ c B;simp only[zaD,zaE,or_false]at B;rcases B with rfl|rfl|rfl|rfl|rfl|rfl
  ·exact⟨_,hz,λv q=>by cases q⟩
  ·exact⟨_,G,λv q=>by cases q⟩
  ·exact⟨_,J,λv q=>by cases q⟩
  ·exact⟨o1,e1,λv q=>by rw[d1]at q;cases q⟩
  ·exact⟨o2,e2,λv q=>by rw[d2]at q;cases q⟩
  ·exact⟨o3,e3,λv q=>by rw[d3]at q;cases q⟩
 keep:=λi h h' ⟨hz,G,⟨a,b,c,J⟩,s1,s2,Y⟩ k=>⟨k z (by simp) _ hz,k TI (by simp) _ G,⟨a,b,c,k TO (by simp) _ J⟩,s1.to λo e=>k M (by simp) o e,s2.to λo e=>k U (by simp) o e,Y.to λo e=>k N (by simp) o e⟩
 item:=by
  intro X hP hw hK B i pins s σ H E I hf st hg;subst hP hw hK;obtain⟨hz,G,⟨a,b,c0,J⟩,s1,s2,Y⟩:=st;obtain⟨xs,ys,ws,q1,q2,q3,ax,aw,bj⟩:=hg;obtain⟨ag,r1,p1⟩:=cA I q1;obtain⟨aj,r2,p2⟩:=cA I q2;obtain⟨ad,r3,p3⟩:=cA I q3;have e1:xs[i]?=some xs[i]:=by simp[ax]
  have e2:ys[i]?=some ys[i]:=by simp[aw]
  have e3:ws[i]?=some ws[i]:=by simp[bj]
  obtain⟨u,eu,ru⟩:=r1.get e1;obtain⟨v,ev,rv⟩:=r2.get e2;obtain⟨r,er,rr⟩:=r3.get e3;refine D3 D hz G J s1 s2 Y p1 p2 p3 (x:=u) (y:=v) (u:=r) (by simpa using eu) (by simpa using ev) (by simpa using er) λh' a1 a2 a3 a4 bg a5 a6 hk=>⟨_,rfl,?_⟩
  refine wpAny_letOwnedTupleGo_zip (s:={s with heap:=h'}) a1 λh2 a0 sb=>?_
  have zz:∀c,c∈[z,TI,TO,M,U,N]->c<s.heap.objs.size:=λc B=>by
   simp only[zaD,zaE,or_false]at B;rcases B with rfl|rfl|rfl|rfl|rfl|rfl
   ·exact zai hz
   ·exact zai G
   ·exact zai J
   ·obtain⟨o,e,_⟩:=s1;exact zai e
   ·obtain⟨o,e,_⟩:=s2;exact zai e
   ·obtain⟨o,e,_⟩:=Y;exact zai e
  have W:∀c o,c≠z->h'.get? c=some o->h2.get? c=some o:=λc o B e=>sb.extBut _ _ B e
  have kp:∀c o,c∉[z,TI,TO,M,U,N]->s.heap.get? c=some o->h2.get? c=some o:=λc o B e=>by
   simp only[zaD,zaE,or_false,not_or]at B;exact W c o B.1 (hk c o B.1 B.2.2.1 B.2.2.2.1 B.2.2.2.2.1 B.2.2.2.2.2 e)
  have I1:Inv X pins σ H {s with heap:=h2,toks:=s.toks}:=dI I hf kp;have F:H s.heap.objs.size=none:=I.fresh;have bd:cL h2 s.heap.objs.size u v r:=W _ _ (zaG (zz z (by simp))) a5;have I2:Inv X pins σ (upd H s.heap.objs.size (.tup [xs[i],ys[i],ws[i]])) {s with heap:=h2}:=by
   have az:HOk X.prog X.w (upd H s.heap.objs.size (.tup [xs[i],ys[i],ws[i]])) h2:=λc ob e=>by
    by_cases B:c=s.heap.objs.size
    ·subst B;rw[aI]at e;cases e
     exact⟨by show 3<=zaj;decide,[u,v,r],.cons ru (.cons rv (.cons rr .nil)),_,bd,rfl,0,rfl,rfl⟩
    ·rw[aE B]at e
     exact(I1.hok c ob e).stay (λ_ _ _ q=>q) (λd q=>by rw[aE (aQ q F)];exact q) λd ah q=>by rw[aE (aQ q F)];exact q
   refine I.call' (s':={s with heap:=h2}) (ch:=[z,TI,TO,M,U,N]) rfl ⟨λc o e _ _ hx=>kp c o hx e,λc o e _ _ hx=>⟨o.slots,kp c o hx e⟩,λc o e n hx=>by rw[aE (zay (zai e))];exact n,λc o e hx=>⟨o,kp c o hx e⟩,λc ah q=>by rw[aE (aQ q F)];exact q,λc o' u' q=>by rw[aE (aQ q F)];exact q,λc ps q=>⟨#[],by rw[aE (aQ q F),q];simp⟩⟩ az I.bare λb hb=>?_
   obtain⟨_,f1,_,f3,f4,f5⟩:=hf b hb;exact⟨f3,f1,f4,f5⟩
  refine⟨.ref s.heap.objs.size,_,I2,rfl,⟨_,_,_,_,rfl,F,rfl,λbt ah bu g1 g2 g3=>by rw[<- iL I q1 g1,<- iL I q2 g2,<- iL I q3 g3];exact⟨e1,e2,e3⟩⟩,⟨a0,W _ _ D.zT.1 (hk _ _ D.zT.1 D.zT.2.1 D.zT.2.2.1 D.zT.2.2.2.1 D.zT.2.2.2.2 G),⟨_,_,_,W _ _ D.zO.1 a2⟩,a3.to λo e=>W _ o D.z1.1 e,a4.to λo e=>W _ o D.z2.1 e,bg.to λo e=>W _ o D.z3 e⟩,λc B=>?_⟩;rw[aE (zay (zz c B))];exact(hf c B).1
 done:=by
  intro X hP hw hK B i pins s σ H E I hf st hg;subst hP hw hK;obtain⟨hz,G,⟨a,b,c0,J⟩,s1,s2,Y⟩:=st;obtain⟨xs,ys,ws,q1,q2,q3,af⟩:=hg;obtain⟨ag,r1,p1⟩:=cA I q1;obtain⟨aj,r2,p2⟩:=cA I q2;obtain⟨ad,r3,p3⟩:=cA I q3;have n1:=r1.length;have n2:=r2.length;have n3:=r3.length;refine EH (I.ok.hd B) D hz G J s1 s2 Y p1 p2 p3 (af.imp (λh=>by simp;lia) λh=>h.imp (λh=>by simp;lia) λh=>by simp;lia) λh' hk=>⟨rfl,dI (t':=s.toks) I hf λc o B e=>?_⟩
  simp only[zaD,zaE,or_false,not_or]at B;exact hk c o B.1 B.2.2.1 B.2.2.2.1 B.2.2.2.2.1 B.2.2.2.2.2 e
 self:=λ_ _ _ _ _ st h=>zew st.1 h
theorem WM(n F z B:Nat)(h1:F<n)(h2:z<n)(G:B<n):ZB (n+5) (n+3) (n+4) n (n+1) (n+2) F z B:=by
 have ne:∀ {a b:Nat},a<b->(a:Nat)≠b:=λh=>zay h
 have q:∀ {a b:Nat},b<a->(a:Nat)≠b:=λh=>zaG h
 exact⟨⟨ne (by lia),ne (by lia),q (by lia),q (by lia),q (by lia)⟩,⟨ne (by lia),q (by lia),q (by lia),q (by lia)⟩,⟨ne (by lia),ne (by lia),ne (by lia)⟩,⟨ne (by lia),ne (by lia)⟩,ne (by lia),⟨ne (by lia),ne (by lia),ne (by lia),ne (by lia),ne (by lia)⟩,⟨ne (by lia),ne (by lia),ne (by lia),ne (by lia),ne (by lia)⟩,⟨ne (by lia),ne (by lia),ne (by lia),ne (by lia),ne (by lia)⟩⟩
theorem vals3(r:Vals [x,y,z] us):∃u w v,us=[u,w,v]/\RelV x u/\RelV y w/\RelV z v:=by
 cases r with
 | cons r1 r2=>obtain⟨u,w,rfl,a,b⟩:=vals2 r2;exact⟨_,_,_,rfl,r1,a,b⟩
def WB(K:zaf)(ta:TA):TI:=λσ H R=>ta σ H λvs H1=>∃F J G B q z xs ys M,vs=[.ref B,.ref q,.ref z]/\k6 K F H1 B xs/\k6 K J H1 q ys/\k6 K G H1 z M/\R (qa K F J G B q z) H1
theorem NG{G:List Expr}{x1}(hg:Gl X "zip")(hm:X.mg "zip" = none)(ha:PA X [a,b,c] ta)(hs:zah [a,b,c] X.env=[(false,eval a X.env),(false,eval b X.env),(false,eval c X.env)]:=by rfl)(F:zah [b,c] X.env=[(false,eval b X.env),(false,eval c X.env)]:=by rfl) :
  PI X (.Tuple G x1 tp) (.Call (.Name "zip" p) [a,b,c] [] pos) (WB X.K ta):=by
 intro pins s σ H R I h;refine Call_ (eW I hg hm My.boot_zip (zcB (bL (ha pos pins s σ H _ I h) λus z ⟨vs,H1,B,r1,Y⟩=>?_) (by rw[hs,F]) (by rw[F];rfl)));obtain⟨t1,t2,t3,l1,l2,l3,xs,ys,ws,rfl,Y,q2,q3,q⟩:=Y;obtain⟨u,v,r,rfl,ru,rv,rr⟩:=vals3 r1;cases ru;cases rv;cases rr;obtain⟨ah,_,p1⟩:=cA B Y;obtain⟨ae,_,p2⟩:=cA B q2;obtain⟨ag,_,p3⟩:=cA B q3;have b1:l1<z.heap.objs.size:=by obtain⟨o,e,_⟩:=p1;exact zai e
 have b2:l2<z.heap.objs.size:=by obtain⟨o,e,_⟩:=p2;exact zai e
 have b3:l3<z.heap.objs.size:=by obtain⟨o,e,_⟩:=p3;exact zai e
 refine DT p1 p2 p3 λh' hz W N M U aa k=>?_
 refine zew hz ?_;have D:ZB (z.heap.objs.size+5) (z.heap.objs.size+3) (z.heap.objs.size+4) z.heap.objs.size (z.heap.objs.size+1) (z.heap.objs.size+2) l1 l2 l3:=WM _ _ _ _ b1 b2 b3;refine⟨_,[_,_,_,_,_,_],_,_,H1,rfl,B.kept (t':=z.toks) k,EO t1 t2 t3 D,⟨hz,W,⟨_,_,_,N⟩,M,U,aa⟩,λc J=>B.fpOk ?_ (B.hok.fresh ?_),q⟩
 ·simp only[zaD,zaE,or_false]at J
  rcases J with rfl|rfl|rfl|rfl|rfl|rfl <;> lia
 ·simp only[zaD,zaE,or_false]at J
  rcases J with rfl|rfl|rfl|rfl|rfl|rfl <;> lia
end My
namespace P
open PySem PySem.Spec PyProof.Rows L2
noncomputable def eU:List D->List D->List D->List D
 | x::xs,y::ys,z::zs=>.tup [x,y,z]::eU xs ys zs
 | _,_,_=>[]
def PL(f:Lv):Lv:=λρ=>(f ρ).bind λds=>match ds with
 | [a,b,c]=>(eG a).bind λxs=>(eG b).bind λys=>(eG c).map λzs=>eU xs ys zs
 | _=>none
@[simp] theorem q_zip3:PL f ρ=(f ρ).bind λds=>match ds with
 | [a,b,c]=>(eG a).bind λxs=>(eG b).bind λys=>(eG c).map λzs=>eU xs ys zs
 | _=>none:=rfl
theorem sY:∀ {xs ys zs:List D} {i:Nat} {d:D},(eU xs ys zs)[i]?=some d->∃x y z,xs[i]?=some x/\ys[i]?=some y/\zs[i]?=some z/\d=.tup [x,y,z]
 | [],_,_,i,d,h=>by simp[eU]at h
 | _::_,[],_,i,d,h=>by simp[eU]at h
 | _::_,_::_,[],i,d,h=>by simp[eU]at h
 | x::xs,y::ys,z::zs,0,d,h=>by simp[eU]at h;exact⟨x,y,z,rfl,rfl,rfl,h.symm⟩
 | x::xs,y::ys,z::zs,i+1,d,h=>sY (xs:=xs) (ys:=ys) (zs:=zs) (i:=i) (by simpa[eU]using h)
theorem sM:∀ {xs ys zs:List D} {i:Nat},(eU xs ys zs).length<=i->xs.length<=i\/ys.length<=i\/zs.length<=i
 | [],_,_,i,h=>.inl (za3 _)
 | _::_,[],_,i,h=>.inr (.inl (za3 _))
 | _::_,_::_,[],i,h=>.inr (.inr (za3 _))
 | x::xs,y::ys,z::zs,0,h=>by simp[eU]at h
 | x::xs,y::ys,z::zs,i+1,h=>(sM (xs:=xs) (ys:=ys) (zs:=zs) (i:=i) (by simpa[eU]using h)).imp (λz=>by simpa using z) λz=>z.imp (λz=>by simpa using z) λz=>by simpa using z
theorem HW{x1}(hg:Gl X "zip")(hm:X.mg "zip" = none)(ha:y8 X O [a,b,c] f)(hs:zah [a,b,c] X.env=[(false,eval a X.env),(false,eval b X.env),(false,eval c X.env)]:=by rfl)(ac:zah [b,c] X.env=[(false,eval b X.env),(false,eval c X.env)]:=by rfl) :
  PDI X O (.Tuple elts x1 tp) (.Call (.Name "zip" p) [a,b,c] [] pos) (PL f):=PI.mono (My.NG hg hm ha hs ac) λσ H R ⟨H0,A0,A,E,ρ,items,st,e,q⟩=>by
 obtain⟨ds,e1,e⟩:=bind_some e;refine⟨H0,A0,A,E,ρ,ds,st,e1,λvs H1 x1 r1=>?_⟩;split at e
 case h_2=>cases e
 rename_i da db dc;obtain⟨xs,e2,e⟩:=bind_some e;obtain⟨ys,e3,e⟩:=bind_some e;obtain⟨zs,e4,rfl⟩:=map_some e;obtain⟨v,w,u,rfl,r2,r3,r4⟩:=r1.three;obtain⟨t1,W,us,rfl,q1,_,k1⟩:=iQ (K:=X.K) e2 r2;obtain⟨t2,Y,ws,rfl,q2,_,k2⟩:=iQ (K:=X.K) e3 r3;obtain⟨t3,U,os,rfl,q3,_,k3⟩:=iQ (K:=X.K) e4 r4;refine⟨t1,t2,t3,W,Y,U,us,ws,os,rfl,q1,q2,q3,q _ H1 [.rep da (.ref W),.rep db (.ref Y),.rep dc (.ref U)] x1 (λp hp=>?_) ?_⟩
 ·rcases List.mem_cons.mp hp with z|z
  ·rw[z];exact r2
  ·rcases List.mem_cons.mp z with z|z
   ·rw[z];exact r3
   ·rw[List.mem_singleton.mp z];exact r4
 ·intro A' H' lv hE i
  have a1:Rep A' H' da (.ref W):=hE (.rep da (.ref W)) (zas ..);have a2:Rep A' H' db (.ref Y):=hE (.rep db (.ref Y)) (zav _ (zas ..));have a3:Rep A' H' dc (.ref U):=hE (.rep dc (.ref U)) (zav _ (zav _ (zas ..)));obtain⟨B,g1,M⟩:=k1 A' H' a1;obtain⟨G,g2,J⟩:=k2 A' H' a2;obtain⟨F,g3,N⟩:=k3 A' H' a3;refine⟨λhi=>⟨B,G,F,g1,g2,g3,(sM hi).imp (λz=>by rw[M.length];exact z) λz=>z.imp (λz=>by rw[J.length];exact z) λz=>by rw[N.length];exact z⟩,λd hd=>?_⟩;obtain⟨x,y,z,ex,ey,ez,rfl⟩:=sY hd;obtain⟨u,eu,ru⟩:=M.get' ex;obtain⟨w,ew,ah⟩:=J.get' ey;obtain⟨o,eo,ro⟩:=N.get' ez;refine⟨⟨B,G,F,g1,g2,g3,(List.getElem?_eq_some_iff.mp eu).1,(List.getElem?_eq_some_iff.mp ew).1,(List.getElem?_eq_some_iff.mp eo).1⟩,λx' H2 ⟨p,u',w',o',e4,n,e5,e6⟩=>?_⟩;subst e4 e5;obtain⟨z1,z2,z3⟩:=e6 B G F g1 g2 g3;rw[eu]at z1;cases z1;rw[ew]at z2;cases z2;rw[eo]at z3;cases z3;exact⟨Ext.new n,.tup aI (.cons (ru.ext (Ext.new n)) (.cons (ah.ext (Ext.new n)) (.cons (ro.ext (Ext.new n)) .nil)))⟩
def Fe(K:zaf)(x:Str)(st:Stmt)(f:Addr):Prop:=∃fd,Fun K x x st f fd
theorem Fe.mk{K:zaf}{x:Str}{st:Stmt}{f:Addr}{F:Value}{od G:Option Addr}{z:Array (Option Value)}{kV B J q ct:Value}(l:K.lookup f=some ⟨F,od,.func (zbH x x (dP st) (bZ st) (aT st) .none kV B J G q ct),z⟩)(c:zcY K q x=true)(k:zcp K (.ref f)=true):Fe K x st f:=⟨_,JL l c k⟩
theorem Fe.d{K:zaf}{mg:Str->Option Value}{x:Str}{st:Stmt}{f:Addr}{ps:List Str}(h:Fe K x st f)(a:mg x=some (.ref f))(q:∀(kV doc pm:Value) (an:Option Addr) (cdv ct:Value) (us:List Value),us.length=ps.length->bindArgs (zbH x x (dP st) (bZ st) (aT st) .none kV doc pm an cdv ct) ⟨us,[]⟩=pure (ps.zip us)):My.DefAt K mg x st ps:=let ⟨fd,F⟩:=h;⟨⟨f,fd,F,F.binds q,a⟩⟩
section
variable {X:Cx}{L:Lp}{O O':List Nat}
theorem c0{z O3:List Nat}{st:Stmt}{q:List Stmt}{f g:Sv}(h:iD X L z st f [])(k:dM X L [] q g O3):dM X L z (st::q) (bD f g) O3:=cn h k
theorem ss(i:Nat)(q:X.N.Nodup)(z:PD X O e f)(hi:X.N[i]?=some x:=by rfl)(F:Loc X.env.scope x:=by exact zbJ rfl)(h:Sub O' (O.filter (· != i))=true:=by rfl)(hs:za6 e (some (.Name x pos')) pos.line X.env=pure false:=by rfl)(B:X.fn x=true\/X.env.scope.names.lookup x=some .local:=by first|exact .inl rfl|exact .inr rfl):iD X L O (.Assign [.Name x pos'] e pos) (bQ i f) O':=DA q hi F z h hs B
theorem gc(h1:y6 X O e g)(h2:BL X O es k)(a:(zbe (e::es) X.env).map (·.2)=zbp e X.env::(zbe es X.env).map (·.2):=by rfl):BL X O (e::es) (aR g k):=lG (λx y=>pX x y a) h1 h2
theorem gu(n:Nat)(h:BL X O es k)(q:X.calm=true:=by rfl)(a:(zbe es X.env).length=n:=by rfl)(b:List.findIdx? (λx=>x.fst) (zbe es X.env)=none:=by rfl):y6 X O (.Tuple es j pos) (b7 n k):=CW (AX q h a b)
theorem tc(q:eY X (zaq op) g)(B:PB X O a fa)(z:PB X O b fb)(h1:op≠CmpOp.In:=by decide)(h2:op≠CmpOp.NotIn:=by decide):m8 X O (.Compare a [op] [b] pos) (eJ (aZ g fa fb)):=u9 q B z (J2 _ h1 h2)
end
end P
namespace My
open PySem PySem.Spec PyProof.Rows L2
section
variable {X:Cx}
end
end My
namespace P
open PySem PySem.Spec PyProof.Rows L2
section
variable {X:Cx}
end
section
variable {X:Cx}{O:List Nat}
def kW(k:Key)(v:D)(l:Key)(w:D):List (Key×D):=if k=l then [(k,w)]else [(k,v),(l,w)]
def B0(z q fl B:Ev):Ev:=λρ=>(z ρ).bind λk=>(q ρ).bind λv=>(fl ρ).bind λl=>(B ρ).bind λw=>(F7 k).bind λG=>(F7 l).map λF=>.dK (kW G v F w)
@[simp] theorem q_dispK2{z q fl B:Ev}{ρ:cY}:B0 z q fl B ρ=(z ρ).bind λk=>(q ρ).bind λv=>(fl ρ).bind λl=>(B ρ).bind λw=>(F7 k).bind λG=>(F7 l).map λF=>.dK (kW G v F w):=rfl
theorem FF{k v l u:Expr}{pos:Pos}{fk fv fl fw:Ev}(hk:PB X O k fk)(hv:PD X O v fv)(hl:PB X O l fl)(hw:PD X O u fw):PF X O (.Dict [some k,some l] [v,u] pos) (B0 fk fv fl fw):=
 PE.mono (B7 (pZ hk hv (pZ hl hw BY)) rfl rfl (by simp) (by simp)) <| by
  rintro σ H Q ⟨H0,A0,A,E,ρ,d,st,e,q⟩;obtain⟨dk,ek,e⟩:=bind_some e;obtain⟨dv,ev,e⟩:=bind_some e;obtain⟨dl,el,e⟩:=bind_some e;obtain⟨dw,ew,e⟩:=bind_some e;obtain⟨B,et,e⟩:=bind_some e;obtain⟨N,es,rfl⟩:=map_some e;intro p W;have s1:=st.aside W (.dK []);have na:¬ A p:=λz=>st.live p z W
  refine⟨H0,A0,_,E,ρ,dk,s1,ek,λx H1 x1 r1=>⟨H0,A0,_,E,ρ,dv,s1.mono x1,ev,λy H2 x2 r2=>⟨H0,A0,_,E,ρ,dl,s1.mono (x1.trans x2),el,λx' H3 Y r3=>⟨H0,A0,_,E,ρ,dw,s1.mono ((x1.trans x2).trans Y),ew,λM H4 x4 r4=>?_⟩⟩⟩⟩;have hx:=iP et (r1.ext ((x2.trans Y).trans x4));subst hx;have ag:=iP es (r3.ext x4);subst ag;have xx:=((x1.trans x2).trans Y).trans x4;have U:H4 p=some (.dK []):=xx.ow p _ (.inr rfl) aI;have J:Ext A H H4:=(Ext.new W).trans (xx.mono λa ha=>.inl ha);have F:∀b,H b≠none->b≠p:=λb hb z=>hb (by rw[z];exact W)
  have ex:Ext A H (upd H4 p (.dK (dU [] [(B,y),(N,M)]))):=⟨λb w r=>eE (F b (by rcases r with r|⟨_,r⟩ <;> (rw[r];exact λz=>nomatch z))) (J.rd b w r),
      λb xs k r=>by rw[aE (F b (by rw[r];exact λz=>nomatch z))];exact J.kp b xs k r,
      λb w n r=>by rw[aE (F b (by rw[r];exact λz=>nomatch z))];exact J.ow b w n r,
      λb q w r=>by rw[aE (F b (by rw[r];exact λz=>nomatch z))];exact J.fz b q w r⟩
  refine⟨U,[(B,y),(N,M)],rfl,by simp,q p _ ex W na ?_⟩;have ry:=(r2.ext (Y.trans x4)).put (.inr rfl) U trivial (o:=.dK (dU [] [(B,y),(N,M)]));have G:=r4.put (.inr rfl) U trivial (o:=.dK (dU [] [(B,y),(N,M)]));unfold kW;by_cases h:B=N
  ·rw[if_pos h]
   subst h;have em:dU [] [(B,y),(B,M)]=[(B,M)]:=by simp[dU,putK]
   rw[em]at G ⊢;exact .dK aI rfl (.cons G .nil)
  ·rw[if_neg h]
   have em:dU [] [(B,y),(N,M)]=[(B,y),(N,M)]:=by simp[dU,putK,h]
   rw[em]at ry G ⊢;exact .dK aI rfl (.cons ry (.cons G .nil))
end
end P
namespace HT
open PySem PySem.Spec PyProof.Rows
section
open PySem.SeqAt
open PySem.AutoSeq1 (wpAny_loadPart')
open PySem.MeetsSeq PySem.MeetsSeq2 PySem.MeetsSeq3
theorem ID(A:zar)(s:zab)(a:Int)(t:Tok)(c:Int)(u:Tok)(prog:zam)(w:World)(E:Value->zab->Prop)(Q:Value->zab->Prop)(h:Q (.bool (decide (c<=a))) s) :
  wpAny (model prog w) A (richCompare .GtE (.int a t) (.int c u)) Q E s:=
 (PyProof.Rows.ge_int h:wpAny (model prog w) A (zaq .GtE (.int a t) (.int c u)) Q E s)
theorem sE(l b:Addr)(items z:Array Value)(n n2:Nat)(dd ad:Option Addr)(sl ab:Array (Option Value))(ns ms:List Int)(hi:zaP items.toList ns)(hj:zaP z.toList ms) :
  Meets (za9.«tuple.__ge__» ⟨[.ref l,.ref b],[]⟩)
   (λ_ R s => s.heap.get? l = some {cls := .type "tuple", dict:=dd, data := .seq items n, slots:=sl} /\ s.heap.get? b = some {cls := .type "tuple", dict:=ad, data := .seq z n2, slots:=ab} /\
    R (.ok (.ret (.bool (!lexLt ns ms)))) s):=
 .of_wp λprog w A R s h=>by
  obtain⟨Y,g,d,tk,os⟩:=s;obtain⟨hl,hb,h⟩:=h;have f2:=AutoSeq1.sub_tuple_tuple;have z1:items.size=ns.length:=by rw[<- hi.length];simp
  have z2:z.size=ms.length:=by rw[<- hj.length];simp
  wp_walk using zbQ hl,zbQ hb,zeV _ (λrest b s'=>b.1=none/\s'=⟨Y,g,d,tk,os⟩/\∃(vs ws:List Value) (G F:List Int),rest=vs.zip ws /\
   zaP vs G/\zaP ws F/\G.length+z.size=F.length+items.size/\R (.ok (.ret (.bool (!lexLt G F)))) ⟨Y,g,d,tk,os⟩) _
  case turn=>
   rintro⟨y,x⟩ rest b s' ⟨U,rfl,vs,ws,G,F,hz,W,J,B,M⟩;cases W with
   | nil=>rw[List.zip_nil_left]at hz;cases hz
   | cons a t hvi'=>
    cases J with
    | nil=>rw[List.zip_nil_right]at hz;cases hz
    | cons c u hwi'=>
     rw[zdW]at hz;injection hz with hyx hrest
     injection hyx with hy hx
     subst hy hx;rw[dH]at M;simp only[zaT]at B;obtain⟨e,he,N⟩:=yF A.in1 ⟨Y,g,d,tk,os⟩ a t c u;refine zaa (he prog w _ _ ?_);cases e with
     | true=>
      rw[if_pos (N.mp rfl)]at M
      wp_walk
      exact⟨rfl,rfl,_,_,_,_,hrest,hvi',hwi',by lia,M⟩
     | false=>
      rw[if_neg (λq=>absurd (N.mpr q) zau)]at M;have ac:=ID A.in1 ⟨Y,g,d,tk,os⟩ a t c u prog w
      wp_walk using ac
      have ek:(!decide (a<c))=decide (c<=a):=by by_cases q:a<c <;> simp[q] <;> lia
      rw[ek]at M;exact⟨_,rfl,by simpa using M⟩
  case fin=>
   rintro⟨b1,b2⟩ s' ⟨U,rfl,vs,ws,G,F,hz,W,J,B,M⟩;simp only at U;subst U;have hv:(!lexLt G F)=decide (z.size<=items.size):=by
    cases W with
    | nil=>
     cases J with
     | nil=>
      simp only[zcg]at B;rw[i8];exact(decide_eq_true (by lia)).symm
     | cons c u hw=>
      simp only[zcg,zaT]at B;rw[gD];exact(decide_eq_false (by lia)).symm
    | cons a t hv=>
     cases J with
     | nil=>
      simp only[zcg,zaT]at B;rw[gB];exact(decide_eq_true (by lia)).symm
     | cons c u hw=>
      rw[zdW]at hz;cases hz
   rw[hv]at M
   wp_walk
   exact⟨_,rfl,by simpa[zfn]using M⟩
  case h=>
   exact⟨rfl,rfl,items.toList,z.toList,ns,ms,rfl,hi,hj,by lia,h⟩
end
section
variable {prog:zam}{w:World}{A:zar}{E:Value->zab->Prop}{s:zab}
theorem zE{l b:Addr}{items q:Array Value}{ns ms:List Int}{Q:Value->zab->Prop}(hl:IsTup s.heap l items)(hb:IsTup s.heap b q)(hi:zaP items.toList ns)(hj:zaP q.toList ms)
  (hu:A.units<cLine) (h:Q (.bool (!lexLt ns ms)) s):wpAny (model prog w) A (zaq .GtE (.ref l) (.ref b)) Q E s:=by
 obtain⟨⟨cls,dd,data,sl⟩,U,hc,n,W⟩:=id hl;obtain⟨⟨Y,N,M,J⟩,B,G,n2,z⟩:=id hb;simp only at hc W G z;subst hc W G z;exact richCompare_meets_room (op:=.GtE) ⟨_,U,rfl⟩ ⟨_,B,rfl⟩ PySem.F.slot_tuple_ge PySem.F.entry_tuple_ge (PySem.F.args_tuple_ge_2 _ _) (sE l b items q n n2 dd N sl J ns ms hi hj)
  ⟨U,B,show zcb (!lexLt ns ms)≠zeW/\Q (.bool (!lexLt ns ms)) s from⟨(λx=>nomatch x),h⟩⟩ hu
end
end HT
namespace P
open PySem PySem.Spec PyProof.Rows L2
section
variable {X:Cx}
def ZT(K:zaf):R2:=λx y H Q=>∃a b ns ms,x=.ref a/\y=.ref b/\SqT K H a (ns.map V.int)/\SqT K H b (ms.map V.int)/\Q (.bl (!HT.lexLt ns ms)) H
theorem TL(M:X.A.units<cLine):OpR X (zaq .GtE) (ZT X.K):=by
 intro pins s σ H x y v u Q I U Y h;obtain⟨a,b,ns,ms,rfl,rfl,W,N,q⟩:=h;cases U;cases Y;obtain⟨B,r1,p1,_⟩:=I.tuple W;obtain⟨z,F,p2,_⟩:=I.tuple N;have G:zaP B.toArray.toList ns:=intsAre_of r1;have J:zaP z.toArray.toList ms:=intsAre_of F;exact HT.zE p1 p2 G J M ⟨.bl (!HT.lexLt ns ms),H,I,rfl,q⟩
end
section
variable {X:Cx}
def vU:D->D->Option D
 | .tup l,.tup m=>(dW l).bind λns=>(dW m).map λms=>.bl (!HT.lexLt ns ms)
 | x,y=>UU x y
theorem T9(M:X.A.units<cLine):eY X (zaq .GtE) vU:=OpR.mono (OpR.or WN (TL M)) <| by
 rintro x y H Q ⟨A,dx,G,d,N,z,B,e,q⟩;unfold vU at e;split at e
 ·rename_i l m
  obtain⟨ns,W,e⟩:=bind_some e;obtain⟨ms,F,rfl⟩:=map_some e;obtain⟨a,xs,rfl,h1,U⟩:=z.tup_inv;obtain⟨b,ys,rfl,h2,J⟩:=B.tup_inv;have:=cT W U;subst this;have:=cT F J;subst this;exact .inr ⟨a,b,ns,ms,rfl,rfl,.inl (.inl h1),.inl (.inl h2),q _ H (Ext.refl _ _) (.bl _)⟩
 ·exact .inl ⟨A,dx,G,d,N,z,B,e,q⟩
theorem xGe{j:Nat}(q:Room j X.A):eY X (zaq .GtE) vU:=T9 q.units0
@[simp] theorem q_geA{i j:Int}:vU (.int i) (.int j)=some (.bl (decide (j<=i))):=rfl
@[simp] theorem q_geT{ns ms:List Int}:vU (tupI ns) (tupI ms)=some (.bl (!HT.lexLt ns ms)):=by unfold tupI vU;simp only[eN];rfl
end
noncomputable def mon:List Int->List Int->Int
 | e::es,v::vs=>v^e.toNat*mon es vs
 | _,_=>1
def ev(vs:List Int)(F:List My.Tm):Int:=(F.map λt=>t.2*mon t.1 vs).sum
theorem lI(vs:List Int):ev vs []=0:=rfl
theorem bH(vs:List Int)(t:My.Tm)(F:List My.Tm):ev vs (t::F)=t.2*mon t.1 vs+ev vs F:=by unfold ev;rw[zak,zde]
theorem kM(vs:List Int)(t:My.Tm)(F:List My.Tm):ev vs (F++[t])=ev vs F+t.2*mon t.1 vs:=by
 induction F with
 | nil=>rw[zfh,bH,lI];lia
 | cons u F ih=>rw[List.cons_append,bH,bH,ih];lia
theorem tN(h:k∉cs.map (·.1)):My.put cs k c=cs++[(k,c)]:=by
 unfold My.put;rw[if_neg];intro z;obtain⟨t,q,e⟩:=List.any_eq_true.mp z;exact h (List.mem_map.mpr ⟨t,q,of_decide_eq_true e⟩)
theorem J5:∀ {F:List My.Tm},(F.map (·.1)).Nodup->k∈F.map (·.1)->ev vs (F.map λt=>if t.1=k then(t.1,c)else t)=ev vs F+(c-cf F k)*mon k vs
 | [],_,h=>nomatch h
 | t::F,q,h=>by
  rw[zak]at q;have q:=List.nodup_cons.mp q;rw[zak,bH,bH,C4];by_cases e:t.1=k
  ·subst e
   have G:(F.map λu=>if u.1=t.1 then(u.1,c)else u)=F:=by
    conv=>rhs;rw[<- List.map_id F]
    refine zeE λu B=>?_
    rw[if_neg (λz=>q.1 (by rw[<- z];exact zeI (f:=(·.1)) B))];rfl
   rw[if_pos rfl,G,if_pos rfl,zeJ];dsimp only
   lia
  ·rw[if_neg e,if_neg e,J5 q.2 (by
    rcases List.mem_cons.mp (show k∈t.1::F.map (·.1)from h)with z|z
    ·exact absurd z.symm e
    ·exact z)]
   lia
theorem SZ(q:(F.map (·.1)).Nodup):ev vs (My.put F k c)=ev vs F+(c-cf F k)*mon k vs:=by
 by_cases h:k∈F.map (·.1)
 ·have:My.put F k c=F.map λt=>if t.1=k then(t.1,c)else t:=by
   unfold My.put;rw[if_pos];obtain⟨t,z,e⟩:=List.mem_map.mp h;exact List.any_eq_true.mpr ⟨t,z,decide_eq_true e⟩
  rw[this,J5 q h]
 ·rw[tN h,kM,UC h]
  dsimp only;rw[Int.sub_zero]
theorem A6(q:(F.map (·.1)).Nodup)(h:c=cf F k+x):ev vs (My.put F k c)=ev vs F+x*mon k vs:=by
 rw[SZ q,h];have:cf F k+x-cf F k=x:=by lia
 rw[this]
theorem MR(p:l.Perm m):ev vs l=ev vs m:=by
 induction p with
 | nil=>rfl
 | cons x _ ih=>rw[bH,bH,ih]
 | swap x y l=>rw[bH,bH,bH,bH];lia
 | trans _ _ a b=>rw[a,b]
theorem iR{M c:Int}:M∣c%M-c:=by
 have:c%M-c=-(c-c%M):=by lia
 rw[this];exact Int.dvd_neg.mpr zfk
theorem yE{M:Int}{vs:List Int}:∀l:List My.Tm,M∣ev vs (My.bW M l)-ev vs l
 | []=>⟨0,by simp[My.bW,ev]⟩
 | t::l=>by
  have ih:=yE (M:=M) (vs:=vs) l;by_cases h:t.2%M=0
  ·have e:My.bW M (t::l)=My.bW M l:=by unfold My.bW;rw[List.filter_cons_of_neg (by simp[h])]
   rw[e,bH];have h2:=zcw (c:=mon t.1 vs) (Int.dvd_of_emod_eq_zero h);have:ev vs (My.bW M l)-(t.2*mon t.1 vs+ev vs l)=(ev vs (My.bW M l)-ev vs l)-t.2*mon t.1 vs:=by lia
   rw[this];exact zdf ih h2
  ·have e:My.bW M (t::l)=(t.1,t.2%M)::My.bW M l:=by unfold My.bW;rw[List.filter_cons_of_pos (by simp[h])];rfl
   rw[e,bH,bH];have h2:M∣(t.2%M-t.2)*mon t.1 vs:=zcw iR;rw[zeJ]at h2;dsimp only;have:t.2%M*mon t.1 vs+ev vs (My.bW M l)-(t.2*mon t.1 vs+ev vs l)=(t.2%M*mon t.1 vs-t.2*mon t.1 vs)+(ev vs (My.bW M l)-ev vs l):=by lia
   rw[this];exact zaF h2 ih
noncomputable def Bx:List Int->List Int->Prop
 | [a],[x]=>0<=x/\x<=a
 | [a,b],[x,y]=>(0<=x/\x<=a)/\0<=y/\y<=b
 | _,_=>False
noncomputable def eX:List Int->List Int->List Int
 | [x],[y]=>[x+y]
 | [x,a],[y,b]=>[x+y,a+b]
 | _,_=>[]
theorem Bx.len:∀ {d k:List Int},Bx d k->(d.length=1/\k.length=1)\/(d.length=2/\k.length=2)
 | [_],[_],_=>.inl ⟨rfl,rfl⟩
 | [_,_],[_,_],_=>.inr ⟨rfl,rfl⟩
theorem Bx.shape:∀ {d k:List Int},Bx d k->(∃a x,d=[a]/\k=[x]/\0<=x/\x<=a)\/∃a b x y,d=[a,b]/\k=[x,y]/\(0<=x/\x<=a)/\0<=y/\y<=b
 | [a],[x],h=>.inl ⟨a,x,rfl,rfl,h⟩
 | [a,b],[x,y],h=>.inr ⟨a,b,x,y,rfl,rfl,h⟩
theorem Bx.mono(h:Bx d k)(g:Bx e d):Bx e k:=by
 rcases h.shape with⟨a,x,rfl,rfl,h⟩|⟨a,b,x,y,rfl,rfl,h⟩
 ·rcases g.shape with⟨c,z,rfl,e,g⟩|⟨c,B,z,q,rfl,e,g⟩
  ·cases e;exact⟨h.1,Int.le_trans h.2 g.2⟩
  ·cases e
 ·rcases g.shape with⟨c,z,rfl,e,g⟩|⟨c,B,z,q,rfl,e,g⟩
  ·cases e
  ·cases e;exact⟨⟨h.1.1,Int.le_trans h.1.2 g.1.2⟩,h.2.1,Int.le_trans h.2.2 g.2.2⟩
theorem Bx.add(h:Bx d k)(g:Bx e j)(l:d.length=e.length):Bx (eX d e) (eX k j):=by
 rcases h.shape with⟨a,x,rfl,rfl,h⟩|⟨a,b,x,y,rfl,rfl,h⟩
 ·rcases g.shape with⟨c,z,rfl,rfl,g⟩|⟨c,B,z,q,rfl,rfl,g⟩
  ·exact⟨Int.add_nonneg h.1 g.1,Int.add_le_add h.2 g.2⟩
  ·cases l
 ·rcases g.shape with⟨c,z,rfl,rfl,g⟩|⟨c,B,z,q,rfl,rfl,g⟩
  ·cases l
  ·exact⟨⟨Int.add_nonneg h.1.1 g.1.1,Int.add_le_add h.1.2 g.1.2⟩,Int.add_nonneg h.2.1 g.2.1,Int.add_le_add h.2.2 g.2.2⟩
theorem N5(h:Bx d k)(g:Bx e j)(l:d.length=e.length)(F:vs.length=d.length):mon (eX k j) vs=mon k vs*mon j vs:=by
 rcases h.shape with⟨a,x,rfl,rfl,h⟩|⟨a,b,x,y,rfl,rfl,h⟩
 ·rcases g.shape with⟨c,z,rfl,rfl,g⟩|⟨c,G,z,B,rfl,rfl,g⟩
  ·obtain⟨v,rfl⟩:=List.length_eq_one_iff.mp F
   show v^(x+z).toNat*1=v^x.toNat*1*(v^z.toNat*1);rw[Int.toNat_add h.1 g.1,zdI];simp
  ·cases l
 ·rcases g.shape with⟨c,z,rfl,rfl,g⟩|⟨c,G,z,B,rfl,rfl,g⟩
  ·cases l
  ·obtain⟨v,u,rfl⟩:=f6 F
   show v^(x+z).toNat*(u^(y+B).toNat*1)=v^x.toNat*(u^y.toNat*1)*(v^z.toNat*(u^B.toNat*1));rw[Int.toNat_add h.1.1 g.1.1,zdI,Int.toNat_add h.2.1 g.2.1,zdI];simp only[zby];generalize v^x.toNat=p;generalize v^z.toNat=q;generalize u^y.toNat=r;generalize u^B.toNat=s;grind
structure Fk(d:List Int)(F:List My.Tm):Prop where
 nd:(F.map (·.1)).Nodup
 bx:∀t∈F,Bx d t.1
structure Fo(M:Int)(d:List Int)(F:List My.Tm):Prop where
 k:Fk d F
 cb:∀t∈F,0<=t.2/\t.2<M
theorem qS:∀(N:Nat) (l:List Nat),l.Nodup->(∀x∈l,x<N)->l.length<=N
 | 0,[],_,_=>zan _
 | 0,x::l,_,h=>absurd (h x (zas ..)) (ze7 _)
 | N+1,l,nd,h=>by
  by_cases m:N∈l
  ·have h1:=qS N (l.erase N) (nd.erase N) λx q=>by
    have:=(List.Nodup.mem_erase_iff nd).mp q;have:=h x this.2
    lia
   rw[List.length_erase_of_mem m]at h1
   lia
  ·have:=qS N l nd λx q=>by
    have h1:=h x q;have:x≠N:=λz=>m (z ▸ q)
    lia
   lia
noncomputable def OM:List Int->Nat
 | [x]=>x.toNat
 | [x,y]=>x.toNat*7+y.toNat
 | _=>0
noncomputable def BS:List Int->Prop
 | [a]=>a<=6
 | [a,b]=>a<=6/\b<=6
 | _=>True
theorem Bx.enc_lt(l:BS d)(h:Bx d k):OM k<49:=by
 rcases h.shape with⟨a,x,rfl,rfl,h⟩|⟨a,b,x,y,rfl,rfl,h⟩
 ·have l:a<=6:=l;show x.toNat<49;lia
 ·have l:a<=6/\b<=6:=l;show x.toNat*7+y.toNat<49;lia
theorem Bx.enc_inj(l:BS d)(h:Bx d k)(g:Bx d j)(e:OM k=OM j):k=j:=by
 rcases h.shape with⟨a,x,rfl,rfl,h⟩|⟨a,b,x,y,rfl,rfl,h⟩
 ·rcases g.shape with⟨c,z,q,rfl,g⟩|⟨c,F,z,B,q,rfl,g⟩
  ·have e:x.toNat=z.toNat:=e
   have:x=z:=by lia
   rw[this]
  ·cases q
 ·rcases g.shape with⟨c,z,q,rfl,g⟩|⟨c,F,z,B,q,rfl,g⟩
  ·cases q
  ·cases q
   have l:a<=6/\b<=6:=l;have e:x.toNat*7+y.toNat=z.toNat*7+B.toNat:=e;have h1:x=z:=by lia
   have h2:y=B:=by lia
   rw[h1,h2]
theorem JS(l:BS d):∀ {ks:List (List Int)},ks.Nodup->(∀k∈ks,Bx d k)->(ks.map OM).Nodup
 | [],_,_=>zc0
 | k::ks,q,h=>by
  have q:=List.nodup_cons.mp q;rw[zak];refine List.nodup_cons.mpr ⟨λz=>?_,JS l q.2 λj B=>h j (zav _ B)⟩;obtain⟨j,B,e⟩:=List.mem_map.mp z;have:=Bx.enc_inj l (h j (zav _ B)) (h k (zas ..)) e;subst this;exact q.1 B
theorem Fk.len(h:Fk d F)(l:BS d):F.length<=49:=by
 have e:=JS l h.nd λk q=>by obtain⟨t,z,rfl⟩:=List.mem_map.mp q;exact h.bx t z
 have:=qS 49 _ e λx B=>by
  obtain⟨k,q,rfl⟩:=List.mem_map.mp B;obtain⟨t,z,rfl⟩:=List.mem_map.mp q;exact Bx.enc_lt l (h.bx t z)
 rw[zao,zao]at this;exact this
theorem Fk.nil(d:List Int):Fk d []:=⟨zc0,λ_ h=>nomatch h⟩
theorem Fk.put(h:Fk d F)(b:Bx d k):Fk d (My.put F k c):=⟨My.k8 h.nd,λt q=>by
 rcases uL q with z|z
 ·rw[z];exact b
 ·exact h.bx t z⟩
theorem Fk.mono(h:Fk d F)(b:Bx e d):Fk e F:=⟨h.nd,λt q=>(h.bx t q).mono b⟩
theorem Fo.mono(h:Fo M d F)(b:Bx e d):Fo M e F:=⟨h.k.mono b,h.cb⟩
theorem Fo.nil(M:Int)(d:List Int):Fo M d []:=⟨Fk.nil d,λ_ h=>nomatch h⟩
theorem Fk.form(h0:0<M)(h:Fk d T):Fo M d (My.bW M (bJ T)):=by
 have p:=cU T;have z:∀t∈My.bW M (bJ T),∃u∈T,t.1=u.1/\t.2=u.2%M:=λt q=>by
  unfold My.bW at q;obtain⟨u,B,rfl⟩:=List.mem_map.mp q;exact⟨u,p.subset (List.mem_filter.mp B).1,rfl,rfl⟩
 refine⟨⟨?_,λt q=>?_⟩,λt q=>?_⟩
 ·unfold My.bW
  rw[zaQ];have e:((bJ T).map (·.1)).Nodup:=(p.map _).nodup_iff.mpr h.nd;have s:((bJ T).filter λt=>decide (t.2%M≠0)).Sublist (bJ T):=List.filter_sublist;exact(s.map (·.1)).nodup e
 ·obtain⟨u,B,e,_⟩:=z t q
  rw[e];exact h.bx u B
 ·obtain⟨u,B,_,e⟩:=z t q
  rw[e];exact⟨zaw _ (zaU h0),zax _ h0⟩
theorem nN(T:List My.Tm):M∣ev vs (My.bW M (bJ T))-ev vs T:=by
 have h:=yE (M:=M) (vs:=vs) (bJ T);rw[MR (cU T)]at h;exact h
theorem nK{M v:Int}:∀n:Nat,M∣lS M v n-v^n
 | 0=>⟨0,by simp[lS]⟩
 | n+1=>by
  have ih:=nK (M:=M) (v:=v) n;have h1:M∣lS M v n*v%M-lS M v n*v:=iR;have h2:M∣(lS M v n-v^n)*v:=zcw ih;rw[zeJ]at h2;have:lS M v (n+1)-v^(n+1)=(lS M v n*v%M-lS M v n*v)+(lS M v n*v-v^n*v):=by
   rw[zbD];show lS M v n*v%M-v^n*v=_
   lia
  rw[this];exact zaF h1 h2
theorem a7{M a b c d:Int}(h:M∣a-b)(g:M∣c-d):M∣a*c-b*d:=by
 have h1:M∣(a-b)*c:=zcw h;have h2:M∣b*(c-d):=zeK g;have:a*c-b*d=(a-b)*c+b*(c-d):=by grind
 rw[this];exact zaF h1 h2
theorem aS(M a:Int):M∣a-a:=⟨0,by lia⟩
theorem B3{M:Int}{vs d:List Int}(q:vs.length=d.length):∀ {F:List My.Tm},(∀t∈F,Bx d t.1)->M∣sumF M vs F-ev vs F
 | [],_=>⟨0,by simp[sumF,ev]⟩
 | t::F,h=>by
  have ih:=B3 q (M:=M) (F:=F) λu z=>h u (zav _ z)
  have b:=h t (zas ..);have e:sumF M vs (t::F)=prodF M vs t+sumF M vs F:=by unfold sumF;rw[zak,zde]
  have p:M∣prodF M vs t-t.2*mon t.1 vs:=by
   obtain⟨k,c⟩:=t
   match d,k,vs,b,q with
   | [_],[x],[v],_,_=>
    show M∣c*lS M v x.toNat-c*(v^x.toNat*1);rw[zby];exact a7 (aS _ _) (nK _)
   | [_,_],[x,y],[v,u],_,_=>
    show M∣c*lS M v x.toNat*lS M u y.toNat-c*(v^x.toNat*(u^y.toNat*1));rw[zby,<- zbC];exact a7 (a7 (aS _ _) (nK _)) (nK _)
  rw[e,bH];have:prodF M vs t+sumF M vs F-(t.2*mon t.1 vs+ev vs F)=(prodF M vs t-t.2*mon t.1 vs)+(sumF M vs F-ev vs F):=by lia
  rw[this];exact zaF p ih
theorem xW:∀q:List My.Tm,F2 (q.map bN)=some (q.map kD)
 | []=>rfl
 | t::q=>by
  show(y4 (tupI t.1)).bind _=_;rw[asT_tupI,aA,xW q];rfl
theorem B6:∀(qs ps:List My.Tm),((ps++qs).map (·.1)).Nodup->rO (ps.map kD) (qs.map kD)=(ps++qs).map kD
 | [],ps,_=>by rw[zcC];rfl
 | q::qs,ps,h=>by
  show rO (putD (ps.map kD) (q.1.map zap) (.int q.2)) (qs.map kD)=_;rw[JI,tN,B6 qs (ps++[(q.1,q.2)])]
  ·simp
  ·simpa using h
  ·rw[zbv,List.nodup_append]at h
   intro z;exact h.2.2 _ z _ (zas ..) rfl
theorem EV{q:List My.Tm}(h:(q.map (·.1)).Nodup)(z:q.length<=1000):vJ [.tup (q.map bN)]=some (.dT (q.map kD)):=by
 have h0:vJ [.tup (q.map bN)]=(if aX (q.map bN).length=true then(F2 (q.map bN)).map λkvs=>D.dT (rO [] kvs)else none):=rfl;rw[h0,if_pos (show aX (q.map bN).length=true from decide_eq_true (by rw[zao];lia)),xW,aD];have:=B6 q [] (by simpa using h);rw[zb1,zfh]at this;rw[this]
theorem R7:((My.look cs k).map D.int).getD (.int 0)=.int (cf cs k):=by
 unfold cf;cases My.look cs k <;> rfl
theorem yK{κ:Type}[DecidableEq κ]:∀(l:List (κ×D)) (k j:κ) (d:D),bY (putD l k d) j=if j=k then some d else bY l j:=λl k j d=>by
 have q:∀l:List (κ×D),bY (l.map λp=>if p.1=k then(p.1,d)else p) j=if j=k then(bY l j).map λ_=>d else bY l j:=λl=>by
  induction l with
  | nil=>by_cases e:j=k <;> simp[bY,e]
  | cons p l ih=>
   unfold bY at ih ⊢;rw[zak,za7,za7];by_cases h:p.1=k
   ·rw[if_pos h]
    by_cases e:j=k
    ·subst e;simp[h]
    ·have:¬ p.1=j:=λz=>e (z ▸ h)
     simp[this,e]at ih ⊢;exact ih
   ·rw[if_neg h]
    by_cases e:j=k
    ·subst e;simp[h]at ih ⊢;exact ih
    ·by_cases B:p.1=j
     ·simp[e,B]
     ·simp[e,B]at ih ⊢;exact ih
 unfold putD;by_cases h:l.any (λp=>decide (p.1=k))=true
 ·rw[if_pos h,q]
  by_cases e:j=k
  ·rw[if_pos e,if_pos e]
   subst e;obtain⟨p,F,B⟩:=List.any_eq_true.mp h;have:(bY l j).isSome=true:=by
    unfold bY;rw[zd5,List.find?_isSome];exact⟨p,F,B⟩
   cases hv:bY l j with
   | none=>rw[hv]at this;cases this
   | some v=>rfl
  ·rw[if_neg e,if_neg e]
 ·rw[if_neg h]
  unfold bY;rw[zfi];by_cases e:j=k
  ·subst e
   have:l.find? (λp=>decide (p.1=j))=none:=List.find?_eq_none.mpr λp F z=>h (List.any_eq_true.mpr ⟨p,F,z⟩)
   simp[this]
  ·have:¬ k=j:=λz=>e z.symm
   simp[e,this]
theorem GU{κ:Type}[DecidableEq κ](l:List (κ×D))(k:κ)(d:D):(putD l k d).length<=l.length+1:=by
 unfold putD;by_cases h:l.any (λp=>decide (p.1=k))=true
 ·rw[if_pos h,zao];lia
 ·rw[if_neg h,zbk];simp
def fD(F:List My.Tm):D:=.tup (F.map bN)
theorem BV(G:ρ[3]?=some (some (.dT (T.map kD))))(hi:ρ[i]?=some (some (tupI k)))(F:X ρ=some (.int x))(J:T.length<=1000):vT 3 (aB i) (aZ bX (rQ (aB 3) (aB i) (eC (.int 0))) X) ρ=some (.nx (ρ.set 3 (some (.dT ((My.put T k (cf T k+x)).map kD))))):=by
 have B:=CL (cs:=T) k (cf T k+x) (by lia);have z:aB 3 ρ=some (.dT (T.map kD)):=by rw[q_var,G];rfl
 have q:aB i ρ=some (tupI k):=by rw[q_var,hi];rfl
 have a:(rQ (aB 3) (aB i) (eC (.int 0))) ρ=some (.int (cf T k)):=by
  rw[q_get2,z,q,aA,aA,q_c,aA,look_kD,aD,R7]
 have b:(aZ bX (rQ (aB 3) (aB i) (eC (.int 0))) X) ρ=some (.int (cf T k+x)):=by
  rw[q_op,a,aA,F,aA];rfl
 rw[q_put,b,aA,z,aA,q,aA,B,aD]
theorem qA(l:List (List Key×D))(k:List Int):b6 (.dT l) (tupI k)=some (bY l (k.map zap)):=by
 show(y4 (tupI k)).map _=_;rw[asT_tupI,aD]
theorem MV(k:List Int)(d:D)(h:l.length<=1000000):sH (.dT l) (tupI k) d=some (.dT (putD l (k.map zap) d)):=by
 show(y4 (tupI k)).bind _=_;rw[asT_tupI,aA,if_pos (by rw[aX];exact decide_eq_true h)]
noncomputable def pw(S:Nat->Int)(a:Int):Nat->Int
 | 0=>0
 | n+1=>pw S a n+a^n*S n
theorem IX:∀n:Nat,pw (λe=>(if m=e then x else 0)+S e) a n=(if m<n then a^m*x else 0)+pw S a n
 | 0=>by simp[pw]
 | n+1=>by
  rw[pw,pw,IX n,zdH];by_cases h:m=n
  ·subst h
   rw[if_neg (zbc _),if_pos rfl,if_pos (zdb _)]
   lia
  ·rw[if_neg h,Int.mul_zero]
   by_cases h2:m<n
   ·rw[if_pos h2,if_pos (by lia)];lia
   ·rw[if_neg h2,if_neg (by lia)];lia
noncomputable def la(k:List Int):Int:=(k.getLast?).getD 0
def grp(a:List Int)(w:Int)(l:List My.Tm):Int:=(l.map λt=>if t.1.dropLast=a then t.2*w^(la t.1).toNat else 0).sum
theorem yN(a:List Int)(w:Int)(l:List My.Tm)(t:My.Tm):grp a w (l++[t])=grp a w l+if t.1.dropLast=a then t.2*w^(la t.1).toNat else 0:=by
 unfold grp;rw[zbv,zak,zb1];induction l.map (λt=>if t.1.dropLast=a then t.2*w^(la t.1).toNat else 0)with
 | nil=>simp
 | cons x l ih=>rw[List.cons_append,zde,zde,ih];lia
theorem xI(a:List Int)(w:Int)(l:List My.Tm)(t:My.Tm):grp a w (t::l)=(if t.1.dropLast=a then t.2*w^(la t.1).toNat else 0)+grp a w l:=by
 unfold grp;rw[zak,zde]
theorem BW:∀ {l:List My.Tm},(∀t∈l,Bx [d] t.1)->grp [] w l=ev [w] l
 | [],_=>rfl
 | t::l,h=>by
  have b:=h t (zas ..);rw[xI,bH,BW λu q=>h u (zav _ q)];obtain⟨k,c⟩:=t
  match k,b with
  | [x],_=>
   show(if([]:List Int)=[]then c*w^x.toNat else 0)+_=c*(w^x.toNat*1)+_;rw[if_pos rfl,zby]
theorem CC{d e a w:Int}{m:Nat}:∀ {l:List My.Tm},(∀t∈l,Bx [d,e] t.1/\∃x y,t.1=[x,y]/\x<=(m:Int))->pw (λj=>grp [(j:Int)] w l) a (m+1)=ev [a,w] l
 | [],_=>by
  have:∀n,pw (λj=>grp [(j:Int)] w []) a n=0:=λn=>by
   induction n with
   | zero=>rfl
   | succ n ih=>rw[pw,ih];simp[grp]
  rw[this];rfl
 | t::l,h=>by
  obtain⟨b,x,y,B,J⟩:=h t (zas ..);have ih:=CC (a:=a) (w:=w) λu F=>h u (zav _ F)
  obtain⟨k,c⟩:=t;dsimp only at B;subst B;have b:(0<=x/\x<=d)/\0<=y/\y<=e:=b;have G:(λj:Nat=>grp [(j:Int)] w (([x,y],c)::l))=λj:Nat=>(if x.toNat=j then c*w^y.toNat else 0)+grp [(j:Int)] w l:=by
   funext j;rw[xI];congr 1;show(if [x]=[(j:Int)]then c*w^y.toNat else 0)=_;by_cases z:x.toNat=j
   ·rw[if_pos (by rw[<- z,Int.toNat_of_nonneg b.1.1]),if_pos z]
   ·rw[if_neg (λq=>z (by have:=List.cons.inj q;lia)),if_neg z]
  rw[G,IX,ih,if_pos (by lia),bH];show a^x.toNat*(c*w^y.toNat)+_=c*(a^x.toNat*(w^y.toNat*1))+_;rw[zby];congr 1;generalize a^x.toNat=p;generalize w^y.toNat=q;grind
theorem LK(ts:List My.Tm):ev vs (My.bS ts)=ev vs ts:=by
 have q:∀(ts cs:List My.Tm),(cs.map (·.1)).Nodup->ev vs (ts.foldl My.k4 cs)=ev vs cs+ev vs ts:=λts=>by
  induction ts with
  | nil=>intro cs h;rw[List.foldl_nil,lI,Int.add_zero]
  | cons t ts ih=>
   intro cs h;rw[zcK,ih (My.k4 cs t) (My.k8 h),bH];have:ev vs (My.k4 cs t)=ev vs cs+t.2*mon t.1 vs:=A6 h rfl;rw[this];lia
 have:=q ts [] zc0;rw[lI,Int.zero_add]at this;exact this
def fm(M:Int)(ts:List My.Tm):List My.Tm:=My.bW M (bJ (My.bS ts))
theorem KI(h0:0<M)(h:∀t∈ts,Bx d t.1):Fo M d (fm M ts)/\∀vs,M∣ev vs (fm M ts)-ev vs ts:=by
 obtain⟨_,B,q⟩:=My.jP ts;have k:Fk d (My.bS ts):=⟨B,λt F=>by obtain⟨u,z,e⟩:=q t F;rw[<- e];exact h u z⟩;refine⟨k.form h0,λvs=>?_⟩;rw[<- LK ts];exact nN _
theorem mK{M a b:Int}(h:M∣a-b):∀n:Nat,M∣a^n-b^n
 | 0=>by rw[zcS,zcS];exact aS M 1
 | n+1=>by rw[zbD,zbD];exact a7 (mK h n) h
theorem w8{M:Int}:∀ {vs us k:List Int},vs.length=us.length->(∀p∈vs.zip us,M∣p.1-p.2)->M∣mon k vs-mon k us
 | [],[],k,_,_=>by cases k <;> exact aS M _
 | v::vs,u::us,[],_,_=>aS M _
 | v::vs,u::us,e::k,l,h=>a7 (mK (h (v,u) (zas ..)) _) (w8 (by simpa using l) λp q=>h p (zav _ q))
theorem uY{M:Int}{vs us:List Int}(l:vs.length=us.length)(h:∀p∈vs.zip us,M∣p.1-p.2):∀F:List My.Tm,M∣ev vs F-ev us F
 | []=>aS M _
 | t::F=>by
  have ih:=uY l h F;have m:=a7 (aS M t.2) (w8 (k:=t.1) l h);rw[bH,bH];have:t.2*mon t.1 vs+ev vs F-(t.2*mon t.1 us+ev us F)=(t.2*mon t.1 vs-t.2*mon t.1 us)+(ev vs F-ev us F):=by lia
  rw[this];exact zaF m ih
theorem cS{M a b:Int}(h:M∣a-b):a%M=b%M:=by
 obtain⟨c,q⟩:=h;have:a=b+M*c:=by lia
 rw[this,Int.add_mul_emod_self_left]
theorem WU{M a b:Int}(h:a%M=b%M):M∣a-b:=by
 have h1:M∣a%M-a:=iR;have h2:M∣b%M-b:=iR;rw[h]at h1;have:a-b=(b%M-b)-(b%M-a):=by lia
 rw[this];exact zdf h2 h1
section
variable {X:Cx}{L:Lp}{O O':List Nat}
theorem cO(O2:List Nat){z O3:List Nat}{st:Stmt}{q:List Stmt}{f g:Sv}(h:iD X L z st f O2)(k:dM X L O2 q g O3):dM X L z (st::q) (bD f g) O3:=cn h k
theorem wt{x1}(h:y8 X O es g)(z:Len g es.length)(q:Nat.ble es.length 100=true:=by rfl):PD X O (.Tuple es x1 pos) (iC g):=JF h (λρ ds k=>by rw[z ρ ds k];exact zfl q)
theorem wl(h:y8 X O es g)(z:Len g es.length)(q:Nat.ble es.length 100=true:=by rfl):PF X O (.List es pos) (F1 g):=JJ h (λρ ds k=>by rw[z ρ ds k];exact zfl q)
theorem wE(O':Fn X.prog X.w X.K X.mg X.base x k ps F)(G:Room j X.A)(M:y8 X O (e::es) f)(J:Len f ps.length)(B:k<=j)(N:Gl X x:=by rfl)(q:(x == ("__debug__" : Str))=false:=by decide)(hs:isStar e=false:=by rfl)(z:(es.all λe=>!isStar e)=true:=by rfl):PD X O (.Call (.Name x p) (e::es) [] pos) (aP F f):=cD O' (G.mono B) M J N q hs z
theorem YZ{e:Expr}{es:List Expr}{f:Lv}{p pos:Pos}(F:X.mg "len" = none)(z:nU X O (e::es) f)(B:Gl X "len")(hs:isStar e=false)(q:((es:List Expr).all λe=>!isStar e)=true):PD X O (.Call (.Name "len" p) (e::es) [] pos) (aP dA f):=cB S1 F My.boot_len z B (by decide) (by decide) hs q
theorem ZU{e:Expr}{es:List Expr}{f:Lv}{p pos:Pos}(F:X.mg "tuple" = none)(z:nU X O (e::es) f)(B:Gl X "tuple")(hs:isStar e=false)(q:((es:List Expr).all λe=>!isStar e)=true):PD X O (.Call (.Name "tuple" p) (e::es) [] pos) (aP jR f):=X3 p9 F My.boot_tuple z B (by decide) (by decide) hs q
theorem ZW{e:Expr}{es:List Expr}{f:Lv}{p pos:Pos}(F:X.mg "int" = none)(z:nU X O (e::es) f)(B:Gl X "int")(hs:isStar e=false)(q:((es:List Expr).all λe=>!isStar e)=true):PD X O (.Call (.Name "int" p) (e::es) [] pos) (aP FY f):=X3 RQ F My.boot_int z B (by decide) (by decide) hs q
theorem YW{e:Expr}{es:List Expr}{f:Lv}{p pos:Pos}(F:X.mg "list" = none)(z:nU X O (e::es) f)(B:Gl X "list")(hs:isStar e=false)(q:((es:List Expr).all λe=>!isStar e)=true):PF X O (.Call (.Name "list" p) (e::es) [] pos) (aP kR f):=qo LF F My.boot_list z B (by decide) (by decide) hs q
theorem ZJ{e:Expr}{es:List Expr}{f:Lv}{p pos:Pos}(F:X.calm=true)(G:X.mg "all" = none)(z:nU X O (e::es) f)(B:Gl X "all")(hs:isStar e=false)(q:((es:List Expr).all λe=>!isStar e)=true):PD X O (.Call (.Name "all" p) (e::es) [] pos) (aP FZ f):=cB (J0 F) G My.boot_all z B (by decide) (by decide) hs q
theorem WL{q:Expr}{e:Expr}{es:List Expr}{f:Lv}{p pos:Pos}(G:X.calm=true)(J:X.mg "min" = none)(B:nU X O [e,q] f)(F:Gl X "min")(hs:isStar e=false)(z:(([q]:List Expr).all λe=>!isStar e)=true):PD X O (.Call (.Name "min" p) [e,q] [] pos) (aP yU f):=cB (OA G) J My.boot_min B F (by decide) (by decide) hs z
theorem VQ{q:Expr}{e:Expr}{es:List Expr}{f:Lv}{p pos:Pos}(G:X.calm=true)(J:X.mg "max" = none)(B:nU X O [e,q] f)(F:Gl X "max")(hs:isStar e=false)(z:(([q]:List Expr).all λe=>!isStar e)=true):PD X O (.Call (.Name "max" p) [e,q] [] pos) (aP yR f):=cB (NL G) J My.boot_max B F (by decide) (by decide) hs z
theorem VA{e:Expr}{es:List Expr}{f:Lv}{p pos:Pos}(F:X.calm=true)(G:X.mg "max" = none)(z:nU X O [e] f)(B:Gl X "max")(hs:isStar e=false)(q:(([]:List Expr).all λe=>!isStar e)=true):PD X O (.Call (.Name "max" p) [e] [] pos) (aP yT f):=cB (MO F) G My.boot_max z B (by decide) (by decide) hs q
theorem WD{e:Expr}{f:Ev}{p p2 pos:Pos}(G:PB X O e f)(J:X.mg "isinstance" = none)(z:X.mg "int" = none)(F:Gl X "isinstance")(q:Gl X "int")(h1:zah [e,.Name "int" p2] X.env=(false,eval e X.env)::zah [.Name "int" p2] X.env)(h2:(zaJ pos (zah [.Name "int" p2] X.env)).any (·.1)=false)(B:zah [.Name "int" p2] X.env=(false,eval (.Name "int" p2) X.env)::zah [] X.env):PD X O (.Call (.Name "isinstance" p) [e,.Name "int" p2] [] pos) (BN "int" f):=A3 MK F J q z My.boot_int G (by decide) (by decide) h1 h2 B
theorem RV{e:Expr}{f:Ev}{p p2 pos:Pos}(G:PB X O e f)(J:X.mg "isinstance" = none)(z:X.mg "bool" = none)(F:Gl X "isinstance")(q:Gl X "bool")(h1:zah [e,.Name "bool" p2] X.env=(false,eval e X.env)::zah [.Name "bool" p2] X.env)(h2:(zaJ pos (zah [.Name "bool" p2] X.env)).any (·.1)=false)(B:zah [.Name "bool" p2] X.env=(false,eval (.Name "bool" p2) X.env)::zah [] X.env):PD X O (.Call (.Name "isinstance" p) [e,.Name "bool" p2] [] pos) (BN "bool" f):=A3 HQ F J q z My.boot_bool G (by decide) (by decide) h1 h2 B
theorem LJ{e:Expr}{f:Ev}{p p2 pos:Pos}(G:PB X O e f)(J:X.mg "isinstance" = none)(z:X.mg "tuple" = none)(F:Gl X "isinstance")(q:Gl X "tuple")(h1:zah [e,.Name "tuple" p2] X.env=(false,eval e X.env)::zah [.Name "tuple" p2] X.env)(h2:(zaJ pos (zah [.Name "tuple" p2] X.env)).any (·.1)=false)(B:zah [.Name "tuple" p2] X.env=(false,eval (.Name "tuple" p2) X.env)::zah [] X.env):PD X O (.Call (.Name "isinstance" p) [e,.Name "tuple" p2] [] pos) (BN "tuple" f):=A3 kit_tuple F J q z My.boot_tuple G (by decide) (by decide) h1 h2 B
theorem rSl{e:Expr}{lo hi:Option Expr}{p2 pos:Pos}{f:Ev}{a b:Ov}(z:PB X O e f)(B:PY X O lo a)(q:PY X O hi b):PD X O (.Subscript e (.Slice lo hi none p2) pos) (K5 lO f a b):=HA ZG z B q
theorem rIt{a b:Expr}{pos:Pos}{z q:Ev}(B:X.A.units+1<cLine)(G:PB X O a z)(F:PB X O b q)(hs:uK b:=by exact λ_ _=>rfl):PD X O (.Subscript a b pos) (aZ aH z q):=M8 B G F hs
theorem ZO{a b:Expr}{pos:Pos}{z q:Ev}{j:Nat}(B:Room j X.A)(G:PB X O a z)(F:PB X O b q)(J:zce .In b=false):m8 X O (.Compare a [.In] [b] pos) (eJ (aZ F4 z q)):=u9 (QI B.units) G F J
theorem YL{a b:Expr}{pos:Pos}{z q:Ev}{j:Nat}(B:Room j X.A)(G:PB X O a z)(F:PB X O b q)(J:zce .NotIn b=false):m8 X O (.Compare a [.NotIn] [b] pos) (eJ (aZ kK z q)):=u9 (D4 B.units) G F J
theorem qv{a b:Expr}{op:CmpOp}{pos:Pos}{g:D->D->Option D}{z q:Ev}(B:eY X (zaq op) g)(G:PB X O a z)(F:PB X O b q)(h1:op≠CmpOp.In)(h2:op≠CmpOp.NotIn):PD X O (.Compare a [op] [b] pos) (aZ g z q):=SN B G F (J2 _ h1 h2)
theorem qu{o e:Expr}{apos cpos:Pos}{q z:Ev}(G:PB X O o q)(U:PB X O e z)(M:zcI o "join" X.env (eval o X.env)=eval o X.env)(N:((((zaJ cpos (zah [e] X.env)).all λx=>!x.fst) && (zcD cpos (zcE [] X.env)).all λx=>x.fst.isSome) && decide (([e].length+([]:List zbG).length+if([]:List zbG).isEmpty=true then 0 else 1)<30))=true)(J:(apos.endLine == cpos.line)=true)(B:zah [e] X.env=(false,eval e X.env)::zah [] X.env)(W:((zaJ cpos (zah [] X.env)).any λx=>x.fst)=false):PD X O (.Call (.Attribute o "join" apos) [e] [] cpos) (aZ t8 q z):=NF G U (λa b=>OY PySem.F.plainAttrs_str PySem.F.slot_str_join PySem.F.type_str_join My.M9 a b M N J B W) B
theorem rSo{o:Expr}{f:Ev}{p pos apos cpos:Pos}{j:Nat}(B:Room j X.A)(N:X.mg "sorted" = none)(z:PB X O o f)(J:X.calm=true)(G:Gl X "sorted")(h1:zcI o "items" X.env (eval o X.env)=eval o X.env)(h2:(apos.endLine == cpos.line)=true)(M:zah [.Call (.Attribute o "items" apos) [] [] cpos] X.env=(false,eval (.Call (.Attribute o "items" apos) [] [] cpos) X.env)::zah [] X.env)(q:(zaJ pos (zah [] X.env)).any (·.1)=false):PF X O (.Call (.Name "sorted" p) [.Call (.Attribute o "items" apos) [] [] cpos] [] pos) (t7 qD f):=zB J B.units G N z (λh=>QU PySem.F.slot_dict_items PySem.F.type_dict_items My.GC h h1 h2) M q
theorem qw{j:Nat}(q:Room j X.A):eY X (zaq .Eq) yY:=WG q.units
theorem qq{j:Nat}(q:Room j X.A):eY X (zaq .NotEq) DS:=WH q.units
theorem xLt{j:Nat}(q:Room j X.A):eY X (zaq .Lt) YD:=RO q.units0
def At(l:List Str)(x:Str)(i:Nat):Prop:=l[i]?=some x
theorem at_(i:Nat){l:List Str}{x:Str}(h:l[i]?=some x:=by eq_refl):At l x i:=h
theorem vB{i:Nat}{x:Str}{p:Pos}(h:At X.N x i)(B:UY X.env.scope x)(z:(x == ("__debug__" : Str))=false)(q:(x == ("__classdict__" : Str))=false):PB X O (.Name x p) (aB i):=J9 i (pv i h B z q)
theorem vD{i:Nat}{x:Str}{p:Pos}(h:At X.N x i)(n:O.contains i=false)(B:UY X.env.scope x)(z:(x == ("__debug__" : Str))=false)(q:(x == ("__classdict__" : Str))=false):PD X O (.Name x p) (aB i):=TR i (pv i h B z q) (by simpa using n)
theorem gV{i:Nat}{x:Str}{pos:Pos}(h:At X.N x i)(n:O.contains i=false)(q:X.N.Nodup)(B:Loc X.env.scope x)(z:X.fn x=true\/X.env.scope.names.lookup x=some .local):y6 X O (.Name x pos) (aL i):=kB (nO q h B z) n
theorem aJ(i:Nat)(z:PD X O e f:=by trivial)(q:X.N.Nodup:=by assumption)(hi:X.N[i]?=some x:=by rfl)(F:Loc X.env.scope x:=by first|exact zbJ rfl|exact zbS rfl)(h:Sub O' (O.filter (· != i))=true:=by rfl)(hs:za6 e (some (.Name x pos')) pos.line X.env=pure false:=by rfl)(B:X.fn x=true\/X.env.scope.names.lookup x=some .local:=by first|exact .inl rfl|exact .inr rfl):iD X L O (.Assign [.Name x pos'] e pos) (bQ i f) O':=DA q hi F z h hs B
theorem cH(i:Nat)(B:PF X O e f:=by trivial)(z:X.N.Nodup:=by assumption)(hi:X.N[i]?=some x:=by rfl)(q:Loc X.env.scope x:=by first|exact zbJ rfl|exact zbS rfl)(h:Sub O' (i::O)=true:=by rfl)(F:O.contains i=false:=by rfl)(hs:za6 e (some (.Name x pos')) pos.line X.env=pure false:=by rfl)(G:X.fn x=true\/X.env.scope.names.lookup x=some .local:=by first|exact .inl rfl|exact .inr rfl):iD X L O (.Assign [.Name x pos'] e pos) (bQ i f) O':=IH z hi q B h F hs G
theorem hV(i:Nat)(z:PD X O e f:=by trivial)(q:PE X o (sJ i):=by exact pv _)(U:mem O i=true:=by rfl)(J:zcI o "append" X.env (eval o X.env)=eval o X.env:=by rfl)(M:((((zaJ cpos (zah [e] X.env)).all λx=>!x.fst) && (zcD cpos (zcE [] X.env)).all λx=>x.fst.isSome) && decide (([e].length+([]:List zbG).length+if([]:List zbG).isEmpty=true then 0 else 1)<30))=true:=by rfl)(G:(apos.endLine == cpos.line)=true:=by rfl)(B:zah [e] X.env=(false,eval e X.env)::zah [] X.env:=by rfl)(N:((zaJ cpos (zah [] X.env)).any λx=>x.fst)=false:=by rfl)(hs:za6 (.Call (.Attribute o "append" apos) [e] [] cpos) none pos.line X.env=pure false:=by rfl)(h:Sub O' O=true:=by rfl):iD X L O (.Expr (.Call (.Attribute o "append" apos) [e] [] cpos) pos) (K0 i f) O':=AF q z U (OY PySem.F.plainAttrs_list PySem.F.slot_list_append PySem.F.type_list_append sV q (fW (PD.pe z) lM (hs:=B)) J M G B N) hs h
theorem aO(q:PD X O e f:=by trivial):dM X L O [.Return (some e) pos] (BU f) O':=aG (MH q)
theorem YS(B:dM X L O a f O')(z:dM X L O b k O')(q:m8 X O c g:=by trivial):iD X L O (.If c a b pos) (nT g f k) O':=BE q B z
theorem bM(z:dM X L O a f O')(q:m8 X O c g:=by trivial)(h:Sub O' O=true:=by rfl):iD X L O (.If c a [] pos) (nT g f vY) O':=BE q z (CO h)
theorem ZH{st:Stmt}:dM X L O [st] OI O':=aG EQ
theorem c9{c:Expr}{st:Stmt}{pos:Pos}{g:Bv}(q:m8 X O c g:=by trivial)(h:Sub O' O=true:=by rfl):iD X L O (.If c [st] [] pos) (nT g OI vY) O':=BE q ZH (CO h)
theorem bF(q z:List Nat)(F:dM X ⟨z,q⟩ q body b q)(hi:PDI X O tg iter f:=by trivial)(J:y6 X q tg g:=by trivial)(B:zcU (model X.prog X.w) X.A X.env X.xe:=by exact PassesOwn.never)(M:X.calm=true:=by rfl)(h1:Sub q O=true:=by rfl)(h2:Sub O' q=true:=by rfl)(G:Sub O' z=true:=by rfl)(hs:∀x,zbO iter X.env x=pure x:=by intro _;rfl):iD X L O (.For tg iter body [] pos) (jV f g b) O':=NU B M hi J F h1 h2 G hs
theorem PR(q z:List Nat)(F:dM X ⟨z,q⟩ q body b q)(J:m8 X q c g:=by trivial)(B:zcU (model X.prog X.w) X.A X.env X.xe:=by exact PassesOwn.never)(h1:Sub q O=true:=by rfl)(h2:Sub O' q=true:=by rfl)(G:Sub O' z=true:=by rfl):iD X L O (.While c body [] pos) (qX g b) O':=FM B J F h1 h2 G
theorem m7(i:Nat)(G:PD X O value fe:=by trivial)(B:PB X O k fk:=by trivial)(F:X.A.units+1<cLine:=by assumption)(z:PE X o (sJ i):=by exact pv _)(M:mem O i=true:=by rfl)(h:Sub O' O=true:=by rfl)(hs:za6 value (some (.Subscript o k pos')) pos.line X.env=pure false:=by rfl)(q:zdN [.Subscript o k pos'] value pos.line X.env=pure false:=by rfl)(hw:zdO [.Subscript o k pos'] value X.env=pure none:=by rfl)
  (J:∀ {to ti:TE} {t:KO},PE X o to->PE X k ti->OJ X t->PG X (.Subscript o k pos') (UK to ti t):=by intro _ _ _ a b c;exact JM a b c):iD X L O (.Assign [.Subscript o k pos'] value pos) (vT i fk fe) O':=LO F z B G M h hs q hw J
theorem rE(q:PB X O e f:=by trivial)(hs:za6 e none pos.line X.env=pure false:=by rfl)(h:Sub O' O=true:=by rfl):iD X L O (.Expr e pos) (KH f) O':=HI q hs h
theorem jT(σ:zab)(N:List Str)(ms:List (Option Nat))(hi:PDI X O tg iter it:=by trivial)(J:∀C s H fp,N.Nodup->y6 (My.aW X N scope (fN X.env.cells scope.names []) C s H fp) [] tg g:=by intros;trivial)(F:∀C s H fp,My.DR (My.aW X N scope (fN X.env.cells scope.names []) C s H fp) ifs (tDT [] c):=by intros;trivial)(U:∀C s H fp,PD (My.aW X N scope (fN X.env.cells scope.names []) C s H fp) [] elt f:=by intros;trivial)
  (B:X.env.cells=zcF (σ.heap.objs.size+1) X.env.scope.names []:=by rfl) (q:cZ X scope N ms:=by repeat' first|exact zbf|exact rfl|exact zbJ rfl|constructor) (G:N.Nodup:=by decide)
  (M:X.calm=true:=by rfl) (z:scope.kind=.function:=by rfl) (h:DE scope.names X.env.scope.names=true:=by rfl) (W:(ms.all λo=>match o with|some i=>!O.contains i|none=>true)=true:=by rfl) (hs:∀x,zbO iter X.env x=pure x:=by intro _;rfl):PF X O (.ListComp elt [⟨tg,iter,ifs,0⟩] scope pos) (hZ ms it g c f):=K8 M (BF z h B) q W hi (λC s H fp=>J C s H fp G) F U hs
theorem JK(i:Nat)(σ:zab)(N:List Str)(ms:List (Option Nat))(hi:PDI X O tg iter it:=by trivial)(Y:∀C s H fp,N.Nodup->y6 (My.aW X N scope (fN X.env.cells scope.names []) C s H fp) [] tg g:=by intros;trivial)(U:∀C s H fp,My.DR (My.aW X N scope (fN X.env.cells scope.names []) C s H fp) ifs (tDT [] c):=by intros;trivial)(he:∀C s H fp,PD (My.aW X N scope (fN X.env.cells scope.names []) C s H fp) [] elt f:=by intros;trivial)
  (J:X.env.cells=zcF (σ.heap.objs.size+1) X.env.scope.names []:=by rfl) (B:cZ X scope N ms:=by repeat' first|exact zbf|exact rfl|exact zbJ rfl|constructor) (W:N.Nodup:=by decide)
  (hc:X.calm=true:=by rfl) (G:scope.kind=.function:=by rfl) (h:DE scope.names X.env.scope.names=true:=by rfl) (hn:(ms.all λo=>match o with|some i=>!O.contains i|none=>true)=true:=by rfl) (hs:∀x,zbO iter X.env x=pure x:=by intro _;rfl)
  (hX:X.N.Nodup:=by assumption) (z:X.N[i]?=some x:=by rfl) (M:Loc X.env.scope x:=by first|exact zbJ rfl|exact zbS rfl) (q:Sub O' (O.filter (· != i))=true:=by rfl) (F:za6 (.ListComp elt [⟨tg,iter,ifs,0⟩] scope pos) (some (.Name x pos')) spos.line X.env=pure true:=by rfl) (hf:X.fn x=true\/X.env.scope.names.lookup x=some .local:=by first|exact .inl rfl|exact .inr rfl) :
  iD X L O (.Assign [.Name x pos'] (.ListComp elt [⟨tg,iter,ifs,0⟩] scope pos) spos) (bQ i (hZ ms it g c f)) O':=IB hX z M hc (BF G h J) B hn hi (λC s H fp=>Y C s H fp W) U he q hs F hf
theorem N1(i:Nat)(σ:zab)(N:List Str)(ms:List (Option Nat))(hi:PDI X O tg iter it:=by trivial)(hg:∀C s H fp,N.Nodup->y6 (My.aW X N scope (fN X.env.cells scope.names []) C s H fp) [] tg g:=by intros;trivial)(Y:∀C s H fp,My.DR (My.aW X N scope (fN X.env.cells scope.names []) C s H fp) ifs (tDT [] c):=by intros;trivial)(he:∀C s H fp,PD (My.aW X N scope (fN X.env.cells scope.names []) C s H fp) [] elt f:=by intros;trivial)
  (U:X.env.cells=zcF (σ.heap.objs.size+1) X.env.scope.names []:=by rfl) (B:cZ X scope N ms:=by repeat' first|exact zbf|exact rfl|exact zbJ rfl|constructor) (hN:N.Nodup:=by decide)
  (hc:X.calm=true:=by rfl) (J:scope.kind=.function:=by rfl) (h:DE scope.names X.env.scope.names=true:=by rfl) (hn:(ms.all λo=>match o with|some i=>!O.contains i|none=>true)=true:=by rfl) (hs:∀x,zbO iter X.env x=pure x:=by intro _;rfl)
  (hX:X.N.Nodup:=by assumption) (z:X.N[i]?=some x:=by rfl) (W:Loc X.env.scope x:=by first|exact zbJ rfl|exact zbS rfl) (q:Sub O' (i::O)=true:=by rfl) (G:O.contains i=false:=by rfl) (F:za6 (.ListComp elt [⟨tg,iter,ifs,0⟩] scope pos) (some (.Name x pos')) spos.line X.env=pure true:=by rfl) (M:X.fn x=true\/X.env.scope.names.lookup x=some .local:=by first|exact .inl rfl|exact .inr rfl) :
  iD X L O (.Assign [.Name x pos'] (.ListComp elt [⟨tg,iter,ifs,0⟩] scope pos) spos) (bQ i (hZ ms it g c f)) O':=ET hX z W hc (BF J h U) B hn hi (λC s H fp=>hg C s H fp hN) Y he q G hs F M
end
theorem fx{Q:zam}{w:World}{K:zaf}{mg:Str->Option Value}{base:Heap}{x:Str}{k:Nat}{ps:List Str}{F:List D->Option D}(B:List D->Option D)(h:Fn Q w K mg base x k ps F)(e:F=B:=by rfl):Fn Q w K mg base x k ps B:=e ▸ h
noncomputable def UM:List Str->(List Value->Prop)->Prop
 | [],Q=>Q []
 | _::ps,Q=>∀u,UM ps λus=>Q (u::us)
theorem LW{ps:List Str}{Q:List Value->Prop}(h:UM ps Q){us:List Value}(e:us.length=ps.length):Q us:=by
 induction ps generalizing us Q with
 | nil=>rw[List.length_eq_zero_iff.mp e];exact h
 | cons a ps ih=>
  cases us with
  | nil=>cases e
  | cons u us=>exact ih (h u) (Nat.succ.inj e)
def Bd(st:Stmt)(x:Str)(ps:List Str):Prop:=∀(kV doc pm:Value) (an:Option Addr) (cdv ct:Value),UM ps λus=>bindArgs (zbH x x (dP st) (bZ st) (aT st) .none kV doc pm an cdv ct) ⟨us,[]⟩=pure (ps.zip us)
def De(K:zaf)(x:Str)(st:Stmt):Prop:=∃f,zcx K za2 x=some (some (.ref f))/\Fe K x st f
def Des(K:zaf)(tp:Nat->Stmt)(t:List (Str×Nat×List Str)):Prop:=∀p∈t,De K p.1 (tp p.2.1)
theorem Des.nil{K:zaf}{tp:Nat->Stmt}:Des K tp []:=λ_ h=>nomatch h
theorem Des.cons{K:zaf}{tp:Nat->Stmt}{x:Str}{i:Nat}{ps:List Str}{t:List (Str×Nat×List Str)}{f:Addr}{F:Value}{od G:Option Addr}{z:Array (Option Value)}{kV B J q ct:Value}(a:zcx K za2 x=some (some (.ref f)))(l:K.lookup f=some ⟨F,od,.func (zbH x x (dP (tp i)) (bZ (tp i)) (aT (tp i)) .none kV B J G q ct),z⟩)(c:zcY K q x=true)(k:zcp K (.ref f)=true)(r:Des K tp t):Des K tp ((x,i,ps)::t):=
 zeL.2 ⟨⟨f,a,Fe.mk l c k⟩,r⟩
def Bds(tp:Nat->Stmt)(t:List (Str×Nat×List Str)):Prop:=∀p∈t,Bd (tp p.2.1) p.1 p.2.2
theorem Bds.nil:Bds tp []:=λ_ h=>nomatch h
theorem Bds.cons(a:Bd (tp i) x ps)(r:Bds tp t):Bds tp ((x,i,ps)::t):=zeL.2 ⟨a,r⟩
theorem Des.d{K:zaf}{h:Heap}{mg:Str->Option Value}{tp:Nat->Stmt}{t:List (Str×Nat×List Str)}(X:K.In h)(G:h.Ns za2 mg)(D:Des K tp t)(B:Bds tp t):∀p∈t,My.DefAt K mg p.1 (tp p.2.1) p.2.2:=λp F=>let ⟨_,a,e⟩:=D p F;e.d (zeM X G a) λkV z M J q ct us=>LW (B p F kV z M J q ct)
def Nos(K:zaf)(t:List Str):Prop:=∀x∈t,zcx K za2 x=some none
theorem Nos.nil{K:zaf}:Nos K []:=λ_ h=>nomatch h
theorem Nos.cons{K:zaf}{x:Str}{t:List Str}(a:zcx K za2 x=some none)(r:Nos K t):Nos K (x::t):=zeL.2 ⟨a,r⟩
def Gis(K:zaf)(t:List (Str×Int)):Prop:=∀p∈t,∃k,zcx K za2 p.1=some (some (.int p.2 k))
theorem Gis.nil{K:zaf}:Gis K []:=λ_ h=>nomatch h
theorem Gis.cons{K:zaf}{x:Str}{n:Int}{k:Tok}{t:List (Str×Int)}(a:zcx K za2 x=some (some (.int n k)))(r:Gis K t):Gis K ((x,n)::t):=zeL.2 ⟨⟨k,a⟩,r⟩
theorem Gis.d{K:zaf}{h:Heap}{mg:Str->Option Value}{t:List (Str×Int)}(X:K.In h)(G:h.Ns za2 mg)(D:Gis K t):∀p∈t,GInt mg p.1 p.2:=λp q=>let ⟨_,a⟩:=D p q;⟨⟨_,zeM X G a⟩⟩
theorem qU{w:List D}{c:Int}(h0:0<=c)(h1:c<=(w.length:Int)):cutD w none (some c)=w.take c.toNat/\cutD w (some c) none=w.drop c.toNat:=by
 have B:HT.sIx w.length w.length (some c)=c.toNat:=by
  show(if c<0 then _ else min c.toNat w.length)=_;rw[if_neg (by lia)];lia
 have q:HT.sIx w.length 0 (some c)=c.toNat:=by
  show(if c<0 then _ else min c.toNat w.length)=_;rw[if_neg (by lia)];lia
 have z:HT.sIx w.length 0 none=0:=rfl;have F:HT.sIx w.length w.length none=w.length:=rfl;unfold cutD;rw[B,q,z,F];constructor
 ·simp
 ·rw[List.take_of_length_le (by simp)]
section
variable {ρ ρ':cY}{f g:Ev}{a b:Bv}{l:Lv}{x y d r:D}{xs:List D}{i j:Int}{k:Nat}{s t:Sv}{o:Option Out}
theorem R3(h:ρ[k]?=some (some x)):aB k ρ=some x:=by unfold aB;rw[h];rfl
theorem ZE:eC x ρ=some x:=rfl
theorem DK{w:D->D->Option D}(B:f ρ=some x)(z:g ρ=some y)(q:w x y=some r):aZ w f g ρ=some r:=by unfold aZ;rw[B,aA,z,aA,q]
theorem CA{F:List D->Option D}(h:l ρ=some xs)(k:F xs=some r):aP F l ρ=some r:=by unfold aP;rw[h,aA,k]
theorem LN(h:f ρ=some x)(k:l ρ=some xs):aC f l ρ=some (x::xs):=by unfold aC;rw[h,aA,k,aA]
theorem RD(h:l ρ=some xs):iC l ρ=some (.tup xs):=by unfold iC;rw[h,aD]
theorem T6(h:l ρ=some xs):F1 l ρ=some (.lst xs):=by unfold F1;rw[h,aD]
theorem KN(h:f ρ=some (.int i)):kT f ρ=some (some i):=by unfold kT;rw[h,aA];rfl
theorem KG{w:D->Option Int->Option Int->Option D}{u v:Ov}{p q:Option Int}(G:f ρ=some x)(B:u ρ=some p)(F:v ρ=some q)(z:w x p q=some r):K5 w f u v ρ=some r:=by unfold K5;rw[G,aA,B,aA,F,aA,z]
theorem RJ(h:f ρ=some (.int i)):OO f ρ=some (.int (-i)):=by unfold OO;rw[h,aA];rfl
theorem Q7{c:Bool}(h:f ρ=some (.bl c)):eJ f ρ=some c:=by unfold eJ;rw[h,aA];rfl
theorem TY{c:Bool}(h:a ρ=some c):vX a ρ=some (!c):=by unfold vX;rw[h,aD]
noncomputable def XQ{α:Type}(c:Bool)(u v:α):α:=if c=true then u else v
theorem XO{q:Type}{c:Bool}{u v w:q}(h:c=true)(k:u=w):XQ c u v=w:=(if_pos h).trans k
theorem W9{q:Type}{c:Bool}{u v w:q}(h:c=false)(k:v=w):XQ c u v=w:=(if_neg (by rw[h];exact nofun)).trans k
theorem TU{c:Bool}{z:Option Bool}(h:a ρ=some c)(k:XQ c (b ρ) (some false)=z):sG a b ρ=z:=by unfold sG;rw[h,aA];exact k
theorem VF{c:Bool}{z:Option Bool}(h:a ρ=some c)(k:XQ c (some true) (b ρ)=z):OU a b ρ=z:=by unfold OU;rw[h,aA];exact k
theorem V4{c:Bool}(h:a ρ=some c)(k:XQ c (s ρ) (t ρ)=o):nT a s t ρ=o:=by unfold nT;rw[h,aA];exact k
def sq(p:Out)(t:Sv):Option Out:=match p with
 | .nx ρ=>t ρ
 | p=>some p
theorem qT{p:Out}(h:s ρ=some p)(k:sq p t=o):bD s t ρ=o:=by unfold bD;rw[h,aA];exact k
theorem yV(k:t ρ=o):sq (.nx ρ) t=o:=k
theorem WS(h:f ρ=some x):BU f ρ=some (.rt x):=WZ h
theorem QD{w:Gv}(h:f ρ=some x)(k:w x ρ=some ρ'):K1 f w ρ=some (.nx ρ'):=by unfold K1;rw[h,aA,k,aD]
theorem RU(h:aB k ρ=some (.lst xs))(e:f ρ=some x)(z:xs.length<=1000000):K0 k f ρ=some (.nx (ρ.set k (some (.lst (xs++[x]))))):=by
 unfold K0;rw[h,aA];show(f ρ).bind _=_;rw[e,aA];exact if_pos (decide_eq_true z)
theorem vG{u v:List D}(z:u.length+v.length<=1000000):bX (.lst u) (.lst v)=some (.lst (u++v)):=if_pos (decide_eq_true z)
theorem M5{u:List D}(z:u.length+1<=1000000):bX (.lst u) (.lst [x])=some (.lst (u++[x])):=vG z
theorem VX(h:dX xs i=some x):aH (.lst xs) (.int i)=some x:=h
theorem SM(h:dX xs i=some x):aH (.tup xs) (.int i)=some x:=h
theorem LA{ms:List (Option Nat)}{w:Gv}{ds:List D}(h:l ρ=some xs)(z:xs.length<=1000000)(e:bR w a f xs (nW ms ρ)=some ds):hZ ms l w a f ρ=some (.lst ds):=by unfold hZ;rw[h,aA];exact(if_pos (decide_eq_true z)).trans (by rw[e,aD])
theorem SC{w:Gv}:bR w a f [] ρ=some []:=rfl
theorem MQ{w:Gv}{ds:List D}(h:w x ρ=some ρ')(k:a ρ'=some true)(e:f ρ'=some y)(r:bR w a f xs ρ'=some ds):bR w a f (x::xs) ρ=some (y::ds):=by rw[bR,h,aA,k,aA,if_pos rfl,e,aA,r,aA]
theorem jS{R:D->Prop}(h:s ρ=some (.nx ρ'))(k:∃d,t ρ'=some (.rt d)/\R d):∃d,bD s t ρ=some (.rt d)/\R d:=by rw[aF h];exact k
theorem VY{w:Gv}(h:w x ρ=some ρ')(k:s ρ'=o):turn w s x ρ=o:=by unfold turn;rw[h,aA,k]
theorem L1{w:Gv}{Q:cY->Prop}(h:turn w s x ρ=some (.nx ρ'))(k:Q ρ'):∃ρ',turn w s x ρ=some (.nx ρ')/\Q ρ':=⟨_,h,k⟩
theorem Q0(h:f ρ=some (.lst xs)):kS f ρ=some xs:=by unfold kS;rw[h,aA]
theorem WO{w:List D->Option (List D)}{ys:List D}(h:l ρ=some xs)(k:w xs=some ys):lR w l ρ=some ys:=by unfold lR;rw[h,aA,k]
theorem QC{u:Ev}{w:List D}(q:f ρ=some (.lst w))(z:g ρ=some (.int i))(B:u ρ=some (.lst [x]))(h0:0<=i)(h1:i<w.length)(F:w.length<=1000) :
  aZ bX (aZ bX (K5 lO f rP (kT g)) u) (K5 lO f (kT (aZ bX g (eC (.int 1)))) rP) ρ=some (.lst (w.take i.toNat++x::w.drop (i.toNat+1))):=by
 obtain⟨n,rfl⟩:=Int.eq_ofNat_of_zero_le h0;refine(DK (DK (KG q rfl (KN z) rfl) B (vG ?_)) (KG q (KN (DK z rfl rfl)) rfl rfl) (vG ?_)).trans ?_
 all_goals rw[(qU h0 (by lia)).1]
 ·simp;lia
 ·rw[(qU (by lia) (by lia)).2];simp;lia
 ·rw[(qU (by lia) (by lia)).2];simp
end
end P
namespace Law
open PySem PySem.Spec PyProof.Rows L2 P
local macro_rules | `(tactic|ac_rfl) => `(tactic|first
 | (with_reducible first|exact ZE|exact SC|exact rfl|assumption)
 | ((with_reducible apply R3);exact rfl)
 | (with_reducible first|apply yV|apply qT|apply QC|apply DK|apply LN|apply CA|apply aN|apply RD|apply T6|apply KG|apply KN|apply QD|apply WS|apply V4|apply Q7|apply RJ|apply LA|apply MQ|apply Q0|apply WO|apply TY|apply TU|apply VF|apply RU) <;> ac_rfl
 | ((with_reducible apply XO);(with_reducible first|exact rfl|(apply decide_eq_true;assumption));ac_rfl)
 | ((with_reducible apply W9);(with_reducible first|exact rfl|(apply decide_eq_false;assumption));ac_rfl)
 | (with_reducible apply XO) <;> ac_rfl
 | (with_reducible apply W9) <;> ac_rfl
 | (with_reducible first|apply bB|apply dB|apply q_eqI|apply VX|apply SM|apply M5|apply vG|apply decide_eq_true|apply decide_eq_false) <;> ac_rfl
 | (show bR _ _ _ _ _=_;assumption)
 | exact rfl
 | exact zfl rfl
 | decide
 | lia)
local macro_rules | `(tactic|simp_all[$xs,*]) => `(tactic|simp[-zad, -zae, aA, aD, $xs,*])
noncomputable def top(i:Nat):Stmt:=PySem.Challenge.pw_chiefway_k24_where_a_make_falls_short.main.body.getD i (.Pass ⟨0,0,0,0⟩)
abbrev s_law:Stmt:=top 74
abbrev tb(x:Str)(i:Nat)(ps:List Str):=(x,i,ps)
def tab:List (Str×Nat×List Str):=[tb "_law_at" 55 ["script", "k"],tb "_law_unit" 57 ["M", "cell"],tb "_law_seats" 58 ["M", "script", "many"],tb "_law_road" 59 ["M", "seats", "j", "k", "cell"],tb "_law_roads" 60 ["M", "seats", "script"],tb "_law_spoiled" 63 ["M", "cell", "roads", "makes"],tb "_law_names" 56 ["cell", "many"],tb "_law_terms" 61 ["M", "seats", "takes", "gives", "some"],tb "_law_makes" 62 ["M", "seats", "script"],tb "_law_book" 64 ["script"],tb "is_whole" 8 ["thing"],tb "wheel" 9 ["thing"],tb "is_name" 45 ["text"],tb "check_kinds" 47 ["kinds"],tb "is_price" 49 ["price"],tb "on" 10 ["M", "n"],tb "roads_of" 48 ["M", "many", "roads"],tb "check_deeds" 53 ["makes"],tb "check_make" 51 ["many", "name", "takes", "gives", "price"],tb "form_of" 16 ["M", "sums"],tb "check_exponents" 15 ["n", "exponents"],tb "form" 14 ["M", "n", "terms"],tb "make_form" 52 ["M", "n", "terms"],tb "makes_of" 50 ["M", "many", "makes"],tb "book" 46 ["M", "kinds", "roads", "makes"],tb "_law_reach" 65 ["many", "roads"],tb "_law_kinds" 72 ["reach", "pair", "cell"],tb "_law_point" 71 ["p", "many"],tb "first_way" 31 ["book", "j", "k"],tb "plus" 17 ["M", "one", "other"],tb "added" 19 ["exponents", "others"],tb "times" 18 ["M", "one", "other"],tb "constant" 20 ["M", "n", "c"],tb "turned_form" 21 ["M", "n", "turn", "one"],tb "points" 29 ["n"],tb "power" 27 ["M", "value", "exponent"],tb "worth_at" 26 ["M", "one", "values"],tb "parting" 28 ["M", "n", "one", "other"],tb "turned" 11 ["M", "turn", "x"],tb "then" 12 ["M", "one", "other"],tb "turn_of" 32 ["book", "way"],tb "seen_shortfall" 37 ["book", "m", "v", "seen"],tb "powers_of" 24 ["M", "n", "one", "most"],tb "by_powers" 25 ["M", "inner", "most", "factors"],tb "greatest" 23 ["one", "place"],tb "put" 22 ["M", "n", "outer", "inners"],tb "unknown" 35 ["M", "n", "place"],tb "seen_form" 34 ["book", "v", "kinds"],tb "shortfall" 36 ["book", "m", "v", "kinds"],tb "_law_first" 66 ["roads", "reach", "j", "k"],tb "_law_along" 67 ["M", "roads", "way", "x"],tb "_law_made" 68 ["M", "terms", "values"],tb "_law_seen" 69 ["M", "roads", "reach", "make", "some", "values"],tb "_law_both" 70 ["M", "roads", "reach", "pair", "some", "values"],tb "_law_right" 73 ["M", "roads", "reach", "pair", "some", "found", "values", "point"]]
noncomputable def blt:List Str:=["all", "bool", "dict", "enumerate", "int", "isinstance", "len", "list", "max", "min", "range", "sorted", "tuple", "zip"]
noncomputable def Z0:List (Str×Int):=[("MOST_KINDS",6),("MOST_MAKES",16),("MOST_OF_A_DEED",6),("MOST_POWER",2),("MOST_ROADS",12)]
theorem sc_law:FnScope ["script", "M", "kinds", "roads", "makes", "made", "reach", "k", "cell", "m", "v", "pair", "some", "values", "point", "found"] ["script"] (aT s_law):=⟨rfl,rfl,rfl,by decide +kernel,rfl,by decide +kernel,by decide +kernel⟩
structure Txt(K:zaf)(mg:Str->Option Value):Prop where
 d:∀p∈tab,My.DefAt K mg p.1 (top p.2.1) p.2.2
 b:∀x∈blt,mg x=none
 g:∀p∈Z0,GInt mg p.1 p.2
 g_WORDS:GTup K mg "WORDS" ["let", "in", "pick", "again"]
theorem Txt.n{K:zaf}{mg:Str->Option Value}(T:Txt K mg){x:Str}(h:x∈blt:=by decide +kernel):mg x=none:=T.b x h
abbrev Tx(P:zam)(w:World)(K:zaf)(mg:Str->Option Value)(base:Heap):Prop:=Txt K mg
abbrev Zt(x:Str)(ps:List Str)(k n:Nat):Type:={b:Sv // ∀ {P:zam} {w:World} {K:zaf} {mg:Str->Option Value} {base:Heap},Tx P w K mg base->Fn P w K mg base x k ps (bA n b)}
def dC(N:List Str)(i:Nat){x:Str}{ps:List Str}{k:Nat}{b:Sv}(h:∀ {P:zam} {w:World} {K:zaf} {mg:Str->Option Value} {base:Heap} {B:Addr} {z:Value} {A:zar} {q:List Env} {H:Hp} {E:XK} (T:Tx P w K mg base) (s:zab) (nd:N.Nodup) (F:Room k (A.deeper (zbn x (aT (top i)) s.heap.objs.size B z))) (hu:(A.deeper (zbn x (aT (top i)) s.heap.objs.size B z)).units+1<cLine),∃g,dM (rR F6 P w K mg base N x (aT (top i)) B z A q s H E).nox ⟨[],[]⟩ [] (bZ (top i)) g []/\g=b)(m:(x,i,ps)∈tab:=by decide +kernel)(sc:FnScope N ps (aT (top i)):=by exact⟨rfl,rfl,rfl,by decide +kernel,rfl,by decide +kernel,by decide +kernel⟩):Zt x ps (k+1) N.length:=⟨b,λT=>WC (T.d _ m) sc λB z A q s H E F=>h T s sc.nd F (PJ F)⟩
local macro_rules | `(tactic|exists $x:ident) => `(tactic|(refine' (?f:∀y:Sv, Subtype.val $x = y -> Sv) _ ?h;(case h => unfold $x;(try unfold dC);(try dsimp only);try exact rfl);(case f => exact λy _ => y)))
theorem ZM{X:Cx}{O:List Nat}{p:Pos}(T:Txt X.K X.mg)(q:Gl X "MOST_KINDS"):PD X O (.Name "MOST_KINDS" p) (eC (.int 6)):=kO (T.g ("MOST_KINDS",6) (by decide +kernel)) q
theorem Y3{X:Cx}{O:List Nat}{p:Pos}(T:Txt X.K X.mg)(q:Gl X "MOST_MAKES"):PD X O (.Name "MOST_MAKES" p) (eC (.int 16)):=kO (T.g ("MOST_MAKES",16) (by decide +kernel)) q
theorem YT{X:Cx}{O:List Nat}{p:Pos}(T:Txt X.K X.mg)(q:Gl X "MOST_OF_A_DEED"):PD X O (.Name "MOST_OF_A_DEED" p) (eC (.int 6)):=kO (T.g ("MOST_OF_A_DEED",6) (by decide +kernel)) q
theorem Y6{X:Cx}{O:List Nat}{p:Pos}(T:Txt X.K X.mg)(q:Gl X "MOST_POWER"):PD X O (.Name "MOST_POWER" p) (eC (.int 2)):=kO (T.g ("MOST_POWER",2) (by decide +kernel)) q
theorem YU{X:Cx}{O:List Nat}{p:Pos}(T:Txt X.K X.mg)(q:Gl X "MOST_ROADS"):PD X O (.Name "MOST_ROADS" p) (eC (.int 12)):=kO (T.g ("MOST_ROADS",12) (by decide +kernel)) q
theorem gt_0{X:Cx}{O:List Nat}{e:Expr}{f:Ev}{p pos:Pos}(T:Txt X.K X.mg)(z:Gl X "WORDS")(q:PB X O e f):m8 X O (.Compare e [.In] [.Name "WORDS" p] pos) (eJ (t7 (OL false ["let", "in", "pick", "again"]) f)):=N8 T.g_WORDS z q
local macro_rules | `(tactic|trivial) => `(tactic|first
 | (show PB _ _ _ _;first|(apply vB <;> trivial)|(apply PD.b <;> trivial))
 | (show PD _ _ _ _;first|(apply vD <;> trivial)|(apply wE <;> trivial)|((first|apply QW|apply O9|apply rSl|apply rIt|apply YZ|apply wt|apply VU|apply P6|apply S3|apply ZU|apply ZW|apply ZJ|apply WL|apply VQ|apply VA|apply ZM|apply Y3|apply YT|apply Y6|apply YU|apply WD|apply RV|apply LJ|apply qv|apply RH|apply S5|apply U9|apply RE|apply U7|apply HE|apply P9|apply ML|apply OC|apply qu|apply PF.d) <;> trivial))
 | (show y8 _ _ _ _;((first|apply MI|apply GB) <;> trivial))
 | (show nU _ _ _ _;((first|apply B2|apply X2) <;> trivial))
 | (show Len _ _;((first|apply l0|apply lc) <;> trivial))
 | (show eY _ _ _;((first|apply LY|apply QS|apply SU|apply MM|apply TB|apply VO|apply SA|apply Q8|apply QN|apply NW|apply qw|apply qq|apply xLt|apply xGe) <;> trivial))
 | (show At _ _ _;first|exact at_ 0|exact at_ 1|exact at_ 2|exact at_ 3|exact at_ 4|exact at_ 5|exact at_ 6|exact at_ 7|exact at_ 8|exact at_ 9|exact at_ 10|exact at_ 11|exact at_ 12|exact at_ 13|exact at_ 14|exact at_ 15)
 | (show m8 _ _ _ _;first|((first|apply gt_0|apply ZO|apply YL|apply tc|apply DY|apply zK|apply MD) <;> trivial)|(apply PDW.pt <;> trivial)|(apply L7 <;> trivial))
 | (show PDW _ _ _ _;((first|apply NP|apply S8|apply G4|apply NT) <;> trivial))
 | (show PY _ _ _ _;((first|apply IL|apply GX) <;> trivial))
 | (show PDI _ _ _ _ _;((first|apply zF|apply AK|apply AL|apply MF|apply HW|apply HV|apply HG) <;> trivial))
 | (show y6 _ _ _ _;first|(apply gV <;> trivial)|(apply gu 2 <;> trivial)|(apply gu 3 <;> trivial)|(apply gu 5 <;> trivial))
 | (show BL _ _ _ _;((first|apply IJ|apply gc) <;> trivial))
 | (show My.DR _ _ _;((first|apply GG|apply HJ) <;> trivial))
 | (show PF _ _ _ _;((first|apply wl|apply YW|apply rSo) <;> trivial))
 | rfl
 | assumption
 | exact Txt.n (by assumption)
 | exact .inl rfl
 | exact .inr rfl
 | exact .inr (.inl rfl)
 | exact .inr (.inr rfl)
 | exact λ_=>rfl
 | exact λ_ _=>rfl
 | (with_unfolding_all rfl)
 | (constructor <;> rfl))
seal PD PB PF y8 nU m8 PDW PDI PY iD dM Fn eY zaq zaW
def fG:Zt "_law_at" ["script", "k"] 1 3:=dC ["script", "k", "cell"] 55 λT s B q z=>by exact⟨_,(c0 (bM aO) (c0 (aJ 2) (c0 (bM (aG (aJ 2))) (c0 (aJ 2) aO)))),rfl⟩
def kG:Sv:=by exists fG
def b9:=bA 3 kG
def oZ:Zt "_law_unit" ["M", "cell"] 1 5:=dC ["M", "cell", "one", "back", "k"] 57 λT s B q z=>by exact⟨_,(c0 (aJ 2) (c0 (aJ 3) (c0 (bF [] [] (c0 (aJ 2) (aG (aJ 3)))) (c0 (bM (c0 (aJ 2) (aG (aJ 3)))) (c0 (bM aO) aO))))),rfl⟩
def pT:Sv:=by exists oZ
def jB:=bA 5 pT
def l6:Zt "_law_seats" ["M", "script", "many"] 2 8:=dC ["M", "script", "many", "out", "k", "cell", "one", "back"] 58 λT s B q z=>by have:=fx b9 (fG.2 T);have:=fx jB (oZ.2 T);exact⟨_,(cO [3] (cH 3) (c0 (bF [3] [] (cO [3] (aJ 5) (cO [3] (kN (by trivial) (kQ (My.rK (n:=2) rfl (by trivial)))) (aG (hV 3))))) aO)),rfl⟩
def mV:Sv:=by exists l6
def gJ:=bA 8 mV
def pD:Zt "_law_road" ["M", "seats", "j", "k", "cell"] 1 7:=dC ["M", "seats", "j", "k", "cell", "a", "b"] 59 λT s B q z=>by exact⟨_,(c0 (aJ 5) (c0 (aJ 6) aO)),rfl⟩
def oW:Sv:=by exists pD
def oI:=bA 7 oW
def mN:Zt "_law_roads" ["M", "seats", "script"] 2 9:=dC ["M", "seats", "script", "many", "out", "k", "cell", "j", "spot"] 60 λT s B q z=>by have:=fx b9 (fG.2 T);have:=fx oI (pD.2 T);exact⟨_,(c0 (aJ 3) (cO [4] (cH 4) (cO [4] (bF [4] [4] (cO [4] (aJ 6) (cO [4] (aJ 7) (cO [4] (bM (aG (aJ 7))) (aG (bM (aG (hV 4)))))))) (c0 (bF [4] [] (cO [4] (aJ 6) (aG (bM (cO [4] (aJ 7) (aG (hV 4))))))) (c0 (aJ 8) aO))))),rfl⟩
def mP:Sv:=by exists mN
def gQ:=bA 9 mP
def iU:Zt "_law_spoiled" ["M", "cell", "roads", "makes"] 1 15:=dC ["M", "cell", "roads", "makes", "at", "j", "k", "a", "b", "coin", "name", "takes", "gives", "terms", "more"] 63 λT s B q z=>by exact⟨_,(c0 (bM (c0 (aJ 4) (c0 (kN (by trivial) (kQ (My.rK (n:=5) rfl (by trivial)))) (c0 (bM aO) aO)))) (c0 (bM (c0 (aJ 4) (c0 (kN (by trivial) (kQ (My.rK (n:=5) rfl (by trivial)))) (c0 (aJ 14) (c0 (bM (aG (aJ 14))) (c0 (aJ 13) aO)))))) aO)),rfl⟩
def bK:Sv:=by exists iU
def i6:=bA 15 bK
def gP:Zt "_law_names" ["cell", "many"] 1 8:=dC ["cell", "many", "letters", "size", "spot", "out", "k", "signs"] 56 λT s B q z=>by exact⟨_,(c0 (aJ 2) (c0 (aJ 3) (c0 (aJ 4) (cO [5] (cH 5) (c0 (bF [5] [] (cO [5,7] (cH 7 (JN (by trivial) (by trivial))) (cO [5] (m7 7) (cO [5] (bM (aG (aJ 7 (PF.d (JN (by trivial) (by trivial)))))) (aG (hV 5)))))) aO))))),rfl⟩
def mH:Sv:=by exists gP
def gE:=bA 8 mH
def lU:Zt "_law_terms" ["M", "seats", "takes", "gives", "some"] 1 10:=dC ["M", "seats", "takes", "gives", "some", "i", "o", "rows", "e", "d"] 61 λT s B q z=>by exact⟨_,(c0 (aJ 5) (c0 (aJ 6) (c0 (YS (c0 (aJ 7) (aG (aJ 7))) (c0 (aJ 8) (c0 (aJ 9) (c0 (aJ 7) (c0 (aJ 7) (aG (aJ 7))))))) (aO (PF.d (jT s ["es", "c", "seats", "gives", "M"] [none,none,some 1,some 3,some 0])))))),rfl⟩
def gH:Sv:=by exists lU
def mJ:=bA 10 gH
def mG:Zt "_law_makes" ["M", "seats", "script"] 2 15:=dC ["M", "seats", "script", "many", "some", "names", "alone", "size", "out", "k", "cell", "takes", "gives", "n", "terms"] 62 λT s B q z=>by have:=fx b9 (fG.2 T);have:=fx gE (gP.2 T);have:=fx mJ (lU.2 T);exact⟨_,(c0 (aJ 3) (c0 (JK 4 s ["k", "script", "M"] [none,some 2,some 0]) (c0 (aJ 5) (c0 (aJ 6) (c0 (aJ 7) (c0 (bM (aG (aJ 7))) (cO [8] (cH 8) (c0 (bF [8] [] (cO [8] (aJ 10) (cO [8] (aJ 11) (cO [8] (aJ 12) (cO [8] (aJ 13) (cO [8] (bM (aG (aJ 13))) (cO [8] (aJ 14) (aG (hV 8))))))))) aO)))))))),rfl⟩
def lT:Sv:=by exists mG
def gX:=bA 15 lT
def oC:Zt "_law_book" ["script"] 3 6:=dC ["script", "M", "many", "seats", "roads", "makes"] 64 λT s B q z=>by have:=fx b9 (fG.2 T);have:=fx gX (mG.2 T);have:=fx gE (gP.2 T);have:=fx gQ (mN.2 T);have:=fx gJ (l6.2 T);have:=fx i6 (iU.2 T);exact⟨_,(c0 (aJ 1) (c0 (bM (aG (aJ 1))) (c0 (aJ 2) (c0 (bM (aG (aJ 2))) (c0 (aJ 3) (c0 (aJ 4) (c0 (kN (by trivial) (kQ (My.rK (n:=2) rfl (by trivial)))) aO))))))),rfl⟩
def oH:Sv:=by exists oC
def fS:=bA 6 oH
def pQ:Zt "is_whole" ["thing"] 1 1:=dC ["thing"] 8 λT s B q z=>by exact⟨_,aO,rfl⟩
def zI:Sv:=by exists pQ
def zY:=bA 1 zI
def C2:Zt "wheel" ["thing"] 2 1:=dC ["thing"] 9 λT s B q z=>by have:=fx zY (pQ.2 T);exact⟨_,(c0 c9 (c0 c9 (c0 c9 aO))),rfl⟩
def CG:Sv:=by exists C2
def CV:=bA 1 CG
def lD:Zt "is_name" ["text"] 1 1:=dC ["text"] 45 λT s B q z=>by exact⟨_,(c0 (bM aO) (aO (cB (J0 rfl) T.n My.boot_all (X2 (PD.b (PF.d (jT s ["sign"] [none]))) (by trivial))))),rfl⟩
def tR:Sv:=by exists lD
def lC:=bA 1 tR
def iZ:Zt "check_kinds" ["kinds"] 2 3:=dC ["kinds", "number", "kind"] 47 λT s B q z=>by have:=fx lC (lD.2 T);exact⟨_,(c0 c9 (aG (bF [] [] (c0 c9 (aG c9))))),rfl⟩
def iX:Sv:=by exists iZ
def i4:=bA 3 iX
def jD:Zt "is_price" ["price"] 1 1:=dC ["price"] 49 λT s B q z=>by exact⟨_,aO,rfl⟩
def oF:Sv:=by exists jD
def jI:=bA 1 oF
def BG:Zt "on" ["M", "n"] 1 2:=dC ["M", "n"] 10 λT s B q z=>by exact⟨_,aO,rfl⟩
def XF:Sv:=by exists BG
def vV:=bA 2 XF
def pN:Zt "roads_of" ["M", "many", "roads"] 2 9:=dC ["M", "many", "roads", "told", "j", "k", "a", "b", "price"] 48 λT s B q z=>by have:=fx jI (jD.2 T);have:=fx vV (BG.2 T);exact⟨_,(c0 c9 (cO [3] (cH 3) (c0 (bF [3] [] (cO [3] c9 (cO [3] c9 (aG (hV 3))))) aO))),rfl⟩
def pR:Sv:=by exists pN
def oJ:=bA 9 pR
def iY:Zt "check_deeds" ["makes"] 1 8:=dC ["makes", "counted", "name", "takes", "gives", "terms", "price", "deed"] 53 λT s B q z=>by exact⟨_,(cO [1] (cH 1 kE) (aG (bF [1] [] (cO [1] (aJ 7) (cO [1] (m7 1) (aG c9)))))),rfl⟩
def i5:Sv:=by exists iY
def iV:=bA 8 i5
def j6:Zt "check_make" ["many", "name", "takes", "gives", "price"] 2 6:=dC ["many", "name", "takes", "gives", "price", "kind"] 51 λT s B q z=>by have:=fx lC (lD.2 T);have:=fx jI (jD.2 T);exact⟨_,(c0 c9 (c0 c9 (c0 (bF [] [] (aG c9)) (aG c9)))),rfl⟩
def j4:Sv:=by exists j6
def j5:=bA 6 j4
def d6:Zt "form_of" ["M", "sums"] 2 2:=dC ["M", "sums"] 16 λT s B q z=>by have:=fx vV (BG.2 T);exact⟨_,(aO (X3 p9 T.n My.boot_tuple (X2 (PD.b (PF.d (jT s ["exponents", "c", "M"] [none,none,some 0]))) (by trivial)))),rfl⟩
def sQ:Sv:=by exists d6
def d5:=bA 2 sQ
def eM:Zt "check_exponents" ["n", "exponents"] 1 3:=dC ["n", "exponents", "exponent"] 15 λT s B q z=>by exact⟨_,(c0 c9 (aG (bF [] [] (aG c9)))),rfl⟩
def eL:Sv:=by exists eM
def eK:=bA 3 eL
def vI:Zt "form" ["M", "n", "terms"] 3 6:=dC ["M", "n", "terms", "sums", "exponents", "c"] 14 λT s B q z=>by have:=fx eK (eM.2 T);have:=fx d5 (d6.2 T);exact⟨_,(c0 c9 (cO [3] (cH 3 kE) (c0 (bF [3] [] (cO [3] rE (aG (m7 3)))) aO))),rfl⟩
def JR:Sv:=by exists vI
def rB:=bA 6 JR
def mX:Zt "make_form" ["M", "n", "terms"] 4 7:=dC ["M", "n", "terms", "told", "e", "exponents", "c"] 52 λT s F q B=>by have:=fx rB (vI.2 T);exact⟨_,(c0 (LP (λ_ _ z=>z) (aG (aJ 3))) (c0 (bF [] [] (aG c9)) aO)),rfl⟩
def mL:Sv:=by exists mX
def l9:=bA 7 mL
def oY:Zt "makes_of" ["M", "many", "makes"] 5 9:=dC ["M", "many", "makes", "told", "name", "takes", "gives", "terms", "price"] 50 λT s B q z=>by have:=fx iV (iY.2 T);have:=fx j5 (j6.2 T);have:=fx l9 (mX.2 T);exact⟨_,(c0 c9 (cO [3] (cH 3) (c0 (bF [3] [] (cO [3] rE (aG (hV 3)))) (c0 rE aO)))),rfl⟩
def pK:Sv:=by exists oY
def oU:=bA 9 pK
def JB:Zt "book" ["M", "kinds", "roads", "makes"] 6 4:=dC ["M", "kinds", "roads", "makes"] 46 λT s B q z=>by have:=fx i4 (iZ.2 T);have:=fx oU (oY.2 T);have:=fx oJ (pN.2 T);have:=fx CV (C2.2 T);exact⟨_,(c0 rE (c0 rE aO)),rfl⟩
def IZ:Sv:=by exists JB
def AR:=bA 4 IZ
def mW:Zt "_law_reach" ["many", "roads"] 1 7:=dC ["many", "roads", "out", "j", "row", "k", "road"] 65 λT s q z B=>by exact⟨_,(cO [2] (cH 2) (c0 (bF [2] [] (cO [2,4] (N1 4 s ["k", "j"] [none,some 3]) (cO [2] (bF [2,4] [2] (aG (bF [2,4] [2,4] (aG (bM (aG (m7 4))))))) (aG (hV 2)))) (by trivial) (kB (nO (i:=3) q rfl (zbS rfl)))) aO)),rfl⟩
def mU:Sv:=by exists mW
def gK:=bA 7 mU
def mT:Zt "_law_kinds" ["reach", "pair", "cell"] 1 7:=dC ["reach", "pair", "cell", "some", "one", "other", "near"] 72 λT s q z B=>by exact⟨_,(c0 (aJ 3) (c0 (bF [] [] (c0 (JK 6 s ["j", "reach", "one", "other"] [none,some 0,some 4,some 5]) (c0 (bM aO) (c0 (aJ 3) (aG (aJ 2))))) (by trivial) (CW (AX (n:=2) rfl (lG (λa b=>(pX a b)) (kB (nO (i:=4) q rfl (zbS rfl))) (lG (λa b=>(pX a b)) (kB (nO (i:=5) q rfl (zbS rfl))) (by trivial)))))) aO)),rfl⟩
def mY:Sv:=by exists mT
def eP:=bA 7 mY
def mZ:Zt "_law_point" ["p", "many"] 1 2:=dC ["p", "many"] 71 λT s B q z=>by exact⟨_,(c0 (bM aO) aO),rfl⟩
def gG:Sv:=by exists mZ
def gR:=bA 2 gG
def gO:Zt "first_way" ["book", "j", "k"] 1 7:=dC ["book", "j", "k", "firsts", "kind", "number", "road"] 31 λT s B q z=>by exact⟨_,(cO [3] (cH 3 (D7 (by trivial) (by trivial))) (c0 (bF [3] [] (aG (bF [3] [3] (aG (bM (aG (m7 3))))))) aO)),rfl⟩
def mB:Sv:=by exists gO
def cV:=bA 7 mB
def vA:Zt "plus" ["M", "one", "other"] 3 6:=dC ["M", "one", "other", "sums", "exponents", "c"] 17 λT s B q z=>by have:=fx d5 (d6.2 T);exact⟨_,(cO [3] (cH 3 (qo (HS rfl q.units) T.n My.boot_dict (by trivial))) (c0 (bF [3] [] (aG (m7 3))) aO)),rfl⟩
def JE:Sv:=by exists vA
def lL:=bA 6 JE
def CD:Zt "added" ["exponents", "others"] 1 2:=dC ["exponents", "others"] 19 λT s B q z=>by exact⟨_,(c0 (bM aO) aO),rfl⟩
def uP:Sv:=by exists CD
def u4:=bA 2 uP
def nR:Zt "times" ["M", "one", "other"] 3 9:=dC ["M", "one", "other", "sums", "exponents", "c", "others", "d", "both"] 18 λT s B q z=>by have:=fx u4 (CD.2 T);have:=fx d5 (d6.2 T);exact⟨_,(cO [3] (cH 3 kE) (c0 (bF [3] [] (aG (bF [3] [3] (cO [3] (aJ 8) (aG (m7 3)))))) aO)),rfl⟩
def CQ:Sv:=by exists nR
def kP:=bA 9 CQ
def jG:Zt "constant" ["M", "n", "c"] 3 3:=dC ["M", "n", "c"] 20 λT s B q z=>by have:=fx d5 (d6.2 T);exact⟨_,(aO (cD (fx d5 (d6.2 T)) (q.mono (by decide)) (GB (by trivial) (GB (PF.d (GM z (PD.b (O9 L4 (by trivial) (by trivial))) (by trivial))) (by trivial))) (lc (lc l0)))),rfl⟩
def jN:Sv:=by exists jG
def jM:=bA 3 jN
def dN:Zt "turned_form" ["M", "n", "turn", "one"] 4 4:=dC ["M", "n", "turn", "one"] 21 λT s B q z=>by have:=fx jM (jG.2 T);have:=fx lL (vA.2 T);have:=fx kP (nR.2 T);exact⟨_,aO,rfl⟩
def i7:Sv:=by exists dN
def bE:=bA 4 i7
def yD:Zt "points" ["n"] 1 1:=dC ["n"] 29 λT s B q z=>by exact⟨_,(c0 (bM (aO (PF.d (jT s ["x"] [none])))) (aO (PF.d (jT s ["x"] [none])))),rfl⟩
def qJ:Sv:=by exists yD
def wX:=bA 1 qJ
def CS:Zt "power" ["M", "value", "exponent"] 2 5:=dC ["M", "value", "exponent", "product", "factor"] 27 λT s B q z=>by have:=fx vV (BG.2 T);exact⟨_,(c0 (aJ 3) (c0 (bF [] [] (aG (aJ 3))) aO)),rfl⟩
def B1:Sv:=by exists CS
def uQ:=bA 5 B1
def oS:Zt "worth_at" ["M", "one", "values"] 3 9:=dC ["M", "one", "values", "total", "exponents", "c", "product", "exponent", "value"] 26 λT s B q z=>by have:=fx vV (BG.2 T);have:=fx uQ (CS.2 T);exact⟨_,(c0 (aJ 3) (c0 (bF [] [] (c0 (aJ 6) (c0 (bF [] [] (aG (aJ 6))) (aG (aJ 3))))) aO)),rfl⟩
def oN:Sv:=by exists oS
def bU:=bA 9 oN
def tY:Zt "parting" ["M", "n", "one", "other"] 4 5:=dC ["M", "n", "one", "other", "point"] 28 λT s B q z=>by have:=fx wX (yD.2 T);have:=fx bU (oS.2 T);exact⟨_,(c0 (bF [] [] (aG (bM aO))) aO),rfl⟩
def k9:Sv:=by exists tY
def sR:=bA 5 k9
def xR:Zt "turned" ["M", "turn", "x"] 2 3:=dC ["M", "turn", "x"] 11 λT s B q z=>by have:=fx vV (BG.2 T);exact⟨_,aO,rfl⟩
def xS:Sv:=by exists xR
def xH:=bA 3 xS
def I0:Zt "then" ["M", "one", "other"] 3 3:=dC ["M", "one", "other"] 12 λT s B q z=>by have:=fx vV (BG.2 T);have:=fx xH (xR.2 T);exact⟨_,aO,rfl⟩
def JX:Sv:=by exists I0
def JD:=bA 3 JX
def lA:Zt "turn_of" ["book", "way"] 4 4:=dC ["book", "way", "turn", "number"] 32 λT s B q z=>by have:=fx JD (I0.2 T);exact⟨_,(c0 (aJ 2) (c0 (bF [] [] (aG (aJ 2))) aO)),rfl⟩
def tO:Sv:=by exists lA
def iF:=bA 4 tO
def dE:Zt "seen_shortfall" ["book", "m", "v", "seen"] 5 7:=dC ["book", "m", "v", "seen", "way", "n", "one"] 37 λT s B q z=>by have:=fx cV (gO.2 T);have:=fx sR (tY.2 T);have:=fx iF (lA.2 T);have:=fx bE (dN.2 T);exact⟨_,(c0 (aJ 4) (c0 (bM aO) (c0 (aJ 5) (c0 (aJ 6) aO)))),rfl⟩
def dD:Sv:=by exists dE
def cI:=bA 7 dD
def l7:Zt "powers_of" ["M", "n", "one", "most"] 4 6:=dC ["M", "n", "one", "most", "powers", "exponent"] 24 λT s B q z=>by have:=fx jM (jG.2 T);have:=fx kP (nR.2 T);exact⟨_,(cO [4] (cH 4) (c0 (bF [4] [] (aG (hV 4))) aO)),rfl⟩
def lV:Sv:=by exists l7
def gT:=bA 6 lV
def l8:Zt "by_powers" ["M", "inner", "most", "factors"] 4 6:=dC ["M", "inner", "most", "factors", "total", "exponent"] 25 λT s B q z=>by have:=fx lL (vA.2 T);have:=fx kP (nR.2 T);exact⟨_,(c0 (aJ 4) (c0 (bF [] [] (aG (aJ 4))) aO)),rfl⟩
def mR:Sv:=by exists l8
def gF:=bA 6 mR
def pG:Zt "greatest" ["one", "place"] 1 2:=dC ["one", "place"] 23 λT s B q z=>by exact⟨_,(aO (MX rfl (by rfl) T.n (PD.b (PF.d (jT s ["exponents", "c", "place"] [none,none,some 1]))) (by trivial) rfl)),rfl⟩
def pJ:Sv:=by exists pG
def d9:=bA 2 pJ
def PN:Zt "put" ["M", "n", "outer", "inners"] 5 11:=dC ["M", "n", "outer", "inners", "last", "powers", "factors", "exponents", "c", "ahead", "part"] 22 λT s B q z=>by have:=fx gF (l8.2 T);have:=fx d9 (pG.2 T);have:=fx lL (vA.2 T);have:=fx gT (l7.2 T);have:=fx bE (dN.2 T);exact⟨_,(c0 (aJ 4) (c0 (aJ 5) (cO [6] (cH 6 kE) (c0 (bF [6] [] (cO [6] (aJ 9) (cO [6] (aJ 10) (aG (m7 6))))) (c0 (bM aO) aO))))),rfl⟩
def KD:Sv:=by exists PN
def yQ:=bA 11 KD
def tH:Zt "unknown" ["M", "n", "place"] 4 3:=dC ["M", "n", "place"] 35 λT s B q z=>by have:=fx rB (vI.2 T);exact⟨_,(aO (cD (fx rB (vI.2 T)) (q.mono (by decide)) (GB (by trivial) (GB (by trivial) (GB (PF.d (JJ (GB (JF (GB (X3 p9 T.n My.boot_tuple (X2 (PD.b (PF.d (jT s ["other", "place"] [none,some 2]))) (by trivial))) (by trivial)) (λρ ds h=>(by have:=(lc (lc l0)) ρ ds h;lia))) (by trivial)) (λρ ds h=>(by have:=(lc l0) ρ ds h;lia)))) (by trivial)))) (lc (lc (lc l0))))),rfl⟩
def iK:Sv:=by exists tH
def fB:=bA 3 iK
def lZ:Zt "seen_form" ["book", "v", "kinds"] 6 9:=dC ["book", "v", "kinds", "M", "n", "inners", "place", "kind", "turn"] 34 λT s B q z=>by have:=fx cV (gO.2 T);have:=fx yQ (PN.2 T);have:=fx iF (lA.2 T);have:=fx bE (dN.2 T);have:=fx fB (tH.2 T);exact⟨_,(c0 (aJ 3) (c0 (aJ 4) (cO [5] (cH 5) (c0 (bF [5] [] (cO [5] (aJ 8) (aG (hV 5)))) aO)))),rfl⟩
def gI:Sv:=by exists lZ
def mQ:=bA 9 gI
def mC:Zt "shortfall" ["book", "m", "v", "kinds"] 7 4:=dC ["book", "m", "v", "kinds"] 36 λT s B q z=>by have:=fx mQ (lZ.2 T);have:=fx cI (dE.2 T);exact⟨_,(aO (cD (fx cI (dE.2 T)) (q.mono (by decide)) (GB (by trivial) (GB (by trivial) (GB (by trivial) (GB (PF.d (FF (by trivial) (by trivial) (by trivial) (by trivial))) (by trivial))))) (lc (lc (lc (lc l0)))))),rfl⟩
def lW:Sv:=by exists mC
def eO:=bA 4 lW
def gN:Zt "_law_first" ["roads", "reach", "j", "k"] 1 6:=dC ["roads", "reach", "j", "k", "way", "r"] 66 λT s B q z=>by exact⟨_,(c0 (aJ 4) (c0 (PR [] [] (c0 (aJ 5) (c0 (PR [] [] (aG (aJ 5))) (c0 (aJ 4) (aG (aJ 2)))))) aO)),rfl⟩
def lY:Sv:=by exists gN
def dR:=bA 6 lY
def gU:Zt "_law_along" ["M", "roads", "way", "x"] 1 5:=dC ["M", "roads", "way", "x", "r"] 67 λT s B q z=>by exact⟨_,(c0 (bF [] [] (aG (aJ 3))) aO),rfl⟩
def mD:Sv:=by exists gU
def gW:=bA 5 mD
def oT:Zt "_law_made" ["M", "terms", "values"] 1 9:=dC ["M", "terms", "values", "out", "es", "c", "e", "x", "k"] 68 λT s B q z=>by exact⟨_,(c0 (aJ 3) (c0 (bF [] [] (c0 (bF [] [] (aG (bF [] [] (aG (aJ 5))))) (aG (aJ 3)))) aO)),rfl⟩
def oP:Sv:=by exists oT
def oR:=bA 9 oP
def pB:Zt "_law_seen" ["M", "roads", "reach", "make", "some", "values"] 2 10:=dC ["M", "roads", "reach", "make", "some", "values", "out", "j", "k", "x"] 69 λT s B q z=>by have:=fx gW (gU.2 T);have:=fx dR (gN.2 T);have:=fx oR (oT.2 T);exact⟨_,(cO [6] (cH 6) (c0 (bF [6] [] (aG (hV 6))) aO)),rfl⟩
def jO:Sv:=by exists pB
def pC:=bA 10 jO
def oO:Zt "_law_both" ["M", "roads", "reach", "pair", "some", "values"] 3 8:=dC ["M", "roads", "reach", "pair", "some", "values", "way", "mine"] 70 λT s B q z=>by have:=fx gW (gU.2 T);have:=fx dR (gN.2 T);have:=fx pC (pB.2 T);exact⟨_,(c0 (aJ 6) (c0 (aJ 7) aO)),rfl⟩
def oM:Sv:=by exists oO
def dG:=bA 8 oM
def mE:Zt "_law_right" ["M", "roads", "reach", "pair", "some", "found", "values", "point"] 4 10:=dC ["M", "roads", "reach", "pair", "some", "found", "values", "point", "both", "x"] 73 λT s B q z=>by have:=fx dG (oO.2 T);exact⟨_,(c0 (bM aO) (c0 (bM (c0 (aJ 8) aO)) (c0 (bM aO) (c0 (bF [] [] (aG (bM aO))) (c0 (bM aO) aO))))),rfl⟩
def dQ:Sv:=by exists mE
def gL:=bA 10 dQ
def PU:{b:Sv // ∀ {P:zam} {w:World} {K:zaf} {mg:Str->Option Value} {base:Heap},Tx P w K mg base->qx P w K mg base ["script", "M", "kinds", "roads", "makes", "made", "reach", "k", "cell", "m", "v", "pair", "some", "values", "point", "found"] "law" s_law 7 b}:=⟨_,λT J B A q s H E z=>by have F:=PJ z;have G:=sc_law.nd;have:=fx AR (JB.2 T);have:=fx b9 (fG.2 T);have:=fx fS (oC.2 T);have:=fx eP (mT.2 T);have:=fx gR (mZ.2 T);have:=fx gK (mW.2 T);have:=fx gL (mE.2 T);have:=fx eO (mC.2 T);exact⟨_,(c0 (kN (by trivial) (kQ (My.rK (n:=4) rfl (by trivial)))) (c0 (aJ 5) (c0 (aJ 6) (c0 (bF [] [] (c0 (aJ 8) (c0 (bM aO) (c0 (aJ 9) (c0 (aJ 10) (c0 (aJ 11) (c0 (aJ 12) (c0 (bM (aG (aJ 12))) (aG (bM (c0 (aJ 13) (c0 (aJ 14) (c0 (aJ 15) (aG (bM aO))))))))))))))) aO)))),rfl⟩⟩
def KM:Sv:=by exists PU
def Bd(k:Nat)(x:Int):Prop:=-(10^k)<x/\x<10^k
theorem Bd.mono(h:Bd k x)(l:k<=m):Bd m x:=by
 have:(10:Int)^k<=10^m:=by
  have:=Nat.pow_le_pow_right (show 0<10 by decide) l;exact_mod_cast this
 exact⟨by have:=h.1;lia,by have:=h.2;lia⟩
theorem Bd.mul(h:Bd k x)(g:Bd m y):Bd (k+m) (x*y):=by
 have:=RY h.1 h.2 g.1 g.2;unfold Bd;rw[zdI];exact this
theorem Bd.add(h:Bd k x)(g:Bd k y):Bd (k+1) (x+y):=by
 have a:=h.1;have b:=h.2;have c:=g.1;have d:=g.2;unfold Bd;rw[zbD];constructor <;> lia
theorem Bd.neg(h:Bd k x):Bd k (-x):=⟨by have:=h.2;lia,by have:=h.1;lia⟩
theorem Bd.mulH(h:Bd k x)(g:Bd m y)(q:k<=500)(z:m<=500):b5 (.int x) (.int y)=some (.int (x*y)):=by
 have e:(10:Int)^500=10^250*10^250:=by rw[<- zdI]
 have h':=h.mono q;have g':=g.mono z;unfold Bd at h' g';rw[e]at h' g';exact c8 h'.1 h'.2 g'.1 g'.2
theorem Bd.of(q:M<10^60)(h:0<=x/\x<=M):Bd 60 x:=by
 have:(0:Int)<10^60:=by decide +kernel
 exact⟨by lia,by lia⟩
theorem Bd.mod(h0:0<M)(q:M<10^60):Bd 61 (x%M):=(Bd.of q ⟨zaw x (zaU h0),zbV (zax x h0)⟩).mono (by decide)
theorem g9(ns:List Int):∃f:Int->Int,∀k:Int,0<=k->k<=1000->b9 [.lst (ns.map .int),.int k]=some (.int (f k)):=by
 have h:∀k:Int,∃c:Int,0<=k->k<=1000->b9 [.lst (ns.map .int),.int k]=some (.int c):=λk=>by
  by_cases h0:0<=k
  ·by_cases h1:k<=1000
   ·by_cases B:k<(ns.length:Int)
    ·obtain⟨c,M,_⟩:=qG h0 B
     exact⟨c,λ_ _=>aM (by simp_all[kG,aK,B,M])⟩
    ·have N:b5 (.int 40692) (.int k)=some (.int (40692*k)):=c8 (by decide +kernel) (by decide +kernel) (by lia) (by lia)
     have U:b5 (.int k) (.int k)=some (.int (k*k)):=c8 (by lia) (by lia) (by lia) (by lia);have fin:∀y:Int,-(100000000000)<y->y<100000000000->b5 (.int y) (.int 48271)=some (.int (y*48271))/\b5 (.int (y*48271%2147483647)) (.int (y*48271%2147483647))=some (.int (y*48271%2147483647*(y*48271%2147483647))):=λy a b=>by
      have c:=zaw (y*48271) (show(2147483647:Int)≠0 by decide);have d:=zax (y*48271) (show(0:Int)<2147483647 by decide);exact⟨c8 (by lia) (by lia) (by decide +kernel) (by decide +kernel),c8 (by lia) (by lia) (by lia) (by lia)⟩
     by_cases F:(0:Int)<(ns.length:Int)
     ·have q:0<ns.length:=by lia
      obtain⟨c,M,_⟩:=qG (ns:=ns) (k:=k*k%(ns.length:Int)) (zaw _ (zaU F)) (zax _ F);have c0:=zaw c (show(2147483647:Int)≠0 by decide);have W:=zax c (show(0:Int)<2147483647 by decide);obtain⟨G,J⟩:=fin (40692*k+1+c%2147483647) (by lia) (by lia);exact⟨_,λ_ _=>aM (by simp_all[kG,aK,B,N,U,q,bB F,M,bB,G,J];rfl)⟩
     ·have q:¬ 0<ns.length:=by lia
      obtain⟨G,J⟩:=fin (40692*k+1) (by lia) (by lia);exact⟨_,λ_ _=>aM (by simp_all[kG,aK,B,N,q,bB,G,J];rfl)⟩
   ·exact⟨0,λ_ z=>absurd z h1⟩
  ·exact⟨0,λz=>absurd z h0⟩
 exact⟨λk=>(h k).choose,λk=>(h k).choose_spec⟩
theorem AJ(Y:3<=M)(F:M<10^60):∃a b:Int,jB [.int M,.int c]=some (.tup [.int a,.int b])/\(0<=a/\a<=M)/\0<=b/\b<=M:=by
 suffices h:∃d,jB [.int M,.int c]=some d/\∃a b:Int,d=.tup [.int a,.int b]/\(0<=a/\a<=M)/\0<=b/\b<=M by
  obtain⟨d,e,a,b,rfl,h⟩:=h;exact⟨a,b,e,h⟩
 have U:(10:Int)^60=1000000000000000000000000000000000000000000000000000000000000:=by decide +kernel
 have q:0<M:=by lia
 have G:=zaw c (show(5:Int)≠0 by decide);have v1:=zax c (show(0:Int)<5 by decide);refine dJ ?_;unfold pT;rw[aF (aN (d:=.int 1) (by simp[-zad,-zae,aA,aD]))];rw[aF (aN (d:=.int 1) (by simp[-zad,-zae,aA,aD]))];refine eD (items:=aV 0 1 (c%5).toNat) (by simp_all[aK,bB,d8 G (show c%5<=1000000 by lia)]) (λi ρ=>∃(a b:Int) (o:Option D),ρ=[some (.int M),some (.int c),some (.int a),some (.int b),o]/\(0<=a/\a<M)/\0<=b/\b<M) ⟨1,1,none,by ac_rfl,by lia,by lia,by lia⟩ ?_ ?_
 ·rintro i x ρ W ⟨a,b,o,rfl,B,z⟩
  have N:b5 (.int a) (.int 2)=some (.int (a*2)):=c8 (by lia) (by lia) (by decide +kernel) (by decide +kernel);have J:b5 (.int b) (.int ((M+1)/2))=some (.int (b*((M+1)/2))):=c8 (by lia) (by lia) (by lia) (by lia);refine⟨[some (.int M),some (.int c),some (.int (a*2%M)),some (.int (b*((M+1)/2)%M)),some x],?_,_,_,_,rfl,⟨zaw _ (zaU q),zax _ q⟩,zaw _ (zaU q),zax _ q⟩;simp_all[turn,N,J,dB,bB q]
 ·rintro ρ ⟨a,b,o,rfl,B,z⟩
  refine uZ (λρ=>∃(a b:Int),ρ=[some (.int M),some (.int c),some (.int a),some (.int b),o]/\(0<=a/\a<=M)/\0<=b/\b<=M) ?_ ?_
  ·by_cases h:c/5%2=1
   ·exact⟨_,by ac_rfl,M-a,M-b,rfl,by lia,by lia,by lia⟩
   ·exact⟨_,by ac_rfl,a,b,rfl,by lia,by lia,by lia⟩
  ·rintro ρ ⟨a,b,rfl,B,z⟩
   by_cases h:c/10%2=1
   ·exact⟨_,qV (by ac_rfl),b,a,rfl,z,B⟩
   ·rw[aF (ρ':=[some (.int M),some (.int c),some (.int a),some (.int b),o]) (by ac_rfl)]
    exact⟨_,by simp[-zad,-zae,aA,aD],a,b,rfl,B,z⟩
structure Se where
 x:Int
 y:Int
 z:Int
noncomputable def fQ(s:Se):D:=.tup [.int s.x,.int s.y,.int s.z]
def UW(M:Int)(s:Se):Prop:=(0<=s.x/\s.x<=M)/\(0<=s.y/\s.y<=M)/\0<=s.z/\s.z<=M
theorem XC:aH (fQ s) (.int 0)=some (.int s.x):=by unfold fQ;rw[q_itT];exact at0
theorem Y4:aH (fQ s) (.int 1)=some (.int s.y):=by unfold fQ;rw[q_itT];exact at1
theorem wD{ns:List Int}{M many:Int}(Y:3<=M)(q:M<10^60)(hm:1<=many/\many<=6):∃ss:List Se,gJ [.int M,.lst (ns.map .int),.int many]=some (.lst (ss.map fQ))/\(ss.length:Int)=many/\∀s∈ss,UW M s:=by
 suffices h:∃d,gJ [.int M,.lst (ns.map .int),.int many]=some d/\∃ss:List Se,d=.lst (ss.map fQ)/\(ss.length:Int)=many/\∀s∈ss,UW M s by
  obtain⟨d,e,ss,rfl,h⟩:=h;exact⟨ss,e,h⟩
 obtain⟨f,hf⟩:=g9 ns;have F:0<M:=by lia
 refine dJ ?_;unfold mV;rw[aF (aN (d:=.lst []) (by simp[-zad,-zae,aA,aD]))];refine eD (items:=aV 0 1 many.toNat) (by simp_all[aK,d8 (show 0<=many by lia) (show many<=1000000 by lia)]) (λi ρ=>∃(ss:List Se) (B o5 o6 o7:Option D),ρ=[some (.int M),some (.lst (ns.map .int)),some (.int many),some (.lst (ss.map fQ)),B,o5,o6,o7]/\ss.length=i/\∀s∈ss,UW M s) ⟨[],none,none,none,none,by ac_rfl,rfl,λ_ h=>nomatch h⟩ ?_ ?_
 ·rintro i x ρ U ⟨ss,B,o5,o6,o7,rfl,G,hs⟩
  obtain⟨ac,rfl⟩:=bI U;have hI:0<=(0:Int)+(i:Int)*1/\(0:Int)+(i:Int)*1<=6:=by lia
  generalize (0:Int)+(i:Int)*1=I at hI;have J:=hf (4+I) (by lia) (by lia);generalize f (4+I)=c at J;obtain⟨a,b,N,ha,W⟩:=AJ (c:=c) Y q;have z0:=zaw (c/20) (zaU F);have z1:=zax (c/20) F;have hz:aX ss.length=true:=decide_eq_true (by lia);refine⟨[some (.int M),some (.lst (ns.map .int)),some (.int many),some (.lst ((ss++[(⟨a,b,c/20%M⟩:Se)]).map fQ)),some (.int I),some (.int c),some (.int a),some (.int b)],?_,_,_,_,_,_,rfl,by simp_all[G],λs h=>?_⟩
  ·simp_all[turn,J,N,dB,bB F,hz,fQ]
  ·rcases List.mem_append.mp h with z|z
   ·exact hs s z
   ·rw[List.mem_singleton.mp z];exact⟨ha,W,z0,by show c/20%M<=M;lia⟩
 ·rintro ρ ⟨ss,B,o5,o6,o7,rfl,G,hs⟩
  rw[a8]at G;exact⟨_,by simp[-zad,-zae,aA,aD],ss,rfl,by lia,hs⟩
def BR(many:Int)(r:Ro):Prop:=(0<=r.j/\r.j<r.k/\r.k<many)/\0<=r.p/\r.p<=10^30/\Bd 61 r.a/\Bd 61 r.b
theorem t6{ss:List Se}{i:Int}(h0:0<=i)(h:i<(ss.length:Int)):∃s∈ss,dX (ss.map fQ) i=some (fQ s):=by
 obtain⟨d,q,_,e⟩:=PQ (l:=ss.map fQ) (k:=i) h0 (by rw[zao];exact h);obtain⟨s,hs,rfl⟩:=List.mem_map.mp q;exact⟨s,hs,e⟩
theorem oG{M many j k c:Int}{ss:List Se}(h3:3<=M)(ac:M<10^60)(hl:(ss.length:Int)=many)(hs:∀s∈ss,UW M s)(U:0<=j)(jk:j<k)(km:k<many):∃r:Ro,oI [.int M,.lst (ss.map fQ),.int j,.int k,.int c]=some (bG r)/\r.j=j/\r.k=k/\BR many r:=by
 have ah:(10:Int)^60=1000000000000000000000000000000000000000000000000000000000000:=by decide +kernel
 have Y:(10:Int)^30=1000000000000000000000000000000:=by decide +kernel
 have F:0<M:=by lia
 obtain⟨s,G,es⟩:=t6 (ss:=ss) (i:=j) U (by lia);obtain⟨t,J,et⟩:=t6 (ss:=ss) (i:=k) (by lia) (by lia);obtain⟨s1,s2,s3⟩:=hs s G;obtain⟨t1,t2,t3⟩:=hs t J;have m1:b5 (.int t.x) (.int s.y)=some (.int (t.x*s.y)):=c8 (by lia) (by lia) (by lia) (by lia);have a0:=zaw (t.x*s.y) (zaU F);have N:=zax (t.x*s.y) F;generalize hA:t.x*s.y%M=A at a0 N;have m2:b5 (.int A) (.int s.z)=some (.int (A*s.z)):=c8 (by lia) (by lia) (by lia) (by lia);have e0:=zaw (c/3) (show(2:Int)≠0 by decide);have e1:=zax (c/3) (show(0:Int)<2 by decide);have g0:=zaw (c/5) (show(2:Int)≠0 by decide);have W:=zax (c/5) (show(0:Int)<2 by decide);have m3:b5 (.int M) (.int (c/3%2))=some (.int (M*(c/3%2))):=c8 (by lia) (by lia) (by lia) (by lia);have m4:b5 (.int M) (.int (c/5%2))=some (.int (M*(c/5%2))):=c8 (by lia) (by lia) (by lia) (by lia);have w0:=zaw (c/7) (show(1000000000000000000000000000000:Int)≠0 by decide);have w1:=zax (c/7) (show(0:Int)<1000000000000000000000000000000 by decide);have pw:BO (.int 10) (.int 30)=some (.int 1000000000000000000000000000000):=yW (by decide) (by decide) (by decide);have dm:dS (.int (c/7)) (.int 1000000000000000000000000000000)=some (.int (c/7%1000000000000000000000000000000)):=bB (by decide);have B:∀ {x y:Int},(0<=x/\x<=M)->0<=y->y<2->Bd 61 (x-M*y):=λ{x y} hx y0 y1=>by
  have q:(10:Int)^61=10000000000000000000000000000000000000000000000000000000000000:=by decide +kernel
  have:y=0\/y=1:=by lia
  rcases this with rfl|rfl
  ·exact⟨by rw[q];lia,by rw[q];lia⟩
  ·exact⟨by rw[q];lia,by rw[q];lia⟩
 refine⟨⟨j,k,A-M*(c/3%2),(t.z-A*s.z)%M-M*(c/5%2),c/7%1000000000000000000000000000000⟩,aM ?_,rfl,rfl,⟨U,jk,km⟩,w0,by show c/7%1000000000000000000000000000000<=_;lia,B ⟨a0,zbV N⟩ e0 e1,B ⟨zaw _ (zaU F),zbV (zax _ F)⟩ g0 W⟩;unfold oW;rw[aF (aN (d:=.int A) (by simp_all[aK,es,et,XC,Y4,m1,bB F,hA]))];rw[aF (aN (d:=.int ((t.z-A*s.z)%M)) (by ac_rfl))];simp_all[aK,dB,bB,m3,m4,pw,dm,bG]
theorem wV{ns:List Int}{M many:Int}{ss:List Se}(h3:3<=M)(J:M<10^60)(hm:1<=many/\many<=6)(hl:(ss.length:Int)=many)(hs:∀s∈ss,UW M s):∃rs:List Ro,gQ [.int M,.lst (ss.map fQ),.lst (ns.map .int)]=some (.lst (rs.map bG))/\rs.length<=12/\∀r∈rs,BR many r:=by
 suffices h:∃d,gQ [.int M,.lst (ss.map fQ),.lst (ns.map .int)]=some d/\∃rs:List Ro,d=.lst (rs.map bG)/\rs.length<=12/\∀r∈rs,BR many r by
  obtain⟨d,e,rs,rfl,h⟩:=h;exact⟨rs,e,h⟩
 obtain⟨f,hf⟩:=g9 ns;have f3:=hf 3 (by decide) (by decide);have U:∀ {rs:List Ro} {r:Ro},(∀r∈rs,BR many r)->BR many r->∀q∈rs++[r],BR many q:=λh k q hq=>by
  rcases List.mem_append.mp hq with z|z
  ·exact h q z
  ·rw[List.mem_singleton.mp z];exact k
 refine dJ ?_;unfold mP;rw[aF (aN (d:=.int many) (by simp_all[aK,hl]))];rw[aF (aN (d:=.lst []) (by simp[-zad,-zae,aA,aD]))];have r1:dY [.int 1,.int many]=some (aV 1 1 (many-1).toNat):=fE (by decide) (by decide) (by lia) (by lia);refine eD (items:=aV 1 1 (many-1).toNat) (by simp_all[aK,r1]) (λi ρ=>∃(rs:List Ro) (o5 o6 o7:Option D),ρ=[some (.int M),some (.lst (ss.map fQ)),some (.lst (ns.map .int)),some (.int many),some (.lst (rs.map bG)),o5,o6,o7,none]/\rs.length<=i/\∀r∈rs,BR many r) ⟨[],none,none,none,by ac_rfl,by simp[-zad,-zae,aA,aD],λ_ h=>nomatch h⟩ ?_ ?_
 ·rintro i x ρ hx ⟨rs,o5,o6,o7,rfl,N,B⟩
  obtain⟨ac,rfl⟩:=bI hx;have W:1<=(1:Int)+(i:Int)*1/\(1:Int)+(i:Int)*1<many:=by lia
  generalize (1:Int)+(i:Int)*1=I at W;have F:=hf (9+I) (by lia) (by lia);generalize f (9+I)=c at F;have hz:aX rs.length=true:=decide_eq_true (by lia);have pI:0<I+1:=by lia
  have G:=zaw (c/11) (zaU pI);have Y:=zax (c/11) pI;have hj:∃j:Int,-1<=j/\j<I/\bD (bQ 7 (aZ OH (aB 5) (eC (.int 1)))) (nT (eJ (aZ yY (aZ dS (aP b9 (aC (aB 2) (aC (eC (.int 3)) aY))) (eC (.int 3))) (eC (.int 2)))) (bQ 7 (aZ OH (aZ dS (aZ sI (aB 6) (eC (.int 11))) (aZ bX (aB 5) (eC (.int 1)))) (eC (.int 1)))) vY) [some (.int M),some (.lst (ss.map fQ)),some (.lst (ns.map .int)),some (.int many),some (.lst (rs.map bG)),some (.int I),some (.int c),o7,none]=some (.nx [some (.int M),some (.lst (ss.map fQ)),some (.lst (ns.map .int)),some (.int many),some (.lst (rs.map bG)),some (.int I),some (.int c),some (.int j),none]):=by
   by_cases h:f 3%3=2
   ·exact⟨c/11%(I+1)-1,by lia,by lia,by simp_all[f3,bB,h,dB,bB pI]⟩
   ·exact⟨I-1,by lia,by lia,by ac_rfl⟩
  obtain⟨j,j0,j1,ej⟩:=hj;have es:∀ {g h k:Sv} {ρ:cY},bD g (bD h k) ρ=bD (bD g h) k ρ:=by
   intro g h k ρ;unfold bD;cases g ρ with
   | none=>rfl
   | some o=>cases o <;> rfl
  by_cases h:0<=j
  ·obtain⟨r,er,_,_,ok⟩:=oG (c:=c/77) h3 J hl hs h j1 W.2
   refine⟨[some (.int M),some (.lst (ss.map fQ)),some (.lst (ns.map .int)),some (.int many),some (.lst ((rs++[r]).map bG)),some (.int I),some (.int c),some (.int j),none],?_,_,_,_,_,rfl,by simp[-zad,-zae,aA,aD];lia,U B ok⟩;show(aL 5 _ _).bind _=_;rw[q_name,aA,aF (aN (d:=.int c) (by ac_rfl)),es,aF (by exact ej)];simp_all[h,dB,er,hz]
  ·refine⟨[some (.int M),some (.lst (ss.map fQ)),some (.lst (ns.map .int)),some (.int many),some (.lst (rs.map bG)),some (.int I),some (.int c),some (.int j),none],?_,_,_,_,_,rfl,by lia,B⟩
   show(aL 5 _ _).bind _=_;rw[q_name,aA,aF (aN (d:=.int c) (by ac_rfl)),es,aF (by exact ej)]
   ac_rfl
 ·rintro ρ ⟨rs,o5,o6,o7,rfl,N,B⟩
  rw[a8]at N;have r2:dY [.int 15,.int 19]=some (aV 15 1 4):=fE (by decide) (by decide) (by decide) (by decide);refine eD (items:=aV 15 1 4) (by ac_rfl) (λi ρ=>∃(rs:List Ro) (o5 o6 o7:Option D),ρ=[some (.int M),some (.lst (ss.map fQ)),some (.lst (ns.map .int)),some (.int many),some (.lst (rs.map bG)),o5,o6,o7,none]/\rs.length<=5+i/\∀r∈rs,BR many r) ⟨rs,o5,o6,o7,rfl,by lia,B⟩ ?_ ?_
  ·rintro i x ρ hx ⟨rs,o5,o6,o7,rfl,N,B⟩
   obtain⟨ac,rfl⟩:=bI hx;have W:15<=(15:Int)+(i:Int)*1/\(15:Int)+(i:Int)*1<19:=by lia
   generalize (15:Int)+(i:Int)*1=I at W;have F:=hf I (by lia) (by lia);generalize f I=c at F;have hz:aX rs.length=true:=decide_eq_true (by lia);by_cases h1:1<many
   ·by_cases h2:c%2=1
    ·have p1:0<many-1:=by lia
     have G:=zaw (c/2) (zaU p1);have Y:=zax (c/2) p1;have d1:dS (.int (c/2)) (.int (many-1))=some (.int (c/2%(many-1))):=bB p1;generalize c/2%(many-1)=j at G Y d1;have p2:0<many-1-j:=by lia
     have u0:=zaw (c/10) (zaU p2);have u1:=zax (c/10) p2;obtain⟨r,er,_,_,ok⟩:=oG (j:=j) (k:=j+1+c/10%(many-1-j)) (c:=c/50) h3 J hl hs G (by lia) (by lia);refine⟨[some (.int M),some (.lst (ss.map fQ)),some (.lst (ns.map .int)),some (.int many),some (.lst ((rs++[r]).map bG)),some (.int I),some (.int c),some (.int j),none],?_,_,_,_,_,rfl,by simp[-zad,-zae,aA,aD];lia,U B ok⟩;simp_all[turn,F,h1,bB,h2,dB,d1,bB p2,er,hz]
    ·refine⟨[some (.int M),some (.lst (ss.map fQ)),some (.lst (ns.map .int)),some (.int many),some (.lst (rs.map bG)),some (.int I),some (.int c),o7,none],?_,_,_,_,_,rfl,by lia,B⟩
     simp_all[turn,F,h1,bB,h2]
   ·refine⟨[some (.int M),some (.lst (ss.map fQ)),some (.lst (ns.map .int)),some (.int many),some (.lst (rs.map bG)),some (.int I),some (.int c),o7,none],?_,_,_,_,_,rfl,by lia,B⟩
    simp_all[turn,F,h1]
  ·rintro ρ ⟨rs,o5,o6,o7,rfl,N,B⟩
   rw[a8]at N;have lp:(0:Int)<(rs.length:Int)+1:=by lia
   have G:=zaw (f 3/3) (zaU lp);have Y:=zax (f 3/3) lp;rw[aF (aN (d:=.int (f 3/3%((rs.length:Int)+1))) (by simp_all[f3,dB,bB lp]))];generalize f 3/3%((rs.length:Int)+1)=sp at G Y;obtain⟨c1,c2⟩:=qU (w:=rs.map bG) (c:=sp) G (by rw[zao];lia);have hz:aX ((rs.drop sp.toNat).length+(rs.take sp.toNat).length)=true:=decide_eq_true (by simp[-zad,-zae,aA,aD];lia);simp only[zdY,zcX]at hz;refine⟨.lst ((rs.drop sp.toNat++rs.take sp.toNat).map bG),?_,_,rfl,by simp[-zad,-zae,aA,aD];lia,λr h=>?_⟩
   ·simp_all[c1,c2,hz]
   ·rcases List.mem_append.mp h with z|z
    ·exact B r (List.mem_of_mem_drop z)
    ·exact B r (List.mem_of_mem_take z)
def OkT(n:Nat)(t:My.Tm):Prop:=t.1.length=n/\(∀e∈t.1,0<=e/\e<=2)/\Bd 61 t.2
theorem jQ(q:0<M)(es:dX S g=some (fQ s))(z:s.x=x):∀(ts:List My.Tm) (o1 o2:Option D),(∀t∈ts,b5 (.int x) (.int t.2)=some (.int (x*t.2)))->bR (b7 2 (aR (aL 0) (aR (aL 1) cC))) BI (iC (aC (aB 0) (aC (aZ dS (aZ b5 (aZ aH (aZ aH (aB 2) (aB 3)) (eC (.int 0))) (aB 1)) (aB 4)) aY))) (ts.map bN) [o1,o2,some (.lst S),some (.int g),some (.int M)]=some ((ts.map λt=>(t.1,x*t.2%M)).map bN)
 | [],_,_,_=>rfl
 | t::ts,o1,o2,h=>by
  have ih:=jQ q es z ts (some (tupI t.1)) (some (.int t.2)) λu B=>h u (zav _ B)
  have m:=h t (zas ..);rw[zak,bR];simp[-zad,-zae,aA,aD,bN,es,XC,z,m,bB q]at ih ⊢;simp_all[ih]
theorem wU{M many g:Int}{ss:List Se}{tk so:List Int}(h3:3<=M)(B:M<10^60)(hl:(ss.length:Int)=many)(hs:∀s∈ss,UW M s)(ap:(∃t,tk=[t])\/∃t u,tk=[t,u])(ac:∀t∈tk,0<=t/\t<many)(g0:0<=g)(g1:g<many)(ak:∃a b c d:Int,so=[a,b,c,d])(W:∀x∈so,0<=x/\x<=M) :
  ∃ts:List My.Tm,mJ [.int M,.lst (ss.map fQ),tupI tk,.int g,.lst (so.map .int)]=some (.lst (ts.map bN))/\ts.length<=6/\∀t∈ts,OkT tk.length t:=by
 have Mp:0<M:=by lia
 obtain⟨a,b,c,d,rfl⟩:=ak;have ba:=Bd.of B (W a (by simp[-zad,-zae,aA,aD]));have bb:=Bd.of B (W b (by simp[-zad,-zae,aA,aD]));have J:=Bd.of B (W c (by simp[-zad,-zae,aA,aD]));have N:=Bd.of B (W d (by simp[-zad,-zae,aA,aD]));obtain⟨⟨X,Y,Z⟩,am,es⟩:=t6 (ss:=ss) (i:=g) g0 (by lia);obtain⟨s1,s2,s3⟩:=hs _ am;have bx:Bd 60 X:=Bd.of B s1;have ah:Bd 60 Y:=Bd.of B s2;have bz:Bd 60 Z:=Bd.of B s3;have a5:dX (ss.map fQ) g=some (.tup [.int X,.int Y,.int Z]):=es;have two:Bd 60 2:=⟨by decide +kernel,by decide +kernel⟩;have v3:=ah.mul bz;have m3:=ah.mulH bz (by decide) (by decide);have U:∀ {v:Int},Bd 400 v->b5 (.int X) (.int v)=some (.int (X*v)):=λh=>bx.mulH h (by decide) (by decide)
 rcases ap with⟨t,rfl⟩|⟨t,u,rfl⟩
 ·have t0:=ac t (by simp[-zad,-zae,aA,aD])
  obtain⟨⟨_,i,z⟩,ae,er⟩:=t6 (ss:=ss) (i:=t) t0.1 (by lia);obtain⟨r1,r2,r3⟩:=hs _ ae;have F:Bd 60 i:=Bd.of B r2;have bw:Bd 60 z:=Bd.of B r3;have G:=F.neg.mul bw;have mo:=F.neg.mulH bw (by decide) (by decide);have as:dX (ss.map fQ) t=some (.tup [.int _,.int i,.int z]):=er;generalize -i*z=o at G mo;have n1:=bb.mulH G (by decide) (by decide);have n2:=J.mulH G (by decide) (by decide);have n3:=(J.mul G).mulH G (by decide) (by decide);have n4:=J.mulH F (by decide) (by decide);have n5:=(J.mul F).mulH F (by decide) (by decide);have n6:=bb.mulH F (by decide) (by decide);have n7:=two.mulH J (by decide) (by decide);have n8:=(two.mul J).mulH F (by decide) (by decide);have n9:=((two.mul J).mul F).mulH G (by decide) (by decide);have e1:=U ((((ba.mono (show 60<=300 by decide)).add ((bb.mul G).mono (show 60+(60+60)<=300 by decide))).add (((J.mul G).mul G).mono (show 60+(60+60)+(60+60)<=300+1 by decide))).mono (show 300+1+1<=400 by decide));have e2:=U (((J.mul F).mul F).mono (show 60+60+60<=400 by decide));have e3:=U ((((bb.mul F).mono (show 60+60<=350 by decide)).add ((((two.mul J).mul F).mul G).mono (show 60+60+60+(60+60)<=350 by decide))).mono (show 350+1<=400 by decide));have e4:=U (v3.mono (show 60+60<=400 by decide));have cm:=jQ Mp es rfl [([0],a+b*o+c*o*o),([2],c*i*i),([1],b*i+2*c*i*o),([0],Y*Z)] none none (by simp only[zaD,zaE,or_false];rintro t (rfl|rfl|rfl|rfl) <;> assumption);refine⟨_,aM (d:=.lst (_)) (by unfold gH;ac_rfl),by simp[-zad,-zae,aA,aD],λq hq=>?_⟩;simp only[zak,zb1,zaD,zaE,or_false]at hq;rcases hq with rfl|rfl|rfl|rfl <;> exact⟨rfl,by simp[-zad,-zae,aA,aD],Bd.mod Mp B⟩
 ·have t0:=ac t (by simp[-zad,-zae,aA,aD])
  have u0:=ac u (by simp[-zad,-zae,aA,aD]);obtain⟨⟨_,i,z⟩,ae,er⟩:=t6 (ss:=ss) (i:=t) t0.1 (by lia);obtain⟨⟨_,e,w⟩,aq,eq⟩:=t6 (ss:=ss) (i:=u) u0.1 (by lia);obtain⟨r1,r2,r3⟩:=hs _ ae;obtain⟨q1,q2,q3⟩:=hs _ aq;have F:Bd 60 i:=Bd.of B r2;have bw:Bd 60 z:=Bd.of B r3;have G:=F.neg.mul bw;have mo:=F.neg.mulH bw (by decide) (by decide);have be:Bd 60 e:=Bd.of B q2;have bv:Bd 60 w:=Bd.of B q3;have bp:=be.neg.mul bv;have mp:=be.neg.mulH bv (by decide) (by decide);have as:dX (ss.map fQ) t=some (.tup [.int _,.int i,.int z]):=er;have a0:dX (ss.map fQ) u=some (.tup [.int _,.int e,.int w]):=eq;generalize -i*z=o at G mo;generalize -e*w=p at bp mp;have n1:=N.mulH F (by decide) (by decide);have n2:=(N.mul F).mulH be (by decide) (by decide);have n3:=bb.mulH G (by decide) (by decide);have n4:=J.mulH bp (by decide) (by decide);have n5:=N.mulH G (by decide) (by decide);have n6:=(N.mul G).mulH bp (by decide) (by decide);have n7:=J.mulH be (by decide) (by decide);have n8:=(N.mul G).mulH be (by decide) (by decide);have n9:=bb.mulH F (by decide) (by decide);have bm:=(N.mul F).mulH bp (by decide) (by decide);have e1:=U (((N.mul F).mul be).mono (show 60+60+60<=400 by decide));have e2:=U (((((ba.mono (show 60<=300 by decide)).add ((bb.mul G).mono (show 60+(60+60)<=300 by decide))).add ((J.mul bp).mono (show 60+(60+60)<=300+1 by decide))).add (((N.mul G).mul bp).mono (show 60+(60+60)+(60+60)<=300+1+1 by decide))).mono (show 300+1+1+1<=400 by decide));have e3:=U ((((J.mul be).mono (show 60+60<=350 by decide)).add (((N.mul G).mul be).mono (show 60+(60+60)+60<=350 by decide))).mono (show 350+1<=400 by decide));have e4:=U ((((bb.mul F).mono (show 60+60<=350 by decide)).add (((N.mul F).mul bp).mono (show 60+60+(60+60)<=350 by decide))).mono (show 350+1<=400 by decide));have e5:=U (v3.mono (show 60+60<=400 by decide));have cm:=jQ Mp es rfl [([1,1],d*i*e),([0,0],a+b*o+c*p+d*o*p),([0,1],c*e+d*o*e),([1,0],b*i+d*i*p),([0,0],Y*Z)] none none (by simp only[zaD,zaE,or_false];rintro t (rfl|rfl|rfl|rfl|rfl) <;> assumption);refine⟨_,aM (d:=.lst (_)) (by unfold gH;ac_rfl),by simp[-zad,-zae,aA,aD],λq hq=>?_⟩;simp only[zak,zb1,zaD,zaE,or_false]at hq;rcases hq with rfl|rfl|rfl|rfl|rfl <;> exact⟨rfl,by simp[-zad,-zae,aA,aD],Bd.mod Mp B⟩
theorem MW{ss:List Str}(h:∀s∈ss,∃n,s=⟨#[n]⟩):(ss.map (·.length)).sum=ss.length:=by
 induction ss with
 | nil=>rfl
 | cons s ss ih=>
  obtain⟨n,rfl⟩:=h s (zas ..);rw[zak,zde,ih λt q=>h t (zav _ q),zaT];show 1+ss.length=ss.length+1
  lia
noncomputable def sg(S:Str)(i:Int):Nat:=S.cps.toList.getD i.toNat 0
theorem MN(hz:z.length<=1000)(h0:0<=i)(h:i<(z.length:Int)):aH (.str z) (.int i)=some (.str ⟨#[sg z i]⟩):=by
 obtain⟨j,rfl⟩:∃j:Nat,i=(j:Int):=⟨i.toNat,by lia⟩;have q:j<z.cps.toList.length:=by rw[zbj];show j<z.length;lia
 have e:dX z.cps.toList (j:Int)=some z.cps.toList[j]:=b8 (by simp_all[q]);have B:sg z (j:Int)=z.cps.toList[j]:=by
  unfold sg;rw[zb7,List.getD_eq_getElem?_getD,zaY q];rfl
 rw[B];show(if aX z.length then(dX z.cps.toList (j:Int)).map (λc=>D.str ⟨#[c]⟩)else none)=_;rw[if_pos (show aX z.length=true from decide_eq_true (by lia)),e];rfl
theorem join_ones:∀l:List Nat,(Str.join "" (l.map λg=>(⟨#[g]⟩:Str))).cps.toList=l
 | []=>rfl
 | [g]=>rfl
 | g::g'::l=>by
  have ih:=join_ones (g'::l);show((⟨#[g]⟩:Str) ++ "" ++ Str.join "" ((g'::l).map λg=>(⟨#[g]⟩:Str))).cps.toList=_;have e:∀a b:Str,(a++b).cps=a.cps++b.cps:=λ_ _=>rfl
  rw[e,e,Array.toList_append,Array.toList_append,ih];rfl
theorem IP:Txt.join sep ys=Str.join sep ys:=by
 have:=join_closes (sep:=sep) (sep':=sep) (ys:=ys) rfl;simpa using this
theorem GI(l:List Nat):((l.map λg=>(⟨#[g]⟩:Str)).map (·.length)).sum=l.length:=by
 rw[MW (ss:=l.map λg=>(⟨#[g]⟩:Str)) λs hs=>by obtain⟨g,_,rfl⟩:=List.mem_map.mp hs;exact⟨g,rfl⟩,zao]
noncomputable def low(c:Nat):Bool:=decide (97<=c) && decide (c<=122)
def rG(x:Str):Bool:=decide (1<=x.length) && decide (x.length<=8) && (x.cps.toList.all low) && !((["let", "in", "pick", "again"]:List Str).contains x)
theorem QE(c:Nat):(!decide ((⟨#[c]⟩:Str).cps.toList<("a" : Str).cps.toList))=decide (97<=c)/\(!decide (("z" : Str).cps.toList<(⟨#[c]⟩:Str).cps.toList))=decide (c<=122):=by
 have ea:("a" : Str).cps.toList=[97]:=by decide
 have q:("z" : Str).cps.toList=[122]:=by decide
 have B:(⟨#[c]⟩:Str).cps.toList=[c]:=rfl;rw[ea,q,B];have h1:([c]<[97])↔c<97:=by simp_all[List.cons_lt_cons_iff]
 have h2:([122]<[c])↔122<c:=by simp_all[List.cons_lt_cons_iff]
 constructor
 ·by_cases h:c<97
  ·rw[decide_eq_true (h1.mpr h),decide_eq_false (by lia)];rfl
  ·rw[decide_eq_false (λz=>h (h1.mp z)),decide_eq_true (by lia)];rfl
 ·by_cases h:122<c
  ·rw[decide_eq_true (h2.mpr h),decide_eq_false (by lia)];rfl
  ·rw[decide_eq_false (λz=>h (h2.mp z)),decide_eq_true (by lia)];rfl
theorem xF:∀(cs:List Nat) (o:Option D),bR (aL 0) BI (fZ yX yX (eC (.str "a")) (aB 0) (eC (.str "z"))) (cs.map λc=>.str ⟨#[c]⟩) [o]=some ((cs.map low).map .bl)
 | [],o=>rfl
 | c::cs,o=>by
  have ih:=xF cs (some (.str ⟨#[c]⟩));obtain⟨B,F⟩:=QE c;have q:yX (.str "a") (.str ⟨#[c]⟩)=some (.bl (decide (97<=c))):=by rw[q_leAS,B]
  have z:yX (.str ⟨#[c]⟩) (.str "z")=some (.bl (decide (c<=122))):=by rw[q_leAS,F]
  by_cases h:97<=c
  ·simp_all[-zaQ,-q_leAS,bR,fZ,q,z,h,ih,low]
  ·simp_all[-zaQ,-q_leAS,bR,fZ,q,h,ih,low]
theorem tM(Y:x.length<=1000):lC [.str x]=some (.bl (rG x)):=by
 refine aM ?_;have hz:aX x.length=true:=decide_eq_true (by lia);have le:dA [.str x]=some (.int (x.length:Int)):=if_pos hz;have W:=xF x.cps.toList none;have J:aX (P.signs x).length=true:=by
  have:(P.signs x).length=x.length:=by unfold P.signs;rw[zao,zbj];rfl
  rw[this];exact hz
 have N:(List.map low x.cps.toList).all id=x.cps.toList.all low:=by rw[List.all_map];rfl
 unfold tR rG;by_cases h1:x.length<1
 ·have z:(x.length:Int)<1:=by lia
  have h2:decide (1<=x.length)=false:=decide_eq_false (by lia);rw[h2]
  ac_rfl
 ·have z:¬ (x.length:Int)<1:=by lia
  have h2:decide (1<=x.length)=true:=decide_eq_true (by lia);rw[h2];by_cases h8:8<x.length
  ·have q:(8:Int)<(x.length:Int):=by lia
   have F:decide (x.length<=8)=false:=decide_eq_false (by lia);rw[F]
   ac_rfl
  ·have q:¬ (8:Int)<(x.length:Int):=by lia
   have F:decide (x.length<=8)=true:=decide_eq_true (by lia);rw[F];unfold P.signs at J;by_cases M:x = "let" \/ x = "in" \/ x = "pick" \/ x = "again"
   ·have B:(["let", "in", "pick", "again"]:List Str).contains x=true:=by simpa using M
    rw[B]
    ac_rfl
   ·have B:(["let", "in", "pick", "again"]:List Str).contains x=false:=by simpa using M
    rw[B];have sg:P.signs x=x.cps.toList.map λc=>D.str ⟨#[c]⟩:=rfl
    have U:FZ [.lst ((x.cps.toList.map low).map .bl)]=some (.bl (x.cps.toList.all low)):=by rw[q_all,N]
    have G:aX x.cps.size=true:=hz;simp[-zad,-zae,aA,aD,-zaQ,-q_all,aK,le,z,q,M,sg,G,nW,W]at U ⊢
    ac_rfl
theorem O8(h0:0<=i)(h:i<26):aH (.str "abcdefghijklmnopqrstuvwxyz") (.int i)=some (.str ⟨#[97+i.toNat]⟩):=by
 have l:("abcdefghijklmnopqrstuvwxyz" : Str).length=26:=by decide +kernel
 rw[MN (by rw[l];decide) h0 (by rw[l];exact h)];have:∀j:Fin 26,sg "abcdefghijklmnopqrstuvwxyz" (j.val:Int)=97+j.val:=by decide +kernel
 have e:=this ⟨i.toNat,by lia⟩;have q:((i.toNat:Nat):Int)=i:=by lia
 rw[q]at e;rw[e]
noncomputable def jX(c:Int):Int:=if c/26%8=0 then 1 else if c/26%8=7 then 8 else c/26%8+2
def nV(c k:Int):List Nat:=if c/1664%3=0 then zaO (1+(c+k)%8).toNat (97+(c%26).toNat)else(zaO (jX c).toNat (97+(c%26).toNat)).set (c/208%jX c).toNat (97+((c+1+k)%26).toNat)
def f7(c k:Int):Str:=⟨(nV c k).toArray⟩
theorem DI(c:Int):1<=jX c/\jX c<=8/\jX c≠2:=by
 unfold jX;have:=zaw (c/26) (show(8:Int)≠0 by decide);have:=zax (c/26) (show(0:Int)<8 by decide);split
 ·lia
 ·split <;> lia
theorem kL(c k:Int):(nV c k).length=(if c/1664%3=0 then(1+(c+k)%8).toNat else(jX c).toNat):=by
 unfold nV;split <;> simp[-zad,-zae,aA,aD]
theorem AW(c k:Int):1<=(f7 c k).length/\(f7 c k).length<=8:=by
 have e:(f7 c k).length=(nV c k).length:=by show(nV c k).toArray.size=_;simp[-zad,-zae,aA,aD]
 have z:=DI c;rw[e,kL];split <;> lia
theorem R6(c k:Int):(f7 c k).cps.toList.all low=true:=by
 show(nV c k).toArray.toList.all low=true;rw[zcO];intro x q;have q:x∈nV c k:=by simpa using q
 have a:x=97+(c%26).toNat\/x=97+((c+1+k)%26).toNat:=by
  unfold nV at q;split at q
  ·exact .inl (zdg q)
  ·rcases List.mem_or_eq_of_mem_set q with z|z
   ·exact .inl (zdg z)
   ·exact .inr z
 unfold low;have:97<=x/\x<=122:=by lia
 ac_rfl
theorem K7(c k:Int):∃(a s:Nat),∀i x,i≠s->(nV c k)[i]?=some x->x=a:=by
 unfold nV;split
 ·exact⟨97+(c%26).toNat,100,λi x _ h=>zdg (zaX h)⟩
 ·refine⟨97+(c%26).toNat,(c/208%jX c).toNat,λi x hi h=>?_⟩
  rw[zdL (zaR hi)]at h;exact zdg (zaX h)
theorem three{a s i j k x y z:Nat}{w:List Nat}(h:∀i x,i≠s->w[i]?=some x->x=a)(G:w[i]?=some x)(B:w[j]?=some y)(hz:w[k]?=some z)(n:i≠j/\i≠k/\j≠k)(m:x≠y/\x≠z/\y≠z):False:=by
 by_cases e:i=s
 ·have p:=h j y (λq=>n.1 (e.trans q.symm)) B
  have q:=h k z (λq=>n.2.1 (e.trans q.symm)) hz;exact m.2.2 (p.trans q.symm)
 ·have p:=h i x e G
  by_cases F:j=s
  ·exact m.2.1 (p.trans (h k z (λq=>n.2.2 (F.trans q.symm)) hz).symm)
  ·exact m.1 (p.trans (h j y F B).symm)
theorem uM{c k:Int}{w:List Nat}(hw:w=[108,101,116]\/w=[112,105,99,107]\/w=[97,103,97,105,110]):nV c k≠w:=by
 rintro rfl;obtain⟨a,s,h⟩:=K7 c k;rcases hw with e|e|e <;> rw[e]at h
 ·exact three (i:=0) (j:=1) (k:=2) h rfl rfl rfl (by decide) (by decide)
 ·exact three (i:=0) (j:=1) (k:=2) h rfl rfl rfl (by decide) (by decide)
 ·exact three (i:=0) (j:=1) (k:=3) h rfl rfl rfl (by decide) (by decide)
theorem SK:nV c k≠[105,110]:=by
 intro e;have l:=congrArg zbP e;rw[kL]at l;have z:=DI c;unfold nV at e;split at e
 ·have h0:(105:Nat)∈[105,110]:=by decide
  have h1:(110:Nat)∈[105,110]:=by decide
  rw[<- e]at h0 h1;have:=(zdg h0).trans (zdg h1).symm
  lia
 ·rw[if_neg (by assumption)]at l
  have l:(jX c).toNat=2:=l
  lia
theorem OX(h0:0<=k)(h:k<25):rG (f7 c k)=true:=by
 obtain⟨M,F⟩:=AW c k;have hw:(["let", "in", "pick", "again"]:List Str).contains (f7 c k)=false:=by
  have e:∀s:Str,f7 c k=s->nV c k=s.cps.toList:=λs z=>by rw[<- z];simp_all[f7]
  have J:("let" : Str).cps.toList=[108,101,116]:=by decide
  have q:("in" : Str).cps.toList=[105,110]:=by decide
  have G:("pick" : Str).cps.toList=[112,105,99,107]:=by decide
  have B:("again" : Str).cps.toList=[97,103,97,105,110]:=by decide
  have:¬ (f7 c k = "let" \/ f7 c k = "in" \/ f7 c k = "pick" \/ f7 c k = "again"):=by
   rintro(z|z|z|z)
   ·exact uM (.inl J) (e _ z)
   ·exact SK ((e _ z).trans q)
   ·exact uM (.inr (.inl G)) (e _ z)
   ·exact uM (.inr (.inr B)) (e _ z)
  simpa using this
 unfold rG;rw[hw,R6,decide_eq_true M,decide_eq_true F];rfl
theorem SL(h0:0<=k)(h:k<8)(h2:0<=m)(J:m<8)(e:f7 c k=f7 c m):k=m:=by
 have e:nV c k=nV c m:=by
  have:=congrArg (λs:Str=>s.cps.toList) e;simpa[f7]using this
 have z:=DI c;by_cases q:c/1664%3=0
 ·have l:=congrArg zbP e
  rw[kL,kL,if_pos q,if_pos q]at l
  lia
 ·unfold nV at e
  rw[if_neg q,if_neg q]at e;have G:=zaw (c/208) (show jX c≠0 by lia);have F:=zax (c/208) (show 0<jX c by lia);have B:=congrArg (λl:List Nat=>l[(c/208%jX c).toNat]?) e;simp[-zad,-zae,aA,aD,List.getElem?_set,show(c/208%jX c).toNat<(jX c).toNat by lia]at B
  lia
theorem qR:∀n:Nat,(zaO n [x]).flatten=zaO n x
 | 0=>rfl
 | n+1=>by rw[zcr,zcJ,qR n];rfl
theorem SO(l:List Nat)(h:l.length<=100):t8 (.str "") (.lst (l.map λg=>.str ⟨#[g]⟩))=some (.str ⟨l.toArray⟩):=by
 have j:=QR (sep := "") (ss:=l.map λg=>(⟨#[g]⟩:Str)) (by
  rw[GI];show l.length+_*0<=_
  lia)
 rw[zaQ]at j;refine Eq.trans j ?_;congr 2;rw[IP];have:=join_ones l;cases hs:Str.join "" (l.map λg=>(⟨#[g]⟩:Str))with
 | mk cps=>
  rw[hs]at this;simp only at this;rw[<- this]
theorem GK(h0:0<=i)(h:i<8):dX [D.int 1,.int 3,.int 4,.int 5,.int 6,.int 7,.int 8,.int 8] i=some (.int (if i=0 then 1 else if i=7 then 8 else i+2)):=by
 have:i=0\/i=1\/i=2\/i=3\/i=4\/i=5\/i=6\/i=7:=by lia
 rcases this with rfl|rfl|rfl|rfl|rfl|rfl|rfl|rfl <;> rfl
theorem mM(h0:0<=many)(h:many<=6):gE [.int c,.int many]=some (.lst ((zaA many.toNat).map λ(k:Nat)=>.str (f7 c (k:Int)))):=by
 obtain⟨z1,z2,_⟩:=DI c;have i0:=zaw (c/26) (show(8:Int)≠0 by decide);have W:=zax (c/26) (show(0:Int)<8 by decide);have es:=GK i0 W;have s0:=zaw (c/208) (show jX c≠0 by lia);have s1:=zax (c/208) (show 0<jX c by lia);have a0:=zaw c (show(26:Int)≠0 by decide);have a1:=zax c (show(0:Int)<26 by decide);have Y:aX 8=true:=rfl;refine aM ?_;unfold mH;rw[aF (aN (d:=.str "abcdefghijklmnopqrstuvwxyz") (by simp[-zad,-zae,aA,aD]))];rw[aF (aN (d:=.int (jX c)) (by simp_all[aK,dB,bB,es,jX,Y]))];rw[aF (aN (d:=.int (c/208%jX c)) (by ac_rfl))];rw[aF (aN (d:=.lst []) (by simp[-zad,-zae,aA,aD]))];refine c7 (items:=aV 0 1 many.toNat) (by simp_all[aK,d8 h0 (show many<=1000000 by lia)]) (λi ρ=>∃o6 o7,ρ=[some (.int c),some (.int many),some (.str "abcdefghijklmnopqrstuvwxyz"),some (.int (jX c)),some (.int (c/208%jX c)),some (.lst ((zaA i).map λ(k:Nat)=>.str (f7 c (k:Int)))),o6,o7]) ⟨none,none,by ac_rfl⟩ ?_ ?_
 ·rintro i x ρ hx ⟨o6,o7,rfl⟩
  obtain⟨ac,rfl⟩:=bI hx;have hI:(0:Int)+(i:Int)*1=(i:Int):=by lia
  rw[hI];have b0:=zaw (c+1+(i:Int)) (show(26:Int)≠0 by decide);have b1:=zax (c+1+(i:Int)) (show(0:Int)<26 by decide);have n0:=zaw (c+(i:Int)) (show(8:Int)≠0 by decide);have n1:=zax (c+(i:Int)) (show(0:Int)<8 by decide);have hz:aX i=true:=decide_eq_true (by lia);have q:aX (jX c).toNat=true:=decide_eq_true (by lia);have M:aX (1+(c+(i:Int))%8).toNat=true:=decide_eq_true (by lia);have B:cM (jX c)=true:=by simp only[cM,zaK,decide_eq_true_eq];lia
  have J:cM (1+(c+(i:Int))%8)=true:=by simp only[cM,zaK,decide_eq_true_eq];lia
  have U:=O8 a0 a1;have N:=O8 b0 b1;have nl:(nV c (i:Int)).length<=100:=by rw[kL];split <;> lia
  have F:=SO (nV c (i:Int)) nl;have pt:=TQ (l:=zaO (jX c).toNat (D.str ⟨#[97+(c%26).toNat]⟩)) (k:=c/208%jX c) (e:=.str ⟨#[97+((c+1+(i:Int))%26).toNat]⟩) s0 (by rw[List.length_replicate];lia);refine⟨[some (.int c),some (.int many),some (.str "abcdefghijklmnopqrstuvwxyz"),some (.int (jX c)),some (.int (c/208%jX c)),some (.lst ((zaA (i+1)).map λ(k:Nat)=>.str (f7 c (k:Int)))),some (.int (i:Int)),some (.lst ((nV c (i:Int)).map λg=>.str ⟨#[g]⟩))],?_,_,_,rfl⟩;have rs:(zaA (i+1)).map (λ(k:Nat)=>D.str (f7 c (k:Int)))=(zaA i).map (λ(k:Nat)=>D.str (f7 c (k:Int)))++[.str (f7 c (i:Int))]:=by rw[List.range_succ,zbv];rfl
  rw[rs];by_cases G:c/1664%3=0
  ·have z:nV c (i:Int)=zaO (1+(c+(i:Int))%8).toNat (97+(c%26).toNat):=by unfold nV;rw[if_pos G]
   rw[z,List.map_replicate]at F ⊢;have hs:f7 c (i:Int)=⟨(zaO (1+(c+(i:Int))%8).toNat (97+(c%26).toNat)).toArray⟩:=by unfold f7;rw[z]
   simp_all[turn,bB,dB,U,N,qR,q,M,B,J,pt,G,F,hz,hs]
  ·have z:nV c (i:Int)=(zaO (jX c).toNat (97+(c%26).toNat)).set (c/208%jX c).toNat (97+((c+1+(i:Int))%26).toNat):=by unfold nV;rw[if_neg G]
   rw[z,List.map_set,List.map_replicate]at F ⊢;have hs:f7 c (i:Int)=⟨((zaO (jX c).toNat (97+(c%26).toNat)).set (c/208%jX c).toNat (97+((c+1+(i:Int))%26).toNat)).toArray⟩:=by unfold f7;rw[z]
   simp_all[turn,bB,dB,U,N,qR,q,B,pt,G,F,hz,hs]
 ·rintro ρ ⟨o6,o7,rfl⟩
  rw[a8];simp[-zad,-zae,aA,aD]
structure Mk where
 nm:Str
 tk:List Int
 gv:Int
 ts:List My.Tm
 p:Int
def bP(m:Mk):D:=.tup [.str m.nm,tupI m.tk,.int m.gv,.lst (m.ts.map bN),.int m.p]
structure OkM(many:Int)(n:Nat)(m:Mk):Prop where
 nm:rG m.nm=true
 nl:m.nm.length<=8
 tk:(∃t,m.tk=[t])\/∃t u,m.tk=[t,u]
 tb:∀t∈m.tk,0<=t/\t<many
 gv:0<=m.gv/\m.gv<many
 tl:m.ts.length<=n
 tt:∀t∈m.ts,OkT m.tk.length t
 pr:0<=m.p/\m.p<=10^30
theorem UG:cutD [x,y] none (some 1)=[x]/\cutD [x,y] none (some 2)=[x,y]:=⟨rfl,rfl⟩
theorem OS{q:Type}{P:q->Prop}{l:List q}{x:q}(h:∀y∈l,P y)(k:P x):∀y∈l++[x],P y:=λy B=>by
 rcases List.mem_append.mp B with z|z
 ·exact h y z
 ·rw[List.mem_singleton.mp z];exact k
theorem wO{ns:List Int}{M many:Int}{ss:List Se}(h3:3<=M)(am:M<10^60)(hm:1<=many/\many<=6)(hl:(ss.length:Int)=many)(hs:∀s∈ss,UW M s):∃ms:List Mk,gX [.int M,.lst (ss.map fQ),.lst (ns.map .int)]=some (.lst (ms.map bP))/\ms.length<=5/\∀m∈ms,OkM many 6 m:=by
 suffices h:∃d,gX [.int M,.lst (ss.map fQ),.lst (ns.map .int)]=some d/\∃ms:List Mk,d=.lst (ms.map bP)/\ms.length<=5/\∀m∈ms,OkM many 6 m by
  obtain⟨d,e,ms,rfl,h⟩:=h;exact⟨ms,e,h⟩
 have Mp:0<M:=by lia
 have mp:0<many:=by lia
 obtain⟨f,U⟩:=g9 ns;have f3:=U 3 (by decide) (by decide);have ba:=U 28 (by decide) (by decide);have a2:=U 24 (by decide) (by decide);have bw:=U 25 (by decide) (by decide);have bu:=U 26 (by decide) (by decide);have bq:=U 27 (by decide) (by decide);have mb:∀x:Int,0<=x%M/\x%M<=M:=λx=>by
  have:=zaw x (zaU Mp);have:=zax x Mp
  lia
 have mm:∀x:Int,0<=x%many/\x%many<many:=λx=>⟨zaw x (zaU mp),zax x mp⟩
 have a5:dY [.int 24,.int 28]=some [.int 24,.int 25,.int 26,.int 27]:=fE (by decide) (by decide) (by decide) (by decide);obtain⟨a,ha,ab⟩:∃a,f 24%M=a/\0<=a/\a<=M:=⟨_,rfl,mb _⟩;obtain⟨b,hb,bb⟩:∃a,f 25%M=a/\0<=a/\a<=M:=⟨_,rfl,mb _⟩;obtain⟨c,hc,cb⟩:∃a,f 26%M=a/\0<=a/\a<=M:=⟨_,rfl,mb _⟩;obtain⟨d,hd,db⟩:∃a,f 27%M=a/\0<=a/\a<=M:=⟨_,rfl,mb _⟩;have nn:=mM (c:=f 28) (many:=3) (by decide) (by decide);have e3:(zaA (3:Int).toNat).map (λ(k:Nat)=>D.str (f7 (f 28) (k:Int)))=[.str (f7 (f 28) 0),.str (f7 (f 28) 1),.str (f7 (f 28) 2)]:=rfl;rw[e3]at nn;have el:dA [.lst (ss.map fQ)]=some (.int many):=by rw[q_lenL,zao,hl]
 generalize hN:f7 (f 28)=N at nn;refine dJ ?_;unfold lT;refine jS (aN (CA (by ac_rfl) el)) (jS (aN (d:=.lst [.int a,.int b,.int c,.int d]) (by rw[<- ha,<- hb,<- hc,<- hd];ac_rfl)) (jS (aN (d:=.lst [.str (N 0),.str (N 1),.str (N 2)]) (by ac_rfl)) (jS (by ac_rfl) ?_)));generalize decide (0<f 28/5000%3)=al;refine jS (by ac_rfl) ?_;have s0:=zaw (f 3/30) (show(6:Int)≠0 by decide);have s1:=zax (f 3/30) (show(0:Int)<6 by decide);generalize f 3/30%6=sz at s0 s1;have hsz:∃q:Int,0<=q/\q<=5/\nT (eJ (aZ BQ (aB 3) (eC (.int 4)))) (bQ 7 (aZ dS (aB 7) (eC (.int 3)))) vY [some (.int M),some (.lst (ss.map fQ)),some (.lst (ns.map .int)),some (.int many),some (.lst [.int a,.int b,.int c,.int d]),some (.lst [.str (N 0),.str (N 1),.str (N 2)]),some (.bl al),some (.int sz),none,none,none,none,none,none,none]=some (.nx [some (.int M),some (.lst (ss.map fQ)),some (.lst (ns.map .int)),some (.int many),some (.lst [.int a,.int b,.int c,.int d]),some (.lst [.str (N 0),.str (N 1),.str (N 2)]),some (.bl al),some (.int q),none,none,none,none,none,none,none]):=by
  by_cases h:4<many
  ·exact⟨sz%3,by lia,by lia,by ac_rfl⟩
  ·exact⟨sz,s0,by lia,by ac_rfl⟩
 obtain⟨q,y0,y1,ey⟩:=hsz;refine jS ey (jS (ρ':=List.set _ 8 (some (.lst []))) (by ac_rfl) ?_);have bh:dY [.int 19,.int (19+q)]=some (aV 19 1 (19+q-19).toNat):=fE (by decide) (by decide) (by lia) (by lia);refine eD (items:=aV 19 1 (19+q-19).toNat) (by ac_rfl) (λi ρ=>∃(ms:List Mk) (o7 o9 W z B G F:Option D),ρ=[some (.int M),some (.lst (ss.map fQ)),some (.lst (ns.map .int)),some (.int many),some (.lst [.int a,.int b,.int c,.int d]),some (.lst [.str (N 0),.str (N 1),.str (N 2)]),some (.bl al),o7,some (.lst (ms.map bP)),o9,W,z,B,G,F]/\ms.length=i/\∀m∈ms,OkM many 6 m) ⟨[],some (.int q),none,none,none,none,none,none,rfl,rfl,λ_ h=>nomatch h⟩ ?_ ?_
 ·rintro i x ρ hx ⟨ms,o7,o9,W,z,B,G,F,rfl,hi,Y⟩
  obtain⟨bc,rfl⟩:=bI hx;have hI:19<=(19:Int)+(i:Int)*1/\(19:Int)+(i:Int)*1<=24:=by lia
  generalize (19:Int)+(i:Int)*1=I at hI;have fI:=U I (by lia) (by lia);generalize f I=x at fI;have tk:∃tk:List Int,((∃t,tk=[t])\/∃t u,tk=[t,u])/\(∀t∈tk,0<=t/\t<many)/\∀ {ρ:cY},aB 10 ρ=some (.int x)->aB 3 ρ=some (.int many)->(K5 lO (iC (aC (aZ dS (aZ sI (aB 10) (eC (.int 3))) (aB 3)) (aC (aZ dS (aZ sI (aB 10) (eC (.int 18))) (aB 3)) aY))) rP (kT (aZ bX (eC (.int 1)) (aP FY (aC (aZ BQ (aZ dS (aB 10) (eC (.int 3))) (eC (.int 0))) aY))))) ρ=some (tupI tk):=by
   by_cases h:0<x%3
   ·have hg:BQ (.int (x%3)) (.int 0)=some (.bl true):=congrArg (λb=>some (D.bl b)) (decide_eq_true h)
    refine⟨[x/3%many,x/18%many],.inr ⟨_,_,rfl⟩,λt ht=>?_,λh1 h2=>by ac_rfl⟩;simp only[zaD,zaE,or_false]at ht;rcases ht with rfl|rfl <;> exact mm _
   ·have hg:BQ (.int (x%3)) (.int 0)=some (.bl false):=congrArg (λb=>some (D.bl b)) (decide_eq_false h)
    refine⟨[x/3%many],.inl ⟨_,rfl⟩,λt ht=>?_,λh1 h2=>by ac_rfl⟩;rw[List.mem_singleton.mp ht];exact mm _
  obtain⟨tk,ae,ac,ap⟩:=tk;have gb:=mm (x/108);have eg:dS (.int (x/108)) (.int many)=some (.int (x/108%many)):=bB mp;generalize x/108%many=g at gb eg;have hn:∃n:Int,(n=0\/n=1)/\∀ {o7 o8 o9 z B G F:Option D},bD (bQ 13 (aZ sI (aZ dS (aZ sI (aB 10) (eC (.int 648))) (eC (.int 4))) (eC (.int 3)))) (nT (eJ (aB 6)) (bQ 13 (eC (.int 0))) vY) [some (.int M),some (.lst (ss.map fQ)),some (.lst (ns.map .int)),some (.int many),some (.lst [.int a,.int b,.int c,.int d]),some (.lst [.str (N 0),.str (N 1),.str (N 2)]),some (.bl al),o7,o8,o9,some (.int x),z,B,G,F]=some (.nx [some (.int M),some (.lst (ss.map fQ)),some (.lst (ns.map .int)),some (.int many),some (.lst [.int a,.int b,.int c,.int d]),some (.lst [.str (N 0),.str (N 1),.str (N 2)]),some (.bl al),o7,o8,o9,some (.int x),z,B,some (.int n),F]):=by
   cases al with
   | true=>exact⟨0,.inl rfl,by ac_rfl⟩
   | false=>
    have:=zaw (x/648) (show(4:Int)≠0 by decide);have:=zax (x/648) (show(0:Int)<4 by decide);exact⟨x/648%4/3,by lia,by ac_rfl⟩
  obtain⟨n,hn,en⟩:=hn;have es:∀ {g h k:Sv} {ρ:cY},bD g (bD h k) ρ=bD (bD g h) k ρ:=by
   intro g h k ρ;unfold bD;cases g ρ with
   | none=>rfl
   | some o=>cases o <;> rfl
  have w0:=zaw (x/2592) (show(1000000000000000000000000000000:Int)≠0 by decide);have w1:=zax (x/2592) (show(0:Int)<1000000000000000000000000000000 by decide);have pw:BO (.int 10) (.int 30)=some (.int 1000000000000000000000000000000):=yW (by decide) (by decide) (by decide);have dm:dS (.int (x/2592)) (.int 1000000000000000000000000000000)=some (.int (x/2592%1000000000000000000000000000000)):=bB (by decide);generalize x/2592%1000000000000000000000000000000=p at w0 w1 dm;have J:∃(J:List Int) (u v:List D),(∃a b c d:Int,J=[a,b,c,d])/\(∀x∈J,0<=x/\x<=M)/\cutD [D.int a,.int b,.int c,.int d] (some n) none=u/\cutD [D.int a,.int b,.int c,.int d] none (some n)=v/\u++v=J.map .int/\aX (u.length+v.length)=true:=by
   rcases hn with rfl|rfl
   ·refine⟨[a,b,c,d],_,_,⟨_,_,_,_,rfl⟩,λy hy=>?_,rfl,rfl,rfl,rfl⟩
    simp only[zaD,zaE,or_false]at hy;rcases hy with rfl|rfl|rfl|rfl <;> assumption
   ·refine⟨[b,c,d,a],_,_,⟨_,_,_,_,rfl⟩,λy hy=>?_,rfl,rfl,rfl,rfl⟩
    simp only[zaD,zaE,or_false]at hy;rcases hy with rfl|rfl|rfl|rfl <;> assumption
  obtain⟨J,u,v,ak,aq,cu,cv,ao,aj⟩:=J;obtain⟨ts,bf,tl,tt⟩:=wU (g:=g) h3 am hl hs ae ac gb.1 gb.2 ak aq;have an:dX [D.str (N 0),.str (N 1),.str (N 2)] n=some (.str (N n)):=by rcases hn with rfl|rfl <;> rfl
  have c1:lO (.lst [.int a,.int b,.int c,.int d]) (some n) none=some (.lst u):=congrArg (λl=>some (D.lst l)) cu;have c2:lO (.lst [.int a,.int b,.int c,.int d]) none (some n)=some (.lst v):=congrArg (λl=>some (D.lst l)) cv;have c3:bX (.lst u) (.lst v)=some (.lst (J.map .int)):=by rw[<- ao];exact if_pos aj
  have lz:(ms.map bP).length<=1000000:=by rw[zao];lia
  apply L1
  ·refine VY rfl (qT (by ac_rfl) (yV (qT (aN (ap rfl rfl)) (yV (qT (by ac_rfl) (yV ?_))))))
   rw[es];exact qT en (yV (by ac_rfl))
  ·exact⟨ms++[(⟨N n,tk,g,ts,p⟩:Mk)],o7,some (.int I),some (.int x),some (tupI tk),some (.int g),some (.int n),some (.lst (ts.map bN)),by rw[zbv];rfl,by simp_all[hi],OS Y ⟨by rw[<- hN];exact OX (by lia) (by lia),by rw[<- hN];exact(AW _ _).2,ae,ac,gb,tl,tt,w0,by show p<=_;lia⟩⟩
 ·rintro ρ ⟨ms,o7,o9,W,z,B,G,F,rfl,hi,Y⟩
  rw[a8]at hi;exact⟨_,by ac_rfl,ms,rfl,by lia,Y⟩
theorem OkM.mono(h:OkM many n m)(l:n<=k):OkM many k m:=⟨h.nm,h.nl,h.tk,h.tb,h.gv,zbd h.tl l,h.tt,h.pr⟩
theorem Z2{q:Type}{P:q->Prop}{l:List q}{x:q}{n m:Nat}(h:∀y∈l,P y)(k:P x):∀y∈l.take n++x::l.drop m,P y:=λy B=>by
 rcases List.mem_append.mp B with z|z
 ·exact h y (List.mem_of_mem_take z)
 ·rcases List.mem_cons.mp z with z|z
  ·rw[z];exact k
  ·exact h y (List.mem_of_mem_drop z)
theorem ZY{q:Type}{f:q->D}{l:List q}{x:q}{n m:Nat}:(l.map f).take n++f x::(l.map f).drop m=(l.take n++x::l.drop m).map f:=by
 rw[zbv,zak,List.map_take,List.map_drop]
theorem Z6{q:Type}{l:List q}{x:q}{i:Int}(h0:0<=i)(h1:i<l.length):(l.take i.toNat++x::l.drop (i.toNat+1)).length=l.length:=by
 rw[zbk,zaT,zcX,zdY];lia
theorem qj{q:Type}{f:q->D}{l:List q}{c:Int}(h:0<((l.map f).length:Int)):0<=c%(l.map f).length/\c%(l.map f).length<(l.map f).length/\∃x∈l,dX (l.map f) (c%(l.map f).length)=some (f x):=by
 have a0:=zaw c (zaU h);have z:=zax c h;obtain⟨d,B,_,e⟩:=PQ a0 z;obtain⟨s,hs,rfl⟩:=List.mem_map.mp B;exact⟨a0,z,s,hs,e⟩
theorem spT{m:Mk}{t:My.Tm}{l:List Mk}{a b:Nat}:(l.map bP).take a++D.tup [.str m.nm,tupI m.tk,.int m.gv,.lst (m.ts.map bN++[bN t]),.int m.p]::(l.map bP).drop b=(l.take a++(⟨m.nm,m.tk,m.gv,m.ts++[t],m.p⟩:Mk)::l.drop b).map bP:=by
 rw[<- ZY,bP,zbv];rfl
theorem rX{M many cell:Int}{rs:List Ro}{ms:List Mk}(h3:3<=M)(B:M<10^60)(F:rs.length<=12)(z:∀r∈rs,BR many r)(G:ms.length<=5)(U:∀m∈ms,OkM many 6 m) :
  ∃(rs':List Ro) (ms':List Mk),i6 [.int M,.int cell,.lst (rs.map bG),.lst (ms.map bP)]=some (.tup [.lst (rs'.map bG),.lst (ms'.map bP)])/\(rs'.length<=12/\∀r∈rs',BR many r)/\ms'.length<=5/\∀m∈ms',OkM many 7 m:=by
 have q:∀m∈ms,OkM many 7 m:=λm h=>(U m h).mono (by decide)
 have Mp:0<M:=by lia
 have Mq:0<M-1:=by lia
 have er:(rs.map bG).length=rs.length:=zao ..;have em:(ms.map bP).length=ms.length:=zao ..;have lr:(rs.map bG).length<=1000:=by lia
 have lm:(ms.map bP).length<=1000:=by lia
 by_cases h1:cell%4=1
 ·by_cases Y:0<((rs.map bG).length:Int)
  ·obtain⟨a0,a1,r,ab,e⟩:=qj (c:=cell/4) Y
   have ok:=z r ab;have J:dX (rs.map bG) (cell/4%(rs.map bG).length)=some (.tup [.int r.j,.int r.k,.int r.a,.int r.b,.int r.p]):=e;by_cases h2:cell/40%2=1
   ·refine' ⟨rs.take _++(⟨r.j,r.k,r.a,(r.b+1+cell/80%(M-1))%M,r.p⟩:Ro)::rs.drop _,ms,aM (Eq.trans ?A (congrArg (λl=>some (Out.rt (.tup [.lst l,.lst (ms.map bP)]))) ZY)),⟨?L,Z2 z ⟨ok.1,ok.2.1,ok.2.2.1,ok.2.2.2.1,Bd.mod Mp B⟩⟩,G,q⟩
    case A=>unfold bK;ac_rfl
    case L=>rw[Z6 a0 (by lia)];exact F
   ·refine' ⟨rs.take _++(⟨r.j,r.k,(r.a+1+cell/80%(M-1))%M,r.b,r.p⟩:Ro)::rs.drop _,ms,aM (Eq.trans ?A (congrArg (λl=>some (Out.rt (.tup [.lst l,.lst (ms.map bP)]))) ZY)),⟨?L,Z2 z ⟨ok.1,ok.2.1,ok.2.2.1,Bd.mod Mp B,ok.2.2.2.2⟩⟩,G,q⟩
    case A=>unfold bK;ac_rfl
    case L=>rw[Z6 a0 (by lia)];exact F
  ·exact⟨rs,ms,aM (by unfold bK;ac_rfl),⟨F,z⟩,G,q⟩
 ·by_cases ag:cell%4=3
  ·by_cases Y:0<((ms.map bP).length:Int)
   ·obtain⟨a0,a1,m,ac,e⟩:=qj (c:=cell/4) Y
    have ok:=U m ac;have J:dX (ms.map bP) (cell/4%(ms.map bP).length)=some (.tup [.str m.nm,.tup (m.tk.map .int),.int m.gv,.lst (m.ts.map bN),.int m.p]):=e;have z3:(m.ts.map bN).length+1<=1000000:=by rw[zao];have:=ok.tl;lia
    have x0:=zaw (cell/40) (show(3:Int)≠0 by decide);have x1:=zax (cell/40) (show(0:Int)<3 by decide);have y0:=zaw (cell/120) (show(3:Int)≠0 by decide);have y1:=zax (cell/120) (show(0:Int)<3 by decide);have aa:Bd 61 (1+cell/360%(M-1)):=by
     have u0:=zaw (cell/360) (zaU Mq);have u1:=zax (cell/360) Mq;exact(Bd.of B ⟨by lia,by lia⟩).mono (by decide)
    suffices h:∃t:List Int,t.length=m.tk.length/\(∀e∈t,0<=e/\e<=2)/\bK (aK 15 [.int M,.int cell,.lst (rs.map bG),.lst (ms.map bP)])=some (.rt (.tup [.lst (rs.map bG),.lst ((ms.map bP).take (cell/4%(ms.map bP).length).toNat++D.tup [.str m.nm,.tup (m.tk.map .int),.int m.gv,.lst (m.ts.map bN++[.tup [.tup (t.map .int),.int (1+cell/360%(M-1))]]),.int m.p]::(ms.map bP).drop ((cell/4%(ms.map bP).length).toNat+1))])) by
     obtain⟨t,tl,tb,ev⟩:=h;exact⟨rs,_,aM (ev.trans (congrArg (λl=>some (Out.rt (.tup [.lst (rs.map bG),.lst l]))) (spT (t:=(t,_))))),⟨F,z⟩,by rw[Z6 a0 (by lia)];exact G,Z2 q ⟨ok.nm,ok.nl,ok.tk,ok.tb,ok.gv,by rw[zbk];have:=ok.tl;simp[-zad,-zae,aA,aD];lia,OS ok.tt ⟨tl,tb,aa⟩,ok.pr⟩⟩
    rcases ok.tk with⟨t,N⟩|⟨t,u,N⟩
    ·refine⟨[cell/40%3],by rw[N];rfl,λe W=>by rw[List.mem_singleton.mp W];lia,?_⟩
     rw[N]at J ⊢;simp only[List.map]at J ⊢;unfold bK;ac_rfl
    ·refine⟨[cell/40%3,cell/120%3],by rw[N];rfl,λe W=>by simp only[zaD,zaE,or_false]at W;rcases W with rfl|rfl <;> lia,?_⟩
     rw[N]at J ⊢;simp only[List.map]at J ⊢;unfold bK;ac_rfl
   ·exact⟨rs,ms,aM (by unfold bK;ac_rfl),⟨F,z⟩,G,q⟩
  ·exact⟨rs,ms,aM (by unfold bK;ac_rfl),⟨F,z⟩,G,q⟩
def cQ(c:Int)(n:Nat):List D:=(zaA n).map λ(k:Nat)=>.str (f7 c (k:Int))
theorem g7(c:Int)(n:Nat):(cQ c n).length=n:=by simp_all[cQ]
theorem AH(ns:List Int):∃(M c:Int) (n:Nat) (rs:List Ro) (ms:List Mk),fS [.lst (ns.map .int)]=some (.tup [.int M,.lst (cQ c n),.lst (rs.map bG),.lst (ms.map bP)])/\(3<=M/\M<10^60/\M%2=1)/\(1<=n/\n<=6)/\(rs.length<=12/\∀r∈rs,BR (n:Int) r)/\ms.length<=5/\∀m∈ms,OkM (n:Int) 7 m:=by
 obtain⟨f,U⟩:=g9 ns;have f0:=U 0 (by decide) (by decide);have f1:=U 1 (by decide) (by decide);have f2:=U 2 (by decide) (by decide);have af:=U 29 (by decide) (by decide);have aa:=U 30 (by decide) (by decide);have au:(10:Int)^60=1000000000000000000000000000000000000000000000000000000000000:=by decide +kernel
 have pw:BO (.int 10) (.int 59)=some (.int 100000000000000000000000000000000000000000000000000000000000):=yW (by decide) (by decide) (by decide +kernel);have x0:=zaw (f 1) (show(100000000000000000000000000000000000000000000000000000000000:Int)≠0 by decide);have x1:=zax (f 1) (show(0:Int)<100000000000000000000000000000000000000000000000000000000000 by decide);have dx:dS (.int (f 1)) (.int 100000000000000000000000000000000000000000000000000000000000)=some (.int (f 1%100000000000000000000000000000000000000000000000000000000000)):=bB (by decide);generalize f 1%100000000000000000000000000000000000000000000000000000000000=x at x0 x1 dx;have y0:=zaw (f 1) (show(4:Int)≠0 by decide);have y1:=zax (f 1) (show(0:Int)<4 by decide);have dy:dS (.int (f 1)) (.int 4)=some (.int (f 1%4)):=bB (by decide);generalize f 1%4=y at y0 y1 dy;have m1:b5 (.int 2) (.int x)=some (.int (2*x)):=c8 (by decide +kernel) (by decide +kernel) (by lia) (by lia);have m2:b5 (.int 2) (.int y)=some (.int (2*y)):=c8 (by decide +kernel) (by decide +kernel) (by lia) (by lia)
 suffices h:∃d,fS [.lst (ns.map .int)]=some d/\∃(M c:Int) (n:Nat) (rs:List Ro) (ms:List Mk),d=.tup [.int M,.lst (cQ c n),.lst (rs.map bG),.lst (ms.map bP)]/\(3<=M/\M<10^60/\M%2=1)/\(1<=n/\n<=6)/\(rs.length<=12/\∀r∈rs,BR (n:Int) r)/\ms.length<=5/\∀m∈ms,OkM (n:Int) 7 m by
  obtain⟨d,e,M,c,n,rs,ms,rfl,h⟩:=h;exact⟨M,c,n,rs,ms,e,h⟩
 refine dJ ?_;unfold oH;rw[aF (aN (d:=.int (3+2*x)) (by simp_all[aK,f1,pw,dx,m1]))];refine uZ (λρ=>∃M:Int,ρ=[some (.lst (ns.map .int)),some (.int M),none,none,none,none]/\3<=M/\M<10^60/\M%2=1) ?_ ?_
 ·by_cases h:f 0%4=0
  ·exact⟨_,by simp_all[aK,f0,f1,bB (i:=f 0),h,dy,m2],3+2*y,rfl,by lia,by lia,by lia⟩
  ·exact⟨_,by simp_all[aK,f0,bB (i:=f 0),h],3+2*x,rfl,by lia,by lia,by lia⟩
 rintro ρ ⟨M,rfl,F,q,G⟩;have v0:=zaw (f 2) (show(4:Int)≠0 by decide);have v1:=zax (f 2) (show(0:Int)<4 by decide);rw[aF (aN (d:=.int (1+f 2%4)) (by simp_all[f2,bB]))];refine uZ (λρ=>∃many:Int,ρ=[some (.lst (ns.map .int)),some (.int M),some (.int many),none,none,none]/\1<=many/\many<=6) ?_ ?_
 ·by_cases h:f 2/4%8=1
  ·exact⟨_,by simp_all[f2,dB,bB,h],6,rfl,by decide,by decide⟩
  ·exact⟨_,by simp_all[f2,dB,bB,h],1+f 2%4,rfl,by lia,by lia⟩
 rintro ρ ⟨many,rfl,B,z⟩;obtain⟨ss,es,hl,hs⟩:=wD (ns:=ns) F q ⟨B,z⟩;obtain⟨rs,er,hr,ac⟩:=wV (ns:=ns) F q ⟨B,z⟩ hl hs;obtain⟨ms,em,hm,ad⟩:=wO (ns:=ns) F q ⟨B,z⟩ hl hs;obtain⟨N,J,e2,Y,ab,W⟩:=rX (cell:=f 29) F q hr ac hm ad;rw[aF (aN (d:=.lst (ss.map fQ)) (by simp_all[es]))];rw[aF (aN (d:=.lst (rs.map bG)) (by simp_all[er]))];have en:=mM (c:=f 30) (many:=many) (by lia) z;have ec:((many.toNat:Nat):Int)=many:=by lia
 refine⟨_,?_,M,f 30,many.toNat,N,J,rfl,⟨F,q,G⟩,by lia,by rw[ec];exact Y,ab,by rw[ec];exact W⟩;rw[aF (ρ':=[some (.lst (ns.map .int)),some (.int M),some (.int many),some (.lst (ss.map fQ)),some (.lst (N.map bG)),some (.lst (J.map bP))]) (by simp_all[af,em,e2,kU])];simp_all[aa,en,cQ]
theorem nG(h:∃ρ,f (aK n ds)=some (.nx ρ)):bA n f ds=some .non:=by
 obtain⟨ρ,e⟩:=h;exact UE e
theorem BD(q:f ρ=some items)(I:Nat->cY->Prop)(h0:I 0 ρ)(hs:∀i x ρ,items[i]?=some x->I i ρ->∃ρ',turn g b x ρ=some (.nx ρ')/\I (i+1) ρ'):∃ρ',jV f g b ρ=some (.nx ρ'):=by
 obtain⟨ρ',e,_⟩:=fY (g:=g) (b:=b) I h0 hs;exact⟨ρ',by rw[q_for,q,aA];exact e⟩
theorem FV{f:Lv}{g:Gv}{b rest:Sv}{ρ:cY}{items:List D}(B:f ρ=some items)(I:Nat->cY->Prop)(h0:I 0 ρ)(hs:∀i x ρ,items[i]?=some x->I i ρ->∃ρ',turn g b x ρ=some (.nx ρ')/\I (i+1) ρ')(k:∀ρ',I items.length ρ'->∃q,rest ρ'=some (.nx q)):∃ρ',bD (jV f g b) rest ρ=some (.nx ρ'):=by
 obtain⟨ρ',e,i⟩:=fY (g:=g) (b:=b) I h0 hs;obtain⟨q,z⟩:=k ρ' i;exact⟨q,by rw[aF (ρ':=ρ') (by rw[q_for,B,aA];exact e)];exact z⟩
theorem L3(B:3<=M)(q:M<10^60)(z:M%2=1):CV [.int M]=some (.int M):=by
 refine aM ?_;have pw:BO (.int 10) (.int 60)=some (.int (10^60)):=yW (by decide) (by decide) (by decide +kernel);have a:¬ M<3:=by lia
 have b:¬ 10^60<M:=by lia
 unfold CG;simp only[Int.reducePow]at pw b
 ac_rfl
theorem pF(h0:0<=p)(h:p<=10^30):jI [.int p]=some (.bl true):=by
 refine aM ?_;have pw:BO (.int 10) (.int 30)=some (.int (10^30)):=yW (by decide) (by decide) (by decide +kernel);simp only[Int.reducePow]at pw h;simp_all[oF,aK,fZ,pw,h0,h]
theorem BK(h:0<M):vV [.int M,.int n]=some (.int (n%M)):=by
 refine aM ?_;simp_all[XF,aK,bB h]
open Classical in
theorem xY(x:Str):∀l:List Str,(l.map D.str).any (λd=>decide (d=.str x))=l.contains x
 | []=>rfl
 | y::l=>by
  rw[zak,zbA,xY x l,List.contains_cons];congr 1;by_cases h:y=x
  ·subst h;simp[-zad,-zae,aA,aD]
  ·have h2:¬ x=y:=λz=>h z.symm
   have q:¬ D.str y=D.str x:=λz=>h (by injection z)
   rw[decide_eq_false q]
   ac_rfl
theorem all_strs:∀l:List Str,(l.map D.str).all lN=true
 | []=>rfl
 | _::l=>by rw[zak,zcG,all_strs l];rfl
theorem MS(x:Str)(l:List Str):F4 (.str x) (.lst (l.map D.str))=some (.bl (l.contains x)):=by
 show X9 (.str x) (.lst (l.map D.str))=_;unfold X9 BH;dsimp only;rw[if_pos ⟨rfl,all_strs l⟩,xY];rfl
def KZ(c:Int)(n:Nat):List Str:=(zaA n).map λ(k:Nat)=>f7 c (k:Int)
theorem S4(c:Int)(n:Nat):cQ c n=(KZ c n).map D.str:=by unfold cQ KZ;rw[zaQ];rfl
theorem sA(h1:1<=n)(Y:n<=6):i4 [.lst (cQ c n)]=some .non:=by
 refine nG ?_;unfold iX;have hz:aX n=true:=decide_eq_true (by lia);have a:¬ (n:Int)<1:=by lia
 have b:¬ 6<(n:Int):=by lia
 rw[aF (ρ':=aK 3 [.lst (cQ c n)]) (by simp_all[aK,g7,a,b])];refine BD (items:=fM 0 (cQ c n)) (by ac_rfl) (λi ρ=>∃F G,ρ=[some (.lst (cQ c n)),F,G]) ⟨none,none,rfl⟩ ?_;rintro i x ρ N ⟨F,G,rfl⟩;obtain⟨y,z,rfl⟩:=iJ N;have hi:i<n:=by have:=(List.getElem?_eq_some_iff.mp z).1;rw[g7]at this;exact this
 have U:y=.str (f7 c (i:Int)):=by
  unfold cQ at z;rw[zaB,List.getElem?_range hi]at z;exact(zaI z).symm
 subst U;have J:=tM (x:=f7 c (i:Int)) (by have:=(AW c (i:Int)).2;lia);rw[OX (by lia) (by lia)]at J;have ct:=(qU (w:=cQ c n) (c:=(i:Int)) (by lia) (by rw[g7];lia)).1;have tk:(cQ c n).take i=(KZ c i).map D.str:=by
  rw[<- S4];unfold cQ;rw[<- List.map_take,List.take_range,Nat.min_eq_left (by lia)]
 have M:(KZ c i).contains (f7 c (i:Int))=false:=by
  rw[<- zdF,List.contains_iff_mem];intro W;obtain⟨k,B,e⟩:=List.mem_map.mp W;have B:=List.mem_range.mp B;have:=SL (c:=c) (k:=(k:Int)) (m:=(i:Int)) (by lia) (by lia) (by lia) (by lia) e
  lia
 have q:=MS (f7 c (i:Int)) (KZ c i);rw[M]at q;rw[zdc];refine⟨[some (.lst (cQ c n)),some (.int (i:Int)),some (.str (f7 c (i:Int)))],?_,_,_,rfl⟩;simp_all[turn,J,ct,tk,q]
noncomputable def red(M:Int)(r:Ro):Ro:=⟨r.j,r.k,r.a%M,r.b%M,r.p⟩
theorem AI{M:Int}{n:Nat}{rs:List Ro}(h3:3<=M)(hl:rs.length<=12)(N:∀r∈rs,BR (n:Int) r):oJ [.int M,.int (n:Int),.lst (rs.map bG)]=some (.tup ((rs.map (red M)).map bG)):=by
 have Mp:0<M:=by lia
 have hz:aX rs.length=true:=decide_eq_true (by lia);have b:(rs.length:Int)<=12:=by lia
 refine aM ?_;unfold pR;rw[aF (ρ':=aK 9 [.int M,.int (n:Int),.lst (rs.map bG)]) (by simp_all[aK,b])];rw[aF (aN (d:=.lst []) (by simp[-zad,-zae,aA,aD]))];refine c7 (items:=rs.map bG) (by ac_rfl) (λi ρ=>∃z o5 o6 o7 o8,ρ=[some (.int M),some (.int (n:Int)),some (.lst (rs.map bG)),some (.lst (((rs.take i).map (red M)).map bG)),z,o5,o6,o7,o8]) ⟨none,none,none,none,none,by ac_rfl⟩ ?_ ?_
 ·rintro i x ρ F ⟨z,o5,o6,o7,o8,rfl⟩
  rw[zaB]at F;obtain⟨r,q,rfl⟩:=map_some F;obtain⟨⟨W,J,U⟩,Y,G,_⟩:=N r (zaX q);have vp:=pF Y G;have hi:i<rs.length:=(List.getElem?_eq_some_iff.mp q).1;have B:aX (min i rs.length)=true:=decide_eq_true (by lia);refine⟨[some (.int M),some (.int (n:Int)),some (.lst (rs.map bG)),some (.lst (((rs.take (i+1)).map (red M)).map bG)),some (.int r.j),some (.int r.k),some (.int r.a),some (.int r.b),some (.int r.p)],?_,_,_,_,_,_,rfl⟩;rw[zbW,q];simp_all[turn,bG,red,W,J,U,vp,BK Mp,B,nF]
 ·rintro ρ ⟨z,o5,o6,o7,o8,rfl⟩
  rw[zao,zcT]
  ac_rfl
theorem jZ{n:Nat}{k:List Int}(h:k.length=n)(h2:∀e∈k,0<=e/\e<=2):eK [.int (n:Int),tupI k]=some .non:=by
 refine nG ?_;unfold eL;rw[aF (ρ':=aK 3 [.int (n:Int),tupI k]) (by simp_all[aK,tupI,h])];refine BD (items:=k.map .int) (by ac_rfl) (λi ρ=>∃o,ρ=[some (.int (n:Int)),some (tupI k),o]) ⟨none,rfl⟩ ?_;rintro i x ρ q ⟨o,rfl⟩;rw[zaB]at q;obtain⟨e,z,rfl⟩:=map_some q;have:=h2 e (zaX z);exact⟨[some (.int (n:Int)),some (tupI k),some (.int e)],by simp_all[turn,show ¬ e<0 by lia,show ¬ 8<e by lia],_,rfl⟩
theorem tK{M:Int}(h0:0<M){ρ1 ρ2:Option D}:∀(qs:List My.Tm) (o1 o2:Option D),bR (b7 2 (aR (aL 0) (aR (aL 1) cC))) (eJ (aZ DS (aP vV (aC (aB 2) (aC (aB 1) aY))) (eC (.int 0)))) (iC (aC (aB 0) (aC (aP vV (aC (aB 2) (aC (aB 1) aY))) aY))) (qs.map bN) [o1,o2,some (.int M)]=some ((My.bW M qs).map bN)
 | [],o1,o2=>rfl
 | t::qs,o1,o2=>by
  have ih:=tK h0 (ρ1:=ρ1) (ρ2:=ρ2) qs (some (tupI t.1)) (some (.int t.2));rw[zak,bR];by_cases e:t.2%M=0
  ·simp[-zad,-zae,aA,aD,bN,BK h0,e,My.bW]at ih ⊢
   exact ih
  ·simp[-zad,-zae,aA,aD,bN,BK h0,e,My.bW]at ih ⊢
   rw[ih]
   ac_rfl
theorem DV{q:Type}(l:List (List Int×q)):(bJ l).length=l.length:=(cU l).length_eq
theorem iE{M:Int}{cs:List My.Tm}(h0:0<M)(h:cs.length<64):d5 [.int M,.dT (cs.map kD)]=some (.tup ((My.bW M (bJ cs)).map bN)):=by
 refine aM ?_;have e:=tK h0 (ρ1:=none) (ρ2:=none) (bJ cs) none none;have hz:aX (bJ cs).length=true:=decide_eq_true (by rw[DV];lia);simp_all[sQ,aK,zZ h,nW,e,hz]
theorem V_form{M:Int}{n:Nat}{ts:List My.Tm}(h0:0<M)(W:n=1\/n=2)(hl:ts.length<=7)(U:∀t∈ts,OkT n t):rB [.int M,.int (n:Int),.lst (ts.map bN)]=some (.tup ((My.bW M (bJ (My.bS ts))).map bN)):=by
 refine aM ?_;unfold JR;rw[aF (ρ':=aK 6 [.int M,.int (n:Int),.lst (ts.map bN)]) (by rcases W with rfl|rfl <;> simp_all[aK])];rw[aF (ρ':=[some (.int M),some (.int (n:Int)),some (.lst (ts.map bN)),some (.dT []),none,none]) (by ac_rfl)];refine c7 (items:=ts.map bN) (by simp[-zad,-zae,aA,aD]) (λi ρ=>∃B o5,ρ=[some (.int M),some (.int (n:Int)),some (.lst (ts.map bN)),some (.dT ((My.bS (ts.take i)).map kD)),B,o5]) ⟨none,none,rfl⟩ ?_ ?_
 ·rintro i x ρ F ⟨B,o5,rfl⟩
  rw[zaB]at F;obtain⟨t,J,rfl⟩:=map_some F;obtain⟨N,Y,_⟩:=U t (zaX J);have es:My.bS (ts.take (i+1))=My.k4 (My.bS (ts.take i)) t:=by rw[zbW,J];exact My.EW _ _
  have q:(My.bS (ts.take i)).length<=1000000:=by
   have:=(My.jP (ts.take i)).1;rw[zcX]at this
   lia
  have G:=jZ N Y;refine⟨[some (.int M),some (.int (n:Int)),some (.lst (ts.map bN)),some (.dT ((My.bS (ts.take (i+1))).map kD)),some (tupI t.1),some (.int t.2)],?_,_,_,rfl⟩;have z:=CL (cs:=My.bS (ts.take i)) t.1 ((My.look (My.bS (ts.take i)) t.1).getD 0+t.2) q;cases e:My.look (My.bS (ts.take i)) t.1 with
  | none=>simp[-zad,-zae,aA,aD,turn,bN,G,e,es,My.k4]at z ⊢;simp_all[z]
  | some v=>simp[-zad,-zae,aA,aD,turn,bN,G,e,es,My.k4]at z ⊢;simp_all[z]
 ·rintro ρ ⟨B,o5,rfl⟩
  have hs:(My.bS ts).length<64:=by have:=(My.jP ts).1;lia
  rw[zao,zcT];simp_all[iE h0 hs]
theorem C8:∀(k:List Int) (m:Int),(∀e∈k,0<=e/\e<=2)->m<=2->k.foldl (λm y=>if y>m then y else m) m<=2
 | [],m,_,h=>h
 | e::k,m,h,hm=>by
  rw[zcK];refine C8 k _ (λx q=>h x (zav _ q)) ?_;have:=(h e (zas ..)).2;split <;> lia
theorem LH(h:∀e∈k,0<=e/\e<=2)(q:d<=2):My.lQ d k<=2:=by
 cases k with
 | nil=>exact q
 | cons e k=>exact C8 k e (λx z=>h x (zav _ z)) (h e (zas ..)).2
def UZ(M:Int)(ts:List My.Tm):D:=.tup ((My.bW M (bJ (My.bS ts))).map bN)
theorem wI(h0:0<M)(W:n=1\/n=2)(G:ts.length<=7)(F:∀t∈ts,OkT n t):l9 [.int M,.int (n:Int),.lst (ts.map bN)]=some (UZ M ts):=by
 have U:=V_form h0 W G F;refine aM ?_;unfold mL;rw[aF (aN (d:=UZ M ts) (by simp_all[aK,U,UZ]))];refine c7 (items:=ts.map bN) (by ac_rfl) (λi ρ=>∃q o5 o6,ρ=[some (.int M),some (.int (n:Int)),some (.lst (ts.map bN)),some (UZ M ts),q,o5,o6]) ⟨none,none,none,rfl⟩ ?_ ?_
 ·rintro i x ρ B ⟨q,o5,o6,rfl⟩
  rw[zaB]at B;obtain⟨t,J,rfl⟩:=map_some B;obtain⟨z,Y,_⟩:=F t (zaX J);refine⟨[some (.int M),some (.int (n:Int)),some (.lst (ts.map bN)),some (UZ M ts),q,some (tupI t.1),some (.int t.2)],?_,_,_,_,rfl⟩;have N:yT [tupI t.1]=some (.int (My.lQ 0 t.1)):=by
   cases hk:t.1 with
   | nil=>rw[hk]at z;simp[-zad,-zae,aA,aD]at z;lia
   | cons e k=>exact q_max1
  have ml:=LH Y (d:=0) (by decide);simp_all[-q_max1,turn,bN,N,show ¬ 2<My.lQ 0 t.1 by lia]
 ·rintro ρ ⟨q,o5,o6,rfl⟩
  simp[-zad,-zae,aA,aD]
theorem NC{κ:Type}[DecidableEq κ](l:List (κ×D))(k:κ)(e:D):bY (putD l k e) k=some e:=by
 unfold bY putD;split
 ·rename_i h
  induction l with
  | nil=>simp[-zad,-zae,aA,aD]at h
  | cons p l ih=>
   by_cases q:p.1=k
   ·simp_all[q]
   ·rw[zbA,decide_eq_false q,Bool.false_or]at h
    rw[zak,if_neg q,List.find?_cons_of_neg (by simpa using q)];exact ih h
 ·rename_i h
  rw[zfi];have:l.find? (λp=>decide (p.1=k))=none:=by
   rw[List.find?_eq_none];intro p q z;exact h (List.any_eq_true.mpr ⟨p,q,z⟩)
  rw[this];simp[-zad,-zae,aA,aD]
theorem uL{κ:Type}[DecidableEq κ]{l:List (κ×D)}{k:κ}{e:D}{P:D->Prop}(h:∀p∈l,P p.2)(F:P e):∀p∈putD l k e,P p.2:=by
 intro p B;unfold putD at B;split at B
 ·obtain⟨q,G,rfl⟩:=List.mem_map.mp B
  split
  ·exact F
  ·exact h q G
 ·rcases List.mem_append.mp B with z|z
  ·exact h p z
  ·rw[List.mem_singleton.mp z];exact F
theorem u3{κ:Type}[DecidableEq κ](l:List (κ×D))(k:κ)(e:D):(putD l k e).length<=l.length+1:=by
 unfold putD;split
 ·rw[zao];lia
 ·rw[zbk];simp[-zad,-zae,aA,aD]
theorem NM{κ:Type}[DecidableEq κ]{l:List (κ×D)}{k:κ}(h:bY l k=some d):∃p∈l,p.2=d:=by
 obtain⟨p,q,e⟩:=map_some h;exact⟨p,zfm q,e⟩
def gA(M:Int)(m:Mk):D:=.tup [.str m.nm,tupI m.tk,.int m.gv,UZ M m.ts,.int m.p]
theorem rZ{M:Int}{ms:List Mk}(hl:ms.length<=5):iV [.lst (ms.map (gA M))]=some .non:=by
 refine nG ?_;unfold i5;rw[aF (aN (d:=.dT []) (by simp[-zad,-zae,aA,aD]))];refine BD (items:=ms.map (gA M)) (by ac_rfl) (λi ρ=>∃(ys:List (List Key×D)) (W N G o5 o6 o7:Option D),ρ=[some (.lst (ms.map (gA M))),some (.dT ys),W,N,G,o5,o6,o7]/\ys.length<=i/\∀p∈ys,∃c:Int,p.2=.int c/\c<=(i:Int)) ⟨[],none,none,none,none,none,none,by ac_rfl,zan _,λ_ h=>nomatch h⟩ ?_;rintro i x ρ J ⟨ys,W,N,G,o5,o6,o7,rfl,hy,U⟩;rw[zaB]at J;obtain⟨m,hm,rfl⟩:=map_some J;have hi:i<ms.length:=(List.getElem?_eq_some_iff.mp hm).1;have hz:aX ys.length=true:=decide_eq_true (by lia);have q:y4 (.tup [.str m.nm,.int (m.tk.length:Int)])=some [.inr m.nm,.inl (m.tk.length:Int)]:=rfl;generalize hk:([.inr m.nm,.inl (m.tk.length:Int)]:List Key)=k at q;have lk:b6 (.dT ys) (.tup [.str m.nm,.int (m.tk.length:Int)])=some (bY ys k):=by
  show(y4 (.tup [.str m.nm,.int (m.tk.length:Int)])).map _=_;rw[q];rfl
 have B:∃c:Int,((bY ys k).getD (.int 0))=.int c/\c<=(i:Int):=by
  cases hv:bY ys k with
  | none=>exact⟨0,rfl,by lia⟩
  | some d=>
   obtain⟨p,z,rfl⟩:=NM hv;exact U p z
 obtain⟨c,Y,ab⟩:=B;have pt:sH (.dT ys) (.tup [.str m.nm,.int (m.tk.length:Int)]) (.int (c+1))=some (.dT (putD ys k (.int (c+1)))):=by
  unfold _root_.P.sH;dsimp only;rw[q,aA,if_pos hz]
 have F:b6 (.dT (putD ys k (.int (c+1)))) (.tup [.str m.nm,.int (m.tk.length:Int)])=some (some (.int (c+1))):=by
  show(y4 (.tup [.str m.nm,.int (m.tk.length:Int)])).map _=_;rw[q,aD,NC]
 refine⟨[some (.lst (ms.map (gA M))),some (.dT (putD ys k (.int (c+1)))),some (.str m.nm),some (tupI m.tk),some (.int m.gv),some (UZ M m.ts),some (.int m.p),some (.tup [.str m.nm,.int (m.tk.length:Int)])],?_,_,_,_,_,_,_,_,rfl,zbd (u3 _ _ _) (by lia),uL (P:=λd=>∃c:Int,d=.int c/\c<=((i+1:Nat):Int)) (λp z=>by obtain⟨c,e,h⟩:=U p z;exact⟨c,e,by lia⟩) ⟨c+1,rfl,by lia⟩⟩;simp_all[turn,gA,tupI,lk,Y,pt,F,show ¬ 6<c+1 by lia]
theorem uF(ok:OkM (n:Int) 7 m):j5 [.int (n:Int),.str m.nm,tupI m.tk,.int m.gv,.int m.p]=some .non:=by
 have G:=tM (x:=m.nm) (by have:=ok.nl;lia);rw[ok.nm]at G;have J:=pF ok.pr.1 ok.pr.2;have hz:aX (m.tk.length+1)=true:=by rcases ok.tk with⟨t,e⟩|⟨t,u,e⟩ <;> rw[e] <;> rfl
 have q:(m.tk.length:Int)=1\/(m.tk.length:Int)=2:=by rcases ok.tk with⟨t,e⟩|⟨t,u,e⟩ <;> rw[e] <;> simp[-zad,-zae,aA,aD]
 refine nG ?_;unfold j4;rw[aF (ρ':=aK 6 [.int (n:Int),.str m.nm,tupI m.tk,.int m.gv,.int m.p]) (by ac_rfl)];rw[aF (ρ':=aK 6 [.int (n:Int),.str m.nm,tupI m.tk,.int m.gv,.int m.p]) (by rcases q with e|e <;> simp_all[aK,tupI,e])];have B:kS (aZ bX (aP kR (aC (aB 2) aY)) (F1 (aC (aB 3) aY))) (aK 6 [.int (n:Int),.str m.nm,tupI m.tk,.int m.gv,.int m.p])=some ((m.tk++[m.gv]).map .int):=by simp_all[aK,tupI,kR,hz]
 refine FV (items:=(m.tk++[m.gv]).map .int) B (λi ρ=>∃o,ρ=[some (.int (n:Int)),some (.str m.nm),some (tupI m.tk),some (.int m.gv),some (.int m.p),o]) ⟨none,rfl⟩ ?_ ?_
 ·rintro i x ρ z ⟨o,rfl⟩
  rw[zaB]at z;obtain⟨e,F,rfl⟩:=map_some z;have b:0<=e/\e<(n:Int):=OS (P:=λe=>0<=e/\e<(n:Int)) ok.tb ok.gv e (zaX F);exact⟨[some (.int (n:Int)),some (.str m.nm),some (tupI m.tk),some (.int m.gv),some (.int m.p),some (.int e)],by simp_all[turn,fZ,b.1,b.2],_,rfl⟩
 ·rintro ρ ⟨o,rfl⟩
  exact⟨[some (.int (n:Int)),some (.str m.nm),some (tupI m.tk),some (.int m.gv),some (.int m.p),o],by ac_rfl⟩
theorem zG{M:Int}{n:Nat}{ms:List Mk}(Y:3<=M)(N:ms.length<=5)(J:∀m∈ms,OkM (n:Int) 7 m):oU [.int M,.int (n:Int),.lst (ms.map bP)]=some (.tup (ms.map (gA M))):=by
 have W:0<M:=by lia
 have b:(ms.length:Int)<=16:=by lia
 refine aM ?_;unfold pK;rw[aF (ρ':=aK 9 [.int M,.int (n:Int),.lst (ms.map bP)]) (by simp_all[aK,b])];rw[aF (aN (d:=.lst []) (by simp[-zad,-zae,aA,aD]))];refine c7 (items:=ms.map bP) (by ac_rfl) (λi ρ=>∃q o5 o6 o7 o8,ρ=[some (.int M),some (.int (n:Int)),some (.lst (ms.map bP)),some (.lst ((ms.take i).map (gA M))),q,o5,o6,o7,o8]) ⟨none,none,none,none,none,by ac_rfl⟩ ?_ ?_
 ·rintro i x ρ F ⟨q,o5,o6,o7,o8,rfl⟩
  rw[zaB]at F;obtain⟨m,B,rfl⟩:=map_some F;have ok:=J m (zaX B);have hi:i<ms.length:=(List.getElem?_eq_some_iff.mp B).1;have z:aX (min i ms.length)=true:=decide_eq_true (by lia);have G:=uF ok;have U:=wI (M:=M) (n:=m.tk.length) (ts:=m.ts) W (by rcases ok.tk with⟨t,e⟩|⟨t,u,e⟩ <;> rw[e] <;> simp[-zad,-zae,aA,aD]) ok.tl ok.tt;refine⟨[some (.int M),some (.int (n:Int)),some (.lst (ms.map bP)),some (.lst ((ms.take (i+1)).map (gA M))),some (.str m.nm),some (tupI m.tk),some (.int m.gv),some (.lst (m.ts.map bN)),some (.int m.p)],?_,_,_,_,_,_,rfl⟩;rw[zbW,B];simp only[tupI]at G;simp_all[turn,bP,gA,tupI,G,U,z,jR]
 ·rintro ρ ⟨q,o5,o6,o7,o8,rfl⟩
  rw[zao,zcT];simp_all[jR,rZ N]
def f9(M c:Int)(n:Nat)(rs:List Ro)(ms:List Mk):D:=.tup [.int M,.tup (cQ c n),.tup ((rs.map (red M)).map bG),.tup (ms.map (gA M))]
theorem QM{M c:Int}{n:Nat}{rs:List Ro}{ms:List Mk}(q:3<=M/\M<10^60/\M%2=1)(F:1<=n/\n<=6)(z:rs.length<=12/\∀r∈rs,BR (n:Int) r)(J:ms.length<=5)(G:∀m∈ms,OkM (n:Int) 7 m):AR [.int M,.lst (cQ c n),.lst (rs.map bG),.lst (ms.map bP)]=some (f9 M c n rs ms):=by
 have U:=L3 q.1 q.2.1 q.2.2;have W:=sA (c:=c) F.1 F.2;have B:=AI q.1 z.1 z.2;have N:=zG q.1 J G;refine aM ?_;simp[-zad,-zae,aA,aD,IZ,aK,U,W,B,N,g7,jR,f9]at B ⊢
theorem wC(hB:aH bk (.int 2)=some (.tup (rs.map bG)))(g:GR M many rs)(hj:0<=j/\j<=100)(hk:0<=k/\k<=100):∃d,cV [bk,.int j,.int k]=some d/\((d=.non/\¬ Rch rs j k)\/∃w,d=tupI w/\IsF rs k j w):=by
 refine dJ ?_;unfold mB;have e0:(u6 (aB 2) (iC aY)) (aK 7 [bk,.int j,.int k])=some (.dK ([(k,[])].map fK)):=by ac_rfl
 rw[aF (aN e0)];have rd:=oV (a:=k-1) (b:=j-1) (by lia) (by lia) (by lia) (by lia);have N:k-1-(j-1)=k-j:=by lia
 rw[N]at rd;refine eD (items:=aV (k-1) (-1) (k-j).toNat) (by ac_rfl) (λi ρ=>∃ds o4 o5 o6,ρ=[some (bk),some (.int j),some (.int k),some (.dK (ds.map fK)),o4,o5,o6]/\FI rs k (k-(i:Int)) ds/\ds.length<=1+i*13) ⟨[(k,[])],none,none,none,by ac_rfl,by simpa using FI.start rs k,by simp[-zad,-zae,aA,aD]⟩ ?_ ?_
 ·rintro i x ρ hx ⟨ds,o4,o5,o6,rfl,G,hz⟩
  obtain⟨ao,rfl⟩:=bI hx;generalize hc:k-1+(i:Int) * -1=c;have ec:k-(i:Int)=c+1:=by lia
  rw[ec]at G;have inner:=fY (g:=b7 2 (aR (aL 5) (aR (aL 6) cC))) (b:=(nT (sG (eJ (aZ yY (aZ aH (aB 6) (eC (.int 0))) (aB 4))) (sG (eJ (aZ F4 (aZ aH (aB 6) (eC (.int 1))) (aB 3))) (eJ (aZ kK (aB 4) (aB 3))))) (vT 3 (aB 4) (aZ bX (iC (aC (aB 5) aY)) (aZ aH (aB 3) (aZ aH (aB 6) (eC (.int 1)))))) vY))
   (items:=fM 0 (rs.map bG)) (ρ:=[some (bk),some (.int j),some (.int k),some (.dK (ds.map fK)),some (.int c),o5,o6])
   (λt ρ => ∃q W U, ρ = [some (bk), some (.int j), some (.int k), some (.dK (q.map fK)), some (.int c), W, U] /\ FJ rs k c t q /\ q.length <= ds.length+t) ⟨ds, o5, o6, rfl, G.go, zan _⟩ (by
    rintro t x ρ hx ⟨q,W,U,rfl,z,F⟩;obtain⟨y,hy,rfl⟩:=iJ hx;rw[zaB]at hy;obtain⟨r,B,rfl⟩:=map_some hy;have ht:t<rs.length:=(List.getElem?_eq_some_iff.mp B).1;have hr:eI rs (t:Int)=some r:=by unfold eI;rw[if_pos (by lia)];simpa using B
    rw[zdc];have lk:=u5 q r.k;have lc:=u5 q c;have Y:F4 (.int r.k) (.dK (q.map fK))=some (.bl (bO q r.k).isSome):=by
     show((b6 (.dK (q.map fK)) (.int r.k)).map (·.isSome)).map D.bl=_;rw[lk];cases bO q r.k <;> rfl
    have i2:kK (.int c) (.dK (q.map fK))=some (.bl (!(bO q c).isSome)):=by
     show((b6 (.dK (q.map fK)) (.int c)).map (·.isSome)).map (λb=>D.bl (!b))=_;rw[lc];cases bO q c <;> rfl
    by_cases hn:r.j=c/\(bO q r.k).isSome=true/\bO q c=none
    ·obtain⟨h1,h2,J⟩:=hn
     obtain⟨w,hw⟩:=Option.isSome_iff_exists.mp h2;have gl:=AV g (z.it _ _ hw).2.2.way;have it:aH (.dK (q.map fK)) (.int r.k)=some (tupI w):=by
      show(b6 (.dK (q.map fK)) (.int r.k)).join=_;rw[lk,hw];rfl
     have ad:=HC (v:=[(t:Int)]) (w:=w) (by simp[-zad,-zae,aA,aD];have:=(z.it _ _ hw).1;have:=(g.jk r (dZ hr));lia);have pt:=QL (ds:=q) (x:=c) (w:=(t:Int)::w) J (by have:=g.len;lia);refine⟨[some (bk),some (.int j),some (.int k),some (.dK ((q++[(c,(t:Int)::w)]).map fK)),some (.int c),some (.int (t:Int)),some (bG r)],?_,_,_,_,rfl,z.put (by lia) hr h1 hw J,by simp[-zad,-zae,aA,aD];lia⟩;have tt:D.tup [.int (t:Int)]=tupI [(t:Int)]:=rfl;simp only[List.singleton_append]at ad;simp_all[-zbv,turn,FW,BJ,h1,Y,h2,i2,J,it,tt,ad,pt]
    ·refine⟨[some (bk),some (.int j),some (.int k),some (.dK (q.map fK)),some (.int c),some (.int (t:Int)),some (bG r)],?_,_,_,_,rfl,z.skip g hr hn,by lia⟩
     by_cases h1:r.j=c
     ·by_cases h2:(bO q r.k).isSome=true
      ·have J:(bO q c).isSome=true:=by
        cases e:bO q c with
        | none=>exact absurd ⟨h1,h2,e⟩ hn
        | some v=>rfl
       simp_all[turn,FW,BJ,h1,Y,h2,i2,J]
      ·simp_all[turn,FW,BJ,h1,Y,h2]
     ·simp_all[turn,FW,BJ,h1])
  obtain⟨ρ2,ef,q,W,U,rfl,z,F⟩:=inner;rw[lF,zao]at z F;refine⟨[some (bk),some (.int j),some (.int k),some (.dK (q.map fK)),some (.int c),W,U],?_,_,_,_,_,rfl,?_,by have:=g.len;lia⟩
  ·simp_all[turn,hB,ef]
  ·have:=z.done (by lia)
   have e2:k-((i+1:Nat):Int)=c:=by lia
   rw[e2];exact this
 ·rintro ρ' ⟨ds,o4,o5,o6,rfl,G,hz⟩
  rw[a8]at G;obtain⟨z1,z2⟩:=G.end g (j:=j) (by lia);have lj:=u5 ds j;cases e:bO ds j with
  | none=>exact⟨.non,by simp_all[lj,e],.inl ⟨rfl,z2 e⟩⟩
  | some w=>exact⟨tupI w,by simp_all[lj,e],.inr ⟨w,rfl,z1 w e⟩⟩
theorem GY(h:Rch rs j x):x=j\/∃m r,eI rs m=some r/\r.k=x/\Rch rs j r.j:=by
 obtain⟨w,hw⟩:=h;rcases List.eq_nil_or_concat w with rfl|⟨v,m,rfl⟩
 ·exact .inl (zaI hw).symm
 ·rw[List.concat_eq_append,lB]at hw
  obtain⟨e,z,hw⟩:=bind_some hw;obtain⟨r,q,hw⟩:=bind_some (show(eI rs m).bind (λr=>if r.j=e then gw rs r.k []else none)=some x from hw);split at hw
  ·rename_i hj
   exact .inr ⟨m,r,q,zaI hw,v,by rw[hj];exact z⟩
  ·cases hw
theorem IM(h:Rch rs j r.j)(q:eI rs m=some r):Rch rs j r.k:=by
 obtain⟨w,hw⟩:=h;exact⟨w++[m],LR hw q rfl⟩
theorem SJ{M:Int}{rs:List Ro}{i:Nat}{r:Ro}(h:rs[i]?=some r):eI (rs.map (red M)) (i:Int)=some (red M r):=by
 unfold eI;rw[if_pos (by lia),zb7,zaB,h];rfl
theorem SH{M:Int}{n:Nat}{rs:List Ro}(J:3<=M)(G:rs.length<=12)(B:∀r∈rs,BR (n:Int) r):GR M (n:Int) (rs.map (red M)):=by
 have z:0<M:=by lia
 refine⟨by rw[zao];exact G,λr h=>?_,λr h=>?_,λr h=>?_⟩ <;> obtain⟨q,F,rfl⟩:=List.mem_map.mp h
 ·exact(B q F).1
 ·exact⟨⟨zaw _ (zaU z),zax _ z⟩,zaw _ (zaU z),zax _ z⟩
 ·exact⟨(B q F).2.1,(B q F).2.2.1⟩
theorem NJ{K:Nat}{p:Int->Bool}{c:Int}{b:Bool}(h0:0<=c)(h:c<(K:Int)):sH (cN K p) (.int c) (.bl b)=some (cN K λx=>if x=c then b else p x):=by
 have:=LZ (K:=K) (f:=λx=>D.bl (p x)) (c:=c) (d:=.bl b) h0 h;refine Eq.trans this ?_;show some (D.lst _)=some (D.lst _);congr 2;refine zeE λx _=>?_
 show(if(x:Int)=c then D.bl b else D.bl (p x))=D.bl (if(x:Int)=c then b else p x);split <;> rfl
theorem FE{K:Nat}{p q:Int->Bool}(h:∀x:Int,0<=x->x<(K:Int)->p x=q x):cN K p=cN K q:=by
 unfold cN;congr 1;exact zeE λx z=>by rw[h (x:Int) (by lia) (by have:=List.mem_range.mp z;lia)]
open Classical in
def RT(rs:List Ro)(j x:Int):Bool:=decide (Rch rs j x)
theorem hJ:RT rs j x=true↔Rch rs j x:=by unfold RT;simp[-zad,-zae,aA,aD]
theorem v7{M:Int}{n:Nat}{rs:List Ro}(g:GR M (n:Int) (rs.map (red M)))(hn:n<=6):gK [.int (n:Int),.lst (rs.map bG)]=some (bC n (RT (rs.map (red M)))):=by
 have r1:=lE (show n<=1000000 by lia);have hz:aX n=true:=decide_eq_true (by lia);generalize hR:rs.map (red M)=R at g;have aj:∀r∈rs,0<=r.j/\r.j<r.k/\r.k<(n:Int):=λr h=>g.jk (red M r) (by rw[<- hR];exact List.mem_map.mpr ⟨r,h,rfl⟩)
 refine aM ?_;unfold mU;rw[aF (aN (d:=.lst []) (by simp[-zad,-zae,aA,aD]))];refine c7 (items:=aV 0 1 n) (by ac_rfl) (λi ρ=>∃o3 o4 o5 o6,ρ=[some (.int (n:Int)),some (.lst (rs.map bG)),some (.lst ((zaA i).map λ(j:Nat)=>cN n (RT R (j:Int)))),o3,o4,o5,o6]) ⟨none,none,none,none,by ac_rfl⟩ ?_ ?_
 ·rintro i x ρ B ⟨o3,o4,o5,o6,rfl⟩
  obtain⟨ax,rfl⟩:=bI B;have hI:(0:Int)+(i:Int)*1=(i:Int):=by lia
  rw[hI];have ag:bR (aL 0) BI (aZ yY (aB 0) (aB 1)) (aV 0 1 n) [none,some (.int (i:Int))]=some ((zaA n).map λ(k:Nat)=>D.bl (decide ((k:Int)=(i:Int)))):=by
   rw[xV];exact yM (K:=n) (F:=λk=>D.bl (decide (k=(i:Int)))) (λk _ _=>by simp[-zad,-zae,aA,aD]) (zaA n) none λk hk=>List.mem_range.mp hk
  have r2:dY [.int ((i:Int)+1),.int (n:Int)]=some (aV ((i:Int)+1) 1 ((n:Int)-((i:Int)+1)).toNat):=fE (by lia) (by lia) (by lia) (by lia);obtain⟨ρ',e,p,ai,W,rfl,G,J⟩:=fY (g:=aL 5) (b:=jV (kS (aB 1)) (aL 6) (nT (sG (eJ (aZ yY (aZ aH (aB 6) (eC (.int 1))) (aB 5))) (eJ (aZ aH (aB 4) (aZ aH (aB 6) (eC (.int 0)))))) (vT 4 (aB 5) (eC (.bl true))) vY)) (items:=aV ((i:Int)+1) 1 ((n:Int)-((i:Int)+1)).toNat)
   (ρ:=[some (.int (n:Int)),some (.lst (rs.map bG)),some (.lst ((zaA i).map λ(j:Nat)=>cN n (RT R (j:Int)))),some (.int (i:Int)),some (cN n λx=>decide (x=(i:Int))),o5,o6])
   (λt ρ => ∃(p:Int -> Bool) (o5 o6:Option D), ρ = [some (.int (n:Int)), some (.lst (rs.map bG)), some (.lst ((zaA i).map λ(j:Nat) => cN n (RT R (j:Int)))), some (.int (i:Int)), some (cN n p), o5, o6] /\ (∀x:Int, x<(i:Int)+1+(t:Int) -> (p x = true ↔ Rch R (i:Int) x)) /\ ∀x:Int, (i:Int)+1+(t:Int) <= x -> p x = false) ⟨_, o5, o6, rfl, λx B => by
    rw[decide_eq_true_eq];refine⟨λz=>by rw[z];exact Rch.refl R _,λz=>by have:=z.le g;lia⟩,λx B=>decide_eq_false (by lia)⟩ (by
   rintro t x ρ B ⟨p,o5,o6,rfl,G,J⟩;obtain⟨ao,rfl⟩:=bI B;generalize hk:(i:Int)+1+(t:Int)*1=kk;have ek:(i:Int)+1+(t:Int)=kk:=by lia
   rw[ek]at G J;have kn:kk<(n:Int):=by lia
   obtain⟨ρ',e,p',W,rfl,af,ak,ab⟩:=fY (g:=aL 6) (b:=(nT (sG (eJ (aZ yY (aZ aH (aB 6) (eC (.int 1))) (aB 5))) (eJ (aZ aH (aB 4) (aZ aH (aB 6) (eC (.int 0)))))) (vT 4 (aB 5) (eC (.bl true))) vY)) (items:=rs.map bG)
    (ρ:=[some (.int (n:Int)),some (.lst (rs.map bG)),some (.lst ((zaA i).map λ(j:Nat)=>cN n (RT R (j:Int)))),some (.int (i:Int)),some (cN n p),some (.int kk),o6])
    (λu ρ => ∃(p:Int -> Bool) (o6:Option D), ρ = [some (.int (n:Int)), some (.lst (rs.map bG)), some (.lst ((zaA i).map λ(j:Nat) => cN n (RT R (j:Int)))), some (.int (i:Int)), some (cN n p), some (.int kk), o6] /\ (∀x:Int, x<kk -> (p x = true ↔ Rch R (i:Int) x)) /\ (∀x:Int, kk<x -> p x = false) /\ (p kk = true ↔ ∃(m:Int) (r:Ro), m<(u:Int) /\ eI R m = some r /\ r.k = kk /\ Rch R (i:Int) r.j)) ⟨p, o6, rfl, G, λx B => J x (by lia), by
     rw[J kk (by lia)];refine⟨λz=>(nomatch z),λ⟨m,r,hm,N,_⟩=>?_⟩;have:=(lH N).1
     lia⟩ (by
    rintro u x ρ B ⟨p,o6,rfl,G,J,N⟩;rw[zaB]at B;obtain⟨r,ac,rfl⟩:=map_some B;have ra:eI R (u:Int)=some (red M r):=by rw[<- hR];exact SJ ac
    have b:=aj r (zaX ac);have skip:¬ (r.k=kk/\p r.j=true)->(p kk=true↔∃(m:Int) (r:Ro),m<((u+1:Nat):Int)/\eI R m=some r/\r.k=kk/\Rch R (i:Int) r.j):=λhn=>by
     rw[N];refine⟨λ⟨m,q,a,z⟩=>⟨m,q,by lia,z⟩,λ⟨m,q,a,U,Y,ae⟩=>?_⟩;by_cases em:m=(u:Int)
     ·subst em
      rw[ra]at U;cases U;exact absurd ⟨Y,(G r.j (by have:r.k=kk:=Y;lia)).mpr ae⟩ hn
     ·exact⟨m,q,by lia,U,Y,ae⟩
    by_cases h1:r.k=kk
    ·have rj:=rL (p:=p) b.1 (show r.j<(n:Int) by lia)
     by_cases h2:p r.j=true
     ·have rp:=NJ (p:=p) (c:=kk) (b:=true) (by lia) kn
      refine⟨[some (.int (n:Int)),some (.lst (rs.map bG)),some (.lst ((zaA i).map λ(j:Nat)=>cN n (RT R (j:Int)))),some (.int (i:Int)),some (cN n λx=>if x=kk then true else p x),some (.int kk),some (bG r)],?_,_,_,rfl,λx B=>?_,λx B=>?_,?_⟩
      ·simp_all[turn,BJ,FW,h1,rj,h2,rp]
      ·rw[if_neg (by lia)];exact G x B
      ·rw[if_neg (by lia)];exact J x B
      ·rw[if_pos rfl]
       exact⟨λ_=>⟨u,red M r,by lia,ra,h1,(G r.j (by lia)).mp h2⟩,λ_=>rfl⟩
     ·refine⟨[some (.int (n:Int)),some (.lst (rs.map bG)),some (.lst ((zaA i).map λ(j:Nat)=>cN n (RT R (j:Int)))),some (.int (i:Int)),some (cN n p),some (.int kk),some (bG r)],?_,_,_,rfl,G,J,skip λz=>h2 z.2⟩
      have am:p r.j=false:=by simpa using h2
      simp_all[turn,BJ,FW,h1,rj,am]
    ·refine⟨[some (.int (n:Int)),some (.lst (rs.map bG)),some (.lst ((zaA i).map λ(j:Nat)=>cN n (RT R (j:Int)))),some (.int (i:Int)),some (cN n p),some (.int kk),some (bG r)],?_,_,_,rfl,G,J,skip λz=>h1 z.1⟩
     simp_all[turn,BJ,h1])
   rw[zao]at ab;refine⟨[some (.int (n:Int)),some (.lst (rs.map bG)),some (.lst ((zaA i).map λ(j:Nat)=>cN n (RT R (j:Int)))),some (.int (i:Int)),some (cN n p'),some (.int kk),W],?_,p',_,_,rfl,λx B=>?_,λx B=>ak x (by lia)⟩
   ·simp_all[turn,e]
   ·by_cases ex:x=kk
    ·subst ex
     rw[ab];refine⟨λ⟨m,r,_,N,hk,z⟩=>by rw[<- hk];exact IM z N,λz=>?_⟩;rcases GY z with z|⟨m,r,N,hk,z⟩
     ·lia
     ·refine⟨m,r,?_,N,hk,z⟩
      have:=(lH N).2;rw[<- hR,zao]at this;exact this
    ·exact af x (by lia))
  rw[a8]at G J;have er:cN n p=cN n (RT R (i:Int)):=FE λx h0 h1=>by
   rw[zcV,hJ];exact G x (by lia)
  refine⟨[some (.int (n:Int)),some (.lst (rs.map bG)),some (.lst ((zaA (i+1)).map λ(j:Nat)=>cN n (RT R (j:Int)))),some (.int (i:Int)),some (cN n p),ai,W],?_,_,_,_,_,rfl⟩;have ah:aX i=true:=decide_eq_true (by lia);have ad:(D.lst ((zaA n).map λ(k:Nat)=>D.bl (decide ((k:Int)=(i:Int)))))=cN n λx=>decide (x=(i:Int)):=rfl
  rw[List.range_succ,zbv];simp only[zak,zb1];simp_all[-zbv,turn,r1,a8,hz,nW,ag,ad,r2,e,er,ah]
 ·rintro ρ ⟨o3,o4,o5,o6,rfl⟩
  rw[a8]
  ac_rfl
noncomputable def nE:List Int->List Int->List (Int×Int)
 | x::xs,y::ys=>(x,y)::nE xs ys
 | _,_=>[]
theorem tJ:∀(xs ys:List Int),iA (xs.map .int) (ys.map .int)=(nE xs ys).map λp=>D.tup [.int p.1,.int p.2]
 | [],_=>by cases ‹List Int› <;> rfl
 | _::_,[]=>rfl
 | x::xs,y::ys=>by
  show D.tup [.int x,.int y]::iA (xs.map .int) (ys.map .int)=_;rw[tJ xs ys];rfl
theorem yI{P Q:Int->Prop}:∀ {xs ys:List Int},(∀x∈xs,P x)->(∀y∈ys,Q y)->∀p∈nE xs ys,P p.1/\Q p.2
 | [],ys,_,_,p,h=>by cases ys <;> exact nomatch h
 | _::_,[],_,_,p,h=>nomatch h
 | x::xs,y::ys,hx,hy,p,h=>by
  rcases List.mem_cons.mp (show p∈(x,y)::nE xs ys from h)with rfl|z
  ·exact⟨hx x (zas ..),hy y (zas ..)⟩
  ·exact yI (λa q=>hx a (zav _ q)) (λa q=>hy a (zav _ q)) p z
def jW(R:List Ro)(ks tk:List Int):Bool:=decide (ks.length=tk.length) && (nE ks tk).all λp=>RT R p.1 p.2
theorem PH{M:Int}{ms:List Mk}{i:Int}(h0:0<=i)(h:i<(ms.length:Int)):∃m∈ms,dX (ms.map bP) i=some (bP m)/\dX (ms.map (gA M)) i=some (gA M m):=by
 obtain⟨j,rfl⟩:∃j:Nat,i=(j:Int):=⟨i.toNat,by lia⟩;have q:j<ms.length:=by lia
 exact⟨ms[j],zdz q,b8 (by simp_all[q]),b8 (by simp_all[q])⟩
theorem XE:aH (f9 M c n rs ms) (.int 2)=some (.tup ((rs.map (red M)).map bG)):=by unfold f9;rw[q_itT];exact at2
theorem XM:aH (f9 M c n rs ms) (.int 3)=some (.tup (ms.map (gA M))):=by unfold f9;rw[q_itT];exact X4
theorem KQ:aH (bP m) (.int 1)=some (tupI m.tk):=by unfold bP;rw[q_itT];exact at1
theorem WT:aH (gA M m) (.int 1)=some (tupI m.tk):=by unfold gA;rw[q_itT];exact at1
theorem N7:∀ {d e k j:List Int},Bx d k->Bx e j->d.length=e.length->u4 [tupI k,tupI j]=some (tupI (eX k j))
 | [_],[_],[x],[y],_,_,_=>aM (by simp_all[uP,aK,tupI,at0,eX])
 | [_,_],[_,_],[x,a],[y,b],_,_,_=>aM (by simp_all[uP,aK,tupI,at0,at1,eX])
theorem uV(h0:0<M)(h1:M<10^60)(f:Fo M d F)(g:Fo M e G)(hl:d.length=e.length)(lw:BS (eX d e)):∃H,kP [.int M,fD F,fD G]=some (fD H)/\Fo M (eX d e) H/\∀vs:List Int,vs.length=d.length->M∣ev vs H-ev vs F*ev vs G:=by
 suffices h:∃r,kP [.int M,fD F,fD G]=some r/\∃H,r=fD H/\Fo M (eX d e) H/\∀vs:List Int,vs.length=d.length->M∣ev vs H-ev vs F*ev vs G by
  obtain⟨r,N,H,rfl,x⟩:=h;exact⟨H,N,x⟩
 have ar:(10:Int)^60=1000000000000000000000000000000000000000000000000000000000000:=by decide +kernel
 refine dJ ?_;unfold CQ fD;rw[aF (aN (d:=.dT []) (by simp[-zad,-zae,aA,aD]))];refine eD (items:=F.map bN) (by ac_rfl) (λi ρ=>∃(T:List My.Tm) (Y o5 o6 o7 o8:Option D),ρ=[some (.int M),some (.tup (F.map bN)),some (.tup (G.map bN)),some (.dT (T.map kD)),Y,o5,o6,o7,o8]/\Fk (eX d e) T/\∀vs:List Int,vs.length=d.length->ev vs T=ev vs (F.take i)*ev vs G) ⟨[],none,none,none,none,none,by ac_rfl,Fk.nil _,λvs _=>by simp_all[ev]⟩ ?_ ?_
 ·rintro i x ρ hx ⟨T,Y,o5,o6,o7,o8,rfl,tk,te⟩
  rw[zaB]at hx;obtain⟨t,ht,rfl⟩:=map_some hx;have U:=zaX ht;have bt:=f.k.bx t U;have ct:=f.cb t U;have aa:F.take (i+1)=F.take i++[t]:=by rw[zbW,ht];rfl
  obtain⟨ρ',er,q,p6,p7,p8,rfl,z,J⟩:=fY (g:=b7 2 (aR (aL 6) (aR (aL 7) cC))) (b:=(bD (bQ 8 (aP u4 (aC (aB 4) (aC (aB 6) aY))))
   (vT 3 (aB 8) (aZ bX (rQ (aB 3) (aB 8) (eC (.int 0))) (aZ b5 (aB 5) (aB 7)))))) (items:=G.map bN) (ρ:=[some (.int M),some (.tup (F.map bN)),some (.tup (G.map bN)),some (.dT (T.map kD)),some (tupI t.1),some (.int t.2),o6,o7,o8])
   (λj ρ=>∃(q:List My.Tm) (o6 o7 o8:Option D),ρ=[some (.int M),some (.tup (F.map bN)),some (.tup (G.map bN)),some (.dT (q.map kD)),some (tupI t.1),some (.int t.2),o6,o7,o8]/\Fk (eX d e) q/\∀vs:List Int,vs.length=d.length->ev vs q=ev vs T+t.2*mon t.1 vs*ev vs (G.take j)) ⟨T,o6,o7,o8,rfl,tk,λvs _=>by simp_all[ev]⟩ (by
   rintro j y ρ hy ⟨q,o6,o7,o8,rfl,z,J⟩;rw[zaB]at hy;obtain⟨u,hu,rfl⟩:=map_some hy;have W:=zaX hu;have bu:=g.k.bx u W;have cu:=g.cb u W;have ac:G.take (j+1)=G.take j++[u]:=by rw[zbW,hu];rfl
   have va:=N7 bt bu hl;have mu:b5 (.int t.2) (.int u.2)=some (.int (t.2*u.2)):=c8 (by lia) (by lia) (by lia) (by lia);have ap:=BV (i:=8) (X:=aZ b5 (aB 5) (aB 7)) (ρ:=[some (.int M),some (.tup (F.map bN)),some (.tup (G.map bN)),some (.dT (q.map kD)),some (tupI t.1),some (.int t.2),some (tupI u.1),some (.int u.2),some (tupI (eX t.1 u.1))]) (T:=q) (k:=eX t.1 u.1) (x:=t.2*u.2) rfl rfl (by ac_rfl) (by have:=z.len lw;lia);refine⟨_,?_,My.put q (eX t.1 u.1) (cf q (eX t.1 u.1)+t.2*u.2),some (tupI u.1),some (.int u.2),some (tupI (eX t.1 u.1)),rfl,z.put (bt.add bu hl),λvs B=>?_⟩
   ·show(b7 2 (aR (aL 6) (aR (aL 7) cC)) (bN u) _).bind _=_
    have N:b7 2 (aR (aL 6) (aR (aL 7) cC)) (bN u) [some (.int M),some (.tup (F.map bN)),some (.tup (G.map bN)),some (.dT (q.map kD)),some (tupI t.1),some (.int t.2),o6,o7,o8]=some [some (.int M),some (.tup (F.map bN)),some (.tup (G.map bN)),some (.dT (q.map kD)),some (tupI t.1),some (.int t.2),some (tupI u.1),some (.int u.2),o8]:=by ac_rfl
    rw[N,aA,aF (aN (d:=tupI (eX t.1 u.1)) (by ac_rfl))];exact ap
   ·rw[A6 z.nd rfl,J vs B,ac,kM,N5 bt bu hl B,zdH]
    generalize mon t.1 vs=a;generalize mon u.1 vs=b;grind)
  refine⟨_,?_,q,some (tupI t.1),some (.int t.2),p6,p7,p8,rfl,z,λvs B=>?_⟩
  ·show(b7 2 (aR (aL 4) (aR (aL 5) cC)) (bN t) _).bind _=_
   have N:b7 2 (aR (aL 4) (aR (aL 5) cC)) (bN t) [some (.int M),some (.tup (F.map bN)),some (.tup (G.map bN)),some (.dT (T.map kD)),Y,o5,o6,o7,o8]=some [some (.int M),some (.tup (F.map bN)),some (.tup (G.map bN)),some (.dT (T.map kD)),some (tupI t.1),some (.int t.2),o6,o7,o8]:=by ac_rfl
   rw[N,aA,q_for];have e2:kS (aB 2) [some (.int M),some (.tup (F.map bN)),some (.tup (G.map bN)),some (.dT (T.map kD)),some (tupI t.1),some (.int t.2),o6,o7,o8]=some (G.map bN):=by simp[-zad,-zae,aA,aD]
   rw[e2,aA];exact er
  ·rw[J vs B,te vs B,aa,kM,zao,zcT,zeN]
 ·rintro ρ ⟨T,Y,o5,o6,o7,o8,rfl,tk,te⟩
  rw[zao,zcT]at te;have vf:=iE (M:=M) (cs:=T) h0 (by have:=tk.len lw;lia);refine⟨_,by simp_all[vf] <;> rfl,My.bW M (bJ T),rfl,tk.form h0,λvs B=>?_⟩;rw[<- te vs B];exact nN T
theorem A7(h0:0<M)(f:Fo M d F)(g:Fo M d G)(J:BS d):∃H,lL [.int M,fD F,fD G]=some (fD H)/\Fo M d H/\∀vs:List Int,M∣ev vs H-(ev vs F+ev vs G):=by
 suffices h:∃r,lL [.int M,fD F,fD G]=some r/\∃H,r=fD H/\Fo M d H/\∀vs:List Int,M∣ev vs H-(ev vs F+ev vs G) by
  obtain⟨r,N,H,rfl,x⟩:=h;exact⟨H,N,x⟩
 have dt:=EV f.k.nd (by have:=f.k.len J;lia);refine dJ ?_;unfold JE fD;rw[aF (aN (d:=.dT (F.map kD)) (by ac_rfl))];refine eD (items:=G.map bN) (by ac_rfl) (λi ρ=>∃(T:List My.Tm) (q o5:Option D),ρ=[some (.int M),some (.tup (F.map bN)),some (.tup (G.map bN)),some (.dT (T.map kD)),q,o5]/\Fk d T/\∀vs:List Int,ev vs T=ev vs F+ev vs (G.take i)) ⟨F,none,none,by ac_rfl,f.k,λvs=>by ac_rfl⟩ ?_ ?_
 ·rintro i x ρ U ⟨T,q,o5,rfl,tk,te⟩
  rw[zaB]at U;obtain⟨t,W,rfl⟩:=map_some U;have z:=zaX W;have B:G.take (i+1)=G.take i++[t]:=by rw[zbW,W];rfl
  have ap:=BV (i:=4) (X:=aB 5) (ρ:=[some (.int M),some (.tup (F.map bN)),some (.tup (G.map bN)),some (.dT (T.map kD)),some (tupI t.1),some (.int t.2)]) (T:=T) (k:=t.1) (x:=t.2) rfl rfl rfl (by have:=tk.len J;lia);refine⟨_,?_,My.put T t.1 (cf T t.1+t.2),some (tupI t.1),some (.int t.2),rfl,tk.put (g.k.bx t z),λvs=>?_⟩
  ·show(b7 2 (aR (aL 4) (aR (aL 5) cC)) (bN t) _).bind _=_
   have N:b7 2 (aR (aL 4) (aR (aL 5) cC)) (bN t) [some (.int M),some (.tup (F.map bN)),some (.tup (G.map bN)),some (.dT (T.map kD)),q,o5]=some [some (.int M),some (.tup (F.map bN)),some (.tup (G.map bN)),some (.dT (T.map kD)),some (tupI t.1),some (.int t.2)]:=by ac_rfl
   rw[N,aA];exact ap
  ·rw[A6 tk.nd rfl,te vs,B,kM];lia
 ·rintro ρ ⟨T,q,o5,rfl,tk,te⟩
  rw[zao,zcT]at te;have Y:=iE (M:=M) (cs:=T) h0 (by have:=tk.len J;lia);refine⟨_,by simp_all[Y] <;> rfl,My.bW M (bJ T),rfl,tk.form h0,λvs=>?_⟩;rw[<- te vs];exact nN T
noncomputable def zN(n:Int):List Int:=if n=1 then [0]else [0,0]
theorem jF(h0:0<M)(F:n=1\/n=2):∃H,jM [.int M,.int n,.int c]=some (fD H)/\Fo M (zN n) H/\∀vs:List Int,(vs.length:Int)=n->M∣ev vs H-c:=by
 have q:=iE (M:=M) (cs:=[(zN n,c)]) h0 (by simp[-zad,-zae,aA,aD]);have k:Fk (zN n) [(zN n,c)]:=⟨by simp[-zad,-zae,aA,aD],λt G=>by
  rw[List.mem_singleton.mp G];rcases F with rfl|rfl
  ·exact⟨by decide,by decide⟩
  ·exact⟨⟨by decide,by decide⟩,by decide,by decide⟩⟩
 refine⟨My.bW M (bJ [(zN n,c)]),aM ?_,k.form h0,λvs J=>?_⟩
 ·rcases F with rfl|rfl
  ·have z:y4 (.tup [.int 0])=some [zap 0]:=rfl
   have B:([(zN 1,c)]:List My.Tm).map kD=[([zap 0],.int c)]:=rfl;rw[B]at q;simp_all[jN,aK,z,q,fD]
  ·have z:y4 (.tup [.int 0,.int 0])=some [zap 0,zap 0]:=rfl
   have B:([(zN 2,c)]:List My.Tm).map kD=[([zap 0,zap 0],.int c)]:=rfl;rw[B]at q;simp_all[jN,aK,z,q,fD]
 ·have h:=nN (M:=M) (vs:=vs) [(zN n,c)]
  have e:ev vs [(zN n,c)]=c:=by
   rw[bH,lI];rcases F with rfl|rfl
   ·obtain⟨v,rfl⟩:=List.length_eq_one_iff.mp (show vs.length=1 by lia)
    simp_all[zN,mon]
   ·obtain⟨v,u,rfl⟩:=f6 (show vs.length=2 by lia)
    simp_all[zN,mon]
  rw[e]at h;exact h
theorem RK(q:n=1\/n=2)(z:(d.length:Int)=n):eX (zN n) d=d:=by
 rcases q with rfl|rfl
 ·obtain⟨v,rfl⟩:=List.length_eq_one_iff.mp (show d.length=1 by lia)
  simp_all[zN,eX]
 ·obtain⟨v,u,rfl⟩:=f6 (show d.length=2 by lia)
  simp_all[zN,eX]
theorem UB(q:n=1\/n=2):((zN n).length:Int)=n:=by rcases q with rfl|rfl <;> rfl
theorem eV(h0:0<M)(h1:M<10^60)(q:n=1\/n=2)(N:(d.length:Int)=n)(hz:Bx d (zN n))(z:BS d)(f:Fo M d F):∃H,bE [.int M,.int n,.tup [.int a,.int b],fD F]=some (fD H)/\Fo M d H/\∀vs:List Int,vs.length=d.length->M∣ev vs H-(a*ev vs F+b):=by
 obtain⟨A,ea,fa,va⟩:=jF (M:=M) (n:=n) (c:=a) h0 q;obtain⟨B,U,fb,vb⟩:=jF (M:=M) (n:=n) (c:=b) h0 q;have zl:=UB q;have J:=RK q N;obtain⟨T,et,G,vt⟩:=uV h0 h1 fa f (by lia) (by rw[J];exact z);rw[J]at G;obtain⟨H,eh,fh,vh⟩:=A7 h0 G (fb.mono hz) z;refine⟨H,aM ?_,fh,λvs hv=>?_⟩
 ·simp_all[i7,aK,at0,at1,ea,U,et,eh]
 ·have x1:=vh vs
  have x2:=vt vs (by lia);have W:=a7 (va vs (by lia)) (aS M (ev vs F));have Y:=vb vs (by lia);have:ev vs H-(a*ev vs F+b)=(ev vs H-(ev vs T+ev vs B))+(ev vs T-ev vs A*ev vs F)+(ev vs A*ev vs F-a*ev vs F)+(ev vs B-b):=by lia
  rw[this];exact zaF (zaF (zaF x1 x2) W) Y
noncomputable def K3(p:Nat)(k:List Int):Int:=k.getD p 0
theorem xD:∀(F:List My.Tm) (o1 o2:Option D),(∀t∈F,p<t.1.length)->bR (b7 2 (aR (aL 0) (aR (aL 1) cC))) BI (aZ aH (aB 0) (aB 2)) (F.map bN) [o1,o2,some (.int (p:Int))]=some ((F.map λt=>K3 p t.1).map .int)
 | [],_,_,_=>rfl
 | t::F,o1,o2,h=>by
  have ih:=xD F (some (tupI t.1)) (some (.int t.2)) λu z=>h u (zav _ z)
  have q:=h t (zas ..);have e:dX (t.1.map D.int) (p:Int)=some (.int (K3 p t.1)):=b8 (by
   unfold K3;rw[zaB,zaY q,List.getD_eq_getElem?_getD,zaY q];rfl)
  rw[zak,bR];simp[-zad,-zae,aA,aD,-zaQ,bN,tupI,e]at ih ⊢;simp_all[-zaQ,bN,tupI,ih]
theorem pU:∀(l:List Int) (a:Int),a<=l.foldl (λm x=>if x>m then x else m) a/\∀x∈l,x<=l.foldl (λm x=>if x>m then x else m) a
 | [],a=>⟨zeD _,λ_ h=>nomatch h⟩
 | y::l,a=>by
  obtain⟨h1,h2⟩:=pU l (if y>a then y else a);rw[zcK];have B:a<=(if y>a then y else a)/\y<=(if y>a then y else a):=by split <;> lia
  exact⟨by lia,λx q=>by
   rcases List.mem_cons.mp q with z|z
   ·subst z;lia
   ·exact h2 x z⟩
theorem pE:∀(l:List Int) (a:Int),a<=b->(∀x∈l,x<=b)->l.foldl (λm x=>if x>m then x else m) a<=b
 | [],a,h,_=>h
 | y::l,a,h,g=>by
  rw[zcK];exact pE l _ (by have:=g y (zas ..);split <;> lia) λx q=>g x (zav _ q)
theorem NI(h:∀x∈l,0<=x/\x<=2):∃m:Nat,My.lQ 0 l=(m:Int)/\m<=2/\∀x∈l,x<=(m:Int):=by
 cases l with
 | nil=>exact⟨0,rfl,by decide,λ_ h=>nomatch h⟩
 | cons y l=>
  have B:=h y (zas ..);obtain⟨h1,h2⟩:=pU l y;have F:=pE (b:=2) l y B.2 λx q=>(h x (zav _ q)).2
  have e:My.lQ 0 (y::l)=l.foldl (λm x=>if x>m then x else m) y:=rfl;generalize l.foldl (λm x=>if x>m then x else m) y=m at h1 h2 F e;refine⟨m.toNat,by lia,by lia,λx q=>?_⟩;rcases List.mem_cons.mp q with z|z
  ·subst z;lia
  ·have:=h2 x z;lia
theorem jJ(U:F.length<=1000)(h:∀t∈F,p<t.1.length/\0<=K3 p t.1/\K3 p t.1<=2):∃m:Nat,d9 [fD F,.int (p:Int)]=some (.int (m:Int))/\m<=2/\∀t∈F,K3 p t.1<=(m:Int):=by
 have G:=xD F none none λt z=>(h t z).1
 obtain⟨m,B,M,N⟩:=NI (l:=F.map λt=>K3 p t.1) λx J=>by
  obtain⟨t,z,rfl⟩:=List.mem_map.mp J;exact(h t z).2
 have hz:aX F.length=true:=decide_eq_true (by lia);refine⟨m,aM ?_,M,λt z=>N _ (zeI (f:=λt=>K3 p t.1) z)⟩;have q:=q_maxD (ns:=F.map λt=>K3 p t.1) (d:=0);rw[B]at q;simp_all[-zaQ,-q_maxD,pJ,aK,fD,hz,nW,G,q]
noncomputable def sc(i:Nat)(u:List Int):List Int:=u.map λx=>(i:Int)*x
theorem sc_add(z:u=[1]\/u=[0,1]):eX (sc i u) u=sc (i+1) u:=by
 rcases z with rfl|rfl
 ·show [(i:Int)*1+1]=[((i+1:Nat):Int)*1]
  have q:(i:Int)*1+1=((i+1:Nat):Int)*1:=by lia
  rw[q]
 ·show [(i:Int)*0+0,(i:Int)*1+1]=[((i+1:Nat):Int)*0,((i+1:Nat):Int)*1]
  have q:(i:Int)*1+1=((i+1:Nat):Int)*1:=by lia
  have B:(i:Int)*0+0=((i+1:Nat):Int)*0:=by lia
  rw[q,B]
theorem sc_low(q:u=[1]\/u=[0,1])(h:i<=6):BS (sc i u):=by
 rcases q with rfl|rfl
 ·show(i:Int)*1<=6;lia
 ·show(i:Int)*0<=6/\(i:Int)*1<=6;lia
theorem mF{M n:Int}(h0:0<M)(h1:M<10^60)(hn:n=1\/n=2){u:List Int}(G:u=[1]\/u=[0,1])(hl:(u.length:Int)=n){F:List My.Tm}(f:Fo M u F){m:Nat}(hm:m<=2):∃q:List (List My.Tm),gT [.int M,.int n,fD F,.int (m:Int)]=some (.lst (q.map fD))/\q.length=m+1/\∀(i:Nat) (P:List My.Tm),q[i]?=some P->Fo M (sc i u) P/\∀vs:List Int,vs.length=u.length->M∣ev vs P-ev vs F^i:=by
 suffices h:∃r,gT [.int M,.int n,fD F,.int (m:Int)]=some r/\∃q:List (List My.Tm),r=.lst (q.map fD)/\q.length=m+1/\∀(i:Nat) (P:List My.Tm),q[i]?=some P->Fo M (sc i u) P/\∀vs:List Int,vs.length=u.length->M∣ev vs P-ev vs F^i by
  obtain⟨r,e1,H,rfl,x⟩:=h;exact⟨H,e1,x⟩
 obtain⟨O,eo,fo,vo⟩:=jF (M:=M) (n:=n) (c:=1) h0 hn;have z0:sc 0 u=zN n:=by
  rcases G with rfl|rfl
  ·have:n=1:=by simpa using hl.symm
   subst this;rfl
  ·have:n=2:=by simpa using hl.symm
   subst this;rfl
 refine dJ ?_;unfold lV;rw[aF (aN (d:=.lst [fD O]) (by ac_rfl))];refine eD (items:=aV 0 1 m) (by simp_all[aK,lE (n:=m) (by lia)]) (λi ρ=>∃(q:List (List My.Tm)) (o:Option D),ρ=[some (.int M),some (.int n),some (fD F),some (.int (m:Int)),some (.lst (q.map fD)),o]/\q.length=i+1/\∀(i:Nat) (P:List My.Tm),q[i]?=some P->Fo M (sc i u) P/\∀vs:List Int,vs.length=u.length->M∣ev vs P-ev vs F^i) ⟨[O],none,by ac_rfl,rfl,λi P B=>?_⟩ ?_ ?_
 ·cases i with
  | zero=>
   have:O=P:=by simpa using B
   subst this;exact⟨by rw[z0];exact fo,λvs Y=>by rw[zcS];exact vo vs (by lia)⟩
  | succ i=>simp[-zad,-zae,aA,aD]at B
 ·rintro i x ρ hx ⟨q,o,rfl,z,B⟩
  obtain⟨ae,rfl⟩:=bI hx;have hI:(0:Int)+(i:Int)*1=(i:Int):=by lia
  rw[hI];have hi:i<q.length:=by lia
  obtain⟨fp,vp⟩:=B i q[i] (zaY hi);have U:dX (q.map fD) (i:Int)=some (fD q[i]):=b8 (by rw[zaB,zaY hi];rfl);have sl:(sc i u).length=u.length:=by simp_all[sc]
  obtain⟨Q,eq,fq,vq⟩:=uV h0 h1 fp f sl (by rw[sc_add G];exact sc_low G (by lia));rw[sc_add G]at fq;have hz:aX q.length=true:=decide_eq_true (by lia);refine⟨_,?_,q++[Q],some (.int (i:Int)),rfl,by simp_all[z],λj P J=>?_⟩
  ·simp_all[turn,U,eq,hz]
  ·by_cases W:j<q.length
   ·rw[zdm W]at J;exact B j P J
   ·have N:j=q.length:=by
     have:=(List.getElem?_eq_some_iff.mp J).1;simp[-zad,-zae,aA,aD]at this;lia
    subst N;have:Q=P:=by simpa using J
    subst this;rw[z];refine⟨fq,λvs Y=>?_⟩;have x1:=vq vs (by lia);have x2:=a7 (vp vs Y) (aS M (ev vs F));rw[zbD];have:ev vs Q-ev vs F^i*ev vs F=(ev vs Q-ev vs q[i]*ev vs F)+(ev vs q[i]*ev vs F-ev vs F^i*ev vs F):=by lia
    rw[this];exact zaF x1 x2
 ·rintro ρ ⟨q,o,rfl,z,B⟩
  rw[a8]at z;exact⟨_,by simp[-zad,-zae,aA,aD] <;> rfl,q,rfl,z,B⟩
structure Fac(M:Int)(d:List Int)(w:List Int->Int)(l:List (List Key×D))(done:List My.Tm):Prop where
 at_:∀a:List Int,∃F,(bY l (a.map zap)).getD (.tup [])=fD F/\Fo M d F/\∀vs:List Int,vs.length=d.length->M∣ev vs F-grp a (w vs) done
theorem Fac.nil(M:Int)(d:List Int)(w:List Int->Int):Fac M d w [] []:=⟨λa=>⟨[],rfl,Fo.nil M d,λvs _=>⟨0,by simp_all[ev,grp]⟩⟩⟩
theorem GP{a b:List Int}(h:(a.map zap:List Key)=b.map zap):a=b:=My.iN.mp h
theorem Fac.put(h:Fac M d w l done)(U:Fo M d H)(J:∀vs:List Int,vs.length=d.length->M∣ev vs H-(grp t.1.dropLast (w vs) done+t.2*w vs^(la t.1).toNat)):Fac M d w (putD l (t.1.dropLast.map zap) (fD H)) (done++[t]):=⟨λa=>by
 by_cases e:a=t.1.dropLast
 ·subst e
  refine⟨H,?_,U,λvs q=>?_⟩
  ·rw[yK,if_pos rfl];rfl
  ·rw[yN,if_pos rfl];exact J vs q
 ·obtain⟨F,N,B,G⟩:=h.at_ a
  refine⟨F,?_,B,λvs q=>?_⟩
  ·rw[yK,if_neg (λz=>e (GP z))];exact N
  ·rw[yN,if_neg (λz=>e z.symm),Int.add_zero];exact G vs q⟩
theorem wH{M:Int}(h0:0<M)(h1:M<10^60){I:List My.Tm}(fi:Fo M [1,0] I){m:Nat}(hm:m<=2){w:List Int->Int}{l:List (List Key×D)}{q:List My.Tm}(h:Fac M [0,2] w l q):∃H,gF [.int M,fD I,.int (m:Int),.dT l]=some (fD H)/\Fo M [3,2] H/\∀vs:List Int,vs.length=2->M∣ev vs H-pw (λj=>grp [(j:Int)] (w vs) q) (ev vs I) (m+1):=by
 suffices h:∃r,gF [.int M,fD I,.int (m:Int),.dT l]=some r/\∃H,r=fD H/\Fo M [3,2] H/\∀vs:List Int,vs.length=2->M∣ev vs H-pw (λj=>grp [(j:Int)] (w vs) q) (ev vs I) (m+1) by
  obtain⟨r,Y,H,rfl,x⟩:=h;exact⟨H,Y,x⟩
 have hr:eR [.int (m:Int),.int (-1),.int (-1)]=some (aV (m:Int) (-1) (m+1)):=by
  rw[oV (by lia) (by lia) (by decide) (by decide)];have e:((m:Int)-(-1)).toNat=m+1:=by lia
  rw[e]
 refine dJ ?_;unfold mR;rw[aF (aN (d:=fD []) (by ac_rfl))];refine eD (items:=aV (m:Int) (-1) (m+1)) (by ac_rfl) (λi ρ=>∃(T:List My.Tm) (o:Option D),ρ=[some (.int M),some (fD I),some (.int (m:Int)),some (.dT l),some (fD T),o]/\Fo M [(i:Int),2] T/\i<=m+1/\∀vs:List Int,vs.length=2->M∣(ev vs T*ev vs I^(m+1-i)+pw (λj=>grp [(j:Int)] (w vs) q) (ev vs I) (m+1-i))-pw (λj=>grp [(j:Int)] (w vs) q) (ev vs I) (m+1)) ⟨[],none,by ac_rfl,Fo.nil M _,by lia,λvs _=>?_⟩ ?_ ?_
 ·rw[lI,Int.zero_mul,Int.zero_add,Nat.sub_zero];exact aS _ _
 ·rintro i x ρ hx ⟨T,o,rfl,J,hi,G⟩
  obtain⟨am,rfl⟩:=bI hx;obtain⟨r,hr⟩:∃r,m+1-i=r+1:=⟨m-i,by lia⟩;have hI:(m:Int)+(i:Int)*(-1)=(r:Int):=by lia
  rw[hI];obtain⟨F,eF,fF,vF⟩:=h.at_ [(r:Int)];have lk:=qA l [(r:Int)];obtain⟨Q,eq,fq,vq⟩:=uV h0 h1 J fi rfl ⟨by lia,by decide⟩;have fq:Fo M [((i+1:Nat):Int),2] Q:=fq.mono ⟨⟨by lia,by lia⟩,by decide,by decide⟩;obtain⟨z,et,ac,ae⟩:=A7 h0 fq (fF.mono ⟨⟨by lia,by lia⟩,by decide,by decide⟩) ⟨by lia,by decide⟩;refine⟨_,?_,z,some (.int (r:Int)),rfl,ac,by lia,λvs B=>?_⟩
  ·have aa:b6 (.dT l) (.tup [.int (r:Int)])=some (bY l [zap (r:Int)]):=lk
   have U:(bY l [zap (r:Int)]).getD (.tup [])=fD F:=eF;simp_all[turn,eq,aa,U,et]
  ·have ad:m+1-(i+1)=r:=by lia
   have v:=G vs B;rw[hr]at v;rw[ad];have a1:=ae vs;have a2:=vq vs B;have a3:=vF vs B;have Y:pw (λj=>grp [(j:Int)] (w vs) q) (ev vs I) (r+1)=pw (λj=>grp [(j:Int)] (w vs) q) (ev vs I) r+ev vs I^r*grp [(r:Int)] (w vs) q:=rfl;rw[Y,zbD]at v;have a4:M∣ev vs z-(ev vs T*ev vs I+grp [(r:Int)] (w vs) q):=by
    have:ev vs z-(ev vs T*ev vs I+grp [(r:Int)] (w vs) q)=(ev vs z-(ev vs Q+ev vs F))+(ev vs Q-ev vs T*ev vs I)+(ev vs F-grp [(r:Int)] (w vs) q):=by lia
    rw[this];exact zaF (zaF a1 a2) a3
   have N:=a7 a4 (aS M (ev vs I^r));generalize pw (λj=>grp [(j:Int)] (w vs) q) (ev vs I) (m+1)=W at v ⊢;generalize pw (λj=>grp [(j:Int)] (w vs) q) (ev vs I) r=V at v ⊢;generalize grp [(r:Int)] (w vs) q=S at v N;generalize ev vs I^r=p at v N ⊢;have:ev vs z*p+V-W=(ev vs z*p-(ev vs T*ev vs I+S)*p)+(ev vs T*(p*ev vs I)+(V+p*S)-W):=by grind
   rw[this];exact zaF N v
 ·rintro ρ ⟨T,o,rfl,J,hi,G⟩
  rw[a8]at J G;refine⟨_,by simp[-zad,-zae,aA,aD] <;> rfl,T,rfl,J.mono ⟨⟨by lia,by lia⟩,by decide,by decide⟩,λvs B=>?_⟩;have:=G vs B;rw[Nat.sub_self,zcS,zby]at this;have e:pw (λj=>grp [(j:Int)] (w vs) q) (ev vs I) 0=0:=rfl;rw[e,Int.add_zero]at this;exact this
theorem w4{M n:Int}(h0:0<M)(h1:M<10^60)(hn:n=1\/n=2){last:Nat}{u dd:List Int}(hd:(dd.length:Int)=n)(hz:Bx dd (zN n))(lw:BS dd)(bb:u.length=dd.length){I:List My.Tm}{B:List (List My.Tm)}(hP:∀(i:Nat) (P:List My.Tm),B[i]?=some P->Fo M dd P/\∀vs:List Int,vs.length=u.length->M∣ev vs P-ev vs I^i){q:List My.Tm}(ho:∀t∈q,cutD (t.1.map D.int) none (some (last:Int))=t.1.dropLast.map D.int/\dX (t.1.map D.int) (last:Int)=some (D.int (la t.1))/\0<=la t.1/\la t.1<(B.length:Int))(ag:q.length<=1000){G:D}{rest:Sv}{R:D->Prop}
  (k:∀(l:List (List Key×D)) (o7 o8 J z:Option D),Fac M dd (λvs=>ev vs I) l q->∃r,rest [some (.int M),some (.int n),some (fD q),some G,some (.int (last:Int)),some (.lst (B.map fD)),some (.dT l),o7,o8,J,z]=some (.rt r)/\R r) :
  ∃r,bD (jV (kS (aB 2)) (b7 2 (aR (aL 7) (aR (aL 8) cC))) (bD (bQ 9 (K5 lO (aB 7) rP (kT (aB 4))))
   (bD (bQ 10 (aP bE (aC (aB 0) (aC (aB 1) (aC (iC (aC (aB 8) (aC (eC (.int 0)) aY))) (aC (aZ aH (aB 5) (aZ aH (aB 7) (aB 4))) aY))))))
   (vT 6 (aB 9) (aP lL (aC (aB 0) (aC (rQ (aB 6) (aB 9) (iC aY)) (aC (aB 10) aY)))))))) rest [some (.int M),some (.int n),some (fD q),some G,some (.int (last:Int)),some (.lst (B.map fD)),some (.dT []),none,none,none,none]=some (.rt r)/\R r:=by
 refine eD (items:=q.map bN) (by ac_rfl) (λi ρ=>∃(l:List (List Key×D)) (o7 o8 J z:Option D),ρ=[some (.int M),some (.int n),some (fD q),some G,some (.int (last:Int)),some (.lst (B.map fD)),some (.dT l),o7,o8,J,z]/\Fac M dd (λvs=>ev vs I) l (q.take i)/\l.length<=i) ⟨[],none,none,none,none,rfl,by rw[List.take_zero];exact Fac.nil M dd _,zan _⟩ ?_ ?_
 ·rintro i x ρ hx ⟨l,o7,o8,J,z,rfl,U,hl⟩
  rw[zaB]at hx;obtain⟨t,ht,rfl⟩:=map_some hx;have hi:=(List.getElem?_eq_some_iff.mp ht).1;obtain⟨c1,c2,c3,c4⟩:=ho t (zaX ht);have Y:q.take (i+1)=q.take i++[t]:=by rw[zbW,ht];rfl
  obtain⟨e,he⟩:∃e:Nat,la t.1=(e:Int):=⟨(la t.1).toNat,by lia⟩;have N:e<B.length:=by lia
  obtain⟨fp,vp⟩:=hP e B[e] (zaY N);have ab:dX (B.map fD) (e:Int)=some (fD B[e]):=b8 (by rw[zaB,zaY N];rfl);obtain⟨H,eh,fh,vh⟩:=eV (a:=t.2) (b:=0) h0 h1 hn hd hz lw fp;obtain⟨F,eF,fF,vF⟩:=U.at_ t.1.dropLast;obtain⟨Q,eq,fq,vq⟩:=A7 h0 fF fh lw;have lk:=qA l t.1.dropLast;have pt:=MV (l:=l) t.1.dropLast (fD Q) (by lia);have pl:=GU l (t.1.dropLast.map zap:List Key) (fD Q);rw[he]at c2;refine⟨_,?_,putD l (t.1.dropLast.map zap) (fD Q),some (tupI t.1),some (.int t.2),some (tupI t.1.dropLast),some (fD H),rfl,?_,by lia⟩
  ·generalize putD l (t.1.dropLast.map zap:List Key) (fD Q)=l' at pt
   have e9:lO (tupI t.1) none (some (last:Int))=some (tupI t.1.dropLast):=by unfold tupI;rw[q_slT,c1]
   have W:aH (tupI t.1) (.int (last:Int))=some (.int (e:Int)):=by unfold tupI;rw[q_itT];exact c2
   generalize tupI t.1.dropLast=ta at lk pt e9;generalize bY l (t.1.dropLast.map zap:List Key)=vv at lk eF;have e8:bN t=.tup [tupI t.1,.int t.2]:=rfl;rw[e8];generalize tupI t.1=tt at e9 W;simp_all[turn,e9,W,ab,eh,lk,eF,eq,pt]
  ·rw[Y]
   refine U.put fq λvs hv=>?_
   have x1:=vq vs;have x2:=vF vs hv;have x3:=vh vs hv;have x4:=a7 (aS M t.2) (vp vs (by lia));have e2:(la t.1).toNat=e:=by lia
   rw[e2];have:ev vs Q-(grp t.1.dropLast (ev vs I) (q.take i)+t.2*ev vs I^e)=(ev vs Q-(ev vs F+ev vs H))+(ev vs F-grp t.1.dropLast (ev vs I) (q.take i))+(ev vs H-(t.2*ev vs B[e]+0))+(t.2*ev vs B[e]-t.2*ev vs I^e):=by lia
   rw[this];exact zaF (zaF (zaF x1 x2) x3) x4
 ·rintro ρ ⟨l,o7,o8,J,z,rfl,U,hl⟩
  rw[zao,zcT]at U;exact k l o7 o8 J z U
theorem S9{M:Int}(h0:0<M)(h1:M<10^60){q I:List My.Tm}(N:Fo M [2] q)(fi:Fo M [1] I):∃H,yQ [.int M,.int 1,fD q,.lst [fD I]]=some (fD H)/\Fo M [2] H/\∀vs:List Int,vs.length=1->M∣ev vs H-ev [ev vs I] q:=by
 suffices h:∃r,yQ [.int M,.int 1,fD q,.lst [fD I]]=some r/\∃H,r=fD H/\Fo M [2] H/\∀vs:List Int,vs.length=1->M∣ev vs H-ev [ev vs I] q by
  obtain⟨r,G,H,rfl,x⟩:=h;exact⟨H,G,x⟩
 have Y:=N.k.len (show(2:Int)<=6 by decide);have one:∀t∈q,∃x,t.1=[x]/\0<=x/\x<=2:=λt B=>by
  rcases(N.k.bx t B).shape with⟨a,x,G,W,h⟩|⟨a,b,x,y,G,W,h⟩
  ·cases G;exact⟨x,W,h⟩
  ·cases G
 obtain⟨m,em,m2,hm⟩:=jJ (p:=0) (F:=q) (by lia) λt B=>by
  obtain⟨x,e,a,b⟩:=one t B;rw[e];exact⟨by simp[-zad,-zae,aA,aD],a,b⟩
 obtain⟨Ps,ep,lp,hP⟩:=mF (n:=1) h0 h1 (.inl rfl) (u:=[1]) (.inl rfl) rfl fi m2;refine dJ ?_;unfold KD;rw[aF (aN (d:=.int 0) (by ac_rfl))];have ag:d9 [fD q,.int 0]=some (.int (m:Int)):=em;rw[aF (aN (d:=.lst (Ps.map fD)) (by ac_rfl))];rw[aF (aN (d:=.dT []) (by simp[-zad,-zae,aA,aD]))];refine w4 (last:=0) (u:=[1]) (dd:=[2]) h0 h1 (.inl rfl) rfl ⟨by decide,by decide⟩ (show(2:Int)<=6 by decide) rfl (I:=I) (λi P hi=>?_) (λt B=>?_) (by lia) ?_
 ·have ah:=(List.getElem?_eq_some_iff.mp hi).1
  obtain⟨f,v⟩:=hP i P hi;exact⟨f.mono ⟨by show 0<=(i:Int)*1;lia,by show(i:Int)*1<=2;lia⟩,v⟩
 ·obtain⟨x,e,a,b⟩:=one t B
  have:=hm t B;rw[e]at this ⊢;have z:K3 0 [x]=x:=rfl;rw[z]at this;exact⟨rfl,rfl,a,by show x<_;lia⟩
 ·intro l o7 o8 o9 ak fc
  obtain⟨F,eF,fF,vF⟩:=fc.at_ [];have lk:=qA l [];have U:b6 (.dT l) (.tup [])=some (bY l []):=lk;have J:(bY l []).getD (.tup [])=fD F:=eF;refine⟨fD F,by simp_all[U,J],F,rfl,fF,λvs hv=>?_⟩;have:=vF vs hv;rw[BW (d:=2) N.k.bx]at this;exact this
theorem S0{M:Int}(h0:0<M)(h1:M<10^60){q I J:List My.Tm}(fo:Fo M [2,2] q)(fi:Fo M [1,0] I)(fj:Fo M [0,1] J):∃H,yQ [.int M,.int 2,fD q,.lst [fD I,fD J]]=some (fD H)/\Fo M [3,2] H/\∀vs:List Int,vs.length=2->M∣ev vs H-ev [ev vs I,ev vs J] q:=by
 suffices h:∃r,yQ [.int M,.int 2,fD q,.lst [fD I,fD J]]=some r/\∃H,r=fD H/\Fo M [3,2] H/\∀vs:List Int,vs.length=2->M∣ev vs H-ev [ev vs I,ev vs J] q by
  obtain⟨r,N,H,rfl,x⟩:=h;exact⟨H,N,x⟩
 have af:=fo.k.len (show(2:Int)<=6/\(2:Int)<=6 by decide);have two:∀t∈q,∃x y,t.1=[x,y]/\(0<=x/\x<=2)/\0<=y/\y<=2:=λt B=>by
  rcases(fo.k.bx t B).shape with⟨a,x,N,e2,h⟩|⟨a,b,x,y,N,e2,h⟩
  ·cases N
  ·cases N;exact⟨x,y,e2,h⟩
 obtain⟨m,em,m2,hm⟩:=jJ (p:=1) (F:=q) (by lia) λt B=>by
  obtain⟨x,y,e,a,b⟩:=two t B;rw[e];exact⟨by simp[-zad,-zae,aA,aD],b.1,b.2⟩
 obtain⟨m0,ac,Y,ab⟩:=jJ (p:=0) (F:=q) (by lia) λt B=>by
  obtain⟨x,y,e,a,b⟩:=two t B;rw[e];exact⟨by simp[-zad,-zae,aA,aD],a.1,a.2⟩
 obtain⟨Ps,ep,lp,hP⟩:=mF (n:=2) h0 h1 (.inr rfl) (u:=[0,1]) (.inr rfl) rfl fj m2;refine dJ ?_;unfold KD;rw[aF (aN (d:=.int 1) (by ac_rfl))];have ap:d9 [fD q,.int 1]=some (.int (m:Int)):=em;have G:d9 [fD q,.int 0]=some (.int (m0:Int)):=ac;rw[aF (aN (d:=.lst (Ps.map fD)) (by ac_rfl))];rw[aF (aN (d:=.dT []) (by simp[-zad,-zae,aA,aD]))];refine w4 (last:=1) (u:=[0,1]) (dd:=[0,2]) h0 h1 (.inr rfl) rfl ⟨⟨by decide,by decide⟩,by decide,by decide⟩ ⟨by decide,by decide⟩ rfl (I:=J) (λi P hi=>?_) (λt B=>?_) (by lia) ?_
 ·have aq:=(List.getElem?_eq_some_iff.mp hi).1
  obtain⟨f,v⟩:=hP i P hi;exact⟨f.mono ⟨⟨by show 0<=(i:Int)*0;lia,by show(i:Int)*0<=0;lia⟩,by show 0<=(i:Int)*1;lia,by show(i:Int)*1<=2;lia⟩,v⟩
 ·obtain⟨x,y,e,a,b⟩:=two t B
  have:=hm t B;rw[e]at this ⊢;have z:K3 1 [x,y]=y:=rfl;rw[z]at this;exact⟨rfl,rfl,b.1,by show y<_;lia⟩
 ·intro l o7 o8 o9 U fc
  obtain⟨H,W,fH,vH⟩:=wH h0 h1 fi Y fc;refine⟨fD H,?_,H,rfl,fH,λvs hv=>?_⟩
  ·clear vH fH fc
   generalize fD H=rH at W ⊢;generalize (D.dT l)=dl at W ⊢;generalize fD q=do_ at G ⊢;generalize fD I=di at W ⊢;generalize fD J=dj at ⊢;generalize D.lst (Ps.map fD)=dp at ⊢;have e4:(eJ (aZ yY (aB 4) (eC (.int 0)))) [some (.int M),some (.int 2),some do_,some (.lst [di,dj]),some (.int ((1:Nat):Int)),some dp,some dl,o7,o8,o9,U]=some false:=by simp[-zad,-zae,aA,aD]
   rw[aF ((YF e4).trans q_nx)];refine WZ ?_;have e3:(aZ aH (aB 3) (eC (.int 0))) [some (.int M),some (.int 2),some do_,some (.lst [di,dj]),some (.int ((1:Nat):Int)),some dp,some dl,o7,o8,o9,U]=some di:=by ac_rfl
   rw[q_call,q_lcons,q_lcons,e3,q_lcons,q_call,q_lcons,q_lcons];simp_all[G,W]
  have:=vH vs hv;rw[CC (d:=2) (e:=2) λt B=>⟨fo.k.bx t B,by
   obtain⟨x,y,e,a,b⟩:=two t B;refine⟨x,y,e,?_⟩;have:=ab t B;rw[e]at this;exact this⟩]at this
  exact this
theorem IsF.uniq(g:GR M many R):∀ {x:Int} {w w':List Int},IsF R k x w->IsF R k x w'->w=w'
 | x,[],[],_,_=>rfl
 | x,[],n::w,h,h'=>by
  obtain⟨r,B,F,h2,_⟩:=h';have a:=(g.jk r (dZ B)).2.1;have b:=Rch.le g h2.rch;have h:x=k:=h
  lia
 | x,n::w,[],h',h=>by
  obtain⟨r,B,F,h2,_⟩:=h';have a:=(g.jk r (dZ B)).2.1;have b:=Rch.le g h2.rch;have h:x=k:=h
  lia
 | x,n::w,m::v,⟨r,B,F,h2,h3⟩,⟨q,hq,hi,g2,g3⟩=>by
  have nm:n=m:=by
   rcases Int.lt_trichotomy n m with z|z|z
   ·exact absurd h2.rch (g3 n r z B F)
   ·exact z
   ·exact absurd g2.rch (h3 m q z hq hi)
  subst nm;rw[B]at hq;cases hq;rw[IsF.uniq g h2 g2]
theorem nH:eI (rs.map (red M)) i=(eI rs i).map (red M):=by
 unfold eI;by_cases h:0<=i
 ·rw[if_pos h,if_pos h,zaB]
 ·rw[if_neg h,if_neg h];rfl
theorem IF(h:w.length<=900):bX (tupI w) (.tup [.int x])=some (tupI (w++[x])):=by
 have q:aX (w.length+1)=true:=decide_eq_true (by lia);simp_all[tupI,q]
theorem WY:aH (bG r) (.int 0)=some (.int r.j):=by unfold bG;rw[q_itT];exact at0
theorem UR:aH (bG r) (.int 1)=some (.int r.k):=by unfold bG;rw[q_itT];exact at1
theorem YG:aH (bG r) (.int 2)=some (.int r.a):=by unfold bG;rw[q_itT];exact at2
theorem YH:aH (bG r) (.int 3)=some (.int r.b):=by unfold bG;rw[q_itT];exact X4
theorem zL{M:Int}{n:Nat}{rs:List Ro}(g:GR M (n:Int) (rs.map (red M))){j k:Int}(j0:0<=j)(k0:0<=k/\k<(n:Int))(h:Rch (rs.map (red M)) j k)(ne:j≠k){o5:Option D}:∃(r:Nat) (q:Ro),bD (bQ 5 (eC (.int 0))) (qX (OU (eJ (aZ DS (aZ aH (aZ aH (aB 0) (aB 5)) (eC (.int 0))) (aB 2))) (vX (eJ (aZ aH (aZ aH (aB 1) (aZ aH (aZ aH (aB 0) (aB 5)) (eC (.int 1)))) (aB 3))))) (bQ 5 (aZ bX (aB 5) (eC (.int 1))))) [some (.lst (rs.map bG)),some (bC n (RT (rs.map (red M)))),some (.int j),some (.int k),some d4,o5]=some (.nx [some (.lst (rs.map bG)),some (bC n (RT (rs.map (red M)))),some (.int j),some (.int k),some d4,some (.int (r:Int))])/\eI rs (r:Int)=some q/\q.j=j/\Rch (rs.map (red M)) q.k k/\∀m B,m<(r:Int)->eI (rs.map (red M)) m=some B->B.j=j->¬ Rch (rs.map (red M)) B.k k:=by
 rcases h.inv with z|⟨i,r0,hi,hj,hr⟩
 ·exact absurd z ne
 rw[aF (aN (d:=.int 0) (by simp[-zad,-zae,aA,aD]))];rw[nH]at hi;obtain⟨q0,aa,rfl⟩:=map_some hi;have il:=lH aa;obtain⟨ρ',e,r,q,rfl,h1,h2,h3,h4⟩:=uS (c:=(OU (eJ (aZ DS (aZ aH (aZ aH (aB 0) (aB 5)) (eC (.int 0))) (aB 2))) (vX (eJ (aZ aH (aZ aH (aB 1) (aZ aH (aZ aH (aB 0) (aB 5)) (eC (.int 1)))) (aB 3)))))) (b:=(bQ 5 (aZ bX (aB 5) (eC (.int 1))))) (λm ρ=>∃r:Nat,ρ=[some (.lst (rs.map bG)),some (bC n (RT (rs.map (red M)))),some (.int j),some (.int k),some d4,some (.int (r:Int))]/\(r:Int)<=i/\rs.length-r=m/\∀m B,m<(r:Int)->eI (rs.map (red M)) m=some B->B.j=j->¬ Rch (rs.map (red M)) B.k k) (λρ=>∃(r:Nat) (q:Ro),ρ=[some (.lst (rs.map bG)),some (bC n (RT (rs.map (red M)))),some (.int j),some (.int k),some d4,some (.int (r:Int))]/\eI rs (r:Int)=some q/\q.j=j/\Rch (rs.map (red M)) q.k k/\∀m B,m<(r:Int)->eI (rs.map (red M)) m=some B->B.j=j->¬ Rch (rs.map (red M)) B.k k) (by
  rintro m ρ ⟨r,rfl,ri,rl,N⟩;have W:r<rs.length:=by lia
  have J:eI rs (r:Int)=some rs[r]:=by unfold eI;rw[if_pos (by lia),zb7];exact zaY W
  have Y:rs[r]∈rs:=zdz W;generalize rs[r]=q at J Y;have at_:=vR J;have gq:=g.jk (red M q) (zeI Y);have gq:0<=q.j/\q.j<q.k/\q.k<(n:Int):=gq;have m1:=A9 (K:=n) (P:=RT (rs.map (red M))) (k:=q.k) (by lia) gq.2.2;have m2:=rL (K:=n) (p:=RT (rs.map (red M)) q.k) k0.1 k0.2;have go:(¬ (q.j=j/\Rch (rs.map (red M)) q.k k))->∃G ρ',G<m/\bQ 5 (aZ bX (aB 5) (eC (.int 1))) [some (.lst (rs.map bG)),some (bC n (RT (rs.map (red M)))),some (.int j),some (.int k),some d4,some (.int (r:Int))]=some (.nx ρ')/\∃r:Nat,ρ'=[some (.lst (rs.map bG)),some (bC n (RT (rs.map (red M)))),some (.int j),some (.int k),some d4,some (.int (r:Int))]/\(r:Int)<=i/\rs.length-r=G/\∀m B,m<(r:Int)->eI (rs.map (red M)) m=some B->B.j=j->¬ Rch (rs.map (red M)) B.k k:=λno=>by
   have ne:(r:Int)≠i:=λz=>by
    rw[z,aa]at J;cases J;exact no ⟨hj,hr⟩
   refine⟨rs.length-(r+1),_,by lia,by simp[-zad,-zae,aA,aD] <;> rfl,r+1,rfl,by lia,rfl,λG B al F U=>?_⟩;by_cases z:G<(r:Int)
   ·exact N G B z F U
   ·have:G=(r:Int):=by lia
    subst this;rw[nH,J]at F;cases F;exact λz=>no ⟨U,z⟩
  by_cases c1:q.j=j
  ·by_cases c2:Rch (rs.map (red M)) q.k k
   ·refine .inr ⟨?_,r,q,rfl,J,c1,c2,N⟩
    rw[hJ.mpr c2]at m2;simp_all[at_,WY,UR,c1,m1,m2]
   ·have rf:RT (rs.map (red M)) q.k k=false:=by rw[zc2];exact λz=>c2 (hJ.mp z)
    rw[rf]at m2;exact .inl ⟨by simp_all[at_,WY,UR,c1,m1,m2],go λz=>c2 z.2⟩
  ·exact .inl ⟨by ac_rfl,go λz=>c1 z.1⟩) 100000 rs.length [some (.lst (rs.map bG)),some (bC n (RT (rs.map (red M)))),some (.int j),some (.int k),some d4,some (.int ((0:Nat):Int))] (by
   have:=g.len;rw[zao]at this;lia) ⟨0,rfl,by lia,by lia,λm B hm F=>by
   unfold eI at F;rw[if_neg (by lia)]at F;cases F⟩
 exact⟨r,q,e,h1,h2,h3,h4⟩
theorem wF{M:Int}{n:Nat}{rs:List Ro}(g:GR M (n:Int) (rs.map (red M)))(hn:n<=6){j k:Int}(j0:0<=j)(k0:0<=k/\k<(n:Int))(h:Rch (rs.map (red M)) j k):∃w,dR [.lst (rs.map bG),bC n (RT (rs.map (red M))),.int j,.int k]=some (tupI w)/\IsF (rs.map (red M)) k j w:=by
 suffices h:∃d,dR [.lst (rs.map bG),bC n (RT (rs.map (red M))),.int j,.int k]=some d/\∃w,d=tupI w/\IsF (rs.map (red M)) k j w by
  obtain⟨d,e,w,rfl,h⟩:=h;exact⟨w,e,h⟩
 refine dJ ?_;unfold lY;rw[aF (aN (d:=tupI []) (by ac_rfl))];have jk:=Rch.le g h;refine E9 (λm ρ=>∃(z:Int) (w:List Int) (o:Option D),ρ=[some (.lst (rs.map bG)),some (bC n (RT (rs.map (red M)))),some (.int z),some (.int k),some (tupI w),o]/\0<=z/\Rch (rs.map (red M)) z k/\(k-z).toNat=m/\(w.length:Int)<=z/\∀v,IsF (rs.map (red M)) k z v->IsF (rs.map (red M)) k j (w++v)) (λρ=>∃(w:List Int) (o:Option D),ρ=[some (.lst (rs.map bG)),some (bC n (RT (rs.map (red M)))),some (.int k),some (.int k),some (tupI w),o]/\IsF (rs.map (red M)) k j w) (k-j).toNat (by lia) ⟨j,[],none,by ac_rfl,j0,h,rfl,by simp[-zad,-zae,aA,aD];lia,λv B=>B⟩ ?_ ?_
 ·rintro m ρ ⟨z,w,o,rfl,G,N,hm,hw,B⟩
  by_cases ne:z=k
  ·subst ne
   refine .inr ⟨by simp[-zad,-zae,aA,aD],w,o,rfl,?_⟩;have:=B [] rfl
   rwa [zcC]at this
  ·obtain⟨r,q,e,h1,h2,U,W⟩:=zL g (d4:=tupI w) (o5:=o) G k0 N ne
   have at_:=vR h1;have J:=g.jk (red M q) (zeI (dZ h1));have J:0<=q.j/\q.j<q.k/\q.k<(n:Int):=J;have qk:=Rch.le g U;have ab:=Rch.le g N;have Y:=IF (w:=w) (x:=(r:Int)) (by lia);have es:∀ {g h k:Sv} {ρ:cY},bD g (bD h k) ρ=bD (bD g h) k ρ:=by
    intro g h k ρ;unfold bD;cases g ρ with
    | none=>rfl
    | some o=>cases o <;> rfl
   refine .inl ⟨by simp_all[ne],(k-q.k).toNat,[some (.lst (rs.map bG)),some (bC n (RT (rs.map (red M)))),some (.int q.k),some (.int k),some (tupI (w++[(r:Int)])),some (.int (r:Int))],by lia,?_,q.k,w++[(r:Int)],_,rfl,by lia,U,rfl,by simp[-zad,-zae,aA,aD];lia,λv F=>?_⟩
   ·rw[es,aF e]
    simp_all[Y,at_,UR]
   ·rw[ze3]
    exact B _ ⟨red M q,by rw[nH,h1];rfl,h2,F,W⟩
 ·rintro ρ ⟨w,o,rfl,hw⟩
  exact⟨_,by simp[-zad,-zae,aA,aD] <;> rfl,w,rfl,hw⟩
theorem IsF.at_:∀ {x:Int} {w:List Int},IsF R k x w->∀n∈w,∃r,eI R n=some r
 | _,[],_,_,h=>nomatch h
 | _,m::w,⟨r,hr,_,h2,_⟩,n,hn=>by
  rcases List.mem_cons.mp hn with z|z
  ·exact⟨r,z ▸ hr⟩
  ·exact IsF.at_ h2 n z
theorem IsF.len(g:GR M many R):∀ {x:Int} {w:List Int},IsF R k x w->(w.length:Int)<=k-x
 | x,[],h=>by have h:x=k:=h;simp[-zad,-zae,aA,aD];lia
 | x,m::w,⟨r,hr,hj,h2,_⟩=>by
  have a:=IsF.len g h2;have b:=(g.jk r (dZ hr)).2.1;simp[-zad,-zae,aA,aD];lia
theorem eQ{M:Int}{rs:List Ro}(h0:0<M)(B:M<10^60)(hb:∀r∈rs,Bd 61 r.a/\Bd 61 r.b){w:List Int}(hw:∀n∈w,∃r,eI (rs.map (red M)) n=some r){x:Int}(Y:0<=x/\x<M):gW [.int M,.lst (rs.map bG),tupI w,.int x]=some (.int (bV (rs.map (red M)) M x w)):=by
 refine aM ?_;unfold mD;refine c7 (items:=w.map .int) (by ac_rfl) (λi ρ=>∃o,ρ=[some (.int M),some (.lst (rs.map bG)),some (tupI w),some (.int (bV (rs.map (red M)) M x (w.take i))),o]) ⟨none,by ac_rfl⟩ ?_ ?_
 ·rintro i y ρ G ⟨o,rfl⟩
  rw[zaB]at G;obtain⟨n,U,rfl⟩:=map_some G;obtain⟨r,J⟩:=hw n (zaX U);have z:=J;rw[nH]at z;obtain⟨q,N,rfl⟩:=map_some z;have bq:=hb q (dZ N);have F:=cW (rs:=rs.map (red M)) h0 (w.take i) x Y;have es:bV (rs.map (red M)) M x (w.take (i+1))=((red M q).a*bV (rs.map (red M)) M x (w.take i)+(red M q).b)%M:=by
   rw[zbW,U];unfold bV;rw[zff];simp_all[J]
  have at_:=vR N;generalize bV (rs.map (red M)) M x (w.take i)=y at F es;have mu:=bq.1.mulH (Bd.of B ⟨F.1,zbV F.2⟩) (by decide) (by decide);have W:(q.a*y+q.b)%M=bV (rs.map (red M)) M x (w.take (i+1)):=by
   rw[es];show _=(q.a%M*y+q.b%M)%M;refine cS ?_;have d1:M∣q.a-q.a%M:=zfk;have d2:M∣q.b-q.b%M:=zfk;have:q.a*y+q.b-(q.a%M*y+q.b%M)=(q.a*y-q.a%M*y)+(q.b-q.b%M):=by lia
   rw[this];exact zaF (a7 d1 (aS M y)) d2
  refine⟨_,?_,some (.int n),rfl⟩;rw[<- W];simp_all[turn,at_,YG,YH,mu,bB h0]
 ·rintro ρ ⟨o,rfl⟩
  simp[-zad,-zae,aA,aD]
theorem XJ:aH (f9 M c n rs ms) (.int 0)=some (.int M):=by unfold f9;rw[q_itT];exact at0
theorem II(h0:0<M)(q:M<10^60)(z:0<=a/\a<M)(B:0<=x/\x<M):xH [.int M,.tup [.int a,.int b],.int x]=some (.int ((a*x+b)%M)):=by
 have F:=(Bd.of q ⟨z.1,zbV z.2⟩).mulH (Bd.of q ⟨B.1,zbV B.2⟩) (by decide) (by decide);refine aM ?_;simp_all[xS,aK,at0,at1,F,BK h0]
theorem TC(h0:0<M)(q:M<10^60)(B:0<=a/\a<M)(F:0<=b/\b<M)(z:0<=c/\c<M):JD [.int M,.tup [.int a,.int b],.tup [.int c,.int d]]=some (.tup [.int (a*c%M),.int ((c*b+d)%M)]):=by
 have G:=(Bd.of q ⟨B.1,zbV B.2⟩).mulH (Bd.of q ⟨z.1,zbV z.2⟩) (by decide) (by decide);refine aM ?_;simp_all[JX,aK,at0,at1,G,BK h0,II h0 q z F]
theorem sW(N:aH bk (.int 0)=some (.int M))(U:aH bk (.int 2)=some (.tup (R.map bG)))(h3:3<=M)(q:M<10^60)(g:GR M many R)(hw:∀n∈w,∃r,eI R n=some r):iF [bk,tupI w]=some (y9 (fP R M (1,0) w)):=by
 have h0:0<M:=by lia
 refine aM ?_;unfold tO;rw[aF (aN (d:=y9 (1,0)) (by ac_rfl))];refine c7 (items:=w.map .int) (by ac_rfl) (λi ρ=>∃B,ρ=[some bk,some (tupI w),some (y9 (fP R M (1,0) (w.take i))),B]) ⟨none,by ac_rfl⟩ ?_ ?_
 ·rintro i x ρ G ⟨B,rfl⟩
  rw[zaB]at G;obtain⟨n,J,rfl⟩:=map_some G;obtain⟨r,z⟩:=hw n (zaX J);have W:=g.ab r (dZ z);have F:=vN (rs:=R) h0 (w.take i) (1,0) 0 0 ⟨by decide,by show(1:Int)<M;lia⟩ ⟨by decide,by show(0:Int)<M;lia⟩ (by simp[-zad,-zae,aA,aD]);have es:fP R M (1,0) (w.take (i+1))=((fP R M (1,0) (w.take i)).1*r.a%M,(r.a*(fP R M (1,0) (w.take i)).2+r.b)%M):=by
   rw[zbW,J];unfold fP;rw[zff];simp_all[z]
  refine⟨[some bk,some (tupI w),some (y9 (fP R M (1,0) (w.take (i+1)))),some (.int n)],?_,_,rfl⟩;rw[es];generalize fP R M (1,0) (w.take i)=t at F;have Y:=TC (M:=M) (a:=t.1) (b:=t.2) (c:=r.a) (d:=r.b) h0 q F.1 F.2.1 W.1;simp_all[turn,N,U,vR z,VL,y9,Y]
 ·rintro ρ' ⟨B,rfl⟩
  simp[-zad,-zae,aA,aD]
open Classical in
def fwd(R:List Ro)(j k:Int):List Int:=if h:∃w,IsF R k j w then h.choose else []
theorem JQ(g:GR M many R)(h:IsF R k j w):fwd R j k=w:=by
 have ex:∃w,IsF R k j w:=⟨w,h⟩;unfold fwd;rw[dif_pos ex];exact IsF.uniq g ex.choose_spec h
theorem CF{M:Int}{n:Nat}{R:List Ro}{bk:D}(F:aH bk (.int 2)=some (.tup (R.map bG)))(g:GR M (n:Int) R)(J:n<=6){j k:Int}(G:0<=j/\j<(n:Int))(B:0<=k/\k<(n:Int)):(Rch R j k->cV [bk,.int j,.int k]=some (tupI (fwd R j k))/\IsF R k j (fwd R j k))/\(¬ Rch R j k->cV [bk,.int j,.int k]=some .non):=by
 obtain⟨d,e,h⟩:=wC F g (j:=j) (k:=k) ⟨G.1,by lia⟩ ⟨B.1,by lia⟩;rcases h with⟨rfl,q⟩|⟨w,rfl,hw⟩
 ·exact⟨λz=>absurd z q,λ_=>e⟩
 ·have:=JQ g hw
  exact⟨λ_=>by rw[this];exact⟨e,hw⟩,λz=>absurd hw.rch z⟩
theorem nI{M:Int}{n:Nat}{rs:List Ro}(g:GR M (n:Int) (rs.map (red M)))(z:n<=6){j k:Int}(q:0<=j)(k0:0<=k/\k<(n:Int))(h:Rch (rs.map (red M)) j k):dR [.lst (rs.map bG),bC n (RT (rs.map (red M))),.int j,.int k]=some (tupI (fwd (rs.map (red M)) j k))/\IsF (rs.map (red M)) k j (fwd (rs.map (red M)) j k):=by
 obtain⟨w,e,hw⟩:=wF g z q k0 h;rw[JQ g hw];exact⟨e,hw⟩
theorem KB(q:3<=M)(w:List Int)(v:Int):(0<=(fP R M (1,0) w).1/\(fP R M (1,0) w).1<M)/\(0<=(fP R M (1,0) w).2/\(fP R M (1,0) w).2<M)/\M∣((fP R M (1,0) w).1*v+(fP R M (1,0) w).2)-bV R M v w:=by
 obtain⟨a,b,c⟩:=vN (rs:=R) (M:=M) (by lia) w (1,0) v v ⟨by decide,by show(1:Int)<M;lia⟩ ⟨by decide,by show(0:Int)<M;lia⟩ (by simp[-zad,-zae,aA,aD]);exact⟨a,b,WU c.symm⟩
noncomputable def un(n p:Nat):List Int:=if n=1 then [1]else if p=0 then [1,0]else [0,1]
theorem iI{M:Int}(h0:0<M){n p:Nat}(h:(n=1/\p=0)\/(n=2/\(p=0\/p=1))):fB [.int M,.int (n:Int),.int (p:Int)]=some (fD (fm M [(un n p,1)]))/\Fo M (un n p) (fm M [(un n p,1)])/\∀vs:List Int,vs.length=n->M∣ev vs (fm M [(un n p,1)])-vs.getD p 0:=by
 have W:n=1\/n=2:=by lia
 have F:Bd 61 1:=⟨by decide +kernel,by decide +kernel⟩;have U:=V_form (M:=M) (n:=n) (ts:=[(un n p,1)]) h0 W (by simp[-zad,-zae,aA,aD]) (λt z=>by
  rw[List.mem_singleton.mp z];rcases h with⟨rfl,rfl⟩|⟨rfl,rfl|rfl⟩
  ·exact⟨rfl,by ac_rfl,F⟩
  ·exact⟨rfl,by ac_rfl,F⟩
  ·exact⟨rfl,by ac_rfl,F⟩)
 obtain⟨f,v⟩:=KI (M:=M) h0 (d:=un n p) (ts:=[(un n p,1)]) (λt z=>by
  rw[List.mem_singleton.mp z];rcases h with⟨rfl,rfl⟩|⟨rfl,rfl|rfl⟩
  ·exact⟨by decide,by decide⟩
  ·exact⟨⟨by decide,by decide⟩,by decide,by decide⟩
  ·exact⟨⟨by decide,by decide⟩,by decide,by decide⟩)
 refine⟨aM ?_,f,λvs B=>?_⟩
 ·have q:rB [.int M,.int (n:Int),.lst ([(un n p,1)].map bN)]=some (fD (fm M [(un n p,1)])):=U
  generalize fD (fm M [(un n p,1)])=r at q ⊢;have N:aX 1=true:=by decide
  have J:aX 2=true:=by decide
  have Y:cR [.int 1]=some [.int 0]:=rfl;have G:cR [.int 2]=some [.int 0,.int 1]:=rfl;rcases h with⟨rfl,rfl⟩|⟨rfl,rfl|rfl⟩
  ·simp[-zad,-zae,aA,aD,un,bN,tupI]at q
   simp_all[iK,aK,Y,N,nW,bR,q]
  ·simp[-zad,-zae,aA,aD,un,bN,tupI]at q
   simp_all[iK,aK,G,J,nW,bR,q]
  ·simp[-zad,-zae,aA,aD,un,bN,tupI]at q
   simp_all[iK,aK,G,J,nW,bR,q]
 ·have:=v vs
  have e:ev vs [(un n p,1)]=vs.getD p 0:=by
   rw[bH,lI];rcases h with⟨rfl,rfl⟩|⟨rfl,rfl|rfl⟩
   ·obtain⟨x,rfl⟩:=List.length_eq_one_iff.mp B
    simp_all[un,mon,zbD]
   ·obtain⟨x,y,rfl⟩:=f6 B
    simp_all[un,mon,zbD]
   ·obtain⟨x,y,rfl⟩:=f6 B
    simp_all[un,mon,zbD]
  rw[e]at this;exact this
theorem Q1(h:(n=1/\p=0)\/(n=2/\(p=0\/p=1))):((un n p).length:Int)=(n:Int)/\Bx (un n p) (zN (n:Int))/\BS (un n p):=by
 rcases h with⟨rfl,rfl⟩|⟨rfl,rfl|rfl⟩
 ·exact⟨rfl,⟨by decide,by decide⟩,show(1:Int)<=6 by decide⟩
 ·exact⟨rfl,⟨⟨by decide,by decide⟩,by decide,by decide⟩,⟨by decide,by decide⟩⟩
 ·exact⟨rfl,⟨⟨by decide,by decide⟩,by decide,by decide⟩,⟨by decide,by decide⟩⟩
theorem fR{M:Int}{z:Nat}{R:List Ro}{bk:D}(B:aH bk (.int 0)=some (.int M))(N:aH bk (.int 2)=some (.tup (R.map bG)))(U:3<=M)(q:M<10^60)(g:GR M (z:Int) R)(F:z<=6){n p:Nat}(h:(n=1/\p=0)\/(n=2/\(p=0\/p=1))){j k:Int}(hj:0<=j/\j<(z:Int))(hk:0<=k/\k<(z:Int))(hr:Rch R j k):cV [bk,.int j,.int k]=some (tupI (fwd R j k))/\iF [bk,tupI (fwd R j k)]=some (y9 (fP R M (1,0) (fwd R j k)))/\∃H,bE [.int M,.int (n:Int),y9 (fP R M (1,0) (fwd R j k)),fD (fm M [(un n p,1)])]=some (fD H)/\Fo M (un n p) H/\∀vs:List Int,vs.length=n->M∣ev vs H-bV R M (vs.getD p 0) (fwd R j k):=by
 have h0:0<M:=by lia
 obtain⟨e1,f1⟩:=(CF N g F hj hk).1 hr;have e2:=sW B N U q g (IsF.at_ f1);obtain⟨e3,Y,v3⟩:=iI (M:=M) h0 h;obtain⟨b1,b2,b3⟩:=Q1 h;have hn:(n:Int)=1\/(n:Int)=2:=by lia
 obtain⟨H,eh,fh,vh⟩:=eV (a:=(fP R M (1,0) (fwd R j k)).1) (b:=(fP R M (1,0) (fwd R j k)).2) h0 q hn b1 b2 b3 Y;refine⟨e1,e2,H,eh,fh,λvs W=>?_⟩;obtain⟨_,_,d⟩:=KB (R:=R) U (fwd R j k) (vs.getD p 0);have G:=vh vs (by lia);have J:=a7 (aS M (fP R M (1,0) (fwd R j k)).1) (v3 vs W);generalize fP R M (1,0) (fwd R j k)=t at G J d;generalize ev vs (fm M [(un n p,1)])=y at G J;have:ev vs H-bV R M (vs.getD p 0) (fwd R j k)=(ev vs H-(t.1*y+t.2))+(t.1*y-t.1*vs.getD p 0)+(t.1*vs.getD p 0+t.2-bV R M (vs.getD p 0) (fwd R j k)):=by lia
 rw[this];exact zaF (zaF G J) d
def qb(R:List Ro)(M:Int)(F:Int->Int->List Int):List Int->List Int->List Int->List Int
 | k::ks,t::ts,v::vs=>bV R M v (F k t)::qb R M F ks ts vs
 | _,_,_=>[]
def sv(R:List Ro)(M:Int)(m:Mk)(ks vs:List Int):Int:=ev (qb R M (fwd R) ks m.tk vs) m.ts%M
theorem fits_of(h:jW R ks tk=true):ks.length=tk.length/\∀p∈nE ks tk,Rch R p.1 p.2:=by
 unfold jW at h;rw[zaK,zcO]at h;exact⟨of_decide_eq_true h.1,λp q=>hJ.mp (h.2 p q)⟩
theorem OkT.bx1(h:OkT 1 t):Bx [2] t.1:=by
 obtain⟨x,e⟩:=List.length_eq_one_iff.mp h.1;have:=h.2.1 x (by rw[e];simp[-zad,-zae,aA,aD]);rw[e];exact this
theorem OkT.bx2(h:OkT 2 t):Bx [2,2] t.1:=by
 obtain⟨x,y,e⟩:=f6 h.1;have a:=h.2.1 x (by rw[e];simp[-zad,-zae,aA,aD]);have b:=h.2.1 y (by rw[e];simp[-zad,-zae,aA,aD]);rw[e];exact⟨a,b⟩
structure Bok(M:Int)(n:Nat)(rs:List Ro)(ms:List Mk):Prop where
 h3:3<=M
 h60:M<10^60
 hn:1<=n/\n<=6
 g:GR M (n:Int) (rs.map (red M))
 rb:∀r∈rs,Bd 61 r.a/\Bd 61 r.b
 ml:ms.length<=5
 mo:∀m∈ms,OkM (n:Int) 7 m
theorem ZL:aH (gA M m) (.int 3)=some (fD (fm M m.ts)):=by unfold gA;rw[q_itT];exact X4
theorem W7:aH (gA M m) (.int 2)=some (.int m.gv):=by unfold gA;rw[q_itT];exact at2
theorem l5{M c:Int}{n:Nat}{rs:List Ro}{ms:List Mk}(B:Bok M n rs ms){i:Int}{m:Mk}(hm:m∈ms)(hi:dX (ms.map (gA M)) i=some (gA M m)){ks:List Int}(hk:∀k∈ks,0<=k/\k<(n:Int))(hf:jW (rs.map (red M)) ks m.tk=true):∃(H:List My.Tm) (dd:List Int),mQ [f9 M c n rs ms,.int i,tupI ks]=some (fD H)/\Fo M dd H/\BS dd/\Bx dd (zN (ks.length:Int))/\dd.length=ks.length/\∀vs:List Int,vs.length=ks.length->ev vs H%M=sv (rs.map (red M)) M m ks vs:=by
 have h0:0<M:=by have:=B.h3;lia
 have ok:=B.mo m hm;obtain⟨hl,hr⟩:=fits_of hf;have h3:aH (f9 M c n rs ms) (.int 3)=some (.tup (ms.map (gA M))):=XM;have hB:aH (f9 M c n rs ms) (.int 2)=some (.tup ((rs.map (red M)).map bG)):=XE;have N:aH (f9 M c n rs ms) (.int 0)=some (.int M):=XJ;have g:=B.g;generalize f9 M c n rs ms=bk at h3 hB N ⊢;generalize rs.map (red M)=R at g hB hr ⊢;have b3:=ZL (M:=M) (m:=m);have b1:=WT (M:=M) (m:=m);generalize gA M m=bm at hi b3 b1;rcases ok.tk with⟨t,G⟩|⟨t,u,G⟩
 ·obtain⟨k,rfl⟩:=List.length_eq_one_iff.mp (show ks.length=1 by rw[hl,G];rfl)
  have tb:=ok.tb t (by rw[G];simp[-zad,-zae,aA,aD]);have kb:=hk k (by simp[-zad,-zae,aA,aD]);have rc:=hr (k,t) (by rw[G];exact zas ..);obtain⟨e1,e2,I,e3,f3,v3⟩:=fR (n:=1) (p:=0) N hB B.h3 B.h60 g B.hn.2 (.inl ⟨rfl,rfl⟩) kb tb rc;obtain⟨e4,_,_⟩:=iI (M:=M) h0 (n:=1) (p:=0) (.inl ⟨rfl,rfl⟩);obtain⟨fo,vo⟩:=KI (M:=M) h0 (d:=[2]) (ts:=m.ts) λq hq=>by
   have:=ok.tt q hq;rw[G]at this;exact this.bx1
  obtain⟨H,W,f5,v5⟩:=S9 h0 B.h60 fo f3;refine⟨H,[2],aM ?_,f5,show(2:Int)<=6 by decide,⟨by decide,by decide⟩,rfl,λvs hv=>?_⟩
  ·rw[G]at b1
   have z0:aX 0=true:=by decide
   have U:fB [.int M,.int 1,.int 0]=some (fD (fm M [(un 1 0,1)])):=e4;have F:bE [.int M,.int 1,y9 (fP R M (1,0) (fwd R k t)),fD (fm M [(un 1 0,1)])]=some (fD I):=e3;generalize y9 (fP R M (1,0) (fwd R k t))=tt at e2 F;generalize tupI (fwd R k t)=ff at e1 e2;generalize fD (fm M [(un 1 0,1)])=uu at F U;generalize fD (fm M m.ts)=oo at b3 W;generalize fD I=ii at F W;generalize fD H=hh at W ⊢;simp_all[gI,aK,N,h3,hi,b1,b3,tupI,fM,cE,at0,e1,e2,U,F,z0,W]
  ·obtain⟨x,rfl⟩:=List.length_eq_one_iff.mp hv
   have x1:=v5 [x] rfl;have x2:=uY (M:=M) (vs:=[ev [x] I]) (us:=[bV R M x (fwd R k t)]) rfl (λp hp=>by
    rw[List.mem_singleton.mp hp];exact v3 [x] rfl) (fm M m.ts)
   have x3:=vo [bV R M x (fwd R k t)];unfold sv;rw[G];refine cS ?_;show M∣ev [x] H-ev [bV R M x (fwd R k t)] m.ts;have:ev [x] H-ev [bV R M x (fwd R k t)] m.ts=(ev [x] H-ev [ev [x] I] (fm M m.ts))+(ev [ev [x] I] (fm M m.ts)-ev [bV R M x (fwd R k t)] (fm M m.ts))+(ev [bV R M x (fwd R k t)] (fm M m.ts)-ev [bV R M x (fwd R k t)] m.ts):=by lia
   rw[this];exact zaF (zaF x1 x2) x3
 ·obtain⟨k,l,rfl⟩:=f6 (show ks.length=2 by rw[hl,G];rfl)
  have tb:=ok.tb t (by rw[G];simp[-zad,-zae,aA,aD]);have ub:=ok.tb u (by rw[G];simp[-zad,-zae,aA,aD]);have kb:=hk k (by simp[-zad,-zae,aA,aD]);have lb:=hk l (by simp[-zad,-zae,aA,aD]);have rc:=hr (k,t) (by rw[G];exact zas ..);have rd:=hr (l,u) (by rw[G];exact zav _ (zas ..));obtain⟨e1,e2,I,e3,f3,v3⟩:=fR (n:=2) (p:=0) N hB B.h3 B.h60 g B.hn.2 (.inr ⟨rfl,.inl rfl⟩) kb tb rc;obtain⟨d1,d2,J,d3,j3,w3⟩:=fR (n:=2) (p:=1) N hB B.h3 B.h60 g B.hn.2 (.inr ⟨rfl,.inr rfl⟩) lb ub rd;obtain⟨e4,_,_⟩:=iI (M:=M) h0 (n:=2) (p:=0) (.inr ⟨rfl,.inl rfl⟩);obtain⟨d4,_,_⟩:=iI (M:=M) h0 (n:=2) (p:=1) (.inr ⟨rfl,.inr rfl⟩);obtain⟨fo,vo⟩:=KI (M:=M) h0 (d:=[2,2]) (ts:=m.ts) λq hq=>by
   have:=ok.tt q hq;rw[G]at this;exact this.bx2
  obtain⟨H,W,f5,v5⟩:=S0 h0 B.h60 fo f3 j3;refine⟨H,[3,2],aM ?_,f5,⟨by decide,by decide⟩,⟨⟨by decide,by decide⟩,by decide,by decide⟩,rfl,λvs hv=>?_⟩
  ·rw[G]at b1
   have z0:aX 0=true:=by decide
   have z1:aX 1=true:=by decide
   have U:fB [.int M,.int 2,.int 0]=some (fD (fm M [(un 2 0,1)])):=e4;have F:bE [.int M,.int 2,y9 (fP R M (1,0) (fwd R k t)),fD (fm M [(un 2 0,1)])]=some (fD I):=e3;have ab:fB [.int M,.int 2,.int 1]=some (fD (fm M [(un 2 1,1)])):=d4;have Y:bE [.int M,.int 2,y9 (fP R M (1,0) (fwd R l u)),fD (fm M [(un 2 1,1)])]=some (fD J):=d3;generalize y9 (fP R M (1,0) (fwd R k t))=tt at e2 F;generalize tupI (fwd R k t)=ff at e1 e2;generalize y9 (fP R M (1,0) (fwd R l u))=t2 at d2 Y;generalize tupI (fwd R l u)=f2 at d1 d2;generalize fD (fm M [(un 2 0,1)])=uu at F U;generalize fD (fm M [(un 2 1,1)])=u2 at Y ab;generalize fD (fm M m.ts)=oo at b3 W;generalize fD I=ii at F W;generalize fD J=jj at Y W;generalize fD H=hh at W ⊢;simp_all[gI,aK,N,h3,hi,b1,b3,tupI,fM,cE,at0,at1,e1,e2,U,F,d1,d2,ab,Y,z0,z1,W]
  ·obtain⟨x,y,rfl⟩:=f6 hv
   have x1:=v5 [x,y] rfl;have x2:=uY (M:=M) (vs:=[ev [x,y] I,ev [x,y] J]) (us:=[bV R M x (fwd R k t),bV R M y (fwd R l u)]) rfl (λp hp=>by
    rcases List.mem_cons.mp hp with z|z
    ·rw[z];exact v3 [x,y] rfl
    ·rw[List.mem_singleton.mp z];exact w3 [x,y] rfl) (fm M m.ts)
   have x3:=vo [bV R M x (fwd R k t),bV R M y (fwd R l u)];unfold sv;rw[G];refine cS ?_;show M∣ev [x,y] H-ev [bV R M x (fwd R k t),bV R M y (fwd R l u)] m.ts;have:ev [x,y] H-ev [bV R M x (fwd R k t),bV R M y (fwd R l u)] m.ts=(ev [x,y] H-ev [ev [x,y] I,ev [x,y] J] (fm M m.ts))+(ev [ev [x,y] I,ev [x,y] J] (fm M m.ts)-ev [bV R M x (fwd R k t),bV R M y (fwd R l u)] (fm M m.ts))+(ev [bV R M x (fwd R k t),bV R M y (fwd R l u)] (fm M m.ts)-ev [bV R M x (fwd R k t),bV R M y (fwd R l u)] m.ts):=by lia
   rw[this];exact zaF (zaF x1 x2) x3
theorem qM(h0:0<M)(B:M<10^60)(J:0<=x/\x<M)(W:0<=e/\e<=100)(U:Bd 61 c):∃(q:Int) (z:Option D),Bd 61 q/\M∣q-c*x^e.toNat/\turn (b7 2 (aR (aL 6) (aR (aL 7) cC))) (jV (lR cR (aC (aB 6) aY)) (aL 8) (bQ 5 (aZ dS (aZ b5 (aB 5) (aB 7)) (aB 0)))) (.tup [.int e,.int x]) [some (.int M),some d1,some d2,some d3,some d4,some (.int c),o6,o7,o8]=some (.nx [some (.int M),some d1,some d2,some d3,some d4,some (.int q),some (.int e),some (.int x),z]):=by
 obtain⟨ρ',er,q,z,rfl,G,F⟩:=fY (g:=aL 8) (b:=(bQ 5 (aZ dS (aZ b5 (aB 5) (aB 7)) (aB 0)))) (items:=aV 0 1 e.toNat) (ρ:=[some (.int M),some d1,some d2,some d3,some d4,some (.int c),some (.int e),some (.int x),o8]) (λi ρ=>∃(q:Int) (z:Option D),ρ=[some (.int M),some d1,some d2,some d3,some d4,some (.int q),some (.int e),some (.int x),z]/\Bd 61 q/\M∣q-c*x^i) ⟨c,o8,rfl,U,by rw[zcS,zby];exact aS M c⟩ (by
  rintro i y ρ hy ⟨q,z,rfl,G,F⟩;have Y:=G.mulH (Bd.of B ⟨J.1,zbV J.2⟩) (by decide) (by decide);refine⟨_,by simp_all[turn,Y,bB h0] <;> rfl,q*x%M,some y,rfl,Bd.mod h0 B,?_⟩;have d1:M∣q*x%M-q*x:=iR;have d2:=a7 F (aS M x);rw[zbD,<- zbC];have:q*x%M-c*x^i*x=(q*x%M-q*x)+(q*x-c*x^i*x):=by lia
  rw[this];exact zaF d1 d2)
 rw[a8]at F;refine⟨q,z,G,F,?_⟩;have N:=d8 W.1 (show e<=1000000 by lia);simp_all[turn,N];exact er
theorem oB(h0:0<M)(z:M<10^60)(hl:vs.length=nn)(hn:nn=1\/nn=2)(ht:∀t∈ts,OkT nn t)(W:∀v∈vs,0<=v/\v<M):oR [.int M,.lst (ts.map bN),.lst (vs.map .int)]=some (.int (ev vs ts%M)):=by
 refine aM ?_;unfold oP;rw[aF (aN (d:=.int 0) (by simp[-zad,-zae,aA,aD]))];refine c7 (items:=ts.map bN) (by ac_rfl) (λi ρ=>∃(Y o5 o6 o7 o8:Option D),ρ=[some (.int M),some (.lst (ts.map bN)),some (.lst (vs.map .int)),some (.int (ev vs (ts.take i)%M)),Y,o5,o6,o7,o8]) ⟨none,none,none,none,none,by ac_rfl⟩ ?_ ?_
 ·rintro i y ρ hy ⟨Y,o5,o6,o7,o8,rfl⟩
  rw[zaB]at hy;obtain⟨t,F,rfl⟩:=map_some hy;obtain⟨t1,U,t3⟩:=ht t (zaX F);have et:ts.take (i+1)=ts.take i++[t]:=by rw[zbW,F];rfl
  generalize hout:ev vs (ts.take i)=out;have inner:∃(q:Int) (N J B:Option D),M∣q-t.2*mon t.1 vs/\cE (b7 2 (aR (aL 6) (aR (aL 7) cC))) (jV (lR cR (aC (aB 6) aY)) (aL 8) (bQ 5 (aZ dS (aZ b5 (aB 5) (aB 7)) (aB 0)))) (iA (t.1.map .int) (vs.map .int)) [some (.int M),some (.lst (ts.map bN)),some (.lst (vs.map .int)),some (.int (out%M)),some (tupI t.1),some (.int t.2),o6,o7,o8]=some (.nx [some (.int M),some (.lst (ts.map bN)),some (.lst (vs.map .int)),some (.int (out%M)),some (tupI t.1),some (.int q),N,J,B]):=by
   obtain⟨k,c⟩:=t;rcases hn with rfl|rfl
   ·obtain⟨v,rfl⟩:=List.length_eq_one_iff.mp hl
    obtain⟨e,rfl⟩:=List.length_eq_one_iff.mp t1;have e2:=U e (by simp[-zad,-zae,aA,aD]);obtain⟨q,B,b1,d1,er⟩:=qM (d1:=.lst (ts.map bN)) (d2:=.lst ([v].map .int)) (d3:=.int (out%M)) (d4:=tupI [e]) (o6:=o6) (o7:=o7) (o8:=o8) h0 z (W v (by simp[-zad,-zae,aA,aD])) (show 0<=e/\e<=100 by lia) t3;refine⟨q,some (.int e),some (.int v),B,?_,?_⟩
    ·show M∣q-c*(v^e.toNat*1)
     rw[zby];exact d1
    ·show cE _ _ [D.tup [.int e,.int v]] _=_
     unfold turn at er;unfold cE;obtain⟨ρ1,z1,z2⟩:=bind_some er;rw[z1,aA,z2,aA];rfl
   ·obtain⟨v,u,rfl⟩:=f6 hl
    obtain⟨e,f,rfl⟩:=f6 t1;have e2:=U e (by simp[-zad,-zae,aA,aD]);have f2:=U f (by simp[-zad,-zae,aA,aD]);obtain⟨q,B,b1,d1,er⟩:=qM (d1:=.lst (ts.map bN)) (d2:=.lst ([v,u].map .int)) (d3:=.int (out%M)) (d4:=tupI [e,f]) (o6:=o6) (o7:=o7) (o8:=o8) h0 z (W v (by simp[-zad,-zae,aA,aD])) (show 0<=e/\e<=100 by lia) t3;obtain⟨G,q8,b2,d2,es⟩:=qM (d1:=.lst (ts.map bN)) (d2:=.lst ([v,u].map .int)) (d3:=.int (out%M)) (d4:=tupI [e,f]) (o6:=some (.int e)) (o7:=some (.int v)) (o8:=B) h0 z (W u (by simp[-zad,-zae,aA,aD])) (show 0<=f/\f<=100 by lia) b1;refine⟨G,some (.int f),some (.int u),q8,?_,?_⟩
    ·show M∣G-c*(v^e.toNat*(u^f.toNat*1))
     rw[zby,<- zbC];have d3:=a7 d1 (aS M (u^f.toNat));have:G-c*v^e.toNat*u^f.toNat=(G-q*u^f.toNat)+(q*u^f.toNat-c*v^e.toNat*u^f.toNat):=by lia
     rw[this];exact zaF d2 d3
    ·show cE _ _ [D.tup [.int e,.int v],D.tup [.int f,.int u]] _=_
     unfold turn at er es;unfold cE;obtain⟨ρ1,z1,z2⟩:=bind_some er;rw[z1,aA,z2,aA];show cE _ _ [D.tup [.int f,.int u]] _=_;unfold cE;obtain⟨ρ2,y1,y2⟩:=bind_some es;rw[y1,aA,y2,aA];rfl
  obtain⟨q,N,J,B,dc,ef⟩:=inner;have em:(out%M+q)%M=ev vs (ts.take (i+1))%M:=by
   rw[et,kM,hout];refine cS ?_;have d0:M∣out%M-out:=iR;have:out%M+q-(out+t.2*mon t.1 vs)=(out%M-out)+(q-t.2*mon t.1 vs):=by lia
   rw[this];exact zaF d0 dc
  refine⟨[some (.int M),some (.lst (ts.map bN)),some (.lst (vs.map .int)),some (.int (ev vs (ts.take (i+1))%M)),some (tupI t.1),some (.int q),N,J,B],?_,_,_,_,_,_,rfl⟩;rw[<- em];simp only[tupI]at ef;simp_all[turn,bN,tupI,ef,bB h0]
 ·rintro ρ ⟨Y,o5,o6,o7,o8,rfl⟩
  simp[-zad,-zae,aA,aD]
theorem YK:aH (bP m) (.int 3)=some (.lst (m.ts.map bN)):=by unfold bP;rw[q_itT];exact X4
theorem OK:aH (bP m) (.int 2)=some (.int m.gv):=by unfold bP;rw[q_itT];exact at2
theorem pH{M:Int}{n:Nat}{rs:List Ro}{ms:List Mk}(B:Bok M n rs ms){m:Mk}(hm:m∈ms){ks:List Int}(hk:∀k∈ks,0<=k/\k<(n:Int))(hf:jW (rs.map (red M)) ks m.tk=true){vs:List Int}(hv:vs.length=ks.length)(U:∀v∈vs,0<=v/\v<M):pC [.int M,.lst (rs.map bG),bC n (RT (rs.map (red M))),bP m,tupI ks,tupI vs]=some (.int (sv (rs.map (red M)) M m ks vs)):=by
 have h0:0<M:=by have:=B.h3;lia
 have ok:=B.mo m hm;obtain⟨hl,hr⟩:=fits_of hf;have W:=KQ (m:=m);have m3:=YK (m:=m);unfold sv;rcases ok.tk with⟨t,F⟩|⟨t,u,F⟩
 ·obtain⟨k,rfl⟩:=List.length_eq_one_iff.mp (show ks.length=1 by rw[hl,F];rfl)
  obtain⟨x,rfl⟩:=List.length_eq_one_iff.mp (show vs.length=1 from hv);have tb:=ok.tb t (by rw[F];simp[-zad,-zae,aA,aD]);have kb:=hk k (by simp[-zad,-zae,aA,aD]);have rc:=hr (k,t) (by rw[F];exact zas ..);obtain⟨N,f1⟩:=nI B.g B.hn.2 kb.1 tb rc;have Y:=U x (by simp[-zad,-zae,aA,aD]);have J:=eQ h0 B.h60 B.rb (IsF.at_ f1) Y;have gr:=cW (rs:=rs.map (red M)) h0 (fwd (rs.map (red M)) k t) x Y;have G:=oB (nn:=1) h0 B.h60 (ts:=m.ts) (vs:=[bV (rs.map (red M)) M x (fwd (rs.map (red M)) k t)]) rfl (.inl rfl) (λq hq=>by have:=ok.tt q hq;rw[F]at this;exact this) (λv h=>by rw[List.mem_singleton.mp h];exact gr);rw[F]at W ⊢;show _=some (D.int (ev [bV (rs.map (red M)) M x (fwd (rs.map (red M)) k t)] m.ts%M));have z0:aX 0=true:=by decide
  refine aM ?_;generalize ev [bV (rs.map (red M)) M x (fwd (rs.map (red M)) k t)] m.ts%M=y at G ⊢;generalize bV (rs.map (red M)) M x (fwd (rs.map (red M)) k t)=gg at J G;generalize tupI (fwd (rs.map (red M)) k t)=ff at N J;generalize bP m=md at W m3 ⊢;generalize bC n (RT (rs.map (red M)))=mt at N ⊢;simp[-zad,-zae,aA,aD]at G;simp_all[jO,aK,tupI,W,m3,eU,cE,N,J,z0,G]
 ·obtain⟨k,l,rfl⟩:=f6 (show ks.length=2 by rw[hl,F];rfl)
  obtain⟨x,y,rfl⟩:=f6 (show vs.length=2 from hv);have tb:=ok.tb t (by rw[F];simp[-zad,-zae,aA,aD]);have ub:=ok.tb u (by rw[F];simp[-zad,-zae,aA,aD]);have kb:=hk k (by simp[-zad,-zae,aA,aD]);have lb:=hk l (by simp[-zad,-zae,aA,aD]);have rc:=hr (k,t) (by rw[F];exact zas ..);have rd:=hr (l,u) (by rw[F];exact zav _ (zas ..));obtain⟨N,f1⟩:=nI B.g B.hn.2 kb.1 tb rc;obtain⟨d1,f2⟩:=nI B.g B.hn.2 lb.1 ub rd;have Y:=U x (by simp[-zad,-zae,aA,aD]);have yb:=U y (by simp[-zad,-zae,aA,aD]);have J:=eQ h0 B.h60 B.rb (IsF.at_ f1) Y;have d2:=eQ h0 B.h60 B.rb (IsF.at_ f2) yb;have gr:=cW (rs:=rs.map (red M)) h0 (fwd (rs.map (red M)) k t) x Y;have gs:=cW (rs:=rs.map (red M)) h0 (fwd (rs.map (red M)) l u) y yb;have G:=oB (nn:=2) h0 B.h60 (ts:=m.ts) (vs:=[bV (rs.map (red M)) M x (fwd (rs.map (red M)) k t),bV (rs.map (red M)) M y (fwd (rs.map (red M)) l u)]) rfl (.inr rfl) (λq hq=>by have:=ok.tt q hq;rw[F]at this;exact this) (λv h=>by
   rcases List.mem_cons.mp h with z|z
   ·rw[z];exact gr
   ·rw[List.mem_singleton.mp z];exact gs)
  rw[F]at W ⊢;show _=some (D.int (ev [bV (rs.map (red M)) M x (fwd (rs.map (red M)) k t),bV (rs.map (red M)) M y (fwd (rs.map (red M)) l u)] m.ts%M));have z0:aX 0=true:=by decide
  have z1:aX 1=true:=by decide
  refine aM ?_;generalize ev [bV (rs.map (red M)) M x (fwd (rs.map (red M)) k t),bV (rs.map (red M)) M y (fwd (rs.map (red M)) l u)] m.ts%M=yy at G ⊢;generalize bV (rs.map (red M)) M x (fwd (rs.map (red M)) k t)=gg at J G;generalize bV (rs.map (red M)) M y (fwd (rs.map (red M)) l u)=g2 at d2 G;generalize tupI (fwd (rs.map (red M)) k t)=ff at N J;generalize tupI (fwd (rs.map (red M)) l u)=f2 at d1 d2;generalize bP m=md at W m3 ⊢;generalize bC n (RT (rs.map (red M)))=mt at N d1 ⊢;simp[-zad,-zae,aA,aD]at G;simp_all[jO,aK,tupI,W,m3,eU,cE,N,J,d1,d2,z0,z1,G]
theorem BC{M:Int}(B:3<=M){nn:Nat}(z:nn=1\/nn=2){p:List Int}(h:p∈cX (nn:Int)):p.length=nn/\∀v∈p,0<=v/\v<M:=by
 obtain⟨a,b⟩:=RX (n:=(nn:Int)) (by lia) h;exact⟨by lia,λv q=>by have:=b v q;lia⟩
theorem BB(h:turn g b x ρ=some (.rt d)):cE g b (x::xs) ρ=some (.rt d):=by
 unfold turn at h;obtain⟨ρ1,z,q⟩:=bind_some h;rw[cE,z,aA,q,aA]
theorem rJ(h:turn g b x ρ=some (.nx ρ')):cE g b (x::xs) ρ=cE g b xs ρ':=by
 unfold turn at h;obtain⟨ρ1,z,q⟩:=bind_some h;rw[cE,z,aA,q,aA]
theorem turn_of(h:g x ρ=some ρ1)(k:b ρ1=o):turn g b x ρ=o:=by
 unfold turn;rw[h,aA,k]
theorem ON(h0:0<M):0<=sv R M m ks vs/\sv R M m ks vs<M:=⟨zaw _ (zaU h0),zax _ h0⟩
theorem uR(h0:0<M)(q:M<10^60)(z:0<=v/\v<M)(J:0<=e/\e<=1000):uQ [.int M,.int v,.int e]=some (.int (lS M v e.toNat)):=by
 refine aM ?_;unfold B1;rw[aF (aN (d:=.int 1) (by simp[-zad,-zae,aA,aD]))];have W:=d8 J.1 (show e<=1000000 by lia);refine c7 (items:=aV 0 1 e.toNat) (by ac_rfl) (λi ρ=>∃o,ρ=[some (.int M),some (.int v),some (.int e),some (.int (lS M v i)),o]) ⟨none,by ac_rfl⟩ ?_ ?_
 ·rintro i x ρ U ⟨o,rfl⟩
  refine⟨[some (.int M),some (.int v),some (.int e),some (.int (lS M v (i+1))),some x],?_,_,rfl⟩;have B:=JW (v:=v) h0 q i;have G:(10:Int)^60=1000000000000000000000000000000000000000000000000000000000000:=by decide +kernel
  have F:Bd 60 (lS M v i):=⟨by lia,B.2⟩;have N:=F.mulH (Bd.of q ⟨z.1,zbV z.2⟩) (by decide) (by decide);simp_all[turn,N,BK h0,lS]
 ·rintro ρ' ⟨o,rfl⟩
  simp_all[a8]
theorem oX(h0:0<M)(z:M<10^60)(f:Fo M d F)(lw:BS d)(hl:vs.length=d.length)(hv:∀v∈vs,0<=v/\v<M):bU [.int M,fD F,tupI vs]=some (.int (ev vs F%M)):=by
 have e0:sumF M vs F%M=ev vs F%M:=cS (B3 hl f.k.bx);rw[<- e0];refine aM ?_;unfold oN fD;rw[aF (aN (d:=.int 0) (by simp[-zad,-zae,aA,aD]))];refine c7 (items:=F.map bN) (by ac_rfl) (λi ρ=>∃o4 o5 o6 o7 o8,ρ=[some (.int M),some (.tup (F.map bN)),some (tupI vs),some (.int (sumF M vs (F.take i))),o4,o5,o6,o7,o8]) ⟨none,none,none,none,none,by ac_rfl⟩ ?_ ?_
 ·rintro i x ρ hx ⟨o4,o5,o6,o7,o8,rfl⟩
  rw[zaB]at hx;obtain⟨q,U,rfl⟩:=map_some hx;have W:=zaX U;have bq:=f.k.bx q W;have cq:=f.cb q W;have es:sumF M vs (F.take (i+1))=sumF M vs (F.take i)+prodF M vs q:=by rw[zbW,U];exact EY _ _ _ _
  have Y:∀(v:Int) (k:Nat),Bd 60 (lS M v k):=λv k=>by
   have:=JW (v:=v) h0 z k;have an:(10:Int)^60=1000000000000000000000000000000000000000000000000000000000000:=by decide +kernel
   exact⟨by lia,this.2⟩
  have B:∀o7 o8,∃p7 p8,cE (b7 2 (aR (aL 7) (aR (aL 8) cC))) (bQ 6 (aZ b5 (aB 6) (aP uQ (aC (aB 0) (aC (aB 8) (aC (aB 7) aY)))))) (iA (q.1.map .int) (vs.map .int)) [some (.int M),some (.tup (F.map bN)),some (tupI vs),some (.int (sumF M vs (F.take i))),some (tupI q.1),some (.int q.2),some (.int q.2),o7,o8]=some (.nx [some (.int M),some (.tup (F.map bN)),some (tupI vs),some (.int (sumF M vs (F.take i))),some (tupI q.1),some (.int q.2),some (.int (prodF M vs q)),p7,p8]):=by
   intro o7 o8;obtain⟨k,c⟩:=q;have bc:=Bd.of z (show 0<=c/\c<=M from⟨cq.1,zbV cq.2⟩);generalize sumF M vs (F.take i)=S;generalize D.tup (F.map bN)=FT;rcases bq.shape with⟨a,x,rfl,N,h⟩|⟨a,b,x,y,rfl,N,h⟩
   ·dsimp only at N
    subst N;have lx:a<=6:=lw;obtain⟨v,rfl⟩:=List.length_eq_one_iff.mp hl;have G:=hv v (by simp[-zad,-zae,aA,aD]);have m1:=bc.mulH (Y v x.toNat) (by decide) (by decide);exact⟨some (.int x),some (.int v),by simp_all[iA,cE,uR h0 z G (show 0<=x/\x<=1000 by lia),m1,prodF]⟩
   ·dsimp only at N
    subst N;have lx:a<=6/\b<=6:=lw;obtain⟨v,v2,rfl⟩:=f6 hl;have G:=hv v (by simp[-zad,-zae,aA,aD]);have ai:=hv v2 (by simp[-zad,-zae,aA,aD]);have m1:=bc.mulH (Y v x.toNat) (by decide) (by decide);have m2:=(bc.mul (Y v x.toNat)).mulH (Y v2 y.toNat) (by decide) (by decide);exact⟨some (.int y),some (.int v2),by simp_all[iA,cE,uR h0 z G (show 0<=x/\x<=1000 by lia),uR h0 z ai (show 0<=y/\y<=1000 by lia),m1,m2,prodF]⟩
  obtain⟨p7,p8,J⟩:=B o7 o8;refine⟨[some (.int M),some (.tup (F.map bN)),some (tupI vs),some (.int (sumF M vs (F.take (i+1)))),some (tupI q.1),some (.int q.2),some (.int (prodF M vs q)),p7,p8],?_,_,_,_,_,_,rfl⟩;simp only[tupI]at J;simp_all[turn,bN,tupI,J,es]
 ·rintro ρ' ⟨o4,o5,o6,o7,o8,rfl⟩
  simp_all[BK h0]
theorem IV(z:n=1\/n=2):wX [.int n]=some (.lst ((cX n).map tupI)):=by
 refine aM ?_;have B:cR [.int 3]=some [.int 0,.int 1,.int 2]:=rfl;have q:cR [.int 9]=some [.int 0,.int 1,.int 2,.int 3,.int 4,.int 5,.int 6,.int 7,.int 8]:=rfl;rcases z with rfl|rfl
 ·simp_all[qJ,aK,B,nW,bR,cX,UF,tupI,show aX 3=true from rfl]
 ·simp_all[qJ,aK,q,nW,bR,cX,UT,tupI,show aX 9=true from rfl,bB,dB]
theorem V0{M a b c:Int}(F:M%2=1)(h0:M∣c)(h1:M∣a+b+c)(h2:M∣4*a+2*b+c)(v:Int):M∣a*v*v+b*v+c:=by
 have B:M∣2*a:=by
  have:=zaF (zdf h2 (zeK h1:M∣2*(a+b+c))) h0;rw[show 2*a=4*a+2*b+c-2*(a+b+c)+c by lia];exact this
 have ea:M∣a:=by
  have q:M=2*(M/2)+1:=by lia
  have:a=M*a-(M/2)*(2*a):=by
   generalize M/2=m at q;subst q;rw[zeN,zdd 2 m,zbC];lia
  rw[this];exact zdf (Int.dvd_mul_right ..) (zeK B)
 have z:M∣b:=by
  rw[show b=a+b+c-a-c by lia];exact zdf (zdf h1 ea) h0
 refine zaF (zaF ?_ (zcw z)) h0;exact zcw (zcw ea)
def Qd(M:Int)(f:Int->Int):Prop:=∃a b c,∀v,M∣f v-(a*v*v+b*v+c)
theorem TF{M x y z:Int}(h:M∣x-y)(k:M∣y-z):M∣x-z:=by
 rw[show x-z=(x-y)+(y-z) by lia];exact zaF h k
theorem vO{M x y:Int}(h:M∣x-y):M∣y-x:=by
 rw[show y-x=-(x-y) by lia];exact Int.dvd_neg.mpr h
theorem vQ{M x y:Int}(h:M∣x-y)(k:M∣y):M∣x:=by
 rw[show x=(x-y)+y by lia];exact zaF h k
theorem Qd.zero{M:Int}{f:Int->Int}(F:M%2=1)(q:Qd M f)(G:M∣f 0)(B:M∣f 1)(z:M∣f 2)(v:Int):M∣f v:=by
 obtain⟨a,b,c,h⟩:=q;refine vQ (h v) (V0 F ?_ ?_ ?_ v)
 ·have:=vQ (vO (h 0)) G;simpa using this
 ·have:=vQ (vO (h 1)) B;simpa using this
 ·have:=vQ (vO (h 2)) z
  rw[show 4*a+2*b+c=a*2*2+b*2+c by lia];exact this
theorem Qd.add{M:Int}{f g:Int->Int}(p:Qd M f)(q:Qd M g):Qd M λv=>f v+g v:=by
 obtain⟨a,b,c,h⟩:=p;obtain⟨d,e,k,u⟩:=q;refine⟨a+d,b+e,c+k,λv=>?_⟩;rw[show f v+g v-((a+d)*v*v+(b+e)*v+(c+k))=(f v-(a*v*v+b*v+c))+(g v-(d*v*v+e*v+k)) by simp only[zeN];lia];exact zaF (h v) (u v)
theorem Qd.mul{M:Int}{f:Int->Int}(p:Qd M f)(k:Int):Qd M λv=>k*f v:=by
 obtain⟨a,b,c,h⟩:=p;refine⟨k*a,k*b,k*c,λv=>?_⟩;rw[show k*f v-(k*a*v*v+k*b*v+k*c)=k*(f v-(a*v*v+b*v+c)) by simp only[Int.mul_sub,zdH,zbC]];exact zeK (h v)
theorem Qd.cong{M:Int}{f g:Int->Int}(p:Qd M f)(h:∀v,M∣g v-f v):Qd M g:=by
 obtain⟨a,b,c,k⟩:=p;exact⟨a,b,c,λv=>TF (h v) (k v)⟩
theorem Qd.const{M:Int}(k:Int):Qd M λ_=>k:=⟨0,0,k,λv=>by simp[-zad,-zae,aA,aD]⟩
theorem Qd.lin{M A B:Int}{g:Int->Int}(h:∀v,M∣g v-(A*v+B)):Qd M g:=⟨0,A,B,λv=>by simpa using h v⟩
theorem Qd.pw{M A B:Int}{g:Int->Int}(h:∀v,M∣g v-(A*v+B)){e:Int}(W:0<=e/\e<=2):Qd M λv=>g v^e.toNat:=by
 have:e=0\/e=1\/e=2:=by lia
 rcases this with rfl|rfl|rfl
 ·exact(Qd.const 1).cong λv=>by simp[-zad,-zae,aA,aD]
 ·exact(Qd.lin h).cong λv=>by show M∣g v^1-g v;rw[zbD,zcS,Int.one_mul,zdJ];exact zcy M
 ·refine⟨A*A,2*(A*B),B*B,λv=>?_⟩
  have N:g v^(2:Int).toNat=g v*g v:=by show g v^2=_;rw[zbD,zbD,zcS,Int.one_mul]
  show M∣g v^(2:Int).toNat-_;rw[N];have:g v*g v-(A*A*v*v+2*(A*B)*v+B*B)=(g v-(A*v+B))*(g v+(A*v+B)):=by
   have F:A*v*(A*v)=A*A*v*v:=by rw[zbC,Int.mul_left_comm v,<- zbC,<- zbC]
   have z:A*v*B=A*B*v:=Int.mul_right_comm ..;have U:B*(A*v)=A*B*v:=by rw[<- zbC,zdd B]
   have q:2*(A*B)*v=A*B*v+A*B*v:=by rw[zbC,Int.two_mul]
   have J:A*v*g v=g v*(A*v):=zdd ..;have G:B*g v=g v*B:=zdd ..;simp only[zeJ,zdH,zeN,J,G,F,z,U,q];lia
  rw[this];exact zcw (h v)
theorem Qd.sum{M:Int}{F:My.Tm->Int->Int}:∀(ts:List My.Tm),(∀t∈ts,Qd M λv=>F t v)->Qd M λv=>(ts.map λt=>F t v).sum
 | [],_=>(Qd.const 0).cong λv=>by simp[-zad,-zae,aA,aD]
 | t::ts,h=>((h t (zas ..)).add (Qd.sum ts λu q=>h u (zav _ q))).cong λv=>by simp[-zad,-zae,aA,aD]
def XS:Option (List Int)->D
 | some p=>tupI p
 | none=>.non
theorem tQ{z:Type}{p q:z->Bool}:∀ {l:List z},(∀x∈l,p x=q x)->l.find? p=l.find? q
 | [],_=>rfl
 | x::l,h=>by
  rw[za7,za7,h x (zas ..),tQ λy B=>h y (zav _ B)]
theorem EN{M:Int}(h3:3<=M)(B:M<10^60){nn:Nat}(hn:nn=1\/nn=2){d e:List Int}{F G:List My.Tm}(f:Fo M d F)(g:Fo M e G)(lf:BS d)(lg:BS e)(ld:d.length=nn)(le:e.length=nn):sR [.int M,.int (nn:Int),fD F,fD G]=some (XS ((cX (nn:Int)).find? λp=>!decide (ev p F%M=ev p G%M))):=by
 have h0:0<M:=by lia
 have vp:=IV (n:=(nn:Int)) (by lia);have Y:∀p∈cX (nn:Int),bU [.int M,fD F,tupI p]=some (.int (ev p F%M))/\bU [.int M,fD G,tupI p]=some (.int (ev p G%M)):=λp U=>by
  obtain⟨a,b⟩:=BC h3 hn U;exact⟨oX h0 B f lf (by lia) b,oX h0 B g lg (by lia) b⟩
 generalize fD F=DF at Y ⊢;generalize fD G=DG at Y ⊢;have N:∀(ps:List (List Int)),(∀p∈ps,p∈cX (nn:Int))->∀o:Option D,(ps.find? (λp=>!decide (ev p F%M=ev p G%M))=none->∃o',cE (aL 4) (nT (eJ (aZ DS (aP bU (aC (aB 0) (aC (aB 2) (aC (aB 4) aY)))) (aP bU (aC (aB 0) (aC (aB 3) (aC (aB 4) aY)))))) (BU (aB 4)) vY) (ps.map tupI) [some (.int M),some (.int (nn:Int)),some DF,some DG,o]=some (.nx [some (.int M),some (.int (nn:Int)),some DF,some DG,o']))/\∀p,ps.find? (λp=>!decide (ev p F%M=ev p G%M))=some p->cE (aL 4) (nT (eJ (aZ DS (aP bU (aC (aB 0) (aC (aB 2) (aC (aB 4) aY)))) (aP bU (aC (aB 0) (aC (aB 3) (aC (aB 4) aY)))))) (BU (aB 4)) vY) (ps.map tupI) [some (.int M),some (.int (nn:Int)),some DF,some DG,o]=some (.rt (tupI p)):=by
  intro ps;induction ps with
  | nil=>exact λ_ o=>⟨λ_=>⟨o,rfl⟩,λp z=>by cases z⟩
  | cons p ps ih=>
   intro U o;obtain⟨J,W⟩:=Y p (U p (zas ..));obtain⟨i1,i2⟩:=ih (λq hq=>U q (zav _ hq)) (some (tupI p));rw[za7,zak];by_cases c:ev p F%M=ev p G%M
   ·rw[decide_eq_true c]
    rw[c]at J;generalize tupI p=tp at J W i1 i2;have st:turn (aL 4) (nT (eJ (aZ DS (aP bU (aC (aB 0) (aC (aB 2) (aC (aB 4) aY)))) (aP bU (aC (aB 0) (aC (aB 3) (aC (aB 4) aY)))))) (BU (aB 4)) vY) tp [some (.int M),some (.int (nn:Int)),some DF,some DG,o]=some (.nx [some (.int M),some (.int (nn:Int)),some DF,some DG,some tp]):=by simp_all[turn,J,W]
    refine⟨λz=>?_,λq z=>?_⟩
    ·obtain⟨o',e⟩:=i1 z
     exact⟨o',(rJ st).trans e⟩
    ·exact(rJ st).trans (i2 q z)
   ·rw[decide_eq_false c]
    refine⟨(λz=>nomatch z),λq z=>?_⟩;cases z;refine BB ?_;generalize tupI p=tp at J W;simp_all[turn,J,W,c]
 obtain⟨l1,l2⟩:=N (cX (nn:Int)) (λ_ h=>h) none;cases hc:(cX (nn:Int)).find? λp=>!decide (ev p F%M=ev p G%M)with
 | none=>
  obtain⟨o',e⟩:=l1 hc;refine aM ?_;unfold k9;rw[aF (by rw[q_for];simp_all[aK,vp];exact e)]
  ac_rfl
 | some p=>
  refine aM ?_;unfold k9;exact qV (by rw[q_for];simp_all[aK,vp];exact l2 p hc)
def SF(R:List Ro)(M:Int)(ks:List Int)(m:Mk)(H:List My.Tm):Prop:=∃dd:List Int,Fo M dd H/\BS dd/\Bx dd (zN (ks.length:Int))/\dd.length=ks.length/\∀vs:List Int,vs.length=ks.length->ev vs H%M=sv R M m ks vs
def K2(R:List Ro)(M:Int)(ks:List Int)(a b:Mk):D:=if RT R a.gv b.gv then XS ((cX (ks.length:Int)).find? λp=>!decide (bV R M (sv R M a ks p) (fwd R a.gv b.gv)=sv R M b ks p))else .tup []
theorem fA{M c:Int}{n:Nat}{rs:List Ro}{ms:List Mk}(B:Bok M n rs ms){ks:List Int}(Y:ks.length=1\/ks.length=2){a b:Mk}{i j:Int}(p2:a∈ms)(q2:b∈ms)(ip:dX (ms.map (gA M)) i=some (gA M a))(iq:dX (ms.map (gA M)) j=some (gA M b))(p3:a.tk.length=ks.length){W Fb:List My.Tm}(ha:SF (rs.map (red M)) M ks a W)(hb:SF (rs.map (red M)) M ks b Fb){sd:D}(sp:aH sd (.int i)=some (fD W))(sq:aH sd (.int j)=some (fD Fb)):cI [f9 M c n rs ms,.int i,.int j,sd]=some (K2 (rs.map (red M)) M ks a b):=by
 have h0:0<M:=by have:=B.h3;lia
 obtain⟨pd,pf,ab,pz,pl,pe⟩:=ha;obtain⟨qd,qf,ah,qz,ql,qe⟩:=hb;have ga:=(B.mo a p2).gv;have gb:=(B.mo b q2).gv;have h3:aH (f9 M c n rs ms) (.int 3)=some (.tup (ms.map (gA M))):=XM;have hB:aH (f9 M c n rs ms) (.int 2)=some (.tup ((rs.map (red M)).map bG)):=XE;have J:aH (f9 M c n rs ms) (.int 0)=some (.int M):=XJ;have g:=B.g;generalize f9 M c n rs ms=bk at h3 hB J ⊢;have vw:=CF hB g B.hn.2 ga gb;have N:=WT (M:=M) (m:=a);have G:=W7 (M:=M) (m:=a);have U:=W7 (M:=M) (m:=b);generalize gA M a=bmp at ip N G;generalize gA M b=bmq at iq U;unfold K2;generalize rs.map (red M)=R at g hB vw pe qe ⊢;by_cases hr:Rch R a.gv b.gv
 ·obtain⟨e1,f1⟩:=vw.1 hr
  have e2:=sW J hB B.h3 B.h60 g (IsF.at_ f1);have ao:((ks.length:Nat):Int)=1\/((ks.length:Nat):Int)=2:=by lia
  obtain⟨H,eh,fh,vh⟩:=eV (a:=(fP R M (1,0) (fwd R a.gv b.gv)).1) (b:=(fP R M (1,0) (fwd R a.gv b.gv)).2) h0 B.h60 ao (by lia) pz ab pf;have er:=EN B.h3 B.h60 Y fh qf ab ah pl ql;have rt:RT R a.gv b.gv=true:=hJ.mpr hr;rw[if_pos rt];have ec:((cX (ks.length:Int)).find? λp=>!decide (ev p H%M=ev p Fb%M))=(cX (ks.length:Int)).find? λp=>!decide (bV R M (sv R M a ks p) (fwd R a.gv b.gv)=sv R M b ks p):=by
   refine tQ λpt ag=>?_
   have lp:pt.length=ks.length:=(BC B.h3 Y ag).1;rw[qe pt lp];have x1:=vh pt (by lia);have ep:=pe pt lp;have q:=ON (R:=R) (m:=a) (ks:=ks) (vs:=pt) h0;have aa:M∣ev pt W-sv R M a ks pt:=WU (by rw[ep,zeO q.1 q.2]);generalize sv R M a ks pt=s1 at q aa;obtain⟨_,_,d⟩:=KB (R:=R) B.h3 (fwd R a.gv b.gv) s1;have gr:=cW (rs:=R) h0 (fwd R a.gv b.gv) s1 q;generalize fP R M (1,0) (fwd R a.gv b.gv)=t at x1 d;have x2:=a7 (aS M t.1) aa;have e:ev pt H%M=bV R M s1 (fwd R a.gv b.gv):=by
    rw[<- zeO gr.1 gr.2];refine cS ?_;have:ev pt H-bV R M s1 (fwd R a.gv b.gv)=(ev pt H-(t.1*ev pt W+t.2))+(t.1*ev pt W-t.1*s1)+(t.1*s1+t.2-bV R M s1 (fwd R a.gv b.gv)):=by lia
    rw[this];exact zaF (zaF x1 x2) d
   rw[e]
  rw[ec]at er;refine aM ?_;have F:bE [.int M,.int (ks.length:Int),y9 (fP R M (1,0) (fwd R a.gv b.gv)),fD W]=some (fD H):=eh;have lt:dA [tupI a.tk]=some (.int (ks.length:Int)):=by unfold tupI;rw[q_lenT,zao,p3]
  have nn:eT (tupI (fwd R a.gv b.gv))=false:=rfl;generalize XS ((cX (ks.length:Int)).find? λp=>!decide (bV R M (sv R M a ks p) (fwd R a.gv b.gv)=sv R M b ks p))=r at er ⊢;generalize y9 (fP R M (1,0) (fwd R a.gv b.gv))=tt at e2 F;generalize tupI (fwd R a.gv b.gv)=ff at e1 e2 nn;generalize tupI a.tk=tp at N lt;generalize fD W=fp at sp F;generalize fD Fb=fq at sq er;generalize fD H=fH at F er;simp_all[dD,aK,h3,ip,iq,N,G,U,e1,nn,lt,J,e2,sp,sq,F,er]
 ·have rf:RT R a.gv b.gv=false:=by rw[zc2];exact λz=>hr (hJ.mp z)
  have e1:=vw.2 hr;rw[rf];refine aM ?_;have nn:eT .non=true:=rfl;simp_all[dD,aK,h3,ip,iq,G,U,e1,nn]
theorem JC{i j:Int}{x y:D}(h:i≠j):aH (.dK (kW (.inl i) x (.inl j) y)) (.int i)=some x/\aH (.dK (kW (.inl i) x (.inl j) y)) (.int j)=some y:=by
 have e:kW (.inl i) x (.inl j) y=[(.inl i,x),(.inl j,y)]:=if_neg λz=>h (Sum.inl.inj z)
 rw[e];have h':¬ (j=i):=λz=>h z.symm
 constructor <;> simp_all[aH,b6,F7,bY,h,h']
theorem JG{i:Int}{x y:D}:aH (.dK (kW (.inl i) x (.inl i) y)) (.int i)=some y:=by
 have e:kW (.inl i) x (.inl i) y=[(.inl i,y)]:=if_pos rfl;rw[e];simp_all[aH,b6,F7,bY]
theorem wR{M c:Int}{n:Nat}{rs:List Ro}{ms:List Mk}(B:Bok M n rs ms){ks:List Int}(z:ks.length=1\/ks.length=2)(Y:∀k∈ks,0<=k/\k<(n:Int)){a b:Mk}{i j:Int}(p2:a∈ms)(G:b∈ms)(W:dX (ms.map (gA M)) i=some (gA M a))(J:dX (ms.map (gA M)) j=some (gA M b))(fa:jW (rs.map (red M)) ks a.tk=true)(fb:jW (rs.map (red M)) ks b.tk=true)(ie:i=j->a=b):eO [f9 M c n rs ms,.int i,.int j,tupI ks]=some (K2 (rs.map (red M)) M ks a b):=by
 obtain⟨Fa,da,ea,ha⟩:=l5 (c:=c) B p2 W Y fa;obtain⟨Fb,N,F,U⟩:=l5 (c:=c) B G J Y fb;have p3:a.tk.length=ks.length:=(fits_of fa).1.symm;have q:cI [f9 M c n rs ms,.int i,.int j,.dK (kW (.inl i) (fD Fa) (.inl j) (fD Fb))]=some (K2 (rs.map (red M)) M ks a b):=by
  by_cases h:i=j
  ·cases ie h
   subst h;exact fA B z p2 G W J p3 ⟨N,U⟩ ⟨N,U⟩ JG JG
  ·exact fA B z p2 G W J p3 ⟨da,ha⟩ ⟨N,U⟩ (JC h).1 (JC h).2
 refine aM ?_;generalize K2 (rs.map (red M)) M ks a b=r at q ⊢;generalize f9 M c n rs ms=bk at ea F q ⊢;generalize tupI ks=tk at ea F ⊢;generalize fD Fa=x at ea q;generalize fD Fb=y at F q;simp_all[lW,aK,ea,F,F7,q]
theorem nM{R:List Ro}{M:Int}(q:3<=M)(w:List Int):∃A B,∀v,M∣bV R M v w-(A*v+B):=⟨(fP R M (1,0) w).1,(fP R M (1,0) w).2,λv=>vO (KB q w v).2.2⟩
theorem qN(M x:Int):M∣x%M-x:=by
 rw[Int.emod_def];exact⟨-(x/M),by rw[Int.mul_neg];lia⟩
theorem Qd.go{R:List Ro}{M:Int}(z:3<=M){f:Int->Int}(q:Qd M f)(w:List Int):Qd M λv=>bV R M (f v) w:=by
 obtain⟨A,C,h⟩:=nM (R:=R) z w;exact((q.mul A).add (Qd.const C)).cong λv=>h (f v)
theorem WX{R:List Ro}{M:Int}(F:3<=M){m:Mk}{k:Int}{t:Int}(G:m.tk=[t])(ok:∀x∈m.ts,OkT 1 x):Qd M λv=>sv R M m [k] [v]:=by
 obtain⟨A,C,h⟩:=nM (R:=R) F (fwd R k t);have q:Qd M λv=>ev [bV R M v (fwd R k t)] m.ts:=Qd.sum m.ts λx B=>by
  obtain⟨e,z⟩:=List.length_eq_one_iff.mp (ok x B).1;have J:=(ok x B).2.1 e (by rw[z];simp[-zad,-zae,aA,aD]);exact((Qd.pw h J).mul x.2).cong λv=>by simp_all[z,mon]
 refine q.cong λv=>?_
 unfold sv;rw[G];exact qN M _
theorem DB{R:List Ro}{M:Int}(G:3<=M){m:Mk}{k l t u:Int}(J:m.tk=[t,u])(ok:∀x∈m.ts,OkT 2 x)(y:Int):(Qd M λv=>sv R M m [k,l] [v,y])/\Qd M λv=>sv R M m [k,l] [y,v]:=by
 constructor
 ·obtain⟨A,C,h⟩:=nM (R:=R) G (fwd R k t)
  have q:Qd M λv=>ev [bV R M v (fwd R k t),bV R M y (fwd R l u)] m.ts:=Qd.sum m.ts λx B=>by
   obtain⟨e,f,z⟩:=f6 (ok x B).1;have F:=(ok x B).2.1 e (by rw[z];simp[-zad,-zae,aA,aD]);exact((Qd.pw h F).mul (x.2*bV R M y (fwd R l u)^f.toNat)).cong λv=>by
    simp only[z,mon,zby];rw[zdd (bV R M v (fwd R k t)^e.toNat),<- zbC,zdJ];exact zcy M
  refine q.cong λv=>?_
  unfold sv;rw[J];exact qN M _
 ·obtain⟨A,C,h⟩:=nM (R:=R) G (fwd R l u)
  have q:Qd M λv=>ev [bV R M y (fwd R k t),bV R M v (fwd R l u)] m.ts:=Qd.sum m.ts λx B=>by
   obtain⟨e,f,z⟩:=f6 (ok x B).1;have F:=(ok x B).2.1 f (by rw[z];simp[-zad,-zae,aA,aD]);exact((Qd.pw h F).mul (x.2*bV R M y (fwd R k t)^e.toNat)).cong λv=>by
    simp only[z,mon,zby];rw[<- zbC,zdJ];exact zcy M
  refine q.cong λv=>?_
  unfold sv;rw[J];exact qN M _
theorem G2{R:List Ro}{M:Int}(B:3<=M)(U:M%2=1){a b:Mk}{ks:List Int}(W:ks.length=1\/ks.length=2)(la:a.tk.length=ks.length)(lb:b.tk.length=ks.length)(N:∀x∈a.ts,OkT a.tk.length x)(ob:∀x∈b.ts,OkT b.tk.length x){w:List Int}(h:∀p∈cX (ks.length:Int),bV R M (sv R M a ks p) w=sv R M b ks p){vs:List Int}(hv:vs.length=ks.length):bV R M (sv R M a ks vs) w=sv R M b ks vs:=by
 have h0:0<M:=by lia
 have ga:=cW (rs:=R) h0 w _ (ON (R:=R) (m:=a) (ks:=ks) (vs:=vs) h0);have gb:=ON (R:=R) (m:=b) (ks:=ks) (vs:=vs) h0;have aa:M∣bV R M (sv R M a ks vs) w-sv R M b ks vs:=by
  rcases W with F|F
  ·obtain⟨k,rfl⟩:=List.length_eq_one_iff.mp F
   obtain⟨v,rfl⟩:=List.length_eq_one_iff.mp hv;obtain⟨t,J⟩:=List.length_eq_one_iff.mp (la.trans F);obtain⟨u,G⟩:=List.length_eq_one_iff.mp (lb.trans F);rw[J]at N;rw[G]at ob;have q:Qd M λv=>bV R M (sv R M a [k] [v]) w-sv R M b [k] [v]:=(((WX B J N).go B w).add ((WX B G ob).mul (-1))).cong λv=>by
    rw[show bV R M (sv R M a [k] [v]) w-sv R M b [k] [v]-(bV R M (sv R M a [k] [v]) w + -1*sv R M b [k] [v])=0 by lia];exact zcy M
   have z:∀x,[x]∈cX 1->M∣bV R M (sv R M a [k] [x]) w-sv R M b [k] [x]:=λx hx=>by rw[h [x] hx,zdJ];exact zcy M
   exact q.zero U (z 0 (by decide)) (z 1 (by decide)) (z 2 (by decide)) v
  ·obtain⟨k,l,rfl⟩:=f6 F
   obtain⟨v,y,rfl⟩:=f6 (hv.trans F);obtain⟨t,t',J⟩:=f6 (la.trans F);obtain⟨u,u',G⟩:=f6 (lb.trans F);rw[J]at N;rw[G]at ob;have e0:∀x y,bV R M (sv R M a [k,l] [x,y]) w-sv R M b [k,l] [x,y]-(bV R M (sv R M a [k,l] [x,y]) w + -1*sv R M b [k,l] [x,y])=0:=λx y=>by lia
   have q1:∀y,Qd M λx=>bV R M (sv R M a [k,l] [x,y]) w-sv R M b [k,l] [x,y]:=λy=>((((DB B J N y).1).go B w).add (((DB B G ob y).1).mul (-1))).cong λx=>by rw[e0];exact zcy M
   have Y:∀x,Qd M λy=>bV R M (sv R M a [k,l] [x,y]) w-sv R M b [k,l] [x,y]:=λx=>((((DB B J N x).2).go B w).add (((DB B G ob x).2).mul (-1))).cong λy=>by rw[e0];exact zcy M
   have z:∀x y,[x,y]∈cX 2->M∣bV R M (sv R M a [k,l] [x,y]) w-sv R M b [k,l] [x,y]:=λx y hx=>by rw[h [x,y] hx,zdJ];exact zcy M
   have r0:=(Y 0).zero U (z 0 0 (by decide)) (z 0 1 (by decide)) (z 0 2 (by decide)) y;have r1:=(Y 1).zero U (z 1 0 (by decide)) (z 1 1 (by decide)) (z 1 2 (by decide)) y;have r2:=(Y 2).zero U (z 2 0 (by decide)) (z 2 1 (by decide)) (z 2 2 (by decide)) y;exact(q1 y).zero U r0 r1 r2 v
 have:=cS aa
 rwa [zeO ga.1 ga.2,zeO gb.1 gb.2]at this
theorem E7{nn:Nat}(N:nn=1\/nn=2){J:List Int->Bool}{pt q:List Int}(M:(cX (nn:Int)).find? J=some q)(G:pt∈cX (nn:Int))(lt:HT.lexLt pt q=true):J pt=false:=by
 have B:(cX (nn:Int)).Pairwise λx y=>HT.lexLt x y=true:=by rcases N with rfl|rfl <;> decide
 have F:∀x∈cX (nn:Int),∀y∈cX (nn:Int),HT.lexLt x y=true->HT.lexLt y x=false:=by rcases N with rfl|rfl <;> decide
 have z:=zfm M;obtain⟨_,as,bs,e,U⟩:=List.find?_eq_some_iff_append.mp M;rw[e]at G B;rcases List.mem_append.mp G with h|h
 ·simpa using U pt h
 ·rcases List.mem_cons.mp h with h|h
  ·subst h
   have:=F pt z pt z lt;rw[lt]at this;cases this
  ·have:=(List.pairwise_cons.mp (List.pairwise_append.mp B).2.1).1 pt h
   have k:=F q z pt (by rw[e];exact G) this;rw[lt]at k;cases k
theorem AA{M:Int}{n:Nat}{rs:List Ro}{ms:List Mk}(B:Bok M n rs ms){ks:List Int}(J:∀k∈ks,0<=k/\k<(n:Int)){a b:Mk}(ha:a∈ms)(N:b∈ms)(fa:jW (rs.map (red M)) ks a.tk=true)(fb:jW (rs.map (red M)) ks b.tk=true)(hr:Rch (rs.map (red M)) a.gv b.gv){vs:List Int}(Y:vs.length=ks.length)(F:∀v∈vs,0<=v/\v<M):dG [.int M,.lst (rs.map bG),bC n (RT (rs.map (red M))),.tup [bP a,bP b],tupI ks,tupI vs]=some (.bl (decide (bV (rs.map (red M)) M (sv (rs.map (red M)) M a ks vs) (fwd (rs.map (red M)) a.gv b.gv)=sv (rs.map (red M)) M b ks vs))):=by
 have h0:0<M:=by have:=B.h3;lia
 have ga:=(B.mo a ha).gv;have gb:=(B.mo b N).gv;have U:=OK (m:=a);have W:=OK (m:=b);obtain⟨G,f1⟩:=nI B.g B.hn.2 ga.1 gb hr;have q:=pH B ha J fa Y F;have vb:=pH B N J fb Y F;have z:=eQ h0 B.h60 B.rb (IsF.at_ f1) (ON (R:=rs.map (red M)) (m:=a) (ks:=ks) (vs:=vs) h0);refine aM ?_;generalize sv (rs.map (red M)) M b ks vs=sb at vb ⊢;generalize bV (rs.map (red M)) M (sv (rs.map (red M)) M a ks vs) (fwd (rs.map (red M)) a.gv b.gv)=g at z ⊢;generalize sv (rs.map (red M)) M a ks vs=sa at q z;generalize tupI (fwd (rs.map (red M)) a.gv b.gv)=fw at G z;generalize bC n (RT (rs.map (red M)))=mt at q vb G ⊢;generalize rs.map bG=rd at q vb G z ⊢;generalize bP a=da at U q ⊢;generalize bP b=db at W vb ⊢;generalize tupI ks=tk at q vb ⊢;generalize tupI vs=tv at q vb ⊢;simp_all[oM,aK,at0,at1,U,W,G,q,vb,z]
theorem xQ{n:Nat}{R:List Ro}{t u:Int}(G:0<=t/\t<(n:Int))(B:0<=u/\u<(n:Int)):∀(l:List Nat) (o:Option D),(∀k∈l,k<n)->bR (aL 0) (sG (eJ (aZ aH (aZ aH (aB 1) (aB 0)) (aB 2))) (eJ (aZ aH (aZ aH (aB 1) (aB 0)) (aB 3)))) (aB 0) (l.map λ(k:Nat)=>D.int (k:Int)) [o,some (bC n (RT R)),some (.int t),some (.int u)]=some (((l.filter λ(k:Nat)=>RT R (k:Int) t && RT R (k:Int) u).map λ(k:Nat)=>(k:Int)).map .int)
 | [],_,_=>rfl
 | k::l,o,h=>by
  have ih:=xQ (R:=R) G B l (some (.int (k:Int))) λm J=>h m (zav _ J)
  have M:=h k (zas ..);have F:=A9 (K:=n) (P:=RT R) (k:=(k:Int)) (by lia) (by lia);have q:=rL (K:=n) (p:=RT R (k:Int)) G.1 G.2;have z:=rL (K:=n) (p:=RT R (k:Int)) B.1 B.2;rw[zak,bR,zd4];cases e:RT R (k:Int) t with
  | true=>
   rw[e]at q;cases e':RT R (k:Int) u with
   | true=>rw[e']at z;simp_all[-zaQ,F,q,z,ih]
   | false=>rw[e']at z;simp_all[-zaQ,F,q,z,ih]
  | false=>rw[e]at q;simp_all[-zaQ,F,q,ih]
def Fit2(R:List Ro):List Int->List (Int×Int)->Prop
 | [],[]=>True
 | k::ks,p::ps=>RT R k p.1=true/\RT R k p.2=true/\Fit2 R ks ps
 | _,_=>False
theorem Fit2.fits{R:List Ro}:∀ {ks ta tb:List Int},ta.length=tb.length->Fit2 R ks (nE ta tb)->jW R ks ta=true/\jW R ks tb=true
 | [],[],[],_,_=>⟨rfl,rfl⟩
 | [],[],_::_,l,_=>nomatch l
 | [],_::_,[],l,_=>nomatch l
 | [],_::_,_::_,_,h=>h.elim
 | _::_,[],[],_,h=>h.elim
 | _::_,[],_::_,l,_=>nomatch l
 | _::_,_::_,[],l,_=>nomatch l
 | k::ks,a::ta,b::tb,l,h=>by
  obtain⟨h1,h2,G⟩:=h;obtain⟨q,z⟩:=Fit2.fits (R:=R) (ks:=ks) (by simpa using l) G;unfold jW at q z ⊢;rw[zaK,decide_eq_true_eq]at q z;simp only[nE,zcG,zaT];have B:RT R k a=true:=h1;have F:RT R k b=true:=h2;rw[B,F,q.2,z.2];simp_all[q.1,z.1];exact q.1.symm.trans z.1
theorem Fit2.snoc{R:List Ro}{k:Int}{p:Int×Int}(h1:RT R k p.1=true)(h2:RT R k p.2=true):∀ {ks:List Int} {ps:List (Int×Int)},Fit2 R ks ps->Fit2 R (ks++[k]) (ps++[p])
 | [],[],_=>⟨h1,h2,trivial⟩
 | [],_::_,h=>h.elim
 | _::_,[],h=>h.elim
 | _::_,_::_,h=>⟨h.1,h.2.1,Fit2.snoc h1 h2 h.2.2⟩
theorem sL:∀ {xs ys:List Int},xs.length=ys.length->(nE xs ys).length=xs.length
 | [],[],_=>rfl
 | [],_::_,l=>nomatch l
 | _::_,[],l=>nomatch l
 | _::xs,_::ys,l=>by simp_all[nE,sL (xs:=xs) (ys:=ys) (by simpa using l)]
def OT:Sv:=(bD (bQ 6 (hZ [none,some 0,some 4,some 5] (lR cR (aC (aP dA (aC (aB 0) aY)) aY)) (aL 0) (sG (eJ (aZ aH (aZ aH (aB 1) (aB 0)) (aB 2))) (eJ (aZ aH (aZ aH (aB 1) (aB 0)) (aB 3)))) (aB 0))) (bD (nT (eJ (aZ yY (aP dA (aC (aB 6) aY)) (eC (.int 0)))) (BU (eC .non)) vY) (bD (bQ 3 (aZ bX (aB 3) (iC (aC (aZ aH (aB 6) (aZ dS (aB 2) (aP dA (aC (aB 6) aY)))) aY)))) (bQ 2 (aZ sI (aB 2) (eC (.int 6)))))))
theorem pS:mY=bD (bQ 3 (iC aY)) (bD (jV (OE (aC (aZ aH (aZ aH (aB 1) (eC (.int 0))) (eC (.int 1))) (aC (aZ aH (aZ aH (aB 1) (eC (.int 1))) (eC (.int 1))) aY))) (b7 2 (aR (aL 4) (aR (aL 5) cC))) OT) (BU (aB 3))):=rfl
theorem wK{M cell:Int}{n:Nat}{rs:List Ro}{ms:List Mk}(B:Bok M n rs ms){a b:Mk}(ha:a∈ms)(hb:b∈ms)(hl:a.tk.length=b.tk.length):eP [bC n (RT (rs.map (red M))),.tup [bP a,bP b],.int cell]=some .non\/∃ks:List Int,eP [bC n (RT (rs.map (red M))),.tup [bP a,bP b],.int cell]=some (tupI ks)/\ks.length=a.tk.length/\(∀k∈ks,0<=k/\k<(n:Int))/\jW (rs.map (red M)) ks a.tk=true/\jW (rs.map (red M)) ks b.tk=true:=by
 generalize hR:rs.map (red M)=R;have oa:=B.mo a ha;have ob:=B.mo b hb;have n6:=B.hn.2;have zb:=yI (P:=λk=>0<=k/\k<(n:Int)) (Q:=λk=>0<=k/\k<(n:Int)) oa.tb ob.tb;have tl:a.tk.length<=2:=by rcases oa.tk with⟨t,e⟩|⟨t,u,e⟩ <;> rw[e] <;> simp[-zad,-zae,aA,aD]
 have zl:=sL hl;have G:dA [bC n (RT R)]=some (.int (n:Int)):=by
  unfold bC;have hz:aX n=true:=decide_eq_true (by lia);simp[-zad,-zae,aA,aD]
 have a1:=KQ (m:=a);have b1:=KQ (m:=b);generalize bP a=da at a1 ⊢;generalize bP b=db at b1 ⊢;have aa:∀(ps:List (Int×Int)),(∀p∈ps,(0<=p.1/\p.1<(n:Int))/\0<=p.2/\p.2<(n:Int))->∀(done:List (Int×Int)) (ks:List Int) (x:Int) (Y o5 o6:Option D),ks.length+ps.length<=100->Fit2 R ks done->(∀k∈ks,0<=k/\k<(n:Int))->
   cE (b7 2 (aR (aL 4) (aR (aL 5) cC))) OT (ps.map λp=>D.tup [.int p.1,.int p.2]) [some (bC n (RT R)),some (.tup [da,db]),some (.int x),some (tupI ks),Y,o5,o6]=some (.rt .non) \/
   ∃(z:List Int) (x':Int) (U N W:Option D),cE (b7 2 (aR (aL 4) (aR (aL 5) cC))) OT (ps.map λp=>D.tup [.int p.1,.int p.2]) [some (bC n (RT R)),some (.tup [da,db]),some (.int x),some (tupI ks),Y,o5,o6]=some (.nx [some (bC n (RT R)),some (.tup [da,db]),some (.int x'),some (tupI z),U,N,W])/\z.length=ks.length+ps.length/\Fit2 R z (done++ps)/\∀k∈z,0<=k/\k<(n:Int):=by
  intro ps;induction ps with
  | nil=>intro _ done ks x Y o5 o6 _ hf F;exact .inr ⟨ks,x,Y,o5,o6,rfl,rfl,by rw[zcC];exact hf,F⟩
  | cons p ps ih=>
   intro h done ks x Y o5 o6 hl hf F;obtain⟨pa,pb⟩:=h p (zas ..);have r1:=lE (show n<=1000000 by lia);have hz:aX n=true:=decide_eq_true (by lia);have cw:=xQ (R:=R) pa pb (zaA n) none λk F=>List.mem_range.mp F
   rw[<- xV]at cw;have wb:∀k∈((zaA n).filter λ(k:Nat)=>RT R (k:Int) p.1 && RT R (k:Int) p.2).map λ(k:Nat)=>(k:Int),(0<=k/\k<(n:Int))/\RT R k p.1=true/\RT R k p.2=true:=λk F=>by
    obtain⟨j,hj,rfl⟩:=List.mem_map.mp F;have h1:=List.mem_range.mp (List.mem_filter.mp hj).1;have h2:=(List.mem_filter.mp hj).2;rw[zaK]at h2;exact⟨by lia,h2⟩
   generalize (((zaA n).filter λ(k:Nat)=>RT R (k:Int) p.1 && RT R (k:Int) p.2).map λ(k:Nat)=>(k:Int))=ws at cw wb;by_cases w0:ws=[]
   ·subst w0
    refine .inl (BB ?_);simp_all[turn,OT,G,r1,nW,a8,hz,cw]
   ·have wp:(0:Int)<(ws.length:Int):=by have:=List.length_pos_iff.mpr w0;lia
    obtain⟨k,ek,ag⟩:=qG (ns:=ws) (zaw x (zaU wp)) (zax x wp);have J:=wb k (zaX ag);rw[zaT]at hl;have ae:aX (ks.length+1)=true:=decide_eq_true (by lia);have wn:¬ ws.length=0:=by lia
    have st:turn (b7 2 (aR (aL 4) (aR (aL 5) cC))) OT (D.tup [.int p.1,.int p.2]) [some (bC n (RT R)),some (.tup [da,db]),some (.int x),some (tupI ks),Y,o5,o6]=some (.nx [some (bC n (RT R)),some (.tup [da,db]),some (.int (x/6)),some (tupI (ks++[k])),some (.int p.1),some (.int p.2),some (.lst (ws.map .int))]):=by
     simp_all[turn,OT,G,r1,nW,a8,hz,cw,wn,dB,bB wp,ek,tupI,ae]
    have aj:∀j∈ks++[k],0<=j/\j<(n:Int):=OS F J.1;have i1:=ih (λq hq=>h q (zav _ hq)) (done++[p]) (ks++[k]) (x/6) (some (.int p.1)) (some (.int p.2)) (some (.lst (ws.map .int))) (by rw[zbk,zd3];lia) (Fit2.snoc J.2.1 J.2.2 hf) aj;rw[zak,rJ st];rcases i1 with e|⟨z,x',U,N,W,e,l,f,af⟩
    ·exact .inl e
    ·exact .inr ⟨z,x',U,N,W,e,by rw[zbk,zd3]at l;rw[zaT];lia,by rw[ze3]at f;exact f,af⟩
 have s0:jV (OE (aC (aZ aH (aZ aH (aB 1) (eC (.int 0))) (eC (.int 1))) (aC (aZ aH (aZ aH (aB 1) (eC (.int 1))) (eC (.int 1))) aY))) (b7 2 (aR (aL 4) (aR (aL 5) cC))) OT [some (bC n (RT R)),some (.tup [da,db]),some (.int cell),some (tupI []),none,none,none]=cE (b7 2 (aR (aL 4) (aR (aL 5) cC))) OT ((nE a.tk b.tk).map λp=>D.tup [.int p.1,.int p.2]) [some (bC n (RT R)),some (.tup [da,db]),some (.int cell),some (tupI []),none,none,none]:=by
  generalize OT=kb;rw[<- tJ,q_for];simp_all[at0,at1,a1,b1,tupI]
 have h1:bQ 3 (iC aY) (aK 7 [bC n (RT R),.tup [da,db],.int cell])=some (.nx [some (bC n (RT R)),some (.tup [da,db]),some (.int cell),some (tupI []),none,none,none]):=by ac_rfl
 rcases aa (nE a.tk b.tk) zb [] [] cell none none none (by simp[-zad,-zae,aA,aD];lia) trivial (λ_ h=>nomatch h)with e|⟨ks,x,Y,o5,o6,e,l,f,F⟩
 ·refine .inl (aM ?_)
  rw[pS];exact(aF h1).trans (qV (s0.trans e))
 ·obtain⟨f1,f2⟩:=Fit2.fits hl f
  refine .inr ⟨ks,aM ?_,by rw[l,zl];simp[-zad,-zae,aA,aD],F,f1,f2⟩;rw[pS];exact(aF h1).trans ((aF (s0.trans e)).trans (by simp[-zad,-zae,aA,aD]))
theorem wN{nn:Nat}(B:nn=1\/nn=2)(c:Int):∃pt∈cX (nn:Int),gR [.int c,.int (nn:Int)]=some (tupI pt):=by
 have q:c%3=0\/c%3=1\/c%3=2:=by lia
 rcases B with rfl|rfl
 ·refine⟨[c%3],?_,aM (by simp_all[gG,aK,bB,tupI])⟩
  rcases q with h|h|h <;> rw[h] <;> decide
 ·have z:c/3%3=0\/c/3%3=1\/c/3%3=2:=by lia
  refine⟨[c/3%3,c%3],?_,aM (by simp_all[gG,aK,bB,dB,tupI])⟩;rcases q with h|h|h <;> rcases z with k|k|k <;> rw[h,k] <;> decide
theorem E6{nn:Nat}(q:nn=1\/nn=2){p:List Int}(h:p∈cX (nn:Int)):p.length=nn/\∀x∈p,0<=x/\x<=2:=by
 have:∀p∈cX (nn:Int),p.length=nn/\∀x∈p,0<=x/\x<=2:=by rcases q with rfl|rfl <;> decide
 exact this p h
theorem wM{M:Int}{n:Nat}{rs:List Ro}{ms:List Mk}(B:Bok M n rs ms)(hM:M%2=1){ks:List Int}(U:ks.length=1\/ks.length=2)(hk:∀k∈ks,0<=k/\k<(n:Int)){a b:Mk}(ha:a∈ms)(hb:b∈ms)(fa:jW (rs.map (red M)) ks a.tk=true)(fb:jW (rs.map (red M)) ks b.tk=true){vs pt:List Int}(hv:vs.length=ks.length)(am:∀v∈vs,0<=v/\v<M)(hp:pt∈cX (ks.length:Int)):gL [.int M,.lst (rs.map bG),bC n (RT (rs.map (red M))),.tup [bP a,bP b],tupI ks,K2 (rs.map (red M)) M ks a b,tupI vs,tupI pt]=some (.bl true):=by
 have ga:=(B.mo a ha).gv;have gb:=(B.mo b hb).gv;have J:=A9 (K:=n) (P:=RT (rs.map (red M))) (k:=a.gv) ga.1 ga.2;have W:=rL (K:=n) (p:=RT (rs.map (red M)) a.gv) gb.1 gb.2;have a2:=OK (m:=a);have b2:=OK (m:=b);have la:=(fits_of fa).1.symm;have lb:=(fits_of fb).1.symm;have vb:∀ {us:List Int},us.length=ks.length->(∀v∈us,0<=v/\v<M)->Rch (rs.map (red M)) a.gv b.gv->dG [.int M,.lst (rs.map bG),bC n (RT (rs.map (red M))),.tup [bP a,bP b],tupI ks,tupI us]=some (.bl (decide (bV (rs.map (red M)) M (sv (rs.map (red M)) M a ks us) (fwd (rs.map (red M)) a.gv b.gv)=sv (rs.map (red M)) M b ks us))):=λh1 h2 Y=>AA B hk ha hb fa fb Y h1 h2
 have F:∀p∈cX (ks.length:Int),p.length=ks.length/\∀v∈p,0<=v/\v<M:=λp h=>BC B.h3 U h
 have ai:∀p∈cX (ks.length:Int),p.length=ks.length/\∀v∈p,0<=v/\v<=2:=λp h=>E6 U h
 have oa:=(B.mo a ha).tt;have ob:=(B.mo b hb).tt;generalize rs.map (red M)=R at J W vb ⊢;generalize hdab:D.tup [bP a,bP b]=dab at vb ⊢;have p0:aH dab (.int 0)=some (bP a):=by rw[<- hdab,q_itT];exact at0
 have p1:aH dab (.int 1)=some (bP b):=by rw[<- hdab,q_itT];exact at1
 generalize rs.map bG=rd at vb ⊢;by_cases Y:Rch R a.gv b.gv
 ·have rt:RT R a.gv b.gv=true:=hJ.mpr Y
  rw[rt]at W;unfold K2;rw[if_pos rt];have ad:dA [tupI ks]=some (.int (ks.length:Int)):=by unfold tupI;rw[q_lenT,zao]
  cases hf:(cX (ks.length:Int)).find? λp=>!decide (bV R M (sv R M a ks p) (fwd R a.gv b.gv)=sv R M b ks p)with
  | none=>
   have all:∀p∈cX (ks.length:Int),bV R M (sv R M a ks p) (fwd R a.gv b.gv)=sv R M b ks p:=λp h=>by
    have:=List.find?_eq_none.mp hf p h;simpa using this
   have e1:=G2 B.h3 hM U la lb oa ob all hv;have N:=vb hv am Y;have G:=vb (F pt hp).1 (F pt hp).2 Y;rw[decide_eq_true e1]at N;rw[decide_eq_true (all pt hp)]at G;refine aM ?_;have n1:eT (XS none)=true:=rfl;generalize XS none=fo at n1 ⊢;generalize bC n (RT R)=mt at J N G ⊢;generalize cN n (RT R a.gv)=rw_ at J W;generalize tupI ks=tk at N G ad ⊢;generalize tupI vs=tv at N ⊢;generalize tupI pt=tp at G ⊢;simp_all[dQ,aK,p0,p1,a2,b2,J,W,n1,N,G]
  | some q=>
   have hq:=zfm hf;have hn:¬ bV R M (sv R M a ks q) (fwd R a.gv b.gv)=sv R M b ks q:=by
    have:=List.find?_some hf;simpa using this
   have N:=vb (F q hq).1 (F q hq).2 Y;have G:=vb (F pt hp).1 (F pt hp).2 Y;rw[decide_eq_false hn]at N;have lq:dA [tupI q]=some (.int (ks.length:Int)):=by unfold tupI;rw[q_lenT,zao,(F q hq).1]
   have iq:rT "tuple" (tupI q)=true:=rfl;have nq:eT (tupI q)=false:=rfl;have last:(XW (aZ vU (aB 7) (aB 5)) (aP dG (aC (aB 0) (aC (aB 1) (aC (aB 2) (aC (aB 3) (aC (aB 4) (aC (aB 7) aY)))))))) [some (.int M),some (.lst rd),some (bC n (RT R)),some dab,some (tupI ks),some (tupI q),some (tupI vs),some (tupI pt),none,some (.int 0)]=some (.bl true)/\∀o,(XW (aZ vU (aB 7) (aB 5)) (aP dG (aC (aB 0) (aC (aB 1) (aC (aB 2) (aC (aB 3) (aC (aB 4) (aC (aB 7) aY)))))))) [some (.int M),some (.lst rd),some (bC n (RT R)),some dab,some (tupI ks),some (tupI q),some (tupI vs),some (tupI pt),none,o]=some (.bl true):=by
    have g:=q_geT (ns:=pt) (ms:=q);have ac:∀o,(XW (aZ vU (aB 7) (aB 5)) (aP dG (aC (aB 0) (aC (aB 1) (aC (aB 2) (aC (aB 3) (aC (aB 4) (aC (aB 7) aY)))))))) [some (.int M),some (.lst rd),some (bC n (RT R)),some dab,some (tupI ks),some (tupI q),some (tupI vs),some (tupI pt),none,o]=some (.bl true):=by
     intro o;cases hlt:HT.lexLt pt q with
     | false=>
      rw[hlt]at g;generalize tupI pt=tp at g ⊢;generalize tupI q=tq_ at g ⊢;simp_all[g]
     | true=>
      rw[hlt]at g;have aj:=E7 U hf hp hlt;have ak:bV R M (sv R M a ks pt) (fwd R a.gv b.gv)=sv R M b ks pt:=by simpa using aj
      rw[decide_eq_true ak]at G;generalize tupI pt=tp at g G ⊢;generalize tupI q=tq_ at g ⊢;generalize bC n (RT R)=mt at G ⊢;generalize tupI ks=tk at G ⊢;simp_all[g,G]
    exact⟨ac _,ac⟩
   have ae:∀(xs:List Int) (o:Option D),(∀x∈xs,0<=x/\x<=2)->∃o',cE (aL 9) (nT (OU (vX (eJ (BN "int" (aB 9)))) (OU (eJ (BN "bool" (aB 9))) (OU (eJ (aZ YD (aB 9) (eC (.int 0)))) (eJ (aZ BQ (aB 9) (eC (.int 2))))))) (BU (eC (.bl false))) vY) (xs.map .int) [some (.int M),some (.lst rd),some (bC n (RT R)),some dab,some (tupI ks),some (tupI q),some (tupI vs),some (tupI pt),none,o]=some (.nx [some (.int M),some (.lst rd),some (bC n (RT R)),some dab,some (tupI ks),some (tupI q),some (tupI vs),some (tupI pt),none,o']):=by
    intro xs;induction xs with
    | nil=>exact λo _=>⟨o,rfl⟩
    | cons x xs ih=>
     intro o h;obtain⟨x0,x2⟩:=h x (zas ..);obtain⟨o',e⟩:=ih (some (.int x)) λy hy=>h y (zav _ hy)
     refine⟨o',?_⟩;rw[zak];have i1:rT "int" (D.int x)=true:=rfl;have i2:rT "bool" (D.int x)=false:=rfl;have c1:¬ x<0:=by lia
     have c2:¬ 2<x:=by lia
     refine(rJ ?_).trans e;simp_all[turn,i1,i2,c1,c2]
   obtain⟨o',el⟩:=ae q none (ai q hq).2;have sq:∀ {r0 r1 r2 r3 r4 r6 r7 r8 r9:Option D},kS (aB 5) [r0,r1,r2,r3,r4,some (tupI q),r6,r7,r8,r9]=some (q.map .int):=by intros;simp_all[tupI]
   refine aM ?_;show dQ (aK 10 [.int M,.lst rd,bC n (RT R),dab,tupI ks,tupI q,tupI vs,tupI pt])=some (.rt (.bl true));have s0:aK 10 [.int M,.lst rd,bC n (RT R),dab,tupI ks,tupI q,tupI vs,tupI pt]=[some (.int M),some (.lst rd),some (bC n (RT R)),some dab,some (tupI ks),some (tupI q),some (tupI vs),some (tupI pt),none,none]:=rfl;rw[s0];unfold dQ;have l2:=last.2 o';generalize tupI ks=tk at N G ad el l2 ⊢;generalize tupI vs=tv at el l2 ⊢;generalize tupI pt=tp at G el l2 ⊢;generalize tupI q=tq_ at N lq iq nq el sq l2 ⊢;have r1:=J;have r2:=W;generalize bC n (RT R)=mt at r1 N G el l2 J ⊢;generalize cN n (RT R a.gv)=rw_ at r1 r2 J W;refine(aF (ρ':=[some (.int M),some (.lst rd),some mt,some dab,some tk,some tq_,some tv,some tp,none,none]) (by ac_rfl)).trans ?_;refine(aF (ρ':=[some (.int M),some (.lst rd),some mt,some dab,some tk,some tq_,some tv,some tp,none,none]) (by ac_rfl)).trans ?_;refine(aF (ρ':=[some (.int M),some (.lst rd),some mt,some dab,some tk,some tq_,some tv,some tp,none,none]) (by ac_rfl)).trans ?_;refine(aF (ρ':=[some (.int M),some (.lst rd),some mt,some dab,some tk,some tq_,some tv,some tp,none,o']) (by rw[q_for,sq];exact el)).trans ?_;refine(aF (ρ':=[some (.int M),some (.lst rd),some mt,some dab,some tk,some tq_,some tv,some tp,none,o']) (by ac_rfl)).trans ?_;rw[q_rt,l2];rfl
 ·have rf:RT R a.gv b.gv=false:=by rw[zc2];exact λz=>Y (hJ.mp z)
  rw[rf]at W;unfold K2;rw[rf];refine aM ?_;generalize bC n (RT R)=mt at J ⊢;generalize cN n (RT R a.gv)=rw_ at J W;have i1:rT "tuple" (D.tup [])=true:=rfl;simp_all[dQ,aK,p0,p1,a2,b2,J,W,i1]
theorem G3{f:Lv}{g:Gv}{b rest:Sv}{ρ:cY}{items:List D}{d:D}(q:f ρ=some items)(I:cY->Prop)(h0:I ρ)(hs:∀x ρ,x∈items->I ρ->turn g b x ρ=some (.rt d)\/∃ρ',turn g b x ρ=some (.nx ρ')/\I ρ')(k:∀ρ',I ρ'->rest ρ'=some (.rt d)):bD (jV f g b) rest ρ=some (.rt d):=by
 have L:∀(l:List D) (ρ:cY),(∀x∈l,x∈items)->I ρ->cE g b l ρ=some (.rt d)\/∃ρ',cE g b l ρ=some (.nx ρ')/\I ρ':=by
  intro l;induction l with
  | nil=>exact λρ _ h=>.inr ⟨ρ,rfl,h⟩
  | cons x l ih=>
   intro ρ z h;rcases hs x ρ (z x (zas ..)) h with e|⟨ρ',e,h'⟩
   ·exact .inl (BB e)
   ·rw[rJ e];exact ih ρ' (λy B=>z y (zav _ B)) h'
 rcases L items ρ (λ_ h=>h) h0 with e|⟨ρ',e,h'⟩
 ·exact qV (by rw[q_for,q];exact e)
 ·exact(aF (by rw[q_for,q];exact e)).trans (k ρ' h')
def XU:Sv:=bD (nT (eJ (aZ yY (aP dA (aC (aZ aH (aZ aH (aB 11) (eC (.int 0))) (eC (.int 1))) aY)) (aP dA (aC (aZ aH (aZ aH (aB 11) (eC (.int 1))) (eC (.int 1))) aY)))) (bQ 12 (aP eP (aC (aB 6) (aC (aB 11) (aC (aZ sI (aB 8) (eC (.int 25))) aY))))) vY) (nT (eJ (aZ DN (aB 12) (eC .non))) (bD (bQ 13 (K5 lO (iC (aC (aZ dS (aP b9 (aC (aB 0) (aC (aZ bX (aB 7) (eC (.int 1))) aY))) (aB 1)) (aC (aZ dS (aP b9 (aC (aB 0) (aC (aZ bX (aB 7) (eC (.int 2))) aY))) (aB 1)) aY))) rP (kT (aP dA (aC (aB 12) aY))))) (bD (bQ 14 (aP gR (aC (aP b9 (aC (aB 0) (aC (aZ bX (aB 7) (eC (.int 3))) aY))) (aC (aP dA (aC (aB 12) aY)) aY)))) (bD (bQ 15 (aP eO (aC (aB 5) (aC (aB 9) (aC (aB 10) (aC (aB 12) aY)))))) (nT (vX (eJ (aP gL (aC (aB 1) (aC (aB 3) (aC (aB 6) (aC (aB 11) (aC (aB 12) (aC (aB 15) (aC (aB 13) (aC (aB 14) aY))))))))))) (BU (eC (.bl false))) vY)))) vY)
def X1:Sv:=(bD (bQ 8 (aP b9 (aC (aB 0) (aC (aB 7) aY)))) (bD (nT (eJ (aZ yY (aP dA (aC (aB 4) aY)) (eC (.int 0)))) (BU (eC (.bl true))) vY) (bD (bQ 9 (aZ dS (aB 8) (aP dA (aC (aB 4) aY)))) (bD (bQ 10 (aZ dS (aZ sI (aB 8) (eC (.int 5))) (aP dA (aC (aB 4) aY)))) (bD (bQ 11 (iC (aC (aZ aH (aB 4) (aB 9)) (aC (aZ aH (aB 4) (aB 10)) aY)))) (bD (bQ 12 (eC .non)) XU))))))
theorem IR:KM=bD (K1 (aP fS (aC (aB 0) aY)) (kU 4 (aR (aL 1) (aR (aL 2) (aR (aL 3) (aR (aL 4) cC)))))) (bD (bQ 5 (aP AR (aC (aB 1) (aC (aP kR (aC (aB 2) aY)) (aC (aP kR (aC (aB 3) aY)) (aC (aP kR (aC (aB 4) aY)) aY)))))) (bD (bQ 6 (aP gK (aC (aP dA (aC (aB 2) aY)) (aC (aB 3) aY)))) (bD (jV (lR eR (aC (eC (.int 31)) (aC (aP yR (aC (eC (.int 47)) (aC (aP yU (aC (aP dA (aC (aB 0) aY)) (aC (eC (.int 90)) aY))) aY))) (aC (eC (.int 4)) aY)))) (aL 7) X1) (BU (eC (.bl true)))))):=rfl
theorem V6(ns:List Int)(hl:ns.length<=63):bA 16 KM [.lst (ns.map .int)]=some (.bl true):=by
 obtain⟨f,hf⟩:=g9 ns;obtain⟨M,c,n,rs,ms,eb,hM,hn,hr,hm,aq⟩:=AH ns;have vb:=QM (c:=c) hM hn hr hm aq;have g:=SH hM.1 hr.1 hr.2;have vr:=v7 g hn.2;have B:Bok M n rs ms:=⟨hM.1,hM.2.1,hn,g,λr h=>⟨(hr.2 r h).2.2.2.1,(hr.2 r h).2.2.2.2⟩,hm,aq⟩;have Mp:0<M:=by have:=hM.1;lia
 refine aM ?_;rw[IR];rw[aF (ρ':=[some (.lst (ns.map .int)),some (.int M),some (.lst (cQ c n)),some (.lst (rs.map bG)),some (.lst (ms.map bP)),none,none,none,none,none,none,none,none,none,none,none]) (by ac_rfl)];rw[aF (aN (d:=f9 M c n rs ms) (by ac_rfl))];rw[aF (aN (d:=bC n (RT (rs.map (red M)))) (by simp_all[g7,vr]))];have hi:∃hi:Int,0<=hi/\hi<=200/\(aC (eC (.int 31)) (aC (aP yR (aC (eC (.int 47)) (aC (aP yU (aC (aP dA (aC (aB 0) aY)) (aC (eC (.int 90)) aY))) aY))) (aC (eC (.int 4)) aY))) [some (.lst (ns.map .int)),some (.int M),some (.lst (cQ c n)),some (.lst (rs.map bG)),some (.lst (ms.map bP)),some (f9 M c n rs ms),some (bC n (RT (rs.map (red M)))),none,none,none,none,none,none,none,none,none]=some [.int 31,.int hi,.int 4]:=by
  refine⟨if(if(90:Int)<(ns.length:Int)then 90 else(ns.length:Int))>47 then(if(90:Int)<(ns.length:Int)then 90 else(ns.length:Int))else 47,by split <;> (try split) <;> lia,by split <;> (try split) <;> lia,?_⟩
  simp[-zad,-zae,aA,aD]
 obtain⟨hi,bc,bq,az⟩:=hi;obtain⟨mm,er,bf⟩:=EM (a:=31) (b:=hi) (c:=4) (by decide) (by decide) (by decide) (by decide) bc (by lia);refine G3 (items:=aV 31 4 mm) (by rw[q_lR];exact(congrArg (λo=>zdG o eR) az).trans er) (λρ=>∃(o7 o8 o9 N J U F G q:Option D),ρ=[some (.lst (ns.map .int)),some (.int M),some (.lst (cQ c n)),some (.lst (rs.map bG)),some (.lst (ms.map bP)),some (f9 M c n rs ms),some (bC n (RT (rs.map (red M)))),o7,o8,o9,N,J,U,F,G,q]) ⟨none,none,none,none,none,none,none,none,none,rfl⟩ ?_ ?_
 ·rintro y ρ hy ⟨o7,o8,o9,N,J,U,F,G,q,rfl⟩
  obtain⟨i,hy⟩:=List.mem_iff_getElem?.mp hy;obtain⟨a3,rfl⟩:=bI hy;have hI:=bf i a3;have a5:31<=(31:Int)+(i:Int)*4:=by lia
  generalize (31:Int)+(i:Int)*4=I at hI a5;have fI:=hf I (by lia) (by lia);have fJ:=hf (I+1) (by lia) (by lia);have fK:=hf (I+2) (by lia) (by lia);have fL:=hf (I+3) (by lia) (by lia);generalize f I=ce at fI;generalize f (I+1)=x1 at fJ;generalize f (I+2)=x2 at fK;generalize f (I+3)=x3 at fL;have st:aL 7 (.int I) [some (.lst (ns.map .int)),some (.int M),some (.lst (cQ c n)),some (.lst (rs.map bG)),some (.lst (ms.map bP)),some (f9 M c n rs ms),some (bC n (RT (rs.map (red M)))),o7,o8,o9,N,J,U,F,G,q]=some [some (.lst (ns.map .int)),some (.int M),some (.lst (cQ c n)),some (.lst (rs.map bG)),some (.lst (ms.map bP)),some (f9 M c n rs ms),some (bC n (RT (rs.map (red M)))),some (.int I),o8,o9,N,J,U,F,G,q]:=by simp[-zad,-zae,aA,aD]
  by_cases m0:ms.length=0
  ·refine .inl (turn_of st ?_)
   unfold X1;have be:ms=[]:=List.length_eq_zero_iff.mp m0;subst be;refine(aF (aN (d:=.int ce) (by ac_rfl))).trans ?_;refine qV ?_;simp[-zad,-zae,aA,aD]
  ·refine .inr ?_
   have lp:(0:Int)<(ms.length:Int):=by lia
   have a0:=zaw ce (zaU lp);have a1:=zax ce lp;have b0:=zaw (ce/5) (zaU lp);have b1:=zax (ce/5) lp;have da:dS (.int ce) (.int (ms.length:Int))=some (.int (ce%(ms.length:Int))):=bB lp;have db:dS (.int (ce/5)) (.int (ms.length:Int))=some (.int (ce/5%(ms.length:Int))):=bB lp;generalize ce%(ms.length:Int)=i1 at a0 a1 da;generalize ce/5%(ms.length:Int)=i2 at b0 b1 db;obtain⟨a,ha,ea,ao⟩:=PH (M:=M) (ms:=ms) a0 a1;have ax:∃b∈ms,dX (ms.map bP) i2=some (bP b)/\dX (ms.map (gA M)) i2=some (gA M b)/\(i1=i2->a=b):=by
    by_cases h:i1=i2
    ·exact⟨a,ha,h ▸ ea,h ▸ ao,λ_=>rfl⟩
    ·obtain⟨b,h1,h2,h3⟩:=PH (M:=M) (ms:=ms) b0 b1
     exact⟨b,h1,h2,h3,λz=>absurd z h⟩
   obtain⟨b,hb,b3,bd,ie⟩:=ax;have cj:dA [.lst (ms.map bP)]=some (.int (ms.length:Int)):=by simp[-zad,-zae,aA,aD]
   have ac:∀r,XU [some (.lst (ns.map .int)),some (.int M),some (.lst (cQ c n)),some (.lst (rs.map bG)),some (.lst (ms.map bP)),some (f9 M c n rs ms),some (bC n (RT (rs.map (red M)))),some (.int I),some (.int ce),some (.int i1),some (.int i2),some (.tup [bP a,bP b]),some .non,F,G,q]=r->turn (aL 7) X1 (.int I) [some (.lst (ns.map .int)),some (.int M),some (.lst (cQ c n)),some (.lst (rs.map bG)),some (.lst (ms.map bP)),some (f9 M c n rs ms),some (bC n (RT (rs.map (red M)))),o7,o8,o9,N,J,U,F,G,q]=r:=by
    intro r ag;refine turn_of st ?_;unfold X1;generalize f9 M c n rs ms=bk at ag ⊢;generalize bC n (RT (rs.map (red M)))=mt at ag ⊢;refine(aF (aN (d:=.int ce) (by ac_rfl))).trans ?_;refine(aF (ρ':=[some (.lst (ns.map .int)),some (.int M),some (.lst (cQ c n)),some (.lst (rs.map bG)),some (.lst (ms.map bP)),some bk,some mt,some (.int I),some (.int ce),o9,N,J,U,F,G,q]) (by ac_rfl)).trans ?_;refine(aF (aN (d:=.int i1) (by ac_rfl))).trans ?_;refine(aF (aN (d:=.int i2) (by ac_rfl))).trans ?_;refine(aF (aN (d:=.tup [bP a,bP b]) (by ac_rfl))).trans ?_;exact(aF (aN (d:=.non) (by simp[-zad,-zae,aA,aD]))).trans ag
   have la:dA [tupI a.tk]=some (.int (a.tk.length:Int)):=by unfold tupI;rw[q_lenT,zao]
   have lb:dA [tupI b.tk]=some (.int (b.tk.length:Int)):=by unfold tupI;rw[q_lenT,zao]
   have p0:aH (.tup [bP a,bP b]) (.int 0)=some (bP a):=by rw[q_itT];exact at0
   have p1:aH (.tup [bP a,bP b]) (.int 1)=some (bP b):=by rw[q_itT];exact at1
   have W:=KQ (m:=a);have Y:=KQ (m:=b);by_cases ae:a.tk.length=b.tk.length
   ·rcases wK (cell:=ce/25) B ha hb ae with ek|⟨ks,ek,kl,kb,fa,fb⟩
    ·refine⟨[some (.lst (ns.map .int)),some (.int M),some (.lst (cQ c n)),some (.lst (rs.map bG)),some (.lst (ms.map bP)),some (f9 M c n rs ms),some (bC n (RT (rs.map (red M)))),some (.int I),some (.int ce),some (.int i1),some (.int i2),some (.tup [bP a,bP b]),some .non,F,G,q],ac _ ?_,_,_,_,_,_,_,_,_,_,rfl⟩
     unfold XU;generalize D.tup [bP a,bP b]=dab at p0 p1 ek ⊢;generalize f9 M c n rs ms=bk;generalize bC n (RT (rs.map (red M)))=mt at ek ⊢;generalize tupI a.tk=ta at la W;generalize tupI b.tk=tb_ at lb Y;refine(aF (ρ':=[some (.lst (ns.map .int)),some (.int M),some (.lst (cQ c n)),some (.lst (rs.map bG)),some (.lst (ms.map bP)),some bk,some mt,some (.int I),some (.int ce),some (.int i1),some (.int i2),some dab,some .non,F,G,q]) (by simp_all[p0,p1,W,Y,la,lb,ae,dB,ek])).trans ?_;have nn:eT .non=true:=rfl
     ac_rfl
    ·have a6:=(B.mo a ha).tk
     have aa:ks.length=1\/ks.length=2:=by rcases a6 with⟨t,e⟩|⟨t,u,e⟩ <;> rw[kl,e] <;> simp[-zad,-zae,aA,aD]
     obtain⟨pt,ay,ak⟩:=wN aa x3;have xb:∀y:Int,0<=y%M/\y%M<M:=λy=>⟨zaw _ (zaU Mp),zax _ Mp⟩
     have lk:dA [tupI ks]=some (.int (ks.length:Int)):=by unfold tupI;rw[q_lenT,zao]
     have vv:∃vs:List Int,vs.length=ks.length/\(∀v∈vs,0<=v/\v<M)/\D.tup (cutD [.int (x1%M),.int (x2%M)] none (some (ks.length:Int)))=tupI vs:=by
      rcases aa with h|h
      ·refine⟨[x1%M],h.symm,λv hv=>by rw[List.mem_singleton.mp hv];exact xb _,?_⟩
       rw[h];simp_all[UG,tupI]
      ·refine⟨[x1%M,x2%M],h.symm,λv hv=>?_,?_⟩
       ·simp only[zaD,zaE,or_false]at hv
        rcases hv with rfl|rfl <;> exact xb _
       ·rw[h];simp_all[UG,tupI]
     obtain⟨vs,vl,ba,ap⟩:=vv;have sh:eO [f9 M c n rs ms,.int i1,.int i2,tupI ks]=some (K2 (rs.map (red M)) M ks a b):=wR B aa kb ha hb ao bd fa fb ie;have rg:=wM B hM.2.2 aa kb ha hb fa fb vl ba ay;refine⟨[some (.lst (ns.map .int)),some (.int M),some (.lst (cQ c n)),some (.lst (rs.map bG)),some (.lst (ms.map bP)),some (f9 M c n rs ms),some (bC n (RT (rs.map (red M)))),some (.int I),some (.int ce),some (.int i1),some (.int i2),some (.tup [bP a,bP b]),some (tupI ks),some (tupI vs),some (tupI pt),some (K2 (rs.map (red M)) M ks a b)],ac _ ?_,_,_,_,_,_,_,_,_,_,rfl⟩;unfold XU;have kn:eT (tupI ks)=false:=rfl;generalize K2 (rs.map (red M)) M ks a b=so at sh rg ⊢;generalize D.tup [bP a,bP b]=dab at p0 p1 ek rg ⊢;generalize f9 M c n rs ms=bk at sh ⊢;generalize bC n (RT (rs.map (red M)))=mt at ek rg ⊢;generalize tupI a.tk=ta at la W;generalize tupI b.tk=tb_ at lb Y;generalize tupI ks=tk at ek lk sh rg kn ⊢;generalize tupI vs=tv at ap rg ⊢;generalize tupI pt=tp at ak rg ⊢;refine(aF (ρ':=[some (.lst (ns.map .int)),some (.int M),some (.lst (cQ c n)),some (.lst (rs.map bG)),some (.lst (ms.map bP)),some bk,some mt,some (.int I),some (.int ce),some (.int i1),some (.int i2),some dab,some tk,F,G,q]) (by simp_all[p0,p1,W,Y,la,lb,ae,dB,ek])).trans ?_;simp_all[kn,fJ,fK,fL,bB Mp,lk,ap,ak,sh,rg]
   ·refine⟨[some (.lst (ns.map .int)),some (.int M),some (.lst (cQ c n)),some (.lst (rs.map bG)),some (.lst (ms.map bP)),some (f9 M c n rs ms),some (bC n (RT (rs.map (red M)))),some (.int I),some (.int ce),some (.int i1),some (.int i2),some (.tup [bP a,bP b]),some .non,F,G,q],ac _ ?_,_,_,_,_,_,_,_,_,_,rfl⟩
    unfold XU;generalize D.tup [bP a,bP b]=dab at p0 p1 ⊢;generalize f9 M c n rs ms=bk;generalize bC n (RT (rs.map (red M)))=mt;generalize tupI a.tk=ta at la W;generalize tupI b.tk=tb_ at lb Y;refine(aF (ρ':=[some (.lst (ns.map .int)),some (.int M),some (.lst (cQ c n)),some (.lst (rs.map bG)),some (.lst (ms.map bP)),some bk,some mt,some (.int I),some (.int ce),some (.int i1),some (.int i2),some dab,some .non,F,G,q]) (by ac_rfl)).trans ?_;have nn:eT .non=true:=rfl
    ac_rfl
 ·rintro ρ ⟨o7,o8,o9,N,J,U,F,G,q,rfl⟩
  simp[-zad,-zae,aA,aD]
theorem ZD:Bds top tab:=by
 unfold tab
 repeat (refine Bds.cons ?_ ?_;· (repeat intro _);rfl)
 exact Bds.nil
theorem Q6{l:ze8}{w:World}{K:zaf}{h:Heap}{mg:Str->Option Value}{fa:Addr}{k:Nat}(X:K.In h)(G:h.Ns za2 mg)(ah:mg "law" = some (.ref fa))(D:Des K top tab)(B:Nos K blt)(J:Gis K Z0)
  {f0:Addr} {al ag:Option Addr} {ai:Array (Option Value)} {ak ad ae af ab ac:Value} (a0:zcx K za2 "law" = some (some (.ref f0))) (l0:K.lookup f0=some ⟨ak,al,.func (zbH "law" "law" (dP s_law) (bZ s_law) (aT s_law) .none ad ae af ag ab ac),ai⟩) (c0:zcY K ab "law" = true) (k0:zcp K (.ref f0)=true)
  {q:Addr} {U:Option Addr} {aa:Nat} {Y:Array (Option Value)} {z M F N:Tok} (gaWORDS:zcx K za2 "WORDS" = some (some (.ref q))) (glWORDS:K.lookup q=some ⟨.type "tuple",U,.seq #[.str "let" z,.str "in" M,.str "pick" F,.str "again" N] aa,Y⟩)
  (ok:∀base:Heap,K.In base->base.Ns za2 mg->Txt K mg->My.BodyOk l.prog w K mg base "law" s_law ["script", "M", "kinds", "roads", "makes", "made", "reach", "k", "cell", "m", "v", "pair", "some", "values", "point", "found"] k (My.yS K)) :
  ∃fd:zbq,(∀(s:zab) (v:Value),BindsTo s fd ⟨[v],[]⟩ [("script",v)])/\∀base:Heap,K.In base->base.Ns za2 mg->FnOk l.prog w K mg base F6 (k+1) fa fd ["script"] (My.yS K):=by
 have e:=ah.symm.trans (zeM X G a0);cases e;have F0:=JL (st:=s_law) l0 c0 k0;have T:Txt K mg:=⟨Des.d X G D ZD,λx hx=>PySem.W.mg_none_of X G (B x hx),Gis.d X G J,⟨⟨_,zeM X G gaWORDS,_,_,_,glWORDS,rfl,rfl,by show 4<=zaj;decide,.cons ⟨_,rfl⟩ (.cons ⟨_,rfl⟩ (.cons ⟨_,rfl⟩ (.cons ⟨_,rfl⟩ (.nil))))⟩⟩⟩;refine⟨zbH "law" "law" (dP s_law) (bZ s_law) (aT s_law) .none ad ae af ag ab ac,λs v=>.of_eq rfl,λbase kb nb=>?_⟩;exact(ok base kb nb T).fn F0 sc_law (λvs H Q E h=>by obtain⟨a,ns,e,_⟩:=h;rw[e];rfl)
end Law
namespace PySem.W.Fast
theorem tw12817343930772843908:0=0:=rfl
theorem tw2949771288332569252:0=0:=rfl
theorem tw3191835023039365448:0=0:=rfl
theorem tw14498310554726224910:0=0:=rfl
theorem tw10344029036072604456:0=0:=rfl
theorem tw10387193754733012701:0=0:=rfl
theorem tw5046423879278450778:0=0:=rfl
theorem tw17823355984916763387:0=0:=rfl
theorem tw17194965258352274947:0=0:=rfl
theorem tw712327487776411528:0=0:=rfl
theorem tw4159814357015946594:0=0:=rfl
theorem tw14736845436097667350:0=0:=rfl
theorem tw16097071383311916660:0=0:=rfl
theorem tw12134083127002946730:0=0:=rfl
theorem tw9804441335775760243:0=0:=rfl
theorem tw4607728984626412203:0=0:=rfl
theorem tw9856942546340138599:0=0:=rfl
theorem tw8698597601255845607:0=0:=rfl
theorem tw16829938854931643876:0=0:=rfl
theorem tw12375698271200284707:0=0:=rfl
theorem tw13139934771493538676:0=0:=rfl
theorem tw9201812158582852464:0=0:=rfl
theorem tw3741393041201781105:0=0:=rfl
theorem tw899685949720517546:0=0:=rfl
theorem tw3039219386509500685:0=0:=rfl
theorem tw7750739088427351666:0=0:=rfl
theorem tw14623789221432023690:0=0:=rfl
theorem tw393738636658472352:0=0:=rfl
theorem tw6417232333842846929:0=0:=rfl
theorem tw15269829403909210160:0=0:=rfl
theorem tw1779018412097815784:0=0:=rfl
theorem tw2620814769257562002:0=0:=rfl
theorem tw64634679524095617:0=0:=rfl
theorem tw13968000616928002253:0=0:=rfl
theorem tw17834460977880567107:0=0:=rfl
theorem tw13260625512326838301:0=0:=rfl
theorem tw4261318607157021819:0=0:=rfl
theorem tw68290058182468828:0=0:=rfl
theorem tw3995294513303734367:0=0:=rfl
theorem tw13034771550232393474:0=0:=rfl
theorem tw13757015285541018860:0=0:=rfl
theorem tw1903188086204399209:0=0:=rfl
theorem tw3517270012764420336:0=0:=rfl
theorem tw6816692497459889546:0=0:=rfl
theorem tw12945620541310218970:0=0:=rfl
theorem tw5541828576616145973:0=0:=rfl
theorem tw2134288568544185851:0=0:=rfl
theorem tw15380119158042692582:0=0:=rfl
theorem tw17276094265704472680:0=0:=rfl
theorem tw7347293597942246772:0=0:=rfl
theorem tw6709048940297059944:0=0:=rfl
theorem tw8123660932263649613:0=0:=rfl
theorem tw4309939720653886683:0=0:=rfl
theorem tw14914606502448466262:0=0:=rfl
theorem tw3990884065790151845:0=0:=rfl
theorem tw2184810355294243192:0=0:=rfl
theorem tw4822882699936534391:0=0:=rfl
theorem tw909058456757551757:0=0:=rfl
theorem tw873143865972286226:0=0:=rfl
theorem tw377062627128447855:0=0:=rfl
theorem tw4880988007058319782:0=0:=rfl
theorem tw14017443551492692121:0=0:=rfl
theorem tw6724456825200597270:0=0:=rfl
theorem tw15487277603692407515:0=0:=rfl
theorem tw16968450111156710171:0=0:=rfl
theorem tw2383690392806940543:0=0:=rfl
theorem tw4347839845827739049:0=0:=rfl
theorem tw12399808162358066102:0=0:=rfl
theorem tw8783807477538670706:0=0:=rfl
theorem tw16997809182551911080:0=0:=rfl
theorem tw6273355294680559434:0=0:=rfl
theorem tw9536328895000863011:0=0:=rfl
theorem tw11167551556218628557:0=0:=rfl
theorem tw4824073971680790547:0=0:=rfl
theorem tw10319366835782924790:0=0:=rfl
theorem tw511994611731517920:0=0:=rfl
theorem tw13684609295675007276:0=0:=rfl
theorem tw11943982076089214457:0=0:=rfl
theorem tw16254109651817535113:0=0:=rfl
theorem tw1411666648539461464:0=0:=rfl
theorem tw11992890016878671739:0=0:=rfl
theorem tw4243998727686801434:0=0:=rfl
theorem tw13137743256402333764:0=0:=rfl
theorem tw2563748707869618316:0=0:=rfl
theorem tw16460173346708250080:0=0:=rfl
theorem tw13639952019059539648:0=0:=rfl
theorem tw10908169679085532541:0=0:=rfl
theorem tw9530767434053692101:0=0:=rfl
theorem tw17485165133426998987:0=0:=rfl
theorem tw18035996163569678163:0=0:=rfl
theorem tw17465819402061280803:0=0:=rfl
theorem tw15911528225143568420:0=0:=rfl
theorem tw4747875595510863507:0=0:=rfl
theorem tw16233439740593742857:0=0:=rfl
theorem tw14398792280213739655:0=0:=rfl
theorem tw6989023758072698892:0=0:=rfl
theorem tw2486449558961339931:0=0:=rfl
theorem tw17967811783804140661:0=0:=rfl
theorem tw12391545402373447685:0=0:=rfl
theorem tw2290291398108439555:0=0:=rfl
theorem tw16955020885832772774:0=0:=rfl
theorem tw9098877911697996907:0=0:=rfl
theorem tw13024056864636022722:0=0:=rfl
theorem tw4234472262672365019:0=0:=rfl
theorem tw17801169445722852027:0=0:=rfl
theorem tw5885705845658856794:0=0:=rfl
theorem tw3658469227422332801:0=0:=rfl
theorem tw2799158599653700776:0=0:=rfl
theorem tw2829574164118084039:0=0:=rfl
theorem tw6419084893016702997:0=0:=rfl
theorem tw9391711164533515480:0=0:=rfl
theorem tw6895126100460771114:0=0:=rfl
theorem tw1862495208418878623:0=0:=rfl
theorem tw2604676856114765339:0=0:=rfl
theorem tw4105674615415486600:0=0:=rfl
theorem tw17511876603080008079:0=0:=rfl
theorem tw3579847122151874171:0=0:=rfl
theorem tw8742032210317463130:0=0:=rfl
theorem tw18110705042147198883:0=0:=rfl
theorem tw7742958106405337434:0=0:=rfl
theorem tw16057750123409168059:0=0:=rfl
theorem tw17133245430845652070:0=0:=rfl
theorem tw2771492013346728378:0=0:=rfl
theorem tw455358108446174653:0=0:=rfl
theorem tw8667046659669248385:0=0:=rfl
theorem tw11684235436040654413:0=0:=rfl
theorem tw5069274024461824760:0=0:=rfl
theorem tw14209310298033291158:0=0:=rfl
theorem tw13460636623889046941:0=0:=rfl
theorem tw16316518696780467045:0=0:=rfl
theorem tw10632581858619368426:0=0:=rfl
theorem tw7270032845465871562:0=0:=rfl
theorem tw15479238284885529806:0=0:=rfl
theorem tw15101667646203835727:0=0:=rfl
theorem tw1888396868409933745:0=0:=rfl
theorem tw9451558001836818822:0=0:=rfl
theorem tw13518885823722753280:0=0:=rfl
theorem tw18126402811177686734:0=0:=rfl
theorem tw8761847010874434345:0=0:=rfl
theorem tw7798258221547640016:0=0:=rfl
theorem tw16546360251362946274:0=0:=rfl
theorem tw13308200160812522418:0=0:=rfl
theorem tw6116654004000941233:0=0:=rfl
theorem tw11107264153870474009:0=0:=rfl
theorem tw17992664563230677918:0=0:=rfl
theorem tw7226268730393978420:0=0:=rfl
theorem tw9688053601800052534:0=0:=rfl
theorem tw13554665459469709086:0=0:=rfl
theorem tw16262623008368398131:0=0:=rfl
theorem tw8123437928066228952:0=0:=rfl
theorem tw9628906507049258700:0=0:=rfl
theorem tw6096073975021707463:0=0:=rfl
theorem tw9586722187435726845:0=0:=rfl
theorem tw12715898095782426037:0=0:=rfl
theorem tw3451904350351070899:0=0:=rfl
theorem tw5901946901786633669:0=0:=rfl
theorem tw11972527079187363959:0=0:=rfl
theorem tw6218364207263630022:0=0:=rfl
theorem tw17281264463617833946:0=0:=rfl
theorem tw7452623450234553778:0=0:=rfl
theorem tw4575366846757552717:0=0:=rfl
theorem tw8050095029387776602:0=0:=rfl
theorem tw738798840894875547:0=0:=rfl
theorem tw14413814750835467637:0=0:=rfl
theorem tw9640640355340644478:0=0:=rfl
theorem tw9092749628315198695:0=0:=rfl
theorem tw5224259912455567298:0=0:=rfl
theorem tw6510513764262206278:0=0:=rfl
theorem tw16513105884387114735:0=0:=rfl
theorem tw14237537992213200086:0=0:=rfl
theorem tw4379521241789106720:0=0:=rfl
theorem tw16222846680577380078:0=0:=rfl
theorem tw12368766669699904758:0=0:=rfl
theorem tw9043183855107575262:0=0:=rfl
theorem tw18370402233572390186:0=0:=rfl
theorem tw2295597497366958826:0=0:=rfl
theorem tw88292710476765026:0=0:=rfl
theorem tw17413063103756126905:0=0:=rfl
theorem tw4301715785291735768:0=0:=rfl
theorem tw11688255251408613501:0=0:=rfl
theorem tw11969229055504790161:0=0:=rfl
theorem tw12251963491264175629:0=0:=rfl
theorem tw11181257019521225004:0=0:=rfl
theorem tw11407264343015271445:0=0:=rfl
theorem tw15085210555902827275:0=0:=rfl
theorem tw4662507589395916617:0=0:=rfl
theorem tw518899659160213548:0=0:=rfl
theorem tw7268708243152294454:0=0:=rfl
theorem tw16431895339768044633:0=0:=rfl
theorem tw14507105891419227731:0=0:=rfl
theorem tw276168243275091719:0=0:=rfl
theorem tw13695952089774512367:0=0:=rfl
theorem tw8388594864063767076:0=0:=rfl
theorem tw4191319212201813217:0=0:=rfl
theorem tw16772877040987458571:0=0:=rfl
theorem tw7256742574369204581:0=0:=rfl
theorem tw2306986284342543482:0=0:=rfl
theorem tw10534652757210278918:0=0:=rfl
theorem tw7508464806398229378:0=0:=rfl
theorem tw15827417647160962216:0=0:=rfl
theorem tw11366139357213680016:0=0:=rfl
theorem tw7375320467142249528:0=0:=rfl
theorem tw3662913555023044321:0=0:=rfl
theorem tw17497344391617052329:0=0:=rfl
theorem tw13027813936814150212:0=0:=rfl
theorem tw14156227849345164982:0=0:=rfl
theorem tw15731279645788001540:0=0:=rfl
theorem tw3117872628592889516:0=0:=rfl
theorem tw2408576627950671428:0=0:=rfl
theorem tw8629195331498199819:0=0:=rfl
theorem tw15706081537823474108:0=0:=rfl
theorem tw6992498484254042761:0=0:=rfl
theorem tw2665424914702601692:0=0:=rfl
theorem tw820318072231398734:0=0:=rfl
theorem tw3819929136770796240:0=0:=rfl
theorem tw12741106696752028387:0=0:=rfl
theorem tw2714034905485701339:0=0:=rfl
theorem tw6397449731771930490:0=0:=rfl
theorem tw1004744406162048382:0=0:=rfl
theorem tw6434624287338690936:0=0:=rfl
theorem tw7294205509955910059:0=0:=rfl
theorem tw2031717214952091149:0=0:=rfl
theorem tw12603842006916307545:0=0:=rfl
theorem tw6939295212792485657:0=0:=rfl
theorem tw17535232560042836370:0=0:=rfl
theorem tw9897380086480111501:0=0:=rfl
theorem tw10947139649453536988:0=0:=rfl
theorem tw6396007183248549188:0=0:=rfl
theorem tw14876924226313007501:0=0:=rfl
theorem tw10470760834550464462:0=0:=rfl
theorem tw15459577823315808333:0=0:=rfl
theorem tw6503282220860432749:0=0:=rfl
theorem tw5307062940500837986:0=0:=rfl
theorem tw744598933377689639:0=0:=rfl
theorem tw17822757474215472834:0=0:=rfl
theorem tw10471330555418150743:0=0:=rfl
theorem tw8128463817386209386:0=0:=rfl
theorem tw17711684663204042800:0=0:=rfl
theorem tw8800879986765552146:0=0:=rfl
theorem tw11490653093421200862:0=0:=rfl
theorem tw14833467658830043065:0=0:=rfl
theorem tw4109992116546039015:0=0:=rfl
theorem tw16971558626447616675:0=0:=rfl
theorem tw9317282026607129666:0=0:=rfl
theorem tw17289657833205445390:0=0:=rfl
theorem tw615653259461257915:0=0:=rfl
theorem tw4652104016508955218:0=0:=rfl
theorem tw10163865486620323290:0=0:=rfl
theorem tw15356345831903426271:0=0:=rfl
theorem tw9098626035130408935:0=0:=rfl
theorem tw13327749751774299769:0=0:=rfl
theorem tw13682320933610143695:0=0:=rfl
theorem tw10824952421614390463:0=0:=rfl
theorem tw11964006866738180653:0=0:=rfl
theorem tw4468166766604270804:0=0:=rfl
theorem tw17293510154674248351:0=0:=rfl
theorem tw3655598284322630194:0=0:=rfl
theorem tw8968934559181921589:0=0:=rfl
theorem tw2326037903186746367:0=0:=rfl
theorem tw3750325025826092007:0=0:=rfl
theorem tw5947412905655641101:0=0:=rfl
theorem tw8662386801786328556:0=0:=rfl
theorem tw12969929154910672736:0=0:=rfl
theorem tw533618170262595698:0=0:=rfl
theorem tw18097893236790558265:0=0:=rfl
theorem tw8761959569576471403:0=0:=rfl
theorem tw13903220314725331175:0=0:=rfl
theorem tw548448552953281920:0=0:=rfl
theorem tw12102711944300841447:0=0:=rfl
theorem tw15563687089360486666:0=0:=rfl
theorem tw11635731274366560176:0=0:=rfl
theorem tw8240633593989552825:0=0:=rfl
theorem tw2723405153437326187:0=0:=rfl
theorem tw1546904345856153654:0=0:=rfl
theorem tw4819915262955822206:0=0:=rfl
theorem tw9270690024613165163:0=0:=rfl
theorem tw7714697835280890717:0=0:=rfl
theorem tw15500925234977609694:0=0:=rfl
end PySem.W.Fast
open PySem PySem.W PyProof.Rows
set_option maxRecDepth 100000 in
set_option maxHeartbeats 0 in
theorem PySem.Challenge.cw_chiefway_k24_where_a_make_falls_short_holds : PySem.Challenge.rw_chiefway_k24_where_a_make_falls_short.Holds := by
 w_on;o_law;k_head;(case hw=>w_witness2)
 k_fill
 refine My.walk (l:=PySem.Challenge.rw_chiefway_k24_where_a_make_falls_short) (k:=8) (by decide) rfl rfl (λw h Y=>PySem.W.kIn_of Y) ?F
 case F=>
  intro w mg N h U G M;refine' Law.Q6 (k:=7) U G M ?D ?B ?J ?a0 ?l0 ?c0 ?k0 ?gaWORDS ?glWORDS ?ok
  (case D=>unfold Law.tab;(repeat (apply P.Des.cons;(case a=>k_is);(case l=>k_is);(case c=>k_is);(case k=>k_is)));exact P.Des.nil)
  (case B=>unfold Law.blt;(repeat (apply P.Nos.cons;(case a=>k_is)));exact P.Nos.nil)
  (case J=>unfold Law.Z0;(repeat (apply P.Gis.cons;(case a=>k_is)));exact P.Gis.nil)
  (case a0=>k_is)
  (case l0=>k_is)
  (case c0=>k_is)
  (case k0=>k_is)
  (case gaWORDS=>k_is)
  (case glWORDS=>k_is)
  (case ok=>exact λbase kb nb T=>P.SD (f:=Law.KM) (O':=[]) rfl (λN z A q s H E hr=>Law.PU.2 T N z A q s H E hr) Law.V6)
