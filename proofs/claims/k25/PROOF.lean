import PyProof.Rows.All
import Wide.All
import OpenK.AllK
import Wide.FinOn
import Lean
import PyProof.EqAt
import PyProof.EqKinds
import PyProof.TupleCall
import KE.KEqDict
import PySem.Challenge.RW_chiefway_k25_chief_makes
set_option autoImplicit true
set_option relaxedAutoImplicit true
set_option Elab.async false
set_option linter.all false
set_option maxRecDepth 100000
open PySem renaming wpAny_bind → zaa, Shared → zab, wpAny_pure → zac, starEach → zah, sizeLine → zaj, Program → zap, compareOp → zaq, Around → zas, wpAny_field → zaC, pyNext → zaH, backTo → zaJ, bootBuiltins → zaN, rawInt → zaO, Paired → zaU, binaryOp → zaV, wpAny_setField_rec → zaW, mainGlobals → za1, tupleKind → za2, wpAny_seqItems → za5, swapsWith → za6, sysModules → za9, wpAny_mono → zba, wpAny_call_entry → zbb, assignEach → zbg, Builtin → zbi, IsPair → zbk, wpAny_holding → zbn, wpAny_newObj_type → zbp, assign → zbq, FuncData → zbr, codeAny → zbs, wpAny_callSpecial?_slot → zbv, wpAny_letGo → zbw, DictEntry → zbA, plainId_quiet → zbB, wpAny_truthy_bool → zbD, Keyword → zbG, relabel → zbM, wpAny_pyIter_tuple → zbQ, foldedSetIterable → zbS, wpAny_rule → zbV, IsEnum → zbW, NameKind → zbY, IsPart → zbZ, getItem → zb0, sliceBounds → zb2, wpAny_dictEntries → zb3, wpAny_attempt → zb4, wpAny_onRaise → zb8, wpAny_pyIter_list → zcc, behindInMarks → zcd, sizeLine_eq → zce, wpAny_loadPart' → zcf, codeAny_builtin → zcj, holding → zcq, wpAny_typeOf → zct, call_meets → zcv, wpAny_updateSeq → zcw, wpAny_passesOwn → zcA, backToKw → zcD, keywordEach → zcE, cellsFrom → zcF, typeIs_int → zcG, attributeBase → zcH, valueAt → zcK, callerA → zcM, wpAny_dictEpoch → zcP, updateSeq → zcQ, wpAny_tryCatch → zcR, PassesOwn → zcS, lastMarks → zcU, tupleKind_room_in1 → zcX, setField → zc3, firstArgMember → zc4, wpAny_isInstance → zc5, wpAny_newTuple → zc6, wpAny_standAt → zdh, mem_of_lookup → zdj, wpAny_setField → zdr, wpAny_of_eq → zdt, isSubtype_stop → zdu, seqItems? → zdx, wpAny_execs_nil → zdH, swapsWithSole → zdI, swappedStores → zdJ, letOwnedTupleGo → zdK, IsRangeIter → zdL, codeAny_mono → zdP, wpAny_Call_Name_kw → zdQ, subscripted → zdU, call_meetsIn → zdY, wpAny_notOrdered_dict → zd1, wpAny_typeNameOfWhole_keyiter → zd3, wpAny_typeNameOf_keyiter → zd4, wpAny_fieldsOf → zd5, wpAny_typeNameOfWhole_itemiter → zea, wpAny_typeNameOf_itemiter → zeb, wpAny_newList → zee, callType_new → zen, wpAny_pyIter_zip → zeo, getattributeRaised → zeA, noFill_tuple_add → zeM, wpAny_specialOf → zeU, wpAny_isOneOf_itemiter → ze0, wpAny_updateSeq_pair → ze4
open Option renaming bind_some → zad, map_some → zae, bind → zdC, isSome_map → zdX
open PySem.W renaming Frag → zaf, kia_one → zby, fnOf → zbI, keepIn → zcs, nsIn → zcy, codeIn → zcV, kitOne → zdi, kitx_dict → zdN, kitAny → zeB, mg_of → zeF, instObj → zeG, methodObj → zeH, OpenLaw → zeX
open PySem.Heap renaming get?_push_of_some → zag, lt_size → zai, get?_push_size → zat, SameBut → zaT, size_push → zbl, get?_update_other → zbJ, get?_update_self → zbU, ExtBut → zds, IsTuple → zdz, IsList → zem
open List renaming map_cons → zak, length_map → zal, getElem?_map → zar, mem_cons_self → zau, mem_cons_of_mem → zav, size_toArray → zaA, range → zaB, mem_cons → zaE, not_mem_nil → zaF, mem_of_getElem? → zaI, getElem?_eq_getElem → zaL, replicate → zaP, map_map → zaQ, length_cons → za3, map_append → za4, find?_cons → za8, take_add_one → zbm, length_append → zbu, any_cons → zbz, take_length → zbC, mem_append_right → zbF, length → zbH, all_cons → zbK, length_take → zbT, map_nil → zb1, append_nil → zcr, replicate_succ → zcu, flatten_cons → zcI, foldl_cons → zcJ, all_eq_true → zcO, length_nil → zcW, nodup_nil → zcY, getD → zc0, getElem_mem → zc8, sum_cons → zdc, eq_of_mem_replicate → zdd, mem_append_left → zdf, getElem_inj → zdg, getElem?_append_left → zdk, ext_getElem → zdm, toArray → zdo, nodup_cons → zdw, forIn_cons → zdy, lookup_cons → zdA, getElem?_set_ne → zdG, filter_cons → zdW, zipIdx_cons → zej, zipIdx_nil → zek, forIn_nil → zel, drop_eq_getElem_cons → zep, map_congr_left → zey, mem_map_of_mem → zeC, forall_mem_cons → zeE, filterMap_cons → zeI, of_mem_zip → zeK, getElem?_append_right → zeL, length_drop → zeR, foldl_append → ze3, nil_append → ze5, find?_append → ze6, filter_cons_of_neg → ze9, length_filter_le → zfb, length_zipIdx → zfc, filter_nil → zfd
open Sum renaming inl → zam, inr → zcz
open PySem.Value renaming ref → zan, none → zaM, bool → zco, type → zcp
open Nat renaming le_refl → zao, ne_of_lt → zaz, ne_of_gt → zaG, zero_le → zaZ, lt_of_lt_of_le → zbc, lt_irrefl → zbd, le_trans → zbe, lt_trans → zcL, lt_succ_self → zda, zero_add → zdb, le_of_lt → zdF, lt_of_le_of_lt → zd0, not_lt_zero → zeW, le_of_ble_eq_true → zfa
open Bool renaming false_ne_true → zaw, and_eq_true → zaK, false_eq_true → zb5, false_and → zcB, eq_false_iff → zcN, eq_iff_iff → zcT, true_and → zde, or_eq_true → zdn, not_eq_true → zdB, beq_eq_decide_eq → zeY
open Int renaming emod_nonneg → zax, emod_lt_of_pos → zay, dvd_add → zaR, ne_of_gt → zaX, mul_one → zbP, le_of_lt → zbX, toNat_natCast → zb6, pow_succ → zca, pow_add → zdD, pow_zero → zdE, add_emod → zer, mul_emod → zes, emod_emod_of_dvd → zet, dvd_refl → zeu, mul_assoc → zew, le_refl → zex, dvd_mul_of_dvd_left → zeD, ediv_nonneg → zeZ, dvd_self_sub_emod → ze8
open Option.some renaming inj → zaD
open Ne renaming symm → zaS
open PySem.Str renaming ofString → zaY
open PyProof.Rows renaming seqObj → za0, IntsAre → za7, envOfC → zbo, kindOf → zbt, AllBare → zcb, callWith_type1 → zcC, slot_tuple_getitem → zdS
open Array renaming length_toList → zbf, getD → zc2, getElem?_toList → zc7, getElem?_eq_getElem → zd6
open True renaming intro → zbh
open PySem.Obj renaming mapSeq → zbj, data_mapFields → zd7
open PySem.Builtin.SmallTypes renaming nextOf → zbx, ownedTupleIsFree → zb7, ownedTupleHandOut → zc9
open False renaming elim → zbE
open Or renaming inl → zbL, inr → zcg
open PySem.Shared renaming heap → zbN, TypeIs → zec
open PySem.Paired renaming length → zbO
open PySem.Builtin.Range renaming rangeSize → zbR, small → zch, rangeFitsLong → zfe
open ToString renaming toString → zb9
open PySem.Heap.SameBut renaming update → zci, refl → ze1
open PySem.Around renaming under_plainId → zck
open PySem.NameKind renaming free → zcl
open Classical renaming propDecidable → zcm
open PySem.F renaming plain_max_loop → zcn, slot_zip_next → zcx, slot_dict_get → zcZ, plain_extend_loop → zdv, entry_dict_get → zdZ, slot_dict_keyiterator_next → zd2, slot_dict_itemiterator_next → zd9, slot_tuple_iterator_next → zeg, entry_zip_next → zeh, args_zip_next_1 → zei, slot_enumerate_next → zeq, slot_tuple_add → zeN, entry_tuple_add → zeO, args_tuple_add_2 → zeP, plainAttrs_dict → zeV, entry_max_loop → ze7, entry_dict_keyiterator_next → zff, args_dict_keyiterator_next_1 → zfg, entry_dict_itemiterator_next → zfh, args_dict_itemiterator_next_1 → zfi, slot_dict_items_iter → zfj, entry_tuple_iterator_next → zfl, args_tuple_iterator_next_1 → zfm
open ForInStep renaming yield → zc1
open PySem.SeqAt renaming EqAt → zdl
open PySem.Builtin.Dict renaming showsAll → zdp, updateFrom → zef
open PySem.Builtin.Dict_items renaming ownsTuple → zdq, pairFromOwner → zd8, ownedTupleIsFree → zed, ownedTupleFields → zfk
open PySem.Builtin.Str renaming occurrences → zdM
open PySem.Calls renaming spliced_cons → zdO, callWith_builtin → zdV, spliced_nil → zeJ, evalArgs_plain → zeS
open PySem.Builtin.Slice renaming slicePlaces → zdR, sliceAdjust → zeQ
open PySem.Builtin.Tuple renaming tupleExact → zdT
open PySem.Builtin.Builtins renaming bindParams → zez
open PySem.Builtin.List renaming listTooLong → zeT, listExtendWith → ze2
noncomputable section
namespace L2
open PySem PySem.Spec PyProof.Rows
abbrev Key:=Sum Int Str
def nP:Key->Value->Bool
 | .inl k,v=>Value.isInt k v
 | .inr x,v=>Value.isStrOf x v
def Z0(w:World):Key->Int
 | .inl k=>hashInt k
 | .inr x=>hashStr w x
theorem bT:∀ {k:Key} {v:Value},nP k v=true->(∃i t,k=zam i/\v=Value.int i t)\/(∃x t,k=zcz x/\v=Value.str x t)
 | .inl i,v,h=>by
  obtain⟨t,e⟩:=Value.isInt_shape (k:=i) (v:=v) h;exact .inl ⟨i,t,rfl,e⟩
 | .inr x,v,h=>by
  obtain⟨t,e⟩:=Value.isStrOf_shape (x:=x) (v:=v) h;exact .inr ⟨x,t,rfl,e⟩
theorem EW(i:Int)(t:Tok):nP (.inl i) (.int i t)=true:=by simp[nP,Value.isInt]
theorem F1(x:Str)(t:Tok):nP (.inr x) (.str x t)=true:=by simp[nP,Value.isStrOf]
theorem QV(a b:Int):decide ((zam a:Key)=zam b)=(a == b):=by
 by_cases e:a=b
 ·subst e;simp
 ·have h:¬ (zam a:Key)=zam b:=λq=>e (Sum.inl.inj q)
  rw[decide_eq_false h];exact(beq_eq_false_iff_ne.mpr e).symm
theorem QZ(a b:Str):decide ((zcz a:Key)=zcz b)=decide (a=b):=by
 by_cases e:a=b
 ·subst e;simp
 ·have h:¬ (zcz a:Key)=zcz b:=λq=>e (Sum.inr.inj q)
  rw[decide_eq_false h,decide_eq_false e]
theorem SO(a:Int)(b:Str):decide ((zam a:Key)=zcz b)=false:=decide_eq_false (λq=>nomatch q)
theorem SZ(a:Str)(b:Int):decide ((zcz a:Key)=zam b)=false:=decide_eq_false (λq=>nomatch q)
def aV(prog:zap)(w:World):PySem.KeyKind prog w Key where
 is:=nP
 hash:=Z0 w
 inj:=λv a b F z=>by
  rcases bT F with⟨i,t,rfl,rfl⟩|⟨x,t,rfl,rfl⟩
  ·rcases bT z with⟨j,u,rfl,e⟩|⟨y,u,rfl,e⟩
   ·injection e with e1 _;rw[e1]
   ·exact nomatch e
  ·rcases bT z with⟨j,u,rfl,e⟩|⟨y,u,rfl,e⟩
   ·exact nomatch e
   ·injection e with e1 _;rw[e1]
 byValue:=λk v h=>by
  rcases bT h with⟨i,t,rfl,rfl⟩|⟨x,t,rfl,rfl⟩ <;> rfl
 pyHash:=λq h=>by
  rcases bT q with⟨i,t,rfl,rfl⟩|⟨x,t,rfl,rfl⟩
  ·exact wpAny_pyHash_int h
  ·exact wpAny_pyHash_str h
 eqBool:=λB q h=>by
  rcases bT B with⟨i,t,rfl,rfl⟩|⟨x,t,rfl,rfl⟩
  ·rcases bT q with⟨j,u,rfl,rfl⟩|⟨y,u,rfl,rfl⟩
   ·rw[QV]at h;exact wpAny_eqBool_int h
   ·rw[SO]at h;exact SeqAt.EqAt.int_str i t y u _ _ _ _ h
  ·rcases bT q with⟨j,u,rfl,rfl⟩|⟨y,u,rfl,rfl⟩
   ·rw[SZ]at h;exact SeqAt.EqAt.str_int x t j u _ _ _ _ h
   ·rw[QZ]at h;exact wpAny_eqBool_str h
 «strs»:=λk x t v h=>by
  rcases bT h with⟨i,u,rfl,e⟩|⟨y,u,rfl,e⟩
  ·exact nomatch e
  ·injection e with e1 _
   subst e1;cases v <;> rfl
theorem xM(prog:zap)(w:World)(i:Int)(t:Tok):(aV prog w).is (.inl i) (.int i t)=true:=EW i t
theorem xC(prog:zap)(w:World)(x:Str)(t:Tok):(aV prog w).is (.inr x) (.str x t)=true:=F1 x t
inductive V where
 | non|bl (b:Bool)|int (i:Int)|str (x:Str)|byt (b:Array UInt8)|flt (b:UInt64)|ref (a:Addr)|ty (n:String)
 deriving DecidableEq
noncomputable def RelV:V->Value->Prop
 | .non,u=>u=zaM
 | .bl b,u=>u=zco b
 | .int i,u=>∃t,u=Value.int i t
 | .str x,u=>∃t,u=Value.str x t
 | .byt b,u=>∃t,u=Value.bytes b t
 | .flt b,u=>∃t,u=Value.float b t
 | .ref a,u=>u=zan a
 | .ty n,u=>u=zcp n
abbrev Vals:List V->List Value->Prop:=zaU RelV
theorem Vals.length(r:Vals xs us):xs.length=us.length:=zbO r
theorem Vals.get:∀ {xs:List V} {us:List Value} {i:Nat} {x:V},Vals xs us->xs[i]?=some x->∃u,us[i]?=some u/\RelV x u
 | _,_,_,_,.nil,e=>by simp at e
 | _,_,0,_,.cons r _,e=>by simp at e;subst e;exact⟨_,rfl,r⟩
 | _,_,i+1,x,.cons _ t,e=>by
  obtain⟨u,h1,h2⟩:=Vals.get (i:=i) (x:=x) t (by simpa using e);exact⟨u,by simpa using h1,h2⟩
theorem Vals.set(r:RelV x u):∀ {xs:List V} {us:List Value} (i:Nat),Vals xs us->Vals (xs.set i x) (us.set i u)
 | _,_,_,.nil=>.nil
 | _,_,0,.cons _ t=>.cons r t
 | _,_,i+1,.cons q t=>.cons q (Vals.set r i t)
theorem Vals.append:∀ {xs ys:List V} {us ws:List Value},Vals xs us->Vals ys ws->Vals (xs++ys) (us++ws)
 | _,_,_,_,.nil,s=>s
 | _,_,_,_,.cons r t,s=>.cons r (Vals.append t s)
theorem Vals.take:∀ {xs:List V} {us:List Value} (n:Nat),Vals xs us->Vals (xs.take n) (us.take n)
 | _,_,0,_=>.nil
 | _,_,_+1,.nil=>.nil
 | _,_,n+1,.cons r t=>.cons r (Vals.take n t)
theorem Vals.drop:∀ {xs:List V} {us:List Value} (n:Nat),Vals xs us->Vals (xs.drop n) (us.drop n)
 | _,_,0,r=>r
 | _,_,_+1,.nil=>.nil
 | _,_,n+1,.cons _ t=>Vals.drop n t
def RelO:Option V->Option Value->Prop
 | some v,some u=>RelV v u
 | none,none=>True
 | _,_=>False
def KV{κ:Type}:List (κ×V)->List (κ×Value)->Prop:=zaU λ(p:κ×V) (q:κ×Value)=>p.1=q.1/\RelV p.2 q.2
def kV:Key->V
 | .inl i=>.int i
 | .inr x=>.str x
inductive HO where
 /-- a list -/
 | lst (xs:List V)
 /-- a tuple (never changes) -/
 | tup (xs:List V)
 /-- a dict whose keys are ints and texts;one whose keys are tuples of ints and texts (the empty one is both) -/
 | dK (kvs:List (Key×V))|dT (kvs:List (List Key×V))
 /-- a set of ints: its members, its size -/
 | set (S:Int->Bool) (n:Nat)
 /-- an instance of the class at C, its dict at dx, its attributes -/
 | ins (C dx:Addr) (fs:List (Str×V))
 /-- the dict of the instance at x -/
 | own (x:Addr)
 /-- the dict of an exception -/
 | xd (fs:List (Str×V))
 /-- a bound method, f of x -/
 | met (f x:Addr)
 /-- a range object lo, lo+1, .. below hi -/
 | rng (lo hi:Int)
 /-- a thing that is known to the object (the script;a dict while a loop walks it): read, never written while it is so -/
 | frz (o:Obj) (u:HO)
 /-- a code object's table -/
 | tbl (ps:Array Value)
 /-- any other thing, by what is true of its one object (a def of one's own: SetO a S n:=HO.ext λh => ..) -/
 | ext (φ:Heap->Prop)
abbrev Hp:=Addr->Option HO
def upd(H:Hp)(a:Addr)(o:HO):Hp:=λb=>if b=a then some o else H b
theorem aJ:upd H a o a=some o:=by unfold upd;rw[if_pos rfl]
theorem aE(h:b≠a):upd H a o b=H b:=by unfold upd;rw[if_neg h]
theorem DZ{H:Hp}{a b:Addr}{o u:HO}(h:H a=some o)(h':H b=some u)(d:o≠u):a≠b:=by
 intro e;subst e;rw[h]at h';exact d (zaD h')
theorem aR{H:Hp}{a b:Addr}{o:HO}(h:H a=some o)(h':H b=none):a≠b:=by
 intro e;subst e;rw[h]at h';cases h'
section
variable (P:zap)(w:World)
def IsTupN(h:Heap)(a:Addr)(items:Array Value):Prop:=∃o,h.get? a=some o/\o.cls=.type "tuple" /\ ∃n,o.data=.seq items n/\o.dict=none
theorem IsTupN.tup{h:Heap}{a:Addr}{items:Array Value}(x:IsTupN h a items):IsTup h a items:=let ⟨o,e,c,n,d,_⟩:=x;⟨o,e,c,n,d⟩
theorem IsTupN.lt(x:IsTupN h a items):a<h.objs.size:=x.tup.lt
theorem IsTupN.new(h:Heap)(items:Array Value):IsTupN (h.push {cls:=.type "tuple",data:=.seq items}) h.objs.size items:=⟨_,zat _ rfl,rfl,_,rfl,rfl⟩
def ObjOk(H:Hp)(h:Heap)(a:Addr):HO->Prop
 | .lst xs=>xs.length<=zaj/\∃(its:List Value) (n:Nat),Vals xs its/\h.get? a=some {cls:=.type "list",data:=.seq its.toArray n}
 | .tup xs=>xs.length<=zaj/\∃its:List Value,Vals xs its/\IsTupN h a its.toArray
 | .dK kvs=>kvs.length<=zaj/\(a == za9)=false/\∃vs,KV kvs vs/\h.DictOf (aV P w) a vs
 | .dT kvs=>kvs.length<=zaj/\(a == za9)=false/\∃xs:List (List Key×Addr×Value),
   zaU (λ(p:List Key×V) (q:List Key×Addr×Value)=>p.1=q.1/\H q.2.1=some (.tup (p.1.map kV))/\RelV p.2 q.2.2) kvs xs /\
   ∃o es ep,h.get? a=some o/\o.ExactDict/\o.data=.dict es ep/\es.toList=xs.map (entryOfKey (za2 (aV P w)))/\(xs.map (·.1)).Nodup
 | .set S n=>h.SetOf (intKind P w) a S n
 | .ins C dx fs=>H dx=some (.own a)/\fs.length<=1000/\dx≠a/\h.get? a=some (zeG C dx) /\
   ∃mA,h.Ns1 dx mA/\(∀f,RelO (fs.lookup f) (mA f))/\PySem.Within mA (fs.map (·.1))
 | .own _=>∃o,h.get? a=some o
 | .xd fs=>∃mA,h.Ns1 a mA/\∀f,RelO (fs.lookup f) (mA f)
 | .rng lo hi=>∃t u v,h.get? a=some {cls:=.type "range",data:=.fields #[.int lo t,.int hi u,.int 1 v]}
 | .frz o u=>h.get? a=some o/\ObjOk H h a u
 | .tbl ps=>h.get? a=some {cls:=.none,data:=.fields ps}
 | .met f x=>h.get? a=some (zeH (.ref f) (.ref x))
 | .ext φ=>φ h/\(∃o,h.get? a=some o)/\∀h1 h2:Heap,φ h1->(∀o,h1.get? a=some o->h2.get? a=some o)->φ h2
def HOk(H:Hp)(h:Heap):Prop:=∀a o,H a=some o->ObjOk P w H h a o
end
section
variable {P:zap}{w:World}{H H':Hp}{h h':Heap}{a:Addr}{o:HO}
theorem ObjOk.lt(x:ObjOk P w H h a o):a<h.objs.size:=by
 cases o with
 | lst xs=>obtain⟨_,_,_,_,e⟩:=x;exact zai e
 | tup xs=>obtain⟨_,_,_,p⟩:=x;exact p.lt
 | dK kvs=>obtain⟨_,_,_,_,o,_,_,e,_⟩:=x;exact zai e
 | dT kvs=>obtain⟨_,_,_,_,o,_,_,e,_⟩:=x;exact zai e
 | set S n=>obtain⟨o,_,_,_,e,_⟩:=x;exact zai e
 | ins C dx fs=>obtain⟨_,_,_,e,_⟩:=x;exact zai e
 | own y=>obtain⟨_,e⟩:=x;exact zai e
 | xd fs=>obtain⟨_,⟨_,_,_,e,_⟩,_⟩:=x;exact zai e
 | rng lo hi=>obtain⟨_,_,_,e⟩:=x;exact zai e
 | frz ob u=>obtain⟨e,_⟩:=x;exact zai e
 | tbl ps=>exact zai (show h.get? a=some _ from x)
 | met f y=>exact zai (show h.get? a=some _ from x)
 | ext φ=>obtain⟨_,⟨_,e⟩,_⟩:=x;exact zai e
theorem Paired.mapP{z q:Type}{F G:z->q->Prop}:∀ {l₁:List z} {l₂:List q},zaU F l₁ l₂->(∀a b,F a b->G a b)->zaU G l₁ l₂
 | _,_,.nil,_=>.nil
 | _,_,.cons r t,f=>.cons (f _ _ r) (Paired.mapP t f)
theorem ObjOk.stay(x:ObjOk P w H h a o)(k:∀b u,(b=a\/H b=some (.own a))->h.get? b=some u->h'.get? b=some u)
  (F:∀b,H b=some (.own a)->H' b=some (.own a)) (G:∀b xs,H b=some (.tup xs)->H' b=some (.tup xs)):ObjOk P w H' h' a o:=by
 induction o with
 | lst xs=>obtain⟨z,B,n,r,e⟩:=x;exact⟨z,B,n,r,k _ _ (.inl rfl) e⟩
 | tup xs=>obtain⟨z,B,r,ob,e,c⟩:=x;exact⟨z,B,r,ob,k _ _ (.inl rfl) e,c⟩
 | dK kvs=>obtain⟨z,y,vs,r,ob,es,ep,e,c⟩:=x;exact⟨z,y,vs,r,ob,es,ep,k _ _ (.inl rfl) e,c⟩
 | dT kvs=>
  obtain⟨z,y,xs,r,ob,es,ep,e,c⟩:=x;exact⟨z,y,xs,Paired.mapP r λp q z=>⟨z.1,G _ _ z.2.1,z.2.2⟩,ob,es,ep,k _ _ (.inl rfl) e,c⟩
 | set S n=>obtain⟨ob,es,ep,t,e,c⟩:=x;exact⟨ob,es,ep,t,k _ _ (.inl rfl) e,c⟩
 | ins C dx fs=>
  obtain⟨d,z,ne,e,mA,⟨od,es,ep,J,c⟩,r⟩:=x;exact⟨F _ d,z,ne,k _ _ (.inl rfl) e,mA,⟨od,es,ep,k _ _ (.inr d) J,c⟩,r⟩
 | own y=>obtain⟨ob,e⟩:=x;exact⟨ob,k _ _ (.inl rfl) e⟩
 | xd fs=>obtain⟨mA,⟨od,es,ep,e,c⟩,r⟩:=x;exact⟨mA,⟨od,es,ep,k _ _ (.inl rfl) e,c⟩,r⟩
 | rng lo hi=>obtain⟨t,u,v,e⟩:=x;exact⟨t,u,v,k _ _ (.inl rfl) e⟩
 | frz ob u ih=>obtain⟨e,q⟩:=x;exact⟨k _ _ (.inl rfl) e,ih q⟩
 | tbl ps=>
  have e:h.get? a=some {cls:=.none,data:=.fields ps}:=x;show h'.get? a=some {cls:=.none,data:=.fields ps};exact k a _ (.inl rfl) e
 | met f y=>
  have e:h.get? a=some (zeH (.ref f) (.ref y)):=x;show h'.get? a=some (zeH (.ref f) (.ref y));exact k a _ (.inl rfl) e
 | ext φ=>obtain⟨p,⟨o,e⟩,st⟩:=x;exact⟨st _ _ p λo q=>k _ _ (.inl rfl) q,⟨o,k _ _ (.inl rfl) e⟩,st⟩
theorem HOk.lt(x:HOk P w H h)(e:H a=some o):a<h.objs.size:=(x a o e).lt
theorem HOk.fresh(x:HOk P w H h)(e:h.objs.size<=a):H a=none:=by
 cases q:H a with
 | none=>rfl
 | some u=>exact absurd (zbc (x.lt q) e) (zbd _)
theorem HOk.kept(x:HOk P w H h)(k:∀b u,h.get? b=some u->h'.get? b=some u):HOk P w H h':=λa o e=>
 (x a o e).stay (λb u _ q=>k b u q) (λ_ q=>q) λ_ _ q=>q
theorem HOk.laid(x:HOk P w H h)(k:∀b u,h.get? b=some u->h'.get? b=some u)(F:h.objs.size<=a)(new:ObjOk P w (upd H a o) h' a o):HOk P w (upd H a o) h':=λb u e=>by
 have B:=x.fresh F;by_cases z:b=a
 ·subst z;rw[aJ]at e;cases e;exact new
 ·rw[aE z]at e
  exact(x b u e).stay (λc v _ q=>k c v q) (λc q=>by rw[aE (aR q B)];exact q) λc xs q=>by rw[aE (aR q B)];exact q
end
def Rd(H:Hp)(a:Addr)(u:HO):Prop:=H a=some u\/∃o,H a=some (.frz o u)
theorem Rd.ok(r:Rd H a u)(x:HOk P w H h):ObjOk P w H h a u:=by
 rcases r with r|⟨o,r⟩
 ·exact x a u r
 ·obtain⟨_,q⟩:=x a _ r
  exact q
def YE:Option HO->Prop
 | some (.lst _)=>True
 | some (.dK _)=>True
 | some (.dT _)=>True
 | some (.set _ _)=>True
 | some (.ins _ _ _)=>True
 | some (.ext _)=>True
 | _=>False
section
variable {P:zap}{w:World}{H:Hp}{h h':Heap}{x e:Addr}{o':HO}
theorem HOk.write(ok:HOk P w H h)(M:YE (H x))(Y:e=x\/H e=some (.own x))(k:∀b u,b≠e->h.get? b=some u->h'.get? b=some u)(U:∃u,h'.get? e=some u)
  (new:ObjOk P w (upd H x o') h' x o'):HOk P w (upd H x o') h':=λb u q=>by
 have F:∀c y,H c=some (.own y)->c≠x:=λc y r z=>by subst z;rw[r]at M;exact M
 have G:∀c xs,H c=some (.tup xs)->c≠x:=λc xs r z=>by subst z;rw[r]at M;exact M
 by_cases J:b=x
 ·subst J;rw[aJ]at q;cases q;exact new
 ·rw[aE J]at q
  by_cases B:b=e
  ·have W:H b=some (.own x):=by
    rcases Y with z|z
    ·exact absurd (B.trans z) J
    ·rw[B];exact z
   rw[q]at W;cases W;obtain⟨v,hv⟩:=U;exact⟨v,by rw[B];exact hv⟩
  ·refine(ok b u q).stay (λc v N r=>k c v ?_ r) (λc r=>by rw[aE (F c b r)];exact r) λc xs r=>by rw[aE (G c xs r)];exact r
   rcases N with rfl|N
   ·exact B
   ·rintro rfl
    rcases Y with z|z
    ·exact F c b N z
    ·rw[N]at z;cases z;exact J rfl
end
structure Un(fs ex:List Addr)(H H':Hp)(h h':Heap):Prop where
 keep:∀b o,h.get? b=some o->H b=none->b∉fs->b∉ex->h'.get? b=some o
 slot:∀b o,h.get? b=some o->H b=none->b∈fs->b∉ex->∃sl,h'.get? b=some {o with slots:=sl}
 free:∀b o,h.get? b=some o->H b=none->b∉ex->H' b=none
 there:∀b o,h.get? b=some o->b∉ex->∃o',h'.get? b=some o'
 tups:∀b xs,H b=some (.tup xs)->H' b=some (.tup xs)
 frzs:∀b o u,H b=some (.frz o u)->H' b=some (.frz o u)
 tbls:∀b ps,H b=some (.tbl ps)->∃more,H' b=some (.tbl (ps++more))
section
variable {fs fs' ex ex':List Addr}{H H1 H2:Hp}{h h1 h2 h':Heap}{a x e:Addr}{o:HO}
theorem Un.any(u:Un fs ex H H1 h h1)(q:h.get? b=some ob)(n:H b=none)(B:b∉ex):∃F,h1.get? b=some {ob with slots:=F}:=by
 by_cases z:b∈fs
 ·exact u.slot b ob q n z B
 ·exact⟨ob.slots,u.keep b ob q n z B⟩
theorem Un.trans(a:Un fs ex H H1 h h1)(b:Un fs ex H1 H2 h1 h2):Un fs ex H H2 h h2 where
 keep:=λc ob q n F z=>b.keep c ob (a.keep c ob q n F z) (a.free c ob q n z) F z
 slot:=λc ob q n F z=>by
  obtain⟨U,B⟩:=a.slot c ob q n F z;obtain⟨G,J⟩:=b.slot c _ B (a.free c ob q n z) F z;exact⟨G,J⟩
 free:=λc ob q n z=>by
  obtain⟨o',B⟩:=a.there c ob q z;exact b.free c o' B (a.free c ob q n z) z
 there:=λc ob q z=>by
  obtain⟨o',B⟩:=a.there c ob q z;exact b.there c o' B z
 tups:=λc xs q=>b.tups c xs (a.tups c xs q)
 frzs:=λc ob xs q=>b.frzs c ob xs (a.frzs c ob xs q)
 tbls:=λc ps q=>by
  obtain⟨N,B⟩:=a.tbls c ps q;obtain⟨M,J⟩:=b.tbls c _ B;exact⟨N++M,by rw[J,Array.append_assoc]⟩
theorem Un.kept(k:∀b u,h.get? b=some u->h'.get? b=some u):Un fs ex H H h h':=
 ⟨λb ob q _ _ _=>k b ob q,λb ob q _ _ _=>⟨ob.slots,k b ob q⟩,λ_ _ _ n _=>n,λb ob q _=>⟨ob,k b ob q⟩,λ_ _ q=>q,λ_ _ _ q=>q,λ_ ps q=>⟨#[],by rw[q];simp⟩⟩
theorem Un.refl:Un fs ex H H h h:=Un.kept λ_ _ q=>q
theorem Un.laid(k:∀b u,h.get? b=some u->h'.get? b=some u)(B:h.objs.size<=a)(z:H a=none):Un fs ex H (upd H a o) h h' where
 keep:=λb u q _ _ _=>k b u q
 slot:=λb u q _ _ _=>⟨u.slots,k b u q⟩
 free:=λb u q n _=>by rw[aE (zaz (zbc (zai q) B))];exact n
 there:=λb u q _=>⟨u,k b u q⟩
 tups:=λb xs q=>by rw[aE (aR q z)];exact q
 frzs:=λb u xs q=>by rw[aE (aR q z)];exact q
 tbls:=λb ps q=>⟨#[],by rw[aE (aR q z),q];simp⟩
theorem Un.write(F:YE (H x))(U:e=x\/H e=some (.own x))(k:∀b u,b≠e->h.get? b=some u->h'.get? b=some u)(J:∃u,h'.get? e=some u):Un fs ex H (upd H x o) h h':=by
 have N:∀b,H b=none->b≠x:=λb n z=>by subst z;rw[n]at F;exact F
 have M:∀b,H b=none->b≠e:=λb n z=>by
  subst z;rcases U with r|r
  ·exact N b n r
  ·rw[n]at r;cases r
 have G:∀b u,H b=some u->¬ YE (some u)->b≠x:=λb u q nm z=>by subst z;rw[q]at F;exact nm F
 refine⟨λb u q n _ _=>k b u (M b n) q,λb u q n _ _=>⟨u.slots,k b u (M b n) q⟩,λb u q n _=>by rw[aE (N b n)];exact n,λb u q _=>?_,
  λb xs q=>by rw[aE (G b _ q λz=>z)];exact q,λb u xs q=>by rw[aE (G b _ q λz=>z)];exact q,λb ps q=>⟨#[],by rw[aE (G b _ q λz=>z),q];simp⟩⟩
 by_cases B:b=e
 ·subst B;exact J
 ·exact⟨u,k b u B q⟩
theorem Un.mono(u:Un fs ex H H1 h h1)(hs:∀b∈fs,b∈fs')(F:∀b∈ex,b∈ex'):Un fs' ex' H H1 h h1:=
 ⟨λb ob q n G B=>u.keep b ob q n (λz=>G (hs b z)) λz=>B (F b z),λ_ _ q n _ B=>u.any q n λz=>B (F _ z),λb ob q n B=>u.free b ob q n λz=>B (F b z),λb ob q B=>u.there b ob q λz=>B (F b z),u.tups,u.frzs,u.tbls⟩
end
def YQ(h:Heap)(H:Hp):List Addr:=(zaB h.objs.size).filter λa=>(H a).isSome
def wQ(h:Heap)(H:Hp):Heap:=PySem.W.hideAll h (YQ h H)
theorem FE(h:Heap)(H:Hp):(wQ h H).objs.size=h.objs.size:=PySem.W.hideAll_size _ _
theorem IF(e:h.get? b=some o)(n:H b=none):(wQ h H).get? b=some o:=
 PySem.W.hideAll_get _ e λz=>by
  have q:(H b).isSome=true:=(List.mem_filter.mp z).2;rw[n]at q;simp at q
theorem NB(e:(wQ h H).get? b=some o):h.get? b=some o/\H b=none:=by
 have B:h.get? b=some o:=PySem.W.of_hideAll (YQ h H) e;refine⟨B,?_⟩;cases q:H b with
 | none=>rfl
 | some x=>
  have F:b∈YQ h H:=List.mem_filter.mpr ⟨List.mem_range.mpr (zai B),by simp[q]⟩;have z:(wQ h H).get? b=none:=PySem.W.hideAll_none (YQ h H) F;rw[z]at e;cases e
noncomputable def LZ(g h:Heap)(L:Addr):List (Addr×Obj):=(zaB h.objs.size).filterMap λa=>if a=L\/(g.get? a).isSome=true then none else(h.get? a).map λo=>(a,o)
def rest(g h:Heap)(L d:Addr):List (Addr×Obj):=(LZ g h L).filter λp=>decide (p.1≠d)
structure Mod(K:zaf)(mg:Str->Option Value)(base:Heap):Prop where
 kin:K.In base
 glob:base.Ns za1 mg
 blt:∃mb,base.Ns builtinsNs mb/\∀x:Str,x ≠ "__name__" -> mb x=zaN x
 nolimit:base.NoLimit
structure Cx where
 prog:zap
 w:World
 K:zaf
 mg:Str->Option Value
 base:Heap
 A:zas
 N:List Str
 s₀:zab
 H₀:Hp
 env:Env
 outer:List Env
 stack:List Env
 ex:List Addr
 fn:Str->Bool
 calm:Bool
 pn:List (Addr×Obj)
 xe:Value->zab->Prop
noncomputable def frs(l:List Env):List Addr:=l.filterMap (·.frame)
abbrev Cx.fs(X:Cx):List Addr:=frs X.outer
def VM(sc:Scope)(x:Str):Prop:=sc.names.lookup x=some .local\/sc.names.lookup x=some .cell\/sc.names.lookup x=some .free
def Loc(sc:Scope)(x:Str):Prop:=sc.names.lookup x=some .local\/sc.names.lookup x=some .cell
def Look(env:Env)(h:Heap)(m:Str->Option Value)(x:Str)(u:Value):Prop:=
 (env.kindOf x=some .local/\m x=some u)\/((env.kindOf x=some .cell\/env.kindOf x=some .free)/\∃c,env.cells.lookup x=some c/\h.IsCell c (some u))
structure Cx.Ok(X:Cx):Prop where
 mod:Mod X.K X.mg X.base
 kind:X.env.scope.kind=.function
 glob:X.env.globals=za1
 blt:X.env.builtins=builtinsNs
 above:X.s₀.heap.objs.size<=X.env.locals
 inj:∀x y c,X.env.cells.lookup x=some c->X.env.cells.lookup y=some c->x=y
 has:∀x,(X.env.kindOf x=some .cell\/X.env.kindOf x=some .free)->∃c,X.env.cells.lookup x=some c
 cab:∀x c,X.fn x=true->X.env.cells.lookup x=some c->X.s₀.heap.objs.size<=c
 hd:X.calm=true->X.A.handled=none
 frames:X.A.frames=some X.stack
 stk:X.stack=X.outer\/(X.stack=X.env::X.outer/\X.env.frame=some X.env.locals)
 exf:∀b∈X.ex,b≠X.env.locals/\∀x c,X.env.cells.lookup x=some c->c≠b
 bs:∀b o,X.base.get? b=some o->X.s₀.heap.get? b=some o/\X.H₀ b=none
 bsz:X.base.objs.size<=X.s₀.heap.objs.size
 noex:∀b o,X.base.get? b=some o->b∉X.ex
 exfs:∀b∈X.ex,b∉X.fs
 funs:X.s₀.heap.FunFrames X.base X.outer
 frf:∀b∈X.fs,X.H₀ b=none
structure Inv(X:Cx)(pins:List (Addr×Obj))(σ:List (Option V))(H:Hp)(s:zab):Prop where
 ok:X.Ok
 os:s.os=X.s₀.os
 bare:zcb s.gens
 base:Un X.fs X.ex X.H₀ H X.s₀.heap s.heap
 loc:∃m,s.heap.Ns X.env.locals m/\∀(i:Nat) (x:Str) (v:V),X.N[i]?=some x->σ[i]?=some (some v)->VM X.env.scope x->∃u,RelV v u/\Look X.env s.heap m x u
 cell:∀x c,X.env.cells.lookup x=some c->∃v,s.heap.IsCell c v
 free:H X.env.locals=none
 freeC:∀x c,X.env.cells.lookup x=some c->H c=none
 pin:∀p∈X.pn++pins,s.heap.get? p.1=some p.2/\H p.1=none/\p.1≠X.env.locals/\p.1∉X.fs/\∀v,p.2.data≠.cell v
 hok:HOk X.prog X.w H s.heap
 len:σ.length=X.N.length
section
variable {X:Cx}{pins:List (Addr×Obj)}{σ:List (Option V)}{H H':Hp}{s:zab}{h':Heap}
theorem Cx.Ok.nofr(ok:X.Ok)(e:X.base.get? b=some o):b∉X.fs:=λq=>by
 have:=(ok.funs.mem q).1;rw[e]at this;cases this
theorem Inv.bs(I:Inv X pins σ H s):∀b o,X.base.get? b=some o->s.heap.get? b=some o/\H b=none:=λb o e=>
 ⟨I.base.keep b o (I.ok.bs b o e).1 (I.ok.bs b o e).2 (I.ok.nofr e) (I.ok.noex b o e),I.base.free b o (I.ok.bs b o e).1 (I.ok.bs b o e).2 (I.ok.noex b o e)⟩
theorem Inv.bk(I:Inv X pins σ H s):∀b o,X.base.get? b=some o->s.heap.get? b=some o:=λb o e=>(I.bs b o e).1
theorem Inv.mod(I:Inv X pins σ H s):Mod X.K X.mg X.base:=I.ok.mod
theorem Inv.kIn(I:Inv X pins σ H s):X.K.In s.heap:=I.ok.mod.kin.keeps I.bk
theorem Inv.lt(I:Inv X pins σ H s):X.env.locals<s.heap.objs.size:=let ⟨_,hn,_⟩:=I.loc;hn.lt
theorem Inv.sz(I:Inv X pins σ H s):X.s₀.heap.objs.size<=s.heap.objs.size:=zbe I.ok.above (zdF I.lt)
theorem Inv.nofs(I:Inv X pins σ H s)(h:s.heap.objs.size<=a):a∉X.fs:=λz=>by
 obtain⟨_,o,q,_⟩:=I.ok.funs.mem z;exact absurd (zbc (zai q) (zbe I.sz h)) (zbd _)
theorem Inv.cne(I:Inv X pins σ H s):∀x c,X.env.cells.lookup x=some c->c≠X.env.locals:=λx c e z=>by
 obtain⟨v,o,G,F⟩:=I.cell x c e;obtain⟨m,⟨o',es,ep,B,q,_⟩,_⟩:=I.loc;rw[z,B]at G;cases G;rw[q]at F;cases F
theorem Inv.funs(I:Inv X pins σ H s):s.heap.FunFrames X.base X.outer:=by
 have all:∀(l:List Env),(∀b∈frs l,b∈X.fs)->X.s₀.heap.FunFrames X.base l->s.heap.FunFrames X.base l:=by
  intro l;induction l with
  | nil=>intro _ _;trivial
  | cons env r ih=>
   intro hs U;obtain⟨W,⟨L,o,F,N,J,G⟩,M⟩:=U;have B:L∈X.fs:=hs L (by unfold frs;rw[zeI,F];exact zau);obtain⟨Y,e⟩:=I.base.slot L o J (I.ok.frf L B) B λz=>I.ok.exfs L z B
   exact⟨W,⟨L,_,F,N,e,G⟩,ih (λb q=>hs b (by unfold frs;rw[zeI,F];exact zav _ q)) M⟩
 exact all X.outer (λ_ q=>q) I.ok.funs
theorem Inv.stack(I:Inv X pins σ H s):s.heap.FunFrames X.base X.stack:=by
 rcases I.ok.stk with e|⟨e,q⟩
 ·rw[e];exact I.funs
 ·rw[e]
  obtain⟨m,z,_⟩:=I.loc;refine .cons (by rw[I.ok.kind];decide) q z ?_ I.funs;exact Heap.get?_none_of_le (zbe I.ok.bsz I.ok.above)
theorem Inv.stkSub(I:Inv X pins σ H s):∀b∈frs X.stack,b∈X.env.locals::X.fs:=λb q=>by
 rcases I.ok.stk with e|⟨e,z⟩
 ·rw[e]at q;exact zav _ q
 ·rw[e]at q
  unfold frs at q;rw[zeI,z]at q;exact q
theorem Inv.stkFree(I:Inv X pins σ H s):∀b∈frs X.stack,H b=none:=λb q=>by
 rcases List.mem_cons.mp (I.stkSub b q)with e|q
 ·rw[e];exact I.free
 ·obtain⟨_,o,B,_⟩:=I.ok.funs.mem q
  exact I.base.free b o B (I.ok.frf b q) λz=>I.ok.exfs b z q
theorem Inv.step{g':Array GenState}{t':Nat}{d':Drawn}{ch:List Addr}(I:Inv X pins σ H s)
  (F:∀b∈ch,(b∈X.ex\/X.s₀.heap.objs.size<=b)/\b≠X.env.locals/\(∀x c,X.env.cells.lookup x=some c->c≠b)/\∀p∈X.pn++pins,p.1≠b)
  (keep:∀b o,b≠X.env.locals->b∉X.fs->b∉ch->s.heap.get? b=some o->H b=none->h'.get? b=some o)
  (U:∀b o,b≠X.env.locals->b∈X.fs->b∉ch->s.heap.get? b=some o->H b=none->∃sl,h'.get? b=some {o with slots:=sl}) (free:∀b o,b∉ch->s.heap.get? b=some o->H b=none->H' b=none)
  (there:∀b o,b∉ch->s.heap.get? b=some o->∃o',h'.get? b=some o')
  (ac:∀b xs,H b=some (.tup xs)->H' b=some (.tup xs)) (ab:∀b o u,H b=some (.frz o u)->H' b=some (.frz o u)) (ad:∀b ps,H b=some (.tbl ps)->∃more,H' b=some (.tbl (ps++more)))
  (ns:∀m,s.heap.Ns X.env.locals m->h'.Ns X.env.locals m) (ag:HOk X.prog X.w H' h') (hg:zcb g') :
  Inv X pins σ H' {s with heap:=h',gens:=g',drawn:=d',toks:=t'}:=by
 have aa:∀b o,X.s₀.heap.get? b=some o->b≠X.env.locals:=λb o e=>zaz (zbc (zai e) I.ok.above)
 have N:∀b o,X.s₀.heap.get? b=some o->b∉X.ex->b∉ch:=λb o e B W=>by
  rcases(F b W).1 with z|z
  ·exact B z
  ·exact absurd (zbc (zai e) z) (zbd _)
 have J:∀x c,X.env.cells.lookup x=some c->∀v,s.heap.IsCell c v->h'.IsCell c v:=by
  rintro x c e v ⟨o,Y,hd⟩;have G:c∉ch:=λz=>(F c z).2.2.1 x c e rfl
  by_cases hc:c∈X.fs
  ·obtain⟨sl,q⟩:=U c o (I.cne x c e) hc G Y (I.freeC x c e)
   exact⟨_,q,hd⟩
  ·exact⟨o,keep c o (I.cne x c e) hc G Y (I.freeC x c e),hd⟩
 refine⟨I.ok,I.os,hg,⟨λb o e n W B=>?_,λb o e n W B=>?_,λb o e n B=>?_,λb o e B=>?_,λb xs e=>ac b xs (I.base.tups b xs e),λb o xs e=>ab b o xs (I.base.frzs b o xs e),λb ps e=>?_⟩,?_,λx c e=>?_,?_,λx c e=>?_,λp hp=>?_,ag,I.len⟩
 ·exact keep b o (aa b o e) W (N b o e B) (I.base.keep b o e n W B) (I.base.free b o e n B)
 ·obtain⟨sl,M⟩:=I.base.slot b o e n W B
  obtain⟨ai,e2⟩:=U b _ (aa b o e) W (N b o e B) M (I.base.free b o e n B);exact⟨ai,e2⟩
 ·obtain⟨o',M⟩:=I.base.there b o e B
  exact free b o' (N b o e B) M (I.base.free b o e n B)
 ·obtain⟨o',M⟩:=I.base.there b o e B
  exact there b o' (N b o e B) M
 ·obtain⟨m1,M⟩:=I.base.tbls b ps e
  obtain⟨m2,e2⟩:=ad b _ M;exact⟨m1++m2,by rw[e2,Array.append_assoc]⟩
 ·obtain⟨m,hn,hl⟩:=I.loc
  refine⟨m,ns m hn,λi x v M e2 e3=>?_⟩;obtain⟨u,r,l⟩:=hl i x v M e2 e3;refine⟨u,r,?_⟩;rcases l with l|⟨k,c,e,z⟩
  ·exact .inl l
  ·exact .inr ⟨k,c,e,J x c e _ z⟩
 ·obtain⟨v,z⟩:=I.cell x c e
  exact⟨v,J x c e v z⟩
 ·obtain⟨m,⟨o,_,_,Y,_⟩,_⟩:=I.loc
  exact free _ o (λz=>(F _ z).2.1 rfl) Y I.free
 ·obtain⟨v,o,Y,hd⟩:=I.cell x c e
  exact free c o (λz=>(F c z).2.2.1 x c e rfl) Y (I.freeC x c e)
 ·obtain⟨e,n,ne,nf,d⟩:=I.pin p hp
  have G:p.1∉ch:=λz=>(F p.1 z).2.2.2 p hp rfl
  exact⟨keep p.1 p.2 ne nf G e n,free p.1 p.2 G e n,ne,nf,d⟩
theorem Inv.un{t':Nat}(I:Inv X pins σ H s)(u:Un X.fs [] H H' s.heap h')(B:HOk X.prog X.w H' h'):Inv X pins σ H' {s with heap:=h',toks:=t'}:=by
 obtain⟨m,⟨o,es,ep,M,r⟩,_⟩:=id I.loc;obtain⟨Y,U⟩:=u.any M I.free (by simp);exact I.step (g':=s.gens) (d':=s.drawn) (ch:=[]) (λ_ z=>nomatch z) (λb o _ F _ e n=>u.keep b o e n F (by simp)) (λb o _ F _ e n=>u.slot b o e n F (by simp)) (λb o _ e n=>u.free b o e n (by simp)) (λb o _ e=>u.there b o e (by simp)) u.tups u.frzs u.tbls (λm' N=>by
  obtain⟨o',G,J,q,W⟩:=N;rw[M]at q;cases q;exact⟨_,G,J,U,W⟩) B I.bare
theorem Inv.call{g':Array GenState}{t':Nat}{d':Drawn}{ch:List Addr}(I:Inv X pins σ H s)(u:Un (frs X.stack) ch H H' s.heap h')(G:HOk X.prog X.w H' h')(hg:zcb g')
  (F:∀b∈ch,(b∈X.ex\/X.s₀.heap.objs.size<=b)/\b≠X.env.locals/\(∀x c,X.env.cells.lookup x=some c->c≠b)/\∀p∈X.pn++pins,p.1≠b) :
  Inv X pins σ H' {s with heap:=h',gens:=g',drawn:=d',toks:=t'}:=by
 obtain⟨m,⟨o,es,ep,U,r⟩,_⟩:=id I.loc;obtain⟨sl,M⟩:=u.any U I.free λz=>(F _ z).2.1 rfl
 exact I.step (ch:=ch) F (λb o M W q e n=>u.keep b o e n (λz=>(List.mem_cons.mp (I.stkSub b z)).elim M W) q) (λb o _ _ q e n=>u.any e n q) (λb o q e n=>u.free b o e n q) (λb o q e=>u.there b o e q) u.tups u.frzs u.tbls (λm' Y=>by
  obtain⟨o',J,N,B,r'⟩:=Y;rw[U]at B;cases B;exact⟨_,J,N,M,r'⟩) G hg
theorem Inv.turned{t':Nat}{it:Addr}(I:Inv X pins σ H s)(k:∀b o,b≠it->s.heap.get? b=some o->h'.get? b=some o)(U:H it=none)(G:it≠X.env.locals)
  (h1:it∈X.ex\/X.s₀.heap.objs.size<=it) (h2:∀x c,X.env.cells.lookup x=some c->c≠it) (W:∀p∈X.pn++pins,p.1≠it):Inv X pins σ H {s with heap:=h',toks:=t'}:=by
 have F:∀b u,H b=some u->b≠it:=λb u e z=>by rw[z,U]at e;cases e
 refine I.step (g':=s.gens) (d':=s.drawn) (ch:=[it]) (λb M=>?_) (λb o _ _ B e _=>k b o (λz=>B (by simp[z])) e) (λb o _ _ B e _=>⟨o.slots,k b o (λz=>B (by simp[z])) e⟩) (λ_ _ _ _ n=>n)
  (λb o B e=>⟨o,k b o (λz=>B (by simp[z])) e⟩) (λ_ _ e=>e) (λ_ _ _ e=>e) (λb ps e=>⟨#[],by rw[e];simp⟩) (λm N=>?_) (λb u e=>?_) I.bare
 ·have e:b=it:=by simpa using M
  subst e;exact⟨h1,G,h2,W⟩
 ·obtain⟨o,es,ep,J,r⟩:=N
  exact⟨o,es,ep,k _ o (zaS G) J,r⟩
 ·refine(I.hok b u e).stay (λc v B q=>k c v ?_ q) (λ_ q=>q) λ_ _ q=>q
  rcases B with z|z
  ·rw[z];exact F b u e
  ·exact F c _ z
theorem Inv.tok(I:Inv X pins σ H s)(t:Nat):Inv X pins σ H {s with toks:=t}:=I.un (h':=s.heap) (t':=t) Un.refl I.hok
theorem Inv.kept(I:Inv X pins σ H s)(k:∀b u,s.heap.get? b=some u->h'.get? b=some u):Inv X pins σ H {s with heap:=h',toks:=t'}:=I.un (Un.kept k) (I.hok.kept k)
theorem Inv.laid(I:Inv X pins σ H s)(k:∀b u,s.heap.get? b=some u->h'.get? b=some u)(q:s.heap.objs.size<=a)(new:ObjOk X.prog X.w (upd H a o) h' a o) :
  Inv X pins σ (upd H a o) {s with heap:=h',toks:=t'}:=I.un (Un.laid k q (I.hok.fresh q)) (I.hok.laid k q new)
theorem Inv.write(I:Inv X pins σ H s)(B:YE (H x))(z:e=x\/H e=some (.own x))(k:∀b u,b≠e->s.heap.get? b=some u->h'.get? b=some u)(q:∃u,h'.get? e=some u)
  (new:ObjOk X.prog X.w (upd H x o) h' x o):Inv X pins σ (upd H x o) {s with heap:=h',toks:=t'}:=I.un (Un.write B z k q) (I.hok.write B z k q new)
theorem Inv.pins_of(I:Inv X pins σ H s)(h:∀p∈pins',s.heap.get? p.1=some p.2/\H p.1=none/\p.1≠X.env.locals/\p.1∉X.fs/\∀v,p.2.data≠.cell v):Inv X pins' σ H s:=
 ⟨I.ok,I.os,I.bare,I.base,I.loc,I.cell,I.free,I.freeC,λp q=>(List.mem_append.mp q).elim (λz=>I.pin p (zdf _ z)) (h p),I.hok,I.len⟩
theorem xP{N:List Str}(z:N.Nodup){i j:Nat}{x:Str}(a:N[i]?=some x)(b:N[j]?=some x):i=j:=by
 obtain⟨h1,q⟩:=List.getElem?_eq_some_iff.mp a;obtain⟨h2,B⟩:=List.getElem?_eq_some_iff.mp b;exact(zdg z).mp (q.trans B.symm)
theorem tW{M:Model}{A:zas}{E:Value->zab->Prop}{i:Nat}{x:Str}{v:V}{u:Value}{Q:Unit->zab->Prop}(I:Inv X pins σ H s)(hN:X.N.Nodup)(hi:X.N[i]?=some x)(J:Loc X.env.scope x)(r:RelV v u)
  (h:∀s',Inv X pins (σ.set i (some v)) H s'->(∃a,zaT a s.heap s'.heap/\(a=X.env.locals\/X.env.cells.lookup x=some a))->Q () s') (hf:X.fn x=true\/X.env.scope.names.lookup x=some .local:=by first|exact .inl rfl|exact .inr rfl|assumption):wpAny M A (storeName X.env x u) Q E s:=by
 obtain⟨m,hn,hl⟩:=id I.loc;have ai:(X.env.scope.kind == .class || (X.env.scope.kind == .module && X.env.locals != X.env.globals))=false:=by rw[I.ok.kind];rfl
 have Y:i<σ.length:=by rw[I.len];exact(List.getElem?_eq_some_iff.mp hi).1
 have cne:=I.cne;have F:∀ {a:Addr} {h':Heap},(∃o,s.heap.get? a=some o/\H a=none)->zaT a s.heap h'->HOk X.prog X.w H h':=λ{a h'} ha hs b ob e=>by
  obtain⟨_,_,U⟩:=ha;refine(I.hok b ob e).stay (λc w' G q=>(hs.2 c ?_).trans q) (λ_ q=>q) λ_ _ q=>q
  rintro rfl;rcases G with rfl|G
  ·rw[U]at e;cases e
  ·rw[U]at G;cases G
 rcases J with hk|hk
 ·refine wpAny_storeName_local hk hn (λh' as hs=>?_) ai
  obtain⟨oL,_,_,ap,_⟩:=id hn;refine h _ ⟨I.ok,I.os,I.bare,⟨λb o e n hb J=>?_,λb o e n hb J=>?_,I.base.free,λb o e J=>?_,I.base.tups,I.base.frzs,I.base.tbls⟩,⟨_,as,λj y v' B W e3=>?_⟩,λy c e=>?_,I.free,I.freeC,λp hp=>?_,F ⟨oL,ap,I.free⟩ hs,by simpa using I.len⟩ ⟨_,hs,.inl rfl⟩
  ·exact(hs.2 b (zaz (zbc (zai e) I.ok.above))).trans (I.base.keep b o e n hb J)
  ·obtain⟨sl,B⟩:=I.base.slot b o e n hb J
   exact⟨sl,(hs.2 b (zaz (zbc (zai e) I.ok.above))).trans B⟩
  ·obtain⟨o',B⟩:=I.base.there b o e J
   exact⟨o',(hs.2 b (zaz (zbc (zai e) I.ok.above))).trans B⟩
  ·by_cases hj:j=i
   ·subst hj
    rw[hi]at B;cases B;rw[List.getElem?_set_self Y]at W;cases W;exact⟨u,r,.inl ⟨hk,by simp⟩⟩
   ·rw[zdG (zaS hj)]at W
    obtain⟨u',r',q⟩:=hl j y v' B W e3;refine⟨u',r',?_⟩;rcases q with⟨k,e⟩|⟨k,c,e,z⟩
    ·refine .inl ⟨k,?_⟩
     have:y≠x:=λe=>hj (xP hN B (e ▸ hi))
     simp[this,e]
    ·exact .inr ⟨k,c,e,z.sameBut hs (cne y c e)⟩
  ·obtain⟨w',z⟩:=I.cell y c e
   exact⟨w',z.sameBut hs (cne y c e)⟩
  ·obtain⟨e,n,ne,nf,d⟩:=I.pin p hp
   exact⟨(hs.2 p.1 ne).trans e,n,ne,nf,d⟩
 ·have ad:X.fn x=true:=by
   rcases hf with z|z
   ·exact z
   ·rw[z]at hk;cases hk
  obtain⟨c,G⟩:=I.ok.has x (.inl hk);obtain⟨w',z⟩:=I.cell x c G;refine wpAny_storeName_cell I.ok.kind hk G z (λh' ae hs=>?_);obtain⟨oc,af,ag⟩:=id z;refine h {s with heap:=h'} ⟨I.ok,I.os,I.bare,⟨λb o e n hb J=>?_,λb o e n hb J=>?_,I.base.free,λb o e J=>?_,I.base.tups,I.base.frzs,I.base.tbls⟩,⟨m,hn.sameBut hs (zaS (cne x c G)),λj y v' B W e3=>?_⟩,λy c' e=>?_,I.free,I.freeC,λp hp=>?_,F ⟨oc,af,I.freeC x c G⟩ hs,by simpa using I.len⟩ ⟨c,hs,.inr G⟩
  ·exact(hs.2 b (zaz (zbc (zai e) (I.ok.cab x c ad G)))).trans (I.base.keep b o e n hb J)
  ·obtain⟨sl,B⟩:=I.base.slot b o e n hb J
   exact⟨sl,(hs.2 b (zaz (zbc (zai e) (I.ok.cab x c ad G)))).trans B⟩
  ·obtain⟨o',B⟩:=I.base.there b o e J
   exact⟨o',(hs.2 b (zaz (zbc (zai e) (I.ok.cab x c ad G)))).trans B⟩
  ·by_cases hj:j=i
   ·subst hj
    rw[hi]at B;cases B;rw[List.getElem?_set_self Y]at W;cases W;exact⟨u,r,.inr ⟨.inl hk,c,G,ae⟩⟩
   ·rw[zdG (zaS hj)]at W
    obtain⟨u',r',q⟩:=hl j y v' B W e3;refine⟨u',r',?_⟩;rcases q with q|⟨k,c',e,z'⟩
    ·exact .inl q
    ·refine .inr ⟨k,c',e,z'.sameBut hs ?_⟩
     rintro rfl;exact hj (xP hN B (I.ok.inj _ _ _ e G ▸ hi))
  ·by_cases ah:c'=c
   ·subst ah;exact⟨_,ae⟩
   ·obtain⟨w2,z2⟩:=I.cell y c' e
    exact⟨w2,z2.sameBut hs ah⟩
  ·obtain⟨e,n,ne,nf,d⟩:=I.pin p hp
   refine⟨(hs.2 p.1 ?_).trans e,n,ne,nf,d⟩;intro q;rw[q,af]at e;have q':oc=p.2:=zaD e;exact d w' (by rw[<- q'];exact ag)
theorem zC(I:Inv X pins σ H s)(z:X.N.Nodup)(hi:X.N[i]?=some x)(B:Loc X.env.scope x)(r:RelV v u)
  (h:∀s',Inv X pins (σ.set i (some v)) H s'->Q () s') (q:X.fn x=true\/X.env.scope.names.lookup x=some .local:=by first|exact .inl rfl|exact .inr rfl|assumption):wpAny M A (storeName X.env x u) Q E s:=
 tW I z hi B r (λs' F _=>h s' F) q
theorem Inv.call'(I:Inv X pins σ H s)(B:s'.os=s.os)(u:Un (frs X.stack) ch H H' s.heap s'.heap)(z:HOk X.prog X.w H' s'.heap)(F:zcb s'.gens)
  (q:∀b∈ch,(b∈X.ex\/X.s₀.heap.objs.size<=b)/\b≠X.env.locals/\(∀x c,X.env.cells.lookup x=some c->c≠b)/\∀p∈X.pn++pins,p.1≠b):Inv X pins σ H' s':=by
 obtain⟨h',g',d',t',o'⟩:=s';have e:o'=s.os:=B;subst e;exact I.call (g':=g') (t':=t') (d':=d') u z F q
end
abbrev XK:=Value->Option Addr->Hp->Prop
abbrev St:=List (Option V)
abbrev VK:=V->Hp->Prop
abbrev TE:=St->Hp->VK->Prop
abbrev TT:=St->Hp->(Bool->Hp->Prop)->Prop
abbrev TA:=St->Hp->(List V->Hp->Prop)->Prop
structure Ends where
 nx:St->Hp->Prop
 rt:VK
 bk:St->Hp->Prop:=λ_ _=>False
 ct:St->Hp->Prop:=λ_ _=>False
abbrev TS:=Ends->St->Hp->Prop
inductive EP(X:Cx)(pins:List (Addr×Obj))(σ:St)(Q:VK)(u:Value)(s':zab):Prop
 | mk (v:V) (H':Hp) (i:Inv X pins σ H' s') (r:RelV v u) (q:Q v H'):EP X pins σ Q u s'
inductive TP(X:Cx)(pins:List (Addr×Obj))(σ:St)(Q:Bool->Hp->Prop)(b:Bool)(s':zab):Prop
 | mk (H':Hp) (i:Inv X pins σ H' s') (q:Q b H'):TP X pins σ Q b s'
inductive AP(X:Cx)(pins:List (Addr×Obj))(σ:St)(Q:List V->Hp->Prop)(us:List Value)(s':zab):Prop
 | mk (vs:List V) (H':Hp) (i:Inv X pins σ H' s') (r:Vals vs us) (q:Q vs H'):AP X pins σ Q us s'
def SP(X:Cx)(pins:List (Addr×Obj))(D:Ends)(f:Flow)(s':zab):Prop:=
 match f with
 | .next=>∃σ' H',Inv X pins σ' H' s'/\D.nx σ' H'
 | .brk=>∃σ' H',Inv X pins σ' H' s'/\D.bk σ' H'
 | .cont=>∃σ' H',Inv X pins σ' H' s'/\D.ct σ' H'
 | .ret u=>∃v σ' H',Inv X pins σ' H' s'/\RelV v u/\D.rt v H'
def PE(X:Cx)(e:Expr)(t:TE):Prop:=
 ∀(pins:List (Addr×Obj)) (s:zab) (σ:St) (H:Hp) (Q:VK),Inv X pins σ H s->t σ H Q->wpAny (model X.prog X.w) X.A (eval e X.env) (EP X pins σ Q) X.xe s
def PT(X:Cx)(e:Expr)(t:TT):Prop:=
 ∀(pins:List (Addr×Obj)) (s:zab) (σ:St) (H:Hp) (Q:Bool->Hp->Prop),Inv X pins σ H s->t σ H Q->wpAny (model X.prog X.w) X.A (isTrue e X.env (eval e X.env)) (TP X pins σ Q) X.xe s
def PW(X:Cx)(e:Expr)(t:TT):Prop:=
 ∀(whole:Sem Value) (pins:List (Addr×Obj)) (s:zab) (σ:St) (H:Hp) (Q:Bool->Hp->Prop),Inv X pins σ H s->t σ H Q->wpAny (model X.prog X.w) X.A (isTrue e X.env whole) (TP X pins σ Q) X.xe s
theorem PW.pt{X:Cx}{e:Expr}{t:TT}(h:PW X e t):PT X e t:=h _
def PA(X:Cx)(es:List Expr)(t:TA):Prop:=
 ∀(pos:Pos) (pins:List (Addr×Obj)) (s:zab) (σ:St) (H:Hp) (Q:List V->Hp->Prop),Inv X pins σ H s->t σ H Q->wpAny (model X.prog X.w) X.A (spliced (zaJ pos (zah es X.env))) (AP X pins σ Q) X.xe s
def PS(X:Cx)(st:Stmt)(t:TS):Prop:=
 ∀(pins:List (Addr×Obj)) (s:zab) (σ:St) (H:Hp) (D:Ends),Inv X pins σ H s->t D σ H->wpAny (model X.prog X.w) X.A (exec st X.env) (SP X pins D) X.xe s
def PSs(X:Cx)(st:List Stmt)(t:TS):Prop:=
 ∀(pins:List (Addr×Obj)) (s:zab) (σ:St) (H:Hp) (D:Ends),Inv X pins σ H s->t D σ H->wpAny (model X.prog X.w) X.A (execs st X.env) (SP X pins D) X.xe s
theorem bN{z:Type}{t:Sem z}{Q q:z->zab->Prop}{M:Model}{A:zas}{E:Value->zab->Prop}{s:zab}(h:wpAny M A t Q E s)(B:∀a s,Q a s->q a s):wpAny M A t q E s:=zba h B λ_ _ x=>x
section
variable {X:Cx}
def wM(i:Nat):TE:=λσ H Q=>∃v,σ[i]?=some (some v)/\Q v H
def tC(v:V):TE:=λ_ H Q=>Q v H
theorem TN(J:X.N[i]?=some x)(U:VM X.env.scope x)(B:(x == ("__debug__" : Str))=false:=by decide)(F:(x == ("__classdict__" : Str))=false:=by decide):PE X (.Name x pos) (wM i):=by
 intro pins s σ H Q I h;obtain⟨v,e,h⟩:=h;obtain⟨m,W,Y⟩:=I.loc;obtain⟨u,r,l⟩:=Y i x v J e U;have fin:EP X pins σ Q u s:=⟨v,H,I,r,h⟩;rcases l with⟨z,M⟩|⟨z,c,G,q⟩
 ·exact wpAny_Name (wpAny_loadName_local I.ok.kind z W M fin) B
 ·rcases z with z|z
  ·exact wpAny_Name (wpAny_loadName_cell I.ok.kind z G q fin) B
  ·exact wpAny_Name (wpAny_loadName_free I.ok.kind z G q fin F) B
theorem UN{i j pos}:PE X (.Constant (.int i) j pos) (tC (.int i)):=λ_ _ _ H _ I h=>wpAny_Constant_int ⟨.int i,H,I.tok _,⟨_,rfl⟩,h⟩
theorem V2{b j pos}:PE X (.Constant (.bool b) j pos) (tC (.bl b)):=λ_ _ _ H _ I h=>Constant_bool ⟨.bl b,H,I,rfl,h⟩
theorem UJ{j pos}:PE X (.Constant .none j pos) (tC .non):=λ_ _ _ H _ I h=>Constant_none ⟨.non,H,I,rfl,h⟩
theorem RD{x j pos}:PE X (.Constant (.str x) j pos) (tC (.str x)):=λ_ _ _ H _ I h=>Calls.Constant_str ⟨.str x,H,I.tok _,⟨_,rfl⟩,h⟩
def Gl(X:Cx)(x:Str):Prop:=X.env.kindOf x=some .globalImplicit
theorem C5(I:Inv X pins σ H s)(B:Gl X x)(z:X.mg x=some u)(h:Q u s)
  (q:(x == ("__debug__" : Str))=false:=by decide):wpAny (model X.prog X.w) X.A (eval (.Name x pos) X.env) Q E s:=
 Calls.Name_function_global I.ok.kind B (Calls.loadGlobal_global (by rw[I.ok.glob];exact I.mod.glob.keeps I.bk) z h) q
theorem fL{E:Value->zab->Prop}{pins:List (Addr×Obj)}{s:zab}{σ:St}{H:Hp}{x:Str}{u:Value}{pos:Pos}{Q:Value->zab->Prop}(I:Inv X pins σ H s)(G:Gl X x)(z:X.mg x=none)(F:zaN x=some u)(h:Q u s)
  (B:x ≠ "__name__" := by decide) (q:(x == ("__debug__" : Str))=false:=by decide):wpAny (model X.prog X.w) X.A (eval (.Name x pos) X.env) Q E s:=by
 obtain⟨J,h1,h2⟩:=I.mod.blt;exact Calls.Name_function_global I.ok.kind G (Calls.loadGlobal_builtin (by rw[I.ok.glob];exact I.mod.glob.keeps I.bk) z (by rw[I.ok.blt];exact h1.keeps I.bk) ((h2 x B).trans F) h) q
theorem DC(B:Gl X x)(z:X.mg x=some u)(r:RelV v u)(q:(x == ("__debug__" : Str))=false:=by decide):PE X (.Name x pos) (tC v):=
 λ_ _ _ H _ I h=>C5 I B z ⟨v,H,I,r,h⟩ q
theorem OP(G:Gl X x)(z:X.mg x=none)(F:zaN x=some u)(r:RelV v u)(B:x ≠ "__name__" := by decide)(q:(x == ("__debug__" : Str))=false:=by decide):PE X (.Name x pos) (tC v):=
 λ_ _ _ H _ I h=>fL I G z F ⟨v,H,I,r,h⟩ B q
variable {a b:Expr}{ta tb:TE}{pos:Pos}
def tB(t:TE):TT:=λσ H Q=>t σ H λx H1=>∃c,x=.bl c/\Q c H1
theorem RC{e:Expr}{t:TE}(h:PE X e t)(B:∀z,isTrue e X.env z=(do let v <- z;standAt e.pos;zcq [v] (truthy v)):=by intro _;rfl):PT X e (tB t):=by
 intro pins s σ H Q I hw;refine isTrue_plain (bN (h pins s σ H _ I hw) λv M ⟨x,H1,G,J,F⟩=>?_) (B _);obtain⟨d,rfl,q⟩:=F;cases J;exact zbD ⟨H1,G,q⟩
variable {tA tB':TT}{rest:List Expr}
def Y3(t u:TT):TT:=λσ H Q=>t σ H λc H1=>if c=true then u σ H1 Q else Q false H1
def tOr(t u:TT):TT:=λσ H Q=>t σ H λc H1=>if c=true then Q true H1 else u σ H1 Q
def Y0(t:TT):TT:=λσ H Q=>t σ H λc H1=>Q (!c) H1
theorem NO(q:PT X a tA):PW X (.BoolOp .And [a] pos) tA:=by
 intro z pins s σ H Q I h;refine isTrue_and (bN (q pins s σ H Q I h) λc B e=>?_);cases c with
 | true=>exact isTrue_and_nil e
 | false=>exact e
theorem T8(q:PT X a tA):PW X (.BoolOp .Or [a] pos) tA:=by
 intro z pins s σ H Q I h;refine isTrue_or (bN (q pins s σ H Q I h) λc B e=>?_);cases c with
 | false=>exact isTrue_or_nil e
 | true=>exact e
theorem UY(F:PT X a tA)(B:PW X (.BoolOp .And (b::rest) pos) tB'):PW X (.BoolOp .And (a::b::rest) pos) (Y3 tA tB'):=by
 intro G pins s σ H Q I h;refine isTrue_and (bN (F pins s σ H _ I h) λc J ⟨H1,z,q⟩=>?_);cases c with
 | true=>exact B G pins J σ H1 Q z q
 | false=>exact⟨H1,z,q⟩
theorem W6(F:PT X a tA)(B:PW X (.BoolOp .Or (b::rest) pos) tB'):PW X (.BoolOp .Or (a::b::rest) pos) (tOr tA tB'):=by
 intro G pins s σ H Q I h;refine isTrue_or (bN (F pins s σ H _ I h) λc J ⟨H1,z,q⟩=>?_);cases c with
 | true=>exact⟨H1,z,q⟩
 | false=>exact B G pins J σ H1 Q z q
theorem S3(z:PT X a tA):PT X (.UnaryOp .Not a pos) (Y0 tA):=by
 intro pins s σ H Q I h;exact isTrue_not (bN (z pins s σ H (λc H1=>Q (!c) H1) I h) λ_ _ ⟨H',i,q⟩=>⟨H',i,q⟩)
def V7(ta tb:TE):TE:=λσ H Q=>ta σ H λx H1=>∃c,x=.bl c/\if c=true then tb σ H1 Q else Q (.bl false) H1
def WX(ta:TE):TE:=λσ H Q=>ta σ H λx H1=>∃c,x=.bl c/\Q (.bl (!c)) H1
theorem RU{op}(h:PE X a t):PE X (.BoolOp op [a] pos) t:=λpins s σ H Q I hw=>BoolOp_one (h pins s σ H Q I hw)
theorem TV(F:PE X a ta)(B:PE X (.BoolOp .And (b::rest) pos) tb):PE X (.BoolOp .And (a::b::rest) pos) (V7 ta tb):=by
 intro pins s σ H Q I h;refine BoolOp_and (bN (F pins s σ H _ I h) λv G ⟨x,H1,z,J,q⟩=>?_);obtain⟨c,rfl,q⟩:=q;cases J;refine zbD ?_;cases c with
 | true=>exact B pins G σ H1 Q z q
 | false=>exact⟨.bl false,H1,z,rfl,q⟩
theorem UC(z:PE X a ta):PE X (.UnaryOp .Not a pos) (WX ta):=by
 intro pins s σ H Q I h;refine UnaryOp_ (bN (z pins s σ H _ I h) λv G ⟨x,H1,B,F,q⟩=>?_);obtain⟨c,rfl,q⟩:=q;cases F;exact not_of (zbD ⟨.bl (!c),H1,B,rfl,q⟩)
def tIf(t:TT)(ta tb:TE):TE:=λσ H Q=>t σ H λc H1=>if c=true then ta σ H1 Q else tb σ H1 Q
theorem IH{c:Expr}(J:PT X c tA)(G:PE X a ta)(F:PE X b tb):PE X (.IfExp c a b pos) (tIf tA ta tb):=by
 intro pins s σ H Q I h;refine wpAny_IfExp (bN (J pins s σ H _ I h) λd B ⟨H1,z,q⟩=>?_);cases d with
 | true=>exact G pins B σ H1 Q z q
 | false=>exact F pins B σ H1 Q z q
end
def SqL(K:zaf)(H:Hp)(a:Addr)(xs:List V):Prop:=
 Rd H a (.lst xs) \/
  ∃(o:Obj) (its:Array Value) (n:Nat),K.lookup a=some o/\o.cls=.type "list" /\ o.dict=none/\o.data=.seq its n/\its.size<=zaj/\Vals xs its.toList
def SqT(K:zaf)(H:Hp)(a:Addr)(xs:List V):Prop:=
 Rd H a (.tup xs) \/
  ∃(o:Obj) (its:Array Value) (n:Nat),K.lookup a=some o/\o.cls=.type "tuple" /\ o.data=.seq its n/\its.size<=zaj/\Vals xs its.toList
noncomputable def ZL:Value->Option V
 | .none=>some .non
 | .bool b=>some (.bl b)
 | .int i _=>some (.int i)
 | .str x _=>some (.str x)
 | .bytes b _=>some (.byt b)
 | .float b _=>some (.flt b)
 | .ref a=>some (.ref a)
 | .type n=>some (.ty n)
 | _=>none
theorem RelV.abs(r:RelV x u):ZL u=some x:=by
 cases x with
 | non=>cases r;rfl
 | bl _=>cases r;rfl
 | int _=>obtain⟨t,rfl⟩:=r;rfl
 | str _=>obtain⟨t,rfl⟩:=r;rfl
 | byt _=>obtain⟨t,rfl⟩:=r;rfl
 | flt _=>obtain⟨t,rfl⟩:=r;rfl
 | ref _=>cases r;rfl
 | ty _=>cases r;rfl
theorem RelV.inj(r:RelV x u)(q:RelV y u):x=y:=zaD (r.abs.symm.trans q.abs)
theorem Vals.inj:∀ {xs ys:List V} {us:List Value},Vals xs us->Vals ys us->xs=ys
 | _,_,_,.nil,.nil=>rfl
 | _,_,_,.cons r t,.cons r' t'=>by rw[r.inj r',Vals.inj t t']
section
variable {X:Cx}{pins:List (Addr×Obj)}{σ:St}{H:Hp}{s:zab}{a:Addr}{xs ys:List V}
theorem SqL.of{K:zaf}(h:H a=some (.lst xs)):SqL K H a xs:=.inl (.inl h)
theorem SqT.of{K:zaf}(h:H a=some (.tup xs)):SqT K H a xs:=.inl (.inl h)
theorem Inv.list(I:Inv X pins σ H s)(h:SqL X.K H a xs):∃q:List Value,Vals xs q/\PlainL s.heap a q.toArray/\xs.length<=zaj:=by
 rcases h with h|⟨o,q,n,G,F,B,hs,hz,r⟩
 ·obtain⟨z,q,n,r,e⟩:=h.ok I.hok
  exact⟨q,r,⟨_,n,e,rfl,rfl,rfl⟩,z⟩
 ·refine⟨q.toList,r,⟨o,n,I.kIn a o G,F,B,by simpa using hs⟩,?_⟩
  have e:=r.length;simp only[zbf]at e
  lia
theorem Inv.tuple(I:Inv X pins σ H s)(h:SqT X.K H a xs):∃q:List Value,Vals xs q/\IsTup s.heap a q.toArray/\xs.length<=zaj:=by
 rcases h with h|⟨o,q,n,F,B,hs,hz,r⟩
 ·obtain⟨z,q,r,p⟩:=h.ok I.hok
  exact⟨q,r,p.tup,z⟩
 ·refine⟨q.toList,r,⟨o,I.kIn a o F,B,n,by simpa using hs⟩,?_⟩
  have e:=r.length;simp only[zbf]at e
  lia
theorem Inv.list_inj(I:Inv X pins σ H s)(h:SqL X.K H a xs)(h':SqL X.K H a ys):xs=ys:=by
 obtain⟨q,r,⟨o,n,e,_,_,d⟩,_⟩:=I.list h;obtain⟨its',B,⟨o',F,z,_,_,d'⟩,_⟩:=I.list h';rw[e]at z;cases z;rw[d]at d';injection d' with d1 _
 have:q=its':=by simpa using congrArg Array.toList d1
 subst this;exact r.inj B
theorem Inv.tuple_inj(I:Inv X pins σ H s)(h:SqT X.K H a xs)(h':SqT X.K H a ys):xs=ys:=by
 obtain⟨q,r,⟨o,e,_,n,d⟩,_⟩:=I.tuple h;obtain⟨its',B,⟨o',z,_,F,d'⟩,_⟩:=I.tuple h';rw[e]at z;cases z;rw[d]at d';injection d' with d1 _
 have:q=its':=by simpa using congrArg Array.toList d1
 subst this;exact r.inj B
end
abbrev Cx.wish(X:Cx)(E:Value->zab->Prop):Cx:={X with xe:=E}
abbrev Cx.nox(X:Cx):Cx:=X.wish λ_ _=>False
theorem Cx.Ok.wish{X:Cx}(ok:X.Ok)(E:Value->zab->Prop):(X.wish E).Ok:=
 ⟨ok.mod,ok.kind,ok.glob,ok.blt,ok.above,ok.inj,ok.has,ok.cab,ok.hd,ok.frames,ok.stk,ok.exf,ok.bs,ok.bsz,ok.noex,ok.exfs,ok.funs,ok.frf⟩
theorem Cx.Ok.unwish{X:Cx}{E:Value->zab->Prop}(ok:(X.wish E).Ok):X.Ok:=
 ⟨ok.mod,ok.kind,ok.glob,ok.blt,ok.above,ok.inj,ok.has,ok.cab,ok.hd,ok.frames,ok.stk,ok.exf,ok.bs,ok.bsz,ok.noex,ok.exfs,ok.funs,ok.frf⟩
section
variable {X:Cx}{pins:List (Addr×Obj)}{σ:St}{H:Hp}{s:zab}{E:Value->zab->Prop}
theorem Inv.wish(I:Inv X pins σ H s)(E:Value->zab->Prop):Inv (X.wish E) pins σ H s:=⟨I.ok.wish E,I.os,I.bare,I.base,I.loc,I.cell,I.free,I.freeC,I.pin,I.hok,I.len⟩
theorem Inv.unwish(I:Inv (X.wish E) pins σ H s):Inv X pins σ H s:=⟨I.ok.unwish,I.os,I.bare,I.base,I.loc,I.cell,I.free,I.freeC,I.pin,I.hok,I.len⟩
theorem SP.unwish(h:SP (X.wish E) pins D f s'):SP X pins D f s':=by
 cases f with
 | next=>obtain⟨z,H',I,q⟩:=h;exact⟨z,H',I.unwish,q⟩
 | brk=>obtain⟨z,H',I,q⟩:=h;exact⟨z,H',I.unwish,q⟩
 | cont=>obtain⟨z,H',I,q⟩:=h;exact⟨z,H',I.unwish,q⟩
 | ret u=>obtain⟨v,z,H',I,r,q⟩:=h;exact⟨v,z,H',I.unwish,r,q⟩
theorem PE.nox(h:PE X.nox e t):PE X e t:=λpins s σ H Q I hw=>
 zba (h pins s σ H Q (I.wish _) hw) (λ_ _ ⟨v,H',B,r,q⟩=>⟨v,H',B.unwish,r,q⟩) λ_ _ z=>zbE z
theorem PT.nox(h:PT X.nox e t):PT X e t:=λpins s σ H Q I hw=>
 zba (h pins s σ H Q (I.wish _) hw) (λ_ _ ⟨H',B,q⟩=>⟨H',B.unwish,q⟩) λ_ _ z=>zbE z
theorem PSs.nox{st:List Stmt}{t:TS}(h:PSs X.nox st t):PSs X st t:=λpins s σ H D I hw=>
 zba (h pins s σ H D (I.wish _) hw) (λ_ _ q=>q.unwish) λ_ _ z=>zbE z
end
section
variable {X:Cx}{st:Stmt}{rest:List Stmt}{t u:TS}{e:Expr}{te:TE}{pos:Pos}
def WF:TS:=λD σ H=>D.nx σ H
def XJ(t u:TS):TS:=λD σ H=>t {D with nx:=u D} σ H
theorem OV:PSs X [] WF:=λ_ _ σ H _ I h=>zdH ⟨σ,H,I,h⟩
theorem G6(h1:PS X st t)(h2:PSs X rest u):PSs X (st::rest) (XJ t u):=by
 intro pins s σ H D I h;refine wpAny_execs_cons (bN (h1 pins s σ H {D with nx:=u D} I h) λf B q=>?_);cases f with
 | next=>
  obtain⟨z,H',F,q⟩:=q;exact h2 pins B z H' D F q
 | ret v=>exact q
 | brk=>exact q
 | cont=>exact q
theorem M5(h1:PS X st t):PSs X [st] t:=by
 intro pins s σ H D I h;refine wpAny_execs_cons (bN (h1 pins s σ H D I h) λf z q=>?_);cases f with
 | next=>exact zdH q
 | ret v=>exact q
 | brk=>exact q
 | cont=>exact q
theorem Inv.quiet(I:Inv X pins σ H s):interactive X.env=false:=by simp[interactive,I.ok.kind]
def VT(te:TE):TS:=λD σ H=>te σ H λ_ H1=>D.nx σ H1
theorem CS(q:PE X e te)(hs:za6 e none pos.line X.env=pure false:=by rfl):PS X (.Expr e pos) (VT te):=by
 intro pins s σ H D I h;exact wpAny_Expr_any (bN (q pins s σ H _ I h) λv F ⟨x,H1,B,G,z⟩=>⟨σ,H1,B,z⟩) I.quiet hs
def YX(te:TE):TS:=λD σ H=>te σ H D.rt
theorem UP(q:PE X e te):PS X (.Return (some e) pos) (YX te):=by
 intro pins s σ H D I h;exact wpAny_Return_some (bN (q pins s σ H _ I h) λv G ⟨x,H1,B,F,z⟩=>⟨x,σ,H1,B,F,z⟩)
def YZ(c:TT)(t u:TS):TS:=λD σ H=>c σ H λb H1=>if b=true then t D σ H1 else u D σ H1
theorem WT{c:Expr}{a b:List Stmt}{tc:TT}(J:PT X c tc)(G:PSs X a t)(F:PSs X b u):PS X (.If c a b pos) (YZ tc t u):=by
 intro pins s σ H D I h;refine wpAny_If (bN (J pins s σ H _ I h) λd B ⟨H1,z,q⟩=>?_);cases d with
 | true=>exact G pins B σ H1 D z q
 | false=>exact F pins B σ H1 D z q
end
abbrev TG:=V->St->Hp->(St->Hp->Prop)->Prop
abbrev QM:=List V->St->Hp->(St->Hp->Prop)->Prop
def PG(X:Cx)(q:Expr)(t:TG):Prop:=
 ∀(pins:List (Addr×Obj)) (s:zab) (σ:St) (H:Hp) (v:V) (u:Value) (Q:St->Hp->Prop),Inv X pins σ H s->RelV v u->t v σ H Q->
  wpAny (model X.prog X.w) X.A (zbq q X.env u) (λ_ s'=>∃z H',Inv X pins z H' s'/\Q z H') X.xe s
def PGs(X:Cx)(ts:List Expr)(t:QM):Prop:=
 ∀(pins:List (Addr×Obj)) (s:zab) (σ:St) (H:Hp) (vs:List V) (us:List Value) (Q:St->Hp->Prop),Inv X pins σ H s->Vals vs us->t vs σ H Q->
  wpAny (model X.prog X.w) X.A (assignInOrder ((zbg ts X.env).map (·.2)) us) (λ_ s'=>∃q H',Inv X pins q H' s'/\Q q H') X.xe s
abbrev LF:=V->V->V->Hp->(Hp->Prop)->Prop
def PC(X:Cx)(t:LF):Prop:=
 ∀(pins:List (Addr×Obj)) (s:zab) (σ:St) (H:Hp) (o i v:V) (ov iv u:Value) (Q:Hp->Prop),Inv X pins σ H s->RelV o ov->RelV i iv->RelV v u->t o i v H Q->
  wpAny (model X.prog X.w) X.A (setItem ov iv u) (λ_ s'=>∃H',Inv X pins σ H' s'/\Q H') X.xe s
section
variable {X:Cx}{pos:Pos}
def sH(i:Nat):TG:=λv σ H Q=>Q (σ.set i (some v)) H
theorem C8(z:X.N.Nodup)(hi:X.N[i]?=some x)(B:Loc X.env.scope x)(q:X.fn x=true\/X.env.scope.names.lookup x=some .local:=by first|exact .inl rfl|exact .inr rfl|assumption):PG X (.Name x pos) (sH i):=by
 intro pins s σ H v u Q I r h;exact wpAny_assign_Name (zC I z hi B r (λs' F=>⟨_,H,F,h⟩) q)
def ZF:QM:=λvs σ H Q=>vs=[]/\Q σ H
def P4(t:TG)(u:QM):QM:=λvs σ H Q=>∃v r,vs=v::r/\t v σ H λq H'=>u r q H' Q
theorem L1:PGs X [] ZF:=by
 intro pins s σ H vs us Q I r h;obtain⟨e,h⟩:=h;subst e;cases r;exact assignInOrder_nil ⟨σ,H,I,h⟩
theorem GX{e:Expr}{es:List Expr}{t:TG}{u:QM}(h1:PG X e t)(h2:PGs X es u)
  (hs:(zbg (e::es) X.env).map (·.2)=zbq e X.env::(zbg es X.env).map (·.2):=by rfl):PGs X (e::es) (P4 t u):=by
 intro pins s σ H vs us Q I r h;obtain⟨v,J,z,h⟩:=h;subst z;cases r with
 | cons r rr=>
  rw[hs];refine assignInOrder_cons (bN (h1 pins s σ H _ _ _ I r h) λ_ G ⟨q,H1,F,B⟩=>?_);exact h2 pins G q H1 _ _ Q F rr B
def XW(K:zaf)(n:Nat)(t:QM):TG:=λv σ H Q=>∃a xs,v=.ref a/\SqT K H a xs/\xs.length=n/\t xs σ H Q
theorem KQ(M:X.calm=true)(h:PGs X es t)
  (J:(zbg es X.env).length=n:=by rfl) (q:(zbg es X.env).findIdx? (·.1)=none:=by rfl):PG X (.Tuple es k pos) (XW X.K n t):=by
 intro pins s σ H v u Q I r hw;obtain⟨a,xs,F,N,U,hw⟩:=hw;subst F;cases r;obtain⟨Y,z,B,hz⟩:=I.tuple N;refine assign_Tuple_tuple (I.ok.hd M) B (by simp[J,<- U,z.length]) q λh' G=>?_
 have W:Inv X pins σ H {s with heap:=h'}:=I.kept (t':=s.toks) λb o e=>G b o (zaz (zai e)) e
 exact h pins _ σ H xs _ Q W (by simpa using z) hw
def U5(to z:TE)(t:LF):TG:=λv σ H Q=>to σ H λo H1=>z σ H1 λi H2=>t o i v H2 λq=>Q σ q
theorem JX{o i:Expr}{to B:TE}{t:LF}(F:PE X o to)(hi:PE X i B)(hs:PC X t)
  (U:∀v, zbq (.Subscript o i pos) X.env v = (do
   let q <- zcq [v] (eval o X.env);let z <- zcq [v,q] (eval i X.env)
   standAt pos
   zcq [v,q,z] (setItem q z v)
   release [v,q,z] []):=by intro _;rfl):PG X (.Subscript o i pos) (U5 to B t):=by
 intro pins s σ H v u Q I r h;rw[U];refine zaa (zbn (bN (F pins s σ H _ I h) λq s1 ⟨x,H1,W,r1,Y⟩=>?_));refine zaa (zbn (bN (hi pins s1 σ H1 _ W Y) λz G ⟨y,H2,I2,M,q2⟩=>?_));refine zaa (zdh (zaa (zbn (bN (hs pins G σ H2 x y v q z u _ I2 r1 M r q2) λ_ s3 ⟨H3,N,J⟩=>?_))));exact wpAny_release ⟨σ,H3,N,J⟩
def LB(te:TE)(g:TG):TS:=λD σ H=>te σ H λx H1=>g x σ H1 D.nx
theorem KZ{tg e:Expr}{te:TE}{g:TG}(z:PE X e te)(M:PG X tg g)(hs:zdI [tg] e pos.line X.env=pure false:=by rfl)(hw:zdJ [tg] e X.env=pure none:=by rfl)
  (h1:(zbg [tg] X.env).map (·.2)=[zbq tg X.env]:=by rfl):PS X (.Assign [tg] e pos) (LB te g):=by
 intro pins s σ H D I h;refine wpAny_Assign_stores (bN (z pins s σ H _ I h) λv G ⟨x,H1,B,J,F⟩=>?_) hs hw;rw[h1];exact bN (M pins G σ H1 x v _ B J F) λ_ N q=>q
theorem KM{i:Nat}{x:Str}{e:Expr}{te:TE}{pos':Pos}(q:X.N.Nodup)(hi:X.N[i]?=some x)(B:Loc X.env.scope x)(z:PE X e te)(hs:za6 e (some (.Name x pos')) pos.line X.env=pure false:=by rfl)(F:X.fn x=true\/X.env.scope.names.lookup x=some .local:=by first|exact .inl rfl|exact .inr rfl|assumption) :
  PS X (.Assign [.Name x pos'] e pos) (LB te (sH i)):=by
 intro pins s σ H D I h;refine wpAny_Assign_Name (bN (z pins s σ H _ I h) λv Y ⟨y,H1,G,U,M⟩=>?_) hs;exact zC G q hi B U (λW J=>⟨_,H1,J,M⟩) F
end
section
variable {X:Cx}{pos:Pos}
def UD(c:TT)(tb:TS):TS:=λD σ H=>∃W:Nat->St->Hp->Prop,(∃m,W m σ H)/\∀m σ H,W m σ H->
 c σ H λb H1=>if b=true then ∃N:St->Hp->Prop,(∀q H',N q H'->∃z,z<m/\W z q H')/\tb {D with nx:=N,ct:=N,bk:=D.nx} σ H1 else D.nx σ H1
theorem I0{c:Expr}{body:List Stmt}{tc:TT}{tb:TS}(hp:zcS (model X.prog X.w) X.A X.env X.xe)(hc:PT X c tc)(hb:PSs X body tb):PS X (.While c body [] pos) (UD tc tb):=by
 intro pins s σ H D I h;obtain⟨W,⟨m0,w0⟩,turn⟩:=h;refine wpAny_While (codeAny_whileLoop (λn s'=>∃B H',Inv X pins B H' s'/\W n B H') ?_ m0 ⟨σ,H,I,w0⟩);rintro n s1 ⟨z,H1,I1,w1⟩;refine zcA hp (bN (hc pins s1 z H1 _ I1 (turn n z H1 w1)) λb s2 ⟨H2,I2,J⟩=>?_);cases b with
 | true=>
  obtain⟨N,hN,J⟩:=J;rw[if_pos rfl];refine zcA hp (bN (hb pins s2 z H2 _ I2 J) λf s3 G=>?_);cases f with
  | next=>
   obtain⟨q,F,U,n3⟩:=G;obtain⟨m',M,Y⟩:=hN q F n3;exact⟨m',M,q,F,U,Y⟩
  | cont=>
   obtain⟨q,F,U,n3⟩:=G;obtain⟨m',M,Y⟩:=hN q F n3;exact⟨m',M,q,F,U,Y⟩
  | brk=>exact G
  | ret v=>exact G
 | false=>
  rw[if_neg zaw];exact zdH ⟨z,H2,I2,J⟩
end
structure It where
 go:Nat->Hp->Prop
 yld:Nat->Hp->V->Hp->Prop
 stop:Nat->Hp->Prop
def iI(X:Cx)(pins:List (Addr×Obj))(H:Hp)(b:Addr):Prop:=
 H b=none/\b≠X.env.locals/\b∉X.fs/\(b∈X.ex\/X.s₀.heap.objs.size<=b)/\(∀x c,X.env.cells.lookup x=some c->c≠b)/\∀p∈X.pn++pins,p.1≠b
theorem Inv.fpOk(I:Inv X pins σ H s)(B:s.heap.objs.size<=b)(G:H' b=none):iI X pins H' b:=by
 refine⟨G,zaG (zbc I.lt B),I.nofs B,.inr (zbe I.sz B),λx c e z=>?_,λp F z=>?_⟩
 ·obtain⟨v,q⟩:=I.cell x c e
  exact absurd (zbc q.lt (by rw[z];exact B)) (zbd _)
 ·exact absurd (zbc (zai (I.pin p F).1) (by rw[z];exact B)) (zbd _)
structure Turn(P:zap)(w:World)(K:zaf)(tg:Expr)(J:It)(fp:List Addr)(it:Addr)(tn:Nat->Heap->Prop):Prop where
 mem:it∈fp
 obj:∀i h,tn i h->∀b∈fp,∃o,h.get? b=some o/\∀v,o.data≠.cell v
 keep:∀i h h',tn i h->(∀b∈fp,∀o,h.get? b=some o->h'.get? b=some o)->tn i h'
 item:∀(X:Cx),X.prog=P->X.w=w->X.K=K->X.calm=true->∀(i:Nat) (pins:List (Addr×Obj)) (s:zab) (σ:St) (H:Hp) (E:Value->zab->Prop),Inv X pins σ H s->(∀b∈fp,iI X pins H b)->tn i s.heap->J.go i H->
  wpAny (model P w) X.A (zaH (.ref it)) (λr s1=>∃u,r=some u /\
   wpAny (model P w) X.A (zdK tg (.ref it) u) (λ_ s2=>∃x H',Inv X pins σ H' s2/\RelV x u/\J.yld i H x H'/\tn (i+1) s2.heap/\∀b∈fp,H' b=none) E s1) E s
 done:∀(X:Cx),X.prog=P->X.w=w->X.K=K->X.calm=true->∀(i:Nat) (pins:List (Addr×Obj)) (s:zab) (σ:St) (H:Hp) (E:Value->zab->Prop),Inv X pins σ H s->(∀b∈fp,iI X pins H b)->tn i s.heap->J.stop i H->
  wpAny (model P w) X.A (zaH (.ref it)) (λr s1=>r=none/\Inv X pins σ H s1) E s
 self:∀(A:zas) (i:Nat) (s:zab) (Q:Value->zab->Prop) (E:Value->zab->Prop),tn i s.heap->Q (.ref it) s->wpAny (model P w) A (pyIter (.ref it)) Q E s
abbrev TI:=St->Hp->(It->Hp->Prop)->Prop
def PIE(X:Cx)(pins:List (Addr×Obj))(σ:St)(tg:Expr)(R:It->Hp->Prop)(q:Value)(z:zab):Prop:=
 ∃(it:Addr) (fp:List Addr) (tn:Nat->Heap->Prop) (J:It) (H':Hp),q=.ref it/\Inv X pins σ H' z/\Turn X.prog X.w X.K tg J fp it tn/\tn 0 z.heap/\(∀b∈fp,iI X pins H' b)/\R J H'
def PI(X:Cx)(tg q:Expr)(wi:TI):Prop:=
 ∀(pins:List (Addr×Obj)) (s:zab) (σ:St) (H:Hp) (R:It->Hp->Prop),Inv X pins σ H s->wi σ H R->
  wpAny (model X.prog X.w) X.A (eval q X.env) (λv z=>wpAny (model X.prog X.w) X.A (pyIter v) (PIE X pins σ tg R) X.xe z) X.xe s
theorem nN(B:s.heap.get? it=some o)(G:o.cls=.type n)(z:o.data=.fields vs)
    (F:["enumerate", "zip", "dict_itemiterator", "dict_reverseitemiterator", "odict_iterator", "itertools.zip_longest", "itertools.pairwise"].contains n=false) (q:Q () s):wpAny M A (zdK tg (.ref it) u) Q E s:=by
  unfold zdK;cases tg <;> first
    | exact zac q
    | (cases u <;> first
        | exact zac q
        | (refine zaa (wpAny_load B ?_)
           rw[G,z];show wpAny M A (if(["enumerate", "zip", "dict_itemiterator", "dict_reverseitemiterator", "odict_iterator", "itertools.zip_longest", "itertools.pairwise"].contains n && vs[0]? == some (zaO _))=true then _ else _) Q E s;rw[if_neg (by intro h;rw[F,zcB]at h;cases h)];exact zac q))
def qm(K:zaf)(a:Addr):It:=
 ⟨λi H=>∃xs x,SqL K H a xs/\xs[i]?=some x,λi H x H'=>H'=H/\∀xs,SqL K H a xs->xs[i]?=some x,λi H=>∃xs,SqL K H a xs/\xs.length<=i⟩
def qg(K:zaf)(a:Addr):It:=
 ⟨λi H=>∃xs x,SqT K H a xs/\xs[i]?=some x,λi H x H'=>H'=H/\∀xs,SqT K H a xs->xs[i]?=some x,λi H=>∃xs,SqT K H a xs/\xs.length<=i⟩
noncomputable def YH(lo:Int)(n:Nat):It:=⟨λi _=>i<n,λi H x H'=>H'=H/\x=.int (lo+i),λi _=>n<=i⟩
theorem E7{P:zap}{w:World}{K:zaf}{tg:Expr}(a it:Addr):Turn P w K tg (qm K a) [it] it (λi h=>h.IsListIter it a i) where
 mem:=by simp
 obj:=λi h st b q=>by
  have e:b=it:=by simpa using q
  subst e;obtain⟨o,e,c,d⟩:=st;exact⟨o,e,λv z=>by rw[d]at z;cases z⟩
 keep:=λi h h' st k=>st.at λo e=>k it (by simp) o e
 item:=by
  intro X N hw U hc i pins s σ H E I F st M;subst N hw U;obtain⟨xs,x,G,Y⟩:=M;obtain⟨ae,J,p,hz⟩:=I.list G;obtain⟨u,hu,ru⟩:=J.get Y;obtain⟨f0,f1,f2,f3,f4,W⟩:=F it (by simp);refine wpAny_pyNext_list_item st p.isList (x:=u) (by simpa using hu) λh' B sb=>?_
  have I1:Inv X pins σ H {s with heap:=h'}:=I.turned (t':=s.toks) (λb o q e=>(sb.2 b q).trans e) f0 f1 f3 f4 W;obtain⟨o,e,c,d⟩:=id B;exact⟨u,rfl,nN (s:={s with heap:=h'}) e c d (by decide) ⟨x,H,I1,ru,⟨rfl,λys hy=>by rw[I.list_inj hy G];exact Y⟩,B,λb q=>(F b q).1⟩⟩
 done:=by
  intro X N hw U hc i pins s σ H E I F st M;subst N hw U;obtain⟨xs,G,Y⟩:=M;obtain⟨ae,J,p,hz⟩:=I.list G;obtain⟨f0,f1,f2,f3,f4,W⟩:=F it (by simp);have hl:=J.length;exact wpAny_pyNext_list_end (I.ok.hd hc) st p.isList (by simp;lia) λh' eb=>⟨rfl,I.turned (t':=s.toks) (λb o q e=>eb b o q e) f0 f1 f3 f4 W⟩
 self:=λ_ _ _ _ _ st h=>wpAny_pyIter_listiter st h
theorem AM{P:zap}{w:World}{K:zaf}{tg:Expr}(a it:Addr):Turn P w K tg (qg K a) [it] it (λi h=>h.IsTupleIter it a i) where
 mem:=by simp
 obj:=λi h st b q=>by
  have e:b=it:=by simpa using q
  subst e;obtain⟨o,e,c,d⟩:=st;exact⟨o,e,λv z=>by rw[d]at z;cases z⟩
 keep:=λi h h' st k=>st.at λo e=>k it (by simp) o e
 item:=by
  intro X U hw W hc i pins s σ H E I G st N;subst U hw W;obtain⟨xs,x,J,hx⟩:=N;obtain⟨B,M,p,hz⟩:=I.tuple J;obtain⟨u,hu,ru⟩:=M.get hx;obtain⟨f0,f1,f2,f3,f4,Y⟩:=G it (by simp);refine wpAny_pyNext_tuple_item st (show s.heap.IsTuple a B.toArray from p) (x:=u) (by simpa using hu) λh' F sb=>?_
  have I1:Inv X pins σ H {s with heap:=h'}:=I.turned (t':=s.toks) (λb o q e=>(sb.2 b q).trans e) f0 f1 f3 f4 Y;obtain⟨o,e,c,d⟩:=id F;exact⟨u,rfl,nN (s:={s with heap:=h'}) e c d (by decide) ⟨x,H,I1,ru,⟨rfl,λys hy=>by rw[I.tuple_inj hy J];exact hx⟩,F,λb q=>(G b q).1⟩⟩
 done:=by
  intro X U hw W hc i pins s σ H E I G st N;subst U hw W;obtain⟨xs,J,hx⟩:=N;obtain⟨B,M,p,hz⟩:=I.tuple J;obtain⟨f0,f1,f2,f3,f4,Y⟩:=G it (by simp);have hl:=M.length;exact wpAny_pyNext_tuple_end (I.ok.hd hc) st (show s.heap.IsTuple a B.toArray from p) (by simp;lia) λh' eb=>⟨rfl,I.turned (t':=s.toks) (λb o q e=>eb b o q e) f0 f1 f3 f4 Y⟩
 self:=λ_ _ _ _ _ st h=>wpAny_pyIter_tupleiter st h
theorem A7{P:zap}{w:World}{K:zaf}{tg:Expr}(it:Addr)(lo:Int)(n:Nat):Turn P w K tg (YH lo n) [it] it (λi h=>zdL h it (lo+(i:Nat)*1) ((n:Int)-(i:Nat)) 1) where
 mem:=by simp
 obj:=λi h st b q=>by
  have e:b=it:=by simpa using q
  subst e;exact⟨_,st,λv z=>by
   have z':Data.fields _=Data.cell v:=z;cases z'⟩
 keep:=λi h h' st k=>k it (by simp) _ st
 item:=by
  intro X J hw G N i pins s σ H E I F st hg;subst J hw G;obtain⟨f0,f1,f2,Y,U,M⟩:=F it (by simp);have W:=Walks.range (prog:=X.prog) (w:=X.w) (I.ok.hd N) it lo 1 n;refine W.item i s _ _ hg st λv h' tk hv B kk=>?_
  obtain⟨t,rfl⟩:=hv;have I1:Inv X pins σ H {s with heap:=h',toks:=tk}:=I.turned (λb o q e=>kk b o (by simpa using q) e) f0 f1 Y U M;refine⟨_,rfl,nN (s:={s with heap:=h',toks:=tk}) (n := "range_iterator") B rfl rfl (by decide) ⟨.int (lo+i),H,I1,⟨t,?_⟩,⟨rfl,rfl⟩,B,λb q=>(F b q).1⟩⟩;rw[zbP]
 done:=by
  intro X J hw G N i pins s σ H E I F st hg;subst J hw G;obtain⟨f0,f1,f2,Y,U,M⟩:=F it (by simp);exact wpAny_pyNext_range_end (I.ok.hd N) st (by have:n<=i:=hg;lia) λh' eb=>⟨rfl,I.turned (t':=s.toks) (λb o q e=>eb b o q e) f0 f1 Y U M⟩
 self:=λ_ _ _ _ _ st h=>wpAny_pyIter_rangeiter st h
section
variable {X:Cx}{tg:Expr}
def V8(K:zaf)(tl:TE):TI:=λσ H R=>tl σ H λx H1=>∃a,x=.ref a/\(∃xs,SqL K H1 a xs)/\R (qm K a) H1
def ZH(K:zaf)(tl:TE):TI:=λσ H R=>tl σ H λx H1=>∃a,x=.ref a/\(∃xs,SqT K H1 a xs)/\R (qg K a) H1
theorem LP{l:Expr}{tl:TE}(G:PE X l tl):PI X tg l (V8 X.K tl):=by
 intro pins s σ H R I h;refine bN (G pins s σ H _ I h) λv B ⟨x,H1,z,N,M⟩=>?_
 obtain⟨a,e,⟨xs,J⟩,q⟩:=M;subst e;cases N;obtain⟨U,W,p,hz⟩:=z.list J;refine zcc p.isList ?_;refine⟨B.heap.objs.size,[B.heap.objs.size],_,_,H1,rfl,z.kept (t':=B.toks) λb o e=>zag _ e,E7 a _,⟨_,zat _ rfl,rfl,rfl⟩,λb F=>?_,q⟩;have e:b=B.heap.objs.size:=by simpa using F
 subst e;exact z.fpOk (zao _) (z.hok.fresh (zao _))
theorem TQ{l:Expr}{tl:TE}(J:PE X l tl):PI X tg l (ZH X.K tl):=by
 intro pins s σ H R I h;refine bN (J pins s σ H _ I h) λv z ⟨x,H1,B,U,N⟩=>?_
 obtain⟨a,e,⟨xs,M⟩,q⟩:=N;subst e;cases U;obtain⟨F,W,p,hz⟩:=B.tuple M;refine zbQ (show z.heap.IsTuple a F.toArray from p) ?_;refine⟨z.heap.objs.size,[z.heap.objs.size],_,_,H1,rfl,B.kept (t':=z.toks) λb o e=>zag _ e,AM a _,⟨_,zat _ rfl,rfl,rfl⟩,λb G=>?_,q⟩;have e:b=z.heap.objs.size:=by simpa using G
 subst e;exact B.fpOk (zao _) (B.hok.fresh (zao _))
theorem zH{pins:List (Addr×Obj)}{σ:St}{H:Hp}{s:zab}{R:It->Hp->Prop}{E:Value->zab->Prop}{lo hi:Int}{t u v:Tok}{tk:Nat}(I:Inv X pins σ H s)(h1:-(2^62)<=lo)(h2:lo<2^62)(M:-(2^62)<=hi)(F:hi<2^62)
  (q:R (YH lo (hi-lo).toNat) H):wpAny (model X.prog X.w) X.A (pyIter (.ref s.heap.objs.size)) (PIE X pins σ tg R) E {s with heap:=s.heap.push {cls:=.type "range",data:=.fields #[.int lo t,.int hi u,.int 1 v]},toks:=tk}:=by
 refine wpAny_pyIter_range (IsRange.new ..) (small_one h1 h2 M F) ?_;have z:Inv X pins σ H {s with heap:=s.heap.push {cls:=.type "range",data:=.fields #[.int lo t,.int hi u,.int 1 v]},toks:=tk}:=I.kept λb o e=>zag _ e
 refine⟨(s.heap.push {cls:=.type "range",data:=.fields #[.int lo t,.int hi u,.int 1 v]}).objs.size,[(s.heap.push {cls:=.type "range",data:=.fields #[.int lo t,.int hi u,.int 1 v]}).objs.size],_,_,H,rfl,
  z.kept (t':=tk) λb o e=>zag _ e,A7 _ lo (hi-lo).toNat,?_,λb B=>?_,q⟩
 ·have J:lo+((0:Nat):Int)*1=lo:=by simp
  have G:(((hi-lo).toNat:Nat):Int)-((0:Nat):Int)=zbR lo hi 1:=by rw[rangeSize_one];split <;> lia
  show zdL _ _ (lo+((0:Nat):Int)*1) ((((hi-lo).toNat:Nat):Int)-((0:Nat):Int)) 1;rw[J,G];exact zat _ rfl
 ·have e:b=(s.heap.push {cls:=.type "range",data:=.fields #[.int lo t,.int hi u,.int 1 v]}).objs.size:=by simpa using B
  subst e;exact z.fpOk (zao _) (z.hok.fresh (zao _))
def W7(ta:TA):TI:=λσ H R=>ta σ H λvs H1=>∃j:Int,vs=[.int j]/\-(2^62)<=j/\j<2^62/\R (YH 0 j.toNat) H1
def WK(ta:TA):TI:=λσ H R=>ta σ H λvs H1=>∃i j:Int,vs=[.int i,.int j]/\(-(2^62)<=i/\i<2^62/\-(2^62)<=j/\j<2^62)/\R (YH i (j-i).toNat) H1
theorem ER{a:Expr}{ta:TA}{p pos:Pos}(M:Gl X "range")(B:X.mg "range" = none)(F:PA X [a] ta)(hs:zah [a] X.env=[(false,eval a X.env)]:=by rfl):PI X tg (.Call (.Name "range" p) [a] [] pos) (W7 ta):=by
 intro pins s σ H R I h;refine Call_ (fL I M B boot_range (zcC (bN (F pos pins s σ H _ I h) λus U ⟨vs,H1,G,J,z⟩=>?_) hs rfl));obtain⟨j,e,z,N,q⟩:=z;subst e;cases J with
 | cons r rr=>
  cases rr;obtain⟨t,rfl⟩:=r;exact call_range_1 (zH G (by lia) (by lia) z N (by simpa using q))
theorem EY{a b:Expr}{ta:TA}{p pos:Pos}(W:Gl X "range")(G:X.mg "range" = none)(J:PA X [a,b] ta)(hs:zah [a,b] X.env=[(false,eval a X.env),(false,eval b X.env)]:=by rfl)(z:zah [b] X.env=[(false,eval b X.env)]:=by rfl) :
  PI X tg (.Call (.Name "range" p) [a,b] [] pos) (WK ta):=by
 intro pins s σ H R I h;refine Call_ (fL I W G boot_range (zcC (bN (J pos pins s σ H _ I h) λus s1 ⟨vs,H1,N,U,B⟩=>?_) (by rw[hs,z]) (by rw[z];rfl)));obtain⟨i,j,e,⟨B,Y,F,M⟩,q⟩:=B;subst e;cases U with
 | cons r rr=>
  cases rr with
  | cons r' rr=>
   cases rr;obtain⟨t,rfl⟩:=r;obtain⟨t',rfl⟩:=r';exact call_range_2 (zH N B Y F M q)
def ZJ(wi:TI)(g:TG)(tb:TS):TS:=λD σ H=>wi σ H λJ H1=>∃W:Nat->Nat->St->Hp->Prop,(∃m,W 0 m σ H1)/\∀i m σ H,W i m σ H->
 (J.stop i H/\D.nx σ H)\/(J.go i H/\∃N:St->Hp->Prop,(∀q H',N q H'->∃B,B<m/\W (i+1) B q H')/\∀x H',J.yld i H x H'->g x σ H' λz H2=>tb {D with nx:=N,ct:=N,bk:=D.nx} z H2)
noncomputable def rX(fp:List Addr)(h:Heap):List (Addr×Obj):=fp.filterMap λb=>(h.get? b).map λo=>(b,o)
theorem gJ(q:b∈fp)(e:h.get? b=some o):(b,o)∈rX fp h:=List.mem_filterMap.mpr ⟨b,q,by rw[e];rfl⟩
theorem F3(F:p∈rX fp h):p.1∈fp/\h.get? p.1=some p.2:=by
 obtain⟨b,B,e⟩:=List.mem_filterMap.mp F;cases q:h.get? b with
 | none=>rw[q]at e;cases e
 | some o=>
  rw[q]at e;have z:(b,o)=p:=zaD e;subst z;exact⟨B,q⟩
theorem Inv.pinned(I:Inv X pins σ H s)(G:∀b∈fp,iI X pins H b)(F:∀b∈fp,∃o,s.heap.get? b=some o/\∀v,o.data≠.cell v):Inv X (pins++rX fp s.heap) σ H s:=
 I.pins_of λp J=>(List.mem_append.mp J).elim (λz=>I.pin p (zbF _ z)) λz=>by
  obtain⟨q,e⟩:=F3 z;obtain⟨U,M,N,_⟩:=G p.1 q;obtain⟨o,B,d⟩:=F p.1 q;rw[e]at B;cases B;exact⟨e,U,M,N,d⟩
theorem Inv.unpinned(I:Inv X (pins++pl) σ H s):Inv X pins σ H s:=I.pins_of λp q=>I.pin p (zbF _ (zdf _ q))
theorem SY{Y:Expr}{body:List Stmt}{wi:TI}{g:TG}{tb:TS}{pos:Pos}(hp:zcS (model X.prog X.w) X.A X.env X.xe)(hc:X.calm=true)(hi:PI X tg Y wi)(hg:PG X tg g)(G:PSs X body tb)
  (hs:∀x,zbS Y X.env x=pure x:=by intro _;rfl):PS X (.For tg Y body [] pos) (ZJ wi g tb):=by
 intro pins s σ H D I h;refine wpAny_For (bN (hi pins s σ H _ I h) λv s1 h1=>bN h1 λbb s2 h2=>?_) hs;obtain⟨it,fp,tn,J,H2,e,I2,T,ao,f2,W,⟨m0,w0⟩,turn⟩:=h2;subst e
 -- what stays true of the iterator's objects through the loop
 have U:∀ {H':Hp},(∀b∈fp,H' b=none)->∀b∈fp,iI X pins H' b:=λhn b G=>⟨hn b G,(f2 b G).2⟩
 refine codeAny_forLoop_any (λn s'=>∃i F H',Inv X pins F H' s'/\tn i s'.heap/\(∀b∈fp,H' b=none)/\W i n F H') ?_ m0 ⟨0,σ,H2,I2,ao,λb G=>(f2 b G).1,w0⟩;rintro n s3 ⟨i,z,H3,I3,ad,af,w3⟩;rcases turn i n z H3 w3 with⟨ae,qn⟩|⟨go,N,hN,step⟩
 ·refine zcA hp (bN (T.done X rfl rfl rfl hc i pins s3 z H3 X.xe I3 (U af) ad ae) λr s4 ⟨hr,I4⟩=>?_)
  subst hr;exact zdH ⟨z,H3,I4,qn⟩
 ·refine zcA hp (bN (T.item X rfl rfl rfl hc i pins s3 z H3 X.xe I3 (U af) ad go) λr s4 ⟨u,hr,h4⟩=>?_)
  subst hr;refine zcA hp (bN h4 λ_ s5 ⟨x,H5,I5,r5,y5,ac,ak⟩=>?_);have aj:=I5.pinned (U ak) (T.obj _ _ ac);refine zcA hp (bN (hg _ s5 z H5 x u _ aj r5 (step x H5 y5)) λ_ s6 ⟨am,H6,I6,q6⟩=>?_);refine zcA hp (bN (G _ s6 am H6 _ I6 q6) λf s7 q7=>?_);have B:∀ {q:St} {M:Hp},Inv X (pins++rX fp s5.heap) q M s7->N q M->∃m,m<n/\∃i F H',Inv X pins F H' s7/\tn i s7.heap/\(∀b∈fp,H' b=none)/\W i m F H':=λ{q M} I7 n7=>by
   obtain⟨m',hm,w7⟩:=hN q M n7;refine⟨m',hm,i+1,q,M,I7.unpinned,T.keep _ _ _ ac λb G o e=>(I7.pin (b,o) (zbF _ (zbF _ (gJ G e)))).1,λb G=>?_,w7⟩;obtain⟨o,e,d⟩:=T.obj _ _ ac b G;exact(I7.pin (b,o) (zbF _ (zbF _ (gJ G e)))).2.1
  cases f with
  | next=>obtain⟨q,M,I7,n7⟩:=q7;exact B I7 n7
  | cont=>obtain⟨q,M,I7,n7⟩:=q7;exact B I7 n7
  | brk=>obtain⟨q,M,I7,q7⟩:=q7;exact⟨q,M,I7.unpinned,q7⟩
  | ret v=>obtain⟨x7,q,M,I7,r7,q7⟩:=q7;exact⟨x7,q,M,I7.unpinned,r7,q7⟩
end
abbrev R2:=V->V->Hp->VK->Prop
def OpR(X:Cx)(f:Value->Value->Sem Value)(r:R2):Prop:=
 ∀(pins:List (Addr×Obj)) (s:zab) (σ:St) (H:Hp) (x y:V) (v u:Value) (Q:VK),Inv X pins σ H s->RelV x v->RelV y u->r x y H Q->
  wpAny (model X.prog X.w) X.A (f v u) (EP X pins σ Q) X.xe s
def qv(X:Cx)(f:Value->Sem Value)(r:V->Hp->VK->Prop):Prop:=
 ∀(pins:List (Addr×Obj)) (s:zab) (σ:St) (H:Hp) (x:V) (v:Value) (Q:VK),Inv X pins σ H s->RelV x v->r x H Q->
  wpAny (model X.prog X.w) X.A (f v) (EP X pins σ Q) X.xe s
def CallR(X:Cx)(f:Value)(r:List V->Hp->VK->Prop):Prop:=
 ∀(pins:List (Addr×Obj)) (s:zab) (σ:St) (H:Hp) (xs:List V) (us:List Value) (Q:VK),Inv X pins σ H s->Vals xs us->r xs H Q->
  wpAny (model X.prog X.w) X.A (call f us) (EP X pins σ Q) X.xe s
def VS(r:R2)(ta tb:TE):TE:=λσ H Q=>ta σ H λx H1=>tb σ H1 λy H2=>r x y H2 Q
def tUn(r:V->Hp->VK->Prop)(ta:TE):TE:=λσ H Q=>ta σ H λx H1=>r x H1 Q
def rI(C:Int->Int->Prop)(g:Int->Int->V):R2:=λx y H Q=>∃i j,x=.int i/\y=.int j/\C i j/\Q (g i j) H
def LM(g:Int->Int->V):R2:=λx y H Q=>∃i j,x=.int i/\y=.int j/\Q (g i j) H
def rU(g:Int->V):V->Hp->VK->Prop:=λx H Q=>∃i,x=.int i/\Q (g i) H
section
variable {X:Cx}{a b c:Expr}{ta tb tc:TE}{pos:Pos}
theorem U8(J:PE X a ta)(G:PE X b tb){pins:List (Addr×Obj)}{s:zab}{σ:St}{H:Hp}{R:V->V->Hp->Prop}(I:Inv X pins σ H s)
  (h:ta σ H λx H1=>tb σ H1 λy H2=>R x y H2) {Q:Value->zab->Prop} {f:Value->Value->Sem Value}
  (M:∀v u B x y H2,Inv X pins σ H2 B->RelV x v->RelV y u->R x y H2->wpAny (model X.prog X.w) X.A (f v u) Q X.xe B) :
  wpAny (model X.prog X.w) X.A (eval a X.env) (λv q=>wpAny (model X.prog X.w) X.A (eval b X.env) (λu z=>wpAny (model X.prog X.w) X.A (f v u) Q X.xe z) X.xe q) X.xe s:=by
 refine bN (J pins s σ H _ I h) λv Y ⟨x,H1,N,r1,W⟩=>?_
 refine bN (G pins Y σ H1 _ N W) λu B ⟨y,H2,U,F,q2⟩=>?_
 exact M v u B x y H2 U r1 F q2
theorem PR{op:Operator}{r:R2}(z:OpR X (zaV op) r)(J:PE X a ta)(F:PE X b tb):PE X (.BinOp a op b pos) (VS r ta tb):=by
 intro pins s σ H Q I h;exact wpAny_BinOp (U8 J F I h λv u B x y H2 M G N q=>z pins B σ H2 x y v u Q M G N q)
theorem WL{op:UnaryOp}{r:V->Hp->VK->Prop}(q:qv X (unaryOp op) r)(z:PE X a ta):PE X (.UnaryOp op a pos) (tUn r ta):=by
 intro pins s σ H Q I h;exact UnaryOp_ (bN (z pins s σ H _ I h) λv G ⟨x,H1,F,J,B⟩=>q pins G σ H1 x v Q F J B)
theorem YM{f:Value->Value->Sem Value}{C:Int->Int->Prop}{g:Int->Int->Int}
  (z:∀(i j:Int) (t u:Tok) (s:zab) (Q:Value->zab->Prop) (E:Value->zab->Prop),C i j->Q (.int (g i j) s.toks) {s with toks:=s.toks+1}->wpAny (model X.prog X.w) X.A (f (.int i t) (.int j u)) Q E s) :
  OpR X f (rI C λi j=>.int (g i j)):=by
 intro pins s σ H x y v u Q I G F h;obtain⟨i,j,rfl,rfl,B,q⟩:=h;obtain⟨t,rfl⟩:=G;obtain⟨t',rfl⟩:=F;exact z i j t t' s _ _ B ⟨.int (g i j),H,I.tok _,⟨_,rfl⟩,q⟩
theorem XH{f:Value->Value->Sem Value}{g:Int->Int->Int}
  (z:∀(i j:Int) (t u:Tok) (s:zab) (Q:Value->zab->Prop) (E:Value->zab->Prop),Q (.int (g i j) s.toks) {s with toks:=s.toks+1}->wpAny (model X.prog X.w) X.A (f (.int i t) (.int j u)) Q E s) :
  OpR X f (LM λi j=>.int (g i j)):=by
 intro pins s σ H x y v u Q I F B h;obtain⟨i,j,rfl,rfl,q⟩:=h;obtain⟨t,rfl⟩:=F;obtain⟨t',rfl⟩:=B;exact z i j t t' s _ _ ⟨.int (g i j),H,I.tok _,⟨_,rfl⟩,q⟩
theorem PN{f:Value->Value->Sem Value}{g:Int->Int->Bool}
  (z:∀(i j:Int) (t u:Tok) (s:zab) (Q:Value->zab->Prop) (E:Value->zab->Prop),Q (.bool (g i j)) s->wpAny (model X.prog X.w) X.A (f (.int i t) (.int j u)) Q E s) :
  OpR X f (LM λi j=>.bl (g i j)):=by
 intro pins s σ H x y v u Q I F B h;obtain⟨i,j,rfl,rfl,q⟩:=h;obtain⟨t,rfl⟩:=F;obtain⟨t',rfl⟩:=B;exact z i j t t' s _ _ ⟨.bl (g i j),H,I,rfl,q⟩
def O6(i j:Int):Prop:=0<j/\j<1073741824
def O9(i j:Int):Prop:=0<=j/\j<=1000000/\i.natAbs<2^64
theorem RG:OpR X (zaV .Add) (LM λi j=>.int (i+j)):=XH λ_ _ _ _ _ _ _ q=>add_int q
theorem US:OpR X (zaV .Sub) (LM λi j=>.int (i-j)):=XH λ_ _ _ _ _ _ _ q=>sub_int q
theorem L0:OpR X (zaV .FloorDiv) (rI O6 λi j=>.int (i/j)):=YM λi j _ _ _ _ _ z q=>by
 have h1:(0:Int)<j:=z.1;have h2:j<1073741824:=z.2;exact floordiv_int (by lia) (by rw[Int.fdiv_eq_ediv_of_nonneg i (by lia)];exact q) (.inl (PyProof.noPylong_small (by lia)))
theorem UA:OpR X (zaV .Mod) (rI (λ_ j=>0<j) λi j=>.int (i%j)):=YM λi j _ _ _ _ _ z q=>by
 have h1:(0:Int)<j:=z;exact mod_int' (by lia) (by rw[Int.fmod_eq_emod_of_nonneg i (by lia)];exact q)
theorem RS:OpR X (zaV .Pow) (rI O9 λi j=>.int (i^j.toNat)):=YM λ_ _ _ _ _ _ _ z q=>pow_int_small z.1 z.2.1 z.2.2 q
theorem unI{f:Value->Sem Value}{g:Int->Int}
  (z:∀(i:Int) (t:Tok) (s:zab) (Q:Value->zab->Prop) (E:Value->zab->Prop),Q (.int (g i) s.toks) {s with toks:=s.toks+1}->wpAny (model X.prog X.w) X.A (f (.int i t)) Q E s) :
  qv X f (rU λi=>.int (g i)):=by
 intro pins s σ H x v Q I B h;obtain⟨i,rfl,q⟩:=h;obtain⟨t,rfl⟩:=B;exact z i t s _ _ ⟨.int (g i),H,I.tok _,⟨_,rfl⟩,q⟩
theorem R1:qv X (unaryOp .USub) (rU λi=>.int (-i)):=unI λ_ _ _ _ _ q=>neg_int q
end
noncomputable def U7:V->V->Bool
 | .non,.non=>true | .non,.int _=>true | .int _,.non=>true | .non,.bl _=>true | .bl _,.non=>true | .non,.str _=>true | .str _,.non=>true
 | .int _,.int _=>true | .bl _,.bl _=>true | .str _,.str _=>true | .byt _,.byt _=>true
 | .int _,.str _=>true | .str _,.int _=>true | .bl _,.str _=>true | .str _,.bl _=>true
 | _,_=>false
def rEq:R2:=λx y H Q=>U7 x y=true/\Q (.bl (decide (x=y))) H
def rNe:R2:=λx y H Q=>U7 x y=true/\Q (.bl (!decide (x=y))) H
theorem DO:decide (V.int i=V.int j)=(i == j):=by
 rw[zcT];simp
theorem KG:decide (V.bl i=V.bl j)=(i == j):=by
 rw[zcT];simp
theorem DQ:decide (V.str i=V.str j)=(i == j):=by
 rw[zcT];simp
theorem CO:decide (V.byt i=V.byt j)=(i.toList == j.toList):=by
 rw[zcT];cases i;cases j;simp
section
variable {X:Cx}{a b c:Expr}{ta tb tc:TE}{pos:Pos}
theorem bC(I:Inv X pins σ H s)(q:Q (.bl k) H)(e:k=k'):EP X pins σ Q (.bool k') s:=by
 subst e;exact⟨.bl k,H,I,rfl,q⟩
theorem W5:OpR X (zaq .Eq) rEq:=by
 intro pins s σ H x y v u Q I B z h;obtain⟨hs,q⟩:=h;cases x with
 | non=>
  cases B;cases y with
  | non=>cases z;exact PySem.EqNone.eq_none_none (bC I q (by simp))
  | bl j=>cases z;exact PySem.EqNone.eq_none_bool (bC I q (by simp))
  | int j=>obtain⟨t',rfl⟩:=z;exact PySem.EqNone.eq_none_int (bC I q (by simp))
  | str j=>obtain⟨t',rfl⟩:=z;exact PySem.EqNone.eq_none_str (bC I q (by simp))
  | _=>exact absurd (show false=true from hs) zaw
 | bl i=>
  cases B;cases y with
  | non=>cases z;exact PySem.EqNone.eq_bool_none (bC I q (by simp))
  | bl j=>cases z;exact eq_bool (bC I q KG)
  | str j=>obtain⟨t',rfl⟩:=z;exact PySem.EqMixed.eq_bool_str (bC I q (by simp))
  | _=>exact absurd (show false=true from hs) zaw
 | int i=>
  obtain⟨t,rfl⟩:=B;cases y with
  | non=>cases z;exact PySem.EqNone.eq_int_none (bC I q (by simp))
  | int j=>obtain⟨t',rfl⟩:=z;exact eq_int (bC I q DO)
  | str j=>obtain⟨t',rfl⟩:=z;exact PySem.EqMixed.eq_int_str (bC I q (by simp))
  | _=>exact absurd (show false=true from hs) zaw
 | str i=>
  obtain⟨t,rfl⟩:=B;cases y with
  | non=>cases z;exact PySem.EqNone.eq_str_none (bC I q (by simp))
  | bl j=>cases z;exact PySem.EqMixed.eq_str_bool (bC I q (by simp))
  | int j=>obtain⟨t',rfl⟩:=z;exact PySem.EqMixed.eq_str_int (bC I q (by simp))
  | str j=>obtain⟨t',rfl⟩:=z;exact eq_str (bC I q DQ)
  | _=>exact absurd (show false=true from hs) zaw
 | byt i=>
  obtain⟨t,rfl⟩:=B;cases y with
  | byt j=>obtain⟨t',rfl⟩:=z;exact PySem.W.eq_bytes (bC I q CO)
  | _=>exact absurd (show false=true from hs) zaw
 | _=>cases y <;> exact absurd (show false=true from hs) zaw
theorem WZ:OpR X (zaq .NotEq) rNe:=by
 intro pins s σ H x y v u Q I B z h;obtain⟨hs,q⟩:=h;cases x with
 | non=>
  cases B;cases y with
  | non=>cases z;exact PySem.EqNone.ne_none_none (bC I q (by simp))
  | bl j=>cases z;exact PySem.EqNone.ne_none_bool (bC I q (by simp))
  | int j=>obtain⟨t',rfl⟩:=z;exact PySem.EqNone.ne_none_int (bC I q (by simp))
  | str j=>obtain⟨t',rfl⟩:=z;exact PySem.EqNone.ne_none_str (bC I q (by simp))
  | _=>exact absurd (show false=true from hs) zaw
 | bl i=>
  cases B;cases y with
  | non=>cases z;exact PySem.EqNone.ne_bool_none (bC I q (by simp))
  | bl j=>cases z;exact ne_bool (bC I q (congrArg not KG))
  | str j=>obtain⟨t',rfl⟩:=z;exact PySem.EqMixed.ne_bool_str (bC I q (by simp))
  | _=>exact absurd (show false=true from hs) zaw
 | int i=>
  obtain⟨t,rfl⟩:=B;cases y with
  | non=>cases z;exact PySem.EqNone.ne_int_none (bC I q (by simp))
  | int j=>obtain⟨t',rfl⟩:=z;exact ne_int (bC I q (congrArg not DO))
  | str j=>obtain⟨t',rfl⟩:=z;exact PySem.EqMixed.ne_int_str (bC I q (by simp))
  | _=>exact absurd (show false=true from hs) zaw
 | str i=>
  obtain⟨t,rfl⟩:=B;cases y with
  | non=>cases z;exact PySem.EqNone.ne_str_none (bC I q (by simp))
  | bl j=>cases z;exact PySem.EqMixed.ne_str_bool (bC I q (by simp))
  | int j=>obtain⟨t',rfl⟩:=z;exact PySem.EqMixed.ne_str_int (bC I q (by simp))
  | str j=>obtain⟨t',rfl⟩:=z;exact ne_str (bC I q (congrArg not DQ))
  | _=>exact absurd (show false=true from hs) zaw
 | byt i=>
  obtain⟨t,rfl⟩:=B;cases y with
  | byt j=>obtain⟨t',rfl⟩:=z;exact PySem.W.ne_bytes (bC I q (congrArg not CO))
  | _=>exact absurd (show false=true from hs) zaw
 | _=>cases y <;> exact absurd (show false=true from hs) zaw
theorem VY:OpR X (zaq .Lt) (LM λi j=>.bl (decide (i<j))):=PN λ_ _ _ _ _ _ _ q=>lt_int q
theorem WM:OpR X (zaq .LtE) (LM λi j=>.bl (decide (i<=j))):=PN λ_ _ _ _ _ _ _ q=>le_int q
theorem WH:OpR X (zaq .Gt) (LM λi j=>.bl (decide (j<i))):=PN λ_ _ _ _ _ _ _ q=>gt_int q
theorem WD:OpR X (zaq .GtE) (LM λi j=>.bl (decide (j<=i))):=PN λ_ _ _ _ _ _ _ q=>ge_int q
theorem FW:OpR X (zaq .In) (λx y H Q=>∃i j,x=.str i/\y=.str j/\Q (.bl (!(zdM j i 0 j.length 1).isEmpty)) H):=by
 intro pins s σ H x y v u Q I B z h;obtain⟨i,j,rfl,rfl,q⟩:=h;obtain⟨t,rfl⟩:=B;obtain⟨t',rfl⟩:=z;exact in_str (bC I q rfl)
theorem SH:OpR X (zaq .Is) (λx y H Q=>y=.non/\Q (.bl (decide (x=.non))) H):=by
 intro pins s σ H x y v u Q I z B h;obtain⟨rfl,q⟩:=h;cases B;refine is_none_gen (bC I q ?_);cases x <;> first
  | (cases z;rfl)
  | (obtain⟨t,rfl⟩:=z;rfl)
theorem MH:OpR X (zaq .IsNot) (λx y H Q=>y=.non/\Q (.bl (!decide (x=.non))) H):=by
 intro pins s σ H x y v u Q I z B h;obtain⟨rfl,q⟩:=h;cases B;refine isnot_none_gen (bC I q ?_);cases x <;> first
  | (cases z;rfl)
  | (obtain⟨t,rfl⟩:=z;rfl)
theorem OpR.or(h:OpR X f r)(h':OpR X f r'):OpR X f (λx y H Q=>r x y H Q\/r' x y H Q):=by
 intro pins s σ H x y v u Q I B z q;rcases q with q|q
 ·exact h pins s σ H x y v u Q I B z q
 ·exact h' pins s σ H x y v u Q I B z q
theorem JS(b:Expr)(h:op≠.In:=by decide)(h2:op≠.NotIn:=by decide):zcd op b=false:=by
 have q:(op == CmpOp.In)=false:=by cases op <;> first|rfl|exact absurd rfl h
 have z:(op == CmpOp.NotIn)=false:=by cases op <;> first|rfl|exact absurd rfl h2
 cases b <;> simp[zcd,q,z]
theorem OG(z:OpR X (zaq op) r)(M:PE X a ta)(F:PE X b tb)(G:zcd op b=false):PE X (.Compare a [op] [b] pos) (VS r ta tb):=by
 intro pins s σ H Q I h;exact wpAny_Compare1 (U8 M F I h λv u B x y H2 N J U q=>z pins B σ H2 x y v u Q N J U q) G
def K9(t:TE):TT:=λσ H Q=>t σ H λx H'=>∃k,x=.bl k/\Q k H'
theorem DT{op:CmpOp}{r:R2}(q:OpR X (zaq op) r)(W:PE X a ta)(G:PE X b tb)(M:zcd op b=false):PT X (.Compare a [op] [b] pos) (K9 (VS r ta tb)):=by
 intro pins s σ H Q I h;refine wpAny_isTrue_Compare1 (bN (W pins s σ H _ I h) λv s1 ⟨x,H1,Y,r1,q1⟩=>bN (G pins s1 σ H1 _ Y q1) λu B ⟨y,H2,I2,J,q2⟩=>
  bN (q pins B σ H2 x y v u _ I2 r1 J q2) λc s3 ⟨z,H3,U,N,k,e,F⟩=>?_) M
 subst e;cases N;exact zbD ⟨H3,U,F⟩
def B4(r F:R2)(ta tb tc:TE):TE:=λσ H Q=>ta σ H λx H1=>tb σ H1 λy H2=>r x y H2 λz q=>∃k,z=.bl k /\
 (if k=true then tc σ q λB G=>F y B G Q else Q (.bl false) q)
theorem GY{op q:CmpOp}{r M:R2}(ho:OpR X (zaq op) r)(B:OpR X (zaq q) M)(ha:PE X a ta)(hb:PE X b tb)(hc:PE X c tc)
  (U:zcU [op,q] [b,c]=false:=by with_unfolding_all rfl):PE X (.Compare a [op,q] [b,c] pos) (B4 r M ta tb tc):=by
 intro pins s σ H Q I h;refine Compare_chain (bN (ha pins s σ H _ I h) λv W ⟨x,H1,I1,r1,q1⟩=>chain_link (bN (hb pins W σ H1 _ I1 q1) λu s2 ⟨y,H2,I2,J,q2⟩=>
  bN (ho pins s2 σ H2 x y v u _ I2 r1 J q2) λd Y ⟨z,N,F,r3,k,e,G⟩=>?_)) U
 subst e;cases r3;refine zbD ?_;cases k with
 | false=>exact ite_ff ⟨.bl false,N,F,rfl,G⟩
 | true=>exact ite_tt (chain_last (bN (hc pins Y σ N _ F G) λw' s4 ⟨z',H4,I4,r4,q4⟩=>B pins s4 σ H4 y z' u w' Q I4 J r4 q4))
theorem IU{op q:CmpOp}{r M:R2}(ho:OpR X (zaq op) r)(B:OpR X (zaq q) M)(ha:PE X a ta)(hb:PE X b tb)(hc:PE X c tc)
  (U:zcU [op,q] [b,c]=false:=by with_unfolding_all rfl):PT X (.Compare a [op,q] [b,c] pos) (K9 (B4 r M ta tb tc)):=by
 intro pins s σ H Q I h;refine isTrue_chain (bN (ha pins s σ H _ I h) λv Y ⟨x,H1,I1,r1,q1⟩=>test_link (bN (hb pins Y σ H1 _ I1 q1) λu s2 ⟨y,H2,I2,J,q2⟩=>
  bN (ho pins s2 σ H2 x y v u _ I2 r1 J q2) λd s3 ⟨z,N,F,r3,k,e,G⟩=>?_)) U
 subst e;cases r3;refine zbD ?_;cases k with
 | false=>
  obtain⟨k',e',q'⟩:=G;cases e';exact ite_ff ⟨N,F,q'⟩
 | true=>
  refine ite_tt (test_last (bN (hc pins s3 σ N _ F G) λw' s4 ⟨z',H4,I4,r4,q4⟩=>bN (B pins s4 σ H4 y z' u w' _ I4 J r4 q4) λd' s5 ⟨z2,H5,I5,r5,k2,e2,W⟩=>?_));subst e2;cases r5;exact zbD ⟨H5,I5,W⟩
theorem rT:(zaj:Nat)<2^63:=by rw[zce];decide
theorem BA:OpR X (zaV .Add) (λx y H Q=>∃i j,x=.str i/\y=.str j/\i.length+j.length<=zaj/\Q (.str (i++j)) H):=by
 intro pins s σ H x y v u Q I B z h;obtain⟨i,j,rfl,rfl,hz,q⟩:=h;obtain⟨t,rfl⟩:=B;obtain⟨t',rfl⟩:=z;exact add_str (λt' tk=>⟨.str (i++j),H,I.tok _,⟨_,rfl⟩,q⟩) hz
theorem vals1(r:Vals [x] us):∃u,us=[u]/\RelV x u:=by
 cases r with
 | cons r1 r2=>cases r2;exact⟨_,rfl,r1⟩
theorem vals2(r:Vals [x,y] us):∃u q,us=[u,q]/\RelV x u/\RelV y q:=by
 cases r with
 | cons r1 r2=>
  cases r2 with
  | cons r3 r4=>cases r4;exact⟨_,_,rfl,r1,r3⟩
theorem GD(B:X.calm=true):CallR X (.builtin "max") (λxs H Q=>∃i j,xs=[.int i,.int j]/\Q (.int (if j>i then j else i)) H):=by
 intro pins s σ H xs us Q I r h;obtain⟨i,j,rfl,q⟩:=h;obtain⟨u,F,rfl,⟨t,rfl⟩,⟨t',rfl⟩⟩:=vals2 r;refine max_two_ints (I.ok.hd B) λh' tk k=>⟨_,H,I.kept k,?_,q⟩
 by_cases z:j>i
 ·rw[if_pos z,if_pos z];exact⟨_,rfl⟩
 ·rw[if_neg z,if_neg z];exact⟨_,rfl⟩
theorem FG(B:X.calm=true):CallR X (.builtin "min") (λxs H Q=>∃i j,xs=[.int i,.int j]/\Q (.int (if j<i then j else i)) H):=by
 intro pins s σ H xs us Q I r h;obtain⟨i,j,rfl,q⟩:=h;obtain⟨u,F,rfl,⟨t,rfl⟩,⟨t',rfl⟩⟩:=vals2 r;refine min_two_ints (I.ok.hd B) λh' tk k=>⟨_,H,I.kept k,?_,q⟩
 by_cases z:j<i
 ·rw[if_pos z,if_pos z];exact⟨_,rfl⟩
 ·rw[if_neg z,if_neg z];exact⟨_,rfl⟩
theorem F6:CallR X (.type "int") (λxs H Q=>(∃i,xs=[.int i]/\Q (.int i) H)\/∃k,xs=[.bl k]/\Q (.int (if k then 1 else 0)) H):=by
 intro pins s σ H xs us Q I r h;rcases h with⟨i,rfl,q⟩|⟨k,rfl,q⟩
 ·obtain⟨u,rfl,t,rfl⟩:=vals1 r
  exact call_int_int ⟨.int i,H,I,⟨_,rfl⟩,q⟩
 ·obtain⟨u,rfl,z⟩:=vals1 r
  cases z;exact call_int_bool ⟨.int (if k then 1 else 0),H,I.tok _,⟨_,rfl⟩,q⟩
def ZC(K:zaf)(x:V)(H:Hp)(n:Nat):Prop:=
 match x with
 | .str y=>y.length<=zaj/\n=y.length
 | .byt y=>y.size<=zaj/\n=y.size
 | .ref p=>(∃xs,SqL K H p xs/\n=xs.length)\/∃xs,SqT K H p xs/\n=xs.length
 | _=>False
theorem rA:CallR X (.builtin "len") (λxs H Q=>∃x n,xs=[x]/\ZC X.K x H n/\Q (.int n) H):=by
 intro pins s σ H xs us Q I r h;obtain⟨x,n,rfl,e,q⟩:=h;obtain⟨u,rfl,G⟩:=vals1 r;have Y:=rT;have hs:zaj=16777216:=zce;cases x with
 | str y=>
  obtain⟨t,rfl⟩:=G;obtain⟨U,B⟩:y.length<=zaj/\n=y.length:=e;subst B;exact len_str (by lia) ⟨.int _,H,I.tok _,⟨_,rfl⟩,q⟩
 | byt y=>
  obtain⟨t,rfl⟩:=G;obtain⟨U,B⟩:y.size<=zaj/\n=y.size:=e;subst B;exact PySem.W.len_bytes (by lia) ⟨.int _,H,I.tok _,⟨_,rfl⟩,q⟩
 | ref p=>
  cases G;have B:(∃xs,SqL X.K H p xs/\n=xs.length)\/∃xs,SqT X.K H p xs/\n=xs.length:=e;rcases B with⟨xs,M,B⟩|⟨xs,M,B⟩
  ·subst B
   obtain⟨N,J,F,hz⟩:=I.list M;have z:=J.length;exact Calls.call_len_list F.isList (by simp only[zaA];lia) ⟨.int xs.length,H,I.tok _,⟨_,by simp only[zaA];rw[z]⟩,q⟩
  ·subst B
   obtain⟨N,J,F,hz⟩:=I.tuple M;have z:=J.length;exact len_tuple F (by simp only[zaA];lia) ⟨.int xs.length,H,I.tok _,⟨_,by simp only[zaA];rw[z]⟩,q⟩
 | _=>exact(show False from e).elim
end
structure ObjM(h:Heap)(x dx C:Addr)(mA:Str->Option Value):Prop where
 obj:h.get? x=some (zeG C dx)
 ns:h.Ns1 dx mA
 ne:dx≠x
theorem FV{h:Heap}{dx:Addr}{mA:Str->Option Value}(n:h.Ns1 dx mA):∃od,h.get? dx=some od/\∀name,PySem.W.lookIn name od=some (mA name):=by
 obtain⟨o,es,ep,J,F,U,_,M⟩:=n;refine⟨o,J,λname=>?_⟩;have e:=M name;unfold nsFind findBy at e;rw[<- Array.find?_toList]at e;unfold PySem.W.lookIn;rw[F];dsimp only;split
 ·rename_i y q
  rw[q]at e;exact congrArg some e
 ·rename_i q
  rw[q]at e;have a:es.toList.any (·.refKey)=false:=by
   rw[List.any_eq_false];intro y N;obtain⟨z,t,B⟩:=U y (Array.mem_toList_iff.mp N);simp[DictEntry.refKey,B]
  have G:¬ es.toList.any (·.refKey)=true:=by rw[a];exact zaw
  rw[if_neg G];exact congrArg some e
theorem ObjM.look(I:ObjM h x dx C mA):∃od,PySem.W.InstAt h x (zeG C dx) C (some od)/\∀name,PySem.W.lookIn name od=some (mA name):=
 let ⟨od,ho,hl⟩:=FV I.ns
 ⟨od,⟨I.obj,rfl,rfl,ho⟩,hl⟩
section
variable {prog:zap}{w:World}{A:zas}{E:Value->zab->Prop}{s:zab}{K:zaf}{x dx C f:Addr}{mA:Str->Option Value}{name:Str}{v:Value}
end
theorem RelO.some_of(r:RelO (some v) o):∃u,o=some u/\RelV v u:=by
 cases o with
 | none=>exact(show False from r).elim
 | some u=>exact⟨u,rfl,r⟩
section
variable {P:zap}{w:World}{H H':Hp}{h h':Heap}{a C dx:Addr}{fs fs':List (Str×V)}
theorem OU(B:HOk P w H h)(e:H a=some (.ins C dx fs)):∃mA,ObjM h a dx C mA/\(∀f,RelO (fs.lookup f) (mA f))/\PySem.Within mA (fs.map (·.1))/\fs.length<=1000/\H dx=some (.own a):=by
 obtain⟨d,z,ne,ob,mA,n,r,q⟩:=(show ObjOk P w H h a (.ins C dx fs)from B a _ e);exact⟨mA,⟨ob,n,ne⟩,r,q,z,d⟩
end
structure Cls(K:zaf)(C:Addr):Prop where
 pg:PySem.W.plainGet K C Str.empty=true
 hd:PySem.W.hasDictIn K C=true
 po:PySem.W.plainOver K C=true
 sa:PySem.W.findIn K (.ref C) "__setattr__" = some (some (.builtin "object.__setattr__"))
theorem Cls.get{K:zaf}{C:Addr}(c:Cls K C)(f:Str):PySem.W.plainGet K C f=true:=c.pg
section
variable {X:Cx}{pins:List (Addr×Obj)}{σ:St}{H:Hp}{s:zab}{a C dx:Addr}{fs:List (Str×V)}{f:Str}{v:V}{A:zas}{E:Value->zab->Prop}
end
section
variable {X:Cx}{o e value:Expr}{f:Str}{pos pos' tpos:Pos}{ta tv:TE}
end
section
variable {X:Cx}{pins:List (Addr×Obj)}{σ:St}{H:Hp}{s:zab}{A:zas}{E:Value->zab->Prop}{Q:Value->zab->Prop}{c:Value}{b:Bool}
inductive TyOf(K:zaf)(H:Hp):V->Value->Prop where
 | non:TyOf K H .non (.type "NoneType")
 | bl (x:Bool):TyOf K H (.bl x) (.type "bool")
 | int (i:Int):TyOf K H (.int i) (.type "int")
 | str (x:Str):TyOf K H (.str x) (.type "str")
 | flt (x:UInt64):TyOf K H (.flt x) (.type "float")
 | lst {a:Addr} {xs:List V} (e:H a=some (.lst xs)):TyOf K H (.ref a) (.type "list")
 | frz {a:Addr} {o:Obj} {xs:List V} (e:H a=some (.frz o (.lst xs))):TyOf K H (.ref a) (.type "list")
 | tup {a:Addr} {xs:List V} (e:H a=some (.tup xs)):TyOf K H (.ref a) (.type "tuple")
 | dK {a:Addr} {kvs:List (Key×V)} (e:H a=some (.dK kvs)):TyOf K H (.ref a) (.type "dict")
 | dT {a:Addr} {kvs:List (List Key×V)} (e:H a=some (.dT kvs)):TyOf K H (.ref a) (.type "dict")
 | ins {a C dx:Addr} {fs:List (Str×V)} (e:H a=some (.ins C dx fs)) (cl:Cls K C) (ha:PySem.W.findIn K (.ref C) "__class__" = some (some (.builtin "object.__class__")))
   (hn:PySem.W.specialIn K (.builtin "object.__class__") "__get__" = some (some (.builtin "getset_descriptor.__get__"))) (htk:PySem.W.takesIn K (.builtin "object.__class__")=some true)
   (hm:PySem.W.mroIn K C (.type "object")=some true):TyOf K H (.ref a) (.ref C)
theorem GB(I:Inv X pins σ H s)(B:RelV x u)(ty:TyOf X.K H x t)(e:zdi X.K t c=some b)(h:∀tk,Q (.bool b) {s with toks:=tk}) :
  wpAny (model X.prog X.w) A (call (.builtin "isinstance") [u,c]) Q E s:=by
 cases ty with
 | non=>cases(show u=zaM from B);exact zby PySem.W.kitx_none I.kIn zbh e (λz=>nomatch z) h
 | bl y=>cases(show u=zco y from B);exact zby PySem.W.kitx_bool I.kIn zbh e (λz=>nomatch z) h
 | int i=>obtain⟨t,q⟩:=(show ∃t,u=Value.int i t from B);cases q;exact zby PySem.W.kitx_int I.kIn zbh e (λz=>nomatch z) h
 | str y=>obtain⟨t,q⟩:=(show ∃t,u=Value.str y t from B);cases q;exact zby PySem.W.kitx_str I.kIn zbh e (λz=>nomatch z) h
 | flt y=>obtain⟨t,q⟩:=(show ∃t,u=Value.float y t from B);cases q;exact zby PySem.W.kitx_float I.kIn zbh e (λz=>nomatch z) h
 | @lst a xs ea=>
  cases(show u=zan a from B);obtain⟨_,_,n,_,h1⟩:=(show ObjOk X.prog X.w H s.heap a (.lst xs)from I.hok a _ ea);exact zby PySem.W.kitx_list I.kIn ⟨_,h1,rfl⟩ e (λz=>nomatch z) h
 | @frz a ob xs ea=>
  cases(show u=zan a from B);obtain⟨_,_,_,n,_,h1⟩:=(show ObjOk X.prog X.w H s.heap a (.frz ob (.lst xs))from I.hok a _ ea);exact zby PySem.W.kitx_list I.kIn ⟨_,h1,rfl⟩ e (λz=>nomatch z) h
 | @tup a xs ea=>
  cases(show u=zan a from B);obtain⟨_,_,_,p⟩:=(show ObjOk X.prog X.w H s.heap a (.tup xs)from I.hok a _ ea);obtain⟨o,h1,h2,_⟩:=p;exact zby PySem.W.kitx_tuple I.kIn ⟨o,h1,h2⟩ e (λz=>nomatch z) h
 | @dK a kvs ea=>
  cases(show u=zan a from B);obtain⟨_,_,vs,_,p⟩:=(show ObjOk X.prog X.w H s.heap a (.dK kvs)from I.hok a _ ea);obtain⟨o,es,ep,h1,h2,_⟩:=p;exact zby zdN I.kIn ⟨o,h1,h2.1⟩ e (λz=>nomatch z) h
 | @dT a kvs ea=>
  cases(show u=zan a from B);obtain⟨_,_,xs,_,o,es,ep,h1,h2,_⟩:=(show ObjOk X.prog X.w H s.heap a (.dT kvs)from I.hok a _ ea);exact zby zdN I.kIn ⟨o,h1,h2.1⟩ e (λz=>nomatch z) h
 | @ins a C dx fs ea cl ha hn htk hm=>
  cases(show u=zan a from B);obtain⟨mA,O,_⟩:=OU I.hok ea;obtain⟨od,J,_⟩:=O.look;exact zby (PySem.W.kitx_own (cl.get _) cl.hd ha hn htk hm) I.kIn J e (λz=>nomatch z) h
end
structure Room(k:Nat)(A:zas):Prop where
 hd:A.handled=none
 dp:A.depth+3*k+5<recursionLimit
 un:A.units+16*k+200<cLine
theorem Room.mono(r:Room k A)(h:j<=k):Room j A:=⟨r.hd,by have:=r.dp;lia,by have:=r.un;lia⟩
theorem Room.deeper(r:Room (k+1) A)(env:Env):Room k (A.deeper env):=
 ⟨r.hd,by have:=r.dp;show A.depth+1+3*k+5<_;lia,by have:=r.un;show A.units+3+16*k+200<_;lia⟩
theorem Room.depth(r:Room k A):A.depth<recursionLimit:=by have:=r.dp;lia
theorem Room.units(r:Room k A):A.units+64<cLine:=by have:=r.un;lia
theorem Room.units0(r:Room k A):A.units<cLine:=by have:=r.un;lia
def VA:TA:=λ_ H Q=>Q [] H
def D9(ta:TE)(q:TA):TA:=λσ H Q=>ta σ H λx H1=>q σ H1 λxs H2=>Q (x::xs) H2
section
variable {X:Cx}{e:Expr}{es:List Expr}{te:TE}{t:TA}{pos:Pos}
theorem mD:PA X [] VA:=λ_ _ _ _ H Q I h=>zeJ ⟨[],H,I,.nil,h⟩
theorem gK(B:PE X e te)(z:PA X es t)(hs:zah (e::es) X.env=(false,eval e X.env)::zah es X.env:=by rfl):PA X (e::es) (D9 te t):=by
 intro pos pins s σ H Q I h;rw[hs];show wpAny _ _ (spliced ((false,eval e X.env)::zaJ pos (zah es X.env))) _ _ s;refine zdO (bN (B pins s σ H _ I h) λu M ⟨x,H1,F,N,J⟩=>?_);exact bN (z pos pins M σ H1 _ F J) λus W ⟨xs,H2,G,q,U⟩=>⟨x::xs,H2,G,.cons N q,U⟩
def ZO(t:TA):TE:=λσ H Q=>t σ H λxs H1=>xs.length<=zaj/\∀p,H1 p=none->Q (.ref p) (upd H1 p (.tup xs))
def ZR(t:TA):TE:=λσ H Q=>t σ H λxs H1=>xs.length<=zaj/\∀p,H1 p=none->Q (.ref p) (upd H1 p (.lst xs))
theorem Q8{x1}(h:PA X es t):PE X (.Tuple es x1 pos) (ZO t):=by
 intro pins s σ H Q I J;refine wpAny_Tuple_spliced (bN (h pos pins s σ H _ I J) λus B ⟨xs,H1,F,r,z,q⟩=>⟨by rw[<- r.length];exact z,?_⟩);have G:H1 B.heap.objs.size=none:=F.hok.fresh (zao _);refine⟨.ref B.heap.objs.size,upd H1 B.heap.objs.size (.tup xs),F.laid (t':=B.toks) (λb u e=>zag _ e) (zao _) ?_,rfl,q _ G⟩;exact⟨z,us,r,⟨_,zat _ rfl,rfl,_,rfl,rfl⟩⟩
theorem TL(h:PA X es t):PE X (.List es pos) (ZR t):=by
 intro pins s σ H Q I J;refine wpAny_List_spliced (bN (h pos pins s σ H _ I J) λus B ⟨xs,H1,F,r,z,q⟩=>⟨by rw[<- r.length];exact z,?_⟩);have G:H1 B.heap.objs.size=none:=F.hok.fresh (zao _);refine⟨.ref B.heap.objs.size,upd H1 B.heap.objs.size (.lst xs),F.laid (t':=B.toks) (λb u e=>zag _ e) (zao _) ?_,rfl,q _ G⟩;exact⟨z,us,0,r,zat _ rfl⟩
end
abbrev Sp:=List V->Hp->VK->XK->Prop
abbrev GQ:=List Env->Hp->zab->XK->Value->zab->Prop
structure Env0(P:zap)(w:World)(K:zaf)(mg:Str->Option Value)(base:Heap)(A:zas)(outer:List Env)(s:zab)(H:Hp):Prop where
 frames:A.frames=some outer
 mod:Mod K mg base
 bs:∀b o,base.get? b=some o->s.heap.get? b=some o/\H b=none
 bsz:base.objs.size<=s.heap.objs.size
 funs:s.heap.FunFrames base outer
 frf:∀b∈frs outer,H b=none
 hok:HOk P w H s.heap
 bare:zcb s.gens
def CE(q:List Env)(P:zap)(w:World)(H:Hp)(s:zab)(Q:VK)(u:Value)(s':zab):Prop:=
 ∃v H',s'.os=s.os/\zcb s'.gens/\Un (frs q) [] H H' s.heap s'.heap/\HOk P w H' s'.heap/\RelV v u/\Q v H'
def CR(CX:GQ)(outer:List Env)(P:zap)(w:World)(H:Hp)(s:zab)(Q:VK)(E:XK)(r:Result)(s':zab):Prop:=
 match r with
 | .ok (.ret u)=>CE outer P w H s Q u s'
 | .ok _=>False
 | .error e=>CX outer H s E e s'
structure FnOk(P:zap)(w:World)(K:zaf)(mg:Str->Option Value)(base:Heap)(CX:GQ)(k:Nat)(f:Addr)(fd:zbr)(ps:List Str)(sp:Sp):Prop where
 len:∀vs H Q E,sp vs H Q E->vs.length=ps.length
 run:∀(A:zas) (outer:List Env) (s:zab) (H:Hp) (args:Args) (us:List Value) (vs:List V) (Q:VK) (E:XK),Room k A->Env0 P w K mg base A outer s H->BindsTo s fd args (ps.zip us)->Vals vs us->sp vs H Q E->
  zbs (model P w) A (.call (.ref f) args) (CR CX outer P w H s Q E) s
theorem FnOk.mono{P:zap}{w:World}{K:zaf}{mg:Str->Option Value}{base:Heap}{CX:GQ}{j k:Nat}{f:Addr}{fd:zbr}{ps:List Str}{sp:Sp}(F:FnOk P w K mg base CX j f fd ps sp)(h:j<=k) :
  FnOk P w K mg base CX k f fd ps sp:=⟨F.len,λA q s H args us vs Q E z=>F.run A q s H args us vs Q E (z.mono h)⟩
section
variable {X:Cx}{pins:List (Addr×Obj)}{σ:St}{H:Hp}{s s':zab}
theorem Inv.env0(I:Inv X pins σ H s):Env0 X.prog X.w X.K X.mg X.base X.A X.stack s H:=
 ⟨I.ok.frames,I.ok.mod,I.bs,zbe I.ok.bsz I.sz,I.stack,I.stkFree,I.hok,I.bare⟩
theorem Inv.after(I:Inv X pins σ H s)(h:CE X.stack X.prog X.w H s Q u s'):EP X pins σ Q u s':=by
 obtain⟨v,H',os,B,un,G,r,q⟩:=h;obtain⟨J,g,d,t,F⟩:=s';obtain rfl:F=s.os:=os;exact⟨v,H',I.call (h':=J) (g':=g) (d':=d) (t':=t) (ch:=[]) un G B (λb z=>absurd z (by simp)),r,q⟩
end
def WG(sp:Sp)(dvs:List V)(E:XK)(t:TA):TE:=λσ H Q=>t σ H λvs H1=>sp (vs++dvs) H1 Q E
def Binds(K:zaf)(fd:zbr)(ps:List Str)(ds:List Value):Prop:=
 ∀(s:zab) (us:List Value),K.In s.heap->(us++ds).length=ps.length->BindsTo s fd ⟨us,[]⟩ (ps.zip (us++ds))
theorem Binds.all{K:zaf}{fd:zbr}{ps:List Str}(h:∀us:List Value,us.length=ps.length->bindArgs fd ⟨us,[]⟩=pure (ps.zip us)):Binds K fd ps []:=λs us _ q=>by
 rw[zcr]at q ⊢;exact .of_eq (h us q)
def B1(CX:GQ)(X:Cx)(E:XK):Prop:=∀(pins:List (Addr×Obj)) (σ:St) (H:Hp) (s:zab) (e:Value) (s':zab),Inv X pins σ H s->CX X.stack H s E e s'->X.xe e s'
section
variable {X:Cx}{CX:GQ}{k:Nat}{f C:Addr}{fd:zbr}{ps:List Str}{sp:Sp}{dvs:List V}{ds:List Value}{E:XK}{x m:Str}{p pos apos:Pos}{e o:Expr}{es:List Expr}{ta:TE}{t:TA}
theorem QU(F:FnOk X.prog X.w X.K X.mg X.base CX k f fd ps sp)(J:Room k X.A)(G:Binds X.K fd ps ds)(B:Vals dvs ds)(M:B1 CX X E)
  (I:Inv X pins σ H s) (r:Vals vs us) (h:sp (vs++dvs) H Q E):wpAny (model X.prog X.w) X.A (call (.ref f) us) (EP X pins σ Q) X.xe s:=by
 have z:Vals (vs++dvs) (us++ds):=r.append B;have N:(us++ds).length=ps.length:=by rw[<- z.length];exact F.len _ _ _ _ h
 refine wpAny_call (zdP (F.run X.A X.stack s H ⟨us,[]⟩ (us++ds) (vs++dvs) Q E J I.env0 (G s us I.kIn N) z h) λr s' q=>?_);cases r with
 | error e=>exact M pins σ H s e s' I q
 | ok fl=>
  cases fl with
  | ret u=>exact I.after q
  | next=>exact zbE q
  | brk=>exact zbE q
  | cont=>exact zbE q
theorem ML(F:FnOk X.prog X.w X.K X.mg X.base CX k f fd ps sp)(Y:Room k X.A)(hg:Gl X x)(N:X.mg x=some (.ref f))(hk:zcs X.K (.ref f)=true)(M:Binds X.K fd ps ds)(J:Vals dvs ds)(hx:B1 CX X E)
  (ha:PA X (e::es) t) (B:(x == ("__debug__" : Str))=false:=by decide) (U:zah (e::es) X.env=(false,eval e X.env)::zah es X.env:=by rfl) (z:(zaJ pos (zah es X.env)).any (·.1)=false:=by rfl) :
  PE X (.Call (.Name x p) (e::es) [] pos) (WG sp dvs E t):=by
 intro pins s σ H Q I h;refine zdQ (C5 I hg N ?_ B);refine PySem.W.callWith_K (h₀:=X.base) I.ok.mod.kin hk (bN (ha pos pins s σ H _ I h) λus s1 ⟨vs,H1,G,r,q⟩=>⟨G.kIn,?_⟩) U z;exact QU F Y M J hx G r q
structure Mk(K:zaf)(C f:Addr):Prop where
 makes:PySem.W.makesIn K C=true
 init:PySem.W.findIn K (.ref C) "__init__" = some (some (.ref f))
 fn:PySem.W.isFn K (.ref f)=true
 kp:zcs K (.ref C)=true
end
def PK(X:Cx)(kws:List zbG)(t:TA):Prop:=
 ∀(pos:Pos) (pins:List (Addr×Obj)) (s:zab) (σ:St) (H:Hp) (Q:List V->Hp->Prop),Inv X pins σ H s->t σ H Q->wpAny (model X.prog X.w) X.A (evalAll ((zcD pos (zcE kws X.env)).map (·.2))) (AP X pins σ Q) X.xe s
section
variable {X:Cx}{CX:GQ}{k:Nat}{f C:Addr}{fd:zbr}{ps ks:List Str}{sp:Sp}{E:XK}{x m:Str}{p pos apos kpos:Pos}{e o:Expr}{es:List Expr}{kws:List zbG}{te ta:TE}{t tk:TA}{nm:Option Str}
theorem SK:PK X [] VA:=λ_ _ _ _ H Q I h=>wpAny_evalAll_nil ⟨[],H,I,.nil,h⟩
theorem OX(B:PE X e te)(z:PK X kws t):PK X (⟨nm,e,kpos⟩::kws) (D9 te t):=by
 intro pos pins s σ H Q I h;show wpAny _ _ (evalAll ((do let v <- eval e X.env;standAt pos;pure v)::(zcD pos (zcE kws X.env)).map (·.2))) _ _ s;refine wpAny_evalAll_cons (zaa (bN (B pins s σ H _ I h) λu M ⟨x,H1,F,N,J⟩=>zaa (zdh (zac ?_))));exact bN (z pos pins M σ H1 _ F J) λus W ⟨xs,H2,G,q,U⟩=>⟨x::xs,H2,G,.cons N q,U⟩
variable {g:List Value->List Value->List Value}{gV:List V->List V->List V}
end
structure FnScope(N P:List Str)(sc:Scope):Prop where
 kind:sc.kind=.function
 co:sc.isCoroutine=false
 gen:sc.isGenerator=false
 nd:N.Nodup
 pre:N.take P.length=P
 par:∀x∈P,sc.names.lookup x=some .local\/sc.names.lookup x=some .cell
 nofree:∀y∈sc.names,y.2≠.free
theorem uG{zbt:Str->Option zbY}:∀ {binds:List (Str×Value)} {m:Str->Option Value},(∀v,(x,v)∉binds)->bindL zbt binds m x=m x
 | [],_,_=>rfl
 | (n,v)::r,m,h=>by
  unfold bindL;rw[uG λw hw=>h w (zav _ hw)];split
  ·have:x≠n:=by rintro rfl;exact h v zau
   simp[this]
  ·rfl
theorem tU{zbt:Str->Option zbY}:∀ {binds:List (Str×Value)} {m:Str->Option Value},(∀v,(x,v)∉binds)->bindC zbt binds m x=m x
 | [],_,_=>rfl
 | (n,v)::r,m,h=>by
  unfold bindC;rw[tU λw hw=>h w (zav _ hw)];split
  ·rfl
  ·have:x≠n:=by rintro rfl;exact h v zau
   simp[this]
theorem tY{zbt:Str->Option zbY}{x:Str}{v:Value}:∀ {P:List Str} {vs:List Value} {i:Nat} {m:Str->Option Value},P.Nodup->P[i]?=some x->vs[i]?=some v->zbt x=some .local->
  bindL zbt (P.zip vs) m x=some v
 | [],_,_,_,_,h,_,_=>by simp at h
 | _::_,[],_,_,_,_,h,_=>by simp at h
 | p::P,w::vs,0,m,nd,h1,h2,hk=>by
  simp at h1 h2;subst h1;subst h2;show bindL zbt ((p,w)::P.zip vs) m p=_;unfold bindL;rw[uG λv q=>(List.nodup_cons.mp nd).1 (zeK q).1,if_pos hk];simp
 | p::P,w::vs,i+1,m,nd,h1,h2,hk=>by
  show bindL zbt ((p,w)::P.zip vs) m x=_;unfold bindL;exact tY (i:=i) (List.nodup_cons.mp nd).2 (by simpa using h1) (by simpa using h2) hk
theorem tI{zbt:Str->Option zbY}{x:Str}{v:Value}:∀ {P:List Str} {vs:List Value} {i:Nat} {m:Str->Option Value},P.Nodup->P[i]?=some x->vs[i]?=some v->zbt x≠some .local->
  bindC zbt (P.zip vs) m x=some v
 | [],_,_,_,_,h,_,_=>by simp at h
 | _::_,[],_,_,_,_,h,_=>by simp at h
 | p::P,w::vs,0,m,nd,h1,h2,hk=>by
  simp at h1 h2;subst h1;subst h2;show bindC zbt ((p,w)::P.zip vs) m p=_;unfold bindC;rw[tU λv q=>(List.nodup_cons.mp nd).1 (zeK q).1,if_neg hk];simp
 | p::P,w::vs,i+1,m,nd,h1,h2,hk=>by
  show bindC zbt ((p,w)::P.zip vs) m x=_;unfold bindC;exact tI (i:=i) (List.nodup_cons.mp nd).2 (by simpa using h1) (by simpa using h2) hk
def start(N:List Str)(vs:List V):St:=vs.map some++zaP (N.length-vs.length) none
def sJ(CX:GQ)(P:zap)(w:World)(K:zaf)(mg:Str->Option Value)(base:Heap)(N:List Str)(q:Str)(scope:Scope)(f:Addr)(B:Value)(A:zas)(outer:List Env)(s:zab)(H:Hp)(E:XK):Cx where
 prog:=P
 w:=w
 K:=K
 mg:=mg
 base:=base
 A:=A.deeper (zbo q scope s.heap.objs.size f B)
 N:=N
 s₀:=s
 H₀:=H
 env:=zbo q scope s.heap.objs.size f B
 outer:=outer
 stack:=zbo q scope s.heap.objs.size f B::outer
 ex:=[]
 calm:=true
 fn:=λ_=>true
 pn:=[]
 xe:=λe s'=>wpAny (model P w) (A.deeper (zbo q scope s.heap.objs.size f B)) (leaving (zbo q scope s.heap.objs.size f B) e) (λ_ z=>CX outer H s E e z) (λF z=>CX outer H s E F z) s'
theorem qZ{sc:Scope}{n:Nat}{x:Str}(h:sc.names.lookup x=some .cell):∃c,(zcF n sc.names []).lookup x=some c:=by
 have q:=PySem.W.cellsFrom_some sc.names n [] (.inl h);exact Option.isSome_iff_exists.mp q
theorem GH{CX:GQ}{P:zap}{w:World}{K:zaf}{mg:Str->Option Value}{base:Heap}{N ps:List Str}{F:Str}{scope:Scope}{f:Addr}{Y:Value}{A:zas}{B:List Env}{s s1:zab}{H:Hp}{E:XK}{us:List Value}{vs:List V}
  (S:FnScope N ps scope) (hd:A.handled=none) (G:Env0 P w K mg base A B s H) (hl:vs.length=ps.length) (r:Vals vs us)
  (x:InCallC s s.heap.objs.size (bindL (zbo F scope s.heap.objs.size f Y).kindOf (ps.zip us) λ_=>none) (zcF (s.heap.objs.size+1) scope.names []) (bindC (zbo F scope s.heap.objs.size f Y).kindOf (ps.zip us) λ_=>none) s1) :
  Inv (sJ CX P w K mg base N F scope f Y A B s H E) [] (start N vs) H s1:=by
 have ae:ps.length<=N.length:=by have:=congrArg zbH S.pre;rw[zbT]at this;lia
 obtain⟨h1,tk,rfl,hk⟩:=x.done;have M:∀b:Addr,b∉(sJ CX P w K mg base N F scope f Y A B s H E).ex:=λb z=>absurd (show b∈([]:List Addr)from z) (by simp)
 refine⟨⟨G.mod,S.kind,rfl,rfl,zao _,λy z c h1 h2=>?_,λy J=>?_,λy c _ h=>?_,λ_=>hd,Around.frames_deeper G.frames,.inr ⟨rfl,rfl⟩,λb z=>absurd z (M b),G.bs,G.bsz,λb _ _=>M b,λb z=>absurd z (M b),G.funs,G.frf⟩,
  rfl,G.bare,Un.kept hk,⟨_,x.toInCall.ns,λi y v h1 h2 h3=>?_⟩,λy c h=>⟨_,x.cell y c h⟩,G.hok.fresh (zao _),λy c h=>?_,λp W=>absurd (show p∈([]:List (Addr×Obj))from W) (by simp),G.hok.kept hk,?_⟩
 ·exact name_of_addr x.apart (zdj h1) (zdj h2)
 ·have J:scope.names.lookup y=some .cell\/scope.names.lookup y=some .free:=J
  rcases J with J|J
  ·exact qZ J
  ·exact absurd rfl (S.nofree _ (zdj J))
 ·exact zdF (x.above y c (zdj h))
 ·have hi:i<vs.length:=by
   unfold start at h2;by_cases hi:i<vs.length
   ·exact hi
   ·rw[zeL (by simpa using hi)]at h2
    rw[List.getElem?_replicate]at h2;split at h2 <;> cases h2
  have ha:vs[i]?=some v:=by
   unfold start at h2;rw[zdk (by simpa using hi),zar]at h2;cases e:vs[i]? with
   | none=>rw[e]at h2;cases h2
   | some a=>rw[e]at h2;cases h2;rfl
  obtain⟨u,hu,rv⟩:=r.get ha;have W:ps[i]?=some y:=by
   rw[<- S.pre,List.getElem?_take_of_lt (by lia)];exact h1
  have U:ps.Nodup:=by rw[<- S.pre];exact S.nd.sublist (List.take_sublist _ _)
  refine⟨u,rv,?_⟩;rcases S.par y (zaI W)with k|k
  ·exact .inl ⟨k,tY U W hu k⟩
  ·obtain⟨c,e⟩:=qZ (n:=s.heap.objs.size+1) k
   refine .inr ⟨.inl k,c,e,?_⟩;have q:=x.cell y c e;rw[tI U W hu (by show scope.names.lookup y≠_;rw[k];decide)]at q;exact q
 ·exact G.hok.fresh (zdF (x.above y c (zdj h)))
 ·unfold start
  show _=N.length;rw[zbu,zal,List.length_replicate]
  lia
theorem W1{CX:GQ}{P:zap}{w:World}{K:zaf}{mg:Str->Option Value}{base:Heap}{k:Nat}{f:Addr}{name B:Str}{G:Arguments}{body:List Stmt}{scope:Scope}{dV kV ab pm F ct oc:Value}{an od:Option Addr}
  {ah:Array (Option Value)} {N ps:List Str} {sp:Sp} (lk:K.lookup f=some ⟨oc,od,.func (zbI name B G body scope dV kV ab pm an F ct),ah⟩) (ad:zcV K F B=true) (S:FnScope N ps scope)
  (len:∀vs H Q E,sp vs H Q E->vs.length=ps.length)
  (U:∀(A:zas) (z:List Env) (s:zab) (H:Hp) (vs:List V) (Q:VK) (E:XK), Room k (A.deeper (zbo B scope s.heap.objs.size f F)) -> sp vs H Q E ->
   ∃t,PSs (sJ CX P w K mg base N B scope f F A z s H E) body t/\t {nx:=λ_ H'=>Q .non H',rt:=Q} (start N vs) H) :
  FnOk P w K mg base CX (k+1) f (zbI name B G body scope dV kV ab pm an F ct) ps sp:=by
 refine⟨len,λA z s H args us vs Q E hr e0 hb r aa=>?_⟩;have hl:=len _ _ _ _ aa;have KX:K.In s.heap:=e0.mod.kin.keeps λb o e=>(e0.bs b o e).1
 have ag:s.heap.NoLimit:=e0.mod.nolimit.keeps λb o e=>(e0.bs b o e).1
 have Y:∀y∈ps.zip us,scope.names.lookup y.1=some .local\/(scope.names.lookup y.1=some .cell/\((zcF (s.heap.objs.size+1) scope.names []).lookup y.1).isSome=true):=by
  rintro⟨n,v⟩ hy;rcases S.par n (zeK hy).1 with q|q
  ·exact .inl q
  ·exact .inr ⟨q,PySem.W.cellsFrom_some _ _ _ (.inl q)⟩
 refine codeAny_call_function hr.depth (KX _ _ lk) rfl S.co S.gen rfl (PySem.W.codeRec_of KX ad) (hb _ _ _ _ ?_);refine wpAny_newFunctionEnv_cells S.kind Y λenv he s1 x=>?_
 subst he;refine⟨ag.keeps x.toInCall.keep,codeAny_func ?_⟩;obtain⟨t,ht,hq⟩:=U A z s H vs Q E (hr.deeper _) aa;have I:Inv (sJ CX P w K mg base N B scope f F A z s H E) [] (start N vs) H s1:=GH S hr.hd e0 hl r x;refine zba (ht [] s1 (start N vs) H _ I hq) (λfl s' hs=>?_) λe s' hs=>hs
 have fin:∀ {M:St} {H':Hp} {v:V} {u:Value},Inv (sJ CX P w K mg base N B scope f F A z s H E) [] M H' s'->RelV v u->Q v H'->CE z P w H s Q u s':=
  λ{M H' v u} J rv q=>⟨v,H',J.os,J.bare,J.base,J.hok,rv,q⟩
 cases fl with
 | ret u=>
  obtain⟨v,M,H',J,rv,q⟩:=hs;exact fin J rv q
 | next=>
  obtain⟨M,H',J,q⟩:=hs;exact fin (v:=V.non) (u:=zaM) J rfl q
 | brk=>
  obtain⟨_,_,_,q⟩:=hs;exact zbE q
 | cont=>
  obtain⟨_,_,_,q⟩:=hs;exact zbE q
section
variable {X:Cx}{x:Str}{p pos:Pos}{e:Expr}{es:List Expr}{t:TA}{id T:String}{r:List V->Hp->VK->Prop}
def YL(r:List V->Hp->VK->Prop)(t:TA):TE:=λσ H Q=>t σ H λvs H1=>r vs H1 Q
theorem rB(M:CallR X (.builtin id) r)(hg:Gl X x)(B:X.mg x=none)(N:zaN x=some (.builtin id))(G:PA X (e::es) t)(J:x ≠ "__name__" := by decide)(z:(x == ("__debug__" : Str))=false:=by decide)
  (F:zah (e::es) X.env=(false,eval e X.env)::zah es X.env:=by rfl) (q:(zaJ pos (zah es X.env)).any (·.1)=false:=by rfl):PE X (.Call (.Name x p) (e::es) [] pos) (YL r t):=by
 intro pins s σ H Q I h;refine zdQ (fL I hg B N ?_ J z);exact PyProof.Rows.callWith_builtin1 (bN (G pos pins s σ H _ I h) λus Y ⟨vs,H1,U,r1,W⟩=>M pins Y σ H1 vs us Q U r1 W) F q
theorem tX(M:CallR X (.type T) r)(hg:Gl X x)(B:X.mg x=none)(N:zaN x=some (.type T))(G:PA X (e::es) t)(J:x ≠ "__name__" := by decide)(z:(x == ("__debug__" : Str))=false:=by decide)
  (F:zah (e::es) X.env=(false,eval e X.env)::zah es X.env:=by rfl) (q:(zaJ pos (zah es X.env)).any (·.1)=false:=by rfl):PE X (.Call (.Name x p) (e::es) [] pos) (YL r t):=by
 intro pins s σ H Q I h;refine zdQ (fL I hg B N ?_ J z);exact zcC (bN (G pos pins s σ H _ I h) λus Y ⟨vs,H1,U,r1,W⟩=>M pins Y σ H1 vs us Q U r1 W) F q
end
end L2
namespace HT
open PySem PyProof.Rows
noncomputable def lexLt:List Int->List Int->Bool
 | [],[]=>false
 | [],_::_=>true
 | _::_,[]=>false
 | x::xs,y::ys=>if x=y then lexLt xs ys else decide (x<y)
theorem eB(x y:Int)(xs ys:List Int):lexLt (x::xs) (y::ys)=if x=y then lexLt xs ys else decide (x<y):=rfl
theorem sV:lexLt [] []=false:=rfl
theorem oO(y:Int)(ys:List Int):lexLt [] (y::ys)=true:=rfl
theorem oQ(x:Int)(xs:List Int):lexLt (x::xs) []=false:=rfl
theorem HX(A:zas)(s:zab)(a:Int)(t:Tok)(c:Int)(u:Tok):∃e,zdl A s (.int a t) (.int c u) e/\(e=true↔a=c):=
 ⟨(a == c),SeqAt.EqAt.int_int a t c u,by simp⟩
theorem JL(A:zas)(s:zab)(a:Int)(t:Tok)(c:Int)(u:Tok)(prog:zap)(w:World)(E:Value->zab->Prop)(Q:Value->zab->Prop)(h:Q (.bool (decide (a<c))) s) :
  wpAny (model prog w) A (richCompare .Lt (.int a t) (.int c u)) Q E s:=
 (PyProof.Rows.lt_int h:wpAny (model prog w) A (zaq .Lt (.int a t) (.int c u)) Q E s)
section
open PySem.SeqAt
open PySem.AutoSeq1 (wpAny_loadPart')
open PySem.MeetsSeq PySem.MeetsSeq2 PySem.MeetsSeq3
theorem sT(l b:Addr)(items z:Array Value)(n n2:Nat)(dd ab:Option Addr)(sl ac:Array (Option Value))(ns ms:List Int)(hi:za7 items.toList ns)(hj:za7 z.toList ms) :
  Meets (zbi.«tuple.__lt__» ⟨[.ref l,.ref b],[]⟩)
   (λ_ R s => s.heap.get? l = some {cls := .type "tuple", dict:=dd, data := .seq items n, slots:=sl} /\ s.heap.get? b = some {cls := .type "tuple", dict:=ab, data := .seq z n2, slots:=ac} /\
    R (.ok (.ret (.bool (lexLt ns ms)))) s):=
 .of_wp λprog w A R s h=>by
  obtain⟨hp,g,d,tk,os⟩:=s;obtain⟨hl,hb,h⟩:=h;have f2:=AutoSeq1.sub_tuple_tuple;have z1:items.size=ns.length:=by rw[<- hi.length];simp
  have z2:z.size=ms.length:=by rw[<- hj.length];simp
  wp_walk using zcf hl,zcf hb,wpAny_forIn_list _ (λrest b s'=>b.1=none/\s'=⟨hp,g,d,tk,os⟩/\∃(vs Y:List Value) (G F:List Int),rest=vs.zip Y /\
   za7 vs G/\za7 Y F/\G.length+z.size=F.length+items.size/\R (.ok (.ret (.bool (lexLt G F)))) ⟨hp,g,d,tk,os⟩) _
  case turn=>
   rintro⟨y,x⟩ rest b s' ⟨W,rfl,vs,Y,G,F,hz,U,J,B,M⟩;cases U with
   | nil=>rw[List.zip_nil_left]at hz;cases hz
   | cons a t hvi'=>
    cases J with
    | nil=>rw[List.zip_nil_right]at hz;cases hz
    | cons c u hwi'=>
     rw[List.zip_cons_cons]at hz;injection hz with hyx hrest
     injection hyx with hy hx
     subst hy hx;rw[eB]at M;simp only[za3]at B;obtain⟨e,he,N⟩:=HX A.in1 ⟨hp,g,d,tk,os⟩ a t c u;refine zaa (he prog w _ _ ?_);cases e with
     | true=>
      rw[if_pos (N.mp rfl)]at M
      wp_walk
      exact⟨rfl,rfl,_,_,_,_,hrest,hvi',hwi',by lia,M⟩
     | false=>
      rw[if_neg (λq=>absurd (N.mpr q) zaw)]at M;have ad:=JL A.in1 ⟨hp,g,d,tk,os⟩ a t c u prog w
      wp_walk using ad
      exact⟨_,rfl,by simpa using M⟩
  case fin=>
   rintro⟨b1,b2⟩ s' ⟨W,rfl,vs,Y,G,F,hz,U,J,B,M⟩;simp only at W;subst W;have hv:lexLt G F=decide (items.size<z.size):=by
    cases U with
    | nil=>
     cases J with
     | nil=>
      simp only[zcW]at B;rw[sV];exact(decide_eq_false (by lia)).symm
     | cons c u hw=>
      simp only[zcW,za3]at B;rw[oO];exact(decide_eq_true (by lia)).symm
    | cons a t hv=>
     cases J with
     | nil=>
      simp only[zcW,za3]at B;rw[oQ];exact(decide_eq_false (by lia)).symm
     | cons c u hw=>
      rw[List.zip_cons_cons]at hz;cases hz
   rw[hv]at M
   wp_walk
   exact⟨_,rfl,by simpa[Builtin.Tuple.tupleCompareSizes]using M⟩
  case h=>
   exact⟨rfl,rfl,items.toList,z.toList,ns,ms,rfl,hi,hj,by lia,h⟩
end
section
variable {prog:zap}{w:World}{A:zas}{E:Value->zab->Prop}{s:zab}
theorem qC(hl:IsTup s.heap l items)(hb:IsTup s.heap b items2)(hi:za7 items.toList ns)(hj:za7 items2.toList ms)
  (hu:A.units<cLine) (h:Q (.bool (lexLt ns ms)) s):wpAny (model prog w) A (zaq .Lt (.ref l) (.ref b)) Q E s:=by
 obtain⟨⟨cls,dd,data,sl⟩,U,W,n,N⟩:=id hl;obtain⟨⟨Y,J,G,M⟩,B,q,n2,z⟩:=id hb;simp only at W N q z;subst W N q z;exact richCompare_meets_room (op:=.Lt) ⟨_,U,rfl⟩ ⟨_,B,rfl⟩ PySem.F.slot_tuple_lt PySem.F.entry_tuple_lt (PySem.F.args_tuple_lt_2 _ _) (sT l b items items2 n n2 dd J sl M ns ms hi hj)
  ⟨U,B,show zco (lexLt ns ms)≠Value.notImplemented/\Q (.bool (lexLt ns ms)) s from⟨(λx=>nomatch x),h⟩⟩ hu
theorem MR(ht:IsTup s.heap t vs.toArray)(hb:IsTup s.heap b ws.toArray)(W:vs≠[])
  (h1:ws=[]->Q (.ref t) s) (h2:ws≠[]->Q (.ref s.heap.objs.size) {s with heap:=s.heap.push {cls:=.type "tuple",data:=.seq (vs++ws).toArray} })
  (hsz:vs.length+ws.length<=zaj):wpAny (model prog w) A (zaV .Add (.ref t) (.ref b)) Q E s:=by
 obtain⟨⟨cls,dd,data,sl⟩,J,Y,n,N⟩:=id ht;obtain⟨⟨ab,B,M,G⟩,q,z,U,F⟩:=id hb;simp only at Y N z F;subst Y N z F;have e:vs.toArray++ws.toArray=(vs++ws).toArray:=by simp
 by_cases hw:ws=[]
 ·exact concat_meets ⟨_,J,rfl⟩ ⟨_,q,rfl⟩ zeM seq_tuple_add zeN zeO (zeP _ _)
   (tuple_addW1 t b vs.toArray ws.toArray n U dd B sl G (by simpa using W) (by simp[hw])) ⟨J,q,h1 hw⟩
 ·refine concat_meets ⟨_,J,rfl⟩ ⟨_,q,rfl⟩ zeM seq_tuple_add zeN zeO (zeP _ _)
   (tuple_addW2 t b vs.toArray ws.toArray n U dd B sl G (by simpa using W) (by simpa using hw) (by rw[zaA,zaA];exact hsz)) ⟨J,q,?_⟩
  rw[e];exact h2 hw
noncomputable def sIx(n d:Nat):Option Int->Nat
 | none=>d
 | some v=>if v<0 then(v+(n:Int)).toNat else min v.toNat n
theorem RY(n d:Nat)(z:d<=n)(o:Option Int):sIx n d o<=n:=by
 cases o with
 | none=>exact z
 | some v=>
  show(if v<0 then(v+(n:Int)).toNat else min v.toNat n)<=n;by_cases q:v<0
  ·rw[if_pos q];lia
  ·rw[if_neg q];exact Nat.min_le_right _ _
theorem C2(v:Int)(n d:Nat):(if v<0 then max (v+(n:Int)) 0 else min v (n:Int))=((sIx n d (some v):Nat):Int):=by
 show(if v<0 then max (v+(n:Int)) 0 else min v (n:Int))=(((if v<0 then(v+(n:Int)).toNat else min v.toNat n):Nat):Int);by_cases q:v<0
 ·simp only[if_pos q];lia
 ·simp only[if_neg q];lia
theorem BC(lo hi:Option Int)(n:Nat):zeQ lo hi 1 (n:Int)=(((sIx n 0 lo:Nat):Int),((sIx n n hi:Nat):Int)):=by
 have h1:¬ ((1:Int)<0):=by lia
 unfold zeQ;simp only[h1,if_false];refine Prod.ext ?_ ?_
 ·cases lo with
  | none=>rfl
  | some v=>exact C2 v n 0
 ·cases hi with
  | none=>rfl
  | some v=>exact C2 v n n
theorem AS(i j:Nat):zdR (i:Int) (j:Int) 1=j-i:=by
 unfold zdR;have h1:(1:Int)>0:=by lia
 simp only[h1,if_true,Int.ediv_one];split <;> lia
theorem pF(p:zbZ v o)(h:Q o s):wpAny (model prog w) A (Builtin.Slice.slicePartIndex v) Q E s:=by
 cases p with
 | none=>exact slicePart_none h
 | int i t=>exact slicePart_int h
theorem fS{G:Addr}{F B:Value}{lo hi:Option Int}{n:Nat}{Q:Int×Int×Nat->zab->Prop}(hs:s.heap.IsSliceOf G F B .none)(J:zbZ F lo)(M:zbZ B hi)
  (h:Q (((sIx n 0 lo:Nat):Int),1,sIx n n hi-sIx n 0 lo) s):wpAny (model prog w) A (Builtin.Slice.sliceApplied (.ref G) (pure (n:Int))) Q E s:=by
 obtain⟨os,z,N,q⟩:=id hs;unfold Builtin.Slice.sliceApplied Builtin.Slice.sliceFields;refine zaa (zaa (zaC z q (x:=F) rfl (zaa (zaC z q (x:=B) rfl (zaa (zaC z q (x:=.none) rfl (zac ?_)))))));refine zaa (slicePart_none ?_);show wpAny _ _ (if((1:Int) == 0)=true then _ else _) _ _ s;rw[if_neg (by decide)];refine zaa (pF J (zaa (pF M (zaa (zac ?_)))));show wpAny _ _ (match zeQ lo hi 1 (n:Int)with|(lo,hi)=>pure (lo,(1:Int),zdR lo hi 1)) _ _ s;rw[BC lo hi n];show wpAny _ _ (pure (((sIx n 0 lo:Nat):Int),(1:Int),zdR ((sIx n 0 lo:Nat):Int) ((sIx n n hi:Nat):Int) 1)) _ _ s;rw[AS];exact zac h
theorem JF(xs:Array Value)(i k:Nat):((zaB k).filterMap λ(m:Nat)=>xs[((i:Int)+(m:Int)*1).toNat]?).toArray=((xs.toList.drop i).take k).toArray:=by
 have e:(λ(m:Nat)=>xs[((i:Int)+(m:Int)*1).toNat]?)=λm=>xs[i+m]?:=by
  funext m;have:((i:Int)+(m:Int)*1).toNat=i+m:=by lia
  rw[this]
 rw[e];have:=pick_run xs i k;rw[List.filterMap_map]at this;have q:((λx=>xs[x]?) ∘ λx=>i+x)=λm=>xs[i+m]?:=rfl
 rw[q]at this;rw[this]
theorem kC{t J:Addr}{items:Array Value}{W U:Value}{lo hi:Option Int}{Q:Value->zab->Prop}(B:IsTup s.heap t items)(hs:s.heap.IsSliceOf J W U .none)(Y:zbZ W lo)(pu:zbZ U hi)
  (hw:¬ (sIx items.size 0 lo=0/\sIx items.size items.size hi=items.size))
  (h:Q (.ref s.heap.objs.size) {s with heap:=s.heap.push {cls:=.type "tuple",data:=.seq ((items.toList.drop (sIx items.size 0 lo)).take (sIx items.size items.size hi-sIx items.size 0 lo)).toArray} })
  (hsz:items.size<=zaj):wpAny (model prog w) A (zb0 (.ref t) (.ref J)) Q E s:=by
 have z:sizeOk (.seq ((items.toList.drop (sIx items.size 0 lo)).take (sIx items.size items.size hi-sIx items.size 0 lo)).toArray):=by
  show((items.toList.drop (sIx items.size 0 lo)).take (sIx items.size items.size hi-sIx items.size 0 lo)).toArray.size<=zaj;rw[zaA,zbT,zeR,zbf]
  lia
 have hj:sIx items.size items.size hi<=items.size:=RY _ _ (zao _) hi;obtain⟨os,N,M,aa⟩:=id hs;have F:s.TypeIs (.ref J) "slice" := ⟨os,N,M⟩;unfold zb0
 try with_reducible refine zbn ?_
 first|refine zaa (zac ?_)|skip
 refine zaa (wpAny_sequenceKey B.typeIs (by decide) ?_);refine zaa (zbv (name:=zaY "__getitem__") B.typeIs zdS
  (zbb zdS B.typeIs entry_tuple_getitem ?_ (args_tuple_getitem _ _)))
 show wpAny _ _ (Builtin.Tuple.tupleItemsOf (.ref t) >>= _) _ _ s;refine zaa (tupleItemsOf_ B ?_);refine zaa (zct F ?_);rw[if_pos (by decide)];refine zaa (fS hs Y pu ?_);have G:¬ ((((sIx items.size 0 lo:Nat):Int) == 0 && (1:Int) == 1 && (sIx items.size items.size hi-sIx items.size 0 lo) == items.size)=true):=by
  intro q;rw[zaK,zaK]at q;have q1:((sIx items.size 0 lo:Nat):Int)=0:=eq_of_beq q.1.1;have q2:sIx items.size items.size hi-sIx items.size 0 lo=items.size:=eq_of_beq q.2;exact hw ⟨by lia,by lia⟩
 show wpAny _ _ (if(((sIx items.size 0 lo:Nat):Int) == 0 && (1:Int) == 1 && (sIx items.size items.size hi-sIx items.size 0 lo) == items.size)=true then _ else _) _ _ s;rw[if_neg G,JF]
 first
  | exact zaa (m:=zdT _) (zbp (zac ⟨_,rfl,zac h⟩) z)
  | exact zaa (m:=zdT _) (zbp (zaa (zac (zac ⟨_,rfl,zac h⟩))) z)
  | exact zaa (zaa (m:=zdT _) (zbp (zac (zac ⟨_,rfl,zac h⟩)) z))
  | exact zaa (zaa (m:=zdT _) (zbp (zac ⟨_,rfl,zac h⟩) z))
end
end HT
namespace L2
open PySem PySem.Spec PyProof.Rows
abbrev TO:=St->Hp->(Option Int->Hp->Prop)->Prop
def PO(X:Cx)(e:Option Expr)(t:TO):Prop:=
 ∀(pins:List (Addr×Obj)) (s:zab) (σ:St) (H:Hp) (Q:Option Int->Hp->Prop),Inv X pins σ H s->t σ H Q->
  wpAny (model X.prog X.w) X.A (evalPart e X.env) (λu s'=>∃o H',Inv X pins σ H' s'/\zbZ u o/\Q o H') X.xe s
def NK:TO:=λ_ H Q=>Q none H
def V6(t:TE):TO:=λσ H Q=>t σ H λx H1=>∃i,x=.int i/\Q (some i) H1
theorem intsAre_of:∀ {us:List Value},Vals (ns.map V.int) us->za7 us ns:=by
 induction ns with
 | nil=>intro us r;rw[zb1]at r;cases r;exact .nil
 | cons n ns ih=>
  intro us r;rw[zak]at r;cases r with
  | cons r1 r2=>
   obtain⟨t,e⟩:=r1;subst e;exact .cons n t (ih r2)
section
variable {X:Cx}{e:Expr}{te:TE}{lo hi:Option Expr}{tl th:TO}{pos p2:Pos}
theorem L9:PO X none NK:=by
 intro pins s σ H Q I h;rw[evalPart_none];exact zac ⟨none,H,I,.none,h⟩
theorem OY(h:PE X e te):PO X (some e) (V6 te):=by
 intro pins s σ H Q I hw;rw[evalPart_some];refine bN (h pins s σ H _ I hw) λu G ⟨x,H1,F,z,B⟩=>?_
 obtain⟨i,rfl,q⟩:=B;obtain⟨t,rfl⟩:=z;exact⟨some i,H1,F,.int i t,q⟩
def SlR(X:Cx)(r:V->Option Int->Option Int->Hp->VK->Prop):Prop:=
 ∀(pins:List (Addr×Obj)) (s:zab) (σ:St) (H:Hp) (x:V) (v vl vu:Value) (lo hi:Option Int) (sl:Addr) (Q:VK),Inv X pins σ H s->RelV x v->s.heap.IsSliceOf sl vl vu .none->zbZ vl lo->zbZ vu hi->r x lo hi H Q->
  ∃T id,typeLookup (.type T) "__getitem__" = pure (some (.builtin id))/\s.TypeIs v T/\wpAny (model X.prog X.w) X.A (zb0 v (.ref sl)) (EP X pins σ Q) X.xe s
theorem SlR.or(h:SlR X r)(h':SlR X r'):SlR X (λx lo hi H Q=>r x lo hi H Q\/r' x lo hi H Q):=by
 intro pins s σ H x v M J lo hi F Q I B hs z G q;rcases q with q|q
 ·exact h pins s σ H x v M J lo hi F Q I B hs z G q
 ·exact h' pins s σ H x v M J lo hi F Q I B hs z G q
def tSl(r:V->Option Int->Option Int->Hp->VK->Prop)(te:TE)(tl th:TO):TE:=λσ H Q=>te σ H λx H1=>tl σ H1 λl H2=>th σ H2 λu q=>r x l u q Q
theorem G2(hr:SlR X r)(he:PE X e te)(hl:PO X lo tl)(hu:PO X hi th):PE X (.Subscript e (.Slice lo hi none p2) pos) (tSl r te tl th):=by
 intro pins s σ H Q I h;refine Subscript_ (bN (he pins s σ H _ I h) λv J ⟨x,H1,W,r1,Y⟩=>?_);refine wpAny_Slice (bN (hl pins J σ H1 _ W Y) λF s2 ⟨l,H2,I2,N,q2⟩=>bN (hu pins s2 σ H2 _ I2 q2) λB z ⟨u,G,U,pu,q3⟩=>?_);rw[evalPart_none];refine zac ?_;have I4:Inv X pins σ G {z with heap:=z.heap.push {cls:=.type "slice",data:=.fields #[F,B,.none]} }:=U.kept (t':=z.toks) λb ob q=>zag _ q
 obtain⟨T,id,hT,ht,M⟩:=hr pins {z with heap:=z.heap.push {cls:=.type "slice",data:=.fields #[F,B,.none]} } σ G x v F B l u z.heap.objs.size Q I4 r1 (Heap.IsSliceOf.new ..) N pu q3;show wpAny (model X.prog X.w) X.A (subscriptTail e (.Slice lo hi none p2) v (.ref z.heap.objs.size)) (EP X pins σ Q) X.xe {z with heap:=z.heap.push {cls:=.type "slice",data:=.fields #[F,B,.none]} };exact tail_any (ops:=[.ref z.heap.objs.size,v]) ht hT M (by with_unfolding_all rfl)
def tG(xs:List V)(lo hi:Option Int):List V:=(xs.drop (HT.sIx xs.length 0 lo)).take (HT.sIx xs.length xs.length hi-HT.sIx xs.length 0 lo)
theorem m8(xs:List V)(lo hi:Option Int):(tG xs lo hi).length<=xs.length:=by
 unfold tG;rw[zbT,zeR]
 lia
def X2(K:zaf):V->Option Int->Option Int->Hp->VK->Prop:=λx lo hi H Q=>∃a xs,x=.ref a/\SqT K H a xs /\
 ¬ (HT.sIx xs.length 0 lo=0/\HT.sIx xs.length xs.length hi=xs.length)/\∀p,H p=none->Q (.ref p) (upd H p (.tup (tG xs lo hi)))
theorem S8:SlR X (X2 X.K):=by
 intro pins s σ H x v U Y lo hi W Q I J hs G N h;obtain⟨a,xs,rfl,M,hw,q⟩:=h;cases J;obtain⟨B,r,F,hz⟩:=I.tuple M;have z:B.toArray.size=xs.length:=by rw[zaA];exact r.length.symm
 refine⟨"tuple",_,PyProof.Rows.slot_tuple_getitem.lookup,F.typeIs,?_⟩;refine HT.kC F hs G N (by rw[z];exact hw) ?_ (by rw[z];exact hz);rw[z];refine⟨.ref s.heap.objs.size,_,I.laid (t':=s.toks) (o:=.tup (tG xs lo hi)) (λb ob q=>zag _ q) (zao _) ?_,rfl,q _ (I.hok.fresh (zao _))⟩;exact⟨zbe (m8 xs lo hi) hz,_,(r.drop (HT.sIx xs.length 0 lo)).take (HT.sIx xs.length xs.length hi-HT.sIx xs.length 0 lo),IsTupN.new _ _⟩
def Z9(K:zaf):R2:=λx y H Q=>∃a b ns ms,x=.ref a/\y=.ref b/\SqT K H a (ns.map V.int)/\SqT K H b (ms.map V.int)/\Q (.bl (HT.lexLt ns ms)) H
theorem UW(W:X.A.units<cLine):OpR X (zaq .Lt) (Z9 X.K):=by
 intro pins s σ H x y v u Q I N ry h;obtain⟨a,b,ns,ms,rfl,rfl,U,J,q⟩:=h;cases N;cases ry;obtain⟨B,r1,F,_⟩:=I.tuple U;obtain⟨z,G,p2,_⟩:=I.tuple J;have M:za7 B.toArray.toList ns:=intsAre_of r1;have Y:za7 z.toArray.toList ms:=intsAre_of G;exact HT.qC F p2 M Y W ⟨.bl (HT.lexLt ns ms),H,I,rfl,q⟩
def WS(K:zaf):R2:=λx y H Q=>∃a b xs ys,x=.ref a/\y=.ref b/\SqT K H a xs/\SqT K H b ys/\xs≠[]/\xs.length+ys.length<=zaj /\
 (ys=[]->Q (.ref a) H)/\(ys≠[]->∀p,H p=none->Q (.ref p) (upd H p (.tup (xs++ys))))
theorem Vals.nil_iff(r:Vals xs us):us=[]↔xs=[]:=by
 cases r with
 | nil=>simp
 | cons _ _=>simp
theorem NE:OpR X (zaV .Add) (WS X.K):=by
 intro pins s σ H x y v u Q I N ry h;obtain⟨a,b,xs,ys,rfl,rfl,U,M,W,hz,Y,q2⟩:=h;cases N;cases ry;obtain⟨ab,F,J,_⟩:=I.tuple U;obtain⟨G,B,p2,_⟩:=I.tuple M;refine HT.MR J p2 (λz=>W (F.nil_iff.mp z)) (λz=>⟨.ref a,H,I,rfl,Y (B.nil_iff.mp z)⟩) (λz=>?_) (by rw[<- F.length,<- B.length];exact hz);refine⟨.ref s.heap.objs.size,_,I.laid (t':=s.toks) (o:=.tup (xs++ys)) (λb ob q=>zag _ q) (zao _) ?_,rfl,q2 (λw=>z (B.nil_iff.mpr w)) _ (I.hok.fresh (zao _))⟩;exact⟨by rw[zbu];exact hz,_,F.append B,IsTupN.new _ _⟩
end
noncomputable def GO(n:Nat)(i:Int):Option Nat:=if 0<=i then(if i<n then some i.toNat else none)else if -(n:Int)<=i then some (i+n).toNat else none
def dW{α:Type}(xs:List α)(i:Int):Option α:=(GO xs.length i).bind λj=>xs[j]?
theorem CQ(h:GO n i=some j):seqIndex? i n=some j/\j<n/\-(n:Int)<=i/\i<n:=by
 unfold GO at h;by_cases h0:0<=i
 ·rw[if_pos h0]at h
  by_cases h1:i<n
  ·rw[if_pos h1]at h
   have e:i.toNat=j:=zaD h;exact⟨by rw[seqIndex_of h0 h1,e],by lia,by lia,h1⟩
  ·rw[if_neg h1]at h;cases h
 ·rw[if_neg h0]at h
  by_cases h1:-(n:Int)<=i
  ·rw[if_pos h1]at h
   have e:(i+n).toNat=j:=zaD h;exact⟨by rw[seqIndex_neg (by lia) h1,e],by lia,h1,by lia⟩
  ·rw[if_neg h1]at h;cases h
theorem vM{q:Type}{xs:List q}{i:Int}{v:q}(h:dW xs i=some v):∃j,seqIndex? i xs.length=some j/\xs[j]?=some v/\j<xs.length/\-(xs.length:Int)<=i/\i<xs.length:=by
 unfold dW at h;cases e:GO xs.length i with
 | none=>rw[e]at h;cases h
 | some j=>
  rw[e]at h;obtain⟨h1,h2,z,B⟩:=CQ e;exact⟨j,h1,h,h2,z,B⟩
theorem bG{q:Type}{xs:List q}{j:Nat}{v:q}(h:xs[j]?=some v):dW xs (j:Int)=some v:=by
 have z:j<xs.length:=(List.getElem?_eq_some_iff.mp h).1;have e:GO xs.length (j:Int)=some j:=by
  unfold GO;rw[if_pos (by lia),if_pos (by lia)];simp
 unfold dW;rw[e];exact h
def vP(b:Expr):Prop:=∀o i,zdU b false o i=operate [o,i] (zb0 o i)
def IxR(X:Cx)(r:R2):Prop:=
 ∀(value slice:Expr) (pins:List (Addr×Obj)) (s:zab) (σ:St) (H:Hp) (x y:V) (v u:Value) (Q:VK),Inv X pins σ H s->RelV x v->RelV y u->r x y H Q->
  zdU slice false v u=operate [v,u] (zb0 v u)->wpAny (model X.prog X.w) X.A (subscriptTail value slice v u) (EP X pins σ Q) X.xe s
def MtR(X:Cx)(id:String)(r:V->List V->Hp->VK->Prop):Prop:=
 ∀(pins:List (Addr×Obj)) (s:zab) (σ:St) (H:Hp) (x:V) (xs:List V) (v:Value) (us:List Value) (Q:VK),Inv X pins σ H s->RelV x v->Vals xs us->r x xs H Q->
  wpAny (model X.prog X.w) X.A (call (.builtin id) (v::us)) (EP X pins σ Q) X.xe s
section
variable {X:Cx}{a b:Expr}{ta tb:TE}{pos:Pos}
theorem IxR.or(h:IxR X r)(h':IxR X r'):IxR X (λx y H Q=>r x y H Q\/r' x y H Q):=by
 intro value z pins s σ H x y v u Q I F B q hs;rcases q with q|q
 ·exact h value z pins s σ H x y v u Q I F B q hs
 ·exact h' value z pins s σ H x y v u Q I F B q hs
theorem MtR.or{id:String}{r B:V->List V->Hp->VK->Prop}(h:MtR X id r)(h':MtR X id B):MtR X id (λx xs H Q=>r x xs H Q\/B x xs H Q):=by
 intro pins s σ H x xs v us Q I z rs q;rcases q with q|q
 ·exact h pins s σ H x xs v us Q I z rs q
 ·exact h' pins s σ H x xs v us Q I z rs q
theorem WU(F:IxR X r)(J:PE X a ta)(B:PE X b tb)(hs:vP b):PE X (.Subscript a b pos) (VS r ta tb):=by
 intro pins s σ H Q I h;exact Subscript_ (U8 J B I h λv u z x y H2 M G N q=>F a b pins z σ H2 x y v u Q M G N q (hs _ _))
def X1(K:zaf):R2:=λx y H Q=>∃p xs i v,x=.ref p/\y=.int i/\SqL K H p xs/\dW xs i=some v/\Q v H
def X7(K:zaf):R2:=λx y H Q=>∃p xs i v,x=.ref p/\y=.int i/\SqT K H p xs/\dW xs i=some v/\Q v H
def XS:R2:=λx y H Q=>∃z i c,x=.str z/\y=.int i/\z.length<=zaj/\dW z.cps.toList i=some c/\Q (.str ⟨#[c]⟩) H
theorem OL:IxR X (X1 X.K):=by
 intro value F pins s σ H x y v u Q I W ry h hs;obtain⟨p,xs,i,z,rfl,rfl,hq,U,q⟩:=h;cases W;obtain⟨t,rfl⟩:=ry;obtain⟨M,r,B,hz⟩:=I.list hq;obtain⟨j,h1,h2,h3,Y,h5⟩:=vM U;obtain⟨w,N,J⟩:=r.get h2;have hl:=r.length;have hn:=rT;have fin:EP X pins σ Q w s:=⟨z,H,I,J,q⟩;by_cases h0:0<=i
 ·have G:i.toNat=j:=by
   rw[seqIndex_of h0 h5]at h1;exact zaD h1
  exact item_listR B.isList h0 (by lia) (by rw[G];simpa using N) fin hs
 ·have G:(i+(M.toArray.size:Int)).toNat=j:=by
   rw[seqIndex_neg (by lia) Y]at h1;rw[zaA,<- hl];exact zaD h1
  exact subscriptTail_builtinR (x:=w) B.isList.typeIs slot_list_getitem.lookup
   (wpAny_getItem_list_neg (Q:=λr s'=>r=w/\EP X pins σ Q r s') B.isList (by lia) (by rw[zaA] <;> lia) (by lia) (by rw[G];simpa using N) ⟨rfl,fin⟩) hs
theorem UB:IxR X (X7 X.K):=by
 intro value B pins s σ H x y v u Q I M Y h hs;obtain⟨p,xs,i,z,rfl,rfl,W,J,q⟩:=h;cases M;obtain⟨t,rfl⟩:=Y;obtain⟨aa,r,G,hz⟩:=I.tuple W;obtain⟨j,h1,h2,h3,h4,h5⟩:=vM J;obtain⟨w,N,F⟩:=r.get h2;have U:=r.length;have hn:=rT;have fin:EP X pins σ Q w s:=⟨z,H,I,F,q⟩;exact subscriptTail_builtinR (x:=w) G.typeIs slot_tuple_getitem.lookup
  (getItem_tuple (j:=j) (Q:=λr s'=>r=w/\EP X pins σ Q r s') G (by lia) (by lia) (by rw[zaA,<- U];exact h1) (by simpa using N) ⟨rfl,fin⟩) hs
theorem RX:IxR X XS:=by
 intro value B pins s σ H x y v u Q I G Y h hs;obtain⟨z,i,c,rfl,rfl,hz,F,q⟩:=h;obtain⟨t,rfl⟩:=G;obtain⟨t',rfl⟩:=Y;obtain⟨j,h1,h2,h3,J,M⟩:=vM F;have W:z.cps.toList.length=z.length:=by simp[Str.length]
 rw[W]at h1 J M;have hn:=rT;exact tail_any (typeIs_str s z t) slot_str_getitem.lookup (getItem_str (c:=c) (by
  have N:decide (i < -(2^63:Int))=false:=decide_eq_false (by lia);have U:decide (i ≥ 2^63)=false:=decide_eq_false (by lia);rw[N,U,Bool.or_false]) (by rw[h1];simpa using h2) ⟨.str ⟨#[c]⟩,H,I.tok _,⟨_,rfl⟩,q⟩) hs
def rIx(K:zaf):R2:=λx y H Q=>X1 K x y H Q\/X7 K x y H Q\/XS x y H Q
theorem TJ:IxR X (rIx X.K):=OL.or (UB.or RX)
theorem AU(q:List Value)(n j:Nat)(u:Value):zbj (·.setIfInBounds j u) {cls:=.type "list",data:=.seq q.toArray n}={cls:=.type "list",data:=.seq (q.set j u).toArray n}:=by
 simp[zbj]
theorem Inv.lst{pins:List (Addr×Obj)}{σ:St}{H:Hp}{s:zab}{p:Addr}{xs:List V}(I:Inv X pins σ H s)(h:H p=some (.lst xs)) :
  ∃(q:List Value) (n:Nat),Vals xs q/\s.heap.get? p=some {cls:=.type "list",data:=.seq q.toArray n}/\xs.length<=zaj:=by
 obtain⟨z,q,n,r,e⟩:=I.hok p _ h;exact⟨q,n,r,e,z⟩
theorem Inv.lstUpd{pins:List (Addr×Obj)}{xs ys:List V}{z its':List Value}{n B:Nat}{f:Obj->Obj}(I:Inv X pins σ H s)(h:H p=some (.lst xs))
  (G:s.heap.get? p=some {cls:=.type "list",data:=.seq z.toArray n}) (F:f {cls:=.type "list",data:=.seq z.toArray n}={cls:=.type "list",data:=.seq its'.toArray B}) (r:Vals ys its') (hz:ys.length<=zaj) (t:Nat) :
  Inv X pins σ (upd H p (.lst ys)) {s with heap:=s.heap.update p f,toks:=t}:=by
 have e:(s.heap.update p f).get? p=some {cls:=.type "list",data:=.seq its'.toArray B}:=by
  rw[zbU f G (by rw[F] <;> rfl),F]
 refine I.write (x:=p) (e:=p) (by rw[h];trivial) (.inl rfl) (λb u J q=>(zbJ _ _ (zaS J)).trans q) ⟨_,e⟩ ?_;exact⟨hz,its',B,r,e⟩
def WA:V->V->V->Hp->(Hp->Prop)->Prop:=λo i v H Q=>∃p xs k j,o=.ref p/\i=.int k/\H p=some (.lst xs)/\GO xs.length k=some j/\Q (upd H p (.lst (xs.set j v)))
theorem set_list:PC X WA:=by
 intro pins s σ H o i v ov iv u Q I ro ri Y h;obtain⟨p,xs,k,j,rfl,rfl,N,hj,q⟩:=h;cases ro;obtain⟨t,rfl⟩:=ri;obtain⟨z,n,r,B,hz⟩:=I.lst N;obtain⟨h1,h2,M,J⟩:=CQ hj;have F:=r.length;have hn:=rT;have U:Inv X pins σ (upd H p (.lst (xs.set j v))) {s with heap:=s.heap.update p (zbj (·.setIfInBounds j u))}:=
  I.lstUpd N B (AU z n j u) (r.set Y j) (by rw[List.length_set];exact hz) s.toks
 by_cases h0:0<=k
 ·have G:k.toNat=j:=by
   rw[seqIndex_of h0 J]at h1;exact zaD h1
  exact PySem.W.ki_setAt B h0 (by lia) (by rw[zaA,<- F];exact J) (by rw[G];exact⟨_,U,q⟩)
 ·have G:(k+(z.toArray.size:Int)).toNat=j:=by
   rw[seqIndex_neg (by lia) M]at h1;rw[zaA,<- F];exact zaD h1
  exact PySem.W.ki_setBack B (by lia) (by rw[zaA,<- F];exact M) (by lia) (by rw[G];exact⟨_,U,q⟩)
theorem uR(lo hi:Option Int)(n:Nat):(zb2 lo hi none n).1=((HT.sIx n 0 lo:Nat):Int)/\(zb2 lo hi none n).2.1=((HT.sIx n n hi:Nat):Int)/\(zb2 lo hi none n).2.2=1:=by
 refine⟨?_,?_,rfl⟩
 ·cases lo with
  | none=>simp[zb2,HT.sIx]
  | some i=>
   simp only[zb2,HT.sIx,Option.getD_none,show(1:Int)>0 by decide,if_true];by_cases h:i<0
   ·simp only[h,if_true] <;> lia
   ·simp only[h,if_false] <;> lia
 ·cases hi with
  | none=>simp[zb2,HT.sIx]
  | some i=>
   simp only[zb2,HT.sIx,Option.getD_none,show(1:Int)>0 by decide,if_true];by_cases h:i<0
   ·simp only[h,if_true] <;> lia
   ·simp only[h,if_false] <;> lia
theorem sN(q:List Value)(lo hi:Option Int):slicePick q.toArray lo hi none=((q.drop (HT.sIx q.length 0 lo)).take (HT.sIx q.length q.length hi-HT.sIx q.length 0 lo)).toArray:=by
 obtain⟨h1,h2,z⟩:=uR lo hi q.toArray.size;unfold slicePick;rw[h1,h2,z];simp only[sliceRange_one,pick_run,zaA] <;> rfl
def ZW(K:zaf):V->Option Int->Option Int->Hp->VK->Prop:=λx lo hi H Q=>∃a xs,x=.ref a/\SqL K H a xs/\∀p,H p=none->Q (.ref p) (upd H p (.lst (tG xs lo hi)))
theorem N9:SlR X (ZW X.K):=by
 intro pins s σ H x v U Y lo hi W Q I G hs F M h;obtain⟨a,xs,rfl,J,q⟩:=h;cases G;obtain⟨N,r,B,hz⟩:=I.list J;have z:=r.length;refine⟨"list",_,slot_list_getitem.lookup,B.isList.typeIs,?_⟩;refine wpAny_getItem_list_slice B.isList hs F M .none (by simp) ?_ (by rw[zaA] <;> lia);rw[sN,<- z];refine⟨.ref s.heap.objs.size,_,I.laid (t':=s.toks) (o:=.lst (tG xs lo hi)) (λb ob q=>zag _ q) (zao _) ?_,rfl,q _ (I.hok.fresh (zao _))⟩;exact⟨zbe (m8 xs lo hi) hz,_,0,(r.drop (HT.sIx xs.length 0 lo)).take (HT.sIx xs.length xs.length hi-HT.sIx xs.length 0 lo),zat _ rfl⟩
noncomputable def lI:V->Bool
 | .non=>true
 | .bl _=>true
 | .int _=>true
 | .str _=>true
 | _=>false
noncomputable def QJ:V->V->Bool
 | .non,.non=>true
 | .bl a,.bl b=>a == b
 | .bl a,.int b=>(if a then 1 else 0) == b
 | .int a,.bl b=>a == (if b then 1 else 0)
 | .int a,.int b=>a == b
 | .str a,.str b=>a == b
 | _,_=>false
theorem QS(z:RelV y u)(q:RelV x v)(B:lI y=true)(fx:lI x=true):zdl A s u v (QJ y x):=by
 cases y with
 | non=>
  cases z;cases x with
  | non=>cases q;exact SeqAt.EqAt.same _
  | bl b=>cases q;exact SeqAt.EqAt.none_bool b
  | int b=>obtain⟨t,rfl⟩:=q;exact SeqAt.EqAt.none_int b t
  | str b=>obtain⟨t,rfl⟩:=q;exact SeqAt.EqAt.none_str b t
  | _=>exact absurd (show false=true from fx) zaw
 | bl a=>
  cases z;cases x with
  | non=>cases q;exact SeqAt.EqAt.bool_none a
  | bl b=>cases q;exact SeqAt.EqAt.bool_bool a b
  | int b=>obtain⟨t,rfl⟩:=q;exact SeqAt.EqAt.bool_int a b t
  | str b=>obtain⟨t,rfl⟩:=q;exact SeqAt.EqAt.bool_str a b t
  | _=>exact absurd (show false=true from fx) zaw
 | int a=>
  obtain⟨t',rfl⟩:=z;cases x with
  | non=>cases q;exact SeqAt.EqAt.int_none a t'
  | bl b=>cases q;exact SeqAt.EqAt.int_bool a t' b
  | int b=>obtain⟨t,rfl⟩:=q;exact SeqAt.EqAt.int_int a t' b t
  | str b=>obtain⟨t,rfl⟩:=q;exact SeqAt.EqAt.int_str a t' b t
  | _=>exact absurd (show false=true from fx) zaw
 | str a=>
  obtain⟨t',rfl⟩:=z;cases x with
  | non=>cases q;exact SeqAt.EqAt.str_none a t'
  | bl b=>cases q;exact SeqAt.EqAt.str_bool a t' b
  | int b=>obtain⟨t,rfl⟩:=q;exact SeqAt.EqAt.str_int a t' b t
  | str b=>obtain⟨t,rfl⟩:=q;exact SeqAt.EqAt.str_str a t' b t
  | _=>exact absurd (show false=true from fx) zaw
 | _=>exact absurd (show false=true from B) zaw
def PQ(x:V)(u:Value):Bool:=match u with
 | .none=>QJ .non x
 | .bool b=>QJ (.bl b) x
 | .int i _=>QJ (.int i) x
 | .str z _=>QJ (.str z) x
 | _=>false
theorem J6(r:RelV y u)(f:lI y=true):PQ x u=QJ y x:=by
 cases y with
 | non=>cases r;rfl
 | bl b=>cases r;rfl
 | int i=>obtain⟨t,rfl⟩:=r;rfl
 | str z=>obtain⟨t,rfl⟩:=r;rfl
 | _=>exact absurd (show false=true from f) zaw
theorem vV:∀ {xs:List V} {us:List Value},Vals xs us->xs.all lI=true->us.any (PQ x)=xs.any λy=>QJ y x
 | _,_,.nil,_=>rfl
 | y::xs,u::us,.cons r t,f=>by
  rw[zbK,zaK]at f;rw[zbz,zbz,J6 r f.1,vV t f.2]
theorem qQ(z:RelV x v)(fx:lI x=true):∀ {xs:List V} {us:List Value},Vals xs us->xs.all lI=true->∀u∈us,zdl A s u v (PQ x u)
 | _,_,.nil,_=>λu q=>by cases q
 | y::xs,u::us,.cons r t,f=>λB q=>by
  rw[zbK,zaK]at f;rcases List.mem_cons.mp q with rfl|q
  ·rw[J6 r f.1];exact QS r z f.1 fx
  ·exact qQ z fx t f.2 B q
def inV(x:V)(xs:List V):Bool:=xs.any λy=>QJ y x
def qy(K:zaf)(neg:Bool):R2:=λx y H Q=>∃p xs,y=.ref p/\(SqL K H p xs\/SqT K H p xs)/\lI x=true/\xs.all lI=true/\Q (.bl (if neg then !inV x xs else inV x xs)) H
theorem FD:OpR X (zaq .In) (qy X.K false):=by
 intro pins s σ H x y v u Q I G J h;obtain⟨p,xs,rfl,B,fx,fs,q⟩:=h;cases J;rcases B with B|B
 ·obtain⟨z,r,F,hz⟩:=I.list B
  refine SeqAt.in_listAt (PQ x) F.isList (λw hw=>qQ G fx r fs w (by simpa using hw)) ⟨.bl _,H,I,rfl,?_⟩;rw[show z.toArray.any (PQ x)=z.any (PQ x) by simp,vV r fs];exact q
 ·obtain⟨z,r,F,hz⟩:=I.tuple B
  refine SeqAt.in_tupleAt (PQ x) F (λw hw=>qQ G fx r fs w (by simpa using hw)) ⟨.bl _,H,I,rfl,?_⟩;rw[show z.toArray.any (PQ x)=z.any (PQ x) by simp,vV r fs];exact q
theorem uS:OpR X (zaq .NotIn) (λx y H Q=>∃i j,x=.str i/\y=.str j/\Q (.bl (!(!(zdM j i 0 j.length 1).isEmpty))) H):=by
 intro pins s σ H x y v u Q I B z h;obtain⟨i,j,rfl,rfl,q⟩:=h;obtain⟨t,rfl⟩:=B;obtain⟨t',rfl⟩:=z;exact notIn_str ⟨.bl _,H,I,rfl,q⟩
theorem CallR.or(h:CallR X f r)(h':CallR X f r'):CallR X f (λxs H Q=>r xs H Q\/r' xs H Q):=by
 intro pins s σ H xs us Q I rs q;rcases q with q|q
 ·exact h pins s σ H xs us Q I rs q
 ·exact h' pins s σ H xs us Q I rs q
theorem uY:CallR X (.type "list") (λxs H Q=>∃p ys,xs=[.ref p]/\(SqL X.K H p ys\/SqT X.K H p ys)/\∀l,H l=none->Q (.ref l) (upd H l (.lst ys))):=by
 intro pins s σ H xs us Q I r h;obtain⟨p,ys,rfl,J,q⟩:=h;obtain⟨u,rfl,rx⟩:=vals1 r;cases rx;have fin:∀(z:List Value),Vals ys z->ys.length<=zaj->∀(h':Heap) (F:Nat),(∀b o',s.heap.get? b=some o'->h'.get? b=some o')->
   h'.get? s.heap.objs.size=some {cls:=.type "list",dict:=none,data:=.seq z.toArray F,slots:=#[]}->EP X pins σ Q (.ref s.heap.objs.size) {s with heap:=h'}:=λz B hz h' F M e=>
  ⟨.ref s.heap.objs.size,_,I.laid (t':=s.toks) M (zao _) (show ObjOk X.prog X.w _ h' _ (.lst ys)from⟨hz,z,F,B,e⟩),rfl,q _ (I.hok.fresh (zao _))⟩
 rcases J with J|J
 ·obtain⟨z,B,U,hz⟩:=I.list J
  have G:=B.length;obtain⟨o,W,Y,n,N⟩:=U.isList;exact call_list_seq p (.inl rfl) W Y N (λh' F M e=>fin z B hz h' F M e) (by simp only[zaA] <;> lia)
 ·obtain⟨z,B,U,hz⟩:=I.tuple J
  have G:=B.length;obtain⟨o,W,Y,n,N⟩:=U;exact call_list_seq p (.inr rfl) W Y N (λh' F M e=>fin z B hz h' F M e) (by simp only[zaA] <;> lia)
theorem sU:CallR X (.type "tuple") (λxs H Q=>∃p ys,xs=[.ref p]/\((SqL X.K H p ys/\∀l,H l=none->Q (.ref l) (upd H l (.tup ys)))\/(SqT X.K H p ys/\Q (.ref p) H))):=by
 intro pins s σ H xs us Q I r h;obtain⟨p,ys,rfl,h⟩:=h;obtain⟨u,rfl,N⟩:=vals1 r;cases N;rcases h with⟨G,q⟩|⟨G,q⟩
 ·obtain⟨z,F,B,hz⟩:=I.list G
  have J:=F.length;refine call_tuple_list B.isList (λh' W=>?_) (by simp only[zaA] <;> lia);have M:Inv X pins σ H {s with heap:=h'}:=I.kept (t':=s.toks) W;have U:Inv X pins σ (upd H h'.objs.size (.tup ys)) {s with heap:=h'.push {cls:=.type "tuple",data:=.seq z.toArray} }:=
   M.laid (t':=s.toks) (λb o e=>zag _ e) (zao _) (show ObjOk X.prog X.w _ _ _ (.tup ys)from⟨hz,z,F,IsTupN.new _ _⟩)
  exact⟨.ref h'.objs.size,_,U,rfl,q _ (M.hok.fresh (zao _))⟩
 ·obtain⟨z,F,B,hz⟩:=I.tuple G
  exact call_tuple_same B ⟨.ref p,H,I,rfl,q⟩
def tyV(K:zaf)(T:String)(x:V)(H:Hp):Prop:=match x with
 | .str _=>T = "str"
 | .int _=>T = "int"
 | .ref p=>(T = "list" /\ ∃xs,SqL K H p xs)\/(T = "tuple" /\ ∃o,K.lookup p=some o/\o.cls=.type "tuple" /\ o.dict=none) \/
   (T = "dict" /\ ((∃kvs,H p=some (.dK kvs))\/∃kvs,H p=some (.dT kvs)))\/(T = "set" /\ ∃S n,H p=some (.set S n))
 | _=>False
theorem RF(I:Inv X pins σ H s)(r:RelV x v)(ty:tyV X.K T x H) :
  s.TypeIs v T/\∀a,v=.ref a->∃ob,s.heap.get? a=some ob/\ob.dict=none:=by
 cases x with
 | str z=>
  obtain⟨t,rfl⟩:=r;cases(show T = "str" from ty);exact⟨typeIs_str s z t,λ_ e=>nomatch e⟩
 | int i=>
  obtain⟨t,rfl⟩:=r;cases(show T = "int" from ty);exact⟨zcG s i t,λ_ e=>nomatch e⟩
 | ref p=>
  cases r;rcases ty with⟨rfl,xs,M⟩|⟨rfl,o,q,J,B⟩|⟨rfl,q⟩|⟨rfl,S,n,q⟩
  ·obtain⟨N,_,G,_⟩:=I.list M
   refine⟨G.isList.typeIs,λa e=>?_⟩;cases e;obtain⟨o,n,e,c,B,_⟩:=G;exact⟨o,e,B⟩
  ·refine⟨⟨o,I.kIn p o q,J⟩,λa e=>?_⟩
   cases e;exact⟨o,I.kIn _ o q,B⟩
  ·have z:∃o,s.heap.get? p=some o/\o.ExactDict:=by
    rcases q with⟨kvs,q⟩|⟨kvs,q⟩
    ·obtain⟨_,_,_,_,o,_,_,e,ex,_⟩:=I.hok p _ q
     exact⟨o,e,ex⟩
    ·obtain⟨_,_,_,_,o,_,_,e,ex,_⟩:=I.hok p _ q
     exact⟨o,e,ex⟩
   obtain⟨o,e,ex⟩:=z;refine⟨⟨o,e,ex.1⟩,λa F=>?_⟩;cases F;exact⟨o,e,ex.2.1⟩
  ·obtain⟨o,_,_,_,e,ex,_⟩:=I.hok p _ q
   refine⟨⟨o,e,ex.1⟩,λa F=>?_⟩;cases F;exact⟨o,e,ex.2.1⟩
 | _=>exact zbE ty
def qr(K:zaf)(T:String)(r:V->List V->Hp->VK->Prop)(to:TE)(t:TA):TE:=λσ H Q=>to σ H λx H1=>tyV K T x H1/\t σ H1 λxs H2=>r x xs H2 Q
variable {o e:Expr}{es:List Expr}{to:TE}{t:TA}{name:Str}{apos cpos:Pos}{T id:String}{r:V->List V->Hp->VK->Prop}
theorem P5(pa:PlainAttrs T)(G:Slot T name id)(J:typeOf (.builtin id)=pure (.type "method_descriptor"))(W:MtR X id r)(ho:PE X o to)(ha:PA X (e::es) t)
  (z:zcH o name X.env (eval o X.env)=eval o X.env:=by rfl)
  (F:((zaJ cpos (zah (e::es) X.env)).all (λx => !x.1) && (zcD cpos (zcE [] X.env)).all (λx => x.1.isSome)
   && decide ((e::es).length+([]:List zbG).length+(if([]:List zbG).isEmpty then 0 else 1)<30))=true:=by rfl)
  (B:(apos.endLine == cpos.line)=true:=by rfl) (hs:zah (e::es) X.env=(false,eval e X.env)::zah es X.env:=by rfl) (q:(zaJ cpos (zah es X.env)).any (·.1)=false:=by rfl) :
  PE X (.Call (.Attribute o name apos) (e::es) [] cpos) (qr X.K T r to t):=by
 intro pins s σ H Q I h;refine wpAny_Call_method_late z F B rfl (bN (ho pins s σ H _ I h) λv Y ⟨x,H1,N,U,ty,q1⟩=>?_);obtain⟨h1,h2⟩:=RF N U ty;refine⟨T,id,pa,G,J,h1,h2,?_⟩;have M:=ha cpos pins Y σ H1 _ N q1;rw[hs]at M ⊢;refine zdV (by show(false || (zaJ cpos (zah es X.env)).any (·.1))=false;rw[q] <;> rfl) (zeS ?_);exact bN M λus s2 ⟨vs,H2,I2,r2,q2⟩=>W pins s2 σ H2 x vs v us Q I2 U r2 q2
end
def qq(X:Cx)(id:String)(r:V->List V->Hp->VK->Prop):Prop:=
 ∀(pins:List (Addr×Obj)) (s:zab) (σ:St) (H:Hp) (x:V) (xs:List V) (v:Value) (us:List Value) (Q:VK),Inv X pins σ H s->RelV x v->Vals xs us->r x xs H Q->
  wpAny (model X.prog X.w) X.A (call (.builtin id) (v::us)) (EP X pins σ Q) X.xe s
theorem Vals.one:∀ {x:V} {us:List Value},Vals [x] us->∃u,us=[u]/\RelV x u
 | _,_,.cons r .nil=>⟨_,rfl,r⟩
theorem Vals.two:∀ {x y:V} {us:List Value},Vals [x,y] us->∃u v,us=[u,v]/\RelV x u/\RelV y v
 | _,_,_,.cons r (.cons q .nil)=>⟨_,_,rfl,r,q⟩
theorem Vals.zero:∀ {us:List Value},Vals [] us->us=[]
 | _,.nil=>rfl
theorem Vals.dropLast(h:Vals xs us):Vals xs.dropLast us.dropLast:=by
 induction h with
 | nil=>exact .nil
 | cons r t ih=>
  cases t with
  | nil=>exact .nil
  | cons q t'=>exact .cons r ih
theorem Vals.rep(h:Vals xs us):∀k:Nat,Vals (zaP k xs).flatten (zaP k us).flatten
 | 0=>.nil
 | k+1=>by
  rw[zcu,zcu,zcI,zcI];exact Vals.append h (Vals.rep h k)
theorem foldl_rep(q:List Value):∀(k:Nat) (acc:List Value),
  List.foldl (λB z=>B++z) acc.toArray (zaP k q.toArray)=(acc++(zaP k q).flatten).toArray
 | 0,acc=>by simp
 | k+1,acc=>by
  have e:acc.toArray++q.toArray=(acc++q).toArray:=by simp
  have F:(acc++q)++(zaP k q).flatten=acc++(zaP (k+1) q).flatten:=by
   rw[zcu,zcI,List.append_assoc]
  rw[<- F,<- foldl_rep q k (acc++q),<- e,zcu,zcJ]
section
variable {X:Cx}{pins:List (Addr×Obj)}{σ:St}{H:Hp}{s:zab}{l b:Addr}{xs ys zs:List V}
theorem Inv.lset{z its':List Value}{n:Nat}{f:Array Value->Array Value}{t':Nat}(I:Inv X pins σ H s)(M:H l=some (.lst xs))
  (e:s.heap.get? l=some {cls:=.type "list",data:=.seq z.toArray n}) (G:f z.toArray=its'.toArray) (F:Vals ys its') (hz:ys.length<=zaj) :
  Inv X pins σ (upd H l (.lst ys)) {s with heap:=s.heap.update l (zbj f),toks:=t'}:=by
 have q:=PySem.IsL.update e f;rw[G]at q;refine I.write (x:=l) (e:=l) (by rw[M];exact trivial) (.inl rfl) (λN u B J=>(zbJ s.heap (zbj f) (zaS B)).trans J) ⟨_,q⟩ ?_;exact⟨hz,its',_,F,q⟩
theorem Inv.lnew(I:Inv X pins σ H s)(z:Vals ys its)(hz:ys.length<=zaj) :
  Inv X pins σ (upd H s.heap.objs.size (.lst ys)) {s with heap:=s.heap.push {cls:=.type "list",data:=.seq its.toArray},toks:=t'}:=
 I.laid (λ_ _ q=>zag _ q) (zao _) ⟨hz,its,0,z,zat _ rfl⟩
theorem Inv.fresh(I:Inv X pins σ H s):H s.heap.objs.size=none:=I.hok.fresh (zao _)
theorem Inv.lstM(I:Inv X pins σ H s)(B:H l=some (.lst xs)):xs.length<=zaj/\∃(q:List Value) (n:Nat),Vals xs q/\xs.length=q.length/\s.heap.get? l=some {cls:=.type "list",data:=.seq q.toArray n}:=by
 obtain⟨z,q,n,r,e⟩:=I.hok l _ B;exact⟨z,q,n,r,r.length,e⟩
theorem IC(h:n<=zaj):zeT n=false:=by
 unfold zeT;exact decide_eq_false (by lia)
end
section
variable {X:Cx}
def DB:V->List V->Hp->VK->Prop:=λx vs H Q=>∃l xs y,x=.ref l/\vs=[y]/\H l=some (.lst xs)/\xs.length<zaj/\Q .non (upd H l (.lst (xs++[y])))
theorem tP:qq X "list.append" DB:=by
 intro pins s σ H x vs v us Q I J M h;obtain⟨l,xs,y,rfl,rfl,G,hz,q⟩:=h;cases J;obtain⟨u,rfl,N⟩:=M.one;obtain⟨z,B,n,r,U,e⟩:=I.lstM G;refine zcv F.slot_list_append ⟨_,e,rfl⟩ F.entry_list_append (F.args_list_append_2 _ _) (PySem.list_append l B.toArray n u (by rw[zaA];lia)) ⟨e,?_⟩;refine⟨.non,_,I.lset (its':=B++[u]) G e (by simp) (r.append (.cons N .nil)) ?_,rfl,q⟩;rw[zbu,List.length_singleton]
 lia
theorem len_rep{q:Type}(xs:List q)(k:Nat):(zaP k xs).flatten.length=k*xs.length:=by
 induction k with
 | zero=>simp
 | succ k ih=>rw[zcu,zcI,zbu,ih,Nat.succ_mul,Nat.add_comm]
end
section
variable {prog:zap}{w:World}{A:zas}{E:Value->zab->Prop}{s:zab}
end
section
variable {X:Cx}
end
section
variable {κ:Type}[DecidableEq κ]
noncomputable def lM(kvs:List (κ×V))(k:κ):Option V:=(kvs.find? λq=>decide (q.1=k)).map (·.2)
noncomputable def putK(kvs:List (κ×V))(k:κ)(v:V):List (κ×V):=
 if(kvs.any λq=>decide (q.1=k))=true then kvs.map (λq=>if q.1=k then(q.1,v)else q)else kvs++[(k,v)]
noncomputable def QA(kvs:List (κ×V))(k:κ):List (κ×V):=kvs.filter λq=>decide (q.1≠k)
theorem kW{p:κ×V}{r:List (κ×V)}{k:κ}(e:p.1=k):lM (p::r) k=some p.2:=by simp[lM,za8,e]
theorem kX{p:κ×V}{r:List (κ×V)}{k:κ}(e:¬ p.1=k):lM (p::r) k=lM r k:=by simp[lM,za8,e]
theorem xX(k:κ):∀kvs:List (κ×V),(kvs.any λq=>decide (q.1=k))=(lM kvs k).isSome
 | []=>rfl
 | p::r=>by
  rw[zbz];by_cases e:p.1=k
  ·simp only[kW e,decide_eq_true e,Bool.true_or,Option.isSome_some]
  ·rw[kX e,decide_eq_false e,Bool.false_or];exact xX k r
theorem cL(kvs:List (κ×V))(k:κ)(v:V):(putK kvs k v).length<=kvs.length+1:=by
 unfold putK;split
 ·rw[zal];lia
 ·rw[zbu,za3,zcW];lia
theorem RelO.isSome_eq(r:RelO o u):o.isSome=u.isSome:=by
 cases o with
 | none=>cases u with
  | none=>rfl
  | some _=>exact(show False from r).elim
 | some _=>cases u with
  | none=>exact(show False from r).elim
  | some _=>rfl
theorem RelO.getD(r:RelO o u)(q:RelV d d'):RelV (o.getD d) (u.getD d'):=by
 cases o with
 | none=>cases u with
  | none=>exact q
  | some _=>exact(show False from r).elim
 | some _=>cases u with
  | none=>exact(show False from r).elim
  | some _=>exact r
theorem KV.val(r:KV kvs vs)(k:κ):RelO (lM kvs k) (zcK vs k):=by
 unfold KV at r;induction r with
 | nil=>exact zbh
 | @cons p q ps qs h t ih=>
  obtain⟨h1,h2⟩:=h;by_cases e:p.1=k
  ·have B:q.1=k:=h1.symm.trans e
   have b:zcK (q::qs) k=some q.2:=by simp[zcK,za8,B]
   rw[kW e,b];exact h2
  ·have B:¬ q.1=k:=λz=>e (h1.trans z)
   have b:zcK (q::qs) k=zcK qs k:=by simp[zcK,za8,B]
   rw[kX e,b];exact ih
theorem KV.any(r:KV kvs vs)(k:κ):(kvs.any λq=>decide (q.1=k))=vs.any λq=>decide (q.1=k):=by
 unfold KV at r;induction r with
 | nil=>rfl
 | cons h t ih=>rw[zbz,zbz,ih,h.1]
theorem KV.repl(r:KV kvs vs)(k:κ)(F:RelV y u) :
  KV (kvs.map λB=>if B.1=k then(B.1,y)else B) (vs.map λB=>if B.1=k then(B.1,u)else B):=by
 unfold KV at r ⊢;induction r with
 | nil=>exact .nil
 | @cons p q ps qs h t ih=>
  rw[zak,zak];refine .cons ?_ ih;obtain⟨h1,h2⟩:=h;by_cases e:p.1=k
  ·rw[if_pos e,if_pos (h1.symm.trans e)];exact⟨h1,F⟩
  ·rw[if_neg e,if_neg (λz=>e (h1.trans z))];exact⟨h1,h2⟩
theorem KV.put(r:KV kvs vs)(k:κ)(q:RelV y u):KV (putK kvs k y) (stored vs k u):=by
 unfold putK stored;rw[r.any k];by_cases e:(vs.any λz=>decide (z.1=k))=true
 ·rw[if_pos e,if_pos e];exact r.repl k q
 ·rw[if_neg e,if_neg e];exact Paired.snoc r ⟨rfl,q⟩
theorem KV.drop(r:KV kvs vs)(k:κ):KV (QA kvs k) (without vs k):=by
 unfold KV at r ⊢;unfold QA without;induction r with
 | nil=>exact .nil
 | @cons p q ps qs h t ih=>
  obtain⟨h1,h2⟩:=h;rw[zdW,zdW];by_cases e:p.1=k
  ·have a:¬ decide (p.1≠k)=true:=by simp[e]
   have b:¬ decide (q.1≠k)=true:=by simp[h1.symm.trans e]
   rw[if_neg a,if_neg b];exact ih
  ·have B:¬ q.1=k:=λz=>e (h1.trans z)
   have a:decide (p.1≠k)=true:=by simp[e]
   have b:decide (q.1≠k)=true:=by simp[B]
   rw[if_pos a,if_pos b];exact .cons ⟨h1,h2⟩ ih
theorem KV.length(r:KV kvs vs):kvs.length=vs.length:=zbO r
end
theorem lJ(r:RelV (kV k) u):(aV P w).is k u=true:=by
 cases k with
 | inl i=>obtain⟨t,e⟩:=(show ∃t,u=Value.int i t from r);subst e;exact xM P w i t
 | inr x=>obtain⟨t,e⟩:=(show ∃t,u=Value.str x t from r);subst e;exact xC P w x t
theorem uA:∀ {ks:List Key} {us:List Value},Vals (ks.map kV) us->ItemsAre (aV P w) ks us
 | [],_,r=>by rw[zb1]at r;cases r;exact .nil
 | k::ks,_,r=>by
  rw[zak]at r;cases r with
  | cons h t=>exact .cons (lJ h) (uA t)
abbrev KT(H:Hp):List (List Key×V)->List (List Key×Addr×Value)->Prop:=zaU λp q=>p.1=q.1/\H q.2.1=some (.tup (p.1.map kV))/\RelV p.2 q.2.2
theorem KT.val(r:KT H kvs xs)(k:List Key):RelO (lM kvs k) ((atKey xs k).map (·.2)):=by
 induction r with
 | nil=>exact zbh
 | @cons p q ps qs h t ih=>
  obtain⟨h1,_,h2⟩:=h;by_cases e:p.1=k
  ·have B:q.1=k:=h1.symm.trans e
   have b:atKey (q::qs) k=some q.2:=by simp[atKey,za8,B]
   rw[kW e,b];exact h2
  ·have B:¬ q.1=k:=λz=>e (h1.trans z)
   have b:atKey (q::qs) k=atKey qs k:=by simp[atKey,za8,B]
   rw[kX e,b];exact ih
theorem KT.repl(r:KT H kvs xs)(k:List Key)(G:RelV y u) :
  KT H (kvs.map λB=>if B.1=k then(B.1,y)else B) (xs.map (putAt k u)):=by
 induction r with
 | nil=>exact .nil
 | @cons p q ps qs h t ih=>
  rw[zak,zak];refine .cons ?_ ih;obtain⟨h1,h2,F⟩:=h;unfold putAt;by_cases e:p.1=k
  ·rw[if_pos e,if_pos (h1.symm.trans e)];exact⟨h1,h2,G⟩
  ·rw[if_neg e,if_neg (λz=>e (h1.trans z))];exact⟨h1,h2,F⟩
theorem KT.put(r:KT H kvs xs)(k:List Key)(B:H b=some (.tup (k.map kV)))(z:RelV y u) :
  KT H (putK kvs k y) (storedH xs k b u):=by
 have e:(kvs.any λF=>decide (F.1=k))=(atKey xs k).isSome:=by
  rw[xX,(r.val k).isSome_eq,zdX]
 unfold putK storedH;rw[e];by_cases q:(atKey xs k).isSome=true
 ·rw[if_pos q,if_pos q];exact r.repl k z
 ·rw[if_neg q,if_neg q];exact Paired.snoc r ⟨rfl,B,z⟩
theorem KT.keeps(r:KT H kvs xs)(q:∀b ys,H b=some (.tup ys)->H' b=some (.tup ys)):KT H' kvs xs:=
 Paired.mapP r λ_ _ z=>⟨z.1,q _ _ z.2.1,z.2.2⟩
section
variable {P:zap}{w:World}{H:Hp}{h:Heap}{a:Addr}
theorem QB(ok:HOk P w H h)(e:Rd H a u):ObjOk P w H h a u:=e.ok ok
theorem lH(ok:HOk P w H h)(e:Rd H a (.dK kvs)):kvs.length<=zaj/\(a == za9)=false/\∃vs,KV kvs vs/\h.DictOf (aV P w) a vs:=
 show ObjOk P w H h a (.dK kvs)from QB ok e
theorem K4(ok:HOk P w H h)(e:H a=some (.dK kvs)):kvs.length<=zaj/\(a == za9)=false/\∃vs,KV kvs vs/\h.DictOf (aV P w) a vs:=lH ok (.inl e)
theorem gO(ok:HOk P w H h)(e:H a=some (.tup (ks.map kV))):(za2 (aV P w)).is h ks a:=by
 obtain⟨_,q,r,o,h1,h2,n,z⟩:=(show ObjOk P w H h a (.tup (ks.map kV))from ok a _ e);exact⟨o,q.toArray,n,h1,h2,z.1,by simpa using uA r⟩
theorem nO(ok:HOk P w H h)(e:Rd H a (.dT kvs)):kvs.length<=zaj/\(a == za9)=false /\
  ∃xs,KT H kvs xs/\h.DictOfH (za2 (aV P w)) a xs:=by
 obtain⟨z,y,xs,r,o,es,ep,h1,h2,G,J,F⟩:=(show ObjOk P w H h a (.dT kvs)from QB ok e);refine⟨z,y,xs,r,o,es,ep,h1,h2,G,J,λx B=>?_,F⟩;have all:∀ {l:List (List Key×V)} {m:List (List Key×Addr×Value)},KT H l m->∀x∈m,(za2 (aV P w)).is h x.1 x.2.1:=by
  intro l m q;induction q with
  | nil=>intro x B;exact nomatch B
  | @cons p q ps qs hq t ih=>
   intro x B;rcases List.mem_cons.mp B with e|B
   ·subst e
    exact gO ok (by rw[<- hq.1];exact hq.2.1)
   ·exact ih x B
 exact all r x B
theorem K3(ok:HOk P w H h)(e:H a=some (.dT kvs)):kvs.length<=zaj/\(a == za9)=false /\
  ∃xs,KT H kvs xs/\h.DictOfH (za2 (aV P w)) a xs:=nO ok (.inl e)
end
def DGet(H:Hp)(a:Addr)(y:V)(r:Option V):Prop:=
 (∃kvs k,Rd H a (.dK kvs)/\y=kV k/\r=lM kvs k)\/∃kvs k b,Rd H a (.dT kvs)/\y=.ref b/\H b=some (.tup (k.map kV))/\r=lM kvs k
def DPut(H:Hp)(a:Addr)(y v:V)(H':Hp):Prop:=
 (∃kvs k,H a=some (.dK kvs)/\y=kV k/\kvs.length<zaj/\H'=upd H a (.dK (putK kvs k v))) \/
 ∃kvs k b,H a=some (.dT kvs)/\y=.ref b/\H b=some (.tup (k.map kV))/\kvs.length<zaj/\H'=upd H a (.dT (putK kvs k v))
theorem DGet.k{H:Hp}{a:Addr}{kvs:List (Key×V)}{k:Key}(e:H a=some (.dK kvs)):DGet H a (kV k) (lM kvs k):=.inl ⟨kvs,k,.inl e,rfl,rfl⟩
theorem DGet.t{H:Hp}{a b:Addr}{kvs:List (List Key×V)}{k:List Key}(e:H a=some (.dT kvs))(q:H b=some (.tup (k.map kV))):DGet H a (.ref b) (lM kvs k):=.inr ⟨kvs,k,b,.inl e,rfl,q,rfl⟩
theorem DPut.k{H:Hp}{a:Addr}{kvs:List (Key×V)}{k:Key}{v:V}(e:H a=some (.dK kvs))(q:kvs.length<zaj):DPut H a (kV k) v (upd H a (.dK (putK kvs k v))):=.inl ⟨kvs,k,e,rfl,q,rfl⟩
theorem DPut.t{H:Hp}{a b:Addr}{kvs:List (List Key×V)}{k:List Key}{v:V}(e:H a=some (.dT kvs))(z:H b=some (.tup (k.map kV)))(q:kvs.length<zaj) :
  DPut H a (.ref b) v (upd H a (.dT (putK kvs k v))):=.inr ⟨kvs,k,b,e,rfl,z,q,rfl⟩
section
variable {X:Cx}{pins:List (Addr×Obj)}{σ:St}{H:Hp}{s:zab}{a:Addr}{y v:V}{u r:Value}{o:Option V}{A:zas}{E:Value->zab->Prop}
theorem Inv.big(I:Inv X pins σ H s):za9<s.heap.objs.size:=by
 have h:za1<s.heap.objs.size:=(I.mod.glob.keeps I.bk).lt;exact zcL (by decide) h
theorem FX(U:A.units+1<cLine)(I:Inv X pins σ H s)(g:DGet H a y (some v))(M:RelV y u)(h:∀F s',Inv X pins σ H s'->RelV v F->Q F s') :
  wpAny (model X.prog X.w) A (zb0 (.ref a) u) Q E s:=by
 rcases g with⟨kvs,k,e,G,l⟩|⟨kvs,k,b,e,G,Y,l⟩
 ·subst G
  obtain⟨z,N,vs,q,dd⟩:=lH I.hok e;obtain⟨F,hw,B⟩:=RelO.some_of (v:=v) (o:=zcK vs k) (by rw[l];exact q.val k);exact wpAny_getItem_of (lJ M) dd.mapOf hw (h F _ (I.tok _) B)
 ·subst G
  cases(show u=zan b from M);obtain⟨z,N,xs,q,dd⟩:=nO I.hok e;obtain⟨F,hw,B⟩:=RelO.some_of (v:=v) (o:=(atKey xs k).map (·.2)) (by rw[l];exact q.val k);obtain⟨p,W,J⟩:=Option.map_eq_some_iff.mp hw;refine wpAny_getItem_heap (zcX U) (gO I.hok Y) dd W ?_;rw[J];exact h F _ (I.tok _) B
theorem qa(M:A.units+1<cLine)(I:Inv X pins σ H s)(g:DGet H a y o)(J:RelV y u)(h:∀s',Inv X pins σ H s'->Q (.bool o.isSome) s') :
  wpAny (model X.prog X.w) A (zaq .In u (.ref a)) Q E s:=by
 rcases g with⟨kvs,k,e,G,l⟩|⟨kvs,k,b,e,G,N,l⟩
 ·subst G
  obtain⟨z,F,vs,B,dd⟩:=lH I.hok e;refine wpAny_in_of (lJ J) F dd.mapOf ?_;rw[<- (B.val k).isSome_eq,<- l];exact h _ (I.tok _)
 ·subst G
  cases(show u=zan b from J);obtain⟨z,F,xs,B,dd⟩:=nO I.hok e;refine wpAny_in_heap (zcX M) (gO I.hok N) F dd ?_;have q:=(B.val k).isSome_eq;rw[zdX]at q;rw[<- q,<- l];exact h _ (I.tok _)
theorem N8(M:A.units+1<cLine)(I:Inv X pins σ H s)(g:DGet H a y o)(J:RelV y u)(h:∀s',Inv X pins σ H s'->Q (.bool (!o.isSome)) s') :
  wpAny (model X.prog X.w) A (zaq .NotIn u (.ref a)) Q E s:=by
 rcases g with⟨kvs,k,e,G,l⟩|⟨kvs,k,b,e,G,N,l⟩
 ·subst G
  obtain⟨z,F,vs,B,dd⟩:=lH I.hok e;refine wpAny_notIn_of (lJ J) F dd.mapOf ?_;rw[<- (B.val k).isSome_eq,<- l];exact h _ (I.tok _)
 ·subst G
  cases(show u=zan b from J);obtain⟨z,F,xs,B,dd⟩:=nO I.hok e;refine wpAny_notIn_heap (zcX M) (gO I.hok N) F dd ?_;have q:=(B.val k).isSome_eq;rw[zdX]at q;rw[<- q,<- l];exact h _ (I.tok _)
theorem iW(I:Inv X pins σ H s)(F:YE (H a))(hs:zaT a s.heap h')(B:∃q,h'.get? a=some q)(new:ObjOk X.prog X.w (upd H a ob) h' a ob) :
  Inv X pins σ (upd H a ob) {s with heap:=h',toks:=t'}:=
 I.write (x:=a) (e:=a) F (.inl rfl) (λb q G z=>(hs.2 b G).trans z) B new
theorem BX(z:kvs.length<=zaj)(B:(a == za9)=false)(q:KV kvs vs)(dd:h'.DictOf (aV P w) a vs) :
  ObjOk P w H' h' a (.dK kvs):=⟨z,B,vs,q,dd⟩
theorem EO(hu:A.units+1<cLine)(I:Inv X pins σ H s)(g:DPut H a y v H')(Y:RelV y u)(W:RelV v r)(h:∀s',Inv X pins σ H' s'->Q () s') :
  wpAny (model X.prog X.w) A (setItem (.ref a) u r) Q E s:=by
 rcases g with⟨kvs,k,e,M,l,N⟩|⟨kvs,k,b,e,M,eb,l,N⟩
 ·subst M N
  obtain⟨z,J,vs,B,dd⟩:=K4 I.hok e;have hz:vs.length<=zaj:=by rw[<- B.length];exact z
  have U:(putK kvs k v).length<=zaj:=by have:=cL kvs k v;lia
  refine wpAny_setItem_pairs (hsz:=hz) (lJ Y) dd λh' F hs=>h _ ?_
  have he:∃q,h'.get? a=some q:=let ⟨q,_,_,G,_⟩:=F;⟨q,G⟩;exact iW I (by rw[e];exact zbh) hs he (BX U J (B.put k W) F)
 ·subst M N
  cases(show u=zan b from Y);obtain⟨z,J,xs,B,dd⟩:=K3 I.hok e;have hz:xs.length<=zaj:=by rw[<- zbO B];exact z
  have U:(putK kvs k v).length<=zaj:=by have:=cL kvs k v;lia
  refine wpAny_setItem_heap (hsz:=hz) (zcX hu) (gO I.hok eb) dd λh' F hs=>h _ ?_
  obtain⟨q,es,ep,G,h2,h3,h4,_,h5⟩:=F;refine iW I (by rw[e];exact zbh) hs ⟨q,G⟩ ⟨U,J,_,(B.put k eb W).keeps λc ys ec=>?_,q,es,ep,G,h2,h3,h4,h5⟩;rw[aE (DZ ec e (λz=>nomatch z))];exact ec
end
section
variable {X:Cx}{pins:List (Addr×Obj)}{σ:St}{H:Hp}{s:zab}{a:Addr}{kvs:List (Key×V)}{k:Key}{u:Value}{A:zas}{E:Value->zab->Prop}
theorem WW(I:Inv X pins σ H s)(e:Rd H a (.dK kvs))(h:∀t s',Inv X pins σ H s'->Q (.int kvs.length t) s'):wpAny (model X.prog X.w) A (call (.builtin "len") [.ref a]) Q E s:=by
 obtain⟨z,B,vs,q,dd⟩:=lH I.hok e;refine call_len_dict B dd (by rw[<- q.length];rw[zce]at z;lia) ?_;rw[<- q.length];exact h _ _ (I.tok _)
end
def XT(i:Expr):Prop:=∀q z,zdU i false q z=operate [q,z] (zb0 q z)
theorem NT{E:Value->zab->Prop}{T id:String}{Q:Value->zab->Prop}
  (M:typeLookup (.type T) "__getitem__" = pure (some (.builtin id))) (hs:XT slice)
  (h:wpAny (model prog w) A (eval value env) (λo B=>wpAny (model prog w) A (eval slice env) (λi q=>q.TypeIs o T/\wpAny (model prog w) A (zb0 o i) Q E q) E B) E s) :
  wpAny (model prog w) A (eval (.Subscript value slice pos) env) Q E s:=by
 refine Subscript_ (zba h (λo B J=>zba J (λi q z=>?_) λ_ _ x=>x) λ_ _ x=>x);obtain⟨hT,z⟩:=z;unfold subscriptTail;refine zaa ?_;rw[getitemInPython_of_ne hT.not_modules];refine zaa (zeU hT M ?_);have fin:wpAny (model prog w) A (zdU slice false o i) (λr F=>wpAny (model prog w) A (letTemporaryGo value o r >>= λ_=>pure r) Q E F) E q:=by
  rw[hs o i];exact wpAny_operating (zba z (λr F G=>zaa (wpAny_letTemporaryGo (zac G))) λ_ _ x=>x)
 first
  | exact zac (zaa fin)
  | exact zaa (zac (zaa fin))
  | exact zaa fin
theorem xN(I:Inv X pins σ H s)(g:DGet H a y o):s.TypeIs (.ref a) "dict" := by
 rcases g with⟨kvs,k,e,_,_⟩|⟨kvs,k,b,e,_,_,_⟩
 ·obtain⟨_,_,vs,_,dd⟩:=lH I.hok e
  exact dd.typeIs
 ·obtain⟨_,_,xs,_,dd⟩:=nO I.hok e
  exact dd.typeIs
def PY(td ty:TE):TE:=λσ H Q=>td σ H λx H1=>ty σ H1 λy H2=>∃a v,x=.ref a/\DGet H2 a y (some v)/\Q v H2
def WI(td ty tv:TE):TS:=λD σ H=>tv σ H λv H1=>td σ H1 λx H2=>ty σ H2 λy z=>∃a q,x=.ref a/\DPut z a y v q/\D.nx σ q
section
variable {X:Cx}{o i e value:Expr}{pos pos' tpos:Pos}{td ty tv:TE}
theorem M7(M:X.A.units+1<cLine)(B:PE X o td)(hi:PE X i ty)(hs:XT i):PE X (.Subscript o i pos) (PY td ty):=by
 intro pins s σ H Q I h;refine NT PySem.F.slot_dict_getitem.lookup hs (bN (B pins s σ H _ I h) λu U ⟨x,H1,N,J,W⟩=>bN (hi pins U σ H1 _ N W) λiv s2 ⟨y,H2,z,Y,a,v,ex,g,q2⟩=>?_);subst ex;obtain rfl:u=zan a:=J;exact⟨xN z g,FX M z g Y λw' s3 G q=>⟨v,H2,G,q,q2⟩⟩
theorem MJ(hu:X.A.units+1<cLine)(Y:PE X o td)(hi:PE X i ty)(hv:PE X value tv)(hs:za6 value (some (.Subscript o i pos')) pos.line X.env=pure false) :
  PS X (.Assign [.Subscript o i pos'] value pos) (WI td ty tv):=by
 intro pins s σ H D I h;refine wpAny_Assign_Subscript (bN (hv pins s σ H _ I h) λr z ⟨v,H1,G,q,J⟩=>bN (Y pins z σ H1 _ G J) λu s2 ⟨x,H2,W,N,q2⟩=>bN (hi pins s2 σ H2 _ W q2) λiv s3 ⟨y,H3,F,B,a,H4,ex,g,M⟩=>?_) hs;subst ex;obtain rfl:u=zan a:=N;exact EO hu F g B q λs4 U=>⟨σ,H4,U,M⟩
end
theorem qO(h:Heap)(q:za9<h.objs.size):ObjOk P w H (h.push {cls:=.type "dict",data:=.dict #[]}) h.objs.size (.dK []):=
 ⟨zaZ _,beq_eq_false_iff_ne.mpr (zaS (zaz q)),[],.nil,Heap.DictOf.new h⟩
theorem qV(h:Heap)(q:za9<h.objs.size):ObjOk P w H (h.push {cls:=.type "dict",data:=.dict #[]}) h.objs.size (.dT []):=
 ⟨zaZ _,beq_eq_false_iff_ne.mpr (zaS (zaz q)),[],.nil,_,#[],0,zat _ rfl,⟨rfl,rfl,rfl⟩,rfl,rfl,zcY⟩
def RI:TE:=λ_ H Q=>∀p,H p=none->Q (.ref p) (upd H p (.dK []))
def SL:TE:=λ_ H Q=>∀p,H p=none->Q (.ref p) (upd H p (.dT []))
section
variable {X:Cx}{pos:Pos}
theorem IB:PE X (.Dict [] [] pos) RI:=λpins s σ H Q I h=>
 wpAny_Dict_empty ⟨.ref s.heap.objs.size,_,I.laid (a:=s.heap.objs.size) (o:=.dK []) (t':=s.toks) (λ_ _ q=>zag _ q) (zao _) (qO s.heap I.big),rfl,h _ (I.hok.fresh (zao _))⟩
theorem HN:PE X (.Dict [] [] pos) SL:=λpins s σ H Q I h=>
 wpAny_Dict_empty ⟨.ref s.heap.objs.size,_,I.laid (a:=s.heap.objs.size) (o:=.dT []) (t':=s.toks) (λ_ _ q=>zag _ q) (zao _) (qV s.heap I.big),rfl,h _ (I.hok.fresh (zao _))⟩
end
def B2:List (TE×TE)->St->Hp->(List (V×V)->Hp->Prop)->Prop
 | [],_,H,Q=>Q [] H
 | (tk,tv)::r,σ,H,Q=>tk σ H λx H1=>tv σ H1 λy H2=>B2 r σ H2 λps H3=>Q ((x,y)::ps) H3
abbrev VV:List (V×V)->List (Value×Value)->Prop:=zaU λp q=>RelV p.1 q.1/\RelV p.2 q.2
def YN(X:Cx)(pos:Pos)(z:List (Option Expr))(q:List Expr)(B:List (TE×TE)):Prop:=
 ∀(pins:List (Addr×Obj)) (s:zab) (σ:St) (H:Hp) (Q:List (V×V)->Hp->Prop),Inv X pins σ H s->B2 B σ H Q->
  wpAny (model X.prog X.w) X.A (evalPairs (pairTrees z q X.env pos)) (λvs s'=>∃ps H',Inv X pins σ H' s'/\VV ps vs/\Q ps H') X.xe s
theorem MX:YN X pos [] [] []:=λpins s σ H Q I h=>pairTrees_nil_walk ⟨[],H,I,.nil,h⟩
theorem IN(hk:PE X k tk)(M:PE X v tv)(G:YN X pos ks vs trs) :
  YN X pos (some k::ks) (v::vs) ((tk,tv)::trs):=λpins s σ H Q I h=>
 pairTrees_cons_walk (bN (hk pins s σ H _ I h) λu Y ⟨x,H1,N,J,W⟩=>bN (M pins Y σ H1 _ N W) λw2 z ⟨y,H2,U,ry,q2⟩=>
  bN (G pins z σ H2 _ U q2) λws s3 ⟨ps,H3,F,q,B⟩=>⟨(x,y)::ps,H3,F,.cons ⟨J,ry⟩ q,B⟩)
def rV(kvs more:List (Key×V)):List (Key×V):=more.foldl (λq z=>putK q z.1 z.2) kvs
theorem KV.merge:∀ {more:List (Key×V)} {rs:List (Key×Value)} {kvs:List (Key×V)} {vs:List (Key×Value)},KV more rs->KV kvs vs->KV (rV kvs more) (merged vs rs):=by
 intro more rs kvs vs r;unfold KV at r;induction r generalizing kvs vs with
 | nil=>intro q;exact q
 | @cons p q ps qs h t ih=>
  intro z;have e:KV (putK kvs p.1 p.2) (stored vs q.1 q.2):=by
   have:=z.put p.1 h.2;rw[<- h.1];exact this
  exact ih e
theorem jA:∀(more kvs:List (Key×V)),(rV kvs more).length<=kvs.length+more.length
 | [],kvs=>by show kvs.length<=kvs.length+0;lia
 | p::r,kvs=>by
  have h1:=jA r (putK kvs p.1 p.2);have h2:=cL kvs p.1 p.2;show(rV (putK kvs p.1 p.2) r).length<=_;rw[za3];lia
theorem pZ:∀ {kvs:List (Key×V)} {ws:List (Value×Value)},VV (kvs.map λz=>(kV z.1,z.2)) ws->∃rs,Carries (aV P w) ws rs/\KV kvs rs
 | [],_,r=>by rw[zb1]at r;cases r;exact⟨[],zbh,.nil⟩
 | p::kvs,_,r=>by
  rw[zak]at r;cases r with
  | @cons a b as bs h t=>
   obtain⟨rs,c,q⟩:=pZ (P:=P) (w:=w) t;obtain⟨F,B⟩:=b;exact⟨(p.1,B)::rs,⟨lJ h.1,rfl,c⟩,.cons ⟨rfl,h.2⟩ q⟩
def V9(q:List (TE×TE)):TE:=λσ H Q=>∀p,H p=none->B2 q σ (upd H p (.dK [])) λps H2=>H2 p=some (.dK [])/\∃kvs:List (Key×V),ps=kvs.map (λz=>(kV z.1,z.2))/\kvs.length<=15/\Q (.ref p) (upd H2 p (.dK (rV [] kvs)))
theorem L3(h:YN X pos keys values trs)(B:keys.all (·.isSome)=true)(hl:keys.length=values.length)(h0:keys≠[])
  (G:keys.length<=15):PE X (.Dict keys values pos) (V9 trs):=by
 intro pins s σ H Q I q;have hn:=I.hok.fresh (zao s.heap.objs.size);have I1:=I.laid (a:=s.heap.objs.size) (o:=.dK []) (h':=s.heap.push {cls:=.type "dict",data:=.dict #[]}) (t':=s.toks) (λ_ _ q=>zag _ q) (zao _) (qO s.heap I.big);refine wpAny_Dict_walk (knd:=aV X.prog X.w) B hl h0 G (bN (h pins _ σ _ _ I1 (q _ hn)) λws s2 ⟨ps,H2,M,J,e,kvs,ep,lk,q2⟩=>?_);subst ep;obtain⟨rs,c,W⟩:=pZ (P:=X.prog) (w:=X.w) J;obtain⟨z,N,ab,U,dd⟩:=K4 M.hok e;cases U;refine⟨rs,c,dd,λh' F hs=>⟨.ref s.heap.objs.size,_,?_,rfl,q2⟩⟩;have hz:(rV [] kvs).length<=zaj:=by
  have h1:=jA kvs [];rw[zcW]at h1;rw[zce];lia
 have Y:∃q,h'.get? s.heap.objs.size=some q:=let ⟨q,_,_,hq,_⟩:=F;⟨q,hq⟩;exact iW M (by rw[e];exact zbh) hs Y (BX hz N (W.merge .nil) F)
structure M1(X:Cx)(o:Expr)(m:Str)(apos:Pos)(e:Expr)(cpos:Pos):Prop where
 base:zcH o m X.env (eval o X.env)=eval o X.env
 few:((zaJ cpos (zah [e] X.env)).all (λx=>!x.1) && (zcD cpos (zcE [] X.env)).all (λx=>x.1.isSome)
  && decide (([e]:List Expr).length+([]:List zbG).length+(if([]:List zbG).isEmpty then 0 else 1)<30))=true
 line:(apos.endLine == cpos.line)=true
 trees:zaJ cpos (zah [e] X.env)=[(false,eval e X.env)]
structure M2(X:Cx)(o:Expr)(m:Str)(apos:Pos)(e f:Expr)(cpos:Pos):Prop where
 base:zcH o m X.env (eval o X.env)=eval o X.env
 few:((zaJ cpos (zah [e,f] X.env)).all (λx=>!x.1) && (zcD cpos (zcE [] X.env)).all (λx=>x.1.isSome)
  && decide (([e,f]:List Expr).length+([]:List zbG).length+(if([]:List zbG).isEmpty then 0 else 1)<30))=true
 line:(apos.endLine == cpos.line)=true
 trees:zaJ cpos (zah [e,f] X.env)=[(false,eval e X.env),(false,eval f X.env)]
def VG(H:Hp)(a:Addr):Prop:=(∃kvs,Rd H a (.dK kvs))\/∃kvs,Rd H a (.dT kvs)
theorem B3(I:Inv X pins σ H s)(d:VG H a) :
  s.TypeIs (.ref a) "dict" /\ (∀b,zan a=.ref b->∃ob,s.heap.get? b=some ob/\ob.dict=none)/\(a == za9)=false:=by
 rcases d with⟨kvs,e⟩|⟨kvs,e⟩
 ·obtain⟨_,z,vs,_,dd⟩:=lH I.hok e
  refine⟨dd.typeIs,λb q=>?_,z⟩;cases q;obtain⟨ob,_,_,h1,h2,_⟩:=dd;exact⟨ob,h1,h2.2.1⟩
 ·obtain⟨_,z,xs,_,dd⟩:=nO I.hok e
  refine⟨dd.typeIs,λb q=>?_,z⟩;cases q;obtain⟨ob,_,_,h1,h2,_⟩:=dd;exact⟨ob,h1,h2.2.1⟩
section
variable {X:Cx}{pins:List (Addr×Obj)}{σ:St}{H:Hp}{s:zab}{a:Addr}{y d:V}{u r:Value}{o:Option V}{A:zas}{E:Value->zab->Prop}
theorem Q3(N:A.units+1<cLine)(I:Inv X pins σ H s)(g:DGet H a y o)(J:RelV y u)(h:∀M s',Inv X pins σ H s'->RelV (o.getD .non) M->Q M s') :
  wpAny (model X.prog X.w) A (call (.builtin "dict.get") [.ref a,u]) Q E s:=by
 rcases g with⟨kvs,k,e,G,l⟩|⟨kvs,k,b,e,G,U,l⟩
 ·subst G
  obtain⟨z,B,vs,q,dd⟩:=lH I.hok e;refine zdY zcZ dd.typeIs zdZ (PySem.F.args_dict_get_2 _ _) (meets_dict_get (aV X.prog X.w) a (lJ J) B) ⟨_,dd.mapOf,h _ _ (I.tok _) ?_⟩;rw[l];exact(q.val k).getD rfl
 ·subst G
  cases(show u=zan b from J);obtain⟨z,B,xs,q,dd⟩:=nO I.hok e;refine zdY zcZ dd.typeIs zdZ (PySem.F.args_dict_get_2 _ _) (meetsH_dict_get (za2 (aV X.prog X.w)) a b B) ⟨zcX N,k,xs,gO I.hok U,dd,h _ _ (I.tok _) ?_⟩;rw[l];exact(q.val k).getD rfl
theorem UL(U:A.units+1<cLine)(I:Inv X pins σ H s)(g:DGet H a y o)(J:RelV y u)(M:RelV d r)(h:∀N s',Inv X pins σ H s'->RelV (o.getD d) N->Q N s') :
  wpAny (model X.prog X.w) A (call (.builtin "dict.get") [.ref a,u,r]) Q E s:=by
 rcases g with⟨kvs,k,e,G,l⟩|⟨kvs,k,b,e,G,W,l⟩
 ·subst G
  obtain⟨z,B,vs,q,dd⟩:=lH I.hok e;refine zdY zcZ dd.typeIs zdZ (PySem.F.args_dict_get_3 _ _ _) (meets_dict_get_default (aV X.prog X.w) a (lJ J) B r) ⟨_,dd.mapOf,h _ _ (I.tok _) ?_⟩;rw[l];exact(q.val k).getD M
 ·subst G
  cases(show u=zan b from J);obtain⟨z,B,xs,q,dd⟩:=nO I.hok e;refine zdY zcZ dd.typeIs zdZ (PySem.F.args_dict_get_3 _ _ _) (meetsH_dict_get_default (za2 (aV X.prog X.w)) a b B r) ⟨zcX U,k,xs,gO I.hok W,dd,h _ _ (I.tok _) ?_⟩;rw[l];exact(q.val k).getD M
end
def TH(td ty:TE):TE:=λσ H Q=>td σ H λx H1=>∃a,x=.ref a/\VG H1 a/\ty σ H1 λy H2=>∃o,DGet H2 a y o/\Q (o.getD .non) H2
def RW(td ty tx:TE):TE:=λσ H Q=>td σ H λx H1=>∃a,x=.ref a/\VG H1 a/\ty σ H1 λy H2=>tx σ H2 λz q=>∃o,DGet q a y o/\Q (o.getD z) q
section
variable {X:Cx}{o e f:Expr}{apos cpos:Pos}{td ty tx:TE}
theorem GV(hu:X.A.units+1<cLine)(ho:PE X o td)(W:PE X e ty)(m:M1 X o "get" apos e cpos):PE X (.Call (.Attribute o "get" apos) [e] [] cpos) (TH td ty):=by
 intro pins s σ H Q I h;refine wpAny_Call_method m.base m.few m.line zeV zcZ PySem.F.type_dict_get (bN (ho pins s σ H _ I h) λu G ⟨x,H1,z,Y,a,ex,d,U⟩=>?_);subst ex;obtain rfl:u=zan a:=Y;obtain⟨B,J,_⟩:=B3 z d;refine⟨B,J,?_⟩;rw[m.trees];refine zdV rfl (zeS (zdO (bN (W pins G σ H1 _ z U) λiv s2 ⟨y,H2,I2,M,ov,g,q2⟩=>zeJ ?_)));exact Q3 hu I2 g M λw' s3 N q=>⟨_,H2,N,q,q2⟩
theorem IX(hu:X.A.units+1<cLine)(ho:PE X o td)(he:PE X e ty)(J:PE X f tx)(m:M2 X o "get" apos e f cpos):PE X (.Call (.Attribute o "get" apos) [e,f] [] cpos) (RW td ty tx):=by
 intro pins s σ H Q I h;refine wpAny_Call_method m.base m.few m.line zeV zcZ PySem.F.type_dict_get (bN (ho pins s σ H _ I h) λu M ⟨x,H1,B,rx,a,ex,d,q1⟩=>?_);subst ex;obtain rfl:u=zan a:=rx;obtain⟨G,N,_⟩:=B3 B d;refine⟨G,N,?_⟩;rw[m.trees];refine zdV rfl (zeS (zdO (bN (he pins M σ H1 _ B q1) λiv s2 ⟨y,H2,I2,U,q2⟩=>
  zdO (bN (J pins s2 σ H2 _ I2 q2) λfv s3 ⟨z,H3,W,Y,ov,g,q3⟩=>zeJ ?_))))
 exact UL hu W g U Y λw' s4 I4 q=>⟨_,H3,I4,q,q3⟩
end
section
variable {X:Cx}{pins:List (Addr×Obj)}{σ:St}{H:Hp}{s:zab}{a:Addr}{kvs:List (Key×V)}{A:zas}{E:Value->zab->Prop}
end
section
variable {X:Cx}{pins:List (Addr×Obj)}{σ:St}{H:Hp}{s:zab}{a:Addr}{y:V}{u:Value}{A:zas}{E:Value->zab->Prop}
end
end L2
namespace Att
open PySem PySem.W PySem.Calls PyProof.Rows
theorem nU:∀(ns:List Int) (vs:List Value),WellAll P h vs (ns.map WData.int)->za7 vs ns:=by
 intro ns;induction ns with
 | nil=>
  intro vs w;rw[zb1]at w;cases w;exact .nil
 | cons n ns ih=>
  intro vs w;rw[zak]at w;cases w with
  | cons a b=>
   cases a;exact .cons _ _ (ih _ b)
theorem F7{l:OpenLaw}{n:Nat}(Y:l.most=some n){P:Params}{h:Heap}{args:List WData}{z:List Value}
  (B:l.row.toRowW.claim.pre args=true) (N:WellAll P h z args) :
  ∃a vs ns,z=[zan a]/\args=[WData.list (ns.map WData.int)]/\h.get? a=some {cls:=.type "list",data:=.seq vs.toArray}/\za7 vs ns/\ns.length<=n:=by
 have M:WShape.hasAll [] args [.list .int]=true:=(pre_splitW B).1;have U:l.pre.holds [] {args:=args}=true:=(pre_splitW B).2;obtain⟨d,r,rfl,h1,h2⟩:=hasAllW_cons M;obtain rfl:=hasAllW_nil h2;obtain⟨xs,rfl,h3⟩:=hasW_list h1;obtain⟨ns,rfl⟩:=items_int h3;have F:ns.length<=n:=by
  unfold OpenLaw.pre at U;have G:(WTm.not (.lt (.lit (.int (n:Int))) (.len (.arg 0)))).holds [] {args:=[.list (ns.map .int)]}=true:=by
   have G:=(holds_andW U).1;rw[Y]at G;exact G
  have J:=condW_of G (w_not (w_lt w_lit (w_len_list (w_arg rfl))));rw[zal]at J;refine Nat.le_of_not_lt λq=>?_
  have W:(n:Int)<((ns.length:Nat):Int):=by lia
  first
   | (rw[decide_eq_true W]at J;exact absurd J (by decide))
   | (simp at J;lia)
 cases N with
 | cons w1 w2=>
  cases w2;cases w1 with
  | list ho hall=>exact⟨_,_,ns,rfl,rfl,ho,nU ns _ hall,F⟩
theorem F8(l:OpenLaw)(args:List WData):l.row.toRowW.claim.post args (.bool true) args=true:=
 postW_of (r:=l.row.toRowW) (X:=(true == true))
  (show WShape.has [] (.bool true) .bool=true by first|rfl|decide|simp[WShape.has,WShape.arms,WShape.armsAll])
  (show(WTm.eq .res (.lit (.bool true))).value [] {args:=args,res:=some (.bool true),after:=args}=some (.bool (true == true))from w_eq_bool (w_res rfl) w_lit) rfl
theorem xJ{l:OpenLaw}{n:Nat}{q:zap}{F:List Str}{XP:(Str->Option Value)->Heap->Prop}{YP:World->Heap->Prop}{d:DefRec}
  (hn:l.most=some n) (ag:d.params.defaults=[])
  (call:∀(w:World) (B z:zab) (mg mb:Str -> Option Value) (N:Addr) (o:Obj) (pm cd M:Value) (a:Addr) (vs:List Value) (ns:List Int),
   Ground q F [] XP w B mg mb z.heap->YP w z.heap->
   z.heap.get? N=some o->o.data=.func (docDef d.name d.params d.body d.scope pm cd M)->z.heap.CodeRec cd d.name->mg d.name=some (.ref N)->
   z.heap.get? a=some {cls:=.type "list",data:=.seq vs.toArray}->za7 vs ns->ns.length<=n->z.gens=#[]->
   zbs (model l.prog w) zcM (.call (.ref N) ⟨[.ref a],[]⟩) (λr s'=>r=.ok (.ret (.bool true))/\OldK z.heap s'.heap/\s'.os=z.os/\zcb s'.gens) z) :
  WalkO q F XP YP l.row.toRowW d [] (λf vs=>PySem.call f vs):=by
 intro w B z mg mb G Y N o pm cd M dV kV ho hd ad hD ah hg args ak as U aj a0 af ax;obtain rfl:dV=.none:=Dflts.none hD ag;obtain rfl:kV=.none:=Dflts.noKw hD;obtain⟨a,vs,ns,rfl,rfl,aa,J,W⟩:=F7 hn U af;refine enter_call (zdP (call w B z mg mb N o pm cd M a vs ns G Y ho (fd_plain hd) ad ah aa J W hg) λr s' hq=>?_);obtain⟨rfl,h2,h3,h4⟩:=hq;exact⟨.inl ⟨.bool true,.bool true,[],rfl,λ_=>rfl,.bool true,F8 l _,λ_=>⟨List.Pairwise.nil,λ_ hm=>(nomatch hm)⟩⟩,h2,h3,h4⟩
section
variable {prog:zap}{w:World}{A:zas}{E:Value->zab->Prop}{s:zab}{K:Frag}
noncomputable def v7(h:Heap):Heap:={h with objs:=#[]}
theorem jP(h:Heap)(b:Addr):(v7 h).get? b=none:=by
 cases e:(v7 h).get? b with
 | none=>rfl
 | some o=>exact absurd (zai e) (zeW _)
noncomputable def ledger(h:Heap)(L d:Addr):List (Addr×Obj):=(zaB h.objs.size).filterMap λa=>if a=L\/a=d then none else(h.get? a).map λo=>(a,o)
theorem dD:(a,o)∈ledger h L d↔a≠L/\a≠d/\h.get? a=some o:=by
 unfold ledger;rw[List.mem_filterMap];constructor
 ·rintro⟨b,_,e⟩
  split at e
  ·cases e
  ·rename_i hb
   obtain⟨o',z,F⟩:=Option.map_eq_some_iff.mp e;cases F;exact⟨λq=>hb (.inl q),λq=>hb (.inr q),z⟩
 ·rintro⟨B,G,z⟩
  refine⟨a,List.mem_range.mpr (zai z),?_⟩;rw[if_neg (show ¬ (a=L\/a=d)from λq=>q.elim B G),z] <;> rfl
theorem SM(n:h.Ns L m):Fr (v7 h) L h m:=
 ⟨n,λb o e=>(by rw[jP]at e;cases e),zaZ _⟩
end
end Att
namespace L2
open PySem PySem.Spec PyProof.Rows
theorem tV:∀ {vs:List Value} {ns:List Int},za7 vs ns->Vals (ns.map V.int) vs
 | _,_,.nil=>.nil
 | _,_,.cons n t h=>.cons ⟨t,rfl⟩ (tV h)
def Only(H:Hp):Prop:=∀b,H b=none\/∃o xs,H b=some (.frz o (.lst xs))
theorem G1{P:zap}{w:World}{K:zaf}{mg mb:Str->Option Value}{CX:GQ}{k:Nat}{fa a:Addr}{fd:zbr}{x:Str}{sp:Sp}{B:zab}{vs:List Value}{ns:List Int}
  (KX:K.In B.heap) (af:B.heap.Ns za1 mg) (J:B.heap.Ns builtinsNs mb) (ao:∀x:Str,x ≠ "__name__" -> mb x=zaN x) (Y:B.heap.NoLimit) (hg:B.gens=#[])
  (ha:B.heap.get? a=some {cls:=.type "list",data:=.seq vs.toArray}) (hi:za7 vs ns) (hl:ns.length<=zaj) (hr:Room k zcM)
  (F:∀base:Heap,K.In base->base.Ns za1 mg->FnOk P w K mg base CX k fa fd [x] sp) (U:∀(s:zab) (u:Value),BindsTo s fd ⟨[u],[]⟩ [(x,u)])
  (aj:∀H:Hp,Only H->SqL K H a (ns.map V.int)->sp [.ref a] H (λv _=>v=.bl true) λ_ _ _=>False)
  (ak:∀H e s',CX [] H B (λ_ _ _=>False) e s'->False) :
  zbs (model P w) zcM (.call (.ref fa) ⟨[.ref a],[]⟩) (λr s'=>r=.ok (.ret (.bool true))/\OldK B.heap s'.heap/\s'.os=B.os/\zcb s'.gens) B:=by
 have rv:=tV hi;have ab:=hi.length
 -- from an abstract heap in which nothing but the script may be tracked
 have N:∀H:Hp,Only H->SqL K H a (ns.map V.int)->HOk P w H B.heap->(∀b,H b≠none->b=a)->(H a≠none->K.lookup a=none)->
   zbs (model P w) zcM (.call (.ref fa) ⟨[.ref a],[]⟩) (λr s'=>r=.ok (.ret (.bool true))/\OldK B.heap s'.heap/\s'.os=B.os/\zcb s'.gens) B:=by
  intro H hO hS W hA hK;have G:∀ {b:Addr} {o:Obj},B.heap.get? b=some o->H b=none->(wQ B.heap H).get? b=some o:=λe n=>IF e n
  have al:∀ {b:Addr} {o:Obj} {es:Array zbA} {ep:Nat},B.heap.get? b=some o->o.data=.dict es ep->H b=none:=λ{b o es ep} e d=>by
   cases q:H b with
   | none=>rfl
   | some u=>
    have e':b=a:=hA b (by rw[q];simp);subst e';rw[ha]at e;cases e;have d':Data.seq vs.toArray _=Data.dict es ep:=d;cases d'
  have M:∀ {b:Addr} {m:Str->Option Value},B.heap.Ns b m->(wQ B.heap H).Ns b m:=λ{b m} ⟨o,es,ep,e,d,r⟩=>⟨o,es,ep,G e (al e d),d,r⟩
  have aa:K.In (wQ B.heap H):=λb o e=>G (KX b o e) (by
   cases q:H b with
   | none=>rfl
   | some u=>
    have e':b=a:=hA b (by rw[q];simp);subst e';rw[hK (by rw[q];simp)]at e;cases e)
  have hM:Mod K mg (wQ B.heap H):=⟨aa,M af,⟨mb,M J,ao⟩,let ⟨mc,h1,h2⟩:=Y;⟨mc,M h1,h2⟩⟩;have e0:Env0 P w K mg (wQ B.heap H) zcM [] B H:=⟨rfl,hM,λb o e=>NB e,Nat.le_of_eq (FE _ _),trivial,λb J=>absurd (show b∈([]:List Addr)from J) (by simp),W,.of_eq hg⟩;refine zdP ((F _ aa (M af)).run zcM [] B H ⟨[.ref a],[]⟩ [.ref a] [.ref a] _ _ hr e0 (U B (.ref a)) (.cons rfl .nil) (aj H hO hS)) λr s' h=>?_
  cases r with
  | error e=>exact(ak H e s' h).elim
  | ok fl=>
   cases fl with
   | next=>exact zbE h
   | brk=>exact zbE h
   | cont=>exact zbE h
   | ret u=>
    obtain⟨v,H',os,ad,un,ae,r',q⟩:=h;have q':v=.bl true:=q;subst q';obtain rfl:u=zco true:=r';refine⟨rfl,OldK.of_keep λb o e=>?_,os,ad⟩;cases q:H b with
    | none=>exact un.keep b o e q (by intro z;exact absurd (show b∈([]:List Addr)from z) (by simp)) (by simp)
    | some u=>
     rcases hO b with z|⟨ob,xs,z⟩
     ·rw[q]at z;cases z
     ·have z2:=un.frzs b ob _ z
      obtain⟨e1,_⟩:=W b _ z;obtain⟨e2,_⟩:=ae b _ z2;rw[e]at e1;cases e1;exact e2
 cases hk:K.lookup a with
 | some o=>
  -- the script is one of the module's own objects
  have e:=KX a o hk;rw[ha]at e;cases e;refine N (λ_=>none) (λ_=>.inl rfl) (.inr ⟨_,vs.toArray,_,hk,rfl,rfl,rfl,by rw[zaA,ab];exact hl,by simpa using rv⟩) (λb u z=>by have z':(none:Option HO)=some u:=z;cases z') (λb z=>absurd rfl z) λz=>absurd rfl z
 | none=>
  refine N (λb=>if b=a then some (.frz {cls:=.type "list",data:=.seq vs.toArray} (.lst (ns.map V.int)))else none) (λb=>?_) (.inl (.inr ⟨{cls:=.type "list",data:=.seq vs.toArray},if_pos rfl⟩)) (λb u z=>?_) (λb z=>?_) λ_=>hk
  ·by_cases J:b=a
   ·exact .inr ⟨_,_,if_pos J⟩
   ·exact .inl (if_neg J)
  ·by_cases J:b=a
   ·have z':=(if_pos J).symm.trans z
    cases z';subst J;exact⟨ha,by rw[zal];exact hl,vs,_,rv,ha⟩
   ·have z':=(if_neg J).symm.trans z
    cases z'
  ·by_cases J:b=a
   ·exact J
   ·exact absurd (if_neg J) z
theorem M6{l:zeX}{n k:Nat}{q:zap}{J:List Str}{XP:(Str->Option Value)->Heap->Prop}{YP:World->Heap->Prop}{d:DefRec}{K:Params->zaf}{CX:World->GQ}{sp:World->Sp}{x:Str}
  (hn:l.most=some n) (ad:n<=zaj) (ac:d.params.defaults=[]) (hr:Room k zcM)
  (hY:∀(w:World) (h:Heap),YP w h->(K w.params).In h)
  (F:∀(w:World) (mg:Str -> Option Value) (U:Addr) (h:Heap), (K w.params).In h -> h.Ns za1 mg -> mg d.name = some (.ref U) ->
   ∃fd:zbr,(∀(s:zab) (u:Value),BindsTo s fd ⟨[u],[]⟩ [(x,u)]) /\
    ∀base:Heap,(K w.params).In base->base.Ns za1 mg->FnOk l.prog w (K w.params) mg base (CX w) k U fd [x] (sp w))
  (aa:∀(w:World) (H:Hp) (a:Addr) (ns:List Int),ns.length<=n->Only H->SqL (K w.params) H a (ns.map V.int)->sp w [.ref a] H (λv _=>v=.bl true) λ_ _ _=>False)
  (ab:∀(w:World) (H:Hp) (s:zab) (e:Value) (s':zab),CX w [] H s (λ_ _ _=>False) e s'->False) :
  PySem.W.WalkO q J XP YP l.row.toRowW d [] (λf vs=>PySem.call f vs):=by
 refine Att.xJ hn ac λw ag M mg mb U o pm cd al a vs ns G Y ho hd ai ae N B z hg=>?_
 have KX:=hY w _ Y;obtain⟨fd,hb,hF⟩:=F w mg U _ KX G.T.g ae;exact G1 KX G.T.g G.T.b G.T.builtins G.T.nolimit hg N B (zbe z ad) hr hF hb (λH hO hS=>aa w H a ns z hO hS) λH e s'=>ab w H M e s'
noncomputable def dP(s:Stmt):Arguments:=match s with
 | .FunctionDef _ a _ _ _ _ _ _ _ _=>a
 | _=>{posonlyargs:=[],args:=[],vararg:=none,kwonlyargs:=[],kw_defaults:=[],kwarg:=none,defaults:=[]}
noncomputable def b9(s:Stmt):List Stmt:=match s with
 | .FunctionDef _ _ b _ _ _ _ _ _ _=>b
 | _=>[]
def aU(s:Stmt):Scope:=match s with
 | .FunctionDef _ _ _ _ _ _ sc _ _ _=>sc
 | _=>{kind:=.function,names:=[],isGenerator:=false,isCoroutine:=false}
abbrev GN:GQ:=λ_ _ _ _ _ _=>False
abbrev E0:XK:=λ_ _ _=>False
theorem WQ:B1 GN X E0:=λ_ _ _ _ _ _ _ h=>h.elim
structure Fun(K:zaf)(x qual:Str)(st:Stmt)(f:Addr)(fd:zbr):Prop where
 ex:∃(oc:Value) (od:Option Addr) (kV doc pm:Value) (an:Option Addr) (cdv ct:Value) (osl:Array (Option Value)),
  fd=zbI x qual (dP st) (b9 st) (aU st) .none kV doc pm an cdv ct/\K.lookup f=some ⟨oc,od,.func fd,osl⟩/\zcV K cdv qual=true
 kp:zcs K (.ref f)=true
section
variable {P:zap}{w:World}{K:zaf}{mg:Str->Option Value}{base:Heap}
theorem Fun.ok{x B:Str}{st:Stmt}{f:Addr}{fd:zbr}{N ps:List Str}{k:Nat}{sp:Sp}(F:Fun K x B st f fd)(S:FnScope N ps (aU st))(len:∀vs H Q E,sp vs H Q E->vs.length=ps.length)
  (J:∀(G:Value) (A:zas) (z:List Env) (s:zab) (H:Hp) (vs:List V) (Q:VK) (E:XK), Room k (A.deeper (zbo B (aU st) s.heap.objs.size f G)) -> sp vs H Q E ->
   ∃t,PSs (sJ GN P w K mg base N B (aU st) f G A z s H E).nox (b9 st) t/\t {nx:=λ_ H'=>Q .non H',rt:=Q} (start N vs) H):FnOk P w K mg base GN (k+1) f fd ps sp:=by
 obtain⟨oc,od,kV,W,pm,an,G,ct,aa,rfl,lk,U⟩:=F.ex;refine W1 lk U S len λA z s H vs Q E Y M=>?_
 obtain⟨t,h,q⟩:=J G A z s H vs Q E Y M;exact⟨t,h.nox,q⟩
theorem Fun.binds{x q:Str}{st:Stmt}{f:Addr}{fd:zbr}{ps:List Str}(F:Fun K x q st f fd)
  (h:∀(kV z J:Value) (G:Option Addr) (B ct:Value) (us:List Value),us.length=ps.length->bindArgs (zbI x q (dP st) (b9 st) (aU st) .none kV z J G B ct) ⟨us,[]⟩=pure (ps.zip us)):Binds K fd ps []:=by
 obtain⟨W,od,kV,z,J,G,B,ct,N,rfl,U,M⟩:=F.ex;exact .all (h kV z J G B ct)
theorem KU{x q:Str}{st:Stmt}{f:Addr}{M:Value}{od J:Option Addr}{F:Array (Option Value)}{kV B G z ct:Value}(l:K.lookup f=some ⟨M,od,.func (zbI x q (dP st) (b9 st) (aU st) .none kV B G J z ct),F⟩)
  (c:zcV K z q=true) (k:zcs K (.ref f)=true):Fun K x q st f (zbI x q (dP st) (b9 st) (aU st) .none kV B G J z ct):=⟨⟨M,od,kV,B,G,J,z,ct,F,rfl,l,c⟩,k⟩
end
theorem QC(q:Room k A):A.units+1<cLine:=zd0 (Nat.add_le_add_left (by decide:1<=64) _) q.units
section
variable {X:Cx}
theorem pv(i:Nat)(B:X.N[i]?=some x:=by rfl)(F:VM X.env.scope x:=by first|exact zbL rfl|exact zcg (zbL rfl)|exact zcg (zcg rfl))(z:(x == ("__debug__" : Str))=false:=by decide)
  (q:(x == ("__classdict__" : Str))=false:=by decide):PE X (.Name x pos) (wM i):=TN B F z q
end
theorem Y8{A B:Prop}(h:B):if false=true then A else B:=by
 rw[if_neg zaw];exact h
theorem Z7{A B:Prop}(h:A):if true=true then A else B:=by
 rw[if_pos rfl];exact h
def Same(H H':Hp):Prop:=∀b o,H b=some o->H' b=some o
theorem Same.trans(a:Same H H1)(b:Same H1 H2):Same H H2:=λc o h=>b c o (a c o h)
theorem Same.free(e:Same H H')(h:H' l=Option.none):H l=Option.none:=by
 cases q:H l with
 | none=>rfl
 | some o=>
  rw[e l o q]at h;cases h
theorem Same.seq{K:zaf}{H H':Hp}{a:Addr}{xs:List V}(e:Same H H')(h:SqL K H a xs):SqL K H' a xs:=by
 rcases h with(h|⟨o,h⟩)|h
 ·exact .inl (.inl (e _ _ h))
 ·exact .inl (.inr ⟨o,e _ _ h⟩)
 ·exact .inr h
section
variable {X:Cx}
end
section
variable {κ:Type}[DecidableEq κ]
theorem C6:∀ {l:List κ} {k:κ},l.Nodup->¬ k∈l->(l++[k]).Nodup
 | [],k,_,_=>by simp
 | a::r,k,h,hk=>by
  obtain⟨h1,h2⟩:=List.nodup_cons.mp h;show(a::(r++[k])).Nodup;refine List.nodup_cons.mpr ⟨λm=>?_,C6 h2 λm=>hk (List.mem_cons.mpr (zcg m))⟩;rcases List.mem_append.mp m with q|q
  ·exact h1 q
  ·exact hk (List.mem_cons.mpr (zbL (List.mem_singleton.mp q).symm))
end
end L2
set_option maxHeartbeats 4000000
namespace My
open PySem PySem.Spec PyProof.Rows L2
def YB(i j:Int):Prop:=(-(10^250)<i/\i<10^250)/\-(10^250)<j/\j<10^250
section
variable {X:Cx}
def ZN(K:zaf):List V->Hp->VK->Prop:=λxs H Q=>∃x n t b,xs=[x,.ty n]/\TyOf K H x t/\zdi K t (.type n)=some b/\Q (.bl b) H
theorem IJ:CallR X (.builtin "isinstance") (ZN X.K):=by
 intro pins s σ H xs us Q I r h;obtain⟨x,n,t,b,rfl,ty,e,q⟩:=h;obtain⟨u,F,rfl,B,z⟩:=vals2 r;cases z;exact GB I B ty e λtk=>⟨.bl b,H,I.tok tk,rfl,q⟩
end
structure Ok(P:zap)(w:World)(K:zaf)(mg:Str->Option Value)(base:Heap)(x:Str)(k:Nat)(ps:List Str)(sp:Sp):Prop where
 ex:∃f fd,zcs K (.ref f)=true/\Binds K fd ps []/\mg x=some (.ref f)/\FnOk P w K mg base GN k f fd ps sp
structure DefAt(K:zaf)(mg:Str->Option Value)(x:Str)(st:Stmt)(ps:List Str):Prop where
 ex:∃f fd,Fun K x x st f fd/\Binds K fd ps []/\mg x=some (.ref f)
def SG(sp:Sp)(t:TA):TE:=λσ H Q=>t σ H λvs H1=>sp vs H1 Q E0
section
variable {X:Cx}{x:Str}{k:Nat}{ps:List Str}{sp:Sp}{e:Expr}{es:List Expr}{t:TA}{p pos:Pos}
theorem JD(O:Ok X.prog X.w X.K X.mg X.base x k ps sp)(M:Room k X.A)(W:Gl X x)(N:PA X (e::es) t)(z:(x == ("__debug__" : Str))=false:=by decide)
  (J:zah (e::es) X.env=(false,eval e X.env)::zah es X.env:=by rfl) (q:(zaJ pos (zah es X.env)).any (·.1)=false:=by rfl) :
  PE X (.Call (.Name x p) (e::es) [] pos) (SG sp t):=by
 obtain⟨f,fd,U,B,G,F⟩:=O.ex;have h:=ML (p:=p) (pos:=pos) F M W G U B .nil WQ N z J q;intro pins s σ H Q I hw;refine h pins s σ H Q I ?_;have e:(λ(vs:List V) (H1:Hp)=>sp (vs++[]) H1 Q E0)=λvs H1=>sp vs H1 Q E0:=by
  funext vs H1;rw[zcr]
 show t σ H λvs H1=>sp (vs++[]) H1 Q E0
 rw[e];exact hw
end
section
variable {P:zap}{w:World}{K:zaf}{mg:Str->Option Value}{base:Heap}
def BodyOk(P:zap)(w:World)(K:zaf)(mg:Str->Option Value)(base:Heap)(x:Str)(st:Stmt)(N:List Str)(k:Nat)(sp:Sp):Prop:=
 ∀(f:Addr) (cdv:Value) (A:zas) (outer:List Env) (s:zab) (H:Hp) (vs:List V) (Q:VK) (E:XK),Room k (A.deeper (zbo x (aU st) s.heap.objs.size f cdv))->sp vs H Q E->
   ∃t,PSs (sJ GN P w K mg base N x (aU st) f cdv A outer s H E).nox (b9 st) t/\t {nx:=λ_ H'=>Q .non H',rt:=Q} (start N vs) H
theorem BodyOk.fn{x:Str}{st:Stmt}{N ps:List Str}{k:Nat}{sp:Sp}{f:Addr}{fd:zbr}(q:BodyOk P w K mg base x st N k sp)(F:Fun K x x st f fd)(S:FnScope N ps (aU st))(len:∀vs H Q E,sp vs H Q E->vs.length=ps.length) :
  FnOk P w K mg base GN (k+1) f fd ps sp:=F.ok S len λB A z s H vs Q E G h=>q f B A z s H vs Q E G h
theorem BodyOk.ok{x:Str}{st:Stmt}{N ps:List Str}{k:Nat}{sp:Sp}(q:BodyOk P w K mg base x st N k sp)(D:DefAt K mg x st ps)(S:FnScope N ps (aU st))(len:∀vs H Q E,sp vs H Q E->vs.length=ps.length) :
  Ok P w K mg base x (k+1) ps sp:=by
 obtain⟨f,fd,F,B,z⟩:=D.ex;exact⟨f,fd,F.kp,B,z,q.fn F S len⟩
theorem Ok.mono(O:Ok P w K mg base x j ps sp)(h:j<=k):Ok P w K mg base x k ps sp:=by
 obtain⟨f,fd,z,B,q,F⟩:=O.ex;exact⟨f,fd,z,B,q,F.mono h⟩
end
def zP(K:zaf):Sp:=λvs H Q _=>∃(a:Addr) (ns:List Int),vs=[.ref a]/\SqL K H a (ns.map V.int)/\ns.length<=63/\∀H',Q (.bl true) H'
theorem walk{l:zeX}{q:zap}{B:List Str}{U:(Str->Option Value)->Heap->Prop}{J:World->Heap->Prop}{d:DefRec}{K:Params->zaf}{k:Nat}(hk:k<=100)(N:l.most=some 63)(G:d.params.defaults=[])
  (hY:∀(w:World) (h:Heap),J w h->(K w.params).In h)
  (F:∀(w:World) (mg:Str -> Option Value) (fa:Addr) (h:Heap), (K w.params).In h -> h.Ns za1 mg -> mg d.name = some (.ref fa) ->
   ∃fd:zbr,(∀(s:zab) (u:Value),BindsTo s fd ⟨[u],[]⟩ [("script",u)])/\∀base:Heap,(K w.params).In base->base.Ns za1 mg->FnOk l.prog w (K w.params) mg base GN k fa fd ["script"] (zP (K w.params))) :
  PySem.W.WalkO q B U J l.row.toRowW d [] (λf vs=>PySem.call f vs):=
 L2.M6 (n:=63) (k:=k) (x := "script") (CX:=λ_=>GN) (sp:=λw=>zP (K w.params)) N (by decide) G (Room.mono (k:=100) ⟨rfl,by decide,by decide⟩ hk) hY F (λ_ _ a ns Y _ M=>⟨a,ns,rfl,M,Y,λ_=>rfl⟩) λ_ _ _ _ _ z=>z
theorem yS(h:H p=none):Same H (upd H p o):=λb u e=>by
 rw[aE (aR e h)];exact e
theorem Same.tupR{K:zaf}{H H':Hp}{a:Addr}{xs:List V}(e:Same H H')(h:SqT K H a xs):SqT K H' a xs:=by
 rcases h with(h|⟨o,h⟩)|h
 ·exact .inl (.inl (e _ _ h))
 ·exact .inl (.inr ⟨o,e _ _ h⟩)
 ·exact .inr h
theorem boot_len:zaN "len" = some (.builtin "len"):=by decide +kernel
theorem boot_max:zaN "max" = some (.builtin "max"):=by decide +kernel
theorem boot_min:zaN "min" = some (.builtin "min"):=by decide +kernel
theorem boot_isinstance:zaN "isinstance" = some (.builtin "isinstance"):=by decide +kernel
theorem boot_sorted:zaN "sorted" = some (.builtin "sorted"):=by decide +kernel
theorem boot_int:zaN "int" = some (.type "int"):=by decide +kernel
theorem boot_bool:zaN "bool" = some (.type "bool"):=by decide +kernel
theorem boot_tuple:zaN "tuple" = some (.type "tuple"):=by decide +kernel
theorem boot_list:zaN "list" = some (.type "list"):=by decide +kernel
theorem boot_dict:zaN "dict" = some (.type "dict"):=by decide +kernel
theorem boot_range:zaN "range" = some (.type "range"):=by decide +kernel
theorem boot_zip:zaN "zip" = some (.type "zip"):=by decide +kernel
theorem boot_all:zaN "all" = some (.builtin "all"):=by decide +kernel
end My
namespace My
open PySem PySem.Spec PyProof.Rows L2 PySem.SeqAt
inductive Dx where
 | non|bl (b:Bool)|int (i:Int)|str (x:Str)|tup (l:List Dx)|lst (l:List Dx)
mutual
def Rep(K:zaf)(H:Hp):Dx->V->Prop
 | .non,v=>v=.non
 | .bl b,v=>v=.bl b
 | .int i,v=>v=.int i
 | .str x,v=>v=.str x
 | .tup l,v=>∃a xs,v=.ref a/\SqT K H a xs/\RepL K H l xs
 | .lst l,v=>∃a xs,v=.ref a/\SqL K H a xs/\RepL K H l xs
def RepL(K:zaf)(H:Hp):List Dx->List V->Prop
 | [],vs=>vs=[]
 | d::ds,vs=>∃x xs,vs=x::xs/\Rep K H d x/\RepL K H ds xs
end
section
variable {K:zaf}{H H':Hp}
mutual
theorem Rep.same(e:Same H H'):∀(d:Dx) (v:V),Rep K H d v->Rep K H' d v
 | .non,v,h=>by rw[Rep]at h ⊢;exact h
 | .bl b,v,h=>by rw[Rep]at h ⊢;exact h
 | .int i,v,h=>by rw[Rep]at h ⊢;exact h
 | .str x,v,h=>by rw[Rep]at h ⊢;exact h
 | .tup l,v,h=>by
  rw[Rep]at h ⊢;obtain⟨a,xs,q,h1,h2⟩:=h;exact⟨a,xs,q,Same.tupR e h1,RepL.same e l xs h2⟩
 | .lst l,v,h=>by
  rw[Rep]at h ⊢;obtain⟨a,xs,q,h1,h2⟩:=h;exact⟨a,xs,q,e.seq h1,RepL.same e l xs h2⟩
theorem RepL.same(e:Same H H'):∀(ds:List Dx) (vs:List V),RepL K H ds vs->RepL K H' ds vs
 | [],vs,h=>by rw[RepL]at h ⊢;exact h
 | d::ds,vs,h=>by
  rw[RepL]at h ⊢;obtain⟨x,xs,q,h1,h2⟩:=h;exact⟨x,xs,q,Rep.same e d x h1,RepL.same e ds xs h2⟩
end
theorem RepL.nil:RepL K H [] []:=by rw[RepL]
theorem RepL.cons(h1:Rep K H d v)(h2:RepL K H ds vs):RepL K H (d::ds) (v::vs):=by
 rw[RepL];exact⟨v,vs,rfl,h1,h2⟩
theorem RepL.length:∀ {ds:List Dx} {vs:List V},RepL K H ds vs->vs.length=ds.length
 | [],vs,h=>by rw[RepL]at h;rw[h];rfl
 | d::ds,vs,h=>by
  rw[RepL]at h;obtain⟨x,xs,rfl,_,h2⟩:=h;rw[za3,za3,RepL.length h2]
theorem RepL.get':∀ {ds:List Dx} {vs:List V} {i:Nat} {d:Dx},RepL K H ds vs->ds[i]?=some d->∃v,vs[i]?=some v/\Rep K H d v
 | [],vs,i,d,h,e=>by simp at e
 | d'::ds,vs,i,d,h,e=>by
  rw[RepL]at h;obtain⟨x,xs,rfl,h1,h2⟩:=h;cases i with
  | zero=>simp at e;subst e;exact⟨x,rfl,h1⟩
  | succ i=>exact RepL.get' (i:=i) (ds:=ds) h2 (by simpa using e)
mutual
def Dx.dep:Dx->Nat
 | .tup l=>B9 l+1
 | .lst l=>B9 l+1
 | .non=>0
 | .bl _=>0
 | .int _=>0
 | .str _=>0
def B9:List Dx->Nat
 | []=>0
 | d::ds=>max d.dep (B9 ds)
end
mutual
def Dx.nb:Dx->Bool
 | .bl _=>false
 | .tup l=>QH l
 | .lst l=>QH l
 | .non=>true
 | .int _=>true
 | .str _=>true
def QH:List Dx->Bool
 | []=>true
 | d::ds=>d.nb && QH ds
end
theorem DD:∀ {ds:List Dx} {i:Nat} {d:Dx},ds[i]?=some d->d.dep<=B9 ds
 | [],i,d,e=>by simp at e
 | d'::ds,0,d,e=>by simp at e;subst e;rw[B9];lia
 | d'::ds,i+1,d,e=>by
  have:=DD (ds:=ds) (i:=i) (by simpa using e);rw[B9];lia
theorem BY:∀ {ds:List Dx} {i:Nat} {d:Dx},QH ds=true->ds[i]?=some d->d.nb=true
 | [],i,d,_,e=>by simp at e
 | d'::ds,0,d,h,e=>by simp at e;subst e;rw[QH,zaK]at h;exact h.1
 | d'::ds,i+1,d,h,e=>by
  rw[QH,zaK]at h;exact BY h.2 (by simpa using e)
end
section
variable {X:Cx}{pins:List (Addr×Obj)}{σ:L2.St}{H:Hp}{s:zab}
theorem DH(I:Inv X pins σ H s)(h1:SqL X.K H a xs)(h2:SqT X.K H a ys):False:=by
 obtain⟨B,_,⟨o,n,e,c,_⟩,_⟩:=I.list h1;obtain⟨its',_,⟨o',z,q,_⟩,_⟩:=I.tuple h2;rw[e]at z;cases z;rw[c]at q;exact absurd q (by decide)
mutual
theorem Rep.inj(I:Inv X pins σ H s):∀(d e:Dx) (v:V),Rep X.K H d v->Rep X.K H e v->d=e
 | .non,e,v,h,h'=>by
  rw[Rep]at h;subst h;cases e <;> (rw[Rep]at h') <;> first|rfl|(cases h';done)|(obtain⟨_,_,z,_⟩:=h';cases z)
 | .bl b,e,v,h,h'=>by
  rw[Rep]at h;subst h;cases e <;> (rw[Rep]at h') <;> first|(cases h';rfl)|(cases h';done)|(obtain⟨_,_,z,_⟩:=h';cases z)
 | .int i,e,v,h,h'=>by
  rw[Rep]at h;subst h;cases e <;> (rw[Rep]at h') <;> first|(cases h';rfl)|(cases h';done)|(obtain⟨_,_,z,_⟩:=h';cases z)
 | .str x,e,v,h,h'=>by
  rw[Rep]at h;subst h;cases e <;> (rw[Rep]at h') <;> first|(cases h';rfl)|(cases h';done)|(obtain⟨_,_,z,_⟩:=h';cases z)
 | .tup l,e,v,h,h'=>by
  rw[Rep]at h;obtain⟨a,xs,rfl,h1,h2⟩:=h;cases e with
  | tup m=>
   rw[Rep]at h';obtain⟨b,ys,q,B,F⟩:=h';cases q;have G:=I.tuple_inj h1 B;subst G;rw[RepL.inj I l m xs h2 F]
  | lst m=>
   rw[Rep]at h';obtain⟨b,ys,q,B,F⟩:=h';cases q;exact(DH I B h1).elim
  | non=>rw[Rep]at h';cases h'
  | bl b=>rw[Rep]at h';cases h'
  | int i=>rw[Rep]at h';cases h'
  | str x=>rw[Rep]at h';cases h'
 | .lst l,e,v,h,h'=>by
  rw[Rep]at h;obtain⟨a,xs,rfl,h1,h2⟩:=h;cases e with
  | lst m=>
   rw[Rep]at h';obtain⟨b,ys,q,B,F⟩:=h';cases q;have G:=I.list_inj h1 B;subst G;rw[RepL.inj I l m xs h2 F]
  | tup m=>
   rw[Rep]at h';obtain⟨b,ys,q,B,F⟩:=h';cases q;exact(DH I h1 B).elim
  | non=>rw[Rep]at h';cases h'
  | bl b=>rw[Rep]at h';cases h'
  | int i=>rw[Rep]at h';cases h'
  | str x=>rw[Rep]at h';cases h'
theorem RepL.inj(I:Inv X pins σ H s):∀(ds es:List Dx) (vs:List V),RepL X.K H ds vs->RepL X.K H es vs->ds=es
 | [],es,vs,h,h'=>by
  rw[RepL]at h;subst h;cases es with
  | nil=>rfl
  | cons e es=>rw[RepL]at h';obtain⟨_,_,z,_⟩:=h';cases z
 | d::ds,es,vs,h,h'=>by
  rw[RepL]at h;obtain⟨x,xs,rfl,h1,h2⟩:=h;cases es with
  | nil=>rw[RepL]at h';cases h'
  | cons e es=>
   rw[RepL]at h';obtain⟨_,_,z,q,B⟩:=h';cases z;rw[Rep.inj I d e x h1 q,RepL.inj I ds es xs h2 B]
end
end
open Classical in
theorem vU:∀(ds es:List Dx),((zaB (min ds.length es.length)).all (λj=>decide (ds.getD j .non=es.getD j .non)) && ds.length == es.length)=decide (ds=es):=by
 intro ds es;by_cases h:ds=es
 ·subst h
  simp
 ·rw[decide_eq_false h]
  by_cases q:ds.length=es.length
  ·simp only[q,Nat.min_self,beq_self_eq_true,Bool.and_true]
   rw[zcN];intro z;rw[zcO]at z;refine h (zdm q λi h1 h2=>?_);have:=of_decide_eq_true (z i (List.mem_range.mpr h2));simpa[zc0,h1,h2]using this
  ·have:(ds.length == es.length)=false:=by simpa using q
   rw[this,Bool.and_false]
open Classical in
theorem xR(ds es:List Dx)(h:ds.length=es.length):((zaB ds.length).all (λj=>decide (ds.getD j .non=es.getD j .non)))=decide (ds=es):=by
 have:=vU ds es;rw[h,Nat.min_self,beq_self_eq_true,Bool.and_true]at this;rw[h];exact this
section
variable {X:Cx}{pins:List (Addr×Obj)}{σ:L2.St}{H:Hp}{s:zab}
theorem EqAt.to(h:EqAt A s u v b)(e:b=c):EqAt A s u v c:=e ▸ h
open Classical in
theorem k6(I:Inv X pins σ H s){n:Nat}(ih:∀(A:zas) (d e:Dx) (x y:V) (u v:Value),d.dep<=n->A.units+n<cLine->d.nb=true->e.nb=true->Rep X.K H d x->Rep X.K H e y->RelV x u->RelV y v->EqAt A s u v (decide (d=e)))
  {A:zas} {ds es:List Dx} {xs ys:List V} {us vs:List Value} (N:B9 ds<=n) (hu:A.units+(n+1)<cLine) (h1:QH ds=true) (h2:QH es=true) (F:RepL X.K H ds xs) (M:RepL X.K H es ys) (J:Vals xs us) (G:Vals ys vs) :
  ∀j (h1:j<us.toArray.size) (h2:j<vs.toArray.size),EqAt A.in1 s us.toArray[j] vs.toArray[j] (decide (ds.getD j .non=es.getD j .non)):=by
 intro j j1 U;have l1:=F.length;have l2:=M.length;have l3:=J.length;have l4:=G.length;have Y:j<us.length:=by simpa using j1
 have k2:j<vs.length:=by simpa using U
 have q:ds[j]?=some (ds.getD j .non):=by simp[zc0,show j<ds.length by lia]
 have z:es[j]?=some (es.getD j .non):=by simp[zc0,show j<es.length by lia]
 obtain⟨x,ex,rx⟩:=F.get' q;obtain⟨y,ey,ry⟩:=M.get' z;obtain⟨u,B,ru⟩:=J.get ex;obtain⟨v,ev,W⟩:=G.get ey;have b1:us.toArray[j]=u:=by
  rw[zaL Y]at B;simpa using zaD B
 have b2:vs.toArray[j]=v:=by
  rw[zaL k2]at ev;simpa using zaD ev
 rw[b1,b2];exact ih A.in1 _ _ x y u v (zbe (DD q) N) (by show A.units+1+n<cLine;lia) (BY h1 q) (BY h2 z) rx ry ru W
end
section
variable {X:Cx}{pins:List (Addr×Obj)}{σ:L2.St}{H:Hp}{s:zab}
theorem PlainL.isList(p:PlainL h a its):h.IsList a its:=by
 obtain⟨o,n,e,c,_,d⟩:=p;exact⟨o,e,c,n,d⟩
open Classical in
theorem vE(I:Inv X pins σ H s) :
  ∀(n:Nat) (A:zas) (d e:Dx) (x y:V) (u v:Value),d.dep<=n->A.units+n<cLine->d.nb=true->e.nb=true->Rep X.K H d x->Rep X.K H e y->RelV x u->RelV y v->EqAt A s u v (decide (d=e)):=by
 intro n;induction n with
 | zero=>
  intro A d e x y u v hd hu Y M W q ru F;have B:A.units<cLine:=by lia
  cases d with
  | bl b=>rw[Dx.nb]at Y;cases Y
  | tup l=>rw[Dx.dep]at hd;lia
  | lst l=>rw[Dx.dep]at hd;lia
  | non=>
   rw[Rep]at W;subst W;cases ru;cases e with
   | bl b=>rw[Dx.nb]at M;cases M
   | non=>rw[Rep]at q;subst q;cases F;exact EqAt.to (EqAt.same _) (by simp)
   | int i=>rw[Rep]at q;subst q;obtain⟨t,rfl⟩:=F;exact EqAt.to (EqAt.none_int _ _) (by simp)
   | str i=>rw[Rep]at q;subst q;obtain⟨t,rfl⟩:=F;exact EqAt.to (EqAt.none_str _ _) (by simp)
   | tup l=>
    rw[Rep]at q;obtain⟨a,xs,rfl,h1,_⟩:=q;cases F;obtain⟨J,_,G,_⟩:=I.tuple h1;exact EqAt.to (EqAt.none_tuple G B) (by simp)
   | lst l=>
    rw[Rep]at q;obtain⟨a,xs,rfl,h1,_⟩:=q;cases F;obtain⟨J,_,G,_⟩:=I.list h1;exact EqAt.to (EqAt.none_list G.isList B) (by simp)
  | int i=>
   rw[Rep]at W;subst W;obtain⟨t,rfl⟩:=ru;cases e with
   | bl b=>rw[Dx.nb]at M;cases M
   | non=>rw[Rep]at q;subst q;cases F;exact EqAt.to (EqAt.int_none _ _) (by simp)
   | int j=>rw[Rep]at q;subst q;obtain⟨t',rfl⟩:=F;exact EqAt.to (EqAt.int_int _ _ _ _) (by simp[zeY])
   | str j=>rw[Rep]at q;subst q;obtain⟨t',rfl⟩:=F;exact EqAt.to (EqAt.int_str _ _ _ _) (by simp)
   | tup l=>
    rw[Rep]at q;obtain⟨a,xs,rfl,h1,_⟩:=q;cases F;obtain⟨J,_,G,_⟩:=I.tuple h1;exact EqAt.to (EqAt.int_tuple _ _ G B) (by simp)
   | lst l=>
    rw[Rep]at q;obtain⟨a,xs,rfl,h1,_⟩:=q;cases F;obtain⟨J,_,G,_⟩:=I.list h1;exact EqAt.to (EqAt.int_list _ _ G.isList B) (by simp)
  | str i=>
   rw[Rep]at W;subst W;obtain⟨t,rfl⟩:=ru;cases e with
   | bl b=>rw[Dx.nb]at M;cases M
   | non=>rw[Rep]at q;subst q;cases F;exact EqAt.to (EqAt.str_none _ _) (by simp)
   | int j=>rw[Rep]at q;subst q;obtain⟨t',rfl⟩:=F;exact EqAt.to (EqAt.str_int _ _ _ _) (by simp)
   | str j=>rw[Rep]at q;subst q;obtain⟨t',rfl⟩:=F;exact EqAt.to (EqAt.str_str _ _ _ _) (by simp[zeY])
   | tup l=>
    rw[Rep]at q;obtain⟨a,xs,rfl,h1,_⟩:=q;cases F;obtain⟨J,_,G,_⟩:=I.tuple h1;exact EqAt.to (EqAt.str_tuple _ _ G B) (by simp)
   | lst l=>
    rw[Rep]at q;obtain⟨a,xs,rfl,h1,_⟩:=q;cases F;obtain⟨J,_,G,_⟩:=I.list h1;exact EqAt.to (EqAt.str_list _ _ G.isList B) (by simp)
 | succ n ih=>
  intro A d e x y u v hd hu Y M W q ru F;have B:A.units<cLine:=by lia
  cases d with
  | bl b=>rw[Dx.nb]at Y;cases Y
  | non=>exact ih A _ e x y u v (by rw[Dx.dep];lia) (by lia) Y M W q ru F
  | int i=>exact ih A _ e x y u v (by rw[Dx.dep];lia) (by lia) Y M W q ru F
  | str i=>exact ih A _ e x y u v (by rw[Dx.dep];lia) (by lia) Y M W q ru F
  | tup l=>
   have ab:=W;rw[Rep]at W;obtain⟨a,xs,rfl,h1,q1⟩:=W;cases ru;obtain⟨J,v1,G,_⟩:=I.tuple h1;cases e with
   | bl b=>rw[Dx.nb]at M;cases M
   | non=>rw[Rep]at q;subst q;cases F;exact EqAt.to (EqAt.tuple_none G B) (by simp)
   | int j=>rw[Rep]at q;subst q;obtain⟨t',rfl⟩:=F;exact EqAt.to (EqAt.tuple_int _ _ G B) (by simp)
   | str j=>rw[Rep]at q;subst q;obtain⟨t',rfl⟩:=F;exact EqAt.to (EqAt.tuple_str _ _ G B) (by simp)
   | lst m=>
    rw[Rep]at q;obtain⟨b,ys,rfl,h2,q2⟩:=q;cases F;obtain⟨N,v2,U,_⟩:=I.list h2;exact EqAt.to (EqAt.tuple_list G U.isList B) (by simp)
   | tup m=>
    by_cases hv:v=zan a
    ·subst hv
     obtain rfl:y=V.ref a:=RelV.inj F rfl;have:=Rep.inj I _ _ _ ab q;rw[this];exact EqAt.to (EqAt.same _) (by simp)
    ·rw[Rep]at q;obtain⟨b,ys,rfl,h2,q2⟩:=q;cases F
     obtain⟨N,v2,U,_⟩:=I.tuple h2;rw[Dx.dep]at hd;rw[Dx.nb]at Y M;refine EqAt.to (EqAt.of_refs (λz=>hv (by rw[z])) (RcAt.tuples G U B (k6 I ih (by lia) hu Y M q1 q2 v1 v2))) ?_;have e1:J.toArray.size=l.length:=by rw[zaA,<- v1.length,q1.length]
     have e2:N.toArray.size=m.length:=by rw[zaA,<- v2.length,q2.length]
     rw[e1,e2,vU];simp
  | lst l=>
   have ab:=W;rw[Rep]at W;obtain⟨a,xs,rfl,h1,q1⟩:=W;cases ru;obtain⟨J,v1,G,_⟩:=I.list h1;cases e with
   | bl b=>rw[Dx.nb]at M;cases M
   | non=>rw[Rep]at q;subst q;cases F;exact EqAt.to (EqAt.list_none G.isList B) (by simp)
   | int j=>rw[Rep]at q;subst q;obtain⟨t',rfl⟩:=F;exact EqAt.to (EqAt.list_int _ _ G.isList B) (by simp)
   | str j=>rw[Rep]at q;subst q;obtain⟨t',rfl⟩:=F;exact EqAt.to (EqAt.list_str _ _ G.isList B) (by simp)
   | tup m=>
    rw[Rep]at q;obtain⟨b,ys,rfl,h2,q2⟩:=q;cases F;obtain⟨N,v2,U,_⟩:=I.tuple h2;exact EqAt.to (EqAt.list_tuple G.isList U B) (by simp)
   | lst m=>
    by_cases hv:v=zan a
    ·subst hv
     obtain rfl:y=V.ref a:=RelV.inj F rfl;have:=Rep.inj I _ _ _ ab q;rw[this];exact EqAt.to (EqAt.same _) (by simp)
    ·rw[Rep]at q;obtain⟨b,ys,rfl,h2,q2⟩:=q;cases F
     obtain⟨N,v2,U,_⟩:=I.list h2;rw[Dx.dep]at hd;rw[Dx.nb]at Y M;have e1:J.toArray.size=l.length:=by rw[zaA,<- v1.length,q1.length]
     have e2:N.toArray.size=m.length:=by rw[zaA,<- v2.length,q2.length]
     by_cases hl:l.length=m.length
     ·refine EqAt.to (EqAt.of_refs (λz=>hv (by rw[z])) (RcAt.lists G.isList U.isList (by rw[e1,e2,hl]) B (k6 I ih (by lia) hu Y M q1 q2 v1 v2))) ?_
      rw[e1,xR _ _ hl];simp
     ·refine EqAt.to (EqAt.of_refs (λz=>hv (by rw[z])) (RcAt.lists_lengths G.isList U.isList (by rw[e1,e2];simpa using hl) B)) ?_
      rw[decide_eq_false];intro z;cases z;exact hl rfl
end
noncomputable def Dx.seq:Dx->Bool
 | .tup _=>true | .lst _=>true | .non=>false | .bl _=>false | .int _=>false | .str _=>false
open Classical in
def XQ(K:zaf)(neg:Bool):R2:=λx y H Q=>∃d e,Rep K H d x/\Rep K H e y/\d.seq=true/\e.seq=true/\d.nb=true/\e.nb=true/\d.dep<=60/\Q (.bl (if neg then !decide (d=e)else decide (d=e))) H
section
variable {X:Cx}{pins:List (Addr×Obj)}{σ:L2.St}{H:Hp}{s:zab}
open Classical in
theorem P0(I:Inv X pins σ H s)(hu:X.A.units+64<cLine)(r1:Rep X.K H d x)(J:Rep X.K H e y)(q1:d.seq=true)(M:e.seq=true)(n1:d.nb=true)(n2:e.nb=true)(hd:d.dep<=60)(ru:RelV x u)(rv:RelV y v) :
  RcAt X.A s u v (decide (d=e))/\RcNeAt X.A s u v (!decide (d=e)):=by
 have B:X.A.units<cLine:=by lia
 cases d with
 | bl b=>cases q1
 | non=>cases q1
 | int b=>cases q1
 | str b=>cases q1
 | tup l=>
  rw[Rep]at r1;obtain⟨a,xs,rfl,h1,k1⟩:=r1;cases ru;obtain⟨Y,v1,G,_⟩:=I.tuple h1;have U:Y.toArray.size=l.length:=by rw[zaA,<- v1.length,k1.length]
  cases e with
  | bl b=>cases M
  | non=>cases M
  | int b=>cases M
  | str b=>cases M
  | tup m=>
   rw[Rep]at J;obtain⟨b,ys,rfl,h2,W⟩:=J;cases rv;obtain⟨F,N,q,_⟩:=I.tuple h2;have e2:F.toArray.size=m.length:=by rw[zaA,<- N.length,W.length]
   rw[Dx.dep]at hd;rw[Dx.nb]at n1 n2;have he:=k6 I (vE I 60) (A:=X.A) (by lia) (by lia) n1 n2 k1 W v1 N;have a1:=RcAt.tuples G q B he;have a2:=RcNeAt.tuples G q B he;rw[U,e2,vU]at a1 a2;have z:decide (Dx.tup l=Dx.tup m)=decide (l=m):=by simp
   rw[z];exact⟨a1,a2⟩
  | lst m=>
   rw[Rep]at J;obtain⟨b,ys,rfl,h2,W⟩:=J;cases rv;obtain⟨F,N,q,_⟩:=I.list h2;have z:decide (Dx.tup l=Dx.lst m)=false:=by simp
   rw[z];exact⟨RcAt.tuple_list G q.isList B,RcNeAt.tuple_list G q.isList B⟩
 | lst l=>
  rw[Rep]at r1;obtain⟨a,xs,rfl,h1,k1⟩:=r1;cases ru;obtain⟨Y,v1,G,_⟩:=I.list h1;have U:Y.toArray.size=l.length:=by rw[zaA,<- v1.length,k1.length]
  cases e with
  | bl b=>cases M
  | non=>cases M
  | int b=>cases M
  | str b=>cases M
  | tup m=>
   rw[Rep]at J;obtain⟨b,ys,rfl,h2,W⟩:=J;cases rv;obtain⟨F,N,q,_⟩:=I.tuple h2;have z:decide (Dx.lst l=Dx.tup m)=false:=by simp
   rw[z];exact⟨RcAt.list_tuple G.isList q B,RcNeAt.list_tuple G.isList q B⟩
  | lst m=>
   rw[Rep]at J;obtain⟨b,ys,rfl,h2,W⟩:=J;cases rv;obtain⟨F,N,q,_⟩:=I.list h2;have e2:F.toArray.size=m.length:=by rw[zaA,<- N.length,W.length]
   rw[Dx.dep]at hd;rw[Dx.nb]at n1 n2;have z:decide (Dx.lst l=Dx.lst m)=decide (l=m):=by simp
   rw[z];by_cases hl:l.length=m.length
   ·have he:=k6 I (vE I 60) (A:=X.A) (by lia) (by lia) n1 n2 k1 W v1 N
    have a1:=RcAt.lists G.isList q.isList (by rw[U,e2,hl]) B he;have a2:=RcNeAt.lists G.isList q.isList (by rw[U,e2,hl]) B he;rw[U,xR _ _ hl]at a1 a2;exact⟨a1,a2⟩
   ·have z2:decide (l=m)=false:=decide_eq_false λz=>hl (by rw[z])
    rw[z2];exact⟨RcAt.lists_lengths G.isList q.isList (by rw[U,e2];simpa using hl) B,RcNeAt.lists_lengths G.isList q.isList (by rw[U,e2];simpa using hl) B⟩
end
section
variable {X:Cx}
theorem TC(J:X.A.units+64<cLine):OpR X (zaq .Eq) (XQ X.K false):=by
 intro pins s σ H x y v u Q I G N h;obtain⟨d,e,U,B,M,Y,W,F,z,q⟩:=h;exact(P0 I J U B M Y W F z G N).1 X.prog X.w X.xe _ ⟨.bl _,H,I,rfl,q⟩
theorem T7(J:X.A.units+64<cLine):OpR X (zaq .NotEq) (XQ X.K true):=by
 intro pins s σ H x y v u Q I G N h;obtain⟨d,e,U,B,M,Y,W,F,z,q⟩:=h;exact(P0 I J U B M Y W F z G N).2 X.prog X.w X.xe _ ⟨.bl _,H,I,rfl,q⟩
end
noncomputable def VB(lo c:Int)(n:Nat):It:=⟨λi _=>i<n,λi H x H'=>H'=H/\x=.int (lo+i*c),λi _=>n<=i⟩
theorem xF{P:zap}{w:World}{K:zaf}{tg:Expr}(it:Addr)(lo c:Int)(n:Nat):Turn P w K tg (VB lo c n) [it] it (λi h=>zdL h it (lo+(i:Nat)*c) ((n:Int)-(i:Nat)) c) where
 mem:=by simp
 obj:=λi h st b q=>by
  have e:b=it:=by simpa using q
  subst e;exact⟨_,st,λv z=>by
   have z':Data.fields _=Data.cell v:=z;cases z'⟩
 keep:=λi h h' st k=>k it (by simp) _ st
 item:=by
  intro X J hw G N i pins s σ H E I F st hg;subst J hw G;obtain⟨f0,f1,f2,Y,U,M⟩:=F it (by simp);have W:=Walks.range (prog:=X.prog) (w:=X.w) (I.ok.hd N) it lo c n;refine W.item i s _ _ hg st λv h' tk hv B kk=>?_
  obtain⟨t,rfl⟩:=hv;have I1:Inv X pins σ H {s with heap:=h',toks:=tk}:=I.turned (λb o q e=>kk b o (by simpa using q) e) f0 f1 Y U M;exact⟨_,rfl,nN (s:={s with heap:=h',toks:=tk}) (n := "range_iterator") B rfl rfl (by decide) ⟨.int (lo+i*c),H,I1,⟨t,rfl⟩,⟨rfl,rfl⟩,B,λb q=>(F b q).1⟩⟩
 done:=by
  intro X J hw G N i pins s σ H E I F st hg;subst J hw G;obtain⟨f0,f1,f2,Y,U,M⟩:=F it (by simp);exact wpAny_pyNext_range_end (I.ok.hd N) st (by have:n<=i:=hg;lia) λh' eb=>⟨rfl,I.turned (t':=s.toks) (λb o q e=>eb b o q e) f0 f1 Y U M⟩
 self:=λ_ _ _ _ _ st h=>wpAny_pyIter_rangeiter st h
noncomputable def rsz(a b c:Int):Nat:=(zbR a b c).toNat
theorem UI(a b c:Int)(q:c≠0):zbR a b c=(rsz a b c:Int):=by
 unfold rsz;have:0<=zbR a b c:=by
  unfold zbR;split
  ·rename_i h
   split
   ·have:=zeZ (show 0<=b-a-1 by lia) (show 0<=c by lia)
    lia
   ·lia
  ·split
   ·have:=zeZ (show 0<=a-b-1 by lia) (show 0<=-c by lia)
    lia
   ·lia
 lia
def WC(ta:TA):TI:=λσ H R=>ta σ H λvs H1=>∃i j c:Int,vs=[.int i,.int j,.int c]/\(c≠0/\c.natAbs<1000/\zch i j c=true)/\R (VB i c (rsz i j c)) H1
theorem F4(hg:Gl X "range")(N:X.mg "range" = none)(U:PA X [a,b,c] ta)(hs:zah [a,b,c] X.env=[(false,eval a X.env),(false,eval b X.env),(false,eval c X.env)]:=by rfl)(G:zah [b,c] X.env=[(false,eval b X.env),(false,eval c X.env)]:=by rfl) :
  PI X tg (.Call (.Name "range" p) [a,b,c] [] pos) (WC ta):=by
 intro pins s σ H R I h;refine Call_ (fL I hg N My.boot_range (zcC (bN (U pos pins s σ H _ I h) λus F ⟨vs,H1,I1,r1,q1⟩=>?_) (by rw[hs,G]) (by rw[G];rfl)));obtain⟨i,j,z,e,⟨c0,c1,sm⟩,q⟩:=q1;subst e;cases r1 with
 | cons r rr=>
  cases rr with
  | cons r' rr=>
   cases rr with
   | cons r'' rr=>
    cases rr;obtain⟨t,rfl⟩:=r;obtain⟨t',rfl⟩:=r';obtain⟨B,rfl⟩:=r'';refine call_range_3 c0 ?_ (zbL (PyProof.noPylong_small (by lia)));refine wpAny_pyIter_range (IsRange.new ..) sm ?_;have J:Inv X pins σ H1 {F with heap:=F.heap.push {cls:=.type "range",data:=.fields #[.int i t,.int j t',.int z B]},toks:=F.toks}:=I1.kept λb o e=>zag _ e
    refine⟨(F.heap.push {cls:=.type "range",data:=.fields #[.int i t,.int j t',.int z B]}).objs.size,[(F.heap.push {cls:=.type "range",data:=.fields #[.int i t,.int j t',.int z B]}).objs.size],_,_,H1,rfl,
     J.kept (t':=F.toks) λb o e=>zag _ e,xF _ i z (rsz i j z),?_,λb M=>?_,q⟩
    ·show zdL _ _ (i+((0:Nat):Int)*z) (((rsz i j z:Nat):Int)-((0:Nat):Int)) z
     rw[<- UI i j z c0];have Y:i+((0:Nat):Int)*z=i:=by simp
     have W:zbR i j z-((0:Nat):Int)=zbR i j z:=by simp
     rw[Y,W];exact zat _ rfl
    ·have e:b=(F.heap.push {cls:=.type "range",data:=.fields #[.int i t,.int j t',.int z B]}).objs.size:=by simpa using M
     subst e;exact J.fpOk (zao _) (J.hok.fresh (zao _))
theorem EX(M:1<=c)(F:c<=1000)(J:-1000000<=a)(q:a<=1000000)(G:-1000000<=b)(B:b<=1000000):zch a b c=true:=by
 have h1:a<b->0<=(b-a-1)/c/\(b-a-1)/c<=b-a-1:=λh=>⟨zeZ (by lia) (by lia),Int.ediv_le_self _ (by lia)⟩
 unfold zch zbR;simp only[zfe,zaK,zdn,decide_eq_true_eq,beq_iff_eq,show c>0 by lia,if_true];split
 ·rename_i h
  have:=h1 h;generalize (b-a-1)/c=z at *
  lia
 ·lia
def TSame(H H':Hp):Prop:=∀b xs,Rd H b (.tup xs)->Rd H' b (.tup xs)
theorem Same.t(e:Same H H'):TSame H H':=λb xs h=>by
 rcases h with h|⟨o,h⟩
 ·exact .inl (e _ _ h)
 ·exact .inr ⟨o,e _ _ h⟩
theorem TSame.trans(a:TSame H H1)(b:TSame H1 H2):TSame H H2:=λc o h=>b c o (a c o h)
theorem TSame.put(h:H l=some (.lst us)):TSame H (upd H l o):=λb xs q=>by
 have ne:b≠l:=λz=>by
  subst z;rcases q with q|⟨ob,q⟩ <;> (rw[h]at q;cases q)
 rcases q with q|⟨ob,q⟩
 ·exact .inl (by rw[aE ne];exact q)
 ·exact .inr ⟨ob,by rw[aE ne];exact q⟩
theorem TSame.sq{K:zaf}{H H':Hp}{a:Addr}{xs:List V}(e:TSame H H')(h:SqT K H a xs):SqT K H' a xs:=by
 rcases h with h|h
 ·exact .inl (e _ _ h)
 ·exact .inr h
mutual
def Dx.nl:Dx->Bool
 | .lst _=>false
 | .tup l=>YJ l
 | .non=>true
 | .bl _=>true
 | .int _=>true
 | .str _=>true
def YJ:List Dx->Bool
 | []=>true
 | d::ds=>d.nl && YJ ds
end
section
variable {K:zaf}{H H':Hp}
mutual
theorem Rep.tsame(e:TSame H H'):∀(d:Dx) (v:V),d.nl=true->Rep K H d v->Rep K H' d v
 | .non,v,_,h=>by rw[Rep]at h ⊢;exact h
 | .bl b,v,_,h=>by rw[Rep]at h ⊢;exact h
 | .int i,v,_,h=>by rw[Rep]at h ⊢;exact h
 | .str x,v,_,h=>by rw[Rep]at h ⊢;exact h
 | .tup l,v,n,h=>by
  rw[Rep]at h ⊢;rw[Dx.nl]at n;obtain⟨a,xs,q,h1,h2⟩:=h;exact⟨a,xs,q,e.sq h1,RepL.tsame e l xs n h2⟩
 | .lst l,v,n,h=>by rw[Dx.nl]at n;cases n
theorem RepL.tsame(e:TSame H H'):∀(ds:List Dx) (vs:List V),YJ ds=true->RepL K H ds vs->RepL K H' ds vs
 | [],vs,_,h=>by rw[RepL]at h ⊢;exact h
 | d::ds,vs,n,h=>by
  rw[RepL]at h ⊢;rw[YJ,zaK]at n;obtain⟨x,xs,q,h1,h2⟩:=h;exact⟨x,xs,q,Rep.tsame e d x n.1 h1,RepL.tsame e ds xs n.2 h2⟩
end
end
theorem Same.put(e:Same H H')(h:H l=none):Same H (upd H' l o):=λb u q=>by
 rw[aE (aR q h)];exact e b u q
def aX(X:Cx)(N:List Str)(scope:Scope)(q:List (Str×Addr))(C:Addr)(s:zab)(H:Hp)(fp:List Addr):Cx where
 prog:=X.prog
 w:=X.w
 K:=X.K
 mg:=X.mg
 base:=X.base
 A:=X.A
 N:=N
 s₀:=s
 H₀:=H
 env:=compEnvC scope q C X.env
 outer:=X.stack
 stack:=X.stack
 ex:=fp
 fn:=λ_=>false
 calm:=X.calm
 pn:=[]
 xe:=λ_ _=>False
def EF(X:Cx)(q:List Expr)(t:TT):Prop:=
 ∀(pins:List (Addr×Obj)) (s:zab) (σ:L2.St) (H:Hp) (Q:Bool->Hp->Prop),Inv X pins σ H s->t σ H Q->
  wpAny (model X.prog X.w) X.A (forIn q true λc r=>if r=true then do let ok <- isTrue c X.env (eval c X.env);pure (zc1 ok)else pure (zc1 r)) (TP X pins σ Q) X.xe s
def ZE:TT:=λ_ H Q=>Q true H
theorem N1:EF X [] ZE:=λpins s σ H Q I h=>wpAny_tests_nil ⟨H,I,h⟩
theorem NG(h:PT X c t):EF X [c] t:=λpins s σ H Q I hw=>wpAny_tests_one (h pins s σ H Q I hw)
structure Clo(X:Cx)(N:List Str)(scope:Scope)(cl:List (Str×Addr)):Prop where
 clos:closureFor scope X.env=pure cl
 kind:scope.kind=.function
 nocell:∀y∈scope.names,y.2≠.cell
 names:∀y∈scope.names,y.2=.local->scope.names.lookup y.1=some .local
 sub:∀x c,cl.lookup x=some c->X.env.cells.lookup x=some c
 has:∀x,((zbM scope X.env).names.lookup x=some .cell\/(zbM scope X.env).names.lookup x=some .free)->∃c,cl.lookup x=some c
def Start(X:Cx)(N:List Str)(scope:Scope)(σ q:L2.St):Prop:=
 q.length=N.length/\∀(j:Nat) (x:Str) (v:V),N[j]?=some x->q[j]?=some (some v)->VM (zbM scope X.env) x->¬ (zbM scope X.env).names.lookup x=some .local/\∃i:Nat,X.N[i]?=some x/\σ[i]?=some (some v)/\(X.env.kindOf x=some .cell\/X.env.kindOf x=some .free)
def LA(wi:TI)(g:TG)(Y:TT)(te:TE)(S:L2.St->L2.St->Prop):TE:=λσ H Q=>∃F,S σ F/\wi σ H λJ H1=>∀D,H1 D=none->∃W:Nat->Nat->L2.St->List V->Hp->Prop,(∃m,W 0 m F [] (upd H1 D (.lst []))) /\
 ∀i m z us H2,W i m z us H2->(J.stop i H2/\Q (.ref D) H2)\/(J.go i H2/\us.length<zaj/\∀x M,J.yld i H2 x M->g x z M λq U=>Y q U λok G=>
  if ok=true then te q G λv N=>N D=some (.lst us)/\∃B,B<m/\W (i+1) B q (us++[v]) (upd N D (.lst (us++[v])))else G D=some (.lst us)/\∃B,B<m/\W (i+1) B q us G)
section
variable {X:Cx}
theorem OI(B:Inv X pins σ H3 s3)(G:Clo X N scope cl)(J:∀b∈fp,iI X pins H3 b)(M:∀b∈fp,∃o,s3.heap.get? b=some o) :
  (aX X N scope cl s3.heap.objs.size s3 H3 fp).Ok where
 mod:=B.ok.mod
 kind:=G.kind
 glob:=B.ok.glob
 blt:=B.ok.blt
 above:=zao _
 inj:=λx y c h1 h2=>B.ok.inj x y c (G.sub x c h1) (G.sub y c h2)
 has:=λx h=>G.has x h
 cab:=λx c h _=>nomatch h
 hd:=B.ok.hd
 frames:=B.ok.frames
 stk:=.inl rfl
 exf:=λb F=>by
  obtain⟨o,e⟩:=M b F;exact⟨zaz (zai e),λx c h=>(J b F).2.2.2.2.1 x c (G.sub x c h)⟩
 bs:=B.bs
 bsz:=zbe B.ok.bsz B.sz
 noex:=λb o e F=>by
  rcases(J b F).2.2.2.1 with z|z
  ·exact B.ok.noex b o e z
  ·exact absurd (zbc (zai e) B.ok.bsz) (Nat.not_lt.mpr z)
 exfs:=λb F z=>by
  rcases List.mem_cons.mp (B.stkSub b z)with q|q
  ·exact(J b F).2.1 q
  ·exact(J b F).2.2.1 q
 funs:=B.stack
 frf:=B.stkFree
theorem HU(F:Inv X pins σ H3 s3)(G:Clo X N scope cl)(ff:∀b∈fp,iI X pins H3 b)(fe:∀b∈fp,∃o,s3.heap.get? b=some o)
  (st:Start X N scope σ σ') (ho:s4.os=s3.os) (hg:s4.gens=s3.gens) (M:∀b o,s3.heap.get? b=some o->s4.heap.get? b=some o) (hn:s4.heap.Ns s3.heap.objs.size m) :
  Inv (aX X N scope cl s3.heap.objs.size s3 H3 fp) [] σ' H3 s4 where
 ok:=OI F G ff fe
 os:=ho
 bare:=by rw[hg];exact F.bare
 base:=Un.kept M
 loc:=by
  refine⟨m,hn,λj x v h1 h2 z=>?_⟩;obtain⟨nl,i,e1,e2,q⟩:=st.2 j x v h1 h2 z;obtain⟨m0,al,aa⟩:=F.loc;have W:VM X.env.scope x:=by
   rcases q with q|q
   ·exact .inr (.inl q)
   ·exact .inr (.inr q)
  obtain⟨u,ru,l⟩:=aa i x v e1 e2 W;refine⟨u,ru,?_⟩;rcases l with⟨lk,_⟩|⟨_,c,hc,B⟩
  ·rcases q with q|q <;> (rw[lk]at q;cases q)
  ·have kk:(zbM scope X.env).names.lookup x=some .cell\/(zbM scope X.env).names.lookup x=some .free:=by
    rcases z with z|z|z
    ·exact absurd z nl
    ·exact .inl z
    ·exact .inr z
   obtain⟨c',J⟩:=G.has x kk;have ec:=G.sub x c' J;rw[hc]at ec;cases ec;obtain⟨o,Y,U⟩:=B;exact .inr ⟨kk,c,J,o,M c o Y,U⟩
 cell:=λx c e=>by
  obtain⟨v,o,e1,d1⟩:=F.cell x c (G.sub x c e);exact⟨v,o,M c o e1,d1⟩
 free:=F.hok.fresh (zao _)
 freeC:=λx c e=>F.freeC x c (G.sub x c e)
 pin:=λp hp=>nomatch hp
 hok:=F.hok.kept M
 len:=st.1
theorem comp_back(M:Inv X pins σ H3 s3)(U:∀b∈fp,iI X pins H3 b)
  (G:Inv (aX X N scope cl s3.heap.objs.size s3 H3 fp) [] σ5 H5 s5) (hs:zaT s3.heap.objs.size s5.heap h'):Inv X pins σ H5 {s5 with heap:=h'}:=by
 have ne:∀b o,s3.heap.get? b=some o->b≠s3.heap.objs.size:=λb o e=>zaz (zai e)
 have u:=G.base;refine M.call' (s':={s5 with heap:=h'}) (ch:=fp) G.os ⟨λb o e n B F=>?_,λb o e n B F=>?_,u.free,λb o e F=>?_,u.tups,u.frzs,u.tbls⟩ ?_ G.bare λb B=>?_
 ·exact(hs.2 b (ne b o e)).trans (u.keep b o e n B F)
 ·obtain⟨sl,q⟩:=u.slot b o e n B F
  exact⟨sl,(hs.2 b (ne b o e)).trans q⟩
 ·obtain⟨o',q⟩:=u.there b o e F
  exact⟨o',(hs.2 b (ne b o e)).trans q⟩
 ·intro b ob e
  have J:H5 s3.heap.objs.size=none:=G.free;refine(G.hok b ob e).stay (λc w' Y q=>(hs.2 c ?_).trans q) (λ_ q=>q) λ_ _ q=>q
  rintro rfl;rcases Y with z|z
  ·subst z;rw[J]at e;cases e
  ·rw[J]at z;cases z
 ·obtain⟨_,f1,_,f3,f4,W⟩:=U b B
  exact⟨f3,f1,f4,W⟩
theorem GE(I:Nat->zab->Prop)
  (turn:∀n s, I n s -> wpAny (model prog w) A (zaH it) (λr q => match r with
   | none=>R (.ok .next) q
   | some v=>wpAny (model prog w) A (zdK target it v) (λ_ B=>wpAny (model prog w) A (zbq target env v) (λ_ F=>
     wpAny (model prog w) A (forIn ifs true λc r=>if r=true then do let ok <- isTrue c env (eval c env);pure (zc1 ok)else pure (zc1 r)) (λok z=>
      if ok=true then wpAny (model prog w) A (eval elt env) (λx J=>
       wpAny (model prog w) A (call (.builtin "list.append") [acc,x]) (λ_ M=>∃m,m<n/\I m M) (λ_ _=>False) J) (λ_ _=>False) z
      else ∃m,m<n/\I m z) (λ_ _=>False) F) (λ_ _=>False) B) (λ_ _=>False) q) (λ_ _=>False) s)
  (n:Nat) (h:I n s) :
  zbs (model prog w) A (.compLoop (.ListComp elt [⟨target,iter,ifs,0⟩] scope pos) 0 it acc env) R s:=by
 refine codeAny_loop rfl I (λn s hI=>?_) n h;show wpAny _ A ((compTurn (.ListComp elt [⟨target,iter,ifs,0⟩] scope pos) 0 it acc env).onRaise (λx=>do noteFrame x env;theTreesLotGoes x)) _ _ s;refine wpAny_noted ?_;rw[compTurn_list];have W:∀(e:Value) (s':zab),False->notedBy (model prog w) A env (λe s'=>R (.error e) s') e s':=λ_ _ h=>h.elim
 refine zaa (zdh (zaa (zba (turn n s hI) (λr q N=>?_) W)));cases r with
 | none=>exact zac N
 | some v=>
  refine zaa (zba N (λ_ B U=>?_) W);refine zaa (zba U (λ_ F aa=>zaa (zba aa (λok z G=>?_) W)) W);cases ok with
  | false=>exact zac ⟨rfl,G⟩
  | true=>
   exact zaa (zaa (zba G (λx J ab=>zaa (zba ab (λ_ M Y=>zac (zac ⟨rfl,Y⟩)) W)) W))
theorem uE{ap tg aj:Expr}{an:List Expr}{scope:Scope}{pos:Pos}{N:List Str}{M:List (Str×Addr)}{wi:TI}{g:TG}{tt:TT}{te:TE}{RR:Value->Addr->Result->zab->Prop}{pins:List (Addr×Obj)}{σ ah:L2.St}{Q:VK}{J:It}{H2:Hp}{B:zab}{it:Addr}{fp:List Addr}{tn:Nat->Heap->Prop}{E:Value->zab->Prop}
  (hc:X.calm=true) (cc:Clo X N scope M) (hg:∀C s H fp,PG (aX X N scope M C s H fp) tg g) (ht:∀C s H fp,EF (aX X N scope M C s H fp) an tt) (he:∀C s H fp,PE (aX X N scope M C s H fp) ap te)
  (I2:Inv X pins σ H2 B) (T:Turn X.prog X.w X.K tg J fp it tn) (ar:tn 0 B.heap) (f2:∀b∈fp,iI X pins H2 b) (sS:Start X N scope σ ah)
  (q2:∀D, H2 D = none -> ∃W:Nat -> Nat -> L2.St -> List V -> Hp -> Prop, (∃m, W 0 m ah [] (upd H2 D (.lst []))) /\
   ∀i m G us H2,W i m G us H2->(J.stop i H2/\Q (.ref D) H2)\/(J.go i H2/\us.length<zaj/\∀x F,J.yld i H2 x F->g x G F λai H4=>tt ai H4 λok H5=>
    if ok=true then te ai H5 λv H6=>H6 D=some (.lst us)/\∃m',m'<m/\W (i+1) m' ai (us++[v]) (upd H6 D (.lst (us++[v])))else H5 D=some (.lst us)/\∃m',m'<m/\W (i+1) m' ai us H5))
  (bn:∀(s3 s5:zab) (F H5:Hp) (Y:L2.St) (D:Addr),Inv X pins σ F s3->(∀b∈fp,iI X pins F b)->Inv (aX X N scope M s3.heap.objs.size s3 F fp) [] Y H5 s5->Q (.ref D) H5->RR (.ref D) s3.heap.objs.size (.ok .next) s5) :
  wpAny (model X.prog X.w) X.A (newList []) (λa4 az=>wpAny (model X.prog X.w) X.A (newFunctionEnv scope X.env.globals M [] X.env.qual none .none (some X.env)) (λak a3=>
   zbs (model X.prog X.w) X.A (.compStart (.ListComp ap [⟨tg,aj,an,0⟩] scope pos) 0 (.ref it) a4 {ak with scope:=zbM scope X.env}) (RR a4 ak.locals) a3) E az) E B:=by
 refine zbp (wpAny_newFunctionEnv cc.nocell (by intro y hy;simp at hy) (λh1 ae ag=>?_) cc.kind);dsimp only at ae ag ⊢;have I3:Inv X pins σ (upd H2 B.heap.objs.size (.lst [])) {B with heap:=B.heap.push {cls:=.type "list",dict:=none,data:=.seq ([]:List Value).toArray} }:=I2.lnew (t':=B.toks) .nil (zaZ _);have hD:H2 B.heap.objs.size=none:=I2.fresh;have bf:∀b∈fp,b≠B.heap.objs.size:=λb q=>by
  obtain⟨o,e,_⟩:=T.obj 0 _ ar b q;exact zaz (zai e)
 have fe:∀b∈fp,∃o,(B.heap.push {cls:=.type "list",dict:=none,data:=.seq ([]:List Value).toArray}).get? b=some o:=λb q=>by
  obtain⟨o,e,_⟩:=T.obj 0 _ ar b q;exact⟨o,zag _ e⟩
 have f3:∀b∈fp,iI X pins (upd H2 B.heap.objs.size (.lst [])) b:=λb q=>⟨by rw[aE (bf b q)];exact(f2 b q).1,(f2 b q).2⟩
 obtain⟨W,⟨m0,w0⟩,turn⟩:=q2 B.heap.objs.size hD;have bq:(upd H2 B.heap.objs.size (.lst [])) B.heap.objs.size=some (.lst []):=aJ;generalize hs3:({B with heap:=B.heap.push {cls:=.type "list",dict:=none,data:=.seq ([]:List Value).toArray} }:zab)=s3 at I3;have e3:B.heap.push {cls:=.type "list",dict:=none,data:=.seq ([]:List Value).toArray}=s3.heap:=by rw[<- hs3]
 rw[e3]at ae ag fe ⊢;generalize B.heap.objs.size=D at *;generalize upd H2 D (.lst [])=F at *;have as:∀b o,s3.heap.get? b=some o->h1.get? b=some o:=λb o e=>(ag.2 b (zaz (zai e))).trans (zag _ e)
 have au:tn 0 s3.heap:=by
  refine T.keep 0 _ _ ar λb q o e=>?_
  rw[<- e3];exact zag _ e
 have al:∀s4:zab,s4={B with heap:=h1,toks:=B.toks+([]:List (Str×Value)).length}->
   zbs (model X.prog X.w) X.A (.compLoop (.ListComp ap [⟨tg,aj,an,0⟩] scope pos) 0 (.ref it) (.ref D) (compEnvC scope M s3.heap.objs.size X.env)) (RR (.ref D) s3.heap.objs.size) s4:=by
  rintro s4 rfl;have I4:Inv (aX X N scope M s3.heap.objs.size s3 F fp) [] ah F {B with heap:=h1,toks:=B.toks+([]:List (Str×Value)).length}:=
   HU (m:=λx=>([]:List (Str×Value)).reverse.lookup x) I3 cc f3 fe sS (by rw[<- hs3]) (by rw[<- hs3]) as ae
  have aq:∀ {H':Hp},(∀b∈fp,H' b=none)->∀b∈fp,iI (aX X N scope M s3.heap.objs.size s3 F fp) [] H' b:=λhn b q=>by
   have ok:=I4.ok;exact⟨hn b q,(ok.exf b q).1,ok.exfs b q,.inl q,(ok.exf b q).2,λp hp=>nomatch hp⟩
  refine GE (λn s'=>∃i G us H',Inv (aX X N scope M s3.heap.objs.size s3 F fp) [] G H' s'/\tn i s'.heap/\(∀b∈fp,H' b=none)/\H' D=some (.lst us)/\W i n G us H') ?_ m0 ⟨0,ah,[],F,I4,T.keep 0 _ _ au λb q o e=>as b o e,λb q=>(f3 b q).1,bq,w0⟩;rintro n s5 ⟨i,Y,us,H5,I5,a6,ay,ci,w5⟩;rcases turn i n Y us H5 w5 with⟨a0,qn⟩|⟨go,ba,step⟩
  ·refine bN (T.done (aX X N scope M s3.heap.objs.size s3 F fp) rfl rfl rfl hc i [] s5 Y H5 _ I5 (aq ay) a6 a0) λr s6 ⟨hr,I6⟩=>?_
   subst hr;exact bn s3 s6 F H5 Y D I3 f3 I6 qn
  ·refine bN (T.item (aX X N scope M s3.heap.objs.size s3 F fp) rfl rfl rfl hc i [] s5 Y H5 _ I5 (aq ay) a6 go) λr s6 ⟨u,hr,h6⟩=>?_
   subst hr;refine bN h6 λ_ s7 ⟨x,H7,I7,r7,y7,ao,bl⟩=>?_
   have bp:=I7.pinned (aq bl) (T.obj _ _ ao);refine bN (hg _ _ _ _ _ s7 Y H7 x u _ bp r7 (step x H7 y7)) λ_ s8 ⟨U,H8,I8,q8⟩=>?_
   refine bN (ht _ _ _ _ _ s8 U H8 _ I8 q8) λok s9 ⟨H9,I9,q9⟩=>?_
   have fin:∀ {ab:zab} {aa:Hp} {vs:List V},Inv (aX X N scope M s3.heap.objs.size s3 F fp) ([]++rX fp s7.heap) U aa ab->aa D=some (.lst vs)->(∃m',m'<n/\W (i+1) m' U vs aa)->
     ∃m,m<n/\∃i G us H',Inv (aX X N scope M s3.heap.objs.size s3 F fp) [] G H' ab/\tn i ab.heap/\(∀b∈fp,H' b=none)/\H' D=some (.lst us)/\W i m G us H':=λ{ab aa vs} af hd ⟨m',hm,bi⟩=>by
    refine⟨m',hm,i+1,U,vs,aa,af.unpinned,T.keep _ _ _ ao λb q o e=>(af.pin (b,o) (zbF _ (zbF _ (gJ q e)))).1,λb q=>?_,hd,bi⟩;obtain⟨o,e,d⟩:=T.obj _ _ ao b q;exact(af.pin (b,o) (zbF _ (zbF _ (gJ q e)))).2.1
   cases ok with
   | false=>
    rw[if_neg zaw]at q9 ⊢;exact fin I9 q9.1 q9.2
   | true=>
    rw[if_pos rfl]at q9 ⊢;refine bN (he _ _ _ _ _ s9 U H9 _ I9 q9) λy ab ⟨v,aa,af,bh,a5,bc⟩=>?_
    refine bN (tP (X:=aX X N scope M s3.heap.objs.size s3 F fp) _ ab U aa (.ref D) [v] (.ref D) [y] (λ_ am=>am D=some (.lst (us++[v]))/\∃m',m'<n/\W (i+1) m' U (us++[v]) am) af rfl (.cons bh .nil) ⟨D,us,v,rfl,rfl,a5,ba,aJ,bc⟩) λ_ cb ⟨z,am,bj,_,a2,bg⟩=>?_
    exact fin bj a2 bg
 exact codeAny_compStart_list (al _ rfl) (T.self X.A 0 _ _ _ (T.keep 0 _ _ au λb q o e=>as b o e) (al _ rfl))
theorem OT{B tg z:Expr}{F:List Expr}{scope:Scope}{pos:Pos}{N:List Str}{M:List (Str×Addr)}{wi:TI}{g:TG}{tt:TT}{te:TE}
  (hc:X.calm=true) (G:Clo X N scope M) (hi:PI X tg z wi) (hg:∀C s H fp,PG (aX X N scope M C s H fp) tg g) (ht:∀C s H fp,EF (aX X N scope M C s H fp) F tt) (he:∀C s H fp,PE (aX X N scope M C s H fp) B te)
  (hs:∀x,zbS z X.env x=pure x:=by intro _;rfl) :
  PE X (.ListComp B [⟨tg,z,F,0⟩] scope pos) (LA wi g tt te (Start X N scope)):=by
 intro pins s σ H Q I h;obtain⟨ac,sS,hw⟩:=h;rw[eval_ListComp];refine wpAny_comprehension_free (use:=none) rfl hs G.clos G.kind G.names (bN (hi pins s σ H _ I hw) λv s1 h1=>bN h1 λai s2 h2=>?_);obtain⟨it,fp,tn,J,H2,e,I2,T,W,f2,q2⟩:=h2;subst e;refine uE (wi:=wi) (Q:=Q) (RR:=λY C=>compPost (model X.prog X.w) X.A X.xe none (EP X pins σ Q) Y C) hc G hg ht he I2 T W f2 sS q2 ?_;intro s3 s5 H3 H5 ag D I3 f3 I5 q;obtain⟨m,hn,_⟩:=id I5.loc;exact⟨m,hn,λh' U=>⟨.ref D,H5,comp_back I3 f3 I5 U,rfl,q⟩⟩
end
end My
namespace My
open PySem PySem.W PyProof.Rows
structure Ord(n:Nat)(lt:Nat->Nat->Bool):Prop where
 irr:∀i,i<n->lt i i=false
 tr:∀i j k,i<n->j<n->k<n->lt i j=true->lt j k=true->lt i k=true
 tot:∀i j,i<n->j<n->i≠j->lt i j=true\/lt j i=true
noncomputable def gB(n:Nat)(lt:Nat->Nat->Bool):Nat->Nat->(Bool->zab->Prop)->zab->Prop:=λi j C s=>i<n/\j<n/\i≠j/\C (lt i j) s
def PermR(n:Nat)(p:Array Nat):Prop:=p.Perm (zdo (zaB n))
theorem PermR.size(h:PermR n p):p.size=n:=by
 have:=Array.Perm.size_eq h;simpa using this
theorem PermR.lt(h:PermR n p)(hi:i<n):p.getD i 0<n:=by
 have hs:=h.size;have q:i<p.size:=by lia
 have e:p.getD i 0=p[i]:=by simp[zc2,q]
 rw[e];have z:p[i]∈p.toList:=by simp
 have:=(Array.perm_iff_toList_perm.mp h).mem_iff.mp z;simpa using this
theorem PermR.nodup(h:PermR n p):p.toList.Nodup:=by
 have:=Array.perm_iff_toList_perm.mp h;exact this.symm.nodup (by simpa using List.nodup_range)
theorem PermR.ne(h:PermR n p)(hi:i<n)(M:j<n)(q:i≠j):p.getD i 0≠p.getD j 0:=by
 have hs:=h.size;have B:i<p.toList.length:=by rw[zbf];lia
 have J:j<p.toList.length:=by rw[zbf];lia
 have G:p.getD i 0=p.toList[i]:=by simp[zc2,show i<p.size by lia]
 have F:p.getD j 0=p.toList[j]:=by simp[zc2,show j<p.size by lia]
 rw[G,F];intro z;exact q ((zdg h.nodup).mp z)
def eZ(lt:Nat->Nat->Bool)(p:Array Nat)(k:Nat):Prop:=∀i j,i<j->j<k->lt (p.getD i 0) (p.getD j 0)=true
section
variable {n:Nat}{lt:Nat->Nat->Bool}(O:Ord n lt)
include O
theorem jY(z:PermR n p)(F:r<=n)(h:∀i,i+1<r->lt (p.getD i 0) (p.getD (i+1) 0)=true):eZ lt p r:=by
 intro i j q B;obtain⟨d,rfl⟩:∃d,j=i+1+d:=⟨j-i-1,by lia⟩;clear q;induction d with
 | zero=>exact h i (by lia)
 | succ d ih=>exact O.tr _ _ _ (z.lt (by lia)) (z.lt (by lia)) (z.lt (by lia)) (ih (by lia)) (h (i+1+d) (by lia))
theorem VD(B:PermR n p)(hi:i<n)(F:j<n)(q:i≠j)(h:lt (p.getD i 0) (p.getD j 0)=false):lt (p.getD j 0) (p.getD i 0)=true:=by
 rcases O.tot _ _ (B.lt hi) (B.lt F) (B.ne hi F q)with z|z
 ·rw[h]at z;cases z
 ·exact z
theorem BU(q:PermR n p):∀(f m:Nat),1<=m->m+f<=n->(∀i,i+1<m->lt (p.getD i 0) (p.getD (i+1) 0)=true)->
  (∀r,m<=r->r<=m+f->(∀i,i+1<r->lt (p.getD i 0) (p.getD (i+1) 0)=true)->(r<m+f->lt (p.getD r 0) (p.getD (r-1) 0)=true)->G r s)->(kas_asc p f m).kasWp (gB n lt) G s
 | 0,m,h1,h2,ha,hG=>hG m (zao _) (zao _) ha λz=>absurd z (by lia)
 | f+1,m,h1,h2,ha,hG=>by
  show gB n lt _ _ _ s;refine⟨q.lt (by lia),q.lt (by lia),q.ne (by lia) (by lia) (by lia),?_⟩;cases hc:lt (p.getD m 0) (p.getD (m-1) 0)with
  | true=>
   show(KasT.ret m).kasWp (gB n lt) G s;exact hG m (zao _) (by lia) ha λ_=>hc
  | false=>
   show(kas_asc p f (m+1)).kasWp (gB n lt) G s;refine BU q f (m+1) (by lia) (by lia) (λi hi=>?_) (λr N M B J=>hG r (by lia) (by lia) B λz=>J (by lia));by_cases e:i+1<m
   ·exact ha i e
   ·have:i=m-1:=by lia
    subst this;have F:m-1+1=m:=by lia
    rw[F];exact VD O q (by lia) (by lia) (by lia) hc
theorem CW(q:PermR n p):∀(f m:Nat),1<=m->m+f<=n->(∀i,i+1<m->lt (p.getD (i+1) 0) (p.getD i 0)=true)->
  (∀r,m<=r->r<=m+f->(∀i,i+1<r->lt (p.getD (i+1) 0) (p.getD i 0)=true)->G (p,r,0) s)->(kas_desc f p m 0).kasWp (gB n lt) G s
 | 0,m,h1,h2,ha,hG=>hG m (zao _) (zao _) ha
 | f+1,m,h1,h2,ha,hG=>by
  show gB n lt _ _ _ s;refine⟨q.lt (by lia),q.lt (by lia),q.ne (by lia) (by lia) (by lia),?_⟩;cases hc:lt (p.getD m 0) (p.getD (m-1) 0)with
  | true=>
   show(kas_desc f p (m+1) 0).kasWp (gB n lt) G s;refine CW q f (m+1) (by lia) (by lia) (λi hi=>?_) (λr J F z=>hG r (by lia) (by lia) z);by_cases e:i+1<m
   ·exact ha i e
   ·have:i=m-1:=by lia
    subst this;have B:m-1+1=m:=by lia
    rw[B];exact hc
  | false=>
   show gB n lt _ _ _ s;refine⟨q.lt (by lia),q.lt (by lia),q.ne (by lia) (by lia) (by lia),?_⟩;rw[VD O q (by lia) (by lia) (by lia) hc];exact hG m (zao _) (by lia) ha
theorem J2(B:PermR n p)(F:r<=n)(k:Nat):(kas_rev p 0 r).getD k 0=if k<r then p.getD (r-1-k) 0 else p.getD k 0:=by
 have hs:=B.size;have e:=getElem?_mirror_all (xs:=p) (i:=0) (j:=r) (by lia) k;have g:∀(q:Array Nat) (k:Nat),q.getD k 0=(q[k]?).getD 0:=λq k=>by
  by_cases h:k<q.size <;> simp[zc2,h]
 unfold kas_rev;rw[g,e];by_cases h:k<r
 ·rw[if_pos ⟨zaZ _,h⟩,if_pos h,g]
  congr 2
  lia
 ·rw[if_neg (λz=>h z.2),if_neg h,g]
omit O in
theorem JJ(q:PermR n p)(r:Nat):PermR n (kas_rev p 0 r):=(mirror_perm p 0 r _).trans q
theorem GT(q:PermR n p)(hn:1<=n)(N:∀m J,1<=m->m<=n->PermR n J->eZ lt J m->G (m,J) s):(kas_count n p).kasWp (gB n lt) G s:=by
 unfold kas_count;rw[KasT.kasWp_bind];refine BU O q (n-1) 1 (zao _) (by lia) (λi hi=>absurd hi (by lia)) λr h1 h2 Y h4=>?_
 by_cases e:r=n
 ·have:(r == n)=true:=by simp[e]
  rw[if_pos this];exact N r p h1 (by lia) q (jY O q (by lia) Y)
 ·have:¬ (r == n)=true:=by simp[e]
  rw[if_neg this];have hs:=jY O q (r:=r) (by lia) Y;by_cases W:r>1
  ·rw[if_pos W]
   show gB n lt _ _ _ s;refine⟨q.lt (by lia),q.lt (by lia),q.ne (by lia) (by lia) (by lia),?_⟩;rw[hs 0 (r-1) (by lia) (by lia)];exact N r p h1 (by lia) q hs
  ·rw[if_neg W]
   have r1:r=1:=by lia
   subst r1;unfold kas_descPart;rw[KasT.kasWp_bind];have M:=h4 (by lia);refine CW O q (n-(1+1)) (1+1) (by lia) (by lia) (λi hi=>?_) λz h6 h7 h8=>?_
   ·have:i=0:=by lia
    subst this;exact M
   ·show(kas_tail3 z n p).kasWp (gB n lt) G s
    unfold kas_tail3;rw[KasT.kasWp_bind];have F:z<=n:=by lia
    have B:PermR n (kas_rev p 0 z):=JJ q z;refine BU O B (n-z) z (by lia) (by lia) (λi hi=>?_) λm h9 ac U _=>?_
    ·rw[J2 O q F,J2 O q F,if_pos (by lia),if_pos hi]
     have:=h8 (z-1-(i+1)) (by lia);have e2:z-1-(i+1)+1=z-1-i:=by lia
     rw[e2]at this;exact this
    ·exact N m _ (by lia) (by lia) B (jY O B (by lia) U)
theorem qS(q:PermR n p)(M:k<n)(hs:eZ lt p k):∀(f l r:Nat),l<=r->r<=k->r-l<=f->(∀i,i<l->lt (p.getD i 0) (p.getD k 0)=true)->(∀i,r<=i->i<k->lt (p.getD k 0) (p.getD i 0)=true)->
  (∀l,l<=k->(∀i,i<l->lt (p.getD i 0) (p.getD k 0)=true)->(∀i,l<=i->i<k->lt (p.getD k 0) (p.getD i 0)=true)->G l s)->(kas_place p k f l r).kasWp (gB n lt) G s
 | 0,l,r,h1,h2,h3,h4,h5,hG=>by
  have:l=r:=by lia
  subst this;exact hG l h2 h4 h5
 | f+1,l,r,h1,h2,h3,h4,h5,hG=>by
  unfold kas_place;by_cases e:l ≥ r
  ·rw[if_pos e]
   have:l=r:=by lia
   subst this;exact hG l h2 h4 h5
  ·rw[if_neg e]
   show gB n lt _ _ _ s;refine⟨q.lt (by lia),q.lt (by lia),q.ne (by lia) (by lia) (by lia),?_⟩;have N:(l+r)/2<k:=by lia
   have J:l<=(l+r)/2:=by lia
   have U:(l+r)/2<r:=by lia
   generalize (l+r)/2=mid at *;cases hc:lt (p.getD k 0) (p.getD mid 0)with
   | true=>
    show(kas_place p k f l mid).kasWp (gB n lt) G s;refine qS q M hs f l mid J (by lia) (by lia) h4 (λi hi F=>?_) hG;by_cases z:i=mid
    ·rw[z];exact hc
    ·exact O.tr _ _ _ (q.lt (by lia)) (q.lt (by lia)) (q.lt (by lia)) hc (hs mid i (by lia) F)
   | false=>
    show(kas_place p k f (mid+1) r).kasWp (gB n lt) G s;have B:=VD O q (by lia) (by lia) (by lia) hc;refine qS q M hs f (mid+1) r (by lia) h2 (by lia) (λi hi=>?_) h5 hG;by_cases z:i=mid
    ·rw[z];exact B
    ·exact O.tr _ _ _ (q.lt (by lia)) (q.lt (by lia)) (q.lt (by lia)) (hs i mid (by lia) N) B
theorem JT(z:PermR n p)(G:k<n)(F:l<=k)(j:Nat):(bubble p k (k-l)).getD j 0=if j=l then p.getD k 0 else if l<j/\j<=k then p.getD (j-1) 0 else p.getD j 0:=by
 have hs:=z.size;have e:=getElem?_bubble (xs:=p) (src:=k) (by lia) (k-l) (by lia) j;have g:∀(q:Array Nat) (k:Nat),q.getD k 0=(q[k]?).getD 0:=λq k=>by
  by_cases h:k<q.size <;> simp[zc2,h]
 have B:k-(k-l)=l:=by lia
 rw[B]at e;rw[g,e];by_cases h:j=l
 ·rw[if_pos h,if_pos h,g]
 ·rw[if_neg h,if_neg h]
  by_cases h2:l<j/\j<=k
  ·rw[if_pos h2,if_pos h2,g]
  ·rw[if_neg h2,if_neg h2,g]
theorem JV(J:∀p,PermR n p->eZ lt p n->G p s):∀(f:Nat) (p:Array Nat) (k:Nat),k+f=n->PermR n p->eZ lt p k->(kas_bin f p k).kasWp (gB n lt) G s
 | 0,p,k,h1,hp,hs=>by
  have:k=n:=by lia
  subst this;exact J p hp hs
 | f+1,p,k,h1,hp,hs=>by
  unfold kas_bin;rw[KasT.kasWp_bind];have z:k<n:=by lia
  refine qS O hp z hs k 0 k (zaZ _) (zao _) (by lia) (λi hi=>absurd hi (by lia)) (λi h2 h3=>absurd h3 (by lia)) λl M W Y=>?_
  refine JV J f _ (k+1) (by lia) ((bubble_perm p k _).trans hp) λi j q hj=>?_
  rw[JT O hp z M,JT O hp z M];by_cases U:i=l
  ·rw[if_pos U,if_neg (by lia),if_pos (by lia)]
   exact Y (j-1) (by lia) (by lia)
  ·rw[if_neg U]
   by_cases N:j=l
   ·rw[if_pos N,if_neg (by lia)]
    exact W i (by lia)
   ·rw[if_neg N]
    by_cases F:l<i/\i<=k
    ·rw[if_pos F,if_pos (by lia)]
     exact hs (i-1) (j-1) (by lia) (by lia)
    ·rw[if_neg F]
     by_cases B:l<j/\j<=k
     ·rw[if_pos B]
      by_cases c:i=j-1
      ·lia
      ·exact hs i (j-1) (by lia) (by lia)
     ·rw[if_neg B]
      exact hs i j q (by lia)
theorem OB(F:1<=n)(z:∀p,PermR n p->eZ lt p n->G p s):(kas_sort n).kasWp (gB n lt) G s:=by
 unfold kas_sort;rw[KasT.kasWp_bind];refine GT O (Array.Perm.refl _) F λm q h1 h2 B hs=>?_
 show(if m<n then kas_bin (n-max m 1) q (max m 1)else KasT.ret q).kasWp (gB n lt) G s;have e:max m 1=m:=by lia
 rw[e];by_cases h:m<n
 ·rw[if_pos h]
  exact JV O z (n-m) q m (by lia) B hs
 ·rw[if_neg h]
  have:m=n:=by lia
  subst this;exact z q B hs
end
theorem DR{z:Type}{n:Nat}{lt:Nat->Nat->Bool}{c:Nat->Nat->(Bool->zab->Prop)->zab->Prop}(q:∀i j C,i<n->j<n->i≠j->C (lt i j) s->c i j C s){Q:z->zab->Prop}:∀(t:KasT z),t.kasWp (gB n lt) Q s->t.kasWp c Q s
 | .ret a,h=>h
 | .ask i j k,h=>by
  obtain⟨h1,h2,B,F⟩:=(show i<n/\j<n/\i≠j/\(k (lt i j)).kasWp (gB n lt) Q s from h);exact q i j _ h1 h2 B (DR q (k (lt i j)) F)
end My
namespace My
open PySem PySem.Spec PyProof.Rows PySem.W
section
variable {prog:zap}{w:World}{A:zas}{E:Value->zab->Prop}{s:zab}{it d:Addr}{i ep:Nat}{od:Obj}{es:Array zbA}
def RawD(h:Heap)(d:Addr)(es:Array zbA)(ep:Nat):Prop:=∃o,h.get? d=some o/\o.ExactDict/\o.data=.dict es ep
theorem RawD.at'(x:RawD h d es ep)(k:∀o,h.get? d=some o->h'.get? d=some o):RawD h' d es ep:=let ⟨o,a,b⟩:=x;⟨o,k o a,b⟩
theorem RawD.typ(x:RawD s.heap d es ep):s.TypeIs (.ref d) "dict" := let ⟨o,a,b,_⟩:=x;⟨o,a,b.1⟩
theorem yM(J:(d == za9)=false)(G:RawD s.heap d es ep)
  (M:Q (.ref s.heap.objs.size) {s with heap:=s.heap.push {cls:=.type "dict_keyiterator",data:=.fields #[.ref d,.int 0 0,.int es.size 0,.int ep 0]} }):wpAny (model prog w) A (pyIter (.ref d)) Q E s:=by
 have q:=G.typ;obtain⟨o,z,N,B⟩:=G;refine wpAny_pyIter_slot q PySem.F.slot_dict_iter (zbb PySem.F.slot_dict_iter q PySem.F.entry_dict_iter ?_ (PySem.F.args_dict_iter_1 _));unfold zbi.«dict.__iter__»;refine zaa ?_;unfold Builtin.Dict.dictSlotNone;refine zaa (zd1 q ?_);show wpAny _ _ (pure (zan d)) _ _ s;refine zac ?_;show wpAny _ _ (zdp d >>= _) _ _ s;unfold zdp;rw[if_neg (by rw[J];exact zaw)];refine zaa (zac (zaa (zb3 z B (zaa (zcP z B ?_)))));refine zaa (zbp (zac ⟨_,rfl, "dict_keyiterator",_,⟨_,zat _ rfl,rfl⟩,PySem.F.slot_dict_keyiterator_next.lookup,?_⟩));simpa[zaO]using M
theorem zA(z:s.heap.IsKeyIter it d i es.size ep)(M:RawD s.heap d es ep)(N:i<es.size)
  (W:∀h',h'.IsKeyIter it d (i+1) es.size ep->zaT it s.heap h'->Q (some es[i].key) {s with heap:=h'}):wpAny (model prog w) A (zaH (.ref it)) Q E s:=by
 have q:=z.typeIs;obtain⟨o,F,U,B⟩:=id z;obtain⟨od,G,Y,J⟩:=M;unfold zaH;refine zaa (zb4 (zbv (name:=zaY "__next__") q zd2 (zbb zd2 q zff ?_ (zfg _))));refine zaa (zac (zaa (zaa ?_)))
 first|refine zaa (zd3 q (zac ?_))|refine zaa (zd4 q (zac ?_))
 refine zaa (zd5 F B ?_);simp only[show zdq "dict_keyiterator" = false by decide,zb5,if_false];show wpAny _ _ (if(zan d == zaM)=true then _ else _) _ _ s;rw[if_neg (show ¬ ((zan d == zaM)=true)from zaw)];refine zaa (zac (zaa (zb3 G J ?_)));rw[if_neg (by simp)];refine zaa (zac (zaa (zcP G J ?_)));rw[if_neg (by simp)];refine zac ?_;simp only[show ¬ ((i:Int)<0)from by lia,if_false,zb6,zd6 N];refine zaa ?_;first|refine zaa (zd3 q (zac ?_))|refine zaa (zd4 q (zac ?_))
 refine zaa (wpAny_isOneOf_keyiter q ?_);show wpAny _ _ (zc3 (.ref it) 1 (zaO ((i:Int)+1)) >>= _) _ _ s;refine zaa (zdr F B (by simp) ?_);have nx:(s.heap.update it (Obj.mapFields (·.setIfInBounds 1 (zaO ((i:Int)+1))))).IsKeyIter it d (i+1) es.size ep:=⟨_,zbU _ F (Obj.isFreed_of_fields (zd7 B _)),(Obj.cls_mapFields ..).trans U,by rw[zd7 B];simp[zaO]⟩;refine zaa (zbn (zaa (wpAny_isOneOf_keyiter (s:={s with heap:=s.heap.update it (Obj.mapFields (·.setIfInBounds 1 (zaO ((i:Int)+1))))}) nx.typeIs ?_)));show wpAny _ _ (pure es[i].key) _ _ _;exact zac (zac ⟨_,rfl,zac (W _ nx (zci ..))⟩)
theorem C3(N:A.handled=none)(z:s.heap.IsKeyIter it d i es.size ep)(M:RawD s.heap d es ep)(U:es.size<=i)
  (W:∀h',zds it s.heap h'->Q none {s with heap:=h'}):wpAny (model prog w) A (zaH (.ref it)) Q E s:=by
 have q:=z.typeIs;obtain⟨o,G,hc,B⟩:=id z;obtain⟨od,F,Y,J⟩:=M;unfold zaH;refine zaa (zb4 (zbv (name:=zaY "__next__") q zd2 (zbb zd2 q zff ?_ (zfg _))));refine zaa (zac (zaa (zaa ?_)))
 first|refine zaa (zd3 q (zac ?_))|refine zaa (zd4 q (zac ?_))
 refine zaa (zd5 G B ?_);simp only[show zdq "dict_keyiterator" = false by decide,zb5,if_false];show wpAny _ _ (if(zan d == zaM)=true then _ else _) _ _ s;rw[if_neg (show ¬ ((zan d == zaM)=true)from zaw)];refine zaa (zac (zaa (zb3 F J ?_)));rw[if_neg (by simp)];refine zaa (zac (zaa (zcP F J ?_)));rw[if_neg (by simp)];refine zac ?_;simp only[show ¬ ((i:Int)<0)from by lia,if_false,zb6,Array.getElem?_eq_none U];refine zaa ?_;first|refine zaa (zd3 q (zac ?_))|refine zaa (zd4 q (zac ?_))
 show wpAny _ _ (zc3 (.ref it) 0 .none >>= _) _ _ s;refine zaa (zdr G B (by simp) ?_);show wpAny _ _ (newExc (.type "StopIteration") [] >>= _) _ _ _;refine zaa ?_;simp only[newExc,newTuple];refine zaa (zbp ?_ (by size_fits));refine zaa (m:=zc4 _ _) (zdt (a:=zaM) (by first|rfl|(simp only[zc4];rfl)) ?_)
 refine zbp ?_ (by size_fits);simp only[raiseNew];refine zaa (wpAny_handled ?_);rw[show A.in1.handled=none from N];refine zaa (zac (wpAny_throw ?_));refine zaa (zc5 (T := "StopIteration") (b:=true) ⟨_,zat _ rfl,rfl⟩ zdu ?_);exact zac (W _ (((zci ..).extBut.push _).push _))
def EG(h:Heap)(it d:Addr)(i n ep:Nat)(q fl:Value)(ok z:Value):Prop:=
 h.get? it=some {cls:=.type "dict_itemiterator",dict:=none,data:=.fields #[q,fl,.ref d,.int i 0,.int n 0,.int ep 0,ok,z],slots:=#[]}
def ItSt(h:Heap)(it d S:Addr)(i n ep:Nat):Prop:=
 (i=0/\∃ok q,EG h it d i n ep .none (.bool false) ok q)\/∃ok q a f z,EG h it d i n ep (zaO (a:Nat)) (.bool f) ok q/\h.get? a=some z/\a≠it/\a≠S
theorem tL(F:EG s.heap it d i es.size ep own fl ok ov)(U:RawD s.heap d es ep)(W:i<es.size)
  (hQ:∀h1:Heap, EG h1 it d (i+1) es.size ep own fl ok ov -> zaT it s.heap h1 ->
   wpAny (model prog w) A.in1 (zd8 (.ref it) 6 es[i].key es[i].val) (λv s'=>Q (some v) s') (λ_ _=>False) {s with heap:=h1}):wpAny (model prog w) A (zaH (.ref it)) Q E s:=by
 obtain⟨od,G,g2,M⟩:=U;have B:s.TypeIs (.ref it) "dict_itemiterator" := ⟨_,F,rfl⟩;unfold zaH;refine zaa (zb4 (zbv (name:=zaY "__next__") B zd9 (zbb zd9 B zfh ?_ (zfi _))));refine zaa (zac (zaa (zaa ?_)))
 first|refine zaa (zea B (zac ?_))|refine zaa (zeb B (zac ?_))
 refine zaa (zd5 F rfl ?_);simp only[show zdq "dict_itemiterator" = true by decide,if_true];show wpAny _ _ (if(zan d == zaM)=true then _ else _) _ _ s;rw[if_neg (show ¬ ((zan d == zaM)=true)from zaw)];refine zaa (zac (zaa (zb3 G M ?_)));rw[if_neg (by simp)];refine zaa (zac (zaa (zcP G M ?_)));rw[if_neg (by simp)];refine zac ?_;simp only[show ¬ ((i:Int)<0)from by lia,if_false,zb6,zd6 W];refine zaa ?_;first|refine zaa (zea B (zac ?_))|refine zaa (zeb B (zac ?_))
 refine zaa (ze0 B ?_);show wpAny _ _ (zc3 (.ref it) 3 (zaO ((i:Int)+1)) >>= _) _ _ s;refine zaa (zaW F (by simp) λh1 Y k2=>?_);have N:EG h1 it d (i+1) es.size ep own fl ok ov:=by
  have e:((i+1:Nat):Int)=(i:Int)+1:=by lia
  unfold EG;rw[e];simpa[zaO]using Y
 have J:zec {s with heap:=h1} (.ref it) "dict_itemiterator" := ⟨_,N,rfl⟩;refine zaa (zbn (zaa (ze0 J ?_)));refine zaa (ze0 J ?_);show wpAny _ _ (zd8 (.ref it) 6 es[i].key es[i].val) _ _ {s with heap:=h1};exact zba (hQ h1 N k2) (λv s' q=>zac ⟨_,rfl,zac q⟩) λ_ _ z=>z.elim
theorem F5(Y:ItSt s.heap it d S i es.size ep)(hS:S<s.heap.objs.size)(hm:RawD s.heap d es ep)(hx:i<es.size)
  (hQ:∀h', ItSt h' it d S (i+1) es.size ep -> h'.get? s.heap.objs.size = some {cls := .type "tuple", data := .seq #[es[i].key, es[i].val]} -> h'.objs.size = s.heap.objs.size+1 ->
   (∀b o,b≠it->s.heap.get? b=some o->h'.get? b=some o)->Q (some (.ref s.heap.objs.size)) {s with heap:=h'}):wpAny (model prog w) A (zaH (.ref it)) Q E s:=by
 have F:it<s.heap.objs.size:=by
  rcases Y with⟨_,ok,N,z⟩|⟨ok,N,a,f,oa,z,_⟩ <;> exact zai z
 rcases Y with⟨_,ok,N,z⟩|⟨ok,N,a,f,oa,z,ha,J,an⟩
 ·refine tL z hm hx λh1 k1 k2=>?_
  have U:h1.objs.size=s.heap.objs.size:=k2.1;unfold zd8;refine zaa (zc6 ?_);have M:EG (h1.push {cls:=.type "tuple",data:=.seq #[es[i].key,es[i].val]}) it d (i+1) es.size ep .none (.bool false) ok N:=zag _ k1;have m2:(h1.push {cls:=.type "tuple",data:=.seq #[es[i].key,es[i].val]}).get? s.heap.objs.size=some {cls:=.type "tuple",data:=.seq #[es[i].key,es[i].val]}:=by rw[<- U];exact zat _ rfl
  have m3:(h1.push {cls:=.type "tuple",data:=.seq #[es[i].key,es[i].val]}).objs.size=s.heap.objs.size+1:=by rw[zbl,U]
  have m4:∀b o,b≠it->s.heap.get? b=some o->(h1.push {cls:=.type "tuple",data:=.seq #[es[i].key,es[i].val]}).get? b=some o:=λb o q e=>zag _ (k2.extBut b o q e)
  show wpAny _ _ (zed (.ref it) >>= _) _ _ {s with heap:=h1.push {cls:=.type "tuple",data:=.seq #[es[i].key,es[i].val]} };dsimp only;rw[U];generalize h1.push {cls:=.type "tuple",data:=.seq #[es[i].key,es[i].val]}=h2 at *;refine zaa ?_;unfold zed;refine zaa (zaC M rfl (x:=.none) rfl (zac ?_));simp only[if_true];refine zaa (zaC M rfl (x:=ok) rfl (zaa (zaC M rfl (x:=N) rfl ?_)));refine zaa (zaW M (by simp) λB e3 G=>?_);have am:EG B it d (i+1) es.size ep .none (.bool false) es[i].key N:=e3;refine zaa (zaW am (by simp) λh4 e4 s4=>?_);have ak:EG h4 it d (i+1) es.size ep .none (.bool false) es[i].key es[i].val:=e4;refine zaa (zaW ak (by simp) λh5 e5 s5=>?_);have al:EG h5 it d (i+1) es.size ep (zaO (s.heap.objs.size:Nat)) (.bool false) es[i].key es[i].val:=e5;refine zaa (zaW al (by simp) λW e6 s6=>?_);have aj:EG W it d (i+1) es.size ep (zaO (s.heap.objs.size:Nat)) (.bool false) es[i].key es[i].val:=e6;have ex:∀b o,b≠it->h2.get? b=some o->W.get? b=some o:=λb o q e=>(show zaT it h5 W from s6).extBut b o q ((show zaT it h4 h5 from s5).extBut b o q ((show zaT it B h4 from s4).extBut b o q ((show zaT it h2 B from G).extBut b o q e)))
  have sz:W.objs.size=s.heap.objs.size+1:=by
   rw[(show zaT it h5 W from s6).1,(show zaT it h4 h5 from s5).1,(show zaT it B h4 from s4).1,(show zaT it h2 B from G).1,m3]
  exact zaa (zbw (zac (hQ W (.inr ⟨_,_,_,false,_,aj,ex _ _ (zaG F) m2,zaG F,zaG hS⟩) (ex _ _ (zaG F) m2) sz λb o q e=>ex b o q (m4 b o q e))))
 ·refine tL z hm hx λh1 k1 k2=>?_
  have U:h1.objs.size=s.heap.objs.size:=k2.1;unfold zd8;refine zaa (zc6 ?_);have M:EG (h1.push {cls:=.type "tuple",data:=.seq #[es[i].key,es[i].val]}) it d (i+1) es.size ep (zaO (a:Nat)) (.bool f) ok N:=zag _ k1;have m2:(h1.push {cls:=.type "tuple",data:=.seq #[es[i].key,es[i].val]}).get? s.heap.objs.size=some {cls:=.type "tuple",data:=.seq #[es[i].key,es[i].val]}:=by rw[<- U];exact zat _ rfl
  have m3:(h1.push {cls:=.type "tuple",data:=.seq #[es[i].key,es[i].val]}).objs.size=s.heap.objs.size+1:=by rw[zbl,U]
  have m4:∀b o,b≠it->s.heap.get? b=some o->(h1.push {cls:=.type "tuple",data:=.seq #[es[i].key,es[i].val]}).get? b=some o:=λb o q e=>zag _ (k2.extBut b o q e)
  show wpAny _ _ (zed (.ref it) >>= _) _ _ {s with heap:=h1.push {cls:=.type "tuple",data:=.seq #[es[i].key,es[i].val]} };dsimp only;rw[U];generalize h1.push {cls:=.type "tuple",data:=.seq #[es[i].key,es[i].val]}=h2 at *;refine zaa ?_;unfold zed;refine zaa (zaC M rfl (x:=zaO (a:Nat)) rfl ?_);show wpAny _ _ (loadIfAlive ((a:Int).toNat) >>= _) _ _ _;rw[zb6];refine zaa (kdx_alive (m4 a oa J ha) ?_);simp only[Option.isNone_some,zb5,if_false];refine zaa (zaC M rfl (x:=.bool f) rfl ?_);have fin:∀B:Heap,EG B it d (i+1) es.size ep (zaO (a:Nat)) (.bool true) ok N->zaT it h2 B->Q (some (.ref s.heap.objs.size)) {s with heap:=B}:=λB e3 G=>
   hQ B (.inr ⟨_,_,a,true,oa,e3,G.extBut a oa J (m4 a oa J ha),J,an⟩) (G.extBut _ _ (zaG F) m2) (by rw[G.1,m3]) λb o q e=>G.extBut b o q (m4 b o q e)
  cases f with
  | true=>
   rw[if_neg (show ¬ ((zco true != zco true)=true)from zaw)];refine zac ?_;simp only[zb5,if_false];exact zac (fin h2 M (ze1 _ _))
  | false=>
   rw[if_pos (show(zco false != zco true)=true from rfl)];refine zaa (zaW M (by simp) λB e3 G=>?_);refine zac ?_;simp only[zb5,if_false];exact zac (fin B e3 G)
theorem xQ(J:A.handled=none)(q:EG s.heap it d i es.size ep own fl ok ov)(G:RawD s.heap d es ep)(M:es.size<=i)
  (N:∀h',zds it s.heap h'->Q none {s with heap:=h'}):wpAny (model prog w) A (zaH (.ref it)) Q E s:=by
 obtain⟨od,B,U,F⟩:=G;have z:s.TypeIs (.ref it) "dict_itemiterator" := ⟨_,q,rfl⟩;unfold zaH;refine zaa (zb4 (zbv (name:=zaY "__next__") z zd9 (zbb zd9 z zfh ?_ (zfi _))));refine zaa (zac (zaa (zaa ?_)))
 first|refine zaa (zea z (zac ?_))|refine zaa (zeb z (zac ?_))
 refine zaa (zd5 q rfl ?_);simp only[show zdq "dict_itemiterator" = true by decide,if_true];show wpAny _ _ (if(zan d == zaM)=true then _ else _) _ _ s;rw[if_neg (show ¬ ((zan d == zaM)=true)from zaw)];refine zaa (zac (zaa (zb3 B F ?_)));rw[if_neg (by simp)];refine zaa (zac (zaa (zcP B F ?_)));rw[if_neg (by simp)];refine zac ?_;simp only[show ¬ ((i:Int)<0)from by lia,if_false,zb6,Array.getElem?_eq_none M];refine zaa ?_;first|refine zaa (zea z (zac ?_))|refine zaa (zeb z (zac ?_))
 show wpAny _ _ (zc3 (.ref it) 2 .none >>= _) _ _ s;refine zaa (zdr q rfl (by simp) ?_);show wpAny _ _ (newExc (.type "StopIteration") [] >>= _) _ _ _;refine zaa ?_;simp only[newExc,newTuple];refine zaa (zbp ?_ (by size_fits));refine zaa (m:=zc4 _ _) (zdt (a:=zaM) (by first|rfl|(simp only[zc4];rfl)) ?_)
 refine zbp ?_ (by size_fits);simp only[raiseNew];refine zaa (wpAny_handled ?_);rw[show A.in1.handled=none from J];refine zaa (zac (wpAny_throw ?_));refine zaa (zc5 (T := "StopIteration") (b:=true) ⟨_,zat _ rfl,rfl⟩ zdu ?_);exact zac (N _ (((zci ..).extBut.push _).push _))
theorem ItSt.keep(x:ItSt h it d S i n ep)(G:∀b o,b≠S->h.get? b=some o->h'.get? b=some o)(J:it≠S):ItSt h' it d S i n ep:=by
 rcases x with⟨e,ok,F,q⟩|⟨ok,F,a,f,M,q,N,B,z⟩
 ·exact .inl ⟨e,ok,F,G _ _ J q⟩
 ·exact .inr ⟨ok,F,a,f,M,G _ _ J q,G _ _ z N,B,z⟩
structure Made(es:Array zbA)(lo:Addr)(h:Heap)(as:List Addr):Prop where
 above:∀a∈as,lo<a
 pair:∀(j:Nat) (a:Addr),as[j]?=some a->∃e,es[j]?=some e/\h.get? a=some {cls:=.type "tuple",data:=.seq #[e.key,e.val]}
end
section
variable {prog:zap}{w:World}{A:zas}{s:zab}{R:Result->zab->Prop}{es:Array zbA}{ep:Nat}
theorem E3{S I d:Addr}(hh:A.handled=none)(ai:S<I)(aq:d≠S)(ao:d≠I)(hn:es.size<=zaj)(res:Value){h0:Heap}
  (hR:∀h' tk q c as,(∀b o,b≠S->b≠I->h0.get? b=some o->h'.get? b=some o)->h'.get? S=some {cls:=.type "list",dict:=none,data:=.seq q c,slots:=#[]}->as.length=es.size->Made es I h' as->q.toList=as.map zan->R (.ok (.ret res)) {s with heap:=h',toks:=tk}) :
  ∀(k i:Nat) (h:Heap) (tk c:Nat) (q:Array Value) (as:List Addr),es.size-i=k->i<=es.size->ItSt h I d S i es.size ep->RawD h d es ep->(∀b o,b≠S->b≠I->h0.get? b=some o->h.get? b=some o)->
   h.get? S=some {cls:=.type "list",dict:=none,data:=.seq q c,slots:=#[]}->q.toList=as.map zan->as.length=i->Made es I h as->I<h.objs.size->
   zbs (model prog w) A (.builtin "list.extend.loop" ⟨[.ref S,.ref I,res],[]⟩) R {s with heap:=h,toks:=tk}:=by
 have ac:S≠I:=zaz ai;intro k;induction k with
 | zero=>
  intro i h tk c q as hk hi U hD B hS G ab hG ad;have ah:es.size<=i:=by lia
  refine zcj PySem.F.entry_extend_loop ?_;rw[zck zdv _];show wpAny _ A.in1 (zaH (.ref I) >>= _) _ _ _;have fin:∀h',zds I h h'->R (.ok (.ret res)) {s with heap:=h',toks:=tk}:=λh' Y=>by
   refine hR h' tk q c as (λb o h1 h2 e=>Y b o h2 (B b o h1 h2 e)) (Y S _ ac hS) (by lia) ⟨hG.above,λj a J=>?_⟩ G;obtain⟨e,e1,e2⟩:=hG.pair j a J;exact⟨e,e1,Y a _ (zaG (hG.above a (zaI J))) e2⟩
  rcases U with⟨_,ok,ov,W⟩|⟨ok,ov,a,f,oa,W,_⟩
  ·exact zaa (xQ (s:={s with heap:=h,toks:=tk}) (A:=A.in1) hh W hD ah λh' Y=>zac (fin h' Y))
  ·exact zaa (xQ (s:={s with heap:=h,toks:=tk}) (A:=A.in1) hh W hD ah λh' Y=>zac (fin h' Y))
 | succ k ih=>
  intro i h tk c q as hk hi U hD B hS G ab hG ad;have N:i<es.size:=by lia
  have hsz:q.size=i:=by rw[<- zbf,G,zal,ab]
  refine zcj PySem.F.entry_extend_loop ?_;rw[zck zdv _];show wpAny _ A.in1 (zaH (.ref I) >>= _) _ _ _;refine zaa (F5 (s:={s with heap:=h,toks:=tk}) (S:=S) U (zai hS) hD N λh' ak ht hz M=>?_);dsimp only at ht hz M ⊢;have am:=M S _ ac hS;have af:S<h.objs.size:=zai hS;have up:∀b o,b≠S->h'.get? b=some o->(h'.update S (zbj (·.push (zan h.objs.size)))).get? b=some o:=λb o hb e=>(zbJ _ _ (zaS hb)).trans e
  show wpAny _ A.in1 (zcQ S (·.push (zan h.objs.size)) >>= _) _ _ _;refine zaa (zcw am rfl ?_ (by rw[hsz];lia) (by show(q.push (zan h.objs.size)).size<=zaj+1;rw[Array.size_push,hsz];lia));refine zac ⟨zbB zdv _,ih (i+1) _ tk _ (q.push (zan h.objs.size)) (as++[h.objs.size]) (by lia) N (ak.keep up (zaS ac)) (hD.at' λo e=>up d o aq (M d o ao e)) (λb o h1 h2 e=>up b o h1 (M b o h2 (B b o h1 h2 e))) (zbU _ am rfl) (by rw[Array.toList_push,G,za4];rfl) (by rw[zbu,ab];rfl) ⟨λa ha=>?_,λj b J=>?_⟩ ?_⟩
  ·rcases List.mem_append.mp ha with ha|ha
   ·exact hG.above a ha
   ·rw[List.mem_singleton.mp ha];exact ad
  ·by_cases h1:j<as.length
   ·rw[zdk h1]at J
    obtain⟨e,e1,e2⟩:=hG.pair j b J;have hb:=hG.above b (zaI J);exact⟨e,e1,up b _ (zaG (zcL ai hb)) (M b _ (zaG hb) e2)⟩
   ·rw[zeL (by lia)]at J
    have:j-as.length=0:=by
     by_cases z:j-as.length=0
     ·exact z
     ·rw[List.getElem?_eq_none (by simp only[List.length_singleton];lia)]at J;cases J
    rw[this]at J;cases J;have e:j=i:=by lia
    subst e;exact⟨es[j],by simp[N],up _ _ (zaG af) ht⟩
  ·have e:=up _ _ (zaG af) ht
   exact zcL ad (zai e)
end
section
variable {prog:zap}{w:World}{A:zas}{E:Value->zab->Prop}{s:zab}{r d:Addr}{es:Array zbA}{ep:Nat}
theorem EM(B:s.heap.IsItemsView r d)(J:RawD s.heap d es ep)
  (M:Q (.ref s.heap.objs.size) {s with heap:=s.heap.push {cls:=.type "dict_itemiterator",data:=.fields #[.none,.bool false,.ref d,.int 0 0,.int es.size 0,.int ep 0,.none,.none]} }):wpAny (model prog w) A (pyIter (.ref r)) Q E s:=by
 have G:=B.typeIs;obtain⟨W,N,Y,U⟩:=id B;obtain⟨o,q,g2,z⟩:=J;refine wpAny_pyIter_slot G zfj (zbb zfj G PySem.F.entry_dict_items_iter ?_ (PySem.F.args_dict_items_iter_1 _));unfold zbi.«dict_items.__iter__»;refine zaa (zac (zaa ?_));unfold Builtin.Dict_items.dictOf;refine zaa (zaC N U (x:=.ref d) rfl (zac ?_));refine zaa ?_;unfold Builtin.Dict_items.newIterator;refine zaa (zb3 q z (zaa (zcP q z ?_)));simp only[show zdq "dict_itemiterator" = true by decide,if_true];refine zbp (zac ⟨_,rfl, "dict_itemiterator",_,⟨_,zat _ rfl,rfl⟩,PySem.F.slot_dict_itemiterator_next.lookup,?_⟩) (by simp only[sizeOk,zfk,zaA,zbu,za3,zcW,zce];lia);simpa[zaO,zfk]using M
theorem xG{R:Result->zab->Prop}(hh:A.handled=none)(hv:s.heap.IsItemsView r d)(U:RawD s.heap d es ep)(S:Addr)(ac:S≠r)(M:d≠S)(res:Value)(B:Nat)(hS:s.heap.get? S=some {cls:=.type "list",data:=.seq #[] B})
  (hR:∀h' tk z c as,(∀b o,b≠S->s.heap.get? b=some o->h'.get? b=some o)->h'.get? S=some {cls:=.type "list",dict:=none,data:=.seq z c,slots:=#[]}->as.length=es.size->Made es s.heap.objs.size h' as->z.toList=as.map zan->R (.ok (.ret res)) {s with heap:=h',toks:=tk}) (hn:es.size<=zaj) :
  wpAny (model prog w) A.in1 (ze2 (.ref S) (.ref r) res)
   (λfin s'=>match fin with | .done f=>R (.ok f) s' | .again c'=>c'.quiet=true/\zbs (model prog w) A c' R s') (λe s'=>R (.error e) s') s:=by
 have J:S<s.heap.objs.size:=zai hS;have W:d<s.heap.objs.size:=by
  obtain⟨o,e,_⟩:=U;exact zai e
 have N:∀(h:Heap) (q tk:Nat),(∀b o,b≠S->(s.heap.push {cls:=.type "dict_itemiterator",data:=.fields #[.none,.bool false,.ref d,.int 0 0,.int es.size 0,.int ep 0,.none,.none]}).get? b=some o->h.get? b=some o)->
   h.get? S=some {cls:=.type "list",data:=.seq #[] q}->zbs (model prog w) A (.builtin "list.extend.loop" ⟨[.ref S,.ref s.heap.objs.size,res],[]⟩) R {s with heap:=h,toks:=tk}:=by
  intro h q tk hk Y;have hI:=hk s.heap.objs.size _ (zaG J) (zat _ rfl);exact E3 (es:=es) (ep:=ep) (s:=s) (h0:=s.heap) hh J M (zaz W) hn res (λh' ae z c as aa ab hl hG G=>hR h' ae z c as (λb o F e=>aa b o F (zaz (zai e)) e) ab hl hG G)
   es.size 0 h tk q #[] [] (Nat.sub_zero _) (zaZ _) (.inl ⟨rfl,.none,.none,hI⟩) (U.at' λo e=>hk d o M (zag _ e)) (λb o F _ e=>hk b o F (zag _ e)) Y rfl rfl ⟨(λ_ ha=>nomatch ha),(λj a hj=>by simp at hj)⟩ (zai hI)
 unfold ze2;refine zaa (zct (T := "dict_items") hv.typeIs ?_);simp only[show Builtin.List.listSameRef (.ref S) (.ref r)=false by simp[Builtin.List.listSameRef,ac],show(zcp "dict_items" == zcp "list")=false by decide,show(zcp "dict_items" == zcp "tuple")=false by decide,Bool.or_false,zb5,if_false];refine zaa (EM hv U ?_);have p1:=zag {cls:=.type "dict_itemiterator",data:=.fields #[.none,.bool false,.ref d,.int 0 0,.int es.size 0,.int ep 0,.none,.none]} hS;refine zaa (zbn (kdx_hint (let ⟨o,ho,hc,_⟩:=hv;⟨o,zag _ ho,hc⟩) ?_));refine wpAny_ite_split (λ_=>?_) (λ_=>zac ⟨zbB zdv _,N _ B _ (λb o _ e=>e) p1⟩);refine zaa (zbV (zaa ?_));show wpAny _ _ (zcQ S (·.push .none) >>= λ_=>zcQ S (·.pop)) _ _ _;refine zaa (zcw p1 rfl ?_);have p2:=zbU (zbj (·.push zaM)) p1 rfl;refine zcw (hz:=by seq_fits) p2 rfl ?_;have p3:=zbU (zbj (·.pop)) p2 rfl;exact zac ⟨zbB zdv _,N _ _ _ (λb o F e=>(zbJ _ _ (zaS F)).trans ((zbJ _ _ (zaS F)).trans e)) p3⟩
theorem uW(hh:A.handled=none)(hv:s.heap.IsItemsView r d)(hm:RawD s.heap d es ep)(hn:es.size<=zaj)
  (h:∀(h':Heap) (tk:Nat) (as:List Addr),(∀b o,s.heap.get? b=some o->h'.get? b=some o)->as.length=es.size->Made es s.heap.objs.size h' as->R (as.map zan) {s with heap:=h',toks:=tk}) :
  wpAny (model prog w) A (collect (.ref r)) R E s:=by
 have hr:r<s.heap.objs.size:=let ⟨_,ho,_⟩:=hv;zai ho;have hd:d<s.heap.objs.size:=let ⟨_,ho,_⟩:=hm;zai ho;unfold collect;refine zaa (wpAny_runValue (zcj entry_proto_collect' ?_));rw[zck PySem.F.plain_proto_collect _];show wpAny _ A.in1 (newList [] >>= λl=>again (.builtin "list.__iadd__" ⟨[l,.ref r],[]⟩)) _ _ s;refine zaa (zbp ?_);refine zac ⟨zbB PySem.F.plain_list_iadd _,zcj entry_list_iadd' ?_⟩;rw[zck PySem.F.plain_list_iadd _];have p1:(s.heap.push {cls:=.type "list",data:=.seq ([]:List Value).toArray}).get? s.heap.objs.size=some {cls:=.type "list",data:=.seq #[]}:=zat _ rfl;show wpAny _ A.in1 (ze2 (.ref s.heap.objs.size) (.ref r) (.ref s.heap.objs.size)) _ _ _;have Y:=xG (prog:=prog) (w:=w) (A:=A) (s:={s with heap:=s.heap.push {cls:=.type "list",data:=.seq ([]:List Value).toArray} }) (es:=es) (ep:=ep)
  (R:=λ(q:Result) (s':zab) => ∃(h':Heap) (tk:Nat) (B:Array Value) (U:Nat) (as:List Addr), q = .ok (.ret (.ref s.heap.objs.size)) /\ s' = {s with heap:=h', toks:=tk} /\
   (∀b o,s.heap.get? b=some o->h'.get? b=some o)/\h'.get? s.heap.objs.size=some {cls:=.type "list",dict:=none,data:=.seq B U,slots:=#[]}/\as.length=es.size/\Made es s.heap.objs.size h' as/\B.toList=as.map zan)
  hh (let ⟨o,ho,x⟩:=hv;⟨o,zag _ ho,x⟩) (hm.at' λo e=>zag _ e) s.heap.objs.size (zaG hr) (zaz hd) (.ref s.heap.objs.size) 0 p1
  (λh' tk B U as W J N M G=>⟨h',tk,B,U,as,rfl,rfl,λb o e=>W b o (zaz (zai e)) (zag _ e),J,N,⟨λa ha=>zd0 (by show s.heap.objs.size<=(s.heap.push _).objs.size;rw[zbl];exact Nat.le_succ _) (M.above a ha),M.pair⟩,G⟩) hn
 refine zba Y (λfin s' x=>?_) λe s' x=>?_
 ·cases fin with
  | done f=>
   obtain⟨h',tk,B,U,as,e,rfl,W,J,N,M,G⟩:=x;cases e;show wpAny _ A (load s.heap.objs.size >>= _) _ _ _;refine zaa (wpAny_load J (zac ?_));rw[G];exact h h' tk as W N M
  | again c₁=>
   refine⟨x.1,zdP x.2 λq aa y=>?_⟩;obtain⟨h',tk,B,U,as,e,rfl,W,J,N,M,G⟩:=y;cases e;show wpAny _ A (load s.heap.objs.size >>= _) _ _ _;refine zaa (wpAny_load J (zac ?_));rw[G];exact h h' tk as W N M
 ·obtain⟨_,_,_,_,_,z,_⟩:=x
  cases z
end
section
variable {prog:zap}{w:World}{A:zas}{E:Value->zab->Prop}{s:zab}{a L:Addr}{vs:List Value}{m:Str->Option Value}
theorem G7(O:Ord vs.length lt)(J:s.heap.Ns L m)(W:s.heap.get? a=some (za0 "list" vs.toArray n))(M:a≠L)(ab:vs.length<64)
  (aa:2 <= vs.length -> ∀h':Heap, (∀b o, b≠a -> b≠L -> s.heap.get? b = some o -> h'.get? b = some o) -> ∃κ, (∀Q':SortKind -> zab -> Prop, Q' κ {s with heap:=h'} -> wpAny (model prog w) A (keyKind' vs.toArray) Q' (λ_ _ => False) {s with heap:=h'}) /\
   ∀i j C,i<vs.length->j<vs.length->i≠j->C (lt i j) {s with heap:=h'}->kas_ask prog w A κ vs i j C {s with heap:=h'})
  (hP:∀(p:Array Nat) (h':Heap) (c:Nat), PermR vs.length p -> eZ lt p vs.length -> h'.get? a = some (za0 "list" (zdo (p.toList.map λi => vs.getD i zaM)) c) ->
   (∀b o,b≠a->b≠L->s.heap.get? b=some o->h'.get? b=some o)->h'.Ns L m->P (.done (.ret .none)) {s with heap:=h'}) :
  wpAny (model prog w) A (zbi.«list.sort» ⟨[.ref a],[]⟩) P E s:=by
 by_cases h2:2<=vs.length
 ·have N:News (Att.v7 s.heap) L s.heap (Att.ledger s.heap L a):=λ⟨b,o⟩ z=>⟨(Att.dD.mp z).2.2,(Att.dD.mp z).1,Att.jP _ _⟩
  refine kat_list_sort (Att.SM J) N W M (Att.jP _ _) (λ⟨b,o⟩ z=>(Att.dD.mp z).2.1) h2 ab λU h' F' N'=>?_
  have keep:∀b o,b≠a->b≠L->s.heap.get? b=some o->h'.get? b=some o:=λb o q hL e=>(N' (b,o) (zav _ (Att.dD.mpr ⟨hL,q,e⟩))).1
  obtain⟨κ,k1,k2⟩:=aa h2 h' keep;refine k1 _ (DR k2 _ (OB O (by lia) λp z hs=>?_));refine KasFin.intro F' N' (.head λ⟨b,o⟩ q=>(Att.dD.mp q).2.1) λac c Y G=>?_
  exact hP p ac c z hs (G _ (zau ..)).1 (λb o q hL e=>(G (b,o) (zav _ (Att.dD.mpr ⟨hL,q,e⟩))).1) Y.ns
 ·have B:vs.toArray.size<2:=by rw[zaA];lia
  rw[list_sort_plain];obtain⟨U,F⟩:∃U,(s.heap.update a (zbj λ_=>(#[]:Array Value))).get? a=some (za0 "list" #[] U):=⟨_,get?_update_seq W λ_=>#[]⟩;refine zaa (listItems_at W rfl (zaa (listUpdate_at W rfl ?_ (by rw[zaA,zce];lia) (zaZ _))));refine zaa (seqEpoch_at F rfl (zaa (zc6 ?_ (by show vs.length<=_;rw[zce];lia))));refine zaa (zee ?_ (zaZ _));refine zbn ?_;show wpAny (model prog w) A _ P E {s with heap:=((s.heap.update a (zbj λ_=>(#[]:Array Value))).push (za0 "tuple" vs.toArray 0)).push (za0 "list" #[] 0)};dsimp only;rw[if_pos B,if_pos B];have g1:(((s.heap.update a (zbj λ_=>(#[]:Array Value))).push (za0 "tuple" vs.toArray 0)).push (za0 "list" #[] 0)).get? a=some (za0 "list" #[] U):=zag _ (zag _ F);refine zaa (zac ?_);rw[StateT.run_pure];refine zaa (zac ?_);dsimp only;refine zaa (seqEpoch_at g1 rfl (zaa (listUpdate_at g1 rfl ?_ (zaZ _) ?_)))
  ·simp only[bne_self_eq_false,zb5,if_false]
   have s1:=zci s.heap a (zbj λ_=>(#[]:Array Value));have s2:=zci (((s.heap.update a (zbj λ_=>(#[]:Array Value))).push (za0 "tuple" vs.toArray 0)).push (za0 "list" #[] 0)) a (zbj λ_=>(arrOf (SortSt.mk' general' (vs.toArray.zip vs.toArray) #[] 7 none)).map (·.2));have keep:∀b o,b≠a->s.heap.get? b=some o->_:=λb o q e=>s2.extBut b o q (zag (za0 "list" #[] 0) (zag (za0 "tuple" vs.toArray 0) (s1.extBut b o q e)))
   have eo:(arrOf (SortSt.mk' general' (vs.toArray.zip vs.toArray) #[] 7 none)).map (·.2)=zdo ((zdo (zaB vs.length)).toList.map λi=>vs.getD i zaM):=by
    show((vs.toArray.zip vs.toArray).map (·.2))=_;apply Array.toList_inj.mp;rw[Array.toList_map,Array.toList_zip];show(vs.zip vs).map (·.2)=(zaB vs.length).map λi=>vs.getD i zaM
    apply zdm
    ·simp
    ·intro i h5 h6
     have:i<vs.length:=by simpa using h6
     simp[this]
   obtain⟨c,hc⟩:∃c,((((s.heap.update a (zbj λ_=>(#[]:Array Value))).push (za0 "tuple" vs.toArray 0)).push (za0 "list" #[] 0)).update a (zbj λ_=>(arrOf (SortSt.mk' general' (vs.toArray.zip vs.toArray) #[] 7 none)).map (·.2))).get? a=some (za0 "list" ((arrOf (SortSt.mk' general' (vs.toArray.zip vs.toArray) #[] 7 none)).map (·.2)) c):=⟨_,get?_update_seq g1 _⟩;exact zac (hP (zdo (zaB vs.length)) _ c (Array.Perm.refl _) (λi j h1 h3=>absurd h3 (by lia)) (by rw[<- eo];exact hc) (λb o q _ e=>keep b o q e) (J.at' λo e=>keep L o (zaS M) e))
  ·rw[Array.size_map]
   show(vs.toArray.zip vs.toArray).size<=_;rw[zce];simp
   lia
end
end My
namespace My
open PySem PySem.Spec PyProof.Rows PySem.W PySem.SeqAt
theorem vL:∀ns:List Int,HT.lexLt ns ns=false
 | []=>rfl
 | x::xs=>by rw[HT.eB,if_pos rfl];exact vL xs
theorem wH:∀a b c:List Int,HT.lexLt a b=true->HT.lexLt b c=true->HT.lexLt a c=true
 | [],[],c,h,_=>by cases h
 | [],_::_,[],_,h=>by cases h
 | [],_::_,_::_,_,_=>rfl
 | _::_,[],_,h,_=>by cases h
 | _::_,_::_,[],_,h=>by cases h
 | x::xs,y::ys,z::zs,h1,h2=>by
  rw[HT.eB]at h1 h2 ⊢;by_cases F:x=y
  ·by_cases B:y=z
   ·rw[if_pos F]at h1;rw[if_pos B]at h2;rw[if_pos (F.trans B)];exact wH xs ys zs h1 h2
   ·rw[if_neg B]at h2;rw[if_neg (λq=>B (F.symm.trans q)),F];exact h2
  ·rw[if_neg F]at h1
   have h1:=of_decide_eq_true h1;by_cases B:y=z
   ·rw[if_neg (λq=>F (q.trans B.symm))];exact decide_eq_true (by lia)
   ·rw[if_neg B]at h2
    have h2:=of_decide_eq_true h2;rw[if_neg (by lia)];exact decide_eq_true (by lia)
theorem vC:∀a b:List Int,a≠b->HT.lexLt a b=true\/HT.lexLt b a=true
 | [],[],h=>absurd rfl h
 | [],_::_,_=>.inl rfl
 | _::_,[],_=>.inr rfl
 | x::xs,y::ys,h=>by
  rw[HT.eB,HT.eB];by_cases e:x=y
  ·rw[if_pos e,if_pos e.symm]
   exact vC xs ys λq=>h (by rw[e,q])
  ·rw[if_neg e,if_neg (λq=>e q.symm)]
   rcases Int.lt_or_gt_of_ne e with q|q
   ·exact .inl (decide_eq_true q)
   ·exact .inr (decide_eq_true q)
def VN(ks:List (List Int))(i j:Nat):Bool:=HT.lexLt (ks.getD i []) (ks.getD j [])
theorem IR(z:ks.Nodup):Ord ks.length (VN ks) where
 irr:=λi _=>vL _
 tr:=λi j k _ _ _ h1 h2=>wH _ _ _ h1 h2
 tot:=λi j hi G q=>vC _ _ λe=>q (by
  have F:ks.getD i []=ks[i]:=by simp[hi]
  have B:ks.getD j []=ks[j]:=by simp[G]
  rw[F,B]at e;exact(zdg z).mp e)
section
variable {prog:zap}{w:World}{A:zas}{E:Value->zab->Prop}{s:zab}
def TupI(h:Heap)(a:Addr)(ns:List Int):Prop:=∃q:List Value,IsTup h a q.toArray/\za7 q ns
theorem TupI.at'(x:TupI h a ns)(k:∀o,h.get? a=some o->h'.get? a=some o):TupI h' a ns:=by
 obtain⟨q,⟨o,e,c⟩,i⟩:=x;exact⟨q,⟨o,k o e,c⟩,i⟩
theorem MT(hx:TupI s.heap x ns)(hy:TupI s.heap y ms)(q:ns≠ms)(hu:A.units<cLine):EqAt A s (.ref x) (.ref y) false:=by
 obtain⟨us,tx,G⟩:=hx;obtain⟨vs,ty,M⟩:=hy;have ne:x≠y:=λe=>by
  subst e;obtain⟨o,J,c1,n,d1⟩:=tx;obtain⟨o',B,c2,n',d2⟩:=ty;rw[J]at B;cases B;rw[d1]at d2;injection d2 with d3 _
  have:us=vs:=by simpa using congrArg Array.toList d3
  subst this;have:∀ {us:List Value} {a b:List Int},za7 us a->za7 us b->a=b:=by
   intro us a b h1;induction h1 generalizing b with
   | nil=>intro h2;cases h2;rfl
   | cons n t _ ih=>intro h2;cases h2 with|cons _ _ r=>rw[ih r]
  exact q (this G M)
 have W:∀j (h1:j<us.toArray.size) (h2:j<vs.toArray.size),EqAt A.in1 s us.toArray[j] vs.toArray[j] (decide (ns.getD j 0=ms.getD j 0)):=by
  intro j h1 h2;have g:∀ {us:List Value} {ns:List Int} {j:Nat} (_:za7 us ns) (h:j<us.length),∃t,us[j]=.int (ns.getD j 0) t:=by
   intro us ns j r;induction r generalizing j with
   | nil=>intro h;cases h
   | cons n t r ih=>
    intro h;cases j with
    | zero=>exact⟨t,rfl⟩
    | succ j=>
     obtain⟨t',e⟩:=ih (j:=j) (by simpa using h);exact⟨t',by simpa using e⟩
  obtain⟨t,J⟩:=g G (j:=j) (by simpa using h1);obtain⟨t',B⟩:=g M (j:=j) (by simpa using h2);have N:us.toArray[j]=us[j]'(by simpa using h1):=by simp
  have F:vs.toArray[j]=vs[j]'(by simpa using h2):=by simp
  rw[N,F,J,B];exact EqAt.to (EqAt.int_int _ _ _ _) (by simp[zeY])
 refine EqAt.to (EqAt.of_refs ne (RcAt.tuples tx ty hu W)) ?_;have N:us.toArray.size=ns.length:=by rw[zaA];exact G.length
 have F:vs.toArray.size=ms.length:=by rw[zaA];exact M.length
 rw[N,F,zcN];intro z;rw[zaK]at z;obtain⟨U,Y⟩:=z;have hl:ns.length=ms.length:=by simpa using Y
 rw[zcO]at U;refine q (zdm hl λj h1 h2=>?_);have:=of_decide_eq_true (U j (List.mem_range.mpr (by lia)));simpa[h1,h2]using this
def D5(h:Heap)(p a:Addr)(v:Value)(ns:List Int):Prop:=IsTup h p #[.ref a,v]/\TupI h a ns
theorem EJ(M:D5 s.heap p a u ns)(U:D5 s.heap q b v ms)(z:ns≠ms)(B:A.units<cLine)(h:Q (HT.lexLt ns ms) s) :
  wpAny (model prog w) A (keyLt' (tuples' false) (.ref p) (.ref q)) Q E s:=by
 obtain⟨⟨ox,W,x2,n,J⟩,tx⟩:=M;obtain⟨⟨oy,y1,y2,m,N⟩,ty⟩:=U;refine kat_lt W J y1 N ?_;refine kat_cons (MT tx ty z B prog w _ _ (kat_no ?_));obtain⟨us,F,G⟩:=tx;obtain⟨ws,t2,Y⟩:=ty;exact kat_one _ _ (HT.qC F t2 G Y B h)
end
end My
namespace My
open PySem PySem.Spec PyProof.Rows L2 PySem.SeqAt
theorem obj_some(x:ObjOk P w H h a o):∃ob,h.get? a=some ob:=by
 cases o with
 | lst xs=>obtain⟨_,_,_,_,e⟩:=x;exact⟨_,e⟩
 | tup xs=>obtain⟨_,_,_,ob,e,_⟩:=x;exact⟨ob,e⟩
 | dK kvs=>obtain⟨_,_,_,_,ob,_,_,e,_⟩:=x;exact⟨ob,e⟩
 | dT kvs=>obtain⟨_,_,_,_,ob,_,_,e,_⟩:=x;exact⟨ob,e⟩
 | set S n=>obtain⟨ob,_,_,_,e,_⟩:=x;exact⟨ob,e⟩
 | ins C dx fs=>obtain⟨_,_,_,e,_⟩:=x;exact⟨_,e⟩
 | own y=>exact x
 | xd fs=>obtain⟨_,⟨ob,_,_,e,_⟩,_⟩:=x;exact⟨ob,e⟩
 | rng lo hi=>obtain⟨_,_,_,e⟩:=x;exact⟨_,e⟩
 | frz ob u=>obtain⟨e,_⟩:=x;exact⟨_,e⟩
 | tbl ps=>exact⟨_,(show h.get? a=some _ from x)⟩
 | met f y=>exact⟨_,(show h.get? a=some _ from x)⟩
 | ext φ=>exact x.2.1
theorem HR(I:Inv X pins σ H s)(keep:∀b o,b≠X.env.locals->s.heap.get? b=some o->h'.get? b=some o)(ns:∀m,s.heap.Ns X.env.locals m->h'.Ns X.env.locals m)
  (same:∀b o,s.heap.get? b=some o->H' b=H b) (new:∀b o,H b=none->H' b=some o->ObjOk X.prog X.w H' h' b o):Inv X pins σ H' {s with heap:=h',toks:=t'}:=by
 have nl:∀b o,H b=some o->b≠X.env.locals:=λb o e z=>by rw[z,I.free]at e;cases e
 have B:∀b o,H b=some o->H' b=some o:=λb o e=>by
  obtain⟨ob,q⟩:=obj_some (I.hok b o e);rw[same b ob q];exact e
 refine I.step (g':=s.gens) (d':=s.drawn) (ch:=[]) (λ_ z=>nomatch z) (λb o F _ _ e _=>keep b o F e) (λb o F _ _ e _=>⟨o.slots,keep b o F e⟩) (λb o _ e n=>by rw[same b o e];exact n) (λb o _ e=>?_)
  (λb xs e=>B b _ e) (λb o u e=>B b _ e) (λb ps e=>⟨#[],by rw[B b _ e];simp⟩) ns (λb u e=>?_) I.bare
 ·by_cases G:b=X.env.locals
  ·obtain⟨m,M,_⟩:=I.loc
   obtain⟨o',_,_,J,_⟩:=ns m M;exact⟨o',by rw[G];exact J⟩
  ·exact⟨o,keep b o G e⟩
 ·cases e0:H b with
  | some v=>
   have:v=u:=by
    have:=B b v e0;rw[e]at this;exact(zaD this).symm
   subst this;refine(I.hok b v e0).stay (λc v N q=>keep c v ?_ q) (λc q=>B c _ q) λc xs q=>B c _ q
   rcases N with z|z
   ·rw[z];exact nl b _ e0
   ·exact nl c _ z
  | none=>exact new b u e0 e
def kI(p:List Int×V):List Key×V:=(p.1.map zam,p.2)
theorem OC(ns:List Int):(ns.map (zam:Int->Key)).map kV=ns.map V.int:=by
 rw[zaQ];rfl
def wB(q:List (List Int×V)):Prop:=q.Pairwise λa b=>HT.lexLt a.1 b.1=true
theorem w4:∀ {ns:List Int} {us:List Value},Vals (ns.map V.int) us->za7 us ns:=λr=>L2.intsAre_of r
theorem BO{X:Cx}{pins:List (Addr×Obj)}{σ:L2.St}{H:Hp}{s:zab}{d:Addr}{ps:List (List Int×V)}(I:Inv X pins σ H s)(M:Rd H d (.dT (ps.map kI))) :
  ps.length<=zaj/\(d == za9)=false/\(ps.map (·.1)).Nodup/\∃es ep,RawD s.heap d es ep/\es.size=ps.length/\∀(j:Nat) (p:List Int×V),ps[j]?=some p->∃(e:zbA) (b:Addr),es[j]?=some e/\e.key=.ref b/\H b=some (.tup (p.1.map V.int))/\RelV p.2 e.val:=by
 obtain⟨z,y,xs,r,o,es,ep,h1,h2,Y,J,F⟩:=(show ObjOk X.prog X.w H s.heap d (.dT (ps.map kI))from M.ok I.hok);have hl:xs.length=ps.length:=by rw[<- zbO r,zal]
 have G:es.size=ps.length:=by
  have:=congrArg zbH J;rw[zbf,zal]at this
  lia
 have get:∀ {ps:List (List Int×V)} {xs:List (List Key×Addr×Value)},zaU (λ(p:List Key×V) (q:List Key×Addr×Value)=>p.1=q.1/\H q.2.1=some (.tup (p.1.map kV))/\RelV p.2 q.2.2) (ps.map kI) xs->
   ∀(j:Nat) (p:List Int×V),ps[j]?=some p->∃q,xs[j]?=some q/\(kI p).1=q.1/\H q.2.1=some (.tup ((kI p).1.map kV))/\RelV p.2 q.2.2:=by
  intro ps;induction ps with
  | nil=>intro xs r j p e;simp at e
  | cons p0 ps ih=>
   intro xs r j p e;rw[zak]at r;cases r with
   | cons h t=>
    cases j with
    | zero=>simp at e;subst e;exact⟨_,rfl,h⟩
    | succ j=>exact ih t j p (by simpa using e)
 have B:∀ {ps:List (List Int×V)} {xs:List (List Key×Addr×Value)},zaU (λ(p:List Key×V) (q:List Key×Addr×Value)=>p.1=q.1/\H q.2.1=some (.tup (p.1.map kV))/\RelV p.2 q.2.2) (ps.map kI) xs->
   xs.map (·.1)=ps.map λp=>p.1.map zam:=by
  intro ps;induction ps with
  | nil=>intro xs r;rw[zb1]at r;cases r;rfl
  | cons p0 ps ih=>
   intro xs r;rw[zak]at r;cases r with
   | cons h t=>rw[zak,zak,ih t,<- h.1];rfl
 refine⟨by rw[zal]at z;exact z,y,?_,es,ep,⟨o,h1,h2,Y⟩,G,λj p e=>?_⟩
 ·rw[B r]at F
  have:(ps.map λp=>p.1.map (zam:Int->Key))=(ps.map (·.1)).map λns=>ns.map zam:=by rw[zaQ];rfl
  rw[this]at F;exact List.Pairwise.of_map _ (λa b h e=>h (by rw[e])) F
 ·obtain⟨q,W,e2,e3,N⟩:=get r j p e
  have U:es[j]?=some (entryOfKey (za2 (aV X.prog X.w)) q):=by
   rw[<- zc7,J,zar,W];rfl
  exact⟨_,q.2.1,U,rfl,by rw[e3];show some (HO.tup (((p.1.map zam):List Key).map kV))=_;rw[OC],N⟩
theorem N7(I:Inv X pins σ H s)(h:H b=some (.tup (ns.map V.int))):TupI s.heap b ns:=by
 obtain⟨q,r,t,_⟩:=I.tuple (SqT.of h);exact⟨q,t,w4 r⟩
theorem w8(G:PermR ps.length p)(hs:eZ (VN (ps.map (·.1))) p ps.length) :
  (p.toList.map λi=>ps.getD i ([],.non)).Perm ps/\wB (p.toList.map λi=>ps.getD i ([],.non)):=by
 have J:(zaB ps.length).map (λi=>ps.getD i ([],.non))=ps:=by
  apply zdm
  ·simp
  ·intro i h1 h2
   simp[h2]
 constructor
 ·have:=(Array.perm_iff_toList_perm.mp G).map λi=>ps.getD i (([],.non):List Int×V)
  rw[J]at this;exact this
 ·unfold wB
  rw[List.pairwise_map];rw[List.pairwise_iff_getElem];intro i j hi F q;have hsz:=G.size;rw[zbf]at hi F;have h1:=hs i j q (by lia);have g:∀k (z:k<p.size),p.getD k 0=p.toList[k]'(by rw[zbf];exact z):=λk z=>by simp[zc2,z]
  rw[g i hi,g j F]at h1;have B:∀k,(ps.map (·.1)).getD k []=(ps.getD k ([],.non)).1:=λk=>by
   by_cases h:k<ps.length
   ·simp[h]
   ·simp[Nat.le_of_not_lt h]
  unfold VN at h1;rw[B,B]at h1;exact h1
end My
namespace My
open PySem PySem.Spec PyProof.Rows L2 PySem.SeqAt PySem.W
theorem gI{q z B:Type}{R:z->B->Prop}{f:q->z}{g:q->B}:∀(l:List q),(∀i∈l,R (f i) (g i))->zaU R (l.map f) (l.map g)
 | [],_=>.nil
 | i::l,h=>.cons (h i (zau ..)) (gI l λj F=>h j (zav _ F))
theorem m6{z B:Type}{f:B->Value}{R:B->z->Prop}:∀(ps:List z) (vs:List Value),vs.length=ps.length->(∀(j:Nat) (p:z),ps[j]?=some p->∃b,vs[j]?=some (f b)/\R b p)->∃bs:List B,vs=bs.map f/\zaU R bs ps
 | [],[],_,_=>⟨[],rfl,.nil⟩
 | [],_::_,h,_=>by cases h
 | _::_,[],h,_=>by cases h
 | p::ps,v::vs,hl,h=>by
  obtain⟨b,e,r⟩:=h 0 p rfl;obtain⟨bs,G,F⟩:=m6 ps vs (by simpa using hl) λj q J=>h (j+1) q (by simpa using J)
  have:v=f b:=by simpa using e
  exact⟨b::bs,by rw[zak,<- G,this],.cons r F⟩
theorem pW{z q:Type}{R:z->q->Prop}:∀ {as:List z} {bs:List q},zaU R as bs->∀(j:Nat) (b:q),bs[j]?=some b->∃a,as[j]?=some a/\R a b
 | _,_,.nil,j,b,e=>by simp at e
 | _,_,.cons h t,0,b,e=>by simp at e;subst e;exact⟨_,rfl,h⟩
 | _,_,.cons h t,j+1,b,e=>pW t j b (by simpa using e)
section
variable {X:Cx}
def DU(el:Hp->V->List Int×V->Prop)(H:Hp)(ps:List (List Int×V))(Q:VK):Prop:=
 ∀(l:Addr) (us:List V) (qs:List (List Int×V)) (H2:Hp),Same H H2->H l=none->H2 l=some (.lst us)->zaU (el H2) us qs->qs.Perm ps->wB qs->Q (.ref l) H2
def qi:Hp->V->List Int×V->Prop:=λH u q=>∃a b,u=.ref a/\H a=some (.tup [.ref b,q.2])/\H b=some (.tup (q.1.map V.int))
theorem FK{pins:List (Addr×Obj)}{σ:L2.St}{H H1:Hp}{s:zab}{h1:Heap}{tk:Nat}{A:zas}{E:Value->zab->Prop}{Q:VK}{ps:List (List Int×V)}{as:List Addr}{el:Hp->V->List Int×V->Prop}{P:PySem.Fin->zab->Prop}
  (I:Inv X pins σ H s) (B:∀b o,s.heap.get? b=some o->h1.get? b=some o) (af:ps.length<64) (hn:(ps.map (·.1)).Nodup) (hl:as.length=ps.length)
  (J:∀b o,s.heap.get? b=some o->H1 b=H b) (M:∀b o,H1 b=some o->b<h1.objs.size)
  (Y:∀(b:Addr) (o:HO),H b=none->H1 b=some o->∀(h':Heap) (H':Hp),(∀c u,c≠h1.objs.size->c≠X.env.locals->h1.get? c=some u->h'.get? c=some u)->ObjOk X.prog X.w H' h' b o)
  (aj:∀(j:Nat) (p:List Int×V) (a:Addr),ps[j]?=some p->as[j]?=some a->∀H',Same H1 H'->el H' (.ref a) p)
  (ad:2 <= ps.length -> ∀h':Heap, (∀b o, b≠h1.objs.size -> b≠X.env.locals -> h1.get? b = some o -> h'.get? b = some o) -> ∃κ, (∀Q':SortKind -> zab -> Prop, Q' κ {s with heap:=h', toks:=tk} -> wpAny (model X.prog X.w) A (keyKind' (as.map zan).toArray) Q' (λ_ _ => False) {s with heap:=h', toks:=tk}) /\
   ∀i j C,i<ps.length->j<ps.length->i≠j->C (VN (ps.map (·.1)) i j) {s with heap:=h',toks:=tk}->kas_ask X.prog X.w A κ (as.map zan) i j C {s with heap:=h',toks:=tk})
  (q:DU el H ps Q) (hP:∀s',EP X pins σ Q (.ref h1.objs.size) s'->P (.done (.ret .none)) s') :
  wpAny (model X.prog X.w) A (zbi.«list.sort» ⟨[.ref h1.objs.size],[]⟩) P E {s with heap:=h1.push (za0 "list" (as.map zan).toArray 0),toks:=tk}:=by
 obtain⟨m,N,_⟩:=id I.loc;have F:(as.map zan).length=ps.length:=by rw[zal,hl]
 have ao:X.env.locals<h1.objs.size:=by
  obtain⟨o,_,_,e,_⟩:=id N;exact zai (B _ o e)
 have am:(h1.push (za0 "list" (as.map zan).toArray 0)).Ns X.env.locals m:=N.at' λo e=>zag _ (B _ o e)
 have O:Ord (as.map zan).length (VN (ps.map (·.1))):=by
  rw[F,<- zal (f:=(·.1)) (as:=ps)];exact IR hn
 have W:H h1.objs.size=none:=by
  cases e:H h1.objs.size with
  | none=>rfl
  | some o=>
   obtain⟨ob,z⟩:=obj_some (I.hok _ o e);exact absurd (zai (B _ ob z)) (zbd _)
 have aa:H1 h1.objs.size=none:=by
  cases e:H1 h1.objs.size with
  | none=>rfl
  | some o=>exact absurd (M _ o e) (zbd _)
 refine G7 (lt:=VN (ps.map (·.1))) (n:=0) (L:=X.env.locals) (m:=m) (s:={s with heap:=h1.push (za0 "list" (as.map zan).toArray 0),toks:=tk}) O am (zat _ rfl) (zaG ao) (by rw[F];exact af) (λh2 h' k=>?_) λp h' c hp hs ag U al=>?_
 ·rw[F]at h2
  obtain⟨κ,k1,k2⟩:=ad h2 h' λb o hb hL e=>k b o hb hL (zag _ e)
  exact⟨κ,k1,λi j C hi hj=>k2 i j C (by rw[F]at hi;exact hi) (by rw[F]at hj;exact hj)⟩
 ·rw[F]at hp hs
  obtain⟨g1,g2⟩:=w8 hp hs;have G:∀c u,c≠h1.objs.size->c≠X.env.locals->h1.get? c=some u->h'.get? c=some u:=λc u ah ap e=>U c u ah ap (zag _ e)
  have lt:∀i∈p.toList,i<ps.length:=λi hi=>by
   have:=(Array.perm_iff_toList_perm.mp hp).mem_iff.mp hi;simpa using this
  have ga:∀i,i<ps.length->as[i]?=some (as.getD i 0)/\ps[i]?=some (ps.getD i ([],.non))/\(as.map zan).getD i zaM=.ref (as.getD i 0):=λi hi=>by
   have h1:i<as.length:=by lia
   refine⟨by simp[h1],by simp[hi],by simp[h1]⟩
  have ak:Same H (upd H1 h1.objs.size (.lst (p.toList.map λi=>V.ref (as.getD i 0)))):=λb o e=>by
   obtain⟨ob,z⟩:=obj_some (I.hok b o e);rw[aE (aR e W),J b ob z];exact e
  have an:Same H1 (upd H1 h1.objs.size (.lst (p.toList.map λi=>V.ref (as.getD i 0)))):=yS aa;have I2:Inv X pins σ (upd H1 h1.objs.size (.lst (p.toList.map λi=>V.ref (as.getD i 0)))) {s with heap:=h',toks:=tk}:=by
   refine HR I (λb o hL e=>G b o (λz=>absurd (zai (B b o e)) (by rw[z];exact zbd _)) hL (B b o e)) (λm' ae=>?_) (λb o e=>?_) (λb o n e=>?_)
   ·obtain⟨o1,a5,a3,e1,d1,r1⟩:=N
    obtain⟨o2,ay,bc,e2,d2,r2⟩:=ae;rw[e1]at e2;cases e2;rw[d1]at d2;injection d2 with d3 d4
    subst d3 d4;have:m=m':=funext λx=>by rw[<- r1.2 x,<- r2.2 x]
    rw[<- this];exact al
   ·rw[aE (λz=>absurd (zai (B b o e)) (by rw[z];exact zbd _))]
    exact J b o e
   ·by_cases hb:b=h1.objs.size
    ·subst hb
     rw[aJ]at e;cases e;refine⟨?_,_,c,?_,ag⟩
     ·rw[zal,zbf,hp.size,zce]
      lia
     ·show Vals _ (p.toList.map λi=>(as.map zan).getD i zaM)
      exact gI p.toList λi hi=>by
       show(as.map zan).getD i zaM=zan (as.getD i 0);exact(ga i (lt i hi)).2.2
    ·rw[aE hb]at e
     exact Y b o n e h' _ G
  refine hP _ ⟨.ref h1.objs.size,_,I2,rfl,q _ _ _ _ ak W aJ (gI p.toList λi hi=>?_) g1 g2⟩;obtain⟨a1,a2,_⟩:=ga i (lt i hi);exact aj i _ _ a2 a1 _ an
theorem R5{A:zas}{κ:SortKind}{as:List Addr}{i j:Nat}{C:Bool->zab->Prop}{s:zab}(hi:i<as.length)(z:j<as.length)(h:wpAny (model X.prog X.w) A (keyLt' κ (.ref (as.getD i 0)) (.ref (as.getD j 0))) C (λ_ _=>False) s):kas_ask X.prog X.w A κ (as.map zan) i j C s:=by
 unfold kas_ask;have q:(as.map zan).getD i zaM=.ref (as.getD i 0):=by simp[hi]
 have B:(as.map zan).getD j zaM=.ref (as.getD j 0):=by simp[z]
 rw[q,B];exact h
theorem pB:∀ {as:List Addr} {fs:List Value},zaU (λa f=>∃q:List Value,IsTup h a q.toArray/\q[0]?=some f) as fs->KatTups h (as.map zan) fs
 | _,_,.nil=>.nil
 | _,_,.cons ⟨q,⟨o,e,c,n,d⟩,z⟩ t=>KatTups.cons e c d (by simpa using z) (pB t)
def J0:V->List V->Hp->VK->Prop:=λx vs H Q=>∃d kvs,x=.ref d/\vs=[]/\Rd H d (.dT kvs)/\∀r,H r=none->Q (.ref r) (upd H r (.ext λh=>h.IsItemsView r d))
theorem HQ:qq X "dict.items" J0:=by
 intro pins s σ H x vs v us Q I M U h;obtain⟨d,kvs,rfl,rfl,J,q⟩:=h;cases M;have B:=U.zero;subst B;obtain⟨z,y,xs,r,o,es,ep,h1,h2,h3,_⟩:=(show ObjOk X.prog X.w H s.heap d (.dT kvs)from J.ok I.hok);have G:s.TypeIs (.ref d) "dict" := ⟨o,h1,h2.1⟩;refine zbb PySem.F.slot_dict_items G PySem.F.entry_dict_items ?_ (PySem.F.args_dict_items_1 _);unfold zbi.«dict.items»;refine zaa ?_;unfold Builtin.Dict.noArgs;refine zaa (zd1 G ?_);show wpAny _ _ (pure d) _ _ s;refine zac ?_;show wpAny _ _ (zdp d >>= _) _ _ s;unfold zdp;rw[if_neg (by rw[y];exact zaw)];refine zaa (zac (zaa (zbp (zac ⟨_,rfl,?_⟩))));have Y:H s.heap.objs.size=none:=I.fresh;refine⟨.ref s.heap.objs.size,_,I.laid (t':=s.toks) (o:=.ext λh=>h.IsItemsView s.heap.objs.size d) (λ_ _ q=>zag _ q) (zao _) ⟨⟨_,zat _ rfl,rfl,rfl⟩,⟨_,zat _ rfl⟩,λa b ⟨o,W,N⟩ k=>⟨o,k o W,N⟩⟩,rfl,q _ Y⟩
def GL(H:Hp)(as:List Addr)(ds:List (List V)):Hp:=λb=>match as.findIdx? (λa=>decide (a=b))with
 | some j=>some (.tup (ds.getD j []))
 | none=>H b
theorem kU(h:¬ b∈as):GL H as ds b=H b:=by
 unfold GL;have:as.findIdx? (λa=>decide (a=b))=none:=by
  rw[List.findIdx?_eq_none_iff];intro a q;exact decide_eq_false λe=>h (e ▸ q)
 rw[this]
theorem C1(h:b∈as):∃j,as[j]?=some b/\GL H as ds b=some (.tup (ds.getD j [])):=by
 unfold GL;cases e:as.findIdx? (λa=>decide (a=b))with
 | none=>
  rw[List.findIdx?_eq_none_iff]at e;have:=e b h;simp at this
 | some j=>
  rw[List.findIdx?_eq_some_iff_getElem]at e;obtain⟨h1,h2,_⟩:=e;exact⟨j,by rw[zaL h1,of_decide_eq_true h2],rfl⟩
theorem uQ(hc:X.calm=true)(hu:X.A.units+64<cLine):CallR X (.builtin "sorted") (λxs H Q=>∃r d ps,xs=[.ref r]/\H r=some (.ext λh=>h.IsItemsView r d)/\Rd H d (.dT (ps.map kI))/\ps.length<64/\DU qi H ps Q):=by
 intro pins s σ H xs us Q I rr h;obtain⟨r,d,ps,rfl,hr,hd,a6,q⟩:=h;obtain⟨u,rfl,ru⟩:=vals1 rr;cases ru;obtain⟨hz,bw,al,es,ep,bc,am,ak⟩:=BO I hd;have hv:s.heap.IsItemsView r d:=(I.hok r _ hr).1;have nL:∀ {b:Addr} {o:HO},H b=some o->b≠X.env.locals:=λe z=>by rw[z,I.free]at e;cases e
 refine Calls.call_function_entry kind_sorted plain_sorted entry_sorted (args_sorted1 _) ?_;unfold zbi.«sorted»;refine zaa (m:=checkCount "sorted" 1 1 _) (zac (zaa (uW (I.ok.hd hc) hv bc (by rw[am];exact hz) λh1 tk as G ba ac=>?_)));have B:as.length=ps.length:=by rw[ba,am]
 obtain⟨bs,ay,aq⟩:=m6 (f:=zan) (R:=λb (p:List Int×V)=>H b=some (.tup (p.1.map V.int))) ps (es.toList.map (·.key)) (by rw[zal,zbf,am]) λj p hp=>by
  obtain⟨e,b,Y,U,e3,_⟩:=ak j p hp;exact⟨b,by rw[zar,zc7,Y];exact congrArg some U,e3⟩
 have an:bs.length=ps.length:=zbO aq
 -- the j-th pair
 have F:∀(j:Nat) (p:List Int×V),ps[j]?=some p->∃a b v,as[j]?=some a/\bs[j]?=some b/\H b=some (.tup (p.1.map V.int))/\RelV p.2 v/\s.heap.objs.size<a/\h1.get? a=some {cls:=.type "tuple",data:=.seq #[.ref b,v]}:=λj p hp=>by
  obtain⟨e,b,Y,U,e3,e4⟩:=ak j p hp;have J:j<ps.length:=(List.getElem?_eq_some_iff.mp hp).1;obtain⟨b',f1,f2⟩:=pW aq j p hp;have ap:as[j]?=some (as[j]'(by lia)):=zaL (by lia);obtain⟨e',g1,g2⟩:=ac.pair j _ ap;rw[Y]at g1;cases g1;have hb:b=b':=by
   have z:(es.toList.map (·.key))[j]?=some (.ref b):=by rw[zar,zc7,Y];exact congrArg some U
   rw[ay,zar,f1]at z;have:=zaD z;injection this with this
   exact this.symm
  subst hb;exact⟨_,b,e.val,ap,f1,e3,e4,ac.above _ (zc8 _),by rw[g2,U]⟩
 have ad:∀(i j:Nat) (a:Addr),as[i]?=some a->as[j]?=some a->i=j:=λi j a hi J=>by
  have li:i<ps.length:=by rw[<- B];exact(List.getElem?_eq_some_iff.mp hi).1
  have lj:j<ps.length:=by rw[<- B];exact(List.getElem?_eq_some_iff.mp J).1
  obtain⟨a1,b1,v1,M,_,x2,_,_,x3⟩:=F i _ (zaL li);obtain⟨a2,b2,v2,y1,_,N,_,_,y3⟩:=F j _ (zaL lj);rw[hi]at M;cases M;rw[J]at y1;cases y1;rw[x3]at y3;injection y3 with y3
  injection y3 with _ _ y3 _
  injection y3 with y3 _
  have hb:b1=b2:=by
   have:=congrArg (λz:Array Value=>z[0]?) y3;simpa using this
  subst hb;rw[x2]at N;injection N with N
  injection N with N
  have:ps[i].1=ps[j].1:=by
   have inj:∀ {a b:List Int},a.map V.int=b.map V.int->a=b:=by
    intro a;induction a with
    | nil=>intro b h;cases b with
     | nil=>rfl
     | cons _ _=>cases h
    | cons x xs ih=>intro b h;cases b with
     | nil=>cases h
     | cons y ys=>
      rw[zak,zak]at h;injection h with h1 h2
      injection h1 with h1
      rw[h1,ih h2]
   exact inj N
  have Y:(ps.map (·.1))[i]'(by rw[zal];exact li)=(ps.map (·.1))[j]'(by rw[zal];exact lj):=by simpa using this
  exact(zdg al).mp Y
 have ar:∀(j:Nat) (p:List Int×V) (b:Addr),ps[j]?=some p->bs[j]?=some b->((bs.zip ps).map λx=>[V.ref x.1,x.2.2]).getD j []=[V.ref b,p.2]:=λj p b h1 h2=>by
  have:((bs.zip ps).map λx=>[V.ref x.1,x.2.2])[j]?=some [V.ref b,p.2]:=by
   rw[zar,(List.getElem?_zip_eq_some (z:=(b,p))).mpr ⟨h2,h1⟩];rfl
  simp[zc0,this]
 have aj:∀b o,s.heap.get? b=some o->¬ b∈as:=λb o e hb=>absurd (zai e) (Nat.not_lt.mpr (zdF (ac.above b hb)))
 have au:Same H (GL H as ((bs.zip ps).map λx=>[V.ref x.1,x.2.2])):=λb o e=>by
  obtain⟨ob,z⟩:=obj_some (I.hok b o e);rw[kU (aj b ob z)];exact e
 refine zaa (zee ?_ (by rw[zal,B];exact hz));have bf:(h1.push (za0 "list" (as.map zan).toArray 0)).get? h1.objs.size=some (za0 "list" (as.map zan).toArray 0):=zat _ rfl;show wpAny _ _ _ _ _ {s with heap:=h1.push (za0 "list" (as.map zan).toArray 0),toks:=tk};refine zaa (zbn (zbb slot_list_sort ⟨_,bf,rfl⟩ entry_list_sort ?body (args_list_sort _)))
 case body=>
  refine FK (H1:=GL H as ((bs.zip ps).map λx=>[V.ref x.1,x.2.2])) (el:=qi) (Q:=Q) I G a6 al B (λb o e=>kU (aj b o e)) (λb o e=>?_) (λb o n e h' H' k=>?_) (λj p a hp ha H' sm=>?_) (λh2 h' k=>?_) q λs' hE=>⟨_,rfl,zac ⟨_,rfl,hE⟩⟩
  ·by_cases hb:b∈as
   ·obtain⟨j,J⟩:=List.mem_iff_getElem?.mp hb
    have lj:j<ps.length:=by rw[<- B];exact(List.getElem?_eq_some_iff.mp J).1
    obtain⟨a,b',v,M,_,_,_,_,x3⟩:=F j _ (zaL lj);rw[J]at M;cases M;exact zai x3
   ·rw[kU hb]at e
    obtain⟨ob,z⟩:=obj_some (I.hok b o e);exact zai (G b ob z)
  ·have hb:b∈as:=Classical.byContradiction λz=>by rw[kU z,n]at e;cases e
   obtain⟨j,J,U⟩:=C1 (H:=H) (ds:=(bs.zip ps).map λx=>[V.ref x.1,x.2.2]) hb;rw[U]at e;cases e;have lj:j<ps.length:=by rw[<- B];exact(List.getElem?_eq_some_iff.mp J).1
   obtain⟨a,b',v,M,x2,_,x4,x5,x3⟩:=F j _ (zaL lj);rw[J]at M;cases M;rw[ar j _ b' (zaL lj) x2];have aw:b≠X.env.locals:=zaG (zcL I.lt x5);exact⟨by show 2<=zaj;decide,[.ref b',v],.cons rfl (.cons x4 .nil),_,k b _ (zaz (zai x3)) aw x3,rfl,0,rfl,rfl⟩
  ·obtain⟨a',b,v,M,x2,x3,x4,_,_⟩:=F j p hp
   rw[ha]at M;cases M;obtain⟨j',a0,U⟩:=C1 (H:=H) (as:=as) (ds:=(bs.zip ps).map λx=>[V.ref x.1,x.2.2]) (zaI ha);have:=ad j' j a a0 ha;subst this;rw[ar j' p b hp x2]at U;exact⟨a,b,rfl,sm _ _ U,sm _ _ (au _ _ x3)⟩
  ·have pI:∀(j:Nat) (p:List Int×V),ps[j]?=some p->∃a b v,as[j]?=some a/\bs[j]?=some b/\D5 h' a b v p.1:=λj p hp=>by
    obtain⟨a,b,v,M,x2,x3,x4,x5,x6⟩:=F j p hp;refine⟨a,b,v,M,x2,⟨_,k a _ (zaz (zai x6)) (zaG (zcL I.lt x5)) x6,rfl,0,rfl⟩,(N7 I x3).at' λo e=>k b o ?_ (nL x3) (G b o e)⟩;exact λz=>absurd (zai (G b o e)) (by rw[z];exact zbd _)
   refine⟨tuples' (zcp "tuple" != zcp "tuple"),λQ' q'=>?_,λi j C hi J a3 hC=>?_⟩
   ·have pr:zaU (λa (f:Value)=>∃W:List Value,IsTup h' a W.toArray/\W[0]?=some f) as (bs.map zan):=by
     have:∀ {as bs:List Addr} {ps:List (List Int×V)},as.length=ps.length->bs.length=ps.length->(∀(j:Nat) (p:List Int×V),ps[j]?=some p->∃a b v,as[j]?=some a/\bs[j]?=some b/\D5 h' a b v p.1)->zaU (λa (f:Value)=>∃W:List Value,IsTup h' a W.toArray/\W[0]?=some f) as (bs.map zan):=by
      intro as;induction as with
      | nil=>intro bs ps h1 h2 _;cases ps with
       | nil=>cases bs with
        | nil=>exact .nil
        | cons _ _=>cases h2
       | cons _ _=>cases h1
      | cons a as ih=>intro bs ps h1 h2 h3;cases ps with
       | nil=>cases h1
       | cons p ps=>cases bs with
        | nil=>cases h2
        | cons b bs=>
         obtain⟨a',b',v,y1,N,y3,_⟩:=h3 0 p rfl;have Y:a'=a:=by simpa using y1.symm
         have U:b'=b:=by simpa using N.symm
         subst Y U;exact .cons ⟨[.ref b',v],y3,rfl⟩ (ih (by simpa using h1) (by simpa using h2) λj q hq=>h3 (j+1) q (by simpa using hq))
     exact this B an pI
    refine kat_kind (s:={s with heap:=h',toks:=tk}) (pB pr) (by rw[zal,an];lia) (λv hv=>?_) (by decide) q';obtain⟨b,hb,rfl⟩:=List.mem_map.mp hv;obtain⟨j,J⟩:=List.mem_iff_getElem?.mp hb;have lj:j<ps.length:=by rw[<- an];exact(List.getElem?_eq_some_iff.mp J).1
    obtain⟨a,b',v,_,N,_,W,⟨o,Y,U,_⟩,_⟩:=pI j _ (zaL lj);rw[J]at N;cases N;rw[<- U];exact(show Looks _ h' (typeOf (.ref b)) o.cls from(Looks.ld Y).andThen .now)
   ·refine R5 (by lia) (by lia) ?_
    obtain⟨x,b1,v1,M,_,x2⟩:=pI i _ (zaL hi);obtain⟨y,b2,v2,y1,_,N⟩:=pI j _ (zaL J);have ex:as.getD i 0=x:=by simp[zc0,M]
    have ey:as.getD j 0=y:=by simp[zc0,y1]
    rw[ex,ey];have be:ps[i].1≠ps[j].1:=λz=>a3 (by
     have Y:(ps.map (·.1))[i]'(by rw[zal];exact hi)=(ps.map (·.1))[j]'(by rw[zal];exact J):=by simpa using z
     exact(zdg al).mp Y)
    refine EJ (s:={s with heap:=h',toks:=tk}) x2 N be (by show X.A.units+1+1<cLine;lia) ?_;unfold VN at hC;have k1:(ps.map (·.1)).getD i []=ps[i].1:=by simp[hi]
    have k2:(ps.map (·.1)).getD j []=ps[j].1:=by simp[J]
    rw[k1,k2]at hC;exact hC
end
theorem EI{prog:zap}{w:World}{A:zas}{E:Value->zab->Prop}{s:zab}{t B:Addr}{items:Array Value}{M J:Value}{lo hi:Option Int}{Q:Value->zab->Prop}(q:IsTup s.heap t items)(hs:s.heap.IsSliceOf B M J .none)(N:zbZ M lo)(Y:zbZ J hi)
  (hw:HT.sIx items.size 0 lo=0/\HT.sIx items.size items.size hi=items.size) (h:Q (.ref t) s):wpAny (model prog w) A (zb0 (.ref t) (.ref B)) Q E s:=by
 obtain⟨os,G,F,U⟩:=id hs;have W:s.TypeIs (.ref B) "slice" := ⟨os,G,F⟩;unfold zb0;try with_reducible refine zbn ?_
 first|refine zaa (zac ?_)|skip
 refine zaa (wpAny_sequenceKey q.typeIs (by decide) ?_);refine zaa (zbv (name:=zaY "__getitem__") q.typeIs zdS (zbb zdS q.typeIs entry_tuple_getitem ?_ (args_tuple_getitem _ _)));show wpAny _ _ (Builtin.Tuple.tupleItemsOf (.ref t) >>= _) _ _ s;refine zaa (tupleItemsOf_ q (zaa (zct W ?_)));rw[if_pos (by decide)];refine zaa (HT.fS hs N Y ?_);have z:(((HT.sIx items.size 0 lo:Nat):Int) == 0 && (1:Int) == 1 && (HT.sIx items.size items.size hi-HT.sIx items.size 0 lo) == items.size)=true:=by
  rw[hw.1,hw.2];simp
 show wpAny _ _ (if(((HT.sIx items.size 0 lo:Nat):Int) == 0 && (1:Int) == 1 && (HT.sIx items.size items.size hi-HT.sIx items.size 0 lo) == items.size)=true then _ else _) _ _ s;rw[if_pos z];refine zaa (m:=Builtin.Tuple.tupleIsExact _) ?_;unfold Builtin.Tuple.tupleIsExact;refine zaa (zct q.typeIs (zac ?_));rw[if_pos (by decide)];exact zaa (zbV (zac ⟨_,rfl,zac h⟩))
section
variable {X:Cx}
def X8(K:zaf):V->Option Int->Option Int->Hp->VK->Prop:=λx lo hi H Q=>∃a xs,x=.ref a/\SqT K H a xs/\(HT.sIx xs.length 0 lo=0/\HT.sIx xs.length xs.length hi=xs.length)/\Q (.ref a) H
theorem LY:SlR X (X8 X.K):=by
 intro pins s σ H x v U Y lo hi W Q I J hs G N h;obtain⟨a,xs,rfl,M,hw,q⟩:=h;cases J;obtain⟨B,r,F,hz⟩:=I.tuple M;have z:B.toArray.size=xs.length:=by rw[zaA];exact r.length.symm
 exact⟨"tuple",_,PyProof.Rows.slot_tuple_getitem.lookup,F.typeIs,EI F hs G N (by rw[z];exact hw) ⟨.ref a,H,I,rfl,q⟩⟩
theorem M3:SlR X (λx lo hi H Q=>X2 X.K x lo hi H Q\/X8 X.K x lo hi H Q):=S8.or LY
end
theorem rP(x:ObjOk P w H h d (.dT kvs)):(d == za9)=false/\kvs.length<=zaj/\∃es ep,RawD h d es ep/\es.size=kvs.length /\
  ∀(j:Nat) (p:List Key×V),kvs[j]?=some p->∃(e:zbA) (b:Addr),es[j]?=some e/\e.key=.ref b/\H b=some (.tup (p.1.map kV))/\RelV p.2 e.val/\e.hash=(za2 (aV P w)).hash p.1:=by
 obtain⟨z,y,xs,r,o,es,ep,h1,h2,U,F,Y⟩:=x;have hl:xs.length=kvs.length:=(zbO r).symm;have B:es.size=kvs.length:=by
  have:=congrArg zbH F;rw[zbf,zal]at this
  lia
 have get:∀ {kvs:List (List Key×V)} {xs:List (List Key×Addr×Value)},zaU (λ(p:List Key×V) (q:List Key×Addr×Value)=>p.1=q.1/\H q.2.1=some (.tup (p.1.map kV))/\RelV p.2 q.2.2) kvs xs->
   ∀(j:Nat) (p:List Key×V),kvs[j]?=some p->∃q,xs[j]?=some q/\p.1=q.1/\H q.2.1=some (.tup (p.1.map kV))/\RelV p.2 q.2.2:=by
  intro kvs xs r;induction r with
  | nil=>intro j p e;simp at e
  | cons h t ih=>
   intro j p e;cases j with
   | zero=>simp at e;subst e;exact⟨_,rfl,h⟩
   | succ j=>exact ih j p (by simpa using e)
 refine⟨y,z,es,ep,⟨o,h1,h2,U⟩,B,λj p e=>?_⟩;obtain⟨q,M,N,W,G⟩:=get r j p e;have J:es[j]?=some (entryOfKey (za2 (aV P w)) q):=by
  rw[<- zc7,F,zar,M];rfl
 exact⟨_,q.2.1,J,rfl,W,G,by show(za2 (aV P w)).hash q.1=_;rw[N]⟩
def YI(d:Addr)(o:Obj)(kvs:List (List Key×V)):It:=
 ⟨λi H=>H d=some (.frz o (.dT kvs))/\i<kvs.length,λi H x H'=>H'=H/\∃k v b,kvs[i]?=some (k,v)/\x=.ref b/\H b=some (.tup (k.map kV)),λi H=>H d=some (.frz o (.dT kvs))/\kvs.length<=i⟩
theorem FC{P:zap}{w:World}{K:zaf}{tg:Expr}(d it:Addr)(o:Obj)(kvs:List (List Key×V))(es:Array zbA)(ep:Nat)(W:o.data=.dict es ep)(ay:es.size=kvs.length):Turn P w K tg (YI d o kvs) [it] it (λi h=>h.IsKeyIter it d i es.size ep) where
 mem:=by simp
 obj:=λi h st b B=>by
  have e:b=it:=by simpa using B
  subst e;obtain⟨o,U,e2,e3⟩:=st;exact⟨o,U,λv z=>by rw[e3]at z;cases z⟩
 keep:=λi h h' st k=>st.at λo e=>k it (by simp) o e
 item:=by
  intro X hP hw hK hc i pins s σ H E I N st Y;subst hP hw hK;obtain⟨h1,h2⟩:=Y;obtain⟨M,g2⟩:=(show ObjOk X.prog X.w H s.heap d (.frz o (.dT kvs))from I.hok d _ h1);obtain⟨_,_,al,af,⟨o',G,r2,r3⟩,J,q⟩:=rP g2;rw[M]at G;cases G;rw[W]at r3;injection r3 with r4 r5
  subst r4 r5;obtain⟨f0,f1,f2,f3,f4,f5⟩:=N it (by simp);have hi:i<es.size:=by lia
  refine zA st ⟨o,M,r2,W⟩ hi λh' F sb=>?_
  have I1:Inv X pins σ H {s with heap:=h'}:=I.turned (t':=s.toks) (λb o B e=>(sb.2 b B).trans e) f0 f1 f3 f4 f5;obtain⟨e,b,U,e2,e3,_⟩:=q i _ (zaL h2);have ee:es[i]=e:=by
   rw[zd6 hi]at U;exact zaD U
  obtain⟨o2,q1,q2,q3⟩:=id F;refine⟨_,rfl,nN (s:={s with heap:=h'}) (n := "dict_keyiterator") q1 q2 q3 (by decide) ⟨.ref b,H,I1,?_,⟨rfl,kvs[i].1,kvs[i].2,b,zaL h2,rfl,e3⟩,F,λc B=>(N c B).1⟩⟩;rw[ee,e2];rfl
 done:=by
  intro X hP hw hK hc i pins s σ H E I N st Y;subst hP hw hK;obtain⟨h1,h2⟩:=Y;obtain⟨M,g2⟩:=(show ObjOk X.prog X.w H s.heap d (.frz o (.dT kvs))from I.hok d _ h1);obtain⟨_,_,al,af,⟨o',G,r2,r3⟩,J,q⟩:=rP g2;rw[M]at G;cases G;obtain⟨f0,f1,f2,f3,f4,f5⟩:=N it (by simp);exact C3 (I.ok.hd hc) st ⟨o,M,r2,W⟩ (by lia) λh' eb=>⟨rfl,I.turned (t':=s.toks) (λb o B e=>eb b o B e) f0 f1 f3 f4 f5⟩
 self:=λ_ _ _ _ _ st h=>wpAny_pyIter_keyiter st h
theorem BF(I:Inv X pins σ H s)(B:H d=some (.dT kvs))(G:s.heap.get? d=some o):Inv X pins σ (upd H d (.frz o (.dT kvs))) s:=by
 have ne:∀b u,H b=some u->(∀z,u≠.dT z)->b≠d:=λb u e n z=>by
  subst z;rw[B]at e;exact n kvs (zaD e).symm
 have J:=I.un (h':=s.heap) (t':=s.toks) (H':=upd H d (.frz o (.dT kvs))) ⟨λb u q _ _ _=>q,λb u q _ _ _=>⟨u.slots,q⟩,λb u q n _=>by rw[aE (λz=>by rw[z,B]at n;cases n)];exact n,λb u q _=>⟨u,q⟩,
  λb xs q=>by rw[aE (ne b _ q (λz h=>by cases h))];exact q,λb u xs q=>by rw[aE (ne b _ q (λz h=>by cases h))];exact q,λb ps q=>⟨#[],by rw[aE (ne b _ q (λz h=>by cases h)),q];simp⟩⟩ (λb u e=>?_)
 ·exact J
 ·have st:∀ {b:Addr} {u:HO},ObjOk X.prog X.w H s.heap b u->ObjOk X.prog X.w (upd H d (.frz o (.dT kvs))) s.heap b u:=λx=>x.stay (λ_ _ _ q=>q) (λc q=>by rw[aE (ne c _ q (λz h=>by cases h))];exact q) λc xs q=>by rw[aE (ne c _ q (λz h=>by cases h))];exact q
  by_cases F:b=d
  ·subst F
   rw[aJ]at e;cases e;exact⟨G,st (I.hok b _ B)⟩
  ·rw[aE F]at e
   exact st (I.hok b u e)
section
variable {X:Cx}{tg:Expr}
end
theorem EN{M:Model}{A:zas}{E:Value->zab->Prop}{s:zab}{b:Addr}{Q:Bool->zab->Prop}{prog:zap}{w:World}(hT:s.TypeIs (.ref b) "tuple")(h:Q false s):wpAny (model prog w) A (Builtin.Dict.quietEq (.ref b)) Q E s:=by
 unfold Builtin.Dict.quietEq;exact zaa (zeU hT PySem.F.slot_tuple_eq.lookup (zac h))
theorem G0{prog:zap}{w:World}{A:zas}{E:Value->zab->Prop}{s:zab}{d:Addr}{es:Array zbA}{ep:Nat}{Q:Value->zab->Prop}(lo:(d == za9)=false)(U:RawD s.heap d es ep)(hsz:es.size<=zaj)
  (B:∀e∈es.toList,∃b,e.key=.ref b/\s.TypeIs (.ref b) "tuple") (hh:∀e∈es.toList,(es.filter (·.hash == e.hash)).size<=1)
  (h:∀h' ad,RawD h' s.heap.objs.size es ad->zaT s.heap.objs.size (s.heap.push {cls:=.type "dict",data:=.dict #[]}) h'->Q (.ref s.heap.objs.size) {s with heap:=h'}):wpAny (model prog w) A (call (.type "dict") [.ref d]) Q E s:=by
 refine callType_codes (Q₁:=λN G=>N=.ref s.heap.objs.size/\G={s with heap:=s.heap.push {cls:=.type "dict",data:=.dict #[]} }) PySem.F.kt_called_dict (PySem.F.kt_typeCall_dict_1 _) PySem.F.entry_dict_init (kt_code_dict_new _ ⟨rfl,rfl⟩) ?_;rintro N G ⟨rfl,rfl⟩;have J:(s.heap.push {cls:=.type "dict",data:=.dict #[]}).get? s.heap.objs.size=some {cls:=.type "dict",data:=.dict #[]}:=zat _ rfl;have r2:RawD (s.heap.push {cls:=.type "dict",data:=.dict #[]}) d es ep:=U.at' λo e=>zag _ e
 have t1:zec {s with heap:=s.heap.push {cls:=.type "dict",data:=.dict #[]} } (.ref s.heap.objs.size) "dict" := ⟨_,J,rfl⟩;have t2:zec {s with heap:=s.heap.push {cls:=.type "dict",data:=.dict #[]} } (.ref d) "dict" := r2.typ;have af:s.heap.objs.size≠d:=by
  obtain⟨o,e,_⟩:=U;exact λz=>absurd (zai e) (by rw[z];exact zbd _)
 refine⟨t1,PySem.F.args_dict_init_2 _ _,?_⟩;unfold zbi.«dict.__init__»;refine zaa ?_;unfold Builtin.Dict.selfAndRest;refine zaa (zd1 t1 ?_);show wpAny _ _ (pure (s.heap.objs.size,[zan d])) _ _ _;refine zac ?_;show wpAny _ _ (zef "dict.__init__" s.heap.objs.size (.ref d) [] .none) _ _ _;unfold zef;refine zaa (zct t2 ?_);rw[if_neg (by decide)];refine zaa ?_;unfold Builtin.Dict.merge;refine zaa ?_;unfold Builtin.Dict.readDirectly;refine zaa (zc5 t2 isSubtype_dict_dict ?_);simp only[Bool.not_true,zb5,if_false];refine zaa (zeU t2 PySem.F.slot_dict_iter.lookup (zac ?_));simp only[beq_self_eq_true,if_true];refine zaa (zac ?_);obtain⟨o,Y,g2,g3⟩:=r2;unfold Builtin.Dict.mergeDict;rw[if_neg (by simpa using af)];unfold zdp;rw[if_neg (by rw[lo];exact zaw)];refine zaa (zac (zaa (zb3 Y g3 ?_)));dsimp only;by_cases z:es.size=0
 ·have z':es=#[]:=Array.eq_empty_of_size_eq_zero z
  subst z';rw[if_neg (by simp)];refine zaa (zcP Y g3 (zaa (zb3 Y g3 ?_)));rw[Std.Legacy.Range.forIn_eq_forIn_range'];refine zaa (zac (zac (zaa (zac (zac ⟨rfl,?_⟩)))));exact h _ _ ⟨_,J,⟨rfl,rfl,rfl⟩,rfl⟩ (ze1 _ _)
 ·have ac:(!(decide (es.size<=8) && es.all λe=>(keyPart e.key).isSome))=true:=by
   have:(es.all λe=>(keyPart e.key).isSome)=false:=by
    rw[zcN];intro q;rw[Array.all_eq_true']at q;obtain⟨b,e1,_⟩:=B (es[0]'(by lia)) (by simp);have:=q (es[0]'(by lia)) (by simp);rw[e1]at this;exact absurd this (by simp[keyPart])
   rw[this];simp
  rw[if_pos ac];refine zaa (zb3 J rfl ?_);rw[if_pos (by rfl)];refine zaa ?_;unfold Builtin.Dict.entriesForEmpty;refine zaa (zb3 Y g3 ?_);rw[<- Array.forIn_toList];refine zaa (wpAny_forIn_list _ (λrest _ s'=>s'={s with heap:=s.heap.push {cls:=.type "dict",data:=.dict #[]} }/\∀e∈rest,e∈es.toList) _ ?_ ?_ _ _ ⟨rfl,λe W=>W⟩)
  ·rintro e rest b s' ⟨rfl,hm⟩
   have W:=hm e (zau ..);obtain⟨b',e1,⟨o',e2,e3⟩⟩:=B e W;rw[e1];refine zaa (EN (M:=model prog w) ⟨o',zag _ e2,e3⟩ ?_);simp only[Bool.not_false,if_true];rw[if_neg (by have:=hh e W;lia)];exact zac ⟨rfl,λe' ag=>hm e' (zav _ ag)⟩
  ·rintro b s' ⟨rfl,_⟩
   refine zac ?_;have ne:(!es.isEmpty)=true:=by
    cases q:es.isEmpty with
    | false=>rfl
    | true=>exact absurd (by rw[Array.isEmpty_iff.mp q];rfl) z
   rw[if_pos ne];refine zaa (wpAny_updateDictKeysTo J rfl (zac (zaa (zac (zac ⟨rfl,?_⟩)))) (by lia));exact h _ _ ⟨_,zbU _ J rfl,⟨rfl,rfl,rfl⟩,rfl⟩ (zci ..)
theorem qB{q:Type}{f:q->Int}{c:Int}:∀(l:List q),(l.map f).Nodup->(l.filter λx=>f x == c).length<=1
 | [],_=>by simp
 | x::l,h=>by
  rw[zak,zdw]at h;have ih:=qB (c:=c) l h.2;rw[zdW];by_cases e:(f x == c)=true
  ·rw[if_pos e]
   have ex:f x=c:=by simpa using e
   have:l.filter (λx=>f x == c)=[]:=by
    rw[List.filter_eq_nil_iff];intro y B z;exact h.1 (List.mem_map.mpr ⟨y,B,by rw[ex];simpa using z⟩)
   rw[this];simp
  ·rw[if_neg e]
   exact ih
section
variable {X:Cx}
theorem AE:CallR X (.type "dict") (λxs H Q=>∃d kvs,xs=[.ref d]/\Rd H d (.dT kvs)/\(kvs.map λp=>(za2 (aV X.prog X.w)).hash p.1).Nodup/\∀p,H p=none->Q (.ref p) (upd H p (.dT kvs))):=by
 intro pins s σ H xs us Q I r h;obtain⟨d,kvs,rfl,hd,N,q⟩:=h;obtain⟨u,rfl,ru⟩:=vals1 r;cases ru;obtain⟨z,y,xs,B,o,es,ep,h1,h2,h3,M,h5⟩:=(show ObjOk X.prog X.w H s.heap d (.dT kvs)from hd.ok I.hok);have af:es.size=kvs.length:=by
  have:=congrArg zbH M;rw[zbf,zal]at this;have e:=zbO B
  lia
 have F:es.toList.map (·.hash)=kvs.map λp=>(za2 (aV X.prog X.w)).hash p.1:=by
  rw[M,zaQ];have:∀ {kvs:List (List Key×V)} {xs:List (List Key×Addr×Value)},zaU (λ(p:List Key×V) (q:List Key×Addr×Value)=>p.1=q.1/\H q.2.1=some (.tup (p.1.map kV))/\RelV p.2 q.2.2) kvs xs->
    xs.map ((·.hash) ∘ entryOfKey (za2 (aV X.prog X.w)))=kvs.map λp=>(za2 (aV X.prog X.w)).hash p.1:=by
   intro kvs xs r;induction r with
   | nil=>rfl
   | cons h t ih=>rw[zak,zak,ih,h.1];rfl
  exact this B
 have tup:∀ {kvs:List (List Key×V)} {xs:List (List Key×Addr×Value)},zaU (λ(p:List Key×V) (q:List Key×Addr×Value)=>p.1=q.1/\H q.2.1=some (.tup (p.1.map kV))/\RelV p.2 q.2.2) kvs xs->∀x∈xs,∃k:List V,H x.2.1=some (.tup k):=by
  intro kvs xs r;induction r with
  | nil=>intro x J;exact nomatch J
  | cons h t ih=>
   intro x J;rcases List.mem_cons.mp J with e|e
   ·rw[e];exact⟨_,h.2.1⟩
   ·exact ih x e
 refine G0 y ⟨o,h1,h2,h3⟩ (by lia) (λe U=>?_) (λe U=>?_) λh' W G sb=>?_
 ·rw[M]at U
  obtain⟨x,J,rfl⟩:=List.mem_map.mp U;obtain⟨k,hk⟩:=tup B x J;obtain⟨ak,_,⟨ob,Y,e2,_⟩,_⟩:=I.tuple (SqT.of hk);exact⟨x.2.1,rfl,ob,Y,e2⟩
 ·have:=qB (f:=(·.hash)) (c:=e.hash) es.toList (by rw[F];exact N)
  rw[<- zbf,Array.toList_filter];exact this
 ·have hn:H s.heap.objs.size=none:=I.fresh
  obtain⟨o',Y,e2,e3⟩:=G;refine⟨.ref s.heap.objs.size,_,I.laid (t':=s.toks) (o:=.dT kvs) (λb ob q=>(sb.2 b (zaz (zai q))).trans (zag _ q)) (zao _) ⟨z,beq_eq_false_iff_ne.mpr (zaS (zaz I.big)),xs,?_,o',es,W,Y,e2,e3,M,h5⟩,rfl,q _ hn⟩;exact Paired.mapP B λp q z=>⟨z.1,by rw[aE (aR z.2.1 hn)];exact z.2.1,z.2.2⟩
end
end My
namespace My
open PySem PySem.Spec PyProof.Rows L2 PySem.SeqAt
abbrev Tm:=List Int×Int
def kJ(t:Tm):List Key×V:=(t.1.map zam,.int t.2)
def look(cs:List Tm)(k:List Int):Option Int:=(cs.find? λt=>decide (t.1=k)).map (·.2)
def put(cs:List Tm)(k:List Int)(c:Int):List Tm:=if(cs.any λt=>decide (t.1=k))=true then cs.map (λt=>if t.1=k then(t.1,c)else t)else cs++[(k,c)]
theorem iT{a b:List Int}:(a.map (zam:Int->Key)=b.map zam)↔a=b:=by
 constructor
 ·intro h
  induction a generalizing b with
  | nil=>cases b with
   | nil=>rfl
   | cons _ _=>cases h
  | cons x xs ih=>cases b with
   | nil=>cases h
   | cons y ys=>
    rw[zak,zak]at h;injection h with h1 h2
    injection h1 with h1
    rw[h1,ih h2]
 ·intro h;rw[h]
theorem vZ(cs:List Tm)(k:List Int)(c:Int):(put cs k c).length<=cs.length+1:=by
 unfold put;split
 ·rw[zal];lia
 ·rw[zbu];simp
theorem IV:∀t∈put cs k c,t.1=k\/∃u∈cs,u.1=t.1:=by
 intro t q;unfold put at q;split at q
 ·obtain⟨u,B,e⟩:=List.mem_map.mp q
  split at e
  ·rename_i z;subst e;exact .inl z
  ·subst e;exact .inr ⟨u,B,rfl⟩
 ·rcases List.mem_append.mp q with h|h
  ·exact .inr ⟨t,h,rfl⟩
  ·rw[List.mem_singleton.mp h];exact .inl rfl
theorem lZ(h:(cs.map (·.1)).Nodup):((put cs k c).map (·.1)).Nodup:=by
 unfold put;split
 ·rw[zaQ]
  have:((·.1) ∘ λt:Tm=>if t.1=k then(t.1,c)else t)=(·.1):=by
   funext t;show(if t.1=k then(t.1,c)else t).1=t.1;split <;> rfl
  rw[this];exact h
 ·rename_i z
  rw[za4];refine L2.C6 h λq=>z ?_
  obtain⟨t,B,e⟩:=List.mem_map.mp q;exact List.any_eq_true.mpr ⟨t,B,decide_eq_true e⟩
def lL(cs:List Tm)(t:Tm):List Tm:=put cs t.1 ((look cs t.1).getD 0+t.2)
def bX(ts:List Tm):List Tm:=ts.foldl lL []
theorem EV(ts:List Tm)(t:Tm):bX (ts++[t])=lL (bX ts) t:=by
 unfold bX;rw[ze3];rfl
theorem jX:∀(ts:List Tm),(bX ts).length<=ts.length/\((bX ts).map (·.1)).Nodup/\∀t∈bX ts,∃u∈ts,u.1=t.1:=by
 intro ts;have F:∀(ts:List Tm) (cs:List Tm),(cs.map (·.1)).Nodup->(ts.foldl lL cs).length<=cs.length+ts.length/\((ts.foldl lL cs).map (·.1)).Nodup/\∀t∈ts.foldl lL cs,(∃u∈ts,u.1=t.1)\/∃u∈cs,u.1=t.1:=by
  intro ts;induction ts with
  | nil=>intro cs h;exact⟨by simp,h,λt q=>.inr ⟨t,q,rfl⟩⟩
  | cons x ts ih=>
   intro cs h;obtain⟨a,b,c⟩:=ih (lL cs x) (lZ h);refine⟨?_,b,λt q=>?_⟩
   ·have:=vZ cs x.1 ((look cs x.1).getD 0+x.2)
    rw[zcJ,za3];unfold lL at *
    lia
   ·rcases c t q with⟨u,B,e⟩|⟨u,B,e⟩
    ·exact .inl ⟨u,zav _ B,e⟩
    ·rcases IV u B with z|⟨v,G,z⟩
     ·exact .inl ⟨x,zau ..,z.symm.trans e⟩
     ·exact .inr ⟨v,G,z.trans e⟩
 obtain⟨a,b,c⟩:=F ts [] zcY;refine⟨by have:=a;simpa[bX]using this,b,λt q=>?_⟩;rcases c t q with h|⟨u,B,_⟩
 ·exact h
 ·cases B
def b8(M:Int)(q:List Tm):List Tm:=(q.filter λt=>decide (t.2%M≠0)).map λt=>(t.1,t.2%M)
def TS(H H':Hp):Prop:=∀b xs,H b=some (.tup xs)->H' b=some (.tup xs)
theorem Same.ts(e:Same H H'):TS H H':=λb xs h=>e b _ h
theorem TS.trans(a:TS H H1)(b:TS H1 H2):TS H H2:=λc xs h=>b c xs (a c xs h)
theorem TS.put(h:H l=some u)(n:∀xs,u≠.tup xs):TS H (upd H l o):=λb xs q=>by
 rw[aE (λz=>by subst z;rw[h]at q;exact n xs (zaD q))];exact q
noncomputable def hT(ns:List Int):Int:=reduceHash (Builtin.Tuple.tupleHashOf (ns.map hashInt))
theorem NH(P:zap)(w:World)(ns:List Int):(za2 (aV P w)).hash (ns.map zam)=hT ns:=by
 show reduceHash (Builtin.Tuple.tupleHashOf ((ns.map zam).map (aV P w).hash))=_;rw[zaQ];rfl
noncomputable def BP:List (List Int):=[[0],[1],[2],[3],[4],[5],[6],[7],[8]]
noncomputable def KN:List (List Int):=([0,1,2,3,4,5,6,7,8]:List Int).flatMap λi=>([0,1,2,3,4,5,6,7,8]:List Int).map λj=>[i,j]
theorem AV:((BP++KN).map hT).Nodup:=by decide +kernel
theorem i6{q B:Type}{f:q->B}:∀ {l:List q},(l.map f).Nodup->∀ {a b:q},a∈l->b∈l->f a=f b->a=b
 | [],_,a,b,ha,_,_=>by cases ha
 | x::l,h,a,b,ha,hb,e=>by
  rw[zak,zdw]at h;rcases List.mem_cons.mp ha with z|z <;> rcases List.mem_cons.mp hb with y|y
  ·rw[z,y]
  ·subst z;exact absurd (List.mem_map.mpr ⟨b,y,e.symm⟩) h.1
  ·subst y;exact absurd (List.mem_map.mpr ⟨a,z,e⟩) h.1
  ·exact i6 h.2 z y e
def wA(k:List Int):Prop:=(k.length=1\/k.length=2)/\∀e∈k,0<=e/\e<=8
theorem tN(h:wA k):k∈BP++KN:=by
 obtain⟨F,q⟩:=h;have B:∀e:Int,0<=e->e<=8->e∈([0,1,2,3,4,5,6,7,8]:List Int):=λe h1 h2=>by
  have:e=0\/e=1\/e=2\/e=3\/e=4\/e=5\/e=6\/e=7\/e=8:=by lia
  rcases this with z|z|z|z|z|z|z|z|z <;> (rw[z];decide)
 match k,F,q with
 | [x],_,q=>
  have d:=B x (q x (by simp)).1 (q x (by simp)).2;refine zdf _ ?_;have:BP=([0,1,2,3,4,5,6,7,8]:List Int).map λi=>[i]:=rfl
  rw[this];exact List.mem_map.mpr ⟨x,d,rfl⟩
 | [x,y],_,q=>
  refine zbF _ (List.mem_flatMap.mpr ⟨x,B x (q x (by simp)).1 (q x (by simp)).2,List.mem_map.mpr ⟨y,B y (q y (by simp)).1 (q y (by simp)).2,rfl⟩⟩)
 | [],F,_=>simp at F
 | _::_::_::_,F,_=>simp at F
theorem BH(P:zap)(w:World){cs:List Tm}(G:(cs.map (·.1)).Nodup)(hs:∀t∈cs,wA t.1):((cs.map kJ).map λp=>(za2 (aV P w)).hash p.1).Nodup:=by
 have e:((cs.map kJ).map λp=>(za2 (aV P w)).hash p.1)=(cs.map (·.1)).map hT:=by
  rw[zaQ,zaQ];congr 1;funext t;exact NH P w t.1
 rw[e];have:∀ {l:List (List Int)},l.Nodup->(∀k∈l,wA k)->(l.map hT).Nodup:=by
  intro l;induction l with
  | nil=>intro _ _;exact zcY
  | cons x l ih=>
   intro h1 h2;rw[zdw]at h1;rw[zak,zdw];refine⟨λF=>?_,ih h1.2 λk q=>h2 k (zav _ q)⟩;obtain⟨y,z,e⟩:=List.mem_map.mp F;have:=i6 AV (tN (h2 y (zav _ z))) (tN (h2 x (zau ..))) e;exact h1.1 (this ▸ z)
 refine this G λk q=>?_
 obtain⟨t,B,rfl⟩:=List.mem_map.mp q;exact hs t B
end My
namespace My
open PySem PySem.Spec PyProof.Rows L2
noncomputable def itN(t:Bool):String:=if t=true then "tuple_iterator" else "list_iterator"
noncomputable def sqN(t:Bool):String:=if t=true then "tuple" else "list"
def SIt(t:Bool)(h:Heap)(i l:Addr)(k:Nat):Prop:=∃o,h.get? i=some o/\o.cls=.type (itN t)/\o.data=.fields #[.ref l,.int k 0]
def SSq(t:Bool)(h:Heap)(l:Addr)(xs:Array Value):Prop:=∃o,h.get? l=some o/\o.cls=.type (sqN t)/\∃n,o.data=.seq xs n
theorem SIt.to(x:SIt t h i l k)(e:∀o,h.get? i=some o->h'.get? i=some o):SIt t h' i l k:=let ⟨o,ho,r⟩:=x;⟨o,e o ho,r⟩
theorem SSq.to(x:SSq t h l xs)(e:∀o,h.get? l=some o->h'.get? l=some o):SSq t h' l xs:=let ⟨o,ho,r⟩:=x;⟨o,e o ho,r⟩
section
variable {prog:zap}{w:World}{A:zas}{E:Value->zab->Prop}{s:zab}
theorem next_item(z:SIt t s.heap it l i)(N:SSq t s.heap l xs)(M:xs[i]?=some x)
  (U:∀h',SIt t h' it l (i+1)->zaT it s.heap h'->Q x {s with heap:=h'}):wpAny (model prog w) A (zbx (.ref it)) Q E s:=by
 cases t with
 | false=>exact wpAny_nextOf_list_item (it:=it) (l:=l) (items:=xs) z N M U
 | true=>
  have q:s.heap.IsTupleIter it l i:=z;obtain⟨o,F,W,B⟩:=z;obtain⟨Y,J,_,nl,G⟩:=N;unfold zbx;refine zaa (zbv (name:=zaY "__next__") q.typeIs zeg (zbb zeg q.typeIs zfl ?_ (zfm _)));show wpAny _ _ (field (.ref it) 0 >>= _) _ _ _;refine zaa (zaC F B (x:=.ref l) rfl ?_);show wpAny _ _ (if(zan l == zaM)=true then _ else _) _ _ _;rw[if_neg (show ¬ ((zan l == zaM)=true)from zaw)];show wpAny _ _ (field (.ref it) 1 >>= _) _ _ _;refine zaa (zaC F B (x:=.int i 0) rfl ?_);show wpAny _ _ (zdx (.ref l) >>= _) _ _ _;refine zaa (za5 J G ?_);simp only[zb6,M];refine zaa (zdr F B (by simp) (zac ⟨x,rfl,zac (U _ ⟨_,zbU _ F (Obj.isFreed_of_fields (zd7 B _)),(Obj.cls_mapFields ..).trans W,by rw[zd7 B];simp[zaO]⟩ (zci ..))⟩))
theorem next_end(M:A.handled=none)(z:SIt t s.heap it l i)(U:SSq t s.heap l xs)(N:xs[i]?=none)
  (W:∀h' e,zds it s.heap h'->(∃o,h'.get? e=some o/\o.cls=.type "StopIteration")->E (.ref e) {s with heap:=h'}):wpAny (model prog w) A (zbx (.ref it)) Q E s:=by
 cases t with
 | false=>exact wpAny_nextOf_list_end (it:=it) (l:=l) (items:=xs) M z U N W
 | true=>
  have q:s.heap.IsTupleIter it l i:=z;obtain⟨o,F,Y,B⟩:=z;obtain⟨ol,J,_,nl,G⟩:=U;unfold zbx;refine zaa (zbv (name:=zaY "__next__") q.typeIs zeg (zbb zeg q.typeIs zfl ?_ (zfm _)));show wpAny _ _ (field (.ref it) 0 >>= _) _ _ _;refine zaa (zaC F B (x:=.ref l) rfl ?_);show wpAny _ _ (if(zan l == zaM)=true then _ else _) _ _ _;rw[if_neg (show ¬ ((zan l == zaM)=true)from zaw)];show wpAny _ _ (field (.ref it) 1 >>= _) _ _ _;refine zaa (zaC F B (x:=.int i 0) rfl ?_);show wpAny _ _ (zdx (.ref l) >>= _) _ _ _;refine zaa (za5 J G ?_);simp only[zb6,N];refine zaa (zbV (zaa (zdr F B (by simp) ?_)));show wpAny _ _ (newExc (.type "StopIteration") [] >>= _) _ _ _;refine zaa ?_;simp only[newExc,newTuple];refine zaa (zbp ?_ (by size_fits));refine zaa (m:=zc4 _ _) (zdt (a:=zaM) (by first|rfl|(simp only[zc4];rfl)) ?_);refine zbp ?_ (by size_fits);simp only[raiseNew]
  refine zaa (wpAny_handled ?_);first|rw[show A.in1.handled=none from M]|rw[M]
  refine zaa (zac (wpAny_throw ?_));exact W _ _ (((zci ..).extBut.push _).push _) ⟨_,zat _ rfl,rfl⟩
structure ZA(z TI TO i1 i2 l1 l2:Addr):Prop where
 z1:TI≠z
 z2:TO≠z
 z3:i1≠z
 z4:i2≠z
 z5:TI≠TO
 z6:TI≠i1
 z7:TI≠i2
 z8:TO≠i1
 z9:TO≠i2
 za:i1≠i2
 zb:l1≠z/\l1≠TO/\l1≠i1/\l1≠i2
 zc:l2≠z/\l2≠TO/\l2≠i1/\l2≠i2
theorem HI{t1 t2:Bool}{z TI TO J M l1 l2:Addr}{k1 k2:Nat}{xs ys:Array Value}{x y a b:Value}{Q:Option Value->zab->Prop}(D:ZA z TI TO J M l1 l2)
  (hz:IsZip s.heap z TI TO .none) (a4:zbk s.heap TI (.ref J) (.ref M)) (az:zbk s.heap TO a b) (h1:SIt t1 s.heap J l1 k1) (h2:SIt t2 s.heap M l2 k2) (a5:SSq t1 s.heap l1 xs) (a0:SSq t2 s.heap l2 ys) (hx:xs[k1]?=some x) (hy:ys[k2]?=some y)
  (hQ:∀h',IsZip h' z TI TO (zaO s.heap.objs.size)->zbk h' TO x y->SIt t1 h' J l1 (k1+1)->SIt t2 h' M l2 (k2+1)->zbk h' s.heap.objs.size x y->h'.objs.size=s.heap.objs.size+1->(∀c o,c≠z->c≠TO->c≠J->c≠M->s.heap.get? c=some o->h'.get? c=some o)->Q (some (.ref s.heap.objs.size)) {s with heap:=h'}) :
  wpAny (model prog w) A (zaH (.ref z)) Q E s:=by
 have hT:s.TypeIs (.ref z) "zip" := ⟨_,hz,rfl⟩;unfold zaH;refine zaa (zb4 (zbv (name:=zaY "__next__") hT zcx (zbb zcx hT zeh ?_ (zei _))));show wpAny _ _ (field (.ref z) 2 >>= _) _ _ s;refine zaa (zaC hz rfl (x:=.bool false) rfl ?_);show wpAny _ _ (field (.ref z) 3 >>= _) _ _ s;refine zaa (zaC hz rfl (x:=.ref TI) rfl (zaa (za5 a4 rfl ?_)));show wpAny _ _ (zb7 (.ref z) >>= _) _ _ s;refine zaa ?_;unfold zb7;refine zaa (zaC hz rfl (x:=.none) rfl (zac ?_));simp only[if_true];refine zaa (zbV (zaa (zaC hz rfl (x:=.ref TO) rfl (zaa (zaW hz (by simp) λha W sa=>?_)))));replace W:IsZip ha z TI TO .ellipsis:=W;refine zaa ?_;simp only[zej,zek,zdy,zel];refine zaa (zaa (zb8 ?_));show wpAny _ _ (zbx (.ref J) >>= _) _ _ {s with heap:=ha};have ea:=sa.extBut;refine zaa (next_item (t:=t1) (xs:=xs) (h1.to λo e=>ea _ _ D.z3 e) (a5.to λo e=>ea _ _ D.zb.1 e) hx λhb au sb=>zac ?_);have eb:=sb.extBut;have N:zbk hb TO a b:=eb _ _ D.z8 (ea _ _ D.z2 az);refine zaa (za5 N rfl (zaa (ze4 N λhc F sc=>?_)));replace F:zbk hc TO x b:=F;have ec:=sc.extBut;refine zaa (zbw (zac ?_));refine zaa (zaa (zb8 ?_));show wpAny _ _ (zbx (.ref M) >>= _) _ _ {s with heap:=hc};refine zaa (next_item (t:=t2) (xs:=ys) (h2.to λo e=>ec _ _ D.z9.symm (eb _ _ D.za.symm (ea _ _ D.z4 e))) (a0.to λo e=>ec _ _ D.zc.2.1 (eb _ _ D.zc.2.2.1 (ea _ _ D.zc.1 e))) hy λhd a3 sd=>zac ?_);have ed:=sd.extBut;have U:zbk hd TO x b:=ed _ _ D.z9 F;refine zaa (za5 U rfl (zaa (ze4 U λq B se=>?_)));replace B:zbk q TO x y:=B;have ee:=se.extBut;refine zaa (zbw (zac (zac ?_)));refine zaa (za5 B rfl (zaa (zc6 ?_)));have hsz:q.objs.size=s.heap.objs.size:=by rw[se.1,sd.1,sc.1,sb.1,sa.1]
 have ai:IsZip q z TI TO .ellipsis:=ee _ _ D.z2.symm (ed _ _ D.z4.symm (ec _ _ D.z2.symm (eb _ _ D.z3.symm W)));have as:∀c o,c≠z->c≠TO->c≠J->c≠M->s.heap.get? c=some o->q.get? c=some o:=λc o Y c2 c3 c4 e=>ee _ _ c2 (ed _ _ c4 (ec _ _ c2 (eb _ _ c3 (ea _ _ Y e))))
 have ar:SIt t1 q J l1 (k1+1):=au.to λo e=>ee _ _ D.z8.symm (ed _ _ D.za (ec _ _ D.z8.symm e))
 have aw:SIt t2 q M l2 (k2+1):=a3.to λo e=>ee _ _ D.z9.symm e
 have ad:z<q.objs.size:=zai ai;show wpAny _ _ (zc9 (.ref z) (.ref q.objs.size) >>= _) _ _ _;refine zaa ?_;unfold zc9;have ay:IsZip (q.push {cls:=.type "tuple",data:=.seq #[x,y]}) z TI TO .ellipsis:=zag _ ai;refine zaa (zaW ay (by simp) λhg aa sg=>?_);replace aa:IsZip hg z TI TO (zaO q.objs.size):=aa;refine zaW aa (by simp) λhi G si=>?_;replace G:IsZip hi z TI TO (zaO q.objs.size):=G
 have up:∀c o,c≠z->q.get? c=some o->hi.get? c=some o:=λc o Y e=>si.extBut _ _ Y (sg.extBut _ _ Y (zag _ e))
 have ag:zbk hi q.objs.size x y:=si.extBut _ _ (zaG ad) (sg.extBut _ _ (zaG ad) (zat _ rfl));have af:hi.objs.size=q.objs.size+1:=by rw[si.1,sg.1,zbl]
 rw[hsz]at G ag af;refine zac ⟨_,rfl,zac ?_⟩;show Q (some (.ref q.objs.size)) _;rw[hsz];exact hQ hi G (up _ _ D.z2 B) (ar.to λo e=>up _ o D.z3 e) (aw.to λo e=>up _ o D.z4 e) ag af λc o Y c2 c3 c4 e=>up c o Y (as c o Y c2 c3 c4 e)
theorem HE{t1 t2:Bool}{z TI TO N U l1 l2:Addr}{k1 k2:Nat}{xs ys:Array Value}{a b:Value}{Q:Option Value->zab->Prop}(hh:A.handled=none)(D:ZA z TI TO N U l1 l2)
  (hz:IsZip s.heap z TI TO .none) (ar:zbk s.heap TI (.ref N) (.ref U)) (ao:zbk s.heap TO a b) (h1:SIt t1 s.heap N l1 k1) (h2:SIt t2 s.heap U l2 k2) (af:SSq t1 s.heap l1 xs) (ap:SSq t2 s.heap l2 ys) (W:xs[k1]?=none\/ys[k2]?=none)
  (hQ:∀h',(∀c o,c≠z->c≠TO->c≠N->c≠U->s.heap.get? c=some o->h'.get? c=some o)->Q none {s with heap:=h'}):wpAny (model prog w) A (zaH (.ref z)) Q E s:=by
 have hT:s.TypeIs (.ref z) "zip" := ⟨_,hz,rfl⟩;have fin:∀(h':Heap) (e:Addr),(∀c o,c≠z->c≠TO->c≠N->c≠U->s.heap.get? c=some o->h'.get? c=some o)->(∃o,h'.get? e=some o/\o.cls=.type "StopIteration")->wpAny (model prog w) A (do if <- isInstance (.ref e) (.type "StopIteration")then pure none else throw (.ref e)) Q E {s with heap:=h'}:=λh' e hk he=>by
  obtain⟨o,ho,hc⟩:=he;refine zaa (zc5 (T := "StopIteration") (b:=true) ⟨o,ho,hc⟩ zdu ?_);exact zac (hQ _ hk)
 unfold zaH;refine zaa (zb4 (zbv (name:=zaY "__next__") hT zcx (zbb zcx hT zeh ?_ (zei _))));show wpAny _ _ (field (.ref z) 2 >>= _) _ _ s;refine zaa (zaC hz rfl (x:=.bool false) rfl ?_);show wpAny _ _ (field (.ref z) 3 >>= _) _ _ s;refine zaa (zaC hz rfl (x:=.ref TI) rfl (zaa (za5 ar rfl ?_)));show wpAny _ _ (zb7 (.ref z) >>= _) _ _ s;refine zaa ?_;unfold zb7;refine zaa (zaC hz rfl (x:=.none) rfl (zac ?_));simp only[if_true];refine zaa (zbV (zaa (zaC hz rfl (x:=.ref TO) rfl (zaa (zaW hz (by simp) λha G sa=>?_)))));replace G:IsZip ha z TI TO .ellipsis:=G;refine zaa ?_;simp only[zej,zek,zdy,zel];refine zaa (zaa (zb8 ?_));show wpAny _ _ (zbx (.ref N) >>= _) _ _ {s with heap:=ha};have ea:=sa.extBut;cases hx:xs[k1]? with
 | none=>
  refine zaa (next_end (t:=t1) (xs:=xs) hh (h1.to λo e=>ea _ _ D.z3 e) (af.to λo e=>ea _ _ D.zb.1 e) hx λhb e sb he=>?_);obtain⟨oe,B,F⟩:=he;have Y:IsZip hb z TI TO .ellipsis:=sb _ _ D.z3.symm G;have M:e≠z:=λq=>by subst q;rw[Y]at B;cases B;simp at F
  exact zaW Y (by simp) λhc _ sc=>fin hc e (λc o c1 _ c3 _ q=>sc.extBut _ _ c1 (sb _ _ c3 (ea _ _ c1 q))) ⟨oe,sc.extBut _ _ M B,F⟩
 | some x=>
  have hy:ys[k2]?=none:=by rcases W with h|h;rw[hx]at h;cases h;exact h
  refine zaa (next_item (t:=t1) (xs:=xs) (h1.to λo e=>ea _ _ D.z3 e) (af.to λo e=>ea _ _ D.zb.1 e) hx λhb a3 sb=>zac ?_);have eb:=sb.extBut;have J:zbk hb TO a b:=eb _ _ D.z8 (ea _ _ D.z2 ao);refine zaa (za5 J rfl (zaa (ze4 J λhc au sc=>?_)));have ec:=sc.extBut;refine zaa (zbw (zac ?_));refine zaa (zaa (zb8 ?_));show wpAny _ _ (zbx (.ref U) >>= _) _ _ {s with heap:=hc};refine zaa (next_end (t:=t2) (xs:=ys) hh (h2.to λo e=>ec _ _ D.z9.symm (eb _ _ D.za.symm (ea _ _ D.z4 e))) (ap.to λo e=>ec _ _ D.zc.2.1 (eb _ _ D.zc.2.2.1 (ea _ _ D.zc.1 e))) hy λhd e sd he=>?_);obtain⟨oe,B,F⟩:=he;have ae:IsZip hd z TI TO .ellipsis:=sd _ _ D.z4.symm (ec _ _ D.z2.symm (eb _ _ D.z3.symm G));have M:e≠z:=λq=>by subst q;rw[ae]at B;cases B;simp at F
  exact zaW ae (by simp) λhf _ sf=>fin hf e (λc o c1 c2 c3 c4 q=>sf.extBut _ _ c1 (sd _ _ c4 (ec _ _ c2 (eb _ _ c3 (ea _ _ c1 q))))) ⟨oe,sf.extBut _ _ M B,F⟩
abbrev nR(t:Bool)(l:Addr):Obj:={cls:=.type (itN t),data:=.fields #[.ref l,.int 0 0]}
abbrev GP(t1 t2:Bool)(h:Heap)(l1 l2:Addr):Heap:=(h.push (nR t1 l1)).push (nR t2 l2)
abbrev YU(t1 t2:Bool)(h:Heap)(l1 l2:Addr):Heap:=((GP t1 t2 h l1 l2).push {cls:=.type "tuple",data:=.seq #[.ref h.objs.size,.ref (h.push (nR t1 l1)).objs.size]}).push {cls:=.type "tuple",data:=.seq #[.none,.none]}
abbrev VR(t1 t2:Bool)(h:Heap)(l1 l2:Addr):Heap:=(YU t1 t2 h l1 l2).push {cls:=.type "zip",data:=.fields #[.none,.bool false,.bool false,.ref (GP t1 t2 h l1 l2).objs.size,.ref ((GP t1 t2 h l1 l2).push {cls:=.type "tuple",data:=.seq #[.ref h.objs.size,.ref (h.push (nR t1 l1)).objs.size]}).objs.size]}
theorem MW(N U:Bool)(F G:Addr)(xs ys:Array Value):Meets (zbi.«zip.__new__» ⟨[.type "zip",.ref F,.ref G],[]⟩) (λ_ R s=>SSq N s.heap F xs/\SSq U s.heap G ys/\R (.ok (.ret (.ref (YU N U s.heap F G).objs.size))) {s with heap:=VR N U s.heap F G}):=
 .of_wp λprog w A R s h=>by
  obtain⟨J,g,d,tk,os⟩:=s;obtain⟨M,W,h⟩:=h;have Y:=sub_zip;have B:SSq U (J.push (nR N F)) G ys:=W.to λo e=>zag _ e
  cases N <;> cases U
  ·have q:zem (zbN ⟨J,g,d,tk,os⟩) F xs:=M
   have z:zem (zbN ⟨J.push {cls:=.type "list_iterator",data:=.fields #[.ref F,.int 0 0]},g,d,tk,os⟩) G ys:=B
   wp_walk using zcc q,zcc z
   exact⟨_,rfl,h⟩
  ·have q:zem (zbN ⟨J,g,d,tk,os⟩) F xs:=M
   have z:zdz (zbN ⟨J.push {cls:=.type "list_iterator",data:=.fields #[.ref F,.int 0 0]},g,d,tk,os⟩) G ys:=B
   wp_walk using zcc q,zbQ z
   exact⟨_,rfl,h⟩
  ·have q:zdz (zbN ⟨J,g,d,tk,os⟩) F xs:=M
   have z:zem (zbN ⟨J.push {cls:=.type "tuple_iterator",data:=.fields #[.ref F,.int 0 0]},g,d,tk,os⟩) G ys:=B
   wp_walk using zbQ q,zcc z
   exact⟨_,rfl,h⟩
  ·have q:zdz (zbN ⟨J,g,d,tk,os⟩) F xs:=M
   have z:zdz (zbN ⟨J.push {cls:=.type "tuple_iterator",data:=.fields #[.ref F,.int 0 0]},g,d,tk,os⟩) G ys:=B
   wp_walk using zbQ q,zbQ z
   exact⟨_,rfl,h⟩
theorem IG(M:SSq t1 s.heap l1 xs)(q:SSq t2 s.heap l2 ys)
  (h:∀h', IsZip h' (s.heap.objs.size+4) (s.heap.objs.size+2) (s.heap.objs.size+3) .none -> zbk h' (s.heap.objs.size+2) (.ref s.heap.objs.size) (.ref (s.heap.objs.size+1)) -> zbk h' (s.heap.objs.size+3) .none .none ->
   SIt t1 h' s.heap.objs.size l1 0->SIt t2 h' (s.heap.objs.size+1) l2 0->(∀c o,s.heap.get? c=some o->h'.get? c=some o)->Q (.ref (s.heap.objs.size+4)) {s with heap:=h'}):wpAny (model prog w) A (call (.type "zip") [.ref l1,.ref l2]) Q E s:=by
 refine zen F.called_zip (by decide) (F.typeCall_zip_2 _ _) (F.newCall_zip_2 _ _) (λz=>F.args_object_init_3 z _ _) F.entry_zip_new (MW t1 t2 l1 l2 xs ys) ⟨M,q,?_⟩;have N:(s.heap.push (nR t1 l1)).objs.size=s.heap.objs.size+1:=zbl ..;have B:(GP t1 t2 s.heap l1 l2).objs.size=s.heap.objs.size+2:=by rw[zbl,N]
 have G:((GP t1 t2 s.heap l1 l2).push {cls:=.type "tuple",data:=.seq #[.ref s.heap.objs.size,.ref (s.heap.push (nR t1 l1)).objs.size]}).objs.size=s.heap.objs.size+3:=by rw[zbl,B]
 have W:(YU t1 t2 s.heap l1 l2).objs.size=s.heap.objs.size+4:=by rw[zbl,G]
 have J:(VR t1 t2 s.heap l1 l2).get? (YU t1 t2 s.heap l1 l2).objs.size=some _:=zat _ rfl;have Y:(VR t1 t2 s.heap l1 l2).get? ((GP t1 t2 s.heap l1 l2).push {cls:=.type "tuple",data:=.seq #[.ref s.heap.objs.size,.ref (s.heap.push (nR t1 l1)).objs.size]}).objs.size=some _:=zag _ (zat _ rfl);have U:(VR t1 t2 s.heap l1 l2).get? (GP t1 t2 s.heap l1 l2).objs.size=some _:=zag _ (zag _ (zat _ rfl));have g2:(VR t1 t2 s.heap l1 l2).get? (s.heap.push (nR t1 l1)).objs.size=some (nR t2 l2):=zag _ (zag _ (zag _ (zat _ rfl)));have g1:(VR t1 t2 s.heap l1 l2).get? s.heap.objs.size=some (nR t1 l1):=zag _ (zag _ (zag _ (zag _ (zat _ rfl))));show _/\_;rw[B,G,W]at J;rw[N,B]at U;rw[G]at Y;rw[N]at g2;rw[W];exact⟨⟨_,J,rfl⟩,h _ J U Y ⟨_,g1,rfl,rfl⟩ ⟨_,g2,rfl,rfl⟩ λc o x=>zag _ (zag _ (zag _ (zag _ (zag _ x))))⟩
end
def lO(K:zaf)(t:Bool)(H:Hp)(a:Addr)(xs:List V):Prop:=if t=true then SqT K H a xs else SqL K H a xs
def ItZ(K:zaf)(B z:Bool)(q F:Addr):It:=
 ⟨λi H => ∃xs ys, lO K B H q xs /\ lO K z H F ys /\ i<xs.length /\ i<ys.length, λi H x H' => ∃p u v, x = .ref p /\ H p = none /\ H' = upd H p (.tup [u, v]) /\ ∀xs ys, lO K B H q xs -> lO K z H F ys -> xs[i]? = some u /\ ys[i]? = some v,
  λi H=>∃xs ys,lO K B H q xs/\lO K z H F ys/\(xs.length<=i\/ys.length<=i)⟩
theorem cJ(I:Inv X pins σ H s)(h:lO X.K t H a xs):∃q:List Value,Vals xs q/\SSq t s.heap a q.toArray:=by
 cases t with
 | true=>
  obtain⟨q,r,p,_⟩:=I.tuple (show SqT X.K H a xs from h);exact⟨q,r,p⟩
 | false=>
  obtain⟨q,r,p,_⟩:=I.list (show SqL X.K H a xs from h);exact⟨q,r,PlainL.isList p⟩
theorem iX(I:Inv X pins σ H s)(h:lO X.K t H a xs)(h':lO X.K t H a ys):xs=ys:=by
 cases t with
 | true=>exact I.tuple_inj (show SqT X.K H a xs from h) h'
 | false=>exact I.list_inj (show SqL X.K H a xs from h) h'
theorem dE{pins:List (Addr×Obj)}{t':Nat}{fp:List Addr}(I:Inv X pins σ H s)(G:∀b∈fp,iI X pins H b)(k:∀b o,b∉fp->s.heap.get? b=some o->h'.get? b=some o):Inv X pins σ H {s with heap:=h',toks:=t'}:=by
 have F:∀b u,H b=some u->b∉fp:=λb u e z=>by rw[(G b z).1]at e;cases e
 refine I.call' (s':={s with heap:=h',toks:=t'}) (ch:=fp) rfl ⟨λb o e _ _ B=>k b o B e,λb o e _ _ B=>⟨o.slots,k b o B e⟩,λ_ _ _ n _=>n,λb o e B=>⟨o,k b o B e⟩,λ_ _ q=>q,λ_ _ _ q=>q,λb ps q=>⟨#[],by rw[q];simp⟩⟩ (λb u e=>?_) I.bare λb J=>?_
 ·refine(I.hok b u e).stay (λc v U q=>k c v ?_ q) (λ_ q=>q) λ_ _ q=>q
  rcases U with z|z
  ·rw[z];exact F b u e
  ·exact F c _ z
 ·obtain⟨_,M,_,Y,W,N⟩:=G b J
  exact⟨Y,M,W,N⟩
theorem HM{P:zap}{w:World}{K:zaf}{af:List Expr}{x1}{tp:Pos}(t1 t2:Bool){z TI TO U W l1 l2:Addr}(D:ZA z TI TO U W l1 l2) :
  Turn P w K (.Tuple af x1 tp) (ItZ K t1 t2 l1 l2) [z,TI,TO,U,W] z (λi h=>IsZip h z TI TO .none/\zbk h TI (.ref U) (.ref W)/\(∃a b,zbk h TO a b)/\SIt t1 h U l1 i/\SIt t2 h W l2 i) where
 mem:=by simp
 obj:=by
  rintro i h ⟨hz,J,⟨a,b,M⟩,⟨o1,e1,_,d1⟩,⟨o2,e2,_,d2⟩⟩ c B;simp only[zaE,zaF,or_false]at B;rcases B with rfl|rfl|rfl|rfl|rfl
  ·exact⟨_,hz,λv q=>by cases q⟩
  ·exact⟨_,J,λv q=>by cases q⟩
  ·exact⟨_,M,λv q=>by cases q⟩
  ·exact⟨o1,e1,λv q=>by rw[d1]at q;cases q⟩
  ·exact⟨o2,e2,λv q=>by rw[d2]at q;cases q⟩
 keep:=λi h h' ⟨hz,J,⟨a,b,M⟩,s1,s2⟩ k=>⟨k z (by simp) _ hz,k TI (by simp) _ J,⟨a,b,k TO (by simp) _ M⟩,s1.to λo e=>k U (by simp) o e,s2.to λo e=>k W (by simp) o e⟩
 item:=by
  intro X hP hw hK B i pins s σ H E I hf st hg;subst hP hw hK;obtain⟨hz,J,⟨a,b,M⟩,s1,s2⟩:=st;obtain⟨xs,ys,q1,q2,aw,am⟩:=hg;obtain⟨ah,r1,p1⟩:=cJ I q1;obtain⟨ad,r2,p2⟩:=cJ I q2;have e1:xs[i]?=some xs[i]:=by simp[aw]
  have e2:ys[i]?=some ys[i]:=by simp[am]
  obtain⟨u,eu,ru⟩:=r1.get e1;obtain⟨v,ev,rv⟩:=r2.get e2;refine HI D hz J M s1 s2 p1 p2 (x:=u) (y:=v) (by simpa using eu) (by simpa using ev) λh' a1 a2 a3 a4 a5 a6 Y=>⟨_,rfl,?_⟩
  refine wpAny_letOwnedTupleGo_zip (s:={s with heap:=h'}) a1 λh2 ao sb=>?_
  have zz:∀c,c∈[z,TI,TO,U,W]->c<s.heap.objs.size:=λc B=>by
   simp only[zaE,zaF,or_false]at B;rcases B with rfl|rfl|rfl|rfl|rfl
   ·exact zai hz
   ·exact zai J
   ·exact zai M
   ·obtain⟨o,e,_⟩:=s1;exact zai e
   ·obtain⟨o,e,_⟩:=s2;exact zai e
  have N:∀c o,c≠z->h'.get? c=some o->h2.get? c=some o:=λc o B e=>sb.extBut _ _ B e
  have I1:Inv X pins σ H {s with heap:=h2,toks:=s.toks}:=dE I hf λc o B e=>by
   simp only[zaE,zaF,or_false,not_or]at B;exact N c o B.1 (Y c o B.1 B.2.2.1 B.2.2.2.1 B.2.2.2.2 e)
  have G:H s.heap.objs.size=none:=I.fresh;have au:zbk h2 s.heap.objs.size u v:=N _ _ (zaG (zz z (by simp))) a5;have I2:Inv X pins σ (upd H s.heap.objs.size (.tup [xs[i],ys[i]])) {s with heap:=h2}:=by
   have a0:HOk X.prog X.w (upd H s.heap.objs.size (.tup [xs[i],ys[i]])) h2:=λc ob e=>by
    by_cases B:c=s.heap.objs.size
    ·subst B;rw[aJ]at e;cases e
     exact⟨by show 2<=zaj;decide,[u,v],.cons ru (.cons rv .nil),_,au,rfl,0,rfl,rfl⟩
    ·rw[aE B]at e
     exact(I1.hok c ob e).stay (λ_ _ _ q=>q) (λd q=>by rw[aE (aR q G)];exact q) λd ag q=>by rw[aE (aR q G)];exact q
   refine I.call' (s':={s with heap:=h2}) (ch:=[z,TI,TO,U,W]) rfl ⟨λc o e _ _ F=>?_,λc o e _ _ F=>⟨o.slots,?_⟩,λc o e n F=>by rw[aE (zaz (zai e))];exact n,λc o e F=>⟨o,?_⟩,λc ag q=>by rw[aE (aR q G)];exact q,λc o' u' q=>by rw[aE (aR q G)];exact q,λc ps q=>⟨#[],by rw[aE (aR q G),q];simp⟩⟩ a0 I.bare λb hb=>?_
   ·simp only[zaE,zaF,or_false,not_or]at F
    exact N c o F.1 (Y c o F.1 F.2.2.1 F.2.2.2.1 F.2.2.2.2 e)
   ·simp only[zaE,zaF,or_false,not_or]at F
    exact N c o F.1 (Y c o F.1 F.2.2.1 F.2.2.2.1 F.2.2.2.2 e)
   ·simp only[zaE,zaF,or_false,not_or]at F
    exact N c o F.1 (Y c o F.1 F.2.2.1 F.2.2.2.1 F.2.2.2.2 e)
   ·obtain⟨_,f1,_,f3,f4,f5⟩:=hf b hb
    exact⟨f3,f1,f4,f5⟩
  refine⟨.ref s.heap.objs.size,_,I2,rfl,⟨_,_,_,rfl,G,rfl,λbg ag g1 g2=>by rw[<- iX I q1 g1,<- iX I q2 g2];exact⟨e1,e2⟩⟩,⟨ao,N _ _ D.z1 (Y _ _ D.z1 D.z5 D.z6 D.z7 J),⟨_,_,N _ _ D.z2 a2⟩,a3.to λo e=>N _ o D.z3 e,a4.to λo e=>N _ o D.z4 e⟩,λc B=>?_⟩;rw[aE (zaz (zz c B))];exact(hf c B).1
 done:=by
  intro X hP hw hK B i pins s σ H E I hf st hg;subst hP hw hK;obtain⟨hz,J,⟨a,b,M⟩,s1,s2⟩:=st;obtain⟨xs,ys,q1,q2,ac⟩:=hg;obtain⟨ah,r1,p1⟩:=cJ I q1;obtain⟨ad,r2,p2⟩:=cJ I q2;have n1:=r1.length;have n2:=r2.length;refine HE (I.ok.hd B) D hz J M s1 s2 p1 p2 (ac.imp (λh=>by simp;lia) λh=>by simp;lia) λh' Y=>⟨rfl,dE (t':=s.toks) I hf λc o B e=>?_⟩
  simp only[zaE,zaF,or_false,not_or]at B;exact Y c o B.1 B.2.2.1 B.2.2.2.1 B.2.2.2.2 e
 self:=λ_ _ _ _ _ st h=>zeo st.1 h
theorem V1(n q z:Nat)(h1:q<n)(h2:z<n):ZA (n+4) (n+2) (n+3) n (n+1) q z:=⟨(show(n+2:Nat)≠n+4 by lia),(show(n+3:Nat)≠n+4 by lia),(show(n:Nat)≠n+4 by lia),(show(n+1:Nat)≠n+4 by lia),(show(n+2:Nat)≠n+3 by lia),(show(n+2:Nat)≠n by lia),(show(n+2:Nat)≠n+1 by lia),(show(n+3:Nat)≠n by lia),(show(n+3:Nat)≠n+1 by lia),(show(n:Nat)≠n+1 by lia),⟨(show(q:Nat)≠n+4 by lia),(show(q:Nat)≠n+3 by lia),(show(q:Nat)≠n by lia),(show(q:Nat)≠n+1 by lia)⟩,⟨(show(z:Nat)≠n+4 by lia),(show(z:Nat)≠n+3 by lia),(show(z:Nat)≠n by lia),(show(z:Nat)≠n+1 by lia)⟩⟩
def Y6(K:zaf)(ta:TA):TI:=λσ H R=>ta σ H λvs H1=>∃F B q z xs ys,vs=[.ref q,.ref z]/\lO K F H1 q xs/\lO K B H1 z ys/\R (ItZ K F B q z) H1
theorem RJ{F:List Expr}{x1}(hg:Gl X "zip")(hm:X.mg "zip" = none)(ha:PA X [a,b] ta)(hs:zah [a,b] X.env=[(false,eval a X.env),(false,eval b X.env)]:=by rfl)(B:zah [b] X.env=[(false,eval b X.env)]:=by rfl) :
  PI X (.Tuple F x1 tp) (.Call (.Name "zip" p) [a,b] [] pos) (Y6 X.K ta):=by
 intro pins s σ H R I h;refine Call_ (fL I hg hm My.boot_zip (zcC (bN (ha pos pins s σ H _ I h) λus z ⟨vs,H1,G,r1,U⟩=>?_) (by rw[hs,B]) (by rw[B];rfl)));obtain⟨t1,t2,l1,l2,xs,ys,rfl,U,q2,q⟩:=U;obtain⟨u,v,rfl,ru,rv⟩:=vals2 r1;cases ru;cases rv;obtain⟨ac,_,p1⟩:=cJ G U;obtain⟨aa,_,p2⟩:=cJ G q2;have b1:l1<z.heap.objs.size:=by obtain⟨o,e,_⟩:=p1;exact zai e
 have b2:l2<z.heap.objs.size:=by obtain⟨o,e,_⟩:=p2;exact zai e
 refine IG p1 p2 λh' hz Y N W M k=>?_
 refine zeo hz ?_;have D:ZA (z.heap.objs.size+4) (z.heap.objs.size+2) (z.heap.objs.size+3) z.heap.objs.size (z.heap.objs.size+1) l1 l2:=V1 _ _ _ b1 b2;refine⟨_,[_,_,_,_,_],_,_,H1,rfl,G.kept (t':=z.toks) k,HM t1 t2 D,⟨hz,Y,⟨_,_,N⟩,W,M⟩,λc J=>G.fpOk ?_ (G.hok.fresh ?_),q⟩
 ·simp only[zaE,zaF,or_false]at J
  rcases J with rfl|rfl|rfl|rfl|rfl <;> lia
 ·simp only[zaE,zaF,or_false]at J
  rcases J with rfl|rfl|rfl|rfl|rfl <;> lia
end My
namespace P
open PySem PySem.Spec PyProof.Rows L2
inductive D where
 | non|bl (b:Bool)|int (i:Int)|str (x:Str)|tup (l:List D)|lst (l:List D)
 | dK (l:List (Key×D))|dT (l:List (List Key×D))
abbrev Av:=Addr->Prop
section
variable (A:Av)(H:Hp)
mutual
/-- a heap bears a value that stays (the things that may still be written are in A) -/
inductive Rep:D->V->Prop where
 | non:Rep .non .non
 | bl (b:Bool):Rep (.bl b) (.bl b)
 | int (i:Int):Rep (.int i) (.int i)
 | str (x:Str):Rep (.str x) (.str x)
 | tup {l:List D} {a:Addr} {xs:List V} (h:H a=some (.tup xs)) (r:RepL l xs):Rep (.tup l) (.ref a)
 | lst {l:List D} {a:Addr} {xs:List V} (n:¬ A a) (h:Rd H a (.lst xs)) (r:RepL l xs):Rep (.lst l) (.ref a)
 | dK {l:List (Key×D)} {a:Addr} {xs:List (Key×V)} (n:¬ A a) (h:Rd H a (.dK xs)) (e:xs.map (·.1)=l.map (·.1)) (r:RepL (l.map (·.2)) (xs.map (·.2))):Rep (.dK l) (.ref a)
 | dT {l:List (List Key×D)} {a:Addr} {xs:List (List Key×V)} (n:¬ A a) (h:Rd H a (.dT xs)) (e:xs.map (·.1)=l.map (·.1)) (r:RepL (l.map (·.2)) (xs.map (·.2))):Rep (.dT l) (.ref a)
inductive RepL:List D->List V->Prop where
 | nil:RepL [] []
 | cons {d:D} {v:V} {ds:List D} {vs:List V} (h:Rep d v) (t:RepL ds vs):RepL (d::ds) (v::vs)
end
inductive RepB:D->V->Prop where
 | of {d:D} {v:V} (h:Rep A H d v):RepB d v
 | lst {l:List D} {a:Addr} {xs:List V} (h:Rd H a (.lst xs)) (r:RepL A H l xs):RepB (.lst l) (.ref a)
 | dK {l:List (Key×D)} {a:Addr} {xs:List (Key×V)} (h:Rd H a (.dK xs)) (e:xs.map (·.1)=l.map (·.1)) (r:RepL A H (l.map (·.2)) (xs.map (·.2))):RepB (.dK l) (.ref a)
 | dT {l:List (List Key×D)} {a:Addr} {xs:List (List Key×V)} (h:Rd H a (.dT xs)) (e:xs.map (·.1)=l.map (·.1)) (r:RepL A H (l.map (·.2)) (xs.map (·.2))):RepB (.dT l) (.ref a)
inductive Own:D->Addr->Prop where
 | lst {l:List D} {a:Addr} {xs:List V} (h:H a=some (.lst xs)) (r:RepL A H l xs):Own (.lst l) a
 | dK {l:List (Key×D)} {a:Addr} {xs:List (Key×V)} (h:H a=some (.dK xs)) (e:xs.map (·.1)=l.map (·.1)) (r:RepL A H (l.map (·.2)) (xs.map (·.2))):Own (.dK l) a
 | dT {l:List (List Key×D)} {a:Addr} {xs:List (List Key×V)} (h:H a=some (.dT xs)) (e:xs.map (·.1)=l.map (·.1)) (r:RepL A H (l.map (·.2)) (xs.map (·.2))):Own (.dT l) a
end
noncomputable def Kp:HO->Prop
 | .tup _=>True | .lst _=>True|_=>False
structure Ext(A:Av)(H H':Hp):Prop where
 rd:∀b u,Rd H b u->Rd H' b u
 kp:∀b u,Kp u->H b=some u->H' b=some u
 ow:∀b u,A b->H b=some u->H' b=some u
 fz:∀b o u,H b=some (.frz o u)->H' b=some (.frz o u)
theorem Ext.refl(A:Av)(H:Hp):Ext A H H:=⟨λ_ _ h=>h,λ_ _ _ h=>h,λ_ _ _ h=>h,λ_ _ _ h=>h⟩
theorem Ext.trans(a:Ext A H H1)(b:Ext A H1 H2):Ext A H H2:=
 ⟨λc u h=>b.rd c u (a.rd c u h),λc u k h=>b.kp c u k (a.kp c u k h),λc u n h=>b.ow c u n (a.ow c u n h),λc o u h=>b.fz c o u (a.fz c o u h)⟩
theorem Ext.mono(h:Ext A H H')(s:∀a,A' a->A a):Ext A' H H':=⟨h.rd,h.kp,λb u n e=>h.ow b u (s b n) e,h.fz⟩
theorem Ext.same(h:Same H H'):Ext A H H':=
 ⟨λb u r=>by rcases r with r|⟨o,r⟩;exact .inl (h _ _ r);exact .inr ⟨o,h _ _ r⟩,λb u _ r=>h _ _ r,λb u _ r=>h _ _ r,λb o u r=>h _ _ r⟩
theorem Ext.tp(x:Ext A H H')(b:Addr)(xs:List V)(h:H b=some (.tup xs)):H' b=some (.tup xs):=x.kp b _ trivial h
theorem Ext.new(h:H p=none):Ext A H (upd H p o):=Ext.same (My.yS h)
mutual
theorem Rep.ext(x:Ext A H H'):Rep A H d v->Rep A H' d v
 | .non=>.non
 | .bl b=>.bl b
 | .int i=>.int i
 | .str s=>.str s
 | .tup h r=>.tup (x.tp _ _ h) (RepL.ext x r)
 | .lst n h r=>.lst n (x.rd _ _ h) (RepL.ext x r)
 | .dK n h e r=>.dK n (x.rd _ _ h) e (RepL.ext x r)
 | .dT n h e r=>.dT n (x.rd _ _ h) e (RepL.ext x r)
theorem RepL.ext(x:Ext A H H'):RepL A H ds vs->RepL A H' ds vs
 | .nil=>.nil
 | .cons h t=>.cons (Rep.ext x h) (RepL.ext x t)
end
theorem RepB.ext(x:Ext A H H'):RepB A H d v->RepB A H' d v
 | .of h=>.of (h.ext x)
 | .lst h r=>.lst (x.rd _ _ h) (r.ext x)
 | .dK h e r=>.dK (x.rd _ _ h) e (r.ext x)
 | .dT h e r=>.dT (x.rd _ _ h) e (r.ext x)
theorem Own.ext(x:Ext A H H')(q:A a):Own A H d a->Own A H' d a
 | .lst h r=>.lst (x.ow _ _ q h) (r.ext x)
 | .dK h e r=>.dK (x.ow _ _ q h) e (r.ext x)
 | .dT h e r=>.dT (x.ow _ _ q h) e (r.ext x)
theorem Own.b:Own A H d a->RepB A H d (.ref a)
 | .lst h r=>.lst (.inl h) r
 | .dK h e r=>.dK (.inl h) e r
 | .dT h e r=>.dT (.inl h) e r
mutual
/-- avoid other things: those that were not there, or fewer -/
theorem Rep.av(x:∀a,A' a->A a\/H a=none):Rep A H d v->Rep A' H d v
 | .non=>.non
 | .bl b=>.bl b
 | .int i=>.int i
 | .str s=>.str s
 | .tup h r=>.tup h (RepL.av x r)
 | .lst n h r=>.lst (λz=>(x _ z).elim n λz=>by rcases h with h|⟨o,h⟩ <;> (rw[z]at h;cases h)) h (RepL.av x r)
 | .dK n h e r=>.dK (λz=>(x _ z).elim n λz=>by rcases h with h|⟨o,h⟩ <;> (rw[z]at h;cases h)) h e (RepL.av x r)
 | .dT n h e r=>.dT (λz=>(x _ z).elim n λz=>by rcases h with h|⟨o,h⟩ <;> (rw[z]at h;cases h)) h e (RepL.av x r)
theorem RepL.av(x:∀a,A' a->A a\/H a=none):RepL A H ds vs->RepL A' H ds vs
 | .nil=>.nil
 | .cons h t=>.cons (Rep.av x h) (RepL.av x t)
end
noncomputable def VQ:HO->Prop
 | .lst _=>True | .dK _=>True | .dT _=>True|_=>False
theorem fG(n:b≠a)(h:Rd H b u):Rd (upd H a o) b u:=by
 rcases h with h|⟨x,h⟩
 ·exact .inl (by rw[aE n];exact h)
 ·exact .inr ⟨x,by rw[aE n];exact h⟩
mutual
theorem Rep.put(q:A a)(B:H a=some u)(ob:VQ u):Rep A H d v->Rep A (upd H a o) d v
 | .non=>.non
 | .bl b=>.bl b
 | .int i=>.int i
 | .str s=>.str s
 | .tup (a:=b) h r=>.tup (by rw[aE (λz=>by subst z;rw[B]at h;cases h;exact ob)];exact h) (RepL.put q B ob r)
 | .lst (a:=b) n h r=>.lst n (fG (λz=>n (by rw[z];exact q)) h) (RepL.put q B ob r)
 | .dK (a:=b) n h e r=>.dK n (fG (λz=>n (by rw[z];exact q)) h) e (RepL.put q B ob r)
 | .dT (a:=b) n h e r=>.dT n (fG (λz=>n (by rw[z];exact q)) h) e (RepL.put q B ob r)
theorem RepL.put(z:A a)(q:H a=some u)(ob:VQ u):RepL A H ds vs->RepL A (upd H a o) ds vs
 | .nil=>.nil
 | .cons h t=>.cons (Rep.put z q ob h) (RepL.put z q ob t)
end
theorem Own.put{A:Av}{H:Hp}{a b:Addr}{o u:HO}(z:A a)(q:H a=some u)(ob:VQ u)(B:b≠a){d:D}:Own A H d b->Own A (upd H a o) d b
 | .lst h r=>.lst (by rw[aE B];exact h) (r.put z q ob)
 | .dK h e r=>.dK (by rw[aE B];exact h) e (r.put z q ob)
 | .dT h e r=>.dT (by rw[aE B];exact h) e (r.put z q ob)
theorem Own.av(x:∀a,A' a->A a\/H a=none):Own A H d a->Own A' H d a
 | .lst h r=>.lst h (r.av x)
 | .dK h e r=>.dK h e (r.av x)
 | .dT h e r=>.dT h e (r.av x)
theorem Own.rep(n:¬ A a):Own A H d a->Rep A H d (.ref a)
 | .lst h r=>.lst n (.inl h) r
 | .dK h e r=>.dK n (.inl h) e r
 | .dT h e r=>.dT n (.inl h) e r
section
variable {A:Av}{H:Hp}
theorem RepL.length:∀ {ds:List D} {vs:List V},RepL A H ds vs->vs.length=ds.length
 | _,_,.nil=>rfl
 | _,_,.cons _ t=>by rw[za3,za3,RepL.length t]
theorem RepL.get:∀ {ds:List D} {vs:List V} {i:Nat} {v:V},RepL A H ds vs->vs[i]?=some v->∃d,ds[i]?=some d/\Rep A H d v
 | _,_,i,v,.nil,e=>by simp at e
 | _,_,0,v,.cons h t,e=>by simp at e;subst e;exact⟨_,rfl,h⟩
 | _,_,i+1,v,.cons h t,e=>RepL.get (i:=i) t (by simpa using e)
theorem RepL.get':∀ {ds:List D} {vs:List V} {i:Nat} {d:D},RepL A H ds vs->ds[i]?=some d->∃v,vs[i]?=some v/\Rep A H d v
 | _,_,i,v,.nil,e=>by simp at e
 | _,_,0,v,.cons h t,e=>by simp at e;subst e;exact⟨_,rfl,h⟩
 | _,_,i+1,v,.cons h t,e=>RepL.get' (i:=i) t (by simpa using e)
theorem RepL.append:∀ {ds es:List D} {vs us:List V},RepL A H ds vs->RepL A H es us->RepL A H (ds++es) (vs++us)
 | _,_,_,_,.nil,s=>s
 | _,_,_,_,.cons h t,s=>.cons h (RepL.append t s)
theorem RepL.take:∀ {ds:List D} {vs:List V} (n:Nat),RepL A H ds vs->RepL A H (ds.take n) (vs.take n)
 | _,_,0,_=>by simp;exact .nil
 | _,_,n+1,.nil=>.nil
 | _,_,n+1,.cons h t=>.cons h (RepL.take n t)
theorem RepL.drop:∀ {ds:List D} {vs:List V} (n:Nat),RepL A H ds vs->RepL A H (ds.drop n) (vs.drop n)
 | _,_,0,r=>r
 | _,_,n+1,.nil=>.nil
 | _,_,n+1,.cons h t=>RepL.drop n t
theorem RepL.set:∀ {ds:List D} {vs:List V} {d:D} {v:V} (n:Nat),Rep A H d v->RepL A H ds vs->RepL A H (ds.set n d) (vs.set n v)
 | _,_,_,_,_,_,.nil=>.nil
 | _,_,_,_,0,r,.cons h t=>.cons r t
 | _,_,_,_,n+1,r,.cons h t=>.cons h (RepL.set n r t)
theorem Rep.b(h:Rep A H d v):RepB A H d v:=.of h
theorem RepB.int_inv(h:RepB A H (.int i) v):v=.int i:=by cases h with|of h=>cases h;rfl
theorem RepB.bl_inv(h:RepB A H (.bl i) v):v=.bl i:=by cases h with|of h=>cases h;rfl
theorem RepB.str_inv(h:RepB A H (.str i) v):v=.str i:=by cases h with|of h=>cases h;rfl
theorem RepB.non_inv(h:RepB A H .non v):v=.non:=by cases h with|of h=>cases h;rfl
theorem RepB.tup_inv(h:RepB A H (.tup l) v):∃a xs,v=.ref a/\H a=some (.tup xs)/\RepL A H l xs:=by
 cases h with|of h=>cases h with|tup h r=>exact⟨_,_,rfl,h,r⟩
theorem RepB.lst_inv(h:RepB A H (.lst l) v):∃a xs,v=.ref a/\Rd H a (.lst xs)/\RepL A H l xs:=by
 cases h with
 | of h=>cases h with|lst n h r=>exact⟨_,_,rfl,h,r⟩
 | lst h r=>exact⟨_,_,rfl,h,r⟩
theorem RepB.dK_inv(h:RepB A H (.dK l) v):∃a xs,v=.ref a/\Rd H a (.dK xs)/\xs.map (·.1)=l.map (·.1)/\RepL A H (l.map (·.2)) (xs.map (·.2)):=by
 cases h with
 | of h=>cases h with|dK n h e r=>exact⟨_,_,rfl,h,e,r⟩
 | dK h e r=>exact⟨_,_,rfl,h,e,r⟩
theorem RepB.dT_inv(h:RepB A H (.dT l) v):∃a xs,v=.ref a/\Rd H a (.dT xs)/\xs.map (·.1)=l.map (·.1)/\RepL A H (l.map (·.2)) (xs.map (·.2)):=by
 cases h with
 | of h=>cases h with|dT n h e r=>exact⟨_,_,rfl,h,e,r⟩
 | dT h e r=>exact⟨_,_,rfl,h,e,r⟩
end
abbrev dB:=List (Option D)
inductive Fact where
 | rep (d:D) (v:V)|fz (a:Addr) (o:Obj) (u:HO)
def Fact.Holds(A:Av)(H:Hp):Fact->Prop
 | .rep d v=>Rep A H d v
 | .fz a o u=>H a=some (.frz o u)
theorem Fact.ext(x:Ext A H H'):∀ {p:Fact},p.Holds A H->p.Holds A H'
 | .rep _ _,h=>Rep.ext x h
 | .fz _ _ _,h=>x.fz _ _ _ h
theorem Fact.av(x:∀a,A' a->A a\/H a=none):∀ {p:Fact},p.Holds A H->p.Holds A' H
 | .rep _ _,h=>Rep.av x h
 | .fz _ _ _,h=>h
theorem Fact.put(F:A a)(B:H a=some u)(ob:VQ u):∀ {p:Fact},p.Holds A H->p.Holds A (upd H a o)
 | .rep _ _,h=>Rep.put F B ob h
 | .fz b q w,h=>by
  have h:H b=some (.frz q w):=h;show upd H a o b=some (.frz q w);rw[aE (λz=>by subst z;rw[B]at h;cases h;exact ob)];exact h
structure ST(H0:Hp)(A0 A:Av)(E:List Fact)(O:List Nat)(σ:L2.St)(H:Hp)(ρ:dB):Prop where
 ex:Ext A0 H0 H
 sub:∀a,A0 a->A a
 l0:∀a,A0 a->H0 a≠none
 live:∀a,A a->H a≠none
 len:σ.length=ρ.length
 val:∀i d,ρ[i]?=some (some d)->i∉O->∃v,σ[i]?=some (some v)/\Rep A H d v
 own:∀i d,ρ[i]?=some (some d)->i∈O->∃a,σ[i]?=some (some (.ref a))/\A a/\H0 a=none/\Own A H d a
 inj:∀i j d d' a,i∈O->j∈O->ρ[i]?=some (some d)->ρ[j]?=some (some d')->σ[i]?=some (some (.ref a))->σ[j]?=some (some (.ref a))->i=j
 ext:∀p∈E,p.Holds A H
section
variable {H0:Hp}{A0 A:Av}{E:List Fact}{O:List Nat}{σ:L2.St}{H H':Hp}{ρ:dB}
theorem ST.mono(s:ST H0 A0 A E O σ H ρ)(x:Ext A H H'):ST H0 A0 A E O σ H' ρ where
 ex:=s.ex.trans (x.mono s.sub)
 sub:=s.sub
 l0:=s.l0
 live:=λa q=>by
  have:=s.live a q;cases e:H a with
  | none=>exact absurd e this
  | some u=>rw[x.ow a u q e];exact λz=>nomatch z
 len:=s.len
 val:=λi d h n=>by obtain⟨v,h1,h2⟩:=s.val i d h n;exact⟨v,h1,h2.ext x⟩
 own:=λi d h n=>by obtain⟨a,h1,h2,B,G⟩:=s.own i d h n;exact⟨a,h1,h2,B,G.ext x h2⟩
 inj:=s.inj
 ext:=λp F=>Fact.ext x (s.ext p F)
theorem ST.more(s:ST H0 A0 A E O σ H ρ)(h:Rep A H d v):ST H0 A0 A (.rep d v::E) O σ H ρ:=
 {s with ext:=λp q=>by rcases List.mem_cons.mp q with e|e;rw[e];exact h;exact s.ext p e}
theorem ST.less(s:ST H0 A0 A E O σ H ρ)(h:∀p∈E',p∈E):ST H0 A0 A E' O σ H ρ:=
 {s with ext:=λp q=>s.ext p (h p q)}
theorem dO(h:(ρ.set i o)[j]?=some (some d)):(j=i/\o=some d/\i<ρ.length)\/(j≠i/\ρ[j]?=some (some d)):=by
 rw[List.getElem?_set]at h;by_cases e:i=j
 ·rw[if_pos e]at h
  by_cases l:i<ρ.length
  ·rw[if_pos l]at h
   exact .inl ⟨e.symm,zaD h,l⟩
  ·rw[if_neg l]at h;cases h
 ·rw[if_neg e]at h
  exact .inr ⟨λz=>e z.symm,h⟩
theorem sig_set(h:i<σ.length):(σ.set i (some v))[i]?=some (some v):=by simp[h]
theorem j6(h:j≠i):(σ.set i (some v))[j]?=σ[j]?:=by rw[zdG (zaS h)]
theorem ST.put(s:ST H0 A0 A E O σ H ρ)(h:Rep A H d v)(n:i∉O):ST H0 A0 A E O (σ.set i (some v)) H (ρ.set i (some d)) where
 ex:=s.ex
 sub:=s.sub
 l0:=s.l0
 live:=s.live
 len:=by simp[s.len]
 val:=λj d' h' B=>by
  rcases dO h' with⟨e,q,l⟩|⟨e,q⟩
  ·subst e;cases q;exact⟨v,sig_set (by rw[s.len];exact l),h⟩
  ·obtain⟨w,h1,h2⟩:=s.val j d' q B;exact⟨w,by rw[j6 e];exact h1,h2⟩
 own:=λj d' h' B=>by
  rcases dO h' with⟨e,q,l⟩|⟨e,q⟩
  ·subst e;exact absurd B n
  ·obtain⟨w,h1,h2⟩:=s.own j d' q B;exact⟨w,by rw[j6 e];exact h1,h2⟩
 inj:=λj k d1 d2 a J U h1 h2 M G=>by
  have F:j≠i:=λz=>n (z ▸ J)
  have N:k≠i:=λz=>n (z ▸ U)
  rcases dO h1 with⟨e,_⟩|⟨_,h1⟩
  ·exact absurd e F
  rcases dO h2 with⟨e,_⟩|⟨_,h2⟩
  ·exact absurd e N
  exact s.inj j k d1 d2 a J U h1 h2 (by rw[j6 F]at M;exact M) (by rw[j6 N]at G;exact G)
 ext:=s.ext
theorem ST.shut(s:ST H0 A0 A E O σ H ρ)(h:∀i,i∈O'->i∈O):∃A',ST H0 A0 A' E O' σ H ρ:=by
 let F:Av:=λa=>∃i d,i∈O/\i∉O'/\ρ[i]?=some (some d)/\σ[i]?=some (some (.ref a))
 have cut:∀a,(A a/\¬ F a)->A a\/H a=none:=λa z=>.inl z.1
 refine⟨λa=>A a/\¬ F a,s.ex,λa J=>⟨s.sub a J,?_⟩,s.l0,λa J=>s.live a J.1,s.len,λi d hi n=>?_,λi d hi n=>?_,λi j d d' a hi Y=>s.inj i j d d' a (h i hi) (h j Y),λp hp=>Fact.av cut (s.ext p hp)⟩
 ·rintro⟨i,d,h1,h2,U,N⟩
  obtain⟨b,q,B,M,G⟩:=s.own i d U h1;rw[N]at q;cases q;exact s.l0 a J M
 ·by_cases W:i∈O
  ·obtain⟨a,q,B,M,G⟩:=s.own i d hi W
   exact⟨.ref a,q,(G.av cut).rep λz=>z.2 ⟨i,d,W,n,hi,q⟩⟩
  ·obtain⟨v,q,B⟩:=s.val i d hi W
   exact⟨v,q,B.av cut⟩
 ·obtain⟨a,q,B,M,G⟩:=s.own i d hi (h i n)
  refine⟨a,q,⟨B,?_⟩,M,G.av cut⟩;rintro⟨j,d',h1,h2,U,N⟩;have:=s.inj i j d d' a (h i n) h1 hi U q N;subst this;exact h2 n
end
abbrev Ev:=dB->Option D
abbrev Bv:=dB->Option Bool
abbrev Lv:=dB->Option (List D)
abbrev RR:=Av->Hp->D->V->Prop
inductive tD(R:RR)(O:List Nat)(f:Ev)(σ:L2.St)(H:Hp)(Q:VK):Prop
 | mk (H0:Hp) (A0 A:Av) (E:List Fact) (ρ:dB) (d:D) (st:ST H0 A0 A E O σ H ρ) (e:f ρ=some d) (q:∀v H',Ext A H H'->R A H' d v->Q v H'):tD R O f σ H Q
inductive tDT(O:List Nat)(g:Bv)(σ:L2.St)(H:Hp)(Q:Bool->Hp->Prop):Prop
 | mk (H0:Hp) (A0 A:Av) (E:List Fact) (ρ:dB) (b:Bool) (st:ST H0 A0 A E O σ H ρ) (e:g ρ=some b) (q:∀H',Ext A H H'->Q b H'):tDT O g σ H Q
def PD(X:Cx)(O:List Nat)(e:Expr)(f:Ev):Prop:=PE X e (tD Rep O f)
def PB(X:Cx)(O:List Nat)(e:Expr)(f:Ev):Prop:=PE X e (tD RepB O f)
def nQ(X:Cx)(O:List Nat)(e:Expr)(g:Bv):Prop:=PT X e (tDT O g)
def PDW(X:Cx)(O:List Nat)(e:Expr)(g:Bv):Prop:=PW X e (tDT O g)
theorem PDW.pt(h:PDW X O e g):nQ X O e g:=PW.pt h
inductive RL(R:RR)(A:Av)(H:Hp):List D->List V->Prop where
 | nil:RL R A H [] []
 | cons {d v ds vs} (h:R A H d v) (t:RL R A H ds vs):RL R A H (d::ds) (v::vs)
inductive tDA(R:RR)(O:List Nat)(f:Lv)(σ:L2.St)(H:Hp)(Q:List V->Hp->Prop):Prop
 | mk (H0:Hp) (A0 A:Av) (E:List Fact) (ρ:dB) (ds:List D) (st:ST H0 A0 A E O σ H ρ) (e:f ρ=some ds) (q:∀vs H',Ext A H H'->RL R A H' ds vs->Q vs H'):tDA R O f σ H Q
def zX(X:Cx)(O:List Nat)(es:List Expr)(f:Lv):Prop:=PA X es (tDA Rep O f)
def oK(X:Cx)(O:List Nat)(es:List Expr)(f:Lv):Prop:=PA X es (tDA RepB O f)
section
variable {X:Cx}{O:List Nat}
theorem PE.mono(h:PE X e t)(x:∀σ H Q,t' σ H Q->t σ H Q):PE X e t':=λpins s σ H Q I w=>h pins s σ H Q I (x σ H Q w)
theorem PT.mono(h:PT X e t)(x:∀σ H Q,t' σ H Q->t σ H Q):PT X e t':=λpins s σ H Q I w=>h pins s σ H Q I (x σ H Q w)
theorem PW.mono(h:PW X e t)(x:∀σ H Q,t' σ H Q->t σ H Q):PW X e t':=λq pins s σ H Q I w=>h q pins s σ H Q I (x σ H Q w)
theorem PA.mono(h:PA X es t)(x:∀σ H Q,t' σ H Q->t σ H Q):PA X es t':=λpos pins s σ H Q I w=>h pos pins s σ H Q I (x σ H Q w)
theorem PD.b{e:Expr}{f:Ev}(h:PD X O e f):PB X O e f:=PE.mono h λσ H Q ⟨H0,A0,A,E,ρ,d,st,e,q⟩=>⟨H0,A0,A,E,ρ,d,st,e,λv H' x r=>q v H' x (.of r)⟩
theorem RL.toL:∀ {ds:List D} {vs:List V},RL Rep A H ds vs->RepL A H ds vs
 | _,_,.nil=>.nil
 | _,_,.cons h t=>.cons h (RL.toL t)
def aB(i:Nat):Ev:=λρ=>(ρ[i]?).join
def eC(d:D):Ev:=λ_=>some d
theorem cR{ρ:dB}{i:Nat}{d:D}(h:(ρ[i]?).join=some d):ρ[i]?=some (some d):=by
 cases e:ρ[i]? with
 | none=>rw[e]at h;cases h
 | some o=>rw[e]at h;cases o with
  | none=>cases h
  | some x=>cases h;rfl
theorem Q2{e:Expr}(i:Nat)(h:PE X e (wM i))(n:i∉O):PD X O e (aB i):=PE.mono h <| by
 rintro σ H Q ⟨H0,A0,A,E,ρ,d,st,e,q⟩;obtain⟨v,z,r⟩:=st.val i d (cR e) n;exact⟨v,z,q v H (Ext.refl _ _) r⟩
theorem TU{e:Expr}(i:Nat)(h:PE X e (wM i)):PB X O e (aB i):=PE.mono h <| by
 rintro σ H Q ⟨H0,A0,A,E,ρ,d,st,e,q⟩;by_cases n:i∈O
 ·obtain⟨a,z,_,_,r⟩:=st.own i d (cR e) n
  exact⟨_,z,q _ H (Ext.refl _ _) r.b⟩
 ·obtain⟨v,z,r⟩:=st.val i d (cR e) n
  exact⟨v,z,q v H (Ext.refl _ _) (.of r)⟩
theorem QO{i j pos}:PD X O (.Constant (.int i) j pos) (eC (.int i)):=PE.mono UN λσ H Q ⟨H0,A0,A,E,ρ,d,st,e,q⟩=>by cases e;exact q _ H (Ext.refl _ _) (.int _)
theorem W8{i j pos}:PD X O (.Constant (.bool i) j pos) (eC (.bl i)):=PE.mono V2 λσ H Q ⟨H0,A0,A,E,ρ,d,st,e,q⟩=>by cases e;exact q _ H (Ext.refl _ _) (.bl _)
theorem TB{i j pos}:PD X O (.Constant (.str i) j pos) (eC (.str i)):=PE.mono RD λσ H Q ⟨H0,A0,A,E,ρ,d,st,e,q⟩=>by cases e;exact q _ H (Ext.refl _ _) (.str _)
theorem SS{j pos}:PD X O (.Constant .none j pos) (eC .non):=PE.mono UJ λσ H Q ⟨H0,A0,A,E,ρ,d,st,e,q⟩=>by cases e;exact q _ H (Ext.refl _ _) .non
def Live(A:Av)(H:Hp):Prop:=∀a,A a->H a≠none
theorem Live.ext(l:Live A H)(x:Ext A H H'):Live A H':=λa q=>by
 cases e:H a with
 | none=>exact absurd e (l a q)
 | some u=>rw[x.ow a u q e];exact λz=>nomatch z
inductive rD(g:D->D->Option D)(x y:V)(H:Hp)(Q:VK):Prop
 | mk (A:Av) (dx dy d:D) (lv:Live A H) (rx:RepB A H dx x) (ry:RepB A H dy y) (e:g dx dy=some d) (q:∀v H',Ext A H H'->Rep A H' d v->Q v H'):rD g x y H Q
def gE(X:Cx)(f:Value->Value->Sem Value)(g:D->D->Option D):Prop:=OpR X f (rD g)
theorem OpR.mono(h:OpR X f r)(x:∀a b H Q,r' a b H Q->r a b H Q):OpR X f r':=λpins s σ H a b v u Q I q z w=>h pins s σ H a b v u Q I q z (x a b H Q w)
def aY(g:D->D->Option D)(z q:Ev):Ev:=λρ=>(z ρ).bind λx=>(q ρ).bind λy=>g x y
theorem bind_some{z q:Type}{o:Option z}{f:z->Option q}{b:q}(h:o.bind f=some b):∃a,o=some a/\f a=some b:=by
 cases o with
 | none=>cases h
 | some a=>exact⟨a,rfl,h⟩
theorem wL{g:D->D->Option D}{J G:Ev}{σ:L2.St}{H:Hp}{Q:VK}(h:tD Rep O (aY g J G) σ H Q):VS (rD g) (tD RepB O J) (tD RepB O G) σ H Q:=by
 obtain⟨H0,A0,A,E,ρ,d,st,e,q⟩:=h;obtain⟨x,ex,e⟩:=bind_some e;obtain⟨y,M,e⟩:=bind_some e;exact⟨H0,A0,A,E,ρ,x,st,ex,λv H1 F r1=>⟨H0,A0,A,E,ρ,y,st.mono F,M,λw H2 B N=>⟨A,x,y,d,(st.mono (F.trans B)).live,r1.ext B,N,e,λz Y W U=>q z Y ((F.trans B).trans W) U⟩⟩⟩
theorem P6(q:gE X (zaV op) g)(z:PB X O a fa)(B:PB X O b fb):PD X O (.BinOp a op b pos) (aY g fa fb):=
 PE.mono (PR q z B) λσ H Q h=>wL h
theorem RE(z:gE X (zaq op) g)(B:PB X O a fa)(F:PB X O b fb)(q:zcd op b=false):PD X O (.Compare a [op] [b] pos) (aY g fa fb):=
 PE.mono (OG z B F q) λσ H Q h=>wL h
noncomputable def CH:D->Option Bool
 | .bl b=>some b
 | _=>none
theorem f7(h:CH d=some b):d=.bl b:=by
 cases d <;> cases h;rfl
def eM(f:Ev):Bv:=λρ=>(f ρ).bind CH
theorem iB{f:Ev}{σ:L2.St}{H:Hp}{Q:Bool->Hp->Prop}(h:tDT O (eM f) σ H Q):tD Rep O f σ H λx H'=>∃k,x=.bl k/\Q k H':=by
 obtain⟨H0,A0,A,E,ρ,b,st,e,q⟩:=h;obtain⟨x,ex,e⟩:=bind_some e;rw[f7 e]at ex;exact⟨H0,A0,A,E,ρ,_,st,ex,λv H1 B z=>⟨b,RepB.bl_inv (.of z),q H1 B⟩⟩
theorem vN(z:gE X (zaq op) g)(B:PB X O a fa)(F:PB X O b fb)(q:zcd op b=false):nQ X O (.Compare a [op] [b] pos) (eM (aY g fa fb)):=
 PT.mono (DT z B F q) λσ H Q h=>wL (iB h)
theorem OK(h:PD X O e f)(z:∀q,isTrue e X.env q=(do let v <- q;standAt e.pos;zcq [v] (truthy v)):=by intro _;rfl):nQ X O e (eM f):=
 PT.mono (RC h z) λσ H Q h=>iB h
def B8(g:Bv):Bv:=λρ=>(g ρ).map (!·)
def wN(g h:Bv):Bv:=λρ=>(g ρ).bind λb=>if b=true then h ρ else some false
def VP(g h:Bv):Bv:=λρ=>(g ρ).bind λb=>if b=true then some true else h ρ
theorem L5(h:nQ X O a g):nQ X O (.UnaryOp .Not a pos) (B8 g):=PT.mono (S3 h) <| by
 rintro σ H Q ⟨H0,A0,A,E,ρ,b,st,e,q⟩;unfold B8 at e;cases z:g ρ with
 | none=>rw[z]at e;cases e
 | some c=>rw[z]at e;cases e;exact⟨H0,A0,A,E,ρ,c,st,z,q⟩
theorem HV(h:nQ X O a g):PDW X O (.BoolOp .And [a] pos) g:=NO h
theorem NF(h:nQ X O a g):PDW X O (.BoolOp .Or [a] pos) g:=T8 h
theorem M8{a b:Expr}{rest:List Expr}{pos:Pos}{g k:Bv}(F:nQ X O a g)(G:PDW X O (.BoolOp .And (b::rest) pos) k):PDW X O (.BoolOp .And (a::b::rest) pos) (wN g k):=
 PW.mono (UY F G) <| by
  rintro σ H Q ⟨H0,A0,A,E,ρ,b,st,e,q⟩;obtain⟨x,ex,e⟩:=bind_some e;refine⟨H0,A0,A,E,ρ,x,st,ex,λH1 z=>?_⟩;cases x with
  | false=>rw[if_neg zaw]at e ⊢;cases e;exact q H1 z
  | true=>rw[if_pos rfl]at e ⊢;exact⟨H0,A0,A,E,ρ,b,st.mono z,e,λH2 B=>q H2 (z.trans B)⟩
theorem T6{a b:Expr}{rest:List Expr}{pos:Pos}{g k:Bv}(F:nQ X O a g)(G:PDW X O (.BoolOp .Or (b::rest) pos) k):PDW X O (.BoolOp .Or (a::b::rest) pos) (VP g k):=
 PW.mono (W6 F G) <| by
  rintro σ H Q ⟨H0,A0,A,E,ρ,b,st,e,q⟩;obtain⟨x,ex,e⟩:=bind_some e;refine⟨H0,A0,A,E,ρ,x,st,ex,λH1 z=>?_⟩;cases x with
  | true=>rw[if_pos rfl]at e ⊢;cases e;exact q H1 z
  | false=>rw[if_neg zaw]at e ⊢;exact⟨H0,A0,A,E,ρ,b,st.mono z,e,λH2 B=>q H2 (z.trans B)⟩
def sY(f g:Ev):Ev:=λρ=>(f ρ).bind λx=>(CH x).bind λb=>if b=true then g ρ else some (.bl false)
def YC(f:Ev):Ev:=λρ=>(f ρ).bind λx=>(CH x).map λb=>.bl (!b)
def eIf(c:Bv)(f g:Ev):Ev:=λρ=>(c ρ).bind λb=>if b=true then f ρ else g ρ
theorem RQ{op}(h:PD X O a f):PD X O (.BoolOp op [a] pos) f:=RU h
theorem RN{a b:Expr}{rest:List Expr}{pos:Pos}{f g:Ev}(G:PD X O a f)(B:PD X O (.BoolOp .And (b::rest) pos) g):PD X O (.BoolOp .And (a::b::rest) pos) (sY f g):=
 PE.mono (TV G B) <| by
  rintro σ H Q ⟨H0,A0,A,E,ρ,d,st,e,q⟩;obtain⟨x,ex,e⟩:=bind_some e;obtain⟨b,J,e⟩:=bind_some e;rw[f7 J]at ex;refine⟨H0,A0,A,E,ρ,_,st,ex,λv H1 z M=>⟨b,RepB.bl_inv (.of M),?_⟩⟩;cases b with
  | false=>rw[if_neg zaw]at e ⊢;cases e;exact q _ H1 z (.bl _)
  | true=>rw[if_pos rfl]at e ⊢;exact⟨H0,A0,A,E,ρ,d,st.mono z,e,λw H2 F=>q w H2 (z.trans F)⟩
theorem Q7{a:Expr}{pos:Pos}{f:Ev}(F:PD X O a f):PD X O (.UnaryOp .Not a pos) (YC f):=
 PE.mono (UC F) <| by
  rintro σ H Q ⟨H0,A0,A,E,ρ,d,st,e,q⟩;obtain⟨x,ex,e⟩:=bind_some e;cases z:CH x with
  | none=>rw[z]at e;cases e
  | some b=>
   rw[z]at e;cases e;rw[f7 z]at ex;exact⟨H0,A0,A,E,ρ,_,st,ex,λv H1 G B=>⟨b,RepB.bl_inv (.of B),q _ H1 G (.bl _)⟩⟩
theorem WY{c a b:Expr}{pos:Pos}{g:Bv}{f k:Ev}(J:nQ X O c g)(G:PD X O a f)(F:PD X O b k):PD X O (.IfExp c a b pos) (eIf g f k):=
 PE.mono (IH J G F) <| by
  rintro σ H Q ⟨H0,A0,A,E,ρ,d,st,e,q⟩;obtain⟨b,M,e⟩:=bind_some e;refine⟨H0,A0,A,E,ρ,b,st,M,λH1 z=>?_⟩;cases b with
  | true=>rw[if_pos rfl]at e ⊢;exact⟨H0,A0,A,E,ρ,d,st.mono z,e,λw H2 B=>q w H2 (z.trans B)⟩
  | false=>rw[if_neg zaw]at e ⊢;exact⟨H0,A0,A,E,ρ,d,st.mono z,e,λw H2 B=>q w H2 (z.trans B)⟩
def gN(g g':D->D->Option D)(F q B:Ev):Ev:=λρ=>(F ρ).bind λx=>(q ρ).bind λy=>(g x y).bind λz=>(CH z).bind λb=>if b=true then(B ρ).bind λw=>g' y w else some (.bl false)
end
section
variable {X:Cx}{O:List Nat}
theorem t4(h:tD Rep O (gN g g' fa fb fc) σ H Q):B4 (rD g) (rD g') (tD RepB O fa) (tD RepB O fb) (tD RepB O fc) σ H Q:=by
 obtain⟨H0,A0,A,E,ρ,d,st,e,q⟩:=h;obtain⟨x,ex,e⟩:=bind_some e;obtain⟨y,ey,e⟩:=bind_some e;obtain⟨z,N,e⟩:=bind_some e;obtain⟨b,eb,e⟩:=bind_some e;rw[f7 eb]at N;refine⟨H0,A0,A,E,ρ,x,st,ex,λv H1 F r1=>⟨H0,A0,A,E,ρ,y,st.mono F,ey,λw H2 J U=>⟨A,x,y,_,(st.mono (F.trans J)).live,r1.ext J,U,N,λz H3 M Y=>⟨b,RepB.bl_inv (.of Y),?_⟩⟩⟩⟩;have B:=(F.trans J).trans M;cases b with
 | false=>rw[if_neg zaw]at e ⊢;cases e;exact q _ H3 B (.bl _)
 | true=>
  rw[if_pos rfl]at e ⊢;obtain⟨u,eu,e⟩:=bind_some e;exact⟨H0,A0,A,E,ρ,u,st.mono B,eu,λz' H4 G r4=>⟨A,y,u,d,(st.mono (B.trans G)).live,U.ext (M.trans G),r4,e,λz2 H5 W r5=>q z2 H5 ((B.trans G).trans W) r5⟩⟩
theorem IA(z:gE X (zaq op) g)(q:gE X (zaq op') g')(G:PB X O a fa)(B:PB X O b fb)(J:PB X O c fc)
  (F:zcU [op,op'] [b,c]=false:=by with_unfolding_all rfl):PD X O (.Compare a [op,op'] [b,c] pos) (gN g g' fa fb fc):=PE.mono (GY z q G B J F) λσ H Q h=>t4 h
theorem FP(z:gE X (zaq op) g)(q:gE X (zaq op') g')(G:PB X O a fa)(B:PB X O b fb)(J:PB X O c fc)
  (F:zcU [op,op'] [b,c]=false:=by with_unfolding_all rfl):nQ X O (.Compare a [op,op'] [b,c] pos) (eM (gN g g' fa fb fc)):=PT.mono (IU z q G B J F) λσ H Q h=>t4 (iB h)
def aT:Lv:=λ_=>some []
def aC(f:Ev)(g:Lv):Lv:=λρ=>(f ρ).bind λx=>(g ρ).bind λxs=>some (x::xs)
theorem MK:zX X O [] aT:=PA.mono mD λσ H Q ⟨H0,A0,A,E,ρ,d,st,e,q⟩=>by cases e;exact q [] H (Ext.refl _ _) .nil
theorem CV:oK X O [] aT:=PA.mono mD λσ H Q ⟨H0,A0,A,E,ρ,d,st,e,q⟩=>by cases e;exact q [] H (Ext.refl _ _) .nil
theorem zI(J:∀A H H' d v,Ext A H H'->R A H d v->R A H' d v)(h:tDA R O (aC f g) σ H Q):D9 (tD R O f) (tDA R O g) σ H Q:=by
 obtain⟨H0,A0,A,E,ρ,d,st,e,q⟩:=h;obtain⟨x,ex,e⟩:=bind_some e;obtain⟨xs,z,e⟩:=bind_some e;cases e;exact⟨H0,A0,A,E,ρ,x,st,ex,λv H1 F M=>⟨H0,A0,A,E,ρ,xs,st.mono F,z,λvs H2 B G=>q (v::vs) H2 (F.trans B) (.cons (J _ _ _ _ _ B M) G)⟩⟩
theorem IP(z:PD X O e f)(q:zX X O es g)(hs:zah (e::es) X.env=(false,eval e X.env)::zah es X.env:=by rfl):zX X O (e::es) (aC f g):=
 PA.mono (gK z q hs) λσ H Q h=>zI (λ_ _ _ _ _ x r=>r.ext x) h
theorem zB(z:PB X O e f)(q:oK X O es g)(hs:zah (e::es) X.env=(false,eval e X.env)::zah es X.env:=by rfl):oK X O (e::es) (aC f g):=
 PA.mono (gK z q hs) λσ H Q h=>zI (λ_ _ _ _ _ x r=>r.ext x) h
inductive tF(O:List Nat)(f:Ev)(σ:L2.St)(H:Hp)(Q:VK):Prop
 | mk (H0:Hp) (A0 A:Av) (E:List Fact) (ρ:dB) (d:D) (st:ST H0 A0 A E O σ H ρ) (e:f ρ=some d) (q:∀a H',Ext A H H'->H a=none->¬ A a->Own (λb=>A b\/b=a) H' d a->Q (.ref a) H'):tF O f σ H Q
def PF(X:Cx)(O:List Nat)(e:Expr)(f:Ev):Prop:=PE X e (tF O f)
theorem PF.d(h:PF X O e f):PD X O e f:=PE.mono h λσ H Q ⟨H0,A0,A,E,ρ,d,st,e,q⟩=>
 ⟨H0,A0,A,E,ρ,d,st,e,λa H' x n z o=>q _ H' x ((o.av (A':=A) λb B=>.inl (.inl B)).rep z)⟩
theorem RepL.fresh(n:H p=none)(r:RepL A H ds vs):RepL (λb=>A b\/b=p) (upd H p o) ds vs:=by
 have z:RepL (λb=>A b\/b=p) H ds vs:=r.av λb q=>by
  rcases q with q|q
  ·exact .inl q
  ·exact .inr (q ▸ n)
 exact z.ext (Ext.new n)
theorem Ext.free(x:Ext A H H')(n:H' p=none):H p=none:=by
 cases e:H p with
 | none=>rfl
 | some u=>rcases x.rd p u (.inl e)with h|⟨o,h⟩ <;> (rw[n]at h;cases h)
def fP(g:Lv):Ev:=λρ=>(g ρ).map .tup
def tE(g:Lv):Ev:=λρ=>(g ρ).map .lst
theorem RL.length:∀ {ds:List D} {vs:List V},RL R A H ds vs->vs.length=ds.length
 | _,_,.nil=>rfl
 | _,_,.cons _ t=>by rw[za3,za3,RL.length t]
noncomputable def aZ(n:Nat):Bool:=decide (n<=1000000)
theorem gM(h:aZ n=true):n<=zaj:=zbe (of_decide_eq_true h) (by decide)
theorem oD(h:aZ n=true):n<zaj:=zd0 (of_decide_eq_true h) (by decide)
theorem map_some{z q:Type}{o:Option z}{f:z->q}{b:q}(h:o.map f=some b):∃a,o=some a/\f a=b:=by
 cases o with
 | none=>cases h
 | some a=>exact⟨a,rfl,zaD h⟩
def Len(g:Lv)(n:Nat):Prop:=∀ρ ds,g ρ=some ds->ds.length=n
theorem OE:Len aT 0:=λρ ds h=>by cases h;rfl
theorem GZ(h:Len g n):Len (aC f g) (n+1):=λρ ds e=>by
 obtain⟨x,ex,e⟩:=bind_some e;obtain⟨xs,q,e⟩:=bind_some e;cases e;rw[za3,h ρ xs q]
theorem JN{es:List Expr}{z}{pos:Pos}{g:Lv}(h:zX X O es g)(J:∀ρ ds,g ρ=some ds->ds.length<=100):PD X O (.Tuple es z pos) (fP g):=PE.mono (Q8 h) <| by
 rintro σ H Q ⟨H0,A0,A,E,ρ,d,st,e,q⟩;obtain⟨ds,B,rfl⟩:=map_some e;refine⟨H0,A0,A,E,ρ,ds,st,B,λvs H1 z G=>⟨by rw[G.length];exact zbe (J ρ ds B) (by decide),λp F=>?_⟩⟩;exact q _ _ (z.trans (Ext.new F)) (.tup aJ (G.toL.ext (Ext.new F)))
theorem JY{es:List Expr}{pos:Pos}{g:Lv}(h:zX X O es g)(M:∀ρ ds,g ρ=some ds->ds.length<=100):PF X O (.List es pos) (tE g):=PE.mono (TL h) <| by
 rintro σ H Q ⟨H0,A0,A,E,ρ,d,st,e,q⟩;obtain⟨ds,G,rfl⟩:=map_some e;refine⟨H0,A0,A,E,ρ,ds,st,G,λvs H1 F J=>⟨by rw[J.length];exact zbe (M ρ ds G) (by decide),λp B=>?_⟩⟩;exact q p _ (F.trans (Ext.new B)) (F.free B) (λz=>(st.mono F).live p z B) (.lst aJ (J.toL.fresh B))
theorem IS:PF X O (.Dict [] [] pos) (eC (.dK [])):=PE.mono IB <| by
 rintro σ H Q ⟨H0,A0,A,E,ρ,d,st,e,q⟩ p B;cases e;exact q p _ (Ext.new B) B (λz=>st.live p z B) (.dK aJ rfl .nil)
theorem k5:PF X O (.Dict [] [] pos) (eC (.dT [])):=PE.mono HN <| by
 rintro σ H Q ⟨H0,A0,A,E,ρ,d,st,e,q⟩ p B;cases e;exact q p _ (Ext.new B) B (λz=>st.live p z B) (.dT aJ rfl .nil)
inductive rC(g:List D->Option D)(xs:List V)(H:Hp)(Q:VK):Prop
 | mk (A:Av) (ds:List D) (d:D) (lv:Live A H) (r:RL RepB A H ds xs) (e:g ds=some d) (q:∀v H',Ext A H H'->Rep A H' d v->Q v H'):rC g xs H Q
inductive rCF(g:List D->Option D)(xs:List V)(H:Hp)(Q:VK):Prop
 | mk (A:Av) (ds:List D) (d:D) (lv:Live A H) (r:RL RepB A H ds xs) (e:g ds=some d) (q:∀a H',Ext A H H'->H a=none->¬ A a->Own (λb=>A b\/b=a) H' d a->Q (.ref a) H'):rCF g xs H Q
def iH(X:Cx)(f:Value)(g:List D->Option D):Prop:=CallR X f (rC g)
def zL(X:Cx)(f:Value)(g:List D->Option D):Prop:=CallR X f (rCF g)
theorem CallR.mono(h:CallR X f r)(x:∀a H Q,r' a H Q->r a H Q):CallR X f r':=λpins s σ H a v Q I q w=>h pins s σ H a v Q I q (x a H Q w)
def aQ(g:List D->Option D)(f:Lv):Ev:=λρ=>(f ρ).bind g
theorem tK(h:tD Rep O (aQ g f) σ H Q):YL (rC g) (tDA RepB O f) σ H Q:=by
 obtain⟨H0,A0,A,E,ρ,d,st,e,q⟩:=h;obtain⟨ds,G,e⟩:=bind_some e;exact⟨H0,A0,A,E,ρ,ds,st,G,λvs H1 z J=>⟨A,ds,d,(st.mono z).live,J,e,λv H2 F B=>q v H2 (z.trans F) B⟩⟩
theorem F9(h:tF O (aQ g f) σ H Q):YL (rCF g) (tDA RepB O f) σ H Q:=by
 obtain⟨H0,A0,A,E,ρ,d,st,e,q⟩:=h;obtain⟨ds,G,e⟩:=bind_some e;exact⟨H0,A0,A,E,ρ,ds,st,G,λvs H1 z J=>⟨A,ds,d,(st.mono z).live,J,e,λa H2 B n F o=>q a H2 (z.trans B) (z.free n) F o⟩⟩
section
variable {x:Str}{id T:String}{g:List D->Option D}{e:Expr}{es:List Expr}{f:Lv}{p pos:Pos}
theorem G4(M:iH X (.builtin id) g)(U:Gl X x)(B:X.mg x=none)(N:zaN x=some (.builtin id))(G:oK X O (e::es) f)(J:x ≠ "__name__" := by decide)(z:(x == ("__debug__" : Str))=false:=by decide)
  (F:zah (e::es) X.env=(false,eval e X.env)::zah es X.env:=by rfl) (q:(zaJ pos (zah es X.env)).any (·.1)=false:=by rfl) :
  PD X O (.Call (.Name x p) (e::es) [] pos) (aQ g f):=PE.mono (rB M U B N G J z F q) λσ H Q h=>tK h
theorem EK(M:iH X (.type T) g)(U:Gl X x)(B:X.mg x=none)(N:zaN x=some (.type T))(G:oK X O (e::es) f)(J:x ≠ "__name__" := by decide)(z:(x == ("__debug__" : Str))=false:=by decide)
  (F:zah (e::es) X.env=(false,eval e X.env)::zah es X.env:=by rfl) (q:(zaJ pos (zah es X.env)).any (·.1)=false:=by rfl) :
  PD X O (.Call (.Name x p) (e::es) [] pos) (aQ g f):=PE.mono (tX M U B N G J z F q) λσ H Q h=>tK h
theorem GG(M:zL X (.type T) g)(U:Gl X x)(B:X.mg x=none)(N:zaN x=some (.type T))(G:oK X O (e::es) f)(J:x ≠ "__name__" := by decide)(z:(x == ("__debug__" : Str))=false:=by decide)
  (F:zah (e::es) X.env=(false,eval e X.env)::zah es X.env:=by rfl) (q:(zaJ pos (zah es X.env)).any (·.1)=false:=by rfl) :
  PF X O (.Call (.Name x p) (e::es) [] pos) (aQ g f):=PE.mono (tX M U B N G J z F q) λσ H Q h=>F9 h
end
def spD(n:Nat)(F:List D->Option D):Sp:=λvs H Q _=>∃A ds d,Live A H/\RepL A H ds vs/\vs.length=n/\F ds=some d/\∀v H',Ext A H H'->Rep A H' d v->Q v H'
def Fn(P:zap)(w:World)(K:zaf)(mg:Str->Option Value)(base:Heap)(x:Str)(k:Nat)(ps:List Str)(F:List D->Option D):Prop:=My.Ok P w K mg base x k ps (spD ps.length F)
theorem Fn.mono{P:zap}{w:World}{K:zaf}{mg:Str->Option Value}{base:Heap}{x:Str}{j k:Nat}{ps:List Str}{F:List D->Option D}(h:Fn P w K mg base x j ps F)(l:j<=k):Fn P w K mg base x k ps F:=My.Ok.mono h l
theorem LV(O':Fn X.prog X.w X.K X.mg X.base x k ps F)(Y:Room k X.A)(hg:Gl X x)(ha:zX X O (e::es) f)(hl:∀ρ ds,f ρ=some ds->ds.length=ps.length)(B:(x == ("__debug__" : Str))=false:=by decide)
  (W:zah (e::es) X.env=(false,eval e X.env)::zah es X.env:=by rfl) (z:(zaJ pos (zah es X.env)).any (·.1)=false:=by rfl) :
  PD X O (.Call (.Name x p) (e::es) [] pos) (aQ F f):=PE.mono (My.JD O' Y hg ha B W z) λσ H Q ⟨H0,A0,A,E,ρ,d,st,e,q⟩=>by
 obtain⟨ds,G,e⟩:=bind_some e;exact⟨H0,A0,A,E,ρ,ds,st,G,λvs H1 J M=>⟨A,ds,d,(st.mono J).live,M.toL,by rw[M.length];exact hl ρ ds G,e,λv H2 U N=>q v H2 (J.trans U) N⟩⟩
theorem IxR.mono(h:IxR X r)(x:∀a b H Q,r' a b H Q->r a b H Q):IxR X r':=λB z pins s σ H a b v u Q I q F w=>h B z pins s σ H a b v u Q I q F (x a b H Q w)
def YT:D->D->Option D
 | .lst l,.int i=>dW l i
 | .tup l,.int i=>dW l i
 | .str z,.int i=>if aZ z.length then(dW z.cps.toList i).map λc=>.str ⟨#[c]⟩else none
 | _,_=>none
theorem RepL.at(r:RepL A H ds vs)(h:dW ds i=some d):∃v,dW vs i=some v/\Rep A H d v:=by
 obtain⟨j,q,F⟩:=bind_some h;obtain⟨v,B,z⟩:=r.get' F;refine⟨v,?_,z⟩;unfold dW;rw[r.length,q];exact B
theorem Z4:IxR X (rD YT):=IxR.mono TJ <| by
 rintro x y H Q ⟨A,dx,J,d,N,F,M,e,q⟩;cases J with
 | int i=>
  have:=M.int_inv;subst this;cases dx with
  | lst l=>
   obtain⟨a,xs,rfl,h,r⟩:=F.lst_inv;obtain⟨v,B,G⟩:=r.at e;exact .inl ⟨a,xs,i,v,rfl,rfl,.inl h,B,q v H (Ext.refl _ _) G⟩
  | tup l=>
   obtain⟨a,xs,rfl,h,r⟩:=F.tup_inv;obtain⟨v,B,G⟩:=r.at e;exact .inr (.inl ⟨a,xs,i,v,rfl,rfl,.inl (.inl h),B,q v H (Ext.refl _ _) G⟩)
  | str z=>
   have:=F.str_inv;subst this;simp only[YT]at e;by_cases hz:aZ z.length=true
   ·rw[if_pos hz]at e
    obtain⟨c,B,rfl⟩:=map_some e;exact .inr (.inr ⟨z,i,c,rfl,rfl,gM hz,B,q _ H (Ext.refl _ _) (.str _)⟩)
   ·rw[if_neg hz]at e;cases e
  | _=>cases e
 | _=>cases dx <;> cases e
abbrev Ov:=dB->Option (Option Int)
inductive tDO(O:List Nat)(g:Ov)(σ:L2.St)(H:Hp)(Q:Option Int->Hp->Prop):Prop
 | mk (H0:Hp) (A0 A:Av) (E:List Fact) (ρ:dB) (o:Option Int) (st:ST H0 A0 A E O σ H ρ) (e:g ρ=some o) (q:∀H',Ext A H H'->Q o H'):tDO O g σ H Q
def QK(X:Cx)(O:List Nat)(e:Option Expr)(g:Ov):Prop:=PO X e (tDO O g)
theorem PO.mono(h:PO X e t)(x:∀σ H Q,t' σ H Q->t σ H Q):PO X e t':=λpins s σ H Q I w=>h pins s σ H Q I (x σ H Q w)
def sE:Ov:=λ_=>some none
noncomputable def QL:D->Option Int
 | .int i=>some i
 | _=>none
theorem qR(h:QL d=some i):d=.int i:=by cases d <;> cases h;rfl
def lK(f:Ev):Ov:=λρ=>(f ρ).bind λd=>(QL d).map some
theorem IQ:QK X O none sE:=PO.mono L9 λσ H Q ⟨H0,A0,A,E,ρ,d,st,e,q⟩=>by cases e;exact q H (Ext.refl _ _)
theorem IM{e:Expr}{f:Ev}(h:PD X O e f):QK X O (some e) (lK f):=PO.mono (OY h) <| by
 rintro σ H Q ⟨H0,A0,A,E,ρ,d,st,e,q⟩;obtain⟨x,ex,e⟩:=bind_some e;obtain⟨i,B,rfl⟩:=map_some e;rw[qR B]at ex;exact⟨H0,A0,A,E,ρ,_,st,ex,λv H1 F z=>⟨i,RepB.int_inv (.of z),q H1 F⟩⟩
def cutD(xs:List D)(lo hi:Option Int):List D:=(xs.drop (HT.sIx xs.length 0 lo)).take (HT.sIx xs.length xs.length hi-HT.sIx xs.length 0 lo)
theorem RepL.cut{ds:List D}{vs:List V}{lo hi:Option Int}(r:RepL A H ds vs):RepL A H (cutD ds lo hi) (tG vs lo hi):=by
 unfold cutD tG;rw[r.length];exact(r.drop _).take _
def LN(g:D->Option Int->Option Int->Option D)(f:Ev)(a b:Ov):Ev:=λρ=>(f ρ).bind λx=>(a ρ).bind λlo=>(b ρ).bind λhi=>g x lo hi
inductive rS(g:D->Option Int->Option Int->Option D)(x:V)(lo hi:Option Int)(H:Hp)(Q:VK):Prop
 | mk (A:Av) (dx d:D) (lv:Live A H) (r:RepB A H dx x) (e:g dx lo hi=some d) (q:∀v H',Ext A H H'->Rep A H' d v->Q v H'):rS g x lo hi H Q
inductive rSF(g:D->Option Int->Option Int->Option D)(x:V)(lo hi:Option Int)(H:Hp)(Q:VK):Prop
 | mk (A:Av) (dx d:D) (lv:Live A H) (r:RepB A H dx x) (e:g dx lo hi=some d) (q:∀a H',Ext A H H'->H a=none->¬ A a->Own (λb=>A b\/b=a) H' d a->Q (.ref a) H'):rSF g x lo hi H Q
theorem SlR.mono(h:SlR X r)(x:∀a b c H Q,r' a b c H Q->r a b c H Q):SlR X r':=λpins s σ H a v J G lo hi B Q I z hs q F w=>h pins s σ H a v J G lo hi B Q I z hs q F (x a lo hi H Q w)
def Y2:D->Option Int->Option Int->Option D
 | .tup l,lo,hi=>some (.tup (cutD l lo hi))
 | _,_,_=>none
def XD:D->Option Int->Option Int->Option D
 | .lst l,lo,hi=>some (.lst (cutD l lo hi))
 | _,_,_=>none
theorem HB{lo hi:Option Expr}{g:D->Option Int->Option Int->Option D}{a b:Ov}(J:SlR X (rS g))(G:PB X O e f)(N:QK X O lo a)(U:QK X O hi b):PD X O (.Subscript e (.Slice lo hi none p2) pos) (LN g f a b):=
 PE.mono (G2 J G N U) <| by
  rintro σ H Q ⟨H0,A0,A,E,ρ,d,st,e,q⟩;obtain⟨x,ex,e⟩:=bind_some e;obtain⟨l,el,e⟩:=bind_some e;obtain⟨h,Y,e⟩:=bind_some e;exact⟨H0,A0,A,E,ρ,x,st,ex,λv H1 B r1=>⟨H0,A0,A,E,ρ,l,st.mono B,el,λH2 z=>⟨H0,A0,A,E,ρ,h,st.mono (B.trans z),Y,λH3 F=>⟨A,x,d,(st.mono ((B.trans z).trans F)).live,r1.ext (z.trans F),e,λv W x4 M=>q v W (((B.trans z).trans F).trans x4) M⟩⟩⟩⟩
theorem Y9:SlR X (rS Y2):=SlR.mono My.M3 <| by
 rintro x lo hi H Q ⟨A,dx,d,G,F,e,q⟩;cases dx with
 | tup l=>
  obtain⟨a,xs,rfl,h,r⟩:=F.tup_inv;cases e;by_cases w:HT.sIx xs.length 0 lo=0/\HT.sIx xs.length xs.length hi=xs.length
  ·refine .inr ⟨a,xs,rfl,.inl (.inl h),w,q _ H (Ext.refl _ _) (.tup h ?_)⟩
   have B:tG xs lo hi=xs:=by unfold tG;rw[w.1,w.2];simp
   rw[<- B];exact r.cut
  ·exact .inl ⟨a,xs,rfl,.inl (.inl h),w,λp z=>q _ _ (Ext.new z) (.tup aJ (r.cut.ext (Ext.new z)))⟩
 | _=>cases e
theorem ZV:SlR X (rSF XD):=SlR.mono N9 <| by
 rintro x lo hi H Q ⟨A,dx,d,F,G,e,q⟩;cases dx with
 | lst l=>
  obtain⟨a,xs,rfl,h,r⟩:=G.lst_inv;cases e;exact⟨a,xs,rfl,.inl h,λp B=>q p _ (Ext.new B) B (λz=>F p z B) (.lst aJ (r.cut.fresh B))⟩
 | _=>cases e
end
inductive Out where
 | nx (ρ:dB)|rt (d:D)|bk (ρ:dB)|ct (ρ:dB)
abbrev Sv:=dB->Option Out
structure Lp where
 ob:List Nat
 oc:List Nat
def Z8(L:Lp)(H0:Hp)(A0:Av)(E:List Fact)(O':List Nat)(T:Ends):Out->Prop
 | .nx ρ=>∀A σ H,ST H0 A0 A E O' σ H ρ->T.nx σ H
 | .rt d=>∀v H,Ext A0 H0 H->Rep A0 H d v->T.rt v H
 | .bk ρ=>∀A σ H,ST H0 A0 A E L.ob σ H ρ->T.bk σ H
 | .ct ρ=>∀A σ H,ST H0 A0 A E L.oc σ H ρ->T.ct σ H
inductive tS(L:Lp)(O:List Nat)(f:Sv)(O':List Nat)(T:Ends)(σ:L2.St)(H:Hp):Prop
 | mk (H0:Hp) (A0 A:Av) (E:List Fact) (ρ:dB) (out:Out) (st:ST H0 A0 A E O σ H ρ) (e:f ρ=some out) (p:Z8 L H0 A0 E O' T out):tS L O f O' T σ H
def iJ(X:Cx)(L:Lp)(O:List Nat)(st:Stmt)(f:Sv)(O':List Nat):Prop:=PS X st (tS L O f O')
def dJ(X:Cx)(L:Lp)(O:List Nat)(st:List Stmt)(f:Sv)(O':List Nat):Prop:=PSs X st (tS L O f O')
section
variable {X:Cx}{L:Lp}{O O' O2:List Nat}
theorem PS.mono{st:Stmt}{t t':TS}(h:PS X st t)(x:∀T σ H,t' T σ H->t T σ H):PS X st t':=λpins s σ H T I w=>h pins s σ H T I (x T σ H w)
theorem PSs.mono{st:List Stmt}{t t':TS}(h:PSs X st t)(x:∀T σ H,t' T σ H->t T σ H):PSs X st t':=λpins s σ H T I w=>h pins s σ H T I (x T σ H w)
noncomputable def Sub(a b:List Nat):Bool:=a.all λi=>b.contains i
theorem Sub.mem(h:Sub a b=true)(i:Nat)(hi:i∈a):i∈b:=by
 have:=(List.all_eq_true.mp h) i hi;simpa using this
def mH:Sv:=λρ=>some (.nx ρ)
def bM(f g:Sv):Sv:=λρ=>(f ρ).bind λo=>match o with
 | .nx ρ'=>g ρ'
 | o=>some o
theorem DW(h:Sub O' O=true:=by rfl):dJ X L O [] mH O':=PSs.mono OV <| by
 rintro T σ H ⟨H0,A0,A,E,ρ,z,st,e,p⟩;cases e;obtain⟨A',q⟩:=st.shut (Sub.mem h);exact p A' σ H q
theorem N0(h:tS L O (bM f g) O' T σ H):XJ (tS L O f O2) (tS L O2 g O') T σ H:=by
 obtain⟨H0,A0,A,E,ρ,z,st,e,p⟩:=h;obtain⟨o,F,e⟩:=bind_some e;refine⟨H0,A0,A,E,ρ,o,st,F,?_⟩;cases o with
 | nx ρ'=>exact λA' B H' q=>⟨H0,A0,A',E,ρ',z,q,e,p⟩
 | rt d=>cases e;exact p
 | bk d=>cases e;exact p
 | ct d=>cases e;exact p
theorem JI{st:Stmt}{rest:List Stmt}{f g:Sv}(h1:iJ X L O st f O2)(h2:dJ X L O2 rest g O'):dJ X L O (st::rest) (bM f g) O':=PSs.mono (G6 h1 h2) λT σ H h=>N0 h
theorem aF{st:Stmt}{f:Sv}(h1:iJ X L O st f O'):dJ X L O [st] f O':=M5 h1
def sM(f:Ev):Sv:=λρ=>(f ρ).map .rt
theorem MF{e:Expr}{pos:Pos}{f:Ev}(z:PD X O e f):iJ X L O (.Return (some e) pos) (sM f) O':=PS.mono (UP z) <| by
 rintro T σ H ⟨H0,A0,A,E,ρ,B,st,e,p⟩;obtain⟨d,q,rfl⟩:=map_some e;exact⟨H0,A0,A,E,ρ,d,st,q,λv H' x r=>p v H' (st.mono x).ex (r.av λa F=>.inl (st.sub a F))⟩
def K5(f:Ev):Sv:=λρ=>(f ρ).map λ_=>.nx ρ
theorem HC{e:Expr}{pos:Pos}{f:Ev}(B:PB X O e f)(hs:za6 e none pos.line X.env=pure false:=by rfl)(h:Sub O' O=true:=by rfl):iJ X L O (.Expr e pos) (K5 f) O':=PS.mono (CS B hs) <| by
 rintro T σ H ⟨H0,A0,A,E,ρ,F,st,e,p⟩;obtain⟨d,z,rfl⟩:=map_some e;refine⟨H0,A0,A,E,ρ,d,st,z,λv H' x r=>?_⟩;obtain⟨A',q⟩:=(st.mono x).shut (Sub.mem h);exact p A' σ H' q
def jI(c:Bv)(f g:Sv):Sv:=λρ=>(c ρ).bind λb=>if b=true then f ρ else g ρ
theorem BN{c:Expr}{a b:List Stmt}{pos:Pos}{g:Bv}{f k:Sv}(G:nQ X O c g)(F:dJ X L O a f O')(B:dJ X L O b k O'):iJ X L O (.If c a b pos) (jI g f k) O':=PS.mono (WT G F B) <| by
 rintro T σ H ⟨H0,A0,A,E,ρ,q,st,e,p⟩;obtain⟨b,J,e⟩:=bind_some e;refine⟨H0,A0,A,E,ρ,b,st,J,λH1 z=>?_⟩;cases b with
 | true=>rw[if_pos rfl]at e ⊢;exact⟨H0,A0,A,E,ρ,q,st.mono z,e,p⟩
 | false=>rw[if_neg zaw]at e ⊢;exact⟨H0,A0,A,E,ρ,q,st.mono z,e,p⟩
def bS(i:Nat)(f:Ev):Sv:=λρ=>(f ρ).map λd=>.nx (ρ.set i (some d))
theorem Sub.er{a b:List Nat}{i j:Nat}(h:Sub a (b.filter (· != i))=true)(q:j∈a):j∈b/\j≠i:=by
 have:=Sub.mem h j q;rw[List.mem_filter]at this;exact⟨this.1,by simpa using this.2⟩
theorem CK{i:Nat}{x:Str}{e:Expr}{pos pos':Pos}{f:Ev}(G:X.N.Nodup)(hi:X.N[i]?=some x)(M:Loc X.env.scope x)(J:PD X O e f)(h:Sub O' (O.filter (· != i))=true:=by rfl)
  (hs:za6 e (some (.Name x pos')) pos.line X.env=pure false:=by rfl) (Y:X.fn x=true\/X.env.scope.names.lookup x=some .local:=by first|exact .inl rfl|exact .inr rfl):iJ X L O (.Assign [.Name x pos'] e pos) (bS i f) O':=
 PS.mono (KM G hi M J hs Y) <| by
  rintro T σ H ⟨H0,A0,A,E,ρ,aa,st,e,p⟩;obtain⟨d,U,rfl⟩:=map_some e;refine⟨H0,A0,A,E,ρ,d,st,U,λv H' x r=>?_⟩
  -- i leaves what may be written ahead of the store: the value is borne by fewer too
  have F:=(st.mono x).more r;obtain⟨A',B⟩:=F.shut (O':=O') λj W=>(Sub.er h W).1
  exact p A' _ H' ((B.put (B.ext _ (zau ..)) λz=>(Sub.er h z).2 rfl).less λq hq=>zav _ hq)
theorem Own.there:Own A H d a->H a≠none
 | .lst h _=>by rw[h];exact λz=>nomatch z
 | .dK h _ _=>by rw[h];exact λz=>nomatch z
 | .dT h _ _=>by rw[h];exact λz=>nomatch z
theorem ST.own_put(s:ST H0 A0 A E O σ H ρ)(x:Ext A H H')(n:H a=none)(na:¬ A a)(o:Own (λb=>A b\/b=a) H' d a)(ni:i∉O) :
  ST H0 A0 (λb=>A b\/b=a) E (i::O) (σ.set i (some (.ref a))) H' (ρ.set i (some d)):=by
 have s':=s.mono x;have n0:H0 a=none:=s.ex.free n
 -- whatever was borne ahead avoids a
 have G:Ext (λb=>A b\/b=a) H H':=⟨x.rd,x.kp,λb u q e=>q.elim (λq=>x.ow b u q e) λq=>(by subst q;rw[n]at e;exact nomatch e),x.fz⟩;have Y:∀ {p:Fact},p.Holds A H->p.Holds (λb=>A b\/b=a) H':=λr=>Fact.ext G (Fact.av (A':=λb=>A b\/b=a) (λb q=>by
   rcases q with q|q
   ·exact .inl q
   ·exact .inr (q ▸ n)) r)
 have up:∀ {d:D} {v:V},Rep A H d v->Rep (λb=>A b\/b=a) H' d v:=λr=>by
  have r1:Rep (λb=>A b\/b=a) H _ _:=r.av λb q=>by
   rcases q with q|q
   ·exact .inl q
   ·exact .inr (q ▸ n)
  exact r1.ext G
 have ac:∀ {d:D} {b:Addr},A b->Own A H d b->Own (λc=>A c\/c=a) H' d b:=λq r=>by
  have r1:Own (λc=>A c\/c=a) H _ _:=r.av λb q=>by
   rcases q with q|q
   ·exact .inl q
   ·exact .inr (q ▸ n)
  exact r1.ext G (.inl q)
 have ha:H' a≠none:=o.there;refine⟨s'.ex,λb q=>.inl (s.sub b q),s.l0,λb q=>?_,by simp[s.len],λj d' h' W=>?_,λj d' h' W=>?_,λj k d1 d2 b hj hk h1 h2 F N=>?_,λp hp=>Y (s.ext p hp)⟩
 ·rcases q with q|q
  ·exact s'.live b q
  ·subst q;exact ha
 ·rcases dO h' with⟨e,B,l⟩|⟨e,B⟩
  ·exact absurd (List.mem_cons.mpr (.inl e)) W
  ·obtain⟨w,h1,h2⟩:=s.val j d' B λz=>W (zav _ z)
   exact⟨w,by rw[j6 e];exact h1,up h2⟩
 ·rcases dO h' with⟨e,B,l⟩|⟨e,B⟩
  ·subst e;cases B
   exact⟨a,sig_set (by rw[s.len];exact l),.inr rfl,n0,o⟩
  ·rcases List.mem_cons.mp W with z|z
   ·exact absurd z e
   ·obtain⟨w,h1,h2,F,N⟩:=s.own j d' B z
    exact⟨w,by rw[j6 e];exact h1,.inl h2,F,ac h2 N⟩
 ·have J:∀ {j:Nat} {d1:D},j∈i::O->(ρ.set i (some d))[j]?=some (some d1)->(σ.set i (some (.ref a)))[j]?=some (some (.ref b))->(j=i/\b=a)\/(j≠i/\j∈O/\ρ[j]?=some (some d1)/\σ[j]?=some (some (.ref b))/\b≠a):=by
   intro j d1 hj h1 F;rcases dO h1 with⟨e,B,l⟩|⟨e,B⟩
   ·subst e
    rw[sig_set (by rw[s.len];exact l)]at F;cases F;exact .inl ⟨rfl,rfl⟩
   ·rcases List.mem_cons.mp hj with z|z
    ·exact absurd z e
    ·rw[j6 e]at F
     obtain⟨w,q1,q2,_⟩:=s.own j d1 B z;rw[F]at q1;cases q1;exact .inr ⟨e,z,B,F,λz=>na (z ▸ q2)⟩
  rcases J hj h1 F with⟨e1,B⟩|⟨e1,B,e3,e4,e5⟩
  ·rcases J hk h2 N with⟨U,M⟩|⟨U,M,f3,f4,f5⟩
   ·rw[e1,U]
   ·exact absurd B f5
  ·rcases J hk h2 N with⟨U,M⟩|⟨U,M,f3,f4,f5⟩
   ·exact absurd M e5
   ·exact s.inj j k d1 d2 b B M e3 f3 e4 f4
theorem JB{i:Nat}{x:Str}{e:Expr}{pos pos':Pos}{f:Ev}(B:X.N.Nodup)(hi:X.N[i]?=some x)(M:Loc X.env.scope x)(G:PF X O e f)(h:Sub O' (i::O)=true:=by rfl)(J:O.contains i=false:=by rfl)
  (hs:za6 e (some (.Name x pos')) pos.line X.env=pure false:=by rfl) (U:X.fn x=true\/X.env.scope.names.lookup x=some .local:=by first|exact .inl rfl|exact .inr rfl):iJ X L O (.Assign [.Name x pos'] e pos) (bS i f) O':=
 PS.mono (KM B hi M G hs U) <| by
  rintro T σ H ⟨H0,A0,A,E,ρ,aa,st,e,p⟩;obtain⟨d,W,rfl⟩:=map_some e;refine⟨H0,A0,A,E,ρ,d,st,W,λa H' x n Y o=>?_⟩;have ni:i∉O:=λz=>by
   have:O.contains i=true:=by simpa using z
   rw[J]at this;cases this
  obtain⟨F,q⟩:=(st.own_put x n Y o ni).shut (Sub.mem h);exact p F _ H' q
theorem ST.write(s:ST H0 A0 A E O σ H ρ)(hi:ρ[i]?=some (some d))(hO:i∈O)(hs:σ[i]?=some (some (.ref a)))(M:A a)(h0:H0 a=none)(Y:H a=some u)(ob:VQ u)(hn:Own A (upd H a o) d' a) :
  ST H0 A0 A E O σ (upd H a o) (ρ.set i (some d')):=by
 have B:∀b,H0 b≠none->b≠a:=λb N z=>N (z ▸ h0)
 refine⟨⟨λb w r=>?_,λb xs k r=>?_,λb w n r=>?_,λb q w r=>?_⟩,s.sub,s.l0,λb N=>?_,by simp[s.len],λj d2 h' J=>?_,λj d2 h' J=>?_,λj k d1 d2 b hj hk h1 h2 W U=>?_,λp hp=>Fact.put M Y ob (s.ext p hp)⟩
 ·refine fG (B b ?_) (s.ex.rd b w r)
  rcases r with r|⟨_,r⟩ <;> (rw[r];exact λz=>nomatch z)
 ·rw[aE (B b (by rw[r];exact λz=>nomatch z))];exact s.ex.kp b xs k r
 ·rw[aE (B b (by rw[r];exact λz=>nomatch z))];exact s.ex.ow b w n r
 ·rw[aE (B b (by rw[r];exact λz=>nomatch z))];exact s.ex.fz b q w r
 ·by_cases e:b=a
  ·subst e;rw[aJ];exact λz=>nomatch z
  ·rw[aE e];exact s.live b N
 ·rcases dO h' with⟨e,F,l⟩|⟨e,F⟩
  ·subst e;exact absurd hO J
  ·obtain⟨w,h1,h2⟩:=s.val j d2 F J
   exact⟨w,h1,h2.put M Y ob⟩
 ·rcases dO h' with⟨e,F,l⟩|⟨e,F⟩
  ·subst e;cases F;exact⟨a,hs,M,h0,hn⟩
  ·obtain⟨b,h1,h2,W,U⟩:=s.own j d2 F J
   refine⟨b,h1,h2,W,U.put M Y ob λz=>?_⟩;subst z;exact e (s.inj j i d2 d b J hO F hi h1 hs)
 ·have G:∀ {j:Nat} {d1:D},(ρ.set i (some d'))[j]?=some (some d1)->∃d0,ρ[j]?=some (some d0):=by
   intro j d1 h;rcases dO h with⟨e,_,_⟩|⟨_,e⟩
   ·subst e;exact⟨d,hi⟩
   ·exact⟨d1,e⟩
  obtain⟨x,hx⟩:=G h1;obtain⟨y,hy⟩:=G h2;exact s.inj j k x y b hj hk hx hy W U
noncomputable def mem(O:List Nat)(i:Nat):Bool:=O.contains i
theorem l9(h:mem O i=true):i∈O:=by simpa[mem]using h
def B5(i:Nat)(f:Ev):Sv:=λρ=>(aB i ρ).bind λx=>match x with
 | .lst l=>(f ρ).bind λd=>if aZ l.length then some (.nx (ρ.set i (some (.lst (l++[d])))))else none
 | _=>none
theorem BG{o e:Expr}{i:Nat}{apos cpos pos:Pos}{f:Ev}(Y:PE X o (wM i))(he:PD X O e f)(G:mem O i=true)(U:PE X (.Call (.Attribute o "append" apos) [e] [] cpos) (qr X.K "list" DB (wM i) (D9 (tD Rep O f) VA)))
  (hs:za6 (.Call (.Attribute o "append" apos) [e] [] cpos) none pos.line X.env=pure false:=by rfl) (h:Sub O' O=true:=by rfl):iJ X L O (.Expr (.Call (.Attribute o "append" apos) [e] [] cpos) pos) (B5 i f) O':=
 PS.mono (CS U hs) <| by
  rintro T σ H ⟨H0,A0,A,E,ρ,N,st,e,p⟩;obtain⟨x,ex,e⟩:=bind_some e;cases x with
  | lst l=>
   obtain⟨d,J,e⟩:=bind_some e;by_cases hz:aZ l.length=true
   ·rw[if_pos hz]at e
    cases e;obtain⟨a,B,q,W,M⟩:=st.own i _ (cR ex) (l9 G);cases M with
    | lst h4 r4=>
     refine⟨_,B,.inl ⟨rfl,_,SqL.of h4⟩,H0,A0,A,E,ρ,d,st,J,λv H' x r=>⟨a,_,v,rfl,rfl,x.ow _ _ q h4,by rw[r4.length];exact oD hz,?_⟩⟩;have F:=x.ow _ _ q h4;obtain⟨A',z⟩:=((st.mono x).write (o:=.lst _) (cR ex) (l9 G) B q W F trivial (.lst aJ (((r4.ext x).append (.cons r .nil)).put q F trivial))).shut (Sub.mem h);exact p A' σ _ z
   ·rw[if_neg hz]at e;cases e
  | _=>cases e
def VO:D->Option Key
 | .int i=>some (.inl i)
 | .str x=>some (.inr x)
 | _=>none
def LC:List D->Option (List Key)
 | []=>some []
 | d::ds=>(VO d).bind λk=>(LC ds).bind λks=>some (k::ks)
def zW:D->Option (List Key)
 | .tup l=>LC l
 | _=>none
noncomputable def b7{κ:Type}[DecidableEq κ](l:List (κ×D))(k:κ):Option D:=(l.find? λp=>decide (p.1=k)).map (·.2)
noncomputable def putD{κ:Type}[DecidableEq κ](l:List (κ×D))(k:κ)(d:D):List (κ×D):=if l.any (λp=>decide (p.1=k))then l.map (λp=>if p.1=k then(p.1,d)else p)else l++[(k,d)]
end
section
variable {A:Av}{H:Hp}
section
variable {κ:Type}[DecidableEq κ]
abbrev PP(A:Av)(H:Hp):List (κ×D)->List (κ×V)->Prop:=zaU λ(p:κ×D) (q:κ×V)=>p.1=q.1/\Rep A H p.2 q.2
theorem uM:∀ {l:List (κ×D)} {xs:List (κ×V)},xs.map (·.1)=l.map (·.1)->RepL A H (l.map (·.2)) (xs.map (·.2))->PP A H l xs
 | [],[],_,_=>.nil
 | [],_::_,e,_=>by cases e
 | _::_,[],e,_=>by cases e
 | p::l,q::xs,e,r=>by
  rw[zak,zak]at e r;injection e with e1 e2
  cases r with
  | cons h t=>exact .cons ⟨e1.symm,h⟩ (uM e2 t)
theorem EE:∀ {l:List (κ×D)} {xs:List (κ×V)},PP A H l xs->xs.map (·.1)=l.map (·.1)/\RepL A H (l.map (·.2)) (xs.map (·.2))
 | _,_,.nil=>⟨rfl,.nil⟩
 | _,_,.cons h t=>by
  obtain⟨e,r⟩:=EE t;exact⟨by rw[zak,zak,h.1,e],.cons h.2 r⟩
theorem J5(k:κ)(h:PP A H l xs):(b7 l k=none/\lM xs k=none)\/∃d v,b7 l k=some d/\lM xs k=some v/\Rep A H d v:=by
 induction h with
 | nil=>exact .inl ⟨rfl,rfl⟩
 | @cons p q l xs h t ih=>
  by_cases e:p.1=k
  ·refine .inr ⟨p.2,q.2,?_,kW (h.1 ▸ e),h.2⟩
   simp[b7,za8,e]
  ·have B:¬ q.1=k:=λz=>e (h.1.trans z)
   have a:b7 (p::l) k=b7 l k:=by simp[b7,za8,e]
   rw[a,kX B];exact ih
theorem SC(k:κ)(h:PP A H l xs):(l.any λp=>decide (p.1=k))=xs.any λp=>decide (p.1=k):=by
 induction h with
 | nil=>rfl
 | cons h t ih=>rw[zbz,zbz,ih,h.1]
theorem UV(k:κ)(r:Rep A H d v)(h:PP A H l xs):PP A H (l.map λp=>if p.1=k then(p.1,d)else p) (xs.map λp=>if p.1=k then(p.1,v)else p):=by
 induction h with
 | nil=>exact .nil
 | @cons p q l xs h t ih=>
  rw[zak,zak];refine .cons ?_ ih;by_cases e:p.1=k
  ·rw[if_pos e,if_pos (h.1 ▸ e)];exact⟨h.1,r⟩
  ·rw[if_neg e,if_neg (λz=>e (h.1.trans z))];exact h
theorem RZ(h:PP A H l xs)(h':PP A H m ys):PP A H (l++m) (xs++ys):=by
 induction h with
 | nil=>exact h'
 | cons h t ih=>exact .cons h ih
theorem BV(k:κ)(r:Rep A H d v)(h:PP A H l xs):PP A H (putD l k d) (putK xs k v):=by
 unfold putD putK;rw[SC k h];by_cases e:(xs.any λp=>decide (p.1=k))=true
 ·rw[if_pos e,if_pos e];exact UV k r h
 ·rw[if_neg e,if_neg e];exact RZ h (.cons ⟨rfl,r⟩ .nil)
end
theorem oI(h:VO d=some k)(r:RepB A H d v):v=kV k:=by
 cases d <;> cases h
 ·exact r.int_inv
 ·exact r.str_inv
theorem zE:∀ {ds:List D} {ks:List Key} {vs:List V},LC ds=some ks->RepL A H ds vs->vs=ks.map kV
 | _,_,_,h,.nil=>by cases h;rfl
 | _,_,_,h,.cons r t=>by
  obtain⟨k,q,h⟩:=bind_some h;obtain⟨ks,z,h⟩:=bind_some h;cases h;rw[zak,oI q (.of r),zE z t]
theorem oB(h:zW d=some k)(r:RepB A H d v):∃b,v=.ref b/\H b=some (.tup (k.map kV)):=by
 cases d <;> try cases h
 rename_i l;obtain⟨a,xs,rfl,h1,h2⟩:=r.tup_inv;exact⟨a,rfl,by rw[h1,zE h h2]⟩
def cH:D->D->Option (Option D)
 | .dK l,k=>(VO k).map λk=>b7 l k
 | .dT l,k=>(zW k).map λk=>b7 l k
 | _,_=>none
theorem hZ{d k:D}{x y:V}{o:Option D}(h:cH d k=some o)(G:RepB A H d x)(J:RepB A H k y):∃a B,x=.ref a/\VG H a/\DGet H a y B/\((o=none/\B=none)\/∃z v,o=some z/\B=some v/\Rep A H z v):=by
 cases d with
 | dK l=>
  obtain⟨q,F,rfl⟩:=map_some h;obtain⟨a,xs,rfl,h1,e,r⟩:=G.dK_inv;have:=oI F J;subst this;refine⟨a,_,rfl,.inl ⟨xs,h1⟩,.inl ⟨xs,q,h1,rfl,rfl⟩,J5 q (uM e r)⟩
 | dT l=>
  obtain⟨q,F,rfl⟩:=map_some h;obtain⟨a,xs,rfl,h1,e,r⟩:=G.dT_inv;obtain⟨b,rfl,M⟩:=oB F J;exact⟨a,_,rfl,.inr ⟨xs,h1⟩,.inr ⟨xs,q,b,h1,rfl,M,rfl⟩,J5 q (uM e r)⟩
 | _=>cases h
end
section
variable {X:Cx}{O O':List Nat}{L:Lp}
theorem PE.or(h:PE X e t)(k:PE X e u):PE X e (λσ H Q=>t σ H Q\/u σ H Q):=λpins s σ H Q I w=>w.elim (h pins s σ H Q I) (k pins s σ H Q I)
def aI(d k:D):Option D:=match d with
 | .dK _=>(cH d k).join
 | .dT _=>(cH d k).join
 | _=>YT d k
theorem oW{q:Type}{o:Option (Option q)}{d:q}(h:o.join=some d):o=some (some d):=by
 cases o with
 | none=>cases h
 | some o=>cases o with
  | none=>cases h
  | some x=>cases h;rfl
theorem yR{M F:Ev}{σ:L2.St}{H:Hp}{Q:VK}(h:tD Rep O (aY (λd k=>(cH d k).join) M F) σ H Q):PY (tD RepB O M) (tD RepB O F) σ H Q:=by
 obtain⟨H0,A0,A,E,ρ,d,st,e,q⟩:=h;obtain⟨x,ex,e⟩:=bind_some e;obtain⟨y,U,e⟩:=bind_some e;refine⟨H0,A0,A,E,ρ,x,st,ex,λv H1 J Y=>⟨H0,A0,A,E,ρ,y,st.mono J,U,λw H2 G W=>?_⟩⟩;obtain⟨a,ov,e1,_,g,B⟩:=hZ (oW e) (Y.ext G) W;rcases B with⟨B,_⟩|⟨z,N,B,e3,r3⟩
 ·cases B
 ·cases B;subst e3
  exact⟨a,N,e1,g,q N H2 (J.trans G) r3⟩
theorem OA(M:X.A.units+1<cLine)(G:PB X O a fa)(F:PB X O b fb)(hs:vP b):PD X O (.Subscript a b pos) (aY aI fa fb):=
 PE.mono (PE.or (WU Z4 G F hs) (M7 M G F hs)) <| by
  rintro σ H Q ⟨H0,A0,A,E,ρ,d,st,e,q⟩;obtain⟨x,ex,B⟩:=bind_some e;obtain⟨y,J,B⟩:=bind_some B;have z:∀g:D->D->Option D,g x y=some d->tD Rep O (aY g fa fb) σ H Q:=λg h=>⟨H0,A0,A,E,ρ,d,st,by unfold aY;rw[ex,J];exact h,q⟩
  cases x with
  | dK l=>exact .inr (yR (z _ B))
  | dT l=>exact .inr (yR (z _ B))
  | _=>exact .inl (wL (z YT B))
def sC(fd q z:Ev):Ev:=λρ=>(fd ρ).bind λd=>(q ρ).bind λk=>(z ρ).bind λe=>(cH d k).map λo=>o.getD e
theorem KP(k:D)(h:cH d k=some o)(r:RepB A H d v):∃a,v=.ref a/\VG H a:=by
 cases d with
 | dK l=>obtain⟨a,xs,rfl,h1,_⟩:=r.dK_inv;exact⟨a,rfl,.inl ⟨xs,h1⟩⟩
 | dT l=>obtain⟨a,xs,rfl,h1,_⟩:=r.dT_inv;exact⟨a,rfl,.inr ⟨xs,h1⟩⟩
 | _=>cases h
theorem NV(hu:X.A.units+1<cLine)(ho:PB X O o fd)(he:PB X O e fk)(hf:PD X O f fe)(m:M2 X o "get" apos e f cpos):PD X O (.Call (.Attribute o "get" apos) [e,f] [] cpos) (sC fd fk fe):=
 PE.mono (IX hu ho he hf m) <| by
  rintro σ H Q ⟨H0,A0,A,E,ρ,d,st,e,q⟩;obtain⟨x,ex,e⟩:=bind_some e;obtain⟨y,ey,e⟩:=bind_some e;obtain⟨z,ez,e⟩:=bind_some e;obtain⟨ov,W,rfl⟩:=map_some e;refine⟨H0,A0,A,E,ρ,x,st,ex,λv H1 F N=>?_⟩;obtain⟨a,U,J⟩:=KP y W N;refine⟨a,U,J,H0,A0,A,E,ρ,y,st.mono F,ey,λw H2 G r2=>⟨H0,A0,A,E,ρ,z,st.mono (F.trans G),ez,λu H3 B r3=>?_⟩⟩;obtain⟨a',M,Y,_,g,e3⟩:=hZ W (N.ext (G.trans B)) (r2.ext B);rw[U]at Y;cases Y;refine⟨M,g,?_⟩;rcases e3 with⟨rfl,rfl⟩|⟨z',v',rfl,rfl,r4⟩
  ·exact q u H3 ((F.trans G).trans B) r3
  ·exact q v' H3 ((F.trans G).trans B) r4
def sI(d k e:D):Option D:=match d with
 | .dK l=>(VO k).bind λk=>if aZ l.length then some (.dK (putD l k e))else none
 | .dT l=>(zW k).bind λk=>if aZ l.length then some (.dT (putD l k e))else none
 | .lst l=>(QL k).bind λk=>(GO l.length k).map λj=>.lst (l.set j e)
 | _=>none
def wU(i:Nat)(q z:Ev):Sv:=λρ=>(z ρ).bind λe=>(aB i ρ).bind λx=>(q ρ).bind λk=>(sI x k e).map λd=>.nx (ρ.set i (some d))
theorem PS.or{st:Stmt}{t u:TS}(h:PS X st t)(k:PS X st u):PS X st (λT σ H=>t T σ H\/u T σ H):=λpins s σ H T I w=>w.elim (h pins s σ H T I) (k pins s σ H T I)
theorem NN{o k value:Expr}{i:Nat}{pos pos':Pos}{fk fe:Ev}(B:X.A.units+1<cLine)(ho:PE X o (wM i))(hk:PB X O k fk)(hv:PD X O value fe)(hO:mem O i=true)(h:Sub O' O=true:=by rfl)
  (hs:za6 value (some (.Subscript o k pos')) pos.line X.env=pure false:=by rfl) (af:zdI [.Subscript o k pos'] value pos.line X.env=pure false:=by rfl) (hw:zdJ [.Subscript o k pos'] value X.env=pure none:=by rfl)
  (hg:∀ {to ti:TE} {t:LF},PE X o to->PE X k ti->PC X t->PG X (.Subscript o k pos') (U5 to ti t):=by intro _ _ _ a b c;exact JX a b c) :
  iJ X L O (.Assign [.Subscript o k pos'] value pos) (wU i fk fe) O':=
 PS.mono (PS.or (MJ B ho hk hv hs) (KZ hv (hg ho hk set_list) af hw)) <| by
  rintro T σ H ⟨H0,A0,A,E,ρ,au,st,e,p⟩;obtain⟨z,ez,e⟩:=bind_some e;obtain⟨x,ex,e⟩:=bind_some e;obtain⟨y,ey,e⟩:=bind_some e;obtain⟨d,ed,rfl⟩:=map_some e;obtain⟨a,U,J,e3,e4⟩:=st.own i _ (cR ex) (l9 hO);cases x with
  | dK l=>
   obtain⟨kk,e5,F⟩:=bind_some ed;by_cases hz:aZ l.length=true
   ·rw[if_pos hz]at F;cases F
    refine .inl ⟨H0,A0,A,E,ρ,z,st,ez,λv H1 M r1=>⟨_,U,H0,A0,A,E,ρ,y,st.mono M,ey,λw H2 N W=>?_⟩⟩;have q:=M.trans N;cases e4 with
    | @dK _ _ xs h4 ee r4=>
     have B:=q.ow _ _ J h4;have hl:xs.length=l.length:=by have:=congrArg zbH ee;simpa using this
     have:=oI e5 W;subst this;refine⟨a,_,rfl,DPut.k B (by rw[hl];exact oD hz),?_⟩;obtain⟨Y,r7⟩:=EE (BV kk (r1.ext N) (uM ee (r4.ext q)));obtain⟨A',G⟩:=((st.mono q).write (o:=.dK _) (cR ex) (l9 hO) U J e3 B trivial (.dK aJ Y (r7.put J B trivial))).shut (Sub.mem h);exact p A' σ _ G
   ·rw[if_neg hz]at F;cases F
  | dT l=>
   obtain⟨kk,e5,F⟩:=bind_some ed;by_cases hz:aZ l.length=true
   ·rw[if_pos hz]at F;cases F
    refine .inl ⟨H0,A0,A,E,ρ,z,st,ez,λv H1 M r1=>⟨_,U,H0,A0,A,E,ρ,y,st.mono M,ey,λw H2 N W=>?_⟩⟩;have q:=M.trans N;cases e4 with
    | @dT _ _ xs h4 ee r4=>
     have B:=q.ow _ _ J h4;have hl:xs.length=l.length:=by have:=congrArg zbH ee;simpa using this
     obtain⟨b,rfl,hb⟩:=oB e5 W;refine⟨a,_,rfl,DPut.t B hb (by rw[hl];exact oD hz),?_⟩;obtain⟨Y,r7⟩:=EE (BV kk (r1.ext N) (uM ee (r4.ext q)));obtain⟨A',G⟩:=((st.mono q).write (o:=.dT _) (cR ex) (l9 hO) U J e3 B trivial (.dT aJ Y (r7.put J B trivial))).shut (Sub.mem h);exact p A' σ _ G
   ·rw[if_neg hz]at F;cases F
  | lst l=>
   obtain⟨kk,e5,F⟩:=bind_some ed;obtain⟨j,Y,rfl⟩:=map_some F;refine .inr ⟨H0,A0,A,E,ρ,z,st,ez,λv H1 M r1=>⟨_,U,H0,A0,A,E,ρ,y,st.mono M,ey,λw H2 N W=>?_⟩⟩;have q:=M.trans N;cases e4 with
   | @lst _ _ xs h4 r4=>
    have B:=q.ow _ _ J h4;rw[qR e5]at W;have:=W.int_inv;subst this;refine⟨a,xs,kk,j,rfl,rfl,B,by rw[r4.length];exact Y,?_⟩;obtain⟨A',G⟩:=((st.mono q).write (o:=.lst _) (cR ex) (l9 hO) U J e3 B trivial (.lst aJ (((r4.ext q).set j (r1.ext N)).put J B trivial))).shut (Sub.mem h);exact p A' σ _ G
  | _=>cases ed
noncomputable def GS(g:Int->Int->Option D):D->D->Option D
 | .int i,.int j=>g i j
 | _,_=>none
theorem qU(h:GS g x y=some d):∃i j,x=.int i/\y=.int j/\g i j=some d:=by
 cases x <;> cases y <;> first|(cases h;done)|exact⟨_,_,rfl,rfl,h⟩
theorem wK{f:Value->Value->Sem Value}{C:Int->Int->Prop}[∀i j,Decidable (C i j)]{g:Int->Int->Int}(h:OpR X f (rI C λi j=>.int (g i j))):gE X f (GS λi j=>if C i j then some (.int (g i j))else none):=
 OpR.mono h <| by
  rintro x y H Q ⟨A,dx,M,d,J,F,G,e,q⟩;obtain⟨i,j,rfl,rfl,z⟩:=qU e;have:=F.int_inv;subst this;have:=G.int_inv;subst this;by_cases B:C i j
  ·rw[if_pos B]at z;cases z
   exact⟨i,j,rfl,rfl,B,q _ H (Ext.refl _ _) (.int _)⟩
  ·rw[if_neg B]at z;cases z
theorem MN{f:Value->Value->Sem Value}{g:Int->Int->Int}(h:OpR X f (LM λi j=>.int (g i j))):gE X f (GS λi j=>some (.int (g i j))):=
 OpR.mono h <| by
  rintro x y H Q ⟨A,dx,G,d,F,B,z,e,q⟩;obtain⟨i,j,rfl,rfl,e⟩:=qU e;have:=B.int_inv;subst this;have:=z.int_inv;subst this;cases e;exact⟨i,j,rfl,rfl,q _ H (Ext.refl _ _) (.int _)⟩
theorem xV{f:Value->Value->Sem Value}{g:Int->Int->Bool}(h:OpR X f (LM λi j=>.bl (g i j))):gE X f (GS λi j=>some (.bl (g i j))):=
 OpR.mono h <| by
  rintro x y H Q ⟨A,dx,G,d,F,B,z,e,q⟩;obtain⟨i,j,rfl,rfl,e⟩:=qU e;have:=B.int_inv;subst this;have:=z.int_inv;subst this;cases e;exact⟨i,j,rfl,rfl,q _ H (Ext.refl _ _) (.bl _)⟩
instance:∀i j,Decidable (My.YB i j):=λi j=>by unfold My.YB;infer_instance
instance:∀i j,Decidable (O6 i j):=λi j=>by unfold O6;infer_instance
instance:∀i j,Decidable (O9 i j):=λi j=>by unfold O9;infer_instance
def zU:D->D->Option D:=GS λi j=>some (.int (i-j))
def dY:D->D->Option D:=GS λi j=>if 0<j then some (.int (i%j))else none
def sZ:D->D->Option D:=GS λi j=>if O6 i j then some (.int (i/j))else none
def CB:D->D->Option D:=GS λi j=>if O9 i j then some (.int (i^j.toNat))else none
def zS:D->D->Option D:=GS λi j=>some (.bl (decide (j<i)))
def XE:D->D->Option D:=GS λi j=>some (.bl (decide (j<=i)))
theorem S7:gE X (zaV .Sub) zU:=MN US
theorem Q0:gE X (zaV .Mod) dY:=wK UA
theorem RO:gE X (zaV .FloorDiv) sZ:=wK L0
theorem QT:gE X (zaV .Pow) CB:=wK RS
theorem XA:gE X (zaq .Gt) zS:=xV WH
theorem W9:gE X (zaq .GtE) XE:=xV WD
def PL(f:Ev):Ev:=λρ=>(f ρ).bind λd=>(QL d).map λi=>.int (-i)
theorem SA(z:PB X O a f):PD X O (.UnaryOp .USub a pos) (PL f):=PE.mono (WL R1 z) <| by
 rintro σ H Q ⟨H0,A0,A,E,ρ,d,st,e,q⟩;obtain⟨x,ex,e⟩:=bind_some e;obtain⟨i,F,rfl⟩:=map_some e;rw[qR F]at ex;exact⟨H0,A0,A,E,ρ,_,st,ex,λv H1 G B=>⟨i,B.int_inv,q _ H1 G (.int _)⟩⟩
end
section
variable {X:Cx}{L:Lp}{O O':List Nat}
def PJ:Sv:=λ_=>none
theorem FL{st:Stmt}:iJ X L O st PJ O':=λ_ _ _ _ _ _ ⟨_,_,_,_,_,_,_,e,_⟩=>nomatch e
abbrev Gv:=D->dB->Option dB
inductive tDG(O:List Nat)(g:Gv)(v:V)(σ:L2.St)(H:Hp)(Q:L2.St->Hp->Prop):Prop
 | mk (H0:Hp) (A0 A:Av) (E:List Fact) (ρ:dB) (d:D) (ρ':dB) (st:ST H0 A0 A E O σ H ρ) (r:Rep A H d v) (e:g d ρ=some ρ') (q:∀σ',ST H0 A0 A E O σ' H ρ'->Q σ' H):tDG O g v σ H Q
def zY(X:Cx)(O:List Nat)(tg:Expr)(g:Gv):Prop:=PG X tg (tDG O g)
abbrev QI:=List D->dB->Option dB
inductive tDGs(O:List Nat)(g:QI)(vs:List V)(σ:L2.St)(H:Hp)(Q:L2.St->Hp->Prop):Prop
 | mk (H0:Hp) (A0 A:Av) (E:List Fact) (ρ:dB) (ds:List D) (ρ':dB) (st:ST H0 A0 A E O σ H ρ) (r:RepL A H ds vs) (e:g ds ρ=some ρ') (q:∀σ',ST H0 A0 A E O σ' H ρ'->Q σ' H):tDGs O g vs σ H Q
def B7(X:Cx)(O:List Nat)(ts:List Expr)(g:QI):Prop:=PGs X ts (tDGs O g)
theorem PG.mono(h:PG X tg t)(x:∀v σ H Q,t' v σ H Q->t v σ H Q):PG X tg t':=λpins s σ H v u Q I r w=>h pins s σ H v u Q I r (x v σ H Q w)
theorem PGs.mono(h:PGs X ts t)(x:∀v σ H Q,t' v σ H Q->t v σ H Q):PGs X ts t':=λpins s σ H v u Q I r w=>h pins s σ H v u Q I r (x v σ H Q w)
def aH(i:Nat):Gv:=λd ρ=>some (ρ.set i (some d))
theorem yW(h:PG X tg (sH i))(n:O.contains i=false:=by rfl):zY X O tg (aH i):=PG.mono h <| by
 rintro v σ H Q ⟨H0,A0,A,E,ρ,d,ρ',st,r,e,q⟩;cases e;exact q _ (st.put r λz=>by
  have:O.contains i=true:=by simpa using z
  rw[n]at this;cases this)
def bU:QI:=λds ρ=>match ds with
 | []=>some ρ
 | _=>none
def aM(g:Gv)(k:QI):QI:=λds ρ=>match ds with
 | d::ds=>(g d ρ).bind λρ'=>k ds ρ'
 | _=>none
theorem HF:B7 X O [] bU:=PGs.mono L1 <| by
 rintro v σ H Q ⟨H0,A0,A,E,ρ,ds,ρ',st,r,e,q⟩;cases r with
 | nil=>cases e;exact⟨rfl,q _ st⟩
 | cons _ _=>cases e
theorem EU(G:∀ {t:TG} {u:QM},PG X e t->PGs X es u->PGs X (e::es) (P4 t u))(h1:zY X O e g)(h2:B7 X O es k):B7 X O (e::es) (aM g k):=
 PGs.mono (G h1 h2) <| by
  rintro v σ H Q ⟨H0,A0,A,E,ρ,ds,ρ',st,r,e,q⟩;cases r with
  | nil=>cases e
  | cons h t=>
   obtain⟨ρ1,B,e⟩:=bind_some e;exact⟨_,_,rfl,H0,A0,A,E,ρ,_,ρ1,st,h,B,λF z=>⟨H0,A0,A,E,ρ1,_,ρ',z,t,e,q⟩⟩
def bO(n:Nat)(k:QI):Gv:=λd ρ=>match d with
 | .tup l=>if l.length=n then k l ρ else none
 | _=>none
theorem NC(F:PG X tg (XW X.K n (tDGs O k))):zY X O tg (bO n k):=PG.mono F <| by
 rintro v σ H Q ⟨H0,A0,A,E,ρ,d,ρ',st,r,e,q⟩;cases d with
 | tup l=>
  obtain⟨a,xs,rfl,h,B⟩:=RepB.tup_inv (.of r);by_cases z:l.length=n
  ·simp only[bO,if_pos z]at e
   exact⟨a,xs,rfl,.inl (.inl h),by rw[B.length];exact z,H0,A0,A,E,ρ,l,ρ',st,B,e,q⟩
  ·simp only[bO,if_neg z]at e;cases e
 | _=>cases e
def PH(f:Ev)(g:Gv):Sv:=λρ=>(f ρ).bind λd=>(g d ρ).map .nx
theorem lD(F:PD X O e f)(N:zY X O tg g)(hs:zdI [tg] e pos.line X.env=pure false:=by rfl)(hw:zdJ [tg] e X.env=pure none:=by rfl)(h:Sub O' O=true:=by rfl)(h1:(zbg [tg] X.env).map (·.2)=[zbq tg X.env]:=by rfl)(h1:(zbg [tg] X.env).map (·.2)=[zbq tg X.env]:=by rfl)(h1:(zbg [tg] X.env).map (·.2)=[zbq tg X.env]:=by rfl)(h1:(zbg [tg] X.env).map (·.2)=[zbq tg X.env]:=by rfl):iJ X L O (.Assign [tg] e pos) (PH f g) O':=
 PS.mono (KZ F N hs hw h1) <| by
  rintro T σ H ⟨H0,A0,A,E,ρ,M,st,e,p⟩;obtain⟨d,J,e⟩:=bind_some e;obtain⟨ρ',G,rfl⟩:=map_some e;refine⟨H0,A0,A,E,ρ,d,st,J,λv H' x r=>⟨H0,A0,A,E,ρ,d,ρ',st.mono x,r,G,λB z=>?_⟩⟩;obtain⟨A',q⟩:=z.shut (Sub.mem h);exact p A' B H' q
def zR(J:It)(q:List Fact)(items:List D):Prop:=
 ∀(A:Av) (H:Hp),Live A H->(∀p∈q,p.Holds A H)->∀i,(items.length<=i->J.stop i H)/\∀d,items[i]?=some d->J.go i H/\∀x H',J.yld i H x H'->Ext A H H'/\Rep A H' d x
inductive tDI(O:List Nat)(f:Lv)(σ:L2.St)(H:Hp)(R:It->Hp->Prop):Prop
 | mk (H0:Hp) (A0 A:Av) (E:List Fact) (ρ:dB) (items:List D) (st:ST H0 A0 A E O σ H ρ) (e:f ρ=some items) (q:∀J H' E1,Ext A H H'->(∀p∈E1,p.Holds A H')->zR J E1 items->R J H'):tDI O f σ H R
def PDI(X:Cx)(O:List Nat)(tg e:Expr)(f:Lv):Prop:=PI X tg e (tDI O f)
theorem PI.mono(h:PI X tg e t)(x:∀σ H Q,t' σ H Q->t σ H Q):PI X tg e t':=λpins s σ H Q I w=>h pins s σ H Q I (x σ H Q w)
theorem PI.or(h:PI X tg e t)(k:PI X tg e u):PI X tg e (λσ H Q=>t σ H Q\/u σ H Q):=λpins s σ H Q I w=>w.elim (h pins s σ H Q I) (k pins s σ H Q I)
theorem LS{a:Addr}{l:List D}{K:zaf}:zR (qm K a) [.rep (.lst l) (.ref a)] l:=by
 intro A H J h i;have r:Rep A H (.lst l) (.ref a):=h _ (List.mem_singleton.mpr rfl);obtain⟨G,xs,e,h1,q⟩:=RepB.lst_inv (.of r);cases e;refine⟨λhi=>⟨xs,.inl h1,by rw[q.length];exact hi⟩,λd B=>?_⟩;obtain⟨v,z,F⟩:=q.get' B;refine⟨⟨xs,v,.inl h1,z⟩,λx H' y=>?_⟩;obtain⟨rfl,y⟩:=y;have:=y xs (.inl h1);rw[z]at this;cases this;exact⟨Ext.refl _ _,F⟩
theorem UU{a:Addr}{l:List D}{K:zaf}:zR (qg K a) [.rep (.tup l) (.ref a)] l:=by
 intro A H J h i;have r:Rep A H (.tup l) (.ref a):=h _ (List.mem_singleton.mpr rfl);obtain⟨G,xs,e,h1,q⟩:=RepB.tup_inv (.of r);cases e;refine⟨λhi=>⟨xs,.inl (.inl h1),by rw[q.length];exact hi⟩,λd B=>?_⟩;obtain⟨v,z,F⟩:=q.get' B;refine⟨⟨xs,v,.inl (.inl h1),z⟩,λx H' y=>?_⟩;obtain⟨rfl,y⟩:=y;have:=y xs (.inl (.inl h1));rw[z]at this;cases this;exact⟨Ext.refl _ _,F⟩
noncomputable def aW(lo c:Int)(n:Nat):List D:=(zaB n).map λ(i:Nat)=>.int (lo+(i:Int)*c)
theorem a8(lo c:Int)(n:Nat):(aW lo c n).length=n:=by simp[aW]
theorem bD{lo c:Int}{n i:Nat}(h:(aW lo c n)[i]?=some d):i<n/\d=.int (lo+(i:Int)*c):=by
 unfold aW at h;rw[zar]at h;by_cases hi:i<n
 ·rw[List.getElem?_range hi]at h;cases h;exact⟨hi,rfl⟩
 ·rw[List.getElem?_eq_none (by simpa using hi)]at h;cases h
theorem GF{lo c:Int}{n:Nat}:zR (My.VB lo c n) [] (aW lo c n):=by
 intro A H z h i;refine⟨λhi=>by rw[a8]at hi;exact hi,λd q=>?_⟩;obtain⟨hi,rfl⟩:=bD q;exact⟨hi,λx H' ⟨e,y⟩=>by subst e y;exact⟨Ext.refl _ _,.int _⟩⟩
theorem xO{lo:Int}{n:Nat}:zR (YH lo n) [] (aW lo 1 n):=by
 intro A H z h i;refine⟨λhi=>by rw[a8]at hi;exact hi,λd q=>?_⟩;obtain⟨hi,rfl⟩:=bD q;exact⟨hi,λx H' ⟨e,y⟩=>by subst e y;rw[zbP];exact⟨Ext.refl _ _,.int _⟩⟩
noncomputable def cS(i:Int):Bool:=decide (-1000000<=i) && decide (i<=1000000)
def cG:List D->Option (List D)
 | [.int j]=>if cS j then some (aW 0 1 j.toNat)else none
 | _=>none
def d5:List D->Option (List D)
 | [.int i,.int j]=>if cS i && cS j then some (aW i 1 (j-i).toNat)else none
 | _=>none
def gL:List D->Option (List D)
 | [.int i,.int j,.int c]=>if c≠0/\c.natAbs<1000/\zch i j c=true then some (aW i c (My.rsz i j c))else none
 | _=>none
theorem eJ(h:cS i=true):-(2^62)<=i/\i<2^62:=by
 simp only[cS,zaK,decide_eq_true_eq]at h
 lia
def lR(g:List D->Option (List D))(f:Lv):Lv:=λρ=>(f ρ).bind g
theorem RL.one(r:RL R A H [d] vs):∃v,vs=[v]/\R A H d v:=by
 cases r with|cons h t=>cases t;exact⟨_,rfl,h⟩
theorem RL.two(r:RL R A H [d,e] vs):∃v w,vs=[v,w]/\R A H d v/\R A H e w:=by
 cases r with|cons h t=>obtain⟨w,rfl,h2⟩:=RL.one t;exact⟨_,w,rfl,h,h2⟩
theorem RL.three(r:RL R A H [d,e,f] vs):∃v w u,vs=[v,w,u]/\R A H d v/\R A H e w/\R A H f u:=by
 cases r with|cons h t=>obtain⟨w,u,rfl,h2,q⟩:=RL.two t;exact⟨_,w,u,rfl,h,h2,q⟩
theorem u3(h:cG ds=some l):∃j,ds=[.int j]/\cS j=true/\l=aW 0 1 j.toNat:=by
 unfold cG at h;split at h
 ·split at h
  ·cases h;exact⟨_,rfl,by assumption,rfl⟩
  ·cases h
 ·cases h
theorem uT(h:d5 ds=some l):∃i j,ds=[.int i,.int j]/\cS i=true/\cS j=true/\l=aW i 1 (j-i).toNat:=by
 unfold d5 at h;split at h
 ·split at h
  ·rename_i hh
   cases h;exact⟨_,_,rfl,(zaK _ _ ▸ hh).1,(zaK _ _ ▸ hh).2,rfl⟩
  ·cases h
 ·cases h
theorem u5(h:gL ds=some l):∃i j c,ds=[.int i,.int j,.int c]/\(c≠0/\c.natAbs<1000/\zch i j c=true)/\l=aW i c (My.rsz i j c):=by
 unfold gL at h;split at h
 ·split at h
  ·cases h;exact⟨_,_,_,rfl,by assumption,rfl⟩
  ·cases h
 ·cases h
section
variable {tg a b c:Expr}{f:Lv}{p pos:Pos}
theorem A6(M:Gl X "range")(z:X.mg "range" = none)(B:oK X O [a] f)(hs:zah [a] X.env=[(false,eval a X.env)]:=by rfl):PDI X O tg (.Call (.Name "range" p) [a] [] pos) (lR cG f):=PI.mono (ER M z B hs) <| by
 rintro σ H R ⟨H0,A0,A,E,ρ,items,st,e,q⟩;obtain⟨ds,F,e⟩:=bind_some e;refine⟨H0,A0,A,E,ρ,ds,st,F,λvs H1 G J=>?_⟩;obtain⟨j,rfl,h,rfl⟩:=u3 e;obtain⟨v,rfl,h1⟩:=J.one;have:=h1.int_inv;subst this;exact⟨j,rfl,(eJ h).1,(eJ h).2,q _ H1 [] G (λ_ h=>nomatch h) xO⟩
theorem AG(N:Gl X "range")(B:X.mg "range" = none)(F:oK X O [a,b] f)(hs:zah [a,b] X.env=[(false,eval a X.env),(false,eval b X.env)]:=by rfl)(z:zah [b] X.env=[(false,eval b X.env)]:=by rfl):PDI X O tg (.Call (.Name "range" p) [a,b] [] pos) (lR d5 f):=PI.mono (EY N B F hs z) <| by
 rintro σ H R ⟨H0,A0,A,E,ρ,items,st,e,q⟩;obtain⟨ds,G,e⟩:=bind_some e;refine⟨H0,A0,A,E,ρ,ds,st,G,λvs H1 J M=>?_⟩;obtain⟨i,j,rfl,h,h',rfl⟩:=uT e;obtain⟨v,w,rfl,h1,h2⟩:=M.two;have:=h1.int_inv;subst this;have:=h2.int_inv;subst this;exact⟨i,j,rfl,⟨(eJ h).1,(eJ h).2,(eJ h').1,(eJ h').2⟩,q _ H1 [] J (λ_ h=>nomatch h) xO⟩
theorem AW(W:Gl X "range")(B:X.mg "range" = none)(F:oK X O [a,b,c] f)(hs:zah [a,b,c] X.env=[(false,eval a X.env),(false,eval b X.env),(false,eval c X.env)]:=by rfl)(z:zah [b,c] X.env=[(false,eval b X.env),(false,eval c X.env)]:=by rfl):PDI X O tg (.Call (.Name "range" p) [a,b,c] [] pos) (lR gL f):=PI.mono (My.F4 W B F hs z) <| by
 rintro σ H R ⟨H0,A0,A,E,ρ,items,st,e,q⟩;obtain⟨ds,G,e⟩:=bind_some e;refine⟨H0,A0,A,E,ρ,ds,st,G,λvs H1 M U=>?_⟩;obtain⟨i,j,N,rfl,h,rfl⟩:=u5 e;obtain⟨v,w,u,rfl,h1,h2,J⟩:=U.three;have:=h1.int_inv;subst this;have:=h2.int_inv;subst this;have:=J.int_inv;subst this;exact⟨i,j,N,rfl,h,q _ H1 [] M (λ_ h=>nomatch h) GF⟩
end
def nX:Key->D
 | .inl i=>.int i
 | .inr x=>.str x
def LI(f:Ev):Lv:=λρ=>(f ρ).bind λd=>match d with
 | .lst l=>some l
 | .tup l=>some l
 | .dT l=>some (l.map λp=>.tup (p.1.map nX))
 | _=>none
theorem rL:∀k:List Key,RepL A H (k.map nX) (k.map kV)
 | []=>.nil
 | .inl i::k=>.cons (.int i) (rL k)
 | .inr x::k=>.cons (.str x) (rL k)
def RA(tl:TE):TI:=λσ H R=>tl σ H λx H1=>∃d kvs,x=.ref d/\((H1 d=some (.dT kvs)/\∀o,R (My.YI d o kvs) (upd H1 d (.frz o (.dT kvs))))\/∃o,H1 d=some (.frz o (.dT kvs))/\R (My.YI d o kvs) H1)
theorem HK(hl:PE X l tl):PI X tg l (RA tl):=by
 intro pins s σ H R I h;refine bN (hl pins s σ H _ I h) λv z ⟨x,H1,N,B,q1⟩=>?_
 obtain⟨d,kvs,rfl,q⟩:=q1;cases B;have G:∀(o:Obj) (H2:Hp),(d == za9)=false->Inv X pins σ H2 z->z.heap.get? d=some o->ObjOk X.prog X.w H2 z.heap d (.dT kvs)->R (My.YI d o kvs) H2->wpAny (model X.prog X.w) X.A (pyIter (.ref d)) (PIE X pins σ tg R) X.xe z:=λo H2 lo F Y ok q=>by
  obtain⟨_,_,es,ep,⟨o',B,r2,U⟩,J,_⟩:=My.rP ok;rw[Y]at B;cases B;refine My.yM lo ⟨o,Y,r2,U⟩ ?_;refine⟨z.heap.objs.size,[z.heap.objs.size],_,_,_,rfl,F.kept (t':=z.toks) λb o e=>zag _ e,My.FC d _ o kvs es ep U J,⟨_,zat _ rfl,rfl,rfl⟩,λb hb=>?_,q⟩;have e:b=z.heap.objs.size:=by simpa using hb
  subst e;exact F.fpOk (zao _) (F.hok.fresh (zao _))
 rcases q with⟨M,q⟩|⟨o,M,q⟩
 ·have ok:=(show ObjOk X.prog X.w H1 z.heap d (.dT kvs)from N.hok d _ M)
  obtain⟨lo,_,es,ep,⟨o,B,r2,U⟩,J,_⟩:=My.rP ok;have F:=My.BF N M B;have W:=(show ObjOk X.prog X.w _ z.heap d (.frz o (.dT kvs))from F.hok d _ aJ);exact G o _ lo F B W.2 (q o)
 ·have ok:=(show ObjOk X.prog X.w H1 z.heap d (.frz o (.dT kvs))from N.hok d _ M)
  obtain⟨lo,_⟩:=My.rP ok.2;exact G o H1 lo N ok.1 ok.2 q
theorem CM{a:Addr}{o:Obj}{xs:List (List Key×V)}{l:List (List Key×D)}(e:xs.map (·.1)=l.map (·.1)):zR (My.YI a o xs) [.fz a o (.dT xs)] (l.map λp=>.tup (p.1.map nX)):=by
 intro A H N h i;have B:H a=some (.frz o (.dT xs)):=h _ (List.mem_singleton.mpr rfl);have U:xs.length=l.length:=by have:=congrArg zbH e;simpa using this
 refine⟨λhi=>⟨B,by rw[zal]at hi;lia⟩,λd q=>?_⟩;rw[zar]at q;obtain⟨p,z,rfl⟩:=map_some q;have hi:i<l.length:=(List.getElem?_eq_some_iff.mp z).1;refine⟨⟨B,by lia⟩,λx H' ⟨J,k,v,b,M,F,G⟩=>?_⟩;subst J F;have:k=p.1:=by
  have h1:(xs.map (·.1))[i]?=some k:=by rw[zar,M];rfl
  rw[e,zar,z]at h1;exact(zaD h1).symm
 subst this;exact⟨Ext.refl _ _,.tup G (rL _)⟩
theorem C4(n:¬ A d)(B:H d=some u)(ob:VQ u)(F:¬ Kp u):Ext A H (upd H d (.frz o u)) where
 rd:=λb w r=>by
  by_cases e:b=d
  ·subst e
   rcases r with r|⟨q,r⟩
   ·rw[B]at r;cases r;exact .inr ⟨o,aJ⟩
   ·rw[B]at r;cases r;exact ob.elim
  ·exact fG e r
 kp:=λb w k r=>by rw[aE (λz=>by subst z;rw[B]at r;cases r;exact F k)];exact r
 ow:=λb w G r=>by rw[aE (λz=>n (by rw[<- z];exact G))];exact r
 fz:=λb q w r=>by rw[aE (λz=>by subst z;rw[B]at r;cases r;exact ob)];exact r
theorem NS(h:PD X O e f):PDI X O tg e (LI f):=PI.mono (PI.or (PI.or (LP h) (TQ h)) (HK h)) <| by
 rintro σ H R ⟨H0,A0,A,E,ρ,items,st,e,q⟩;obtain⟨d,J,e⟩:=bind_some e;cases d with
 | lst l=>
  cases e;refine .inl (.inl ⟨H0,A0,A,E,ρ,_,st,J,λv H1 G F=>?_⟩);obtain⟨a,xs,rfl,h1,M⟩:=RepB.lst_inv (.of F);exact⟨a,rfl,⟨xs,.inl h1⟩,q _ H1 [.rep (.lst items) (.ref a)] G (λp B=>by rw[List.mem_singleton.mp B];exact F) LS⟩
 | tup l=>
  cases e;refine .inl (.inr ⟨H0,A0,A,E,ρ,_,st,J,λv H1 G F=>?_⟩);obtain⟨a,xs,rfl,h1,M⟩:=RepB.tup_inv (.of F);exact⟨a,rfl,⟨xs,.inl (.inl h1)⟩,q _ H1 [.rep (.tup items) (.ref a)] G (λp B=>by rw[List.mem_singleton.mp B];exact F) UU⟩
 | dT l=>
  cases e;refine .inr ⟨H0,A0,A,E,ρ,_,st,J,λv H1 G F=>?_⟩;cases F with
  | @dT _ a xs n h ee M=>
   refine⟨a,xs,rfl,?_⟩;rcases h with h|⟨o,h⟩
   ·refine .inl ⟨h,λo=>q _ _ [.fz a o (.dT xs)] (G.trans (C4 n h trivial λz=>z)) (λp B=>by rw[List.mem_singleton.mp B];exact aJ) (CM ee)⟩
   ·exact .inr ⟨o,h,q _ H1 [.fz a o (.dT xs)] G (λp B=>by rw[List.mem_singleton.mp B];exact h) (CM ee)⟩
 | _=>cases e
def bV(g:Gv)(body:Sv):List D->dB->Option Out
 | [],ρ=>some (.nx ρ)
 | x::xs,ρ=>(g x ρ).bind λρ1=>(body ρ1).bind λo=>match o with
  | .nx ρ2=>bV g body xs ρ2
  | .ct ρ2=>bV g body xs ρ2
  | .bk ρ2=>some (.nx ρ2)
  | .rt d=>some (.rt d)
def gC(f:Lv)(g:Gv)(body:Sv):Sv:=λρ=>(f ρ).bind λitems=>bV g body items ρ
theorem ST.both(s:ST H0 A0 A E O σ H ρ)(h:∀p∈E1,p.Holds A H):ST H0 A0 A (E1++E) O σ H ρ:=
 {s with ext:=λp q=>by rcases List.mem_append.mp q with e|e;exact h p e;exact s.ext p e}
theorem L8(hp:zcS (model X.prog X.w) X.A X.env X.xe)(hc:X.calm=true)(hi:PDI X O tg iter f)(hg:zY X O1 tg g)(hb:dJ X ⟨Ob,O1⟩ O1 body b O1)(h1:Sub O1 O=true)(h2:Sub O' O1=true)(h3:Sub O' Ob=true)
  (hs:∀x,zbS iter X.env x=pure x:=by intro _;rfl):iJ X L O (.For tg iter body [] pos) (gC f g b) O':=PS.mono (SY hp hc hi hg hb hs) λT σ H ⟨H0,A0,A,E,ρ,W,st,e,p⟩=>by
 obtain⟨items,e1,e⟩:=bind_some e;refine⟨H0,A0,A,E,ρ,items,st,e1,λJ H1 G x1 ab J1=>?_⟩;obtain⟨A1,aa⟩:=((st.mono x1).both ab).shut (Sub.mem h1);refine⟨λi m σ H=>m=items.length-i/\i<=items.length/\∃ρ A,ST H0 A0 A (G++E) O1 σ H ρ/\bV g b (items.drop i) ρ=some W,⟨items.length,by simp,zaZ _,ρ,A1,aa,e⟩,?_⟩;rintro i m σ H ⟨rfl,az,ρ,A,st,e⟩;have hE:∀p∈G,p.Holds A H:=λp hp=>st.ext p (zdf _ hp)
 obtain⟨M,go⟩:=J1 A H st.live hE i;have fin:∀ {O2:List Nat} {A:Av} {σ:L2.St} {H:Hp} {ρ:dB},Sub O' O2=true->ST H0 A0 A (G++E) O2 σ H ρ->(∀A σ H,ST H0 A0 A E O' σ H ρ->T.nx σ H)->T.nx σ H:=λhs st k=>by
  obtain⟨z,ae⟩:=(st.less (E':=E) λq hq=>zbF _ hq).shut (Sub.mem hs);exact k z _ _ ae
 by_cases B:i<items.length
 ·have ed:items[i]?=some items[i]:=by simp[B]
  obtain⟨Y,hy⟩:=go _ ed;rw[zep B]at e;obtain⟨ρ1,eg,e⟩:=bind_some e;obtain⟨o,eo,e⟩:=bind_some e;refine .inr ⟨Y,λN H'=>∃ρ2 z,ST H0 A0 z (G++E) O1 N H' ρ2/\bV g b (items.drop (i+1)) ρ2=some W,λN H' ⟨ρ2,z,F,e2⟩=>⟨items.length-(i+1),by lia,rfl,B,ρ2,z,F,e2⟩,λx H' y=>?_⟩;obtain⟨x2,r2⟩:=hy x H' y;refine⟨H0,A0,A,G++E,ρ,_,ρ1,st.mono x2,r2,eg,λam s1=>⟨H0,A0,A,G++E,ρ1,o,s1,eo,?_⟩⟩;cases o with
  | nx ρ2=>exact λz U H2 F=>⟨ρ2,z,F,e⟩
  | ct ρ2=>exact λz U H2 F=>⟨ρ2,z,F,e⟩
  | bk ρ2=>cases e;exact λz U H2 F=>fin h3 F p
  | rt d=>cases e;exact p
 ·have ac:i=items.length:=by lia
  subst ac;rw[List.drop_length]at e;cases e;exact .inl ⟨M (zao _),fin h2 st p⟩
end
noncomputable def gD(cells:List (Str×Addr)):List (Str×zbY)->List (Str×Addr)->List (Str×Addr)
 | [],cs=>cs
 | (x,k)::r,cs=>gD cells r (if k == .free then(x,(cells.lookup x).getD 0)::cs else cs)
theorem t8:∀(names:List (Str×zbY)) (cs:List (Str×Addr)),(∀y∈names,y.2=.free->∃c,env.cells.lookup y.1=some c)->
  (forIn names cs (λ(p:Str×zbY) (r:List (Str×Addr))=>if(p.2 == .free)=true then(do let c <- cellOf env p.1;pure (zc1 ((p.1,c)::r)))else(pure (zc1 r):Sem _)))=(pure (gD env.cells names cs):Sem _)
 | [],cs,_=>by simp[gD]
 | (x,k)::r,cs,h=>by
  have ih:=λcs=>t8 r cs λy B=>h y (zav _ B)
  rw[zdy];by_cases e:(k == zcl)=true
  ·have F:k=.free:=by simpa using e
   obtain⟨c,z⟩:=h (x,k) (zau ..) F;have q:env.cells.lookup x=some c:=z;simp only[e,if_true,gD];have:cellOf env x=pure c:=by unfold cellOf;rw[q]
   rw[this];simp only[pure_bind,q,Option.getD_some];exact ih _
  ·simp only[e,gD]
   simp only[zb5,if_false,pure_bind];exact ih _
theorem MD(h:∀y∈scope.names,y.2=.free->∃c,env.cells.lookup y.1=some c):closureFor scope env=pure (gD env.cells scope.names []):=by
 have:=t8 scope.names [] h;unfold closureFor;simp only[bind_pure];exact this
theorem yB:∀ {names:List (Str×zbY)} {cs:List (Str×Addr)} {c:Addr},(gD cells names cs).lookup x=some c->(∃q,cs.lookup x=some q/\c=q)\/((x,zcl)∈names/\c=(cells.lookup x).getD 0)
 | [],cs,c,h=>.inl ⟨c,h,rfl⟩
 | (y,k)::r,cs,c,h=>by
  rw[gD]at h;rcases yB h with⟨q,h1,h2⟩|⟨h1,h2⟩
  ·by_cases e:(k == zcl)=true
   ·rw[if_pos e,zdA]at h1
    by_cases ex:(x == y)=true
    ·rw[ex]at h1
     have z:x=y:=by simpa using ex
     have B:k=.free:=by simpa using e
     subst z B;cases h1;exact .inr ⟨zau ..,h2⟩
    ·rw[zdB]at ex
     rw[ex]at h1;exact .inl ⟨q,h1,h2⟩
   ·rw[if_neg e]at h1
    exact .inl ⟨q,h1,h2⟩
  ·exact .inr ⟨zav _ h1,h2⟩
theorem xU:∀ {names:List (Str×zbY)} {cs:List (Str×Addr)},((x,zcl)∈names\/∃c,cs.lookup x=some c)->∃c,(gD cells names cs).lookup x=some c
 | [],cs,h=>h.elim (λh=>nomatch h) id
 | (y,k)::r,cs,h=>by
  rw[gD];apply xU;rcases h with h|⟨c,h⟩
  ·rcases List.mem_cons.mp h with e|e
   ·cases e
    refine .inr ⟨(cells.lookup x).getD 0,?_⟩;simp[zdA]
   ·exact .inl e
  ·right
   by_cases e:(k == zcl)=true
   ·rw[if_pos e,zdA]
    by_cases ex:(x == y)=true
    ·rw[ex];exact⟨_,rfl⟩
    ·rw[zdB]at ex;rw[ex];exact⟨c,h⟩
   ·rw[if_neg e];exact⟨c,h⟩
theorem eA{q:Type}{v:q}:∀ {l:List (Str×q)},l.lookup x=some v->(x,v)∈l
 | (y,w)::r,h=>by
  rw[zdA]at h;by_cases ex:(x == y)=true
  ·rw[ex]at h;cases h;rw[show x=y by simpa using ex];exact zau ..
  ·rw[zdB]at ex;rw[ex]at h;exact zav _ (eA h)
noncomputable def D0(names q:List (Str×zbY)):Bool:=
 names.all λy=>y.2 != .cell && (y.2 != .local || names.lookup y.1 == some .local) && (y.2 != .free || q.lookup y.1 == some .cell)
theorem BR{X:Cx}{N:List Str}{scope:Scope}{n:Nat}(hk:scope.kind=.function)(h:D0 scope.names X.env.scope.names=true)(hc:X.env.cells=zcF n X.env.scope.names []):My.Clo X N scope (gD X.env.cells scope.names []):=by
 have h':=List.all_eq_true.mp h;have c1:∀y∈scope.names,y.2≠.cell:=λy F=>by
  have:=h' y F;simp only[zaK]at this;simpa using this.1.1
 have c2:∀y∈scope.names,y.2=.local->scope.names.lookup y.1=some .local:=λy F e=>by
  have:=h' y F;simp only[zaK,zdn]at this;rcases this.1.2 with z|z
  ·rw[e]at z;exact absurd z (by decide)
  ·simpa using z
 have Y:∀y∈scope.names,y.2=.free->∃c,X.env.cells.lookup y.1=some c:=λy F e=>by
  have:=h' y F;simp only[zaK,zdn]at this;rcases this.2 with z|z
  ·rw[e]at z;exact absurd z (by decide)
  ·rw[hc];exact qZ (sc:=X.env.scope) (by simpa using z)
 have B:∀x,((zbM scope X.env).names.lookup x=some .cell\/(zbM scope X.env).names.lookup x=some .free)->(x,zcl)∈scope.names:=λx J=>by
  have M:∀U,(U=NameKind.cell\/U=zcl)->(x,U)∈(zbM scope X.env).names->(x,zcl)∈scope.names:=λU W hm=>by
   obtain⟨⟨y,k⟩,F,e⟩:=List.mem_map.mp hm;dsimp only at e;by_cases q:(k == zcl && X.env.scope.kind == .function && X.env.kindOf y == some .cell)=true
   ·rw[if_pos q]at e
    have:k=.free:=by simp only[zaK]at q;simpa using q.1.1
    cases e;subst this;exact F
   ·rw[if_neg q]at e
    cases e;rcases W with z|z
    ·exact absurd z (c1 _ F)
    ·subst z;exact F
  rcases J with J|J
  ·exact M _ (.inl rfl) (eA J)
  ·exact M _ (.inr rfl) (eA J)
 refine⟨MD Y,hk,c1,c2,λx c e=>?_,λx J=>xU (.inl (B x J))⟩;rcases yB e with⟨c',z,_⟩|⟨z1,z2⟩
 ·cases z
 ·obtain⟨c0,G⟩:=Y _ z1 rfl
  have G:X.env.cells.lookup x=some c0:=G;rw[z2,G];rfl
noncomputable def c6(X:Cx)(scope:Scope):List Str->List (Option Nat)->Prop
 | [],[]=>True
 | _::N,none::ms=>c6 X scope N ms
 | x::N,some i::ms=>(X.N[i]?=some x/\((zbM scope X.env).names.lookup x == some NameKind.local)=false/\(X.env.kindOf x=some .cell\/X.env.kindOf x=some .free))/\c6 X scope N ms
 | _,_=>False
noncomputable def sL{q:Type}(ms:List (Option Nat))(σ:List (Option q)):List (Option q):=ms.map λo=>o.bind λi=>(σ[i]?).join
theorem gY:∀ {N:List Str} {ms:List (Option Nat)},c6 X scope N ms->ms.length=N.length/\∀(j:Nat) (x:Str) (i:Nat),N[j]?=some x->ms[j]?=some (some i)->X.N[i]?=some x/\(zbM scope X.env).names.lookup x≠some .local/\(X.env.kindOf x=some .cell\/X.env.kindOf x=some .free)
 | [],[],_=>⟨rfl,λj x i h _=>by simp at h⟩
 | y::N,none::ms,h=>by
  obtain⟨l,g⟩:=gY (N:=N) (ms:=ms) h;refine⟨by simp[l],λj x i h1 h2=>?_⟩;cases j with
  | zero=>simp at h2
  | succ j=>exact g j x i (by simpa using h1) (by simpa using h2)
 | y::N,some k::ms,h=>by
  obtain⟨l,g⟩:=gY (N:=N) (ms:=ms) h.2;refine⟨by simp[l],λj x i h1 h2=>?_⟩;cases j with
  | zero=>simp at h1 h2;subst h1 h2;exact⟨h.1.1,λz=>by have:=h.1.2.1;rw[z]at this;exact absurd this (by decide),h.1.2.2⟩
  | succ j=>exact g j x i (by simpa using h1) (by simpa using h2)
 | [],_::_,h=>h.elim
 | _::_,[],h=>h.elim
theorem CJ{q:Type}{ms:List (Option Nat)}{σ:List (Option q)}{j:Nat}{v:q}(h:(sL ms σ)[j]?=some (some v)):∃i:Nat,ms[j]?=some (some i)/\σ[i]?=some (some v):=by
 unfold sL at h;rw[zar]at h;obtain⟨o,B,z⟩:=map_some h;cases o with
 | none=>cases z
 | some i=>exact⟨i,B,oW z⟩
theorem HY{N:List Str}{ms:List (Option Nat)}(h:c6 X scope N ms)(σ:L2.St):My.Start X N scope σ (sL ms σ):=by
 obtain⟨l,g⟩:=gY h;refine⟨by unfold sL;rw[zal];exact l,λj x v h1 h2 _=>?_⟩;obtain⟨i,q,z⟩:=CJ h2;obtain⟨a,b,c⟩:=g j x i h1 q;exact⟨b,i,a,z,c⟩
theorem ST.inner{E:List Fact}{O:List Nat}(s:ST H0 A0 A E O σ H ρ)(ms:List (Option Nat))(n:∀i,some i∈ms->i∉O):ST H0 A0 A E [] (sL ms σ) H (sL ms ρ) where
 ex:=s.ex
 sub:=s.sub
 l0:=s.l0
 live:=s.live
 len:=by simp[sL]
 val:=λj d h _=>by
  obtain⟨i,q,B⟩:=CJ h;obtain⟨v,z,r⟩:=s.val i d B (n i (zaI q));refine⟨v,?_,r⟩;unfold sL;rw[zar,q];show some ((σ[i]?).join)=_;rw[z];rfl
 own:=λj d _ h=>nomatch h
 inj:=λi j d d' a hi=>nomatch hi
 ext:=s.ext
def bW(g:Gv)(c:Bv)(f:Ev):List D->dB->Option (List D)
 | [],_=>some []
 | x::xs,ρ=>(g x ρ).bind λρ1=>(c ρ1).bind λb=>if b=true then(f ρ1).bind λd=>(bW g c f xs ρ1).bind λds=>some (d::ds)else bW g c f xs ρ1
def jH(ms:List (Option Nat))(it:Lv)(g:Gv)(c:Bv)(f:Ev):Ev:=λρ=>(it ρ).bind λitems=>if aZ items.length then(bW g c f items (sL ms ρ)).map .lst else none
def zQ:Bv:=λ_=>some true
theorem HW:My.EF X [] (tDT O zQ):=λpins s σ H Q I ⟨H0,A0,A,E,ρ,b,st,e,q⟩=>My.N1 pins s σ H Q I (by cases e;exact q H (Ext.refl _ _))
theorem G9(h:nQ X O c g):My.EF X [c] (tDT O g):=My.NG h
section
variable {X:Cx}{O:List Nat}
theorem qL(au:c6 X scope N ms)(hn:(ms.all λo=>match o with|some i=>!O.contains i|none=>true)=true)(σ:L2.St)(H:Hp)(Q:VK) :
  tF O (jH ms it g c f) σ H Q->My.LA (tDI O it) (tDG [] g) (tDT [] c) (tD Rep [] f) (My.Start X N scope) σ H Q:=λ⟨H0,A0,A,E,ρ,d,st,e,q⟩=>by
 obtain⟨items,e1,e⟩:=bind_some e;by_cases hz:aZ items.length=true
 case neg=>rw[if_neg hz]at e;cases e
 rw[if_pos hz]at e;obtain⟨ds,e2,rfl⟩:=map_some e;have a4:∀i,some i∈ms->i∉O:=λi hi z=>by
  have:=List.all_eq_true.mp hn _ hi;simp only[Bool.not_eq_true']at this;have z':O.contains i=true:=by simpa using z
  rw[z']at this;cases this
 refine⟨sL ms σ,HY au σ,H0,A0,A,E,ρ,items,st,e1,λJ H1 E1 x1 a2 J1 D hD=>?_⟩;have a0:=(st.mono x1).live;have nA:¬ A D:=λz=>a0 D z hD
 have n0:H D=none:=x1.free hD
 -- the state of the block: the list that grows stands outside all that is borne
 refine⟨λi m am us H2=>m=items.length-i/\i<=items.length/\∃ρ2 done rest,ST H0 A0 (λb=>A b\/b=D) (E1++E) [] am H2 ρ2/\H2 D=some (.lst us)/\Ext A H H2/\RepL (λb=>A b\/b=D) H2 done us/\bW g c f (items.drop i) ρ2=some rest/\done++rest=ds/\done.length<=i,⟨items.length,by simp,zaZ _,sL ms ρ,[],ds,?_,aJ,x1.trans (Ext.new hD),.nil,e2,rfl,zao _⟩,?_⟩
 ·have s1:=((st.mono x1).both a2).inner ms a4
  have up:∀a,(A a\/a=D)->A a\/H1 a=none:=λa F=>F.imp id λz=>by rw[z];exact hD
  refine⟨s1.ex.trans (Ext.new hD),λa F=>.inl (s1.sub a F),s1.l0,λa F=>?_,s1.len,λi d h n=>?_,(λi d _ h=>nomatch h),(λi j d d' a hi=>nomatch hi),λp hp=>Fact.ext (Ext.new hD) (Fact.av up (s1.ext p hp))⟩
  ·rcases F with F|F
   ·rw[aE (λz=>by subst z;exact nA F)];exact s1.live a F
   ·subst F;rw[aJ];exact λz=>nomatch z
  ·obtain⟨v,h1,h2⟩:=s1.val i d h n
   exact⟨v,h1,(h2.av up).ext (Ext.new hD)⟩
 ·rintro i m am us H2 ⟨rfl,bu,ρ2,done,rest,s2,ag,x2,ab,G,ed,a1⟩
  obtain⟨ah,go⟩:=J1 _ H2 s2.live (λp hp=>s2.ext p (zdf _ hp)) i;by_cases M:i<items.length
  ·have eg:items[i]?=some items[i]:=by simp[M]
   obtain⟨ax,hy⟩:=go _ eg;rw[zep M]at G;obtain⟨U,e3,G⟩:=bind_some G;obtain⟨b,e4,G⟩:=bind_some G;have al:us.length<zaj:=by
    rw[ab.length];exact zd0 a1 (zbc M (gM hz))
   refine .inr ⟨ax,al,λx H3 y=>?_⟩;obtain⟨x3,r3⟩:=hy x H3 y;refine⟨H0,A0,_,E1++E,ρ2,_,U,s2.mono x3,r3,e3,λbh s3=>⟨H0,A0,_,E1++E,U,b,s3,e4,λH5 x5=>?_⟩⟩;have aa:=x3.trans x5;have ai:H5 D=some (.lst us):=aa.ow D _ (.inr rfl) ag;have ak:Ext A H H5:=x2.trans (aa.mono λa F=>.inl F);cases b with
   | false=>
    rw[if_neg zaw]at G;exact Y8 ⟨ai,items.length-(i+1),by lia,rfl,M,U,done,rest,s3.mono x5,ai,ak,ab.ext aa,G,ed,by lia⟩
   | true=>
    rw[if_pos rfl]at G;refine Z7 ?_;obtain⟨d,e6,G⟩:=bind_some G;obtain⟨ad,e7,G⟩:=bind_some G;cases G;refine⟨H0,A0,_,E1++E,U,d,s3.mono x5,e6,λv H6 x6 r6=>?_⟩;have aj:=aa.trans x6;have Y:H6 D=some (.lst us):=aj.ow D _ (.inr rfl) ag;refine⟨Y,items.length-(i+1),by lia,rfl,M,U,done++[d],ad,?_,aJ,?_,((ab.ext aj).append (.cons r6 .nil)).put (.inr rfl) Y trivial,e7,by rw[<- ed];simp,by rw[zbu];show done.length+1<=i+1;lia⟩
    ·have W:=s3.mono (x5.trans x6)
     have az:H0 D=none:=st.ex.free n0;have B:∀b,H0 b≠none->b≠D:=λb hb z=>hb (by rw[z];exact az)
     refine⟨⟨λb w r=>fG (B b (by rcases r with r|⟨_,r⟩ <;> (rw[r];exact λz=>nomatch z))) (W.ex.rd b w r),λb xs k r=>?_,λb w n r=>?_,λb q w r=>?_⟩,W.sub,W.l0,λa F=>?_,W.len,λi d h n=>?_,(λi d _ h=>nomatch h),(λi j d d' a hi=>nomatch hi),λp hp=>Fact.put (.inr rfl) Y trivial (W.ext p hp)⟩
     ·rw[aE (B b (by rw[r];exact λz=>nomatch z))];exact W.ex.kp b xs k r
     ·rw[aE (B b (by rw[r];exact λz=>nomatch z))];exact W.ex.ow b w n r
     ·rw[aE (B b (by rw[r];exact λz=>nomatch z))];exact W.ex.fz b q w r
     ·by_cases z:a=D
      ·subst z;rw[aJ];exact λz=>nomatch z
      ·rw[aE z];exact W.live a F
     ·obtain⟨v,h1,h2⟩:=W.val i d h n
      exact⟨v,h1,h2.put (.inr rfl) Y trivial⟩
    ·have ac:Ext A H H6:=ak.trans (x6.mono λa F=>.inl F)
     have B:∀b,H b≠none->b≠D:=λb hb z=>hb (by rw[z];exact n0)
     exact⟨λb w r=>fG (B b (by rcases r with r|⟨_,r⟩ <;> (rw[r];exact λz=>nomatch z))) (ac.rd b w r),
      λb xs k r=>by rw[aE (B b (by rw[r];exact λz=>nomatch z))];exact ac.kp b xs k r,
      λb w n r=>by rw[aE (B b (by rw[r];exact λz=>nomatch z))];exact ac.ow b w n r,
      λb q w r=>by rw[aE (B b (by rw[r];exact λz=>nomatch z))];exact ac.fz b q w r⟩
  ·have a6:i=items.length:=by lia
   subst a6;rw[List.drop_length]at G;cases G;rw[zcr]at ed;subst ed;exact .inl ⟨ah (zao _),q D H2 x2 n0 nA (.lst ag ab)⟩
theorem OO
  (G:X.calm=true) (M:My.Clo X N scope cl) (q:c6 X scope N ms) (F:(ms.all λo=>match o with|some i=>!O.contains i|none=>true)=true) (hi:PDI X O tg iter it) (J:∀C s H fp,zY (My.aX X N scope cl C s H fp) [] tg g)
  (z:∀C s H fp,My.EF (My.aX X N scope cl C s H fp) ifs (tDT [] c)) (B:∀C s H fp,PD (My.aX X N scope cl C s H fp) [] elt f) (hs:∀x,zbS iter X.env x=pure x:=by intro _;rfl) :
  PF X O (.ListComp elt [⟨tg,iter,ifs,0⟩] scope pos) (jH ms it g c f):=PE.mono (My.OT G M hi J z B hs) (qL q F)
def aL(n:Nat)(ds:List D):dB:=ds.map some++zaP (n-ds.length) none
def bA(n:Nat)(f:Sv)(ds:List D):Option D:=(f (aL n ds)).bind λo=>match o with
 | .rt d=>some d
 | .nx _=>some .non
 | _=>none
theorem ST.begun(q:Live A H)(r:RepL A H ds vs):ST H A A [] [] (L2.start N vs) H (aL N.length ds) where
 ex:=Ext.refl _ _
 sub:=λ_ h=>h
 l0:=q
 live:=q
 len:=by unfold L2.start aL;simp[r.length]
 val:=λi d h _=>by
  unfold aL at h;by_cases hi:i<ds.length
  ·rw[zdk (by simpa using hi),zar]at h
   obtain⟨d',F,B⟩:=map_some h;cases B;obtain⟨v,J,z⟩:=r.get' F;refine⟨v,?_,z⟩;unfold L2.start;rw[zdk (by rw[zal,r.length];exact hi),zar,J];rfl
  ·rw[zeL (by simpa using hi),List.getElem?_replicate]at h
   split at h <;> cases h
 own:=λi d _ h=>nomatch h
 inj:=λi j d d' a hi=>nomatch hi
 ext:=λp G=>nomatch G
theorem W0{P:zap}{w:World}{K:zaf}{mg:Str->Option Value}{base:Heap}{x:Str}{st:Stmt}{N ps:List Str}{k:Nat}{f:Sv}{O':List Nat}(U:My.DefAt K mg x st ps)(S:FnScope N ps (aU st))
  (h:∀(J:Addr) (B:Value) (A:zas) (z:List Env) (s:zab) (H:Hp) (E:XK),Room k (A.deeper (zbo x (aU st) s.heap.objs.size J B))->∃g,dJ (sJ GN P w K mg base N x (aU st) J B A z s H E).nox ⟨[],[]⟩ [] (b9 st) g O'/\g=f) :
  Fn P w K mg base x (k+1) ps (bA N.length f):=by
 refine My.BodyOk.ok (λJ B A z s H vs Q E hr F=>?_) U S (λvs H Q E F=>by obtain⟨A,ds,d,_,_,e,_⟩:=F;exact e);obtain⟨M,ds,d,W,r,e,eF,q⟩:=F;obtain⟨o,eo,G⟩:=bind_some eF;obtain⟨g,hg,rfl⟩:=h J B A z s H E hr;refine⟨_,hg,H,M,M,[],_,o,ST.begun W r,eo,?_⟩;cases o with
 | nx ρ=>cases G;exact λA2 ae H2 Y=>q .non H2 Y.ex .non
 | rt d'=>cases G;exact λv H2 x2 r2=>q v H2 x2 r2
 | bk _=>cases G
 | ct _=>cases G
noncomputable def KW(K:zaf):Bool:=K.all λp=>match p.2.cls with
 | .type "list" => false
 | _=>true
theorem E8{K:zaf}(h:KW K=true){a:Addr}{o:Obj}(e:K.lookup a=some o):o.cls≠.type "list" := λz=>by
 have m:∀ {K:zaf},K.lookup a=some o->(a,o)∈K:=by
  intro K;induction K with
  | nil=>intro e;cases e
  | cons p r ih=>
   intro e;rw[zdA]at e;by_cases q:(a == p.1)=true
   ·rw[q]at e;cases e;rw[show a=p.1 by simpa using q];exact zau ..
   ·rw[zdB]at q;rw[q]at e;exact zav _ (ih e)
 have:=List.all_eq_true.mp h _ (m e);dsimp only at this;rw[z]at this;exact absurd this (by decide)
theorem SJ{P:zap}{w:World}{K:zaf}{mg:Str->Option Value}{base:Heap}{st:Stmt}{N:List Str}{k:Nat}{f:Sv}{O':List Nat}(Y:KW K=true)
  (h:∀(M:Addr) (F:Value) (A:zas) (B:List Env) (s:zab) (H:Hp) (E:XK),Room k (A.deeper (zbo "law" (aU st) s.heap.objs.size M F))->∃g,dJ (sJ GN P w K mg base N "law" (aU st) M F A B s H E).nox ⟨[],[]⟩ [] (b9 st) g O'/\g=f)
  (hv:∀ns:List Int,ns.length<=63->bA N.length f [.lst (ns.map .int)]=some (.bl true)):My.BodyOk P w K mg base "law" st N k (My.zP K):=by
 refine λM F A B s H vs Q E hr U=>?_
 obtain⟨a,ns,rfl,W,hl,q⟩:=U;have hR:Rd H a (.lst (ns.map V.int)):=by
  rcases W with W|⟨o,_,_,e,c,_⟩
  ·exact W
  ·exact absurd c (E8 Y e)
 have lv:Live (λ_=>False) H:=λa h=>h.elim
 have G:∀ns:List Int,RepL (λ_=>False) H (ns.map .int) (ns.map V.int):=λns=>by
  induction ns with
  | nil=>exact .nil
  | cons n ns ih=>exact .cons (.int n) ih
 obtain⟨o,eo,J⟩:=bind_some (hv ns hl);obtain⟨g,hg,rfl⟩:=h M F A B s H E hr;refine⟨_,hg,H,λ_=>False,λ_=>False,[],_,o,ST.begun lv (.cons (.lst (λz=>z) hR (G ns)) .nil),eo,?_⟩;cases o with
 | nx ρ=>cases J
 | rt d'=>cases J;exact λv H2 x2 r2=>by cases r2;exact q _
 | bk _=>cases J
 | ct _=>cases J
end
mutual
def jJ:D->Option My.Dx
 | .non=>some .non
 | .bl b=>some (.bl b)
 | .int i=>some (.int i)
 | .str x=>some (.str x)
 | .tup l=>(mE l).map .tup
 | .lst l=>(mE l).map .lst
 | .dK _=>none
 | .dT _=>none
def mE:List D->Option (List My.Dx)
 | []=>some []
 | d::ds=>(jJ d).bind λx=>(mE ds).bind λxs=>some (x::xs)
end
mutual
theorem oE:∀ {d e:D} {x:My.Dx},jJ d=some x->jJ e=some x->d=e
 | .non,e,x,h,k=>by cases h;cases e <;> simp[jJ]at k <;> first|rfl|(obtain⟨_,_,z⟩:=k;cases z)
 | .bl b,e,x,h,k=>by cases h;cases e <;> simp[jJ]at k <;> first|(rw[k])|(obtain⟨_,_,z⟩:=k;cases z)
 | .int b,e,x,h,k=>by cases h;cases e <;> simp[jJ]at k <;> first|(rw[k])|(obtain⟨_,_,z⟩:=k;cases z)
 | .str b,e,x,h,k=>by cases h;cases e <;> simp[jJ]at k <;> first|(rw[k])|(obtain⟨_,_,z⟩:=k;cases z)
 | .tup l,e,x,h,k=>by
  rw[jJ]at h;obtain⟨xs,h1,rfl⟩:=map_some h;cases e with
  | tup m=>
   rw[jJ]at k;obtain⟨ys,B,q⟩:=map_some k;cases q;rw[qK h1 B]
  | lst m=>rw[jJ]at k;obtain⟨ys,B,q⟩:=map_some k;cases q
  | _=>simp[jJ]at k
 | .lst l,e,x,h,k=>by
  rw[jJ]at h;obtain⟨xs,h1,rfl⟩:=map_some h;cases e with
  | lst m=>
   rw[jJ]at k;obtain⟨ys,B,q⟩:=map_some k;cases q;rw[qK h1 B]
  | tup m=>rw[jJ]at k;obtain⟨ys,B,q⟩:=map_some k;cases q
  | _=>simp[jJ]at k
 | .dK _,e,x,h,k=>by rw[jJ]at h;cases h
 | .dT _,e,x,h,k=>by rw[jJ]at h;cases h
theorem qK:∀ {d e:List D} {x:List My.Dx},mE d=some x->mE e=some x->d=e
 | [],e,x,h,k=>by
  rw[mE]at h;cases h;cases e with
  | nil=>rfl
  | cons e es=>
   rw[mE]at k;obtain⟨_,_,k⟩:=bind_some k;obtain⟨_,_,k⟩:=bind_some k;cases k
 | d::ds,e,x,h,k=>by
  rw[mE]at h;obtain⟨y,h1,h⟩:=bind_some h;obtain⟨ys,h2,h⟩:=bind_some h;cases h;cases e with
  | nil=>rw[mE]at k;cases k
  | cons e es=>
   rw[mE]at k;obtain⟨z,q,k⟩:=bind_some k;obtain⟨zs,B,k⟩:=bind_some k;cases k;rw[oE h1 q,qK h2 B]
end
mutual
theorem vG{K:zaf}{A:Av}{H:Hp}:∀ {d:D} {x:My.Dx} {v:V},jJ d=some x->Rep A H d v->My.Rep K H x v
 | .non,x,v,h,r=>by cases h;cases r;rw[My.Rep]
 | .bl b,x,v,h,r=>by cases h;cases r;rw[My.Rep]
 | .int b,x,v,h,r=>by cases h;cases r;rw[My.Rep]
 | .str b,x,v,h,r=>by cases h;cases r;rw[My.Rep]
 | .tup l,x,v,h,r=>by
  rw[jJ]at h;obtain⟨xs,h1,rfl⟩:=map_some h;cases r with
  | tup hh rl=>rw[My.Rep];exact⟨_,_,rfl,.inl (.inl hh),kZ h1 rl⟩
 | .lst l,x,v,h,r=>by
  rw[jJ]at h;obtain⟨xs,h1,rfl⟩:=map_some h;cases r with
  | lst n hh rl=>rw[My.Rep];exact⟨_,_,rfl,.inl hh,kZ h1 rl⟩
 | .dK _,x,v,h,r=>by rw[jJ]at h;cases h
 | .dT _,x,v,h,r=>by rw[jJ]at h;cases h
theorem kZ{K:zaf}{A:Av}{H:Hp}:∀ {d:List D} {x:List My.Dx} {v:List V},mE d=some x->RepL A H d v->My.RepL K H x v
 | [],x,v,h,r=>by rw[mE]at h;cases h;cases r;rw[My.RepL]
 | d::ds,x,v,h,r=>by
  rw[mE]at h;obtain⟨y,h1,h⟩:=bind_some h;obtain⟨ys,h2,h⟩:=bind_some h;cases h;cases r with
  | cons r rs=>rw[My.RepL];exact⟨_,_,rfl,vG h1 r,kZ h2 rs⟩
end
theorem iA{K:zaf}{A:Av}{H:Hp}{d:D}{x:My.Dx}{v:V}(h:jJ d=some x)(r:RepB A H d v):My.Rep K H x v:=by
 cases r with
 | of r=>exact vG h r
 | lst hh rl=>
  rw[jJ]at h;obtain⟨xs,h1,rfl⟩:=map_some h;rw[My.Rep];exact⟨_,_,rfl,.inl hh,kZ h1 rl⟩
 | dK=>rw[jJ]at h;cases h
 | dT=>rw[jJ]at h;cases h
def mF(d:D):Bool:=match jJ d with
 | some x=>x.nb && decide (x.dep<=60)
 | none=>false
noncomputable def U6:D->Bool
 | .tup _=>true | .lst _=>true|_=>false
noncomputable def PV:D->D->Bool
 | .non,.non=>true | .non,.int _=>true | .int _,.non=>true | .non,.bl _=>true | .bl _,.non=>true | .non,.str _=>true | .str _,.non=>true
 | .int _,.int _=>true | .bl _,.bl _=>true | .str _,.str _=>true
 | .int _,.str _=>true | .str _,.int _=>true | .bl _,.str _=>true | .str _,.bl _=>true
 | _,_=>false
open Classical in
def LL(d e:D):Option Bool:=if PV d e=true\/(U6 d=true/\U6 e=true/\mF d=true/\mF e=true)then some (decide (d=e))else none
def zZ(d e:D):Option D:=(LL d e).map .bl
def wW(d e:D):Option D:=(LL d e).map λb=>.bl (!b)
theorem JZ(h:PV d e=true)(r:RepB A H d v)(s:RepB A H e w):U7 v w=true/\(v=w↔d=e):=by
 cases d <;> cases e <;> first
  | (cases h;done)
  | (have:=r.non_inv;subst this;have:=s.non_inv;subst this;exact⟨rfl,by simp⟩)
  | (have:=r.non_inv;subst this;have:=s.int_inv;subst this;exact⟨rfl,by simp⟩)
  | (have:=r.non_inv;subst this;have:=s.bl_inv;subst this;exact⟨rfl,by simp⟩)
  | (have:=r.non_inv;subst this;have:=s.str_inv;subst this;exact⟨rfl,by simp⟩)
  | (have:=r.int_inv;subst this;have:=s.non_inv;subst this;exact⟨rfl,by simp⟩)
  | (have:=r.int_inv;subst this;have:=s.int_inv;subst this;exact⟨rfl,by simp⟩)
  | (have:=r.int_inv;subst this;have:=s.str_inv;subst this;exact⟨rfl,by simp⟩)
  | (have:=r.bl_inv;subst this;have:=s.non_inv;subst this;exact⟨rfl,by simp⟩)
  | (have:=r.bl_inv;subst this;have:=s.bl_inv;subst this;exact⟨rfl,by simp⟩)
  | (have:=r.bl_inv;subst this;have:=s.str_inv;subst this;exact⟨rfl,by simp⟩)
  | (have:=r.str_inv;subst this;have:=s.non_inv;subst this;exact⟨rfl,by simp⟩)
  | (have:=r.str_inv;subst this;have:=s.int_inv;subst this;exact⟨rfl,by simp⟩)
  | (have:=r.str_inv;subst this;have:=s.bl_inv;subst this;exact⟨rfl,by simp⟩)
  | (have:=r.str_inv;subst this;have:=s.str_inv;subst this;exact⟨rfl,by simp⟩)
section
variable {X:Cx}{O:List Nat}
theorem OpR.orM(h:OpR X f r)(h':OpR X f r')(x:∀a b H Q,r2 a b H Q->r a b H Q\/r' a b H Q):OpR X f r2:=OpR.mono (OpR.or h h') x
theorem l7(h:mF d=true):∃x,jJ d=some x/\x.nb=true/\x.dep<=60:=by
 unfold mF at h;cases e:jJ d with
 | none=>rw[e]at h;cases h
 | some x=>rw[e]at h;simp only[zaK,decide_eq_true_eq]at h;exact⟨x,rfl,h.1,h.2⟩
theorem EA(h:U6 d=true)(e:jJ d=some x):x.seq=true:=by
 cases d with
 | tup l=>rw[jJ]at e;obtain⟨xs,_,rfl⟩:=map_some e;rfl
 | lst l=>rw[jJ]at e;obtain⟨xs,_,rfl⟩:=map_some e;rfl
 | _=>cases h
theorem WN(hu:X.A.units+64<cLine):gE X (zaq .Eq) zZ:=OpR.orM W5 (My.TC hu) <| by
 rintro x y H Q ⟨A,dx,U,d,lv,N,W,e,q⟩;obtain⟨b,G,rfl⟩:=map_some e;unfold LL at G;split at G
 case isFalse=>cases G
 rename_i hc;cases G;rcases hc with hs|⟨s1,s2,k1,k2⟩
 ·left
  obtain⟨h1,h2⟩:=JZ hs N W;refine⟨h1,?_⟩;have:decide (x=y)=@decide (dx=U) (zcm _):=decide_eq_decide.mpr h2;rw[this];exact q _ H (Ext.refl _ _) (.bl _)
 ·right
  obtain⟨M,F,a2,Y⟩:=l7 k1;obtain⟨J,B,b2,b3⟩:=l7 k2;refine⟨M,J,iA F N,iA B W,EA s1 F,EA s2 B,a2,b2,Y,?_⟩;have:@decide (M=J) (zcm _)=@decide (dx=U) (zcm _):=decide_eq_decide.mpr ⟨λz=>oE F (z ▸ B),λz=>by subst z;rw[F]at B;exact zaD B⟩;show Q (.bl (@decide (M=J) (zcm _))) H;rw[this];exact q _ H (Ext.refl _ _) (.bl _)
theorem WP(hu:X.A.units+64<cLine):gE X (zaq .NotEq) wW:=OpR.orM WZ (My.T7 hu) <| by
 rintro x y H Q ⟨A,dx,U,d,lv,N,W,e,q⟩;obtain⟨b,G,rfl⟩:=map_some e;unfold LL at G;split at G
 case isFalse=>cases G
 rename_i hc;cases G;rcases hc with hs|⟨s1,s2,k1,k2⟩
 ·left
  obtain⟨h1,h2⟩:=JZ hs N W;refine⟨h1,?_⟩;have:decide (x=y)=@decide (dx=U) (zcm _):=decide_eq_decide.mpr h2;rw[this];exact q _ H (Ext.refl _ _) (.bl _)
 ·right
  obtain⟨M,F,a2,Y⟩:=l7 k1;obtain⟨J,B,b2,b3⟩:=l7 k2;refine⟨M,J,iA F N,iA B W,EA s1 F,EA s2 B,a2,b2,Y,?_⟩;have:@decide (M=J) (zcm _)=@decide (dx=U) (zcm _):=decide_eq_decide.mpr ⟨λz=>oE F (z ▸ B),λz=>by subst z;rw[F]at B;exact zaD B⟩;show Q (.bl (!@decide (M=J) (zcm _))) H;rw[this];exact q _ H (Ext.refl _ _) (.bl _)
noncomputable def dZ:D->Bool
 | .non=>true|_=>false
def GK(d e:D):Option D:=if dZ e then some (.bl (dZ d))else none
def uO(d e:D):Option D:=if dZ e then some (.bl (!dZ d))else none
theorem CT(r:RepB A H d v):decide (v=.non)=dZ d:=by
 cases d with
 | non=>have:=r.non_inv;subst this;rfl
 | bl b=>have:=r.bl_inv;subst this;rfl
 | int b=>have:=r.int_inv;subst this;rfl
 | str b=>have:=r.str_inv;subst this;rfl
 | tup l=>obtain⟨_,_,rfl,_⟩:=r.tup_inv;rfl
 | lst l=>obtain⟨_,_,rfl,_⟩:=r.lst_inv;rfl
 | dK l=>obtain⟨_,_,rfl,_⟩:=r.dK_inv;rfl
 | dT l=>obtain⟨_,_,rfl,_⟩:=r.dT_inv;rfl
theorem QQ:gE X (zaq .Is) GK:=OpR.mono SH <| by
 rintro x y H Q ⟨A,dx,B,d,G,F,z,e,q⟩;unfold GK at e;cases B with
 | non=>cases e;have:=z.non_inv;subst this;exact⟨rfl,by rw[CT F];exact q _ H (Ext.refl _ _) (.bl _)⟩
 | _=>cases e
theorem MQ:gE X (zaq .IsNot) uO:=OpR.mono MH <| by
 rintro x y H Q ⟨A,dx,B,d,G,F,z,e,q⟩;unfold uO at e;cases B with
 | non=>cases e;have:=z.non_inv;subst this;exact⟨rfl,by rw[CT F];exact q _ H (Ext.refl _ _) (.bl _)⟩
 | _=>cases e
theorem Inv.lstR(I:Inv X pins σ H s)(z:Rd H l (.lst xs)):xs.length<=zaj/\∃(q:List Value) (n:Nat),Vals xs q/\xs.length=q.length/\s.heap.get? l=some {cls:=.type "list",data:=.seq q.toArray n}:=by
 obtain⟨hz,q,n,r,e⟩:=(show ObjOk X.prog X.w H s.heap l (.lst xs)from z.ok I.hok);exact⟨hz,q,n,r,r.length,e⟩
def W4:R2:=λx y H Q=>∃l b xs zs,x=.ref l/\y=.ref b/\Rd H l (.lst xs)/\Rd H b (.lst zs)/\xs.length+zs.length<=zaj/\∀p,H p=none->Q (.ref p) (upd H p (.lst (xs++zs)))
theorem OZ:OpR X (zaV .Add) W4:=by
 intro pins s σ H x y v u Q I M Y h;obtain⟨l,b,xs,zs,rfl,rfl,W,U,hz,q⟩:=h;cases M;cases Y;obtain⟨z,F,n,r,hl,e⟩:=Inv.lstR I W;obtain⟨z2,B,n2,G,J,N⟩:=Inv.lstR I U;refine PySem.P.add_list e N ?_ (by rw[zaA,zaA];lia);have ea:F.toArray++B.toArray=(F++B).toArray:=by simp
 rw[ea];exact⟨.ref _,_,I.lnew (t':=s.toks) (r.append G) (by rw[zbu];lia),rfl,q _ I.fresh⟩
end
section
variable {X:Cx}{O:List Nat}
theorem RepL.nil_iff(r:RepL A H ds vs):vs=[]↔ds=[]:=by cases r <;> simp
def uL:D->D->Option D
 | .int i,.int j=>some (.int (i+j))
 | .str i,.str j=>if aZ (i.length+j.length)then some (.str (i++j))else none
 | .lst l,.lst m=>if aZ (l.length+m.length)then some (.lst (l++m))else none
 | .tup (a::l),.tup m=>if aZ (l.length+1+m.length)then some (.tup (a::l++m))else none
 | _,_=>none
theorem RK:gE X (zaV .Add) uL:=OpR.mono (OpR.or (OpR.or RG BA) (OpR.or OZ NE)) <| by
 rintro x y H Q ⟨A,dx,G,d,U,M,N,e,q⟩;cases dx with
 | int i=>
  cases G with
  | int j=>cases e;have:=M.int_inv;subst this;have:=N.int_inv;subst this;exact .inl (.inl ⟨i,j,rfl,rfl,q _ H (Ext.refl _ _) (.int _)⟩)
  | _=>cases e
 | str i=>
  cases G with
  | str j=>
   simp only[uL]at e;by_cases hz:aZ (i.length+j.length)=true
   ·rw[if_pos hz]at e;cases e;have:=M.str_inv;subst this;have:=N.str_inv;subst this
    exact .inl (.inr ⟨i,j,rfl,rfl,gM hz,q _ H (Ext.refl _ _) (.str _)⟩)
   ·rw[if_neg hz]at e;cases e
  | _=>cases e
 | lst l=>
  cases G with
  | lst m=>
   simp only[uL]at e;by_cases hz:aZ (l.length+m.length)=true
   ·rw[if_pos hz]at e;cases e
    obtain⟨a,xs,rfl,h1,B⟩:=M.lst_inv;obtain⟨b,ys,rfl,h2,F⟩:=N.lst_inv;exact .inr (.inl ⟨a,b,xs,ys,rfl,rfl,h1,h2,by rw[B.length,F.length];exact gM hz,λp J=>q _ _ (Ext.new J) (.lst (λz=>U p z J) (.inl aJ) ((B.append F).ext (Ext.new J)))⟩)
   ·rw[if_neg hz]at e;cases e
  | _=>cases e
 | tup l=>
  cases l with
  | nil=>cases G <;> cases e
  | cons a0 l=>
   cases G with
   | tup m=>
    simp only[uL]at e;by_cases hz:aZ (l.length+1+m.length)=true
    ·rw[if_pos hz]at e;cases e
     obtain⟨a,xs,rfl,h1,B⟩:=M.tup_inv;obtain⟨b,ys,rfl,h2,F⟩:=N.tup_inv;refine .inr (.inr ⟨a,b,xs,ys,rfl,rfl,.inl (.inl h1),.inl (.inl h2),λz=>(by have:=B.nil_iff.mp z;cases this),by rw[B.length,F.length];exact gM hz,λz=>?_,λ_ p J=>q _ _ (Ext.new J) (.tup aJ ((B.append F).ext (Ext.new J)))⟩);refine q _ H (Ext.refl _ _) (.tup h1 ?_);have:=F.nil_iff.mp z;subst this;rw[zcr];exact B
    ·rw[if_neg hz]at e;cases e
   | _=>cases e
 | _=>cases G <;> cases e
noncomputable def fM:List D->Option (List Int)
 | []=>some []
 | .int i::ds=>(fM ds).map (i::·)
 | _=>none
theorem eG:∀ {ds:List D} {ns:List Int} {vs:List V},fM ds=some ns->RepL A H ds vs->vs=ns.map V.int
 | [],ns,vs,h,r=>by cases h;cases r;rfl
 | .int i::ds,ns,vs,h,r=>by
  obtain⟨ms,h1,rfl⟩:=map_some h;cases r with
  | cons r rs=>cases r;rw[eG h1 rs];rfl
def qt:D->D->Option D
 | .int i,.int j=>some (.bl (decide (i<j)))
 | .tup l,.tup m=>(fM l).bind λns=>(fM m).map λms=>.bl (HT.lexLt ns ms)
 | _,_=>none
theorem QR(N:X.A.units<cLine):gE X (zaq .Lt) qt:=OpR.mono (OpR.or VY (UW N)) <| by
 rintro x y H Q ⟨A,dx,z,d,W,B,F,e,q⟩;cases dx with
 | int i=>
  cases z with
  | int j=>cases e;have:=B.int_inv;subst this;have:=F.int_inv;subst this;exact .inl ⟨i,j,rfl,rfl,q _ H (Ext.refl _ _) (.bl _)⟩
  | _=>cases e
 | tup l=>
  cases z with
  | tup m=>
   obtain⟨ns,M,e⟩:=bind_some e;obtain⟨ms,J,rfl⟩:=map_some e;obtain⟨a,xs,rfl,h1,U⟩:=B.tup_inv;obtain⟨b,ys,rfl,h2,G⟩:=F.tup_inv;have:=eG M U;subst this;have:=eG J G;subst this;exact .inr ⟨a,b,ns,ms,rfl,rfl,.inl (.inl h1),.inl (.inl h2),q _ H (Ext.refl _ _) (.bl _)⟩
  | _=>cases e
 | _=>cases z <;> cases e
open Classical in
def CD(x y:D):Option Bool:=match y with
 | .dK _=>(cH y x).map (·.isSome)
 | .dT _=>(cH y x).map (·.isSome)
 | .lst l=>if mF x=true/\l.all mF=true then some (l.any λd=>decide (d=x))else none
 | .tup l=>if mF x=true/\l.all mF=true then some (l.any λd=>decide (d=x))else none
 | _=>none
def YS(x y:D):Option D:=(CD x y).map .bl
def J3(x y:D):Option D:=(CD x y).map λb=>.bl (!b)
open Classical in
theorem kY(I:Inv X pins σ H s)(hu:Ar.units+60<cLine)(kx:mF x=true)(rx:RepB A H x v)(ru:RelV v u)(kl:l.all mF=true)(rl:RepL A H l xs)(J:Vals xs B) :
  ∃f:Value->Bool,(∀y∈B,zdl Ar s y u (f y))/\B.any f=l.any λd=>decide (d=x):=by
 obtain⟨F,G,a2,a3⟩:=l7 kx;have N:My.Rep X.K H F v:=iA G rx;let g:Value->Bool:=λy=>decide (∃w z,RelV w y/\My.Rep X.K H z w/\z=F)
 have one:∀ {d:D} {w:V} {y:Value},mF d=true->Rep A H d w->RelV w y->g y=decide (d=x)/\zdl Ar s y u (g y):=by
  intro d w y kd rd M;obtain⟨z,U,b2,b3⟩:=l7 kd;have W:My.Rep X.K H z w:=vG U rd;have e:g y=decide (z=F):=by
   refine decide_eq_decide.mpr ⟨λ⟨w',z',q1,q2,q3⟩=>?_,λe=>⟨w,z,M,W,e⟩⟩;have:=RelV.inj M q1;subst this;rw[My.Rep.inj I _ _ _ W q2,q3]
  have Y:decide (z=F)=decide (d=x):=decide_eq_decide.mpr ⟨λq=>oE U (q ▸ G),λq=>by subst q;rw[U]at G;exact zaD G⟩;refine⟨e.trans Y,?_⟩;rw[e];exact My.vE I 60 Ar z F w v y u b3 hu b2 a2 W N M ru
 refine⟨g,?_,?_⟩
 ·intro y hy
  obtain⟨j,hj⟩:=List.mem_iff_getElem?.mp hy;have ac:=J.length;have an:j<B.length:=(List.getElem?_eq_some_iff.mp hj).1;have hx:xs[j]?=some (xs[j]'(by lia)):=zaL (by lia);obtain⟨u',e1,r1⟩:=J.get hx;rw[hj]at e1;cases e1;obtain⟨d,Y,r2⟩:=rl.get hx;exact(one (List.all_eq_true.mp kl _ (zaI Y)) r2 r1).2
 ·have all:∀(l:List D) (xs:List V) (B:List Value),l.all mF=true->RepL A H l xs->Vals xs B->B.any g=l.any λd=>decide (d=x):=by
   intro l;induction l with
   | nil=>intro xs B _ r v;cases r;cases v;rfl
   | cons d l ih=>
    intro xs B k r v;cases r with
    | cons h t=>
     cases v with
     | cons r rs=>
      rw[zbK,zaK]at k;rw[zbz,zbz,(one k.1 h r).1,ih _ _ k.2 t rs]
  exact all l xs B kl rl J
theorem WV(hu:X.A.units+64<cLine):gE X (zaq .In) YS:=by
 intro pins s σ H x y v u Q I F ru h;obtain⟨A,dx,dy,d,lv,U,G,e,q⟩:=h;obtain⟨b,z,rfl⟩:=map_some e;have fin:∀k,k=b->EP X pins σ Q (.bool k) s:=λk hk=>⟨.bl b,H,I,by rw[hk];rfl,q _ H (Ext.refl _ _) (.bl _)⟩
 have Y:X.A.units+1<cLine:=by lia
 have dict:∀o,cH dy dx=some o->o.isSome=b->wpAny (model X.prog X.w) X.A (zaq .In v u) (EP X pins σ Q) X.xe s:=λo B ob=>by
  obtain⟨a,ov,rfl,_,g,e3⟩:=hZ B G U;cases ru;refine qa Y I g F λs' I'=>⟨.bl b,H,I',?_,q _ H (Ext.refl _ _) (.bl _)⟩
  have:ov.isSome=b:=by rw[<- ob];rcases e3 with⟨rfl,rfl⟩|⟨_,_,rfl,rfl,_⟩ <;> rfl
  rw[this];rfl
 cases dy with
 | dK l=>obtain⟨o,B,ob⟩:=map_some z;exact dict o B ob
 | dT l=>obtain⟨o,B,ob⟩:=map_some z;exact dict o B ob
 | lst l=>
  simp only[CD]at z;split at z
  case isFalse=>cases z
  rename_i hc;cases z;obtain⟨a,xs,rfl,h1,M⟩:=G.lst_inv;cases ru;obtain⟨ab,r,J,hz⟩:=I.list (.inl h1);obtain⟨f,W,N⟩:=kY (Ar:=X.A.in1) I (by show X.A.units+1+60<cLine;lia) hc.1 U F hc.2 M r;refine SeqAt.in_listAt f (My.PlainL.isList J) (λw hw=>W w (by simpa using hw)) (fin _ ?_);rw[<- N];simp
 | tup l=>
  simp only[CD]at z;split at z
  case isFalse=>cases z
  rename_i hc;cases z;obtain⟨a,xs,rfl,h1,M⟩:=G.tup_inv;cases ru;obtain⟨ab,r,J,hz⟩:=I.tuple (.inl (.inl h1));obtain⟨f,W,N⟩:=kY (Ar:=X.A.in1) I (by show X.A.units+1+60<cLine;lia) hc.1 U F hc.2 M r;refine SeqAt.in_tupleAt f J (λw hw=>W w (by simpa using hw)) (fin _ ?_);rw[<- N];simp
 | _=>cases z
theorem HJ(hu:X.A.units+64<cLine):gE X (zaq .NotIn) J3:=by
 intro pins s σ H x y v u Q I F ru h;obtain⟨A,dx,dy,d,lv,U,G,e,q⟩:=h;obtain⟨b,z,rfl⟩:=map_some e;have fin:∀k,k=(!b)->EP X pins σ Q (.bool k) s:=λk hk=>⟨.bl (!b),H,I,by rw[hk];rfl,q _ H (Ext.refl _ _) (.bl _)⟩
 have Y:X.A.units+1<cLine:=by lia
 have dict:∀o,cH dy dx=some o->o.isSome=b->wpAny (model X.prog X.w) X.A (zaq .NotIn v u) (EP X pins σ Q) X.xe s:=λo B ob=>by
  obtain⟨a,ov,rfl,_,g,e3⟩:=hZ B G U;cases ru;refine N8 Y I g F λs' I'=>⟨.bl (!b),H,I',?_,q _ H (Ext.refl _ _) (.bl _)⟩
  have:ov.isSome=b:=by rw[<- ob];rcases e3 with⟨rfl,rfl⟩|⟨_,_,rfl,rfl,_⟩ <;> rfl
  rw[this];rfl
 cases dy with
 | dK l=>obtain⟨o,B,ob⟩:=map_some z;exact dict o B ob
 | dT l=>obtain⟨o,B,ob⟩:=map_some z;exact dict o B ob
 | lst l=>
  simp only[CD]at z;split at z
  case isFalse=>cases z
  rename_i hc;cases z;obtain⟨a,xs,rfl,h1,M⟩:=G.lst_inv;cases ru;obtain⟨ab,r,J,hz⟩:=I.list (.inl h1);obtain⟨f,W,N⟩:=kY (Ar:=X.A.in1) I (by show X.A.units+1+60<cLine;lia) hc.1 U F hc.2 M r;refine SeqAt.notIn_listAt f (My.PlainL.isList J) (λw hw=>W w (by simpa using hw)) (fin _ ?_);rw[<- N];simp
 | tup l=>
  simp only[CD]at z;split at z
  case isFalse=>cases z
  rename_i hc;cases z;obtain⟨a,xs,rfl,h1,M⟩:=G.tup_inv;cases ru;obtain⟨ab,r,J,hz⟩:=I.tuple (.inl (.inl h1));obtain⟨f,W,N⟩:=kY (Ar:=X.A.in1) I (by show X.A.units+1+60<cLine;lia) hc.1 U F hc.2 M r;refine SeqAt.notIn_tupleAt f J (λw hw=>W w (by simpa using hw)) (fin _ ?_);rw[<- N];simp
 | _=>cases z
def dA:List D->Option D
 | [.lst l]=>some (.int l.length)
 | [.tup l]=>some (.int l.length)
 | [.str z]=>if aZ z.length then some (.int z.length)else none
 | [.dK l]=>some (.int l.length)
 | _=>none
theorem TZ:iH X (.builtin "len") dA:=by
 intro pins s σ H xs us Q I r h;obtain⟨A,ds,d,U,B,e,q⟩:=h
 match ds,B,e with
 | [.lst l],B,e=>
  cases e;obtain⟨v,rfl,h1⟩:=B.one;obtain⟨a,xs,rfl,h2,F⟩:=h1.lst_inv;exact rA pins s σ H _ us Q I r ⟨_,_,rfl,.inl ⟨xs,.inl h2,rfl⟩,by rw[F.length];exact q _ H (Ext.refl _ _) (.int _)⟩
 | [.tup l],B,e=>
  cases e;obtain⟨v,rfl,h1⟩:=B.one;obtain⟨a,xs,rfl,h2,F⟩:=h1.tup_inv;exact rA pins s σ H _ us Q I r ⟨_,_,rfl,.inr ⟨xs,.inl (.inl h2),rfl⟩,by rw[F.length];exact q _ H (Ext.refl _ _) (.int _)⟩
 | [.str z],B,e=>
  simp only[dA]at e;by_cases hz:aZ z.length=true
  ·rw[if_pos hz]at e;cases e
   obtain⟨v,rfl,h1⟩:=B.one;have:=h1.str_inv;subst this;exact rA pins s σ H _ us Q I r ⟨_,_,rfl,⟨gM hz,rfl⟩,q _ H (Ext.refl _ _) (.int _)⟩
  ·rw[if_neg hz]at e;cases e
 | [.dK l],B,e=>
  cases e;obtain⟨v,rfl,h1⟩:=B.one;obtain⟨a,xs,rfl,h2,G,F⟩:=h1.dK_inv;obtain⟨u,rfl,J⟩:=vals1 r;cases J;have M:xs.length=l.length:=by have:=congrArg zbH G;simpa using this
  exact WW I h2 λt s' N=>⟨.int xs.length,H,N,⟨t,rfl⟩,by rw[M];exact q _ H (Ext.refl _ _) (.int _)⟩
 | [],_,e=>cases e
 | [.non],_,e=>cases e
 | [.bl _],_,e=>cases e
 | [.int _],_,e=>cases e
 | [.dT _],_,e=>cases e
 | _::_::_,_,e=>simp[dA]at e
noncomputable def EC:List D->Option D
 | [.int i,.int j]=>some (.int (if j<i then j else i))
 | _=>none
noncomputable def D4:List D->Option D
 | [.int i,.int j]=>some (.int (if j>i then j else i))
 | _=>none
theorem yV{ds:List D}{g:Int->Int->D}(h:(match ds with|[.int i,.int j]=>some (g i j)|_=>none)=some d):∃i j,ds=[.int i,.int j]/\d=g i j:=by
 split at h
 ·cases h;exact⟨_,_,rfl,rfl⟩
 ·cases h
theorem NR(z:X.calm=true):iH X (.builtin "min") EC:=CallR.mono (FG z) <| by
 rintro xs H Q ⟨A,ds,d,B,r,e,q⟩;obtain⟨i,j,rfl,rfl⟩:=yV (g:=λi j=>.int (if j<i then j else i)) e;obtain⟨v,w,rfl,h1,h2⟩:=r.two;have:=h1.int_inv;subst this;have:=h2.int_inv;subst this;exact⟨i,j,rfl,q _ H (Ext.refl _ _) (.int _)⟩
theorem NW(z:X.calm=true):iH X (.builtin "max") D4:=CallR.mono (GD z) <| by
 rintro xs H Q ⟨A,ds,d,B,r,e,q⟩;obtain⟨i,j,rfl,rfl⟩:=yV (g:=λi j=>.int (if j>i then j else i)) e;obtain⟨v,w,rfl,h1,h2⟩:=r.two;have:=h1.int_inv;subst this;have:=h2.int_inv;subst this;exact⟨i,j,rfl,q _ H (Ext.refl _ _) (.int _)⟩
noncomputable def j7:List D->Option D
 | [.lst l]=>some (.tup l)
 | [.tup l]=>some (.tup l)
 | _=>none
noncomputable def uN:List D->Option D
 | [.lst l]=>some (.lst l)
 | [.tup l]=>some (.lst l)
 | _=>none
theorem DN{ds:List D}{g:List D->D}(h:(match ds with|[.lst l]=>some (g l)|[.tup l]=>some (g l)|_=>none)=some d):∃l,(ds=[.lst l]\/ds=[.tup l])/\d=g l:=by
 split at h
 ·cases h;exact⟨_,.inl rfl,rfl⟩
 ·cases h;exact⟨_,.inr rfl,rfl⟩
 ·cases h
theorem rK:iH X (.type "tuple") j7:=CallR.mono sU <| by
 rintro xs H Q ⟨A,ds,d,G,r,e,q⟩;obtain⟨l,F,rfl⟩:=DN (g:=.tup) e;rcases F with rfl|rfl
 ·obtain⟨v,rfl,h1⟩:=r.one
  obtain⟨a,xs,rfl,h2,z⟩:=h1.lst_inv;exact⟨a,xs,rfl,.inl ⟨.inl h2,λp B=>q _ _ (Ext.new B) (.tup aJ (z.ext (Ext.new B)))⟩⟩
 ·obtain⟨v,rfl,h1⟩:=r.one
  obtain⟨a,xs,rfl,h2,z⟩:=h1.tup_inv;exact⟨a,xs,rfl,.inr ⟨.inl (.inl h2),q _ H (Ext.refl _ _) (.tup h2 z)⟩⟩
theorem NX:zL X (.type "list") uN:=CallR.mono uY <| by
 rintro xs H Q ⟨A,ds,d,G,r,e,q⟩;obtain⟨l,J,rfl⟩:=DN (g:=.lst) e;rcases J with rfl|rfl
 ·obtain⟨v,rfl,h1⟩:=r.one
  obtain⟨a,xs,rfl,h2,F⟩:=h1.lst_inv;exact⟨a,xs,rfl,.inl (.inl h2),λp B=>q p _ (Ext.new B) B (λz=>G p z B) (.lst aJ (F.fresh B))⟩
 ·obtain⟨v,rfl,h1⟩:=r.one
  obtain⟨a,xs,rfl,h2,F⟩:=h1.tup_inv;exact⟨a,xs,rfl,.inr (.inl (.inl h2)),λp B=>q p _ (Ext.new B) B (λz=>G p z B) (.lst aJ (F.fresh B))⟩
end
section
variable {X:Cx}{O:List Nat}
noncomputable def qh:D->String
 | .non => "NoneType" | .bl _ => "bool" | .int _ => "int" | .str _ => "str" | .tup _ => "tuple" | .lst _ => "list" | .dK _ => "dict" | .dT _ => "dict"
def Z6(K:zaf):List V->Hp->VK->Prop:=λxs H Q=>∃A d x n b,xs=[x,.ty n]/\RepB A H d x/\zdi K (.type (qh d)) (.type n)=some b/\Q (.bl b) H
theorem HL:CallR X (.builtin "isinstance") (Z6 X.K):=by
 intro pins s σ H xs us Q I r h;obtain⟨A,d,x,n,b,rfl,B,e,q⟩:=h;have go:∀t,TyOf X.K H x t->t=.type (qh d)->wpAny (model X.prog X.w) X.A (call (.builtin "isinstance") us) (EP X pins σ Q) X.xe s:=λt J M=>by
  subst M;exact My.IJ pins s σ H _ us Q I r ⟨x,n,_,b,rfl,J,e,q⟩
 cases d with
 | non=>have:=B.non_inv;subst this;exact go _ .non rfl
 | bl c=>have:=B.bl_inv;subst this;exact go _ (.bl c) rfl
 | int c=>have:=B.int_inv;subst this;exact go _ (.int c) rfl
 | str c=>have:=B.str_inv;subst this;exact go _ (.str c) rfl
 | tup l=>obtain⟨a,xs,rfl,h1,_⟩:=B.tup_inv;exact go _ (.tup h1) rfl
 | lst l=>
  obtain⟨a,xs,rfl,h1,_⟩:=B.lst_inv;rcases h1 with h1|⟨o,h1⟩
  ·exact go _ (.lst h1) rfl
  ·exact go _ (.frz h1) rfl
 | dK l=>
  obtain⟨a,xs,rfl,h1,_⟩:=B.dK_inv;obtain⟨u,N,rfl,G,F⟩:=vals2 r;cases G;cases F;obtain⟨_,_,vs,_,p⟩:=(show ObjOk X.prog X.w H s.heap a (.dK xs)from h1.ok I.hok);obtain⟨o,es,ep,h1,h2,_⟩:=p;exact zby zdN I.kIn ⟨o,h1,h2.1⟩ e (λz=>nomatch z) λtk=>⟨.bl b,H,I.tok tk,rfl,q⟩
 | dT l=>
  obtain⟨a,xs,rfl,h1,_⟩:=B.dT_inv;obtain⟨u,N,rfl,G,F⟩:=vals2 r;cases G;cases F;obtain⟨_,_,xs,_,o,es,ep,h1,h2,_⟩:=(show ObjOk X.prog X.w H s.heap a (.dT xs)from h1.ok I.hok);exact zby zdN I.kIn ⟨o,h1,h2.1⟩ e (λz=>nomatch z) λtk=>⟨.bl b,H,I.tok tk,rfl,q⟩
noncomputable def wO(n:String)(d:D):Bool:=match d with
 | .non=>false
 | .bl _=>n == "bool" || n == "int"
 | .int _=>n == "int"
 | .str _=>n == "str"
 | .tup _=>n == "tuple"
 | .lst _=>n == "list"
 | .dK _=>n == "dict"
 | .dT _=>n == "dict"
def qp(n:String):Prop:=∀(K:zaf) (d:D),zdi K (.type (qh d)) (.type n)=some (wO n d)
theorem NZ:qp "int" := λK d=>by cases d <;> rfl
theorem GU:qp "bool" := λK d=>by cases d <;> rfl
def O7(n:String)(f:Ev):Ev:=λρ=>(f ρ).map λd=>.bl (wO n d)
theorem JP(z:qp n)(hg:Gl X "isinstance")(M:X.mg "isinstance" = none)(F:Gl X x)(B:X.mg x=none)(J:zaN x=some (.type n))(N:PB X O e f)(U:x ≠ "__name__" := by decide)(G:(x == ("__debug__" : Str))=false:=by decide)
  (h1:zah [e,.Name x p2] X.env=(false,eval e X.env)::zah [.Name x p2] X.env:=by rfl) (h2:(zaJ pos (zah [.Name x p2] X.env)).any (·.1)=false:=by rfl) (W:zah [.Name x p2] X.env=(false,eval (.Name x p2) X.env)::zah [] X.env:=by rfl) :
  PD X O (.Call (.Name "isinstance" p) [e,.Name x p2] [] pos) (O7 n f):=
 PE.mono (rB HL hg M My.boot_isinstance (gK N (gK (OP (v:=.ty n) F B J rfl U G) mD W) h1) (by decide) (by decide) h1 h2) <| by
  rintro σ H Q ⟨H0,A0,A,E,ρ,d,st,e,q⟩;obtain⟨x,ex,rfl⟩:=map_some e;exact⟨H0,A0,A,E,ρ,x,st,ex,λv H1 Y r1=>⟨A,x,v,n,_,rfl,r1,z _ _,q _ H1 Y (.bl _)⟩⟩
def rN:List Key->Option (List Int)
 | []=>some []
 | .inl i::ks=>(rN ks).map (i::·)
 | _=>none
theorem tQ:∀ {k:List Key} {ns:List Int},rN k=some ns->k=ns.map zam
 | [],ns,h=>by cases h;rfl
 | .inl i::ks,ns,h=>by obtain⟨ms,h1,rfl⟩:=map_some h;rw[tQ h1];rfl
theorem mU:∀ns:List Int,rN (ns.map zam)=some ns
 | []=>rfl
 | n::ns=>by rw[zak,rN,mU ns];rfl
def intKeys{α:Type}:List (List Key×α)->Option (List (List Int×α))
 | []=>some []
 | p::l=>(rN p.1).bind λns=>(intKeys l).map λr=>(ns,p.2)::r
def QF{α:Type}(p:List Int×α):List Key×α:=(p.1.map zam,p.2)
theorem jT{q:Type}:∀ {l:List (List Key×q)} {m:List (List Int×q)},intKeys l=some m->l=m.map QF
 | [],m,h=>by cases h;rfl
 | p::l,m,h=>by
  obtain⟨ns,h1,h⟩:=bind_some h;obtain⟨r,h2,rfl⟩:=map_some h;rw[zak,jT h2];congr 1;show p=(ns.map zam,p.2);rw[<- tQ h1]
theorem mW{q:Type}:∀m:List (List Int×q),intKeys (m.map QF)=some m
 | []=>rfl
 | p::m=>by rw[zak,intKeys,show(QF p).1=p.1.map zam from rfl,mU,mW m];rfl
noncomputable def v9(k:List Int):Bool:=(k.length == 1 || k.length == 2) && k.all λe=>decide (0<=e) && decide (e<=8)
theorem FA(h:v9 k=true):My.wA k:=by
 simp only[v9,zaK,zdn,beq_iff_eq,zcO,decide_eq_true_eq]at h;exact h
def D8:List D->Option D
 | [.dT l]=>(intKeys l).bind λm=>if m.all λp=>v9 p.1 then some (.dT l)else none
 | _=>none
theorem AX(h:D8 ds=some d):∃l m,ds=[.dT l]/\d=.dT l/\intKeys l=some m/\(m.all λp=>v9 p.1)=true:=by
 unfold D8 at h;split at h
 ·obtain⟨m,q,h⟩:=bind_some h
  split at h
  ·cases h;exact⟨_,m,rfl,rfl,q,by assumption⟩
  ·cases h
 ·cases h
theorem pJ{xs:List (List Key×V)}{m:List (List Int×D)}(e:xs.map (·.1)=(m.map QF).map (·.1)):∃ps:List (List Int×V),xs=ps.map My.kI/\ps.map (·.1)=m.map (·.1):=by
 induction m generalizing xs with
 | nil=>cases xs with
  | nil=>exact⟨[],rfl,rfl⟩
  | cons _ _=>cases e
 | cons p m ih=>cases xs with
  | nil=>cases e
  | cons x xs=>
   rw[zak,zak,zak]at e;injection e with e1 e2
   obtain⟨ps,h1,h2⟩:=ih e2;refine⟨(p.1,x.2)::ps,?_,by rw[zak,zak,h2]⟩;rw[zak,<- h1];congr 1;show x=(p.1.map zam,x.2);rw[<- show x.1=p.1.map zam from e1]
theorem N3:zL X (.type "dict") D8:=by
 intro pins s σ H xs us Q I r h;obtain⟨A,ds,d,M,rl,e,q⟩:=h;obtain⟨l,m,rfl,rfl,e1,e2⟩:=AX e;obtain⟨v,rfl,h1⟩:=rl.one;obtain⟨a,ys,rfl,h2,J,U⟩:=h1.dT_inv;have el:=jT e1;subst el;obtain⟨ps,rfl,N⟩:=pJ J;obtain⟨_,_,F,_⟩:=My.BO I h2;have hn:((ps.map My.kI).map λp=>(za2 (aV X.prog X.w)).hash p.1).Nodup:=by
  let cs:List My.Tm:=ps.map λp=>(p.1,(0:Int))
  have G:cs.map (·.1)=ps.map (·.1):=by rw[zaQ];rfl
  have:=My.BH X.prog X.w (cs:=cs) (by rw[G];exact F) (λt W=>by
   have:t.1∈m.map (·.1):=by rw[<- N,<- G];exact List.mem_map.mpr ⟨t,W,rfl⟩
   obtain⟨p,B,ep⟩:=List.mem_map.mp this;rw[<- ep];exact FA (List.all_eq_true.mp e2 p B))
  have Y:((cs.map My.kJ).map λp=>(za2 (aV X.prog X.w)).hash p.1)=(ps.map My.kI).map λp=>(za2 (aV X.prog X.w)).hash p.1:=by
   rw[zaQ,zaQ,zaQ];rfl
  rw[<- Y];exact this
 exact My.AE pins s σ H _ us Q I r ⟨a,_,rfl,h2,hn,λp B=>q p _ (Ext.new B) B (λz=>M p z B) (.dT aJ J (U.fresh B))⟩
def ins{α:Type}(p:List Int×α):List (List Int×α)->List (List Int×α)
 | []=>[p]
 | q::r=>if HT.lexLt p.1 q.1=true then p::q::r else q::ins p r
def bJ{α:Type}:List (List Int×α)->List (List Int×α)
 | []=>[]
 | p::r=>ins p (bJ r)
theorem ins_map{z B:Type}(f:z->B)(p:List Int×z):∀l:List (List Int×z),(ins p l).map (λx=>(x.1,f x.2))=ins (p.1,f p.2) (l.map λx=>(x.1,f x.2))
 | []=>rfl
 | q::r=>by
  rw[ins,zak,ins];by_cases h:HT.lexLt p.1 q.1=true
  ·rw[if_pos h,if_pos h];rfl
  ·rw[if_neg h,if_neg h,zak,ins_map f p r]
theorem iM{q z:Type}(f:q->z):∀l:List (List Int×q),(bJ l).map (λx=>(x.1,f x.2))=bJ (l.map λx=>(x.1,f x.2))
 | []=>rfl
 | p::r=>by rw[bJ,ins_map,iM f r,zak,bJ]
theorem rG{z:Type}(p:List Int×z):∀l:List (List Int×z),(ins p l).Perm (p::l)
 | []=>.refl _
 | q::r=>by
  rw[ins];by_cases h:HT.lexLt p.1 q.1=true
  ·rw[if_pos h]
  ·rw[if_neg h];exact((rG p r).cons q).trans (.swap ..)
theorem cX{q:Type}:∀l:List (List Int×q),(bJ l).Perm l
 | []=>.refl _
 | p::r=>(rG p (bJ r)).trans ((cX r).cons p)
def iU{q:Type}(l:List (List Int×q)):Prop:=l.Pairwise λa b=>HT.lexLt a.1 b.1=true
theorem pP{G:Type}(p:List Int×G):∀l:List (List Int×G),(∀q∈l,q.1≠p.1)->iU l->iU (ins p l)
 | [],_,_=>by rw[ins];exact List.pairwise_singleton _ _
 | q::r,hn,h=>by
  rw[ins];have B:=List.pairwise_cons.mp h;by_cases c:HT.lexLt p.1 q.1=true
  ·rw[if_pos c]
   refine List.pairwise_cons.mpr ⟨λx F=>?_,h⟩;rcases List.mem_cons.mp F with e|e
   ·rw[e];exact c
   ·exact My.wH _ _ _ c (B.1 x e)
  ·rw[if_neg c]
   refine List.pairwise_cons.mpr ⟨λx F=>?_,pP p r (λy J=>hn y (zav _ J)) B.2⟩;rcases List.mem_cons.mp ((rG p r).subset F)with e|e
   ·rw[e]
    rcases My.vC p.1 q.1 (λz=>hn q (zau ..) z.symm)with z|z
    ·exact absurd z c
    ·exact z
   ·exact B.1 x e
theorem kK{F:Type}:∀l:List (List Int×F),(l.map (·.1)).Nodup->iU (bJ l)
 | [],_=>List.Pairwise.nil
 | p::r,h=>by
  rw[zak,zdw]at h;refine pP p _ (λq B z=>h.1 ?_) (kK r h.2);exact List.mem_map.mpr ⟨q,(cX r).subset B,z⟩
theorem sQ{q:Type}{l m:List (List Int×q)}(h1:iU l)(h2:iU m)(z:l.Perm m):l=m:=by
 refine List.Perm.eq_of_pairwise (le:=λ(a b:List Int×q)=>HT.lexLt a.1 b.1=true) (λa b _ _ x y=>?_) h1 h2 z;have:=My.wH _ _ _ x y;rw[My.vL]at this;cases this
theorem wZ{m:List (List Int×D)}{ps z:List (List Int×V)}(N:(ps.map (·.1)).Nodup)(h:PP A H (m.map QF) (ps.map My.kI))(hs:My.wB z)(W:z.Perm ps):zaU (λ(p:List Int×D) (q:List Int×V)=>p.1=q.1/\Rep A H p.2 q.2) (bJ m) z:=by
 -- both by one list of triples
 have J:∀ {m:List (List Int×D)} {ps:List (List Int×V)},PP A H (m.map QF) (ps.map My.kI)->∃ts:List (List Int×(D×V)),m=ts.map (λt=>(t.1,t.2.1))/\ps=ts.map (λt=>(t.1,t.2.2))/\∀t∈ts,Rep A H t.2.1 t.2.2:=by
  intro m;induction m with
  | nil=>intro ps h;cases ps with
   | nil=>exact⟨[],rfl,rfl,λ_ h=>nomatch h⟩
   | cons _ _=>cases h
  | cons p m ih=>intro ps h;cases ps with
   | nil=>cases h
   | cons q ps=>
    cases h with
    | cons h t=>
     obtain⟨ts,G,F,M⟩:=ih t;have U:p.1=q.1:=My.iT.mp h.1;refine⟨(p.1,(p.2,q.2))::ts,by rw[zak,<- G],by rw[zak,<- F];congr 1;rw[U],λt B=>?_⟩;rcases List.mem_cons.mp B with e|e
     ·rw[e];exact h.2
     ·exact M t e
 obtain⟨ts,G,F,M⟩:=J h;have d1:bJ m=(bJ ts).map λt=>(t.1,t.2.1):=by rw[G,iM]
 have d2:z=(bJ ts).map λt=>(t.1,t.2.2):=by
  have Y:iU (bJ ps):=kK ps N;have:=sQ (l:=z) (m:=bJ ps) hs Y (W.trans (cX ps).symm);rw[this,F,iM]
 rw[d1,d2];refine My.gI _ λt B=>⟨rfl,M t ((cX ts).subset B)⟩
theorem yC:∀ns:List Int,RepL A H (ns.map .int) (ns.map V.int)
 | []=>.nil
 | n::ns=>.cons (.int n) (yC ns)
theorem UZ{o:Expr}{name:Str}{id:String}{r:V->List V->Hp->VK->Prop}{to:TE}{apos cpos:Pos}(B:Slot "dict" name id)(F:typeOf (.builtin id)=pure (.type "method_descriptor"))(N:MtR X id r)(M:PE X o to)
  (q:zcH o name X.env (eval o X.env)=eval o X.env:=by rfl) (z:(apos.endLine == cpos.line)=true:=by rfl):PE X (.Call (.Attribute o name apos) [] [] cpos) (λσ H Q=>to σ H λx H1=>∃a,x=.ref a/\VG H1 a/\r x [] H1 Q):=by
 intro pins s σ H Q I h;refine wpAny_Call_method0_late q z (bN (M pins s σ H _ I h) λv W ⟨x,H1,J,Y,a,ex,G,U⟩=>?_);subst ex;cases Y;obtain⟨h1,h2,_⟩:=B3 J G;exact⟨"dict",id,zeV,B,F,h1,h2,zdV rfl (PySem.evalArgs_none (N pins W σ H1 (.ref a) [] (.ref a) [] Q J rfl .nil U))⟩
def uP(g:D->Option D)(f:Ev):Ev:=λρ=>(f ρ).bind g
def rE:D->Option D
 | .dT l=>(intKeys l).bind λm=>if m.length<64 then some (.lst ((bJ m).map λp=>.tup [.tup (p.1.map .int),p.2]))else none
 | _=>none
theorem AD(hc:X.calm=true)(hu:X.A.units+64<cLine)(hg:Gl X "sorted")(hm:X.mg "sorted" = none)(ho:PB X O o f)
  (hp:∀ {to:TE},PE X o to->PE X (.Call (.Attribute o "items" apos) [] [] cpos) (λσ H Q=>to σ H λx H1=>∃a,x=.ref a/\VG H1 a/\My.J0 x [] H1 Q))
  (he:zah [.Call (.Attribute o "items" apos) [] [] cpos] X.env=(false,eval (.Call (.Attribute o "items" apos) [] [] cpos) X.env)::zah [] X.env:=by rfl) (ac:(zaJ pos (zah [] X.env)).any (·.1)=false:=by rfl) :
  PF X O (.Call (.Name "sorted" p) [.Call (.Attribute o "items" apos) [] [] cpos] [] pos) (uP rE f):=by
 have G:CallR X (.builtin "sorted") (λxs H Q=>∃A r a ys m,xs=[.ref r]/\Live A H/\H r=some (.ext λh=>h.IsItemsView r a)/\Rd H a (.dT ys)/\ys.map (·.1)=(m.map QF).map (·.1)/\RepL A H ((m.map QF).map (·.2)) (ys.map (·.2))/\m.length<64/\∀a H',Ext A H H'->H a=none->¬ A a->Own (λb=>A b\/b=a) H' (.lst ((bJ m).map λp=>.tup [.tup (p.1.map .int),p.2])) a->Q (.ref a) H'):=by
  intro pins s σ H xs us Q I r h;obtain⟨A,r',a,ys,m,rfl,lv,B,h2,M,r3,F,q⟩:=h;obtain⟨ps,rfl,e4⟩:=pJ M;obtain⟨_,_,W,_⟩:=My.BO I h2;have ae:ps.length=m.length:=by have:=congrArg zbH e4;simpa using this
  refine My.uQ hc hu pins s σ H _ us Q I r ⟨r',a,ps,rfl,B,h2,by lia,λla us J H2 sm N h3 pr pm so=>?_⟩;have sb:=wZ (A:=A) (H:=H) W (uM M r3) so pm;have up:∀ {d:D} {v:V},Rep A H d v->Rep (λb=>A b\/b=la) H2 d v:=λr=>by
   have r1:Rep (λb=>A b\/b=la) H _ _:=r.av λb Y=>Y.imp id λz=>by rw[z];exact N
   exact r1.ext (Ext.same sm)
  have ad:∀ {ts:List (List Int×D)} {J:List (List Int×V)} {us:List V},zaU (λ(p:List Int×D) (q:List Int×V)=>p.1=q.1/\Rep A H p.2 q.2) ts J->zaU (My.qi H2) us J->RepL (λb=>A b\/b=la) H2 (ts.map λp=>.tup [.tup (p.1.map .int),p.2]) us:=by
   intro ts J us h;induction h generalizing us with
   | nil=>intro h;cases h;exact .nil
   | cons h t ih=>
    intro h';cases h' with
    | cons h' t'=>
     obtain⟨a,b,rfl,ha,Y⟩:=h';exact .cons (.tup ha (.cons (.tup Y (by rw[h.1];exact yC _)) (.cons (up h.2) .nil))) (ih t')
  exact q la H2 (Ext.same sm) N (λz=>lv la z N) (.lst h3 (ad sb pr))
 refine PE.mono (rB G hg hm My.boot_sorted (gK (hp ho) mD he) (by decide) (by decide) he ac) λσ H Q ⟨H0,A0,A,E,ρ,d,st,e,q⟩=>?_
 obtain⟨x,ex,e⟩:=bind_some e;cases x with
 | dT l=>
  obtain⟨m,e1,e⟩:=bind_some e;split at e
  case isFalse=>cases e
  rename_i F;cases e;have el:=jT e1;subst el;refine⟨H0,A0,A,E,ρ,_,st,ex,λv H1 U r1=>?_⟩;obtain⟨a,ys,rfl,h2,M,r3⟩:=r1.dT_inv;refine⟨a,rfl,.inr ⟨ys,h2⟩,a,ys,rfl,rfl,h2,λr B=>⟨A,r,a,ys,m,rfl,Live.ext (st.mono U).live (Ext.new B),aJ,fG (λz=>?_) h2,M,r3.ext (Ext.new B),F,λa' H' x' n na o=>?_⟩⟩
  ·subst z;rcases h2 with h2|⟨_,h2⟩ <;> (rw[B]at h2;cases h2)
  ·have x2:=(U.trans (Ext.new B)).trans x'
   exact q a' H' x2 ((U.trans (Ext.new B)).free n) na o
 | _=>cases e
end
def j8:D->Option Int->Option Int->Option D
 | .tup l,lo,hi=>some (.tup (cutD l lo hi))
 | .lst l,lo,hi=>some (.lst (cutD l lo hi))
 | _,_,_=>none
theorem Y1:SlR X (rS j8):=SlR.mono (SlR.or Y9 (SlR.mono ZV λx lo hi H Q (h:rS XD x lo hi H Q)=>by
  obtain⟨A,dx,d,z,B,e,q⟩:=h;exact⟨A,dx,d,z,B,e,λa H' x n F o=>q _ H' x ((o.av (A':=A) λb G=>.inl (.inl G)).rep F)⟩)) λx lo hi H Q ⟨A,dx,d,z,B,e,q⟩=>by
 cases dx with
 | tup l=>exact .inl ⟨A,_,d,z,B,e,q⟩
 | lst l=>exact .inr ⟨A,_,d,z,B,e,q⟩
 | _=>cases e
section
variable {ρ:dB}{f g:Ev}{d x y:D}{i j:Int}{k:Nat}
@[simp] theorem q_seq{f g:Sv}:bM f g ρ=(f ρ).bind λo=>match o with | .nx ρ'=>g ρ'|o=>some o:=rfl
@[simp] theorem q_set:bS k f ρ=(f ρ).map λd=>.nx (ρ.set k (some d)):=rfl
@[simp] theorem q_if{c:Bv}{f g:Sv}:jI c f g ρ=(c ρ).bind λb=>if b=true then f ρ else g ρ:=rfl
@[simp] theorem q_rt:sM f ρ=(f ρ).map .rt:=rfl
@[simp] theorem q_nx:mH ρ=some (.nx ρ):=rfl
@[simp] theorem q_bad:PJ ρ=none:=rfl
@[simp] theorem q_asg{g:Gv}:PH f g ρ=(f ρ).bind λd=>(g d ρ).map .nx:=rfl
@[simp] theorem q_for{f:Lv}{g:Gv}{b:Sv}:gC f g b ρ=(f ρ).bind λitems=>bV g b items ρ:=rfl
@[simp] theorem q_drop:K5 f ρ=(f ρ).map λ_=>.nx ρ:=rfl
@[simp] theorem q_app:B5 k f ρ=(aB k ρ).bind λx=>match x with
 | .lst l=>(f ρ).bind λd=>if aZ l.length then some (.nx (ρ.set k (some (.lst (l++[d])))))else none
 | _=>none:=rfl
@[simp] theorem q_put:wU k f g ρ=(g ρ).bind λe=>(aB k ρ).bind λx=>(f ρ).bind λq=>(sI x q e).map λd=>.nx (ρ.set k (some d)):=rfl
@[simp] theorem q_var:aB k ρ=(ρ[k]?).join:=rfl
@[simp] theorem q_c:eC d ρ=some d:=rfl
@[simp] theorem q_op:aY o f g ρ=(f ρ).bind λx=>(g ρ).bind λy=>o x y:=rfl
@[simp] theorem q_call:aQ F l ρ=(l ρ).bind F:=rfl
@[simp] theorem q_lnil:aT ρ=some []:=rfl
@[simp] theorem q_lcons:aC f l ρ=(f ρ).bind λx=>(l ρ).bind λxs=>some (x::xs):=rfl
@[simp] theorem q_tup:fP l ρ=(l ρ).map .tup:=rfl
@[simp] theorem q_lst:tE l ρ=(l ρ).map .lst:=rfl
@[simp] theorem q_bind:uP o f ρ=(f ρ).bind o:=rfl
@[simp] theorem q_bof:eM f ρ=(f ρ).bind CH:=rfl
@[simp] theorem q_asB:CH (.bl b)=some b:=rfl
@[simp] theorem q_asI:QL (.int i)=some i:=rfl
@[simp] theorem q_bnot:B8 c ρ=(c ρ).map (!·):=rfl
@[simp] theorem q_band:wN a b ρ=(a ρ).bind λx=>if x=true then b ρ else some false:=rfl
@[simp] theorem q_bor:VP a b ρ=(a ρ).bind λx=>if x=true then some true else b ρ:=rfl
@[simp] theorem q_and:sY f g ρ=(f ρ).bind λx=>(CH x).bind λb=>if b=true then g ρ else some (.bl false):=rfl
@[simp] theorem q_not:YC f ρ=(f ρ).bind λx=>(CH x).map λb=>.bl (!b):=rfl
@[simp] theorem q_neg:PL f ρ=(f ρ).bind λd=>(QL d).map λi=>.int (-i):=rfl
@[simp] theorem q_ifx:eIf c f g ρ=(c ρ).bind λb=>if b=true then f ρ else g ρ:=rfl
@[simp] theorem q_isi:O7 n f ρ=(f ρ).map λd=>.bl (wO n d):=rfl
@[simp] theorem q_get2:sC a b c ρ=(a ρ).bind λd=>(b ρ).bind λk=>(c ρ).bind λe=>(cH d k).map λo=>o.getD e:=rfl
@[simp] theorem q_sl:LN o f a b ρ=(f ρ).bind λx=>(a ρ).bind λlo=>(b ρ).bind λhi=>o x lo hi:=rfl
@[simp] theorem q_oN:sE ρ=some none:=rfl
@[simp] theorem q_oS:lK f ρ=(f ρ).bind λd=>(QL d).map some:=rfl
@[simp] theorem q_lR:lR o l ρ=(l ρ).bind o:=rfl
@[simp] theorem q_lSeq:LI f ρ=(f ρ).bind λd=>match d with
 | .lst l=>some l
 | .tup l=>some l
 | .dT l=>some (l.map λp=>.tup (p.1.map nX))
 | _=>none:=rfl
@[simp] theorem q_comp{ms:List (Option Nat)}{it:Lv}{g:Gv}{c:Bv}:jH ms it g c f ρ=(it ρ).bind λitems=>if aZ items.length then(bW g c f items (sL ms ρ)).map .lst else none:=rfl
@[simp] theorem q_yes:zQ ρ=some true:=rfl
@[simp] theorem q_name:aH k d ρ=some (ρ.set k (some d)):=rfl
@[simp] theorem q_gnil:bU [] ρ=some ρ:=rfl
@[simp] theorem q_gcons{g:Gv}{h:QI}{ds:List D}:aM g h (d::ds) ρ=(g d ρ).bind λρ'=>h ds ρ':=rfl
@[simp] theorem q_gtup:bO n h (.tup l) ρ=if l.length=n then h l ρ else none:=rfl
@[simp] theorem q_sub:zU (.int i) (.int j)=some (.int (i-j)):=rfl
@[simp] theorem q_addI:uL (.int i) (.int j)=some (.int (i+j)):=rfl
@[simp] theorem q_ltI:qt (.int i) (.int j)=some (.bl (decide (i<j))):=rfl
@[simp] theorem q_gtI:zS (.int i) (.int j)=some (.bl (decide (j<i))):=rfl
@[simp] theorem q_geI:XE (.int i) (.int j)=some (.bl (decide (j<=i))):=rfl
@[simp] theorem q_eqI:zZ (.int i) (.int j)=some (.bl (decide (i=j))):=by
 unfold zZ LL;rw[if_pos (.inl rfl)];simp
@[simp] theorem q_neI:wW (.int i) (.int j)=some (.bl (!decide (i=j))):=by
 unfold wW LL;rw[if_pos (.inl rfl)];simp
@[simp] theorem q_eqB:zZ (.bl a) (.bl b)=some (.bl (decide (a=b))):=by
 unfold zZ LL;rw[if_pos (.inl rfl)];simp
@[simp] theorem q_neB:wW (.bl a) (.bl b)=some (.bl (!decide (a=b))):=by
 unfold wW LL;rw[if_pos (.inl rfl)];simp
theorem bI(h:0<j):dY (.int i) (.int j)=some (.int (i%j)):=if_pos h
theorem f9(h:0<j)(h2:j<1073741824):sZ (.int i) (.int j)=some (.int (i/j)):=if_pos ⟨h,h2⟩
theorem zM(h:0<=j)(h2:j<=1000000)(q:i.natAbs<2^64):CB (.int i) (.int j)=some (.int (i^j.toNat)):=if_pos ⟨h,h2,q⟩
@[simp] theorem q_isN:GK d .non=some (.bl (dZ d)):=rfl
@[simp] theorem q_notN:uO d .non=some (.bl (!dZ d)):=rfl
@[simp] theorem q_lenL:dA [.lst l]=some (.int l.length):=rfl
@[simp] theorem q_lenT:dA [.tup l]=some (.int l.length):=rfl
@[simp] theorem q_min:EC [.int i,.int j]=some (.int (if j<i then j else i)):=rfl
@[simp] theorem q_max:D4 [.int i,.int j]=some (.int (if j>i then j else i)):=rfl
@[simp] theorem q_tuL:j7 [.lst l]=some (.tup l):=rfl
@[simp] theorem q_tuT:j7 [.tup l]=some (.tup l):=rfl
@[simp] theorem q_liL:uN [.lst l]=some (.lst l):=rfl
@[simp] theorem q_liT:uN [.tup l]=some (.lst l):=rfl
@[simp] theorem q_slT{l:List D}{lo hi:Option Int}:j8 (.tup l) lo hi=some (.tup (cutD l lo hi)):=rfl
@[simp] theorem q_slL{l:List D}{lo hi:Option Int}:j8 (.lst l) lo hi=some (.lst (cutD l lo hi)):=rfl
@[simp] theorem q_itL:aI (.lst l) (.int i)=dW l i:=rfl
@[simp] theorem q_itT:aI (.tup l) (.int i)=dW l i:=rfl
@[simp] theorem q_itD:aI (.dT l) d=(cH (.dT l) d).join:=rfl
@[simp] theorem isi_int_int:wO "int" (.int i)=true:=rfl
@[simp] theorem isi_bool_int:wO "bool" (.int i)=false:=rfl
@[simp] theorem isi_tuple_tup:wO "tuple" (.tup l)=true:=rfl
@[simp] theorem isi_list_lst:wO "list" (.lst l)=true:=rfl
end
def turn(g:Gv)(b:Sv)(x:D):Sv:=λρ=>(g x ρ).bind b
theorem dX(I:Nat->dB->Prop)(h0:I 0 ρ)(hs:∀i x ρ,items[i]?=some x->I i ρ->∃ρ',turn g b x ρ=some (.nx ρ')/\I (i+1) ρ'):∃ρ',bV g b items ρ=some (.nx ρ')/\I items.length ρ':=by
 have B:∀(m:List D) (k:Nat) (ρ:dB),items.drop k=m->k<=items.length->I k ρ->∃ρ',bV g b m ρ=some (.nx ρ')/\I items.length ρ':=by
  intro m;induction m with
  | nil=>
   intro k ρ e N h;have:items.length<=k:=by rw[List.drop_eq_nil_iff]at e;exact e
   have:k=items.length:=by lia
   subst this;exact⟨ρ,rfl,h⟩
  | cons x m ih=>
   intro k ρ e N h;have q:k<items.length:=by
    rcases Nat.lt_or_ge k items.length with z|z
    ·exact z
    ·rw[List.drop_eq_nil_iff.mpr z]at e;cases e
   rw[zep q]at e;injection e with e1 e2
   obtain⟨ρ',h1,h2⟩:=hs k x ρ (by rw[<- e1];simp[q]) h;obtain⟨ρ2,M,G⟩:=ih (k+1) ρ' e2 q h2;refine⟨ρ2,?_,G⟩;unfold turn at h1;obtain⟨ρ1,F,J⟩:=bind_some h1;unfold bV;rw[F];show(b ρ1).bind _=_;rw[J];exact M
 exact B items 0 ρ rfl (zaZ _) h0
theorem aN(h:f (aL n ds)=some (.rt d)):bA n f ds=some d:=by
 unfold bA;rw[h];rfl
theorem SI(h:f (aL n ds)=some (.nx ρ)):bA n f ds=some .non:=by
 unfold bA;rw[h];rfl
theorem aG(h:f ρ=some (.nx ρ')):bM f g ρ=g ρ':=by
 unfold bM;rw[h];rfl
theorem mB(h:f ρ=some (.rt d)):bM f g ρ=some (.rt d):=by
 unfold bM;rw[h];rfl
theorem Y4(h:c ρ=some false):jI c f g ρ=g ρ:=by
 unfold jI;rw[h];rfl
theorem aO(h:f ρ=some d):bS k f ρ=some (.nx (ρ.set k (some d))):=by
 unfold bS;rw[h];rfl
theorem XN(h:f ρ=some d):sM f ρ=some (.rt d):=by
 unfold sM;rw[h];rfl
theorem cF{f:Lv}{g:Gv}{b rest:Sv}{ρ:dB}{items:List D}{q:Option Out}(z:f ρ=some items)(I:Nat->dB->Prop)(h0:I 0 ρ)(hs:∀i x ρ,items[i]?=some x->I i ρ->∃ρ',turn g b x ρ=some (.nx ρ')/\I (i+1) ρ')(k:∀ρ',I items.length ρ'->rest ρ'=q):bM (gC f g b) rest ρ=q:=by
 obtain⟨ρ',e,h⟩:=dX (g:=g) (b:=b) I h0 hs;rw[aG (by rw[q_for,z];exact e)];exact k ρ' h
open My (look put bX lL b8)
def kD(t:My.Tm):List Key×D:=(t.1.map zam,.int t.2)
noncomputable def tupI(k:List Int):D:=.tup (k.map .int)
def bQ(t:My.Tm):D:=.tup [tupI t.1,.int t.2]
theorem tZ:∀k:List Int,LC (k.map .int)=some (k.map zam)
 | []=>rfl
 | i::k=>by rw[zak,LC,tZ k];rfl
@[simp] theorem asT_tupI(k:List Int):zW (tupI k)=some (k.map zam):=tZ k
theorem UG(cs:List My.Tm)(k:List Int):b7 (cs.map kD) (k.map zam:List Key)=(look cs k).map D.int:=by
 induction cs with
 | nil=>rfl
 | cons t cs ih=>
  rw[zak];by_cases e:t.1=k
  ·have:(kD t).1=k.map zam:=by show t.1.map zam=_;rw[e]
   simp[b7,look,za8,this,e,kD]
  ·have:¬ (kD t).1=k.map zam:=by show ¬ t.1.map zam=_;rw[My.iT];exact e
   have a:b7 (kD t::cs.map kD) (k.map zam)=b7 (cs.map kD) (k.map zam):=by simp[b7,za8,this]
   rw[a,ih];simp[look,za8,e]
theorem JU(cs:List My.Tm)(k:List Int)(c:Int):putD (cs.map kD) (k.map zam:List Key) (.int c)=(put cs k c).map kD:=by
 unfold putD put;have e:((cs.map kD).any λB=>decide (B.1=(k.map zam:List Key)))=cs.any λt=>decide (t.1=k):=by
  rw[List.any_map];congr 1;funext t;exact decide_eq_decide.mpr (My.iT (a:=t.1) (b:=k))
 rw[e];by_cases h:(cs.any λt=>decide (t.1=k))=true
 ·rw[if_pos h,if_pos h,zaQ,zaQ]
  congr 1;funext t;show(if t.1.map zam=(k.map zam:List Key)then((t.1.map zam:List Key),D.int c)else kD t)=kD (if t.1=k then(t.1,c)else t);by_cases z:t.1=k
  ·rw[if_pos z,if_pos (My.iT.mpr z)];rfl
  ·rw[if_neg z,if_neg (λq=>z (My.iT.mp q))]
 ·rw[if_neg h,if_neg h,za4]
  rfl
@[simp] theorem look_kD(cs:List My.Tm)(k:List Int):cH (.dT (cs.map kD)) (tupI k)=some ((look cs k).map D.int):=by
 show(zW (tupI k)).map _=_;rw[asT_tupI,zae,UG]
theorem DL(k:List Int)(c:Int)(h:cs.length<=1000000):sI (.dT (cs.map kD)) (tupI k) (.int c)=some (.dT ((put cs k c).map kD)):=by
 show(zW (tupI k)).bind _=_;rw[asT_tupI,zad,if_pos (by rw[aZ,zal];exact decide_eq_true h),JU]
theorem AI(cs:List My.Tm):intKeys (cs.map kD)=some (cs.map λt=>(t.1,D.int t.2)):=by
 have:=mW (cs.map λt=>(t.1,D.int t.2));rw[zaQ]at this;exact this
theorem BE(h:cs.length<64):rE (.dT (cs.map kD))=some (.lst ((bJ cs).map bQ)):=by
 show(intKeys (cs.map kD)).bind _=_;rw[AI,zad,if_pos (by rw[zal];exact h)];have:(bJ (cs.map λt=>(t.1,D.int t.2)))=(bJ cs).map λt=>(t.1,D.int t.2):=(iM D.int cs).symm
 rw[this,zaQ];rfl
theorem UO(q:0<c)(h:i<My.rsz a b c):a+(i:Int)*c<b:=by
 unfold My.rsz zbR at h;rw[if_pos (by lia)]at h;split at h
 ·have h1:(i:Int)<=(b-a-1)/c:=by lia
  have h2:(i:Int)*c<=(b-a-1)/c*c:=Int.mul_le_mul_of_nonneg_right h1 (by lia);have z:=Int.ediv_mul_le (b-a-1) (show c≠0 by lia)
  lia
 ·simp at h
theorem VE(z:n=1\/n=2)(a b:Int):∃k:List Int,cutD [.int a,.int b] none (some n)=k.map .int/\(k.length:Int)=n/\∀e∈k,e=a\/e=b:=by
 rcases z with rfl|rfl
 ·exact⟨[a],rfl,rfl,λe q=>by simp at q;exact .inl q⟩
 ·exact⟨[a,b],rfl,rfl,λe q=>by simpa using q⟩
theorem yA{ns:List Int}{k:Int}(h0:0<=k)(h:k<(ns.length:Int)):∃c,dW (ns.map D.int) k=some (.int c)/\ns[k.toNat]?=some c:=by
 obtain⟨j,rfl⟩:∃j:Nat,k=(j:Int):=⟨k.toNat,by lia⟩;have q:j<ns.length:=by lia
 exact⟨ns[j],bG (by simp[q]),by simp[q]⟩
noncomputable def cP:D->Option (List D)
 | .lst l=>some l
 | .tup l=>some l
 | _=>none
noncomputable def gA:List D->List D->List D
 | x::xs,y::ys=>.tup [x,y]::gA xs ys
 | _,_=>[]
def wR(f:Lv):Lv:=λρ=>(f ρ).bind λds=>match ds with
 | [a,b]=>(cP a).bind λxs=>(cP b).map λys=>gA xs ys
 | _=>none
theorem yX:∀ {xs ys:List D} {i:Nat} {d:D},(gA xs ys)[i]?=some d->∃x y,xs[i]?=some x/\ys[i]?=some y/\d=.tup [x,y]
 | [],_,i,d,h=>by simp[gA]at h
 | _::_,[],i,d,h=>by simp[gA]at h
 | x::xs,y::ys,0,d,h=>by simp[gA]at h;exact⟨x,y,rfl,rfl,h.symm⟩
 | x::xs,y::ys,i+1,d,h=>yX (xs:=xs) (ys:=ys) (i:=i) (by simpa[gA]using h)
theorem yH:∀ {xs ys:List D} {i:Nat},(gA xs ys).length<=i->xs.length<=i\/ys.length<=i
 | [],_,i,_=>.inl (zaZ _)
 | _::_,[],i,_=>.inr (zaZ _)
 | x::xs,y::ys,0,h=>by simp[gA]at h
 | x::xs,y::ys,i+1,h=>(yH (xs:=xs) (ys:=ys) (i:=i) (by simpa[gA]using h)).imp (λz=>by simpa using z) λz=>by simpa using z
theorem iY{A:Av}{H:Hp}{K:zaf}{d:D}{l:List D}{v:V}(h:cP d=some l)(r:Rep A H d v):∃t a xs,v=.ref a/\My.lO K t H a xs/\RepL A H l xs/\∀A' H',Rep A' H' d v->∃ys,My.lO K t H' a ys/\RepL A' H' l ys:=by
 cases d with
 | lst m=>
  cases h;obtain⟨a,xs,rfl,h1,q⟩:=RepB.lst_inv (.of r);refine⟨false,a,xs,rfl,.inl h1,q,λA' H' B=>?_⟩;obtain⟨F,ys,e,h2,z⟩:=RepB.lst_inv (.of B);cases e;exact⟨ys,.inl h2,z⟩
 | tup m=>
  cases h;obtain⟨a,xs,rfl,h1,q⟩:=RepB.tup_inv (.of r);refine⟨true,a,xs,rfl,.inl (.inl h1),q,λA' H' B=>?_⟩;obtain⟨F,ys,e,h2,z⟩:=RepB.tup_inv (.of B);cases e;exact⟨ys,.inl (.inl h2),z⟩
 | _=>cases h
theorem L6{X:Cx}{O:List Nat}{G:List Expr}{Y}{tp:Pos}{a b:Expr}{f:Lv}{p pos:Pos}(hg:Gl X "zip")(hm:X.mg "zip" = none)(ha:zX X O [a,b] f)(hs:zah [a,b] X.env=[(false,eval a X.env),(false,eval b X.env)]:=by rfl)(W:zah [b] X.env=[(false,eval b X.env)]:=by rfl) :
  PDI X O (.Tuple G Y tp) (.Call (.Name "zip" p) [a,b] [] pos) (wR f):=PI.mono (My.RJ hg hm ha hs W) λσ H R ⟨H0,A0,A,E,ρ,items,st,e,q⟩=>by
 obtain⟨ds,e1,e⟩:=bind_some e;refine⟨H0,A0,A,E,ρ,ds,st,e1,λvs H1 Y r1=>?_⟩;split at e
 case h_2=>cases e
 rename_i da db;obtain⟨xs,e2,e⟩:=bind_some e;obtain⟨ys,e3,rfl⟩:=map_some e;obtain⟨v,w,rfl,r2,r3⟩:=r1.two;obtain⟨t1,N,us,rfl,q1,_,k1⟩:=iY (K:=X.K) e2 r2;obtain⟨t2,U,ws,rfl,q2,_,k2⟩:=iY (K:=X.K) e3 r3;refine⟨t1,t2,N,U,us,ws,rfl,q1,q2,q _ H1 [.rep da (.ref N),.rep db (.ref U)] Y (λp hp=>?_) ?_⟩
 ·rcases List.mem_cons.mp hp with z|z
  ·rw[z];exact r2
  ·rw[List.mem_singleton.mp z];exact r3
 ·intro A' H' lv hE i
  have a1:Rep A' H' da (.ref N):=hE (.rep da (.ref N)) (zau ..);have a2:Rep A' H' db (.ref U):=hE (.rep db (.ref U)) (zav _ (zau ..));obtain⟨F,g1,M⟩:=k1 A' H' a1;obtain⟨B,g2,J⟩:=k2 A' H' a2;refine⟨λhi=>⟨F,B,g1,g2,(yH hi).imp (λz=>by rw[M.length];exact z) λz=>by rw[J.length];exact z⟩,λd hd=>?_⟩;obtain⟨x,y,ex,ey,rfl⟩:=yX hd;obtain⟨u,eu,ru⟩:=M.get' ex;obtain⟨w,ew,ab⟩:=J.get' ey;refine⟨⟨F,B,g1,g2,(List.getElem?_eq_some_iff.mp eu).1,(List.getElem?_eq_some_iff.mp ew).1⟩,λx' H2 ⟨p,u',w',e4,n,e5,e6⟩=>?_⟩;subst e4 e5;obtain⟨z1,z2⟩:=e6 F B g1 g2;rw[eu]at z1;cases z1;rw[ew]at z2;cases z2;exact⟨Ext.new n,.tup aJ (.cons (ru.ext (Ext.new n)) (.cons (ab.ext (Ext.new n)) .nil))⟩
@[simp] theorem q_zip:wR f ρ=(f ρ).bind λds=>match ds with
 | [a,b]=>(cP a).bind λxs=>(cP b).map λys=>gA xs ys
 | _=>none:=rfl
@[simp] theorem q_seqL:cP (.lst l)=some l:=rfl
@[simp] theorem q_seqT:cP (.tup l)=some l:=rfl
noncomputable def mG(M v:Int):Nat->Int
 | 0=>1
 | k+1=>(mG M v k*v)%M
theorem KC(h0:0<M)(h1:M<10^60):∀k,0<=mG M v k/\mG M v k<10^60
 | 0=>by unfold mG;exact⟨by decide,by decide +kernel⟩
 | k+1=>by
  unfold mG;have a:=zax (mG M v k*v) (show M≠0 by lia);have b:=zay (mG M v k*v) h0
  lia
def prodF(M:Int)(vs:List Int)(t:My.Tm):Int:=(t.1.zip vs).foldl (λp ev=>p*mG M ev.2 ev.1.toNat) t.2
def sumF(M:Int)(vs:List Int)(ts:List My.Tm):Int:=(ts.map (prodF M vs)).sum
theorem FS(M:Int)(vs:List Int)(ts:List My.Tm)(t:My.Tm):sumF M vs (ts++[t])=sumF M vs ts+prodF M vs t:=by
 simp[sumF]
theorem SQ(h1:-A<a)(h2:a<A)(q:-B<b)(F:b<B):-(A*B)<a*b/\a*b<A*B:=by
 have e:(a*b).natAbs<(A*B).natAbs:=by
  rw[Int.natAbs_mul,Int.natAbs_mul];exact Nat.mul_lt_mul_of_lt_of_le (by lia) (by lia) (by lia)
 have z:0<=A*B:=Int.mul_nonneg (by lia) (by lia)
 lia
end P
namespace P
theorem lN{q:Type}:∀ {l:List q},l.length=2->∃a b,l=[a,b]
 | [a,b],_=>⟨a,b,rfl⟩
 | [],h=>by simp at h
 | [_],h=>by simp at h
 | _::_::_::_,h=>by simp at h
end P
namespace P
open PySem PySem.Spec PyProof.Rows L2
@[simp] theorem q_chain:gN g g' fa fb fc ρ=(fa ρ).bind λx=>(fb ρ).bind λy=>(g x y).bind λz=>(CH z).bind λb=>if b=true then(fc ρ).bind λw=>g' y w else some (.bl false):=rfl
theorem vW(h:t∈My.put cs k c):t=(k,c)\/t∈cs:=by
 unfold My.put at h;split at h
 ·obtain⟨u,q,e⟩:=List.mem_map.mp h
  split at e
  ·rename_i z;left;rw[<- e,z]
  ·right;rw[<- e];exact q
 ·rcases List.mem_append.mp h with z|z
  ·exact .inr z
  ·exact .inl (List.mem_singleton.mp z)
noncomputable def pick{α:Type}(l:List α)(lo hi st:Option Int):List α:=(sliceRange (zb2 lo hi st l.length).1 (zb2 lo hi st l.length).2.1 (zb2 lo hi st l.length).2.2).filterMap (l[·]?)
section
variable {X:Cx}{O:List Nat}
end
end P
namespace My
open PySem PySem.Spec PyProof.Rows L2 PySem.SeqAt
section
variable {X:Cx}
theorem Inv.gone(I:Inv X pins σ H s)(f:iI X pins H C)(hs:zaT C s.heap h'):Inv X pins σ H {s with heap:=h'}:=by
 obtain⟨G,W,f2,U,N,J⟩:=f;refine I.call' (s':={s with heap:=h'}) (ch:=[C]) rfl ⟨λb o e n F B=>?_,λb o e n F B=>?_,λ_ _ _ n _=>n,λb o e B=>?_,λ_ _ q=>q,λ_ _ _ q=>q,λ_ ps q=>⟨#[],by simpa using q⟩⟩ ?_ I.bare λb F=>?_
 ·exact(hs.2 b (λz=>B (z ▸ List.mem_singleton.mpr rfl))).trans e
 ·exact⟨o.slots,(hs.2 b (λz=>B (z ▸ List.mem_singleton.mpr rfl))).trans e⟩
 ·exact⟨o,(hs.2 b (λz=>B (z ▸ List.mem_singleton.mpr rfl))).trans e⟩
 ·intro b ob e
  refine(I.hok b ob e).stay (λc Y M q=>(hs.2 c ?_).trans q) (λ_ q=>q) λ_ _ q=>q
  rintro rfl;rcases M with z|z
  ·subst z;rw[G]at e;cases e
  ·rw[G]at z;cases z
 ·rw[List.mem_singleton.mp F]
  exact⟨U,W,N,J⟩
theorem DK(hN:X.N.Nodup)(ab:X.N[i]?=some x)(hx:Loc X.env.scope x)
  (hc:X.calm=true) (F:Clo X N scope cl) (hi:PI X tg iter wi) (hg:∀C s H fp,PG (aX X N scope cl C s H fp) tg g) (ht:∀C s H fp,EF (aX X N scope cl C s H fp) ifs tt) (he:∀C s H fp,PE (aX X N scope cl C s H fp) elt te)
  (hs:∀x,zbS iter X.env x=pure x:=by intro _;rfl) (U:za6 (.ListComp elt [⟨tg,iter,ifs,0⟩] scope pos) (some (.Name x pos')) spos.line X.env=pure true:=by rfl)
  (hf:X.fn x=true\/X.env.scope.names.lookup x=some .local:=by first|exact .inl rfl|exact .inr rfl) :
  PS X (.Assign [.Name x pos'] (.ListComp elt [⟨tg,iter,ifs,0⟩] scope pos) spos) (LB (LA wi g tt te (Start X N scope)) (sH i)):=by
 intro pins s σ H D I h;obtain⟨ak,sS,hw⟩:=h;rw[exec_Assign_Name_used _ _ _ _ U];refine zaa (zdh (zaa ?_));show wpAny _ X.A (do let _ <- comprehension (.ListComp elt [⟨tg,iter,ifs,0⟩] scope pos) scope X.env _ (newList []) false (eval iter X.env) (some (zbq (.Name x pos') X.env))) _ _ s;refine zaa (zba (wpAny_comprehension_free (use:=some (zbq (.Name x pos') X.env)) (Q:=λ_ s'=>SP X pins D .next s') rfl hs F.clos F.kind F.names
  (bN (hi pins s σ H _ I hw) λv s1 h1=>bN h1 λap s2 h2=>?_)) (λ_ s' hq=>zac (zac hq)) λ_ _ e=>e)
 obtain⟨it,fp,tn,J,H2,e,I2,T,ac,f2,q2⟩:=h2;subst e;refine uE (wi:=wi) (Q:=λv H1=>sH i v σ H1 D.nx) (RR:=λad C=>compPost (model X.prog X.w) X.A X.xe (some (zbq (.Name x pos') X.env)) (λ_ s'=>SP X pins D .next s') ad C) hc F hg ht he I2 T ac f2 sS q2 ?_
 intro s3 s5 H3 M ao D1 I3 f3 W q;obtain⟨m,hn,_⟩:=id W.loc;have I6:Inv X pins σ M s5:=comp_back I3 f3 W (ze1 _ _);have Y:iI X pins M s3.heap.objs.size:=I3.fpOk (zao _) W.free;show wpAny _ X.A (zbq (.Name x pos') X.env (.ref D1)) _ _ s5;refine wpAny_assign_Name (tW (v:=.ref D1) I6 hN ab hx rfl (λs7 I7 ⟨a,G,B⟩=>?_) hf);have ne:s3.heap.objs.size≠a:=λz=>by
  rcases B with B|B
  ·exact Y.2.1 (z.trans B)
  ·exact Y.2.2.2.2.1 x a B z.symm
 exact⟨m,Heap.Ns.sameBut hn G ne,λh' aa=>⟨_,M,Inv.gone I7 Y aa,q⟩⟩
end
end My
namespace P
open PySem PySem.Spec PyProof.Rows L2 PySem.SeqAt
section
variable {X:Cx}{O O':List Nat}{L:Lp}
theorem A4(U:PS X (.Assign [.Name x pos'] e pos) (LB (tD Rep O f) (sH i)))(h:Sub O' (O.filter (· != i))=true):iJ X L O (.Assign [.Name x pos'] e pos) (bS i f) O':=
 PS.mono U <| by
  rintro T σ H ⟨H0,A0,A,E,ρ,M,st,e,p⟩;obtain⟨d,G,rfl⟩:=map_some e;refine⟨H0,A0,A,E,ρ,d,st,G,λv H' x r=>?_⟩;have F:=(st.mono x).more r;obtain⟨A',B⟩:=F.shut (O':=O') λj J=>(Sub.er h J).1
  exact p A' _ H' ((B.put (B.ext _ (zau ..)) λz=>(Sub.er h z).2 rfl).less λq N=>zav _ N)
theorem wY(N:PS X (.Assign [.Name x pos'] e pos) (LB (tF O f) (sH i)))(h:Sub O' (i::O)=true)(F:O.contains i=false):iJ X L O (.Assign [.Name x pos'] e pos) (bS i f) O':=
 PS.mono N <| by
  rintro T σ H ⟨H0,A0,A,E,ρ,M,st,e,p⟩;obtain⟨d,G,rfl⟩:=map_some e;refine⟨H0,A0,A,E,ρ,d,st,G,λa H' x n J o=>?_⟩;have U:i∉O:=λz=>by
   have:O.contains i=true:=by simpa using z
   rw[F]at this;cases this
  obtain⟨B,q⟩:=(st.own_put x n J o U).shut (Sub.mem h);exact p B _ H' q
theorem WO:tD Rep O f σ H Q->tF O f σ H Q:=λ⟨H0,A0,A,E,ρ,d,st,e,q⟩=>
 ⟨H0,A0,A,E,ρ,d,st,e,λa H' x n z o=>q _ H' x ((o.av (A':=A) λb B=>.inl (.inl B)).rep z)⟩
theorem JH(G:X.N.Nodup)(B:X.N[i]?=some x)(M:Loc X.env.scope x)
  (Y:X.calm=true) (cc:My.Clo X N scope cl) (z:c6 X scope N ms) (W:(ms.all λo=>match o with|some i=>!O.contains i|none=>true)=true) (hi:PDI X O tg iter it) (hg:∀C s H fp,zY (My.aX X N scope cl C s H fp) [] tg g)
  (F:∀C s H fp,My.EF (My.aX X N scope cl C s H fp) ifs (tDT [] c)) (J:∀C s H fp,PD (My.aX X N scope cl C s H fp) [] elt f) (h:Sub O' (O.filter (· != i))=true:=by rfl) (hs:∀x,zbS iter X.env x=pure x:=by intro _;rfl)
  (q:za6 (.ListComp elt [⟨tg,iter,ifs,0⟩] scope pos) (some (.Name x pos')) spos.line X.env=pure true:=by rfl) (U:X.fn x=true\/X.env.scope.names.lookup x=some .local:=by first|exact .inl rfl|exact .inr rfl) :
  iJ X L O (.Assign [.Name x pos'] (.ListComp elt [⟨tg,iter,ifs,0⟩] scope pos) spos) (bS i (jH ms it g c f)) O':=
 A4 (PS.mono (My.DK G B M Y cc hi hg F J hs q U) λT σ H w=>qL z W _ _ _ (WO w)) h
theorem ES(J:X.N.Nodup)(B:X.N[i]?=some x)(U:Loc X.env.scope x)
  (hc:X.calm=true) (cc:My.Clo X N scope cl) (z:c6 X scope N ms) (Y:(ms.all λo=>match o with|some i=>!O.contains i|none=>true)=true) (hi:PDI X O tg iter it) (hg:∀C s H fp,zY (My.aX X N scope cl C s H fp) [] tg g)
  (G:∀C s H fp,My.EF (My.aX X N scope cl C s H fp) ifs (tDT [] c)) (M:∀C s H fp,PD (My.aX X N scope cl C s H fp) [] elt f) (h:Sub O' (i::O)=true:=by rfl) (F:O.contains i=false:=by rfl) (hs:∀x,zbS iter X.env x=pure x:=by intro _;rfl)
  (q:za6 (.ListComp elt [⟨tg,iter,ifs,0⟩] scope pos) (some (.Name x pos')) spos.line X.env=pure true:=by rfl) (W:X.fn x=true\/X.env.scope.names.lookup x=some .local:=by first|exact .inl rfl|exact .inr rfl) :
  iJ X L O (.Assign [.Name x pos'] (.ListComp elt [⟨tg,iter,ifs,0⟩] scope pos) spos) (bS i (jH ms it g c f)) O':=
 wY (PS.mono (My.DK J B U hc cc hi hg G M hs q W) λT σ H w=>qL z Y _ _ _ w) h F
end
end P
namespace My
open PySem PySem.Spec PyProof.Rows L2 PySem.SeqAt
def XR(K:zaf)(n:Nat)(t:QM):TG:=λv σ H Q=>∃a xs,v=.ref a/\(SqT K H a xs\/SqL K H a xs)/\xs.length=n/\t xs σ H Q
theorem rQ(J:X.calm=true)(h:PGs X es t)
  (G:(zbg es X.env).length=n:=by rfl) (q:(zbg es X.env).findIdx? (·.1)=none:=by rfl):PG X (.Tuple es k pos) (XR X.K n t):=by
 intro pins s σ H v u Q I r hw;obtain⟨a,xs,U,z,M,hw⟩:=hw;subst U;rcases z with z|z
 ·exact KQ J h G q pins s σ H _ u Q I r ⟨a,xs,rfl,z,M,hw⟩
 ·cases r
  obtain⟨B,F,N,hz⟩:=I.list z;have hsz:(zbg es X.env).length=B.toArray.size:=by simp[G,<- M,F.length]
  rw[assign_Tuple];refine zaa (zdh ?_);unfold unpack;rw[hsz,q];refine zaa (zbn (PySem.W.kun_itemsOf (I.ok.hd J) (My.PlainL.isList N) λh' Y=>?_));have I1:Inv X pins σ H {s with heap:=h'}:=I.kept (t':=s.toks) λb o e=>Y b o (zaz (zai e)) e
  exact h pins _ σ H xs _ Q I1 (by simpa using F) hw
end My
namespace P
open PySem PySem.Spec PyProof.Rows L2 PySem.SeqAt
def sD(n:Nat)(k:QI):Gv:=λd ρ=>match d with
 | .tup l=>if l.length=n then k l ρ else none
 | .lst l=>if l.length=n then k l ρ else none
 | _=>none
theorem lC(F:PG X tg (My.XR X.K n (tDGs O k))):zY X O tg (sD n k):=PG.mono F <| by
 rintro v σ H Q ⟨H0,A0,A,E,ρ,d,ρ',st,r,e,q⟩;cases d with
 | tup l=>
  obtain⟨a,xs,rfl,h,B⟩:=RepB.tup_inv (.of r);by_cases z:l.length=n
  ·simp only[sD,if_pos z]at e
   exact⟨a,xs,rfl,.inl (.inl (.inl h)),by rw[B.length];exact z,H0,A0,A,E,ρ,l,ρ',st,B,e,q⟩
  ·simp only[sD,if_neg z]at e;cases e
 | lst l=>
  obtain⟨a,xs,rfl,h,B⟩:=RepB.lst_inv (.of r);by_cases z:l.length=n
  ·simp only[sD,if_pos z]at e
   exact⟨a,xs,rfl,.inr (.inl h),by rw[B.length];exact z,H0,A0,A,E,ρ,l,ρ',st,B,e,q⟩
  ·simp only[sD,if_neg z]at e;cases e
 | _=>cases e
@[simp] theorem q_gseqT:sD n h (.tup l) ρ=if l.length=n then h l ρ else none:=rfl
@[simp] theorem q_gseqL:sD n h (.lst l) ρ=if l.length=n then h l ρ else none:=rfl
end P
namespace P
open PySem PySem.Spec PyProof.Rows L2
def cf(q:List My.Tm)(k:List Int):Int:=(My.look q k).getD 0
theorem CZ(q:My.Tm)(z:List My.Tm)(k:List Int):cf (q::z) k=if q.1=k then q.2 else cf z k:=by
 unfold cf My.look;rw[za8];by_cases e:q.1=k <;> simp[e]
theorem TF(h:k∉qs.map (·.1)):cf qs k=0:=by
 induction qs with
 | nil=>rfl
 | cons q qs ih=>
  rw[CZ,if_neg (λz=>h (by simp[z])),ih λz=>h (by simp at z ⊢;exact .inr z)]
noncomputable def U1:List (List Int):=[[0],[1],[2]]
noncomputable def VC:List (List Int):=[[0,0],[0,1],[0,2],[1,0],[1,1],[1,2],[2,0],[2,1],[2,2]]
def dI(n:Int):List (List Int):=if n=1 then U1 else VC
theorem eK{f:Lv}{g:Gv}{b rest:Sv}{ρ:dB}{items:List D}{R:D->Prop}(q:f ρ=some items)(I:Nat->dB->Prop)(h0:I 0 ρ)(hs:∀i x ρ,items[i]?=some x->I i ρ->∃ρ',turn g b x ρ=some (.nx ρ')/\I (i+1) ρ')(k:∀ρ',I items.length ρ'->∃d,rest ρ'=some (.rt d)/\R d):∃d,bM (gC f g b) rest ρ=some (.rt d)/\R d:=by
 obtain⟨ρ',e,h⟩:=dX (g:=g) (b:=b) I h0 hs;rw[aG (by rw[q_for,q];exact e)];exact k ρ' h
theorem dH{n:Nat}{ds:List D}{R:D->Prop}(h:∃d,f (aL n ds)=some (.rt d)/\R d):∃d,bA n f ds=some d/\R d:=by
 obtain⟨d,e,r⟩:=h;exact⟨d,aN e,r⟩
theorem T9(q:n=1\/n=2)(h:k∈dI n):(k.length:Int)=n/\∀e∈k,0<=e/\e<=2:=by
 rcases q with rfl|rfl
 ·have:∀k∈U1,(k.length:Int)=1/\∀e∈k,0<=e/\e<=2:=by decide
  exact this k h
 ·have:∀k∈VC,(k.length:Int)=2/\∀e∈k,0<=e/\e<=2:=by decide
  exact this k h
end P
namespace My
open PySem PySem.Spec PyProof.Rows L2 PySem.SeqAt
theorem lQ:fillsNumberSlot (.type "tuple") "mul" = pure false:=
 PySem.fillsNumberSlot_seq (id := "tuple.__mul__") (r:=some (.builtin "tuple.__rmul__")) PySem.F.slot_tuple_mul.lookup (by decide +kernel) PySem.F.slot_tuple_rmul.lookup (by decide +kernel)
theorem uX:seqRepeat? (.type "tuple")=pure (some (.builtin "tuple.__mul__")):=by
 unfold seqRepeat?;rw[PySem.seqSlot_of (T := "tuple") (name := "__mul__") (id := "tuple.__mul__") PySem.F.slot_tuple_mul.lookup (by decide +kernel),PySem.seqSlot_of (T := "tuple") (name := "__rmul__") (id := "tuple.__rmul__") PySem.F.slot_tuple_rmul.lookup (by decide +kernel)];rfl
theorem oM(a:Int)(t:Tok)(l:Addr)(items:Array Value)(n:Nat)(dd sl) :
  Meets (zbi.«int.__rmul__» ⟨[.int a t,.ref l],[]⟩) (λ_ R s=>s.heap.get? l=some {cls:=.type "tuple",dict:=dd,data:=.seq items n,slots:=sl}/\R (.ok (.ret Value.notImplemented)) s):=
 .of_wp λprog w A R s h=>by obtain⟨z,g,d,tk,os⟩:=s;obtain⟨q,h⟩:=h;wp_walk;exact⟨_,rfl,h⟩
theorem A8(t:Tok)(l:Addr)(items:Array Value)(n:Nat)(dd sl) :
  Meets (zbi.«tuple.__mul__» ⟨[.ref l,.int 1 t],[]⟩) (λ_ R s=>s.heap.get? l=some {cls:=.type "tuple",dict:=dd,data:=.seq items n,slots:=sl}/\R (.ok (.ret (.ref l))) s):=
 .of_wp λprog w A R s h=>by obtain⟨z,g,d,tk,os⟩:=s;obtain⟨q,h⟩:=h;wp_walk;exact⟨_,rfl,h⟩
theorem BD(t:Tok)(l:Addr)(x:Value)(n:Nat)(dd sl) :
  Meets (zbi.«tuple.__mul__» ⟨[.ref l,.int 2 t],[]⟩) (λ_ R s=>s.heap.get? l=some {cls:=.type "tuple",dict:=dd,data:=.seq #[x] n,slots:=sl}/\R (.ok (.ret (.ref s.heap.objs.size))) {s with heap:=s.heap.push {cls:=.type "tuple",data:=.seq #[x,x]} }):=
 .of_wp λprog w A R s h=>by obtain⟨z,g,d,tk,os⟩:=s;obtain⟨q,h⟩:=h;wp_walk;exact⟨_,rfl,h⟩
theorem MZ(J:IsTup s.heap l #[y])(M:x=1\/x=2)
  (h1:x=1->Q (.ref l) s) (h2:x=2->Q (.ref s.heap.objs.size) {s with heap:=s.heap.push {cls:=.type "tuple",data:=.seq #[y,y]} }):wpAny (model prog w) A (zaV .Mult (.ref l) (.int x u)) Q E s:=by
 obtain⟨⟨cls,dd,data,z⟩,q,G,n,B⟩:=id J;simp only at G B;subst G B;refine wpAny_binaryOp_repeat_ref (T := "tuple") (U := "int") (by decide) ⟨_,q,rfl⟩ (λs'=>zcG s' x u) lQ PySem.F.fills_int_mul PySem.F.slot_int_rmul uX PySem.F.slot_int_index.lookup
  (zcv PySem.F.slot_int_rmul (zcG s x u) PySem.F.entry_int_rmul (PySem.F.args_int_rmul_2 _ _) (oM x u l #[y] n dd z) ⟨q,rfl,⟨_,q,rfl⟩,?_⟩)
 rcases M with rfl|rfl
 ·exact zcv PySem.F.slot_tuple_mul ⟨_,q,rfl⟩ PySem.F.entry_tuple_mul (PySem.F.args_tuple_mul_2 _ _) (A8 u l #[y] n dd z) ⟨q,h1 rfl⟩
 ·exact zcv PySem.F.slot_tuple_mul ⟨_,q,rfl⟩ PySem.F.entry_tuple_mul (PySem.F.args_tuple_mul_2 _ _) (BD u l y n dd z) ⟨q,h2 rfl⟩
end My
namespace P
open PySem PySem.Spec PyProof.Rows L2 PySem.SeqAt
noncomputable def D2:D->D->Option D
 | .tup [x],.int n=>if n=1 then some (.tup [x])else if n=2 then some (.tup [x,x])else none
 | _,_=>none
section
variable {X:Cx}
theorem NM:OpR X (zaV .Mult) (λx y H Q=>∃a v n,x=.ref a/\y=.int n/\SqT X.K H a [v]/\(n=1\/n=2)/\(n=1->Q (.ref a) H)/\(n=2->∀p,H p=none->Q (.ref p) (upd H p (.tup [v,v])))):=by
 intro pins s σ H x y v u Q I B M h;obtain⟨a,w,n,rfl,rfl,F,G,J,W⟩:=h;cases B;obtain⟨t,rfl⟩:∃t,u=.int n t:=M;obtain⟨U,N,z,_⟩:=I.tuple F;cases N with
 | cons r0 rr=>
  cases rr;rename_i y;refine My.MZ z G (λe=>⟨.ref a,H,I,rfl,J e⟩) λe=>?_
  refine⟨.ref s.heap.objs.size,_,I.laid (t':=s.toks) (o:=.tup [w,w]) (λb ob q=>zag _ q) (zao _) ?_,rfl,W e _ (I.hok.fresh (zao _))⟩;exact⟨by show 2<=zaj;decide,_,.cons r0 (.cons r0 .nil),IsTupN.new _ _⟩
theorem OJ:gE X (zaV .Mult) D2:=OpR.mono NM <| by
 rintro x y H Q ⟨A,dx,W,d,U,J,M,e,q⟩;unfold D2 at e;split at e
 case h_2=>cases e
 rename_i d0 n;obtain⟨a,xs,rfl,h1,N⟩:=J.tup_inv;have:=M.int_inv;subst this;cases N with
 | cons r0 rr=>
  cases rr;by_cases B:n=1
  ·rw[if_pos B]at e;cases e
   exact⟨a,_,n,rfl,rfl,.inl (.inl h1),.inl B,λ_=>q _ H (Ext.refl _ _) (.tup h1 (.cons r0 .nil)),λz=>by lia⟩
  ·rw[if_neg B]at e
   by_cases F:n=2
   ·rw[if_pos F]at e;cases e
    exact⟨a,_,n,rfl,rfl,.inl (.inl h1),.inr F,λz=>absurd z B,λ_ p G=>q _ _ (Ext.new G) (.tup aJ (.cons (r0.ext (Ext.new G)) (.cons (r0.ext (Ext.new G)) .nil)))⟩
   ·rw[if_neg F]at e;cases e
end
@[simp] theorem q_mulT1:D2 (.tup [x]) (.int 1)=some (.tup [x]):=rfl
@[simp] theorem q_mulT2:D2 (.tup [x]) (.int 2)=some (.tup [x,x]):=rfl
end P
namespace My
open PySem PySem.Spec PyProof.Rows L2 PySem.SeqAt
def R3(tk tv:TE):TE:=λσ H Q=>∀p,H p=none->tk σ (upd H p (.dT [])) λx H1=>tv σ H1 λy H2=>∃k b,x=.ref b/\H2 p=some (.dT [])/\H2 b=some (.tup (k.map kV))/\Q (.ref p) (upd H2 p (.dT [(k,y)]))
theorem IL(hu:X.A.units+1<cLine)(hk:PE X k tk)(hv:PE X v tv):PE X (.Dict [some k] [v] pos) (R3 tk tv):=by
 intro pins s σ H Q I q;have hn:=I.hok.fresh (zao s.heap.objs.size);have I1:=I.laid (a:=s.heap.objs.size) (o:=.dT []) (h':=s.heap.push {cls:=.type "dict",data:=.dict #[]}) (t':=s.toks) (λ_ _ q=>zag _ q) (zao _) (qV s.heap I.big);refine wpAny_Dict_any rfl rfl (by simp) (by simp) ?_;refine pairTrees_cons_walk (bN (hk pins _ σ _ _ I1 (q _ hn)) λu s1 ⟨x,H1,I2,rx,q1⟩=>bN (hv pins s1 σ H1 _ I2 q1) λw2 s2 ⟨y,H2,F,ry,N,b,ex,e,M,q2⟩=>pairTrees_nil_walk ?_);subst ex;cases(show u=zan b from rx);obtain⟨z,W,xs,B,dd⟩:=K3 F.hok e;have hz:xs.length<=zaj:=by rw[<- zbO B];exact z
 show wpAny _ X.A (storeAll s.heap.objs.size [(zan b,w2)]) _ _ s2;unfold storeAll;refine zaa (zaa (wpAny_dictSet_heap (hsz:=hz) (show X.A.units<cLine by lia) (gO F.hok M) dd λh' G hs=>?_));refine zac (zac ?_);obtain⟨q,es,ep,J,h2,h3,h4,_,Y⟩:=G;refine⟨.ref s.heap.objs.size,_,iW F (ob:=.dT (putK [] N y)) (by rw[e];exact zbh) hs ⟨q,J⟩ ⟨zbe (cL _ _ _) (by decide),W,_,(B.put N M ry).keeps λc ys U=>?_,q,es,ep,J,h2,h3,h4,Y⟩,rfl,q2⟩;rw[aE (DZ U e (λz=>nomatch z))];exact U
end My
namespace P
open PySem PySem.Spec PyProof.Rows L2 PySem.SeqAt
theorem ST.aside(s:ST H0 A0 A E O σ H ρ)(F:H p=none)(o:HO):ST H0 A0 (λb=>A b\/b=p) E O σ (upd H p o) ρ:=by
 have G:∀a,(A a\/a=p)->A a\/H a=none:=λa B=>B.imp id λz=>by rw[z];exact F
 refine⟨s.ex.trans (Ext.new F),λa B=>.inl (s.sub a B),s.l0,λa B=>?_,s.len,λi d h n=>?_,λi d h n=>?_,s.inj,λq U=>Fact.ext (Ext.new F) (Fact.av G (s.ext q U))⟩
 ·rcases B with B|B
  ·rw[aE (λz=>by subst z;exact s.live _ B F)];exact s.live a B
  ·subst B;rw[aJ];exact λz=>nomatch z
 ·obtain⟨v,h1,h2⟩:=s.val i d h n
  exact⟨v,h1,(h2.av G).ext (Ext.new F)⟩
 ·obtain⟨a,N,J,W,M⟩:=s.own i d h n
  exact⟨a,N,.inl J,W,Own.ext (Ext.new F) (.inl J) (M.av G)⟩
def J7(z q:Ev):Ev:=λρ=>(z ρ).bind λk=>(q ρ).bind λv=>(zW k).map λB=>.dT [(B,v)]
@[simp] theorem q_disp1:J7 fk fv ρ=(fk ρ).bind λk=>(fv ρ).bind λv=>(zW k).map λq=>.dT [(q,v)]:=rfl
theorem GW(hu:X.A.units+1<cLine)(hk:PB X O k fk)(hv:PD X O v fv):PF X O (.Dict [some k] [v] pos) (J7 fk fv):=
 PE.mono (My.IL hu hk hv) <| by
  rintro σ H Q ⟨H0,A0,A,E,ρ,d,st,e,q⟩;obtain⟨Y,ek,e⟩:=bind_some e;obtain⟨dv,ev,e⟩:=bind_some e;obtain⟨kk,et,rfl⟩:=map_some e;intro p J;have W:=st.aside J (.dT []);have na:¬ A p:=λz=>st.live p z J
  refine⟨H0,A0,_,E,ρ,Y,W,ek,λx H1 M r1=>⟨H0,A0,_,E,ρ,dv,W.mono M,ev,λy H2 U r2=>?_⟩⟩;obtain⟨b,rfl,N⟩:=oB et (r1.ext U);have G:H2 p=some (.dT []):=(M.trans U).ow p _ (.inr rfl) aJ;have F:Ext A H H2:=(Ext.new J).trans ((M.trans U).mono λa ha=>.inl ha);have B:∀b,H b≠none->b≠p:=λb N z=>N (by rw[z];exact J)
  refine⟨kk,b,rfl,G,N,q p _ ?_ J na (.dT aJ rfl (.cons (r2.put (.inr rfl) G trivial) .nil))⟩;exact⟨λb w r=>fG (B b (by rcases r with r|⟨_,r⟩ <;> (rw[r];exact λz=>nomatch z))) (F.rd b w r),
      λb xs k r=>by rw[aE (B b (by rw[r];exact λz=>nomatch z))];exact F.kp b xs k r,
      λb w n r=>by rw[aE (B b (by rw[r];exact λz=>nomatch z))];exact F.ow b w n r,
      λb q w r=>by rw[aE (B b (by rw[r];exact λz=>nomatch z))];exact F.fz b q w r⟩
end P
namespace My
open PySem PySem.Spec PyProof.Rows L2
section
variable {X:Cx}
theorem yD{ns:List Int}{q:List Value}(r:Vals (ns.map V.int) q){i:Nat}(h:q[i]?=some v):∃t,v=.int ((ns[i]?).getD 0) t:=by
 have z:=r.length;rw[zal]at z;have hi:i<ns.length:=by rw[z];exact(List.getElem?_eq_some_iff.mp h).1
 have e:(ns.map V.int)[i]?=some (.int ns[i]):=by simp[hi]
 obtain⟨u,B,F⟩:=r.get e;rw[h]at B;cases B;obtain⟨t,rfl⟩:=F;exact⟨t,by simp[hi]⟩
theorem ME:OpR X (zaV .Add) (λx y H Q=>∃a b ys,x=.ref a/\y=.ref b/\SqT X.K H a []/\SqT X.K H b ys/\Q (.ref b) H):=by
 intro pins s σ H x y v u Q I rx ry h;obtain⟨a,b,ys,rfl,rfl,ha,hb,q⟩:=h;cases rx;cases ry;obtain⟨ac,r1,p1,_⟩:=I.tuple ha;obtain⟨z,r2,p2,_⟩:=I.tuple hb;have e1:ac=[]:=r1.nil_iff.mpr rfl;subst e1;obtain⟨⟨cls,dd,data,sl⟩,ho,hc,n,hd⟩:=p1;obtain⟨⟨G,U,B,Y⟩,J,ab,n2,W⟩:=p2;have aa:cls=.type "tuple" := hc;have N:data=.seq #[] n:=hd;have F:G=.type "tuple" := ab;have M:B=.seq z.toArray n2:=W;subst aa N F M;exact concat_meets ⟨_,ho,rfl⟩ ⟨_,J,rfl⟩ zeM seq_tuple_add zeN zeO (zeP _ _)
  (tuple_addW0 a b #[] z.toArray n n2 dd U sl Y rfl) ⟨ho,J,.ref b,H,I,rfl,q⟩
def W2:R2:=λx y H Q=>∃l k xs,x=.ref l/\y=.int k/\Rd H l (.lst xs)/\-(2^63)<=k/\k<2^63/\xs.length*k.toNat<=zaj /\
 ∀p,H p=none->Q (.ref p) (upd H p (.lst (zaP k.toNat xs).flatten))
theorem LX:OpR X (zaV .Mult) W2:=by
 intro pins s σ H x y v u Q I rx ry h;obtain⟨l,k,xs,rfl,rfl,hH,h1,h2,hz,q⟩:=h;cases rx;obtain⟨t,rfl⟩:=ry;obtain⟨z,B,n,r,hl,e⟩:=P.Inv.lstR I hH;have W:B.toArray.size*k.toNat<=zaj:=by rw[zaA,<- hl];exact hz
 have J:¬ B.toArray.size*k.toNat>(2^63-1)/8:=by
  have:(zaj:Nat)<=(2^63-1)/8:=by decide
  lia
 have N:¬ (!Builtin.List.listFitsIndex k)=true:=by
  rw[fitsIndex_both h1 h2];exact zaw
 have G:¬ zeT (B.toArray.size*k.toNat)=true:=by
  rw[IC W];exact zaw
 have M:List.foldl (λx1 Y=>x1++Y) #[] (zaP (if B.toArray.isEmpty=true then 0 else k.toNat) B.toArray)=(zaP k.toNat B).flatten.toArray:=by
  have f0:∀m:Nat,List.foldl (λx1 Y=>x1++Y) #[] (zaP m B.toArray)=(zaP m B).flatten.toArray:=λm=>by
   have:=foldl_rep B m [];rw[ze5]at this;exact this
  rw[f0];cases B with
  | nil=>simp
  | cons a r'=>rw[if_neg (by simp)]
 refine wpAny_binaryOp_repeat_ref (T := "list") (U := "int") (by decide) ⟨_,e,rfl⟩ (λs'=>zcG s' k t) noFill_list_mul F.fills_int_mul F.slot_int_rmul repeat_list F.slot_int_index.lookup
  (zcv F.slot_int_rmul (zcG s k t) F.entry_int_rmul (F.args_int_rmul_2 _ _) (int___rmul___int_list k t l B.toArray n)
   ⟨e,rfl,⟨_,e,rfl⟩,zcv F.slot_list_mul ⟨_,e,rfl⟩ F.entry_list_mul (F.args_list_mul_2 _ _) (AutoListH.list___mul___list_int_3 l B.toArray n k t N J G) ⟨e,?_⟩⟩)
 rw[M];exact⟨.ref _,_,I.lnew (t':=s.toks) (r.rep k.toNat) (by rw[len_rep,Nat.mul_comm];exact hz),rfl,q _ I.fresh⟩
end
end My
namespace P
open PySem PySem.Spec PyProof.Rows L2
theorem aA{q z:Type}(a:q)(f:q->Option z):(some a).bind f=f a:=by rw[zad]
theorem aD{q z:Type}(a:q)(f:q->z):(some a).map f=some (f a):=by rw[zae]
section
variable {X:Cx}{O O':List Nat}{L:Lp}
noncomputable def GM:List D->Option D
 | [.int i]=>some (.int i)
 | [.bl b]=>some (.int (if b then 1 else 0))
 | _=>none
theorem RM:iH X (.type "int") GM:=CallR.mono F6 <| by
 rintro xs H Q ⟨A,ds,d,B,r,e,q⟩;unfold GM at e;split at e
 ·cases e
  obtain⟨v,rfl,z⟩:=r.one;cases z.int_inv;exact .inl ⟨_,rfl,q _ H (Ext.refl _ _) (.int _)⟩
 ·cases e
  obtain⟨v,rfl,z⟩:=r.one;cases z.bl_inv;exact .inr ⟨_,rfl,q _ H (Ext.refl _ _) (.int _)⟩
 ·cases e
@[simp] theorem q_intB:GM [.bl b]=some (.int (if b then 1 else 0)):=rfl
@[simp] theorem q_intI:GM [.int i]=some (.int i):=rfl
theorem hV:∀ns:List Int,fM (ns.map .int)=some ns
 | []=>rfl
 | n::ns=>by rw[zak,fM,hV ns];rfl
def U4:D->D->Option D
 | .lst l,.int k=>if cS k=true/\aZ (l.length*k.toNat)=true then some (.lst (zaP k.toNat l).flatten)else none
 | _,_=>none
theorem RepL.rep(r:RepL A H ds vs):∀k:Nat,RepL A H (zaP k ds).flatten (zaP k vs).flatten
 | 0=>.nil
 | k+1=>by rw[zcu,zcu,zcI,zcI];exact r.append (RepL.rep r k)
theorem KL(U:PB X O a fa)(B:PB X O b fb):PF X O (.BinOp a .Mult b pos) (aY U4 fa fb):=
 PE.mono (PR My.LX U B) <| by
  rintro σ H Q ⟨H0,A0,A,E,ρ,d,st,e,q⟩;obtain⟨x,ex,e⟩:=bind_some e;obtain⟨y,M,e⟩:=bind_some e;refine⟨H0,A0,A,E,ρ,x,st,ex,λv H1 G r1=>⟨H0,A0,A,E,ρ,y,st.mono G,M,λw H2 F N=>?_⟩⟩;unfold U4 at e;split at e
  ·rename_i _ l k _
   by_cases hz:cS k=true/\aZ (l.length*k.toNat)=true
   ·rw[if_pos hz]at e
    cases e;obtain⟨p,xs,rfl,Y,J⟩:=(r1.ext F).lst_inv;cases N.int_inv;have hk:=eJ hz.1;refine⟨p,k,xs,rfl,rfl,Y,by lia,by lia,by rw[J.length];exact gM hz.2,λb B=>?_⟩;have W:H b=none:=(G.trans F).free B;have na:¬ A b:=λz=>(st.mono (G.trans F)).live b z B
    exact q b _ ((G.trans F).trans (Ext.new B)) W na (.lst aJ ((J.rep k.toNat).fresh B))
   ·rw[if_neg hz]at e;cases e
  ·cases e
@[simp] theorem q_rep:U4 (.lst l) (.int k)=if cS k=true/\aZ (l.length*k.toNat)=true then some (.lst (zaP k.toNat l).flatten)else none:=rfl
def vY(z q:Ev):Ev:=λρ=>(z ρ).bind λk=>(q ρ).bind λv=>(VO k).map λB=>.dK [(B,v)]
@[simp] theorem q_dispK1:vY fk fv ρ=(fk ρ).bind λk=>(fv ρ).bind λv=>(VO k).map λq=>.dK [(q,v)]:=rfl
theorem E6(hk:PB X O k fk)(hv:PD X O v fv):PF X O (.Dict [some k] [v] pos) (vY fk fv):=
 PE.mono (L3 (IN hk hv MX) rfl rfl (by simp) (by simp)) <| by
  rintro σ H Q ⟨H0,A0,A,E,ρ,d,st,e,q⟩;obtain⟨W,ek,e⟩:=bind_some e;obtain⟨dv,ev,e⟩:=bind_some e;obtain⟨kk,Y,rfl⟩:=map_some e;intro p J;have U:=st.aside J (.dK []);have na:¬ A p:=λz=>st.live p z J
  refine⟨H0,A0,_,E,ρ,W,U,ek,λx H1 M r1=>⟨H0,A0,_,E,ρ,dv,U.mono M,ev,λy H2 N r2=>?_⟩⟩;have hx:=oI Y (r1.ext N);subst hx;have G:H2 p=some (.dK []):=(M.trans N).ow p _ (.inr rfl) aJ;have F:Ext A H H2:=(Ext.new J).trans ((M.trans N).mono λa ha=>.inl ha);have B:∀b,H b≠none->b≠p:=λb hb z=>hb (by rw[z];exact J)
  refine⟨G,[(kk,y)],rfl,by simp,q p _ ?_ J na (.dK aJ rfl (.cons (r2.put (.inr rfl) G trivial) .nil))⟩;exact⟨λb w r=>fG (B b (by rcases r with r|⟨_,r⟩ <;> (rw[r];exact λz=>nomatch z))) (F.rd b w r),
      λb xs k r=>by rw[aE (B b (by rw[r];exact λz=>nomatch z))];exact F.kp b xs k r,
      λb w n r=>by rw[aE (B b (by rw[r];exact λz=>nomatch z))];exact F.ow b w n r,
      λb q w r=>by rw[aE (B b (by rw[r];exact λz=>nomatch z))];exact F.fz b q w r⟩
def cI(x y:D):Option D:=match x,y with
 | .tup l,.tup m=>if aZ (l.length+m.length)then some (.tup (l++m))else none
 | x,y=>uL x y
theorem LO:gE X (zaV .Add) cI:=OpR.mono (OpR.or RK My.ME) <| by
 rintro x y H Q ⟨A,dx,M,d,F,z,B,e,q⟩;unfold cI at e;split at e
 ·rename_i l m
  cases l with
  | nil=>
   by_cases hz:aZ (([]:List D).length+m.length)=true
   ·rw[if_pos hz]at e
    cases e;obtain⟨a,xs,rfl,h1,J⟩:=z.tup_inv;obtain⟨b,ys,rfl,h2,G⟩:=B.tup_inv;cases J;exact .inr ⟨a,b,ys,rfl,rfl,.inl (.inl h1),.inl (.inl h2),q _ H (Ext.refl _ _) (.tup h2 G)⟩
   ·rw[if_neg hz]at e;cases e
  | cons a l=>
   refine .inl ⟨A,_,_,d,F,z,B,?_,q⟩;rw[<- e];rfl
 ·exact .inl ⟨A,_,_,d,F,z,B,e,q⟩
@[simp] theorem q_addAI:cI (.int i) (.int j)=some (.int (i+j)):=rfl
@[simp] theorem q_addAT:cI (.tup l) (.tup m)=if aZ (l.length+m.length)then some (.tup (l++m))else none:=rfl
@[simp] theorem q_addAL:cI (.lst l) (.lst m)=if aZ (l.length+m.length)then some (.lst (l++m))else none:=rfl
@[simp] theorem q_addAS:cI (.str l) (.str m)=if aZ (l.length+m.length)then some (.str (l++m))else none:=rfl
def P1(fd q:Ev):Ev:=λρ=>(fd ρ).bind λd=>(q ρ).bind λk=>(cH d k).map λo=>o.getD .non
theorem LR(hu:X.A.units+1<cLine)(ho:PB X O o fd)(he:PB X O e fk)(m:M1 X o "get" apos e cpos):PD X O (.Call (.Attribute o "get" apos) [e] [] cpos) (P1 fd fk):=
 PE.mono (GV hu ho he m) <| by
  rintro σ H Q ⟨H0,A0,A,E,ρ,d,st,e,q⟩;obtain⟨x,ex,e⟩:=bind_some e;obtain⟨y,Y,e⟩:=bind_some e;obtain⟨ov,N,rfl⟩:=map_some e;refine⟨H0,A0,A,E,ρ,x,st,ex,λv H1 z J=>?_⟩;obtain⟨a,M,B⟩:=KP y N J;refine⟨a,M,B,H0,A0,A,E,ρ,y,st.mono z,Y,λw H2 G r2=>?_⟩;obtain⟨a',F,U,_,g,e3⟩:=hZ N (J.ext G) r2;rw[M]at U;cases U;refine⟨F,g,?_⟩;rcases e3 with⟨rfl,rfl⟩|⟨z',v',rfl,rfl,W⟩
  ·exact q _ H2 (z.trans G) .non
  ·exact q v' H2 (z.trans G) W
@[simp] theorem q_get1:P1 fd fk ρ=(fd ρ).bind λd=>(fk ρ).bind λk=>(cH d k).map λo=>o.getD .non:=rfl
def iG(c:Bv)(b:Sv):Nat->dB->Option Out
 | 0,_=>none
 | n+1,ρ=>(c ρ).bind λt=>if t=true then(b ρ).bind λo=>match o with
   | .nx ρ'=>iG c b n ρ'
   | .ct ρ'=>iG c b n ρ'
   | .bk ρ'=>some (.nx ρ')
   | .rt d=>some (.rt d)
  else some (.nx ρ)
def sA(c:Bv)(b:Sv):Sv:=λρ=>iG c b 100000 ρ
theorem ET(hp:zcS (model X.prog X.w) X.A X.env X.xe)(hc:nQ X O1 c g)(U:dJ X ⟨Ob,O1⟩ O1 body b O1)(h1:Sub O1 O=true)(h2:Sub O' O1=true)(h3:Sub O' Ob=true) :
  iJ X L O (.While c body [] pos) (sA g b) O':=PS.mono (I0 hp hc U) λT σ H ⟨H0,A0,A,E,ρ,G,st,e,p⟩=>by
 obtain⟨W,J⟩:=st.shut (Sub.mem h1);refine⟨λm σ H=>∃ρ A,ST H0 A0 A E O1 σ H ρ/\iG g b m ρ=some G,⟨100000,ρ,W,J,e⟩,?_⟩;rintro m σ H ⟨ρ,A,st,e⟩;cases m with
 | zero=>cases e
 | succ m=>
  obtain⟨t,et,e⟩:=bind_some e;refine⟨H0,A0,A,E,ρ,t,st,et,λH1 N=>?_⟩;have fin:∀ {O2:List Nat} {A:Av} {σ:L2.St} {H:Hp} {ρ:dB},Sub O' O2=true->ST H0 A0 A E O2 σ H ρ->(∀A σ H,ST H0 A0 A E O' σ H ρ->T.nx σ H)->T.nx σ H:=λhs st k=>by
   obtain⟨q,M⟩:=st.shut (Sub.mem hs);exact k q _ _ M
  cases t with
  | true=>
   rw[if_pos rfl]at e;dsimp only;rw[if_pos rfl];obtain⟨o,Y,e⟩:=bind_some e;refine⟨λF H'=>∃ρ2 q,ST H0 A0 q E O1 F H' ρ2/\iG g b m ρ2=some G,λF H' ⟨ρ2,q,z,e2⟩=>⟨m,zda m,ρ2,q,z,e2⟩,H0,A0,A,E,ρ,o,st.mono N,Y,?_⟩;cases o with
   | nx ρ2=>exact λq B H2 z=>⟨ρ2,q,z,e⟩
   | ct ρ2=>exact λq B H2 z=>⟨ρ2,q,z,e⟩
   | bk ρ2=>cases e;exact λq B H2 z=>fin h3 z p
   | rt d=>cases e;exact p
  | false=>
   rw[if_neg zaw]at e;dsimp only;rw[if_neg zaw];cases e;exact fin h2 (st.mono N) p
end
end P
namespace My
open PySem PySem.Spec PyProof.Rows L2
open AutoSeq1 (wpAny_loadPart')
theorem FR(l:Addr)(items:Array Value)(n:Nat)(B:Option Addr)(G:Array (Option Value)) :
  Meets (zbi.«enumerate.__new__» ⟨[.type "enumerate",.ref l],[]⟩) (λ_ R s=>s.heap.get? l=some {cls:=.type "tuple",dict:=B,data:=.seq items n,slots:=G} /\
   R (.ok (.ret (.ref (s.heap.push {cls:=.type "tuple_iterator",data:=.fields #[.ref l,.int 0 0]}).objs.size)))
    {s with heap:=(s.heap.push {cls:=.type "tuple_iterator",data:=.fields #[.ref l,.int 0 0]}).push {cls:=.type "enumerate",data:=.fields #[.none,.bool false,.ref s.heap.objs.size,zaO 0,.none,.none]} }):=
 .of_wp λprog w A R s h=>by
  obtain⟨J,g,d,tk,os⟩:=s;obtain⟨q,h⟩:=h;have F:=sub_enumerate;have z:zdz (zbN ⟨J,g,d,tk,os⟩) l items:=⟨_,q,rfl,n,rfl⟩
  wp_walk using zcf q
  refine wpAny_stack_any λst=>zac ?_
  split
  ·rename_i c _ _ _ _ _
   cases(c == zcp "enumerate")
   ·wp_walk using zcf q,zbQ z
    exact⟨_,rfl,h⟩
   ·wp_walk using zcf q,zbQ z
    exact⟨_,rfl,h⟩
  ·wp_walk using zcf q,zbQ z
   exact⟨_,rfl,h⟩
section
variable {prog:zap}{w:World}{A:zas}{E:Value->zab->Prop}{s:zab}
theorem E9(hl:SSq t s.heap l xs)
  (h:∀h',zbW h' (s.heap.objs.size+1) s.heap.objs.size 0 .none->SIt t h' s.heap.objs.size l 0->(∀b o,s.heap.get? b=some o->h'.get? b=some o)->Q (.ref (s.heap.objs.size+1)) {s with heap:=h'}) :
  wpAny (model prog w) A (call (.type "enumerate") [.ref l]) Q E s:=by
 obtain⟨⟨cls,G,data,U⟩,N,Y,n,W⟩:=hl;have M:cls=.type (sqN t):=Y;have J:data=.seq xs n:=W;subst M J;have hz:(s.heap.push (nR t l)).objs.size=s.heap.objs.size+1:=zbl ..;have fin:zbW ((s.heap.push (nR t l)).push {cls:=.type "enumerate",data:=.fields #[.none,.bool false,.ref s.heap.objs.size,zaO 0,.none,.none]}) (s.heap.objs.size+1) s.heap.objs.size 0 .none:=by
  have:=zat (s.heap.push (nR t l)) (o:={cls:=.type "enumerate",data:=.fields #[.none,.bool false,.ref s.heap.objs.size,zaO 0,.none,.none]}) rfl;rw[hz]at this;exact this
 have q:=h _ fin ⟨_,zag _ (zat _ rfl),rfl,rfl⟩ λb o x=>zag _ (zag _ x)
 cases t with
 | false=>
  refine zen F.called_enumerate (by decide) (F.typeCall_enumerate_1 _) (F.newCall_enumerate_1 _) (λz=>F.args_object_init_2 z _) F.entry_enumerate_new (meets_enumerate_newL l xs n G U) ⟨N,?_⟩;have B:(s.heap.push {cls:=.type "list_iterator",data:=.fields #[.ref l,.int 0 0]}).objs.size=s.heap.objs.size+1:=hz;show _/\_;rw[B];exact⟨⟨_,fin,rfl⟩,q⟩
 | true=>
  refine zen F.called_enumerate (by decide) (F.typeCall_enumerate_1 _) (F.newCall_enumerate_1 _) (λz=>F.args_object_init_2 z _) F.entry_enumerate_new (FR l xs n G U) ⟨N,?_⟩;have B:(s.heap.push {cls:=.type "tuple_iterator",data:=.fields #[.ref l,.int 0 0]}).objs.size=s.heap.objs.size+1:=hz;show _/\_;rw[B];exact⟨⟨_,fin,rfl⟩,q⟩
theorem GA{t:Bool}{e it l:Addr}{i:Nat}{items:Array Value}{x aj:Value}{Q:Value->zab->Prop}
  (he:zbW s.heap e it i aj) (ax:SIt t s.heap it l i) (hl:SSq t s.heap l items) (hx:items[i]?=some x) (ak:e≠it)
  (hQ:∀h', IsEnumOut h' e it ((i:Int)+1) x s.heap.objs.size -> SIt t h' it l (i+1) ->
   h'.get? s.heap.objs.size=some {cls:=.type "tuple",data:=.seq #[.int i s.toks,x]}->h'.objs.size=s.heap.objs.size+1->
   (∀b o,b≠e->b≠it->s.heap.get? b=some o->h'.get? b=some o)->Q (.ref s.heap.objs.size) {s with heap:=h',toks:=s.toks+1}) :
  wpAny (model prog w) A (zbi.«enumerate.__next__» ⟨[.ref e],[]⟩) (λfin s'=>∃v,fin=.done (.ret v)/\Q v s') E s:=by
 obtain⟨hp,g,d,tk,os⟩:=s;show wpAny _ _ (field (.ref e) 2 >>= _) _ _ _;refine zaa (zaC he rfl (x:=.ref it) rfl ?_);refine zaa (next_item ax hl hx λN ah B=>?_);replace B:zaT it hp N:=B;have ab:zbW N e it i aj:=(B.2 e ak).trans he;show wpAny _ _ (field (.ref e) 3 >>= _) _ _ ⟨N,g,d,tk,os⟩;refine zaa (zaC ab rfl (x:=zaO i) rfl ?_);show wpAny _ _ (field (.ref e) 4 >>= _) _ _ ⟨N,g,d,tk,os⟩;refine zaa (zaC ab rfl (x:=.none) rfl ?_);show wpAny _ _ (mkInt i >>= _) _ _ ⟨N,g,d,tk,os⟩;refine zaa (wpAny_mkInt ?_);show wpAny _ _ (zc3 (.ref e) 3 (zaO ((i:Int)+1)) >>= _) _ _ ⟨N,g,d,tk+1,os⟩;refine zaa (zaW ab (by simp) λac W z=>?_);replace z:zaT e N ac:=z;replace W:zbW ac e it ((i:Int)+1) aj:=W;show wpAny _ _ (zc3 (.ref e) 4 .none >>= _) _ _ ⟨ac,g,d,tk+1,os⟩;refine zaa (zaW W (by simp) λU Y G=>?_);replace G:zaT e ac U:=G;replace Y:zbW U e it ((i:Int)+1) aj:=Y;show wpAny _ _ (newTuple [.int i tk,x] >>= _) _ _ ⟨U,g,d,tk+1,os⟩;refine zaa (zc6 ?_);have aa:zbW (U.push {cls:=.type "tuple",data:=.seq #[.int i tk,x]}) e it ((i:Int)+1) aj:=zag _ Y;generalize hh₄:U.push {cls:=.type "tuple",data:=.seq #[.int i tk,x]}=h₄ at aa;have hsz:U.objs.size=hp.objs.size:=by rw[G.1,z.1,B.1]
 have ar:e<hp.objs.size:=zai he;have aq:h₄.get? hp.objs.size=some {cls:=.type "tuple",data:=.seq #[.int i tk,x]}:=by rw[<- hh₄,<- hsz];exact zat _ rfl
 have au:h₄.objs.size=hp.objs.size+1:=by rw[<- hh₄,zbl,hsz]
 have as:∀b o,b≠e->b≠it->hp.get? b=some o->h₄.get? b=some o:=λb o ae ap hb=>by
  rw[<- hh₄];exact zag _ (G.extBut b o ae (z.extBut b o ae (B.extBut b o ap hb)))
 have an:SIt t h₄ it l (i+1):=by
  rw[<- hh₄];exact ah.to λo q=>zag _ (G.extBut it o (zaS ak) (z.extBut it o (zaS ak) q))
 show wpAny _ _ (zb7 (.ref e) >>= _) _ _ ⟨h₄,g,d,tk+1,os⟩;rw[hsz];clear hh₄ Y G W z ab B ah hsz U ac N;refine zaa ?_
 ·unfold zb7
  refine zaa (zaC aa rfl (x:=.none) rfl (zac ?_));simp only[if_true];refine zaa (zbV ?_);refine zaa (zaC aa rfl (x:=aj) rfl ?_);refine zaa (zaW aa (by simp) λai ad J=>?_);replace J:zaT e h₄ ai:=J;replace ad:zbW ai e it ((i:Int)+1) x:=ad;show wpAny _ _ (zc9 (.ref e) (.ref hp.objs.size) >>= _) _ _ ⟨ai,g,d,tk+1,os⟩;refine zaa ?_
  ·unfold zc9
   refine zaa (zaW ad (by simp) λam af M=>?_);replace M:zaT e ai am:=M;replace af:IsEnumOut am e it ((i:Int)+1) x hp.objs.size:=af;refine zaW af (by simp) λal ag F=>?_
   replace F:zaT e am al:=F;replace ag:IsEnumOut al e it ((i:Int)+1) x hp.objs.size:=ag;refine zaa (zbw (zac ⟨_,rfl,hQ al ag ?_ ?_ ?_ ?_⟩))
   ·exact an.to λo q=>F.extBut it o (zaS ak) (M.extBut it o (zaS ak) (J.extBut it o (zaS ak) q))
   ·exact F.extBut _ _ (zaG ar) (M.extBut _ _ (zaG ar) (J.extBut _ _ (zaG ar) aq))
   ·rw[F.1,M.1,J.1,au]
   ·exact λb o ae ap hb=>F.extBut b o ae (M.extBut b o ae (J.extBut b o ae (as b o ae ap hb)))
theorem FU{t:Bool}{e it l:Addr}{i:Nat}{items:Array Value}{x q:Value}{Q:Option Value->zab->Prop}
  (G:zbW s.heap e it i q) (B:SIt t s.heap it l i) (M:SSq t s.heap l items) (J:items[i]?=some x) (z:e≠it)
  (N:∀h', IsEnumOut h' e it ((i:Int)+1) x s.heap.objs.size -> SIt t h' it l (i+1) ->
   h'.get? s.heap.objs.size=some {cls:=.type "tuple",data:=.seq #[.int i s.toks,x]}->h'.objs.size=s.heap.objs.size+1->
   (∀b o,b≠e->b≠it->s.heap.get? b=some o->h'.get? b=some o)->Q (some (.ref s.heap.objs.size)) {s with heap:=h',toks:=s.toks+1}) :
  wpAny (model prog w) A (zaH (.ref e)) Q E s:=by
 have hT:s.TypeIs (.ref e) "enumerate" := ⟨_,G,rfl⟩;unfold zaH;exact zaa (zb4 (zbv (name:=zaY "__next__") hT zeq
  (zbb zeq hT F.entry_enumerate_next
   (GA G B M J z λh' a b c d k=>zac (N h' a b c d k)) (F.args_enumerate_next_1 _))))
theorem G5{t:Bool}{i:Nat}{items:Array Value}{Q:Option Value->zab->Prop}(M:A.handled=none)
  (G:zbW s.heap e it i old) (B:SIt t s.heap it l i) (W:SSq t s.heap l items) (N:items[i]?=none)
  (Y:∀h',zds it s.heap h'->Q none {s with heap:=h'}):wpAny (model prog w) A (zaH (.ref e)) Q E s:=by
 have hT:s.TypeIs (.ref e) "enumerate" := ⟨_,G,rfl⟩;unfold zaH;refine zaa (zb4 (zbv (name:=zaY "__next__") hT zeq
  (zbb zeq hT F.entry_enumerate_next ?_ (F.args_enumerate_next_1 _))))
 show wpAny _ _ (field (.ref e) 2 >>= _) _ _ _;refine zaa (zaC G rfl (x:=.ref it) rfl ?_);refine zaa (next_end M B W N λh' x q z=>?_);obtain⟨o,J,U⟩:=z;refine zaa (zc5 (T := "StopIteration") (b:=true) ⟨o,J,U⟩ zdu ?_);exact zac (Y _ q)
end
def ItE(K:zaf)(t:Bool)(l:Addr):It:=
 ⟨λi H => ∃xs, lO K t H l xs /\ i<xs.length, λi H x H' => ∃p u, x = .ref p /\ H p = none /\ H' = upd H p (.tup [.int (i:Int), u]) /\ ∀xs, lO K t H l xs -> xs[i]? = some u,
  λi H=>∃xs,lO K t H l xs/\xs.length<=i⟩
theorem FM{P:zap}{w:World}{K:zaf}{Y:List Expr}{x1}{tp:Pos}(t:Bool){e it l:Addr}(ab:e≠it) :
  Turn P w K (.Tuple Y x1 tp) (ItE K t l) [e,it] e (λi h=>(∃G,zbW h e it (i:Nat) G)/\SIt t h it l i) where
 mem:=by simp
 obj:=by
  rintro i h ⟨⟨G,J⟩,⟨o1,e1,_,d1⟩⟩ c z;simp only[zaE,zaF,or_false]at z;rcases z with rfl|rfl
  ·exact⟨_,J,λv q=>by cases q⟩
  ·exact⟨o1,e1,λv q=>by rw[d1]at q;cases q⟩
 keep:=λi h h' ⟨⟨G,J⟩,M⟩ k=>⟨⟨G,k e (by simp) _ J⟩,M.to λo q=>k it (by simp) o q⟩
 item:=by
  intro X hP hw hK z i pins s σ H E I W st hg;subst hP hw hK;obtain⟨⟨G,J⟩,M⟩:=st;obtain⟨xs,q1,al⟩:=hg;obtain⟨aa,r1,p1⟩:=cJ I q1;have e1:xs[i]?=some xs[i]:=by simp[al]
  obtain⟨u,eu,ru⟩:=r1.get e1;refine FU J M p1 (x:=u) (by simpa using eu) ab λh' a1 a2 a3 a4 N=>⟨_,rfl,?_⟩
  refine wpAny_letOwnedTupleGo_enum (s:={s with heap:=h',toks:=s.toks+1}) a1 λh2 ae sb=>?_
  have zz:∀c,c∈[e,it]->c<s.heap.objs.size:=λc z=>by
   simp only[zaE,zaF,or_false]at z;rcases z with rfl|rfl
   ·exact zai J
   ·obtain⟨o,q,_⟩:=M;exact zai q
  have U:∀c o,c≠e->h'.get? c=some o->h2.get? c=some o:=λc o z q=>sb.extBut _ _ z q
  have I1:Inv X pins σ H {s with heap:=h2,toks:=s.toks+1}:=dE I W λc o z q=>by
   simp only[zaE,zaF,or_false,not_or]at z;exact U c o z.1 (N c o z.1 z.2 q)
  have B:H s.heap.objs.size=none:=I.fresh;have ak:h2.get? s.heap.objs.size=some {cls:=.type "tuple",data:=.seq #[.int i s.toks,u]}:=U _ _ (zaG (zz e (by simp))) a3;have I2:Inv X pins σ (upd H s.heap.objs.size (.tup [.int (i:Int),xs[i]])) {s with heap:=h2,toks:=s.toks+1}:=by
   have an:HOk X.prog X.w (upd H s.heap.objs.size (.tup [.int (i:Int),xs[i]])) h2:=λc ob q=>by
    by_cases z:c=s.heap.objs.size
    ·subst z;rw[aJ]at q;cases q
     exact⟨by show 2<=zaj;decide,[.int i s.toks,u],.cons ⟨_,rfl⟩ (.cons ru .nil),_,ak,rfl,0,rfl,rfl⟩
    ·rw[aE z]at q
     exact(I1.hok c ob q).stay (λ_ _ _ q=>q) (λd q=>by rw[aE (aR q B)];exact q) λd ah q=>by rw[aE (aR q B)];exact q
   refine I.call' (s':={s with heap:=h2,toks:=s.toks+1}) (ch:=[e,it]) rfl ⟨λc o q _ _ F=>?_,λc o q _ _ F=>⟨o.slots,?_⟩,λc o q n F=>by rw[aE (zaz (zai q))];exact n,λc o q F=>⟨o,?_⟩,λc ah q=>by rw[aE (aR q B)];exact q,λc o' u' q=>by rw[aE (aR q B)];exact q,λc ps q=>⟨#[],by rw[aE (aR q B),q];simp⟩⟩ an I.bare λb hb=>?_
   ·simp only[zaE,zaF,or_false,not_or]at F
    exact U c o F.1 (N c o F.1 F.2 q)
   ·simp only[zaE,zaF,or_false,not_or]at F
    exact U c o F.1 (N c o F.1 F.2 q)
   ·simp only[zaE,zaF,or_false,not_or]at F
    exact U c o F.1 (N c o F.1 F.2 q)
   ·obtain⟨_,f1,_,f3,f4,f5⟩:=W b hb
    exact⟨f3,f1,f4,f5⟩
  refine⟨.ref s.heap.objs.size,_,I2,rfl,⟨_,_,rfl,B,rfl,λar g1=>by rw[<- iX I q1 g1];exact e1⟩,⟨⟨_,ae⟩,a2.to λo q=>U _ o (zaS ab) q⟩,λc z=>?_⟩;rw[aE (zaz (zz c z))];exact(W c z).1
 done:=by
  intro X hP hw hK z i pins s σ H E I W st hg;subst hP hw hK;obtain⟨⟨G,J⟩,M⟩:=st;obtain⟨xs,q1,ao⟩:=hg;obtain⟨aa,r1,p1⟩:=cJ I q1;have n1:=r1.length;refine G5 (I.ok.hd z) J M p1 (by simp;lia) λh' N=>⟨rfl,dE (t':=s.toks) I W λc o z q=>?_⟩
  simp only[zaE,zaF,or_false,not_or]at z;exact N c o z.2 q
 self:=λ_ _ _ _ _ st h=>let ⟨⟨_,J⟩,_⟩:=st;wpAny_pyIter_enum J h
theorem boot_enumerate:zaN "enumerate" = some (.type "enumerate"):=by first|rfl|decide +kernel
def XB(K:zaf)(ta:TA):TI:=λσ H R=>ta σ H λvs H1=>∃t l xs,vs=[.ref l]/\lO K t H1 l xs/\R (ItE K t l) H1
theorem MI{X:Cx}{z:List Expr}{x1}{tp:Pos}{a:Expr}{ta:TA}{p pos:Pos}(hg:Gl X "enumerate")(Y:X.mg "enumerate" = none)(ha:PA X [a] ta)(hs:zah [a] X.env=[(false,eval a X.env)]:=by rfl) :
  PI X (.Tuple z x1 tp) (.Call (.Name "enumerate" p) [a] [] pos) (XB X.K ta):=by
 intro pins s σ H R I h;refine Call_ (fL I hg Y boot_enumerate (zcC (bN (ha pos pins s σ H _ I h) λus M ⟨vs,H1,F,r1,J⟩=>?_) (by rw[hs];rfl) rfl));obtain⟨t,l,xs,rfl,J,q⟩:=J;obtain⟨u,rfl,ru⟩:=vals1 r1;cases ru;obtain⟨U,_,W⟩:=cJ F J;refine E9 W λh' N G k=>?_
 refine wpAny_pyIter_enum N ?_;have D:M.heap.objs.size+1≠M.heap.objs.size:=by lia
 refine⟨_,[_,_],_,_,H1,rfl,F.kept (t':=M.toks) k,FM t D,⟨⟨_,N⟩,G⟩,λc B=>F.fpOk ?_ (F.hok.fresh ?_),q⟩
 ·simp only[zaE,zaF,or_false]at B
  rcases B with rfl|rfl <;> lia
 ·simp only[zaE,zaF,or_false]at B
  rcases B with rfl|rfl <;> lia
end My
namespace P
open PySem PySem.Spec PyProof.Rows L2
noncomputable def eL:Nat->List D->List D
 | _,[]=>[]
 | k,x::xs=>.tup [.int (k:Int),x]::eL (k+1) xs
def D6(f:Lv):Lv:=λρ=>(f ρ).bind λds=>match ds with
 | [a]=>(cP a).map (eL 0)
 | _=>none
theorem fY:∀ {xs:List D} {k i:Nat} {d:D},(eL k xs)[i]?=some d->∃x,xs[i]?=some x/\d=.tup [.int ((k+i:Nat):Int),x]
 | [],k,i,d,h=>by simp[eL]at h
 | x::xs,k,0,d,h=>by simp[eL]at h;exact⟨x,rfl,h.symm⟩
 | x::xs,k,i+1,d,h=>by
  obtain⟨y,q,z⟩:=fY (xs:=xs) (k:=k+1) (i:=i) (by simpa[eL]using h);exact⟨y,by simpa using q,by rw[z];congr 4;lia⟩
theorem iO:∀(xs:List D) (k:Nat),(eL k xs).length=xs.length
 | [],_=>rfl
 | x::xs,k=>by simp[eL,iO xs]
theorem IW{G}(hg:Gl X "enumerate")(hm:X.mg "enumerate" = none)(ha:zX X O [a] f)(hs:zah [a] X.env=[(false,eval a X.env)]:=by rfl) :
  PDI X O (.Tuple elts G tp) (.Call (.Name "enumerate" p) [a] [] pos) (D6 f):=PI.mono (My.MI hg hm ha hs) λσ H R ⟨H0,A0,A,E,ρ,items,st,e,q⟩=>by
 obtain⟨ds,e1,e⟩:=bind_some e;refine⟨H0,A0,A,E,ρ,ds,st,e1,λvs H1 G r1=>?_⟩;split at e
 case h_2=>cases e
 rename_i da;obtain⟨xs,e2,rfl⟩:=map_some e;obtain⟨v,rfl,N⟩:=r1.one;obtain⟨t1,F,us,rfl,q1,_,k1⟩:=iY (K:=X.K) e2 N;refine⟨t1,F,us,rfl,q1,q _ H1 [.rep da (.ref F)] G (λp hp=>?_) ?_⟩
 ·rw[List.mem_singleton.mp hp];exact N
 ·intro A' H' lv hE i
  have a1:Rep A' H' da (.ref F):=hE (.rep da (.ref F)) (zau ..);obtain⟨z,J,B⟩:=k1 A' H' a1;refine⟨λhi=>⟨z,J,by rw[B.length];rw[iO]at hi;exact hi⟩,λd W=>?_⟩;obtain⟨x,ex,rfl⟩:=fY W;obtain⟨u,M,ru⟩:=B.get' ex;refine⟨⟨z,J,(List.getElem?_eq_some_iff.mp M).1⟩,λx' H2 ⟨p,u',e4,n,e5,Y⟩=>?_⟩;subst e4 e5;have U:=Y z J;rw[M]at U;cases U;rw[zdb];exact⟨Ext.new n,.tup aJ (.cons (.int _) (.cons (ru.ext (Ext.new n)) .nil))⟩
@[simp] theorem q_enum:D6 f ρ=(f ρ).bind λds=>match ds with
 | [a]=>(cP a).map (eL 0)
 | _=>none:=rfl
end P
namespace P
open L2
structure Ro where
 j:Int
 k:Int
 a:Int
 b:Int
 p:Int
structure GR(M many:Int)(rs:List Ro):Prop where
 len:rs.length<=12
 jk:∀r∈rs,0<=r.j/\r.j<r.k/\r.k<many
 ab:∀r∈rs,(0<=r.a/\r.a<M)/\0<=r.b/\r.b<M
 pr:∀r∈rs,0<=r.p/\r.p<=10^30
noncomputable def eN(rs:List Ro)(n:Int):Option Ro:=if 0<=n then rs[n.toNat]? else none
theorem d6(h:eN rs n=some r):r∈rs:=by
 unfold eN at h;split at h
 ·exact zaI h
 ·cases h
theorem l8(h:eN rs n=some r):0<=n/\n<(rs.length:Int):=by
 unfold eN at h;split at h
 ·rename_i h0
  have:=(List.getElem?_eq_some_iff.mp h).1
  lia
 ·cases h
def gw(rs:List Ro):Int->List Int->Option Int
 | at_,[]=>some at_
 | at_,n::w=>(eN rs n).bind λr=>if r.j=at_ then gw rs r.k w else none
theorem lX:∀ {at_:Int} {v w:List Int},gw rs at_ (v++w)=(gw rs at_ v).bind λe=>gw rs e w
 | at_,[],w=>rfl
 | at_,n::v,w=>by
  show((eN rs n).bind λr=>if r.j=at_ then gw rs r.k (v++w)else none)=_;cases e:eN rs n with
  | none=>simp[gw,e]
  | some r=>
   by_cases h:r.j=at_
   ·simp[gw,e,h,lX (v:=v) (w:=w)]
   ·simp[gw,e,h]
theorem NI(h:gw rs at_ w=some e)(z:eN rs n=some r)(q:r.j=e):gw rs at_ (w++[n])=some r.k:=by
 rw[lX,h];simp[gw,z,q]
theorem BQ(g:GR M many rs):∀ {at_ e:Int} {w:List Int},gw rs at_ w=some e->at_+(w.length:Int)<=e
 | at_,e,[],h=>by cases h;simp
 | at_,e,m::w,h=>by
  unfold gw at h;cases er:eN rs m with
  | none=>rw[er]at h;cases h
  | some r=>
   rw[er]at h;simp only[zdC]at h;split at h
   ·have:=BQ g h
    have:=(g.jk r (d6 er)).2.1;simp only[za3];lia
   ·cases h
def cZ(rs:List Ro)(M:Int)(x:Int)(w:List Int):Int:=w.foldl (λx n=>match eN rs n with|some r=>(r.a*x+r.b)%M|none=>x) x
def gP(rs:List Ro)(M:Int)(t:Int×Int)(w:List Int):Int×Int:=w.foldl (λt n=>match eN rs n with|some r=>(t.1*r.a%M,(r.a*t.2+r.b)%M)|none=>t) t
theorem yP(a x b M:Int):(a*(x%M)+b)%M=(a*x+b)%M:=by
 rw[zer,zes,zet _ (zeu M),<- zes,<- zer]
theorem wI(h0:0<M):∀(w:List Int) (t:Int×Int) (x y:Int),(0<=t.1/\t.1<M)->(0<=t.2/\t.2<M)->y%M=(t.1*x+t.2)%M->
  (0<=(gP rs M t w).1/\(gP rs M t w).1<M)/\(0<=(gP rs M t w).2/\(gP rs M t w).2<M)/\cZ rs M y w%M=((gP rs M t w).1*x+(gP rs M t w).2)%M
 | [],t,x,y,h1,h2,h=>⟨h1,h2,h⟩
 | n::w,t,x,y,h1,h2,h=>by
  cases e:eN rs n with
  | none=>
   have:=wI (rs:=rs) h0 w t x y h1 h2 h;simpa[gP,cZ,e]using this
  | some r=>
   have G:=zax (t.1*r.a) (zaX h0);have B:=zay (t.1*r.a) h0;have q:=zax (r.a*t.2+r.b) (zaX h0);have z:=zay (r.a*t.2+r.b) h0;have:=wI (rs:=rs) h0 w (t.1*r.a%M,(r.a*t.2+r.b)%M) x ((r.a*y+r.b)%M) ⟨G,B⟩ ⟨q,z⟩ (by
    show(r.a*y+r.b)%M%M=(t.1*r.a%M*x+(r.a*t.2+r.b)%M)%M;rw[zet _ (zeu M),<- yP r.a y,h,yP];have F:(t.1*r.a%M*x+(r.a*t.2+r.b)%M)%M=(t.1*r.a*x+(r.a*t.2+r.b))%M:=by
     rw[zer,zes,zet _ (zeu M),zet _ (zeu M),<- zes,<- zer]
    rw[F];congr 1;rw[Int.mul_add,<- zew,Int.mul_comm r.a t.1]
    lia)
   simpa[gP,cZ,e]using this
theorem dG(h0:0<M):∀(w:List Int) (x:Int),(0<=x/\x<M)->0<=cZ rs M x w/\cZ rs M x w<M
 | [],x,h=>h
 | n::w,x,h=>by
  cases e:eN rs n with
  | none=>have:=dG (rs:=rs) h0 w x h;simpa[cZ,e]using this
  | some r=>
   have:=dG (rs:=rs) h0 w ((r.a*x+r.b)%M) ⟨zax _ (zaX h0),zay _ h0⟩;simpa[cZ,e]using this
def Rch(rs:List Ro)(x k:Int):Prop:=∃w,gw rs x w=some k
theorem Rch.refl(rs:List Ro)(k:Int):Rch rs k k:=⟨[],rfl⟩
theorem Rch.inv(h:Rch rs x k):x=k\/∃n r,eN rs n=some r/\r.j=x/\Rch rs r.k k:=by
 obtain⟨w,hw⟩:=h;cases w with
 | nil=>cases hw;exact .inl rfl
 | cons n w=>
  unfold gw at hw;cases er:eN rs n with
  | none=>rw[er]at hw;cases hw
  | some r=>
   rw[er]at hw;simp only[zdC]at hw;split at hw
   ·rename_i hj
    exact .inr ⟨n,r,er,hj,w,hw⟩
   ·cases hw
theorem Rch.le(g:GR M many rs)(h:Rch rs x k):x<=k:=by
 obtain⟨w,hw⟩:=h;have:=BQ g hw
 lia
def IsF(rs:List Ro)(k:Int):Int->List Int->Prop
 | x,[]=>x=k
 | x,n::w=>∃r,eN rs n=some r/\r.j=x/\IsF rs k r.k w/\∀m r',m<n->eN rs m=some r'->r'.j=x->¬ Rch rs r'.k k
theorem IsF.way:∀ {x:Int} {w:List Int},IsF rs k x w->gw rs x w=some k
 | x,[],h=>by rw[show x=k from h];rfl
 | x,n::w,⟨r,hr,hj,h,_⟩=>by simp[gw,hr,hj,IsF.way h]
theorem IsF.rch(h:IsF rs k x w):Rch rs x k:=⟨w,h.way⟩
noncomputable def bR(ds:List (Int×List Int))(x:Int):Option (List Int):=(ds.find? λp=>decide (p.1=x)).map (·.2)
theorem jS(h:bR ds x=none):bR (ds++[(x,w)]) y=if y=x then some w else bR ds y:=by
 unfold bR at h ⊢;rw[ze6];by_cases e:y=x
 ·subst e
  rw[if_pos rfl];have:(ds.find? λp=>decide (p.1=y))=none:=by
   cases z:ds.find? λp=>decide (p.1=y)with
   | none=>rfl
   | some p=>rw[z]at h;cases h
  rw[this];simp
 ·rw[if_neg e]
  have q:¬ x=y:=λz=>e z.symm
  simp[q]
structure FI(rs:List Ro)(k c:Int)(ds:List (Int×List Int)):Prop where
 it:∀x w,bR ds x=some w->c<=x/\x<=k/\IsF rs k x w
 no:∀x,c<=x->x<=k->bR ds x=none->¬ Rch rs x k
structure FJ(rs:List Ro)(k c:Int)(i:Nat)(ds:List (Int×List Int)):Prop where
 it:∀x w,bR ds x=some w->c<=x/\x<=k/\IsF rs k x w
 no:∀x,c<x->x<=k->bR ds x=none->¬ Rch rs x k
 me:bR ds c=none->∀m r,m<(i:Int)->eN rs m=some r->r.j=c->¬ Rch rs r.k k
theorem FI.start(rs:List Ro)(k:Int):FI rs k k [(k,[])]:=by
 refine⟨λx w h=>?_,λx h1 h2 h=>?_⟩
 ·unfold bR at h
  simp at h;obtain⟨e,rfl⟩:=h;subst e;exact⟨zex _,zex _,rfl⟩
 ·have e:x=k:=by lia
  subst e;simp[bR]at h
theorem FI.go(h:FI rs k (c+1) ds):FJ rs k c 0 ds:=
 ⟨λx w e=>by have:=h.it x w e;exact⟨by lia,this.2⟩,λx h1 h2 e=>h.no x (by lia) h2 e,λ_ m r z q=>by have:=(l8 q).1;lia⟩
theorem FJ.skip(g:GR M many rs)(h:FJ rs k c i ds)(B:eN rs (i:Int)=some r)(N:¬ (r.j=c/\(bR ds r.k).isSome=true/\bR ds c=none)):FJ rs k c (i+1) ds:=by
 refine⟨h.it,h.no,λe m J U q F=>?_⟩;by_cases z:m<(i:Int)
 ·exact h.me e m J z q F
 ·have:m=(i:Int):=by lia
  subst this;rw[B]at q;cases q;cases e2:bR ds r.k with
  | some w=>exact absurd ⟨F,by rw[e2];rfl,e⟩ N
  | none=>
   have:=(g.jk r (d6 B)).2.1;by_cases G:r.k<=k
   ·exact h.no r.k (by lia) G e2
   ·exact λz=>G (z.le g)
theorem FJ.put(h:FJ rs k c i ds)(U:c<k)(J:eN rs (i:Int)=some r)(N:r.j=c)(hw:bR ds r.k=some w)(q:bR ds c=none):FJ rs k c (i+1) (ds++[(c,(i:Int)::w)]):=by
 refine⟨λx v e=>?_,λx h1 h2 e=>?_,λe=>?_⟩
 ·rw[jS q]at e
  by_cases z:x=c
  ·rw[if_pos z]at e
   cases e;subst z;exact⟨zex _,by lia,r,J,N,(h.it _ _ hw).2.2,λm M G B F=>h.me q m M G B F⟩
  ·rw[if_neg z]at e
   exact h.it x v e
 ·rw[jS q,if_neg (by lia)]at e
  exact h.no x h1 h2 e
 ·rw[jS q,if_pos rfl]at e
  cases e
theorem FJ.done(h:FJ rs k c rs.length ds)(G:c<k):FI rs k c ds:=by
 refine⟨h.it,λx h1 h2 e=>?_⟩;by_cases z:x=c
 ·subst z
  intro q;rcases q.inv with z|⟨n,r,B,F,q⟩
  ·lia
  ·exact h.me e n r (l8 B).2 B F q
 ·exact h.no x (by lia) h2 e
theorem FI.end(g:GR M many rs)(h:FI rs k c ds)(q:c<=j):(∀w,bR ds j=some w->IsF rs k j w)/\(bR ds j=none->¬ Rch rs j k):=by
 refine⟨λw e=>(h.it j w e).2.2,λe z=>?_⟩;exact h.no j q (z.le g) e z
noncomputable def fl{α:Type}(h:Nat->Ro->List α):Nat->List Ro->List α
 | _,[]=>[]
 | m,r::rs=>h m r++fl h (m+1) rs
noncomputable def sg(q:Nat->Ro->Int):Nat->List Ro->Int
 | _,[]=>0
 | m,r::rs=>q m r+sg q (m+1) rs
end P
namespace P
open PySem PySem.Spec PyProof.Rows L2
theorem lU{n:Nat}(h:n<=1000000):cG [.int (n:Int)]=some (aW 0 1 n):=by
 show(if cS (n:Int)then _ else _)=_;rw[if_pos (by simp only[cS,zaK,decide_eq_true_eq];lia)];simp
theorem eE(h0:0<=y)(h:y<=1000000):cG [.int y]=some (aW 0 1 y.toNat):=by
 show(if cS y then _ else _)=_;rw[if_pos (by simp only[cS,zaK,decide_eq_true_eq];lia)]
theorem EQ(F:1<=c)(q:c<1000)(J:0<=a)(B:a<=1000)(G:0<=b)(z:b<=1000):∃m:Nat,gL [.int a,.int b,.int c]=some (aW a c m)/\∀i:Nat,i<m->a+(i:Int)*c<b:=
 ⟨My.rsz a b c, by
  show(if c≠0/\c.natAbs<1000/\zch a b c=true then some (aW a c (My.rsz a b c))else none)=_;rw[if_pos ⟨by lia,by lia,My.EX F (by lia) (by lia) (by lia) (by lia) (by lia)⟩],λi hi=>UO (by lia) hi⟩
theorem IT(h:v.length+w.length<=1000000):cI (tupI v) (tupI w)=some (tupI (v++w)):=by
 unfold tupI;rw[q_addAT,if_pos (by simp only[aZ,zal];exact decide_eq_true h),za4]
noncomputable def bB(r:Ro):D:=.tup [.int r.j,.int r.k,.int r.a,.int r.b,.int r.p]
theorem wJ(h:eN rs n=some r):dW (rs.map bB) n=some (bB r):=by
 have q:=l8 h;obtain⟨j,rfl⟩:∃j:Nat,n=(j:Int):=⟨n.toNat,by lia⟩;unfold eN at h;rw[if_pos (by lia)]at h;refine bG ?_;rw[zar];simp at h;rw[h];rfl
theorem at0:dW (a::l) 0=some a:=bG (j:=0) rfl
theorem at1:dW (a::b::l) 1=some b:=bG (j:=1) rfl
theorem at2:dW (a::b::c::l) 2=some c:=bG (j:=2) rfl
theorem YV:dW (a::b::c::d::l) 3=some d:=bG (j:=3) rfl
theorem XX:aI (bB r) (.int 0)=some (.int r.j):=by simp[bB,at0]
theorem XG:aI (bB r) (.int 1)=some (.int r.k):=by simp[bB,at1]
noncomputable def AA(t:Int×Int):D:=.tup [.int t.1,.int t.2]
theorem V0:j8 (bB r) (some 2) (some 4)=some (AA (r.a,r.b)):=rfl
theorem qH(B:-1000<=a)(q:a<=1000)(F:-1000<=b)(z:b<=1000):gL [.int a,.int b,.int (-1)]=some (aW a (-1) (a-b).toNat):=by
 have e:My.rsz a b (-1)=(a-b).toNat:=by
  unfold My.rsz zbR;rw[if_neg (by decide)];by_cases h:a>b
  ·rw[if_pos h,show -(-1:Int)=1 from rfl,Int.ediv_one];lia
  ·rw[if_neg h];lia
 have s:zch a b (-1)=true:=by
  unfold zch zbR;simp only[zfe,zaK,zdn,decide_eq_true_eq,beq_iff_eq];rw[if_neg (by decide),show -(-1:Int)=1 from rfl,Int.ediv_one];have t:(if(-1:Int)>0 then decide (-2^63<=b+(-1-1)) && decide (b+(-1-1)<2^63)else decide (-2^63<=b+(-1+1)) && decide (b+(-1+1)<2^63))=true:=by
   rw[if_neg (by decide),zaK];exact⟨decide_eq_true (by lia),decide_eq_true (by lia)⟩
  rw[t];refine⟨?_,.inr rfl⟩;split <;> lia
 show(if(-1:Int)≠0/\(-1:Int).natAbs<1000/\zch a b (-1)=true then some (aW a (-1) (My.rsz a b (-1)))else none)=_;rw[if_pos ⟨by decide,by decide,s⟩,e]
def fK(p:Int×List Int):Key×D:=(.inl p.1,tupI p.2)
theorem SE(ds:List (Int×List Int))(x:Int):b7 (ds.map fK) (.inl x:Key)=(bR ds x).map tupI:=by
 unfold b7 bR;induction ds with
 | nil=>rfl
 | cons p ds ih=>
  rw[zak,za8,za8];by_cases e:p.1=x
  ·have q:(fK p).1=(zam x:Key):=by show(zam p.1:Key)=_;rw[e]
   simp[e,q,fK]
  ·have q:¬ (fK p).1=(zam x:Key):=λz=>e (by injection z)
   simp only[e,q,decide_false];exact ih
theorem vX(ds:List (Int×List Int))(x:Int):cH (.dK (ds.map fK)) (.int x)=some ((bR ds x).map tupI):=by
 show some (b7 (ds.map fK) (.inl x:Key))=_;rw[SE]
theorem S9(h:bR ds x=none)(hz:ds.length<=1000000):sI (.dK (ds.map fK)) (.int x) (tupI w)=some (.dK ((ds++[(x,w)]).map fK)):=by
 show(if aZ (ds.map fK).length then some (D.dK (putD (ds.map fK) (.inl x:Key) (tupI w)))else none)=_;rw[if_pos (by simp only[aZ,zal];exact decide_eq_true hz)];have G:((ds.map fK).any λp=>decide (p.1=(zam x:Key)))=false:=by
  rw[List.any_eq_false];intro p F;obtain⟨q,B,rfl⟩:=List.mem_map.mp F;have:q.1≠x:=λz=>by
   have:(ds.find? λp=>decide (p.1=x))≠none:=λy=>by
    rw[List.find?_eq_none]at y;exact y q B (by simp[z])
   unfold bR at h;cases y:ds.find? λp=>decide (p.1=x)with
   | none=>exact this y
   | some p=>rw[y]at h;cases h
  simp[fK,this]
 unfold putD;rw[G,za4];rfl
noncomputable def cV(K:Nat)(p:Int->Bool):D:=.lst ((zaB K).map λ(k:Nat)=>.bl (p (k:Int)))
def bF(K:Nat)(P:Int->Int->Bool):D:=.lst ((zaB K).map λ(x:Nat)=>cV K (P (x:Int)))
theorem v8{K:Nat}{p:Int->Bool}{k:Int}(h0:0<=k)(h:k<(K:Int)):aI (cV K p) (.int k)=some (.bl (p k)):=by
 obtain⟨j,rfl⟩:∃j:Nat,k=(j:Int):=⟨k.toNat,by lia⟩;exact bG (by simp[show j<K by lia])
theorem BM{K:Nat}{P:Int->Int->Bool}{k:Int}(h0:0<=k)(h:k<(K:Int)):aI (bF K P) (.int k)=some (cV K (P k)):=by
 obtain⟨j,rfl⟩:∃j:Nat,k=(j:Int):=⟨k.toNat,by lia⟩;exact bG (by simp[show j<K by lia])
noncomputable def XC(K:Nat)(f:Int->D):D:=.lst ((zaB K).map λ(x:Nat)=>f (x:Int))
theorem ON{K:Nat}{f:Int->D}{c:Int}{d:D}(h0:0<=c)(h:c<(K:Int)):sI (XC K f) (.int c) d=some (XC K λx=>if x=c then d else f x):=by
 have z:GO ((zaB K).map λ(x:Nat)=>f (x:Int)).length c=some c.toNat:=by
  unfold GO;rw[if_pos h0,if_pos (by simpa using h)]
 show((QL (.int c)).bind λk=>(GO _ k).map λj=>D.lst (List.set _ j d))=_;simp only[q_asI,zdC];rw[z];show some (D.lst _)=some (D.lst _);congr 2;refine zdm (by simp) λi h1 h2=>?_
 rw[List.getElem_set];by_cases e:c.toNat=i
 ·have q:((i:Nat):Int)=c:=by lia
  simp[e,q]
 ·have q:¬ ((i:Nat):Int)=c:=by lia
  simp[e,q]
theorem IZ(K:Nat):aW 0 1 K=(zaB K).map λ(k:Nat)=>D.int (k:Int):=by
 unfold aW;exact zey λi _=>by simp
theorem xY{K:Nat}{f:Ev}{rest:List (Option D)}{F:Int->D}(h:∀k:Int,0<=k->k<(K:Int)->f (some (.int k)::rest)=some (F k)):∀(l:List Nat) (o:Option D),(∀k∈l,k<K)->bW (aH 0) zQ f (l.map λ(k:Nat)=>D.int (k:Int)) (o::rest)=some (l.map λ(k:Nat)=>F (k:Int))
 | [],o,_=>rfl
 | k::l,o,hl=>by
  have ih:=xY h l (some (.int (k:Int))) λm q=>hl m (zav _ q)
  have z:=h (k:Int) (by lia) (by have:=hl k (zau ..);lia);simp[bW,z,ih]
theorem fZ(h1:-1000<=a)(h2:a<=1000)(q:-1000<=b)(z:b<=1000000):d5 [.int a,.int b]=some (aW a 1 (b-a).toNat):=by
 show(if(cS a && cS b)=true then _ else _)=_;rw[if_pos (by simp only[cS,zaK,decide_eq_true_eq];lia)]
end P
namespace My
open PySem PySem.Spec PyProof.Rows L2
noncomputable def XY(a:Bool):String:=if a=true then "str_ascii_iterator" else "str_iterator"
noncomputable def qx(x:Str):It:=⟨λi H=>i<x.cps.size,λi H y H'=>H'=H/\∃c,x.cps[i]?=some c/\y=.str ⟨#[c]⟩,λi H=>x.cps.size<=i⟩
theorem HS{P:zap}{w:World}{K:zaf}{tg:Expr}(a:Bool)(x:Str)(t:Tok)(it:Addr):Turn P w K tg (qx x) [it] it (λi h=>h.IsStrIter it (XY a) x t i) where
 mem:=by simp
 obj:=λi h st b q=>by
  have e:b=it:=by simpa using q
  subst e;obtain⟨o,e,c,d⟩:=st;exact⟨o,e,λv z=>by rw[d]at z;cases z⟩
 keep:=λi h h' st k=>let ⟨o,ho,r⟩:=st;⟨o,k it (by simp) o ho,r⟩
 item:=by
  intro X hP hw Y hc i pins s σ H E I J st hg;subst hP hw Y;obtain⟨W,U,f2,N,M,G⟩:=J it (by simp);have hi:i<x.cps.size:=hg;have F:x.cps[i]?=some x.cps[i]:=by simp[hi]
  cases a with
  | true=>
   refine wpAny_pyNext_ascii_item st F λh' B sb=>?_
   have I1:Inv X pins σ H {s with heap:=h',toks:=s.toks+1}:=I.turned (t':=s.toks+1) (λb o q e=>(sb.2 b q).trans e) W U N M G;obtain⟨o,e,c,d⟩:=id B;exact⟨_,rfl,nN (s:={s with heap:=h',toks:=s.toks+1}) e c d (by decide) ⟨.str ⟨#[x.cps[i]]⟩,H,I1,⟨_,rfl⟩,⟨rfl,_,F,rfl⟩,B,λb q=>(J b q).1⟩⟩
  | false=>
   refine wpAny_pyNext_wide_item st F λh' B sb=>?_
   have I1:Inv X pins σ H {s with heap:=h',toks:=s.toks+1}:=I.turned (t':=s.toks+1) (λb o q e=>(sb.2 b q).trans e) W U N M G;obtain⟨o,e,c,d⟩:=id B;exact⟨_,rfl,nN (s:={s with heap:=h',toks:=s.toks+1}) e c d (by decide) ⟨.str ⟨#[x.cps[i]]⟩,H,I1,⟨_,rfl⟩,⟨rfl,_,F,rfl⟩,B,λb q=>(J b q).1⟩⟩
 done:=by
  intro X hP hw Y hc i pins s σ H E I J st hg;subst hP hw Y;obtain⟨W,U,f2,N,M,G⟩:=J it (by simp);have hi:x.cps.size<=i:=hg;have F:x.cps[i]?=none:=by simp[hi]
  cases a with
  | true=>exact wpAny_pyNext_ascii_end (I.ok.hd hc) st F λh' eb=>⟨rfl,I.turned (t':=s.toks) (λb o q e=>eb b o q e) W U N M G⟩
  | false=>exact wpAny_pyNext_wide_end (I.ok.hd hc) st F λh' eb=>⟨rfl,I.turned (t':=s.toks) (λb o q e=>eb b o q e) W U N M G⟩
 self:=λ_ _ _ _ _ st h=>by
  cases a with
  | true=>exact wpAny_pyIter_striter_ascii st h
  | false=>exact wpAny_pyIter_striter_wide st h
def Z1(tl:TE):TI:=λσ H R=>tl σ H λx H1=>∃y,x=.str y/\R (qx y) H1
section
variable {X:Cx}{tg:Expr}
theorem QY{l:Expr}{tl:TE}(G:PE X l tl):PI X tg l (Z1 tl):=by
 intro pins s σ H R I h;refine bN (G pins s σ H _ I h) λv z ⟨x,H1,B,M,J⟩=>?_
 obtain⟨y,rfl,q⟩:=J;obtain⟨t,rfl⟩:=M;have fin:∀a:Bool,PIE X pins σ tg R (.ref z.heap.objs.size) {z with heap:=z.heap.push {cls:=.type (XY a),data:=.fields #[.str y t,.int 0 0]} }:=λa=>by
  refine⟨z.heap.objs.size,[z.heap.objs.size],_,_,H1,rfl,B.kept (t':=z.toks) λb o e=>zag _ e,HS a y t _,⟨_,zat _ rfl,rfl,rfl⟩,λb F=>?_,q⟩;have e:b=z.heap.objs.size:=by simpa using F
  subst e;exact B.fpOk (zao _) (B.hok.fresh (zao _))
 cases ha:y.cps.all (·<128)
 ·exact wpAny_pyIter_wide ha (fin false)
 ·exact wpAny_pyIter_ascii ha (fin true)
theorem FH:OpR X (zaq .LtE) (λx y H Q=>∃i j,x=.str i/\y=.str j/\Q (.bl (!decide (j.cps.toList<i.cps.toList))) H):=by
 intro pins s σ H x y v u Q I B z h;obtain⟨i,j,rfl,rfl,q⟩:=h;obtain⟨t,rfl⟩:=B;obtain⟨t',rfl⟩:=z;exact PySem.P.le_str ⟨.bl _,H,I,rfl,q⟩
theorem SV{bs:List Bool}{q:List Value}(r:Vals (bs.map V.bl) q):TruthOf P w A (λi v=>q.toArray[i]?=some v) (λi=>(bs[i]?).getD false):=by
 intro i v s Q E z B;have z:q[i]?=some v:=by simpa using z
 have G:=r.length;rw[zal]at G;have hi:i<bs.length:=by rw[G];exact(List.getElem?_eq_some_iff.mp z).1
 have e:(bs.map V.bl)[i]?=some (.bl bs[i]):=by simp[hi]
 obtain⟨u,F,J⟩:=r.get e;rw[z]at F;cases F;cases J;have:(bs[i]?).getD false=bs[i]:=by simp[hi]
 dsimp only at B;rw[this]at B;exact zbD B
theorem range_all(bs:List Bool):(zaB bs.length).all (λi=>(bs[i]?).getD false)=bs.all id:=by
 rw[zcT,zcO,zcO];constructor
 ·intro h b q
  obtain⟨i,hi,rfl⟩:=List.getElem_of_mem q;have:=h i (List.mem_range.mpr hi);simpa[hi]using this
 ·intro h i hi
  have hi:=List.mem_range.mp hi;simpa[hi]using h bs[i] (zc8 hi)
theorem E4(hc:X.calm=true):CallR X (.builtin "all") (λxs H Q=>∃(p:Addr) (bs:List Bool),xs=[.ref p]/\SqL X.K H p (bs.map V.bl)/\Q (.bl (bs.all id)) H):=by
 intro pins s σ H xs us Q I r h;obtain⟨p,bs,rfl,hq,q⟩:=h;obtain⟨u,rfl,Y⟩:=vals1 r;cases Y;obtain⟨B,J,M,hz⟩:=I.list hq;have F:s.heap.IsList p B.toArray:=M.isList;obtain⟨o,N,ac,n,hd⟩:=id F;have G:p≠s.heap.objs.size:=zaz (zai N);refine call_all_walk (zcc F ?_);refine⟨s.heap.objs.size,_,_,_,_,_,_,rfl,Walks.list (prog:=X.prog) (w:=X.w) (A:=X.A.in1) (I.ok.hd hc) s.heap.objs.size p G B.toArray,⟨⟨_,zat _ rfl,rfl,rfl⟩,F.at λo e=>zag _ e⟩,SV J,λh' tk W=>?_⟩;have hk:∀b o,s.heap.get? b=some o->h'.get? b=some o:=λb o e=>W b o (λU=>absurd (zai e) ((List.mem_singleton.mp U) ▸ zbd _)) (zag _ e)
 have z:=J.length;rw[zal]at z;refine⟨.bl (bs.all id),H,I.kept (t':=tk) hk,?_,q⟩;rw[zaA,<- z,range_all];rfl
theorem y4:∀ {ss:List Str} {its:List Value},Vals (ss.map V.str) its->StrsAre its ss
 | [],_,.nil=>.nil
 | x::ss,_,.cons r t=>by
  obtain⟨k,rfl⟩:=r;exact .cons x k (y4 t)
def rJoin(K:zaf):V->List V->Hp->VK->Prop:=λx vs H Q=>∃(sep:Str) (p:Addr) (ss:List Str),x=.str sep/\vs=[.ref p]/\SqL K H p (ss.map V.str)/\(ss.map (·.length)).sum+ss.length*sep.length<=16777216/\Q (.str (Txt.join sep ss)) H
theorem MB:qq X "str.join" (rJoin X.K):=by
 intro pins s σ H x vs v us Q I F J h;obtain⟨sep,p,ss,rfl,rfl,N,hz,q⟩:=h;obtain⟨t,rfl⟩:=F;obtain⟨u,rfl,M⟩:=J.one;cases M;obtain⟨z,G,B,_⟩:=I.list N;exact join_list (items:=z.toArray) B.isList (by simpa using y4 G) hz λt' k=>⟨.str (Txt.join sep ss),H,I.kept (t':=k) λ_ _ e=>e,⟨_,rfl⟩,q⟩
end
end My
namespace P
open PySem PySem.Spec PyProof.Rows L2
section
variable {X:Cx}{O O':List Nat}{L:Lp}
noncomputable def LD:List D->Option (List Bool)
 | []=>some []
 | .bl b::l=>(LD l).map (b::·)
 | _=>none
theorem y8:∀ {ds:List D} {ns:List Bool} {vs:List V},LD ds=some ns->RepL A H ds vs->vs=ns.map V.bl
 | [],_,_,e,.nil=>by cases e;rfl
 | d::ds,ns,_,e,.cons h t=>by
  cases d with
  | bl b=>
   obtain⟨m,q,rfl⟩:=map_some e;cases RepB.bl_inv (.of h);rw[y8 q t];rfl
  | _=>cases e
theorem yK:∀bs:List Bool,LD (bs.map .bl)=some bs
 | []=>rfl
 | b::bs=>by rw[zak,LD,yK bs];rfl
def B6:List D->Option D
 | [.lst l]=>(LD l).map λbs=>.bl (bs.all id)
 | _=>none
theorem BZ(F:X.calm=true):iH X (.builtin "all") B6:=CallR.mono (My.E4 F) <| by
 rintro xs H Q ⟨A,ds,d,J,r,e,q⟩;unfold B6 at e;split at e
 ·obtain⟨bs,B,rfl⟩:=map_some e
  obtain⟨v,rfl,z⟩:=r.one;obtain⟨a,us,rfl,h1,G⟩:=z.lst_inv;rw[y8 B G]at h1;exact⟨a,bs,rfl,.inl h1,q _ H (Ext.refl _ _) (.bl _)⟩
 ·cases e
@[simp] theorem q_all{bs:List Bool}:B6 [.lst (bs.map .bl)]=some (.bl (bs.all id)):=by unfold B6;simp only[yK];rfl
noncomputable def LG:List D->Option (List Str)
 | []=>some []
 | .str b::l=>(LG l).map (b::·)
 | _=>none
theorem yE:∀ {ds:List D} {ns:List Str} {vs:List V},LG ds=some ns->RepL A H ds vs->vs=ns.map V.str
 | [],_,_,e,.nil=>by cases e;rfl
 | d::ds,ns,_,e,.cons h t=>by
  cases d with
  | str b=>
   obtain⟨m,q,rfl⟩:=map_some e;cases RepB.str_inv (.of h);rw[yE q t];rfl
  | _=>cases e
theorem t9:∀bs:List Str,LG (bs.map .str)=some bs
 | []=>rfl
 | b::bs=>by rw[zak,LG,t9 bs];rfl
def uJ:D->D->Option D
 | .str sep,.lst l=>(LG l).bind λss=>if(ss.map (·.length)).sum+ss.length*sep.length<=16777216 then some (.str (Txt.join sep ss))else none
 | _,_=>none
theorem NQ(G:PB X O o fo)(U:PB X O e fe)(W:∀ {to:TE} {t:TA},PE X o to->PA X [e] t->PE X (.Call (.Attribute o "join" apos) [e] [] cpos) (qr X.K "str" (My.rJoin X.K) to t))(hs:zah [e] X.env=(false,eval e X.env)::zah [] X.env:=by rfl):PD X O (.Call (.Attribute o "join" apos) [e] [] cpos) (aY uJ fo fe):=
 PE.mono (W G (zB U CV hs)) <| by
  rintro σ H Q ⟨H0,A0,A,E,ρ,d,st,e,q⟩;obtain⟨x,ex,e⟩:=bind_some e;obtain⟨y,F,e⟩:=bind_some e;refine⟨H0,A0,A,E,ρ,x,st,ex,λv H1 B Y=>?_⟩;unfold uJ at e;split at e
  ·rename_i sep l _
   obtain⟨ss,es,e⟩:=bind_some e;by_cases hz:(ss.map (·.length)).sum+ss.length*sep.length<=16777216
   ·rw[if_pos hz]at e
    cases e;cases Y.str_inv;refine⟨rfl,H0,A0,A,E,ρ,[.lst l],st.mono B,by unfold aC aT;rw[F];rfl,λvs H2 N J=>?_⟩;obtain⟨w,rfl,z⟩:=J.one;obtain⟨p,us,rfl,h1,M⟩:=z.lst_inv;rw[yE es M]at h1;exact⟨sep,p,ss,rfl,rfl,.inl h1,hz,q _ H2 (B.trans N) (.str _)⟩
   ·rw[if_neg hz]at e;cases e
  ·cases e
theorem Q1(h:(ss.map (·.length)).sum+ss.length*sep.length<=16777216):uJ (.str sep) (.lst (ss.map .str))=some (.str (Txt.join sep ss)):=by
 unfold uJ;simp only[t9,zdC];rw[if_pos h]
noncomputable def zV:D->D->Option D
 | .int i,.int j=>some (.bl (decide (i<=j)))
 | .str i,.str j=>some (.bl (!decide (j.cps.toList<i.cps.toList)))
 | _,_=>none
theorem Q6:gE X (zaq .LtE) zV:=OpR.mono (OpR.or WM My.FH) <| by
 rintro x y H Q ⟨A,dx,G,d,F,B,z,e,q⟩;unfold zV at e;split at e
 ·cases e
  cases B.int_inv;cases z.int_inv;exact .inl ⟨_,_,rfl,rfl,q _ H (Ext.refl _ _) (.bl _)⟩
 ·cases e
  cases B.str_inv;cases z.str_inv;exact .inr ⟨_,_,rfl,rfl,q _ H (Ext.refl _ _) (.bl _)⟩
 ·cases e
@[simp] theorem q_leAI:zV (.int i) (.int j)=some (.bl (decide (i<=j))):=rfl
@[simp] theorem q_leAS:zV (.str i) (.str j)=some (.bl (!decide (j.cps.toList<i.cps.toList))):=rfl
def GI(x y:D):Option D:=match x,y with
 | .str i,.str j=>some (.bl (!(zdM j i 0 j.length 1).isEmpty))
 | x,y=>YS x y
def k7(x y:D):Option D:=match x,y with
 | .str i,.str j=>some (.bl (!(!(zdM j i 0 j.length 1).isEmpty)))
 | x,y=>J3 x y
theorem R6(G:X.A.units+64<cLine):gE X (zaq .In) GI:=OpR.mono (OpR.or (WV G) FW) <| by
 rintro x y H Q ⟨A,dx,J,d,F,z,B,e,q⟩;unfold GI at e;split at e
 ·cases e
  cases z.str_inv;cases B.str_inv;exact .inr ⟨_,_,rfl,rfl,q _ H (Ext.refl _ _) (.bl _)⟩
 ·exact .inl ⟨A,_,_,d,F,z,B,e,q⟩
theorem FF(G:X.A.units+64<cLine):gE X (zaq .NotIn) k7:=OpR.mono (OpR.or (HJ G) uS) <| by
 rintro x y H Q ⟨A,dx,J,d,F,z,B,e,q⟩;unfold k7 at e;split at e
 ·cases e
  cases z.str_inv;cases B.str_inv;exact .inr ⟨_,_,rfl,rfl,q _ H (Ext.refl _ _) (.bl _)⟩
 ·exact .inl ⟨A,_,_,d,F,z,B,e,q⟩
noncomputable def signs(x:Str):List D:=x.cps.toList.map λc=>.str ⟨#[c]⟩
theorem QW:zR (My.qx x) [] (signs x):=by
 intro A H M N i;have z:(signs x).length=x.cps.size:=by simp[signs]
 refine⟨λhi=>by rw[z]at hi;exact hi,λd q=>?_⟩;have hi:i<x.cps.size:=by rw[<- z];exact(List.getElem?_eq_some_iff.mp q).1
 refine⟨hi,λy H' ⟨e,c,F,B⟩=>?_⟩;subst e B;have:d=.str ⟨#[c]⟩:=by
  unfold signs at q;rw[zar]at q;obtain⟨J,G,rfl⟩:=map_some q;have:x.cps[i]?=some J:=by rw[<- zc7];exact G
  rw[F]at this;cases this;rfl
 subst this;exact⟨Ext.refl _ _,.str _⟩
def nM(f:Ev):Lv:=λρ=>(f ρ).bind λd=>match d with
 | .lst l=>some l
 | .tup l=>some l
 | .dT l=>some (l.map λp=>.tup (p.1.map nX))
 | .str x=>some (signs x)
 | _=>none
@[simp] theorem q_lSeqA:nM f ρ=(f ρ).bind λd=>match d with
 | .lst l=>some l
 | .tup l=>some l
 | .dT l=>some (l.map λp=>.tup (p.1.map nX))
 | .str x=>some (signs x)
 | _=>none:=rfl
theorem JM(h:PD X O e f):PDI X O tg e (nM f):=PI.mono (PI.or (NS h) (My.QY h)) <| by
 rintro σ H R ⟨H0,A0,A,E,ρ,items,st,e,q⟩;obtain⟨d,z,e⟩:=bind_some e;cases d with
 | str x=>
  cases e;refine .inr ⟨H0,A0,A,E,ρ,_,st,z,λv H1 F B=>?_⟩;cases RepB.str_inv (.of B);exact⟨x,rfl,q _ H1 [] F (λp G=>nomatch G) QW⟩
 | lst l=>exact .inl ⟨H0,A0,A,E,ρ,items,st,by unfold LI;rw[z];exact e,q⟩
 | tup l=>exact .inl ⟨H0,A0,A,E,ρ,items,st,by unfold LI;rw[z];exact e,q⟩
 | dT l=>exact .inl ⟨H0,A0,A,E,ρ,items,st,by unfold LI;rw[z];exact e,q⟩
 | _=>cases e
end
structure GTup(K:zaf)(mg:Str->Option Value)(x:Str)(ss:List Str):Prop where
 ex:∃a,mg x=some (.ref a)/\∃(o:Obj) (its:Array Value) (n:Nat),K.lookup a=some o/\o.cls=.type "tuple" /\ o.data=.seq its n/\its.size<=zaj/\Vals (ss.map V.str) its.toList
structure GInt(mg:Str->Option Value)(x:Str)(i:Int):Prop where
 ex:∃t,mg x=some (.int i t)
section
variable {X:Cx}{O:List Nat}
theorem lF(g:GInt X.mg x i)(B:Gl X x)(z:(x == ("__debug__" : Str))=false:=by decide):PD X O (.Name x p) (eC (.int i)):=by
 obtain⟨t,e⟩:=g.ex;exact PE.mono (DC (v:=.int i) B e ⟨t,rfl⟩ z) λσ H Q ⟨H0,A0,A,E,ρ,d,st,e,q⟩=>by cases e;exact q _ H (Ext.refl _ _) (.int _)
noncomputable def PM(neg:Bool)(ss:List Str):D->Option D
 | .str s=>some (.bl (if neg then !ss.contains s else ss.contains s))
 | _=>none
theorem yY(s:Str):∀ss:List Str,inV (.str s) (ss.map V.str)=ss.contains s
 | []=>rfl
 | y::ss=>by
  have ih:=yY s ss;unfold inV at ih ⊢;rw[zak,zbz,ih,List.contains_cons];congr 1;show decide (y=s)=(s == y);by_cases h:y=s
  ·subst h;simp
  ·have:¬ s=y:=λz=>h z.symm
   simp[h,this]
theorem t6:∀ss:List Str,(ss.map V.str).all lI=true
 | []=>rfl
 | y::ss=>by rw[zak,zbK,t6 ss];rfl
theorem OS{neg:Bool}{ss:List Str}{f:Ev}{a:Addr}{K:zaf}(B:∃(o:Obj) (its:Array Value) (n:Nat),K.lookup a=some o/\o.cls=.type "tuple" /\ o.data=.seq its n/\its.size<=zaj/\Vals (ss.map V.str) its.toList){σ:L2.St}{H:Hp}{Q:VK}(h:tD Rep O (uP (PM neg ss) f) σ H Q):VS (qy K neg) (tD RepB O f) (tC (.ref a)) σ H Q:=by
 obtain⟨H0,A0,A,E,ρ,d,st,e,q⟩:=h;obtain⟨x,ex,e⟩:=bind_some e;refine⟨H0,A0,A,E,ρ,x,st,ex,λv H1 z F=>?_⟩;cases x with
 | str s=>
  cases e;cases F.str_inv;refine⟨a,ss.map V.str,rfl,.inr (.inr B),rfl,t6 ss,?_⟩;rw[yY];exact q _ H1 z (.bl _)
 | _=>cases e
theorem ND(g:GTup X.K X.mg x ss)(J:Gl X x)(B:PB X O e f)(q:(x == ("__debug__" : Str))=false:=by decide)(z:zcd .In (.Name x p)=false:=by rfl):nQ X O (.Compare e [.In] [.Name x p] pos) (eM (uP (PM false ss) f)):=by
 obtain⟨a,F,G⟩:=g.ex;exact PT.mono (DT FD B (DC (v:=.ref a) J F rfl q) z) λσ H Q h=>OS G (iB h)
end
@[simp] theorem q_inG:PM neg ss (.str s)=some (.bl (if neg then !ss.contains s else ss.contains s)):=rfl
@[simp] theorem q_eqS:zZ (.str a) (.str b)=some (.bl (decide (a=b))):=by
 unfold zZ LL;rw[if_pos (.inl rfl)];by_cases h:a=b
 ·subst h;simp
 ·have h2:¬ D.str a=D.str b:=λz=>h (by injection z)
  simp[h]
@[simp] theorem q_neS:wW (.str a) (.str b)=some (.bl (!decide (a=b))):=by
 unfold wW LL;rw[if_pos (.inl rfl)];by_cases h:a=b
 ·subst h;simp
 ·have h2:¬ D.str a=D.str b:=λz=>h (by injection z)
  simp[h]
theorem vI{f rest:Sv}{ρ:dB}{R:D->Prop}(W:dB->Prop)(h:∃ρ',f ρ=some (.nx ρ')/\W ρ')(k:∀ρ',W ρ'->∃d,rest ρ'=some (.rt d)/\R d):∃d,bM f rest ρ=some (.rt d)/\R d:=by
 obtain⟨ρ',e,w⟩:=h;rw[aG e];exact k ρ' w
theorem RB(h0:0<=k)(h:k<(l.length:Int)):sI (.lst l) (.int k) e=some (.lst (l.set k.toNat e)):=by
 show(GO l.length k).map _=_;unfold GO;rw[if_pos h0,if_pos h];rfl
theorem at_of(h0:0<=k)(h:l[k.toNat]?=some d):dW l k=some d:=by
 obtain⟨j,rfl⟩:∃j:Nat,k=(j:Int):=⟨k.toNat,by lia⟩;exact bG (by simpa using h)
theorem PX(h0:0<=k)(h:k<(l.length:Int)):∃d,d∈l/\l[k.toNat]?=some d/\dW l k=some d:=by
 have q:k.toNat<l.length:=by lia
 have e:l[k.toNat]?=some l[k.toNat]:=zaL q;exact⟨l[k.toNat],zc8 q,e,at_of h0 e⟩
theorem u7(I:Nat->dB->Prop)(J:dB->Prop)(h:∀n ρ,I n ρ->(c ρ=some true/\∃m ρ',m<n/\b ρ=some (.nx ρ')/\I m ρ')\/(c ρ=some false/\J ρ)):∀(fuel n:Nat) (ρ:dB),n<fuel->I n ρ->∃ρ',iG c b fuel ρ=some (.nx ρ')/\J ρ'
 | 0,n,ρ,hn,_=>absurd hn (zeW n)
 | fuel+1,n,ρ,hn,hi=>by
  rcases h n ρ hi with⟨z,m,ρ',G,F,q⟩|⟨z,B⟩
  ·obtain⟨ρ2,e,B⟩:=u7 I J h fuel m ρ' (by lia) q
   refine⟨ρ2,?_,B⟩;unfold iG;rw[z,aA,if_pos rfl,F,aA];exact e
  ·refine⟨ρ,?_,B⟩
   unfold iG;rw[z,aA,if_neg zaw]
theorem EL{c:Bv}{b rest:Sv}{ρ:dB}{R:D->Prop}(I:Nat->dB->Prop)(J:dB->Prop)(n:Nat)(B:n<100000)(h0:I n ρ)(h:∀n ρ,I n ρ->(c ρ=some true/\∃m ρ',m<n/\b ρ=some (.nx ρ')/\I m ρ')\/(c ρ=some false/\J ρ))(k:∀ρ',J ρ'->∃d,rest ρ'=some (.rt d)/\R d):∃d,bM (sA c b) rest ρ=some (.rt d)/\R d:=by
 obtain⟨ρ',e,q⟩:=u7 I J h 100000 n ρ B h0;have z:sA c b ρ=some (.nx ρ'):=e;rw[aG z];exact k ρ' q
theorem PD.pe(h:PD X O e f):PE X e (tD Rep O f):=h
noncomputable def isStar:Expr->Bool
 | .Starred ..=>true
 | _=>false
theorem cQ(h:isStar e=false):zah (e::es) env=(false,eval e env)::zah es env:=by
 cases e <;> first|rfl|cases h
theorem iS:∀ {es:List Expr},(es.all λe=>!isStar e)=true->(zaJ pos (zah es env)).any (·.1)=false
 | [],_=>by simp[zah,zaJ]
 | e::es,h=>by
  rw[zbK,zaK]at h;have q:isStar e=false:=by cases z:isStar e;rfl;rw[z]at h;exact absurd h.1 (by decide)
  have ih:=iS (pos:=pos) (env:=env) (es:=es) h.2;rw[cQ q];simp only[zaJ,zak,zbz,Bool.false_or]at ih ⊢;exact ih
end P
namespace My
open PySem PySem.Spec PyProof.Rows L2 PySem.SeqAt
noncomputable def QG(val:Nat->Int):Nat->Nat->Int->Int
 | 0,_,m=>m
 | k+1,j,m=>QG val k (j+1) (if val j>m then val j else m)
theorem GC(a v:Value):argsOk "max" ⟨[a],[(zaY "default",v)]⟩:=by unfold argsOk;kernel_rfl
section
variable {prog:zap}{w:World}{A:zas}{R:Result->zab->Prop}{I S:Addr}{fp wr:List Addr}{n:Nat}{P:Nat->Value->Prop}{St:Nat->Heap->Prop}{kw:List (Str×Value)}
theorem iL(W:Walks prog w A.in1 I fp wr n P St)(val:Nat->Int)(hv:∀j v,P j v->∃t,v=.int (val j) t)(Y:S∉fp):∀(k j:Nat) (s:zab) (m:Int) (t:Tok) (c:Nat),n-j=k->j<=n->St j s.heap->
  s.heap.get? S=some {cls:=.type "list",dict:=none,data:=.seq #[.int m t,.int m t] c,slots:=#[]}->
  (∀t' h' tk,(∀b o,b∉wr->b≠S->s.heap.get? b=some o->h'.get? b=some o)->R (.ok (.ret (.int (QG val k j m) t'))) {s with heap:=h',toks:=tk})->
  zbs (model prog w) A (.builtin "max.loop" ⟨[.ref I,.none,.ref S],kw⟩) R s
 | k,j,s,m,t,c,hk,hj,st,gS,fin=>by
  have nw:S∉wr:=λz=>Y (W.sub _ z)
  have nm:(zb9 "max" ++ zb9 ".loop" : String) = "max.loop" := by decide
  refine zcj ze7 ?_;rw[zck zcn _];show wpAny _ A.in1 (zdx (.ref S) >>= λ_=>_) _ _ s;refine zaa (za5 gS rfl ?_);show wpAny _ A.in1 (tryCatch (zaH (.ref I)) _ >>= λ_=>_) _ _ s
  match k,hk,fin with
  | 0,hk,fin=>
   have e:j=n:=by lia
   refine zaa (zcR (W.done s _ _ (e ▸ st) λh1 tk same=>?_));have G:=same S _ nw gS;show wpAny _ A.in1 (zcQ S (λ_=>#[]) >>= λ_=>_) _ _ _;refine zaa (zcw G rfl (zaa (zbw (zac ?_))));exact fin t _ tk λb o nb B M=>(zbJ _ _ (zaS B)).trans (same b o nb M)
  | k+1,hk,fin=>
   have lt:j<n:=by lia
   refine zaa (zcR (W.item j s _ _ lt st λv h1 tk pv N same=>?_));have G:=same S _ nw gS;obtain⟨u,rfl⟩:=hv j v pv;show wpAny _ A.in1 (tryCatch (zcq [.int (val j) u,.int (val j) u] (richCompare .Gt (.int (val j) u) (.int m t) >>= λ_=>_)) _ >>= λ_=>_) _ _ _;refine zaa (zcR (zbn (zaa ?_)));refine richCompare_gives (op:=.Gt) (zcG _ _ u) (zcG _ _ t) PySem.F.slot_int_gt PySem.F.entry_int_gt (PySem.F.args_int_gt_2 _ _) (gives_int_gt _ _ u t) (λz=>nomatch z) ?_;refine zaa (zbn (zbD ?_));refine zaa (zbw (zac ?_));by_cases U:val j>m
   ·rw[decide_eq_true U]
    simp only[if_true];refine zaa (zcw G rfl (zaa (zbw ?_)));rw[nm];refine zac ⟨zbB zcn _,iL W val hv Y k (j+1) _ (val j) u _ (by lia) lt (W.frame _ _ _ N λb bf o M=>?_) (zbU _ G rfl) λt' h2 J q=>?_⟩
    ·exact(zbJ _ _ (λz:S=b=>Y (z ▸ bf))).trans M
    ·have:=fin t' h2 J λb o nb B M=>q b o nb B ((zbJ _ _ (zaS B)).trans (same b o nb M))
     rw[QG,if_pos U]at this;exact this
   ·rw[decide_eq_false U]
    simp only[zb5,if_false];refine zaa (zbw ?_);rw[nm];refine zac ⟨zbB zcn _,iL W val hv Y k (j+1) _ m t c (by lia) lt N G λt' h2 J q=>?_⟩;have:=fin t' h2 J λb o nb B M=>q b o nb B (same b o nb M)
    rw[QG,if_neg U]at this;exact this
theorem A9(W:Walks prog w A.in1 I fp wr n P St)(val:Nat->Int)(Y:∀j v,P j v->∃t,v=.int (val j) t)(M:S∉fp)(st:St 0 s.heap)
  (U:s.heap.get? S=some {cls:=.type "list",dict:=none,data:=.seq #[] c,slots:=#[]})
  (f0:n=0->∀h' tk,(∀b o,b∉wr->b≠S->s.heap.get? b=some o->h'.get? b=some o)->R (.ok (.ret dv)) {s with heap:=h',toks:=tk})
  (fin:0<n->∀t' h' tk,(∀b o,b∉wr->b≠S->s.heap.get? b=some o->h'.get? b=some o)->R (.ok (.ret (.int (QG val (n-1) 1 (val 0)) t'))) {s with heap:=h',toks:=tk}) :
  zbs (model prog w) A (.builtin "max.loop" ⟨[.ref I,.none,.ref S],[(zaY "default",dv)]⟩) R s:=by
 have nw:S∉wr:=λz=>M (W.sub _ z)
 have nm:(zb9 "max" ++ zb9 ".loop" : String) = "max.loop" := by decide
 refine zcj ze7 ?_;rw[zck zcn _];show wpAny _ A.in1 (zdx (.ref S) >>= λ_=>_) _ _ s;refine zaa (za5 U rfl ?_);show wpAny _ A.in1 (tryCatch (zaH (.ref I)) _ >>= λ_=>_) _ _ s;by_cases h0:n=0
 ·refine zaa (zcR (W.done s _ _ (h0 ▸ st) λh1 tk same=>?_))
  refine zaa (zbV (zac ?_));exact f0 h0 _ tk λb o nb q G=>same b o nb G
 ·have lt:0<n:=Nat.pos_of_ne_zero h0
  refine zaa (zcR (W.item 0 s _ _ lt st λv h1 tk pv N same=>?_));have F:=same S _ nw U;obtain⟨u,rfl⟩:=Y 0 v pv;show wpAny _ A.in1 (zcQ S (λ_=>#[.int (val 0) u,.int (val 0) u]) >>= λ_=>_) _ _ _;refine zaa (zcw F rfl ?_);rw[nm];refine zac ⟨zbB zcn _,iL W val Y M (n-1) 1 _ (val 0) u _ rfl lt (W.frame _ _ _ N λb bf o G=>?_) (zbU _ F rfl) λt' h2 J B=>?_⟩
  ·exact(zbJ _ _ (λz:S=b=>M (z ▸ bf))).trans G
  ·exact fin lt t' h2 J λb o nb q G=>B b o nb q ((zbJ _ _ (zaS q)).trans (same b o nb G))
end
noncomputable def nW(d:Int):List Int->Int
 | []=>d
 | x::xs=>xs.foldl (λm y=>if y>m then y else m) x
theorem qM(ns:List Int):∀(k j:Nat) (m:Int),ns.length-j=k->QG (λi=>(ns[i]?).getD 0) k j m=(ns.drop j).foldl (λm y=>if y>m then y else m) m
 | 0,j,m,h=>by
  rw[List.drop_eq_nil_iff.mpr (by lia)];rfl
 | k+1,j,m,h=>by
  have q:j<ns.length:=by lia
  rw[QG,zep q,zcJ,qM ns k (j+1) _ (by lia)];simp[q]
section
variable {X:Cx}
theorem AQ(hc:X.calm=true)(I:Inv X pins σ H s)(hq:SqL X.K H p (ns.map V.int))(q:Q (.int (nW d ns)) H) :
  wpAny (model X.prog X.w) X.A (call (.builtin "max") [.ref p] [(zaY "default",.int d t)]) (EP X pins σ Q) X.xe s:=by
 have nm:(zb9 "max" ++ zb9 ".loop" : String) = "max.loop" := by decide
 obtain⟨G,U,Y,hz⟩:=I.list hq;have J:s.heap.IsList p G.toArray:=Y.isList;obtain⟨o,N,ae,n,hd⟩:=id J;have M:p≠s.heap.objs.size:=zaz (zai N);have W:=Walks.list (prog:=X.prog) (w:=X.w) (A:=X.A.in1) (I.ok.hd hc) s.heap.objs.size p M G.toArray;refine kmk_tree PySem.F.kind_max PySem.F.plain_max PySem.F.entry_max (GC _ _) ?_;show wpAny _ X.A.in1 (zez "max" ["key", "default"] 0 ⟨[],[(zaY "default",.int d t)]⟩ >>= λ_=>_) _ _ s;refine zaa (zdt (show zez "max" ["key", "default"] 0 ⟨[],[(zaY "default",.int d t)]⟩=pure [none,some (.int d t)]from rfl) ?_);refine zaa (zac (zaa (zcc J (zaa (zee ?_ (zaZ _))))));rw[nm];refine zac ⟨zbB zcn _,?_⟩;have B:=U.length;rw[zal]at B;have sz:G.toArray.size=ns.length:=by rw[zaA];exact B.symm
 have keep:∀h':Heap,(∀b o,b∉[s.heap.objs.size]->b≠(s.heap.push {cls:=.type "list_iterator",data:=.fields #[.ref p,.int 0 0]}).objs.size->((s.heap.push {cls:=.type "list_iterator",data:=.fields #[.ref p,.int 0 0]}).push (za0 "list" #[] 0)).get? b=some o->h'.get? b=some o)->∀b o,s.heap.get? b=some o->h'.get? b=some o:=λh' k b o e=>by
  have lt:=zai e;refine k b o (λz=>zaz lt (List.mem_singleton.mp z)) ?_ (zag _ (zag _ e));rw[size_push'];exact zaz (Nat.lt_succ_of_lt lt)
 refine A9 W (λi=>(ns[i]?).getD 0) (λi v hP=>yD U (by simpa using hP)) (S:=(s.heap.push {cls:=.type "list_iterator",data:=.fields #[.ref p,.int 0 0]}).objs.size) ?_ ?_ (zat _ rfl) (λh0 h' tk same=>?_) λh0 t' h' tk same=>?_
 ·rw[size_push']
  intro z;rcases List.mem_cons.mp z with z|z
  ·exact zaG (zda _) z
  ·exact zbd _ (zcL (zda _) ((List.mem_singleton.mp z) ▸ zai N))
 ·exact⟨⟨_,zag _ (zat _ rfl),rfl,rfl⟩,J.at λo e=>zag _ (zag _ e)⟩
 ·have e0:ns=[]:=List.length_eq_zero_iff.mp (by lia)
  subst e0;exact⟨.int d,H,I.kept (t':=tk) (keep h' same),⟨t,rfl⟩,q⟩
 ·refine⟨.int (nW d ns),H,I.kept (t':=tk) (keep h' same),⟨t',?_⟩,q⟩
  rw[sz];cases ns with
  | nil=>rw[sz]at h0;exact absurd h0 (zbd 0)
  | cons x xs=>
   rw[qM (x::xs) _ 1 _ (by simp)];rfl
end
end My
namespace P
open PySem PySem.Spec PyProof.Rows L2
section
variable {X:Cx}{O:List Nat}
def D7(x y:D):Option D:=match x,y with
 | .lst l,.int d=>(fM l).map λns=>.int (My.nW d ns)
 | _,_=>none
@[simp] theorem q_maxD:D7 (.lst (ns.map .int)) (.int d)=some (.int (My.nW d ns)):=by unfold D7;simp only[hV];rfl
theorem L7(hc:X.calm=true)(hg:Gl X "max")(W:X.mg "max" = none)(he:PB X O e fe)(U:PD X O ed fd)(hs:isStar e=false):PD X O (.Call (.Name "max" p) [e] [⟨some "default",ed,kp⟩] pos) (aY D7 fe fd):=by
 intro pins s σ H Q I h;obtain⟨H0,A0,A,E,ρ,d,st,z,q⟩:=h;obtain⟨x,ex,z⟩:=bind_some z;obtain⟨y,ey,z⟩:=bind_some z;refine zdQ (fL I hg W My.boot_max ?_ (by decide) (by decide));refine PyProof.Rows.callWith_kw (bN (gK he mD (cQ hs) pos pins s σ H (λvs H1=>∃v,vs=[v]/\RepB A H1 x v/\Ext A H H1) I ⟨H0,A0,A,E,ρ,x,st,ex,λv H1 B M=>⟨v,rfl,M,B⟩⟩) λus s1 ⟨vs,H1,I1,M,v,ev,Y,B⟩=>?_) (by rw[cQ hs];rfl) (iS (by simp[hs]));subst ev;refine bN (OX (nm:=some "default") (kpos:=kp) U SK pos pins s1 σ H1 (λvs H2=>∃w,vs=[w]/\Rep A H2 y w/\Ext A H1 H2) I1 ⟨H0,A0,A,E,ρ,y,st.mono B,ey,λw H2 F N=>⟨w,rfl,N,F⟩⟩) λws s2 ⟨zs,H2,I2,N,w,ew,J,F⟩=>?_
 subst ew;unfold D7 at z;split at z
 ·obtain⟨ns,e1,rfl⟩:=map_some z
  obtain⟨a,ah,rfl,h1,r3⟩:=(Y.ext F).lst_inv;rw[eG e1 r3]at h1;cases J;obtain⟨u,rfl,ru⟩:=vals1 M;cases ru;obtain⟨u2,rfl,G⟩:=vals1 N;obtain⟨t,rfl⟩:=G;exact My.AQ hc I2 (.inl h1) (q _ H2 (B.trans F) (.int _))
 ·cases z
end
end P
namespace My
open PySem PySem.Spec PyProof.Rows L2 PySem.SeqAt
theorem gR:entryFor table "dict.update.loop" = some zbi.«dict.update.loop»:=entryFor_of_tree (by kernel_rfl)
theorem cK:plainId "dict.update.loop" = true:=by decide +kernel
theorem oN:typeLookup (.type "list") (zaY "keys")=pure none:=by rw[typeLookup_type,builtinLookup_eq_fast];kernel_rfl
theorem nV:typeLookup (.type "tuple") (zaY "keys")=pure none:=by rw[typeLookup_type,builtinLookup_eq_fast];kernel_rfl
section
variable {prog:zap}{w:World}{A:zas}{E:Value->zab->Prop}{s:zab}
theorem oP(J:s.heap.get? a=some o)(M:o.cls=.type "list")(q:o.data=.seq xs k)(G:o.dict=none)(N:A.handled=none)
  (h:∀h' tk,(∀b o,s.heap.get? b=some o->h'.get? b=some o)->Q none {s with heap:=h',toks:=tk}):wpAny (model prog w) A (getAttr? (.ref a) "keys") Q E s:=by
 obtain⟨c,aa,U,W⟩:=o;simp only at M q G;subst M q G;obtain⟨Y,g,d,tk,os⟩:=s;have hT:∀z,(⟨Y,g,d,z,os⟩:zab).TypeIs (.ref a) "list" := λ_=>⟨_,J,rfl⟩
 have f1:=sub_AttributeError;have f3:=PySem.F.slot_list_getattribute.lookup;have f4:=PySem.F.slot_list_getattribute.bind (.ref a);have f5:=am_list_getattr_none;unfold getAttr? getAttrBy? getAttrBy
 repeat (any_goals (first|assumption|exact hT _|((with_reducible show wpAny _ _ (call (Value.builtin "list.__getattribute__") _ _) _ _ _);refine zcv PySem.F.slot_list_getattribute (hT _) am_entry_list_getattribute (PySem.F.args_list_getattribute_2 _ _) (meets_getattribute_miss_list a xs k W (zaY "keys") _ oN (by decide) (by size_fits)) ⟨J,N,λh' z e B=>?_⟩)|wp_step))
 obtain⟨t',u',he⟩:=B.there;show wpAny _ _ (zeA _ _ _ _ _ _ _) _ _ _;unfold zeA
 repeat (any_goals (first|assumption|wp_step))
 exact h _ _ B.keeps
theorem nT(J:s.heap.get? a=some o)(M:o.cls=.type "tuple")(q:o.data=.seq xs k)(G:o.dict=none)(N:A.handled=none)
  (h:∀h' tk,(∀b o,s.heap.get? b=some o->h'.get? b=some o)->Q none {s with heap:=h',toks:=tk}):wpAny (model prog w) A (getAttr? (.ref a) "keys") Q E s:=by
 obtain⟨c,aa,U,W⟩:=o;simp only at M q G;subst M q G;obtain⟨Y,g,d,tk,os⟩:=s;have hT:∀z,(⟨Y,g,d,z,os⟩:zab).TypeIs (.ref a) "tuple" := λ_=>⟨_,J,rfl⟩
 have f1:=sub_AttributeError;have f3:=PySem.F.slot_tuple_getattribute.lookup;have f4:=PySem.F.slot_tuple_getattribute.bind (.ref a);have f5:=am_tuple_getattr_none;unfold getAttr? getAttrBy? getAttrBy
 repeat (any_goals (first|assumption|exact hT _|((with_reducible show wpAny _ _ (call (Value.builtin "tuple.__getattribute__") _ _) _ _ _);refine zcv PySem.F.slot_tuple_getattribute (hT _) am_entry_tuple_getattribute (PySem.F.args_tuple_getattribute_2 _ _) (meets_getattribute_miss_tuple a xs k W (zaY "keys") _ nV (by decide) (by size_fits)) ⟨J,N,λh' z e B=>?_⟩)|wp_step))
 obtain⟨t',u',he⟩:=B.there;show wpAny _ _ (zeA _ _ _ _ _ _ _) _ _ _;unfold zeA
 repeat (any_goals (first|assumption|wp_step))
 exact h _ _ B.keeps
end
section
variable {X:Cx}{pins:List (Addr×Obj)}{σ:L2.St}{H:Hp}{s:zab}{a:Addr}{y v:V}{u r:Value}{A:zas}{E:Value->zab->Prop}
theorem F2(hu:A.units+1<cLine)(I:Inv X pins σ H s)(g:DPut H a y v H')(Y:RelV y u)(W:RelV v r)(h:∀h' t',Inv X pins σ H' {s with heap:=h',toks:=t'}->zaT a s.heap h'->Q () {s with heap:=h',toks:=t'}) :
  wpAny (model X.prog X.w) A (dictSet a u r) Q E s:=by
 rcases g with⟨kvs,k,e,M,l,N⟩|⟨kvs,k,b,e,M,eb,l,N⟩
 ·subst M N
  obtain⟨z,J,vs,B,dd⟩:=K4 I.hok e;have hz:vs.length<=zaj:=by rw[<- B.length];exact z
  have U:(putK kvs k v).length<=zaj:=by have:=cL kvs k v;lia
  refine wpAny_dictSet_pairs (hsz:=hz) (lJ Y) dd λh' F hs=>h _ _ ?_ hs
  have he:∃q,h'.get? a=some q:=let ⟨q,_,_,G,_⟩:=F;⟨q,G⟩;exact iW I (by rw[e];exact zbh) hs he (BX U J (B.put k W) F)
 ·subst M N
  cases(show u=zan b from Y);obtain⟨z,J,xs,B,dd⟩:=K3 I.hok e;have hz:xs.length<=zaj:=by rw[<- zbO B];exact z
  have U:(putK kvs k v).length<=zaj:=by have:=cL kvs k v;lia
  refine wpAny_dictSet_heap (hsz:=hz) (show A.units<cLine by lia) (gO I.hok eb) dd λh' F hs=>h _ _ ?_ hs
  obtain⟨q,es,ep,G,h2,h3,h4,_,h5⟩:=F;refine iW I (by rw[e];exact zbh) hs ⟨q,G⟩ ⟨U,J,_,(B.put k eb W).keeps λc ys ec=>?_,q,es,ep,G,h2,h3,h4,h5⟩;rw[aE (DZ ec e (λz=>nomatch z))];exact ec
end
inductive Puts(d:Addr):Hp->List (V×V)->Hp->Prop where
 | nil {H:Hp}:Puts d H [] H
 | cons {H H1 H2:Hp} {y v:V} {l:List (V×V)} (h:DPut H d y v H1) (t:Puts d H1 l H2):Puts d H ((y,v)::l) H2
theorem yQ(g:DPut H a y v H'):(∃u,H a=some u/\(∀xs,u≠.tup xs)/\∀o w,u≠.frz o w)/\∀b,b≠a->H' b=H b:=by
 rcases g with⟨kvs,k,e,F,l,q⟩|⟨kvs,k,b,e,F,G,l,q⟩
 ·subst q;exact⟨⟨_,e,(λ_ z=>nomatch z),(λ_ _ z=>nomatch z)⟩,λb B=>aE B⟩
 ·subst q;exact⟨⟨_,e,(λ_ z=>nomatch z),(λ_ _ z=>nomatch z)⟩,λb B=>aE B⟩
theorem JG{K:zaf}{H H':Hp}{a:Addr}{y v:V}(g:DPut H a y v H'){b:Addr}{xs:List V}(h:SqT K H b xs):SqT K H' b xs:=by
 obtain⟨⟨u,e,q,B⟩,same⟩:=yQ g;rcases h with(h|⟨o,h⟩)|h
 ·exact .inl (.inl (by rw[same b (λz=>by rw[z,e]at h;exact q _ (zaD h))];exact h))
 ·exact .inl (.inr ⟨o,by rw[same b (λz=>by rw[z,e]at h;exact B _ _ (zaD h))];exact h⟩)
 ·exact .inr h
section
variable {X:Cx}{pins:List (Addr×Obj)}{σ:L2.St}{A:zas}{R:Result->zab->Prop}{it d:Addr}{fp:List Addr}{n:Nat}{P:Nat->Value->Prop}{St:Nat->Heap->Prop}{H2:Hp}
theorem j5(W:Walks X.prog X.w A.in1 it fp [it] n P St)(hd:d∉fp)(hu:A.in1.units+1<cLine)(fin:∀s',Inv X pins σ H2 s'->R (.ok (.ret .none)) s'):∀(l:List (V×V)) (j:Nat) (s:zab) (H:Hp) (t:Tok) (i:Int),n-j=l.length->j<=n->St j s.heap->Inv X pins σ H s->iI X pins H it->
  (∀(m:Nat) (p:V×V) (v:Value),l[m]?=some p->P (j+m) v->∃b,v=.ref b/\SqT X.K H b [p.1,p.2])->Puts d H l H2->
  zbs (model X.prog X.w) A (.builtin "dict.update.loop" ⟨[.ref d,.ref it,.int i t,.none],[]⟩) R s
 | [],j,s,H,t,i,hn,hj,st,I,fo,facts,pu=>by
  cases pu;obtain⟨B,J,f2,G,M,F⟩:=fo;have e:j=n:=by simp at hn;lia
  subst e;refine zcj gR ?_;rw[zck cK _];show wpAny _ A.in1 (zaH (.ref it) >>= λ_=>_) _ _ s;refine zaa (W.done s _ _ st λh1 tk same=>?_);show wpAny _ _ (Builtin.Dict.addKeywords d [] >>= _) _ _ _;exact zaa (zac (zac (fin _ (I.turned (t':=tk) (λb o U e=>same b o (by simpa using U) e) B J G M F))))
 | (y,v)::l,j,s,H,t,i,hn,hj,st,I,fo,facts,pu=>by
  obtain⟨B,J,f2,G,M,F⟩:=id fo;cases pu with
  | @cons _ H1 _ _ _ _ dp pu=>
  have lt:j<n:=by rw[za3]at hn;lia
  refine zcj gR ?_;rw[zck cK _];show wpAny _ A.in1 (zaH (.ref it) >>= λ_=>_) _ _ s;refine zaa (W.item j s _ _ lt st λv1 h1 tk pv N same=>?_);obtain⟨b,rfl,sq⟩:=facts 0 (y,v) v1 rfl pv;have I1:Inv X pins σ H {s with heap:=h1,toks:=tk}:=I.turned (t':=tk) (λb o U e=>same b o (by simpa using U) e) B J G M F;obtain⟨ar,rv,ht,hz⟩:=I1.tuple sq;cases rv with
  | @cons _ u _ us ru rt=>
  cases rt with
  | @cons _ r _ us2 rr rt2=>
  cases rt2;obtain⟨o,ho,hc,nn,Y⟩:=id ht;show wpAny _ A.in1 (zcq [zan b] _ >>= λ_=>_) _ _ _;refine zaa (zbn ?_);refine zaa (zcR ?_);unfold Builtin.Dict.pairItems;refine zaa (zct ht.typeIs ?_);rw[if_pos (by decide)];refine zaa (za5 ho Y (zac ?_));show wpAny _ A.in1 (zcq [u,r] (dictSet d u r)) _ _ _;refine zbn (F2 hu I1 dp ru rr λh2 t2 I2 sb=>?_);obtain⟨⟨uo,eu,_,_⟩,q⟩:=yQ dp;have nd:it≠d:=λz=>by rw[<- z,B]at eu;cases eu
  refine zac ⟨zbB cK _,j5 W hd hu fin l (j+1) _ H1 _ _ (by rw[za3]at hn;lia) lt (W.frame _ _ _ N λb bf o eb=>?_) I2 ⟨by rw[q it nd];exact B,J,f2,G,M,F⟩ (λm p v2 hm hp=>?_) pu⟩
  ·exact(sb.2 b (λz=>hd (z ▸ bf))).trans eb
  ·obtain⟨c,e,sq⟩:=facts (m+1) p v2 (by simpa using hm) (by rw[show j+(m+1)=j+1+m by lia];exact hp)
   exact⟨c,e,JG dp sq⟩
end
section
variable {X:Cx}
def Src(X:Cx)(H:Hp)(p:Addr)(ys:List V):Prop:=SqL X.K H p ys\/Rd H p (.tup ys)
theorem AR(hc:X.calm=true)(hu:X.A.units+64<cLine):CallR X (.type "dict") (λxs H Q=>∃p ys l,xs=[.ref p]/\Src X H p ys/\l.length=ys.length/\(∀(m:Nat) (pr:V×V),l[m]?=some pr->∃b,ys[m]?=some (.ref b)/\SqT X.K H b [pr.1,pr.2]) /\
  ∀q,H q=none->∃H2,(Puts q (upd H q (.dK [])) l H2\/Puts q (upd H q (.dT [])) l H2)/\Q (.ref q) H2):=by
 intro pins s σ H xs us Q I r h;obtain⟨p,ys,l,rfl,src,hl,ak,q⟩:=h;obtain⟨u,rfl,rx⟩:=vals1 r;cases rx;obtain⟨H2,pu,q⟩:=q s.heap.objs.size (I.hok.fresh (zao _));refine callType_codes (Q₁:=λan aa=>an=.ref s.heap.objs.size/\aa={s with heap:=s.heap.push {cls:=.type "dict",data:=.dict #[]} }) PySem.F.kt_called_dict (PySem.F.kt_typeCall_dict_1 _) PySem.F.entry_dict_init (kt_code_dict_new _ ⟨rfl,rfl⟩) ?_;rintro an aa ⟨rfl,rfl⟩;have n1:(s.heap.push {cls:=.type "dict",data:=.dict #[]}).get? s.heap.objs.size=some {cls:=.type "dict",data:=.dict #[]}:=zat _ rfl;have t1:zec {s with heap:=s.heap.push {cls:=.type "dict",data:=.dict #[]} } (.ref s.heap.objs.size) "dict" := ⟨_,n1,rfl⟩;refine⟨t1,PySem.F.args_dict_init_2 _ _,?_⟩;unfold zbi.«dict.__init__»;refine zaa ?_;unfold Builtin.Dict.selfAndRest;refine zaa (zd1 t1 ?_);show wpAny _ _ (pure (s.heap.objs.size,[zan p])) _ _ _;refine zac ?_;show wpAny _ _ (zef "dict.__init__" s.heap.objs.size (.ref p) [] .none) _ _ _;unfold zef;obtain⟨Y,a4,IK,pu⟩:∃Y:HO,(Y=.dK []\/Y=.dT [])/\Inv X pins σ (upd H s.heap.objs.size Y) {s with heap:=s.heap.push {cls:=.type "dict",data:=.dict #[]} }/\Puts s.heap.objs.size (upd H s.heap.objs.size Y) l H2:=by
  rcases pu with pu|pu
  ·exact⟨_,.inl rfl,I.laid (a:=s.heap.objs.size) (o:=.dK []) (h':=s.heap.push {cls:=.type "dict",data:=.dict #[]}) (t':=s.toks) (λ_ _ q=>zag _ q) (zao _) (qO s.heap I.big),pu⟩
  ·exact⟨_,.inr rfl,I.laid (a:=s.heap.objs.size) (o:=.dT []) (h':=s.heap.push {cls:=.type "dict",data:=.dict #[]}) (t':=s.toks) (λ_ _ q=>zag _ q) (zao _) (qV s.heap I.big),pu⟩
 have al:∀b u,H b=some u->b≠s.heap.objs.size:=λb u e z=>zbd _ (by have:=(I.hok b u e).lt;rw[z]at this;exact this)
 have aj:∀ {b:Addr} {zs:List V},SqT X.K H b zs->SqT X.K (upd H s.heap.objs.size Y) b zs:=λ{b zs} h=>by
  rcases h with(h|⟨o,h⟩)|h
  ·exact .inl (.inl (by rw[aE (al _ _ h)];exact h))
  ·exact .inl (.inr ⟨o,by rw[aE (al _ _ h)];exact h⟩)
  ·exact .inr h
 have ah:∀ {o:Obj},s.heap.get? p=some o->p<s.heap.objs.size:=λe=>zai e
 rcases src with sq|sq
 ·obtain⟨U,rv,pl,hz⟩:=I.list sq
  obtain⟨o,n,ho,G,ac,J⟩:=id pl;have N:=rv.length;have B:(s.heap.push {cls:=.type "dict",data:=.dict #[]}).get? p=some o:=zag _ ho;refine zaa (zct (s:={s with heap:=s.heap.push {cls:=.type "dict",data:=.dict #[]} }) ⟨o,B,G⟩ ?_);rw[if_pos (by decide)];refine zaa (oP (s:={s with heap:=s.heap.push {cls:=.type "dict",data:=.dict #[]} }) B G J ac (I.ok.hd hc) λh' tk keep=>?_);simp only[Option.isNone_none,if_true];refine zaa (zbV (zaa (zcc (s:={s with heap:=h',toks:=tk}) (items:=U.toArray) ⟨o,keep _ _ B,G,n,J⟩ ?_)));have M:Inv X pins σ (upd H s.heap.objs.size Y) {s with heap:=h',toks:=tk}:=IK.kept (t':=tk) keep;have ad:Inv X pins σ (upd H s.heap.objs.size Y) {s with heap:=h'.push {cls:=.type "list_iterator",data:=.fields #[.ref p,.int 0 0]},toks:=tk}:=M.kept (t':=tk) λb o e=>zag _ e
  have lp:p<h'.objs.size:=zai (keep _ _ B);have ld:s.heap.objs.size<h'.objs.size:=zai (keep _ _ n1);have W:=Walks.list (prog:=X.prog) (w:=X.w) (A:=X.A.in1.in1) (I.ok.hd hc) h'.objs.size p (zaz lp) U.toArray;refine zac ⟨zbB cK _,j5 (X:=X) (pins:=pins) (σ:=σ) (H2:=H2) W (d:=s.heap.objs.size) ?_ (by show X.A.units+1+1+1<cLine;lia) ?_ l 0 _ _ _ _ ?_ (zaZ _) ?_ ad ?_ ?_ pu⟩
  ·intro z
   rcases List.mem_cons.mp z with z|z
   ·exact zaz ld z
   ·exact zaG (ah ho) (List.mem_singleton.mp z)
  ·exact λs' I'=>⟨rfl,.ref s.heap.objs.size,H2,I',rfl,q⟩
  ·rw[zaA,<- N,hl];lia
  ·exact⟨⟨_,zat _ rfl,rfl,rfl⟩,⟨o,zag _ (keep _ _ B),G,n,J⟩⟩
  ·exact M.fpOk (zao _) (M.hok.fresh (zao _))
  ·intro m pr v hm hv
   obtain⟨b,e1,e2⟩:=ak m pr hm;rw[zdb]at hv;refine⟨b,?_,aj e2⟩;obtain⟨w',hw,ae⟩:=rv.get e1;rw[List.getElem?_toArray,hw]at hv;cases(show w'=zan b from ae);exact(zaD hv).symm
 ·obtain⟨hz,U,rv,o,ho,G,n,J,ac⟩:=(show ObjOk X.prog X.w H s.heap p (.tup ys)from sq.ok I.hok)
  have N:=rv.length;have B:(s.heap.push {cls:=.type "dict",data:=.dict #[]}).get? p=some o:=zag _ ho;refine zaa (zct (s:={s with heap:=s.heap.push {cls:=.type "dict",data:=.dict #[]} }) ⟨o,B,G⟩ ?_);rw[if_pos (by decide)];refine zaa (nT (s:={s with heap:=s.heap.push {cls:=.type "dict",data:=.dict #[]} }) B G J ac (I.ok.hd hc) λh' tk keep=>?_);simp only[Option.isNone_none,if_true];refine zaa (zbV (zaa (zbQ (s:={s with heap:=h',toks:=tk}) (items:=U.toArray) ⟨o,keep _ _ B,G,n,J⟩ ?_)));have M:Inv X pins σ (upd H s.heap.objs.size Y) {s with heap:=h',toks:=tk}:=IK.kept (t':=tk) keep;have ad:Inv X pins σ (upd H s.heap.objs.size Y) {s with heap:=h'.push {cls:=.type "tuple_iterator",data:=.fields #[.ref p,.int 0 0]},toks:=tk}:=M.kept (t':=tk) λb o e=>zag _ e
  have lp:p<h'.objs.size:=zai (keep _ _ B);have ld:s.heap.objs.size<h'.objs.size:=zai (keep _ _ n1);have W:=Walks.tuple (prog:=X.prog) (w:=X.w) (A:=X.A.in1.in1) (I.ok.hd hc) h'.objs.size p (zaz lp) U.toArray;refine zac ⟨zbB cK _,j5 (X:=X) (pins:=pins) (σ:=σ) (H2:=H2) W (d:=s.heap.objs.size) ?_ (by show X.A.units+1+1+1<cLine;lia) ?_ l 0 _ _ _ _ ?_ (zaZ _) ?_ ad ?_ ?_ pu⟩
  ·intro z
   rcases List.mem_cons.mp z with z|z
   ·exact zaz ld z
   ·exact zaG (ah ho) (List.mem_singleton.mp z)
  ·exact λs' I'=>⟨rfl,.ref s.heap.objs.size,H2,I',rfl,q⟩
  ·rw[zaA,<- N,hl];lia
  ·exact⟨⟨_,zat _ rfl,rfl,rfl⟩,⟨o,zag _ (keep _ _ B),G,n,J⟩⟩
  ·exact M.fpOk (zao _) (M.hok.fresh (zao _))
  ·intro m pr v hm hv
   obtain⟨b,e1,e2⟩:=ak m pr hm;rw[zdb]at hv;refine⟨b,?_,aj e2⟩;obtain⟨w',hw,ae⟩:=rv.get e1;rw[List.getElem?_toArray,hw]at hv;cases(show w'=zan b from ae);exact(zaD hv).symm
end
section
variable {X:Cx}
theorem R7(h:H2 q=some u)(k:∀b,b≠q->H2 b=H b):H2=upd H q u:=funext λb=>by
 by_cases e:b=q
 ·subst e;rw[aJ];exact h
 ·rw[aE e];exact k b e
def rY{κ:Type}[DecidableEq κ](kvs more:List (κ×V)):List (κ×V):=more.foldl (λq z=>putK q z.1 z.2) kvs
theorem KA:∀(prs:List (List Key×V)) (as:List Addr) (H:Hp) (xs:List (List Key×V)),H q=some (.dT xs)->xs.length+prs.length<zaj->zaU (λ(p:List Key×V) (b:Addr)=>H b=some (.tup (p.1.map kV))) prs as->∃H2,Puts q H ((prs.zip as).map λp=>(V.ref p.2,p.1.2)) H2/\H2 q=some (.dT (rY xs prs))/\∀b,b≠q->H2 b=H b
 | _,_,H,xs,e,hl,.nil=>⟨H,.nil,e,λ_ _=>rfl⟩
 | p::prs,b::as,H,xs,e,hl,.cons hp t=>by
  have J:=cL xs p.1 p.2;rw[za3]at hl;obtain⟨H2,G,F,k⟩:=KA prs as (upd H q (.dT (putK xs p.1 p.2))) (putK xs p.1 p.2) aJ (by lia) (Paired.mapP t λp c z=>by rw[aE (DZ z e (λz=>nomatch z))];exact z);exact⟨H2,.cons (DPut.t e hp (by lia)) G,F,λb B=>(k b B).trans (aE B)⟩
end
end My
namespace P
open PySem PySem.Spec PyProof.Rows L2
section
variable {X:Cx}{A:Av}{H:Hp}
def GJ:List D->Option (List (List Key×D))
 | []=>some []
 | .tup [k,v]::l=>(zW k).bind λkk=>(GJ l).map λr=>(kk,v)::r
 | _=>none
def sG{κ:Type}[DecidableEq κ](l more:List (κ×D)):List (κ×D):=more.foldl (λm p=>putD m p.1 p.2) l
theorem M9{κ:Type}[DecidableEq κ]{more:List (κ×D)}{ys:List (κ×V)}(h:PP A H more ys):∀ {l:List (κ×D)} {xs:List (κ×V)},PP A H l xs->PP A H (sG l more) (My.rY xs ys):=by
 induction h with
 | nil=>intro l xs q;exact q
 | @cons p q ps qs h t ih=>
  intro l xs z;have:=ih (BV p.1 h.2 z);rw[show sG l (p::ps)=sG (putD l p.1 p.2) ps from rfl,show My.rY xs (q::qs)=My.rY (putK xs q.1 q.2) qs from rfl,<- h.1];exact this
theorem xT:∀ {l:List D} {kvs:List (List Key×D)} {xs:List V},GJ l=some kvs->RepL A H l xs->∃(q:List (List Key×V)) (as:List Addr),PP A H kvs q/\q.length=xs.length/\zaU (λ(p:List Key×V) (b:Addr)=>H b=some (.tup (p.1.map kV))) q as/\∀(m:Nat) (z:V×V),((q.zip as).map λp=>(V.ref p.2,p.1.2))[m]?=some z->∃b,xs[m]?=some (.ref b)/\H b=some (.tup [z.1,z.2])
 | _,kvs,_,e,.nil=>by cases e;exact⟨[],[],.nil,rfl,.nil,λm z h=>by simp at h⟩
 | d::l,kvs,v::xs,e,.cons h t=>by
  unfold GJ at e;split at e
  ·cases ‹_::_=[]›
  ·rename_i k w l' heq
   injection heq with h1 h2
   subst h1 h2;obtain⟨G,U,e⟩:=bind_some e;obtain⟨r,N,rfl⟩:=map_some e;obtain⟨q,as,pp,W,Y,J⟩:=xT N t;obtain⟨a,zs,rfl,M,B⟩:=RepB.tup_inv (.of h);cases B with
   | @cons _ z1 _ zs1 q1 B=>
   cases B with
   | @cons _ z2 _ zs2 q2 B=>
   cases B;obtain⟨b,rfl,F⟩:=oB U (.of q1);refine⟨(G,z2)::q,b::as,.cons ⟨rfl,q2⟩ pp,by simp[W],.cons F Y,λm z h=>?_⟩;cases m with
   | zero=>simp at h;subst h;exact⟨a,rfl,M⟩
   | succ m=>exact J m z (by simpa using h)
  ·cases e
noncomputable def QD:D->Option (List D)
 | .lst l=>some l
 | .tup l=>some l
 | _=>none
def wG:List D->Option D
 | [.dT l]=>D8 [.dT l]
 | [d]=>(QD d).bind λl=>if aZ l.length then(GJ l).map λkvs=>.dT (sG [] kvs)else none
 | _=>none
theorem IE(h:QD d=some l)(r:RepB A H d v):∃p ys,v=.ref p/\My.Src X H p ys/\RepL A H l ys:=by
 cases d with
 | lst m=>cases h;obtain⟨a,xs,rfl,h1,h2⟩:=r.lst_inv;exact⟨a,xs,rfl,.inl (.inl h1),h2⟩
 | tup m=>cases h;obtain⟨a,xs,rfl,h1,h2⟩:=r.tup_inv;exact⟨a,xs,rfl,.inr (.inl h1),h2⟩
 | _=>cases h
theorem szL(h:aZ n=true):0+n<zaj:=by rw[zdb];exact oD h
theorem JE(hc:X.calm=true)(hu:X.A.units+64<cLine):zL X (.type "dict") wG:=by
 intro pins s σ H xs us Q I r h;obtain⟨A,ds,d,W,Y,e,q⟩:=h;unfold wG at e;split at e
 ·exact N3 pins s σ H xs us Q I r ⟨A,_,d,W,Y,e,q⟩
 ·obtain⟨l,e1,e⟩:=bind_some e
  split at e
  ·rename_i hz
   obtain⟨kvs,e2,rfl⟩:=map_some e;obtain⟨v,rfl,h1⟩:=Y.one;obtain⟨p,ys,rfl,src,J⟩:=IE (X:=X) e1 h1;obtain⟨B,as,pp,hl,N,hm⟩:=xT e2 J;have F:=J.length;have M:=zbO N;refine My.AR hc hu pins s σ H _ us Q I r ⟨p,ys,(B.zip as).map λp=>(V.ref p.2,p.1.2),rfl,src,by rw[zal,List.length_zip,<- M,Nat.min_self];exact hl,λm pr h=>?_,λa G=>?_⟩
   ·obtain⟨b,x1,x2⟩:=hm m pr h
    exact⟨b,x1,.inl (.inl x2)⟩
   ·obtain⟨H2,pu,e3,k⟩:=My.KA B as (upd H a (.dT [])) [] aJ (by rw[hl,F];exact szL hz) (Paired.mapP N λp c z=>by rw[aE (λw=>by rw[w,G]at z;cases z)];exact z)
    have eH:H2=upd H a (.dT (My.rY [] B)):=My.R7 e3 λb U=>(k b U).trans (aE U)
    obtain⟨f1,f2⟩:=EE (M9 pp (Paired.nil));refine⟨H2,.inr pu,?_⟩;rw[eH];exact q a _ (Ext.new G) G (λz=>W a z G) (.dT aJ f1 (f2.fresh G))
  ·cases e
 ·cases e
end
end P
namespace My
open PySem PySem.Spec PyProof.Rows L2 PySem.SeqAt
section
variable {X:Cx}
end
end My
namespace P
open PySem PySem.Spec PyProof.Rows L2
section
variable {X:Cx}{O:List Nat}
end
section
variable {X:Cx}{O:List Nat}{e:Expr}{es:List Expr}
theorem QE(z:PD X O e f)(q:zX X O es g)(hs:isStar e=false:=by rfl):zX X O (e::es) (aC f g):=IP z q (cQ hs)
theorem YG(z:PB X O e f)(q:oK X O es g)(hs:isStar e=false:=by rfl):oK X O (e::es) (aC f g):=zB z q (cQ hs)
theorem lc(h:Len g n):Len (aC f g) (n+1):=GZ h
theorem l0:Len aT 0:=OE
variable {x:Str}{id T:String}{g:List D->Option D}{f:Lv}{p pos:Pos}
theorem cB(G:iH X (.builtin id) g)(z:X.mg x=none)(J:zaN x=some (.builtin id))(B:oK X O (e::es) f)(N:Gl X x:=by rfl)(F:x ≠ "__name__" := by decide)(q:(x == ("__debug__" : Str))=false:=by decide)(hs:isStar e=false:=by rfl)(M:(es.all λe=>!isStar e)=true:=by rfl) :
  PD X O (.Call (.Name x p) (e::es) [] pos) (aQ g f):=G4 G N z J B F q (cQ hs) (iS M)
theorem YO(G:iH X (.type T) g)(z:X.mg x=none)(J:zaN x=some (.type T))(B:oK X O (e::es) f)(N:Gl X x:=by rfl)(F:x ≠ "__name__" := by decide)(q:(x == ("__debug__" : Str))=false:=by decide)(hs:isStar e=false:=by rfl)(M:(es.all λe=>!isStar e)=true:=by rfl) :
  PD X O (.Call (.Name x p) (e::es) [] pos) (aQ g f):=EK G N z J B F q (cQ hs) (iS M)
theorem fTy(G:zL X (.type T) g)(z:X.mg x=none)(J:zaN x=some (.type T))(B:oK X O (e::es) f)(N:Gl X x:=by rfl)(F:x ≠ "__name__" := by decide)(q:(x == ("__debug__" : Str))=false:=by decide)(hs:isStar e=false:=by rfl)(M:(es.all λe=>!isStar e)=true:=by rfl) :
  PF X O (.Call (.Name x p) (e::es) [] pos) (aQ g f):=GG G N z J B F q (cQ hs) (iS M)
theorem cD(O':Fn X.prog X.w X.K X.mg X.base x k ps F)(z:Room k X.A)(B:zX X O (e::es) f)(G:Len f ps.length)(M:Gl X x:=by rfl)(q:(x == ("__debug__" : Str))=false:=by decide)(hs:isStar e=false:=by rfl)(J:(es.all λe=>!isStar e)=true:=by rfl) :
  PD X O (.Call (.Name x p) (e::es) [] pos) (aQ F f):=LV O' z M B G q (cQ hs) (iS J)
theorem cn{L:Lp}{z O2 O3:List Nat}{st:Stmt}{q:List Stmt}{f g:Sv}(h:iJ X L z st f O2)(k:dJ X L O2 q g O3):dJ X L z (st::q) (bM f g) O3:=JI h k
end
def ZOk(P:zap)(w:World)(K:zaf)(mg:Str->Option Value)(base:Heap)(N:List Str)(x:Str)(st:Stmt)(k:Nat)(b:Sv):Prop:=
 ∀(fa:Addr) (cdv:Value) (A:zas) (outer:List Env) (s:zab) (H:Hp) (E:XK),Room k (A.deeper (zbo x (aU st) s.heap.objs.size fa cdv))->∃g,dJ (sJ GN P w K mg base N x (aU st) fa cdv A outer s H E).nox ⟨[],[]⟩ [] (b9 st) g []/\g=b
end P
namespace My
open PySem PySem.Spec PyProof.Rows L2 PySem.SeqAt
theorem args_max1(a:Value):argsOk "max" ⟨[a],[]⟩:=by unfold argsOk;kernel_rfl
section
variable {prog:zap}{w:World}{A:zas}{R:Result->zab->Prop}{I S:Addr}{fp wr:List Addr}{n:Nat}{P:Nat->Value->Prop}{St:Nat->Heap->Prop}
theorem A5(W:Walks prog w A.in1 I fp wr n P St)(val:Nat->Int)(Y:∀j v,P j v->∃t,v=.int (val j) t)(J:S∉fp)(st:St 0 s.heap)
  (U:s.heap.get? S=some {cls:=.type "list",dict:=none,data:=.seq #[] c,slots:=#[]}) (lt:0<n)
  (fin:∀t' h' tk,(∀b o,b∉wr->b≠S->s.heap.get? b=some o->h'.get? b=some o)->R (.ok (.ret (.int (QG val (n-1) 1 (val 0)) t'))) {s with heap:=h',toks:=tk}) :
  zbs (model prog w) A (.builtin "max.loop" ⟨[.ref I,.none,.ref S],[]⟩) R s:=by
 have nw:S∉wr:=λz=>J (W.sub _ z)
 have nm:(zb9 "max" ++ zb9 ".loop" : String) = "max.loop" := by decide
 refine zcj ze7 ?_;rw[zck zcn _];show wpAny _ A.in1 (zdx (.ref S) >>= λ_=>_) _ _ s;refine zaa (za5 U rfl ?_);show wpAny _ A.in1 (tryCatch (zaH (.ref I)) _ >>= λ_=>_) _ _ s;refine zaa (zcR (W.item 0 s _ _ lt st λv h1 tk pv N same=>?_));have B:=same S _ nw U;obtain⟨u,rfl⟩:=Y 0 v pv;show wpAny _ A.in1 (zcQ S (λ_=>#[.int (val 0) u,.int (val 0) u]) >>= λ_=>_) _ _ _;refine zaa (zcw B rfl ?_);rw[nm];refine zac ⟨zbB zcn _,iL W val Y J (n-1) 1 _ (val 0) u _ rfl lt (W.frame _ _ _ N λb bf o M=>?_) (zbU _ B rfl) λt' h2 G q=>?_⟩
 ·exact(zbJ _ _ (λz:S=b=>J (z ▸ bf))).trans M
 ·exact fin t' h2 G λb o nb F M=>q b o nb F ((zbJ _ _ (zaS F)).trans (same b o nb M))
end
section
variable {X:Cx}
theorem AL(hc:X.calm=true)(I:Inv X pins σ H s)(hq:SqT X.K H p (ns.map V.int))(hn:ns≠[])(q:Q (.int (nW 0 ns)) H) :
  wpAny (model X.prog X.w) X.A (call (.builtin "max") [.ref p]) (EP X pins σ Q) X.xe s:=by
 have nm:(zb9 "max" ++ zb9 ".loop" : String) = "max.loop" := by decide
 obtain⟨B,Y,pl,hz⟩:=I.tuple hq;have M:s.heap.IsTuple p B.toArray:=pl;obtain⟨o,U,af,n,hd⟩:=id M;have N:p≠s.heap.objs.size:=zaz (zai U);have W:=Walks.tuple (prog:=X.prog) (w:=X.w) (A:=X.A.in1) (I.ok.hd hc) s.heap.objs.size p N B.toArray;refine kmk_tree PySem.F.kind_max PySem.F.plain_max PySem.F.entry_max (args_max1 _) ?_;show wpAny _ X.A.in1 (zez "max" ["key", "default"] 0 ⟨[],[]⟩ >>= λ_=>_) _ _ s;refine zaa (zdt (show zez "max" ["key", "default"] 0 ⟨[],[]⟩=pure [none,none]from rfl) ?_);refine zaa (zac (zaa (zbQ M (zaa (zee ?_ (zaZ _))))));rw[nm];refine zac ⟨zbB zcn _,?_⟩;have G:=Y.length;rw[zal]at G;have sz:B.toArray.size=ns.length:=by rw[zaA];exact G.symm
 have keep:∀h':Heap,(∀b o,b∉[s.heap.objs.size]->b≠(s.heap.push {cls:=.type "tuple_iterator",data:=.fields #[.ref p,.int 0 0]}).objs.size->((s.heap.push {cls:=.type "tuple_iterator",data:=.fields #[.ref p,.int 0 0]}).push (za0 "list" #[] 0)).get? b=some o->h'.get? b=some o)->∀b o,s.heap.get? b=some o->h'.get? b=some o:=λh' k b o e=>by
  have lt:=zai e;refine k b o (λz=>zaz lt (List.mem_singleton.mp z)) ?_ (zag _ (zag _ e));rw[size_push'];exact zaz (Nat.lt_succ_of_lt lt)
 have J:0<B.toArray.size:=by
  rw[sz];exact List.length_pos_iff.mpr hn
 refine A5 W (λi=>(ns[i]?).getD 0) (λi v hP=>yD Y (by simpa using hP)) (S:=(s.heap.push {cls:=.type "tuple_iterator",data:=.fields #[.ref p,.int 0 0]}).objs.size) ?_ ?_ (zat _ rfl) J λt' h' tk same=>?_
 ·rw[size_push']
  intro z;rcases List.mem_cons.mp z with z|z
  ·exact zaG (zda _) z
  ·exact zbd _ (zcL (zda _) ((List.mem_singleton.mp z) ▸ zai U))
 ·exact⟨⟨_,zag _ (zat _ rfl),rfl,rfl⟩,M.at λo e=>zag _ (zag _ e)⟩
 ·refine⟨.int (nW 0 ns),H,I.kept (t':=tk) (keep h' same),⟨t',?_⟩,q⟩
  rw[sz];cases ns with
  | nil=>exact absurd rfl hn
  | cons x xs=>
   rw[qM (x::xs) _ 1 _ (by simp)];rfl
theorem QX(G:∀v s,¬ X.xe v s)(F:PSs X body t):PS X (.Try body (h₀::hs) [] [] pos) t:=λpins s σ H D I hw=>
 wpAny_Try_except (zba (F pins s σ H D I hw) (λf B q=>by
  cases f with
  | next=>exact zac q
  | _=>exact q) λv B z=>absurd z (G v B))
end
end My
namespace P
open PySem PySem.Spec PyProof.Rows L2
section
variable {X:Cx}{O O':List Nat}{L:Lp}
theorem L4(z:∀v s,¬ X.xe v s)(q:dJ X L O body f O'):iJ X L O (.Try body (h₀::hs) [] [] pos) f O':=My.QX z q
def zK:List D->Option D
 | [.tup l]=>(fM l).bind λns=>if ns=[]then none else some (.int (My.nW 0 ns))
 | _=>none
theorem NP(F:X.calm=true):iH X (.builtin "max") zK:=by
 intro pins s σ H xs us Q I r h;obtain⟨A,ds,d,M,B,e,q⟩:=h;unfold zK at e;split at e
 ·rename_i l
  obtain⟨ns,G,e⟩:=bind_some e;split at e
  ·cases e
  ·rename_i hn
   cases e;obtain⟨v,rfl,h1⟩:=B.one;obtain⟨a,ys,rfl,h2,z⟩:=h1.tup_inv;rw[eG G z]at h2;obtain⟨u,rfl,J⟩:=vals1 r;cases J;exact My.AL F I (.inl (.inl h2)) hn (q _ H (Ext.refl _ _) (.int _))
 ·cases e
@[simp] theorem q_max1:zK [.tup (.int n::ns.map .int)]=some (.int (My.nW 0 (n::ns))):=by
 have e:fM (.int n::ns.map .int)=some (n::ns):=hV (n::ns);show(fM (.int n::ns.map .int)).bind _=_;rw[e];rfl
end
end P
namespace My
open PySem PySem.Spec PyProof.Rows L2
def CY(r M J:R2)(ta tb tc td:TE):TE:=λσ H Q=>ta σ H λx H1=>tb σ H1 λy H2=>r x y H2 λz F=>∃k,z=.bl k /\
 (if k=true then tc σ F λq U=>M y q U λN G=>∃B,N=.bl B/\(if B=true then td σ G λu W=>J q u W Q else Q (.bl false) G)else Q (.bl false) F)
theorem E2(ho:OpR X (zaq op) r)(F:OpR X (zaq op') r')(G:OpR X (zaq op3) q)(ha:PE X a ta)(hb:PE X b tb)(hc:PE X c tc)(hd:PE X d td)
  (hm:zcU [op,op',op3] [b,c,d]=false:=by with_unfolding_all rfl):PT X (.Compare a [op,op',op3] [b,c,d] pos) (K9 (CY r r' q ta tb tc td)):=by
 intro pins s σ H Q I h;refine isTrue_chain (bN (ha pins s σ H _ I h) λv s1 ⟨x,H1,I1,r1,q1⟩=>test_link (bN (hb pins s1 σ H1 _ I1 q1) λu s2 ⟨y,H2,I2,r2,q2⟩=>
  bN (ho pins s2 σ H2 x y v u _ I2 r1 r2 q2) λd s3 ⟨z,H3,N,q,k,e,q3⟩=>?_)) hm
 subst e;cases q;refine zbD ?_;cases k with
 | false=>
  obtain⟨k',J,B⟩:=q3;cases J;exact ite_ff ⟨H3,N,B⟩
 | true=>
  refine ite_tt (test_link (bN (hc pins s3 σ H3 _ N q3) λY s4 ⟨y',H4,I4,U,q4⟩=>bN (F pins s4 σ H4 y y' u Y _ I4 r2 U q4) λd2 s5 ⟨z2,W,I5,r5,k2,e2,M⟩=>?_));subst e2;cases r5;refine zbD ?_;cases k2 with
  | false=>
   obtain⟨k',J,B⟩:=M;cases J;exact ite_ff ⟨W,I5,B⟩
  | true=>
   refine ite_tt (test_last (bN (hd pins s5 σ W _ I5 M) λw2 s6 ⟨z',H6,I6,r6,q6⟩=>bN (G pins s6 σ H6 y' z' Y w2 _ I6 U r6 q6) λd' s7 ⟨z3,H7,I7,r7,k3,e3,q7⟩=>?_));subst e3;cases r7;exact zbD ⟨H7,I7,q7⟩
end My
namespace P
open PySem PySem.Spec PyProof.Rows L2
section
variable {X:Cx}{O:List Nat}
def oC(g g' F:D->D->Option D)(M q J fd:Ev):Ev:=λρ=>(M ρ).bind λx=>(q ρ).bind λy=>(g x y).bind λz=>(CH z).bind λb=>if b=true then(J ρ).bind λw=>(g' y w).bind λG=>(CH G).bind λB=>if B=true then(fd ρ).bind λu=>F w u else some (.bl false)else some (.bl false)
@[simp] theorem q_chain3:oC g g' g3 fa fb fc fd ρ=(fa ρ).bind λx=>(fb ρ).bind λy=>(g x y).bind λz=>(CH z).bind λb=>if b=true then(fc ρ).bind λw=>(g' y w).bind λB=>(CH B).bind λq=>if q=true then(fd ρ).bind λu=>g3 w u else some (.bl false)else some (.bl false):=rfl
theorem AY(h:tD Rep O (oC g g' g3 fa fb fc fd) σ H Q):My.CY (rD g) (rD g') (rD g3) (tD RepB O fa) (tD RepB O fb) (tD RepB O fc) (tD RepB O fd) σ H Q:=by
 obtain⟨H0,A0,A,E,ρ,d,st,e,q⟩:=h;obtain⟨x,ex,e⟩:=bind_some e;obtain⟨y,ey,e⟩:=bind_some e;obtain⟨z,ez,e⟩:=bind_some e;obtain⟨b,eb,e⟩:=bind_some e;rw[f7 eb]at ez;refine⟨H0,A0,A,E,ρ,x,st,ex,λv H1 J r1=>⟨H0,A0,A,E,ρ,y,st.mono J,ey,λw H2 W r2=>⟨A,x,y,_,(st.mono (J.trans W)).live,r1.ext W,r2,ez,λz H3 x3 r3=>⟨b,RepB.bl_inv (.of r3),?_⟩⟩⟩⟩;have F:=(J.trans W).trans x3;cases b with
 | false=>rw[if_neg zaw]at e ⊢;cases e;exact q _ H3 F (.bl _)
 | true=>
  rw[if_pos rfl]at e ⊢;obtain⟨u,eu,e⟩:=bind_some e;obtain⟨z2,G,e⟩:=bind_some e;obtain⟨b2,N,e⟩:=bind_some e;rw[f7 N]at G;refine⟨H0,A0,A,E,ρ,u,st.mono F,eu,λz' H4 M r4=>⟨A,y,u,_,(st.mono (F.trans M)).live,r2.ext (x3.trans M),r4,G,λz2 H5 Y r5=>⟨b2,RepB.bl_inv (.of r5),?_⟩⟩⟩;have B:=(F.trans M).trans Y;cases b2 with
  | false=>rw[if_neg zaw]at e ⊢;cases e;exact q _ H5 B (.bl _)
  | true=>
   rw[if_pos rfl]at e ⊢;obtain⟨t,et,e⟩:=bind_some e;exact⟨H0,A0,A,E,ρ,t,st.mono B,et,λz6 H6 U r6=>⟨A,u,t,d,(st.mono (B.trans U)).live,r4.ext (Y.trans U),r6,e,λz7 H7 x7 r7=>q z7 H7 ((B.trans U).trans x7) r7⟩⟩
theorem BI(F:gE X (zaq op) g)(z:gE X (zaq op') g')(q:gE X (zaq op3) g3)(M:PB X O a fa)(G:PB X O b fb)(N:PB X O c fc)(B:PB X O d fd)
  (J:zcU [op,op',op3] [b,c,d]=false:=by with_unfolding_all rfl):nQ X O (.Compare a [op,op',op3] [b,c,d] pos) (eM (oC g g' g3 fa fb fc fd)):=PT.mono (My.E2 F z q M G N B J) λσ H Q h=>AY (iB h)
end
end P
namespace My
open PySem PySem.Spec PyProof.Rows L2
def LH(i j:Int):Prop:=(-(10^250*10^250)<i/\i<10^250*10^250)/\-(10^250*10^250)<j/\j<10^250*10^250
theorem yI(h1:-(10^250*10^250)<i)(h2:i<10^250*10^250):Builtin.Int.intBits i<=2^20:=by
 have h:i.natAbs<10^250*10^250:=by lia
 have e:(10:Nat)^250*10^250<=2^(4*250+4*250):=by
  rw[Nat.pow_add,Nat.pow_mul];have:(10:Nat)^250<=(2^4)^250:=Nat.pow_le_pow_left (by decide) 250;exact Nat.mul_le_mul this this
 exact zbe (PyProof.Rows.intBits_le (zbc h e)) (by decide)
theorem MC:OpR X (zaV .Mult) (rI LH λi j=>.int (i*j)):=YM λ_ _ _ _ _ _ _ z q=>mul_int q (IntMulOk.of_bits (yI z.1.1 z.1.2) (yI z.2.1 z.2.2))
end My
namespace P
open PySem PySem.Spec PyProof.Rows L2
instance:∀i j,Decidable (My.LH i j):=λi j=>by unfold My.LH;infer_instance
def KO:D->D->Option D:=GS λi j=>if My.LH i j then some (.int (i*j))else none
open Classical in
def cC:D->D->Option D:=GS λi j=>if My.LH i j then some (.int (i*j))else none
theorem DA:cC=KO:=by
 unfold cC KO;congr 1
theorem OQ:gE X (zaV .Mult) cC:=by rw[DA];exact wK My.MC
theorem c7(h:-(10^250*10^250)<i)(h1:i<10^250*10^250)(h2:-(10^250*10^250)<j)(q:j<10^250*10^250):cC (.int i) (.int j)=some (.int (i*j)):=by
 rw[DA];exact if_pos ⟨⟨h,h1⟩,h2,q⟩
end P
namespace My
open PySem PySem.Spec PyProof.Rows L2 PySem.SeqAt
section
variable {X:Cx}
end
end My
namespace P
open PySem PySem.Spec PyProof.Rows L2
section
variable {X:Cx}{O Oi:List Nat}
end
end P
namespace My
open PySem PySem.Spec PySem.Calls PySem.W PySem.Builtin PySem.Builtin.ObjectAttr PySem.Builtin.Getset_descriptor
section
variable {prog:zap}{w:World}{A:zas}{E:Value->zab->Prop}{h:Heap}{g:Array GenState}{d:Drawn}{t:Nat}{os:OsState}{a C:Addr}{o:Obj}{K:Frag}
end
end My
namespace My
open PySem PySem.Spec PyProof.Rows L2 PySem.SeqAt
section
variable {l:List Env}{fs fr:List Addr}{h0 h1 h:Heap}{e C:Addr}{H H1:Hp}{P:zap}{w:World}
end
section
variable {X:Cx}{pins:List (Addr×Obj)}{σ:L2.St}{H:Hp}{s:zab}{ea:Addr}{oe:Obj}
end
end My
namespace My
open PySem PySem.Spec PyProof.Rows L2 PySem.SeqAt PySem.W
section
variable {X:Cx}{pins:List (Addr×Obj)}{σ:L2.St}{H:Hp}{s:zab}
theorem any_cons{K:zaf}{t c:Value}{cs:List Value}(h:zdi K t c=some false)(r:zeB K t cs=some false):zeB K t (c::cs)=some false:=by
 unfold zeB;rw[h];exact r
end
end My
namespace P
open PySem PySem.Spec PyProof.Rows L2
section
variable {X:Cx}{L:Lp}{O O2 O':List Nat}
end
section
variable {X:Cx}{O:List Nat}
end
end P
namespace My
open PySem PySem.Spec PyProof.Rows L2 PySem.SeqAt
section
variable {X:Cx}
def tCs(cs:List V):TA:=λ_ H Q=>Q cs H
def PO(X:Cx)(q:Addr)(es:List Expr):Prop:=∃cs:List V,PA X es (tCs cs)/\(cs.length=es.length)/\∀us,Vals cs us->zeB X.K (.ref q) us=some false
end
end My
namespace P
open PySem PySem.Spec PyProof.Rows L2
section
variable {X:Cx}{L:Lp}{O O':List Nat}
end
end P
namespace My
open PySem PySem.Spec PyProof.Rows L2 PySem.SeqAt
end My
namespace P
open PySem PySem.Spec PyProof.Rows L2
section
variable {X:Cx}{L:Lp}{O O':List Nat}
end
section
variable {X:Cx}{L:Lp}{O O' O2:List Nat}
end
section
variable {X:Cx}{L:Lp}{O O' O2:List Nat}{Z:List Nat}
end
end P
namespace My
open PySem PySem.Spec PyProof.Rows L2
section
variable {X:Cx}
end
end My
namespace P
open PySem PySem.Spec PyProof.Rows L2
section
variable {X:Cx}
end
end P
namespace My
open PySem PySem.Spec PyProof.Rows L2
end My
namespace P
open PySem PySem.Spec PyProof.Rows L2
section
variable {X:Cx}{O:List Nat}
end
end P
namespace My
open PySem PySem.Spec PyProof.Rows L2
section
variable {X:Cx}
end
end My
namespace P
open PySem PySem.Spec PyProof.Rows L2
section
variable {X:Cx}{O:List Nat}
end
variable {X:Cx}{O:List Nat}{e:Expr}
mutual
def frz:D->Bool
 | .tup l=>U9 l
 | .lst _=>false
 | .dK _=>false
 | .dT _=>false
 | _=>true
def U9:List D->Bool
 | []=>true
 | d::l=>frz d && U9 l
end
mutual
theorem Rep.frz:Rep A H d v->P.frz d=true->Rep A' H d v
 | .non,_=>.non
 | .bl b,_=>.bl b
 | .int i,_=>.int i
 | .str s,_=>.str s
 | .tup h r,f=>.tup h (RepL.frz r f)
 | .lst n h r,f=>nomatch f
 | .dK n h e r,f=>nomatch f
 | .dT n h e r,f=>nomatch f
theorem RepL.frz:RepL A H ds vs->U9 ds=true->RepL A' H ds vs
 | .nil,_=>.nil
 | .cons h t,f=>.cons (Rep.frz h (Bool.and_eq_true_iff.mp f).1) (RepL.frz t (Bool.and_eq_true_iff.mp f).2)
end
section
variable {X:Cx}{O:List Nat}
end
end P
namespace My
open PySem PySem.Spec PyProof.Rows L2
theorem LQ(h:nP k u=true):RelV (kV k) u:=by
 rcases bT h with⟨i,t,rfl,rfl⟩|⟨x,t,rfl,rfl⟩
 ·exact⟨_,rfl⟩
 ·exact⟨_,rfl⟩
theorem tJ:∀ {es:List zbA} {xs:List (Key×Value)},Pairs (aV P w) es xs->∀(j:Nat) (q:Key×Value),xs[j]?=some q->∃e,es[j]?=some e/\nP q.1 e.key=true
 | _,_,.nil,_,_,e=>by simp at e
 | _,_,.cons h1 h2 t,0,q,e=>by simp at e;subst e;exact⟨_,rfl,h1⟩
 | _,_,.cons h1 h2 t,j+1,q,e=>tJ t j q (by simpa using e)
theorem KI:∀ {kvs:List (Key×V)} {xs:List (Key×Value)},KV kvs xs->∀(j:Nat) (p:Key×V),kvs[j]?=some p->∃q,xs[j]?=some q/\p.1=q.1
 | _,_,.nil,_,_,e=>by simp at e
 | _,_,.cons h t,0,p,e=>by simp at e;subst e;exact⟨_,rfl,h.1⟩
 | _,_,.cons h t,j+1,p,e=>KI t j p (by simpa using e)
theorem rO(x:ObjOk P w H h d (.dK kvs)):(d == za9)=false/\kvs.length<=zaj/\∃es ep,RawD h d es ep/\es.size=kvs.length /\
  ∀(j:Nat) (p:Key×V),kvs[j]?=some p->∃(e:zbA),es[j]?=some e/\RelV (kV p.1) e.key:=by
 obtain⟨z,y,xs,r,o,es,ep,h1,h2,N,W,F,h6⟩:=x;have Y:xs.length=kvs.length:=(zbO r).symm;have B:es.size=kvs.length:=by
  have:=F.length;rw[zbf]at this
  lia
 refine⟨y,z,es,ep,⟨o,h1,h2,N⟩,B,λj p e=>?_⟩;obtain⟨q,M,J⟩:=KI r j p e;obtain⟨n,U,G⟩:=tJ F j q M;exact⟨n,by rw[<- zc7];exact U,by rw[J];exact LQ G⟩
def YD(d:Addr)(o:Obj)(kvs:List (Key×V)):It:=
 ⟨λi H=>H d=some (.frz o (.dK kvs))/\i<kvs.length,λi H x H'=>H'=H/\∃k v,kvs[i]?=some (k,v)/\x=kV k,λi H=>H d=some (.frz o (.dK kvs))/\kvs.length<=i⟩
theorem AJ{P:zap}{w:World}{K:zaf}{tg:Expr}(d it:Addr)(o:Obj)(kvs:List (Key×V))(es:Array zbA)(ep:Nat)(W:o.data=.dict es ep)(ax:es.size=kvs.length):Turn P w K tg (YD d o kvs) [it] it (λi h=>h.IsKeyIter it d i es.size ep) where
 mem:=by simp
 obj:=λi h st b B=>by
  have e:b=it:=by simpa using B
  subst e;obtain⟨o,U,e2,e3⟩:=st;exact⟨o,U,λv z=>by rw[e3]at z;cases z⟩
 keep:=λi h h' st k=>st.at λo e=>k it (by simp) o e
 item:=by
  intro X hP hw hK hc i pins s σ H E I N st Y;subst hP hw hK;obtain⟨h1,h2⟩:=Y;obtain⟨M,g2⟩:=(show ObjOk X.prog X.w H s.heap d (.frz o (.dK kvs))from I.hok d _ h1);obtain⟨_,_,ak,af,⟨o',G,r2,r3⟩,J,q⟩:=rO g2;rw[M]at G;cases G;rw[W]at r3;injection r3 with r4 r5
  subst r4 r5;obtain⟨f0,f1,f2,f3,f4,f5⟩:=N it (by simp);have hi:i<es.size:=by lia
  refine zA st ⟨o,M,r2,W⟩ hi λh' F sb=>?_
  have I1:Inv X pins σ H {s with heap:=h'}:=I.turned (t':=s.toks) (λb o B e=>(sb.2 b B).trans e) f0 f1 f3 f4 f5;obtain⟨e,U,e2⟩:=q i _ (zaL h2);have ee:es[i]=e:=by
   rw[zd6 hi]at U;exact zaD U
  obtain⟨o2,q1,q2,q3⟩:=id F;refine⟨_,rfl,nN (s:={s with heap:=h'}) (n := "dict_keyiterator") q1 q2 q3 (by decide) ⟨kV kvs[i].1,H,I1,?_,⟨rfl,kvs[i].1,kvs[i].2,zaL h2,rfl⟩,F,λc B=>(N c B).1⟩⟩;rw[ee];exact e2
 done:=by
  intro X hP hw hK hc i pins s σ H E I N st Y;subst hP hw hK;obtain⟨h1,h2⟩:=Y;obtain⟨M,g2⟩:=(show ObjOk X.prog X.w H s.heap d (.frz o (.dK kvs))from I.hok d _ h1);obtain⟨_,_,ak,af,⟨o',G,r2,r3⟩,J,q⟩:=rO g2;rw[M]at G;cases G;obtain⟨f0,f1,f2,f3,f4,f5⟩:=N it (by simp);exact C3 (I.ok.hd hc) st ⟨o,M,r2,W⟩ (by lia) λh' eb=>⟨rfl,I.turned (t':=s.toks) (λb o B e=>eb b o B e) f0 f1 f3 f4 f5⟩
 self:=λ_ _ _ _ _ st h=>wpAny_pyIter_keyiter st h
theorem w6(I:Inv X pins σ H s)(B:H d=some (.dK kvs))(G:s.heap.get? d=some o):Inv X pins σ (upd H d (.frz o (.dK kvs))) s:=by
 have ne:∀b u,H b=some u->(∀z,u≠.dK z)->b≠d:=λb u e n z=>by
  subst z;rw[B]at e;exact n kvs (zaD e).symm
 have J:=I.un (h':=s.heap) (t':=s.toks) (H':=upd H d (.frz o (.dK kvs))) ⟨λb u q _ _ _=>q,λb u q _ _ _=>⟨u.slots,q⟩,λb u q n _=>by rw[aE (λz=>by rw[z,B]at n;cases n)];exact n,λb u q _=>⟨u,q⟩,
  λb xs q=>by rw[aE (ne b _ q (λz h=>by cases h))];exact q,λb u xs q=>by rw[aE (ne b _ q (λz h=>by cases h))];exact q,λb ps q=>⟨#[],by rw[aE (ne b _ q (λz h=>by cases h)),q];simp⟩⟩ (λb u e=>?_)
 ·exact J
 ·have st:∀ {b:Addr} {u:HO},ObjOk X.prog X.w H s.heap b u->ObjOk X.prog X.w (upd H d (.frz o (.dK kvs))) s.heap b u:=λx=>x.stay (λ_ _ _ q=>q) (λc q=>by rw[aE (ne c _ q (λz h=>by cases h))];exact q) λc xs q=>by rw[aE (ne c _ q (λz h=>by cases h))];exact q
  by_cases F:b=d
  ·subst F
   rw[aJ]at e;cases e;exact⟨G,st (I.hok b _ B)⟩
  ·rw[aE F]at e
   exact st (I.hok b u e)
end My
namespace P
open PySem PySem.Spec PyProof.Rows L2
section
variable {X:Cx}{O:List Nat}
def Q4(tl:TE):TI:=λσ H R=>tl σ H λx H1=>∃d kvs,x=.ref d/\((H1 d=some (.dK kvs)/\∀o,R (My.YD d o kvs) (upd H1 d (.frz o (.dK kvs))))\/∃o,H1 d=some (.frz o (.dK kvs))/\R (My.YD d o kvs) H1)
theorem HH{tg l:Expr}{tl:TE}(hl:PE X l tl):PI X tg l (Q4 tl):=by
 intro pins s σ H R I h;refine bN (hl pins s σ H _ I h) λv z ⟨x,H1,N,B,q1⟩=>?_
 obtain⟨d,kvs,rfl,q⟩:=q1;cases B;have G:∀(o:Obj) (H2:Hp),(d == za9)=false->Inv X pins σ H2 z->z.heap.get? d=some o->ObjOk X.prog X.w H2 z.heap d (.dK kvs)->R (My.YD d o kvs) H2->wpAny (model X.prog X.w) X.A (pyIter (.ref d)) (PIE X pins σ tg R) X.xe z:=λo H2 lo F Y ok q=>by
  obtain⟨_,_,es,ep,⟨o',B,r2,U⟩,J,_⟩:=My.rO ok;rw[Y]at B;cases B;refine My.yM lo ⟨o,Y,r2,U⟩ ?_;refine⟨z.heap.objs.size,[z.heap.objs.size],_,_,_,rfl,F.kept (t':=z.toks) λb o e=>zag _ e,My.AJ d _ o kvs es ep U J,⟨_,zat _ rfl,rfl,rfl⟩,λb hb=>?_,q⟩;have e:b=z.heap.objs.size:=by simpa using hb
  subst e;exact F.fpOk (zao _) (F.hok.fresh (zao _))
 rcases q with⟨M,q⟩|⟨o,M,q⟩
 ·have ok:=(show ObjOk X.prog X.w H1 z.heap d (.dK kvs)from N.hok d _ M)
  obtain⟨lo,_,es,ep,⟨o,B,r2,U⟩,J,_⟩:=My.rO ok;have F:=My.w6 N M B;have W:=(show ObjOk X.prog X.w _ z.heap d (.frz o (.dK kvs))from F.hok d _ aJ);exact G o _ lo F B W.2 (q o)
 ·have ok:=(show ObjOk X.prog X.w H1 z.heap d (.frz o (.dK kvs))from N.hok d _ M)
  obtain⟨lo,_⟩:=My.rO ok.2;exact G o H1 lo N ok.1 ok.2 q
theorem MV:∀k:Key,Rep A H (nX k) (kV k)
 | .inl i=>.int i
 | .inr x=>.str x
theorem x9{a:Addr}{o:Obj}{xs:List (Key×V)}{l:List (Key×D)}(e:xs.map (·.1)=l.map (·.1)):zR (My.YD a o xs) [.fz a o (.dK xs)] (l.map λp=>nX p.1):=by
 intro A H M h i;have B:H a=some (.frz o (.dK xs)):=h _ (List.mem_singleton.mpr rfl);have N:xs.length=l.length:=by have:=congrArg zbH e;simpa using this
 refine⟨λhi=>⟨B,by rw[zal]at hi;lia⟩,λd q=>?_⟩;rw[zar]at q;obtain⟨p,z,rfl⟩:=map_some q;have hi:i<l.length:=(List.getElem?_eq_some_iff.mp z).1;refine⟨⟨B,by lia⟩,λx H' ⟨G,k,v,J,F⟩=>?_⟩;subst G F;have:k=p.1:=by
  have h1:(xs.map (·.1))[i]?=some k:=by rw[zar,J];rfl
  rw[e,zar,z]at h1;exact(zaD h1).symm
 subst this;exact⟨Ext.refl _ _,MV _⟩
def D3(f:Ev):Lv:=λρ=>(f ρ).bind λd=>match d with
 | .dK l=>some (l.map λp=>nX p.1)
 | _=>none
@[simp] theorem q_keys:D3 f ρ=(f ρ).bind λd=>match d with
 | .dK l=>some (l.map λp=>nX p.1)
 | _=>none:=rfl
theorem yN(h:PD X O e f):PDI X O tg e (D3 f):=PI.mono (HH h) <| by
 rintro σ H R ⟨H0,A0,A,E,ρ,items,st,e,q⟩;obtain⟨d,G,e⟩:=bind_some e;cases d with
 | dK l=>
  cases e;refine⟨H0,A0,A,E,ρ,_,st,G,λv H1 F J=>?_⟩;cases J with
  | @dK _ a xs n h ee rl=>
   refine⟨a,xs,rfl,?_⟩;rcases h with h|⟨o,h⟩
   ·refine .inl ⟨h,λo=>q _ _ [.fz a o (.dK xs)] (F.trans (C4 n h trivial λz=>z)) (λp B=>by rw[List.mem_singleton.mp B];exact aJ) (x9 ee)⟩
   ·exact .inr ⟨o,h,q _ H1 [.fz a o (.dK xs)] F (λp B=>by rw[List.mem_singleton.mp B];exact h) (x9 ee)⟩
 | _=>cases e
end
end P
namespace My
open PySem PySem.Spec PyProof.Rows L2
abbrev cT(h:Heap)(T:Addr)(a b c:Value):Prop:=h.get? T=some {cls:=.type "tuple",data:=.seq #[a,b,c]}
structure ZB(z TI TO i1 i2 i3 l1 l2 l3:Addr):Prop where
 zT:TI≠z/\TI≠TO/\TI≠i1/\TI≠i2/\TI≠i3
 zO:TO≠z/\TO≠i1/\TO≠i2/\TO≠i3
 z1:i1≠z/\i1≠i2/\i1≠i3
 z2:i2≠z/\i2≠i3
 z3:i3≠z
 l1:l1≠z/\l1≠TO/\l1≠i1/\l1≠i2/\l1≠i3
 l2:l2≠z/\l2≠TO/\l2≠i1/\l2≠i2/\l2≠i3
 l3:l3≠z/\l3≠TO/\l3≠i1/\l3≠i2/\l3≠i3
section
variable {prog:zap}{w:World}{A:zas}{E:Value->zab->Prop}{s:zab}
theorem cU(hT:cT s.heap T a b c)
  (h:∀h',h'.get? T=some {cls:=.type "tuple",data:=.seq ((#[a,b,c]:Array Value).setIfInBounds k x)}->zaT T s.heap h'->Q () {s with heap:=h'}) :
  wpAny (model prog w) A (zcQ T (·.setIfInBounds k x)) Q E s:=by
 refine zcw hT rfl (h _ ?_ (zci ..));rw[zbU _ hT rfl];simp[zbj]
theorem FB{t1 t2 t3:Bool}{z TI TO M N Y l1 l2 l3:Addr}{k:Nat}{xs ys ws:Array Value}{x y u a b c:Value}{Q:Option Value->zab->Prop}(D:ZB z TI TO M N Y l1 l2 l3)
  (hz:IsZip s.heap z TI TO .none) (bj:cT s.heap TI (.ref M) (.ref N) (.ref Y)) (bo:cT s.heap TO a b c) (h1:SIt t1 s.heap M l1 k) (h2:SIt t2 s.heap N l2 k) (h3:SIt t3 s.heap Y l3 k) (bl:SSq t1 s.heap l1 xs) (bh:SSq t2 s.heap l2 ys) (a6:SSq t3 s.heap l3 ws) (hx:xs[k]?=some x) (hy:ys[k]?=some y) (hu:ws[k]?=some u)
  (hQ:∀h',IsZip h' z TI TO (zaO s.heap.objs.size)->cT h' TO x y u->SIt t1 h' M l1 (k+1)->SIt t2 h' N l2 (k+1)->SIt t3 h' Y l3 (k+1)->cT h' s.heap.objs.size x y u->h'.objs.size=s.heap.objs.size+1->(∀c o,c≠z->c≠TO->c≠M->c≠N->c≠Y->s.heap.get? c=some o->h'.get? c=some o)->Q (some (.ref s.heap.objs.size)) {s with heap:=h'}) :
  wpAny (model prog w) A (zaH (.ref z)) Q E s:=by
 have hT:s.TypeIs (.ref z) "zip" := ⟨_,hz,rfl⟩;obtain⟨T1,T2,T3,T4,T5⟩:=D.zT;obtain⟨O1,O2,O3,O4⟩:=D.zO;obtain⟨a1,a2,a3⟩:=D.z1;obtain⟨b1,b2⟩:=D.z2;have c1:=D.z3;obtain⟨m1,m2,m3,m4,m5⟩:=D.l1;obtain⟨n1,n2,n3,n4,n5⟩:=D.l2;obtain⟨p1,p2,p3,p4,p5⟩:=D.l3;unfold zaH;refine zaa (zb4 (zbv (name:=zaY "__next__") hT zcx (zbb zcx hT zeh ?_ (zei _))));show wpAny _ _ (field (.ref z) 2 >>= _) _ _ s;refine zaa (zaC hz rfl (x:=.bool false) rfl ?_);show wpAny _ _ (field (.ref z) 3 >>= _) _ _ s;refine zaa (zaC hz rfl (x:=.ref TI) rfl (zaa (za5 bj rfl ?_)));show wpAny _ _ (zb7 (.ref z) >>= _) _ _ s;refine zaa ?_;unfold zb7;refine zaa (zaC hz rfl (x:=.none) rfl (zac ?_));simp only[if_true];refine zaa (zbV (zaa (zaC hz rfl (x:=.ref TO) rfl (zaa (zaW hz (by simp) λha ad sa=>?_)))));replace ad:IsZip ha z TI TO .ellipsis:=ad;refine zaa ?_;simp only[zej,zek,zdy,zel];refine zaa (zaa (zb8 ?_));show wpAny _ _ (zbx (.ref M) >>= _) _ _ {s with heap:=ha};have ea:=sa.extBut;refine zaa (next_item (t:=t1) (xs:=xs) (h1.to λo e=>ea _ _ a1 e) (bl.to λo e=>ea _ _ m1 e) hx λhb bc sb=>zac ?_);have eb:=sb.extBut;have U:cT hb TO a b c:=eb _ _ O2 (ea _ _ O1 bo);refine zaa (za5 U rfl (zaa (cU U λhc G sc=>?_)));replace G:cT hc TO x b c:=G;have ec:=sc.extBut;refine zaa (zbw (zac ?_));refine zaa (zaa (zb8 ?_));show wpAny _ _ (zbx (.ref N) >>= _) _ _ {s with heap:=hc};refine zaa (next_item (t:=t2) (xs:=ys) (h2.to λo e=>ec _ _ O3.symm (eb _ _ a2.symm (ea _ _ b1 e))) (bh.to λo e=>ec _ _ n2 (eb _ _ n3 (ea _ _ n1 e))) hy λhd bt sd=>zac ?_);have ed:=sd.extBut;have W:cT hd TO x b c:=ed _ _ O3 G;refine zaa (za5 W rfl (zaa (cU W λhe F se=>?_)));replace F:cT he TO x y c:=F;have ee:=se.extBut;refine zaa (zbw (zac ?_));refine zaa (zaa (zb8 ?_));show wpAny _ _ (zbx (.ref Y) >>= _) _ _ {s with heap:=he};refine zaa (next_item (t:=t3) (xs:=ws) (h3.to λo e=>ee _ _ O4.symm (ed _ _ b2.symm (ec _ _ O4.symm (eb _ _ a3.symm (ea _ _ c1 e))))) (a6.to λo e=>ee _ _ p2 (ed _ _ p4 (ec _ _ p2 (eb _ _ p3 (ea _ _ p1 e))))) hu λhj bi sj=>zac ?_);have ej:=sj.extBut;have aa:cT hj TO x y c:=ej _ _ O4 F;refine zaa (za5 aa rfl (zaa (cU aa λq B sf=>?_)));replace B:cT q TO x y u:=B;have ef:=sf.extBut;refine zaa (zbw (zac (zac ?_)));refine zaa (za5 B rfl (zaa (zc6 ?_)));have hsz:q.objs.size=s.heap.objs.size:=by rw[sf.1,sj.1,se.1,sd.1,sc.1,sb.1,sa.1]
 have ab:IsZip q z TI TO .ellipsis:=ef _ _ O1.symm (ej _ _ c1.symm (ee _ _ O1.symm (ed _ _ b1.symm (ec _ _ O1.symm (eb _ _ a1.symm ad)))));have bn:∀c o,c≠z->c≠TO->c≠M->c≠N->c≠Y->s.heap.get? c=some o->q.get? c=some o:=λc o q1 q2 q3 q4 q5 e=>ef _ _ q2 (ej _ _ q5 (ee _ _ q2 (ed _ _ q4 (ec _ _ q2 (eb _ _ q3 (ea _ _ q1 e))))))
 have be:SIt t1 q M l1 (k+1):=bc.to λo e=>ef _ _ O2.symm (ej _ _ a3 (ee _ _ O2.symm (ed _ _ a2 (ec _ _ O2.symm e))))
 have bg:SIt t2 q N l2 (k+1):=bt.to λo e=>ef _ _ O3.symm (ej _ _ b2 (ee _ _ O3.symm e))
 have bp:SIt t3 q Y l3 (k+1):=bi.to λo e=>ef _ _ O4.symm e
 have ao:z<q.objs.size:=zai ab;show wpAny _ _ (zc9 (.ref z) (.ref q.objs.size) >>= _) _ _ _;refine zaa ?_;unfold zc9;have bm:IsZip (q.push {cls:=.type "tuple",data:=.seq #[x,y,u]}) z TI TO .ellipsis:=zag _ ab;refine zaa (zaW bm (by simp) λhg af sg=>?_);replace af:IsZip hg z TI TO (zaO q.objs.size):=af;refine zaW af (by simp) λhi J si=>?_;replace J:IsZip hi z TI TO (zaO q.objs.size):=J
 have up:∀c o,c≠z->q.get? c=some o->hi.get? c=some o:=λc o c1 e=>si.extBut _ _ c1 (sg.extBut _ _ c1 (zag _ e))
 have am:cT hi q.objs.size x y u:=si.extBut _ _ (zaG ao) (sg.extBut _ _ (zaG ao) (zat _ rfl));have al:hi.objs.size=q.objs.size+1:=by rw[si.1,sg.1,zbl]
 rw[hsz]at J am al;refine zac ⟨_,rfl,zac ?_⟩;show Q (some (.ref q.objs.size)) _;rw[hsz];exact hQ hi J (up _ _ O1 B) (be.to λo e=>up _ o a1 e) (bg.to λo e=>up _ o b1 e) (bp.to λo e=>up _ o c1 e) am al λc o q1 q2 q3 q4 q5 e=>up c o q1 (bn c o q1 q2 q3 q4 q5 e)
theorem FY{t1 t2 t3:Bool}{z TI TO i1 i2 i3 l1 l2 l3:Addr}{k:Nat}{xs ys ws:Array Value}{a b c:Value}{Q:Option Value->zab->Prop}(hh:A.handled=none)(D:ZB z TI TO i1 i2 i3 l1 l2 l3)
  (hz:IsZip s.heap z TI TO .none) (bi:cT s.heap TI (.ref i1) (.ref i2) (.ref i3)) (bj:cT s.heap TO a b c) (h1:SIt t1 s.heap i1 l1 k) (h2:SIt t2 s.heap i2 l2 k) (h3:SIt t3 s.heap i3 l3 k) (an:SSq t1 s.heap l1 xs) (am:SSq t2 s.heap l2 ys) (a5:SSq t3 s.heap l3 ws) (G:xs[k]?=none\/ys[k]?=none\/ws[k]?=none)
  (hQ:∀h',(∀c o,c≠z->c≠TO->c≠i1->c≠i2->c≠i3->s.heap.get? c=some o->h'.get? c=some o)->Q none {s with heap:=h'}):wpAny (model prog w) A (zaH (.ref z)) Q E s:=by
 have hT:s.TypeIs (.ref z) "zip" := ⟨_,hz,rfl⟩;obtain⟨T1,T2,T3,T4,T5⟩:=D.zT;obtain⟨O1,O2,O3,O4⟩:=D.zO;obtain⟨a1,a2,a3⟩:=D.z1;obtain⟨b1,b2⟩:=D.z2;have c1:=D.z3;obtain⟨m1,m2,m3,m4,m5⟩:=D.l1;obtain⟨n1,n2,n3,n4,n5⟩:=D.l2;obtain⟨p1,p2,p3,p4,p5⟩:=D.l3;have fin:∀(h':Heap) (e:Addr),(∀c o,c≠z->c≠TO->c≠i1->c≠i2->c≠i3->s.heap.get? c=some o->h'.get? c=some o)->(∃o,h'.get? e=some o/\o.cls=.type "StopIteration")->wpAny (model prog w) A (do if <- isInstance (.ref e) (.type "StopIteration")then pure none else throw (.ref e)) Q E {s with heap:=h'}:=λh' e hk he=>by
  obtain⟨o,ho,hc⟩:=he;refine zaa (zc5 (T := "StopIteration") (b:=true) ⟨o,ho,hc⟩ zdu ?_);exact zac (hQ _ hk)
 unfold zaH;refine zaa (zb4 (zbv (name:=zaY "__next__") hT zcx (zbb zcx hT zeh ?_ (zei _))));show wpAny _ _ (field (.ref z) 2 >>= _) _ _ s;refine zaa (zaC hz rfl (x:=.bool false) rfl ?_);show wpAny _ _ (field (.ref z) 3 >>= _) _ _ s;refine zaa (zaC hz rfl (x:=.ref TI) rfl (zaa (za5 bi rfl ?_)));show wpAny _ _ (zb7 (.ref z) >>= _) _ _ s;refine zaa ?_;unfold zb7;refine zaa (zaC hz rfl (x:=.none) rfl (zac ?_));simp only[if_true];refine zaa (zbV (zaa (zaC hz rfl (x:=.ref TO) rfl (zaa (zaW hz (by simp) λha N sa=>?_)))));replace N:IsZip ha z TI TO .ellipsis:=N;refine zaa ?_;simp only[zej,zek,zdy,zel];refine zaa (zaa (zb8 ?_));show wpAny _ _ (zbx (.ref i1) >>= _) _ _ {s with heap:=ha};have ea:=sa.extBut;cases hx:xs[k]? with
 | none=>
  refine zaa (next_end (t:=t1) (xs:=xs) hh (h1.to λo e=>ea _ _ a1 e) (an.to λo e=>ea _ _ m1 e) hx λhb e sb he=>?_);obtain⟨oe,B,F⟩:=he;have al:IsZip hb z TI TO .ellipsis:=sb _ _ a1.symm N;have M:e≠z:=λq=>by subst q;rw[al]at B;cases B;simp at F
  exact zaW al (by simp) λhc _ sc=>fin hc e (λc o q1 _ q3 _ _ q=>sc.extBut _ _ q1 (sb _ _ q3 (ea _ _ q1 q))) ⟨oe,sc.extBut _ _ M B,F⟩
 | some x=>
  have G:ys[k]?=none\/ws[k]?=none:=by rcases G with h|h;rw[hx]at h;cases h;exact h
  refine zaa (next_item (t:=t1) (xs:=xs) (h1.to λo e=>ea _ _ a1 e) (an.to λo e=>ea _ _ m1 e) hx λhb b4 sb=>zac ?_);have J:=sb.extBut;have Y:cT hb TO a b c:=J _ _ O2 (ea _ _ O1 bj);refine zaa (za5 Y rfl (zaa (cU Y λhc U sc=>?_)));replace U:cT hc TO x b c:=U;have W:=sc.extBut;refine zaa (zbw (zac ?_));refine zaa (zaa (zb8 ?_));show wpAny _ _ (zbx (.ref i2) >>= _) _ _ {s with heap:=hc};cases hy:ys[k]? with
  | none=>
   refine zaa (next_end (t:=t2) (xs:=ys) hh (h2.to λo e=>W _ _ O3.symm (J _ _ a2.symm (ea _ _ b1 e))) (am.to λo e=>W _ _ n2 (J _ _ n3 (ea _ _ n1 e))) hy λhd e sd he=>?_);obtain⟨oe,B,F⟩:=he;have aq:IsZip hd z TI TO .ellipsis:=sd _ _ b1.symm (W _ _ O1.symm (J _ _ a1.symm N));have M:e≠z:=λq=>by subst q;rw[aq]at B;cases B;simp at F
   exact zaW aq (by simp) λhf _ sf=>fin hf e (λc o q1 q2 q3 q4 q5 q=>sf.extBut _ _ q1 (sd _ _ q4 (W _ _ q2 (J _ _ q3 (ea _ _ q1 q))))) ⟨oe,sf.extBut _ _ M B,F⟩
  | some y=>
   have hu:ws[k]?=none:=by rcases G with h|h;rw[hy]at h;cases h;exact h
   refine zaa (next_item (t:=t2) (xs:=ys) (h2.to λo e=>W _ _ O3.symm (J _ _ a2.symm (ea _ _ b1 e))) (am.to λo e=>W _ _ n2 (J _ _ n3 (ea _ _ n1 e))) hy λhd cj sd=>zac ?_);have ed:=sd.extBut;have aa:cT hd TO x b c:=ed _ _ O3 U;refine zaa (za5 aa rfl (zaa (cU aa λhe br se=>?_)));have ee:=se.extBut;refine zaa (zbw (zac ?_));refine zaa (zaa (zb8 ?_));show wpAny _ _ (zbx (.ref i3) >>= _) _ _ {s with heap:=he};refine zaa (next_end (t:=t3) (xs:=ws) hh (h3.to λo e=>ee _ _ O4.symm (ed _ _ b2.symm (W _ _ O4.symm (J _ _ a3.symm (ea _ _ c1 e))))) (a5.to λo e=>ee _ _ p2 (ed _ _ p4 (W _ _ p2 (J _ _ p3 (ea _ _ p1 e))))) hu λhj e sj a4=>?_);obtain⟨oe,B,F⟩:=a4;have ao:IsZip hj z TI TO .ellipsis:=sj _ _ c1.symm (ee _ _ O1.symm (ed _ _ b1.symm (W _ _ O1.symm (J _ _ a1.symm N))));have M:e≠z:=λq=>by subst q;rw[ao]at B;cases B;simp at F
   exact zaW ao (by simp) λhf _ sf=>fin hf e (λc o q1 q2 q3 q4 q5 q=>sf.extBut _ _ q1 (sj _ _ q5 (ee _ _ q2 (ed _ _ q4 (W _ _ q2 (J _ _ q3 (ea _ _ q1 q))))))) ⟨oe,sf.extBut _ _ M B,F⟩
abbrev VH(t1 t2 t3:Bool)(h:Heap)(l1 l2 l3:Addr):Heap:=(GP t1 t2 h l1 l2).push (nR t3 l3)
abbrev YK(t1 t2:Bool)(h:Heap)(l1 l2:Addr):Obj:={cls:=.type "tuple",data:=.seq #[.ref h.objs.size,.ref (h.push (nR t1 l1)).objs.size,.ref (GP t1 t2 h l1 l2).objs.size]}
abbrev YR(t1 t2 t3:Bool)(h:Heap)(l1 l2 l3:Addr):Heap:=((VH t1 t2 t3 h l1 l2 l3).push (YK t1 t2 h l1 l2)).push {cls:=.type "tuple",data:=.seq #[.none,.none,.none]}
abbrev VL(t1 t2 t3:Bool)(h:Heap)(l1 l2 l3:Addr):Heap:=(YR t1 t2 t3 h l1 l2 l3).push {cls:=.type "zip",data:=.fields #[.none,.bool false,.bool false,.ref (VH t1 t2 t3 h l1 l2 l3).objs.size,.ref ((VH t1 t2 t3 h l1 l2 l3).push (YK t1 t2 h l1 l2)).objs.size]}
theorem qW(q:SSq t s.heap l xs)(z:Q (.ref s.heap.objs.size) {s with heap:=s.heap.push (nR t l)}):wpAny (model prog w) A (pyIter (.ref l)) Q E s:=by
 cases t with
 | false=>exact zcc (show s.heap.IsList l xs from q) z
 | true=>exact zbQ (show s.heap.IsTuple l xs from q) z
theorem JC(z F J:Bool)(q B G:Addr)(xs ys ws:Array Value):Meets (zbi.«zip.__new__» ⟨[.type "zip",.ref q,.ref B,.ref G],[]⟩) (λ_ R s=>SSq z s.heap q xs/\SSq F s.heap B ys/\SSq J s.heap G ws/\R (.ok (.ret (.ref (YR z F J s.heap q B G).objs.size))) {s with heap:=VL z F J s.heap q B G}):=
 .of_wp λprog w A R s h=>by
  obtain⟨hp,g,d,tk,os⟩:=s;obtain⟨ab,N,U,h⟩:=h;have ad:=sub_zip;have M:SSq z (zbN ⟨hp,g,d,tk,os⟩) q xs:=ab;have Y:SSq F (zbN ⟨hp.push (nR z q),g,d,tk,os⟩) B ys:=N.to λo e=>zag _ e
  have W:SSq J (zbN ⟨(hp.push (nR z q)).push (nR F B),g,d,tk,os⟩) G ws:=U.to λo e=>zag _ (zag _ e)
  wp_walk using qW M,qW Y,qW W
  exact⟨_,rfl,h⟩
theorem oR(a b c:Value):checkTypeCall "zip" ⟨[a,b,c],[]⟩=pure ():=by kernel_rfl
theorem sP(a b c:Value):checkBuiltinCall "zip.__new__" ⟨[.type "zip",a,b,c],[]⟩=pure ():=by kernel_rfl
theorem jK(a b c d:Value):argsOk "object.__init__" ⟨[a,b,c,d],[]⟩:=by
 unfold argsOk;rw[signature?_of (id := "object.__init__") (n:=['_','_','t','i','n','i','_','_']) (o:=['t','c','e','j','b','o']) (by kernel_rfl) F.owner_object];kernel_rfl
theorem FN(U:SSq t1 s.heap l1 xs)(J:SSq t2 s.heap l2 ys)(B:SSq t3 s.heap l3 ws)
  (h:∀h', IsZip h' (s.heap.objs.size+5) (s.heap.objs.size+3) (s.heap.objs.size+4) .none -> cT h' (s.heap.objs.size+3) (.ref s.heap.objs.size) (.ref (s.heap.objs.size+1)) (.ref (s.heap.objs.size+2)) -> cT h' (s.heap.objs.size+4) .none .none .none ->
   SIt t1 h' s.heap.objs.size l1 0->SIt t2 h' (s.heap.objs.size+1) l2 0->SIt t3 h' (s.heap.objs.size+2) l3 0->(∀c o,s.heap.get? c=some o->h'.get? c=some o)->Q (.ref (s.heap.objs.size+5)) {s with heap:=h'}):wpAny (model prog w) A (call (.type "zip") [.ref l1,.ref l2,.ref l3]) Q E s:=by
 refine zen F.called_zip (by decide) (oR _ _ _) (sP _ _ _) (λN=>jK N _ _ _) F.entry_zip_new (JC t1 t2 t3 l1 l2 l3 xs ys ws) ⟨U,J,B,?_⟩;have W:(s.heap.push (nR t1 l1)).objs.size=s.heap.objs.size+1:=zbl ..;have z:(GP t1 t2 s.heap l1 l2).objs.size=s.heap.objs.size+2:=by rw[zbl,W]
 have M:(VH t1 t2 t3 s.heap l1 l2 l3).objs.size=s.heap.objs.size+3:=by rw[zbl,z]
 have q:((VH t1 t2 t3 s.heap l1 l2 l3).push (YK t1 t2 s.heap l1 l2)).objs.size=s.heap.objs.size+4:=by rw[zbl,M]
 have n5:(YR t1 t2 t3 s.heap l1 l2 l3).objs.size=s.heap.objs.size+5:=by rw[zbl,q]
 have G:(VL t1 t2 t3 s.heap l1 l2 l3).get? (YR t1 t2 t3 s.heap l1 l2 l3).objs.size=some _:=zat _ rfl;have g5:(VL t1 t2 t3 s.heap l1 l2 l3).get? ((VH t1 t2 t3 s.heap l1 l2 l3).push (YK t1 t2 s.heap l1 l2)).objs.size=some _:=zag _ (zat _ rfl);have g4:(VL t1 t2 t3 s.heap l1 l2 l3).get? (VH t1 t2 t3 s.heap l1 l2 l3).objs.size=some {cls:=.type "tuple",data:=.seq #[.ref s.heap.objs.size,.ref (s.heap.push (nR t1 l1)).objs.size,.ref (GP t1 t2 s.heap l1 l2).objs.size]}:=zag _ (zag _ (zat _ rfl));have Y:(VL t1 t2 t3 s.heap l1 l2 l3).get? (GP t1 t2 s.heap l1 l2).objs.size=some (nR t3 l3):=zag _ (zag _ (zag _ (zat _ rfl)));have g2:(VL t1 t2 t3 s.heap l1 l2 l3).get? (s.heap.push (nR t1 l1)).objs.size=some (nR t2 l2):=zag _ (zag _ (zag _ (zag _ (zat _ rfl))));have g1:(VL t1 t2 t3 s.heap l1 l2 l3).get? s.heap.objs.size=some (nR t1 l1):=zag _ (zag _ (zag _ (zag _ (zag _ (zat _ rfl)))));show _/\_;rw[M,q,n5]at G;rw[W,z,M]at g4;rw[q]at g5;rw[z]at Y;rw[W]at g2;rw[n5];exact⟨⟨_,G,rfl⟩,h _ G g4 g5 ⟨_,g1,rfl,rfl⟩ ⟨_,g2,rfl,rfl⟩ ⟨_,Y,rfl,rfl⟩ λc o x=>zag _ (zag _ (zag _ (zag _ (zag _ (zag _ x)))))⟩
end
def ItY(K:zaf)(z J F:Bool)(B G M:Addr):It:=
 ⟨λi H => ∃xs ys q, lO K z H B xs /\ lO K J H G ys /\ lO K F H M q /\ i<xs.length /\ i<ys.length /\ i<q.length, λi H x H' => ∃p u v r, x = .ref p /\ H p = none /\ H' = upd H p (.tup [u, v, r]) /\ ∀xs ys q, lO K z H B xs -> lO K J H G ys -> lO K F H M q -> xs[i]? = some u /\ ys[i]? = some v /\ q[i]? = some r,
  λi H=>∃xs ys q,lO K z H B xs/\lO K J H G ys/\lO K F H M q/\(xs.length<=i\/ys.length<=i\/q.length<=i)⟩
theorem FO{P:zap}{w:World}{K:zaf}{aj:List Expr}{x1}{tp:Pos}(t1 t2 t3:Bool){z TI TO M N U l1 l2 l3:Addr}(D:ZB z TI TO M N U l1 l2 l3) :
  Turn P w K (.Tuple aj x1 tp) (ItY K t1 t2 t3 l1 l2 l3) [z,TI,TO,M,N,U] z (λi h=>IsZip h z TI TO .none/\cT h TI (.ref M) (.ref N) (.ref U)/\(∃a b c,cT h TO a b c)/\SIt t1 h M l1 i/\SIt t2 h N l2 i/\SIt t3 h U l3 i) where
 mem:=by simp
 obj:=by
  rintro i h ⟨hz,G,⟨a,b,c0,J⟩,⟨o1,e1,_,d1⟩,⟨o2,e2,_,d2⟩,⟨o3,e3,_,d3⟩⟩ c B;simp only[zaE,zaF,or_false]at B;rcases B with rfl|rfl|rfl|rfl|rfl|rfl
  ·exact⟨_,hz,λv q=>by cases q⟩
  ·exact⟨_,G,λv q=>by cases q⟩
  ·exact⟨_,J,λv q=>by cases q⟩
  ·exact⟨o1,e1,λv q=>by rw[d1]at q;cases q⟩
  ·exact⟨o2,e2,λv q=>by rw[d2]at q;cases q⟩
  ·exact⟨o3,e3,λv q=>by rw[d3]at q;cases q⟩
 keep:=λi h h' ⟨hz,G,⟨a,b,c,J⟩,s1,s2,s3⟩ k=>⟨k z (by simp) _ hz,k TI (by simp) _ G,⟨a,b,c,k TO (by simp) _ J⟩,s1.to λo e=>k M (by simp) o e,s2.to λo e=>k N (by simp) o e,s3.to λo e=>k U (by simp) o e⟩
 item:=by
  intro X hP hw hK B i pins s σ H E I hf st hg;subst hP hw hK;obtain⟨hz,G,⟨a,b,c0,J⟩,s1,s2,s3⟩:=st;obtain⟨xs,ys,ws,q1,q2,q3,ay,bc,bb⟩:=hg;obtain⟨af,r1,p1⟩:=cJ I q1;obtain⟨ai,r2,p2⟩:=cJ I q2;obtain⟨ak,r3,p3⟩:=cJ I q3;have e1:xs[i]?=some xs[i]:=by simp[ay]
  have e2:ys[i]?=some ys[i]:=by simp[bc]
  have e3:ws[i]?=some ws[i]:=by simp[bb]
  obtain⟨u,eu,ru⟩:=r1.get e1;obtain⟨v,ev,rv⟩:=r2.get e2;obtain⟨r,er,rr⟩:=r3.get e3;refine FB D hz G J s1 s2 s3 p1 p2 p3 (x:=u) (y:=v) (u:=r) (by simpa using eu) (by simpa using ev) (by simpa using er) λh' a1 a2 a3 a4 bi a5 a6 hk=>⟨_,rfl,?_⟩
  refine wpAny_letOwnedTupleGo_zip (s:={s with heap:=h'}) a1 λh2 au sb=>?_
  have zz:∀c,c∈[z,TI,TO,M,N,U]->c<s.heap.objs.size:=λc B=>by
   simp only[zaE,zaF,or_false]at B;rcases B with rfl|rfl|rfl|rfl|rfl|rfl
   ·exact zai hz
   ·exact zai G
   ·exact zai J
   ·obtain⟨o,e,_⟩:=s1;exact zai e
   ·obtain⟨o,e,_⟩:=s2;exact zai e
   ·obtain⟨o,e,_⟩:=s3;exact zai e
  have W:∀c o,c≠z->h'.get? c=some o->h2.get? c=some o:=λc o B e=>sb.extBut _ _ B e
  have kp:∀c o,c∉[z,TI,TO,M,N,U]->s.heap.get? c=some o->h2.get? c=some o:=λc o B e=>by
   simp only[zaE,zaF,or_false,not_or]at B;exact W c o B.1 (hk c o B.1 B.2.2.1 B.2.2.2.1 B.2.2.2.2.1 B.2.2.2.2.2 e)
  have I1:Inv X pins σ H {s with heap:=h2,toks:=s.toks}:=dE I hf kp;have F:H s.heap.objs.size=none:=I.fresh;have bh:cT h2 s.heap.objs.size u v r:=W _ _ (zaG (zz z (by simp))) a5;have I2:Inv X pins σ (upd H s.heap.objs.size (.tup [xs[i],ys[i],ws[i]])) {s with heap:=h2}:=by
   have bm:HOk X.prog X.w (upd H s.heap.objs.size (.tup [xs[i],ys[i],ws[i]])) h2:=λc ob e=>by
    by_cases B:c=s.heap.objs.size
    ·subst B;rw[aJ]at e;cases e
     exact⟨by show 3<=zaj;decide,[u,v,r],.cons ru (.cons rv (.cons rr .nil)),_,bh,rfl,0,rfl,rfl⟩
    ·rw[aE B]at e
     exact(I1.hok c ob e).stay (λ_ _ _ q=>q) (λd q=>by rw[aE (aR q F)];exact q) λd ah q=>by rw[aE (aR q F)];exact q
   refine I.call' (s':={s with heap:=h2}) (ch:=[z,TI,TO,M,N,U]) rfl ⟨λc o e _ _ Y=>kp c o Y e,λc o e _ _ Y=>⟨o.slots,kp c o Y e⟩,λc o e n Y=>by rw[aE (zaz (zai e))];exact n,λc o e Y=>⟨o,kp c o Y e⟩,λc ah q=>by rw[aE (aR q F)];exact q,λc o' u' q=>by rw[aE (aR q F)];exact q,λc ps q=>⟨#[],by rw[aE (aR q F),q];simp⟩⟩ bm I.bare λb hb=>?_
   obtain⟨_,f1,_,f3,f4,f5⟩:=hf b hb;exact⟨f3,f1,f4,f5⟩
  refine⟨.ref s.heap.objs.size,_,I2,rfl,⟨_,_,_,_,rfl,F,rfl,λbt ah b1 g1 g2 g3=>by rw[<- iX I q1 g1,<- iX I q2 g2,<- iX I q3 g3];exact⟨e1,e2,e3⟩⟩,⟨au,W _ _ D.zT.1 (hk _ _ D.zT.1 D.zT.2.1 D.zT.2.2.1 D.zT.2.2.2.1 D.zT.2.2.2.2 G),⟨_,_,_,W _ _ D.zO.1 a2⟩,a3.to λo e=>W _ o D.z1.1 e,a4.to λo e=>W _ o D.z2.1 e,bi.to λo e=>W _ o D.z3 e⟩,λc B=>?_⟩;rw[aE (zaz (zz c B))];exact(hf c B).1
 done:=by
  intro X hP hw hK B i pins s σ H E I hf st hg;subst hP hw hK;obtain⟨hz,G,⟨a,b,c0,J⟩,s1,s2,s3⟩:=st;obtain⟨xs,ys,ws,q1,q2,q3,ad⟩:=hg;obtain⟨af,r1,p1⟩:=cJ I q1;obtain⟨ai,r2,p2⟩:=cJ I q2;obtain⟨ak,r3,p3⟩:=cJ I q3;have n1:=r1.length;have n2:=r2.length;have n3:=r3.length;refine FY (I.ok.hd B) D hz G J s1 s2 s3 p1 p2 p3 (ad.imp (λh=>by simp;lia) λh=>h.imp (λh=>by simp;lia) λh=>by simp;lia) λh' hk=>⟨rfl,dE (t':=s.toks) I hf λc o B e=>?_⟩
  simp only[zaE,zaF,or_false,not_or]at B;exact hk c o B.1 B.2.2.1 B.2.2.2.1 B.2.2.2.2.1 B.2.2.2.2.2 e
 self:=λ_ _ _ _ _ st h=>zeo st.1 h
theorem WE(n z B F:Nat)(h1:z<n)(h2:B<n)(G:F<n):ZB (n+5) (n+3) (n+4) n (n+1) (n+2) z B F:=by
 have ne:∀ {a b:Nat},a<b->(a:Nat)≠b:=λh=>zaz h
 have q:∀ {a b:Nat},b<a->(a:Nat)≠b:=λh=>zaG h
 exact⟨⟨ne (by lia),ne (by lia),q (by lia),q (by lia),q (by lia)⟩,⟨ne (by lia),q (by lia),q (by lia),q (by lia)⟩,⟨ne (by lia),ne (by lia),ne (by lia)⟩,⟨ne (by lia),ne (by lia)⟩,ne (by lia),⟨ne (by lia),ne (by lia),ne (by lia),ne (by lia),ne (by lia)⟩,⟨ne (by lia),ne (by lia),ne (by lia),ne (by lia),ne (by lia)⟩,⟨ne (by lia),ne (by lia),ne (by lia),ne (by lia),ne (by lia)⟩⟩
theorem vals3(r:Vals [x,y,z] us):∃u w v,us=[u,w,v]/\RelV x u/\RelV y w/\RelV z v:=by
 cases r with
 | cons r1 r2=>obtain⟨u,w,rfl,a,b⟩:=vals2 r2;exact⟨_,_,_,rfl,r1,a,b⟩
def V3(K:zaf)(ta:TA):TI:=λσ H R=>ta σ H λvs H1=>∃F J G q z B xs ys M,vs=[.ref q,.ref z,.ref B]/\lO K F H1 q xs/\lO K J H1 z ys/\lO K G H1 B M/\R (ItY K F J G q z B) H1
theorem MS{G:List Expr}{x1}(hg:Gl X "zip")(hm:X.mg "zip" = none)(ha:PA X [a,b,c] ta)(hs:zah [a,b,c] X.env=[(false,eval a X.env),(false,eval b X.env),(false,eval c X.env)]:=by rfl)(F:zah [b,c] X.env=[(false,eval b X.env),(false,eval c X.env)]:=by rfl) :
  PI X (.Tuple G x1 tp) (.Call (.Name "zip" p) [a,b,c] [] pos) (V3 X.K ta):=by
 intro pins s σ H R I h;refine Call_ (fL I hg hm My.boot_zip (zcC (bN (ha pos pins s σ H _ I h) λus z ⟨vs,H1,B,r1,W⟩=>?_) (by rw[hs,F]) (by rw[F];rfl)));obtain⟨t1,t2,t3,l1,l2,l3,xs,ys,ws,rfl,W,q2,q3,q⟩:=W;obtain⟨u,v,r,rfl,ru,rv,rr⟩:=vals3 r1;cases ru;cases rv;cases rr;obtain⟨ag,_,p1⟩:=cJ B W;obtain⟨ab,_,p2⟩:=cJ B q2;obtain⟨ae,_,p3⟩:=cJ B q3;have b1:l1<z.heap.objs.size:=by obtain⟨o,e,_⟩:=p1;exact zai e
 have b2:l2<z.heap.objs.size:=by obtain⟨o,e,_⟩:=p2;exact zai e
 have b3:l3<z.heap.objs.size:=by obtain⟨o,e,_⟩:=p3;exact zai e
 refine FN p1 p2 p3 λh' hz aa N Y M U k=>?_
 refine zeo hz ?_;have D:ZB (z.heap.objs.size+5) (z.heap.objs.size+3) (z.heap.objs.size+4) z.heap.objs.size (z.heap.objs.size+1) (z.heap.objs.size+2) l1 l2 l3:=WE _ _ _ _ b1 b2 b3;refine⟨_,[_,_,_,_,_,_],_,_,H1,rfl,B.kept (t':=z.toks) k,FO t1 t2 t3 D,⟨hz,aa,⟨_,_,_,N⟩,Y,M,U⟩,λc J=>B.fpOk ?_ (B.hok.fresh ?_),q⟩
 ·simp only[zaE,zaF,or_false]at J
  rcases J with rfl|rfl|rfl|rfl|rfl|rfl <;> lia
 ·simp only[zaE,zaF,or_false]at J
  rcases J with rfl|rfl|rfl|rfl|rfl|rfl <;> lia
end My
namespace P
open PySem PySem.Spec PyProof.Rows L2
noncomputable def fA:List D->List D->List D->List D
 | x::xs,y::ys,z::zs=>.tup [x,y,z]::fA xs ys zs
 | _,_,_=>[]
def P2(f:Lv):Lv:=λρ=>(f ρ).bind λds=>match ds with
 | [a,b,c]=>(cP a).bind λxs=>(cP b).bind λys=>(cP c).map λzs=>fA xs ys zs
 | _=>none
@[simp] theorem q_zip3:P2 f ρ=(f ρ).bind λds=>match ds with
 | [a,b,c]=>(cP a).bind λxs=>(cP b).bind λys=>(cP c).map λzs=>fA xs ys zs
 | _=>none:=rfl
theorem tH:∀ {xs ys zs:List D} {i:Nat} {d:D},(fA xs ys zs)[i]?=some d->∃x y z,xs[i]?=some x/\ys[i]?=some y/\zs[i]?=some z/\d=.tup [x,y,z]
 | [],_,_,i,d,h=>by simp[fA]at h
 | _::_,[],_,i,d,h=>by simp[fA]at h
 | _::_,_::_,[],i,d,h=>by simp[fA]at h
 | x::xs,y::ys,z::zs,0,d,h=>by simp[fA]at h;exact⟨x,y,z,rfl,rfl,rfl,h.symm⟩
 | x::xs,y::ys,z::zs,i+1,d,h=>tH (xs:=xs) (ys:=ys) (zs:=zs) (i:=i) (by simpa[fA]using h)
theorem tO:∀ {xs ys zs:List D} {i:Nat},(fA xs ys zs).length<=i->xs.length<=i\/ys.length<=i\/zs.length<=i
 | [],_,_,i,h=>.inl (zaZ _)
 | _::_,[],_,i,h=>.inr (.inl (zaZ _))
 | _::_,_::_,[],i,h=>.inr (.inr (zaZ _))
 | x::xs,y::ys,z::zs,0,h=>by simp[fA]at h
 | x::xs,y::ys,z::zs,i+1,h=>(tO (xs:=xs) (ys:=ys) (zs:=zs) (i:=i) (by simpa[fA]using h)).imp (λz=>by simpa using z) λz=>z.imp (λz=>by simpa using z) λz=>by simpa using z
theorem HZ{x1}(hg:Gl X "zip")(hm:X.mg "zip" = none)(ha:zX X O [a,b,c] f)(hs:zah [a,b,c] X.env=[(false,eval a X.env),(false,eval b X.env),(false,eval c X.env)]:=by rfl)(aa:zah [b,c] X.env=[(false,eval b X.env),(false,eval c X.env)]:=by rfl) :
  PDI X O (.Tuple elts x1 tp) (.Call (.Name "zip" p) [a,b,c] [] pos) (P2 f):=PI.mono (My.MS hg hm ha hs aa) λσ H R ⟨H0,A0,A,E,ρ,items,st,e,q⟩=>by
 obtain⟨ds,e1,e⟩:=bind_some e;refine⟨H0,A0,A,E,ρ,ds,st,e1,λvs H1 x1 r1=>?_⟩;split at e
 case h_2=>cases e
 rename_i da db dc;obtain⟨xs,e2,e⟩:=bind_some e;obtain⟨ys,e3,e⟩:=bind_some e;obtain⟨zs,e4,rfl⟩:=map_some e;obtain⟨v,w,u,rfl,r2,r3,r4⟩:=r1.three;obtain⟨t1,U,us,rfl,q1,_,k1⟩:=iY (K:=X.K) e2 r2;obtain⟨t2,Y,ws,rfl,q2,_,k2⟩:=iY (K:=X.K) e3 r3;obtain⟨t3,W,os,rfl,q3,_,k3⟩:=iY (K:=X.K) e4 r4;refine⟨t1,t2,t3,U,Y,W,us,ws,os,rfl,q1,q2,q3,q _ H1 [.rep da (.ref U),.rep db (.ref Y),.rep dc (.ref W)] x1 (λp hp=>?_) ?_⟩
 ·rcases List.mem_cons.mp hp with z|z
  ·rw[z];exact r2
  ·rcases List.mem_cons.mp z with z|z
   ·rw[z];exact r3
   ·rw[List.mem_singleton.mp z];exact r4
 ·intro A' H' lv hE i
  have a1:Rep A' H' da (.ref U):=hE (.rep da (.ref U)) (zau ..);have a2:Rep A' H' db (.ref Y):=hE (.rep db (.ref Y)) (zav _ (zau ..));have a3:Rep A' H' dc (.ref W):=hE (.rep dc (.ref W)) (zav _ (zav _ (zau ..)));obtain⟨F,g1,M⟩:=k1 A' H' a1;obtain⟨B,g2,J⟩:=k2 A' H' a2;obtain⟨G,g3,N⟩:=k3 A' H' a3;refine⟨λhi=>⟨F,B,G,g1,g2,g3,(tO hi).imp (λz=>by rw[M.length];exact z) λz=>z.imp (λz=>by rw[J.length];exact z) λz=>by rw[N.length];exact z⟩,λd hd=>?_⟩;obtain⟨x,y,z,ex,ey,ez,rfl⟩:=tH hd;obtain⟨u,eu,ru⟩:=M.get' ex;obtain⟨w,ew,ae⟩:=J.get' ey;obtain⟨o,eo,ro⟩:=N.get' ez;refine⟨⟨F,B,G,g1,g2,g3,(List.getElem?_eq_some_iff.mp eu).1,(List.getElem?_eq_some_iff.mp ew).1,(List.getElem?_eq_some_iff.mp eo).1⟩,λx' H2 ⟨p,u',w',o',e4,n,e5,e6⟩=>?_⟩;subst e4 e5;obtain⟨z1,z2,z3⟩:=e6 F B G g1 g2 g3;rw[eu]at z1;cases z1;rw[ew]at z2;cases z2;rw[eo]at z3;cases z3;exact⟨Ext.new n,.tup aJ (.cons (ru.ext (Ext.new n)) (.cons (ae.ext (Ext.new n)) (.cons (ro.ext (Ext.new n)) .nil)))⟩
def Fe(K:zaf)(x:Str)(st:Stmt)(f:Addr):Prop:=∃fd,Fun K x x st f fd
theorem Fe.mk{K:zaf}{x:Str}{st:Stmt}{f:Addr}{G:Value}{od J:Option Addr}{B:Array (Option Value)}{kV z F q ct:Value}(l:K.lookup f=some ⟨G,od,.func (zbI x x (dP st) (b9 st) (aU st) .none kV z F J q ct),B⟩)(c:zcV K q x=true)(k:zcs K (.ref f)=true):Fe K x st f:=⟨_,KU l c k⟩
theorem Fe.d{K:zaf}{mg:Str->Option Value}{x:Str}{st:Stmt}{f:Addr}{ps:List Str}(h:Fe K x st f)(a:mg x=some (.ref f))(q:∀(kV doc pm:Value) (an:Option Addr) (cdv ct:Value) (us:List Value),us.length=ps.length->bindArgs (zbI x x (dP st) (b9 st) (aU st) .none kV doc pm an cdv ct) ⟨us,[]⟩=pure (ps.zip us)):My.DefAt K mg x st ps:=let ⟨fd,F⟩:=h;⟨⟨f,fd,F,F.binds q,a⟩⟩
section
variable {X:Cx}{L:Lp}{O O':List Nat}
theorem c0{z O3:List Nat}{st:Stmt}{q:List Stmt}{f g:Sv}(h:iJ X L z st f [])(k:dJ X L [] q g O3):dJ X L z (st::q) (bM f g) O3:=cn h k
theorem ss(i:Nat)(B:X.N.Nodup)(z:PD X O e f)(hi:X.N[i]?=some x:=by rfl)(F:Loc X.env.scope x:=by exact zbL rfl)(h:Sub O' (O.filter (· != i))=true:=by rfl)(hs:za6 e (some (.Name x pos')) pos.line X.env=pure false:=by rfl)(q:X.fn x=true\/X.env.scope.names.lookup x=some .local:=by first|exact .inl rfl|exact .inr rfl):iJ X L O (.Assign [.Name x pos'] e pos) (bS i f) O':=CK B hi F z h hs q
theorem gc(h1:zY X O e g)(h2:B7 X O es k)(a:(zbg (e::es) X.env).map (·.2)=zbq e X.env::(zbg es X.env).map (·.2):=by rfl):B7 X O (e::es) (aM g k):=EU (λx y=>GX x y a) h1 h2
theorem gu(n:Nat)(h:B7 X O es k)(q:X.calm=true:=by rfl)(a:(zbg es X.env).length=n:=by rfl)(b:List.findIdx? (λx=>x.fst) (zbg es X.env)=none:=by rfl):zY X O (.Tuple es j pos) (bO n k):=NC (KQ q h a b)
theorem tc(q:gE X (zaq op) g)(z:PB X O a fa)(B:PB X O b fb)(h1:op≠CmpOp.In:=by decide)(h2:op≠CmpOp.NotIn:=by decide):nQ X O (.Compare a [op] [b] pos) (eM (aY g fa fb)):=vN q z B (JS _ h1 h2)
end
end P
namespace My
open PySem PySem.Spec PyProof.Rows L2
section
variable {X:Cx}
end
end My
namespace P
open PySem PySem.Spec PyProof.Rows L2
section
variable {X:Cx}
end
section
variable {X:Cx}{O:List Nat}
end
end P
namespace HT
open PySem PySem.Spec PyProof.Rows
section
open PySem.SeqAt
open PySem.AutoSeq1 (wpAny_loadPart')
open PySem.MeetsSeq PySem.MeetsSeq2 PySem.MeetsSeq3
end
section
variable {prog:zap}{w:World}{A:zas}{E:Value->zab->Prop}{s:zab}
end
end HT
namespace P
open PySem PySem.Spec PyProof.Rows L2
section
variable {X:Cx}
end
section
variable {X:Cx}
end
noncomputable def mon:List Int->List Int->Int
 | e::es,v::vs=>v^e.toNat*mon es vs
 | _,_=>1
def ev(vs:List Int)(F:List My.Tm):Int:=(F.map λt=>t.2*mon t.1 vs).sum
theorem l6(vs:List Int):ev vs []=0:=rfl
theorem bH(vs:List Int)(t:My.Tm)(F:List My.Tm):ev vs (t::F)=t.2*mon t.1 vs+ev vs F:=by unfold ev;rw[zak,zdc]
theorem lE(vs:List Int)(t:My.Tm)(F:List My.Tm):ev vs (F++[t])=ev vs F+t.2*mon t.1 vs:=by
 induction F with
 | nil=>rw[ze5,bH,l6];lia
 | cons u F ih=>rw[List.cons_append,bH,bH,ih];lia
theorem tT(h:k∉cs.map (·.1)):My.put cs k c=cs++[(k,c)]:=by
 unfold My.put;rw[if_neg];intro z;obtain⟨t,q,e⟩:=List.any_eq_true.mp z;exact h (List.mem_map.mpr ⟨t,q,of_decide_eq_true e⟩)
theorem KF:∀ {F:List My.Tm},(F.map (·.1)).Nodup->k∈F.map (·.1)->ev vs (F.map λt=>if t.1=k then(t.1,c)else t)=ev vs F+(c-cf F k)*mon k vs
 | [],_,h=>nomatch h
 | t::F,q,h=>by
  rw[zak]at q;have q:=List.nodup_cons.mp q;rw[zak,bH,bH,CZ];by_cases e:t.1=k
  ·subst e
   have G:(F.map λu=>if u.1=t.1 then(u.1,c)else u)=F:=by
    conv=>rhs;rw[<- List.map_id F]
    refine zey λu B=>?_
    rw[if_neg (λz=>q.1 (by rw[<- z];exact zeC (f:=(·.1)) B))];rfl
   rw[if_pos rfl,G,if_pos rfl,Int.sub_mul];dsimp only
   lia
  ·rw[if_neg e,if_neg e,KF q.2 (by
    rcases List.mem_cons.mp (show k∈t.1::F.map (·.1)from h)with z|z
    ·exact absurd z.symm e
    ·exact z)]
   lia
theorem TX(q:(F.map (·.1)).Nodup):ev vs (My.put F k c)=ev vs F+(c-cf F k)*mon k vs:=by
 by_cases h:k∈F.map (·.1)
 ·have:My.put F k c=F.map λt=>if t.1=k then(t.1,c)else t:=by
   unfold My.put;rw[if_pos];obtain⟨t,z,e⟩:=List.mem_map.mp h;exact List.any_eq_true.mpr ⟨t,z,decide_eq_true e⟩
  rw[this,KF q h]
 ·rw[tT h,lE,TF h]
  dsimp only;rw[Int.sub_zero]
theorem BL(q:(F.map (·.1)).Nodup)(h:c=cf F k+x):ev vs (My.put F k c)=ev vs F+x*mon k vs:=by
 rw[TX q,h];have:cf F k+x-cf F k=x:=by lia
 rw[this]
theorem MA(p:l.Perm m):ev vs l=ev vs m:=by
 induction p with
 | nil=>rfl
 | cons x _ ih=>rw[bH,bH,ih]
 | swap x y l=>rw[bH,bH,bH,bH];lia
 | trans _ _ a b=>rw[a,b]
theorem iR{M c:Int}:M∣c%M-c:=by
 have:c%M-c=-(c-c%M):=by lia
 rw[this];exact Int.dvd_neg.mpr ze8
theorem y6{M:Int}{vs:List Int}:∀l:List My.Tm,M∣ev vs (My.b8 M l)-ev vs l
 | []=>⟨0,by simp[My.b8,ev]⟩
 | t::l=>by
  have ih:=y6 (M:=M) (vs:=vs) l;by_cases h:t.2%M=0
  ·have e:My.b8 M (t::l)=My.b8 M l:=by unfold My.b8;rw[ze9 (by simp[h])]
   rw[e,bH];have h2:=zeD (c:=mon t.1 vs) (Int.dvd_of_emod_eq_zero h);have:ev vs (My.b8 M l)-(t.2*mon t.1 vs+ev vs l)=(ev vs (My.b8 M l)-ev vs l)-t.2*mon t.1 vs:=by lia
   rw[this];exact Int.dvd_sub ih h2
  ·have e:My.b8 M (t::l)=(t.1,t.2%M)::My.b8 M l:=by unfold My.b8;rw[List.filter_cons_of_pos (by simp[h])];rfl
   rw[e,bH,bH];have h2:M∣(t.2%M-t.2)*mon t.1 vs:=zeD iR;rw[Int.sub_mul]at h2;dsimp only;have:t.2%M*mon t.1 vs+ev vs (My.b8 M l)-(t.2*mon t.1 vs+ev vs l)=(t.2%M*mon t.1 vs-t.2*mon t.1 vs)+(ev vs (My.b8 M l)-ev vs l):=by lia
   rw[this];exact zaR h2 ih
noncomputable def Bx:List Int->List Int->Prop
 | [a],[x]=>0<=x/\x<=a
 | [a,b],[x,y]=>(0<=x/\x<=a)/\0<=y/\y<=b
 | _,_=>False
noncomputable def fQ:List Int->List Int->List Int
 | [x],[y]=>[x+y]
 | [x,a],[y,b]=>[x+y,a+b]
 | _,_=>[]
theorem Bx.len:∀ {d k:List Int},Bx d k->(d.length=1/\k.length=1)\/(d.length=2/\k.length=2)
 | [_],[_],_=>.inl ⟨rfl,rfl⟩
 | [_,_],[_,_],_=>.inr ⟨rfl,rfl⟩
theorem Bx.shape:∀ {d k:List Int},Bx d k->(∃a x,d=[a]/\k=[x]/\0<=x/\x<=a)\/∃a b x y,d=[a,b]/\k=[x,y]/\(0<=x/\x<=a)/\0<=y/\y<=b
 | [a],[x],h=>.inl ⟨a,x,rfl,rfl,h⟩
 | [a,b],[x,y],h=>.inr ⟨a,b,x,y,rfl,rfl,h⟩
theorem Bx.mono(h:Bx d k)(g:Bx e d):Bx e k:=by
 rcases h.shape with⟨a,x,rfl,rfl,h⟩|⟨a,b,x,y,rfl,rfl,h⟩
 ·rcases g.shape with⟨c,z,rfl,e,g⟩|⟨c,q,z,B,rfl,e,g⟩
  ·cases e;exact⟨h.1,Int.le_trans h.2 g.2⟩
  ·cases e
 ·rcases g.shape with⟨c,z,rfl,e,g⟩|⟨c,q,z,B,rfl,e,g⟩
  ·cases e
  ·cases e;exact⟨⟨h.1.1,Int.le_trans h.1.2 g.1.2⟩,h.2.1,Int.le_trans h.2.2 g.2.2⟩
theorem Bx.add(h:Bx d k)(g:Bx e j)(l:d.length=e.length):Bx (fQ d e) (fQ k j):=by
 rcases h.shape with⟨a,x,rfl,rfl,h⟩|⟨a,b,x,y,rfl,rfl,h⟩
 ·rcases g.shape with⟨c,z,rfl,rfl,g⟩|⟨c,q,z,B,rfl,rfl,g⟩
  ·exact⟨Int.add_nonneg h.1 g.1,Int.add_le_add h.2 g.2⟩
  ·cases l
 ·rcases g.shape with⟨c,z,rfl,rfl,g⟩|⟨c,q,z,B,rfl,rfl,g⟩
  ·cases l
  ·exact⟨⟨Int.add_nonneg h.1.1 g.1.1,Int.add_le_add h.1.2 g.1.2⟩,Int.add_nonneg h.2.1 g.2.1,Int.add_le_add h.2.2 g.2.2⟩
theorem MM(h:Bx d k)(g:Bx e j)(l:d.length=e.length)(F:vs.length=d.length):mon (fQ k j) vs=mon k vs*mon j vs:=by
 rcases h.shape with⟨a,x,rfl,rfl,h⟩|⟨a,b,x,y,rfl,rfl,h⟩
 ·rcases g.shape with⟨c,z,rfl,rfl,g⟩|⟨c,G,z,B,rfl,rfl,g⟩
  ·obtain⟨v,rfl⟩:=List.length_eq_one_iff.mp F
   show v^(x+z).toNat*1=v^x.toNat*1*(v^z.toNat*1);rw[Int.toNat_add h.1 g.1,zdD];simp
  ·cases l
 ·rcases g.shape with⟨c,z,rfl,rfl,g⟩|⟨c,G,z,B,rfl,rfl,g⟩
  ·cases l
  ·obtain⟨v,u,rfl⟩:=lN F
   show v^(x+z).toNat*(u^(y+B).toNat*1)=v^x.toNat*(u^y.toNat*1)*(v^z.toNat*(u^B.toNat*1));rw[Int.toNat_add h.1.1 g.1.1,zdD,Int.toNat_add h.2.1 g.2.1,zdD];simp only[zbP];generalize v^x.toNat=p;generalize v^z.toNat=q;generalize u^y.toNat=r;generalize u^B.toNat=s;grind
structure Fk(d:List Int)(F:List My.Tm):Prop where
 nd:(F.map (·.1)).Nodup
 bx:∀t∈F,Bx d t.1
structure Fo(M:Int)(d:List Int)(F:List My.Tm):Prop where
 k:Fk d F
 cb:∀t∈F,0<=t.2/\t.2<M
theorem qY:∀(N:Nat) (l:List Nat),l.Nodup->(∀x∈l,x<N)->l.length<=N
 | 0,[],_,_=>zao _
 | 0,x::l,_,h=>absurd (h x (zau ..)) (zeW _)
 | N+1,l,nd,h=>by
  by_cases m:N∈l
  ·have h1:=qY N (l.erase N) (nd.erase N) λx q=>by
    have:=(List.Nodup.mem_erase_iff nd).mp q;have:=h x this.2
    lia
   rw[List.length_erase_of_mem m]at h1
   lia
  ·have:=qY N l nd λx q=>by
    have h1:=h x q;have:x≠N:=λz=>m (z ▸ q)
    lia
   lia
noncomputable def O5:List Int->Nat
 | [x]=>x.toNat
 | [x,y]=>x.toNat*7+y.toNat
 | _=>0
noncomputable def CG:List Int->Prop
 | [a]=>a<=6
 | [a,b]=>a<=6/\b<=6
 | _=>True
theorem Bx.enc_lt(l:CG d)(h:Bx d k):O5 k<49:=by
 rcases h.shape with⟨a,x,rfl,rfl,h⟩|⟨a,b,x,y,rfl,rfl,h⟩
 ·have l:a<=6:=l;show x.toNat<49;lia
 ·have l:a<=6/\b<=6:=l;show x.toNat*7+y.toNat<49;lia
theorem Bx.enc_inj(l:CG d)(h:Bx d k)(g:Bx d j)(e:O5 k=O5 j):k=j:=by
 rcases h.shape with⟨a,x,rfl,rfl,h⟩|⟨a,b,x,y,rfl,rfl,h⟩
 ·rcases g.shape with⟨c,z,q,rfl,g⟩|⟨c,F,z,B,q,rfl,g⟩
  ·have e:x.toNat=z.toNat:=e
   have:x=z:=by lia
   rw[this]
  ·cases q
 ·rcases g.shape with⟨c,z,q,rfl,g⟩|⟨c,F,z,B,q,rfl,g⟩
  ·cases q
  ·cases q
   have l:a<=6/\b<=6:=l;have e:x.toNat*7+y.toNat=z.toNat*7+B.toNat:=e;have h1:x=z:=by lia
   have h2:y=B:=by lia
   rw[h1,h2]
theorem JO(l:CG d):∀ {ks:List (List Int)},ks.Nodup->(∀k∈ks,Bx d k)->(ks.map O5).Nodup
 | [],_,_=>zcY
 | k::ks,B,h=>by
  have B:=List.nodup_cons.mp B;rw[zak];refine List.nodup_cons.mpr ⟨λz=>?_,JO l B.2 λj q=>h j (zav _ q)⟩;obtain⟨j,q,e⟩:=List.mem_map.mp z;have:=Bx.enc_inj l (h j (zav _ q)) (h k (zau ..)) e;subst this;exact B.1 q
theorem Fk.len(h:Fk d F)(l:CG d):F.length<=49:=by
 have e:=JO l h.nd λk q=>by obtain⟨t,z,rfl⟩:=List.mem_map.mp q;exact h.bx t z
 have:=qY 49 _ e λx B=>by
  obtain⟨k,q,rfl⟩:=List.mem_map.mp B;obtain⟨t,z,rfl⟩:=List.mem_map.mp q;exact Bx.enc_lt l (h.bx t z)
 rw[zal,zal]at this;exact this
theorem Fk.nil(d:List Int):Fk d []:=⟨zcY,λ_ h=>nomatch h⟩
theorem Fk.put(h:Fk d F)(b:Bx d k):Fk d (My.put F k c):=⟨My.lZ h.nd,λt q=>by
 rcases vW q with z|z
 ·rw[z];exact b
 ·exact h.bx t z⟩
theorem Fk.mono(h:Fk d F)(b:Bx e d):Fk e F:=⟨h.nd,λt q=>(h.bx t q).mono b⟩
theorem Fo.mono(h:Fo M d F)(b:Bx e d):Fo M e F:=⟨h.k.mono b,h.cb⟩
theorem Fo.nil(M:Int)(d:List Int):Fo M d []:=⟨Fk.nil d,λ_ h=>nomatch h⟩
theorem Fk.form(h0:0<M)(h:Fk d T):Fo M d (My.b8 M (bJ T)):=by
 have p:=cX T;have z:∀t∈My.b8 M (bJ T),∃u∈T,t.1=u.1/\t.2=u.2%M:=λt q=>by
  unfold My.b8 at q;obtain⟨u,B,rfl⟩:=List.mem_map.mp q;exact⟨u,p.subset (List.mem_filter.mp B).1,rfl,rfl⟩
 refine⟨⟨?_,λt q=>?_⟩,λt q=>?_⟩
 ·unfold My.b8
  rw[zaQ];have e:((bJ T).map (·.1)).Nodup:=(p.map _).nodup_iff.mpr h.nd;have s:((bJ T).filter λt=>decide (t.2%M≠0)).Sublist (bJ T):=List.filter_sublist;exact(s.map (·.1)).nodup e
 ·obtain⟨u,B,e,_⟩:=z t q
  rw[e];exact h.bx u B
 ·obtain⟨u,B,_,e⟩:=z t q
  rw[e];exact⟨zax _ (zaX h0),zay _ h0⟩
theorem nZ(T:List My.Tm):M∣ev vs (My.b8 M (bJ T))-ev vs T:=by
 have h:=y6 (M:=M) (vs:=vs) (bJ T);rw[MA (cX T)]at h;exact h
theorem oG{M v:Int}:∀n:Nat,M∣mG M v n-v^n
 | 0=>⟨0,by simp[mG]⟩
 | n+1=>by
  have ih:=oG (M:=M) (v:=v) n;have h1:M∣mG M v n*v%M-mG M v n*v:=iR;have h2:M∣(mG M v n-v^n)*v:=zeD ih;rw[Int.sub_mul]at h2;have:mG M v (n+1)-v^(n+1)=(mG M v n*v%M-mG M v n*v)+(mG M v n*v-v^n*v):=by
   rw[zca];show mG M v n*v%M-v^n*v=_
   lia
  rw[this];exact zaR h1 h2
theorem a7{M a b c d:Int}(h:M∣a-b)(g:M∣c-d):M∣a*c-b*d:=by
 have h1:M∣(a-b)*c:=zeD h;have h2:M∣b*(c-d):=Int.dvd_mul_of_dvd_right g;have:a*c-b*d=(a-b)*c+b*(c-d):=by grind
 rw[this];exact zaR h1 h2
theorem aS(M a:Int):M∣a-a:=⟨0,by lia⟩
theorem CP{M:Int}{vs d:List Int}(q:vs.length=d.length):∀ {F:List My.Tm},(∀t∈F,Bx d t.1)->M∣sumF M vs F-ev vs F
 | [],_=>⟨0,by simp[sumF,ev]⟩
 | t::F,h=>by
  have ih:=CP q (M:=M) (F:=F) λu z=>h u (zav _ z)
  have b:=h t (zau ..);have e:sumF M vs (t::F)=prodF M vs t+sumF M vs F:=by unfold sumF;rw[zak,zdc]
  have p:M∣prodF M vs t-t.2*mon t.1 vs:=by
   obtain⟨k,c⟩:=t
   match d,k,vs,b,q with
   | [_],[x],[v],_,_=>
    show M∣c*mG M v x.toNat-c*(v^x.toNat*1);rw[zbP];exact a7 (aS _ _) (oG _)
   | [_,_],[x,y],[v,u],_,_=>
    show M∣c*mG M v x.toNat*mG M u y.toNat-c*(v^x.toNat*(u^y.toNat*1));rw[zbP,<- zew];exact a7 (a7 (aS _ _) (oG _)) (oG _)
  rw[e,bH];have:prodF M vs t+sumF M vs F-(t.2*mon t.1 vs+ev vs F)=(prodF M vs t-t.2*mon t.1 vs)+(sumF M vs F-ev vs F):=by lia
  rw[this];exact zaR p ih
theorem yZ:∀q:List My.Tm,GJ (q.map bQ)=some (q.map kD)
 | []=>rfl
 | t::q=>by
  show(zW (tupI t.1)).bind _=_;rw[asT_tupI,aA,yZ q];rfl
theorem DX:∀(qs ps:List My.Tm),((ps++qs).map (·.1)).Nodup->sG (ps.map kD) (qs.map kD)=(ps++qs).map kD
 | [],ps,_=>by rw[zcr];rfl
 | q::qs,ps,h=>by
  show sG (putD (ps.map kD) (q.1.map zam) (.int q.2)) (qs.map kD)=_;rw[JU,tT,DX qs (ps++[(q.1,q.2)])]
  ·simp
  ·simpa using h
  ·rw[za4,List.nodup_append]at h
   intro z;exact h.2.2 _ z _ (zau ..) rfl
theorem FZ{q:List My.Tm}(h:(q.map (·.1)).Nodup)(z:q.length<=1000):wG [.tup (q.map bQ)]=some (.dT (q.map kD)):=by
 have h0:wG [.tup (q.map bQ)]=(if aZ (q.map bQ).length=true then(GJ (q.map bQ)).map λkvs=>D.dT (sG [] kvs)else none):=rfl;rw[h0,if_pos (show aZ (q.map bQ).length=true from decide_eq_true (by rw[zal];lia)),yZ,aD];have:=DX q [] (by simpa using h);rw[zb1,ze5]at this;rw[this]
theorem R9:((My.look cs k).map D.int).getD (.int 0)=.int (cf cs k):=by
 unfold cf;cases My.look cs k <;> rfl
theorem yT{κ:Type}[DecidableEq κ]:∀(l:List (κ×D)) (k j:κ) (d:D),b7 (putD l k d) j=if j=k then some d else b7 l j:=λl k j d=>by
 have q:∀l:List (κ×D),b7 (l.map λp=>if p.1=k then(p.1,d)else p) j=if j=k then(b7 l j).map λ_=>d else b7 l j:=λl=>by
  induction l with
  | nil=>by_cases e:j=k <;> simp[b7,e]
  | cons p l ih=>
   unfold b7 at ih ⊢;rw[zak,za8,za8];by_cases h:p.1=k
   ·rw[if_pos h]
    by_cases e:j=k
    ·subst e;simp[h]
    ·have:¬ p.1=j:=λz=>e (z ▸ h)
     simp[this,e]at ih ⊢;exact ih
   ·rw[if_neg h]
    by_cases e:j=k
    ·subst e;simp[h]at ih ⊢;exact ih
    ·by_cases B:p.1=j
     ·simp[e,B]
     ·simp[e,B]at ih ⊢;exact ih
 unfold putD;by_cases h:l.any (λp=>decide (p.1=k))=true
 ·rw[if_pos h,q]
  by_cases e:j=k
  ·rw[if_pos e,if_pos e]
   subst e;obtain⟨p,F,B⟩:=List.any_eq_true.mp h;have:(b7 l j).isSome=true:=by
    unfold b7;rw[zdX,List.find?_isSome];exact⟨p,F,B⟩
   cases hv:b7 l j with
   | none=>rw[hv]at this;cases this
   | some v=>rfl
  ·rw[if_neg e,if_neg e]
 ·rw[if_neg h]
  unfold b7;rw[ze6];by_cases e:j=k
  ·subst e
   have:l.find? (λp=>decide (p.1=j))=none:=List.find?_eq_none.mpr λp F z=>h (List.any_eq_true.mpr ⟨p,F,z⟩)
   simp[this]
  ·have:¬ k=j:=λz=>e z.symm
   simp[e,this]
theorem IY{κ:Type}[DecidableEq κ](l:List (κ×D))(k:κ)(d:D):(putD l k d).length<=l.length+1:=by
 unfold putD;by_cases h:l.any (λp=>decide (p.1=k))=true
 ·rw[if_pos h,zal];lia
 ·rw[if_neg h,zbu];simp
def fD(F:List My.Tm):D:=.tup (F.map bQ)
theorem DS(F:ρ[3]?=some (some (.dT (T.map kD))))(hi:ρ[i]?=some (some (tupI k)))(B:X ρ=some (.int x))(J:T.length<=1000):wU 3 (aB i) (aY cI (sC (aB 3) (aB i) (eC (.int 0))) X) ρ=some (.nx (ρ.set 3 (some (.dT ((My.put T k (cf T k+x)).map kD))))):=by
 have G:=DL (cs:=T) k (cf T k+x) (by lia);have z:aB 3 ρ=some (.dT (T.map kD)):=by rw[q_var,F];rfl
 have q:aB i ρ=some (tupI k):=by rw[q_var,hi];rfl
 have a:(sC (aB 3) (aB i) (eC (.int 0))) ρ=some (.int (cf T k)):=by
  rw[q_get2,z,q,aA,aA,q_c,aA,look_kD,aD,R9]
 have b:(aY cI (sC (aB 3) (aB i) (eC (.int 0))) X) ρ=some (.int (cf T k+x)):=by
  rw[q_op,a,aA,B,aA];rfl
 rw[q_put,b,aA,z,aA,q,aA,G,aD]
theorem rJ(l:List (List Key×D))(k:List Int):cH (.dT l) (tupI k)=some (b7 l (k.map zam)):=by
 show(zW (tupI k)).map _=_;rw[asT_tupI,aD]
theorem NY(k:List Int)(d:D)(h:l.length<=1000000):sI (.dT l) (tupI k) d=some (.dT (putD l (k.map zam) d)):=by
 show(zW (tupI k)).bind _=_;rw[asT_tupI,aA,if_pos (by rw[aZ];exact decide_eq_true h)]
noncomputable def pw(S:Nat->Int)(a:Int):Nat->Int
 | 0=>0
 | n+1=>pw S a n+a^n*S n
theorem JW:∀n:Nat,pw (λe=>(if m=e then x else 0)+S e) a n=(if m<n then a^m*x else 0)+pw S a n
 | 0=>by simp[pw]
 | n+1=>by
  rw[pw,pw,JW n,Int.mul_add];by_cases h:m=n
  ·subst h
   rw[if_neg (zbd _),if_pos rfl,if_pos (zda _)]
   lia
  ·rw[if_neg h,Int.mul_zero]
   by_cases h2:m<n
   ·rw[if_pos h2,if_pos (by lia)];lia
   ·rw[if_neg h2,if_neg (by lia)];lia
noncomputable def la(k:List Int):Int:=(k.getLast?).getD 0
def grp(a:List Int)(w:Int)(l:List My.Tm):Int:=(l.map λt=>if t.1.dropLast=a then t.2*w^(la t.1).toNat else 0).sum
theorem xZ(a:List Int)(w:Int)(l:List My.Tm)(t:My.Tm):grp a w (l++[t])=grp a w l+if t.1.dropLast=a then t.2*w^(la t.1).toNat else 0:=by
 unfold grp;rw[za4,zak,zb1];induction l.map (λt=>if t.1.dropLast=a then t.2*w^(la t.1).toNat else 0)with
 | nil=>simp
 | cons x l ih=>rw[List.cons_append,zdc,zdc,ih];lia
theorem yF(a:List Int)(w:Int)(l:List My.Tm)(t:My.Tm):grp a w (t::l)=(if t.1.dropLast=a then t.2*w^(la t.1).toNat else 0)+grp a w l:=by
 unfold grp;rw[zak,zdc]
theorem DP:∀ {l:List My.Tm},(∀t∈l,Bx [d] t.1)->grp [] w l=ev [w] l
 | [],_=>rfl
 | t::l,h=>by
  have b:=h t (zau ..);rw[yF,bH,DP λu q=>h u (zav _ q)];obtain⟨k,c⟩:=t
  match k,b with
  | [x],_=>
   show(if([]:List Int)=[]then c*w^x.toNat else 0)+_=c*(w^x.toNat*1)+_;rw[if_pos rfl,zbP]
theorem DE{d e a w:Int}{m:Nat}:∀ {l:List My.Tm},(∀t∈l,Bx [d,e] t.1/\∃x y,t.1=[x,y]/\x<=(m:Int))->pw (λj=>grp [(j:Int)] w l) a (m+1)=ev [a,w] l
 | [],_=>by
  have:∀n,pw (λj=>grp [(j:Int)] w []) a n=0:=λn=>by
   induction n with
   | zero=>rfl
   | succ n ih=>rw[pw,ih];simp[grp]
  rw[this];rfl
 | t::l,h=>by
  obtain⟨b,x,y,B,J⟩:=h t (zau ..);have ih:=DE (a:=a) (w:=w) λu F=>h u (zav _ F)
  obtain⟨k,c⟩:=t;dsimp only at B;subst B;have b:(0<=x/\x<=d)/\0<=y/\y<=e:=b;have G:(λj:Nat=>grp [(j:Int)] w (([x,y],c)::l))=λj:Nat=>(if x.toNat=j then c*w^y.toNat else 0)+grp [(j:Int)] w l:=by
   funext j;rw[yF];congr 1;show(if [x]=[(j:Int)]then c*w^y.toNat else 0)=_;by_cases z:x.toNat=j
   ·rw[if_pos (by rw[<- z,Int.toNat_of_nonneg b.1.1]),if_pos z]
   ·rw[if_neg (λq=>z (by have:=List.cons.inj q;lia)),if_neg z]
  rw[G,JW,ih,if_pos (by lia),bH];show a^x.toNat*(c*w^y.toNat)+_=c*(a^x.toNat*(w^y.toNat*1))+_;rw[zbP];congr 1;generalize a^x.toNat=p;generalize w^y.toNat=q;grind
theorem MU(ts:List My.Tm):ev vs (My.bX ts)=ev vs ts:=by
 have q:∀(ts cs:List My.Tm),(cs.map (·.1)).Nodup->ev vs (ts.foldl My.lL cs)=ev vs cs+ev vs ts:=λts=>by
  induction ts with
  | nil=>intro cs h;rw[List.foldl_nil,l6,Int.add_zero]
  | cons t ts ih=>
   intro cs h;rw[zcJ,ih (My.lL cs t) (My.lZ h),bH];have:ev vs (My.lL cs t)=ev vs cs+t.2*mon t.1 vs:=BL h rfl;rw[this];lia
 have:=q ts [] zcY;rw[l6,Int.zero_add]at this;exact this
def fm(M:Int)(ts:List My.Tm):List My.Tm:=My.b8 M (bJ (My.bX ts))
theorem K2(h0:0<M)(h:∀t∈ts,Bx d t.1):Fo M d (fm M ts)/\∀vs,M∣ev vs (fm M ts)-ev vs ts:=by
 obtain⟨_,B,q⟩:=My.jX ts;have k:Fk d (My.bX ts):=⟨B,λt F=>by obtain⟨u,z,e⟩:=q t F;rw[<- e];exact h u z⟩;refine⟨k.form h0,λvs=>?_⟩;rw[<- MU ts];exact nZ _
theorem mO{M a b:Int}(h:M∣a-b):∀n:Nat,M∣a^n-b^n
 | 0=>by rw[zdE,zdE];exact aS M 1
 | n+1=>by rw[zca,zca];exact a7 (mO h n) h
theorem zG{M:Int}:∀ {vs us k:List Int},vs.length=us.length->(∀p∈vs.zip us,M∣p.1-p.2)->M∣mon k vs-mon k us
 | [],[],k,_,_=>by cases k <;> exact aS M _
 | v::vs,u::us,[],_,_=>aS M _
 | v::vs,u::us,e::k,l,h=>a7 (mO (h (v,u) (zau ..)) _) (zG (by simpa using l) λp q=>h p (zav _ q))
theorem vO{M:Int}{vs us:List Int}(l:vs.length=us.length)(h:∀p∈vs.zip us,M∣p.1-p.2):∀F:List My.Tm,M∣ev vs F-ev us F
 | []=>aS M _
 | t::F=>by
  have ih:=vO l h F;have m:=a7 (aS M t.2) (zG (k:=t.1) l h);rw[bH,bH];have:t.2*mon t.1 vs+ev vs F-(t.2*mon t.1 us+ev us F)=(t.2*mon t.1 vs-t.2*mon t.1 us)+(ev vs F-ev us F):=by lia
  rw[this];exact zaR m ih
theorem dF{M a b:Int}(h:M∣a-b):a%M=b%M:=by
 obtain⟨c,q⟩:=h;have:a=b+M*c:=by lia
 rw[this,Int.add_mul_emod_self_left]
theorem XO{M a b:Int}(h:a%M=b%M):M∣a-b:=by
 have h1:M∣a%M-a:=iR;have h2:M∣b%M-b:=iR;rw[h]at h1;have:a-b=(b%M-b)-(b%M-a):=by lia
 rw[this];exact Int.dvd_sub h2 h1
section
variable {X:Cx}{L:Lp}{O O':List Nat}
theorem cO(O2:List Nat){z O3:List Nat}{st:Stmt}{q:List Stmt}{f g:Sv}(h:iJ X L z st f O2)(k:dJ X L O2 q g O3):dJ X L z (st::q) (bM f g) O3:=cn h k
theorem wt{x1}(h:zX X O es g)(q:Len g es.length)(z:Nat.ble es.length 100=true:=by rfl):PD X O (.Tuple es x1 pos) (fP g):=JN h (λρ ds k=>by rw[q ρ ds k];exact zfa z)
theorem wl(h:zX X O es g)(q:Len g es.length)(z:Nat.ble es.length 100=true:=by rfl):PF X O (.List es pos) (tE g):=JY h (λρ ds k=>by rw[q ρ ds k];exact zfa z)
theorem wE(O':Fn X.prog X.w X.K X.mg X.base x k ps F)(z:Room j X.A)(B:zX X O (e::es) f)(G:Len f ps.length)(M:k<=j)(N:Gl X x:=by rfl)(q:(x == ("__debug__" : Str))=false:=by decide)(hs:isStar e=false:=by rfl)(J:(es.all λe=>!isStar e)=true:=by rfl):PD X O (.Call (.Name x p) (e::es) [] pos) (aQ F f):=cD O' (z.mono M) B G N q hs J
theorem qc{e:Expr}{es:List Expr}{f:Lv}{p pos:Pos}(q:X.mg "len" = none)(B:oK X O (e::es) f)(F:Gl X "len")(hs:isStar e=false)(z:((es:List Expr).all λe=>!isStar e)=true):PD X O (.Call (.Name "len" p) (e::es) [] pos) (aQ dA f):=cB TZ q My.boot_len B F (by decide) (by decide) hs z
theorem YW{e:Expr}{es:List Expr}{f:Lv}{p pos:Pos}(q:X.mg "tuple" = none)(B:oK X O (e::es) f)(F:Gl X "tuple")(hs:isStar e=false)(z:((es:List Expr).all λe=>!isStar e)=true):PD X O (.Call (.Name "tuple" p) (e::es) [] pos) (aQ j7 f):=YO rK q My.boot_tuple B F (by decide) (by decide) hs z
theorem ZZ{e:Expr}{es:List Expr}{f:Lv}{p pos:Pos}(q:X.mg "int" = none)(B:oK X O (e::es) f)(F:Gl X "int")(hs:isStar e=false)(z:((es:List Expr).all λe=>!isStar e)=true):PD X O (.Call (.Name "int" p) (e::es) [] pos) (aQ GM f):=YO RM q My.boot_int B F (by decide) (by decide) hs z
theorem Z5{e:Expr}{es:List Expr}{f:Lv}{p pos:Pos}(q:X.mg "list" = none)(B:oK X O (e::es) f)(F:Gl X "list")(hs:isStar e=false)(z:((es:List Expr).all λe=>!isStar e)=true):PF X O (.Call (.Name "list" p) (e::es) [] pos) (aQ uN f):=fTy NX q My.boot_list B F (by decide) (by decide) hs z
theorem ZT{e:Expr}{es:List Expr}{f:Lv}{p pos:Pos}(B:X.calm=true)(q:X.mg "all" = none)(z:oK X O (e::es) f)(G:Gl X "all")(hs:isStar e=false)(F:((es:List Expr).all λe=>!isStar e)=true):PD X O (.Call (.Name "all" p) (e::es) [] pos) (aQ B6 f):=cB (BZ B) q My.boot_all z G (by decide) (by decide) hs F
theorem WB{q:Expr}{e:Expr}{es:List Expr}{f:Lv}{p pos:Pos}(F:X.calm=true)(z:X.mg "min" = none)(B:oK X O [e,q] f)(J:Gl X "min")(hs:isStar e=false)(G:(([q]:List Expr).all λe=>!isStar e)=true):PD X O (.Call (.Name "min" p) [e,q] [] pos) (aQ EC f):=cB (NR F) z My.boot_min B J (by decide) (by decide) hs G
theorem VW{q:Expr}{e:Expr}{es:List Expr}{f:Lv}{p pos:Pos}(F:X.calm=true)(z:X.mg "max" = none)(B:oK X O [e,q] f)(J:Gl X "max")(hs:isStar e=false)(G:(([q]:List Expr).all λe=>!isStar e)=true):PD X O (.Call (.Name "max" p) [e,q] [] pos) (aQ D4 f):=cB (NW F) z My.boot_max B J (by decide) (by decide) hs G
theorem V5{e:Expr}{es:List Expr}{f:Lv}{p pos:Pos}(B:X.calm=true)(q:X.mg "max" = none)(z:oK X O [e] f)(G:Gl X "max")(hs:isStar e=false)(F:(([]:List Expr).all λe=>!isStar e)=true):PD X O (.Call (.Name "max" p) [e] [] pos) (aQ zK f):=cB (NP B) q My.boot_max z G (by decide) (by decide) hs F
theorem VZ{e:Expr}{f:Ev}{p p2 pos:Pos}(F:PB X O e f)(B:X.mg "isinstance" = none)(q:X.mg "int" = none)(J:Gl X "isinstance")(z:Gl X "int")(h1:zah [e,.Name "int" p2] X.env=(false,eval e X.env)::zah [.Name "int" p2] X.env)(h2:(zaJ pos (zah [.Name "int" p2] X.env)).any (·.1)=false)(G:zah [.Name "int" p2] X.env=(false,eval (.Name "int" p2) X.env)::zah [] X.env):PD X O (.Call (.Name "isinstance" p) [e,.Name "int" p2] [] pos) (O7 "int" f):=JP NZ J B z q My.boot_int F (by decide) (by decide) h1 h2 G
theorem TR{e:Expr}{f:Ev}{p p2 pos:Pos}(F:PB X O e f)(B:X.mg "isinstance" = none)(q:X.mg "bool" = none)(J:Gl X "isinstance")(z:Gl X "bool")(h1:zah [e,.Name "bool" p2] X.env=(false,eval e X.env)::zah [.Name "bool" p2] X.env)(h2:(zaJ pos (zah [.Name "bool" p2] X.env)).any (·.1)=false)(G:zah [.Name "bool" p2] X.env=(false,eval (.Name "bool" p2) X.env)::zah [] X.env):PD X O (.Call (.Name "isinstance" p) [e,.Name "bool" p2] [] pos) (O7 "bool" f):=JP GU J B z q My.boot_bool F (by decide) (by decide) h1 h2 G
theorem rSl{e:Expr}{lo hi:Option Expr}{p2 pos:Pos}{f:Ev}{a b:Ov}(q:PB X O e f)(z:QK X O lo a)(B:QK X O hi b):PD X O (.Subscript e (.Slice lo hi none p2) pos) (LN j8 f a b):=HB Y1 q z B
theorem rIt{a b:Expr}{pos:Pos}{z q:Ev}(G:X.A.units+1<cLine)(F:PB X O a z)(B:PB X O b q)(hs:vP b:=by exact λ_ _=>rfl):PD X O (.Subscript a b pos) (aY aI z q):=OA G F B hs
theorem ZS{a b:Expr}{pos:Pos}{z q:Ev}{j:Nat}(G:Room j X.A)(J:PB X O a z)(B:PB X O b q)(F:zcd .In b=false):nQ X O (.Compare a [.In] [b] pos) (eM (aY GI z q)):=vN (R6 G.units) J B F
theorem qb{a b:Expr}{pos:Pos}{z q:Ev}{j:Nat}(G:Room j X.A)(J:PB X O a z)(B:PB X O b q)(F:zcd .NotIn b=false):nQ X O (.Compare a [.NotIn] [b] pos) (eM (aY k7 z q)):=vN (FF G.units) J B F
theorem rCm{a b:Expr}{op:CmpOp}{pos:Pos}{g:D->D->Option D}{z q:Ev}(B:gE X (zaq op) g)(G:PB X O a z)(F:PB X O b q)(h1:op≠CmpOp.In)(h2:op≠CmpOp.NotIn):PD X O (.Compare a [op] [b] pos) (aY g z q):=RE B G F (JS _ h1 h2)
theorem rJn{o e:Expr}{apos cpos:Pos}{q B:Ev}(J:PB X O o q)(U:PB X O e B)(W:zcH o "join" X.env (eval o X.env)=eval o X.env)(N:((((zaJ cpos (zah [e] X.env)).all λx=>!x.fst) && (zcD cpos (zcE [] X.env)).all λx=>x.fst.isSome) && decide (([e].length+([]:List zbG).length+if([]:List zbG).isEmpty=true then 0 else 1)<30))=true)(M:(apos.endLine == cpos.line)=true)(z:zah [e] X.env=(false,eval e X.env)::zah [] X.env)(G:((zaJ cpos (zah [] X.env)).any λx=>x.fst)=false):PD X O (.Call (.Attribute o "join" apos) [e] [] cpos) (aY uJ q B):=NQ J U (λa b=>P5 PySem.F.plainAttrs_str PySem.F.slot_str_join PySem.F.type_str_join My.MB a b W N M z G) z
theorem rSo{o:Expr}{f:Ev}{p pos apos cpos:Pos}{j:Nat}(J:Room j X.A)(B:X.mg "sorted" = none)(z:PB X O o f)(M:X.calm=true)(N:Gl X "sorted")(h1:zcH o "items" X.env (eval o X.env)=eval o X.env)(h2:(apos.endLine == cpos.line)=true)(G:zah [.Call (.Attribute o "items" apos) [] [] cpos] X.env=(false,eval (.Call (.Attribute o "items" apos) [] [] cpos) X.env)::zah [] X.env)(q:(zaJ pos (zah [] X.env)).any (·.1)=false):PF X O (.Call (.Name "sorted" p) [.Call (.Attribute o "items" apos) [] [] cpos] [] pos) (uP rE f):=AD M J.units N B z (λh=>UZ PySem.F.slot_dict_items PySem.F.type_dict_items My.HQ h h1 h2) G q
theorem xEq{j:Nat}(q:Room j X.A):gE X (zaq .Eq) zZ:=WN q.units
theorem xNe{j:Nat}(q:Room j X.A):gE X (zaq .NotEq) wW:=WP q.units
theorem xLt{j:Nat}(q:Room j X.A):gE X (zaq .Lt) qt:=QR q.units0
def At(l:List Str)(x:Str)(i:Nat):Prop:=l[i]?=some x
theorem at_(i:Nat){l:List Str}{x:Str}(h:l[i]?=some x:=by eq_refl):At l x i:=h
theorem vB{i:Nat}{x:Str}{p:Pos}(h:At X.N x i)(B:VM X.env.scope x)(q:(x == ("__debug__" : Str))=false)(z:(x == ("__classdict__" : Str))=false):PB X O (.Name x p) (aB i):=TU i (pv i h B q z)
theorem vD{i:Nat}{x:Str}{p:Pos}(h:At X.N x i)(n:O.contains i=false)(B:VM X.env.scope x)(q:(x == ("__debug__" : Str))=false)(z:(x == ("__classdict__" : Str))=false):PD X O (.Name x p) (aB i):=Q2 i (pv i h B q z) (by simpa using n)
theorem gV{i:Nat}{x:Str}{pos:Pos}(h:At X.N x i)(n:O.contains i=false)(z:X.N.Nodup)(B:Loc X.env.scope x)(q:X.fn x=true\/X.env.scope.names.lookup x=some .local):zY X O (.Name x pos) (aH i):=yW (C8 z h B q) n
theorem aK(i:Nat)(z:PD X O e f:=by trivial)(B:X.N.Nodup:=by assumption)(hi:X.N[i]?=some x:=by rfl)(F:Loc X.env.scope x:=by first|exact zbL rfl|exact zcg rfl)(h:Sub O' (O.filter (· != i))=true:=by rfl)(hs:za6 e (some (.Name x pos')) pos.line X.env=pure false:=by rfl)(q:X.fn x=true\/X.env.scope.names.lookup x=some .local:=by first|exact .inl rfl|exact .inr rfl):iJ X L O (.Assign [.Name x pos'] e pos) (bS i f) O':=CK B hi F z h hs q
theorem b6(i:Nat)(z:PF X O e f:=by trivial)(q:X.N.Nodup:=by assumption)(hi:X.N[i]?=some x:=by rfl)(F:Loc X.env.scope x:=by first|exact zbL rfl|exact zcg rfl)(h:Sub O' (i::O)=true:=by rfl)(B:O.contains i=false:=by rfl)(hs:za6 e (some (.Name x pos')) pos.line X.env=pure false:=by rfl)(G:X.fn x=true\/X.env.scope.names.lookup x=some .local:=by first|exact .inl rfl|exact .inr rfl):iJ X L O (.Assign [.Name x pos'] e pos) (bS i f) O':=JB q hi F z h B hs G
theorem fB(i:Nat)(z:PD X O e f:=by trivial)(q:PE X o (wM i):=by exact pv _)(N:mem O i=true:=by rfl)(U:zcH o "append" X.env (eval o X.env)=eval o X.env:=by rfl)(M:((((zaJ cpos (zah [e] X.env)).all λx=>!x.fst) && (zcD cpos (zcE [] X.env)).all λx=>x.fst.isSome) && decide (([e].length+([]:List zbG).length+if([]:List zbG).isEmpty=true then 0 else 1)<30))=true:=by rfl)(J:(apos.endLine == cpos.line)=true:=by rfl)(B:zah [e] X.env=(false,eval e X.env)::zah [] X.env:=by rfl)(G:((zaJ cpos (zah [] X.env)).any λx=>x.fst)=false:=by rfl)(hs:za6 (.Call (.Attribute o "append" apos) [e] [] cpos) none pos.line X.env=pure false:=by rfl)(h:Sub O' O=true:=by rfl):iJ X L O (.Expr (.Call (.Attribute o "append" apos) [e] [] cpos) pos) (B5 i f) O':=BG q z N (P5 PySem.F.plainAttrs_list PySem.F.slot_list_append PySem.F.type_list_append tP q (gK (PD.pe z) mD (hs:=B)) U M J B G) hs h
theorem aP(q:PD X O e f:=by trivial):dJ X L O [.Return (some e) pos] (sM f) O':=aF (MF q)
theorem Z3(z:dJ X L O a f O')(B:dJ X L O b k O')(q:nQ X O c g:=by trivial):iJ X L O (.If c a b pos) (jI g f k) O':=BN q z B
theorem bK(z:dJ X L O a f O')(q:nQ X O c g:=by trivial)(h:Sub O' O=true:=by rfl):iJ X L O (.If c a [] pos) (jI g f mH) O':=BN q z (DW h)
theorem Y5{st:Stmt}:dJ X L O [st] PJ O':=aF FL
theorem c8{c:Expr}{st:Stmt}{pos:Pos}{g:Bv}(q:nQ X O c g:=by trivial)(h:Sub O' O=true:=by rfl):iJ X L O (.If c [st] [] pos) (jI g PJ mH) O':=BN q Y5 (DW h)
theorem a9(q z:List Nat)(B:dJ X ⟨z,q⟩ q body b q)(hi:PDI X O tg iter f:=by trivial)(M:zY X q tg g:=by trivial)(J:zcS (model X.prog X.w) X.A X.env X.xe:=by exact PassesOwn.never)(F:X.calm=true:=by rfl)(h1:Sub q O=true:=by rfl)(h2:Sub O' q=true:=by rfl)(G:Sub O' z=true:=by rfl)(hs:∀x,zbS iter X.env x=pure x:=by intro _;rfl):iJ X L O (.For tg iter body [] pos) (gC f g b) O':=L8 J F hi M B h1 h2 G hs
theorem PU(q z:List Nat)(B:dJ X ⟨z,q⟩ q body b q)(F:nQ X q c g:=by trivial)(J:zcS (model X.prog X.w) X.A X.env X.xe:=by exact PassesOwn.never)(h1:Sub q O=true:=by rfl)(h2:Sub O' q=true:=by rfl)(G:Sub O' z=true:=by rfl):iJ X L O (.While c body [] pos) (sA g b) O':=ET J F B h1 h2 G
theorem lG(i:Nat)(F:PD X O value fe:=by trivial)(J:PB X O k fk:=by trivial)(G:X.A.units+1<cLine:=by assumption)(z:PE X o (wM i):=by exact pv _)(M:mem O i=true:=by rfl)(h:Sub O' O=true:=by rfl)(hs:za6 value (some (.Subscript o k pos')) pos.line X.env=pure false:=by rfl)(q:zdI [.Subscript o k pos'] value pos.line X.env=pure false:=by rfl)(hw:zdJ [.Subscript o k pos'] value X.env=pure none:=by rfl)
  (B:∀ {to ti:TE} {t:LF},PE X o to->PE X k ti->PC X t->PG X (.Subscript o k pos') (U5 to ti t):=by intro _ _ _ a b c;exact JX a b c):iJ X L O (.Assign [.Subscript o k pos'] value pos) (wU i fk fe) O':=NN G z J F M h hs q hw B
theorem rZ(q:PB X O e f:=by trivial)(hs:za6 e none pos.line X.env=pure false:=by rfl)(h:Sub O' O=true:=by rfl):iJ X L O (.Expr e pos) (K5 f) O':=HC q hs h
theorem iF(σ:zab)(N:List Str)(ms:List (Option Nat))(hi:PDI X O tg iter it:=by trivial)(W:∀C s H fp,N.Nodup->zY (My.aX X N scope (gD X.env.cells scope.names []) C s H fp) [] tg g:=by intros;trivial)(z:∀C s H fp,My.EF (My.aX X N scope (gD X.env.cells scope.names []) C s H fp) ifs (tDT [] c):=by intros;trivial)(F:∀C s H fp,PD (My.aX X N scope (gD X.env.cells scope.names []) C s H fp) [] elt f:=by intros;trivial)
  (G:X.env.cells=zcF (σ.heap.objs.size+1) X.env.scope.names []:=by rfl) (q:c6 X scope N ms:=by repeat' first|exact zbh|exact rfl|exact zbL rfl|constructor) (B:N.Nodup:=by decide)
  (M:X.calm=true:=by rfl) (U:scope.kind=.function:=by rfl) (h:D0 scope.names X.env.scope.names=true:=by rfl) (J:(ms.all λo=>match o with|some i=>!O.contains i|none=>true)=true:=by rfl) (hs:∀x,zbS iter X.env x=pure x:=by intro _;rfl):PF X O (.ListComp elt [⟨tg,iter,ifs,0⟩] scope pos) (jH ms it g c f):=OO M (BR U h G) q J hi (λC s H fp=>W C s H fp B) z F hs
theorem S1(i:Nat)(σ:zab)(N:List Str)(ms:List (Option Nat))(hi:PDI X O tg iter it:=by trivial)(hg:∀C s H fp,N.Nodup->zY (My.aX X N scope (gD X.env.cells scope.names []) C s H fp) [] tg g:=by intros;trivial)(G:∀C s H fp,My.EF (My.aX X N scope (gD X.env.cells scope.names []) C s H fp) ifs (tDT [] c):=by intros;trivial)(M:∀C s H fp,PD (My.aX X N scope (gD X.env.cells scope.names []) C s H fp) [] elt f:=by intros;trivial)
  (U:X.env.cells=zcF (σ.heap.objs.size+1) X.env.scope.names []:=by rfl) (B:c6 X scope N ms:=by repeat' first|exact zbh|exact rfl|exact zbL rfl|constructor) (J:N.Nodup:=by decide)
  (hc:X.calm=true:=by rfl) (hk:scope.kind=.function:=by rfl) (h:D0 scope.names X.env.scope.names=true:=by rfl) (Y:(ms.all λo=>match o with|some i=>!O.contains i|none=>true)=true:=by rfl) (hs:∀x,zbS iter X.env x=pure x:=by intro _;rfl)
  (hX:X.N.Nodup:=by assumption) (F:X.N[i]?=some x:=by rfl) (hl:Loc X.env.scope x:=by first|exact zbL rfl|exact zcg rfl) (q:Sub O' (O.filter (· != i))=true:=by rfl) (z:za6 (.ListComp elt [⟨tg,iter,ifs,0⟩] scope pos) (some (.Name x pos')) spos.line X.env=pure true:=by rfl) (W:X.fn x=true\/X.env.scope.names.lookup x=some .local:=by first|exact .inl rfl|exact .inr rfl) :
  iJ X L O (.Assign [.Name x pos'] (.ListComp elt [⟨tg,iter,ifs,0⟩] scope pos) spos) (bS i (jH ms it g c f)) O':=JH hX F hl hc (BR hk h U) B Y hi (λC s H fp=>hg C s H fp J) G M q hs z W
theorem MY(i:Nat)(σ:zab)(N:List Str)(ms:List (Option Nat))(hi:PDI X O tg iter it:=by trivial)(hg:∀C s H fp,N.Nodup->zY (My.aX X N scope (gD X.env.cells scope.names []) C s H fp) [] tg g:=by intros;trivial)(J:∀C s H fp,My.EF (My.aX X N scope (gD X.env.cells scope.names []) C s H fp) ifs (tDT [] c):=by intros;trivial)(U:∀C s H fp,PD (My.aX X N scope (gD X.env.cells scope.names []) C s H fp) [] elt f:=by intros;trivial)
  (W:X.env.cells=zcF (σ.heap.objs.size+1) X.env.scope.names []:=by rfl) (B:c6 X scope N ms:=by repeat' first|exact zbh|exact rfl|exact zbL rfl|constructor) (M:N.Nodup:=by decide)
  (hc:X.calm=true:=by rfl) (hk:scope.kind=.function:=by rfl) (h:D0 scope.names X.env.scope.names=true:=by rfl) (hn:(ms.all λo=>match o with|some i=>!O.contains i|none=>true)=true:=by rfl) (hs:∀x,zbS iter X.env x=pure x:=by intro _;rfl)
  (hX:X.N.Nodup:=by assumption) (F:X.N[i]?=some x:=by rfl) (hl:Loc X.env.scope x:=by first|exact zbL rfl|exact zcg rfl) (q:Sub O' (i::O)=true:=by rfl) (G:O.contains i=false:=by rfl) (z:za6 (.ListComp elt [⟨tg,iter,ifs,0⟩] scope pos) (some (.Name x pos')) spos.line X.env=pure true:=by rfl) (Y:X.fn x=true\/X.env.scope.names.lookup x=some .local:=by first|exact .inl rfl|exact .inr rfl) :
  iJ X L O (.Assign [.Name x pos'] (.ListComp elt [⟨tg,iter,ifs,0⟩] scope pos) spos) (bS i (jH ms it g c f)) O':=ES hX F hl hc (BR hk h W) B hn hi (λC s H fp=>hg C s H fp M) J U q G hs z Y
end
theorem fx{Q:zap}{w:World}{K:zaf}{mg:Str->Option Value}{base:Heap}{x:Str}{k:Nat}{ps:List Str}{F:List D->Option D}(B:List D->Option D)(h:Fn Q w K mg base x k ps F)(e:F=B:=by rfl):Fn Q w K mg base x k ps B:=e ▸ h
noncomputable def VF:List Str->(List Value->Prop)->Prop
 | [],Q=>Q []
 | _::ps,Q=>∀u,VF ps λus=>Q (u::us)
theorem LU{ps:List Str}{Q:List Value->Prop}(h:VF ps Q){us:List Value}(e:us.length=ps.length):Q us:=by
 induction ps generalizing us Q with
 | nil=>rw[List.length_eq_zero_iff.mp e];exact h
 | cons a ps ih=>
  cases us with
  | nil=>cases e
  | cons u us=>exact ih (h u) (Nat.succ.inj e)
def Bd(st:Stmt)(x:Str)(ps:List Str):Prop:=∀(kV doc pm:Value) (an:Option Addr) (cdv ct:Value),VF ps λus=>bindArgs (zbI x x (dP st) (b9 st) (aU st) .none kV doc pm an cdv ct) ⟨us,[]⟩=pure (ps.zip us)
def De(K:zaf)(x:Str)(st:Stmt):Prop:=∃f,zcy K za1 x=some (some (.ref f))/\Fe K x st f
def Des(K:zaf)(tp:Nat->Stmt)(t:List (Str×Nat×List Str)):Prop:=∀p∈t,De K p.1 (tp p.2.1)
theorem Des.nil{K:zaf}{tp:Nat->Stmt}:Des K tp []:=λ_ h=>nomatch h
theorem Des.cons{K:zaf}{tp:Nat->Stmt}{x:Str}{i:Nat}{ps:List Str}{t:List (Str×Nat×List Str)}{f:Addr}{G:Value}{od J:Option Addr}{B:Array (Option Value)}{kV z F q ct:Value}(a:zcy K za1 x=some (some (.ref f)))(l:K.lookup f=some ⟨G,od,.func (zbI x x (dP (tp i)) (b9 (tp i)) (aU (tp i)) .none kV z F J q ct),B⟩)(c:zcV K q x=true)(k:zcs K (.ref f)=true)(r:Des K tp t):Des K tp ((x,i,ps)::t):=
 zeE.2 ⟨⟨f,a,Fe.mk l c k⟩,r⟩
def Bds(tp:Nat->Stmt)(t:List (Str×Nat×List Str)):Prop:=∀p∈t,Bd (tp p.2.1) p.1 p.2.2
theorem Bds.nil:Bds tp []:=λ_ h=>nomatch h
theorem Bds.cons(a:Bd (tp i) x ps)(r:Bds tp t):Bds tp ((x,i,ps)::t):=zeE.2 ⟨a,r⟩
theorem Des.d{K:zaf}{h:Heap}{mg:Str->Option Value}{tp:Nat->Stmt}{t:List (Str×Nat×List Str)}(X:K.In h)(G:h.Ns za1 mg)(D:Des K tp t)(B:Bds tp t):∀p∈t,My.DefAt K mg p.1 (tp p.2.1) p.2.2:=λp F=>let ⟨_,a,e⟩:=D p F;e.d (zeF X G a) λkV q J M z ct us=>LU (B p F kV q J M z ct)
def Nos(K:zaf)(t:List Str):Prop:=∀x∈t,zcy K za1 x=some none
theorem Nos.nil{K:zaf}:Nos K []:=λ_ h=>nomatch h
theorem Nos.cons{K:zaf}{x:Str}{t:List Str}(a:zcy K za1 x=some none)(r:Nos K t):Nos K (x::t):=zeE.2 ⟨a,r⟩
def Gis(K:zaf)(t:List (Str×Int)):Prop:=∀p∈t,∃k,zcy K za1 p.1=some (some (.int p.2 k))
theorem Gis.nil{K:zaf}:Gis K []:=λ_ h=>nomatch h
theorem Gis.cons{K:zaf}{x:Str}{n:Int}{k:Tok}{t:List (Str×Int)}(a:zcy K za1 x=some (some (.int n k)))(r:Gis K t):Gis K ((x,n)::t):=zeE.2 ⟨⟨k,a⟩,r⟩
theorem Gis.d{K:zaf}{h:Heap}{mg:Str->Option Value}{t:List (Str×Int)}(X:K.In h)(G:h.Ns za1 mg)(D:Gis K t):∀p∈t,GInt mg p.1 p.2:=λp q=>let ⟨_,a⟩:=D p q;⟨⟨_,zeF X G a⟩⟩
theorem rW{w:List D}{c:Int}(h0:0<=c)(h1:c<=(w.length:Int)):cutD w none (some c)=w.take c.toNat/\cutD w (some c) none=w.drop c.toNat:=by
 have q:HT.sIx w.length w.length (some c)=c.toNat:=by
  show(if c<0 then _ else min c.toNat w.length)=_;rw[if_neg (by lia)];lia
 have F:HT.sIx w.length 0 (some c)=c.toNat:=by
  show(if c<0 then _ else min c.toNat w.length)=_;rw[if_neg (by lia)];lia
 have B:HT.sIx w.length 0 none=0:=rfl;have z:HT.sIx w.length w.length none=w.length:=rfl;unfold cutD;rw[q,F,B,z];constructor
 ·simp
 ·rw[List.take_of_length_le (by simp)]
section
variable {ρ ρ':dB}{f g:Ev}{a b:Bv}{l:Lv}{x y d r:D}{xs:List D}{i j:Int}{k:Nat}{s t:Sv}{o:Option Out}
theorem SU(h:ρ[k]?=some (some x)):aB k ρ=some x:=by unfold aB;rw[h];rfl
theorem ZY:eC x ρ=some x:=rfl
theorem ED{w:D->D->Option D}(q:f ρ=some x)(B:g ρ=some y)(z:w x y=some r):aY w f g ρ=some r:=by unfold aY;rw[q,aA,B,aA,z]
theorem k9{F:List D->Option D}(h:l ρ=some xs)(k:F xs=some r):aQ F l ρ=some r:=by unfold aQ;rw[h,aA,k]
theorem MP(h:f ρ=some x)(k:l ρ=some xs):aC f l ρ=some (x::xs):=by unfold aC;rw[h,aA,k,aA]
theorem QN(h:l ρ=some xs):fP l ρ=some (.tup xs):=by unfold fP;rw[h,aD]
theorem RP(h:l ρ=some xs):tE l ρ=some (.lst xs):=by unfold tE;rw[h,aD]
theorem K1(h:f ρ=some (.int i)):lK f ρ=some (some i):=by unfold lK;rw[h,aA];rfl
theorem K6{w:D->Option Int->Option Int->Option D}{u v:Ov}{p q:Option Int}(z:f ρ=some x)(F:u ρ=some p)(G:v ρ=some q)(B:w x p q=some r):LN w f u v ρ=some r:=by unfold LN;rw[z,aA,F,aA,G,aA,B]
theorem Q5(h:f ρ=some (.int i)):PL f ρ=some (.int (-i)):=by unfold PL;rw[h,aA];rfl
theorem S2{c:Bool}(h:f ρ=some (.bl c)):eM f ρ=some c:=by unfold eM;rw[h,aA];rfl
theorem UF{c:Bool}(h:a ρ=some c):B8 a ρ=some (!c):=by unfold B8;rw[h,aD]
noncomputable def YF{α:Type}(c:Bool)(u v:α):α:=if c=true then u else v
theorem XM{q:Type}{c:Bool}{u v w:q}(h:c=true)(k:u=w):YF c u v=w:=(if_pos h).trans k
theorem XU{q:Type}{c:Bool}{u v w:q}(h:c=false)(k:v=w):YF c u v=w:=(if_neg (by rw[h];exact nofun)).trans k
theorem SN{c:Bool}{z:Option Bool}(h:a ρ=some c)(k:YF c (b ρ) (some false)=z):wN a b ρ=z:=by unfold wN;rw[h,aA];exact k
theorem VX{c:Bool}{z:Option Bool}(h:a ρ=some c)(k:YF c (some true) (b ρ)=z):VP a b ρ=z:=by unfold VP;rw[h,aA];exact k
theorem W3{c:Bool}(h:a ρ=some c)(k:YF c (s ρ) (t ρ)=o):jI a s t ρ=o:=by unfold jI;rw[h,aA];exact k
def sq(p:Out)(t:Sv):Option Out:=match p with
 | .nx ρ=>t ρ
 | p=>some p
theorem cN{p:Out}(h:s ρ=some p)(k:sq p t=o):bM s t ρ=o:=by unfold bM;rw[h,aA];exact k
theorem dS(k:t ρ=o):sq (.nx ρ) t=o:=k
theorem K0(h:f ρ=some x):sM f ρ=some (.rt x):=XN h
theorem Q9{w:Gv}(h:f ρ=some x)(k:w x ρ=some ρ'):PH f w ρ=some (.nx ρ'):=by unfold PH;rw[h,aA,k,aD]
theorem UM(h:aB k ρ=some (.lst xs))(e:f ρ=some x)(z:xs.length<=1000000):B5 k f ρ=some (.nx (ρ.set k (some (.lst (xs++[x]))))):=by
 unfold B5;rw[h,aA];show(f ρ).bind _=_;rw[e,aA];exact if_pos (decide_eq_true z)
theorem v6{u v:List D}(z:u.length+v.length<=1000000):cI (.lst u) (.lst v)=some (.lst (u++v)):=if_pos (decide_eq_true z)
theorem M4{u:List D}(z:u.length+1<=1000000):cI (.lst u) (.lst [x])=some (.lst (u++[x])):=v6 z
theorem V4(h:dW xs i=some x):aI (.lst xs) (.int i)=some x:=h
theorem UR(h:dW xs i=some x):aI (.tup xs) (.int i)=some x:=h
theorem M0{ms:List (Option Nat)}{w:Gv}{ds:List D}(h:l ρ=some xs)(z:xs.length<=1000000)(e:bW w a f xs (sL ms ρ)=some ds):jH ms l w a f ρ=some (.lst ds):=by unfold jH;rw[h,aA];exact(if_pos (decide_eq_true z)).trans (by rw[e,aD])
theorem R8{w:Gv}:bW w a f [] ρ=some []:=rfl
theorem OD{w:Gv}{ds:List D}(h:w x ρ=some ρ')(k:a ρ'=some true)(e:f ρ'=some y)(r:bW w a f xs ρ'=some ds):bW w a f (x::xs) ρ=some (y::ds):=by rw[bW,h,aA,k,aA,if_pos rfl,e,aA,r,aA]
theorem fN{R:D->Prop}(h:s ρ=some (.nx ρ'))(k:∃d,t ρ'=some (.rt d)/\R d):∃d,bM s t ρ=some (.rt d)/\R d:=by rw[aG h];exact k
theorem sF{w:Gv}(h:w x ρ=some ρ')(k:s ρ'=o):turn w s x ρ=o:=by unfold turn;rw[h,aA,k]
theorem iV{w:Gv}{Q:dB->Prop}(h:turn w s x ρ=some (.nx ρ'))(k:Q ρ'):∃ρ',turn w s x ρ=some (.nx ρ')/\Q ρ':=⟨_,h,k⟩
theorem TY{w:Gv}(h:l ρ=some xs)(k:bV w s xs ρ=o):gC l w s ρ=o:=by unfold gC;rw[h,aA,k]
theorem QP{w:Gv}:bV w s [] ρ=some (.nx ρ):=rfl
theorem O0{w:Gv}(h:turn w s x ρ=some (.nx ρ'))(k:bV w s xs ρ'=o):bV w s (x::xs) ρ=o:=by
 unfold turn at h;obtain⟨ρ1,q,z⟩:=bind_some h;unfold bV;rw[q,aA,z,aA];exact k
theorem MG{ys:List D}(h:l ρ=some [x])(e:(cP x).map (eL 0)=some ys):D6 l ρ=some ys:=by unfold D6;rw[h,aA];exact e
theorem TK(h:f ρ=some (.lst xs)):nM f ρ=some xs:=by unfold nM;rw[h,aA]
theorem WR{w:List D->Option (List D)}{ys:List D}(h:l ρ=some xs)(k:w xs=some ys):lR w l ρ=some ys:=by unfold lR;rw[h,aA,k]
theorem SX{u:Ev}{w:List D}(z:f ρ=some (.lst w))(q:g ρ=some (.int i))(B:u ρ=some (.lst [x]))(h0:0<=i)(h1:i<w.length)(F:w.length<=1000) :
  aY cI (aY cI (LN j8 f sE (lK g)) u) (LN j8 f (lK (aY cI g (eC (.int 1)))) sE) ρ=some (.lst (w.take i.toNat++x::w.drop (i.toNat+1))):=by
 obtain⟨n,rfl⟩:=Int.eq_ofNat_of_zero_le h0;refine(ED (ED (K6 z rfl (K1 q) rfl) B (v6 ?_)) (K6 z (K1 (ED q rfl rfl)) rfl rfl) (v6 ?_)).trans ?_
 all_goals rw[(rW h0 (by lia)).1]
 ·simp;lia
 ·rw[(rW (by lia) (by lia)).2];simp;lia
 ·rw[(rW (by lia) (by lia)).2];simp
end
end P
namespace Law
open PySem PySem.Spec PyProof.Rows L2 P
local macro_rules | `(tactic|ac_rfl) => `(tactic|first
 | (with_reducible first|exact ZY|exact R8|exact QP|exact rfl|assumption)
 | ((with_reducible apply SU);exact rfl)
 | (with_reducible first|apply dS|apply cN|apply SX|apply ED|apply MP|apply k9|apply aO|apply QN|apply RP|apply K6|apply K1|apply Q9|apply K0|apply W3|apply S2|apply Q5|apply M0|apply OD|apply TY|apply O0|apply sF|apply MG|apply TK|apply WR|apply UF|apply SN|apply VX|apply UM) <;> ac_rfl
 | ((with_reducible apply XM);(with_reducible first|exact rfl|(apply decide_eq_true;assumption));ac_rfl)
 | ((with_reducible apply XU);(with_reducible first|exact rfl|(apply decide_eq_false;assumption));ac_rfl)
 | (with_reducible apply XM) <;> ac_rfl
 | (with_reducible apply XU) <;> ac_rfl
 | (with_reducible first|apply bI|apply f9|apply q_eqI|apply V4|apply UR|apply M4|apply v6|apply decide_eq_true|apply decide_eq_false) <;> ac_rfl
 | (show bW _ _ _ _ _=_;assumption)
 | exact rfl
 | exact zfa rfl
 | decide
 | lia)
local macro_rules | `(tactic|simp_all[$xs,*]) => `(tactic|simp[-zad, -zae, aA, aD, $xs,*])
noncomputable def top(i:Nat):Stmt:=PySem.Challenge.pw_chiefway_k25_chief_makes.main.body.getD i (.Pass ⟨0,0,0,0⟩)
abbrev s_law:Stmt:=top 80
abbrev tb(x:Str)(i:Nat)(ps:List Str):=(x,i,ps)
def tab:List (Str×Nat×List Str):=[tb "_law_at" 60 ["script", "k"],tb "_law_unit" 62 ["M", "cell"],tb "_law_seats" 63 ["M", "script", "many"],tb "_law_road" 64 ["M", "seats", "j", "k", "cell"],tb "_law_roads" 65 ["M", "seats", "script"],tb "_law_spoiled" 68 ["M", "cell", "roads", "makes"],tb "_law_names" 61 ["cell", "many"],tb "_law_terms" 66 ["M", "seats", "takes", "gives", "some"],tb "_law_makes" 67 ["M", "seats", "script"],tb "_law_book" 69 ["script"],tb "is_whole" 8 ["thing"],tb "wheel" 9 ["thing"],tb "is_name" 50 ["text"],tb "check_kinds" 52 ["kinds"],tb "is_price" 54 ["price"],tb "on" 10 ["M", "n"],tb "roads_of" 53 ["M", "many", "roads"],tb "check_deeds" 58 ["makes"],tb "check_make" 56 ["many", "name", "takes", "gives", "price"],tb "form_of" 16 ["M", "sums"],tb "check_exponents" 15 ["n", "exponents"],tb "form" 14 ["M", "n", "terms"],tb "make_form" 57 ["M", "n", "terms"],tb "makes_of" 55 ["M", "many", "makes"],tb "book" 51 ["M", "kinds", "roads", "makes"],tb "_law_reach" 70 ["many", "roads"],tb "_law_fitting" 79 ["reach", "makes", "name", "some"],tb "_law_made" 73 ["M", "terms", "values"],tb "_law_along" 72 ["M", "roads", "way", "x"],tb "_law_first" 71 ["roads", "reach", "j", "k"],tb "_law_seen" 74 ["M", "roads", "reach", "make", "some", "values"],tb "_law_point" 75 ["p", "many"],tb "_law_tables" 76 ["M", "roads", "reach", "makes", "near", "some"],tb "_law_covers" 77 ["M", "roads", "reach", "pair", "mine", "other"],tb "_law_first_over" 78 ["M", "roads", "reach", "makes", "near", "tables"],tb "first_way" 32 ["book", "j", "k"],tb "plus" 17 ["M", "one", "other"],tb "added" 19 ["exponents", "others"],tb "times" 18 ["M", "one", "other"],tb "constant" 20 ["M", "n", "c"],tb "turned_form" 21 ["M", "n", "turn", "one"],tb "points" 29 ["n"],tb "power" 27 ["M", "value", "exponent"],tb "worth_at" 26 ["M", "one", "values"],tb "parting" 28 ["M", "n", "one", "other"],tb "turned" 11 ["M", "turn", "x"],tb "then" 12 ["M", "one", "other"],tb "turn_of" 33 ["book", "way"],tb "seen_shortfall" 38 ["book", "m", "v", "seen"],tb "first_shortfall" 40 ["book", "m", "seen"],tb "chief_of" 42 ["book", "seen"],tb "leads" 31 ["book", "j", "k"],tb "fits" 35 ["book", "v", "kinds"],tb "powers_of" 24 ["M", "n", "one", "most"],tb "by_powers" 25 ["M", "inner", "most", "factors"],tb "greatest" 23 ["one", "place"],tb "put" 22 ["M", "n", "outer", "inners"],tb "unknown" 37 ["M", "n", "place"],tb "seen_form" 36 ["book", "v", "kinds"],tb "seen_forms" 39 ["book", "name", "kinds"],tb "chief_make" 41 ["book", "name", "kinds"]]
noncomputable def blt:List Str:=["all", "bool", "dict", "enumerate", "int", "isinstance", "len", "list", "max", "min", "range", "sorted", "tuple", "zip"]
noncomputable def qj:List (Str×Int):=[("MOST_KINDS",6),("MOST_MAKES",16),("MOST_OF_A_DEED",6),("MOST_POWER",2),("MOST_ROADS",12)]
theorem sc_law:FnScope ["script", "M", "kinds", "roads", "makes", "made", "reach", "k", "cell", "name", "some", "near", "tables", "due", "found"] ["script"] (aU s_law):=⟨rfl,rfl,rfl,by decide +kernel,rfl,by decide +kernel,by decide +kernel⟩
structure Txt(K:zaf)(mg:Str->Option Value):Prop where
 d:∀p∈tab,My.DefAt K mg p.1 (top p.2.1) p.2.2
 b:∀x∈blt,mg x=none
 g:∀p∈qj,GInt mg p.1 p.2
 g_WORDS:GTup K mg "WORDS" ["let", "in", "pick", "again"]
theorem Txt.n{K:zaf}{mg:Str->Option Value}(T:Txt K mg){x:Str}(h:x∈blt:=by decide +kernel):mg x=none:=T.b x h
abbrev Tx(P:zap)(w:World)(K:zaf)(mg:Str->Option Value)(base:Heap):Prop:=Txt K mg
abbrev Zt(x:Str)(ps:List Str)(k n:Nat):Type:={b:Sv // ∀ {P:zap} {w:World} {K:zaf} {mg:Str->Option Value} {base:Heap},Tx P w K mg base->Fn P w K mg base x k ps (bA n b)}
def cY(N:List Str)(i:Nat){x:Str}{ps:List Str}{k:Nat}{b:Sv}(h:∀ {P:zap} {w:World} {K:zaf} {mg:Str->Option Value} {base:Heap} {B:Addr} {z:Value} {A:zas} {q:List Env} {H:Hp} {E:XK} (T:Tx P w K mg base) (s:zab) (nd:N.Nodup) (F:Room k (A.deeper (zbo x (aU (top i)) s.heap.objs.size B z))) (hu:(A.deeper (zbo x (aU (top i)) s.heap.objs.size B z)).units+1<cLine),∃g,dJ (sJ GN P w K mg base N x (aU (top i)) B z A q s H E).nox ⟨[],[]⟩ [] (b9 (top i)) g []/\g=b)(m:(x,i,ps)∈tab:=by decide +kernel)(sc:FnScope N ps (aU (top i)):=by exact⟨rfl,rfl,rfl,by decide +kernel,rfl,by decide +kernel,by decide +kernel⟩):Zt x ps (k+1) N.length:=⟨b,λT=>W0 (T.d _ m) sc λB z A q s H E F=>h T s sc.nd F (QC F)⟩
local macro_rules | `(tactic|exists $x:ident) => `(tactic|(refine' (?f:∀y:Sv, Subtype.val $x = y -> Sv) _ ?h;(case h => unfold $x;(try unfold cY);(try dsimp only);try exact rfl);(case f => exact λy _ => y)))
theorem Y7{X:Cx}{O:List Nat}{p:Pos}(T:Txt X.K X.mg)(q:Gl X "MOST_KINDS"):PD X O (.Name "MOST_KINDS" p) (eC (.int 6)):=lF (T.g ("MOST_KINDS",6) (by decide +kernel)) q
theorem ZD{X:Cx}{O:List Nat}{p:Pos}(T:Txt X.K X.mg)(q:Gl X "MOST_MAKES"):PD X O (.Name "MOST_MAKES" p) (eC (.int 16)):=lF (T.g ("MOST_MAKES",16) (by decide +kernel)) q
theorem Z2{X:Cx}{O:List Nat}{p:Pos}(T:Txt X.K X.mg)(q:Gl X "MOST_OF_A_DEED"):PD X O (.Name "MOST_OF_A_DEED" p) (eC (.int 6)):=lF (T.g ("MOST_OF_A_DEED",6) (by decide +kernel)) q
theorem ZM{X:Cx}{O:List Nat}{p:Pos}(T:Txt X.K X.mg)(q:Gl X "MOST_POWER"):PD X O (.Name "MOST_POWER" p) (eC (.int 2)):=lF (T.g ("MOST_POWER",2) (by decide +kernel)) q
theorem ZI{X:Cx}{O:List Nat}{p:Pos}(T:Txt X.K X.mg)(q:Gl X "MOST_ROADS"):PD X O (.Name "MOST_ROADS" p) (eC (.int 12)):=lF (T.g ("MOST_ROADS",12) (by decide +kernel)) q
theorem gt_0{X:Cx}{O:List Nat}{e:Expr}{f:Ev}{p pos:Pos}(T:Txt X.K X.mg)(z:Gl X "WORDS")(q:PB X O e f):nQ X O (.Compare e [.In] [.Name "WORDS" p] pos) (eM (uP (PM false ["let", "in", "pick", "again"]) f)):=ND T.g_WORDS z q
local macro_rules | `(tactic|trivial) => `(tactic|first
 | (show PB _ _ _ _;first|(apply vB <;> trivial)|(apply PD.b <;> trivial))
 | (show PD _ _ _ _;first|(apply vD <;> trivial)|(apply wE <;> trivial)|((first|apply QO|apply P6|apply rSl|apply rIt|apply qc|apply wt|apply W8|apply TB|apply SS|apply YW|apply ZZ|apply ZT|apply WB|apply VW|apply V5|apply Y7|apply ZD|apply Z2|apply ZM|apply ZI|apply VZ|apply TR|apply rCm|apply RQ|apply RN|apply Q7|apply WY|apply IA|apply SA|apply NV|apply LR|apply rJn|apply PF.d) <;> trivial))
 | (show zX _ _ _ _;((first|apply MK|apply QE) <;> trivial))
 | (show oK _ _ _ _;((first|apply CV|apply YG) <;> trivial))
 | (show Len _ _;((first|apply l0|apply lc) <;> trivial))
 | (show gE _ _ _;((first|apply LO|apply Q0|apply RO|apply OQ|apply S7|apply XA|apply W9|apply Q6|apply QT|apply QQ|apply MQ|apply xEq|apply xNe|apply xLt) <;> trivial))
 | (show At _ _ _;first|exact at_ 0|exact at_ 1|exact at_ 2|exact at_ 3|exact at_ 4|exact at_ 5|exact at_ 6|exact at_ 7|exact at_ 8|exact at_ 9|exact at_ 10|exact at_ 11|exact at_ 12|exact at_ 13|exact at_ 14)
 | (show nQ _ _ _ _;first|((first|apply gt_0|apply ZS|apply qb|apply tc|apply FP|apply BI|apply L5) <;> trivial)|(apply PDW.pt <;> trivial)|(apply OK <;> trivial))
 | (show PDW _ _ _ _;((first|apply NF|apply T6|apply HV|apply M8) <;> trivial))
 | (show QK _ _ _ _;((first|apply IQ|apply IM) <;> trivial))
 | (show PDI _ _ _ _ _;((first|apply A6|apply AG|apply AW|apply L6|apply HZ|apply IW|apply JM) <;> trivial))
 | (show zY _ _ _ _;first|(apply gV <;> trivial)|(apply gu 2 <;> trivial)|(apply gu 3 <;> trivial)|(apply gu 5 <;> trivial))
 | (show B7 _ _ _ _;((first|apply HF|apply gc) <;> trivial))
 | (show My.EF _ _ _;((first|apply HW|apply G9) <;> trivial))
 | (show PF _ _ _ _;((first|apply wl|apply Z5|apply rSo) <;> trivial))
 | rfl
 | assumption
 | exact Txt.n (by assumption)
 | exact .inl rfl
 | exact .inr rfl
 | exact .inr (.inl rfl)
 | exact .inr (.inr rfl)
 | exact λ_=>rfl
 | exact λ_ _=>rfl
 | (with_unfolding_all rfl)
 | (constructor <;> rfl))
seal PD PB PF zX oK nQ PDW PDI QK iJ dJ Fn gE zaq zaV
def f6:Zt "_law_at" ["script", "k"] 1 3:=cY ["script", "k", "cell"] 60 λT s B q z=>by exact⟨_,(c0 (bK aP) (c0 (aK 2) (c0 (bK (aF (aK 2))) (c0 (aK 2) aP)))),rfl⟩
def k4:Sv:=by exists f6
def dR:=bA 3 k4
def oZ:Zt "_law_unit" ["M", "cell"] 1 5:=cY ["M", "cell", "one", "back", "k"] 62 λT s B q z=>by exact⟨_,(c0 (aK 2) (c0 (aK 3) (c0 (a9 [] [] (c0 (aK 2) (aF (aK 3)))) (c0 (bK (c0 (aK 2) (aF (aK 3)))) (c0 (bK aP) aP))))),rfl⟩
def pT:Sv:=by exists oZ
def jV:=bA 5 pT
def mT:Zt "_law_seats" ["M", "script", "many"] 2 8:=cY ["M", "script", "many", "out", "k", "cell", "one", "back"] 63 λT s B q z=>by have:=fx dR (f6.2 T);have:=fx jV (oZ.2 T);exact⟨_,(cO [3] (b6 3) (c0 (a9 [3] [] (cO [3] (aK 5) (cO [3] (lD (by trivial) (lC (My.rQ (n:=2) rfl (by trivial)))) (aF (fB 3))))) aP)),rfl⟩
def mM:Sv:=by exists mT
def hW:=bA 8 mM
def pR:Zt "_law_road" ["M", "seats", "j", "k", "cell"] 1 7:=cY ["M", "seats", "j", "k", "cell", "a", "b"] 64 λT s B q z=>by exact⟨_,(c0 (aK 5) (c0 (aK 6) aP)),rfl⟩
def pA:Sv:=by exists pR
def qE:=bA 7 pA
def mX:Zt "_law_roads" ["M", "seats", "script"] 2 9:=cY ["M", "seats", "script", "many", "out", "k", "cell", "j", "spot"] 65 λT s B q z=>by have:=fx dR (f6.2 T);have:=fx qE (pR.2 T);exact⟨_,(c0 (aK 3) (cO [4] (b6 4) (cO [4] (a9 [4] [4] (cO [4] (aK 6) (cO [4] (aK 7) (cO [4] (bK (aF (aK 7))) (aF (bK (aF (fB 4)))))))) (c0 (a9 [4] [] (cO [4] (aK 6) (aF (bK (cO [4] (aK 7) (aF (fB 4))))))) (c0 (aK 8) aP))))),rfl⟩
def mR:Sv:=by exists mX
def gT:=bA 9 mR
def i7:Zt "_law_spoiled" ["M", "cell", "roads", "makes"] 1 15:=cY ["M", "cell", "roads", "makes", "at", "j", "k", "a", "b", "coin", "name", "takes", "gives", "terms", "more"] 68 λT s B q z=>by exact⟨_,(c0 (bK (c0 (aK 4) (c0 (lD (by trivial) (lC (My.rQ (n:=5) rfl (by trivial)))) (c0 (bK aP) aP)))) (c0 (bK (c0 (aK 4) (c0 (lD (by trivial) (lC (My.rQ (n:=5) rfl (by trivial)))) (c0 (aK 14) (c0 (bK (aF (aK 14))) (c0 (aK 13) aP)))))) aP)),rfl⟩
def bL:Sv:=by exists i7
def jB:=bA 15 bL
def eW:Zt "_law_names" ["cell", "many"] 1 8:=cY ["cell", "many", "letters", "size", "spot", "out", "k", "signs"] 61 λT s B q z=>by exact⟨_,(c0 (aK 2) (c0 (aK 3) (c0 (aK 4) (cO [5] (b6 5) (c0 (a9 [5] [] (cO [5,7] (b6 7 (KL (by trivial) (by trivial))) (cO [5] (lG 7) (cO [5] (bK (aF (aK 7 (PF.d (KL (by trivial) (by trivial)))))) (aF (fB 5)))))) aP))))),rfl⟩
def nD:Sv:=by exists eW
def eT:=bA 8 nD
def mS:Zt "_law_terms" ["M", "seats", "takes", "gives", "some"] 1 10:=cY ["M", "seats", "takes", "gives", "some", "i", "o", "rows", "e", "d"] 66 λT s B q z=>by exact⟨_,(c0 (aK 5) (c0 (aK 6) (c0 (Z3 (c0 (aK 7) (aF (aK 7))) (c0 (aK 8) (c0 (aK 9) (c0 (aK 7) (c0 (aK 7) (aF (aK 7))))))) (aP (PF.d (iF s ["es", "c", "seats", "gives", "M"] [none,none,some 1,some 3,some 0])))))),rfl⟩
def g7:Sv:=by exists mS
def nF:=bA 10 g7
def nC:Zt "_law_makes" ["M", "seats", "script"] 2 15:=cY ["M", "seats", "script", "many", "some", "names", "alone", "size", "out", "k", "cell", "takes", "gives", "n", "terms"] 67 λT s B q z=>by have:=fx dR (f6.2 T);have:=fx eT (eW.2 T);have:=fx nF (mS.2 T);exact⟨_,(c0 (aK 3) (c0 (S1 4 s ["k", "script", "M"] [none,some 2,some 0]) (c0 (aK 5) (c0 (aK 6) (c0 (aK 7) (c0 (bK (aF (aK 7))) (cO [8] (b6 8) (c0 (a9 [8] [] (cO [8] (aK 10) (cO [8] (aK 11) (cO [8] (aK 12) (cO [8] (aK 13) (cO [8] (bK (aF (aK 13))) (cO [8] (aK 14) (aF (fB 8))))))))) aP)))))))),rfl⟩
def nG:Sv:=by exists nC
def gX:=bA 15 nG
def oS:Zt "_law_book" ["script"] 3 6:=cY ["script", "M", "many", "seats", "roads", "makes"] 69 λT s B q z=>by have:=fx dR (f6.2 T);have:=fx gX (nC.2 T);have:=fx eT (eW.2 T);have:=fx gT (mX.2 T);have:=fx hW (mT.2 T);have:=fx jB (i7.2 T);exact⟨_,(c0 (aK 1) (c0 (bK (aF (aK 1))) (c0 (aK 2) (c0 (bK (aF (aK 2))) (c0 (aK 3) (c0 (aK 4) (c0 (lD (by trivial) (lC (My.rQ (n:=2) rfl (by trivial)))) aP))))))),rfl⟩
def pM:Sv:=by exists oS
def jR:=bA 6 pM
def oV:Zt "is_whole" ["thing"] 1 1:=cY ["thing"] 8 λT s B q z=>by exact⟨_,aP,rfl⟩
def AF:Sv:=by exists oV
def AC:=bA 1 AF
def CI:Zt "wheel" ["thing"] 2 1:=cY ["thing"] 9 λT s B q z=>by have:=fx AC (oV.2 T);exact⟨_,(c0 c8 (c0 c8 (c0 c8 aP))),rfl⟩
def DY:Sv:=by exists CI
def DJ:=bA 1 DY
def lT:Zt "is_name" ["text"] 1 1:=cY ["text"] 50 λT s B q z=>by exact⟨_,(c0 (bK aP) (aP (cB (BZ rfl) T.n My.boot_all (YG (PD.b (PF.d (iF s ["sign"] [none]))) (by trivial))))),rfl⟩
def uH:Sv:=by exists lT
def lW:=bA 1 uH
def jE:Zt "check_kinds" ["kinds"] 2 3:=cY ["kinds", "number", "kind"] 52 λT s B q z=>by have:=fx lW (lT.2 T);exact⟨_,(c0 c8 (aF (a9 [] [] (c0 c8 (aF c8))))),rfl⟩
def jF:Sv:=by exists jE
def jC:=bA 3 jF
def jU:Zt "is_price" ["price"] 1 1:=cY ["price"] 54 λT s B q z=>by exact⟨_,aP,rfl⟩
def pH:Sv:=by exists jU
def j4:=bA 1 pH
def CC:Zt "on" ["M", "n"] 1 2:=cY ["M", "n"] 10 λT s B q z=>by exact⟨_,aP,rfl⟩
def XF:Sv:=by exists CC
def wV:=bA 2 XF
def pU:Zt "roads_of" ["M", "many", "roads"] 2 9:=cY ["M", "many", "roads", "told", "j", "k", "a", "b", "price"] 53 λT s B q z=>by have:=fx j4 (jU.2 T);have:=fx wV (CC.2 T);exact⟨_,(c0 c8 (cO [3] (b6 3) (c0 (a9 [3] [] (cO [3] c8 (cO [3] c8 (aF (fB 3))))) aP))),rfl⟩
def pE:Sv:=by exists pU
def qA:=bA 9 pE
def i9:Zt "check_deeds" ["makes"] 1 8:=cY ["makes", "counted", "name", "takes", "gives", "terms", "price", "deed"] 58 λT s B q z=>by exact⟨_,(cO [1] (b6 1 k5) (aF (a9 [1] [] (cO [1] (aK 7) (cO [1] (lG 1) (aF c8)))))),rfl⟩
def jD:Sv:=by exists i9
def jG:=bA 8 jD
def kE:Zt "check_make" ["many", "name", "takes", "gives", "price"] 2 6:=cY ["many", "name", "takes", "gives", "price", "kind"] 56 λT s B q z=>by have:=fx lW (lT.2 T);have:=fx j4 (jU.2 T);exact⟨_,(c0 c8 (c0 c8 (c0 (a9 [] [] (aF c8)) (aF c8)))),rfl⟩
def kF:Sv:=by exists kE
def kM:=bA 6 kF
def d9:Zt "form_of" ["M", "sums"] 2 2:=cY ["M", "sums"] 16 λT s B q z=>by have:=fx wV (CC.2 T);exact⟨_,(aP (YO rK T.n My.boot_tuple (YG (PD.b (PF.d (iF s ["exponents", "c", "M"] [none,none,some 0]))) (by trivial)))),rfl⟩
def uC:Sv:=by exists d9
def d8:=bA 2 uC
def eQ:Zt "check_exponents" ["n", "exponents"] 1 3:=cY ["n", "exponents", "exponent"] 15 λT s B q z=>by exact⟨_,(c0 c8 (aF (a9 [] [] (aF c8)))),rfl⟩
def eP:Sv:=by exists eQ
def eR:=bA 3 eP
def wD:Zt "form" ["M", "n", "terms"] 3 6:=cY ["M", "n", "terms", "sums", "exponents", "c"] 14 λT s B q z=>by have:=fx eR (eQ.2 T);have:=fx d8 (d9.2 T);exact⟨_,(c0 c8 (cO [3] (b6 3 k5) (c0 (a9 [3] [] (cO [3] rZ (aF (lG 3)))) aP))),rfl⟩
def J4:Sv:=by exists wD
def rM:=bA 6 J4
def m9:Zt "make_form" ["M", "n", "terms"] 4 7:=cY ["M", "n", "terms", "told", "e", "exponents", "c"] 57 λT s F q B=>by have:=fx rM (wD.2 T);exact⟨_,(c0 (L4 (λ_ _ z=>z) (aF (aK 3))) (c0 (a9 [] [] (aF c8)) aP)),rfl⟩
def mL:Sv:=by exists m9
def nK:=bA 7 mL
def pG:Zt "makes_of" ["M", "many", "makes"] 5 9:=cY ["M", "many", "makes", "told", "name", "takes", "gives", "terms", "price"] 55 λT s B q z=>by have:=fx jG (i9.2 T);have:=fx kM (kE.2 T);have:=fx nK (m9.2 T);exact⟨_,(c0 c8 (cO [3] (b6 3) (c0 (a9 [3] [] (cO [3] rZ (aF (fB 3)))) (c0 rZ aP)))),rfl⟩
def oU:Sv:=by exists pG
def qG:=bA 9 oU
def KH:Zt "book" ["M", "kinds", "roads", "makes"] 6 4:=cY ["M", "kinds", "roads", "makes"] 51 λT s B q z=>by have:=fx jC (jE.2 T);have:=fx qG (pG.2 T);have:=fx qA (pU.2 T);have:=fx DJ (CI.2 T);exact⟨_,(c0 rZ (c0 rZ aP)),rfl⟩
def KR:Sv:=by exists KH
def KJ:=bA 4 KR
def mN:Zt "_law_reach" ["many", "roads"] 1 7:=cY ["many", "roads", "out", "j", "row", "k", "road"] 70 λT s q z B=>by exact⟨_,(cO [2] (b6 2) (c0 (a9 [2] [] (cO [2,4] (MY 4 s ["k", "j"] [none,some 3]) (cO [2] (a9 [2,4] [2] (aF (a9 [2,4] [2,4] (aF (bK (aF (lG 4))))))) (aF (fB 2)))) (by trivial) (yW (C8 (i:=3) q rfl (zcg rfl)))) aP)),rfl⟩
def mP:Sv:=by exists mN
def nB:=bA 7 mP
def iZ:Zt "_law_fitting" ["reach", "makes", "name", "some"] 1 9:=cY ["reach", "makes", "name", "some", "out", "v", "good", "j", "k"] 79 λT s B q z=>by exact⟨_,(cO [4] (b6 4) (c0 (a9 [4] [] (cO [4] (aK 6) (cO [4] (a9 [4] [4] (aF (aK 6))) (aF (bK (aF (fB 4))))))) aP)),rfl⟩
def i5:Sv:=by exists iZ
def i8:=bA 9 i5
def pX:Zt "_law_made" ["M", "terms", "values"] 1 9:=cY ["M", "terms", "values", "out", "es", "c", "e", "x", "k"] 73 λT s B q z=>by exact⟨_,(c0 (aK 3) (c0 (a9 [] [] (c0 (a9 [] [] (aF (a9 [] [] (aF (aK 5))))) (aF (aK 3)))) aP)),rfl⟩
def pY:Sv:=by exists pX
def pL:=bA 9 pY
def gW:Zt "_law_along" ["M", "roads", "way", "x"] 1 5:=cY ["M", "roads", "way", "x", "r"] 72 λT s B q z=>by exact⟨_,(c0 (a9 [] [] (aF (aK 3))) aP),rfl⟩
def m7:Sv:=by exists gW
def cE:=bA 5 m7
def g9:Zt "_law_first" ["roads", "reach", "j", "k"] 1 6:=cY ["roads", "reach", "j", "k", "way", "r"] 71 λT s B q z=>by exact⟨_,(c0 (aK 4) (c0 (PU [] [] (c0 (aK 5) (c0 (PU [] [] (aF (aK 5))) (c0 (aK 4) (aF (aK 2)))))) aP)),rfl⟩
def mK:Sv:=by exists g9
def dQ:=bA 6 mK
def pO:Zt "_law_seen" ["M", "roads", "reach", "make", "some", "values"] 2 10:=cY ["M", "roads", "reach", "make", "some", "values", "out", "j", "k", "x"] 74 λT s B q z=>by have:=fx cE (gW.2 T);have:=fx dQ (g9.2 T);have:=fx pL (pX.2 T);exact⟨_,(cO [6] (b6 6) (c0 (a9 [6] [] (aF (fB 6))) aP)),rfl⟩
def jN:Sv:=by exists pO
def gH:=bA 10 jN
def mJ:Zt "_law_point" ["p", "many"] 1 2:=cY ["p", "many"] 75 λT s B q z=>by exact⟨_,(c0 (bK aP) aP),rfl⟩
def g8:Sv:=by exists mJ
def eV:=bA 2 g8
def kT:Zt "_law_tables" ["M", "roads", "reach", "makes", "near", "some"] 3 10:=cY ["M", "roads", "reach", "makes", "near", "some", "out", "v", "row", "p"] 76 λT s B q z=>by have:=fx eV (mJ.2 T);have:=fx gH (pO.2 T);exact⟨_,(cO [6] (b6 6) (c0 (a9 [6] [] (cO [6,8] (b6 8) (cO [6] (a9 [6,8] [6] (aF (fB 8))) (aF (fB 6))))) aP)),rfl⟩
def kN:Sv:=by exists kT
def kG:=bA 10 kN
def kP:Zt "_law_covers" ["M", "roads", "reach", "pair", "mine", "other"] 2 9:=cY ["M", "roads", "reach", "pair", "mine", "other", "way", "x", "y"] 77 λT s B q z=>by have:=fx cE (gW.2 T);have:=fx dQ (g9.2 T);exact⟨_,(c0 (bK aP) (c0 (aK 6) (c0 (a9 [] [] (aF (bK aP))) aP))),rfl⟩
def gG:Sv:=by exists kP
def bZ:=bA 9 gG
def fV:Zt "_law_first_over" ["M", "roads", "reach", "makes", "near", "tables"] 3 12:=cY ["M", "roads", "reach", "makes", "near", "tables", "m", "mine", "good", "v", "other", "two"] 78 λT s B q z=>by have:=fx bZ (kP.2 T);exact⟨_,(c0 (a9 [] [] (c0 (aK 8) (c0 (a9 [] [] (c0 (aK 11) (aF (aK 8)))) (aF (bK aP))))) aP),rfl⟩
def fW:Sv:=by exists fV
def fT:=bA 12 fW
def eX:Zt "first_way" ["book", "j", "k"] 1 7:=cY ["book", "j", "k", "firsts", "kind", "number", "road"] 32 λT s B q z=>by exact⟨_,(cO [3] (b6 3 (E6 (by trivial) (by trivial))) (c0 (a9 [3] [] (aF (a9 [3] [3] (aF (bK (aF (lG 3))))))) aP)),rfl⟩
def nJ:Sv:=by exists eX
def cM:=bA 7 nJ
def wC:Zt "plus" ["M", "one", "other"] 3 6:=cY ["M", "one", "other", "sums", "exponents", "c"] 17 λT s B q z=>by have:=fx d8 (d9.2 T);exact⟨_,(cO [3] (b6 3 (fTy (JE rfl q.units) T.n My.boot_dict (by trivial))) (c0 (a9 [3] [] (aF (lG 3))) aP)),rfl⟩
def J8:Sv:=by exists wC
def mC:=bA 6 J8
def DV:Zt "added" ["exponents", "others"] 1 2:=cY ["exponents", "others"] 19 λT s B q z=>by exact⟨_,(c0 (bK aP) aP),rfl⟩
def vS:Sv:=by exists DV
def vT:=bA 2 vS
def oF:Zt "times" ["M", "one", "other"] 3 9:=cY ["M", "one", "other", "sums", "exponents", "c", "others", "d", "both"] 18 λT s B q z=>by have:=fx vT (DV.2 T);have:=fx d8 (d9.2 T);exact⟨_,(cO [3] (b6 3 k5) (c0 (a9 [3] [] (aF (a9 [3] [3] (cO [3] (aK 8) (aF (lG 3)))))) aP)),rfl⟩
def CU:Sv:=by exists oF
def k8:=bA 9 CU
def jW:Zt "constant" ["M", "n", "c"] 3 3:=cY ["M", "n", "c"] 20 λT s B q z=>by have:=fx d8 (d9.2 T);exact⟨_,(aP (cD (fx d8 (d9.2 T)) (q.mono (by decide)) (QE (by trivial) (QE (PF.d (GW z (PD.b (P6 OJ (by trivial) (by trivial))) (by trivial))) (by trivial))) (lc (lc l0)))),rfl⟩
def jM:Sv:=by exists jW
def jQ:=bA 3 jM
def dN:Zt "turned_form" ["M", "n", "turn", "one"] 4 4:=cY ["M", "n", "turn", "one"] 21 λT s B q z=>by have:=fx jQ (jW.2 T);have:=fx mC (wC.2 T);have:=fx k8 (oF.2 T);exact⟨_,aP,rfl⟩
def i4:Sv:=by exists dN
def bE:=bA 4 i4
def zF:Zt "points" ["n"] 1 1:=cY ["n"] 29 λT s B q z=>by exact⟨_,(c0 (bK (aP (PF.d (iF s ["x"] [none])))) (aP (PF.d (iF s ["x"] [none])))),rfl⟩
def qN:Sv:=by exists zF
def x8:=bA 1 qN
def DI:Zt "power" ["M", "value", "exponent"] 2 5:=cY ["M", "value", "exponent", "product", "factor"] 27 λT s B q z=>by have:=fx wV (CC.2 T);exact⟨_,(c0 (aK 3) (c0 (a9 [] [] (aF (aK 3))) aP)),rfl⟩
def C9:Sv:=by exists DI
def vK:=bA 5 C9
def pK:Zt "worth_at" ["M", "one", "values"] 3 9:=cY ["M", "one", "values", "total", "exponents", "c", "product", "exponent", "value"] 26 λT s B q z=>by have:=fx wV (CC.2 T);have:=fx vK (DI.2 T);exact⟨_,(c0 (aK 3) (c0 (a9 [] [] (c0 (aK 6) (c0 (a9 [] [] (aF (aK 6))) (aF (aK 3))))) aP)),rfl⟩
def pD:Sv:=by exists pK
def b5:=bA 9 pD
def uF:Zt "parting" ["M", "n", "one", "other"] 4 5:=cY ["M", "n", "one", "other", "point"] 28 λT s B q z=>by have:=fx x8 (zF.2 T);have:=fx b5 (pK.2 T);exact⟨_,(c0 (a9 [] [] (aF (bK aP))) aP),rfl⟩
def lY:Sv:=by exists uF
def tM:=bA 5 lY
def yJ:Zt "turned" ["M", "turn", "x"] 2 3:=cY ["M", "turn", "x"] 11 λT s B q z=>by have:=fx wV (CC.2 T);exact⟨_,aP,rfl⟩
def zD:Sv:=by exists yJ
def yU:=bA 3 zD
def JR:Zt "then" ["M", "one", "other"] 3 3:=cY ["M", "one", "other"] 12 λT s B q z=>by have:=fx wV (CC.2 T);have:=fx yU (yJ.2 T);exact⟨_,aP,rfl⟩
def KD:Sv:=by exists JR
def JQ:=bA 3 KD
def l5:Zt "turn_of" ["book", "way"] 4 4:=cY ["book", "way", "turn", "number"] 33 λT s B q z=>by have:=fx JQ (JR.2 T);exact⟨_,(c0 (aK 2) (c0 (a9 [] [] (aF (aK 2))) aP)),rfl⟩
def uD:Sv:=by exists l5
def iK:=bA 4 uD
def fU:Zt "seen_shortfall" ["book", "m", "v", "seen"] 5 7:=cY ["book", "m", "v", "seen", "way", "n", "one"] 38 λT s B q z=>by have:=fx cM (eX.2 T);have:=fx tM (uF.2 T);have:=fx iK (l5.2 T);have:=fx bE (dN.2 T);exact⟨_,(c0 (aK 4) (c0 (bK aP) (c0 (aK 5) (c0 (aK 6) aP)))),rfl⟩
def dC:Sv:=by exists fU
def cA:=bA 7 dC
def eS:Zt "first_shortfall" ["book", "m", "seen"] 6 5:=cY ["book", "m", "seen", "v", "values"] 40 λT s B q z=>by have:=fx cA (fU.2 T);exact⟨_,(c0 (a9 [] [] (c0 (aK 4) (aF (bK aP))) (yN (by trivial))) aP),rfl⟩
def c5:Sv:=by exists eS
def bY:=bA 5 c5
def pN:Zt "chief_of" ["book", "seen"] 7 3:=cY ["book", "seen", "m"] 42 λT s B q z=>by have:=fx bY (eS.2 T);exact⟨_,(c0 (a9 [] [] (aF (bK aP)) (yN (by trivial))) aP),rfl⟩
def qI:Sv:=by exists pN
def qD:=bA 3 qI
def CL:Zt "leads" ["book", "j", "k"] 2 3:=cY ["book", "j", "k"] 31 λT s B q z=>by have:=fx cM (eX.2 T);exact⟨_,aP,rfl⟩
def u9:Sv:=by exists CL
def vR:=bA 3 u9
def KS:Zt "fits" ["book", "v", "kinds"] 3 4:=cY ["book", "v", "kinds", "takes"] 35 λT s B q z=>by have:=fx vR (CL.2 T);exact⟨_,(c0 (aK 3) (c0 (bK aP) (aP (cB (BZ rfl) T.n My.boot_all (YG (PD.b (PF.d (iF s ["kind", "taken", "book"] [none,none,some 0]))) (by trivial)))))),rfl⟩
def KY:Sv:=by exists KS
def KB:=bA 4 KY
def nI:Zt "powers_of" ["M", "n", "one", "most"] 4 6:=cY ["M", "n", "one", "most", "powers", "exponent"] 24 λT s B q z=>by have:=fx jQ (jW.2 T);have:=fx k8 (oF.2 T);exact⟨_,(cO [4] (b6 4) (c0 (a9 [4] [] (aF (fB 4))) aP)),rfl⟩
def mQ:Sv:=by exists nI
def gU:=bA 6 mQ
def mZ:Zt "by_powers" ["M", "inner", "most", "factors"] 4 6:=cY ["M", "inner", "most", "factors", "total", "exponent"] 25 λT s B q z=>by have:=fx mC (wC.2 T);have:=fx k8 (oF.2 T);exact⟨_,(c0 (aK 4) (c0 (a9 [] [] (aF (aK 4))) aP)),rfl⟩
def mY:Sv:=by exists mZ
def hU:=bA 6 mY
def p9:Zt "greatest" ["one", "place"] 1 2:=cY ["one", "place"] 23 λT s B q z=>by exact⟨_,(aP (L7 rfl (by rfl) T.n (PD.b (PF.d (iF s ["exponents", "c", "place"] [none,none,some 1]))) (by trivial) rfl)),rfl⟩
def pQ:Sv:=by exists p9
def eD:=bA 2 pQ
def P7:Zt "put" ["M", "n", "outer", "inners"] 5 11:=cY ["M", "n", "outer", "inners", "last", "powers", "factors", "exponents", "c", "ahead", "part"] 22 λT s B q z=>by have:=fx hU (mZ.2 T);have:=fx eD (p9.2 T);have:=fx mC (wC.2 T);have:=fx gU (nI.2 T);have:=fx bE (dN.2 T);exact⟨_,(c0 (aK 4) (c0 (aK 5) (cO [6] (b6 6 k5) (c0 (a9 [6] [] (cO [6] (aK 9) (cO [6] (aK 10) (aF (lG 6))))) (c0 (bK aP) aP))))),rfl⟩
def K7:Sv:=by exists P7
def zJ:=bA 11 K7
def t7:Zt "unknown" ["M", "n", "place"] 4 3:=cY ["M", "n", "place"] 37 λT s B q z=>by have:=fx rM (wD.2 T);exact⟨_,(aP (cD (fx rM (wD.2 T)) (q.mono (by decide)) (QE (by trivial) (QE (by trivial) (QE (PF.d (JY (QE (JN (QE (YO rK T.n My.boot_tuple (YG (PD.b (PF.d (iF s ["other", "place"] [none,some 2]))) (by trivial))) (by trivial)) (λρ ds h=>(by have:=(lc (lc l0)) ρ ds h;lia))) (by trivial)) (λρ ds h=>(by have:=(lc l0) ρ ds h;lia)))) (by trivial)))) (lc (lc (lc l0))))),rfl⟩
def iN:Sv:=by exists t7
def fX:=bA 3 iN
def mI:Zt "seen_form" ["book", "v", "kinds"] 6 9:=cY ["book", "v", "kinds", "M", "n", "inners", "place", "kind", "turn"] 36 λT s B q z=>by have:=fx cM (eX.2 T);have:=fx zJ (P7.2 T);have:=fx iK (l5.2 T);have:=fx bE (dN.2 T);have:=fx fX (t7.2 T);exact⟨_,(c0 (aK 3) (c0 (aK 4) (cO [5] (b6 5) (c0 (a9 [5] [] (cO [5] (aK 8) (aF (fB 5)))) aP)))),rfl⟩
def hJ:Sv:=by exists mI
def eY:=bA 9 hJ
def kR:Zt "seen_forms" ["book", "name", "kinds"] 7 6:=cY ["book", "name", "kinds", "seen", "v", "make"] 39 λT s B q z=>by have:=fx KB (KS.2 T);have:=fx eY (mI.2 T);exact⟨_,(cO [3] (b6 3 IS) (c0 (a9 [3] [] (aF (bK (aF (lG 3))))) aP)),rfl⟩
def kH:Sv:=by exists kR
def kQ:=bA 6 kH
def kO:Zt "chief_make" ["book", "name", "kinds"] 8 3:=cY ["book", "name", "kinds"] 41 λT s B q z=>by have:=fx qD (pN.2 T);have:=fx kQ (kR.2 T);exact⟨_,aP,rfl⟩
def kL:Sv:=by exists kO
def kS:=bA 3 kL
def P3:{b:Sv // ∀ {P:zap} {w:World} {K:zaf} {mg:Str->Option Value} {base:Heap},Tx P w K mg base->ZOk P w K mg base ["script", "M", "kinds", "roads", "makes", "made", "reach", "k", "cell", "name", "some", "near", "tables", "due", "found"] "law" s_law 8 b}:=⟨_,λT J B A q s H E z=>by have G:=QC z;have F:=sc_law.nd;have:=fx KJ (KH.2 T);have:=fx kS (kO.2 T);have:=fx dR (f6.2 T);have:=fx jR (oS.2 T);have:=fx fT (fV.2 T);have:=fx i8 (iZ.2 T);have:=fx eT (eW.2 T);have:=fx nB (mN.2 T);have:=fx kG (kT.2 T);exact⟨_,(c0 (lD (by trivial) (lC (My.rQ (n:=4) rfl (by trivial)))) (c0 (aK 5) (c0 (aK 6) (c0 (a9 [] [] (c0 (aK 8) (c0 (aK 9) (c0 (bK (aF (aK 9))) (c0 (aK 8) (c0 (aK 10) (c0 (aK 11) (c0 (aK 12) (c0 (aK 13) (c0 (aK 14) (c0 (bK aP) (aF (bK aP))))))))))))) aP)))),rfl⟩⟩
def K8:Sv:=by exists P3
def Bd(k:Nat)(x:Int):Prop:=-(10^k)<x/\x<10^k
theorem Bd.mono(h:Bd k x)(l:k<=m):Bd m x:=by
 have:(10:Int)^k<=10^m:=by
  have:=Nat.pow_le_pow_right (show 0<10 by decide) l;exact_mod_cast this
 exact⟨by have:=h.1;lia,by have:=h.2;lia⟩
theorem Bd.mul(h:Bd k x)(g:Bd m y):Bd (k+m) (x*y):=by
 have:=SQ h.1 h.2 g.1 g.2;unfold Bd;rw[zdD];exact this
theorem Bd.add(h:Bd k x)(g:Bd k y):Bd (k+1) (x+y):=by
 have a:=h.1;have b:=h.2;have c:=g.1;have d:=g.2;unfold Bd;rw[zca];constructor <;> lia
theorem Bd.neg(h:Bd k x):Bd k (-x):=⟨by have:=h.2;lia,by have:=h.1;lia⟩
theorem Bd.mulH(h:Bd k x)(g:Bd m y)(z:k<=500)(q:m<=500):cC (.int x) (.int y)=some (.int (x*y)):=by
 have e:(10:Int)^500=10^250*10^250:=by rw[<- zdD]
 have h':=h.mono z;have g':=g.mono q;unfold Bd at h' g';rw[e]at h' g';exact c7 h'.1 h'.2 g'.1 g'.2
theorem Bd.of(q:M<10^60)(h:0<=x/\x<=M):Bd 60 x:=by
 have:(0:Int)<10^60:=by decide +kernel
 exact⟨by lia,by lia⟩
theorem Bd.mod(h0:0<M)(q:M<10^60):Bd 61 (x%M):=(Bd.of q ⟨zax x (zaX h0),zbX (zay x h0)⟩).mono (by decide)
theorem iC(ns:List Int):∃f:Int->Int,∀k:Int,0<=k->k<=1000->dR [.lst (ns.map .int),.int k]=some (.int (f k)):=by
 have h:∀k:Int,∃c:Int,0<=k->k<=1000->dR [.lst (ns.map .int),.int k]=some (.int c):=λk=>by
  by_cases h0:0<=k
  ·by_cases h1:k<=1000
   ·by_cases B:k<(ns.length:Int)
    ·obtain⟨c,G,_⟩:=yA h0 B
     exact⟨c,λ_ _=>aN (by simp_all[k4,aL,B,G])⟩
    ·have N:cC (.int 40692) (.int k)=some (.int (40692*k)):=c7 (by decide +kernel) (by decide +kernel) (by lia) (by lia)
     have U:cC (.int k) (.int k)=some (.int (k*k)):=c7 (by lia) (by lia) (by lia) (by lia);have fin:∀y:Int,-(100000000000)<y->y<100000000000->cC (.int y) (.int 48271)=some (.int (y*48271))/\cC (.int (y*48271%2147483647)) (.int (y*48271%2147483647))=some (.int (y*48271%2147483647*(y*48271%2147483647))):=λy a b=>by
      have c:=zax (y*48271) (show(2147483647:Int)≠0 by decide);have d:=zay (y*48271) (show(0:Int)<2147483647 by decide);exact⟨c7 (by lia) (by lia) (by decide +kernel) (by decide +kernel),c7 (by lia) (by lia) (by lia) (by lia)⟩
     by_cases J:(0:Int)<(ns.length:Int)
     ·have q:0<ns.length:=by lia
      obtain⟨c,G,_⟩:=yA (ns:=ns) (k:=k*k%(ns.length:Int)) (zax _ (zaX J)) (zay _ J);have c0:=zax c (show(2147483647:Int)≠0 by decide);have W:=zay c (show(0:Int)<2147483647 by decide);obtain⟨F,M⟩:=fin (40692*k+1+c%2147483647) (by lia) (by lia);exact⟨_,λ_ _=>aN (by simp_all[k4,aL,B,N,U,q,bI J,G,bI,F,M];rfl)⟩
     ·have q:¬ 0<ns.length:=by lia
      obtain⟨F,M⟩:=fin (40692*k+1) (by lia) (by lia);exact⟨_,λ_ _=>aN (by simp_all[k4,aL,B,N,q,bI,F,M];rfl)⟩
   ·exact⟨0,λ_ z=>absurd z h1⟩
  ·exact⟨0,λz=>absurd z h0⟩
 exact⟨λk=>(h k).choose,λk=>(h k).choose_spec⟩
theorem BJ(h3:3<=M)(J:M<10^60):∃a b:Int,jV [.int M,.int c]=some (.tup [.int a,.int b])/\(0<=a/\a<=M)/\0<=b/\b<=M:=by
 suffices h:∃d,jV [.int M,.int c]=some d/\∃a b:Int,d=.tup [.int a,.int b]/\(0<=a/\a<=M)/\0<=b/\b<=M by
  obtain⟨d,e,a,b,rfl,h⟩:=h;exact⟨a,b,e,h⟩
 have U:(10:Int)^60=1000000000000000000000000000000000000000000000000000000000000:=by decide +kernel
 have q:0<M:=by lia
 have G:=zax c (show(5:Int)≠0 by decide);have W:=zay c (show(0:Int)<5 by decide);refine dH ?_;unfold pT;rw[aG (aO (d:=.int 1) (by simp[-zad,-zae,aA,aD]))];rw[aG (aO (d:=.int 1) (by simp[-zad,-zae,aA,aD]))];refine eK (items:=aW 0 1 (c%5).toNat) (by simp_all[aL,bI,eE G (show c%5<=1000000 by lia)]) (λi ρ=>∃(a b:Int) (o:Option D),ρ=[some (.int M),some (.int c),some (.int a),some (.int b),o]/\(0<=a/\a<M)/\0<=b/\b<M) ⟨1,1,none,by ac_rfl,by lia,by lia,by lia⟩ ?_ ?_
 ·rintro i x ρ Y ⟨a,b,o,rfl,B,z⟩
  have N:cC (.int a) (.int 2)=some (.int (a*2)):=c7 (by lia) (by lia) (by decide +kernel) (by decide +kernel);have F:cC (.int b) (.int ((M+1)/2))=some (.int (b*((M+1)/2))):=c7 (by lia) (by lia) (by lia) (by lia);refine⟨[some (.int M),some (.int c),some (.int (a*2%M)),some (.int (b*((M+1)/2)%M)),some x],?_,_,_,_,rfl,⟨zax _ (zaX q),zay _ q⟩,zax _ (zaX q),zay _ q⟩;simp_all[turn,N,F,f9,bI q]
 ·rintro ρ ⟨a,b,o,rfl,B,z⟩
  refine vI (λρ=>∃(a b:Int),ρ=[some (.int M),some (.int c),some (.int a),some (.int b),o]/\(0<=a/\a<=M)/\0<=b/\b<=M) ?_ ?_
  ·by_cases h:c/5%2=1
   ·exact⟨_,by ac_rfl,M-a,M-b,rfl,by lia,by lia,by lia⟩
   ·exact⟨_,by ac_rfl,a,b,rfl,by lia,by lia,by lia⟩
  ·rintro ρ ⟨a,b,rfl,B,z⟩
   by_cases h:c/10%2=1
   ·exact⟨_,mB (by ac_rfl),b,a,rfl,z,B⟩
   ·rw[aG (ρ':=[some (.int M),some (.int c),some (.int a),some (.int b),o]) (by ac_rfl)]
    exact⟨_,by simp[-zad,-zae,aA,aD],a,b,rfl,B,z⟩
structure Se where
 x:Int
 y:Int
 z:Int
noncomputable def gQ(s:Se):D:=.tup [.int s.x,.int s.y,.int s.z]
def VI(M:Int)(s:Se):Prop:=(0<=s.x/\s.x<=M)/\(0<=s.y/\s.y<=M)/\0<=s.z/\s.z<=M
theorem X3:aI (gQ s) (.int 0)=some (.int s.x):=by unfold gQ;rw[q_itT];exact at0
theorem ZX:aI (gQ s) (.int 1)=some (.int s.y):=by unfold gQ;rw[q_itT];exact at1
theorem xK{ns:List Int}{M many:Int}(h3:3<=M)(F:M<10^60)(hm:1<=many/\many<=6):∃ss:List Se,hW [.int M,.lst (ns.map .int),.int many]=some (.lst (ss.map gQ))/\(ss.length:Int)=many/\∀s∈ss,VI M s:=by
 suffices h:∃d,hW [.int M,.lst (ns.map .int),.int many]=some d/\∃ss:List Se,d=.lst (ss.map gQ)/\(ss.length:Int)=many/\∀s∈ss,VI M s by
  obtain⟨d,e,ss,rfl,h⟩:=h;exact⟨ss,e,h⟩
 obtain⟨f,hf⟩:=iC ns;have q:0<M:=by lia
 refine dH ?_;unfold mM;rw[aG (aO (d:=.lst []) (by simp[-zad,-zae,aA,aD]))];refine eK (items:=aW 0 1 many.toNat) (by simp_all[aL,eE (show 0<=many by lia) (show many<=1000000 by lia)]) (λi ρ=>∃(ss:List Se) (G o5 o6 o7:Option D),ρ=[some (.int M),some (.lst (ns.map .int)),some (.int many),some (.lst (ss.map gQ)),G,o5,o6,o7]/\ss.length=i/\∀s∈ss,VI M s) ⟨[],none,none,none,none,by ac_rfl,rfl,λ_ h=>nomatch h⟩ ?_ ?_
 ·rintro i x ρ hx ⟨ss,G,o5,o6,o7,rfl,B,hs⟩
  obtain⟨W,rfl⟩:=bD hx;have hI:0<=(0:Int)+(i:Int)*1/\(0:Int)+(i:Int)*1<=6:=by lia
  generalize (0:Int)+(i:Int)*1=I at hI;have J:=hf (4+I) (by lia) (by lia);generalize f (4+I)=c at J;obtain⟨a,b,Y,ha,N⟩:=BJ (c:=c) h3 F;have U:=zax (c/20) (zaX q);have z1:=zay (c/20) q;have hz:aZ ss.length=true:=decide_eq_true (by lia);refine⟨[some (.int M),some (.lst (ns.map .int)),some (.int many),some (.lst ((ss++[(⟨a,b,c/20%M⟩:Se)]).map gQ)),some (.int I),some (.int c),some (.int a),some (.int b)],?_,_,_,_,_,_,rfl,by simp_all[B],λs h=>?_⟩
  ·simp_all[turn,J,Y,f9,bI q,hz,gQ]
  ·rcases List.mem_append.mp h with z|z
   ·exact hs s z
   ·rw[List.mem_singleton.mp z];exact⟨ha,N,U,by show c/20%M<=M;lia⟩
 ·rintro ρ ⟨ss,G,o5,o6,o7,rfl,B,hs⟩
  rw[a8]at B;exact⟨_,by simp[-zad,-zae,aA,aD],ss,rfl,by lia,hs⟩
def CF(many:Int)(r:Ro):Prop:=(0<=r.j/\r.j<r.k/\r.k<many)/\0<=r.p/\r.p<=10^30/\Bd 61 r.a/\Bd 61 r.b
theorem uI{ss:List Se}{i:Int}(h0:0<=i)(h:i<(ss.length:Int)):∃s∈ss,dW (ss.map gQ) i=some (gQ s):=by
 obtain⟨d,q,_,e⟩:=PX (l:=ss.map gQ) (k:=i) h0 (by rw[zal];exact h);obtain⟨s,hs,rfl⟩:=List.mem_map.mp q;exact⟨s,hs,e⟩
theorem oY{M many j k c:Int}{ss:List Se}(h3:3<=M)(aj:M<10^60)(hl:(ss.length:Int)=many)(hs:∀s∈ss,VI M s)(U:0<=j)(jk:j<k)(km:k<many):∃r:Ro,qE [.int M,.lst (ss.map gQ),.int j,.int k,.int c]=some (bB r)/\r.j=j/\r.k=k/\CF many r:=by
 have aa:(10:Int)^60=1000000000000000000000000000000000000000000000000000000000000:=by decide +kernel
 have ak:(10:Int)^30=1000000000000000000000000000000:=by decide +kernel
 have B:0<M:=by lia
 obtain⟨s,G,es⟩:=uI (ss:=ss) (i:=j) U (by lia);obtain⟨t,J,Y⟩:=uI (ss:=ss) (i:=k) (by lia) (by lia);obtain⟨s1,s2,s3⟩:=hs s G;obtain⟨t1,t2,t3⟩:=hs t J;have m1:cC (.int t.x) (.int s.y)=some (.int (t.x*s.y)):=c7 (by lia) (by lia) (by lia) (by lia);have a0:=zax (t.x*s.y) (zaX B);have N:=zay (t.x*s.y) B;generalize hA:t.x*s.y%M=A at a0 N;have m2:cC (.int A) (.int s.z)=some (.int (A*s.z)):=c7 (by lia) (by lia) (by lia) (by lia);have e0:=zax (c/3) (show(2:Int)≠0 by decide);have e1:=zay (c/3) (show(0:Int)<2 by decide);have g0:=zax (c/5) (show(2:Int)≠0 by decide);have g1:=zay (c/5) (show(0:Int)<2 by decide);have W:cC (.int M) (.int (c/3%2))=some (.int (M*(c/3%2))):=c7 (by lia) (by lia) (by lia) (by lia);have m4:cC (.int M) (.int (c/5%2))=some (.int (M*(c/5%2))):=c7 (by lia) (by lia) (by lia) (by lia);have w0:=zax (c/7) (show(1000000000000000000000000000000:Int)≠0 by decide);have w1:=zay (c/7) (show(0:Int)<1000000000000000000000000000000 by decide);have pw:CB (.int 10) (.int 30)=some (.int 1000000000000000000000000000000):=zM (by decide) (by decide) (by decide);have dm:dY (.int (c/7)) (.int 1000000000000000000000000000000)=some (.int (c/7%1000000000000000000000000000000)):=bI (by decide);have F:∀ {x y:Int},(0<=x/\x<=M)->0<=y->y<2->Bd 61 (x-M*y):=λ{x y} hx y0 y1=>by
  have q:(10:Int)^61=10000000000000000000000000000000000000000000000000000000000000:=by decide +kernel
  have:y=0\/y=1:=by lia
  rcases this with rfl|rfl
  ·exact⟨by rw[q];lia,by rw[q];lia⟩
  ·exact⟨by rw[q];lia,by rw[q];lia⟩
 refine⟨⟨j,k,A-M*(c/3%2),(t.z-A*s.z)%M-M*(c/5%2),c/7%1000000000000000000000000000000⟩,aN ?_,rfl,rfl,⟨U,jk,km⟩,w0,by show c/7%1000000000000000000000000000000<=_;lia,F ⟨a0,zbX N⟩ e0 e1,F ⟨zax _ (zaX B),zbX (zay _ B)⟩ g0 g1⟩;unfold pA;rw[aG (aO (d:=.int A) (by simp_all[aL,es,Y,X3,ZX,m1,bI B,hA]))];rw[aG (aO (d:=.int ((t.z-A*s.z)%M)) (by ac_rfl))];simp_all[aL,f9,bI,W,m4,pw,dm,bB]
theorem xH{ns:List Int}{M many:Int}{ss:List Se}(h3:3<=M)(N:M<10^60)(hm:1<=many/\many<=6)(hl:(ss.length:Int)=many)(hs:∀s∈ss,VI M s):∃rs:List Ro,gT [.int M,.lst (ss.map gQ),.lst (ns.map .int)]=some (.lst (rs.map bB))/\rs.length<=12/\∀r∈rs,CF many r:=by
 suffices h:∃d,gT [.int M,.lst (ss.map gQ),.lst (ns.map .int)]=some d/\∃rs:List Ro,d=.lst (rs.map bB)/\rs.length<=12/\∀r∈rs,CF many r by
  obtain⟨d,e,rs,rfl,h⟩:=h;exact⟨rs,e,h⟩
 obtain⟨f,hf⟩:=iC ns;have f3:=hf 3 (by decide) (by decide);have G:∀ {rs:List Ro} {r:Ro},(∀r∈rs,CF many r)->CF many r->∀q∈rs++[r],CF many q:=λh k q hq=>by
  rcases List.mem_append.mp hq with z|z
  ·exact h q z
  ·rw[List.mem_singleton.mp z];exact k
 refine dH ?_;unfold mR;have el:dA [.lst (ss.map gQ)]=some (.int many):=by rw[q_lenL,zal,hl]
 refine fN (aO (k9 (by ac_rfl) el)) (fN (ρ':=List.set _ 4 (some (.lst []))) (by ac_rfl) ?_);have r1:d5 [.int 1,.int many]=some (aW 1 1 (many-1).toNat):=fZ (by decide) (by decide) (by lia) (by lia);refine eK (items:=aW 1 1 (many-1).toNat) (by ac_rfl) (λi ρ=>∃(rs:List Ro) (o5 o6 o7:Option D),ρ=[some (.int M),some (.lst (ss.map gQ)),some (.lst (ns.map .int)),some (.int many),some (.lst (rs.map bB)),o5,o6,o7,none]/\rs.length<=i/\∀r∈rs,CF many r) ⟨[],none,none,none,by ac_rfl,by simp[-zad,-zae,aA,aD],λ_ h=>nomatch h⟩ ?_ ?_
 ·rintro i x ρ hx ⟨rs,o5,o6,o7,rfl,J,B⟩
  obtain⟨Y,rfl⟩:=bD hx;have U:1<=(1:Int)+(i:Int)*1/\(1:Int)+(i:Int)*1<many:=by lia
  generalize (1:Int)+(i:Int)*1=I at U;have fI:=hf (9+I) (by lia) (by lia);generalize f (9+I)=c at fI;have hz:(rs.map bB).length<=1000000:=by rw[zal];lia
  have pI:0<I+1:=by lia
  have F:=zax (c/11) (zaX pI);have W:=zay (c/11) pI;have hj:∃j:Int,-1<=j/\j<I/\bM (bS 7 (aY zU (aB 5) (eC (.int 1)))) (jI (eM (aY zZ (aY dY (aQ dR (aC (aB 2) (aC (eC (.int 3)) aT))) (eC (.int 3))) (eC (.int 2)))) (bS 7 (aY zU (aY dY (aY sZ (aB 6) (eC (.int 11))) (aY cI (aB 5) (eC (.int 1)))) (eC (.int 1)))) mH) [some (.int M),some (.lst (ss.map gQ)),some (.lst (ns.map .int)),some (.int many),some (.lst (rs.map bB)),some (.int I),some (.int c),o7,none]=some (.nx [some (.int M),some (.lst (ss.map gQ)),some (.lst (ns.map .int)),some (.int many),some (.lst (rs.map bB)),some (.int I),some (.int c),some (.int j),none]):=by
   by_cases h:f 3%3=2
   ·exact⟨c/11%(I+1)-1,by lia,by lia,by simp_all[f3,bI,h,f9,bI pI]⟩
   ·exact⟨I-1,by lia,by lia,by ac_rfl⟩
  obtain⟨j,j0,j1,ej⟩:=hj;have es:∀ {g h k:Sv} {ρ:dB},bM g (bM h k) ρ=bM (bM g h) k ρ:=by
   intro g h k ρ;unfold bM;cases g ρ with
   | none=>rfl
   | some o=>cases o <;> rfl
  by_cases h:0<=j
  ·obtain⟨r,er,_,_,ok⟩:=oY (c:=c/77) h3 N hl hs h j1 U.2
   apply iV
   ·refine sF rfl (cN (by ac_rfl) (dS ?_))
    rw[es];exact cN ej (dS (by ac_rfl))
   ·exact⟨rs++[r],_,_,_,by rw[za4];rfl,by simp[-zad,-zae,aA,aD];lia,G B ok⟩
  ·apply iV
   ·refine sF rfl (cN (by ac_rfl) (dS ?_))
    rw[es];exact cN ej (dS (by ac_rfl))
   ·exact⟨rs,_,_,_,rfl,by lia,B⟩
 ·rintro ρ ⟨rs,o5,o6,o7,rfl,J,B⟩
  rw[a8]at J;have r2:d5 [.int 15,.int 19]=some (aW 15 1 4):=fZ (by decide) (by decide) (by decide) (by decide);refine eK (items:=aW 15 1 4) (by ac_rfl) (λi ρ=>∃(rs:List Ro) (o5 o6 o7:Option D),ρ=[some (.int M),some (.lst (ss.map gQ)),some (.lst (ns.map .int)),some (.int many),some (.lst (rs.map bB)),o5,o6,o7,none]/\rs.length<=5+i/\∀r∈rs,CF many r) ⟨rs,o5,o6,o7,rfl,by lia,B⟩ ?_ ?_
  ·rintro i x ρ hx ⟨rs,o5,o6,o7,rfl,J,B⟩
   obtain⟨Y,rfl⟩:=bD hx;have U:15<=(15:Int)+(i:Int)*1/\(15:Int)+(i:Int)*1<19:=by lia
   generalize (15:Int)+(i:Int)*1=I at U;have fI:=hf I (by lia) (by lia);generalize f I=c at fI;have hz:(rs.map bB).length<=1000000:=by rw[zal];lia
   by_cases h1:1<many
   ·by_cases h2:c%2=1
    ·have p1:0<many-1:=by lia
     have F:=zax (c/2) (zaX p1);have W:=zay (c/2) p1;have d1:dY (.int (c/2)) (.int (many-1))=some (.int (c/2%(many-1))):=bI p1;generalize c/2%(many-1)=j at F W d1;have p2:0<many-1-j:=by lia
     have u0:=zax (c/10) (zaX p2);have u1:=zay (c/10) p2;obtain⟨r,er,_,_,ok⟩:=oY (j:=j) (k:=j+1+c/10%(many-1-j)) (c:=c/50) h3 N hl hs F (by lia) (by lia);apply iV
     ·exact sF rfl (by ac_rfl)
     ·exact⟨rs++[r],_,_,_,by rw[za4];rfl,by simp[-zad,-zae,aA,aD];lia,G B ok⟩
    ·apply iV
     ·exact sF rfl (by ac_rfl)
     ·exact⟨rs,_,_,_,rfl,by lia,B⟩
   ·apply iV
    ·exact sF rfl (by ac_rfl)
    ·exact⟨rs,_,_,_,rfl,by lia,B⟩
  ·rintro ρ ⟨rs,o5,o6,o7,rfl,J,B⟩
   rw[a8]at J;have ln:(rs.map bB).length=rs.length:=zal ..;have lp:(0:Int)<((rs.map bB).length:Int)+1:=by lia
   have F:=zax (f 3/3) (zaX lp);have W:=zay (f 3/3) lp;refine fN (by ac_rfl) ?_;generalize f 3/3%(((rs.map bB).length:Int)+1)=sp at F W;obtain⟨c1,c2⟩:=rW (w:=rs.map bB) (c:=sp) F (by lia);refine⟨.lst ((rs.drop sp.toNat++rs.take sp.toNat).map bB),?_,_,rfl,by simp[-zad,-zae,aA,aD];lia,λr h=>?_⟩
   ·have d1:j8 (.lst (rs.map bB)) (some sp) none=some (.lst ((rs.map bB).drop sp.toNat)):=by rw[q_slL,c2]
    have d2:j8 (.lst (rs.map bB)) none (some sp)=some (.lst ((rs.map bB).take sp.toNat)):=by rw[q_slL,c1]
    have hz:((rs.map bB).drop sp.toNat).length+((rs.map bB).take sp.toNat).length<=1000000:=by simp[-zad,-zae,aA,aD];lia
    rw[za4,List.map_drop,List.map_take]
    ac_rfl
   ·rcases List.mem_append.mp h with z|z
    ·exact B r (List.mem_of_mem_drop z)
    ·exact B r (List.mem_of_mem_take z)
def OkT(n:Nat)(t:My.Tm):Prop:=t.1.length=n/\(∀e∈t.1,0<=e/\e<=2)/\Bd 61 t.2
theorem jL(q:0<M)(es:dW S g=some (gQ s))(z:s.x=x):∀(ts:List My.Tm) (o1 o2:Option D),(∀t∈ts,cC (.int x) (.int t.2)=some (.int (x*t.2)))->bW (bO 2 (aM (aH 0) (aM (aH 1) bU))) zQ (fP (aC (aB 0) (aC (aY dY (aY cC (aY aI (aY aI (aB 2) (aB 3)) (eC (.int 0))) (aB 1)) (aB 4)) aT))) (ts.map bQ) [o1,o2,some (.lst S),some (.int g),some (.int M)]=some ((ts.map λt=>(t.1,x*t.2%M)).map bQ)
 | [],_,_,_=>rfl
 | t::ts,o1,o2,h=>by
  have ih:=jL q es z ts (some (tupI t.1)) (some (.int t.2)) λu B=>h u (zav _ B)
  have m:=h t (zau ..);rw[zak,bW];simp[-zad,-zae,aA,aD,bQ,es,X3,z,m,bI q]at ih ⊢;simp_all[ih]
theorem xE{M many g:Int}{ss:List Se}{tk so:List Int}(h3:3<=M)(B:M<10^60)(hl:(ss.length:Int)=many)(hs:∀s∈ss,VI M s)(as:(∃t,tk=[t])\/∃t u,tk=[t,u])(ad:∀t∈tk,0<=t/\t<many)(g0:0<=g)(g1:g<many)(ak:∃a b c d:Int,so=[a,b,c,d])(W:∀x∈so,0<=x/\x<=M) :
  ∃ts:List My.Tm,nF [.int M,.lst (ss.map gQ),tupI tk,.int g,.lst (so.map .int)]=some (.lst (ts.map bQ))/\ts.length<=6/\∀t∈ts,OkT tk.length t:=by
 have Mp:0<M:=by lia
 obtain⟨a,b,c,d,rfl⟩:=ak;have ba:=Bd.of B (W a (by simp[-zad,-zae,aA,aD]));have bb:=Bd.of B (W b (by simp[-zad,-zae,aA,aD]));have J:=Bd.of B (W c (by simp[-zad,-zae,aA,aD]));have N:=Bd.of B (W d (by simp[-zad,-zae,aA,aD]));obtain⟨⟨X,Y,Z⟩,aj,es⟩:=uI (ss:=ss) (i:=g) g0 (by lia);obtain⟨s1,s2,s3⟩:=hs _ aj;have bx:Bd 60 X:=Bd.of B s1;have ag:Bd 60 Y:=Bd.of B s2;have bz:Bd 60 Z:=Bd.of B s3;have b4:dW (ss.map gQ) g=some (.tup [.int X,.int Y,.int Z]):=es;have two:Bd 60 2:=⟨by decide +kernel,by decide +kernel⟩;have v3:=ag.mul bz;have m3:=ag.mulH bz (by decide) (by decide);have U:∀ {v:Int},Bd 400 v->cC (.int X) (.int v)=some (.int (X*v)):=λh=>bx.mulH h (by decide) (by decide)
 rcases as with⟨t,rfl⟩|⟨t,u,rfl⟩
 ·have t0:=ad t (by simp[-zad,-zae,aA,aD])
  obtain⟨⟨_,i,z⟩,ac,er⟩:=uI (ss:=ss) (i:=t) t0.1 (by lia);obtain⟨r1,r2,r3⟩:=hs _ ac;have F:Bd 60 i:=Bd.of B r2;have bw:Bd 60 z:=Bd.of B r3;have G:=F.neg.mul bw;have mo:=F.neg.mulH bw (by decide) (by decide);have ao:dW (ss.map gQ) t=some (.tup [.int _,.int i,.int z]):=er;generalize -i*z=o at G mo;have n1:=bb.mulH G (by decide) (by decide);have n2:=J.mulH G (by decide) (by decide);have n3:=(J.mul G).mulH G (by decide) (by decide);have n4:=J.mulH F (by decide) (by decide);have n5:=(J.mul F).mulH F (by decide) (by decide);have n6:=bb.mulH F (by decide) (by decide);have n7:=two.mulH J (by decide) (by decide);have n8:=(two.mul J).mulH F (by decide) (by decide);have n9:=((two.mul J).mul F).mulH G (by decide) (by decide);have e1:=U ((((ba.mono (show 60<=300 by decide)).add ((bb.mul G).mono (show 60+(60+60)<=300 by decide))).add (((J.mul G).mul G).mono (show 60+(60+60)+(60+60)<=300+1 by decide))).mono (show 300+1+1<=400 by decide));have e2:=U (((J.mul F).mul F).mono (show 60+60+60<=400 by decide));have e3:=U ((((bb.mul F).mono (show 60+60<=350 by decide)).add ((((two.mul J).mul F).mul G).mono (show 60+60+60+(60+60)<=350 by decide))).mono (show 350+1<=400 by decide));have e4:=U (v3.mono (show 60+60<=400 by decide));have cm:=jL Mp es rfl [([0],a+b*o+c*o*o),([2],c*i*i),([1],b*i+2*c*i*o),([0],Y*Z)] none none (by simp only[zaE,zaF,or_false];rintro t (rfl|rfl|rfl|rfl) <;> assumption);refine⟨_,aN (d:=.lst (_)) (by unfold g7;ac_rfl),by simp[-zad,-zae,aA,aD],λq hq=>?_⟩;simp only[zak,zb1,zaE,zaF,or_false]at hq;rcases hq with rfl|rfl|rfl|rfl <;> exact⟨rfl,by simp[-zad,-zae,aA,aD],Bd.mod Mp B⟩
 ·have t0:=ad t (by simp[-zad,-zae,aA,aD])
  have u0:=ad u (by simp[-zad,-zae,aA,aD]);obtain⟨⟨_,i,z⟩,ac,er⟩:=uI (ss:=ss) (i:=t) t0.1 (by lia);obtain⟨⟨_,e,w⟩,aq,eq⟩:=uI (ss:=ss) (i:=u) u0.1 (by lia);obtain⟨r1,r2,r3⟩:=hs _ ac;obtain⟨q1,q2,q3⟩:=hs _ aq;have F:Bd 60 i:=Bd.of B r2;have bw:Bd 60 z:=Bd.of B r3;have G:=F.neg.mul bw;have mo:=F.neg.mulH bw (by decide) (by decide);have be:Bd 60 e:=Bd.of B q2;have bv:Bd 60 w:=Bd.of B q3;have bp:=be.neg.mul bv;have mp:=be.neg.mulH bv (by decide) (by decide);have ao:dW (ss.map gQ) t=some (.tup [.int _,.int i,.int z]):=er;have a2:dW (ss.map gQ) u=some (.tup [.int _,.int e,.int w]):=eq;generalize -i*z=o at G mo;generalize -e*w=p at bp mp;have n1:=N.mulH F (by decide) (by decide);have n2:=(N.mul F).mulH be (by decide) (by decide);have n3:=bb.mulH G (by decide) (by decide);have n4:=J.mulH bp (by decide) (by decide);have n5:=N.mulH G (by decide) (by decide);have n6:=(N.mul G).mulH bp (by decide) (by decide);have n7:=J.mulH be (by decide) (by decide);have n8:=(N.mul G).mulH be (by decide) (by decide);have n9:=bb.mulH F (by decide) (by decide);have cc:=(N.mul F).mulH bp (by decide) (by decide);have e1:=U (((N.mul F).mul be).mono (show 60+60+60<=400 by decide));have e2:=U (((((ba.mono (show 60<=300 by decide)).add ((bb.mul G).mono (show 60+(60+60)<=300 by decide))).add ((J.mul bp).mono (show 60+(60+60)<=300+1 by decide))).add (((N.mul G).mul bp).mono (show 60+(60+60)+(60+60)<=300+1+1 by decide))).mono (show 300+1+1+1<=400 by decide));have e3:=U ((((J.mul be).mono (show 60+60<=350 by decide)).add (((N.mul G).mul be).mono (show 60+(60+60)+60<=350 by decide))).mono (show 350+1<=400 by decide));have e4:=U ((((bb.mul F).mono (show 60+60<=350 by decide)).add (((N.mul F).mul bp).mono (show 60+60+(60+60)<=350 by decide))).mono (show 350+1<=400 by decide));have e5:=U (v3.mono (show 60+60<=400 by decide));have cm:=jL Mp es rfl [([1,1],d*i*e),([0,0],a+b*o+c*p+d*o*p),([0,1],c*e+d*o*e),([1,0],b*i+d*i*p),([0,0],Y*Z)] none none (by simp only[zaE,zaF,or_false];rintro t (rfl|rfl|rfl|rfl|rfl) <;> assumption);refine⟨_,aN (d:=.lst (_)) (by unfold g7;ac_rfl),by simp[-zad,-zae,aA,aD],λq hq=>?_⟩;simp only[zak,zb1,zaE,zaF,or_false]at hq;rcases hq with rfl|rfl|rfl|rfl|rfl <;> exact⟨rfl,by simp[-zad,-zae,aA,aD],Bd.mod Mp B⟩
theorem N4{ss:List Str}(h:∀s∈ss,∃n,s=⟨#[n]⟩):(ss.map (·.length)).sum=ss.length:=by
 induction ss with
 | nil=>rfl
 | cons s ss ih=>
  obtain⟨n,rfl⟩:=h s (zau ..);rw[zak,zdc,ih λt q=>h t (zav _ q),za3];show 1+ss.length=ss.length+1
  lia
noncomputable def sg(S:Str)(i:Int):Nat:=S.cps.toList.getD i.toNat 0
theorem OH(hz:z.length<=1000)(h0:0<=i)(h:i<(z.length:Int)):aI (.str z) (.int i)=some (.str ⟨#[sg z i]⟩):=by
 obtain⟨j,rfl⟩:∃j:Nat,i=(j:Int):=⟨i.toNat,by lia⟩;have q:j<z.cps.toList.length:=by rw[zbf];show j<z.length;lia
 have e:dW z.cps.toList (j:Int)=some z.cps.toList[j]:=bG (by simp_all[q]);have B:sg z (j:Int)=z.cps.toList[j]:=by
  unfold sg;rw[zb6,List.getD_eq_getElem?_getD,zaL q];rfl
 rw[B];show(if aZ z.length then(dW z.cps.toList (j:Int)).map (λc=>D.str ⟨#[c]⟩)else none)=_;rw[if_pos (show aZ z.length=true from decide_eq_true (by lia)),e];rfl
theorem join_ones:∀l:List Nat,(Str.join "" (l.map λg=>(⟨#[g]⟩:Str))).cps.toList=l
 | []=>rfl
 | [g]=>rfl
 | g::g'::l=>by
  have ih:=join_ones (g'::l);show((⟨#[g]⟩:Str) ++ "" ++ Str.join "" ((g'::l).map λg=>(⟨#[g]⟩:Str))).cps.toList=_;have e:∀a b:Str,(a++b).cps=a.cps++b.cps:=λ_ _=>rfl
  rw[e,e,Array.toList_append,Array.toList_append,ih];rfl
theorem ID:Txt.join sep ys=Str.join sep ys:=by
 have:=join_closes (sep:=sep) (sep':=sep) (ys:=ys) rfl;simpa using this
theorem JA(l:List Nat):((l.map λg=>(⟨#[g]⟩:Str)).map (·.length)).sum=l.length:=by
 rw[N4 (ss:=l.map λg=>(⟨#[g]⟩:Str)) λs hs=>by obtain⟨g,_,rfl⟩:=List.mem_map.mp hs;exact⟨g,rfl⟩,zal]
noncomputable def low(c:Nat):Bool:=decide (97<=c) && decide (c<=122)
def rR(x:Str):Bool:=decide (1<=x.length) && decide (x.length<=8) && (x.cps.toList.all low) && !((["let", "in", "pick", "again"]:List Str).contains x)
theorem R4(c:Nat):(!decide ((⟨#[c]⟩:Str).cps.toList<("a" : Str).cps.toList))=decide (97<=c)/\(!decide (("z" : Str).cps.toList<(⟨#[c]⟩:Str).cps.toList))=decide (c<=122):=by
 have ea:("a" : Str).cps.toList=[97]:=by decide
 have q:("z" : Str).cps.toList=[122]:=by decide
 have B:(⟨#[c]⟩:Str).cps.toList=[c]:=rfl;rw[ea,q,B];have h1:([c]<[97])↔c<97:=by simp_all[List.cons_lt_cons_iff]
 have h2:([122]<[c])↔122<c:=by simp_all[List.cons_lt_cons_iff]
 constructor
 ·by_cases h:c<97
  ·rw[decide_eq_true (h1.mpr h),decide_eq_false (by lia)];rfl
  ·rw[decide_eq_false (λz=>h (h1.mp z)),decide_eq_true (by lia)];rfl
 ·by_cases h:122<c
  ·rw[decide_eq_true (h2.mpr h),decide_eq_false (by lia)];rfl
  ·rw[decide_eq_false (λz=>h (h2.mp z)),decide_eq_true (by lia)];rfl
theorem yG:∀(cs:List Nat) (o:Option D),bW (aH 0) zQ (gN zV zV (eC (.str "a")) (aB 0) (eC (.str "z"))) (cs.map λc=>.str ⟨#[c]⟩) [o]=some ((cs.map low).map .bl)
 | [],o=>rfl
 | c::cs,o=>by
  have ih:=yG cs (some (.str ⟨#[c]⟩));obtain⟨z,B⟩:=R4 c;have q:zV (.str "a") (.str ⟨#[c]⟩)=some (.bl (decide (97<=c))):=by rw[q_leAS,z]
  have F:zV (.str ⟨#[c]⟩) (.str "z")=some (.bl (decide (c<=122))):=by rw[q_leAS,B]
  by_cases h:97<=c
  ·simp_all[-zaQ,-q_leAS,bW,gN,q,F,h,ih,low]
  ·simp_all[-zaQ,-q_leAS,bW,gN,q,h,ih,low]
theorem tR(hl:x.length<=1000):lW [.str x]=some (.bl (rR x)):=by
 refine aN ?_;have hz:aZ x.length=true:=decide_eq_true (by lia);have le:dA [.str x]=some (.int (x.length:Int)):=if_pos hz;have U:=yG x.cps.toList none;have F:aZ (P.signs x).length=true:=by
  have:(P.signs x).length=x.length:=by unfold P.signs;rw[zal,zbf];rfl
  rw[this];exact hz
 have W:(List.map low x.cps.toList).all id=x.cps.toList.all low:=by rw[List.all_map];rfl
 unfold uH rR;by_cases h1:x.length<1
 ·have q:(x.length:Int)<1:=by lia
  have h2:decide (1<=x.length)=false:=decide_eq_false (by lia);rw[h2]
  ac_rfl
 ·have q:¬ (x.length:Int)<1:=by lia
  have h2:decide (1<=x.length)=true:=decide_eq_true (by lia);rw[h2];by_cases Y:8<x.length
  ·have z:(8:Int)<(x.length:Int):=by lia
   have M:decide (x.length<=8)=false:=decide_eq_false (by lia);rw[M]
   ac_rfl
  ·have z:¬ (8:Int)<(x.length:Int):=by lia
   have M:decide (x.length<=8)=true:=decide_eq_true (by lia);rw[M];unfold P.signs at F;by_cases J:x = "let" \/ x = "in" \/ x = "pick" \/ x = "again"
   ·have B:(["let", "in", "pick", "again"]:List Str).contains x=true:=by simpa using J
    rw[B]
    ac_rfl
   ·have B:(["let", "in", "pick", "again"]:List Str).contains x=false:=by simpa using J
    rw[B];have sg:P.signs x=x.cps.toList.map λc=>D.str ⟨#[c]⟩:=rfl
    have N:B6 [.lst ((x.cps.toList.map low).map .bl)]=some (.bl (x.cps.toList.all low)):=by rw[q_all,W]
    have G:aZ x.cps.size=true:=hz;simp[-zad,-zae,aA,aD,-zaQ,-q_all,aL,le,q,z,J,sg,G,sL,U]at N ⊢
    ac_rfl
theorem P8(h0:0<=i)(h:i<26):aI (.str "abcdefghijklmnopqrstuvwxyz") (.int i)=some (.str ⟨#[97+i.toNat]⟩):=by
 have l:("abcdefghijklmnopqrstuvwxyz" : Str).length=26:=by decide +kernel
 rw[OH (by rw[l];decide) h0 (by rw[l];exact h)];have:∀j:Fin 26,sg "abcdefghijklmnopqrstuvwxyz" (j.val:Int)=97+j.val:=by decide +kernel
 have e:=this ⟨i.toNat,by lia⟩;have q:((i.toNat:Nat):Int)=i:=by lia
 rw[q]at e;rw[e]
noncomputable def j9(c:Int):Int:=if c/26%8=0 then 1 else if c/26%8=7 then 8 else c/26%8+2
def oJ(c k:Int):List Nat:=if c/1664%3=0 then zaP (1+(c+k)%8).toNat (97+(c%26).toNat)else(zaP (j9 c).toNat (97+(c%26).toNat)).set (c/208%j9 c).toNat (97+((c+1+k)%26).toNat)
def eO(c k:Int):Str:=⟨(oJ c k).toArray⟩
theorem EB(c:Int):1<=j9 c/\j9 c<=8/\j9 c≠2:=by
 unfold j9;have:=zax (c/26) (show(8:Int)≠0 by decide);have:=zay (c/26) (show(0:Int)<8 by decide);split
 ·lia
 ·split <;> lia
theorem lA(c k:Int):(oJ c k).length=(if c/1664%3=0 then(1+(c+k)%8).toNat else(j9 c).toNat):=by
 unfold oJ;split <;> simp[-zad,-zae,aA,aD]
theorem BS(c k:Int):1<=(eO c k).length/\(eO c k).length<=8:=by
 have e:(eO c k).length=(oJ c k).length:=by show(oJ c k).toArray.size=_;simp[-zad,-zae,aA,aD]
 have z:=EB c;rw[e,lA];split <;> lia
theorem SW(c k:Int):(eO c k).cps.toList.all low=true:=by
 show(oJ c k).toArray.toList.all low=true;rw[zcO];intro x q;have q:x∈oJ c k:=by simpa using q
 have a:x=97+(c%26).toNat\/x=97+((c+1+k)%26).toNat:=by
  unfold oJ at q;split at q
  ·exact .inl (zdd q)
  ·rcases List.mem_or_eq_of_mem_set q with z|z
   ·exact .inl (zdd z)
   ·exact .inr z
 unfold low;have:97<=x/\x<=122:=by lia
 ac_rfl
theorem N6(c k:Int):∃(a s:Nat),∀i x,i≠s->(oJ c k)[i]?=some x->x=a:=by
 unfold oJ;split
 ·exact⟨97+(c%26).toNat,100,λi x _ h=>zdd (zaI h)⟩
 ·refine⟨97+(c%26).toNat,(c/208%j9 c).toNat,λi x hi h=>?_⟩
  rw[zdG (zaS hi)]at h;exact zdd (zaI h)
theorem three{a s i j k x y z:Nat}{w:List Nat}(h:∀i x,i≠s->w[i]?=some x->x=a)(G:w[i]?=some x)(B:w[j]?=some y)(hz:w[k]?=some z)(n:i≠j/\i≠k/\j≠k)(m:x≠y/\x≠z/\y≠z):False:=by
 by_cases e:i=s
 ·have p:=h j y (λq=>n.1 (e.trans q.symm)) B
  have q:=h k z (λq=>n.2.1 (e.trans q.symm)) hz;exact m.2.2 (p.trans q.symm)
 ·have p:=h i x e G
  by_cases F:j=s
  ·exact m.2.1 (p.trans (h k z (λq=>n.2.2 (F.trans q.symm)) hz).symm)
  ·exact m.1 (p.trans (h j y F B).symm)
theorem vQ{c k:Int}{w:List Nat}(hw:w=[108,101,116]\/w=[112,105,99,107]\/w=[97,103,97,105,110]):oJ c k≠w:=by
 rintro rfl;obtain⟨a,s,h⟩:=N6 c k;rcases hw with e|e|e <;> rw[e]at h
 ·exact three (i:=0) (j:=1) (k:=2) h rfl rfl rfl (by decide) (by decide)
 ·exact three (i:=0) (j:=1) (k:=2) h rfl rfl rfl (by decide) (by decide)
 ·exact three (i:=0) (j:=1) (k:=3) h rfl rfl rfl (by decide) (by decide)
theorem UH:oJ c k≠[105,110]:=by
 intro e;have l:=congrArg zbH e;rw[lA]at l;have z:=EB c;unfold oJ at e;split at e
 ·have h0:(105:Nat)∈[105,110]:=by decide
  have h1:(110:Nat)∈[105,110]:=by decide
  rw[<- e]at h0 h1;have:=(zdd h0).trans (zdd h1).symm
  lia
 ·rw[if_neg (by assumption)]at l
  have l:(j9 c).toNat=2:=l
  lia
theorem PZ(h0:0<=k)(h:k<25):rR (eO c k)=true:=by
 obtain⟨B,F⟩:=BS c k;have hw:(["let", "in", "pick", "again"]:List Str).contains (eO c k)=false:=by
  have e:∀s:Str,eO c k=s->oJ c k=s.cps.toList:=λs z=>by rw[<- z];simp_all[eO]
  have J:("let" : Str).cps.toList=[108,101,116]:=by decide
  have G:("in" : Str).cps.toList=[105,110]:=by decide
  have M:("pick" : Str).cps.toList=[112,105,99,107]:=by decide
  have q:("again" : Str).cps.toList=[97,103,97,105,110]:=by decide
  have:¬ (eO c k = "let" \/ eO c k = "in" \/ eO c k = "pick" \/ eO c k = "again"):=by
   rintro(z|z|z|z)
   ·exact vQ (.inl J) (e _ z)
   ·exact UH ((e _ z).trans G)
   ·exact vQ (.inr (.inl M)) (e _ z)
   ·exact vQ (.inr (.inr q)) (e _ z)
  simpa using this
 unfold rR;rw[hw,SW,decide_eq_true B,decide_eq_true F];rfl
theorem S4(h0:0<=k)(h:k<8)(h2:0<=m)(J:m<8)(e:eO c k=eO c m):k=m:=by
 have e:oJ c k=oJ c m:=by
  have:=congrArg (λs:Str=>s.cps.toList) e;simpa[eO]using this
 have z:=EB c;by_cases q:c/1664%3=0
 ·have l:=congrArg zbH e
  rw[lA,lA,if_pos q,if_pos q]at l
  lia
 ·unfold oJ at e
  rw[if_neg q,if_neg q]at e;have G:=zax (c/208) (show j9 c≠0 by lia);have F:=zay (c/208) (show 0<j9 c by lia);have B:=congrArg (λl:List Nat=>l[(c/208%j9 c).toNat]?) e;simp[-zad,-zae,aA,aD,List.getElem?_set,show(c/208%j9 c).toNat<(j9 c).toNat by lia]at B
  lia
theorem qJ:∀n:Nat,(zaP n [x]).flatten=zaP n x
 | 0=>rfl
 | n+1=>by rw[zcu,zcI,qJ n];rfl
theorem SD(l:List Nat)(h:l.length<=100):uJ (.str "") (.lst (l.map λg=>.str ⟨#[g]⟩))=some (.str ⟨l.toArray⟩):=by
 have j:=Q1 (sep := "") (ss:=l.map λg=>(⟨#[g]⟩:Str)) (by
  rw[JA];show l.length+_*0<=_
  lia)
 rw[zaQ]at j;refine Eq.trans j ?_;congr 2;rw[ID];have:=join_ones l;cases hs:Str.join "" (l.map λg=>(⟨#[g]⟩:Str))with
 | mk cps=>
  rw[hs]at this;simp only at this;rw[<- this]
theorem HD(h0:0<=i)(h:i<8):dW [D.int 1,.int 3,.int 4,.int 5,.int 6,.int 7,.int 8,.int 8] i=some (.int (if i=0 then 1 else if i=7 then 8 else i+2)):=by
 have:i=0\/i=1\/i=2\/i=3\/i=4\/i=5\/i=6\/i=7:=by lia
 rcases this with rfl|rfl|rfl|rfl|rfl|rfl|rfl|rfl <;> rfl
theorem gZ(h0:0<=many)(h:many<=6):eT [.int c,.int many]=some (.lst ((zaB many.toNat).map λ(k:Nat)=>.str (eO c (k:Int)))):=by
 obtain⟨z1,z2,_⟩:=EB c;have i0:=zax (c/26) (show(8:Int)≠0 by decide);have i1:=zay (c/26) (show(0:Int)<8 by decide);have es:=HD i0 i1;have Y:=zax (c/208) (show j9 c≠0 by lia);have s1:=zay (c/208) (show 0<j9 c by lia);have a0:=zax c (show(26:Int)≠0 by decide);have a1:=zay c (show(0:Int)<26 by decide);have z8:aZ 8=true:=rfl;refine aN ?_;unfold nD;rw[aG (aO (d:=.str "abcdefghijklmnopqrstuvwxyz") (by simp[-zad,-zae,aA,aD]))];rw[aG (aO (d:=.int (j9 c)) (by simp_all[aL,f9,bI,es,j9,z8]))];rw[aG (aO (d:=.int (c/208%j9 c)) (by ac_rfl))];rw[aG (aO (d:=.lst []) (by simp[-zad,-zae,aA,aD]))];refine cF (items:=aW 0 1 many.toNat) (by simp_all[aL,eE h0 (show many<=1000000 by lia)]) (λi ρ=>∃o6 o7,ρ=[some (.int c),some (.int many),some (.str "abcdefghijklmnopqrstuvwxyz"),some (.int (j9 c)),some (.int (c/208%j9 c)),some (.lst ((zaB i).map λ(k:Nat)=>.str (eO c (k:Int)))),o6,o7]) ⟨none,none,by ac_rfl⟩ ?_ ?_
 ·rintro i x ρ hx ⟨o6,o7,rfl⟩
  obtain⟨W,rfl⟩:=bD hx;have hI:(0:Int)+(i:Int)*1=(i:Int):=by lia
  rw[hI];have b0:=zax (c+1+(i:Int)) (show(26:Int)≠0 by decide);have b1:=zay (c+1+(i:Int)) (show(0:Int)<26 by decide);have n0:=zax (c+(i:Int)) (show(8:Int)≠0 by decide);have n1:=zay (c+(i:Int)) (show(0:Int)<8 by decide);have hz:aZ i=true:=decide_eq_true (by lia);have q:aZ (j9 c).toNat=true:=decide_eq_true (by lia);have M:aZ (1+(c+(i:Int))%8).toNat=true:=decide_eq_true (by lia);have z:cS (j9 c)=true:=by simp only[cS,zaK,decide_eq_true_eq];lia
  have J:cS (1+(c+(i:Int))%8)=true:=by simp only[cS,zaK,decide_eq_true_eq];lia
  have N:=P8 a0 a1;have U:=P8 b0 b1;have nl:(oJ c (i:Int)).length<=100:=by rw[lA];split <;> lia
  have G:=SD (oJ c (i:Int)) nl;have pt:=RB (l:=zaP (j9 c).toNat (D.str ⟨#[97+(c%26).toNat]⟩)) (k:=c/208%j9 c) (e:=.str ⟨#[97+((c+1+(i:Int))%26).toNat]⟩) Y (by rw[List.length_replicate];lia);refine⟨[some (.int c),some (.int many),some (.str "abcdefghijklmnopqrstuvwxyz"),some (.int (j9 c)),some (.int (c/208%j9 c)),some (.lst ((zaB (i+1)).map λ(k:Nat)=>.str (eO c (k:Int)))),some (.int (i:Int)),some (.lst ((oJ c (i:Int)).map λg=>.str ⟨#[g]⟩))],?_,_,_,rfl⟩;have rs:(zaB (i+1)).map (λ(k:Nat)=>D.str (eO c (k:Int)))=(zaB i).map (λ(k:Nat)=>D.str (eO c (k:Int)))++[.str (eO c (i:Int))]:=by rw[List.range_succ,za4];rfl
  rw[rs];by_cases F:c/1664%3=0
  ·have B:oJ c (i:Int)=zaP (1+(c+(i:Int))%8).toNat (97+(c%26).toNat):=by unfold oJ;rw[if_pos F]
   rw[B,List.map_replicate]at G ⊢;have hs:eO c (i:Int)=⟨(zaP (1+(c+(i:Int))%8).toNat (97+(c%26).toNat)).toArray⟩:=by unfold eO;rw[B]
   simp_all[turn,bI,f9,N,U,qJ,q,M,z,J,pt,F,G,hz,hs]
  ·have B:oJ c (i:Int)=(zaP (j9 c).toNat (97+(c%26).toNat)).set (c/208%j9 c).toNat (97+((c+1+(i:Int))%26).toNat):=by unfold oJ;rw[if_neg F]
   rw[B,List.map_set,List.map_replicate]at G ⊢;have hs:eO c (i:Int)=⟨((zaP (j9 c).toNat (97+(c%26).toNat)).set (c/208%j9 c).toNat (97+((c+1+(i:Int))%26).toNat)).toArray⟩:=by unfold eO;rw[B]
   simp_all[turn,bI,f9,N,U,qJ,q,z,pt,F,G,hz,hs]
 ·rintro ρ ⟨o6,o7,rfl⟩
  rw[a8];simp[-zad,-zae,aA,aD]
structure Mk where
 nm:Str
 tk:List Int
 gv:Int
 ts:List My.Tm
 p:Int
def bP(m:Mk):D:=.tup [.str m.nm,tupI m.tk,.int m.gv,.lst (m.ts.map bQ),.int m.p]
structure OkM(many:Int)(n:Nat)(m:Mk):Prop where
 nm:rR m.nm=true
 nl:m.nm.length<=8
 tk:(∃t,m.tk=[t])\/∃t u,m.tk=[t,u]
 tb:∀t∈m.tk,0<=t/\t<many
 gv:0<=m.gv/\m.gv<many
 tl:m.ts.length<=n
 tt:∀t∈m.ts,OkT m.tk.length t
 pr:0<=m.p/\m.p<=10^30
theorem VE:cutD [x,y] none (some 1)=[x]/\cutD [x,y] none (some 2)=[x,y]:=⟨rfl,rfl⟩
theorem U0{q:Type}{P:q->Prop}{l:List q}{x:q}(h:∀y∈l,P y)(k:P x):∀y∈l++[x],P y:=λy B=>by
 rcases List.mem_append.mp B with z|z
 ·exact h y z
 ·rw[List.mem_singleton.mp z];exact k
theorem xB{ns:List Int}{M many:Int}{ss:List Se}(h3:3<=M)(ar:M<10^60)(hm:1<=many/\many<=6)(hl:(ss.length:Int)=many)(hs:∀s∈ss,VI M s):∃ms:List Mk,gX [.int M,.lst (ss.map gQ),.lst (ns.map .int)]=some (.lst (ms.map bP))/\ms.length<=5/\∀m∈ms,OkM many 6 m:=by
 suffices h:∃d,gX [.int M,.lst (ss.map gQ),.lst (ns.map .int)]=some d/\∃ms:List Mk,d=.lst (ms.map bP)/\ms.length<=5/\∀m∈ms,OkM many 6 m by
  obtain⟨d,e,ms,rfl,h⟩:=h;exact⟨ms,e,h⟩
 have Mp:0<M:=by lia
 have mp:0<many:=by lia
 obtain⟨f,J⟩:=iC ns;have f3:=J 3 (by decide) (by decide);have bu:=J 28 (by decide) (by decide);have bq:=J 24 (by decide) (by decide);have bw:=J 25 (by decide) (by decide);have az:=J 26 (by decide) (by decide);have bj:=J 27 (by decide) (by decide);have mb:∀x:Int,0<=x%M/\x%M<=M:=λx=>by
  have:=zax x (zaX Mp);have:=zay x Mp
  lia
 have mm:∀x:Int,0<=x%many/\x%many<many:=λx=>⟨zax x (zaX mp),zay x mp⟩
 have bo:d5 [.int 24,.int 28]=some [.int 24,.int 25,.int 26,.int 27]:=fZ (by decide) (by decide) (by decide) (by decide);obtain⟨a,ha,ab⟩:∃a,f 24%M=a/\0<=a/\a<=M:=⟨_,rfl,mb _⟩;obtain⟨b,hb,bb⟩:∃a,f 25%M=a/\0<=a/\a<=M:=⟨_,rfl,mb _⟩;obtain⟨c,hc,cb⟩:∃a,f 26%M=a/\0<=a/\a<=M:=⟨_,rfl,mb _⟩;obtain⟨d,hd,db⟩:∃a,f 27%M=a/\0<=a/\a<=M:=⟨_,rfl,mb _⟩;have nn:=gZ (c:=f 28) (many:=3) (by decide) (by decide);have e3:(zaB (3:Int).toNat).map (λ(k:Nat)=>D.str (eO (f 28) (k:Int)))=[.str (eO (f 28) 0),.str (eO (f 28) 1),.str (eO (f 28) 2)]:=rfl;rw[e3]at nn;have el:dA [.lst (ss.map gQ)]=some (.int many):=by rw[q_lenL,zal,hl]
 generalize hN:eO (f 28)=N at nn;refine dH ?_;unfold nG;refine fN (aO (k9 (by ac_rfl) el)) (fN (aO (d:=.lst [.int a,.int b,.int c,.int d]) (by rw[<- ha,<- hb,<- hc,<- hd];ac_rfl)) (fN (aO (d:=.lst [.str (N 0),.str (N 1),.str (N 2)]) (by ac_rfl)) (fN (by ac_rfl) ?_)));generalize decide (0<f 28/5000%3)=al;refine fN (by ac_rfl) ?_;have s0:=zax (f 3/30) (show(6:Int)≠0 by decide);have s1:=zay (f 3/30) (show(0:Int)<6 by decide);generalize f 3/30%6=sz at s0 s1;have hsz:∃q:Int,0<=q/\q<=5/\jI (eM (aY zS (aB 3) (eC (.int 4)))) (bS 7 (aY dY (aB 7) (eC (.int 3)))) mH [some (.int M),some (.lst (ss.map gQ)),some (.lst (ns.map .int)),some (.int many),some (.lst [.int a,.int b,.int c,.int d]),some (.lst [.str (N 0),.str (N 1),.str (N 2)]),some (.bl al),some (.int sz),none,none,none,none,none,none,none]=some (.nx [some (.int M),some (.lst (ss.map gQ)),some (.lst (ns.map .int)),some (.int many),some (.lst [.int a,.int b,.int c,.int d]),some (.lst [.str (N 0),.str (N 1),.str (N 2)]),some (.bl al),some (.int q),none,none,none,none,none,none,none]):=by
  by_cases h:4<many
  ·exact⟨sz%3,by lia,by lia,by ac_rfl⟩
  ·exact⟨sz,s0,by lia,by ac_rfl⟩
 obtain⟨q,y0,y1,ey⟩:=hsz;refine fN ey (fN (ρ':=List.set _ 8 (some (.lst []))) (by ac_rfl) ?_);have bg:d5 [.int 19,.int (19+q)]=some (aW 19 1 (19+q-19).toNat):=fZ (by decide) (by decide) (by lia) (by lia);refine eK (items:=aW 19 1 (19+q-19).toNat) (by ac_rfl) (λi ρ=>∃(ms:List Mk) (o7 o9 Y z F G B:Option D),ρ=[some (.int M),some (.lst (ss.map gQ)),some (.lst (ns.map .int)),some (.int many),some (.lst [.int a,.int b,.int c,.int d]),some (.lst [.str (N 0),.str (N 1),.str (N 2)]),some (.bl al),o7,some (.lst (ms.map bP)),o9,Y,z,F,G,B]/\ms.length=i/\∀m∈ms,OkM many 6 m) ⟨[],some (.int q),none,none,none,none,none,none,rfl,rfl,λ_ h=>nomatch h⟩ ?_ ?_
 ·rintro i x ρ hx ⟨ms,o7,o9,Y,z,F,G,B,rfl,hi,U⟩
  obtain⟨a1,rfl⟩:=bD hx;have hI:19<=(19:Int)+(i:Int)*1/\(19:Int)+(i:Int)*1<=24:=by lia
  generalize (19:Int)+(i:Int)*1=I at hI;have fI:=J I (by lia) (by lia);generalize f I=x at fI;have tk:∃tk:List Int,((∃t,tk=[t])\/∃t u,tk=[t,u])/\(∀t∈tk,0<=t/\t<many)/\∀ {ρ:dB},aB 10 ρ=some (.int x)->aB 3 ρ=some (.int many)->(LN j8 (fP (aC (aY dY (aY sZ (aB 10) (eC (.int 3))) (aB 3)) (aC (aY dY (aY sZ (aB 10) (eC (.int 18))) (aB 3)) aT))) sE (lK (aY cI (eC (.int 1)) (aQ GM (aC (aY zS (aY dY (aB 10) (eC (.int 3))) (eC (.int 0))) aT))))) ρ=some (tupI tk):=by
   by_cases h:0<x%3
   ·have hg:zS (.int (x%3)) (.int 0)=some (.bl true):=congrArg (λb=>some (D.bl b)) (decide_eq_true h)
    refine⟨[x/3%many,x/18%many],.inr ⟨_,_,rfl⟩,λt ht=>?_,λh1 h2=>by ac_rfl⟩;simp only[zaE,zaF,or_false]at ht;rcases ht with rfl|rfl <;> exact mm _
   ·have hg:zS (.int (x%3)) (.int 0)=some (.bl false):=congrArg (λb=>some (D.bl b)) (decide_eq_false h)
    refine⟨[x/3%many],.inl ⟨_,rfl⟩,λt ht=>?_,λh1 h2=>by ac_rfl⟩;rw[List.mem_singleton.mp ht];exact mm _
  obtain⟨tk,ad,aa,aj⟩:=tk;have gb:=mm (x/108);have eg:dY (.int (x/108)) (.int many)=some (.int (x/108%many)):=bI mp;generalize x/108%many=g at gb eg;have hn:∃n:Int,(n=0\/n=1)/\∀ {o7 o8 o9 z F G B:Option D},bM (bS 13 (aY sZ (aY dY (aY sZ (aB 10) (eC (.int 648))) (eC (.int 4))) (eC (.int 3)))) (jI (eM (aB 6)) (bS 13 (eC (.int 0))) mH) [some (.int M),some (.lst (ss.map gQ)),some (.lst (ns.map .int)),some (.int many),some (.lst [.int a,.int b,.int c,.int d]),some (.lst [.str (N 0),.str (N 1),.str (N 2)]),some (.bl al),o7,o8,o9,some (.int x),z,F,G,B]=some (.nx [some (.int M),some (.lst (ss.map gQ)),some (.lst (ns.map .int)),some (.int many),some (.lst [.int a,.int b,.int c,.int d]),some (.lst [.str (N 0),.str (N 1),.str (N 2)]),some (.bl al),o7,o8,o9,some (.int x),z,F,some (.int n),B]):=by
   cases al with
   | true=>exact⟨0,.inl rfl,by ac_rfl⟩
   | false=>
    have:=zax (x/648) (show(4:Int)≠0 by decide);have:=zay (x/648) (show(0:Int)<4 by decide);exact⟨x/648%4/3,by lia,by ac_rfl⟩
  obtain⟨n,hn,en⟩:=hn;have es:∀ {g h k:Sv} {ρ:dB},bM g (bM h k) ρ=bM (bM g h) k ρ:=by
   intro g h k ρ;unfold bM;cases g ρ with
   | none=>rfl
   | some o=>cases o <;> rfl
  have w0:=zax (x/2592) (show(1000000000000000000000000000000:Int)≠0 by decide);have w1:=zay (x/2592) (show(0:Int)<1000000000000000000000000000000 by decide);have pw:CB (.int 10) (.int 30)=some (.int 1000000000000000000000000000000):=zM (by decide) (by decide) (by decide);have dm:dY (.int (x/2592)) (.int 1000000000000000000000000000000)=some (.int (x/2592%1000000000000000000000000000000)):=bI (by decide);generalize x/2592%1000000000000000000000000000000=p at w0 w1 dm;have W:∃(W:List Int) (u v:List D),(∃a b c d:Int,W=[a,b,c,d])/\(∀x∈W,0<=x/\x<=M)/\cutD [D.int a,.int b,.int c,.int d] (some n) none=u/\cutD [D.int a,.int b,.int c,.int d] none (some n)=v/\u++v=W.map .int/\aZ (u.length+v.length)=true:=by
   rcases hn with rfl|rfl
   ·refine⟨[a,b,c,d],_,_,⟨_,_,_,_,rfl⟩,λy hy=>?_,rfl,rfl,rfl,rfl⟩
    simp only[zaE,zaF,or_false]at hy;rcases hy with rfl|rfl|rfl|rfl <;> assumption
   ·refine⟨[b,c,d,a],_,_,⟨_,_,_,_,rfl⟩,λy hy=>?_,rfl,rfl,rfl,rfl⟩
    simp only[zaE,zaF,or_false]at hy;rcases hy with rfl|rfl|rfl|rfl <;> assumption
  obtain⟨W,u,v,ak,am,cu,cv,ap,ao⟩:=W;obtain⟨ts,be,tl,tt⟩:=xE (g:=g) h3 ar hl hs ad aa gb.1 gb.2 ak am;have an:dW [D.str (N 0),.str (N 1),.str (N 2)] n=some (.str (N n)):=by rcases hn with rfl|rfl <;> rfl
  have c1:j8 (.lst [.int a,.int b,.int c,.int d]) (some n) none=some (.lst u):=congrArg (λl=>some (D.lst l)) cu;have c2:j8 (.lst [.int a,.int b,.int c,.int d]) none (some n)=some (.lst v):=congrArg (λl=>some (D.lst l)) cv;have c3:cI (.lst u) (.lst v)=some (.lst (W.map .int)):=by rw[<- ap];exact if_pos ao
  have lz:(ms.map bP).length<=1000000:=by rw[zal];lia
  apply iV
  ·refine sF rfl (cN (by ac_rfl) (dS (cN (aO (aj rfl rfl)) (dS (cN (by ac_rfl) (dS ?_))))))
   rw[es];exact cN en (dS (by ac_rfl))
  ·exact⟨ms++[(⟨N n,tk,g,ts,p⟩:Mk)],o7,some (.int I),some (.int x),some (tupI tk),some (.int g),some (.int n),some (.lst (ts.map bQ)),by rw[za4];rfl,by simp_all[hi],U0 U ⟨by rw[<- hN];exact PZ (by lia) (by lia),by rw[<- hN];exact(BS _ _).2,ad,aa,gb,tl,tt,w0,by show p<=_;lia⟩⟩
 ·rintro ρ ⟨ms,o7,o9,Y,z,F,G,B,rfl,hi,U⟩
  rw[a8]at hi;exact⟨_,by ac_rfl,ms,rfl,by lia,U⟩
theorem OkM.mono(h:OkM many n m)(l:n<=k):OkM many k m:=⟨h.nm,h.nl,h.tk,h.tb,h.gv,zbe h.tl l,h.tt,h.pr⟩
theorem qw{q:Type}{P:q->Prop}{l:List q}{x:q}{n m:Nat}(h:∀y∈l,P y)(k:P x):∀y∈l.take n++x::l.drop m,P y:=λy B=>by
 rcases List.mem_append.mp B with z|z
 ·exact h y (List.mem_of_mem_take z)
 ·rcases List.mem_cons.mp z with z|z
  ·rw[z];exact k
  ·exact h y (List.mem_of_mem_drop z)
theorem qo{q:Type}{f:q->D}{l:List q}{x:q}{n m:Nat}:(l.map f).take n++f x::(l.map f).drop m=(l.take n++x::l.drop m).map f:=by
 rw[za4,zak,List.map_take,List.map_drop]
theorem qu{q:Type}{l:List q}{x:q}{i:Int}(h0:0<=i)(h1:i<l.length):(l.take i.toNat++x::l.drop (i.toNat+1)).length=l.length:=by
 rw[zbu,za3,zbT,zeR];lia
theorem pkM{z:Type}{f:z->D}{l:List z}{c:Int}(h:0<((l.map f).length:Int)):0<=c%(l.map f).length/\c%(l.map f).length<(l.map f).length/\∃x∈l,dW (l.map f) (c%(l.map f).length)=some (f x):=by
 have a0:=zax c (zaX h);have q:=zay c h;obtain⟨d,B,_,e⟩:=PX a0 q;obtain⟨s,hs,rfl⟩:=List.mem_map.mp B;exact⟨a0,q,s,hs,e⟩
theorem spT{m:Mk}{t:My.Tm}{l:List Mk}{a b:Nat}:(l.map bP).take a++D.tup [.str m.nm,tupI m.tk,.int m.gv,.lst (m.ts.map bQ++[bQ t]),.int m.p]::(l.map bP).drop b=(l.take a++(⟨m.nm,m.tk,m.gv,m.ts++[t],m.p⟩:Mk)::l.drop b).map bP:=by
 rw[<- qo,bP,za4];rfl
theorem sO{M many cell:Int}{rs:List Ro}{ms:List Mk}(h3:3<=M)(B:M<10^60)(G:rs.length<=12)(z:∀r∈rs,CF many r)(F:ms.length<=5)(N:∀m∈ms,OkM many 6 m) :
  ∃(rs':List Ro) (ms':List Mk),jB [.int M,.int cell,.lst (rs.map bB),.lst (ms.map bP)]=some (.tup [.lst (rs'.map bB),.lst (ms'.map bP)])/\(rs'.length<=12/\∀r∈rs',CF many r)/\ms'.length<=5/\∀m∈ms',OkM many 7 m:=by
 have q:∀m∈ms,OkM many 7 m:=λm h=>(N m h).mono (by decide)
 have Mp:0<M:=by lia
 have Mq:0<M-1:=by lia
 have er:(rs.map bB).length=rs.length:=zal ..;have em:(ms.map bP).length=ms.length:=zal ..;have lr:(rs.map bB).length<=1000:=by lia
 have lm:(ms.map bP).length<=1000:=by lia
 by_cases h1:cell%4=1
 ·by_cases lp:0<((rs.map bB).length:Int)
  ·obtain⟨a0,a1,r,Y,e⟩:=pkM (c:=cell/4) lp
   have ok:=z r Y;have U:dW (rs.map bB) (cell/4%(rs.map bB).length)=some (.tup [.int r.j,.int r.k,.int r.a,.int r.b,.int r.p]):=e;by_cases h2:cell/40%2=1
   ·refine' ⟨rs.take _++(⟨r.j,r.k,r.a,(r.b+1+cell/80%(M-1))%M,r.p⟩:Ro)::rs.drop _,ms,aN (Eq.trans ?A (congrArg (λl=>some (Out.rt (.tup [.lst l,.lst (ms.map bP)]))) qo)),⟨?L,qw z ⟨ok.1,ok.2.1,ok.2.2.1,ok.2.2.2.1,Bd.mod Mp B⟩⟩,F,q⟩
    case A=>unfold bL;ac_rfl
    case L=>rw[qu a0 (by lia)];exact G
   ·refine' ⟨rs.take _++(⟨r.j,r.k,(r.a+1+cell/80%(M-1))%M,r.b,r.p⟩:Ro)::rs.drop _,ms,aN (Eq.trans ?A (congrArg (λl=>some (Out.rt (.tup [.lst l,.lst (ms.map bP)]))) qo)),⟨?L,qw z ⟨ok.1,ok.2.1,ok.2.2.1,Bd.mod Mp B,ok.2.2.2.2⟩⟩,F,q⟩
    case A=>unfold bL;ac_rfl
    case L=>rw[qu a0 (by lia)];exact G
  ·exact⟨rs,ms,aN (by unfold bL;ac_rfl),⟨G,z⟩,F,q⟩
 ·by_cases af:cell%4=3
  ·by_cases lp:0<((ms.map bP).length:Int)
   ·obtain⟨a0,a1,m,ab,e⟩:=pkM (c:=cell/4) lp
    have ok:=N m ab;have U:dW (ms.map bP) (cell/4%(ms.map bP).length)=some (.tup [.str m.nm,.tup (m.tk.map .int),.int m.gv,.lst (m.ts.map bQ),.int m.p]):=e;have z3:(m.ts.map bQ).length+1<=1000000:=by rw[zal];have:=ok.tl;lia
    have x0:=zax (cell/40) (show(3:Int)≠0 by decide);have x1:=zay (cell/40) (show(0:Int)<3 by decide);have y0:=zax (cell/120) (show(3:Int)≠0 by decide);have y1:=zay (cell/120) (show(0:Int)<3 by decide);have aa:Bd 61 (1+cell/360%(M-1)):=by
     have u0:=zax (cell/360) (zaX Mq);have u1:=zay (cell/360) Mq;exact(Bd.of B ⟨by lia,by lia⟩).mono (by decide)
    suffices h:∃t:List Int,t.length=m.tk.length/\(∀e∈t,0<=e/\e<=2)/\bL (aL 15 [.int M,.int cell,.lst (rs.map bB),.lst (ms.map bP)])=some (.rt (.tup [.lst (rs.map bB),.lst ((ms.map bP).take (cell/4%(ms.map bP).length).toNat++D.tup [.str m.nm,.tup (m.tk.map .int),.int m.gv,.lst (m.ts.map bQ++[.tup [.tup (t.map .int),.int (1+cell/360%(M-1))]]),.int m.p]::(ms.map bP).drop ((cell/4%(ms.map bP).length).toNat+1))])) by
     obtain⟨t,tl,tb,ev⟩:=h;exact⟨rs,_,aN (ev.trans (congrArg (λl=>some (Out.rt (.tup [.lst (rs.map bB),.lst l]))) (spT (t:=(t,_))))),⟨G,z⟩,by rw[qu a0 (by lia)];exact F,qw q ⟨ok.nm,ok.nl,ok.tk,ok.tb,ok.gv,by rw[zbu];have:=ok.tl;simp[-zad,-zae,aA,aD];lia,U0 ok.tt ⟨tl,tb,aa⟩,ok.pr⟩⟩
    rcases ok.tk with⟨t,J⟩|⟨t,u,J⟩
    ·refine⟨[cell/40%3],by rw[J];rfl,λe W=>by rw[List.mem_singleton.mp W];lia,?_⟩
     rw[J]at U ⊢;simp only[List.map]at U ⊢;unfold bL;ac_rfl
    ·refine⟨[cell/40%3,cell/120%3],by rw[J];rfl,λe W=>by simp only[zaE,zaF,or_false]at W;rcases W with rfl|rfl <;> lia,?_⟩
     rw[J]at U ⊢;simp only[List.map]at U ⊢;unfold bL;ac_rfl
   ·exact⟨rs,ms,aN (by unfold bL;ac_rfl),⟨G,z⟩,F,q⟩
  ·exact⟨rs,ms,aN (by unfold bL;ac_rfl),⟨G,z⟩,F,q⟩
def dU(c:Int)(n:Nat):List D:=(zaB n).map λ(k:Nat)=>.str (eO c (k:Int))
theorem eI(c:Int)(n:Nat):(dU c n).length=n:=by simp_all[dU]
theorem AN(ns:List Int):∃(M c:Int) (n:Nat) (rs:List Ro) (ms:List Mk),jR [.lst (ns.map .int)]=some (.tup [.int M,.lst (dU c n),.lst (rs.map bB),.lst (ms.map bP)])/\(3<=M/\M<10^60/\M%2=1)/\(1<=n/\n<=6)/\(rs.length<=12/\∀r∈rs,CF (n:Int) r)/\ms.length<=5/\∀m∈ms,OkM (n:Int) 7 m:=by
 obtain⟨f,F⟩:=iC ns;have f0:=F 0 (by decide) (by decide);have f1:=F 1 (by decide) (by decide);have f2:=F 2 (by decide) (by decide);have ai:=F 29 (by decide) (by decide);have ad:=F 30 (by decide) (by decide);have an:(10:Int)^60=1000000000000000000000000000000000000000000000000000000000000:=by decide +kernel
 have pw:CB (.int 10) (.int 59)=some (.int 100000000000000000000000000000000000000000000000000000000000):=zM (by decide) (by decide) (by decide +kernel);have x0:=zax (f 1) (show(100000000000000000000000000000000000000000000000000000000000:Int)≠0 by decide);have x1:=zay (f 1) (show(0:Int)<100000000000000000000000000000000000000000000000000000000000 by decide);have dx:dY (.int (f 1)) (.int 100000000000000000000000000000000000000000000000000000000000)=some (.int (f 1%100000000000000000000000000000000000000000000000000000000000)):=bI (by decide);generalize f 1%100000000000000000000000000000000000000000000000000000000000=x at x0 x1 dx;have y0:=zax (f 1) (show(4:Int)≠0 by decide);have y1:=zay (f 1) (show(0:Int)<4 by decide);have dy:dY (.int (f 1)) (.int 4)=some (.int (f 1%4)):=bI (by decide);generalize f 1%4=y at y0 y1 dy;have m1:cC (.int 2) (.int x)=some (.int (2*x)):=c7 (by decide +kernel) (by decide +kernel) (by lia) (by lia);have m2:cC (.int 2) (.int y)=some (.int (2*y)):=c7 (by decide +kernel) (by decide +kernel) (by lia) (by lia)
 suffices h:∃d,jR [.lst (ns.map .int)]=some d/\∃(M c:Int) (n:Nat) (rs:List Ro) (ms:List Mk),d=.tup [.int M,.lst (dU c n),.lst (rs.map bB),.lst (ms.map bP)]/\(3<=M/\M<10^60/\M%2=1)/\(1<=n/\n<=6)/\(rs.length<=12/\∀r∈rs,CF (n:Int) r)/\ms.length<=5/\∀m∈ms,OkM (n:Int) 7 m by
  obtain⟨d,e,M,c,n,rs,ms,rfl,h⟩:=h;exact⟨M,c,n,rs,ms,e,h⟩
 refine dH ?_;unfold pM;rw[aG (aO (d:=.int (3+2*x)) (by ac_rfl))];refine vI (λρ=>∃M:Int,ρ=[some (.lst (ns.map .int)),some (.int M),none,none,none,none]/\3<=M/\M<10^60/\M%2=1) ?_ ?_
 ·by_cases h:f 0%4=0
  ·exact⟨_,by simp_all[aL,f0,f1,bI (i:=f 0),h,dy,m2],3+2*y,rfl,by lia,by lia,by lia⟩
  ·exact⟨_,by ac_rfl,3+2*x,rfl,by lia,by lia,by lia⟩
 rintro ρ ⟨M,rfl,W,q,G⟩;have v0:=zax (f 2) (show(4:Int)≠0 by decide);have v1:=zay (f 2) (show(0:Int)<4 by decide);rw[aG (aO (d:=.int (1+f 2%4)) (by ac_rfl))];refine vI (λρ=>∃many:Int,ρ=[some (.lst (ns.map .int)),some (.int M),some (.int many),none,none,none]/\1<=many/\many<=6) ?_ ?_
 ·by_cases h:f 2/4%8=1
  ·exact⟨_,by ac_rfl,6,rfl,by decide,by decide⟩
  ·exact⟨_,by ac_rfl,1+f 2%4,rfl,by lia,by lia⟩
 rintro ρ ⟨many,rfl,B,z⟩;obtain⟨ss,es,hl,hs⟩:=xK (ns:=ns) W q ⟨B,z⟩;obtain⟨rs,er,hr,aa⟩:=xH (ns:=ns) W q ⟨B,z⟩ hl hs;obtain⟨ms,em,hm,ab⟩:=xB (ns:=ns) W q ⟨B,z⟩ hl hs;obtain⟨N,J,e2,ac,Y,U⟩:=sO (cell:=f 29) W q hr aa hm ab;rw[aG (aO (d:=.lst (ss.map gQ)) (by ac_rfl))];rw[aG (aO (d:=.lst (rs.map bB)) (by ac_rfl))];have en:=gZ (c:=f 30) (many:=many) (by lia) z;have ec:((many.toNat:Nat):Int)=many:=by lia
 refine⟨_,?_,M,f 30,many.toNat,N,J,rfl,⟨W,q,G⟩,by lia,by rw[ec];exact ac,Y,by rw[ec];exact U⟩;rw[aG (ρ':=[some (.lst (ns.map .int)),some (.int M),some (.int many),some (.lst (ss.map gQ)),some (.lst (N.map bB)),some (.lst (J.map bP))]) (by ac_rfl)];simp_all[ad,en,dU]
theorem oA(h:∃ρ,f (aL n ds)=some (.nx ρ)):bA n f ds=some .non:=by
 obtain⟨ρ,e⟩:=h;exact SI e
theorem BW(q:f ρ=some items)(I:Nat->dB->Prop)(h0:I 0 ρ)(hs:∀i x ρ,items[i]?=some x->I i ρ->∃ρ',turn g b x ρ=some (.nx ρ')/\I (i+1) ρ'):∃ρ',gC f g b ρ=some (.nx ρ'):=by
 obtain⟨ρ',e,_⟩:=dX (g:=g) (b:=b) I h0 hs;exact⟨ρ',by rw[q_for,q,aA];exact e⟩
theorem EZ{f:Lv}{g:Gv}{b rest:Sv}{ρ:dB}{items:List D}(z:f ρ=some items)(I:Nat->dB->Prop)(h0:I 0 ρ)(hs:∀i x ρ,items[i]?=some x->I i ρ->∃ρ',turn g b x ρ=some (.nx ρ')/\I (i+1) ρ')(k:∀ρ',I items.length ρ'->∃q,rest ρ'=some (.nx q)):∃ρ',bM (gC f g b) rest ρ=some (.nx ρ'):=by
 obtain⟨ρ',e,i⟩:=dX (g:=g) (b:=b) I h0 hs;obtain⟨q,B⟩:=k ρ' i;exact⟨q,by rw[aG (ρ':=ρ') (by rw[q_for,z,aA];exact e)];exact B⟩
theorem NU(z:3<=M)(q:M<10^60)(B:M%2=1):DJ [.int M]=some (.int M):=by
 refine aN ?_;have pw:CB (.int 10) (.int 60)=some (.int (10^60)):=zM (by decide) (by decide) (by decide +kernel);have a:¬ M<3:=by lia
 have b:¬ 10^60<M:=by lia
 unfold DY;simp only[Int.reducePow]at pw b
 ac_rfl
theorem pV(h0:0<=p)(h:p<=10^30):j4 [.int p]=some (.bl true):=by
 refine aN ?_;have pw:CB (.int 10) (.int 30)=some (.int (10^30)):=zM (by decide) (by decide) (by decide +kernel);simp only[Int.reducePow]at pw h;simp_all[pH,aL,gN,pw,h0,h]
theorem CA(h:0<M):wV [.int M,.int n]=some (.int (n%M)):=by
 refine aN ?_;simp_all[XF,aL,bI h]
open Classical in
theorem xS(x:Str):∀l:List Str,(l.map D.str).any (λd=>decide (d=.str x))=l.contains x
 | []=>rfl
 | y::l=>by
  rw[zak,zbz,xS x l,List.contains_cons];congr 1;by_cases h:y=x
  ·subst h;simp[-zad,-zae,aA,aD]
  ·have h2:¬ x=y:=λz=>h z.symm
   have q:¬ D.str y=D.str x:=λz=>h (by injection z)
   rw[decide_eq_false q]
   ac_rfl
theorem all_strs:∀l:List Str,(l.map D.str).all mF=true
 | []=>rfl
 | _::l=>by rw[zak,zbK,all_strs l];rfl
theorem OM(x:Str)(l:List Str):GI (.str x) (.lst (l.map D.str))=some (.bl (l.contains x)):=by
 show YS (.str x) (.lst (l.map D.str))=_;unfold YS CD;dsimp only;rw[if_pos ⟨rfl,all_strs l⟩,xS];rfl
def LJ(c:Int)(n:Nat):List Str:=(zaB n).map λ(k:Nat)=>eO c (k:Int)
theorem RH(c:Int)(n:Nat):dU c n=(LJ c n).map D.str:=by unfold dU LJ;rw[zaQ];rfl
theorem sX(h1:1<=n)(Y:n<=6):jC [.lst (dU c n)]=some .non:=by
 refine oA ?_;unfold jF;have hz:aZ n=true:=decide_eq_true (by lia);have a:¬ (n:Int)<1:=by lia
 have b:¬ 6<(n:Int):=by lia
 rw[aG (ρ':=aL 3 [.lst (dU c n)]) (by simp_all[aL,eI,a,b])];refine BW (items:=eL 0 (dU c n)) (by ac_rfl) (λi ρ=>∃J B,ρ=[some (.lst (dU c n)),J,B]) ⟨none,none,rfl⟩ ?_;rintro i x ρ U ⟨J,B,rfl⟩;obtain⟨y,z,rfl⟩:=fY U;have hi:i<n:=by have:=(List.getElem?_eq_some_iff.mp z).1;rw[eI]at this;exact this
 have M:y=.str (eO c (i:Int)):=by
  unfold dU at z;rw[zar,List.getElem?_range hi]at z;exact(zaD z).symm
 subst M;have F:=tR (x:=eO c (i:Int)) (by have:=(BS c (i:Int)).2;lia);rw[PZ (by lia) (by lia)]at F;have ct:=(rW (w:=dU c n) (c:=(i:Int)) (by lia) (by rw[eI];lia)).1;have tk:(dU c n).take i=(LJ c i).map D.str:=by
  rw[<- RH];unfold dU;rw[<- List.map_take,List.take_range,Nat.min_eq_left (by lia)]
 have W:(LJ c i).contains (eO c (i:Int))=false:=by
  rw[<- zdB,List.contains_iff_mem];intro N;obtain⟨k,G,e⟩:=List.mem_map.mp N;have G:=List.mem_range.mp G;have:=S4 (c:=c) (k:=(k:Int)) (m:=(i:Int)) (by lia) (by lia) (by lia) (by lia) e
  lia
 have q:=OM (eO c (i:Int)) (LJ c i);rw[W]at q;rw[zdb];refine⟨[some (.lst (dU c n)),some (.int (i:Int)),some (.str (eO c (i:Int)))],?_,_,_,rfl⟩;simp_all[turn,F,ct,tk,q]
noncomputable def red(M:Int)(r:Ro):Ro:=⟨r.j,r.k,r.a%M,r.b%M,r.p⟩
theorem AK{M:Int}{n:Nat}{rs:List Ro}(h3:3<=M)(hl:rs.length<=12)(U:∀r∈rs,CF (n:Int) r):qA [.int M,.int (n:Int),.lst (rs.map bB)]=some (.tup ((rs.map (red M)).map bB)):=by
 have J:0<M:=by lia
 have hz:aZ rs.length=true:=decide_eq_true (by lia);have b:(rs.length:Int)<=12:=by lia
 refine aN ?_;unfold pE;rw[aG (ρ':=aL 9 [.int M,.int (n:Int),.lst (rs.map bB)]) (by simp_all[aL,b])];rw[aG (aO (d:=.lst []) (by simp[-zad,-zae,aA,aD]))];refine cF (items:=rs.map bB) (by ac_rfl) (λi ρ=>∃B o5 o6 o7 o8,ρ=[some (.int M),some (.int (n:Int)),some (.lst (rs.map bB)),some (.lst (((rs.take i).map (red M)).map bB)),B,o5,o6,o7,o8]) ⟨none,none,none,none,none,by ac_rfl⟩ ?_ ?_
 ·rintro i x ρ F ⟨B,o5,o6,o7,o8,rfl⟩
  rw[zar]at F;obtain⟨r,q,rfl⟩:=map_some F;obtain⟨⟨Y,jk,kn⟩,W,G,_⟩:=U r (zaI q);have N:=pV W G;have hi:i<rs.length:=(List.getElem?_eq_some_iff.mp q).1;have z:aZ (min i rs.length)=true:=decide_eq_true (by lia);refine⟨[some (.int M),some (.int (n:Int)),some (.lst (rs.map bB)),some (.lst (((rs.take (i+1)).map (red M)).map bB)),some (.int r.j),some (.int r.k),some (.int r.a),some (.int r.b),some (.int r.p)],?_,_,_,_,_,_,rfl⟩;rw[zbm,q];simp_all[turn,bB,red,Y,jk,kn,N,CA J,z,oC]
 ·rintro ρ ⟨B,o5,o6,o7,o8,rfl⟩
  rw[zal,zbC]
  ac_rfl
theorem kA{n:Nat}{k:List Int}(h:k.length=n)(h2:∀e∈k,0<=e/\e<=2):eR [.int (n:Int),tupI k]=some .non:=by
 refine oA ?_;unfold eP;rw[aG (ρ':=aL 3 [.int (n:Int),tupI k]) (by simp_all[aL,tupI,h])];refine BW (items:=k.map .int) (by ac_rfl) (λi ρ=>∃o,ρ=[some (.int (n:Int)),some (tupI k),o]) ⟨none,rfl⟩ ?_;rintro i x ρ q ⟨o,rfl⟩;rw[zar]at q;obtain⟨e,z,rfl⟩:=map_some q;have:=h2 e (zaI z);exact⟨[some (.int (n:Int)),some (tupI k),some (.int e)],by ac_rfl,_,rfl⟩
theorem t5{M:Int}(h0:0<M){ρ1 ρ2:Option D}:∀(qs:List My.Tm) (o1 o2:Option D),bW (bO 2 (aM (aH 0) (aM (aH 1) bU))) (eM (aY wW (aQ wV (aC (aB 2) (aC (aB 1) aT))) (eC (.int 0)))) (fP (aC (aB 0) (aC (aQ wV (aC (aB 2) (aC (aB 1) aT))) aT))) (qs.map bQ) [o1,o2,some (.int M)]=some ((My.b8 M qs).map bQ)
 | [],o1,o2=>rfl
 | t::qs,o1,o2=>by
  have ih:=t5 h0 (ρ1:=ρ1) (ρ2:=ρ2) qs (some (tupI t.1)) (some (.int t.2));rw[zak,bW];by_cases e:t.2%M=0
  ·simp[-zad,-zae,aA,aD,bQ,CA h0,e,My.b8]at ih ⊢
   exact ih
  ·simp[-zad,-zae,aA,aD,bQ,CA h0,e,My.b8]at ih ⊢
   rw[ih]
   ac_rfl
theorem EH{q:Type}(l:List (List Int×q)):(bJ l).length=l.length:=(cX l).length_eq
theorem iQ{M:Int}{cs:List My.Tm}(h0:0<M)(h:cs.length<64):d8 [.int M,.dT (cs.map kD)]=some (.tup ((My.b8 M (bJ cs)).map bQ)):=by
 refine aN ?_;have e:=t5 h0 (ρ1:=none) (ρ2:=none) (bJ cs) none none;have hz:aZ (bJ cs).length=true:=decide_eq_true (by rw[EH];lia);simp_all[uC,aL,BE h,sL,e,hz]
theorem V_form{M:Int}{n:Nat}{ts:List My.Tm}(h0:0<M)(W:n=1\/n=2)(hl:ts.length<=7)(Y:∀t∈ts,OkT n t):rM [.int M,.int (n:Int),.lst (ts.map bQ)]=some (.tup ((My.b8 M (bJ (My.bX ts))).map bQ)):=by
 refine aN ?_;unfold J4;rw[aG (ρ':=aL 6 [.int M,.int (n:Int),.lst (ts.map bQ)]) (by rcases W with rfl|rfl <;> simp_all[aL])];rw[aG (ρ':=[some (.int M),some (.int (n:Int)),some (.lst (ts.map bQ)),some (.dT []),none,none]) (by ac_rfl)];refine cF (items:=ts.map bQ) (by simp[-zad,-zae,aA,aD]) (λi ρ=>∃B o5,ρ=[some (.int M),some (.int (n:Int)),some (.lst (ts.map bQ)),some (.dT ((My.bX (ts.take i)).map kD)),B,o5]) ⟨none,none,rfl⟩ ?_ ?_
 ·rintro i x ρ J ⟨B,o5,rfl⟩
  rw[zar]at J;obtain⟨t,G,rfl⟩:=map_some J;obtain⟨N,U,_⟩:=Y t (zaI G);have es:My.bX (ts.take (i+1))=My.lL (My.bX (ts.take i)) t:=by rw[zbm,G];exact My.EV _ _
  have q:(My.bX (ts.take i)).length<=1000000:=by
   have:=(My.jX (ts.take i)).1;rw[zbT]at this
   lia
  have F:=kA N U;refine⟨[some (.int M),some (.int (n:Int)),some (.lst (ts.map bQ)),some (.dT ((My.bX (ts.take (i+1))).map kD)),some (tupI t.1),some (.int t.2)],?_,_,_,rfl⟩;have z:=DL (cs:=My.bX (ts.take i)) t.1 ((My.look (My.bX (ts.take i)) t.1).getD 0+t.2) q;cases e:My.look (My.bX (ts.take i)) t.1 with
  | none=>simp[-zad,-zae,aA,aD,turn,bQ,F,e,es,My.lL]at z ⊢;simp_all[z]
  | some v=>simp[-zad,-zae,aA,aD,turn,bQ,F,e,es,My.lL]at z ⊢;simp_all[z]
 ·rintro ρ ⟨B,o5,rfl⟩
  have hs:(My.bX ts).length<64:=by have:=(My.jX ts).1;lia
  rw[zal,zbC];simp_all[iQ h0 hs]
theorem C7:∀(k:List Int) (m:Int),(∀e∈k,0<=e/\e<=2)->m<=2->k.foldl (λm y=>if y>m then y else m) m<=2
 | [],m,_,h=>h
 | e::k,m,h,hm=>by
  rw[zcJ];refine C7 k _ (λx q=>h x (zav _ q)) ?_;have:=(h e (zau ..)).2;split <;> lia
theorem MO(h:∀e∈k,0<=e/\e<=2)(q:d<=2):My.nW d k<=2:=by
 cases k with
 | nil=>exact q
 | cons e k=>exact C7 k e (λx z=>h x (zav _ z)) (h e (zau ..)).2
def VJ(M:Int)(ts:List My.Tm):D:=.tup ((My.b8 M (bJ (My.bX ts))).map bQ)
theorem xD(h0:0<M)(N:n=1\/n=2)(U:ts.length<=7)(F:∀t∈ts,OkT n t):nK [.int M,.int (n:Int),.lst (ts.map bQ)]=some (VJ M ts):=by
 have W:=V_form h0 N U F;refine aN ?_;unfold mL;rw[aG (aO (d:=VJ M ts) (by simp_all[aL,W,VJ]))];refine cF (items:=ts.map bQ) (by ac_rfl) (λi ρ=>∃q o5 o6,ρ=[some (.int M),some (.int (n:Int)),some (.lst (ts.map bQ)),some (VJ M ts),q,o5,o6]) ⟨none,none,none,rfl⟩ ?_ ?_
 ·rintro i x ρ B ⟨q,o5,o6,rfl⟩
  rw[zar]at B;obtain⟨t,G,rfl⟩:=map_some B;obtain⟨z,J,_⟩:=F t (zaI G);refine⟨[some (.int M),some (.int (n:Int)),some (.lst (ts.map bQ)),some (VJ M ts),q,some (tupI t.1),some (.int t.2)],?_,_,_,_,rfl⟩;have mx:zK [tupI t.1]=some (.int (My.nW 0 t.1)):=by
   cases hk:t.1 with
   | nil=>rw[hk]at z;simp[-zad,-zae,aA,aD]at z;lia
   | cons e k=>exact q_max1
  have Y:=MO J (d:=0) (by decide)
  ac_rfl
 ·rintro ρ ⟨q,o5,o6,rfl⟩
  simp[-zad,-zae,aA,aD]
theorem N5{κ:Type}[DecidableEq κ](l:List (κ×D))(k:κ)(e:D):b7 (putD l k e) k=some e:=by
 unfold b7 putD;split
 ·rename_i h
  induction l with
  | nil=>simp[-zad,-zae,aA,aD]at h
  | cons p l ih=>
   by_cases q:p.1=k
   ·simp_all[q]
   ·rw[zbz,decide_eq_false q,Bool.false_or]at h
    rw[zak,if_neg q,List.find?_cons_of_neg (by simpa using q)];exact ih h
 ·rename_i h
  rw[ze6];have:l.find? (λp=>decide (p.1=k))=none:=by
   rw[List.find?_eq_none];intro p q z;exact h (List.any_eq_true.mpr ⟨p,q,z⟩)
  rw[this];simp[-zad,-zae,aA,aD]
theorem vW{κ:Type}[DecidableEq κ]{l:List (κ×D)}{k:κ}{e:D}{P:D->Prop}(h:∀p∈l,P p.2)(F:P e):∀p∈putD l k e,P p.2:=by
 intro p B;unfold putD at B;split at B
 ·obtain⟨q,G,rfl⟩:=List.mem_map.mp B
  split
  ·exact F
  ·exact h q G
 ·rcases List.mem_append.mp B with z|z
  ·exact h p z
  ·rw[List.mem_singleton.mp z];exact F
theorem vZ{κ:Type}[DecidableEq κ](l:List (κ×D))(k:κ)(e:D):(putD l k e).length<=l.length+1:=by
 unfold putD;split
 ·rw[zal];lia
 ·rw[zbu];simp[-zad,-zae,aA,aD]
theorem NL{κ:Type}[DecidableEq κ]{l:List (κ×D)}{k:κ}(h:b7 l k=some d):∃p∈l,p.2=d:=by
 obtain⟨p,q,e⟩:=map_some h;exact⟨p,List.mem_of_find?_eq_some q,e⟩
def fR(M:Int)(m:Mk):D:=.tup [.str m.nm,tupI m.tk,.int m.gv,VJ M m.ts,.int m.p]
theorem sW{M:Int}{ms:List Mk}(hl:ms.length<=5):jG [.lst (ms.map (fR M))]=some .non:=by
 refine oA ?_;unfold jD;rw[aG (aO (d:=.dT []) (by simp[-zad,-zae,aA,aD]))];refine BW (items:=ms.map (fR M)) (by ac_rfl) (λi ρ=>∃(ys:List (List Key×D)) (G W U o5 o6 o7:Option D),ρ=[some (.lst (ms.map (fR M))),some (.dT ys),G,W,U,o5,o6,o7]/\ys.length<=i/\∀p∈ys,∃c:Int,p.2=.int c/\c<=(i:Int)) ⟨[],none,none,none,none,none,none,by ac_rfl,zao _,λ_ h=>nomatch h⟩ ?_;rintro i x ρ J ⟨ys,G,W,U,o5,o6,o7,rfl,hy,N⟩;rw[zar]at J;obtain⟨m,Y,rfl⟩:=map_some J;have hi:i<ms.length:=(List.getElem?_eq_some_iff.mp Y).1;have hz:aZ ys.length=true:=decide_eq_true (by lia);have q:zW (.tup [.str m.nm,.int (m.tk.length:Int)])=some [.inr m.nm,.inl (m.tk.length:Int)]:=rfl;generalize hk:([.inr m.nm,.inl (m.tk.length:Int)]:List Key)=k at q;have lk:cH (.dT ys) (.tup [.str m.nm,.int (m.tk.length:Int)])=some (b7 ys k):=by
  show(zW (.tup [.str m.nm,.int (m.tk.length:Int)])).map _=_;rw[q];rfl
 have F:∃c:Int,((b7 ys k).getD (.int 0))=.int c/\c<=(i:Int):=by
  cases hv:b7 ys k with
  | none=>exact⟨0,rfl,by lia⟩
  | some d=>
   obtain⟨p,B,rfl⟩:=NL hv;exact N p B
 obtain⟨c,ec,aa⟩:=F;have pt:sI (.dT ys) (.tup [.str m.nm,.int (m.tk.length:Int)]) (.int (c+1))=some (.dT (putD ys k (.int (c+1)))):=by
  unfold _root_.P.sI;dsimp only;rw[q,aA,if_pos hz]
 have z:cH (.dT (putD ys k (.int (c+1)))) (.tup [.str m.nm,.int (m.tk.length:Int)])=some (some (.int (c+1))):=by
  show(zW (.tup [.str m.nm,.int (m.tk.length:Int)])).map _=_;rw[q,aD,N5]
 refine⟨[some (.lst (ms.map (fR M))),some (.dT (putD ys k (.int (c+1)))),some (.str m.nm),some (tupI m.tk),some (.int m.gv),some (VJ M m.ts),some (.int m.p),some (.tup [.str m.nm,.int (m.tk.length:Int)])],?_,_,_,_,_,_,_,_,rfl,zbe (vZ _ _ _) (by lia),vW (P:=λd=>∃c:Int,d=.int c/\c<=((i+1:Nat):Int)) (λp B=>by obtain⟨c,e,h⟩:=N p B;exact⟨c,e,by lia⟩) ⟨c+1,rfl,by lia⟩⟩;simp_all[turn,fR,tupI,lk,ec,pt,z,show ¬ 6<c+1 by lia]
theorem u4(ok:OkM (n:Int) 7 m):kM [.int (n:Int),.str m.nm,tupI m.tk,.int m.gv,.int m.p]=some .non:=by
 have G:=tR (x:=m.nm) (by have:=ok.nl;lia);rw[ok.nm]at G;have J:=pV ok.pr.1 ok.pr.2;have hz:aZ (m.tk.length+1)=true:=by rcases ok.tk with⟨t,e⟩|⟨t,u,e⟩ <;> rw[e] <;> rfl
 have q:(m.tk.length:Int)=1\/(m.tk.length:Int)=2:=by rcases ok.tk with⟨t,e⟩|⟨t,u,e⟩ <;> rw[e] <;> simp[-zad,-zae,aA,aD]
 refine oA ?_;unfold kF;rw[aG (ρ':=aL 6 [.int (n:Int),.str m.nm,tupI m.tk,.int m.gv,.int m.p]) (by ac_rfl)];rw[aG (ρ':=aL 6 [.int (n:Int),.str m.nm,tupI m.tk,.int m.gv,.int m.p]) (by rcases q with e|e <;> simp_all[aL,tupI,e])];have F:nM (aY cI (aQ uN (aC (aB 2) aT)) (tE (aC (aB 3) aT))) (aL 6 [.int (n:Int),.str m.nm,tupI m.tk,.int m.gv,.int m.p])=some ((m.tk++[m.gv]).map .int):=by simp_all[aL,tupI,uN,hz]
 refine EZ (items:=(m.tk++[m.gv]).map .int) F (λi ρ=>∃o,ρ=[some (.int (n:Int)),some (.str m.nm),some (tupI m.tk),some (.int m.gv),some (.int m.p),o]) ⟨none,rfl⟩ ?_ ?_
 ·rintro i x ρ z ⟨o,rfl⟩
  rw[zar]at z;obtain⟨e,B,rfl⟩:=map_some z;have b:0<=e/\e<(n:Int):=U0 (P:=λe=>0<=e/\e<(n:Int)) ok.tb ok.gv e (zaI B);exact⟨[some (.int (n:Int)),some (.str m.nm),some (tupI m.tk),some (.int m.gv),some (.int m.p),some (.int e)],by simp_all[turn,gN,b.1,b.2],_,rfl⟩
 ·rintro ρ ⟨o,rfl⟩
  exact⟨[some (.int (n:Int)),some (.str m.nm),some (tupI m.tk),some (.int m.gv),some (.int m.p),o],by ac_rfl⟩
theorem AH{M:Int}{n:Nat}{ms:List Mk}(Y:3<=M)(U:ms.length<=5)(J:∀m∈ms,OkM (n:Int) 7 m):qG [.int M,.int (n:Int),.lst (ms.map bP)]=some (.tup (ms.map (fR M))):=by
 have N:0<M:=by lia
 have b:(ms.length:Int)<=16:=by lia
 refine aN ?_;unfold oU;rw[aG (ρ':=aL 9 [.int M,.int (n:Int),.lst (ms.map bP)]) (by simp_all[aL,b])];rw[aG (aO (d:=.lst []) (by simp[-zad,-zae,aA,aD]))];refine cF (items:=ms.map bP) (by ac_rfl) (λi ρ=>∃B o5 o6 o7 o8,ρ=[some (.int M),some (.int (n:Int)),some (.lst (ms.map bP)),some (.lst ((ms.take i).map (fR M))),B,o5,o6,o7,o8]) ⟨none,none,none,none,none,by ac_rfl⟩ ?_ ?_
 ·rintro i x ρ G ⟨B,o5,o6,o7,o8,rfl⟩
  rw[zar]at G;obtain⟨m,q,rfl⟩:=map_some G;have ok:=J m (zaI q);have hi:i<ms.length:=(List.getElem?_eq_some_iff.mp q).1;have z:aZ (min i ms.length)=true:=decide_eq_true (by lia);have F:=u4 ok;have W:=xD (M:=M) (n:=m.tk.length) (ts:=m.ts) N (by rcases ok.tk with⟨t,e⟩|⟨t,u,e⟩ <;> rw[e] <;> simp[-zad,-zae,aA,aD]) ok.tl ok.tt;refine⟨[some (.int M),some (.int (n:Int)),some (.lst (ms.map bP)),some (.lst ((ms.take (i+1)).map (fR M))),some (.str m.nm),some (tupI m.tk),some (.int m.gv),some (.lst (m.ts.map bQ)),some (.int m.p)],?_,_,_,_,_,_,rfl⟩;rw[zbm,q];simp only[tupI]at F;simp_all[turn,bP,fR,tupI,F,W,z,j7]
 ·rintro ρ ⟨B,o5,o6,o7,o8,rfl⟩
  rw[zal,zbC];simp_all[j7,sW U]
def d7(M c:Int)(n:Nat)(rs:List Ro)(ms:List Mk):D:=.tup [.int M,.tup (dU c n),.tup ((rs.map (red M)).map bB),.tup (ms.map (fR M))]
theorem R0{M c:Int}{n:Nat}{rs:List Ro}{ms:List Mk}(q:3<=M/\M<10^60/\M%2=1)(B:1<=n/\n<=6)(z:rs.length<=12/\∀r∈rs,CF (n:Int) r)(U:ms.length<=5)(G:∀m∈ms,OkM (n:Int) 7 m):KJ [.int M,.lst (dU c n),.lst (rs.map bB),.lst (ms.map bP)]=some (d7 M c n rs ms):=by
 have W:=NU q.1 q.2.1 q.2.2;have N:=sX (c:=c) B.1 B.2;have F:=AK q.1 z.1 z.2;have J:=AH q.1 U G;refine aN ?_;simp[-zad,-zae,aA,aD,KR,aL,W,N,F,J,eI,j7,d7]at F ⊢
theorem nH(hB:aI bk (.int 2)=some (.tup (rs.map bB)))(g:GR M many rs)(hj:0<=j/\j<=100)(hk:0<=k/\k<=100):∃d,cM [bk,.int j,.int k]=some d/\((d=.non/\¬ Rch rs j k)\/∃w,d=tupI w/\IsF rs k j w):=by
 refine dH ?_;unfold nJ;have e0:(vY (aB 2) (fP aT)) (aL 7 [bk,.int j,.int k])=some (.dK ([(k,[])].map fK)):=by ac_rfl
 rw[aG (aO e0)];have rd:=qH (a:=k-1) (b:=j-1) (by lia) (by lia) (by lia) (by lia);have G:k-1-(j-1)=k-j:=by lia
 rw[G]at rd;refine eK (items:=aW (k-1) (-1) (k-j).toNat) (by ac_rfl) (λi ρ=>∃ds o4 o5 o6,ρ=[some (bk),some (.int j),some (.int k),some (.dK (ds.map fK)),o4,o5,o6]/\FI rs k (k-(i:Int)) ds/\ds.length<=1+i*13) ⟨[(k,[])],none,none,none,by ac_rfl,by simpa using FI.start rs k,by simp[-zad,-zae,aA,aD]⟩ ?_ ?_
 ·rintro i x ρ Y ⟨ds,o4,o5,o6,rfl,B,hz⟩
  obtain⟨ai,rfl⟩:=bD Y;generalize hc:k-1+(i:Int) * -1=c;have ec:k-(i:Int)=c+1:=by lia
  rw[ec]at B;have inner:=dX (g:=bO 2 (aM (aH 5) (aM (aH 6) bU))) (b:=(jI (wN (eM (aY zZ (aY aI (aB 6) (eC (.int 0))) (aB 4))) (wN (eM (aY GI (aY aI (aB 6) (eC (.int 1))) (aB 3))) (eM (aY k7 (aB 4) (aB 3))))) (wU 3 (aB 4) (aY cI (fP (aC (aB 5) aT)) (aY aI (aB 3) (aY aI (aB 6) (eC (.int 1)))))) mH))
   (items:=eL 0 (rs.map bB)) (ρ:=[some (bk),some (.int j),some (.int k),some (.dK (ds.map fK)),some (.int c),o5,o6])
   (λt ρ => ∃q N U, ρ = [some (bk), some (.int j), some (.int k), some (.dK (q.map fK)), some (.int c), N, U] /\ FJ rs k c t q /\ q.length <= ds.length+t) ⟨ds, o5, o6, rfl, B.go, zao _⟩ (by
    rintro t x ρ Y ⟨q,N,U,rfl,z,F⟩;obtain⟨y,hy,rfl⟩:=fY Y;rw[zar]at hy;obtain⟨r,J,rfl⟩:=map_some hy;have ht:t<rs.length:=(List.getElem?_eq_some_iff.mp J).1;have hr:eN rs (t:Int)=some r:=by unfold eN;rw[if_pos (by lia)];simpa using J
    rw[zdb];have lk:=vX q r.k;have lc:=vX q c;have i1:GI (.int r.k) (.dK (q.map fK))=some (.bl (bR q r.k).isSome):=by
     show((cH (.dK (q.map fK)) (.int r.k)).map (·.isSome)).map D.bl=_;rw[lk];cases bR q r.k <;> rfl
    have i2:k7 (.int c) (.dK (q.map fK))=some (.bl (!(bR q c).isSome)):=by
     show((cH (.dK (q.map fK)) (.int c)).map (·.isSome)).map (λb=>D.bl (!b))=_;rw[lc];cases bR q c <;> rfl
    by_cases hn:r.j=c/\(bR q r.k).isSome=true/\bR q c=none
    ·obtain⟨h1,h2,W⟩:=hn
     obtain⟨w,hw⟩:=Option.isSome_iff_exists.mp h2;have gl:=BQ g (z.it _ _ hw).2.2.way;have it:aI (.dK (q.map fK)) (.int r.k)=some (tupI w):=by
      show(cH (.dK (q.map fK)) (.int r.k)).join=_;rw[lk,hw];rfl
     have ad:=IT (v:=[(t:Int)]) (w:=w) (by simp[-zad,-zae,aA,aD];have:=(z.it _ _ hw).1;have:=(g.jk r (d6 hr));lia);have pt:=S9 (ds:=q) (x:=c) (w:=(t:Int)::w) W (by have:=g.len;lia);refine⟨[some (bk),some (.int j),some (.int k),some (.dK ((q++[(c,(t:Int)::w)]).map fK)),some (.int c),some (.int (t:Int)),some (bB r)],?_,_,_,_,rfl,z.put (by lia) hr h1 hw W,by simp[-zad,-zae,aA,aD];lia⟩;have tt:D.tup [.int (t:Int)]=tupI [(t:Int)]:=rfl;simp only[List.singleton_append]at ad;simp_all[-za4,turn,XX,XG,h1,i1,h2,i2,W,it,tt,ad,pt]
    ·refine⟨[some (bk),some (.int j),some (.int k),some (.dK (q.map fK)),some (.int c),some (.int (t:Int)),some (bB r)],?_,_,_,_,rfl,z.skip g hr hn,by lia⟩
     by_cases h1:r.j=c
     ·by_cases h2:(bR q r.k).isSome=true
      ·have W:(bR q c).isSome=true:=by
        cases e:bR q c with
        | none=>exact absurd ⟨h1,h2,e⟩ hn
        | some v=>rfl
       ac_rfl
      ·ac_rfl
     ·ac_rfl)
  obtain⟨ρ2,ef,q,N,U,rfl,z,F⟩:=inner;rw[iO,zal]at z F;refine⟨[some (bk),some (.int j),some (.int k),some (.dK (q.map fK)),some (.int c),N,U],?_,_,_,_,_,rfl,?_,by have:=g.len;lia⟩
  ·simp_all[turn,hB,ef]
  ·have:=z.done (by lia)
   have e2:k-((i+1:Nat):Int)=c:=by lia
   rw[e2];exact this
 ·rintro ρ' ⟨ds,o4,o5,o6,rfl,B,hz⟩
  rw[a8]at B;obtain⟨z1,z2⟩:=B.end g (j:=j) (by lia);have lj:=vX ds j;cases e:bR ds j with
  | none=>exact⟨.non,by simp_all[lj,e],.inl ⟨rfl,z2 e⟩⟩
  | some w=>exact⟨tupI w,by simp_all[lj,e],.inr ⟨w,rfl,z1 w e⟩⟩
open Classical in
theorem NJ(F:aI bk (.int 2)=some (.tup (rs.map bB)))(g:GR M many rs)(z:0<=j/\j<=100)(G:0<=k/\k<=100):vR [bk,.int j,.int k]=some (.bl (decide (Rch rs j k))):=by
 obtain⟨d,e,h⟩:=nH F g z G;refine aN ?_;rcases h with⟨rfl,q⟩|⟨w,rfl,B⟩
 ·simp_all[u9,aL,e,dZ,q]
 ·simp_all[u9,aL,e,dZ,tupI,B.rch]
theorem HP(h:Rch rs j x):x=j\/∃m r,eN rs m=some r/\r.k=x/\Rch rs j r.j:=by
 obtain⟨w,hw⟩:=h;rcases List.eq_nil_or_concat w with rfl|⟨v,m,rfl⟩
 ·exact .inl (zaD hw).symm
 ·rw[List.concat_eq_append,lX]at hw
  obtain⟨e,q,hw⟩:=bind_some hw;obtain⟨r,z,hw⟩:=bind_some (show(eN rs m).bind (λr=>if r.j=e then gw rs r.k []else none)=some x from hw);split at hw
  ·rename_i hj
   exact .inr ⟨m,r,z,zaD hw,v,by rw[hj];exact q⟩
  ·cases hw
theorem HA(h:Rch rs j r.j)(q:eN rs m=some r):Rch rs j r.k:=by
 obtain⟨w,hw⟩:=h;exact⟨w++[m],NI hw q rfl⟩
theorem S6{M:Int}{rs:List Ro}{i:Nat}{r:Ro}(h:rs[i]?=some r):eN (rs.map (red M)) (i:Int)=some (red M r):=by
 unfold eN;rw[if_pos (by lia),zb6,zar,h];rfl
theorem SR{M:Int}{n:Nat}{rs:List Ro}(J:3<=M)(G:rs.length<=12)(B:∀r∈rs,CF (n:Int) r):GR M (n:Int) (rs.map (red M)):=by
 have z:0<M:=by lia
 refine⟨by rw[zal];exact G,λr h=>?_,λr h=>?_,λr h=>?_⟩ <;> obtain⟨q,F,rfl⟩:=List.mem_map.mp h
 ·exact(B q F).1
 ·exact⟨⟨zax _ (zaX z),zay _ z⟩,zax _ (zaX z),zay _ z⟩
 ·exact⟨(B q F).2.1,(B q F).2.2.1⟩
theorem NA{K:Nat}{p:Int->Bool}{c:Int}{b:Bool}(h0:0<=c)(h:c<(K:Int)):sI (cV K p) (.int c) (.bl b)=some (cV K λx=>if x=c then b else p x):=by
 have:=ON (K:=K) (f:=λx=>D.bl (p x)) (c:=c) (d:=.bl b) h0 h;refine Eq.trans this ?_;show some (D.lst _)=some (D.lst _);congr 2;refine zey λx _=>?_
 show(if(x:Int)=c then D.bl b else D.bl (p x))=D.bl (if(x:Int)=c then b else p x);split <;> rfl
theorem E5{K:Nat}{p q:Int->Bool}(h:∀x:Int,0<=x->x<(K:Int)->p x=q x):cV K p=cV K q:=by
 unfold cV;congr 1;exact zey λx z=>by rw[h (x:Int) (by lia) (by have:=List.mem_range.mp z;lia)]
open Classical in
def RT(rs:List Ro)(j x:Int):Bool:=decide (Rch rs j x)
theorem iE:RT rs j x=true↔Rch rs j x:=by unfold RT;simp[-zad,-zae,aA,aD]
theorem xA{M:Int}{n:Nat}{rs:List Ro}(g:GR M (n:Int) (rs.map (red M)))(hn:n<=6):nB [.int (n:Int),.lst (rs.map bB)]=some (bF n (RT (rs.map (red M)))):=by
 have r1:=lU (show n<=1000000 by lia);have hz:aZ n=true:=decide_eq_true (by lia);generalize hR:rs.map (red M)=R at g;have al:∀r∈rs,0<=r.j/\r.j<r.k/\r.k<(n:Int):=λr h=>g.jk (red M r) (by rw[<- hR];exact List.mem_map.mpr ⟨r,h,rfl⟩)
 refine aN ?_;unfold mP;rw[aG (aO (d:=.lst []) (by simp[-zad,-zae,aA,aD]))];refine cF (items:=aW 0 1 n) (by ac_rfl) (λi ρ=>∃o3 o4 o5 o6,ρ=[some (.int (n:Int)),some (.lst (rs.map bB)),some (.lst ((zaB i).map λ(j:Nat)=>cV n (RT R (j:Int)))),o3,o4,o5,o6]) ⟨none,none,none,none,by ac_rfl⟩ ?_ ?_
 ·rintro i x ρ B ⟨o3,o4,o5,o6,rfl⟩
  obtain⟨ar,rfl⟩:=bD B;have hI:(0:Int)+(i:Int)*1=(i:Int):=by lia
  rw[hI];have ah:bW (aH 0) zQ (aY zZ (aB 0) (aB 1)) (aW 0 1 n) [none,some (.int (i:Int))]=some ((zaB n).map λ(k:Nat)=>D.bl (decide ((k:Int)=(i:Int)))):=by
   rw[IZ];exact xY (K:=n) (F:=λk=>D.bl (decide (k=(i:Int)))) (λk _ _=>by simp[-zad,-zae,aA,aD]) (zaB n) none λk hk=>List.mem_range.mp hk
  have r2:d5 [.int ((i:Int)+1),.int (n:Int)]=some (aW ((i:Int)+1) 1 ((n:Int)-((i:Int)+1)).toNat):=fZ (by lia) (by lia) (by lia) (by lia);obtain⟨ρ',e,p,ai,Y,rfl,G,J⟩:=dX (g:=aH 5) (b:=gC (nM (aB 1)) (aH 6) (jI (wN (eM (aY zZ (aY aI (aB 6) (eC (.int 1))) (aB 5))) (eM (aY aI (aB 4) (aY aI (aB 6) (eC (.int 0)))))) (wU 4 (aB 5) (eC (.bl true))) mH)) (items:=aW ((i:Int)+1) 1 ((n:Int)-((i:Int)+1)).toNat)
   (ρ:=[some (.int (n:Int)),some (.lst (rs.map bB)),some (.lst ((zaB i).map λ(j:Nat)=>cV n (RT R (j:Int)))),some (.int (i:Int)),some (cV n λx=>decide (x=(i:Int))),o5,o6])
   (λt ρ => ∃(p:Int -> Bool) (o5 o6:Option D), ρ = [some (.int (n:Int)), some (.lst (rs.map bB)), some (.lst ((zaB i).map λ(j:Nat) => cV n (RT R (j:Int)))), some (.int (i:Int)), some (cV n p), o5, o6] /\ (∀x:Int, x<(i:Int)+1+(t:Int) -> (p x = true ↔ Rch R (i:Int) x)) /\ ∀x:Int, (i:Int)+1+(t:Int) <= x -> p x = false) ⟨_, o5, o6, rfl, λx B => by
    rw[decide_eq_true_eq];refine⟨λz=>by rw[z];exact Rch.refl R _,λz=>by have:=z.le g;lia⟩,λx B=>decide_eq_false (by lia)⟩ (by
   rintro t x ρ B ⟨p,o5,o6,rfl,G,J⟩;obtain⟨an,rfl⟩:=bD B;generalize hk:(i:Int)+1+(t:Int)*1=kk;have ek:(i:Int)+1+(t:Int)=kk:=by lia
   rw[ek]at G J;have kn:kk<(n:Int):=by lia
   obtain⟨ρ',e,p',Y,rfl,af,aj,ae⟩:=dX (g:=aH 6) (b:=(jI (wN (eM (aY zZ (aY aI (aB 6) (eC (.int 1))) (aB 5))) (eM (aY aI (aB 4) (aY aI (aB 6) (eC (.int 0)))))) (wU 4 (aB 5) (eC (.bl true))) mH)) (items:=rs.map bB)
    (ρ:=[some (.int (n:Int)),some (.lst (rs.map bB)),some (.lst ((zaB i).map λ(j:Nat)=>cV n (RT R (j:Int)))),some (.int (i:Int)),some (cV n p),some (.int kk),o6])
    (λu ρ => ∃(p:Int -> Bool) (o6:Option D), ρ = [some (.int (n:Int)), some (.lst (rs.map bB)), some (.lst ((zaB i).map λ(j:Nat) => cV n (RT R (j:Int)))), some (.int (i:Int)), some (cV n p), some (.int kk), o6] /\ (∀x:Int, x<kk -> (p x = true ↔ Rch R (i:Int) x)) /\ (∀x:Int, kk<x -> p x = false) /\ (p kk = true ↔ ∃(m:Int) (r:Ro), m<(u:Int) /\ eN R m = some r /\ r.k = kk /\ Rch R (i:Int) r.j)) ⟨p, o6, rfl, G, λx B => J x (by lia), by
     rw[J kk (by lia)];refine⟨λz=>(nomatch z),λ⟨m,r,hm,N,_⟩=>?_⟩;have:=(l8 N).1
     lia⟩ (by
    rintro u x ρ B ⟨p,o6,rfl,G,J,N⟩;rw[zar]at B;obtain⟨r,ac,rfl⟩:=map_some B;have ra:eN R (u:Int)=some (red M r):=by rw[<- hR];exact S6 ac
    have b:=al r (zaI ac);have skip:¬ (r.k=kk/\p r.j=true)->(p kk=true↔∃(m:Int) (r:Ro),m<((u+1:Nat):Int)/\eN R m=some r/\r.k=kk/\Rch R (i:Int) r.j):=λhn=>by
     rw[N];refine⟨λ⟨m,q,a,z⟩=>⟨m,q,by lia,z⟩,λ⟨m,q,a,U,W,ad⟩=>?_⟩;by_cases em:m=(u:Int)
     ·subst em
      rw[ra]at U;cases U;exact absurd ⟨W,(G r.j (by have:r.k=kk:=W;lia)).mpr ad⟩ hn
     ·exact⟨m,q,by lia,U,W,ad⟩
    by_cases h1:r.k=kk
    ·have rj:=v8 (p:=p) b.1 (show r.j<(n:Int) by lia)
     by_cases h2:p r.j=true
     ·have rp:=NA (p:=p) (c:=kk) (b:=true) (by lia) kn
      refine⟨[some (.int (n:Int)),some (.lst (rs.map bB)),some (.lst ((zaB i).map λ(j:Nat)=>cV n (RT R (j:Int)))),some (.int (i:Int)),some (cV n λx=>if x=kk then true else p x),some (.int kk),some (bB r)],?_,_,_,rfl,λx B=>?_,λx B=>?_,?_⟩
      ·simp_all[turn,XG,XX,h1,rj,h2,rp]
      ·rw[if_neg (by lia)];exact G x B
      ·rw[if_neg (by lia)];exact J x B
      ·rw[if_pos rfl]
       exact⟨λ_=>⟨u,red M r,by lia,ra,h1,(G r.j (by lia)).mp h2⟩,λ_=>rfl⟩
     ·refine⟨[some (.int (n:Int)),some (.lst (rs.map bB)),some (.lst ((zaB i).map λ(j:Nat)=>cV n (RT R (j:Int)))),some (.int (i:Int)),some (cV n p),some (.int kk),some (bB r)],?_,_,_,rfl,G,J,skip λz=>h2 z.2⟩
      have a2:p r.j=false:=by simpa using h2
      ac_rfl
    ·refine⟨[some (.int (n:Int)),some (.lst (rs.map bB)),some (.lst ((zaB i).map λ(j:Nat)=>cV n (RT R (j:Int)))),some (.int (i:Int)),some (cV n p),some (.int kk),some (bB r)],?_,_,_,rfl,G,J,skip λz=>h1 z.1⟩
     ac_rfl)
   rw[zal]at ae;refine⟨[some (.int (n:Int)),some (.lst (rs.map bB)),some (.lst ((zaB i).map λ(j:Nat)=>cV n (RT R (j:Int)))),some (.int (i:Int)),some (cV n p'),some (.int kk),Y],?_,p',_,_,rfl,λx B=>?_,λx B=>aj x (by lia)⟩
   ·simp_all[turn,e]
   ·by_cases ex:x=kk
    ·subst ex
     rw[ae];refine⟨λ⟨m,r,_,N,hk,z⟩=>by rw[<- hk];exact HA z N,λz=>?_⟩;rcases HP z with z|⟨m,r,N,hk,z⟩
     ·lia
     ·refine⟨m,r,?_,N,hk,z⟩
      have:=(l8 N).2;rw[<- hR,zal]at this;exact this
    ·exact af x (by lia))
  rw[a8]at G J;have er:cV n p=cV n (RT R (i:Int)):=E5 λx h0 h1=>by
   rw[zcT,iE];exact G x (by lia)
  refine⟨[some (.int (n:Int)),some (.lst (rs.map bB)),some (.lst ((zaB (i+1)).map λ(j:Nat)=>cV n (RT R (j:Int)))),some (.int (i:Int)),some (cV n p),ai,Y],?_,_,_,_,_,rfl⟩;have ag:aZ i=true:=decide_eq_true (by lia);have ab:(D.lst ((zaB n).map λ(k:Nat)=>D.bl (decide ((k:Int)=(i:Int)))))=cV n λx=>decide (x=(i:Int)):=rfl
  rw[List.range_succ,za4];simp only[zak,zb1];simp_all[-za4,turn,r1,a8,hz,sL,ah,ab,r2,e,er,ag]
 ·rintro ρ ⟨o3,o4,o5,o6,rfl⟩
  rw[a8]
  ac_rfl
noncomputable def fO:List Int->List Int->List (Int×Int)
 | x::xs,y::ys=>(x,y)::fO xs ys
 | _,_=>[]
theorem lV:∀(xs ys:List Int),gA (xs.map .int) (ys.map .int)=(fO xs ys).map λp=>D.tup [.int p.1,.int p.2]
 | [],_=>by cases ‹List Int› <;> rfl
 | _::_,[]=>rfl
 | x::xs,y::ys=>by
  show D.tup [.int x,.int y]::gA (xs.map .int) (ys.map .int)=_;rw[lV xs ys];rfl
theorem y9:∀(xs ys:List Int),(fO xs ys).length<=xs.length
 | [],_=>by cases ‹List Int› <;> exact zao _
 | _::_,[]=>zaZ _
 | x::xs,y::ys=>by
  show(fO xs ys).length+1<=xs.length+1;have:=y9 xs ys
  lia
theorem qX{P Q:Int->Prop}:∀ {xs ys:List Int},(∀x∈xs,P x)->(∀y∈ys,Q y)->∀p∈fO xs ys,P p.1/\Q p.2
 | [],ys,_,_,p,h=>by cases ys <;> exact nomatch h
 | _::_,[],_,_,p,h=>nomatch h
 | x::xs,y::ys,hx,hy,p,h=>by
  rcases List.mem_cons.mp (show p∈(x,y)::fO xs ys from h)with rfl|z
  ·exact⟨hx x (zau ..),hy y (zau ..)⟩
  ·exact qX (λa q=>hx a (zav _ q)) (λa q=>hy a (zav _ q)) p z
theorem oX{M:Int}{n:Nat}{R:List Ro}{bk:D}(B:aI bk (.int 2)=some (.tup (R.map bB)))(g:GR M (n:Int) R)(F:n<=6):∀(ps:List (Int×Int)) (o1 o2:Option D),(∀p∈ps,(0<=p.1/\p.1<(n:Int))/\0<=p.2/\p.2<(n:Int))->
  bW (bO 2 (aM (aH 0) (aM (aH 1) bU))) zQ (aQ vR (aC (aB 2) (aC (aB 0) (aC (aB 1) aT)))) (ps.map λp=>D.tup [.int p.1,.int p.2]) [o1,o2,some bk]=some ((ps.map λp=>RT R p.1 p.2).map .bl)
 | [],_,_,_=>rfl
 | p::ps,o1,o2,h=>by
  have ih:=oX B g F ps (some (.int p.1)) (some (.int p.2)) λq G=>h q (zav _ G)
  obtain⟨a,b⟩:=h p (zau ..);have v:=NJ B g (j:=p.1) (k:=p.2) (by lia) (by lia);have z:RT R p.1 p.2=@decide (Rch R p.1 p.2) (zcm _):=rfl;rw[<- z]at v;rw[zak,bW];simp_all[v,ih]
def dM(R:List Ro)(ks tk:List Int):Bool:=decide (ks.length=tk.length) && (fO ks tk).all λp=>RT R p.1 p.2
theorem VU{M:Int}{ms:List Mk}{i:Int}(h0:0<=i)(h:i<(ms.length:Int)):∃m∈ms,dW (ms.map bP) i=some (bP m)/\dW (ms.map (fR M)) i=some (fR M m):=by
 obtain⟨j,rfl⟩:∃j:Nat,i=(j:Int):=⟨i.toNat,by lia⟩;have q:j<ms.length:=by lia
 exact⟨ms[j],zc8 q,bG (by simp_all[q]),bG (by simp_all[q])⟩
theorem U3:aI (d7 M c n rs ms) (.int 2)=some (.tup ((rs.map (red M)).map bB)):=by unfold d7;rw[q_itT];exact at2
theorem O8:aI (d7 M c n rs ms) (.int 3)=some (.tup (ms.map (fR M))):=by unfold d7;rw[q_itT];exact YV
theorem YA:aI (bP m) (.int 1)=some (tupI m.tk):=by unfold bP;rw[q_itT];exact at1
theorem XZ:aI (fR M m) (.int 1)=some (tupI m.tk):=by unfold fR;rw[q_itT];exact at1
theorem UK{M c:Int}{n:Nat}{rs:List Ro}{ms:List Mk}{i:Int}{m:Mk}{ks:List Int}(N:n<=6)(g:GR M (n:Int) (rs.map (red M)))(hm:dW (ms.map (fR M)) i=some (fR M m))(Y:∀k∈ks,0<=k/\k<(n:Int))(hl:ks.length<=100)(F:∀k∈m.tk,0<=k/\k<(n:Int)):KB [d7 M c n rs ms,.int i,tupI ks]=some (.bl (dM (rs.map (red M)) ks m.tk)):=by
 have z:aI (d7 M c n rs ms) (.int 2)=some (.tup ((rs.map (red M)).map bB)):=U3;have U:aI (d7 M c n rs ms) (.int 3)=some (.tup (ms.map (fR M))):=O8;generalize hbk:d7 M c n rs ms=bk at z U;generalize rs.map (red M)=R at g z;refine aN ?_;unfold KY dM;rw[aG (aO (d:=tupI m.tk) (by ac_rfl))];by_cases B:ks.length=m.tk.length
 ·have q:(m.tk.length:Int)=(ks.length:Int):=by lia
  rw[aG (ρ':=[some bk,some (.int i),some (tupI ks),some (tupI m.tk)]) (by simp_all[aL,tupI,q])];have J:=oX z g N (fO ks m.tk) none none (qX (P:=λk=>0<=k/\k<(n:Int)) (Q:=λk=>0<=k/\k<(n:Int)) Y F);have zl:=y9 ks m.tk;have hz:aZ (fO ks m.tk).length=true:=decide_eq_true (by lia);have W:((fO ks m.tk).map λp=>RT R p.1 p.2).all id=(fO ks m.tk).all λp=>RT R p.1 p.2:=by rw[List.all_map];rfl
  have G:B6 [.lst (((fO ks m.tk).map λp=>RT R p.1 p.2).map .bl)]=some (.bl ((fO ks m.tk).all λp=>RT R p.1 p.2)):=by rw[q_all,W]
  rw[decide_eq_true B,zde];simp_all[-zaQ,-q_all,tupI,lV,sL,hz,J,G]
 ·have q:¬ (m.tk.length:Int)=(ks.length:Int):=by lia
  rw[decide_eq_false B,zcB];simp_all[aL,tupI,q]
theorem N2:∀ {d e k j:List Int},Bx d k->Bx e j->d.length=e.length->vT [tupI k,tupI j]=some (tupI (fQ k j))
 | [_],[_],[x],[y],_,_,_=>aN (by simp_all[vS,aL,tupI,at0,fQ])
 | [_,_],[_,_],[x,a],[y,b],_,_,_=>aN (by simp_all[vS,aL,tupI,at0,at1,fQ])
theorem vJ(h0:0<M)(h1:M<10^60)(f:Fo M d F)(g:Fo M e G)(hl:d.length=e.length)(lw:CG (fQ d e)):∃H,k8 [.int M,fD F,fD G]=some (fD H)/\Fo M (fQ d e) H/\∀vs:List Int,vs.length=d.length->M∣ev vs H-ev vs F*ev vs G:=by
 suffices h:∃r,k8 [.int M,fD F,fD G]=some r/\∃H,r=fD H/\Fo M (fQ d e) H/\∀vs:List Int,vs.length=d.length->M∣ev vs H-ev vs F*ev vs G by
  obtain⟨r,U,H,rfl,x⟩:=h;exact⟨H,U,x⟩
 have al:(10:Int)^60=1000000000000000000000000000000000000000000000000000000000000:=by decide +kernel
 refine dH ?_;unfold CU fD;rw[aG (aO (d:=.dT []) (by simp[-zad,-zae,aA,aD]))];refine eK (items:=F.map bQ) (by ac_rfl) (λi ρ=>∃(T:List My.Tm) (Y o5 o6 o7 o8:Option D),ρ=[some (.int M),some (.tup (F.map bQ)),some (.tup (G.map bQ)),some (.dT (T.map kD)),Y,o5,o6,o7,o8]/\Fk (fQ d e) T/\∀vs:List Int,vs.length=d.length->ev vs T=ev vs (F.take i)*ev vs G) ⟨[],none,none,none,none,none,by ac_rfl,Fk.nil _,λvs _=>by simp_all[ev]⟩ ?_ ?_
 ·rintro i x ρ hx ⟨T,Y,o5,o6,o7,o8,rfl,tk,te⟩
  rw[zar]at hx;obtain⟨t,ht,rfl⟩:=map_some hx;have W:=zaI ht;have bt:=f.k.bx t W;have ct:=f.cb t W;have ae:F.take (i+1)=F.take i++[t]:=by rw[zbm,ht];rfl
  obtain⟨ρ',er,q,p6,p7,p8,rfl,z,B⟩:=dX (g:=bO 2 (aM (aH 6) (aM (aH 7) bU))) (b:=(bM (bS 8 (aQ vT (aC (aB 4) (aC (aB 6) aT))))
   (wU 3 (aB 8) (aY cI (sC (aB 3) (aB 8) (eC (.int 0))) (aY cC (aB 5) (aB 7)))))) (items:=G.map bQ) (ρ:=[some (.int M),some (.tup (F.map bQ)),some (.tup (G.map bQ)),some (.dT (T.map kD)),some (tupI t.1),some (.int t.2),o6,o7,o8])
   (λj ρ=>∃(q:List My.Tm) (o6 o7 o8:Option D),ρ=[some (.int M),some (.tup (F.map bQ)),some (.tup (G.map bQ)),some (.dT (q.map kD)),some (tupI t.1),some (.int t.2),o6,o7,o8]/\Fk (fQ d e) q/\∀vs:List Int,vs.length=d.length->ev vs q=ev vs T+t.2*mon t.1 vs*ev vs (G.take j)) ⟨T,o6,o7,o8,rfl,tk,λvs _=>by simp_all[ev]⟩ (by
   rintro j y ρ hy ⟨q,o6,o7,o8,rfl,z,B⟩;rw[zar]at hy;obtain⟨u,hu,rfl⟩:=map_some hy;have N:=zaI hu;have bu:=g.k.bx u N;have cu:=g.cb u N;have ac:G.take (j+1)=G.take j++[u]:=by rw[zbm,hu];rfl
   have va:=N2 bt bu hl;have mu:cC (.int t.2) (.int u.2)=some (.int (t.2*u.2)):=c7 (by lia) (by lia) (by lia) (by lia);have ap:=DS (i:=8) (X:=aY cC (aB 5) (aB 7)) (ρ:=[some (.int M),some (.tup (F.map bQ)),some (.tup (G.map bQ)),some (.dT (q.map kD)),some (tupI t.1),some (.int t.2),some (tupI u.1),some (.int u.2),some (tupI (fQ t.1 u.1))]) (T:=q) (k:=fQ t.1 u.1) (x:=t.2*u.2) rfl rfl (by ac_rfl) (by have:=z.len lw;lia);refine⟨_,?_,My.put q (fQ t.1 u.1) (cf q (fQ t.1 u.1)+t.2*u.2),some (tupI u.1),some (.int u.2),some (tupI (fQ t.1 u.1)),rfl,z.put (bt.add bu hl),λvs J=>?_⟩
   ·show(bO 2 (aM (aH 6) (aM (aH 7) bU)) (bQ u) _).bind _=_
    have U:bO 2 (aM (aH 6) (aM (aH 7) bU)) (bQ u) [some (.int M),some (.tup (F.map bQ)),some (.tup (G.map bQ)),some (.dT (q.map kD)),some (tupI t.1),some (.int t.2),o6,o7,o8]=some [some (.int M),some (.tup (F.map bQ)),some (.tup (G.map bQ)),some (.dT (q.map kD)),some (tupI t.1),some (.int t.2),some (tupI u.1),some (.int u.2),o8]:=by ac_rfl
    rw[U,aA,aG (aO (d:=tupI (fQ t.1 u.1)) (by ac_rfl))];exact ap
   ·rw[BL z.nd rfl,B vs J,ac,lE,MM bt bu hl J,Int.mul_add]
    generalize mon t.1 vs=a;generalize mon u.1 vs=b;grind)
  refine⟨_,?_,q,some (tupI t.1),some (.int t.2),p6,p7,p8,rfl,z,λvs J=>?_⟩
  ·show(bO 2 (aM (aH 4) (aM (aH 5) bU)) (bQ t) _).bind _=_
   have U:bO 2 (aM (aH 4) (aM (aH 5) bU)) (bQ t) [some (.int M),some (.tup (F.map bQ)),some (.tup (G.map bQ)),some (.dT (T.map kD)),Y,o5,o6,o7,o8]=some [some (.int M),some (.tup (F.map bQ)),some (.tup (G.map bQ)),some (.dT (T.map kD)),some (tupI t.1),some (.int t.2),o6,o7,o8]:=by ac_rfl
   rw[U,aA,q_for];have e2:nM (aB 2) [some (.int M),some (.tup (F.map bQ)),some (.tup (G.map bQ)),some (.dT (T.map kD)),some (tupI t.1),some (.int t.2),o6,o7,o8]=some (G.map bQ):=by simp[-zad,-zae,aA,aD]
   rw[e2,aA];exact er
  ·rw[B vs J,te vs J,ae,lE,zal,zbC,Int.add_mul]
 ·rintro ρ ⟨T,Y,o5,o6,o7,o8,rfl,tk,te⟩
  rw[zal,zbC]at te;have vf:=iQ (M:=M) (cs:=T) h0 (by have:=tk.len lw;lia);refine⟨_,by simp_all[vf] <;> rfl,My.b8 M (bJ T),rfl,tk.form h0,λvs J=>?_⟩;rw[<- te vs J];exact nZ T
theorem B0(h0:0<M)(f:Fo M d F)(g:Fo M d G)(z:CG d):∃H,mC [.int M,fD F,fD G]=some (fD H)/\Fo M d H/\∀vs:List Int,M∣ev vs H-(ev vs F+ev vs G):=by
 suffices h:∃r,mC [.int M,fD F,fD G]=some r/\∃H,r=fD H/\Fo M d H/\∀vs:List Int,M∣ev vs H-(ev vs F+ev vs G) by
  obtain⟨r,J,H,rfl,x⟩:=h;exact⟨H,J,x⟩
 have dt:=FZ f.k.nd (by have:=f.k.len z;lia);refine dH ?_;unfold J8 fD;rw[aG (aO (d:=.dT (F.map kD)) (by ac_rfl))];refine eK (items:=G.map bQ) (by ac_rfl) (λi ρ=>∃(T:List My.Tm) (q o5:Option D),ρ=[some (.int M),some (.tup (F.map bQ)),some (.tup (G.map bQ)),some (.dT (T.map kD)),q,o5]/\Fk d T/\∀vs:List Int,ev vs T=ev vs F+ev vs (G.take i)) ⟨F,none,none,by ac_rfl,f.k,λvs=>by ac_rfl⟩ ?_ ?_
 ·rintro i x ρ W ⟨T,q,o5,rfl,tk,te⟩
  rw[zar]at W;obtain⟨t,U,rfl⟩:=map_some W;have B:=zaI U;have N:G.take (i+1)=G.take i++[t]:=by rw[zbm,U];rfl
  have Y:=DS (i:=4) (X:=aB 5) (ρ:=[some (.int M),some (.tup (F.map bQ)),some (.tup (G.map bQ)),some (.dT (T.map kD)),some (tupI t.1),some (.int t.2)]) (T:=T) (k:=t.1) (x:=t.2) rfl rfl rfl (by have:=tk.len z;lia);refine⟨_,?_,My.put T t.1 (cf T t.1+t.2),some (tupI t.1),some (.int t.2),rfl,tk.put (g.k.bx t B),λvs=>?_⟩
  ·show(bO 2 (aM (aH 4) (aM (aH 5) bU)) (bQ t) _).bind _=_
   have J:bO 2 (aM (aH 4) (aM (aH 5) bU)) (bQ t) [some (.int M),some (.tup (F.map bQ)),some (.tup (G.map bQ)),some (.dT (T.map kD)),q,o5]=some [some (.int M),some (.tup (F.map bQ)),some (.tup (G.map bQ)),some (.dT (T.map kD)),some (tupI t.1),some (.int t.2)]:=by ac_rfl
   rw[J,aA];exact Y
  ·rw[BL tk.nd rfl,te vs,N,lE];lia
 ·rintro ρ ⟨T,q,o5,rfl,tk,te⟩
  rw[zal,zbC]at te;have vf:=iQ (M:=M) (cs:=T) h0 (by have:=tk.len z;lia);refine⟨_,by simp_all[vf] <;> rfl,My.b8 M (bJ T),rfl,tk.form h0,λvs=>?_⟩;rw[<- te vs];exact nZ T
noncomputable def zN(n:Int):List Int:=if n=1 then [0]else [0,0]
theorem jO(h0:0<M)(B:n=1\/n=2):∃H,jQ [.int M,.int n,.int c]=some (fD H)/\Fo M (zN n) H/\∀vs:List Int,(vs.length:Int)=n->M∣ev vs H-c:=by
 have q:=iQ (M:=M) (cs:=[(zN n,c)]) h0 (by simp[-zad,-zae,aA,aD]);have k:Fk (zN n) [(zN n,c)]:=⟨by simp[-zad,-zae,aA,aD],λt G=>by
  rw[List.mem_singleton.mp G];rcases B with rfl|rfl
  ·exact⟨by decide,by decide⟩
  ·exact⟨⟨by decide,by decide⟩,by decide,by decide⟩⟩
 refine⟨My.b8 M (bJ [(zN n,c)]),aN ?_,k.form h0,λvs J=>?_⟩
 ·rcases B with rfl|rfl
  ·have z:zW (.tup [.int 0])=some [zam 0]:=rfl
   have F:([(zN 1,c)]:List My.Tm).map kD=[([zam 0],.int c)]:=rfl;rw[F]at q;simp_all[jM,aL,z,q,fD]
  ·have z:zW (.tup [.int 0,.int 0])=some [zam 0,zam 0]:=rfl
   have F:([(zN 2,c)]:List My.Tm).map kD=[([zam 0,zam 0],.int c)]:=rfl;rw[F]at q;simp_all[jM,aL,z,q,fD]
 ·have h:=nZ (M:=M) (vs:=vs) [(zN n,c)]
  have e:ev vs [(zN n,c)]=c:=by
   rw[bH,l6];rcases B with rfl|rfl
   ·obtain⟨v,rfl⟩:=List.length_eq_one_iff.mp (show vs.length=1 by lia)
    simp_all[zN,mon]
   ·obtain⟨v,u,rfl⟩:=lN (show vs.length=2 by lia)
    simp_all[zN,mon]
  rw[e]at h;exact h
theorem S0(q:n=1\/n=2)(z:(d.length:Int)=n):fQ (zN n) d=d:=by
 rcases q with rfl|rfl
 ·obtain⟨v,rfl⟩:=List.length_eq_one_iff.mp (show d.length=1 by lia)
  simp_all[zN,fQ]
 ·obtain⟨v,u,rfl⟩:=lN (show d.length=2 by lia)
  simp_all[zN,fQ]
theorem S5(q:n=1\/n=2):((zN n).length:Int)=n:=by rcases q with rfl|rfl <;> rfl
theorem fE(h0:0<M)(h1:M<10^60)(q:n=1\/n=2)(N:(d.length:Int)=n)(hz:Bx d (zN n))(B:CG d)(f:Fo M d F):∃H,bE [.int M,.int n,.tup [.int a,.int b],fD F]=some (fD H)/\Fo M d H/\∀vs:List Int,vs.length=d.length->M∣ev vs H-(a*ev vs F+b):=by
 obtain⟨A,ea,fa,va⟩:=jO (M:=M) (n:=n) (c:=a) h0 q;obtain⟨G,eb,fb,vb⟩:=jO (M:=M) (n:=n) (c:=b) h0 q;have zl:=S5 q;have J:=S0 q N;obtain⟨T,et,z,vt⟩:=vJ h0 h1 fa f (by lia) (by rw[J];exact B);rw[J]at z;obtain⟨H,eh,W,vh⟩:=B0 h0 z (fb.mono hz) B;refine⟨H,aN ?_,W,λvs hv=>?_⟩
 ·simp_all[i4,aL,at0,at1,ea,eb,et,eh]
 ·have Y:=vh vs
  have x2:=vt vs (by lia);have U:=a7 (va vs (by lia)) (aS M (ev vs F));have x4:=vb vs (by lia);have:ev vs H-(a*ev vs F+b)=(ev vs H-(ev vs T+ev vs G))+(ev vs T-ev vs A*ev vs F)+(ev vs A*ev vs F-a*ev vs F)+(ev vs G-b):=by lia
  rw[this];exact zaR (zaR (zaR Y x2) U) x4
noncomputable def LK(p:Nat)(k:List Int):Int:=k.getD p 0
theorem yO:∀(F:List My.Tm) (o1 o2:Option D),(∀t∈F,p<t.1.length)->bW (bO 2 (aM (aH 0) (aM (aH 1) bU))) zQ (aY aI (aB 0) (aB 2)) (F.map bQ) [o1,o2,some (.int (p:Int))]=some ((F.map λt=>LK p t.1).map .int)
 | [],_,_,_=>rfl
 | t::F,o1,o2,h=>by
  have ih:=yO F (some (tupI t.1)) (some (.int t.2)) λu z=>h u (zav _ z)
  have q:=h t (zau ..);have e:dW (t.1.map D.int) (p:Int)=some (.int (LK p t.1)):=bG (by
   unfold LK;rw[zar,zaL q,List.getD_eq_getElem?_getD,zaL q];rfl)
  rw[zak,bW];simp[-zad,-zae,aA,aD,-zaQ,bQ,tupI,e]at ih ⊢;simp_all[-zaQ,bQ,tupI,ih]
theorem pC:∀(l:List Int) (a:Int),a<=l.foldl (λm x=>if x>m then x else m) a/\∀x∈l,x<=l.foldl (λm x=>if x>m then x else m) a
 | [],a=>⟨zex _,λ_ h=>nomatch h⟩
 | y::l,a=>by
  obtain⟨h1,h2⟩:=pC l (if y>a then y else a);rw[zcJ];have B:a<=(if y>a then y else a)/\y<=(if y>a then y else a):=by split <;> lia
  exact⟨by lia,λx q=>by
   rcases List.mem_cons.mp q with z|z
   ·subst z;lia
   ·exact h2 x z⟩
theorem pS:∀(l:List Int) (a:Int),a<=b->(∀x∈l,x<=b)->l.foldl (λm x=>if x>m then x else m) a<=b
 | [],a,h,_=>h
 | y::l,a,h,g=>by
  rw[zcJ];exact pS l _ (by have:=g y (zau ..);split <;> lia) λx q=>g x (zav _ q)
theorem LW(h:∀x∈l,0<=x/\x<=2):∃m:Nat,My.nW 0 l=(m:Int)/\m<=2/\∀x∈l,x<=(m:Int):=by
 cases l with
 | nil=>exact⟨0,rfl,by decide,λ_ h=>nomatch h⟩
 | cons y l=>
  have F:=h y (zau ..);obtain⟨h1,h2⟩:=pC l y;have B:=pS (b:=2) l y F.2 λx q=>(h x (zav _ q)).2
  have e:My.nW 0 (y::l)=l.foldl (λm x=>if x>m then x else m) y:=rfl;generalize l.foldl (λm x=>if x>m then x else m) y=m at h1 h2 B e;refine⟨m.toNat,by lia,by lia,λx q=>?_⟩;rcases List.mem_cons.mp q with z|z
  ·subst z;lia
  ·have:=h2 x z;lia
theorem jZ(U:F.length<=1000)(h:∀t∈F,p<t.1.length/\0<=LK p t.1/\LK p t.1<=2):∃m:Nat,eD [fD F,.int (p:Int)]=some (.int (m:Int))/\m<=2/\∀t∈F,LK p t.1<=(m:Int):=by
 have N:=yO F none none λt z=>(h t z).1
 obtain⟨m,B,G,J⟩:=LW (l:=F.map λt=>LK p t.1) λx M=>by
  obtain⟨t,z,rfl⟩:=List.mem_map.mp M;exact(h t z).2
 have hz:aZ F.length=true:=decide_eq_true (by lia);refine⟨m,aN ?_,G,λt z=>J _ (zeC (f:=λt=>LK p t.1) z)⟩;have q:=q_maxD (ns:=F.map λt=>LK p t.1) (d:=0);rw[B]at q;simp_all[-zaQ,-q_maxD,pQ,aL,fD,hz,sL,N,q]
noncomputable def sc(i:Nat)(u:List Int):List Int:=u.map λx=>(i:Int)*x
theorem sc_add(z:u=[1]\/u=[0,1]):fQ (sc i u) u=sc (i+1) u:=by
 rcases z with rfl|rfl
 ·show [(i:Int)*1+1]=[((i+1:Nat):Int)*1]
  have q:(i:Int)*1+1=((i+1:Nat):Int)*1:=by lia
  rw[q]
 ·show [(i:Int)*0+0,(i:Int)*1+1]=[((i+1:Nat):Int)*0,((i+1:Nat):Int)*1]
  have q:(i:Int)*1+1=((i+1:Nat):Int)*1:=by lia
  have B:(i:Int)*0+0=((i+1:Nat):Int)*0:=by lia
  rw[q,B]
theorem sc_low(q:u=[1]\/u=[0,1])(h:i<=6):CG (sc i u):=by
 rcases q with rfl|rfl
 ·show(i:Int)*1<=6;lia
 ·show(i:Int)*0<=6/\(i:Int)*1<=6;lia
theorem nE{M n:Int}(h0:0<M)(h1:M<10^60)(hn:n=1\/n=2){u:List Int}(J:u=[1]\/u=[0,1])(hl:(u.length:Int)=n){F:List My.Tm}(f:Fo M u F){m:Nat}(hm:m<=2):∃q:List (List My.Tm),gU [.int M,.int n,fD F,.int (m:Int)]=some (.lst (q.map fD))/\q.length=m+1/\∀(i:Nat) (P:List My.Tm),q[i]?=some P->Fo M (sc i u) P/\∀vs:List Int,vs.length=u.length->M∣ev vs P-ev vs F^i:=by
 suffices h:∃r,gU [.int M,.int n,fD F,.int (m:Int)]=some r/\∃q:List (List My.Tm),r=.lst (q.map fD)/\q.length=m+1/\∀(i:Nat) (P:List My.Tm),q[i]?=some P->Fo M (sc i u) P/\∀vs:List Int,vs.length=u.length->M∣ev vs P-ev vs F^i by
  obtain⟨r,e1,H,rfl,x⟩:=h;exact⟨H,e1,x⟩
 obtain⟨O,eo,fo,vo⟩:=jO (M:=M) (n:=n) (c:=1) h0 hn;have z0:sc 0 u=zN n:=by
  rcases J with rfl|rfl
  ·have:n=1:=by simpa using hl.symm
   subst this;rfl
  ·have:n=2:=by simpa using hl.symm
   subst this;rfl
 refine dH ?_;unfold mQ;rw[aG (aO (d:=.lst [fD O]) (by ac_rfl))];refine eK (items:=aW 0 1 m) (by simp_all[aL,lU (n:=m) (by lia)]) (λi ρ=>∃(q:List (List My.Tm)) (o:Option D),ρ=[some (.int M),some (.int n),some (fD F),some (.int (m:Int)),some (.lst (q.map fD)),o]/\q.length=i+1/\∀(i:Nat) (P:List My.Tm),q[i]?=some P->Fo M (sc i u) P/\∀vs:List Int,vs.length=u.length->M∣ev vs P-ev vs F^i) ⟨[O],none,by ac_rfl,rfl,λi P B=>?_⟩ ?_ ?_
 ·cases i with
  | zero=>
   have:O=P:=by simpa using B
   subst this;exact⟨by rw[z0];exact fo,λvs hv=>by rw[zdE];exact vo vs (by lia)⟩
  | succ i=>simp[-zad,-zae,aA,aD]at B
 ·rintro i x ρ hx ⟨q,o,rfl,z,B⟩
  obtain⟨ac,rfl⟩:=bD hx;have hI:(0:Int)+(i:Int)*1=(i:Int):=by lia
  rw[hI];have hi:i<q.length:=by lia
  obtain⟨fp,vp⟩:=B i q[i] (zaL hi);have W:dW (q.map fD) (i:Int)=some (fD q[i]):=bG (by rw[zar,zaL hi];rfl);have sl:(sc i u).length=u.length:=by simp_all[sc]
  obtain⟨Q,eq,Y,vq⟩:=vJ h0 h1 fp f sl (by rw[sc_add J];exact sc_low J (by lia));rw[sc_add J]at Y;have hz:aZ q.length=true:=decide_eq_true (by lia);refine⟨_,?_,q++[Q],some (.int (i:Int)),rfl,by simp_all[z],λj P G=>?_⟩
  ·simp_all[turn,W,eq,hz]
  ·by_cases U:j<q.length
   ·rw[zdk U]at G;exact B j P G
   ·have N:j=q.length:=by
     have:=(List.getElem?_eq_some_iff.mp G).1;simp[-zad,-zae,aA,aD]at this;lia
    subst N;have:Q=P:=by simpa using G
    subst this;rw[z];refine⟨Y,λvs hv=>?_⟩;have x1:=vq vs (by lia);have x2:=a7 (vp vs hv) (aS M (ev vs F));rw[zca];have:ev vs Q-ev vs F^i*ev vs F=(ev vs Q-ev vs q[i]*ev vs F)+(ev vs q[i]*ev vs F-ev vs F^i*ev vs F):=by lia
    rw[this];exact zaR x1 x2
 ·rintro ρ ⟨q,o,rfl,z,B⟩
  rw[a8]at z;exact⟨_,by simp[-zad,-zae,aA,aD] <;> rfl,q,rfl,z,B⟩
structure Fac(M:Int)(d:List Int)(w:List Int->Int)(l:List (List Key×D))(done:List My.Tm):Prop where
 at_:∀a:List Int,∃F,(b7 l (a.map zam)).getD (.tup [])=fD F/\Fo M d F/\∀vs:List Int,vs.length=d.length->M∣ev vs F-grp a (w vs) done
theorem Fac.nil(M:Int)(d:List Int)(w:List Int->Int):Fac M d w [] []:=⟨λa=>⟨[],rfl,Fo.nil M d,λvs _=>⟨0,by simp_all[ev,grp]⟩⟩⟩
theorem II{a b:List Int}(h:(a.map zam:List Key)=b.map zam):a=b:=My.iT.mp h
theorem Fac.put(h:Fac M d w l done)(J:Fo M d H)(U:∀vs:List Int,vs.length=d.length->M∣ev vs H-(grp t.1.dropLast (w vs) done+t.2*w vs^(la t.1).toNat)):Fac M d w (putD l (t.1.dropLast.map zam) (fD H)) (done++[t]):=⟨λa=>by
 by_cases e:a=t.1.dropLast
 ·subst e
  refine⟨H,?_,J,λvs q=>?_⟩
  ·rw[yT,if_pos rfl];rfl
  ·rw[xZ,if_pos rfl];exact U vs q
 ·obtain⟨F,G,N,B⟩:=h.at_ a
  refine⟨F,?_,N,λvs q=>?_⟩
  ·rw[yT,if_neg (λz=>e (II z))];exact G
  ·rw[xZ,if_neg (λz=>e z.symm),Int.add_zero];exact B vs q⟩
theorem wX{M:Int}(h0:0<M)(h1:M<10^60){I:List My.Tm}(fi:Fo M [1,0] I){m:Nat}(hm:m<=2){w:List Int->Int}{l:List (List Key×D)}{q:List My.Tm}(h:Fac M [0,2] w l q):∃H,hU [.int M,fD I,.int (m:Int),.dT l]=some (fD H)/\Fo M [3,2] H/\∀vs:List Int,vs.length=2->M∣ev vs H-pw (λj=>grp [(j:Int)] (w vs) q) (ev vs I) (m+1):=by
 suffices h:∃r,hU [.int M,fD I,.int (m:Int),.dT l]=some r/\∃H,r=fD H/\Fo M [3,2] H/\∀vs:List Int,vs.length=2->M∣ev vs H-pw (λj=>grp [(j:Int)] (w vs) q) (ev vs I) (m+1) by
  obtain⟨r,e1,H,rfl,x⟩:=h;exact⟨H,e1,x⟩
 have hr:gL [.int (m:Int),.int (-1),.int (-1)]=some (aW (m:Int) (-1) (m+1)):=by
  rw[qH (by lia) (by lia) (by decide) (by decide)];have e:((m:Int)-(-1)).toNat=m+1:=by lia
  rw[e]
 refine dH ?_;unfold mY;rw[aG (aO (d:=fD []) (by ac_rfl))];refine eK (items:=aW (m:Int) (-1) (m+1)) (by ac_rfl) (λi ρ=>∃(T:List My.Tm) (o:Option D),ρ=[some (.int M),some (fD I),some (.int (m:Int)),some (.dT l),some (fD T),o]/\Fo M [(i:Int),2] T/\i<=m+1/\∀vs:List Int,vs.length=2->M∣(ev vs T*ev vs I^(m+1-i)+pw (λj=>grp [(j:Int)] (w vs) q) (ev vs I) (m+1-i))-pw (λj=>grp [(j:Int)] (w vs) q) (ev vs I) (m+1)) ⟨[],none,by ac_rfl,Fo.nil M _,by lia,λvs _=>?_⟩ ?_ ?_
 ·rw[l6,Int.zero_mul,Int.zero_add,Nat.sub_zero];exact aS _ _
 ·rintro i x ρ hx ⟨T,o,rfl,G,hi,J⟩
  obtain⟨ah,rfl⟩:=bD hx;obtain⟨r,hr⟩:∃r,m+1-i=r+1:=⟨m-i,by lia⟩;have hI:(m:Int)+(i:Int)*(-1)=(r:Int):=by lia
  rw[hI];obtain⟨F,eF,fF,vF⟩:=h.at_ [(r:Int)];have lk:=rJ l [(r:Int)];obtain⟨Q,eq,U,vq⟩:=vJ h0 h1 G fi rfl ⟨by lia,by decide⟩;have U:Fo M [((i+1:Nat):Int),2] Q:=U.mono ⟨⟨by lia,by lia⟩,by decide,by decide⟩;obtain⟨z,et,ae,ab⟩:=B0 h0 U (fF.mono ⟨⟨by lia,by lia⟩,by decide,by decide⟩) ⟨by lia,by decide⟩;refine⟨_,?_,z,some (.int (r:Int)),rfl,ae,by lia,λvs B=>?_⟩
  ·have aa:cH (.dT l) (.tup [.int (r:Int)])=some (b7 l [zam (r:Int)]):=lk
   have Y:(b7 l [zam (r:Int)]).getD (.tup [])=fD F:=eF;simp_all[turn,eq,aa,Y,et]
  ·have N:m+1-(i+1)=r:=by lia
   have v:=J vs B;rw[hr]at v;rw[N];have a1:=ab vs;have a2:=vq vs B;have a3:=vF vs B;have e1:pw (λj=>grp [(j:Int)] (w vs) q) (ev vs I) (r+1)=pw (λj=>grp [(j:Int)] (w vs) q) (ev vs I) r+ev vs I^r*grp [(r:Int)] (w vs) q:=rfl;rw[e1,zca]at v;have a4:M∣ev vs z-(ev vs T*ev vs I+grp [(r:Int)] (w vs) q):=by
    have:ev vs z-(ev vs T*ev vs I+grp [(r:Int)] (w vs) q)=(ev vs z-(ev vs Q+ev vs F))+(ev vs Q-ev vs T*ev vs I)+(ev vs F-grp [(r:Int)] (w vs) q):=by lia
    rw[this];exact zaR (zaR a1 a2) a3
   have a5:=a7 a4 (aS M (ev vs I^r));generalize pw (λj=>grp [(j:Int)] (w vs) q) (ev vs I) (m+1)=W at v ⊢;generalize pw (λj=>grp [(j:Int)] (w vs) q) (ev vs I) r=V at v ⊢;generalize grp [(r:Int)] (w vs) q=S at v a5;generalize ev vs I^r=p at v a5 ⊢;have:ev vs z*p+V-W=(ev vs z*p-(ev vs T*ev vs I+S)*p)+(ev vs T*(p*ev vs I)+(V+p*S)-W):=by grind
   rw[this];exact zaR a5 v
 ·rintro ρ ⟨T,o,rfl,G,hi,J⟩
  rw[a8]at G J;refine⟨_,by simp[-zad,-zae,aA,aD] <;> rfl,T,rfl,G.mono ⟨⟨by lia,by lia⟩,by decide,by decide⟩,λvs B=>?_⟩;have:=J vs B;rw[Nat.sub_self,zdE,zbP]at this;have e:pw (λj=>grp [(j:Int)] (w vs) q) (ev vs I) 0=0:=rfl;rw[e,Int.add_zero]at this;exact this
theorem xW{M n:Int}(h0:0<M)(h1:M<10^60)(hn:n=1\/n=2){last:Nat}{u dd:List Int}(hd:(dd.length:Int)=n)(hz:Bx dd (zN n))(lw:CG dd)(aw:u.length=dd.length){I:List My.Tm}{B:List (List My.Tm)}(hP:∀(i:Nat) (P:List My.Tm),B[i]?=some P->Fo M dd P/\∀vs:List Int,vs.length=u.length->M∣ev vs P-ev vs I^i){q:List My.Tm}(ho:∀t∈q,cutD (t.1.map D.int) none (some (last:Int))=t.1.dropLast.map D.int/\dW (t.1.map D.int) (last:Int)=some (D.int (la t.1))/\0<=la t.1/\la t.1<(B.length:Int))(af:q.length<=1000){G:D}{rest:Sv}{R:D->Prop}
  (k:∀(l:List (List Key×D)) (o7 o8 o9 z:Option D),Fac M dd (λvs=>ev vs I) l q->∃r,rest [some (.int M),some (.int n),some (fD q),some G,some (.int (last:Int)),some (.lst (B.map fD)),some (.dT l),o7,o8,o9,z]=some (.rt r)/\R r) :
  ∃r,bM (gC (nM (aB 2)) (bO 2 (aM (aH 7) (aM (aH 8) bU))) (bM (bS 9 (LN j8 (aB 7) sE (lK (aB 4))))
   (bM (bS 10 (aQ bE (aC (aB 0) (aC (aB 1) (aC (fP (aC (aB 8) (aC (eC (.int 0)) aT))) (aC (aY aI (aB 5) (aY aI (aB 7) (aB 4))) aT))))))
   (wU 6 (aB 9) (aQ mC (aC (aB 0) (aC (sC (aB 6) (aB 9) (fP aT)) (aC (aB 10) aT)))))))) rest [some (.int M),some (.int n),some (fD q),some G,some (.int (last:Int)),some (.lst (B.map fD)),some (.dT []),none,none,none,none]=some (.rt r)/\R r:=by
 refine eK (items:=q.map bQ) (by ac_rfl) (λi ρ=>∃(l:List (List Key×D)) (o7 o8 o9 z:Option D),ρ=[some (.int M),some (.int n),some (fD q),some G,some (.int (last:Int)),some (.lst (B.map fD)),some (.dT l),o7,o8,o9,z]/\Fac M dd (λvs=>ev vs I) l (q.take i)/\l.length<=i) ⟨[],none,none,none,none,rfl,by rw[List.take_zero];exact Fac.nil M dd _,zao _⟩ ?_ ?_
 ·rintro i x ρ hx ⟨l,o7,o8,o9,z,rfl,N,hl⟩
  rw[zar]at hx;obtain⟨t,ht,rfl⟩:=map_some hx;have hi:=(List.getElem?_eq_some_iff.mp ht).1;obtain⟨c1,c2,c3,c4⟩:=ho t (zaI ht);have ac:q.take (i+1)=q.take i++[t]:=by rw[zbm,ht];rfl
  obtain⟨e,he⟩:∃e:Nat,la t.1=(e:Int):=⟨(la t.1).toNat,by lia⟩;have U:e<B.length:=by lia
  obtain⟨fp,vp⟩:=hP e B[e] (zaL U);have ab:dW (B.map fD) (e:Int)=some (fD B[e]):=bG (by rw[zar,zaL U];rfl);obtain⟨H,eh,fh,vh⟩:=fE (a:=t.2) (b:=0) h0 h1 hn hd hz lw fp;obtain⟨F,eF,fF,vF⟩:=N.at_ t.1.dropLast;obtain⟨Q,eq,fq,vq⟩:=B0 h0 fF fh lw;have W:=rJ l t.1.dropLast;have pt:=NY (l:=l) t.1.dropLast (fD Q) (by lia);have pl:=IY l (t.1.dropLast.map zam:List Key) (fD Q);rw[he]at c2;refine⟨_,?_,putD l (t.1.dropLast.map zam) (fD Q),some (tupI t.1),some (.int t.2),some (tupI t.1.dropLast),some (fD H),rfl,?_,by lia⟩
  ·generalize putD l (t.1.dropLast.map zam:List Key) (fD Q)=l' at pt
   have Y:j8 (tupI t.1) none (some (last:Int))=some (tupI t.1.dropLast):=by unfold tupI;rw[q_slT,c1]
   have J:aI (tupI t.1) (.int (last:Int))=some (.int (e:Int)):=by unfold tupI;rw[q_itT];exact c2
   generalize tupI t.1.dropLast=ta at W pt Y;generalize b7 l (t.1.dropLast.map zam:List Key)=vv at W eF;have e8:bQ t=.tup [tupI t.1,.int t.2]:=rfl;rw[e8];generalize tupI t.1=tt at Y J;simp_all[turn,Y,J,ab,eh,W,eF,eq,pt]
  ·rw[ac]
   refine N.put fq λvs hv=>?_
   have x1:=vq vs;have x2:=vF vs hv;have x3:=vh vs hv;have x4:=a7 (aS M t.2) (vp vs (by lia));have e2:(la t.1).toNat=e:=by lia
   rw[e2];have:ev vs Q-(grp t.1.dropLast (ev vs I) (q.take i)+t.2*ev vs I^e)=(ev vs Q-(ev vs F+ev vs H))+(ev vs F-grp t.1.dropLast (ev vs I) (q.take i))+(ev vs H-(t.2*ev vs B[e]+0))+(t.2*ev vs B[e]-t.2*ev vs I^e):=by lia
   rw[this];exact zaR (zaR (zaR x1 x2) x3) x4
 ·rintro ρ ⟨l,o7,o8,o9,z,rfl,N,hl⟩
  rw[zal,zbC]at N;exact k l o7 o8 o9 z N
theorem UT{M:Int}(h0:0<M)(h1:M<10^60){q I:List My.Tm}(N:Fo M [2] q)(fi:Fo M [1] I):∃H,zJ [.int M,.int 1,fD q,.lst [fD I]]=some (fD H)/\Fo M [2] H/\∀vs:List Int,vs.length=1->M∣ev vs H-ev [ev vs I] q:=by
 suffices h:∃r,zJ [.int M,.int 1,fD q,.lst [fD I]]=some r/\∃H,r=fD H/\Fo M [2] H/\∀vs:List Int,vs.length=1->M∣ev vs H-ev [ev vs I] q by
  obtain⟨r,G,H,rfl,x⟩:=h;exact⟨H,G,x⟩
 have W:=N.k.len (show(2:Int)<=6 by decide);have one:∀t∈q,∃x,t.1=[x]/\0<=x/\x<=2:=λt B=>by
  rcases(N.k.bx t B).shape with⟨a,x,G,Y,h⟩|⟨a,b,x,y,G,Y,h⟩
  ·cases G;exact⟨x,Y,h⟩
  ·cases G
 obtain⟨m,em,m2,hm⟩:=jZ (p:=0) (F:=q) (by lia) λt B=>by
  obtain⟨x,e,a,b⟩:=one t B;rw[e];exact⟨by simp[-zad,-zae,aA,aD],a,b⟩
 obtain⟨Ps,ep,lp,hP⟩:=nE (n:=1) h0 h1 (.inl rfl) (u:=[1]) (.inl rfl) rfl fi m2;refine dH ?_;unfold K7;rw[aG (aO (d:=.int 0) (by ac_rfl))];have ae:eD [fD q,.int 0]=some (.int (m:Int)):=em;rw[aG (aO (d:=.lst (Ps.map fD)) (by ac_rfl))];rw[aG (aO (d:=.dT []) (by simp[-zad,-zae,aA,aD]))];refine xW (last:=0) (u:=[1]) (dd:=[2]) h0 h1 (.inl rfl) rfl ⟨by decide,by decide⟩ (show(2:Int)<=6 by decide) rfl (I:=I) (λi P hi=>?_) (λt B=>?_) (by lia) ?_
 ·have ab:=(List.getElem?_eq_some_iff.mp hi).1
  obtain⟨f,v⟩:=hP i P hi;exact⟨f.mono ⟨by show 0<=(i:Int)*1;lia,by show(i:Int)*1<=2;lia⟩,v⟩
 ·obtain⟨x,e,a,b⟩:=one t B
  have:=hm t B;rw[e]at this ⊢;have z:LK 0 [x]=x:=rfl;rw[z]at this;exact⟨rfl,rfl,a,by show x<_;lia⟩
 ·intro l o7 o8 o9 an fc
  obtain⟨F,eF,fF,vF⟩:=fc.at_ [];have lk:=rJ l [];have U:cH (.dT l) (.tup [])=some (b7 l []):=lk;have J:(b7 l []).getD (.tup [])=fD F:=eF;refine⟨fD F,by simp_all[U,J],F,rfl,fF,λvs hv=>?_⟩;have:=vF vs hv;rw[DP (d:=2) N.k.bx]at this;exact this
theorem UX{M:Int}(h0:0<M)(h1:M<10^60){q I J:List My.Tm}(fo:Fo M [2,2] q)(fi:Fo M [1,0] I)(fj:Fo M [0,1] J):∃H,zJ [.int M,.int 2,fD q,.lst [fD I,fD J]]=some (fD H)/\Fo M [3,2] H/\∀vs:List Int,vs.length=2->M∣ev vs H-ev [ev vs I,ev vs J] q:=by
 suffices h:∃r,zJ [.int M,.int 2,fD q,.lst [fD I,fD J]]=some r/\∃H,r=fD H/\Fo M [3,2] H/\∀vs:List Int,vs.length=2->M∣ev vs H-ev [ev vs I,ev vs J] q by
  obtain⟨r,N,H,rfl,x⟩:=h;exact⟨H,N,x⟩
 have af:=fo.k.len (show(2:Int)<=6/\(2:Int)<=6 by decide);have two:∀t∈q,∃x y,t.1=[x,y]/\(0<=x/\x<=2)/\0<=y/\y<=2:=λt B=>by
  rcases(fo.k.bx t B).shape with⟨a,x,N,e2,h⟩|⟨a,b,x,y,N,e2,h⟩
  ·cases N
  ·cases N;exact⟨x,y,e2,h⟩
 obtain⟨m,em,m2,hm⟩:=jZ (p:=1) (F:=q) (by lia) λt B=>by
  obtain⟨x,y,e,a,b⟩:=two t B;rw[e];exact⟨by simp[-zad,-zae,aA,aD],b.1,b.2⟩
 obtain⟨m0,Y,ab,ac⟩:=jZ (p:=0) (F:=q) (by lia) λt B=>by
  obtain⟨x,y,e,a,b⟩:=two t B;rw[e];exact⟨by simp[-zad,-zae,aA,aD],a.1,a.2⟩
 obtain⟨Ps,ep,lp,hP⟩:=nE (n:=2) h0 h1 (.inr rfl) (u:=[0,1]) (.inr rfl) rfl fj m2;refine dH ?_;unfold K7;rw[aG (aO (d:=.int 1) (by ac_rfl))];have am:eD [fD q,.int 1]=some (.int (m:Int)):=em;have G:eD [fD q,.int 0]=some (.int (m0:Int)):=Y;rw[aG (aO (d:=.lst (Ps.map fD)) (by ac_rfl))];rw[aG (aO (d:=.dT []) (by simp[-zad,-zae,aA,aD]))];refine xW (last:=1) (u:=[0,1]) (dd:=[0,2]) h0 h1 (.inr rfl) rfl ⟨⟨by decide,by decide⟩,by decide,by decide⟩ ⟨by decide,by decide⟩ rfl (I:=J) (λi P hi=>?_) (λt B=>?_) (by lia) ?_
 ·have al:=(List.getElem?_eq_some_iff.mp hi).1
  obtain⟨f,v⟩:=hP i P hi;exact⟨f.mono ⟨⟨by show 0<=(i:Int)*0;lia,by show(i:Int)*0<=0;lia⟩,by show 0<=(i:Int)*1;lia,by show(i:Int)*1<=2;lia⟩,v⟩
 ·obtain⟨x,y,e,a,b⟩:=two t B
  have:=hm t B;rw[e]at this ⊢;have z:LK 1 [x,y]=y:=rfl;rw[z]at this;exact⟨rfl,rfl,b.1,by show y<_;lia⟩
 ·intro l o7 o8 o9 U fc
  obtain⟨H,W,fH,vH⟩:=wX h0 h1 fi ab fc;refine⟨fD H,?_,H,rfl,fH,λvs hv=>?_⟩
  ·clear vH fH fc
   generalize fD H=rH at W ⊢;generalize (D.dT l)=dl at W ⊢;generalize fD q=do_ at G ⊢;generalize fD I=di at W ⊢;generalize fD J=dj at ⊢;generalize D.lst (Ps.map fD)=dp at ⊢;have e4:(eM (aY zZ (aB 4) (eC (.int 0)))) [some (.int M),some (.int 2),some do_,some (.lst [di,dj]),some (.int ((1:Nat):Int)),some dp,some dl,o7,o8,o9,U]=some false:=by simp[-zad,-zae,aA,aD]
   rw[aG ((Y4 e4).trans q_nx)];refine XN ?_;have e3:(aY aI (aB 3) (eC (.int 0))) [some (.int M),some (.int 2),some do_,some (.lst [di,dj]),some (.int ((1:Nat):Int)),some dp,some dl,o7,o8,o9,U]=some di:=by ac_rfl
   rw[q_call,q_lcons,q_lcons,e3,q_lcons,q_call,q_lcons,q_lcons];simp_all[G,W]
  have:=vH vs hv;rw[DE (d:=2) (e:=2) λt B=>⟨fo.k.bx t B,by
   obtain⟨x,y,e,a,b⟩:=two t B;refine⟨x,y,e,?_⟩;have:=ac t B;rw[e]at this;exact this⟩]at this
  exact this
theorem IsF.uniq(g:GR M many R):∀ {x:Int} {w w':List Int},IsF R k x w->IsF R k x w'->w=w'
 | x,[],[],_,_=>rfl
 | x,[],n::w,h,h'=>by
  obtain⟨r,B,F,h2,_⟩:=h';have a:=(g.jk r (d6 B)).2.1;have b:=Rch.le g h2.rch;have h:x=k:=h
  lia
 | x,n::w,[],h',h=>by
  obtain⟨r,B,F,h2,_⟩:=h';have a:=(g.jk r (d6 B)).2.1;have b:=Rch.le g h2.rch;have h:x=k:=h
  lia
 | x,n::w,m::v,⟨r,B,F,h2,h3⟩,⟨q,hq,hi,g2,g3⟩=>by
  have nm:n=m:=by
   rcases Int.lt_trichotomy n m with z|z|z
   ·exact absurd h2.rch (g3 n r z B F)
   ·exact z
   ·exact absurd g2.rch (h3 m q z hq hi)
  subst nm;rw[B]at hq;cases hq;rw[IsF.uniq g h2 g2]
theorem oH:eN (rs.map (red M)) i=(eN rs i).map (red M):=by
 unfold eN;by_cases h:0<=i
 ·rw[if_pos h,if_pos h,zar]
 ·rw[if_neg h,if_neg h];rfl
theorem HG(h:w.length<=900):cI (tupI w) (.tup [.int x])=some (tupI (w++[x])):=by
 have q:aZ (w.length+1)=true:=decide_eq_true (by lia);simp_all[tupI,q]
theorem X9:aI (bB r) (.int 0)=some (.int r.j):=by unfold bB;rw[q_itT];exact at0
theorem U2:aI (bB r) (.int 1)=some (.int r.k):=by unfold bB;rw[q_itT];exact at1
theorem YY:aI (bB r) (.int 2)=some (.int r.a):=by unfold bB;rw[q_itT];exact at2
theorem ZQ:aI (bB r) (.int 3)=some (.int r.b):=by unfold bB;rw[q_itT];exact YV
theorem AO{M:Int}{n:Nat}{rs:List Ro}(g:GR M (n:Int) (rs.map (red M))){j k:Int}(j0:0<=j)(k0:0<=k/\k<(n:Int))(h:Rch (rs.map (red M)) j k)(ne:j≠k){o5:Option D}:∃(r:Nat) (q:Ro),bM (bS 5 (eC (.int 0))) (sA (VP (eM (aY wW (aY aI (aY aI (aB 0) (aB 5)) (eC (.int 0))) (aB 2))) (B8 (eM (aY aI (aY aI (aB 1) (aY aI (aY aI (aB 0) (aB 5)) (eC (.int 1)))) (aB 3))))) (bS 5 (aY cI (aB 5) (eC (.int 1))))) [some (.lst (rs.map bB)),some (bF n (RT (rs.map (red M)))),some (.int j),some (.int k),some d4,o5]=some (.nx [some (.lst (rs.map bB)),some (bF n (RT (rs.map (red M)))),some (.int j),some (.int k),some d4,some (.int (r:Int))])/\eN rs (r:Int)=some q/\q.j=j/\Rch (rs.map (red M)) q.k k/\∀m B,m<(r:Int)->eN (rs.map (red M)) m=some B->B.j=j->¬ Rch (rs.map (red M)) B.k k:=by
 rcases h.inv with z|⟨i,r0,hi,hj,hr⟩
 ·exact absurd z ne
 rw[aG (aO (d:=.int 0) (by simp[-zad,-zae,aA,aD]))];rw[oH]at hi;obtain⟨q0,U,rfl⟩:=map_some hi;have il:=l8 U;obtain⟨ρ',e,r,q,rfl,h1,h2,h3,h4⟩:=u7 (c:=(VP (eM (aY wW (aY aI (aY aI (aB 0) (aB 5)) (eC (.int 0))) (aB 2))) (B8 (eM (aY aI (aY aI (aB 1) (aY aI (aY aI (aB 0) (aB 5)) (eC (.int 1)))) (aB 3)))))) (b:=(bS 5 (aY cI (aB 5) (eC (.int 1))))) (λm ρ=>∃r:Nat,ρ=[some (.lst (rs.map bB)),some (bF n (RT (rs.map (red M)))),some (.int j),some (.int k),some d4,some (.int (r:Int))]/\(r:Int)<=i/\rs.length-r=m/\∀m B,m<(r:Int)->eN (rs.map (red M)) m=some B->B.j=j->¬ Rch (rs.map (red M)) B.k k) (λρ=>∃(r:Nat) (q:Ro),ρ=[some (.lst (rs.map bB)),some (bF n (RT (rs.map (red M)))),some (.int j),some (.int k),some d4,some (.int (r:Int))]/\eN rs (r:Int)=some q/\q.j=j/\Rch (rs.map (red M)) q.k k/\∀m B,m<(r:Int)->eN (rs.map (red M)) m=some B->B.j=j->¬ Rch (rs.map (red M)) B.k k) (by
  rintro m ρ ⟨r,rfl,ri,rl,W⟩;have N:r<rs.length:=by lia
  have G:eN rs (r:Int)=some rs[r]:=by unfold eN;rw[if_pos (by lia),zb6];exact zaL N
  have aa:rs[r]∈rs:=zc8 N;generalize rs[r]=q at G aa;have at_:=wJ G;have gq:=g.jk (red M q) (zeC aa);have gq:0<=q.j/\q.j<q.k/\q.k<(n:Int):=gq;have m1:=BM (K:=n) (P:=RT (rs.map (red M))) (k:=q.k) (by lia) gq.2.2;have m2:=v8 (K:=n) (p:=RT (rs.map (red M)) q.k) k0.1 k0.2;have go:(¬ (q.j=j/\Rch (rs.map (red M)) q.k k))->∃J ρ',J<m/\bS 5 (aY cI (aB 5) (eC (.int 1))) [some (.lst (rs.map bB)),some (bF n (RT (rs.map (red M)))),some (.int j),some (.int k),some d4,some (.int (r:Int))]=some (.nx ρ')/\∃r:Nat,ρ'=[some (.lst (rs.map bB)),some (bF n (RT (rs.map (red M)))),some (.int j),some (.int k),some d4,some (.int (r:Int))]/\(r:Int)<=i/\rs.length-r=J/\∀m B,m<(r:Int)->eN (rs.map (red M)) m=some B->B.j=j->¬ Rch (rs.map (red M)) B.k k:=λno=>by
   have ne:(r:Int)≠i:=λz=>by
    rw[z,U]at G;cases G;exact no ⟨hj,hr⟩
   refine⟨rs.length-(r+1),_,by lia,by simp[-zad,-zae,aA,aD] <;> rfl,r+1,rfl,by lia,rfl,λJ B ai F Y=>?_⟩;by_cases z:J<(r:Int)
   ·exact W J B z F Y
   ·have:J=(r:Int):=by lia
    subst this;rw[oH,G]at F;cases F;exact λz=>no ⟨Y,z⟩
  by_cases c1:q.j=j
  ·by_cases c2:Rch (rs.map (red M)) q.k k
   ·refine .inr ⟨?_,r,q,rfl,G,c1,c2,W⟩
    rw[iE.mpr c2]at m2;simp_all[at_,X9,U2,c1,m1,m2]
   ·have rf:RT (rs.map (red M)) q.k k=false:=by rw[zcN];exact λz=>c2 (iE.mp z)
    rw[rf]at m2;exact .inl ⟨by simp_all[at_,X9,U2,c1,m1,m2],go λz=>c2 z.2⟩
  ·exact .inl ⟨by ac_rfl,go λz=>c1 z.1⟩) 100000 rs.length [some (.lst (rs.map bB)),some (bF n (RT (rs.map (red M)))),some (.int j),some (.int k),some d4,some (.int ((0:Nat):Int))] (by
   have:=g.len;rw[zal]at this;lia) ⟨0,rfl,by lia,by lia,λm B hm F=>by
   unfold eN at F;rw[if_neg (by lia)]at F;cases F⟩
 exact⟨r,q,e,h1,h2,h3,h4⟩
theorem w9{M:Int}{n:Nat}{rs:List Ro}(g:GR M (n:Int) (rs.map (red M)))(hn:n<=6){j k:Int}(j0:0<=j)(k0:0<=k/\k<(n:Int))(h:Rch (rs.map (red M)) j k):∃w,dQ [.lst (rs.map bB),bF n (RT (rs.map (red M))),.int j,.int k]=some (tupI w)/\IsF (rs.map (red M)) k j w:=by
 suffices h:∃d,dQ [.lst (rs.map bB),bF n (RT (rs.map (red M))),.int j,.int k]=some d/\∃w,d=tupI w/\IsF (rs.map (red M)) k j w by
  obtain⟨d,e,w,rfl,h⟩:=h;exact⟨w,e,h⟩
 refine dH ?_;unfold mK;rw[aG (aO (d:=tupI []) (by ac_rfl))];have jk:=Rch.le g h;refine EL (λm ρ=>∃(z:Int) (w:List Int) (o:Option D),ρ=[some (.lst (rs.map bB)),some (bF n (RT (rs.map (red M)))),some (.int z),some (.int k),some (tupI w),o]/\0<=z/\Rch (rs.map (red M)) z k/\(k-z).toNat=m/\(w.length:Int)<=z/\∀v,IsF (rs.map (red M)) k z v->IsF (rs.map (red M)) k j (w++v)) (λρ=>∃(w:List Int) (o:Option D),ρ=[some (.lst (rs.map bB)),some (bF n (RT (rs.map (red M)))),some (.int k),some (.int k),some (tupI w),o]/\IsF (rs.map (red M)) k j w) (k-j).toNat (by lia) ⟨j,[],none,by ac_rfl,j0,h,rfl,by simp[-zad,-zae,aA,aD];lia,λv B=>B⟩ ?_ ?_
 ·rintro m ρ ⟨z,w,o,rfl,F,N,hm,hw,B⟩
  by_cases ne:z=k
  ·subst ne
   refine .inr ⟨by simp[-zad,-zae,aA,aD],w,o,rfl,?_⟩;have:=B [] rfl
   rwa [zcr]at this
  ·obtain⟨r,q,e,h1,h2,U,Y⟩:=AO g (d4:=tupI w) (o5:=o) F k0 N ne
   have at_:=wJ h1;have J:=g.jk (red M q) (zeC (d6 h1));have J:0<=q.j/\q.j<q.k/\q.k<(n:Int):=J;have qk:=Rch.le g U;have ab:=Rch.le g N;have W:=HG (w:=w) (x:=(r:Int)) (by lia);have es:∀ {g h k:Sv} {ρ:dB},bM g (bM h k) ρ=bM (bM g h) k ρ:=by
    intro g h k ρ;unfold bM;cases g ρ with
    | none=>rfl
    | some o=>cases o <;> rfl
   refine .inl ⟨by simp_all[ne],(k-q.k).toNat,[some (.lst (rs.map bB)),some (bF n (RT (rs.map (red M)))),some (.int q.k),some (.int k),some (tupI (w++[(r:Int)])),some (.int (r:Int))],by lia,?_,q.k,w++[(r:Int)],_,rfl,by lia,U,rfl,by simp[-zad,-zae,aA,aD];lia,λv G=>?_⟩
   ·rw[es,aG e]
    simp_all[W,at_,U2]
   ·rw[List.append_assoc]
    exact B _ ⟨red M q,by rw[oH,h1];rfl,h2,G,Y⟩
 ·rintro ρ ⟨w,o,rfl,hw⟩
  exact⟨_,by simp[-zad,-zae,aA,aD] <;> rfl,w,rfl,hw⟩
theorem IsF.at_:∀ {x:Int} {w:List Int},IsF R k x w->∀n∈w,∃r,eN R n=some r
 | _,[],_,_,h=>nomatch h
 | _,m::w,⟨r,hr,_,h2,_⟩,n,hn=>by
  rcases List.mem_cons.mp hn with z|z
  ·exact⟨r,z ▸ hr⟩
  ·exact IsF.at_ h2 n z
theorem IsF.len(g:GR M many R):∀ {x:Int} {w:List Int},IsF R k x w->(w.length:Int)<=k-x
 | x,[],h=>by have h:x=k:=h;simp[-zad,-zae,aA,aD];lia
 | x,m::w,⟨r,hr,hj,h2,_⟩=>by
  have a:=IsF.len g h2;have b:=(g.jk r (d6 hr)).2.1;simp[-zad,-zae,aA,aD];lia
theorem eU{M:Int}{rs:List Ro}(h0:0<M)(B:M<10^60)(Y:∀r∈rs,Bd 61 r.a/\Bd 61 r.b){w:List Int}(hw:∀n∈w,∃r,eN (rs.map (red M)) n=some r){x:Int}(hx:0<=x/\x<M):cE [.int M,.lst (rs.map bB),tupI w,.int x]=some (.int (cZ (rs.map (red M)) M x w)):=by
 refine aN ?_;unfold m7;refine cF (items:=w.map .int) (by ac_rfl) (λi ρ=>∃o,ρ=[some (.int M),some (.lst (rs.map bB)),some (tupI w),some (.int (cZ (rs.map (red M)) M x (w.take i))),o]) ⟨none,by ac_rfl⟩ ?_ ?_
 ·rintro i y ρ N ⟨o,rfl⟩
  rw[zar]at N;obtain⟨n,J,rfl⟩:=map_some N;obtain⟨r,G⟩:=hw n (zaI J);have z:=G;rw[oH]at z;obtain⟨q,U,rfl⟩:=map_some z;have bq:=Y q (d6 U);have F:=dG (rs:=rs.map (red M)) h0 (w.take i) x hx;have es:cZ (rs.map (red M)) M x (w.take (i+1))=((red M q).a*cZ (rs.map (red M)) M x (w.take i)+(red M q).b)%M:=by
   rw[zbm,J];unfold cZ;rw[ze3];simp_all[G]
  have at_:=wJ U;generalize cZ (rs.map (red M)) M x (w.take i)=y at F es;have W:=bq.1.mulH (Bd.of B ⟨F.1,zbX F.2⟩) (by decide) (by decide);have em:(q.a*y+q.b)%M=cZ (rs.map (red M)) M x (w.take (i+1)):=by
   rw[es];show _=(q.a%M*y+q.b%M)%M;refine dF ?_;have d1:M∣q.a-q.a%M:=ze8;have d2:M∣q.b-q.b%M:=ze8;have:q.a*y+q.b-(q.a%M*y+q.b%M)=(q.a*y-q.a%M*y)+(q.b-q.b%M):=by lia
   rw[this];exact zaR (a7 d1 (aS M y)) d2
  refine⟨_,?_,some (.int n),rfl⟩;rw[<- em];simp_all[turn,at_,YY,ZQ,W,bI h0]
 ·rintro ρ ⟨o,rfl⟩
  simp[-zad,-zae,aA,aD]
theorem X5:aI (d7 M c n rs ms) (.int 0)=some (.int M):=by unfold d7;rw[q_itT];exact at0
theorem JK(h0:0<M)(q:M<10^60)(z:0<=a/\a<M)(B:0<=x/\x<M):yU [.int M,.tup [.int a,.int b],.int x]=some (.int ((a*x+b)%M)):=by
 have F:=(Bd.of q ⟨z.1,zbX z.2⟩).mulH (Bd.of q ⟨B.1,zbX B.2⟩) (by decide) (by decide);refine aN ?_;simp_all[zD,aL,at0,at1,F,CA h0]
theorem UE(h0:0<M)(q:M<10^60)(B:0<=a/\a<M)(F:0<=b/\b<M)(z:0<=c/\c<M):JQ [.int M,.tup [.int a,.int b],.tup [.int c,.int d]]=some (.tup [.int (a*c%M),.int ((c*b+d)%M)]):=by
 have G:=(Bd.of q ⟨B.1,zbX B.2⟩).mulH (Bd.of q ⟨z.1,zbX z.2⟩) (by decide) (by decide);refine aN ?_;simp_all[KD,aL,at0,at1,G,CA h0,JK h0 q z F]
theorem uB(Y:aI bk (.int 0)=some (.int M))(U:aI bk (.int 2)=some (.tup (R.map bB)))(h3:3<=M)(z:M<10^60)(g:GR M many R)(hw:∀n∈w,∃r,eN R n=some r):iK [bk,tupI w]=some (AA (gP R M (1,0) w)):=by
 have h0:0<M:=by lia
 refine aN ?_;unfold uD;rw[aG (aO (d:=AA (1,0)) (by ac_rfl))];refine cF (items:=w.map .int) (by ac_rfl) (λi ρ=>∃B,ρ=[some bk,some (tupI w),some (AA (gP R M (1,0) (w.take i))),B]) ⟨none,by ac_rfl⟩ ?_ ?_
 ·rintro i x ρ J ⟨B,rfl⟩
  rw[zar]at J;obtain⟨n,G,rfl⟩:=map_some J;obtain⟨r,q⟩:=hw n (zaI G);have W:=g.ab r (d6 q);have F:=wI (rs:=R) h0 (w.take i) (1,0) 0 0 ⟨by decide,by show(1:Int)<M;lia⟩ ⟨by decide,by show(0:Int)<M;lia⟩ (by simp[-zad,-zae,aA,aD]);have es:gP R M (1,0) (w.take (i+1))=((gP R M (1,0) (w.take i)).1*r.a%M,(r.a*(gP R M (1,0) (w.take i)).2+r.b)%M):=by
   rw[zbm,G];unfold gP;rw[ze3];simp_all[q]
  refine⟨[some bk,some (tupI w),some (AA (gP R M (1,0) (w.take (i+1)))),some (.int n)],?_,_,rfl⟩;rw[es];generalize gP R M (1,0) (w.take i)=t at F;have N:=UE (M:=M) (a:=t.1) (b:=t.2) (c:=r.a) (d:=r.b) h0 z F.1 F.2.1 W.1;simp_all[turn,Y,U,wJ q,V0,AA,N]
 ·rintro ρ' ⟨B,rfl⟩
  simp[-zad,-zae,aA,aD]
open Classical in
def fwd(R:List Ro)(j k:Int):List Int:=if h:∃w,IsF R k j w then h.choose else []
theorem J9(g:GR M many R)(h:IsF R k j w):fwd R j k=w:=by
 have ex:∃w,IsF R k j w:=⟨w,h⟩;unfold fwd;rw[dif_pos ex];exact IsF.uniq g ex.choose_spec h
theorem CN{M:Int}{n:Nat}{R:List Ro}{bk:D}(B:aI bk (.int 2)=some (.tup (R.map bB)))(g:GR M (n:Int) R)(J:n<=6){j k:Int}(q:0<=j/\j<(n:Int))(G:0<=k/\k<(n:Int)):(Rch R j k->cM [bk,.int j,.int k]=some (tupI (fwd R j k))/\IsF R k j (fwd R j k))/\(¬ Rch R j k->cM [bk,.int j,.int k]=some .non):=by
 obtain⟨d,e,h⟩:=nH B g (j:=j) (k:=k) ⟨q.1,by lia⟩ ⟨G.1,by lia⟩;rcases h with⟨rfl,F⟩|⟨w,rfl,hw⟩
 ·exact⟨λz=>absurd z F,λ_=>e⟩
 ·have:=J9 g hw
  exact⟨λ_=>by rw[this];exact⟨e,hw⟩,λz=>absurd hw.rch z⟩
theorem nY{M:Int}{n:Nat}{rs:List Ro}(g:GR M (n:Int) (rs.map (red M)))(z:n<=6){j k:Int}(q:0<=j)(k0:0<=k/\k<(n:Int))(h:Rch (rs.map (red M)) j k):dQ [.lst (rs.map bB),bF n (RT (rs.map (red M))),.int j,.int k]=some (tupI (fwd (rs.map (red M)) j k))/\IsF (rs.map (red M)) k j (fwd (rs.map (red M)) j k):=by
 obtain⟨w,e,hw⟩:=w9 g z q k0 h;rw[J9 g hw];exact⟨e,hw⟩
theorem P9(q:3<=M)(w:List Int)(v:Int):(0<=(gP R M (1,0) w).1/\(gP R M (1,0) w).1<M)/\(0<=(gP R M (1,0) w).2/\(gP R M (1,0) w).2<M)/\M∣((gP R M (1,0) w).1*v+(gP R M (1,0) w).2)-cZ R M v w:=by
 obtain⟨a,b,c⟩:=wI (rs:=R) (M:=M) (by lia) w (1,0) v v ⟨by decide,by show(1:Int)<M;lia⟩ ⟨by decide,by show(0:Int)<M;lia⟩ (by simp[-zad,-zae,aA,aD]);exact⟨a,b,XO c.symm⟩
noncomputable def un(n p:Nat):List Int:=if n=1 then [1]else if p=0 then [1,0]else [0,1]
theorem iP{M:Int}(h0:0<M){n p:Nat}(h:(n=1/\p=0)\/(n=2/\(p=0\/p=1))):fX [.int M,.int (n:Int),.int (p:Int)]=some (fD (fm M [(un n p,1)]))/\Fo M (un n p) (fm M [(un n p,1)])/\∀vs:List Int,vs.length=n->M∣ev vs (fm M [(un n p,1)])-vs.getD p 0:=by
 have U:n=1\/n=2:=by lia
 have F:Bd 61 1:=⟨by decide +kernel,by decide +kernel⟩;have W:=V_form (M:=M) (n:=n) (ts:=[(un n p,1)]) h0 U (by simp[-zad,-zae,aA,aD]) (λt z=>by
  rw[List.mem_singleton.mp z];rcases h with⟨rfl,rfl⟩|⟨rfl,rfl|rfl⟩
  ·exact⟨rfl,by ac_rfl,F⟩
  ·exact⟨rfl,by ac_rfl,F⟩
  ·exact⟨rfl,by ac_rfl,F⟩)
 obtain⟨f,v⟩:=K2 (M:=M) h0 (d:=un n p) (ts:=[(un n p,1)]) (λt z=>by
  rw[List.mem_singleton.mp z];rcases h with⟨rfl,rfl⟩|⟨rfl,rfl|rfl⟩
  ·exact⟨by decide,by decide⟩
  ·exact⟨⟨by decide,by decide⟩,by decide,by decide⟩
  ·exact⟨⟨by decide,by decide⟩,by decide,by decide⟩)
 refine⟨aN ?_,f,λvs B=>?_⟩
 ·have q:rM [.int M,.int (n:Int),.lst ([(un n p,1)].map bQ)]=some (fD (fm M [(un n p,1)])):=W
  generalize fD (fm M [(un n p,1)])=r at q ⊢;have N:aZ 1=true:=by decide
  have J:aZ 2=true:=by decide
  have Y:cG [.int 1]=some [.int 0]:=rfl;have G:cG [.int 2]=some [.int 0,.int 1]:=rfl;rcases h with⟨rfl,rfl⟩|⟨rfl,rfl|rfl⟩
  ·simp[-zad,-zae,aA,aD,un,bQ,tupI]at q
   simp_all[iN,aL,Y,N,sL,bW,q]
  ·simp[-zad,-zae,aA,aD,un,bQ,tupI]at q
   simp_all[iN,aL,G,J,sL,bW,q]
  ·simp[-zad,-zae,aA,aD,un,bQ,tupI]at q
   simp_all[iN,aL,G,J,sL,bW,q]
 ·have:=v vs
  have e:ev vs [(un n p,1)]=vs.getD p 0:=by
   rw[bH,l6];rcases h with⟨rfl,rfl⟩|⟨rfl,rfl|rfl⟩
   ·obtain⟨x,rfl⟩:=List.length_eq_one_iff.mp B
    simp_all[un,mon,zca]
   ·obtain⟨x,y,rfl⟩:=lN B
    simp_all[un,mon,zca]
   ·obtain⟨x,y,rfl⟩:=lN B
    simp_all[un,mon,zca]
  rw[e]at this;exact this
theorem RV(h:(n=1/\p=0)\/(n=2/\(p=0\/p=1))):((un n p).length:Int)=(n:Int)/\Bx (un n p) (zN (n:Int))/\CG (un n p):=by
 rcases h with⟨rfl,rfl⟩|⟨rfl,rfl|rfl⟩
 ·exact⟨rfl,⟨by decide,by decide⟩,show(1:Int)<=6 by decide⟩
 ·exact⟨rfl,⟨⟨by decide,by decide⟩,by decide,by decide⟩,⟨by decide,by decide⟩⟩
 ·exact⟨rfl,⟨⟨by decide,by decide⟩,by decide,by decide⟩,⟨by decide,by decide⟩⟩
theorem gF{M:Int}{z:Nat}{R:List Ro}{bk:D}(F:aI bk (.int 0)=some (.int M))(N:aI bk (.int 2)=some (.tup (R.map bB)))(U:3<=M)(q:M<10^60)(g:GR M (z:Int) R)(J:z<=6){n p:Nat}(h:(n=1/\p=0)\/(n=2/\(p=0\/p=1))){j k:Int}(W:0<=j/\j<(z:Int))(hk:0<=k/\k<(z:Int))(hr:Rch R j k):cM [bk,.int j,.int k]=some (tupI (fwd R j k))/\iK [bk,tupI (fwd R j k)]=some (AA (gP R M (1,0) (fwd R j k)))/\∃H,bE [.int M,.int (n:Int),AA (gP R M (1,0) (fwd R j k)),fD (fm M [(un n p,1)])]=some (fD H)/\Fo M (un n p) H/\∀vs:List Int,vs.length=n->M∣ev vs H-cZ R M (vs.getD p 0) (fwd R j k):=by
 have h0:0<M:=by lia
 obtain⟨e1,f1⟩:=(CN N g J W hk).1 hr;have e2:=uB F N U q g (IsF.at_ f1);obtain⟨e3,f3,v3⟩:=iP (M:=M) h0 h;obtain⟨b1,b2,b3⟩:=RV h;have hn:(n:Int)=1\/(n:Int)=2:=by lia
 obtain⟨H,eh,Y,vh⟩:=fE (a:=(gP R M (1,0) (fwd R j k)).1) (b:=(gP R M (1,0) (fwd R j k)).2) h0 q hn b1 b2 b3 f3;refine⟨e1,e2,H,eh,Y,λvs hv=>?_⟩;obtain⟨_,_,d⟩:=P9 (R:=R) U (fwd R j k) (vs.getD p 0);have B:=vh vs (by lia);have G:=a7 (aS M (gP R M (1,0) (fwd R j k)).1) (v3 vs hv);generalize gP R M (1,0) (fwd R j k)=t at B G d;generalize ev vs (fm M [(un n p,1)])=y at B G;have:ev vs H-cZ R M (vs.getD p 0) (fwd R j k)=(ev vs H-(t.1*y+t.2))+(t.1*y-t.1*vs.getD p 0)+(t.1*vs.getD p 0+t.2-cZ R M (vs.getD p 0) (fwd R j k)):=by lia
 rw[this];exact zaR (zaR B G) d
def alo(R:List Ro)(M:Int)(F:Int->Int->List Int):List Int->List Int->List Int->List Int
 | k::ks,t::ts,v::vs=>cZ R M v (F k t)::alo R M F ks ts vs
 | _,_,_=>[]
def sv(R:List Ro)(M:Int)(m:Mk)(ks vs:List Int):Int:=ev (alo R M (fwd R) ks m.tk vs) m.ts%M
theorem fits_of(h:dM R ks tk=true):ks.length=tk.length/\∀p∈fO ks tk,Rch R p.1 p.2:=by
 unfold dM at h;rw[zaK,zcO]at h;exact⟨of_decide_eq_true h.1,λp q=>iE.mp (h.2 p q)⟩
theorem OkT.bx1(h:OkT 1 t):Bx [2] t.1:=by
 obtain⟨x,e⟩:=List.length_eq_one_iff.mp h.1;have:=h.2.1 x (by rw[e];simp[-zad,-zae,aA,aD]);rw[e];exact this
theorem OkT.bx2(h:OkT 2 t):Bx [2,2] t.1:=by
 obtain⟨x,y,e⟩:=lN h.1;have a:=h.2.1 x (by rw[e];simp[-zad,-zae,aA,aD]);have b:=h.2.1 y (by rw[e];simp[-zad,-zae,aA,aD]);rw[e];exact⟨a,b⟩
structure Bok(M:Int)(n:Nat)(rs:List Ro)(ms:List Mk):Prop where
 h3:3<=M
 h60:M<10^60
 hn:1<=n/\n<=6
 g:GR M (n:Int) (rs.map (red M))
 rb:∀r∈rs,Bd 61 r.a/\Bd 61 r.b
 ml:ms.length<=5
 mo:∀m∈ms,OkM (n:Int) 7 m
theorem ZG:aI (fR M m) (.int 3)=some (fD (fm M m.ts)):=by unfold fR;rw[q_itT];exact YV
theorem ZU:aI (fR M m) (.int 0)=some (.str m.nm):=by unfold fR;rw[q_itT];exact at0
theorem X0:aI (fR M m) (.int 2)=some (.int m.gv):=by unfold fR;rw[q_itT];exact at2
theorem xI{M c:Int}{n:Nat}{rs:List Ro}{ms:List Mk}(B:Bok M n rs ms){i:Int}{m:Mk}(hm:m∈ms)(hi:dW (ms.map (fR M)) i=some (fR M m)){ks:List Int}(hk:∀k∈ks,0<=k/\k<(n:Int))(hf:dM (rs.map (red M)) ks m.tk=true):∃(H:List My.Tm) (dd:List Int),eY [d7 M c n rs ms,.int i,tupI ks]=some (fD H)/\Fo M dd H/\CG dd/\Bx dd (zN (ks.length:Int))/\dd.length=ks.length/\∀vs:List Int,vs.length=ks.length->ev vs H%M=sv (rs.map (red M)) M m ks vs:=by
 have h0:0<M:=by have:=B.h3;lia
 have ok:=B.mo m hm;obtain⟨hl,hr⟩:=fits_of hf;have h3:aI (d7 M c n rs ms) (.int 3)=some (.tup (ms.map (fR M))):=O8;have hB:aI (d7 M c n rs ms) (.int 2)=some (.tup ((rs.map (red M)).map bB)):=U3;have U:aI (d7 M c n rs ms) (.int 0)=some (.int M):=X5;have g:=B.g;generalize d7 M c n rs ms=bk at h3 hB U ⊢;generalize rs.map (red M)=R at g hB hr ⊢;have b3:=ZG (M:=M) (m:=m);have b1:=XZ (M:=M) (m:=m);generalize fR M m=bm at hi b3 b1;rcases ok.tk with⟨t,F⟩|⟨t,u,F⟩
 ·obtain⟨k,rfl⟩:=List.length_eq_one_iff.mp (show ks.length=1 by rw[hl,F];rfl)
  have tb:=ok.tb t (by rw[F];simp[-zad,-zae,aA,aD]);have kb:=hk k (by simp[-zad,-zae,aA,aD]);have rc:=hr (k,t) (by rw[F];exact zau ..);obtain⟨e1,e2,I,e3,f3,v3⟩:=gF (n:=1) (p:=0) U hB B.h3 B.h60 g B.hn.2 (.inl ⟨rfl,rfl⟩) kb tb rc;obtain⟨e4,_,_⟩:=iP (M:=M) h0 (n:=1) (p:=0) (.inl ⟨rfl,rfl⟩);obtain⟨fo,vo⟩:=K2 (M:=M) h0 (d:=[2]) (ts:=m.ts) λq hq=>by
   have:=ok.tt q hq;rw[F]at this;exact this.bx1
  obtain⟨H,N,f5,v5⟩:=UT h0 B.h60 fo f3;refine⟨H,[2],aN ?_,f5,show(2:Int)<=6 by decide,⟨by decide,by decide⟩,rfl,λvs hv=>?_⟩
  ·rw[F]at b1
   have Y:fX [.int M,.int 1,.int 0]=some (fD (fm M [(un 1 0,1)])):=e4;have G:bE [.int M,.int 1,AA (gP R M (1,0) (fwd R k t)),fD (fm M [(un 1 0,1)])]=some (fD I):=e3;generalize AA (gP R M (1,0) (fwd R k t))=tt at e2 G;generalize tupI (fwd R k t)=ff at e1 e2;generalize fD (fm M [(un 1 0,1)])=uu at G Y;generalize fD (fm M m.ts)=oo at b3 N;generalize fD I=ii at G N;generalize fD H=hh at N ⊢;have el:dA [tupI [k]]=some (.int 1):=rfl;have en:(cP (tupI [k])).map (eL 0)=some [.tup [.int 0,.int k]]:=rfl;unfold hJ;exact cN (by ac_rfl) (dS (cN (by ac_rfl) (dS (cN (by ac_rfl) (dS (cN (by ac_rfl) (dS (K0 (k9 (by ac_rfl) N)))))))))
  ·obtain⟨x,rfl⟩:=List.length_eq_one_iff.mp hv
   have x1:=v5 [x] rfl;have x2:=vO (M:=M) (vs:=[ev [x] I]) (us:=[cZ R M x (fwd R k t)]) rfl (λp hp=>by
    rw[List.mem_singleton.mp hp];exact v3 [x] rfl) (fm M m.ts)
   have x3:=vo [cZ R M x (fwd R k t)];unfold sv;rw[F];refine dF ?_;show M∣ev [x] H-ev [cZ R M x (fwd R k t)] m.ts;have:ev [x] H-ev [cZ R M x (fwd R k t)] m.ts=(ev [x] H-ev [ev [x] I] (fm M m.ts))+(ev [ev [x] I] (fm M m.ts)-ev [cZ R M x (fwd R k t)] (fm M m.ts))+(ev [cZ R M x (fwd R k t)] (fm M m.ts)-ev [cZ R M x (fwd R k t)] m.ts):=by lia
   rw[this];exact zaR (zaR x1 x2) x3
 ·obtain⟨k,l,rfl⟩:=lN (show ks.length=2 by rw[hl,F];rfl)
  have tb:=ok.tb t (by rw[F];simp[-zad,-zae,aA,aD]);have ub:=ok.tb u (by rw[F];simp[-zad,-zae,aA,aD]);have kb:=hk k (by simp[-zad,-zae,aA,aD]);have lb:=hk l (by simp[-zad,-zae,aA,aD]);have rc:=hr (k,t) (by rw[F];exact zau ..);have rd:=hr (l,u) (by rw[F];exact zav _ (zau ..));obtain⟨e1,e2,I,e3,f3,v3⟩:=gF (n:=2) (p:=0) U hB B.h3 B.h60 g B.hn.2 (.inr ⟨rfl,.inl rfl⟩) kb tb rc;obtain⟨d1,d2,J,d3,j3,w3⟩:=gF (n:=2) (p:=1) U hB B.h3 B.h60 g B.hn.2 (.inr ⟨rfl,.inr rfl⟩) lb ub rd;obtain⟨e4,_,_⟩:=iP (M:=M) h0 (n:=2) (p:=0) (.inr ⟨rfl,.inl rfl⟩);obtain⟨d4,_,_⟩:=iP (M:=M) h0 (n:=2) (p:=1) (.inr ⟨rfl,.inr rfl⟩);obtain⟨fo,vo⟩:=K2 (M:=M) h0 (d:=[2,2]) (ts:=m.ts) λq hq=>by
   have:=ok.tt q hq;rw[F]at this;exact this.bx2
  obtain⟨H,N,f5,v5⟩:=UX h0 B.h60 fo f3 j3;refine⟨H,[3,2],aN ?_,f5,⟨by decide,by decide⟩,⟨⟨by decide,by decide⟩,by decide,by decide⟩,rfl,λvs hv=>?_⟩
  ·rw[F]at b1
   have Y:fX [.int M,.int 2,.int 0]=some (fD (fm M [(un 2 0,1)])):=e4;have G:bE [.int M,.int 2,AA (gP R M (1,0) (fwd R k t)),fD (fm M [(un 2 0,1)])]=some (fD I):=e3;have as:fX [.int M,.int 2,.int 1]=some (fD (fm M [(un 2 1,1)])):=d4;have W:bE [.int M,.int 2,AA (gP R M (1,0) (fwd R l u)),fD (fm M [(un 2 1,1)])]=some (fD J):=d3;generalize AA (gP R M (1,0) (fwd R k t))=tt at e2 G;generalize tupI (fwd R k t)=ff at e1 e2;generalize AA (gP R M (1,0) (fwd R l u))=t2 at d2 W;generalize tupI (fwd R l u)=f2 at d1 d2;generalize fD (fm M [(un 2 0,1)])=uu at G Y;generalize fD (fm M [(un 2 1,1)])=u2 at W as;generalize fD (fm M m.ts)=oo at b3 N;generalize fD I=ii at G N;generalize fD J=jj at W N;generalize fD H=hh at N ⊢;have el:dA [tupI [k,l]]=some (.int 2):=rfl;have en:(cP (tupI [k,l])).map (eL 0)=some [.tup [.int 0,.int k],.tup [.int 1,.int l]]:=rfl;unfold hJ;exact cN (by ac_rfl) (dS (cN (by ac_rfl) (dS (cN (by ac_rfl) (dS (cN (by ac_rfl) (dS (K0 (k9 (by ac_rfl) N)))))))))
  ·obtain⟨x,y,rfl⟩:=lN hv
   have x1:=v5 [x,y] rfl;have x2:=vO (M:=M) (vs:=[ev [x,y] I,ev [x,y] J]) (us:=[cZ R M x (fwd R k t),cZ R M y (fwd R l u)]) rfl (λp hp=>by
    rcases List.mem_cons.mp hp with z|z
    ·rw[z];exact v3 [x,y] rfl
    ·rw[List.mem_singleton.mp z];exact w3 [x,y] rfl) (fm M m.ts)
   have x3:=vo [cZ R M x (fwd R k t),cZ R M y (fwd R l u)];unfold sv;rw[F];refine dF ?_;show M∣ev [x,y] H-ev [cZ R M x (fwd R k t),cZ R M y (fwd R l u)] m.ts;have:ev [x,y] H-ev [cZ R M x (fwd R k t),cZ R M y (fwd R l u)] m.ts=(ev [x,y] H-ev [ev [x,y] I,ev [x,y] J] (fm M m.ts))+(ev [ev [x,y] I,ev [x,y] J] (fm M m.ts)-ev [cZ R M x (fwd R k t),cZ R M y (fwd R l u)] (fm M m.ts))+(ev [cZ R M x (fwd R k t),cZ R M y (fwd R l u)] (fm M m.ts)-ev [cZ R M x (fwd R k t),cZ R M y (fwd R l u)] m.ts):=by lia
   rw[this];exact zaR (zaR x1 x2) x3
theorem rF(h0:0<M)(B:M<10^60)(J:0<=x/\x<M)(U:0<=e/\e<=100)(W:Bd 61 c):∃(q:Int) (z:Option D),Bd 61 q/\M∣q-c*x^e.toNat/\turn (bO 2 (aM (aH 6) (aM (aH 7) bU))) (gC (lR cG (aC (aB 6) aT)) (aH 8) (bS 5 (aY dY (aY cC (aB 5) (aB 7)) (aB 0)))) (.tup [.int e,.int x]) [some (.int M),some d1,some d2,some d3,some d4,some (.int c),o6,o7,o8]=some (.nx [some (.int M),some d1,some d2,some d3,some d4,some (.int q),some (.int e),some (.int x),z]):=by
 obtain⟨ρ',er,q,z,rfl,G,F⟩:=dX (g:=aH 8) (b:=(bS 5 (aY dY (aY cC (aB 5) (aB 7)) (aB 0)))) (items:=aW 0 1 e.toNat) (ρ:=[some (.int M),some d1,some d2,some d3,some d4,some (.int c),some (.int e),some (.int x),o8]) (λi ρ=>∃(q:Int) (z:Option D),ρ=[some (.int M),some d1,some d2,some d3,some d4,some (.int q),some (.int e),some (.int x),z]/\Bd 61 q/\M∣q-c*x^i) ⟨c,o8,rfl,W,by rw[zdE,zbP];exact aS M c⟩ (by
  rintro i y ρ hy ⟨q,z,rfl,G,F⟩;have N:=G.mulH (Bd.of B ⟨J.1,zbX J.2⟩) (by decide) (by decide);refine⟨_,by simp_all[turn,N,bI h0] <;> rfl,q*x%M,some y,rfl,Bd.mod h0 B,?_⟩;have d1:M∣q*x%M-q*x:=iR;have d2:=a7 F (aS M x);rw[zca,<- zew];have:q*x%M-c*x^i*x=(q*x%M-q*x)+(q*x-c*x^i*x):=by lia
  rw[this];exact zaR d1 d2)
 rw[a8]at F;refine⟨q,z,G,F,?_⟩;have Y:=eE U.1 (show e<=1000000 by lia);simp_all[turn,Y];exact er
theorem oT(h0:0<M)(B:M<10^60)(hl:vs.length=nn)(hn:nn=1\/nn=2)(ht:∀t∈ts,OkT nn t)(hv:∀v∈vs,0<=v/\v<M):pL [.int M,.lst (ts.map bQ),.lst (vs.map .int)]=some (.int (ev vs ts%M)):=by
 refine aN ?_;unfold pY;rw[aG (aO (d:=.int 0) (by simp[-zad,-zae,aA,aD]))];refine cF (items:=ts.map bQ) (by ac_rfl) (λi ρ=>∃(o4 o5 o6 o7 o8:Option D),ρ=[some (.int M),some (.lst (ts.map bQ)),some (.lst (vs.map .int)),some (.int (ev vs (ts.take i)%M)),o4,o5,o6,o7,o8]) ⟨none,none,none,none,none,by ac_rfl⟩ ?_ ?_
 ·rintro i y ρ hy ⟨o4,o5,o6,o7,o8,rfl⟩
  rw[zar]at hy;obtain⟨t,F,rfl⟩:=map_some hy;obtain⟨t1,J,t3⟩:=ht t (zaI F);have et:ts.take (i+1)=ts.take i++[t]:=by rw[zbm,F];rfl
  generalize hout:ev vs (ts.take i)=out;have inner:∃(q:Int) (U W z:Option D),M∣q-t.2*mon t.1 vs/\bV (bO 2 (aM (aH 6) (aM (aH 7) bU))) (gC (lR cG (aC (aB 6) aT)) (aH 8) (bS 5 (aY dY (aY cC (aB 5) (aB 7)) (aB 0)))) (gA (t.1.map .int) (vs.map .int)) [some (.int M),some (.lst (ts.map bQ)),some (.lst (vs.map .int)),some (.int (out%M)),some (tupI t.1),some (.int t.2),o6,o7,o8]=some (.nx [some (.int M),some (.lst (ts.map bQ)),some (.lst (vs.map .int)),some (.int (out%M)),some (tupI t.1),some (.int q),U,W,z]):=by
   obtain⟨k,c⟩:=t;rcases hn with rfl|rfl
   ·obtain⟨v,rfl⟩:=List.length_eq_one_iff.mp hl
    obtain⟨e,rfl⟩:=List.length_eq_one_iff.mp t1;have e2:=J e (by simp[-zad,-zae,aA,aD]);obtain⟨q,z,b1,d1,er⟩:=rF (d1:=.lst (ts.map bQ)) (d2:=.lst ([v].map .int)) (d3:=.int (out%M)) (d4:=tupI [e]) (o6:=o6) (o7:=o7) (o8:=o8) h0 B (hv v (by simp[-zad,-zae,aA,aD])) (show 0<=e/\e<=100 by lia) t3;refine⟨q,some (.int e),some (.int v),z,?_,?_⟩
    ·show M∣q-c*(v^e.toNat*1)
     rw[zbP];exact d1
    ·show bV _ _ [D.tup [.int e,.int v]] _=_
     unfold turn at er;unfold bV;obtain⟨ρ1,Y,N⟩:=bind_some er;rw[Y,aA,N,aA];rfl
   ·obtain⟨v,u,rfl⟩:=lN hl
    obtain⟨e,f,rfl⟩:=lN t1;have e2:=J e (by simp[-zad,-zae,aA,aD]);have f2:=J f (by simp[-zad,-zae,aA,aD]);obtain⟨q,z,b1,d1,er⟩:=rF (d1:=.lst (ts.map bQ)) (d2:=.lst ([v,u].map .int)) (d3:=.int (out%M)) (d4:=tupI [e,f]) (o6:=o6) (o7:=o7) (o8:=o8) h0 B (hv v (by simp[-zad,-zae,aA,aD])) (show 0<=e/\e<=100 by lia) t3;obtain⟨G,q8,b2,d2,es⟩:=rF (d1:=.lst (ts.map bQ)) (d2:=.lst ([v,u].map .int)) (d3:=.int (out%M)) (d4:=tupI [e,f]) (o6:=some (.int e)) (o7:=some (.int v)) (o8:=z) h0 B (hv u (by simp[-zad,-zae,aA,aD])) (show 0<=f/\f<=100 by lia) b1;refine⟨G,some (.int f),some (.int u),q8,?_,?_⟩
    ·show M∣G-c*(v^e.toNat*(u^f.toNat*1))
     rw[zbP,<- zew];have d3:=a7 d1 (aS M (u^f.toNat));have:G-c*v^e.toNat*u^f.toNat=(G-q*u^f.toNat)+(q*u^f.toNat-c*v^e.toNat*u^f.toNat):=by lia
     rw[this];exact zaR d2 d3
    ·show bV _ _ [D.tup [.int e,.int v],D.tup [.int f,.int u]] _=_
     unfold turn at er es;unfold bV;obtain⟨ρ1,Y,N⟩:=bind_some er;rw[Y,aA,N,aA];show bV _ _ [D.tup [.int f,.int u]] _=_;unfold bV;obtain⟨ρ2,y1,y2⟩:=bind_some es;rw[y1,aA,y2,aA];rfl
  obtain⟨q,U,W,z,dc,ef⟩:=inner;have em:(out%M+q)%M=ev vs (ts.take (i+1))%M:=by
   rw[et,lE,hout];refine dF ?_;have d0:M∣out%M-out:=iR;have:out%M+q-(out+t.2*mon t.1 vs)=(out%M-out)+(q-t.2*mon t.1 vs):=by lia
   rw[this];exact zaR d0 dc
  refine⟨[some (.int M),some (.lst (ts.map bQ)),some (.lst (vs.map .int)),some (.int (ev vs (ts.take (i+1))%M)),some (tupI t.1),some (.int q),U,W,z],?_,_,_,_,_,_,rfl⟩;rw[<- em];simp only[tupI]at ef;simp_all[turn,bQ,tupI,ef,bI h0]
 ·rintro ρ ⟨o4,o5,o6,o7,o8,rfl⟩
  simp[-zad,-zae,aA,aD]
theorem ZK:aI (bP m) (.int 3)=some (.lst (m.ts.map bQ)):=by unfold bP;rw[q_itT];exact YV
theorem X4:aI (bP m) (.int 0)=some (.str m.nm):=by unfold bP;rw[q_itT];exact at0
theorem X6:aI (bP m) (.int 2)=some (.int m.gv):=by unfold bP;rw[q_itT];exact at2
theorem A3{M:Int}{n:Nat}{rs:List Ro}{ms:List Mk}(B:Bok M n rs ms){m:Mk}(hm:m∈ms){ks:List Int}(hk:∀k∈ks,0<=k/\k<(n:Int))(hf:dM (rs.map (red M)) ks m.tk=true){vs:List Int}(hv:vs.length=ks.length)(U:∀v∈vs,0<=v/\v<M):gH [.int M,.lst (rs.map bB),bF n (RT (rs.map (red M))),bP m,tupI ks,tupI vs]=some (.int (sv (rs.map (red M)) M m ks vs)):=by
 have h0:0<M:=by have:=B.h3;lia
 have ok:=B.mo m hm;obtain⟨hl,hr⟩:=fits_of hf;have W:=YA (m:=m);have m3:=ZK (m:=m);unfold sv;rcases ok.tk with⟨t,F⟩|⟨t,u,F⟩
 ·obtain⟨k,rfl⟩:=List.length_eq_one_iff.mp (show ks.length=1 by rw[hl,F];rfl)
  obtain⟨x,rfl⟩:=List.length_eq_one_iff.mp (show vs.length=1 from hv);have tb:=ok.tb t (by rw[F];simp[-zad,-zae,aA,aD]);have kb:=hk k (by simp[-zad,-zae,aA,aD]);have rc:=hr (k,t) (by rw[F];exact zau ..);obtain⟨J,f1⟩:=nY B.g B.hn.2 kb.1 tb rc;have Y:=U x (by simp[-zad,-zae,aA,aD]);have N:=eU h0 B.h60 B.rb (IsF.at_ f1) Y;have gr:=dG (rs:=rs.map (red M)) h0 (fwd (rs.map (red M)) k t) x Y;have G:=oT (nn:=1) h0 B.h60 (ts:=m.ts) (vs:=[cZ (rs.map (red M)) M x (fwd (rs.map (red M)) k t)]) rfl (.inl rfl) (λq hq=>by have:=ok.tt q hq;rw[F]at this;exact this) (λv h=>by rw[List.mem_singleton.mp h];exact gr);rw[F]at W ⊢;show _=some (D.int (ev [cZ (rs.map (red M)) M x (fwd (rs.map (red M)) k t)] m.ts%M));have z0:aZ 0=true:=by decide
  refine aN ?_;generalize ev [cZ (rs.map (red M)) M x (fwd (rs.map (red M)) k t)] m.ts%M=y at G ⊢;generalize cZ (rs.map (red M)) M x (fwd (rs.map (red M)) k t)=gg at N G;generalize tupI (fwd (rs.map (red M)) k t)=ff at J N;generalize bP m=md at W m3 ⊢;generalize bF n (RT (rs.map (red M)))=mt at J ⊢;simp[-zad,-zae,aA,aD]at G;simp_all[jN,aL,tupI,W,m3,fA,bV,J,N,z0,G]
 ·obtain⟨k,l,rfl⟩:=lN (show ks.length=2 by rw[hl,F];rfl)
  obtain⟨x,y,rfl⟩:=lN (show vs.length=2 from hv);have tb:=ok.tb t (by rw[F];simp[-zad,-zae,aA,aD]);have ub:=ok.tb u (by rw[F];simp[-zad,-zae,aA,aD]);have kb:=hk k (by simp[-zad,-zae,aA,aD]);have lb:=hk l (by simp[-zad,-zae,aA,aD]);have rc:=hr (k,t) (by rw[F];exact zau ..);have rd:=hr (l,u) (by rw[F];exact zav _ (zau ..));obtain⟨J,f1⟩:=nY B.g B.hn.2 kb.1 tb rc;obtain⟨d1,f2⟩:=nY B.g B.hn.2 lb.1 ub rd;have Y:=U x (by simp[-zad,-zae,aA,aD]);have yb:=U y (by simp[-zad,-zae,aA,aD]);have N:=eU h0 B.h60 B.rb (IsF.at_ f1) Y;have d2:=eU h0 B.h60 B.rb (IsF.at_ f2) yb;have gr:=dG (rs:=rs.map (red M)) h0 (fwd (rs.map (red M)) k t) x Y;have gs:=dG (rs:=rs.map (red M)) h0 (fwd (rs.map (red M)) l u) y yb;have G:=oT (nn:=2) h0 B.h60 (ts:=m.ts) (vs:=[cZ (rs.map (red M)) M x (fwd (rs.map (red M)) k t),cZ (rs.map (red M)) M y (fwd (rs.map (red M)) l u)]) rfl (.inr rfl) (λq hq=>by have:=ok.tt q hq;rw[F]at this;exact this) (λv h=>by
   rcases List.mem_cons.mp h with z|z
   ·rw[z];exact gr
   ·rw[List.mem_singleton.mp z];exact gs)
  rw[F]at W ⊢;show _=some (D.int (ev [cZ (rs.map (red M)) M x (fwd (rs.map (red M)) k t),cZ (rs.map (red M)) M y (fwd (rs.map (red M)) l u)] m.ts%M));have z0:aZ 0=true:=by decide
  have z1:aZ 1=true:=by decide
  refine aN ?_;generalize ev [cZ (rs.map (red M)) M x (fwd (rs.map (red M)) k t),cZ (rs.map (red M)) M y (fwd (rs.map (red M)) l u)] m.ts%M=yy at G ⊢;generalize cZ (rs.map (red M)) M x (fwd (rs.map (red M)) k t)=gg at N G;generalize cZ (rs.map (red M)) M y (fwd (rs.map (red M)) l u)=g2 at d2 G;generalize tupI (fwd (rs.map (red M)) k t)=ff at J N;generalize tupI (fwd (rs.map (red M)) l u)=f2 at d1 d2;generalize bP m=md at W m3 ⊢;generalize bF n (RT (rs.map (red M)))=mt at J d1 ⊢;simp[-zad,-zae,aA,aD]at G;simp_all[jN,aL,tupI,W,m3,fA,bV,J,N,d1,d2,z0,z1,G]
theorem G8{nn:Nat}(q:nn=1\/nn=2){i:Nat}(hi:i<(dI (nn:Int)).length):∃pt,(dI (nn:Int))[i]?=some pt/\eV [.int (i:Int),.int (nn:Int)]=some (tupI pt):=by
 rcases q with rfl|rfl
 ·have B:i<3:=hi
  refine⟨[(i:Int)%3],?_,aN (by simp_all[g8,aL,bI,tupI])⟩;have:i=0\/i=1\/i=2:=by lia
  rcases this with rfl|rfl|rfl <;> rfl
 ·have z:i<9:=hi
  refine⟨[(i:Int)/3%3,(i:Int)%3],?_,aN (by simp_all[g8,aL,bI,f9,tupI])⟩;have:i=0\/i=1\/i=2\/i=3\/i=4\/i=5\/i=6\/i=7\/i=8:=by lia
  rcases this with rfl|rfl|rfl|rfl|rfl|rfl|rfl|rfl|rfl <;> rfl
theorem BK{M:Int}(z:3<=M){nn:Nat}(B:nn=1\/nn=2){p:List Int}(h:p∈dI (nn:Int)):p.length=nn/\∀v∈p,0<=v/\v<M:=by
 obtain⟨a,b⟩:=T9 (n:=(nn:Int)) (by lia) h;exact⟨by lia,λv q=>by have:=b v q;lia⟩
def c9(R:List Ro)(M:Int)(ks:List Int)(m:Mk):D:=.lst ((dI (ks.length:Int)).map λp=>.int (sv R M m ks p))
def near(R:List Ro)(ms:List Mk)(x:Str)(ks:List Int):List (Mk×Nat):=ms.zipIdx.filter λp=>decide (p.1.nm=x) && dM R ks p.1.tk
theorem qP(h:p∈near R ms x ks):ms[p.2]?=some p.1/\p.1∈ms/\p.1.nm=x/\dM R ks p.1.tk=true:=by
 obtain⟨a,b⟩:=List.mem_filter.mp h;rw[zaK]at b;have:=List.mem_zipIdx' a;have e:ms[p.2]?=some p.1:=by rw[this.2];exact zaL _
 exact⟨e,zaI e,of_decide_eq_true b.1,b.2⟩
theorem u6{M:Int}{n:Nat}{rs:List Ro}{ms:List Mk}(B:Bok M n rs ms){ks:List Int}(hk:∀k∈ks,0<=k/\k<(n:Int))(F:ks.length=1\/ks.length=2){L:List (Mk×Nat)}(hL:∀p∈L,ms[p.2]?=some p.1/\p.1∈ms/\dM (rs.map (red M)) ks p.1.tk=true)(ag:L.length<=100):kG [.int M,.lst (rs.map bB),bF n (RT (rs.map (red M))),.lst (ms.map bP),.lst (L.map λp=>.int (p.2:Int)),tupI ks]=some (.lst (L.map λp=>c9 (rs.map (red M)) M ks p.1)):=by
 refine aN ?_;unfold kN;rw[aG (aO (d:=.lst []) (by simp[-zad,-zae,aA,aD]))];have pl:(dI (ks.length:Int)).length<=9:=by rcases F with h|h <;> rw[h] <;> decide
 have rg:(lR cG (aC (aY aI (tE (aC (eC (.int 3)) (aC (eC (.int 9)) aT))) (aY zU (aQ dA (aC (aB 5) aT)) (eC (.int 1)))) aT))=(lR cG (aC (aY aI (tE (aC (eC (.int 3)) (aC (eC (.int 9)) aT))) (aY zU (aQ dA (aC (aB 5) aT)) (eC (.int 1)))) aT)):=rfl;have r0:∀ {a b c d e f g h i:Option D},(lR cG (aC (aY aI (tE (aC (eC (.int 3)) (aC (eC (.int 9)) aT))) (aY zU (aQ dA (aC (aB 5) aT)) (eC (.int 1)))) aT)) [a,b,c,d,e,some (tupI ks),f,g,h,i]=some (aW 0 1 (dI (ks.length:Int)).length):=by
  intro a b c d e f g h i;rcases F with z|z
  ·obtain⟨k,rfl⟩:=List.length_eq_one_iff.mp z
   rfl
  ·obtain⟨k,l,rfl⟩:=lN z
   rfl
 refine cF (items:=L.map λp=>.int (p.2:Int)) (by ac_rfl) (λi ρ=>∃(o7 o8 o9:Option D),ρ=[some (.int M),some (.lst (rs.map bB)),some (bF n (RT (rs.map (red M)))),some (.lst (ms.map bP)),some (.lst (L.map λp=>.int (p.2:Int))),some (tupI ks),some (.lst ((L.take i).map λp=>c9 (rs.map (red M)) M ks p.1)),o7,o8,o9]) ⟨none,none,none,by ac_rfl⟩ ?_ ?_
 ·rintro i y ρ hy ⟨o7,o8,o9,rfl⟩
  rw[zar]at hy;obtain⟨p,hp,rfl⟩:=map_some hy;have il:=(List.getElem?_eq_some_iff.mp hp).1;obtain⟨p1,p2,p3⟩:=hL p (zaI hp);have U:dW (ms.map bP) (p.2:Int)=some (bP p.1):=bG (by rw[zar,p1];rfl);have Y:L.take (i+1)=L.take i++[p]:=by rw[zbm,hp];rfl
  generalize hT:(L.take i).map (λp=>c9 (rs.map (red M)) M ks p.1)=T;have tl:T.length<=100:=by rw[<- hT,zal,zbT];lia
  obtain⟨ρ',er,G,rfl⟩:=dX (g:=aH 9) (b:=(B5 8 (aQ gH (aC (aB 0) (aC (aB 1) (aC (aB 2) (aC (aY aI (aB 3) (aB 7)) (aC (aB 5) (aC (aQ eV (aC (aB 9) (aC (aQ dA (aC (aB 5) aT)) aT))) aT))))))))) (items:=aW 0 1 (dI (ks.length:Int)).length) (ρ:=[some (.int M),some (.lst (rs.map bB)),some (bF n (RT (rs.map (red M)))),some (.lst (ms.map bP)),some (.lst (L.map λp=>.int (p.2:Int))),some (tupI ks),some (.lst T),some (.int (p.2:Int)),some (.lst []),o9]) (λj ρ=>∃(o9:Option D),ρ=[some (.int M),some (.lst (rs.map bB)),some (bF n (RT (rs.map (red M)))),some (.lst (ms.map bP)),some (.lst (L.map λp=>.int (p.2:Int))),some (tupI ks),some (.lst T),some (.int (p.2:Int)),some (.lst (((dI (ks.length:Int)).take j).map λq=>.int (sv (rs.map (red M)) M p.1 ks q))),o9]) ⟨o9,by simp[-zad,-zae,aA,aD]⟩ (by
   rintro j z ρ hz ⟨o9,rfl⟩;obtain⟨jl,rfl⟩:=bD hz;have hI:(0:Int)+(j:Int)*1=(j:Int):=by lia
   rw[hI];obtain⟨pt,N,J⟩:=G8 F jl;obtain⟨q1,q2⟩:=BK B.h3 F (zaI N);have es:=A3 B p2 hk p3 (vs:=pt) q1 q2;have Y:(dI (ks.length:Int)).take (j+1)=(dI (ks.length:Int)).take j++[pt]:=by rw[zbm,N];rfl
   have hsz:aZ ((dI (ks.length:Int)).take j).length=true:=decide_eq_true (by rw[zbT];lia);have lk:dA [tupI ks]=some (.int (ks.length:Int)):=by unfold tupI;rw[q_lenT,zal]
   refine⟨_,?_,some (.int (j:Int)),rfl⟩;rw[Y];generalize (dI (ks.length:Int)).take j=pj at hsz;generalize bP p.1=md at U es;generalize tupI ks=tk at es lk;generalize bF n (RT (rs.map (red M)))=mt at es;generalize tupI pt=tp at J es;simp_all[turn,U,J,es,lk,hsz])
  rw[a8,zbC]at er;refine⟨[some (.int M),some (.lst (rs.map bB)),some (bF n (RT (rs.map (red M)))),some (.lst (ms.map bP)),some (.lst (L.map λp=>.int (p.2:Int))),some (tupI ks),some (.lst (T++[c9 (rs.map (red M)) M ks p.1])),some (.int (p.2:Int)),some (c9 (rs.map (red M)) M ks p.1),G],?_,some (.int (p.2:Int)),some (c9 (rs.map (red M)) M ks p.1),G,by rw[Y,za4,hT];rfl⟩;show(aH 7 _ _).bind _=_;rw[q_name,aA,aG (aO (d:=.lst []) (by simp[-zad,-zae,aA,aD]))];have W:gC (lR cG (aC (aY aI (tE (aC (eC (.int 3)) (aC (eC (.int 9)) aT))) (aY zU (aQ dA (aC (aB 5) aT)) (eC (.int 1)))) aT)) (aH 9) (B5 8 (aQ gH (aC (aB 0) (aC (aB 1) (aC (aB 2) (aC (aY aI (aB 3) (aB 7)) (aC (aB 5) (aC (aQ eV (aC (aB 9) (aC (aQ dA (aC (aB 5) aT)) aT))) aT)))))))) [some (.int M),some (.lst (rs.map bB)),some (bF n (RT (rs.map (red M)))),some (.lst (ms.map bP)),some (.lst (L.map λp=>.int (p.2:Int))),some (tupI ks),some (.lst T),some (.int (p.2:Int)),some (.lst []),o9]=some (.nx [some (.int M),some (.lst (rs.map bB)),some (bF n (RT (rs.map (red M)))),some (.lst (ms.map bP)),some (.lst (L.map λp=>.int (p.2:Int))),some (tupI ks),some (.lst T),some (.int (p.2:Int)),some (c9 (rs.map (red M)) M ks p.1),G]):=by
   rw[q_for,r0,aA];exact er
  have hsz:aZ T.length=true:=decide_eq_true (by lia);rw[aG (by exact W)];simp_all[hsz]
 ·rintro ρ ⟨o7,o8,o9,rfl⟩
  rw[zal,zbC];simp[-zad,-zae,aA,aD]
open Classical in
def AB(R:List Ro)(M:Int)(ks:List Int)(a b:Mk):Bool:=RT R a.gv b.gv && (dI (ks.length:Int)).all λp=>decide (cZ R M (sv R M a ks p) (fwd R a.gv b.gv)=sv R M b ks p)
theorem XI(h0:0<M):0<=sv R M m ks vs/\sv R M m ks vs<M:=⟨zax _ (zaX h0),zay _ h0⟩
theorem qT{q:Type}(f g:q->D):∀l:List q,gA (l.map f) (l.map g)=l.map λp=>.tup [f p,g p]
 | []=>rfl
 | x::l=>by
  show D.tup [f x,g x]::gA (l.map f) (l.map g)=_;rw[qT f g l];rfl
theorem wF(h:turn g b x ρ=some (.rt d)):bV g b (x::xs) ρ=some (.rt d):=by
 unfold turn at h;obtain⟨ρ1,q,z⟩:=bind_some h;rw[bV,q,aA,z,aA]
theorem iD(h:turn g b x ρ=some (.nx ρ')):bV g b (x::xs) ρ=bV g b xs ρ':=by
 unfold turn at h;obtain⟨ρ1,q,z⟩:=bind_some h;rw[bV,q,aA,z,aA]
theorem turn_of(h:g x ρ=some ρ1)(k:b ρ1=o):turn g b x ρ=o:=by
 unfold turn;rw[h,aA,k]
theorem lB(hi:aB i ρ=some x)(q:aB j ρ=some y)(B:cP x=some xs)(z:cP y=some ys):gC (wR (aC (aB i) (aC (aB j) aT))) g b ρ=bV g b (gA xs ys) ρ:=by
 rw[q_for,q_zip,q_lcons,hi,aA,q_lcons,q,aA,q_lnil,aA,aA,aA];show((cP x).bind _).bind _=_;rw[B,aA,z,aD,aA]
theorem uZ{M:Int}{n:Nat}{rs:List Ro}{ms:List Mk}(B:Bok M n rs ms){ks:List Int}{a b:Mk}(ha:a∈ms)(hb:b∈ms):bZ [.int M,.lst (rs.map bB),bF n (RT (rs.map (red M))),.tup [bP a,bP b],c9 (rs.map (red M)) M ks a,c9 (rs.map (red M)) M ks b]=some (.bl (AB (rs.map (red M)) M ks a b)):=by
 have h0:0<M:=by have:=B.h3;lia
 have U:=(B.mo a ha).gv;have Y:=(B.mo b hb).gv;have m1:=BM (K:=n) (P:=RT (rs.map (red M))) (k:=a.gv) U.1 U.2;have J:=v8 (K:=n) (p:=RT (rs.map (red M)) a.gv) Y.1 Y.2;have a2:=X6 (m:=a);have b2:=X6 (m:=b);by_cases hr:Rch (rs.map (red M)) a.gv b.gv
 ·obtain⟨e1,f1⟩:=nY B.g B.hn.2 U.1 Y hr
  have rt:RT (rs.map (red M)) a.gv b.gv=true:=iE.mpr hr;rw[rt]at J;have al:∀x:Int,(0<=x/\x<M)->cE [.int M,.lst (rs.map bB),tupI (fwd (rs.map (red M)) a.gv b.gv),.int x]=some (.int (cZ (rs.map (red M)) M x (fwd (rs.map (red M)) a.gv b.gv))):=λx hx=>eU h0 B.h60 B.rb (IsF.at_ f1) hx
  have F:∀(ps:List (List Int)) (o7 o8:Option D),(ps.all (λp=>decide (cZ (rs.map (red M)) M (sv (rs.map (red M)) M a ks p) (fwd (rs.map (red M)) a.gv b.gv)=sv (rs.map (red M)) M b ks p))=true->∃G N,bV (bO 2 (aM (aH 7) (aM (aH 8) bU))) (jI (eM (aY wW (aQ cE (aC (aB 0) (aC (aB 1) (aC (aB 6) (aC (aB 7) aT))))) (aB 8))) (sM (eC (.bl false))) mH) (ps.map λp=>D.tup [.int (sv (rs.map (red M)) M a ks p),.int (sv (rs.map (red M)) M b ks p)]) [some (.int M),some (.lst (rs.map bB)),some (bF n (RT (rs.map (red M)))),some (.tup [bP a,bP b]),some (c9 (rs.map (red M)) M ks a),some (c9 (rs.map (red M)) M ks b),some (tupI (fwd (rs.map (red M)) a.gv b.gv)),o7,o8]=some (.nx [some (.int M),some (.lst (rs.map bB)),some (bF n (RT (rs.map (red M)))),some (.tup [bP a,bP b]),some (c9 (rs.map (red M)) M ks a),some (c9 (rs.map (red M)) M ks b),some (tupI (fwd (rs.map (red M)) a.gv b.gv)),G,N]))/\(ps.all (λp=>decide (cZ (rs.map (red M)) M (sv (rs.map (red M)) M a ks p) (fwd (rs.map (red M)) a.gv b.gv)=sv (rs.map (red M)) M b ks p))=false->bV (bO 2 (aM (aH 7) (aM (aH 8) bU))) (jI (eM (aY wW (aQ cE (aC (aB 0) (aC (aB 1) (aC (aB 6) (aC (aB 7) aT))))) (aB 8))) (sM (eC (.bl false))) mH) (ps.map λp=>D.tup [.int (sv (rs.map (red M)) M a ks p),.int (sv (rs.map (red M)) M b ks p)]) [some (.int M),some (.lst (rs.map bB)),some (bF n (RT (rs.map (red M)))),some (.tup [bP a,bP b]),some (c9 (rs.map (red M)) M ks a),some (c9 (rs.map (red M)) M ks b),some (tupI (fwd (rs.map (red M)) a.gv b.gv)),o7,o8]=some (.rt (.bl false))):=by
   generalize tupI (fwd (rs.map (red M)) a.gv b.gv)=ff at al;generalize bP a=da;generalize bP b=db;generalize c9 (rs.map (red M)) M ks a=ra;generalize c9 (rs.map (red M)) M ks b=rb;generalize bF n (RT (rs.map (red M)))=mt;intro ps;induction ps with
   | nil=>exact λo7 o8=>⟨λ_=>⟨o7,o8,rfl⟩,λz=>by simp[-zad,-zae,aA,aD]at z⟩
   | cons p ps ih=>
    intro o7 o8;have W:=al _ (XI (R:=rs.map (red M)) (m:=a) (ks:=ks) (vs:=p) h0);by_cases c:cZ (rs.map (red M)) M (sv (rs.map (red M)) M a ks p) (fwd (rs.map (red M)) a.gv b.gv)=sv (rs.map (red M)) M b ks p
    ·obtain⟨i1,i2⟩:=ih (some (.int (sv (rs.map (red M)) M a ks p))) (some (.int (sv (rs.map (red M)) M b ks p)))
     rw[zbK,decide_eq_true c,zde];rw[c]at W;have st:∀q,bV (bO 2 (aM (aH 7) (aM (aH 8) bU))) (jI (eM (aY wW (aQ cE (aC (aB 0) (aC (aB 1) (aC (aB 6) (aC (aB 7) aT))))) (aB 8))) (sM (eC (.bl false))) mH) (ps.map λp=>D.tup [.int (sv (rs.map (red M)) M a ks p),.int (sv (rs.map (red M)) M b ks p)]) [some (.int M),some (.lst (rs.map bB)),some mt,some (.tup [da,db]),some ra,some rb,some ff,some (.int (sv (rs.map (red M)) M a ks p)),some (.int (sv (rs.map (red M)) M b ks p))]=q->bV (bO 2 (aM (aH 7) (aM (aH 8) bU))) (jI (eM (aY wW (aQ cE (aC (aB 0) (aC (aB 1) (aC (aB 6) (aC (aB 7) aT))))) (aB 8))) (sM (eC (.bl false))) mH) ((p::ps).map λp=>D.tup [.int (sv (rs.map (red M)) M a ks p),.int (sv (rs.map (red M)) M b ks p)]) [some (.int M),some (.lst (rs.map bB)),some mt,some (.tup [da,db]),some ra,some rb,some ff,o7,o8]=q:=λq h=>by
      rw[zak];unfold bV;simp_all[W,h]
     exact⟨λz=>by obtain⟨G,N,e⟩:=i1 z;exact⟨G,N,st _ e⟩,λz=>st _ (i2 z)⟩
    ·rw[zbK,decide_eq_false c,zcB]
     refine⟨(λz=>nomatch z),λ_=>?_⟩;rw[zak];unfold bV;simp_all[W,c]
  unfold AB;rw[rt,zde];obtain⟨l1,l2⟩:=F (dI (ks.length:Int)) none none;have zl:=qT (λp=>D.int (sv (rs.map (red M)) M a ks p)) (λp=>D.int (sv (rs.map (red M)) M b ks p)) (dI (ks.length:Int));have sa:cP (c9 (rs.map (red M)) M ks a)=some ((dI (ks.length:Int)).map λp=>D.int (sv (rs.map (red M)) M a ks p)):=rfl;have sb:cP (c9 (rs.map (red M)) M ks b)=some ((dI (ks.length:Int)).map λp=>D.int (sv (rs.map (red M)) M b ks p)):=rfl;refine aN ?_;unfold gG;rw[aG (ρ':=[some (.int M),some (.lst (rs.map bB)),some (bF n (RT (rs.map (red M)))),some (.tup [bP a,bP b]),some (c9 (rs.map (red M)) M ks a),some (c9 (rs.map (red M)) M ks b),none,none,none]) (by ac_rfl)];rw[aG (aO (d:=tupI (fwd (rs.map (red M)) a.gv b.gv)) (by ac_rfl))];cases hc:(dI (ks.length:Int)).all (λp=>decide (cZ (rs.map (red M)) M (sv (rs.map (red M)) M a ks p) (fwd (rs.map (red M)) a.gv b.gv)=sv (rs.map (red M)) M b ks p))with
  | true=>
   obtain⟨G,N,e⟩:=l1 hc;rw[<- zl]at e;refine(aG ((lB rfl rfl sa sb).trans e)).trans ?_;simp[-zad,-zae,aA,aD]
  | false=>
   have e:=l2 hc;rw[<- zl]at e;exact mB ((lB rfl rfl sa sb).trans e)
 ·have rf:RT (rs.map (red M)) a.gv b.gv=false:=by rw[zcN];exact λz=>hr (iE.mp z)
  rw[rf]at J;unfold AB;rw[rf,zcB];refine aN ?_;generalize bF n (RT (rs.map (red M)))=mt at m1 ⊢;generalize cV n (RT (rs.map (red M)) a.gv)=rw_ at m1 J;simp_all[gG,aL,at0,at1,a2,b2,m1,J]
def best(R:List Ro)(M:Int)(ks:List Int)(L:List (Mk×Nat)):Option (Mk×Nat):=L.find? λp=>L.all λq=>AB R M ks p.1 q.1
noncomputable def uK:Option (Mk×Nat)->D
 | some p=>.int (p.2:Int)
 | none=>.non
theorem lS(B:Bok M n rs ms)(hL:∀p∈L,ms[p.2]?=some p.1/\p.1∈ms):fT [.int M,.lst (rs.map bB),bF n (RT (rs.map (red M))),.lst (ms.map bP),.lst (L.map λp=>.int (p.2:Int)),.lst (L.map λp=>c9 (rs.map (red M)) M ks p.1)]=some (uK (best (rs.map (red M)) M ks L)):=by
 have zl:=qT (λp:Mk×Nat=>D.int (p.2:Int)) (λp=>c9 (rs.map (red M)) M ks p.1) L;have ad:∀p∈L,dW (ms.map bP) (p.2:Int)=some (bP p.1):=λp Y=>bG (by rw[zar,(hL p Y).1];rfl)
 have cv:∀p∈L,∀q∈L,bZ [.int M,.lst (rs.map bB),bF n (RT (rs.map (red M))),.tup [bP p.1,bP q.1],c9 (rs.map (red M)) M ks p.1,c9 (rs.map (red M)) M ks q.1]=some (.bl (AB (rs.map (red M)) M ks p.1 q.1)):=λp Y q W=>uZ B (hL p Y).2 (hL q W).2
 unfold best;generalize hc:(λp q:Mk×Nat=>AB (rs.map (red M)) M ks p.1 q.1)=cc;have aj:∀p q:Mk×Nat,AB (rs.map (red M)) M ks p.1 q.1=cc p q:=λp q=>by rw[<- hc]
 simp only[aj]at cv ⊢;generalize hrow:(λp:Mk×Nat=>c9 (rs.map (red M)) M ks p.1)=row;have ah:∀p:Mk×Nat,c9 (rs.map (red M)) M ks p.1=row p:=λp=>by rw[<- hrow]
 simp only[ah]at cv zl;generalize bF n (RT (rs.map (red M)))=mt at cv ⊢;have inner:∀p∈L,∀(o9 G F:Option D),∃U N J,gC (wR (aC (aB 4) (aC (aB 5) aT))) (bO 2 (aM (aH 9) (aM (aH 10) bU))) (bM (bS 11 (fP (aC (aY aI (aB 3) (aB 6)) (aC (aY aI (aB 3) (aB 9)) aT))))
   (bS 8 (sY (aB 8) (aQ bZ (aC (aB 0) (aC (aB 1) (aC (aB 2) (aC (aB 11) (aC (aB 7) (aC (aB 10) aT)))))))))) [some (.int M),some (.lst (rs.map bB)),some mt,some (.lst (ms.map bP)),some (.lst (L.map λp=>.int (p.2:Int))),some (.lst (L.map row)),some (.int (p.2:Int)),some (row p),some (.bl true),o9,G,F]=some (.nx [some (.int M),some (.lst (rs.map bB)),some mt,some (.lst (ms.map bP)),some (.lst (L.map λp=>.int (p.2:Int))),some (.lst (L.map row)),some (.int (p.2:Int)),some (row p),some (.bl (L.all λq=>cc p q)),U,N,J]):=λp Y o9 G F=>by
  obtain⟨ρ',e,U,N,J,rfl⟩:=dX (g:=bO 2 (aM (aH 9) (aM (aH 10) bU))) (b:=(bM (bS 11 (fP (aC (aY aI (aB 3) (aB 6)) (aC (aY aI (aB 3) (aB 9)) aT))))
   (bS 8 (sY (aB 8) (aQ bZ (aC (aB 0) (aC (aB 1) (aC (aB 2) (aC (aB 11) (aC (aB 7) (aC (aB 10) aT))))))))))) (items:=L.map λp=>D.tup [.int (p.2:Int),row p]) (ρ:=[some (.int M),some (.lst (rs.map bB)),some mt,some (.lst (ms.map bP)),some (.lst (L.map λp=>.int (p.2:Int))),some (.lst (L.map row)),some (.int (p.2:Int)),some (row p),some (.bl true),o9,G,F]) (λi ρ=>∃U N J,ρ=[some (.int M),some (.lst (rs.map bB)),some mt,some (.lst (ms.map bP)),some (.lst (L.map λp=>.int (p.2:Int))),some (.lst (L.map row)),some (.int (p.2:Int)),some (row p),some (.bl ((L.take i).all λq=>cc p q)),U,N,J]) ⟨o9,G,F,by simp[-zad,-zae,aA,aD]⟩ (by
   rintro i x ρ hx ⟨U,N,J,rfl⟩;rw[zar]at hx;obtain⟨q,W,rfl⟩:=map_some hx;have ac:=zaI W;have ht:L.take (i+1)=L.take i++[q]:=by rw[zbm,W];rfl
   have c1:=cv p Y q ac;have a1:=ad p Y;have a2:=ad q ac;refine⟨_,?_,some (.int (q.2:Int)),some (row q),some (.tup [bP p.1,bP q.1]),rfl⟩;rw[ht,List.all_append];generalize (L.take i).all (λq=>cc p q)=b0;generalize bP p.1=dp at c1 a1;generalize bP q.1=dq at c1 a2;cases b0 with
   | true=>simp_all[turn,a1,a2,c1]
   | false=>simp_all[turn,a1,a2])
  rw[zal,zbC]at e;refine⟨U,N,J,?_⟩;rw[<- zl]at e;exact(lB rfl rfl rfl rfl).trans e
 have ab:∀(l:List (Mk×Nat)),(∀p∈l,p∈L)->∀(o6 o7 o8 o9 G F:Option D),(∀p,l.find? (λp=>L.all λq=>cc p q)=some p->bV (bO 2 (aM (aH 6) (aM (aH 7) bU))) (bM (bS 8 (eC (.bl true)))
   (bM (gC (wR (aC (aB 4) (aC (aB 5) aT))) (bO 2 (aM (aH 9) (aM (aH 10) bU))) (bM (bS 11 (fP (aC (aY aI (aB 3) (aB 6)) (aC (aY aI (aB 3) (aB 9)) aT))))
   (bS 8 (sY (aB 8) (aQ bZ (aC (aB 0) (aC (aB 1) (aC (aB 2) (aC (aB 11) (aC (aB 7) (aC (aB 10) aT)))))))))))
   (jI (eM (aB 8)) (sM (aB 6)) mH))) (l.map λp=>D.tup [.int (p.2:Int),row p]) [some (.int M),some (.lst (rs.map bB)),some mt,some (.lst (ms.map bP)),some (.lst (L.map λp=>.int (p.2:Int))),some (.lst (L.map row)),o6,o7,o8,o9,G,F]=some (.rt (.int (p.2:Int))))/\(l.find? (λp=>L.all λq=>cc p q)=none->∃ρ',bV (bO 2 (aM (aH 6) (aM (aH 7) bU))) (bM (bS 8 (eC (.bl true)))
   (bM (gC (wR (aC (aB 4) (aC (aB 5) aT))) (bO 2 (aM (aH 9) (aM (aH 10) bU))) (bM (bS 11 (fP (aC (aY aI (aB 3) (aB 6)) (aC (aY aI (aB 3) (aB 9)) aT))))
   (bS 8 (sY (aB 8) (aQ bZ (aC (aB 0) (aC (aB 1) (aC (aB 2) (aC (aB 11) (aC (aB 7) (aC (aB 10) aT)))))))))))
   (jI (eM (aB 8)) (sM (aB 6)) mH))) (l.map λp=>D.tup [.int (p.2:Int),row p]) [some (.int M),some (.lst (rs.map bB)),some mt,some (.lst (ms.map bP)),some (.lst (L.map λp=>.int (p.2:Int))),some (.lst (L.map row)),o6,o7,o8,o9,G,F]=some (.nx ρ')):=by
  intro l;induction l with
  | nil=>exact λ_ o6 o7 o8 o9 G F=>⟨λp z=>by simp[-zad,-zae,aA,aD]at z,λ_=>⟨_,rfl⟩⟩
  | cons p l ih=>
   intro hl o6 o7 o8 o9 G F;obtain⟨U,N,J,e⟩:=inner p (hl p (zau ..)) o9 G F;obtain⟨i1,i2⟩:=ih (λq W=>hl q (zav _ W)) (some (.int (p.2:Int))) (some (row p)) (some (.bl (L.all λq=>cc p q))) U N J;rw[za8];have st:(bM (bS 8 (eC (.bl true)))
   (bM (gC (wR (aC (aB 4) (aC (aB 5) aT))) (bO 2 (aM (aH 9) (aM (aH 10) bU))) (bM (bS 11 (fP (aC (aY aI (aB 3) (aB 6)) (aC (aY aI (aB 3) (aB 9)) aT))))
   (bS 8 (sY (aB 8) (aQ bZ (aC (aB 0) (aC (aB 1) (aC (aB 2) (aC (aB 11) (aC (aB 7) (aC (aB 10) aT)))))))))))
   (jI (eM (aB 8)) (sM (aB 6)) mH))) [some (.int M), some (.lst (rs.map bB)), some mt, some (.lst (ms.map bP)), some (.lst (L.map λp => .int (p.2:Int))), some (.lst (L.map row)), some (.int (p.2:Int)), some (row p), o8, o9, G, F] = if(L.all λq => cc p q) = true then some (.rt (.int (p.2:Int)))else some (.nx [some (.int M), some (.lst (rs.map bB)), some mt, some (.lst (ms.map bP)), some (.lst (L.map λp => .int (p.2:Int))), some (.lst (L.map row)), some (.int (p.2:Int)), some (row p), some (.bl (L.all λq => cc p q)), U, N, J]):=by
    rw[aG (aO (d:=.bl true) (by simp[-zad,-zae,aA,aD])),aG (by exact e)];cases(L.all λq=>cc p q)with
    | true=>simp[-zad,-zae,aA,aD]
    | false=>simp[-zad,-zae,aA,aD]
   have tn:=turn_of (g:=bO 2 (aM (aH 6) (aM (aH 7) bU))) (x:=D.tup [.int (p.2:Int),row p]) (ρ:=[some (.int M),some (.lst (rs.map bB)),some mt,some (.lst (ms.map bP)),some (.lst (L.map λp=>.int (p.2:Int))),some (.lst (L.map row)),o6,o7,o8,o9,G,F]) (by simp[-zad,-zae,aA,aD]) st;cases hb:(L.all λq=>cc p q)with
   | true=>
    rw[hb]at tn;refine⟨λq z=>?_,(λz=>nomatch z)⟩;cases z;exact wF tn
   | false=>
    rw[hb]at tn i1 i2;refine⟨λq z=>?_,λz=>?_⟩
    ·exact(iD tn).trans (i1 q z)
    ·obtain⟨ρ',e'⟩:=i2 z
     exact⟨ρ',(iD tn).trans e'⟩
 obtain⟨f1,f2⟩:=ab L (λ_ h=>h) none none none none none none;refine aN ?_;unfold fW;cases hf:L.find? (λp=>L.all λq=>cc p q)with
 | some p=>
  have e:=f1 p hf;rw[<- zl]at e;exact mB ((lB rfl rfl rfl rfl).trans e)
 | none=>
  obtain⟨ρ',e⟩:=f2 hf;rw[<- zl]at e;refine(aG ((lB rfl rfl rfl rfl).trans e)).trans ?_
  ac_rfl
theorem mV{q:Type}{l:List q}{i:Nat}{x:q}(h:l[i]?=some x):(l.take (i+1)).zipIdx=(l.take i).zipIdx++[(x,i)]:=by
 have hi:=(List.getElem?_eq_some_iff.mp h).1;rw[zbm,h];show(l.take i++[x]).zipIdx=_;rw[List.zipIdx_append,zbT];have:min i l.length=i:=by lia
 rw[this];simp[-zad,-zae,aA,aD]
theorem sR{M:Int}{n:Nat}{rs:List Ro}{ms:List Mk}(B:Bok M n rs ms){ks:List Int}(hk:∀k∈ks,0<=k/\k<(n:Int)):i8 [bF n (RT (rs.map (red M))),.lst (ms.map bP),.str x,tupI ks]=some (.lst ((near (rs.map (red M)) ms x ks).map λp=>.int (p.2:Int))):=by
 have ml:=B.ml;refine aN ?_;unfold i5;rw[aG (aO (d:=.lst []) (by simp[-zad,-zae,aA,aD]))];refine cF (items:=aW 0 1 ms.length) (by simp_all[aL,lU (n:=ms.length) (by lia)]) (λi ρ=>∃(o5 o6 o7 o8:Option D),ρ=[some (bF n (RT (rs.map (red M)))),some (.lst (ms.map bP)),some (.str x),some (tupI ks),some (.lst (((ms.take i).zipIdx.filter λp=>decide (p.1.nm=x) && dM (rs.map (red M)) ks p.1.tk).map λp=>.int (p.2:Int))),o5,o6,o7,o8]) ⟨none,none,none,none,by ac_rfl⟩ ?_ ?_
 ·rintro i y ρ hy ⟨o5,o6,o7,o8,rfl⟩
  obtain⟨J,rfl⟩:=bD hy;have hI:(0:Int)+(i:Int)*1=(i:Int):=by lia
  rw[hI];have W:ms[i]?=some ms[i]:=zaL J;have U:ms[i]∈ms:=zc8 J;generalize ms[i]=m at W U;have ok:=B.mo m U;have q:dW (ms.map bP) (i:Int)=some (bP m):=bG (by rw[zar,W];rfl);rw[mV W,List.filter_append,za4];generalize hT:((ms.take i).zipIdx.filter λp=>decide (p.1.nm=x) && dM (rs.map (red M)) ks p.1.tk).map (λp=>D.int (p.2:Int))=T;have tl:T.length<=100:=by
   rw[<- hT,zal];have:=zfb (λp:Mk×Nat=>decide (p.1.nm=x) && dM (rs.map (red M)) ks p.1.tk) (ms.take i).zipIdx;rw[zfc,zbT]at this
   lia
  have hsz:aZ T.length=true:=decide_eq_true (by lia);have Y:=X4 (m:=m);have m1:=YA (m:=m);have lt:dA [tupI m.tk]=some (.int (m.tk.length:Int)):=by unfold tupI;rw[q_lenT,zal]
  have lk:dA [tupI ks]=some (.int (ks.length:Int)):=by unfold tupI;rw[q_lenT,zal]
  have zb:=qX (P:=λk=>0<=k/\k<(n:Int)) (Q:=λk=>0<=k/\k<(n:Int)) hk ok.tb;obtain⟨ρ',er,N,G,rfl⟩:=dX (g:=bO 2 (aM (aH 7) (aM (aH 8) bU))) (b:=(bS 6 (sY (aB 6) (aY aI (aY aI (aB 0) (aB 7)) (aB 8))))) (items:=(fO ks m.tk).map λp=>D.tup [.int p.1,.int p.2]) (ρ:=[some (bF n (RT (rs.map (red M)))),some (.lst (ms.map bP)),some (.str x),some (tupI ks),some (.lst T),some (.int (i:Int)),some (.bl (decide (m.nm=x) && decide (ks.length=m.tk.length))),o7,o8]) (λj ρ=>∃(o7 o8:Option D),ρ=[some (bF n (RT (rs.map (red M)))),some (.lst (ms.map bP)),some (.str x),some (tupI ks),some (.lst T),some (.int (i:Int)),some (.bl (decide (m.nm=x) && decide (ks.length=m.tk.length) && ((fO ks m.tk).take j).all λp=>RT (rs.map (red M)) p.1 p.2)),o7,o8]) ⟨o7,o8,by simp[-zad,-zae,aA,aD]⟩ (by
   rintro j z ρ hz ⟨o7,o8,rfl⟩;rw[zar]at hz;obtain⟨p,hp,rfl⟩:=map_some hz;obtain⟨pa,pb⟩:=zb p (zaI hp);have ht:(fO ks m.tk).take (j+1)=(fO ks m.tk).take j++[p]:=by rw[zbm,hp];rfl
   have q1:=BM (K:=n) (P:=RT (rs.map (red M))) (k:=p.1) pa.1 pa.2;have q2:=v8 (K:=n) (p:=RT (rs.map (red M)) p.1) pb.1 pb.2;refine⟨_,?_,some (.int p.1),some (.int p.2),rfl⟩;rw[ht,List.all_append];generalize bF n (RT (rs.map (red M)))=mt at q1;generalize cV n (RT (rs.map (red M)) p.1)=rw_ at q1 q2;generalize (decide (m.nm=x) && decide (ks.length=m.tk.length))=g0;generalize ((fO ks m.tk).take j).all (λp=>RT (rs.map (red M)) p.1 p.2)=b0;cases g0 with
   | true=>cases b0 with
    | true=>simp_all[turn,q1,q2]
    | false=>simp_all[turn]
   | false=>simp_all[turn])
  rw[zal,zbC]at er;have fb:(decide (m.nm=x) && decide (ks.length=m.tk.length) && (fO ks m.tk).all λp=>RT (rs.map (red M)) p.1 p.2)=(decide (m.nm=x) && dM (rs.map (red M)) ks m.tk):=by unfold dM;rw[Bool.and_assoc]
  rw[fb]at er;have g1:(sY (aY zZ (aY aI (aY aI (aB 1) (aB 5)) (eC (.int 0))) (aB 2)) (aY zZ (aQ dA (aC (aY aI (aY aI (aB 1) (aB 5)) (eC (.int 1))) aT)) (aQ dA (aC (aB 3) aT)))) [some (bF n (RT (rs.map (red M)))),some (.lst (ms.map bP)),some (.str x),some (tupI ks),some (.lst T),some (.int (i:Int)),o6,o7,o8]=some (.bl (decide (m.nm=x) && decide (ks.length=m.tk.length))):=by
   by_cases c1:m.nm=x
   ·by_cases c2:ks.length=m.tk.length
    ·have F:(m.tk.length:Int)=(ks.length:Int):=by lia
     simp_all[q,Y,m1,lt,lk,c1,c2,F]
    ·have F:¬ (m.tk.length:Int)=(ks.length:Int):=by lia
     simp_all[q,Y,m1,lt,lk,c1,c2,F]
   ·simp_all[q,Y,c1]
  have sz:gC (wR (aC (aB 3) (aC (aY aI (aY aI (aB 1) (aB 5)) (eC (.int 1))) aT))) (bO 2 (aM (aH 7) (aM (aH 8) bU))) (bS 6 (sY (aB 6) (aY aI (aY aI (aB 0) (aB 7)) (aB 8)))) [some (bF n (RT (rs.map (red M)))),some (.lst (ms.map bP)),some (.str x),some (tupI ks),some (.lst T),some (.int (i:Int)),some (.bl (decide (m.nm=x) && decide (ks.length=m.tk.length))),o7,o8]=some (.nx [some (bF n (RT (rs.map (red M)))),some (.lst (ms.map bP)),some (.str x),some (tupI ks),some (.lst T),some (.int (i:Int)),some (.bl (decide (m.nm=x) && dM (rs.map (red M)) ks m.tk)),N,G]):=by
   rw[q_for];have e1:(wR (aC (aB 3) (aC (aY aI (aY aI (aB 1) (aB 5)) (eC (.int 1))) aT))) [some (bF n (RT (rs.map (red M)))),some (.lst (ms.map bP)),some (.str x),some (tupI ks),some (.lst T),some (.int (i:Int)),some (.bl (decide (m.nm=x) && decide (ks.length=m.tk.length))),o7,o8]=some ((fO ks m.tk).map λp=>D.tup [.int p.1,.int p.2]):=by
    rw[<- lV];simp_all[q,m1,tupI]
   rw[e1,aA];exact er
  refine⟨[some (bF n (RT (rs.map (red M)))),some (.lst (ms.map bP)),some (.str x),some (tupI ks),some (.lst (T++([(m,i)].filter λp=>decide (p.1.nm=x) && dM (rs.map (red M)) ks p.1.tk).map λp=>.int (p.2:Int))),some (.int (i:Int)),some (.bl (decide (m.nm=x) && dM (rs.map (red M)) ks m.tk)),N,G],?_,_,_,_,_,rfl⟩;refine turn_of (ρ1:=[some (bF n (RT (rs.map (red M)))),some (.lst (ms.map bP)),some (.str x),some (tupI ks),some (.lst T),some (.int (i:Int)),o6,o7,o8]) (by simp[-zad,-zae,aA,aD]) ?_;refine(aG (aO g1)).trans ?_;refine(aG sz).trans ?_;rw[zdW];cases(decide (m.nm=x) && dM (rs.map (red M)) ks m.tk)with
  | true=>simp_all[hsz]
  | false=>simp[-zad,-zae,aA,aD]
 ·rintro ρ ⟨o5,o6,o7,o8,rfl⟩
  rw[a8,zbC]
  ac_rfl
theorem vA(h0:0<M)(q:M<10^60)(z:0<=v/\v<M)(G:0<=e/\e<=1000):vK [.int M,.int v,.int e]=some (.int (mG M v e.toNat)):=by
 refine aN ?_;unfold C9;rw[aG (aO (d:=.int 1) (by simp[-zad,-zae,aA,aD]))];have U:=eE G.1 (show e<=1000000 by lia);refine cF (items:=aW 0 1 e.toNat) (by ac_rfl) (λi ρ=>∃o,ρ=[some (.int M),some (.int v),some (.int e),some (.int (mG M v i)),o]) ⟨none,by ac_rfl⟩ ?_ ?_
 ·rintro i x ρ W ⟨o,rfl⟩
  refine⟨[some (.int M),some (.int v),some (.int e),some (.int (mG M v (i+1))),some x],?_,_,rfl⟩;have J:=KC (v:=v) h0 q i;have N:(10:Int)^60=1000000000000000000000000000000000000000000000000000000000000:=by decide +kernel
  have B:Bd 60 (mG M v i):=⟨by lia,J.2⟩;have F:=B.mulH (Bd.of q ⟨z.1,zbX z.2⟩) (by decide) (by decide);simp_all[turn,F,CA h0,mG]
 ·rintro ρ' ⟨o,rfl⟩
  simp_all[a8]
theorem qF(h0:0<M)(z:M<10^60)(f:Fo M d F)(lw:CG d)(hl:vs.length=d.length)(hv:∀v∈vs,0<=v/\v<M):b5 [.int M,fD F,tupI vs]=some (.int (ev vs F%M)):=by
 have e0:sumF M vs F%M=ev vs F%M:=dF (CP hl f.k.bx);rw[<- e0];refine aN ?_;unfold pD fD;rw[aG (aO (d:=.int 0) (by simp[-zad,-zae,aA,aD]))];refine cF (items:=F.map bQ) (by ac_rfl) (λi ρ=>∃o4 o5 o6 o7 o8,ρ=[some (.int M),some (.tup (F.map bQ)),some (tupI vs),some (.int (sumF M vs (F.take i))),o4,o5,o6,o7,o8]) ⟨none,none,none,none,none,by ac_rfl⟩ ?_ ?_
 ·rintro i x ρ hx ⟨o4,o5,o6,o7,o8,rfl⟩
  rw[zar]at hx;obtain⟨q,N,rfl⟩:=map_some hx;have W:=zaI N;have bq:=f.k.bx q W;have cq:=f.cb q W;have es:sumF M vs (F.take (i+1))=sumF M vs (F.take i)+prodF M vs q:=by rw[zbm,N];exact FS _ _ _ _
  have Y:∀(v:Int) (k:Nat),Bd 60 (mG M v k):=λv k=>by
   have:=KC (v:=v) h0 z k;have am:(10:Int)^60=1000000000000000000000000000000000000000000000000000000000000:=by decide +kernel
   exact⟨by lia,this.2⟩
  have B:∀o7 o8,∃p7 p8,bV (bO 2 (aM (aH 7) (aM (aH 8) bU))) (bS 6 (aY cC (aB 6) (aQ vK (aC (aB 0) (aC (aB 8) (aC (aB 7) aT)))))) (gA (q.1.map .int) (vs.map .int)) [some (.int M),some (.tup (F.map bQ)),some (tupI vs),some (.int (sumF M vs (F.take i))),some (tupI q.1),some (.int q.2),some (.int q.2),o7,o8]=some (.nx [some (.int M),some (.tup (F.map bQ)),some (tupI vs),some (.int (sumF M vs (F.take i))),some (tupI q.1),some (.int q.2),some (.int (prodF M vs q)),p7,p8]):=by
   intro o7 o8;obtain⟨k,c⟩:=q;have bc:=Bd.of z (show 0<=c/\c<=M from⟨cq.1,zbX cq.2⟩);generalize sumF M vs (F.take i)=S;generalize D.tup (F.map bQ)=FT;rcases bq.shape with⟨a,x,rfl,U,h⟩|⟨a,b,x,y,rfl,U,h⟩
   ·dsimp only at U
    subst U;have lx:a<=6:=lw;obtain⟨v,rfl⟩:=List.length_eq_one_iff.mp hl;have G:=hv v (by simp[-zad,-zae,aA,aD]);have m1:=bc.mulH (Y v x.toNat) (by decide) (by decide);exact⟨some (.int x),some (.int v),by simp_all[gA,bV,vA h0 z G (show 0<=x/\x<=1000 by lia),m1,prodF]⟩
   ·dsimp only at U
    subst U;have lx:a<=6/\b<=6:=lw;obtain⟨v,v2,rfl⟩:=lN hl;have G:=hv v (by simp[-zad,-zae,aA,aD]);have ae:=hv v2 (by simp[-zad,-zae,aA,aD]);have m1:=bc.mulH (Y v x.toNat) (by decide) (by decide);have m2:=(bc.mul (Y v x.toNat)).mulH (Y v2 y.toNat) (by decide) (by decide);exact⟨some (.int y),some (.int v2),by simp_all[gA,bV,vA h0 z G (show 0<=x/\x<=1000 by lia),vA h0 z ae (show 0<=y/\y<=1000 by lia),m1,m2,prodF]⟩
  obtain⟨p7,p8,J⟩:=B o7 o8;refine⟨[some (.int M),some (.tup (F.map bQ)),some (tupI vs),some (.int (sumF M vs (F.take (i+1)))),some (tupI q.1),some (.int q.2),some (.int (prodF M vs q)),p7,p8],?_,_,_,_,_,_,rfl⟩;simp only[tupI]at J;simp_all[turn,bQ,tupI,J,es]
 ·rintro ρ' ⟨o4,o5,o6,o7,o8,rfl⟩
  simp_all[CA h0]
theorem G3(B:n=1\/n=2):x8 [.int n]=some (.lst ((dI n).map tupI)):=by
 refine aN ?_;have q:cG [.int 3]=some [.int 0,.int 1,.int 2]:=rfl;have z:cG [.int 9]=some [.int 0,.int 1,.int 2,.int 3,.int 4,.int 5,.int 6,.int 7,.int 8]:=rfl;rcases B with rfl|rfl
 ·simp_all[qN,aL,q,sL,bW,dI,U1,tupI,show aZ 3=true from rfl]
 ·simp_all[qN,aL,z,sL,bW,dI,VC,tupI,show aZ 9=true from rfl,bI,f9]
theorem FQ{M:Int}(h3:3<=M)(B:M<10^60){nn:Nat}(hn:nn=1\/nn=2){d e:List Int}{F G:List My.Tm}(f:Fo M d F)(g:Fo M e G)(lf:CG d)(lg:CG e)(ld:d.length=nn)(le:e.length=nn):∃r,tM [.int M,.int (nn:Int),fD F,fD G]=some r/\dZ r=(dI (nn:Int)).all λp=>decide (ev p F%M=ev p G%M):=by
 have h0:0<M:=by lia
 have vp:=G3 (n:=(nn:Int)) (by lia);have W:∀p∈dI (nn:Int),b5 [.int M,fD F,tupI p]=some (.int (ev p F%M))/\b5 [.int M,fD G,tupI p]=some (.int (ev p G%M)):=λp N=>by
  obtain⟨a,b⟩:=BK h3 hn N;exact⟨qF h0 B f lf (by lia) b,qF h0 B g lg (by lia) b⟩
 generalize fD F=DF at W ⊢;generalize fD G=DG at W ⊢;have J:∀(ps:List (List Int)),(∀p∈ps,p∈dI (nn:Int))->∀o:Option D,(ps.all (λp=>decide (ev p F%M=ev p G%M))=true->∃o',bV (aH 4) (jI (eM (aY wW (aQ b5 (aC (aB 0) (aC (aB 2) (aC (aB 4) aT)))) (aQ b5 (aC (aB 0) (aC (aB 3) (aC (aB 4) aT)))))) (sM (aB 4)) mH) (ps.map tupI) [some (.int M),some (.int (nn:Int)),some DF,some DG,o]=some (.nx [some (.int M),some (.int (nn:Int)),some DF,some DG,o']))/\(ps.all (λp=>decide (ev p F%M=ev p G%M))=false->∃p,bV (aH 4) (jI (eM (aY wW (aQ b5 (aC (aB 0) (aC (aB 2) (aC (aB 4) aT)))) (aQ b5 (aC (aB 0) (aC (aB 3) (aC (aB 4) aT)))))) (sM (aB 4)) mH) (ps.map tupI) [some (.int M),some (.int (nn:Int)),some DF,some DG,o]=some (.rt (tupI p))):=by
  intro ps;induction ps with
  | nil=>exact λ_ o=>⟨λ_=>⟨o,rfl⟩,λz=>by simp[-zad,-zae,aA,aD]at z⟩
  | cons p ps ih=>
   intro N o;obtain⟨U,w2⟩:=W p (N p (zau ..));obtain⟨Y,i2⟩:=ih (λq hq=>N q (zav _ hq)) (some (tupI p));rw[zbK,zak];by_cases c:ev p F%M=ev p G%M
   ·rw[decide_eq_true c,zde]
    rw[c]at U;generalize tupI p=tp at U w2 Y i2;have st:turn (aH 4) (jI (eM (aY wW (aQ b5 (aC (aB 0) (aC (aB 2) (aC (aB 4) aT)))) (aQ b5 (aC (aB 0) (aC (aB 3) (aC (aB 4) aT)))))) (sM (aB 4)) mH) tp [some (.int M),some (.int (nn:Int)),some DF,some DG,o]=some (.nx [some (.int M),some (.int (nn:Int)),some DF,some DG,some tp]):=by ac_rfl
    refine⟨λz=>?_,λz=>?_⟩
    ·obtain⟨o',e⟩:=Y z
     exact⟨o',(iD st).trans e⟩
    ·obtain⟨q,e⟩:=i2 z
     exact⟨q,(iD st).trans e⟩
   ·rw[decide_eq_false c,zcB]
    refine⟨(λz=>nomatch z),λ_=>⟨p,wF ?_⟩⟩;generalize tupI p=tp at U w2
    ac_rfl
 obtain⟨l1,l2⟩:=J (dI (nn:Int)) (λ_ h=>h) none;cases hc:(dI (nn:Int)).all λp=>decide (ev p F%M=ev p G%M)with
 | true=>
  obtain⟨o',e⟩:=l1 hc;refine⟨.non,aN ?_,rfl⟩;unfold lY;rw[aG (by rw[q_for];simp_all[aL,vp];exact e)];simp[-zad,-zae,aA,aD]
 | false=>
  obtain⟨p,e⟩:=l2 hc;refine⟨tupI p,aN ?_,rfl⟩;unfold lY;exact mB (by rw[q_for];simp_all[aL,vp];exact e)
def SF(R:List Ro)(M:Int)(ks:List Int)(m:Mk)(H:List My.Tm):Prop:=∃dd:List Int,Fo M dd H/\CG dd/\Bx dd (zN (ks.length:Int))/\dd.length=ks.length/\∀vs:List Int,vs.length=ks.length->ev vs H%M=sv R M m ks vs
def cW(F:Nat->List My.Tm)(L:List (Mk×Nat)):List (Key×D):=L.map λp=>(zam (p.2:Int),fD (F p.2))
theorem BB{l:List (Key×D)}(h:∀p∈l,p.1≠k):putD l k d=l++[(k,d)]:=by
 unfold putD;rw[if_neg];intro z;obtain⟨p,q,e⟩:=List.any_eq_true.mp z;exact h p q (of_decide_eq_true e)
theorem uV{M c:Int}{n:Nat}{rs:List Ro}{ms:List Mk}(B:Bok M n rs ms){ks:List Int}(hk:∀k∈ks,0<=k/\k<(n:Int))(an:ks.length<=2):∃F:Nat->List My.Tm,kQ [d7 M c n rs ms,.str x,tupI ks]=some (.dK (cW F (near (rs.map (red M)) ms x ks)))/\∀p∈near (rs.map (red M)) ms x ks,SF (rs.map (red M)) M ks p.1 (F p.2):=by
 have ex:∀i:Nat,∃H:List My.Tm,∀m,ms[i]?=some m->dM (rs.map (red M)) ks m.tk=true->eY [d7 M c n rs ms,.int (i:Int),tupI ks]=some (fD H)/\SF (rs.map (red M)) M ks m H:=λi=>by
  cases G:ms[i]? with
  | none=>exact⟨[],λm h=>by cases h⟩
  | some m=>
   by_cases hf:dM (rs.map (red M)) ks m.tk=true
   ·have hi:dW (ms.map (fR M)) (i:Int)=some (fR M m):=bG (by rw[zar,G];rfl)
    obtain⟨H,dd,e,a⟩:=xI (c:=c) B (zaI G) hi hk hf;exact⟨H,λm' h _=>by cases h;exact⟨e,dd,a⟩⟩
   ·exact⟨[],λm' h h2=>by cases h;exact absurd h2 hf⟩
 obtain⟨F,Fs⟩:∃F:Nat->List My.Tm,∀(i:Nat) (m:Mk),ms[i]?=some m->dM (rs.map (red M)) ks m.tk=true->eY [d7 M c n rs ms,.int (i:Int),tupI ks]=some (fD (F i))/\SF (rs.map (red M)) M ks m (F i):=⟨λi=>(ex i).choose,λi=>(ex i).choose_spec⟩;clear ex;refine⟨F,?_,λp J=>?_⟩
 ·have ml:=B.ml
  refine aN ?_;have h3:aI (d7 M c n rs ms) (.int 3)=some (.tup (ms.map (fR M))):=O8;have vf:=λ(i:Int) (m:Mk) G ht=>UK (c:=c) (ms:=ms) (i:=i) (m:=m) (ks:=ks) B.hn.2 B.g G hk (by lia) ht
  generalize d7 M c n rs ms=bk at Fs h3 vf ⊢;unfold kH;rw[aG (aO (d:=.dK []) (by simp[-zad,-zae,aA,aD]))];refine cF (items:=eL 0 (ms.map (fR M))) (by ac_rfl) (λi ρ=>∃(o4 o5:Option D),ρ=[some bk,some (.str x),some (tupI ks),some (.dK (cW F ((ms.take i).zipIdx.filter λp=>decide (p.1.nm=x) && dM (rs.map (red M)) ks p.1.tk))),o4,o5]) ⟨none,none,by ac_rfl⟩ ?_ ?_
  ·rintro i y ρ hy ⟨o4,o5,rfl⟩
   obtain⟨z,hz,rfl⟩:=fY hy;rw[zar]at hz;obtain⟨m,G,rfl⟩:=map_some hz;have W:=zaI G;have ok:=B.mo m W;have hI:((0+i:Nat):Int)=(i:Int):=by lia
   rw[hI];have hi:dW (ms.map (fR M)) (i:Int)=some (fR M m):=bG (by rw[zar,G];rfl);have N:=vf (i:Int) m hi ok.tb;have b0:=ZU (M:=M) (m:=m);have il:=(List.getElem?_eq_some_iff.mp G).1;rw[mV G,List.filter_append];generalize hT:((ms.take i).zipIdx.filter λp=>decide (p.1.nm=x) && dM (rs.map (red M)) ks p.1.tk)=T;have tm:∀p∈T,p.2<i:=λp J=>by
    rw[<- hT]at J;have:=(List.mem_zipIdx' (List.mem_filter.mp J).1).1;rw[zbT]at this
    lia
   have tl:T.length<=100:=by
    rw[<- hT];have:=zfb (λp:Mk×Nat=>decide (p.1.nm=x) && dM (rs.map (red M)) ks p.1.tk) (ms.take i).zipIdx;rw[zfc,zbT]at this
    lia
   generalize fR M m=bm at b0 ⊢;by_cases c1:m.nm=x
   ·by_cases U:dM (rs.map (red M)) ks m.tk=true
    ·obtain⟨e1,_⟩:=Fs i m G U
     rw[U]at N;have pt:sI (.dK (cW F T)) (.int (i:Int)) (fD (F i))=some (.dK (cW F (T++[(m,i)]))):=by
      have pf:=BB (l:=cW F T) (k:=zam (i:Int)) (d:=fD (F i)) (λp J z=>by
       obtain⟨q,hq,rfl⟩:=List.mem_map.mp J;have:=tm q hq;have z:(zam (q.2:Int):Key)=zam (i:Int):=z;injection z with z
       lia)
      have zz:aZ (cW F T).length=true:=decide_eq_true (by unfold cW;rw[zal];lia);show(if aZ (cW F T).length=true then some (D.dK (putD (cW F T) (zam (i:Int)) (fD (F i))))else none)=_;rw[if_pos zz,pf];unfold cW;rw[za4];rfl
     rw[List.filter_cons_of_pos (by ac_rfl),zfd];generalize cW F (T++[(m,i)])=s2 at pt;generalize fD (F i)=ff at pt e1;exact⟨_,by simp_all[turn,b0,c1,N,e1,pt],some (.int (i:Int)),some bm,rfl⟩
    ·have Y:dM (rs.map (red M)) ks m.tk=false:=by rw[zcN];exact U
     rw[Y]at N;rw[ze9 (by ac_rfl),zfd,zcr];exact⟨_,by ac_rfl,some (.int (i:Int)),some bm,rfl⟩
   ·rw[ze9 (by ac_rfl),zfd,zcr]
    exact⟨_,by ac_rfl,some (.int (i:Int)),some bm,rfl⟩
  ·rintro ρ ⟨o4,o5,rfl⟩
   rw[iO,zal,zbC]
   ac_rfl
 ·obtain⟨a,_,_,b⟩:=qP J
  exact(Fs p.2 p.1 a b).2
theorem yL{z:Type}{p q:z->Bool}:∀ {l:List z},(∀x∈l,p x=q x)->l.all p=l.all q
 | [],_=>rfl
 | x::l,h=>by rw[zbK,zbK,h x (zau ..),yL λy B=>h y (zav _ B)]
theorem DM(h:p∈L):aI (.dK (cW F L)) (.int (p.2:Int))=some (fD (F p.2)):=by
 show((cH (.dK (cW F L)) (.int (p.2:Int))).join)=_;show(some (b7 (cW F L) (zam (p.2:Int)))).join=_;show b7 (cW F L) (zam (p.2:Int))=_;induction L with
 | nil=>exact nomatch h
 | cons q L ih=>
  unfold b7 cW at ih ⊢;rw[zak,za8];by_cases e:q.2=p.2
  ·simp_all[e]
  ·have B:¬ (zam (q.2:Int):Key)=zam (p.2:Int):=λz=>by
    injection z with z
    lia
   have G:p∈L:=by
    rcases List.mem_cons.mp h with z|z
    ·exact absurd (by rw[z]) e
    ·exact z
   rw[decide_eq_false B];exact ih G
theorem lP{M c:Int}{n:Nat}{rs:List Ro}{ms:List Mk}(B:Bok M n rs ms){ks:List Int}(ab:ks.length=1\/ks.length=2){F:Nat->List My.Tm}{L:List (Mk×Nat)}(hL:∀p∈L,ms[p.2]?=some p.1/\p.1∈ms/\p.1.tk.length=ks.length/\SF (rs.map (red M)) M ks p.1 (F p.2)){p q:Mk×Nat}(hp:p∈L)(hq:q∈L):∃r,cA [d7 M c n rs ms,.int (p.2:Int),.int (q.2:Int),.dK (cW F L)]=some r/\dZ r=AB (rs.map (red M)) M ks p.1 q.1:=by
 have h0:0<M:=by have:=B.h3;lia
 obtain⟨p1,p2,p3,pd,pf,ac,pz,pl,pe⟩:=hL p hp;obtain⟨q1,q2,q3,qd,qf,ai,qz,ql,qe⟩:=hL q hq;have ga:=(B.mo p.1 p2).gv;have gb:=(B.mo q.1 q2).gv;have h3:aI (d7 M c n rs ms) (.int 3)=some (.tup (ms.map (fR M))):=O8;have hB:aI (d7 M c n rs ms) (.int 2)=some (.tup ((rs.map (red M)).map bB)):=U3;have U:aI (d7 M c n rs ms) (.int 0)=some (.int M):=X5;have g:=B.g;have sp:=DM (F:=F) hp;have sq:=DM (F:=F) hq;have ip:dW (ms.map (fR M)) (p.2:Int)=some (fR M p.1):=bG (by rw[zar,p1];rfl);have iq:dW (ms.map (fR M)) (q.2:Int)=some (fR M q.1):=bG (by rw[zar,q1];rfl);generalize d7 M c n rs ms=bk at h3 hB U ⊢;have vw:=CN hB g B.hn.2 ga gb;have Y:=XZ (M:=M) (m:=p.1);have W:=X0 (M:=M) (m:=p.1);have N:=X0 (M:=M) (m:=q.1);generalize fR M p.1=bmp at ip Y W;generalize fR M q.1=bmq at iq N;unfold AB;generalize rs.map (red M)=R at g hB vw pe qe ⊢;by_cases hr:Rch R p.1.gv q.1.gv
 ·obtain⟨e1,f1⟩:=vw.1 hr
  have e2:=uB U hB B.h3 B.h60 g (IsF.at_ f1);have an:((ks.length:Nat):Int)=1\/((ks.length:Nat):Int)=2:=by lia
  obtain⟨H,eh,fh,vh⟩:=fE (a:=(gP R M (1,0) (fwd R p.1.gv q.1.gv)).1) (b:=(gP R M (1,0) (fwd R p.1.gv q.1.gv)).2) h0 B.h60 an (by lia) pz ac pf;obtain⟨r,er,nr⟩:=FQ B.h3 B.h60 ab fh qf ac ai pl ql;have rt:RT R p.1.gv q.1.gv=true:=iE.mpr hr;rw[rt,zde];refine⟨r,aN ?_,?_⟩
  ·have G:bE [.int M,.int (ks.length:Int),AA (gP R M (1,0) (fwd R p.1.gv q.1.gv)),fD (F p.2)]=some (fD H):=eh
   have lt:dA [tupI p.1.tk]=some (.int (ks.length:Int)):=by unfold tupI;rw[q_lenT,zal,p3]
   have nn:dZ (tupI (fwd R p.1.gv q.1.gv))=false:=rfl;generalize AA (gP R M (1,0) (fwd R p.1.gv q.1.gv))=tt at e2 G;generalize tupI (fwd R p.1.gv q.1.gv)=ff at e1 e2 nn;generalize tupI p.1.tk=tp at Y lt;generalize fD (F p.2)=fp at sp G;generalize fD (F q.2)=fq at sq er;generalize fD H=fH at G er;generalize (D.dK (cW F L))=sd at sp sq ⊢;simp_all[dC,aL,h3,ip,iq,Y,W,N,e1,nn,lt,U,e2,sp,sq,G,er]
  ·rw[nr]
   refine yL λpt ak=>?_
   have lp:pt.length=ks.length:=(BK B.h3 ab ak).1;rw[qe pt lp];have x1:=vh pt (by lia);have ep:=pe pt lp;have J:=XI (R:=R) (m:=p.1) (ks:=ks) (vs:=pt) h0;have aa:M∣ev pt (F p.2)-sv R M p.1 ks pt:=XO (by rw[ep,Int.emod_eq_of_lt J.1 J.2]);generalize sv R M p.1 ks pt=s1 at J aa;obtain⟨_,_,d⟩:=P9 (R:=R) B.h3 (fwd R p.1.gv q.1.gv) s1;have gr:=dG (rs:=R) h0 (fwd R p.1.gv q.1.gv) s1 J;generalize gP R M (1,0) (fwd R p.1.gv q.1.gv)=t at x1 d;have x2:=a7 (aS M t.1) aa;have e:ev pt H%M=cZ R M s1 (fwd R p.1.gv q.1.gv):=by
    rw[<- Int.emod_eq_of_lt gr.1 gr.2];refine dF ?_;have:ev pt H-cZ R M s1 (fwd R p.1.gv q.1.gv)=(ev pt H-(t.1*ev pt (F p.2)+t.2))+(t.1*ev pt (F p.2)-t.1*s1)+(t.1*s1+t.2-cZ R M s1 (fwd R p.1.gv q.1.gv)):=by lia
    rw[this];exact zaR (zaR x1 x2) d
   rw[e]
 ·have rf:RT R p.1.gv q.1.gv=false:=by rw[zcN];exact λz=>hr (iE.mp z)
  have e1:=vw.2 hr;rw[rf,zcB];refine⟨.tup [],aN ?_,rfl⟩;have nn:dZ .non=true:=rfl;simp_all[dC,aL,h3,ip,iq,W,N,e1,nn]
theorem kB(B:Bok M n rs ms)(W:ks.length=1\/ks.length=2)(hL:∀p∈L,ms[p.2]?=some p.1/\p.1∈ms/\p.1.tk.length=ks.length/\SF (rs.map (red M)) M ks p.1 (F p.2))(hp:p∈L):∃r,bY [d7 M c n rs ms,.int (p.2:Int),.dK (cW F L)]=some r/\dZ r=L.all λq=>AB (rs.map (red M)) M ks p.1 q.1:=by
 have ss:=λq (hq:q∈L)=>lP (c:=c) B W hL hp hq
 have U:∀(l:List (Mk×Nat)),(∀q∈l,q∈L)->∀(N J:Option D),((l.all λq=>AB (rs.map (red M)) M ks p.1 q.1)=true->∃ρ',bV (aH 3) (bM (bS 4 (aQ cA (aC (aB 0) (aC (aB 1) (aC (aB 3) (aC (aB 2) aT))))))
   (jI (eM (aY uO (aB 4) (eC .non))) (sM (fP (aC (aB 3) (aC (aB 4) aT)))) mH)) (l.map λq=>.int (q.2:Int)) [some (d7 M c n rs ms),some (.int (p.2:Int)),some (.dK (cW F L)),N,J]=some (.nx ρ'))/\((l.all λq=>AB (rs.map (red M)) M ks p.1 q.1)=false->∃a b,bV (aH 3) (bM (bS 4 (aQ cA (aC (aB 0) (aC (aB 1) (aC (aB 3) (aC (aB 2) aT))))))
   (jI (eM (aY uO (aB 4) (eC .non))) (sM (fP (aC (aB 3) (aC (aB 4) aT)))) mH)) (l.map λq=>.int (q.2:Int)) [some (d7 M c n rs ms),some (.int (p.2:Int)),some (.dK (cW F L)),N,J]=some (.rt (.tup [a,b]))):=by
  generalize d7 M c n rs ms=bk at ss;generalize (D.dK (cW F L))=sd at ss;intro l;induction l with
  | nil=>exact λ_ N J=>⟨λ_=>⟨_,rfl⟩,λz=>by simp[-zad,-zae,aA,aD]at z⟩
  | cons q l ih=>
   intro Y N J;obtain⟨r,er,nr⟩:=ss q (Y q (zau ..));obtain⟨i1,i2⟩:=ih (λa ha=>Y a (zav _ ha)) (some (.int (q.2:Int))) (some r);rw[zbK,zak,<- nr];cases hn:dZ r with
   | true=>
    rw[zde];have st:turn (aH 3) (bM (bS 4 (aQ cA (aC (aB 0) (aC (aB 1) (aC (aB 3) (aC (aB 2) aT))))))
   (jI (eM (aY uO (aB 4) (eC .non))) (sM (fP (aC (aB 3) (aC (aB 4) aT)))) mH)) (.int (q.2:Int)) [some bk, some (.int (p.2:Int)), some sd, N, J] = some (.nx [some bk, some (.int (p.2:Int)), some sd, some (.int (q.2:Int)), some r]):=by ac_rfl
    refine⟨λz=>?_,λz=>?_⟩
    ·obtain⟨o',e⟩:=i1 z
     exact⟨o',(iD st).trans e⟩
    ·obtain⟨a,b,e⟩:=i2 z
     exact⟨a,b,(iD st).trans e⟩
   | false=>
    rw[zcB];exact⟨(λz=>nomatch z),λ_=>⟨.int (q.2:Int),r,wF (by ac_rfl)⟩⟩
 obtain⟨l1,l2⟩:=U L (λ_ h=>h) none none;have G:(D3 (aB 2)) (aL 5 [d7 M c n rs ms,.int (p.2:Int),.dK (cW F L)])=some (L.map λq=>.int (q.2:Int)):=by
  show some ((cW F L).map λp=>nX p.1)=_;unfold cW;rw[zaQ];rfl
 cases hc:(L.all λq=>AB (rs.map (red M)) M ks p.1 q.1)with
 | true=>
  obtain⟨ρ',e⟩:=l1 hc;refine⟨.non,aN ?_,rfl⟩;unfold c5;refine(aG (by rw[q_for,G,aA];exact e)).trans ?_;simp[-zad,-zae,aA,aD]
 | false=>
  obtain⟨a,b,e⟩:=l2 hc;refine⟨.tup [a,b],aN ?_,rfl⟩;unfold c5;exact mB (by rw[q_for,G,aA];exact e)
theorem AZ(B:Bok M n rs ms)(U:ks.length=1\/ks.length=2)(hL:∀p∈L,ms[p.2]?=some p.1/\p.1∈ms/\p.1.tk.length=ks.length/\SF (rs.map (red M)) M ks p.1 (F p.2)):qD [d7 M c n rs ms,.dK (cW F L)]=some (uK (best (rs.map (red M)) M ks L)):=by
 have ss:=λq (hq:q∈L)=>kB (c:=c) B U hL hq
 unfold best;have N:∀(l:List (Mk×Nat)),(∀q∈l,q∈L)->∀(G:Option D),(∀p,l.find? (λp=>L.all λq=>AB (rs.map (red M)) M ks p.1 q.1)=some p->bV (aH 2) (jI (eM (aY GK (aQ bY (aC (aB 0) (aC (aB 2) (aC (aB 1) aT)))) (eC .non))) (sM (aB 2)) mH) (l.map λq=>.int (q.2:Int)) [some (d7 M c n rs ms),some (.dK (cW F L)),G]=some (.rt (.int (p.2:Int))))/\(l.find? (λp=>L.all λq=>AB (rs.map (red M)) M ks p.1 q.1)=none->∃ρ',bV (aH 2) (jI (eM (aY GK (aQ bY (aC (aB 0) (aC (aB 2) (aC (aB 1) aT)))) (eC .non))) (sM (aB 2)) mH) (l.map λq=>.int (q.2:Int)) [some (d7 M c n rs ms),some (.dK (cW F L)),G]=some (.nx ρ')):=by
  generalize d7 M c n rs ms=bk at ss;generalize (D.dK (cW F L))=sd at ss;intro l;induction l with
  | nil=>exact λ_ G=>⟨λp z=>by simp[-zad,-zae,aA,aD]at z,λ_=>⟨_,rfl⟩⟩
  | cons q l ih=>
   intro W G;obtain⟨r,er,Y⟩:=ss q (W q (zau ..));obtain⟨i1,i2⟩:=ih (λa ha=>W a (zav _ ha)) (some (.int (q.2:Int)));rw[za8,zak,<- Y];cases hn:dZ r with
   | true=>
    refine⟨λp z=>?_,(λz=>nomatch z)⟩;cases z;exact wF (by ac_rfl)
   | false=>
    have st:turn (aH 2) (jI (eM (aY GK (aQ bY (aC (aB 0) (aC (aB 2) (aC (aB 1) aT)))) (eC .non))) (sM (aB 2)) mH) (.int (q.2:Int)) [some bk,some sd,G]=some (.nx [some bk,some sd,some (.int (q.2:Int))]):=by ac_rfl
    refine⟨λp z=>(iD st).trans (i1 p z),λz=>?_⟩;obtain⟨ρ',e⟩:=i2 z;exact⟨ρ',(iD st).trans e⟩
 obtain⟨l1,l2⟩:=N L (λ_ h=>h) none;have J:(D3 (aB 1)) (aL 3 [d7 M c n rs ms,.dK (cW F L)])=some (L.map λq=>.int (q.2:Int)):=by
  show some ((cW F L).map λp=>nX p.1)=_;unfold cW;rw[zaQ];rfl
 refine aN ?_;unfold qI;cases hf:L.find? (λp=>L.all λq=>AB (rs.map (red M)) M ks p.1 q.1)with
 | some p=>exact mB (by rw[q_for,J,aA];exact l1 p hf)
 | none=>
  obtain⟨ρ',e⟩:=l2 hf;refine(aG (by rw[q_for,J,aA];exact e)).trans ?_
  ac_rfl
theorem uU(B:Bok M n rs ms)(G:∀k∈ks,0<=k/\k<(n:Int))(q:ks.length=1\/ks.length=2):kS [d7 M c n rs ms,.str x,tupI ks]=some (uK (best (rs.map (red M)) M ks (near (rs.map (red M)) ms x ks))):=by
 obtain⟨F,e,h⟩:=uV (c:=c) B G (by lia) (x:=x);have J:=AZ (c:=c) B q (F:=F) (L:=near (rs.map (red M)) ms x ks) λp z=>by
  obtain⟨a,b,_,d⟩:=qP z;exact⟨a,b,(fits_of d).1.symm,h p z⟩
 exact aN (by simp_all[kL,aL,e,J])
theorem OW:uK (best R M ks L)=.non\/∃i:Int,uK (best R M ks L)=.int i:=by
 cases best R M ks L with
 | none=>exact .inl rfl
 | some p=>exact .inr ⟨_,rfl⟩
theorem WJ(ns:List Int)(hl:ns.length<=63):bA 15 K8 [.lst (ns.map .int)]=some (.bl true):=by
 obtain⟨f,hf⟩:=iC ns;obtain⟨M,c,n,rs,ms,eb,hM,hn,hr,hm,ab⟩:=AN ns;have vb:=R0 (c:=c) hM hn hr hm ab;have g:=SR hM.1 hr.1 hr.2;have vr:=xA g hn.2;have B:Bok M n rs ms:=⟨hM.1,hM.2.1,hn,g,λr h=>⟨(hr.2 r h).2.2.2.1,(hr.2 r h).2.2.2.2⟩,hm,ab⟩;have np:(0:Int)<(n:Int):=by lia
 refine aN ?_;unfold K8;rw[aG (ρ':=[some (.lst (ns.map .int)),some (.int M),some (.lst (dU c n)),some (.lst (rs.map bB)),some (.lst (ms.map bP)),none,none,none,none,none,none,none,none,none,none]) (by ac_rfl)];rw[aG (aO (d:=d7 M c n rs ms) (by ac_rfl))];rw[aG (aO (d:=bF n (RT (rs.map (red M)))) (by simp_all[eI,vr]))];have nn:=gZ (c:=f 28) (many:=3) (by decide) (by decide);have e3:(zaB (3:Int).toNat).map (λ(k:Nat)=>D.str (eO (f 28) (k:Int)))=[.str (eO (f 28) 0),.str (eO (f 28) 1),.str (eO (f 28) 2)]:=rfl;rw[e3]at nn;have bm:=hf 28 (by decide) (by decide);have hi:∃hi:Int,0<=hi/\hi<=200/\(aC (eC (.int 31)) (aC (aQ D4 (aC (eC (.int 39)) (aC (aQ EC (aC (aQ dA (aC (aB 0) aT)) (aC (eC (.int 60)) aT))) aT))) (aC (eC (.int 2)) aT))) [some (.lst (ns.map .int)),some (.int M),some (.lst (dU c n)),some (.lst (rs.map bB)),some (.lst (ms.map bP)),some (d7 M c n rs ms),some (bF n (RT (rs.map (red M)))),none,none,none,none,none,none,none,none]=some [.int 31,.int hi,.int 2]:=by
  refine⟨if(if(60:Int)<(ns.length:Int)then 60 else(ns.length:Int))>39 then(if(60:Int)<(ns.length:Int)then 60 else(ns.length:Int))else 39,by split <;> (try split) <;> lia,by split <;> (try split) <;> lia,?_⟩
  simp[-zad,-zae,aA,aD]
 obtain⟨hi,an,a5,al⟩:=hi;obtain⟨mm,er,am⟩:=EQ (a:=31) (b:=hi) (c:=2) (by decide) (by decide) (by decide) (by decide) an (by lia);refine cF (items:=aW 31 2 mm) (by rw[q_lR];exact(congrArg (λo=>zdC o gL) al).trans er) (λi ρ=>∃(o7 o8 o9 N q J G F:Option D),ρ=[some (.lst (ns.map .int)),some (.int M),some (.lst (dU c n)),some (.lst (rs.map bB)),some (.lst (ms.map bP)),some (d7 M c n rs ms),some (bF n (RT (rs.map (red M)))),o7,o8,o9,N,q,J,G,F]) ⟨none,none,none,none,none,none,none,none,rfl⟩ ?_ ?_
 ·rintro i y ρ hy ⟨o7,o8,o9,N,q,J,G,F,rfl⟩
  obtain⟨aj,rfl⟩:=bD hy;have hI:=am i aj;have ar:31<=(31:Int)+(i:Int)*2:=by lia
  generalize (31:Int)+(i:Int)*2=I at hI ar;have fI:=hf I (by lia) (by lia);have fJ:=hf (I+1) (by lia) (by lia);generalize f I=ce at fI;generalize f (I+1)=cf_ at fJ;have aa:∃x:Str,∀ {o9:Option D},jI (wN (eM (aY zS (aQ dA (aC (aB 4) aT)) (eC (.int 0)))) (eM (aY zS (aY dY (aB 8) (eC (.int 5))) (eC (.int 0))))) (bS 9 (aY aI (aY aI (aB 4) (aY dY (aY sZ (aB 8) (eC (.int 5))) (aQ dA (aC (aB 4) aT)))) (eC (.int 0)))) mH [some (.lst (ns.map .int)),some (.int M),some (.lst (dU c n)),some (.lst (rs.map bB)),some (.lst (ms.map bP)),some (d7 M c n rs ms),some (bF n (RT (rs.map (red M)))),some (.int I),some (.int ce),some (.str (eO (f 28) 2)),N,q,J,G,F]=some (.nx [some (.lst (ns.map .int)),some (.int M),some (.lst (dU c n)),some (.lst (rs.map bB)),some (.lst (ms.map bP)),some (d7 M c n rs ms),some (bF n (RT (rs.map (red M)))),some (.int I),some (.int ce),some (.str x),N,q,J,G,F]):=by
   generalize d7 M c n rs ms=bk;generalize bF n (RT (rs.map (red M)))=mt;by_cases c1:0<ms.length
   ·by_cases c2:0<ce%5
    ·have lp:(0:Int)<(ms.length:Int):=by lia
     have a0:=zax (ce/5) (zaX lp);have a1:=zay (ce/5) lp;have da:dY (.int (ce/5)) (.int (ms.length:Int))=some (.int (ce/5%(ms.length:Int))):=bI lp;obtain⟨m,a2,e1,_⟩:=VU (M:=M) (ms:=ms) a0 a1;exact⟨m.nm,by simp_all[c1,bI,c2,f9,da,e1,X4]⟩
    ·exact⟨eO (f 28) 2,by simp_all[c1,bI,c2]⟩
   ·exact⟨eO (f 28) 2,by simp_all[c1]⟩
  obtain⟨x,ex⟩:=aa;have kb:∀y:Int,0<=y%(n:Int)/\y%(n:Int)<(n:Int):=λy=>⟨zax _ (zaX np),zay _ np⟩
  have Y:∃ks:List Int,(ks.length=1\/ks.length=2)/\(∀k∈ks,0<=k/\k<(n:Int))/\∀ {o9 N q J G F:Option D},(LN j8 (fP (aC (aY dY (aY sZ (aB 8) (eC (.int 2))) (aQ dA (aC (aB 2) aT))) (aC (aY dY (aY sZ (aB 8) (eC (.int 12))) (aQ dA (aC (aB 2) aT))) aT))) sE (lK (aY cI (eC (.int 1)) (aY dY (aB 8) (eC (.int 2)))))) [some (.lst (ns.map .int)),some (.int M),some (.lst (dU c n)),some (.lst (rs.map bB)),some (.lst (ms.map bP)),some (d7 M c n rs ms),some (bF n (RT (rs.map (red M)))),some (.int I),some (.int cf_),o9,N,q,J,G,F]=some (tupI ks):=by
   generalize d7 M c n rs ms=bk;generalize bF n (RT (rs.map (red M)))=mt;by_cases c2:cf_%2=1
   ·refine⟨[cf_/2%(n:Int),cf_/12%(n:Int)],.inr rfl,λk hk=>?_,λ{o9 N q J G F}=>by simp_all[eI,f9,bI np,bI (show(0:Int)<2 by decide),c2,VE,tupI]⟩
    simp only[zaE,zaF,or_false]at hk;rcases hk with rfl|rfl <;> exact kb _
   ·have aq:cf_%2=0:=by lia
    refine⟨[cf_/2%(n:Int)],.inl rfl,λk hk=>?_,λ{o9 N q J G F}=>by simp_all[eI,f9,bI np,bI (show(0:Int)<2 by decide),aq,VE,tupI]⟩;rw[List.mem_singleton.mp hk];exact kb _
  obtain⟨ks,kl,W,as⟩:=Y;have v1:=sR B W (x:=x);have nm:=λp (U:p∈near (rs.map (red M)) ms x ks)=>qP U
  have nl:(near (rs.map (red M)) ms x ks).length<=100:=by
   unfold near;have:=zfb (λp:Mk×Nat=>decide (p.1.nm=x) && dM (rs.map (red M)) ks p.1.tk) ms.zipIdx;rw[zfc]at this
   lia
  have v2:=u6 B W kl (L:=near (rs.map (red M)) ms x ks) (λp U=>⟨(nm p U).1,(nm p U).2.1,(nm p U).2.2.2⟩) nl;have v3:=lS B (ks:=ks) (L:=near (rs.map (red M)) ms x ks) (λp U=>⟨(nm p U).1,(nm p U).2.1⟩);have v4:=uU (c:=c) B W kl (x:=x);have be:=OW (R:=rs.map (red M)) (M:=M) (ks:=ks) (L:=near (rs.map (red M)) ms x ks);generalize hbd:uK (best (rs.map (red M)) M ks (near (rs.map (red M)) ms x ks))=bd at v3 v4 be;refine⟨[some (.lst (ns.map .int)),some (.int M),some (.lst (dU c n)),some (.lst (rs.map bB)),some (.lst (ms.map bP)),some (d7 M c n rs ms),some (bF n (RT (rs.map (red M)))),some (.int I),some (.int cf_),some (.str x),some (tupI ks),some (.lst ((near (rs.map (red M)) ms x ks).map λp=>.int (p.2:Int))),some (.lst ((near (rs.map (red M)) ms x ks).map λp=>c9 (rs.map (red M)) M ks p.1)),some bd,some bd],?_,_,_,_,_,_,_,_,_,rfl⟩;refine turn_of (ρ1:=[some (.lst (ns.map .int)),some (.int M),some (.lst (dU c n)),some (.lst (rs.map bB)),some (.lst (ms.map bP)),some (d7 M c n rs ms),some (bF n (RT (rs.map (red M)))),some (.int I),o8,o9,N,q,J,G,F]) (by simp[-zad,-zae,aA,aD]) ?_;refine(aG (aO (d:=.int ce) (by ac_rfl))).trans ?_;refine(aG (aO (d:=.str (eO (f 28) 2)) (by ac_rfl))).trans ?_;refine(aG (ex (o9:=o9))).trans ?_;refine(aG (aO (d:=.int cf_) (by ac_rfl))).trans ?_;refine(aG (aO (d:=tupI ks) as)).trans ?_;generalize (near (rs.map (red M)) ms x ks).map (λp=>c9 (rs.map (red M)) M ks p.1)=tb at v2 v3 ⊢;generalize (near (rs.map (red M)) ms x ks).map (λp=>D.int (p.2:Int))=nr at v1 v2 v3 ⊢;generalize tupI ks=tk at v1 v2 v4 ⊢;generalize d7 M c n rs ms=bk at v4 ⊢;generalize bF n (RT (rs.map (red M)))=mt at v1 v2 v3 ⊢;refine(aG (aO (d:=.lst nr) (by ac_rfl))).trans ?_;refine(aG (aO (d:=.lst tb) (by ac_rfl))).trans ?_;refine(aG (aO (d:=bd) (by ac_rfl))).trans ?_;refine(aG (aO (d:=bd) (by ac_rfl))).trans ?_;rcases be with rfl|⟨z,rfl⟩
  ·ac_rfl
  ·have i1:wO "int" (D.int z)=true:=rfl
   have i2:wO "bool" (D.int z)=false:=rfl
   ac_rfl
 ·rintro ρ ⟨o7,o8,o9,N,q,J,G,F,rfl⟩
  simp[-zad,-zae,aA,aD]
theorem ZP:Bds top tab:=by
 unfold tab
 repeat (refine Bds.cons ?_ ?_;· (repeat intro _);rfl)
 exact Bds.nil
theorem UQ{l:zeX}{w:World}{K:zaf}{h:Heap}{mg:Str->Option Value}{fa:Addr}{k:Nat}(X:K.In h)(G:h.Ns za1 mg)(ah:mg "law" = some (.ref fa))(D:Des K top tab)(B:Nos K blt)(J:Gis K qj)
  {f0:Addr} {ak ad:Option Addr} {al:Array (Option Value)} {ai ae af ac ab ag:Value} (a0:zcy K za1 "law" = some (some (.ref f0))) (l0:K.lookup f0=some ⟨ai,ak,.func (zbI "law" "law" (dP s_law) (b9 s_law) (aU s_law) .none ae af ac ad ab ag),al⟩) (c0:zcV K ab "law" = true) (k0:zcs K (.ref f0)=true)
  {q:Addr} {aa:Option Addr} {U:Nat} {Y:Array (Option Value)} {M z F N:Tok} (gaWORDS:zcy K za1 "WORDS" = some (some (.ref q))) (glWORDS:K.lookup q=some ⟨.type "tuple",aa,.seq #[.str "let" M,.str "in" z,.str "pick" F,.str "again" N] U,Y⟩)
  (ok:∀base:Heap,K.In base->base.Ns za1 mg->Txt K mg->My.BodyOk l.prog w K mg base "law" s_law ["script", "M", "kinds", "roads", "makes", "made", "reach", "k", "cell", "name", "some", "near", "tables", "due", "found"] k (My.zP K)) :
  ∃fd:zbr,(∀(s:zab) (v:Value),BindsTo s fd ⟨[v],[]⟩ [("script",v)])/\∀base:Heap,K.In base->base.Ns za1 mg->FnOk l.prog w K mg base GN (k+1) fa fd ["script"] (My.zP K):=by
 have e:=ah.symm.trans (zeF X G a0);cases e;have F0:=KU (st:=s_law) l0 c0 k0;have T:Txt K mg:=⟨Des.d X G D ZP,λx hx=>PySem.W.mg_none_of X G (B x hx),Gis.d X G J,⟨⟨_,zeF X G gaWORDS,_,_,_,glWORDS,rfl,rfl,by show 4<=zaj;decide,.cons ⟨_,rfl⟩ (.cons ⟨_,rfl⟩ (.cons ⟨_,rfl⟩ (.cons ⟨_,rfl⟩ (.nil))))⟩⟩⟩;refine⟨zbI "law" "law" (dP s_law) (b9 s_law) (aU s_law) .none ae af ac ad ab ag,λs v=>.of_eq rfl,λbase kb nb=>?_⟩;exact(ok base kb nb T).fn F0 sc_law (λvs H Q E h=>by obtain⟨a,ns,e,_⟩:=h;rw[e];rfl)
end Law
namespace PySem.W.Fast
theorem tw12381912692769886487:0=0:=rfl
theorem tw9272602512245998523:0=0:=rfl
theorem tw17831115041313891701:0=0:=rfl
theorem tw3327770652065206831:0=0:=rfl
theorem tw11160841032499331082:0=0:=rfl
theorem tw14301548144803750668:0=0:=rfl
theorem tw16634366778827455028:0=0:=rfl
theorem tw14987253662483081007:0=0:=rfl
theorem tw6864519451136943478:0=0:=rfl
theorem tw17033888890183709395:0=0:=rfl
theorem tw16012175338349795187:0=0:=rfl
theorem tw15364184178083596631:0=0:=rfl
theorem tw7797123127485380980:0=0:=rfl
theorem tw9064801053025004851:0=0:=rfl
theorem tw7705618143081221559:0=0:=rfl
theorem tw14094076654361942147:0=0:=rfl
theorem tw305982658123072120:0=0:=rfl
theorem tw4255044757074336824:0=0:=rfl
theorem tw15686982794391303632:0=0:=rfl
theorem tw12189871555943035262:0=0:=rfl
theorem tw5581869453035229277:0=0:=rfl
theorem tw11422147221541777529:0=0:=rfl
theorem tw2120161749350366442:0=0:=rfl
theorem tw5521274685159997226:0=0:=rfl
theorem tw1902664253499306867:0=0:=rfl
theorem tw17651196492765639454:0=0:=rfl
theorem tw10855991093319938292:0=0:=rfl
theorem tw5460672758335545983:0=0:=rfl
theorem tw17829647557921892020:0=0:=rfl
theorem tw262204774987811209:0=0:=rfl
theorem tw3742083077555713477:0=0:=rfl
theorem tw15387543432517895494:0=0:=rfl
theorem tw15193375490696417167:0=0:=rfl
theorem tw13961890649172315646:0=0:=rfl
theorem tw3076050660314984790:0=0:=rfl
theorem tw3268117645654820200:0=0:=rfl
theorem tw12612156801216065979:0=0:=rfl
theorem tw16827346745004304414:0=0:=rfl
theorem tw5132161817802625679:0=0:=rfl
theorem tw9006608140442035013:0=0:=rfl
theorem tw13652481839891324319:0=0:=rfl
theorem tw8285181162938846517:0=0:=rfl
theorem tw13984291395104934101:0=0:=rfl
theorem tw17792258860517214973:0=0:=rfl
theorem tw12193347203118793080:0=0:=rfl
theorem tw3899219899031745398:0=0:=rfl
theorem tw11007894324822391986:0=0:=rfl
theorem tw2217882711564086893:0=0:=rfl
theorem tw15659011620230248787:0=0:=rfl
theorem tw9500352641781445951:0=0:=rfl
theorem tw18206252690308797446:0=0:=rfl
theorem tw6371961683509772697:0=0:=rfl
theorem tw3485604432728742:0=0:=rfl
theorem tw9805117623953497531:0=0:=rfl
theorem tw13088289418097079193:0=0:=rfl
theorem tw8301955773015639040:0=0:=rfl
theorem tw6392912993372511544:0=0:=rfl
theorem tw16084135837538428305:0=0:=rfl
theorem tw6004235247688111423:0=0:=rfl
theorem tw16725634653583362419:0=0:=rfl
theorem tw11419151488781684458:0=0:=rfl
theorem tw13897106316871389894:0=0:=rfl
theorem tw15081073685431779308:0=0:=rfl
theorem tw7178065143217859567:0=0:=rfl
theorem tw12267069331518330703:0=0:=rfl
theorem tw7689596015630395026:0=0:=rfl
theorem tw7160055564565273369:0=0:=rfl
theorem tw4320757326535022317:0=0:=rfl
theorem tw12753110157718218258:0=0:=rfl
theorem tw4197500924101200636:0=0:=rfl
theorem tw9609800077929291002:0=0:=rfl
theorem tw8839218406567980531:0=0:=rfl
theorem tw15455152842070388822:0=0:=rfl
theorem tw15369620364783413119:0=0:=rfl
theorem tw1001064914121356927:0=0:=rfl
theorem tw16948599077999038800:0=0:=rfl
theorem tw7292256134159950874:0=0:=rfl
theorem tw15654886322975754102:0=0:=rfl
theorem tw11137337319281390508:0=0:=rfl
theorem tw16674332125025347517:0=0:=rfl
theorem tw16641266236096567641:0=0:=rfl
theorem tw2537032535836413160:0=0:=rfl
theorem tw16451736000331645479:0=0:=rfl
theorem tw7483615608179485266:0=0:=rfl
theorem tw249388766614297033:0=0:=rfl
theorem tw15156867227907140136:0=0:=rfl
theorem tw15599910601561812814:0=0:=rfl
theorem tw6666937766274058509:0=0:=rfl
theorem tw3914727482410082867:0=0:=rfl
theorem tw10143293727262845697:0=0:=rfl
theorem tw1571462613371428790:0=0:=rfl
theorem tw9849474481422961503:0=0:=rfl
theorem tw17357726772492159767:0=0:=rfl
theorem tw15878640935701671288:0=0:=rfl
theorem tw1845936445713755662:0=0:=rfl
theorem tw3024834042555666484:0=0:=rfl
theorem tw4887168898497816167:0=0:=rfl
theorem tw738702630687705974:0=0:=rfl
theorem tw1511681766733303578:0=0:=rfl
theorem tw5216208754329045215:0=0:=rfl
theorem tw11044398474465917577:0=0:=rfl
theorem tw16541023593198303232:0=0:=rfl
theorem tw14310667929854223153:0=0:=rfl
theorem tw12877016587403334693:0=0:=rfl
theorem tw16403836619383574123:0=0:=rfl
theorem tw16601805731549677128:0=0:=rfl
theorem tw17768512692276794945:0=0:=rfl
theorem tw9677632577453145474:0=0:=rfl
theorem tw11700375358575926771:0=0:=rfl
theorem tw14041976192582738073:0=0:=rfl
theorem tw7286010698446581363:0=0:=rfl
theorem tw17188070636240015578:0=0:=rfl
theorem tw14831167202968040166:0=0:=rfl
theorem tw14428196361736221329:0=0:=rfl
theorem tw12703844743614796687:0=0:=rfl
theorem tw13077678232735331549:0=0:=rfl
theorem tw14869961185809773714:0=0:=rfl
theorem tw4805433699165914839:0=0:=rfl
theorem tw14284225507153136027:0=0:=rfl
theorem tw17929846880844202313:0=0:=rfl
theorem tw14501496671723315512:0=0:=rfl
theorem tw9586930994178029648:0=0:=rfl
theorem tw1201993492650033807:0=0:=rfl
theorem tw3540746246505161644:0=0:=rfl
theorem tw4188948753005993986:0=0:=rfl
theorem tw2286134607648702710:0=0:=rfl
theorem tw17408026116196345358:0=0:=rfl
theorem tw16479700886224893598:0=0:=rfl
theorem tw6010480591634037339:0=0:=rfl
theorem tw6600368981352331233:0=0:=rfl
theorem tw3856242052003984449:0=0:=rfl
theorem tw712933467784972340:0=0:=rfl
theorem tw5512858319014550788:0=0:=rfl
theorem tw17520453753301840863:0=0:=rfl
theorem tw8482115974708171609:0=0:=rfl
theorem tw10868979918781708620:0=0:=rfl
theorem tw4666736333505673121:0=0:=rfl
theorem tw18405286892596427228:0=0:=rfl
theorem tw480497693747537654:0=0:=rfl
theorem tw14848492715390859808:0=0:=rfl
theorem tw7157536007669540538:0=0:=rfl
theorem tw6920518138232017340:0=0:=rfl
theorem tw15147961885271667786:0=0:=rfl
theorem tw6821950302439064281:0=0:=rfl
theorem tw6987602577336235458:0=0:=rfl
theorem tw332326496162280942:0=0:=rfl
theorem tw2718639825645943414:0=0:=rfl
theorem tw2946977244216226698:0=0:=rfl
theorem tw6610132018388904038:0=0:=rfl
theorem tw18360098225791756458:0=0:=rfl
theorem tw13860986822829033945:0=0:=rfl
theorem tw10361319858808356745:0=0:=rfl
theorem tw8811549404881170167:0=0:=rfl
theorem tw16897569206584984565:0=0:=rfl
theorem tw9217588096857781719:0=0:=rfl
theorem tw16485466243818929599:0=0:=rfl
theorem tw9590257790952297619:0=0:=rfl
theorem tw414280938231123571:0=0:=rfl
theorem tw13877472499866555824:0=0:=rfl
theorem tw5505246476739974967:0=0:=rfl
theorem tw16145319192213862578:0=0:=rfl
theorem tw2306664491064802070:0=0:=rfl
theorem tw7601022266258074814:0=0:=rfl
theorem tw2285950590792313940:0=0:=rfl
theorem tw798863349302125246:0=0:=rfl
theorem tw18310063906066281666:0=0:=rfl
theorem tw6952443090630388689:0=0:=rfl
theorem tw7977867281025809883:0=0:=rfl
theorem tw17829035144840262019:0=0:=rfl
theorem tw12326210731219500171:0=0:=rfl
theorem tw4677201018556747270:0=0:=rfl
theorem tw3674009847502879509:0=0:=rfl
theorem tw12567015555307396360:0=0:=rfl
theorem tw1933110081135946126:0=0:=rfl
theorem tw8266063839651160980:0=0:=rfl
theorem tw12347171408406022103:0=0:=rfl
theorem tw7595710878856753749:0=0:=rfl
theorem tw7401903282746956520:0=0:=rfl
theorem tw7340126158435498055:0=0:=rfl
theorem tw15524111047437002110:0=0:=rfl
theorem tw15650855511794288903:0=0:=rfl
theorem tw9510223897763652504:0=0:=rfl
theorem tw12268488760581607539:0=0:=rfl
theorem tw12058210227069900777:0=0:=rfl
theorem tw14204453576677791396:0=0:=rfl
theorem tw9838400335283925231:0=0:=rfl
theorem tw10544081661439145124:0=0:=rfl
theorem tw1051532932650036611:0=0:=rfl
theorem tw17792427976502518672:0=0:=rfl
theorem tw17021465572341696405:0=0:=rfl
theorem tw14033636550452309661:0=0:=rfl
theorem tw862155761455400622:0=0:=rfl
theorem tw5867207394454061656:0=0:=rfl
theorem tw210400164850909008:0=0:=rfl
theorem tw3309545205686719001:0=0:=rfl
theorem tw18313494842835574193:0=0:=rfl
theorem tw7002118417682486187:0=0:=rfl
theorem tw14341101242096563294:0=0:=rfl
theorem tw9387671283143388606:0=0:=rfl
theorem tw12182696461242146106:0=0:=rfl
theorem tw9943032369678706629:0=0:=rfl
theorem tw3557864539320664909:0=0:=rfl
theorem tw12678517334083423726:0=0:=rfl
theorem tw14196773393617866431:0=0:=rfl
theorem tw10785083918986641836:0=0:=rfl
theorem tw4355081878468548812:0=0:=rfl
theorem tw16471807798965229155:0=0:=rfl
theorem tw14418062560510697907:0=0:=rfl
theorem tw2192340387663174254:0=0:=rfl
theorem tw4774635244168763103:0=0:=rfl
theorem tw12422025014825811962:0=0:=rfl
theorem tw5158790888410245570:0=0:=rfl
theorem tw6955156425021720322:0=0:=rfl
theorem tw6455063718579633069:0=0:=rfl
theorem tw11456772094613380495:0=0:=rfl
theorem tw8656251507674629736:0=0:=rfl
theorem tw9008831280789301613:0=0:=rfl
theorem tw9398600012161194799:0=0:=rfl
theorem tw17069198315891929198:0=0:=rfl
theorem tw3112927883367158183:0=0:=rfl
theorem tw16855411098005535057:0=0:=rfl
theorem tw11212717057039419735:0=0:=rfl
theorem tw14475907078734472439:0=0:=rfl
theorem tw16471065429677787640:0=0:=rfl
theorem tw11284981258472000634:0=0:=rfl
theorem tw3555567887636039807:0=0:=rfl
theorem tw7387450037780027853:0=0:=rfl
theorem tw3252751175044550781:0=0:=rfl
theorem tw11551612781762684338:0=0:=rfl
theorem tw8748762016729807791:0=0:=rfl
theorem tw1436055670207349049:0=0:=rfl
theorem tw554038388317554521:0=0:=rfl
theorem tw5147104923756158631:0=0:=rfl
theorem tw14010546187138573521:0=0:=rfl
theorem tw10330351277495963485:0=0:=rfl
theorem tw10719505735112083482:0=0:=rfl
end PySem.W.Fast
open PySem PySem.W PyProof.Rows
set_option maxRecDepth 100000 in
set_option maxHeartbeats 0 in
theorem PySem.Challenge.cw_chiefway_k25_chief_makes_holds : PySem.Challenge.rw_chiefway_k25_chief_makes.Holds := by
 w_on;o_law;k_head;(case hw=>w_witness2)
 k_fill
 refine My.walk (l:=PySem.Challenge.rw_chiefway_k25_chief_makes) (k:=9) (by decide) rfl rfl (λw h Y=>PySem.W.kIn_of Y) ?F
 case F=>
  intro w mg N h U G z;refine' Law.UQ (k:=8) U G z ?D ?B ?J ?a0 ?l0 ?c0 ?k0 ?gaWORDS ?glWORDS ?ok
  (case D=>unfold Law.tab;(repeat (apply P.Des.cons;(case a=>k_is);(case l=>k_is);(case c=>k_is);(case k=>k_is)));exact P.Des.nil)
  (case B=>unfold Law.blt;(repeat (apply P.Nos.cons;(case a=>k_is)));exact P.Nos.nil)
  (case J=>unfold Law.qj;(repeat (apply P.Gis.cons;(case a=>k_is)));exact P.Gis.nil)
  (case a0=>k_is)
  (case l0=>k_is)
  (case c0=>k_is)
  (case k0=>k_is)
  (case gaWORDS=>k_is)
  (case glWORDS=>k_is)
  (case ok=>exact λbase kb nb T=>P.SJ (f:=Law.K8) (O':=[]) rfl (λN M A q s H E hr=>Law.P3.2 T N M A q s H E hr) Law.WJ)
