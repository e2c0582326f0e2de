import PyProof.Rows.All
import OpenK.KLine
import OpenK.KWalk
import OpenK.KMake
import OpenK.KGet
import OpenK.KCall
import OpenK.KDescr
import OpenK.Peek
import Wide.Line
import Wide.BytesRules
import Wide.ObjOpen
import KE.KDictOf
import KE.KIsAll
import KE.KItem
import KE.KRevIter
import KE.KUnpack
import KE.KEqDict
import PyProof.EqAt
import PyProof.EqKinds
import PyProof.TupleCall
import KE.KSortAsk
import KE.KSortTup
import KE.KItemsList
import KE.KMinKey
import PySem.Challenge.RW_chiefway_k26_makes_that_fall_short
set_option compiler.extract_closed false
set_option bootstrap.genMatcherCode false
set_option genSizeOf false
set_option tactic.hygienic false
set_option autoImplicit true
set_option relaxedAutoImplicit true
noncomputable section
set_option Elab.async false
set_option linter.all false
set_option maxRecDepth 100000
local macro_rules(kind:=«term{_}»)|`({$xs,*})=>`(⟨$xs,*⟩)
open Option renaming some → b4, none → cg
open Bool renaming true → cp, false → cr
def cw:=@if_pos
def cx:=@if_neg
open PySem renaming wpAny_bind → zaa, Shared → zab, wpAny_pure → zac, starEach → zah, sizeLine → zal, Program → zap, compareOp → zar, Around → zas, wpAny_field → zaE, backTo → zaJ, pyNext → zaL, bootBuiltins → zaO, rawInt → zaP, Paired → zaV, binaryOp → zaW, wpAny_setField_rec → zaY, mainGlobals → za3, tupleKind → za4, wpAny_seqItems → za6, swapsWith → za7, sysModules → za9, wpAny_mono → zbb, Builtin → zbc, wpAny_call_entry → zbd, assignEach → zbh, IsPair → zbk, wpAny_holding → zbn, wpAny_newObj_type → zbq, assign → zbs, FuncData → zbt, codeAny → zbu, wpAny_callSpecial?_slot → zbw, wpAny_letGo → zbx, wpAny_truthy_bool → zbz, DictEntry → zbD, plainId_quiet → zbE, Keyword → zbH, wpAny_loadPart' → zbL, relabel → zbO, wpAny_pyIter_tuple → zbS, foldedSetIterable → zbT, wpAny_rule → zbV, IsEnum → zbW, NameKind → zbY, IsPart → zb0, getItem → zb1, sliceBounds → zb2, wpAny_dictEntries → zb3, wpAny_attempt → zb4, wpAny_onRaise → zb8, wpAny_pyIter_list → zcd, behindInMarks → zcf, sizeLine_eq → zcg, call_meets → zci, codeAny_builtin → zcl, holding → zcr, wpAny_typeOf → zcu, wpAny_updateSeq → zcx, wpAny_passesOwn → zcB, backToKw → zcE, keywordEach → zcF, cellsFrom → zcG, typeIs_int → zcI, attributeBase → zcJ, valueAt → zcL, callerA → zcN, wpAny_dictEpoch → zcP, updateSeq → zcQ, wpAny_tryCatch → zcS, PassesOwn → zcU, lastMarks → zcV, tupleKind_room_in1 → zcZ, setField → zc7, firstArgMember → zc8, wpAny_isInstance → zc9, wpAny_newTuple → zda, wpAny_standAt → zdj, mem_of_lookup → zdl, wpAny_setField → zdr, wpAny_of_eq → zdt, isSubtype_stop → zdu, seqItems? → zdy, wpAny_execs_nil → zdH, swapsWithSole → zdI, swappedStores → zdJ, letOwnedTupleGo → zdK, IsRangeIter → zdL, codeAny_mono → zdP, wpAny_Call_Name_kw → zdQ, subscripted → zdU, call_meetsIn → zdY, wpAny_notOrdered_dict → zd1, wpAny_typeNameOfWhole_keyiter → zd3, wpAny_typeNameOf_keyiter → zd4, wpAny_fieldsOf → zd5, wpAny_typeNameOfWhole_itemiter → zea, wpAny_typeNameOf_itemiter → zeb, wpAny_newList → zee, callType_new → zen, wpAny_pyIter_zip → zeo, getattributeRaised → zeB, wpAny_forIn_list → zeP, noFill_tuple_add → zeR, wpAny_specialOf → zeZ, wpAny_isOneOf_itemiter → ze5, wpAny_updateSeq_pair → ze8
open Option renaming bind_some → zad, map_some → zae, isSome_map → zdX, bind → zes
open PySem.W renaming Frag → zaf, kia_one → zbA, fnOf → zbK, keepIn → zct, nsIn → zcz, codeIn → zcX, kitOne → zdk, kitx_dict → zdN, kitAny → zeC, mg_of → zeG, instObj → zeJ, methodObj → zeK, OpenLaw → ze2
open PySem.Heap renaming get?_push_of_some → zag, lt_size → zai, get?_push_size → zau, SameBut → zaT, size_push → zbm, get?_update_other → zbM, get?_update_self → zbU, ExtBut → zds, IsTuple → zdA, IsList → zem
open List renaming length_map → zaj, map_cons → zak, getElem?_map → zaq, range → zav, mem_cons_self → zaw, mem_cons_of_mem → zax, mem_of_getElem? → zaA, size_toArray → zaC, mem_cons → zaF, not_mem_nil → zaG, getElem?_eq_getElem → zaH, map_map → zaI, replicate → zaQ, length_cons → zaU, find?_cons → za0, map_append → za5, take_add_one → zbl, length_append → zbp, take_length → zbr, map_nil → zbB, any_cons → zbC, mem_append_right → zbG, length → zbI, length_take → zbJ, length_nil → zbZ, all_cons → zch, append_nil → zcs, replicate_succ → zcv, foldl_cons → zcw, flatten_cons → zcK, all_eq_true → zcO, getElem_inj → zcT, getElem?_append_left → zcW, zip_cons_cons → zcY, nodup_nil → zc0, getD → zc3, zipIdx_cons → zdc, map_congr_left → zdf, sum_cons → zdg, eq_of_mem_replicate → zdh, mem_append_left → zdi, ext_getElem → zdn, toArray → zdo, getElem_mem → zdw, nodup_cons → zdx, forIn_cons → zdz, lookup_cons → zdB, getElem?_set_ne → zdG, filter_cons → zdW, foldl_append → zeg, zipIdx_nil → zek, forIn_nil → zel, drop_eq_getElem_cons → zep, mem_map_of_mem → zeD, forall_mem_cons → zeF, mem_of_find?_eq_some → zeI, filterMap_cons → zeL, of_mem_zip → zeN, getElem?_append_right → zeO, length_drop → zeW, nil_append → ze9, find?_append → zfa, filter_cons_of_neg → zfd, length_filter_le → zfg, length_zipIdx → zfh, filter_nil → zfi
open Nat renaming le_refl → zam, ne_of_lt → zaB, ne_of_gt → zaK, zero_le → za1, lt_of_lt_of_le → zba, lt_irrefl → zbe, le_trans → zbf, lt_trans → zcM, zero_add → zcR, lt_succ_self → zde, lt_of_le_of_lt → zdm, le_of_lt → zdF, not_lt_zero → ze1, le_of_ble_eq_true → zfe
open Sum renaming inl → zan, inr → zcA
open PySem.Value renaming ref → zao, none → zaN, bool → zcb, type → zcq, notImplemented → zeQ
open Bool renaming false_ne_true → zat, and_eq_true → zaM, false_eq_true → zb5, eq_iff_iff → zcD, eq_false_iff → zc2, not_eq_true → zdC, and_true → zd0, or_eq_true → zeq, beq_eq_decide_eq → ze3
open Int renaming emod_nonneg → zay, emod_lt_of_pos → zaz, dvd_add → zaR, ne_of_gt → zaX, mul_one → zbR, le_of_lt → zbX, toNat_natCast → zb6, pow_succ → zca, pow_add → zdD, pow_zero → zdE, add_emod → zet, mul_emod → zeu, emod_emod_of_dvd → zew, dvd_refl → zex, mul_assoc → zey, le_refl → zez, dvd_mul_of_dvd_left → zeE, eq_ofNat_of_zero_le → zeH, ediv_nonneg → ze4, dvd_self_sub_emod → zfc
open Option.some renaming inj → zaD
open Ne renaming symm → zaS
open PySem.Str renaming ofString → zaZ
open PyProof.Rows renaming seqObj → za2, IntsAre → za8, envOfC → zbo, kindOf → zbv, AllBare → zcc, callWith_type1 → zcC, slot_tuple_getitem → zdS
open Array renaming length_toList → zbg, getD → zc6, getElem?_toList → zdb, getElem?_eq_getElem → zd6
open True renaming intro → zbi
open PySem.Obj renaming mapSeq → zbj, data_mapFields → zd7
open PySem.Builtin.SmallTypes renaming nextOf → zby, ownedTupleIsFree → zb7, ownedTupleHandOut → zdd
open False renaming elim → zbF
open Or renaming inl → zbN, inr → zcj
open PySem.Shared renaming heap → zbP, TypeIs → zec
open PySem.Paired renaming length → zbQ
open ToString renaming toString → zb9
open PySem.Builtin.Range renaming rangeSize → zce, small → zc4
open PySem.Heap.SameBut renaming update → zck, refl → ze6
open PySem.Around renaming under_plainId → zcm
open PySem.NameKind renaming free → zcn
open Classical renaming propDecidable → zco
open PySem.F renaming plain_max_loop → zcp, slot_zip_next → zcy, slot_dict_get → zc1, plain_extend_loop → zdv, entry_dict_get → zdZ, slot_dict_keyiterator_next → zd2, slot_dict_itemiterator_next → zd9, slot_tuple_iterator_next → zeh, entry_zip_next → zei, args_zip_next_1 → zej, slot_enumerate_next → zer, slot_tuple_add → zeS, entry_tuple_add → zeT, args_tuple_add_2 → zeU, plainAttrs_dict → ze0, entry_max_loop → zfb, plainAttrs_list → zff, entry_dict_keyiterator_next → zfk, args_dict_keyiterator_next_1 → zfl, entry_dict_itemiterator_next → zfm, args_dict_itemiterator_next_1 → zfn, slot_dict_items_iter → zfo, entry_tuple_iterator_next → zfq, args_tuple_iterator_next_1 → zfr
open PySem.SeqAt renaming EqAt → zcH
open ForInStep renaming yield → zc5
open PySem.Builtin.Dict renaming showsAll → zdp, updateFrom → zef
open PySem.Builtin.Dict_items renaming ownsTuple → zdq, pairFromOwner → zd8, ownedTupleIsFree → zed, ownedTupleFields → zfp
open PySem.Builtin.Str renaming occurrences → zdM
open PySem.Calls renaming spliced_cons → zdO, callWith_builtin → zdV, spliced_nil → zeM, evalArgs_plain → zeX
open PySem.Builtin.Slice renaming slicePlaces → zdR, sliceAdjust → zeV
open PySem.Builtin.Tuple renaming tupleExact → zdT, tupleCompareSizes → zfj
open PySem.Builtin.Builtins renaming bindParams → zeA
open PySem.Builtin.List renaming listTooLong → zeY, listExtendWith → ze7
noncomputable section
namespace L2
open PySem PySem.Spec PyProof.Rows
abbrev Key:=Sum Int Str
def pQ:Key->Value->Bool
 |.inl k,v=>Value.isInt k v
 |.inr x,v=>Value.isStrOf x v
def qbb(w:World):Key->Int
 |.inl k=>hashInt k
 |.inr x=>hashStr w x
def bT:∀ {k:Key} {v:Value},pQ k v=cp->(∃i t,k=zan i/\v=Value.int i t)\/(∃x t,k=zcA x/\v=Value.str x t)
 |.inl i,v,h=>by
  obtain⟨t,e⟩:=Value.isInt_shape (k:=i) (v:=v) h;exact .inl {i,t,rfl,e}
 |.inr x,v,h=>by
  obtain⟨t,e⟩:=Value.isStrOf_shape (x:=x) (v:=v) h;exact .inr {x,t,rfl,e}
def IX(i:Int)(t:Tok):pQ (.inl i) (.int i t)=cp:=by simp[pQ,Value.isInt]
def IT(x:Str)(t:Tok):pQ (.inr x) (.str x t)=cp:=by simp[pQ,Value.isStrOf]
def VR(a b:Int):decide ((zan a:Key)=zan b)=(a == b):=by
 by_cases e:a=b
 .subst e;simp
 .have h:¬ (zan a:Key)=zan b:=λq=>e (Sum.inl.inj q)
  rw[decide_eq_false h];exact(beq_eq_false_iff_ne.mpr e).symm
def TX(a b:Str):decide ((zcA a:Key)=zcA b)=decide (a=b):=by
 by_cases e:a=b
 .subst e;simp
 .have h:¬ (zcA a:Key)=zcA b:=λq=>e (Sum.inr.inj q)
  rw[decide_eq_false h,decide_eq_false e]
def V7(a:Int)(b:Str):decide ((zan a:Key)=zcA b)=cr:=decide_eq_false λq=>nomatch q
def WG(a:Str)(b:Int):decide ((zcA a:Key)=zan b)=cr:=decide_eq_false λq=>nomatch q
def aT(prog:zap)(w:World):PySem.KeyKind prog w Key where
 is:=pQ
 hash:=qbb w
 inj:=λv a b F z=>by
  rcases bT F with⟨i,t,rfl,rfl⟩|⟨x,t,rfl,rfl⟩
  .rcases bT z with⟨j,u,rfl,e⟩|⟨y,u,rfl,e⟩
   .injection e with e1 _;rw[e1]
   .exact nomatch e
  .rcases bT z with⟨j,u,rfl,e⟩|⟨y,u,rfl,e⟩
   .exact nomatch e
   .injection e with e1 _;rw[e1]
 byValue:=λk v h=>by
  rcases bT h with⟨i,t,rfl,rfl⟩|⟨x,t,rfl,rfl⟩ <;> rfl
 pyHash:=λq h=>by
  rcases bT q with⟨i,t,rfl,rfl⟩|⟨x,t,rfl,rfl⟩
  .exact wpAny_pyHash_int h
  .exact wpAny_pyHash_str h
 eqBool:=λB q h=>by
  rcases bT B with⟨i,t,rfl,rfl⟩|⟨x,t,rfl,rfl⟩
  .rcases bT q with⟨j,u,rfl,rfl⟩|⟨y,u,rfl,rfl⟩
   .rw[VR]at h;exact wpAny_eqBool_int h
   .rw[V7]at h;exact SeqAt.EqAt.int_str i t y u _ _ _ _ h
  .rcases bT q with⟨j,u,rfl,rfl⟩|⟨y,u,rfl,rfl⟩
   .rw[WG]at h;exact SeqAt.EqAt.str_int x t j u _ _ _ _ h
   .rw[TX]at h;exact wpAny_eqBool_str h
 «strs»:=λk x t v h=>by
  rcases bT h with⟨i,u,rfl,e⟩|⟨y,u,rfl,e⟩
  .exact nomatch e
  .injection e with e1 _
   subst e1;cases v <;> rfl
def y8(prog:zap)(w:World)(i:Int)(t:Tok):(aT prog w).is (.inl i) (.int i t)=cp:=IX i t
def y6(prog:zap)(w:World)(x:Str)(t:Tok):(aT prog w).is (.inr x) (.str x t)=cp:=IT x t
inductive V where
 | non|bl (b:Bool)|int (i:Int)|str (x:Str)|byt (b:Array UInt8)|flt (b:UInt64)|ref (a:Addr)|ty (n:String)
 deriving DecidableEq
def RelV:V->Value->Prop
 |.non,u=>u=zaN
 |.bl b,u=>u=zcb b
 |.int i,u=>∃t,u=Value.int i t
 |.str x,u=>∃t,u=Value.str x t
 |.byt b,u=>∃t,u=Value.bytes b t
 |.flt b,u=>∃t,u=Value.float b t
 |.ref a,u=>u=zao a
 |.ty n,u=>u=zcq n
abbrev Vals:List V->List Value->Prop:=zaV RelV
theorem Vals.length(r:Vals xs us):xs.length=us.length:=zbQ r
theorem Vals.get:∀ {xs:List V} {us:List Value} {i:Nat} {x:V},Vals xs us->xs[i]?=b4 x->∃u,us[i]?=b4 u/\RelV x u
 |_,_,_,_,.nil,e=>by simp at e
 |_,_,0,_,.cons r _,e=>by simp at e;subst e;exact{_,rfl,r}
 |_,_,i+1,x,.cons _ t,e=>by
  obtain⟨u,h1,h2⟩:=Vals.get (i:=i) (x:=x) t (by simpa using e);exact{u,by simpa using h1,h2}
theorem Vals.set(r:RelV x u):∀ {xs:List V} {us:List Value} (i:Nat),Vals xs us->Vals (xs.set i x) (us.set i u)
 |_,_,_,.nil=>.nil
 |_,_,0,.cons _ t=>.cons r t
 |_,_,i+1,.cons q t=>.cons q<|Vals.set r i t
theorem Vals.append:∀ {xs ys:List V} {us ws:List Value},Vals xs us->Vals ys ws->Vals (xs++ys) (us++ws)
 |_,_,_,_,.nil,s=>s
 |_,_,_,_,.cons r t,s=>.cons r<|Vals.append t s
theorem Vals.take:∀ {xs:List V} {us:List Value} (n:Nat),Vals xs us->Vals (xs.take n) (us.take n)
 |_,_,0,_=>.nil
 |_,_,_+1,.nil=>.nil
 |_,_,n+1,.cons r t=>.cons r<|Vals.take n t
theorem Vals.drop:∀ {xs:List V} {us:List Value} (n:Nat),Vals xs us->Vals (xs.drop n) (us.drop n)
 |_,_,0,r=>r
 |_,_,_+1,.nil=>.nil
 |_,_,n+1,.cons _ t=>Vals.drop n t
def RelO:Option V->Option Value->Prop
 |some v,b4 u=>RelV v u
 |none,cg=>True
 |_,_=>False
def KV{κ:Type}:List (κ×V)->List (κ×Value)->Prop:=zaV λ(p:κ×V) (q:κ×Value)=>p.1=q.1/\RelV p.2 q.2
def kV:Key->V
 |.inl i=>.int i
 |.inr x=>.str x
inductive HO where
 /-- a list -/
 | lst (xs:List V)
 /-- a tuple (never changes) -/
 | tup (xs:List V)
 /-- a dict whose keys are ints and texts;one whose keys are tuples of ints and texts (the empty one is both) -/
 | dK (kvs:List<|Key×V)|dT (kvs:List<|List Key×V)
 /-- a set of ints: its members, its size -/
 | set (S:Int->Bool) (n:Nat)
 /-- an instance of the class at C, its dict at dx, its attributes -/
 | ins (C dx:Addr) (fs:List<|Str×V)
 /-- the dict of the instance at x -/
 | own (x:Addr)
 /-- the dict of an exception -/
 | xd (fs:List<|Str×V)
 /-- a bound method, f of x -/
 | met (f x:Addr)
 /-- a range object lo, lo+1, .. below hi -/
 | rng (lo hi:Int)
 /-- a thing that is known to the object (the script;a dict while a loop walks it): read, never written while it is so -/
 | frz (o:Obj) (u:HO)
 /-- a code object's table -/
 | tbl (ps:Array Value)
 /-- any other thing, by what is true of its one object (a def of one's own: SetO a S n:=HO.ext λh => ..) -/
 | ext (φ:Heap->Prop)
abbrev Hp:=Addr->Option HO
def upd(H:Hp)(a:Addr)(o:HO):Hp:=λb=>if b=a then b4 o else H b
def aI:upd H a o a=b4 o:=by unfold upd;rw[cw rfl]
def aF(h:b≠a):upd H a o b=H b:=by unfold upd;rw[cx h]
def GE{H:Hp}{a b:Addr}{o u:HO}(h:H a=b4 o)(h':H b=b4 u)(d:o≠u):a≠b:=by
 intro e;subst e;rw[h]at h';exact d<|zaD h'
def aP{H:Hp}{a b:Addr}{o:HO}(h:H a=b4 o)(h':H b=cg):a≠b:=by
 intro e;subst e;rw[h]at h';cases h'
section
variable (P:zap)(w:World)
def IsTupN(h:Heap)(a:Addr)(items:Array Value):Prop:=∃o,h.get? a=b4 o/\o.cls=.type "tuple" /\ ∃n,o.data=.seq items n/\o.dict=cg
def IsTupN.tup{h:Heap}{a:Addr}{items:Array Value}(x:IsTupN h a items):IsTup h a items:=let ⟨o,e,c,n,d,_⟩:=x;⟨o,e,c,n,d⟩
theorem IsTupN.lt(x:IsTupN h a items):a<h.objs.size:=x.tup.lt
def IsTupN.new(h:Heap)(items:Array Value):IsTupN (h.push {cls:=.type "tuple",data:=.seq items}) h.objs.size items:={_,zau _ rfl,rfl,_,rfl,rfl}
def ObjOk(H:Hp)(h:Heap)(a:Addr):HO->Prop
 |.lst xs=>xs.length<=zal/\∃(its:List Value) (n:Nat),Vals xs its/\h.get? a=b4 {cls:=.type "list",data:=.seq its.toArray n}
 |.tup xs=>xs.length<=zal/\∃its:List Value,Vals xs its/\IsTupN h a its.toArray
 |.dK kvs=>kvs.length<=zal/\(a == za9)=cr/\∃vs,KV kvs vs/\h.DictOf (aT P w) a vs
 |.dT kvs=>kvs.length<=zal/\(a == za9)=cr/\∃xs:List (List Key×Addr×Value),
   zaV (λ(p:List Key×V) (q:List Key×Addr×Value)=>p.1=q.1/\H q.2.1=b4 (.tup<|p.1.map kV)/\RelV p.2 q.2.2) kvs xs /\
   ∃o es ep,h.get? a=b4 o/\o.ExactDict/\o.data=.dict es ep/\es.toList=xs.map (entryOfKey<|za4<|aT P w)/\(xs.map (·.1)).Nodup
 |.set S n=>h.SetOf (intKind P w) a S n
 |.ins C dx fs=>H dx=b4 (.own a)/\fs.length<=1000/\dx≠a/\h.get? a=b4 (zeJ C dx) /\
   ∃mA,h.Ns1 dx mA/\(∀f,RelO (fs.lookup f)<|mA f)/\PySem.Within mA (fs.map (·.1))
 |.own _=>∃o,h.get? a=b4 o
 |.xd fs=>∃mA,h.Ns1 a mA/\∀f,RelO (fs.lookup f)<|mA f
 |.rng lo hi=>∃t u v,h.get? a=b4 {cls:=.type "range",data:=.fields #[.int lo t,.int hi u,.int 1 v]}
 |.frz o u=>h.get? a=b4 o/\ObjOk H h a u
 |.tbl ps=>h.get? a=b4 {cls:=.none,data:=.fields ps}
 |.met f x=>h.get? a=b4 (zeK (.ref f)<|.ref x)
 |.ext φ=>φ h/\(∃o,h.get? a=b4 o)/\∀h1 h2:Heap,φ h1->(∀o,h1.get? a=b4 o->h2.get? a=b4 o)->φ h2
def HOk(H:Hp)(h:Heap):Prop:=∀a o,H a=b4 o->ObjOk P w H h a o
end
section
variable {P:zap}{w:World}{H H':Hp}{h h':Heap}{a:Addr}{o:HO}
theorem ObjOk.lt(x:ObjOk P w H h a o):a<h.objs.size:=by
 cases o with
 |lst xs=>obtain⟨_,_,_,_,e⟩:=x;exact zai e
 |tup xs=>obtain⟨_,_,_,p⟩:=x;exact p.lt
 |dK kvs=>obtain⟨_,_,_,_,o,_,_,e,_⟩:=x;exact zai e
 |dT kvs=>obtain⟨_,_,_,_,o,_,_,e,_⟩:=x;exact zai e
 |set S n=>obtain⟨o,_,_,_,e,_⟩:=x;exact zai e
 |ins C dx fs=>obtain⟨_,_,_,e,_⟩:=x;exact zai e
 |own y=>obtain⟨_,e⟩:=x;exact zai e
 |xd fs=>obtain⟨_,⟨_,_,_,e,_⟩,_⟩:=x;exact zai e
 |rng lo hi=>obtain⟨_,_,_,e⟩:=x;exact zai e
 |frz ob u=>obtain⟨e,_⟩:=x;exact zai e
 |tbl ps=>exact zai<|show h.get? a=b4 _ from x
 |met f y=>exact zai<|show h.get? a=b4 _ from x
 |ext φ=>obtain⟨_,⟨_,e⟩,_⟩:=x;exact zai e
theorem Paired.mapP{z q:Type}{F G:z->q->Prop}:∀ {l₁:List z} {l₂:List q},zaV F l₁ l₂->(∀a b,F a b->G a b)->zaV G l₁ l₂
 |_,_,.nil,_=>.nil
 |_,_,.cons r t,f=>.cons (f _ _ r)<|Paired.mapP t f
def ObjOk.stay(x:ObjOk P w H h a o)(k:∀b u,(b=a\/H b=b4 (.own a))->h.get? b=b4 u->h'.get? b=b4 u)
  (G:∀b,H b=b4 (.own a)->H' b=b4 (.own a)) (F:∀b xs,H b=b4 (.tup xs)->H' b=b4 (.tup xs)):ObjOk P w H' h' a o:=by
 induction o with
 |lst xs=>obtain⟨z,B,n,r,e⟩:=x;exact{z,B,n,r,k _ _ (.inl rfl) e}
 |tup xs=>obtain⟨z,B,r,ob,e,c⟩:=x;exact{z,B,r,ob,k _ _ (.inl rfl) e,c}
 |dK kvs=>obtain⟨z,y,vs,r,ob,es,ep,e,c⟩:=x;exact{z,y,vs,r,ob,es,ep,k _ _ (.inl rfl) e,c}
 |dT kvs=>
  obtain⟨z,y,xs,r,ob,es,ep,e,c⟩:=x;exact{z,y,xs,Paired.mapP r λp q z=>{z.1,F _ _ z.2.1,z.2.2},ob,es,ep,k _ _ (.inl rfl) e,c}
 |set S n=>obtain⟨ob,es,ep,t,e,c⟩:=x;exact{ob,es,ep,t,k _ _ (.inl rfl) e,c}
 |ins C dx fs=>
  obtain⟨d,z,ne,e,mA,⟨od,es,ep,J,c⟩,r⟩:=x;exact{G _ d,z,ne,k _ _ (.inl rfl) e,mA,{od,es,ep,k _ _ (.inr d) J,c},r}
 |own y=>obtain⟨ob,e⟩:=x;exact{ob,k _ _ (.inl rfl) e}
 |xd fs=>obtain⟨mA,⟨od,es,ep,e,c⟩,r⟩:=x;exact{mA,{od,es,ep,k _ _ (.inl rfl) e,c},r}
 |rng lo hi=>obtain⟨t,u,v,e⟩:=x;exact{t,u,v,k _ _ (.inl rfl) e}
 |frz ob u ih=>obtain⟨e,q⟩:=x;exact{k _ _ (.inl rfl) e,ih q}
 |tbl ps=>
  have e:h.get? a=b4 {cls:=.none,data:=.fields ps}:=x;show h'.get? a=b4 {cls:=.none,data:=.fields ps};exact k a _ (.inl rfl) e
 |met f y=>
  have e:h.get? a=b4 (zeK (.ref f)<|.ref y):=x;show h'.get? a=b4 (zeK (.ref f)<|.ref y);exact k a _ (.inl rfl) e
 |ext φ=>obtain⟨p,⟨o,e⟩,st⟩:=x;exact{st _ _ p λo q=>k _ _ (.inl rfl) q,{o,k _ _ (.inl rfl) e},st}
theorem HOk.lt(x:HOk P w H h)(e:H a=b4 o):a<h.objs.size:=(x a o e).lt
def HOk.fresh(x:HOk P w H h)(e:h.objs.size<=a):H a=cg:=by
 cases q:H a with
 |none=>rfl
 |some u=>exact absurd (zba (x.lt q) e)<|zbe _
def HOk.kept(x:HOk P w H h)(k:∀b u,h.get? b=b4 u->h'.get? b=b4 u):HOk P w H h':=λa o e=>
 (x a o e).stay (λb u _ q=>k b u q) (λ_ q=>q) λ_ _ q=>q
def HOk.laid(x:HOk P w H h)(k:∀b u,h.get? b=b4 u->h'.get? b=b4 u)(F:h.objs.size<=a)(new:ObjOk P w (upd H a o) h' a o):HOk P w (upd H a o) h':=λb u e=>by
 have B:=x.fresh F;by_cases z:b=a
 .subst z;rw[aI]at e;cases e;exact new
 .rw[aF z]at e
  exact(x b u e).stay (λc v _ q=>k c v q) (λc q=>by rw[aF<|aP q B];exact q) λc xs q=>by rw[aF<|aP q B];exact q
end
def Rd(H:Hp)(a:Addr)(u:HO):Prop:=H a=b4 u\/∃o,H a=b4 (.frz o u)
def Rd.ok(r:Rd H a u)(x:HOk P w H h):ObjOk P w H h a u:=by
 rcases r with r|⟨o,r⟩
 .exact x a u r
 .obtain⟨_,q⟩:=x a _ r
  exact q
def Mut:Option HO->Prop
 |some (.lst _)=>True
 |some (.dK _)=>True
 |some (.dT _)=>True
 |some (.set _ _)=>True
 |some (.ins _ _ _)=>True
 |some (.ext _)=>True
 |_=>False
section
variable {P:zap}{w:World}{H:Hp}{h h':Heap}{x e:Addr}{o':HO}
def HOk.write(ok:HOk P w H h)(J:Mut<|H x)(he:e=x\/H e=b4 (.own x))(k:∀b u,b≠e->h.get? b=b4 u->h'.get? b=b4 u)(W:∃u,h'.get? e=b4 u)
  (new:ObjOk P w (upd H x o') h' x o'):HOk P w (upd H x o') h':=λb u q=>by
 have F:∀c y,H c=b4 (.own y)->c≠x:=λc y r z=>by subst z;rw[r]at J;exact J
 have G:∀c xs,H c=b4 (.tup xs)->c≠x:=λc xs r z=>by subst z;rw[r]at J;exact J
 by_cases U:b=x
 .subst U;rw[aI]at q;cases q;exact new
 .rw[aF U]at q
  by_cases B:b=e
  .have Y:H b=b4 (.own x):=by
    rcases he with z|z
    .exact absurd (B.trans z) U
    .rw[B];exact z
   rw[q]at Y;cases Y;obtain⟨v,hv⟩:=W;exact{v,by rw[B];exact hv}
  .refine(ok b u q).stay (λc v N r=>k c v ?_ r) (λc r=>by rw[aF<|F c b r];exact r) λc xs r=>by rw[aF<|G c xs r];exact r
   rcases N with rfl|N
   .exact B
   .rintro rfl
    rcases he with z|z
    .exact F c b N z
    .rw[N]at z;cases z;exact U rfl
end
structure Un(fs ex:List Addr)(H H':Hp)(h h':Heap):Prop where
 keep:∀b o,h.get? b=b4 o->H b=cg->b∉fs->b∉ex->h'.get? b=b4 o
 slot:∀b o,h.get? b=b4 o->H b=cg->b∈fs->b∉ex->∃sl,h'.get? b=b4 {o with slots:=sl}
 free:∀b o,h.get? b=b4 o->H b=cg->b∉ex->H' b=cg
 there:∀b o,h.get? b=b4 o->b∉ex->∃o',h'.get? b=b4 o'
 tups:∀b xs,H b=b4 (.tup xs)->H' b=b4 (.tup xs)
 frzs:∀b o u,H b=b4 (.frz o u)->H' b=b4 (.frz o u)
 tbls:∀b ps,H b=b4 (.tbl ps)->∃more,H' b=b4 (.tbl<|ps++more)
section
variable {fs fs' ex ex':List Addr}{H H1 H2:Hp}{h h1 h2 h':Heap}{a x e:Addr}{o:HO}
def Un.any(u:Un fs ex H H1 h h1)(q:h.get? b=b4 ob)(n:H b=cg)(B:b∉ex):∃F,h1.get? b=b4 {ob with slots:=F}:=by
 by_cases z:b∈fs
 .exact u.slot b ob q n z B
 .exact{ob.slots,u.keep b ob q n z B}
def Un.kept(k:∀b u,h.get? b=b4 u->h'.get? b=b4 u):Un fs ex H H h h':=
 {λb ob q _ _ _=>k b ob q,λb ob q _ _ _=>{ob.slots,k b ob q},λ_ _ _ n _=>n,λb ob q _=>{ob,k b ob q},λ_ _ q=>q,λ_ _ _ q=>q,λ_ ps q=>{#[],by rw[q];simp}}
def Un.refl:Un fs ex H H h h:=Un.kept λ_ _ q=>q
def Un.laid(k:∀b u,h.get? b=b4 u->h'.get? b=b4 u)(B:h.objs.size<=a)(z:H a=cg):Un fs ex H (upd H a o) h h' where
 keep:=λb u q _ _ _=>k b u q
 slot:=λb u q _ _ _=>{u.slots,k b u q}
 free:=λb u q n _=>by rw[aF<|zaB<|zba (zai q) B];exact n
 there:=λb u q _=>{u,k b u q}
 tups:=λb xs q=>by rw[aF<|aP q z];exact q
 frzs:=λb u xs q=>by rw[aF<|aP q z];exact q
 tbls:=λb ps q=>{#[],by rw[aF<|aP q z,q];simp}
def Un.write(F:Mut<|H x)(W:e=x\/H e=b4 (.own x))(k:∀b u,b≠e->h.get? b=b4 u->h'.get? b=b4 u)(J:∃u,h'.get? e=b4 u):Un fs ex H (upd H x o) h h':=by
 have N:∀b,H b=cg->b≠x:=λb n z=>by subst z;rw[n]at F;exact F
 have U:∀b,H b=cg->b≠e:=λb n z=>by
  subst z;rcases W with r|r
  .exact N b n r
  .rw[n]at r;cases r
 have G:∀b u,H b=b4 u->¬ Mut (b4 u)->b≠x:=λb u q nm z=>by subst z;rw[q]at F;exact nm F
 refine⟨λb u q n _ _=>k b u (U b n) q,λb u q n _ _=>{u.slots,k b u (U b n) q},λb u q n _=>by rw[aF<|N b n];exact n,λb u q _=>?_,
  λb xs q=>by rw[aF<|G b _ q λz=>z];exact q,λb u xs q=>by rw[aF<|G b _ q λz=>z];exact q,λb ps q=>{#[],by rw[aF<|G b _ q λz=>z,q];simp}⟩
 by_cases B:b=e
 .subst B;exact J
 .exact{u,k b u B q}
end
def trk(h:Heap)(H:Hp):List Addr:=(zav h.objs.size).filter λa=>(H a).isSome
def yP(h:Heap)(H:Hp):Heap:=PySem.W.hideAll h<|trk h H
def G2(h:Heap)(H:Hp):(yP h H).objs.size=h.objs.size:=PySem.W.hideAll_size _ _
def KN(e:h.get? b=b4 o)(n:H b=cg):(yP h H).get? b=b4 o:=
 PySem.W.hideAll_get _ e λz=>by
  have q:(H b).isSome=cp:=(List.mem_filter.mp z).2;rw[n]at q;simp at q
def PX(e:(yP h H).get? b=b4 o):h.get? b=b4 o/\H b=cg:=by
 have B:h.get? b=b4 o:=PySem.W.of_hideAll (trk h H) e;refine{B,?_};cases q:H b with
 |none=>rfl
 |some x=>
  have F:b∈trk h H:=List.mem_filter.mpr {List.mem_range.mpr<|zai B,by simp[q]};have z:(yP h H).get? b=cg:=PySem.W.hideAll_none (trk h H) F;rw[z]at e;cases e
def PR(g h:Heap)(L:Addr):List<|Addr×Obj:=(zav h.objs.size).filterMap λa=>if a=L\/(g.get? a).isSome=cp then cg else(h.get? a).map λo=>(a,o)
def rest(g h:Heap)(L d:Addr):List<|Addr×Obj:=(PR g h L).filter λp=>decide (p.1≠d)
structure Mod(K:zaf)(mg:Str->Option Value)(base:Heap):Prop where
 kin:K.In base
 glob:base.Ns za3 mg
 blt:∃mb,base.Ns builtinsNs mb/\∀x:Str,x ≠ "__name__" -> mb x=zaO x
 nolimit:base.NoLimit
structure Cx where
 prog:zap
 w:World
 K:zaf
 mg:Str->Option Value
 base:Heap
 A:zas
 N:List Str
 s₀:zab
 H₀:Hp
 env:Env
 outer:List Env
 stack:List Env
 ex:List Addr
 fn:Str->Bool
 calm:Bool
 pn:List<|Addr×Obj
 xe:Value->zab->Prop
def frs(l:List Env):List Addr:=l.filterMap (·.frame)
abbrev Cx.fs(X:Cx):List Addr:=frs X.outer
def X5(sc:Scope)(x:Str):Prop:=sc.names.lookup x=b4 .local\/sc.names.lookup x=b4 .cell\/sc.names.lookup x=b4 .free
def Loc(sc:Scope)(x:Str):Prop:=sc.names.lookup x=b4 .local\/sc.names.lookup x=b4 .cell
def Look(env:Env)(h:Heap)(m:Str->Option Value)(x:Str)(u:Value):Prop:=
 (env.kindOf x=b4 .local/\m x=b4 u)\/((env.kindOf x=b4 .cell\/env.kindOf x=b4 .free)/\∃c,env.cells.lookup x=b4 c/\h.IsCell c (b4 u))
structure Cx.Ok(X:Cx):Prop where
 mod:Mod X.K X.mg X.base
 kind:X.env.scope.kind=.function
 glob:X.env.globals=za3
 blt:X.env.builtins=builtinsNs
 above:X.s₀.heap.objs.size<=X.env.locals
 inj:∀x y c,X.env.cells.lookup x=b4 c->X.env.cells.lookup y=b4 c->x=y
 has:∀x,(X.env.kindOf x=b4 .cell\/X.env.kindOf x=b4 .free)->∃c,X.env.cells.lookup x=b4 c
 cab:∀x c,X.fn x=cp->X.env.cells.lookup x=b4 c->X.s₀.heap.objs.size<=c
 hd:X.calm=cp->X.A.handled=cg
 frames:X.A.frames=b4 X.stack
 stk:X.stack=X.outer\/(X.stack=X.env::X.outer/\X.env.frame=b4 X.env.locals)
 exf:∀b∈X.ex,b≠X.env.locals/\∀x c,X.env.cells.lookup x=b4 c->c≠b
 bs:∀b o,X.base.get? b=b4 o->X.s₀.heap.get? b=b4 o/\X.H₀ b=cg
 bsz:X.base.objs.size<=X.s₀.heap.objs.size
 noex:∀b o,X.base.get? b=b4 o->b∉X.ex
 exfs:∀b∈X.ex,b∉X.fs
 funs:X.s₀.heap.FunFrames X.base X.outer
 frf:∀b∈X.fs,X.H₀ b=cg
structure Inv(X:Cx)(pins:List<|Addr×Obj)(σ:List<|Option V)(H:Hp)(s:zab):Prop where
 ok:X.Ok
 os:s.os=X.s₀.os
 bare:zcc s.gens
 base:Un X.fs X.ex X.H₀ H X.s₀.heap s.heap
 loc:∃m,s.heap.Ns X.env.locals m/\∀(i:Nat) (x:Str) (v:V),X.N[i]?=b4 x->σ[i]?=b4 (b4 v)->X5 X.env.scope x->∃u,RelV v u/\Look X.env s.heap m x u
 cell:∀x c,X.env.cells.lookup x=b4 c->∃v,s.heap.IsCell c v
 free:H X.env.locals=cg
 freeC:∀x c,X.env.cells.lookup x=b4 c->H c=cg
 pin:∀p∈X.pn++pins,s.heap.get? p.1=b4 p.2/\H p.1=cg/\p.1≠X.env.locals/\p.1∉X.fs/\∀v,p.2.data≠.cell v
 hok:HOk X.prog X.w H s.heap
 len:σ.length=X.N.length
section
variable {X:Cx}{pins:List (Addr×Obj)}{σ:List (Option V)}{H H':Hp}{s:zab}{h':Heap}
def Cx.Ok.nofr(ok:X.Ok)(e:X.base.get? b=b4 o):b∉X.fs:=λq=>by
 have:=(ok.funs.mem q).1;rw[e]at this;cases this
theorem Inv.bs(I:Inv X pins σ H s):∀b o,X.base.get? b=b4 o->s.heap.get? b=b4 o/\H b=cg:=λb o e=>
 {I.base.keep b o (I.ok.bs b o e).1 (I.ok.bs b o e).2 (I.ok.nofr e)<|I.ok.noex b o e,I.base.free b o (I.ok.bs b o e).1 (I.ok.bs b o e).2<|I.ok.noex b o e}
def Inv.bk(I:Inv X pins σ H s):∀b o,X.base.get? b=b4 o->s.heap.get? b=b4 o:=λb o e=>(I.bs b o e).1
theorem Inv.mod(I:Inv X pins σ H s):Mod X.K X.mg X.base:=I.ok.mod
def Inv.kIn(I:Inv X pins σ H s):X.K.In s.heap:=I.ok.mod.kin.keeps I.bk
theorem Inv.lt(I:Inv X pins σ H s):X.env.locals<s.heap.objs.size:=let ⟨_,hn,_⟩:=I.loc;hn.lt
def Inv.sz(I:Inv X pins σ H s):X.s₀.heap.objs.size<=s.heap.objs.size:=zbf I.ok.above<|zdF I.lt
def Inv.nofs(I:Inv X pins σ H s)(h:s.heap.objs.size<=a):a∉X.fs:=λq=>by
 obtain⟨_,o,z,_⟩:=I.ok.funs.mem q;exact absurd (zba (zai z)<|zbf I.sz h)<|zbe _
def Inv.cne(I:Inv X pins σ H s):∀x c,X.env.cells.lookup x=b4 c->c≠X.env.locals:=λx c e z=>by
 obtain⟨v,o,F,G⟩:=I.cell x c e;obtain⟨m,⟨o',es,ep,B,q,_⟩,_⟩:=I.loc;rw[z,B]at F;cases F;rw[q]at G;cases G
theorem Inv.funs(I:Inv X pins σ H s):s.heap.FunFrames X.base X.outer:=by
 have all:∀(l:List Env),(∀b∈frs l,b∈X.fs)->X.s₀.heap.FunFrames X.base l->s.heap.FunFrames X.base l:=by
  intro l;induction l with
  |nil=>intro _ _;trivial
  |cons env r ih=>
   intro hs J;obtain⟨W,⟨L,o,F,U,N,Y⟩,G⟩:=J;have B:L∈X.fs:=hs L (by unfold frs;rw[zeL,F];exact zaw);obtain⟨sl,e⟩:=I.base.slot L o N (I.ok.frf L B) B λz=>I.ok.exfs L z B
   exact{W,{L,_,F,U,e,Y},ih (λb q=>hs b<|by unfold frs;rw[zeL,F];exact zax _ q) G}
 exact all X.outer (λ_ q=>q) I.ok.funs
theorem Inv.stack(I:Inv X pins σ H s):s.heap.FunFrames X.base X.stack:=by
 rcases I.ok.stk with e|⟨e,q⟩
 .rw[e];exact I.funs
 .rw[e]
  obtain⟨m,z,_⟩:=I.loc;refine .cons (by rw[I.ok.kind];decide) q z ?_ I.funs;exact Heap.get?_none_of_le<|zbf I.ok.bsz I.ok.above
def Inv.stkSub(I:Inv X pins σ H s):∀b∈frs X.stack,b∈X.env.locals::X.fs:=λb q=>by
 rcases I.ok.stk with e|⟨e,z⟩
 .rw[e]at q;exact zax _ q
 .rw[e]at q
  unfold frs at q;rw[zeL,z]at q;exact q
def Inv.stkFree(I:Inv X pins σ H s):∀b∈frs X.stack,H b=cg:=λb q=>by
 rcases List.mem_cons.mp (I.stkSub b q)with e|q
 .rw[e];exact I.free
 .obtain⟨_,o,B,_⟩:=I.ok.funs.mem q
  exact I.base.free b o B (I.ok.frf b q) λz=>I.ok.exfs b z q
def Inv.step{g':Array GenState}{t':Nat}{d':Drawn}{ch:List Addr}(I:Inv X pins σ H s)
  (G:∀b∈ch,(b∈X.ex\/X.s₀.heap.objs.size<=b)/\b≠X.env.locals/\(∀x c,X.env.cells.lookup x=b4 c->c≠b)/\∀p∈X.pn++pins,p.1≠b)
  (keep:∀b o,b≠X.env.locals->b∉X.fs->b∉ch->s.heap.get? b=b4 o->H b=cg->h'.get? b=b4 o)
  (W:∀b o,b≠X.env.locals->b∈X.fs->b∉ch->s.heap.get? b=b4 o->H b=cg->∃sl,h'.get? b=b4 {o with slots:=sl}) (free:∀b o,b∉ch->s.heap.get? b=b4 o->H b=cg->H' b=cg)
  (there:∀b o,b∉ch->s.heap.get? b=b4 o->∃o',h'.get? b=b4 o')
  (tups:∀b xs,H b=b4 (.tup xs)->H' b=b4 (.tup xs)) (ad:∀b o u,H b=b4 (.frz o u)->H' b=b4 (.frz o u)) (ac:∀b ps,H b=b4 (.tbl ps)->∃more,H' b=b4 (.tbl<|ps++more))
  (ns:∀m,s.heap.Ns X.env.locals m->h'.Ns X.env.locals m) (ai:HOk X.prog X.w H' h') (hg:zcc g') :
  Inv X pins σ H' {s with heap:=h',gens:=g',drawn:=d',toks:=t'}:=by
 have ab:∀b o,X.s₀.heap.get? b=b4 o->b≠X.env.locals:=λb o e=>zaB<|zba (zai e) I.ok.above
 have U:∀b o,X.s₀.heap.get? b=b4 o->b∉X.ex->b∉ch:=λb o e B Y=>by
  rcases(G b Y).1 with z|z
  .exact B z
  .exact absurd (zba (zai e) z)<|zbe _
 have J:∀x c,X.env.cells.lookup x=b4 c->∀v,s.heap.IsCell c v->h'.IsCell c v:=by
  rintro x c e v ⟨o,ho,hd⟩;have F:c∉ch:=λz=>(G c z).2.2.1 x c e rfl
  by_cases hc:c∈X.fs
  .obtain⟨sl,q⟩:=W c o (I.cne x c e) hc F ho (I.freeC x c e)
   exact{_,q,hd}
  .exact{o,keep c o (I.cne x c e) hc F ho<|I.freeC x c e,hd}
 refine{I.ok,I.os,hg,{λb o e n Y B=>?_,λb o e n Y B=>?_,λb o e n B=>?_,λb o e B=>?_,λb xs e=>tups b xs<|I.base.tups b xs e,λb o xs e=>ad b o xs<|I.base.frzs b o xs e,λb ps e=>?_},?_,λx c e=>?_,?_,λx c e=>?_,λp hp=>?_,ai,I.len}
 .exact keep b o (ab b o e) Y (U b o e B) (I.base.keep b o e n Y B)<|I.base.free b o e n B
 .obtain⟨sl,N⟩:=I.base.slot b o e n Y B
  obtain⟨ah,e2⟩:=W b _ (ab b o e) Y (U b o e B) N<|I.base.free b o e n B;exact{ah,e2}
 .obtain⟨o',N⟩:=I.base.there b o e B
  exact free b o' (U b o e B) N<|I.base.free b o e n B
 .obtain⟨o',N⟩:=I.base.there b o e B
  exact there b o' (U b o e B) N
 .obtain⟨m1,N⟩:=I.base.tbls b ps e
  obtain⟨m2,e2⟩:=ac b _ N;exact{m1++m2,by rw[e2,Array.append_assoc]}
 .obtain⟨m,hn,hl⟩:=I.loc
  refine{m,ns m hn,λi x v N e2 e3=>?_};obtain⟨u,r,l⟩:=hl i x v N e2 e3;refine{u,r,?_};rcases l with l|⟨k,c,e,z⟩
  .exact .inl l
  .exact .inr {k,c,e,J x c e _ z}
 .obtain⟨v,z⟩:=I.cell x c e
  exact⟨v,J x c e v z⟩
 .obtain⟨m,⟨o,_,_,ho,_⟩,_⟩:=I.loc
  exact free _ o (λz=>(G _ z).2.1 rfl) ho I.free
 .obtain⟨v,o,ho,hd⟩:=I.cell x c e
  exact free c o (λz=>(G c z).2.2.1 x c e rfl) ho<|I.freeC x c e
 .obtain⟨e,n,ne,nf,d⟩:=I.pin p hp
  have F:p.1∉ch:=λz=>(G p.1 z).2.2.2 p hp rfl
  exact{keep p.1 p.2 ne nf F e n,free p.1 p.2 F e n,ne,nf,d}
def Inv.un{t':Nat}(I:Inv X pins σ H s)(u:Un X.fs [] H H' s.heap h')(J:HOk X.prog X.w H' h'):Inv X pins σ H' {s with heap:=h',toks:=t'}:=by
 obtain⟨m,⟨o,es,ep,N,r⟩,_⟩:=id I.loc;obtain⟨sl,W⟩:=u.any N I.free (by simp);exact I.step (g':=s.gens) (d':=s.drawn) (ch:=[]) (λ_ z=>nomatch z) (λb o _ G _ e n=>u.keep b o e n G<|by simp) (λb o _ G _ e n=>u.slot b o e n G<|by simp) (λb o _ e n=>u.free b o e n<|by simp) (λb o _ e=>u.there b o e<|by simp) u.tups u.frzs u.tbls (λm' Y=>by
  obtain⟨o',F,B,q,U⟩:=Y;rw[N]at q;cases q;exact{_,F,B,W,U}) J I.bare
def Inv.call{g':Array GenState}{t':Nat}{d':Drawn}{ch:List Addr}(I:Inv X pins σ H s)(u:Un (frs X.stack) ch H H' s.heap h')(U:HOk X.prog X.w H' h')(hg:zcc g')
  (B:∀b∈ch,(b∈X.ex\/X.s₀.heap.objs.size<=b)/\b≠X.env.locals/\(∀x c,X.env.cells.lookup x=b4 c->c≠b)/\∀p∈X.pn++pins,p.1≠b) :
  Inv X pins σ H' {s with heap:=h',gens:=g',drawn:=d',toks:=t'}:=by
 obtain⟨m,⟨o,es,ep,W,r⟩,_⟩:=id I.loc;obtain⟨sl,N⟩:=u.any W I.free λz=>(B _ z).2.1 rfl
 exact I.step (ch:=ch) B (λb o N hb q e n=>u.keep b o e n (λz=>(List.mem_cons.mp<|I.stkSub b z).elim N hb) q) (λb o _ _ q e n=>u.any e n q) (λb o q e n=>u.free b o e n q) (λb o q e=>u.there b o e q) u.tups u.frzs u.tbls (λm' hm=>by
  obtain⟨o',J,G,F,Y⟩:=hm;rw[W]at F;cases F;exact{_,J,G,N,Y}) U hg
def Inv.turned{t':Nat}{it:Addr}(I:Inv X pins σ H s)(k:∀b o,b≠it->s.heap.get? b=b4 o->h'.get? b=b4 o)(Y:H it=cg)(G:it≠X.env.locals)
  (h1:it∈X.ex\/X.s₀.heap.objs.size<=it) (h2:∀x c,X.env.cells.lookup x=b4 c->c≠it) (J:∀p∈X.pn++pins,p.1≠it):Inv X pins σ H {s with heap:=h',toks:=t'}:=by
 have F:∀b u,H b=b4 u->b≠it:=λb u e z=>by rw[z,Y]at e;cases e
 refine I.step (g':=s.gens) (d':=s.drawn) (ch:=[it]) (λb N=>?_) (λb o _ _ B e _=>k b o (λz=>B<|by simp[z]) e) (λb o _ _ B e _=>{o.slots,k b o (λz=>B<|by simp[z]) e}) (λ_ _ _ _ n=>n)
  (λb o B e=>{o,k b o (λz=>B<|by simp[z]) e}) (λ_ _ e=>e) (λ_ _ _ e=>e) (λb ps e=>{#[],by rw[e];simp}) (λm U=>?_) (λb u e=>?_) I.bare
 .have e:b=it:=by simpa using N
  subst e;exact{h1,G,h2,J}
 .obtain⟨o,es,ep,W,r⟩:=U
  exact{o,es,ep,k _ o (zaS G) W,r}
 .refine(I.hok b u e).stay (λc v B q=>k c v ?_ q) (λ_ q=>q) λ_ _ q=>q
  rcases B with z|z
  .rw[z];exact F b u e
  .exact F c _ z
def Inv.tok(I:Inv X pins σ H s)(t:Nat):Inv X pins σ H {s with toks:=t}:=I.un (h':=s.heap) (t':=t) Un.refl I.hok
theorem Inv.kept(I:Inv X pins σ H s)(k:∀b u,s.heap.get? b=b4 u->h'.get? b=b4 u):Inv X pins σ H {s with heap:=h',toks:=t'}:=I.un (Un.kept k)<|I.hok.kept k
theorem Inv.laid(I:Inv X pins σ H s)(k:∀b u,s.heap.get? b=b4 u->h'.get? b=b4 u)(q:s.heap.objs.size<=a)(new:ObjOk X.prog X.w (upd H a o) h' a o) :
  Inv X pins σ (upd H a o) {s with heap:=h',toks:=t'}:=I.un (Un.laid k q<|I.hok.fresh q)<|I.hok.laid k q new
theorem Inv.write(I:Inv X pins σ H s)(B:Mut<|H x)(z:e=x\/H e=b4 (.own x))(k:∀b u,b≠e->s.heap.get? b=b4 u->h'.get? b=b4 u)(q:∃u,h'.get? e=b4 u)
  (new:ObjOk X.prog X.w (upd H x o) h' x o):Inv X pins σ (upd H x o) {s with heap:=h',toks:=t'}:=I.un (Un.write B z k q)<|I.hok.write B z k q new
def Inv.pins_of(I:Inv X pins σ H s)(h:∀p∈pins',s.heap.get? p.1=b4 p.2/\H p.1=cg/\p.1≠X.env.locals/\p.1∉X.fs/\∀v,p.2.data≠.cell v):Inv X pins' σ H s:=
 {I.ok,I.os,I.bare,I.base,I.loc,I.cell,I.free,I.freeC,λp q=>(List.mem_append.mp q).elim (λz=>I.pin p<|zdi _ z)<|h p,I.hok,I.len}
def zX{N:List Str}(z:N.Nodup){i j:Nat}{x:Str}(a:N[i]?=b4 x)(b:N[j]?=b4 x):i=j:=by
 obtain⟨h1,q⟩:=List.getElem?_eq_some_iff.mp a;obtain⟨h2,B⟩:=List.getElem?_eq_some_iff.mp b;exact(zcT z).mp<|q.trans B.symm
def u9{M:Model}{A:zas}{E:Value->zab->Prop}{i:Nat}{x:Str}{v:V}{u:Value}{Q:Unit->zab->Prop}(I:Inv X pins σ H s)(hN:X.N.Nodup)(hi:X.N[i]?=b4 x)(J:Loc X.env.scope x)(r:RelV v u)
  (h:∀s',Inv X pins (σ.set i<|b4 v) H s'->(∃a,zaT a s.heap s'.heap/\(a=X.env.locals\/X.env.cells.lookup x=b4 a))->Q () s') (hf:X.fn x=cp\/X.env.scope.names.lookup x=b4 .local:=by first|exact .inl rfl|exact .inr rfl|assumption):wpAny M A (storeName X.env x u) Q E s:=by
 obtain⟨m,hn,hl⟩:=id I.loc;have ag:(X.env.scope.kind == .class || (X.env.scope.kind == .module && X.env.locals != X.env.globals))=cr:=by rw[I.ok.kind];rfl
 have aa:i<σ.length:=by rw[I.len];exact(List.getElem?_eq_some_iff.mp hi).1
 have cne:=I.cne;have B:∀ {a:Addr} {h':Heap},(∃o,s.heap.get? a=b4 o/\H a=cg)->zaT a s.heap h'->HOk X.prog X.w H h':=λ{a h'} ha hs b ob e=>by
  obtain⟨_,_,U⟩:=ha;refine(I.hok b ob e).stay (λc w' G q=>(hs.2 c ?_).trans q) (λ_ q=>q) λ_ _ q=>q
  rintro rfl;rcases G with rfl|G
  .rw[U]at e;cases e
  .rw[U]at G;cases G
 rcases J with Y|Y
 .refine wpAny_storeName_local Y hn (λh' an hs=>?_) ag
  obtain⟨oL,_,_,aq,_⟩:=id hn;refine h _ {I.ok,I.os,I.bare,{λb o e n hb J=>?_,λb o e n hb J=>?_,I.base.free,λb o e J=>?_,I.base.tups,I.base.frzs,I.base.tbls},{_,an,λj y v' F W e3=>?_},λy c e=>?_,I.free,I.freeC,λp hp=>?_,B {oL,aq,I.free} hs,by simpa using I.len} {_,hs,.inl rfl}
  .exact(hs.2 b<|zaB<|zba (zai e) I.ok.above).trans<|I.base.keep b o e n hb J
  .obtain⟨sl,F⟩:=I.base.slot b o e n hb J
   exact{sl,(hs.2 b<|zaB<|zba (zai e) I.ok.above).trans F}
  .obtain⟨o',F⟩:=I.base.there b o e J
   exact{o',(hs.2 b<|zaB<|zba (zai e) I.ok.above).trans F}
  .by_cases hj:j=i
   .subst hj
    rw[hi]at F;cases F;rw[List.getElem?_set_self aa]at W;cases W;exact{u,r,.inl {Y,by simp}}
   .rw[zdG<|zaS hj]at W
    obtain⟨u',r',q⟩:=hl j y v' F W e3;refine{u',r',?_};rcases q with⟨k,e⟩|⟨k,c,e,z⟩
    .refine .inl {k,?_}
     have:y≠x:=λe=>hj<|zX hN F<|e ▸ hi
     simp[this,e]
    .exact .inr {k,c,e,z.sameBut hs<|cne y c e}
  .obtain⟨w',z⟩:=I.cell y c e
   exact{w',z.sameBut hs<|cne y c e}
  .obtain⟨e,n,ne,nf,d⟩:=I.pin p hp
   exact{(hs.2 p.1 ne).trans e,n,ne,nf,d}
 .have ac:X.fn x=cp:=by
   rcases hf with z|z
   .exact z
   .rw[z]at Y;cases Y
  obtain⟨c,G⟩:=I.ok.has x<|.inl Y;obtain⟨w',z⟩:=I.cell x c G;refine wpAny_storeName_cell I.ok.kind Y G z λh' ae hs=>?_;obtain⟨oc,ai,ah⟩:=id z;refine h {s with heap:=h'} {I.ok,I.os,I.bare,{λb o e n hb J=>?_,λb o e n hb J=>?_,I.base.free,λb o e J=>?_,I.base.tups,I.base.frzs,I.base.tbls},{m,hn.sameBut hs<|zaS<|cne x c G,λj y v' F W e3=>?_},λy c' e=>?_,I.free,I.freeC,λp hp=>?_,B {oc,ai,I.freeC x c G} hs,by simpa using I.len} {c,hs,.inr G}
  .exact(hs.2 b<|zaB<|zba (zai e)<|I.ok.cab x c ac G).trans<|I.base.keep b o e n hb J
  .obtain⟨sl,F⟩:=I.base.slot b o e n hb J
   exact{sl,(hs.2 b<|zaB<|zba (zai e)<|I.ok.cab x c ac G).trans F}
  .obtain⟨o',F⟩:=I.base.there b o e J
   exact{o',(hs.2 b<|zaB<|zba (zai e)<|I.ok.cab x c ac G).trans F}
  .by_cases hj:j=i
   .subst hj
    rw[hi]at F;cases F;rw[List.getElem?_set_self aa]at W;cases W;exact{u,r,.inr {.inl Y,c,G,ae}}
   .rw[zdG<|zaS hj]at W
    obtain⟨u',r',q⟩:=hl j y v' F W e3;refine{u',r',?_};rcases q with q|⟨k,c',e,z'⟩
    .exact .inl q
    .refine .inr {k,c',e,z'.sameBut hs ?_}
     rintro rfl;exact hj<|zX hN F<|I.ok.inj _ _ _ e G ▸ hi
  .by_cases af:c'=c
   .subst af;exact{_,ae}
   .obtain⟨w2,z2⟩:=I.cell y c' e
    exact{w2,z2.sameBut hs af}
  .obtain⟨e,n,ne,nf,d⟩:=I.pin p hp
   refine{(hs.2 p.1 ?_).trans e,n,ne,nf,d};intro q;rw[q,ai]at e;have q':oc=p.2:=zaD e;exact d w'<|by rw[<- q'];exact ah
def BB(I:Inv X pins σ H s)(z:X.N.Nodup)(hi:X.N[i]?=b4 x)(q:Loc X.env.scope x)(r:RelV v u)
  (h:∀s',Inv X pins (σ.set i<|b4 v) H s'->Q () s') (F:X.fn x=cp\/X.env.scope.names.lookup x=b4 .local:=by first|exact .inl rfl|exact .inr rfl|assumption):wpAny M A (storeName X.env x u) Q E s:=
 u9 I z hi q r (λs' B _=>h s' B) F
def Inv.call'(I:Inv X pins σ H s)(B:s'.os=s.os)(u:Un (frs X.stack) ch H H' s.heap s'.heap)(z:HOk X.prog X.w H' s'.heap)(F:zcc s'.gens)
  (q:∀b∈ch,(b∈X.ex\/X.s₀.heap.objs.size<=b)/\b≠X.env.locals/\(∀x c,X.env.cells.lookup x=b4 c->c≠b)/\∀p∈X.pn++pins,p.1≠b):Inv X pins σ H' s':=by
 obtain⟨h',g',d',t',o'⟩:=s';have e:o'=s.os:=B;subst e;exact I.call (g':=g') (t':=t') (d':=d') u z F q
end
abbrev XK:=Value->Option Addr->Hp->Prop
abbrev St:=List<|Option V
abbrev VK:=V->Hp->Prop
abbrev TE:=St->Hp->VK->Prop
abbrev TT:=St->Hp->(Bool->Hp->Prop)->Prop
abbrev TA:=St->Hp->(List V->Hp->Prop)->Prop
structure Ends where
 nx:St->Hp->Prop
 rt:VK
 bk:St->Hp->Prop:=λ_ _=>False
 ct:St->Hp->Prop:=λ_ _=>False
abbrev TS:=Ends->St->Hp->Prop
inductive EP(X:Cx)(pins:List<|Addr×Obj)(σ:St)(Q:VK)(u:Value)(s':zab):Prop
 | mk (v:V) (H':Hp) (i:Inv X pins σ H' s') (r:RelV v u) (q:Q v H'):EP X pins σ Q u s'
inductive TP(X:Cx)(pins:List<|Addr×Obj)(σ:St)(Q:Bool->Hp->Prop)(b:Bool)(s':zab):Prop
 | mk (H':Hp) (i:Inv X pins σ H' s') (q:Q b H'):TP X pins σ Q b s'
inductive AP(X:Cx)(pins:List<|Addr×Obj)(σ:St)(Q:List V->Hp->Prop)(us:List Value)(s':zab):Prop
 | mk (vs:List V) (H':Hp) (i:Inv X pins σ H' s') (r:Vals vs us) (q:Q vs H'):AP X pins σ Q us s'
def SP(X:Cx)(pins:List<|Addr×Obj)(D:Ends)(f:Flow)(s':zab):Prop:=
 match f with
 |.next=>∃σ' H',Inv X pins σ' H' s'/\D.nx σ' H'
 |.brk=>∃σ' H',Inv X pins σ' H' s'/\D.bk σ' H'
 |.cont=>∃σ' H',Inv X pins σ' H' s'/\D.ct σ' H'
 |.ret u=>∃v σ' H',Inv X pins σ' H' s'/\RelV v u/\D.rt v H'
def PE(X:Cx)(e:Expr)(t:TE):Prop:=
 ∀(pins:List<|Addr×Obj) (s:zab) (σ:St) (H:Hp) (Q:VK),Inv X pins σ H s->t σ H Q->wpAny (model X.prog X.w) X.A (eval e X.env) (EP X pins σ Q) X.xe s
def PT(X:Cx)(e:Expr)(t:TT):Prop:=
 ∀(pins:List<|Addr×Obj) (s:zab) (σ:St) (H:Hp) (Q:Bool->Hp->Prop),Inv X pins σ H s->t σ H Q->wpAny (model X.prog X.w) X.A (isTrue e X.env<|eval e X.env) (TP X pins σ Q) X.xe s
def PW(X:Cx)(e:Expr)(t:TT):Prop:=
 ∀(whole:Sem Value) (pins:List<|Addr×Obj) (s:zab) (σ:St) (H:Hp) (Q:Bool->Hp->Prop),Inv X pins σ H s->t σ H Q->wpAny (model X.prog X.w) X.A (isTrue e X.env whole) (TP X pins σ Q) X.xe s
def PW.pt{X:Cx}{e:Expr}{t:TT}(h:PW X e t):PT X e t:=h _
def PA(X:Cx)(es:List Expr)(t:TA):Prop:=
 ∀(pos:Pos) (pins:List<|Addr×Obj) (s:zab) (σ:St) (H:Hp) (Q:List V->Hp->Prop),Inv X pins σ H s->t σ H Q->wpAny (model X.prog X.w) X.A (spliced<|zaJ pos<|zah es X.env) (AP X pins σ Q) X.xe s
def PS(X:Cx)(st:Stmt)(t:TS):Prop:=
 ∀(pins:List<|Addr×Obj) (s:zab) (σ:St) (H:Hp) (D:Ends),Inv X pins σ H s->t D σ H->wpAny (model X.prog X.w) X.A (exec st X.env) (SP X pins D) X.xe s
def PSs(X:Cx)(st:List Stmt)(t:TS):Prop:=
 ∀(pins:List<|Addr×Obj) (s:zab) (σ:St) (H:Hp) (D:Ends),Inv X pins σ H s->t D σ H->wpAny (model X.prog X.w) X.A (execs st X.env) (SP X pins D) X.xe s
def bN{z:Type}{t:Sem z}{Q q:z->zab->Prop}{M:Model}{A:zas}{E:Value->zab->Prop}{s:zab}(h:wpAny M A t Q E s)(B:∀a s,Q a s->q a s):wpAny M A t q E s:=zbb h B λ_ _ x=>x
section
variable {X:Cx}
def yL(i:Nat):TE:=λσ H Q=>∃v,σ[i]?=b4 (b4 v)/\Q v H
def tC(v:V):TE:=λ_ H Q=>Q v H
def WM(Y:X.N[i]?=b4 x)(U:X5 X.env.scope x)(F:(x == ("__debug__" : Str))=cr:=by decide)(B:(x == ("__classdict__" : Str))=cr:=by decide):PE X (.Name x pos)<|yL i:=by
 intro pins s σ H Q I h;obtain⟨v,e,h⟩:=h;obtain⟨m,hn,W⟩:=I.loc;obtain⟨u,r,l⟩:=W i x v Y e U;have fin:EP X pins σ Q u s:={v,H,I,r,h};rcases l with⟨z,J⟩|⟨z,c,G,q⟩
 .exact wpAny_Name (wpAny_loadName_local I.ok.kind z hn J fin) F
 .rcases z with z|z
  .exact wpAny_Name (wpAny_loadName_cell I.ok.kind z G q fin) F
  .exact wpAny_Name (wpAny_loadName_free I.ok.kind z G q fin B) F
def UH{i j pos}:PE X (.Constant (.int i) j pos)<|tC<|.int i:=λ_ _ _ H _ I h=>wpAny_Constant_int {.int i,H,I.tok _,{_,rfl},h}
def YQ{b j pos}:PE X (.Constant (.bool b) j pos)<|tC<|.bl b:=λ_ _ _ H _ I h=>Constant_bool {.bl b,H,I,rfl,h}
def T7{j pos}:PE X (.Constant .none j pos)<|tC .non:=λ_ _ _ H _ I h=>Constant_none {.non,H,I,rfl,h}
def VX{x j pos}:PE X (.Constant (.str x) j pos)<|tC<|.str x:=λ_ _ _ H _ I h=>Calls.Constant_str {.str x,H,I.tok _,{_,rfl},h}
def Gl(X:Cx)(x:Str):Prop:=X.env.kindOf x=b4 .globalImplicit
def FS(I:Inv X pins σ H s)(q:Gl X x)(B:X.mg x=b4 u)(h:Q u s)
  (z:(x == ("__debug__" : Str))=cr:=by decide):wpAny (model X.prog X.w) X.A (eval (.Name x pos) X.env) Q E s:=
 Calls.Name_function_global I.ok.kind q (Calls.loadGlobal_global (by rw[I.ok.glob];exact I.mod.glob.keeps I.bk) B h) z
def fZ{E:Value->zab->Prop}{pins:List (Addr×Obj)}{s:zab}{σ:St}{H:Hp}{x:Str}{u:Value}{pos:Pos}{Q:Value->zab->Prop}(I:Inv X pins σ H s)(B:Gl X x)(q:X.mg x=cg)(z:zaO x=b4 u)(h:Q u s)
  (F:x ≠ "__name__" := by decide) (G:(x == ("__debug__" : Str))=cr:=by decide):wpAny (model X.prog X.w) X.A (eval (.Name x pos) X.env) Q E s:=by
 obtain⟨J,h1,h2⟩:=I.mod.blt;exact Calls.Name_function_global I.ok.kind B (Calls.loadGlobal_builtin (by rw[I.ok.glob];exact I.mod.glob.keeps I.bk) q (by rw[I.ok.blt];exact h1.keeps I.bk) ((h2 x F).trans z) h) G
def EU(q:Gl X x)(B:X.mg x=b4 u)(r:RelV v u)(z:(x == ("__debug__" : Str))=cr:=by decide):PE X (.Name x pos)<|tC v:=
 λ_ _ _ H _ I h=>FS I q B {v,H,I,r,h} z
def OP(B:Gl X x)(q:X.mg x=cg)(z:zaO x=b4 u)(r:RelV v u)(F:x ≠ "__name__" := by decide)(G:(x == ("__debug__" : Str))=cr:=by decide):PE X (.Name x pos)<|tC v:=
 λ_ _ _ H _ I h=>fZ I B q z {v,H,I,r,h} F G
variable {a b:Expr}{ta tb:TE}{pos:Pos}
def tB(t:TE):TT:=λσ H Q=>t σ H λx H1=>∃c,x=.bl c/\Q c H1
def UR{e:Expr}{t:TE}(h:PE X e t)(G:∀z,isTrue e X.env z=(do let v <- z;standAt e.pos;zcr [v]<|truthy v):=by intro _;rfl):PT X e<|tB t:=by
 intro pins s σ H Q I hw;refine isTrue_plain (bN (h pins s σ H _ I hw) λv N ⟨x,H1,J,F,B⟩=>?_)<|G _;obtain⟨d,rfl,q⟩:=B;cases F;exact zbz {H1,J,q}
variable {tA tB':TT}{rest:List Expr}
def qbm(t u:TT):TT:=λσ H Q=>t σ H λc H1=>if c=cp then u σ H1 Q else Q cr H1
def tOr(t u:TT):TT:=λσ H Q=>t σ H λc H1=>if c=cp then Q cp H1 else u σ H1 Q
def qaK(t:TT):TT:=λσ H Q=>t σ H λc H1=>Q (!c) H1
def RA(q:PT X a tA):PW X (.BoolOp .And [a] pos) tA:=by
 intro B pins s σ H Q I h;refine isTrue_and<|bN (q pins s σ H Q I h) λc z e=>?_;cases c with
 |true=>exact isTrue_and_nil e
 |false=>exact e
def U6(q:PT X a tA):PW X (.BoolOp .Or [a] pos) tA:=by
 intro B pins s σ H Q I h;refine isTrue_or<|bN (q pins s σ H Q I h) λc z e=>?_;cases c with
 |false=>exact isTrue_or_nil e
 |true=>exact e
def UQ(G:PT X a tA)(J:PW X (.BoolOp .And (b::rest) pos) tB'):PW X (.BoolOp .And (a::b::rest) pos)<|qbm tA tB':=by
 intro F pins s σ H Q I h;refine isTrue_and<|bN (G pins s σ H _ I h) λc B ⟨H1,z,q⟩=>?_;cases c with
 |true=>exact J F pins B σ H1 Q z q
 |false=>exact{H1,z,q}
def ZT(G:PT X a tA)(J:PW X (.BoolOp .Or (b::rest) pos) tB'):PW X (.BoolOp .Or (a::b::rest) pos)<|tOr tA tB':=by
 intro F pins s σ H Q I h;refine isTrue_or<|bN (G pins s σ H _ I h) λc B ⟨H1,z,q⟩=>?_;cases c with
 |true=>exact{H1,z,q}
 |false=>exact J F pins B σ H1 Q z q
def TJ(z:PT X a tA):PT X (.UnaryOp .Not a pos)<|qaK tA:=by
 intro pins s σ H Q I h;exact isTrue_not<|bN (z pins s σ H (λc H1=>Q (!c) H1) I h) λ_ _ ⟨H',i,q⟩=>{H',i,q}
def ZK(ta tb:TE):TE:=λσ H Q=>ta σ H λx H1=>∃c,x=.bl c/\if c=cp then tb σ H1 Q else Q (.bl cr) H1
def qbo(ta tb:TE):TE:=λσ H Q=>ta σ H λx H1=>∃c,x=.bl c/\if c=cp then Q (.bl cp) H1 else tb σ H1 Q
def ZQ(ta:TE):TE:=λσ H Q=>ta σ H λx H1=>∃c,x=.bl c/\Q (.bl<|!c) H1
def V1{op}(h:PE X a t):PE X (.BoolOp op [a] pos) t:=λpins s σ H Q I hw=>BoolOp_one<|h pins s σ H Q I hw
def TR(F:PE X a ta)(G:PE X (.BoolOp .And (b::rest) pos) tb):PE X (.BoolOp .And (a::b::rest) pos)<|ZK ta tb:=by
 intro pins s σ H Q I h;refine BoolOp_and<|bN (F pins s σ H _ I h) λv B ⟨x,H1,z,J,q⟩=>?_;obtain⟨c,rfl,q⟩:=q;cases J;refine zbz ?_;cases c with
 |true=>exact G pins B σ H1 Q z q
 |false=>exact{.bl cr,H1,z,rfl,q}
def ZV(F:PE X a ta)(G:PE X (.BoolOp .Or (b::rest) pos) tb):PE X (.BoolOp .Or (a::b::rest) pos)<|qbo ta tb:=by
 intro pins s σ H Q I h;refine BoolOp_or<|bN (F pins s σ H _ I h) λv B ⟨x,H1,z,J,q⟩=>?_;obtain⟨c,rfl,q⟩:=q;cases J;refine zbz ?_;cases c with
 |false=>exact G pins B σ H1 Q z q
 |true=>exact{.bl cp,H1,z,rfl,q}
def VM(z:PE X a ta):PE X (.UnaryOp .Not a pos)<|ZQ ta:=by
 intro pins s σ H Q I h;refine UnaryOp_<|bN (z pins s σ H _ I h) λv G ⟨x,H1,F,B,q⟩=>?_;obtain⟨c,rfl,q⟩:=q;cases B;exact not_of<|zbz {.bl<|!c,H1,F,rfl,q}
def tIf(t:TT)(ta tb:TE):TE:=λσ H Q=>t σ H λc H1=>if c=cp then ta σ H1 Q else tb σ H1 Q
def K2{c:Expr}(G:PT X c tA)(F:PE X a ta)(J:PE X b tb):PE X (.IfExp c a b pos)<|tIf tA ta tb:=by
 intro pins s σ H Q I h;refine wpAny_IfExp<|bN (G pins s σ H _ I h) λd z ⟨H1,B,q⟩=>?_;cases d with
 |true=>exact F pins z σ H1 Q B q
 |false=>exact J pins z σ H1 Q B q
end
def SqL(K:zaf)(H:Hp)(a:Addr)(xs:List V):Prop:=
 Rd H a (.lst xs) \/
  ∃(o:Obj) (its:Array Value) (n:Nat),K.lookup a=b4 o/\o.cls=.type "list" /\ o.dict=cg/\o.data=.seq its n/\its.size<=zal/\Vals xs its.toList
def SqT(K:zaf)(H:Hp)(a:Addr)(xs:List V):Prop:=
 Rd H a (.tup xs) \/
  ∃(o:Obj) (its:Array Value) (n:Nat),K.lookup a=b4 o/\o.cls=.type "tuple" /\ o.data=.seq its n/\its.size<=zal/\Vals xs its.toList
def qaN:Value->Option V
 |.none=>b4 .non
 |.bool b=>b4<|.bl b
 |.int i _=>b4<|.int i
 |.str x _=>b4<|.str x
 |.bytes b _=>b4<|.byt b
 |.float b _=>b4<|.flt b
 |.ref a=>b4<|.ref a
 |.type n=>b4<|.ty n
 |_=>cg
def RelV.abs(r:RelV x u):qaN u=b4 x:=by
 cases x with
 |non=>cases r;rfl
 |bl _=>cases r;rfl
 |int _=>obtain⟨t,rfl⟩:=r;rfl
 |str _=>obtain⟨t,rfl⟩:=r;rfl
 |byt _=>obtain⟨t,rfl⟩:=r;rfl
 |flt _=>obtain⟨t,rfl⟩:=r;rfl
 |ref _=>cases r;rfl
 |ty _=>cases r;rfl
def RelV.inj(r:RelV x u)(q:RelV y u):x=y:=zaD<|r.abs.symm.trans q.abs
theorem Vals.inj:∀ {xs ys:List V} {us:List Value},Vals xs us->Vals ys us->xs=ys
 |_,_,_,.nil,.nil=>rfl
 |_,_,_,.cons r t,.cons r' t'=>by rw[r.inj r',Vals.inj t t']
section
variable {X:Cx}{pins:List (Addr×Obj)}{σ:St}{H:Hp}{s:zab}{a:Addr}{xs ys:List V}
def SqL.of{K:zaf}(h:H a=b4 (.lst xs)):SqL K H a xs:=.inl<|.inl h
def SqT.of{K:zaf}(h:H a=b4 (.tup xs)):SqT K H a xs:=.inl<|.inl h
def Inv.list(I:Inv X pins σ H s)(h:SqL X.K H a xs):∃q:List Value,Vals xs q/\PlainL s.heap a q.toArray/\xs.length<=zal:=by
 rcases h with h|⟨o,q,n,B,G,F,hs,hz,r⟩
 .obtain⟨z,q,n,r,e⟩:=h.ok I.hok
  exact{q,r,{_,n,e,rfl,rfl,rfl},z}
 .refine{q.toList,r,{o,n,I.kIn a o B,G,F,by simpa using hs},?_}
  have e:=r.length;simp only[zbg]at e
  lia
def Inv.tuple(I:Inv X pins σ H s)(h:SqT X.K H a xs):∃q:List Value,Vals xs q/\IsTup s.heap a q.toArray/\xs.length<=zal:=by
 rcases h with h|⟨o,q,n,B,F,hs,hz,r⟩
 .obtain⟨z,q,r,p⟩:=h.ok I.hok
  exact{q,r,p.tup,z}
 .refine{q.toList,r,{o,I.kIn a o B,F,n,by simpa using hs},?_}
  have e:=r.length;simp only[zbg]at e
  lia
def Inv.list_inj(I:Inv X pins σ H s)(h:SqL X.K H a xs)(h':SqL X.K H a ys):xs=ys:=by
 obtain⟨q,r,⟨o,n,e,_,_,d⟩,_⟩:=I.list h;obtain⟨its',B,⟨o',F,z,_,_,d'⟩,_⟩:=I.list h';rw[e]at z;cases z;rw[d]at d';injection d' with d1 _
 have:q=its':=by simpa using congrArg Array.toList d1
 subst this;exact r.inj B
def Inv.tuple_inj(I:Inv X pins σ H s)(h:SqT X.K H a xs)(h':SqT X.K H a ys):xs=ys:=by
 obtain⟨q,r,⟨o,e,_,n,d⟩,_⟩:=I.tuple h;obtain⟨its',B,⟨o',z,_,F,d'⟩,_⟩:=I.tuple h';rw[e]at z;cases z;rw[d]at d';injection d' with d1 _
 have:q=its':=by simpa using congrArg Array.toList d1
 subst this;exact r.inj B
end
abbrev Cx.wish(X:Cx)(E:Value->zab->Prop):Cx:={X with xe:=E}
abbrev Cx.nox(X:Cx):Cx:=X.wish λ_ _=>False
theorem Cx.Ok.wish{X:Cx}(ok:X.Ok)(E:Value->zab->Prop):(X.wish E).Ok:=
 {ok.mod,ok.kind,ok.glob,ok.blt,ok.above,ok.inj,ok.has,ok.cab,ok.hd,ok.frames,ok.stk,ok.exf,ok.bs,ok.bsz,ok.noex,ok.exfs,ok.funs,ok.frf}
def Cx.Ok.unwish{X:Cx}{E:Value->zab->Prop}(ok:(X.wish E).Ok):X.Ok:=
 {ok.mod,ok.kind,ok.glob,ok.blt,ok.above,ok.inj,ok.has,ok.cab,ok.hd,ok.frames,ok.stk,ok.exf,ok.bs,ok.bsz,ok.noex,ok.exfs,ok.funs,ok.frf}
section
variable {X:Cx}{pins:List (Addr×Obj)}{σ:St}{H:Hp}{s:zab}{E:Value->zab->Prop}
theorem Inv.wish(I:Inv X pins σ H s)(E:Value->zab->Prop):Inv (X.wish E) pins σ H s:={I.ok.wish E,I.os,I.bare,I.base,I.loc,I.cell,I.free,I.freeC,I.pin,I.hok,I.len}
theorem Inv.unwish(I:Inv (X.wish E) pins σ H s):Inv X pins σ H s:={I.ok.unwish,I.os,I.bare,I.base,I.loc,I.cell,I.free,I.freeC,I.pin,I.hok,I.len}
theorem SP.unwish(h:SP (X.wish E) pins D f s'):SP X pins D f s':=by
 cases f with
 |next=>obtain⟨z,H',I,q⟩:=h;exact{z,H',I.unwish,q}
 |brk=>obtain⟨z,H',I,q⟩:=h;exact{z,H',I.unwish,q}
 |cont=>obtain⟨z,H',I,q⟩:=h;exact{z,H',I.unwish,q}
 |ret u=>obtain⟨v,z,H',I,r,q⟩:=h;exact{v,z,H',I.unwish,r,q}
theorem PSs.nox{st:List Stmt}{t:TS}(h:PSs X.nox st t):PSs X st t:=λpins s σ H D I hw=>
 zbb (h pins s σ H D (I.wish _) hw) (λ_ _ q=>q.unwish) λ_ _ z=>zbF z
end
section
variable {X:Cx}{st:Stmt}{rest:List Stmt}{t u:TS}{e:Expr}{te:TE}{pos:Pos}
def YW:TS:=λD σ H=>D.nx σ H
def qa(t u:TS):TS:=λD σ H=>t {D with nx:=u D} σ H
def QA:PSs X [] YW:=λ_ _ σ H _ I h=>zdH {σ,H,I,h}
def KM(h1:PS X st t)(h2:PSs X rest u):PSs X (st::rest)<|qa t u:=by
 intro pins s σ H D I h;refine wpAny_execs_cons<|bN (h1 pins s σ H {D with nx:=u D} I h) λf B q=>?_;cases f with
 |next=>
  obtain⟨z,H',F,q⟩:=q;exact h2 pins B z H' D F q
 |ret v=>exact q
 |brk=>exact q
 |cont=>exact q
def OY(h1:PS X st t):PSs X [st] t:=by
 intro pins s σ H D I h;refine wpAny_execs_cons<|bN (h1 pins s σ H D I h) λf z q=>?_;cases f with
 |next=>exact zdH q
 |ret v=>exact q
 |brk=>exact q
 |cont=>exact q
def Inv.quiet(I:Inv X pins σ H s):interactive X.env=cr:=by simp[interactive,I.ok.kind]
def Z3(te:TE):TS:=λD σ H=>te σ H λ_ H1=>D.nx σ H1
def FO(z:PE X e te)(hs:za7 e cg pos.line X.env=pure cr:=by rfl):PS X (.Expr e pos)<|Z3 te:=by
 intro pins s σ H D I h;exact wpAny_Expr_any (bN (z pins s σ H _ I h) λv F ⟨x,H1,B,G,q⟩=>{σ,H1,B,q}) I.quiet hs
def qaO(te:TE):TS:=λD σ H=>te σ H D.rt
def UN(B:PE X e te):PS X (.Return (b4 e) pos)<|qaO te:=by
 intro pins s σ H D I h;exact wpAny_Return_some<|bN (B pins s σ H _ I h) λv G ⟨x,H1,F,z,q⟩=>{x,σ,H1,F,z,q}
def qa6(c:TT)(t u:TS):TS:=λD σ H=>c σ H λb H1=>if b=cp then t D σ H1 else u D σ H1
def ZC{c:Expr}{a b:List Stmt}{tc:TT}(J:PT X c tc)(F:PSs X a t)(G:PSs X b u):PS X (.If c a b pos)<|qa6 tc t u:=by
 intro pins s σ H D I h;refine wpAny_If<|bN (J pins s σ H _ I h) λd z ⟨H1,B,q⟩=>?_;cases d with
 |true=>exact F pins z σ H1 D B q
 |false=>exact G pins z σ H1 D B q
end
abbrev TG:=V->St->Hp->(St->Hp->Prop)->Prop
abbrev S8:=List V->St->Hp->(St->Hp->Prop)->Prop
def PG(X:Cx)(q:Expr)(t:TG):Prop:=
 ∀(pins:List<|Addr×Obj) (s:zab) (σ:St) (H:Hp) (v:V) (u:Value) (Q:St->Hp->Prop),Inv X pins σ H s->RelV v u->t v σ H Q->
  wpAny (model X.prog X.w) X.A (zbs q X.env u) (λ_ s'=>∃z H',Inv X pins z H' s'/\Q z H') X.xe s
def PGs(X:Cx)(ts:List Expr)(t:S8):Prop:=
 ∀(pins:List<|Addr×Obj) (s:zab) (σ:St) (H:Hp) (vs:List V) (us:List Value) (Q:St->Hp->Prop),Inv X pins σ H s->Vals vs us->t vs σ H Q->
  wpAny (model X.prog X.w) X.A (assignInOrder ((zbh ts X.env).map (·.2)) us) (λ_ s'=>∃q H',Inv X pins q H' s'/\Q q H') X.xe s
abbrev NW:=V->V->V->Hp->(Hp->Prop)->Prop
def SD(X:Cx)(t:NW):Prop:=
 ∀(pins:List<|Addr×Obj) (s:zab) (σ:St) (H:Hp) (o i v:V) (ov iv u:Value) (Q:Hp->Prop),Inv X pins σ H s->RelV o ov->RelV i iv->RelV v u->t o i v H Q->
  wpAny (model X.prog X.w) X.A (setItem ov iv u) (λ_ s'=>∃H',Inv X pins σ H' s'/\Q H') X.xe s
section
variable {X:Cx}{pos:Pos}
def uG(i:Nat):TG:=λv σ H Q=>Q (σ.set i<|b4 v) H
def F2(z:X.N.Nodup)(hi:X.N[i]?=b4 x)(q:Loc X.env.scope x)(F:X.fn x=cp\/X.env.scope.names.lookup x=b4 .local:=by first|exact .inl rfl|exact .inr rfl|assumption):PG X (.Name x pos)<|uG i:=by
 intro pins s σ H v u Q I r h;exact wpAny_assign_Name<|BB I z hi q r (λs' B=>{_,H,B,h}) F
def qaQ:S8:=λvs σ H Q=>vs=[]/\Q σ H
def S2(t:TG)(u:S8):S8:=λvs σ H Q=>∃v r,vs=v::r/\t v σ H λq H'=>u r q H' Q
def RK:PGs X [] qaQ:=by
 intro pins s σ H vs us Q I r h;obtain⟨e,h⟩:=h;subst e;cases r;exact assignInOrder_nil {σ,H,I,h}
def LU{e:Expr}{es:List Expr}{t:TG}{u:S8}(h1:PG X e t)(h2:PGs X es u)
  (hs:(zbh (e::es) X.env).map (·.2)=zbs e X.env::(zbh es X.env).map (·.2):=by rfl):PGs X (e::es)<|S2 t u:=by
 intro pins s σ H vs us Q I r h;obtain⟨v,J,F,h⟩:=h;subst F;cases r with
 |cons r rr=>
  rw[hs];refine assignInOrder_cons<|bN (h1 pins s σ H _ _ _ I r h) λ_ B ⟨q,H1,G,z⟩=>?_;exact h2 pins B q H1 _ _ Q G rr z
def qm(K:zaf)(n:Nat)(t:S8):TG:=λv σ H Q=>∃a xs,v=.ref a/\SqT K H a xs/\xs.length=n/\t xs σ H Q
def M0(J:X.calm=cp)(h:PGs X es t)
  (Y:(zbh es X.env).length=n:=by rfl) (q:(zbh es X.env).findIdx? (·.1)=cg:=by rfl):PG X (.Tuple es k pos)<|qm X.K n t:=by
 intro pins s σ H v u Q I r hw;obtain⟨a,xs,W,G,U,hw⟩:=hw;subst W;cases r;obtain⟨B,z,N,hz⟩:=I.tuple G;refine assign_Tuple_tuple (I.ok.hd J) N (by simp[Y,<- U,z.length]) q λh' F=>?_
 have I1:Inv X pins σ H {s with heap:=h'}:=I.kept (t':=s.toks) λb o e=>F b o (zaB<|zai e) e
 exact h pins _ σ H xs _ Q I1 (by simpa using z) hw
def XW(to q:TE)(t:NW):TG:=λv σ H Q=>to σ H λo H1=>q σ H1 λi H2=>t o i v H2 λz=>Q σ z
def MD{o i:Expr}{to B:TE}{t:NW}(ho:PE X o to)(hi:PE X i B)(hs:SD X t)
  (N:∀v, zbs (.Subscript o i pos) X.env v = (do
   let q <- zcr [v]<|eval o X.env;let z <- zcr [v,q]<|eval i X.env
   standAt pos
   zcr [v,q,z] (setItem q z v)
   release [v,q,z] []):=by intro _;rfl):PG X (.Subscript o i pos)<|XW to B t:=by
 intro pins s σ H v u Q I r h;rw[N];refine zaa<|zbn<|bN (ho pins s σ H _ I h) λq G ⟨x,H1,I1,U,F⟩=>?_;refine zaa<|zbn<|bN (hi pins G σ H1 _ I1 F) λz s2 ⟨y,H2,I2,r2,J⟩=>?_;refine zaa<|zdj<|zaa<|zbn<|bN (hs pins s2 σ H2 x y v q z u _ I2 U r2 r J) λ_ s3 ⟨W,I3,Y⟩=>?_;exact wpAny_release {σ,W,I3,Y}
def N3(te:TE)(g:TG):TS:=λD σ H=>te σ H λx H1=>g x σ H1 D.nx
def MN{tg e:Expr}{te:TE}{g:TG}(G:PE X e te)(J:PG X tg g)(hs:zdI [tg] e pos.line X.env=pure cr:=by rfl)(hw:zdJ [tg] e X.env=pure cg:=by rfl)
  (h1:(zbh [tg] X.env).map (·.2)=[zbs tg X.env]:=by rfl):PS X (.Assign [tg] e pos)<|N3 te g:=by
 intro pins s σ H D I h;refine wpAny_Assign_stores (bN (G pins s σ H _ I h) λv B ⟨x,H1,N,F,z⟩=>?_) hs hw;rw[h1];exact bN (J pins B σ H1 x v _ N F z) λ_ U q=>q
def NE{i:Nat}{x:Str}{e:Expr}{te:TE}{pos':Pos}(J:X.N.Nodup)(hi:X.N[i]?=b4 x)(z:Loc X.env.scope x)(F:PE X e te)(hs:za7 e (b4<|.Name x pos') pos.line X.env=pure cr:=by rfl)(W:X.fn x=cp\/X.env.scope.names.lookup x=b4 .local:=by first|exact .inl rfl|exact .inr rfl|assumption) :
  PS X (.Assign [.Name x pos'] e pos) (N3 te<|uG i):=by
 intro pins s σ H D I h;refine wpAny_Assign_Name (bN (F pins s σ H _ I h) λv Y ⟨y,H1,U,B,q⟩=>?_) hs;exact BB U J hi z B (λs2 G=>{_,H1,G,q}) W
end
section
variable {X:Cx}{pos:Pos}
def U0(c:TT)(tb:TS):TS:=λD σ H=>∃W:Nat->St->Hp->Prop,(∃m,W m σ H)/\∀m σ H,W m σ H->
 c σ H λb H1=>if b=cp then ∃N:St->Hp->Prop,(∀q H',N q H'->∃z,z<m/\W z q H')/\tb {D with nx:=N,ct:=N,bk:=D.nx} σ H1 else D.nx σ H1
def J6{c:Expr}{body:List Stmt}{tc:TT}{tb:TS}(hp:zcU (model X.prog X.w) X.A X.env X.xe)(hc:PT X c tc)(hb:PSs X body tb):PS X (.While c body [] pos)<|U0 tc tb:=by
 intro pins s σ H D I h;obtain⟨W,⟨m0,w0⟩,turn⟩:=h;refine wpAny_While<|codeAny_whileLoop (λn s'=>∃B H',Inv X pins B H' s'/\W n B H') ?_ m0 {σ,H,I,w0};rintro n s1 ⟨z,H1,I1,w1⟩;refine zcB hp<|bN (hc pins s1 z H1 _ I1<|turn n z H1 w1) λb s2 ⟨H2,I2,J⟩=>?_;cases b with
 |true=>
  obtain⟨N,hN,J⟩:=J;rw[cw rfl];refine zcB hp<|bN (hb pins s2 z H2 _ I2 J) λf s3 G=>?_;cases f with
  |next=>
   obtain⟨q,F,Y,n3⟩:=G;obtain⟨m',hm,U⟩:=hN q F n3;exact{m',hm,q,F,Y,U}
  |cont=>
   obtain⟨q,F,Y,n3⟩:=G;obtain⟨m',hm,U⟩:=hN q F n3;exact{m',hm,q,F,Y,U}
  |brk=>exact G
  |ret v=>exact G
 |false=>
  rw[cx zat];exact zdH {z,H2,I2,J}
end
structure It where
 go:Nat->Hp->Prop
 yld:Nat->Hp->V->Hp->Prop
 stop:Nat->Hp->Prop
def jA(X:Cx)(pins:List<|Addr×Obj)(H:Hp)(b:Addr):Prop:=
 H b=cg/\b≠X.env.locals/\b∉X.fs/\(b∈X.ex\/X.s₀.heap.objs.size<=b)/\(∀x c,X.env.cells.lookup x=b4 c->c≠b)/\∀p∈X.pn++pins,p.1≠b
def Inv.fpOk(I:Inv X pins σ H s)(B:s.heap.objs.size<=b)(G:H' b=cg):jA X pins H' b:=by
 refine{G,zaK<|zba I.lt B,I.nofs B,.inr<|zbf I.sz B,λx c e z=>?_,λp F z=>?_}
 .obtain⟨v,q⟩:=I.cell x c e
  exact absurd (zba q.lt<|by rw[z];exact B)<|zbe _
 .exact absurd (zba (zai (I.pin p F).1)<|by rw[z];exact B)<|zbe _
structure Turn(P:zap)(w:World)(K:zaf)(tg:Expr)(J:It)(fp:List Addr)(it:Addr)(tn:Nat->Heap->Prop):Prop where
 mem:it∈fp
 obj:∀i h,tn i h->∀b∈fp,∃o,h.get? b=b4 o/\∀v,o.data≠.cell v
 keep:∀i h h',tn i h->(∀b∈fp,∀o,h.get? b=b4 o->h'.get? b=b4 o)->tn i h'
 item:∀(X:Cx),X.prog=P->X.w=w->X.K=K->X.calm=cp->∀(i:Nat) (pins:List<|Addr×Obj) (s:zab) (σ:St) (H:Hp) (E:Value->zab->Prop),Inv X pins σ H s->(∀b∈fp,jA X pins H b)->tn i s.heap->J.go i H->
  wpAny (model P w) X.A (zaL<|.ref it) (λr s1=>∃u,r=b4 u /\
   wpAny (model P w) X.A (zdK tg (.ref it) u) (λ_ s2=>∃x H',Inv X pins σ H' s2/\RelV x u/\J.yld i H x H'/\tn (i+1) s2.heap/\∀b∈fp,H' b=cg) E s1) E s
 done:∀(X:Cx),X.prog=P->X.w=w->X.K=K->X.calm=cp->∀(i:Nat) (pins:List<|Addr×Obj) (s:zab) (σ:St) (H:Hp) (E:Value->zab->Prop),Inv X pins σ H s->(∀b∈fp,jA X pins H b)->tn i s.heap->J.stop i H->
  wpAny (model P w) X.A (zaL<|.ref it) (λr s1=>r=cg/\Inv X pins σ H s1) E s
 self:∀(A:zas) (i:Nat) (s:zab) (Q:Value->zab->Prop) (E:Value->zab->Prop),tn i s.heap->Q (.ref it) s->wpAny (model P w) A (pyIter<|.ref it) Q E s
abbrev TI:=St->Hp->(It->Hp->Prop)->Prop
def PIE(X:Cx)(pins:List<|Addr×Obj)(σ:St)(tg:Expr)(R:It->Hp->Prop)(q:Value)(z:zab):Prop:=
 ∃(it:Addr) (fp:List Addr) (tn:Nat->Heap->Prop) (J:It) (H':Hp),q=.ref it/\Inv X pins σ H' z/\Turn X.prog X.w X.K tg J fp it tn/\tn 0 z.heap/\(∀b∈fp,jA X pins H' b)/\R J H'
def PI(X:Cx)(tg q:Expr)(wi:TI):Prop:=
 ∀(pins:List<|Addr×Obj) (s:zab) (σ:St) (H:Hp) (R:It->Hp->Prop),Inv X pins σ H s->wi σ H R->
  wpAny (model X.prog X.w) X.A (eval q X.env) (λv z=>wpAny (model X.prog X.w) X.A (pyIter v) (PIE X pins σ tg R) X.xe z) X.xe s
def pN(B:s.heap.get? it=b4 o)(z:o.cls=.type n)(G:o.data=.fields vs)
    (F:["enumerate", "zip", "dict_itemiterator", "dict_reverseitemiterator", "odict_iterator", "itertools.zip_longest", "itertools.pairwise"].contains n=cr) (q:Q () s):wpAny M A (zdK tg (.ref it) u) Q E s:=by
  unfold zdK;cases tg <;> first
    | exact zac q
    | (cases u <;> first
        | exact zac q
        | (refine zaa (wpAny_load B ?_)
           rw[z,G];show wpAny M A (if(["enumerate", "zip", "dict_itemiterator", "dict_reverseitemiterator", "odict_iterator", "itertools.zip_longest", "itertools.pairwise"].contains n && vs[0]? == b4 (zaP _))=cp then _ else _) Q E s;rw[cx<|by intro h;rw[F,Bool.false_and]at h;cases h];exact zac q))
def Itl(K:zaf)(a:Addr):It:=
 {λi H=>∃xs x,SqL K H a xs/\xs[i]?=b4 x,λi H x H'=>H'=H/\∀xs,SqL K H a xs->xs[i]?=b4 x,λi H=>∃xs,SqL K H a xs/\xs.length<=i}
def Itt(K:zaf)(a:Addr):It:=
 {λi H=>∃xs x,SqT K H a xs/\xs[i]?=b4 x,λi H x H'=>H'=H/\∀xs,SqT K H a xs->xs[i]?=b4 x,λi H=>∃xs,SqT K H a xs/\xs.length<=i}
def Itr(lo:Int)(n:Nat):It:={λi _=>i<n,λi H x H'=>H'=H/\x=.int (lo+i),λi _=>n<=i}
def ID{P:zap}{w:World}{K:zaf}{tg:Expr}(a it:Addr):Turn P w K tg (Itl K a) [it] it (λi h=>h.IsListIter it a i) where
 mem:=by simp
 obj:=λi h st b q=>by
  have e:b=it:=by simpa using q
  subst e;obtain⟨o,e,c,d⟩:=st;exact{o,e,λv z=>by rw[d]at z;cases z}
 keep:=λi h h' st k=>st.at λo e=>k it (by simp) o e
 item:=by
  intro X hP hw N hc i pins s σ H E I G st Y;subst hP hw N;obtain⟨xs,x,F,U⟩:=Y;obtain⟨ab,rv,p,hz⟩:=I.list F;obtain⟨u,hu,ru⟩:=rv.get U;obtain⟨f0,f1,f2,J,f4,W⟩:=G it (by simp);refine wpAny_pyNext_list_item st p.isList (x:=u) (by simpa using hu) λh' B sb=>?_
  have I1:Inv X pins σ H {s with heap:=h'}:=I.turned (t':=s.toks) (λb o q e=>(sb.2 b q).trans e) f0 f1 J f4 W;obtain⟨o,e,c,d⟩:=id B;exact{u,rfl,pN (s:={s with heap:=h'}) e c d (by decide) {x,H,I1,ru,{rfl,λys hy=>by rw[I.list_inj hy F];exact U},B,λb q=>(G b q).1}}
 done:=by
  intro X hP hw N hc i pins s σ H E I G st Y;subst hP hw N;obtain⟨xs,F,U⟩:=Y;obtain⟨ab,rv,p,hz⟩:=I.list F;obtain⟨f0,f1,f2,J,f4,W⟩:=G it (by simp);have hl:=rv.length;exact wpAny_pyNext_list_end (I.ok.hd hc) st p.isList (by simp;lia) λh' eb=>{rfl,I.turned (t':=s.toks) (λb o q e=>eb b o q e) f0 f1 J f4 W}
 self:=λ_ _ _ _ _ st h=>wpAny_pyIter_listiter st h
def B6{P:zap}{w:World}{K:zaf}{tg:Expr}(a it:Addr):Turn P w K tg (Itt K a) [it] it (λi h=>h.IsTupleIter it a i) where
 mem:=by simp
 obj:=λi h st b q=>by
  have e:b=it:=by simpa using q
  subst e;obtain⟨o,e,c,d⟩:=st;exact{o,e,λv z=>by rw[d]at z;cases z}
 keep:=λi h h' st k=>st.at λo e=>k it (by simp) o e
 item:=by
  intro X hP hw U hc i pins s σ H E I J st hg;subst hP hw U;obtain⟨xs,x,G,W⟩:=hg;obtain⟨B,rv,p,hz⟩:=I.tuple G;obtain⟨u,hu,ru⟩:=rv.get W;obtain⟨f0,f1,f2,N,f4,Y⟩:=J it (by simp);refine wpAny_pyNext_tuple_item st (show s.heap.IsTuple a B.toArray from p) (x:=u) (by simpa using hu) λh' F sb=>?_
  have I1:Inv X pins σ H {s with heap:=h'}:=I.turned (t':=s.toks) (λb o q e=>(sb.2 b q).trans e) f0 f1 N f4 Y;obtain⟨o,e,c,d⟩:=id F;exact{u,rfl,pN (s:={s with heap:=h'}) e c d (by decide) {x,H,I1,ru,{rfl,λys hy=>by rw[I.tuple_inj hy G];exact W},F,λb q=>(J b q).1}}
 done:=by
  intro X hP hw U hc i pins s σ H E I J st hg;subst hP hw U;obtain⟨xs,G,W⟩:=hg;obtain⟨B,rv,p,hz⟩:=I.tuple G;obtain⟨f0,f1,f2,N,f4,Y⟩:=J it (by simp);have hl:=rv.length;exact wpAny_pyNext_tuple_end (I.ok.hd hc) st (show s.heap.IsTuple a B.toArray from p) (by simp;lia) λh' eb=>{rfl,I.turned (t':=s.toks) (λb o q e=>eb b o q e) f0 f1 N f4 Y}
 self:=λ_ _ _ _ _ st h=>wpAny_pyIter_tupleiter st h
def DD{P:zap}{w:World}{K:zaf}{tg:Expr}(it:Addr)(lo:Int)(n:Nat):Turn P w K tg (Itr lo n) [it] it (λi h=>zdL h it (lo+(i:Nat)*1) ((n:Int)-(i:Nat)) 1) where
 mem:=by simp
 obj:=λi h st b q=>by
  have e:b=it:=by simpa using q
  subst e;exact⟨_,st,λv z=>by
   have z':Data.fields _=Data.cell v:=z;cases z'⟩
 keep:=λi h h' st k=>k it (by simp) _ st
 item:=by
  intro X Y hw hK U i pins s σ H E I F st hg;subst Y hw hK;obtain⟨N,J,f2,G,f4,f5⟩:=F it (by simp);have W:=Walks.range (prog:=X.prog) (w:=X.w) (I.ok.hd U) it lo 1 n;refine W.item i s _ _ hg st λv h' tk hv B kk=>?_
  obtain⟨t,rfl⟩:=hv;have I1:Inv X pins σ H {s with heap:=h',toks:=tk}:=I.turned (λb o q e=>kk b o (by simpa using q) e) N J G f4 f5;refine{_,rfl,pN (s:={s with heap:=h',toks:=tk}) (n := "range_iterator") B rfl rfl (by decide) {.int<|lo+i,H,I1,{t,?_},{rfl,rfl},B,λb q=>(F b q).1}};rw[zbR]
 done:=by
  intro X Y hw hK U i pins s σ H E I F st hg;subst Y hw hK;obtain⟨N,J,f2,G,f4,f5⟩:=F it (by simp);exact wpAny_pyNext_range_end (I.ok.hd U) st (by have:n<=i:=hg;lia) λh' eb=>{rfl,I.turned (t':=s.toks) (λb o q e=>eb b o q e) N J G f4 f5}
 self:=λ_ _ _ _ _ st h=>wpAny_pyIter_rangeiter st h
section
variable {X:Cx}{tg:Expr}
def Y3(K:zaf)(tl:TE):TI:=λσ H R=>tl σ H λx H1=>∃a,x=.ref a/\(∃xs,SqL K H1 a xs)/\R (Itl K a) H1
def qa9(K:zaf)(tl:TE):TI:=λσ H R=>tl σ H λx H1=>∃a,x=.ref a/\(∃xs,SqT K H1 a xs)/\R (Itt K a) H1
def QJ{l:Expr}{tl:TE}(W:PE X l tl):PI X tg l<|Y3 X.K tl:=by
 intro pins s σ H R I h;refine bN (W pins s σ H _ I h) λv z ⟨x,H1,B,U,G⟩=>?_
 obtain⟨a,e,⟨xs,N⟩,q⟩:=G;subst e;cases U;obtain⟨F,Y,p,hz⟩:=B.list N;refine zcd p.isList ?_;refine{z.heap.objs.size,[z.heap.objs.size],_,_,H1,rfl,B.kept (t':=z.toks) λb o e=>zag _ e,ID a _,{_,zau _ rfl,rfl,rfl},λb J=>?_,q};have e:b=z.heap.objs.size:=by simpa using J
 subst e;exact B.fpOk (zam _)<|B.hok.fresh<|zam _
def TQ{l:Expr}{tl:TE}(W:PE X l tl):PI X tg l<|qa9 X.K tl:=by
 intro pins s σ H R I h;refine bN (W pins s σ H _ I h) λv z ⟨x,H1,B,U,G⟩=>?_
 obtain⟨a,e,⟨xs,N⟩,q⟩:=G;subst e;cases U;obtain⟨F,Y,p,hz⟩:=B.tuple N;refine zbS (show z.heap.IsTuple a F.toArray from p) ?_;refine{z.heap.objs.size,[z.heap.objs.size],_,_,H1,rfl,B.kept (t':=z.toks) λb o e=>zag _ e,B6 a _,{_,zau _ rfl,rfl,rfl},λb J=>?_,q};have e:b=z.heap.objs.size:=by simpa using J
 subst e;exact B.fpOk (zam _)<|B.hok.fresh<|zam _
def BJ{pins:List (Addr×Obj)}{σ:St}{H:Hp}{s:zab}{R:It->Hp->Prop}{E:Value->zab->Prop}{lo hi:Int}{t u v:Tok}{tk:Nat}(I:Inv X pins σ H s)(h1:-(2^62)<=lo)(h2:lo<2^62)(B:-(2^62)<=hi)(G:hi<2^62)
  (q:R (Itr lo (hi-lo).toNat) H):wpAny (model X.prog X.w) X.A (pyIter<|.ref s.heap.objs.size) (PIE X pins σ tg R) E {s with heap:=s.heap.push {cls:=.type "range",data:=.fields #[.int lo t,.int hi u,.int 1 v]},toks:=tk}:=by
 refine wpAny_pyIter_range (IsRange.new ..) (small_one h1 h2 B G) ?_;have z:Inv X pins σ H {s with heap:=s.heap.push {cls:=.type "range",data:=.fields #[.int lo t,.int hi u,.int 1 v]},toks:=tk}:=I.kept λb o e=>zag _ e
 refine⟨(s.heap.push {cls:=.type "range",data:=.fields #[.int lo t,.int hi u,.int 1 v]}).objs.size,[(s.heap.push {cls:=.type "range",data:=.fields #[.int lo t,.int hi u,.int 1 v]}).objs.size],_,_,H,rfl,
  z.kept (t':=tk) λb o e=>zag _ e,DD _ lo (hi-lo).toNat,?_,λb F=>?_,q⟩
 .have J:lo+((0:Nat):Int)*1=lo:=by simp
  have N:(((hi-lo).toNat:Nat):Int)-((0:Nat):Int)=zce lo hi 1:=by rw[rangeSize_one];split <;> lia
  show zdL _ _ (lo+((0:Nat):Int)*1) ((((hi-lo).toNat:Nat):Int)-((0:Nat):Int)) 1;rw[J,N];exact zau _ rfl
 .have e:b=(s.heap.push {cls:=.type "range",data:=.fields #[.int lo t,.int hi u,.int 1 v]}).objs.size:=by simpa using F
  subst e;exact z.fpOk (zam _)<|z.hok.fresh<|zam _
def ZF(ta:TA):TI:=λσ H R=>ta σ H λvs H1=>∃j:Int,vs=[.int j]/\-(2^62)<=j/\j<2^62/\R (Itr 0 j.toNat) H1
def ZY(ta:TA):TI:=λσ H R=>ta σ H λvs H1=>∃i j:Int,vs=[.int i,.int j]/\(-(2^62)<=i/\i<2^62/\-(2^62)<=j/\j<2^62)/\R (Itr i (j-i).toNat) H1
def HW{a:Expr}{ta:TA}{p pos:Pos}(N:Gl X "range")(J:X.mg "range" = cg)(F:PA X [a] ta)(hs:zah [a] X.env=[(cr,eval a X.env)]:=by rfl):PI X tg (.Call (.Name "range" p) [a] [] pos)<|ZF ta:=by
 intro pins s σ H R I h;refine Call_<|fZ I N J boot_range<|zcC (bN (F pos pins s σ H _ I h) λus W ⟨vs,H1,U,G,z⟩=>?_) hs rfl;obtain⟨j,e,z,B,q⟩:=z;subst e;cases G with
 |cons r rr=>
  cases rr;obtain⟨t,rfl⟩:=r;exact call_range_1<|BJ U (by lia) (by lia) z B<|by simpa using q
def HE{a b:Expr}{ta:TA}{p pos:Pos}(W:Gl X "range")(N:X.mg "range" = cg)(G:PA X [a,b] ta)(hs:zah [a,b] X.env=[(cr,eval a X.env),(cr,eval b X.env)]:=by rfl)(z:zah [b] X.env=[(cr,eval b X.env)]:=by rfl) :
  PI X tg (.Call (.Name "range" p) [a,b] [] pos) (ZY ta):=by
 intro pins s σ H R I h;refine Call_ (fZ I W N boot_range<|zcC (bN (G pos pins s σ H _ I h) λus s1 ⟨vs,H1,I1,J,B⟩=>?_) (by rw[hs,z])<|by rw[z];rfl);obtain⟨i,j,e,⟨B,F,U,Y⟩,q⟩:=B;subst e;cases J with
 |cons r rr=>
  cases rr with
  |cons r' rr=>
   cases rr;obtain⟨t,rfl⟩:=r;obtain⟨t',rfl⟩:=r';exact call_range_2<|BJ I1 B F U Y q
def qbf(wi:TI)(g:TG)(tb:TS):TS:=λD σ H=>wi σ H λJ H1=>∃W:Nat->Nat->St->Hp->Prop,(∃m,W 0 m σ H1)/\∀i m σ H,W i m σ H->
 (J.stop i H/\D.nx σ H)\/(J.go i H/\∃N:St->Hp->Prop,(∀q H',N q H'->∃B,B<m/\W (i+1) B q H')/\∀x H',J.yld i H x H'->g x σ H' λz H2=>tb {D with nx:=N,ct:=N,bk:=D.nx} z H2)
def tX(fp:List Addr)(h:Heap):List<|Addr×Obj:=fp.filterMap λb=>(h.get? b).map λo=>(b,o)
def g9(q:b∈fp)(e:h.get? b=b4 o):(b,o)∈tX fp h:=List.mem_filterMap.mpr {b,q,by rw[e];rfl}
def GT(F:p∈tX fp h):p.1∈fp/\h.get? p.1=b4 p.2:=by
 obtain⟨b,z,e⟩:=List.mem_filterMap.mp F;cases q:h.get? b with
 |none=>rw[q]at e;cases e
 |some o=>
  rw[q]at e;have B:(b,o)=p:=zaD e;subst B;exact{z,q}
def Inv.pinned(I:Inv X pins σ H s)(W:∀b∈fp,jA X pins H b)(N:∀b∈fp,∃o,s.heap.get? b=b4 o/\∀v,o.data≠.cell v):Inv X (pins++tX fp s.heap) σ H s:=
 I.pins_of λp J=>(List.mem_append.mp J).elim (λz=>I.pin p<|zbG _ z) λz=>by
  obtain⟨q,e⟩:=GT z;obtain⟨G,F,U,_⟩:=W p.1 q;obtain⟨o,B,d⟩:=N p.1 q;rw[e]at B;cases B;exact{e,G,F,U,d}
def Inv.unpinned(I:Inv X (pins++pl) σ H s):Inv X pins σ H s:=I.pins_of λp q=>I.pin p<|zbG _<|zdi _ q
def WD{ab:Expr}{body:List Stmt}{wi:TI}{g:TG}{tb:TS}{pos:Pos}(hp:zcU (model X.prog X.w) X.A X.env X.xe)(hc:X.calm=cp)(hi:PI X tg ab wi)(hg:PG X tg g)(B:PSs X body tb)
  (hs:∀x,zbT ab X.env x=pure x:=by intro _;rfl):PS X (.For tg ab body [] pos)<|qbf wi g tb:=by
 intro pins s σ H D I h;refine wpAny_For (bN (hi pins s σ H _ I h) λv s1 h1=>bN h1 λbl s2 h2=>?_) hs;obtain⟨it,fp,tn,J,H2,e,I2,T,an,f2,W,⟨m0,w0⟩,turn⟩:=h2;subst e
 -- what stays true of the iterator's objects through the loop
 have Y:∀ {H':Hp},(∀b∈fp,H' b=cg)->∀b∈fp,jA X pins H' b:=λhn b B=>{hn b B,(f2 b B).2}
 refine codeAny_forLoop_any (λn s'=>∃i z H',Inv X pins z H' s'/\tn i s'.heap/\(∀b∈fp,H' b=cg)/\W i n z H') ?_ m0 {0,σ,H2,I2,an,λb B=>(f2 b B).1,w0};rintro n s3 ⟨i,U,H3,I3,ag,ai,w3⟩;rcases turn i n U H3 w3 with⟨ae,qn⟩|⟨go,N,hN,step⟩
 .refine zcB hp (bN (T.done X rfl rfl rfl hc i pins s3 U H3 X.xe I3 (Y ai) ag ae) λr s4 ⟨hr,I4⟩=>?_)
  subst hr;exact zdH {U,H3,I4,qn}
 .refine zcB hp (bN (T.item X rfl rfl rfl hc i pins s3 U H3 X.xe I3 (Y ai) ag go) λr s4 ⟨u,hr,h4⟩=>?_)
  subst hr;refine zcB hp<|bN h4 λ_ s5 ⟨x,H5,I5,r5,y5,ad,am⟩=>?_;have al:=I5.pinned (Y am)<|T.obj _ _ ad;refine zcB hp<|bN (hg _ s5 U H5 x u _ al r5<|step x H5 y5) λ_ s6 ⟨ak,H6,I6,q6⟩=>?_;refine zcB hp<|bN (B _ s6 ak H6 _ I6 q6) λf s7 q7=>?_;have G:∀ {q:St} {H7:Hp},Inv X (pins++tX fp s5.heap) q H7 s7->N q H7->∃m,m<n/\∃i z H',Inv X pins z H' s7/\tn i s7.heap/\(∀b∈fp,H' b=cg)/\W i m z H':=λ{q H7} F n7=>by
   obtain⟨m',hm,w7⟩:=hN q H7 n7;refine{m',hm,i+1,q,H7,F.unpinned,T.keep _ _ _ ad λb B o e=>(F.pin (b,o)<|zbG _<|zbG _<|g9 B e).1,λb B=>?_,w7};obtain⟨o,e,d⟩:=T.obj _ _ ad b B;exact(F.pin (b,o)<|zbG _<|zbG _<|g9 B e).2.1
  cases f with
  |next=>obtain⟨q,H7,F,n7⟩:=q7;exact G F n7
  |cont=>obtain⟨q,H7,F,n7⟩:=q7;exact G F n7
  |brk=>obtain⟨q,H7,F,q7⟩:=q7;exact{q,H7,F.unpinned,q7}
  |ret v=>obtain⟨x7,q,H7,F,r7,q7⟩:=q7;exact{x7,q,H7,F.unpinned,r7,q7}
end
abbrev R2:=V->V->Hp->VK->Prop
def OpR(X:Cx)(f:Value->Value->Sem Value)(r:R2):Prop:=
 ∀(pins:List<|Addr×Obj) (s:zab) (σ:St) (H:Hp) (x y:V) (v u:Value) (Q:VK),Inv X pins σ H s->RelV x v->RelV y u->r x y H Q->
  wpAny (model X.prog X.w) X.A (f v u) (EP X pins σ Q) X.xe s
def UnR(X:Cx)(f:Value->Sem Value)(r:V->Hp->VK->Prop):Prop:=
 ∀(pins:List<|Addr×Obj) (s:zab) (σ:St) (H:Hp) (x:V) (v:Value) (Q:VK),Inv X pins σ H s->RelV x v->r x H Q->
  wpAny (model X.prog X.w) X.A (f v) (EP X pins σ Q) X.xe s
def CallR(X:Cx)(f:Value)(r:List V->Hp->VK->Prop):Prop:=
 ∀(pins:List<|Addr×Obj) (s:zab) (σ:St) (H:Hp) (xs:List V) (us:List Value) (Q:VK),Inv X pins σ H s->Vals xs us->r xs H Q->
  wpAny (model X.prog X.w) X.A (call f us) (EP X pins σ Q) X.xe s
def YI(r:R2)(ta tb:TE):TE:=λσ H Q=>ta σ H λx H1=>tb σ H1 λy H2=>r x y H2 Q
def tUn(r:V->Hp->VK->Prop)(ta:TE):TE:=λσ H Q=>ta σ H λx H1=>r x H1 Q
def rI(C:Int->Int->Prop)(g:Int->Int->V):R2:=λx y H Q=>∃i j,x=.int i/\y=.int j/\C i j/\Q (g i j) H
def N9(g:Int->Int->V):R2:=λx y H Q=>∃i j,x=.int i/\y=.int j/\Q (g i j) H
def rU(g:Int->V):V->Hp->VK->Prop:=λx H Q=>∃i,x=.int i/\Q (g i) H
section
variable {X:Cx}{a b c:Expr}{ta tb tc:TE}{pos:Pos}
def XH(N:PE X a ta)(U:PE X b tb){pins:List (Addr×Obj)}{s:zab}{σ:St}{H:Hp}{R:V->V->Hp->Prop}(I:Inv X pins σ H s)
  (h:ta σ H λx H1=>tb σ H1 λy H2=>R x y H2) {Q:Value->zab->Prop} {f:Value->Value->Sem Value}
  (hf:∀v u B x y H2,Inv X pins σ H2 B->RelV x v->RelV y u->R x y H2->wpAny (model X.prog X.w) X.A (f v u) Q X.xe B) :
  wpAny (model X.prog X.w) X.A (eval a X.env) (λv z=>wpAny (model X.prog X.w) X.A (eval b X.env) (λu q=>wpAny (model X.prog X.w) X.A (f v u) Q X.xe q) X.xe z) X.xe s:=by
 refine bN (N pins s σ H _ I h) λv G ⟨x,H1,I1,W,F⟩=>?_
 refine bN (U pins G σ H1 _ I1 F) λu B ⟨y,H2,I2,Y,J⟩=>?_
 exact hf v u B x y H2 I2 W Y J
def SX{op:Operator}{r:R2}(F:OpR X (zaW op) r)(z:PE X a ta)(B:PE X b tb):PE X (.BinOp a op b pos)<|YI r ta tb:=by
 intro pins s σ H Q I h;exact wpAny_BinOp<|XH z B I h λv u N x y H2 G J U q=>F pins N σ H2 x y v u Q G J U q
def Z0{op:UnaryOp}{r:V->Hp->VK->Prop}(G:UnR X (unaryOp op) r)(B:PE X a ta):PE X (.UnaryOp op a pos)<|tUn r ta:=by
 intro pins s σ H Q I h;exact UnaryOp_<|bN (B pins s σ H _ I h) λv z ⟨x,H1,J,F,q⟩=>G pins z σ H1 x v Q J F q
def opI{f:Value->Value->Sem Value}{C:Int->Int->Prop}{g:Int->Int->Int}
  (z:∀(i j:Int) (t u:Tok) (s:zab) (Q:Value->zab->Prop) (E:Value->zab->Prop),C i j->Q (.int (g i j) s.toks) {s with toks:=s.toks+1}->wpAny (model X.prog X.w) X.A (f (.int i t)<|.int j u) Q E s) :
  OpR X f (rI C λi j=>.int<|g i j):=by
 intro pins s σ H x y v u Q I G F h;obtain⟨i,j,rfl,rfl,B,q⟩:=h;obtain⟨t,rfl⟩:=G;obtain⟨t',rfl⟩:=F;exact z i j t t' s _ _ B {.int<|g i j,H,I.tok _,{_,rfl},q}
def qaf{f:Value->Value->Sem Value}{g:Int->Int->Int}
  (z:∀(i j:Int) (t u:Tok) (s:zab) (Q:Value->zab->Prop) (E:Value->zab->Prop),Q (.int (g i j) s.toks) {s with toks:=s.toks+1}->wpAny (model X.prog X.w) X.A (f (.int i t)<|.int j u) Q E s) :
  OpR X f (N9 λi j=>.int<|g i j):=by
 intro pins s σ H x y v u Q I F B h;obtain⟨i,j,rfl,rfl,q⟩:=h;obtain⟨t,rfl⟩:=F;obtain⟨t',rfl⟩:=B;exact z i j t t' s _ _ {.int<|g i j,H,I.tok _,{_,rfl},q}
def R6{f:Value->Value->Sem Value}{g:Int->Int->Bool}
  (z:∀(i j:Int) (t u:Tok) (s:zab) (Q:Value->zab->Prop) (E:Value->zab->Prop),Q (.bool<|g i j) s->wpAny (model X.prog X.w) X.A (f (.int i t)<|.int j u) Q E s) :
  OpR X f (N9 λi j=>.bl<|g i j):=by
 intro pins s σ H x y v u Q I F B h;obtain⟨i,j,rfl,rfl,q⟩:=h;obtain⟨t,rfl⟩:=F;obtain⟨t',rfl⟩:=B;exact z i j t t' s _ _ {.bl<|g i j,H,I,rfl,q}
def R7(i j:Int):Prop:=0<j/\j<1073741824
def SC(i j:Int):Prop:=0<=j/\j<=1000000/\i.natAbs<2^64
def VW:OpR X (zaW .Add)<|N9 λi j=>.int<|i+j:=qaf λ_ _ _ _ _ _ _ q=>add_int q
def WF:OpR X (zaW .Sub)<|N9 λi j=>.int<|i-j:=qaf λ_ _ _ _ _ _ _ q=>sub_int q
def PN:OpR X (zaW .FloorDiv)<|rI R7 λi j=>.int<|i/j:=opI λi j _ _ _ _ _ z q=>by
 have h1:(0:Int)<j:=z.1;have h2:j<1073741824:=z.2;exact floordiv_int (by lia) (by rw[Int.fdiv_eq_ediv_of_nonneg i<|by lia];exact q)<|.inl<|PyProof.noPylong_small<|by lia
def UF:OpR X (zaW .Mod)<|rI (λ_ j=>0<j) λi j=>.int<|i%j:=opI λi j _ _ _ _ _ z q=>by
 have h1:(0:Int)<j:=z;exact mod_int' (by lia)<|by rw[Int.fmod_eq_emod_of_nonneg i<|by lia];exact q
def VN:OpR X (zaW .Pow)<|rI SC λi j=>.int<|i^j.toNat:=opI λ_ _ _ _ _ _ _ z q=>pow_int_small z.1 z.2.1 z.2.2 q
def unI{f:Value->Sem Value}{g:Int->Int}
  (z:∀(i:Int) (t:Tok) (s:zab) (Q:Value->zab->Prop) (E:Value->zab->Prop),Q (.int (g i) s.toks) {s with toks:=s.toks+1}->wpAny (model X.prog X.w) X.A (f<|.int i t) Q E s) :
  UnR X f (rU λi=>.int<|g i):=by
 intro pins s σ H x v Q I B h;obtain⟨i,rfl,q⟩:=h;obtain⟨t,rfl⟩:=B;exact z i t s _ _ {.int<|g i,H,I.tok _,{_,rfl},q}
def XD:UnR X (unaryOp .USub)<|rU λi=>.int<|-i:=unI λ_ _ _ _ _ q=>neg_int q
end
def X1:V->V->Bool
 |.non,.non=>cp | .non,.int _=>cp | .int _,.non=>cp | .non,.bl _=>cp | .bl _,.non=>cp | .non,.str _=>cp | .str _,.non=>cp
 |.int _,.int _=>cp | .bl _,.bl _=>cp | .str _,.str _=>cp | .byt _,.byt _=>cp
 |.int _,.str _=>cp | .str _,.int _=>cp | .bl _,.str _=>cp | .str _,.bl _=>cp
 |_,_=>cr
def rEq:R2:=λx y H Q=>X1 x y=cp/\Q (.bl<|decide (x=y)) H
def rNe:R2:=λx y H Q=>X1 x y=cp/\Q (.bl<|!decide (x=y)) H
def FV:decide (V.int i=V.int j)=(i == j):=by
 rw[zcD];simp
def MT:decide (V.bl i=V.bl j)=(i == j):=by
 rw[zcD];simp
def ER:decide (V.str i=V.str j)=(i == j):=by
 rw[zcD];simp
def F1:decide (V.byt i=V.byt j)=(i.toList == j.toList):=by
 rw[zcD];cases i;cases j;simp
section
variable {X:Cx}{a b c:Expr}{ta tb tc:TE}{pos:Pos}
def bC(I:Inv X pins σ H s)(q:Q (.bl k) H)(e:k=k'):EP X pins σ Q (.bool k') s:=by
 subst e;exact{.bl k,H,I,rfl,q}
def ZI:OpR X (zar .Eq) rEq:=by
 intro pins s σ H x y v u Q I B z h;obtain⟨hs,q⟩:=h;cases x with
 |non=>
  cases B;cases y with
  |non=>cases z;exact PySem.EqNone.eq_none_none<|bC I q<|by simp
  |bl j=>cases z;exact PySem.EqNone.eq_none_bool<|bC I q<|by simp
  |int j=>obtain⟨t',rfl⟩:=z;exact PySem.EqNone.eq_none_int<|bC I q<|by simp
  |str j=>obtain⟨t',rfl⟩:=z;exact PySem.EqNone.eq_none_str<|bC I q<|by simp
  |_=>exact absurd (show cr=cp from hs) zat
 |bl i=>
  cases B;cases y with
  |non=>cases z;exact PySem.EqNone.eq_bool_none<|bC I q<|by simp
  |bl j=>cases z;exact eq_bool<|bC I q MT
  |str j=>obtain⟨t',rfl⟩:=z;exact PySem.EqMixed.eq_bool_str<|bC I q<|by simp
  |_=>exact absurd (show cr=cp from hs) zat
 |int i=>
  obtain⟨t,rfl⟩:=B;cases y with
  |non=>cases z;exact PySem.EqNone.eq_int_none<|bC I q<|by simp
  |int j=>obtain⟨t',rfl⟩:=z;exact eq_int<|bC I q FV
  |str j=>obtain⟨t',rfl⟩:=z;exact PySem.EqMixed.eq_int_str<|bC I q<|by simp
  |_=>exact absurd (show cr=cp from hs) zat
 |str i=>
  obtain⟨t,rfl⟩:=B;cases y with
  |non=>cases z;exact PySem.EqNone.eq_str_none<|bC I q<|by simp
  |bl j=>cases z;exact PySem.EqMixed.eq_str_bool<|bC I q<|by simp
  |int j=>obtain⟨t',rfl⟩:=z;exact PySem.EqMixed.eq_str_int<|bC I q<|by simp
  |str j=>obtain⟨t',rfl⟩:=z;exact eq_str<|bC I q ER
  |_=>exact absurd (show cr=cp from hs) zat
 |byt i=>
  obtain⟨t,rfl⟩:=B;cases y with
  |byt j=>obtain⟨t',rfl⟩:=z;exact PySem.W.eq_bytes<|bC I q F1
  |_=>exact absurd (show cr=cp from hs) zat
 |_=>cases y <;> exact absurd (show cr=cp from hs) zat
def ZH:OpR X (zar .NotEq) rNe:=by
 intro pins s σ H x y v u Q I B z h;obtain⟨hs,q⟩:=h;cases x with
 |non=>
  cases B;cases y with
  |non=>cases z;exact PySem.EqNone.ne_none_none<|bC I q<|by simp
  |bl j=>cases z;exact PySem.EqNone.ne_none_bool<|bC I q<|by simp
  |int j=>obtain⟨t',rfl⟩:=z;exact PySem.EqNone.ne_none_int<|bC I q<|by simp
  |str j=>obtain⟨t',rfl⟩:=z;exact PySem.EqNone.ne_none_str<|bC I q<|by simp
  |_=>exact absurd (show cr=cp from hs) zat
 |bl i=>
  cases B;cases y with
  |non=>cases z;exact PySem.EqNone.ne_bool_none<|bC I q<|by simp
  |bl j=>cases z;exact ne_bool<|bC I q<|congrArg not MT
  |str j=>obtain⟨t',rfl⟩:=z;exact PySem.EqMixed.ne_bool_str<|bC I q<|by simp
  |_=>exact absurd (show cr=cp from hs) zat
 |int i=>
  obtain⟨t,rfl⟩:=B;cases y with
  |non=>cases z;exact PySem.EqNone.ne_int_none<|bC I q<|by simp
  |int j=>obtain⟨t',rfl⟩:=z;exact ne_int<|bC I q<|congrArg not FV
  |str j=>obtain⟨t',rfl⟩:=z;exact PySem.EqMixed.ne_int_str<|bC I q<|by simp
  |_=>exact absurd (show cr=cp from hs) zat
 |str i=>
  obtain⟨t,rfl⟩:=B;cases y with
  |non=>cases z;exact PySem.EqNone.ne_str_none<|bC I q<|by simp
  |bl j=>cases z;exact PySem.EqMixed.ne_str_bool<|bC I q<|by simp
  |int j=>obtain⟨t',rfl⟩:=z;exact PySem.EqMixed.ne_str_int<|bC I q<|by simp
  |str j=>obtain⟨t',rfl⟩:=z;exact ne_str<|bC I q<|congrArg not ER
  |_=>exact absurd (show cr=cp from hs) zat
 |byt i=>
  obtain⟨t,rfl⟩:=B;cases y with
  |byt j=>obtain⟨t',rfl⟩:=z;exact PySem.W.ne_bytes<|bC I q<|congrArg not F1
  |_=>exact absurd (show cr=cp from hs) zat
 |_=>cases y <;> exact absurd (show cr=cp from hs) zat
def YL:OpR X (zar .Lt)<|N9 λi j=>.bl<|decide (i<j):=R6 λ_ _ _ _ _ _ _ q=>lt_int q
def ZX:OpR X (zar .LtE)<|N9 λi j=>.bl<|decide (i<=j):=R6 λ_ _ _ _ _ _ _ q=>le_int q
def YS:OpR X (zar .Gt)<|N9 λi j=>.bl<|decide (j<i):=R6 λ_ _ _ _ _ _ _ q=>gt_int q
def Y7:OpR X (zar .GtE)<|N9 λi j=>.bl<|decide (j<=i):=R6 λ_ _ _ _ _ _ _ q=>ge_int q
def IE:OpR X (zar .In) λx y H Q=>∃i j,x=.str i/\y=.str j/\Q (.bl<|!(zdM j i 0 j.length 1).isEmpty) H:=by
 intro pins s σ H x y v u Q I B z h;obtain⟨i,j,rfl,rfl,q⟩:=h;obtain⟨t,rfl⟩:=B;obtain⟨t',rfl⟩:=z;exact in_str<|bC I q rfl
def WI:OpR X (zar .Is) λx y H Q=>y=.non/\Q (.bl<|decide (x=.non)) H:=by
 intro pins s σ H x y v u Q I z B h;obtain⟨rfl,q⟩:=h;cases B;refine is_none_gen<|bC I q ?_;cases x <;> first
  | (cases z;rfl)
  | (obtain⟨t,rfl⟩:=z;rfl)
def P5:OpR X (zar .IsNot) λx y H Q=>y=.non/\Q (.bl<|!decide (x=.non)) H:=by
 intro pins s σ H x y v u Q I z B h;obtain⟨rfl,q⟩:=h;cases B;refine isnot_none_gen<|bC I q ?_;cases x <;> first
  | (cases z;rfl)
  | (obtain⟨t,rfl⟩:=z;rfl)
def OpR.or(h:OpR X f r)(h':OpR X f r'):OpR X f λx y H Q=>r x y H Q\/r' x y H Q:=by
 intro pins s σ H x y v u Q I B z q;rcases q with q|q
 .exact h pins s σ H x y v u Q I B z q
 .exact h' pins s σ H x y v u Q I B z q
def DM(b:Expr)(h:op≠.In:=by decide)(h2:op≠.NotIn:=by decide):zcf op b=cr:=by
 have q:(op == CmpOp.In)=cr:=by cases op <;> first|rfl|exact absurd rfl h
 have z:(op == CmpOp.NotIn)=cr:=by cases op <;> first|rfl|exact absurd rfl h2
 cases b <;> simp[zcf,q,z]
def P3(J:OpR X (zar op) r)(z:PE X a ta)(B:PE X b tb)(F:zcf op b=cr):PE X (.Compare a [op] [b] pos)<|YI r ta tb:=by
 intro pins s σ H Q I h;exact wpAny_Compare1 (XH z B I h λv u U x y H2 G N W q=>J pins U σ H2 x y v u Q G N W q) F
def NS(t:TE):TT:=λσ H Q=>t σ H λx H'=>∃k,x=.bl k/\Q k H'
def E3{op:CmpOp}{r:R2}(ho:OpR X (zar op) r)(J:PE X a ta)(N:PE X b tb)(W:zcf op b=cr):PT X (.Compare a [op] [b] pos)<|NS<|YI r ta tb:=by
 intro pins s σ H Q I h;refine wpAny_isTrue_Compare1 (bN (J pins s σ H _ I h) λv B ⟨x,H1,I1,U,q⟩=>bN (N pins B σ H1 _ I1 q) λu s2 ⟨y,H2,I2,r2,F⟩=>
  bN (ho pins s2 σ H2 x y v u _ I2 U r2 F) λc s3 ⟨z,H3,I3,G,k,e,Y⟩=>?_) W
 subst e;cases G;exact zbz {H3,I3,Y}
def DL(r B:R2)(ta tb tc:TE):TE:=λσ H Q=>ta σ H λx H1=>tb σ H1 λy H2=>r x y H2 λz q=>∃k,z=.bl k /\
 (if k=cp then tc σ q λF G=>B y F G Q else Q (.bl cr) q)
def K8{op q:CmpOp}{r N:R2}(ho:OpR X (zar op) r)(B:OpR X (zar q) N)(ha:PE X a ta)(Y:PE X b tb)(hc:PE X c tc)
  (hm:zcV [op,q] [b,c]=cr:=by with_unfolding_all rfl):PE X (.Compare a [op,q] [b,c] pos)<|DL r N ta tb tc:=by
 intro pins s σ H Q I h;refine Compare_chain (bN (ha pins s σ H _ I h) λv s1 ⟨x,H1,I1,r1,q1⟩=>chain_link<|bN (Y pins s1 σ H1 _ I1 q1) λu s2 ⟨y,H2,I2,J,q2⟩=>
  bN (ho pins s2 σ H2 x y v u _ I2 r1 J q2) λd s3 ⟨z,U,G,r3,k,e,F⟩=>?_) hm
 subst e;cases r3;refine zbz ?_;cases k with
 |false=>exact ite_ff {.bl cr,U,G,rfl,F}
 |true=>exact ite_tt<|chain_last<|bN (hc pins s3 σ U _ G F) λw' s4 ⟨z',H4,W,r4,q4⟩=>B pins s4 σ H4 y z' u w' Q W J r4 q4
def LP{op q:CmpOp}{r N:R2}(ho:OpR X (zar op) r)(B:OpR X (zar q) N)(ha:PE X a ta)(hb:PE X b tb)(hc:PE X c tc)
  (hm:zcV [op,q] [b,c]=cr:=by with_unfolding_all rfl):PT X (.Compare a [op,q] [b,c] pos)<|NS<|DL r N ta tb tc:=by
 intro pins s σ H Q I h;refine isTrue_chain (bN (ha pins s σ H _ I h) λv s1 ⟨x,H1,I1,r1,q1⟩=>test_link<|bN (hb pins s1 σ H1 _ I1 q1) λu s2 ⟨y,H2,I2,J,q2⟩=>
  bN (ho pins s2 σ H2 x y v u _ I2 r1 J q2) λd s3 ⟨z,U,G,r3,k,e,F⟩=>?_) hm
 subst e;cases r3;refine zbz ?_;cases k with
 |false=>
  obtain⟨k',e',q'⟩:=F;cases e';exact ite_ff {U,G,q'}
 |true=>
  refine ite_tt<|test_last<|bN (hc pins s3 σ U _ G F) λw' s4 ⟨z',H4,W,r4,q4⟩=>bN (B pins s4 σ H4 y z' u w' _ W J r4 q4) λd' s5 ⟨z2,H5,I5,Y,k2,e2,q5⟩=>?_;subst e2;cases Y;exact zbz {H5,I5,q5}
def t4:(zal:Nat)<2^63:=by rw[zcg];decide
def CL:OpR X (zaW .Add) λx y H Q=>∃i j,x=.str i/\y=.str j/\i.length+j.length<=zal/\Q (.str<|i++j) H:=by
 intro pins s σ H x y v u Q I B z h;obtain⟨i,j,rfl,rfl,hz,q⟩:=h;obtain⟨t,rfl⟩:=B;obtain⟨t',rfl⟩:=z;exact add_str (λt' tk=>{.str<|i++j,H,I.tok _,{_,rfl},q}) hz
def vals1(r:Vals [x] us):∃u,us=[u]/\RelV x u:=by
 cases r with
 |cons r1 r2=>cases r2;exact{_,rfl,r1}
def vals2(r:Vals [x,y] us):∃u q,us=[u,q]/\RelV x u/\RelV y q:=by
 cases r with
 |cons r1 r2=>
  cases r2 with
  |cons r3 r4=>cases r4;exact{_,_,rfl,r1,r3}
def G9(B:X.calm=cp):CallR X (.builtin "max") λxs H Q=>∃i j,xs=[.int i,.int j]/\Q (.int<|if j>i then j else i) H:=by
 intro pins s σ H xs us Q I r h;obtain⟨i,j,rfl,q⟩:=h;obtain⟨u,F,rfl,⟨t,rfl⟩,⟨t',rfl⟩⟩:=vals2 r;refine max_two_ints (I.ok.hd B) λh' tk k=>{_,H,I.kept k,?_,q}
 by_cases z:j>i
 .rw[cw z,cw z];exact{_,rfl}
 .rw[cx z,cx z];exact{_,rfl}
def G3(B:X.calm=cp):CallR X (.builtin "min") λxs H Q=>∃i j,xs=[.int i,.int j]/\Q (.int<|if j<i then j else i) H:=by
 intro pins s σ H xs us Q I r h;obtain⟨i,j,rfl,q⟩:=h;obtain⟨u,F,rfl,⟨t,rfl⟩,⟨t',rfl⟩⟩:=vals2 r;refine min_two_ints (I.ok.hd B) λh' tk k=>{_,H,I.kept k,?_,q}
 by_cases z:j<i
 .rw[cw z,cw z];exact{_,rfl}
 .rw[cx z,cx z];exact{_,rfl}
def HJ:CallR X (.type "int") λxs H Q=>(∃i,xs=[.int i]/\Q (.int i) H)\/∃k,xs=[.bl k]/\Q (.int<|if k then 1 else 0) H:=by
 intro pins s σ H xs us Q I r h;rcases h with⟨i,rfl,q⟩|⟨k,rfl,q⟩
 .obtain⟨u,rfl,t,rfl⟩:=vals1 r
  exact call_int_int {.int i,H,I,{_,rfl},q}
 .obtain⟨u,rfl,z⟩:=vals1 r
  cases z;exact call_int_bool {.int<|if k then 1 else 0,H,I.tok _,{_,rfl},q}
def qbk(K:zaf)(x:V)(H:Hp)(n:Nat):Prop:=
 match x with
 |.str y=>y.length<=zal/\n=y.length
 |.byt y=>y.size<=zal/\n=y.size
 |.ref p=>(∃xs,SqL K H p xs/\n=xs.length)\/∃xs,SqT K H p xs/\n=xs.length
 |_=>False
def tE:CallR X (.builtin "len") λxs H Q=>∃x n,xs=[x]/\qbk X.K x H n/\Q (.int n) H:=by
 intro pins s σ H xs us Q I r h;obtain⟨x,n,rfl,e,q⟩:=h;obtain⟨u,rfl,N⟩:=vals1 r;have hl:=t4;have hs:zal=16777216:=zcg;cases x with
 |str y=>
  obtain⟨t,rfl⟩:=N;obtain⟨Y,B⟩:y.length<=zal/\n=y.length:=e;subst B;exact len_str (by lia) {.int _,H,I.tok _,{_,rfl},q}
 |byt y=>
  obtain⟨t,rfl⟩:=N;obtain⟨Y,B⟩:y.size<=zal/\n=y.size:=e;subst B;exact PySem.W.len_bytes (by lia) {.int _,H,I.tok _,{_,rfl},q}
 |ref p=>
  cases N;have B:(∃xs,SqL X.K H p xs/\n=xs.length)\/∃xs,SqT X.K H p xs/\n=xs.length:=e;rcases B with⟨xs,J,B⟩|⟨xs,J,B⟩
  .subst B
   obtain⟨F,G,U,hz⟩:=I.list J;have z:=G.length;exact Calls.call_len_list U.isList (by simp only[zaC];lia) {.int xs.length,H,I.tok _,{_,by simp only[zaC];rw[z]},q}
  .subst B
   obtain⟨F,G,U,hz⟩:=I.tuple J;have z:=G.length;exact len_tuple U (by simp only[zaC];lia) {.int xs.length,H,I.tok _,{_,by simp only[zaC];rw[z]},q}
 |_=>exact(show False from e).elim
end
structure ObjM(h:Heap)(x dx C:Addr)(mA:Str->Option Value):Prop where
 obj:h.get? x=b4 (zeJ C dx)
 ns:h.Ns1 dx mA
 ne:dx≠x
set_option tactic.hygienic true in
def HR{h:Heap}{dx:Addr}{mA:Str->Option Value}(n:h.Ns1 dx mA):∃od,h.get? dx=b4 od/\∀name,PySem.W.lookIn name od=b4 (mA name):=by
 obtain⟨o,es,ep,G,U,N,_,F⟩:=n;refine{o,G,λname=>?_};have e:=F name;unfold nsFind findBy at e;rw[<- Array.find?_toList]at e;unfold PySem.W.lookIn;rw[U];dsimp only;split
 .rename_i y q
  rw[q]at e;exact congrArg b4 e
 .rename_i q
  rw[q]at e;have a:es.toList.any (·.refKey)=cr:=by
   rw[List.any_eq_false];intro y Y;obtain⟨z,t,B⟩:=N y<|Array.mem_toList_iff.mp Y;simp[DictEntry.refKey,B]
  have J:¬ es.toList.any (·.refKey)=cp:=by rw[a];exact zat
  rw[cx J];exact congrArg b4 e
def ObjM.look(I:ObjM h x dx C mA):∃od,PySem.W.InstAt h x (zeJ C dx) C (b4 od)/\∀name,PySem.W.lookIn name od=b4 (mA name):=
 let ⟨od,ho,hl⟩:=HR I.ns
 {od,{I.obj,rfl,rfl,ho},hl}
def RelO.some_of(r:RelO (b4 v) o):∃u,o=b4 u/\RelV v u:=by
 cases o with
 |none=>exact(show False from r).elim
 |some u=>exact{u,rfl,r}
section
variable {P:zap}{w:World}{H H':Hp}{h h':Heap}{a C dx:Addr}{fs fs':List (Str×V)}
def RG(B:HOk P w H h)(e:H a=b4 (.ins C dx fs)):∃mA,ObjM h a dx C mA/\(∀f,RelO (fs.lookup f)<|mA f)/\PySem.Within mA (fs.map (·.1))/\fs.length<=1000/\H dx=b4 (.own a):=by
 obtain⟨d,z,ne,ob,mA,n,r,q⟩:=(show ObjOk P w H h a (.ins C dx fs)from B a _ e);exact{mA,⟨ob,n,ne⟩,r,q,z,d}
end
structure Cls(K:zaf)(C:Addr):Prop where
 pg:PySem.W.plainGet K C Str.empty=cp
 hd:PySem.W.hasDictIn K C=cp
 po:PySem.W.plainOver K C=cp
 sa:PySem.W.findIn K (.ref C) "__setattr__" = b4 (b4<|.builtin "object.__setattr__")
def Cls.get{K:zaf}{C:Addr}(c:Cls K C)(f:Str):PySem.W.plainGet K C f=cp:=c.pg
section
variable {X:Cx}{pins:List (Addr×Obj)}{σ:St}{H:Hp}{s:zab}{A:zas}{E:Value->zab->Prop}{Q:Value->zab->Prop}{c:Value}{b:Bool}
inductive TyOf(K:zaf)(H:Hp):V->Value->Prop where
 | non:TyOf K H .non<|.type "NoneType"
 | bl (x:Bool):TyOf K H (.bl x)<|.type "bool"
 | int (i:Int):TyOf K H (.int i)<|.type "int"
 | str (x:Str):TyOf K H (.str x)<|.type "str"
 | flt (x:UInt64):TyOf K H (.flt x)<|.type "float"
 | lst {a:Addr} {xs:List V} (e:H a=b4 (.lst xs)):TyOf K H (.ref a)<|.type "list"
 | frz {a:Addr} {o:Obj} {xs:List V} (e:H a=b4 (.frz o<|.lst xs)):TyOf K H (.ref a)<|.type "list"
 | tup {a:Addr} {xs:List V} (e:H a=b4 (.tup xs)):TyOf K H (.ref a)<|.type "tuple"
 | dK {a:Addr} {kvs:List (Key×V)} (e:H a=b4 (.dK kvs)):TyOf K H (.ref a)<|.type "dict"
 | dT {a:Addr} {kvs:List (List Key×V)} (e:H a=b4 (.dT kvs)):TyOf K H (.ref a)<|.type "dict"
 | ins {a C dx:Addr} {fs:List (Str×V)} (e:H a=b4 (.ins C dx fs)) (cl:Cls K C) (ha:PySem.W.findIn K (.ref C) "__class__" = b4 (b4<|.builtin "object.__class__"))
   (hn:PySem.W.specialIn K (.builtin "object.__class__") "__get__" = b4 (b4<|.builtin "getset_descriptor.__get__")) (htk:PySem.W.takesIn K (.builtin "object.__class__")=b4 cp)
   (hm:PySem.W.mroIn K C (.type "object")=b4 cp):TyOf K H (.ref a)<|.ref C
def HP(I:Inv X pins σ H s)(B:RelV x u)(ty:TyOf X.K H x t)(e:zdk X.K t c=b4 b)(h:∀tk,Q (.bool b) {s with toks:=tk}) :
  wpAny (model X.prog X.w) A (call (.builtin "isinstance") [u,c]) Q E s:=by
 cases ty with
 |non=>cases(show u=zaN from B);exact zbA PySem.W.kitx_none I.kIn zbi e (λz=>nomatch z) h
 |bl y=>cases(show u=zcb y from B);exact zbA PySem.W.kitx_bool I.kIn zbi e (λz=>nomatch z) h
 |int i=>obtain⟨t,q⟩:=(show ∃t,u=Value.int i t from B);cases q;exact zbA PySem.W.kitx_int I.kIn zbi e (λz=>nomatch z) h
 |str y=>obtain⟨t,q⟩:=(show ∃t,u=Value.str y t from B);cases q;exact zbA PySem.W.kitx_str I.kIn zbi e (λz=>nomatch z) h
 |flt y=>obtain⟨t,q⟩:=(show ∃t,u=Value.float y t from B);cases q;exact zbA PySem.W.kitx_float I.kIn zbi e (λz=>nomatch z) h
 |@lst a xs ea=>
  cases(show u=zao a from B);obtain⟨_,_,n,_,h1⟩:=(show ObjOk X.prog X.w H s.heap a (.lst xs)from I.hok a _ ea);exact zbA PySem.W.kitx_list I.kIn {_,h1,rfl} e (λz=>nomatch z) h
 |@frz a ob xs ea=>
  cases(show u=zao a from B);obtain⟨_,_,_,n,_,h1⟩:=(show ObjOk X.prog X.w H s.heap a (.frz ob<|.lst xs)from I.hok a _ ea);exact zbA PySem.W.kitx_list I.kIn {_,h1,rfl} e (λz=>nomatch z) h
 |@tup a xs ea=>
  cases(show u=zao a from B);obtain⟨_,_,_,p⟩:=(show ObjOk X.prog X.w H s.heap a (.tup xs)from I.hok a _ ea);obtain⟨o,h1,h2,_⟩:=p;exact zbA PySem.W.kitx_tuple I.kIn {o,h1,h2} e (λz=>nomatch z) h
 |@dK a kvs ea=>
  cases(show u=zao a from B);obtain⟨_,_,vs,_,p⟩:=(show ObjOk X.prog X.w H s.heap a (.dK kvs)from I.hok a _ ea);obtain⟨o,es,ep,h1,h2,_⟩:=p;exact zbA zdN I.kIn {o,h1,h2.1} e (λz=>nomatch z) h
 |@dT a kvs ea=>
  cases(show u=zao a from B);obtain⟨_,_,xs,_,o,es,ep,h1,h2,_⟩:=(show ObjOk X.prog X.w H s.heap a (.dT kvs)from I.hok a _ ea);exact zbA zdN I.kIn {o,h1,h2.1} e (λz=>nomatch z) h
 |@ins a C dx fs ea cl ha hn htk hm=>
  cases(show u=zao a from B);obtain⟨mA,O,_⟩:=RG I.hok ea;obtain⟨od,J,_⟩:=O.look;exact zbA (PySem.W.kitx_own (cl.get _) cl.hd ha hn htk hm) I.kIn J e (λz=>nomatch z) h
end
structure Room(k:Nat)(A:zas):Prop where
 hd:A.handled=cg
 dp:A.depth+3*k+5<recursionLimit
 un:A.units+16*k+200<cLine
def Room.mono(r:Room k A)(h:j<=k):Room j A:={r.hd,by have:=r.dp;lia,by have:=r.un;lia}
theorem Room.deeper(r:Room (k+1) A)(env:Env):Room k<|A.deeper env:=
 {r.hd,by have:=r.dp;show A.depth+1+3*k+5<_;lia,by have:=r.un;show A.units+3+16*k+200<_;lia}
theorem Room.depth(r:Room k A):A.depth<recursionLimit:=by have:=r.dp;lia
theorem Room.units(r:Room k A):A.units+64<cLine:=by have:=r.un;lia
def Room.units0(r:Room k A):A.units<cLine:=by have:=r.un;lia
def XM:TA:=λ_ H Q=>Q [] H
def F9(ta:TE)(q:TA):TA:=λσ H Q=>ta σ H λx H1=>q σ H1 λxs H2=>Q (x::xs) H2
section
variable {X:Cx}{e:Expr}{es:List Expr}{te:TE}{t:TA}{pos:Pos}
def k9:PA X [] XM:=λ_ _ _ _ H Q I h=>zeM {[],H,I,.nil,h}
def fQ(G:PE X e te)(q:PA X es t)(hs:zah (e::es) X.env=(cr,eval e X.env)::zah es X.env:=by rfl):PA X (e::es)<|F9 te t:=by
 intro pos pins s σ H Q I h;rw[hs];show wpAny _ _ (spliced<|(cr,eval e X.env)::zaJ pos (zah es X.env)) _ _ s;refine zdO<|bN (G pins s σ H _ I h) λu B ⟨x,H1,W,J,z⟩=>?_;exact bN (q pos pins B σ H1 _ W z) λus Y ⟨xs,H2,U,N,F⟩=>{x::xs,H2,U,.cons J N,F}
def qa1(t:TA):TE:=λσ H Q=>t σ H λxs H1=>xs.length<=zal/\∀p,H1 p=cg->Q (.ref p) (upd H1 p<|.tup xs)
def qbe(t:TA):TE:=λσ H Q=>t σ H λxs H1=>xs.length<=zal/\∀p,H1 p=cg->Q (.ref p) (upd H1 p<|.lst xs)
def UD{x1}(h:PA X es t):PE X (.Tuple es x1 pos)<|qa1 t:=by
 intro pins s σ H Q I G;refine wpAny_Tuple_spliced<|bN (h pos pins s σ H _ I G) λus B ⟨xs,H1,F,r,z,q⟩=>{by rw[<- r.length];exact z,?_};have J:H1 B.heap.objs.size=cg:=F.hok.fresh<|zam _;refine{.ref B.heap.objs.size,upd H1 B.heap.objs.size<|.tup xs,F.laid (t':=B.toks) (λb u e=>zag _ e) (zam _) ?_,rfl,q _ J};exact{z,us,r,{_,zau _ rfl,rfl,_,rfl,rfl}}
def XC(h:PA X es t):PE X (.List es pos)<|qbe t:=by
 intro pins s σ H Q I G;refine wpAny_List_spliced<|bN (h pos pins s σ H _ I G) λus B ⟨xs,H1,F,r,z,q⟩=>{by rw[<- r.length];exact z,?_};have J:H1 B.heap.objs.size=cg:=F.hok.fresh<|zam _;refine{.ref B.heap.objs.size,upd H1 B.heap.objs.size<|.lst xs,F.laid (t':=B.toks) (λb u e=>zag _ e) (zam _) ?_,rfl,q _ J};exact{z,us,0,r,zau _ rfl}
end
abbrev Sp:=List V->Hp->VK->XK->Prop
abbrev JN:=List Env->Hp->zab->XK->Value->zab->Prop
structure Env0(P:zap)(w:World)(K:zaf)(mg:Str->Option Value)(base:Heap)(A:zas)(outer:List Env)(s:zab)(H:Hp):Prop where
 frames:A.frames=b4 outer
 mod:Mod K mg base
 bs:∀b o,base.get? b=b4 o->s.heap.get? b=b4 o/\H b=cg
 bsz:base.objs.size<=s.heap.objs.size
 funs:s.heap.FunFrames base outer
 frf:∀b∈frs outer,H b=cg
 hok:HOk P w H s.heap
 bare:zcc s.gens
def CE(outer:List Env)(P:zap)(w:World)(H:Hp)(s:zab)(Q:VK)(u:Value)(s':zab):Prop:=
 ∃v H',s'.os=s.os/\zcc s'.gens/\Un (frs outer) [] H H' s.heap s'.heap/\HOk P w H' s'.heap/\RelV v u/\Q v H'
def CR(CX:JN)(outer:List Env)(P:zap)(w:World)(H:Hp)(s:zab)(Q:VK)(E:XK)(r:Result)(s':zab):Prop:=
 match r with
 |.ok (.ret u)=>CE outer P w H s Q u s'
 |.ok _=>False
 |.error e=>CX outer H s E e s'
structure FnOk(P:zap)(w:World)(K:zaf)(mg:Str->Option Value)(base:Heap)(CX:JN)(k:Nat)(f:Addr)(fd:zbt)(ps:List Str)(sp:Sp):Prop where
 len:∀vs H Q E,sp vs H Q E->vs.length=ps.length
 run:∀(A:zas) (outer:List Env) (s:zab) (H:Hp) (args:Args) (us:List Value) (vs:List V) (Q:VK) (E:XK),Room k A->Env0 P w K mg base A outer s H->BindsTo s fd args (ps.zip us)->Vals vs us->sp vs H Q E->
  zbu (model P w) A (.call (.ref f) args) (CR CX outer P w H s Q E) s
section
variable {X:Cx}{pins:List (Addr×Obj)}{σ:St}{H:Hp}{s s':zab}
def Inv.env0(I:Inv X pins σ H s):Env0 X.prog X.w X.K X.mg X.base X.A X.stack s H:=
 {I.ok.frames,I.ok.mod,I.bs,zbf I.ok.bsz I.sz,I.stack,I.stkFree,I.hok,I.bare}
def Inv.after(I:Inv X pins σ H s)(h:CE X.stack X.prog X.w H s Q u s'):EP X pins σ Q u s':=by
 obtain⟨v,H',os,B,un,G,r,q⟩:=h;obtain⟨J,g,d,t,F⟩:=s';obtain rfl:F=s.os:=os;exact{v,H',I.call (h':=J) (g':=g) (d':=d) (t':=t) (ch:=[]) un G B λb z=>absurd z<|by simp,r,q}
end
def YO(sp:Sp)(dvs:List V)(E:XK)(t:TA):TE:=λσ H Q=>t σ H λvs H1=>sp (vs++dvs) H1 Q E
def Binds(K:zaf)(fd:zbt)(ps:List Str)(ds:List Value):Prop:=
 ∀(s:zab) (us:List Value),K.In s.heap->(us++ds).length=ps.length->BindsTo s fd {us,[]} (ps.zip<|us++ds)
def Binds.all{K:zaf}{fd:zbt}{ps:List Str}(h:∀us:List Value,us.length=ps.length->bindArgs fd {us,[]}=pure (ps.zip us)):Binds K fd ps []:=λs us _ q=>by
 rw[zcs]at q ⊢;exact .of_eq<|h us q
def DY(CX:JN)(X:Cx)(E:XK):Prop:=∀(pins:List<|Addr×Obj) (σ:St) (H:Hp) (s:zab) (e:Value) (s':zab),Inv X pins σ H s->CX X.stack H s E e s'->X.xe e s'
section
variable {X:Cx}{CX:JN}{k:Nat}{f C:Addr}{fd:zbt}{ps:List Str}{sp:Sp}{dvs:List V}{ds:List Value}{E:XK}{x m:Str}{p pos apos:Pos}{e o:Expr}{es:List Expr}{ta:TE}{t:TA}
def UL(F:FnOk X.prog X.w X.K X.mg X.base CX k f fd ps sp)(B:Room k X.A)(J:Binds X.K fd ps ds)(U:Vals dvs ds)(G:DY CX X E)
  (I:Inv X pins σ H s) (r:Vals vs us) (h:sp (vs++dvs) H Q E):wpAny (model X.prog X.w) X.A (call (.ref f) us) (EP X pins σ Q) X.xe s:=by
 have z:Vals (vs++dvs)<|us++ds:=r.append U;have N:(us++ds).length=ps.length:=by rw[<- z.length];exact F.len _ _ _ _ h
 refine wpAny_call<|zdP (F.run X.A X.stack s H {us,[]} (us++ds) (vs++dvs) Q E B I.env0 (J s us I.kIn N) z h) λr s' q=>?_;cases r with
 |error e=>exact G pins σ H s e s' I q
 |ok fl=>
  cases fl with
  |ret u=>exact I.after q
  |next=>exact zbF q
  |brk=>exact zbF q
  |cont=>exact zbF q
def OU(F:FnOk X.prog X.w X.K X.mg X.base CX k f fd ps sp)(J:Room k X.A)(hg:Gl X x)(hm:X.mg x=b4 (.ref f))(hk:zct X.K (.ref f)=cp)(Y:Binds X.K fd ps ds)(hd:Vals dvs ds)(N:DY CX X E)
  (U:PA X (e::es) t) (B:(x == ("__debug__" : Str))=cr:=by decide) (he:zah (e::es) X.env=(cr,eval e X.env)::zah es X.env:=by rfl) (z:(zaJ pos<|zah es X.env).any (·.1)=cr:=by rfl) :
  PE X (.Call (.Name x p) (e::es) [] pos) (YO sp dvs E t):=by
 intro pins s σ H Q I h;refine zdQ<|FS I hg hm ?_ B;refine PySem.W.callWith_K (h₀:=X.base) I.ok.mod.kin hk (bN (U pos pins s σ H _ I h) λus s1 ⟨vs,H1,G,r,q⟩=>{G.kIn,?_}) he z;exact UL F J Y hd N G r q
structure Mk(K:zaf)(C f:Addr):Prop where
 makes:PySem.W.makesIn K C=cp
 init:PySem.W.findIn K (.ref C) "__init__" = b4 (b4<|.ref f)
 fn:PySem.W.isFn K (.ref f)=cp
 kp:zct K (.ref C)=cp
end
def PK(X:Cx)(kws:List zbH)(t:TA):Prop:=
 ∀(pos:Pos) (pins:List<|Addr×Obj) (s:zab) (σ:St) (H:Hp) (Q:List V->Hp->Prop),Inv X pins σ H s->t σ H Q->wpAny (model X.prog X.w) X.A (evalAll<|(zcE pos<|zcF kws X.env).map (·.2)) (AP X pins σ Q) X.xe s
section
variable {X:Cx}{CX:JN}{k:Nat}{f C:Addr}{fd:zbt}{ps ks:List Str}{sp:Sp}{E:XK}{x m:Str}{p pos apos kpos:Pos}{e o:Expr}{es:List Expr}{kws:List zbH}{te ta:TE}{t tk:TA}{nm:Option Str}
def VO:PK X [] XM:=λ_ _ _ _ H Q I h=>wpAny_evalAll_nil {[],H,I,.nil,h}
def PY(G:PE X e te)(q:PK X kws t):PK X ({nm,e,kpos}::kws)<|F9 te t:=by
 intro pos pins s σ H Q I h;show wpAny _ _ (evalAll<|(do let v <- eval e X.env;standAt pos;pure v)::(zcE pos<|zcF kws X.env).map (·.2)) _ _ s;refine wpAny_evalAll_cons<|zaa<|bN (G pins s σ H _ I h) λu B ⟨x,H1,W,J,z⟩=>zaa<|zdj<|zac ?_;exact bN (q pos pins B σ H1 _ W z) λus Y ⟨xs,H2,U,N,F⟩=>{x::xs,H2,U,.cons J N,F}
variable {g:List Value->List Value->List Value}{gV:List V->List V->List V}
end
structure FnScope(N P:List Str)(sc:Scope):Prop where
 kind:sc.kind=.function
 co:sc.isCoroutine=cr
 gen:sc.isGenerator=cr
 nd:N.Nodup
 pre:N.take P.length=P
 par:∀x∈P,sc.names.lookup x=b4 .local\/sc.names.lookup x=b4 .cell
 nofree:∀y∈sc.names,y.2≠.free
theorem vM{zbv:Str->Option zbY}:∀ {binds:List (Str×Value)} {m:Str->Option Value},(∀v,(x,v)∉binds)->bindL zbv binds m x=m x
 |[],_,_=>rfl
 |(n,v)::r,m,h=>by
  unfold bindL;rw[vM λw hw=>h w<|zax _ hw];split
  .have:x≠n:=by rintro rfl;exact h v zaw
   simp[this]
  .rfl
theorem vS{zbv:Str->Option zbY}:∀ {binds:List (Str×Value)} {m:Str->Option Value},(∀v,(x,v)∉binds)->bindC zbv binds m x=m x
 |[],_,_=>rfl
 |(n,v)::r,m,h=>by
  unfold bindC;rw[vS λw hw=>h w<|zax _ hw];split
  .rfl
  .have:x≠n:=by rintro rfl;exact h v zaw
   simp[this]
theorem vK{zbv:Str->Option zbY}{x:Str}{v:Value}:∀ {P:List Str} {vs:List Value} {i:Nat} {m:Str->Option Value},P.Nodup->P[i]?=b4 x->vs[i]?=b4 v->zbv x=b4 .local->
  bindL zbv (P.zip vs) m x=b4 v
 |[],_,_,_,_,h,_,_=>by simp at h
 |_::_,[],_,_,_,_,h,_=>by simp at h
 |p::P,w::vs,0,m,nd,h1,h2,hk=>by
  simp at h1 h2;subst h1;subst h2;show bindL zbv ((p,w)::P.zip vs) m p=_;unfold bindL;rw[vM λv q=>(List.nodup_cons.mp nd).1 (zeN q).1,cw hk];simp
 |p::P,w::vs,i+1,m,nd,h1,h2,hk=>by
  show bindL zbv ((p,w)::P.zip vs) m x=_;unfold bindL;exact vK (i:=i) (List.nodup_cons.mp nd).2 (by simpa using h1) (by simpa using h2) hk
theorem vJ{zbv:Str->Option zbY}{x:Str}{v:Value}:∀ {P:List Str} {vs:List Value} {i:Nat} {m:Str->Option Value},P.Nodup->P[i]?=b4 x->vs[i]?=b4 v->zbv x≠b4 .local->
  bindC zbv (P.zip vs) m x=b4 v
 |[],_,_,_,_,h,_,_=>by simp at h
 |_::_,[],_,_,_,_,h,_=>by simp at h
 |p::P,w::vs,0,m,nd,h1,h2,hk=>by
  simp at h1 h2;subst h1;subst h2;show bindC zbv ((p,w)::P.zip vs) m p=_;unfold bindC;rw[vS λv q=>(List.nodup_cons.mp nd).1 (zeN q).1,cx hk];simp
 |p::P,w::vs,i+1,m,nd,h1,h2,hk=>by
  show bindC zbv ((p,w)::P.zip vs) m x=_;unfold bindC;exact vJ (i:=i) (List.nodup_cons.mp nd).2 (by simpa using h1) (by simpa using h2) hk
def start(N:List Str)(vs:List V):St:=vs.map b4++zaQ (N.length-vs.length) cg
def uL(CX:JN)(P:zap)(w:World)(K:zaf)(mg:Str->Option Value)(base:Heap)(N:List Str)(q:Str)(scope:Scope)(f:Addr)(B:Value)(A:zas)(outer:List Env)(s:zab)(H:Hp)(E:XK):Cx where
 prog:=P
 w:=w
 K:=K
 mg:=mg
 base:=base
 A:=A.deeper<|zbo q scope s.heap.objs.size f B
 N:=N
 s₀:=s
 H₀:=H
 env:=zbo q scope s.heap.objs.size f B
 outer:=outer
 stack:=zbo q scope s.heap.objs.size f B::outer
 ex:=[]
 calm:=cp
 fn:=λ_=>cp
 pn:=[]
 xe:=λe s'=>wpAny (model P w) (A.deeper<|zbo q scope s.heap.objs.size f B) (leaving (zbo q scope s.heap.objs.size f B) e) (λ_ z=>CX outer H s E e z) (λF z=>CX outer H s E F z) s'
def tG{sc:Scope}{n:Nat}{x:Str}(h:sc.names.lookup x=b4 .cell):∃c,(zcG n sc.names []).lookup x=b4 c:=by
 have q:=PySem.W.cellsFrom_some sc.names n []<|.inl h;exact Option.isSome_iff_exists.mp q
def GX{CX:JN}{P:zap}{w:World}{K:zaf}{mg:Str->Option Value}{base:Heap}{N ps:List Str}{B:Str}{scope:Scope}{f:Addr}{Y:Value}{A:zas}{outer:List Env}{s s1:zab}{H:Hp}{E:XK}{us:List Value}{vs:List V}
  (S:FnScope N ps scope) (hd:A.handled=cg) (F:Env0 P w K mg base A outer s H) (hl:vs.length=ps.length) (r:Vals vs us)
  (x:InCallC s s.heap.objs.size (bindL (zbo B scope s.heap.objs.size f Y).kindOf (ps.zip us) λ_=>cg) (zcG (s.heap.objs.size+1) scope.names []) (bindC (zbo B scope s.heap.objs.size f Y).kindOf (ps.zip us) λ_=>cg) s1) :
  Inv (uL CX P w K mg base N B scope f Y A outer s H E) [] (start N vs) H s1:=by
 have ae:ps.length<=N.length:=by have:=congrArg zbI S.pre;rw[zbJ]at this;lia
 obtain⟨h1,tk,rfl,hk⟩:=x.done;have G:∀b:Addr,b∉(uL CX P w K mg base N B scope f Y A outer s H E).ex:=λb z=>absurd (show b∈([]:List Addr)from z)<|by simp
 refine⟨{F.mod,S.kind,rfl,rfl,zam _,λy z c h1 h2=>?_,λy J=>?_,λy c _ h=>?_,λ_=>hd,Around.frames_deeper F.frames,.inr {rfl,rfl},λb z=>absurd z<|G b,F.bs,F.bsz,λb _ _=>G b,λb z=>absurd z<|G b,F.funs,F.frf},
  rfl,F.bare,Un.kept hk,{_,x.toInCall.ns,λi y v h1 h2 h3=>?_},λy c h=>{_,x.cell y c h},F.hok.fresh<|zam _,λy c h=>?_,λp W=>absurd (show p∈([]:List<|Addr×Obj)from W)<|by simp,F.hok.kept hk,?_⟩
 .exact name_of_addr x.apart (zdl h1)<|zdl h2
 .have J:scope.names.lookup y=b4 .cell\/scope.names.lookup y=b4 .free:=J
  rcases J with J|J
  .exact tG J
  .exact absurd rfl<|S.nofree _<|zdl J
 .exact zdF<|x.above y c<|zdl h
 .have hi:i<vs.length:=by
   unfold start at h2;by_cases hi:i<vs.length
   .exact hi
   .rw[zeO<|by simpa using hi]at h2
    rw[List.getElem?_replicate]at h2;split at h2 <;> cases h2
  have ha:vs[i]?=b4 v:=by
   unfold start at h2;rw[zcW (by simpa using hi),zaq]at h2;cases e:vs[i]? with
   |none=>rw[e]at h2;cases h2
   |some a=>rw[e]at h2;cases h2;rfl
  obtain⟨u,hu,rv⟩:=r.get ha;have W:ps[i]?=b4 y:=by
   rw[<- S.pre,List.getElem?_take_of_lt<|by lia];exact h1
  have U:ps.Nodup:=by rw[<- S.pre];exact S.nd.sublist<|List.take_sublist _ _
  refine{u,rv,?_};rcases S.par y (zaA W)with k|k
  .exact .inl {k,vK U W hu k}
  .obtain⟨c,e⟩:=tG (n:=s.heap.objs.size+1) k
   refine .inr {.inl k,c,e,?_};have q:=x.cell y c e;rw[vJ U W hu<|by show scope.names.lookup y≠_;rw[k];decide]at q;exact q
 .exact F.hok.fresh<|zdF<|x.above y c<|zdl h
 .unfold start
  show _=N.length;rw[zbp,zaj,List.length_replicate]
  lia
def Y5{CX:JN}{P:zap}{w:World}{K:zaf}{mg:Str->Option Value}{base:Heap}{k:Nat}{f:Addr}{name z:Str}{F:Arguments}{body:List Stmt}{scope:Scope}{dV kV aa pm B ct oc:Value}{an od:Option Addr}
  {ad:Array (Option Value)} {N ps:List Str} {sp:Sp} (lk:K.lookup f=b4 {oc,od,.func<|zbK name z F body scope dV kV aa pm an B ct,ad}) (ah:zcX K B z=cp) (S:FnScope N ps scope)
  (len:∀vs H Q E,sp vs H Q E->vs.length=ps.length)
  (Y:∀(A:zas) (outer:List Env) (s:zab) (H:Hp) (vs:List V) (Q:VK) (E:XK), Room k (A.deeper<|zbo z scope s.heap.objs.size f B) -> sp vs H Q E ->
   ∃t,PSs (uL CX P w K mg base N z scope f B A outer s H E) body t/\t {nx:=λ_ H'=>Q .non H',rt:=Q} (start N vs) H) :
  FnOk P w K mg base CX (k+1) f (zbK name z F body scope dV kV aa pm an B ct) ps sp:=by
 refine{len,λA outer s H args us vs Q E hr e0 hb r ab=>?_};have hl:=len _ _ _ _ ab;have KX:K.In s.heap:=e0.mod.kin.keeps λb o e=>(e0.bs b o e).1
 have ae:s.heap.NoLimit:=e0.mod.nolimit.keeps λb o e=>(e0.bs b o e).1
 have U:∀y∈ps.zip us,scope.names.lookup y.1=b4 .local\/(scope.names.lookup y.1=b4 .cell/\((zcG (s.heap.objs.size+1) scope.names []).lookup y.1).isSome=cp):=by
  rintro⟨n,v⟩ hy;rcases S.par n (zeN hy).1 with q|q
  .exact .inl q
  .exact .inr {q,PySem.W.cellsFrom_some _ _ _<|.inl q}
 refine codeAny_call_function hr.depth (KX _ _ lk) rfl S.co S.gen rfl (PySem.W.codeRec_of KX ah)<|hb _ _ _ _ ?_;refine wpAny_newFunctionEnv_cells S.kind U λenv he s1 x=>?_
 subst he;refine{ae.keeps x.toInCall.keep,codeAny_func ?_};obtain⟨t,ht,hq⟩:=Y A outer s H vs Q E (hr.deeper _) ab;have I:Inv (uL CX P w K mg base N z scope f B A outer s H E) [] (start N vs) H s1:=GX S hr.hd e0 hl r x;refine zbb (ht [] s1 (start N vs) H _ I hq) (λfl s' hs=>?_) λe s' hs=>hs
 have fin:∀ {G:St} {H':Hp} {v:V} {u:Value},Inv (uL CX P w K mg base N z scope f B A outer s H E) [] G H' s'->RelV v u->Q v H'->CE outer P w H s Q u s':=
  λ{G H' v u} J rv q=>{v,H',J.os,J.bare,J.base,J.hok,rv,q}
 cases fl with
 |ret u=>
  obtain⟨v,G,H',J,rv,q⟩:=hs;exact fin J rv q
 |next=>
  obtain⟨G,H',J,q⟩:=hs;exact fin (v:=V.non) (u:=zaN) J rfl q
 |brk=>
  obtain⟨_,_,_,q⟩:=hs;exact zbF q
 |cont=>
  obtain⟨_,_,_,q⟩:=hs;exact zbF q
section
variable {X:Cx}{x:Str}{p pos:Pos}{e:Expr}{es:List Expr}{t:TA}{id T:String}{r:List V->Hp->VK->Prop}
def tCB(r:List V->Hp->VK->Prop)(t:TA):TE:=λσ H Q=>t σ H λvs H1=>r vs H1 Q
def sY(J:CallR X (.builtin id) r)(hg:Gl X x)(U:X.mg x=cg)(W:zaO x=b4 (.builtin id))(G:PA X (e::es) t)(hn:x ≠ "__name__" := by decide)(z:(x == ("__debug__" : Str))=cr:=by decide)
  (Y:zah (e::es) X.env=(cr,eval e X.env)::zah es X.env:=by rfl) (q:(zaJ pos<|zah es X.env).any (·.1)=cr:=by rfl):PE X (.Call (.Name x p) (e::es) [] pos)<|tCB r t:=by
 intro pins s σ H Q I h;refine zdQ<|fZ I hg U W ?_ hn z;exact PyProof.Rows.callWith_builtin1 (bN (G pos pins s σ H _ I h) λus F ⟨vs,H1,I1,N,B⟩=>J pins F σ H1 vs us Q I1 N B) Y q
def vL(J:CallR X (.type T) r)(hg:Gl X x)(U:X.mg x=cg)(W:zaO x=b4 (.type T))(G:PA X (e::es) t)(hn:x ≠ "__name__" := by decide)(z:(x == ("__debug__" : Str))=cr:=by decide)
  (Y:zah (e::es) X.env=(cr,eval e X.env)::zah es X.env:=by rfl) (q:(zaJ pos<|zah es X.env).any (·.1)=cr:=by rfl):PE X (.Call (.Name x p) (e::es) [] pos)<|tCB r t:=by
 intro pins s σ H Q I h;refine zdQ<|fZ I hg U W ?_ hn z;exact zcC (bN (G pos pins s σ H _ I h) λus F ⟨vs,H1,I1,N,B⟩=>J pins F σ H1 vs us Q I1 N B) Y q
end
end L2
namespace HT
open PySem PyProof.Rows
def lexLt:List Int->List Int->Bool
 |[],[]=>cr
 |[],_::_=>cp
 |_::_,[]=>cr
 |x::xs,y::ys=>if x=y then lexLt xs ys else decide (x<y)
def eR(x y:Int)(xs ys:List Int):lexLt (x::xs) (y::ys)=if x=y then lexLt xs ys else decide (x<y):=rfl
def uY:lexLt [] []=cr:=rfl
def qP(y:Int)(ys:List Int):lexLt [] (y::ys)=cp:=rfl
def qM(x:Int)(xs:List Int):lexLt (x::xs) []=cr:=rfl
def J5(A:zas)(s:zab)(a:Int)(t:Tok)(c:Int)(u:Tok):∃e,zcH A s (.int a t) (.int c u) e/\(e=cp↔a=c):=
 {(a == c),SeqAt.EqAt.int_int a t c u,by simp}
def zP(A:zas)(s:zab)(a:Int)(t:Tok)(c:Int)(u:Tok)(prog:zap)(w:World)(E:Value->zab->Prop)(Q:Value->zab->Prop)(h:Q (.bool<|decide (a<c)) s) :
  wpAny (model prog w) A (richCompare .Lt (.int a t)<|.int c u) Q E s:=
 (PyProof.Rows.lt_int h:wpAny (model prog w) A (zar .Lt (.int a t)<|.int c u) Q E s)
section
open PySem.SeqAt
open PySem.AutoSeq1 (wpAny_loadPart')
open PySem.MeetsSeq PySem.MeetsSeq2 PySem.MeetsSeq3
def uP(l b:Addr)(items z:Array Value)(n n2:Nat)(dd ad:Option Addr)(sl ac:Array<|Option Value)(ns ms:List Int)(hi:za8 items.toList ns)(hj:za8 z.toList ms) :
  Meets (zbc.«tuple.__lt__» {[.ref l,.ref b],[]})
   (λ_ R s => s.heap.get? l = b4 {cls := .type "tuple", dict:=dd, data := .seq items n, slots:=sl} /\ s.heap.get? b = b4 {cls := .type "tuple", dict:=ad, data := .seq z n2, slots:=ac} /\
    R (.ok<|.ret<|.bool<|lexLt ns ms) s):=
 .of_wp λprog w A R s h=>by
  obtain⟨hp,g,d,tk,os⟩:=s;obtain⟨hl,hb,h⟩:=h;have f2:=AutoSeq1.sub_tuple_tuple;have z1:items.size=ns.length:=by rw[<- hi.length];simp
  have z2:z.size=ms.length:=by rw[<- hj.length];simp
  wp_walk using zbL hl,zbL hb,zeP _ (λrest b s'=>b.1=cg/\s'={hp,g,d,tk,os}/\∃(vs ws:List Value) (G F:List Int),rest=vs.zip ws /\
   za8 vs G/\za8 ws F/\G.length+z.size=F.length+items.size/\R (.ok<|.ret<|.bool<|lexLt G F) {hp,g,d,tk,os}) _
  case turn=>
   rintro⟨y,x⟩ rest b s' ⟨Y,rfl,vs,ws,G,F,hz,W,J,B,U⟩;cases W with
   |nil=>rw[List.zip_nil_left]at hz;cases hz
   |cons a t hvi'=>
    cases J with
    |nil=>rw[List.zip_nil_right]at hz;cases hz
    |cons c u hwi'=>
     rw[zcY]at hz;injection hz with hyx hrest
     injection hyx with hy hx
     subst hy hx;rw[eR]at U;simp only[zaU]at B;obtain⟨e,he,N⟩:=J5 A.in1 {hp,g,d,tk,os} a t c u;refine zaa<|he prog w _ _ ?_;cases e with
     |true=>
      rw[cw<|N.mp rfl]at U
      wp_walk
      exact{rfl,rfl,_,_,_,_,hrest,hvi',hwi',by lia,U}
     |false=>
      rw[cx λq=>absurd (N.mpr q) zat]at U;have ae:=zP A.in1 {hp,g,d,tk,os} a t c u prog w
      wp_walk using ae
      exact{_,rfl,by simpa using U}
  case fin=>
   rintro⟨b1,b2⟩ s' ⟨Y,rfl,vs,ws,G,F,hz,W,J,B,U⟩;simp only at Y;subst Y;have hv:lexLt G F=decide (items.size<z.size):=by
    cases W with
    |nil=>
     cases J with
     |nil=>
      simp only[zbZ]at B;rw[uY];exact(decide_eq_false<|by lia).symm
     |cons c u hw=>
      simp only[zbZ,zaU]at B;rw[qP];exact(decide_eq_true<|by lia).symm
    |cons a t hv=>
     cases J with
     |nil=>
      simp only[zbZ,zaU]at B;rw[qM];exact(decide_eq_false<|by lia).symm
     |cons c u hw=>
      rw[zcY]at hz;cases hz
   rw[hv]at U
   wp_walk
   exact{_,rfl,by simpa[zfj]using U}
  case h=>
   exact{rfl,rfl,items.toList,z.toList,ns,ms,rfl,hi,hj,by lia,h}
end
section
variable {prog:zap}{w:World}{A:zas}{E:Value->zab->Prop}{s:zab}
def rO(hl:IsTup s.heap l items)(hb:IsTup s.heap b items2)(hi:za8 items.toList ns)(hj:za8 items2.toList ms)
  (hu:A.units<cLine) (h:Q (.bool<|lexLt ns ms) s):wpAny (model prog w) A (zar .Lt (.ref l)<|.ref b) Q E s:=by
 obtain⟨⟨cls,dd,data,sl⟩,Y,U,n,hd⟩:=id hl;obtain⟨⟨W,J,N,G⟩,z,B,n2,q⟩:=id hb;simp only at U hd B q;subst U hd B q;exact richCompare_meets_room (op:=.Lt) {_,Y,rfl} {_,z,rfl} PySem.F.slot_tuple_lt PySem.F.entry_tuple_lt (PySem.F.args_tuple_lt_2 _ _) (uP l b items items2 n n2 dd J sl G ns ms hi hj)
  {Y,z,show zcb (lexLt ns ms)≠zeQ/\Q (.bool<|lexLt ns ms) s from{(λx=>nomatch x),h}} hu
def QX(ht:IsTup s.heap t vs.toArray)(hb:IsTup s.heap b ws.toArray)(hv:vs≠[])
  (h1:ws=[]->Q (.ref t) s) (h2:ws≠[]->Q (.ref s.heap.objs.size) {s with heap:=s.heap.push {cls:=.type "tuple",data:=.seq (vs++ws).toArray} })
  (hsz:vs.length+ws.length<=zal):wpAny (model prog w) A (zaW .Add (.ref t)<|.ref b) Q E s:=by
 obtain⟨⟨cls,dd,data,U⟩,J,W,n,hd⟩:=id ht;obtain⟨⟨Y,F,N,B⟩,q,G,n2,z⟩:=id hb;simp only at W hd G z;subst W hd G z;have e:vs.toArray++ws.toArray=(vs++ws).toArray:=by simp
 by_cases hw:ws=[]
 .exact concat_meets {_,J,rfl} {_,q,rfl} zeR seq_tuple_add zeS zeT (zeU _ _)
   (tuple_addW1 t b vs.toArray ws.toArray n n2 dd F U B (by simpa using hv)<|by simp[hw]) {J,q,h1 hw}
 .refine concat_meets {_,J,rfl} {_,q,rfl} zeR seq_tuple_add zeS zeT (zeU _ _)
   (tuple_addW2 t b vs.toArray ws.toArray n n2 dd F U B (by simpa using hv) (by simpa using hw)<|by rw[zaC,zaC];exact hsz) {J,q,?_}
  rw[e];exact h2 hw
def sIx(n d:Nat):Option Int->Nat
 |none=>d
 |some v=>if v<0 then(v+(n:Int)).toNat else min v.toNat n
def WA(n d:Nat)(z:d<=n)(o:Option Int):sIx n d o<=n:=by
 cases o with
 |none=>exact z
 |some v=>
  show(if v<0 then(v+(n:Int)).toNat else min v.toNat n)<=n;by_cases q:v<0
  .rw[cw q];lia
  .rw[cx q];exact Nat.min_le_right _ _
def E7(v:Int)(n d:Nat):(if v<0 then max (v+(n:Int)) 0 else min v (n:Int))=((sIx n d<|b4 v:Nat):Int):=by
 show(if v<0 then max (v+(n:Int)) 0 else min v (n:Int))=(((if v<0 then(v+(n:Int)).toNat else min v.toNat n):Nat):Int);by_cases q:v<0
 .simp only[cw q];lia
 .simp only[cx q];lia
def C5(lo hi:Option Int)(n:Nat):zeV lo hi 1 (n:Int)=(((sIx n 0 lo:Nat):Int),((sIx n n hi:Nat):Int)):=by
 have h1:¬ ((1:Int)<0):=by lia
 unfold zeV;simp only[h1,if_false];refine Prod.ext ?_ ?_
 .cases lo with
  |none=>rfl
  |some v=>exact E7 v n 0
 .cases hi with
  |none=>rfl
  |some v=>exact E7 v n n
def B9(i j:Nat):zdR (i:Int) (j:Int) 1=j-i:=by
 unfold zdR;have h1:(1:Int)>0:=by lia
 simp only[h1,if_true,Int.ediv_one];split <;> lia
def sQ(p:zb0 v o)(h:Q o s):wpAny (model prog w) A (Builtin.Slice.slicePartIndex v) Q E s:=by
 cases p with
 |none=>exact slicePart_none h
 |int i t=>exact slicePart_int h
def gD{G:Addr}{B F:Value}{lo hi:Option Int}{n:Nat}{Q:Int×Int×Nat->zab->Prop}(hs:s.heap.IsSliceOf G B F .none)(U:zb0 B lo)(N:zb0 F hi)
  (h:Q (((sIx n 0 lo:Nat):Int),1,sIx n n hi-sIx n 0 lo) s):wpAny (model prog w) A (Builtin.Slice.sliceApplied (.ref G)<|pure (n:Int)) Q E s:=by
 obtain⟨os,z,J,q⟩:=id hs;unfold Builtin.Slice.sliceApplied Builtin.Slice.sliceFields;refine zaa<|zaa<|zaE z q (x:=B) rfl<|zaa<|zaE z q (x:=F) rfl<|zaa<|zaE z q (x:=.none) rfl<|zac ?_;refine zaa<|slicePart_none ?_;show wpAny _ _ (if((1:Int) == 0)=cp then _ else _) _ _ s;rw[cx<|by decide];refine zaa<|sQ U<|zaa<|sQ N<|zaa<|zac ?_;show wpAny _ _ (match zeV lo hi 1 (n:Int)with|(lo,hi)=>pure (lo,(1:Int),zdR lo hi 1)) _ _ s;rw[C5 lo hi n];show wpAny _ _ (pure (((sIx n 0 lo:Nat):Int),(1:Int),zdR ((sIx n 0 lo:Nat):Int) ((sIx n n hi:Nat):Int) 1)) _ _ s;rw[B9];exact zac h
def KW(xs:Array Value)(i k:Nat):((zav k).filterMap λ(m:Nat)=>xs[((i:Int)+(m:Int)*1).toNat]?).toArray=((xs.toList.drop i).take k).toArray:=by
 have e:(λ(m:Nat)=>xs[((i:Int)+(m:Int)*1).toNat]?)=λm=>xs[i+m]?:=by
  funext m;have:((i:Int)+(m:Int)*1).toNat=i+m:=by lia
  rw[this]
 rw[e];have:=pick_run xs i k;rw[List.filterMap_map]at this;have q:((λx=>xs[x]?) ∘ λx=>i+x)=λm=>xs[i+m]?:=rfl
 rw[q]at this;rw[this]
def lM{t F:Addr}{items:Array Value}{W Y:Value}{lo hi:Option Int}{Q:Value->zab->Prop}(B:IsTup s.heap t items)(hs:s.heap.IsSliceOf F W Y .none)(pl:zb0 W lo)(pu:zb0 Y hi)
  (hw:¬ (sIx items.size 0 lo=0/\sIx items.size items.size hi=items.size))
  (h:Q (.ref s.heap.objs.size) {s with heap:=s.heap.push {cls:=.type "tuple",data:=.seq ((items.toList.drop<|sIx items.size 0 lo).take<|sIx items.size items.size hi-sIx items.size 0 lo).toArray} })
  (hsz:items.size<=zal):wpAny (model prog w) A (zb1 (.ref t)<|.ref F) Q E s:=by
 have z:sizeOk<|.seq ((items.toList.drop<|sIx items.size 0 lo).take<|sIx items.size items.size hi-sIx items.size 0 lo).toArray:=by
  show((items.toList.drop<|sIx items.size 0 lo).take<|sIx items.size items.size hi-sIx items.size 0 lo).toArray.size<=zal;rw[zaC,zbJ,zeW,zbg]
  lia
 have hj:sIx items.size items.size hi<=items.size:=WA _ _ (zam _) hi;obtain⟨os,U,J,aa⟩:=id hs;have N:s.TypeIs (.ref F) "slice" := {os,U,J};unfold zb1
 try with_reducible refine zbn ?_
 first|refine zaa (zac ?_)|skip
 refine zaa<|wpAny_sequenceKey B.typeIs (by decide) ?_;refine zaa (zbw (name:=zaZ "__getitem__") B.typeIs zdS
  (zbd zdS B.typeIs entry_tuple_getitem ?_<|args_tuple_getitem _ _))
 show wpAny _ _ (Builtin.Tuple.tupleItemsOf (.ref t) >>= _) _ _ s;refine zaa<|tupleItemsOf_ B ?_;refine zaa<|zcu N ?_;rw[cw<|by decide];refine zaa<|gD hs pl pu ?_;have G:¬ ((((sIx items.size 0 lo:Nat):Int) == 0 && (1:Int) == 1 && (sIx items.size items.size hi-sIx items.size 0 lo) == items.size)=cp):=by
  intro q;rw[zaM,zaM]at q;have q1:((sIx items.size 0 lo:Nat):Int)=0:=eq_of_beq q.1.1;have q2:sIx items.size items.size hi-sIx items.size 0 lo=items.size:=eq_of_beq q.2;exact hw {by lia,by lia}
 show wpAny _ _ (if(((sIx items.size 0 lo:Nat):Int) == 0 && (1:Int) == 1 && (sIx items.size items.size hi-sIx items.size 0 lo) == items.size)=cp then _ else _) _ _ s;rw[cx G,KW]
 first
  | exact zaa (m:=zdT _)<|zbq (zac {_,rfl,zac h}) z
  | exact zaa (m:=zdT _)<|zbq (zaa<|zac<|zac {_,rfl,zac h}) z
  | exact zaa<|zaa (m:=zdT _)<|zbq (zac<|zac {_,rfl,zac h}) z
  | exact zaa<|zaa (m:=zdT _)<|zbq (zac {_,rfl,zac h}) z
end
end HT
namespace L2
open PySem PySem.Spec PyProof.Rows
abbrev TO:=St->Hp->(Option Int->Hp->Prop)->Prop
def PO(X:Cx)(e:Option Expr)(t:TO):Prop:=
 ∀(pins:List<|Addr×Obj) (s:zab) (σ:St) (H:Hp) (Q:Option Int->Hp->Prop),Inv X pins σ H s->t σ H Q->
  wpAny (model X.prog X.w) X.A (evalPart e X.env) (λu s'=>∃o H',Inv X pins σ H' s'/\zb0 u o/\Q o H') X.xe s
def QF:TO:=λ_ H Q=>Q cg H
def ZE(t:TE):TO:=λσ H Q=>t σ H λx H1=>∃i,x=.int i/\Q (b4 i) H1
def intsAre_of:∀ {us:List Value},Vals (ns.map V.int) us->za8 us ns:=by
 induction ns with
 |nil=>intro us r;rw[zbB]at r;cases r;exact .nil
 |cons n ns ih=>
  intro us r;rw[zak]at r;cases r with
  |cons r1 r2=>
   obtain⟨t,e⟩:=r1;subst e;exact .cons n t<|ih r2
section
variable {X:Cx}{e:Expr}{te:TE}{lo hi:Option Expr}{tl th:TO}{pos p2:Pos}
def O7:PO X cg QF:=by
 intro pins s σ H Q I h;rw[evalPart_none];exact zac {cg,H,I,.none,h}
def Q5(h:PE X e te):PO X (b4 e)<|ZE te:=by
 intro pins s σ H Q I hw;rw[evalPart_some];refine bN (h pins s σ H _ I hw) λu G ⟨x,H1,B,F,z⟩=>?_
 obtain⟨i,rfl,q⟩:=z;obtain⟨t,rfl⟩:=F;exact{b4 i,H1,B,.int i t,q}
def SlR(X:Cx)(r:V->Option Int->Option Int->Hp->VK->Prop):Prop:=
 ∀(pins:List<|Addr×Obj) (s:zab) (σ:St) (H:Hp) (x:V) (v vl vu:Value) (lo hi:Option Int) (sl:Addr) (Q:VK),Inv X pins σ H s->RelV x v->s.heap.IsSliceOf sl vl vu .none->zb0 vl lo->zb0 vu hi->r x lo hi H Q->
  ∃T id,typeLookup (.type T) "__getitem__" = pure (b4<|.builtin id)/\s.TypeIs v T/\wpAny (model X.prog X.w) X.A (zb1 v<|.ref sl) (EP X pins σ Q) X.xe s
def SlR.or(h:SlR X r)(h':SlR X r'):SlR X λx lo hi H Q=>r x lo hi H Q\/r' x lo hi H Q:=by
 intro pins s σ H x v G N lo hi z Q I F hs J B q;rcases q with q|q
 .exact h pins s σ H x v G N lo hi z Q I F hs J B q
 .exact h' pins s σ H x v G N lo hi z Q I F hs J B q
def tSl(r:V->Option Int->Option Int->Hp->VK->Prop)(te:TE)(tl th:TO):TE:=λσ H Q=>te σ H λx H1=>tl σ H1 λl H2=>th σ H2 λu q=>r x l u q Q
def KF(hr:SlR X r)(he:PE X e te)(hl:PO X lo tl)(N:PO X hi th):PE X (.Subscript e (.Slice lo hi cg p2) pos)<|tSl r te tl th:=by
 intro pins s σ H Q I h;refine Subscript_<|bN (he pins s σ H _ I h) λv s1 ⟨x,H1,I1,r1,q1⟩=>?_;refine wpAny_Slice<|bN (hl pins s1 σ H1 _ I1 q1) λB Y ⟨l,H2,I2,pl,q2⟩=>bN (N pins Y σ H2 _ I2 q2) λF z ⟨u,G,I3,U,W⟩=>?_;rw[evalPart_none];refine zac ?_;have J:Inv X pins σ G {z with heap:=z.heap.push {cls:=.type "slice",data:=.fields #[B,F,.none]} }:=I3.kept (t':=z.toks) λb ob q=>zag _ q
 obtain⟨T,id,hT,ht,hg⟩:=hr pins {z with heap:=z.heap.push {cls:=.type "slice",data:=.fields #[B,F,.none]} } σ G x v B F l u z.heap.objs.size Q J r1 (Heap.IsSliceOf.new ..) pl U W;show wpAny (model X.prog X.w) X.A (subscriptTail e (.Slice lo hi cg p2) v<|.ref z.heap.objs.size) (EP X pins σ Q) X.xe {z with heap:=z.heap.push {cls:=.type "slice",data:=.fields #[B,F,.none]} };exact tail_any (ops:=[.ref z.heap.objs.size,v]) ht hT hg<|by with_unfolding_all rfl
def u4(xs:List V)(lo hi:Option Int):List V:=(xs.drop<|HT.sIx xs.length 0 lo).take<|HT.sIx xs.length xs.length hi-HT.sIx xs.length 0 lo
def pA(xs:List V)(lo hi:Option Int):(u4 xs lo hi).length<=xs.length:=by
 unfold u4;rw[zbJ,zeW]
 lia
def qq(K:zaf):V->Option Int->Option Int->Hp->VK->Prop:=λx lo hi H Q=>∃a xs,x=.ref a/\SqT K H a xs /\
 ¬ (HT.sIx xs.length 0 lo=0/\HT.sIx xs.length xs.length hi=xs.length)/\∀p,H p=cg->Q (.ref p) (upd H p<|.tup<|u4 xs lo hi)
def WV:SlR X<|qq X.K:=by
 intro pins s σ H x v Y vu lo hi W Q I N hs U J h;obtain⟨a,xs,rfl,G,hw,q⟩:=h;cases N;obtain⟨B,r,F,hz⟩:=I.tuple G;have z:B.toArray.size=xs.length:=by rw[zaC];exact r.length.symm
 refine{"tuple",_,PyProof.Rows.slot_tuple_getitem.lookup,F.typeIs,?_};refine HT.lM F hs U J (by rw[z];exact hw) ?_ (by rw[z];exact hz);rw[z];refine{.ref s.heap.objs.size,_,I.laid (t':=s.toks) (o:=.tup<|u4 xs lo hi) (λb ob q=>zag _ q) (zam _) ?_,rfl,q _<|I.hok.fresh<|zam _};exact{zbf (pA xs lo hi) hz,_,(r.drop<|HT.sIx xs.length 0 lo).take<|HT.sIx xs.length xs.length hi-HT.sIx xs.length 0 lo,IsTupN.new _ _}
def qbd(K:zaf):R2:=λx y H Q=>∃a b ns ms,x=.ref a/\y=.ref b/\SqT K H a (ns.map V.int)/\SqT K H b (ms.map V.int)/\Q (.bl<|HT.lexLt ns ms) H
def VU(G:X.A.units<cLine):OpR X (zar .Lt)<|qbd X.K:=by
 intro pins s σ H x y v u Q I rx ry h;obtain⟨a,b,ns,ms,rfl,rfl,J,N,q⟩:=h;cases rx;cases ry;obtain⟨B,W,U,_⟩:=I.tuple J;obtain⟨z,Y,p2,_⟩:=I.tuple N;have i1:za8 B.toArray.toList ns:=intsAre_of W;have F:za8 z.toArray.toList ms:=intsAre_of Y;exact HT.rO U p2 i1 F G {.bl<|HT.lexLt ns ms,H,I,rfl,q}
def ZU(K:zaf):R2:=λx y H Q=>∃a b xs ys,x=.ref a/\y=.ref b/\SqT K H a xs/\SqT K H b ys/\xs≠[]/\xs.length+ys.length<=zal /\
 (ys=[]->Q (.ref a) H)/\(ys≠[]->∀p,H p=cg->Q (.ref p) (upd H p<|.tup<|xs++ys))
def Vals.nil_iff(r:Vals xs us):us=[]↔xs=[]:=by
 cases r with
 |nil=>simp
 |cons _ _=>simp
def QW:OpR X (zaW .Add)<|ZU X.K:=by
 intro pins s σ H x y v u Q I rx ry h;obtain⟨a,b,xs,ys,rfl,rfl,Y,hb,W,hz,N,U⟩:=h;cases rx;cases ry;obtain⟨J,F,p1,_⟩:=I.tuple Y;obtain⟨G,B,p2,_⟩:=I.tuple hb;refine HT.QX p1 p2 (λz=>W<|F.nil_iff.mp z) (λz=>{.ref a,H,I,rfl,N<|B.nil_iff.mp z}) (λz=>?_) (by rw[<- F.length,<- B.length];exact hz);refine{.ref s.heap.objs.size,_,I.laid (t':=s.toks) (o:=.tup<|xs++ys) (λb ob q=>zag _ q) (zam _) ?_,rfl,U (λw=>z<|B.nil_iff.mpr w) _<|I.hok.fresh<|zam _};exact{by rw[zbp];exact hz,_,F.append B,IsTupN.new _ _}
end
def JI(n:Nat)(i:Int):Option Nat:=if 0<=i then(if i<n then b4 i.toNat else cg)else if -(n:Int)<=i then b4 (i+n).toNat else cg
def d8{α:Type}(xs:List α)(i:Int):Option α:=(JI xs.length i).bind λj=>xs[j]?
def FY(h:JI n i=b4 j):seqIndex? i n=b4 j/\j<n/\-(n:Int)<=i/\i<n:=by
 unfold JI at h;by_cases h0:0<=i
 .rw[cw h0]at h
  by_cases h1:i<n
  .rw[cw h1]at h
   have e:i.toNat=j:=zaD h;exact{by rw[seqIndex_of h0 h1,e],by lia,by lia,h1}
  .rw[cx h1]at h;cases h
 .rw[cx h0]at h
  by_cases h1:-(n:Int)<=i
  .rw[cw h1]at h
   have e:(i+n).toNat=j:=zaD h;exact{by rw[seqIndex_neg (by lia) h1,e],by lia,h1,by lia}
  .rw[cx h1]at h;cases h
def xT{q:Type}{xs:List q}{i:Int}{v:q}(h:d8 xs i=b4 v):∃j,seqIndex? i xs.length=b4 j/\xs[j]?=b4 v/\j<xs.length/\-(xs.length:Int)<=i/\i<xs.length:=by
 unfold d8 at h;cases e:JI xs.length i with
 |none=>rw[e]at h;cases h
 |some j=>
  rw[e]at h;obtain⟨h1,h2,B,z⟩:=FY e;exact{j,h1,h,h2,B,z}
def bH{q:Type}{xs:List q}{j:Nat}{v:q}(h:xs[j]?=b4 v):d8 xs (j:Int)=b4 v:=by
 have z:j<xs.length:=(List.getElem?_eq_some_iff.mp h).1;have e:JI xs.length (j:Int)=b4 j:=by
  unfold JI;rw[cw<|by lia,cw<|by lia];simp
 unfold d8;rw[e];exact h
def xJ(b:Expr):Prop:=∀o i,zdU b cr o i=operate [o,i] (zb1 o i)
def IxR(X:Cx)(r:R2):Prop:=
 ∀(value slice:Expr) (pins:List<|Addr×Obj) (s:zab) (σ:St) (H:Hp) (x y:V) (v u:Value) (Q:VK),Inv X pins σ H s->RelV x v->RelV y u->r x y H Q->
  zdU slice cr v u=operate [v,u] (zb1 v u)->wpAny (model X.prog X.w) X.A (subscriptTail value slice v u) (EP X pins σ Q) X.xe s
def MtR(X:Cx)(id:String)(r:V->List V->Hp->VK->Prop):Prop:=
 ∀(pins:List<|Addr×Obj) (s:zab) (σ:St) (H:Hp) (x:V) (xs:List V) (v:Value) (us:List Value) (Q:VK),Inv X pins σ H s->RelV x v->Vals xs us->r x xs H Q->
  wpAny (model X.prog X.w) X.A (call (.builtin id)<|v::us) (EP X pins σ Q) X.xe s
section
variable {X:Cx}{a b:Expr}{ta tb:TE}{pos:Pos}
def IxR.or(h:IxR X r)(h':IxR X r'):IxR X λx y H Q=>r x y H Q\/r' x y H Q:=by
 intro value z pins s σ H x y v u Q I F B q hs;rcases q with q|q
 .exact h value z pins s σ H x y v u Q I F B q hs
 .exact h' value z pins s σ H x y v u Q I F B q hs
def ZG(z:IxR X r)(B:PE X a ta)(F:PE X b tb)(hs:xJ b):PE X (.Subscript a b pos)<|YI r ta tb:=by
 intro pins s σ H Q I h;exact Subscript_<|XH B F I h λv u N x y H2 G J U q=>z a b pins N σ H2 x y v u Q G J U q<|hs _ _
def qab(K:zaf):R2:=λx y H Q=>∃p xs i v,x=.ref p/\y=.int i/\SqL K H p xs/\d8 xs i=b4 v/\Q v H
def qj(K:zaf):R2:=λx y H Q=>∃p xs i v,x=.ref p/\y=.int i/\SqT K H p xs/\d8 xs i=b4 v/\Q v H
def qaa:R2:=λx y H Q=>∃z i c,x=.str z/\y=.int i/\z.length<=zal/\d8 z.cps.toList i=b4 c/\Q (.str {#[c]}) H
def PV:IxR X<|qab X.K:=by
 intro value G pins s σ H x y v u Q I rx ry h hs;obtain⟨p,xs,i,z,rfl,rfl,W,he,q⟩:=h;cases rx;obtain⟨t,rfl⟩:=ry;obtain⟨B,r,J,hz⟩:=I.list W;obtain⟨j,h1,h2,h3,h4,h5⟩:=xT he;obtain⟨w,U,N⟩:=r.get h2;have Y:=r.length;have hn:=t4;have fin:EP X pins σ Q w s:={z,H,I,N,q};by_cases h0:0<=i
 .have F:i.toNat=j:=by
   rw[seqIndex_of h0 h5]at h1;exact zaD h1
  exact item_listR J.isList h0 (by lia) (by rw[F];simpa using U) fin hs
 .have F:(i+(B.toArray.size:Int)).toNat=j:=by
   rw[seqIndex_neg (by lia) h4]at h1;rw[zaC,<- Y];exact zaD h1
  exact subscriptTail_builtinR (x:=w) J.isList.typeIs slot_list_getitem.lookup
   (wpAny_getItem_list_neg (Q:=λr s'=>r=w/\EP X pins σ Q r s') J.isList (by lia) (by rw[zaC] <;> lia) (by lia) (by rw[F];simpa using U) {rfl,fin}) hs
def WE:IxR X<|qj X.K:=by
 intro value B pins s σ H x y v u Q I rx ry h hs;obtain⟨p,xs,i,z,rfl,rfl,U,Y,q⟩:=h;cases rx;obtain⟨t,rfl⟩:=ry;obtain⟨J,r,G,hz⟩:=I.tuple U;obtain⟨j,h1,h2,h3,h4,h5⟩:=xT Y;obtain⟨w,N,F⟩:=r.get h2;have W:=r.length;have hn:=t4;have fin:EP X pins σ Q w s:={z,H,I,F,q};exact subscriptTail_builtinR (x:=w) G.typeIs slot_tuple_getitem.lookup
  (getItem_tuple (j:=j) (Q:=λr s'=>r=w/\EP X pins σ Q r s') G (by lia) (by lia) (by rw[zaC,<- W];exact h1) (by simpa using N) {rfl,fin}) hs
def VB:IxR X qaa:=by
 intro value B pins s σ H x y v u Q I U ry h hs;obtain⟨z,i,c,rfl,rfl,hz,N,q⟩:=h;obtain⟨t,rfl⟩:=U;obtain⟨t',rfl⟩:=ry;obtain⟨j,h1,h2,h3,J,W⟩:=xT N;have F:z.cps.toList.length=z.length:=by simp[Str.length]
 rw[F]at h1 J W;have hn:=t4;exact tail_any (typeIs_str s z t) slot_str_getitem.lookup (getItem_str (c:=c) (by
  have G:decide (i < -(2^63:Int))=cr:=decide_eq_false (by lia);have Y:decide (i ≥ 2^63)=cr:=decide_eq_false (by lia);rw[G,Y,Bool.or_false]) (by rw[h1];simpa using h2) {.str {#[c]},H,I.tok _,{_,rfl},q}) hs
def rIx(K:zaf):R2:=λx y H Q=>qab K x y H Q\/qj K x y H Q\/qaa x y H Q
def U7:IxR X<|rIx X.K:=PV.or<|WE.or VB
def CZ(q:List Value)(n j:Nat)(u:Value):zbj (·.setIfInBounds j u) {cls:=.type "list",data:=.seq q.toArray n}={cls:=.type "list",data:=.seq (q.set j u).toArray n}:=by
 simp[zbj]
theorem Inv.lst{pins:List (Addr×Obj)}{σ:St}{H:Hp}{s:zab}{p:Addr}{xs:List V}(I:Inv X pins σ H s)(h:H p=b4 (.lst xs)) :
  ∃(q:List Value) (n:Nat),Vals xs q/\s.heap.get? p=b4 {cls:=.type "list",data:=.seq q.toArray n}/\xs.length<=zal:=by
 obtain⟨z,q,n,r,e⟩:=I.hok p _ h;exact{q,n,r,e,z}
def Inv.lstUpd{pins:List (Addr×Obj)}{xs ys:List V}{z its':List Value}{n B:Nat}{f:Obj->Obj}(I:Inv X pins σ H s)(h:H p=b4 (.lst xs))
  (J:s.heap.get? p=b4 {cls:=.type "list",data:=.seq z.toArray n}) (F:f {cls:=.type "list",data:=.seq z.toArray n}={cls:=.type "list",data:=.seq its'.toArray B}) (r:Vals ys its') (hz:ys.length<=zal) (t:Nat) :
  Inv X pins σ (upd H p<|.lst ys) {s with heap:=s.heap.update p f,toks:=t}:=by
 have e:(s.heap.update p f).get? p=b4 {cls:=.type "list",data:=.seq its'.toArray B}:=by
  rw[zbU f J (by rw[F] <;> rfl),F]
 refine I.write (x:=p) (e:=p) (by rw[h];trivial) (.inl rfl) (λb u G q=>(zbM _ _<|zaS G).trans q) {_,e} ?_;exact{hz,its',B,r,e}
def Y2:V->V->V->Hp->(Hp->Prop)->Prop:=λo i v H Q=>∃p xs k j,o=.ref p/\i=.int k/\H p=b4 (.lst xs)/\JI xs.length k=b4 j/\Q (upd H p<|.lst<|xs.set j v)
def set_list:SD X Y2:=by
 intro pins s σ H o i v ov iv u Q I ro ri rv h;obtain⟨p,xs,k,j,rfl,rfl,U,hj,q⟩:=h;cases ro;obtain⟨t,rfl⟩:=ri;obtain⟨z,n,r,F,hz⟩:=I.lst U;obtain⟨h1,h2,J,Y⟩:=FY hj;have B:=r.length;have hn:=t4;have N:Inv X pins σ (upd H p<|.lst<|xs.set j v) {s with heap:=s.heap.update p (zbj (·.setIfInBounds j u))}:=
  I.lstUpd U F (CZ z n j u) (r.set rv j) (by rw[List.length_set];exact hz) s.toks
 by_cases h0:0<=k
 .have G:k.toNat=j:=by
   rw[seqIndex_of h0 Y]at h1;exact zaD h1
  exact PySem.W.ki_setAt F h0 (by lia) (by rw[zaC,<- B];exact Y)<|by rw[G];exact{_,N,q}
 .have G:(k+(z.toArray.size:Int)).toNat=j:=by
   rw[seqIndex_neg (by lia) J]at h1;rw[zaC,<- B];exact zaD h1
  exact PySem.W.ki_setBack F (by lia) (by rw[zaC,<- B];exact J) (by lia)<|by rw[G];exact{_,N,q}
def wQ(lo hi:Option Int)(n:Nat):(zb2 lo hi cg n).1=((HT.sIx n 0 lo:Nat):Int)/\(zb2 lo hi cg n).2.1=((HT.sIx n n hi:Nat):Int)/\(zb2 lo hi cg n).2.2=1:=by
 refine{?_,?_,rfl}
 .cases lo with
  |none=>simp[zb2,HT.sIx]
  |some i=>
   simp only[zb2,HT.sIx,Option.getD_none,show(1:Int)>0 by decide,if_true];by_cases h:i<0
   .simp only[h,if_true] <;> lia
   .simp only[h,if_false] <;> lia
 .cases hi with
  |none=>simp[zb2,HT.sIx]
  |some i=>
   simp only[zb2,HT.sIx,Option.getD_none,show(1:Int)>0 by decide,if_true];by_cases h:i<0
   .simp only[h,if_true] <;> lia
   .simp only[h,if_false] <;> lia
def uU(q:List Value)(lo hi:Option Int):slicePick q.toArray lo hi cg=((q.drop<|HT.sIx q.length 0 lo).take<|HT.sIx q.length q.length hi-HT.sIx q.length 0 lo).toArray:=by
 obtain⟨h1,h2,z⟩:=wQ lo hi q.toArray.size;unfold slicePick;rw[h1,h2,z];simp only[sliceRange_one,pick_run,zaC] <;> rfl
def qbh(K:zaf):V->Option Int->Option Int->Hp->VK->Prop:=λx lo hi H Q=>∃a xs,x=.ref a/\SqL K H a xs/\∀p,H p=cg->Q (.ref p) (upd H p<|.lst<|u4 xs lo hi)
def QK:SlR X<|qbh X.K:=by
 intro pins s σ H x v Y vu lo hi W Q I N hs U J h;obtain⟨a,xs,rfl,G,q⟩:=h;cases N;obtain⟨F,r,B,hz⟩:=I.list G;have z:=r.length;refine{"list",_,slot_list_getitem.lookup,B.isList.typeIs,?_};refine wpAny_getItem_list_slice B.isList hs U J .none (by simp) ?_ (by rw[zaC] <;> lia);rw[uU,<- z];refine{.ref s.heap.objs.size,_,I.laid (t':=s.toks) (o:=.lst<|u4 xs lo hi) (λb ob q=>zag _ q) (zam _) ?_,rfl,q _<|I.hok.fresh<|zam _};exact{zbf (pA xs lo hi) hz,_,0,(r.drop<|HT.sIx xs.length 0 lo).take<|HT.sIx xs.length xs.length hi-HT.sIx xs.length 0 lo,zau _ rfl}
def mV:V->Bool
 |.non=>cp
 |.bl _=>cp
 |.int _=>cp
 |.str _=>cp
 |_=>cr
def TC:V->V->Bool
 |.non,.non=>cp
 |.bl a,.bl b=>a == b
 |.bl a,.int b=>(if a then 1 else 0) == b
 |.int a,.bl b=>a == (if b then 1 else 0)
 |.int a,.int b=>a == b
 |.str a,.str b=>a == b
 |_,_=>cr
def US(z:RelV y u)(q:RelV x v)(B:mV y=cp)(fx:mV x=cp):zcH A s u v<|TC y x:=by
 cases y with
 |non=>
  cases z;cases x with
  |non=>cases q;exact SeqAt.EqAt.same _
  |bl b=>cases q;exact SeqAt.EqAt.none_bool b
  |int b=>obtain⟨t,rfl⟩:=q;exact SeqAt.EqAt.none_int b t
  |str b=>obtain⟨t,rfl⟩:=q;exact SeqAt.EqAt.none_str b t
  |_=>exact absurd (show cr=cp from fx) zat
 |bl a=>
  cases z;cases x with
  |non=>cases q;exact SeqAt.EqAt.bool_none a
  |bl b=>cases q;exact SeqAt.EqAt.bool_bool a b
  |int b=>obtain⟨t,rfl⟩:=q;exact SeqAt.EqAt.bool_int a b t
  |str b=>obtain⟨t,rfl⟩:=q;exact SeqAt.EqAt.bool_str a b t
  |_=>exact absurd (show cr=cp from fx) zat
 |int a=>
  obtain⟨t',rfl⟩:=z;cases x with
  |non=>cases q;exact SeqAt.EqAt.int_none a t'
  |bl b=>cases q;exact SeqAt.EqAt.int_bool a t' b
  |int b=>obtain⟨t,rfl⟩:=q;exact SeqAt.EqAt.int_int a t' b t
  |str b=>obtain⟨t,rfl⟩:=q;exact SeqAt.EqAt.int_str a t' b t
  |_=>exact absurd (show cr=cp from fx) zat
 |str a=>
  obtain⟨t',rfl⟩:=z;cases x with
  |non=>cases q;exact SeqAt.EqAt.str_none a t'
  |bl b=>cases q;exact SeqAt.EqAt.str_bool a t' b
  |int b=>obtain⟨t,rfl⟩:=q;exact SeqAt.EqAt.str_int a t' b t
  |str b=>obtain⟨t,rfl⟩:=q;exact SeqAt.EqAt.str_str a t' b t
  |_=>exact absurd (show cr=cp from fx) zat
 |_=>exact absurd (show cr=cp from B) zat
def SH(x:V)(u:Value):Bool:=match u with
 |.none=>TC .non x
 |.bool b=>TC (.bl b) x
 |.int i _=>TC (.int i) x
 |.str z _=>TC (.str z) x
 |_=>cr
def MQ(r:RelV y u)(f:mV y=cp):SH x u=TC y x:=by
 cases y with
 |non=>cases r;rfl
 |bl b=>cases r;rfl
 |int i=>obtain⟨t,rfl⟩:=r;rfl
 |str z=>obtain⟨t,rfl⟩:=r;rfl
 |_=>exact absurd (show cr=cp from f) zat
theorem xG:∀ {xs:List V} {us:List Value},Vals xs us->xs.all mV=cp->us.any (SH x)=xs.any λy=>TC y x
 |_,_,.nil,_=>rfl
 |y::xs,u::us,.cons r t,f=>by
  rw[zch,zaM]at f;rw[zbC,zbC,MQ r f.1,xG t f.2]
theorem tI(z:RelV x v)(fx:mV x=cp):∀ {xs:List V} {us:List Value},Vals xs us->xs.all mV=cp->∀u∈us,zcH A s u v (SH x u)
 |_,_,.nil,_=>λu q=>by cases q
 |y::xs,u::us,.cons r t,f=>λB q=>by
  rw[zch,zaM]at f;rcases List.mem_cons.mp q with rfl|q
  .rw[MQ r f.1];exact US r z f.1 fx
  .exact tI z fx t f.2 B q
def inV(x:V)(xs:List V):Bool:=xs.any λy=>TC y x
def rIn(K:zaf)(neg:Bool):R2:=λx y H Q=>∃p xs,y=.ref p/\(SqL K H p xs\/SqT K H p xs)/\mV x=cp/\xs.all mV=cp/\Q (.bl<|if neg then !inV x xs else inV x xs) H
def GZ:OpR X (zar .In)<|rIn X.K cr:=by
 intro pins s σ H x y v u Q I G J h;obtain⟨p,xs,rfl,B,fx,fs,q⟩:=h;cases J;rcases B with B|B
 .obtain⟨z,r,F,hz⟩:=I.list B
  refine SeqAt.in_listAt (SH x) F.isList (λw hw=>tI G fx r fs w<|by simpa using hw) {.bl _,H,I,rfl,?_};rw[show z.toArray.any (SH x)=z.any (SH x) by simp,xG r fs];exact q
 .obtain⟨z,r,F,hz⟩:=I.tuple B
  refine SeqAt.in_tupleAt (SH x) F (λw hw=>tI G fx r fs w<|by simpa using hw) {.bl _,H,I,rfl,?_};rw[show z.toArray.any (SH x)=z.any (SH x) by simp,xG r fs];exact q
def wR:OpR X (zar .NotIn) λx y H Q=>∃i j,x=.str i/\y=.str j/\Q (.bl<|!(!(zdM j i 0 j.length 1).isEmpty)) H:=by
 intro pins s σ H x y v u Q I B z h;obtain⟨i,j,rfl,rfl,q⟩:=h;obtain⟨t,rfl⟩:=B;obtain⟨t',rfl⟩:=z;exact notIn_str {.bl _,H,I,rfl,q}
def wY:CallR X (.type "list") λxs H Q=>∃p ys,xs=[.ref p]/\(SqL X.K H p ys\/SqT X.K H p ys)/\∀l,H l=cg->Q (.ref l) (upd H l<|.lst ys):=by
 intro pins s σ H xs us Q I r h;obtain⟨p,ys,rfl,J,q⟩:=h;obtain⟨u,rfl,rx⟩:=vals1 r;cases rx;have fin:∀(z:List Value),Vals ys z->ys.length<=zal->∀(h':Heap) (B:Nat),(∀b o',s.heap.get? b=b4 o'->h'.get? b=b4 o')->
   h'.get? s.heap.objs.size=b4 {cls:=.type "list",dict:=cg,data:=.seq z.toArray B,slots:=#[]}->EP X pins σ Q (.ref s.heap.objs.size) {s with heap:=h'}:=λz F hz h' B G e=>
  {.ref s.heap.objs.size,_,I.laid (t':=s.toks) G (zam _)<|show ObjOk X.prog X.w _ h' _ (.lst ys)from{hz,z,B,F,e},rfl,q _<|I.hok.fresh<|zam _}
 rcases J with J|J
 .obtain⟨z,F,pl,hz⟩:=I.list J
  have N:=F.length;obtain⟨o,W,U,n,Y⟩:=pl.isList;exact call_list_seq p (.inl rfl) W U Y (λh' B G e=>fin z F hz h' B G e)<|by simp only[zaC] <;> lia
 .obtain⟨z,F,pl,hz⟩:=I.tuple J
  have N:=F.length;obtain⟨o,W,U,n,Y⟩:=pl;exact call_list_seq p (.inr rfl) W U Y (λh' B G e=>fin z F hz h' B G e)<|by simp only[zaC] <;> lia
def uQ:CallR X (.type "tuple") λxs H Q=>∃p ys,xs=[.ref p]/\((SqL X.K H p ys/\∀l,H l=cg->Q (.ref l) (upd H l<|.tup ys))\/(SqT X.K H p ys/\Q (.ref p) H)):=by
 intro pins s σ H xs us Q I r h;obtain⟨p,ys,rfl,h⟩:=h;obtain⟨u,rfl,Y⟩:=vals1 r;cases Y;rcases h with⟨F,q⟩|⟨F,q⟩
 .obtain⟨z,B,G,hz⟩:=I.list F
  have J:=B.length;refine call_tuple_list G.isList (λh' U=>?_) (by simp only[zaC] <;> lia);have N:Inv X pins σ H {s with heap:=h'}:=I.kept (t':=s.toks) U;have W:Inv X pins σ (upd H h'.objs.size<|.tup ys) {s with heap:=h'.push {cls:=.type "tuple",data:=.seq z.toArray} }:=
   N.laid (t':=s.toks) (λb o e=>zag _ e) (zam _) (show ObjOk X.prog X.w _ _ _ (.tup ys)from{hz,z,B,IsTupN.new _ _})
  exact{.ref h'.objs.size,_,W,rfl,q _<|N.hok.fresh<|zam _}
 .obtain⟨z,B,G,hz⟩:=I.tuple F
  exact call_tuple_same G {.ref p,H,I,rfl,q}
def tyV(K:zaf)(T:String)(x:V)(H:Hp):Prop:=match x with
 |.str _=>T = "str"
 |.int _=>T = "int"
 |.ref p=>(T = "list" /\ ∃xs,SqL K H p xs)\/(T = "tuple" /\ ∃o,K.lookup p=b4 o/\o.cls=.type "tuple" /\ o.dict=cg) \/
   (T = "dict" /\ ((∃kvs,H p=b4 (.dK kvs))\/∃kvs,H p=b4 (.dT kvs)))\/(T = "set" /\ ∃S n,H p=b4 (.set S n))
 |_=>False
def TL(I:Inv X pins σ H s)(r:RelV x v)(ty:tyV X.K T x H) :
  s.TypeIs v T/\∀a,v=.ref a->∃ob,s.heap.get? a=b4 ob/\ob.dict=cg:=by
 cases x with
 |str z=>
  obtain⟨t,rfl⟩:=r;cases(show T = "str" from ty);exact{typeIs_str s z t,λ_ e=>nomatch e}
 |int i=>
  obtain⟨t,rfl⟩:=r;cases(show T = "int" from ty);exact{zcI s i t,λ_ e=>nomatch e}
 |ref p=>
  cases r;rcases ty with⟨rfl,xs,N⟩|⟨rfl,o,q,U,F⟩|⟨rfl,q⟩|⟨rfl,S,n,q⟩
  .obtain⟨J,_,G,_⟩:=I.list N
   refine{G.isList.typeIs,λa e=>?_};cases e;obtain⟨o,n,e,c,F,_⟩:=G;exact⟨o,e,F⟩
  .refine{{o,I.kIn p o q,U},λa e=>?_}
   cases e;exact{o,I.kIn _ o q,F}
  .have z:∃o,s.heap.get? p=b4 o/\o.ExactDict:=by
    rcases q with⟨kvs,q⟩|⟨kvs,q⟩
    .obtain⟨_,_,_,_,o,_,_,e,ex,_⟩:=I.hok p _ q
     exact⟨o,e,ex⟩
    .obtain⟨_,_,_,_,o,_,_,e,ex,_⟩:=I.hok p _ q
     exact⟨o,e,ex⟩
   obtain⟨o,e,ex⟩:=z;refine{{o,e,ex.1},λa B=>?_};cases B;exact{o,e,ex.2.1}
  .obtain⟨o,_,_,_,e,ex,_⟩:=I.hok p _ q
   refine{{o,e,ex.1},λa B=>?_};cases B;exact{o,e,ex.2.1}
 |_=>exact zbF ty
def tBM(K:zaf)(T:String)(r:V->List V->Hp->VK->Prop)(to:TE)(t:TA):TE:=λσ H Q=>to σ H λx H1=>tyV K T x H1/\t σ H1 λxs H2=>r x xs H2 Q
variable {o e:Expr}{es:List Expr}{to:TE}{t:TA}{name:Str}{apos cpos:Pos}{T id:String}{r:V->List V->Hp->VK->Prop}
def GD(pa:PlainAttrs T)(G:Slot T name id)(J:typeOf (.builtin id)=pure (.type "method_descriptor"))(hm:MtR X id r)(Y:PE X o to)(ha:PA X (e::es) t)
  (z:zcJ o name X.env (eval o X.env)=eval o X.env:=by rfl)
  (F:((zaJ cpos<|zah (e::es) X.env).all (λx => !x.1) && (zcE cpos<|zcF [] X.env).all (λx => x.1.isSome)
   && decide ((e::es).length+([]:List zbH).length+(if([]:List zbH).isEmpty then 0 else 1)<30))=cp:=by rfl)
  (B:(apos.endLine == cpos.line)=cp:=by rfl) (hs:zah (e::es) X.env=(cr,eval e X.env)::zah es X.env:=by rfl) (q:(zaJ cpos<|zah es X.env).any (·.1)=cr:=by rfl) :
  PE X (.Call (.Attribute o name apos) (e::es) [] cpos) (tBM X.K T r to t):=by
 intro pins s σ H Q I h;refine wpAny_Call_method_late z F B rfl<|bN (Y pins s σ H _ I h) λv s1 ⟨x,H1,N,U,ty,q1⟩=>?_;obtain⟨h1,h2⟩:=TL N U ty;refine{T,id,pa,G,J,h1,h2,?_};have W:=ha cpos pins s1 σ H1 _ N q1;rw[hs]at W ⊢;refine zdV (by show(cr || (zaJ cpos<|zah es X.env).any (·.1))=cr;rw[q] <;> rfl)<|zeX ?_;exact bN W λus s2 ⟨vs,H2,I2,r2,q2⟩=>hm pins s2 σ H2 x vs v us Q I2 U r2 q2
end
def MtM(X:Cx)(id:String)(r:V->List V->Hp->VK->Prop):Prop:=
 ∀(pins:List<|Addr×Obj) (s:zab) (σ:St) (H:Hp) (x:V) (xs:List V) (v:Value) (us:List Value) (Q:VK),Inv X pins σ H s->RelV x v->Vals xs us->r x xs H Q->
  wpAny (model X.prog X.w) X.A (call (.builtin id)<|v::us) (EP X pins σ Q) X.xe s
def Vals.one:∀ {x:V} {us:List Value},Vals [x] us->∃u,us=[u]/\RelV x u
 |_,_,.cons r .nil=>{_,rfl,r}
def Vals.zero:∀ {us:List Value},Vals [] us->us=[]
 |_,.nil=>rfl
theorem Vals.rep(h:Vals xs us):∀k:Nat,Vals (zaQ k xs).flatten (zaQ k us).flatten
 |0=>.nil
 |k+1=>by
  rw[zcv,zcv,zcK,zcK];exact Vals.append h<|Vals.rep h k
theorem foldl_rep(q:List Value):∀(k:Nat) (acc:List Value),
  List.foldl (λF z=>F++z) acc.toArray (zaQ k q.toArray)=(acc++(zaQ k q).flatten).toArray
 |0,acc=>by simp
 |k+1,acc=>by
  have e:acc.toArray++q.toArray=(acc++q).toArray:=by simp
  have B:(acc++q)++(zaQ k q).flatten=acc++(zaQ (k+1) q).flatten:=by
   rw[zcv,zcK,List.append_assoc]
  rw[<- B,<- foldl_rep q k<|acc++q,<- e,zcv,zcw]
section
variable {X:Cx}{pins:List (Addr×Obj)}{σ:St}{H:Hp}{s:zab}{l b:Addr}{xs ys zs:List V}
def Inv.lset{z its':List Value}{n:Nat}{f:Array Value->Array Value}{t':Nat}(I:Inv X pins σ H s)(J:H l=b4 (.lst xs))
  (e:s.heap.get? l=b4 {cls:=.type "list",data:=.seq z.toArray n}) (N:f z.toArray=its'.toArray) (G:Vals ys its') (hz:ys.length<=zal) :
  Inv X pins σ (upd H l<|.lst ys) {s with heap:=s.heap.update l<|zbj f,toks:=t'}:=by
 have q:=PySem.IsL.update e f;rw[N]at q;refine I.write (x:=l) (e:=l) (by rw[J];exact trivial) (.inl rfl) (λU u F B=>(zbM s.heap (zbj f)<|zaS F).trans B) {_,q} ?_;exact{hz,its',_,G,q}
def Inv.lnew(I:Inv X pins σ H s)(z:Vals ys its)(hz:ys.length<=zal) :
  Inv X pins σ (upd H s.heap.objs.size<|.lst ys) {s with heap:=s.heap.push {cls:=.type "list",data:=.seq its.toArray},toks:=t'}:=
 I.laid (λ_ _ q=>zag _ q) (zam _) {hz,its,0,z,zau _ rfl}
theorem Inv.fresh(I:Inv X pins σ H s):H s.heap.objs.size=cg:=I.hok.fresh<|zam _
def Inv.lstM(I:Inv X pins σ H s)(B:H l=b4 (.lst xs)):xs.length<=zal/\∃(q:List Value) (n:Nat),Vals xs q/\xs.length=q.length/\s.heap.get? l=b4 {cls:=.type "list",data:=.seq q.toArray n}:=by
 obtain⟨z,q,n,r,e⟩:=I.hok l _ B;exact{z,q,n,r,r.length,e}
def LS(h:n<=zal):zeY n=cr:=by
 unfold zeY;exact decide_eq_false<|by lia
end
section
variable {X:Cx}
def F3:V->List V->Hp->VK->Prop:=λx vs H Q=>∃l xs y,x=.ref l/\vs=[y]/\H l=b4 (.lst xs)/\xs.length<zal/\Q .non (upd H l<|.lst<|xs++[y])
def vP:MtM X "list.append" F3:=by
 intro pins s σ H x vs v us Q I U N h;obtain⟨l,xs,y,rfl,rfl,G,hz,q⟩:=h;cases U;obtain⟨u,rfl,J⟩:=N.one;obtain⟨z,B,n,r,W,e⟩:=I.lstM G;refine zci F.slot_list_append {_,e,rfl} F.entry_list_append (F.args_list_append_2 _ _) (PySem.list_append l B.toArray n u<|by rw[zaC];lia) {e,?_};refine{.non,_,I.lset (its':=B++[u]) G e (by simp) (r.append<|.cons J .nil) ?_,rfl,q};rw[zbp,List.length_singleton]
 lia
def len_rep{q:Type}(xs:List q)(k:Nat):(zaQ k xs).flatten.length=k*xs.length:=by
 induction k with
 |zero=>simp
 |succ k ih=>rw[zcv,zcK,zbp,ih,Nat.succ_mul,Nat.add_comm]
end
section
variable {κ:Type}[DecidableEq κ]
def m6(kvs:List<|κ×V)(k:κ):Option V:=(kvs.find? λq=>decide (q.1=k)).map (·.2)
def putK(kvs:List<|κ×V)(k:κ)(v:V):List<|κ×V:=
 if(kvs.any λq=>decide (q.1=k))=cp then kvs.map (λq=>if q.1=k then(q.1,v)else q)else kvs++[(k,v)]
def SK(kvs:List<|κ×V)(k:κ):List<|κ×V:=kvs.filter λq=>decide (q.1≠k)
def mJ{p:κ×V}{r:List (κ×V)}{k:κ}(e:p.1=k):m6 (p::r) k=b4 p.2:=by simp[m6,za0,e]
def l8{p:κ×V}{r:List (κ×V)}{k:κ}(e:¬ p.1=k):m6 (p::r) k=m6 r k:=by simp[m6,za0,e]
theorem AH(k:κ):∀kvs:List (κ×V),(kvs.any λq=>decide (q.1=k))=(m6 kvs k).isSome
 |[]=>rfl
 |p::r=>by
  rw[zbC];by_cases e:p.1=k
  .simp only[mJ e,decide_eq_true e,Bool.true_or,Option.isSome_some]
  .rw[l8 e,decide_eq_false e,Bool.false_or];exact AH k r
def cR(kvs:List<|κ×V)(k:κ)(v:V):(putK kvs k v).length<=kvs.length+1:=by
 unfold putK;split
 .rw[zaj];lia
 .rw[zbp,zaU,zbZ];lia
def RelO.isSome_eq(r:RelO o u):o.isSome=u.isSome:=by
 cases o with
 |none=>cases u with
  |none=>rfl
  |some _=>exact(show False from r).elim
 |some _=>cases u with
  |none=>exact(show False from r).elim
  |some _=>rfl
theorem RelO.getD(r:RelO o u)(q:RelV d d'):RelV (o.getD d)<|u.getD d':=by
 cases o with
 |none=>cases u with
  |none=>exact q
  |some _=>exact(show False from r).elim
 |some _=>cases u with
  |none=>exact(show False from r).elim
  |some _=>exact r
def KV.val(r:KV kvs vs)(k:κ):RelO (m6 kvs k)<|zcL vs k:=by
 unfold KV at r;induction r with
 |nil=>exact zbi
 |@cons p q ps qs h t ih=>
  obtain⟨h1,h2⟩:=h;by_cases e:p.1=k
  .have B:q.1=k:=h1.symm.trans e
   have b:zcL (q::qs) k=b4 q.2:=by simp[zcL,za0,B]
   rw[mJ e,b];exact h2
  .have B:¬ q.1=k:=λz=>e (h1.trans z)
   have b:zcL (q::qs) k=zcL qs k:=by simp[zcL,za0,B]
   rw[l8 e,b];exact ih
theorem KV.any(r:KV kvs vs)(k:κ):(kvs.any λq=>decide (q.1=k))=vs.any λq=>decide (q.1=k):=by
 unfold KV at r;induction r with
 |nil=>rfl
 |cons h t ih=>rw[zbC,zbC,ih,h.1]
def KV.repl(r:KV kvs vs)(k:κ)(F:RelV y u) :
  KV (kvs.map λB=>if B.1=k then(B.1,y)else B) (vs.map λB=>if B.1=k then(B.1,u)else B):=by
 unfold KV at r ⊢;induction r with
 |nil=>exact .nil
 |@cons p q ps qs h t ih=>
  rw[zak,zak];refine .cons ?_ ih;obtain⟨h1,h2⟩:=h;by_cases e:p.1=k
  .rw[cw e,cw<|h1.symm.trans e];exact{h1,F}
  .rw[cx e,cx λz=>e<|h1.trans z];exact{h1,h2}
def KV.put(r:KV kvs vs)(k:κ)(q:RelV y u):KV (putK kvs k y)<|stored vs k u:=by
 unfold putK stored;rw[r.any k];by_cases e:(vs.any λz=>decide (z.1=k))=cp
 .rw[cw e,cw e];exact r.repl k q
 .rw[cx e,cx e];exact Paired.snoc r {rfl,q}
theorem KV.length(r:KV kvs vs):kvs.length=vs.length:=zbQ r
end
def mT(r:RelV (kV k) u):(aT P w).is k u=cp:=by
 cases k with
 |inl i=>obtain⟨t,e⟩:=(show ∃t,u=Value.int i t from r);subst e;exact y8 P w i t
 |inr x=>obtain⟨t,e⟩:=(show ∃t,u=Value.str x t from r);subst e;exact y6 P w x t
theorem vE:∀ {ks:List Key} {us:List Value},Vals (ks.map kV) us->ItemsAre (aT P w) ks us
 |[],_,r=>by rw[zbB]at r;cases r;exact .nil
 |k::ks,_,r=>by
  rw[zak]at r;cases r with
  |cons h t=>exact .cons (mT h)<|vE t
abbrev KT(H:Hp):List (List Key×V)->List (List Key×Addr×Value)->Prop:=zaV λp q=>p.1=q.1/\H q.2.1=b4 (.tup<|p.1.map kV)/\RelV p.2 q.2.2
def KT.val(r:KT H kvs xs)(k:List Key):RelO (m6 kvs k)<|(atKey xs k).map (·.2):=by
 induction r with
 |nil=>exact zbi
 |@cons p q ps qs h t ih=>
  obtain⟨h1,_,h2⟩:=h;by_cases e:p.1=k
  .have B:q.1=k:=h1.symm.trans e
   have b:atKey (q::qs) k=b4 q.2:=by simp[atKey,za0,B]
   rw[mJ e,b];exact h2
  .have B:¬ q.1=k:=λz=>e (h1.trans z)
   have b:atKey (q::qs) k=atKey qs k:=by simp[atKey,za0,B]
   rw[l8 e,b];exact ih
def KT.repl(r:KT H kvs xs)(k:List Key)(F:RelV y u) :
  KT H (kvs.map λB=>if B.1=k then(B.1,y)else B) (xs.map<|putAt k u):=by
 induction r with
 |nil=>exact .nil
 |@cons p q ps qs h t ih=>
  rw[zak,zak];refine .cons ?_ ih;obtain⟨h1,h2,G⟩:=h;unfold putAt;by_cases e:p.1=k
  .rw[cw e,cw<|h1.symm.trans e];exact{h1,h2,F}
  .rw[cx e,cx λz=>e<|h1.trans z];exact{h1,h2,G}
def KT.put(r:KT H kvs xs)(k:List Key)(B:H b=b4 (.tup<|k.map kV))(z:RelV y u) :
  KT H (putK kvs k y) (storedH xs k b u):=by
 have e:(kvs.any λF=>decide (F.1=k))=(atKey xs k).isSome:=by
  rw[AH,(r.val k).isSome_eq,zdX]
 unfold putK storedH;rw[e];by_cases q:(atKey xs k).isSome=cp
 .rw[cw q,cw q];exact r.repl k z
 .rw[cx q,cx q];exact Paired.snoc r {rfl,B,z}
def KT.keeps(r:KT H kvs xs)(q:∀b ys,H b=b4 (.tup ys)->H' b=b4 (.tup ys)):KT H' kvs xs:=
 Paired.mapP r λ_ _ z=>{z.1,q _ _ z.2.1,z.2.2}
section
variable {P:zap}{w:World}{H:Hp}{h:Heap}{a:Addr}
def SN(ok:HOk P w H h)(e:Rd H a u):ObjOk P w H h a u:=e.ok ok
def mW(ok:HOk P w H h)(e:Rd H a<|.dK kvs):kvs.length<=zal/\(a == za9)=cr/\∃vs,KV kvs vs/\h.DictOf (aT P w) a vs:=
 show ObjOk P w H h a (.dK kvs)from SN ok e
def NN(ok:HOk P w H h)(e:H a=b4 (.dK kvs)):kvs.length<=zal/\(a == za9)=cr/\∃vs,KV kvs vs/\h.DictOf (aT P w) a vs:=mW ok<|.inl e
def hV(ok:HOk P w H h)(e:H a=b4 (.tup<|ks.map kV)):(za4<|aT P w).is h ks a:=by
 obtain⟨_,q,r,o,h1,h2,n,z⟩:=(show ObjOk P w H h a (.tup<|ks.map kV)from ok a _ e);exact{o,q.toArray,n,h1,h2,z.1,by simpa using vE r}
def pP(ok:HOk P w H h)(e:Rd H a<|.dT kvs):kvs.length<=zal/\(a == za9)=cr /\
  ∃xs,KT H kvs xs/\h.DictOfH (za4<|aT P w) a xs:=by
 obtain⟨z,y,xs,r,o,es,ep,h1,h2,G,F,J⟩:=(show ObjOk P w H h a (.dT kvs)from SN ok e);refine{z,y,xs,r,o,es,ep,h1,h2,G,F,λx B=>?_,J};have all:∀ {l:List (List Key×V)} {m:List (List Key×Addr×Value)},KT H l m->∀x∈m,(za4<|aT P w).is h x.1 x.2.1:=by
  intro l m q;induction q with
  |nil=>intro x B;exact nomatch B
  |@cons p q ps qs hq t ih=>
   intro x B;rcases List.mem_cons.mp B with e|B
   .subst e
    exact hV ok<|by rw[<- hq.1];exact hq.2.1
   .exact ih x B
 exact all r x B
def NV(ok:HOk P w H h)(e:H a=b4 (.dT kvs)):kvs.length<=zal/\(a == za9)=cr /\
  ∃xs,KT H kvs xs/\h.DictOfH (za4<|aT P w) a xs:=pP ok<|.inl e
end
def DGet(H:Hp)(a:Addr)(y:V)(r:Option V):Prop:=
 (∃kvs k,Rd H a (.dK kvs)/\y=kV k/\r=m6 kvs k)\/∃kvs k b,Rd H a (.dT kvs)/\y=.ref b/\H b=b4 (.tup<|k.map kV)/\r=m6 kvs k
def DPut(H:Hp)(a:Addr)(y v:V)(H':Hp):Prop:=
 (∃kvs k,H a=b4 (.dK kvs)/\y=kV k/\kvs.length<zal/\H'=upd H a (.dK<|putK kvs k v)) \/
 ∃kvs k b,H a=b4 (.dT kvs)/\y=.ref b/\H b=b4 (.tup<|k.map kV)/\kvs.length<zal/\H'=upd H a (.dT<|putK kvs k v)
def DPut.k{H:Hp}{a:Addr}{kvs:List (Key×V)}{k:Key}{v:V}(e:H a=b4 (.dK kvs))(q:kvs.length<zal):DPut H a (kV k) v<|upd H a<|.dK<|putK kvs k v:=.inl {kvs,k,e,rfl,q,rfl}
def DPut.t{H:Hp}{a b:Addr}{kvs:List (List Key×V)}{k:List Key}{v:V}(e:H a=b4 (.dT kvs))(z:H b=b4 (.tup<|k.map kV))(q:kvs.length<zal) :
  DPut H a (.ref b) v (upd H a<|.dT<|putK kvs k v):=.inr {kvs,k,b,e,rfl,z,q,rfl}
section
variable {X:Cx}{pins:List (Addr×Obj)}{σ:St}{H:Hp}{s:zab}{a:Addr}{y v:V}{u r:Value}{o:Option V}{A:zas}{E:Value->zab->Prop}
def Inv.big(I:Inv X pins σ H s):za9<s.heap.objs.size:=by
 have h:za3<s.heap.objs.size:=(I.mod.glob.keeps I.bk).lt;exact zcM (by decide) h
def G1(U:A.units+1<cLine)(I:Inv X pins σ H s)(g:DGet H a y<|b4 v)(N:RelV y u)(h:∀F s',Inv X pins σ H s'->RelV v F->Q F s') :
  wpAny (model X.prog X.w) A (zb1 (.ref a) u) Q E s:=by
 rcases g with⟨kvs,k,e,J,l⟩|⟨kvs,k,b,e,J,Y,l⟩
 .subst J
  obtain⟨z,hd,vs,q,dd⟩:=mW I.hok e;obtain⟨F,hw,B⟩:=RelO.some_of (v:=v) (o:=zcL vs k) (by rw[l];exact q.val k);exact wpAny_getItem_of (mT N) dd.mapOf hw<|h F _ (I.tok _) B
 .subst J
  cases(show u=zao b from N);obtain⟨z,hd,xs,q,dd⟩:=pP I.hok e;obtain⟨F,hw,B⟩:=RelO.some_of (v:=v) (o:=(atKey xs k).map (·.2)) (by rw[l];exact q.val k);obtain⟨p,W,G⟩:=Option.map_eq_some_iff.mp hw;refine wpAny_getItem_heap (zcZ U) (hV I.hok Y) dd W ?_;rw[G];exact h F _ (I.tok _) B
def qaR(N:A.units+1<cLine)(I:Inv X pins σ H s)(g:DGet H a y o)(J:RelV y u)(h:∀s',Inv X pins σ H s'->Q (.bool o.isSome) s') :
  wpAny (model X.prog X.w) A (zar .In u<|.ref a) Q E s:=by
 rcases g with⟨kvs,k,e,F,l⟩|⟨kvs,k,b,e,F,U,l⟩
 .subst F
  obtain⟨z,G,vs,B,dd⟩:=mW I.hok e;refine wpAny_in_of (mT J) G dd.mapOf ?_;rw[<- (B.val k).isSome_eq,<- l];exact h _<|I.tok _
 .subst F
  cases(show u=zao b from J);obtain⟨z,G,xs,B,dd⟩:=pP I.hok e;refine wpAny_in_heap (zcZ N) (hV I.hok U) G dd ?_;have q:=(B.val k).isSome_eq;rw[zdX]at q;rw[<- q,<- l];exact h _<|I.tok _
def OC(N:A.units+1<cLine)(I:Inv X pins σ H s)(g:DGet H a y o)(J:RelV y u)(h:∀s',Inv X pins σ H s'->Q (.bool<|!o.isSome) s') :
  wpAny (model X.prog X.w) A (zar .NotIn u<|.ref a) Q E s:=by
 rcases g with⟨kvs,k,e,F,l⟩|⟨kvs,k,b,e,F,U,l⟩
 .subst F
  obtain⟨z,G,vs,B,dd⟩:=mW I.hok e;refine wpAny_notIn_of (mT J) G dd.mapOf ?_;rw[<- (B.val k).isSome_eq,<- l];exact h _<|I.tok _
 .subst F
  cases(show u=zao b from J);obtain⟨z,G,xs,B,dd⟩:=pP I.hok e;refine wpAny_notIn_heap (zcZ N) (hV I.hok U) G dd ?_;have q:=(B.val k).isSome_eq;rw[zdX]at q;rw[<- q,<- l];exact h _<|I.tok _
def jL(I:Inv X pins σ H s)(G:Mut<|H a)(hs:zaT a s.heap h')(F:∃q,h'.get? a=b4 q)(new:ObjOk X.prog X.w (upd H a ob) h' a ob) :
  Inv X pins σ (upd H a ob) {s with heap:=h',toks:=t'}:=
 I.write (x:=a) (e:=a) G (.inl rfl) (λb q B z=>(hs.2 b B).trans z) F new
def DU(z:kvs.length<=zal)(B:(a == za9)=cr)(q:KV kvs vs)(dd:h'.DictOf (aT P w) a vs) :
  ObjOk P w H' h' a (.dK kvs):={z,B,vs,q,dd}
def IQ(hu:A.units+1<cLine)(I:Inv X pins σ H s)(g:DPut H a y v H')(ry:RelV y u)(rv:RelV v r)(h:∀s',Inv X pins σ H' s'->Q () s') :
  wpAny (model X.prog X.w) A (setItem (.ref a) u r) Q E s:=by
 rcases g with⟨kvs,k,e,U,l,J⟩|⟨kvs,k,b,e,U,eb,l,J⟩
 .subst U J
  obtain⟨z,W,vs,B,dd⟩:=NN I.hok e;have hz:vs.length<=zal:=by rw[<- B.length];exact z
  have N:(putK kvs k v).length<=zal:=by have:=cR kvs k v;lia
  refine wpAny_setItem_pairs (hsz:=hz) (mT ry) dd λh' F hs=>h _ ?_
  have he:∃q,h'.get? a=b4 q:=let ⟨q,_,_,G,_⟩:=F;{q,G};exact jL I (by rw[e];exact zbi) hs he<|DU N W (B.put k rv) F
 .subst U J
  cases(show u=zao b from ry);obtain⟨z,W,xs,B,dd⟩:=NV I.hok e;have hz:xs.length<=zal:=by rw[<- zbQ B];exact z
  have N:(putK kvs k v).length<=zal:=by have:=cR kvs k v;lia
  refine wpAny_setItem_heap (hsz:=hz) (zcZ hu) (hV I.hok eb) dd λh' F hs=>h _ ?_
  obtain⟨q,es,ep,G,h2,h3,h4,_,h5⟩:=F;refine jL I (by rw[e];exact zbi) hs {q,G} {N,W,_,(B.put k eb rv).keeps λc ys Y=>?_,q,es,ep,G,h2,h3,h4,h5};rw[aF<|GE Y e λz=>nomatch z];exact Y
end
section
variable {X:Cx}{pins:List (Addr×Obj)}{σ:St}{H:Hp}{s:zab}{a:Addr}{kvs:List (Key×V)}{k:Key}{u:Value}{A:zas}{E:Value->zab->Prop}
def YK(I:Inv X pins σ H s)(e:Rd H a<|.dK kvs)(h:∀t s',Inv X pins σ H s'->Q (.int kvs.length t) s'):wpAny (model X.prog X.w) A (call (.builtin "len") [.ref a]) Q E s:=by
 obtain⟨z,B,vs,q,dd⟩:=mW I.hok e;refine call_len_dict B dd (by rw[<- q.length];rw[zcg]at z;lia) ?_;rw[<- q.length];exact h _ _<|I.tok _
end
def qo(i:Expr):Prop:=∀z q,zdU i cr z q=operate [z,q] (zb1 z q)
def R4{E:Value->zab->Prop}{T id:String}{Q:Value->zab->Prop}
  (N:typeLookup (.type T) "__getitem__" = pure (b4<|.builtin id)) (hs:qo slice)
  (h:wpAny (model prog w) A (eval value env) (λo F=>wpAny (model prog w) A (eval slice env) (λi q=>q.TypeIs o T/\wpAny (model prog w) A (zb1 o i) Q E q) E F) E s) :
  wpAny (model prog w) A (eval (.Subscript value slice pos) env) Q E s:=by
 refine Subscript_<|zbb h (λo F G=>zbb G (λi q z=>?_) λ_ _ x=>x) λ_ _ x=>x;obtain⟨hT,z⟩:=z;unfold subscriptTail;refine zaa ?_;rw[getitemInPython_of_ne hT.not_modules];refine zaa<|zeZ hT N ?_;have fin:wpAny (model prog w) A (zdU slice cr o i) (λr B=>wpAny (model prog w) A (letTemporaryGo value o r >>= λ_=>pure r) Q E B) E q:=by
  rw[hs o i];exact wpAny_operating<|zbb z (λr B J=>zaa<|wpAny_letTemporaryGo<|zac J) λ_ _ x=>x
 first
  | exact zac<|zaa fin
  | exact zaa<|zac<|zaa fin
  | exact zaa fin
def yX(I:Inv X pins σ H s)(g:DGet H a y o):s.TypeIs (.ref a) "dict" := by
 rcases g with⟨kvs,k,e,_,_⟩|⟨kvs,k,b,e,_,_,_⟩
 .obtain⟨_,_,vs,_,dd⟩:=mW I.hok e
  exact dd.typeIs
 .obtain⟨_,_,xs,_,dd⟩:=pP I.hok e
  exact dd.typeIs
def SU(td ty:TE):TE:=λσ H Q=>td σ H λx H1=>ty σ H1 λy H2=>∃a v,x=.ref a/\DGet H2 a y (b4 v)/\Q v H2
def YY(td ty tv:TE):TS:=λD σ H=>tv σ H λv H1=>td σ H1 λx H2=>ty σ H2 λy z=>∃a q,x=.ref a/\DPut z a y v q/\D.nx σ q
section
variable {X:Cx}{o i e value:Expr}{pos pos' tpos:Pos}{td ty tv:TE}
def QO(J:X.A.units+1<cLine)(W:PE X o td)(hi:PE X i ty)(hs:qo i):PE X (.Subscript o i pos)<|SU td ty:=by
 intro pins s σ H Q I h;refine R4 PySem.F.slot_dict_getitem.lookup hs<|bN (W pins s σ H _ I h) λu G ⟨x,H1,I1,Y,B⟩=>bN (hi pins G σ H1 _ I1 B) λiv s2 ⟨y,H2,z,ry,a,v,ex,g,N⟩=>?_;subst ex;obtain rfl:u=zao a:=Y;exact{yX z g,G1 J z g ry λw' s3 U q=>{v,H2,U,q,N}}
def OW(z:X.A.units+1<cLine)(F:PE X o td)(hi:PE X i ty)(hv:PE X value tv)(hs:za7 value (b4<|.Subscript o i pos') pos.line X.env=pure cr) :
  PS X (.Assign [.Subscript o i pos'] value pos) (YY td ty tv):=by
 intro pins s σ H D I h;refine wpAny_Assign_Subscript (bN (hv pins s σ H _ I h) λr Y ⟨v,H1,N,rv,q1⟩=>bN (F pins Y σ H1 _ N q1) λu J ⟨x,H2,I2,G,q2⟩=>bN (hi pins J σ H2 _ I2 q2) λiv s3 ⟨y,H3,W,ry,a,U,ex,g,B⟩=>?_) hs;subst ex;obtain rfl:u=zao a:=G;exact IQ z W g ry rv λs4 q=>{σ,U,q,B}
end
def tR(h:Heap)(q:za9<h.objs.size):ObjOk P w H (h.push {cls:=.type "dict",data:=.dict #[]}) h.objs.size<|.dK []:=
 {za1 _,beq_eq_false_iff_ne.mpr<|zaS<|zaB q,[],.nil,Heap.DictOf.new h}
def tO(h:Heap)(q:za9<h.objs.size):ObjOk P w H (h.push {cls:=.type "dict",data:=.dict #[]}) h.objs.size<|.dT []:=
 {za1 _,beq_eq_false_iff_ne.mpr<|zaS<|zaB q,[],.nil,_,#[],0,zau _ rfl,{rfl,rfl,rfl},rfl,rfl,zc0}
def TZ:TE:=λ_ H Q=>∀p,H p=cg->Q (.ref p) (upd H p<|.dK [])
def UP:TE:=λ_ H Q=>∀p,H p=cg->Q (.ref p) (upd H p<|.dT [])
section
variable {X:Cx}{pos:Pos}
def K3:PE X (.Dict [] [] pos) TZ:=λpins s σ H Q I h=>
 wpAny_Dict_empty {.ref s.heap.objs.size,_,I.laid (a:=s.heap.objs.size) (o:=.dK []) (t':=s.toks) (λ_ _ q=>zag _ q) (zam _)<|tR s.heap I.big,rfl,h _<|I.hok.fresh<|zam _}
def JU:PE X (.Dict [] [] pos) UP:=λpins s σ H Q I h=>
 wpAny_Dict_empty {.ref s.heap.objs.size,_,I.laid (a:=s.heap.objs.size) (o:=.dT []) (t':=s.toks) (λ_ _ q=>zag _ q) (zam _)<|tO s.heap I.big,rfl,h _<|I.hok.fresh<|zam _}
end
def DW:List (TE×TE)->St->Hp->(List (V×V)->Hp->Prop)->Prop
 |[],_,H,Q=>Q [] H
 |(tk,tv)::r,σ,H,Q=>tk σ H λx H1=>tv σ H1 λy H2=>DW r σ H2 λps H3=>Q ((x,y)::ps) H3
abbrev VV:List (V×V)->List (Value×Value)->Prop:=zaV λp q=>RelV p.1 q.1/\RelV p.2 q.2
def PPs(X:Cx)(pos:Pos)(z:List<|Option Expr)(q:List Expr)(B:List<|TE×TE):Prop:=
 ∀(pins:List<|Addr×Obj) (s:zab) (σ:St) (H:Hp) (Q:List (V×V)->Hp->Prop),Inv X pins σ H s->DW B σ H Q->
  wpAny (model X.prog X.w) X.A (evalPairs<|pairTrees z q X.env pos) (λvs s'=>∃ps H',Inv X pins σ H' s'/\VV ps vs/\Q ps H') X.xe s
def R3:PPs X pos [] [] []:=λpins s σ H Q I h=>pairTrees_nil_walk {[],H,I,.nil,h}
def KU(hk:PE X k tk)(U:PE X v tv)(z:PPs X pos ks vs trs) :
  PPs X pos (b4 k::ks) (v::vs) ((tk,tv)::trs):=λpins s σ H Q I h=>
 pairTrees_cons_walk (bN (hk pins s σ H _ I h) λu F ⟨x,H1,I1,Y,B⟩=>bN (U pins F σ H1 _ I1 B) λw2 s2 ⟨y,H2,W,ry,G⟩=>
  bN (z pins s2 σ H2 _ W G) λws s3 ⟨ps,J,I3,q,N⟩=>{(x,y)::ps,J,I3,.cons {Y,ry} q,N})
def uA(kvs more:List<|Key×V):List<|Key×V:=more.foldl (λq z=>putK q z.1 z.2) kvs
def KV.merge:∀ {more:List (Key×V)} {rs:List (Key×Value)} {kvs:List (Key×V)} {vs:List (Key×Value)},KV more rs->KV kvs vs->KV (uA kvs more) (merged vs rs):=by
 intro more rs kvs vs r;unfold KV at r;induction r generalizing kvs vs with
 |nil=>intro q;exact q
 |@cons p q ps qs h t ih=>
  intro z;have e:KV (putK kvs p.1 p.2)<|stored vs q.1 q.2:=by
   have:=z.put p.1 h.2;rw[<- h.1];exact this
  exact ih e
theorem kE:∀(more kvs:List<|Key×V),(uA kvs more).length<=kvs.length+more.length
 |[],kvs=>by show kvs.length<=kvs.length+0;lia
 |p::r,kvs=>by
  have h1:=kE r<|putK kvs p.1 p.2;have h2:=cR kvs p.1 p.2;show(uA (putK kvs p.1 p.2) r).length<=_;rw[zaU];lia
theorem rK:∀ {kvs:List (Key×V)} {ws:List (Value×Value)},VV (kvs.map λz=>(kV z.1,z.2)) ws->∃rs,Carries (aT P w) ws rs/\KV kvs rs
 |[],_,r=>by rw[zbB]at r;cases r;exact{[],zbi,.nil}
 |p::kvs,_,r=>by
  rw[zak]at r;cases r with
  |@cons a b as bs h t=>
   obtain⟨rs,c,q⟩:=rK (P:=P) (w:=w) t;obtain⟨F,B⟩:=b;exact{(p.1,B)::rs,{mT h.1,rfl,c},.cons {rfl,h.2} q}
def YR(q:List<|TE×TE):TE:=λσ H Q=>∀p,H p=cg->DW q σ (upd H p<|.dK []) λps H2=>H2 p=b4 (.dK [])/\∃kvs:List (Key×V),ps=kvs.map (λz=>(kV z.1,z.2))/\kvs.length<=15/\Q (.ref p) (upd H2 p<|.dK<|uA [] kvs)
def RS(h:PPs X pos keys values trs)(F:keys.all (·.isSome)=cp)(Y:keys.length=values.length)(h0:keys≠[])
  (J:keys.length<=15):PE X (.Dict keys values pos)<|YR trs:=by
 intro pins s σ H Q I q;have hn:=I.hok.fresh<|zam s.heap.objs.size;have I1:=I.laid (a:=s.heap.objs.size) (o:=.dK []) (h':=s.heap.push {cls:=.type "dict",data:=.dict #[]}) (t':=s.toks) (λ_ _ q=>zag _ q) (zam _)<|tR s.heap I.big;refine wpAny_Dict_walk (knd:=aT X.prog X.w) F Y h0 J<|bN (h pins _ σ _ _ I1<|q _ hn) λws s2 ⟨ps,H2,N,G,e,kvs,ep,lk,U⟩=>?_;subst ep;obtain⟨rs,c,rk⟩:=rK (P:=X.prog) (w:=X.w) G;obtain⟨z,hd,W,r0,dd⟩:=NN N.hok e;cases r0;refine{rs,c,dd,λh' B hs=>{.ref s.heap.objs.size,_,?_,rfl,U}};have hz:(uA [] kvs).length<=zal:=by
  have h1:=kE kvs [];rw[zbZ]at h1;rw[zcg];lia
 have he:∃q,h'.get? s.heap.objs.size=b4 q:=let ⟨q,_,_,hq,_⟩:=B;{q,hq};exact jL N (by rw[e];exact zbi) hs he<|DU hz hd (rk.merge .nil) B
structure M1(X:Cx)(o:Expr)(m:Str)(apos:Pos)(e:Expr)(cpos:Pos):Prop where
 base:zcJ o m X.env (eval o X.env)=eval o X.env
 few:((zaJ cpos<|zah [e] X.env).all (λx=>!x.1) && (zcE cpos<|zcF [] X.env).all (λx=>x.1.isSome)
  && decide (([e]:List Expr).length+([]:List zbH).length+(if([]:List zbH).isEmpty then 0 else 1)<30))=cp
 line:(apos.endLine == cpos.line)=cp
 trees:zaJ cpos (zah [e] X.env)=[(cr,eval e X.env)]
structure M2(X:Cx)(o:Expr)(m:Str)(apos:Pos)(e f:Expr)(cpos:Pos):Prop where
 base:zcJ o m X.env (eval o X.env)=eval o X.env
 few:((zaJ cpos<|zah [e,f] X.env).all (λx=>!x.1) && (zcE cpos<|zcF [] X.env).all (λx=>x.1.isSome)
  && decide (([e,f]:List Expr).length+([]:List zbH).length+(if([]:List zbH).isEmpty then 0 else 1)<30))=cp
 line:(apos.endLine == cpos.line)=cp
 trees:zaJ cpos (zah [e,f] X.env)=[(cr,eval e X.env),(cr,eval f X.env)]
def X9(H:Hp)(a:Addr):Prop:=(∃kvs,Rd H a<|.dK kvs)\/∃kvs,Rd H a<|.dT kvs
def DS(I:Inv X pins σ H s)(d:X9 H a) :
  s.TypeIs (.ref a) "dict" /\ (∀b,zao a=.ref b->∃ob,s.heap.get? b=b4 ob/\ob.dict=cg)/\(a == za9)=cr:=by
 rcases d with⟨kvs,e⟩|⟨kvs,e⟩
 .obtain⟨_,z,vs,_,dd⟩:=mW I.hok e
  refine{dd.typeIs,λb q=>?_,z};cases q;obtain⟨ob,_,_,h1,h2,_⟩:=dd;exact{ob,h1,h2.2.1}
 .obtain⟨_,z,xs,_,dd⟩:=pP I.hok e
  refine{dd.typeIs,λb q=>?_,z};cases q;obtain⟨ob,_,_,h1,h2,_⟩:=dd;exact{ob,h1,h2.2.1}
section
variable {X:Cx}{pins:List (Addr×Obj)}{σ:St}{H:Hp}{s:zab}{a:Addr}{y d:V}{u r:Value}{o:Option V}{A:zas}{E:Value->zab->Prop}
def TY(U:A.units+1<cLine)(I:Inv X pins σ H s)(g:DGet H a y o)(J:RelV y u)(h:∀N s',Inv X pins σ H s'->RelV (o.getD .non) N->Q N s') :
  wpAny (model X.prog X.w) A (call (.builtin "dict.get") [.ref a,u]) Q E s:=by
 rcases g with⟨kvs,k,e,B,l⟩|⟨kvs,k,b,e,B,W,l⟩
 .subst B
  obtain⟨z,G,vs,q,dd⟩:=mW I.hok e;refine zdY zc1 dd.typeIs zdZ (PySem.F.args_dict_get_2 _ _) (meets_dict_get (aT X.prog X.w) a (mT J) G) {_,dd.mapOf,h _ _ (I.tok _) ?_};rw[l];exact(q.val k).getD rfl
 .subst B
  cases(show u=zao b from J);obtain⟨z,G,xs,q,dd⟩:=pP I.hok e;refine zdY zc1 dd.typeIs zdZ (PySem.F.args_dict_get_2 _ _) (meetsH_dict_get (za4<|aT X.prog X.w) a b G) {zcZ U,k,xs,hV I.hok W,dd,h _ _ (I.tok _) ?_};rw[l];exact(q.val k).getD rfl
def WN(W:A.units+1<cLine)(I:Inv X pins σ H s)(g:DGet H a y o)(J:RelV y u)(U:RelV d r)(h:∀N s',Inv X pins σ H s'->RelV (o.getD d) N->Q N s') :
  wpAny (model X.prog X.w) A (call (.builtin "dict.get") [.ref a,u,r]) Q E s:=by
 rcases g with⟨kvs,k,e,B,l⟩|⟨kvs,k,b,e,B,Y,l⟩
 .subst B
  obtain⟨z,G,vs,q,dd⟩:=mW I.hok e;refine zdY zc1 dd.typeIs zdZ (PySem.F.args_dict_get_3 _ _ _) (meets_dict_get_default (aT X.prog X.w) a (mT J) G r) {_,dd.mapOf,h _ _ (I.tok _) ?_};rw[l];exact(q.val k).getD U
 .subst B
  cases(show u=zao b from J);obtain⟨z,G,xs,q,dd⟩:=pP I.hok e;refine zdY zc1 dd.typeIs zdZ (PySem.F.args_dict_get_3 _ _ _) (meetsH_dict_get_default (za4<|aT X.prog X.w) a b G r) {zcZ W,k,xs,hV I.hok Y,dd,h _ _ (I.tok _) ?_};rw[l];exact(q.val k).getD U
end
def UM(td ty:TE):TE:=λσ H Q=>td σ H λx H1=>∃a,x=.ref a/\X9 H1 a/\ty σ H1 λy H2=>∃o,DGet H2 a y o/\Q (o.getD .non) H2
def V9(td ty tx:TE):TE:=λσ H Q=>td σ H λx H1=>∃a,x=.ref a/\X9 H1 a/\ty σ H1 λy H2=>tx σ H2 λz q=>∃o,DGet q a y o/\Q (o.getD z) q
section
variable {X:Cx}{o e f:Expr}{apos cpos:Pos}{td ty tx:TE}
def K6(B:X.A.units+1<cLine)(G:PE X o td)(he:PE X e ty)(m:M1 X o "get" apos e cpos):PE X (.Call (.Attribute o "get" apos) [e] [] cpos)<|UM td ty:=by
 intro pins s σ H Q I h;refine wpAny_Call_method m.base m.few m.line ze0 zc1 PySem.F.type_dict_get<|bN (G pins s σ H _ I h) λu U ⟨x,H1,z,J,a,ex,d,q1⟩=>?_;subst ex;obtain rfl:u=zao a:=J;obtain⟨W,t2,_⟩:=DS z d;refine{W,t2,?_};rw[m.trees];refine zdV rfl<|zeX<|zdO<|bN (he pins U σ H1 _ z q1) λiv s2 ⟨y,H2,I2,ry,ov,g,Y⟩=>zeM ?_;exact TY B I2 g ry λw' s3 N q=>{_,H2,N,q,Y}
def J4(J:X.A.units+1<cLine)(U:PE X o td)(he:PE X e ty)(hf:PE X f tx)(m:M2 X o "get" apos e f cpos):PE X (.Call (.Attribute o "get" apos) [e,f] [] cpos)<|V9 td ty tx:=by
 intro pins s σ H Q I h;refine wpAny_Call_method m.base m.few m.line ze0 zc1 PySem.F.type_dict_get<|bN (U pins s σ H _ I h) λu s1 ⟨x,H1,B,W,a,ex,d,q1⟩=>?_;subst ex;obtain rfl:u=zao a:=W;obtain⟨t1,t2,_⟩:=DS B d;refine{t1,t2,?_};rw[m.trees];refine zdV rfl (zeX<|zdO<|bN (he pins s1 σ H1 _ B q1) λiv Y ⟨y,H2,I2,ry,q2⟩=>
  zdO (bN (hf pins Y σ H2 _ I2 q2) λfv s3 ⟨z,H3,I3,rz,ov,g,N⟩=>zeM ?_))
 exact WN J I3 g ry rz λw' s4 G q=>{_,H3,G,q,N}
end
end L2
namespace Att
open PySem PySem.W PySem.Calls PyProof.Rows
def pV:∀(ns:List Int) (vs:List Value),WellAll P h vs (ns.map WData.int)->za8 vs ns:=by
 intro ns;induction ns with
 |nil=>
  intro vs w;rw[zbB]at w;cases w;exact .nil
 |cons n ns ih=>
  intro vs w;rw[zak]at w;cases w with
  |cons a b=>
   cases a;exact .cons _ _<|ih _ b
def HS{l:OpenLaw}{n:Nat}(hn:l.most=b4 n){P:Params}{h:Heap}{args:List WData}{z:List Value}
  (B:l.row.toRowW.claim.pre args=cp) (N:WellAll P h z args) :
  ∃a vs ns,z=[zao a]/\args=[WData.list<|ns.map WData.int]/\h.get? a=b4 {cls:=.type "list",data:=.seq vs.toArray}/\za8 vs ns/\ns.length<=n:=by
 have U:WShape.hasAll [] args [.list .int]=cp:=(pre_splitW B).1;have W:l.pre.holds [] {args:=args}=cp:=(pre_splitW B).2;obtain⟨d,r,rfl,h1,h2⟩:=hasAllW_cons U;obtain rfl:=hasAllW_nil h2;obtain⟨xs,rfl,h3⟩:=hasW_list h1;obtain⟨ns,rfl⟩:=items_int h3;have F:ns.length<=n:=by
  unfold OpenLaw.pre at W;have G:(WTm.not<|.lt (.lit<|.int (n:Int))<|.len<|.arg 0).holds [] {args:=[.list<|ns.map .int]}=cp:=by
   have G:=(holds_andW W).1;rw[hn]at G;exact G
  have J:=condW_of G<|w_not<|w_lt w_lit<|w_len_list<|w_arg rfl;rw[zaj]at J;refine Nat.le_of_not_lt λq=>?_
  have Y:(n:Int)<((ns.length:Nat):Int):=by lia
  first
   | (rw[decide_eq_true Y]at J;exact absurd J<|by decide)
   | (simp at J;lia)
 cases N with
 |cons w1 w2=>
  cases w2;cases w1 with
  |list ho hall=>exact{_,_,ns,rfl,rfl,ho,pV ns _ hall,F}
def HN(l:OpenLaw)(args:List WData):l.row.toRowW.claim.post args (.bool cp) args=cp:=
 postW_of (r:=l.row.toRowW) (X:=(cp == cp))
  (show WShape.has [] (.bool cp) .bool=cp by first|rfl|decide|simp[WShape.has,WShape.arms,WShape.armsAll])
  (show(WTm.eq .res<|.lit<|.bool cp).value [] {args:=args,res:=b4<|.bool cp,after:=args}=b4 (.bool<|cp == cp)from w_eq_bool (w_res rfl) w_lit) rfl
def zI{l:OpenLaw}{n:Nat}{q:zap}{F:List Str}{XP:(Str->Option Value)->Heap->Prop}{YP:World->Heap->Prop}{d:DefRec}
  (hn:l.most=b4 n) (af:d.params.defaults=[])
  (call:∀(w:World) (B z:zab) (mg mb:Str -> Option Value) (W:Addr) (o:Obj) (pm cd J:Value) (a:Addr) (vs:List Value) (ns:List Int),
   Ground q F [] XP w B mg mb z.heap->YP w z.heap->
   z.heap.get? W=b4 o->o.data=.func (docDef d.name d.params d.body d.scope pm cd J)->z.heap.CodeRec cd d.name->mg d.name=b4 (.ref W)->
   z.heap.get? a=b4 {cls:=.type "list",data:=.seq vs.toArray}->za8 vs ns->ns.length<=n->z.gens=#[]->
   zbu (model l.prog w) zcN (.call (.ref W) {[.ref a],[]}) (λr s'=>r=.ok (.ret<|.bool cp)/\OldK z.heap s'.heap/\s'.os=z.os/\zcc s'.gens) z) :
  WalkO q F XP YP l.row.toRowW d [] (λf vs=>PySem.call f vs):=by
 intro w B z mg mb G Y W o pm cd J dV kV ho hd ah hD ad hg args aj as aa al az ae ao;obtain rfl:dV=.none:=Dflts.none hD af;obtain rfl:kV=.none:=Dflts.noKw hD;obtain⟨a,vs,ns,rfl,rfl,U,N,ab⟩:=HS hn aa ae;refine enter_call<|zdP (call w B z mg mb W o pm cd J a vs ns G Y ho (fd_plain hd) ah ad U N ab hg) λr s' hq=>?_;obtain⟨rfl,h2,h3,h4⟩:=hq;exact{.inl {.bool cp,.bool cp,[],rfl,λ_=>rfl,.bool cp,HN l _,λ_=>{List.Pairwise.nil,λ_ hm=>(nomatch hm)}},h2,h3,h4}
section
variable {prog:zap}{w:World}{A:zas}{E:Value->zab->Prop}{s:zab}{K:Frag}
def yD(h:Heap):Heap:={h with objs:=#[]}
def kQ(h:Heap)(b:Addr):(yD h).get? b=cg:=by
 cases e:(yD h).get? b with
 |none=>rfl
 |some o=>exact absurd (zai e)<|ze1 _
def ledger(h:Heap)(L d:Addr):List<|Addr×Obj:=(zav h.objs.size).filterMap λa=>if a=L\/a=d then cg else(h.get? a).map λo=>(a,o)
set_option tactic.hygienic true in
def dR:(a,o)∈ledger h L d↔a≠L/\a≠d/\h.get? a=b4 o:=by
 unfold ledger;rw[List.mem_filterMap];constructor
 .rintro⟨b,_,e⟩
  split at e
  .cases e
  .rename_i hb
   obtain⟨o',z,B⟩:=Option.map_eq_some_iff.mp e;cases B;exact{λq=>hb<|.inl q,λq=>hb<|.inr q,z}
 .rintro⟨G,F,z⟩
  refine{a,List.mem_range.mpr<|zai z,?_};rw[cx<|show ¬ (a=L\/a=d)from λq=>q.elim G F,z] <;> rfl
def VF(n:h.Ns L m):Fr (yD h) L h m:=
 {n,λb o e=>(by rw[kQ]at e;cases e),za1 _}
end
end Att
namespace L2
open PySem PySem.Spec PyProof.Rows
theorem v8:∀ {vs:List Value} {ns:List Int},za8 vs ns->Vals (ns.map V.int) vs
 |_,_,.nil=>.nil
 |_,_,.cons n t h=>.cons {t,rfl}<|v8 h
def Only(H:Hp):Prop:=∀b,H b=cg\/∃o xs,H b=b4 (.frz o<|.lst xs)
def LJ{P:zap}{w:World}{K:zaf}{mg mb:Str->Option Value}{CX:JN}{k:Nat}{fa a:Addr}{fd:zbt}{x:Str}{sp:Sp}{B:zab}{vs:List Value}{ns:List Int}
  (KX:K.In B.heap) (Y:B.heap.Ns za3 mg) (J:B.heap.Ns builtinsNs mb) (ao:∀x:Str,x ≠ "__name__" -> mb x=zaO x) (ad:B.heap.NoLimit) (hg:B.gens=#[])
  (ha:B.heap.get? a=b4 {cls:=.type "list",data:=.seq vs.toArray}) (hi:za8 vs ns) (hl:ns.length<=zal) (hr:Room k zcN)
  (F:∀base:Heap,K.In base->base.Ns za3 mg->FnOk P w K mg base CX k fa fd [x] sp) (W:∀(s:zab) (u:Value),BindsTo s fd {[u],[]} [(x,u)])
  (al:∀H:Hp,Only H->SqL K H a (ns.map V.int)->sp [.ref a] H (λv _=>v=.bl cp) λ_ _ _=>False)
  (aj:∀H e s',CX [] H B (λ_ _ _=>False) e s'->False) :
  zbu (model P w) zcN (.call (.ref fa) {[.ref a],[]}) (λr s'=>r=.ok (.ret<|.bool cp)/\OldK B.heap s'.heap/\s'.os=B.os/\zcc s'.gens) B:=by
 have rv:=v8 hi;have ag:=hi.length
 -- from an abstract heap in which nothing but the script may be tracked
 have U:∀H:Hp,Only H->SqL K H a (ns.map V.int)->HOk P w H B.heap->(∀b,H b≠cg->b=a)->(H a≠cg->K.lookup a=cg)->
   zbu (model P w) zcN (.call (.ref fa) {[.ref a],[]}) (λr s'=>r=.ok (.ret<|.bool cp)/\OldK B.heap s'.heap/\s'.os=B.os/\zcc s'.gens) B:=by
  intro H hO hS af hA hK;have G:∀ {b:Addr} {o:Obj},B.heap.get? b=b4 o->H b=cg->(yP B.heap H).get? b=b4 o:=λe n=>KN e n
  have ak:∀ {b:Addr} {o:Obj} {es:Array zbD} {ep:Nat},B.heap.get? b=b4 o->o.data=.dict es ep->H b=cg:=λ{b o es ep} e d=>by
   cases q:H b with
   |none=>rfl
   |some u=>
    have e':b=a:=hA b (by rw[q];simp);subst e';rw[ha]at e;cases e;have d':Data.seq vs.toArray _=Data.dict es ep:=d;cases d'
  have N:∀ {b:Addr} {m:Str->Option Value},B.heap.Ns b m->(yP B.heap H).Ns b m:=λ{b m} ⟨o,es,ep,e,d,r⟩=>{o,es,ep,G e<|ak e d,d,r}
  have ae:K.In<|yP B.heap H:=λb o e=>G (KX b o e) (by
   cases q:H b with
   |none=>rfl
   |some u=>
    have e':b=a:=hA b (by rw[q];simp);subst e';rw[hK<|by rw[q];simp]at e;cases e)
  have hM:Mod K mg<|yP B.heap H:={ae,N Y,{mb,N J,ao},let ⟨mc,h1,h2⟩:=ad;{mc,N h1,h2}};have e0:Env0 P w K mg (yP B.heap H) zcN [] B H:={rfl,hM,λb o e=>PX e,Nat.le_of_eq<|G2 _ _,trivial,λb J=>absurd (show b∈([]:List Addr)from J)<|by simp,af,.of_eq hg};refine zdP ((F _ ae<|N Y).run zcN [] B H {[.ref a],[]} [.ref a] [.ref a] _ _ hr e0 (W B<|.ref a) (.cons rfl .nil)<|al H hO hS) λr s' h=>?_
  cases r with
  |error e=>exact(aj H e s' h).elim
  |ok fl=>
   cases fl with
   |next=>exact zbF h
   |brk=>exact zbF h
   |cont=>exact zbF h
   |ret u=>
    obtain⟨v,H',os,ab,un,aa,r',q⟩:=h;have q':v=.bl cp:=q;subst q';obtain rfl:u=zcb cp:=r';refine{rfl,OldK.of_keep λb o e=>?_,os,ab};cases q:H b with
    |none=>exact un.keep b o e q (by intro z;exact absurd (show b∈([]:List Addr)from z)<|by simp)<|by simp
    |some u=>
     rcases hO b with z|⟨ob,xs,z⟩
     .rw[q]at z;cases z
     .have z2:=un.frzs b ob _ z
      obtain⟨e1,_⟩:=af b _ z;obtain⟨e2,_⟩:=aa b _ z2;rw[e]at e1;cases e1;exact e2
 cases hk:K.lookup a with
 |some o=>
  -- the script is one of the module's own objects
  have e:=KX a o hk;rw[ha]at e;cases e;refine U (λ_=>cg) (λ_=>.inl rfl) (.inr {_,vs.toArray,_,hk,rfl,rfl,rfl,by rw[zaC,ag];exact hl,by simpa using rv}) (λb u z=>by have z':(cg:Option HO)=b4 u:=z;cases z') (λb z=>absurd rfl z) λz=>absurd rfl z
 |none=>
  refine U (λb=>if b=a then b4 (.frz {cls:=.type "list",data:=.seq vs.toArray}<|.lst<|ns.map V.int)else cg) (λb=>?_) (.inl<|.inr {{cls:=.type "list",data:=.seq vs.toArray},cw rfl}) (λb u z=>?_) (λb z=>?_) λ_=>hk
  .by_cases J:b=a
   .exact .inr {_,_,cw J}
   .exact .inl<|cx J
  .by_cases J:b=a
   .have z':=(cw J).symm.trans z
    cases z';subst J;exact{ha,by rw[zaj];exact hl,vs,_,rv,ha}
   .have z':=(cx J).symm.trans z
    cases z'
  .by_cases J:b=a
   .exact J
   .exact absurd (cx J) z
def QV{l:ze2}{n k:Nat}{q:zap}{J:List Str}{XP:(Str->Option Value)->Heap->Prop}{YP:World->Heap->Prop}{d:DefRec}{K:Params->zaf}{CX:World->JN}{sp:World->Sp}{x:Str}
  (hn:l.most=b4 n) (ab:n<=zal) (ad:d.params.defaults=[]) (hr:Room k zcN)
  (hY:∀(w:World) (h:Heap),YP w h->(K w.params).In h)
  (F:∀(w:World) (mg:Str -> Option Value) (fa:Addr) (h:Heap), (K w.params).In h -> h.Ns za3 mg -> mg d.name = b4 (.ref fa) ->
   ∃fd:zbt,(∀(s:zab) (u:Value),BindsTo s fd {[u],[]} [(x,u)]) /\
    ∀base:Heap,(K w.params).In base->base.Ns za3 mg->FnOk l.prog w (K w.params) mg base (CX w) k fa fd [x] (sp w))
  (af:∀(w:World) (H:Hp) (a:Addr) (ns:List Int),ns.length<=n->Only H->SqL (K w.params) H a (ns.map V.int)->sp w [.ref a] H (λv _=>v=.bl cp) λ_ _ _=>False)
  (ae:∀(w:World) (H:Hp) (s:zab) (e:Value) (s':zab),CX w [] H s (λ_ _ _=>False) e s'->False) :
  PySem.W.WalkO q J XP YP l.row.toRowW d [] (λf vs=>PySem.call f vs):=by
 refine Att.zI hn ad λw ag U mg mb fa o pm cd am a vs ns G Y ho hd ar ac N B z hg=>?_
 have KX:=hY w _ Y;obtain⟨fd,hb,hF⟩:=F w mg fa _ KX G.T.g ac;exact LJ KX G.T.g G.T.b G.T.builtins G.T.nolimit hg N B (zbf z ab) hr hF hb (λH hO hS=>af w H a ns z hO hS) λH e s'=>ae w H U e s'
def d7(s:Stmt):Arguments:=match s with
 |.FunctionDef _ a _ _ _ _ _ _ _ _=>a
 |_=>{posonlyargs:=[],args:=[],vararg:=cg,kwonlyargs:=[],kw_defaults:=[],kwarg:=cg,defaults:=[]}
def b9(s:Stmt):List Stmt:=match s with
 |.FunctionDef _ _ b _ _ _ _ _ _ _=>b
 |_=>[]
def aS(s:Stmt):Scope:=match s with
 |.FunctionDef _ _ _ _ _ _ sc _ _ _=>sc
 |_=>{kind:=.function,names:=[],isGenerator:=cr,isCoroutine:=cr}
abbrev JJ:JN:=λ_ _ _ _ _ _=>False
abbrev E0:XK:=λ_ _ _=>False
def Y0:DY JJ X E0:=λ_ _ _ _ _ _ _ h=>h.elim
structure Fun(K:zaf)(x qual:Str)(st:Stmt)(f:Addr)(fd:zbt):Prop where
 ex:∃(oc:Value) (od:Option Addr) (kV doc pm:Value) (an:Option Addr) (cdv ct:Value) (osl:Array<|Option Value),
  fd=zbK x qual (d7 st) (b9 st) (aS st) .none kV doc pm an cdv ct/\K.lookup f=b4 {oc,od,.func fd,osl}/\zcX K cdv qual=cp
 kp:zct K (.ref f)=cp
section
variable {P:zap}{w:World}{K:zaf}{mg:Str->Option Value}{base:Heap}
def Fun.ok{x z:Str}{st:Stmt}{f:Addr}{fd:zbt}{N ps:List Str}{k:Nat}{sp:Sp}(F:Fun K x z st f fd)(S:FnScope N ps<|aS st)(len:∀vs H Q E,sp vs H Q E->vs.length=ps.length)
  (G:∀(B:Value) (A:zas) (outer:List Env) (s:zab) (H:Hp) (vs:List V) (Q:VK) (E:XK), Room k (A.deeper<|zbo z (aS st) s.heap.objs.size f B) -> sp vs H Q E ->
   ∃t,PSs (uL JJ P w K mg base N z (aS st) f B A outer s H E).nox (b9 st) t/\t {nx:=λ_ H'=>Q .non H',rt:=Q} (start N vs) H):FnOk P w K mg base JJ (k+1) f fd ps sp:=by
 obtain⟨oc,od,kV,Y,pm,an,B,ct,ab,rfl,lk,U⟩:=F.ex;refine Y5 lk U S len λA outer s H vs Q E W J=>?_
 obtain⟨t,h,q⟩:=G B A outer s H vs Q E W J;exact{t,h.nox,q}
def Fun.binds{x q:Str}{st:Stmt}{f:Addr}{fd:zbt}{ps:List Str}(F:Fun K x q st f fd)
  (h:∀(kV z G:Value) (J:Option Addr) (B ct:Value) (us:List Value),us.length=ps.length->bindArgs (zbK x q (d7 st) (b9 st) (aS st) .none kV z G J B ct) {us,[]}=pure (ps.zip us)):Binds K fd ps []:=by
 obtain⟨W,od,kV,z,G,J,B,ct,U,rfl,Y,N⟩:=F.ex;exact .all<|h kV z G J B ct
def MJ{x q:Str}{st:Stmt}{f:Addr}{N:Value}{od J:Option Addr}{F:Array (Option Value)}{kV B G z ct:Value}(l:K.lookup f=b4 {N,od,.func<|zbK x q (d7 st) (b9 st) (aS st) .none kV B G J z ct,F})
  (c:zcX K z q=cp) (k:zct K (.ref f)=cp):Fun K x q st f<|zbK x q (d7 st) (b9 st) (aS st) .none kV B G J z ct:={{N,od,kV,B,G,J,z,ct,F,rfl,l,c},k}
end
def SQ(q:Room k A):A.units+1<cLine:=zdm (Nat.add_le_add_left (by decide:1<=64) _) q.units
section
variable {X:Cx}
def pv(i:Nat)(B:X.N[i]?=b4 x:=by rfl)(z:X5 X.env.scope x:=by first|exact zbN rfl|exact zcj (zbN rfl)|exact zcj<|zcj rfl)(F:(x == ("__debug__" : Str))=cr:=by decide)
  (q:(x == ("__classdict__" : Str))=cr:=by decide):PE X (.Name x pos)<|yL i:=WM B z F q
end
def qa8{A B:Prop}(h:B):if cr=cp then A else B:=by
 rw[cx zat];exact h
def qa4{A B:Prop}(h:A):if cp=cp then A else B:=by
 rw[cw rfl];exact h
def Same(H H':Hp):Prop:=∀b o,H b=b4 o->H' b=b4 o
section
variable {κ:Type}[DecidableEq κ]
theorem EW:∀ {l:List κ} {k:κ},l.Nodup->¬ k∈l->(l++[k]).Nodup
 |[],k,_,_=>by simp
 |a::r,k,h,hk=>by
  obtain⟨h1,h2⟩:=List.nodup_cons.mp h;show(a::(r++[k])).Nodup;refine List.nodup_cons.mpr {λm=>?_,EW h2 λm=>hk<|List.mem_cons.mpr<|zcj m};rcases List.mem_append.mp m with q|q
  .exact h1 q
  .exact hk<|List.mem_cons.mpr<|zbN (List.mem_singleton.mp q).symm
end
end L2
set_option maxHeartbeats 4000000
open PySem PySem.Spec PyProof.Rows L2
namespace My
def qt(i j:Int):Prop:=(-(10^250)<i/\i<10^250)/\-(10^250)<j/\j<10^250
section
variable {X:Cx}
def qaZ(K:zaf):List V->Hp->VK->Prop:=λxs H Q=>∃x n t b,xs=[x,.ty n]/\TyOf K H x t/\zdk K t (.type n)=b4 b/\Q (.bl b) H
def KG:CallR X (.builtin "isinstance")<|qaZ X.K:=by
 intro pins s σ H xs us Q I r h;obtain⟨x,n,t,b,rfl,ty,e,q⟩:=h;obtain⟨u,F,rfl,B,z⟩:=vals2 r;cases z;exact HP I B ty e λtk=>{.bl b,H,I.tok tk,rfl,q}
end
structure Ok(P:zap)(w:World)(K:zaf)(mg:Str->Option Value)(base:Heap)(x:Str)(k:Nat)(ps:List Str)(sp:Sp):Prop where
 ex:∃f fd,zct K (.ref f)=cp/\Binds K fd ps []/\mg x=b4 (.ref f)/\FnOk P w K mg base JJ k f fd ps sp
structure DefAt(K:zaf)(mg:Str->Option Value)(x:Str)(st:Stmt)(ps:List Str):Prop where
 ex:∃f fd,Fun K x x st f fd/\Binds K fd ps []/\mg x=b4 (.ref f)
def W1(sp:Sp)(t:TA):TE:=λσ H Q=>t σ H λvs H1=>sp vs H1 Q E0
section
variable {X:Cx}{x:Str}{k:Nat}{ps:List Str}{sp:Sp}{e:Expr}{es:List Expr}{t:TA}{p pos:Pos}
def JS(O:Ok X.prog X.w X.K X.mg X.base x k ps sp)(B:Room k X.A)(W:Gl X x)(G:PA X (e::es) t)(z:(x == ("__debug__" : Str))=cr:=by decide)
  (U:zah (e::es) X.env=(cr,eval e X.env)::zah es X.env:=by rfl) (q:(zaJ pos<|zah es X.env).any (·.1)=cr:=by rfl) :
  PE X (.Call (.Name x p) (e::es) [] pos) (W1 sp t):=by
 obtain⟨f,fd,Y,J,N,F⟩:=O.ex;have h:=OU (p:=p) (pos:=pos) F B W N Y J .nil Y0 G z U q;intro pins s σ H Q I hw;refine h pins s σ H Q I ?_;have e:(λ(vs:List V) (H1:Hp)=>sp (vs++[]) H1 Q E0)=λvs H1=>sp vs H1 Q E0:=by
  funext vs H1;rw[zcs]
 show t σ H λvs H1=>sp (vs++[]) H1 Q E0
 rw[e];exact hw
end
section
variable {P:zap}{w:World}{K:zaf}{mg:Str->Option Value}{base:Heap}
def BodyOk(P:zap)(w:World)(K:zaf)(mg:Str->Option Value)(base:Heap)(x:Str)(st:Stmt)(N:List Str)(k:Nat)(sp:Sp):Prop:=
 ∀(f:Addr) (cdv:Value) (A:zas) (outer:List Env) (s:zab) (H:Hp) (vs:List V) (Q:VK) (E:XK),Room k (A.deeper<|zbo x (aS st) s.heap.objs.size f cdv)->sp vs H Q E->
   ∃t,PSs (uL JJ P w K mg base N x (aS st) f cdv A outer s H E).nox (b9 st) t/\t {nx:=λ_ H'=>Q .non H',rt:=Q} (start N vs) H
def BodyOk.fn{x:Str}{st:Stmt}{N ps:List Str}{k:Nat}{sp:Sp}{f:Addr}{fd:zbt}(q:BodyOk P w K mg base x st N k sp)(F:Fun K x x st f fd)(S:FnScope N ps<|aS st)(len:∀vs H Q E,sp vs H Q E->vs.length=ps.length) :
  FnOk P w K mg base JJ (k+1) f fd ps sp:=F.ok S len λz A outer s H vs Q E B h=>q f z A outer s H vs Q E B h
def BodyOk.ok{x:Str}{st:Stmt}{N ps:List Str}{k:Nat}{sp:Sp}(q:BodyOk P w K mg base x st N k sp)(D:DefAt K mg x st ps)(S:FnScope N ps<|aS st)(len:∀vs H Q E,sp vs H Q E->vs.length=ps.length) :
  Ok P w K mg base x (k+1) ps sp:=by
 obtain⟨f,fd,F,B,z⟩:=D.ex;exact{f,fd,F.kp,B,z,q.fn F S len}
end
def BN(K:zaf):Sp:=λvs H Q _=>∃(a:Addr) (ns:List Int),vs=[.ref a]/\SqL K H a (ns.map V.int)/\ns.length<=63/\∀H',Q (.bl cp) H'
def walk{l:ze2}{q:zap}{B:List Str}{U:(Str->Option Value)->Heap->Prop}{J:World->Heap->Prop}{d:DefRec}{K:Params->zaf}{k:Nat}(hk:k<=100)(hn:l.most=b4 63)(G:d.params.defaults=[])
  (hY:∀(w:World) (h:Heap),J w h->(K w.params).In h)
  (F:∀(w:World) (mg:Str -> Option Value) (fa:Addr) (h:Heap), (K w.params).In h -> h.Ns za3 mg -> mg d.name = b4 (.ref fa) ->
   ∃fd:zbt,(∀(s:zab) (u:Value),BindsTo s fd {[u],[]} [("script",u)])/\∀base:Heap,(K w.params).In base->base.Ns za3 mg->FnOk l.prog w (K w.params) mg base JJ k fa fd ["script"] (BN<|K w.params)) :
  PySem.W.WalkO q B U J l.row.toRowW d [] (λf vs=>PySem.call f vs):=
 L2.QV (n:=63) (k:=k) (x := "script") (CX:=λ_=>JJ) (sp:=λw=>BN<|K w.params) hn (by decide) G (Room.mono (k:=100) {rfl,by decide,by decide} hk) hY F (λ_ _ a ns Y _ N=>{a,ns,rfl,N,Y,λ_=>rfl}) λ_ _ _ _ _ z=>z
def BA(h:H p=cg):Same H<|upd H p o:=λb u e=>by
 rw[aF<|aP e h];exact e
def boot_len:zaO "len" = b4 (.builtin "len"):=by decide +kernel
def boot_max:zaO "max" = b4 (.builtin "max"):=by decide +kernel
def boot_min:zaO "min" = b4 (.builtin "min"):=by decide +kernel
def boot_isinstance:zaO "isinstance" = b4 (.builtin "isinstance"):=by decide +kernel
def boot_sorted:zaO "sorted" = b4 (.builtin "sorted"):=by decide +kernel
def boot_int:zaO "int" = b4 (.type "int"):=by decide +kernel
def boot_bool:zaO "bool" = b4 (.type "bool"):=by decide +kernel
def boot_tuple:zaO "tuple" = b4 (.type "tuple"):=by decide +kernel
def boot_list:zaO "list" = b4 (.type "list"):=by decide +kernel
def boot_dict:zaO "dict" = b4 (.type "dict"):=by decide +kernel
def boot_range:zaO "range" = b4 (.type "range"):=by decide +kernel
def boot_zip:zaO "zip" = b4 (.type "zip"):=by decide +kernel
def boot_all:zaO "all" = b4 (.builtin "all"):=by decide +kernel
end My
namespace My
open PySem.SeqAt
inductive Dx where
 | non|bl (b:Bool)|int (i:Int)|str (x:Str)|tup (l:List Dx)|lst (l:List Dx)
mutual
def Rep(K:zaf)(H:Hp):Dx->V->Prop
 |.non,v=>v=.non
 |.bl b,v=>v=.bl b
 |.int i,v=>v=.int i
 |.str x,v=>v=.str x
 |.tup l,v=>∃a xs,v=.ref a/\SqT K H a xs/\RepL K H l xs
 |.lst l,v=>∃a xs,v=.ref a/\SqL K H a xs/\RepL K H l xs
def RepL(K:zaf)(H:Hp):List Dx->List V->Prop
 |[],vs=>vs=[]
 |d::ds,vs=>∃x xs,vs=x::xs/\Rep K H d x/\RepL K H ds xs
end
section
variable {K:zaf}{H H':Hp}
theorem RepL.length:∀ {ds:List Dx} {vs:List V},RepL K H ds vs->vs.length=ds.length
 |[],vs,h=>by rw[RepL]at h;rw[h];rfl
 |d::ds,vs,h=>by
  rw[RepL]at h;obtain⟨x,xs,rfl,_,h2⟩:=h;rw[zaU,zaU,RepL.length h2]
theorem RepL.get':∀ {ds:List Dx} {vs:List V} {i:Nat} {d:Dx},RepL K H ds vs->ds[i]?=b4 d->∃v,vs[i]?=b4 v/\Rep K H d v
 |[],vs,i,d,h,e=>by simp at e
 |d'::ds,vs,i,d,h,e=>by
  rw[RepL]at h;obtain⟨x,xs,rfl,h1,h2⟩:=h;cases i with
  |zero=>simp at e;subst e;exact{x,rfl,h1}
  |succ i=>exact RepL.get' (i:=i) (ds:=ds) h2<|by simpa using e
mutual
def Dx.dep:Dx->Nat
 |.tup l=>yM l+1
 |.lst l=>yM l+1
 |.non=>0
 |.bl _=>0
 |.int _=>0
 |.str _=>0
def yM:List Dx->Nat
 |[]=>0
 |d::ds=>max d.dep<|yM ds
end
mutual
def Dx.nb:Dx->Bool
 |.bl _=>cr
 |.tup l=>N6 l
 |.lst l=>N6 l
 |.non=>cp
 |.int _=>cp
 |.str _=>cp
def N6:List Dx->Bool
 |[]=>cp
 |d::ds=>d.nb && N6 ds
end
theorem FG:∀ {ds:List Dx} {i:Nat} {d:Dx},ds[i]?=b4 d->d.dep<=yM ds
 |[],i,d,e=>by simp at e
 |d'::ds,0,d,e=>by simp at e;subst e;rw[yM];lia
 |d'::ds,i+1,d,e=>by
  have:=FG (ds:=ds) (i:=i) (by simpa using e);rw[yM];lia
theorem DP:∀ {ds:List Dx} {i:Nat} {d:Dx},N6 ds=cp->ds[i]?=b4 d->d.nb=cp
 |[],i,d,_,e=>by simp at e
 |d'::ds,0,d,h,e=>by simp at e;subst e;rw[N6,zaM]at h;exact h.1
 |d'::ds,i+1,d,h,e=>by
  rw[N6,zaM]at h;exact DP h.2<|by simpa using e
end
section
variable {X:Cx}{pins:List (Addr×Obj)}{σ:L2.St}{H:Hp}{s:zab}
def FF(I:Inv X pins σ H s)(h1:SqL X.K H a xs)(h2:SqT X.K H a ys):False:=by
 obtain⟨B,_,⟨o,n,e,c,_⟩,_⟩:=I.list h1;obtain⟨its',_,⟨o',z,q,_⟩,_⟩:=I.tuple h2;rw[e]at z;cases z;rw[c]at q;exact absurd q<|by decide
mutual
theorem Rep.inj(I:Inv X pins σ H s):∀(d e:Dx) (v:V),Rep X.K H d v->Rep X.K H e v->d=e
 |.non,e,v,h,h'=>by
  rw[Rep]at h;subst h;cases e <;> (rw[Rep]at h') <;> first|rfl|(cases h';done)|(obtain⟨_,_,z,_⟩:=h';cases z)
 |.bl b,e,v,h,h'=>by
  rw[Rep]at h;subst h;cases e <;> (rw[Rep]at h') <;> first|(cases h';rfl)|(cases h';done)|(obtain⟨_,_,z,_⟩:=h';cases z)
 |.int i,e,v,h,h'=>by
  rw[Rep]at h;subst h;cases e <;> (rw[Rep]at h') <;> first|(cases h';rfl)|(cases h';done)|(obtain⟨_,_,z,_⟩:=h';cases z)
 |.str x,e,v,h,h'=>by
  rw[Rep]at h;subst h;cases e <;> (rw[Rep]at h') <;> first|(cases h';rfl)|(cases h';done)|(obtain⟨_,_,z,_⟩:=h';cases z)
 |.tup l,e,v,h,h'=>by
  rw[Rep]at h;obtain⟨a,xs,rfl,h1,h2⟩:=h;cases e with
  |tup m=>
   rw[Rep]at h';obtain⟨b,ys,q,B,F⟩:=h';cases q;have G:=I.tuple_inj h1 B;subst G;rw[RepL.inj I l m xs h2 F]
  |lst m=>
   rw[Rep]at h';obtain⟨b,ys,q,B,F⟩:=h';cases q;exact(FF I B h1).elim
  |non=>rw[Rep]at h';cases h'
  |bl b=>rw[Rep]at h';cases h'
  |int i=>rw[Rep]at h';cases h'
  |str x=>rw[Rep]at h';cases h'
 |.lst l,e,v,h,h'=>by
  rw[Rep]at h;obtain⟨a,xs,rfl,h1,h2⟩:=h;cases e with
  |lst m=>
   rw[Rep]at h';obtain⟨b,ys,q,B,F⟩:=h';cases q;have G:=I.list_inj h1 B;subst G;rw[RepL.inj I l m xs h2 F]
  |tup m=>
   rw[Rep]at h';obtain⟨b,ys,q,B,F⟩:=h';cases q;exact(FF I h1 B).elim
  |non=>rw[Rep]at h';cases h'
  |bl b=>rw[Rep]at h';cases h'
  |int i=>rw[Rep]at h';cases h'
  |str x=>rw[Rep]at h';cases h'
theorem RepL.inj(I:Inv X pins σ H s):∀(ds es:List Dx) (vs:List V),RepL X.K H ds vs->RepL X.K H es vs->ds=es
 |[],es,vs,h,h'=>by
  rw[RepL]at h;subst h;cases es with
  |nil=>rfl
  |cons e es=>rw[RepL]at h';obtain⟨_,_,z,_⟩:=h';cases z
 |d::ds,es,vs,h,h'=>by
  rw[RepL]at h;obtain⟨x,xs,rfl,h1,h2⟩:=h;cases es with
  |nil=>rw[RepL]at h';cases h'
  |cons e es=>
   rw[RepL]at h';obtain⟨_,_,z,B,q⟩:=h';cases z;rw[Rep.inj I d e x h1 B,RepL.inj I ds es xs h2 q]
end
end
open Classical in
def w8:∀(ds es:List Dx),((zav<|min ds.length es.length).all (λj=>decide (ds.getD j .non=es.getD j .non)) && ds.length == es.length)=decide (ds=es):=by
 intro ds es;by_cases h:ds=es
 .subst h
  simp
 .rw[decide_eq_false h]
  by_cases q:ds.length=es.length
  .simp only[q,Nat.min_self,beq_self_eq_true,zd0]
   rw[zc2];intro z;rw[zcO]at z;refine h<|zdn q λi h1 h2=>?_;have:=of_decide_eq_true<|z i<|List.mem_range.mpr h2;simpa[zc3,h1,h2]using this
  .have:(ds.length == es.length)=cr:=by simpa using q
   rw[this,Bool.and_false]
open Classical in
def zW(ds es:List Dx)(h:ds.length=es.length):((zav ds.length).all λj=>decide (ds.getD j .non=es.getD j .non))=decide (ds=es):=by
 have:=w8 ds es;rw[h,Nat.min_self,beq_self_eq_true,zd0]at this;rw[h];exact this
section
variable {X:Cx}{pins:List (Addr×Obj)}{σ:L2.St}{H:Hp}{s:zab}
def EqAt.to(h:EqAt A s u v b)(e:b=c):EqAt A s u v c:=e ▸ h
open Classical in
def mE(I:Inv X pins σ H s){n:Nat}(ih:∀(A:zas) (d e:Dx) (x y:V) (u v:Value),d.dep<=n->A.units+n<cLine->d.nb=cp->e.nb=cp->Rep X.K H d x->Rep X.K H e y->RelV x u->RelV y v->EqAt A s u v (decide (d=e)))
  {A:zas} {ds es:List Dx} {xs ys:List V} {us vs:List Value} (hd:yM ds<=n) (hu:A.units+(n+1)<cLine) (h1:N6 ds=cp) (h2:N6 es=cp) (F:RepL X.K H ds xs) (G:RepL X.K H es ys) (B:Vals xs us) (z:Vals ys vs) :
  ∀j (h1:j<us.toArray.size) (h2:j<vs.toArray.size),EqAt A.in1 s us.toArray[j] vs.toArray[j]<|decide (ds.getD j .non=es.getD j .non):=by
 intro j j1 Y;have l1:=F.length;have l2:=G.length;have l3:=B.length;have l4:=z.length;have k1:j<us.length:=by simpa using j1
 have k2:j<vs.length:=by simpa using Y
 have q:ds[j]?=b4 (ds.getD j .non):=by simp[zc3,show j<ds.length by lia]
 have N:es[j]?=b4 (es.getD j .non):=by simp[zc3,show j<es.length by lia]
 obtain⟨x,ex,U⟩:=F.get' q;obtain⟨y,ey,ry⟩:=G.get' N;obtain⟨u,J,ru⟩:=B.get ex;obtain⟨v,ev,rv⟩:=z.get ey;have W:us.toArray[j]=u:=by
  rw[zaH k1]at J;simpa using zaD J
 have b2:vs.toArray[j]=v:=by
  rw[zaH k2]at ev;simpa using zaD ev
 rw[W,b2];exact ih A.in1 _ _ x y u v (zbf (FG q) hd) (by show A.units+1+n<cLine;lia) (DP h1 q) (DP h2 N) U ry ru rv
end
section
variable {X:Cx}{pins:List (Addr×Obj)}{σ:L2.St}{H:Hp}{s:zab}
def PlainL.isList(p:PlainL h a its):h.IsList a its:=by
 obtain⟨o,n,e,c,_,d⟩:=p;exact⟨o,e,c,n,d⟩
open Classical in
def mO(I:Inv X pins σ H s) :
  ∀(n:Nat) (A:zas) (d e:Dx) (x y:V) (u v:Value),d.dep<=n->A.units+n<cLine->d.nb=cp->e.nb=cp->Rep X.K H d x->Rep X.K H e y->RelV x u->RelV y v->EqAt A s u v (decide (d=e)):=by
 intro n;induction n with
 |zero=>
  intro A d e x y u v hd hu n1 N Y q ru F;have B:A.units<cLine:=by lia
  cases d with
  |bl b=>rw[Dx.nb]at n1;cases n1
  |tup l=>rw[Dx.dep]at hd;lia
  |lst l=>rw[Dx.dep]at hd;lia
  |non=>
   rw[Rep]at Y;subst Y;cases ru;cases e with
   |bl b=>rw[Dx.nb]at N;cases N
   |non=>rw[Rep]at q;subst q;cases F;exact EqAt.to (EqAt.same _)<|by simp
   |int i=>rw[Rep]at q;subst q;obtain⟨t,rfl⟩:=F;exact EqAt.to (EqAt.none_int _ _)<|by simp
   |str i=>rw[Rep]at q;subst q;obtain⟨t,rfl⟩:=F;exact EqAt.to (EqAt.none_str _ _)<|by simp
   |tup l=>
    rw[Rep]at q;obtain⟨a,xs,rfl,h1,_⟩:=q;cases F;obtain⟨J,_,G,_⟩:=I.tuple h1;exact EqAt.to (EqAt.none_tuple G B)<|by simp
   |lst l=>
    rw[Rep]at q;obtain⟨a,xs,rfl,h1,_⟩:=q;cases F;obtain⟨J,_,G,_⟩:=I.list h1;exact EqAt.to (EqAt.none_list G.isList B)<|by simp
  |int i=>
   rw[Rep]at Y;subst Y;obtain⟨t,rfl⟩:=ru;cases e with
   |bl b=>rw[Dx.nb]at N;cases N
   |non=>rw[Rep]at q;subst q;cases F;exact EqAt.to (EqAt.int_none _ _)<|by simp
   |int j=>rw[Rep]at q;subst q;obtain⟨t',rfl⟩:=F;exact EqAt.to (EqAt.int_int _ _ _ _)<|by simp[ze3]
   |str j=>rw[Rep]at q;subst q;obtain⟨t',rfl⟩:=F;exact EqAt.to (EqAt.int_str _ _ _ _)<|by simp
   |tup l=>
    rw[Rep]at q;obtain⟨a,xs,rfl,h1,_⟩:=q;cases F;obtain⟨J,_,G,_⟩:=I.tuple h1;exact EqAt.to (EqAt.int_tuple _ _ G B)<|by simp
   |lst l=>
    rw[Rep]at q;obtain⟨a,xs,rfl,h1,_⟩:=q;cases F;obtain⟨J,_,G,_⟩:=I.list h1;exact EqAt.to (EqAt.int_list _ _ G.isList B)<|by simp
  |str i=>
   rw[Rep]at Y;subst Y;obtain⟨t,rfl⟩:=ru;cases e with
   |bl b=>rw[Dx.nb]at N;cases N
   |non=>rw[Rep]at q;subst q;cases F;exact EqAt.to (EqAt.str_none _ _)<|by simp
   |int j=>rw[Rep]at q;subst q;obtain⟨t',rfl⟩:=F;exact EqAt.to (EqAt.str_int _ _ _ _)<|by simp
   |str j=>rw[Rep]at q;subst q;obtain⟨t',rfl⟩:=F;exact EqAt.to (EqAt.str_str _ _ _ _)<|by simp[ze3]
   |tup l=>
    rw[Rep]at q;obtain⟨a,xs,rfl,h1,_⟩:=q;cases F;obtain⟨J,_,G,_⟩:=I.tuple h1;exact EqAt.to (EqAt.str_tuple _ _ G B)<|by simp
   |lst l=>
    rw[Rep]at q;obtain⟨a,xs,rfl,h1,_⟩:=q;cases F;obtain⟨J,_,G,_⟩:=I.list h1;exact EqAt.to (EqAt.str_list _ _ G.isList B)<|by simp
 |succ n ih=>
  intro A d e x y u v hd hu n1 N Y q ru F;have B:A.units<cLine:=by lia
  cases d with
  |bl b=>rw[Dx.nb]at n1;cases n1
  |non=>exact ih A _ e x y u v (by rw[Dx.dep];lia) (by lia) n1 N Y q ru F
  |int i=>exact ih A _ e x y u v (by rw[Dx.dep];lia) (by lia) n1 N Y q ru F
  |str i=>exact ih A _ e x y u v (by rw[Dx.dep];lia) (by lia) n1 N Y q ru F
  |tup l=>
   have ae:=Y;rw[Rep]at Y;obtain⟨a,xs,rfl,h1,q1⟩:=Y;cases ru;obtain⟨J,v1,G,_⟩:=I.tuple h1;cases e with
   |bl b=>rw[Dx.nb]at N;cases N
   |non=>rw[Rep]at q;subst q;cases F;exact EqAt.to (EqAt.tuple_none G B)<|by simp
   |int j=>rw[Rep]at q;subst q;obtain⟨t',rfl⟩:=F;exact EqAt.to (EqAt.tuple_int _ _ G B)<|by simp
   |str j=>rw[Rep]at q;subst q;obtain⟨t',rfl⟩:=F;exact EqAt.to (EqAt.tuple_str _ _ G B)<|by simp
   |lst m=>
    rw[Rep]at q;obtain⟨b,ys,rfl,h2,q2⟩:=q;cases F;obtain⟨W,v2,U,_⟩:=I.list h2;exact EqAt.to (EqAt.tuple_list G U.isList B)<|by simp
   |tup m=>
    by_cases hv:v=zao a
    .subst hv
     obtain rfl:y=V.ref a:=RelV.inj F rfl;have:=Rep.inj I _ _ _ ae q;rw[this];exact EqAt.to (EqAt.same _)<|by simp
    .rw[Rep]at q;obtain⟨b,ys,rfl,h2,q2⟩:=q;cases F
     obtain⟨W,v2,U,_⟩:=I.tuple h2;rw[Dx.dep]at hd;rw[Dx.nb]at n1 N;refine EqAt.to (EqAt.of_refs (λz=>hv<|by rw[z])<|RcAt.tuples G U B<|mE I ih (by lia) hu n1 N q1 q2 v1 v2) ?_;have e1:J.toArray.size=l.length:=by rw[zaC,<- v1.length,q1.length]
     have e2:W.toArray.size=m.length:=by rw[zaC,<- v2.length,q2.length]
     rw[e1,e2,w8];simp
  |lst l=>
   have ae:=Y;rw[Rep]at Y;obtain⟨a,xs,rfl,h1,q1⟩:=Y;cases ru;obtain⟨J,v1,G,_⟩:=I.list h1;cases e with
   |bl b=>rw[Dx.nb]at N;cases N
   |non=>rw[Rep]at q;subst q;cases F;exact EqAt.to (EqAt.list_none G.isList B)<|by simp
   |int j=>rw[Rep]at q;subst q;obtain⟨t',rfl⟩:=F;exact EqAt.to (EqAt.list_int _ _ G.isList B)<|by simp
   |str j=>rw[Rep]at q;subst q;obtain⟨t',rfl⟩:=F;exact EqAt.to (EqAt.list_str _ _ G.isList B)<|by simp
   |tup m=>
    rw[Rep]at q;obtain⟨b,ys,rfl,h2,q2⟩:=q;cases F;obtain⟨W,v2,U,_⟩:=I.tuple h2;exact EqAt.to (EqAt.list_tuple G.isList U B)<|by simp
   |lst m=>
    by_cases hv:v=zao a
    .subst hv
     obtain rfl:y=V.ref a:=RelV.inj F rfl;have:=Rep.inj I _ _ _ ae q;rw[this];exact EqAt.to (EqAt.same _)<|by simp
    .rw[Rep]at q;obtain⟨b,ys,rfl,h2,q2⟩:=q;cases F
     obtain⟨W,v2,U,_⟩:=I.list h2;rw[Dx.dep]at hd;rw[Dx.nb]at n1 N;have e1:J.toArray.size=l.length:=by rw[zaC,<- v1.length,q1.length]
     have e2:W.toArray.size=m.length:=by rw[zaC,<- v2.length,q2.length]
     by_cases hl:l.length=m.length
     .refine EqAt.to (EqAt.of_refs (λz=>hv<|by rw[z])<|RcAt.lists G.isList U.isList (by rw[e1,e2,hl]) B<|mE I ih (by lia) hu n1 N q1 q2 v1 v2) ?_
      rw[e1,zW _ _ hl];simp
     .refine EqAt.to (EqAt.of_refs (λz=>hv<|by rw[z])<|RcAt.lists_lengths G.isList U.isList (by rw[e1,e2];simpa using hl) B) ?_
      rw[decide_eq_false];intro z;cases z;exact hl rfl
end
def Dx.seq:Dx->Bool
 |.tup _=>cp | .lst _=>cp | .non=>cr | .bl _=>cr | .int _=>cr | .str _=>cr
open Classical in
def qad(K:zaf)(neg:Bool):R2:=λx y H Q=>∃d e,Rep K H d x/\Rep K H e y/\d.seq=cp/\e.seq=cp/\d.nb=cp/\e.nb=cp/\d.dep<=60/\Q (.bl<|if neg then !decide (d=e)else decide (d=e)) H
section
variable {X:Cx}{pins:List (Addr×Obj)}{σ:L2.St}{H:Hp}{s:zab}
open Classical in
def SS(I:Inv X pins σ H s)(hu:X.A.units+64<cLine)(r1:Rep X.K H d x)(N:Rep X.K H e y)(q1:d.seq=cp)(J:e.seq=cp)(n1:d.nb=cp)(n2:e.nb=cp)(hd:d.dep<=60)(ru:RelV x u)(rv:RelV y v) :
  RcAt X.A s u v (decide (d=e))/\RcNeAt X.A s u v (!decide (d=e)):=by
 have B:X.A.units<cLine:=by lia
 cases d with
 |bl b=>cases q1
 |non=>cases q1
 |int b=>cases q1
 |str b=>cases q1
 |tup l=>
  rw[Rep]at r1;obtain⟨a,xs,rfl,h1,k1⟩:=r1;cases ru;obtain⟨Y,v1,G,_⟩:=I.tuple h1;have e1:Y.toArray.size=l.length:=by rw[zaC,<- v1.length,k1.length]
  cases e with
  |bl b=>cases J
  |non=>cases J
  |int b=>cases J
  |str b=>cases J
  |tup m=>
   rw[Rep]at N;obtain⟨b,ys,rfl,h2,W⟩:=N;cases rv;obtain⟨F,U,q,_⟩:=I.tuple h2;have e2:F.toArray.size=m.length:=by rw[zaC,<- U.length,W.length]
   rw[Dx.dep]at hd;rw[Dx.nb]at n1 n2;have he:=mE I (mO I 60) (A:=X.A) (by lia) (by lia) n1 n2 k1 W v1 U;have a1:=RcAt.tuples G q B he;have a2:=RcNeAt.tuples G q B he;rw[e1,e2,w8]at a1 a2;have z:decide (Dx.tup l=Dx.tup m)=decide (l=m):=by simp
   rw[z];exact{a1,a2}
  |lst m=>
   rw[Rep]at N;obtain⟨b,ys,rfl,h2,W⟩:=N;cases rv;obtain⟨F,U,q,_⟩:=I.list h2;have z:decide (Dx.tup l=Dx.lst m)=cr:=by simp
   rw[z];exact{RcAt.tuple_list G q.isList B,RcNeAt.tuple_list G q.isList B}
 |lst l=>
  rw[Rep]at r1;obtain⟨a,xs,rfl,h1,k1⟩:=r1;cases ru;obtain⟨Y,v1,G,_⟩:=I.list h1;have e1:Y.toArray.size=l.length:=by rw[zaC,<- v1.length,k1.length]
  cases e with
  |bl b=>cases J
  |non=>cases J
  |int b=>cases J
  |str b=>cases J
  |tup m=>
   rw[Rep]at N;obtain⟨b,ys,rfl,h2,W⟩:=N;cases rv;obtain⟨F,U,q,_⟩:=I.tuple h2;have z:decide (Dx.lst l=Dx.tup m)=cr:=by simp
   rw[z];exact{RcAt.list_tuple G.isList q B,RcNeAt.list_tuple G.isList q B}
  |lst m=>
   rw[Rep]at N;obtain⟨b,ys,rfl,h2,W⟩:=N;cases rv;obtain⟨F,U,q,_⟩:=I.list h2;have e2:F.toArray.size=m.length:=by rw[zaC,<- U.length,W.length]
   rw[Dx.dep]at hd;rw[Dx.nb]at n1 n2;have z:decide (Dx.lst l=Dx.lst m)=decide (l=m):=by simp
   rw[z];by_cases hl:l.length=m.length
   .have he:=mE I (mO I 60) (A:=X.A) (by lia) (by lia) n1 n2 k1 W v1 U
    have a1:=RcAt.lists G.isList q.isList (by rw[e1,e2,hl]) B he;have a2:=RcNeAt.lists G.isList q.isList (by rw[e1,e2,hl]) B he;rw[e1,zW _ _ hl]at a1 a2;exact{a1,a2}
   .have z2:decide (l=m)=cr:=decide_eq_false λz=>hl (by rw[z])
    rw[z2];exact{RcAt.lists_lengths G.isList q.isList (by rw[e1,e2];simpa using hl) B,RcNeAt.lists_lengths G.isList q.isList (by rw[e1,e2];simpa using hl) B}
end
section
variable {X:Cx}
def VD(B:X.A.units+64<cLine):OpR X (zar .Eq)<|qad X.K cr:=by
 intro pins s σ H x y v u Q I U W h;obtain⟨d,e,J,N,z,F,G,n2,Y,q⟩:=h;exact(SS I B J N z F G n2 Y U W).1 X.prog X.w X.xe _ {.bl _,H,I,rfl,q}
def U1(B:X.A.units+64<cLine):OpR X (zar .NotEq)<|qad X.K cp:=by
 intro pins s σ H x y v u Q I U W h;obtain⟨d,e,J,N,z,F,G,n2,Y,q⟩:=h;exact(SS I B J N z F G n2 Y U W).2 X.prog X.w X.xe _ {.bl _,H,I,rfl,q}
end
def XU(lo c:Int)(n:Nat):It:={λi _=>i<n,λi H x H'=>H'=H/\x=.int (lo+i*c),λi _=>n<=i}
def yY{P:zap}{w:World}{K:zaf}{tg:Expr}(it:Addr)(lo c:Int)(n:Nat):Turn P w K tg (XU lo c n) [it] it (λi h=>zdL h it (lo+(i:Nat)*c) ((n:Int)-(i:Nat)) c) where
 mem:=by simp
 obj:=λi h st b q=>by
  have e:b=it:=by simpa using q
  subst e;exact⟨_,st,λv z=>by
   have z':Data.fields _=Data.cell v:=z;cases z'⟩
 keep:=λi h h' st k=>k it (by simp) _ st
 item:=by
  intro X Y hw hK U i pins s σ H E I F st hg;subst Y hw hK;obtain⟨N,J,f2,G,f4,f5⟩:=F it (by simp);have W:=Walks.range (prog:=X.prog) (w:=X.w) (I.ok.hd U) it lo c n;refine W.item i s _ _ hg st λv h' tk hv B kk=>?_
  obtain⟨t,rfl⟩:=hv;have I1:Inv X pins σ H {s with heap:=h',toks:=tk}:=I.turned (λb o q e=>kk b o (by simpa using q) e) N J G f4 f5;exact{_,rfl,pN (s:={s with heap:=h',toks:=tk}) (n := "range_iterator") B rfl rfl (by decide) {.int<|lo+i*c,H,I1,{t,rfl},{rfl,rfl},B,λb q=>(F b q).1}}
 done:=by
  intro X Y hw hK U i pins s σ H E I F st hg;subst Y hw hK;obtain⟨N,J,f2,G,f4,f5⟩:=F it (by simp);exact wpAny_pyNext_range_end (I.ok.hd U) st (by have:n<=i:=hg;lia) λh' eb=>{rfl,I.turned (t':=s.toks) (λb o q e=>eb b o q e) N J G f4 f5}
 self:=λ_ _ _ _ _ st h=>wpAny_pyIter_rangeiter st h
def rsz(a b c:Int):Nat:=(zce a b c).toNat
set_option tactic.hygienic true in
def UB(a b c:Int)(q:c≠0):zce a b c=(rsz a b c:Int):=by
 unfold rsz;have:0<=zce a b c:=by
  unfold zce;split
  .rename_i h
   split
   .have:=ze4 (show 0<=b-a-1 by lia) (show 0<=c by lia)
    lia
   .lia
  .split
   .have:=ze4 (show 0<=a-b-1 by lia) (show 0<=-c by lia)
    lia
   .lia
 lia
def ZD(ta:TA):TI:=λσ H R=>ta σ H λvs H1=>∃i j c:Int,vs=[.int i,.int j,.int c]/\(c≠0/\c.natAbs<1000/\zc4 i j c=cp)/\R (XU i c<|rsz i j c) H1
def GW(hg:Gl X "range")(hm:X.mg "range" = cg)(W:PA X [a,b,c] ta)(hs:zah [a,b,c] X.env=[(cr,eval a X.env),(cr,eval b X.env),(cr,eval c X.env)]:=by rfl)(G:zah [b,c] X.env=[(cr,eval b X.env),(cr,eval c X.env)]:=by rfl) :
  PI X tg (.Call (.Name "range" p) [a,b,c] [] pos) (ZD ta):=by
 intro pins s σ H R I h;refine Call_ (fZ I hg hm My.boot_range<|zcC (bN (W pos pins s σ H _ I h) λus F ⟨vs,H1,I1,r1,N⟩=>?_) (by rw[hs,G])<|by rw[G];rfl);obtain⟨i,j,z,e,⟨c0,c1,U⟩,q⟩:=N;subst e;cases r1 with
 |cons r rr=>
  cases rr with
  |cons r' rr=>
   cases rr with
   |cons r'' rr=>
    cases rr;obtain⟨t,rfl⟩:=r;obtain⟨t',rfl⟩:=r';obtain⟨B,rfl⟩:=r'';refine call_range_3 c0 ?_ (zbN<|PyProof.noPylong_small<|by lia);refine wpAny_pyIter_range (IsRange.new ..) U ?_;have J:Inv X pins σ H1 {F with heap:=F.heap.push {cls:=.type "range",data:=.fields #[.int i t,.int j t',.int z B]},toks:=F.toks}:=I1.kept λb o e=>zag _ e
    refine⟨(F.heap.push {cls:=.type "range",data:=.fields #[.int i t,.int j t',.int z B]}).objs.size,[(F.heap.push {cls:=.type "range",data:=.fields #[.int i t,.int j t',.int z B]}).objs.size],_,_,H1,rfl,
     J.kept (t':=F.toks) λb o e=>zag _ e,yY _ i z<|rsz i j z,?_,λb Y=>?_,q⟩
    .show zdL _ _ (i+((0:Nat):Int)*z) (((rsz i j z:Nat):Int)-((0:Nat):Int)) z
     rw[<- UB i j z c0];have e1:i+((0:Nat):Int)*z=i:=by simp
     have e2:zce i j z-((0:Nat):Int)=zce i j z:=by simp
     rw[e1,e2];exact zau _ rfl
    .have e:b=(F.heap.push {cls:=.type "range",data:=.fields #[.int i t,.int j t',.int z B]}).objs.size:=by simpa using Y
     subst e;exact J.fpOk (zam _)<|J.hok.fresh<|zam _
section
variable {K:zaf}{H H':Hp}
end
def aX(X:Cx)(N:List Str)(scope:Scope)(q:List<|Str×Addr)(C:Addr)(s:zab)(H:Hp)(fp:List Addr):Cx where
 prog:=X.prog
 w:=X.w
 K:=X.K
 mg:=X.mg
 base:=X.base
 A:=X.A
 N:=N
 s₀:=s
 H₀:=H
 env:=compEnvC scope q C X.env
 outer:=X.stack
 stack:=X.stack
 ex:=fp
 fn:=λ_=>cr
 calm:=X.calm
 pn:=[]
 xe:=λ_ _=>False
def GP(X:Cx)(q:List Expr)(t:TT):Prop:=
 ∀(pins:List<|Addr×Obj) (s:zab) (σ:L2.St) (H:Hp) (Q:Bool->Hp->Prop),Inv X pins σ H s->t σ H Q->
  wpAny (model X.prog X.w) X.A (forIn q cp λc r=>if r=cp then do let ok <- isTrue c X.env<|eval c X.env;pure (zc5 ok)else pure<|zc5 r) (TP X pins σ Q) X.xe s
def qaH:TT:=λ_ H Q=>Q cp H
def RU:GP X [] qaH:=λpins s σ H Q I h=>wpAny_tests_nil {H,I,h}
def OG(h:PT X c t):GP X [c] t:=λpins s σ H Q I hw=>wpAny_tests_one<|h pins s σ H Q I hw
structure Clo(X:Cx)(N:List Str)(scope:Scope)(cl:List<|Str×Addr):Prop where
 clos:closureFor scope X.env=pure cl
 kind:scope.kind=.function
 nocell:∀y∈scope.names,y.2≠.cell
 names:∀y∈scope.names,y.2=.local->scope.names.lookup y.1=b4 .local
 sub:∀x c,cl.lookup x=b4 c->X.env.cells.lookup x=b4 c
 has:∀x,((zbO scope X.env).names.lookup x=b4 .cell\/(zbO scope X.env).names.lookup x=b4 .free)->∃c,cl.lookup x=b4 c
def Start(X:Cx)(N:List Str)(scope:Scope)(σ q:L2.St):Prop:=
 q.length=N.length/\∀(j:Nat) (x:Str) (v:V),N[j]?=b4 x->q[j]?=b4 (b4 v)->X5 (zbO scope X.env) x->¬ (zbO scope X.env).names.lookup x=b4 .local/\∃i:Nat,X.N[i]?=b4 x/\σ[i]?=b4 (b4 v)/\(X.env.kindOf x=b4 .cell\/X.env.kindOf x=b4 .free)
def GH(wi:TI)(g:TG)(tt:TT)(te:TE)(S:L2.St->L2.St->Prop):TE:=λσ H Q=>∃z,S σ z/\wi σ H λJ H1=>∀D,H1 D=cg->∃W:Nat->Nat->L2.St->List V->Hp->Prop,(∃m,W 0 m z []<|upd H1 D<|.lst []) /\
 ∀i m B us H2,W i m B us H2->(J.stop i H2/\Q (.ref D) H2)\/(J.go i H2/\us.length<zal/\∀x N,J.yld i H2 x N->g x B N λq Y=>tt q Y λok G=>
  if ok=cp then te q G λv U=>U D=b4 (.lst us)/\∃F,F<m/\W (i+1) F q (us++[v]) (upd U D<|.lst<|us++[v])else G D=b4 (.lst us)/\∃F,F<m/\W (i+1) F q us G)
section
variable {X:Cx}
def ON(B:Inv X pins σ H3 s3)(G:Clo X N scope cl)(ff:∀b∈fp,jA X pins H3 b)(J:∀b∈fp,∃o,s3.heap.get? b=b4 o) :
  (aX X N scope cl s3.heap.objs.size s3 H3 fp).Ok where
 mod:=B.ok.mod
 kind:=G.kind
 glob:=B.ok.glob
 blt:=B.ok.blt
 above:=zam _
 inj:=λx y c h1 h2=>B.ok.inj x y c (G.sub x c h1)<|G.sub y c h2
 has:=λx h=>G.has x h
 cab:=λx c h _=>nomatch h
 hd:=B.ok.hd
 frames:=B.ok.frames
 stk:=.inl rfl
 exf:=λb F=>by
  obtain⟨o,e⟩:=J b F;exact{zaB<|zai e,λx c h=>(ff b F).2.2.2.2.1 x c<|G.sub x c h}
 bs:=B.bs
 bsz:=zbf B.ok.bsz B.sz
 noex:=λb o e F=>by
  rcases(ff b F).2.2.2.1 with z|z
  .exact B.ok.noex b o e z
  .exact absurd (zba (zai e) B.ok.bsz)<|Nat.not_lt.mpr z
 exfs:=λb F z=>by
  rcases List.mem_cons.mp (B.stkSub b z)with q|q
  .exact(ff b F).2.1 q
  .exact(ff b F).2.2.1 q
 funs:=B.stack
 frf:=B.stkFree
def JW(F:Inv X pins σ H3 s3)(J:Clo X N scope cl)(ff:∀b∈fp,jA X pins H3 b)(fe:∀b∈fp,∃o,s3.heap.get? b=b4 o)
  (st:Start X N scope σ σ') (ho:s4.os=s3.os) (hg:s4.gens=s3.gens) (U:∀b o,s3.heap.get? b=b4 o->s4.heap.get? b=b4 o) (hn:s4.heap.Ns s3.heap.objs.size m) :
  Inv (aX X N scope cl s3.heap.objs.size s3 H3 fp) [] σ' H3 s4 where
 ok:=ON F J ff fe
 os:=ho
 bare:=by rw[hg];exact F.bare
 base:=Un.kept U
 loc:=by
  refine{m,hn,λj x v h1 h2 z=>?_};obtain⟨nl,i,e1,e2,q⟩:=st.2 j x v h1 h2 z;obtain⟨m0,ao,Y⟩:=F.loc;have ab:X5 X.env.scope x:=by
   rcases q with q|q
   .exact .inr<|.inl q
   .exact .inr<|.inr q
  obtain⟨u,ru,l⟩:=Y i x v e1 e2 ab;refine{u,ru,?_};rcases l with⟨lk,_⟩|⟨_,c,hc,B⟩
  .rcases q with q|q <;> (rw[lk]at q;cases q)
  .have kk:(zbO scope X.env).names.lookup x=b4 .cell\/(zbO scope X.env).names.lookup x=b4 .free:=by
    rcases z with z|z|z
    .exact absurd z nl
    .exact .inl z
    .exact .inr z
   obtain⟨c',G⟩:=J.has x kk;have ec:=J.sub x c' G;rw[hc]at ec;cases ec;obtain⟨o,W,aa⟩:=B;exact .inr {kk,c,G,o,U c o W,aa}
 cell:=λx c e=>by
  obtain⟨v,o,e1,d1⟩:=F.cell x c<|J.sub x c e;exact{v,o,U c o e1,d1}
 free:=F.hok.fresh<|zam _
 freeC:=λx c e=>F.freeC x c<|J.sub x c e
 pin:=λp hp=>nomatch hp
 hok:=F.hok.kept U
 len:=st.1
def comp_back(I3:Inv X pins σ H3 s3)(ff:∀b∈fp,jA X pins H3 b)
  (G:Inv (aX X N scope cl s3.heap.objs.size s3 H3 fp) [] σ5 H5 s5) (hs:zaT s3.heap.objs.size s5.heap h'):Inv X pins σ H5 {s5 with heap:=h'}:=by
 have ne:∀b o,s3.heap.get? b=b4 o->b≠s3.heap.objs.size:=λb o e=>zaB<|zai e
 have u:=G.base;refine I3.call' (s':={s5 with heap:=h'}) (ch:=fp) G.os {λb o e n F B=>?_,λb o e n F B=>?_,u.free,λb o e B=>?_,u.tups,u.frzs,u.tbls} ?_ G.bare λb F=>?_
 .exact(hs.2 b<|ne b o e).trans<|u.keep b o e n F B
 .obtain⟨Y,q⟩:=u.slot b o e n F B
  exact{Y,(hs.2 b<|ne b o e).trans q}
 .obtain⟨o',q⟩:=u.there b o e B
  exact{o',(hs.2 b<|ne b o e).trans q}
 .intro b ob e
  have J:H5 s3.heap.objs.size=cg:=G.free;refine(G.hok b ob e).stay (λc w' hc q=>(hs.2 c ?_).trans q) (λ_ q=>q) λ_ _ q=>q
  rintro rfl;rcases hc with z|z
  .subst z;rw[J]at e;cases e
  .rw[J]at z;cases z
 .obtain⟨_,W,_,U,f4,f5⟩:=ff b F
  exact{U,W,f4,f5}
def HK(I:Nat->zab->Prop)
  (turn:∀n s, I n s -> wpAny (model prog w) A (zaL it) (λr B => match r with
   |none=>R (.ok .next) B
   |some v=>wpAny (model prog w) A (zdK target it v) (λ_ z=>wpAny (model prog w) A (zbs target env v) (λ_ J=>
     wpAny (model prog w) A (forIn ifs cp λc r=>if r=cp then do let ok <- isTrue c env<|eval c env;pure (zc5 ok)else pure<|zc5 r) (λok q=>
      if ok=cp then wpAny (model prog w) A (eval elt env) (λx N=>
       wpAny (model prog w) A (call (.builtin "list.append") [acc,x]) (λ_ F=>∃m,m<n/\I m F) (λ_ _=>False) N) (λ_ _=>False) q
      else ∃m,m<n/\I m q) (λ_ _=>False) J) (λ_ _=>False) z) (λ_ _=>False) B) (λ_ _=>False) s)
  (n:Nat) (h:I n s) :
  zbu (model prog w) A (.compLoop (.ListComp elt [{target,iter,ifs,0}] scope pos) 0 it acc env) R s:=by
 refine codeAny_loop rfl I (λn s hI=>?_) n h;show wpAny _ A ((compTurn (.ListComp elt [{target,iter,ifs,0}] scope pos) 0 it acc env).onRaise λx=>do noteFrame x env;theTreesLotGoes x) _ _ s;refine wpAny_noted ?_;rw[compTurn_list];have ff:∀(e:Value) (s':zab),False->notedBy (model prog w) A env (λe s'=>R (.error e) s') e s':=λ_ _ h=>h.elim
 refine zaa<|zdj<|zaa<|zbb (turn n s hI) (λr B G=>?_) ff;cases r with
 |none=>exact zac G
 |some v=>
  refine zaa<|zbb G (λ_ z W=>?_) ff;refine zaa<|zbb W (λ_ J ab=>zaa<|zbb ab (λok q U=>?_) ff) ff;cases ok with
  |false=>exact zac {rfl,U}
  |true=>
   exact zaa<|zaa<|zbb U (λx N Y=>zaa<|zbb Y (λ_ F aa=>zac<|zac {rfl,aa}) ff) ff
def v9{aq tg ak:Expr}{ap:List Expr}{scope:Scope}{pos:Pos}{N:List Str}{cl:List (Str×Addr)}{wi:TI}{g:TG}{tt:TT}{te:TE}{RR:Value->Addr->Result->zab->Prop}{pins:List (Addr×Obj)}{σ ai:L2.St}{Q:VK}{J:It}{H2:Hp}{B:zab}{it:Addr}{fp:List Addr}{tn:Nat->Heap->Prop}{E:Value->zab->Prop}
  (hc:X.calm=cp) (cc:Clo X N scope cl) (hg:∀C s H fp,PG (aX X N scope cl C s H fp) tg g) (ht:∀C s H fp,GP (aX X N scope cl C s H fp) ap tt) (he:∀C s H fp,PE (aX X N scope cl C s H fp) aq te)
  (I2:Inv X pins σ H2 B) (T:Turn X.prog X.w X.K tg J fp it tn) (as:tn 0 B.heap) (f2:∀b∈fp,jA X pins H2 b) (sS:Start X N scope σ ai)
  (q2:∀D, H2 D = cg -> ∃W:Nat -> Nat -> L2.St -> List V -> Hp -> Prop, (∃m, W 0 m ai []<|upd H2 D<|.lst []) /\
   ∀i m G us H2,W i m G us H2->(J.stop i H2/\Q (.ref D) H2)\/(J.go i H2/\us.length<zal/\∀x F,J.yld i H2 x F->g x G F λaj H4=>tt aj H4 λok H5=>
    if ok=cp then te aj H5 λv H6=>H6 D=b4 (.lst us)/\∃m',m'<m/\W (i+1) m' aj (us++[v]) (upd H6 D<|.lst<|us++[v])else H5 D=b4 (.lst us)/\∃m',m'<m/\W (i+1) m' aj us H5))
  (bt:∀(s3 s5:zab) (F H5:Hp) (Y:L2.St) (D:Addr),Inv X pins σ F s3->(∀b∈fp,jA X pins F b)->Inv (aX X N scope cl s3.heap.objs.size s3 F fp) [] Y H5 s5->Q (.ref D) H5->RR (.ref D) s3.heap.objs.size (.ok .next) s5) :
  wpAny (model X.prog X.w) X.A (newList []) (λa4 a6=>wpAny (model X.prog X.w) X.A (newFunctionEnv scope X.env.globals cl [] X.env.qual cg .none<|b4 X.env) (λam az=>
   zbu (model X.prog X.w) X.A (.compStart (.ListComp aq [{tg,ak,ap,0}] scope pos) 0 (.ref it) a4 {am with scope:=zbO scope X.env}) (RR a4 am.locals) az) E a6) E B:=by
 refine zbq<|wpAny_newFunctionEnv cc.nocell (by intro y hy;simp at hy) (λh1 af ae=>?_) cc.kind;dsimp only at af ae ⊢;have I3:Inv X pins σ (upd H2 B.heap.objs.size<|.lst []) {B with heap:=B.heap.push {cls:=.type "list",dict:=cg,data:=.seq ([]:List Value).toArray} }:=I2.lnew (t':=B.toks) .nil<|za1 _;have hD:H2 B.heap.objs.size=cg:=I2.fresh;have bq:∀b∈fp,b≠B.heap.objs.size:=λb q=>by
  obtain⟨o,e,_⟩:=T.obj 0 _ as b q;exact zaB<|zai e
 have fe:∀b∈fp,∃o,(B.heap.push {cls:=.type "list",dict:=cg,data:=.seq ([]:List Value).toArray}).get? b=b4 o:=λb q=>by
  obtain⟨o,e,_⟩:=T.obj 0 _ as b q;exact{o,zag _ e}
 have f3:∀b∈fp,jA X pins (upd H2 B.heap.objs.size<|.lst []) b:=λb q=>{by rw[aF<|bq b q];exact(f2 b q).1,(f2 b q).2}
 obtain⟨W,⟨m0,w0⟩,turn⟩:=q2 B.heap.objs.size hD;have be:(upd H2 B.heap.objs.size<|.lst []) B.heap.objs.size=b4 (.lst []):=aI;generalize hs3:({B with heap:=B.heap.push {cls:=.type "list",dict:=cg,data:=.seq ([]:List Value).toArray} }:zab)=s3 at I3;have e3:B.heap.push {cls:=.type "list",dict:=cg,data:=.seq ([]:List Value).toArray}=s3.heap:=by rw[<- hs3]
 rw[e3]at af ae fe ⊢;generalize B.heap.objs.size=D at *;generalize upd H2 D (.lst [])=F at *;have au:∀b o,s3.heap.get? b=b4 o->h1.get? b=b4 o:=λb o e=>(ae.2 b<|zaB<|zai e).trans<|zag _ e
 have a2:tn 0 s3.heap:=by
  refine T.keep 0 _ _ as λb q o e=>?_
  rw[<- e3];exact zag _ e
 have al:∀s4:zab,s4={B with heap:=h1,toks:=B.toks+([]:List<|Str×Value).length}->
   zbu (model X.prog X.w) X.A (.compLoop (.ListComp aq [{tg,ak,ap,0}] scope pos) 0 (.ref it) (.ref D)<|compEnvC scope cl s3.heap.objs.size X.env) (RR (.ref D) s3.heap.objs.size) s4:=by
  rintro s4 rfl;have I4:Inv (aX X N scope cl s3.heap.objs.size s3 F fp) [] ai F {B with heap:=h1,toks:=B.toks+([]:List<|Str×Value).length}:=
   JW (m:=λx=>([]:List<|Str×Value).reverse.lookup x) I3 cc f3 fe sS (by rw[<- hs3]) (by rw[<- hs3]) au af
  have an:∀ {H':Hp},(∀b∈fp,H' b=cg)->∀b∈fp,jA (aX X N scope cl s3.heap.objs.size s3 F fp) [] H' b:=λhn b q=>by
   have ok:=I4.ok;exact{hn b q,(ok.exf b q).1,ok.exfs b q,.inl q,(ok.exf b q).2,λp hp=>nomatch hp}
  refine HK (λn s'=>∃i G us H',Inv (aX X N scope cl s3.heap.objs.size s3 F fp) [] G H' s'/\tn i s'.heap/\(∀b∈fp,H' b=cg)/\H' D=b4 (.lst us)/\W i n G us H') ?_ m0 {0,ai,[],F,I4,T.keep 0 _ _ a2 λb q o e=>au b o e,λb q=>(f3 b q).1,be,w0};rintro n s5 ⟨i,Y,us,H5,I5,a3,ay,c1,w5⟩;rcases turn i n Y us H5 w5 with⟨aw,qn⟩|⟨go,ba,step⟩
  .refine bN (T.done (aX X N scope cl s3.heap.objs.size s3 F fp) rfl rfl rfl hc i [] s5 Y H5 _ I5 (an ay) a3 aw) λr s6 ⟨hr,I6⟩=>?_
   subst hr;exact bt s3 s6 F H5 Y D I3 f3 I6 qn
  .refine bN (T.item (aX X N scope cl s3.heap.objs.size s3 F fp) rfl rfl rfl hc i [] s5 Y H5 _ I5 (an ay) a3 go) λr s6 ⟨u,hr,h6⟩=>?_
   subst hr;refine bN h6 λ_ s7 ⟨x,H7,I7,r7,y7,ar,bn⟩=>?_
   have bm:=I7.pinned (an bn)<|T.obj _ _ ar;refine bN (hg _ _ _ _ _ s7 Y H7 x u _ bm r7<|step x H7 y7) λ_ s8 ⟨U,H8,I8,q8⟩=>?_
   refine bN (ht _ _ _ _ _ s8 U H8 _ I8 q8) λok s9 ⟨H9,I9,q9⟩=>?_
   have fin:∀ {ad:zab} {aa:Hp} {vs:List V},Inv (aX X N scope cl s3.heap.objs.size s3 F fp) ([]++tX fp s7.heap) U aa ad->aa D=b4 (.lst vs)->(∃m',m'<n/\W (i+1) m' U vs aa)->
     ∃m,m<n/\∃i G us H',Inv (aX X N scope cl s3.heap.objs.size s3 F fp) [] G H' ad/\tn i ad.heap/\(∀b∈fp,H' b=cg)/\H' D=b4 (.lst us)/\W i m G us H':=λ{ad aa vs} ah hd ⟨m',hm,bf⟩=>by
    refine{m',hm,i+1,U,vs,aa,ah.unpinned,T.keep _ _ _ ar λb q o e=>(ah.pin (b,o)<|zbG _<|zbG _<|g9 q e).1,λb q=>?_,hd,bf};obtain⟨o,e,d⟩:=T.obj _ _ ar b q;exact(ah.pin (b,o)<|zbG _<|zbG _<|g9 q e).2.1
   cases ok with
   |false=>
    rw[cx zat]at q9 ⊢;exact fin I9 q9.1 q9.2
   |true=>
    rw[cw rfl]at q9 ⊢;refine bN (he _ _ _ _ _ s9 U H9 _ I9 q9) λy ad ⟨v,aa,ah,bl,a5,bg⟩=>?_
    refine bN (vP (X:=aX X N scope cl s3.heap.objs.size s3 F fp) _ ad U aa (.ref D) [v] (.ref D) [y] (λ_ ao=>ao D=b4 (.lst<|us++[v])/\∃m',m'<n/\W (i+1) m' U (us++[v]) ao) ah rfl (.cons bl .nil) {D,us,v,rfl,rfl,a5,ba,aI,bg}) λ_ de ⟨z,ao,bd,_,ax,bo⟩=>?_
    exact fin bd ax bo
 exact codeAny_compStart_list (al _ rfl)<|T.self X.A 0 _ _ _ (T.keep 0 _ _ a2 λb q o e=>au b o e)<|al _ rfl
def OL{F tg z:Expr}{B:List Expr}{scope:Scope}{pos:Pos}{N:List Str}{G:List (Str×Addr)}{wi:TI}{g:TG}{tt:TT}{te:TE}
  (hc:X.calm=cp) (U:Clo X N scope G) (hi:PI X tg z wi) (hg:∀C s H fp,PG (aX X N scope G C s H fp) tg g) (ht:∀C s H fp,GP (aX X N scope G C s H fp) B tt) (he:∀C s H fp,PE (aX X N scope G C s H fp) F te)
  (hs:∀x,zbT z X.env x=pure x:=by intro _;rfl) :
  PE X (.ListComp F [{tg,z,B,0}] scope pos) (GH wi g tt te<|Start X N scope):=by
 intro pins s σ H Q I h;obtain⟨af,sS,hw⟩:=h;rw[eval_ListComp];refine wpAny_comprehension_free (use:=cg) rfl hs U.clos U.kind U.names<|bN (hi pins s σ H _ I hw) λv s1 h1=>bN h1 λao s2 h2=>?_;obtain⟨it,fp,tn,J,H2,e,I2,T,W,f2,q2⟩:=h2;subst e;refine v9 (wi:=wi) (Q:=Q) (RR:=λY C=>compPost (model X.prog X.w) X.A X.xe cg (EP X pins σ Q) Y C) hc U hg ht he I2 T W f2 sS q2 ?_;intro s3 s5 H3 H5 ak D I3 f3 I5 q;obtain⟨m,hn,_⟩:=id I5.loc;exact{m,hn,λh' aa=>{.ref D,H5,comp_back I3 f3 I5 aa,rfl,q}}
end
end My
namespace My
open PySem PySem.W PyProof.Rows
structure Ord(n:Nat)(lt:Nat->Nat->Bool):Prop where
 irr:∀i,i<n->lt i i=cr
 tr:∀i j k,i<n->j<n->k<n->lt i j=cp->lt j k=cp->lt i k=cp
 tot:∀i j,i<n->j<n->i≠j->lt i j=cp\/lt j i=cp
def gR(n:Nat)(lt:Nat->Nat->Bool):Nat->Nat->(Bool->zab->Prop)->zab->Prop:=λi j C s=>i<n/\j<n/\i≠j/\C (lt i j) s
def PermR(n:Nat)(p:Array Nat):Prop:=p.Perm<|zdo<|zav n
theorem PermR.size(h:PermR n p):p.size=n:=by
 have:=Array.Perm.size_eq h;simpa using this
def PermR.lt(h:PermR n p)(hi:i<n):p.getD i 0<n:=by
 have hs:=h.size;have q:i<p.size:=by lia
 have e:p.getD i 0=p[i]:=by simp[zc6,q]
 rw[e];have z:p[i]∈p.toList:=by simp
 have:=(Array.perm_iff_toList_perm.mp h).mem_iff.mp z;simpa using this
theorem PermR.nodup(h:PermR n p):p.toList.Nodup:=by
 have:=Array.perm_iff_toList_perm.mp h;exact this.symm.nodup<|by simpa using List.nodup_range
def PermR.ne(h:PermR n p)(hi:i<n)(N:j<n)(q:i≠j):p.getD i 0≠p.getD j 0:=by
 have hs:=h.size;have B:i<p.toList.length:=by rw[zbg];lia
 have F:j<p.toList.length:=by rw[zbg];lia
 have G:p.getD i 0=p.toList[i]:=by simp[zc6,show i<p.size by lia]
 have J:p.getD j 0=p.toList[j]:=by simp[zc6,show j<p.size by lia]
 rw[G,J];intro z;exact q<|(zcT h.nodup).mp z
def fR(lt:Nat->Nat->Bool)(p:Array Nat)(k:Nat):Prop:=∀i j,i<j->j<k->lt (p.getD i 0) (p.getD j 0)=cp
section
variable {n:Nat}{lt:Nat->Nat->Bool}(O:Ord n lt)
include O
theorem k6(q:PermR n p)(B:r<=n)(h:∀i,i+1<r->lt (p.getD i 0) (p.getD (i+1) 0)=cp):fR lt p r:=by
 intro i j z F;obtain⟨d,rfl⟩:∃d,j=i+1+d:={j-i-1,by lia};clear z;induction d with
 |zero=>exact h i<|by lia
 |succ d ih=>exact O.tr _ _ _ (q.lt<|by lia) (q.lt<|by lia) (q.lt<|by lia) (ih<|by lia)<|h (i+1+d)<|by lia
theorem XS(B:PermR n p)(hi:i<n)(F:j<n)(q:i≠j)(h:lt (p.getD i 0) (p.getD j 0)=cr):lt (p.getD j 0) (p.getD i 0)=cp:=by
 rcases O.tot _ _ (B.lt hi) (B.lt F) (B.ne hi F q)with z|z
 .rw[h]at z;cases z
 .exact z
theorem DH(q:PermR n p):∀(f m:Nat),1<=m->m+f<=n->(∀i,i+1<m->lt (p.getD i 0) (p.getD (i+1) 0)=cp)->
  (∀r,m<=r->r<=m+f->(∀i,i+1<r->lt (p.getD i 0) (p.getD (i+1) 0)=cp)->(r<m+f->lt (p.getD r 0) (p.getD (r-1) 0)=cp)->G r s)->(kas_asc p f m).kasWp (gR n lt) G s
 |0,m,h1,h2,ha,hG=>hG m (zam _) (zam _) ha λz=>absurd z<|by lia
 |f+1,m,h1,h2,ha,hG=>by
  show gR n lt _ _ _ s;refine{q.lt<|by lia,q.lt<|by lia,q.ne (by lia) (by lia)<|by lia,?_};cases hc:lt (p.getD m 0) (p.getD (m-1) 0)with
  |true=>
   show(KasT.ret m).kasWp (gR n lt) G s;exact hG m (zam _) (by lia) ha λ_=>hc
  |false=>
   show(kas_asc p f<|m+1).kasWp (gR n lt) G s;refine DH q f (m+1) (by lia) (by lia) (λi hi=>?_) (λr N U F B=>hG r (by lia) (by lia) F λz=>B<|by lia);by_cases e:i+1<m
   .exact ha i e
   .have:i=m-1:=by lia
    subst this;have J:m-1+1=m:=by lia
    rw[J];exact XS O q (by lia) (by lia) (by lia) hc
theorem EV(q:PermR n p):∀(f m:Nat),1<=m->m+f<=n->(∀i,i+1<m->lt (p.getD (i+1) 0) (p.getD i 0)=cp)->
  (∀r,m<=r->r<=m+f->(∀i,i+1<r->lt (p.getD (i+1) 0) (p.getD i 0)=cp)->G (p,r,0) s)->(kas_desc f p m 0).kasWp (gR n lt) G s
 |0,m,h1,h2,ha,hG=>hG m (zam _) (zam _) ha
 |f+1,m,h1,h2,ha,hG=>by
  show gR n lt _ _ _ s;refine{q.lt<|by lia,q.lt<|by lia,q.ne (by lia) (by lia)<|by lia,?_};cases hc:lt (p.getD m 0) (p.getD (m-1) 0)with
  |true=>
   show(kas_desc f p (m+1) 0).kasWp (gR n lt) G s;refine EV q f (m+1) (by lia) (by lia) (λi hi=>?_) λr F J z=>hG r (by lia) (by lia) z;by_cases e:i+1<m
   .exact ha i e
   .have:i=m-1:=by lia
    subst this;have B:m-1+1=m:=by lia
    rw[B];exact hc
  |false=>
   show gR n lt _ _ _ s;refine{q.lt<|by lia,q.lt<|by lia,q.ne (by lia) (by lia)<|by lia,?_};rw[XS O q (by lia) (by lia) (by lia) hc];exact hG m (zam _) (by lia) ha
theorem L8(B:PermR n p)(F:r<=n)(k:Nat):(kas_rev p 0 r).getD k 0=if k<r then p.getD (r-1-k) 0 else p.getD k 0:=by
 have hs:=B.size;have e:=getElem?_mirror_all (xs:=p) (i:=0) (j:=r) (by lia) k;have g:∀(q:Array Nat) (k:Nat),q.getD k 0=(q[k]?).getD 0:=λq k=>by
  by_cases h:k<q.size <;> simp[zc6,h]
 unfold kas_rev;rw[g,e];by_cases h:k<r
 .rw[cw {za1 _,h},cw h,g]
  congr 2
  lia
 .rw[cx λz=>h z.2,cx h,g]
omit O in
theorem JX(q:PermR n p)(r:Nat):PermR n<|kas_rev p 0 r:=(mirror_perm p 0 r _).trans q
theorem KD(q:PermR n p)(hn:1<=n)(J:∀m N,1<=m->m<=n->PermR n N->fR lt N m->G (m,N) s):(kas_count n p).kasWp (gR n lt) G s:=by
 unfold kas_count;rw[KasT.kasWp_bind];refine DH O q (n-1) 1 (zam _) (by lia) (λi hi=>absurd hi<|by lia) λr h1 h2 h3 h4=>?_
 by_cases e:r=n
 .have:(r == n)=cp:=by simp[e]
  rw[cw this];exact J r p h1 (by lia) q<|k6 O q (by lia) h3
 .have:¬ (r == n)=cp:=by simp[e]
  rw[cx this];have hs:=k6 O q (r:=r) (by lia) h3;by_cases Y:r>1
  .rw[cw Y]
   show gR n lt _ _ _ s;refine{q.lt<|by lia,q.lt<|by lia,q.ne (by lia) (by lia)<|by lia,?_};rw[hs 0 (r-1) (by lia)<|by lia];exact J r p h1 (by lia) q hs
  .rw[cx Y]
   have r1:r=1:=by lia
   subst r1;unfold kas_descPart;rw[KasT.kasWp_bind];have U:=h4 (by lia);refine EV O q (n-(1+1)) (1+1) (by lia) (by lia) (λi hi=>?_) λz h6 h7 h8=>?_
   .have:i=0:=by lia
    subst this;exact U
   .show(kas_tail3 z n p).kasWp (gR n lt) G s
    unfold kas_tail3;rw[KasT.kasWp_bind];have F:z<=n:=by lia
    have B:PermR n<|kas_rev p 0 z:=JX q z;refine DH O B (n-z) z (by lia) (by lia) (λi hi=>?_) λm h9 af W _=>?_
    .rw[L8 O q F,L8 O q F,cw<|by lia,cw hi]
     have:=h8 (z-1-(i+1)) (by lia);have e2:z-1-(i+1)+1=z-1-i:=by lia
     rw[e2]at this;exact this
    .exact J m _ (by lia) (by lia) B<|k6 O B (by lia) W
theorem tU(q:PermR n p)(N:k<n)(hs:fR lt p k):∀(f l r:Nat),l<=r->r<=k->r-l<=f->(∀i,i<l->lt (p.getD i 0) (p.getD k 0)=cp)->(∀i,r<=i->i<k->lt (p.getD k 0) (p.getD i 0)=cp)->
  (∀l,l<=k->(∀i,i<l->lt (p.getD i 0) (p.getD k 0)=cp)->(∀i,l<=i->i<k->lt (p.getD k 0) (p.getD i 0)=cp)->G l s)->(kas_place p k f l r).kasWp (gR n lt) G s
 |0,l,r,h1,h2,h3,h4,h5,hG=>by
  have:l=r:=by lia
  subst this;exact hG l h2 h4 h5
 |f+1,l,r,h1,h2,h3,h4,h5,hG=>by
  unfold kas_place;by_cases e:l ≥ r
  .rw[cw e]
   have:l=r:=by lia
   subst this;exact hG l h2 h4 h5
  .rw[cx e]
   show gR n lt _ _ _ s;refine{q.lt<|by lia,q.lt<|by lia,q.ne (by lia) (by lia)<|by lia,?_};have W:(l+r)/2<k:=by lia
   have J:l<=(l+r)/2:=by lia
   have U:(l+r)/2<r:=by lia
   generalize (l+r)/2=mid at *;cases hc:lt (p.getD k 0) (p.getD mid 0)with
   |true=>
    show(kas_place p k f l mid).kasWp (gR n lt) G s;refine tU q N hs f l mid J (by lia) (by lia) h4 (λi hi F=>?_) hG;by_cases z:i=mid
    .rw[z];exact hc
    .exact O.tr _ _ _ (q.lt<|by lia) (q.lt<|by lia) (q.lt<|by lia) hc<|hs mid i (by lia) F
   |false=>
    show(kas_place p k f (mid+1) r).kasWp (gR n lt) G s;have B:=XS O q (by lia) (by lia) (by lia) hc;refine tU q N hs f (mid+1) r (by lia) h2 (by lia) (λi hi=>?_) h5 hG;by_cases z:i=mid
    .rw[z];exact B
    .exact O.tr _ _ _ (q.lt<|by lia) (q.lt<|by lia) (q.lt<|by lia) (hs i mid (by lia) W) B
theorem M9(B:PermR n p)(G:k<n)(F:l<=k)(j:Nat):(bubble p k<|k-l).getD j 0=if j=l then p.getD k 0 else if l<j/\j<=k then p.getD (j-1) 0 else p.getD j 0:=by
 have hs:=B.size;have e:=getElem?_bubble (xs:=p) (src:=k) (by lia) (k-l) (by lia) j;have g:∀(q:Array Nat) (k:Nat),q.getD k 0=(q[k]?).getD 0:=λq k=>by
  by_cases h:k<q.size <;> simp[zc6,h]
 have z:k-(k-l)=l:=by lia
 rw[z]at e;rw[g,e];by_cases h:j=l
 .rw[cw h,cw h,g]
 .rw[cx h,cx h]
  by_cases h2:l<j/\j<=k
  .rw[cw h2,cw h2,g]
  .rw[cx h2,cx h2,g]
theorem MX(B:∀p,PermR n p->fR lt p n->G p s):∀(f:Nat) (p:Array Nat) (k:Nat),k+f=n->PermR n p->fR lt p k->(kas_bin f p k).kasWp (gR n lt) G s
 |0,p,k,h1,hp,hs=>by
  have:k=n:=by lia
  subst this;exact B p hp hs
 |f+1,p,k,h1,hp,hs=>by
  unfold kas_bin;rw[KasT.kasWp_bind];have z:k<n:=by lia
  refine tU O hp z hs k 0 k (za1 _) (zam _) (by lia) (λi hi=>absurd hi<|by lia) (λi h2 Y=>absurd Y<|by lia) λl F h4 h5=>?_
  refine MX B f _ (k+1) (by lia) ((bubble_perm p k _).trans hp) λi j q hj=>?_
  rw[M9 O hp z F,M9 O hp z F];by_cases N:i=l
  .rw[cw N,cx<|by lia,cw<|by lia]
   exact h5 (j-1) (by lia)<|by lia
  .rw[cx N]
   by_cases W:j=l
   .rw[cw W,cx<|by lia]
    exact h4 i<|by lia
   .rw[cx W]
    by_cases U:l<i/\i<=k
    .rw[cw U,cw<|by lia]
     exact hs (i-1) (j-1) (by lia)<|by lia
    .rw[cx U]
     by_cases J:l<j/\j<=k
     .rw[cw J]
      by_cases c:i=j-1
      .lia
      .exact hs i (j-1) (by lia)<|by lia
     .rw[cx J]
      exact hs i j q<|by lia
theorem RM(F:1<=n)(B:∀p,PermR n p->fR lt p n->G p s):(kas_sort n).kasWp (gR n lt) G s:=by
 unfold kas_sort;rw[KasT.kasWp_bind];refine KD O (Array.Perm.refl _) F λm q h1 h2 z hs=>?_
 show(if m<n then kas_bin (n-max m 1) q (max m 1)else KasT.ret q).kasWp (gR n lt) G s;have e:max m 1=m:=by lia
 rw[e];by_cases h:m<n
 .rw[cw h]
  exact MX O B (n-m) q m (by lia) z hs
 .rw[cx h]
  have:m=n:=by lia
  subst this;exact B q z hs
end
theorem EO{z:Type}{n:Nat}{lt:Nat->Nat->Bool}{c:Nat->Nat->(Bool->zab->Prop)->zab->Prop}(q:∀i j C,i<n->j<n->i≠j->C (lt i j) s->c i j C s){Q:z->zab->Prop}:∀(t:KasT z),t.kasWp (gR n lt) Q s->t.kasWp c Q s
 |.ret a,h=>h
 |.ask i j k,h=>by
  obtain⟨h1,h2,F,B⟩:=(show i<n/\j<n/\i≠j/\(k<|lt i j).kasWp (gR n lt) Q s from h);exact q i j _ h1 h2 F<|EO q (k<|lt i j) B
end My
namespace My
open PySem.W
section
variable {prog:zap}{w:World}{A:zas}{E:Value->zab->Prop}{s:zab}{it d:Addr}{i ep:Nat}{od:Obj}{es:Array zbD}
def RawD(h:Heap)(d:Addr)(es:Array zbD)(ep:Nat):Prop:=∃o,h.get? d=b4 o/\o.ExactDict/\o.data=.dict es ep
def RawD.at'(x:RawD h d es ep)(k:∀o,h.get? d=b4 o->h'.get? d=b4 o):RawD h' d es ep:=let ⟨o,a,b⟩:=x;⟨o,k o a,b⟩
def RawD.typ(x:RawD s.heap d es ep):s.TypeIs (.ref d) "dict" := let ⟨o,a,b,_⟩:=x;{o,a,b.1}
def A7(J:(d == za9)=cr)(B:RawD s.heap d es ep)
  (N:Q (.ref s.heap.objs.size) {s with heap:=s.heap.push {cls:=.type "dict_keyiterator",data:=.fields #[.ref d,.int 0 0,.int es.size 0,.int ep 0]} }):wpAny (model prog w) A (pyIter<|.ref d) Q E s:=by
 have q:=B.typ;obtain⟨o,z,U,G⟩:=B;refine wpAny_pyIter_slot q PySem.F.slot_dict_iter<|zbd PySem.F.slot_dict_iter q PySem.F.entry_dict_iter ?_<|PySem.F.args_dict_iter_1 _;unfold zbc.«dict.__iter__»;refine zaa ?_;unfold Builtin.Dict.dictSlotNone;refine zaa<|zd1 q ?_;show wpAny _ _ (pure<|zao d) _ _ s;refine zac ?_;show wpAny _ _ (zdp d >>= _) _ _ s;unfold zdp;rw[cx<|by rw[J];exact zat];refine zaa<|zac<|zaa<|zb3 z G<|zaa<|zcP z G ?_;refine zaa<|zbq<|zac {_,rfl, "dict_keyiterator",_,{_,zau _ rfl,rfl},PySem.F.slot_dict_keyiterator_next.lookup,?_};simpa[zaP]using N
def AU(z:s.heap.IsKeyIter it d i es.size ep)(W:RawD s.heap d es ep)(N:i<es.size)
  (Y:∀h',h'.IsKeyIter it d (i+1) es.size ep->zaT it s.heap h'->Q (b4 es[i].key) {s with heap:=h'}):wpAny (model prog w) A (zaL<|.ref it) Q E s:=by
 have q:=z.typeIs;obtain⟨o,F,U,B⟩:=id z;obtain⟨od,G,g2,J⟩:=W;unfold zaL;refine zaa<|zb4<|zbw (name:=zaZ "__next__") q zd2<|zbd zd2 q zfk ?_<|zfl _;refine zaa<|zac<|zaa<|zaa ?_
 first|refine zaa (zd3 q<|zac ?_)|refine zaa<|zd4 q<|zac ?_
 refine zaa<|zd5 F B ?_;simp only[show zdq "dict_keyiterator" = cr by decide,zb5,if_false];show wpAny _ _ (if(zao d == zaN)=cp then _ else _) _ _ s;rw[cx<|show ¬ ((zao d == zaN)=cp)from zat];refine zaa<|zac<|zaa<|zb3 G J ?_;rw[cx<|by simp];refine zaa<|zac<|zaa<|zcP G J ?_;rw[cx<|by simp];refine zac ?_;simp only[show ¬ ((i:Int)<0)from by lia,if_false,zb6,zd6 N];refine zaa ?_;first|refine zaa (zd3 q<|zac ?_)|refine zaa<|zd4 q<|zac ?_
 refine zaa<|wpAny_isOneOf_keyiter q ?_;show wpAny _ _ (zc7 (.ref it) 1 (zaP<|(i:Int)+1) >>= _) _ _ s;refine zaa<|zdr F B (by simp) ?_;have nx:(s.heap.update it<|Obj.mapFields (·.setIfInBounds 1 (zaP<|(i:Int)+1))).IsKeyIter it d (i+1) es.size ep:={_,zbU _ F<|Obj.isFreed_of_fields<|zd7 B _,(Obj.cls_mapFields ..).trans U,by rw[zd7 B];simp[zaP]};refine zaa<|zbn<|zaa<|wpAny_isOneOf_keyiter (s:={s with heap:=s.heap.update it (Obj.mapFields (·.setIfInBounds 1 (zaP<|(i:Int)+1)))}) nx.typeIs ?_;show wpAny _ _ (pure es[i].key) _ _ _;exact zac<|zac {_,rfl,zac<|Y _ nx<|zck ..}
def EK(U:A.handled=cg)(z:s.heap.IsKeyIter it d i es.size ep)(W:RawD s.heap d es ep)(N:es.size<=i)
  (Y:∀h',zds it s.heap h'->Q cg {s with heap:=h'}):wpAny (model prog w) A (zaL<|.ref it) Q E s:=by
 have q:=z.typeIs;obtain⟨o,F,hc,J⟩:=id z;obtain⟨od,B,g2,G⟩:=W;unfold zaL;refine zaa<|zb4<|zbw (name:=zaZ "__next__") q zd2<|zbd zd2 q zfk ?_<|zfl _;refine zaa<|zac<|zaa<|zaa ?_
 first|refine zaa (zd3 q<|zac ?_)|refine zaa<|zd4 q<|zac ?_
 refine zaa<|zd5 F J ?_;simp only[show zdq "dict_keyiterator" = cr by decide,zb5,if_false];show wpAny _ _ (if(zao d == zaN)=cp then _ else _) _ _ s;rw[cx<|show ¬ ((zao d == zaN)=cp)from zat];refine zaa<|zac<|zaa<|zb3 B G ?_;rw[cx<|by simp];refine zaa<|zac<|zaa<|zcP B G ?_;rw[cx<|by simp];refine zac ?_;simp only[show ¬ ((i:Int)<0)from by lia,if_false,zb6,Array.getElem?_eq_none N];refine zaa ?_;first|refine zaa (zd3 q<|zac ?_)|refine zaa<|zd4 q<|zac ?_
 show wpAny _ _ (zc7 (.ref it) 0 .none >>= _) _ _ s;refine zaa<|zdr F J (by simp) ?_;show wpAny _ _ (newExc (.type "StopIteration") [] >>= _) _ _ _;refine zaa ?_;simp only[newExc,newTuple];refine zaa (zbq ?_<|by size_fits);refine zaa (m:=zc8 _ _)<|zdt (a:=zaN) (by first|rfl|(simp only[zc8];rfl)) ?_
 refine zbq ?_ (by size_fits);simp only[raiseNew];refine zaa<|wpAny_handled ?_;rw[show A.in1.handled=cg from U];refine zaa<|zac<|wpAny_throw ?_;refine zaa<|zc9 (T := "StopIteration") (b:=cp) {_,zau _ rfl,rfl} zdu ?_;exact zac<|Y _<|((zck ..).extBut.push _).push _
def GO(h:Heap)(it d:Addr)(i n ep:Nat)(q fl:Value)(ok z:Value):Prop:=
 h.get? it=b4 {cls:=.type "dict_itemiterator",dict:=cg,data:=.fields #[q,fl,.ref d,.int i 0,.int n 0,.int ep 0,ok,z],slots:=#[]}
def ItSt(h:Heap)(it d S:Addr)(i n ep:Nat):Prop:=
 (i=0/\∃ok q,GO h it d i n ep .none (.bool cr) ok q)\/∃ok q a f z,GO h it d i n ep (zaP (a:Nat)) (.bool f) ok q/\h.get? a=b4 z/\a≠it/\a≠S
def vG(B:GO s.heap it d i es.size ep own fl ok ov)(hm:RawD s.heap d es ep)(W:i<es.size)
  (hQ:∀h1:Heap, GO h1 it d (i+1) es.size ep own fl ok ov -> zaT it s.heap h1 ->
   wpAny (model prog w) A.in1 (zd8 (.ref it) 6 es[i].key es[i].val) (λv s'=>Q (b4 v) s') (λ_ _=>False) {s with heap:=h1}):wpAny (model prog w) A (zaL<|.ref it) Q E s:=by
 obtain⟨od,G,g2,J⟩:=hm;have F:s.TypeIs (.ref it) "dict_itemiterator" := {_,B,rfl};unfold zaL;refine zaa<|zb4<|zbw (name:=zaZ "__next__") F zd9<|zbd zd9 F zfm ?_<|zfn _;refine zaa<|zac<|zaa<|zaa ?_
 first|refine zaa (zea F<|zac ?_)|refine zaa<|zeb F<|zac ?_
 refine zaa<|zd5 B rfl ?_;simp only[show zdq "dict_itemiterator" = cp by decide,if_true];show wpAny _ _ (if(zao d == zaN)=cp then _ else _) _ _ s;rw[cx<|show ¬ ((zao d == zaN)=cp)from zat];refine zaa<|zac<|zaa<|zb3 G J ?_;rw[cx<|by simp];refine zaa<|zac<|zaa<|zcP G J ?_;rw[cx<|by simp];refine zac ?_;simp only[show ¬ ((i:Int)<0)from by lia,if_false,zb6,zd6 W];refine zaa ?_;first|refine zaa (zea F<|zac ?_)|refine zaa<|zeb F<|zac ?_
 refine zaa<|ze5 F ?_;show wpAny _ _ (zc7 (.ref it) 3 (zaP<|(i:Int)+1) >>= _) _ _ s;refine zaa<|zaY B (by simp) λh1 Y k2=>?_;have U:GO h1 it d (i+1) es.size ep own fl ok ov:=by
  have e:((i+1:Nat):Int)=(i:Int)+1:=by lia
  unfold GO;rw[e];simpa[zaP]using Y
 have N:zec {s with heap:=h1} (.ref it) "dict_itemiterator" := {_,U,rfl};refine zaa<|zbn<|zaa<|ze5 N ?_;refine zaa<|ze5 N ?_;show wpAny _ _ (zd8 (.ref it) 6 es[i].key es[i].val) _ _ {s with heap:=h1};exact zbb (hQ h1 U k2) (λv s' q=>zac {_,rfl,zac q}) λ_ _ z=>z.elim
def HX(ab:ItSt s.heap it d S i es.size ep)(hS:S<s.heap.objs.size)(hm:RawD s.heap d es ep)(hx:i<es.size)
  (hQ:∀h', ItSt h' it d S (i+1) es.size ep -> h'.get? s.heap.objs.size = b4 {cls := .type "tuple", data := .seq #[es[i].key, es[i].val]} -> h'.objs.size = s.heap.objs.size+1 ->
   (∀b o,b≠it->s.heap.get? b=b4 o->h'.get? b=b4 o)->Q (b4<|.ref s.heap.objs.size) {s with heap:=h'}):wpAny (model prog w) A (zaL<|.ref it) Q E s:=by
 have J:it<s.heap.objs.size:=by
  rcases ab with⟨_,ok,U,B⟩|⟨ok,U,a,f,oa,B,_⟩ <;> exact zai B
 rcases ab with⟨_,ok,U,B⟩|⟨ok,U,a,f,oa,B,ha,G,aj⟩
 .refine vG B hm hx λh1 k1 k2=>?_
  have W:h1.objs.size=s.heap.objs.size:=k2.1;unfold zd8;refine zaa<|zda ?_;have F:GO (h1.push {cls:=.type "tuple",data:=.seq #[es[i].key,es[i].val]}) it d (i+1) es.size ep .none (.bool cr) ok U:=zag _ k1;have m2:(h1.push {cls:=.type "tuple",data:=.seq #[es[i].key,es[i].val]}).get? s.heap.objs.size=b4 {cls:=.type "tuple",data:=.seq #[es[i].key,es[i].val]}:=by rw[<- W];exact zau _ rfl
  have m3:(h1.push {cls:=.type "tuple",data:=.seq #[es[i].key,es[i].val]}).objs.size=s.heap.objs.size+1:=by rw[zbm,W]
  have m4:∀b o,b≠it->s.heap.get? b=b4 o->(h1.push {cls:=.type "tuple",data:=.seq #[es[i].key,es[i].val]}).get? b=b4 o:=λb o q e=>zag _<|k2.extBut b o q e
  show wpAny _ _ (zed (.ref it) >>= _) _ _ {s with heap:=h1.push {cls:=.type "tuple",data:=.seq #[es[i].key,es[i].val]} };dsimp only;rw[W];generalize h1.push {cls:=.type "tuple",data:=.seq #[es[i].key,es[i].val]}=h2 at *;refine zaa ?_;unfold zed;refine zaa<|zaE F rfl (x:=.none) rfl<|zac ?_;simp only[if_true];refine zaa<|zaE F rfl (x:=ok) rfl<|zaa<|zaE F rfl (x:=U) rfl ?_;refine zaa<|zaY F (by simp) λz e3 N=>?_;have ak:GO z it d (i+1) es.size ep .none (.bool cr) es[i].key U:=e3;refine zaa<|zaY ak (by simp) λh4 e4 s4=>?_;have an:GO h4 it d (i+1) es.size ep .none (.bool cr) es[i].key es[i].val:=e4;refine zaa<|zaY an (by simp) λh5 e5 s5=>?_;have ao:GO h5 it d (i+1) es.size ep (zaP (s.heap.objs.size:Nat)) (.bool cr) es[i].key es[i].val:=e5;refine zaa<|zaY ao (by simp) λY e6 s6=>?_;have ai:GO Y it d (i+1) es.size ep (zaP (s.heap.objs.size:Nat)) (.bool cr) es[i].key es[i].val:=e6;have ex:∀b o,b≠it->h2.get? b=b4 o->Y.get? b=b4 o:=λb o q e=>(show zaT it h5 Y from s6).extBut b o q<|(show zaT it h4 h5 from s5).extBut b o q<|(show zaT it z h4 from s4).extBut b o q<|(show zaT it h2 z from N).extBut b o q e
  have sz:Y.objs.size=s.heap.objs.size+1:=by
   rw[(show zaT it h5 Y from s6).1,(show zaT it h4 h5 from s5).1,(show zaT it z h4 from s4).1,(show zaT it h2 z from N).1,m3]
  exact zaa<|zbx<|zac<|hQ Y (.inr {_,_,_,cr,_,ai,ex _ _ (zaK J) m2,zaK J,zaK hS}) (ex _ _ (zaK J) m2) sz λb o q e=>ex b o q<|m4 b o q e
 .refine vG B hm hx λh1 k1 k2=>?_
  have W:h1.objs.size=s.heap.objs.size:=k2.1;unfold zd8;refine zaa<|zda ?_;have F:GO (h1.push {cls:=.type "tuple",data:=.seq #[es[i].key,es[i].val]}) it d (i+1) es.size ep (zaP (a:Nat)) (.bool f) ok U:=zag _ k1;have m2:(h1.push {cls:=.type "tuple",data:=.seq #[es[i].key,es[i].val]}).get? s.heap.objs.size=b4 {cls:=.type "tuple",data:=.seq #[es[i].key,es[i].val]}:=by rw[<- W];exact zau _ rfl
  have m3:(h1.push {cls:=.type "tuple",data:=.seq #[es[i].key,es[i].val]}).objs.size=s.heap.objs.size+1:=by rw[zbm,W]
  have m4:∀b o,b≠it->s.heap.get? b=b4 o->(h1.push {cls:=.type "tuple",data:=.seq #[es[i].key,es[i].val]}).get? b=b4 o:=λb o q e=>zag _<|k2.extBut b o q e
  show wpAny _ _ (zed (.ref it) >>= _) _ _ {s with heap:=h1.push {cls:=.type "tuple",data:=.seq #[es[i].key,es[i].val]} };dsimp only;rw[W];generalize h1.push {cls:=.type "tuple",data:=.seq #[es[i].key,es[i].val]}=h2 at *;refine zaa ?_;unfold zed;refine zaa<|zaE F rfl (x:=zaP (a:Nat)) rfl ?_;show wpAny _ _ (loadIfAlive ((a:Int).toNat) >>= _) _ _ _;rw[zb6];refine zaa<|kdx_alive (m4 a oa G ha) ?_;simp only[Option.isNone_some,zb5,if_false];refine zaa<|zaE F rfl (x:=.bool f) rfl ?_;have fin:∀z:Heap,GO z it d (i+1) es.size ep (zaP (a:Nat)) (.bool cp) ok U->zaT it h2 z->Q (b4<|.ref s.heap.objs.size) {s with heap:=z}:=λz e3 N=>
   hQ z (.inr {_,_,a,cp,oa,e3,N.extBut a oa G<|m4 a oa G ha,G,aj}) (N.extBut _ _ (zaK J) m2) (by rw[N.1,m3]) λb o q e=>N.extBut b o q<|m4 b o q e
  cases f with
  |true=>
   rw[cx<|show ¬ ((zcb cp != zcb cp)=cp)from zat];refine zac ?_;simp only[zb5,if_false];exact zac<|fin h2 F<|ze6 _ _
  |false=>
   rw[cw<|show(zcb cr != zcb cp)=cp from rfl];refine zaa<|zaY F (by simp) λz e3 N=>?_;refine zac ?_;simp only[zb5,if_false];exact zac<|fin z e3 N
def zS(J:A.handled=cg)(q:GO s.heap it d i es.size ep own fl ok ov)(N:RawD s.heap d es ep)(G:es.size<=i)
  (U:∀h',zds it s.heap h'->Q cg {s with heap:=h'}):wpAny (model prog w) A (zaL<|.ref it) Q E s:=by
 obtain⟨od,B,W,F⟩:=N;have z:s.TypeIs (.ref it) "dict_itemiterator" := {_,q,rfl};unfold zaL;refine zaa<|zb4<|zbw (name:=zaZ "__next__") z zd9<|zbd zd9 z zfm ?_<|zfn _;refine zaa<|zac<|zaa<|zaa ?_
 first|refine zaa (zea z<|zac ?_)|refine zaa<|zeb z<|zac ?_
 refine zaa<|zd5 q rfl ?_;simp only[show zdq "dict_itemiterator" = cp by decide,if_true];show wpAny _ _ (if(zao d == zaN)=cp then _ else _) _ _ s;rw[cx<|show ¬ ((zao d == zaN)=cp)from zat];refine zaa<|zac<|zaa<|zb3 B F ?_;rw[cx<|by simp];refine zaa<|zac<|zaa<|zcP B F ?_;rw[cx<|by simp];refine zac ?_;simp only[show ¬ ((i:Int)<0)from by lia,if_false,zb6,Array.getElem?_eq_none G];refine zaa ?_;first|refine zaa (zea z<|zac ?_)|refine zaa<|zeb z<|zac ?_
 show wpAny _ _ (zc7 (.ref it) 2 .none >>= _) _ _ s;refine zaa<|zdr q rfl (by simp) ?_;show wpAny _ _ (newExc (.type "StopIteration") [] >>= _) _ _ _;refine zaa ?_;simp only[newExc,newTuple];refine zaa (zbq ?_<|by size_fits);refine zaa (m:=zc8 _ _)<|zdt (a:=zaN) (by first|rfl|(simp only[zc8];rfl)) ?_
 refine zbq ?_ (by size_fits);simp only[raiseNew];refine zaa<|wpAny_handled ?_;rw[show A.in1.handled=cg from J];refine zaa<|zac<|wpAny_throw ?_;refine zaa<|zc9 (T := "StopIteration") (b:=cp) {_,zau _ rfl,rfl} zdu ?_;exact zac<|U _<|((zck ..).extBut.push _).push _
def ItSt.keep(x:ItSt h it d S i n ep)(G:∀b o,b≠S->h.get? b=b4 o->h'.get? b=b4 o)(J:it≠S):ItSt h' it d S i n ep:=by
 rcases x with⟨e,ok,F,q⟩|⟨ok,F,a,f,N,q,U,B,z⟩
 .exact .inl {e,ok,F,G _ _ J q}
 .exact .inr {ok,F,a,f,N,G _ _ J q,G _ _ z U,B,z}
structure Made(es:Array zbD)(lo:Addr)(h:Heap)(as:List Addr):Prop where
 above:∀a∈as,lo<a
 pair:∀(j:Nat) (a:Addr),as[j]?=b4 a->∃e,es[j]?=b4 e/\h.get? a=b4 {cls:=.type "tuple",data:=.seq #[e.key,e.val]}
end
section
variable {prog:zap}{w:World}{A:zas}{s:zab}{R:Result->zab->Prop}{es:Array zbD}{ep:Nat}
def GU{S I d:Addr}(hh:A.handled=cg)(am:S<I)(au:d≠S)(ap:d≠I)(hn:es.size<=zal)(res:Value){h0:Heap}
  (hR:∀h' tk q c as,(∀b o,b≠S->b≠I->h0.get? b=b4 o->h'.get? b=b4 o)->h'.get? S=b4 {cls:=.type "list",dict:=cg,data:=.seq q c,slots:=#[]}->as.length=es.size->Made es I h' as->q.toList=as.map zao->R (.ok<|.ret res) {s with heap:=h',toks:=tk}) :
  ∀(k i:Nat) (h:Heap) (tk c:Nat) (q:Array Value) (as:List Addr),es.size-i=k->i<=es.size->ItSt h I d S i es.size ep->RawD h d es ep->(∀b o,b≠S->b≠I->h0.get? b=b4 o->h.get? b=b4 o)->
   h.get? S=b4 {cls:=.type "list",dict:=cg,data:=.seq q c,slots:=#[]}->q.toList=as.map zao->as.length=i->Made es I h as->I<h.objs.size->
   zbu (model prog w) A (.builtin "list.extend.loop" {[.ref S,.ref I,res],[]}) R {s with heap:=h,toks:=tk}:=by
 have Y:S≠I:=zaB am;intro k;induction k with
 |zero=>
  intro i h tk c q as hk hi W hD B hS G ab U ad;have ai:es.size<=i:=by lia
  refine zcl PySem.F.entry_extend_loop ?_;rw[zcm zdv _];show wpAny _ A.in1 (zaL (.ref I) >>= _) _ _ _;have fin:∀h',zds I h h'->R (.ok<|.ret res) {s with heap:=h',toks:=tk}:=λh' he=>by
   refine hR h' tk q c as (λb o h1 h2 e=>he b o h2<|B b o h1 h2 e) (he S _ Y hS) (by lia) {U.above,λj a J=>?_} G;obtain⟨e,e1,e2⟩:=U.pair j a J;exact{e,e1,he a _ (zaK<|U.above a<|zaA J) e2}
  rcases W with⟨_,ok,ov,aa⟩|⟨ok,ov,a,f,oa,aa,_⟩
  .exact zaa<|zS (s:={s with heap:=h,toks:=tk}) (A:=A.in1) hh aa hD ai λh' he=>zac<|fin h' he
  .exact zaa<|zS (s:={s with heap:=h,toks:=tk}) (A:=A.in1) hh aa hD ai λh' he=>zac<|fin h' he
 |succ k ih=>
  intro i h tk c q as hk hi W hD B hS G ab U ad;have ac:i<es.size:=by lia
  have hsz:q.size=i:=by rw[<- zbg,G,zaj,ab]
  refine zcl PySem.F.entry_extend_loop ?_;rw[zcm zdv _];show wpAny _ A.in1 (zaL (.ref I) >>= _) _ _ _;refine zaa<|HX (s:={s with heap:=h,toks:=tk}) (S:=S) W (zai hS) hD ac λh' ak ht hz N=>?_;dsimp only at ht hz N ⊢;have aj:=N S _ Y hS;have ag:S<h.objs.size:=zai hS;have up:∀b o,b≠S->h'.get? b=b4 o->(h'.update S<|zbj (·.push (zao h.objs.size))).get? b=b4 o:=λb o hb e=>(zbM _ _<|zaS hb).trans e
  show wpAny _ A.in1 (zcQ S (·.push (zao h.objs.size)) >>= _) _ _ _;refine zaa (zcx aj rfl ?_ (by rw[hsz];lia)<|by show(q.push<|zao h.objs.size).size<=zal+1;rw[Array.size_push,hsz];lia);refine zac {zbE zdv _,ih (i+1) _ tk _ (q.push<|zao h.objs.size) (as++[h.objs.size]) (by lia) ac (ak.keep up<|zaS Y) (hD.at' λo e=>up d o au<|N d o ap e) (λb o h1 h2 e=>up b o h1<|N b o h2<|B b o h1 h2 e) (zbU _ aj rfl) (by rw[Array.toList_push,G,za5];rfl) (by rw[zbp,ab];rfl) {λa ha=>?_,λj b J=>?_} ?_}
  .rcases List.mem_append.mp ha with ha|ha
   .exact U.above a ha
   .rw[List.mem_singleton.mp ha];exact ad
  .by_cases h1:j<as.length
   .rw[zcW h1]at J
    obtain⟨e,e1,e2⟩:=U.pair j b J;have hb:=U.above b<|zaA J;exact{e,e1,up b _ (zaK<|zcM am hb)<|N b _ (zaK hb) e2}
   .rw[zeO<|by lia]at J
    have:j-as.length=0:=by
     by_cases z:j-as.length=0
     .exact z
     .rw[List.getElem?_eq_none<|by simp only[List.length_singleton];lia]at J;cases J
    rw[this]at J;cases J;have e:j=i:=by lia
    subst e;exact{es[j],by simp[ac],up _ _ (zaK ag) ht}
  .have e:=up _ _ (zaK ag) ht
   exact zcM ad<|zai e
end
section
variable {prog:zap}{w:World}{A:zas}{E:Value->zab->Prop}{s:zab}{r d:Addr}{es:Array zbD}{ep:Nat}
def GQ(z:s.heap.IsItemsView r d)(N:RawD s.heap d es ep)
  (W:Q (.ref s.heap.objs.size) {s with heap:=s.heap.push {cls:=.type "dict_itemiterator",data:=.fields #[.none,.bool cr,.ref d,.int 0 0,.int es.size 0,.int ep 0,.none,.none]} }):wpAny (model prog w) A (pyIter<|.ref r) Q E s:=by
 have G:=z.typeIs;obtain⟨ov,J,v2,U⟩:=id z;obtain⟨o,q,Y,B⟩:=N;refine wpAny_pyIter_slot G zfo<|zbd zfo G PySem.F.entry_dict_items_iter ?_<|PySem.F.args_dict_items_iter_1 _;unfold zbc.«dict_items.__iter__»;refine zaa<|zac<|zaa ?_;unfold Builtin.Dict_items.dictOf;refine zaa<|zaE J U (x:=.ref d) rfl<|zac ?_;refine zaa ?_;unfold Builtin.Dict_items.newIterator;refine zaa<|zb3 q B<|zaa<|zcP q B ?_;simp only[show zdq "dict_itemiterator" = cp by decide,if_true];refine zbq (zac {_,rfl, "dict_itemiterator",_,{_,zau _ rfl,rfl},PySem.F.slot_dict_itemiterator_next.lookup,?_}) (by simp only[sizeOk,zfp,zaC,zbp,zaU,zbZ,zcg];lia);simpa[zaP,zfp]using W
def zK{R:Result->zab->Prop}(hh:A.handled=cg)(hv:s.heap.IsItemsView r d)(hm:RawD s.heap d es ep)(S:Addr)(ae:S≠r)(N:d≠S)(res:Value)(B:Nat)(hS:s.heap.get? S=b4 {cls:=.type "list",data:=.seq #[] B})
  (hR:∀h' tk z c as,(∀b o,b≠S->s.heap.get? b=b4 o->h'.get? b=b4 o)->h'.get? S=b4 {cls:=.type "list",dict:=cg,data:=.seq z c,slots:=#[]}->as.length=es.size->Made es s.heap.objs.size h' as->z.toList=as.map zao->R (.ok<|.ret res) {s with heap:=h',toks:=tk}) (hn:es.size<=zal) :
  wpAny (model prog w) A.in1 (ze7 (.ref S) (.ref r) res)
   (λfin s'=>match fin with | .done f=>R (.ok f) s' | .again c'=>c'.quiet=cp/\zbu (model prog w) A c' R s') (λe s'=>R (.error e) s') s:=by
 have U:S<s.heap.objs.size:=zai hS;have ac:d<s.heap.objs.size:=by
  obtain⟨o,e,_⟩:=hm;exact zai e
 have J:∀(h:Heap) (q tk:Nat),(∀b o,b≠S->(s.heap.push {cls:=.type "dict_itemiterator",data:=.fields #[.none,.bool cr,.ref d,.int 0 0,.int es.size 0,.int ep 0,.none,.none]}).get? b=b4 o->h.get? b=b4 o)->
   h.get? S=b4 {cls:=.type "list",data:=.seq #[] q}->zbu (model prog w) A (.builtin "list.extend.loop" {[.ref S,.ref s.heap.objs.size,res],[]}) R {s with heap:=h,toks:=tk}:=by
  intro h q tk Y W;have hI:=Y s.heap.objs.size _ (zaK U)<|zau _ rfl;exact GU (es:=es) (ep:=ep) (s:=s) (h0:=s.heap) hh U N (zaB ac) hn res (λh' ab z c as aa ad hl hG G=>hR h' ab z c as (λb o F e=>aa b o F (zaB<|zai e) e) ad hl hG G)
   es.size 0 h tk q #[] [] (Nat.sub_zero _) (za1 _) (.inl {rfl,.none,.none,hI}) (hm.at' λo e=>Y d o N<|zag _ e) (λb o F _ e=>Y b o F<|zag _ e) W rfl rfl {(λ_ ha=>nomatch ha),(λj a hj=>by simp at hj)} (zai hI)
 unfold ze7;refine zaa<|zcu (T := "dict_items") hv.typeIs ?_;simp only[show Builtin.List.listSameRef (.ref S) (.ref r)=cr by simp[Builtin.List.listSameRef,ae],show(zcq "dict_items" == zcq "list")=cr by decide,show(zcq "dict_items" == zcq "tuple")=cr by decide,Bool.or_false,zb5,if_false];refine zaa<|GQ hv hm ?_;have p1:=zag {cls:=.type "dict_itemiterator",data:=.fields #[.none,.bool cr,.ref d,.int 0 0,.int es.size 0,.int ep 0,.none,.none]} hS;refine zaa<|zbn<|kdx_hint (let ⟨o,ho,hc,_⟩:=hv;{o,zag _ ho,hc}) ?_;refine wpAny_ite_split (λ_=>?_) λ_=>zac {zbE zdv _,J _ B _ (λb o _ e=>e) p1};refine zaa<|zbV<|zaa ?_;show wpAny _ _ (zcQ S (·.push .none) >>= λ_=>zcQ S (·.pop)) _ _ _;refine zaa<|zcx p1 rfl ?_;have p2:=zbU (zbj (·.push zaN)) p1 rfl;refine zcx (hz:=by seq_fits) p2 rfl ?_;have p3:=zbU (zbj (·.pop)) p2 rfl;exact zac {zbE zdv _,J _ _ _ (λb o F e=>(zbM _ _<|zaS F).trans<|(zbM _ _<|zaS F).trans e) p3}
def wX(hh:A.handled=cg)(hv:s.heap.IsItemsView r d)(hm:RawD s.heap d es ep)(hn:es.size<=zal)
  (h:∀(h':Heap) (tk:Nat) (as:List Addr),(∀b o,s.heap.get? b=b4 o->h'.get? b=b4 o)->as.length=es.size->Made es s.heap.objs.size h' as->R (as.map zao) {s with heap:=h',toks:=tk}) :
  wpAny (model prog w) A (collect<|.ref r) R E s:=by
 have hr:r<s.heap.objs.size:=let ⟨_,ho,_⟩:=hv;zai ho;have hd:d<s.heap.objs.size:=let ⟨_,ho,_⟩:=hm;zai ho;unfold collect;refine zaa<|wpAny_runValue<|zcl entry_proto_collect' ?_;rw[zcm PySem.F.plain_proto_collect _];show wpAny _ A.in1 (newList [] >>= λl=>again<|.builtin "list.__iadd__" {[l,.ref r],[]}) _ _ s;refine zaa<|zbq ?_;refine zac {zbE PySem.F.plain_list_iadd _,zcl entry_list_iadd' ?_};rw[zcm PySem.F.plain_list_iadd _];have p1:(s.heap.push {cls:=.type "list",data:=.seq ([]:List Value).toArray}).get? s.heap.objs.size=b4 {cls:=.type "list",data:=.seq #[]}:=zau _ rfl;show wpAny _ A.in1 (ze7 (.ref s.heap.objs.size) (.ref r)<|.ref s.heap.objs.size) _ _ _;have aa:=zK (prog:=prog) (w:=w) (A:=A) (s:={s with heap:=s.heap.push {cls:=.type "list",data:=.seq ([]:List Value).toArray} }) (es:=es) (ep:=ep)
  (R:=λ(q:Result) (s':zab) => ∃(h':Heap) (tk:Nat) (B:Array Value) (U:Nat) (as:List Addr), q = .ok (.ret<|.ref s.heap.objs.size) /\ s' = {s with heap:=h', toks:=tk} /\
   (∀b o,s.heap.get? b=b4 o->h'.get? b=b4 o)/\h'.get? s.heap.objs.size=b4 {cls:=.type "list",dict:=cg,data:=.seq B U,slots:=#[]}/\as.length=es.size/\Made es s.heap.objs.size h' as/\B.toList=as.map zao)
  hh (let ⟨o,ho,x⟩:=hv;{o,zag _ ho,x}) (hm.at' λo e=>zag _ e) s.heap.objs.size (zaK hr) (zaB hd) (.ref s.heap.objs.size) 0 p1
  (λh' tk B U as Y J W N G=>{h',tk,B,U,as,rfl,rfl,λb o e=>Y b o (zaB<|zai e)<|zag _ e,J,W,{λa ha=>zdm (by show s.heap.objs.size<=(s.heap.push _).objs.size;rw[zbm];exact Nat.le_succ _)<|N.above a ha,N.pair},G}) hn
 refine zbb aa (λfin s' x=>?_) λe s' x=>?_
 .cases fin with
  |done f=>
   obtain⟨h',tk,B,U,as,e,rfl,Y,J,W,N,G⟩:=x;cases e;show wpAny _ A (load s.heap.objs.size >>= _) _ _ _;refine zaa<|wpAny_load J<|zac ?_;rw[G];exact h h' tk as Y W N
  |again c₁=>
   refine{x.1,zdP x.2 λq ab y=>?_};obtain⟨h',tk,B,U,as,e,rfl,Y,J,W,N,G⟩:=y;cases e;show wpAny _ A (load s.heap.objs.size >>= _) _ _ _;refine zaa<|wpAny_load J<|zac ?_;rw[G];exact h h' tk as Y W N
 .obtain⟨_,_,_,_,_,z,_⟩:=x
  cases z
end
section
variable {prog:zap}{w:World}{A:zas}{E:Value->zab->Prop}{s:zab}{a L:Addr}{vs:List Value}{m:Str->Option Value}
def LR(O:Ord vs.length lt)(B:s.heap.Ns L m)(W:s.heap.get? a=b4 (za2 "list" vs.toArray n))(J:a≠L)(ac:vs.length<64)
  (aa:2 <= vs.length -> ∀h':Heap, (∀b o, b≠a -> b≠L -> s.heap.get? b = b4 o -> h'.get? b = b4 o) -> ∃κ, (∀Q':SortKind -> zab -> Prop, Q' κ {s with heap:=h'} -> wpAny (model prog w) A (keyKind' vs.toArray) Q' (λ_ _ => False) {s with heap:=h'}) /\
   ∀i j C,i<vs.length->j<vs.length->i≠j->C (lt i j) {s with heap:=h'}->kas_ask prog w A κ vs i j C {s with heap:=h'})
  (hP:∀(p:Array Nat) (h':Heap) (c:Nat), PermR vs.length p -> fR lt p vs.length -> h'.get? a = b4 (za2 "list" (zdo<|p.toList.map λi => vs.getD i zaN) c) ->
   (∀b o,b≠a->b≠L->s.heap.get? b=b4 o->h'.get? b=b4 o)->h'.Ns L m->P (.done<|.ret .none) {s with heap:=h'}) :
  wpAny (model prog w) A (zbc.«list.sort» {[.ref a],[]}) P E s:=by
 by_cases h2:2<=vs.length
 .have N:News (Att.yD s.heap) L s.heap<|Att.ledger s.heap L a:=λ⟨b,o⟩ z=>{(Att.dR.mp z).2.2,(Att.dR.mp z).1,Att.kQ _ _}
  refine kat_list_sort (Att.VF B) N W J (Att.kQ _ _) (λ⟨b,o⟩ z=>(Att.dR.mp z).2.1) h2 ac λY h' F' N'=>?_
  have keep:∀b o,b≠a->b≠L->s.heap.get? b=b4 o->h'.get? b=b4 o:=λb o q hL e=>(N' (b,o)<|zax _<|Att.dR.mpr {hL,q,e}).1
  obtain⟨κ,k1,k2⟩:=aa h2 h' keep;refine k1 _<|EO k2 _<|RM O (by lia) λp z hs=>?_;refine KasFin.intro F' N' (.head λ⟨b,o⟩ q=>(Att.dR.mp q).2.1) λab c af U=>?_
  exact hP p ab c z hs (U _<|zaw ..).1 (λb o q hL e=>(U (b,o)<|zax _<|Att.dR.mpr {hL,q,e}).1) af.ns
 .have G:vs.toArray.size<2:=by rw[zaC];lia
  rw[list_sort_plain];obtain⟨Y,F⟩:∃Y,(s.heap.update a<|zbj λ_=>(#[]:Array Value)).get? a=b4 (za2 "list" #[] Y):={_,get?_update_seq W λ_=>#[]};refine zaa<|listItems_at W rfl<|zaa<|listUpdate_at W rfl ?_ (by rw[zaC,zcg];lia)<|za1 _;refine zaa (seqEpoch_at F rfl<|zaa<|zda ?_<|by show vs.length<=_;rw[zcg];lia);refine zaa<|zee ?_<|za1 _;refine zbn ?_;show wpAny (model prog w) A _ P E {s with heap:=((s.heap.update a<|zbj λ_=>(#[]:Array Value)).push<|za2 "tuple" vs.toArray 0).push (za2 "list" #[] 0)};dsimp only;rw[cw G,cw G];have g1:(((s.heap.update a<|zbj λ_=>(#[]:Array Value)).push<|za2 "tuple" vs.toArray 0).push<|za2 "list" #[] 0).get? a=b4 (za2 "list" #[] Y):=zag _<|zag _ F;refine zaa<|zac ?_;rw[StateT.run_pure];refine zaa<|zac ?_;dsimp only;refine zaa<|seqEpoch_at g1 rfl<|zaa<|listUpdate_at g1 rfl ?_ (za1 _) ?_
  .simp only[bne_self_eq_false,zb5,if_false]
   have s1:=zck s.heap a<|zbj λ_=>(#[]:Array Value);have s2:=zck (((s.heap.update a<|zbj λ_=>(#[]:Array Value)).push<|za2 "tuple" vs.toArray 0).push<|za2 "list" #[] 0) a<|zbj λ_=>(arrOf<|SortSt.mk' general' (vs.toArray.zip vs.toArray) #[] 7 cg).map (·.2);have keep:∀b o,b≠a->s.heap.get? b=b4 o->_:=λb o q e=>s2.extBut b o q<|zag (za2 "list" #[] 0)<|zag (za2 "tuple" vs.toArray 0)<|s1.extBut b o q e
   have eo:(arrOf<|SortSt.mk' general' (vs.toArray.zip vs.toArray) #[] 7 cg).map (·.2)=zdo ((zdo<|zav vs.length).toList.map λi=>vs.getD i zaN):=by
    show((vs.toArray.zip vs.toArray).map (·.2))=_;apply Array.toList_inj.mp;rw[Array.toList_map,Array.toList_zip];show(vs.zip vs).map (·.2)=(zav vs.length).map λi=>vs.getD i zaN
    apply zdn
    .simp
    .intro i h5 h6
     have:i<vs.length:=by simpa using h6
     simp[this]
   obtain⟨c,hc⟩:∃c,((((s.heap.update a<|zbj λ_=>(#[]:Array Value)).push<|za2 "tuple" vs.toArray 0).push<|za2 "list" #[] 0).update a<|zbj λ_=>(arrOf<|SortSt.mk' general' (vs.toArray.zip vs.toArray) #[] 7 cg).map (·.2)).get? a=b4 (za2 "list" ((arrOf<|SortSt.mk' general' (vs.toArray.zip vs.toArray) #[] 7 cg).map (·.2)) c):={_,get?_update_seq g1 _};exact zac<|hP (zdo<|zav vs.length) _ c (Array.Perm.refl _) (λi j h1 h3=>absurd h3<|by lia) (by rw[<- eo];exact hc) (λb o q _ e=>keep b o q e)<|B.at' λo e=>keep L o (zaS J) e
  .rw[Array.size_map]
   show(vs.toArray.zip vs.toArray).size<=_;rw[zcg];simp
   lia
end
end My
namespace My
open PySem.W PySem.SeqAt
theorem xD:∀ns:List Int,HT.lexLt ns ns=cr
 |[]=>rfl
 |x::xs=>by rw[HT.eR,cw rfl];exact xD xs
theorem yI:∀a b c:List Int,HT.lexLt a b=cp->HT.lexLt b c=cp->HT.lexLt a c=cp
 |[],[],c,h,_=>by cases h
 |[],_::_,[],_,h=>by cases h
 |[],_::_,_::_,_,_=>rfl
 |_::_,[],_,h,_=>by cases h
 |_::_,_::_,[],_,h=>by cases h
 |x::xs,y::ys,z::zs,h1,h2=>by
  rw[HT.eR]at h1 h2 ⊢;by_cases F:x=y
  .by_cases B:y=z
   .rw[cw F]at h1;rw[cw B]at h2;rw[cw<|F.trans B];exact yI xs ys zs h1 h2
   .rw[cx B]at h2;rw[cx λq=>B<|F.symm.trans q,F];exact h2
  .rw[cx F]at h1
   have h1:=of_decide_eq_true h1;by_cases B:y=z
   .rw[cx λq=>F<|q.trans B.symm];exact decide_eq_true<|by lia
   .rw[cx B]at h2
    have h2:=of_decide_eq_true h2;rw[cx<|by lia];exact decide_eq_true<|by lia
theorem xR:∀a b:List Int,a≠b->HT.lexLt a b=cp\/HT.lexLt b a=cp
 |[],[],h=>absurd rfl h
 |[],_::_,_=>.inl rfl
 |_::_,[],_=>.inr rfl
 |x::xs,y::ys,h=>by
  rw[HT.eR,HT.eR];by_cases e:x=y
  .rw[cw e,cw e.symm]
   exact xR xs ys λq=>h<|by rw[e,q]
  .rw[cx e,cx λq=>e q.symm]
   rcases Int.lt_or_gt_of_ne e with q|q
   .exact .inl<|decide_eq_true q
   .exact .inr<|decide_eq_true q
def X7(ks:List<|List Int)(i j:Nat):Bool:=HT.lexLt (ks.getD i [])<|ks.getD j []
def LH(G:ks.Nodup):Ord ks.length (X7 ks) where
 irr:=λi _=>xD _
 tr:=λi j k _ _ _ h1 h2=>yI _ _ _ h1 h2
 tot:=λi j hi z q=>xR _ _ λe=>q (by
  have B:ks.getD i []=ks[i]:=by simp[hi]
  have F:ks.getD j []=ks[j]:=by simp[z]
  rw[B,F]at e;exact(zcT G).mp e)
section
variable {prog:zap}{w:World}{A:zas}{E:Value->zab->Prop}{s:zab}
def TupI(h:Heap)(a:Addr)(ns:List Int):Prop:=∃q:List Value,IsTup h a q.toArray/\za8 q ns
def TupI.at'(x:TupI h a ns)(k:∀o,h.get? a=b4 o->h'.get? a=b4 o):TupI h' a ns:=by
 obtain⟨q,⟨o,e,c⟩,i⟩:=x;exact{q,⟨o,k o e,c⟩,i}
def QR(hx:TupI s.heap x ns)(hy:TupI s.heap y ms)(q:ns≠ms)(Y:A.units<cLine):EqAt A s (.ref x) (.ref y) cr:=by
 obtain⟨us,tx,N⟩:=hx;obtain⟨vs,ty,F⟩:=hy;have ne:x≠y:=λe=>by
  subst e;obtain⟨o,G,c1,n,d1⟩:=tx;obtain⟨o',B,c2,n',d2⟩:=ty;rw[G]at B;cases B;rw[d1]at d2;injection d2 with d3 _
  have:us=vs:=by simpa using congrArg Array.toList d3
  subst this;have:∀ {us:List Value} {a b:List Int},za8 us a->za8 us b->a=b:=by
   intro us a b h1;induction h1 generalizing b with
   |nil=>intro h2;cases h2;rfl
   |cons n t _ ih=>intro h2;cases h2 with|cons _ _ r=>rw[ih r]
  exact q<|this N F
 have he:∀j (h1:j<us.toArray.size) (h2:j<vs.toArray.size),EqAt A.in1 s us.toArray[j] vs.toArray[j]<|decide (ns.getD j 0=ms.getD j 0):=by
  intro j h1 h2;have g:∀ {us:List Value} {ns:List Int} {j:Nat} (_:za8 us ns) (h:j<us.length),∃t,us[j]=.int (ns.getD j 0) t:=by
   intro us ns j r;induction r generalizing j with
   |nil=>intro h;cases h
   |cons n t r ih=>
    intro h;cases j with
    |zero=>exact{t,rfl}
    |succ j=>
     obtain⟨t',e⟩:=ih (j:=j) (by simpa using h);exact{t',by simpa using e}
  obtain⟨t,G⟩:=g N (j:=j) (by simpa using h1);obtain⟨t',B⟩:=g F (j:=j) (by simpa using h2);have J:us.toArray[j]=us[j]'(by simpa using h1):=by simp
  have U:vs.toArray[j]=vs[j]'(by simpa using h2):=by simp
  rw[J,U,G,B];exact EqAt.to (EqAt.int_int _ _ _ _)<|by simp[ze3]
 refine EqAt.to (EqAt.of_refs ne<|RcAt.tuples tx ty Y he) ?_;have J:us.toArray.size=ns.length:=by rw[zaC];exact N.length
 have U:vs.toArray.size=ms.length:=by rw[zaC];exact F.length
 rw[J,U,zc2];intro z;rw[zaM]at z;obtain⟨W,z2⟩:=z;have hl:ns.length=ms.length:=by simpa using z2
 rw[zcO]at W;refine q<|zdn hl λj h1 h2=>?_;have:=of_decide_eq_true (W j<|List.mem_range.mpr<|by lia);simpa[h1,h2]using this
def GJ(h:Heap)(p a:Addr)(v:Value)(ns:List Int):Prop:=IsTup h p #[.ref a,v]/\TupI h a ns
def HG(J:GJ s.heap p a u ns)(hy:GJ s.heap q b v ms)(z:ns≠ms)(B:A.units<cLine)(h:Q (HT.lexLt ns ms) s) :
  wpAny (model prog w) A (keyLt' (tuples' cr) (.ref p)<|.ref q) Q E s:=by
 obtain⟨⟨ox,x1,x2,n,F⟩,tx⟩:=J;obtain⟨⟨oy,U,y2,m,N⟩,ty⟩:=hy;refine kat_lt x1 F U N ?_;refine kat_cons<|QR tx ty z B prog w _ _<|kat_no ?_;obtain⟨us,Y,i1⟩:=tx;obtain⟨ws,W,G⟩:=ty;exact kat_one _ _<|HT.rO Y W i1 G B h
end
end My
namespace My
open PySem.SeqAt
def obj_some(x:ObjOk P w H h a o):∃ob,h.get? a=b4 ob:=by
 cases o with
 |lst xs=>obtain⟨_,_,_,_,e⟩:=x;exact{_,e}
 |tup xs=>obtain⟨_,_,_,ob,e,_⟩:=x;exact⟨ob,e⟩
 |dK kvs=>obtain⟨_,_,_,_,ob,_,_,e,_⟩:=x;exact⟨ob,e⟩
 |dT kvs=>obtain⟨_,_,_,_,ob,_,_,e,_⟩:=x;exact⟨ob,e⟩
 |set S n=>obtain⟨ob,_,_,_,e,_⟩:=x;exact⟨ob,e⟩
 |ins C dx fs=>obtain⟨_,_,_,e,_⟩:=x;exact{_,e}
 |own y=>exact x
 |xd fs=>obtain⟨_,⟨ob,_,_,e,_⟩,_⟩:=x;exact⟨ob,e⟩
 |rng lo hi=>obtain⟨_,_,_,e⟩:=x;exact{_,e}
 |frz ob u=>obtain⟨e,_⟩:=x;exact{_,e}
 |tbl ps=>exact{_,(show h.get? a=b4 _ from x)}
 |met f y=>exact{_,(show h.get? a=b4 _ from x)}
 |ext φ=>exact x.2.1
def LI(I:Inv X pins σ H s)(keep:∀b o,b≠X.env.locals->s.heap.get? b=b4 o->h'.get? b=b4 o)(ns:∀m,s.heap.Ns X.env.locals m->h'.Ns X.env.locals m)
  (same:∀b o,s.heap.get? b=b4 o->H' b=H b) (new:∀b o,H b=cg->H' b=b4 o->ObjOk X.prog X.w H' h' b o):Inv X pins σ H' {s with heap:=h',toks:=t'}:=by
 have nl:∀b o,H b=b4 o->b≠X.env.locals:=λb o e z=>by rw[z,I.free]at e;cases e
 have B:∀b o,H b=b4 o->H' b=b4 o:=λb o e=>by
  obtain⟨ob,q⟩:=obj_some<|I.hok b o e;rw[same b ob q];exact e
 refine I.step (g':=s.gens) (d':=s.drawn) (ch:=[]) (λ_ z=>nomatch z) (λb o F _ _ e _=>keep b o F e) (λb o F _ _ e _=>{o.slots,keep b o F e}) (λb o _ e n=>by rw[same b o e];exact n) (λb o _ e=>?_)
  (λb xs e=>B b _ e) (λb o u e=>B b _ e) (λb ps e=>{#[],by rw[B b _ e];simp}) ns (λb u e=>?_) I.bare
 .by_cases G:b=X.env.locals
  .obtain⟨m,U,_⟩:=I.loc
   obtain⟨o',_,_,N,_⟩:=ns m U;exact{o',by rw[G];exact N}
  .exact{o,keep b o G e}
 .cases e0:H b with
  |some v=>
   have:v=u:=by
    have:=B b v e0;rw[e]at this;exact(zaD this).symm
   subst this;refine(I.hok b v e0).stay (λc v J q=>keep c v ?_ q) (λc q=>B c _ q) λc xs q=>B c _ q
   rcases J with z|z
   .rw[z];exact nl b _ e0
   .exact nl c _ z
  |none=>exact new b u e0 e
def kI(p:List Int×V):List Key×V:=(p.1.map zan,p.2)
def RX(ns:List Int):(ns.map (zan:Int->Key)).map kV=ns.map V.int:=by
 rw[zaI];rfl
def yJ(q:List<|List Int×V):Prop:=q.Pairwise λa b=>HT.lexLt a.1 b.1=cp
def yW:∀ {ns:List Int} {us:List Value},Vals (ns.map V.int) us->za8 us ns:=λr=>L2.intsAre_of r
def D2{X:Cx}{pins:List (Addr×Obj)}{σ:L2.St}{H:Hp}{s:zab}{d:Addr}{ps:List (List Int×V)}(I:Inv X pins σ H s)(hd:Rd H d<|.dT<|ps.map kI) :
  ps.length<=zal/\(d == za9)=cr/\(ps.map (·.1)).Nodup/\∃es ep,RawD s.heap d es ep/\es.size=ps.length/\∀(j:Nat) (p:List Int×V),ps[j]?=b4 p->∃(e:zbD) (b:Addr),es[j]?=b4 e/\e.key=.ref b/\H b=b4 (.tup<|p.1.map V.int)/\RelV p.2 e.val:=by
 obtain⟨z,y,xs,r,o,es,ep,h1,h2,N,J,G⟩:=(show ObjOk X.prog X.w H s.heap d (.dT<|ps.map kI)from hd.ok I.hok);have hl:xs.length=ps.length:=by rw[<- zbQ r,zaj]
 have F:es.size=ps.length:=by
  have:=congrArg zbI J;rw[zbg,zaj]at this
  lia
 have get:∀ {ps:List (List Int×V)} {xs:List (List Key×Addr×Value)},zaV (λ(p:List Key×V) (q:List Key×Addr×Value)=>p.1=q.1/\H q.2.1=b4 (.tup<|p.1.map kV)/\RelV p.2 q.2.2) (ps.map kI) xs->
   ∀(j:Nat) (p:List Int×V),ps[j]?=b4 p->∃q,xs[j]?=b4 q/\(kI p).1=q.1/\H q.2.1=b4 (.tup<|(kI p).1.map kV)/\RelV p.2 q.2.2:=by
  intro ps;induction ps with
  |nil=>intro xs r j p e;simp at e
  |cons p0 ps ih=>
   intro xs r j p e;rw[zak]at r;cases r with
   |cons h t=>
    cases j with
    |zero=>simp at e;subst e;exact{_,rfl,h}
    |succ j=>exact ih t j p<|by simpa using e
 have B:∀ {ps:List (List Int×V)} {xs:List (List Key×Addr×Value)},zaV (λ(p:List Key×V) (q:List Key×Addr×Value)=>p.1=q.1/\H q.2.1=b4 (.tup<|p.1.map kV)/\RelV p.2 q.2.2) (ps.map kI) xs->
   xs.map (·.1)=ps.map λp=>p.1.map zan:=by
  intro ps;induction ps with
  |nil=>intro xs r;rw[zbB]at r;cases r;rfl
  |cons p0 ps ih=>
   intro xs r;rw[zak]at r;cases r with
   |cons h t=>rw[zak,zak,ih t,<- h.1];rfl
 refine{by rw[zaj]at z;exact z,y,?_,es,ep,{o,h1,h2,N},F,λj p e=>?_}
 .rw[B r]at G
  have:(ps.map λp=>p.1.map (zan:Int->Key))=(ps.map (·.1)).map λns=>ns.map zan:=by rw[zaI];rfl
  rw[this]at G;exact List.Pairwise.of_map _ (λa b h e=>h<|by rw[e]) G
 .obtain⟨q,Y,e2,W,e4⟩:=get r j p e
  have U:es[j]?=b4 (entryOfKey (za4<|aT X.prog X.w) q):=by
   rw[<- zdb,J,zaq,Y];rfl
  exact{_,q.2.1,U,rfl,by rw[W];show b4 (HO.tup<|((p.1.map zan):List Key).map kV)=_;rw[RX],e4}
def O8(I:Inv X pins σ H s)(h:H b=b4 (.tup<|ns.map V.int)):TupI s.heap b ns:=by
 obtain⟨q,r,t,_⟩:=I.tuple<|SqT.of h;exact{q,t,yW r}
def y4(F:PermR ps.length p)(hs:fR (X7<|ps.map (·.1)) p ps.length) :
  (p.toList.map λi=>ps.getD i ([],.non)).Perm ps/\yJ (p.toList.map λi=>ps.getD i ([],.non)):=by
 have J:(zav ps.length).map (λi=>ps.getD i ([],.non))=ps:=by
  apply zdn
  .simp
  .intro i h1 h2
   simp[h2]
 constructor
 .have:=(Array.perm_iff_toList_perm.mp F).map λi=>ps.getD i (([],.non):List Int×V)
  rw[J]at this;exact this
 .unfold yJ
  rw[List.pairwise_map];rw[List.pairwise_iff_getElem];intro i j hi B q;have hsz:=F.size;rw[zbg]at hi B;have h1:=hs i j q (by lia);have g:∀k (z:k<p.size),p.getD k 0=p.toList[k]'(by rw[zbg];exact z):=λk z=>by simp[zc6,z]
  rw[g i hi,g j B]at h1;have G:∀k,(ps.map (·.1)).getD k []=(ps.getD k ([],.non)).1:=λk=>by
   by_cases h:k<ps.length
   .simp[h]
   .simp[Nat.le_of_not_lt h]
  unfold X7 at h1;rw[G,G]at h1;exact h1
end My
namespace My
open PySem.SeqAt PySem.W
theorem hJ{q z B:Type}{R:z->B->Prop}{f:q->z}{g:q->B}:∀(l:List q),(∀i∈l,R (f i)<|g i)->zaV R (l.map f) (l.map g)
 |[],_=>.nil
 |i::l,h=>.cons (h i<|zaw ..)<|hJ l λj F=>h j<|zax _ F
theorem oJ{B z:Type}{f:z->Value}{R:z->B->Prop}:∀(ps:List B) (vs:List Value),vs.length=ps.length->(∀(j:Nat) (p:B),ps[j]?=b4 p->∃b,vs[j]?=b4 (f b)/\R b p)->∃bs:List z,vs=bs.map f/\zaV R bs ps
 |[],[],_,_=>{[],rfl,.nil}
 |[],_::_,h,_=>by cases h
 |_::_,[],h,_=>by cases h
 |p::ps,v::vs,hl,h=>by
  obtain⟨b,e,r⟩:=h 0 p rfl;obtain⟨bs,J,G⟩:=oJ ps vs (by simpa using hl) λj q F=>h (j+1) q<|by simpa using F
  have:v=f b:=by simpa using e
  exact{b::bs,by rw[zak,<- J,this],.cons r G}
theorem rP{z q:Type}{R:z->q->Prop}:∀ {as:List z} {bs:List q},zaV R as bs->∀(j:Nat) (b:q),bs[j]?=b4 b->∃a,as[j]?=b4 a/\R a b
 |_,_,.nil,j,b,e=>by simp at e
 |_,_,.cons h t,0,b,e=>by simp at e;subst e;exact{_,rfl,h}
 |_,_,.cons h t,j+1,b,e=>rP t j b<|by simpa using e
section
variable {X:Cx}
def ET(el:Hp->V->List Int×V->Prop)(H:Hp)(ps:List<|List Int×V)(Q:VK):Prop:=
 ∀(l:Addr) (us:List V) (qs:List<|List Int×V) (H2:Hp),Same H H2->H l=cg->H2 l=b4 (.lst us)->zaV (el H2) us qs->qs.Perm ps->yJ qs->Q (.ref l) H2
def elP:Hp->V->List Int×V->Prop:=λH u q=>∃a b,u=.ref a/\H a=b4 (.tup [.ref b,q.2])/\H b=b4 (.tup<|q.1.map V.int)
def GS{pins:List (Addr×Obj)}{σ:L2.St}{H H1:Hp}{s:zab}{h1:Heap}{tk:Nat}{A:zas}{E:Value->zab->Prop}{Q:VK}{ps:List (List Int×V)}{as:List Addr}{el:Hp->V->List Int×V->Prop}{P:PySem.Fin->zab->Prop}
  (I:Inv X pins σ H s) (B:∀b o,s.heap.get? b=b4 o->h1.get? b=b4 o) (an:ps.length<64) (hn:(ps.map (·.1)).Nodup) (hl:as.length=ps.length)
  (G:∀b o,s.heap.get? b=b4 o->H1 b=H b) (N:∀b o,H1 b=b4 o->b<h1.objs.size)
  (Y:∀(b:Addr) (o:HO),H b=cg->H1 b=b4 o->∀(h':Heap) (H':Hp),(∀c u,c≠h1.objs.size->c≠X.env.locals->h1.get? c=b4 u->h'.get? c=b4 u)->ObjOk X.prog X.w H' h' b o)
  (ak:∀(j:Nat) (p:List Int×V) (a:Addr),ps[j]?=b4 p->as[j]?=b4 a->∀H',Same H1 H'->el H' (.ref a) p)
  (aj:2 <= ps.length -> ∀h':Heap, (∀b o, b≠h1.objs.size -> b≠X.env.locals -> h1.get? b = b4 o -> h'.get? b = b4 o) -> ∃κ, (∀Q':SortKind -> zab -> Prop, Q' κ {s with heap:=h', toks:=tk} -> wpAny (model X.prog X.w) A (keyKind' (as.map zao).toArray) Q' (λ_ _ => False) {s with heap:=h', toks:=tk}) /\
   ∀i j C,i<ps.length->j<ps.length->i≠j->C (X7 (ps.map (·.1)) i j) {s with heap:=h',toks:=tk}->kas_ask X.prog X.w A κ (as.map zao) i j C {s with heap:=h',toks:=tk})
  (q:ET el H ps Q) (hP:∀s',EP X pins σ Q (.ref h1.objs.size) s'->P (.done<|.ret .none) s') :
  wpAny (model X.prog X.w) A (zbc.«list.sort» {[.ref h1.objs.size],[]}) P E {s with heap:=h1.push<|za2 "list" (as.map zao).toArray 0,toks:=tk}:=by
 obtain⟨m,W,_⟩:=id I.loc;have F:(as.map zao).length=ps.length:=by rw[zaj,hl]
 have ai:X.env.locals<h1.objs.size:=by
  obtain⟨o,_,_,e,_⟩:=id W;exact zai<|B _ o e
 have ag:(h1.push<|za2 "list" (as.map zao).toArray 0).Ns X.env.locals m:=W.at' λo e=>zag _<|B _ o e
 have O:Ord (as.map zao).length<|X7<|ps.map (·.1):=by
  rw[F,<- zaj (f:=(·.1)) (as:=ps)];exact LH hn
 have ab:H h1.objs.size=cg:=by
  cases e:H h1.objs.size with
  |none=>rfl
  |some o=>
   obtain⟨ob,z⟩:=obj_some<|I.hok _ o e;exact absurd (zai<|B _ ob z)<|zbe _
 have aa:H1 h1.objs.size=cg:=by
  cases e:H1 h1.objs.size with
  |none=>rfl
  |some o=>exact absurd (N _ o e)<|zbe _
 refine LR (lt:=X7<|ps.map (·.1)) (n:=0) (L:=X.env.locals) (m:=m) (s:={s with heap:=h1.push<|za2 "list" (as.map zao).toArray 0,toks:=tk}) O ag (zau _ rfl) (zaK ai) (by rw[F];exact an) (λh2 h' k=>?_) λp h' c hp hs aq U ae=>?_
 .rw[F]at h2
  obtain⟨κ,k1,k2⟩:=aj h2 h' λb o hb hL e=>k b o hb hL<|zag _ e
  exact{κ,k1,λi j C hi hj=>k2 i j C (by rw[F]at hi;exact hi)<|by rw[F]at hj;exact hj}
 .rw[F]at hp hs
  obtain⟨g1,g2⟩:=y4 hp hs;have J:∀c u,c≠h1.objs.size->c≠X.env.locals->h1.get? c=b4 u->h'.get? c=b4 u:=λc u ap al e=>U c u ap al<|zag _ e
  have lt:∀i∈p.toList,i<ps.length:=λi hi=>by
   have:=(Array.perm_iff_toList_perm.mp hp).mem_iff.mp hi;simpa using this
  have ga:∀i,i<ps.length->as[i]?=b4 (as.getD i 0)/\ps[i]?=b4 (ps.getD i ([],.non))/\(as.map zao).getD i zaN=.ref (as.getD i 0):=λi hi=>by
   have h1:i<as.length:=by lia
   refine{by simp[h1],by simp[hi],by simp[h1]}
  have am:Same H<|upd H1 h1.objs.size<|.lst<|p.toList.map λi=>V.ref<|as.getD i 0:=λb o e=>by
   obtain⟨ob,z⟩:=obj_some<|I.hok b o e;rw[aF<|aP e ab,G b ob z];exact e
  have ah:Same H1<|upd H1 h1.objs.size<|.lst<|p.toList.map λi=>V.ref<|as.getD i 0:=BA aa;have I2:Inv X pins σ (upd H1 h1.objs.size<|.lst<|p.toList.map λi=>V.ref<|as.getD i 0) {s with heap:=h',toks:=tk}:=by
   refine LI I (λb o hL e=>J b o (λz=>absurd (zai<|B b o e)<|by rw[z];exact zbe _) hL<|B b o e) (λm' af=>?_) (λb o e=>?_) λb o n e=>?_
   .obtain⟨o1,bg,bl,e1,d1,r1⟩:=W
    obtain⟨o2,be,a3,e2,d2,r2⟩:=af;rw[e1]at e2;cases e2;rw[d1]at d2;injection d2 with d3 d4
    subst d3 d4;have:m=m':=funext λx=>by rw[<- r1.2 x,<- r2.2 x]
    rw[<- this];exact ae
   .rw[aF λz=>absurd (zai<|B b o e)<|by rw[z];exact zbe _]
    exact G b o e
   .by_cases hb:b=h1.objs.size
    .subst hb
     rw[aI]at e;cases e;refine{?_,_,c,?_,aq}
     .rw[zaj,zbg,hp.size,zcg]
      lia
     .show Vals _ (p.toList.map λi=>(as.map zao).getD i zaN)
      exact hJ p.toList λi hi=>by
       show(as.map zao).getD i zaN=zao (as.getD i 0);exact(ga i<|lt i hi).2.2
    .rw[aF hb]at e
     exact Y b o n e h' _ J
  refine hP _ {.ref h1.objs.size,_,I2,rfl,q _ _ _ _ am ab aI (hJ p.toList λi hi=>?_) g1 g2};obtain⟨a1,a2,_⟩:=ga i<|lt i hi;exact ak i _ _ a2 a1 _ ah
def UA{A:zas}{κ:SortKind}{as:List Addr}{i j:Nat}{C:Bool->zab->Prop}{s:zab}(hi:i<as.length)(z:j<as.length)(h:wpAny (model X.prog X.w) A (keyLt' κ (.ref<|as.getD i 0)<|.ref<|as.getD j 0) C (λ_ _=>False) s):kas_ask X.prog X.w A κ (as.map zao) i j C s:=by
 unfold kas_ask;have q:(as.map zao).getD i zaN=.ref (as.getD i 0):=by simp[hi]
 have B:(as.map zao).getD j zaN=.ref (as.getD j 0):=by simp[z]
 rw[q,B];exact h
theorem rW:∀ {as:List Addr} {fs:List Value},zaV (λa f=>∃q:List Value,IsTup h a q.toArray/\q[0]?=b4 f) as fs->KatTups h (as.map zao) fs
 |_,_,.nil=>.nil
 |_,_,.cons ⟨q,⟨o,e,c,n,d⟩,z⟩ t=>KatTups.cons e c d (by simpa using z)<|rW t
def NL:V->List V->Hp->VK->Prop:=λx vs H Q=>∃d kvs,x=.ref d/\vs=[]/\Rd H d (.dT kvs)/\∀r,H r=cg->Q (.ref r) (upd H r<|.ext λh=>h.IsItemsView r d)
def L6:MtM X "dict.items" NL:=by
 intro pins s σ H x vs v us Q I U N h;obtain⟨d,kvs,rfl,rfl,hd,q⟩:=h;cases U;have B:=N.zero;subst B;obtain⟨z,y,xs,r,o,es,ep,h1,h2,h3,_⟩:=(show ObjOk X.prog X.w H s.heap d (.dT kvs)from hd.ok I.hok);have G:s.TypeIs (.ref d) "dict" := {o,h1,h2.1};refine zbd PySem.F.slot_dict_items G PySem.F.entry_dict_items ?_<|PySem.F.args_dict_items_1 _;unfold zbc.«dict.items»;refine zaa ?_;unfold Builtin.Dict.noArgs;refine zaa<|zd1 G ?_;show wpAny _ _ (pure d) _ _ s;refine zac ?_;show wpAny _ _ (zdp d >>= _) _ _ s;unfold zdp;rw[cx<|by rw[y];exact zat];refine zaa<|zac<|zaa<|zbq<|zac {_,rfl,?_};have Y:H s.heap.objs.size=cg:=I.fresh;refine{.ref s.heap.objs.size,_,I.laid (t':=s.toks) (o:=.ext λh=>h.IsItemsView s.heap.objs.size d) (λ_ _ q=>zag _ q) (zam _) {{_,zau _ rfl,rfl,rfl},{_,zau _ rfl},λa b ⟨o,J,W⟩ k=>{o,k o J,W}},rfl,q _ Y}
def JG(H:Hp)(as:List Addr)(ds:List<|List V):Hp:=λb=>match as.findIdx? (λa=>decide (a=b))with
 |some j=>b4<|.tup<|ds.getD j []
 |none=>H b
def mD(h:¬ b∈as):JG H as ds b=H b:=by
 unfold JG;have:as.findIdx? (λa=>decide (a=b))=cg:=by
  rw[List.findIdx?_eq_none_iff];intro a q;exact decide_eq_false λe=>h<|e ▸ q
 rw[this]
def EN(h:b∈as):∃j,as[j]?=b4 b/\JG H as ds b=b4 (.tup<|ds.getD j []):=by
 unfold JG;cases e:as.findIdx? (λa=>decide (a=b))with
 |none=>
  rw[List.findIdx?_eq_none_iff]at e;have:=e b h;simp at this
 |some j=>
  rw[List.findIdx?_eq_some_iff_getElem]at e;obtain⟨h1,h2,_⟩:=e;exact{j,by rw[zaH h1,of_decide_eq_true h2],rfl}
def wW(hc:X.calm=cp)(hu:X.A.units+64<cLine):CallR X (.builtin "sorted") λxs H Q=>∃r d ps,xs=[.ref r]/\H r=b4 (.ext λh=>h.IsItemsView r d)/\Rd H d (.dT<|ps.map kI)/\ps.length<64/\ET elP H ps Q:=by
 intro pins s σ H xs us Q I rr h;obtain⟨r,d,ps,rfl,hr,hd,a5,q⟩:=h;obtain⟨u,rfl,ru⟩:=vals1 rr;cases ru;obtain⟨hz,cj,am,es,ep,a3,an,al⟩:=D2 I hd;have hv:s.heap.IsItemsView r d:=(I.hok r _ hr).1;have nL:∀ {b:Addr} {o:HO},H b=b4 o->b≠X.env.locals:=λe z=>by rw[z,I.free]at e;cases e
 refine Calls.call_function_entry kind_sorted plain_sorted entry_sorted (args_sorted1 _) ?_;unfold zbc.«sorted»;refine zaa (m:=checkCount "sorted" 1 1 _)<|zac<|zaa<|wX (I.ok.hd hc) hv a3 (by rw[an];exact hz) λh1 tk as G a4 ad=>?_;have B:as.length=ps.length:=by rw[a4,an]
 obtain⟨bs,ba,aq⟩:=oJ (f:=zao) (R:=λb (p:List Int×V)=>H b=b4 (.tup<|p.1.map V.int)) ps (es.toList.map (·.key)) (by rw[zaj,zbg,an]) λj p hp=>by
  obtain⟨e,b,e1,Y,e3,_⟩:=al j p hp;exact{b,by rw[zaq,zdb,e1];exact congrArg b4 Y,e3}
 have ao:bs.length=ps.length:=zbQ aq
 -- the j-th pair
 have F:∀(j:Nat) (p:List Int×V),ps[j]?=b4 p->∃a b v,as[j]?=b4 a/\bs[j]?=b4 b/\H b=b4 (.tup<|p.1.map V.int)/\RelV p.2 v/\s.heap.objs.size<a/\h1.get? a=b4 {cls:=.type "tuple",data:=.seq #[.ref b,v]}:=λj p hp=>by
  obtain⟨e,b,e1,Y,e3,e4⟩:=al j p hp;have J:j<ps.length:=(List.getElem?_eq_some_iff.mp hp).1;obtain⟨b',f1,f2⟩:=rP aq j p hp;have au:as[j]?=b4 (as[j]'(by lia)):=zaH (by lia);obtain⟨e',g1,g2⟩:=ad.pair j _ au;rw[e1]at g1;cases g1;have hb:b=b':=by
   have z:(es.toList.map (·.key))[j]?=b4 (.ref b):=by rw[zaq,zdb,e1];exact congrArg b4 Y
   rw[ba,zaq,f1]at z;have:=zaD z;injection this with this
   exact this.symm
  subst hb;exact{_,b,e.val,au,f1,e3,e4,ad.above _<|zdw _,by rw[g2,Y]}
 have ae:∀(i j:Nat) (a:Addr),as[i]?=b4 a->as[j]?=b4 a->i=j:=λi j a hi J=>by
  have li:i<ps.length:=by rw[<- B];exact(List.getElem?_eq_some_iff.mp hi).1
  have lj:j<ps.length:=by rw[<- B];exact(List.getElem?_eq_some_iff.mp J).1
  obtain⟨a1,b1,v1,N,_,x2,_,_,x3⟩:=F i _<|zaH li;obtain⟨a2,b2,v2,y1,_,U,_,_,y3⟩:=F j _<|zaH lj;rw[hi]at N;cases N;rw[J]at y1;cases y1;rw[x3]at y3;injection y3 with y3
  injection y3 with _ _ y3 _
  injection y3 with y3 _
  have hb:b1=b2:=by
   have:=congrArg (λz:Array Value=>z[0]?) y3;simpa using this
  subst hb;rw[x2]at U;injection U with U
  injection U with U
  have:ps[i].1=ps[j].1:=by
   have inj:∀ {a b:List Int},a.map V.int=b.map V.int->a=b:=by
    intro a;induction a with
    |nil=>intro b h;cases b with
     |nil=>rfl
     |cons _ _=>cases h
    |cons x xs ih=>intro b h;cases b with
     |nil=>cases h
     |cons y ys=>
      rw[zak,zak]at h;injection h with h1 h2
      injection h1 with h1
      rw[h1,ih h2]
   exact inj U
  have e1:(ps.map (·.1))[i]'(by rw[zaj];exact li)=(ps.map (·.1))[j]'(by rw[zaj];exact lj):=by simpa using this
  exact(zcT am).mp e1
 have ax:∀(j:Nat) (p:List Int×V) (b:Addr),ps[j]?=b4 p->bs[j]?=b4 b->((bs.zip ps).map λx=>[V.ref x.1,x.2.2]).getD j []=[V.ref b,p.2]:=λj p b h1 h2=>by
  have:((bs.zip ps).map λx=>[V.ref x.1,x.2.2])[j]?=b4 [V.ref b,p.2]:=by
   rw[zaq,(List.getElem?_zip_eq_some (z:=(b,p))).mpr {h2,h1}];rfl
  simp[zc3,this]
 have ak:∀b o,s.heap.get? b=b4 o->¬ b∈as:=λb o e hb=>absurd (zai e)<|Nat.not_lt.mpr<|zdF<|ad.above b hb
 have aw:Same H<|JG H as<|(bs.zip ps).map λx=>[V.ref x.1,x.2.2]:=λb o e=>by
  obtain⟨ob,z⟩:=obj_some<|I.hok b o e;rw[mD<|ak b ob z];exact e
 refine zaa (zee ?_<|by rw[zaj,B];exact hz);have bc:(h1.push<|za2 "list" (as.map zao).toArray 0).get? h1.objs.size=b4 (za2 "list" (as.map zao).toArray 0):=zau _ rfl;show wpAny _ _ _ _ _ {s with heap:=h1.push<|za2 "list" (as.map zao).toArray 0,toks:=tk};refine zaa<|zbn<|zbd slot_list_sort {_,bc,rfl} entry_list_sort ?body<|args_list_sort _
 case body=>
  refine GS (H1:=JG H as<|(bs.zip ps).map λx=>[V.ref x.1,x.2.2]) (el:=elP) (Q:=Q) I G a5 am B (λb o e=>mD<|ak b o e) (λb o e=>?_) (λb o n e h' H' k=>?_) (λj p a hp ha H' sm=>?_) (λh2 h' k=>?_) q λs' hE=>{_,rfl,zac {_,rfl,hE}}
  .by_cases hb:b∈as
   .obtain⟨j,J⟩:=List.mem_iff_getElem?.mp hb
    have lj:j<ps.length:=by rw[<- B];exact(List.getElem?_eq_some_iff.mp J).1
    obtain⟨a,b',v,N,_,_,_,_,x3⟩:=F j _<|zaH lj;rw[J]at N;cases N;exact zai x3
   .rw[mD hb]at e
    obtain⟨ob,z⟩:=obj_some<|I.hok b o e;exact zai<|G b ob z
  .have hb:b∈as:=Classical.byContradiction λz=>by rw[mD z,n]at e;cases e
   obtain⟨j,J,Y⟩:=EN (H:=H) (ds:=(bs.zip ps).map λx=>[V.ref x.1,x.2.2]) hb;rw[Y]at e;cases e;have lj:j<ps.length:=by rw[<- B];exact(List.getElem?_eq_some_iff.mp J).1
   obtain⟨a,b',v,N,x2,_,x4,x5,x3⟩:=F j _<|zaH lj;rw[J]at N;cases N;rw[ax j _ b' (zaH lj) x2];have ar:b≠X.env.locals:=zaK<|zcM I.lt x5;exact{by show 2<=zal;decide,[.ref b',v],.cons rfl<|.cons x4 .nil,_,k b _ (zaB<|zai x3) ar x3,rfl,0,rfl,rfl}
  .obtain⟨a',b,v,N,x2,x3,x4,_,_⟩:=F j p hp
   rw[ha]at N;cases N;obtain⟨j',bg,Y⟩:=EN (H:=H) (as:=as) (ds:=(bs.zip ps).map λx=>[V.ref x.1,x.2.2])<|zaA ha;have:=ae j' j a bg ha;subst this;rw[ax j' p b hp x2]at Y;exact{a,b,rfl,sm _ _ Y,sm _ _<|aw _ _ x3}
  .have pI:∀(j:Nat) (p:List Int×V),ps[j]?=b4 p->∃a b v,as[j]?=b4 a/\bs[j]?=b4 b/\GJ h' a b v p.1:=λj p hp=>by
    obtain⟨a,b,v,N,x2,x3,x4,x5,x6⟩:=F j p hp;refine{a,b,v,N,x2,{_,k a _ (zaB<|zai x6) (zaK<|zcM I.lt x5) x6,rfl,0,rfl},(O8 I x3).at' λo e=>k b o ?_ (nL x3)<|G b o e};exact λz=>absurd (zai<|G b o e)<|by rw[z];exact zbe _
   refine{tuples'<|zcq "tuple" != zcq "tuple",λQ' q'=>?_,λi j C hi J bh hC=>?_}
   .have pr:zaV (λa (f:Value)=>∃W:List Value,IsTup h' a W.toArray/\W[0]?=b4 f) as<|bs.map zao:=by
     have:∀ {as bs:List Addr} {ps:List (List Int×V)},as.length=ps.length->bs.length=ps.length->(∀(j:Nat) (p:List Int×V),ps[j]?=b4 p->∃a b v,as[j]?=b4 a/\bs[j]?=b4 b/\GJ h' a b v p.1)->zaV (λa (f:Value)=>∃W:List Value,IsTup h' a W.toArray/\W[0]?=b4 f) as (bs.map zao):=by
      intro as;induction as with
      |nil=>intro bs ps h1 h2 _;cases ps with
       |nil=>cases bs with
        |nil=>exact .nil
        |cons _ _=>cases h2
       |cons _ _=>cases h1
      |cons a as ih=>intro bs ps h1 h2 h3;cases ps with
       |nil=>cases h1
       |cons p ps=>cases bs with
        |nil=>cases h2
        |cons b bs=>
         obtain⟨a',b',v,y1,U,y3,_⟩:=h3 0 p rfl;have e1:a'=a:=by simpa using y1.symm
         have Y:b'=b:=by simpa using U.symm
         subst e1 Y;exact .cons {[.ref b',v],y3,rfl}<|ih (by simpa using h1) (by simpa using h2) λj q hq=>h3 (j+1) q<|by simpa using hq
     exact this B ao pI
    refine kat_kind (s:={s with heap:=h',toks:=tk}) (rW pr) (by rw[zaj,ao];lia) (λv hv=>?_) (by decide) q';obtain⟨b,hb,rfl⟩:=List.mem_map.mp hv;obtain⟨j,J⟩:=List.mem_iff_getElem?.mp hb;have lj:j<ps.length:=by rw[<- ao];exact(List.getElem?_eq_some_iff.mp J).1
    obtain⟨a,b',v,_,U,_,W,⟨o,e1,Y,_⟩,_⟩:=pI j _<|zaH lj;rw[J]at U;cases U;rw[<- Y];exact(show Looks _ h' (typeOf<|.ref b) o.cls from(Looks.ld e1).andThen .now)
   .refine UA (by lia) (by lia) ?_
    obtain⟨x,b1,v1,N,_,x2⟩:=pI i _<|zaH hi;obtain⟨y,b2,v2,y1,_,U⟩:=pI j _<|zaH J;have ex:as.getD i 0=x:=by simp[zc3,N]
    have ey:as.getD j 0=y:=by simp[zc3,y1]
    rw[ex,ey];have az:ps[i].1≠ps[j].1:=λz=>bh (by
     have e1:(ps.map (·.1))[i]'(by rw[zaj];exact hi)=(ps.map (·.1))[j]'(by rw[zaj];exact J):=by simpa using z
     exact(zcT am).mp e1)
    refine HG (s:={s with heap:=h',toks:=tk}) x2 U az (by show X.A.units+1+1<cLine;lia) ?_;unfold X7 at hC;have k1:(ps.map (·.1)).getD i []=ps[i].1:=by simp[hi]
    have k2:(ps.map (·.1)).getD j []=ps[j].1:=by simp[J]
    rw[k1,k2]at hC;exact hC
end
def G8{prog:zap}{w:World}{A:zas}{E:Value->zab->Prop}{s:zab}{t z:Addr}{items:Array Value}{J N:Value}{lo hi:Option Int}{Q:Value->zab->Prop}(q:IsTup s.heap t items)(hs:s.heap.IsSliceOf z J N .none)(pl:zb0 J lo)(Y:zb0 N hi)
  (hw:HT.sIx items.size 0 lo=0/\HT.sIx items.size items.size hi=items.size) (h:Q (.ref t) s):wpAny (model prog w) A (zb1 (.ref t)<|.ref z) Q E s:=by
 obtain⟨os,F,B,U⟩:=id hs;have W:s.TypeIs (.ref z) "slice" := {os,F,B};unfold zb1;try with_reducible refine zbn ?_
 first|refine zaa (zac ?_)|skip
 refine zaa<|wpAny_sequenceKey q.typeIs (by decide) ?_;refine zaa<|zbw (name:=zaZ "__getitem__") q.typeIs zdS<|zbd zdS q.typeIs entry_tuple_getitem ?_<|args_tuple_getitem _ _;show wpAny _ _ (Builtin.Tuple.tupleItemsOf (.ref t) >>= _) _ _ s;refine zaa<|tupleItemsOf_ q<|zaa<|zcu W ?_;rw[cw<|by decide];refine zaa<|HT.gD hs pl Y ?_;have G:(((HT.sIx items.size 0 lo:Nat):Int) == 0 && (1:Int) == 1 && (HT.sIx items.size items.size hi-HT.sIx items.size 0 lo) == items.size)=cp:=by
  rw[hw.1,hw.2];simp
 show wpAny _ _ (if(((HT.sIx items.size 0 lo:Nat):Int) == 0 && (1:Int) == 1 && (HT.sIx items.size items.size hi-HT.sIx items.size 0 lo) == items.size)=cp then _ else _) _ _ s;rw[cw G];refine zaa (m:=Builtin.Tuple.tupleIsExact _) ?_;unfold Builtin.Tuple.tupleIsExact;refine zaa<|zcu q.typeIs<|zac ?_;rw[cw<|by decide];exact zaa<|zbV<|zac {_,rfl,zac h}
section
variable {X:Cx}
def qu(K:zaf):V->Option Int->Option Int->Hp->VK->Prop:=λx lo hi H Q=>∃a xs,x=.ref a/\SqT K H a xs/\(HT.sIx xs.length 0 lo=0/\HT.sIx xs.length xs.length hi=xs.length)/\Q (.ref a) H
def RE:SlR X<|qu X.K:=by
 intro pins s σ H x v Y vu lo hi W Q I N hs U J h;obtain⟨a,xs,rfl,G,hw,q⟩:=h;cases N;obtain⟨B,r,F,hz⟩:=I.tuple G;have z:B.toArray.size=xs.length:=by rw[zaC];exact r.length.symm
 exact{"tuple",_,PyProof.Rows.slot_tuple_getitem.lookup,F.typeIs,G8 F hs U J (by rw[z];exact hw) {.ref a,H,I,rfl,q}}
def QC:SlR X λx lo hi H Q=>qq X.K x lo hi H Q\/qu X.K x lo hi H Q:=WV.or RE
end
def uE(x:ObjOk P w H h d<|.dT kvs):(d == za9)=cr/\kvs.length<=zal/\∃es ep,RawD h d es ep/\es.size=kvs.length /\
  ∀(j:Nat) (p:List Key×V),kvs[j]?=b4 p->∃(e:zbD) (b:Addr),es[j]?=b4 e/\e.key=.ref b/\H b=b4 (.tup<|p.1.map kV)/\RelV p.2 e.val/\e.hash=(za4<|aT P w).hash p.1:=by
 obtain⟨z,y,xs,r,o,es,ep,h1,h2,G,F,h5⟩:=x;have hl:xs.length=kvs.length:=(zbQ r).symm;have B:es.size=kvs.length:=by
  have:=congrArg zbI F;rw[zbg,zaj]at this
  lia
 have get:∀ {kvs:List (List Key×V)} {xs:List (List Key×Addr×Value)},zaV (λ(p:List Key×V) (q:List Key×Addr×Value)=>p.1=q.1/\H q.2.1=b4 (.tup<|p.1.map kV)/\RelV p.2 q.2.2) kvs xs->
   ∀(j:Nat) (p:List Key×V),kvs[j]?=b4 p->∃q,xs[j]?=b4 q/\p.1=q.1/\H q.2.1=b4 (.tup<|p.1.map kV)/\RelV p.2 q.2.2:=by
  intro kvs xs r;induction r with
  |nil=>intro j p e;simp at e
  |cons h t ih=>
   intro j p e;cases j with
   |zero=>simp at e;subst e;exact{_,rfl,h}
   |succ j=>exact ih j p<|by simpa using e
 refine{y,z,es,ep,{o,h1,h2,G},B,λj p e=>?_};obtain⟨q,U,W,N,Y⟩:=get r j p e;have J:es[j]?=b4 (entryOfKey (za4<|aT P w) q):=by
  rw[<- zdb,F,zaq,U];rfl
 exact{_,q.2.1,J,rfl,N,Y,by show(za4<|aT P w).hash q.1=_;rw[W]}
def ItD(d:Addr)(o:Obj)(kvs:List<|List Key×V):It:=
 {λi H=>H d=b4 (.frz o<|.dT kvs)/\i<kvs.length,λi H x H'=>H'=H/\∃k v b,kvs[i]?=b4 (k,v)/\x=.ref b/\H b=b4 (.tup<|k.map kV),λi H=>H d=b4 (.frz o<|.dT kvs)/\kvs.length<=i}
def IS{P:zap}{w:World}{K:zaf}{tg:Expr}(d it:Addr)(o:Obj)(kvs:List<|List Key×V)(es:Array zbD)(ep:Nat)(hd:o.data=.dict es ep)(ay:es.size=kvs.length):Turn P w K tg (ItD d o kvs) [it] it (λi h=>h.IsKeyIter it d i es.size ep) where
 mem:=by simp
 obj:=λi h st b B=>by
  have e:b=it:=by simpa using B
  subst e;obtain⟨o,U,e2,e3⟩:=st;exact{o,U,λv z=>by rw[e3]at z;cases z}
 keep:=λi h h' st k=>st.at λo e=>k it (by simp) o e
 item:=by
  intro X hP hw hK hc i pins s σ H E I W st hg;subst hP hw hK;obtain⟨h1,h2⟩:=hg;obtain⟨N,g2⟩:=(show ObjOk X.prog X.w H s.heap d (.frz o<|.dT kvs)from I.hok d _ h1);obtain⟨_,_,am,ab,⟨o',G,r2,r3⟩,F,q⟩:=uE g2;rw[N]at G;cases G;rw[hd]at r3;injection r3 with r4 r5
  subst r4 r5;obtain⟨f0,f1,f2,Y,f4,f5⟩:=W it (by simp);have hi:i<es.size:=by lia
  refine AU st {o,N,r2,hd} hi λh' J sb=>?_
  have I1:Inv X pins σ H {s with heap:=h'}:=I.turned (t':=s.toks) (λb o B e=>(sb.2 b B).trans e) f0 f1 Y f4 f5;obtain⟨e,b,U,e2,e3,_⟩:=q i _<|zaH h2;have ee:es[i]=e:=by
   rw[zd6 hi]at U;exact zaD U
  obtain⟨o2,q1,q2,q3⟩:=id J;refine{_,rfl,pN (s:={s with heap:=h'}) (n := "dict_keyiterator") q1 q2 q3 (by decide) {.ref b,H,I1,?_,{rfl,kvs[i].1,kvs[i].2,b,zaH h2,rfl,e3},J,λc B=>(W c B).1}};rw[ee,e2];rfl
 done:=by
  intro X hP hw hK hc i pins s σ H E I W st hg;subst hP hw hK;obtain⟨h1,h2⟩:=hg;obtain⟨N,g2⟩:=(show ObjOk X.prog X.w H s.heap d (.frz o<|.dT kvs)from I.hok d _ h1);obtain⟨_,_,am,ab,⟨o',G,r2,r3⟩,F,q⟩:=uE g2;rw[N]at G;cases G;obtain⟨f0,f1,f2,Y,f4,f5⟩:=W it (by simp);exact EK (I.ok.hd hc) st {o,N,r2,hd} (by lia) λh' eb=>{rfl,I.turned (t':=s.toks) (λb o B e=>eb b o B e) f0 f1 Y f4 f5}
 self:=λ_ _ _ _ _ st h=>wpAny_pyIter_keyiter st h
def DC(I:Inv X pins σ H s)(B:H d=b4 (.dT kvs))(G:s.heap.get? d=b4 o):Inv X pins σ (upd H d<|.frz o<|.dT kvs) s:=by
 have ne:∀b u,H b=b4 u->(∀z,u≠.dT z)->b≠d:=λb u e n z=>by
  subst z;rw[B]at e;exact n kvs (zaD e).symm
 have J:=I.un (h':=s.heap) (t':=s.toks) (H':=upd H d<|.frz o<|.dT kvs) ⟨λb u q _ _ _=>q,λb u q _ _ _=>{u.slots,q},λb u q n _=>by rw[aF λz=>by rw[z,B]at n;cases n];exact n,λb u q _=>{u,q},
  λb xs q=>by rw[aF<|ne b _ q λz h=>by cases h];exact q,λb u xs q=>by rw[aF<|ne b _ q λz h=>by cases h];exact q,λb ps q=>{#[],by rw[aF (ne b _ q λz h=>by cases h),q];simp}⟩ (λb u e=>?_)
 .exact J
 .have st:∀ {b:Addr} {u:HO},ObjOk X.prog X.w H s.heap b u->ObjOk X.prog X.w (upd H d<|.frz o<|.dT kvs) s.heap b u:=λx=>x.stay (λ_ _ _ q=>q) (λc q=>by rw[aF<|ne c _ q λz h=>by cases h];exact q) λc xs q=>by rw[aF<|ne c _ q λz h=>by cases h];exact q
  by_cases F:b=d
  .subst F
   rw[aI]at e;cases e;exact{G,st<|I.hok b _ B}
  .rw[aF F]at e
   exact st<|I.hok b u e
def HU{M:Model}{A:zas}{E:Value->zab->Prop}{s:zab}{b:Addr}{Q:Bool->zab->Prop}{prog:zap}{w:World}(hT:s.TypeIs (.ref b) "tuple")(h:Q cr s):wpAny (model prog w) A (Builtin.Dict.quietEq<|.ref b) Q E s:=by
 unfold Builtin.Dict.quietEq;exact zaa<|zeZ hT PySem.F.slot_tuple_eq.lookup<|zac h
def KZ{prog:zap}{w:World}{A:zas}{E:Value->zab->Prop}{s:zab}{d:Addr}{es:Array zbD}{ep:Nat}{Q:Value->zab->Prop}(lo:(d == za9)=cr)(N:RawD s.heap d es ep)(hsz:es.size<=zal)
  (B:∀e∈es.toList,∃b,e.key=.ref b/\s.TypeIs (.ref b) "tuple") (hh:∀e∈es.toList,(es.filter (·.hash == e.hash)).size<=1)
  (h:∀h' ac,RawD h' s.heap.objs.size es ac->zaT s.heap.objs.size (s.heap.push {cls:=.type "dict",data:=.dict #[]}) h'->Q (.ref s.heap.objs.size) {s with heap:=h'}):wpAny (model prog w) A (call (.type "dict") [.ref d]) Q E s:=by
 refine callType_codes (Q₁:=λJ G=>J=.ref s.heap.objs.size/\G={s with heap:=s.heap.push {cls:=.type "dict",data:=.dict #[]} }) PySem.F.kt_called_dict (PySem.F.kt_typeCall_dict_1 _) PySem.F.entry_dict_init (kt_code_dict_new _ {rfl,rfl}) ?_;rintro J G ⟨rfl,rfl⟩;have U:(s.heap.push {cls:=.type "dict",data:=.dict #[]}).get? s.heap.objs.size=b4 {cls:=.type "dict",data:=.dict #[]}:=zau _ rfl;have r2:RawD (s.heap.push {cls:=.type "dict",data:=.dict #[]}) d es ep:=N.at' λo e=>zag _ e
 have t1:zec {s with heap:=s.heap.push {cls:=.type "dict",data:=.dict #[]} } (.ref s.heap.objs.size) "dict" := {_,U,rfl};have t2:zec {s with heap:=s.heap.push {cls:=.type "dict",data:=.dict #[]} } (.ref d) "dict" := r2.typ;have ab:s.heap.objs.size≠d:=by
  obtain⟨o,e,_⟩:=N;exact λz=>absurd (zai e)<|by rw[z];exact zbe _
 refine{t1,PySem.F.args_dict_init_2 _ _,?_};unfold zbc.«dict.__init__»;refine zaa ?_;unfold Builtin.Dict.selfAndRest;refine zaa<|zd1 t1 ?_;show wpAny _ _ (pure (s.heap.objs.size,[zao d])) _ _ _;refine zac ?_;show wpAny _ _ (zef "dict.__init__" s.heap.objs.size (.ref d) [] .none) _ _ _;unfold zef;refine zaa<|zcu t2 ?_;rw[cx<|by decide];refine zaa ?_;unfold Builtin.Dict.merge;refine zaa ?_;unfold Builtin.Dict.readDirectly;refine zaa<|zc9 t2 isSubtype_dict_dict ?_;simp only[Bool.not_true,zb5,if_false];refine zaa<|zeZ t2 PySem.F.slot_dict_iter.lookup<|zac ?_;simp only[beq_self_eq_true,if_true];refine zaa<|zac ?_;obtain⟨o,Y,g2,W⟩:=r2;unfold Builtin.Dict.mergeDict;rw[cx<|by simpa using ab];unfold zdp;rw[cx<|by rw[lo];exact zat];refine zaa<|zac<|zaa<|zb3 Y W ?_;dsimp only;by_cases z:es.size=0
 .have z':es=#[]:=Array.eq_empty_of_size_eq_zero z
  subst z';rw[cx<|by simp];refine zaa<|zcP Y W<|zaa<|zb3 Y W ?_;rw[Std.Legacy.Range.forIn_eq_forIn_range'];refine zaa<|zac<|zac<|zaa<|zac<|zac {rfl,?_};exact h _ _ {_,U,{rfl,rfl,rfl},rfl}<|ze6 _ _
 .have ag:(!(decide (es.size<=8) && es.all λe=>(keyPart e.key).isSome))=cp:=by
   have:(es.all λe=>(keyPart e.key).isSome)=cr:=by
    rw[zc2];intro q;rw[Array.all_eq_true']at q;obtain⟨b,e1,_⟩:=B (es[0]'(by lia)) (by simp);have:=q (es[0]'(by lia)) (by simp);rw[e1]at this;exact absurd this<|by simp[keyPart]
   rw[this];simp
  rw[cw ag];refine zaa<|zb3 U rfl ?_;rw[cw<|by rfl];refine zaa ?_;unfold Builtin.Dict.entriesForEmpty;refine zaa<|zb3 Y W ?_;rw[<- Array.forIn_toList];refine zaa<|zeP _ (λrest _ s'=>s'={s with heap:=s.heap.push {cls:=.type "dict",data:=.dict #[]} }/\∀e∈rest,e∈es.toList) _ ?_ ?_ _ _ {rfl,λe he=>he}
  .rintro e rest b s' ⟨rfl,hm⟩
   have he:=hm e<|zaw ..;obtain⟨b',e1,⟨o',e2,e3⟩⟩:=B e he;rw[e1];refine zaa<|HU (M:=model prog w) {o',zag _ e2,e3} ?_;simp only[Bool.not_false,if_true];rw[cx<|by have:=hh e he;lia];exact zac {rfl,λe' ad=>hm e'<|zax _ ad}
  .rintro b s' ⟨rfl,_⟩
   refine zac ?_;have ne:(!es.isEmpty)=cp:=by
    cases q:es.isEmpty with
    |false=>rfl
    |true=>exact absurd (by rw[Array.isEmpty_iff.mp q];rfl) z
   rw[cw ne];refine zaa (wpAny_updateDictKeysTo U rfl (zac<|zaa<|zac<|zac {rfl,?_})<|by lia);exact h _ _ {_,zbU _ U rfl,{rfl,rfl,rfl},rfl}<|zck ..
theorem rV{q:Type}{f:q->Int}{c:Int}:∀(l:List q),(l.map f).Nodup->(l.filter λx=>f x == c).length<=1
 |[],_=>by simp
 |x::l,h=>by
  rw[zak,zdx]at h;have ih:=rV (c:=c) l h.2;rw[zdW];by_cases e:(f x == c)=cp
  .rw[cw e]
   have ex:f x=c:=by simpa using e
   have:l.filter (λx=>f x == c)=[]:=by
    rw[List.filter_eq_nil_iff];intro y B z;exact h.1<|List.mem_map.mpr {y,B,by rw[ex];simpa using z}
   rw[this];simp
  .rw[cx e]
   exact ih
section
variable {X:Cx}
def C9:CallR X (.type "dict") λxs H Q=>∃d kvs,xs=[.ref d]/\Rd H d (.dT kvs)/\(kvs.map λp=>(za4<|aT X.prog X.w).hash p.1).Nodup/\∀p,H p=cg->Q (.ref p) (upd H p<|.dT kvs):=by
 intro pins s σ H xs us Q I r h;obtain⟨d,kvs,rfl,hd,ab,q⟩:=h;obtain⟨u,rfl,ru⟩:=vals1 r;cases ru;obtain⟨z,y,xs,B,o,es,ep,h1,h2,h3,N,h5⟩:=(show ObjOk X.prog X.w H s.heap d (.dT kvs)from hd.ok I.hok);have ak:es.size=kvs.length:=by
  have:=congrArg zbI N;rw[zbg,zaj]at this;have e:=zbQ B
  lia
 have G:es.toList.map (·.hash)=kvs.map λp=>(za4<|aT X.prog X.w).hash p.1:=by
  rw[N,zaI];have:∀ {kvs:List (List Key×V)} {xs:List (List Key×Addr×Value)},zaV (λ(p:List Key×V) (q:List Key×Addr×Value)=>p.1=q.1/\H q.2.1=b4 (.tup<|p.1.map kV)/\RelV p.2 q.2.2) kvs xs->
    xs.map ((·.hash) ∘ entryOfKey (za4<|aT X.prog X.w))=kvs.map λp=>(za4<|aT X.prog X.w).hash p.1:=by
   intro kvs xs r;induction r with
   |nil=>rfl
   |cons h t ih=>rw[zak,zak,ih,h.1];rfl
  exact this B
 have tup:∀ {kvs:List (List Key×V)} {xs:List (List Key×Addr×Value)},zaV (λ(p:List Key×V) (q:List Key×Addr×Value)=>p.1=q.1/\H q.2.1=b4 (.tup<|p.1.map kV)/\RelV p.2 q.2.2) kvs xs->∀x∈xs,∃k:List V,H x.2.1=b4 (.tup k):=by
  intro kvs xs r;induction r with
  |nil=>intro x F;exact nomatch F
  |cons h t ih=>
   intro x F;rcases List.mem_cons.mp F with e|e
   .rw[e];exact{_,h.2.1}
   .exact ih x e
 refine KZ y {o,h1,h2,h3} (by lia) (λe he=>?_) (λe he=>?_) λh' U J sb=>?_
 .rw[N]at he
  obtain⟨x,F,rfl⟩:=List.mem_map.mp he;obtain⟨k,hk⟩:=tup B x F;obtain⟨aj,_,⟨ob,W,Y,_⟩,_⟩:=I.tuple<|SqT.of hk;exact{x.2.1,rfl,ob,W,Y}
 .have:=rV (f:=(·.hash)) (c:=e.hash) es.toList (by rw[G];exact ab)
  rw[<- zbg,Array.toList_filter];exact this
 .have hn:H s.heap.objs.size=cg:=I.fresh
  obtain⟨o',W,Y,e3⟩:=J;refine{.ref s.heap.objs.size,_,I.laid (t':=s.toks) (o:=.dT kvs) (λb ob q=>(sb.2 b<|zaB<|zai q).trans<|zag _ q) (zam _) {z,beq_eq_false_iff_ne.mpr<|zaS<|zaB I.big,xs,?_,o',es,U,W,Y,e3,N,h5},rfl,q _ hn};exact Paired.mapP B λp q z=>{z.1,by rw[aF<|aP z.2.1 hn];exact z.2.1,z.2.2}
end
end My
namespace My
open PySem.SeqAt
abbrev Tm:=List Int×Int
def kJ(t:Tm):List Key×V:=(t.1.map zan,.int t.2)
def look(cs:List Tm)(k:List Int):Option Int:=(cs.find? λt=>decide (t.1=k)).map (·.2)
def put(cs:List Tm)(k:List Int)(c:Int):List Tm:=if(cs.any λt=>decide (t.1=k))=cp then cs.map (λt=>if t.1=k then(t.1,c)else t)else cs++[(k,c)]
def jM{a b:List Int}:(a.map (zan:Int->Key)=b.map zan)↔a=b:=by
 constructor
 .intro h
  induction a generalizing b with
  |nil=>cases b with
   |nil=>rfl
   |cons _ _=>cases h
  |cons x xs ih=>cases b with
   |nil=>cases h
   |cons y ys=>
    rw[zak,zak]at h;injection h with h1 h2
    injection h1 with h1
    rw[h1,ih h2]
 .intro h;rw[h]
def w9(cs:List Tm)(k:List Int)(c:Int):(put cs k c).length<=cs.length+1:=by
 unfold put;split
 .rw[zaj];lia
 .rw[zbp];simp
set_option tactic.hygienic true in
def KH:∀t∈put cs k c,t.1=k\/∃u∈cs,u.1=t.1:=by
 intro t q;unfold put at q;split at q
 .obtain⟨u,B,e⟩:=List.mem_map.mp q
  split at e
  .rename_i z;subst e;exact .inl z
  .subst e;exact .inr {u,B,rfl}
 .rcases List.mem_append.mp q with h|h
  .exact .inr {t,h,rfl}
  .rw[List.mem_singleton.mp h];exact .inl rfl
set_option tactic.hygienic true in
def nE(h:(cs.map (·.1)).Nodup):((put cs k c).map (·.1)).Nodup:=by
 unfold put;split
 .rw[zaI]
  have:((·.1) ∘ λt:Tm=>if t.1=k then(t.1,c)else t)=(·.1):=by
   funext t;show(if t.1=k then(t.1,c)else t).1=t.1;split <;> rfl
  rw[this];exact h
 .rename_i z
  rw[za5];refine L2.EW h λB=>z ?_
  obtain⟨t,q,e⟩:=List.mem_map.mp B;exact List.any_eq_true.mpr {t,q,decide_eq_true e}
def m7(cs:List Tm)(t:Tm):List Tm:=put cs t.1<|(look cs t.1).getD 0+t.2
def bX(ts:List Tm):List Tm:=ts.foldl m7 []
def HC(ts:List Tm)(t:Tm):bX (ts++[t])=m7 (bX ts) t:=by
 unfold bX;rw[zeg];rfl
def kP:∀(ts:List Tm),(bX ts).length<=ts.length/\((bX ts).map (·.1)).Nodup/\∀t∈bX ts,∃u∈ts,u.1=t.1:=by
 intro ts;have F:∀(ts:List Tm) (cs:List Tm),(cs.map (·.1)).Nodup->(ts.foldl m7 cs).length<=cs.length+ts.length/\((ts.foldl m7 cs).map (·.1)).Nodup/\∀t∈ts.foldl m7 cs,(∃u∈ts,u.1=t.1)\/∃u∈cs,u.1=t.1:=by
  intro ts;induction ts with
  |nil=>intro cs h;exact{by simp,h,λt q=>.inr {t,q,rfl}}
  |cons x ts ih=>
   intro cs h;obtain⟨a,b,c⟩:=ih (m7 cs x)<|nE h;refine{?_,b,λt q=>?_}
   .have:=w9 cs x.1 ((look cs x.1).getD 0+x.2)
    rw[zcw,zaU];unfold m7 at *
    lia
   .rcases c t q with⟨u,B,e⟩|⟨u,B,e⟩
    .exact .inl {u,zax _ B,e}
    .rcases KH u B with z|⟨v,G,z⟩
     .exact .inl {x,zaw ..,z.symm.trans e}
     .exact .inr {v,G,z.trans e}
 obtain⟨a,b,c⟩:=F ts [] zc0;refine{by have:=a;simpa[bX]using this,b,λt q=>?_};rcases c t q with h|⟨u,B,_⟩
 .exact h
 .cases B
def b7(M:Int)(q:List Tm):List Tm:=(q.filter λt=>decide (t.2%M≠0)).map λt=>(t.1,t.2%M)
def TS(H H':Hp):Prop:=∀b xs,H b=b4 (.tup xs)->H' b=b4 (.tup xs)
def hT(ns:List Int):Int:=reduceHash<|Builtin.Tuple.tupleHashOf<|ns.map hashInt
def P7(P:zap)(w:World)(ns:List Int):(za4<|aT P w).hash (ns.map zan)=hT ns:=by
 show reduceHash (Builtin.Tuple.tupleHashOf<|(ns.map zan).map (aT P w).hash)=_;rw[zaI];rfl
def DN:List<|List Int:=[[0],[1],[2],[3],[4],[5],[6],[7],[8]]
def NH:List<|List Int:=([0,1,2,3,4,5,6,7,8]:List Int).flatMap λi=>([0,1,2,3,4,5,6,7,8]:List Int).map λj=>[i,j]
def CA:((DN++NH).map hT).Nodup:=by decide +kernel
theorem j5{q B:Type}{f:q->B}:∀ {l:List q},(l.map f).Nodup->∀ {a b:q},a∈l->b∈l->f a=f b->a=b
 |[],_,a,b,ha,_,_=>by cases ha
 |x::l,h,a,b,ha,hb,e=>by
  rw[zak,zdx]at h;rcases List.mem_cons.mp ha with z|z <;> rcases List.mem_cons.mp hb with y|y
  .rw[z,y]
  .subst z;exact absurd (List.mem_map.mpr {b,y,e.symm}) h.1
  .subst y;exact absurd (List.mem_map.mpr ⟨a,z,e⟩) h.1
  .exact j5 h.2 z y e
def yB(k:List Int):Prop:=(k.length=1\/k.length=2)/\∀e∈k,0<=e/\e<=8
def vZ(h:yB k):k∈DN++NH:=by
 obtain⟨F,q⟩:=h;have B:∀e:Int,0<=e->e<=8->e∈([0,1,2,3,4,5,6,7,8]:List Int):=λe h1 h2=>by
  have:e=0\/e=1\/e=2\/e=3\/e=4\/e=5\/e=6\/e=7\/e=8:=by lia
  rcases this with z|z|z|z|z|z|z|z|z <;> (rw[z];decide)
 match k,F,q with
 |[x],_,q=>
  have d:=B x (q x<|by simp).1 (q x<|by simp).2;refine zdi _ ?_;have:DN=([0,1,2,3,4,5,6,7,8]:List Int).map λi=>[i]:=rfl
  rw[this];exact List.mem_map.mpr {x,d,rfl}
 |[x,y],_,q=>
  refine zbG _<|List.mem_flatMap.mpr {x,B x (q x<|by simp).1 (q x<|by simp).2,List.mem_map.mpr {y,B y (q y<|by simp).1 (q y<|by simp).2,rfl}}
 |[],F,_=>simp at F
 |_::_::_::_,F,_=>simp at F
def DB(P:zap)(w:World){cs:List Tm}(G:(cs.map (·.1)).Nodup)(hs:∀t∈cs,yB t.1):((cs.map kJ).map λp=>(za4<|aT P w).hash p.1).Nodup:=by
 have e:((cs.map kJ).map λp=>(za4<|aT P w).hash p.1)=(cs.map (·.1)).map hT:=by
  rw[zaI,zaI];congr 1;funext t;exact P7 P w t.1
 rw[e];have:∀ {l:List (List Int)},l.Nodup->(∀k∈l,yB k)->(l.map hT).Nodup:=by
  intro l;induction l with
  |nil=>intro _ _;exact zc0
  |cons x l ih=>
   intro h1 h2;rw[zdx]at h1;rw[zak,zdx];refine{λF=>?_,ih h1.2 λk q=>h2 k<|zax _ q};obtain⟨y,z,e⟩:=List.mem_map.mp F;have:=j5 CA (vZ<|h2 y<|zax _ z) (vZ<|h2 x<|zaw ..) e;exact h1.1<|this ▸ z
 refine this G λk q=>?_
 obtain⟨t,B,rfl⟩:=List.mem_map.mp q;exact hs t B
end My
namespace My
def itN(t:Bool):String:=if t=cp then "tuple_iterator" else "list_iterator"
def sqN(t:Bool):String:=if t=cp then "tuple" else "list"
def SIt(t:Bool)(h:Heap)(i l:Addr)(k:Nat):Prop:=∃o,h.get? i=b4 o/\o.cls=.type (itN t)/\o.data=.fields #[.ref l,.int k 0]
def SSq(t:Bool)(h:Heap)(l:Addr)(xs:Array Value):Prop:=∃o,h.get? l=b4 o/\o.cls=.type (sqN t)/\∃n,o.data=.seq xs n
def SIt.to(x:SIt t h i l k)(e:∀o,h.get? i=b4 o->h'.get? i=b4 o):SIt t h' i l k:=let ⟨o,ho,r⟩:=x;{o,e o ho,r}
def SSq.to(x:SSq t h l xs)(e:∀o,h.get? l=b4 o->h'.get? l=b4 o):SSq t h' l xs:=let ⟨o,ho,r⟩:=x;{o,e o ho,r}
section
variable {prog:zap}{w:World}{A:zas}{E:Value->zab->Prop}{s:zab}
def next_item(z:SIt t s.heap it l i)(U:SSq t s.heap l xs)(N:xs[i]?=b4 x)
  (W:∀h',SIt t h' it l (i+1)->zaT it s.heap h'->Q x {s with heap:=h'}):wpAny (model prog w) A (zby<|.ref it) Q E s:=by
 cases t with
 |false=>exact wpAny_nextOf_list_item (it:=it) (l:=l) (items:=xs) z U N W
 |true=>
  have q:s.heap.IsTupleIter it l i:=z;obtain⟨o,F,Y,B⟩:=z;obtain⟨ol,J,_,nl,G⟩:=U;unfold zby;refine zaa<|zbw (name:=zaZ "__next__") q.typeIs zeh<|zbd zeh q.typeIs zfq ?_<|zfr _;show wpAny _ _ (field (.ref it) 0 >>= _) _ _ _;refine zaa<|zaE F B (x:=.ref l) rfl ?_;show wpAny _ _ (if(zao l == zaN)=cp then _ else _) _ _ _;rw[cx<|show ¬ ((zao l == zaN)=cp)from zat];show wpAny _ _ (field (.ref it) 1 >>= _) _ _ _;refine zaa<|zaE F B (x:=.int i 0) rfl ?_;show wpAny _ _ (zdy (.ref l) >>= _) _ _ _;refine zaa<|za6 J G ?_;simp only[zb6,N];refine zaa<|zdr F B (by simp)<|zac {x,rfl,zac<|W _ {_,zbU _ F<|Obj.isFreed_of_fields<|zd7 B _,(Obj.cls_mapFields ..).trans Y,by rw[zd7 B];simp[zaP]}<|zck ..}
def next_end(F:A.handled=cg)(z:SIt t s.heap it l i)(W:SSq t s.heap l xs)(U:xs[i]?=cg)
  (Y:∀h' e,zds it s.heap h'->(∃o,h'.get? e=b4 o/\o.cls=.type "StopIteration")->E (.ref e) {s with heap:=h'}):wpAny (model prog w) A (zby<|.ref it) Q E s:=by
 cases t with
 |false=>exact wpAny_nextOf_list_end (it:=it) (l:=l) (items:=xs) F z W U Y
 |true=>
  have q:s.heap.IsTupleIter it l i:=z;obtain⟨o,J,hc,N⟩:=z;obtain⟨ol,G,_,nl,B⟩:=W;unfold zby;refine zaa<|zbw (name:=zaZ "__next__") q.typeIs zeh<|zbd zeh q.typeIs zfq ?_<|zfr _;show wpAny _ _ (field (.ref it) 0 >>= _) _ _ _;refine zaa<|zaE J N (x:=.ref l) rfl ?_;show wpAny _ _ (if(zao l == zaN)=cp then _ else _) _ _ _;rw[cx<|show ¬ ((zao l == zaN)=cp)from zat];show wpAny _ _ (field (.ref it) 1 >>= _) _ _ _;refine zaa<|zaE J N (x:=.int i 0) rfl ?_;show wpAny _ _ (zdy (.ref l) >>= _) _ _ _;refine zaa<|za6 G B ?_;simp only[zb6,U];refine zaa<|zbV<|zaa<|zdr J N (by simp) ?_;show wpAny _ _ (newExc (.type "StopIteration") [] >>= _) _ _ _;refine zaa ?_;simp only[newExc,newTuple];refine zaa (zbq ?_<|by size_fits);refine zaa (m:=zc8 _ _)<|zdt (a:=zaN) (by first|rfl|(simp only[zc8];rfl)) ?_;refine zbq ?_ (by size_fits);simp only[raiseNew]
  refine zaa<|wpAny_handled ?_;first|rw[show A.in1.handled=cg from F]|rw[F]
  refine zaa<|zac<|wpAny_throw ?_;exact Y _ _ (((zck ..).extBut.push _).push _) {_,zau _ rfl,rfl}
structure ZA(z TI TO i1 i2 l1 l2:Addr):Prop where
 z1:TI≠z
 z2:TO≠z
 z3:i1≠z
 z4:i2≠z
 z5:TI≠TO
 z6:TI≠i1
 z7:TI≠i2
 z8:TO≠i1
 z9:TO≠i2
 za:i1≠i2
 zb:l1≠z/\l1≠TO/\l1≠i1/\l1≠i2
 zc:l2≠z/\l2≠TO/\l2≠i1/\l2≠i2
def JP{t1 t2:Bool}{z TI TO W U l1 l2:Addr}{k1 k2:Nat}{xs ys:Array Value}{x y a b:Value}{Q:Option Value->zab->Prop}(D:ZA z TI TO W U l1 l2)
  (hz:IsZip s.heap z TI TO .none) (as:zbk s.heap TI (.ref W)<|.ref U) (a6:zbk s.heap TO a b) (h1:SIt t1 s.heap W l1 k1) (h2:SIt t2 s.heap U l2 k2) (a1:SSq t1 s.heap l1 xs) (au:SSq t2 s.heap l2 ys) (hx:xs[k1]?=b4 x) (hy:ys[k2]?=b4 y)
  (hQ:∀h',IsZip h' z TI TO (zaP s.heap.objs.size)->zbk h' TO x y->SIt t1 h' W l1 (k1+1)->SIt t2 h' U l2 (k2+1)->zbk h' s.heap.objs.size x y->h'.objs.size=s.heap.objs.size+1->(∀c o,c≠z->c≠TO->c≠W->c≠U->s.heap.get? c=b4 o->h'.get? c=b4 o)->Q (b4<|.ref s.heap.objs.size) {s with heap:=h'}) :
  wpAny (model prog w) A (zaL<|.ref z) Q E s:=by
 have hT:s.TypeIs (.ref z) "zip" := {_,hz,rfl};unfold zaL;refine zaa<|zb4<|zbw (name:=zaZ "__next__") hT zcy<|zbd zcy hT zei ?_<|zej _;show wpAny _ _ (field (.ref z) 2 >>= _) _ _ s;refine zaa<|zaE hz rfl (x:=.bool cr) rfl ?_;show wpAny _ _ (field (.ref z) 3 >>= _) _ _ s;refine zaa<|zaE hz rfl (x:=.ref TI) rfl<|zaa<|za6 as rfl ?_;show wpAny _ _ (zb7 (.ref z) >>= _) _ _ s;refine zaa ?_;unfold zb7;refine zaa<|zaE hz rfl (x:=.none) rfl<|zac ?_;simp only[if_true];refine zaa<|zbV<|zaa<|zaE hz rfl (x:=.ref TO) rfl<|zaa<|zaY hz (by simp) λha ab sa=>?_;replace ab:IsZip ha z TI TO .ellipsis:=ab;refine zaa ?_;simp only[zdc,zek,zdz,zel];refine zaa<|zaa<|zb8 ?_;show wpAny _ _ (zby (.ref W) >>= _) _ _ {s with heap:=ha};have ea:=sa.extBut;refine zaa<|next_item (t:=t1) (xs:=xs) (h1.to λo e=>ea _ _ D.z3 e) (a1.to λo e=>ea _ _ D.zb.1 e) hx λhb a3 sb=>zac ?_;have eb:=sb.extBut;have J:zbk hb TO a b:=eb _ _ D.z8<|ea _ _ D.z2 a6;refine zaa<|za6 J rfl<|zaa<|ze8 J λhc F sc=>?_;replace F:zbk hc TO x b:=F;have ec:=sc.extBut;refine zaa<|zbx<|zac ?_;refine zaa<|zaa<|zb8 ?_;show wpAny _ _ (zby (.ref U) >>= _) _ _ {s with heap:=hc};refine zaa<|next_item (t:=t2) (xs:=ys) (h2.to λo e=>ec _ _ D.z9.symm<|eb _ _ D.za.symm<|ea _ _ D.z4 e) (au.to λo e=>ec _ _ D.zc.2.1<|eb _ _ D.zc.2.2.1<|ea _ _ D.zc.1 e) hy λhd aw sd=>zac ?_;have ed:=sd.extBut;have N:zbk hd TO x b:=ed _ _ D.z9 F;refine zaa<|za6 N rfl<|zaa<|ze8 N λq B se=>?_;replace B:zbk q TO x y:=B;have ee:=se.extBut;refine zaa<|zbx<|zac<|zac ?_;refine zaa<|za6 B rfl<|zaa<|zda ?_;have hsz:q.objs.size=s.heap.objs.size:=by rw[se.1,sd.1,sc.1,sb.1,sa.1]
 have af:IsZip q z TI TO .ellipsis:=ee _ _ D.z2.symm<|ed _ _ D.z4.symm<|ec _ _ D.z2.symm<|eb _ _ D.z3.symm ab;have a5:∀c o,c≠z->c≠TO->c≠W->c≠U->s.heap.get? c=b4 o->q.get? c=b4 o:=λc o c1 c2 c3 c4 e=>ee _ _ c2<|ed _ _ c4<|ec _ _ c2<|eb _ _ c3<|ea _ _ c1 e
 have a4:SIt t1 q W l1<|k1+1:=a3.to λo e=>ee _ _ D.z8.symm<|ed _ _ D.za<|ec _ _ D.z8.symm e
 have ba:SIt t2 q U l2<|k2+1:=aw.to λo e=>ee _ _ D.z9.symm e
 have ah:z<q.objs.size:=zai af;show wpAny _ _ (zdd (.ref z) (.ref q.objs.size) >>= _) _ _ _;refine zaa ?_;unfold zdd;have ax:IsZip (q.push {cls:=.type "tuple",data:=.seq #[x,y]}) z TI TO .ellipsis:=zag _ af;refine zaa<|zaY ax (by simp) λhg Y sg=>?_;replace Y:IsZip hg z TI TO<|zaP q.objs.size:=Y;refine zaY Y (by simp) λhi G si=>?_;replace G:IsZip hi z TI TO<|zaP q.objs.size:=G
 have up:∀c o,c≠z->q.get? c=b4 o->hi.get? c=b4 o:=λc o c1 e=>si.extBut _ _ c1<|sg.extBut _ _ c1<|zag _ e
 have ad:zbk hi q.objs.size x y:=si.extBut _ _ (zaK ah)<|sg.extBut _ _ (zaK ah)<|zau _ rfl;have aj:hi.objs.size=q.objs.size+1:=by rw[si.1,sg.1,zbm]
 rw[hsz]at G ad aj;refine zac {_,rfl,zac ?_};show Q (b4<|.ref q.objs.size) _;rw[hsz];exact hQ hi G (up _ _ D.z2 B) (a4.to λo e=>up _ o D.z3 e) (ba.to λo e=>up _ o D.z4 e) ad aj λc o c1 c2 c3 c4 e=>up c o c1<|a5 c o c1 c2 c3 c4 e
def KO{t1 t2:Bool}{z TI TO W U l1 l2:Addr}{k1 k2:Nat}{xs ys:Array Value}{a b:Value}{Q:Option Value->zab->Prop}(hh:A.handled=cg)(D:ZA z TI TO W U l1 l2)
  (hz:IsZip s.heap z TI TO .none) (ak:zbk s.heap TI (.ref W)<|.ref U) (aq:zbk s.heap TO a b) (h1:SIt t1 s.heap W l1 k1) (h2:SIt t2 s.heap U l2 k2) (ab:SSq t1 s.heap l1 xs) (al:SSq t2 s.heap l2 ys) (aa:xs[k1]?=cg\/ys[k2]?=cg)
  (hQ:∀h',(∀c o,c≠z->c≠TO->c≠W->c≠U->s.heap.get? c=b4 o->h'.get? c=b4 o)->Q cg {s with heap:=h'}):wpAny (model prog w) A (zaL<|.ref z) Q E s:=by
 have hT:s.TypeIs (.ref z) "zip" := {_,hz,rfl};have fin:∀(h':Heap) (e:Addr),(∀c o,c≠z->c≠TO->c≠W->c≠U->s.heap.get? c=b4 o->h'.get? c=b4 o)->(∃o,h'.get? e=b4 o/\o.cls=.type "StopIteration")->wpAny (model prog w) A (do if <- isInstance (.ref e) (.type "StopIteration")then pure cg else throw<|.ref e) Q E {s with heap:=h'}:=λh' e hk he=>by
  obtain⟨o,ho,hc⟩:=he;refine zaa<|zc9 (T := "StopIteration") (b:=cp) {o,ho,hc} zdu ?_;exact zac<|hQ _ hk
 unfold zaL;refine zaa<|zb4<|zbw (name:=zaZ "__next__") hT zcy<|zbd zcy hT zei ?_<|zej _;show wpAny _ _ (field (.ref z) 2 >>= _) _ _ s;refine zaa<|zaE hz rfl (x:=.bool cr) rfl ?_;show wpAny _ _ (field (.ref z) 3 >>= _) _ _ s;refine zaa<|zaE hz rfl (x:=.ref TI) rfl<|zaa<|za6 ak rfl ?_;show wpAny _ _ (zb7 (.ref z) >>= _) _ _ s;refine zaa ?_;unfold zb7;refine zaa<|zaE hz rfl (x:=.none) rfl<|zac ?_;simp only[if_true];refine zaa<|zbV<|zaa<|zaE hz rfl (x:=.ref TO) rfl<|zaa<|zaY hz (by simp) λha G sa=>?_;replace G:IsZip ha z TI TO .ellipsis:=G;refine zaa ?_;simp only[zdc,zek,zdz,zel];refine zaa<|zaa<|zb8 ?_;show wpAny _ _ (zby (.ref W) >>= _) _ _ {s with heap:=ha};have ea:=sa.extBut;cases hx:xs[k1]? with
 |none=>
  refine zaa<|next_end (t:=t1) (xs:=xs) hh (h1.to λo e=>ea _ _ D.z3 e) (ab.to λo e=>ea _ _ D.zb.1 e) hx λhb e sb he=>?_;obtain⟨oe,B,F⟩:=he;have ae:IsZip hb z TI TO .ellipsis:=sb _ _ D.z3.symm G;have N:e≠z:=λq=>by subst q;rw[ae]at B;cases B;simp at F
  exact zaY ae (by simp) λhc _ sc=>fin hc e (λc o c1 _ c3 _ q=>sc.extBut _ _ c1<|sb _ _ c3<|ea _ _ c1 q) {oe,sc.extBut _ _ N B,F}
 |some x=>
  have hy:ys[k2]?=cg:=by rcases aa with h|h;rw[hx]at h;cases h;exact h
  refine zaa<|next_item (t:=t1) (xs:=xs) (h1.to λo e=>ea _ _ D.z3 e) (ab.to λo e=>ea _ _ D.zb.1 e) hx λhb a6 sb=>zac ?_;have Y:=sb.extBut;have J:zbk hb TO a b:=Y _ _ D.z8<|ea _ _ D.z2 aq;refine zaa<|za6 J rfl<|zaa<|ze8 J λhc aw sc=>?_;have ec:=sc.extBut;refine zaa<|zbx<|zac ?_;refine zaa<|zaa<|zb8 ?_;show wpAny _ _ (zby (.ref U) >>= _) _ _ {s with heap:=hc};refine zaa<|next_end (t:=t2) (xs:=ys) hh (h2.to λo e=>ec _ _ D.z9.symm<|Y _ _ D.za.symm<|ea _ _ D.z4 e) (al.to λo e=>ec _ _ D.zc.2.1<|Y _ _ D.zc.2.2.1<|ea _ _ D.zc.1 e) hy λhd e sd he=>?_;obtain⟨oe,B,F⟩:=he;have af:IsZip hd z TI TO .ellipsis:=sd _ _ D.z4.symm<|ec _ _ D.z2.symm<|Y _ _ D.z3.symm G;have N:e≠z:=λq=>by subst q;rw[af]at B;cases B;simp at F
  exact zaY af (by simp) λhf _ sf=>fin hf e (λc o c1 c2 c3 c4 q=>sf.extBut _ _ c1<|sd _ _ c4<|ec _ _ c2<|Y _ _ c3<|ea _ _ c1 q) {oe,sf.extBut _ _ N B,F}
abbrev pT(t:Bool)(l:Addr):Obj:={cls:=.type<|itN t,data:=.fields #[.ref l,.int 0 0]}
abbrev JK(t1 t2:Bool)(h:Heap)(l1 l2:Addr):Heap:=(h.push<|pT t1 l1).push<|pT t2 l2
abbrev zh4(t1 t2:Bool)(h:Heap)(l1 l2:Addr):Heap:=((JK t1 t2 h l1 l2).push {cls:=.type "tuple",data:=.seq #[.ref h.objs.size,.ref (h.push<|pT t1 l1).objs.size]}).push {cls:=.type "tuple",data:=.seq #[.none,.none]}
abbrev YJ(t1 t2:Bool)(h:Heap)(l1 l2:Addr):Heap:=(zh4 t1 t2 h l1 l2).push {cls:=.type "zip",data:=.fields #[.none,.bool cr,.bool cr,.ref (JK t1 t2 h l1 l2).objs.size,.ref ((JK t1 t2 h l1 l2).push {cls:=.type "tuple",data:=.seq #[.ref h.objs.size,.ref (h.push<|pT t1 l1).objs.size]}).objs.size]}
def PC(W U:Bool)(F N:Addr)(xs ys:Array Value):Meets (zbc.«zip.__new__» {[.type "zip",.ref F,.ref N],[]}) λ_ R s=>SSq W s.heap F xs/\SSq U s.heap N ys/\R (.ok<|.ret<|.ref (zh4 W U s.heap F N).objs.size) {s with heap:=YJ W U s.heap F N}:=
 .of_wp λprog w A R s h=>by
  obtain⟨J,g,d,tk,os⟩:=s;obtain⟨G,Y,h⟩:=h;have aa:=sub_zip;have B:SSq U (J.push<|pT W F) N ys:=Y.to λo e=>zag _ e
  cases W <;> cases U
  .have z:zem (zbP ⟨J,g,d,tk,os⟩) F xs:=G
   have q:zem (zbP {J.push {cls:=.type "list_iterator",data:=.fields #[.ref F,.int 0 0]},g,d,tk,os}) N ys:=B
   wp_walk using zcd z,zcd q
   exact{_,rfl,h}
  .have z:zem (zbP ⟨J,g,d,tk,os⟩) F xs:=G
   have q:zdA (zbP {J.push {cls:=.type "list_iterator",data:=.fields #[.ref F,.int 0 0]},g,d,tk,os}) N ys:=B
   wp_walk using zcd z,zbS q
   exact{_,rfl,h}
  .have z:zdA (zbP ⟨J,g,d,tk,os⟩) F xs:=G
   have q:zem (zbP {J.push {cls:=.type "tuple_iterator",data:=.fields #[.ref F,.int 0 0]},g,d,tk,os}) N ys:=B
   wp_walk using zbS z,zcd q
   exact{_,rfl,h}
  .have z:zdA (zbP ⟨J,g,d,tk,os⟩) F xs:=G
   have q:zdA (zbP {J.push {cls:=.type "tuple_iterator",data:=.fields #[.ref F,.int 0 0]},g,d,tk,os}) N ys:=B
   wp_walk using zbS z,zbS q
   exact{_,rfl,h}
def LK(U:SSq t1 s.heap l1 xs)(z:SSq t2 s.heap l2 ys)
  (h:∀h', IsZip h' (s.heap.objs.size+4) (s.heap.objs.size+2) (s.heap.objs.size+3) .none -> zbk h' (s.heap.objs.size+2) (.ref s.heap.objs.size) (.ref<|s.heap.objs.size+1) -> zbk h' (s.heap.objs.size+3) .none .none ->
   SIt t1 h' s.heap.objs.size l1 0->SIt t2 h' (s.heap.objs.size+1) l2 0->(∀c o,s.heap.get? c=b4 o->h'.get? c=b4 o)->Q (.ref<|s.heap.objs.size+4) {s with heap:=h'}):wpAny (model prog w) A (call (.type "zip") [.ref l1,.ref l2]) Q E s:=by
 refine zen F.called_zip (by decide) (F.typeCall_zip_2 _ _) (F.newCall_zip_2 _ _) (λG=>F.args_object_init_3 G _ _) F.entry_zip_new (PC t1 t2 l1 l2 xs ys) {U,z,?_};have B:(s.heap.push<|pT t1 l1).objs.size=s.heap.objs.size+1:=zbm ..;have N:(JK t1 t2 s.heap l1 l2).objs.size=s.heap.objs.size+2:=by rw[zbm,B]
 have q:((JK t1 t2 s.heap l1 l2).push {cls:=.type "tuple",data:=.seq #[.ref s.heap.objs.size,.ref (s.heap.push<|pT t1 l1).objs.size]}).objs.size=s.heap.objs.size+3:=by rw[zbm,N]
 have W:(zh4 t1 t2 s.heap l1 l2).objs.size=s.heap.objs.size+4:=by rw[zbm,q]
 have J:(YJ t1 t2 s.heap l1 l2).get? (zh4 t1 t2 s.heap l1 l2).objs.size=b4 _:=zau _ rfl;have Y:(YJ t1 t2 s.heap l1 l2).get? ((JK t1 t2 s.heap l1 l2).push {cls:=.type "tuple",data:=.seq #[.ref s.heap.objs.size,.ref (s.heap.push<|pT t1 l1).objs.size]}).objs.size=b4 _:=zag _<|zau _ rfl;have g3:(YJ t1 t2 s.heap l1 l2).get? (JK t1 t2 s.heap l1 l2).objs.size=b4 _:=zag _<|zag _<|zau _ rfl;have g2:(YJ t1 t2 s.heap l1 l2).get? (s.heap.push<|pT t1 l1).objs.size=b4 (pT t2 l2):=zag _<|zag _<|zag _<|zau _ rfl;have g1:(YJ t1 t2 s.heap l1 l2).get? s.heap.objs.size=b4 (pT t1 l1):=zag _<|zag _<|zag _<|zag _<|zau _ rfl;show _/\_;rw[N,q,W]at J;rw[B,N]at g3;rw[q]at Y;rw[B]at g2;rw[W];exact{{_,J,rfl},h _ J g3 Y {_,g1,rfl,rfl} {_,g2,rfl,rfl} λc o x=>zag _<|zag _<|zag _<|zag _<|zag _ x}
end
def m8(K:zaf)(t:Bool)(H:Hp)(a:Addr)(xs:List V):Prop:=if t=cp then SqT K H a xs else SqL K H a xs
def ItZ(K:zaf)(B z:Bool)(F q:Addr):It:=
 ⟨λi H => ∃xs ys, m8 K B H F xs /\ m8 K z H q ys /\ i<xs.length /\ i<ys.length, λi H x H' => ∃p u v, x = .ref p /\ H p = cg /\ H' = upd H p (.tup [u, v]) /\ ∀xs ys, m8 K B H F xs -> m8 K z H q ys -> xs[i]? = b4 u /\ ys[i]? = b4 v,
  λi H=>∃xs ys,m8 K B H F xs/\m8 K z H q ys/\(xs.length<=i\/ys.length<=i)⟩
def cM(I:Inv X pins σ H s)(h:m8 X.K t H a xs):∃q:List Value,Vals xs q/\SSq t s.heap a q.toArray:=by
 cases t with
 |true=>
  obtain⟨q,r,p,_⟩:=I.tuple<|show SqT X.K H a xs from h;exact{q,r,p}
 |false=>
  obtain⟨q,r,p,_⟩:=I.list<|show SqL X.K H a xs from h;exact{q,r,PlainL.isList p}
def jS(I:Inv X pins σ H s)(h:m8 X.K t H a xs)(h':m8 X.K t H a ys):xs=ys:=by
 cases t with
 |true=>exact I.tuple_inj (show SqT X.K H a xs from h) h'
 |false=>exact I.list_inj (show SqL X.K H a xs from h) h'
def dS{pins:List (Addr×Obj)}{t':Nat}{fp:List Addr}(I:Inv X pins σ H s)(G:∀b∈fp,jA X pins H b)(k:∀b o,b∉fp->s.heap.get? b=b4 o->h'.get? b=b4 o):Inv X pins σ H {s with heap:=h',toks:=t'}:=by
 have F:∀b u,H b=b4 u->b∉fp:=λb u e z=>by rw[(G b z).1]at e;cases e
 refine I.call' (s':={s with heap:=h',toks:=t'}) (ch:=fp) rfl {λb o e _ _ B=>k b o B e,λb o e _ _ B=>{o.slots,k b o B e},λ_ _ _ n _=>n,λb o e B=>{o,k b o B e},λ_ _ q=>q,λ_ _ _ q=>q,λb ps q=>{#[],by rw[q];simp}} (λb u e=>?_) I.bare λb U=>?_
 .refine(I.hok b u e).stay (λc v W q=>k c v ?_ q) (λ_ q=>q) λ_ _ q=>q
  rcases W with z|z
  .rw[z];exact F b u e
  .exact F c _ z
 .obtain⟨_,N,_,J,f4,Y⟩:=G b U
  exact{J,N,f4,Y}
def L7{P:zap}{w:World}{K:zaf}{ad:List Expr}{x1}{tp:Pos}(t1 t2:Bool){z TI TO i1 Y l1 l2:Addr}(D:ZA z TI TO i1 Y l1 l2) :
  Turn P w K (.Tuple ad x1 tp) (ItZ K t1 t2 l1 l2) [z,TI,TO,i1,Y] z (λi h=>IsZip h z TI TO .none/\zbk h TI (.ref i1) (.ref Y)/\(∃a b,zbk h TO a b)/\SIt t1 h i1 l1 i/\SIt t2 h Y l2 i) where
 mem:=by simp
 obj:=by
  rintro i h ⟨hz,J,⟨a,b,N⟩,⟨o1,e1,_,d1⟩,⟨o2,e2,_,d2⟩⟩ c B;simp only[zaF,zaG,or_false]at B;rcases B with rfl|rfl|rfl|rfl|rfl
  .exact{_,hz,λv q=>by cases q}
  .exact{_,J,λv q=>by cases q}
  .exact{_,N,λv q=>by cases q}
  .exact{o1,e1,λv q=>by rw[d1]at q;cases q}
  .exact{o2,e2,λv q=>by rw[d2]at q;cases q}
 keep:=λi h h' ⟨hz,J,⟨a,b,N⟩,s1,s2⟩ k=>{k z (by simp) _ hz,k TI (by simp) _ J,{a,b,k TO (by simp) _ N},s1.to λo e=>k i1 (by simp) o e,s2.to λo e=>k Y (by simp) o e}
 item:=by
  intro X hP hw hK B i pins s σ H E I hf st hg;subst hP hw hK;obtain⟨hz,J,⟨a,b,N⟩,s1,s2⟩:=st;obtain⟨xs,ys,q1,q2,aw,ao⟩:=hg;obtain⟨ag,r1,p1⟩:=cM I q1;obtain⟨af,r2,p2⟩:=cM I q2;have e1:xs[i]?=b4 xs[i]:=by simp[aw]
  have e2:ys[i]?=b4 ys[i]:=by simp[ao]
  obtain⟨u,eu,ru⟩:=r1.get e1;obtain⟨v,ev,rv⟩:=r2.get e2;refine JP D hz J N s1 s2 p1 p2 (x:=u) (y:=v) (by simpa using eu) (by simpa using ev) λh' a1 a2 a3 a4 a5 a6 W=>{_,rfl,?_}
  refine wpAny_letOwnedTupleGo_zip (s:={s with heap:=h'}) a1 λh2 ax sb=>?_
  have zz:∀c,c∈[z,TI,TO,i1,Y]->c<s.heap.objs.size:=λc B=>by
   simp only[zaF,zaG,or_false]at B;rcases B with rfl|rfl|rfl|rfl|rfl
   .exact zai hz
   .exact zai J
   .exact zai N
   .obtain⟨o,e,_⟩:=s1;exact zai e
   .obtain⟨o,e,_⟩:=s2;exact zai e
  have U:∀c o,c≠z->h'.get? c=b4 o->h2.get? c=b4 o:=λc o B e=>sb.extBut _ _ B e
  have I1:Inv X pins σ H {s with heap:=h2,toks:=s.toks}:=dS I hf λc o B e=>by
   simp only[zaF,zaG,or_false,not_or]at B;exact U c o B.1<|W c o B.1 B.2.2.1 B.2.2.2.1 B.2.2.2.2 e
  have G:H s.heap.objs.size=cg:=I.fresh;have bb:zbk h2 s.heap.objs.size u v:=U _ _ (zaK<|zz z<|by simp) a5;have I2:Inv X pins σ (upd H s.heap.objs.size<|.tup [xs[i],ys[i]]) {s with heap:=h2}:=by
   have aq:HOk X.prog X.w (upd H s.heap.objs.size<|.tup [xs[i],ys[i]]) h2:=λc ob e=>by
    by_cases B:c=s.heap.objs.size
    .subst B;rw[aI]at e;cases e
     exact{by show 2<=zal;decide,[u,v],.cons ru<|.cons rv .nil,_,bb,rfl,0,rfl,rfl}
    .rw[aF B]at e
     exact(I1.hok c ob e).stay (λ_ _ _ q=>q) (λd q=>by rw[aF<|aP q G];exact q) λd ah q=>by rw[aF<|aP q G];exact q
   refine I.call' (s':={s with heap:=h2}) (ch:=[z,TI,TO,i1,Y]) rfl {λc o e _ _ F=>?_,λc o e _ _ F=>{o.slots,?_},λc o e n F=>by rw[aF<|zaB<|zai e];exact n,λc o e F=>{o,?_},λc ah q=>by rw[aF<|aP q G];exact q,λc o' u' q=>by rw[aF<|aP q G];exact q,λc ps q=>{#[],by rw[aF<|aP q G,q];simp}} aq I.bare λb hb=>?_
   .simp only[zaF,zaG,or_false,not_or]at F
    exact U c o F.1<|W c o F.1 F.2.2.1 F.2.2.2.1 F.2.2.2.2 e
   .simp only[zaF,zaG,or_false,not_or]at F
    exact U c o F.1<|W c o F.1 F.2.2.1 F.2.2.2.1 F.2.2.2.2 e
   .simp only[zaF,zaG,or_false,not_or]at F
    exact U c o F.1<|W c o F.1 F.2.2.1 F.2.2.2.1 F.2.2.2.2 e
   .obtain⟨_,f1,_,f3,f4,f5⟩:=hf b hb
    exact{f3,f1,f4,f5}
  refine{.ref s.heap.objs.size,_,I2,rfl,{_,_,_,rfl,G,rfl,λbi ah g1 g2=>by rw[<- jS I q1 g1,<- jS I q2 g2];exact{e1,e2}},{ax,U _ _ D.z1<|W _ _ D.z1 D.z5 D.z6 D.z7 J,{_,_,U _ _ D.z2 a2},a3.to λo e=>U _ o D.z3 e,a4.to λo e=>U _ o D.z4 e},λc B=>?_};rw[aF<|zaB<|zz c B];exact(hf c B).1
 done:=by
  intro X hP hw hK B i pins s σ H E I hf st hg;subst hP hw hK;obtain⟨hz,J,⟨a,b,N⟩,s1,s2⟩:=st;obtain⟨xs,ys,q1,q2,ae⟩:=hg;obtain⟨ag,r1,p1⟩:=cM I q1;obtain⟨af,r2,p2⟩:=cM I q2;have n1:=r1.length;have n2:=r2.length;refine KO (I.ok.hd B) D hz J N s1 s2 p1 p2 (ae.imp (λh=>by simp;lia) λh=>by simp;lia) λh' W=>{rfl,dS (t':=s.toks) I hf λc o B e=>?_}
  simp only[zaF,zaG,or_false,not_or]at B;exact W c o B.1 B.2.2.1 B.2.2.2.1 B.2.2.2.2 e
 self:=λ_ _ _ _ _ st h=>zeo st.1 h
def Y4(n z q:Nat)(h1:z<n)(h2:q<n):ZA (n+4) (n+2) (n+3) n (n+1) z q:={(show(n+2:Nat)≠n+4 by lia),(show(n+3:Nat)≠n+4 by lia),(show(n:Nat)≠n+4 by lia),(show(n+1:Nat)≠n+4 by lia),(show(n+2:Nat)≠n+3 by lia),(show(n+2:Nat)≠n by lia),(show(n+2:Nat)≠n+1 by lia),(show(n+3:Nat)≠n by lia),(show(n+3:Nat)≠n+1 by lia),(show(n:Nat)≠n+1 by lia),{(show(z:Nat)≠n+4 by lia),(show(z:Nat)≠n+3 by lia),(show(z:Nat)≠n by lia),(show(z:Nat)≠n+1 by lia)},{(show(q:Nat)≠n+4 by lia),(show(q:Nat)≠n+3 by lia),(show(q:Nat)≠n by lia),(show(q:Nat)≠n+1 by lia)}}
def qbt(K:zaf)(ta:TA):TI:=λσ H R=>ta σ H λvs H1=>∃F B z q xs ys,vs=[.ref z,.ref q]/\m8 K F H1 z xs/\m8 K B H1 q ys/\R (ItZ K F B z q) H1
def VA{B:List Expr}{x1}(hg:Gl X "zip")(hm:X.mg "zip" = cg)(ha:PA X [a,b] ta)(hs:zah [a,b] X.env=[(cr,eval a X.env),(cr,eval b X.env)]:=by rfl)(G:zah [b] X.env=[(cr,eval b X.env)]:=by rfl) :
  PI X (.Tuple B x1 tp) (.Call (.Name "zip" p) [a,b] [] pos) (qbt X.K ta):=by
 intro pins s σ H R I h;refine Call_ (fZ I hg hm My.boot_zip<|zcC (bN (ha pos pins s σ H _ I h) λus z ⟨vs,H1,F,r1,Y⟩=>?_) (by rw[hs,G])<|by rw[G];rfl);obtain⟨t1,t2,l1,l2,xs,ys,rfl,Y,q2,q⟩:=Y;obtain⟨u,v,rfl,ru,rv⟩:=vals2 r1;cases ru;cases rv;obtain⟨ad,_,p1⟩:=cM F Y;obtain⟨ac,_,p2⟩:=cM F q2;have b1:l1<z.heap.objs.size:=by obtain⟨o,e,_⟩:=p1;exact zai e
 have b2:l2<z.heap.objs.size:=by obtain⟨o,e,_⟩:=p2;exact zai e
 refine LK p1 p2 λh' hz N U aa W k=>?_
 refine zeo hz ?_;have D:ZA (z.heap.objs.size+4) (z.heap.objs.size+2) (z.heap.objs.size+3) z.heap.objs.size (z.heap.objs.size+1) l1 l2:=Y4 _ _ _ b1 b2;refine{_,[_,_,_,_,_],_,_,H1,rfl,F.kept (t':=z.toks) k,L7 t1 t2 D,{hz,N,{_,_,U},aa,W},λc J=>F.fpOk ?_<|F.hok.fresh ?_,q}
 .simp only[zaF,zaG,or_false]at J
  rcases J with rfl|rfl|rfl|rfl|rfl <;> lia
 .simp only[zaF,zaG,or_false]at J
  rcases J with rfl|rfl|rfl|rfl|rfl <;> lia
end My
namespace P
inductive D where
 | non|bl (b:Bool)|int (i:Int)|str (x:Str)|tup (l:List D)|lst (l:List D)
 | dK (l:List<|Key×D)|dT (l:List<|List Key×D)
abbrev Av:=Addr->Prop
section
variable (A:Av)(H:Hp)
mutual
/-- a heap bears a value that stays (the things that may still be written are in A) -/
inductive Rep:D->V->Prop where
 | non:Rep .non .non
 | bl (b:Bool):Rep (.bl b)<|.bl b
 | int (i:Int):Rep (.int i)<|.int i
 | str (x:Str):Rep (.str x)<|.str x
 | tup {l:List D} {a:Addr} {xs:List V} (h:H a=b4 (.tup xs)) (r:RepL l xs):Rep (.tup l)<|.ref a
 | lst {l:List D} {a:Addr} {xs:List V} (n:¬ A a) (h:Rd H a<|.lst xs) (r:RepL l xs):Rep (.lst l)<|.ref a
 | dK {l:List (Key×D)} {a:Addr} {xs:List (Key×V)} (n:¬ A a) (h:Rd H a<|.dK xs) (e:xs.map (·.1)=l.map (·.1)) (r:RepL (l.map (·.2))<|xs.map (·.2)):Rep (.dK l)<|.ref a
 | dT {l:List (List Key×D)} {a:Addr} {xs:List (List Key×V)} (n:¬ A a) (h:Rd H a<|.dT xs) (e:xs.map (·.1)=l.map (·.1)) (r:RepL (l.map (·.2))<|xs.map (·.2)):Rep (.dT l)<|.ref a
inductive RepL:List D->List V->Prop where
 | nil:RepL [] []
 | cons {d:D} {v:V} {ds:List D} {vs:List V} (h:Rep d v) (t:RepL ds vs):RepL (d::ds)<|v::vs
end
inductive RepB:D->V->Prop where
 | of {d:D} {v:V} (h:Rep A H d v):RepB d v
 | lst {l:List D} {a:Addr} {xs:List V} (h:Rd H a<|.lst xs) (r:RepL A H l xs):RepB (.lst l)<|.ref a
 | dK {l:List (Key×D)} {a:Addr} {xs:List (Key×V)} (h:Rd H a<|.dK xs) (e:xs.map (·.1)=l.map (·.1)) (r:RepL A H (l.map (·.2))<|xs.map (·.2)):RepB (.dK l)<|.ref a
 | dT {l:List (List Key×D)} {a:Addr} {xs:List (List Key×V)} (h:Rd H a<|.dT xs) (e:xs.map (·.1)=l.map (·.1)) (r:RepL A H (l.map (·.2))<|xs.map (·.2)):RepB (.dT l)<|.ref a
inductive Own:D->Addr->Prop where
 | lst {l:List D} {a:Addr} {xs:List V} (h:H a=b4 (.lst xs)) (r:RepL A H l xs):Own (.lst l) a
 | dK {l:List (Key×D)} {a:Addr} {xs:List (Key×V)} (h:H a=b4 (.dK xs)) (e:xs.map (·.1)=l.map (·.1)) (r:RepL A H (l.map (·.2))<|xs.map (·.2)):Own (.dK l) a
 | dT {l:List (List Key×D)} {a:Addr} {xs:List (List Key×V)} (h:H a=b4 (.dT xs)) (e:xs.map (·.1)=l.map (·.1)) (r:RepL A H (l.map (·.2))<|xs.map (·.2)):Own (.dT l) a
end
def Kp:HO->Prop
 |.tup _=>True | .lst _=>True|_=>False
structure Ext(A:Av)(H H':Hp):Prop where
 rd:∀b u,Rd H b u->Rd H' b u
 kp:∀b u,Kp u->H b=b4 u->H' b=b4 u
 ow:∀b u,A b->H b=b4 u->H' b=b4 u
 fz:∀b o u,H b=b4 (.frz o u)->H' b=b4 (.frz o u)
def Ext.refl(A:Av)(H:Hp):Ext A H H:={λ_ _ h=>h,λ_ _ _ h=>h,λ_ _ _ h=>h,λ_ _ _ h=>h}
def Ext.trans(a:Ext A H H1)(b:Ext A H1 H2):Ext A H H2:=
 {λc u h=>b.rd c u<|a.rd c u h,λc u k h=>b.kp c u k<|a.kp c u k h,λc u n h=>b.ow c u n<|a.ow c u n h,λc o u h=>b.fz c o u<|a.fz c o u h}
def Ext.mono(h:Ext A H H')(s:∀a,A' a->A a):Ext A' H H':={h.rd,h.kp,λb u n e=>h.ow b u (s b n) e,h.fz}
def Ext.same(h:Same H H'):Ext A H H':=
 {λb u r=>by rcases r with r|⟨o,r⟩;exact .inl<|h _ _ r;exact .inr {o,h _ _ r},λb u _ r=>h _ _ r,λb u _ r=>h _ _ r,λb o u r=>h _ _ r}
def Ext.tp(x:Ext A H H')(b:Addr)(xs:List V)(h:H b=b4 (.tup xs)):H' b=b4 (.tup xs):=x.kp b _ trivial h
def Ext.new(h:H p=cg):Ext A H<|upd H p o:=Ext.same<|My.BA h
mutual
theorem Rep.ext(x:Ext A H H'):Rep A H d v->Rep A H' d v
 |.non=>.non
 |.bl b=>.bl b
 |.int i=>.int i
 |.str s=>.str s
 |.tup h r=>.tup (x.tp _ _ h)<|RepL.ext x r
 |.lst n h r=>.lst n (x.rd _ _ h)<|RepL.ext x r
 |.dK n h e r=>.dK n (x.rd _ _ h) e<|RepL.ext x r
 |.dT n h e r=>.dT n (x.rd _ _ h) e<|RepL.ext x r
theorem RepL.ext(x:Ext A H H'):RepL A H ds vs->RepL A H' ds vs
 |.nil=>.nil
 |.cons h t=>.cons (Rep.ext x h)<|RepL.ext x t
end
theorem RepB.ext(x:Ext A H H'):RepB A H d v->RepB A H' d v
 |.of h=>.of<|h.ext x
 |.lst h r=>.lst (x.rd _ _ h)<|r.ext x
 |.dK h e r=>.dK (x.rd _ _ h) e<|r.ext x
 |.dT h e r=>.dT (x.rd _ _ h) e<|r.ext x
theorem Own.ext(x:Ext A H H')(q:A a):Own A H d a->Own A H' d a
 |.lst h r=>.lst (x.ow _ _ q h)<|r.ext x
 |.dK h e r=>.dK (x.ow _ _ q h) e<|r.ext x
 |.dT h e r=>.dT (x.ow _ _ q h) e<|r.ext x
def Own.b:Own A H d a->RepB A H d (.ref a)
 |.lst h r=>.lst (.inl h) r
 |.dK h e r=>.dK (.inl h) e r
 |.dT h e r=>.dT (.inl h) e r
mutual
/-- avoid other things: those that were not there, or fewer -/
theorem Rep.av(x:∀a,A' a->A a\/H a=cg):Rep A H d v->Rep A' H d v
 |.non=>.non
 |.bl b=>.bl b
 |.int i=>.int i
 |.str s=>.str s
 |.tup h r=>.tup h<|RepL.av x r
 |.lst n h r=>.lst (λz=>(x _ z).elim n λz=>by rcases h with h|⟨o,h⟩ <;> (rw[z]at h;cases h)) h<|RepL.av x r
 |.dK n h e r=>.dK (λz=>(x _ z).elim n λz=>by rcases h with h|⟨o,h⟩ <;> (rw[z]at h;cases h)) h e<|RepL.av x r
 |.dT n h e r=>.dT (λz=>(x _ z).elim n λz=>by rcases h with h|⟨o,h⟩ <;> (rw[z]at h;cases h)) h e<|RepL.av x r
theorem RepL.av(x:∀a,A' a->A a\/H a=cg):RepL A H ds vs->RepL A' H ds vs
 |.nil=>.nil
 |.cons h t=>.cons (Rep.av x h)<|RepL.av x t
end
def YF:HO->Prop
 |.lst _=>True | .dK _=>True | .dT _=>True|_=>False
def nR(n:b≠a)(h:Rd H b u):Rd (upd H a o) b u:=by
 rcases h with h|⟨x,h⟩
 .exact .inl<|by rw[aF n];exact h
 .exact .inr {x,by rw[aF n];exact h}
mutual
theorem Rep.put(q:A a)(B:H a=b4 u)(ob:YF u):Rep A H d v->Rep A (upd H a o) d v
 |.non=>.non
 |.bl b=>.bl b
 |.int i=>.int i
 |.str s=>.str s
 |.tup (a:=b) h r=>.tup (by rw[aF λz=>by subst z;rw[B]at h;cases h;exact ob];exact h)<|RepL.put q B ob r
 |.lst (a:=b) n h r=>.lst n (nR (λz=>n<|by rw[z];exact q) h)<|RepL.put q B ob r
 |.dK (a:=b) n h e r=>.dK n (nR (λz=>n<|by rw[z];exact q) h) e<|RepL.put q B ob r
 |.dT (a:=b) n h e r=>.dT n (nR (λz=>n<|by rw[z];exact q) h) e<|RepL.put q B ob r
theorem RepL.put(z:A a)(q:H a=b4 u)(ob:YF u):RepL A H ds vs->RepL A (upd H a o) ds vs
 |.nil=>.nil
 |.cons h t=>.cons (Rep.put z q ob h)<|RepL.put z q ob t
end
theorem Own.put{A:Av}{H:Hp}{a b:Addr}{o u:HO}(B:A a)(z:H a=b4 u)(ob:YF u)(q:b≠a){d:D}:Own A H d b->Own A (upd H a o) d b
 |.lst h r=>.lst (by rw[aF q];exact h)<|r.put B z ob
 |.dK h e r=>.dK (by rw[aF q];exact h) e<|r.put B z ob
 |.dT h e r=>.dT (by rw[aF q];exact h) e<|r.put B z ob
theorem Own.av(x:∀a,A' a->A a\/H a=cg):Own A H d a->Own A' H d a
 |.lst h r=>.lst h<|r.av x
 |.dK h e r=>.dK h e<|r.av x
 |.dT h e r=>.dT h e<|r.av x
def Own.rep(n:¬ A a):Own A H d a->Rep A H d (.ref a)
 |.lst h r=>.lst n (.inl h) r
 |.dK h e r=>.dK n (.inl h) e r
 |.dT h e r=>.dT n (.inl h) e r
section
variable {A:Av}{H:Hp}
theorem RepL.length:∀ {ds:List D} {vs:List V},RepL A H ds vs->vs.length=ds.length
 |_,_,.nil=>rfl
 |_,_,.cons _ t=>by rw[zaU,zaU,RepL.length t]
theorem RepL.get:∀ {ds:List D} {vs:List V} {i:Nat} {v:V},RepL A H ds vs->vs[i]?=b4 v->∃d,ds[i]?=b4 d/\Rep A H d v
 |_,_,i,v,.nil,e=>by simp at e
 |_,_,0,v,.cons h t,e=>by simp at e;subst e;exact{_,rfl,h}
 |_,_,i+1,v,.cons h t,e=>RepL.get (i:=i) t<|by simpa using e
theorem RepL.get':∀ {ds:List D} {vs:List V} {i:Nat} {d:D},RepL A H ds vs->ds[i]?=b4 d->∃v,vs[i]?=b4 v/\Rep A H d v
 |_,_,i,v,.nil,e=>by simp at e
 |_,_,0,v,.cons h t,e=>by simp at e;subst e;exact{_,rfl,h}
 |_,_,i+1,v,.cons h t,e=>RepL.get' (i:=i) t<|by simpa using e
theorem RepL.append:∀ {ds es:List D} {vs us:List V},RepL A H ds vs->RepL A H es us->RepL A H (ds++es) (vs++us)
 |_,_,_,_,.nil,s=>s
 |_,_,_,_,.cons h t,s=>.cons h<|RepL.append t s
theorem RepL.take:∀ {ds:List D} {vs:List V} (n:Nat),RepL A H ds vs->RepL A H (ds.take n) (vs.take n)
 |_,_,0,_=>by simp;exact .nil
 |_,_,n+1,.nil=>.nil
 |_,_,n+1,.cons h t=>.cons h<|RepL.take n t
theorem RepL.drop:∀ {ds:List D} {vs:List V} (n:Nat),RepL A H ds vs->RepL A H (ds.drop n) (vs.drop n)
 |_,_,0,r=>r
 |_,_,n+1,.nil=>.nil
 |_,_,n+1,.cons h t=>RepL.drop n t
theorem RepL.set:∀ {ds:List D} {vs:List V} {d:D} {v:V} (n:Nat),Rep A H d v->RepL A H ds vs->RepL A H (ds.set n d) (vs.set n v)
 |_,_,_,_,_,_,.nil=>.nil
 |_,_,_,_,0,r,.cons h t=>.cons r t
 |_,_,_,_,n+1,r,.cons h t=>.cons h<|RepL.set n r t
def RepB.int_inv(h:RepB A H (.int i) v):v=.int i:=by cases h with|of h=>cases h;rfl
def RepB.bl_inv(h:RepB A H (.bl i) v):v=.bl i:=by cases h with|of h=>cases h;rfl
def RepB.str_inv(h:RepB A H (.str i) v):v=.str i:=by cases h with|of h=>cases h;rfl
def RepB.non_inv(h:RepB A H .non v):v=.non:=by cases h with|of h=>cases h;rfl
def RepB.tup_inv(h:RepB A H (.tup l) v):∃a xs,v=.ref a/\H a=b4 (.tup xs)/\RepL A H l xs:=by
 cases h with|of h=>cases h with|tup h r=>exact{_,_,rfl,h,r}
def RepB.lst_inv(h:RepB A H (.lst l) v):∃a xs,v=.ref a/\Rd H a (.lst xs)/\RepL A H l xs:=by
 cases h with
 |of h=>cases h with|lst n h r=>exact{_,_,rfl,h,r}
 |lst h r=>exact{_,_,rfl,h,r}
def RepB.dK_inv(h:RepB A H (.dK l) v):∃a xs,v=.ref a/\Rd H a (.dK xs)/\xs.map (·.1)=l.map (·.1)/\RepL A H (l.map (·.2)) (xs.map (·.2)):=by
 cases h with
 |of h=>cases h with|dK n h e r=>exact{_,_,rfl,h,e,r}
 |dK h e r=>exact{_,_,rfl,h,e,r}
def RepB.dT_inv(h:RepB A H (.dT l) v):∃a xs,v=.ref a/\Rd H a (.dT xs)/\xs.map (·.1)=l.map (·.1)/\RepL A H (l.map (·.2)) (xs.map (·.2)):=by
 cases h with
 |of h=>cases h with|dT n h e r=>exact{_,_,rfl,h,e,r}
 |dT h e r=>exact{_,_,rfl,h,e,r}
end
abbrev dC:=List<|Option D
inductive Fact where
 | rep (d:D) (v:V)|fz (a:Addr) (o:Obj) (u:HO)
def Fact.Holds(A:Av)(H:Hp):Fact->Prop
 |.rep d v=>Rep A H d v
 |.fz a o u=>H a=b4 (.frz o u)
theorem Fact.ext(x:Ext A H H'):∀ {p:Fact},p.Holds A H->p.Holds A H'
 |.rep _ _,h=>Rep.ext x h
 |.fz _ _ _,h=>x.fz _ _ _ h
theorem Fact.av(x:∀a,A' a->A a\/H a=cg):∀ {p:Fact},p.Holds A H->p.Holds A' H
 |.rep _ _,h=>Rep.av x h
 |.fz _ _ _,h=>h
theorem Fact.put(F:A a)(B:H a=b4 u)(ob:YF u):∀ {p:Fact},p.Holds A H->p.Holds A (upd H a o)
 |.rep _ _,h=>Rep.put F B ob h
 |.fz b q w,h=>by
  have h:H b=b4 (.frz q w):=h;show upd H a o b=b4 (.frz q w);rw[aF λz=>by subst z;rw[B]at h;cases h;exact ob];exact h
structure ST(H0:Hp)(A0 A:Av)(E:List Fact)(O:List Nat)(σ:L2.St)(H:Hp)(ρ:dC):Prop where
 ex:Ext A0 H0 H
 sub:∀a,A0 a->A a
 l0:∀a,A0 a->H0 a≠cg
 live:∀a,A a->H a≠cg
 len:σ.length=ρ.length
 val:∀i d,ρ[i]?=b4 (b4 d)->i∉O->∃v,σ[i]?=b4 (b4 v)/\Rep A H d v
 own:∀i d,ρ[i]?=b4 (b4 d)->i∈O->∃a,σ[i]?=b4 (b4<|.ref a)/\A a/\H0 a=cg/\Own A H d a
 inj:∀i j d d' a,i∈O->j∈O->ρ[i]?=b4 (b4 d)->ρ[j]?=b4 (b4 d')->σ[i]?=b4 (b4<|.ref a)->σ[j]?=b4 (b4<|.ref a)->i=j
 ext:∀p∈E,p.Holds A H
section
variable {H0:Hp}{A0 A:Av}{E:List Fact}{O:List Nat}{σ:L2.St}{H H':Hp}{ρ:dC}
theorem ST.mono(s:ST H0 A0 A E O σ H ρ)(x:Ext A H H'):ST H0 A0 A E O σ H' ρ where
 ex:=s.ex.trans<|x.mono s.sub
 sub:=s.sub
 l0:=s.l0
 live:=λa q=>by
  have:=s.live a q;cases e:H a with
  |none=>exact absurd e this
  |some u=>rw[x.ow a u q e];exact λz=>nomatch z
 len:=s.len
 val:=λi d h n=>by obtain⟨v,h1,h2⟩:=s.val i d h n;exact{v,h1,h2.ext x}
 own:=λi d h n=>by obtain⟨a,h1,h2,F,B⟩:=s.own i d h n;exact{a,h1,h2,F,B.ext x h2}
 inj:=s.inj
 ext:=λp G=>Fact.ext x (s.ext p G)
def ST.more(s:ST H0 A0 A E O σ H ρ)(h:Rep A H d v):ST H0 A0 A (.rep d v::E) O σ H ρ:=
 {s with ext:=λp q=>by rcases List.mem_cons.mp q with e|e;rw[e];exact h;exact s.ext p e}
def ST.less(s:ST H0 A0 A E O σ H ρ)(h:∀p∈E',p∈E):ST H0 A0 A E' O σ H ρ:=
 {s with ext:=λp q=>s.ext p (h p q)}
def d5(h:(ρ.set i o)[j]?=b4 (b4 d)):(j=i/\o=b4 d/\i<ρ.length)\/(j≠i/\ρ[j]?=b4 (b4 d)):=by
 rw[List.getElem?_set]at h;by_cases e:i=j
 .rw[cw e]at h
  by_cases l:i<ρ.length
  .rw[cw l]at h
   exact .inl {e.symm,zaD h,l}
  .rw[cx l]at h;cases h
 .rw[cx e]at h
  exact .inr {λz=>e z.symm,h}
def sig_set(h:i<σ.length):(σ.set i<|b4 v)[i]?=b4 (b4 v):=by simp[h]
def lC(h:j≠i):(σ.set i<|b4 v)[j]?=σ[j]?:=by rw[zdG<|zaS h]
def ST.put(s:ST H0 A0 A E O σ H ρ)(h:Rep A H d v)(n:i∉O):ST H0 A0 A E O (σ.set i<|b4 v) H (ρ.set i<|b4 d) where
 ex:=s.ex
 sub:=s.sub
 l0:=s.l0
 live:=s.live
 len:=by simp[s.len]
 val:=λj d' h' B=>by
  rcases d5 h' with⟨e,q,l⟩|⟨e,q⟩
  .subst e;cases q;exact{v,sig_set (by rw[s.len];exact l),h}
  .obtain⟨w,h1,h2⟩:=s.val j d' q B;exact{w,by rw[lC e];exact h1,h2}
 own:=λj d' h' B=>by
  rcases d5 h' with⟨e,q,l⟩|⟨e,q⟩
  .subst e;exact absurd B n
  .obtain⟨w,h1,h2⟩:=s.own j d' q B;exact{w,by rw[lC e];exact h1,h2}
 inj:=λj k d1 d2 a J U h1 h2 G N=>by
  have W:j≠i:=λz=>n<|z ▸ J
  have F:k≠i:=λz=>n<|z ▸ U
  rcases d5 h1 with⟨e,_⟩|⟨_,h1⟩
  .exact absurd e W
  rcases d5 h2 with⟨e,_⟩|⟨_,h2⟩
  .exact absurd e F
  exact s.inj j k d1 d2 a J U h1 h2 (by rw[lC W]at G;exact G)<|by rw[lC F]at N;exact N
 ext:=s.ext
def ST.shut(s:ST H0 A0 A E O σ H ρ)(h:∀i,i∈O'->i∈O):∃A',ST H0 A0 A' E O' σ H ρ:=by
 let F:Av:=λa=>∃i d,i∈O/\i∉O'/\ρ[i]?=b4 (b4 d)/\σ[i]?=b4 (b4<|.ref a)
 have cut:∀a,(A a/\¬ F a)->A a\/H a=cg:=λa z=>.inl z.1
 refine{λa=>A a/\¬ F a,s.ex,λa G=>{s.sub a G,?_},s.l0,λa G=>s.live a G.1,s.len,λi d hi n=>?_,λi d hi n=>?_,λi j d d' a hi hj=>s.inj i j d d' a (h i hi)<|h j hj,λp hp=>Fact.av cut<|s.ext p hp}
 .rintro⟨i,d,h1,h2,U,W⟩
  obtain⟨b,q,B,J,N⟩:=s.own i d U h1;rw[W]at q;cases q;exact s.l0 a G J
 .by_cases Y:i∈O
  .obtain⟨a,q,B,J,N⟩:=s.own i d hi Y
   exact{.ref a,q,(N.av cut).rep λz=>z.2 {i,d,Y,n,hi,q}}
  .obtain⟨v,q,B⟩:=s.val i d hi Y
   exact{v,q,B.av cut}
 .obtain⟨a,q,B,J,N⟩:=s.own i d hi (h i n)
  refine{a,q,{B,?_},J,N.av cut};rintro⟨j,d',h1,h2,U,W⟩;have:=s.inj i j d d' a (h i n) h1 hi U q W;subst this;exact h2 n
end
abbrev Ev:=dC->Option D
abbrev Bv:=dC->Option Bool
abbrev Lv:=dC->Option (List D)
abbrev RR:=Av->Hp->D->V->Prop
inductive tD(R:RR)(O:List Nat)(f:Ev)(σ:L2.St)(H:Hp)(Q:VK):Prop
 | mk (H0:Hp) (A0 A:Av) (E:List Fact) (ρ:dC) (d:D) (st:ST H0 A0 A E O σ H ρ) (e:f ρ=b4 d) (q:∀v H',Ext A H H'->R A H' d v->Q v H'):tD R O f σ H Q
inductive tDT(O:List Nat)(g:Bv)(σ:L2.St)(H:Hp)(Q:Bool->Hp->Prop):Prop
 | mk (H0:Hp) (A0 A:Av) (E:List Fact) (ρ:dC) (b:Bool) (st:ST H0 A0 A E O σ H ρ) (e:g ρ=b4 b) (q:∀H',Ext A H H'->Q b H'):tDT O g σ H Q
def PD(X:Cx)(O:List Nat)(e:Expr)(f:Ev):Prop:=PE X e<|tD Rep O f
def PB(X:Cx)(O:List Nat)(e:Expr)(f:Ev):Prop:=PE X e<|tD RepB O f
def pS(X:Cx)(O:List Nat)(e:Expr)(g:Bv):Prop:=PT X e<|tDT O g
def PDW(X:Cx)(O:List Nat)(e:Expr)(g:Bv):Prop:=PW X e<|tDT O g
theorem PDW.pt(h:PDW X O e g):pS X O e g:=PW.pt h
inductive RL(R:RR)(A:Av)(H:Hp):List D->List V->Prop where
 | nil:RL R A H [] []
 | cons {d v ds vs} (h:R A H d v) (t:RL R A H ds vs):RL R A H (d::ds)<|v::vs
inductive tDA(R:RR)(O:List Nat)(f:Lv)(σ:L2.St)(H:Hp)(Q:List V->Hp->Prop):Prop
 | mk (H0:Hp) (A0 A:Av) (E:List Fact) (ρ:dC) (ds:List D) (st:ST H0 A0 A E O σ H ρ) (e:f ρ=b4 ds) (q:∀vs H',Ext A H H'->RL R A H' ds vs->Q vs H'):tDA R O f σ H Q
def B0(X:Cx)(O:List Nat)(es:List Expr)(f:Lv):Prop:=PA X es<|tDA Rep O f
def uN(X:Cx)(O:List Nat)(es:List Expr)(f:Lv):Prop:=PA X es<|tDA RepB O f
section
variable {X:Cx}{O:List Nat}
def PE.mono(h:PE X e t)(x:∀σ H Q,t' σ H Q->t σ H Q):PE X e t':=λpins s σ H Q I w=>h pins s σ H Q I<|x σ H Q w
def PT.mono(h:PT X e t)(x:∀σ H Q,t' σ H Q->t σ H Q):PT X e t':=λpins s σ H Q I w=>h pins s σ H Q I<|x σ H Q w
def PW.mono(h:PW X e t)(x:∀σ H Q,t' σ H Q->t σ H Q):PW X e t':=λq pins s σ H Q I w=>h q pins s σ H Q I<|x σ H Q w
def PA.mono(h:PA X es t)(x:∀σ H Q,t' σ H Q->t σ H Q):PA X es t':=λpos pins s σ H Q I w=>h pos pins s σ H Q I<|x σ H Q w
def PD.b(h:PD X O e f):PB X O e f:=PE.mono h λσ H Q ⟨H0,A0,A,E,ρ,d,st,e,q⟩=>{H0,A0,A,E,ρ,d,st,e,λv H' x r=>q v H' x<|.of r}
theorem RL.toL:∀ {ds:List D} {vs:List V},RL Rep A H ds vs->RepL A H ds vs
 |_,_,.nil=>.nil
 |_,_,.cons h t=>.cons h<|RL.toL t
def aD(i:Nat):Ev:=λρ=>(ρ[i]?).join
def eC(d:D):Ev:=λ_=>b4 d
def cU{ρ:dC}{i:Nat}(h:(ρ[i]?).join=b4 d):ρ[i]?=b4 (b4 d):=by
 cases e:ρ[i]? with
 |none=>rw[e]at h;cases h
 |some o=>rw[e]at h;cases o with
  |none=>cases h
  |some x=>cases h;rfl
def VG{e:Expr}(i:Nat)(h:PE X e<|yL i)(n:i∉O):PD X O e<|aD i:=PE.mono h <| by
 rintro σ H Q ⟨H0,A0,A,E,ρ,d,st,e,q⟩;obtain⟨v,z,r⟩:=st.val i d (cU e) n;exact{v,z,q v H (Ext.refl _ _) r}
def VP{e:Expr}(i:Nat)(h:PE X e<|yL i):PB X O e<|aD i:=PE.mono h <| by
 rintro σ H Q ⟨H0,A0,A,E,ρ,d,st,e,q⟩;by_cases n:i∈O
 .obtain⟨a,z,_,_,r⟩:=st.own i d (cU e) n
  exact{_,z,q _ H (Ext.refl _ _) r.b}
 .obtain⟨v,z,r⟩:=st.val i d (cU e) n
  exact{v,z,q v H (Ext.refl _ _)<|.of r}
def WJ{i j pos}:PD X O (.Constant (.int i) j pos)<|eC<|.int i:=PE.mono UH λσ H Q ⟨H0,A0,A,E,ρ,d,st,e,q⟩=>by cases e;exact q _ H (Ext.refl _ _)<|.int _
def YT{i j pos}:PD X O (.Constant (.bool i) j pos)<|eC<|.bl i:=PE.mono YQ λσ H Q ⟨H0,A0,A,E,ρ,d,st,e,q⟩=>by cases e;exact q _ H (Ext.refl _ _)<|.bl _
def V3{i j pos}:PD X O (.Constant (.str i) j pos)<|eC<|.str i:=PE.mono VX λσ H Q ⟨H0,A0,A,E,ρ,d,st,e,q⟩=>by cases e;exact q _ H (Ext.refl _ _)<|.str _
def TN{j pos}:PD X O (.Constant .none j pos)<|eC .non:=PE.mono T7 λσ H Q ⟨H0,A0,A,E,ρ,d,st,e,q⟩=>by cases e;exact q _ H (Ext.refl _ _) .non
def Live(A:Av)(H:Hp):Prop:=∀a,A a->H a≠cg
def Live.ext(l:Live A H)(x:Ext A H H'):Live A H':=λa q=>by
 cases e:H a with
 |none=>exact absurd e<|l a q
 |some u=>rw[x.ow a u q e];exact λz=>nomatch z
inductive rD(g:D->D->Option D)(x y:V)(H:Hp)(Q:VK):Prop
 | mk (A:Av) (dx dy d:D) (lv:Live A H) (rx:RepB A H dx x) (ry:RepB A H dy y) (e:g dx dy=b4 d) (q:∀v H',Ext A H H'->Rep A H' d v->Q v H'):rD g x y H Q
def gC(X:Cx)(f:Value->Value->Sem Value)(g:D->D->Option D):Prop:=OpR X f<|rD g
def OpR.mono(h:OpR X f r)(x:∀a b H Q,r' a b H Q->r a b H Q):OpR X f r':=λpins s σ H a b v u Q I z q w=>h pins s σ H a b v u Q I z q<|x a b H Q w
def bE(g:D->D->Option D)(z q:Ev):Ev:=λρ=>(z ρ).bind λx=>(q ρ).bind λy=>g x y
def bind_some{z q:Type}{o:Option z}{f:z->Option q}{b:q}(h:o.bind f=b4 b):∃a,o=b4 a/\f a=b4 b:=by
 cases o with
 |none=>cases h
 |some a=>exact{a,rfl,h}
def x9{g:D->D->Option D}{G J:Ev}{σ:L2.St}(h:tD Rep O (bE g G J) σ H Q):YI (rD g) (tD RepB O G) (tD RepB O J) σ H Q:=by
 obtain⟨H0,A0,A,E,ρ,d,st,e,q⟩:=h;obtain⟨x,ex,e⟩:=bind_some e;obtain⟨y,ey,e⟩:=bind_some e;exact{H0,A0,A,E,ρ,x,st,ex,λv H1 F W=>{H0,A0,A,E,ρ,y,st.mono F,ey,λw H2 B r2=>{A,x,y,d,(st.mono<|F.trans B).live,W.ext B,r2,e,λz Y N U=>q z Y ((F.trans B).trans N) U}}}
def SY(z:gC X (zaW op) g)(B:PB X O a fa)(q:PB X O b fb):PD X O (.BinOp a op b pos)<|bE g fa fb:=
 PE.mono (SX z B q) λσ H Q h=>x9 h
def MH(B:gC X (zar op) g)(z:PB X O a fa)(q:PB X O b fb)(F:zcf op b=cr):PD X O (.Compare a [op] [b] pos)<|bE g fa fb:=
 PE.mono (P3 B z q F) λσ H Q h=>x9 h
def BZ:D->Option Bool
 |.bl b=>b4 b
 |_=>cg
def eT(h:BZ d=b4 b):d=.bl b:=by
 cases d <;> cases h;rfl
def lJ(f:Ev):Bv:=λρ=>(f ρ).bind BZ
def i4{f:Ev}{σ:L2.St}{H:Hp}(h:tDT O (lJ f) σ H Q):tD Rep O f σ H λx H'=>∃k,x=.bl k/\Q k H':=by
 obtain⟨H0,A0,A,E,ρ,b,st,e,q⟩:=h;obtain⟨x,ex,e⟩:=bind_some e;rw[eT e]at ex;exact{H0,A0,A,E,ρ,_,st,ex,λv H1 z B=>{b,RepB.bl_inv<|.of B,q H1 z}}
def xC(B:gC X (zar op) g)(z:PB X O a fa)(q:PB X O b fb)(F:zcf op b=cr):pS X O (.Compare a [op] [b] pos)<|lJ<|bE g fa fb:=
 PT.mono (E3 B z q F) λσ H Q h=>x9<|i4 h
def OO(h:PD X O e f)(z:∀q,isTrue e X.env q=(do let v <- q;standAt e.pos;zcr [v]<|truthy v):=by intro _;rfl):pS X O e<|lJ f:=
 PT.mono (UR h z) λσ H Q h=>i4 h
def EA(g:Bv):Bv:=λρ=>(g ρ).map (!·)
def yQ(g h:Bv):Bv:=λρ=>(g ρ).bind λb=>if b=cp then h ρ else b4 cr
def YG(g h:Bv):Bv:=λρ=>(g ρ).bind λb=>if b=cp then b4 cp else h ρ
def OB(h:pS X O a g):pS X O (.UnaryOp .Not a pos)<|EA g:=PT.mono (TJ h) <| by
 rintro σ H Q ⟨H0,A0,A,E,ρ,b,st,e,q⟩;unfold EA at e;cases z:g ρ with
 |none=>rw[z]at e;cases e
 |some c=>rw[z]at e;cases e;exact{H0,A0,A,E,ρ,c,st,z,q}
def J0(h:pS X O a g):PDW X O (.BoolOp .And [a] pos) g:=RA h
def QS(h:pS X O a g):PDW X O (.BoolOp .Or [a] pos) g:=U6 h
def O6{a b:Expr}{rest:List Expr}{pos:Pos}(G:pS X O a g)(B:PDW X O (.BoolOp .And (b::rest) pos) k):PDW X O (.BoolOp .And (a::b::rest) pos)<|yQ g k:=
 PW.mono (UQ G B) <| by
  rintro σ H Q ⟨H0,A0,A,E,ρ,b,st,e,q⟩;obtain⟨x,ex,e⟩:=bind_some e;refine{H0,A0,A,E,ρ,x,st,ex,λH1 z=>?_};cases x with
  |false=>rw[cx zat]at e ⊢;cases e;exact q H1 z
  |true=>rw[cw rfl]at e ⊢;exact{H0,A0,A,E,ρ,b,st.mono z,e,λH2 F=>q H2<|z.trans F}
def UJ{a b:Expr}{rest:List Expr}{pos:Pos}(G:pS X O a g)(B:PDW X O (.BoolOp .Or (b::rest) pos) k):PDW X O (.BoolOp .Or (a::b::rest) pos)<|YG g k:=
 PW.mono (ZT G B) <| by
  rintro σ H Q ⟨H0,A0,A,E,ρ,b,st,e,q⟩;obtain⟨x,ex,e⟩:=bind_some e;refine{H0,A0,A,E,ρ,x,st,ex,λH1 z=>?_};cases x with
  |true=>rw[cw rfl]at e ⊢;cases e;exact q H1 z
  |false=>rw[cx zat]at e ⊢;exact{H0,A0,A,E,ρ,b,st.mono z,e,λH2 F=>q H2<|z.trans F}
def qp(f g:Ev):Ev:=λρ=>(f ρ).bind λx=>(BZ x).bind λb=>if b=cp then g ρ else b4<|.bl cr
def eOr(f g:Ev):Ev:=λρ=>(f ρ).bind λx=>(BZ x).bind λb=>if b=cp then b4 (.bl cp)else g ρ
def qae(f:Ev):Ev:=λρ=>(f ρ).bind λx=>(BZ x).map λb=>.bl<|!b
def eIf(c:Bv)(f g:Ev):Ev:=λρ=>(c ρ).bind λb=>if b=cp then f ρ else g ρ
def UO{op}(h:PD X O a f):PD X O (.BoolOp op [a] pos) f:=V1 h
def VI{a b:Expr}{rest:List Expr}{pos:Pos}(B:PD X O a f)(F:PD X O (.BoolOp .And (b::rest) pos) g):PD X O (.BoolOp .And (a::b::rest) pos)<|qp f g:=
 PE.mono (TR B F) <| by
  rintro σ H Q ⟨H0,A0,A,E,ρ,d,st,e,q⟩;obtain⟨x,ex,e⟩:=bind_some e;obtain⟨b,J,e⟩:=bind_some e;rw[eT J]at ex;refine{H0,A0,A,E,ρ,_,st,ex,λv H1 z G=>{b,RepB.bl_inv<|.of G,?_}};cases b with
  |false=>rw[cx zat]at e ⊢;cases e;exact q _ H1 z<|.bl _
  |true=>rw[cw rfl]at e ⊢;exact{H0,A0,A,E,ρ,d,st.mono z,e,λw H2 N=>q w H2<|z.trans N}
def YX{a b:Expr}{rest:List Expr}{pos:Pos}(B:PD X O a f)(F:PD X O (.BoolOp .Or (b::rest) pos) g):PD X O (.BoolOp .Or (a::b::rest) pos)<|eOr f g:=
 PE.mono (ZV B F) <| by
  rintro σ H Q ⟨H0,A0,A,E,ρ,d,st,e,q⟩;obtain⟨x,ex,e⟩:=bind_some e;obtain⟨b,J,e⟩:=bind_some e;rw[eT J]at ex;refine{H0,A0,A,E,ρ,_,st,ex,λv H1 z G=>{b,RepB.bl_inv<|.of G,?_}};cases b with
  |true=>rw[cw rfl]at e ⊢;cases e;exact q _ H1 z<|.bl _
  |false=>rw[cx zat]at e ⊢;exact{H0,A0,A,E,ρ,d,st.mono z,e,λw H2 N=>q w H2<|z.trans N}
def VC{a:Expr}{pos:Pos}{f:Ev}(G:PD X O a f):PD X O (.UnaryOp .Not a pos)<|qae f:=
 PE.mono (VM G) <| by
  rintro σ H Q ⟨H0,A0,A,E,ρ,d,st,e,q⟩;obtain⟨x,ex,e⟩:=bind_some e;cases z:BZ x with
  |none=>rw[z]at e;cases e
  |some b=>
   rw[z]at e;cases e;rw[eT z]at ex;exact{H0,A0,A,E,ρ,_,st,ex,λv H1 B F=>{b,RepB.bl_inv<|.of F,q _ H1 B<|.bl _}}
def Y6{c a b:Expr}{pos:Pos}{g:Bv}(J:pS X O c g)(F:PD X O a f)(G:PD X O b k):PD X O (.IfExp c a b pos)<|eIf g f k:=
 PE.mono (K2 J F G) <| by
  rintro σ H Q ⟨H0,A0,A,E,ρ,d,st,e,q⟩;obtain⟨b,N,e⟩:=bind_some e;refine{H0,A0,A,E,ρ,b,st,N,λH1 z=>?_};cases b with
  |true=>rw[cw rfl]at e ⊢;exact{H0,A0,A,E,ρ,d,st.mono z,e,λw H2 B=>q w H2<|z.trans B}
  |false=>rw[cx zat]at e ⊢;exact{H0,A0,A,E,ρ,d,st.mono z,e,λw H2 B=>q w H2<|z.trans B}
def hW(g g':D->D->Option D)(F q B:Ev):Ev:=λρ=>(F ρ).bind λx=>(q ρ).bind λy=>(g x y).bind λz=>(BZ z).bind λb=>if b=cp then(B ρ).bind λw=>g' y w else b4<|.bl cr
end
section
variable {X:Cx}{O:List Nat}
def wB(h:tD Rep O (hW g g' fa fb fc) σ H Q):DL (rD g) (rD g') (tD RepB O fa) (tD RepB O fb) (tD RepB O fc) σ H Q:=by
 obtain⟨H0,A0,A,E,ρ,d,st,e,q⟩:=h;obtain⟨x,ex,e⟩:=bind_some e;obtain⟨y,ey,e⟩:=bind_some e;obtain⟨z,N,e⟩:=bind_some e;obtain⟨b,eb,e⟩:=bind_some e;rw[eT eb]at N;refine{H0,A0,A,E,ρ,x,st,ex,λv H1 G r1=>{H0,A0,A,E,ρ,y,st.mono G,ey,λw H2 F W=>{A,x,y,_,(st.mono<|G.trans F).live,r1.ext F,W,N,λz H3 U r3=>{b,RepB.bl_inv<|.of r3,?_}}}};have B:=(G.trans F).trans U;cases b with
 |false=>rw[cx zat]at e ⊢;cases e;exact q _ H3 B<|.bl _
 |true=>
  rw[cw rfl]at e ⊢;obtain⟨u,eu,e⟩:=bind_some e;exact{H0,A0,A,E,ρ,u,st.mono B,eu,λz' H4 J r4=>{A,y,u,d,(st.mono<|B.trans J).live,W.ext<|U.trans J,r4,e,λz2 H5 x5 Y=>q z2 H5 ((B.trans J).trans x5) Y}}
def JZ(J:gC X (zar op) g)(q:gC X (zar op') g')(z:PB X O a fa)(B:PB X O b fb)(F:PB X O c fc)
  (G:zcV [op,op'] [b,c]=cr:=by with_unfolding_all rfl):PD X O (.Compare a [op,op'] [b,c] pos)<|hW g g' fa fb fc:=PE.mono (K8 J q z B F G) λσ H Q h=>wB h
def HI(J:gC X (zar op) g)(q:gC X (zar op') g')(z:PB X O a fa)(B:PB X O b fb)(F:PB X O c fc)
  (G:zcV [op,op'] [b,c]=cr:=by with_unfolding_all rfl):pS X O (.Compare a [op,op'] [b,c] pos)<|lJ<|hW g g' fa fb fc:=PT.mono (LP J q z B F G) λσ H Q h=>wB<|i4 h
def bB:Lv:=λ_=>b4 []
def aE(f:Ev)(g:Lv):Lv:=λρ=>(f ρ).bind λx=>(g ρ).bind λxs=>b4<|x::xs
def OH:B0 X O [] bB:=PA.mono k9 λσ H Q ⟨H0,A0,A,E,ρ,d,st,e,q⟩=>by cases e;exact q [] H (Ext.refl _ _) .nil
def FU:uN X O [] bB:=PA.mono k9 λσ H Q ⟨H0,A0,A,E,ρ,d,st,e,q⟩=>by cases e;exact q [] H (Ext.refl _ _) .nil
def AO(N:∀A H H' d v,Ext A H H'->R A H d v->R A H' d v)(h:tDA R O (aE f g) σ H Q):F9 (tD R O f) (tDA R O g) σ H Q:=by
 obtain⟨H0,A0,A,E,ρ,d,st,e,q⟩:=h;obtain⟨x,ex,e⟩:=bind_some e;obtain⟨xs,z,e⟩:=bind_some e;cases e;exact{H0,A0,A,E,ρ,x,st,ex,λv H1 F G=>{H0,A0,A,E,ρ,xs,st.mono F,z,λvs H2 B J=>q (v::vs) H2 (F.trans B)<|.cons (N _ _ _ _ _ B G) J}}
def L4(z:PD X O e f)(q:B0 X O es g)(hs:zah (e::es) X.env=(cr,eval e X.env)::zah es X.env:=by rfl):B0 X O (e::es)<|aE f g:=
 PA.mono (fQ z q hs) λσ H Q h=>AO (λ_ _ _ _ _ x r=>r.ext x) h
def BL(z:PB X O e f)(q:uN X O es g)(hs:zah (e::es) X.env=(cr,eval e X.env)::zah es X.env:=by rfl):uN X O (e::es)<|aE f g:=
 PA.mono (fQ z q hs) λσ H Q h=>AO (λ_ _ _ _ _ x r=>r.ext x) h
inductive tF(O:List Nat)(f:Ev)(σ:L2.St)(H:Hp)(Q:VK):Prop
 | mk (H0:Hp) (A0 A:Av) (E:List Fact) (ρ:dC) (d:D) (st:ST H0 A0 A E O σ H ρ) (e:f ρ=b4 d) (q:∀a H',Ext A H H'->H a=cg->¬ A a->Own (λb=>A b\/b=a) H' d a->Q (.ref a) H'):tF O f σ H Q
def PF(X:Cx)(O:List Nat)(e:Expr)(f:Ev):Prop:=PE X e<|tF O f
def PF.d(h:PF X O e f):PD X O e f:=PE.mono h λσ H Q ⟨H0,A0,A,E,ρ,d,st,e,q⟩=>
 {H0,A0,A,E,ρ,d,st,e,λa H' x n B o=>q _ H' x<|(o.av (A':=A) λb z=>.inl<|.inl z).rep B}
def RepL.fresh(n:H p=cg)(r:RepL A H ds vs):RepL (λb=>A b\/b=p) (upd H p o) ds vs:=by
 have z:RepL (λb=>A b\/b=p) H ds vs:=r.av λb q=>by
  rcases q with q|q
  .exact .inl q
  .exact .inr<|q ▸ n
 exact z.ext<|Ext.new n
def Ext.free(x:Ext A H H')(n:H' p=cg):H p=cg:=by
 cases e:H p with
 |none=>rfl
 |some u=>rcases x.rd p u (.inl e)with h|⟨o,h⟩ <;> (rw[n]at h;cases h)
def gQ(g:Lv):Ev:=λρ=>(g ρ).map .tup
def u3(g:Lv):Ev:=λρ=>(g ρ).map .lst
theorem RL.length:∀ {ds:List D} {vs:List V},RL R A H ds vs->vs.length=ds.length
 |_,_,.nil=>rfl
 |_,_,.cons _ t=>by rw[zaU,zaU,RL.length t]
def a7(n:Nat):Bool:=decide (n<=1000000)
def fP(h:a7 n=cp):n<=zal:=zbf (of_decide_eq_true h)<|by decide
def qB(h:a7 n=cp):n<zal:=zdm (of_decide_eq_true h)<|by decide
def map_some{z q:Type}{o:Option z}{f:z->q}{b:q}(h:o.map f=b4 b):∃a,o=b4 a/\f a=b:=by
 cases o with
 |none=>cases h
 |some a=>exact{a,rfl,zaD h}
def Len(g:Lv)(n:Nat):Prop:=∀ρ ds,g ρ=b4 ds->ds.length=n
def R5:Len bB 0:=λρ ds h=>by cases h;rfl
def JQ(h:Len g n):Len (aE f g)<|n+1:=λρ ds e=>by
 obtain⟨x,ex,e⟩:=bind_some e;obtain⟨xs,q,e⟩:=bind_some e;cases e;rw[zaU,h ρ xs q]
def D0{es:List Expr}{z}{pos:Pos}{g:Lv}(h:B0 X O es g)(J:∀ρ ds,g ρ=b4 ds->ds.length<=100):PD X O (.Tuple es z pos)<|gQ g:=PE.mono (UD h) <| by
 rintro σ H Q ⟨H0,A0,A,E,ρ,d,st,e,q⟩;obtain⟨ds,G,rfl⟩:=map_some e;refine{H0,A0,A,E,ρ,ds,st,G,λvs H1 z B=>{by rw[B.length];exact zbf (J ρ ds G)<|by decide,λp F=>?_}};exact q _ _ (z.trans<|Ext.new F)<|.tup aI<|B.toL.ext<|Ext.new F
def M4{es:List Expr}{pos:Pos}{g:Lv}(h:B0 X O es g)(N:∀ρ ds,g ρ=b4 ds->ds.length<=100):PF X O (.List es pos)<|u3 g:=PE.mono (XC h) <| by
 rintro σ H Q ⟨H0,A0,A,E,ρ,d,st,e,q⟩;obtain⟨ds,J,rfl⟩:=map_some e;refine{H0,A0,A,E,ρ,ds,st,J,λvs H1 F G=>{by rw[G.length];exact zbf (N ρ ds J)<|by decide,λp B=>?_}};exact q p _ (F.trans<|Ext.new B) (F.free B) (λz=>(st.mono F).live p z B)<|.lst aI<|G.toL.fresh B
def K1:PF X O (.Dict [] [] pos)<|eC<|.dK []:=PE.mono K3 <| by
 rintro σ H Q ⟨H0,A0,A,E,ρ,d,st,e,q⟩ p B;cases e;exact q p _ (Ext.new B) B (λz=>st.live p z B)<|.dK aI rfl .nil
def l9:PF X O (.Dict [] [] pos)<|eC<|.dT []:=PE.mono JU <| by
 rintro σ H Q ⟨H0,A0,A,E,ρ,d,st,e,q⟩ p B;cases e;exact q p _ (Ext.new B) B (λz=>st.live p z B)<|.dT aI rfl .nil
inductive rC(g:List D->Option D)(xs:List V)(H:Hp)(Q:VK):Prop
 | mk (A:Av) (ds:List D) (d:D) (lv:Live A H) (r:RL RepB A H ds xs) (e:g ds=b4 d) (q:∀v H',Ext A H H'->Rep A H' d v->Q v H'):rC g xs H Q
inductive rCF(g:List D->Option D)(xs:List V)(H:Hp)(Q:VK):Prop
 | mk (A:Av) (ds:List D) (d:D) (lv:Live A H) (r:RL RepB A H ds xs) (e:g ds=b4 d) (q:∀a H',Ext A H H'->H a=cg->¬ A a->Own (λb=>A b\/b=a) H' d a->Q (.ref a) H'):rCF g xs H Q
def i9(X:Cx)(f:Value)(g:List D->Option D):Prop:=CallR X f<|rC g
def BM(X:Cx)(f:Value)(g:List D->Option D):Prop:=CallR X f<|rCF g
def CallR.mono(h:CallR X f r)(x:∀a H Q,r' a H Q->r a H Q):CallR X f r':=λpins s σ H a v Q I q w=>h pins s σ H a v Q I q<|x a H Q w
def aW(g:List D->Option D)(f:Lv):Ev:=λρ=>(f ρ).bind g
def vN(h:tD Rep O (aW g f) σ H Q):tCB (rC g) (tDA RepB O f) σ H Q:=by
 obtain⟨H0,A0,A,E,ρ,d,st,e,q⟩:=h;obtain⟨ds,G,e⟩:=bind_some e;exact{H0,A0,A,E,ρ,ds,st,G,λvs H1 z B=>{A,ds,d,(st.mono z).live,B,e,λv H2 J F=>q v H2 (z.trans J) F}}
def HA(h:tF O (aW g f) σ H Q):tCB (rCF g) (tDA RepB O f) σ H Q:=by
 obtain⟨H0,A0,A,E,ρ,d,st,e,q⟩:=h;obtain⟨ds,G,e⟩:=bind_some e;exact{H0,A0,A,E,ρ,ds,st,G,λvs H1 z F=>{A,ds,d,(st.mono z).live,F,e,λa H2 J n B o=>q a H2 (z.trans J) (z.free n) B o}}
section
variable {x:Str}{id T:String}{g:List D->Option D}{e:Expr}{es:List Expr}{f:Lv}{p pos:Pos}
def LB(F:i9 X (.builtin id) g)(U:Gl X x)(G:X.mg x=cg)(J:zaO x=b4 (.builtin id))(B:uN X O (e::es) f)(W:x ≠ "__name__" := by decide)(z:(x == ("__debug__" : Str))=cr:=by decide)
  (N:zah (e::es) X.env=(cr,eval e X.env)::zah es X.env:=by rfl) (q:(zaJ pos<|zah es X.env).any (·.1)=cr:=by rfl) :
  PD X O (.Call (.Name x p) (e::es) [] pos) (aW g f):=PE.mono (sY F U G J B W z N q) λσ H Q h=>vN h
def IN(F:i9 X (.type T) g)(U:Gl X x)(G:X.mg x=cg)(J:zaO x=b4 (.type T))(B:uN X O (e::es) f)(W:x ≠ "__name__" := by decide)(z:(x == ("__debug__" : Str))=cr:=by decide)
  (N:zah (e::es) X.env=(cr,eval e X.env)::zah es X.env:=by rfl) (q:(zaJ pos<|zah es X.env).any (·.1)=cr:=by rfl) :
  PD X O (.Call (.Name x p) (e::es) [] pos) (aW g f):=PE.mono (vL F U G J B W z N q) λσ H Q h=>vN h
def IV(F:BM X (.type T) g)(U:Gl X x)(G:X.mg x=cg)(J:zaO x=b4 (.type T))(B:uN X O (e::es) f)(W:x ≠ "__name__" := by decide)(z:(x == ("__debug__" : Str))=cr:=by decide)
  (N:zah (e::es) X.env=(cr,eval e X.env)::zah es X.env:=by rfl) (q:(zaJ pos<|zah es X.env).any (·.1)=cr:=by rfl) :
  PF X O (.Call (.Name x p) (e::es) [] pos) (aW g f):=PE.mono (vL F U G J B W z N q) λσ H Q h=>HA h
end
def spD(n:Nat)(F:List D->Option D):Sp:=λvs H Q _=>∃A ds d,Live A H/\RepL A H ds vs/\vs.length=n/\F ds=b4 d/\∀v H',Ext A H H'->Rep A H' d v->Q v H'
def Fn(P:zap)(w:World)(K:zaf)(mg:Str->Option Value)(base:Heap)(x:Str)(k:Nat)(ps:List Str)(F:List D->Option D):Prop:=My.Ok P w K mg base x k ps<|spD ps.length F
def RZ(O':Fn X.prog X.w X.K X.mg X.base x k ps F)(U:Room k X.A)(hg:Gl X x)(W:B0 X O (e::es) f)(Y:∀ρ ds,f ρ=b4 ds->ds.length=ps.length)(B:(x == ("__debug__" : Str))=cr:=by decide)
  (he:zah (e::es) X.env=(cr,eval e X.env)::zah es X.env:=by rfl) (z:(zaJ pos<|zah es X.env).any (·.1)=cr:=by rfl) :
  PD X O (.Call (.Name x p) (e::es) [] pos) (aW F f):=PE.mono (My.JS O' U hg W B he z) λσ H Q ⟨H0,A0,A,E,ρ,d,st,e,q⟩=>by
 obtain⟨ds,J,e⟩:=bind_some e;exact{H0,A0,A,E,ρ,ds,st,J,λvs H1 N G=>{A,ds,d,(st.mono N).live,G.toL,by rw[G.length];exact Y ρ ds J,e,λv H2 x2 r2=>q v H2 (N.trans x2) r2}}
def IxR.mono(h:IxR X r)(x:∀a b H Q,r' a b H Q->r a b H Q):IxR X r':=λF B pins s σ H a b v u Q I z q w=>h F B pins s σ H a b v u Q I z q<|x a b H Q w
def dIx:D->D->Option D
 |.lst l,.int i=>d8 l i
 |.tup l,.int i=>d8 l i
 |.str z,.int i=>if a7 z.length then(d8 z.cps.toList i).map λc=>.str {#[c]}else cg
 |_,_=>cg
def RepL.at(r:RepL A H ds vs)(h:d8 ds i=b4 d):∃v,d8 vs i=b4 v/\Rep A H d v:=by
 obtain⟨j,q,B⟩:=bind_some h;obtain⟨v,z,F⟩:=r.get' B;refine{v,?_,F};unfold d8;rw[r.length,q];exact z
def nn{q:Type}{a:q}{P:Prop}(h:(cg:Option q)=b4 a):P:=nomatch h
def ff{P:Prop}(h:cr=cp):P:=nomatch h
def qaF:IxR X<|rD dIx:=IxR.mono U7 <| by
 rintro x y H Q ⟨A,dx,F,d,U,G,N,e,q⟩;cases dx with
 |lst l=>
  cases F with
  |int i=>
   have:=N.int_inv;subst this;obtain⟨a,xs,rfl,h,r⟩:=G.lst_inv;obtain⟨v,B,J⟩:=r.at e;exact .inl {a,xs,i,v,rfl,rfl,.inl h,B,q v H (Ext.refl _ _) J}
  |_=>exact nn e
 |tup l=>
  cases F with
  |int i=>
   have:=N.int_inv;subst this;obtain⟨a,xs,rfl,h,r⟩:=G.tup_inv;obtain⟨v,B,J⟩:=r.at e;exact .inr<|.inl {a,xs,i,v,rfl,rfl,.inl<|.inl h,B,q v H (Ext.refl _ _) J}
  |_=>exact nn e
 |str z=>
  cases F with
  |int i=>
   have:=N.int_inv;subst this;have:=G.str_inv;subst this;simp only[dIx]at e;by_cases hz:a7 z.length=cp
   .rw[cw hz]at e
    obtain⟨c,B,rfl⟩:=map_some e;exact .inr<|.inr {z,i,c,rfl,rfl,fP hz,B,q _ H (Ext.refl _ _)<|.str _}
   .rw[cx hz]at e;exact nn e
  |_=>exact nn e
 |_=>exact nn e
abbrev Ov:=dC->Option (Option Int)
inductive tDO(O:List Nat)(g:Ov)(σ:L2.St)(H:Hp)(Q:Option Int->Hp->Prop):Prop
 | mk (H0:Hp) (A0 A:Av) (E:List Fact) (ρ:dC) (o:Option Int) (st:ST H0 A0 A E O σ H ρ) (e:g ρ=b4 o) (q:∀H',Ext A H H'->Q o H'):tDO O g σ H Q
def S9(X:Cx)(O:List Nat)(e:Option Expr)(g:Ov):Prop:=PO X e<|tDO O g
def PO.mono(h:PO X e t)(x:∀σ H Q,t' σ H Q->t σ H Q):PO X e t':=λpins s σ H Q I w=>h pins s σ H Q I<|x σ H Q w
def uI:Ov:=λ_=>b4 cg
def S4:D->Option Int
 |.int i=>b4 i
 |_=>cg
def sV(h:S4 d=b4 i):d=.int i:=by cases d <;> cases h;rfl
def mX(f:Ev):Ov:=λρ=>(f ρ).bind λd=>(S4 d).map b4
def LC:S9 X O cg uI:=PO.mono O7 λσ H Q ⟨H0,A0,A,E,ρ,d,st,e,q⟩=>by cases e;exact q H<|Ext.refl _ _
def K0{e:Expr}{f:Ev}(h:PD X O e f):S9 X O (b4 e)<|mX f:=PO.mono (Q5 h) <| by
 rintro σ H Q ⟨H0,A0,A,E,ρ,d,st,e,q⟩;obtain⟨x,ex,e⟩:=bind_some e;obtain⟨i,z,rfl⟩:=map_some e;rw[sV z]at ex;exact{H0,A0,A,E,ρ,_,st,ex,λv H1 B F=>{i,RepB.int_inv<|.of F,q H1 B}}
def cutD(xs:List D)(lo hi:Option Int):List D:=(xs.drop<|HT.sIx xs.length 0 lo).take<|HT.sIx xs.length xs.length hi-HT.sIx xs.length 0 lo
def RepL.cut{lo hi:Option Int}(r:RepL A H ds vs):RepL A H (cutD ds lo hi)<|u4 vs lo hi:=by
 unfold cutD u4;rw[r.length];exact(r.drop _).take _
def OA(g:D->Option Int->Option Int->Option D)(f:Ev)(a b:Ov):Ev:=λρ=>(f ρ).bind λx=>(a ρ).bind λlo=>(b ρ).bind λhi=>g x lo hi
inductive rS(g:D->Option Int->Option Int->Option D)(x:V)(lo hi:Option Int)(H:Hp)(Q:VK):Prop
 | mk (A:Av) (dx d:D) (lv:Live A H) (r:RepB A H dx x) (e:g dx lo hi=b4 d) (q:∀v H',Ext A H H'->Rep A H' d v->Q v H'):rS g x lo hi H Q
inductive rSF(g:D->Option Int->Option Int->Option D)(x:V)(lo hi:Option Int)(H:Hp)(Q:VK):Prop
 | mk (A:Av) (dx d:D) (lv:Live A H) (r:RepB A H dx x) (e:g dx lo hi=b4 d) (q:∀a H',Ext A H H'->H a=cg->¬ A a->Own (λb=>A b\/b=a) H' d a->Q (.ref a) H'):rSF g x lo hi H Q
def SlR.mono(h:SlR X r)(x:∀a b c H Q,r' a b c H Q->r a b c H Q):SlR X r':=λpins s σ H a v F J lo hi q Q I B hs G z w=>h pins s σ H a v F J lo hi q Q I B hs G z<|x a lo hi H Q w
def qaG:D->Option Int->Option Int->Option D
 |.tup l,lo,hi=>b4<|.tup<|cutD l lo hi
 |_,_,_=>cg
def qag:D->Option Int->Option Int->Option D
 |.lst l,lo,hi=>b4<|.lst<|cutD l lo hi
 |_,_,_=>cg
def LO{lo hi:Option Expr}(G:SlR X<|rS g)(he:PB X O e f)(Y:S9 X O lo a)(N:S9 X O hi b):PD X O (.Subscript e (.Slice lo hi cg p2) pos)<|OA g f a b:=
 PE.mono (KF G he Y N) <| by
  rintro σ H Q ⟨H0,A0,A,E,ρ,d,st,e,q⟩;obtain⟨x,ex,e⟩:=bind_some e;obtain⟨l,el,e⟩:=bind_some e;obtain⟨h,U,e⟩:=bind_some e;exact{H0,A0,A,E,ρ,x,st,ex,λv H1 B W=>{H0,A0,A,E,ρ,l,st.mono B,el,λH2 z=>{H0,A0,A,E,ρ,h,st.mono<|B.trans z,U,λH3 F=>{A,x,d,(st.mono<|(B.trans z).trans F).live,W.ext<|z.trans F,e,λv H4 J r4=>q v H4 (((B.trans z).trans F).trans J) r4}}}}
def qa0:SlR X<|rS qaG:=SlR.mono My.QC <| by
 rintro x lo hi H Q ⟨A,dx,d,G,F,e,q⟩;cases dx with
 |tup l=>
  obtain⟨a,xs,rfl,h,r⟩:=F.tup_inv;cases e;by_cases w:HT.sIx xs.length 0 lo=0/\HT.sIx xs.length xs.length hi=xs.length
  .refine .inr {a,xs,rfl,.inl<|.inl h,w,q _ H (Ext.refl _ _)<|.tup h ?_}
   have B:u4 xs lo hi=xs:=by unfold u4;rw[w.1,w.2];simp
   rw[<- B];exact r.cut
  .exact .inl {a,xs,rfl,.inl<|.inl h,w,λp z=>q _ _ (Ext.new z)<|.tup aI<|r.cut.ext<|Ext.new z}
 |_=>exact nn e
def qa7:SlR X<|rSF qag:=SlR.mono QK <| by
 rintro x lo hi H Q ⟨A,dx,d,F,G,e,q⟩;cases dx with
 |lst l=>
  obtain⟨a,xs,rfl,h,r⟩:=G.lst_inv;cases e;exact{a,xs,rfl,.inl h,λp B=>q p _ (Ext.new B) B (λz=>F p z B)<|.lst aI<|r.cut.fresh B}
 |_=>exact nn e
end
inductive Out where
 | nx (ρ:dC)|rt (d:D)|bk (ρ:dC)|ct (ρ:dC)
abbrev Sv:=dC->Option Out
structure Lp where
 ob:List Nat
 oc:List Nat
def qaI(L:Lp)(H0:Hp)(A0:Av)(E:List Fact)(O':List Nat)(T:Ends):Out->Prop
 |.nx ρ=>∀A σ H,ST H0 A0 A E O' σ H ρ->T.nx σ H
 |.rt d=>∀v H,Ext A0 H0 H->Rep A0 H d v->T.rt v H
 |.bk ρ=>∀A σ H,ST H0 A0 A E L.ob σ H ρ->T.bk σ H
 |.ct ρ=>∀A σ H,ST H0 A0 A E L.oc σ H ρ->T.ct σ H
inductive tS(L:Lp)(O:List Nat)(f:Sv)(O':List Nat)(T:Ends)(σ:L2.St)(H:Hp):Prop
 | mk (H0:Hp) (A0 A:Av) (E:List Fact) (ρ:dC) (out:Out) (st:ST H0 A0 A E O σ H ρ) (e:f ρ=b4 out) (p:qaI L H0 A0 E O' T out):tS L O f O' T σ H
def jB(X:Cx)(L:Lp)(O:List Nat)(st:Stmt)(f:Sv)(O':List Nat):Prop:=PS X st<|tS L O f O'
def dY(X:Cx)(L:Lp)(O:List Nat)(st:List Stmt)(f:Sv)(O':List Nat):Prop:=PSs X st<|tS L O f O'
section
variable {X:Cx}{L:Lp}{O O' O2:List Nat}
def PS.mono{st:Stmt}(h:PS X st t)(x:∀T σ H,t' T σ H->t T σ H):PS X st t':=λpins s σ H T I w=>h pins s σ H T I<|x T σ H w
def PSs.mono{st:List Stmt}(h:PSs X st t)(x:∀T σ H,t' T σ H->t T σ H):PSs X st t':=λpins s σ H T I w=>h pins s σ H T I<|x T σ H w
def Sub(a b:List Nat):Bool:=a.all λi=>b.contains i
def Sub.mem(h:Sub a b=cp)(i:Nat)(hi:i∈a):i∈b:=by
 have:=(List.all_eq_true.mp h) i hi;simpa using this
def B4:Sv:=λρ=>b4<|.nx ρ
def bW(f g:Sv):Sv:=λρ=>(f ρ).bind λo=>match o with
 |.nx ρ'=>g ρ'
 |o=>b4 o
def FX(h:Sub O' O=cp:=by rfl):dY X L O [] B4 O':=PSs.mono QA <| by
 rintro T σ H ⟨H0,A0,A,E,ρ,z,st,e,p⟩;cases e;obtain⟨A',q⟩:=st.shut<|Sub.mem h;exact p A' σ H q
def RC(h:tS L O (bW f g) O' T σ H):qa (tS L O f O2) (tS L O2 g O') T σ H:=by
 obtain⟨H0,A0,A,E,ρ,z,st,e,p⟩:=h;obtain⟨o,F,e⟩:=bind_some e;refine{H0,A0,A,E,ρ,o,st,F,?_};cases o with
 |nx ρ'=>exact λA' B H' q=>{H0,A0,A',E,ρ',z,q,e,p}
 |rt d=>cases e;exact p
 |bk d=>cases e;exact p
 |ct d=>cases e;exact p
def KI{st:Stmt}{rest:List Stmt}(h1:jB X L O st f O2)(h2:dY X L O2 rest g O'):dY X L O (st::rest) (bW f g) O':=PSs.mono (KM h1 h2) λT σ H h=>RC h
def aC{st:Stmt}(h1:jB X L O st f O'):dY X L O [st] f O':=OY h1
def JM(f:Ev):Sv:=λρ=>(f ρ).map .rt
def R0{e:Expr}(B:PD X O e f):jB X L O (.Return (b4 e) pos) (JM f) O':=PS.mono (UN B) <| by
 rintro T σ H ⟨H0,A0,A,E,ρ,z,st,e,p⟩;obtain⟨d,q,rfl⟩:=map_some e;exact{H0,A0,A,E,ρ,d,st,q,λv H' x r=>p v H' (st.mono x).ex<|r.av λa F=>.inl<|st.sub a F}
def NU(f:Ev):Sv:=λρ=>(f ρ).map λ_=>.nx ρ
def L1{e:Expr}(F:PB X O e f)(hs:za7 e cg pos.line X.env=pure cr:=by rfl)(h:Sub O' O=cp:=by rfl):jB X L O (.Expr e pos) (NU f) O':=PS.mono (FO F hs) <| by
 rintro T σ H ⟨H0,A0,A,E,ρ,z,st,e,p⟩;obtain⟨d,B,rfl⟩:=map_some e;refine{H0,A0,A,E,ρ,d,st,B,λv H' x r=>?_};obtain⟨A',q⟩:=(st.mono x).shut<|Sub.mem h;exact p A' σ H' q
def wL(c:Bv)(f g:Sv):Sv:=λρ=>(c ρ).bind λb=>if b=cp then f ρ else g ρ
def D3{c:Expr}(G:pS X O c g)(B:dY X L O a f O')(F:dY X L O b k O'):jB X L O (.If c a b pos) (wL g f k) O':=PS.mono (ZC G B F) <| by
 rintro T σ H ⟨H0,A0,A,E,ρ,q,st,e,p⟩;obtain⟨b,J,e⟩:=bind_some e;refine{H0,A0,A,E,ρ,b,st,J,λH1 z=>?_};cases b with
 |true=>rw[cw rfl]at e ⊢;exact{H0,A0,A,E,ρ,q,st.mono z,e,p}
 |false=>rw[cx zat]at e ⊢;exact{H0,A0,A,E,ρ,q,st.mono z,e,p}
def dA(i:Nat)(f:Ev):Sv:=λρ=>(f ρ).map λd=>.nx<|ρ.set i<|b4 d
def Sub.er{a b:List Nat}(h:Sub a (b.filter (· != i))=cp)(q:j∈a):j∈b/\j≠i:=by
 have:=Sub.mem h j q;rw[List.mem_filter]at this;exact{this.1,by simpa using this.2}
def EJ{i:Nat}(hN:X.N.Nodup)(hi:X.N[i]?=b4 x)(G:Loc X.env.scope x)(Y:PD X O e f)(h:Sub O' (O.filter (· != i))=cp:=by rfl)
  (hs:za7 e (b4<|.Name x pos') pos.line X.env=pure cr:=by rfl) (hf:X.fn x=cp\/X.env.scope.names.lookup x=b4 .local:=by first|exact .inl rfl|exact .inr rfl):jB X L O (.Assign [.Name x pos'] e pos) (dA i f) O':=
 PS.mono (NE hN hi G Y hs hf) <| by
  rintro T σ H ⟨H0,A0,A,E,ρ,aa,st,e,p⟩;obtain⟨d,W,rfl⟩:=map_some e;refine{H0,A0,A,E,ρ,d,st,W,λv H' x r=>?_}
  -- i leaves what may be written ahead of the store: the value is borne by fewer too
  have F:=(st.mono x).more r;obtain⟨A',B⟩:=F.shut (O':=O') λj U=>(Sub.er h U).1
  exact p A' _ H'<|(B.put (B.ext _<|zaw ..) λz=>(Sub.er h z).2 rfl).less λq J=>zax _ J
def Own.there:Own A H d a->H a≠cg
 |.lst h _=>by rw[h];exact λz=>nomatch z
 |.dK h _ _=>by rw[h];exact λz=>nomatch z
 |.dT h _ _=>by rw[h];exact λz=>nomatch z
def ST.own_put(s:ST H0 A0 A E O σ H ρ)(x:Ext A H H')(n:H a=cg)(na:¬ A a)(o:Own (λb=>A b\/b=a) H' d a)(ni:i∉O) :
  ST H0 A0 (λb=>A b\/b=a) E (i::O) (σ.set i<|b4<|.ref a) H' (ρ.set i<|b4 d):=by
 have s':=s.mono x;have n0:H0 a=cg:=s.ex.free n
 -- whatever was borne ahead avoids a
 have G:Ext (λb=>A b\/b=a) H H':={x.rd,x.kp,λb u q e=>q.elim (λq=>x.ow b u q e) λq=>(by subst q;rw[n]at e;exact nomatch e),x.fz};have ad:∀ {p:Fact},p.Holds A H->p.Holds (λb=>A b\/b=a) H':=λr=>Fact.ext G (Fact.av (A':=λb=>A b\/b=a) (λb q=>by
   rcases q with q|q
   .exact .inl q
   .exact .inr<|q ▸ n) r)
 have up:∀ {d:D} {v:V},Rep A H d v->Rep (λb=>A b\/b=a) H' d v:=λr=>by
  have r1:Rep (λb=>A b\/b=a) H _ _:=r.av λb q=>by
   rcases q with q|q
   .exact .inl q
   .exact .inr<|q ▸ n
  exact r1.ext G
 have aa:∀ {d:D} {b:Addr},A b->Own A H d b->Own (λc=>A c\/c=a) H' d b:=λq r=>by
  have r1:Own (λc=>A c\/c=a) H _ _:=r.av λb q=>by
   rcases q with q|q
   .exact .inl q
   .exact .inr<|q ▸ n
  exact r1.ext G<|.inl q
 have ha:H' a≠cg:=o.there;refine{s'.ex,λb q=>.inl<|s.sub b q,s.l0,λb q=>?_,by simp[s.len],λj d' h' W=>?_,λj d' h' W=>?_,λj k d1 d2 b hj hk h1 h2 F U=>?_,λp hp=>ad<|s.ext p hp}
 .rcases q with q|q
  .exact s'.live b q
  .subst q;exact ha
 .rcases d5 h' with⟨e,B,l⟩|⟨e,B⟩
  .exact absurd (List.mem_cons.mpr<|.inl e) W
  .obtain⟨w,h1,h2⟩:=s.val j d' B λz=>W (zax _ z)
   exact{w,by rw[lC e];exact h1,up h2}
 .rcases d5 h' with⟨e,B,l⟩|⟨e,B⟩
  .subst e;cases B
   exact{a,sig_set (by rw[s.len];exact l),.inr rfl,n0,o}
  .rcases List.mem_cons.mp W with z|z
   .exact absurd z e
   .obtain⟨w,h1,h2,F,U⟩:=s.own j d' B z
    exact{w,by rw[lC e];exact h1,.inl h2,F,aa h2 U}
 .have J:∀ {j:Nat} {d1:D},j∈i::O->(ρ.set i<|b4 d)[j]?=b4 (b4 d1)->(σ.set i<|b4<|.ref a)[j]?=b4 (b4<|.ref b)->(j=i/\b=a)\/(j≠i/\j∈O/\ρ[j]?=b4 (b4 d1)/\σ[j]?=b4 (b4<|.ref b)/\b≠a):=by
   intro j d1 hj h1 F;rcases d5 h1 with⟨e,B,l⟩|⟨e,B⟩
   .subst e
    rw[sig_set<|by rw[s.len];exact l]at F;cases F;exact .inl {rfl,rfl}
   .rcases List.mem_cons.mp hj with z|z
    .exact absurd z e
    .rw[lC e]at F
     obtain⟨w,q1,q2,_⟩:=s.own j d1 B z;rw[F]at q1;cases q1;exact .inr {e,z,B,F,λz=>na<|z ▸ q2}
  rcases J hj h1 F with⟨e1,B⟩|⟨e1,B,e3,e4,e5⟩
  .rcases J hk h2 U with⟨Y,N⟩|⟨Y,N,f3,f4,f5⟩
   .rw[e1,Y]
   .exact absurd B f5
  .rcases J hk h2 U with⟨Y,N⟩|⟨Y,N,f3,f4,f5⟩
   .exact absurd N e5
   .exact s.inj j k d1 d2 b B N e3 f3 e4 f4
def LD{i:Nat}(Y:X.N.Nodup)(hi:X.N[i]?=b4 x)(B:Loc X.env.scope x)(U:PF X O e f)(h:Sub O' (i::O)=cp:=by rfl)(hn:O.contains i=cr:=by rfl)
  (hs:za7 e (b4<|.Name x pos') pos.line X.env=pure cr:=by rfl) (hf:X.fn x=cp\/X.env.scope.names.lookup x=b4 .local:=by first|exact .inl rfl|exact .inr rfl):jB X L O (.Assign [.Name x pos'] e pos) (dA i f) O':=
 PS.mono (NE Y hi B U hs hf) <| by
  rintro T σ H ⟨H0,A0,A,E,ρ,W,st,e,p⟩;obtain⟨d,J,rfl⟩:=map_some e;refine{H0,A0,A,E,ρ,d,st,J,λa H' x n F o=>?_};have G:i∉O:=λz=>by
   have:O.contains i=cp:=by simpa using z
   rw[hn]at this;cases this
  obtain⟨A1,q⟩:=(st.own_put x n F o G).shut<|Sub.mem h;exact p A1 _ H' q
def Ext.upN{D:Addr}(x:Ext A H H')(n:H D=cg):Ext A H<|upd H' D o:=by
 have ne:∀b,H b≠cg->b≠D:=λb B z=>B<|by rw[z];exact n
 exact⟨λb w r=>nR (ne b<|by rcases r with r|⟨_,r⟩ <;> (rw[r];exact λz=>nomatch z))<|x.rd b w r,
  λb xs k r=>by rw[aF<|ne b<|by rw[r];exact λz=>nomatch z];exact x.kp b xs k r,
  λb w n r=>by rw[aF<|ne b<|by rw[r];exact λz=>nomatch z];exact x.ow b w n r,
  λb q w r=>by rw[aF<|ne b<|by rw[r];exact λz=>nomatch z];exact x.fz b q w r⟩
def ST.write(s:ST H0 A0 A E O σ H ρ)(hi:ρ[i]?=b4 (b4 d))(W:i∈O)(hs:σ[i]?=b4 (b4<|.ref a))(G:A a)(h0:H0 a=cg)(J:H a=b4 u)(ob:YF u)(hn:Own A (upd H a o) d' a) :
  ST H0 A0 A E O σ (upd H a o) (ρ.set i<|b4 d'):=by
 refine{s.ex.upN h0,s.sub,s.l0,λb hb=>?_,by simp[s.len],λj d2 h' B=>?_,λj d2 h' B=>?_,λj k d1 d2 b hj hk h1 h2 N U=>?_,λp hp=>Fact.put G J ob<|s.ext p hp}
 .by_cases e:b=a
  .subst e;rw[aI];exact λz=>nomatch z
  .rw[aF e];exact s.live b hb
 .rcases d5 h' with⟨e,q,l⟩|⟨e,q⟩
  .subst e;exact absurd W B
  .obtain⟨w,h1,h2⟩:=s.val j d2 q B
   exact{w,h1,h2.put G J ob}
 .rcases d5 h' with⟨e,q,l⟩|⟨e,q⟩
  .subst e;cases q;exact{a,hs,G,h0,hn}
  .obtain⟨b,h1,h2,N,U⟩:=s.own j d2 q B
   refine{b,h1,h2,N,U.put G J ob λz=>?_};subst z;exact e<|s.inj j i d2 d b B W q hi h1 hs
 .have F:∀ {j:Nat} {d1:D},(ρ.set i<|b4 d')[j]?=b4 (b4 d1)->∃d0,ρ[j]?=b4 (b4 d0):=by
   intro j d1 h;rcases d5 h with⟨e,_,_⟩|⟨_,e⟩
   .subst e;exact{d,hi}
   .exact{d1,e}
  obtain⟨x,Y⟩:=F h1;obtain⟨y,hy⟩:=F h2;exact s.inj j k x y b hj hk Y hy N U
def mem(O:List Nat)(i:Nat):Bool:=O.contains i
def nU(h:mem O i=cp):i∈O:=by simpa[mem]using h
def D6(i:Nat)(f:Ev):Sv:=λρ=>(aD i ρ).bind λx=>match x with
 |.lst l=>(f ρ).bind λd=>if a7 l.length then b4 (.nx<|ρ.set i<|b4<|.lst<|l++[d])else cg
 |_=>cg
def C7{o e:Expr}(ho:PE X o<|yL i)(he:PD X O e f)(G:mem O i=cp)(U:PE X (.Call (.Attribute o "append" apos) [e] [] cpos)<|tBM X.K "list" F3 (yL i)<|F9 (tD Rep O f) XM)
  (hs:za7 (.Call (.Attribute o "append" apos) [e] [] cpos) cg pos.line X.env=pure cr:=by rfl) (h:Sub O' O=cp:=by rfl):jB X L O (.Expr (.Call (.Attribute o "append" apos) [e] [] cpos) pos) (D6 i f) O':=
 PS.mono (FO U hs) <| by
  rintro T σ H ⟨H0,A0,A,E,ρ,W,st,e,p⟩;obtain⟨x,ex,e⟩:=bind_some e;cases x with
  |lst l=>
   obtain⟨d,N,e⟩:=bind_some e;by_cases hz:a7 l.length=cp
   .rw[cw hz]at e
    cases e;obtain⟨a,F,q,J,Y⟩:=st.own i _ (cU ex)<|nU G;cases Y with
    |lst h4 r4=>
     refine{_,F,.inl {rfl,_,SqL.of h4},H0,A0,A,E,ρ,d,st,N,λv H' x r=>{a,_,v,rfl,rfl,x.ow _ _ q h4,by rw[r4.length];exact qB hz,?_}};have B:=x.ow _ _ q h4;obtain⟨A',z⟩:=((st.mono x).write (o:=.lst _) (cU ex) (nU G) F q J B trivial (.lst aI<|((r4.ext x).append<|.cons r .nil).put q B trivial)).shut<|Sub.mem h;exact p A' σ _ z
   .rw[cx hz]at e;cases e
  |_=>exact nn e
def YE:D->Option Key
 |.int i=>b4<|.inl i
 |.str x=>b4<|.inr x
 |_=>cg
def NY:List D->Option (List Key)
 |[]=>b4 []
 |d::ds=>(YE d).bind λk=>(NY ds).bind λks=>b4<|k::ks
def B2:D->Option (List Key)
 |.tup l=>NY l
 |_=>cg
def b6{κ:Type}[DecidableEq κ](l:List<|κ×D)(k:κ):Option D:=(l.find? λp=>decide (p.1=k)).map (·.2)
def putD{κ:Type}[DecidableEq κ](l:List<|κ×D)(k:κ)(d:D):List<|κ×D:=if l.any (λp=>decide (p.1=k))then l.map (λp=>if p.1=k then(p.1,d)else p)else l++[(k,d)]
end
section
variable {A:Av}{H:Hp}
section
variable {κ:Type}[DecidableEq κ]
abbrev PP(A:Av)(H:Hp):List (κ×D)->List (κ×V)->Prop:=zaV λ(p:κ×D) (q:κ×V)=>p.1=q.1/\Rep A H p.2 q.2
theorem wG:∀ {l:List (κ×D)} {xs:List (κ×V)},xs.map (·.1)=l.map (·.1)->RepL A H (l.map (·.2)) (xs.map (·.2))->PP A H l xs
 |[],[],_,_=>.nil
 |[],_::_,e,_=>by cases e
 |_::_,[],e,_=>by cases e
 |p::l,q::xs,e,r=>by
  rw[zak,zak]at e r;injection e with e1 e2
  cases r with
  |cons h t=>exact .cons {e1.symm,h}<|wG e2 t
theorem GN:∀ {l:List (κ×D)} {xs:List (κ×V)},PP A H l xs->xs.map (·.1)=l.map (·.1)/\RepL A H (l.map (·.2)) (xs.map (·.2))
 |_,_,.nil=>{rfl,.nil}
 |_,_,.cons h t=>by
  obtain⟨e,r⟩:=GN t;exact{by rw[zak,zak,h.1,e],.cons h.2 r}
def M8(k:κ)(h:PP A H l xs):(b6 l k=cg/\m6 xs k=cg)\/∃d v,b6 l k=b4 d/\m6 xs k=b4 v/\Rep A H d v:=by
 induction h with
 |nil=>exact .inl {rfl,rfl}
 |@cons p q l xs h t ih=>
  by_cases e:p.1=k
  .refine .inr {p.2,q.2,?_,mJ<|h.1 ▸ e,h.2}
   simp[b6,za0,e]
  .have B:¬ q.1=k:=λz=>e (h.1.trans z)
   have a:b6 (p::l) k=b6 l k:=by simp[b6,za0,e]
   rw[a,l8 B];exact ih
def U8(k:κ)(h:PP A H l xs):(l.any λp=>decide (p.1=k))=xs.any λp=>decide (p.1=k):=by
 induction h with
 |nil=>rfl
 |cons h t ih=>rw[zbC,zbC,ih,h.1]
def V2(k:κ)(r:Rep A H d v)(h:PP A H l xs):PP A H (l.map λp=>if p.1=k then(p.1,d)else p)<|xs.map λp=>if p.1=k then(p.1,v)else p:=by
 induction h with
 |nil=>exact .nil
 |@cons p q l xs h t ih=>
  rw[zak,zak];refine .cons ?_ ih;by_cases e:p.1=k
  .rw[cw e,cw<|h.1 ▸ e];exact{h.1,r}
  .rw[cx e,cx λz=>e<|h.1.trans z];exact h
def XA(h:PP A H l xs)(h':PP A H m ys):PP A H (l++m)<|xs++ys:=by
 induction h with
 |nil=>exact h'
 |cons h t ih=>exact .cons h ih
def DI(k:κ)(r:Rep A H d v)(h:PP A H l xs):PP A H (putD l k d)<|putK xs k v:=by
 unfold putD putK;rw[U8 k h];by_cases e:(xs.any λp=>decide (p.1=k))=cp
 .rw[cw e,cw e];exact V2 k r h
 .rw[cx e,cx e];exact XA h<|.cons {rfl,r} .nil
end
def qI(h:YE d=b4 k)(r:RepB A H d v):v=kV k:=by
 cases d <;> cases h
 .exact r.int_inv
 .exact r.str_inv
theorem AX:∀ {ds:List D} {ks:List Key} {vs:List V},NY ds=b4 ks->RepL A H ds vs->vs=ks.map kV
 |_,_,_,h,.nil=>by cases h;rfl
 |_,_,_,h,.cons r t=>by
  obtain⟨k,q,h⟩:=bind_some h;obtain⟨ks,z,h⟩:=bind_some h;cases h;rw[zak,qI q<|.of r,AX z t]
set_option tactic.hygienic true in
def qD(h:B2 d=b4 k)(r:RepB A H d v):∃b,v=.ref b/\H b=b4 (.tup<|k.map kV):=by
 cases d <;> try cases h
 rename_i l;obtain⟨a,xs,rfl,h1,h2⟩:=r.tup_inv;exact{a,rfl,by rw[h1,AX h h2]}
def cJ:D->D->Option (Option D)
 |.dK l,k=>(YE k).map λk=>b6 l k
 |.dT l,k=>(B2 k).map λk=>b6 l k
 |_,_=>cg
def iZ(h:cJ d k=b4 o)(G:RepB A H d x)(J:RepB A H k y):∃a F,x=.ref a/\X9 H a/\DGet H a y F/\((o=cg/\F=cg)\/∃z v,o=b4 z/\F=b4 v/\Rep A H z v):=by
 cases d with
 |dK l=>
  obtain⟨q,B,rfl⟩:=map_some h;obtain⟨a,xs,rfl,h1,e,r⟩:=G.dK_inv;have:=qI B J;subst this;refine{a,_,rfl,.inl {xs,h1},.inl {xs,q,h1,rfl,rfl},M8 q<|wG e r}
 |dT l=>
  obtain⟨q,B,rfl⟩:=map_some h;obtain⟨a,xs,rfl,h1,e,r⟩:=G.dT_inv;obtain⟨b,rfl,N⟩:=qD B J;exact{a,_,rfl,.inr {xs,h1},.inr {xs,q,b,h1,rfl,N,rfl},M8 q<|wG e r}
 |_=>exact nn h
end
section
variable {X:Cx}{O O':List Nat}{L:Lp}
def PE.or(h:PE X e t)(k:PE X e u):PE X e λσ H Q=>t σ H Q\/u σ H Q:=λpins s σ H Q I w=>w.elim (h pins s σ H Q I)<|k pins s σ H Q I
def aN(d k:D):Option D:=match d with
 |.dK _=>(cJ d k).join
 |.dT _=>(cJ d k).join
 |_=>dIx d k
def qW{q:Type}{o:Option (Option q)}{d:q}(h:o.join=b4 d):o=b4 (b4 d):=by
 cases o with
 |none=>cases h
 |some o=>cases o with
  |none=>cases h
  |some x=>cases h;rfl
def zL{F J:Ev}{σ:L2.St}(h:tD Rep O (bE (λd k=>(cJ d k).join) F J) σ H Q):SU (tD RepB O F) (tD RepB O J) σ H Q:=by
 obtain⟨H0,A0,A,E,ρ,d,st,e,q⟩:=h;obtain⟨x,ex,e⟩:=bind_some e;obtain⟨y,ey,e⟩:=bind_some e;refine{H0,A0,A,E,ρ,x,st,ex,λv H1 U r1=>{H0,A0,A,E,ρ,y,st.mono U,ey,λw H2 N r2=>?_}};obtain⟨a,ov,e1,_,g,B⟩:=iZ (qW e) (r1.ext N) r2;rcases B with⟨B,_⟩|⟨z,G,B,Y,W⟩
 .cases B
 .cases B;subst Y
  exact{a,G,e1,g,q G H2 (U.trans N) W}
def EQ(J:X.A.units+1<cLine)(F:PB X O a fa)(G:PB X O b fb)(hs:xJ b):PD X O (.Subscript a b pos)<|bE aN fa fb:=
 PE.mono (PE.or (ZG qaF F G hs)<|QO J F G hs) <| by
  rintro σ H Q ⟨H0,A0,A,E,ρ,d,st,e,q⟩;obtain⟨x,ex,B⟩:=bind_some e;obtain⟨y,N,B⟩:=bind_some B;have z:∀g:D->D->Option D,g x y=b4 d->tD Rep O (bE g fa fb) σ H Q:=λg h=>{H0,A0,A,E,ρ,d,st,by unfold bE;rw[ex,N];exact h,q}
  cases x with
  |dK l=>exact .inr<|zL<|z _ B
  |dT l=>exact .inr<|zL<|z _ B
  |_=>exact .inl<|x9<|z dIx B
def uH(fd q z:Ev):Ev:=λρ=>(fd ρ).bind λd=>(q ρ).bind λk=>(z ρ).bind λe=>(cJ d k).map λo=>o.getD e
def M3(k:D)(h:cJ d k=b4 o)(r:RepB A H d v):∃a,v=.ref a/\X9 H a:=by
 cases d with
 |dK l=>obtain⟨a,xs,rfl,h1,_⟩:=r.dK_inv;exact{a,rfl,.inl {xs,h1}}
 |dT l=>obtain⟨a,xs,rfl,h1,_⟩:=r.dT_inv;exact{a,rfl,.inr {xs,h1}}
 |_=>exact nn h
def Q6(hu:X.A.units+1<cLine)(ho:PB X O o fd)(he:PB X O e fk)(hf:PD X O f fe)(m:M2 X o "get" apos e f cpos):PD X O (.Call (.Attribute o "get" apos) [e,f] [] cpos)<|uH fd fk fe:=
 PE.mono (J4 hu ho he hf m) <| by
  rintro σ H Q ⟨H0,A0,A,E,ρ,d,st,e,q⟩;obtain⟨x,ex,e⟩:=bind_some e;obtain⟨y,ey,e⟩:=bind_some e;obtain⟨z,ez,e⟩:=bind_some e;obtain⟨ov,U,rfl⟩:=map_some e;refine{H0,A0,A,E,ρ,x,st,ex,λv H1 F W=>?_};obtain⟨a,Y,N⟩:=M3 y U W;refine{a,Y,N,H0,A0,A,E,ρ,y,st.mono F,ey,λw H2 B r2=>{H0,A0,A,E,ρ,z,st.mono<|F.trans B,ez,λu H3 G r3=>?_}};obtain⟨a',J,e2,_,g,e3⟩:=iZ U (W.ext<|B.trans G)<|r2.ext G;rw[Y]at e2;cases e2;refine{J,g,?_};rcases e3 with⟨rfl,rfl⟩|⟨z',v',rfl,rfl,r4⟩
  .exact q u H3 ((F.trans B).trans G) r3
  .exact q v' H3 ((F.trans B).trans G) r4
def uK(d k e:D):Option D:=match d with
 |.dK l=>(YE k).bind λk=>if a7 l.length then b4 (.dK<|putD l k e)else cg
 |.dT l=>(B2 k).bind λk=>if a7 l.length then b4 (.dT<|putD l k e)else cg
 |.lst l=>(S4 k).bind λk=>(JI l.length k).map λj=>.lst<|l.set j e
 |_=>cg
def yR(i:Nat)(q z:Ev):Sv:=λρ=>(z ρ).bind λe=>(aD i ρ).bind λx=>(q ρ).bind λk=>(uK x k e).map λd=>.nx<|ρ.set i<|b4 d
def PS.or{st:Stmt}(h:PS X st t)(k:PS X st u):PS X st λT σ H=>t T σ H\/u T σ H:=λpins s σ H T I w=>w.elim (h pins s σ H T I)<|k pins s σ H T I
def OX{o k value:Expr}(B:X.A.units+1<cLine)(ho:PE X o<|yL i)(hk:PB X O k fk)(hv:PD X O value fe)(hO:mem O i=cp)(h:Sub O' O=cp:=by rfl)
  (hs:za7 value (b4<|.Subscript o k pos') pos.line X.env=pure cr:=by rfl) (aj:zdI [.Subscript o k pos'] value pos.line X.env=pure cr:=by rfl) (hw:zdJ [.Subscript o k pos'] value X.env=pure cg:=by rfl)
  (hg:∀ {to ti:TE} {t:NW},PE X o to->PE X k ti->SD X t->PG X (.Subscript o k pos') (XW to ti t):=by intro _ _ _ a b c;exact MD a b c) :
  jB X L O (.Assign [.Subscript o k pos'] value pos) (yR i fk fe) O':=
 PS.mono (PS.or (OW B ho hk hv hs)<|MN hv (hg ho hk set_list) aj hw) <| by
  rintro T σ H ⟨H0,A0,A,E,ρ,ar,st,e,p⟩;obtain⟨z,ez,e⟩:=bind_some e;obtain⟨x,ex,e⟩:=bind_some e;obtain⟨y,ey,e⟩:=bind_some e;obtain⟨d,ed,rfl⟩:=map_some e;obtain⟨a,Y,J,e3,e4⟩:=st.own i _ (cU ex)<|nU hO;cases x with
  |dK l=>
   obtain⟨kk,e5,F⟩:=bind_some ed;by_cases hz:a7 l.length=cp
   .rw[cw hz]at F;cases F
    refine .inl {H0,A0,A,E,ρ,z,st,ez,λv H1 U r1=>{_,Y,H0,A0,A,E,ρ,y,st.mono U,ey,λw H2 N W=>?_}};have q:=U.trans N;cases e4 with
    |@dK _ _ xs h4 ee r4=>
     have B:=q.ow _ _ J h4;have hl:xs.length=l.length:=by have:=congrArg zbI ee;simpa using this
     have:=qI e5 W;subst this;refine{a,_,rfl,DPut.k B (by rw[hl];exact qB hz),?_};obtain⟨e7,r7⟩:=GN<|DI kk (r1.ext N)<|wG ee<|r4.ext q;obtain⟨A',G⟩:=((st.mono q).write (o:=.dK _) (cU ex) (nU hO) Y J e3 B trivial (.dK aI e7<|r7.put J B trivial)).shut<|Sub.mem h;exact p A' σ _ G
   .rw[cx hz]at F;cases F
  |dT l=>
   obtain⟨kk,e5,F⟩:=bind_some ed;by_cases hz:a7 l.length=cp
   .rw[cw hz]at F;cases F
    refine .inl {H0,A0,A,E,ρ,z,st,ez,λv H1 U r1=>{_,Y,H0,A0,A,E,ρ,y,st.mono U,ey,λw H2 N W=>?_}};have q:=U.trans N;cases e4 with
    |@dT _ _ xs h4 ee r4=>
     have B:=q.ow _ _ J h4;have hl:xs.length=l.length:=by have:=congrArg zbI ee;simpa using this
     obtain⟨b,rfl,hb⟩:=qD e5 W;refine{a,_,rfl,DPut.t B hb (by rw[hl];exact qB hz),?_};obtain⟨e7,r7⟩:=GN<|DI kk (r1.ext N)<|wG ee<|r4.ext q;obtain⟨A',G⟩:=((st.mono q).write (o:=.dT _) (cU ex) (nU hO) Y J e3 B trivial (.dT aI e7<|r7.put J B trivial)).shut<|Sub.mem h;exact p A' σ _ G
   .rw[cx hz]at F;cases F
  |lst l=>
   obtain⟨kk,e5,F⟩:=bind_some ed;obtain⟨j,e7,rfl⟩:=map_some F;refine .inr {H0,A0,A,E,ρ,z,st,ez,λv H1 U r1=>{_,Y,H0,A0,A,E,ρ,y,st.mono U,ey,λw H2 N W=>?_}};have q:=U.trans N;cases e4 with
   |@lst _ _ xs h4 r4=>
    have B:=q.ow _ _ J h4;rw[sV e5]at W;have:=W.int_inv;subst this;refine{a,xs,kk,j,rfl,rfl,B,by rw[r4.length];exact e7,?_};obtain⟨A',G⟩:=((st.mono q).write (o:=.lst _) (cU ex) (nU hO) Y J e3 B trivial (.lst aI<|((r4.ext q).set j<|r1.ext N).put J B trivial)).shut<|Sub.mem h;exact p A' σ _ G
  |_=>cases ed
def JL(g:Int->Int->Option D):D->D->Option D
 |.int i,.int j=>g i j
 |_,_=>cg
def tK(h:JL g x y=b4 d):∃i j,x=.int i/\y=.int j/\g i j=b4 d:=by
 cases x with
 |int i=>
  cases y with
  |int j=>exact{_,_,rfl,rfl,h}
  |_=>exact nn h
 |_=>exact nn h
def xZ[∀i j,Decidable<|C i j]{g:Int->Int->Int}(h:OpR X f<|rI C λi j=>.int<|g i j):gC X f<|JL λi j=>if C i j then b4 (.int<|g i j)else cg:=
 OpR.mono h <| by
  rintro x y H Q ⟨A,dx,J,d,N,F,G,e,q⟩;obtain⟨i,j,rfl,rfl,z⟩:=tK e;have:=F.int_inv;subst this;have:=G.int_inv;subst this;by_cases B:C i j
  .rw[cw B]at z;cases z
   exact{i,j,rfl,rfl,B,q _ H (Ext.refl _ _)<|.int _}
  .rw[cx B]at z;cases z
def QZ{g:Int->Int->Int}(h:OpR X f<|N9 λi j=>.int<|g i j):gC X f<|JL λi j=>b4<|.int<|g i j:=
 OpR.mono h <| by
  rintro x y H Q ⟨A,dx,F,d,G,B,z,e,q⟩;obtain⟨i,j,rfl,rfl,e⟩:=tK e;have:=B.int_inv;subst this;have:=z.int_inv;subst this;cases e;exact{i,j,rfl,rfl,q _ H (Ext.refl _ _)<|.int _}
def A6{g:Int->Int->Bool}(h:OpR X f<|N9 λi j=>.bl<|g i j):gC X f<|JL λi j=>b4<|.bl<|g i j:=
 OpR.mono h <| by
  rintro x y H Q ⟨A,dx,F,d,G,B,z,e,q⟩;obtain⟨i,j,rfl,rfl,e⟩:=tK e;have:=B.int_inv;subst this;have:=z.int_inv;subst this;cases e;exact{i,j,rfl,rfl,q _ H (Ext.refl _ _)<|.bl _}
instance:∀i j,Decidable<|My.qt i j:=λi j=>by unfold My.qt;infer_instance
instance:∀i j,Decidable<|R7 i j:=λi j=>by unfold R7;infer_instance
instance:∀i j,Decidable<|SC i j:=λi j=>by unfold SC;infer_instance
def BX:D->D->Option D:=JL λi j=>b4<|.int<|i-j
def dM:D->D->Option D:=JL λi j=>if 0<j then b4 (.int<|i%j)else cg
def lG:D->D->Option D:=JL λi j=>if R7 i j then b4 (.int<|i/j)else cg
def D7:D->D->Option D:=JL λi j=>if SC i j then b4 (.int<|i^j.toNat)else cg
def BV:D->D->Option D:=JL λi j=>b4<|.bl<|decide (j<i)
def Z6:D->D->Option D:=JL λi j=>b4<|.bl<|decide (j<=i)
def W8:gC X (zaW .Sub) BX:=QZ WF
def TF:gC X (zaW .Mod) dM:=xZ UF
def W2:gC X (zaW .FloorDiv) lG:=xZ PN
def W3:gC X (zaW .Pow) D7:=xZ VN
def ZW:gC X (zar .Gt) BV:=A6 YS
def ZR:gC X (zar .GtE) Z6:=A6 Y7
def R9(f:Ev):Ev:=λρ=>(f ρ).bind λd=>(S4 d).map λi=>.int<|-i
def U5(G:PB X O a f):PD X O (.UnaryOp .USub a pos)<|R9 f:=PE.mono (Z0 XD G) <| by
 rintro σ H Q ⟨H0,A0,A,E,ρ,d,st,e,q⟩;obtain⟨x,ex,e⟩:=bind_some e;obtain⟨i,z,rfl⟩:=map_some e;rw[sV z]at ex;exact{H0,A0,A,E,ρ,_,st,ex,λv H1 B F=>{i,F.int_inv,q _ H1 B<|.int _}}
end
section
variable {X:Cx}{L:Lp}{O O':List Nat}
def SA:Sv:=λ_=>cg
def G4{st:Stmt}:jB X L O st SA O':=λ_ _ _ _ _ _ ⟨_,_,_,_,_,_,_,e,_⟩=>nomatch e
abbrev Gv:=D->dC->Option dC
inductive tDG(O:List Nat)(g:Gv)(v:V)(σ:L2.St)(H:Hp)(Q:L2.St->Hp->Prop):Prop
 | mk (H0:Hp) (A0 A:Av) (E:List Fact) (ρ:dC) (d:D) (ρ':dC) (st:ST H0 A0 A E O σ H ρ) (r:Rep A H d v) (e:g d ρ=b4 ρ') (q:∀σ',ST H0 A0 A E O σ' H ρ'->Q σ' H):tDG O g v σ H Q
def B1(X:Cx)(O:List Nat)(tg:Expr)(g:Gv):Prop:=PG X tg<|tDG O g
abbrev X6:=List D->dC->Option dC
inductive tDGs(O:List Nat)(g:X6)(vs:List V)(σ:L2.St)(H:Hp)(Q:L2.St->Hp->Prop):Prop
 | mk (H0:Hp) (A0 A:Av) (E:List Fact) (ρ:dC) (ds:List D) (ρ':dC) (st:ST H0 A0 A E O σ H ρ) (r:RepL A H ds vs) (e:g ds ρ=b4 ρ') (q:∀σ',ST H0 A0 A E O σ' H ρ'->Q σ' H):tDGs O g vs σ H Q
def D5(X:Cx)(O:List Nat)(ts:List Expr)(g:X6):Prop:=PGs X ts<|tDGs O g
def PG.mono(h:PG X tg t)(x:∀v σ H Q,t' v σ H Q->t v σ H Q):PG X tg t':=λpins s σ H v u Q I r w=>h pins s σ H v u Q I r<|x v σ H Q w
def PGs.mono(h:PGs X ts t)(x:∀v σ H Q,t' v σ H Q->t v σ H Q):PGs X ts t':=λpins s σ H v u Q I r w=>h pins s σ H v u Q I r<|x v σ H Q w
def aO(i:Nat):Gv:=λd ρ=>b4<|ρ.set i<|b4 d
def AG(h:PG X tg<|uG i)(n:O.contains i=cr:=by rfl):B1 X O tg<|aO i:=PG.mono h <| by
 rintro v σ H Q ⟨H0,A0,A,E,ρ,d,ρ',st,r,e,q⟩;cases e;exact q _ (st.put r λz=>by
  have:O.contains i=cp:=by simpa using z
  rw[n]at this;cases this)
def dP:X6:=λds ρ=>match ds with
 |[]=>b4 ρ
 |_=>cg
def bA(g:Gv)(k:X6):X6:=λds ρ=>match ds with
 |d::ds=>(g d ρ).bind λρ'=>k ds ρ'
 |_=>cg
def KJ:D5 X O [] dP:=PGs.mono RK <| by
 rintro v σ H Q ⟨H0,A0,A,E,ρ,ds,ρ',st,r,e,q⟩;cases r with
 |nil=>cases e;exact{rfl,q _ st}
 |cons _ _=>cases e
def HY(G:∀ {t:TG} {u:S8},PG X e t->PGs X es u->PGs X (e::es) (S2 t u))(h1:B1 X O e g)(h2:D5 X O es k):D5 X O (e::es)<|bA g k:=
 PGs.mono (G h1 h2) <| by
  rintro v σ H Q ⟨H0,A0,A,E,ρ,ds,ρ',st,r,e,q⟩;cases r with
  |nil=>cases e
  |cons h t=>
   obtain⟨ρ1,F,e⟩:=bind_some e;exact{_,_,rfl,H0,A0,A,E,ρ,_,ρ1,st,h,F,λB z=>{H0,A0,A,E,ρ1,_,ρ',z,t,e,q}}
def c9(n:Nat)(k:X6):Gv:=λd ρ=>match d with
 |.tup l=>if l.length=n then k l ρ else cg
 |_=>cg
def Q1(F:PG X tg<|qm X.K n<|tDGs O k):B1 X O tg<|c9 n k:=PG.mono F <| by
 rintro v σ H Q ⟨H0,A0,A,E,ρ,d,ρ',st,r,e,q⟩;cases d with
 |tup l=>
  obtain⟨a,xs,rfl,h,B⟩:=RepB.tup_inv<|.of r;by_cases z:l.length=n
  .simp only[c9,cw z]at e
   exact{a,xs,rfl,.inl<|.inl h,by rw[B.length];exact z,H0,A0,A,E,ρ,l,ρ',st,B,e,q}
  .simp only[c9,cx z]at e;cases e
 |_=>exact nn e
def SG(f:Ev)(g:Gv):Sv:=λρ=>(f ρ).bind λd=>(g d ρ).map .nx
def jR(G:PD X O e f)(N:B1 X O tg g)(hs:zdI [tg] e pos.line X.env=pure cr:=by rfl)(hw:zdJ [tg] e X.env=pure cg:=by rfl)(h:Sub O' O=cp:=by rfl)(h1:(zbh [tg] X.env).map (·.2)=[zbs tg X.env]:=by rfl)(h1:(zbh [tg] X.env).map (·.2)=[zbs tg X.env]:=by rfl)(h1:(zbh [tg] X.env).map (·.2)=[zbs tg X.env]:=by rfl)(h1:(zbh [tg] X.env).map (·.2)=[zbs tg X.env]:=by rfl):jB X L O (.Assign [tg] e pos) (SG f g) O':=
 PS.mono (MN G N hs hw h1) <| by
  rintro T σ H ⟨H0,A0,A,E,ρ,J,st,e,p⟩;obtain⟨d,F,e⟩:=bind_some e;obtain⟨ρ',U,rfl⟩:=map_some e;refine{H0,A0,A,E,ρ,d,st,F,λv H' x r=>{H0,A0,A,E,ρ,d,ρ',st.mono x,r,U,λB z=>?_}};obtain⟨A',q⟩:=z.shut<|Sub.mem h;exact p A' B H' q
def BU(J:It)(q:List Fact)(items:List D):Prop:=
 ∀(A:Av) (H:Hp),Live A H->(∀p∈q,p.Holds A H)->∀i,(items.length<=i->J.stop i H)/\∀d,items[i]?=b4 d->J.go i H/\∀x H',J.yld i H x H'->Ext A H H'/\Rep A H' d x
inductive tDI(O:List Nat)(f:Lv)(σ:L2.St)(H:Hp)(R:It->Hp->Prop):Prop
 | mk (H0:Hp) (A0 A:Av) (E:List Fact) (ρ:dC) (items:List D) (st:ST H0 A0 A E O σ H ρ) (e:f ρ=b4 items) (q:∀J H' E1,Ext A H H'->(∀p∈E1,p.Holds A H')->BU J E1 items->R J H'):tDI O f σ H R
def PDI(X:Cx)(O:List Nat)(tg e:Expr)(f:Lv):Prop:=PI X tg e<|tDI O f
def PI.mono(h:PI X tg e t)(x:∀σ H Q,t' σ H Q->t σ H Q):PI X tg e t':=λpins s σ H Q I w=>h pins s σ H Q I<|x σ H Q w
def PI.or(h:PI X tg e t)(k:PI X tg e u):PI X tg e λσ H Q=>t σ H Q\/u σ H Q:=λpins s σ H Q I w=>w.elim (h pins s σ H Q I)<|k pins s σ H Q I
def Q7{K:zaf}:BU (Itl K a) [.rep (.lst l)<|.ref a] l:=by
 intro A H J h i;have r:Rep A H (.lst l)<|.ref a:=h _<|List.mem_singleton.mpr rfl;obtain⟨G,xs,e,h1,q⟩:=RepB.lst_inv<|.of r;cases e;refine{λhi=>{xs,.inl h1,by rw[q.length];exact hi},λd F=>?_};obtain⟨v,z,B⟩:=q.get' F;refine{{xs,v,.inl h1,z},λx H' y=>?_};obtain⟨rfl,y⟩:=y;have:=y xs<|.inl h1;rw[z]at this;cases this;exact{Ext.refl _ _,B}
def TH{K:zaf}:BU (Itt K a) [.rep (.tup l)<|.ref a] l:=by
 intro A H J h i;have r:Rep A H (.tup l)<|.ref a:=h _<|List.mem_singleton.mpr rfl;obtain⟨G,xs,e,h1,q⟩:=RepB.tup_inv<|.of r;cases e;refine{λhi=>{xs,.inl<|.inl h1,by rw[q.length];exact hi},λd F=>?_};obtain⟨v,z,B⟩:=q.get' F;refine{{xs,v,.inl<|.inl h1,z},λx H' y=>?_};obtain⟨rfl,y⟩:=y;have:=y xs<|.inl<|.inl h1;rw[z]at this;cases this;exact{Ext.refl _ _,B}
def aU(lo c:Int)(n:Nat):List D:=(zav n).map λ(i:Nat)=>.int<|lo+(i:Int)*c
def a9(lo c:Int)(n:Nat):(aU lo c n).length=n:=by simp[aU]
def bG{lo c:Int}(h:(aU lo c n)[i]?=b4 d):i<n/\d=.int (lo+(i:Int)*c):=by
 unfold aU at h;rw[zaq]at h;by_cases hi:i<n
 .rw[List.getElem?_range hi]at h;cases h;exact{hi,rfl}
 .rw[List.getElem?_eq_none<|by simpa using hi]at h;cases h
def GY{lo c:Int}:BU (My.XU lo c n) []<|aU lo c n:=by
 intro A H z h i;refine{λhi=>by rw[a9]at hi;exact hi,λd q=>?_};obtain⟨hi,rfl⟩:=bG q;exact{hi,λx H' ⟨e,y⟩=>by subst e y;exact{Ext.refl _ _,.int _}}
def AQ{lo:Int}:BU (Itr lo n) []<|aU lo 1 n:=by
 intro A H z h i;refine{λhi=>by rw[a9]at hi;exact hi,λd q=>?_};obtain⟨hi,rfl⟩:=bG q;exact{hi,λx H' ⟨e,y⟩=>by subst e y;rw[zbR];exact{Ext.refl _ _,.int _}}
def cI(i:Int):Bool:=decide (-1000000<=i) && decide (i<=1000000)
def bZ:List D->Option (List D)
 |[.int j]=>if cI j then b4 (aU 0 1 j.toNat)else cg
 |_=>cg
def d6:List D->Option (List D)
 |[.int i,.int j]=>if cI i && cI j then b4 (aU i 1 (j-i).toNat)else cg
 |_=>cg
def mK:List D->Option (List D)
 |[.int i,.int j,.int c]=>if c≠0/\c.natAbs<1000/\zc4 i j c=cp then b4 (aU i c<|My.rsz i j c)else cg
 |_=>cg
def eS(h:cI i=cp):-(2^62)<=i/\i<2^62:=by
 simp only[cI,zaM,decide_eq_true_eq]at h
 lia
def lR(g:List D->Option (List D))(f:Lv):Lv:=λρ=>(f ρ).bind g
def RL.one(r:RL R A H [d] vs):∃v,vs=[v]/\R A H d v:=by
 cases r with|cons h t=>cases t;exact{_,rfl,h}
def RL.two(r:RL R A H [d,e] vs):∃v w,vs=[v,w]/\R A H d v/\R A H e w:=by
 cases r with|cons h t=>obtain⟨w,rfl,h2⟩:=RL.one t;exact{_,w,rfl,h,h2}
def RL.three(r:RL R A H [d,e,f] vs):∃v w u,vs=[v,w,u]/\R A H d v/\R A H e w/\R A H f u:=by
 cases r with|cons h t=>obtain⟨w,u,rfl,h2,q⟩:=RL.two t;exact{_,w,u,rfl,h,h2,q}
def wZ(h:bZ ds=b4 l):∃j,ds=[.int j]/\cI j=cp/\l=aU 0 1 j.toNat:=by
 unfold bZ at h;split at h
 .split at h
  .cases h;exact{_,rfl,by assumption,rfl}
  .cases h
 .cases h
set_option tactic.hygienic true in
def wN(h:d6 ds=b4 l):∃i j,ds=[.int i,.int j]/\cI i=cp/\cI j=cp/\l=aU i 1 (j-i).toNat:=by
 unfold d6 at h;split at h
 .split at h
  .rename_i hh
   cases h;exact{_,_,rfl,(zaM _ _ ▸ hh).1,(zaM _ _ ▸ hh).2,rfl}
  .cases h
 .cases h
def w4(h:mK ds=b4 l):∃i j c,ds=[.int i,.int j,.int c]/\(c≠0/\c.natAbs<1000/\zc4 i j c=cp)/\l=aU i c (My.rsz i j c):=by
 unfold mK at h;split at h
 .split at h
  .cases h;exact{_,_,_,rfl,by assumption,rfl}
  .cases h
 .cases h
section
variable {tg a b c:Expr}{f:Lv}{p pos:Pos}
def CP(J:Gl X "range")(F:X.mg "range" = cg)(z:uN X O [a] f)(hs:zah [a] X.env=[(cr,eval a X.env)]:=by rfl):PDI X O tg (.Call (.Name "range" p) [a] [] pos)<|lR bZ f:=PI.mono (HW J F z hs) <| by
 rintro σ H R ⟨H0,A0,A,E,ρ,items,st,e,q⟩;obtain⟨ds,G,e⟩:=bind_some e;refine{H0,A0,A,E,ρ,ds,st,G,λvs H1 N B=>?_};obtain⟨j,rfl,h,rfl⟩:=wZ e;obtain⟨v,rfl,h1⟩:=B.one;have:=h1.int_inv;subst this;exact{j,rfl,(eS h).1,(eS h).2,q _ H1 [] N (λ_ h=>nomatch h) AQ}
def CB(N:Gl X "range")(G:X.mg "range" = cg)(B:uN X O [a,b] f)(hs:zah [a,b] X.env=[(cr,eval a X.env),(cr,eval b X.env)]:=by rfl)(z:zah [b] X.env=[(cr,eval b X.env)]:=by rfl):PDI X O tg (.Call (.Name "range" p) [a,b] [] pos)<|lR d6 f:=PI.mono (HE N G B hs z) <| by
 rintro σ H R ⟨H0,A0,A,E,ρ,items,st,e,q⟩;obtain⟨ds,J,e⟩:=bind_some e;refine{H0,A0,A,E,ρ,ds,st,J,λvs H1 U F=>?_};obtain⟨i,j,rfl,h,h',rfl⟩:=wN e;obtain⟨v,w,rfl,h1,h2⟩:=F.two;have:=h1.int_inv;subst this;have:=h2.int_inv;subst this;exact{i,j,rfl,{(eS h).1,(eS h).2,(eS h').1,(eS h').2},q _ H1 [] U (λ_ h=>nomatch h) AQ}
def B8(W:Gl X "range")(N:X.mg "range" = cg)(G:uN X O [a,b,c] f)(hs:zah [a,b,c] X.env=[(cr,eval a X.env),(cr,eval b X.env),(cr,eval c X.env)]:=by rfl)(z:zah [b,c] X.env=[(cr,eval b X.env),(cr,eval c X.env)]:=by rfl):PDI X O tg (.Call (.Name "range" p) [a,b,c] [] pos)<|lR mK f:=PI.mono (My.GW W N G hs z) <| by
 rintro σ H R ⟨H0,A0,A,E,ρ,items,st,e,q⟩;obtain⟨ds,U,e⟩:=bind_some e;refine{H0,A0,A,E,ρ,ds,st,U,λvs H1 Y J=>?_};obtain⟨i,j,B,rfl,h,rfl⟩:=w4 e;obtain⟨v,w,u,rfl,h1,h2,F⟩:=J.three;have:=h1.int_inv;subst this;have:=h2.int_inv;subst this;have:=F.int_inv;subst this;exact{i,j,B,rfl,h,q _ H1 [] Y (λ_ h=>nomatch h) GY}
end
def nV:Key->D
 |.inl i=>.int i
 |.inr x=>.str x
def N5(f:Ev):Lv:=λρ=>(f ρ).bind λd=>match d with
 |.lst l=>b4 l
 |.tup l=>b4 l
 |.dT l=>b4<|l.map λp=>.tup<|p.1.map nV
 |_=>cg
theorem tV:∀k:List Key,RepL A H (k.map nV) (k.map kV)
 |[]=>.nil
 |.inl i::k=>.cons (.int i)<|tV k
 |.inr x::k=>.cons (.str x)<|tV k
def UC(tl:TE):TI:=λσ H R=>tl σ H λx H1=>∃d kvs,x=.ref d/\((H1 d=b4 (.dT kvs)/\∀o,R (My.ItD d o kvs)<|upd H1 d<|.frz o<|.dT kvs)\/∃o,H1 d=b4 (.frz o<|.dT kvs)/\R (My.ItD d o kvs) H1)
def J9(hl:PE X l tl):PI X tg l<|UC tl:=by
 intro pins s σ H R I h;refine bN (hl pins s σ H _ I h) λv z ⟨x,H1,N,B,q1⟩=>?_
 obtain⟨d,kvs,rfl,q⟩:=q1;cases B;have J:∀(o:Obj) (H2:Hp),(d == za9)=cr->Inv X pins σ H2 z->z.heap.get? d=b4 o->ObjOk X.prog X.w H2 z.heap d (.dT kvs)->R (My.ItD d o kvs) H2->wpAny (model X.prog X.w) X.A (pyIter<|.ref d) (PIE X pins σ tg R) X.xe z:=λo H2 lo F ho ok q=>by
  obtain⟨_,_,es,ep,⟨o',B,r2,W⟩,G,_⟩:=My.uE ok;rw[ho]at B;cases B;refine My.A7 lo {o,ho,r2,W} ?_;refine{z.heap.objs.size,[z.heap.objs.size],_,_,_,rfl,F.kept (t':=z.toks) λb o e=>zag _ e,My.IS d _ o kvs es ep W G,{_,zau _ rfl,rfl,rfl},λb hb=>?_,q};have e:b=z.heap.objs.size:=by simpa using hb
  subst e;exact F.fpOk (zam _)<|F.hok.fresh<|zam _
 rcases q with⟨U,q⟩|⟨o,U,q⟩
 .have ok:=(show ObjOk X.prog X.w H1 z.heap d (.dT kvs)from N.hok d _ U)
  obtain⟨lo,_,es,ep,⟨o,B,r2,W⟩,G,_⟩:=My.uE ok;have F:=My.DC N U B;have Y:=(show ObjOk X.prog X.w _ z.heap d (.frz o<|.dT kvs)from F.hok d _ aI);exact J o _ lo F B Y.2<|q o
 .have ok:=(show ObjOk X.prog X.w H1 z.heap d (.frz o<|.dT kvs)from N.hok d _ U)
  obtain⟨lo,_⟩:=My.uE ok.2;exact J o H1 lo N ok.1 ok.2 q
def EG{l:List (List Key×D)}(e:xs.map (·.1)=l.map (·.1)):BU (My.ItD a o xs) [.fz a o<|.dT xs]<|l.map λp=>.tup<|p.1.map nV:=by
 intro A H W h i;have B:H a=b4 (.frz o<|.dT xs):=h _<|List.mem_singleton.mpr rfl;have U:xs.length=l.length:=by have:=congrArg zbI e;simpa using this
 refine{λhi=>{B,by rw[zaj]at hi;lia},λd z=>?_};rw[zaq]at z;obtain⟨p,q,rfl⟩:=map_some z;have hi:i<l.length:=(List.getElem?_eq_some_iff.mp q).1;refine{{B,by lia},λx H' ⟨J,k,v,b,G,N,F⟩=>?_};subst J N;have:k=p.1:=by
  have h1:(xs.map (·.1))[i]?=b4 k:=by rw[zaq,G];rfl
  rw[e,zaq,q]at h1;exact(zaD h1).symm
 subst this;exact{Ext.refl _ _,.tup F<|tV _}
def FC(n:¬ A d)(B:H d=b4 u)(ob:YF u)(F:¬ Kp u):Ext A H (upd H d<|.frz o u) where
 rd:=λb w r=>by
  by_cases e:b=d
  .subst e
   rcases r with r|⟨q,r⟩
   .rw[B]at r;cases r;exact .inr {o,aI}
   .rw[B]at r;cases r;exact ob.elim
  .exact nR e r
 kp:=λb w k r=>by rw[aF λz=>by subst z;rw[B]at r;cases r;exact F k];exact r
 ow:=λb w G r=>by rw[aF λz=>n<|by rw[<- z];exact G];exact r
 fz:=λb q w r=>by rw[aF λz=>by subst z;rw[B]at r;cases r;exact ob];exact r
def RB(h:PD X O e f):PDI X O tg e<|N5 f:=PI.mono (PI.or (PI.or (QJ h)<|TQ h)<|J9 h) <| by
 rintro σ H R ⟨H0,A0,A,E,ρ,items,st,e,q⟩;obtain⟨d,J,e⟩:=bind_some e;cases d with
 |lst l=>
  cases e;refine .inl<|.inl {H0,A0,A,E,ρ,_,st,J,λv H1 G B=>?_};obtain⟨a,xs,rfl,h1,N⟩:=RepB.lst_inv<|.of B;exact{a,rfl,{xs,.inl h1},q _ H1 [.rep (.lst items)<|.ref a] G (λp F=>by rw[List.mem_singleton.mp F];exact B) Q7}
 |tup l=>
  cases e;refine .inl<|.inr {H0,A0,A,E,ρ,_,st,J,λv H1 G B=>?_};obtain⟨a,xs,rfl,h1,N⟩:=RepB.tup_inv<|.of B;exact{a,rfl,{xs,.inl<|.inl h1},q _ H1 [.rep (.tup items)<|.ref a] G (λp F=>by rw[List.mem_singleton.mp F];exact B) TH}
 |dT l=>
  cases e;refine .inr {H0,A0,A,E,ρ,_,st,J,λv H1 G B=>?_};cases B with
  |@dT _ a xs n h ee N=>
   refine{a,xs,rfl,?_};rcases h with h|⟨o,h⟩
   .refine .inl {h,λo=>q _ _ [.fz a o<|.dT xs] (G.trans<|FC n h trivial λz=>z) (λp F=>by rw[List.mem_singleton.mp F];exact aI)<|EG ee}
   .exact .inr {o,h,q _ H1 [.fz a o<|.dT xs] G (λp F=>by rw[List.mem_singleton.mp F];exact h)<|EG ee}
 |_=>exact nn e
def cX(g:Gv)(body:Sv):List D->dC->Option Out
 |[],ρ=>b4<|.nx ρ
 |x::xs,ρ=>(g x ρ).bind λρ1=>(body ρ1).bind λo=>match o with
  |.nx ρ2=>cX g body xs ρ2
  |.ct ρ2=>cX g body xs ρ2
  |.bk ρ2=>b4<|.nx ρ2
  |.rt d=>b4<|.rt d
def iD(f:Lv)(g:Gv)(body:Sv):Sv:=λρ=>(f ρ).bind λitems=>cX g body items ρ
def ST.both(s:ST H0 A0 A E O σ H ρ)(h:∀p∈E1,p.Holds A H):ST H0 A0 A (E1++E) O σ H ρ:=
 {s with ext:=λp q=>by rcases List.mem_append.mp q with e|e;exact h p e;exact s.ext p e}
def OI(hp:zcU (model X.prog X.w) X.A X.env X.xe)(hc:X.calm=cp)(hi:PDI X O tg iter f)(hg:B1 X O1 tg g)(hb:dY X {Ob,O1} O1 body b O1)(h1:Sub O1 O=cp)(h2:Sub O' O1=cp)(h3:Sub O' Ob=cp)
  (hs:∀x,zbT iter X.env x=pure x:=by intro _;rfl):jB X L O (.For tg iter body [] pos) (iD f g b) O':=PS.mono (WD hp hc hi hg hb hs) λT σ H ⟨H0,A0,A,E,ρ,W,st,e,p⟩=>by
 obtain⟨items,e1,e⟩:=bind_some e;refine{H0,A0,A,E,ρ,items,st,e1,λJ H1 G x1 ab J1=>?_};obtain⟨A1,ae⟩:=((st.mono x1).both ab).shut<|Sub.mem h1;refine{λi m σ H=>m=items.length-i/\i<=items.length/\∃ρ A,ST H0 A0 A (G++E) O1 σ H ρ/\cX g b (items.drop i) ρ=b4 W,{items.length,by simp,za1 _,ρ,A1,ae,e},?_};rintro i m σ H ⟨rfl,a1,ρ,A,st,e⟩;have hE:∀p∈G,p.Holds A H:=λp hp=>st.ext p<|zdi _ hp
 obtain⟨U,go⟩:=J1 A H st.live hE i;have fin:∀ {O2:List Nat} {A:Av} {σ:L2.St} {H:Hp} {ρ:dC},Sub O' O2=cp->ST H0 A0 A (G++E) O2 σ H ρ->(∀A σ H,ST H0 A0 A E O' σ H ρ->T.nx σ H)->T.nx σ H:=λhs st k=>by
  obtain⟨z,ac⟩:=(st.less (E':=E) λq hq=>zbG _ hq).shut<|Sub.mem hs;exact k z _ _ ac
 by_cases F:i<items.length
 .have ed:items[i]?=b4 items[i]:=by simp[F]
  obtain⟨ad,hy⟩:=go _ ed;rw[zep F]at e;obtain⟨ρ1,eg,e⟩:=bind_some e;obtain⟨o,eo,e⟩:=bind_some e;refine .inr {ad,λN H'=>∃ρ2 z,ST H0 A0 z (G++E) O1 N H' ρ2/\cX g b (items.drop<|i+1) ρ2=b4 W,λN H' ⟨ρ2,z,B,e2⟩=>{items.length-(i+1),by lia,rfl,F,ρ2,z,B,e2},λx H' y=>?_};obtain⟨x2,r2⟩:=hy x H' y;refine{H0,A0,A,G++E,ρ,_,ρ1,st.mono x2,r2,eg,λaz s1=>{H0,A0,A,G++E,ρ1,o,s1,eo,?_}};cases o with
  |nx ρ2=>exact λz Y H2 B=>{ρ2,z,B,e}
  |ct ρ2=>exact λz Y H2 B=>{ρ2,z,B,e}
  |bk ρ2=>cases e;exact λz Y H2 B=>fin h3 B p
  |rt d=>cases e;exact p
 .have af:i=items.length:=by lia
  subst af;rw[List.drop_length]at e;cases e;exact .inl {U<|zam _,fin h2 st p}
end
def gT(cells:List<|Str×Addr):List (Str×zbY)->List (Str×Addr)->List (Str×Addr)
 |[],cs=>cs
 |(x,k)::r,cs=>gT cells r<|if k == .free then(x,(cells.lookup x).getD 0)::cs else cs
theorem u5:∀(names:List<|Str×zbY) (cs:List<|Str×Addr),(∀y∈names,y.2=.free->∃c,env.cells.lookup y.1=b4 c)->
  (forIn names cs λ(p:Str×zbY) (r:List (Str×Addr))=>if(p.2 == .free)=cp then(do let c <- cellOf env p.1;pure<|zc5<|(p.1,c)::r)else(pure<|zc5 r:Sem _))=(pure<|gT env.cells names cs:Sem _)
 |[],cs,_=>by simp[gT]
 |(x,k)::r,cs,h=>by
  have ih:=λcs=>u5 r cs λy F=>h y<|zax _ F
  rw[zdz];by_cases e:(k == zcn)=cp
  .have B:k=.free:=by simpa using e
   obtain⟨c,z⟩:=h (x,k) (zaw ..) B;have q:env.cells.lookup x=b4 c:=z;simp only[e,if_true,gT];have:cellOf env x=pure c:=by unfold cellOf;rw[q]
   rw[this];simp only[pure_bind,q,Option.getD_some];exact ih _
  .simp only[e,gT]
   simp only[zb5,if_false,pure_bind];exact ih _
def P0(h:∀y∈scope.names,y.2=.free->∃c,env.cells.lookup y.1=b4 c):closureFor scope env=pure (gT env.cells scope.names []):=by
 have:=u5 scope.names [] h;unfold closureFor;simp only[bind_pure];exact this
theorem AF:∀ {names:List (Str×zbY)} {cs:List (Str×Addr)} {c:Addr},(gT cells names cs).lookup x=b4 c->(∃q,cs.lookup x=b4 q/\c=q)\/((x,zcn)∈names/\c=(cells.lookup x).getD 0)
 |[],cs,c,h=>.inl {c,h,rfl}
 |(y,k)::r,cs,c,h=>by
  rw[gT]at h;rcases AF h with⟨q,h1,h2⟩|⟨h1,h2⟩
  .by_cases e:(k == zcn)=cp
   .rw[cw e,zdB]at h1
    by_cases ex:(x == y)=cp
    .rw[ex]at h1
     have z:x=y:=by simpa using ex
     have B:k=.free:=by simpa using e
     subst z B;cases h1;exact .inr {zaw ..,h2}
    .rw[zdC]at ex
     rw[ex]at h1;exact .inl {q,h1,h2}
   .rw[cx e]at h1
    exact .inl {q,h1,h2}
  .exact .inr {zax _ h1,h2}
theorem BD:∀ {names:List (Str×zbY)} {cs:List (Str×Addr)},((x,zcn)∈names\/∃c,cs.lookup x=b4 c)->∃c,(gT cells names cs).lookup x=b4 c
 |[],cs,h=>h.elim (λh=>nomatch h) id
 |(y,k)::r,cs,h=>by
  rw[gT];apply BD;rcases h with h|⟨c,h⟩
  .rcases List.mem_cons.mp h with e|e
   .cases e
    refine .inr {(cells.lookup x).getD 0,?_};simp[zdB]
   .exact .inl e
  .right
   by_cases e:(k == zcn)=cp
   .rw[cw e,zdB]
    by_cases ex:(x == y)=cp
    .rw[ex];exact{_,rfl}
    .rw[zdC]at ex;rw[ex];exact⟨c,h⟩
   .rw[cx e];exact⟨c,h⟩
theorem eM{q:Type}{v:q}:∀ {l:List (Str×q)},l.lookup x=b4 v->(x,v)∈l
 |(y,w)::r,h=>by
  rw[zdB]at h;by_cases ex:(x == y)=cp
  .rw[ex]at h;cases h;rw[show x=y by simpa using ex];exact zaw ..
  .rw[zdC]at ex;rw[ex]at h;exact zax _<|eM h
def GK(names outer:List<|Str×zbY):Bool:=
 names.all λy=>y.2 != .cell && (y.2 != .local || names.lookup y.1 == b4 .local) && (y.2 != .free || outer.lookup y.1 == b4 .cell)
def DK{X:Cx}(hk:scope.kind=.function)(h:GK scope.names X.env.scope.names=cp)(hc:X.env.cells=zcG n X.env.scope.names []):My.Clo X N scope<|gT X.env.cells scope.names []:=by
 have h':=List.all_eq_true.mp h;have c1:∀y∈scope.names,y.2≠.cell:=λy F=>by
  have:=h' y F;simp only[zaM]at this;simpa using this.1.1
 have c2:∀y∈scope.names,y.2=.local->scope.names.lookup y.1=b4 .local:=λy F e=>by
  have:=h' y F;simp only[zaM,zeq]at this;rcases this.1.2 with z|z
  .rw[e]at z;exact absurd z<|by decide
  .simpa using z
 have c3:∀y∈scope.names,y.2=.free->∃c,X.env.cells.lookup y.1=b4 c:=λy F e=>by
  have:=h' y F;simp only[zaM,zeq]at this;rcases this.2 with z|z
  .rw[e]at z;exact absurd z<|by decide
  .rw[hc];exact tG (sc:=X.env.scope)<|by simpa using z
 have B:∀x,((zbO scope X.env).names.lookup x=b4 .cell\/(zbO scope X.env).names.lookup x=b4 .free)->(x,zcn)∈scope.names:=λx G=>by
  have U:∀W,(W=NameKind.cell\/W=zcn)->(x,W)∈(zbO scope X.env).names->(x,zcn)∈scope.names:=λW Y hm=>by
   obtain⟨⟨y,k⟩,F,e⟩:=List.mem_map.mp hm;dsimp only at e;by_cases q:(k == zcn && X.env.scope.kind == .function && X.env.kindOf y == b4 .cell)=cp
   .rw[cw q]at e
    have:k=.free:=by simp only[zaM]at q;simpa using q.1.1
    cases e;subst this;exact F
   .rw[cx q]at e
    cases e;rcases Y with z|z
    .exact absurd z<|c1 _ F
    .subst z;exact F
  rcases G with G|G
  .exact U _ (.inl rfl)<|eM G
  .exact U _ (.inr rfl)<|eM G
 refine{P0 c3,hk,c1,c2,λx c e=>?_,λx G=>BD<|.inl<|B x G};rcases AF e with⟨c',z,_⟩|⟨z1,z2⟩
 .cases z
 .obtain⟨c0,J⟩:=c3 _ z1 rfl
  have J:X.env.cells.lookup x=b4 c0:=J;rw[z2,J];rfl
def dB(X:Cx)(scope:Scope):List Str->List (Option Nat)->Prop
 |[],[]=>True
 |_::N,cg::ms=>dB X scope N ms
 |x::N,b4 i::ms=>(X.N[i]?=b4 x/\((zbO scope X.env).names.lookup x == b4 NameKind.local)=cr/\(X.env.kindOf x=b4 .cell\/X.env.kindOf x=b4 .free))/\dB X scope N ms
 |_,_=>False
def pR{q:Type}(ms:List<|Option Nat)(σ:List<|Option q):List<|Option q:=ms.map λo=>o.bind λi=>(σ[i]?).join
theorem iI:∀ {N:List Str} {ms:List (Option Nat)},dB X scope N ms->ms.length=N.length/\∀(j:Nat) (x:Str) (i:Nat),N[j]?=b4 x->ms[j]?=b4 (b4 i)->X.N[i]?=b4 x/\(zbO scope X.env).names.lookup x≠b4 .local/\(X.env.kindOf x=b4 .cell\/X.env.kindOf x=b4 .free)
 |[],[],_=>{rfl,λj x i h _=>by simp at h}
 |y::N,cg::ms,h=>by
  obtain⟨l,g⟩:=iI (N:=N) (ms:=ms) h;refine{by simp[l],λj x i h1 h2=>?_};cases j with
  |zero=>simp at h2
  |succ j=>exact g j x i (by simpa using h1)<|by simpa using h2
 |y::N,b4 k::ms,h=>by
  obtain⟨l,g⟩:=iI (N:=N) (ms:=ms) h.2;refine{by simp[l],λj x i h1 h2=>?_};cases j with
  |zero=>simp at h1 h2;subst h1 h2;exact{h.1.1,λz=>by have:=h.1.2.1;rw[z]at this;exact absurd this<|by decide,h.1.2.2}
  |succ j=>exact g j x i (by simpa using h1)<|by simpa using h2
 |[],_::_,h=>h.elim
 |_::_,[],h=>h.elim
def E8{z:Type}{σ:List (Option z)}{j:Nat}{v:z}(h:(pR ms σ)[j]?=b4 (b4 v)):∃i:Nat,ms[j]?=b4 (b4 i)/\σ[i]?=b4 (b4 v):=by
 unfold pR at h;rw[zaq]at h;obtain⟨o,B,q⟩:=map_some h;cases o with
 |none=>cases q
 |some i=>exact{i,B,qW q}
def KY{ms:List (Option Nat)}(h:dB X scope N ms)(σ:L2.St):My.Start X N scope σ<|pR ms σ:=by
 obtain⟨l,g⟩:=iI h;refine{by unfold pR;rw[zaj];exact l,λj x v h1 h2 _=>?_};obtain⟨i,q,z⟩:=E8 h2;obtain⟨a,b,c⟩:=g j x i h1 q;exact⟨b,i,a,z,c⟩
def ST.inner{O:List Nat}(s:ST H0 A0 A E O σ H ρ)(ms:List<|Option Nat)(n:∀i,b4 i∈ms->i∉O):ST H0 A0 A E [] (pR ms σ) H (pR ms ρ) where
 ex:=s.ex
 sub:=s.sub
 l0:=s.l0
 live:=s.live
 len:=by simp[pR]
 val:=λj d h _=>by
  obtain⟨i,q,B⟩:=E8 h;obtain⟨v,z,r⟩:=s.val i d B<|n i<|zaA q;refine{v,?_,r};unfold pR;rw[zaq,q];show b4 ((σ[i]?).join)=_;rw[z];rfl
 own:=λj d _ h=>nomatch h
 inj:=λi j d d' a hi=>nomatch hi
 ext:=s.ext
def bV(g:Gv)(c:Bv)(f:Ev):List D->dC->Option (List D)
 |[],_=>b4 []
 |x::xs,ρ=>(g x ρ).bind λρ1=>(c ρ1).bind λb=>if b=cp then(f ρ1).bind λd=>(bV g c f xs ρ1).bind λds=>b4 (d::ds)else bV g c f xs ρ1
def gP(ms:List<|Option Nat)(it:Lv)(g:Gv)(c:Bv)(f:Ev):Ev:=λρ=>(it ρ).bind λitems=>if a7 items.length then(bV g c f items<|pR ms ρ).map .lst else cg
def pX:Bv:=λ_=>b4 cp
def LL:My.GP X []<|tDT O pX:=λpins s σ H Q I ⟨H0,A0,A,E,ρ,b,st,e,q⟩=>My.RU pins s σ H Q I<|by cases e;exact q H<|Ext.refl _ _
def LZ(h:pS X O c g):My.GP X [c]<|tDT O g:=My.OG h
section
variable {X:Cx}{O:List Nat}
def GOk(Oi:List Nat)(g:Gv)(G:TG):Prop:=∀ {H0:Hp} {A0 A:Av} {E:List Fact} {σ:L2.St} {H:Hp} {ρ ρ':dC} {x:V} {d:D} {Q:L2.St->Hp->Prop},ST H0 A0 A E Oi σ H ρ->Rep A H d x->g d ρ=b4 ρ'->(∀q,ST H0 A0 A E Oi q H ρ'->(∀j∈Oi,q[j]?=σ[j]?/\ρ'[j]?=ρ[j]?)->Q q H)->G x σ H Q
def LN(aw:dB X scope N ms)(bc:∀ {H0:Hp} {A0 A:Av} {E:List Fact} {σ:L2.St} {H:Hp} {ρ:dC},ST H0 A0 A E O σ H ρ->ST H0 A0 A E Oi (pR ms σ) H (pR ms ρ))(hG:GOk Oi g G)(σ:L2.St)(H:Hp)(Q:VK) :
  tF O (gP ms it g c f) σ H Q->My.GH (tDI O it) G (tDT Oi c) (tD Rep Oi f) (My.Start X N scope) σ H Q:=λ⟨H0,A0,A,E,ρ,d,st,e,q⟩=>by
 obtain⟨items,e1,e⟩:=bind_some e;by_cases hz:a7 items.length=cp
 case neg=>rw[cx hz]at e;cases e
 rw[cw hz]at e;obtain⟨ds,e2,rfl⟩:=map_some e;refine{pR ms σ,KY aw σ,H0,A0,A,E,ρ,items,st,e1,λJ H1 E1 x1 ay J1 D hD=>?_};have W:=bc<|(st.mono x1).both ay;have nA:¬ A D:=λz=>W.live D z hD
 have n0:H D=cg:=x1.free hD
 -- the state of the block: the list that grows stands outside all that is borne
 refine{λi m aj us H2=>m=items.length-i/\i<=items.length/\∃ρ2 done rest,ST H0 A0 (λb=>A b\/b=D) (E1++E) Oi aj H2 ρ2/\H2 D=b4 (.lst us)/\Ext A H H2/\RepL (λb=>A b\/b=D) H2 done us/\bV g c f (items.drop i) ρ2=b4 rest/\done++rest=ds/\done.length<=i/\∀j∈Oi,∀d a,ρ2[j]?=b4 (b4 d)->aj[j]?=b4 (b4<|.ref a)->a≠D,{items.length,by simp,za1 _,pR ms ρ,[],ds,?_,aI,x1.trans<|Ext.new hD,.nil,e2,rfl,zam _,λj aa d a h1 h2 z=>?_},?_}
 .have up:∀a,(A a\/a=D)->A a\/H1 a=cg:=λa B=>B.imp id λz=>by rw[z];exact hD
  refine{W.ex.trans<|Ext.new hD,λa B=>.inl<|W.sub a B,W.l0,λa B=>?_,W.len,λi d h n=>?_,λi d h n=>?_,W.inj,λp hp=>Fact.ext (Ext.new hD)<|Fact.av up<|W.ext p hp}
  .rcases B with B|B
   .rw[aF λz=>by subst z;exact nA B];exact W.live a B
   .subst B;rw[aI];exact λz=>nomatch z
  .obtain⟨v,h1,h2⟩:=W.val i d h n
   exact{v,h1,(h2.av up).ext (Ext.new hD)}
  .obtain⟨a,h1,h2,h3,h4⟩:=W.own i d h n
   exact{a,h1,.inl h2,h3,(h4.av up).ext (Ext.new hD) (.inl h2)}
 .obtain⟨a',g1,g2,_⟩:=W.own j d h1 aa
  rw[h2]at g1;cases g1;exact nA<|z ▸ g2
 .rintro i m aj us H2 ⟨rfl,b1,ρ2,done,rest,s2,ai,x2,af,F,ed,ba,ax⟩
  obtain⟨ak,go⟩:=J1 _ H2 s2.live (λp hp=>s2.ext p<|zdi _ hp) i;by_cases ac:i<items.length
  .have eg:items[i]?=b4 items[i]:=by simp[ac]
   obtain⟨a6,hy⟩:=go _ eg;rw[zep ac]at F;obtain⟨U,e3,F⟩:=bind_some F;obtain⟨b,e4,F⟩:=bind_some F;have ao:us.length<zal:=by
    rw[af.length];exact zdm ba<|zba ac<|fP hz
   refine .inr {a6,ao,λx H3 y=>?_};obtain⟨x3,r3⟩:=hy x H3 y;refine hG (s2.mono x3) r3 e3 λa5 s3 same=>{H0,A0,_,E1++E,U,b,s3,e4,λH5 x5=>?_}
   have Y:∀j∈Oi,∀d a,U[j]?=b4 (b4 d)->a5[j]?=b4 (b4<|.ref a)->a≠D:=λj aa d a h1 h2=>ax j aa d a (by rw[<- (same j aa).2,h1])<|by rw[<- (same j aa).1,h2]
   have ad:=x3.trans x5;have an:H5 D=b4 (.lst us):=ad.ow D _ (.inr rfl) ai;have am:Ext A H H5:=x2.trans<|ad.mono λa B=>.inl B;cases b with
   |false=>
    rw[cx zat]at F;exact qa8 {an,items.length-(i+1),by lia,rfl,ac,U,done,rest,s3.mono x5,an,am,af.ext ad,F,ed,by lia,Y}
   |true=>
    rw[cw rfl]at F;refine qa4 ?_;obtain⟨d,e6,F⟩:=bind_some F;obtain⟨ah,e7,F⟩:=bind_some F;cases F;refine{H0,A0,_,E1++E,U,d,s3.mono x5,e6,λv H6 x6 r6=>?_};have ap:=ad.trans x6;have ab:H6 D=b4 (.lst us):=ap.ow D _ (.inr rfl) ai;have s6:=s3.mono<|x5.trans x6;refine{ab,items.length-(i+1),by lia,rfl,ac,U,done++[d],ah,{s6.ex.upN<|st.ex.free n0,s6.sub,s6.l0,λa B=>?_,s6.len,λi d h n=>?_,λi d h n=>?_,s6.inj,λp hp=>Fact.put (.inr rfl) ab trivial (s6.ext p hp)},aI,(am.trans<|x6.mono λa B=>.inl B).upN n0,((af.ext ap).append<|.cons r6 .nil).put (.inr rfl) ab trivial,e7,by rw[<- ed];simp,by rw[zbp];show done.length+1<=i+1;lia,Y}
    .by_cases z:a=D
     .subst z;rw[aI];exact λz=>nomatch z
     .rw[aF z];exact s6.live a B
    .obtain⟨v,h1,h2⟩:=s6.val i d h n
     exact{v,h1,h2.put (.inr rfl) ab trivial}
    .obtain⟨a,h1,h2,h3,h4⟩:=s6.own i d h n
     exact{a,h1,h2,h3,h4.put (.inr rfl) ab trivial (Y i n d a h h1)}
  .have bf:i=items.length:=by lia
   subst bf;rw[List.drop_length]at F;cases F;rw[zcs]at ed;subst ed;exact .inl {ak<|zam _,q D H2 x2 n0 nA<|.lst ai af}
def tN(F:dB X scope N ms)(J:(ms.all λo=>match o with|some i=>!O.contains i|none=>cp)=cp)(σ:L2.St)(H:Hp)(Q:VK) :
  tF O (gP ms it g c f) σ H Q->My.GH (tDI O it) (tDG [] g) (tDT [] c) (tD Rep [] f) (My.Start X N scope) σ H Q:=
 LN F (λs=>s.inner ms λi hi z=>by
  have:=List.all_eq_true.mp J _ hi;simp only[Bool.not_eq_true']at this;have G:O.contains i=cp:=by simpa using z
  rw[G]at this;cases this) (λs r e q=>{_,_,_,_,_,_,_,s,r,e,λB U=>q B U λj h=>nomatch h}) σ H Q
def P2
  (z:X.calm=cp) (U:My.Clo X N scope cl) (q:dB X scope N ms) (J:(ms.all λo=>match o with|some i=>!O.contains i|none=>cp)=cp) (hi:PDI X O tg iter it) (G:∀C s H fp,B1 (My.aX X N scope cl C s H fp) [] tg g)
  (B:∀C s H fp,My.GP (My.aX X N scope cl C s H fp) ifs<|tDT [] c) (F:∀C s H fp,PD (My.aX X N scope cl C s H fp) [] elt f) (hs:∀x,zbT iter X.env x=pure x:=by intro _;rfl) :
  PF X O (.ListComp elt [{tg,iter,ifs,0}] scope pos) (gP ms it g c f):=PE.mono (My.OL z U hi G B F hs)<|tN q J
def aK(n:Nat)(ds:List D):dC:=ds.map b4++zaQ (n-ds.length) cg
def aY(n:Nat)(f:Sv)(ds:List D):Option D:=(f<|aK n ds).bind λo=>match o with
 |.rt d=>b4 d
 |.nx _=>b4 .non
 |_=>cg
def ST.begun(q:Live A H)(r:RepL A H ds vs):ST H A A [] [] (L2.start N vs) H (aK N.length ds) where
 ex:=Ext.refl _ _
 sub:=λ_ h=>h
 l0:=q
 live:=q
 len:=by unfold L2.start aK;simp[r.length]
 val:=λi d h _=>by
  unfold aK at h;by_cases hi:i<ds.length
  .rw[zcW (by simpa using hi),zaq]at h
   obtain⟨d',G,J⟩:=map_some h;cases J;obtain⟨v,B,z⟩:=r.get' G;refine{v,?_,z};unfold L2.start;rw[zcW (by rw[zaj,r.length];exact hi),zaq,B];rfl
  .rw[zeO (by simpa using hi),List.getElem?_replicate]at h
   split at h <;> cases h
 own:=λi d _ h=>nomatch h
 inj:=λi j d d' a hi=>nomatch hi
 ext:=λp F=>nomatch F
def Y9{K:zaf}{st:Stmt}(Df:My.DefAt K mg x st ps)(S:FnScope N ps<|aS st)
  (h:∀(F:Addr) (z:Value) (A:zas) (outer:List Env) (s:zab) (H:Hp) (E:XK),Room k (A.deeper<|zbo x (aS st) s.heap.objs.size F z)->∃g,dY (uL JJ P w K mg base N x (aS st) F z A outer s H E).nox {[],[]} [] (b9 st) g O'/\g=f) :
  Fn P w K mg base x (k+1) ps (aY N.length f):=by
 refine My.BodyOk.ok (λF z A outer s H vs Q E U B=>?_) Df S (λvs H Q E B=>by obtain⟨A,ds,d,_,_,e,_⟩:=B;exact e);obtain⟨J,ds,d,lv,r,e,eF,q⟩:=B;obtain⟨o,W,G⟩:=bind_some eF;obtain⟨g,hg,rfl⟩:=h F z A outer s H E U;refine{_,hg,H,J,J,[],_,o,ST.begun lv r,W,?_};cases o with
 |nx ρ=>cases G;exact λA2 Y H2 s2=>q .non H2 s2.ex .non
 |rt d'=>cases G;exact λv H2 x2 r2=>q v H2 x2 r2
 |bk _=>cases G
 |ct _=>cases G
def MK(K:zaf):Bool:=K.all λp=>match p.2.cls with
 |.type "list" => cr
 |_=>cp
def HV{K:zaf}(h:MK K=cp)(e:K.lookup a=b4 o):o.cls≠.type "list" := λz=>by
 have m:∀ {K:zaf},K.lookup a=b4 o->(a,o)∈K:=by
  intro K;induction K with
  |nil=>intro e;cases e
  |cons p r ih=>
   intro e;rw[zdB]at e;by_cases q:(a == p.1)=cp
   .rw[q]at e;cases e;rw[show a=p.1 by simpa using q];exact zaw ..
   .rw[zdC]at q;rw[q]at e;exact zax _<|ih e
 have:=List.all_eq_true.mp h _<|m e;dsimp only at this;rw[z]at this;exact absurd this<|by decide
def V0{K:zaf}{st:Stmt}(hK:MK K=cp)
  (h:∀(G:Addr) (B:Value) (A:zas) (outer:List Env) (s:zab) (H:Hp) (E:XK),Room k (A.deeper<|zbo "law" (aS st) s.heap.objs.size G B)->∃g,dY (uL JJ P w K mg base N "law" (aS st) G B A outer s H E).nox {[],[]} [] (b9 st) g O'/\g=f)
  (hv:∀ns:List Int,ns.length<=63->aY N.length f [.lst<|ns.map .int]=b4 (.bl cp)):My.BodyOk P w K mg base "law" st N k<|My.BN K:=by
 refine λG B A outer s H vs Q E Y W=>?_
 obtain⟨a,ns,rfl,U,hl,q⟩:=W;have hR:Rd H a<|.lst<|ns.map V.int:=by
  rcases U with U|⟨o,_,_,e,c,_⟩
  .exact U
  .exact absurd c<|HV hK e
 have lv:Live (λ_=>False) H:=λa h=>h.elim
 have F:∀ns:List Int,RepL (λ_=>False) H (ns.map .int)<|ns.map V.int:=λns=>by
  induction ns with
  |nil=>exact .nil
  |cons n ns ih=>exact .cons (.int n) ih
 obtain⟨o,eo,J⟩:=bind_some<|hv ns hl;obtain⟨g,hg,rfl⟩:=h G B A outer s H E Y;refine{_,hg,H,λ_=>False,λ_=>False,[],_,o,ST.begun lv<|.cons (.lst (λz=>z) hR<|F ns) .nil,eo,?_};cases o with
 |nx ρ=>cases J
 |rt d'=>cases J;exact λv H2 x2 r2=>by cases r2;exact q _
 |bk _=>cases J
 |ct _=>cases J
end
mutual
def jC:D->Option My.Dx
 |.non=>b4 .non
 |.bl b=>b4<|.bl b
 |.int i=>b4<|.int i
 |.str x=>b4<|.str x
 |.tup l=>(nW l).map .tup
 |.lst l=>(nW l).map .lst
 |.dK _=>cg
 |.dT _=>cg
def nW:List D->Option (List My.Dx)
 |[]=>b4 []
 |d::ds=>(jC d).bind λx=>(nW ds).bind λxs=>b4<|x::xs
end
mutual
theorem mQ:∀ {d e:D} {x:My.Dx},jC d=b4 x->jC e=b4 x->d=e
 |.non,e,x,h,k=>by cases h;cases e <;> simp[jC]at k <;> first|rfl|(obtain⟨_,_,z⟩:=k;cases z)
 |.bl b,e,x,h,k=>by cases h;cases e <;> simp[jC]at k <;> first|(rw[k])|(obtain⟨_,_,z⟩:=k;cases z)
 |.int b,e,x,h,k=>by cases h;cases e <;> simp[jC]at k <;> first|(rw[k])|(obtain⟨_,_,z⟩:=k;cases z)
 |.str b,e,x,h,k=>by cases h;cases e <;> simp[jC]at k <;> first|(rw[k])|(obtain⟨_,_,z⟩:=k;cases z)
 |.tup l,e,x,h,k=>by
  rw[jC]at h;obtain⟨xs,h1,rfl⟩:=map_some h;cases e with
  |tup m=>
   rw[jC]at k;obtain⟨ys,B,q⟩:=map_some k;cases q;rw[sR h1 B]
  |lst m=>rw[jC]at k;obtain⟨ys,B,q⟩:=map_some k;cases q
  |_=>simp[jC]at k
 |.lst l,e,x,h,k=>by
  rw[jC]at h;obtain⟨xs,h1,rfl⟩:=map_some h;cases e with
  |lst m=>
   rw[jC]at k;obtain⟨ys,B,q⟩:=map_some k;cases q;rw[sR h1 B]
  |tup m=>rw[jC]at k;obtain⟨ys,B,q⟩:=map_some k;cases q
  |_=>simp[jC]at k
 |.dK _,e,x,h,k=>by rw[jC]at h;cases h
 |.dT _,e,x,h,k=>by rw[jC]at h;cases h
theorem sR:∀ {d e:List D} {x:List My.Dx},nW d=b4 x->nW e=b4 x->d=e
 |[],e,x,h,k=>by
  rw[nW]at h;cases h;cases e with
  |nil=>rfl
  |cons e es=>
   rw[nW]at k;obtain⟨_,_,k⟩:=bind_some k;obtain⟨_,_,k⟩:=bind_some k;cases k
 |d::ds,e,x,h,k=>by
  rw[nW]at h;obtain⟨y,h1,h⟩:=bind_some h;obtain⟨ys,h2,h⟩:=bind_some h;cases h;cases e with
  |nil=>rw[nW]at k;cases k
  |cons e es=>
   rw[nW]at k;obtain⟨z,q,k⟩:=bind_some k;obtain⟨zs,B,k⟩:=bind_some k;cases k;rw[mQ h1 q,sR h2 B]
end
mutual
theorem qE{K:zaf}:∀ {d:D} {x:My.Dx} {v:V},jC d=b4 x->Rep A H d v->My.Rep K H x v
 |.non,x,v,h,r=>by cases h;cases r;rw[My.Rep]
 |.bl b,x,v,h,r=>by cases h;cases r;rw[My.Rep]
 |.int b,x,v,h,r=>by cases h;cases r;rw[My.Rep]
 |.str b,x,v,h,r=>by cases h;cases r;rw[My.Rep]
 |.tup l,x,v,h,r=>by
  rw[jC]at h;obtain⟨xs,h1,rfl⟩:=map_some h;cases r with
  |tup hh rl=>rw[My.Rep];exact{_,_,rfl,.inl<|.inl hh,mF h1 rl}
 |.lst l,x,v,h,r=>by
  rw[jC]at h;obtain⟨xs,h1,rfl⟩:=map_some h;cases r with
  |lst n hh rl=>rw[My.Rep];exact{_,_,rfl,.inl hh,mF h1 rl}
 |.dK _,x,v,h,r=>by rw[jC]at h;cases h
 |.dT _,x,v,h,r=>by rw[jC]at h;cases h
theorem mF{K:zaf}:∀ {d:List D} {x:List My.Dx} {v:List V},nW d=b4 x->RepL A H d v->My.RepL K H x v
 |[],x,v,h,r=>by rw[nW]at h;cases h;cases r;rw[My.RepL]
 |d::ds,x,v,h,r=>by
  rw[nW]at h;obtain⟨y,h1,h⟩:=bind_some h;obtain⟨ys,h2,h⟩:=bind_some h;cases h;cases r with
  |cons r rs=>rw[My.RepL];exact{_,_,rfl,qE h1 r,mF h2 rs}
end
def eB{K:zaf}(h:jC d=b4 x)(r:RepB A H d v):My.Rep K H x v:=by
 cases r with
 |of r=>exact qE h r
 |lst hh rl=>
  rw[jC]at h;obtain⟨xs,h1,rfl⟩:=map_some h;rw[My.Rep];exact{_,_,rfl,.inl hh,mF h1 rl}
 |dK=>rw[jC]at h;cases h
 |dT=>rw[jC]at h;cases h
def cY(d:D):Bool:=match jC d with
 |some x=>x.nb && decide (x.dep<=60)
 |none=>cr
def X2:D->Bool
 |.tup _=>cp | .lst _=>cp|_=>cr
def SR:D->D->Bool
 |.non,.non=>cp | .non,.int _=>cp | .int _,.non=>cp | .non,.bl _=>cp | .bl _,.non=>cp | .non,.str _=>cp | .str _,.non=>cp
 |.int _,.int _=>cp | .bl _,.bl _=>cp | .str _,.str _=>cp
 |.int _,.str _=>cp | .str _,.int _=>cp | .bl _,.str _=>cp | .str _,.bl _=>cp
 |_,_=>cr
open Classical in
def JO(d e:D):Option Bool:=if SR d e=cp\/(X2 d=cp/\X2 e=cp/\cY d=cp/\cY e=cp)then b4 (decide (d=e))else cg
def pZ(d e:D):Option D:=(JO d e).map .bl
def EE(d e:D):Option D:=(JO d e).map λb=>.bl<|!b
def MI(h:SR d e=cp)(r:RepB A H d v)(s:RepB A H e w):X1 v w=cp/\(v=w↔d=e):=by
 cases d with
 |non=>have:=r.non_inv;subst this;cases e <;> first|exact ff h|(have:=s.non_inv;subst this;exact{rfl,by simp})|(have:=s.int_inv;subst this;exact{rfl,by simp})|(have:=s.bl_inv;subst this;exact{rfl,by simp})|(have:=s.str_inv;subst this;exact{rfl,by simp})
 |int i=>have:=r.int_inv;subst this;cases e <;> first|exact ff h|(have:=s.non_inv;subst this;exact{rfl,by simp})|(have:=s.int_inv;subst this;exact{rfl,by simp})|(have:=s.bl_inv;subst this;exact{rfl,by simp})|(have:=s.str_inv;subst this;exact{rfl,by simp})
 |bl b=>have:=r.bl_inv;subst this;cases e <;> first|exact ff h|(have:=s.non_inv;subst this;exact{rfl,by simp})|(have:=s.int_inv;subst this;exact{rfl,by simp})|(have:=s.bl_inv;subst this;exact{rfl,by simp})|(have:=s.str_inv;subst this;exact{rfl,by simp})
 |str x=>have:=r.str_inv;subst this;cases e <;> first|exact ff h|(have:=s.non_inv;subst this;exact{rfl,by simp})|(have:=s.int_inv;subst this;exact{rfl,by simp})|(have:=s.bl_inv;subst this;exact{rfl,by simp})|(have:=s.str_inv;subst this;exact{rfl,by simp})
 |_=>exact ff h
section
variable {X:Cx}{O:List Nat}
def OpR.orM(h:OpR X f r)(h':OpR X f r')(x:∀a b H Q,r2 a b H Q->r a b H Q\/r' a b H Q):OpR X f r2:=OpR.mono (OpR.or h h') x
def fY(h:cY d=cp):∃x,jC d=b4 x/\x.nb=cp/\x.dep<=60:=by
 unfold cY at h;cases e:jC d with
 |none=>rw[e]at h;cases h
 |some x=>rw[e]at h;simp only[zaM,decide_eq_true_eq]at h;exact{x,rfl,h.1,h.2}
def GA(h:X2 d=cp)(e:jC d=b4 x):x.seq=cp:=by
 cases d with
 |tup l=>rw[jC]at e;obtain⟨xs,_,rfl⟩:=map_some e;rfl
 |lst l=>rw[jC]at e;obtain⟨xs,_,rfl⟩:=map_some e;rfl
 |_=>exact ff h
set_option tactic.hygienic true in
def ZP(hu:X.A.units+64<cLine):gC X (zar .Eq) pZ:=OpR.orM ZI (My.VD hu) <| by
 rintro x y H Q ⟨A,dx,W,d,lv,Y,U,e,q⟩;obtain⟨b,G,rfl⟩:=map_some e;unfold JO at G;split at G
 case isFalse=>cases G
 rename_i hc;cases G;rcases hc with hs|⟨s1,s2,k1,k2⟩
 .left
  obtain⟨h1,h2⟩:=MI hs Y U;refine{h1,?_};have:decide (x=y)=@decide (dx=W) (zco _):=decide_eq_decide.mpr h2;rw[this];exact q _ H (Ext.refl _ _)<|.bl _
 .right
  obtain⟨N,F,a2,a3⟩:=fY k1;obtain⟨J,B,b2,b3⟩:=fY k2;refine{N,J,eB F Y,eB B U,GA s1 F,GA s2 B,a2,b2,a3,?_};have:@decide (N=J) (zco _)=@decide (dx=W) (zco _):=decide_eq_decide.mpr {λz=>mQ F<|z ▸ B,λz=>by subst z;rw[F]at B;exact zaD B};show Q (.bl<|@decide (N=J) (zco _)) H;rw[this];exact q _ H (Ext.refl _ _)<|.bl _
set_option tactic.hygienic true in
def Z4(hu:X.A.units+64<cLine):gC X (zar .NotEq) EE:=OpR.orM ZH (My.U1 hu) <| by
 rintro x y H Q ⟨A,dx,W,d,lv,Y,U,e,q⟩;obtain⟨b,G,rfl⟩:=map_some e;unfold JO at G;split at G
 case isFalse=>cases G
 rename_i hc;cases G;rcases hc with hs|⟨s1,s2,k1,k2⟩
 .left
  obtain⟨h1,h2⟩:=MI hs Y U;refine{h1,?_};have:decide (x=y)=@decide (dx=W) (zco _):=decide_eq_decide.mpr h2;rw[this];exact q _ H (Ext.refl _ _)<|.bl _
 .right
  obtain⟨N,F,a2,a3⟩:=fY k1;obtain⟨J,B,b2,b3⟩:=fY k2;refine{N,J,eB F Y,eB B U,GA s1 F,GA s2 B,a2,b2,a3,?_};have:@decide (N=J) (zco _)=@decide (dx=W) (zco _):=decide_eq_decide.mpr {λz=>mQ F<|z ▸ B,λz=>by subst z;rw[F]at B;exact zaD B};show Q (.bl<|!@decide (N=J) (zco _)) H;rw[this];exact q _ H (Ext.refl _ _)<|.bl _
def dJ:D->Bool
 |.non=>cp|_=>cr
def N1(d e:D):Option D:=if dJ e then b4 (.bl<|dJ d)else cg
def NO(d e:D):Option D:=if dJ e then b4 (.bl<|!dJ d)else cg
def F4(r:RepB A H d v):decide (v=.non)=dJ d:=by
 cases d with
 |non=>have:=r.non_inv;subst this;rfl
 |bl b=>have:=r.bl_inv;subst this;rfl
 |int b=>have:=r.int_inv;subst this;rfl
 |str b=>have:=r.str_inv;subst this;rfl
 |tup l=>obtain⟨_,_,rfl,_⟩:=r.tup_inv;rfl
 |lst l=>obtain⟨_,_,rfl,_⟩:=r.lst_inv;rfl
 |dK l=>obtain⟨_,_,rfl,_⟩:=r.dK_inv;rfl
 |dT l=>obtain⟨_,_,rfl,_⟩:=r.dT_inv;rfl
def XB:gC X (zar .Is) N1:=OpR.mono WI <| by
 rintro x y H Q ⟨A,dx,z,d,G,F,B,e,q⟩;unfold N1 at e;cases z with
 |non=>cases e;have:=B.non_inv;subst this;exact{rfl,by rw[F4 F];exact q _ H (Ext.refl _ _)<|.bl _}
 |_=>exact nn e
def OD:gC X (zar .IsNot) NO:=OpR.mono P5 <| by
 rintro x y H Q ⟨A,dx,z,d,G,F,B,e,q⟩;unfold NO at e;cases z with
 |non=>cases e;have:=B.non_inv;subst this;exact{rfl,by rw[F4 F];exact q _ H (Ext.refl _ _)<|.bl _}
 |_=>exact nn e
def Inv.lstR(I:Inv X pins σ H s)(z:Rd H l<|.lst xs):xs.length<=zal/\∃(q:List Value) (n:Nat),Vals xs q/\xs.length=q.length/\s.heap.get? l=b4 {cls:=.type "list",data:=.seq q.toArray n}:=by
 obtain⟨hz,q,n,r,e⟩:=(show ObjOk X.prog X.w H s.heap l (.lst xs)from z.ok I.hok);exact{hz,q,n,r,r.length,e}
def ZM:R2:=λx y H Q=>∃l b xs zs,x=.ref l/\y=.ref b/\Rd H l (.lst xs)/\Rd H b (.lst zs)/\xs.length+zs.length<=zal/\∀p,H p=cg->Q (.ref p) (upd H p<|.lst<|xs++zs)
def RY:OpR X (zaW .Add) ZM:=by
 intro pins s σ H x y v u Q I U Y h;obtain⟨l,b,xs,zs,rfl,rfl,hH,G,hz,q⟩:=h;cases U;cases Y;obtain⟨z,F,n,r,hl,e⟩:=Inv.lstR I hH;obtain⟨z2,B,n2,N,J,W⟩:=Inv.lstR I G;refine PySem.P.add_list e W ?_ (by rw[zaC,zaC];lia);have ea:F.toArray++B.toArray=(F++B).toArray:=by simp
 rw[ea];exact{.ref _,_,I.lnew (t':=s.toks) (r.append N) (by rw[zbp];lia),rfl,q _ I.fresh}
end
section
variable {X:Cx}{O:List Nat}
def RepL.nil_iff(r:RepL A H ds vs):vs=[]↔ds=[]:=by cases r <;> simp
def wD:D->D->Option D
 |.int i,.int j=>b4<|.int<|i+j
 |.str i,.str j=>if a7 (i.length+j.length)then b4 (.str<|i++j)else cg
 |.lst l,.lst m=>if a7 (l.length+m.length)then b4 (.lst<|l++m)else cg
 |.tup (a::l),.tup m=>if a7 (l.length+1+m.length)then b4 (.tup<|a::l++m)else cg
 |_,_=>cg
def TK:gC X (zaW .Add) wD:=OpR.mono (OpR.or (OpR.or VW CL)<|OpR.or RY QW) <| by
 rintro x y H Q ⟨A,dx,J,d,W,N,U,e,q⟩;cases dx with
 |int i=>
  cases J with
  |int j=>cases e;have:=N.int_inv;subst this;have:=U.int_inv;subst this;exact .inl<|.inl {i,j,rfl,rfl,q _ H (Ext.refl _ _)<|.int _}
  |_=>exact nn e
 |str i=>
  cases J with
  |str j=>
   simp only[wD]at e;by_cases hz:a7 (i.length+j.length)=cp
   .rw[cw hz]at e;cases e;have:=N.str_inv;subst this;have:=U.str_inv;subst this
    exact .inl<|.inr {i,j,rfl,rfl,fP hz,q _ H (Ext.refl _ _)<|.str _}
   .rw[cx hz]at e;cases e
  |_=>exact nn e
 |lst l=>
  cases J with
  |lst m=>
   simp only[wD]at e;by_cases hz:a7 (l.length+m.length)=cp
   .rw[cw hz]at e;cases e
    obtain⟨a,xs,rfl,h1,B⟩:=N.lst_inv;obtain⟨b,ys,rfl,h2,G⟩:=U.lst_inv;exact .inr<|.inl {a,b,xs,ys,rfl,rfl,h1,h2,by rw[B.length,G.length];exact fP hz,λp F=>q _ _ (Ext.new F)<|.lst (λz=>W p z F) (.inl aI)<|(B.append G).ext (Ext.new F)}
   .rw[cx hz]at e;cases e
  |_=>exact nn e
 |tup l=>
  cases l with
  |nil=>cases J <;> exact nn e
  |cons a0 l=>
   cases J with
   |tup m=>
    simp only[wD]at e;by_cases hz:a7 (l.length+1+m.length)=cp
    .rw[cw hz]at e;cases e
     obtain⟨a,xs,rfl,h1,B⟩:=N.tup_inv;obtain⟨b,ys,rfl,h2,G⟩:=U.tup_inv;refine .inr<|.inr {a,b,xs,ys,rfl,rfl,.inl<|.inl h1,.inl<|.inl h2,λz=>(by have:=B.nil_iff.mp z;cases this),by rw[B.length,G.length];exact fP hz,λz=>?_,λ_ p F=>q _ _ (Ext.new F)<|.tup aI<|(B.append G).ext (Ext.new F)};refine q _ H (Ext.refl _ _)<|.tup h1 ?_;have:=G.nil_iff.mp z;subst this;rw[zcs];exact B
    .rw[cx hz]at e;cases e
   |_=>exact nn e
 |_=>exact nn e
def f7:List D->Option (List Int)
 |[]=>b4 []
 |.int i::ds=>(f7 ds).map (i::·)
 |_=>cg
theorem eN:∀ {ds:List D} {ns:List Int} {vs:List V},f7 ds=b4 ns->RepL A H ds vs->vs=ns.map V.int
 |[],ns,vs,h,r=>by cases h;cases r;rfl
 |.int i::ds,ns,vs,h,r=>by
  obtain⟨ms,h1,rfl⟩:=map_some h;cases r with
  |cons r rs=>cases r;rw[eN h1 rs];rfl
def dLt:D->D->Option D
 |.int i,.int j=>b4<|.bl<|decide (i<j)
 |.tup l,.tup m=>(f7 l).bind λns=>(f7 m).map λms=>.bl<|HT.lexLt ns ms
 |_,_=>cg
def VY(G:X.A.units<cLine):gC X (zar .Lt) dLt:=OpR.mono (OpR.or YL<|VU G) <| by
 rintro x y H Q ⟨A,dx,z,d,Y,B,F,e,q⟩;cases dx with
 |int i=>
  cases z with
  |int j=>cases e;have:=B.int_inv;subst this;have:=F.int_inv;subst this;exact .inl {i,j,rfl,rfl,q _ H (Ext.refl _ _)<|.bl _}
  |_=>exact nn e
 |tup l=>
  cases z with
  |tup m=>
   obtain⟨ns,N,e⟩:=bind_some e;obtain⟨ms,W,rfl⟩:=map_some e;obtain⟨a,xs,rfl,h1,J⟩:=B.tup_inv;obtain⟨b,ys,rfl,h2,U⟩:=F.tup_inv;have:=eN N J;subst this;have:=eN W U;subst this;exact .inr {a,b,ns,ms,rfl,rfl,.inl<|.inl h1,.inl<|.inl h2,q _ H (Ext.refl _ _)<|.bl _}
  |_=>exact nn e
 |_=>exact nn e
open Classical in
def BY(x y:D):Option Bool:=match y with
 |.dK _=>(cJ y x).map (·.isSome)
 |.dT _=>(cJ y x).map (·.isSome)
 |.lst l=>if cY x=cp/\l.all cY=cp then b4 (l.any λd=>decide (d=x))else cg
 |.tup l=>if cY x=cp/\l.all cY=cp then b4 (l.any λd=>decide (d=x))else cg
 |_=>cg
def dIn(x y:D):Option D:=(BY x y).map .bl
def t6(x y:D):Option D:=(BY x y).map λb=>.bl<|!b
open Classical in
def mI(I:Inv X pins σ H s)(hu:Ar.units+60<cLine)(kx:cY x=cp)(rx:RepB A H x v)(ru:RelV v u)(kl:l.all cY=cp)(rl:RepL A H l xs)(U:Vals xs B) :
  ∃f:Value->Bool,(∀y∈B,zcH Ar s y u<|f y)/\B.any f=l.any λd=>decide (d=x):=by
 obtain⟨F,G,a2,a3⟩:=fY kx;have aa:My.Rep X.K H F v:=eB G rx;let g:Value->Bool:=λy=>decide (∃w z,RelV w y/\My.Rep X.K H z w/\z=F)
 have one:∀ {d:D} {w:V} {y:Value},cY d=cp->Rep A H d w->RelV w y->g y=decide (d=x)/\zcH Ar s y u (g y):=by
  intro d w y kd rd Y;obtain⟨z,J,b2,b3⟩:=fY kd;have N:My.Rep X.K H z w:=qE J rd;have e:g y=decide (z=F):=by
   refine decide_eq_decide.mpr {λ⟨w',z',q1,q2,q3⟩=>?_,λe=>{w,z,Y,N,e}};have:=RelV.inj Y q1;subst this;rw[My.Rep.inj I _ _ _ N q2,q3]
  have W:decide (z=F)=decide (d=x):=decide_eq_decide.mpr {λq=>mQ J<|q ▸ G,λq=>by subst q;rw[J]at G;exact zaD G};refine{e.trans W,?_};rw[e];exact My.mO I 60 Ar z F w v y u b3 hu b2 a2 N aa Y ru
 refine{g,?_,?_}
 .intro y hy
  obtain⟨j,hj⟩:=List.mem_iff_getElem?.mp hy;have af:=U.length;have aq:j<B.length:=(List.getElem?_eq_some_iff.mp hj).1;have hx:xs[j]?=b4 (xs[j]'(by lia)):=zaH (by lia);obtain⟨u',e1,r1⟩:=U.get hx;rw[hj]at e1;cases e1;obtain⟨d,W,r2⟩:=rl.get hx;exact(one (List.all_eq_true.mp kl _<|zaA W) r2 r1).2
 .have all:∀(l:List D) (xs:List V) (B:List Value),l.all cY=cp->RepL A H l xs->Vals xs B->B.any g=l.any λd=>decide (d=x):=by
   intro l;induction l with
   |nil=>intro xs B _ r v;cases r;cases v;rfl
   |cons d l ih=>
    intro xs B k r v;cases r with
    |cons h t=>
     cases v with
     |cons r rs=>
      rw[zch,zaM]at k;rw[zbC,zbC,(one k.1 h r).1,ih _ _ k.2 t rs]
  exact all l xs B kl rl U
open Classical in
def P4(I:Inv X pins σ H s)(hu:Ar.units+60<cLine)(kx:cY x=cp)(rx:RepB A H x v)(ru:RelV v u)(kl:l.all cY=cp)(rl:RepL A H l xs)(rv:Vals xs its) :
  ∃f:Value->Bool,(∀y∈its,zcH Ar s y u<|f y)/\∀(j:Nat) (d:D) (y:Value),l[j]?=b4 d->its[j]?=b4 y->f y=decide (d=x):=by
 obtain⟨F,G,a2,a3⟩:=fY kx;have ac:My.Rep X.K H F v:=eB G rx;let g:Value->Bool:=λy=>decide (∃w z,RelV w y/\My.Rep X.K H z w/\z=F)
 have one:∀ {d:D} {w:V} {y:Value},cY d=cp->Rep A H d w->RelV w y->g y=decide (d=x)/\zcH Ar s y u (g y):=by
  intro d w y kd rd ry;obtain⟨z,N,b2,b3⟩:=fY kd;have W:My.Rep X.K H z w:=qE N rd;have e:g y=decide (z=F):=by
   refine decide_eq_decide.mpr {λ⟨w',z',q1,q2,q3⟩=>?_,λe=>{w,z,ry,W,e}};have:=RelV.inj ry q1;subst this;rw[My.Rep.inj I _ _ _ W q2,q3]
  have B:decide (z=F)=decide (d=x):=decide_eq_decide.mpr {λq=>mQ N<|q ▸ G,λq=>by subst q;rw[N]at G;exact zaD G};refine{e.trans B,?_};rw[e];exact My.mO I 60 Ar z F w v y u b3 hu b2 a2 W ac ry ru
 refine{g,?_,?_}
 .intro y hy
  obtain⟨j,hj⟩:=List.mem_iff_getElem?.mp hy;have ai:=rv.length;have as:j<its.length:=(List.getElem?_eq_some_iff.mp hj).1;have hx:xs[j]?=b4 (xs[j]'(by lia)):=zaH (by lia);obtain⟨u',J,U⟩:=rv.get hx;rw[hj]at J;cases J;obtain⟨d,B,Y⟩:=rl.get hx;exact(one (List.all_eq_true.mp kl _<|zaA B) Y U).2
 .intro j d y hd hy
  obtain⟨w,J,U⟩:=rl.get' hd;obtain⟨u',B,Y⟩:=rv.get J;rw[hy]at B;cases B;exact(one (List.all_eq_true.mp kl _<|zaA hd) U Y).1
set_option tactic.hygienic true in
def Y1(hu:X.A.units+64<cLine):gC X (zar .In) dIn:=by
 intro pins s σ H x y v u Q I rv W h;obtain⟨A,dx,dy,d,lv,F,ry,e,q⟩:=h;obtain⟨b,z,rfl⟩:=map_some e;have fin:∀k,k=b->EP X pins σ Q (.bool k) s:=λk hk=>{.bl b,H,I,by rw[hk];rfl,q _ H (Ext.refl _ _)<|.bl _}
 have G:X.A.units+1<cLine:=by lia
 have dict:∀o,cJ dy dx=b4 o->o.isSome=b->wpAny (model X.prog X.w) X.A (zar .In v u) (EP X pins σ Q) X.xe s:=λo B ob=>by
  obtain⟨a,ov,rfl,_,g,e3⟩:=iZ B ry F;cases W;refine qaR G I g rv λs' I'=>{.bl b,H,I',?_,q _ H (Ext.refl _ _)<|.bl _}
  have:ov.isSome=b:=by rw[<- ob];rcases e3 with⟨rfl,rfl⟩|⟨_,_,rfl,rfl,_⟩ <;> rfl
  rw[this];rfl
 cases dy with
 |dK l=>obtain⟨o,B,ob⟩:=map_some z;exact dict o B ob
 |dT l=>obtain⟨o,B,ob⟩:=map_some z;exact dict o B ob
 |lst l=>
  simp only[BY]at z;split at z
  case isFalse=>cases z
  rename_i hc;cases z;obtain⟨a,xs,rfl,h1,J⟩:=ry.lst_inv;cases W;obtain⟨Y,r,U,hz⟩:=I.list<|.inl h1;obtain⟨f,f1,N⟩:=mI (Ar:=X.A.in1) I (by show X.A.units+1+60<cLine;lia) hc.1 F rv hc.2 J r;refine SeqAt.in_listAt f (My.PlainL.isList U) (λw hw=>f1 w<|by simpa using hw)<|fin _ ?_;rw[<- N];simp
 |tup l=>
  simp only[BY]at z;split at z
  case isFalse=>cases z
  rename_i hc;cases z;obtain⟨a,xs,rfl,h1,J⟩:=ry.tup_inv;cases W;obtain⟨Y,r,U,hz⟩:=I.tuple<|.inl<|.inl h1;obtain⟨f,f1,N⟩:=mI (Ar:=X.A.in1) I (by show X.A.units+1+60<cLine;lia) hc.1 F rv hc.2 J r;refine SeqAt.in_tupleAt f U (λw hw=>f1 w<|by simpa using hw)<|fin _ ?_;rw[<- N];simp
 |_=>cases z
set_option tactic.hygienic true in
def LY(hu:X.A.units+64<cLine):gC X (zar .NotIn) t6:=by
 intro pins s σ H x y v u Q I rv W h;obtain⟨A,dx,dy,d,lv,F,ry,e,q⟩:=h;obtain⟨b,z,rfl⟩:=map_some e;have fin:∀k,k=(!b)->EP X pins σ Q (.bool k) s:=λk hk=>{.bl<|!b,H,I,by rw[hk];rfl,q _ H (Ext.refl _ _)<|.bl _}
 have G:X.A.units+1<cLine:=by lia
 have dict:∀o,cJ dy dx=b4 o->o.isSome=b->wpAny (model X.prog X.w) X.A (zar .NotIn v u) (EP X pins σ Q) X.xe s:=λo B ob=>by
  obtain⟨a,ov,rfl,_,g,e3⟩:=iZ B ry F;cases W;refine OC G I g rv λs' I'=>{.bl<|!b,H,I',?_,q _ H (Ext.refl _ _)<|.bl _}
  have:ov.isSome=b:=by rw[<- ob];rcases e3 with⟨rfl,rfl⟩|⟨_,_,rfl,rfl,_⟩ <;> rfl
  rw[this];rfl
 cases dy with
 |dK l=>obtain⟨o,B,ob⟩:=map_some z;exact dict o B ob
 |dT l=>obtain⟨o,B,ob⟩:=map_some z;exact dict o B ob
 |lst l=>
  simp only[BY]at z;split at z
  case isFalse=>cases z
  rename_i hc;cases z;obtain⟨a,xs,rfl,h1,J⟩:=ry.lst_inv;cases W;obtain⟨Y,r,U,hz⟩:=I.list<|.inl h1;obtain⟨f,f1,N⟩:=mI (Ar:=X.A.in1) I (by show X.A.units+1+60<cLine;lia) hc.1 F rv hc.2 J r;refine SeqAt.notIn_listAt f (My.PlainL.isList U) (λw hw=>f1 w<|by simpa using hw)<|fin _ ?_;rw[<- N];simp
 |tup l=>
  simp only[BY]at z;split at z
  case isFalse=>cases z
  rename_i hc;cases z;obtain⟨a,xs,rfl,h1,J⟩:=ry.tup_inv;cases W;obtain⟨Y,r,U,hz⟩:=I.tuple<|.inl<|.inl h1;obtain⟨f,f1,N⟩:=mI (Ar:=X.A.in1) I (by show X.A.units+1+60<cLine;lia) hc.1 F rv hc.2 J r;refine SeqAt.notIn_tupleAt f U (λw hw=>f1 w<|by simpa using hw)<|fin _ ?_;rw[<- N];simp
 |_=>cases z
def cE:List D->Option D
 |[.lst l]=>b4<|.int l.length
 |[.tup l]=>b4<|.int l.length
 |[.str z]=>if a7 z.length then b4 (.int z.length)else cg
 |[.dK l]=>b4<|.int l.length
 |_=>cg
def XF:i9 X (.builtin "len") cE:=by
 intro pins s σ H xs us Q I r h;obtain⟨A,ds,d,W,B,e,q⟩:=h
 match ds,B,e with
 |[.lst l],B,e=>
  cases e;obtain⟨v,rfl,h1⟩:=B.one;obtain⟨a,xs,rfl,h2,F⟩:=h1.lst_inv;exact tE pins s σ H _ us Q I r {_,_,rfl,.inl {xs,.inl h2,rfl},by rw[F.length];exact q _ H (Ext.refl _ _)<|.int _}
 |[.tup l],B,e=>
  cases e;obtain⟨v,rfl,h1⟩:=B.one;obtain⟨a,xs,rfl,h2,F⟩:=h1.tup_inv;exact tE pins s σ H _ us Q I r {_,_,rfl,.inr {xs,.inl<|.inl h2,rfl},by rw[F.length];exact q _ H (Ext.refl _ _)<|.int _}
 |[.str z],B,e=>
  simp only[cE]at e;by_cases hz:a7 z.length=cp
  .rw[cw hz]at e;cases e
   obtain⟨v,rfl,h1⟩:=B.one;have:=h1.str_inv;subst this;exact tE pins s σ H _ us Q I r {_,_,rfl,{fP hz,rfl},q _ H (Ext.refl _ _)<|.int _}
  .rw[cx hz]at e;cases e
 |[.dK l],B,e=>
  cases e;obtain⟨v,rfl,h1⟩:=B.one;obtain⟨a,xs,rfl,h2,U,F⟩:=h1.dK_inv;obtain⟨u,rfl,G⟩:=vals1 r;cases G;have N:xs.length=l.length:=by have:=congrArg zbI U;simpa using this
  exact YK I h2 λt s' J=>{.int xs.length,H,J,{t,rfl},by rw[N];exact q _ H (Ext.refl _ _)<|.int _}
 |[],_,e=>cases e
 |[.non],_,e=>cases e
 |[.bl _],_,e=>cases e
 |[.int _],_,e=>cases e
 |[.dT _],_,e=>cases e
 |_::_::_,_,e=>simp[cE]at e
def GC:List D->Option D
 |[.int i,.int j]=>b4<|.int<|if j<i then j else i
 |_=>cg
def GL:List D->Option D
 |[.int i,.int j]=>b4<|.int<|if j>i then j else i
 |_=>cg
def AW{ds:List D}{g:Int->Int->D}(h:(match ds with|[.int i,.int j]=>b4 (g i j)|_=>cg)=b4 d):∃i j,ds=[.int i,.int j]/\d=g i j:=by
 split at h
 .cases h;exact{_,_,rfl,rfl}
 .cases h
def PJ(z:X.calm=cp):i9 X (.builtin "min") GC:=CallR.mono (G3 z) <| by
 rintro xs H Q ⟨A,ds,d,B,r,e,q⟩;obtain⟨i,j,rfl,rfl⟩:=AW (g:=λi j=>.int<|if j<i then j else i) e;obtain⟨v,w,rfl,h1,h2⟩:=r.two;have:=h1.int_inv;subst this;have:=h2.int_inv;subst this;exact{i,j,rfl,q _ H (Ext.refl _ _)<|.int _}
def QE(z:X.calm=cp):i9 X (.builtin "max") GL:=CallR.mono (G9 z) <| by
 rintro xs H Q ⟨A,ds,d,B,r,e,q⟩;obtain⟨i,j,rfl,rfl⟩:=AW (g:=λi j=>.int<|if j>i then j else i) e;obtain⟨v,w,rfl,h1,h2⟩:=r.two;have:=h1.int_inv;subst this;have:=h2.int_inv;subst this;exact{i,j,rfl,q _ H (Ext.refl _ _)<|.int _}
def lA:List D->Option D
 |[.lst l]=>b4<|.tup l
 |[.tup l]=>b4<|.tup l
 |_=>cg
def wH:List D->Option D
 |[.lst l]=>b4<|.lst l
 |[.tup l]=>b4<|.lst l
 |_=>cg
def FE{ds:List D}{g:List D->D}(h:(match ds with|[.lst l]=>b4 (g l)|[.tup l]=>b4 (g l)|_=>cg)=b4 d):∃l,(ds=[.lst l]\/ds=[.tup l])/\d=g l:=by
 split at h
 .cases h;exact{_,.inl rfl,rfl}
 .cases h;exact{_,.inr rfl,rfl}
 .cases h
def tJ:i9 X (.type "tuple") lA:=CallR.mono uQ <| by
 rintro xs H Q ⟨A,ds,d,G,r,e,q⟩;obtain⟨l,F,rfl⟩:=FE (g:=.tup) e;rcases F with rfl|rfl
 .obtain⟨v,rfl,h1⟩:=r.one
  obtain⟨a,xs,rfl,h2,z⟩:=h1.lst_inv;exact{a,xs,rfl,.inl {.inl h2,λp B=>q _ _ (Ext.new B)<|.tup aI<|z.ext<|Ext.new B}}
 .obtain⟨v,rfl,h1⟩:=r.one
  obtain⟨a,xs,rfl,h2,z⟩:=h1.tup_inv;exact{a,xs,rfl,.inr {.inl<|.inl h2,q _ H (Ext.refl _ _)<|.tup h2 z}}
def Q2:BM X (.type "list") wH:=CallR.mono wY <| by
 rintro xs H Q ⟨A,ds,d,G,r,e,q⟩;obtain⟨l,J,rfl⟩:=FE (g:=.lst) e;rcases J with rfl|rfl
 .obtain⟨v,rfl,h1⟩:=r.one
  obtain⟨a,xs,rfl,h2,F⟩:=h1.lst_inv;exact{a,xs,rfl,.inl<|.inl h2,λp B=>q p _ (Ext.new B) B (λz=>G p z B)<|.lst aI<|F.fresh B}
 .obtain⟨v,rfl,h1⟩:=r.one
  obtain⟨a,xs,rfl,h2,F⟩:=h1.tup_inv;exact{a,xs,rfl,.inr<|.inl<|.inl h2,λp B=>q p _ (Ext.new B) B (λz=>G p z B)<|.lst aI<|F.fresh B}
end
section
variable {X:Cx}{O:List Nat}
def tyN:D->String
 |.non => "NoneType" | .bl _ => "bool" | .int _ => "int" | .str _ => "str" | .tup _ => "tuple" | .lst _ => "list" | .dK _ => "dict" | .dT _ => "dict"
def qa3(K:zaf):List V->Hp->VK->Prop:=λxs H Q=>∃A d x n b,xs=[x,.ty n]/\RepB A H d x/\zdk K (.type<|tyN d) (.type n)=b4 b/\Q (.bl b) H
def KL:CallR X (.builtin "isinstance")<|qa3 X.K:=by
 intro pins s σ H xs us Q I r h;obtain⟨A,d,x,n,b,rfl,B,e,q⟩:=h;have go:∀t,TyOf X.K H x t->t=.type (tyN d)->wpAny (model X.prog X.w) X.A (call (.builtin "isinstance") us) (EP X pins σ Q) X.xe s:=λt U N=>by
  subst N;exact My.KG pins s σ H _ us Q I r {x,n,_,b,rfl,U,e,q}
 cases d with
 |non=>have:=B.non_inv;subst this;exact go _ .non rfl
 |bl c=>have:=B.bl_inv;subst this;exact go _ (.bl c) rfl
 |int c=>have:=B.int_inv;subst this;exact go _ (.int c) rfl
 |str c=>have:=B.str_inv;subst this;exact go _ (.str c) rfl
 |tup l=>obtain⟨a,xs,rfl,h1,_⟩:=B.tup_inv;exact go _ (.tup h1) rfl
 |lst l=>
  obtain⟨a,xs,rfl,h1,_⟩:=B.lst_inv;rcases h1 with h1|⟨o,h1⟩
  .exact go _ (.lst h1) rfl
  .exact go _ (.frz h1) rfl
 |dK l=>
  obtain⟨a,xs,rfl,h1,_⟩:=B.dK_inv;obtain⟨u,J,rfl,F,G⟩:=vals2 r;cases F;cases G;obtain⟨_,_,vs,_,p⟩:=(show ObjOk X.prog X.w H s.heap a (.dK xs)from h1.ok I.hok);obtain⟨o,es,ep,h1,h2,_⟩:=p;exact zbA zdN I.kIn {o,h1,h2.1} e (λz=>nomatch z) λtk=>{.bl b,H,I.tok tk,rfl,q}
 |dT l=>
  obtain⟨a,xs,rfl,h1,_⟩:=B.dT_inv;obtain⟨u,J,rfl,F,G⟩:=vals2 r;cases F;cases G;obtain⟨_,_,xs,_,o,es,ep,h1,h2,_⟩:=(show ObjOk X.prog X.w H s.heap a (.dT xs)from h1.ok I.hok);exact zbA zdN I.kIn {o,h1,h2.1} e (λz=>nomatch z) λtk=>{.bl b,H,I.tok tk,rfl,q}
def uM(n:String)(d:D):Bool:=match d with
 |.non=>cr
 |.bl _=>n == "bool" || n == "int"
 |.int _=>n == "int"
 |.str _=>n == "str"
 |.tup _=>n == "tuple"
 |.lst _=>n == "list"
 |.dK _=>n == "dict"
 |.dT _=>n == "dict"
def Kit(n:String):Prop:=∀(K:zaf) (d:D),zdk K (.type<|tyN d) (.type n)=b4 (uM n d)
def RI:Kit "int" := λK d=>by cases d <;> rfl
def K4:Kit "bool" := λK d=>by cases d <;> rfl
def kit_tuple:Kit "tuple" := λK d=>by cases d <;> rfl
def K7:Kit "list" := λK d=>by cases d <;> rfl
def JD(n:String)(f:Ev):Ev:=λρ=>(f ρ).map λd=>.bl<|uM n d
def xY(F:Kit n)(Y:Gl X "isinstance")(U:X.mg "isinstance" = cg)(z:Gl X x)(B:X.mg x=cg)(J:zaO x=b4 (.type n))(W:PB X O e f)(hn:x ≠ "__name__" := by decide)(hd:(x == ("__debug__" : Str))=cr:=by decide)
  (h1:zah [e,.Name x p2] X.env=(cr,eval e X.env)::zah [.Name x p2] X.env:=by rfl) (h2:(zaJ pos<|zah [.Name x p2] X.env).any (·.1)=cr:=by rfl) (G:zah [.Name x p2] X.env=(cr,eval (.Name x p2) X.env)::zah [] X.env:=by rfl) :
  PD X O (.Call (.Name "isinstance" p) [e,.Name x p2] [] pos) (JD n f):=
 PE.mono (sY KL Y U My.boot_isinstance (fQ W (fQ (OP (v:=.ty n) z B J rfl hn hd) k9 G) h1) (by decide) (by decide) h1 h2) <| by
  rintro σ H Q ⟨H0,A0,A,E,ρ,d,st,e,q⟩;obtain⟨x,ex,rfl⟩:=map_some e;exact{H0,A0,A,E,ρ,x,st,ex,λv H1 x1 N=>{A,x,v,n,_,rfl,N,F _ _,q _ H1 x1<|.bl _}}
def t9:List Key->Option (List Int)
 |[]=>b4 []
 |.inl i::ks=>(t9 ks).map (i::·)
 |_=>cg
theorem v6:∀ {k:List Key} {ns:List Int},t9 k=b4 ns->k=ns.map zan
 |[],ns,h=>by cases h;rfl
 |.inl i::ks,ns,h=>by obtain⟨ms,h1,rfl⟩:=map_some h;rw[v6 h1];rfl
theorem oE:∀ns:List Int,t9 (ns.map zan)=b4 ns
 |[]=>rfl
 |n::ns=>by rw[zak,t9,oE ns];rfl
def intKeys{α:Type}:List (List Key×α)->Option (List<|List Int×α)
 |[]=>b4 []
 |p::l=>(t9 p.1).bind λns=>(intKeys l).map λr=>(ns,p.2)::r
def S7{α:Type}(p:List Int×α):List Key×α:=(p.1.map zan,p.2)
theorem kU{q:Type}:∀ {l:List (List Key×q)} {m:List (List Int×q)},intKeys l=b4 m->l=m.map S7
 |[],m,h=>by cases h;rfl
 |p::l,m,h=>by
  obtain⟨ns,h1,h⟩:=bind_some h;obtain⟨r,h2,rfl⟩:=map_some h;rw[zak,kU h2];congr 1;show p=(ns.map zan,p.2);rw[<- v6 h1]
theorem oN{q:Type}:∀m:List (List Int×q),intKeys (m.map S7)=b4 m
 |[]=>rfl
 |p::m=>by rw[zak,intKeys,show(S7 p).1=p.1.map zan from rfl,oE,oN m];rfl
def yE(k:List Int):Bool:=(k.length == 1 || k.length == 2) && k.all λe=>decide (0<=e) && decide (e<=8)
def IG(h:yE k=cp):My.yB k:=by
 simp only[yE,zaM,zeq,beq_iff_eq,zcO,decide_eq_true_eq]at h;exact h
def GG:List D->Option D
 |[.dT l]=>(intKeys l).bind λm=>if m.all λp=>yE p.1 then b4 (.dT l)else cg
 |_=>cg
def C2(h:GG ds=b4 d):∃l m,ds=[.dT l]/\d=.dT l/\intKeys l=b4 m/\(m.all λp=>yE p.1)=cp:=by
 unfold GG at h;split at h
 .obtain⟨m,q,h⟩:=bind_some h
  split at h
  .cases h;exact{_,m,rfl,rfl,q,by assumption}
  .cases h
 .cases h
def rY{m:List (List Int×D)}(e:xs.map (·.1)=(m.map S7).map (·.1)):∃ps:List (List Int×V),xs=ps.map My.kI/\ps.map (·.1)=m.map (·.1):=by
 induction m generalizing xs with
 |nil=>cases xs with
  |nil=>exact{[],rfl,rfl}
  |cons _ _=>cases e
 |cons p m ih=>cases xs with
  |nil=>cases e
  |cons x xs=>
   rw[zak,zak,zak]at e;injection e with e1 e2
   obtain⟨ps,h1,h2⟩:=ih e2;refine{(p.1,x.2)::ps,?_,by rw[zak,zak,h2]};rw[zak,<- h1];congr 1;show x=(p.1.map zan,x.2);rw[<- show x.1=p.1.map zan from e1]
def RH:BM X (.type "dict") GG:=by
 intro pins s σ H xs us Q I r h;obtain⟨A,ds,d,lv,N,e,q⟩:=h;obtain⟨l,m,rfl,rfl,e1,e2⟩:=C2 e;obtain⟨v,rfl,h1⟩:=N.one;obtain⟨a,ys,rfl,h2,J,U⟩:=h1.dT_inv;have el:=kU e1;subst el;obtain⟨ps,rfl,e4⟩:=rY J;obtain⟨_,_,F,_⟩:=My.D2 I h2;have hn:((ps.map My.kI).map λp=>(za4<|aT X.prog X.w).hash p.1).Nodup:=by
  let cs:List My.Tm:=ps.map λp=>(p.1,(0:Int))
  have G:cs.map (·.1)=ps.map (·.1):=by rw[zaI];rfl
  have:=My.DB X.prog X.w (cs:=cs) (by rw[G];exact F) (λt W=>by
   have:t.1∈m.map (·.1):=by rw[<- e4,<- G];exact List.mem_map.mpr {t,W,rfl}
   obtain⟨p,B,ep⟩:=List.mem_map.mp this;rw[<- ep];exact IG<|List.all_eq_true.mp e2 p B)
  have Y:((cs.map My.kJ).map λp=>(za4<|aT X.prog X.w).hash p.1)=(ps.map My.kI).map λp=>(za4<|aT X.prog X.w).hash p.1:=by
   rw[zaI,zaI,zaI];rfl
  rw[<- Y];exact this
 exact My.C9 pins s σ H _ us Q I r {a,_,rfl,h2,hn,λp B=>q p _ (Ext.new B) B (λz=>lv p z B)<|.dT aI J<|U.fresh B}
def ins{α:Type}(p:List Int×α):List (List Int×α)->List (List Int×α)
 |[]=>[p]
 |q::r=>if HT.lexLt p.1 q.1=cp then p::q::r else q::ins p r
def bK{α:Type}:List (List Int×α)->List (List Int×α)
 |[]=>[]
 |p::r=>ins p<|bK r
theorem ins_map{z B:Type}(f:z->B)(p:List Int×z):∀l:List (List Int×z),(ins p l).map (λx=>(x.1,f x.2))=ins (p.1,f p.2) (l.map λx=>(x.1,f x.2))
 |[]=>rfl
 |q::r=>by
  rw[ins,zak,ins];by_cases h:HT.lexLt p.1 q.1=cp
  .rw[cw h,cw h];rfl
  .rw[cx h,cx h,zak,ins_map f p r]
theorem jI{q z:Type}(f:q->z):∀l:List (List Int×q),(bK l).map (λx=>(x.1,f x.2))=bK (l.map λx=>(x.1,f x.2))
 |[]=>rfl
 |p::r=>by rw[bK,ins_map,jI f r,zak,bK]
theorem tM{z:Type}(p:List Int×z):∀l:List (List Int×z),(ins p l).Perm (p::l)
 |[]=>.refl _
 |q::r=>by
  rw[ins];by_cases h:HT.lexLt p.1 q.1=cp
  .rw[cw h]
  .rw[cx h];exact((tM p r).cons q).trans<|.swap ..
theorem dD{q:Type}:∀l:List (List Int×q),(bK l).Perm l
 |[]=>.refl _
 |p::r=>(tM p<|bK r).trans<|(dD r).cons p
def jT{q:Type}(l:List<|List Int×q):Prop:=l.Pairwise λa b=>HT.lexLt a.1 b.1=cp
theorem sF{G:Type}(p:List Int×G):∀l:List (List Int×G),(∀q∈l,q.1≠p.1)->jT l->jT (ins p l)
 |[],_,_=>by rw[ins];exact List.pairwise_singleton _ _
 |q::r,hn,h=>by
  rw[ins];have B:=List.pairwise_cons.mp h;by_cases c:HT.lexLt p.1 q.1=cp
  .rw[cw c]
   refine List.pairwise_cons.mpr {λx F=>?_,h};rcases List.mem_cons.mp F with e|e
   .rw[e];exact c
   .exact My.yI _ _ _ c<|B.1 x e
  .rw[cx c]
   refine List.pairwise_cons.mpr {λx F=>?_,sF p r (λy J=>hn y<|zax _ J) B.2};rcases List.mem_cons.mp ((tM p r).subset F)with e|e
   .rw[e]
    rcases My.xR p.1 q.1 (λz=>hn q (zaw ..) z.symm)with z|z
    .exact absurd z c
    .exact z
   .exact B.1 x e
theorem lS{F:Type}:∀l:List (List Int×F),(l.map (·.1)).Nodup->jT (bK l)
 |[],_=>List.Pairwise.nil
 |p::r,h=>by
  rw[zak,zdx]at h;refine sF p _ (λq B z=>h.1 ?_)<|lS r h.2;exact List.mem_map.mpr {q,(dD r).subset B,z}
def uT{q:Type}{l m:List (List Int×q)}(h1:jT l)(h2:jT m)(z:l.Perm m):l=m:=by
 refine List.Perm.eq_of_pairwise (le:=λ(a b:List Int×q)=>HT.lexLt a.1 b.1=cp) (λa b _ _ x y=>?_) h1 h2 z;have:=My.yI _ _ _ x y;rw[My.xD]at this;cases this
def zJ{m:List (List Int×D)}(N:(ps.map (·.1)).Nodup)(h:PP A H (m.map S7)<|ps.map My.kI)(hs:My.yJ qs)(Y:qs.Perm ps):zaV (λ(p:List Int×D) (q:List Int×V)=>p.1=q.1/\Rep A H p.2 q.2) (bK m) qs:=by
 -- both by one list of triples
 have J:∀ {m:List (List Int×D)} {ps:List (List Int×V)},PP A H (m.map S7) (ps.map My.kI)->∃ts:List (List Int×(D×V)),m=ts.map (λt=>(t.1,t.2.1))/\ps=ts.map (λt=>(t.1,t.2.2))/\∀t∈ts,Rep A H t.2.1 t.2.2:=by
  intro m;induction m with
  |nil=>intro ps h;cases ps with
   |nil=>exact{[],rfl,rfl,λ_ h=>nomatch h}
   |cons _ _=>cases h
  |cons p m ih=>intro ps h;cases ps with
   |nil=>cases h
   |cons q ps=>
    cases h with
    |cons h t=>
     obtain⟨ts,F,G,B⟩:=ih t;have W:p.1=q.1:=My.jM.mp h.1;refine{(p.1,(p.2,q.2))::ts,by rw[zak,<- F],by rw[zak,<- G];congr 1;rw[W],λt z=>?_};rcases List.mem_cons.mp z with e|e
     .rw[e];exact h.2
     .exact B t e
 obtain⟨ts,F,G,B⟩:=J h;have d1:bK m=(bK ts).map λt=>(t.1,t.2.1):=by rw[F,jI]
 have d2:qs=(bK ts).map λt=>(t.1,t.2.2):=by
  have U:jT<|bK ps:=lS ps N;have:=uT (l:=qs) (m:=bK ps) hs U<|Y.trans (dD ps).symm;rw[this,G,jI]
 rw[d1,d2];refine My.hJ _ λt z=>{rfl,B t<|(dD ts).subset z}
theorem zU:∀ns:List Int,RepL A H (ns.map .int) (ns.map V.int)
 |[]=>.nil
 |n::ns=>.cons (.int n)<|zU ns
def VH{id:String}(B:Slot "dict" name id)(F:typeOf (.builtin id)=pure (.type "method_descriptor"))(Y:MtR X id r)(ho:PE X o to)
  (q:zcJ o name X.env (eval o X.env)=eval o X.env:=by rfl) (z:(apos.endLine == cpos.line)=cp:=by rfl):PE X (.Call (.Attribute o name apos) [] [] cpos) λσ H Q=>to σ H λx H1=>∃a,x=.ref a/\X9 H1 a/\r x [] H1 Q:=by
 intro pins s σ H Q I h;refine wpAny_Call_method0_late q z<|bN (ho pins s σ H _ I h) λv N ⟨x,H1,J,W,a,ex,G,U⟩=>?_;subst ex;cases W;obtain⟨h1,h2,_⟩:=DS J G;exact{"dict",id,ze0,B,F,h1,h2,zdV rfl<|PySem.evalArgs_none<|Y pins N σ H1 (.ref a) [] (.ref a) [] Q J rfl .nil U}
def wI(g:D->Option D)(f:Ev):Ev:=λρ=>(f ρ).bind g
def tT:D->Option D
 |.dT l=>(intKeys l).bind λm=>if m.length<64 then b4 (.lst<|(bK m).map λp=>.tup [.tup<|p.1.map .int,p.2])else cg
 |_=>cg
set_option tactic.hygienic true in
def CN(hc:X.calm=cp)(hu:X.A.units+64<cLine)(hg:Gl X "sorted")(hm:X.mg "sorted" = cg)(ho:PB X O o f)
  (hp:∀ {to:TE},PE X o to->PE X (.Call (.Attribute o "items" apos) [] [] cpos) (λσ H Q=>to σ H λx H1=>∃a,x=.ref a/\X9 H1 a/\My.NL x [] H1 Q))
  (he:zah [.Call (.Attribute o "items" apos) [] [] cpos] X.env=(cr,eval (.Call (.Attribute o "items" apos) [] [] cpos) X.env)::zah [] X.env:=by rfl) (ab:(zaJ pos<|zah [] X.env).any (·.1)=cr:=by rfl) :
  PF X O (.Call (.Name "sorted" p) [.Call (.Attribute o "items" apos) [] [] cpos] [] pos) (wI tT f):=by
 have F:CallR X (.builtin "sorted") λxs H Q=>∃A r a ys m,xs=[.ref r]/\Live A H/\H r=b4 (.ext λh=>h.IsItemsView r a)/\Rd H a (.dT ys)/\ys.map (·.1)=(m.map S7).map (·.1)/\RepL A H ((m.map S7).map (·.2)) (ys.map (·.2))/\m.length<64/\∀a H',Ext A H H'->H a=cg->¬ A a->Own (λb=>A b\/b=a) H' (.lst<|(bK m).map λp=>.tup [.tup<|p.1.map .int,p.2]) a->Q (.ref a) H':=by
  intro pins s σ H xs us Q I r h;obtain⟨A,r',a,ys,m,rfl,lv,B,h2,J,r3,G,q⟩:=h;obtain⟨ps,rfl,e4⟩:=rY J;obtain⟨_,_,ae,_⟩:=My.D2 I h2;have af:ps.length=m.length:=by have:=congrArg zbI e4;simpa using this
  refine My.wW hc hu pins s σ H _ us Q I r {r',a,ps,rfl,B,h2,by lia,λla us N H2 sm n0 h3 pr pm so=>?_};have sb:=zJ (A:=A) (H:=H) ae (wG J r3) so pm;have up:∀ {d:D} {v:V},Rep A H d v->Rep (λb=>A b\/b=la) H2 d v:=λr=>by
   have Y:Rep (λb=>A b\/b=la) H _ _:=r.av λb U=>U.imp id λz=>by rw[z];exact n0
   exact Y.ext<|Ext.same sm
  have aa:∀ {ts:List (List Int×D)} {N:List (List Int×V)} {us:List V},zaV (λ(p:List Int×D) (q:List Int×V)=>p.1=q.1/\Rep A H p.2 q.2) ts N->zaV (My.elP H2) us N->RepL (λb=>A b\/b=la) H2 (ts.map λp=>.tup [.tup<|p.1.map .int,p.2]) us:=by
   intro ts N us h;induction h generalizing us with
   |nil=>intro h;cases h;exact .nil
   |cons h t ih=>
    intro h';cases h' with
    |cons h' t'=>
     obtain⟨a,b,rfl,ha,U⟩:=h';exact .cons (.tup ha<|.cons (.tup U<|by rw[h.1];exact zU _)<|.cons (up h.2) .nil)<|ih t'
  exact q la H2 (Ext.same sm) n0 (λz=>lv la z n0)<|.lst h3<|aa sb pr
 refine PE.mono (sY F hg hm My.boot_sorted (fQ (hp ho) k9 he) (by decide) (by decide) he ab) λσ H Q ⟨H0,A0,A,E,ρ,d,st,e,q⟩=>?_
 obtain⟨x,ex,e⟩:=bind_some e;cases x with
 |dT l=>
  obtain⟨m,e1,e⟩:=bind_some e;split at e
  case isFalse=>cases e
  rename_i G;cases e;have el:=kU e1;subst el;refine{H0,A0,A,E,ρ,_,st,ex,λv H1 W Y=>?_};obtain⟨a,ys,rfl,h2,J,r3⟩:=Y.dT_inv;refine{a,rfl,.inr {ys,h2},a,ys,rfl,rfl,h2,λr B=>{A,r,a,ys,m,rfl,Live.ext (st.mono W).live<|Ext.new B,aI,nR (λz=>?_) h2,J,r3.ext<|Ext.new B,G,λa' H' x' n na o=>?_}}
  .subst z;rcases h2 with h2|⟨_,h2⟩ <;> (rw[B]at h2;cases h2)
  .have x2:=(W.trans<|Ext.new B).trans x'
   exact q a' H' x2 ((W.trans<|Ext.new B).free n) na o
 |_=>exact nn e
end
def lF:D->Option Int->Option Int->Option D
 |.tup l,lo,hi=>b4<|.tup<|cutD l lo hi
 |.lst l,lo,hi=>b4<|.lst<|cutD l lo hi
 |_,_,_=>cg
def qaJ:SlR X<|rS lF:=SlR.mono (SlR.or qa0<|SlR.mono qa7 λx lo hi H Q (h:rS qag x lo hi H Q)=>by
  obtain⟨A,dx,d,z,B,e,q⟩:=h;exact{A,dx,d,z,B,e,λa H' x n G o=>q _ H' x<|(o.av (A':=A) λb F=>.inl<|.inl F).rep G}) λx lo hi H Q ⟨A,dx,d,z,B,e,q⟩=>by
 cases dx with
 |tup l=>exact .inl {A,_,d,z,B,e,q}
 |lst l=>exact .inr {A,_,d,z,B,e,q}
 |_=>exact nn e
section
variable {ρ:dC}{f g:Ev}{d x y:D}{i j:Int}{k:Nat}
@[simp] theorem q_seq{f g:Sv}:bW f g ρ=(f ρ).bind λo=>match o with | .nx ρ'=>g ρ'|o=>b4 o:=rfl
@[simp] theorem q_set:dA k f ρ=(f ρ).map λd=>.nx<|ρ.set k<|b4 d:=rfl
@[simp] theorem q_if{f g:Sv}:wL c f g ρ=(c ρ).bind λb=>if b=cp then f ρ else g ρ:=rfl
@[simp] theorem q_rt:JM f ρ=(f ρ).map .rt:=rfl
@[simp] theorem q_nx:B4 ρ=b4 (.nx ρ):=rfl
@[simp] theorem q_bad:SA ρ=cg:=rfl
@[simp] theorem q_asg{g:Gv}:SG f g ρ=(f ρ).bind λd=>(g d ρ).map .nx:=rfl
@[simp] theorem q_for{f:Lv}{g:Gv}:iD f g b ρ=(f ρ).bind λitems=>cX g b items ρ:=rfl
@[simp] theorem q_drop:NU f ρ=(f ρ).map λ_=>.nx ρ:=rfl
@[simp] theorem q_app:D6 k f ρ=(aD k ρ).bind λx=>match x with
 |.lst l=>(f ρ).bind λd=>if a7 l.length then b4 (.nx<|ρ.set k<|b4<|.lst<|l++[d])else cg
 |_=>cg:=rfl
@[simp] theorem q_put:yR k f g ρ=(g ρ).bind λe=>(aD k ρ).bind λx=>(f ρ).bind λq=>(uK x q e).map λd=>.nx<|ρ.set k<|b4 d:=rfl
@[simp] theorem q_var:aD k ρ=(ρ[k]?).join:=rfl
@[simp] theorem q_c:eC d ρ=b4 d:=rfl
@[simp] theorem q_op:bE o f g ρ=(f ρ).bind λx=>(g ρ).bind λy=>o x y:=rfl
@[simp] theorem q_call:aW F l ρ=(l ρ).bind F:=rfl
@[simp] theorem q_lnil:bB ρ=b4 []:=rfl
@[simp] theorem q_lcons:aE f l ρ=(f ρ).bind λx=>(l ρ).bind λxs=>b4<|x::xs:=rfl
@[simp] theorem q_tup:gQ l ρ=(l ρ).map .tup:=rfl
@[simp] theorem q_lst:u3 l ρ=(l ρ).map .lst:=rfl
@[simp] theorem q_bind:wI o f ρ=(f ρ).bind o:=rfl
@[simp] theorem q_bof:lJ f ρ=(f ρ).bind BZ:=rfl
@[simp] theorem q_asB:BZ (.bl b)=b4 b:=rfl
@[simp] theorem q_asI:S4 (.int i)=b4 i:=rfl
@[simp] theorem q_bnot:EA c ρ=(c ρ).map (!·):=rfl
@[simp] theorem q_band:yQ a b ρ=(a ρ).bind λx=>if x=cp then b ρ else b4 cr:=rfl
@[simp] theorem q_bor:YG a b ρ=(a ρ).bind λx=>if x=cp then b4 cp else b ρ:=rfl
@[simp] theorem q_and:qp f g ρ=(f ρ).bind λx=>(BZ x).bind λb=>if b=cp then g ρ else b4<|.bl cr:=rfl
@[simp] theorem q_or:eOr f g ρ=(f ρ).bind λx=>(BZ x).bind λb=>if b=cp then b4 (.bl cp)else g ρ:=rfl
@[simp] theorem q_not:qae f ρ=(f ρ).bind λx=>(BZ x).map λb=>.bl<|!b:=rfl
@[simp] theorem q_neg:R9 f ρ=(f ρ).bind λd=>(S4 d).map λi=>.int<|-i:=rfl
@[simp] theorem q_ifx:eIf c f g ρ=(c ρ).bind λb=>if b=cp then f ρ else g ρ:=rfl
@[simp] theorem q_isi:JD n f ρ=(f ρ).map λd=>.bl<|uM n d:=rfl
@[simp] theorem q_get2:uH a b c ρ=(a ρ).bind λd=>(b ρ).bind λk=>(c ρ).bind λe=>(cJ d k).map λo=>o.getD e:=rfl
@[simp] theorem q_sl:OA o f a b ρ=(f ρ).bind λx=>(a ρ).bind λlo=>(b ρ).bind λhi=>o x lo hi:=rfl
@[simp] theorem q_oN:uI ρ=b4 cg:=rfl
@[simp] theorem q_oS:mX f ρ=(f ρ).bind λd=>(S4 d).map b4:=rfl
@[simp] theorem q_lR:lR o l ρ=(l ρ).bind o:=rfl
@[simp] theorem q_lSeq:N5 f ρ=(f ρ).bind λd=>match d with
 |.lst l=>b4 l
 |.tup l=>b4 l
 |.dT l=>b4<|l.map λp=>.tup<|p.1.map nV
 |_=>cg:=rfl
@[simp] theorem q_comp{g:Gv}:gP ms it g c f ρ=(it ρ).bind λitems=>if a7 items.length then(bV g c f items<|pR ms ρ).map .lst else cg:=rfl
@[simp] theorem q_yes:pX ρ=b4 cp:=rfl
@[simp] theorem q_name:aO k d ρ=b4 (ρ.set k<|b4 d):=rfl
@[simp] theorem q_gnil:dP [] ρ=b4 ρ:=rfl
@[simp] theorem q_gcons{g:Gv}:bA g h (d::ds) ρ=(g d ρ).bind λρ'=>h ds ρ':=rfl
@[simp] theorem q_gtup:c9 n h (.tup l) ρ=if l.length=n then h l ρ else cg:=rfl
@[simp] theorem q_sub:BX (.int i) (.int j)=b4 (.int<|i-j):=rfl
@[simp] theorem q_addI:wD (.int i) (.int j)=b4 (.int<|i+j):=rfl
@[simp] theorem q_ltI:dLt (.int i) (.int j)=b4 (.bl<|decide (i<j)):=rfl
@[simp] theorem q_gtI:BV (.int i) (.int j)=b4 (.bl<|decide (j<i)):=rfl
@[simp] theorem q_geI:Z6 (.int i) (.int j)=b4 (.bl<|decide (j<=i)):=rfl
@[simp] theorem q_eqI:pZ (.int i) (.int j)=b4 (.bl<|decide (i=j)):=by
 unfold pZ JO;rw[cw<|.inl rfl];simp
@[simp] theorem q_neI:EE (.int i) (.int j)=b4 (.bl<|!decide (i=j)):=by
 unfold EE JO;rw[cw<|.inl rfl];simp
@[simp] theorem q_eqB:pZ (.bl a) (.bl b)=b4 (.bl<|decide (a=b)):=by
 unfold pZ JO;rw[cw<|.inl rfl];simp
@[simp] theorem q_neB:EE (.bl a) (.bl b)=b4 (.bl<|!decide (a=b)):=by
 unfold EE JO;rw[cw<|.inl rfl];simp
def bS(h:0<j):dM (.int i) (.int j)=b4 (.int<|i%j):=cw h
def gO(h:0<j)(h2:j<1073741824):lG (.int i) (.int j)=b4 (.int<|i/j):=cw {h,h2}
def BQ(h:0<=j)(h2:j<=1000000)(q:i.natAbs<2^64):D7 (.int i) (.int j)=b4 (.int<|i^j.toNat):=cw {h,h2,q}
@[simp] theorem q_isN:N1 d .non=b4 (.bl<|dJ d):=rfl
@[simp] theorem q_notN:NO d .non=b4 (.bl<|!dJ d):=rfl
@[simp] theorem q_lenL:cE [.lst l]=b4 (.int l.length):=rfl
@[simp] theorem q_lenT:cE [.tup l]=b4 (.int l.length):=rfl
@[simp] theorem q_min:GC [.int i,.int j]=b4 (.int<|if j<i then j else i):=rfl
@[simp] theorem q_max:GL [.int i,.int j]=b4 (.int<|if j>i then j else i):=rfl
@[simp] theorem q_tuL:lA [.lst l]=b4 (.tup l):=rfl
@[simp] theorem q_tuT:lA [.tup l]=b4 (.tup l):=rfl
@[simp] theorem q_liL:wH [.lst l]=b4 (.lst l):=rfl
@[simp] theorem q_liT:wH [.tup l]=b4 (.lst l):=rfl
@[simp] theorem q_slT{lo hi:Option Int}:lF (.tup l) lo hi=b4 (.tup<|cutD l lo hi):=rfl
@[simp] theorem q_slL{lo hi:Option Int}:lF (.lst l) lo hi=b4 (.lst<|cutD l lo hi):=rfl
@[simp] theorem q_itL:aN (.lst l) (.int i)=d8 l i:=rfl
@[simp] theorem q_itT:aN (.tup l) (.int i)=d8 l i:=rfl
@[simp] theorem q_itD:aN (.dT l) d=(cJ (.dT l) d).join:=rfl
@[simp] theorem isi_int_int:uM "int" (.int i)=cp:=rfl
@[simp] theorem isi_bool_int:uM "bool" (.int i)=cr:=rfl
@[simp] theorem isi_tuple_tup:uM "tuple" (.tup l)=cp:=rfl
@[simp] theorem isi_list_lst:uM "list" (.lst l)=cp:=rfl
end
def turn(g:Gv)(b:Sv)(x:D):Sv:=λρ=>(g x ρ).bind b
def eU(I:Nat->dC->Prop)(h0:I 0 ρ)(hs:∀i x ρ,items[i]?=b4 x->I i ρ->∃ρ',turn g b x ρ=b4 (.nx ρ')/\I (i+1) ρ'):∃ρ',cX g b items ρ=b4 (.nx ρ')/\I items.length ρ':=by
 have B:∀(m:List D) (k:Nat) (ρ:dC),items.drop k=m->k<=items.length->I k ρ->∃ρ',cX g b m ρ=b4 (.nx ρ')/\I items.length ρ':=by
  intro m;induction m with
  |nil=>
   intro k ρ e U h;have:items.length<=k:=by rw[List.drop_eq_nil_iff]at e;exact e
   have:k=items.length:=by lia
   subst this;exact{ρ,rfl,h}
  |cons x m ih=>
   intro k ρ e U h;have q:k<items.length:=by
    rcases Nat.lt_or_ge k items.length with z|z
    .exact z
    .rw[List.drop_eq_nil_iff.mpr z]at e;cases e
   rw[zep q]at e;injection e with e1 e2
   obtain⟨ρ',h1,h2⟩:=hs k x ρ (by rw[<- e1];simp[q]) h;obtain⟨ρ2,G,J⟩:=ih (k+1) ρ' e2 q h2;refine{ρ2,?_,J};unfold turn at h1;obtain⟨ρ1,F,N⟩:=bind_some h1;unfold cX;rw[F];show(b ρ1).bind _=_;rw[N];exact G
 exact B items 0 ρ rfl (za1 _) h0
def aM(h:f (aK n ds)=b4 (.rt d)):aY n f ds=b4 d:=by
 unfold aY;rw[h];rfl
def VQ(h:f (aK n ds)=b4 (.nx ρ)):aY n f ds=b4 .non:=by
 unfold aY;rw[h];rfl
def aG(h:f ρ=b4 (.nx ρ')):bW f g ρ=g ρ':=by
 unfold bW;rw[h];rfl
def VE(h:f ρ=b4 (.rt d)):bW f g ρ=b4 (.rt d):=by
 unfold bW;rw[h];rfl
def qbr(h:c ρ=b4 cp):wL c f g ρ=f ρ:=by
 unfold wL;rw[h];rfl
def D8(h:c ρ=b4 cr):wL c f g ρ=g ρ:=by
 unfold wL;rw[h];rfl
def aJ(h:f ρ=b4 d):dA k f ρ=b4 (.nx<|ρ.set k<|b4 d):=by
 unfold dA;rw[h];rfl
def qx(h:f ρ=b4 d):JM f ρ=b4 (.rt d):=by
 unfold JM;rw[h];rfl
def b8{b rest:Sv}(q:f ρ=b4 items)(I:Nat->dC->Prop)(h0:I 0 ρ)(hs:∀i x ρ,items[i]?=b4 x->I i ρ->∃ρ',turn g b x ρ=b4 (.nx ρ')/\I (i+1) ρ')(k:∀ρ',I items.length ρ'->rest ρ'=out):bW (iD f g b) rest ρ=out:=by
 obtain⟨ρ',e,h⟩:=eU (g:=g) (b:=b) I h0 hs;rw[aG<|by rw[q_for,q];exact e];exact k ρ' h
open My (look put bX m7 b7)
def kD(t:My.Tm):List Key×D:=(t.1.map zan,.int t.2)
def tupI(k:List Int):D:=.tup<|k.map .int
def bP(t:My.Tm):D:=.tup [tupI t.1,.int t.2]
theorem u7:∀k:List Int,NY (k.map .int)=b4 (k.map zan)
 |[]=>rfl
 |i::k=>by rw[zak,NY,u7 k];rfl
@[simp] theorem asT_tupI(k:List Int):B2 (tupI k)=b4 (k.map zan):=u7 k
theorem WB(cs:List My.Tm)(k:List Int):b6 (cs.map kD) (k.map zan:List Key)=(look cs k).map D.int:=by
 induction cs with
 |nil=>rfl
 |cons t cs ih=>
  rw[zak];by_cases e:t.1=k
  .have:(kD t).1=k.map zan:=by show t.1.map zan=_;rw[e]
   simp[b6,look,za0,this,e,kD]
  .have:¬ (kD t).1=k.map zan:=by show ¬ t.1.map zan=_;rw[My.jM];exact e
   have a:b6 (kD t::cs.map kD) (k.map zan)=b6 (cs.map kD) (k.map zan):=by simp[b6,za0,this]
   rw[a,ih];simp[look,za0,e]
def NJ(cs:List My.Tm)(k:List Int)(c:Int):putD (cs.map kD) (k.map zan:List Key) (.int c)=(put cs k c).map kD:=by
 unfold putD put;have e:((cs.map kD).any λB=>decide (B.1=(k.map zan:List Key)))=cs.any λt=>decide (t.1=k):=by
  rw[List.any_map];congr 1;funext t;exact decide_eq_decide.mpr<|My.jM (a:=t.1) (b:=k)
 rw[e];by_cases h:(cs.any λt=>decide (t.1=k))=cp
 .rw[cw h,cw h,zaI,zaI]
  congr 1;funext t;show(if t.1.map zan=(k.map zan:List Key)then((t.1.map zan:List Key),D.int c)else kD t)=kD (if t.1=k then(t.1,c)else t);by_cases z:t.1=k
  .rw[cw z,cw<|My.jM.mpr z];rfl
  .rw[cx z,cx λq=>z<|My.jM.mp q]
 .rw[cx h,cx h,za5]
  rfl
@[simp] theorem look_kD(cs:List My.Tm)(k:List Int):cJ (.dT<|cs.map kD) (tupI k)=b4 ((look cs k).map D.int):=by
 show(B2<|tupI k).map _=_;rw[asT_tupI,zae,WB]
def ES(k:List Int)(c:Int)(h:cs.length<=1000000):uK (.dT<|cs.map kD) (tupI k) (.int c)=b4 (.dT<|(put cs k c).map kD):=by
 show(B2<|tupI k).bind _=_;rw[asT_tupI,zad,cw (by rw[a7,zaj];exact decide_eq_true h),NJ]
def CG(cs:List My.Tm):intKeys (cs.map kD)=b4 (cs.map λt=>(t.1,D.int t.2)):=by
 have:=oN<|cs.map λt=>(t.1,D.int t.2);rw[zaI]at this;exact this
def CH(h:cs.length<64):tT (.dT<|cs.map kD)=b4 (.lst<|(bK cs).map bP):=by
 show(intKeys<|cs.map kD).bind _=_;rw[CG,zad,cw<|by rw[zaj];exact h];have:(bK<|cs.map λt=>(t.1,D.int t.2))=(bK cs).map λt=>(t.1,D.int t.2):=(jI D.int cs).symm
 rw[this,zaI];rfl
def AZ{ns:List Int}(h0:0<=k)(h:k<(ns.length:Int)):∃c,d8 (ns.map D.int) k=b4 (.int c)/\ns[k.toNat]?=b4 c:=by
 obtain⟨j,rfl⟩:∃j:Nat,k=(j:Int):={k.toNat,by lia};have q:j<ns.length:=by lia
 exact{ns[j],bH<|by simp[q],by simp[q]}
def cS:D->Option (List D)
 |.lst l=>b4 l
 |.tup l=>b4 l
 |_=>cg
def hZ:List D->List D->List D
 |x::xs,y::ys=>.tup [x,y]::hZ xs ys
 |_,_=>[]
def XO(f:Lv):Lv:=λρ=>(f ρ).bind λds=>match ds with
 |[a,b]=>(cS a).bind λxs=>(cS b).map λys=>hZ xs ys
 |_=>cg
theorem AD:∀ {xs ys:List D} {i:Nat} {d:D},(hZ xs ys)[i]?=b4 d->∃x y,xs[i]?=b4 x/\ys[i]?=b4 y/\d=.tup [x,y]
 |[],_,i,d,h=>by simp[hZ]at h
 |_::_,[],i,d,h=>by simp[hZ]at h
 |x::xs,y::ys,0,d,h=>by simp[hZ]at h;exact{x,y,rfl,rfl,h.symm}
 |x::xs,y::ys,i+1,d,h=>AD (xs:=xs) (ys:=ys) (i:=i)<|by simpa[hZ]using h
theorem BF:∀ {xs ys:List D} {i:Nat},(hZ xs ys).length<=i->xs.length<=i\/ys.length<=i
 |[],_,i,_=>.inl<|za1 _
 |_::_,[],i,_=>.inr<|za1 _
 |x::xs,y::ys,0,h=>by simp[hZ]at h
 |x::xs,y::ys,i+1,h=>(BF (xs:=xs) (ys:=ys) (i:=i)<|by simpa[hZ]using h).imp (λz=>by simpa using z) λz=>by simpa using z
def jQ{K:zaf}(h:cS d=b4 l)(r:Rep A H d v):∃t a xs,v=.ref a/\My.m8 K t H a xs/\RepL A H l xs/\∀A' H',Rep A' H' d v->∃ys,My.m8 K t H' a ys/\RepL A' H' l ys:=by
 cases d with
 |lst m=>
  cases h;obtain⟨a,xs,rfl,h1,B⟩:=RepB.lst_inv<|.of r;refine{cr,a,xs,rfl,.inl h1,B,λA' H' z=>?_};obtain⟨F,ys,e,h2,q⟩:=RepB.lst_inv<|.of z;cases e;exact{ys,.inl h2,q}
 |tup m=>
  cases h;obtain⟨a,xs,rfl,h1,B⟩:=RepB.tup_inv<|.of r;refine{cp,a,xs,rfl,.inl<|.inl h1,B,λA' H' z=>?_};obtain⟨F,ys,e,h2,q⟩:=RepB.tup_inv<|.of z;cases e;exact{ys,.inl<|.inl h2,q}
 |_=>exact nn h
set_option tactic.hygienic true in
def Q3{G:List Expr}{Y}(hg:Gl X "zip")(hm:X.mg "zip" = cg)(ha:B0 X O [a,b] f)(hs:zah [a,b] X.env=[(cr,eval a X.env),(cr,eval b X.env)]:=by rfl)(ab:zah [b] X.env=[(cr,eval b X.env)]:=by rfl) :
  PDI X O (.Tuple G Y tp) (.Call (.Name "zip" p) [a,b] [] pos) (XO f):=PI.mono (My.VA hg hm ha hs ab) λσ H R ⟨H0,A0,A,E,ρ,items,st,e,q⟩=>by
 obtain⟨ds,e1,e⟩:=bind_some e;refine{H0,A0,A,E,ρ,ds,st,e1,λvs H1 Y r1=>?_};split at e
 case h_2=>cases e
 rename_i da db;obtain⟨xs,e2,e⟩:=bind_some e;obtain⟨ys,e3,rfl⟩:=map_some e;obtain⟨v,w,rfl,r2,r3⟩:=r1.two;obtain⟨t1,U,us,rfl,q1,_,k1⟩:=jQ (K:=X.K) e2 r2;obtain⟨t2,W,ws,rfl,q2,_,k2⟩:=jQ (K:=X.K) e3 r3;refine{t1,t2,U,W,us,ws,rfl,q1,q2,q _ H1 [.rep da<|.ref U,.rep db<|.ref W] Y (λp hp=>?_) ?_}
 .rcases List.mem_cons.mp hp with z|z
  .rw[z];exact r2
  .rw[List.mem_singleton.mp z];exact r3
 .intro A' H' lv hE i
  have a1:Rep A' H' da<|.ref U:=hE (.rep da<|.ref U)<|zaw ..;have a2:Rep A' H' db<|.ref W:=hE (.rep db<|.ref W)<|zax _<|zaw ..;obtain⟨F,g1,N⟩:=k1 A' H' a1;obtain⟨B,g2,J⟩:=k2 A' H' a2;refine{λhi=>{F,B,g1,g2,(BF hi).imp (λz=>by rw[N.length];exact z) λz=>by rw[J.length];exact z},λd hd=>?_};obtain⟨x,y,ex,ey,rfl⟩:=AD hd;obtain⟨u,eu,ru⟩:=N.get' ex;obtain⟨w,ew,ac⟩:=J.get' ey;refine{{F,B,g1,g2,(List.getElem?_eq_some_iff.mp eu).1,(List.getElem?_eq_some_iff.mp ew).1},λx' H2 ⟨p,u',w',e4,n,e5,e6⟩=>?_};subst e4 e5;obtain⟨z1,z2⟩:=e6 F B g1 g2;rw[eu]at z1;cases z1;rw[ew]at z2;cases z2;exact{Ext.new n,.tup aI<|.cons (ru.ext<|Ext.new n)<|.cons (ac.ext<|Ext.new n) .nil}
@[simp] theorem q_zip:XO f ρ=(f ρ).bind λds=>match ds with
 |[a,b]=>(cS a).bind λxs=>(cS b).map λys=>hZ xs ys
 |_=>cg:=rfl
@[simp] theorem q_seqL:cS (.lst l)=b4 l:=rfl
@[simp] theorem q_seqT:cS (.tup l)=b4 l:=rfl
def nX(M v:Int):Nat->Int
 |0=>1
 |k+1=>(nX M v k*v)%M
def M5(h0:0<M)(h1:M<10^60):∀k,0<=nX M v k/\nX M v k<10^60
 |0=>by unfold nX;exact{by decide,by decide +kernel}
 |k+1=>by
  unfold nX;have a:=zay (nX M v k*v) (show M≠0 by lia);have b:=zaz (nX M v k*v) h0
  lia
def prodF(M:Int)(vs:List Int)(t:My.Tm):Int:=(t.1.zip vs).foldl (λp ev=>p*nX M ev.2 ev.1.toNat) t.2
def sumF(M:Int)(vs:List Int)(ts:List My.Tm):Int:=(ts.map<|prodF M vs).sum
def HZ(M:Int)(vs:List Int)(ts:List My.Tm)(t:My.Tm):sumF M vs (ts++[t])=sumF M vs ts+prodF M vs t:=by
 simp[sumF]
def WO(h1:-A<a)(h2:a<A)(F:-B<b)(q:b<B):-(A*B)<a*b/\a*b<A*B:=by
 have e:(a*b).natAbs<(A*B).natAbs:=by
  rw[Int.natAbs_mul,Int.natAbs_mul];exact Nat.mul_lt_mul_of_lt_of_le (by lia) (by lia)<|by lia
 have z:0<=A*B:=Int.mul_nonneg (by lia)<|by lia
 lia
end P
namespace P
def iB{q:Type}:∀ {l:List q},l.length=2->∃a b,l=[a,b]
 |[a,b],_=>{a,b,rfl}
 |[],h=>by simp at h
 |[_],h=>by simp at h
 |_::_::_::_,h=>by simp at h
end P
namespace P
@[simp] theorem q_chain:hW g g' fa fb fc ρ=(fa ρ).bind λx=>(fb ρ).bind λy=>(g x y).bind λz=>(BZ z).bind λb=>if b=cp then(fc ρ).bind λw=>g' y w else b4<|.bl cr:=rfl
set_option tactic.hygienic true in
def xP(h:t∈My.put cs k c):t=(k,c)\/t∈cs:=by
 unfold My.put at h;split at h
 .obtain⟨u,q,e⟩:=List.mem_map.mp h
  split at e
  .rename_i z;left;rw[<- e,z]
  .right;rw[<- e];exact q
 .rcases List.mem_append.mp h with z|z
  .exact .inr z
  .exact .inl<|List.mem_singleton.mp z
section
variable {X:Cx}{O:List Nat}
open Classical in
def lD(d x:D):Option D:=match d with
 |.lst l=>if cY x=cp/\l.all cY=cp/\a7 l.length=cp then(l.findIdx? λy=>decide (y=x)).map λ(j:Nat)=>.int (j:Int)else cg
 |_=>cg
set_option tactic.hygienic true in
open Classical in
def JT(hu:X.A.units+64<cLine):MtM X "list.index" λv vs H Q=>∃A d x y d',vs=[y]/\Live A H/\RepB A H d v/\RepB A H x y/\lD d x=b4 d'/\∀v H',Ext A H H'->Rep A H' d' v->Q v H':=by
 intro pins s σ H v vs u us Q I rv ru h;obtain⟨A,d,x,y,d',rfl,lv,rd,rx,e,q⟩:=h;obtain⟨w,rfl,Y⟩:=ru.one;cases d with
 |lst l=>
  simp only[lD]at e;split at e
  case isFalse=>cases e
  rename_i hc;obtain⟨j,ej,rfl⟩:=map_some e;obtain⟨a,xs,rfl,h1,r1⟩:=rd.lst_inv;cases rv;obtain⟨_,B,n,r,G,eo⟩:=Inv.lstR I h1;obtain⟨f,f1,f2⟩:=P4 (Ar:=X.A.in1) I (by show X.A.units+1+60<cLine;lia) hc.1 rx Y hc.2.1 r1 r;obtain⟨hj,ac,ab⟩:=List.findIdx?_eq_some_iff_getElem.mp ej;have J:j<B.length:=by rw[<- G,r1.length];exact hj
  have hsz:=fP hc.2.2;have W:(j:Int)<2^63-1:=by
   have:(zal:Nat)<2^62:=by decide
   lia
  refine zci F.slot_list_index {_,eo,rfl} F.entry_list_index (F.args_list_index_2 _ _) (PySem.SeqAt.list_indexAt a B.toArray n cg #[] w f j (by simpa using J) W ?_ ?_) {eo,λz hz=>f1 z (by simpa using hz),?_}
  .rw[f2 j _ _ (zaH hj)<|by simp[J]]
   exact ac
  .intro m hm U
   have N:m<l.length:=by lia
   have aa:m<B.length:=by simpa using hm
   rw[f2 m _ _ (zaH N)<|by simp[aa]];have:=ab m U;simpa using this
  .exact{.int j,H,I.tok _,{_,rfl},q _ H (Ext.refl _ _)<|.int _}
 |_=>exact nn e
def AA(J:X.A.units+64<cLine)(ho:PB X O o f)(he:PB X O e g)
  (U:∀ {r:V->List V->Hp->VK->Prop} {to:TE} {t:TA},MtR X "list.index" r->PE X o to->PA X [e] t->PE X (.Call (.Attribute o "index" apos) [e] [] cpos) (tBM X.K "list" r to t)) (hs:zah [e] X.env=(cr,eval e X.env)::zah [] X.env:=by rfl) :
  PD X O (.Call (.Attribute o "index" apos) [e] [] cpos) (bE lD f g):=PE.mono (U (JT J) ho<|fQ he k9 hs) λσ H Q ⟨H0,A0,A,E,ρ,d,st,e,q⟩=>by
 obtain⟨x,ex,e⟩:=bind_some e;obtain⟨y,ey,e⟩:=bind_some e;refine{H0,A0,A,E,ρ,x,st,ex,λv H1 B F=>{?_,H0,A0,A,E,ρ,y,st.mono B,ey,λw H2 z Y=>{A,x,y,w,d,rfl,(st.mono<|B.trans z).live,F.ext z,Y,e,λv W G N=>q v W ((B.trans z).trans G) N}}};cases x with
 |lst l=>obtain⟨a,xs,rfl,h1,_⟩:=F.lst_inv;exact .inl {rfl,xs,.inl h1}
 |_=>exact nn e
end
end P
namespace My
open PySem.SeqAt
section
variable {X:Cx}
def Inv.gone(I:Inv X pins σ H s)(f:jA X pins H C)(hs:zaT C s.heap h'):Inv X pins σ H {s with heap:=h'}:=by
 obtain⟨G,N,f2,J,Y,W⟩:=f;refine I.call' (s':={s with heap:=h'}) (ch:=[C]) rfl {λb o e n F B=>?_,λb o e n F B=>?_,λ_ _ _ n _=>n,λb o e B=>?_,λ_ _ q=>q,λ_ _ _ q=>q,λ_ ps q=>{#[],by simpa using q}} ?_ I.bare λb F=>?_
 .exact(hs.2 b λz=>B<|z ▸ List.mem_singleton.mpr rfl).trans e
 .exact{o.slots,(hs.2 b λz=>B<|z ▸ List.mem_singleton.mpr rfl).trans e}
 .exact{o,(hs.2 b λz=>B<|z ▸ List.mem_singleton.mpr rfl).trans e}
 .intro b ob e
  refine(I.hok b ob e).stay (λc w' U q=>(hs.2 c ?_).trans q) (λ_ q=>q) λ_ _ q=>q
  rintro rfl;rcases U with z|z
  .subst z;rw[G]at e;cases e
  .rw[G]at z;cases z
 .rw[List.mem_singleton.mp F]
  exact{J,N,Y,W}
def F8(hN:X.N.Nodup)(ac:X.N[i]?=b4 x)(hx:Loc X.env.scope x)
  (hc:X.calm=cp) (F:Clo X N scope cl) (hi:PI X tg iter wi) (hg:∀C s H fp,PG (aX X N scope cl C s H fp) tg g) (ht:∀C s H fp,GP (aX X N scope cl C s H fp) ifs tt) (he:∀C s H fp,PE (aX X N scope cl C s H fp) elt te)
  (hs:∀x,zbT iter X.env x=pure x:=by intro _;rfl) (W:za7 (.ListComp elt [{tg,iter,ifs,0}] scope pos) (b4<|.Name x pos') spos.line X.env=pure cp:=by rfl)
  (hf:X.fn x=cp\/X.env.scope.names.lookup x=b4 .local:=by first|exact .inl rfl|exact .inr rfl) :
  PS X (.Assign [.Name x pos'] (.ListComp elt [{tg,iter,ifs,0}] scope pos) spos) (N3 (GH wi g tt te<|Start X N scope)<|uG i):=by
 intro pins s σ H D I h;obtain⟨ak,sS,hw⟩:=h;rw[exec_Assign_Name_used _ _ _ _ W];refine zaa<|zdj<|zaa ?_;show wpAny _ X.A (do let _ <- comprehension (.ListComp elt [{tg,iter,ifs,0}] scope pos) scope X.env _ (newList []) cr (eval iter X.env)<|b4<|zbs (.Name x pos') X.env) _ _ s;refine zaa (zbb (wpAny_comprehension_free (use:=b4<|zbs (.Name x pos') X.env) (Q:=λ_ s'=>SP X pins D .next s') rfl hs F.clos F.kind F.names
  (bN (hi pins s σ H _ I hw) λv s1 h1=>bN h1 λax s2 h2=>?_)) (λ_ s' hq=>zac<|zac hq) λ_ _ e=>e)
 obtain⟨it,fp,tn,J,H2,e,I2,T,aa,f2,q2⟩:=h2;subst e;refine v9 (wi:=wi) (Q:=λv H1=>uG i v σ H1 D.nx) (RR:=λad C=>compPost (model X.prog X.w) X.A X.xe (b4<|zbs (.Name x pos') X.env) (λ_ s'=>SP X pins D .next s') ad C) hc F hg ht he I2 T aa f2 sS q2 ?_
 intro s3 s5 H3 G aq D1 I3 f3 Y q;obtain⟨m,hn,_⟩:=id Y.loc;have I6:Inv X pins σ G s5:=comp_back I3 f3 Y<|ze6 _ _;have U:jA X pins G s3.heap.objs.size:=I3.fpOk (zam _) Y.free;show wpAny _ X.A (zbs (.Name x pos') X.env<|.ref D1) _ _ s5;refine wpAny_assign_Name<|u9 (v:=.ref D1) I6 hN ac hx rfl (λs7 I7 ⟨a,ab,B⟩=>?_) hf;have ne:s3.heap.objs.size≠a:=λz=>by
  rcases B with B|B
  .exact U.2.1<|z.trans B
  .exact U.2.2.2.2.1 x a B z.symm
 exact{m,Heap.Ns.sameBut hn ab ne,λh' ae=>{_,G,Inv.gone I7 U ae,q}}
end
end My
namespace P
open PySem.SeqAt
section
variable {X:Cx}{O O':List Nat}{L:Lp}
def B5(N:PS X (.Assign [.Name x pos'] e pos)<|N3 (tD Rep O f)<|uG i)(h:Sub O' (O.filter (· != i))=cp):jB X L O (.Assign [.Name x pos'] e pos) (dA i f) O':=
 PS.mono N <| by
  rintro T σ H ⟨H0,A0,A,E,ρ,W,st,e,p⟩;obtain⟨d,U,rfl⟩:=map_some e;refine{H0,A0,A,E,ρ,d,st,U,λv H' x r=>?_};have F:=(st.mono x).more r;obtain⟨A',B⟩:=F.shut (O':=O') λj J=>(Sub.er h J).1
  exact p A' _ H'<|(B.put (B.ext _<|zaw ..) λz=>(Sub.er h z).2 rfl).less λq G=>zax _ G
def yZ(F:PS X (.Assign [.Name x pos'] e pos)<|N3 (tF O f)<|uG i)(h:Sub O' (i::O)=cp)(N:O.contains i=cr):jB X L O (.Assign [.Name x pos'] e pos) (dA i f) O':=
 PS.mono F <| by
  rintro T σ H ⟨H0,A0,A,E,ρ,J,st,e,p⟩;obtain⟨d,G,rfl⟩:=map_some e;refine{H0,A0,A,E,ρ,d,st,G,λa H' x n B o=>?_};have U:i∉O:=λz=>by
   have:O.contains i=cp:=by simpa using z
   rw[N]at this;cases this
  obtain⟨W,q⟩:=(st.own_put x n B o U).shut<|Sub.mem h;exact p W _ H' q
def YV:tD Rep O f σ H Q->tF O f σ H Q:=λ⟨H0,A0,A,E,ρ,d,st,e,q⟩=>
 {H0,A0,A,E,ρ,d,st,e,λa H' x n B o=>q _ H' x<|(o.av (A':=A) λb z=>.inl<|.inl z).rep B}
def KR(W:X.N.Nodup)(q:X.N[i]?=b4 x)(F:Loc X.env.scope x)
  (G:X.calm=cp) (cc:My.Clo X N scope cl) (B:dB X scope N ms) (hn:(ms.all λo=>match o with|some i=>!O.contains i|none=>cp)=cp) (hi:PDI X O tg iter it) (Y:∀C s H fp,B1 (My.aX X N scope cl C s H fp) [] tg g)
  (J:∀C s H fp,My.GP (My.aX X N scope cl C s H fp) ifs<|tDT [] c) (U:∀C s H fp,PD (My.aX X N scope cl C s H fp) [] elt f) (h:Sub O' (O.filter (· != i))=cp:=by rfl) (hs:∀x,zbT iter X.env x=pure x:=by intro _;rfl)
  (z:za7 (.ListComp elt [{tg,iter,ifs,0}] scope pos) (b4<|.Name x pos') spos.line X.env=pure cp:=by rfl) (hf:X.fn x=cp\/X.env.scope.names.lookup x=b4 .local:=by first|exact .inl rfl|exact .inr rfl) :
  jB X L O (.Assign [.Name x pos'] (.ListComp elt [{tg,iter,ifs,0}] scope pos) spos) (dA i<|gP ms it g c f) O':=
 B5 (PS.mono (My.F8 W q F G cc hi Y J U hs z hf) λT σ H w=>tN B hn _ _ _<|YV w) h
def IA(Y:X.N.Nodup)(q:X.N[i]?=b4 x)(G:Loc X.env.scope x)
  (J:X.calm=cp) (cc:My.Clo X N scope cl) (B:dB X scope N ms) (hn:(ms.all λo=>match o with|some i=>!O.contains i|none=>cp)=cp) (hi:PDI X O tg iter it) (hg:∀C s H fp,B1 (My.aX X N scope cl C s H fp) [] tg g)
  (U:∀C s H fp,My.GP (My.aX X N scope cl C s H fp) ifs<|tDT [] c) (W:∀C s H fp,PD (My.aX X N scope cl C s H fp) [] elt f) (h:Sub O' (i::O)=cp:=by rfl) (F:O.contains i=cr:=by rfl) (hs:∀x,zbT iter X.env x=pure x:=by intro _;rfl)
  (z:za7 (.ListComp elt [{tg,iter,ifs,0}] scope pos) (b4<|.Name x pos') spos.line X.env=pure cp:=by rfl) (hf:X.fn x=cp\/X.env.scope.names.lookup x=b4 .local:=by first|exact .inl rfl|exact .inr rfl) :
  jB X L O (.Assign [.Name x pos'] (.ListComp elt [{tg,iter,ifs,0}] scope pos) spos) (dA i<|gP ms it g c f) O':=
 yZ (PS.mono (My.F8 Y q G J cc hi hg U W hs z hf) λT σ H w=>tN B hn _ _ _ w) h F
end
end P
namespace My
open PySem.SeqAt
def Z8(K:zaf)(n:Nat)(t:S8):TG:=λv σ H Q=>∃a xs,v=.ref a/\(SqT K H a xs\/SqL K H a xs)/\xs.length=n/\t xs σ H Q
def nP(F:X.calm=cp)(h:PGs X es t)
  (N:(zbh es X.env).length=n:=by rfl) (z:(zbh es X.env).findIdx? (·.1)=cg:=by rfl):PG X (.Tuple es k pos)<|Z8 X.K n t:=by
 intro pins s σ H v u Q I r hw;obtain⟨a,xs,e1,q,G,hw⟩:=hw;subst e1;rcases q with q|q
 .exact M0 F h N z pins s σ H _ u Q I r {a,xs,rfl,q,G,hw}
 .cases r
  obtain⟨B,J,Y,hz⟩:=I.list q;have hsz:(zbh es X.env).length=B.toArray.size:=by simp[N,<- G,J.length]
  rw[assign_Tuple];refine zaa<|zdj ?_;unfold unpack;rw[hsz,z];refine zaa<|zbn<|PySem.W.kun_itemsOf (I.ok.hd F) (My.PlainL.isList Y) λh' U=>?_;have I1:Inv X pins σ H {s with heap:=h'}:=I.kept (t':=s.toks) λb o e=>U b o (zaB<|zai e) e
  exact h pins _ σ H xs _ Q I1 (by simpa using J) hw
end My
namespace P
open PySem.SeqAt
def uJ(n:Nat)(k:X6):Gv:=λd ρ=>match d with
 |.tup l=>if l.length=n then k l ρ else cg
 |.lst l=>if l.length=n then k l ρ else cg
 |_=>cg
def jP(F:PG X tg<|My.Z8 X.K n<|tDGs O k):B1 X O tg<|uJ n k:=PG.mono F <| by
 rintro v σ H Q ⟨H0,A0,A,E,ρ,d,ρ',st,r,e,q⟩;cases d with
 |tup l=>
  obtain⟨a,xs,rfl,h,B⟩:=RepB.tup_inv<|.of r;by_cases z:l.length=n
  .simp only[uJ,cw z]at e
   exact{a,xs,rfl,.inl<|.inl<|.inl h,by rw[B.length];exact z,H0,A0,A,E,ρ,l,ρ',st,B,e,q}
  .simp only[uJ,cx z]at e;cases e
 |lst l=>
  obtain⟨a,xs,rfl,h,B⟩:=RepB.lst_inv<|.of r;by_cases z:l.length=n
  .simp only[uJ,cw z]at e
   exact{a,xs,rfl,.inr<|.inl h,by rw[B.length];exact z,H0,A0,A,E,ρ,l,ρ',st,B,e,q}
  .simp only[uJ,cx z]at e;cases e
 |_=>exact nn e
@[simp] theorem q_gseqT:uJ n h (.tup l) ρ=if l.length=n then h l ρ else cg:=rfl
@[simp] theorem q_gseqL:uJ n h (.lst l) ρ=if l.length=n then h l ρ else cg:=rfl
end P
namespace P
def cf(q:List My.Tm)(k:List Int):Int:=(My.look q k).getD 0
def FA(q:My.Tm)(z:List My.Tm)(k:List Int):cf (q::z) k=if q.1=k then q.2 else cf z k:=by
 unfold cf My.look;rw[za0];by_cases e:q.1=k <;> simp[e]
def WQ(h:k∉qs.map (·.1)):cf qs k=0:=by
 induction qs with
 |nil=>rfl
 |cons q qs ih=>
  rw[FA,cx λz=>h<|by simp[z],ih λz=>h<|by simp at z ⊢;exact .inr z]
def XZ:List<|List Int:=[[0],[1],[2]]
def XR:List<|List Int:=[[0,0],[0,1],[0,2],[1,0],[1,1],[1,2],[2,0],[2,1],[2,2]]
def cH(n:Int):List<|List Int:=if n=1 then XZ else XR
def eW{b rest:Sv}{R:D->Prop}(q:f ρ=b4 items)(I:Nat->dC->Prop)(h0:I 0 ρ)(hs:∀i x ρ,items[i]?=b4 x->I i ρ->∃ρ',turn g b x ρ=b4 (.nx ρ')/\I (i+1) ρ')(k:∀ρ',I items.length ρ'->∃d,rest ρ'=b4 (.rt d)/\R d):∃d,bW (iD f g b) rest ρ=b4 (.rt d)/\R d:=by
 obtain⟨ρ',e,h⟩:=eU (g:=g) (b:=b) I h0 hs;rw[aG<|by rw[q_for,q];exact e];exact k ρ' h
def dX{R:D->Prop}(h:∃d,f (aK n ds)=b4 (.rt d)/\R d):∃d,aY n f ds=b4 d/\R d:=by
 obtain⟨d,e,r⟩:=h;exact{d,aM e,r}
def W5(q:n=1\/n=2)(h:k∈cH n):(k.length:Int)=n/\∀e∈k,0<=e/\e<=2:=by
 rcases q with rfl|rfl
 .have:∀k∈XZ,(k.length:Int)=1/\∀e∈k,0<=e/\e<=2:=by decide
  exact this k h
 .have:∀k∈XR,(k.length:Int)=2/\∀e∈k,0<=e/\e<=2:=by decide
  exact this k h
end P
namespace My
open PySem.SeqAt
def nB:fillsNumberSlot (.type "tuple") "mul" = pure cr:=
 PySem.fillsNumberSlot_seq (id := "tuple.__mul__") (r:=b4<|.builtin "tuple.__rmul__") PySem.F.slot_tuple_mul.lookup (by decide +kernel) PySem.F.slot_tuple_rmul.lookup (by decide +kernel)
def wV:seqRepeat? (.type "tuple")=pure (b4<|.builtin "tuple.__mul__"):=by
 unfold seqRepeat?;rw[PySem.seqSlot_of (T := "tuple") (name := "__mul__") (id := "tuple.__mul__") PySem.F.slot_tuple_mul.lookup<|by decide +kernel,PySem.seqSlot_of (T := "tuple") (name := "__rmul__") (id := "tuple.__rmul__") PySem.F.slot_tuple_rmul.lookup<|by decide +kernel];rfl
def qQ(a:Int)(t:Tok)(l:Addr)(items:Array Value)(n:Nat)(dd sl) :
  Meets (zbc.«int.__rmul__» {[.int a t,.ref l],[]}) (λ_ R s=>s.heap.get? l=b4 {cls:=.type "tuple",dict:=dd,data:=.seq items n,slots:=sl}/\R (.ok<|.ret zeQ) s):=
 .of_wp λprog w A R s h=>by obtain⟨z,g,d,tk,os⟩:=s;obtain⟨q,h⟩:=h;wp_walk;exact{_,rfl,h}
def B7(t:Tok)(l:Addr)(items:Array Value)(n:Nat)(dd sl) :
  Meets (zbc.«tuple.__mul__» {[.ref l,.int 1 t],[]}) (λ_ R s=>s.heap.get? l=b4 {cls:=.type "tuple",dict:=dd,data:=.seq items n,slots:=sl}/\R (.ok<|.ret<|.ref l) s):=
 .of_wp λprog w A R s h=>by obtain⟨z,g,d,tk,os⟩:=s;obtain⟨q,h⟩:=h;wp_walk;exact{_,rfl,h}
def DA(t:Tok)(l:Addr)(x:Value)(n:Nat)(dd sl) :
  Meets (zbc.«tuple.__mul__» {[.ref l,.int 2 t],[]}) (λ_ R s=>s.heap.get? l=b4 {cls:=.type "tuple",dict:=dd,data:=.seq #[x] n,slots:=sl}/\R (.ok<|.ret<|.ref s.heap.objs.size) {s with heap:=s.heap.push {cls:=.type "tuple",data:=.seq #[x,x]} }):=
 .of_wp λprog w A R s h=>by obtain⟨z,g,d,tk,os⟩:=s;obtain⟨q,h⟩:=h;wp_walk;exact{_,rfl,h}
def OE(N:IsTup s.heap l #[y])(J:x=1\/x=2)
  (h1:x=1->Q (.ref l) s) (h2:x=2->Q (.ref s.heap.objs.size) {s with heap:=s.heap.push {cls:=.type "tuple",data:=.seq #[y,y]} }):wpAny (model prog w) A (zaW .Mult (.ref l)<|.int x u) Q E s:=by
 obtain⟨⟨cls,dd,data,z⟩,q,B,n,G⟩:=id N;simp only at B G;subst B G;refine wpAny_binaryOp_repeat_ref (T := "tuple") (U := "int") (by decide) {_,q,rfl} (λs'=>zcI s' x u) nB PySem.F.fills_int_mul PySem.F.slot_int_rmul wV PySem.F.slot_int_index.lookup
  (zci PySem.F.slot_int_rmul (zcI s x u) PySem.F.entry_int_rmul (PySem.F.args_int_rmul_2 _ _) (qQ x u l #[y] n dd z) {q,rfl,{_,q,rfl},?_})
 rcases J with rfl|rfl
 .exact zci PySem.F.slot_tuple_mul {_,q,rfl} PySem.F.entry_tuple_mul (PySem.F.args_tuple_mul_2 _ _) (B7 u l #[y] n dd z) {q,h1 rfl}
 .exact zci PySem.F.slot_tuple_mul {_,q,rfl} PySem.F.entry_tuple_mul (PySem.F.args_tuple_mul_2 _ _) (DA u l y n dd z) {q,h2 rfl}
end My
namespace P
open PySem.SeqAt
def GB:D->D->Option D
 |.tup [x],.int n=>if n=1 then b4 (.tup [x])else if n=2 then b4 (.tup [x,x])else cg
 |_,_=>cg
section
variable {X:Cx}
set_option tactic.hygienic true in
def OZ:OpR X (zaW .Mult) λx y H Q=>∃a v n,x=.ref a/\y=.int n/\SqT X.K H a [v]/\(n=1\/n=2)/\(n=1->Q (.ref a) H)/\(n=2->∀p,H p=cg->Q (.ref p) (upd H p<|.tup [v,v])):=by
 intro pins s σ H x y v u Q I U Y h;obtain⟨a,w,n,rfl,rfl,G,W,B,F⟩:=h;cases U;obtain⟨t,rfl⟩:∃t,u=.int n t:=Y;obtain⟨z,N,J,_⟩:=I.tuple G;cases N with
 |cons r0 rr=>
  cases rr;rename_i y;refine My.OE J W (λe=>{.ref a,H,I,rfl,B e}) λe=>?_
  refine{.ref s.heap.objs.size,_,I.laid (t':=s.toks) (o:=.tup [w,w]) (λb ob q=>zag _ q) (zam _) ?_,rfl,F e _<|I.hok.fresh<|zam _};exact{by show 2<=zal;decide,_,.cons r0<|.cons r0 .nil,IsTupN.new _ _}
set_option tactic.hygienic true in
def QN:gC X (zaW .Mult) GB:=OpR.mono OZ <| by
 rintro x y H Q ⟨A,dx,W,d,Y,N,U,e,q⟩;unfold GB at e;split at e
 case h_2=>cases e
 rename_i d0 n;obtain⟨a,xs,rfl,h1,J⟩:=N.tup_inv;have:=U.int_inv;subst this;cases J with
 |cons r0 rr=>
  cases rr;by_cases B:n=1
  .rw[cw B]at e;cases e
   exact{a,_,n,rfl,rfl,.inl<|.inl h1,.inl B,λ_=>q _ H (Ext.refl _ _)<|.tup h1<|.cons r0 .nil,λz=>by lia}
  .rw[cx B]at e
   by_cases G:n=2
   .rw[cw G]at e;cases e
    exact{a,_,n,rfl,rfl,.inl<|.inl h1,.inr G,λz=>absurd z B,λ_ p F=>q _ _ (Ext.new F)<|.tup aI<|.cons (r0.ext<|Ext.new F)<|.cons (r0.ext<|Ext.new F) .nil}
   .rw[cx G]at e;cases e
end
@[simp] theorem q_mulT1:GB (.tup [x]) (.int 1)=b4 (.tup [x]):=rfl
@[simp] theorem q_mulT2:GB (.tup [x]) (.int 2)=b4 (.tup [x,x]):=rfl
end P
namespace My
open PySem.SeqAt
def UE(tk tv:TE):TE:=λσ H Q=>∀p,H p=cg->tk σ (upd H p<|.dT []) λx H1=>tv σ H1 λy H2=>∃k b,x=.ref b/\H2 p=b4 (.dT [])/\H2 b=b4 (.tup<|k.map kV)/\Q (.ref p) (upd H2 p<|.dT [(k,y)])
def LV(hu:X.A.units+1<cLine)(hk:PE X k tk)(hv:PE X v tv):PE X (.Dict [b4 k] [v] pos)<|UE tk tv:=by
 intro pins s σ H Q I q;have hn:=I.hok.fresh<|zam s.heap.objs.size;have I1:=I.laid (a:=s.heap.objs.size) (o:=.dT []) (h':=s.heap.push {cls:=.type "dict",data:=.dict #[]}) (t':=s.toks) (λ_ _ q=>zag _ q) (zam _)<|tO s.heap I.big;refine wpAny_Dict_any rfl rfl (by simp) (by simp) ?_;refine pairTrees_cons_walk<|bN (hk pins _ σ _ _ I1<|q _ hn) λu s1 ⟨x,H1,I2,rx,q1⟩=>bN (hv pins s1 σ H1 _ I2 q1) λw2 s2 ⟨y,H2,G,ry,U,b,ex,e,J,q2⟩=>pairTrees_nil_walk ?_;subst ex;cases(show u=zao b from rx);obtain⟨z,hd,xs,B,dd⟩:=NV G.hok e;have hz:xs.length<=zal:=by rw[<- zbQ B];exact z
 show wpAny _ X.A (storeAll s.heap.objs.size [(zao b,w2)]) _ _ s2;unfold storeAll;refine zaa<|zaa<|wpAny_dictSet_heap (hsz:=hz) (show X.A.units<cLine by lia) (hV G.hok J) dd λh' F hs=>?_;refine zac<|zac ?_;obtain⟨q,es,ep,N,h2,h3,Y,_,h5⟩:=F;refine{.ref s.heap.objs.size,_,jL G (ob:=.dT<|putK [] U y) (by rw[e];exact zbi) hs {q,N} {zbf (cR _ _ _)<|by decide,hd,_,(B.put U J ry).keeps λc ys W=>?_,q,es,ep,N,h2,h3,Y,h5},rfl,q2};rw[aF<|GE W e λz=>nomatch z];exact W
end My
namespace P
open PySem.SeqAt
def ST.aside(s:ST H0 A0 A E O σ H ρ)(F:H p=cg)(o:HO):ST H0 A0 (λb=>A b\/b=p) E O σ (upd H p o) ρ:=by
 have G:∀a,(A a\/a=p)->A a\/H a=cg:=λa B=>B.imp id λz=>by rw[z];exact F
 refine{s.ex.trans<|Ext.new F,λa B=>.inl<|s.sub a B,s.l0,λa B=>?_,s.len,λi d h n=>?_,λi d h n=>?_,s.inj,λq N=>Fact.ext (Ext.new F)<|Fact.av G<|s.ext q N}
 .rcases B with B|B
  .rw[aF λz=>by subst z;exact s.live _ B F];exact s.live a B
  .subst B;rw[aI];exact λz=>nomatch z
 .obtain⟨v,h1,h2⟩:=s.val i d h n
  exact{v,h1,(h2.av G).ext (Ext.new F)}
 .obtain⟨a,W,J,U,Y⟩:=s.own i d h n
  exact{a,W,.inl J,U,Own.ext (Ext.new F) (.inl J)<|Y.av G}
def NF(q z:Ev):Ev:=λρ=>(q ρ).bind λk=>(z ρ).bind λv=>(B2 k).map λB=>.dT [(B,v)]
@[simp] theorem q_disp1:NF fk fv ρ=(fk ρ).bind λk=>(fv ρ).bind λv=>(B2 k).map λq=>.dT [(q,v)]:=rfl
theorem L5(W:X.A.units+1<cLine)(hk:PB X O k fk)(hv:PD X O v fv):PF X O (.Dict [b4 k] [v] pos)<|NF fk fv:=
 PE.mono (My.LV W hk hv) <| by
  rintro σ H Q ⟨H0,A0,A,E,ρ,d,st,e,q⟩;obtain⟨dk,ek,e⟩:=bind_some e;obtain⟨dv,ev,e⟩:=bind_some e;obtain⟨kk,et,rfl⟩:=map_some e;intro p B;have U:=st.aside B<|.dT [];have na:¬ A p:=λz=>st.live p z B
  refine{H0,A0,_,E,ρ,dk,U,ek,λx H1 N r1=>{H0,A0,_,E,ρ,dv,U.mono N,ev,λy H2 J r2=>?_}};obtain⟨b,rfl,Y⟩:=qD et<|r1.ext J;have F:H2 p=b4 (.dT []):=(N.trans J).ow p _ (.inr rfl) aI;have G:Ext A H H2:=(Ext.new B).trans<|(N.trans J).mono λa ha=>.inl ha;refine{kk,b,rfl,F,Y,q p _ ?_ B na<|.dT aI rfl<|.cons (r2.put (.inr rfl) F trivial) .nil};exact G.upN B
end P
namespace My
section
variable {X:Cx}
def zV{ns:List Int}(r:Vals (ns.map V.int) its){i:Nat}(h:its[i]?=b4 v):∃t,v=.int ((ns[i]?).getD 0) t:=by
 have q:=r.length;rw[zaj]at q;have hi:i<ns.length:=by rw[q];exact(List.getElem?_eq_some_iff.mp h).1
 have e:(ns.map V.int)[i]?=b4 (.int ns[i]):=by simp[hi]
 obtain⟨u,z,B⟩:=r.get e;rw[h]at z;cases z;obtain⟨t,rfl⟩:=B;exact{t,by simp[hi]}
def O5:OpR X (zaW .Add) λx y H Q=>∃a b ys,x=.ref a/\y=.ref b/\SqT X.K H a []/\SqT X.K H b ys/\Q (.ref b) H:=by
 intro pins s σ H x y v u Q I rx ry h;obtain⟨a,b,ys,rfl,rfl,ha,hb,q⟩:=h;cases rx;cases ry;obtain⟨aa,r1,p1,_⟩:=I.tuple ha;obtain⟨z,r2,p2,_⟩:=I.tuple hb;have e1:aa=[]:=r1.nil_iff.mpr rfl;subst e1;obtain⟨⟨cls,dd,data,sl⟩,ho,hc,n,hd⟩:=p1;obtain⟨⟨G,ac,B,Y⟩,N,ad,n2,U⟩:=p2;have W:cls=.type "tuple" := hc;have ab:data=.seq #[] n:=hd;have F:G=.type "tuple" := ad;have J:B=.seq z.toArray n2:=U;subst W ab F J;exact concat_meets {_,ho,rfl} {_,N,rfl} zeR seq_tuple_add zeS zeT (zeU _ _)
  (tuple_addW0 a b #[] z.toArray n n2 dd ac sl Y rfl) {ho,N,.ref b,H,I,rfl,q}
def ZN:R2:=λx y H Q=>∃l k xs,x=.ref l/\y=.int k/\Rd H l (.lst xs)/\-(2^63)<=k/\k<2^63/\xs.length*k.toNat<=zal /\
 ∀p,H p=cg->Q (.ref p) (upd H p<|.lst (zaQ k.toNat xs).flatten)
def QB:OpR X (zaW .Mult) ZN:=by
 intro pins s σ H x y v u Q I rx ry h;obtain⟨l,k,xs,rfl,rfl,hH,h1,h2,hz,q⟩:=h;cases rx;obtain⟨t,rfl⟩:=ry;obtain⟨z,B,n,r,hl,e⟩:=P.Inv.lstR I hH;have W:B.toArray.size*k.toNat<=zal:=by rw[zaC,<- hl];exact hz
 have Y:¬ B.toArray.size*k.toNat>(2^63-1)/8:=by
  have:(zal:Nat)<=(2^63-1)/8:=by decide
  lia
 have J:¬ (!Builtin.List.listFitsIndex k)=cp:=by
  rw[fitsIndex_both h1 h2];exact zat
 have G:¬ zeY (B.toArray.size*k.toNat)=cp:=by
  rw[LS W];exact zat
 have N:List.foldl (λx1 x2=>x1++x2) #[] (zaQ (if B.toArray.isEmpty=cp then 0 else k.toNat) B.toArray)=(zaQ k.toNat B).flatten.toArray:=by
  have f0:∀m:Nat,List.foldl (λx1 x2=>x1++x2) #[] (zaQ m B.toArray)=(zaQ m B).flatten.toArray:=λm=>by
   have:=foldl_rep B m [];rw[ze9]at this;exact this
  rw[f0];cases B with
  |nil=>simp
  |cons a r'=>rw[cx<|by simp]
 refine wpAny_binaryOp_repeat_ref (T := "list") (U := "int") (by decide) {_,e,rfl} (λs'=>zcI s' k t) noFill_list_mul F.fills_int_mul F.slot_int_rmul repeat_list F.slot_int_index.lookup
  (zci F.slot_int_rmul (zcI s k t) F.entry_int_rmul (F.args_int_rmul_2 _ _) (int___rmul___int_list k t l B.toArray n)
   {e,rfl,{_,e,rfl},zci F.slot_list_mul {_,e,rfl} F.entry_list_mul (F.args_list_mul_2 _ _) (AutoListH.list___mul___list_int_3 l B.toArray n k t J Y G) {e,?_}})
 rw[N];exact{.ref _,_,I.lnew (t':=s.toks) (r.rep k.toNat) (by rw[len_rep,Nat.mul_comm];exact hz),rfl,q _ I.fresh}
end
end My
namespace P
def aA{q z:Type}(a:q)(f:q->Option z):(b4 a).bind f=f a:=by rw[zad]
def aB{q z:Type}(a:q)(f:q->z):(b4 a).map f=b4 (f a):=by rw[zae]
section
variable {X:Cx}{O O':List Nat}{L:Lp}
def I0:List D->Option D
 |[.int i]=>b4<|.int i
 |[.bl b]=>b4<|.int<|if b then 1 else 0
 |_=>cg
def VZ:i9 X (.type "int") I0:=CallR.mono HJ <| by
 rintro xs H Q ⟨A,ds,d,B,r,e,q⟩;unfold I0 at e;split at e
 .cases e
  obtain⟨v,rfl,z⟩:=r.one;cases z.int_inv;exact .inl {_,rfl,q _ H (Ext.refl _ _)<|.int _}
 .cases e
  obtain⟨v,rfl,z⟩:=r.one;cases z.bl_inv;exact .inr {_,rfl,q _ H (Ext.refl _ _)<|.int _}
 .cases e
@[simp] theorem q_intB:I0 [.bl b]=b4 (.int<|if b then 1 else 0):=rfl
@[simp] theorem q_intI:I0 [.int i]=b4 (.int i):=rfl
theorem iK:∀ns:List Int,f7 (ns.map .int)=b4 ns
 |[]=>rfl
 |n::ns=>by rw[zak,f7,iK ns];rfl
def XY:D->D->Option D
 |.lst l,.int k=>if cI k=cp/\a7 (l.length*k.toNat)=cp then b4 (.lst (zaQ k.toNat l).flatten)else cg
 |_,_=>cg
theorem RepL.rep(r:RepL A H ds vs):∀k:Nat,RepL A H (zaQ k ds).flatten (zaQ k vs).flatten
 |0=>.nil
 |k+1=>by rw[zcv,zcv,zcK,zcK];exact r.append<|RepL.rep r k
set_option tactic.hygienic true in
def NB(U:PB X O a fa)(B:PB X O b fb):PF X O (.BinOp a .Mult b pos)<|bE XY fa fb:=
 PE.mono (SX My.QB U B) <| by
  rintro σ H Q ⟨H0,A0,A,E,ρ,d,st,e,q⟩;obtain⟨x,ex,e⟩:=bind_some e;obtain⟨y,ey,e⟩:=bind_some e;refine{H0,A0,A,E,ρ,x,st,ex,λv H1 G Y=>{H0,A0,A,E,ρ,y,st.mono G,ey,λw H2 F r2=>?_}};unfold XY at e;split at e
  .rename_i _ l k _
   by_cases hz:cI k=cp/\a7 (l.length*k.toNat)=cp
   .rw[cw hz]at e
    cases e;obtain⟨p,xs,rfl,N,J⟩:=(Y.ext F).lst_inv;cases r2.int_inv;have hk:=eS hz.1;refine{p,k,xs,rfl,rfl,N,by lia,by lia,by rw[J.length];exact fP hz.2,λb B=>?_};have n0:H b=cg:=(G.trans F).free B;have W:¬ A b:=λz=>(st.mono<|G.trans F).live b z B
    exact q b _ ((G.trans F).trans<|Ext.new B) n0 W<|.lst aI<|(J.rep k.toNat).fresh B
   .rw[cx hz]at e;cases e
  .cases e
@[simp] theorem q_rep:XY (.lst l) (.int k)=if cI k=cp/\a7 (l.length*k.toNat)=cp then b4 (.lst (zaQ k.toNat l).flatten)else cg:=rfl
def xW(q z:Ev):Ev:=λρ=>(q ρ).bind λk=>(z ρ).bind λv=>(YE k).map λB=>.dK [(B,v)]
@[simp] theorem q_dispK1:xW fk fv ρ=(fk ρ).bind λk=>(fv ρ).bind λv=>(YE k).map λq=>.dK [(q,v)]:=rfl
theorem II(hk:PB X O k fk)(hv:PD X O v fv):PF X O (.Dict [b4 k] [v] pos)<|xW fk fv:=
 PE.mono (RS (KU hk hv R3) rfl rfl (by simp)<|by simp) <| by
  rintro σ H Q ⟨H0,A0,A,E,ρ,d,st,e,q⟩;obtain⟨dk,W,e⟩:=bind_some e;obtain⟨dv,ev,e⟩:=bind_some e;obtain⟨kk,et,rfl⟩:=map_some e;intro p F;have U:=st.aside F<|.dK [];have na:¬ A p:=λz=>st.live p z F
  refine{H0,A0,_,E,ρ,dk,U,W,λx H1 J r1=>{H0,A0,_,E,ρ,dv,U.mono J,ev,λy H2 N r2=>?_}};have Y:=qI et<|r1.ext N;subst Y;have B:H2 p=b4 (.dK []):=(J.trans N).ow p _ (.inr rfl) aI;have G:Ext A H H2:=(Ext.new F).trans<|(J.trans N).mono λa ha=>.inl ha;refine{B,[(kk,y)],rfl,by simp,q p _ ?_ F na<|.dK aI rfl<|.cons (r2.put (.inr rfl) B trivial) .nil};exact G.upN F
def cC(x y:D):Option D:=match x,y with
 |.tup l,.tup m=>if a7 (l.length+m.length)then b4 (.tup<|l++m)else cg
 |x,y=>wD x y
set_option tactic.hygienic true in
def RW:gC X (zaW .Add) cC:=OpR.mono (OpR.or TK My.O5) <| by
 rintro x y H Q ⟨A,dx,N,d,F,z,B,e,q⟩;unfold cC at e;split at e
 .rename_i l m
  cases l with
  |nil=>
   by_cases hz:a7 (([]:List D).length+m.length)=cp
   .rw[cw hz]at e
    cases e;obtain⟨a,xs,rfl,h1,G⟩:=z.tup_inv;obtain⟨b,ys,rfl,h2,J⟩:=B.tup_inv;cases G;exact .inr {a,b,ys,rfl,rfl,.inl<|.inl h1,.inl<|.inl h2,q _ H (Ext.refl _ _)<|.tup h2 J}
   .rw[cx hz]at e;cases e
  |cons a l=>
   refine .inl {A,_,_,d,F,z,B,?_,q};rw[<- e];rfl
 .exact .inl {A,_,_,d,F,z,B,e,q}
@[simp] theorem q_addAI:cC (.int i) (.int j)=b4 (.int<|i+j):=rfl
@[simp] theorem q_addAT:cC (.tup l) (.tup m)=if a7 (l.length+m.length)then b4 (.tup<|l++m)else cg:=rfl
@[simp] theorem q_addAL:cC (.lst l) (.lst m)=if a7 (l.length+m.length)then b4 (.lst<|l++m)else cg:=rfl
@[simp] theorem q_addAS:cC (.str l) (.str m)=if a7 (l.length+m.length)then b4 (.str<|l++m)else cg:=rfl
def SW(fd q:Ev):Ev:=λρ=>(fd ρ).bind λd=>(q ρ).bind λk=>(cJ d k).map λo=>o.getD .non
def Q8(Y:X.A.units+1<cLine)(ho:PB X O o fd)(he:PB X O e fk)(m:M1 X o "get" apos e cpos):PD X O (.Call (.Attribute o "get" apos) [e] [] cpos)<|SW fd fk:=
 PE.mono (K6 Y ho he m) <| by
  rintro σ H Q ⟨H0,A0,A,E,ρ,d,st,e,q⟩;obtain⟨x,ex,e⟩:=bind_some e;obtain⟨y,ey,e⟩:=bind_some e;obtain⟨ov,J,rfl⟩:=map_some e;refine{H0,A0,A,E,ρ,x,st,ex,λv H1 B N=>?_};obtain⟨a,U,G⟩:=M3 y J N;refine{a,U,G,H0,A0,A,E,ρ,y,st.mono B,ey,λw H2 z r2=>?_};obtain⟨a',F,W,_,g,e3⟩:=iZ J (N.ext z) r2;rw[U]at W;cases W;refine{F,g,?_};rcases e3 with⟨rfl,rfl⟩|⟨z',v',rfl,rfl,r4⟩
  .exact q _ H2 (B.trans z) .non
  .exact q v' H2 (B.trans z) r4
@[simp] theorem q_get1:SW fd fk ρ=(fd ρ).bind λd=>(fk ρ).bind λk=>(cJ d k).map λo=>o.getD .non:=rfl
def i7(c:Bv)(b:Sv):Nat->dC->Option Out
 |0,_=>cg
 |n+1,ρ=>(c ρ).bind λt=>if t=cp then(b ρ).bind λo=>match o with
   |.nx ρ'=>i7 c b n ρ'
   |.ct ρ'=>i7 c b n ρ'
   |.bk ρ'=>b4<|.nx ρ'
   |.rt d=>b4<|.rt d
  else b4<|.nx ρ
def t8(c:Bv)(b:Sv):Sv:=λρ=>i7 c b 100000 ρ
def IL(hp:zcU (model X.prog X.w) X.A X.env X.xe)(hc:pS X O1 c g)(hb:dY X {Ob,O1} O1 body b O1)(h1:Sub O1 O=cp)(h2:Sub O' O1=cp)(W:Sub O' Ob=cp) :
  jB X L O (.While c body [] pos) (t8 g b) O':=PS.mono (J6 hp hc hb) λT σ H ⟨H0,A0,A,E,ρ,G,st,e,p⟩=>by
 obtain⟨A1,J⟩:=st.shut<|Sub.mem h1;refine{λm σ H=>∃ρ A,ST H0 A0 A E O1 σ H ρ/\i7 g b m ρ=b4 G,{100000,ρ,A1,J,e},?_};rintro m σ H ⟨ρ,A,st,e⟩;cases m with
 |zero=>cases e
 |succ m=>
  obtain⟨t,et,e⟩:=bind_some e;refine{H0,A0,A,E,ρ,t,st,et,λH1 U=>?_};have fin:∀ {O2:List Nat} {A:Av} {σ:L2.St} {H:Hp} {ρ:dC},Sub O' O2=cp->ST H0 A0 A E O2 σ H ρ->(∀A σ H,ST H0 A0 A E O' σ H ρ->T.nx σ H)->T.nx σ H:=λhs st k=>by
   obtain⟨q,N⟩:=st.shut<|Sub.mem hs;exact k q _ _ N
  cases t with
  |true=>
   rw[cw rfl]at e;dsimp only;rw[cw rfl];obtain⟨o,Y,e⟩:=bind_some e;refine{λB H'=>∃ρ2 q,ST H0 A0 q E O1 B H' ρ2/\i7 g b m ρ2=b4 G,λB H' ⟨ρ2,q,z,e2⟩=>{m,zde m,ρ2,q,z,e2},H0,A0,A,E,ρ,o,st.mono U,Y,?_};cases o with
   |nx ρ2=>exact λq F H2 z=>{ρ2,q,z,e}
   |ct ρ2=>exact λq F H2 z=>{ρ2,q,z,e}
   |bk ρ2=>cases e;exact λq F H2 z=>fin W z p
   |rt d=>cases e;exact p
  |false=>
   rw[cx zat]at e;dsimp only;rw[cx zat];cases e;exact fin h2 (st.mono U) p
end
end P
namespace My
open AutoSeq1 (wpAny_loadPart')
set_option tactic.hygienic true in
def G7(l:Addr)(items:Array Value)(n:Nat)(B:Option Addr)(G:Array<|Option Value) :
  Meets (zbc.«enumerate.__new__» {[.type "enumerate",.ref l],[]}) (λ_ R s=>s.heap.get? l=b4 {cls:=.type "tuple",dict:=B,data:=.seq items n,slots:=G} /\
   R (.ok<|.ret<|.ref (s.heap.push {cls:=.type "tuple_iterator",data:=.fields #[.ref l,.int 0 0]}).objs.size)
    {s with heap:=(s.heap.push {cls:=.type "tuple_iterator",data:=.fields #[.ref l,.int 0 0]}).push {cls:=.type "enumerate",data:=.fields #[.none,.bool cr,.ref s.heap.objs.size,zaP 0,.none,.none]} }):=
 .of_wp λprog w A R s h=>by
  obtain⟨J,g,d,tk,os⟩:=s;obtain⟨q,h⟩:=h;have F:=sub_enumerate;have z:zdA (zbP ⟨J,g,d,tk,os⟩) l items:={_,q,rfl,n,rfl}
  wp_walk using zbL q
  refine wpAny_stack_any λst=>zac ?_
  split
  .rename_i c _ _ _ _ _
   cases(c == zcq "enumerate")
   .wp_walk using zbL q,zbS z
    exact{_,rfl,h}
   .wp_walk using zbL q,zbS z
    exact{_,rfl,h}
  .wp_walk using zbL q,zbS z
   exact{_,rfl,h}
section
variable {prog:zap}{w:World}{A:zas}{E:Value->zab->Prop}{s:zab}
def IM(hl:SSq t s.heap l xs)
  (h:∀h',zbW h' (s.heap.objs.size+1) s.heap.objs.size 0 .none->SIt t h' s.heap.objs.size l 0->(∀b o,s.heap.get? b=b4 o->h'.get? b=b4 o)->Q (.ref<|s.heap.objs.size+1) {s with heap:=h'}) :
  wpAny (model prog w) A (call (.type "enumerate") [.ref l]) Q E s:=by
 obtain⟨⟨cls,G,data,U⟩,W,Y,n,hd⟩:=hl;have N:cls=.type (sqN t):=Y;have J:data=.seq xs n:=hd;subst N J;have hz:(s.heap.push<|pT t l).objs.size=s.heap.objs.size+1:=zbm ..;have fin:zbW ((s.heap.push<|pT t l).push {cls:=.type "enumerate",data:=.fields #[.none,.bool cr,.ref s.heap.objs.size,zaP 0,.none,.none]}) (s.heap.objs.size+1) s.heap.objs.size 0 .none:=by
  have:=zau (s.heap.push<|pT t l) (o:={cls:=.type "enumerate",data:=.fields #[.none,.bool cr,.ref s.heap.objs.size,zaP 0,.none,.none]}) rfl;rw[hz]at this;exact this
 have q:=h _ fin {_,zag _<|zau _ rfl,rfl,rfl} λb o x=>zag _<|zag _ x
 cases t with
 |false=>
  refine zen F.called_enumerate (by decide) (F.typeCall_enumerate_1 _) (F.newCall_enumerate_1 _) (λB=>F.args_object_init_2 B _) F.entry_enumerate_new (meets_enumerate_newL l xs n G U) {W,?_};have z:(s.heap.push {cls:=.type "list_iterator",data:=.fields #[.ref l,.int 0 0]}).objs.size=s.heap.objs.size+1:=hz;show _/\_;rw[z];exact{{_,fin,rfl},q}
 |true=>
  refine zen F.called_enumerate (by decide) (F.typeCall_enumerate_1 _) (F.newCall_enumerate_1 _) (λB=>F.args_object_init_2 B _) F.entry_enumerate_new (G7 l xs n G U) {W,?_};have z:(s.heap.push {cls:=.type "tuple_iterator",data:=.fields #[.ref l,.int 0 0]}).objs.size=s.heap.objs.size+1:=hz;show _/\_;rw[z];exact{{_,fin,rfl},q}
def IJ{t:Bool}{e it l:Addr}{i:Nat}{items:Array Value}{x al:Value}{Q:Value->zab->Prop}
  (he:zbW s.heap e it i al) (ay:SIt t s.heap it l i) (hl:SSq t s.heap l items) (hx:items[i]?=b4 x) (ak:e≠it)
  (hQ:∀h', IsEnumOut h' e it ((i:Int)+1) x s.heap.objs.size -> SIt t h' it l (i+1) ->
   h'.get? s.heap.objs.size=b4 {cls:=.type "tuple",data:=.seq #[.int i s.toks,x]}->h'.objs.size=s.heap.objs.size+1->
   (∀b o,b≠e->b≠it->s.heap.get? b=b4 o->h'.get? b=b4 o)->Q (.ref s.heap.objs.size) {s with heap:=h',toks:=s.toks+1}) :
  wpAny (model prog w) A (zbc.«enumerate.__next__» {[.ref e],[]}) (λfin s'=>∃v,fin=.done (.ret v)/\Q v s') E s:=by
 obtain⟨hp,g,d,tk,os⟩:=s;show wpAny _ _ (field (.ref e) 2 >>= _) _ _ _;refine zaa<|zaE he rfl (x:=.ref it) rfl ?_;refine zaa<|next_item ay hl hx λU ai J=>?_;replace J:zaT it hp U:=J;have Y:zbW U e it i al:=(J.2 e ak).trans he;show wpAny _ _ (field (.ref e) 3 >>= _) _ _ {U,g,d,tk,os};refine zaa<|zaE Y rfl (x:=zaP i) rfl ?_;show wpAny _ _ (field (.ref e) 4 >>= _) _ _ {U,g,d,tk,os};refine zaa<|zaE Y rfl (x:=.none) rfl ?_;show wpAny _ _ (mkInt i >>= _) _ _ {U,g,d,tk,os};refine zaa<|wpAny_mkInt ?_;show wpAny _ _ (zc7 (.ref e) 3 (zaP<|(i:Int)+1) >>= _) _ _ {U,g,d,tk+1,os};refine zaa<|zaY Y (by simp) λad ab F=>?_;replace F:zaT e U ad:=F;replace ab:zbW ad e it ((i:Int)+1) al:=ab;show wpAny _ _ (zc7 (.ref e) 4 .none >>= _) _ _ {ad,g,d,tk+1,os};refine zaa<|zaY ab (by simp) λW ac G=>?_;replace G:zaT e ad W:=G;replace ac:zbW W e it ((i:Int)+1) al:=ac;show wpAny _ _ (newTuple [.int i tk,x] >>= _) _ _ {W,g,d,tk+1,os};refine zaa<|zda ?_;have aa:zbW (W.push {cls:=.type "tuple",data:=.seq #[.int i tk,x]}) e it ((i:Int)+1) al:=zag _ ac;generalize hh₄:W.push {cls:=.type "tuple",data:=.seq #[.int i tk,x]}=h₄ at aa;have hsz:W.objs.size=hp.objs.size:=by rw[G.1,F.1,J.1]
 have as:e<hp.objs.size:=zai he;have au:h₄.get? hp.objs.size=b4 {cls:=.type "tuple",data:=.seq #[.int i tk,x]}:=by rw[<- hh₄,<- hsz];exact zau _ rfl
 have aw:h₄.objs.size=hp.objs.size+1:=by rw[<- hh₄,zbm,hsz]
 have aq:∀b o,b≠e->b≠it->hp.get? b=b4 o->h₄.get? b=b4 o:=λb o af ar hb=>by
  rw[<- hh₄];exact zag _<|G.extBut b o af<|F.extBut b o af<|J.extBut b o ar hb
 have ao:SIt t h₄ it l<|i+1:=by
  rw[<- hh₄];exact ai.to λo q=>zag _<|G.extBut it o (zaS ak)<|F.extBut it o (zaS ak) q
 show wpAny _ _ (zb7 (.ref e) >>= _) _ _ {h₄,g,d,tk+1,os};rw[hsz];clear hh₄ ac G ab F Y J ai hsz W ad U;refine zaa ?_
 .unfold zb7
  refine zaa<|zaE aa rfl (x:=.none) rfl<|zac ?_;simp only[if_true];refine zaa<|zbV ?_;refine zaa<|zaE aa rfl (x:=al) rfl ?_;refine zaa<|zaY aa (by simp) λaj ae B=>?_;replace B:zaT e h₄ aj:=B;replace ae:zbW aj e it ((i:Int)+1) x:=ae;show wpAny _ _ (zdd (.ref e) (.ref hp.objs.size) >>= _) _ _ {aj,g,d,tk+1,os};refine zaa ?_
  .unfold zdd
   refine zaa<|zaY ae (by simp) λam ah N=>?_;replace N:zaT e aj am:=N;replace ah:IsEnumOut am e it ((i:Int)+1) x hp.objs.size:=ah;refine zaY ah (by simp) λan ag z=>?_
   replace z:zaT e am an:=z;replace ag:IsEnumOut an e it ((i:Int)+1) x hp.objs.size:=ag;refine zaa<|zbx<|zac {_,rfl,hQ an ag ?_ ?_ ?_ ?_}
   .exact ao.to λo q=>z.extBut it o (zaS ak)<|N.extBut it o (zaS ak)<|B.extBut it o (zaS ak) q
   .exact z.extBut _ _ (zaK as)<|N.extBut _ _ (zaK as)<|B.extBut _ _ (zaK as) au
   .rw[z.1,N.1,B.1,aw]
   .exact λb o af ar hb=>z.extBut b o af<|N.extBut b o af<|B.extBut b o af<|aq b o af ar hb
def HF{t:Bool}{e it l:Addr}{i:Nat}{items:Array Value}{x z:Value}{Q:Option Value->zab->Prop}
  (G:zbW s.heap e it i z) (B:SIt t s.heap it l i) (N:SSq t s.heap l items) (J:items[i]?=b4 x) (q:e≠it)
  (U:∀h', IsEnumOut h' e it ((i:Int)+1) x s.heap.objs.size -> SIt t h' it l (i+1) ->
   h'.get? s.heap.objs.size=b4 {cls:=.type "tuple",data:=.seq #[.int i s.toks,x]}->h'.objs.size=s.heap.objs.size+1->
   (∀b o,b≠e->b≠it->s.heap.get? b=b4 o->h'.get? b=b4 o)->Q (b4<|.ref s.heap.objs.size) {s with heap:=h',toks:=s.toks+1}) :
  wpAny (model prog w) A (zaL<|.ref e) Q E s:=by
 have hT:s.TypeIs (.ref e) "enumerate" := {_,G,rfl};unfold zaL;exact zaa (zb4<|zbw (name:=zaZ "__next__") hT zer
  (zbd zer hT F.entry_enumerate_next
   (IJ G B N J q λh' a b c d k=>zac<|U h' a b c d k) (F.args_enumerate_next_1 _)))
def KC{t:Bool}{i:Nat}{items:Array Value}{Q:Option Value->zab->Prop}(U:A.handled=cg)
  (G:zbW s.heap e it i old) (q:SIt t s.heap it l i) (W:SSq t s.heap l items) (J:items[i]?=cg)
  (hQ:∀h',zds it s.heap h'->Q cg {s with heap:=h'}):wpAny (model prog w) A (zaL<|.ref e) Q E s:=by
 have hT:s.TypeIs (.ref e) "enumerate" := {_,G,rfl};unfold zaL;refine zaa (zb4<|zbw (name:=zaZ "__next__") hT zer
  (zbd zer hT F.entry_enumerate_next ?_<|F.args_enumerate_next_1 _))
 show wpAny _ _ (field (.ref e) 2 >>= _) _ _ _;refine zaa<|zaE G rfl (x:=.ref it) rfl ?_;refine zaa<|next_end U q W J λh' x z B=>?_;obtain⟨o,Y,N⟩:=B;refine zaa<|zc9 (T := "StopIteration") (b:=cp) {o,Y,N} zdu ?_;exact zac<|hQ _ z
end
def ItE(K:zaf)(t:Bool)(l:Addr):It:=
 ⟨λi H => ∃xs, m8 K t H l xs /\ i<xs.length, λi H x H' => ∃p u, x = .ref p /\ H p = cg /\ H' = upd H p (.tup [.int (i:Int), u]) /\ ∀xs, m8 K t H l xs -> xs[i]? = b4 u,
  λi H=>∃xs,m8 K t H l xs/\xs.length<=i⟩
def IU{P:zap}{w:World}{K:zaf}{Y:List Expr}{x1}{tp:Pos}(t:Bool){e it l:Addr}(aa:e≠it) :
  Turn P w K (.Tuple Y x1 tp) (ItE K t l) [e,it] e (λi h=>(∃G,zbW h e it (i:Nat) G)/\SIt t h it l i) where
 mem:=by simp
 obj:=by
  rintro i h ⟨⟨G,J⟩,⟨o1,e1,_,d1⟩⟩ c z;simp only[zaF,zaG,or_false]at z;rcases z with rfl|rfl
  .exact{_,J,λv q=>by cases q}
  .exact{o1,e1,λv q=>by rw[d1]at q;cases q}
 keep:=λi h h' ⟨⟨G,J⟩,U⟩ k=>{{G,k e (by simp) _ J},U.to λo q=>k it (by simp) o q}
 item:=by
  intro X hP hw hK z i pins s σ H E I hf st hg;subst hP hw hK;obtain⟨⟨G,J⟩,U⟩:=st;obtain⟨xs,q1,aj⟩:=hg;obtain⟨ab,r1,p1⟩:=cM I q1;have e1:xs[i]?=b4 xs[i]:=by simp[aj]
  obtain⟨u,eu,ru⟩:=r1.get e1;refine HF J U p1 (x:=u) (by simpa using eu) aa λh' a1 a2 a3 a4 N=>{_,rfl,?_}
  refine wpAny_letOwnedTupleGo_enum (s:={s with heap:=h',toks:=s.toks+1}) a1 λh2 ak sb=>?_
  have zz:∀c,c∈[e,it]->c<s.heap.objs.size:=λc z=>by
   simp only[zaF,zaG,or_false]at z;rcases z with rfl|rfl
   .exact zai J
   .obtain⟨o,q,_⟩:=U;exact zai q
  have W:∀c o,c≠e->h'.get? c=b4 o->h2.get? c=b4 o:=λc o z q=>sb.extBut _ _ z q
  have I1:Inv X pins σ H {s with heap:=h2,toks:=s.toks+1}:=dS I hf λc o z q=>by
   simp only[zaF,zaG,or_false,not_or]at z;exact W c o z.1<|N c o z.1 z.2 q
  have B:H s.heap.objs.size=cg:=I.fresh;have an:h2.get? s.heap.objs.size=b4 {cls:=.type "tuple",data:=.seq #[.int i s.toks,u]}:=W _ _ (zaK<|zz e<|by simp) a3;have I2:Inv X pins σ (upd H s.heap.objs.size<|.tup [.int (i:Int),xs[i]]) {s with heap:=h2,toks:=s.toks+1}:=by
   have ag:HOk X.prog X.w (upd H s.heap.objs.size<|.tup [.int (i:Int),xs[i]]) h2:=λc ob q=>by
    by_cases z:c=s.heap.objs.size
    .subst z;rw[aI]at q;cases q
     exact{by show 2<=zal;decide,[.int i s.toks,u],.cons {_,rfl}<|.cons ru .nil,_,an,rfl,0,rfl,rfl}
    .rw[aF z]at q
     exact(I1.hok c ob q).stay (λ_ _ _ q=>q) (λd q=>by rw[aF<|aP q B];exact q) λd ao q=>by rw[aF<|aP q B];exact q
   refine I.call' (s':={s with heap:=h2,toks:=s.toks+1}) (ch:=[e,it]) rfl {λc o q _ _ F=>?_,λc o q _ _ F=>{o.slots,?_},λc o q n F=>by rw[aF<|zaB<|zai q];exact n,λc o q F=>{o,?_},λc ao q=>by rw[aF<|aP q B];exact q,λc o' u' q=>by rw[aF<|aP q B];exact q,λc ps q=>{#[],by rw[aF<|aP q B,q];simp}} ag I.bare λb hb=>?_
   .simp only[zaF,zaG,or_false,not_or]at F
    exact W c o F.1<|N c o F.1 F.2 q
   .simp only[zaF,zaG,or_false,not_or]at F
    exact W c o F.1<|N c o F.1 F.2 q
   .simp only[zaF,zaG,or_false,not_or]at F
    exact W c o F.1<|N c o F.1 F.2 q
   .obtain⟨_,f1,_,f3,f4,f5⟩:=hf b hb
    exact{f3,f1,f4,f5}
  refine{.ref s.heap.objs.size,_,I2,rfl,{_,_,rfl,B,rfl,λaw g1=>by rw[<- jS I q1 g1];exact e1},{{_,ak},a2.to λo q=>W _ o (zaS aa) q},λc z=>?_};rw[aF<|zaB<|zz c z];exact(hf c z).1
 done:=by
  intro X hP hw hK z i pins s σ H E I hf st hg;subst hP hw hK;obtain⟨⟨G,J⟩,U⟩:=st;obtain⟨xs,q1,ap⟩:=hg;obtain⟨ab,r1,p1⟩:=cM I q1;have n1:=r1.length;refine KC (I.ok.hd z) J U p1 (by simp;lia) λh' N=>{rfl,dS (t':=s.toks) I hf λc o z q=>?_}
  simp only[zaF,zaG,or_false,not_or]at z;exact N c o z.2 q
 self:=λ_ _ _ _ _ st h=>let ⟨⟨_,J⟩,_⟩:=st;wpAny_pyIter_enum J h
def boot_enumerate:zaO "enumerate" = b4 (.type "enumerate"):=by first|rfl|decide +kernel
def Z1(K:zaf)(ta:TA):TI:=λσ H R=>ta σ H λvs H1=>∃t l xs,vs=[.ref l]/\m8 K t H1 l xs/\R (ItE K t l) H1
def OK{X:Cx}{z:List Expr}{x1}{tp:Pos}{a:Expr}{ta:TA}{p pos:Pos}(hg:Gl X "enumerate")(hm:X.mg "enumerate" = cg)(ha:PA X [a] ta)(hs:zah [a] X.env=[(cr,eval a X.env)]:=by rfl) :
  PI X (.Tuple z x1 tp) (.Call (.Name "enumerate" p) [a] [] pos) (Z1 X.K ta):=by
 intro pins s σ H R I h;refine Call_<|fZ I hg hm boot_enumerate<|zcC (bN (ha pos pins s σ H _ I h) λus J ⟨vs,H1,F,r1,G⟩=>?_) (by rw[hs];rfl) rfl;obtain⟨t,l,xs,rfl,G,q⟩:=G;obtain⟨u,rfl,Y⟩:=vals1 r1;cases Y;obtain⟨U,_,p1⟩:=cM F G;refine IM p1 λh' W N k=>?_
 refine wpAny_pyIter_enum W ?_;have D:J.heap.objs.size+1≠J.heap.objs.size:=by lia
 refine{_,[_,_],_,_,H1,rfl,F.kept (t':=J.toks) k,IU t D,{{_,W},N},λc B=>F.fpOk ?_<|F.hok.fresh ?_,q}
 .simp only[zaF,zaG,or_false]at B
  rcases B with rfl|rfl <;> lia
 .simp only[zaF,zaG,or_false]at B
  rcases B with rfl|rfl <;> lia
end My
namespace P
def eX:Nat->List D->List D
 |_,[]=>[]
 |k,x::xs=>.tup [.int (k:Int),x]::eX (k+1) xs
def GF(f:Lv):Lv:=λρ=>(f ρ).bind λds=>match ds with
 |[a]=>(cS a).map<|eX 0
 |_=>cg
theorem gK:∀ {xs:List D} {k i:Nat} {d:D},(eX k xs)[i]?=b4 d->∃x,xs[i]?=b4 x/\d=.tup [.int ((k+i:Nat):Int),x]
 |[],k,i,d,h=>by simp[eX]at h
 |x::xs,k,0,d,h=>by simp[eX]at h;exact{x,rfl,h.symm}
 |x::xs,k,i+1,d,h=>by
  obtain⟨y,q,z⟩:=gK (xs:=xs) (k:=k+1) (i:=i) (by simpa[eX]using h);exact{y,by simpa using q,by rw[z];congr 4;lia}
theorem jJ:∀(xs:List D) (k:Nat),(eX k xs).length=xs.length
 |[],_=>rfl
 |x::xs,k=>by simp[eX,jJ xs]
set_option tactic.hygienic true in
def J7{G}(hg:Gl X "enumerate")(hm:X.mg "enumerate" = cg)(ha:B0 X O [a] f)(hs:zah [a] X.env=[(cr,eval a X.env)]:=by rfl) :
  PDI X O (.Tuple elts G tp) (.Call (.Name "enumerate" p) [a] [] pos) (GF f):=PI.mono (My.OK hg hm ha hs) λσ H R ⟨H0,A0,A,E,ρ,items,st,e,q⟩=>by
 obtain⟨ds,e1,e⟩:=bind_some e;refine{H0,A0,A,E,ρ,ds,st,e1,λvs H1 G r1=>?_};split at e
 case h_2=>cases e
 rename_i da;obtain⟨xs,e2,rfl⟩:=map_some e;obtain⟨v,rfl,N⟩:=r1.one;obtain⟨t1,F,us,rfl,q1,_,k1⟩:=jQ (K:=X.K) e2 N;refine{t1,F,us,rfl,q1,q _ H1 [.rep da<|.ref F] G (λp Y=>?_) ?_}
 .rw[List.mem_singleton.mp Y];exact N
 .intro A' H' lv hE i
  have a1:Rep A' H' da<|.ref F:=hE (.rep da<|.ref F)<|zaw ..;obtain⟨z,J,B⟩:=k1 A' H' a1;refine{λhi=>{z,J,by rw[B.length];rw[jJ]at hi;exact hi},λd hd=>?_};obtain⟨x,ex,rfl⟩:=gK hd;obtain⟨u,W,ru⟩:=B.get' ex;refine{{z,J,(List.getElem?_eq_some_iff.mp W).1},λx' H2 ⟨p,u',e4,n,e5,e6⟩=>?_};subst e4 e5;have U:=e6 z J;rw[W]at U;cases U;rw[zcR];exact{Ext.new n,.tup aI<|.cons (.int _)<|.cons (ru.ext<|Ext.new n) .nil}
@[simp] theorem q_enum:GF f ρ=(f ρ).bind λds=>match ds with
 |[a]=>(cS a).map<|eX 0
 |_=>cg:=rfl
end P
namespace P
open L2
structure Ro where
 j:Int
 k:Int
 a:Int
 b:Int
 p:Int
structure GR(M many:Int)(rs:List Ro):Prop where
 len:rs.length<=12
 jk:∀r∈rs,0<=r.j/\r.j<r.k/\r.k<many
 ab:∀r∈rs,(0<=r.a/\r.a<M)/\0<=r.b/\r.b<M
 pr:∀r∈rs,0<=r.p/\r.p<=10^30
def eY(rs:List Ro)(n:Int):Option Ro:=if 0<=n then rs[n.toNat]? else cg
def eJ(h:eY rs n=b4 r):r∈rs:=by
 unfold eY at h;split at h
 .exact zaA h
 .cases h
set_option tactic.hygienic true in
def nQ(h:eY rs n=b4 r):0<=n/\n<(rs.length:Int):=by
 unfold eY at h;split at h
 .rename_i h0
  have:=(List.getElem?_eq_some_iff.mp h).1
  lia
 .cases h
def gw(rs:List Ro):Int->List Int->Option Int
 |at_,[]=>b4 at_
 |at_,n::w=>(eY rs n).bind λr=>if r.j=at_ then gw rs r.k w else cg
theorem nH:∀ {at_:Int} {v w:List Int},gw rs at_ (v++w)=(gw rs at_ v).bind λe=>gw rs e w
 |at_,[],w=>rfl
 |at_,n::v,w=>by
  show((eY rs n).bind λr=>if r.j=at_ then gw rs r.k (v++w)else cg)=_;cases e:eY rs n with
  |none=>simp[gw,e]
  |some r=>
   by_cases h:r.j=at_
   .simp[gw,e,h,nH (v:=v) (w:=w)]
   .simp[gw,e,h]
def QD(h:gw rs at_ w=b4 e)(q:eY rs n=b4 r)(z:r.j=e):gw rs at_ (w++[n])=b4 r.k:=by
 rw[nH,h];simp[gw,q,z]
theorem DV(g:GR M many rs):∀ {at_ e:Int} {w:List Int},gw rs at_ w=b4 e->at_+(w.length:Int)<=e
 |at_,e,[],h=>by cases h;simp
 |at_,e,m::w,h=>by
  unfold gw at h;cases er:eY rs m with
  |none=>rw[er]at h;cases h
  |some r=>
   rw[er]at h;simp only[zes]at h;split at h
   .have:=DV g h
    have:=(g.jk r<|eJ er).2.1;simp only[zaU];lia
   .cases h
def cN(rs:List Ro)(M:Int)(x:Int)(w:List Int):Int:=w.foldl (λx n=>match eY rs n with|some r=>(r.a*x+r.b)%M|none=>x) x
def iA(rs:List Ro)(M:Int)(t:Int×Int)(w:List Int):Int×Int:=w.foldl (λt n=>match eY rs n with|some r=>(t.1*r.a%M,(r.a*t.2+r.b)%M)|none=>t) t
def AL(a x b M:Int):(a*(x%M)+b)%M=(a*x+b)%M:=by
 rw[zet,zeu,zew _<|zex M,<- zeu,<- zet]
theorem yF(h0:0<M):∀(w:List Int) (t:Int×Int) (x y:Int),(0<=t.1/\t.1<M)->(0<=t.2/\t.2<M)->y%M=(t.1*x+t.2)%M->
  (0<=(iA rs M t w).1/\(iA rs M t w).1<M)/\(0<=(iA rs M t w).2/\(iA rs M t w).2<M)/\cN rs M y w%M=((iA rs M t w).1*x+(iA rs M t w).2)%M
 |[],t,x,y,h1,h2,h=>{h1,h2,h}
 |n::w,t,x,y,h1,h2,h=>by
  cases e:eY rs n with
  |none=>
   have:=yF (rs:=rs) h0 w t x y h1 h2 h;simpa[iA,cN,e]using this
  |some r=>
   have G:=zay (t.1*r.a)<|zaX h0;have z:=zaz (t.1*r.a) h0;have F:=zay (r.a*t.2+r.b)<|zaX h0;have q:=zaz (r.a*t.2+r.b) h0;have:=yF (rs:=rs) h0 w (t.1*r.a%M,(r.a*t.2+r.b)%M) x ((r.a*y+r.b)%M) {G,z} {F,q} (by
    show(r.a*y+r.b)%M%M=(t.1*r.a%M*x+(r.a*t.2+r.b)%M)%M;rw[zew _<|zex M,<- AL r.a y,h,AL];have B:(t.1*r.a%M*x+(r.a*t.2+r.b)%M)%M=(t.1*r.a*x+(r.a*t.2+r.b))%M:=by
     rw[zet,zeu,zew _<|zex M,zew _<|zex M,<- zeu,<- zet]
    rw[B];congr 1;rw[Int.mul_add,<- zey,Int.mul_comm r.a t.1]
    lia)
   simpa[iA,cN,e]using this
theorem dW(h0:0<M):∀(w:List Int) (x:Int),(0<=x/\x<M)->0<=cN rs M x w/\cN rs M x w<M
 |[],x,h=>h
 |n::w,x,h=>by
  cases e:eY rs n with
  |none=>have:=dW (rs:=rs) h0 w x h;simpa[cN,e]using this
  |some r=>
   have:=dW (rs:=rs) h0 w ((r.a*x+r.b)%M) {zay _<|zaX h0,zaz _ h0};simpa[cN,e]using this
def Rch(rs:List Ro)(x k:Int):Prop:=∃w,gw rs x w=b4 k
def Rch.refl(rs:List Ro)(k:Int):Rch rs k k:={[],rfl}
set_option tactic.hygienic true in
def Rch.inv(h:Rch rs x k):x=k\/∃n r,eY rs n=b4 r/\r.j=x/\Rch rs r.k k:=by
 obtain⟨w,hw⟩:=h;cases w with
 |nil=>cases hw;exact .inl rfl
 |cons n w=>
  unfold gw at hw;cases er:eY rs n with
  |none=>rw[er]at hw;cases hw
  |some r=>
   rw[er]at hw;simp only[zes]at hw;split at hw
   .rename_i hj
    exact .inr {n,r,er,hj,w,hw}
   .cases hw
def Rch.le(g:GR M many rs)(h:Rch rs x k):x<=k:=by
 obtain⟨w,hw⟩:=h;have:=DV g hw
 lia
def IsF(rs:List Ro)(k:Int):Int->List Int->Prop
 |x,[]=>x=k
 |x,n::w=>∃r,eY rs n=b4 r/\r.j=x/\IsF rs k r.k w/\∀m r',m<n->eY rs m=b4 r'->r'.j=x->¬ Rch rs r'.k k
theorem IsF.way:∀ {x:Int} {w:List Int},IsF rs k x w->gw rs x w=b4 k
 |x,[],h=>by rw[show x=k from h];rfl
 |x,n::w,⟨r,hr,hj,h,_⟩=>by simp[gw,hr,hj,IsF.way h]
def IsF.rch(h:IsF rs k x w):Rch rs x k:={w,h.way}
def bR(ds:List<|Int×List Int)(x:Int):Option<|List Int:=(ds.find? λp=>decide (p.1=x)).map (·.2)
def kZ(h:bR ds x=cg):bR (ds++[(x,w)]) y=if y=x then b4 w else bR ds y:=by
 unfold bR at h ⊢;rw[zfa];by_cases e:y=x
 .subst e
  rw[cw rfl];have:(ds.find? λp=>decide (p.1=y))=cg:=by
   cases z:ds.find? λp=>decide (p.1=y)with
   |none=>rfl
   |some p=>rw[z]at h;cases h
  rw[this];simp
 .rw[cx e]
  have q:¬ x=y:=λz=>e z.symm
  simp[q]
structure FI(rs:List Ro)(k c:Int)(ds:List<|Int×List Int):Prop where
 it:∀x w,bR ds x=b4 w->c<=x/\x<=k/\IsF rs k x w
 no:∀x,c<=x->x<=k->bR ds x=cg->¬ Rch rs x k
structure FJ(rs:List Ro)(k c:Int)(i:Nat)(ds:List<|Int×List Int):Prop where
 it:∀x w,bR ds x=b4 w->c<=x/\x<=k/\IsF rs k x w
 no:∀x,c<x->x<=k->bR ds x=cg->¬ Rch rs x k
 me:bR ds c=cg->∀m r,m<(i:Int)->eY rs m=b4 r->r.j=c->¬ Rch rs r.k k
def FI.start(rs:List Ro)(k:Int):FI rs k k [(k,[])]:=by
 refine{λx w h=>?_,λx h1 h2 h=>?_}
 .unfold bR at h
  simp at h;obtain⟨e,rfl⟩:=h;subst e;exact{zez _,zez _,rfl}
 .have e:x=k:=by lia
  subst e;simp[bR]at h
def FI.go(h:FI rs k (c+1) ds):FJ rs k c 0 ds:=
 {λx w e=>by have:=h.it x w e;exact{by lia,this.2},λx h1 h2 e=>h.no x (by lia) h2 e,λ_ m r z q=>by have:=(nQ q).1;lia}
def FJ.skip(g:GR M many rs)(h:FJ rs k c i ds)(B:eY rs (i:Int)=b4 r)(N:¬ (r.j=c/\(bR ds r.k).isSome=cp/\bR ds c=cg)):FJ rs k c (i+1) ds:=by
 refine{h.it,h.no,λe m J U q F=>?_};by_cases z:m<(i:Int)
 .exact h.me e m J z q F
 .have:m=(i:Int):=by lia
  subst this;rw[B]at q;cases q;cases e2:bR ds r.k with
  |some w=>exact absurd {F,by rw[e2];rfl,e} N
  |none=>
   have:=(g.jk r<|eJ B).2.1;by_cases G:r.k<=k
   .exact h.no r.k (by lia) G e2
   .exact λz=>G<|z.le g
def FJ.put(h:FJ rs k c i ds)(W:c<k)(G:eY rs (i:Int)=b4 r)(N:r.j=c)(hw:bR ds r.k=b4 w)(q:bR ds c=cg):FJ rs k c (i+1)<|ds++[(c,(i:Int)::w)]:=by
 refine{λx v e=>?_,λx h1 h2 e=>?_,λe=>?_}
 .rw[kZ q]at e
  by_cases z:x=c
  .rw[cw z]at e
   cases e;subst z;exact{zez _,by lia,r,G,N,(h.it _ _ hw).2.2,λm J U F B=>h.me q m J U F B}
  .rw[cx z]at e
   exact h.it x v e
 .rw[kZ q,cx<|by lia]at e
  exact h.no x h1 h2 e
 .rw[kZ q,cw rfl]at e
  cases e
def FJ.done(h:FJ rs k c rs.length ds)(G:c<k):FI rs k c ds:=by
 refine{h.it,λx h1 h2 e=>?_};by_cases z:x=c
 .subst z
  intro q;rcases q.inv with z|⟨n,r,B,F,q⟩
  .lia
  .exact h.me e n r (nQ B).2 B F q
 .exact h.no x (by lia) h2 e
def FI.end(g:GR M many rs)(h:FI rs k c ds)(q:c<=j):(∀w,bR ds j=b4 w->IsF rs k j w)/\(bR ds j=cg->¬ Rch rs j k):=by
 refine{λw e=>(h.it j w e).2.2,λe z=>?_};exact h.no j q (z.le g) e z
def fl{α:Type}(h:Nat->Ro->List α):Nat->List Ro->List α
 |_,[]=>[]
 |m,r::rs=>h m r++fl h (m+1) rs
def sg(q:Nat->Ro->Int):Nat->List Ro->Int
 |_,[]=>0
 |m,r::rs=>q m r+sg q (m+1) rs
end P
namespace P
def jK{n:Nat}(h:n<=1000000):bZ [.int (n:Int)]=b4 (aU 0 1 n):=by
 show(if cI (n:Int)then _ else _)=_;rw[cw<|by simp only[cI,zaM,decide_eq_true_eq];lia];simp
def eP(h0:0<=y)(h:y<=1000000):bZ [.int y]=b4 (aU 0 1 y.toNat):=by
 show(if cI y then _ else _)=_;rw[cw<|by simp only[cI,zaM,decide_eq_true_eq];lia]
def KQ(h:v.length+w.length<=1000000):cC (tupI v) (tupI w)=b4 (tupI<|v++w):=by
 unfold tupI;rw[q_addAT,cw<|by simp only[a7,zaj];exact decide_eq_true h,za5]
def bD(r:Ro):D:=.tup [.int r.j,.int r.k,.int r.a,.int r.b,.int r.p]
def yG(h:eY rs n=b4 r):d8 (rs.map bD) n=b4 (bD r):=by
 have q:=nQ h;obtain⟨j,rfl⟩:∃j:Nat,n=(j:Int):={n.toNat,by lia};unfold eY at h;rw[cw<|by lia]at h;refine bH ?_;rw[zaq];simp at h;rw[h];rfl
def at0:d8 (a::l) 0=b4 a:=bH (j:=0) rfl
def at1:d8 (a::b::l) 1=b4 b:=bH (j:=1) rfl
def at2:d8 (a::b::c::l) 2=b4 c:=bH (j:=2) rfl
def at3:d8 (a::b::c::d::l) 3=b4 d:=bH (j:=3) rfl
def qw:aN (bD r) (.int 0)=b4 (.int r.j):=by simp[bD,at0]
def qg:aN (bD r) (.int 1)=b4 (.int r.k):=by simp[bD,at1]
def B3(t:Int×Int):D:=.tup [.int t.1,.int t.2]
def ZJ:lF (bD r) (b4 2) (b4 4)=b4 (B3 (r.a,r.b)):=rfl
def sL(F:-1000<=a)(z:a<=1000)(B:-1000<=b)(q:b<=1000):mK [.int a,.int b,.int<|-1]=b4 (aU a (-1) (a-b).toNat):=by
 have e:My.rsz a b (-1)=(a-b).toNat:=by
  unfold My.rsz zce;rw[cx<|by decide];by_cases h:a>b
  .rw[cw h,show -(-1:Int)=1 from rfl,Int.ediv_one];lia
  .rw[cx h];lia
 have s:zc4 a b (-1)=cp:=by
  unfold zc4 zce;simp only[Builtin.Range.rangeFitsLong,zaM,zeq,decide_eq_true_eq,beq_iff_eq];rw[cx<|by decide,show -(-1:Int)=1 from rfl,Int.ediv_one];have t:(if(-1:Int)>0 then decide (-2^63<=b+(-1-1)) && decide (b+(-1-1)<2^63)else decide (-2^63<=b+(-1+1)) && decide (b+(-1+1)<2^63))=cp:=by
   rw[cx<|by decide,zaM];exact{decide_eq_true<|by lia,decide_eq_true<|by lia}
  rw[t];refine{?_,.inr rfl};split <;> lia
 show(if(-1:Int)≠0/\(-1:Int).natAbs<1000/\zc4 a b (-1)=cp then b4 (aU a (-1)<|My.rsz a b<|-1)else cg)=_;rw[cw {by decide,by decide,s},e]
def fK(p:Int×List Int):Key×D:=(.inl p.1,tupI p.2)
def WH(ds:List<|Int×List Int)(x:Int):b6 (ds.map fK) (.inl x:Key)=(bR ds x).map tupI:=by
 unfold b6 bR;induction ds with
 |nil=>rfl
 |cons p ds ih=>
  rw[zak,za0,za0];by_cases e:p.1=x
  .have q:(fK p).1=(zan x:Key):=by show(zan p.1:Key)=_;rw[e]
   simp[e,q,fK]
  .have q:¬ (fK p).1=(zan x:Key):=λz=>e (by injection z)
   simp only[e,q,decide_false];exact ih
def xI(ds:List<|Int×List Int)(x:Int):cJ (.dK<|ds.map fK) (.int x)=b4 ((bR ds x).map tupI):=by
 show b4 (b6 (ds.map fK) (.inl x:Key))=_;rw[WH]
def XG(h:bR ds x=cg)(hz:ds.length<=1000000):uK (.dK<|ds.map fK) (.int x) (tupI w)=b4 (.dK<|(ds++[(x,w)]).map fK):=by
 show(if a7 (ds.map fK).length then b4 (D.dK<|putD (ds.map fK) (.inl x:Key)<|tupI w)else cg)=_;rw[cw<|by simp only[a7,zaj];exact decide_eq_true hz];have G:((ds.map fK).any λp=>decide (p.1=(zan x:Key)))=cr:=by
  rw[List.any_eq_false];intro p F;obtain⟨q,B,rfl⟩:=List.mem_map.mp F;have:q.1≠x:=λz=>by
   have:(ds.find? λp=>decide (p.1=x))≠cg:=λy=>by
    rw[List.find?_eq_none]at y;exact y q B<|by simp[z]
   unfold bR at h;cases y:ds.find? λp=>decide (p.1=x)with
   |none=>exact this y
   |some p=>rw[y]at h;cases h
  simp[fK,this]
 unfold putD;rw[G,za5];rfl
def c7(K:Nat)(p:Int->Bool):D:=.lst<|(zav K).map λ(k:Nat)=>.bl<|p (k:Int)
def bY(K:Nat)(P:Int->Int->Bool):D:=.lst<|(zav K).map λ(x:Nat)=>c7 K<|P (x:Int)
def t5{K:Nat}(h0:0<=k)(h:k<(K:Int)):aN (c7 K p) (.int k)=b4 (.bl<|p k):=by
 obtain⟨j,rfl⟩:∃j:Nat,k=(j:Int):={k.toNat,by lia};exact bH<|by simp[show j<K by lia]
def xX{K:Nat}(h0:0<=k)(h:k<(K:Int)):aN (bY K P) (.int k)=b4 (c7 K<|P k):=by
 obtain⟨j,rfl⟩:∃j:Nat,k=(j:Int):={k.toNat,by lia};exact bH<|by simp[show j<K by lia]
def qc(K:Nat)(f:Int->D):D:=.lst<|(zav K).map λ(x:Nat)=>f (x:Int)
def PM{K:Nat}(h0:0<=c)(h:c<(K:Int)):uK (qc K f) (.int c) d=b4 (qc K λx=>if x=c then d else f x):=by
 have z:JI ((zav K).map λ(x:Nat)=>f (x:Int)).length c=b4 c.toNat:=by
  unfold JI;rw[cw h0,cw<|by simpa using h]
 show((S4<|.int c).bind λk=>(JI _ k).map λj=>D.lst<|List.set _ j d)=_;simp only[q_asI,zes];rw[z];show b4 (D.lst _)=b4 (D.lst _);congr 2;refine zdn (by simp) λi h1 h2=>?_
 rw[List.getElem_set];by_cases e:c.toNat=i
 .have q:((i:Nat):Int)=c:=by lia
  simp[e,q]
 .have q:¬ ((i:Nat):Int)=c:=by lia
  simp[e,q]
def LM(K:Nat):aU 0 1 K=(zav K).map λ(k:Nat)=>D.int (k:Int):=by
 unfold aU;exact zdf λi _=>by simp
theorem mH{K:Nat}{rest:List (Option D)}{F:Int->D}(h:∀k:Int,0<=k->k<(K:Int)->f (b4 (.int k)::rest)=b4 (F k)):∀(l:List Nat) (o:Option D),(∀k∈l,k<K)->bV (aO 0) pX f (l.map λ(k:Nat)=>D.int (k:Int)) (o::rest)=b4 (l.map λ(k:Nat)=>F (k:Int))
 |[],o,_=>rfl
 |k::l,o,hl=>by
  have ih:=mH h l (b4<|.int (k:Int)) λm z=>hl m<|zax _ z
  have q:=h (k:Int) (by lia) (by have:=hl k<|zaw ..;lia);simp[bV,q,ih]
def gI(h1:-1000<=a)(h2:a<=1000)(z:-1000<=b)(q:b<=1000000):d6 [.int a,.int b]=b4 (aU a 1 (b-a).toNat):=by
 show(if(cI a && cI b)=cp then _ else _)=_;rw[cw<|by simp only[cI,zaM,decide_eq_true_eq];lia]
end P
namespace My
def Z5(a:Bool):String:=if a=cp then "str_ascii_iterator" else "str_iterator"
def ItS(x:Str):It:={λi H=>i<x.cps.size,λi H y H'=>H'=H/\∃c,x.cps[i]?=b4 c/\y=.str {#[c]},λi H=>x.cps.size<=i}
def L3{K:zaf}(a:Bool)(x:Str)(t:Tok)(it:Addr):Turn P w K tg (ItS x) [it] it (λi h=>h.IsStrIter it (Z5 a) x t i) where
 mem:=by simp
 obj:=λi h st b q=>by
  have e:b=it:=by simpa using q
  subst e;obtain⟨o,e,c,d⟩:=st;exact{o,e,λv z=>by rw[d]at z;cases z}
 keep:=λi h h' st k=>let ⟨o,ho,r⟩:=st;{o,k it (by simp) o ho,r}
 item:=by
  intro X hP hw hK hc i pins s σ H E I Y st hg;subst hP hw hK;obtain⟨N,J,f2,G,W,U⟩:=Y it (by simp);have hi:i<x.cps.size:=hg;have F:x.cps[i]?=b4 x.cps[i]:=by simp[hi]
  cases a with
  |true=>
   refine wpAny_pyNext_ascii_item st F λh' B sb=>?_
   have I1:Inv X pins σ H {s with heap:=h',toks:=s.toks+1}:=I.turned (t':=s.toks+1) (λb o q e=>(sb.2 b q).trans e) N J G W U;obtain⟨o,e,c,d⟩:=id B;exact{_,rfl,pN (s:={s with heap:=h',toks:=s.toks+1}) e c d (by decide) {.str {#[x.cps[i]]},H,I1,{_,rfl},{rfl,_,F,rfl},B,λb q=>(Y b q).1}}
  |false=>
   refine wpAny_pyNext_wide_item st F λh' B sb=>?_
   have I1:Inv X pins σ H {s with heap:=h',toks:=s.toks+1}:=I.turned (t':=s.toks+1) (λb o q e=>(sb.2 b q).trans e) N J G W U;obtain⟨o,e,c,d⟩:=id B;exact{_,rfl,pN (s:={s with heap:=h',toks:=s.toks+1}) e c d (by decide) {.str {#[x.cps[i]]},H,I1,{_,rfl},{rfl,_,F,rfl},B,λb q=>(Y b q).1}}
 done:=by
  intro X hP hw hK hc i pins s σ H E I Y st hg;subst hP hw hK;obtain⟨N,J,f2,G,W,U⟩:=Y it (by simp);have hi:x.cps.size<=i:=hg;have F:x.cps[i]?=cg:=by simp[hi]
  cases a with
  |true=>exact wpAny_pyNext_ascii_end (I.ok.hd hc) st F λh' eb=>{rfl,I.turned (t':=s.toks) (λb o q e=>eb b o q e) N J G W U}
  |false=>exact wpAny_pyNext_wide_end (I.ok.hd hc) st F λh' eb=>{rfl,I.turned (t':=s.toks) (λb o q e=>eb b o q e) N J G W U}
 self:=λ_ _ _ _ _ st h=>by
  cases a with
  |true=>exact wpAny_pyIter_striter_ascii st h
  |false=>exact wpAny_pyIter_striter_wide st h
def qbi(tl:TE):TI:=λσ H R=>tl σ H λx H1=>∃y,x=.str y/\R (ItS y) H1
section
variable {X:Cx}{tg:Expr}
def TU(N:PE X l tl):PI X tg l<|qbi tl:=by
 intro pins s σ H R I h;refine bN (N pins s σ H _ I h) λv z ⟨x,H1,B,J,F⟩=>?_
 obtain⟨y,rfl,q⟩:=F;obtain⟨t,rfl⟩:=J;have fin:∀a:Bool,PIE X pins σ tg R (.ref z.heap.objs.size) {z with heap:=z.heap.push {cls:=.type<|Z5 a,data:=.fields #[.str y t,.int 0 0]} }:=λa=>by
  refine{z.heap.objs.size,[z.heap.objs.size],_,_,H1,rfl,B.kept (t':=z.toks) λb o e=>zag _ e,L3 a y t _,{_,zau _ rfl,rfl,rfl},λb G=>?_,q};have e:b=z.heap.objs.size:=by simpa using G
  subst e;exact B.fpOk (zam _)<|B.hok.fresh<|zam _
 cases ha:y.cps.all (·<128)
 .exact wpAny_pyIter_wide ha<|fin cr
 .exact wpAny_pyIter_ascii ha<|fin cp
def G0:OpR X (zar .LtE) λx y H Q=>∃i j,x=.str i/\y=.str j/\Q (.bl<|!decide (j.cps.toList<i.cps.toList)) H:=by
 intro pins s σ H x y v u Q I B z h;obtain⟨i,j,rfl,rfl,q⟩:=h;obtain⟨t,rfl⟩:=B;obtain⟨t',rfl⟩:=z;exact PySem.P.le_str {.bl _,H,I,rfl,q}
def WR{bs:List Bool}(r:Vals (bs.map V.bl) its):TruthOf P w A (λi v=>its.toArray[i]?=b4 v) λi=>(bs[i]?).getD cr:=by
 intro i v s Q E q z;have q:its[i]?=b4 v:=by simpa using q
 have B:=r.length;rw[zaj]at B;have hi:i<bs.length:=by rw[B];exact(List.getElem?_eq_some_iff.mp q).1
 have e:(bs.map V.bl)[i]?=b4 (.bl bs[i]):=by simp[hi]
 obtain⟨u,F,G⟩:=r.get e;rw[q]at F;cases F;cases G;have:(bs[i]?).getD cr=bs[i]:=by simp[hi]
 dsimp only at z;rw[this]at z;exact zbz z
def range_all(bs:List Bool):(zav bs.length).all (λi=>(bs[i]?).getD cr)=bs.all id:=by
 rw[zcD,zcO,zcO];constructor
 .intro h b q
  obtain⟨i,hi,rfl⟩:=List.getElem_of_mem q;have:=h i<|List.mem_range.mpr hi;simpa[hi]using this
 .intro h i hi
  have hi:=List.mem_range.mp hi;simpa[hi]using h bs[i] (zdw hi)
def HL(Y:X.calm=cp):CallR X (.builtin "all") λxs H Q=>∃(p:Addr) (bs:List Bool),xs=[.ref p]/\SqL X.K H p (bs.map V.bl)/\Q (.bl<|bs.all id) H:=by
 intro pins s σ H xs us Q I r h;obtain⟨p,bs,rfl,U,q⟩:=h;obtain⟨u,rfl,rx⟩:=vals1 r;cases rx;obtain⟨B,J,pl,hz⟩:=I.list U;have F:s.heap.IsList p B.toArray:=pl.isList;obtain⟨o,ho,N,n,hd⟩:=id F;have G:p≠s.heap.objs.size:=zaB<|zai ho;refine call_all_walk<|zcd F ?_;refine{s.heap.objs.size,_,_,_,_,_,_,rfl,Walks.list (prog:=X.prog) (w:=X.w) (A:=X.A.in1) (I.ok.hd Y) s.heap.objs.size p G B.toArray,{{_,zau _ rfl,rfl,rfl},F.at λo e=>zag _ e},WR J,λh' tk hm=>?_};have hk:∀b o,s.heap.get? b=b4 o->h'.get? b=b4 o:=λb o e=>hm b o (λW=>absurd (zai e)<|(List.mem_singleton.mp W) ▸ zbe _)<|zag _ e
 have z:=J.length;rw[zaj]at z;refine{.bl<|bs.all id,H,I.kept (t':=tk) hk,?_,q};rw[zaC,<- z,range_all];rfl
theorem AN:∀ {ss:List Str} {its:List Value},Vals (ss.map V.str) its->StrsAre its ss
 |[],_,.nil=>.nil
 |x::ss,_,.cons r t=>by
  obtain⟨k,rfl⟩:=r;exact .cons x k<|AN t
def rJoin(K:zaf):V->List V->Hp->VK->Prop:=λx vs H Q=>∃(sep:Str) (p:Addr) (ss:List Str),x=.str sep/\vs=[.ref p]/\SqL K H p (ss.map V.str)/\(ss.map (·.length)).sum+ss.length*sep.length<=16777216/\Q (.str<|Txt.join sep ss) H
def RF:MtM X "str.join"<|rJoin X.K:=by
 intro pins s σ H x vs v us Q I N J h;obtain⟨sep,p,ss,rfl,rfl,G,hz,q⟩:=h;obtain⟨t,rfl⟩:=N;obtain⟨u,rfl,B⟩:=J.one;cases B;obtain⟨z,F,U,_⟩:=I.list G;exact join_list (items:=z.toArray) U.isList (by simpa using AN F) hz λt' k=>{.str<|Txt.join sep ss,H,I.kept (t':=k) λ_ _ e=>e,{_,rfl},q}
end
end My
namespace P
section
variable {X:Cx}{O O':List Nat}{L:Lp}
def NZ:List D->Option (List Bool)
 |[]=>b4 []
 |.bl b::l=>(NZ l).map (b::·)
 |_=>cg
theorem A3:∀ {ds:List D} {ns:List Bool} {vs:List V},NZ ds=b4 ns->RepL A H ds vs->vs=ns.map V.bl
 |[],_,_,e,.nil=>by cases e;rfl
 |d::ds,ns,_,e,.cons h t=>by
  cases d with
  |bl b=>
   obtain⟨m,q,rfl⟩:=map_some e;cases RepB.bl_inv (.of h);rw[A3 q t];rfl
  |_=>exact nn e
theorem zY:∀bs:List Bool,NZ (bs.map .bl)=b4 bs
 |[]=>rfl
 |b::bs=>by rw[zak,NZ,zY bs];rfl
def JH:List D->Option D
 |[.lst l]=>(NZ l).map λbs=>.bl<|bs.all id
 |_=>cg
def L9(z:X.calm=cp):i9 X (.builtin "all") JH:=CallR.mono (My.HL z) <| by
 rintro xs H Q ⟨A,ds,d,J,r,e,q⟩;unfold JH at e;split at e
 .obtain⟨bs,F,rfl⟩:=map_some e
  obtain⟨v,rfl,G⟩:=r.one;obtain⟨a,us,rfl,h1,B⟩:=G.lst_inv;rw[A3 F B]at h1;exact{a,bs,rfl,.inl h1,q _ H (Ext.refl _ _)<|.bl _}
 .cases e
@[simp] theorem q_all{bs:List Bool}:JH [.lst<|bs.map .bl]=b4 (.bl<|bs.all id):=by unfold JH;simp only[zY];rfl
def NX:List D->Option (List Str)
 |[]=>b4 []
 |.str b::l=>(NX l).map (b::·)
 |_=>cg
theorem zR:∀ {ds:List D} {ns:List Str} {vs:List V},NX ds=b4 ns->RepL A H ds vs->vs=ns.map V.str
 |[],_,_,e,.nil=>by cases e;rfl
 |d::ds,ns,_,e,.cons h t=>by
  cases d with
  |str b=>
   obtain⟨m,q,rfl⟩:=map_some e;cases RepB.str_inv (.of h);rw[zR q t];rfl
  |_=>exact nn e
theorem vA:∀bs:List Str,NX (bs.map .str)=b4 bs
 |[]=>rfl
 |b::bs=>by rw[zak,NX,vA bs];rfl
def wF:D->D->Option D
 |.str sep,.lst l=>(NX l).bind λss=>if(ss.map (·.length)).sum+ss.length*sep.length<=16777216 then b4 (.str<|Txt.join sep ss)else cg
 |_,_=>cg
set_option tactic.hygienic true in
def Q0(W:PB X O o fo)(U:PB X O e fe)(J:∀ {to:TE} {t:TA},PE X o to->PA X [e] t->PE X (.Call (.Attribute o "join" apos) [e] [] cpos) (tBM X.K "str" (My.rJoin X.K) to t))(hs:zah [e] X.env=(cr,eval e X.env)::zah [] X.env:=by rfl):PD X O (.Call (.Attribute o "join" apos) [e] [] cpos)<|bE wF fo fe:=
 PE.mono (J W<|BL U FU hs) <| by
  rintro σ H Q ⟨H0,A0,A,E,ρ,d,st,e,q⟩;obtain⟨x,ex,e⟩:=bind_some e;obtain⟨y,Y,e⟩:=bind_some e;refine{H0,A0,A,E,ρ,x,st,ex,λv H1 B G=>?_};unfold wF at e;split at e
  .rename_i sep l _
   obtain⟨ss,es,e⟩:=bind_some e;by_cases hz:(ss.map (·.length)).sum+ss.length*sep.length<=16777216
   .rw[cw hz]at e
    cases e;cases G.str_inv;refine{rfl,H0,A0,A,E,ρ,[.lst l],st.mono B,by unfold aE bB;rw[Y];rfl,λvs H2 x2 N=>?_};obtain⟨w,rfl,z⟩:=N.one;obtain⟨p,us,rfl,h1,F⟩:=z.lst_inv;rw[zR es F]at h1;exact{sep,p,ss,rfl,rfl,.inl h1,hz,q _ H2 (B.trans x2)<|.str _}
   .rw[cx hz]at e;cases e
  .cases e
def UK(h:(ss.map (·.length)).sum+ss.length*sep.length<=16777216):wF (.str sep) (.lst<|ss.map .str)=b4 (.str<|Txt.join sep ss):=by
 unfold wF;simp only[vA,zes];rw[cw h]
def BW:D->D->Option D
 |.int i,.int j=>b4<|.bl<|decide (i<=j)
 |.str i,.str j=>b4<|.bl<|!decide (j.cps.toList<i.cps.toList)
 |_,_=>cg
def W6:gC X (zar .LtE) BW:=OpR.mono (OpR.or ZX My.G0) <| by
 rintro x y H Q ⟨A,dx,F,d,G,B,z,e,q⟩;unfold BW at e;split at e
 .cases e
  cases B.int_inv;cases z.int_inv;exact .inl {_,_,rfl,rfl,q _ H (Ext.refl _ _)<|.bl _}
 .cases e
  cases B.str_inv;cases z.str_inv;exact .inr {_,_,rfl,rfl,q _ H (Ext.refl _ _)<|.bl _}
 .cases e
@[simp] theorem q_leAI:BW (.int i) (.int j)=b4 (.bl<|decide (i<=j)):=rfl
@[simp] theorem q_leAS:BW (.str i) (.str j)=b4 (.bl<|!decide (j.cps.toList<i.cps.toList)):=rfl
def IZ(x y:D):Option D:=match x,y with
 |.str i,.str j=>b4<|.bl<|!(zdM j i 0 j.length 1).isEmpty
 |x,y=>dIn x y
def fS(x y:D):Option D:=match x,y with
 |.str i,.str j=>b4<|.bl<|!(!(zdM j i 0 j.length 1).isEmpty)
 |x,y=>t6 x y
def VJ(F:X.A.units+64<cLine):gC X (zar .In) IZ:=OpR.mono (OpR.or (Y1 F) IE) <| by
 rintro x y H Q ⟨A,dx,J,d,G,z,B,e,q⟩;unfold IZ at e;split at e
 .cases e
  cases z.str_inv;cases B.str_inv;exact .inr {_,_,rfl,rfl,q _ H (Ext.refl _ _)<|.bl _}
 .exact .inl {A,_,_,d,G,z,B,e,q}
def IC(F:X.A.units+64<cLine):gC X (zar .NotIn) fS:=OpR.mono (OpR.or (LY F) wR) <| by
 rintro x y H Q ⟨A,dx,J,d,G,z,B,e,q⟩;unfold fS at e;split at e
 .cases e
  cases z.str_inv;cases B.str_inv;exact .inr {_,_,rfl,rfl,q _ H (Ext.refl _ _)<|.bl _}
 .exact .inl {A,_,_,d,G,z,B,e,q}
def signs(x:Str):List D:=x.cps.toList.map λc=>.str {#[c]}
def WU:BU (My.ItS x) []<|signs x:=by
 intro A H U N i;have z:(signs x).length=x.cps.size:=by simp[signs]
 refine{λhi=>by rw[z]at hi;exact hi,λd q=>?_};have hi:i<x.cps.size:=by rw[<- z];exact(List.getElem?_eq_some_iff.mp q).1
 refine{hi,λy H' ⟨e,c,F,J⟩=>?_};subst e J;have:d=.str {#[c]}:=by
  unfold signs at q;rw[zaq]at q;obtain⟨B,G,rfl⟩:=map_some q;have:x.cps[i]?=b4 B:=by rw[<- zdb];exact G
  rw[F]at this;cases this;rfl
 subst this;exact{Ext.refl _ _,.str _}
def mS(f:Ev):Lv:=λρ=>(f ρ).bind λd=>match d with
 |.lst l=>b4 l
 |.tup l=>b4 l
 |.dT l=>b4<|l.map λp=>.tup<|p.1.map nV
 |.str x=>b4<|signs x
 |_=>cg
@[simp] theorem q_lSeqA:mS f ρ=(f ρ).bind λd=>match d with
 |.lst l=>b4 l
 |.tup l=>b4 l
 |.dT l=>b4<|l.map λp=>.tup<|p.1.map nV
 |.str x=>b4<|signs x
 |_=>cg:=rfl
def LW(h:PD X O e f):PDI X O tg e<|mS f:=PI.mono (PI.or (RB h)<|My.TU h) <| by
 rintro σ H R ⟨H0,A0,A,E,ρ,items,st,e,q⟩;obtain⟨d,z,e⟩:=bind_some e;cases d with
 |str x=>
  cases e;refine .inr {H0,A0,A,E,ρ,_,st,z,λv H1 B F=>?_};cases RepB.str_inv (.of F);exact{x,rfl,q _ H1 [] B (λp G=>nomatch G) WU}
 |lst l=>exact .inl {H0,A0,A,E,ρ,items,st,by unfold N5;rw[z];exact e,q}
 |tup l=>exact .inl {H0,A0,A,E,ρ,items,st,by unfold N5;rw[z];exact e,q}
 |dT l=>exact .inl {H0,A0,A,E,ρ,items,st,by unfold N5;rw[z];exact e,q}
 |_=>exact nn e
end
structure GTup(K:zaf)(mg:Str->Option Value)(x:Str)(ss:List Str):Prop where
 ex:∃a,mg x=b4 (.ref a)/\∃(o:Obj) (its:Array Value) (n:Nat),K.lookup a=b4 o/\o.cls=.type "tuple" /\ o.data=.seq its n/\its.size<=zal/\Vals (ss.map V.str) its.toList
structure GInt(mg:Str->Option Value)(x:Str)(i:Int):Prop where
 ex:∃t,mg x=b4 (.int i t)
section
variable {X:Cx}{O:List Nat}
def mR(g:GInt X.mg x i)(z:Gl X x)(B:(x == ("__debug__" : Str))=cr:=by decide):PD X O (.Name x p)<|eC<|.int i:=by
 obtain⟨t,e⟩:=g.ex;exact PE.mono (EU (v:=.int i) z e {t,rfl} B) λσ H Q ⟨H0,A0,A,E,ρ,d,st,e,q⟩=>by cases e;exact q _ H (Ext.refl _ _)<|.int _
def SE(neg:Bool)(ss:List Str):D->Option D
 |.str s=>b4<|.bl<|if neg then !ss.contains s else ss.contains s
 |_=>cg
theorem AV(s:Str):∀ss:List Str,inV (.str s) (ss.map V.str)=ss.contains s
 |[]=>rfl
 |y::ss=>by
  have ih:=AV s ss;unfold inV at ih ⊢;rw[zak,zbC,ih,List.contains_cons];congr 1;show decide (y=s)=(s == y);by_cases h:y=s
  .subst h;simp
  .have:¬ s=y:=λz=>h z.symm
   simp[h,this]
theorem vR:∀ss:List Str,(ss.map V.str).all mV=cp
 |[]=>rfl
 |y::ss=>by rw[zak,zch,vR ss];rfl
def QI{K:zaf}(B:∃(o:Obj) (its:Array Value) (n:Nat),K.lookup a=b4 o/\o.cls=.type "tuple" /\ o.data=.seq its n/\its.size<=zal/\Vals (ss.map V.str) its.toList)(h:tD Rep O (wI (SE neg ss) f) σ H Q):YI (rIn K neg) (tD RepB O f) (tC<|.ref a) σ H Q:=by
 obtain⟨H0,A0,A,E,ρ,d,st,e,q⟩:=h;obtain⟨x,ex,e⟩:=bind_some e;refine{H0,A0,A,E,ρ,x,st,ex,λv H1 z F=>?_};cases x with
 |str s=>
  cases e;cases F.str_inv;refine{a,ss.map V.str,rfl,.inr<|.inr B,rfl,vR ss,?_};rw[AV];exact q _ H1 z<|.bl _
 |_=>exact nn e
def RV(g:GTup X.K X.mg x ss)(F:Gl X x)(z:PB X O e f)(J:(x == ("__debug__" : Str))=cr:=by decide)(q:zcf .In (.Name x p)=cr:=by rfl):pS X O (.Compare e [.In] [.Name x p] pos)<|lJ<|wI (SE cr ss) f:=by
 obtain⟨a,B,G⟩:=g.ex;exact PT.mono (E3 GZ z (EU (v:=.ref a) F B rfl J) q) λσ H Q h=>QI G<|i4 h
end
@[simp] theorem q_inG:SE neg ss (.str s)=b4 (.bl<|if neg then !ss.contains s else ss.contains s):=rfl
@[simp] theorem q_eqS:pZ (.str a) (.str b)=b4 (.bl<|decide (a=b)):=by
 unfold pZ JO;rw[cw<|.inl rfl];by_cases h:a=b
 .subst h;simp
 .have h2:¬ D.str a=D.str b:=λz=>h (by injection z)
  simp[h]
@[simp] theorem q_neS:EE (.str a) (.str b)=b4 (.bl<|!decide (a=b)):=by
 unfold EE JO;rw[cw<|.inl rfl];by_cases h:a=b
 .subst h;simp
 .have h2:¬ D.str a=D.str b:=λz=>h (by injection z)
  simp[h]
def xM{f rest:Sv}{R:D->Prop}(W:dC->Prop)(h:∃ρ',f ρ=b4 (.nx ρ')/\W ρ')(k:∀ρ',W ρ'->∃d,rest ρ'=b4 (.rt d)/\R d):∃d,bW f rest ρ=b4 (.rt d)/\R d:=by
 obtain⟨ρ',e,w⟩:=h;rw[aG e];exact k ρ' w
def U9(h0:0<=k)(h:k<(l.length:Int)):uK (.lst l) (.int k) e=b4 (.lst<|l.set k.toNat e):=by
 show(JI l.length k).map _=_;unfold JI;rw[cw h0,cw h];rfl
def at_of(h0:0<=k)(h:l[k.toNat]?=b4 d):d8 l k=b4 d:=by
 obtain⟨j,rfl⟩:∃j:Nat,k=(j:Int):={k.toNat,by lia};exact bH<|by simpa using h
def SJ(h0:0<=k)(h:k<(l.length:Int)):∃d,d∈l/\l[k.toNat]?=b4 d/\d8 l k=b4 d:=by
 have q:k.toNat<l.length:=by lia
 have e:l[k.toNat]?=b4 l[k.toNat]:=zaH q;exact{l[k.toNat],zdw q,e,at_of h0 e}
theorem xS(I:Nat->dC->Prop)(J:dC->Prop)(h:∀n ρ,I n ρ->(c ρ=b4 cp/\∃m ρ',m<n/\b ρ=b4 (.nx ρ')/\I m ρ')\/(c ρ=b4 cr/\J ρ)):∀(fuel n:Nat) (ρ:dC),n<fuel->I n ρ->∃ρ',i7 c b fuel ρ=b4 (.nx ρ')/\J ρ'
 |0,n,ρ,hn,_=>absurd hn<|ze1 n
 |fuel+1,n,ρ,hn,hi=>by
  rcases h n ρ hi with⟨z,m,ρ',G,F,q⟩|⟨z,B⟩
  .obtain⟨ρ2,e,B⟩:=xS I J h fuel m ρ' (by lia) q
   refine{ρ2,?_,B};unfold i7;rw[z,aA,cw rfl,F,aA];exact e
  .refine{ρ,?_,B}
   unfold i7;rw[z,aA,cx zat]
def HH{b rest:Sv}{R:D->Prop}(I:Nat->dC->Prop)(J:dC->Prop)(n:Nat)(B:n<100000)(h0:I n ρ)(h:∀n ρ,I n ρ->(c ρ=b4 cp/\∃m ρ',m<n/\b ρ=b4 (.nx ρ')/\I m ρ')\/(c ρ=b4 cr/\J ρ))(k:∀ρ',J ρ'->∃d,rest ρ'=b4 (.rt d)/\R d):∃d,bW (t8 c b) rest ρ=b4 (.rt d)/\R d:=by
 obtain⟨ρ',e,z⟩:=xS I J h 100000 n ρ B h0;have q:t8 c b ρ=b4 (.nx ρ'):=e;rw[aG q];exact k ρ' z
def PD.pe(h:PD X O e f):PE X e<|tD Rep O f:=h
def isStar:Expr->Bool
 |.Starred ..=>cp
 |_=>cr
def cV(h:isStar e=cr):zah (e::es) env=(cr,eval e env)::zah es env:=by
 cases e <;> first|rfl|cases h
theorem jO:∀ {es:List Expr},(es.all λe=>!isStar e)=cp->(zaJ pos<|zah es env).any (·.1)=cr
 |[],_=>by simp[zah,zaJ]
 |e::es,h=>by
  rw[zch,zaM]at h;have q:isStar e=cr:=by cases z:isStar e;rfl;rw[z]at h;exact absurd h.1<|by decide
  have ih:=jO (pos:=pos) (env:=env) (es:=es) h.2;rw[cV q];simp only[zaJ,zak,zbC,Bool.false_or]at ih ⊢;exact ih
end P
namespace My
open PySem.SeqAt
def S5(val:Nat->Int):Nat->Nat->Int->Int
 |0,_,m=>m
 |k+1,j,m=>S5 val k (j+1)<|if val j>m then val j else m
def GV(a v:Value):argsOk "max" {[a],[(zaZ "default",v)]}:=by unfold argsOk;kernel_rfl
section
variable {prog:zap}{w:World}{A:zas}{R:Result->zab->Prop}{I S:Addr}{fp wr:List Addr}{n:Nat}{P:Nat->Value->Prop}{St:Nat->Heap->Prop}{kw:List (Str×Value)}
theorem jH(W:Walks prog w A.in1 I fp wr n P St)(val:Nat->Int)(hv:∀j v,P j v->∃t,v=.int (val j) t)(nS:S∉fp):∀(k j:Nat) (s:zab) (m:Int) (t:Tok) (c:Nat),n-j=k->j<=n->St j s.heap->
  s.heap.get? S=b4 {cls:=.type "list",dict:=cg,data:=.seq #[.int m t,.int m t] c,slots:=#[]}->
  (∀t' h' tk,(∀b o,b∉wr->b≠S->s.heap.get? b=b4 o->h'.get? b=b4 o)->R (.ok<|.ret<|.int (S5 val k j m) t') {s with heap:=h',toks:=tk})->
  zbu (model prog w) A (.builtin "max.loop" {[.ref I,.none,.ref S],kw}) R s
 |k,j,s,m,t,c,hk,hj,st,gS,fin=>by
  have nw:S∉wr:=λz=>nS<|W.sub _ z
  have nm:(zb9 "max" ++ zb9 ".loop" : String) = "max.loop" := by decide
  refine zcl zfb ?_;rw[zcm zcp _];show wpAny _ A.in1 (zdy (.ref S) >>= λ_=>_) _ _ s;refine zaa<|za6 gS rfl ?_;show wpAny _ A.in1 (tryCatch (zaL<|.ref I) _ >>= λ_=>_) _ _ s
  match k,hk,fin with
  |0,hk,fin=>
   have e:j=n:=by lia
   refine zaa<|zcS<|W.done s _ _ (e ▸ st) λh1 tk same=>?_;have G:=same S _ nw gS;show wpAny _ A.in1 (zcQ S (λ_=>#[]) >>= λ_=>_) _ _ _;refine zaa<|zcx G rfl<|zaa<|zbx<|zac ?_;exact fin t _ tk λb o nb B N=>(zbM _ _<|zaS B).trans<|same b o nb N
  |k+1,hk,fin=>
   have lt:j<n:=by lia
   refine zaa<|zcS<|W.item j s _ _ lt st λv h1 tk pv U same=>?_;have G:=same S _ nw gS;obtain⟨u,rfl⟩:=hv j v pv;show wpAny _ A.in1 (tryCatch (zcr [.int (val j) u,.int (val j) u]<|richCompare .Gt (.int (val j) u) (.int m t) >>= λ_=>_) _ >>= λ_=>_) _ _ _;refine zaa<|zcS<|zbn<|zaa ?_;refine richCompare_gives (op:=.Gt) (zcI _ _ u) (zcI _ _ t) PySem.F.slot_int_gt PySem.F.entry_int_gt (PySem.F.args_int_gt_2 _ _) (gives_int_gt _ _ u t) (λz=>nomatch z) ?_;refine zaa<|zbn<|zbz ?_;refine zaa<|zbx<|zac ?_;by_cases Y:val j>m
   .rw[decide_eq_true Y]
    simp only[if_true];refine zaa<|zcx G rfl<|zaa<|zbx ?_;rw[nm];refine zac {zbE zcp _,jH W val hv nS k (j+1) _ (val j) u _ (by lia) lt (W.frame _ _ _ U λb bf o N=>?_) (zbU _ G rfl) λt' h2 J q=>?_}
    .exact(zbM _ _ λz:S=b=>nS<|z ▸ bf).trans N
    .have:=fin t' h2 J λb o nb B N=>q b o nb B ((zbM _ _<|zaS B).trans<|same b o nb N)
     rw[S5,cw Y]at this;exact this
   .rw[decide_eq_false Y]
    simp only[zb5,if_false];refine zaa<|zbx ?_;rw[nm];refine zac {zbE zcp _,jH W val hv nS k (j+1) _ m t c (by lia) lt U G λt' h2 J q=>?_};have:=fin t' h2 J λb o nb B N=>q b o nb B<|same b o nb N
    rw[S5,cx Y]at this;exact this
def CY(W:Walks prog w A.in1 I fp wr n P St)(val:Nat->Int)(hv:∀j v,P j v->∃t,v=.int (val j) t)(U:S∉fp)(st:St 0 s.heap)
  (Y:s.heap.get? S=b4 {cls:=.type "list",dict:=cg,data:=.seq #[] c,slots:=#[]})
  (f0:n=0->∀h' tk,(∀b o,b∉wr->b≠S->s.heap.get? b=b4 o->h'.get? b=b4 o)->R (.ok<|.ret dv) {s with heap:=h',toks:=tk})
  (fin:0<n->∀t' h' tk,(∀b o,b∉wr->b≠S->s.heap.get? b=b4 o->h'.get? b=b4 o)->R (.ok<|.ret<|.int (S5 val (n-1) 1<|val 0) t') {s with heap:=h',toks:=tk}) :
  zbu (model prog w) A (.builtin "max.loop" {[.ref I,.none,.ref S],[(zaZ "default",dv)]}) R s:=by
 have nw:S∉wr:=λz=>U<|W.sub _ z
 have nm:(zb9 "max" ++ zb9 ".loop" : String) = "max.loop" := by decide
 refine zcl zfb ?_;rw[zcm zcp _];show wpAny _ A.in1 (zdy (.ref S) >>= λ_=>_) _ _ s;refine zaa<|za6 Y rfl ?_;show wpAny _ A.in1 (tryCatch (zaL<|.ref I) _ >>= λ_=>_) _ _ s;by_cases h0:n=0
 .refine zaa (zcS<|W.done s _ _ (h0 ▸ st) λh1 tk same=>?_)
  refine zaa<|zbV<|zac ?_;exact f0 h0 _ tk λb o nb B G=>same b o nb G
 .have lt:0<n:=Nat.pos_of_ne_zero h0
  refine zaa<|zcS<|W.item 0 s _ _ lt st λv h1 tk pv N same=>?_;have F:=same S _ nw Y;obtain⟨u,rfl⟩:=hv 0 v pv;show wpAny _ A.in1 (zcQ S (λ_=>#[.int (val 0) u,.int (val 0) u]) >>= λ_=>_) _ _ _;refine zaa<|zcx F rfl ?_;rw[nm];refine zac {zbE zcp _,jH W val hv U (n-1) 1 _ (val 0) u _ rfl lt (W.frame _ _ _ N λb bf o G=>?_) (zbU _ F rfl) λt' h2 J q=>?_}
  .exact(zbM _ _ λz:S=b=>U<|z ▸ bf).trans G
  .exact fin lt t' h2 J λb o nb B G=>q b o nb B<|(zbM _ _<|zaS B).trans<|same b o nb G
end
def pY(d:Int):List Int->Int
 |[]=>d
 |x::xs=>xs.foldl (λm y=>if y>m then y else m) x
theorem tQ(ns:List Int):∀(k j:Nat) (m:Int),ns.length-j=k->S5 (λi=>(ns[i]?).getD 0) k j m=(ns.drop j).foldl (λm y=>if y>m then y else m) m
 |0,j,m,h=>by
  rw[List.drop_eq_nil_iff.mpr<|by lia];rfl
 |k+1,j,m,h=>by
  have q:j<ns.length:=by lia
  rw[S5,zep q,zcw,tQ ns k (j+1) _<|by lia];simp[q]
section
variable {X:Cx}
def CM(hc:X.calm=cp)(I:Inv X pins σ H s)(hq:SqL X.K H p<|ns.map V.int)(q:Q (.int<|pY d ns) H) :
  wpAny (model X.prog X.w) X.A (call (.builtin "max") [.ref p] [(zaZ "default",.int d t)]) (EP X pins σ Q) X.xe s:=by
 have nm:(zb9 "max" ++ zb9 ".loop" : String) = "max.loop" := by decide
 obtain⟨G,U,pl,hz⟩:=I.list hq;have J:s.heap.IsList p G.toArray:=pl.isList;obtain⟨o,Y,aa,n,hd⟩:=id J;have N:p≠s.heap.objs.size:=zaB<|zai Y;have W:=Walks.list (prog:=X.prog) (w:=X.w) (A:=X.A.in1) (I.ok.hd hc) s.heap.objs.size p N G.toArray;refine kmk_tree PySem.F.kind_max PySem.F.plain_max PySem.F.entry_max (GV _ _) ?_;show wpAny _ X.A.in1 (zeA "max" ["key", "default"] 0 {[],[(zaZ "default",.int d t)]} >>= λ_=>_) _ _ s;refine zaa<|zdt (show zeA "max" ["key", "default"] 0 {[],[(zaZ "default",.int d t)]}=pure [cg,b4<|.int d t]from rfl) ?_;refine zaa<|zac<|zaa<|zcd J<|zaa<|zee ?_<|za1 _;rw[nm];refine zac {zbE zcp _,?_};have B:=U.length;rw[zaj]at B;have sz:G.toArray.size=ns.length:=by rw[zaC];exact B.symm
 have keep:∀h':Heap,(∀b o,b∉[s.heap.objs.size]->b≠(s.heap.push {cls:=.type "list_iterator",data:=.fields #[.ref p,.int 0 0]}).objs.size->((s.heap.push {cls:=.type "list_iterator",data:=.fields #[.ref p,.int 0 0]}).push<|za2 "list" #[] 0).get? b=b4 o->h'.get? b=b4 o)->∀b o,s.heap.get? b=b4 o->h'.get? b=b4 o:=λh' k b o e=>by
  have lt:=zai e;refine k b o (λz=>zaB lt<|List.mem_singleton.mp z) ?_<|zag _<|zag _ e;rw[size_push'];exact zaB<|Nat.lt_succ_of_lt lt
 refine CY W (λi=>(ns[i]?).getD 0) (λi v hP=>zV U<|by simpa using hP) (S:=(s.heap.push {cls:=.type "list_iterator",data:=.fields #[.ref p,.int 0 0]}).objs.size) ?_ ?_ (zau _ rfl) (λh0 h' tk same=>?_) λh0 t' h' tk same=>?_
 .rw[size_push']
  intro z;rcases List.mem_cons.mp z with z|z
  .exact zaK (zde _) z
  .exact zbe _<|zcM (zde _)<|(List.mem_singleton.mp z) ▸ zai Y
 .exact{{_,zag _<|zau _ rfl,rfl,rfl},J.at λo e=>zag _<|zag _ e}
 .have e0:ns=[]:=List.length_eq_zero_iff.mp (by lia)
  subst e0;exact{.int d,H,I.kept (t':=tk)<|keep h' same,{t,rfl},q}
 .refine{.int<|pY d ns,H,I.kept (t':=tk)<|keep h' same,{t',?_},q}
  rw[sz];cases ns with
  |nil=>rw[sz]at h0;exact absurd h0<|zbe 0
  |cons x xs=>
   rw[tQ (x::xs) _ 1 _<|by simp];rfl
end
end My
namespace P
section
variable {X:Cx}{O:List Nat}
def GI(x y:D):Option D:=match x,y with
 |.lst l,.int d=>(f7 l).map λns=>.int<|My.pY d ns
 |_,_=>cg
@[simp] theorem q_maxD:GI (.lst<|ns.map .int) (.int d)=b4 (.int<|My.pY d ns):=by unfold GI;simp only[iK];rfl
theorem OS(hc:X.calm=cp)(hg:Gl X "max")(hm:X.mg "max" = cg)(he:PB X O e fe)(hd:PD X O ed fd)(hs:isStar e=cr):PD X O (.Call (.Name "max" p) [e] [{b4 "default",ed,kp}] pos)<|bE GI fe fd:=by
 intro pins s σ H Q I h;obtain⟨H0,A0,A,E,ρ,d,st,z,q⟩:=h;obtain⟨x,ex,z⟩:=bind_some z;obtain⟨y,ey,z⟩:=bind_some z;refine zdQ (fZ I hg hm My.boot_max ?_ (by decide)<|by decide);refine PyProof.Rows.callWith_kw (bN (fQ he k9 (cV hs) pos pins s σ H (λvs H1=>∃v,vs=[v]/\RepB A H1 x v/\Ext A H H1) I {H0,A0,A,E,ρ,x,st,ex,λv H1 F J=>{v,rfl,J,F}}) λus Y ⟨vs,H1,W,J,v,ev,rv,F⟩=>?_) (by rw[cV hs];rfl) (jO<|by simp[hs]);subst ev;refine bN (PY (nm:=b4 "default") (kpos:=kp) hd VO pos pins Y σ H1 (λvs H2=>∃w,vs=[w]/\Rep A H2 y w/\Ext A H1 H2) W {H0,A0,A,E,ρ,y,st.mono F,ey,λw H2 B N=>{w,rfl,N,B}}) λws s2 ⟨zs,H2,I2,N,w,ew,U,B⟩=>?_
 subst ew;unfold GI at z;split at z
 .obtain⟨ns,e1,rfl⟩:=map_some z
  obtain⟨a,ai,rfl,h1,r3⟩:=(rv.ext B).lst_inv;rw[eN e1 r3]at h1;cases U;obtain⟨u,rfl,ru⟩:=vals1 J;cases ru;obtain⟨u2,rfl,G⟩:=vals1 N;obtain⟨t,rfl⟩:=G;exact My.CM hc I2 (.inl h1)<|q _ H2 (F.trans B)<|.int _
 .cases z
end
end P
namespace My
open PySem.SeqAt
def iG:entryFor table "dict.update.loop" = b4 zbc.«dict.update.loop»:=entryFor_of_tree<|by kernel_rfl
def cP:plainId "dict.update.loop" = cp:=by decide +kernel
def qR:typeLookup (.type "list") (zaZ "keys")=pure cg:=by rw[typeLookup_type,builtinLookup_eq_fast];kernel_rfl
def pU:typeLookup (.type "tuple") (zaZ "keys")=pure cg:=by rw[typeLookup_type,builtinLookup_eq_fast];kernel_rfl
section
variable {prog:zap}{w:World}{A:zas}{E:Value->zab->Prop}{s:zab}
def qN(G:s.heap.get? a=b4 o)(J:o.cls=.type "list")(q:o.data=.seq xs k)(N:o.dict=cg)(hA:A.handled=cg)
  (h:∀h' tk,(∀b o,s.heap.get? b=b4 o->h'.get? b=b4 o)->Q cg {s with heap:=h',toks:=tk}):wpAny (model prog w) A (getAttr? (.ref a) "keys") Q E s:=by
 obtain⟨c,ab,W,U⟩:=o;simp only at J q N;subst J q N;obtain⟨Y,g,d,tk,os⟩:=s;have hT:∀z,({Y,g,d,z,os}:zab).TypeIs (.ref a) "list" := λ_=>{_,G,rfl}
 have f1:=sub_AttributeError;have f3:=PySem.F.slot_list_getattribute.lookup;have f4:=PySem.F.slot_list_getattribute.bind<|.ref a;have f5:=am_list_getattr_none;unfold getAttr? getAttrBy? getAttrBy
 repeat (any_goals (first|assumption|exact hT _|((with_reducible show wpAny _ _ (call (Value.builtin "list.__getattribute__") _ _) _ _ _);refine zci PySem.F.slot_list_getattribute (hT _) am_entry_list_getattribute (PySem.F.args_list_getattribute_2 _ _) (meets_getattribute_miss_list a xs k U (zaZ "keys") _ qR (by decide)<|by size_fits) {G,hA,λh' z e B=>?_})|wp_step))
 obtain⟨t',u',he⟩:=B.there;show wpAny _ _ (zeB _ _ _ _ _ _ _) _ _ _;unfold zeB
 repeat (any_goals (first|assumption|wp_step))
 exact h _ _ B.keeps
def pW(G:s.heap.get? a=b4 o)(J:o.cls=.type "tuple")(q:o.data=.seq xs k)(N:o.dict=cg)(hA:A.handled=cg)
  (h:∀h' tk,(∀b o,s.heap.get? b=b4 o->h'.get? b=b4 o)->Q cg {s with heap:=h',toks:=tk}):wpAny (model prog w) A (getAttr? (.ref a) "keys") Q E s:=by
 obtain⟨c,ab,W,U⟩:=o;simp only at J q N;subst J q N;obtain⟨Y,g,d,tk,os⟩:=s;have hT:∀z,({Y,g,d,z,os}:zab).TypeIs (.ref a) "tuple" := λ_=>{_,G,rfl}
 have f1:=sub_AttributeError;have f3:=PySem.F.slot_tuple_getattribute.lookup;have f4:=PySem.F.slot_tuple_getattribute.bind<|.ref a;have f5:=am_tuple_getattr_none;unfold getAttr? getAttrBy? getAttrBy
 repeat (any_goals (first|assumption|exact hT _|((with_reducible show wpAny _ _ (call (Value.builtin "tuple.__getattribute__") _ _) _ _ _);refine zci PySem.F.slot_tuple_getattribute (hT _) am_entry_tuple_getattribute (PySem.F.args_tuple_getattribute_2 _ _) (meets_getattribute_miss_tuple a xs k U (zaZ "keys") _ pU (by decide)<|by size_fits) {G,hA,λh' z e B=>?_})|wp_step))
 obtain⟨t',u',he⟩:=B.there;show wpAny _ _ (zeB _ _ _ _ _ _ _) _ _ _;unfold zeB
 repeat (any_goals (first|assumption|wp_step))
 exact h _ _ B.keeps
end
section
variable {X:Cx}{pins:List (Addr×Obj)}{σ:L2.St}{H:Hp}{s:zab}{a:Addr}{y v:V}{u r:Value}{A:zas}{E:Value->zab->Prop}
def HB(hu:A.units+1<cLine)(I:Inv X pins σ H s)(g:DPut H a y v H')(ry:RelV y u)(rv:RelV v r)(h:∀h' t',Inv X pins σ H' {s with heap:=h',toks:=t'}->zaT a s.heap h'->Q () {s with heap:=h',toks:=t'}) :
  wpAny (model X.prog X.w) A (dictSet a u r) Q E s:=by
 rcases g with⟨kvs,k,e,U,l,J⟩|⟨kvs,k,b,e,U,eb,l,J⟩
 .subst U J
  obtain⟨z,W,vs,B,dd⟩:=NN I.hok e;have hz:vs.length<=zal:=by rw[<- B.length];exact z
  have N:(putK kvs k v).length<=zal:=by have:=cR kvs k v;lia
  refine wpAny_dictSet_pairs (hsz:=hz) (mT ry) dd λh' F hs=>h _ _ ?_ hs
  have he:∃q,h'.get? a=b4 q:=let ⟨q,_,_,G,_⟩:=F;{q,G};exact jL I (by rw[e];exact zbi) hs he<|DU N W (B.put k rv) F
 .subst U J
  cases(show u=zao b from ry);obtain⟨z,W,xs,B,dd⟩:=NV I.hok e;have hz:xs.length<=zal:=by rw[<- zbQ B];exact z
  have N:(putK kvs k v).length<=zal:=by have:=cR kvs k v;lia
  refine wpAny_dictSet_heap (hsz:=hz) (show A.units<cLine by lia) (hV I.hok eb) dd λh' F hs=>h _ _ ?_ hs
  obtain⟨q,es,ep,G,h2,h3,h4,_,h5⟩:=F;refine jL I (by rw[e];exact zbi) hs {q,G} {N,W,_,(B.put k eb rv).keeps λc ys Y=>?_,q,es,ep,G,h2,h3,h4,h5};rw[aF<|GE Y e λz=>nomatch z];exact Y
end
inductive Puts(d:Addr):Hp->List (V×V)->Hp->Prop where
 | nil {H:Hp}:Puts d H [] H
 | cons {H H1 H2:Hp} {y v:V} {l:List (V×V)} (h:DPut H d y v H1) (t:Puts d H1 l H2):Puts d H ((y,v)::l) H2
def BE(g:DPut H a y v H'):(∃u,H a=b4 u/\(∀xs,u≠.tup xs)/\∀o w,u≠.frz o w)/\∀b,b≠a->H' b=H b:=by
 rcases g with⟨kvs,k,e,F,l,B⟩|⟨kvs,k,b,e,F,G,l,B⟩
 .subst B;exact{{_,e,(λ_ z=>nomatch z),(λ_ _ z=>nomatch z)},λb q=>aF q}
 .subst B;exact{{_,e,(λ_ z=>nomatch z),(λ_ _ z=>nomatch z)},λb q=>aF q}
def JV{K:zaf}{H H':Hp}{a:Addr}{y v:V}(g:DPut H a y v H'){b:Addr}{xs:List V}(h:SqT K H b xs):SqT K H' b xs:=by
 obtain⟨⟨u,e,B,q⟩,same⟩:=BE g;rcases h with(h|⟨o,h⟩)|h
 .exact .inl<|.inl<|by rw[same b λz=>by rw[z,e]at h;exact B _<|zaD h];exact h
 .exact .inl<|.inr {o,by rw[same b λz=>by rw[z,e]at h;exact q _ _<|zaD h];exact h}
 .exact .inr h
section
variable {X:Cx}{pins:List (Addr×Obj)}{σ:L2.St}{A:zas}{R:Result->zab->Prop}{it d:Addr}{fp:List Addr}{n:Nat}{P:Nat->Value->Prop}{St:Nat->Heap->Prop}{H2:Hp}
theorem kM(W:Walks X.prog X.w A.in1 it fp [it] n P St)(hd:d∉fp)(hu:A.in1.units+1<cLine)(fin:∀s',Inv X pins σ H2 s'->R (.ok<|.ret .none) s'):∀(l:List<|V×V) (j:Nat) (s:zab) (H:Hp) (t:Tok) (i:Int),n-j=l.length->j<=n->St j s.heap->Inv X pins σ H s->jA X pins H it->
  (∀(m:Nat) (p:V×V) (v:Value),l[m]?=b4 p->P (j+m) v->∃b,v=.ref b/\SqT X.K H b [p.1,p.2])->Puts d H l H2->
  zbu (model X.prog X.w) A (.builtin "dict.update.loop" {[.ref d,.ref it,.int i t,.none],[]}) R s
 |[],j,s,H,t,i,hn,hj,st,I,fo,facts,pu=>by
  cases pu;obtain⟨B,N,f2,F,J,G⟩:=fo;have e:j=n:=by simp at hn;lia
  subst e;refine zcl iG ?_;rw[zcm cP _];show wpAny _ A.in1 (zaL (.ref it) >>= λ_=>_) _ _ s;refine zaa<|W.done s _ _ st λh1 tk same=>?_;show wpAny _ _ (Builtin.Dict.addKeywords d [] >>= _) _ _ _;exact zaa<|zac<|zac<|fin _<|I.turned (t':=tk) (λb o U e=>same b o (by simpa using U) e) B N F J G
 |(y,v)::l,j,s,H,t,i,hn,hj,st,I,fo,facts,pu=>by
  obtain⟨B,N,f2,F,J,G⟩:=id fo;cases pu with
  |@cons _ H1 _ _ _ _ dp pu=>
  have lt:j<n:=by rw[zaU]at hn;lia
  refine zcl iG ?_;rw[zcm cP _];show wpAny _ A.in1 (zaL (.ref it) >>= λ_=>_) _ _ s;refine zaa<|W.item j s _ _ lt st λv1 h1 tk pv aa same=>?_;obtain⟨b,rfl,sq⟩:=facts 0 (y,v) v1 rfl pv;have I1:Inv X pins σ H {s with heap:=h1,toks:=tk}:=I.turned (t':=tk) (λb o U e=>same b o (by simpa using U) e) B N F J G;obtain⟨an,rv,ht,hz⟩:=I1.tuple sq;cases rv with
  |@cons _ u _ us ru rt=>
  cases rt with
  |@cons _ r _ us2 rr rt2=>
  cases rt2;obtain⟨o,ho,hc,nn,Y⟩:=id ht;show wpAny _ A.in1 (zcr [zao b] _ >>= λ_=>_) _ _ _;refine zaa<|zbn ?_;refine zaa<|zcS ?_;unfold Builtin.Dict.pairItems;refine zaa<|zcu ht.typeIs ?_;rw[cw<|by decide];refine zaa<|za6 ho Y<|zac ?_;show wpAny _ A.in1 (zcr [u,r]<|dictSet d u r) _ _ _;refine zbn<|HB hu I1 dp ru rr λh2 t2 I2 sb=>?_;obtain⟨⟨uo,eu,_,_⟩,q⟩:=BE dp;have nd:it≠d:=λz=>by rw[<- z,B]at eu;cases eu
  refine zac {zbE cP _,kM W hd hu fin l (j+1) _ H1 _ _ (by rw[zaU]at hn;lia) lt (W.frame _ _ _ aa λb bf o eb=>?_) I2 {by rw[q it nd];exact B,N,f2,F,J,G} (λm p v2 hm hp=>?_) pu}
  .exact(sb.2 b λz=>hd<|z ▸ bf).trans eb
  .obtain⟨c,e,sq⟩:=facts (m+1) p v2 (by simpa using hm) (by rw[show j+(m+1)=j+1+m by lia];exact hp)
   exact{c,e,JV dp sq}
end
section
variable {X:Cx}
def Src(X:Cx)(H:Hp)(p:Addr)(ys:List V):Prop:=SqL X.K H p ys\/Rd H p (.tup ys)
def CI(hc:X.calm=cp)(hu:X.A.units+64<cLine):CallR X (.type "dict") λxs H Q=>∃p ys l,xs=[.ref p]/\Src X H p ys/\l.length=ys.length/\(∀(m:Nat) (pr:V×V),l[m]?=b4 pr->∃b,ys[m]?=b4 (.ref b)/\SqT X.K H b [pr.1,pr.2]) /\
  ∀q,H q=cg->∃H2,(Puts q (upd H q<|.dK []) l H2\/Puts q (upd H q<|.dT []) l H2)/\Q (.ref q) H2:=by
 intro pins s σ H xs us Q I r h;obtain⟨p,ys,l,rfl,src,hl,ai,q⟩:=h;obtain⟨u,rfl,rx⟩:=vals1 r;cases rx;obtain⟨H2,pu,q⟩:=q s.heap.objs.size<|I.hok.fresh<|zam _;refine callType_codes (Q₁:=λam ac=>am=.ref s.heap.objs.size/\ac={s with heap:=s.heap.push {cls:=.type "dict",data:=.dict #[]} }) PySem.F.kt_called_dict (PySem.F.kt_typeCall_dict_1 _) PySem.F.entry_dict_init (kt_code_dict_new _ {rfl,rfl}) ?_;rintro am ac ⟨rfl,rfl⟩;have n1:(s.heap.push {cls:=.type "dict",data:=.dict #[]}).get? s.heap.objs.size=b4 {cls:=.type "dict",data:=.dict #[]}:=zau _ rfl;have t1:zec {s with heap:=s.heap.push {cls:=.type "dict",data:=.dict #[]} } (.ref s.heap.objs.size) "dict" := {_,n1,rfl};refine{t1,PySem.F.args_dict_init_2 _ _,?_};unfold zbc.«dict.__init__»;refine zaa ?_;unfold Builtin.Dict.selfAndRest;refine zaa<|zd1 t1 ?_;show wpAny _ _ (pure (s.heap.objs.size,[zao p])) _ _ _;refine zac ?_;show wpAny _ _ (zef "dict.__init__" s.heap.objs.size (.ref p) [] .none) _ _ _;unfold zef;obtain⟨u0,a6,IK,pu⟩:∃u0:HO,(u0=.dK []\/u0=.dT [])/\Inv X pins σ (upd H s.heap.objs.size u0) {s with heap:=s.heap.push {cls:=.type "dict",data:=.dict #[]} }/\Puts s.heap.objs.size (upd H s.heap.objs.size u0) l H2:=by
  rcases pu with pu|pu
  .exact{_,.inl rfl,I.laid (a:=s.heap.objs.size) (o:=.dK []) (h':=s.heap.push {cls:=.type "dict",data:=.dict #[]}) (t':=s.toks) (λ_ _ q=>zag _ q) (zam _)<|tR s.heap I.big,pu}
  .exact{_,.inr rfl,I.laid (a:=s.heap.objs.size) (o:=.dT []) (h':=s.heap.push {cls:=.type "dict",data:=.dict #[]}) (t':=s.toks) (λ_ _ q=>zag _ q) (zam _)<|tO s.heap I.big,pu}
 have al:∀b u,H b=b4 u->b≠s.heap.objs.size:=λb u e z=>zbe _<|by have:=(I.hok b u e).lt;rw[z]at this;exact this
 have aj:∀ {b:Addr} {zs:List V},SqT X.K H b zs->SqT X.K (upd H s.heap.objs.size u0) b zs:=λ{b zs} h=>by
  rcases h with(h|⟨o,h⟩)|h
  .exact .inl<|.inl<|by rw[aF<|al _ _ h];exact h
  .exact .inl<|.inr {o,by rw[aF<|al _ _ h];exact h}
  .exact .inr h
 have ao:∀ {o:Obj},s.heap.get? p=b4 o->p<s.heap.objs.size:=λe=>zai e
 rcases src with sq|sq
 .obtain⟨U,rv,pl,hz⟩:=I.list sq
  obtain⟨o,n,ho,G,ag,J⟩:=id pl;have Y:=rv.length;have B:(s.heap.push {cls:=.type "dict",data:=.dict #[]}).get? p=b4 o:=zag _ ho;refine zaa<|zcu (s:={s with heap:=s.heap.push {cls:=.type "dict",data:=.dict #[]} }) {o,B,G} ?_;rw[cw<|by decide];refine zaa<|qN (s:={s with heap:=s.heap.push {cls:=.type "dict",data:=.dict #[]} }) B G J ag (I.ok.hd hc) λh' tk keep=>?_;simp only[Option.isNone_none,if_true];refine zaa<|zbV<|zaa<|zcd (s:={s with heap:=h',toks:=tk}) (items:=U.toArray) {o,keep _ _ B,G,n,J} ?_;have N:Inv X pins σ (upd H s.heap.objs.size u0) {s with heap:=h',toks:=tk}:=IK.kept (t':=tk) keep;have ah:Inv X pins σ (upd H s.heap.objs.size u0) {s with heap:=h'.push {cls:=.type "list_iterator",data:=.fields #[.ref p,.int 0 0]},toks:=tk}:=N.kept (t':=tk) λb o e=>zag _ e
  have lp:p<h'.objs.size:=zai<|keep _ _ B;have ld:s.heap.objs.size<h'.objs.size:=zai<|keep _ _ n1;have W:=Walks.list (prog:=X.prog) (w:=X.w) (A:=X.A.in1.in1) (I.ok.hd hc) h'.objs.size p (zaB lp) U.toArray;refine zac {zbE cP _,kM (X:=X) (pins:=pins) (σ:=σ) (H2:=H2) W (d:=s.heap.objs.size) ?_ (by show X.A.units+1+1+1<cLine;lia) ?_ l 0 _ _ _ _ ?_ (za1 _) ?_ ah ?_ ?_ pu}
  .intro z
   rcases List.mem_cons.mp z with z|z
   .exact zaB ld z
   .exact zaK (ao ho)<|List.mem_singleton.mp z
  .exact λs' I'=>{rfl,.ref s.heap.objs.size,H2,I',rfl,q}
  .rw[zaC,<- Y,hl];lia
  .exact{{_,zau _ rfl,rfl,rfl},{o,zag _<|keep _ _ B,G,n,J}}
  .exact N.fpOk (zam _)<|N.hok.fresh<|zam _
  .intro m pr v hm hv
   obtain⟨b,e1,e2⟩:=ai m pr hm;rw[zcR]at hv;refine{b,?_,aj e2};obtain⟨w',hw,ae⟩:=rv.get e1;rw[List.getElem?_toArray,hw]at hv;cases(show w'=zao b from ae);exact(zaD hv).symm
 .obtain⟨hz,U,rv,o,ho,G,n,J,ag⟩:=(show ObjOk X.prog X.w H s.heap p (.tup ys)from sq.ok I.hok)
  have Y:=rv.length;have B:(s.heap.push {cls:=.type "dict",data:=.dict #[]}).get? p=b4 o:=zag _ ho;refine zaa<|zcu (s:={s with heap:=s.heap.push {cls:=.type "dict",data:=.dict #[]} }) {o,B,G} ?_;rw[cw<|by decide];refine zaa<|pW (s:={s with heap:=s.heap.push {cls:=.type "dict",data:=.dict #[]} }) B G J ag (I.ok.hd hc) λh' tk keep=>?_;simp only[Option.isNone_none,if_true];refine zaa<|zbV<|zaa<|zbS (s:={s with heap:=h',toks:=tk}) (items:=U.toArray) {o,keep _ _ B,G,n,J} ?_;have N:Inv X pins σ (upd H s.heap.objs.size u0) {s with heap:=h',toks:=tk}:=IK.kept (t':=tk) keep;have ah:Inv X pins σ (upd H s.heap.objs.size u0) {s with heap:=h'.push {cls:=.type "tuple_iterator",data:=.fields #[.ref p,.int 0 0]},toks:=tk}:=N.kept (t':=tk) λb o e=>zag _ e
  have lp:p<h'.objs.size:=zai<|keep _ _ B;have ld:s.heap.objs.size<h'.objs.size:=zai<|keep _ _ n1;have W:=Walks.tuple (prog:=X.prog) (w:=X.w) (A:=X.A.in1.in1) (I.ok.hd hc) h'.objs.size p (zaB lp) U.toArray;refine zac {zbE cP _,kM (X:=X) (pins:=pins) (σ:=σ) (H2:=H2) W (d:=s.heap.objs.size) ?_ (by show X.A.units+1+1+1<cLine;lia) ?_ l 0 _ _ _ _ ?_ (za1 _) ?_ ah ?_ ?_ pu}
  .intro z
   rcases List.mem_cons.mp z with z|z
   .exact zaB ld z
   .exact zaK (ao ho)<|List.mem_singleton.mp z
  .exact λs' I'=>{rfl,.ref s.heap.objs.size,H2,I',rfl,q}
  .rw[zaC,<- Y,hl];lia
  .exact{{_,zau _ rfl,rfl,rfl},{o,zag _<|keep _ _ B,G,n,J}}
  .exact N.fpOk (zam _)<|N.hok.fresh<|zam _
  .intro m pr v hm hv
   obtain⟨b,e1,e2⟩:=ai m pr hm;rw[zcR]at hv;refine{b,?_,aj e2};obtain⟨w',hw,ae⟩:=rv.get e1;rw[List.getElem?_toArray,hw]at hv;cases(show w'=zao b from ae);exact(zaD hv).symm
end
section
variable {X:Cx}
def V6(h:H2 q=b4 u)(k:∀b,b≠q->H2 b=H b):H2=upd H q u:=funext λb=>by
 by_cases e:b=q
 .subst e;rw[aI];exact h
 .rw[aF e];exact k b e
def tZ{κ:Type}[DecidableEq κ](kvs more:List<|κ×V):List<|κ×V:=more.foldl (λq z=>putK q z.1 z.2) kvs
theorem MU:∀(prs:List<|List Key×V) (as:List Addr) (H:Hp) (xs:List<|List Key×V),H q=b4 (.dT xs)->xs.length+prs.length<zal->zaV (λ(p:List Key×V) (b:Addr)=>H b=b4 (.tup<|p.1.map kV)) prs as->∃H2,Puts q H ((prs.zip as).map λp=>(V.ref p.2,p.1.2)) H2/\H2 q=b4 (.dT<|tZ xs prs)/\∀b,b≠q->H2 b=H b
 |_,_,H,xs,e,hl,.nil=>{H,.nil,e,λ_ _=>rfl}
 |p::prs,b::as,H,xs,e,hl,.cons hp t=>by
  have J:=cR xs p.1 p.2;rw[zaU]at hl;obtain⟨H2,F,G,k⟩:=MU prs as (upd H q<|.dT<|putK xs p.1 p.2) (putK xs p.1 p.2) aI (by lia) (Paired.mapP t λp c z=>by rw[aF<|GE z e λz=>nomatch z];exact z);exact{H2,.cons (DPut.t e hp<|by lia) F,G,λb B=>(k b B).trans<|aF B}
end
end My
namespace P
section
variable {X:Cx}{A:Av}{H:Hp}
def JB:List D->Option (List<|List Key×D)
 |[]=>b4 []
 |.tup [k,v]::l=>(B2 k).bind λkk=>(JB l).map λr=>(kk,v)::r
 |_=>cg
def uF{κ:Type}[DecidableEq κ](l more:List<|κ×D):List<|κ×D:=more.foldl (λm p=>putD m p.1 p.2) l
def QM{κ:Type}[DecidableEq κ]{more:List (κ×D)}{ys:List (κ×V)}(h:PP A H more ys):∀ {l:List (κ×D)} {xs:List (κ×V)},PP A H l xs->PP A H (uF l more) (My.tZ xs ys):=by
 induction h with
 |nil=>intro l xs q;exact q
 |@cons p q ps qs h t ih=>
  intro l xs z;have:=ih<|DI p.1 h.2 z;rw[show uF l (p::ps)=uF (putD l p.1 p.2) ps from rfl,show My.tZ xs (q::qs)=My.tZ (putK xs q.1 q.2) qs from rfl,<- h.1];exact this
set_option tactic.hygienic true in
theorem AE:∀ {l:List D} {kvs:List (List Key×D)} {xs:List V},JB l=b4 kvs->RepL A H l xs->∃(q:List<|List Key×V) (as:List Addr),PP A H kvs q/\q.length=xs.length/\zaV (λ(p:List Key×V) (b:Addr)=>H b=b4 (.tup<|p.1.map kV)) q as/\∀(m:Nat) (z:V×V),((q.zip as).map λp=>(V.ref p.2,p.1.2))[m]?=b4 z->∃b,xs[m]?=b4 (.ref b)/\H b=b4 (.tup [z.1,z.2])
 |_,kvs,_,e,.nil=>by cases e;exact{[],[],.nil,rfl,.nil,λm z h=>by simp at h}
 |d::l,kvs,v::xs,e,.cons h t=>by
  unfold JB at e;split at e
  .cases ‹_::_=[]›
  .rename_i k w l' heq
   injection heq with h1 h2
   subst h1 h2;obtain⟨U,e1,e⟩:=bind_some e;obtain⟨r,e2,rfl⟩:=map_some e;obtain⟨q,as,F,Y,J,W⟩:=AE e2 t;obtain⟨a,zs,rfl,G,B⟩:=RepB.tup_inv<|.of h;cases B with
   |@cons _ z1 _ zs1 q1 B=>
   cases B with
   |@cons _ z2 _ zs2 q2 B=>
   cases B;obtain⟨b,rfl,N⟩:=qD e1<|.of q1;refine{(U,z2)::q,b::as,.cons {rfl,q2} F,by simp[Y],.cons N J,λm z h=>?_};cases m with
   |zero=>simp at h;subst h;exact{a,rfl,G}
   |succ m=>exact W m z<|by simpa using h
  .cases e
def SZ:D->Option (List D)
 |.lst l=>b4 l
 |.tup l=>b4 l
 |_=>cg
def yA:List D->Option D
 |[.dT l]=>GG [.dT l]
 |[d]=>(SZ d).bind λl=>if a7 l.length then(JB l).map λkvs=>.dT (uF [] kvs)else cg
 |_=>cg
def LX(h:SZ d=b4 l)(r:RepB A H d v):∃p ys,v=.ref p/\My.Src X H p ys/\RepL A H l ys:=by
 cases d with
 |lst m=>cases h;obtain⟨a,xs,rfl,h1,h2⟩:=r.lst_inv;exact{a,xs,rfl,.inl<|.inl h1,h2}
 |tup m=>cases h;obtain⟨a,xs,rfl,h1,h2⟩:=r.tup_inv;exact{a,xs,rfl,.inr<|.inl h1,h2}
 |_=>exact nn h
def szL(h:a7 n=cp):0+n<zal:=by rw[zcR];exact qB h
set_option tactic.hygienic true in
def JY(hc:X.calm=cp)(hu:X.A.units+64<cLine):BM X (.type "dict") yA:=by
 intro pins s σ H xs us Q I r h;obtain⟨A,ds,d,lv,rl,e,q⟩:=h;unfold yA at e;split at e
 .exact RH pins s σ H xs us Q I r {A,_,d,lv,rl,e,q}
 .obtain⟨l,e1,e⟩:=bind_some e
  split at e
  .rename_i hz
   obtain⟨kvs,e2,rfl⟩:=map_some e;obtain⟨v,rfl,h1⟩:=rl.one;obtain⟨p,ys,rfl,src,F⟩:=LX (X:=X) e1 h1;obtain⟨B,as,pp,Y,W,hm⟩:=AE e2 F;have J:=F.length;have N:=zbQ W;refine My.CI hc hu pins s σ H _ us Q I r {p,ys,(B.zip as).map λp=>(V.ref p.2,p.1.2),rfl,src,by rw[zaj,List.length_zip,<- N,Nat.min_self];exact Y,λm pr h=>?_,λa G=>?_}
   .obtain⟨b,x1,x2⟩:=hm m pr h
    exact{b,x1,.inl<|.inl x2}
   .obtain⟨H2,pu,e3,k⟩:=My.MU B as (upd H a<|.dT []) [] aI (by rw[Y,J];exact szL hz) (Paired.mapP W λp c z=>by rw[aF λw=>by rw[w,G]at z;cases z];exact z)
    have eH:H2=upd H a (.dT<|My.tZ [] B):=My.V6 e3 λb U=>(k b U).trans<|aF U
    obtain⟨f1,f2⟩:=GN<|QM pp<|Paired.nil;refine{H2,.inr pu,?_};rw[eH];exact q a _ (Ext.new G) G (λz=>lv a z G)<|.dT aI f1<|f2.fresh G
  .cases e
 .cases e
end
end P
namespace P
section
variable {X:Cx}{O:List Nat}{e:Expr}{es:List Expr}
def N8(z:PD X O e f)(q:B0 X O es g)(hs:isStar e=cr:=by rfl):B0 X O (e::es)<|aE f g:=L4 z q<|cV hs
def pbc(z:PB X O e f)(q:uN X O es g)(hs:isStar e=cr:=by rfl):uN X O (e::es)<|aE f g:=BL z q<|cV hs
def lc(h:Len g n):Len (aE f g)<|n+1:=JQ h
def l0:Len bB 0:=R5
variable {x:Str}{id T:String}{g:List D->Option D}{f:Lv}{p pos:Pos}
def cB(B:i9 X (.builtin id) g)(F:X.mg x=cg)(G:zaO x=b4 (.builtin id))(z:uN X O (e::es) f)(N:Gl X x:=by rfl)(U:x ≠ "__name__" := by decide)(q:(x == ("__debug__" : Str))=cr:=by decide)(hs:isStar e=cr:=by rfl)(J:(es.all λe=>!isStar e)=cp:=by rfl) :
  PD X O (.Call (.Name x p) (e::es) [] pos) (aW g f):=LB B N F G z U q (cV hs)<|jO J
def cTy(B:i9 X (.type T) g)(F:X.mg x=cg)(G:zaO x=b4 (.type T))(z:uN X O (e::es) f)(N:Gl X x:=by rfl)(U:x ≠ "__name__" := by decide)(q:(x == ("__debug__" : Str))=cr:=by decide)(hs:isStar e=cr:=by rfl)(J:(es.all λe=>!isStar e)=cp:=by rfl) :
  PD X O (.Call (.Name x p) (e::es) [] pos) (aW g f):=IN B N F G z U q (cV hs)<|jO J
def fTy(B:BM X (.type T) g)(F:X.mg x=cg)(G:zaO x=b4 (.type T))(z:uN X O (e::es) f)(N:Gl X x:=by rfl)(U:x ≠ "__name__" := by decide)(q:(x == ("__debug__" : Str))=cr:=by decide)(hs:isStar e=cr:=by rfl)(J:(es.all λe=>!isStar e)=cp:=by rfl) :
  PF X O (.Call (.Name x p) (e::es) [] pos) (aW g f):=IV B N F G z U q (cV hs)<|jO J
def cD(O':Fn X.prog X.w X.K X.mg X.base x k ps F)(z:Room k X.A)(B:B0 X O (e::es) f)(J:Len f ps.length)(N:Gl X x:=by rfl)(q:(x == ("__debug__" : Str))=cr:=by decide)(hs:isStar e=cr:=by rfl)(G:(es.all λe=>!isStar e)=cp:=by rfl) :
  PD X O (.Call (.Name x p) (e::es) [] pos) (aW F f):=RZ O' z N B J q (cV hs)<|jO G
def cn{st:Stmt}{f g:Sv}(h:jB X L O1 st f O2)(k:dY X L O2 sts g O3):dY X L O1 (st::sts) (bW f g) O3:=KI h k
end
def ZOk(P:zap)(w:World)(K:zaf)(mg:Str->Option Value)(base:Heap)(N:List Str)(x:Str)(st:Stmt)(k:Nat)(b:Sv):Prop:=
 ∀(fa:Addr) (cdv:Value) (A:zas) (outer:List Env) (s:zab) (H:Hp) (E:XK),Room k (A.deeper<|zbo x (aS st) s.heap.objs.size fa cdv)->∃g,dY (uL JJ P w K mg base N x (aS st) fa cdv A outer s H E).nox {[],[]} [] (b9 st) g []/\g=b
end P
namespace My
open PySem.SeqAt
def args_max1(a:Value):argsOk "max" {[a],[]}:=by unfold argsOk;kernel_rfl
section
variable {prog:zap}{w:World}{A:zas}{R:Result->zab->Prop}{I S:Addr}{fp wr:List Addr}{n:Nat}{P:Nat->Value->Prop}{St:Nat->Heap->Prop}
def CF(W:Walks prog w A.in1 I fp wr n P St)(val:Nat->Int)(hv:∀j v,P j v->∃t,v=.int (val j) t)(N:S∉fp)(st:St 0 s.heap)
  (Y:s.heap.get? S=b4 {cls:=.type "list",dict:=cg,data:=.seq #[] c,slots:=#[]}) (lt:0<n)
  (fin:∀t' h' tk,(∀b o,b∉wr->b≠S->s.heap.get? b=b4 o->h'.get? b=b4 o)->R (.ok<|.ret<|.int (S5 val (n-1) 1<|val 0) t') {s with heap:=h',toks:=tk}) :
  zbu (model prog w) A (.builtin "max.loop" {[.ref I,.none,.ref S],[]}) R s:=by
 have nw:S∉wr:=λz=>N<|W.sub _ z
 have nm:(zb9 "max" ++ zb9 ".loop" : String) = "max.loop" := by decide
 refine zcl zfb ?_;rw[zcm zcp _];show wpAny _ A.in1 (zdy (.ref S) >>= λ_=>_) _ _ s;refine zaa<|za6 Y rfl ?_;show wpAny _ A.in1 (tryCatch (zaL<|.ref I) _ >>= λ_=>_) _ _ s;refine zaa<|zcS<|W.item 0 s _ _ lt st λv h1 tk pv J same=>?_;have B:=same S _ nw Y;obtain⟨u,rfl⟩:=hv 0 v pv;show wpAny _ A.in1 (zcQ S (λ_=>#[.int (val 0) u,.int (val 0) u]) >>= λ_=>_) _ _ _;refine zaa<|zcx B rfl ?_;rw[nm];refine zac {zbE zcp _,jH W val hv N (n-1) 1 _ (val 0) u _ rfl lt (W.frame _ _ _ J λb bf o U=>?_) (zbU _ B rfl) λt' h2 G q=>?_}
 .exact(zbM _ _ λz:S=b=>N<|z ▸ bf).trans U
 .exact fin t' h2 G λb o nb F U=>q b o nb F<|(zbM _ _<|zaS F).trans<|same b o nb U
end
section
variable {X:Cx}
def C1(hc:X.calm=cp)(I:Inv X pins σ H s)(hq:SqT X.K H p<|ns.map V.int)(hn:ns≠[])(q:Q (.int<|pY 0 ns) H) :
  wpAny (model X.prog X.w) X.A (call (.builtin "max") [.ref p]) (EP X pins σ Q) X.xe s:=by
 have nm:(zb9 "max" ++ zb9 ".loop" : String) = "max.loop" := by decide
 obtain⟨B,Y,pl,hz⟩:=I.tuple hq;have N:s.heap.IsTuple p B.toArray:=pl;obtain⟨o,ho,ac,n,hd⟩:=id N;have U:p≠s.heap.objs.size:=zaB<|zai ho;have W:=Walks.tuple (prog:=X.prog) (w:=X.w) (A:=X.A.in1) (I.ok.hd hc) s.heap.objs.size p U B.toArray;refine kmk_tree PySem.F.kind_max PySem.F.plain_max PySem.F.entry_max (args_max1 _) ?_;show wpAny _ X.A.in1 (zeA "max" ["key", "default"] 0 {[],[]} >>= λ_=>_) _ _ s;refine zaa<|zdt (show zeA "max" ["key", "default"] 0 {[],[]}=pure [cg,cg]from rfl) ?_;refine zaa<|zac<|zaa<|zbS N<|zaa<|zee ?_<|za1 _;rw[nm];refine zac {zbE zcp _,?_};have G:=Y.length;rw[zaj]at G;have sz:B.toArray.size=ns.length:=by rw[zaC];exact G.symm
 have keep:∀h':Heap,(∀b o,b∉[s.heap.objs.size]->b≠(s.heap.push {cls:=.type "tuple_iterator",data:=.fields #[.ref p,.int 0 0]}).objs.size->((s.heap.push {cls:=.type "tuple_iterator",data:=.fields #[.ref p,.int 0 0]}).push<|za2 "list" #[] 0).get? b=b4 o->h'.get? b=b4 o)->∀b o,s.heap.get? b=b4 o->h'.get? b=b4 o:=λh' k b o e=>by
  have lt:=zai e;refine k b o (λz=>zaB lt<|List.mem_singleton.mp z) ?_<|zag _<|zag _ e;rw[size_push'];exact zaB<|Nat.lt_succ_of_lt lt
 have J:0<B.toArray.size:=by
  rw[sz];exact List.length_pos_iff.mpr hn
 refine CF W (λi=>(ns[i]?).getD 0) (λi v hP=>zV Y<|by simpa using hP) (S:=(s.heap.push {cls:=.type "tuple_iterator",data:=.fields #[.ref p,.int 0 0]}).objs.size) ?_ ?_ (zau _ rfl) J λt' h' tk same=>?_
 .rw[size_push']
  intro z;rcases List.mem_cons.mp z with z|z
  .exact zaK (zde _) z
  .exact zbe _<|zcM (zde _)<|(List.mem_singleton.mp z) ▸ zai ho
 .exact{{_,zag _<|zau _ rfl,rfl,rfl},N.at λo e=>zag _<|zag _ e}
 .refine{.int<|pY 0 ns,H,I.kept (t':=tk)<|keep h' same,{t',?_},q}
  rw[sz];cases ns with
  |nil=>exact absurd rfl hn
  |cons x xs=>
   rw[tQ (x::xs) _ 1 _<|by simp];rfl
def V5(G:∀v s,¬ X.xe v s)(F:PSs X body t):PS X (.Try body (h₀::hs) [] [] pos) t:=λpins s σ H D I hw=>
 wpAny_Try_except (zbb (F pins s σ H D I hw) (λf B q=>by
  cases f with
  |next=>exact zac q
  |_=>exact q) λv B z=>absurd z<|G v B)
end
end My
namespace P
section
variable {X:Cx}{O O':List Nat}{L:Lp}
def QT(z:∀v s,¬ X.xe v s)(q:dY X L O body f O'):jB X L O (.Try body (h₀::hs) [] [] pos) f O':=My.V5 z q
def BR:List D->Option D
 |[.tup l]=>(f7 l).bind λns=>if ns=[]then cg else b4<|.int<|My.pY 0 ns
 |_=>cg
set_option tactic.hygienic true in
def RQ(G:X.calm=cp):i9 X (.builtin "max") BR:=by
 intro pins s σ H xs us Q I r h;obtain⟨A,ds,d,N,B,e,q⟩:=h;unfold BR at e;split at e
 .rename_i l
  obtain⟨ns,J,e⟩:=bind_some e;split at e
  .cases e
  .rename_i hn
   cases e;obtain⟨v,rfl,h1⟩:=B.one;obtain⟨a,ys,rfl,h2,F⟩:=h1.tup_inv;rw[eN J F]at h2;obtain⟨u,rfl,z⟩:=vals1 r;cases z;exact My.C1 G I (.inl<|.inl h2) hn<|q _ H (Ext.refl _ _)<|.int _
 .cases e
@[simp] theorem q_max1:BR [.tup<|.int n::ns.map .int]=b4 (.int<|My.pY 0<|n::ns):=by
 have e:f7 (.int n::ns.map .int)=b4 (n::ns):=iK<|n::ns;show(f7<|.int n::ns.map .int).bind _=_;rw[e];rfl
end
end P
namespace My
def E6(r N J:R2)(ta tb tc td:TE):TE:=λσ H Q=>ta σ H λx H1=>tb σ H1 λy H2=>r x y H2 λz B=>∃k,z=.bl k /\
 (if k=cp then tc σ B λF Y=>N y F Y λW q=>∃G,W=.bl G/\(if G=cp then td σ q λu U=>J F u U Q else Q (.bl cr) q)else Q (.bl cr) B)
def IF(ho:OpR X (zar op) r)(J:OpR X (zar op') r')(B:OpR X (zar op3) F)(ha:PE X a ta)(hb:PE X b tb)(hc:PE X c tc)(hd:PE X d td)
  (hm:zcV [op,op',op3] [b,c,d]=cr:=by with_unfolding_all rfl):PT X (.Compare a [op,op',op3] [b,c,d] pos)<|NS<|E6 r r' F ta tb tc td:=by
 intro pins s σ H Q I h;refine isTrue_chain (bN (ha pins s σ H _ I h) λv s1 ⟨x,H1,I1,r1,q1⟩=>test_link<|bN (hb pins s1 σ H1 _ I1 q1) λu s2 ⟨y,H2,I2,r2,q2⟩=>
  bN (ho pins s2 σ H2 x y v u _ I2 r1 r2 q2) λd s3 ⟨z,H3,W,F,k,e,U⟩=>?_) hm
 subst e;cases F;refine zbz ?_;cases k with
 |false=>
  obtain⟨k',G,q⟩:=U;cases G;exact ite_ff {H3,W,q}
 |true=>
  refine ite_tt<|test_link<|bN (hc pins s3 σ H3 _ W U) λw' s4 ⟨y',H4,I4,r4,q4⟩=>bN (J pins s4 σ H4 y y' u w' _ I4 r2 r4 q4) λd2 s5 ⟨z2,N,Y,r5,k2,e2,q5⟩=>?_;subst e2;cases r5;refine zbz ?_;cases k2 with
  |false=>
   obtain⟨k',G,q⟩:=q5;cases G;exact ite_ff {N,Y,q}
  |true=>
   refine ite_tt<|test_last<|bN (hd pins s5 σ N _ Y q5) λw2 s6 ⟨z',H6,I6,r6,q6⟩=>bN (B pins s6 σ H6 y' z' w' w2 _ I6 r4 r6 q6) λd' s7 ⟨z3,H7,I7,r7,k3,e3,q7⟩=>?_;subst e3;cases r7;exact zbz {H7,I7,q7}
end My
namespace P
section
variable {X:Cx}{O:List Nat}
def qG(g g' J:D->D->Option D)(q F B fd:Ev):Ev:=λρ=>(q ρ).bind λx=>(F ρ).bind λy=>(g x y).bind λz=>(BZ z).bind λb=>if b=cp then(B ρ).bind λw=>(g' y w).bind λN=>(BZ N).bind λG=>if G=cp then(fd ρ).bind λu=>J w u else b4 (.bl cr)else b4<|.bl cr
@[simp] theorem q_chain3:qG g g' g3 fa fb fc fd ρ=(fa ρ).bind λx=>(fb ρ).bind λy=>(g x y).bind λz=>(BZ z).bind λb=>if b=cp then(fc ρ).bind λw=>(g' y w).bind λB=>(BZ B).bind λq=>if q=cp then(fd ρ).bind λu=>g3 w u else b4 (.bl cr)else b4<|.bl cr:=rfl
theorem CV(h:tD Rep O (qG g g' g3 fa fb fc fd) σ H Q):My.E6 (rD g) (rD g') (rD g3) (tD RepB O fa) (tD RepB O fb) (tD RepB O fc) (tD RepB O fd) σ H Q:=by
 obtain⟨H0,A0,A,E,ρ,d,st,e,q⟩:=h;obtain⟨x,ex,e⟩:=bind_some e;obtain⟨y,ey,e⟩:=bind_some e;obtain⟨z,ez,e⟩:=bind_some e;obtain⟨b,eb,e⟩:=bind_some e;rw[eT eb]at ez;refine{H0,A0,A,E,ρ,x,st,ex,λv H1 N r1=>{H0,A0,A,E,ρ,y,st.mono N,ey,λw H2 J r2=>{A,x,y,_,(st.mono<|N.trans J).live,r1.ext J,r2,ez,λz H3 x3 r3=>{b,RepB.bl_inv<|.of r3,?_}}}};have F:=(N.trans J).trans x3;cases b with
 |false=>rw[cx zat]at e ⊢;cases e;exact q _ H3 F<|.bl _
 |true=>
  rw[cw rfl]at e ⊢;obtain⟨u,eu,e⟩:=bind_some e;obtain⟨z2,G,e⟩:=bind_some e;obtain⟨b2,Y,e⟩:=bind_some e;rw[eT Y]at G;refine{H0,A0,A,E,ρ,u,st.mono F,eu,λz' H4 U r4=>{A,y,u,_,(st.mono<|F.trans U).live,r2.ext<|x3.trans U,r4,G,λz2 H5 x5 r5=>{b2,RepB.bl_inv<|.of r5,?_}}};have B:=(F.trans U).trans x5;cases b2 with
  |false=>rw[cx zat]at e ⊢;cases e;exact q _ H5 B<|.bl _
  |true=>
   rw[cw rfl]at e ⊢;obtain⟨t,et,e⟩:=bind_some e;exact{H0,A0,A,E,ρ,t,st.mono B,et,λz6 H6 W r6=>{A,u,t,d,(st.mono<|B.trans W).live,r4.ext<|x5.trans W,r6,e,λz7 H7 x7 r7=>q z7 H7 ((B.trans W).trans x7) r7}}
def C4(N:gC X (zar op) g)(z:gC X (zar op') g')(q:gC X (zar op3) g3)(B:PB X O a fa)(F:PB X O b fb)(G:PB X O c fc)(U:PB X O d fd)
  (J:zcV [op,op',op3] [b,c,d]=cr:=by with_unfolding_all rfl):pS X O (.Compare a [op,op',op3] [b,c,d] pos)<|lJ<|qG g g' g3 fa fb fc fd:=PT.mono (My.IF N z q B F G U J) λσ H Q h=>CV<|i4 h
end
end P
namespace My
def N2(i j:Int):Prop:=(-(10^250*10^250)<i/\i<10^250*10^250)/\-(10^250*10^250)<j/\j<10^250*10^250
def AY(h1:-(10^250*10^250)<i)(h2:i<10^250*10^250):Builtin.Int.intBits i<=2^20:=by
 have h:i.natAbs<10^250*10^250:=by lia
 have e:(10:Nat)^250*10^250<=2^(4*250+4*250):=by
  rw[Nat.pow_add,Nat.pow_mul];have:(10:Nat)^250<=(2^4)^250:=Nat.pow_le_pow_left (by decide) 250;exact Nat.mul_le_mul this this
 exact zbf (PyProof.Rows.intBits_le<|zba h e)<|by decide
def Q9:OpR X (zaW .Mult)<|rI N2 λi j=>.int<|i*j:=opI λ_ _ _ _ _ _ _ z q=>mul_int q<|IntMulOk.of_bits (AY z.1.1 z.1.2)<|AY z.2.1 z.2.2
end My
namespace P
instance:∀i j,Decidable<|My.N2 i j:=λi j=>by unfold My.N2;infer_instance
def MP:D->D->Option D:=JL λi j=>if My.N2 i j then b4 (.int<|i*j)else cg
open Classical in
def b5:D->D->Option D:=JL λi j=>if My.N2 i j then b4 (.int<|i*j)else cg
def E4:b5=MP:=by
 unfold b5 MP;congr 1
def QY:gC X (zaW .Mult) b5:=by rw[E4];exact xZ My.Q9
def dH(h:-(10^250*10^250)<i)(h1:i<10^250*10^250)(h2:-(10^250*10^250)<j)(q:j<10^250*10^250):b5 (.int i) (.int j)=b4 (.int<|i*j):=by
 rw[E4];exact cw {{h,h1},h2,q}
end P
namespace My
open PySem.SeqAt PySem.W
section
variable {X:Cx}{pins:List (Addr×Obj)}{σ:L2.St}{H:Hp}{s:zab}
def any_cons{K:zaf}{t c:Value}{cs:List Value}(h:zdk K t c=b4 cr)(r:zeC K t cs=b4 cr):zeC K t (c::cs)=b4 cr:=by
 unfold zeC;rw[h];exact r
end
end My
namespace My
open PySem.SeqAt
section
variable {X:Cx}
def tCs(cs:List V):TA:=λ_ H Q=>Q cs H
def PO(X:Cx)(q:Addr)(es:List Expr):Prop:=∃cs:List V,PA X es (tCs cs)/\(cs.length=es.length)/\∀us,Vals cs us->zeC X.K (.ref q) us=b4 cr
end
end My
namespace P
variable {X:Cx}{O:List Nat}{e:Expr}
mutual
def frz:D->Bool
 |.tup l=>XI l
 |.lst _=>cr
 |.dK _=>cr
 |.dT _=>cr
 |_=>cp
def XI:List D->Bool
 |[]=>cp
 |d::l=>frz d && XI l
end
end P
namespace My
def R1(h:pQ k u=cp):RelV (kV k) u:=by
 rcases bT h with⟨i,t,rfl,rfl⟩|⟨x,t,rfl,rfl⟩
 .exact{_,rfl}
 .exact{_,rfl}
theorem wA:∀ {es:List zbD} {xs:List (Key×Value)},Pairs (aT P w) es xs->∀(j:Nat) (q:Key×Value),xs[j]?=b4 q->∃e,es[j]?=b4 e/\pQ q.1 e.key=cp
 |_,_,.nil,_,_,e=>by simp at e
 |_,_,.cons h1 h2 t,0,q,e=>by simp at e;subst e;exact{_,rfl,h1}
 |_,_,.cons h1 h2 t,j+1,q,e=>wA t j q<|by simpa using e
theorem MV:∀ {kvs:List (Key×V)} {xs:List (Key×Value)},KV kvs xs->∀(j:Nat) (p:Key×V),kvs[j]?=b4 p->∃q,xs[j]?=b4 q/\p.1=q.1
 |_,_,.nil,_,_,e=>by simp at e
 |_,_,.cons h t,0,p,e=>by simp at e;subst e;exact{_,rfl,h.1}
 |_,_,.cons h t,j+1,p,e=>MV t j p<|by simpa using e
def tW(x:ObjOk P w H h d<|.dK kvs):(d == za9)=cr/\kvs.length<=zal/\∃es ep,RawD h d es ep/\es.size=kvs.length /\
  ∀(j:Nat) (p:Key×V),kvs[j]?=b4 p->∃(e:zbD),es[j]?=b4 e/\RelV (kV p.1) e.key:=by
 obtain⟨z,y,xs,r,o,es,ep,h1,h2,G,h4,F,Y⟩:=x;have hl:xs.length=kvs.length:=(zbQ r).symm;have B:es.size=kvs.length:=by
  have:=F.length;rw[zbg]at this
  lia
 refine{y,z,es,ep,{o,h1,h2,G},B,λj p e=>?_};obtain⟨q,N,U⟩:=MV r j p e;obtain⟨n,J,W⟩:=wA F j q N;exact{n,by rw[<- zdb];exact J,by rw[U];exact R1 W}
def ItK(d:Addr)(o:Obj)(kvs:List<|Key×V):It:=
 {λi H=>H d=b4 (.frz o<|.dK kvs)/\i<kvs.length,λi H x H'=>H'=H/\∃k v,kvs[i]?=b4 (k,v)/\x=kV k,λi H=>H d=b4 (.frz o<|.dK kvs)/\kvs.length<=i}
def CT{K:zaf}(d it:Addr)(o:Obj)(kvs:List<|Key×V)(es:Array zbD)(ep:Nat)(hd:o.data=.dict es ep)(ay:es.size=kvs.length):Turn P w K tg (ItK d o kvs) [it] it (λi h=>h.IsKeyIter it d i es.size ep) where
 mem:=by simp
 obj:=λi h st b B=>by
  have e:b=it:=by simpa using B
  subst e;obtain⟨o,U,e2,e3⟩:=st;exact{o,U,λv z=>by rw[e3]at z;cases z}
 keep:=λi h h' st k=>st.at λo e=>k it (by simp) o e
 item:=by
  intro X hP hw hK hc i pins s σ H E I W st hg;subst hP hw hK;obtain⟨h1,h2⟩:=hg;obtain⟨N,g2⟩:=(show ObjOk X.prog X.w H s.heap d (.frz o<|.dK kvs)from I.hok d _ h1);obtain⟨_,_,al,ab,⟨o',G,r2,r3⟩,F,q⟩:=tW g2;rw[N]at G;cases G;rw[hd]at r3;injection r3 with r4 r5
  subst r4 r5;obtain⟨f0,f1,f2,Y,f4,f5⟩:=W it (by simp);have hi:i<es.size:=by lia
  refine AU st {o,N,r2,hd} hi λh' J sb=>?_
  have I1:Inv X pins σ H {s with heap:=h'}:=I.turned (t':=s.toks) (λb o B e=>(sb.2 b B).trans e) f0 f1 Y f4 f5;obtain⟨e,U,e2⟩:=q i _<|zaH h2;have ee:es[i]=e:=by
   rw[zd6 hi]at U;exact zaD U
  obtain⟨o2,q1,q2,q3⟩:=id J;refine{_,rfl,pN (s:={s with heap:=h'}) (n := "dict_keyiterator") q1 q2 q3 (by decide) {kV kvs[i].1,H,I1,?_,{rfl,kvs[i].1,kvs[i].2,zaH h2,rfl},J,λc B=>(W c B).1}};rw[ee];exact e2
 done:=by
  intro X hP hw hK hc i pins s σ H E I W st hg;subst hP hw hK;obtain⟨h1,h2⟩:=hg;obtain⟨N,g2⟩:=(show ObjOk X.prog X.w H s.heap d (.frz o<|.dK kvs)from I.hok d _ h1);obtain⟨_,_,al,ab,⟨o',G,r2,r3⟩,F,q⟩:=tW g2;rw[N]at G;cases G;obtain⟨f0,f1,f2,Y,f4,f5⟩:=W it (by simp);exact EK (I.ok.hd hc) st {o,N,r2,hd} (by lia) λh' eb=>{rfl,I.turned (t':=s.toks) (λb o B e=>eb b o B e) f0 f1 Y f4 f5}
 self:=λ_ _ _ _ _ st h=>wpAny_pyIter_keyiter st h
def zB(I:Inv X pins σ H s)(B:H d=b4 (.dK kvs))(G:s.heap.get? d=b4 o):Inv X pins σ (upd H d<|.frz o<|.dK kvs) s:=by
 have ne:∀b u,H b=b4 u->(∀z,u≠.dK z)->b≠d:=λb u e n z=>by
  subst z;rw[B]at e;exact n kvs (zaD e).symm
 have J:=I.un (h':=s.heap) (t':=s.toks) (H':=upd H d<|.frz o<|.dK kvs) ⟨λb u q _ _ _=>q,λb u q _ _ _=>{u.slots,q},λb u q n _=>by rw[aF λz=>by rw[z,B]at n;cases n];exact n,λb u q _=>{u,q},
  λb xs q=>by rw[aF<|ne b _ q λz h=>by cases h];exact q,λb u xs q=>by rw[aF<|ne b _ q λz h=>by cases h];exact q,λb ps q=>{#[],by rw[aF (ne b _ q λz h=>by cases h),q];simp}⟩ (λb u e=>?_)
 .exact J
 .have st:∀ {b:Addr} {u:HO},ObjOk X.prog X.w H s.heap b u->ObjOk X.prog X.w (upd H d<|.frz o<|.dK kvs) s.heap b u:=λx=>x.stay (λ_ _ _ q=>q) (λc q=>by rw[aF<|ne c _ q λz h=>by cases h];exact q) λc xs q=>by rw[aF<|ne c _ q λz h=>by cases h];exact q
  by_cases F:b=d
  .subst F
   rw[aI]at e;cases e;exact{G,st<|I.hok b _ B}
  .rw[aF F]at e
   exact st<|I.hok b u e
end My
namespace P
section
variable {X:Cx}{O:List Nat}
def UU(tl:TE):TI:=λσ H R=>tl σ H λx H1=>∃d kvs,x=.ref d/\((H1 d=b4 (.dK kvs)/\∀o,R (My.ItK d o kvs)<|upd H1 d<|.frz o<|.dK kvs)\/∃o,H1 d=b4 (.frz o<|.dK kvs)/\R (My.ItK d o kvs) H1)
def KA(hl:PE X l tl):PI X tg l<|UU tl:=by
 intro pins s σ H R I h;refine bN (hl pins s σ H _ I h) λv z ⟨x,H1,N,B,q1⟩=>?_
 obtain⟨d,kvs,rfl,q⟩:=q1;cases B;have J:∀(o:Obj) (H2:Hp),(d == za9)=cr->Inv X pins σ H2 z->z.heap.get? d=b4 o->ObjOk X.prog X.w H2 z.heap d (.dK kvs)->R (My.ItK d o kvs) H2->wpAny (model X.prog X.w) X.A (pyIter<|.ref d) (PIE X pins σ tg R) X.xe z:=λo H2 lo F ho ok q=>by
  obtain⟨_,_,es,ep,⟨o',B,r2,W⟩,G,_⟩:=My.tW ok;rw[ho]at B;cases B;refine My.A7 lo {o,ho,r2,W} ?_;refine{z.heap.objs.size,[z.heap.objs.size],_,_,_,rfl,F.kept (t':=z.toks) λb o e=>zag _ e,My.CT d _ o kvs es ep W G,{_,zau _ rfl,rfl,rfl},λb hb=>?_,q};have e:b=z.heap.objs.size:=by simpa using hb
  subst e;exact F.fpOk (zam _)<|F.hok.fresh<|zam _
 rcases q with⟨U,q⟩|⟨o,U,q⟩
 .have ok:=(show ObjOk X.prog X.w H1 z.heap d (.dK kvs)from N.hok d _ U)
  obtain⟨lo,_,es,ep,⟨o,B,r2,W⟩,G,_⟩:=My.tW ok;have F:=My.zB N U B;have Y:=(show ObjOk X.prog X.w _ z.heap d (.frz o<|.dK kvs)from F.hok d _ aI);exact J o _ lo F B Y.2<|q o
 .have ok:=(show ObjOk X.prog X.w H1 z.heap d (.frz o<|.dK kvs)from N.hok d _ U)
  obtain⟨lo,_⟩:=My.tW ok.2;exact J o H1 lo N ok.1 ok.2 q
def P9:∀k:Key,Rep A H (nV k) (kV k)
 |.inl i=>.int i
 |.inr x=>.str x
def BI{l:List (Key×D)}(e:xs.map (·.1)=l.map (·.1)):BU (My.ItK a o xs) [.fz a o<|.dK xs]<|l.map λp=>nV p.1:=by
 intro A H U h i;have B:H a=b4 (.frz o<|.dK xs):=h _<|List.mem_singleton.mpr rfl;have N:xs.length=l.length:=by have:=congrArg zbI e;simpa using this
 refine{λhi=>{B,by rw[zaj]at hi;lia},λd z=>?_};rw[zaq]at z;obtain⟨p,q,rfl⟩:=map_some z;have hi:i<l.length:=(List.getElem?_eq_some_iff.mp q).1;refine{{B,by lia},λx H' ⟨G,k,v,F,J⟩=>?_};subst G J;have:k=p.1:=by
  have h1:(xs.map (·.1))[i]?=b4 k:=by rw[zaq,F];rfl
  rw[e,zaq,q]at h1;exact(zaD h1).symm
 subst this;exact{Ext.refl _ _,P9 _}
def mY(f:Ev):Lv:=λρ=>(f ρ).bind λd=>match d with
 |.dK l=>b4<|l.map λp=>nV p.1
 |_=>cg
@[simp] theorem q_keys:mY f ρ=(f ρ).bind λd=>match d with
 |.dK l=>b4<|l.map λp=>nV p.1
 |_=>cg:=rfl
def sU(h:PD X O e f):PDI X O tg e<|mY f:=PI.mono (KA h) <| by
 rintro σ H R ⟨H0,A0,A,E,ρ,items,st,e,q⟩;obtain⟨d,G,e⟩:=bind_some e;cases d with
 |dK l=>
  cases e;refine{H0,A0,A,E,ρ,_,st,G,λv H1 F J=>?_};cases J with
  |@dK _ a xs n h ee rl=>
   refine{a,xs,rfl,?_};rcases h with h|⟨o,h⟩
   .refine .inl {h,λo=>q _ _ [.fz a o<|.dK xs] (F.trans<|FC n h trivial λz=>z) (λp B=>by rw[List.mem_singleton.mp B];exact aI)<|BI ee}
   .exact .inr {o,h,q _ H1 [.fz a o<|.dK xs] F (λp B=>by rw[List.mem_singleton.mp B];exact h)<|BI ee}
 |_=>cases e
end
end P
namespace My
abbrev c5(h:Heap)(T:Addr)(a b c:Value):Prop:=h.get? T=b4 {cls:=.type "tuple",data:=.seq #[a,b,c]}
structure ZB(z TI TO i1 i2 i3 l1 l2 l3:Addr):Prop where
 zT:TI≠z/\TI≠TO/\TI≠i1/\TI≠i2/\TI≠i3
 zO:TO≠z/\TO≠i1/\TO≠i2/\TO≠i3
 z1:i1≠z/\i1≠i2/\i1≠i3
 z2:i2≠z/\i2≠i3
 z3:i3≠z
 l1:l1≠z/\l1≠TO/\l1≠i1/\l1≠i2/\l1≠i3
 l2:l2≠z/\l2≠TO/\l2≠i1/\l2≠i2/\l2≠i3
 l3:l3≠z/\l3≠TO/\l3≠i1/\l3≠i2/\l3≠i3
section
variable {prog:zap}{w:World}{A:zas}{E:Value->zab->Prop}{s:zab}
def c8(hT:c5 s.heap T a b c)
  (h:∀h',h'.get? T=b4 {cls:=.type "tuple",data:=.seq ((#[a,b,c]:Array Value).setIfInBounds k x)}->zaT T s.heap h'->Q () {s with heap:=h'}) :
  wpAny (model prog w) A (zcQ T (·.setIfInBounds k x)) Q E s:=by
 refine zcx hT rfl<|h _ ?_<|zck ..;rw[zbU _ hT rfl];simp[zbj]
def G6{t1 t2 t3:Bool}{z TI TO i1 i2 N l1 l2 l3:Addr}{k:Nat}{xs ys ws:Array Value}{x y u a b c:Value}{Q:Option Value->zab->Prop}(D:ZB z TI TO i1 i2 N l1 l2 l3)
  (hz:IsZip s.heap z TI TO .none) (bm:c5 s.heap TI (.ref i1) (.ref i2)<|.ref N) (bd:c5 s.heap TO a b c) (h1:SIt t1 s.heap i1 l1 k) (h2:SIt t2 s.heap i2 l2 k) (h3:SIt t3 s.heap N l3 k) (bh:SSq t1 s.heap l1 xs) (ba:SSq t2 s.heap l2 ys) (br:SSq t3 s.heap l3 ws) (hx:xs[k]?=b4 x) (hy:ys[k]?=b4 y) (hu:ws[k]?=b4 u)
  (hQ:∀h',IsZip h' z TI TO (zaP s.heap.objs.size)->c5 h' TO x y u->SIt t1 h' i1 l1 (k+1)->SIt t2 h' i2 l2 (k+1)->SIt t3 h' N l3 (k+1)->c5 h' s.heap.objs.size x y u->h'.objs.size=s.heap.objs.size+1->(∀c o,c≠z->c≠TO->c≠i1->c≠i2->c≠N->s.heap.get? c=b4 o->h'.get? c=b4 o)->Q (b4<|.ref s.heap.objs.size) {s with heap:=h'}) :
  wpAny (model prog w) A (zaL<|.ref z) Q E s:=by
 have hT:s.TypeIs (.ref z) "zip" := {_,hz,rfl};obtain⟨T1,T2,T3,T4,T5⟩:=D.zT;obtain⟨O1,O2,O3,O4⟩:=D.zO;obtain⟨a1,a2,a3⟩:=D.z1;obtain⟨b1,b2⟩:=D.z2;have c1:=D.z3;obtain⟨m1,m2,m3,m4,m5⟩:=D.l1;obtain⟨n1,n2,n3,n4,n5⟩:=D.l2;obtain⟨p1,p2,p3,p4,p5⟩:=D.l3;unfold zaL;refine zaa<|zb4<|zbw (name:=zaZ "__next__") hT zcy<|zbd zcy hT zei ?_<|zej _;show wpAny _ _ (field (.ref z) 2 >>= _) _ _ s;refine zaa<|zaE hz rfl (x:=.bool cr) rfl ?_;show wpAny _ _ (field (.ref z) 3 >>= _) _ _ s;refine zaa<|zaE hz rfl (x:=.ref TI) rfl<|zaa<|za6 bm rfl ?_;show wpAny _ _ (zb7 (.ref z) >>= _) _ _ s;refine zaa ?_;unfold zb7;refine zaa<|zaE hz rfl (x:=.none) rfl<|zac ?_;simp only[if_true];refine zaa<|zbV<|zaa<|zaE hz rfl (x:=.ref TO) rfl<|zaa<|zaY hz (by simp) λha ag sa=>?_;replace ag:IsZip ha z TI TO .ellipsis:=ag;refine zaa ?_;simp only[zdc,zek,zdz,zel];refine zaa<|zaa<|zb8 ?_;show wpAny _ _ (zby (.ref i1) >>= _) _ _ {s with heap:=ha};have ea:=sa.extBut;refine zaa<|next_item (t:=t1) (xs:=xs) (h1.to λo e=>ea _ _ a1 e) (bh.to λo e=>ea _ _ m1 e) hx λhb bt sb=>zac ?_;have eb:=sb.extBut;have U:c5 hb TO a b c:=eb _ _ O2<|ea _ _ O1 bd;refine zaa<|za6 U rfl<|zaa<|c8 U λhc F sc=>?_;replace F:c5 hc TO x b c:=F;have ec:=sc.extBut;refine zaa<|zbx<|zac ?_;refine zaa<|zaa<|zb8 ?_;show wpAny _ _ (zby (.ref i2) >>= _) _ _ {s with heap:=hc};refine zaa<|next_item (t:=t2) (xs:=ys) (h2.to λo e=>ec _ _ O3.symm<|eb _ _ a2.symm<|ea _ _ b1 e) (ba.to λo e=>ec _ _ n2<|eb _ _ n3<|ea _ _ n1 e) hy λhd bn sd=>zac ?_;have ed:=sd.extBut;have aa:c5 hd TO x b c:=ed _ _ O3 F;refine zaa<|za6 aa rfl<|zaa<|c8 aa λhe G se=>?_;replace G:c5 he TO x y c:=G;have ee:=se.extBut;refine zaa<|zbx<|zac ?_;refine zaa<|zaa<|zb8 ?_;show wpAny _ _ (zby (.ref N) >>= _) _ _ {s with heap:=he};refine zaa<|next_item (t:=t3) (xs:=ws) (h3.to λo e=>ee _ _ O4.symm<|ed _ _ b2.symm<|ec _ _ O4.symm<|eb _ _ a3.symm<|ea _ _ c1 e) (br.to λo e=>ee _ _ p2<|ed _ _ p4<|ec _ _ p2<|eb _ _ p3<|ea _ _ p1 e) hu λhj bv sj=>zac ?_;have ej:=sj.extBut;have Y:c5 hj TO x y c:=ej _ _ O4 G;refine zaa<|za6 Y rfl<|zaa<|c8 Y λq B sf=>?_;replace B:c5 q TO x y u:=B;have ef:=sf.extBut;refine zaa<|zbx<|zac<|zac ?_;refine zaa<|za6 B rfl<|zaa<|zda ?_;have hsz:q.objs.size=s.heap.objs.size:=by rw[sf.1,sj.1,se.1,sd.1,sc.1,sb.1,sa.1]
 have W:IsZip q z TI TO .ellipsis:=ef _ _ O1.symm<|ej _ _ c1.symm<|ee _ _ O1.symm<|ed _ _ b1.symm<|ec _ _ O1.symm<|eb _ _ a1.symm ag;have bc:∀c o,c≠z->c≠TO->c≠i1->c≠i2->c≠N->s.heap.get? c=b4 o->q.get? c=b4 o:=λc o q1 q2 q3 q4 q5 e=>ef _ _ q2<|ej _ _ q5<|ee _ _ q2<|ed _ _ q4<|ec _ _ q2<|eb _ _ q3<|ea _ _ q1 e
 have bp:SIt t1 q i1 l1<|k+1:=bt.to λo e=>ef _ _ O2.symm<|ej _ _ a3<|ee _ _ O2.symm<|ed _ _ a2<|ec _ _ O2.symm e
 have be:SIt t2 q i2 l2<|k+1:=bn.to λo e=>ef _ _ O3.symm<|ej _ _ b2<|ee _ _ O3.symm e
 have bi:SIt t3 q N l3<|k+1:=bv.to λo e=>ef _ _ O4.symm e
 have al:z<q.objs.size:=zai W;show wpAny _ _ (zdd (.ref z) (.ref q.objs.size) >>= _) _ _ _;refine zaa ?_;unfold zdd;have bq:IsZip (q.push {cls:=.type "tuple",data:=.seq #[x,y,u]}) z TI TO .ellipsis:=zag _ W;refine zaa<|zaY bq (by simp) λhg ae sg=>?_;replace ae:IsZip hg z TI TO<|zaP q.objs.size:=ae;refine zaY ae (by simp) λhi J si=>?_;replace J:IsZip hi z TI TO<|zaP q.objs.size:=J
 have up:∀c o,c≠z->q.get? c=b4 o->hi.get? c=b4 o:=λc o c1 e=>si.extBut _ _ c1<|sg.extBut _ _ c1<|zag _ e
 have am:c5 hi q.objs.size x y u:=si.extBut _ _ (zaK al)<|sg.extBut _ _ (zaK al)<|zau _ rfl;have az:hi.objs.size=q.objs.size+1:=by rw[si.1,sg.1,zbm]
 rw[hsz]at J am az;refine zac {_,rfl,zac ?_};show Q (b4<|.ref q.objs.size) _;rw[hsz];exact hQ hi J (up _ _ O1 B) (bp.to λo e=>up _ o a1 e) (be.to λo e=>up _ o b1 e) (bi.to λo e=>up _ o c1 e) am az λc o q1 q2 q3 q4 q5 e=>up c o q1<|bc c o q1 q2 q3 q4 q5 e
def HM{t1 t2 t3:Bool}{z TI TO i1 i2 i3 l1 l2 l3:Addr}{k:Nat}{xs ys ws:Array Value}{a b c:Value}{Q:Option Value->zab->Prop}(hh:A.handled=cg)(D:ZB z TI TO i1 i2 i3 l1 l2 l3)
  (hz:IsZip s.heap z TI TO .none) (bf:c5 s.heap TI (.ref i1) (.ref i2)<|.ref i3) (ba:c5 s.heap TO a b c) (h1:SIt t1 s.heap i1 l1 k) (h2:SIt t2 s.heap i2 l2 k) (h3:SIt t3 s.heap i3 l3 k) (am:SSq t1 s.heap l1 xs) (ai:SSq t2 s.heap l2 ys) (bn:SSq t3 s.heap l3 ws) (W:xs[k]?=cg\/ys[k]?=cg\/ws[k]?=cg)
  (hQ:∀h',(∀c o,c≠z->c≠TO->c≠i1->c≠i2->c≠i3->s.heap.get? c=b4 o->h'.get? c=b4 o)->Q cg {s with heap:=h'}):wpAny (model prog w) A (zaL<|.ref z) Q E s:=by
 have hT:s.TypeIs (.ref z) "zip" := {_,hz,rfl};obtain⟨T1,T2,T3,T4,T5⟩:=D.zT;obtain⟨O1,O2,O3,O4⟩:=D.zO;obtain⟨a1,a2,a3⟩:=D.z1;obtain⟨b1,b2⟩:=D.z2;have c1:=D.z3;obtain⟨m1,m2,m3,m4,m5⟩:=D.l1;obtain⟨n1,n2,n3,n4,n5⟩:=D.l2;obtain⟨p1,p2,p3,p4,p5⟩:=D.l3;have fin:∀(h':Heap) (e:Addr),(∀c o,c≠z->c≠TO->c≠i1->c≠i2->c≠i3->s.heap.get? c=b4 o->h'.get? c=b4 o)->(∃o,h'.get? e=b4 o/\o.cls=.type "StopIteration")->wpAny (model prog w) A (do if <- isInstance (.ref e) (.type "StopIteration")then pure cg else throw<|.ref e) Q E {s with heap:=h'}:=λh' e hk he=>by
  obtain⟨o,ho,hc⟩:=he;refine zaa<|zc9 (T := "StopIteration") (b:=cp) {o,ho,hc} zdu ?_;exact zac<|hQ _ hk
 unfold zaL;refine zaa<|zb4<|zbw (name:=zaZ "__next__") hT zcy<|zbd zcy hT zei ?_<|zej _;show wpAny _ _ (field (.ref z) 2 >>= _) _ _ s;refine zaa<|zaE hz rfl (x:=.bool cr) rfl ?_;show wpAny _ _ (field (.ref z) 3 >>= _) _ _ s;refine zaa<|zaE hz rfl (x:=.ref TI) rfl<|zaa<|za6 bf rfl ?_;show wpAny _ _ (zb7 (.ref z) >>= _) _ _ s;refine zaa ?_;unfold zb7;refine zaa<|zaE hz rfl (x:=.none) rfl<|zac ?_;simp only[if_true];refine zaa<|zbV<|zaa<|zaE hz rfl (x:=.ref TO) rfl<|zaa<|zaY hz (by simp) λha U sa=>?_;replace U:IsZip ha z TI TO .ellipsis:=U;refine zaa ?_;simp only[zdc,zek,zdz,zel];refine zaa<|zaa<|zb8 ?_;show wpAny _ _ (zby (.ref i1) >>= _) _ _ {s with heap:=ha};have ea:=sa.extBut;cases hx:xs[k]? with
 |none=>
  refine zaa<|next_end (t:=t1) (xs:=xs) hh (h1.to λo e=>ea _ _ a1 e) (am.to λo e=>ea _ _ m1 e) hx λhb e sb he=>?_;obtain⟨oe,B,F⟩:=he;have aq:IsZip hb z TI TO .ellipsis:=sb _ _ a1.symm U;have J:e≠z:=λq=>by subst q;rw[aq]at B;cases B;simp at F
  exact zaY aq (by simp) λhc _ sc=>fin hc e (λc o q1 _ q3 _ _ q=>sc.extBut _ _ q1<|sb _ _ q3<|ea _ _ q1 q) {oe,sc.extBut _ _ J B,F}
 |some x=>
  have W:ys[k]?=cg\/ws[k]?=cg:=by rcases W with h|h;rw[hx]at h;cases h;exact h
  refine zaa<|next_item (t:=t1) (xs:=xs) (h1.to λo e=>ea _ _ a1 e) (am.to λo e=>ea _ _ m1 e) hx λhb cl sb=>zac ?_;have N:=sb.extBut;have aa:c5 hb TO a b c:=N _ _ O2<|ea _ _ O1 ba;refine zaa<|za6 aa rfl<|zaa<|c8 aa λhc G sc=>?_;replace G:c5 hc TO x b c:=G;have Y:=sc.extBut;refine zaa<|zbx<|zac ?_;refine zaa<|zaa<|zb8 ?_;show wpAny _ _ (zby (.ref i2) >>= _) _ _ {s with heap:=hc};cases hy:ys[k]? with
  |none=>
   refine zaa<|next_end (t:=t2) (xs:=ys) hh (h2.to λo e=>Y _ _ O3.symm<|N _ _ a2.symm<|ea _ _ b1 e) (ai.to λo e=>Y _ _ n2<|N _ _ n3<|ea _ _ n1 e) hy λhd e sd he=>?_;obtain⟨oe,B,F⟩:=he;have ar:IsZip hd z TI TO .ellipsis:=sd _ _ b1.symm<|Y _ _ O1.symm<|N _ _ a1.symm U;have J:e≠z:=λq=>by subst q;rw[ar]at B;cases B;simp at F
   exact zaY ar (by simp) λhf _ sf=>fin hf e (λc o q1 q2 q3 q4 q5 q=>sf.extBut _ _ q1<|sd _ _ q4<|Y _ _ q2<|N _ _ q3<|ea _ _ q1 q) {oe,sf.extBut _ _ J B,F}
  |some y=>
   have hu:ws[k]?=cg:=by rcases W with h|h;rw[hy]at h;cases h;exact h
   refine zaa<|next_item (t:=t2) (xs:=ys) (h2.to λo e=>Y _ _ O3.symm<|N _ _ a2.symm<|ea _ _ b1 e) (ai.to λo e=>Y _ _ n2<|N _ _ n3<|ea _ _ n1 e) hy λhd cc sd=>zac ?_;have ed:=sd.extBut;have ab:c5 hd TO x b c:=ed _ _ O3 G;refine zaa<|za6 ab rfl<|zaa<|c8 ab λhe bw se=>?_;have ee:=se.extBut;refine zaa<|zbx<|zac ?_;refine zaa<|zaa<|zb8 ?_;show wpAny _ _ (zby (.ref i3) >>= _) _ _ {s with heap:=he};refine zaa<|next_end (t:=t3) (xs:=ws) hh (h3.to λo e=>ee _ _ O4.symm<|ed _ _ b2.symm<|Y _ _ O4.symm<|N _ _ a3.symm<|ea _ _ c1 e) (bn.to λo e=>ee _ _ p2<|ed _ _ p4<|Y _ _ p2<|N _ _ p3<|ea _ _ p1 e) hu λhj e sj bb=>?_;obtain⟨oe,B,F⟩:=bb;have al:IsZip hj z TI TO .ellipsis:=sj _ _ c1.symm<|ee _ _ O1.symm<|ed _ _ b1.symm<|Y _ _ O1.symm<|N _ _ a1.symm U;have J:e≠z:=λq=>by subst q;rw[al]at B;cases B;simp at F
   exact zaY al (by simp) λhf _ sf=>fin hf e (λc o q1 q2 q3 q4 q5 q=>sf.extBut _ _ q1<|sj _ _ q5<|ee _ _ q2<|ed _ _ q4<|Y _ _ q2<|N _ _ q3<|ea _ _ q1 q) {oe,sf.extBut _ _ J B,F}
abbrev YA(t1 t2 t3:Bool)(h:Heap)(l1 l2 l3:Addr):Heap:=(JK t1 t2 h l1 l2).push<|pT t3 l3
abbrev yTI(t1 t2:Bool)(h:Heap)(l1 l2:Addr):Obj:={cls:=.type "tuple",data:=.seq #[.ref h.objs.size,.ref (h.push<|pT t1 l1).objs.size,.ref (JK t1 t2 h l1 l2).objs.size]}
abbrev yh5(t1 t2 t3:Bool)(h:Heap)(l1 l2 l3:Addr):Heap:=((YA t1 t2 t3 h l1 l2 l3).push<|yTI t1 t2 h l1 l2).push {cls:=.type "tuple",data:=.seq #[.none,.none,.none]}
abbrev YB(t1 t2 t3:Bool)(h:Heap)(l1 l2 l3:Addr):Heap:=(yh5 t1 t2 t3 h l1 l2 l3).push {cls:=.type "zip",data:=.fields #[.none,.bool cr,.bool cr,.ref (YA t1 t2 t3 h l1 l2 l3).objs.size,.ref ((YA t1 t2 t3 h l1 l2 l3).push<|yTI t1 t2 h l1 l2).objs.size]}
def tH(q:SSq t s.heap l xs)(z:Q (.ref s.heap.objs.size) {s with heap:=s.heap.push (pT t l)}):wpAny (model prog w) A (pyIter<|.ref l) Q E s:=by
 cases t with
 |false=>exact zcd (show s.heap.IsList l xs from q) z
 |true=>exact zbS (show s.heap.IsTuple l xs from q) z
def LF(B G J:Bool)(q z F:Addr)(xs ys ws:Array Value):Meets (zbc.«zip.__new__» {[.type "zip",.ref q,.ref z,.ref F],[]}) λ_ R s=>SSq B s.heap q xs/\SSq G s.heap z ys/\SSq J s.heap F ws/\R (.ok<|.ret<|.ref (yh5 B G J s.heap q z F).objs.size) {s with heap:=YB B G J s.heap q z F}:=
 .of_wp λprog w A R s h=>by
  obtain⟨Y,g,d,tk,os⟩:=s;obtain⟨N,U,ac,h⟩:=h;have ae:=sub_zip;have aa:SSq B (zbP {Y,g,d,tk,os}) q xs:=N;have W:SSq G (zbP {Y.push<|pT B q,g,d,tk,os}) z ys:=U.to λo e=>zag _ e
  have ab:SSq J (zbP {(Y.push<|pT B q).push<|pT G z,g,d,tk,os}) F ws:=ac.to λo e=>zag _<|zag _ e
  wp_walk using tH aa,tH W,tH ab
  exact{_,rfl,h}
def qO(a b c:Value):checkTypeCall "zip" {[a,b,c],[]}=pure ():=by kernel_rfl
def uZ(a b c:Value):checkBuiltinCall "zip.__new__" {[.type "zip",a,b,c],[]}=pure ():=by kernel_rfl
def kK(a b c d:Value):argsOk "object.__init__" {[a,b,c,d],[]}:=by
 unfold argsOk;rw[signature?_of (id := "object.__init__") (n:=['_','_','t','i','n','i','_','_']) (o:=['t','c','e','j','b','o']) (by kernel_rfl) F.owner_object];kernel_rfl
def IR(Y:SSq t1 s.heap l1 xs)(z:SSq t2 s.heap l2 ys)(U:SSq t3 s.heap l3 ws)
  (h:∀h', IsZip h' (s.heap.objs.size+5) (s.heap.objs.size+3) (s.heap.objs.size+4) .none -> c5 h' (s.heap.objs.size+3) (.ref s.heap.objs.size) (.ref<|s.heap.objs.size+1) (.ref<|s.heap.objs.size+2) -> c5 h' (s.heap.objs.size+4) .none .none .none ->
   SIt t1 h' s.heap.objs.size l1 0->SIt t2 h' (s.heap.objs.size+1) l2 0->SIt t3 h' (s.heap.objs.size+2) l3 0->(∀c o,s.heap.get? c=b4 o->h'.get? c=b4 o)->Q (.ref<|s.heap.objs.size+5) {s with heap:=h'}):wpAny (model prog w) A (call (.type "zip") [.ref l1,.ref l2,.ref l3]) Q E s:=by
 refine zen F.called_zip (by decide) (qO _ _ _) (uZ _ _ _) (λJ=>kK J _ _ _) F.entry_zip_new (LF t1 t2 t3 l1 l2 l3 xs ys ws) {Y,z,U,?_};have G:(s.heap.push<|pT t1 l1).objs.size=s.heap.objs.size+1:=zbm ..;have W:(JK t1 t2 s.heap l1 l2).objs.size=s.heap.objs.size+2:=by rw[zbm,G]
 have q:(YA t1 t2 t3 s.heap l1 l2 l3).objs.size=s.heap.objs.size+3:=by rw[zbm,W]
 have B:((YA t1 t2 t3 s.heap l1 l2 l3).push<|yTI t1 t2 s.heap l1 l2).objs.size=s.heap.objs.size+4:=by rw[zbm,q]
 have n5:(yh5 t1 t2 t3 s.heap l1 l2 l3).objs.size=s.heap.objs.size+5:=by rw[zbm,B]
 have N:(YB t1 t2 t3 s.heap l1 l2 l3).get? (yh5 t1 t2 t3 s.heap l1 l2 l3).objs.size=b4 _:=zau _ rfl;have g5:(YB t1 t2 t3 s.heap l1 l2 l3).get? ((YA t1 t2 t3 s.heap l1 l2 l3).push<|yTI t1 t2 s.heap l1 l2).objs.size=b4 _:=zag _<|zau _ rfl;have g4:(YB t1 t2 t3 s.heap l1 l2 l3).get? (YA t1 t2 t3 s.heap l1 l2 l3).objs.size=b4 {cls:=.type "tuple",data:=.seq #[.ref s.heap.objs.size,.ref (s.heap.push<|pT t1 l1).objs.size,.ref (JK t1 t2 s.heap l1 l2).objs.size]}:=zag _<|zag _<|zau _ rfl;have g3:(YB t1 t2 t3 s.heap l1 l2 l3).get? (JK t1 t2 s.heap l1 l2).objs.size=b4 (pT t3 l3):=zag _<|zag _<|zag _<|zau _ rfl;have g2:(YB t1 t2 t3 s.heap l1 l2 l3).get? (s.heap.push<|pT t1 l1).objs.size=b4 (pT t2 l2):=zag _<|zag _<|zag _<|zag _<|zau _ rfl;have g1:(YB t1 t2 t3 s.heap l1 l2 l3).get? s.heap.objs.size=b4 (pT t1 l1):=zag _<|zag _<|zag _<|zag _<|zag _<|zau _ rfl;show _/\_;rw[q,B,n5]at N;rw[G,W,q]at g4;rw[B]at g5;rw[W]at g3;rw[G]at g2;rw[n5];exact{{_,N,rfl},h _ N g4 g5 {_,g1,rfl,rfl} {_,g2,rfl,rfl} {_,g3,rfl,rfl} λc o x=>zag _<|zag _<|zag _<|zag _<|zag _<|zag _ x}
end
def ItY(K:zaf)(N J B:Bool)(F G z:Addr):It:=
 ⟨λi H => ∃xs ys q, m8 K N H F xs /\ m8 K J H G ys /\ m8 K B H z q /\ i<xs.length /\ i<ys.length /\ i<q.length, λi H x H' => ∃p u v r, x = .ref p /\ H p = cg /\ H' = upd H p (.tup [u, v, r]) /\ ∀xs ys q, m8 K N H F xs -> m8 K J H G ys -> m8 K B H z q -> xs[i]? = b4 u /\ ys[i]? = b4 v /\ q[i]? = b4 r,
  λi H=>∃xs ys q,m8 K N H F xs/\m8 K J H G ys/\m8 K B H z q/\(xs.length<=i\/ys.length<=i\/q.length<=i)⟩
def HD{P:zap}{w:World}{K:zaf}{ae:List Expr}{x1}{tp:Pos}(t1 t2 t3:Bool){z TI TO W U N l1 l2 l3:Addr}(D:ZB z TI TO W U N l1 l2 l3) :
  Turn P w K (.Tuple ae x1 tp) (ItY K t1 t2 t3 l1 l2 l3) [z,TI,TO,W,U,N] z (λi h=>IsZip h z TI TO .none/\c5 h TI (.ref W) (.ref U) (.ref N)/\(∃a b c,c5 h TO a b c)/\SIt t1 h W l1 i/\SIt t2 h U l2 i/\SIt t3 h N l3 i) where
 mem:=by simp
 obj:=by
  rintro i h ⟨hz,G,⟨a,b,c0,J⟩,⟨o1,e1,_,d1⟩,⟨o2,e2,_,d2⟩,⟨o3,e3,_,d3⟩⟩ c B;simp only[zaF,zaG,or_false]at B;rcases B with rfl|rfl|rfl|rfl|rfl|rfl
  .exact{_,hz,λv q=>by cases q}
  .exact{_,G,λv q=>by cases q}
  .exact{_,J,λv q=>by cases q}
  .exact{o1,e1,λv q=>by rw[d1]at q;cases q}
  .exact{o2,e2,λv q=>by rw[d2]at q;cases q}
  .exact{o3,e3,λv q=>by rw[d3]at q;cases q}
 keep:=λi h h' ⟨hz,G,⟨a,b,c,J⟩,s1,s2,s3⟩ k=>{k z (by simp) _ hz,k TI (by simp) _ G,{a,b,c,k TO (by simp) _ J},s1.to λo e=>k W (by simp) o e,s2.to λo e=>k U (by simp) o e,s3.to λo e=>k N (by simp) o e}
 item:=by
  intro X hP hw hK B i pins s σ H E I hf st hg;subst hP hw hK;obtain⟨hz,G,⟨a,b,c0,J⟩,s1,s2,s3⟩:=st;obtain⟨xs,ys,ws,q1,q2,q3,az,ax,be⟩:=hg;obtain⟨ai,r1,p1⟩:=cM I q1;obtain⟨al,r2,p2⟩:=cM I q2;obtain⟨af,r3,p3⟩:=cM I q3;have e1:xs[i]?=b4 xs[i]:=by simp[az]
  have e2:ys[i]?=b4 ys[i]:=by simp[ax]
  have e3:ws[i]?=b4 ws[i]:=by simp[be]
  obtain⟨u,eu,ru⟩:=r1.get e1;obtain⟨v,ev,rv⟩:=r2.get e2;obtain⟨r,er,rr⟩:=r3.get e3;refine G6 D hz G J s1 s2 s3 p1 p2 p3 (x:=u) (y:=v) (u:=r) (by simpa using eu) (by simpa using ev) (by simpa using er) λh' a1 a2 a3 a4 bi a5 a6 hk=>{_,rfl,?_}
  refine wpAny_letOwnedTupleGo_zip (s:={s with heap:=h'}) a1 λh2 ba sb=>?_
  have zz:∀c,c∈[z,TI,TO,W,U,N]->c<s.heap.objs.size:=λc B=>by
   simp only[zaF,zaG,or_false]at B;rcases B with rfl|rfl|rfl|rfl|rfl|rfl
   .exact zai hz
   .exact zai G
   .exact zai J
   .obtain⟨o,e,_⟩:=s1;exact zai e
   .obtain⟨o,e,_⟩:=s2;exact zai e
   .obtain⟨o,e,_⟩:=s3;exact zai e
  have Y:∀c o,c≠z->h'.get? c=b4 o->h2.get? c=b4 o:=λc o B e=>sb.extBut _ _ B e
  have kp:∀c o,c∉[z,TI,TO,W,U,N]->s.heap.get? c=b4 o->h2.get? c=b4 o:=λc o B e=>by
   simp only[zaF,zaG,or_false,not_or]at B;exact Y c o B.1<|hk c o B.1 B.2.2.1 B.2.2.2.1 B.2.2.2.2.1 B.2.2.2.2.2 e
  have I1:Inv X pins σ H {s with heap:=h2,toks:=s.toks}:=dS I hf kp;have F:H s.heap.objs.size=cg:=I.fresh;have bb:c5 h2 s.heap.objs.size u v r:=Y _ _ (zaK<|zz z<|by simp) a5;have I2:Inv X pins σ (upd H s.heap.objs.size<|.tup [xs[i],ys[i],ws[i]]) {s with heap:=h2}:=by
   have bc:HOk X.prog X.w (upd H s.heap.objs.size<|.tup [xs[i],ys[i],ws[i]]) h2:=λc ob e=>by
    by_cases B:c=s.heap.objs.size
    .subst B;rw[aI]at e;cases e
     exact{by show 3<=zal;decide,[u,v,r],.cons ru<|.cons rv<|.cons rr .nil,_,bb,rfl,0,rfl,rfl}
    .rw[aF B]at e
     exact(I1.hok c ob e).stay (λ_ _ _ q=>q) (λd q=>by rw[aF<|aP q F];exact q) λd ag q=>by rw[aF<|aP q F];exact q
   refine I.call' (s':={s with heap:=h2}) (ch:=[z,TI,TO,W,U,N]) rfl {λc o e _ _ hx=>kp c o hx e,λc o e _ _ hx=>{o.slots,kp c o hx e},λc o e n hx=>by rw[aF<|zaB<|zai e];exact n,λc o e hx=>{o,kp c o hx e},λc ag q=>by rw[aF<|aP q F];exact q,λc o' u' q=>by rw[aF<|aP q F];exact q,λc ps q=>{#[],by rw[aF<|aP q F,q];simp}} bc I.bare λb hb=>?_
   obtain⟨_,f1,_,f3,f4,f5⟩:=hf b hb;exact{f3,f1,f4,f5}
  refine{.ref s.heap.objs.size,_,I2,rfl,{_,_,_,_,rfl,F,rfl,λb2 ag ck g1 g2 g3=>by rw[<- jS I q1 g1,<- jS I q2 g2,<- jS I q3 g3];exact{e1,e2,e3}},{ba,Y _ _ D.zT.1<|hk _ _ D.zT.1 D.zT.2.1 D.zT.2.2.1 D.zT.2.2.2.1 D.zT.2.2.2.2 G,{_,_,_,Y _ _ D.zO.1 a2},a3.to λo e=>Y _ o D.z1.1 e,a4.to λo e=>Y _ o D.z2.1 e,bi.to λo e=>Y _ o D.z3 e},λc B=>?_};rw[aF<|zaB<|zz c B];exact(hf c B).1
 done:=by
  intro X hP hw hK B i pins s σ H E I hf st hg;subst hP hw hK;obtain⟨hz,G,⟨a,b,c0,J⟩,s1,s2,s3⟩:=st;obtain⟨xs,ys,ws,q1,q2,q3,ak⟩:=hg;obtain⟨ai,r1,p1⟩:=cM I q1;obtain⟨al,r2,p2⟩:=cM I q2;obtain⟨af,r3,p3⟩:=cM I q3;have n1:=r1.length;have n2:=r2.length;have n3:=r3.length;refine HM (I.ok.hd B) D hz G J s1 s2 s3 p1 p2 p3 (ak.imp (λh=>by simp;lia) λh=>h.imp (λh=>by simp;lia) λh=>by simp;lia) λh' hk=>{rfl,dS (t':=s.toks) I hf λc o B e=>?_}
  simp only[zaF,zaG,or_false,not_or]at B;exact hk c o B.1 B.2.2.1 B.2.2.2.1 B.2.2.2.2.1 B.2.2.2.2.2 e
 self:=λ_ _ _ _ _ st h=>zeo st.1 h
def ZZ(n B F z:Nat)(h1:B<n)(h2:F<n)(G:z<n):ZB (n+5) (n+3) (n+4) n (n+1) (n+2) B F z:=by
 have ne:∀ {a b:Nat},a<b->(a:Nat)≠b:=λh=>zaB h
 have q:∀ {a b:Nat},b<a->(a:Nat)≠b:=λh=>zaK h
 exact{{ne<|by lia,ne<|by lia,q<|by lia,q<|by lia,q<|by lia},{ne<|by lia,q<|by lia,q<|by lia,q<|by lia},{ne<|by lia,ne<|by lia,ne<|by lia},{ne<|by lia,ne<|by lia},ne<|by lia,{ne<|by lia,ne<|by lia,ne<|by lia,ne<|by lia,ne<|by lia},{ne<|by lia,ne<|by lia,ne<|by lia,ne<|by lia,ne<|by lia},{ne<|by lia,ne<|by lia,ne<|by lia,ne<|by lia,ne<|by lia}}
def vals3(r:Vals [x,y,z] us):∃u w v,us=[u,w,v]/\RelV x u/\RelV y w/\RelV z v:=by
 cases r with
 |cons r1 r2=>obtain⟨u,w,rfl,a,b⟩:=vals2 r2;exact{_,_,_,rfl,r1,a,b}
def ZS(K:zaf)(ta:TA):TI:=λσ H R=>ta σ H λvs H1=>∃J G F z B q xs ys N,vs=[.ref z,.ref B,.ref q]/\m8 K J H1 z xs/\m8 K G H1 B ys/\m8 K F H1 q N/\R (ItY K J G F z B q) H1
def PL{F:List Expr}{x1}(hg:Gl X "zip")(hm:X.mg "zip" = cg)(ha:PA X [a,b,c] ta)(hs:zah [a,b,c] X.env=[(cr,eval a X.env),(cr,eval b X.env),(cr,eval c X.env)]:=by rfl)(G:zah [b,c] X.env=[(cr,eval b X.env),(cr,eval c X.env)]:=by rfl) :
  PI X (.Tuple F x1 tp) (.Call (.Name "zip" p) [a,b,c] [] pos) (ZS X.K ta):=by
 intro pins s σ H R I h;refine Call_ (fZ I hg hm My.boot_zip<|zcC (bN (ha pos pins s σ H _ I h) λus z ⟨vs,H1,B,r1,q1⟩=>?_) (by rw[hs,G])<|by rw[G];rfl);obtain⟨t1,t2,t3,l1,l2,l3,xs,ys,ws,rfl,q1,q2,q3,q⟩:=q1;obtain⟨u,v,r,rfl,ru,rv,rr⟩:=vals3 r1;cases ru;cases rv;cases rr;obtain⟨ah,_,p1⟩:=cM B q1;obtain⟨ag,_,p2⟩:=cM B q2;obtain⟨af,_,p3⟩:=cM B q3;have b1:l1<z.heap.objs.size:=by obtain⟨o,e,_⟩:=p1;exact zai e
 have b2:l2<z.heap.objs.size:=by obtain⟨o,e,_⟩:=p2;exact zai e
 have b3:l3<z.heap.objs.size:=by obtain⟨o,e,_⟩:=p3;exact zai e
 refine IR p1 p2 p3 λh' hz N W ab Y U k=>?_
 refine zeo hz ?_;have D:ZB (z.heap.objs.size+5) (z.heap.objs.size+3) (z.heap.objs.size+4) z.heap.objs.size (z.heap.objs.size+1) (z.heap.objs.size+2) l1 l2 l3:=ZZ _ _ _ _ b1 b2 b3;refine{_,[_,_,_,_,_,_],_,_,H1,rfl,B.kept (t':=z.toks) k,HD t1 t2 t3 D,{hz,N,{_,_,_,W},ab,Y,U},λc J=>B.fpOk ?_<|B.hok.fresh ?_,q}
 .simp only[zaF,zaG,or_false]at J
  rcases J with rfl|rfl|rfl|rfl|rfl|rfl <;> lia
 .simp only[zaF,zaG,or_false]at J
  rcases J with rfl|rfl|rfl|rfl|rfl|rfl <;> lia
end My
namespace P
def fT:List D->List D->List D->List D
 |x::xs,y::ys,z::zs=>.tup [x,y,z]::fT xs ys zs
 |_,_,_=>[]
def SL(f:Lv):Lv:=λρ=>(f ρ).bind λds=>match ds with
 |[a,b,c]=>(cS a).bind λxs=>(cS b).bind λys=>(cS c).map λzs=>fT xs ys zs
 |_=>cg
@[simp] theorem q_zip3:SL f ρ=(f ρ).bind λds=>match ds with
 |[a,b,c]=>(cS a).bind λxs=>(cS b).bind λys=>(cS c).map λzs=>fT xs ys zs
 |_=>cg:=rfl
theorem vQ:∀ {xs ys zs:List D} {i:Nat} {d:D},(fT xs ys zs)[i]?=b4 d->∃x y z,xs[i]?=b4 x/\ys[i]?=b4 y/\zs[i]?=b4 z/\d=.tup [x,y,z]
 |[],_,_,i,d,h=>by simp[fT]at h
 |_::_,[],_,i,d,h=>by simp[fT]at h
 |_::_,_::_,[],i,d,h=>by simp[fT]at h
 |x::xs,y::ys,z::zs,0,d,h=>by simp[fT]at h;exact{x,y,z,rfl,rfl,rfl,h.symm}
 |x::xs,y::ys,z::zs,i+1,d,h=>vQ (xs:=xs) (ys:=ys) (zs:=zs) (i:=i)<|by simpa[fT]using h
theorem vC:∀ {xs ys zs:List D} {i:Nat},(fT xs ys zs).length<=i->xs.length<=i\/ys.length<=i\/zs.length<=i
 |[],_,_,i,h=>.inl<|za1 _
 |_::_,[],_,i,h=>.inr<|.inl<|za1 _
 |_::_,_::_,[],i,h=>.inr<|.inr<|za1 _
 |x::xs,y::ys,z::zs,0,h=>by simp[fT]at h
 |x::xs,y::ys,z::zs,i+1,h=>(vC (xs:=xs) (ys:=ys) (zs:=zs) (i:=i)<|by simpa[fT]using h).imp (λz=>by simpa using z) λz=>z.imp (λz=>by simpa using z) λz=>by simpa using z
set_option tactic.hygienic true in
def J8{x1}(hg:Gl X "zip")(hm:X.mg "zip" = cg)(ha:B0 X O [a,b,c] f)(hs:zah [a,b,c] X.env=[(cr,eval a X.env),(cr,eval b X.env),(cr,eval c X.env)]:=by rfl)(af:zah [b,c] X.env=[(cr,eval b X.env),(cr,eval c X.env)]:=by rfl) :
  PDI X O (.Tuple elts x1 tp) (.Call (.Name "zip" p) [a,b,c] [] pos) (SL f):=PI.mono (My.PL hg hm ha hs af) λσ H R ⟨H0,A0,A,E,ρ,items,st,e,q⟩=>by
 obtain⟨ds,e1,e⟩:=bind_some e;refine{H0,A0,A,E,ρ,ds,st,e1,λvs H1 x1 r1=>?_};split at e
 case h_2=>cases e
 rename_i da db dc;obtain⟨xs,e2,e⟩:=bind_some e;obtain⟨ys,e3,e⟩:=bind_some e;obtain⟨zs,e4,rfl⟩:=map_some e;obtain⟨v,w,u,rfl,r2,r3,r4⟩:=r1.three;obtain⟨t1,Y,us,rfl,q1,_,k1⟩:=jQ (K:=X.K) e2 r2;obtain⟨t2,l2,ws,rfl,q2,_,k2⟩:=jQ (K:=X.K) e3 r3;obtain⟨t3,W,os,rfl,q3,_,k3⟩:=jQ (K:=X.K) e4 r4;refine{t1,t2,t3,Y,l2,W,us,ws,os,rfl,q1,q2,q3,q _ H1 [.rep da<|.ref Y,.rep db<|.ref l2,.rep dc<|.ref W] x1 (λp hp=>?_) ?_}
 .rcases List.mem_cons.mp hp with z|z
  .rw[z];exact r2
  .rcases List.mem_cons.mp z with z|z
   .rw[z];exact r3
   .rw[List.mem_singleton.mp z];exact r4
 .intro A' H' lv hE i
  have a1:Rep A' H' da<|.ref Y:=hE (.rep da<|.ref Y)<|zaw ..;have a2:Rep A' H' db<|.ref l2:=hE (.rep db<|.ref l2)<|zax _<|zaw ..;have a3:Rep A' H' dc<|.ref W:=hE (.rep dc<|.ref W)<|zax _<|zax _<|zaw ..;obtain⟨G,g1,U⟩:=k1 A' H' a1;obtain⟨B,g2,N⟩:=k2 A' H' a2;obtain⟨F,g3,J⟩:=k3 A' H' a3;refine{λhi=>{G,B,F,g1,g2,g3,(vC hi).imp (λz=>by rw[U.length];exact z) λz=>z.imp (λz=>by rw[N.length];exact z) λz=>by rw[J.length];exact z},λd hd=>?_};obtain⟨x,y,z,ex,ey,ez,rfl⟩:=vQ hd;obtain⟨u,eu,ru⟩:=U.get' ex;obtain⟨w,ew,ag⟩:=N.get' ey;obtain⟨o,eo,ro⟩:=J.get' ez;refine{{G,B,F,g1,g2,g3,(List.getElem?_eq_some_iff.mp eu).1,(List.getElem?_eq_some_iff.mp ew).1,(List.getElem?_eq_some_iff.mp eo).1},λx' H2 ⟨p,u',w',o',e4,n,e5,e6⟩=>?_};subst e4 e5;obtain⟨z1,z2,z3⟩:=e6 G B F g1 g2 g3;rw[eu]at z1;cases z1;rw[ew]at z2;cases z2;rw[eo]at z3;cases z3;exact{Ext.new n,.tup aI<|.cons (ru.ext<|Ext.new n)<|.cons (ag.ext<|Ext.new n)<|.cons (ro.ext<|Ext.new n) .nil}
def Fe(K:zaf)(x:Str)(st:Stmt)(f:Addr):Prop:=∃fd,Fun K x x st f fd
def Fe.mk{K:zaf}{st:Stmt}{kV z B q ct:Value}(l:K.lookup f=b4 {oc,od,.func<|zbK x x (d7 st) (b9 st) (aS st) .none kV z B an q ct,osl})(c:zcX K q x=cp)(k:zct K (.ref f)=cp):Fe K x st f:={_,MJ l c k}
def Fe.d{K:zaf}{st:Stmt}(h:Fe K x st f)(a:mg x=b4 (.ref f))(q:∀(kV doc pm:Value) (an:Option Addr) (cdv ct:Value) (us:List Value),us.length=ps.length->bindArgs (zbK x x (d7 st) (b9 st) (aS st) .none kV doc pm an cdv ct) {us,[]}=pure (ps.zip us)):My.DefAt K mg x st ps:=let ⟨fd,F⟩:=h;{{f,fd,F,F.binds q,a}}
section
variable {X:Cx}{L:Lp}{O O':List Nat}
def c0{st:Stmt}(h:jB X L O1 st f [])(k:dY X L [] sts g O3):dY X L O1 (st::sts) (bW f g) O3:=cn h k
def ss(i:Nat)(B:X.N.Nodup)(q:PD X O e f)(hi:X.N[i]?=b4 x:=by rfl)(F:Loc X.env.scope x:=by exact zbN rfl)(h:Sub O' (O.filter (· != i))=cp:=by rfl)(hs:za7 e (b4<|.Name x pos') pos.line X.env=pure cr:=by rfl)(z:X.fn x=cp\/X.env.scope.names.lookup x=b4 .local:=by first|exact .inl rfl|exact .inr rfl):jB X L O (.Assign [.Name x pos'] e pos) (dA i f) O':=EJ B hi F q h hs z
def gc(h1:B1 X O e g)(h2:D5 X O es k)(a:(zbh (e::es) X.env).map (·.2)=zbs e X.env::(zbh es X.env).map (·.2):=by rfl):D5 X O (e::es)<|bA g k:=HY (λx y=>LU x y a) h1 h2
def gu(n:Nat)(h:D5 X O es k)(q:X.calm=cp:=by rfl)(a:(zbh es X.env).length=n:=by rfl)(b:List.findIdx? (λx=>x.fst) (zbh es X.env)=cg:=by rfl):B1 X O (.Tuple es j pos)<|c9 n k:=Q1<|M0 q h a b
def tc(z:gC X (zar op) g)(B:PB X O a fa)(q:PB X O b fb)(h1:op≠CmpOp.In:=by decide)(h2:op≠CmpOp.NotIn:=by decide):pS X O (.Compare a [op] [b] pos)<|lJ<|bE g fa fb:=xC z B q<|DM _ h1 h2
end
end P
namespace P
def mon:List Int->List Int->Int
 |e::es,v::vs=>v^e.toNat*mon es vs
 |_,_=>1
def ev(vs:List Int)(F:List My.Tm):Int:=(F.map λt=>t.2*mon t.1 vs).sum
def nO(vs:List Int):ev vs []=0:=rfl
def bJ(vs:List Int)(t:My.Tm)(F:List My.Tm):ev vs (t::F)=t.2*mon t.1 vs+ev vs F:=by unfold ev;rw[zak,zdg]
def mN(vs:List Int)(t:My.Tm)(F:List My.Tm):ev vs (F++[t])=ev vs F+t.2*mon t.1 vs:=by
 induction F with
 |nil=>rw[ze9,bJ,nO];lia
 |cons u F ih=>rw[List.cons_append,bJ,bJ,ih];lia
def vO(h:k∉cs.map (·.1)):My.put cs k c=cs++[(k,c)]:=by
 unfold My.put;rw[cx];intro z;obtain⟨t,q,e⟩:=List.any_eq_true.mp z;exact h<|List.mem_map.mpr {t,q,of_decide_eq_true e}
theorem MB:∀ {F:List My.Tm},(F.map (·.1)).Nodup->k∈F.map (·.1)->ev vs (F.map λt=>if t.1=k then(t.1,c)else t)=ev vs F+(c-cf F k)*mon k vs
 |[],_,h=>nomatch h
 |t::F,q,h=>by
  rw[zak]at q;have q:=List.nodup_cons.mp q;rw[zak,bJ,bJ,FA];by_cases e:t.1=k
  .subst e
   have G:(F.map λu=>if u.1=t.1 then(u.1,c)else u)=F:=by
    conv=>rhs;rw[<- List.map_id F]
    refine zdf λu B=>?_
    rw[cx λz=>q.1<|by rw[<- z];exact zeD (f:=(·.1)) B];rfl
   rw[cw rfl,G,cw rfl,Int.sub_mul];dsimp only
   lia
  .rw[cx e,cx e,MB q.2 (by
    rcases List.mem_cons.mp (show k∈t.1::F.map (·.1)from h)with z|z
    .exact absurd z.symm e
    .exact z)]
   lia
def UW(z:(F.map (·.1)).Nodup):ev vs (My.put F k c)=ev vs F+(c-cf F k)*mon k vs:=by
 by_cases h:k∈F.map (·.1)
 .have:My.put F k c=F.map λt=>if t.1=k then(t.1,c)else t:=by
   unfold My.put;rw[cw];obtain⟨t,q,e⟩:=List.mem_map.mp h;exact List.any_eq_true.mpr {t,q,decide_eq_true e}
  rw[this,MB z h]
 .rw[vO h,mN,WQ h]
  dsimp only;rw[Int.sub_zero]
def DQ(q:(F.map (·.1)).Nodup)(h:c=cf F k+x):ev vs (My.put F k c)=ev vs F+x*mon k vs:=by
 rw[UW q,h];have:cf F k+x-cf F k=x:=by lia
 rw[this]
def O0(p:l.Perm m):ev vs l=ev vs m:=by
 induction p with
 |nil=>rfl
 |cons x _ ih=>rw[bJ,bJ,ih]
 |swap x y l=>rw[bJ,bJ,bJ,bJ];lia
 |trans _ _ a b=>rw[a,b]
def jN{M c:Int}:M∣c%M-c:=by
 have:c%M-c=-(c-c%M):=by lia
 rw[this];exact Int.dvd_neg.mpr zfc
theorem BK{M:Int}:∀l:List My.Tm,M∣ev vs (My.b7 M l)-ev vs l
 |[]=>{0,by simp[My.b7,ev]}
 |t::l=>by
  have ih:=BK (M:=M) (vs:=vs) l;by_cases h:t.2%M=0
  .have e:My.b7 M (t::l)=My.b7 M l:=by unfold My.b7;rw[zfd<|by simp[h]]
   rw[e,bJ];have h2:=zeE (c:=mon t.1 vs)<|Int.dvd_of_emod_eq_zero h;have:ev vs (My.b7 M l)-(t.2*mon t.1 vs+ev vs l)=(ev vs (My.b7 M l)-ev vs l)-t.2*mon t.1 vs:=by lia
   rw[this];exact Int.dvd_sub ih h2
  .have e:My.b7 M (t::l)=(t.1,t.2%M)::My.b7 M l:=by unfold My.b7;rw[List.filter_cons_of_pos<|by simp[h]];rfl
   rw[e,bJ,bJ];have h2:M∣(t.2%M-t.2)*mon t.1 vs:=zeE jN;rw[Int.sub_mul]at h2;dsimp only;have:t.2%M*mon t.1 vs+ev vs (My.b7 M l)-(t.2*mon t.1 vs+ev vs l)=(t.2%M*mon t.1 vs-t.2*mon t.1 vs)+(ev vs (My.b7 M l)-ev vs l):=by lia
   rw[this];exact zaR h2 ih
def Bx:List Int->List Int->Prop
 |[a],[x]=>0<=x/\x<=a
 |[a,b],[x,y]=>(0<=x/\x<=a)/\0<=y/\y<=b
 |_,_=>False
def f9:List Int->List Int->List Int
 |[x],[y]=>[x+y]
 |[x,a],[y,b]=>[x+y,a+b]
 |_,_=>[]
def Bx.shape:∀ {d k:List Int},Bx d k->(∃a x,d=[a]/\k=[x]/\0<=x/\x<=a)\/∃a b x y,d=[a,b]/\k=[x,y]/\(0<=x/\x<=a)/\0<=y/\y<=b
 |[a],[x],h=>.inl {a,x,rfl,rfl,h}
 |[a,b],[x,y],h=>.inr {a,b,x,y,rfl,rfl,h}
def Bx.mono(h:Bx d k)(g:Bx e d):Bx e k:=by
 rcases h.shape with⟨a,x,rfl,rfl,h⟩|⟨a,b,x,y,rfl,rfl,h⟩
 .rcases g.shape with⟨c,z,rfl,e,g⟩|⟨c,B,z,q,rfl,e,g⟩
  .cases e;exact{h.1,Int.le_trans h.2 g.2}
  .cases e
 .rcases g.shape with⟨c,z,rfl,e,g⟩|⟨c,B,z,q,rfl,e,g⟩
  .cases e
  .cases e;exact{{h.1.1,Int.le_trans h.1.2 g.1.2},h.2.1,Int.le_trans h.2.2 g.2.2}
def Bx.add(h:Bx d k)(g:Bx e j)(l:d.length=e.length):Bx (f9 d e)<|f9 k j:=by
 rcases h.shape with⟨a,x,rfl,rfl,h⟩|⟨a,b,x,y,rfl,rfl,h⟩
 .rcases g.shape with⟨c,z,rfl,rfl,g⟩|⟨c,B,z,q,rfl,rfl,g⟩
  .exact{Int.add_nonneg h.1 g.1,Int.add_le_add h.2 g.2}
  .cases l
 .rcases g.shape with⟨c,z,rfl,rfl,g⟩|⟨c,B,z,q,rfl,rfl,g⟩
  .cases l
  .exact{{Int.add_nonneg h.1.1 g.1.1,Int.add_le_add h.1.2 g.1.2},Int.add_nonneg h.2.1 g.2.1,Int.add_le_add h.2.2 g.2.2}
def OJ(h:Bx d k)(g:Bx e j)(l:d.length=e.length)(F:vs.length=d.length):mon (f9 k j) vs=mon k vs*mon j vs:=by
 rcases h.shape with⟨a,x,rfl,rfl,h⟩|⟨a,b,x,y,rfl,rfl,h⟩
 .rcases g.shape with⟨c,z,rfl,rfl,g⟩|⟨c,G,z,B,rfl,rfl,g⟩
  .obtain⟨v,rfl⟩:=List.length_eq_one_iff.mp F
   show v^(x+z).toNat*1=v^x.toNat*1*(v^z.toNat*1);rw[Int.toNat_add h.1 g.1,zdD];simp
  .cases l
 .rcases g.shape with⟨c,z,rfl,rfl,g⟩|⟨c,G,z,B,rfl,rfl,g⟩
  .cases l
  .obtain⟨v,u,rfl⟩:=iB F
   show v^(x+z).toNat*(u^(y+B).toNat*1)=v^x.toNat*(u^y.toNat*1)*(v^z.toNat*(u^B.toNat*1));rw[Int.toNat_add h.1.1 g.1.1,zdD,Int.toNat_add h.2.1 g.2.1,zdD];simp only[zbR];generalize v^x.toNat=p;generalize v^z.toNat=q;generalize u^y.toNat=r;generalize u^B.toNat=s;grind
structure Fk(d:List Int)(F:List My.Tm):Prop where
 nd:(F.map (·.1)).Nodup
 bx:∀t∈F,Bx d t.1
structure Fo(M:Int)(d:List Int)(F:List My.Tm):Prop where
 k:Fk d F
 cb:∀t∈F,0<=t.2/\t.2<M
theorem tP:∀(N:Nat) (l:List Nat),l.Nodup->(∀x∈l,x<N)->l.length<=N
 |0,[],_,_=>zam _
 |0,x::l,_,h=>absurd (h x<|zaw ..)<|ze1 _
 |N+1,l,nd,h=>by
  by_cases m:N∈l
  .have h1:=tP N (l.erase N) (nd.erase N) λx q=>by
    have:=(List.Nodup.mem_erase_iff nd).mp q;have:=h x this.2
    lia
   rw[List.length_erase_of_mem m]at h1
   lia
  .have:=tP N l nd λx q=>by
    have h1:=h x q;have:x≠N:=λz=>m<|z ▸ q
    lia
   lia
def R8:List Int->Nat
 |[x]=>x.toNat
 |[x,y]=>x.toNat*7+y.toNat
 |_=>0
def EB:List Int->Prop
 |[a]=>a<=6
 |[a,b]=>a<=6/\b<=6
 |_=>True
def Bx.enc_lt(l:EB d)(h:Bx d k):R8 k<49:=by
 rcases h.shape with⟨a,x,rfl,rfl,h⟩|⟨a,b,x,y,rfl,rfl,h⟩
 .have l:a<=6:=l;show x.toNat<49;lia
 .have l:a<=6/\b<=6:=l;show x.toNat*7+y.toNat<49;lia
def Bx.enc_inj(l:EB d)(h:Bx d k)(g:Bx d j)(e:R8 k=R8 j):k=j:=by
 rcases h.shape with⟨a,x,rfl,rfl,h⟩|⟨a,b,x,y,rfl,rfl,h⟩
 .rcases g.shape with⟨c,z,q,rfl,g⟩|⟨c,F,z,B,q,rfl,g⟩
  .have e:x.toNat=z.toNat:=e
   have:x=z:=by lia
   rw[this]
  .cases q
 .rcases g.shape with⟨c,z,q,rfl,g⟩|⟨c,F,z,B,q,rfl,g⟩
  .cases q
  .cases q
   have l:a<=6/\b<=6:=l;have e:x.toNat*7+y.toNat=z.toNat*7+B.toNat:=e;have h1:x=z:=by lia
   have h2:y=B:=by lia
   rw[h1,h2]
theorem MM(l:EB d):∀ {ks:List (List Int)},ks.Nodup->(∀k∈ks,Bx d k)->(ks.map R8).Nodup
 |[],_,_=>zc0
 |k::ks,B,h=>by
  have B:=List.nodup_cons.mp B;rw[zak];refine List.nodup_cons.mpr {λz=>?_,MM l B.2 λj q=>h j<|zax _ q};obtain⟨j,q,e⟩:=List.mem_map.mp z;have:=Bx.enc_inj l (h j<|zax _ q) (h k<|zaw ..) e;subst this;exact B.1 q
def Fk.len(h:Fk d F)(l:EB d):F.length<=49:=by
 have e:=MM l h.nd λk z=>by obtain⟨t,q,rfl⟩:=List.mem_map.mp z;exact h.bx t q
 have:=tP 49 _ e λx B=>by
  obtain⟨k,z,rfl⟩:=List.mem_map.mp B;obtain⟨t,q,rfl⟩:=List.mem_map.mp z;exact Bx.enc_lt l<|h.bx t q
 rw[zaj,zaj]at this;exact this
def Fk.nil(d:List Int):Fk d []:={zc0,λ_ h=>nomatch h}
theorem Fk.put(h:Fk d F)(b:Bx d k):Fk d<|My.put F k c:=⟨My.nE h.nd,λt q=>by
 rcases xP q with z|z
 .rw[z];exact b
 .exact h.bx t z⟩
theorem Fk.mono(h:Fk d F)(b:Bx e d):Fk e F:={h.nd,λt q=>(h.bx t q).mono b}
theorem Fo.mono(h:Fo M d F)(b:Bx e d):Fo M e F:={h.k.mono b,h.cb}
theorem Fo.nil(M:Int)(d:List Int):Fo M d []:={Fk.nil d,λ_ h=>nomatch h}
def Fk.form(h0:0<M)(h:Fk d T):Fo M d<|My.b7 M<|bK T:=by
 have p:=dD T;have z:∀t∈My.b7 M (bK T),∃u∈T,t.1=u.1/\t.2=u.2%M:=λt q=>by
  unfold My.b7 at q;obtain⟨u,B,rfl⟩:=List.mem_map.mp q;exact{u,p.subset (List.mem_filter.mp B).1,rfl,rfl}
 refine{{?_,λt q=>?_},λt q=>?_}
 .unfold My.b7
  rw[zaI];have e:((bK T).map (·.1)).Nodup:=(p.map _).nodup_iff.mpr h.nd;have s:((bK T).filter λt=>decide (t.2%M≠0)).Sublist<|bK T:=List.filter_sublist;exact(s.map (·.1)).nodup e
 .obtain⟨u,B,e,_⟩:=z t q
  rw[e];exact h.bx u B
 .obtain⟨u,B,_,e⟩:=z t q
  rw[e];exact{zay _<|zaX h0,zaz _ h0}
def qJ(T:List My.Tm):M∣ev vs (My.b7 M<|bK T)-ev vs T:=by
 have h:=BK (M:=M) (vs:=vs)<|bK T;rw[O0<|dD T]at h;exact h
theorem qH{M v:Int}:∀n:Nat,M∣nX M v n-v^n
 |0=>{0,by simp[nX]}
 |n+1=>by
  have ih:=qH (M:=M) (v:=v) n;have h1:M∣nX M v n*v%M-nX M v n*v:=jN;have h2:M∣(nX M v n-v^n)*v:=zeE ih;rw[Int.sub_mul]at h2;have:nX M v (n+1)-v^(n+1)=(nX M v n*v%M-nX M v n*v)+(nX M v n*v-v^n*v):=by
   rw[zca];show nX M v n*v%M-v^n*v=_
   lia
  rw[this];exact zaR h1 h2
def a8{M a b c d:Int}(h:M∣a-b)(g:M∣c-d):M∣a*c-b*d:=by
 have h1:M∣(a-b)*c:=zeE h;have h2:M∣b*(c-d):=Int.dvd_mul_of_dvd_right g;have:a*c-b*d=(a-b)*c+b*(c-d):=by grind
 rw[this];exact zaR h1 h2
def aQ(M a:Int):M∣a-a:={0,by lia}
theorem FZ{M:Int}(q:vs.length=d.length):∀ {F:List My.Tm},(∀t∈F,Bx d t.1)->M∣sumF M vs F-ev vs F
 |[],_=>{0,by simp[sumF,ev]}
 |t::F,h=>by
  have ih:=FZ q (M:=M) (F:=F) λu z=>h u<|zax _ z
  have b:=h t<|zaw ..;have e:sumF M vs (t::F)=prodF M vs t+sumF M vs F:=by unfold sumF;rw[zak,zdg]
  have p:M∣prodF M vs t-t.2*mon t.1 vs:=by
   obtain⟨k,c⟩:=t
   match d,k,vs,b,q with
   |[_],[x],[v],_,_=>
    show M∣c*nX M v x.toNat-c*(v^x.toNat*1);rw[zbR];exact a8 (aQ _ _)<|qH _
   |[_,_],[x,y],[v,u],_,_=>
    show M∣c*nX M v x.toNat*nX M u y.toNat-c*(v^x.toNat*(u^y.toNat*1));rw[zbR,<- zey];exact a8 (a8 (aQ _ _)<|qH _)<|qH _
  rw[e,bJ];have:prodF M vs t+sumF M vs F-(t.2*mon t.1 vs+ev vs F)=(prodF M vs t-t.2*mon t.1 vs)+(sumF M vs F-ev vs F):=by lia
  rw[this];exact zaR p ih
theorem zZ:∀q:List My.Tm,JB (q.map bP)=b4 (q.map kD)
 |[]=>rfl
 |t::q=>by
  show(B2<|tupI t.1).bind _=_;rw[asT_tupI,aA,zZ q];rfl
theorem E5:∀(qs ps:List My.Tm),((ps++qs).map (·.1)).Nodup->uF (ps.map kD) (qs.map kD)=(ps++qs).map kD
 |[],ps,_=>by rw[zcs];rfl
 |q::qs,ps,h=>by
  show uF (putD (ps.map kD) (q.1.map zan)<|.int q.2) (qs.map kD)=_;rw[NJ,vO,E5 qs<|ps++[(q.1,q.2)]]
  .simp
  .simpa using h
  .rw[za5,List.nodup_append]at h
   intro z;exact h.2.2 _ z _ (zaw ..) rfl
def IP{q:List My.Tm}(h:(q.map (·.1)).Nodup)(z:q.length<=1000):yA [.tup<|q.map bP]=b4 (.dT<|q.map kD):=by
 have h0:yA [.tup<|q.map bP]=(if a7 (q.map bP).length=cp then(JB<|q.map bP).map λkvs=>D.dT (uF [] kvs)else cg):=rfl;rw[h0,cw (show a7 (q.map bP).length=cp from decide_eq_true<|by rw[zaj];lia),zZ,aB];have:=E5 q [] (by simpa using h);rw[zbB,ze9]at this;rw[this]
def WL:((My.look cs k).map D.int).getD (.int 0)=.int (cf cs k):=by
 unfold cf;cases My.look cs k <;> rfl
def A9{κ:Type}[DecidableEq κ]:∀(l:List<|κ×D) (k j:κ) (d:D),b6 (putD l k d) j=if j=k then b4 d else b6 l j:=λl k j d=>by
 have q:∀l:List (κ×D),b6 (l.map λp=>if p.1=k then(p.1,d)else p) j=if j=k then(b6 l j).map λ_=>d else b6 l j:=λl=>by
  induction l with
  |nil=>by_cases e:j=k <;> simp[b6,e]
  |cons p l ih=>
   unfold b6 at ih ⊢;rw[zak,za0,za0];by_cases h:p.1=k
   .rw[cw h]
    by_cases e:j=k
    .subst e;simp[h]
    .have:¬ p.1=j:=λz=>e (z ▸ h)
     simp[this,e]at ih ⊢;exact ih
   .rw[cx h]
    by_cases e:j=k
    .subst e;simp[h]at ih ⊢;exact ih
    .by_cases B:p.1=j
     .simp[e,B]
     .simp[e,B]at ih ⊢;exact ih
 unfold putD;by_cases h:l.any (λp=>decide (p.1=k))=cp
 .rw[cw h,q]
  by_cases e:j=k
  .rw[cw e,cw e]
   subst e;obtain⟨p,F,B⟩:=List.any_eq_true.mp h;have:(b6 l j).isSome=cp:=by
    unfold b6;rw[zdX,List.find?_isSome];exact{p,F,B}
   cases hv:b6 l j with
   |none=>rw[hv]at this;cases this
   |some v=>rfl
  .rw[cx e,cx e]
 .rw[cx h]
  unfold b6;rw[zfa];by_cases e:j=k
  .subst e
   have:l.find? (λp=>decide (p.1=j))=cg:=List.find?_eq_none.mpr λp F z=>h<|List.any_eq_true.mpr ⟨p,F,z⟩
   simp[this]
  .have:¬ k=j:=λz=>e z.symm
   simp[e,this]
def LG{κ:Type}[DecidableEq κ](l:List<|κ×D)(k:κ)(d:D):(putD l k d).length<=l.length+1:=by
 unfold putD;by_cases h:l.any (λp=>decide (p.1=k))=cp
 .rw[cw h,zaj];lia
 .rw[cx h,zbp];simp
def fD(F:List My.Tm):D:=.tup<|F.map bP
def EZ(B:ρ[3]?=b4 (b4<|.dT<|T.map kD))(hi:ρ[i]?=b4 (b4<|tupI k))(F:X ρ=b4 (.int x))(J:T.length<=1000):yR 3 (aD i) (bE cC (uH (aD 3) (aD i)<|eC<|.int 0) X) ρ=b4 (.nx<|ρ.set 3<|b4<|.dT<|(My.put T k<|cf T k+x).map kD):=by
 have G:=ES (cs:=T) k (cf T k+x) (by lia);have z:aD 3 ρ=b4 (.dT<|T.map kD):=by rw[q_var,B];rfl
 have q:aD i ρ=b4 (tupI k):=by rw[q_var,hi];rfl
 have a:(uH (aD 3) (aD i)<|eC<|.int 0) ρ=b4 (.int<|cf T k):=by
  rw[q_get2,z,q,aA,aA,q_c,aA,look_kD,aB,WL]
 have b:(bE cC (uH (aD 3) (aD i)<|eC<|.int 0) X) ρ=b4 (.int<|cf T k+x):=by
  rw[q_op,a,aA,F,aA];rfl
 rw[q_put,b,aA,z,aA,q,aA,G,aB]
def sZ(l:List<|List Key×D)(k:List Int):cJ (.dT l) (tupI k)=b4 (b6 l<|k.map zan):=by
 show(B2<|tupI k).map _=_;rw[asT_tupI,aB]
def O9(k:List Int)(d:D)(h:l.length<=1000000):uK (.dT l) (tupI k) d=b4 (.dT<|putD l (k.map zan) d):=by
 show(B2<|tupI k).bind _=_;rw[asT_tupI,aA,cw<|by rw[a7];exact decide_eq_true h]
def pw(S:Nat->Int)(a:Int):Nat->Int
 |0=>0
 |n+1=>pw S a n+a^n*S n
theorem NA:∀n:Nat,pw (λe=>(if m=e then x else 0)+S e) a n=(if m<n then a^m*x else 0)+pw S a n
 |0=>by simp[pw]
 |n+1=>by
  rw[pw,pw,NA n,Int.mul_add];by_cases h:m=n
  .subst h
   rw[cx<|zbe _,cw rfl,cw<|zde _]
   lia
  .rw[cx h,Int.mul_zero]
   by_cases h2:m<n
   .rw[cw h2,cw<|by lia];lia
   .rw[cx h2,cx<|by lia];lia
def la(k:List Int):Int:=(k.getLast?).getD 0
def grp(a:List Int)(w:Int)(l:List My.Tm):Int:=(l.map λt=>if t.1.dropLast=a then t.2*w^(la t.1).toNat else 0).sum
def AC(a:List Int)(w:Int)(l:List My.Tm)(t:My.Tm):grp a w (l++[t])=grp a w l+if t.1.dropLast=a then t.2*w^(la t.1).toNat else 0:=by
 unfold grp;rw[za5,zak,zbB];induction l.map (λt=>if t.1.dropLast=a then t.2*w^(la t.1).toNat else 0)with
 |nil=>simp
 |cons x l ih=>rw[List.cons_append,zdg,zdg,ih];lia
def AS(a:List Int)(w:Int)(l:List My.Tm)(t:My.Tm):grp a w (t::l)=(if t.1.dropLast=a then t.2*w^(la t.1).toNat else 0)+grp a w l:=by
 unfold grp;rw[zak,zdg]
theorem E9:∀ {l:List My.Tm},(∀t∈l,Bx [d] t.1)->grp [] w l=ev [w] l
 |[],_=>rfl
 |t::l,h=>by
  have b:=h t<|zaw ..;rw[AS,bJ,E9 λu q=>h u<|zax _ q];obtain⟨k,c⟩:=t
  match k,b with
  |[x],_=>
   show(if([]:List Int)=[]then c*w^x.toNat else 0)+_=c*(w^x.toNat*1)+_;rw[cw rfl,zbR]
theorem FW{m:Nat}:∀ {l:List My.Tm},(∀t∈l,Bx [d,e] t.1/\∃x y,t.1=[x,y]/\x<=(m:Int))->pw (λj=>grp [(j:Int)] w l) a (m+1)=ev [a,w] l
 |[],_=>by
  have:∀n,pw (λj=>grp [(j:Int)] w []) a n=0:=λn=>by
   induction n with
   |zero=>rfl
   |succ n ih=>rw[pw,ih];simp[grp]
  rw[this];rfl
 |t::l,h=>by
  obtain⟨b,x,y,B,J⟩:=h t<|zaw ..;have ih:=FW (a:=a) (w:=w) λu G=>h u<|zax _ G
  obtain⟨k,c⟩:=t;dsimp only at B;subst B;have b:(0<=x/\x<=d)/\0<=y/\y<=e:=b;have F:(λj:Nat=>grp [(j:Int)] w<|([x,y],c)::l)=λj:Nat=>(if x.toNat=j then c*w^y.toNat else 0)+grp [(j:Int)] w l:=by
   funext j;rw[AS];congr 1;show(if [x]=[(j:Int)]then c*w^y.toNat else 0)=_;by_cases z:x.toNat=j
   .rw[cw (by rw[<- z,Int.toNat_of_nonneg b.1.1]),cw z]
   .rw[cx (λq=>z<|by have:=List.cons.inj q;lia),cx z]
  rw[F,NA,ih,cw<|by lia,bJ];show a^x.toNat*(c*w^y.toNat)+_=c*(a^x.toNat*(w^y.toNat*1))+_;rw[zbR];congr 1;generalize a^x.toNat=p;generalize w^y.toNat=q;grind
def QH(ts:List My.Tm):ev vs (My.bX ts)=ev vs ts:=by
 have q:∀(ts cs:List My.Tm),(cs.map (·.1)).Nodup->ev vs (ts.foldl My.m7 cs)=ev vs cs+ev vs ts:=λts=>by
  induction ts with
  |nil=>intro cs h;rw[List.foldl_nil,nO,Int.add_zero]
  |cons t ts ih=>
   intro cs h;rw[zcw,ih (My.m7 cs t)<|My.nE h,bJ];have:ev vs (My.m7 cs t)=ev vs cs+t.2*mon t.1 vs:=DQ h rfl;rw[this];lia
 have:=q ts [] zc0;rw[nO,Int.zero_add]at this;exact this
def fm(M:Int)(ts:List My.Tm):List My.Tm:=My.b7 M<|bK<|My.bX ts
def NP(h0:0<M)(h:∀t∈ts,Bx d t.1):Fo M d (fm M ts)/\∀vs,M∣ev vs (fm M ts)-ev vs ts:=by
 obtain⟨_,F,q⟩:=My.kP ts;have k:Fk d<|My.bX ts:={F,λt z=>by obtain⟨u,B,e⟩:=q t z;rw[<- e];exact h u B};refine{k.form h0,λvs=>?_};rw[<- QH ts];exact qJ _
theorem oX{M a b:Int}(h:M∣a-b):∀n:Nat,M∣a^n-b^n
 |0=>by rw[zdE,zdE];exact aQ M 1
 |n+1=>by rw[zca,zca];exact a8 (oX h n) h
theorem BH{M:Int}:∀ {vs us k:List Int},vs.length=us.length->(∀p∈vs.zip us,M∣p.1-p.2)->M∣mon k vs-mon k us
 |[],[],k,_,_=>by cases k <;> exact aQ M _
 |v::vs,u::us,[],_,_=>aQ M _
 |v::vs,u::us,e::k,l,h=>a8 (oX (h (v,u)<|zaw ..) _)<|BH (by simpa using l) λp q=>h p<|zax _ q
theorem xV{M:Int}(l:vs.length=us.length)(h:∀p∈vs.zip us,M∣p.1-p.2):∀F:List My.Tm,M∣ev vs F-ev us F
 |[]=>aQ M _
 |t::F=>by
  have ih:=xV l h F;have m:=a8 (aQ M t.2)<|BH (k:=t.1) l h;rw[bJ,bJ];have:t.2*mon t.1 vs+ev vs F-(t.2*mon t.1 us+ev us F)=(t.2*mon t.1 vs-t.2*mon t.1 us)+(ev vs F-ev us F):=by lia
  rw[this];exact zaR m ih
def dU{M a b:Int}(h:M∣a-b):a%M=b%M:=by
 obtain⟨c,q⟩:=h;have:a=b+M*c:=by lia
 rw[this,Int.add_mul_emod_self_left]
def Z7{M a b:Int}(h:a%M=b%M):M∣a-b:=by
 have h1:M∣a%M-a:=jN;have h2:M∣b%M-b:=jN;rw[h]at h1;have:a-b=(b%M-b)-(b%M-a):=by lia
 rw[this];exact Int.dvd_sub h2 h1
section
variable {X:Cx}{L:Lp}{O O':List Nat}
def cO(O2:List Nat){z O3:List Nat}{st:Stmt}{q:List Stmt}{f g:Sv}(h:jB X L z st f O2)(k:dY X L O2 q g O3):dY X L z (st::q) (bW f g) O3:=cn h k
def wt{x1}(h:B0 X O es g)(q:Len g es.length)(z:Nat.ble es.length 100=cp:=by rfl):PD X O (.Tuple es x1 pos)<|gQ g:=D0 h λρ ds k=>by rw[q ρ ds k];exact zfe z
def wl(h:B0 X O es g)(q:Len g es.length)(z:Nat.ble es.length 100=cp:=by rfl):PF X O (.List es pos)<|u3 g:=M4 h λρ ds k=>by rw[q ρ ds k];exact zfe z
def wE(O':Fn X.prog X.w X.K X.mg X.base x k ps F)(z:Room j X.A)(B:B0 X O (e::es) f)(J:Len f ps.length)(U:k<=j)(N:Gl X x:=by rfl)(q:(x == ("__debug__" : Str))=cr:=by decide)(hs:isStar e=cr:=by rfl)(G:(es.all λe=>!isStar e)=cp:=by rfl):PD X O (.Call (.Name x p) (e::es) [] pos)<|aW F f:=cD O' (z.mono U) B J N q hs G
def qa2{e:Expr}{es:List Expr}{f:Lv}{p pos:Pos}(z:X.mg "len" = cg)(q:uN X O (e::es) f)(B:Gl X "len")(hs:isStar e=cr)(F:((es:List Expr).all λe=>!isStar e)=cp):PD X O (.Call (.Name "len" p) (e::es) [] pos)<|aW cE f:=cB XF z My.boot_len q B (by decide) (by decide) hs F
def qaW{e:Expr}{es:List Expr}{f:Lv}{p pos:Pos}(z:X.mg "tuple" = cg)(q:uN X O (e::es) f)(B:Gl X "tuple")(hs:isStar e=cr)(F:((es:List Expr).all λe=>!isStar e)=cp):PD X O (.Call (.Name "tuple" p) (e::es) [] pos)<|aW lA f:=cTy tJ z My.boot_tuple q B (by decide) (by decide) hs F
def qbn{e:Expr}{es:List Expr}{f:Lv}{p pos:Pos}(z:X.mg "int" = cg)(q:uN X O (e::es) f)(B:Gl X "int")(hs:isStar e=cr)(F:((es:List Expr).all λe=>!isStar e)=cp):PD X O (.Call (.Name "int" p) (e::es) [] pos)<|aW I0 f:=cTy VZ z My.boot_int q B (by decide) (by decide) hs F
def qbs{e:Expr}{es:List Expr}{f:Lv}{p pos:Pos}(z:X.mg "list" = cg)(q:uN X O (e::es) f)(B:Gl X "list")(hs:isStar e=cr)(F:((es:List Expr).all λe=>!isStar e)=cp):PF X O (.Call (.Name "list" p) (e::es) [] pos)<|aW wH f:=fTy Q2 z My.boot_list q B (by decide) (by decide) hs F
def YU{q:Expr}{e:Expr}{es:List Expr}{f:Lv}{p pos:Pos}(B:X.calm=cp)(F:X.mg "min" = cg)(z:uN X O [e,q] f)(J:Gl X "min")(hs:isStar e=cr)(G:(([q]:List Expr).all λe=>!isStar e)=cp):PD X O (.Call (.Name "min" p) [e,q] [] pos)<|aW GC f:=cB (PJ B) F My.boot_min z J (by decide) (by decide) hs G
def YZ{q:Expr}{e:Expr}{es:List Expr}{f:Lv}{p pos:Pos}(B:X.calm=cp)(F:X.mg "max" = cg)(z:uN X O [e,q] f)(J:Gl X "max")(hs:isStar e=cr)(G:(([q]:List Expr).all λe=>!isStar e)=cp):PD X O (.Call (.Name "max" p) [e,q] [] pos)<|aW GL f:=cB (QE B) F My.boot_max z J (by decide) (by decide) hs G
def ZL{e:Expr}{es:List Expr}{f:Lv}{p pos:Pos}(z:X.calm=cp)(B:X.mg "max" = cg)(q:uN X O [e] f)(G:Gl X "max")(hs:isStar e=cr)(F:(([]:List Expr).all λe=>!isStar e)=cp):PD X O (.Call (.Name "max" p) [e] [] pos)<|aW BR f:=cB (RQ z) B My.boot_max q G (by decide) (by decide) hs F
def Z2{e:Expr}{f:Ev}{p p2 pos:Pos}(G:PB X O e f)(F:X.mg "isinstance" = cg)(q:X.mg "int" = cg)(J:Gl X "isinstance")(z:Gl X "int")(h1:zah [e,.Name "int" p2] X.env=(cr,eval e X.env)::zah [.Name "int" p2] X.env)(h2:(zaJ pos<|zah [.Name "int" p2] X.env).any (·.1)=cr)(B:zah [.Name "int" p2] X.env=(cr,eval (.Name "int" p2) X.env)::zah [] X.env):PD X O (.Call (.Name "isinstance" p) [e,.Name "int" p2] [] pos)<|JD "int" f:=xY RI J F z q My.boot_int G (by decide) (by decide) h1 h2 B
def W4{e:Expr}{f:Ev}{p p2 pos:Pos}(G:PB X O e f)(F:X.mg "isinstance" = cg)(q:X.mg "bool" = cg)(J:Gl X "isinstance")(z:Gl X "bool")(h1:zah [e,.Name "bool" p2] X.env=(cr,eval e X.env)::zah [.Name "bool" p2] X.env)(h2:(zaJ pos<|zah [.Name "bool" p2] X.env).any (·.1)=cr)(B:zah [.Name "bool" p2] X.env=(cr,eval (.Name "bool" p2) X.env)::zah [] X.env):PD X O (.Call (.Name "isinstance" p) [e,.Name "bool" p2] [] pos)<|JD "bool" f:=xY K4 J F z q My.boot_bool G (by decide) (by decide) h1 h2 B
def P1{e:Expr}{f:Ev}{p p2 pos:Pos}(G:PB X O e f)(F:X.mg "isinstance" = cg)(q:X.mg "tuple" = cg)(J:Gl X "isinstance")(z:Gl X "tuple")(h1:zah [e,.Name "tuple" p2] X.env=(cr,eval e X.env)::zah [.Name "tuple" p2] X.env)(h2:(zaJ pos<|zah [.Name "tuple" p2] X.env).any (·.1)=cr)(B:zah [.Name "tuple" p2] X.env=(cr,eval (.Name "tuple" p2) X.env)::zah [] X.env):PD X O (.Call (.Name "isinstance" p) [e,.Name "tuple" p2] [] pos)<|JD "tuple" f:=xY kit_tuple J F z q My.boot_tuple G (by decide) (by decide) h1 h2 B
def UY{e:Expr}{f:Ev}{p p2 pos:Pos}(G:PB X O e f)(F:X.mg "isinstance" = cg)(q:X.mg "list" = cg)(J:Gl X "isinstance")(z:Gl X "list")(h1:zah [e,.Name "list" p2] X.env=(cr,eval e X.env)::zah [.Name "list" p2] X.env)(h2:(zaJ pos<|zah [.Name "list" p2] X.env).any (·.1)=cr)(B:zah [.Name "list" p2] X.env=(cr,eval (.Name "list" p2) X.env)::zah [] X.env):PD X O (.Call (.Name "isinstance" p) [e,.Name "list" p2] [] pos)<|JD "list" f:=xY K7 J F z q My.boot_list G (by decide) (by decide) h1 h2 B
def rSl{e:Expr}{lo hi:Option Expr}{p2 pos:Pos}{f:Ev}{a b:Ov}(z:PB X O e f)(q:S9 X O lo a)(B:S9 X O hi b):PD X O (.Subscript e (.Slice lo hi cg p2) pos)<|OA lF f a b:=LO qaJ z q B
def rIt{a b:Expr}{pos:Pos}{q z:Ev}(B:X.A.units+1<cLine)(F:PB X O a q)(G:PB X O b z)(hs:xJ b:=by exact λ_ _=>rfl):PD X O (.Subscript a b pos)<|bE aN q z:=EQ B F G hs
def qaY{a b:Expr}{pos:Pos}{q z:Ev}{j:Nat}(B:Room j X.A)(F:PB X O a q)(G:PB X O b z)(J:zcf .In b=cr):pS X O (.Compare a [.In] [b] pos)<|lJ<|bE IZ q z:=xC (VJ B.units) F G J
def qaX{a b:Expr}{pos:Pos}{q z:Ev}{j:Nat}(B:Room j X.A)(F:PB X O a q)(G:PB X O b z)(J:zcf .NotIn b=cr):pS X O (.Compare a [.NotIn] [b] pos)<|lJ<|bE fS q z:=xC (IC B.units) F G J
def rCm{a b:Expr}{op:CmpOp}{pos:Pos}{g:D->D->Option D}{q z:Ev}(G:gC X (zar op) g)(B:PB X O a q)(F:PB X O b z)(h1:op≠CmpOp.In)(h2:op≠CmpOp.NotIn):PD X O (.Compare a [op] [b] pos)<|bE g q z:=MH G B F<|DM _ h1 h2
def rJn{o e:Expr}{apos cpos:Pos}{z B:Ev}(J:PB X O o z)(G:PB X O e B)(W:zcJ o "join" X.env (eval o X.env)=eval o X.env)(Y:((((zaJ cpos<|zah [e] X.env).all λx=>!x.fst) && (zcE cpos<|zcF [] X.env).all λx=>x.fst.isSome) && decide (([e].length+([]:List zbH).length+if([]:List zbH).isEmpty=cp then 0 else 1)<30))=cp)(U:(apos.endLine == cpos.line)=cp)(q:zah [e] X.env=(cr,eval e X.env)::zah [] X.env)(N:((zaJ cpos<|zah [] X.env).any λx=>x.fst)=cr):PD X O (.Call (.Attribute o "join" apos) [e] [] cpos)<|bE wF z B:=Q0 J G (λa b=>GD PySem.F.plainAttrs_str PySem.F.slot_str_join PySem.F.type_str_join My.RF a b W Y U q N) q
def rSo{o:Expr}{f:Ev}{p pos apos cpos:Pos}{j:Nat}(z:Room j X.A)(G:X.mg "sorted" = cg)(N:PB X O o f)(B:X.calm=cp)(U:Gl X "sorted")(h1:zcJ o "items" X.env (eval o X.env)=eval o X.env)(h2:(apos.endLine == cpos.line)=cp)(J:zah [.Call (.Attribute o "items" apos) [] [] cpos] X.env=(cr,eval (.Call (.Attribute o "items" apos) [] [] cpos) X.env)::zah [] X.env)(q:(zaJ pos<|zah [] X.env).any (·.1)=cr):PF X O (.Call (.Name "sorted" p) [.Call (.Attribute o "items" apos) [] [] cpos] [] pos)<|wI tT f:=CN B z.units U G N (λh=>VH PySem.F.slot_dict_items PySem.F.type_dict_items My.L6 h h1 h2) J q
def xEq{j:Nat}(q:Room j X.A):gC X (zar .Eq) pZ:=ZP q.units
def xNe{j:Nat}(q:Room j X.A):gC X (zar .NotEq) EE:=Z4 q.units
def xLt{j:Nat}(q:Room j X.A):gC X (zar .Lt) dLt:=VY q.units0
def At(l:List Str)(x:Str)(i:Nat):Prop:=l[i]?=b4 x
def at_(i:Nat){l:List Str}{x:Str}(h:l[i]?=b4 x:=by eq_refl):At l x i:=h
def vB{i:Nat}{x:Str}{p:Pos}(h:At X.N x i)(q:X5 X.env.scope x)(z:(x == ("__debug__" : Str))=cr)(B:(x == ("__classdict__" : Str))=cr):PB X O (.Name x p)<|aD i:=VP i<|pv i h q z B
def vD{i:Nat}{x:Str}{p:Pos}(h:At X.N x i)(n:O.contains i=cr)(q:X5 X.env.scope x)(z:(x == ("__debug__" : Str))=cr)(B:(x == ("__classdict__" : Str))=cr):PD X O (.Name x p)<|aD i:=VG i (pv i h q z B)<|by simpa using n
def gV{i:Nat}{x:Str}{pos:Pos}(h:At X.N x i)(n:O.contains i=cr)(z:X.N.Nodup)(B:Loc X.env.scope x)(q:X.fn x=cp\/X.env.scope.names.lookup x=b4 .local):B1 X O (.Name x pos)<|aO i:=AG (F2 z h B q) n
def aH(i:Nat)(q:PD X O e f:=by trivial)(B:X.N.Nodup:=by assumption)(hi:X.N[i]?=b4 x:=by rfl)(F:Loc X.env.scope x:=by first|exact zbN rfl|exact zcj rfl)(h:Sub O' (O.filter (· != i))=cp:=by rfl)(hs:za7 e (b4<|.Name x pos') pos.line X.env=pure cr:=by rfl)(z:X.fn x=cp\/X.env.scope.names.lookup x=b4 .local:=by first|exact .inl rfl|exact .inr rfl):jB X L O (.Assign [.Name x pos'] e pos) (dA i f) O':=EJ B hi F q h hs z
def bU(i:Nat)(z:PF X O e f:=by trivial)(B:X.N.Nodup:=by assumption)(hi:X.N[i]?=b4 x:=by rfl)(q:Loc X.env.scope x:=by first|exact zbN rfl|exact zcj rfl)(h:Sub O' (i::O)=cp:=by rfl)(F:O.contains i=cr:=by rfl)(hs:za7 e (b4<|.Name x pos') pos.line X.env=pure cr:=by rfl)(G:X.fn x=cp\/X.env.scope.names.lookup x=b4 .local:=by first|exact .inl rfl|exact .inr rfl):jB X L O (.Assign [.Name x pos'] e pos) (dA i f) O':=LD B hi q z h F hs G
def eG(i:Nat)(q:PD X O e f:=by trivial)(B:PE X o<|yL i:=by exact pv _)(J:mem O i=cp:=by rfl)(G:zcJ o "append" X.env (eval o X.env)=eval o X.env:=by rfl)(W:((((zaJ cpos<|zah [e] X.env).all λx=>!x.fst) && (zcE cpos<|zcF [] X.env).all λx=>x.fst.isSome) && decide (([e].length+([]:List zbH).length+if([]:List zbH).isEmpty=cp then 0 else 1)<30))=cp:=by rfl)(U:(apos.endLine == cpos.line)=cp:=by rfl)(z:zah [e] X.env=(cr,eval e X.env)::zah [] X.env:=by rfl)(N:((zaJ cpos<|zah [] X.env).any λx=>x.fst)=cr:=by rfl)(hs:za7 (.Call (.Attribute o "append" apos) [e] [] cpos) cg pos.line X.env=pure cr:=by rfl)(h:Sub O' O=cp:=by rfl):jB X L O (.Expr (.Call (.Attribute o "append" apos) [e] [] cpos) pos) (D6 i f) O':=C7 B q J (GD zff PySem.F.slot_list_append PySem.F.type_list_append vP B (fQ (PD.pe q) k9 (hs:=z)) G W U z N) hs h
def aL(q:PD X O e f:=by trivial):dY X L O [.Return (b4 e) pos] (JM f) O':=aC<|R0 q
def qaV(B:dY X L O a f O')(q:dY X L O b k O')(z:pS X O c g:=by trivial):jB X L O (.If c a b pos) (wL g f k) O':=D3 z B q
def aZ(z:dY X L O a f O')(q:pS X O c g:=by trivial)(h:Sub O' O=cp:=by rfl):jB X L O (.If c a [] pos) (wL g f B4) O':=D3 q z<|FX h
def qbj{st:Stmt}:dY X L O [st] SA O':=aC G4
def dI{c:Expr}{st:Stmt}{pos:Pos}{g:Bv}(q:pS X O c g:=by trivial)(h:Sub O' O=cp:=by rfl):jB X L O (.If c [st] [] pos) (wL g SA B4) O':=D3 q qbj<|FX h
def aV(q z:List Nat)(F:dY X {z,q} q body b q)(hi:PDI X O tg iter f:=by trivial)(N:B1 X q tg g:=by trivial)(J:zcU (model X.prog X.w) X.A X.env X.xe:=by exact PassesOwn.never)(G:X.calm=cp:=by rfl)(h1:Sub q O=cp:=by rfl)(h2:Sub O' q=cp:=by rfl)(B:Sub O' z=cp:=by rfl)(hs:∀x,zbT iter X.env x=pure x:=by intro _;rfl):jB X L O (.For tg iter body [] pos) (iD f g b) O':=OI J G hi N F h1 h2 B hs
def SO(q z:List Nat)(F:dY X {z,q} q body b q)(G:pS X q c g:=by trivial)(J:zcU (model X.prog X.w) X.A X.env X.xe:=by exact PassesOwn.never)(h1:Sub q O=cp:=by rfl)(h2:Sub O' q=cp:=by rfl)(B:Sub O' z=cp:=by rfl):jB X L O (.While c body [] pos) (t8 g b) O':=IL J G F h1 h2 B
def mU(i:Nat)(B:PD X O value fe:=by trivial)(J:PB X O k fk:=by trivial)(z:X.A.units+1<cLine:=by assumption)(F:PE X o<|yL i:=by exact pv _)(N:mem O i=cp:=by rfl)(h:Sub O' O=cp:=by rfl)(hs:za7 value (b4<|.Subscript o k pos') pos.line X.env=pure cr:=by rfl)(q:zdI [.Subscript o k pos'] value pos.line X.env=pure cr:=by rfl)(hw:zdJ [.Subscript o k pos'] value X.env=pure cg:=by rfl)
  (G:∀ {to ti:TE} {t:NW},PE X o to->PE X k ti->SD X t->PG X (.Subscript o k pos') (XW to ti t):=by intro _ _ _ a b c;exact MD a b c):jB X L O (.Assign [.Subscript o k pos'] value pos) (yR i fk fe) O':=OX z F J B N h hs q hw G
def uC(q:PB X O e f:=by trivial)(hs:za7 e cg pos.line X.env=pure cr:=by rfl)(h:Sub O' O=cp:=by rfl):jB X L O (.Expr e pos) (NU f) O':=L1 q hs h
def eV(σ:zab)(N:List Str)(ms:List<|Option Nat)(hi:PDI X O tg iter it:=by trivial)(J:∀C s H fp,N.Nodup->B1 (My.aX X N scope (gT X.env.cells scope.names []) C s H fp) [] tg g:=by intros;trivial)(F:∀C s H fp,My.GP (My.aX X N scope (gT X.env.cells scope.names []) C s H fp) ifs<|tDT [] c:=by intros;trivial)(G:∀C s H fp,PD (My.aX X N scope (gT X.env.cells scope.names []) C s H fp) [] elt f:=by intros;trivial)
  (z:X.env.cells=zcG (σ.heap.objs.size+1) X.env.scope.names []:=by rfl) (q:dB X scope N ms:=by repeat' first|exact zbi|exact rfl|exact zbN rfl|constructor) (U:N.Nodup:=by decide)
  (B:X.calm=cp:=by rfl) (Y:scope.kind=.function:=by rfl) (h:GK scope.names X.env.scope.names=cp:=by rfl) (W:(ms.all λo=>match o with|some i=>!O.contains i|none=>cp)=cp:=by rfl) (hs:∀x,zbT iter X.env x=pure x:=by intro _;rfl):PF X O (.ListComp elt [{tg,iter,ifs,0}] scope pos)<|gP ms it g c f:=P2 B (DK Y h z) q W hi (λC s H fp=>J C s H fp U) F G hs
def TV(i:Nat)(σ:zab)(N:List Str)(ms:List<|Option Nat)(hi:PDI X O tg iter it:=by trivial)(hg:∀C s H fp,N.Nodup->B1 (My.aX X N scope (gT X.env.cells scope.names []) C s H fp) [] tg g:=by intros;trivial)(W:∀C s H fp,My.GP (My.aX X N scope (gT X.env.cells scope.names []) C s H fp) ifs<|tDT [] c:=by intros;trivial)(he:∀C s H fp,PD (My.aX X N scope (gT X.env.cells scope.names []) C s H fp) [] elt f:=by intros;trivial)
  (G:X.env.cells=zcG (σ.heap.objs.size+1) X.env.scope.names []:=by rfl) (F:dB X scope N ms:=by repeat' first|exact zbi|exact rfl|exact zbN rfl|constructor) (hN:N.Nodup:=by decide)
  (J:X.calm=cp:=by rfl) (hk:scope.kind=.function:=by rfl) (h:GK scope.names X.env.scope.names=cp:=by rfl) (hn:(ms.all λo=>match o with|some i=>!O.contains i|none=>cp)=cp:=by rfl) (hs:∀x,zbT iter X.env x=pure x:=by intro _;rfl)
  (U:X.N.Nodup:=by assumption) (z:X.N[i]?=b4 x:=by rfl) (Y:Loc X.env.scope x:=by first|exact zbN rfl|exact zcj rfl) (q:Sub O' (O.filter (· != i))=cp:=by rfl) (B:za7 (.ListComp elt [{tg,iter,ifs,0}] scope pos) (b4<|.Name x pos') spos.line X.env=pure cp:=by rfl) (hf:X.fn x=cp\/X.env.scope.names.lookup x=b4 .local:=by first|exact .inl rfl|exact .inr rfl) :
  jB X L O (.Assign [.Name x pos'] (.ListComp elt [{tg,iter,ifs,0}] scope pos) spos) (dA i<|gP ms it g c f) O':=KR U z Y J (DK hk h G) F hn hi (λC s H fp=>hg C s H fp hN) W he q hs B hf
def OT(i:Nat)(σ:zab)(N:List Str)(ms:List<|Option Nat)(hi:PDI X O tg iter it:=by trivial)(hg:∀C s H fp,N.Nodup->B1 (My.aX X N scope (gT X.env.cells scope.names []) C s H fp) [] tg g:=by intros;trivial)(Y:∀C s H fp,My.GP (My.aX X N scope (gT X.env.cells scope.names []) C s H fp) ifs<|tDT [] c:=by intros;trivial)(he:∀C s H fp,PD (My.aX X N scope (gT X.env.cells scope.names []) C s H fp) [] elt f:=by intros;trivial)
  (J:X.env.cells=zcG (σ.heap.objs.size+1) X.env.scope.names []:=by rfl) (F:dB X scope N ms:=by repeat' first|exact zbi|exact rfl|exact zbN rfl|constructor) (hN:N.Nodup:=by decide)
  (U:X.calm=cp:=by rfl) (hk:scope.kind=.function:=by rfl) (h:GK scope.names X.env.scope.names=cp:=by rfl) (hn:(ms.all λo=>match o with|some i=>!O.contains i|none=>cp)=cp:=by rfl) (hs:∀x,zbT iter X.env x=pure x:=by intro _;rfl)
  (W:X.N.Nodup:=by assumption) (z:X.N[i]?=b4 x:=by rfl) (hl:Loc X.env.scope x:=by first|exact zbN rfl|exact zcj rfl) (q:Sub O' (i::O)=cp:=by rfl) (G:O.contains i=cr:=by rfl) (B:za7 (.ListComp elt [{tg,iter,ifs,0}] scope pos) (b4<|.Name x pos') spos.line X.env=pure cp:=by rfl) (hf:X.fn x=cp\/X.env.scope.names.lookup x=b4 .local:=by first|exact .inl rfl|exact .inr rfl) :
  jB X L O (.Assign [.Name x pos'] (.ListComp elt [{tg,iter,ifs,0}] scope pos) spos) (dA i<|gP ms it g c f) O':=IA W z hl U (DK hk h J) F hn hi (λC s H fp=>hg C s H fp hN) Y he q G hs B hf
end
def fx{Q:zap}{w:World}{K:zaf}{mg:Str->Option Value}{base:Heap}{x:Str}{k:Nat}{ps:List Str}{F:List D->Option D}(B:List D->Option D)(h:Fn Q w K mg base x k ps F)(e:F=B:=by rfl):Fn Q w K mg base x k ps B:=e ▸ h
def X0:List Str->(List Value->Prop)->Prop
 |[],Q=>Q []
 |_::ps,Q=>∀u,X0 ps λus=>Q<|u::us
def PH{ps:List Str}{Q:List Value->Prop}(h:X0 ps Q){us:List Value}(e:us.length=ps.length):Q us:=by
 induction ps generalizing us Q with
 |nil=>rw[List.length_eq_zero_iff.mp e];exact h
 |cons a ps ih=>
  cases us with
  |nil=>cases e
  |cons u us=>exact ih (h u)<|Nat.succ.inj e
def Bd(st:Stmt)(x:Str)(ps:List Str):Prop:=∀(kV doc pm:Value) (an:Option Addr) (cdv ct:Value),X0 ps λus=>bindArgs (zbK x x (d7 st) (b9 st) (aS st) .none kV doc pm an cdv ct) {us,[]}=pure (ps.zip us)
def De(K:zaf)(x:Str)(st:Stmt):Prop:=∃f,zcz K za3 x=b4 (b4<|.ref f)/\Fe K x st f
def Des(K:zaf)(tp:Nat->Stmt)(t:List<|Str×Nat×List Str):Prop:=∀p∈t,De K p.1<|tp p.2.1
def Des.nil{K:zaf}{tp:Nat->Stmt}:Des K tp []:=λ_ h=>nomatch h
def Des.cons{K:zaf}{tp:Nat->Stmt}{x:Str}{i:Nat}{ps:List Str}{t:List (Str×Nat×List Str)}{f:Addr}{F:Value}{od J:Option Addr}{B:Array (Option Value)}{kV z G q ct:Value}(a:zcz K za3 x=b4 (b4<|.ref f))(l:K.lookup f=b4 {F,od,.func<|zbK x x (d7<|tp i) (b9<|tp i) (aS<|tp i) .none kV z G J q ct,B})(c:zcX K q x=cp)(k:zct K (.ref f)=cp)(r:Des K tp t):Des K tp<|(x,i,ps)::t:=
 zeF.2 {{f,a,Fe.mk l c k},r}
def Bds(tp:Nat->Stmt)(t:List<|Str×Nat×List Str):Prop:=∀p∈t,Bd (tp p.2.1) p.1 p.2.2
def Bds.nil:Bds tp []:=λ_ h=>nomatch h
def Bds.cons(a:Bd (tp i) x ps)(r:Bds tp t):Bds tp<|(x,i,ps)::t:=zeF.2 {a,r}
theorem Des.d{K:zaf}{h:Heap}{mg:Str->Option Value}{tp:Nat->Stmt}{t:List (Str×Nat×List Str)}(X:K.In h)(G:h.Ns za3 mg)(D:Des K tp t)(B:Bds tp t):∀p∈t,My.DefAt K mg p.1 (tp p.2.1) p.2.2:=λp F=>let ⟨_,a,e⟩:=D p F;e.d (zeG X G a) λkV q J N z ct us=>PH<|B p F kV q J N z ct
def Nos(K:zaf)(t:List Str):Prop:=∀x∈t,zcz K za3 x=b4 cg
def Nos.nil{K:zaf}:Nos K []:=λ_ h=>nomatch h
def Nos.cons{K:zaf}{x:Str}{t:List Str}(a:zcz K za3 x=b4 cg)(r:Nos K t):Nos K<|x::t:=zeF.2 {a,r}
def Gis(K:zaf)(t:List<|Str×Int):Prop:=∀p∈t,∃k,zcz K za3 p.1=b4 (b4<|.int p.2 k)
def Gis.nil{K:zaf}:Gis K []:=λ_ h=>nomatch h
def Gis.cons{K:zaf}{x:Str}{n:Int}{k:Tok}{t:List (Str×Int)}(a:zcz K za3 x=b4 (b4<|.int n k))(r:Gis K t):Gis K<|(x,n)::t:=zeF.2 {⟨k,a⟩,r}
def Gis.d{K:zaf}{h:Heap}{mg:Str->Option Value}{t:List (Str×Int)}(X:K.In h)(G:h.Ns za3 mg)(D:Gis K t):∀p∈t,GInt mg p.1 p.2:=λp q=>let ⟨_,a⟩:=D p q;{{_,zeG X G a}}
def uB{w:List D}{c:Int}(h0:0<=c)(h1:c<=(w.length:Int)):cutD w cg (b4 c)=w.take c.toNat/\cutD w (b4 c) cg=w.drop c.toNat:=by
 have q:HT.sIx w.length w.length (b4 c)=c.toNat:=by
  show(if c<0 then _ else min c.toNat w.length)=_;rw[cx<|by lia];lia
 have B:HT.sIx w.length 0 (b4 c)=c.toNat:=by
  show(if c<0 then _ else min c.toNat w.length)=_;rw[cx<|by lia];lia
 have z:HT.sIx w.length 0 cg=0:=rfl;have F:HT.sIx w.length w.length cg=w.length:=rfl;unfold cutD;rw[q,B,z,F];constructor
 .simp
 .rw[List.take_of_length_le<|by simp]
section
variable {ρ ρ':dC}{f g:Ev}{a b:Bv}{l:Lv}{x y d r:D}{xs:List D}{i j:Int}{k:Nat}{s t:Sv}{o:Option Out}
def cA(h:ρ[k]?=b4 (b4 x)):aD k ρ=b4 x:=by unfold aD;rw[h];rfl
def mZ:eC x ρ=b4 x:=rfl
def cF{w:D->D->Option D}(B:f ρ=b4 x)(z:g ρ=b4 y)(q:w x y=b4 r):bE w f g ρ=b4 r:=by unfold bE;rw[B,aA,z,aA,q]
def cW{F:List D->Option D}(h:l ρ=b4 xs)(k:F xs=b4 r):aW F l ρ=b4 r:=by unfold aW;rw[h,aA,k]
def cG(h:f ρ=b4 x)(k:l ρ=b4 xs):aE f l ρ=b4 (x::xs):=by unfold aE;rw[h,aA,k,aA]
def DT(h:l ρ=b4 xs):gQ l ρ=b4 (.tup xs):=by unfold gQ;rw[h,aB]
def VT(h:l ρ=b4 xs):u3 l ρ=b4 (.lst xs):=by unfold u3;rw[h,aB]
def BO(h:f ρ=b4 (.int i)):mX f ρ=b4 (b4 i):=by unfold mX;rw[h,aA];rfl
def BP{w:D->Option Int->Option Int->Option D}{u v:Ov}{p q:Option Int}(G:f ρ=b4 x)(F:u ρ=b4 p)(z:v ρ=b4 q)(B:w x p q=b4 r):OA w f u v ρ=b4 r:=by unfold OA;rw[G,aA,F,aA,z,aA,B]
def V4(h:f ρ=b4 (.int i)):R9 f ρ=b4 (.int<|-i):=by unfold R9;rw[h,aA];rfl
def dE{c:Bool}(h:f ρ=b4 (.bl c)):lJ f ρ=b4 c:=by unfold lJ;rw[h,aA];rfl
def c6{c:Bool}(h:a ρ=b4 c):EA a ρ=b4 (!c):=by unfold EA;rw[h,aB]
def bib{α:Type}(c:Bool)(u v:α):α:=if c=cp then u else v
def JA{q:Type}{c:Bool}{u v w:q}(h:c=cp)(k:u=w):bib c u v=w:=(cw h).trans k
def yO{q:Type}{c:Bool}{u v w:q}(h:c=cr)(k:v=w):bib c u v=w:=(cx<|by rw[h];exact nofun).trans k
def i5{c:Bool}{z:Option Bool}(h:a ρ=b4 c)(k:bib c (b ρ) (b4 cr)=z):yQ a b ρ=z:=by unfold yQ;rw[h,aA];exact k
def pO{c:Bool}{z:Option Bool}(h:a ρ=b4 c)(k:bib c (b4 cp) (b ρ)=z):YG a b ρ=z:=by unfold YG;rw[h,aA];exact k
def Y8{c:Bool}(h:a ρ=b4 c)(k:bib c (s ρ) (t ρ)=o):wL a s t ρ=o:=by unfold wL;rw[h,aA];exact k
def sq(p:Out)(t:Sv):Option Out:=match p with
 |.nx ρ=>t ρ
 |p=>b4 p
def aR{p:Out}(h:s ρ=b4 p)(k:sq p t=o):bW s t ρ=o:=by unfold bW;rw[h,aA];exact k
def bI(k:t ρ=o):sq (.nx ρ) t=o:=k
def kH(h:f ρ=b4 x):JM f ρ=b4 (.rt x):=qx h
def s_ift(h:a ρ=b4 cp)(k:s ρ=o):wL a s t ρ=o:=(qbr h).trans k
def s_iff(h:a ρ=b4 cr)(k:t ρ=o):wL a s t ρ=o:=(D8 h).trans k
def DO{w:Gv}(h:f ρ=b4 x)(k:w x ρ=b4 ρ'):SG f w ρ=b4 (.nx ρ'):=by unfold SG;rw[h,aA,k,aB]
def U3(h:aD k ρ=b4 (.lst xs))(e:f ρ=b4 x)(z:xs.length<=1000000):D6 k f ρ=b4 (.nx<|ρ.set k<|b4<|.lst<|xs++[x]):=by
 unfold D6;rw[h,aA];show(f ρ).bind _=_;rw[e,aA];exact cw<|decide_eq_true z
def yH{u v:List D}(z:u.length+v.length<=1000000):cC (.lst u) (.lst v)=b4 (.lst<|u++v):=cw<|decide_eq_true z
def RD{u:List D}(z:u.length+1<=1000000):cC (.lst u) (.lst [x])=b4 (.lst<|u++[x]):=yH z
def ZO(h:d8 xs i=b4 x):aN (.lst xs) (.int i)=b4 x:=h
def U4(h:d8 xs i=b4 x):aN (.tup xs) (.int i)=b4 x:=h
def qF{ms:List (Option Nat)}{w:Gv}{ds:List D}(h:l ρ=b4 xs)(z:xs.length<=1000000)(e:bV w a f xs (pR ms ρ)=b4 ds):gP ms l w a f ρ=b4 (.lst ds):=by unfold gP;rw[h,aA];exact(cw<|decide_eq_true z).trans<|by rw[e,aB]
def WY{w:Gv}:bV w a f [] ρ=b4 []:=rfl
def FQ{w:Gv}{ds:List D}(h:w x ρ=b4 ρ')(k:a ρ'=b4 cp)(e:f ρ'=b4 y)(r:bV w a f xs ρ'=b4 ds):bV w a f (x::xs) ρ=b4 (y::ds):=by rw[bV,h,aA,k,aA,cw rfl,e,aA,r,aA]
def f6{R:D->Prop}(h:s ρ=b4 (.nx ρ'))(k:∃d,t ρ'=b4 (.rt d)/\R d):∃d,bW s t ρ=b4 (.rt d)/\R d:=by rw[aG h];exact k
def cK{w:Gv}(h:w x ρ=b4 ρ')(k:s ρ'=o):turn w s x ρ=o:=by unfold turn;rw[h,aA,k]
def fO{w:Gv}{Q:dC->Prop}(h:turn w s x ρ=b4 (.nx ρ'))(k:Q ρ'):∃ρ',turn w s x ρ=b4 (.nx ρ')/\Q ρ':={_,h,k}
def lB{w:Gv}(h:l ρ=b4 xs)(k:cX w s xs ρ=o):iD l w s ρ=o:=by unfold iD;rw[h,aA,k]
def V8{w:Gv}:cX w s [] ρ=b4 (.nx ρ):=rfl
def QP{w:Gv}(h:turn w s x ρ=b4 (.nx ρ'))(k:cX w s xs ρ'=o):cX w s (x::xs) ρ=o:=by
 unfold turn at h;obtain⟨ρ1,q,z⟩:=bind_some h;unfold cX;rw[q,aA,z,aA];exact k
def OM{ys:List D}(h:l ρ=b4 [x])(e:(cS x).map (eX 0)=b4 ys):GF l ρ=b4 ys:=by unfold GF;rw[h,aA];exact e
def t7(h:f ρ=b4 (.lst xs)):mS f ρ=b4 xs:=by unfold mS;rw[h,aA]
def wK{w:List D->Option (List D)}{ys:List D}(h:l ρ=b4 xs)(k:w xs=b4 ys):lR w l ρ=b4 ys:=by unfold lR;rw[h,aA,k]
def UT{u:Ev}{w:List D}(q:f ρ=b4 (.lst w))(z:g ρ=b4 (.int i))(B:u ρ=b4 (.lst [x]))(h0:0<=i)(h1:i<w.length)(F:w.length<=1000) :
  bE cC (bE cC (OA lF f uI<|mX g) u) (OA lF f (mX<|bE cC g<|eC<|.int 1) uI) ρ=b4 (.lst<|w.take i.toNat++x::w.drop (i.toNat+1)):=by
 obtain⟨n,rfl⟩:=zeH h0;refine(cF (cF (BP q rfl (BO z) rfl) B<|yH ?_) (BP q (BO<|cF z rfl rfl) rfl rfl)<|yH ?_).trans ?_
 all_goals rw[(uB h0<|by lia).1]
 .simp;lia
 .rw[(uB (by lia)<|by lia).2];simp;lia
 .rw[(uB (by lia)<|by lia).2];simp
end
end P
namespace My
open PySem.SeqAt
def LtAt(A:zas)(s:zab)(u v:Value)(b:Bool):Prop:=
 ∀(prog:zap) (w:World) (E:Value->zab->Prop) (Q:Value->zab->Prop),Q (.bool b) s->wpAny (model prog w) A (richCompare .Lt u v) Q E s
inductive LtsAt(A:zas)(s:zab):List Value->List Value->Bool->Prop
 | nil:LtsAt A s [] [] cr
 | less {w:Value} {ws:List Value}:LtsAt A s [] (w::ws) cp
 | more {v:Value} {vs:List Value}:LtsAt A s (v::vs) [] cr
 | eq {v w:Value} {vs ws:List Value} {b:Bool}:EqAt A s v w cp->LtsAt A s vs ws b->LtsAt A s (v::vs) (w::ws) b
 | ne {v w:Value} {vs ws:List Value} {b:Bool}:EqAt A s v w cr->LtAt A s v w b->LtsAt A s (v::vs) (w::ws) b
section
open PySem.AutoSeq1 (wpAny_loadPart')
open PySem.MeetsSeq PySem.MeetsSeq2 PySem.MeetsSeq3
def uX(l b:Addr)(items q:Array Value)(n n2:Nat)(dd N:Option Addr)(Y J:Array<|Option Value)(r:Bool) :
  Meets (zbc.«tuple.__lt__» {[.ref l,.ref b],[]})
   (λA R s => s.heap.get? l = b4 {cls := .type "tuple", dict:=dd, data := .seq items n, slots:=Y} /\ s.heap.get? b = b4 {cls := .type "tuple", dict:=N, data := .seq q n2, slots:=J} /\
    LtsAt A.in1 s items.toList q.toList r/\R (.ok<|.ret<|.bool r) s):=
 .of_wp λprog w A R s h=>by
  obtain⟨W,g,d,tk,os⟩:=s;obtain⟨hl,hb,hi,h⟩:=h;have f2:=AutoSeq1.sub_tuple_tuple
  wp_walk using zbL hl,zbL hb,zeP _ (λrest b s'=>b.1=cg/\s'={W,g,d,tk,os}/\∃(vs G:List Value),rest=vs.zip G /\
   LtsAt A.in1 {W,g,d,tk,os} vs G r/\vs.length+q.size=G.length+items.size) _
  case turn=>
   rintro⟨y,x⟩ rest b s' ⟨B,rfl,vs,G,hz,F,z⟩;cases F with
   |nil=>cases hz
   |less=>cases hz
   |more=>cases hz
   |eq he hr=>
    rw[zcY]at hz;injection hz with hyx hrest
    injection hyx with hy hx
    subst hy hx;simp only[zaU]at z;refine zaa<|he prog w _ _ ?_
    wp_walk
    exact{rfl,rfl,_,_,hrest,hr,by lia}
   |ne he hr=>
    rw[zcY]at hz;injection hz with hyx hrest
    injection hyx with hy hx
    subst hy hx;refine zaa<|he prog w _ _ ?_;have U:=hr prog w
    wp_walk using U
    exact{_,rfl,by simpa using h}
  case fin=>
   rintro⟨b1,b2⟩ s' ⟨B,rfl,vs,G,hz,F,z⟩;simp only at B;subst B;have hv:r=decide (items.size<q.size):=by
    cases F with
    |nil=>
     simp only[zbZ]at z;exact(decide_eq_false<|by lia).symm
    |less=>
     simp only[zbZ,zaU]at z;exact(decide_eq_true<|by lia).symm
    |more=>
     simp only[zbZ,zaU]at z;exact(decide_eq_false<|by lia).symm
    |eq _ _=>rw[zcY]at hz;cases hz
    |ne _ _=>rw[zcY]at hz;cases hz
   rw[hv]at h
   wp_walk
   exact{_,rfl,by simpa[zfj]using h}
  case h=>
   exact{rfl,rfl,items.toList,q.toList,rfl,hi,by simp;lia}
end
def LtAt.tups(hl:IsTup s.heap l items)(hb:IsTup s.heap b items2)(hi:LtsAt A.in1 s items.toList items2.toList r)(hu:A.units<cLine):LtAt A s (.ref l) (.ref b) r:=λprog w E Q h=>by
 obtain⟨⟨cls,dd,data,sl⟩,Y,U,n,hd⟩:=id hl;obtain⟨⟨W,J,N,G⟩,z,B,n2,q⟩:=id hb;simp only at U hd B q;subst U hd B q;exact richCompare_meets_room (op:=.Lt) {_,Y,rfl} {_,z,rfl} PySem.F.slot_tuple_lt PySem.F.entry_tuple_lt (PySem.F.args_tuple_lt_2 _ _) (uX l b items items2 n n2 dd J sl G r)
  {Y,z,hi,show zcb r≠zeQ/\Q (.bool r) s from{(λx=>nomatch x),h}} hu
open Classical in
mutual
def EF:Dx->Dx->Option Bool
 |.int i,.int j=>b4<|decide (i<j)
 |.tup l,.tup m=>lE l m
 |_,_=>cg
def lE:List Dx->List Dx->Option Bool
 |[],[]=>b4 cr
 |[],_::_=>b4 cp
 |_::_,[]=>b4 cr
 |x::xs,y::ys=>if x=y then lE xs ys else EF x y
end
section
variable {X:Cx}{pins:List (Addr×Obj)}{σ:L2.St}{H:Hp}{s:zab}
open Classical in
theorem FB(I:Inv X pins σ H s) :
  ∀(n:Nat) (A:zas) (d e:Dx) (x y:V) (u v:Value) (b:Bool),d.dep<=n->A.units+n<cLine->d.nb=cp->e.nb=cp->Rep X.K H d x->Rep X.K H e y->RelV x u->RelV y v->EF d e=b4 b->LtAt A s u v b
 |n,A,.int i,e,x,y,u,v,b,hd,hu,W,U,r1,r2,ru,rv,q=>by
  cases e with
  |int j=>
   rw[Rep]at r1 r2;subst r1 r2;obtain⟨t,rfl⟩:=ru;obtain⟨t',rfl⟩:=rv;rw[EF]at q;cases q;exact λprog w E Q h=>HT.zP A s i t j t' prog w E Q<|by simpa using h
  |_=>simp[EF]at q
 |0,A,.tup l,e,x,y,u,v,b,hd,_,_,_,_,_,_,_,_=>by rw[Dx.dep]at hd;lia
 |n+1,A,.tup l,e,x,y,u,v,b,hd,hu,W,U,r1,r2,ru,rv,q=>by
  cases e with
  |tup m=>
   rw[Rep]at r1 r2;obtain⟨a,xs,rfl,h1,N⟩:=r1;cases ru;obtain⟨c,ys,rfl,h2,G⟩:=r2;cases rv;obtain⟨F,Y,ht,_⟩:=I.tuple h1;obtain⟨B,J,ac,_⟩:=I.tuple h2;rw[EF]at q;rw[Dx.dep]at hd;rw[Dx.nb]at W U;have ha:A.in1.units+n<cLine:=by show A.units+1+n<cLine;lia
   refine LtAt.tups ht ac ?_ (by lia);have ad:∀(l m:List Dx) (xs ys:List V) (F B:List Value),yM l<=n->N6 l=cp->N6 m=cp->RepL X.K H l xs->RepL X.K H m ys->Vals xs F->Vals ys B->lE l m=b4 b->LtsAt A.in1 s F B b:=by
    intro l;induction l with
    |nil=>
     intro m xs ys F B _ _ _ N G Y J q;rw[RepL]at N;subst N;cases Y;cases m with
     |nil=>rw[RepL]at G;subst G;cases J;rw[lE]at q;cases q;exact .nil
     |cons y m=>rw[RepL]at G;obtain⟨y1,ae,rfl,_,_⟩:=G;cases J;rw[lE]at q;cases q;exact .less
    |cons z l il=>
     intro m xs ys F B hd W U N G Y J q;rw[RepL]at N;obtain⟨x1,ah,rfl,p1,N⟩:=N;cases Y with
     |cons w1 Y=>
      cases m with
      |nil=>rw[RepL]at G;subst G;cases J;rw[lE]at q;cases q;exact .more
      |cons z2 m=>
       rw[RepL]at G;obtain⟨y1,ae,rfl,p2,G⟩:=G;cases J with
       |cons w2 J=>
        rw[yM]at hd;rw[N6,zaM]at W U;have he:=mO I n A.in1 z z2 _ _ _ _ (by lia) ha W.1 U.1 p1 p2 w1 w2;rw[lE]at q;by_cases hz:z=z2
        .rw[cw hz]at q
         rw[decide_eq_true hz]at he;exact .eq he<|il m _ _ _ _ (by lia) W.2 U.2 N G Y J q
        .rw[cx hz]at q
         rw[decide_eq_false hz]at he;exact .ne he<|FB I n A.in1 z z2 _ _ _ _ b (by lia) ha W.1 U.1 p1 p2 w1 w2 q
   exact ad l m xs ys F B (by lia) W U N G Y J q
  |_=>simp[EF]at q
 |n,A,.non,e,x,y,u,v,b,_,_,_,_,_,_,_,_,q=>by cases e <;> simp[EF]at q
 |n,A,.bl c,e,x,y,u,v,b,_,_,_,_,_,_,_,_,q=>by cases e <;> simp[EF]at q
 |n,A,.str c,e,x,y,u,v,b,_,_,_,_,_,_,_,_,q=>by cases e <;> simp[EF]at q
 |n,A,.lst c,e,x,y,u,v,b,_,_,_,_,_,_,_,_,q=>by cases e <;> simp[EF]at q
end
end My
namespace P
section
variable {X:Cx}
def JE(x y:D):Option D:=if cY x=cp/\cY y=cp then(jC x).bind λa=>(jC y).bind λb=>(My.EF a b).map .bl else cg
def T8(J:X.A.units+60<cLine):gC X (zar .Lt) JE:=by
 rintro pins s σ H x y v u Q I rx ry ⟨A,dx,W,d,lv,U,r2,e,q⟩;unfold JE at e;by_cases h:cY dx=cp/\cY W=cp
 .rw[cw h]at e
  obtain⟨a,B,e⟩:=bind_some e;obtain⟨b,F,e⟩:=bind_some e;obtain⟨c,N,rfl⟩:=map_some e;obtain⟨a',z,a2,a3⟩:=fY h.1;obtain⟨b',G,Y,b3⟩:=fY h.2;rw[B]at z;cases z;rw[F]at G;cases G;exact My.FB I 60 X.A a b x y v u c a3 J a2 Y (eB B U) (eB F r2) rx ry N _ _ _ _ {.bl c,H,I,rfl,q _ H (Ext.refl _ _)<|.bl _}
 .rw[cx h]at e;cases e
def qaT(q:Room j X.A):gC X (zar .Lt) JE:=T8<|zdm (Nat.add_le_add_left (by decide:60<=64) _) q.units
end
end P
namespace Law
def Ten:(10:Int)^60=1000000000000000000000000000000000000000000000000000000000000:=by decide +kernel
open P
local macro_rules | `(tactic|ac_rfl) => `(tactic|first
 | (with_reducible first|exact mZ|exact WY|exact V8|exact rfl|assumption)
 | ((with_reducible apply cA);exact rfl)
 | (with_reducible first|apply bI|apply aR|apply UT|apply cF|apply cG|apply cW|apply aJ|apply DT|apply VT|apply BP|apply BO|apply DO|apply kH|apply Y8|apply dE|apply V4|apply qF|apply FQ|apply lB|apply QP|apply cK|apply OM|apply t7|apply wK|apply c6|apply i5|apply pO|apply U3) <;> ac_rfl
 | ((with_reducible apply JA);(with_reducible first|exact rfl|(apply decide_eq_true;assumption));ac_rfl)
 | ((with_reducible apply yO);(with_reducible first|exact rfl|(apply decide_eq_false;assumption));ac_rfl)
 | (with_reducible apply JA) <;> ac_rfl
 | (with_reducible apply yO) <;> ac_rfl
 | (with_reducible first|apply bS|apply gO|apply q_eqI|apply ZO|apply U4|apply RD|apply yH|apply decide_eq_true|apply decide_eq_false) <;> ac_rfl
 | (show bV _ _ _ _ _=_;assumption)
 | exact rfl
 | exact zfe rfl
 | decide
 | lia)
local macro_rules | `(tactic|simp_all[$xs,*]) => `(tactic|simp[-zad, -zae, aA, aB, $xs,*])
local macro_rules|`(tactic|simp_all)=>`(tactic|simp[-zad,-zae,aA,aB])
def top(i:Nat):Stmt:=PySem.Challenge.pw_chiefway_k26_makes_that_fall_short.main.body.getD i<|.Pass {0,0,0,0}
abbrev s_law:Stmt:=top 88
abbrev tb(x:Str)(i:Nat)(ps:List Str):=(x,i,ps)
def tab:List<|Str×Nat×List Str:=[tb "_law_at" 62 ["script", "k"],tb "_law_unit" 64 ["M", "cell"],tb "_law_seats" 65 ["M", "script", "many"],tb "_law_road" 66 ["M", "seats", "j", "k", "cell"],tb "_law_roads" 67 ["M", "seats", "script"],tb "_law_spoiled" 70 ["M", "cell", "roads", "makes"],tb "_law_names" 63 ["cell", "many"],tb "_law_terms" 68 ["M", "seats", "takes", "gives", "some"],tb "_law_makes" 69 ["M", "seats", "script"],tb "_law_book" 71 ["script"],tb "_law_reach" 72 ["many", "roads"],tb "deeds" 43 ["book"],tb "kind_tuples" 44 ["many", "n"],tb "first_way" 32 ["book", "j", "k"],tb "leads" 31 ["book", "j", "k"],tb "fits" 35 ["book", "v", "kinds"],tb "on" 10 ["M", "n"],tb "form_of" 16 ["M", "sums"],tb "constant" 20 ["M", "n", "c"],tb "added" 19 ["exponents", "others"],tb "times" 18 ["M", "one", "other"],tb "powers_of" 24 ["M", "n", "one", "most"],tb "plus" 17 ["M", "one", "other"],tb "by_powers" 25 ["M", "inner", "most", "factors"],tb "greatest" 23 ["one", "place"],tb "turned_form" 21 ["M", "n", "turn", "one"],tb "put" 22 ["M", "n", "outer", "inners"],tb "turned" 11 ["M", "turn", "x"],tb "then" 12 ["M", "one", "other"],tb "turn_of" 33 ["book", "way"],tb "check_exponents" 15 ["n", "exponents"],tb "form" 14 ["M", "n", "terms"],tb "unknown" 37 ["M", "n", "place"],tb "seen_form" 36 ["book", "v", "kinds"],tb "seen_forms" 39 ["book", "name", "kinds"],tb "points" 29 ["n"],tb "power" 27 ["M", "value", "exponent"],tb "worth_at" 26 ["M", "one", "values"],tb "parting" 28 ["M", "n", "one", "other"],tb "seen_shortfall" 38 ["book", "m", "v", "seen"],tb "first_shortfall" 40 ["book", "m", "seen"],tb "chief_of" 41 ["book", "seen"],tb "make_fault" 42 ["book"],tb "_law_deeds" 83 ["makes"],tb "is_whole" 8 ["thing"],tb "wheel" 9 ["thing"],tb "is_name" 52 ["text"],tb "check_kinds" 54 ["kinds"],tb "is_price" 56 ["price"],tb "roads_of" 55 ["M", "many", "roads"],tb "check_deeds" 60 ["makes"],tb "check_make" 58 ["many", "name", "takes", "gives", "price"],tb "make_form" 59 ["M", "n", "terms"],tb "makes_of" 57 ["M", "many", "makes"],tb "book" 53 ["M", "kinds", "roads", "makes"],tb "_law_fitting" 82 ["reach", "makes", "name", "some"],tb "_law_made" 75 ["M", "terms", "values"],tb "_law_along" 74 ["M", "roads", "way", "x"],tb "_law_first" 73 ["roads", "reach", "j", "k"],tb "_law_seen" 76 ["M", "roads", "reach", "make", "some", "values"],tb "_law_point" 77 ["p", "many"],tb "_law_tables" 79 ["M", "roads", "reach", "makes", "near", "some"],tb "_law_number" 86 ["n", "many"],tb "_law_both" 78 ["M", "roads", "reach", "pair", "some", "values"],tb "_law_covers" 80 ["M", "roads", "reach", "pair", "mine", "other"],tb "_law_short" 85 ["M", "roads", "reach", "makes", "some", "near", "tables", "row"],tb "_law_shown" 87 ["M", "roads", "reach", "makes", "found"],tb "_law_first_over" 81 ["M", "roads", "reach", "makes", "near", "tables"],tb "_law_settled" 84 ["M", "roads", "reach", "makes", "name", "some"]]
def blt:List Str:=["all", "bool", "dict", "enumerate", "int", "isinstance", "len", "list", "max", "min", "range", "sorted", "tuple", "zip"]
def gis:List<|Str×Int:=[("MOST_KINDS",6),("MOST_MAKES",16),("MOST_OF_A_DEED",6),("MOST_POWER",2),("MOST_ROADS",12)]
def sc_law:FnScope ["script", "M", "kinds", "roads", "makes", "reach", "found", "deeds_v", "k", "cell", "name", "many", "some", "asked", "at"] ["script"]<|aS s_law:={rfl,rfl,rfl,by decide +kernel,rfl,by decide +kernel,by decide +kernel}
structure Txt(K:zaf)(mg:Str->Option Value):Prop where
 d:∀p∈tab,My.DefAt K mg p.1 (top p.2.1) p.2.2
 b:∀x∈blt,mg x=cg
 g:∀p∈gis,GInt mg p.1 p.2
 g_WORDS:GTup K mg "WORDS" ["let", "in", "pick", "again"]
def Txt.n{K:zaf}{mg:Str->Option Value}(T:Txt K mg){x:Str}(h:x∈blt:=by decide +kernel):mg x=cg:=T.b x h
abbrev Tx(P:zap)(w:World)(K:zaf)(mg:Str->Option Value)(base:Heap):Prop:=Txt K mg
abbrev Zt(x:Str)(ps:List Str)(k n:Nat):Type:={b:Sv // ∀ {P:zap} {w:World} {K:zaf} {mg:Str->Option Value} {base:Heap},Tx P w K mg base->Fn P w K mg base x k ps (aY n b)}
def cT(N:List Str)(i:Nat){x:Str}{ps:List Str}{k:Nat}{b:Sv}(h:∀ {P:zap} {w:World} {K:zaf} {mg:Str->Option Value} {base:Heap} {z:Addr} {q:Value} {A:zas} {outer:List Env} {H:Hp} {E:XK} (T:Tx P w K mg base) (s:zab) (nd:N.Nodup) (B:Room k<|A.deeper<|zbo x (aS<|top i) s.heap.objs.size z q) (hu:(A.deeper<|zbo x (aS<|top i) s.heap.objs.size z q).units+1<cLine),∃g,dY (uL JJ P w K mg base N x (aS<|top i) z q A outer s H E).nox {[],[]} [] (b9<|top i) g []/\g=b)(m:(x,i,ps)∈tab:=by decide +kernel)(sc:FnScope N ps<|aS<|top i:=by exact{rfl,rfl,rfl,by decide +kernel,rfl,by decide +kernel,by decide +kernel}):Zt x ps (k+1) N.length:={b,λT=>Y9 (T.d _ m) sc λz q A outer s H E B=>h T s sc.nd B<|SQ B}
local macro_rules | `(tactic|exists $x:ident) => `(tactic|(refine' (?f:∀y:Sv, Subtype.val $x = y -> Sv) _ ?h;(case h => unfold $x;(try unfold cT);(try dsimp only);try exact rfl);(case f => exact λy _ => y)))
def qbl{X:Cx}{O:List Nat}{p:Pos}(T:Txt X.K X.mg)(q:Gl X "MOST_KINDS"):PD X O (.Name "MOST_KINDS" p)<|eC<|.int 6:=mR (T.g ("MOST_KINDS",6)<|by decide +kernel) q
def qbg{X:Cx}{O:List Nat}{p:Pos}(T:Txt X.K X.mg)(q:Gl X "MOST_MAKES"):PD X O (.Name "MOST_MAKES" p)<|eC<|.int 16:=mR (T.g ("MOST_MAKES",16)<|by decide +kernel) q
def qba{X:Cx}{O:List Nat}{p:Pos}(T:Txt X.K X.mg)(q:Gl X "MOST_OF_A_DEED"):PD X O (.Name "MOST_OF_A_DEED" p)<|eC<|.int 6:=mR (T.g ("MOST_OF_A_DEED",6)<|by decide +kernel) q
def qbu{X:Cx}{O:List Nat}{p:Pos}(T:Txt X.K X.mg)(q:Gl X "MOST_POWER"):PD X O (.Name "MOST_POWER" p)<|eC<|.int 2:=mR (T.g ("MOST_POWER",2)<|by decide +kernel) q
def qaL{X:Cx}{O:List Nat}{p:Pos}(T:Txt X.K X.mg)(q:Gl X "MOST_ROADS"):PD X O (.Name "MOST_ROADS" p)<|eC<|.int 12:=mR (T.g ("MOST_ROADS",12)<|by decide +kernel) q
def gt_0{X:Cx}{O:List Nat}{e:Expr}{f:Ev}{p pos:Pos}(T:Txt X.K X.mg)(z:Gl X "WORDS")(q:PB X O e f):pS X O (.Compare e [.In] [.Name "WORDS" p] pos)<|lJ<|wI (SE cr ["let", "in", "pick", "again"]) f:=RV T.g_WORDS z q
local macro_rules | `(tactic|trivial) => `(tactic|first
 | exact rfl
 | assumption
 | (show PD _ _ _ _;first|(apply vD <;> trivial)|(apply wE <;> trivial)|((first|apply WJ|apply SY|apply rSl|apply rIt|apply qa2|apply wt|apply YT|apply V3|apply TN|apply qaW|apply qbn|apply YU|apply YZ|apply ZL|apply qbl|apply qbg|apply qba|apply qbu|apply qaL|apply Z2|apply W4|apply P1|apply UY|apply rInV|apply rCm|apply UO|apply VI|apply YX|apply VC|apply Y6|apply JZ|apply U5|apply Q6|apply Q8|apply rJn|apply PF.d) <;> trivial))
 | (show PB _ _ _ _;first|(apply vB <;> trivial)|(apply PD.b <;> trivial))
 | (show B0 _ _ _ _;((first|apply OH|apply N8) <;> trivial))
 | (show uN _ _ _ _;((first|apply FU|apply pbc) <;> trivial))
 | (show Len _ _;((first|apply l0|apply lc) <;> trivial))
 | (show gC _ _ _;((first|apply RW|apply TF|apply W2|apply QY|apply W8|apply ZW|apply ZR|apply W6|apply W3|apply XB|apply OD|apply xEq|apply xNe|apply xLt) <;> trivial))
 | (show At _ _ _;first|exact at_ 0|exact at_ 1|exact at_ 2|exact at_ 3|exact at_ 4|exact at_ 5|exact at_ 6|exact at_ 7|exact at_ 8|exact at_ 9|exact at_ 10|exact at_ 11|exact at_ 12|exact at_ 13|exact at_ 14)
 | (show pS _ _ _ _;first|((first|apply gt_0|apply qaY|apply qaX|apply tc|apply HI|apply C4|apply OB) <;> trivial)|(apply PDW.pt <;> trivial)|(apply OO <;> trivial))
 | (show PDW _ _ _ _;((first|apply QS|apply UJ|apply J0|apply O6) <;> trivial))
 | (show S9 _ _ _ _;((first|apply LC|apply K0) <;> trivial))
 | (show PDI _ _ _ _ _;((first|apply CP|apply CB|apply B8|apply Q3|apply J8|apply J7|apply LW) <;> trivial))
 | (show B1 _ _ _ _;first|(apply gV <;> trivial)|(apply gu 2 <;> trivial)|(apply gu 3 <;> trivial)|(apply gu 5 <;> trivial))
 | (show D5 _ _ _ _;((first|apply KJ|apply gc) <;> trivial))
 | (show My.GP _ _ _;((first|apply LL|apply LZ) <;> trivial))
 | (show PF _ _ _ _;((first|apply wl|apply qbs|apply rSo) <;> trivial))
 | rfl
 | exact Txt.n (by assumption)
 | exact .inl rfl
 | exact .inr rfl
 | exact .inr (.inl rfl)
 | exact .inr (.inr rfl)
 | exact λ_=>rfl
 | exact λ_ _=>rfl
 | (with_unfolding_all rfl)
 | (constructor <;> rfl))
seal PD PB PF B0 uN pS PDW PDI S9 jB dY Fn gC zar zaW
def gM:Zt "_law_at" ["script", "k"] 1 3:=cT ["script", "k", "cell"] 62 λT s B q z=>by exact{_,(c0 (aZ aL)<|c0 (aH 2)<|c0 (aZ<|aC<|aH 2)<|c0 (aH 2) aL),rfl}
def mG:Sv:=by exists gM
def eD:=aY 3 mG
def rM:Zt "_law_unit" ["M", "cell"] 1 5:=cT ["M", "cell", "one", "back", "k"] 64 λT s B q z=>by exact{_,(c0 (aH 2)<|c0 (aH 3)<|c0 (aV [] []<|c0 (aH 2)<|aC<|aH 3)<|c0 (aZ<|c0 (aH 2)<|aC<|aH 3)<|c0 (aZ aL) aL),rfl}
def qZ:Sv:=by exists rM
def kN:=aY 5 qZ
def nZ:Zt "_law_seats" ["M", "script", "many"] 2 8:=cT ["M", "script", "many", "out", "k", "cell", "one", "back"] 65 λT s B q z=>by have:=fx eD<|gM.2 T;have:=fx kN<|rM.2 T;exact{_,(cO [3] (bU 3)<|c0 (aV [3] []<|cO [3] (aH 5)<|cO [3] (jR (by trivial)<|jP<|My.nP (n:=2) rfl<|by trivial)<|aC<|eG 3) aL),rfl}
def pL:Sv:=by exists nZ
def iU:=aY 8 pL
def sE:Zt "_law_road" ["M", "seats", "j", "k", "cell"] 1 7:=cT ["M", "seats", "j", "k", "cell", "a", "b"] 66 λT s B q z=>by exact{_,(c0 (aH 5)<|c0 (aH 6) aL),rfl}
def sA:Sv:=by exists sE
def qS:=aY 7 sA
def oQ:Zt "_law_roads" ["M", "seats", "script"] 2 9:=cT ["M", "seats", "script", "many", "out", "k", "cell", "j", "spot"] 67 λT s B q z=>by have:=fx eD<|gM.2 T;have:=fx qS<|sE.2 T;exact{_,(c0 (aH 3)<|cO [4] (bU 4)<|cO [4] (aV [4] [4]<|cO [4] (aH 6)<|cO [4] (aH 7)<|cO [4] (aZ<|aC<|aH 7)<|aC<|aZ<|aC<|eG 4)<|c0 (aV [4] []<|cO [4] (aH 6)<|aC<|aZ<|cO [4] (aH 7)<|aC<|eG 4)<|c0 (aH 8) aL),rfl}
def oM:Sv:=by exists oQ
def iH:=aY 9 oM
def kA:Zt "_law_spoiled" ["M", "cell", "roads", "makes"] 1 15:=cT ["M", "cell", "roads", "makes", "at", "j", "k", "a", "b", "coin", "name", "takes", "gives", "terms", "more"] 70 λT s B q z=>by exact{_,(c0 (aZ<|c0 (aH 4)<|c0 (jR (by trivial)<|jP<|My.nP (n:=5) rfl<|by trivial)<|c0 (aZ aL) aL)<|c0 (aZ<|c0 (aH 4)<|c0 (jR (by trivial)<|jP<|My.nP (n:=5) rfl<|by trivial)<|c0 (aH 14)<|c0 (aZ<|aC<|aH 14)<|c0 (aH 13) aL) aL),rfl}
def bM:Sv:=by exists kA
def kG:=aY 15 bM
def iT:Zt "_law_names" ["cell", "many"] 1 8:=cT ["cell", "many", "letters", "size", "spot", "out", "k", "signs"] 63 λT s B q z=>by exact{_,(c0 (aH 2)<|c0 (aH 3)<|c0 (aH 4)<|cO [5] (bU 5)<|c0 (aV [5] []<|cO [5,7] (bU 7<|NB (by trivial)<|by trivial)<|cO [5] (mU 7)<|cO [5] (aZ<|aC<|aH 7<|PF.d<|NB (by trivial)<|by trivial)<|aC<|eG 5) aL),rfl}
def oU:Sv:=by exists iT
def iL:=aY 8 oU
def oP:Zt "_law_terms" ["M", "seats", "takes", "gives", "some"] 1 10:=cT ["M", "seats", "takes", "gives", "some", "i", "o", "rows", "e", "d"] 68 λT s B q z=>by exact{_,(c0 (aH 5)<|c0 (aH 6)<|c0 (qaV (c0 (aH 7)<|aC<|aH 7)<|c0 (aH 8)<|c0 (aH 9)<|c0 (aH 7)<|c0 (aH 7)<|aC<|aH 7)<|aL<|PF.d<|eV s ["es", "c", "seats", "gives", "M"] [cg,cg,b4 1,b4 3,b4 0]),rfl}
def iM:Sv:=by exists oP
def pM:=aY 10 iM
def pB:Zt "_law_makes" ["M", "seats", "script"] 2 15:=cT ["M", "seats", "script", "many", "some", "names", "alone", "size", "out", "k", "cell", "takes", "gives", "n", "terms"] 69 λT s B q z=>by have:=fx eD<|gM.2 T;have:=fx iL<|iT.2 T;have:=fx pM<|oP.2 T;exact{_,(c0 (aH 3)<|c0 (TV 4 s ["k", "script", "M"] [cg,b4 2,b4 0])<|c0 (aH 5)<|c0 (aH 6)<|c0 (aH 7)<|c0 (aZ<|aC<|aH 7)<|cO [8] (bU 8)<|c0 (aV [8] []<|cO [8] (aH 10)<|cO [8] (aH 11)<|cO [8] (aH 12)<|cO [8] (aH 13)<|cO [8] (aZ<|aC<|aH 13)<|cO [8] (aH 14)<|aC<|eG 8) aL),rfl}
def oA:Sv:=by exists pB
def iV:=aY 15 oA
def rB:Zt "_law_book" ["script"] 3 6:=cT ["script", "M", "many", "seats", "roads", "makes"] 71 λT s B q z=>by have:=fx eD<|gM.2 T;have:=fx iV<|pB.2 T;have:=fx iL<|iT.2 T;have:=fx iH<|oQ.2 T;have:=fx iU<|nZ.2 T;have:=fx kG<|kA.2 T;exact{_,(c0 (aH 1)<|c0 (aZ<|aC<|aH 1)<|c0 (aH 2)<|c0 (aZ<|aC<|aH 2)<|c0 (aH 3)<|c0 (aH 4)<|c0 (jR (by trivial)<|jP<|My.nP (n:=2) rfl<|by trivial) aL),rfl}
def rR:Sv:=by exists rB
def kR:=aY 6 rR
def pC:Zt "_law_reach" ["many", "roads"] 1 7:=cT ["many", "roads", "out", "j", "row", "k", "road"] 72 λT s q z B=>by exact{_,(cO [2] (bU 2)<|c0 (aV [2] [] (cO [2,4] (OT 4 s ["k", "j"] [cg,b4 3])<|cO [2] (aV [2,4] [2]<|aC<|aV [2,4] [2,4]<|aC<|aZ<|aC<|mU 4)<|aC<|eG 2) (by trivial)<|AG<|F2 (i:=3) q rfl<|zcj rfl) aL),rfl}
def oZ:Sv:=by exists pC
def oF:=aY 7 oZ
def EI:Zt "deeds" ["book"] 1 4:=cT ["book", "told", "make", "deed"] 43 λT s B q z=>by exact{_,(cO [1] (bU 1)<|c0 (aV [1] []<|cO [1] (aH 3)<|aC<|aZ<|aC<|eG 1) aL),rfl}
def EL:Sv:=by exists EI
def F7:=aY 4 EL
def kF:Zt "kind_tuples" ["many", "n"] 1 2:=cT ["many", "n"] 44 λT s B q z=>by exact{_,(c0 (aZ<|aL<|PF.d<|eV s ["kind"] [cg])<|aL<|PF.d<|eV s ["pair", "many"] [cg,b4 0]),rfl}
def j8:Sv:=by exists kF
def fX:=aY 2 j8
def fL:Zt "first_way" ["book", "j", "k"] 1 7:=cT ["book", "j", "k", "firsts", "kind", "number", "road"] 32 λT s B q z=>by exact{_,(cO [3] (bU 3<|II (by trivial)<|by trivial)<|c0 (aV [3] []<|aC<|aV [3] [3]<|aC<|aZ<|aC<|mU 3) aL),rfl}
def pJ:Sv:=by exists fL
def cQ:=aY 7 pJ
def FP:Zt "leads" ["book", "j", "k"] 2 3:=cT ["book", "j", "k"] 31 λT s B q z=>by have:=fx cQ<|fL.2 T;exact{_,aL,rfl}
def xU:Sv:=by exists FP
def xA:=aY 3 xU
def M6:Zt "fits" ["book", "v", "kinds"] 3 4:=cT ["book", "v", "kinds", "takes"] 35 λT s B q z=>by have:=fx xA<|FP.2 T;exact{_,(c0 (aH 3)<|c0 (aZ aL)<|aL<|cB (L9 rfl) T.n My.boot_all<|pbc (PD.b<|PF.d<|eV s ["kind", "taken", "book"] [cg,cg,b4 0])<|by trivial),rfl}
def ML:Sv:=by exists M6
def MO:=aY 4 ML
def D9:Zt "on" ["M", "n"] 1 2:=cT ["M", "n"] 10 λT s B q z=>by exact{_,aL,rfl}
def qi:Sv:=by exists D9
def yN:=aY 2 qi
def eL:Zt "form_of" ["M", "sums"] 2 2:=cT ["M", "sums"] 16 λT s B q z=>by have:=fx yN<|D9.2 T;exact{_,(aL<|cTy tJ T.n My.boot_tuple<|pbc (PD.b<|PF.d<|eV s ["exponents", "c", "M"] [cg,cg,b4 0])<|by trivial),rfl}
def u6:Sv:=by exists eL
def eK:=aY 2 u6
def kY:Zt "constant" ["M", "n", "c"] 3 3:=cT ["M", "n", "c"] 20 λT s B q z=>by have:=fx eK<|eL.2 T;exact{_,(aL<|cD (fx eK<|eL.2 T) (q.mono<|by decide) (N8 (by trivial)<|N8 (PF.d<|L5 z (PD.b<|SY QN (by trivial)<|by trivial)<|by trivial)<|by trivial)<|lc<|lc l0),rfl}
def kO:Sv:=by exists kY
def kW:=aY 3 kO
def EX:Zt "added" ["exponents", "others"] 1 2:=cT ["exponents", "others"] 19 λT s B q z=>by exact{_,(c0 (aZ aL) aL),rfl}
def xN:Sv:=by exists EX
def xE:=aY 2 xN
def qC:Zt "times" ["M", "one", "other"] 3 9:=cT ["M", "one", "other", "sums", "exponents", "c", "others", "d", "both"] 18 λT s B q z=>by have:=fx xE<|EX.2 T;have:=fx eK<|eL.2 T;exact{_,(cO [3] (bU 3 l9)<|c0 (aV [3] []<|aC<|aV [3] [3]<|cO [3] (aH 8)<|aC<|mU 3) aL),rfl}
def FL:Sv:=by exists qC
def mM:=aY 9 FL
def oB:Zt "powers_of" ["M", "n", "one", "most"] 4 6:=cT ["M", "n", "one", "most", "powers", "exponent"] 24 λT s B q z=>by have:=fx kW<|kY.2 T;have:=fx mM<|qC.2 T;exact{_,(cO [4] (bU 4)<|c0 (aV [4] []<|aC<|eG 4) aL),rfl}
def pG:Sv:=by exists oB
def iW:=aY 6 pG
def yK:Zt "plus" ["M", "one", "other"] 3 6:=cT ["M", "one", "other", "sums", "exponents", "c"] 17 λT s B q z=>by have:=fx eK<|eL.2 T;exact{_,(cO [3] (bU 3<|fTy (JY rfl q.units) T.n My.boot_dict<|by trivial)<|c0 (aV [3] []<|aC<|mU 3) aL),rfl}
def MY:Sv:=by exists yK
def nT:=aY 6 MY
def oD:Zt "by_powers" ["M", "inner", "most", "factors"] 4 6:=cT ["M", "inner", "most", "factors", "total", "exponent"] 25 λT s B q z=>by have:=fx nT<|yK.2 T;have:=fx mM<|qC.2 T;exact{_,(c0 (aH 4)<|c0 (aV [] []<|aC<|aH 4) aL),rfl}
def oI:Sv:=by exists oD
def iQ:=aY 6 oI
def rQ:Zt "greatest" ["one", "place"] 1 2:=cT ["one", "place"] 23 λT s B q z=>by exact{_,(aL<|OS rfl (by rfl) T.n (PD.b<|PF.d<|eV s ["exponents", "c", "place"] [cg,cg,b4 1]) (by trivial) rfl),rfl}
def rA:Sv:=by exists rQ
def eO:=aY 2 rA
def dZ:Zt "turned_form" ["M", "n", "turn", "one"] 4 4:=cT ["M", "n", "turn", "one"] 21 λT s B q z=>by have:=fx kW<|kY.2 T;have:=fx nT<|yK.2 T;have:=fx mM<|qC.2 T;exact{_,aL,rfl}
def jU:Sv:=by exists dZ
def bF:=aY 4 jU
def SM:Zt "put" ["M", "n", "outer", "inners"] 5 11:=cT ["M", "n", "outer", "inners", "last", "powers", "factors", "exponents", "c", "ahead", "part"] 22 λT s B q z=>by have:=fx iQ<|oD.2 T;have:=fx eO<|rQ.2 T;have:=fx nT<|yK.2 T;have:=fx iW<|oB.2 T;have:=fx bF<|dZ.2 T;exact{_,(c0 (aH 4)<|c0 (aH 5)<|cO [6] (bU 6 l9)<|c0 (aV [6] []<|cO [6] (aH 9)<|cO [6] (aH 10)<|aC<|mU 6)<|c0 (aZ aL) aL),rfl}
def NT:Sv:=by exists SM
def BS:=aY 11 NT
def AB:Zt "turned" ["M", "turn", "x"] 2 3:=cT ["M", "turn", "x"] 11 λT s B q z=>by have:=fx yN<|D9.2 T;exact{_,aL,rfl}
def BG:Sv:=by exists AB
def AM:=aY 3 BG
def ME:Zt "then" ["M", "one", "other"] 3 3:=cT ["M", "one", "other"] 12 λT s B q z=>by have:=fx yN<|D9.2 T;have:=fx AM<|AB.2 T;exact{_,aL,rfl}
def MZ:Sv:=by exists ME
def M7:=aY 3 MZ
def nF:Zt "turn_of" ["book", "way"] 4 4:=cT ["book", "way", "turn", "number"] 33 λT s B q z=>by have:=fx M7<|ME.2 T;exact{_,(c0 (aH 2)<|c0 (aV [] []<|aC<|aH 2) aL),rfl}
def v7:Sv:=by exists nF
def jG:=aY 4 v7
def fE:Zt "check_exponents" ["n", "exponents"] 1 3:=cT ["n", "exponents", "exponent"] 15 λT s B q z=>by exact{_,(c0 dI<|aC<|aV [] []<|aC dI),rfl}
def fB:Sv:=by exists fE
def eZ:=aY 3 fB
def x8:Zt "form" ["M", "n", "terms"] 3 6:=cT ["M", "n", "terms", "sums", "exponents", "c"] 14 λT s B q z=>by have:=fx eZ<|fE.2 T;have:=fx eK<|eL.2 T;exact{_,(c0 dI<|cO [3] (bU 3 l9)<|c0 (aV [3] []<|cO [3] uC<|aC<|mU 3) aL),rfl}
def MC:Sv:=by exists x8
def uD:=aY 6 MC
def vW:Zt "unknown" ["M", "n", "place"] 4 3:=cT ["M", "n", "place"] 37 λT s B q z=>by have:=fx uD<|x8.2 T;exact{_,(aL<|cD (fx uD<|x8.2 T) (q.mono<|by decide) (N8 (by trivial)<|N8 (by trivial)<|N8 (PF.d<|M4 (N8 (D0 (N8 (cTy tJ T.n My.boot_tuple<|pbc (PD.b<|PF.d<|eV s ["other", "place"] [cg,b4 2])<|by trivial)<|by trivial) λρ ds h=>(by have:=(lc<|lc l0) ρ ds h;lia))<|by trivial) λρ ds h=>(by have:=(lc l0) ρ ds h;lia))<|by trivial)<|lc<|lc<|lc l0),rfl}
def jE:Sv:=by exists vW
def gJ:=aY 3 jE
def oR:Zt "seen_form" ["book", "v", "kinds"] 6 9:=cT ["book", "v", "kinds", "M", "n", "inners", "place", "kind", "turn"] 36 λT s B q z=>by have:=fx cQ<|fL.2 T;have:=fx BS<|SM.2 T;have:=fx jG<|nF.2 T;have:=fx bF<|dZ.2 T;have:=fx gJ<|vW.2 T;exact{_,(c0 (aH 3)<|c0 (aH 4)<|cO [5] (bU 5)<|c0 (aV [5] []<|cO [5] (aH 8)<|aC<|eG 5) aL),rfl}
def iX:Sv:=by exists oR
def fN:=aY 9 iX
def lY:Zt "seen_forms" ["book", "name", "kinds"] 7 6:=cT ["book", "name", "kinds", "seen", "v", "make"] 39 λT s B q z=>by have:=fx MO<|M6.2 T;have:=fx fN<|oR.2 T;exact{_,(cO [3] (bU 3 K1)<|c0 (aV [3] []<|aC<|aZ<|aC<|mU 3) aL),rfl}
def lV:Sv:=by exists lY
def eI:=aY 6 lV
def A5:Zt "points" ["n"] 1 1:=cT ["n"] 29 λT s B q z=>by exact{_,(c0 (aZ<|aL<|PF.d<|eV s ["x"] [cg])<|aL<|PF.d<|eV s ["x"] [cg]),rfl}
def sT:Sv:=by exists A5
def AR:=aY 1 sT
def FN:Zt "power" ["M", "value", "exponent"] 2 5:=cT ["M", "value", "exponent", "product", "factor"] 27 λT s B q z=>by have:=fx yN<|D9.2 T;exact{_,(c0 (aH 3)<|c0 (aV [] []<|aC<|aH 3) aL),rfl}
def F6:Sv:=by exists FN
def xO:=aY 5 F6
def rX:Zt "worth_at" ["M", "one", "values"] 3 9:=cT ["M", "one", "values", "total", "exponents", "c", "product", "exponent", "value"] 26 λT s B q z=>by have:=fx yN<|D9.2 T;have:=fx xO<|FN.2 T;exact{_,(c0 (aH 3)<|c0 (aV [] []<|c0 (aH 6)<|c0 (aV [] []<|aC<|aH 6)<|aC<|aH 3) aL),rfl}
def qU:Sv:=by exists rX
def g8:=aY 9 qU
def vV:Zt "parting" ["M", "n", "one", "other"] 4 5:=cT ["M", "n", "one", "other", "point"] 28 λT s B q z=>by have:=fx AR<|A5.2 T;have:=fx g8<|rX.2 T;exact{_,(c0 (aV [] []<|aC<|aZ aL) aL),rfl}
def IW:Sv:=by exists vV
def vX:=aY 5 IW
def gH:Zt "seen_shortfall" ["book", "m", "v", "seen"] 5 7:=cT ["book", "m", "v", "seen", "way", "n", "one"] 38 λT s B q z=>by have:=fx cQ<|fL.2 T;have:=fx vX<|vV.2 T;have:=fx jG<|nF.2 T;have:=fx bF<|dZ.2 T;exact{_,(c0 (aH 4)<|c0 (aZ aL)<|c0 (aH 5)<|c0 (aH 6) aL),rfl}
def dQ:Sv:=by exists gH
def gF:=aY 7 dQ
def dG:Zt "first_shortfall" ["book", "m", "seen"] 6 5:=cT ["book", "m", "seen", "v", "values"] 40 λT s B q z=>by have:=fx gF<|gH.2 T;exact{_,(c0 (aV [] [] (c0 (aH 4)<|aC<|aZ aL)<|sU<|by trivial) aL),rfl}
def lK:Sv:=by exists dG
def bO:=aY 5 lK
def sM:Zt "chief_of" ["book", "seen"] 7 3:=cT ["book", "seen", "m"] 41 λT s B q z=>by have:=fx bO<|dG.2 T;exact{_,(c0 (aV [] [] (aC<|aZ aL)<|sU<|by trivial) aL),rfl}
def CO:Sv:=by exists sM
def hU:=aY 3 CO
def l6:Zt "make_fault" ["book"] 8 5:=cT ["book", "name", "n", "kinds", "seen"] 42 λT s B q z=>by have:=fx hU<|sM.2 T;have:=fx F7<|EI.2 T;have:=fx bO<|dG.2 T;have:=fx fX<|kF.2 T;have:=fx eI<|lY.2 T;exact{_,(c0 (aV [] []<|aC<|aV [] []<|c0 (aH 4)<|aC<|aZ<|aL<|D0 (N8 (by trivial)<|N8 (by trivial)<|N8 (PF.d<|eV s ["m", "book", "seen"] [cg,b4 0,b4 4]<|sU<|by trivial)<|by trivial) λρ ds h=>(by have:=(lc<|lc<|lc l0) ρ ds h;lia)) aL),rfl}
def wM:Sv:=by exists l6
def lT:=aY 5 wM
def iJ:Zt "_law_deeds" ["makes"] 1 3:=cT ["makes", "out", "make"] 83 λT s B q z=>by exact{_,(cO [1] (bU 1)<|c0 (aV [1] []<|aC<|aZ<|aC<|eG 1) aL),rfl}
def oG:Sv:=by exists iJ
def iN:=aY 3 oG
def sI:Zt "is_whole" ["thing"] 1 1:=cT ["thing"] 8 λT s B q z=>by exact{_,aL,rfl}
def CQ:Sv:=by exists sI
def CU:=aY 1 CQ
def EM:Zt "wheel" ["thing"] 2 1:=cT ["thing"] 9 λT s B q z=>by have:=fx CU<|sI.2 T;exact{_,(c0 dI<|c0 dI<|c0 dI aL),rfl}
def EY:Sv:=by exists EM
def FR:=aY 1 EY
def nJ:Zt "is_name" ["text"] 1 1:=cT ["text"] 52 λT s B q z=>by exact{_,(c0 (aZ aL)<|aL<|cB (L9 rfl) T.n My.boot_all<|pbc (PD.b<|PF.d<|eV s ["sign"] [cg])<|by trivial),rfl}
def vI:Sv:=by exists nJ
def nI:=aY 1 vI
def j6:Zt "check_kinds" ["kinds"] 2 3:=cT ["kinds", "number", "kind"] 54 λT s B q z=>by have:=fx nI<|nJ.2 T;exact{_,(c0 dI<|aC<|aV [] []<|c0 dI<|aC dI),rfl}
def kB:Sv:=by exists j6
def j7:=aY 3 kB
def kL:Zt "is_price" ["price"] 1 1:=cT ["price"] 56 λT s B q z=>by exact{_,aL,rfl}
def sP:Sv:=by exists kL
def kX:=aY 1 sP
def sC:Zt "roads_of" ["M", "many", "roads"] 2 9:=cT ["M", "many", "roads", "told", "j", "k", "a", "b", "price"] 55 λT s B q z=>by have:=fx kX<|kL.2 T;have:=fx yN<|D9.2 T;exact{_,(c0 dI<|cO [3] (bU 3)<|c0 (aV [3] []<|cO [3] dI<|cO [3] dI<|aC<|eG 3) aL),rfl}
def qV:Sv:=by exists sC
def rL:=aY 9 qV
def jW:Zt "check_deeds" ["makes"] 1 8:=cT ["makes", "counted", "name", "takes", "gives", "terms", "price", "deed"] 60 λT s B q z=>by exact{_,(cO [1] (bU 1 l9)<|aC<|aV [1] []<|cO [1] (aH 7)<|cO [1] (mU 1)<|aC dI),rfl}
def j9:Sv:=by exists jW
def kC:=aY 8 j9
def lZ:Zt "check_make" ["many", "name", "takes", "gives", "price"] 2 6:=cT ["many", "name", "takes", "gives", "price", "kind"] 58 λT s B q z=>by have:=fx nI<|nJ.2 T;have:=fx kX<|kL.2 T;exact{_,(c0 dI<|c0 dI<|c0 (aV [] []<|aC dI)<|aC dI),rfl}
def l7:Sv:=by exists lZ
def lP:=aY 6 l7
def oT:Zt "make_form" ["M", "n", "terms"] 4 7:=cT ["M", "n", "terms", "told", "e", "exponents", "c"] 59 λT s F q B=>by have:=fx uD<|x8.2 T;exact{_,(c0 (QT (λ_ _ z=>z)<|aC<|aH 3)<|c0 (aV [] []<|aC dI) aL),rfl}
def pE:Sv:=by exists oT
def oO:=aY 7 pE
def rN:Zt "makes_of" ["M", "many", "makes"] 5 9:=cT ["M", "many", "makes", "told", "name", "takes", "gives", "terms", "price"] 57 λT s B q z=>by have:=fx kC<|jW.2 T;have:=fx lP<|lZ.2 T;have:=fx oO<|oT.2 T;exact{_,(c0 dI<|cO [3] (bU 3)<|c0 (aV [3] []<|cO [3] uC<|aC<|eG 3)<|c0 uC aL),rfl}
def sJ:Sv:=by exists rN
def rE:=aY 9 sJ
def NG:Zt "book" ["M", "kinds", "roads", "makes"] 6 4:=cT ["M", "kinds", "roads", "makes"] 53 λT s B q z=>by have:=fx j7<|j6.2 T;have:=fx rE<|rN.2 T;have:=fx rL<|sC.2 T;have:=fx FR<|EM.2 T;exact{_,(c0 uC<|c0 uC aL),rfl}
def NI:Sv:=by exists NG
def NC:=aY 4 NI
def fW:Zt "_law_fitting" ["reach", "makes", "name", "some"] 1 9:=cT ["reach", "makes", "name", "some", "out", "v", "good", "j", "k"] 82 λT s B q z=>by exact{_,(cO [4] (bU 4)<|c0 (aV [4] []<|cO [4] (aH 6)<|cO [4] (aV [4] [4]<|aC<|aH 6)<|aC<|aZ<|aC<|eG 4) aL),rfl}
def jY:Sv:=by exists fW
def fU:=aY 9 jY
def qT:Zt "_law_made" ["M", "terms", "values"] 1 9:=cT ["M", "terms", "values", "out", "es", "c", "e", "x", "k"] 75 λT s B q z=>by exact{_,(c0 (aH 3)<|c0 (aV [] []<|c0 (aV [] []<|aC<|aV [] []<|aC<|aH 5)<|aC<|aH 3) aL),rfl}
def sD:Sv:=by exists qT
def rZ:=aY 9 sD
def fJ:Zt "_law_along" ["M", "roads", "way", "x"] 1 5:=cT ["M", "roads", "way", "x", "r"] 74 λT s B q z=>by exact{_,(c0 (aV [] []<|aC<|aH 3) aL),rfl}
def nY:Sv:=by exists fJ
def fM:=aY 5 nY
def fG:Zt "_law_first" ["roads", "reach", "j", "k"] 1 6:=cT ["roads", "reach", "j", "k", "way", "r"] 73 λT s B q z=>by exact{_,(c0 (aH 4)<|c0 (SO [] []<|c0 (aH 5)<|c0 (SO [] []<|aC<|aH 5)<|c0 (aH 4)<|aC<|aH 2) aL),rfl}
def oK:Sv:=by exists fG
def dF:=aY 6 oK
def k8:Zt "_law_seen" ["M", "roads", "reach", "make", "some", "values"] 2 10:=cT ["M", "roads", "reach", "make", "some", "values", "out", "j", "k", "x"] 76 λT s B q z=>by have:=fx fM<|fJ.2 T;have:=fx dF<|fG.2 T;have:=fx rZ<|qT.2 T;exact{_,(cO [6] (bU 6)<|c0 (aV [6] []<|aC<|eG 6) aL),rfl}
def kT:Sv:=by exists k8
def eQ:=aY 10 kT
def iS:Zt "_law_point" ["p", "many"] 1 2:=cT ["p", "many"] 77 λT s B q z=>by exact{_,(c0 (aZ aL) aL),rfl}
def iP:Sv:=by exists iS
def eA:=aY 2 iP
def gZ:Zt "_law_tables" ["M", "roads", "reach", "makes", "near", "some"] 3 10:=cT ["M", "roads", "reach", "makes", "near", "some", "out", "v", "row", "p"] 79 λT s B q z=>by have:=fx eA<|iS.2 T;have:=fx eQ<|k8.2 T;exact{_,(cO [6] (bU 6)<|c0 (aV [6] []<|cO [6,8] (bU 8)<|cO [6] (aV [6,8] [6]<|aC<|eG 8)<|aC<|eG 6) aL),rfl}
def lQ:Sv:=by exists gZ
def gX:=aY 10 lQ
def lO:Zt "_law_number" ["n", "many"] 1 2:=cT ["n", "many"] 86 λT s B q z=>by exact{_,aL,rfl}
def l5:Sv:=by exists lO
def lX:=aY 2 l5
def rJ:Zt "_law_both" ["M", "roads", "reach", "pair", "some", "values"] 3 8:=cT ["M", "roads", "reach", "pair", "some", "values", "way", "mine"] 78 λT s B q z=>by have:=fx fM<|fJ.2 T;have:=fx dF<|fG.2 T;have:=fx eQ<|k8.2 T;exact{_,(c0 (aH 6)<|c0 (aH 7) aL),rfl}
def sN:Sv:=by exists rJ
def rG:=aY 8 sN
def gU:Zt "_law_covers" ["M", "roads", "reach", "pair", "mine", "other"] 2 9:=cT ["M", "roads", "reach", "pair", "mine", "other", "way", "x", "y"] 80 λT s B q z=>by have:=fx fM<|fJ.2 T;have:=fx dF<|fG.2 T;exact{_,(c0 (aZ aL)<|c0 (aH 6)<|c0 (aV [] []<|aC<|aZ aL) aL),rfl}
def lN:Sv:=by exists gU
def gW:=aY 9 lN
def oH:Zt "_law_short" ["M", "roads", "reach", "makes", "some", "near", "tables", "row"] 4 15:=cT ["M", "roads", "reach", "makes", "some", "near", "tables", "row", "pair", "mine", "v", "other", "two", "p", "point"] 85 λT s B q z=>by have:=fx rG<|rJ.2 T;have:=fx gW<|gU.2 T;have:=fx eA<|iS.2 T;exact{_,(c0 (aH 8)<|c0 (aH 9<|EQ z (by trivial) (PD.b<|AA q.units (by trivial) (by trivial) λm h k=>(GD zff PySem.F.slot_list_index PySem.F.type_list_index m h k)) λ_ _=>rfl)<|c0 (aV [] []<|c0 (aH 12)<|aC<|aZ aL)<|c0 (aZ aL)<|c0 (aV [] []<|c0 (aH 14)<|aC<|aZ aL) aL),rfl}
def pH:Sv:=by exists oH
def iO:=aY 15 pH
def oV:Zt "_law_shown" ["M", "roads", "reach", "makes", "found"] 5 10:=cT ["M", "roads", "reach", "makes", "found", "k", "near", "tables", "m", "row"] 87 λT s B q z=>by have:=fx iN<|iJ.2 T;have:=fx fU<|fW.2 T;have:=fx lX<|lO.2 T;have:=fx iO<|oH.2 T;have:=fx gX<|gZ.2 T;exact{_,(c0 (aZ aL)<|c0 (aZ aL)<|c0 (aV [] []<|aC<|aZ aL)<|c0 (aH 6)<|c0 (aZ aL)<|c0 (aH 7)<|c0 (aV [] []<|c0 (aZ aL)<|c0 (aZ aL)<|aC<|aZ aL) aL),rfl}
def pK:Sv:=by exists oV
def iR:=aY 10 pK
def gG:Zt "_law_first_over" ["M", "roads", "reach", "makes", "near", "tables"] 3 12:=cT ["M", "roads", "reach", "makes", "near", "tables", "m", "mine", "good", "v", "other", "two"] 81 λT s B q z=>by have:=fx gW<|gU.2 T;exact{_,(c0 (aV [] []<|c0 (aH 8)<|c0 (aV [] []<|c0 (aH 11)<|aC<|aH 8)<|aC<|aZ aL) aL),rfl}
def m9:Sv:=by exists gG
def gE:=aY 12 m9
def jX:Zt "_law_settled" ["M", "roads", "reach", "makes", "name", "some"] 4 9:=cT ["M", "roads", "reach", "makes", "name", "some", "near", "tables", "first"] 84 λT s B q z=>by have:=fx gE<|gG.2 T;have:=fx fU<|fW.2 T;have:=fx gX<|gZ.2 T;exact{_,(c0 (aH 6)<|c0 (aH 7)<|c0 (aH 8) aL),rfl}
def j4:Sv:=by exists jX
def jV:=aY 9 j4
def SV:{b:Sv // ∀ {P:zap} {w:World} {K:zaf} {mg:Str->Option Value} {base:Heap},Tx P w K mg base->ZOk P w K mg base ["script", "M", "kinds", "roads", "makes", "reach", "found", "deeds_v", "k", "cell", "name", "many", "some", "asked", "at"] "law" s_law 8 b}:={_,λT B z A outer s H E q=>by have G:=SQ q;have J:=sc_law.nd;have:=fx NC<|NG.2 T;have:=fx eD<|gM.2 T;have:=fx kR<|rB.2 T;have:=fx iN<|iJ.2 T;have:=fx oF<|pC.2 T;have:=fx jV<|jX.2 T;have:=fx iR<|oV.2 T;have:=fx lT<|l6.2 T;exact{_,(c0 (jR (by trivial)<|jP<|My.nP (n:=4) rfl<|by trivial)<|c0 (aH 5)<|c0 (aH 6)<|c0 (aH 7)<|c0 (aZ aL)<|c0 (aV [] []<|c0 (aH 9)<|c0 (aZ aL)<|c0 (jR (by trivial)<|jP<|My.nP (n:=2) rfl<|by trivial)<|c0 (aH 12)<|c0 (aH 13)<|c0 (aZ<|c0 (aH 14<|AA q.units (by trivial) (by trivial) λm h k=>(GD zff PySem.F.slot_list_index PySem.F.type_list_index m h k))<|aC<|aH 13<|MH (qaT q) (by trivial) (by trivial)<|DM _)<|aC<|aZ aL) aL),rfl}}
def NQ:Sv:=by exists SV
def Bd(k:Nat)(x:Int):Prop:=-(10^k)<x/\x<10^k
def Bd.mono(h:Bd k x)(l:k<=m):Bd m x:=by
 have:(10:Int)^k<=10^m:=by
  have:=Nat.pow_le_pow_right (show 0<10 by decide) l;exact_mod_cast this
 exact{by have:=h.1;lia,by have:=h.2;lia}
def Bd.mul(h:Bd k x)(g:Bd m y):Bd (k+m)<|x*y:=by
 have:=WO h.1 h.2 g.1 g.2;unfold Bd;rw[zdD];exact this
def Bd.add(h:Bd k x)(g:Bd k y):Bd (k+1)<|x+y:=by
 have a:=h.1;have b:=h.2;have c:=g.1;have d:=g.2;unfold Bd;rw[zca];constructor <;> lia
def Bd.neg(h:Bd k x):Bd k<|-x:={by have:=h.2;lia,by have:=h.1;lia}
def Bd.mulH(h:Bd k x)(g:Bd m y)(q:k<=500)(z:m<=500):b5 (.int x) (.int y)=b4 (.int<|x*y):=by
 have e:(10:Int)^500=10^250*10^250:=by rw[<- zdD]
 have h':=h.mono q;have g':=g.mono z;unfold Bd at h' g';rw[e]at h' g';exact dH h'.1 h'.2 g'.1 g'.2
def Bd.of(q:M<10^60)(h:0<=x/\x<=M):Bd 60 x:=by
 have:(0:Int)<10^60:=by decide +kernel
 exact{by lia,by lia}
def Bd.mod(h0:0<M)(q:M<10^60):Bd 61<|x%M:=(Bd.of q {zay x<|zaX h0,zbX<|zaz x h0}).mono<|by decide
def iY(ns:List Int):∃f:Int->Int,∀k:Int,0<=k->k<=1000->eD [.lst<|ns.map .int,.int k]=b4 (.int<|f k):=by
 have h:∀k:Int,∃c:Int,0<=k->k<=1000->eD [.lst<|ns.map .int,.int k]=b4 (.int c):=λk=>by
  by_cases h0:0<=k
  .by_cases h1:k<=1000
   .by_cases B:k<(ns.length:Int)
    .obtain⟨c,G,_⟩:=AZ h0 B
     exact{c,λ_ _=>aM<|by simp_all[mG,aK,B,G]}
    .have U:b5 (.int 40692) (.int k)=b4 (.int<|40692*k):=dH (by decide +kernel) (by decide +kernel) (by lia) (by lia)
     have W:b5 (.int k) (.int k)=b4 (.int<|k*k):=dH (by lia) (by lia) (by lia) (by lia);have fin:∀y:Int,-(100000000000)<y->y<100000000000->b5 (.int y) (.int 48271)=b4 (.int<|y*48271)/\b5 (.int<|y*48271%2147483647) (.int<|y*48271%2147483647)=b4 (.int<|y*48271%2147483647*(y*48271%2147483647)):=λy a b=>by
      have c:=zay (y*48271) (show(2147483647:Int)≠0 by decide);have d:=zaz (y*48271) (show(0:Int)<2147483647 by decide);exact{dH (by lia) (by lia) (by decide +kernel)<|by decide +kernel,dH (by lia) (by lia) (by lia)<|by lia}
     by_cases J:(0:Int)<(ns.length:Int)
     .have q:0<ns.length:=by lia
      obtain⟨c,G,_⟩:=AZ (ns:=ns) (k:=k*k%(ns.length:Int)) (zay _<|zaX J)<|zaz _ J;have c0:=zay c (show(2147483647:Int)≠0 by decide);have Y:=zaz c (show(0:Int)<2147483647 by decide);obtain⟨F,N⟩:=fin (40692*k+1+c%2147483647) (by lia) (by lia);exact{_,λ_ _=>aM<|by simp_all[mG,aK,B,U,W,q,bS J,G,bS,F,N];rfl}
     .have q:¬ 0<ns.length:=by lia
      obtain⟨F,N⟩:=fin (40692*k+1) (by lia) (by lia);exact{_,λ_ _=>aM<|by simp_all[mG,aK,B,U,q,bS,F,N];rfl}
   .exact{0,λ_ z=>absurd z h1}
  .exact{0,λz=>absurd z h0}
 exact{λk=>(h k).choose,λk=>(h k).choose_spec}
def C8(Y:3<=M)(F:M<10^60):∃a b:Int,kN [.int M,.int c]=b4 (.tup [.int a,.int b])/\(0<=a/\a<=M)/\0<=b/\b<=M:=by
 suffices h:∃d,kN [.int M,.int c]=b4 d/\∃a b:Int,d=.tup [.int a,.int b]/\(0<=a/\a<=M)/\0<=b/\b<=M by
  obtain⟨d,e,a,b,rfl,h⟩:=h;exact⟨a,b,e,h⟩
 have U:=Ten
 have q:0<M:=by lia
 have J:=zay c (show(5:Int)≠0 by decide);have W:=zaz c (show(0:Int)<5 by decide);refine dX ?_;unfold qZ;rw[aG<|aJ (d:=.int 1)<|by simp_all];rw[aG<|aJ (d:=.int 1)<|by simp_all];refine eW (items:=aU 0 1 (c%5).toNat) (by simp_all[aK,bS,eP J<|show c%5<=1000000 by lia]) (λi ρ=>∃(a b:Int) (o:Option D),ρ=[b4<|.int M,b4<|.int c,b4<|.int a,b4<|.int b,o]/\(0<=a/\a<M)/\0<=b/\b<M) {1,1,cg,by ac_rfl,by lia,by lia,by lia} ?_ ?_
 .rintro i x ρ hx ⟨a,b,o,rfl,z,B⟩
  have N:b5 (.int a) (.int 2)=b4 (.int<|a*2):=dH (by lia) (by lia) (by decide +kernel) (by decide +kernel);have G:b5 (.int b) (.int<|(M+1)/2)=b4 (.int<|b*((M+1)/2)):=dH (by lia) (by lia) (by lia) (by lia);refine{[b4<|.int M,b4<|.int c,b4<|.int<|a*2%M,b4<|.int<|b*((M+1)/2)%M,b4 x],?_,_,_,_,rfl,{zay _<|zaX q,zaz _ q},zay _<|zaX q,zaz _ q};simp_all[turn,N,G,gO,bS q]
 .rintro ρ ⟨a,b,o,rfl,z,B⟩
  refine xM (λρ=>∃(a b:Int),ρ=[b4<|.int M,b4<|.int c,b4<|.int a,b4<|.int b,o]/\(0<=a/\a<=M)/\0<=b/\b<=M) ?_ ?_
  .by_cases h:c/5%2=1
   .exact{_,by ac_rfl,M-a,M-b,rfl,by lia,by lia,by lia}
   .exact{_,by ac_rfl,a,b,rfl,by lia,by lia,by lia}
  .rintro ρ ⟨a,b,rfl,z,B⟩
   by_cases h:c/10%2=1
   .exact{_,VE<|by ac_rfl,b,a,rfl,B,z}
   .rw[aG (ρ':=[b4<|.int M,b4<|.int c,b4<|.int a,b4<|.int b,o])<|by ac_rfl]
    exact{_,by simp_all,a,b,rfl,z,B}
structure Se where
 x:Int
 y:Int
 z:Int
def iF(s:Se):D:=.tup [.int s.x,.int s.y,.int s.z]
def YC(M:Int)(s:Se):Prop:=(0<=s.x/\s.x<=M)/\(0<=s.y/\s.y<=M)/\0<=s.z/\s.z<=M
def qv:aN (iF s) (.int 0)=b4 (.int s.x):=by unfold iF;rw[q_itT];exact at0
def qaP:aN (iF s) (.int 1)=b4 (.int s.y):=by unfold iF;rw[q_itT];exact at1
def zE{ns:List Int}{M many:Int}(N:3<=M)(q:M<10^60)(hm:1<=many/\many<=6):∃ss:List Se,iU [.int M,.lst<|ns.map .int,.int many]=b4 (.lst<|ss.map iF)/\(ss.length:Int)=many/\∀s∈ss,YC M s:=by
 suffices h:∃d,iU [.int M,.lst<|ns.map .int,.int many]=b4 d/\∃ss:List Se,d=.lst (ss.map iF)/\(ss.length:Int)=many/\∀s∈ss,YC M s by
  obtain⟨d,e,ss,rfl,h⟩:=h;exact⟨ss,e,h⟩
 obtain⟨f,hf⟩:=iY ns;have B:0<M:=by lia
 refine dX ?_;unfold pL;rw[aG<|aJ (d:=.lst [])<|by simp_all];refine eW (items:=aU 0 1 many.toNat) (by simp_all[aK,eP (show 0<=many by lia)<|show many<=1000000 by lia]) (λi ρ=>∃(ss:List Se) (F o5 o6 o7:Option D),ρ=[b4<|.int M,b4<|.lst<|ns.map .int,b4<|.int many,b4<|.lst<|ss.map iF,F,o5,o6,o7]/\ss.length=i/\∀s∈ss,YC M s) {[],cg,cg,cg,cg,by ac_rfl,rfl,λ_ h=>nomatch h} ?_ ?_
 .rintro i x ρ U ⟨ss,F,o5,o6,o7,rfl,G,hs⟩
  obtain⟨aa,rfl⟩:=bG U;have hI:0<=(0:Int)+(i:Int)*1/\(0:Int)+(i:Int)*1<=6:=by lia
  generalize (0:Int)+(i:Int)*1=I at hI;have J:=hf (4+I) (by lia) (by lia);generalize f (4+I)=c at J;obtain⟨a,b,eu,W,Y⟩:=C8 (c:=c) N q;have z0:=zay (c/20)<|zaX B;have z1:=zaz (c/20) B;have hz:a7 ss.length=cp:=decide_eq_true (by lia);refine{[b4<|.int M,b4<|.lst<|ns.map .int,b4<|.int many,b4<|.lst<|(ss++[({a,b,c/20%M}:Se)]).map iF,b4<|.int I,b4<|.int c,b4<|.int a,b4<|.int b],?_,_,_,_,_,_,rfl,by simp_all[G],λs h=>?_}
  .simp_all[turn,J,eu,gO,bS B,hz,iF]
  .rcases List.mem_append.mp h with z|z
   .exact hs s z
   .rw[List.mem_singleton.mp z];exact{W,Y,z0,by show c/20%M<=M;lia}
 .rintro ρ ⟨ss,F,o5,o6,o7,rfl,G,hs⟩
  rw[a9]at G;exact{_,by simp_all,ss,rfl,by lia,hs}
def EC(many:Int)(r:Ro):Prop:=(0<=r.j/\r.j<r.k/\r.k<many)/\0<=r.p/\r.p<=10^30/\Bd 61 r.a/\Bd 61 r.b
def wJ{ss:List Se}{i:Int}(h0:0<=i)(h:i<(ss.length:Int)):∃s∈ss,d8 (ss.map iF) i=b4 (iF s):=by
 obtain⟨d,q,_,e⟩:=SJ (l:=ss.map iF) (k:=i) h0 (by rw[zaj];exact h);obtain⟨s,hs,rfl⟩:=List.mem_map.mp q;exact{s,hs,e}
def rT{M many j k c:Int}{ss:List Se}(h3:3<=M)(ag:M<10^60)(hl:(ss.length:Int)=many)(hs:∀s∈ss,YC M s)(N:0<=j)(jk:j<k)(km:k<many):∃r:Ro,qS [.int M,.lst<|ss.map iF,.int j,.int k,.int c]=b4 (bD r)/\r.j=j/\r.k=k/\EC many r:=by
 have al:=Ten
 have af:(10:Int)^30=1000000000000000000000000000000:=by decide +kernel
 have B:0<M:=by lia
 obtain⟨s,J,es⟩:=wJ (ss:=ss) (i:=j) N (by lia);obtain⟨t,G,et⟩:=wJ (ss:=ss) (i:=k) (by lia) (by lia);obtain⟨s1,s2,s3⟩:=hs s J;obtain⟨t1,t2,t3⟩:=hs t G;have Y:b5 (.int t.x) (.int s.y)=b4 (.int<|t.x*s.y):=dH (by lia) (by lia) (by lia) (by lia);have a0:=zay (t.x*s.y)<|zaX B;have U:=zaz (t.x*s.y) B;generalize hA:t.x*s.y%M=A at a0 U;have m2:b5 (.int A) (.int s.z)=b4 (.int<|A*s.z):=dH (by lia) (by lia) (by lia) (by lia);have e0:=zay (c/3) (show(2:Int)≠0 by decide);have e1:=zaz (c/3) (show(0:Int)<2 by decide);have W:=zay (c/5) (show(2:Int)≠0 by decide);have g1:=zaz (c/5) (show(0:Int)<2 by decide);have m3:b5 (.int M) (.int<|c/3%2)=b4 (.int<|M*(c/3%2)):=dH (by lia) (by lia) (by lia) (by lia);have m4:b5 (.int M) (.int<|c/5%2)=b4 (.int<|M*(c/5%2)):=dH (by lia) (by lia) (by lia) (by lia);have w0:=zay (c/7) (show(1000000000000000000000000000000:Int)≠0 by decide);have w1:=zaz (c/7) (show(0:Int)<1000000000000000000000000000000 by decide);have pw:D7 (.int 10) (.int 30)=b4 (.int 1000000000000000000000000000000):=BQ (by decide) (by decide) (by decide);have dm:dM (.int<|c/7) (.int 1000000000000000000000000000000)=b4 (.int<|c/7%1000000000000000000000000000000):=bS (by decide);have F:∀ {x y:Int},(0<=x/\x<=M)->0<=y->y<2->Bd 61 (x-M*y):=λ{x y} hx y0 y1=>by
  have q:(10:Int)^61=10000000000000000000000000000000000000000000000000000000000000:=by decide +kernel
  have:y=0\/y=1:=by lia
  rcases this with rfl|rfl
  .exact{by rw[q];lia,by rw[q];lia}
  .exact{by rw[q];lia,by rw[q];lia}
 refine{{j,k,A-M*(c/3%2),(t.z-A*s.z)%M-M*(c/5%2),c/7%1000000000000000000000000000000},aM ?_,rfl,rfl,{N,jk,km},w0,by show c/7%1000000000000000000000000000000<=_;lia,F {a0,zbX U} e0 e1,F {zay _<|zaX B,zbX<|zaz _ B} W g1};unfold sA;rw[aG<|aJ (d:=.int A)<|by simp_all[aK,es,et,qv,qaP,Y,bS B,hA]];rw[aG<|aJ (d:=.int<|(t.z-A*s.z)%M)<|by ac_rfl];simp_all[aK,gO,bS,m3,m4,pw,dm,bD]
def yV{ns:List Int}{M many:Int}{ss:List Se}(h3:3<=M)(J:M<10^60)(hm:1<=many/\many<=6)(hl:(ss.length:Int)=many)(hs:∀s∈ss,YC M s):∃rs:List Ro,iH [.int M,.lst<|ss.map iF,.lst<|ns.map .int]=b4 (.lst<|rs.map bD)/\rs.length<=12/\∀r∈rs,EC many r:=by
 suffices h:∃d,iH [.int M,.lst<|ss.map iF,.lst<|ns.map .int]=b4 d/\∃rs:List Ro,d=.lst (rs.map bD)/\rs.length<=12/\∀r∈rs,EC many r by
  obtain⟨d,e,rs,rfl,h⟩:=h;exact⟨rs,e,h⟩
 obtain⟨f,hf⟩:=iY ns;have f3:=hf 3 (by decide) (by decide);have G:∀ {rs:List Ro} {r:Ro},(∀r∈rs,EC many r)->EC many r->∀q∈rs++[r],EC many q:=λh k q hq=>by
  rcases List.mem_append.mp hq with z|z
  .exact h q z
  .rw[List.mem_singleton.mp z];exact k
 refine dX ?_;unfold oM;have el:cE [.lst<|ss.map iF]=b4 (.int many):=by rw[q_lenL,zaj,hl]
 refine f6 (aJ<|cW (by ac_rfl) el)<|f6 (ρ':=List.set _ 4<|b4<|.lst []) (by ac_rfl) ?_;have r1:d6 [.int 1,.int many]=b4 (aU 1 1 (many-1).toNat):=gI (by decide) (by decide) (by lia) (by lia);refine eW (items:=aU 1 1 (many-1).toNat) (by ac_rfl) (λi ρ=>∃(rs:List Ro) (o5 o6 o7:Option D),ρ=[b4<|.int M,b4<|.lst<|ss.map iF,b4<|.lst<|ns.map .int,b4<|.int many,b4<|.lst<|rs.map bD,o5,o6,o7,cg]/\rs.length<=i/\∀r∈rs,EC many r) {[],cg,cg,cg,by ac_rfl,by simp_all,λ_ h=>nomatch h} ?_ ?_
 .rintro i x ρ Y ⟨rs,o5,o6,o7,rfl,N,B⟩
  obtain⟨ab,rfl⟩:=bG Y;have U:1<=(1:Int)+(i:Int)*1/\(1:Int)+(i:Int)*1<many:=by lia
  generalize (1:Int)+(i:Int)*1=I at U;have fI:=hf (9+I) (by lia) (by lia);generalize f (9+I)=c at fI;have hz:(rs.map bD).length<=1000000:=by rw[zaj];lia
  have pI:0<I+1:=by lia
  have F:=zay (c/11)<|zaX pI;have W:=zaz (c/11) pI;have hj:∃j:Int,-1<=j/\j<I/\bW (dA 7<|bE BX (aD 5)<|eC<|.int 1) (wL (lJ<|bE pZ (bE dM (aW eD<|aE (aD 2)<|aE (eC<|.int 3) bB)<|eC<|.int 3)<|eC<|.int 2) (dA 7<|bE BX (bE dM (bE lG (aD 6)<|eC<|.int 11)<|bE cC (aD 5)<|eC<|.int 1)<|eC<|.int 1) B4) [b4<|.int M,b4<|.lst<|ss.map iF,b4<|.lst<|ns.map .int,b4<|.int many,b4<|.lst<|rs.map bD,b4<|.int I,b4<|.int c,o7,cg]=b4 (.nx [b4<|.int M,b4<|.lst<|ss.map iF,b4<|.lst<|ns.map .int,b4<|.int many,b4<|.lst<|rs.map bD,b4<|.int I,b4<|.int c,b4<|.int j,cg]):=by
   by_cases h:f 3%3=2
   .exact{c/11%(I+1)-1,by lia,by lia,by simp_all[f3,bS,h,gO,bS pI]}
   .exact{I-1,by lia,by lia,by ac_rfl}
  obtain⟨j,j0,j1,ej⟩:=hj;have es:∀ {g h k:Sv} {ρ:dC},bW g (bW h k) ρ=bW (bW g h) k ρ:=by
   intro g h k ρ;unfold bW;cases g ρ with
   |none=>rfl
   |some o=>cases o <;> rfl
  by_cases h:0<=j
  .obtain⟨r,er,_,_,ok⟩:=rT (c:=c/77) h3 J hl hs h j1 U.2
   apply fO
   .refine cK rfl (aR (by ac_rfl)<|bI ?_)
    rw[es];exact aR ej<|bI<|by ac_rfl
   .exact{rs++[r],_,_,_,by rw[za5];rfl,by simp_all;lia,G B ok}
  .apply fO
   .refine cK rfl (aR (by ac_rfl)<|bI ?_)
    rw[es];exact aR ej<|bI<|by ac_rfl
   .exact{rs,_,_,_,rfl,by lia,B}
 .rintro ρ ⟨rs,o5,o6,o7,rfl,N,B⟩
  rw[a9]at N;have r2:d6 [.int 15,.int 19]=b4 (aU 15 1 4):=gI (by decide) (by decide) (by decide) (by decide);refine eW (items:=aU 15 1 4) (by ac_rfl) (λi ρ=>∃(rs:List Ro) (o5 o6 o7:Option D),ρ=[b4<|.int M,b4<|.lst<|ss.map iF,b4<|.lst<|ns.map .int,b4<|.int many,b4<|.lst<|rs.map bD,o5,o6,o7,cg]/\rs.length<=5+i/\∀r∈rs,EC many r) {rs,o5,o6,o7,rfl,by lia,B} ?_ ?_
  .rintro i x ρ Y ⟨rs,o5,o6,o7,rfl,N,B⟩
   obtain⟨ab,rfl⟩:=bG Y;have U:15<=(15:Int)+(i:Int)*1/\(15:Int)+(i:Int)*1<19:=by lia
   generalize (15:Int)+(i:Int)*1=I at U;have fI:=hf I (by lia) (by lia);generalize f I=c at fI;have hz:(rs.map bD).length<=1000000:=by rw[zaj];lia
   by_cases h1:1<many
   .by_cases h2:c%2=1
    .have p1:0<many-1:=by lia
     have F:=zay (c/2)<|zaX p1;have W:=zaz (c/2) p1;have d1:dM (.int<|c/2) (.int<|many-1)=b4 (.int<|c/2%(many-1)):=bS p1;generalize c/2%(many-1)=j at F W d1;have p2:0<many-1-j:=by lia
     have u0:=zay (c/10)<|zaX p2;have u1:=zaz (c/10) p2;obtain⟨r,er,_,_,ok⟩:=rT (j:=j) (k:=j+1+c/10%(many-1-j)) (c:=c/50) h3 J hl hs F (by lia) (by lia);apply fO
     .exact cK rfl<|by ac_rfl
     .exact{rs++[r],_,_,_,by rw[za5];rfl,by simp_all;lia,G B ok}
    .apply fO
     .exact cK rfl<|by ac_rfl
     .exact{rs,_,_,_,rfl,by lia,B}
   .apply fO
    .exact cK rfl<|by ac_rfl
    .exact{rs,_,_,_,rfl,by lia,B}
  .rintro ρ ⟨rs,o5,o6,o7,rfl,N,B⟩
   rw[a9]at N;have ln:(rs.map bD).length=rs.length:=zaj ..;have lp:(0:Int)<((rs.map bD).length:Int)+1:=by lia
   have F:=zay (f 3/3)<|zaX lp;have W:=zaz (f 3/3) lp;refine f6 (by ac_rfl) ?_;generalize f 3/3%(((rs.map bD).length:Int)+1)=sp at F W;obtain⟨c1,c2⟩:=uB (w:=rs.map bD) (c:=sp) F (by lia);refine{.lst<|(rs.drop sp.toNat++rs.take sp.toNat).map bD,?_,_,rfl,by simp_all;lia,λr h=>?_}
   .have d1:lF (.lst<|rs.map bD) (b4 sp) cg=b4 (.lst<|(rs.map bD).drop sp.toNat):=by rw[q_slL,c2]
    have d2:lF (.lst<|rs.map bD) cg (b4 sp)=b4 (.lst<|(rs.map bD).take sp.toNat):=by rw[q_slL,c1]
    have hz:((rs.map bD).drop sp.toNat).length+((rs.map bD).take sp.toNat).length<=1000000:=by simp_all;lia
    rw[za5,List.map_drop,List.map_take]
    ac_rfl
   .rcases List.mem_append.mp h with z|z
    .exact B r<|List.mem_of_mem_drop z
    .exact B r<|List.mem_of_mem_take z
def OkT(n:Nat)(t:My.Tm):Prop:=t.1.length=n/\(∀e∈t.1,0<=e/\e<=2)/\Bd 61 t.2
theorem k4(q:0<M)(es:d8 S g=b4 (iF s))(z:s.x=x):∀(ts:List My.Tm) (o1 o2:Option D),(∀t∈ts,b5 (.int x) (.int t.2)=b4 (.int<|x*t.2))->bV (c9 2<|bA (aO 0)<|bA (aO 1) dP) pX (gQ<|aE (aD 0)<|aE (bE dM (bE b5 (bE aN (bE aN (aD 2)<|aD 3)<|eC<|.int 0)<|aD 1)<|aD 4) bB) (ts.map bP) [o1,o2,b4<|.lst S,b4<|.int g,b4<|.int M]=b4 ((ts.map λt=>(t.1,x*t.2%M)).map bP)
 |[],_,_,_=>rfl
 |t::ts,o1,o2,h=>by
  have ih:=k4 q es z ts (b4<|tupI t.1) (b4<|.int t.2) λu B=>h u<|zax _ B
  have m:=h t<|zaw ..;rw[zak,bV];simp[-zad,-zae,aA,aB,bP,es,qv,z,m,bS q]at ih ⊢;simp_all[ih]
def zH{M many g:Int}{ss:List Se}{tk so:List Int}(h3:3<=M)(B:M<10^60)(hl:(ss.length:Int)=many)(hs:∀s∈ss,YC M s)(ar:(∃t,tk=[t])\/∃t u,tk=[t,u])(ae:∀t∈tk,0<=t/\t<many)(g0:0<=g)(g1:g<many)(ap:∃a b c d:Int,so=[a,b,c,d])(U:∀x∈so,0<=x/\x<=M) :
  ∃ts:List My.Tm,pM [.int M,.lst<|ss.map iF,tupI tk,.int g,.lst<|so.map .int]=b4 (.lst<|ts.map bP)/\ts.length<=6/\∀t∈ts,OkT tk.length t:=by
 have Mp:0<M:=by lia
 obtain⟨a,b,c,d,rfl⟩:=ap;have ba:=Bd.of B (U a<|by simp_all);have bb:=Bd.of B (U b<|by simp_all);have J:=Bd.of B (U c<|by simp_all);have N:=Bd.of B (U d<|by simp_all);obtain⟨⟨X,Y,Z⟩,as,es⟩:=wJ (ss:=ss) (i:=g) g0 (by lia);obtain⟨s1,s2,s3⟩:=hs _ as;have bx:Bd 60 X:=Bd.of B s1;have ag:Bd 60 Y:=Bd.of B s2;have bz:Bd 60 Z:=Bd.of B s3;have cc:d8 (ss.map iF) g=b4 (.tup [.int X,.int Y,.int Z]):=es;have two:Bd 60 2:={by decide +kernel,by decide +kernel};have v3:=ag.mul bz;have m3:=ag.mulH bz (by decide) (by decide);have W:∀ {v:Int},Bd 400 v->b5 (.int X) (.int v)=b4 (.int<|X*v):=λh=>bx.mulH h (by decide)<|by decide
 rcases ar with⟨t,rfl⟩|⟨t,u,rfl⟩
 .have t0:=ae t (by simp_all)
  obtain⟨⟨_,i,z⟩,ac,er⟩:=wJ (ss:=ss) (i:=t) t0.1 (by lia);obtain⟨r1,r2,r3⟩:=hs _ ac;have F:Bd 60 i:=Bd.of B r2;have bw:Bd 60 z:=Bd.of B r3;have G:=F.neg.mul bw;have mo:=F.neg.mulH bw (by decide) (by decide);have ak:d8 (ss.map iF) t=b4 (.tup [.int _,.int i,.int z]):=er;generalize -i*z=o at G mo;have n1:=bb.mulH G (by decide) (by decide);have n2:=J.mulH G (by decide) (by decide);have n3:=(J.mul G).mulH G (by decide) (by decide);have n4:=J.mulH F (by decide) (by decide);have n5:=(J.mul F).mulH F (by decide) (by decide);have n6:=bb.mulH F (by decide) (by decide);have n7:=two.mulH J (by decide) (by decide);have n8:=(two.mul J).mulH F (by decide) (by decide);have n9:=((two.mul J).mul F).mulH G (by decide) (by decide);have e1:=W ((((ba.mono<|show 60<=300 by decide).add<|(bb.mul G).mono<|show 60+(60+60)<=300 by decide).add<|((J.mul G).mul G).mono<|show 60+(60+60)+(60+60)<=300+1 by decide).mono<|show 300+1+1<=400 by decide);have e2:=W (((J.mul F).mul F).mono<|show 60+60+60<=400 by decide);have e3:=W ((((bb.mul F).mono<|show 60+60<=350 by decide).add<|(((two.mul J).mul F).mul G).mono<|show 60+60+60+(60+60)<=350 by decide).mono<|show 350+1<=400 by decide);have e4:=W (v3.mono<|show 60+60<=400 by decide);have cm:=k4 Mp es rfl [([0],a+b*o+c*o*o),([2],c*i*i),([1],b*i+2*c*i*o),([0],Y*Z)] cg cg (by simp only[zaF,zaG,or_false];rintro t (rfl|rfl|rfl|rfl) <;> assumption);refine{_,aM (d:=.lst<|_) (by unfold iM;ac_rfl),by simp_all,λq hq=>?_};simp only[zak,zbB,zaF,zaG,or_false]at hq;rcases hq with rfl|rfl|rfl|rfl <;> exact{rfl,by simp_all,Bd.mod Mp B}
 .have t0:=ae t (by simp_all)
  have u0:=ae u (by simp_all);obtain⟨⟨_,i,z⟩,ac,er⟩:=wJ (ss:=ss) (i:=t) t0.1 (by lia);obtain⟨⟨_,e,w⟩,al,eq⟩:=wJ (ss:=ss) (i:=u) u0.1 (by lia);obtain⟨r1,r2,r3⟩:=hs _ ac;obtain⟨q1,q2,q3⟩:=hs _ al;have F:Bd 60 i:=Bd.of B r2;have bw:Bd 60 z:=Bd.of B r3;have G:=F.neg.mul bw;have mo:=F.neg.mulH bw (by decide) (by decide);have be:Bd 60 e:=Bd.of B q2;have bv:Bd 60 w:=Bd.of B q3;have bp:=be.neg.mul bv;have mp:=be.neg.mulH bv (by decide) (by decide);have ak:d8 (ss.map iF) t=b4 (.tup [.int _,.int i,.int z]):=er;have a4:d8 (ss.map iF) u=b4 (.tup [.int _,.int e,.int w]):=eq;generalize -i*z=o at G mo;generalize -e*w=p at bp mp;have n1:=N.mulH F (by decide) (by decide);have n2:=(N.mul F).mulH be (by decide) (by decide);have n3:=bb.mulH G (by decide) (by decide);have n4:=J.mulH bp (by decide) (by decide);have n5:=N.mulH G (by decide) (by decide);have n6:=(N.mul G).mulH bp (by decide) (by decide);have n7:=J.mulH be (by decide) (by decide);have n8:=(N.mul G).mulH be (by decide) (by decide);have n9:=bb.mulH F (by decide) (by decide);have ca:=(N.mul F).mulH bp (by decide) (by decide);have e1:=W (((N.mul F).mul be).mono<|show 60+60+60<=400 by decide);have e2:=W (((((ba.mono<|show 60<=300 by decide).add<|(bb.mul G).mono<|show 60+(60+60)<=300 by decide).add<|(J.mul bp).mono<|show 60+(60+60)<=300+1 by decide).add<|((N.mul G).mul bp).mono<|show 60+(60+60)+(60+60)<=300+1+1 by decide).mono<|show 300+1+1+1<=400 by decide);have e3:=W ((((J.mul be).mono<|show 60+60<=350 by decide).add<|((N.mul G).mul be).mono<|show 60+(60+60)+60<=350 by decide).mono<|show 350+1<=400 by decide);have e4:=W ((((bb.mul F).mono<|show 60+60<=350 by decide).add<|((N.mul F).mul bp).mono<|show 60+60+(60+60)<=350 by decide).mono<|show 350+1<=400 by decide);have e5:=W (v3.mono<|show 60+60<=400 by decide);have cm:=k4 Mp es rfl [([1,1],d*i*e),([0,0],a+b*o+c*p+d*o*p),([0,1],c*e+d*o*e),([1,0],b*i+d*i*p),([0,0],Y*Z)] cg cg (by simp only[zaF,zaG,or_false];rintro t (rfl|rfl|rfl|rfl|rfl) <;> assumption);refine{_,aM (d:=.lst<|_) (by unfold iM;ac_rfl),by simp_all,λq hq=>?_};simp only[zak,zbB,zaF,zaG,or_false]at hq;rcases hq with rfl|rfl|rfl|rfl|rfl <;> exact{rfl,by simp_all,Bd.mod Mp B}
def QG{ss:List Str}(h:∀s∈ss,∃n,s={#[n]}):(ss.map (·.length)).sum=ss.length:=by
 induction ss with
 |nil=>rfl
 |cons s ss ih=>
  obtain⟨n,rfl⟩:=h s<|zaw ..;rw[zak,zdg,ih λt q=>h t<|zax _ q,zaU];show 1+ss.length=ss.length+1
  lia
def sg(S:Str)(i:Int):Nat:=S.cps.toList.getD i.toNat 0
def RN(hz:z.length<=1000)(h0:0<=i)(h:i<(z.length:Int)):aN (.str z) (.int i)=b4 (.str {#[sg z i]}):=by
 obtain⟨j,rfl⟩:∃j:Nat,i=(j:Int):={i.toNat,by lia};have q:j<z.cps.toList.length:=by rw[zbg];show j<z.length;lia
 have e:d8 z.cps.toList (j:Int)=b4 z.cps.toList[j]:=bH (by simp_all[q]);have B:sg z (j:Int)=z.cps.toList[j]:=by
  unfold sg;rw[zb6,List.getD_eq_getElem?_getD,zaH q];rfl
 rw[B];show(if a7 z.length then(d8 z.cps.toList (j:Int)).map (λc=>D.str {#[c]})else cg)=_;rw[cw<|show a7 z.length=cp from decide_eq_true<|by lia,e];rfl
theorem join_ones:∀l:List Nat,(Str.join ""<|l.map λg=>({#[g]}:Str)).cps.toList=l
 |[]=>rfl
 |[g]=>rfl
 |g::g'::l=>by
  have ih:=join_ones<|g'::l;show(({#[g]}:Str) ++ "" ++ Str.join "" ((g'::l).map λg=>({#[g]}:Str))).cps.toList=_;have e:∀a b:Str,(a++b).cps=a.cps++b.cps:=λ_ _=>rfl
  rw[e,e,Array.toList_append,Array.toList_append,ih];rfl
def JR:Txt.join sep ys=Str.join sep ys:=by
 have:=join_closes (sep:=sep) (sep':=sep) (ys:=ys) rfl;simpa using this
def K5(l:List Nat):((l.map λg=>({#[g]}:Str)).map (·.length)).sum=l.length:=by
 rw[QG (ss:=l.map λg=>({#[g]}:Str)) λs hs=>by obtain⟨g,_,rfl⟩:=List.mem_map.mp hs;exact{g,rfl},zaj]
def low(c:Nat):Bool:=decide (97<=c) && decide (c<=122)
def tY(x:Str):Bool:=decide (1<=x.length) && decide (x.length<=8) && (x.cps.toList.all low) && !((["let", "in", "pick", "again"]:List Str).contains x)
def UZ(c:Nat):(!decide (({#[c]}:Str).cps.toList<("a" : Str).cps.toList))=decide (97<=c)/\(!decide (("z" : Str).cps.toList<({#[c]}:Str).cps.toList))=decide (c<=122):=by
 have ea:("a" : Str).cps.toList=[97]:=by decide
 have B:("z" : Str).cps.toList=[122]:=by decide
 have q:({#[c]}:Str).cps.toList=[c]:=rfl;rw[ea,B,q];have h1:([c]<[97])↔c<97:=by simp_all[List.cons_lt_cons_iff]
 have h2:([122]<[c])↔122<c:=by simp_all[List.cons_lt_cons_iff]
 constructor
 .by_cases h:c<97
  .rw[decide_eq_true<|h1.mpr h,decide_eq_false<|by lia];rfl
  .rw[decide_eq_false λz=>h<|h1.mp z,decide_eq_true<|by lia];rfl
 .by_cases h:122<c
  .rw[decide_eq_true<|h2.mpr h,decide_eq_false<|by lia];rfl
  .rw[decide_eq_false λz=>h<|h2.mp z,decide_eq_true<|by lia];rfl
theorem zM:∀(cs:List Nat) (o:Option D),bV (aO 0) pX (hW BW BW (eC<|.str "a") (aD 0)<|eC<|.str "z") (cs.map λc=>.str {#[c]}) [o]=b4 ((cs.map low).map .bl)
 |[],o=>rfl
 |c::cs,o=>by
  have ih:=zM cs<|b4<|.str {#[c]};obtain⟨F,z⟩:=UZ c;have q:BW (.str "a") (.str {#[c]})=b4 (.bl<|decide (97<=c)):=by rw[q_leAS,F]
  have B:BW (.str {#[c]}) (.str "z")=b4 (.bl<|decide (c<=122)):=by rw[q_leAS,z]
  by_cases h:97<=c
  .simp_all[-zaI,-q_leAS,bV,hW,q,B,h,ih,low]
  .simp_all[-zaI,-q_leAS,bV,hW,q,h,ih,low]
def vY(hl:x.length<=1000):nI [.str x]=b4 (.bl<|tY x):=by
 refine aM ?_;have hz:a7 x.length=cp:=decide_eq_true (by lia);have le:cE [.str x]=b4 (.int (x.length:Int)):=cw hz;have W:=zM x.cps.toList cg;have B:a7 (P.signs x).length=cp:=by
  have:(P.signs x).length=x.length:=by unfold P.signs;rw[zaj,zbg];rfl
  rw[this];exact hz
 have Y:(List.map low x.cps.toList).all id=x.cps.toList.all low:=by rw[List.all_map];rfl
 unfold vI tY;by_cases h1:x.length<1
 .have z:(x.length:Int)<1:=by lia
  have h2:decide (1<=x.length)=cr:=decide_eq_false (by lia);rw[h2]
  ac_rfl
 .have z:¬ (x.length:Int)<1:=by lia
  have h2:decide (1<=x.length)=cp:=decide_eq_true (by lia);rw[h2];by_cases h8:8<x.length
  .have q:(8:Int)<(x.length:Int):=by lia
   have G:decide (x.length<=8)=cr:=decide_eq_false (by lia);rw[G]
   ac_rfl
  .have q:¬ (8:Int)<(x.length:Int):=by lia
   have G:decide (x.length<=8)=cp:=decide_eq_true (by lia);rw[G];unfold P.signs at B;by_cases J:x = "let" \/ x = "in" \/ x = "pick" \/ x = "again"
   .have N:(["let", "in", "pick", "again"]:List Str).contains x=cp:=by simpa using J
    rw[N]
    ac_rfl
   .have N:(["let", "in", "pick", "again"]:List Str).contains x=cr:=by simpa using J
    rw[N];have sg:P.signs x=x.cps.toList.map λc=>D.str {#[c]}:=rfl
    have U:JH [.lst<|(x.cps.toList.map low).map .bl]=b4 (.bl<|x.cps.toList.all low):=by rw[q_all,Y]
    have F:a7 x.cps.size=cp:=hz;simp[-zad,-zae,aA,aB,-zaI,-q_all,aK,le,z,q,J,sg,F,pR,W]at U ⊢
    ac_rfl
def S0(h0:0<=i)(h:i<26):aN (.str "abcdefghijklmnopqrstuvwxyz") (.int i)=b4 (.str {#[97+i.toNat]}):=by
 have l:("abcdefghijklmnopqrstuvwxyz" : Str).length=26:=by decide +kernel
 rw[RN (by rw[l];decide) h0<|by rw[l];exact h];have:∀j:Fin 26,sg "abcdefghijklmnopqrstuvwxyz" (j.val:Int)=97+j.val:=by decide +kernel
 have e:=this {i.toNat,by lia};have q:((i.toNat:Nat):Int)=i:=by lia
 rw[q]at e;rw[e]
def lH(c:Int):Int:=if c/26%8=0 then 1 else if c/26%8=7 then 8 else c/26%8+2
def qL(c k:Int):List Nat:=if c/1664%3=0 then zaQ (1+(c+k)%8).toNat (97+(c%26).toNat)else(zaQ (lH c).toNat<|97+(c%26).toNat).set (c/208%lH c).toNat<|97+((c+1+k)%26).toNat
def iE(c k:Int):Str:={(qL c k).toArray}
def GM(c:Int):1<=lH c/\lH c<=8/\lH c≠2:=by
 unfold lH;have:=zay (c/26) (show(8:Int)≠0 by decide);have:=zaz (c/26) (show(0:Int)<8 by decide);split
 .lia
 .split <;> lia
def mL(c k:Int):(qL c k).length=(if c/1664%3=0 then(1+(c+k)%8).toNat else(lH c).toNat):=by
 unfold qL;split <;> simp_all
def DJ(c k:Int):1<=(iE c k).length/\(iE c k).length<=8:=by
 have e:(iE c k).length=(qL c k).length:=by show(qL c k).toArray.size=_;simp_all
 have z:=GM c;rw[e,mL];split <;> lia
def W7(c k:Int):(iE c k).cps.toList.all low=cp:=by
 show(qL c k).toArray.toList.all low=cp;rw[zcO];intro x q;have q:x∈qL c k:=by simpa using q
 have a:x=97+(c%26).toNat\/x=97+((c+1+k)%26).toNat:=by
  unfold qL at q;split at q
  .exact .inl<|zdh q
  .rcases List.mem_or_eq_of_mem_set q with z|z
   .exact .inl<|zdh z
   .exact .inr z
 unfold low;have:97<=x/\x<=122:=by lia
 ac_rfl
def PQ(c k:Int):∃(a s:Nat),∀i x,i≠s->(qL c k)[i]?=b4 x->x=a:=by
 unfold qL;split
 .exact{97+(c%26).toNat,100,λi x _ h=>zdh<|zaA h}
 .refine{97+(c%26).toNat,(c/208%lH c).toNat,λi x hi h=>?_}
  rw[zdG<|zaS hi]at h;exact zdh<|zaA h
def three{a s i j k x y z:Nat}{w:List Nat}(h:∀i x,i≠s->w[i]?=b4 x->x=a)(G:w[i]?=b4 x)(F:w[j]?=b4 y)(hz:w[k]?=b4 z)(n:i≠j/\i≠k/\j≠k)(m:x≠y/\x≠z/\y≠z):False:=by
 by_cases e:i=s
 .have p:=h j y (λq=>n.1<|e.trans q.symm) F
  have q:=h k z (λq=>n.2.1<|e.trans q.symm) hz;exact m.2.2<|p.trans q.symm
 .have p:=h i x e G
  by_cases B:j=s
  .exact m.2.1<|p.trans (h k z (λq=>n.2.2<|B.trans q.symm) hz).symm
  .exact m.1<|p.trans (h j y B F).symm
def xQ{c k:Int}{w:List Nat}(hw:w=[108,101,116]\/w=[112,105,99,107]\/w=[97,103,97,105,110]):qL c k≠w:=by
 rintro rfl;obtain⟨a,s,h⟩:=PQ c k;rcases hw with e|e|e <;> rw[e]at h
 .exact three (i:=0) (j:=1) (k:=2) h rfl rfl rfl (by decide)<|by decide
 .exact three (i:=0) (j:=1) (k:=2) h rfl rfl rfl (by decide)<|by decide
 .exact three (i:=0) (j:=1) (k:=3) h rfl rfl rfl (by decide)<|by decide
def WS:qL c k≠[105,110]:=by
 intro e;have l:=congrArg zbI e;rw[mL]at l;have z:=GM c;unfold qL at e;split at e
 .have h0:(105:Nat)∈[105,110]:=by decide
  have h1:(110:Nat)∈[105,110]:=by decide
  rw[<- e]at h0 h1;have:=(zdh h0).trans (zdh h1).symm
  lia
 .rw[cx<|by assumption]at l
  have l:(lH c).toNat=2:=l
  lia
def S3(h0:0<=k)(h:k<25):tY (iE c k)=cp:=by
 obtain⟨B,F⟩:=DJ c k;have hw:(["let", "in", "pick", "again"]:List Str).contains (iE c k)=cr:=by
  have e:∀s:Str,iE c k=s->qL c k=s.cps.toList:=λs z=>by rw[<- z];simp_all[iE]
  have G:("let" : Str).cps.toList=[108,101,116]:=by decide
  have J:("in" : Str).cps.toList=[105,110]:=by decide
  have q:("pick" : Str).cps.toList=[112,105,99,107]:=by decide
  have N:("again" : Str).cps.toList=[97,103,97,105,110]:=by decide
  have:¬ (iE c k = "let" \/ iE c k = "in" \/ iE c k = "pick" \/ iE c k = "again"):=by
   rintro(z|z|z|z)
   .exact xQ (.inl G)<|e _ z
   .exact WS<|(e _ z).trans J
   .exact xQ (.inr<|.inl q)<|e _ z
   .exact xQ (.inr<|.inr N)<|e _ z
  simpa using this
 unfold tY;rw[hw,W7,decide_eq_true B,decide_eq_true F];rfl
def WC(h0:0<=k)(h:k<8)(h2:0<=m)(J:m<8)(e:iE c k=iE c m):k=m:=by
 have e:qL c k=qL c m:=by
  have:=congrArg (λs:Str=>s.cps.toList) e;simpa[iE]using this
 have z:=GM c;by_cases q:c/1664%3=0
 .have l:=congrArg zbI e
  rw[mL,mL,cw q,cw q]at l
  lia
 .unfold qL at e
  rw[cx q,cx q]at e;have B:=zay (c/208) (show lH c≠0 by lia);have F:=zaz (c/208) (show 0<lH c by lia);have G:=congrArg (λl:List Nat=>l[(c/208%lH c).toNat]?) e;simp[-zad,-zae,aA,aB,List.getElem?_set,show(c/208%lH c).toNat<(lH c).toNat by lia]at G
  lia
theorem sX:∀n:Nat,(zaQ n [x]).flatten=zaQ n x
 |0=>rfl
 |n+1=>by rw[zcv,zcK,sX n];rfl
def UV(l:List Nat)(h:l.length<=100):wF (.str "") (.lst<|l.map λg=>.str {#[g]})=b4 (.str {l.toArray}):=by
 have j:=UK (sep := "") (ss:=l.map λg=>({#[g]}:Str)) (by
  rw[K5];show l.length+_*0<=_
  lia)
 rw[zaI]at j;refine Eq.trans j ?_;congr 2;rw[JR];have:=join_ones l;cases hs:Str.join "" (l.map λg=>({#[g]}:Str))with
 |mk cps=>
  rw[hs]at this;simp only at this;rw[<- this]
def LQ(h0:0<=i)(h:i<8):d8 [D.int 1,.int 3,.int 4,.int 5,.int 6,.int 7,.int 8,.int 8] i=b4 (.int<|if i=0 then 1 else if i=7 then 8 else i+2):=by
 have:i=0\/i=1\/i=2\/i=3\/i=4\/i=5\/i=6\/i=7:=by lia
 rcases this with rfl|rfl|rfl|rfl|rfl|rfl|rfl|rfl <;> rfl
def oC(h0:0<=many)(h:many<=6):iL [.int c,.int many]=b4 (.lst<|(zav many.toNat).map λ(k:Nat)=>.str<|iE c (k:Int)):=by
 obtain⟨z1,z2,_⟩:=GM c;have Y:=zay (c/26) (show(8:Int)≠0 by decide);have i1:=zaz (c/26) (show(0:Int)<8 by decide);have es:=LQ Y i1;have s0:=zay (c/208) (show lH c≠0 by lia);have s1:=zaz (c/208) (show 0<lH c by lia);have a0:=zay c (show(26:Int)≠0 by decide);have a1:=zaz c (show(0:Int)<26 by decide);have z8:a7 8=cp:=rfl;refine aM ?_;unfold oU;rw[aG<|aJ (d:=.str "abcdefghijklmnopqrstuvwxyz")<|by simp_all];rw[aG<|aJ (d:=.int<|lH c)<|by simp_all[aK,gO,bS,es,lH,z8]];rw[aG<|aJ (d:=.int<|c/208%lH c)<|by ac_rfl];rw[aG<|aJ (d:=.lst [])<|by simp_all];refine b8 (items:=aU 0 1 many.toNat) (by simp_all[aK,eP h0<|show many<=1000000 by lia]) (λi ρ=>∃o6 o7,ρ=[b4<|.int c,b4<|.int many,b4<|.str "abcdefghijklmnopqrstuvwxyz",b4<|.int<|lH c,b4<|.int<|c/208%lH c,b4<|.lst<|(zav i).map λ(k:Nat)=>.str<|iE c (k:Int),o6,o7]) {cg,cg,by ac_rfl} ?_ ?_
 .rintro i x ρ hx ⟨o6,o7,rfl⟩
  obtain⟨ag,rfl⟩:=bG hx;have hI:(0:Int)+(i:Int)*1=(i:Int):=by lia
  rw[hI];have b0:=zay (c+1+(i:Int)) (show(26:Int)≠0 by decide);have b1:=zaz (c+1+(i:Int)) (show(0:Int)<26 by decide);have n0:=zay (c+(i:Int)) (show(8:Int)≠0 by decide);have n1:=zaz (c+(i:Int)) (show(0:Int)<8 by decide);have hz:a7 i=cp:=decide_eq_true (by lia);have q:a7 (lH c).toNat=cp:=decide_eq_true (by lia);have N:a7 (1+(c+(i:Int))%8).toNat=cp:=decide_eq_true (by lia);have B:cI (lH c)=cp:=by simp only[cI,zaM,decide_eq_true_eq];lia
  have J:cI (1+(c+(i:Int))%8)=cp:=by simp only[cI,zaM,decide_eq_true_eq];lia
  have U:=S0 a0 a1;have W:=S0 b0 b1;have nl:(qL c (i:Int)).length<=100:=by rw[mL];split <;> lia
  have F:=UV (qL c (i:Int)) nl;have pt:=U9 (l:=zaQ (lH c).toNat<|D.str {#[97+(c%26).toNat]}) (k:=c/208%lH c) (e:=.str {#[97+((c+1+(i:Int))%26).toNat]}) s0 (by rw[List.length_replicate];lia);refine{[b4<|.int c,b4<|.int many,b4<|.str "abcdefghijklmnopqrstuvwxyz",b4<|.int<|lH c,b4<|.int<|c/208%lH c,b4<|.lst<|(zav<|i+1).map λ(k:Nat)=>.str<|iE c (k:Int),b4<|.int (i:Int),b4<|.lst<|(qL c (i:Int)).map λg=>.str {#[g]}],?_,_,_,rfl};have rs:(zav<|i+1).map (λ(k:Nat)=>D.str<|iE c (k:Int))=(zav i).map (λ(k:Nat)=>D.str<|iE c (k:Int))++[.str<|iE c (i:Int)]:=by rw[List.range_succ,za5];rfl
  rw[rs];by_cases G:c/1664%3=0
  .have z:qL c (i:Int)=zaQ (1+(c+(i:Int))%8).toNat (97+(c%26).toNat):=by unfold qL;rw[cw G]
   rw[z,List.map_replicate]at F ⊢;have hs:iE c (i:Int)={(zaQ (1+(c+(i:Int))%8).toNat<|97+(c%26).toNat).toArray}:=by unfold iE;rw[z]
   simp_all[turn,bS,gO,U,W,sX,q,N,B,J,pt,G,F,hz,hs]
  .have z:qL c (i:Int)=(zaQ (lH c).toNat<|97+(c%26).toNat).set (c/208%lH c).toNat (97+((c+1+(i:Int))%26).toNat):=by unfold qL;rw[cx G]
   rw[z,List.map_set,List.map_replicate]at F ⊢;have hs:iE c (i:Int)={((zaQ (lH c).toNat<|97+(c%26).toNat).set (c/208%lH c).toNat<|97+((c+1+(i:Int))%26).toNat).toArray}:=by unfold iE;rw[z]
   simp_all[turn,bS,gO,U,W,sX,q,B,pt,G,F,hz,hs]
 .rintro ρ ⟨o6,o7,rfl⟩
  rw[a9];simp_all
structure Mk where
 nm:Str
 tk:List Int
 gv:Int
 ts:List My.Tm
 p:Int
def bL(m:Mk):D:=.tup [.str m.nm,tupI m.tk,.int m.gv,.lst<|m.ts.map bP,.int m.p]
structure OkM(many:Int)(n:Nat)(m:Mk):Prop where
 nm:tY m.nm=cp
 nl:m.nm.length<=8
 tk:(∃t,m.tk=[t])\/∃t u,m.tk=[t,u]
 tb:∀t∈m.tk,0<=t/\t<many
 gv:0<=m.gv/\m.gv<many
 tl:m.ts.length<=n
 tt:∀t∈m.ts,OkT m.tk.length t
 pr:0<=m.p/\m.p<=10^30
def XJ{q:Type}{P:q->Prop}{l:List q}{x:q}(h:∀y∈l,P y)(k:P x):∀y∈l++[x],P y:=λy B=>by
 rcases List.mem_append.mp B with z|z
 .exact h y z
 .rw[List.mem_singleton.mp z];exact k
def zD{ns:List Int}{M many:Int}{ss:List Se}(h3:3<=M)(ap:M<10^60)(hm:1<=many/\many<=6)(hl:(ss.length:Int)=many)(hs:∀s∈ss,YC M s):∃ms:List Mk,iV [.int M,.lst<|ss.map iF,.lst<|ns.map .int]=b4 (.lst<|ms.map bL)/\ms.length<=5/\∀m∈ms,OkM many 6 m:=by
 suffices h:∃d,iV [.int M,.lst<|ss.map iF,.lst<|ns.map .int]=b4 d/\∃ms:List Mk,d=.lst (ms.map bL)/\ms.length<=5/\∀m∈ms,OkM many 6 m by
  obtain⟨d,e,ms,rfl,h⟩:=h;exact⟨ms,e,h⟩
 have Mp:0<M:=by lia
 have mp:0<many:=by lia
 obtain⟨f,Y⟩:=iY ns;have f3:=Y 3 (by decide) (by decide);have a4:=Y 28 (by decide) (by decide);have bi:=Y 24 (by decide) (by decide);have a3:=Y 25 (by decide) (by decide);have az:=Y 26 (by decide) (by decide);have a2:=Y 27 (by decide) (by decide);have mb:∀x:Int,0<=x%M/\x%M<=M:=λx=>by
  have:=zay x<|zaX Mp;have:=zaz x Mp
  lia
 have mm:∀x:Int,0<=x%many/\x%many<many:=λx=>{zay x<|zaX mp,zaz x mp}
 have bz:d6 [.int 24,.int 28]=b4 [.int 24,.int 25,.int 26,.int 27]:=gI (by decide) (by decide) (by decide) (by decide);obtain⟨a,ha,ab⟩:∃a,f 24%M=a/\0<=a/\a<=M:={_,rfl,mb _};obtain⟨b,hb,bb⟩:∃a,f 25%M=a/\0<=a/\a<=M:={_,rfl,mb _};obtain⟨c,hc,cb⟩:∃a,f 26%M=a/\0<=a/\a<=M:={_,rfl,mb _};obtain⟨d,hd,db⟩:∃a,f 27%M=a/\0<=a/\a<=M:={_,rfl,mb _};have nn:=oC (c:=f 28) (many:=3) (by decide) (by decide);have e3:(zav (3:Int).toNat).map (λ(k:Nat)=>D.str<|iE (f 28) (k:Int))=[.str<|iE (f 28) 0,.str<|iE (f 28) 1,.str<|iE (f 28) 2]:=rfl;rw[e3]at nn;have el:cE [.lst<|ss.map iF]=b4 (.int many):=by rw[q_lenL,zaj,hl]
 generalize hN:iE (f 28)=N at nn;refine dX ?_;unfold oA;refine f6 (aJ<|cW (by ac_rfl) el)<|f6 (aJ (d:=.lst [.int a,.int b,.int c,.int d])<|by rw[<- ha,<- hb,<- hc,<- hd];ac_rfl)<|f6 (aJ (d:=.lst [.str<|N 0,.str<|N 1,.str<|N 2])<|by ac_rfl)<|f6 (by ac_rfl) ?_;generalize decide (0<f 28/5000%3)=al;refine f6 (by ac_rfl) ?_;have s0:=zay (f 3/30) (show(6:Int)≠0 by decide);have s1:=zaz (f 3/30) (show(0:Int)<6 by decide);generalize f 3/30%6=sz at s0 s1;have hsz:∃q:Int,0<=q/\q<=5/\wL (lJ<|bE BV (aD 3)<|eC<|.int 4) (dA 7<|bE dM (aD 7)<|eC<|.int 3) B4 [b4<|.int M,b4<|.lst<|ss.map iF,b4<|.lst<|ns.map .int,b4<|.int many,b4<|.lst [.int a,.int b,.int c,.int d],b4<|.lst [.str<|N 0,.str<|N 1,.str<|N 2],b4<|.bl al,b4<|.int sz,cg,cg,cg,cg,cg,cg,cg]=b4 (.nx [b4<|.int M,b4<|.lst<|ss.map iF,b4<|.lst<|ns.map .int,b4<|.int many,b4<|.lst [.int a,.int b,.int c,.int d],b4<|.lst [.str<|N 0,.str<|N 1,.str<|N 2],b4<|.bl al,b4<|.int q,cg,cg,cg,cg,cg,cg,cg]):=by
  by_cases h:4<many
  .exact{sz%3,by lia,by lia,by ac_rfl}
  .exact{sz,s0,by lia,by ac_rfl}
 obtain⟨q,y0,y1,ey⟩:=hsz;refine f6 ey<|f6 (ρ':=List.set _ 8<|b4<|.lst []) (by ac_rfl) ?_;have br:d6 [.int 19,.int<|19+q]=b4 (aU 19 1 (19+q-19).toNat):=gI (by decide) (by decide) (by lia) (by lia);refine eW (items:=aU 19 1 (19+q-19).toNat) (by ac_rfl) (λi ρ=>∃(ms:List Mk) (o7 o9 U F B G z:Option D),ρ=[b4<|.int M,b4<|.lst<|ss.map iF,b4<|.lst<|ns.map .int,b4<|.int many,b4<|.lst [.int a,.int b,.int c,.int d],b4<|.lst [.str<|N 0,.str<|N 1,.str<|N 2],b4<|.bl al,o7,b4<|.lst<|ms.map bL,o9,U,F,B,G,z]/\ms.length=i/\∀m∈ms,OkM many 6 m) {[],b4<|.int q,cg,cg,cg,cg,cg,cg,rfl,rfl,λ_ h=>nomatch h} ?_ ?_
 .rintro i x ρ hx ⟨ms,o7,o9,U,F,B,G,z,rfl,hi,W⟩
  obtain⟨bu,rfl⟩:=bG hx;have hI:19<=(19:Int)+(i:Int)*1/\(19:Int)+(i:Int)*1<=24:=by lia
  generalize (19:Int)+(i:Int)*1=I at hI;have fI:=Y I (by lia) (by lia);generalize f I=x at fI;have tk:∃tk:List Int,((∃t,tk=[t])\/∃t u,tk=[t,u])/\(∀t∈tk,0<=t/\t<many)/\∀ {ρ:dC},aD 10 ρ=b4 (.int x)->aD 3 ρ=b4 (.int many)->(OA lF (gQ<|aE (bE dM (bE lG (aD 10)<|eC<|.int 3)<|aD 3)<|aE (bE dM (bE lG (aD 10)<|eC<|.int 18)<|aD 3) bB) uI<|mX<|bE cC (eC<|.int 1)<|aW I0<|aE (bE BV (bE dM (aD 10)<|eC<|.int 3)<|eC<|.int 0) bB) ρ=b4 (tupI tk):=by
   by_cases h:0<x%3
   .have hg:BV (.int<|x%3) (.int 0)=b4 (.bl cp):=congrArg (λb=>b4<|D.bl b) (decide_eq_true h)
    refine{[x/3%many,x/18%many],.inr {_,_,rfl},λt ht=>?_,λh1 h2=>by ac_rfl};simp only[zaF,zaG,or_false]at ht;rcases ht with rfl|rfl <;> exact mm _
   .have hg:BV (.int<|x%3) (.int 0)=b4 (.bl cr):=congrArg (λb=>b4<|D.bl b) (decide_eq_false h)
    refine{[x/3%many],.inl {_,rfl},λt ht=>?_,λh1 h2=>by ac_rfl};rw[List.mem_singleton.mp ht];exact mm _
  obtain⟨tk,ac,ad,ao⟩:=tk;have gb:=mm<|x/108;have eg:dM (.int<|x/108) (.int many)=b4 (.int<|x/108%many):=bS mp;generalize x/108%many=g at gb eg;have hn:∃n:Int,(n=0\/n=1)/\∀ {o7 o8 o9 F B G z:Option D},bW (dA 13<|bE lG (bE dM (bE lG (aD 10)<|eC<|.int 648)<|eC<|.int 4)<|eC<|.int 3) (wL (lJ<|aD 6) (dA 13<|eC<|.int 0) B4) [b4<|.int M,b4<|.lst<|ss.map iF,b4<|.lst<|ns.map .int,b4<|.int many,b4<|.lst [.int a,.int b,.int c,.int d],b4<|.lst [.str<|N 0,.str<|N 1,.str<|N 2],b4<|.bl al,o7,o8,o9,b4<|.int x,F,B,G,z]=b4 (.nx [b4<|.int M,b4<|.lst<|ss.map iF,b4<|.lst<|ns.map .int,b4<|.int many,b4<|.lst [.int a,.int b,.int c,.int d],b4<|.lst [.str<|N 0,.str<|N 1,.str<|N 2],b4<|.bl al,o7,o8,o9,b4<|.int x,F,B,b4<|.int n,z]):=by
   cases al with
   |true=>exact{0,.inl rfl,by ac_rfl}
   |false=>
    have:=zay (x/648) (show(4:Int)≠0 by decide);have:=zaz (x/648) (show(0:Int)<4 by decide);exact{x/648%4/3,by lia,by ac_rfl}
  obtain⟨n,hn,en⟩:=hn;have es:∀ {g h k:Sv} {ρ:dC},bW g (bW h k) ρ=bW (bW g h) k ρ:=by
   intro g h k ρ;unfold bW;cases g ρ with
   |none=>rfl
   |some o=>cases o <;> rfl
  have w0:=zay (x/2592) (show(1000000000000000000000000000000:Int)≠0 by decide);have w1:=zaz (x/2592) (show(0:Int)<1000000000000000000000000000000 by decide);have pw:D7 (.int 10) (.int 30)=b4 (.int 1000000000000000000000000000000):=BQ (by decide) (by decide) (by decide);have dm:dM (.int<|x/2592) (.int 1000000000000000000000000000000)=b4 (.int<|x/2592%1000000000000000000000000000000):=bS (by decide);generalize x/2592%1000000000000000000000000000000=p at w0 w1 dm;have J:∃(J:List Int) (u v:List D),(∃a b c d:Int,J=[a,b,c,d])/\(∀x∈J,0<=x/\x<=M)/\cutD [D.int a,.int b,.int c,.int d] (b4 n) cg=u/\cutD [D.int a,.int b,.int c,.int d] cg (b4 n)=v/\u++v=J.map .int/\a7 (u.length+v.length)=cp:=by
   rcases hn with rfl|rfl
   .refine{[a,b,c,d],_,_,{_,_,_,_,rfl},λy hy=>?_,rfl,rfl,rfl,rfl}
    simp only[zaF,zaG,or_false]at hy;rcases hy with rfl|rfl|rfl|rfl <;> assumption
   .refine{[b,c,d,a],_,_,{_,_,_,_,rfl},λy hy=>?_,rfl,rfl,rfl,rfl}
    simp only[zaF,zaG,or_false]at hy;rcases hy with rfl|rfl|rfl|rfl <;> assumption
  obtain⟨J,u,v,ar,ak,cu,cv,aj,aq⟩:=J;obtain⟨ts,bj,tl,tt⟩:=zH (g:=g) h3 ap hl hs ac ad gb.1 gb.2 ar ak;have an:d8 [D.str<|N 0,.str<|N 1,.str<|N 2] n=b4 (.str<|N n):=by rcases hn with rfl|rfl <;> rfl
  have c1:lF (.lst [.int a,.int b,.int c,.int d]) (b4 n) cg=b4 (.lst u):=congrArg (λl=>b4<|D.lst l) cu;have c2:lF (.lst [.int a,.int b,.int c,.int d]) cg (b4 n)=b4 (.lst v):=congrArg (λl=>b4<|D.lst l) cv;have c3:cC (.lst u) (.lst v)=b4 (.lst<|J.map .int):=by rw[<- aj];exact cw aq
  have lz:(ms.map bL).length<=1000000:=by rw[zaj];lia
  apply fO
  .refine cK rfl (aR (by ac_rfl)<|bI<|aR (aJ<|ao rfl rfl)<|bI<|aR (by ac_rfl)<|bI ?_)
   rw[es];exact aR en<|bI<|by ac_rfl
  .exact{ms++[(⟨N n,tk,g,ts,p⟩:Mk)],o7,b4<|.int I,b4<|.int x,b4<|tupI tk,b4<|.int g,b4<|.int n,b4<|.lst<|ts.map bP,by rw[za5];rfl,by simp_all[hi],XJ W {by rw[<- hN];exact S3 (by lia)<|by lia,by rw[<- hN];exact(DJ _ _).2,ac,ad,gb,tl,tt,w0,by show p<=_;lia}}
 .rintro ρ ⟨ms,o7,o9,U,F,B,G,z,rfl,hi,W⟩
  rw[a9]at hi;exact{_,by ac_rfl,ms,rfl,by lia,W}
def OkM.mono(h:OkM many n m)(l:n<=k):OkM many k m:={h.nm,h.nl,h.tk,h.tb,h.gv,zbf h.tl l,h.tt,h.pr}
def spl{q:Type}{P:q->Prop}{l:List q}{x:q}{n m:Nat}(h:∀y∈l,P y)(k:P x):∀y∈l.take n++x::l.drop m,P y:=λy B=>by
 rcases List.mem_append.mp B with z|z
 .exact h y<|List.mem_of_mem_take z
 .rcases List.mem_cons.mp z with z|z
  .rw[z];exact k
  .exact h y<|List.mem_of_mem_drop z
def spM{q:Type}{f:q->D}{l:List q}{x:q}{n m:Nat}:(l.map f).take n++f x::(l.map f).drop m=(l.take n++x::l.drop m).map f:=by
 rw[za5,zak,List.map_take,List.map_drop]
def spL{q:Type}{l:List q}{x:q}{i:Int}(h0:0<=i)(h1:i<l.length):(l.take i.toNat++x::l.drop (i.toNat+1)).length=l.length:=by
 rw[zbp,zaU,zbJ,zeW];lia
def pkM{z:Type}{f:z->D}{l:List z}{c:Int}(h:0<((l.map f).length:Int)):0<=c%(l.map f).length/\c%(l.map f).length<(l.map f).length/\∃x∈l,d8 (l.map f) (c%(l.map f).length)=b4 (f x):=by
 have a0:=zay c<|zaX h;have q:=zaz c h;obtain⟨d,B,_,e⟩:=SJ a0 q;obtain⟨s,hs,rfl⟩:=List.mem_map.mp B;exact{a0,q,s,hs,e}
def spT{m:Mk}{t:My.Tm}{l:List Mk}{a b:Nat}:(l.map bL).take a++D.tup [.str m.nm,tupI m.tk,.int m.gv,.lst<|m.ts.map bP++[bP t],.int m.p]::(l.map bL).drop b=(l.take a++({m.nm,m.tk,m.gv,m.ts++[t],m.p}:Mk)::l.drop b).map bL:=by
 rw[<- spM,bL,za5];rfl
def uO{M many cell:Int}{rs:List Ro}{ms:List Mk}(h3:3<=M)(B:M<10^60)(F:rs.length<=12)(z:∀r∈rs,EC many r)(G:ms.length<=5)(J:∀m∈ms,OkM many 6 m) :
  ∃(rs':List Ro) (ms':List Mk),kG [.int M,.int cell,.lst<|rs.map bD,.lst<|ms.map bL]=b4 (.tup [.lst<|rs'.map bD,.lst<|ms'.map bL])/\(rs'.length<=12/\∀r∈rs',EC many r)/\ms'.length<=5/\∀m∈ms',OkM many 7 m:=by
 have q:∀m∈ms,OkM many 7 m:=λm h=>(J m h).mono<|by decide
 have Mp:0<M:=by lia
 have Mq:0<M-1:=by lia
 have er:(rs.map bD).length=rs.length:=zaj ..;have em:(ms.map bL).length=ms.length:=zaj ..;have lr:(rs.map bD).length<=1000:=by lia
 have lm:(ms.map bL).length<=1000:=by lia
 by_cases h1:cell%4=1
 .by_cases Y:0<((rs.map bD).length:Int)
  .obtain⟨a0,a1,r,aa,e⟩:=pkM (c:=cell/4) Y
   have ok:=z r aa;have U:d8 (rs.map bD) (cell/4%(rs.map bD).length)=b4 (.tup [.int r.j,.int r.k,.int r.a,.int r.b,.int r.p]):=e;by_cases h2:cell/40%2=1
   .refine' {rs.take _++({r.j,r.k,r.a,(r.b+1+cell/80%(M-1))%M,r.p}:Ro)::rs.drop _,ms,aM<|Eq.trans ?A<|congrArg (λl=>b4<|Out.rt<|.tup [.lst l,.lst<|ms.map bL]) spM,{?L,spl z {ok.1,ok.2.1,ok.2.2.1,ok.2.2.2.1,Bd.mod Mp B}},G,q}
    case A=>unfold bM;ac_rfl
    case L=>rw[spL a0<|by lia];exact F
   .refine' {rs.take _++({r.j,r.k,(r.a+1+cell/80%(M-1))%M,r.b,r.p}:Ro)::rs.drop _,ms,aM<|Eq.trans ?A<|congrArg (λl=>b4<|Out.rt<|.tup [.lst l,.lst<|ms.map bL]) spM,{?L,spl z {ok.1,ok.2.1,ok.2.2.1,Bd.mod Mp B,ok.2.2.2.2}},G,q}
    case A=>unfold bM;ac_rfl
    case L=>rw[spL a0<|by lia];exact F
  .exact{rs,ms,aM (by unfold bM;ac_rfl),⟨F,z⟩,G,q}
 .by_cases ag:cell%4=3
  .by_cases Y:0<((ms.map bL).length:Int)
   .obtain⟨a0,a1,m,ab,e⟩:=pkM (c:=cell/4) Y
    have ok:=J m ab;have U:d8 (ms.map bL) (cell/4%(ms.map bL).length)=b4 (.tup [.str m.nm,.tup<|m.tk.map .int,.int m.gv,.lst<|m.ts.map bP,.int m.p]):=e;have z3:(m.ts.map bP).length+1<=1000000:=by rw[zaj];have:=ok.tl;lia
    have x0:=zay (cell/40) (show(3:Int)≠0 by decide);have x1:=zaz (cell/40) (show(0:Int)<3 by decide);have y0:=zay (cell/120) (show(3:Int)≠0 by decide);have y1:=zaz (cell/120) (show(0:Int)<3 by decide);have ac:Bd 61<|1+cell/360%(M-1):=by
     have u0:=zay (cell/360)<|zaX Mq;have u1:=zaz (cell/360) Mq;exact(Bd.of B {by lia,by lia}).mono<|by decide
    suffices h:∃t:List Int,t.length=m.tk.length/\(∀e∈t,0<=e/\e<=2)/\bM (aK 15 [.int M,.int cell,.lst<|rs.map bD,.lst<|ms.map bL])=b4 (.rt<|.tup [.lst<|rs.map bD,.lst<|(ms.map bL).take (cell/4%(ms.map bL).length).toNat++D.tup [.str m.nm,.tup<|m.tk.map .int,.int m.gv,.lst<|m.ts.map bP++[.tup [.tup<|t.map .int,.int<|1+cell/360%(M-1)]],.int m.p]::(ms.map bL).drop ((cell/4%(ms.map bL).length).toNat+1)]) by
     obtain⟨t,tl,tb,ev⟩:=h;exact{rs,_,aM<|ev.trans<|congrArg (λl=>b4<|Out.rt<|.tup [.lst<|rs.map bD,.lst l])<|spT (t:=(t,_)),⟨F,z⟩,by rw[spL a0<|by lia];exact G,spl q {ok.nm,ok.nl,ok.tk,ok.tb,ok.gv,by rw[zbp];have:=ok.tl;simp_all;lia,XJ ok.tt {tl,tb,ac},ok.pr}}
    rcases ok.tk with⟨t,N⟩|⟨t,u,N⟩
    .refine{[cell/40%3],by rw[N];rfl,λe W=>by rw[List.mem_singleton.mp W];lia,?_}
     rw[N]at U ⊢;simp only[List.map]at U ⊢;unfold bM;ac_rfl
    .refine{[cell/40%3,cell/120%3],by rw[N];rfl,λe W=>by simp only[zaF,zaG,or_false]at W;rcases W with rfl|rfl <;> lia,?_}
     rw[N]at U ⊢;simp only[List.map]at U ⊢;unfold bM;ac_rfl
   .exact{rs,ms,aM (by unfold bM;ac_rfl),⟨F,z⟩,G,q}
  .exact{rs,ms,aM (by unfold bM;ac_rfl),⟨F,z⟩,G,q}
def dN(c:Int)(n:Nat):List D:=(zav n).map λ(k:Nat)=>.str<|iE c (k:Int)
def gN(c:Int)(n:Nat):(dN c n).length=n:=by simp_all[dN]
def C3(ns:List Int):∃(M c:Int) (n:Nat) (rs:List Ro) (ms:List Mk),kR [.lst<|ns.map .int]=b4 (.tup [.int M,.lst<|dN c n,.lst<|rs.map bD,.lst<|ms.map bL])/\(3<=M/\M<10^60/\M%2=1)/\(1<=n/\n<=6)/\(rs.length<=12/\∀r∈rs,EC (n:Int) r)/\ms.length<=5/\∀m∈ms,OkM (n:Int) 7 m:=by
 obtain⟨f,W⟩:=iY ns;have f0:=W 0 (by decide) (by decide);have f1:=W 1 (by decide) (by decide);have f2:=W 2 (by decide) (by decide);have ak:=W 29 (by decide) (by decide);have ac:=W 30 (by decide) (by decide);have as:=Ten
 have pw:D7 (.int 10) (.int 59)=b4 (.int 100000000000000000000000000000000000000000000000000000000000):=BQ (by decide) (by decide) (by decide +kernel);have x0:=zay (f 1) (show(100000000000000000000000000000000000000000000000000000000000:Int)≠0 by decide);have x1:=zaz (f 1) (show(0:Int)<100000000000000000000000000000000000000000000000000000000000 by decide);have dx:dM (.int<|f 1) (.int 100000000000000000000000000000000000000000000000000000000000)=b4 (.int<|f 1%100000000000000000000000000000000000000000000000000000000000):=bS (by decide);generalize f 1%100000000000000000000000000000000000000000000000000000000000=x at x0 x1 dx;have y0:=zay (f 1) (show(4:Int)≠0 by decide);have y1:=zaz (f 1) (show(0:Int)<4 by decide);have dy:dM (.int<|f 1) (.int 4)=b4 (.int<|f 1%4):=bS (by decide);generalize f 1%4=y at y0 y1 dy;have m1:b5 (.int 2) (.int x)=b4 (.int<|2*x):=dH (by decide +kernel) (by decide +kernel) (by lia) (by lia);have m2:b5 (.int 2) (.int y)=b4 (.int<|2*y):=dH (by decide +kernel) (by decide +kernel) (by lia)<|by lia
 suffices h:∃d,kR [.lst<|ns.map .int]=b4 d/\∃(M c:Int) (n:Nat) (rs:List Ro) (ms:List Mk),d=.tup [.int M,.lst<|dN c n,.lst<|rs.map bD,.lst<|ms.map bL]/\(3<=M/\M<10^60/\M%2=1)/\(1<=n/\n<=6)/\(rs.length<=12/\∀r∈rs,EC (n:Int) r)/\ms.length<=5/\∀m∈ms,OkM (n:Int) 7 m by
  obtain⟨d,e,M,c,n,rs,ms,rfl,h⟩:=h;exact⟨M,c,n,rs,ms,e,h⟩
 refine dX ?_;unfold rR;rw[aG<|aJ (d:=.int<|3+2*x)<|by ac_rfl];refine xM (λρ=>∃M:Int,ρ=[b4<|.lst<|ns.map .int,b4<|.int M,cg,cg,cg,cg]/\3<=M/\M<10^60/\M%2=1) ?_ ?_
 .by_cases h:f 0%4=0
  .exact{_,by simp_all[aK,f0,f1,bS (i:=f 0),h,dy,m2],3+2*y,rfl,by lia,by lia,by lia}
  .exact{_,by ac_rfl,3+2*x,rfl,by lia,by lia,by lia}
 rintro ρ ⟨M,rfl,F,q,N⟩;have v0:=zay (f 2) (show(4:Int)≠0 by decide);have v1:=zaz (f 2) (show(0:Int)<4 by decide);rw[aG<|aJ (d:=.int<|1+f 2%4)<|by ac_rfl];refine xM (λρ=>∃many:Int,ρ=[b4<|.lst<|ns.map .int,b4<|.int M,b4<|.int many,cg,cg,cg]/\1<=many/\many<=6) ?_ ?_
 .by_cases h:f 2/4%8=1
  .exact{_,by ac_rfl,6,rfl,by decide,by decide}
  .exact{_,by ac_rfl,1+f 2%4,rfl,by lia,by lia}
 rintro ρ ⟨many,rfl,B,z⟩;obtain⟨ss,es,hl,hs⟩:=zE (ns:=ns) F q {B,z};obtain⟨rs,er,hr,aa⟩:=yV (ns:=ns) F q {B,z} hl hs;obtain⟨ms,em,hm,ab⟩:=zD (ns:=ns) F q {B,z} hl hs;obtain⟨G,J,e2,ad,Y,U⟩:=uO (cell:=f 29) F q hr aa hm ab;rw[aG<|aJ (d:=.lst<|ss.map iF)<|by ac_rfl];rw[aG<|aJ (d:=.lst<|rs.map bD)<|by ac_rfl];have en:=oC (c:=f 30) (many:=many) (by lia) z;have ec:((many.toNat:Nat):Int)=many:=by lia
 refine{_,?_,M,f 30,many.toNat,G,J,rfl,{F,q,N},by lia,by rw[ec];exact ad,Y,by rw[ec];exact U};rw[aG (ρ':=[b4<|.lst<|ns.map .int,b4<|.int M,b4<|.int many,b4<|.lst<|ss.map iF,b4<|.lst<|G.map bD,b4<|.lst<|J.map bL])<|by ac_rfl];simp_all[ac,en,dN]
def p9(h:∃ρ,f (aK n ds)=b4 (.nx ρ)):aY n f ds=b4 .non:=by
 obtain⟨ρ,e⟩:=h;exact VQ e
def DE(q:f ρ=b4 items)(I:Nat->dC->Prop)(h0:I 0 ρ)(hs:∀i x ρ,items[i]?=b4 x->I i ρ->∃ρ',turn g b x ρ=b4 (.nx ρ')/\I (i+1) ρ'):∃ρ',iD f g b ρ=b4 (.nx ρ'):=by
 obtain⟨ρ',e,_⟩:=eU (g:=g) (b:=b) I h0 hs;exact{ρ',by rw[q_for,q,aA];exact e}
def G5{b rest:Sv}(B:f ρ=b4 items)(I:Nat->dC->Prop)(h0:I 0 ρ)(hs:∀i x ρ,items[i]?=b4 x->I i ρ->∃ρ',turn g b x ρ=b4 (.nx ρ')/\I (i+1) ρ')(k:∀ρ',I items.length ρ'->∃q,rest ρ'=b4 (.nx q)):∃ρ',bW (iD f g b) rest ρ=b4 (.nx ρ'):=by
 obtain⟨ρ',e,i⟩:=eU (g:=g) (b:=b) I h0 hs;obtain⟨q,z⟩:=k ρ' i;exact{q,by rw[aG (ρ':=ρ')<|by rw[q_for,B,aA];exact e];exact z}
def RJ(B:3<=M)(q:M<10^60)(z:M%2=1):FR [.int M]=b4 (.int M):=by
 refine aM ?_;have pw:D7 (.int 10) (.int 60)=b4 (.int<|10^60):=BQ (by decide) (by decide) (by decide +kernel);have a:¬ M<3:=by lia
 have b:¬ 10^60<M:=by lia
 unfold EY;simp only[Int.reducePow]at pw b
 ac_rfl
def rF(h0:0<=p)(h:p<=10^30):kX [.int p]=b4 (.bl cp):=by
 refine aM ?_;have pw:D7 (.int 10) (.int 30)=b4 (.int<|10^30):=BQ (by decide) (by decide) (by decide +kernel);simp only[Int.reducePow]at pw h;simp_all[sP,aK,hW,pw,h0,h]
def D4(h:0<M):yN [.int M,.int n]=b4 (.int<|n%M):=by
 refine aM ?_;simp_all[qi,aK,bS h]
open Classical in
theorem BC(x:Str):∀l:List Str,(l.map D.str).any (λd=>decide (d=.str x))=l.contains x
 |[]=>rfl
 |y::l=>by
  rw[zak,zbC,BC x l,List.contains_cons];congr 1;by_cases h:y=x
  .subst h;simp_all
  .have h2:¬ x=y:=λz=>h z.symm
   have q:¬ D.str y=D.str x:=λz=>h<|by injection z
   rw[decide_eq_false q]
   ac_rfl
theorem all_strs:∀l:List Str,(l.map D.str).all cY=cp
 |[]=>rfl
 |_::l=>by rw[zak,zch,all_strs l];rfl
def QL(x:Str)(l:List Str):IZ (.str x) (.lst<|l.map D.str)=b4 (.bl<|l.contains x):=by
 show dIn (.str x) (.lst<|l.map D.str)=_;unfold dIn BY;dsimp only;rw[cw {rfl,all_strs l},BC];rfl
def N4(c:Int)(n:Nat):List Str:=(zav n).map λ(k:Nat)=>iE c (k:Int)
def WK(c:Int)(n:Nat):dN c n=(N4 c n).map D.str:=by unfold dN N4;rw[zaI];rfl
def uV(h1:1<=n)(h6:n<=6):j7 [.lst<|dN c n]=b4 .non:=by
 refine p9 ?_;unfold kB;have hz:a7 n=cp:=decide_eq_true (by lia);have a:¬ (n:Int)<1:=by lia
 have b:¬ 6<(n:Int):=by lia
 rw[aG (ρ':=aK 3 [.lst<|dN c n])<|by simp_all[aK,gN,a,b]];refine DE (items:=eX 0<|dN c n) (by ac_rfl) (λi ρ=>∃B F,ρ=[b4<|.lst<|dN c n,B,F]) {cg,cg,rfl} ?_;rintro i x ρ N ⟨B,F,rfl⟩;obtain⟨y,z,rfl⟩:=gK N;have hi:i<n:=by have:=(List.getElem?_eq_some_iff.mp z).1;rw[gN]at this;exact this
 have W:y=.str (iE c (i:Int)):=by
  unfold dN at z;rw[zaq,List.getElem?_range hi]at z;exact(zaD z).symm
 subst W;have G:=vY (x:=iE c (i:Int)) (by have:=(DJ c (i:Int)).2;lia);rw[S3 (by lia)<|by lia]at G;have ct:=(uB (w:=dN c n) (c:=(i:Int)) (by lia)<|by rw[gN];lia).1;have tk:(dN c n).take i=(N4 c i).map D.str:=by
  rw[<- WK];unfold dN;rw[<- List.map_take,List.take_range,Nat.min_eq_left<|by lia]
 have Y:(N4 c i).contains (iE c (i:Int))=cr:=by
  rw[<- zdC,List.contains_iff_mem];intro U;obtain⟨k,J,e⟩:=List.mem_map.mp U;have J:=List.mem_range.mp J;have:=WC (c:=c) (k:=(k:Int)) (m:=(i:Int)) (by lia) (by lia) (by lia) (by lia) e
  lia
 have q:=QL (iE c (i:Int))<|N4 c i;rw[Y]at q;rw[zcR];refine{[b4<|.lst<|dN c n,b4<|.int (i:Int),b4<|.str<|iE c (i:Int)],?_,_,_,rfl};simp_all[turn,G,ct,tk,q]
def red(M:Int)(r:Ro):Ro:={r.j,r.k,r.a%M,r.b%M,r.p}
def CD{rs:List Ro}(h3:3<=M)(hl:rs.length<=12)(G:∀r∈rs,EC (n:Int) r):rL [.int M,.int (n:Int),.lst<|rs.map bD]=b4 (.tup<|(rs.map<|red M).map bD):=by
 have N:0<M:=by lia
 have hz:a7 rs.length=cp:=decide_eq_true (by lia);have b:(rs.length:Int)<=12:=by lia
 refine aM ?_;unfold qV;rw[aG (ρ':=aK 9 [.int M,.int (n:Int),.lst<|rs.map bD])<|by simp_all[aK,b]];rw[aG<|aJ (d:=.lst [])<|by simp_all];refine b8 (items:=rs.map bD) (by ac_rfl) (λi ρ=>∃B o5 o6 o7 o8,ρ=[b4<|.int M,b4<|.int (n:Int),b4<|.lst<|rs.map bD,b4<|.lst<|((rs.take i).map<|red M).map bD,B,o5,o6,o7,o8]) {cg,cg,cg,cg,cg,by ac_rfl} ?_ ?_
 .rintro i x ρ F ⟨B,o5,o6,o7,o8,rfl⟩
  rw[zaq]at F;obtain⟨r,q,rfl⟩:=map_some F;obtain⟨⟨j0,W,U⟩,J,Y,_⟩:=G r<|zaA q;have vp:=rF J Y;have hi:i<rs.length:=(List.getElem?_eq_some_iff.mp q).1;have z:a7 (min i rs.length)=cp:=decide_eq_true (by lia);refine{[b4<|.int M,b4<|.int (n:Int),b4<|.lst<|rs.map bD,b4<|.lst<|((rs.take<|i+1).map<|red M).map bD,b4<|.int r.j,b4<|.int r.k,b4<|.int r.a,b4<|.int r.b,b4<|.int r.p],?_,_,_,_,_,_,rfl};rw[zbl,q];simp_all[turn,bD,red,j0,W,U,vp,D4 N,z,qG]
 .rintro ρ ⟨B,o5,o6,o7,o8,rfl⟩
  rw[zaj,zbr]
  ac_rfl
def lL{k:List Int}(h:k.length=n)(h2:∀e∈k,0<=e/\e<=2):eZ [.int (n:Int),tupI k]=b4 .non:=by
 refine p9 ?_;unfold fB;rw[aG (ρ':=aK 3 [.int (n:Int),tupI k])<|by simp_all[aK,tupI,h]];refine DE (items:=k.map .int) (by ac_rfl) (λi ρ=>∃o,ρ=[b4<|.int (n:Int),b4<|tupI k,o]) {cg,rfl} ?_;rintro i x ρ q ⟨o,rfl⟩;rw[zaq]at q;obtain⟨e,z,rfl⟩:=map_some q;have:=h2 e<|zaA z;exact{[b4<|.int (n:Int),b4<|tupI k,b4<|.int e],by ac_rfl,_,rfl}
theorem vT(h0:0<M){ρ1 ρ2:Option D}:∀(qs:List My.Tm) (o1 o2:Option D),bV (c9 2<|bA (aO 0)<|bA (aO 1) dP) (lJ<|bE EE (aW yN<|aE (aD 2)<|aE (aD 1) bB)<|eC<|.int 0) (gQ<|aE (aD 0)<|aE (aW yN<|aE (aD 2)<|aE (aD 1) bB) bB) (qs.map bP) [o1,o2,b4<|.int M]=b4 ((My.b7 M qs).map bP)
 |[],o1,o2=>rfl
 |t::qs,o1,o2=>by
  have ih:=vT h0 (ρ1:=ρ1) (ρ2:=ρ2) qs (b4<|tupI t.1)<|b4<|.int t.2;rw[zak,bV];by_cases e:t.2%M=0
  .simp[-zad,-zae,aA,aB,bP,D4 h0,e,My.b7]at ih ⊢
   exact ih
  .simp[-zad,-zae,aA,aB,bP,D4 h0,e,My.b7]at ih ⊢
   rw[ih]
   ac_rfl
def IB{q:Type}(l:List<|List Int×q):(bK l).length=l.length:=(dD l).length_eq
def jF{cs:List My.Tm}(h0:0<M)(h:cs.length<64):eK [.int M,.dT<|cs.map kD]=b4 (.tup<|(My.b7 M<|bK cs).map bP):=by
 refine aM ?_;have e:=vT h0 (ρ1:=cg) (ρ2:=cg) (bK cs) cg cg;have hz:a7 (bK cs).length=cp:=decide_eq_true (by rw[IB];lia);simp_all[u6,aK,CH h,pR,e,hz]
def V_form{n:Nat}(h0:0<M)(Y:n=1\/n=2)(hl:ts.length<=7)(W:∀t∈ts,OkT n t):uD [.int M,.int (n:Int),.lst<|ts.map bP]=b4 (.tup<|(My.b7 M<|bK<|My.bX ts).map bP):=by
 refine aM ?_;unfold MC;rw[aG (ρ':=aK 6 [.int M,.int (n:Int),.lst<|ts.map bP])<|by rcases Y with rfl|rfl <;> simp_all[aK]];rw[aG (ρ':=[b4<|.int M,b4<|.int (n:Int),b4<|.lst<|ts.map bP,b4<|.dT [],cg,cg])<|by ac_rfl];refine b8 (items:=ts.map bP) (by simp_all) (λi ρ=>∃B o5,ρ=[b4<|.int M,b4<|.int (n:Int),b4<|.lst<|ts.map bP,b4<|.dT<|(My.bX<|ts.take i).map kD,B,o5]) {cg,cg,rfl} ?_ ?_
 .rintro i x ρ F ⟨B,o5,rfl⟩
  rw[zaq]at F;obtain⟨t,J,rfl⟩:=map_some F;obtain⟨N,U,_⟩:=W t<|zaA J;have es:My.bX (ts.take<|i+1)=My.m7 (My.bX<|ts.take i) t:=by rw[zbl,J];exact My.HC _ _
  have q:(My.bX<|ts.take i).length<=1000000:=by
   have:=(My.kP<|ts.take i).1;rw[zbJ]at this
   lia
  have G:=lL N U;refine{[b4<|.int M,b4<|.int (n:Int),b4<|.lst<|ts.map bP,b4<|.dT<|(My.bX<|ts.take<|i+1).map kD,b4<|tupI t.1,b4<|.int t.2],?_,_,_,rfl};have z:=ES (cs:=My.bX<|ts.take i) t.1 ((My.look (My.bX<|ts.take i) t.1).getD 0+t.2) q;cases e:My.look (My.bX<|ts.take i) t.1 with
  |none=>simp[-zad,-zae,aA,aB,turn,bP,G,e,es,My.m7]at z ⊢;simp_all[z]
  |some v=>simp[-zad,-zae,aA,aB,turn,bP,G,e,es,My.m7]at z ⊢;simp_all[z]
 .rintro ρ ⟨B,o5,rfl⟩
  have hs:(My.bX ts).length<64:=by have:=(My.kP ts).1;lia
  rw[zaj,zbr];simp_all[jF h0 hs]
theorem FK:∀(k:List Int) (m:Int),(∀e∈k,0<=e/\e<=2)->m<=2->k.foldl (λm y=>if y>m then y else m) m<=2
 |[],m,_,h=>h
 |e::k,m,h,hm=>by
  rw[zcw];refine FK k _ (λx q=>h x<|zax _ q) ?_;have:=(h e<|zaw ..).2;split <;> lia
def QU(h:∀e∈k,0<=e/\e<=2)(q:d<=2):My.pY d k<=2:=by
 cases k with
 |nil=>exact q
 |cons e k=>exact FK k e (λx z=>h x<|zax _ z) (h e<|zaw ..).2
def X8(M:Int)(ts:List My.Tm):D:=.tup<|(My.b7 M<|bK<|My.bX ts).map bP
def y9(h0:0<M)(U:n=1\/n=2)(N:ts.length<=7)(F:∀t∈ts,OkT n t):oO [.int M,.int (n:Int),.lst<|ts.map bP]=b4 (X8 M ts):=by
 have W:=V_form h0 U N F;refine aM ?_;unfold pE;rw[aG<|aJ (d:=X8 M ts)<|by simp_all[aK,W,X8]];refine b8 (items:=ts.map bP) (by ac_rfl) (λi ρ=>∃q o5 o6,ρ=[b4<|.int M,b4<|.int (n:Int),b4<|.lst<|ts.map bP,b4<|X8 M ts,q,o5,o6]) {cg,cg,cg,rfl} ?_ ?_
 .rintro i x ρ B ⟨q,o5,o6,rfl⟩
  rw[zaq]at B;obtain⟨t,J,rfl⟩:=map_some B;obtain⟨z,G,_⟩:=F t<|zaA J;refine{[b4<|.int M,b4<|.int (n:Int),b4<|.lst<|ts.map bP,b4<|X8 M ts,q,b4<|tupI t.1,b4<|.int t.2],?_,_,_,_,rfl};have mx:BR [tupI t.1]=b4 (.int<|My.pY 0 t.1):=by
   cases hk:t.1 with
   |nil=>rw[hk]at z;simp[-zad,-zae,aA,aB]at z;lia
   |cons e k=>exact q_max1
  have Y:=QU G (d:=0)<|by decide
  ac_rfl
 .rintro ρ ⟨q,o5,o6,rfl⟩
  simp_all
set_option tactic.hygienic true in
def RP{κ:Type}[DecidableEq κ](l:List<|κ×D)(k:κ)(e:D):b6 (putD l k e) k=b4 e:=by
 unfold b6 putD;split
 .rename_i h
  induction l with
  |nil=>simp[-zad,-zae,aA,aB]at h
  |cons p l ih=>
   by_cases q:p.1=k
   .simp_all[q]
   .rw[zbC,decide_eq_false q,Bool.false_or]at h
    rw[zak,cx q,List.find?_cons_of_neg<|by simpa using q];exact ih h
 .rename_i h
  rw[zfa];have:l.find? (λp=>decide (p.1=k))=cg:=by
   rw[List.find?_eq_none];intro p q z;exact h<|List.any_eq_true.mpr {p,q,z}
  rw[this];simp_all
def xP{κ:Type}[DecidableEq κ]{l:List (κ×D)}{k:κ}{P:D->Prop}(h:∀p∈l,P p.2)(F:P e):∀p∈putD l k e,P p.2:=by
 intro p B;unfold putD at B;split at B
 .obtain⟨q,G,rfl⟩:=List.mem_map.mp B
  split
  .exact F
  .exact h q G
 .rcases List.mem_append.mp B with z|z
  .exact h p z
  .rw[List.mem_singleton.mp z];exact F
def w9{κ:Type}[DecidableEq κ](l:List<|κ×D)(k:κ)(e:D):(putD l k e).length<=l.length+1:=by
 unfold putD;split
 .rw[zaj];lia
 .rw[zbp];simp_all
def Q4{κ:Type}[DecidableEq κ]{l:List (κ×D)}{k:κ}(h:b6 l k=b4 d):∃p∈l,p.2=d:=by
 obtain⟨p,q,e⟩:=map_some h;exact{p,zeI q,e}
def gA(M:Int)(m:Mk):D:=.tup [.str m.nm,tupI m.tk,.int m.gv,X8 M m.ts,.int m.p]
def uW{M:Int}{ms:List Mk}(hl:ms.length<=5):kC [.lst<|ms.map<|gA M]=b4 .non:=by
 refine p9 ?_;unfold j9;rw[aG<|aJ (d:=.dT [])<|by simp_all];refine DE (items:=ms.map<|gA M) (by ac_rfl) (λi ρ=>∃(ys:List<|List Key×D) (U W N o5 o6 o7:Option D),ρ=[b4<|.lst<|ms.map<|gA M,b4<|.dT ys,U,W,N,o5,o6,o7]/\ys.length<=i/\∀p∈ys,∃c:Int,p.2=.int c/\c<=(i:Int)) {[],cg,cg,cg,cg,cg,cg,by ac_rfl,zam _,λ_ h=>nomatch h} ?_;rintro i x ρ G ⟨ys,U,W,N,o5,o6,o7,rfl,hy,J⟩;rw[zaq]at G;obtain⟨m,hm,rfl⟩:=map_some G;have hi:i<ms.length:=(List.getElem?_eq_some_iff.mp hm).1;have hz:a7 ys.length=cp:=decide_eq_true (by lia);have q:B2 (.tup [.str m.nm,.int (m.tk.length:Int)])=b4 [.inr m.nm,.inl (m.tk.length:Int)]:=rfl;generalize hk:([.inr m.nm,.inl (m.tk.length:Int)]:List Key)=k at q;have lk:cJ (.dT ys) (.tup [.str m.nm,.int (m.tk.length:Int)])=b4 (b6 ys k):=by
  show(B2<|.tup [.str m.nm,.int (m.tk.length:Int)]).map _=_;rw[q];rfl
 have F:∃c:Int,((b6 ys k).getD<|.int 0)=.int c/\c<=(i:Int):=by
  cases hv:b6 ys k with
  |none=>exact{0,rfl,by lia}
  |some d=>
   obtain⟨p,z,rfl⟩:=Q4 hv;exact J p z
 obtain⟨c,Y,ac⟩:=F;have pt:uK (.dT ys) (.tup [.str m.nm,.int (m.tk.length:Int)]) (.int<|c+1)=b4 (.dT<|putD ys k<|.int<|c+1):=by
  unfold _root_.P.uK;dsimp only;rw[q,aA,cw hz]
 have B:cJ (.dT<|putD ys k<|.int<|c+1) (.tup [.str m.nm,.int (m.tk.length:Int)])=b4 (b4<|.int<|c+1):=by
  show(B2<|.tup [.str m.nm,.int (m.tk.length:Int)]).map _=_;rw[q,aB,RP]
 refine{[b4<|.lst<|ms.map<|gA M,b4<|.dT<|putD ys k<|.int<|c+1,b4<|.str m.nm,b4<|tupI m.tk,b4<|.int m.gv,b4<|X8 M m.ts,b4<|.int m.p,b4<|.tup [.str m.nm,.int (m.tk.length:Int)]],?_,_,_,_,_,_,_,_,rfl,zbf (w9 _ _ _)<|by lia,xP (P:=λd=>∃c:Int,d=.int c/\c<=((i+1:Nat):Int)) (λp z=>by obtain⟨c,e,h⟩:=J p z;exact{c,e,by lia}) {c+1,rfl,by lia}};simp_all[turn,gA,tupI,lk,Y,pt,B,show ¬ 6<c+1 by lia]
def wO(ok:OkM (n:Int) 7 m):lP [.int (n:Int),.str m.nm,tupI m.tk,.int m.gv,.int m.p]=b4 .non:=by
 have G:=vY (x:=m.nm) (by have:=ok.nl;lia);rw[ok.nm]at G;have J:=rF ok.pr.1 ok.pr.2;have hz:a7 (m.tk.length+1)=cp:=by rcases ok.tk with⟨t,e⟩|⟨t,u,e⟩ <;> rw[e] <;> rfl
 have q:(m.tk.length:Int)=1\/(m.tk.length:Int)=2:=by rcases ok.tk with⟨t,e⟩|⟨t,u,e⟩ <;> rw[e] <;> simp_all
 refine p9 ?_;unfold l7;rw[aG (ρ':=aK 6 [.int (n:Int),.str m.nm,tupI m.tk,.int m.gv,.int m.p])<|by ac_rfl];rw[aG (ρ':=aK 6 [.int (n:Int),.str m.nm,tupI m.tk,.int m.gv,.int m.p])<|by rcases q with e|e <;> simp_all[aK,tupI,e]];have F:mS (bE cC (aW wH<|aE (aD 2) bB)<|u3<|aE (aD 3) bB) (aK 6 [.int (n:Int),.str m.nm,tupI m.tk,.int m.gv,.int m.p])=b4 ((m.tk++[m.gv]).map .int):=by simp_all[aK,tupI,wH,hz]
 refine G5 (items:=(m.tk++[m.gv]).map .int) F (λi ρ=>∃o,ρ=[b4<|.int (n:Int),b4<|.str m.nm,b4<|tupI m.tk,b4<|.int m.gv,b4<|.int m.p,o]) {cg,rfl} ?_ ?_
 .rintro i x ρ z ⟨o,rfl⟩
  rw[zaq]at z;obtain⟨e,B,rfl⟩:=map_some z;have b:0<=e/\e<(n:Int):=XJ (P:=λe=>0<=e/\e<(n:Int)) ok.tb ok.gv e<|zaA B;exact{[b4<|.int (n:Int),b4<|.str m.nm,b4<|tupI m.tk,b4<|.int m.gv,b4<|.int m.p,b4<|.int e],by simp_all[turn,hW,b.1,b.2],_,rfl}
 .rintro ρ ⟨o,rfl⟩
  exact{[b4<|.int (n:Int),b4<|.str m.nm,b4<|tupI m.tk,b4<|.int m.gv,b4<|.int m.p,o],by ac_rfl}
def CW{n:Nat}{ms:List Mk}(Y:3<=M)(N:ms.length<=5)(U:∀m∈ms,OkM (n:Int) 7 m):rE [.int M,.int (n:Int),.lst<|ms.map bL]=b4 (.tup<|ms.map<|gA M):=by
 have J:0<M:=by lia
 have b:(ms.length:Int)<=16:=by lia
 refine aM ?_;unfold sJ;rw[aG (ρ':=aK 9 [.int M,.int (n:Int),.lst<|ms.map bL])<|by simp_all[aK,b]];rw[aG<|aJ (d:=.lst [])<|by simp_all];refine b8 (items:=ms.map bL) (by ac_rfl) (λi ρ=>∃z o5 o6 o7 o8,ρ=[b4<|.int M,b4<|.int (n:Int),b4<|.lst<|ms.map bL,b4<|.lst<|(ms.take i).map<|gA M,z,o5,o6,o7,o8]) {cg,cg,cg,cg,cg,by ac_rfl} ?_ ?_
 .rintro i x ρ F ⟨z,o5,o6,o7,o8,rfl⟩
  rw[zaq]at F;obtain⟨m,B,rfl⟩:=map_some F;have ok:=U m<|zaA B;have hi:i<ms.length:=(List.getElem?_eq_some_iff.mp B).1;have q:a7 (min i ms.length)=cp:=decide_eq_true (by lia);have G:=wO ok;have W:=y9 (M:=M) (n:=m.tk.length) (ts:=m.ts) J (by rcases ok.tk with⟨t,e⟩|⟨t,u,e⟩ <;> rw[e] <;> simp_all) ok.tl ok.tt;refine{[b4<|.int M,b4<|.int (n:Int),b4<|.lst<|ms.map bL,b4<|.lst<|(ms.take<|i+1).map<|gA M,b4<|.str m.nm,b4<|tupI m.tk,b4<|.int m.gv,b4<|.lst<|m.ts.map bP,b4<|.int m.p],?_,_,_,_,_,_,rfl};rw[zbl,B];simp only[tupI]at G;simp_all[turn,bL,gA,tupI,G,W,q,lA]
 .rintro ρ ⟨z,o5,o6,o7,o8,rfl⟩
  rw[zaj,zbr];simp_all[lA,uW N]
def gB(M c:Int)(n:Nat)(rs:List Ro)(ms:List Mk):D:=.tup [.int M,.tup<|dN c n,.tup<|(rs.map<|red M).map bD,.tup<|ms.map<|gA M]
def WZ{n:Nat}{rs:List Ro}(q:3<=M/\M<10^60/\M%2=1)(F:1<=n/\n<=6)(z:rs.length<=12/\∀r∈rs,EC (n:Int) r)(U:ms.length<=5)(W:∀m∈ms,OkM (n:Int) 7 m):NC [.int M,.lst<|dN c n,.lst<|rs.map bD,.lst<|ms.map bL]=b4 (gB M c n rs ms):=by
 have G:=RJ q.1 q.2.1 q.2.2;have N:=uV (c:=c) F.1 F.2;have B:=CD q.1 z.1 z.2;have J:=CW q.1 U W;refine aM ?_;simp[-zad,-zae,aA,aB,NI,aK,G,N,B,J,gN,lA,gB]at B ⊢
def oS(hB:aN bk (.int 2)=b4 (.tup<|rs.map bD))(g:GR M many rs)(hj:0<=j/\j<=100)(hk:0<=k/\k<=100):∃d,cQ [bk,.int j,.int k]=b4 d/\((d=.non/\¬ Rch rs j k)\/∃w,d=tupI w/\IsF rs k j w):=by
 refine dX ?_;unfold pJ;have e0:(xW (aD 2)<|gQ bB) (aK 7 [bk,.int j,.int k])=b4 (.dK<|[(k,[])].map fK):=by ac_rfl
 rw[aG<|aJ e0];have rd:=sL (a:=k-1) (b:=j-1) (by lia) (by lia) (by lia) (by lia);have F:k-1-(j-1)=k-j:=by lia
 rw[F]at rd;refine eW (items:=aU (k-1) (-1) (k-j).toNat) (by ac_rfl) (λi ρ=>∃ds Y o5 o6,ρ=[b4<|bk,b4<|.int j,b4<|.int k,b4<|.dK<|ds.map fK,Y,o5,o6]/\FI rs k (k-(i:Int)) ds/\ds.length<=1+i*13) {[(k,[])],cg,cg,cg,by ac_rfl,by simpa using FI.start rs k,by simp_all} ?_ ?_
 .rintro i x ρ hx ⟨ds,Y,o5,o6,rfl,B,hz⟩
  obtain⟨ap,rfl⟩:=bG hx;generalize hc:k-1+(i:Int) * -1=c;have ec:k-(i:Int)=c+1:=by lia
  rw[ec]at B;have inner:=eU (g:=c9 2<|bA (aO 5)<|bA (aO 6) dP) (b:=(wL (yQ (lJ<|bE pZ (bE aN (aD 6)<|eC<|.int 0)<|aD 4)<|yQ (lJ<|bE IZ (bE aN (aD 6)<|eC<|.int 1)<|aD 3)<|lJ<|bE fS (aD 4)<|aD 3) (yR 3 (aD 4)<|bE cC (gQ<|aE (aD 5) bB)<|bE aN (aD 3)<|bE aN (aD 6)<|eC<|.int 1) B4))
   (items:=eX 0<|rs.map bD) (ρ:=[b4<|bk,b4<|.int j,b4<|.int k,b4<|.dK<|ds.map fK,b4<|.int c,o5,o6])
   (λt ρ => ∃q W N, ρ = [b4<|bk, b4<|.int j, b4<|.int k, b4<|.dK<|q.map fK, b4<|.int c, W, N] /\ FJ rs k c t q /\ q.length <= ds.length+t) {ds, o5, o6, rfl, B.go, zam _} (by
    rintro t x ρ hx ⟨q,W,N,rfl,z,J⟩;obtain⟨y,hy,rfl⟩:=gK hx;rw[zaq]at hy;obtain⟨r,G,rfl⟩:=map_some hy;have ht:t<rs.length:=(List.getElem?_eq_some_iff.mp G).1;have hr:eY rs (t:Int)=b4 r:=by unfold eY;rw[cw<|by lia];simpa using G
    rw[zcR];have lk:=xI q r.k;have lc:=xI q c;have i1:IZ (.int r.k) (.dK<|q.map fK)=b4 (.bl (bR q r.k).isSome):=by
     show((cJ (.dK<|q.map fK)<|.int r.k).map (·.isSome)).map D.bl=_;rw[lk];cases bR q r.k <;> rfl
    have i2:fS (.int c) (.dK<|q.map fK)=b4 (.bl<|!(bR q c).isSome):=by
     show((cJ (.dK<|q.map fK)<|.int c).map (·.isSome)).map (λb=>D.bl<|!b)=_;rw[lc];cases bR q c <;> rfl
    by_cases hn:r.j=c/\(bR q r.k).isSome=cp/\bR q c=cg
    .obtain⟨h1,h2,U⟩:=hn
     obtain⟨w,hw⟩:=Option.isSome_iff_exists.mp h2;have gl:=DV g (z.it _ _ hw).2.2.way;have it:aN (.dK<|q.map fK) (.int r.k)=b4 (tupI w):=by
      show(cJ (.dK<|q.map fK)<|.int r.k).join=_;rw[lk,hw];rfl
     have ad:=KQ (v:=[(t:Int)]) (w:=w) (by simp_all;have:=(z.it _ _ hw).1;have:=(g.jk r<|eJ hr);lia);have pt:=XG (ds:=q) (x:=c) (w:=(t:Int)::w) U (by have:=g.len;lia);refine{[b4<|bk,b4<|.int j,b4<|.int k,b4<|.dK<|(q++[(c,(t:Int)::w)]).map fK,b4<|.int c,b4<|.int (t:Int),b4<|bD r],?_,_,_,_,rfl,z.put (by lia) hr h1 hw U,by simp_all;lia};have tt:D.tup [.int (t:Int)]=tupI [(t:Int)]:=rfl;simp only[List.singleton_append]at ad;simp_all[-za5,turn,qw,qg,h1,i1,h2,i2,U,it,tt,ad,pt]
    .refine{[b4<|bk,b4<|.int j,b4<|.int k,b4<|.dK<|q.map fK,b4<|.int c,b4<|.int (t:Int),b4<|bD r],?_,_,_,_,rfl,z.skip g hr hn,by lia}
     by_cases h1:r.j=c
     .by_cases h2:(bR q r.k).isSome=cp
      .have U:(bR q c).isSome=cp:=by
        cases e:bR q c with
        |none=>exact absurd {h1,h2,e} hn
        |some v=>rfl
       ac_rfl
      .ac_rfl
     .ac_rfl)
  obtain⟨ρ2,ef,q,W,N,rfl,z,J⟩:=inner;rw[jJ,zaj]at z J;refine{[b4<|bk,b4<|.int j,b4<|.int k,b4<|.dK<|q.map fK,b4<|.int c,W,N],?_,_,_,_,_,rfl,?_,by have:=g.len;lia}
  .simp_all[turn,hB,ef]
  .have:=z.done (by lia)
   have e2:k-((i+1:Nat):Int)=c:=by lia
   rw[e2];exact this
 .rintro ρ' ⟨ds,Y,o5,o6,rfl,B,hz⟩
  rw[a9]at B;obtain⟨z1,z2⟩:=B.end g (j:=j) (by lia);have lj:=xI ds j;cases e:bR ds j with
  |none=>exact{.non,by simp_all[lj,e],.inl {rfl,z2 e}}
  |some w=>exact{tupI w,by simp_all[lj,e],.inr {w,rfl,z1 w e}}
open Classical in
def OQ(q:aN bk (.int 2)=b4 (.tup<|rs.map bD))(g:GR M many rs)(z:0<=j/\j<=100)(F:0<=k/\k<=100):xA [bk,.int j,.int k]=b4 (.bl<|decide (Rch rs j k)):=by
 obtain⟨d,e,h⟩:=oS q g z F;refine aM ?_;rcases h with⟨rfl,B⟩|⟨w,rfl,G⟩
 .simp_all[xU,aK,e,dJ,B]
 .simp_all[xU,aK,e,dJ,tupI,G.rch]
set_option tactic.hygienic true in
def KB(h:Rch rs j x):x=j\/∃m r,eY rs m=b4 r/\r.k=x/\Rch rs j r.j:=by
 obtain⟨w,hw⟩:=h;rcases List.eq_nil_or_concat w with rfl|⟨v,m,rfl⟩
 .exact .inl (zaD hw).symm
 .rw[List.concat_eq_append,nH]at hw
  obtain⟨e,z,hw⟩:=bind_some hw;obtain⟨r,q,hw⟩:=bind_some<|show(eY rs m).bind (λr=>if r.j=e then gw rs r.k []else cg)=b4 x from hw;split at hw
  .rename_i hj
   exact .inr {m,r,q,zaD hw,v,by rw[hj];exact z}
  .cases hw
def J2(h:Rch rs j r.j)(q:eY rs m=b4 r):Rch rs j r.k:=by
 obtain⟨w,hw⟩:=h;exact{w++[m],QD hw q rfl}
def UI{rs:List Ro}{i:Nat}(h:rs[i]?=b4 r):eY (rs.map<|red M) (i:Int)=b4 (red M r):=by
 unfold eY;rw[cw<|by lia,zb6,zaq,h];rfl
def WT{rs:List Ro}(J:3<=M)(G:rs.length<=12)(B:∀r∈rs,EC (n:Int) r):GR M (n:Int)<|rs.map<|red M:=by
 have z:0<M:=by lia
 refine{by rw[zaj];exact G,λr h=>?_,λr h=>?_,λr h=>?_} <;> obtain⟨q,F,rfl⟩:=List.mem_map.mp h
 .exact(B q F).1
 .exact{{zay _<|zaX z,zaz _ z},zay _<|zaX z,zaz _ z}
 .exact{(B q F).2.1,(B q F).2.2.1}
def RO{K:Nat}(h0:0<=c)(h:c<(K:Int)):uK (c7 K p) (.int c) (.bl b)=b4 (c7 K λx=>if x=c then b else p x):=by
 have:=PM (K:=K) (f:=λx=>D.bl<|p x) (c:=c) (d:=.bl b) h0 h;refine Eq.trans this ?_;show b4 (D.lst _)=b4 (D.lst _);congr 2;refine zdf λx _=>?_
 show(if(x:Int)=c then D.bl b else D.bl<|p x)=D.bl (if(x:Int)=c then b else p x);split <;> rfl
def IY{K:Nat}(h:∀x:Int,0<=x->x<(K:Int)->p x=q x):c7 K p=c7 K q:=by
 unfold c7;congr 1;exact zdf λx z=>by rw[h (x:Int) (by lia)<|by have:=List.mem_range.mp z;lia]
open Classical in
def RT(rs:List Ro)(j x:Int):Bool:=decide (Rch rs j x)
def i6:RT rs j x=cp↔Rch rs j x:=by unfold RT;simp_all
def zA{M:Int}{n:Nat}{rs:List Ro}(g:GR M (n:Int)<|rs.map<|red M)(hn:n<=6):oF [.int (n:Int),.lst<|rs.map bD]=b4 (bY n<|RT<|rs.map<|red M):=by
 have r1:=jK (show n<=1000000 by lia);have hz:a7 n=cp:=decide_eq_true (by lia);generalize hR:rs.map (red M)=R at g;have ak:∀r∈rs,0<=r.j/\r.j<r.k/\r.k<(n:Int):=λr h=>g.jk (red M r)<|by rw[<- hR];exact List.mem_map.mpr {r,h,rfl}
 refine aM ?_;unfold oZ;rw[aG<|aJ (d:=.lst [])<|by simp_all];refine b8 (items:=aU 0 1 n) (by ac_rfl) (λi ρ=>∃o3 o4 o5 o6,ρ=[b4<|.int (n:Int),b4<|.lst<|rs.map bD,b4<|.lst<|(zav i).map λ(j:Nat)=>c7 n<|RT R (j:Int),o3,o4,o5,o6]) {cg,cg,cg,cg,by ac_rfl} ?_ ?_
 .rintro i x ρ B ⟨o3,o4,o5,o6,rfl⟩
  obtain⟨az,rfl⟩:=bG B;have hI:(0:Int)+(i:Int)*1=(i:Int):=by lia
  rw[hI];have ai:bV (aO 0) pX (bE pZ (aD 0)<|aD 1) (aU 0 1 n) [cg,b4<|.int (i:Int)]=b4 ((zav n).map λ(k:Nat)=>D.bl<|decide ((k:Int)=(i:Int))):=by
   rw[LM];exact mH (K:=n) (F:=λk=>D.bl<|decide (k=(i:Int))) (λk _ _=>by simp_all) (zav n) cg λk hk=>List.mem_range.mp hk
  have r2:d6 [.int<|(i:Int)+1,.int (n:Int)]=b4 (aU ((i:Int)+1) 1 ((n:Int)-((i:Int)+1)).toNat):=gI (by lia) (by lia) (by lia) (by lia);obtain⟨ρ',e,p,ag,Y,rfl,G,J⟩:=eU (g:=aO 5) (b:=iD (mS<|aD 1) (aO 6)<|wL (yQ (lJ<|bE pZ (bE aN (aD 6)<|eC<|.int 1)<|aD 5)<|lJ<|bE aN (aD 4)<|bE aN (aD 6)<|eC<|.int 0) (yR 4 (aD 5)<|eC<|.bl cp) B4) (items:=aU ((i:Int)+1) 1 ((n:Int)-((i:Int)+1)).toNat)
   (ρ:=[b4<|.int (n:Int),b4<|.lst<|rs.map bD,b4<|.lst<|(zav i).map λ(j:Nat)=>c7 n<|RT R (j:Int),b4<|.int (i:Int),b4<|c7 n λx=>decide (x=(i:Int)),o5,o6])
   (λt ρ => ∃(p:Int -> Bool) (o5 o6:Option D), ρ = [b4<|.int (n:Int), b4<|.lst<|rs.map bD, b4<|.lst<|(zav i).map λ(j:Nat) => c7 n<|RT R (j:Int), b4<|.int (i:Int), b4<|c7 n p, o5, o6] /\ (∀x:Int, x<(i:Int)+1+(t:Int) -> (p x = cp ↔ Rch R (i:Int) x)) /\ ∀x:Int, (i:Int)+1+(t:Int) <= x -> p x = cr) ⟨_, o5, o6, rfl, λx B => by
    rw[decide_eq_true_eq];refine{λz=>by rw[z];exact Rch.refl R _,λz=>by have:=z.le g;lia},λx B=>decide_eq_false<|by lia⟩ (by
   rintro t x ρ B ⟨p,o5,o6,rfl,G,J⟩;obtain⟨an,rfl⟩:=bG B;generalize hk:(i:Int)+1+(t:Int)*1=kk;have ek:(i:Int)+1+(t:Int)=kk:=by lia
   rw[ek]at G J;have kn:kk<(n:Int):=by lia
   obtain⟨ρ',e,p',Y,rfl,aj,ah,ac⟩:=eU (g:=aO 6) (b:=(wL (yQ (lJ<|bE pZ (bE aN (aD 6)<|eC<|.int 1)<|aD 5)<|lJ<|bE aN (aD 4)<|bE aN (aD 6)<|eC<|.int 0) (yR 4 (aD 5)<|eC<|.bl cp) B4)) (items:=rs.map bD)
    (ρ:=[b4<|.int (n:Int),b4<|.lst<|rs.map bD,b4<|.lst<|(zav i).map λ(j:Nat)=>c7 n<|RT R (j:Int),b4<|.int (i:Int),b4<|c7 n p,b4<|.int kk,o6])
    (λu ρ => ∃(p:Int -> Bool) (o6:Option D), ρ = [b4<|.int (n:Int), b4<|.lst<|rs.map bD, b4<|.lst<|(zav i).map λ(j:Nat) => c7 n<|RT R (j:Int), b4<|.int (i:Int), b4<|c7 n p, b4<|.int kk, o6] /\ (∀x:Int, x<kk -> (p x = cp ↔ Rch R (i:Int) x)) /\ (∀x:Int, kk<x -> p x = cr) /\ (p kk = cp ↔ ∃(m:Int) (r:Ro), m<(u:Int) /\ eY R m = b4 r /\ r.k = kk /\ Rch R (i:Int) r.j)) ⟨p, o6, rfl, G, λx B => J x<|by lia, by
     rw[J kk<|by lia];refine{λz=>(nomatch z),λ⟨m,r,hm,N,_⟩=>?_};have:=(nQ N).1
     lia⟩ (by
    rintro u x ρ B ⟨p,o6,rfl,G,J,N⟩;rw[zaq]at B;obtain⟨r,ae,rfl⟩:=map_some B;have ra:eY R (u:Int)=b4 (red M r):=by rw[<- hR];exact UI ae
    have b:=ak r<|zaA ae;have skip:¬ (r.k=kk/\p r.j=cp)->(p kk=cp↔∃(m:Int) (r:Ro),m<((u+1:Nat):Int)/\eY R m=b4 r/\r.k=kk/\Rch R (i:Int) r.j):=λhn=>by
     rw[N];refine{λ⟨m,q,a,z⟩=>{m,q,by lia,z},λ⟨m,q,a,U,W,ad⟩=>?_};by_cases em:m=(u:Int)
     .subst em
      rw[ra]at U;cases U;exact absurd {W,(G r.j<|by have:r.k=kk:=W;lia).mpr ad} hn
     .exact{m,q,by lia,U,W,ad}
    by_cases h1:r.k=kk
    .have rj:=t5 (p:=p) b.1 (show r.j<(n:Int) by lia)
     by_cases h2:p r.j=cp
     .have rp:=RO (p:=p) (c:=kk) (b:=cp) (by lia) kn
      refine{[b4<|.int (n:Int),b4<|.lst<|rs.map bD,b4<|.lst<|(zav i).map λ(j:Nat)=>c7 n<|RT R (j:Int),b4<|.int (i:Int),b4<|c7 n λx=>if x=kk then cp else p x,b4<|.int kk,b4<|bD r],?_,_,_,rfl,λx B=>?_,λx B=>?_,?_}
      .simp_all[turn,qg,qw,h1,rj,h2,rp]
      .rw[cx<|by lia];exact G x B
      .rw[cx<|by lia];exact J x B
      .rw[cw rfl]
       exact{λ_=>{u,red M r,by lia,ra,h1,(G r.j<|by lia).mp h2},λ_=>rfl}
     .refine{[b4<|.int (n:Int),b4<|.lst<|rs.map bD,b4<|.lst<|(zav i).map λ(j:Nat)=>c7 n<|RT R (j:Int),b4<|.int (i:Int),b4<|c7 n p,b4<|.int kk,b4<|bD r],?_,_,_,rfl,G,J,skip λz=>h2 z.2}
      have ax:p r.j=cr:=by simpa using h2
      ac_rfl
    .refine{[b4<|.int (n:Int),b4<|.lst<|rs.map bD,b4<|.lst<|(zav i).map λ(j:Nat)=>c7 n<|RT R (j:Int),b4<|.int (i:Int),b4<|c7 n p,b4<|.int kk,b4<|bD r],?_,_,_,rfl,G,J,skip λz=>h1 z.1}
     ac_rfl)
   rw[zaj]at ac;refine{[b4<|.int (n:Int),b4<|.lst<|rs.map bD,b4<|.lst<|(zav i).map λ(j:Nat)=>c7 n<|RT R (j:Int),b4<|.int (i:Int),b4<|c7 n p',b4<|.int kk,Y],?_,p',_,_,rfl,λx B=>?_,λx B=>ah x<|by lia}
   .simp_all[turn,e]
   .by_cases ex:x=kk
    .subst ex
     rw[ac];refine{λ⟨m,r,_,N,hk,z⟩=>by rw[<- hk];exact J2 z N,λz=>?_};rcases KB z with z|⟨m,r,N,hk,z⟩
     .lia
     .refine{m,r,?_,N,hk,z}
      have:=(nQ N).2;rw[<- hR,zaj]at this;exact this
    .exact aj x<|by lia)
  rw[a9]at G J;have er:c7 n p=c7 n (RT R (i:Int)):=IY λx h0 h1=>by
   rw[zcD,i6];exact G x<|by lia
  refine{[b4<|.int (n:Int),b4<|.lst<|rs.map bD,b4<|.lst<|(zav<|i+1).map λ(j:Nat)=>c7 n<|RT R (j:Int),b4<|.int (i:Int),b4<|c7 n p,ag,Y],?_,_,_,_,_,rfl};have al:a7 i=cp:=decide_eq_true (by lia);have ab:(D.lst<|(zav n).map λ(k:Nat)=>D.bl<|decide ((k:Int)=(i:Int)))=c7 n λx=>decide (x=(i:Int)):=rfl
  rw[List.range_succ,za5];simp only[zak,zbB];simp_all[-za5,turn,r1,a9,hz,pR,ai,ab,r2,e,er,al]
 .rintro ρ ⟨o3,o4,o5,o6,rfl⟩
  rw[a9]
  ac_rfl
def iC:List Int->List Int->List (Int×Int)
 |x::xs,y::ys=>(x,y)::iC xs ys
 |_,_=>[]
theorem nK:∀(xs ys:List Int),hZ (xs.map .int) (ys.map .int)=(iC xs ys).map λp=>D.tup [.int p.1,.int p.2]
 |[],_=>by cases ‹List Int› <;> rfl
 |_::_,[]=>rfl
 |x::xs,y::ys=>by
  show D.tup [.int x,.int y]::hZ (xs.map .int) (ys.map .int)=_;rw[nK xs ys];rfl
theorem AI:∀(xs ys:List Int),(iC xs ys).length<=xs.length
 |[],_=>by cases ‹List Int› <;> exact zam _
 |_::_,[]=>za1 _
 |x::xs,y::ys=>by
  show(iC xs ys).length+1<=xs.length+1;have:=AI xs ys
  lia
theorem tL{P Q:Int->Prop}:∀ {xs ys:List Int},(∀x∈xs,P x)->(∀y∈ys,Q y)->∀p∈iC xs ys,P p.1/\Q p.2
 |[],ys,_,_,p,h=>by cases ys <;> exact nomatch h
 |_::_,[],_,_,p,h=>nomatch h
 |x::xs,y::ys,hx,hy,p,h=>by
  rcases List.mem_cons.mp (show p∈(x,y)::iC xs ys from h)with rfl|z
  .exact{hx x<|zaw ..,hy y<|zaw ..}
  .exact tL (λa q=>hx a<|zax _ q) (λa q=>hy a<|zax _ q) p z
theorem sO{n:Nat}(B:aN bk (.int 2)=b4 (.tup<|R.map bD))(g:GR M (n:Int) R)(G:n<=6):∀(ps:List<|Int×Int) (o1 o2:Option D),(∀p∈ps,(0<=p.1/\p.1<(n:Int))/\0<=p.2/\p.2<(n:Int))->
  bV (c9 2<|bA (aO 0)<|bA (aO 1) dP) pX (aW xA<|aE (aD 2)<|aE (aD 0)<|aE (aD 1) bB) (ps.map λp=>D.tup [.int p.1,.int p.2]) [o1,o2,b4 bk]=b4 ((ps.map λp=>RT R p.1 p.2).map .bl)
 |[],_,_,_=>rfl
 |p::ps,o1,o2,h=>by
  have ih:=sO B g G ps (b4<|.int p.1) (b4<|.int p.2) λq F=>h q<|zax _ F
  obtain⟨a,b⟩:=h p<|zaw ..;have v:=OQ B g (j:=p.1) (k:=p.2) (by lia) (by lia);have z:RT R p.1 p.2=@decide (Rch R p.1 p.2) (zco _):=rfl;rw[<- z]at v;rw[zak,bV];simp_all[v,ih]
def eE(R:List Ro)(ks tk:List Int):Bool:=decide (ks.length=tk.length) && (iC ks tk).all λp=>RT R p.1 p.2
def XX:aN (gB M c n rs ms) (.int 2)=b4 (.tup<|(rs.map<|red M).map bD):=by unfold gB;rw[q_itT];exact at2
def N0:aN (gB M c n rs ms) (.int 3)=b4 (.tup<|ms.map<|gA M):=by unfold gB;rw[q_itT];exact at3
def X3:aN (bL m) (.int 1)=b4 (tupI m.tk):=by unfold bL;rw[q_itT];exact at1
def XT:aN (gA M m) (.int 1)=b4 (tupI m.tk):=by unfold gA;rw[q_itT];exact at1
def WW{n:Nat}(U:n<=6)(g:GR M (n:Int)<|rs.map<|red M)(hm:d8 (ms.map<|gA M) i=b4 (gA M m))(W:∀k∈ks,0<=k/\k<(n:Int))(hl:ks.length<=100)(G:∀k∈m.tk,0<=k/\k<(n:Int)):MO [gB M c n rs ms,.int i,tupI ks]=b4 (.bl<|eE (rs.map<|red M) ks m.tk):=by
 have q:aN (gB M c n rs ms) (.int 2)=b4 (.tup<|(rs.map<|red M).map bD):=XX;have F:aN (gB M c n rs ms) (.int 3)=b4 (.tup<|ms.map<|gA M):=N0;generalize hbk:gB M c n rs ms=bk at q F;generalize rs.map (red M)=R at g q;refine aM ?_;unfold ML eE;rw[aG<|aJ (d:=tupI m.tk)<|by ac_rfl];by_cases B:ks.length=m.tk.length
 .have z:(m.tk.length:Int)=(ks.length:Int):=by lia
  rw[aG (ρ':=[b4 bk,b4<|.int i,b4<|tupI ks,b4<|tupI m.tk])<|by simp_all[aK,tupI,z]];have J:=sO q g U (iC ks m.tk) cg cg<|tL (P:=λk=>0<=k/\k<(n:Int)) (Q:=λk=>0<=k/\k<(n:Int)) W G;have zl:=AI ks m.tk;have hz:a7 (iC ks m.tk).length=cp:=decide_eq_true (by lia);have Y:((iC ks m.tk).map λp=>RT R p.1 p.2).all id=(iC ks m.tk).all λp=>RT R p.1 p.2:=by rw[List.all_map];rfl
  have N:JH [.lst<|((iC ks m.tk).map λp=>RT R p.1 p.2).map .bl]=b4 (.bl<|(iC ks m.tk).all λp=>RT R p.1 p.2):=by rw[q_all,Y]
  rw[decide_eq_true B,Bool.true_and];simp_all[-zaI,-q_all,tupI,nK,pR,hz,J,N]
 .have z:¬ (m.tk.length:Int)=(ks.length:Int):=by lia
  rw[decide_eq_false B,Bool.false_and];simp_all[aK,tupI,z]
def PU:∀ {d e k j:List Int},Bx d k->Bx e j->d.length=e.length->xE [tupI k,tupI j]=b4 (tupI<|f9 k j)
 |[_],[_],[x],[y],_,_,_=>aM<|by simp_all[xN,aK,tupI,at0,f9]
 |[_,_],[_,_],[x,a],[y,b],_,_,_=>aM<|by simp_all[xN,aK,tupI,at0,at1,f9]
def xK(h0:0<M)(h1:M<10^60)(f:Fo M d F)(g:Fo M e G)(hl:d.length=e.length)(lw:EB<|f9 d e):∃H,mM [.int M,fD F,fD G]=b4 (fD H)/\Fo M (f9 d e) H/\∀vs:List Int,vs.length=d.length->M∣ev vs H-ev vs F*ev vs G:=by
 suffices h:∃r,mM [.int M,fD F,fD G]=b4 r/\∃H,r=fD H/\Fo M (f9 d e) H/\∀vs:List Int,vs.length=d.length->M∣ev vs H-ev vs F*ev vs G by
  obtain⟨r,U,H,rfl,x⟩:=h;exact{H,U,x}
 have ao:=Ten
 refine dX ?_;unfold FL fD;rw[aG<|aJ (d:=.dT [])<|by simp_all];refine eW (items:=F.map bP) (by ac_rfl) (λi ρ=>∃(T:List My.Tm) (Y o5 o6 o7 o8:Option D),ρ=[b4<|.int M,b4<|.tup<|F.map bP,b4<|.tup<|G.map bP,b4<|.dT<|T.map kD,Y,o5,o6,o7,o8]/\Fk (f9 d e) T/\∀vs:List Int,vs.length=d.length->ev vs T=ev vs (F.take i)*ev vs G) {[],cg,cg,cg,cg,cg,by ac_rfl,Fk.nil _,λvs _=>by simp_all[ev]} ?_ ?_
 .rintro i x ρ hx ⟨T,Y,o5,o6,o7,o8,rfl,tk,te⟩
  rw[zaq]at hx;obtain⟨t,ht,rfl⟩:=map_some hx;have W:=zaA ht;have bt:=f.k.bx t W;have ct:=f.cb t W;have ab:F.take (i+1)=F.take i++[t]:=by rw[zbl,ht];rfl
  obtain⟨ρ',er,q,p6,p7,p8,rfl,z,B⟩:=eU (g:=c9 2<|bA (aO 6)<|bA (aO 7) dP) (b:=(bW (dA 8<|aW xE<|aE (aD 4)<|aE (aD 6) bB)
   (yR 3 (aD 8)<|bE cC (uH (aD 3) (aD 8)<|eC<|.int 0)<|bE b5 (aD 5)<|aD 7))) (items:=G.map bP) (ρ:=[b4<|.int M,b4<|.tup<|F.map bP,b4<|.tup<|G.map bP,b4<|.dT<|T.map kD,b4<|tupI t.1,b4<|.int t.2,o6,o7,o8])
   (λj ρ=>∃(q:List My.Tm) (o6 o7 o8:Option D),ρ=[b4<|.int M,b4<|.tup<|F.map bP,b4<|.tup<|G.map bP,b4<|.dT<|q.map kD,b4<|tupI t.1,b4<|.int t.2,o6,o7,o8]/\Fk (f9 d e) q/\∀vs:List Int,vs.length=d.length->ev vs q=ev vs T+t.2*mon t.1 vs*ev vs (G.take j)) {T,o6,o7,o8,rfl,tk,λvs _=>by simp_all[ev]} (by
   rintro j y ρ hy ⟨q,o6,o7,o8,rfl,z,B⟩;rw[zaq]at hy;obtain⟨u,hu,rfl⟩:=map_some hy;have N:=zaA hu;have bu:=g.k.bx u N;have cu:=g.cb u N;have aa:G.take (j+1)=G.take j++[u]:=by rw[zbl,hu];rfl
   have va:=PU bt bu hl;have mu:b5 (.int t.2) (.int u.2)=b4 (.int<|t.2*u.2):=dH (by lia) (by lia) (by lia) (by lia);have ap:=EZ (i:=8) (X:=bE b5 (aD 5)<|aD 7) (ρ:=[b4<|.int M,b4<|.tup<|F.map bP,b4<|.tup<|G.map bP,b4<|.dT<|q.map kD,b4<|tupI t.1,b4<|.int t.2,b4<|tupI u.1,b4<|.int u.2,b4<|tupI<|f9 t.1 u.1]) (T:=q) (k:=f9 t.1 u.1) (x:=t.2*u.2) rfl rfl (by ac_rfl) (by have:=z.len lw;lia);refine{_,?_,My.put q (f9 t.1 u.1)<|cf q (f9 t.1 u.1)+t.2*u.2,b4<|tupI u.1,b4<|.int u.2,b4<|tupI<|f9 t.1 u.1,rfl,z.put<|bt.add bu hl,λvs J=>?_}
   .show(c9 2 (bA (aO 6)<|bA (aO 7) dP) (bP u) _).bind _=_
    have U:c9 2 (bA (aO 6)<|bA (aO 7) dP) (bP u) [b4<|.int M,b4<|.tup<|F.map bP,b4<|.tup<|G.map bP,b4<|.dT<|q.map kD,b4<|tupI t.1,b4<|.int t.2,o6,o7,o8]=b4 [b4<|.int M,b4<|.tup<|F.map bP,b4<|.tup<|G.map bP,b4<|.dT<|q.map kD,b4<|tupI t.1,b4<|.int t.2,b4<|tupI u.1,b4<|.int u.2,o8]:=by ac_rfl
    rw[U,aA,aG<|aJ (d:=tupI<|f9 t.1 u.1)<|by ac_rfl];exact ap
   .rw[DQ z.nd rfl,B vs J,aa,mN,OJ bt bu hl J,Int.mul_add]
    generalize mon t.1 vs=a;generalize mon u.1 vs=b;grind)
  refine{_,?_,q,b4<|tupI t.1,b4<|.int t.2,p6,p7,p8,rfl,z,λvs J=>?_}
  .show(c9 2 (bA (aO 4)<|bA (aO 5) dP) (bP t) _).bind _=_
   have U:c9 2 (bA (aO 4)<|bA (aO 5) dP) (bP t) [b4<|.int M,b4<|.tup<|F.map bP,b4<|.tup<|G.map bP,b4<|.dT<|T.map kD,Y,o5,o6,o7,o8]=b4 [b4<|.int M,b4<|.tup<|F.map bP,b4<|.tup<|G.map bP,b4<|.dT<|T.map kD,b4<|tupI t.1,b4<|.int t.2,o6,o7,o8]:=by ac_rfl
   rw[U,aA,q_for];have e2:mS (aD 2) [b4<|.int M,b4<|.tup<|F.map bP,b4<|.tup<|G.map bP,b4<|.dT<|T.map kD,b4<|tupI t.1,b4<|.int t.2,o6,o7,o8]=b4 (G.map bP):=by simp_all
   rw[e2,aA];exact er
  .rw[B vs J,te vs J,ab,mN,zaj,zbr,Int.add_mul]
 .rintro ρ ⟨T,Y,o5,o6,o7,o8,rfl,tk,te⟩
  rw[zaj,zbr]at te;have vf:=jF (M:=M) (cs:=T) h0 (by have:=tk.len lw;lia);refine{_,by simp_all[vf] <;> rfl,My.b7 M<|bK T,rfl,tk.form h0,λvs J=>?_};rw[<- te vs J];exact qJ T
def DX(h0:0<M)(f:Fo M d F)(g:Fo M d G)(J:EB d):∃H,nT [.int M,fD F,fD G]=b4 (fD H)/\Fo M d H/\∀vs:List Int,M∣ev vs H-(ev vs F+ev vs G):=by
 suffices h:∃r,nT [.int M,fD F,fD G]=b4 r/\∃H,r=fD H/\Fo M d H/\∀vs:List Int,M∣ev vs H-(ev vs F+ev vs G) by
  obtain⟨r,z,H,rfl,x⟩:=h;exact⟨H,z,x⟩
 have dt:=IP f.k.nd (by have:=f.k.len J;lia);refine dX ?_;unfold MY fD;rw[aG<|aJ (d:=.dT<|F.map kD)<|by ac_rfl];refine eW (items:=G.map bP) (by ac_rfl) (λi ρ=>∃(T:List My.Tm) (q o5:Option D),ρ=[b4<|.int M,b4<|.tup<|F.map bP,b4<|.tup<|G.map bP,b4<|.dT<|T.map kD,q,o5]/\Fk d T/\∀vs:List Int,ev vs T=ev vs F+ev vs (G.take i)) {F,cg,cg,by ac_rfl,f.k,λvs=>by ac_rfl} ?_ ?_
 .rintro i x ρ U ⟨T,q,o5,rfl,tk,te⟩
  rw[zaq]at U;obtain⟨t,W,rfl⟩:=map_some U;have B:=zaA W;have N:G.take (i+1)=G.take i++[t]:=by rw[zbl,W];rfl
  have ap:=EZ (i:=4) (X:=aD 5) (ρ:=[b4<|.int M,b4<|.tup<|F.map bP,b4<|.tup<|G.map bP,b4<|.dT<|T.map kD,b4<|tupI t.1,b4<|.int t.2]) (T:=T) (k:=t.1) (x:=t.2) rfl rfl rfl (by have:=tk.len J;lia);refine{_,?_,My.put T t.1<|cf T t.1+t.2,b4<|tupI t.1,b4<|.int t.2,rfl,tk.put<|g.k.bx t B,λvs=>?_}
  .show(c9 2 (bA (aO 4)<|bA (aO 5) dP) (bP t) _).bind _=_
   have z:c9 2 (bA (aO 4)<|bA (aO 5) dP) (bP t) [b4<|.int M,b4<|.tup<|F.map bP,b4<|.tup<|G.map bP,b4<|.dT<|T.map kD,q,o5]=b4 [b4<|.int M,b4<|.tup<|F.map bP,b4<|.tup<|G.map bP,b4<|.dT<|T.map kD,b4<|tupI t.1,b4<|.int t.2]:=by ac_rfl
   rw[z,aA];exact ap
  .rw[DQ tk.nd rfl,te vs,N,mN];lia
 .rintro ρ ⟨T,q,o5,rfl,tk,te⟩
  rw[zaj,zbr]at te;have Y:=jF (M:=M) (cs:=T) h0 (by have:=tk.len J;lia);refine{_,by simp_all[Y] <;> rfl,My.b7 M<|bK T,rfl,tk.form h0,λvs=>?_};rw[<- te vs];exact qJ T
def zN(n:Int):List Int:=if n=1 then [0]else [0,0]
def k5(h0:0<M)(F:n=1\/n=2):∃H,kW [.int M,.int n,.int c]=b4 (fD H)/\Fo M (zN n) H/\∀vs:List Int,(vs.length:Int)=n->M∣ev vs H-c:=by
 have q:=jF (M:=M) (cs:=[(zN n,c)]) h0 (by simp_all);have k:Fk (zN n) [(zN n,c)]:=⟨by simp_all,λt G=>by
  rw[List.mem_singleton.mp G];rcases F with rfl|rfl
  .exact{by decide,by decide}
  .exact{{by decide,by decide},by decide,by decide}⟩
 refine{My.b7 M<|bK [(zN n,c)],aM ?_,k.form h0,λvs J=>?_}
 .rcases F with rfl|rfl
  .have z:B2 (.tup [.int 0])=b4 [zan 0]:=rfl
   have B:([(zN 1,c)]:List My.Tm).map kD=[([zan 0],.int c)]:=rfl;rw[B]at q;simp_all[kO,aK,z,q,fD]
  .have z:B2 (.tup [.int 0,.int 0])=b4 [zan 0,zan 0]:=rfl
   have B:([(zN 2,c)]:List My.Tm).map kD=[([zan 0,zan 0],.int c)]:=rfl;rw[B]at q;simp_all[kO,aK,z,q,fD]
 .have h:=qJ (M:=M) (vs:=vs) [(zN n,c)]
  have e:ev vs [(zN n,c)]=c:=by
   rw[bJ,nO];rcases F with rfl|rfl
   .obtain⟨v,rfl⟩:=List.length_eq_one_iff.mp (show vs.length=1 by lia)
    simp_all[zN,mon]
   .obtain⟨v,u,rfl⟩:=iB (show vs.length=2 by lia)
    simp_all[zN,mon]
  rw[e]at h;exact h
def T6(q:n=1\/n=2)(z:(d.length:Int)=n):f9 (zN n) d=d:=by
 rcases q with rfl|rfl
 .obtain⟨v,rfl⟩:=List.length_eq_one_iff.mp (show d.length=1 by lia)
  simp_all[zN,f9]
 .obtain⟨v,u,rfl⟩:=iB (show d.length=2 by lia)
  simp_all[zN,f9]
def W0(q:n=1\/n=2):((zN n).length:Int)=n:=by rcases q with rfl|rfl <;> rfl
def fV(h0:0<M)(h1:M<10^60)(q:n=1\/n=2)(hd:(d.length:Int)=n)(hz:Bx d<|zN n)(J:EB d)(f:Fo M d F):∃H,bF [.int M,.int n,.tup [.int a,.int b],fD F]=b4 (fD H)/\Fo M d H/\∀vs:List Int,vs.length=d.length->M∣ev vs H-(a*ev vs F+b):=by
 obtain⟨A,ea,fa,va⟩:=k5 (M:=M) (n:=n) (c:=a) h0 q;obtain⟨B,N,fb,vb⟩:=k5 (M:=M) (n:=n) (c:=b) h0 q;have zl:=W0 q;have G:=T6 q hd;obtain⟨T,et,z,vt⟩:=xK h0 h1 fa f (by lia) (by rw[G];exact J);rw[G]at z;obtain⟨H,eh,fh,vh⟩:=DX h0 z (fb.mono hz) J;refine{H,aM ?_,fh,λvs hv=>?_}
 .simp_all[jU,aK,at0,at1,ea,N,et,eh]
 .have W:=vh vs
  have U:=vt vs (by lia);have x3:=a8 (va vs<|by lia)<|aQ M<|ev vs F;have Y:=vb vs (by lia);have:ev vs H-(a*ev vs F+b)=(ev vs H-(ev vs T+ev vs B))+(ev vs T-ev vs A*ev vs F)+(ev vs A*ev vs F-a*ev vs F)+(ev vs B-b):=by lia
  rw[this];exact zaR (zaR (zaR W U) x3) Y
def N7(p:Nat)(k:List Int):Int:=k.getD p 0
theorem A4:∀(F:List My.Tm) (o1 o2:Option D),(∀t∈F,p<t.1.length)->bV (c9 2<|bA (aO 0)<|bA (aO 1) dP) pX (bE aN (aD 0)<|aD 2) (F.map bP) [o1,o2,b4<|.int (p:Int)]=b4 ((F.map λt=>N7 p t.1).map .int)
 |[],_,_,_=>rfl
 |t::F,o1,o2,h=>by
  have ih:=A4 F (b4<|tupI t.1) (b4<|.int t.2) λu z=>h u<|zax _ z
  have q:=h t<|zaw ..;have e:d8 (t.1.map D.int) (p:Int)=b4 (.int<|N7 p t.1):=bH (by
   unfold N7;rw[zaq,zaH q,List.getD_eq_getElem?_getD,zaH q];rfl)
  rw[zak,bV];simp[-zad,-zae,aA,aB,-zaI,bP,tupI,e]at ih ⊢;simp_all[-zaI,bP,tupI,ih]
theorem qX:∀(l:List Int) (a:Int),a<=l.foldl (λm x=>if x>m then x else m) a/\∀x∈l,x<=l.foldl (λm x=>if x>m then x else m) a
 |[],a=>{zez _,λ_ h=>nomatch h}
 |y::l,a=>by
  obtain⟨h1,h2⟩:=qX l<|if y>a then y else a;rw[zcw];have B:a<=(if y>a then y else a)/\y<=(if y>a then y else a):=by split <;> lia
  exact⟨by lia,λx q=>by
   rcases List.mem_cons.mp q with z|z
   .subst z;lia
   .exact h2 x z⟩
theorem qY:∀(l:List Int) (a:Int),a<=b->(∀x∈l,x<=b)->l.foldl (λm x=>if x>m then x else m) a<=b
 |[],a,h,_=>h
 |y::l,a,h,g=>by
  rw[zcw];exact qY l _ (by have:=g y<|zaw ..;split <;> lia) λx q=>g x<|zax _ q
def QQ(h:∀x∈l,0<=x/\x<=2):∃m:Nat,My.pY 0 l=(m:Int)/\m<=2/\∀x∈l,x<=(m:Int):=by
 cases l with
 |nil=>exact{0,rfl,by decide,λ_ h=>nomatch h}
 |cons y l=>
  have F:=h y<|zaw ..;obtain⟨h1,h2⟩:=qX l y;have B:=qY (b:=2) l y F.2 λx q=>(h x<|zax _ q).2
  have e:My.pY 0 (y::l)=l.foldl (λm x=>if x>m then x else m) y:=rfl;generalize l.foldl (λm x=>if x>m then x else m) y=m at h1 h2 B e;refine{m.toNat,by lia,by lia,λx q=>?_};rcases List.mem_cons.mp q with z|z
  .subst z;lia
  .have:=h2 x z;lia
def k7(W:F.length<=1000)(h:∀t∈F,p<t.1.length/\0<=N7 p t.1/\N7 p t.1<=2):∃m:Nat,eO [fD F,.int (p:Int)]=b4 (.int (m:Int))/\m<=2/\∀t∈F,N7 p t.1<=(m:Int):=by
 have B:=A4 F cg cg λt z=>(h t z).1
 obtain⟨m,U,G,N⟩:=QQ (l:=F.map λt=>N7 p t.1) λx J=>by
  obtain⟨t,z,rfl⟩:=List.mem_map.mp J;exact(h t z).2
 have hz:a7 F.length=cp:=decide_eq_true (by lia);refine{m,aM ?_,G,λt z=>N _<|zeD (f:=λt=>N7 p t.1) z};have q:=q_maxD (ns:=F.map λt=>N7 p t.1) (d:=0);rw[U]at q;simp_all[-zaI,-q_maxD,rA,aK,fD,hz,pR,B,q]
def sc(i:Nat)(u:List Int):List Int:=u.map λx=>(i:Int)*x
def sc_add(z:u=[1]\/u=[0,1]):f9 (sc i u) u=sc (i+1) u:=by
 rcases z with rfl|rfl
 .show [(i:Int)*1+1]=[((i+1:Nat):Int)*1]
  have q:(i:Int)*1+1=((i+1:Nat):Int)*1:=by lia
  rw[q]
 .show [(i:Int)*0+0,(i:Int)*1+1]=[((i+1:Nat):Int)*0,((i+1:Nat):Int)*1]
  have q:(i:Int)*1+1=((i+1:Nat):Int)*1:=by lia
  have B:(i:Int)*0+0=((i+1:Nat):Int)*0:=by lia
  rw[q,B]
def sc_low(q:u=[1]\/u=[0,1])(h:i<=6):EB<|sc i u:=by
 rcases q with rfl|rfl
 .show(i:Int)*1<=6;lia
 .show(i:Int)*0<=6/\(i:Int)*1<=6;lia
def pF(h0:0<M)(h1:M<10^60)(hn:n=1\/n=2){u:List Int}(G:u=[1]\/u=[0,1])(hl:(u.length:Int)=n)(f:Fo M u F){m:Nat}(hm:m<=2):∃q:List (List My.Tm),iW [.int M,.int n,fD F,.int (m:Int)]=b4 (.lst<|q.map fD)/\q.length=m+1/\∀(i:Nat) (P:List My.Tm),q[i]?=b4 P->Fo M (sc i u) P/\∀vs:List Int,vs.length=u.length->M∣ev vs P-ev vs F^i:=by
 suffices h:∃r,iW [.int M,.int n,fD F,.int (m:Int)]=b4 r/\∃q:List (List My.Tm),r=.lst (q.map fD)/\q.length=m+1/\∀(i:Nat) (P:List My.Tm),q[i]?=b4 P->Fo M (sc i u) P/\∀vs:List Int,vs.length=u.length->M∣ev vs P-ev vs F^i by
  obtain⟨r,e1,H,rfl,x⟩:=h;exact{H,e1,x}
 obtain⟨O,eo,fo,vo⟩:=k5 (M:=M) (n:=n) (c:=1) h0 hn;have z0:sc 0 u=zN n:=by
  rcases G with rfl|rfl
  .have:n=1:=by simpa using hl.symm
   subst this;rfl
  .have:n=2:=by simpa using hl.symm
   subst this;rfl
 refine dX ?_;unfold pG;rw[aG<|aJ (d:=.lst [fD O])<|by ac_rfl];refine eW (items:=aU 0 1 m) (by simp_all[aK,jK (n:=m)<|by lia]) (λi ρ=>∃(q:List<|List My.Tm) (o:Option D),ρ=[b4<|.int M,b4<|.int n,b4<|fD F,b4<|.int (m:Int),b4<|.lst<|q.map fD,o]/\q.length=i+1/\∀(i:Nat) (P:List My.Tm),q[i]?=b4 P->Fo M (sc i u) P/\∀vs:List Int,vs.length=u.length->M∣ev vs P-ev vs F^i) {[O],cg,by ac_rfl,rfl,λi P B=>?_} ?_ ?_
 .cases i with
  |zero=>
   have:O=P:=by simpa using B
   subst this;exact{by rw[z0];exact fo,λvs hv=>by rw[zdE];exact vo vs<|by lia}
  |succ i=>simp[-zad,-zae,aA,aB]at B
 .rintro i x ρ hx ⟨q,o,rfl,z,B⟩
  obtain⟨ap,rfl⟩:=bG hx;have hI:(0:Int)+(i:Int)*1=(i:Int):=by lia
  rw[hI];have hi:i<q.length:=by lia
  obtain⟨fp,vp⟩:=B i q[i]<|zaH hi;have N:d8 (q.map fD) (i:Int)=b4 (fD q[i]):=bH (by rw[zaq,zaH hi];rfl);have sl:(sc i u).length=u.length:=by simp_all[sc]
  obtain⟨Q,eq,Y,vq⟩:=xK h0 h1 fp f sl (by rw[sc_add G];exact sc_low G<|by lia);rw[sc_add G]at Y;have hz:a7 q.length=cp:=decide_eq_true (by lia);refine{_,?_,q++[Q],b4<|.int (i:Int),rfl,by simp_all[z],λj P J=>?_}
  .simp_all[turn,N,eq,hz]
  .by_cases W:j<q.length
   .rw[zcW W]at J;exact B j P J
   .have U:j=q.length:=by
     have:=(List.getElem?_eq_some_iff.mp J).1;simp[-zad,-zae,aA,aB]at this;lia
    subst U;have:Q=P:=by simpa using J
    subst this;rw[z];refine{Y,λvs hv=>?_};have x1:=vq vs (by lia);have x2:=a8 (vp vs hv)<|aQ M<|ev vs F;rw[zca];have:ev vs Q-ev vs F^i*ev vs F=(ev vs Q-ev vs q[i]*ev vs F)+(ev vs q[i]*ev vs F-ev vs F^i*ev vs F):=by lia
    rw[this];exact zaR x1 x2
 .rintro ρ ⟨q,o,rfl,z,B⟩
  rw[a9]at z;exact{_,by simp_all <;> rfl,q,rfl,z,B}
structure Fac(M:Int)(d:List Int)(w:List Int->Int)(l:List<|List Key×D)(done:List My.Tm):Prop where
 at_:∀a:List Int,∃F,(b6 l<|a.map zan).getD (.tup [])=fD F/\Fo M d F/\∀vs:List Int,vs.length=d.length->M∣ev vs F-grp a (w vs) done
theorem Fac.nil(M:Int)(d:List Int)(w:List Int->Int):Fac M d w [] []:={λa=>{[],rfl,Fo.nil M d,λvs _=>{0,by simp_all[ev,grp]}}}
def LA{a b:List Int}(h:(a.map zan:List Key)=b.map zan):a=b:=My.jM.mp h
def Fac.put(h:Fac M d w l done)(U:Fo M d H)(J:∀vs:List Int,vs.length=d.length->M∣ev vs H-(grp t.1.dropLast (w vs) done+t.2*w vs^(la t.1).toNat)):Fac M d w (putD l (t.1.dropLast.map zan)<|fD H)<|done++[t]:=⟨λa=>by
 by_cases e:a=t.1.dropLast
 .subst e
  refine{H,?_,U,λvs q=>?_}
  .rw[A9,cw rfl];rfl
  .rw[AC,cw rfl];exact J vs q
 .obtain⟨F,N,G,B⟩:=h.at_ a
  refine{F,?_,G,λvs q=>?_}
  .rw[A9,cx λz=>e<|LA z];exact N
  .rw[AC,cx λz=>e z.symm,Int.add_zero];exact B vs q⟩
def zC(h0:0<M)(h1:M<10^60){I:List My.Tm}(fi:Fo M [1,0] I){m:Nat}(hm:m<=2)(h:Fac M [0,2] w l outer):∃H,iQ [.int M,fD I,.int (m:Int),.dT l]=b4 (fD H)/\Fo M [3,2] H/\∀vs:List Int,vs.length=2->M∣ev vs H-pw (λj=>grp [(j:Int)] (w vs) outer) (ev vs I) (m+1):=by
 suffices h:∃r,iQ [.int M,fD I,.int (m:Int),.dT l]=b4 r/\∃H,r=fD H/\Fo M [3,2] H/\∀vs:List Int,vs.length=2->M∣ev vs H-pw (λj=>grp [(j:Int)] (w vs) outer) (ev vs I) (m+1) by
  obtain⟨r,U,H,rfl,x⟩:=h;exact{H,U,x}
 have hr:mK [.int (m:Int),.int<|-1,.int<|-1]=b4 (aU (m:Int) (-1)<|m+1):=by
  rw[sL (by lia) (by lia) (by decide)<|by decide];have e:((m:Int)-(-1)).toNat=m+1:=by lia
  rw[e]
 refine dX ?_;unfold oI;rw[aG<|aJ (d:=fD [])<|by ac_rfl];refine eW (items:=aU (m:Int) (-1)<|m+1) (by ac_rfl) (λi ρ=>∃(T:List My.Tm) (o:Option D),ρ=[b4<|.int M,b4<|fD I,b4<|.int (m:Int),b4<|.dT l,b4<|fD T,o]/\Fo M [(i:Int),2] T/\i<=m+1/\∀vs:List Int,vs.length=2->M∣(ev vs T*ev vs I^(m+1-i)+pw (λj=>grp [(j:Int)] (w vs) outer) (ev vs I) (m+1-i))-pw (λj=>grp [(j:Int)] (w vs) outer) (ev vs I) (m+1)) {[],cg,by ac_rfl,Fo.nil M _,by lia,λvs _=>?_} ?_ ?_
 .rw[nO,Int.zero_mul,Int.zero_add,Nat.sub_zero];exact aQ _ _
 .rintro i x ρ hx ⟨T,o,rfl,G,hi,B⟩
  obtain⟨ar,rfl⟩:=bG hx;obtain⟨r,hr⟩:∃r,m+1-i=r+1:={m-i,by lia};have hI:(m:Int)+(i:Int)*(-1)=(r:Int):=by lia
  rw[hI];obtain⟨F,eF,fF,vF⟩:=h.at_ [(r:Int)];have lk:=sZ l [(r:Int)];obtain⟨Q,eq,N,vq⟩:=xK h0 h1 G fi rfl {by lia,by decide};have N:Fo M [((i+1:Nat):Int),2] Q:=N.mono {{by lia,by lia},by decide,by decide};obtain⟨q,et,Y,aa⟩:=DX h0 N (fF.mono {{by lia,by lia},by decide,by decide}) {by lia,by decide};refine{_,?_,q,b4<|.int (r:Int),rfl,Y,by lia,λvs z=>?_}
  .have ac:cJ (.dT l) (.tup [.int (r:Int)])=b4 (b6 l [zan (r:Int)]):=lk
   have J:(b6 l [zan (r:Int)]).getD (.tup [])=fD F:=eF;simp_all[turn,eq,ac,J,et]
  .have ab:m+1-(i+1)=r:=by lia
   have v:=B vs z;rw[hr]at v;rw[ab];have a1:=aa vs;have a2:=vq vs z;have a3:=vF vs z;have U:pw (λj=>grp [(j:Int)] (w vs) outer) (ev vs I) (r+1)=pw (λj=>grp [(j:Int)] (w vs) outer) (ev vs I) r+ev vs I^r*grp [(r:Int)] (w vs) outer:=rfl;rw[U,zca]at v;have a4:M∣ev vs q-(ev vs T*ev vs I+grp [(r:Int)] (w vs) outer):=by
    have:ev vs q-(ev vs T*ev vs I+grp [(r:Int)] (w vs) outer)=(ev vs q-(ev vs Q+ev vs F))+(ev vs Q-ev vs T*ev vs I)+(ev vs F-grp [(r:Int)] (w vs) outer):=by lia
    rw[this];exact zaR (zaR a1 a2) a3
   have a5:=a8 a4<|aQ M<|ev vs I^r;generalize pw (λj=>grp [(j:Int)] (w vs) outer) (ev vs I) (m+1)=W at v ⊢;generalize pw (λj=>grp [(j:Int)] (w vs) outer) (ev vs I) r=V at v ⊢;generalize grp [(r:Int)] (w vs) outer=S at v a5;generalize ev vs I^r=p at v a5 ⊢;have:ev vs q*p+V-W=(ev vs q*p-(ev vs T*ev vs I+S)*p)+(ev vs T*(p*ev vs I)+(V+p*S)-W):=by grind
   rw[this];exact zaR a5 v
 .rintro ρ ⟨T,o,rfl,G,hi,B⟩
  rw[a9]at G B;refine{_,by simp_all <;> rfl,T,rfl,G.mono {{by lia,by lia},by decide,by decide},λvs z=>?_};have:=B vs z;rw[Nat.sub_self,zdE,zbR]at this;have e:pw (λj=>grp [(j:Int)] (w vs) outer) (ev vs I) 0=0:=rfl;rw[e,Int.add_zero]at this;exact this
def A8(h0:0<M)(h1:M<10^60)(hn:n=1\/n=2){last:Nat}{u dd:List Int}(hd:(dd.length:Int)=n)(hz:Bx dd<|zN n)(lw:EB dd)(ar:u.length=dd.length){z:List (List My.Tm)}(hP:∀(i:Nat) (P:List My.Tm),z[i]?=b4 P->Fo M dd P/\∀vs:List Int,vs.length=u.length->M∣ev vs P-ev vs I^i)(ho:∀t∈outer,cutD (t.1.map D.int) cg (b4 (last:Int))=t.1.dropLast.map D.int/\d8 (t.1.map D.int) (last:Int)=b4 (D.int<|la t.1)/\0<=la t.1/\la t.1<(z.length:Int))(ad:outer.length<=1000){rest:Sv}{R:D->Prop}
  (k:∀(l:List<|List Key×D) (o7 o8 B q:Option D),Fac M dd (λvs=>ev vs I) l outer->∃r,rest [b4<|.int M,b4<|.int n,b4<|fD outer,b4 inn,b4<|.int (last:Int),b4<|.lst<|z.map fD,b4<|.dT l,o7,o8,B,q]=b4 (.rt r)/\R r) :
  ∃r,bW (iD (mS<|aD 2) (c9 2<|bA (aO 7)<|bA (aO 8) dP)<|bW (dA 9<|OA lF (aD 7) uI<|mX<|aD 4)
   (bW (dA 10<|aW bF<|aE (aD 0)<|aE (aD 1)<|aE (gQ<|aE (aD 8)<|aE (eC<|.int 0) bB)<|aE (bE aN (aD 5)<|bE aN (aD 7)<|aD 4) bB)
   (yR 6 (aD 9)<|aW nT<|aE (aD 0)<|aE (uH (aD 6) (aD 9)<|gQ bB)<|aE (aD 10) bB))) rest [b4<|.int M,b4<|.int n,b4<|fD outer,b4 inn,b4<|.int (last:Int),b4<|.lst<|z.map fD,b4<|.dT [],cg,cg,cg,cg]=b4 (.rt r)/\R r:=by
 refine eW (items:=outer.map bP) (by ac_rfl) (λi ρ=>∃(l:List<|List Key×D) (o7 o8 B q:Option D),ρ=[b4<|.int M,b4<|.int n,b4<|fD outer,b4 inn,b4<|.int (last:Int),b4<|.lst<|z.map fD,b4<|.dT l,o7,o8,B,q]/\Fac M dd (λvs=>ev vs I) l (outer.take i)/\l.length<=i) {[],cg,cg,cg,cg,rfl,by rw[List.take_zero];exact Fac.nil M dd _,zam _} ?_ ?_
 .rintro i x ρ hx ⟨l,o7,o8,B,q,rfl,G,hl⟩
  rw[zaq]at hx;obtain⟨t,Y,rfl⟩:=map_some hx;have hi:=(List.getElem?_eq_some_iff.mp Y).1;obtain⟨c1,c2,c3,c4⟩:=ho t<|zaA Y;have ab:outer.take (i+1)=outer.take i++[t]:=by rw[zbl,Y];rfl
  obtain⟨e,he⟩:∃e:Nat,la t.1=(e:Int):={(la t.1).toNat,by lia};have J:e<z.length:=by lia
  obtain⟨fp,vp⟩:=hP e z[e]<|zaH J;have U:d8 (z.map fD) (e:Int)=b4 (fD z[e]):=bH (by rw[zaq,zaH J];rfl);obtain⟨H,eh,fh,vh⟩:=fV (a:=t.2) (b:=0) h0 h1 hn hd hz lw fp;obtain⟨F,eF,fF,vF⟩:=G.at_ t.1.dropLast;obtain⟨Q,eq,fq,vq⟩:=DX h0 fF fh lw;have W:=sZ l t.1.dropLast;have pt:=O9 (l:=l) t.1.dropLast (fD Q) (by lia);have pl:=LG l (t.1.dropLast.map zan:List Key)<|fD Q;rw[he]at c2;refine{_,?_,putD l (t.1.dropLast.map zan)<|fD Q,b4<|tupI t.1,b4<|.int t.2,b4<|tupI t.1.dropLast,b4<|fD H,rfl,?_,by lia}
  .generalize putD l (t.1.dropLast.map zan:List Key) (fD Q)=l' at pt
   have e9:lF (tupI t.1) cg (b4 (last:Int))=b4 (tupI t.1.dropLast):=by unfold tupI;rw[q_slT,c1]
   have N:aN (tupI t.1) (.int (last:Int))=b4 (.int (e:Int)):=by unfold tupI;rw[q_itT];exact c2
   generalize tupI t.1.dropLast=ta at W pt e9;generalize b6 l (t.1.dropLast.map zan:List Key)=vv at W eF;have e8:bP t=.tup [tupI t.1,.int t.2]:=rfl;rw[e8];generalize tupI t.1=tt at e9 N;simp_all[turn,e9,N,U,eh,W,eF,eq,pt]
  .rw[ab]
   refine G.put fq λvs hv=>?_
   have x1:=vq vs;have x2:=vF vs hv;have x3:=vh vs hv;have x4:=a8 (aQ M t.2) (vp vs<|by lia);have e2:(la t.1).toNat=e:=by lia
   rw[e2];have:ev vs Q-(grp t.1.dropLast (ev vs I) (outer.take i)+t.2*ev vs I^e)=(ev vs Q-(ev vs F+ev vs H))+(ev vs F-grp t.1.dropLast (ev vs I) (outer.take i))+(ev vs H-(t.2*ev vs z[e]+0))+(t.2*ev vs z[e]-t.2*ev vs I^e):=by lia
   rw[this];exact zaR (zaR (zaR x1 x2) x3) x4
 .rintro ρ ⟨l,o7,o8,B,q,rfl,G,hl⟩
  rw[zaj,zbr]at G;exact k l o7 o8 B q G
def XE(h0:0<M)(h1:M<10^60){outer I:List My.Tm}(J:Fo M [2] outer)(fi:Fo M [1] I):∃H,BS [.int M,.int 1,fD outer,.lst [fD I]]=b4 (fD H)/\Fo M [2] H/\∀vs:List Int,vs.length=1->M∣ev vs H-ev [ev vs I] outer:=by
 suffices h:∃r,BS [.int M,.int 1,fD outer,.lst [fD I]]=b4 r/\∃H,r=fD H/\Fo M [2] H/\∀vs:List Int,vs.length=1->M∣ev vs H-ev [ev vs I] outer by
  obtain⟨r,B,H,rfl,x⟩:=h;exact{H,B,x}
 have U:=J.k.len (show(2:Int)<=6 by decide);have one:∀t∈outer,∃x,t.1=[x]/\0<=x/\x<=2:=λt q=>by
  rcases(J.k.bx t q).shape with⟨a,x,B,W,h⟩|⟨a,b,x,y,B,W,h⟩
  .cases B;exact{x,W,h}
  .cases B
 obtain⟨m,em,Y,hm⟩:=k7 (p:=0) (F:=outer) (by lia) λt q=>by
  obtain⟨x,e,a,b⟩:=one t q;rw[e];exact{by simp_all,a,b}
 obtain⟨Ps,ep,lp,hP⟩:=pF (n:=1) h0 h1 (.inl rfl) (u:=[1]) (.inl rfl) rfl fi Y;refine dX ?_;unfold NT;rw[aG<|aJ (d:=.int 0)<|by ac_rfl];have ae:eO [fD outer,.int 0]=b4 (.int (m:Int)):=em;rw[aG<|aJ (d:=.lst<|Ps.map fD)<|by ac_rfl];rw[aG<|aJ (d:=.dT [])<|by simp_all];refine A8 (last:=0) (u:=[1]) (dd:=[2]) h0 h1 (.inl rfl) rfl {by decide,by decide} (show(2:Int)<=6 by decide) rfl (I:=I) (λi P hi=>?_) (λt q=>?_) (by lia) ?_
 .have am:=(List.getElem?_eq_some_iff.mp hi).1
  obtain⟨f,v⟩:=hP i P hi;exact{f.mono {by show 0<=(i:Int)*1;lia,by show(i:Int)*1<=2;lia},v}
 .obtain⟨x,e,a,b⟩:=one t q
  have:=hm t q;rw[e]at this ⊢;have z:N7 0 [x]=x:=rfl;rw[z]at this;exact{rfl,rfl,a,by show x<_;lia}
 .intro l o7 o8 o9 ac fc
  obtain⟨F,eF,fF,vF⟩:=fc.at_ [];have lk:=sZ l [];have N:cJ (.dT l) (.tup [])=b4 (b6 l []):=lk;have G:(b6 l []).getD (.tup [])=fD F:=eF;refine{fD F,by simp_all[N,G],F,rfl,fF,λvs hv=>?_};have:=vF vs hv;rw[E9 (d:=2) J.k.bx]at this;exact this
def VL(h0:0<M)(h1:M<10^60){outer I J:List My.Tm}(W:Fo M [2,2] outer)(fi:Fo M [1,0] I)(fj:Fo M [0,1] J):∃H,BS [.int M,.int 2,fD outer,.lst [fD I,fD J]]=b4 (fD H)/\Fo M [3,2] H/\∀vs:List Int,vs.length=2->M∣ev vs H-ev [ev vs I,ev vs J] outer:=by
 suffices h:∃r,BS [.int M,.int 2,fD outer,.lst [fD I,fD J]]=b4 r/\∃H,r=fD H/\Fo M [3,2] H/\∀vs:List Int,vs.length=2->M∣ev vs H-ev [ev vs I,ev vs J] outer by
  obtain⟨r,N,H,rfl,x⟩:=h;exact⟨H,N,x⟩
 have ae:=W.k.len (show(2:Int)<=6/\(2:Int)<=6 by decide);have two:∀t∈outer,∃x y,t.1=[x,y]/\(0<=x/\x<=2)/\0<=y/\y<=2:=λt q=>by
  rcases(W.k.bx t q).shape with⟨a,x,N,e2,h⟩|⟨a,b,x,y,N,e2,h⟩
  .cases N
  .cases N;exact{x,y,e2,h}
 obtain⟨m,em,m2,hm⟩:=k7 (p:=1) (F:=outer) (by lia) λt q=>by
  obtain⟨x,y,e,a,b⟩:=two t q;rw[e];exact{by simp_all,b.1,b.2}
 obtain⟨m0,ab,aa,Y⟩:=k7 (p:=0) (F:=outer) (by lia) λt q=>by
  obtain⟨x,y,e,a,b⟩:=two t q;rw[e];exact{by simp_all,a.1,a.2}
 obtain⟨Ps,ep,lp,hP⟩:=pF (n:=2) h0 h1 (.inr rfl) (u:=[0,1]) (.inr rfl) rfl fj m2;refine dX ?_;unfold NT;rw[aG<|aJ (d:=.int 1)<|by ac_rfl];have am:eO [fD outer,.int 1]=b4 (.int (m:Int)):=em;have B:eO [fD outer,.int 0]=b4 (.int (m0:Int)):=ab;rw[aG<|aJ (d:=.lst<|Ps.map fD)<|by ac_rfl];rw[aG<|aJ (d:=.dT [])<|by simp_all];refine A8 (last:=1) (u:=[0,1]) (dd:=[0,2]) h0 h1 (.inr rfl) rfl {{by decide,by decide},by decide,by decide} {by decide,by decide} rfl (I:=J) (λi P hi=>?_) (λt q=>?_) (by lia) ?_
 .have aw:=(List.getElem?_eq_some_iff.mp hi).1
  obtain⟨f,v⟩:=hP i P hi;exact{f.mono {{by show 0<=(i:Int)*0;lia,by show(i:Int)*0<=0;lia},by show 0<=(i:Int)*1;lia,by show(i:Int)*1<=2;lia},v}
 .obtain⟨x,y,e,a,b⟩:=two t q
  have:=hm t q;rw[e]at this ⊢;have z:N7 1 [x,y]=y:=rfl;rw[z]at this;exact{rfl,rfl,b.1,by show y<_;lia}
 .intro l o7 o8 o9 G fc
  obtain⟨H,U,fH,vH⟩:=zC h0 h1 fi aa fc;refine{fD H,?_,H,rfl,fH,λvs hv=>?_}
  .clear vH fH fc
   generalize fD H=rH at U ⊢;generalize (D.dT l)=dl at U ⊢;generalize fD outer=do_ at B ⊢;generalize fD I=di at U ⊢;generalize fD J=dj at ⊢;generalize D.lst (Ps.map fD)=dp at ⊢;have e4:(lJ<|bE pZ (aD 4)<|eC<|.int 0) [b4<|.int M,b4<|.int 2,b4 do_,b4<|.lst [di,dj],b4<|.int ((1:Nat):Int),b4 dp,b4 dl,o7,o8,o9,G]=b4 cr:=by simp_all
   rw[aG<|(D8 e4).trans q_nx];refine qx ?_;have e3:(bE aN (aD 3)<|eC<|.int 0) [b4<|.int M,b4<|.int 2,b4 do_,b4<|.lst [di,dj],b4<|.int ((1:Nat):Int),b4 dp,b4 dl,o7,o8,o9,G]=b4 di:=by ac_rfl
   rw[q_call,q_lcons,q_lcons,e3,q_lcons,q_call,q_lcons,q_lcons];simp_all[B,U]
  have:=vH vs hv;rw[FW (d:=2) (e:=2) λt q=>⟨W.k.bx t q,by
   obtain⟨x,y,e,a,b⟩:=two t q;refine{x,y,e,?_};have:=Y t q;rw[e]at this;exact this⟩]at this
  exact this
theorem IsF.uniq(g:GR M many R):∀ {x:Int} {w w':List Int},IsF R k x w->IsF R k x w'->w=w'
 |x,[],[],_,_=>rfl
 |x,[],n::w,h,h'=>by
  obtain⟨r,B,F,h2,_⟩:=h';have a:=(g.jk r<|eJ B).2.1;have b:=Rch.le g h2.rch;have h:x=k:=h
  lia
 |x,n::w,[],h',h=>by
  obtain⟨r,B,F,h2,_⟩:=h';have a:=(g.jk r<|eJ B).2.1;have b:=Rch.le g h2.rch;have h:x=k:=h
  lia
 |x,n::w,m::v,⟨r,B,F,h2,h3⟩,⟨q,hq,hi,g2,g3⟩=>by
  have nm:n=m:=by
   rcases Int.lt_trichotomy n m with z|z|z
   .exact absurd h2.rch<|g3 n r z B F
   .exact z
   .exact absurd g2.rch<|h3 m q z hq hi
  subst nm;rw[B]at hq;cases hq;rw[IsF.uniq g h2 g2]
def qA:eY (rs.map<|red M) i=(eY rs i).map (red M):=by
 unfold eY;by_cases h:0<=i
 .rw[cw h,cw h,zaq]
 .rw[cx h,cx h];rfl
def J3(h:w.length<=900):cC (tupI w) (.tup [.int x])=b4 (tupI<|w++[x]):=by
 have q:a7 (w.length+1)=cp:=decide_eq_true (by lia);simp_all[tupI,q]
def Z9:aN (bD r) (.int 0)=b4 (.int r.j):=by unfold bD;rw[q_itT];exact at0
def XN:aN (bD r) (.int 1)=b4 (.int r.k):=by unfold bD;rw[q_itT];exact at1
def qaM:aN (bD r) (.int 2)=b4 (.int r.a):=by unfold bD;rw[q_itT];exact at2
def qaU:aN (bD r) (.int 3)=b4 (.int r.b):=by unfold bD;rw[q_itT];exact at3
def CC{M:Int}{n:Nat}{rs:List Ro}(g:GR M (n:Int)<|rs.map<|red M){j k:Int}(j0:0<=j)(k0:0<=k/\k<(n:Int))(h:Rch (rs.map<|red M) j k)(ne:j≠k){o5:Option D}:∃(r:Nat) (q:Ro),bW (dA 5<|eC<|.int 0) (t8 (YG (lJ<|bE EE (bE aN (bE aN (aD 0)<|aD 5)<|eC<|.int 0)<|aD 2)<|EA<|lJ<|bE aN (bE aN (aD 1)<|bE aN (bE aN (aD 0)<|aD 5)<|eC<|.int 1)<|aD 3)<|dA 5<|bE cC (aD 5)<|eC<|.int 1) [b4<|.lst<|rs.map bD,b4<|bY n<|RT<|rs.map<|red M,b4<|.int j,b4<|.int k,b4 d4,o5]=b4 (.nx [b4<|.lst<|rs.map bD,b4<|bY n<|RT<|rs.map<|red M,b4<|.int j,b4<|.int k,b4 d4,b4<|.int (r:Int)])/\eY rs (r:Int)=b4 q/\q.j=j/\Rch (rs.map<|red M) q.k k/\∀m B,m<(r:Int)->eY (rs.map<|red M) m=b4 B->B.j=j->¬ Rch (rs.map<|red M) B.k k:=by
 rcases h.inv with z|⟨i,r0,hi,hj,hr⟩
 .exact absurd z ne
 rw[aG<|aJ (d:=.int 0)<|by simp_all];rw[qA]at hi;obtain⟨q0,Y,rfl⟩:=map_some hi;have il:=nQ Y;obtain⟨ρ',e,r,q,rfl,h1,h2,h3,h4⟩:=xS (c:=(YG (lJ<|bE EE (bE aN (bE aN (aD 0)<|aD 5)<|eC<|.int 0)<|aD 2)<|EA<|lJ<|bE aN (bE aN (aD 1)<|bE aN (bE aN (aD 0)<|aD 5)<|eC<|.int 1)<|aD 3)) (b:=(dA 5<|bE cC (aD 5)<|eC<|.int 1)) (λm ρ=>∃r:Nat,ρ=[b4<|.lst<|rs.map bD,b4<|bY n<|RT<|rs.map<|red M,b4<|.int j,b4<|.int k,b4 d4,b4<|.int (r:Int)]/\(r:Int)<=i/\rs.length-r=m/\∀m B,m<(r:Int)->eY (rs.map<|red M) m=b4 B->B.j=j->¬ Rch (rs.map<|red M) B.k k) (λρ=>∃(r:Nat) (q:Ro),ρ=[b4<|.lst<|rs.map bD,b4<|bY n<|RT<|rs.map<|red M,b4<|.int j,b4<|.int k,b4 d4,b4<|.int (r:Int)]/\eY rs (r:Int)=b4 q/\q.j=j/\Rch (rs.map<|red M) q.k k/\∀m B,m<(r:Int)->eY (rs.map<|red M) m=b4 B->B.j=j->¬ Rch (rs.map<|red M) B.k k) (by
  rintro m ρ ⟨r,rfl,ri,rl,U⟩;have aa:r<rs.length:=by lia
  have G:eY rs (r:Int)=b4 rs[r]:=by unfold eY;rw[cw<|by lia,zb6];exact zaH aa
  have N:rs[r]∈rs:=zdw aa;generalize rs[r]=q at G N;have at_:=yG G;have gq:=g.jk (red M q)<|zeD N;have gq:0<=q.j/\q.j<q.k/\q.k<(n:Int):=gq;have m1:=xX (K:=n) (P:=RT<|rs.map<|red M) (k:=q.k) (by lia) gq.2.2;have m2:=t5 (K:=n) (p:=RT (rs.map<|red M) q.k) k0.1 k0.2;have go:(¬ (q.j=j/\Rch (rs.map<|red M) q.k k))->∃J ρ',J<m/\dA 5 (bE cC (aD 5)<|eC<|.int 1) [b4<|.lst<|rs.map bD,b4<|bY n<|RT<|rs.map<|red M,b4<|.int j,b4<|.int k,b4 d4,b4<|.int (r:Int)]=b4 (.nx ρ')/\∃r:Nat,ρ'=[b4<|.lst<|rs.map bD,b4<|bY n<|RT<|rs.map<|red M,b4<|.int j,b4<|.int k,b4 d4,b4<|.int (r:Int)]/\(r:Int)<=i/\rs.length-r=J/\∀m B,m<(r:Int)->eY (rs.map<|red M) m=b4 B->B.j=j->¬ Rch (rs.map<|red M) B.k k:=λno=>by
   have ne:(r:Int)≠i:=λz=>by
    rw[z,Y]at G;cases G;exact no {hj,hr}
   refine{rs.length-(r+1),_,by lia,by simp_all <;> rfl,r+1,rfl,by lia,rfl,λJ B ai F W=>?_};by_cases z:J<(r:Int)
   .exact U J B z F W
   .have:J=(r:Int):=by lia
    subst this;rw[qA,G]at F;cases F;exact λz=>no {W,z}
  by_cases c1:q.j=j
  .by_cases c2:Rch (rs.map<|red M) q.k k
   .refine .inr {?_,r,q,rfl,G,c1,c2,U}
    rw[i6.mpr c2]at m2;simp_all[at_,Z9,XN,c1,m1,m2]
   .have rf:RT (rs.map<|red M) q.k k=cr:=by rw[zc2];exact λz=>c2 (i6.mp z)
    rw[rf]at m2;exact .inl {by simp_all[at_,Z9,XN,c1,m1,m2],go λz=>c2 z.2}
  .exact .inl {by ac_rfl,go λz=>c1 z.1}) 100000 rs.length [b4<|.lst<|rs.map bD,b4<|bY n<|RT<|rs.map<|red M,b4<|.int j,b4<|.int k,b4 d4,b4<|.int ((0:Nat):Int)] (by
   have:=g.len;rw[zaj]at this;lia) ⟨0,rfl,by lia,by lia,λm B hm F=>by
   unfold eY at F;rw[cx<|by lia]at F;cases F⟩
 exact{r,q,e,h1,h2,h3,h4}
def yT{M:Int}{n:Nat}{rs:List Ro}(g:GR M (n:Int)<|rs.map<|red M)(hn:n<=6){j k:Int}(j0:0<=j)(k0:0<=k/\k<(n:Int))(h:Rch (rs.map<|red M) j k):∃w,dF [.lst<|rs.map bD,bY n<|RT<|rs.map<|red M,.int j,.int k]=b4 (tupI w)/\IsF (rs.map<|red M) k j w:=by
 suffices h:∃d,dF [.lst<|rs.map bD,bY n<|RT<|rs.map<|red M,.int j,.int k]=b4 d/\∃w,d=tupI w/\IsF (rs.map<|red M) k j w by
  obtain⟨d,e,w,rfl,h⟩:=h;exact⟨w,e,h⟩
 refine dX ?_;unfold oK;rw[aG<|aJ (d:=tupI [])<|by ac_rfl];have jk:=Rch.le g h;refine HH (λm ρ=>∃(z:Int) (w:List Int) (o:Option D),ρ=[b4<|.lst<|rs.map bD,b4<|bY n<|RT<|rs.map<|red M,b4<|.int z,b4<|.int k,b4<|tupI w,o]/\0<=z/\Rch (rs.map<|red M) z k/\(k-z).toNat=m/\(w.length:Int)<=z/\∀v,IsF (rs.map<|red M) k z v->IsF (rs.map<|red M) k j (w++v)) (λρ=>∃(w:List Int) (o:Option D),ρ=[b4<|.lst<|rs.map bD,b4<|bY n<|RT<|rs.map<|red M,b4<|.int k,b4<|.int k,b4<|tupI w,o]/\IsF (rs.map<|red M) k j w) (k-j).toNat (by lia) {j,[],cg,by ac_rfl,j0,h,rfl,by simp_all;lia,λv B=>B} ?_ ?_
 .rintro m ρ ⟨z,w,o,rfl,G,J,hm,hw,B⟩
  by_cases ne:z=k
  .subst ne
   refine .inr {by simp_all,w,o,rfl,?_};have:=B [] rfl
   rwa [zcs]at this
  .obtain⟨r,q,e,h1,h2,N,Y⟩:=CC g (d4:=tupI w) (o5:=o) G k0 J ne
   have at_:=yG h1;have U:=g.jk (red M q)<|zeD<|eJ h1;have U:0<=q.j/\q.j<q.k/\q.k<(n:Int):=U;have qk:=Rch.le g N;have W:=Rch.le g J;have sn:=J3 (w:=w) (x:=(r:Int)) (by lia);have es:∀ {g h k:Sv} {ρ:dC},bW g (bW h k) ρ=bW (bW g h) k ρ:=by
    intro g h k ρ;unfold bW;cases g ρ with
    |none=>rfl
    |some o=>cases o <;> rfl
   refine .inl {by simp_all[ne],(k-q.k).toNat,[b4<|.lst<|rs.map bD,b4<|bY n<|RT<|rs.map<|red M,b4<|.int q.k,b4<|.int k,b4<|tupI<|w++[(r:Int)],b4<|.int (r:Int)],by lia,?_,q.k,w++[(r:Int)],_,rfl,by lia,N,rfl,by simp_all;lia,λv F=>?_}
   .rw[es,aG e]
    simp_all[sn,at_,XN]
   .rw[List.append_assoc]
    exact B _ {red M q,by rw[qA,h1];rfl,h2,F,Y}
 .rintro ρ ⟨w,o,rfl,hw⟩
  exact{_,by simp_all <;> rfl,w,rfl,hw}
theorem IsF.at_:∀ {x:Int} {w:List Int},IsF R k x w->∀n∈w,∃r,eY R n=b4 r
 |_,[],_,_,h=>nomatch h
 |_,m::w,⟨r,hr,_,h2,_⟩,n,hn=>by
  rcases List.mem_cons.mp hn with z|z
  .exact{r,z ▸ hr}
  .exact IsF.at_ h2 n z
def d9{M:Int}{rs:List Ro}(h0:0<M)(B:M<10^60)(hb:∀r∈rs,Bd 61 r.a/\Bd 61 r.b){w:List Int}(hw:∀n∈w,∃r,eY (rs.map<|red M) n=b4 r){x:Int}(Y:0<=x/\x<M):fM [.int M,.lst<|rs.map bD,tupI w,.int x]=b4 (.int<|cN (rs.map<|red M) M x w):=by
 refine aM ?_;unfold nY;refine b8 (items:=w.map .int) (by ac_rfl) (λi ρ=>∃o,ρ=[b4<|.int M,b4<|.lst<|rs.map bD,b4<|tupI w,b4<|.int<|cN (rs.map<|red M) M x<|w.take i,o]) {cg,by ac_rfl} ?_ ?_
 .rintro i y ρ U ⟨o,rfl⟩
  rw[zaq]at U;obtain⟨n,N,rfl⟩:=map_some U;obtain⟨r,G⟩:=hw n<|zaA N;have z:=G;rw[qA]at z;obtain⟨q,J,rfl⟩:=map_some z;have bq:=hb q<|eJ J;have F:=dW (rs:=rs.map<|red M) h0 (w.take i) x Y;have es:cN (rs.map<|red M) M x (w.take<|i+1)=((red M q).a*cN (rs.map<|red M) M x (w.take i)+(red M q).b)%M:=by
   rw[zbl,N];unfold cN;rw[zeg];simp_all[G]
  have at_:=yG J;generalize cN (rs.map<|red M) M x (w.take i)=y at F es;have W:=bq.1.mulH (Bd.of B {F.1,zbX F.2}) (by decide) (by decide);have em:(q.a*y+q.b)%M=cN (rs.map<|red M) M x (w.take<|i+1):=by
   rw[es];show _=(q.a%M*y+q.b%M)%M;refine dU ?_;have d1:M∣q.a-q.a%M:=zfc;have d2:M∣q.b-q.b%M:=zfc;have:q.a*y+q.b-(q.a%M*y+q.b%M)=(q.a*y-q.a%M*y)+(q.b-q.b%M):=by lia
   rw[this];exact zaR (a8 d1<|aQ M y) d2
  refine{_,?_,b4<|.int n,rfl};rw[<- em];simp_all[turn,at_,qaM,qaU,W,bS h0]
 .rintro ρ ⟨o,rfl⟩
  simp_all
def qh:aN (gB M c n rs ms) (.int 0)=b4 (.int M):=by unfold gB;rw[q_itT];exact at0
def KP(h0:0<M)(q:M<10^60)(B:0<=a/\a<M)(z:0<=x/\x<M):AM [.int M,.tup [.int a,.int b],.int x]=b4 (.int<|(a*x+b)%M):=by
 have F:=(Bd.of q {B.1,zbX B.2}).mulH (Bd.of q {z.1,zbX z.2}) (by decide) (by decide);refine aM ?_;simp_all[BG,aK,at0,at1,F,D4 h0]
def WP(h0:0<M)(q:M<10^60)(B:0<=a/\a<M)(G:0<=b/\b<M)(z:0<=c/\c<M):M7 [.int M,.tup [.int a,.int b],.tup [.int c,.int d]]=b4 (.tup [.int<|a*c%M,.int<|(c*b+d)%M]):=by
 have F:=(Bd.of q {B.1,zbX B.2}).mulH (Bd.of q {z.1,zbX z.2}) (by decide) (by decide);refine aM ?_;simp_all[MZ,aK,at0,at1,F,D4 h0,KP h0 q z G]
def vU(W:aN bk (.int 0)=b4 (.int M))(N:aN bk (.int 2)=b4 (.tup<|R.map bD))(h3:3<=M)(q:M<10^60)(g:GR M many R)(hw:∀n∈w,∃r,eY R n=b4 r):jG [bk,tupI w]=b4 (B3<|iA R M (1,0) w):=by
 have h0:0<M:=by lia
 refine aM ?_;unfold v7;rw[aG<|aJ (d:=B3 (1,0))<|by ac_rfl];refine b8 (items:=w.map .int) (by ac_rfl) (λi ρ=>∃B,ρ=[b4 bk,b4<|tupI w,b4<|B3<|iA R M (1,0)<|w.take i,B]) {cg,by ac_rfl} ?_ ?_
 .rintro i x ρ G ⟨B,rfl⟩
  rw[zaq]at G;obtain⟨n,J,rfl⟩:=map_some G;obtain⟨r,z⟩:=hw n<|zaA J;have Y:=g.ab r<|eJ z;have F:=yF (rs:=R) h0 (w.take i) (1,0) 0 0 {by decide,by show(1:Int)<M;lia} {by decide,by show(0:Int)<M;lia} (by simp_all);have es:iA R M (1,0) (w.take<|i+1)=((iA R M (1,0)<|w.take i).1*r.a%M,(r.a*(iA R M (1,0)<|w.take i).2+r.b)%M):=by
   rw[zbl,J];unfold iA;rw[zeg];simp_all[z]
  refine{[b4 bk,b4<|tupI w,b4<|B3<|iA R M (1,0)<|w.take<|i+1,b4<|.int n],?_,_,rfl};rw[es];generalize iA R M (1,0) (w.take i)=t at F;have U:=WP (M:=M) (a:=t.1) (b:=t.2) (c:=r.a) (d:=r.b) h0 q F.1 F.2.1 Y.1;simp_all[turn,W,N,yG z,ZJ,B3,U]
 .rintro ρ' ⟨B,rfl⟩
  simp_all
open Classical in
def fwd(R:List Ro)(j k:Int):List Int:=if h:∃w,IsF R k j w then h.choose else []
def NK(g:GR M many R)(h:IsF R k j w):fwd R j k=w:=by
 have ex:∃w,IsF R k j w:=⟨w,h⟩;unfold fwd;rw[dif_pos ex];exact IsF.uniq g ex.choose_spec h
def F5{M:Int}{n:Nat}{R:List Ro}{bk:D}(q:aN bk (.int 2)=b4 (.tup<|R.map bD))(g:GR M (n:Int) R)(J:n<=6){j k:Int}(B:0<=j/\j<(n:Int))(G:0<=k/\k<(n:Int)):(Rch R j k->cQ [bk,.int j,.int k]=b4 (tupI<|fwd R j k)/\IsF R k j (fwd R j k))/\(¬ Rch R j k->cQ [bk,.int j,.int k]=b4 .non):=by
 obtain⟨d,e,h⟩:=oS q g (j:=j) (k:=k) {B.1,by lia} {G.1,by lia};rcases h with⟨rfl,F⟩|⟨w,rfl,hw⟩
 .exact{λz=>absurd z F,λ_=>e}
 .have:=NK g hw
  exact{λ_=>by rw[this];exact{e,hw},λz=>absurd hw.rch z}
def mP{M:Int}{n:Nat}{rs:List Ro}(g:GR M (n:Int)<|rs.map<|red M)(z:n<=6){j k:Int}(q:0<=j)(k0:0<=k/\k<(n:Int))(h:Rch (rs.map<|red M) j k):dF [.lst<|rs.map bD,bY n<|RT<|rs.map<|red M,.int j,.int k]=b4 (tupI<|fwd (rs.map<|red M) j k)/\IsF (rs.map<|red M) k j (fwd (rs.map<|red M) j k):=by
 obtain⟨w,e,hw⟩:=yT g z q k0 h;rw[NK g hw];exact{e,hw}
def S1(q:3<=M)(w:List Int)(v:Int):(0<=(iA R M (1,0) w).1/\(iA R M (1,0) w).1<M)/\(0<=(iA R M (1,0) w).2/\(iA R M (1,0) w).2<M)/\M∣((iA R M (1,0) w).1*v+(iA R M (1,0) w).2)-cN R M v w:=by
 obtain⟨a,b,c⟩:=yF (rs:=R) (M:=M) (by lia) w (1,0) v v {by decide,by show(1:Int)<M;lia} {by decide,by show(0:Int)<M;lia} (by simp_all);exact{a,b,Z7 c.symm}
def un(n p:Nat):List Int:=if n=1 then [1]else if p=0 then [1,0]else [0,1]
def jD{M:Int}(h0:0<M){n p:Nat}(h:(n=1/\p=0)\/(n=2/\(p=0\/p=1))):gJ [.int M,.int (n:Int),.int (p:Int)]=b4 (fD<|fm M [(un n p,1)])/\Fo M (un n p) (fm M [(un n p,1)])/\∀vs:List Int,vs.length=n->M∣ev vs (fm M [(un n p,1)])-vs.getD p 0:=by
 have W:n=1\/n=2:=by lia
 have F:Bd 61 1:={by decide +kernel,by decide +kernel};have Y:=V_form (M:=M) (n:=n) (ts:=[(un n p,1)]) h0 W (by simp_all) (λt z=>by
  rw[List.mem_singleton.mp z];rcases h with⟨rfl,rfl⟩|⟨rfl,rfl|rfl⟩
  .exact{rfl,by ac_rfl,F}
  .exact{rfl,by ac_rfl,F}
  .exact{rfl,by ac_rfl,F})
 obtain⟨f,v⟩:=NP (M:=M) h0 (d:=un n p) (ts:=[(un n p,1)]) (λt z=>by
  rw[List.mem_singleton.mp z];rcases h with⟨rfl,rfl⟩|⟨rfl,rfl|rfl⟩
  .exact{by decide,by decide}
  .exact{{by decide,by decide},by decide,by decide}
  .exact{{by decide,by decide},by decide,by decide})
 refine{aM ?_,f,λvs B=>?_}
 .have q:uD [.int M,.int (n:Int),.lst<|[(un n p,1)].map bP]=b4 (fD<|fm M [(un n p,1)]):=Y
  generalize fD (fm M [(un n p,1)])=r at q ⊢;have N:a7 1=cp:=by decide
  have G:a7 2=cp:=by decide
  have U:bZ [.int 1]=b4 [.int 0]:=rfl;have J:bZ [.int 2]=b4 [.int 0,.int 1]:=rfl;rcases h with⟨rfl,rfl⟩|⟨rfl,rfl|rfl⟩
  .simp[-zad,-zae,aA,aB,un,bP,tupI]at q
   simp_all[jE,aK,U,N,pR,bV,q]
  .simp[-zad,-zae,aA,aB,un,bP,tupI]at q
   simp_all[jE,aK,J,G,pR,bV,q]
  .simp[-zad,-zae,aA,aB,un,bP,tupI]at q
   simp_all[jE,aK,J,G,pR,bV,q]
 .have:=v vs
  have e:ev vs [(un n p,1)]=vs.getD p 0:=by
   rw[bJ,nO];rcases h with⟨rfl,rfl⟩|⟨rfl,rfl|rfl⟩
   .obtain⟨x,rfl⟩:=List.length_eq_one_iff.mp B
    simp_all[un,mon,zca]
   .obtain⟨x,y,rfl⟩:=iB B
    simp_all[un,mon,zca]
   .obtain⟨x,y,rfl⟩:=iB B
    simp_all[un,mon,zca]
  rw[e]at this;exact this
def W9(h:(n=1/\p=0)\/(n=2/\(p=0\/p=1))):((un n p).length:Int)=(n:Int)/\Bx (un n p) (zN (n:Int))/\EB (un n p):=by
 rcases h with⟨rfl,rfl⟩|⟨rfl,rfl|rfl⟩
 .exact{rfl,{by decide,by decide},show(1:Int)<=6 by decide}
 .exact{rfl,{{by decide,by decide},by decide,by decide},{by decide,by decide}}
 .exact{rfl,{{by decide,by decide},by decide,by decide},{by decide,by decide}}
def g7{M:Int}{z:Nat}{R:List Ro}{bk:D}(G:aN bk (.int 0)=b4 (.int M))(N:aN bk (.int 2)=b4 (.tup<|R.map bD))(U:3<=M)(q:M<10^60)(g:GR M (z:Int) R)(J:z<=6){n p:Nat}(h:(n=1/\p=0)\/(n=2/\(p=0\/p=1))){j k:Int}(hj:0<=j/\j<(z:Int))(hk:0<=k/\k<(z:Int))(hr:Rch R j k):cQ [bk,.int j,.int k]=b4 (tupI<|fwd R j k)/\jG [bk,tupI<|fwd R j k]=b4 (B3<|iA R M (1,0)<|fwd R j k)/\∃H,bF [.int M,.int (n:Int),B3<|iA R M (1,0)<|fwd R j k,fD<|fm M [(un n p,1)]]=b4 (fD H)/\Fo M (un n p) H/\∀vs:List Int,vs.length=n->M∣ev vs H-cN R M (vs.getD p 0) (fwd R j k):=by
 have h0:0<M:=by lia
 obtain⟨e1,f1⟩:=(F5 N g J hj hk).1 hr;have e2:=vU G N U q g<|IsF.at_ f1;obtain⟨e3,W,Y⟩:=jD (M:=M) h0 h;obtain⟨b1,b2,b3⟩:=W9 h;have hn:(n:Int)=1\/(n:Int)=2:=by lia
 obtain⟨H,eh,fh,vh⟩:=fV (a:=(iA R M (1,0)<|fwd R j k).1) (b:=(iA R M (1,0)<|fwd R j k).2) h0 q hn b1 b2 b3 W;refine{e1,e2,H,eh,fh,λvs hv=>?_};obtain⟨_,_,d⟩:=S1 (R:=R) U (fwd R j k)<|vs.getD p 0;have F:=vh vs (by lia);have B:=a8 (aQ M (iA R M (1,0)<|fwd R j k).1)<|Y vs hv;generalize iA R M (1,0) (fwd R j k)=t at F B d;generalize ev vs (fm M [(un n p,1)])=y at F B;have:ev vs H-cN R M (vs.getD p 0) (fwd R j k)=(ev vs H-(t.1*y+t.2))+(t.1*y-t.1*vs.getD p 0)+(t.1*vs.getD p 0+t.2-cN R M (vs.getD p 0) (fwd R j k)):=by lia
 rw[this];exact zaR (zaR F B) d
def alo(R:List Ro)(M:Int)(F:Int->Int->List Int):List Int->List Int->List Int->List Int
 |k::ks,t::ts,v::vs=>cN R M v (F k t)::alo R M F ks ts vs
 |_,_,_=>[]
def sv(R:List Ro)(M:Int)(m:Mk)(ks vs:List Int):Int:=ev (alo R M (fwd R) ks m.tk vs) m.ts%M
def fits_of(h:eE R ks tk=cp):ks.length=tk.length/\∀p∈iC ks tk,Rch R p.1 p.2:=by
 unfold eE at h;rw[zaM,zcO]at h;exact{of_decide_eq_true h.1,λp q=>i6.mp<|h.2 p q}
def OkT.bx1(h:OkT 1 t):Bx [2] t.1:=by
 obtain⟨x,e⟩:=List.length_eq_one_iff.mp h.1;have:=h.2.1 x (by rw[e];simp_all);rw[e];exact this
def OkT.bx2(h:OkT 2 t):Bx [2,2] t.1:=by
 obtain⟨x,y,e⟩:=iB h.1;have a:=h.2.1 x (by rw[e];simp_all);have b:=h.2.1 y (by rw[e];simp_all);rw[e];exact⟨a,b⟩
structure Bok(M:Int)(n:Nat)(rs:List Ro)(ms:List Mk):Prop where
 h3:3<=M
 h60:M<10^60
 hn:1<=n/\n<=6
 g:GR M (n:Int)<|rs.map<|red M
 rb:∀r∈rs,Bd 61 r.a/\Bd 61 r.b
 ml:ms.length<=5
 mo:∀m∈ms,OkM (n:Int) 7 m
def qbq:aN (gA M m) (.int 3)=b4 (fD<|fm M m.ts):=by unfold gA;rw[q_itT];exact at3
def qac:aN (gA M m) (.int 0)=b4 (.str m.nm):=by unfold gA;rw[q_itT];exact at0
def qr:aN (gA M m) (.int 2)=b4 (.int m.gv):=by unfold gA;rw[q_itT];exact at2
def zF{M c:Int}{n:Nat}{rs:List Ro}{ms:List Mk}(B:Bok M n rs ms){i:Int}{m:Mk}(hm:m∈ms)(hi:d8 (ms.map<|gA M) i=b4 (gA M m)){ks:List Int}(hk:∀k∈ks,0<=k/\k<(n:Int))(hf:eE (rs.map<|red M) ks m.tk=cp):∃(H:List My.Tm) (dd:List Int),fN [gB M c n rs ms,.int i,tupI ks]=b4 (fD H)/\Fo M dd H/\EB dd/\Bx dd (zN (ks.length:Int))/\dd.length=ks.length/\∀vs:List Int,vs.length=ks.length->ev vs H%M=sv (rs.map<|red M) M m ks vs:=by
 have h0:0<M:=by have:=B.h3;lia
 have ok:=B.mo m hm;obtain⟨hl,hr⟩:=fits_of hf;have h3:aN (gB M c n rs ms) (.int 3)=b4 (.tup<|ms.map<|gA M):=N0;have hB:aN (gB M c n rs ms) (.int 2)=b4 (.tup<|(rs.map<|red M).map bD):=XX;have U:aN (gB M c n rs ms) (.int 0)=b4 (.int M):=qh;have g:=B.g;generalize gB M c n rs ms=bk at h3 hB U ⊢;generalize rs.map (red M)=R at g hB hr ⊢;have b3:=qbq (M:=M) (m:=m);have b1:=XT (M:=M) (m:=m);generalize gA M m=bm at hi b3 b1;rcases ok.tk with⟨t,G⟩|⟨t,u,G⟩
 .obtain⟨k,rfl⟩:=List.length_eq_one_iff.mp (show ks.length=1 by rw[hl,G];rfl)
  have tb:=ok.tb t (by rw[G];simp_all);have kb:=hk k (by simp_all);have rc:=hr (k,t) (by rw[G];exact zaw ..);obtain⟨e1,e2,I,e3,f3,v3⟩:=g7 (n:=1) (p:=0) U hB B.h3 B.h60 g B.hn.2 (.inl {rfl,rfl}) kb tb rc;obtain⟨e4,_,_⟩:=jD (M:=M) h0 (n:=1) (p:=0)<|.inl {rfl,rfl};obtain⟨fo,vo⟩:=NP (M:=M) h0 (d:=[2]) (ts:=m.ts) λq hq=>by
   have:=ok.tt q hq;rw[G]at this;exact this.bx1
  obtain⟨H,N,f5,v5⟩:=XE h0 B.h60 fo f3;refine{H,[2],aM ?_,f5,show(2:Int)<=6 by decide,{by decide,by decide},rfl,λvs hv=>?_}
  .rw[G]at b1
   have Y:gJ [.int M,.int 1,.int 0]=b4 (fD<|fm M [(un 1 0,1)]):=e4;have F:bF [.int M,.int 1,B3<|iA R M (1,0)<|fwd R k t,fD<|fm M [(un 1 0,1)]]=b4 (fD I):=e3;generalize B3 (iA R M (1,0)<|fwd R k t)=tt at e2 F;generalize tupI (fwd R k t)=ff at e1 e2;generalize fD (fm M [(un 1 0,1)])=uu at F Y;generalize fD (fm M m.ts)=oo at b3 N;generalize fD I=ii at F N;generalize fD H=hh at N ⊢;have el:cE [tupI [k]]=b4 (.int 1):=rfl;have en:(cS<|tupI [k]).map (eX 0)=b4 [.tup [.int 0,.int k]]:=rfl;unfold iX;exact aR (by ac_rfl)<|bI<|aR (by ac_rfl)<|bI<|aR (by ac_rfl)<|bI<|aR (by ac_rfl)<|bI<|kH<|cW (by ac_rfl) N
  .obtain⟨x,rfl⟩:=List.length_eq_one_iff.mp hv
   have x1:=v5 [x] rfl;have x2:=xV (M:=M) (vs:=[ev [x] I]) (us:=[cN R M x<|fwd R k t]) rfl (λp hp=>by
    rw[List.mem_singleton.mp hp];exact v3 [x] rfl) (fm M m.ts)
   have x3:=vo [cN R M x<|fwd R k t];unfold sv;rw[G];refine dU ?_;show M∣ev [x] H-ev [cN R M x<|fwd R k t] m.ts;have:ev [x] H-ev [cN R M x<|fwd R k t] m.ts=(ev [x] H-ev [ev [x] I] (fm M m.ts))+(ev [ev [x] I] (fm M m.ts)-ev [cN R M x<|fwd R k t] (fm M m.ts))+(ev [cN R M x<|fwd R k t] (fm M m.ts)-ev [cN R M x<|fwd R k t] m.ts):=by lia
   rw[this];exact zaR (zaR x1 x2) x3
 .obtain⟨k,l,rfl⟩:=iB (show ks.length=2 by rw[hl,G];rfl)
  have tb:=ok.tb t (by rw[G];simp_all);have ub:=ok.tb u (by rw[G];simp_all);have kb:=hk k (by simp_all);have lb:=hk l (by simp_all);have rc:=hr (k,t) (by rw[G];exact zaw ..);have rd:=hr (l,u) (by rw[G];exact zax _<|zaw ..);obtain⟨e1,e2,I,e3,f3,v3⟩:=g7 (n:=2) (p:=0) U hB B.h3 B.h60 g B.hn.2 (.inr {rfl,.inl rfl}) kb tb rc;obtain⟨d1,d2,J,d3,j3,w3⟩:=g7 (n:=2) (p:=1) U hB B.h3 B.h60 g B.hn.2 (.inr {rfl,.inr rfl}) lb ub rd;obtain⟨e4,_,_⟩:=jD (M:=M) h0 (n:=2) (p:=0)<|.inr {rfl,.inl rfl};obtain⟨d4,_,_⟩:=jD (M:=M) h0 (n:=2) (p:=1)<|.inr {rfl,.inr rfl};obtain⟨fo,vo⟩:=NP (M:=M) h0 (d:=[2,2]) (ts:=m.ts) λq hq=>by
   have:=ok.tt q hq;rw[G]at this;exact this.bx2
  obtain⟨H,N,f5,v5⟩:=VL h0 B.h60 fo f3 j3;refine{H,[3,2],aM ?_,f5,{by decide,by decide},{{by decide,by decide},by decide,by decide},rfl,λvs hv=>?_}
  .rw[G]at b1
   have Y:gJ [.int M,.int 2,.int 0]=b4 (fD<|fm M [(un 2 0,1)]):=e4;have F:bF [.int M,.int 2,B3<|iA R M (1,0)<|fwd R k t,fD<|fm M [(un 2 0,1)]]=b4 (fD I):=e3;have ag:gJ [.int M,.int 2,.int 1]=b4 (fD<|fm M [(un 2 1,1)]):=d4;have W:bF [.int M,.int 2,B3<|iA R M (1,0)<|fwd R l u,fD<|fm M [(un 2 1,1)]]=b4 (fD J):=d3;generalize B3 (iA R M (1,0)<|fwd R k t)=tt at e2 F;generalize tupI (fwd R k t)=ff at e1 e2;generalize B3 (iA R M (1,0)<|fwd R l u)=t2 at d2 W;generalize tupI (fwd R l u)=f2 at d1 d2;generalize fD (fm M [(un 2 0,1)])=uu at F Y;generalize fD (fm M [(un 2 1,1)])=u2 at W ag;generalize fD (fm M m.ts)=oo at b3 N;generalize fD I=ii at F N;generalize fD J=jj at W N;generalize fD H=hh at N ⊢;have el:cE [tupI [k,l]]=b4 (.int 2):=rfl;have en:(cS<|tupI [k,l]).map (eX 0)=b4 [.tup [.int 0,.int k],.tup [.int 1,.int l]]:=rfl;unfold iX;exact aR (by ac_rfl)<|bI<|aR (by ac_rfl)<|bI<|aR (by ac_rfl)<|bI<|aR (by ac_rfl)<|bI<|kH<|cW (by ac_rfl) N
  .obtain⟨x,y,rfl⟩:=iB hv
   have x1:=v5 [x,y] rfl;have x2:=xV (M:=M) (vs:=[ev [x,y] I,ev [x,y] J]) (us:=[cN R M x<|fwd R k t,cN R M y<|fwd R l u]) rfl (λp hp=>by
    rcases List.mem_cons.mp hp with z|z
    .rw[z];exact v3 [x,y] rfl
    .rw[List.mem_singleton.mp z];exact w3 [x,y] rfl) (fm M m.ts)
   have x3:=vo [cN R M x<|fwd R k t,cN R M y<|fwd R l u];unfold sv;rw[G];refine dU ?_;show M∣ev [x,y] H-ev [cN R M x<|fwd R k t,cN R M y<|fwd R l u] m.ts;have:ev [x,y] H-ev [cN R M x<|fwd R k t,cN R M y<|fwd R l u] m.ts=(ev [x,y] H-ev [ev [x,y] I,ev [x,y] J] (fm M m.ts))+(ev [ev [x,y] I,ev [x,y] J] (fm M m.ts)-ev [cN R M x<|fwd R k t,cN R M y<|fwd R l u] (fm M m.ts))+(ev [cN R M x<|fwd R k t,cN R M y<|fwd R l u] (fm M m.ts)-ev [cN R M x<|fwd R k t,cN R M y<|fwd R l u] m.ts):=by lia
   rw[this];exact zaR (zaR x1 x2) x3
def sW(h0:0<M)(B:M<10^60)(J:0<=x/\x<M)(W:0<=e/\e<=100)(U:Bd 61 c):∃(q:Int) (z:Option D),Bd 61 q/\M∣q-c*x^e.toNat/\turn (c9 2<|bA (aO 6)<|bA (aO 7) dP) (iD (lR bZ<|aE (aD 6) bB) (aO 8)<|dA 5<|bE dM (bE b5 (aD 5)<|aD 7)<|aD 0) (.tup [.int e,.int x]) [b4<|.int M,b4 d1,b4 d2,b4 d3,b4 d4,b4<|.int c,o6,o7,o8]=b4 (.nx [b4<|.int M,b4 d1,b4 d2,b4 d3,b4 d4,b4<|.int q,b4<|.int e,b4<|.int x,z]):=by
 obtain⟨ρ',er,q,z,rfl,G,F⟩:=eU (g:=aO 8) (b:=(dA 5<|bE dM (bE b5 (aD 5)<|aD 7)<|aD 0)) (items:=aU 0 1 e.toNat) (ρ:=[b4<|.int M,b4 d1,b4 d2,b4 d3,b4 d4,b4<|.int c,b4<|.int e,b4<|.int x,o8]) (λi ρ=>∃(q:Int) (z:Option D),ρ=[b4<|.int M,b4 d1,b4 d2,b4 d3,b4 d4,b4<|.int q,b4<|.int e,b4<|.int x,z]/\Bd 61 q/\M∣q-c*x^i) {c,o8,rfl,U,by rw[zdE,zbR];exact aQ M c} (by
  rintro i y ρ hy ⟨q,z,rfl,G,F⟩;have N:=G.mulH (Bd.of B {J.1,zbX J.2}) (by decide) (by decide);refine{_,by simp_all[turn,N,bS h0] <;> rfl,q*x%M,b4 y,rfl,Bd.mod h0 B,?_};have d1:M∣q*x%M-q*x:=jN;have d2:=a8 F<|aQ M x;rw[zca,<- zey];have:q*x%M-c*x^i*x=(q*x%M-q*x)+(q*x-c*x^i*x):=by lia
  rw[this];exact zaR d1 d2)
 rw[a9]at F;refine{q,z,G,F,?_};have Y:=eP W.1 (show e<=1000000 by lia);simp_all[turn,Y];exact er
def sG{M:Int}(h0:0<M)(z:M<10^60){ts:List My.Tm}{vs:List Int}{nn:Nat}(hl:vs.length=nn)(hn:nn=1\/nn=2)(ht:∀t∈ts,OkT nn t)(hv:∀v∈vs,0<=v/\v<M):rZ [.int M,.lst<|ts.map bP,.lst<|vs.map .int]=b4 (.int<|ev vs ts%M):=by
 refine aM ?_;unfold sD;rw[aG<|aJ (d:=.int 0)<|by simp_all];refine b8 (items:=ts.map bP) (by ac_rfl) (λi ρ=>∃(N o5 o6 o7 o8:Option D),ρ=[b4<|.int M,b4<|.lst<|ts.map bP,b4<|.lst<|vs.map .int,b4<|.int<|ev vs (ts.take i)%M,N,o5,o6,o7,o8]) {cg,cg,cg,cg,cg,by ac_rfl} ?_ ?_
 .rintro i y ρ hy ⟨N,o5,o6,o7,o8,rfl⟩
  rw[zaq]at hy;obtain⟨t,F,rfl⟩:=map_some hy;obtain⟨t1,W,t3⟩:=ht t<|zaA F;have et:ts.take (i+1)=ts.take i++[t]:=by rw[zbl,F];rfl
  generalize hout:ev vs (ts.take i)=out;have inner:∃(q:Int) (U J B:Option D),M∣q-t.2*mon t.1 vs/\cX (c9 2<|bA (aO 6)<|bA (aO 7) dP) (iD (lR bZ<|aE (aD 6) bB) (aO 8)<|dA 5<|bE dM (bE b5 (aD 5)<|aD 7)<|aD 0) (hZ (t.1.map .int)<|vs.map .int) [b4<|.int M,b4<|.lst<|ts.map bP,b4<|.lst<|vs.map .int,b4<|.int<|out%M,b4<|tupI t.1,b4<|.int t.2,o6,o7,o8]=b4 (.nx [b4<|.int M,b4<|.lst<|ts.map bP,b4<|.lst<|vs.map .int,b4<|.int<|out%M,b4<|tupI t.1,b4<|.int q,U,J,B]):=by
   obtain⟨k,c⟩:=t;rcases hn with rfl|rfl
   .obtain⟨v,rfl⟩:=List.length_eq_one_iff.mp hl
    obtain⟨e,rfl⟩:=List.length_eq_one_iff.mp t1;have e2:=W e (by simp_all);obtain⟨q,B,b1,d1,er⟩:=sW (d1:=.lst<|ts.map bP) (d2:=.lst<|[v].map .int) (d3:=.int<|out%M) (d4:=tupI [e]) (o6:=o6) (o7:=o7) (o8:=o8) h0 z (hv v<|by simp_all) (show 0<=e/\e<=100 by lia) t3;refine{q,b4<|.int e,b4<|.int v,B,?_,?_}
    .show M∣q-c*(v^e.toNat*1)
     rw[zbR];exact d1
    .show cX _ _ [D.tup [.int e,.int v]] _=_
     unfold turn at er;unfold cX;obtain⟨ρ1,Y,z2⟩:=bind_some er;rw[Y,aA,z2,aA];rfl
   .obtain⟨v,u,rfl⟩:=iB hl
    obtain⟨e,f,rfl⟩:=iB t1;have e2:=W e (by simp_all);have f2:=W f (by simp_all);obtain⟨q,B,b1,d1,er⟩:=sW (d1:=.lst<|ts.map bP) (d2:=.lst<|[v,u].map .int) (d3:=.int<|out%M) (d4:=tupI [e,f]) (o6:=o6) (o7:=o7) (o8:=o8) h0 z (hv v<|by simp_all) (show 0<=e/\e<=100 by lia) t3;obtain⟨G,q8,b2,d2,es⟩:=sW (d1:=.lst<|ts.map bP) (d2:=.lst<|[v,u].map .int) (d3:=.int<|out%M) (d4:=tupI [e,f]) (o6:=b4<|.int e) (o7:=b4<|.int v) (o8:=B) h0 z (hv u<|by simp_all) (show 0<=f/\f<=100 by lia) b1;refine{G,b4<|.int f,b4<|.int u,q8,?_,?_}
    .show M∣G-c*(v^e.toNat*(u^f.toNat*1))
     rw[zbR,<- zey];have d3:=a8 d1<|aQ M<|u^f.toNat;have:G-c*v^e.toNat*u^f.toNat=(G-q*u^f.toNat)+(q*u^f.toNat-c*v^e.toNat*u^f.toNat):=by lia
     rw[this];exact zaR d2 d3
    .show cX _ _ [D.tup [.int e,.int v],D.tup [.int f,.int u]] _=_
     unfold turn at er es;unfold cX;obtain⟨ρ1,Y,z2⟩:=bind_some er;rw[Y,aA,z2,aA];show cX _ _ [D.tup [.int f,.int u]] _=_;unfold cX;obtain⟨ρ2,y1,y2⟩:=bind_some es;rw[y1,aA,y2,aA];rfl
  obtain⟨q,U,J,B,dc,ef⟩:=inner;have em:(out%M+q)%M=ev vs (ts.take<|i+1)%M:=by
   rw[et,mN,hout];refine dU ?_;have d0:M∣out%M-out:=jN;have:out%M+q-(out+t.2*mon t.1 vs)=(out%M-out)+(q-t.2*mon t.1 vs):=by lia
   rw[this];exact zaR d0 dc
  refine{[b4<|.int M,b4<|.lst<|ts.map bP,b4<|.lst<|vs.map .int,b4<|.int<|ev vs (ts.take<|i+1)%M,b4<|tupI t.1,b4<|.int q,U,J,B],?_,_,_,_,_,_,rfl};rw[<- em];simp only[tupI]at ef;simp_all[turn,bP,tupI,ef,bS h0]
 .rintro ρ ⟨N,o5,o6,o7,o8,rfl⟩
  simp_all
def qbp:aN (bL m) (.int 3)=b4 (.lst<|m.ts.map bP):=by unfold bL;rw[q_itT];exact at3
def qb:aN (bL m) (.int 0)=b4 (.str m.nm):=by unfold bL;rw[q_itT];exact at0
def JF:aN (bL m) (.int 2)=b4 (.int m.gv):=by unfold bL;rw[q_itT];exact at2
def kS{M:Int}{n:Nat}{rs:List Ro}{ms:List Mk}(B:Bok M n rs ms){m:Mk}(hm:m∈ms){ks:List Int}(hk:∀k∈ks,0<=k/\k<(n:Int))(hf:eE (rs.map<|red M) ks m.tk=cp){vs:List Int}(hv:vs.length=ks.length)(J:∀v∈vs,0<=v/\v<M):eQ [.int M,.lst<|rs.map bD,bY n<|RT<|rs.map<|red M,bL m,tupI ks,tupI vs]=b4 (.int<|sv (rs.map<|red M) M m ks vs):=by
 have h0:0<M:=by have:=B.h3;lia
 have ok:=B.mo m hm;obtain⟨hl,hr⟩:=fits_of hf;have W:=X3 (m:=m);have m3:=qbp (m:=m);unfold sv;rcases ok.tk with⟨t,F⟩|⟨t,u,F⟩
 .obtain⟨k,rfl⟩:=List.length_eq_one_iff.mp (show ks.length=1 by rw[hl,F];rfl)
  obtain⟨x,rfl⟩:=List.length_eq_one_iff.mp<|show vs.length=1 from hv;have tb:=ok.tb t (by rw[F];simp_all);have kb:=hk k (by simp_all);have rc:=hr (k,t) (by rw[F];exact zaw ..);obtain⟨N,f1⟩:=mP B.g B.hn.2 kb.1 tb rc;have Y:=J x (by simp_all);have U:=d9 h0 B.h60 B.rb (IsF.at_ f1) Y;have gr:=dW (rs:=rs.map<|red M) h0 (fwd (rs.map<|red M) k t) x Y;have G:=sG (nn:=1) h0 B.h60 (ts:=m.ts) (vs:=[cN (rs.map<|red M) M x<|fwd (rs.map<|red M) k t]) rfl (.inl rfl) (λq hq=>by have:=ok.tt q hq;rw[F]at this;exact this) (λv h=>by rw[List.mem_singleton.mp h];exact gr);rw[F]at W ⊢;show _=b4 (D.int<|ev [cN (rs.map<|red M) M x<|fwd (rs.map<|red M) k t] m.ts%M);have z0:a7 0=cp:=by decide
  refine aM ?_;generalize ev [cN (rs.map<|red M) M x<|fwd (rs.map<|red M) k t] m.ts%M=y at G ⊢;generalize cN (rs.map<|red M) M x (fwd (rs.map<|red M) k t)=gg at U G;generalize tupI (fwd (rs.map<|red M) k t)=ff at N U;generalize bL m=md at W m3 ⊢;generalize bY n (RT<|rs.map<|red M)=mt at N ⊢;simp[-zad,-zae,aA,aB]at G;simp_all[kT,aK,tupI,W,m3,fT,cX,N,U,z0,G]
 .obtain⟨k,l,rfl⟩:=iB (show ks.length=2 by rw[hl,F];rfl)
  obtain⟨x,y,rfl⟩:=iB<|show vs.length=2 from hv;have tb:=ok.tb t (by rw[F];simp_all);have ub:=ok.tb u (by rw[F];simp_all);have kb:=hk k (by simp_all);have lb:=hk l (by simp_all);have rc:=hr (k,t) (by rw[F];exact zaw ..);have rd:=hr (l,u) (by rw[F];exact zax _<|zaw ..);obtain⟨N,f1⟩:=mP B.g B.hn.2 kb.1 tb rc;obtain⟨d1,f2⟩:=mP B.g B.hn.2 lb.1 ub rd;have Y:=J x (by simp_all);have yb:=J y (by simp_all);have U:=d9 h0 B.h60 B.rb (IsF.at_ f1) Y;have d2:=d9 h0 B.h60 B.rb (IsF.at_ f2) yb;have gr:=dW (rs:=rs.map<|red M) h0 (fwd (rs.map<|red M) k t) x Y;have gs:=dW (rs:=rs.map<|red M) h0 (fwd (rs.map<|red M) l u) y yb;have G:=sG (nn:=2) h0 B.h60 (ts:=m.ts) (vs:=[cN (rs.map<|red M) M x<|fwd (rs.map<|red M) k t,cN (rs.map<|red M) M y<|fwd (rs.map<|red M) l u]) rfl (.inr rfl) (λq hq=>by have:=ok.tt q hq;rw[F]at this;exact this) (λv h=>by
   rcases List.mem_cons.mp h with z|z
   .rw[z];exact gr
   .rw[List.mem_singleton.mp z];exact gs)
  rw[F]at W ⊢;show _=b4 (D.int<|ev [cN (rs.map<|red M) M x<|fwd (rs.map<|red M) k t,cN (rs.map<|red M) M y<|fwd (rs.map<|red M) l u] m.ts%M);have z0:a7 0=cp:=by decide
  have z1:a7 1=cp:=by decide
  refine aM ?_;generalize ev [cN (rs.map<|red M) M x<|fwd (rs.map<|red M) k t,cN (rs.map<|red M) M y<|fwd (rs.map<|red M) l u] m.ts%M=yy at G ⊢;generalize cN (rs.map<|red M) M x (fwd (rs.map<|red M) k t)=gg at U G;generalize cN (rs.map<|red M) M y (fwd (rs.map<|red M) l u)=g2 at d2 G;generalize tupI (fwd (rs.map<|red M) k t)=ff at N U;generalize tupI (fwd (rs.map<|red M) l u)=f2 at d1 d2;generalize bL m=md at W m3 ⊢;generalize bY n (RT<|rs.map<|red M)=mt at N d1 ⊢;simp[-zad,-zae,aA,aB]at G;simp_all[kT,aK,tupI,W,m3,fT,cX,N,U,d1,d2,z0,z1,G]
def zQ{nn:Nat}(q:nn=1\/nn=2){i:Nat}(hi:i<(cH (nn:Int)).length):∃pt,(cH (nn:Int))[i]?=b4 pt/\eA [.int (i:Int),.int (nn:Int)]=b4 (tupI pt):=by
 rcases q with rfl|rfl
 .have z:i<3:=hi
  refine{[(i:Int)%3],?_,aM<|by simp_all[iP,aK,bS,tupI]};have:i=0\/i=1\/i=2:=by lia
  rcases this with rfl|rfl|rfl <;> rfl
 .have B:i<9:=hi
  refine{[(i:Int)/3%3,(i:Int)%3],?_,aM<|by simp_all[iP,aK,bS,gO,tupI]};have:i=0\/i=1\/i=2\/i=3\/i=4\/i=5\/i=6\/i=7\/i=8:=by lia
  rcases this with rfl|rfl|rfl|rfl|rfl|rfl|rfl|rfl|rfl <;> rfl
def nM{M:Int}(z:3<=M){nn:Nat}(B:nn=1\/nn=2){p:List Int}(h:p∈cH (nn:Int)):p.length=nn/\∀v∈p,0<=v/\v<M:=by
 obtain⟨a,b⟩:=W5 (n:=(nn:Int)) (by lia) h;exact{by lia,λv q=>by have:=b v q;lia}
def cL(R:List Ro)(M:Int)(ks:List Int)(m:Mk):D:=.lst<|(cH (ks.length:Int)).map λp=>.int<|sv R M m ks p
def near(R:List Ro)(ms:List Mk)(x:Str)(ks:List Int):List<|Mk×Nat:=ms.zipIdx.filter λp=>decide (p.1.nm=x) && eE R ks p.1.tk
def bQ(h:p∈near R ms x ks):ms[p.2]?=b4 p.1/\p.1∈ms/\p.1.nm=x/\eE R ks p.1.tk=cp:=by
 obtain⟨a,b⟩:=List.mem_filter.mp h;rw[zaM]at b;have:=List.mem_zipIdx' a;have e:ms[p.2]?=b4 p.1:=by rw[this.2];exact zaH _
 exact{e,zaA e,of_decide_eq_true b.1,b.2}
def lU{M:Int}{n:Nat}{rs:List Ro}{ms:List Mk}(B:Bok M n rs ms){ks:List Int}(hk:∀k∈ks,0<=k/\k<(n:Int))(G:ks.length=1\/ks.length=2){L:List (Mk×Nat)}(hL:∀p∈L,ms[p.2]?=b4 p.1/\p.1∈ms/\eE (rs.map<|red M) ks p.1.tk=cp)(ai:L.length<=100):gX [.int M,.lst<|rs.map bD,bY n<|RT<|rs.map<|red M,.lst<|ms.map bL,.lst<|L.map λp=>.int (p.2:Int),tupI ks]=b4 (.lst<|L.map λp=>cL (rs.map<|red M) M ks p.1):=by
 refine aM ?_;unfold lQ;rw[aG<|aJ (d:=.lst [])<|by simp_all];have pl:(cH (ks.length:Int)).length<=9:=by rcases G with h|h <;> rw[h] <;> decide
 have rg:(lR bZ<|aE (bE aN (u3<|aE (eC<|.int 3)<|aE (eC<|.int 9) bB)<|bE BX (aW cE<|aE (aD 5) bB)<|eC<|.int 1) bB)=(lR bZ<|aE (bE aN (u3<|aE (eC<|.int 3)<|aE (eC<|.int 9) bB)<|bE BX (aW cE<|aE (aD 5) bB)<|eC<|.int 1) bB):=rfl;have r0:∀ {a b c d e f g h i:Option D},(lR bZ<|aE (bE aN (u3<|aE (eC<|.int 3)<|aE (eC<|.int 9) bB)<|bE BX (aW cE<|aE (aD 5) bB)<|eC<|.int 1) bB) [a,b,c,d,e,b4<|tupI ks,f,g,h,i]=b4 (aU 0 1 (cH (ks.length:Int)).length):=by
  intro a b c d e f g h i;rcases G with z|z
  .obtain⟨k,rfl⟩:=List.length_eq_one_iff.mp z
   rfl
  .obtain⟨k,l,rfl⟩:=iB z
   rfl
 refine b8 (items:=L.map λp=>.int (p.2:Int)) (by ac_rfl) (λi ρ=>∃(o7 o8 F:Option D),ρ=[b4<|.int M,b4<|.lst<|rs.map bD,b4<|bY n<|RT<|rs.map<|red M,b4<|.lst<|ms.map bL,b4<|.lst<|L.map λp=>.int (p.2:Int),b4<|tupI ks,b4<|.lst<|(L.take i).map λp=>cL (rs.map<|red M) M ks p.1,o7,o8,F]) {cg,cg,cg,by ac_rfl} ?_ ?_
 .rintro i y ρ hy ⟨o7,o8,F,rfl⟩
  rw[zaq]at hy;obtain⟨p,Y,rfl⟩:=map_some hy;have il:=(List.getElem?_eq_some_iff.mp Y).1;obtain⟨p1,p2,p3⟩:=hL p<|zaA Y;have N:d8 (ms.map bL) (p.2:Int)=b4 (bL p.1):=bH (by rw[zaq,p1];rfl);have ht:L.take (i+1)=L.take i++[p]:=by rw[zbl,Y];rfl
  generalize hT:(L.take i).map (λp=>cL (rs.map<|red M) M ks p.1)=T;have tl:T.length<=100:=by rw[<- hT,zaj,zbJ];lia
  obtain⟨ρ',er,J,rfl⟩:=eU (g:=aO 9) (b:=(D6 8<|aW eQ<|aE (aD 0)<|aE (aD 1)<|aE (aD 2)<|aE (bE aN (aD 3)<|aD 7)<|aE (aD 5)<|aE (aW eA<|aE (aD 9)<|aE (aW cE<|aE (aD 5) bB) bB) bB)) (items:=aU 0 1 (cH (ks.length:Int)).length) (ρ:=[b4<|.int M,b4<|.lst<|rs.map bD,b4<|bY n<|RT<|rs.map<|red M,b4<|.lst<|ms.map bL,b4<|.lst<|L.map λp=>.int (p.2:Int),b4<|tupI ks,b4<|.lst T,b4<|.int (p.2:Int),b4<|.lst [],F]) (λj ρ=>∃(F:Option D),ρ=[b4<|.int M,b4<|.lst<|rs.map bD,b4<|bY n<|RT<|rs.map<|red M,b4<|.lst<|ms.map bL,b4<|.lst<|L.map λp=>.int (p.2:Int),b4<|tupI ks,b4<|.lst T,b4<|.int (p.2:Int),b4<|.lst<|((cH (ks.length:Int)).take j).map λq=>.int<|sv (rs.map<|red M) M p.1 ks q,F]) {F,by simp_all} (by
   rintro j z ρ hz ⟨F,rfl⟩;obtain⟨jl,rfl⟩:=bG hz;have hI:(0:Int)+(j:Int)*1=(j:Int):=by lia
   rw[hI];obtain⟨pt,U,W⟩:=zQ G jl;obtain⟨q1,q2⟩:=nM B.h3 G<|zaA U;have es:=kS B p2 hk p3 (vs:=pt) q1 q2;have ht:(cH (ks.length:Int)).take (j+1)=(cH (ks.length:Int)).take j++[pt]:=by rw[zbl,U];rfl
   have hsz:a7 ((cH (ks.length:Int)).take j).length=cp:=decide_eq_true (by rw[zbJ];lia);have lk:cE [tupI ks]=b4 (.int (ks.length:Int)):=by unfold tupI;rw[q_lenT,zaj]
   refine{_,?_,b4<|.int (j:Int),rfl};rw[ht];generalize (cH (ks.length:Int)).take j=pj at hsz;generalize bL p.1=md at N es;generalize tupI ks=tk at es lk;generalize bY n (RT<|rs.map<|red M)=mt at es;generalize tupI pt=tp at W es;simp_all[turn,N,W,es,lk,hsz])
  rw[a9,zbr]at er;refine{[b4<|.int M,b4<|.lst<|rs.map bD,b4<|bY n<|RT<|rs.map<|red M,b4<|.lst<|ms.map bL,b4<|.lst<|L.map λp=>.int (p.2:Int),b4<|tupI ks,b4<|.lst<|T++[cL (rs.map<|red M) M ks p.1],b4<|.int (p.2:Int),b4<|cL (rs.map<|red M) M ks p.1,J],?_,b4<|.int (p.2:Int),b4<|cL (rs.map<|red M) M ks p.1,J,by rw[ht,za5,hT];rfl};show(aO 7 _ _).bind _=_;rw[q_name,aA,aG<|aJ (d:=.lst [])<|by simp_all];have aa:iD (lR bZ<|aE (bE aN (u3<|aE (eC<|.int 3)<|aE (eC<|.int 9) bB)<|bE BX (aW cE<|aE (aD 5) bB)<|eC<|.int 1) bB) (aO 9) (D6 8<|aW eQ<|aE (aD 0)<|aE (aD 1)<|aE (aD 2)<|aE (bE aN (aD 3)<|aD 7)<|aE (aD 5)<|aE (aW eA<|aE (aD 9)<|aE (aW cE<|aE (aD 5) bB) bB) bB) [b4<|.int M,b4<|.lst<|rs.map bD,b4<|bY n<|RT<|rs.map<|red M,b4<|.lst<|ms.map bL,b4<|.lst<|L.map λp=>.int (p.2:Int),b4<|tupI ks,b4<|.lst T,b4<|.int (p.2:Int),b4<|.lst [],F]=b4 (.nx [b4<|.int M,b4<|.lst<|rs.map bD,b4<|bY n<|RT<|rs.map<|red M,b4<|.lst<|ms.map bL,b4<|.lst<|L.map λp=>.int (p.2:Int),b4<|tupI ks,b4<|.lst T,b4<|.int (p.2:Int),b4<|cL (rs.map<|red M) M ks p.1,J]):=by
   rw[q_for,r0,aA];exact er
  have hsz:a7 T.length=cp:=decide_eq_true (by lia);rw[aG<|by exact aa];simp_all[hsz]
 .rintro ρ ⟨o7,o8,F,rfl⟩
  rw[zaj,zbr];simp_all
open Classical in
def yS(R:List Ro)(M:Int)(ks:List Int)(a b:Mk):Bool:=RT R a.gv b.gv && (cH (ks.length:Int)).all λp=>decide (cN R M (sv R M a ks p) (fwd R a.gv b.gv)=sv R M b ks p)
def XQ(h0:0<M):0<=sv R M m ks vs/\sv R M m ks vs<M:={zay _<|zaX h0,zaz _ h0}
theorem mB{q:Type}(f g:q->D):∀l:List q,hZ (l.map f) (l.map g)=l.map λp=>.tup [f p,g p]
 |[]=>rfl
 |x::l=>by
  show D.tup [f x,g x]::hZ (l.map f) (l.map g)=_;rw[mB f g l];rfl
def UG(h:turn g b x ρ=b4 (.rt d)):cX g b (x::xs) ρ=b4 (.rt d):=by
 unfold turn at h;obtain⟨ρ1,q,z⟩:=bind_some h;rw[cX,q,aA,z,aA]
def U2(h:turn g b x ρ=b4 (.nx ρ')):cX g b (x::xs) ρ=cX g b xs ρ':=by
 unfold turn at h;obtain⟨ρ1,q,z⟩:=bind_some h;rw[cX,q,aA,z,aA]
theorem qK{B:Type}{f E:B->D}{P:B->Bool}(I:dC->Prop):∀(xs:List B) {ρ:dC},I ρ->(∀x∈xs,∀ρ,I ρ->P x=cr->∃ρ',turn g b (f x) ρ=b4 (.nx ρ')/\I ρ')->(∀x∈xs,∀ρ,I ρ->P x=cp->turn g b (f x) ρ=b4 (.rt<|E x))->(xs.find? P=cg->∃ρ',cX g b (xs.map f) ρ=b4 (.nx ρ')/\I ρ')/\∀x,xs.find? P=b4 x->cX g b (xs.map f) ρ=b4 (.rt<|E x)
 |[],ρ,h,_,_=>{λ_=>{ρ,rfl,h},λx e=>nomatch e}
 |x::xs,ρ,h,hn,hy=>by
  rw[za0,zak];cases hp:P x with
  |true=>exact{(λz=>nomatch z),λy q=>by cases q;exact UG<|hy x (zaw ..) ρ h hp}
  |false=>
   obtain⟨ρ',e,h'⟩:=hn x (zaw ..) ρ h hp;have ih:=qK I xs h' (λy q=>hn y<|zax _ q) λy q=>hy y<|zax _ q
   rw[U2 e];exact ih
def TB{q:Type}{g:Gv}{b rest:Sv}{f:q->D}{P:q->Bool}(E:Option q->D)(I:dC->Prop)(xs:List q)(B:l ρ=b4 (xs.map f))(h:I ρ)(G:∀x∈xs,∀ρ,I ρ->P x=cr->∃ρ',turn g b (f x) ρ=b4 (.nx ρ')/\I ρ')(J:∀x∈xs,∀ρ,I ρ->P x=cp->turn g b (f x) ρ=b4 (.rt<|E<|b4 x))(F:∀ρ,I ρ->rest ρ=b4 (.rt<|E cg)):bW (iD l g b) rest ρ=b4 (.rt<|E<|xs.find? P):=by
 obtain⟨a,c⟩:=qK (E:=λx=>E<|b4 x) I xs h G J;cases e:xs.find? P with
 |none=>
  obtain⟨ρ',z,h'⟩:=a e;exact aR (lB B z)<|F ρ' h'
 |some x=>exact aR (lB B<|c x e) rfl
theorem wC{z:Type}{p q:z->Bool}:∀ {l:List z},(∀x∈l,p x=q x)->l.find? p=l.find? q
 |[],_=>rfl
 |x::l,h=>by rw[za0,za0,h x<|zaw ..,wC λy B=>h y<|zax _ B]
theorem gL{q:Type}{f:q->Bool}:∀ {l:List q},(l.find? λx=>!f x).isNone=l.all f
 |[]=>rfl
 |x::l=>by
  rw[za0,zch,<- gL];cases f x <;> rfl
def T9{q:Type}{f:q->D}(I:dC->Prop)(xs:List q)(h:I ρ)(B:∀x∈xs,∀ρ,I ρ->∃ρ',turn g b (f x) ρ=b4 (.nx ρ')/\I ρ'):∃ρ',cX g b (xs.map f) ρ=b4 (.nx ρ')/\I ρ':=(qK (P:=λ_=>cr) (E:=λ_=>.non) I xs h (λx F ρ h _=>B x F ρ h) λ_ _ _ _ z=>nomatch z).1<|by simp_all
def xB{q:Type}{g:Gv}{b rest:Sv}{f:q->D}(I:dC->Prop)(xs:List q)(z:l ρ=b4 (xs.map f))(h:I ρ)(F:∀x∈xs,∀ρ,I ρ->∃ρ',turn g b (f x) ρ=b4 (.nx ρ')/\I ρ')(B:∀ρ,I ρ->rest ρ=o):bW (iD l g b) rest ρ=o:=by
 obtain⟨ρ',e,h'⟩:=T9 I xs h F;exact aR (lB z e)<|B ρ' h'
def qy{b rest:Sv}{Q:Option Out->Prop}(q:l ρ=b4 items)(I:Nat->dC->Prop)(h0:I 0 ρ)(step:∀i x ρ,items[i]?=b4 x->I i ρ->∃ρ',turn g b x ρ=b4 (.nx ρ')/\I (i+1) ρ')(fin:∀ρ,I items.length ρ->Q (rest ρ)):Q<|bW (iD l g b) rest ρ:=by
 obtain⟨ρ',e,h⟩:=eU I h0 step;rw[aG<|lB q e];exact fin ρ' h
def Nxt(I:dC->Prop)(o:Option Out):Prop:=∃ρ',o=b4 (.nx ρ')/\I ρ'
def YN(h:g x ρ=b4 ρ1)(k:Nxt I<|b ρ1):Nxt I<|turn g b x ρ:=by rw[cK h rfl];exact k
def qa5{rest:Sv}(h:f ρ=b4 d)(q:Nxt I<|rest<|ρ.set k<|b4 d):Nxt I<|bW (dA k f) rest ρ:=by rw[aG<|aJ h];exact q
def Sp(I:dC->Prop)(p:Bool)(e:D)(o:Option Out):Prop:=∃ρ',I ρ'/\o=if p=cp then b4 (.rt e)else b4<|.nx ρ'
def qaS{q:Type}{b rest:Sv}{f:q->D}{P:q->Bool}(E:Option q->D)(I:dC->Prop)(xs:List q)(G:l ρ=b4 (xs.map f))(h:I ρ)(hs:∀x∈xs,∀ρ,I ρ->Sp I (P x) (E<|b4 x) (turn g b (f x) ρ))(J:∀ρ,I ρ->rest ρ=b4 (.rt<|E cg)):bW (iD l g b) rest ρ=b4 (.rt<|E<|xs.find? P):=
 TB E I xs G h (λx z ρ i B=>by obtain⟨ρ',F,e⟩:=hs x z ρ i;rw[B]at e;exact{ρ',e,F}) (λx z ρ i B=>by obtain⟨ρ',F,e⟩:=hs x z ρ i;rw[B]at e;exact e) J
def DR{q:Type}{f g:q->D}{l:List q}(B:cS x=b4 (l.map f))(F:cS y=b4 (l.map g))(hi:ρ[i]?=b4 (b4 x))(z:ρ[j]?=b4 (b4 y)):XO (aE (aD i)<|aE (aD j) bB) ρ=b4 (l.map λp=>.tup [f p,g p]):=by
 rw[q_zip,q_lcons,cA hi,aA,q_lcons,cA z,aA,q_lnil,aA,aA,aA];show(cS x).bind _=_;rw[B,aA,F,aB,mB]
def lW{M:Int}{n:Nat}{rs:List Ro}(B:Bok M n rs ms){ks:List Int}{a b:Mk}(ha:a∈ms)(hb:b∈ms):gW [.int M,.lst<|rs.map bD,bY n<|RT<|rs.map<|red M,.tup [bL a,bL b],cL (rs.map<|red M) M ks a,cL (rs.map<|red M) M ks b]=b4 (.bl<|yS (rs.map<|red M) M ks a b):=by
 have h0:0<M:=by have:=B.h3;lia
 have J:=(B.mo a ha).gv;have F:=(B.mo b hb).gv;have m1:=xX (K:=n) (P:=RT<|rs.map<|red M) (k:=a.gv) J.1 J.2;have N:=t5 (K:=n) (p:=RT (rs.map<|red M) a.gv) F.1 F.2;have a2:=JF (m:=a);have b2:=JF (m:=b);have Y:=λq=>mP B.g B.hn.2 J.1 F q
 have W:=λ(x:Int) (hx:0<=x/\x<M) (q:Rch (rs.map (red M)) a.gv b.gv)=>d9 h0 B.h60 B.rb (IsF.at_ (Y q).2) hx
 have sa:cS (cL (rs.map<|red M) M ks a)=b4 ((cH (ks.length:Int)).map λp=>D.int<|sv (rs.map<|red M) M a ks p):=rfl;have sb:cS (cL (rs.map<|red M) M ks b)=b4 ((cH (ks.length:Int)).map λp=>D.int<|sv (rs.map<|red M) M b ks p):=rfl;have z:=λp=>XQ (R:=rs.map<|red M) (m:=a) (ks:=ks) (vs:=p) h0
 unfold yS;generalize rs.map (red M)=R at *;generalize cL R M ks a=ra at *;generalize cL R M ks b=rb at *;generalize bY n (RT R)=mt at *;generalize c7 n (RT R a.gv)=rw_ at *;generalize D.lst (rs.map bD)=rl at *;generalize bL a=da at *;generalize bL b=db at *;refine aM ?_;unfold lN;cases hrt:RT R a.gv b.gv with
 |true=>
  have q:=i6.mp hrt;have e1:=(Y q).1;rw[hrt]at N;rw[aG (ρ':=[b4<|.int M,b4 rl,b4 mt,b4<|.tup [da,db],b4 ra,b4 rb,cg,cg,cg])<|by ac_rfl,aG<|aJ (d:=tupI<|fwd R a.gv b.gv)<|by ac_rfl,Bool.true_and];refine(TB (λo=>.bl o.isNone) (P:=λp=>!decide (cN R M (sv R M a ks p) (fwd R a.gv b.gv)=sv R M b ks p)) (λρ=>∃o7 o8,ρ=[b4<|.int M,b4 rl,b4 mt,b4<|.tup [da,db],b4 ra,b4 rb,b4<|tupI<|fwd R a.gv b.gv,o7,o8]) (cH (ks.length:Int)) (DR sa sb rfl rfl) {cg,cg,rfl} ?_ ?_ ?_).trans<|by rw[gL]
  .rintro p _ _ ⟨o7,o8,rfl⟩ G
   have U:=W _ (z p) q;rw[show cN R M (sv R M a ks p) (fwd R a.gv b.gv)=sv R M b ks p by simpa using G]at U;generalize tupI (fwd R a.gv b.gv)=ff at *;exact{_,cK rfl<|s_iff (dE<|cF (by ac_rfl) (cA rfl)<|by simp_all) rfl,_,_,rfl}
  .rintro p _ _ ⟨o7,o8,rfl⟩ G
   have U:=W _ (z p) q;have c:¬ cN R M (sv R M a ks p) (fwd R a.gv b.gv)=sv R M b ks p:=by simpa using G
   generalize cN R M (sv R M a ks p) (fwd R a.gv b.gv)=s3 at *;generalize tupI (fwd R a.gv b.gv)=ff at *;exact cK rfl<|s_ift (dE<|cF (by ac_rfl) (cA rfl)<|by simp_all[c]) rfl
  .rintro _ ⟨o7,o8,rfl⟩
   rfl
 |false=>
  rw[hrt]at N;exact aR (p:=.rt<|.bl cr) (s_ift (c6 (c:=cr)<|by ac_rfl) rfl) rfl
def best(R:List Ro)(M:Int)(ks:List Int)(L:List<|Mk×Nat):Option<|Mk×Nat:=L.find? λp=>L.all λq=>yS R M ks p.1 q.1
def i8:Option (Mk×Nat)->D
 |some p=>.int (p.2:Int)
 |none=>.non
def nC(B:Bok M n rs ms)(hL:∀p∈L,ms[p.2]?=b4 p.1/\p.1∈ms):gE [.int M,.lst<|rs.map bD,bY n<|RT<|rs.map<|red M,.lst<|ms.map bL,.lst<|L.map λp=>.int (p.2:Int),.lst<|L.map λp=>cL (rs.map<|red M) M ks p.1]=b4 (i8<|best (rs.map<|red M) M ks L):=by
 have U:∀p∈L,d8 (ms.map bL) (p.2:Int)=b4 (bL p.1):=λp N=>bH<|by rw[zaq,(hL p N).1];rfl
 have cv:=λp (N:p∈L) q (Y:q∈L)=>lW B (ks:=ks) (hL p N).2 (hL q Y).2
 unfold best;generalize rs.map (red M)=R at *;generalize bY n (RT R)=mt at *;generalize D.lst (rs.map bD)=rl at *;refine aM<|qaS i8 (λρ=>∃o6 o7 o8 o9 J F,ρ=[b4<|.int M,b4 rl,b4 mt,b4<|.lst<|ms.map bL,b4<|.lst<|L.map λp=>.int (p.2:Int),b4<|.lst<|L.map λp=>cL R M ks p.1,o6,o7,o8,o9,J,F]) L (DR (x:=.lst<|L.map λp=>.int (p.2:Int)) (y:=.lst<|L.map λp=>cL R M ks p.1) rfl rfl rfl rfl) {_,_,_,_,_,_,rfl} ?_ ?_
 .rintro p N _ ⟨o6,o7,o8,o9,J,F,rfl⟩
  refine Eq.mpr (congrArg (Sp _ _ _)<|cK rfl<|(aG<|aJ (d:=.bl cp) rfl).trans rfl) ?_;refine qy (DR (x:=.lst<|L.map λp=>.int (p.2:Int)) (y:=.lst<|L.map λp=>cL R M ks p.1) rfl rfl rfl rfl) (λi ρ=>∃q9 G z,ρ=[b4<|.int M,b4 rl,b4 mt,b4<|.lst<|ms.map bL,b4<|.lst<|L.map λp=>.int (p.2:Int),b4<|.lst<|L.map λp=>cL R M ks p.1,b4<|.int (p.2:Int),b4<|cL R M ks p.1,b4<|.bl<|(L.take i).all λq=>yS R M ks p.1 q.1,q9,G,z]) {_,_,_,rfl} ?_ ?_
  .rintro i x _ hx ⟨q9,G,z,rfl⟩
   rw[zaq]at hx;obtain⟨q,Y,rfl⟩:=map_some hx;have W:=zaA Y;have c1:=cv p N q W;have a1:=U p N;have a2:=U q W;refine{_,?_,b4<|.int (q.2:Int),b4<|cL R M ks q.1,b4<|.tup [bL p.1,bL q.1],rfl};rw[zbl,Y,Option.toList_some,List.all_append,zch,List.all_nil,zd0];generalize (L.take i).all (λq=>yS R M ks p.1 q.1)=b0;generalize yS R M ks p.1 q.1=b1 at *;generalize cL R M ks p.1=rp at *;generalize cL R M ks q.1=rq at *;generalize bL p.1=dp at *;generalize bL q.1=dq at *;cases b0 <;> cases b1 <;> simp_all[turn,a1,a2,c1]
  .rintro _ ⟨q9,G,z,rfl⟩
   rw[zaj,zbr];cases L.all λq=>yS R M ks p.1 q.1
   .exact{_,{_,_,_,_,_,_,rfl},rfl}
   .exact{_,{cg,cg,cg,cg,cg,cg,rfl},rfl}
 .rintro _ ⟨o6,o7,o8,o9,J,F,rfl⟩
  rfl
def oW{q:Type}{l:List q}{x:q}(h:l[i]?=b4 x):(l.take<|i+1).zipIdx=(l.take i).zipIdx++[(x,i)]:=by
 have hi:=(List.getElem?_eq_some_iff.mp h).1;rw[zbl,h];show(l.take i++[x]).zipIdx=_;rw[List.zipIdx_append,zbJ];have:min i l.length=i:=by lia
 rw[this];simp_all
def jZ{M:Int}{rs:List Ro}(B:Bok M n rs ms)(hk:∀k∈ks,0<=k/\k<(n:Int)):fU [bY n<|RT<|rs.map<|red M,.lst<|ms.map bL,.str x,tupI ks]=b4 (.lst<|(near (rs.map<|red M) ms x ks).map λp=>.int (p.2:Int)):=by
 have ml:=B.ml;have U:=λ(k:Int) h0 h1=>xX (K:=n) (P:=RT<|rs.map<|red M) (k:=k) h0 h1
 have N:=λ(k l:Int) h0 h1=>t5 (K:=n) (p:=RT (rs.map<|red M) k) (k:=l) h0 h1
 unfold near;generalize rs.map (red M)=R at *;generalize bY n (RT R)=mt at *;refine aM ?_;unfold jY;rw[aG<|aJ (d:=.lst [])<|by simp_all];refine b8 (items:=aU 0 1 ms.length) (by simp_all[aK,jK (n:=ms.length)<|by lia]) (λi ρ=>∃(o5 o6 o7 o8:Option D),ρ=[b4 mt,b4<|.lst<|ms.map bL,b4<|.str x,b4<|tupI ks,b4<|.lst<|((ms.take i).zipIdx.filter λp=>decide (p.1.nm=x) && eE R ks p.1.tk).map λp=>.int (p.2:Int),o5,o6,o7,o8]) {cg,cg,cg,cg,by ac_rfl} ?_ ?_
 .rintro i y ρ hy ⟨o5,o6,o7,o8,rfl⟩
  obtain⟨J,rfl⟩:=bG hy;rw[show(0:Int)+(i:Int)*1=(i:Int) by lia];have hm:ms[i]?=b4 ms[i]:=zaH J;have G:ms[i]∈ms:=zdw J;generalize ms[i]=m at hm G;have q:d8 (ms.map bL) (i:Int)=b4 (bL m):=bH (by rw[zaq,hm];rfl);rw[oW hm,List.filter_append,za5];generalize hT:((ms.take i).zipIdx.filter λp=>decide (p.1.nm=x) && eE R ks p.1.tk).map (λp=>D.int (p.2:Int))=T;have hsz:a7 T.length=cp:=decide_eq_true (by
   rw[<- hT,zaj];have:=zfg (λp:Mk×Nat=>decide (p.1.nm=x) && eE R ks p.1.tk) (ms.take i).zipIdx;rw[zfh,zbJ]at this
   lia)
  have m0:=qb (m:=m);have W:=X3 (m:=m);have lt:∀l:List Int,cE [tupI l]=b4 (.int (l.length:Int)):=λl=>by unfold tupI;rw[q_lenT,zaj]
  have zb:=tL (P:=λk=>0<=k/\k<(n:Int)) (Q:=λk=>0<=k/\k<(n:Int)) hk (B.mo m G).tb;have fb:(decide (m.nm=x) && decide (ks.length=m.tk.length) && (iC ks m.tk).all λp=>RT R p.1 p.2)=(decide (m.nm=x) && eE R ks m.tk):=by unfold eE;rw[Bool.and_assoc]
  refine YN rfl<|qa5 (d:=.bl<|decide (m.nm=x) && decide (ks.length=m.tk.length)) ?_<|qy (Q:=Nxt _) (items:=(iC ks m.tk).map λp=>D.tup [.int p.1,.int p.2]) ?_ (λj ρ=>∃(o7 o8:Option D),ρ=[b4 mt,b4<|.lst<|ms.map bL,b4<|.str x,b4<|tupI ks,b4<|.lst T,b4<|.int (i:Int),b4<|.bl<|decide (m.nm=x) && decide (ks.length=m.tk.length) && ((iC ks m.tk).take j).all λp=>RT R p.1 p.2,o7,o8]) {o7,o8,by simp_all} ?_ ?_
  .by_cases Y:m.nm=x
   .by_cases c2:ks.length=m.tk.length
    .have F:(m.tk.length:Int)=(ks.length:Int):=by lia
     simp_all[q,m0,W,lt,Y,c2,F]
    .have F:¬ (m.tk.length:Int)=(ks.length:Int):=by lia
     simp_all[q,m0,W,lt,Y,c2,F]
   .simp_all[q,m0,Y]
  .rw[<- nK]
   simp_all[q,W,tupI]
  .rintro j z ρ hz ⟨o7,o8,rfl⟩
   rw[zaq]at hz;obtain⟨p,hp,rfl⟩:=map_some hz;obtain⟨pa,pb⟩:=zb p<|zaA hp;have U:=U p.1 pa.1 pa.2;have N:=N p.1 p.2 pb.1 pb.2;refine{_,?_,b4<|.int p.1,b4<|.int p.2,rfl};rw[zbl,hp,Option.toList_some,List.all_append,zch,List.all_nil,zd0];generalize c7 n (RT R p.1)=rw_ at U N;generalize (decide (m.nm=x) && decide (ks.length=m.tk.length))=g0;generalize ((iC ks m.tk).take j).all (λp=>RT R p.1 p.2)=b0;cases g0 <;> cases b0 <;> simp_all[turn,U,N]
  .rintro _ ⟨o7,o8,rfl⟩
   rw[zaj,zbr,fb,zdW];cases(decide (m.nm=x) && eE R ks m.tk)with
   |true=>exact{_,by simp_all[hsz],b4<|.int (i:Int),b4<|.bl cp,o7,o8,rfl}
   |false=>exact{_,by simp_all,b4<|.int (i:Int),b4<|.bl cr,o7,o8,rfl}
 .rintro ρ ⟨o5,o6,o7,o8,rfl⟩
  rw[a9,zbr]
  ac_rfl
def xH(h0:0<M)(q:M<10^60)(z:0<=v/\v<M)(J:0<=e/\e<=1000):xO [.int M,.int v,.int e]=b4 (.int<|nX M v e.toNat):=by
 refine aM ?_;unfold F6;rw[aG<|aJ (d:=.int 1)<|by simp_all];have U:=eP J.1 (show e<=1000000 by lia);refine b8 (items:=aU 0 1 e.toNat) (by ac_rfl) (λi ρ=>∃o,ρ=[b4<|.int M,b4<|.int v,b4<|.int e,b4<|.int<|nX M v i,o]) {cg,by ac_rfl} ?_ ?_
 .rintro i x ρ W ⟨o,rfl⟩
  refine{[b4<|.int M,b4<|.int v,b4<|.int e,b4<|.int<|nX M v<|i+1,b4 x],?_,_,rfl};have G:=M5 (v:=v) h0 q i;have N:=Ten
  have F:Bd 60<|nX M v i:={by lia,G.2};have B:=F.mulH (Bd.of q {z.1,zbX z.2}) (by decide) (by decide);simp_all[turn,B,D4 h0,nX]
 .rintro ρ' ⟨o,rfl⟩
  simp_all[a9]
def sH(h0:0<M)(z:M<10^60)(f:Fo M d F)(lw:EB d)(hl:vs.length=d.length)(hv:∀v∈vs,0<=v/\v<M):g8 [.int M,fD F,tupI vs]=b4 (.int<|ev vs F%M):=by
 have e0:sumF M vs F%M=ev vs F%M:=dU<|FZ hl f.k.bx;rw[<- e0];refine aM ?_;unfold qU fD;rw[aG<|aJ (d:=.int 0)<|by simp_all];refine b8 (items:=F.map bP) (by ac_rfl) (λi ρ=>∃o4 o5 o6 o7 o8,ρ=[b4<|.int M,b4<|.tup<|F.map bP,b4<|tupI vs,b4<|.int<|sumF M vs<|F.take i,o4,o5,o6,o7,o8]) {cg,cg,cg,cg,cg,by ac_rfl} ?_ ?_
 .rintro i x ρ hx ⟨o4,o5,o6,o7,o8,rfl⟩
  rw[zaq]at hx;obtain⟨q,N,rfl⟩:=map_some hx;have J:=zaA N;have bq:=f.k.bx q J;have cq:=f.cb q J;have es:sumF M vs (F.take<|i+1)=sumF M vs (F.take i)+prodF M vs q:=by rw[zbl,N];exact HZ _ _ _ _
  have Y:∀(v:Int) (k:Nat),Bd 60<|nX M v k:=λv k=>by
   have:=M5 (v:=v) h0 z k;have aq:=Ten
   exact{by lia,this.2}
  have B:∀o7 o8,∃p7 p8,cX (c9 2<|bA (aO 7)<|bA (aO 8) dP) (dA 6<|bE b5 (aD 6)<|aW xO<|aE (aD 0)<|aE (aD 8)<|aE (aD 7) bB) (hZ (q.1.map .int)<|vs.map .int) [b4<|.int M,b4<|.tup<|F.map bP,b4<|tupI vs,b4<|.int<|sumF M vs<|F.take i,b4<|tupI q.1,b4<|.int q.2,b4<|.int q.2,o7,o8]=b4 (.nx [b4<|.int M,b4<|.tup<|F.map bP,b4<|tupI vs,b4<|.int<|sumF M vs<|F.take i,b4<|tupI q.1,b4<|.int q.2,b4<|.int<|prodF M vs q,p7,p8]):=by
   intro o7 o8;obtain⟨k,c⟩:=q;have bc:=Bd.of z<|show 0<=c/\c<=M from{cq.1,zbX cq.2};generalize sumF M vs (F.take i)=S;generalize D.tup (F.map bP)=FT;rcases bq.shape with⟨a,x,rfl,U,h⟩|⟨a,b,x,y,rfl,U,h⟩
   .dsimp only at U
    subst U;have lx:a<=6:=lw;obtain⟨v,rfl⟩:=List.length_eq_one_iff.mp hl;have G:=hv v (by simp_all);have m1:=bc.mulH (Y v x.toNat) (by decide) (by decide);exact{b4<|.int x,b4<|.int v,by simp_all[hZ,cX,xH h0 z G<|show 0<=x/\x<=1000 by lia,m1,prodF]}
   .dsimp only at U
    subst U;have lx:a<=6/\b<=6:=lw;obtain⟨v,v2,rfl⟩:=iB hl;have G:=hv v (by simp_all);have af:=hv v2 (by simp_all);have m1:=bc.mulH (Y v x.toNat) (by decide) (by decide);have m2:=(bc.mul<|Y v x.toNat).mulH (Y v2 y.toNat) (by decide) (by decide);exact{b4<|.int y,b4<|.int v2,by simp_all[hZ,cX,xH h0 z G<|show 0<=x/\x<=1000 by lia,xH h0 z af<|show 0<=y/\y<=1000 by lia,m1,m2,prodF]}
  obtain⟨p7,p8,W⟩:=B o7 o8;refine{[b4<|.int M,b4<|.tup<|F.map bP,b4<|tupI vs,b4<|.int<|sumF M vs<|F.take<|i+1,b4<|tupI q.1,b4<|.int q.2,b4<|.int<|prodF M vs q,p7,p8],?_,_,_,_,_,_,rfl};simp only[tupI]at W;simp_all[turn,bP,tupI,W,es]
 .rintro ρ' ⟨o4,o5,o6,o7,o8,rfl⟩
  simp_all[D4 h0]
def L0(B:n=1\/n=2):AR [.int n]=b4 (.lst<|(cH n).map tupI):=by
 refine aM ?_;have z:bZ [.int 3]=b4 [.int 0,.int 1,.int 2]:=rfl;have q:bZ [.int 9]=b4 [.int 0,.int 1,.int 2,.int 3,.int 4,.int 5,.int 6,.int 7,.int 8]:=rfl;rcases B with rfl|rfl
 .simp_all[sT,aK,z,pR,bV,cH,XZ,tupI,show a7 3=cp from rfl]
 .simp_all[sT,aK,q,pR,bV,cH,XR,tupI,show a7 9=cp from rfl,bS,gO]
def pD:Option (List Int)->D
 |none=>.non
 |some p=>tupI p
def HQ(W:3<=M)(q:M<10^60){nn:Nat}(hn:nn=1\/nn=2)(f:Fo M d F)(g:Fo M e G)(Y:EB d)(lg:EB e)(ld:d.length=nn)(le:e.length=nn):vX [.int M,.int (nn:Int),fD F,fD G]=b4 (pD<|(cH (nn:Int)).find? λp=>!decide (ev p F%M=ev p G%M)):=by
 have h0:0<M:=by lia
 have vp:=L0 (n:=(nn:Int)) (by lia);have B:∀p∈cH (nn:Int),g8 [.int M,fD F,tupI p]=b4 (.int<|ev p F%M)/\g8 [.int M,fD G,tupI p]=b4 (.int<|ev p G%M):=λp z=>by
  obtain⟨a,b⟩:=nM W hn z;exact{sH h0 q f Y (by lia) b,sH h0 q g lg (by lia) b}
 generalize fD F=DF at B ⊢;generalize fD G=DG at B ⊢;refine aM<|TB pD (λρ=>∃o,ρ=[b4<|.int M,b4<|.int (nn:Int),b4 DF,b4 DG,o]) (cH (nn:Int)) (f:=tupI) ?_ {cg,rfl} ?_ ?_ ?_
 .exact t7<|cW (cG rfl rfl) vp
 .rintro p z _ ⟨o,rfl⟩ U
  obtain⟨J,N⟩:=B p z;have c:ev p F%M=ev p G%M:=by simpa using U
  rw[c]at J;generalize tupI p=tp at J N;exact{[b4<|.int M,b4<|.int (nn:Int),b4 DF,b4 DG,b4 tp],by ac_rfl,_,rfl}
 .rintro p z _ ⟨o,rfl⟩ U
  obtain⟨J,N⟩:=B p z;have c:¬ ev p F%M=ev p G%M:=by simpa using U
  show turn _ _ _ _=b4 (.rt<|tupI p);generalize tupI p=tp at J N
  ac_rfl
 .rintro _ ⟨o,rfl⟩
  rfl
def SF(R:List Ro)(M:Int)(ks:List Int)(m:Mk)(H:List My.Tm):Prop:=∃dd:List Int,Fo M dd H/\EB dd/\Bx dd (zN (ks.length:Int))/\dd.length=ks.length/\∀vs:List Int,vs.length=ks.length->ev vs H%M=sv R M m ks vs
def cZ(F:Nat->List My.Tm)(L:List<|Mk×Nat):List<|Key×D:=L.map λp=>(zan (p.2:Int),fD<|F p.2)
def C6{l:List (Key×D)}(h:∀p∈l,p.1≠k):putD l k d=l++[(k,d)]:=by
 unfold putD;rw[cx];intro z;obtain⟨p,q,e⟩:=List.any_eq_true.mp z;exact h p q<|of_decide_eq_true e
def w6{M c:Int}(B:Bok M n rs ms)(hk:∀k∈ks,0<=k/\k<(n:Int))(ar:ks.length<=2):∃F:Nat->List My.Tm,eI [gB M c n rs ms,.str x,tupI ks]=b4 (.dK<|cZ F<|near (rs.map<|red M) ms x ks)/\∀p∈near (rs.map<|red M) ms x ks,SF (rs.map<|red M) M ks p.1<|F p.2:=by
 have ex:∀i:Nat,∃H:List My.Tm,∀m,ms[i]?=b4 m->eE (rs.map<|red M) ks m.tk=cp->fN [gB M c n rs ms,.int (i:Int),tupI ks]=b4 (fD H)/\SF (rs.map<|red M) M ks m H:=λi=>by
  cases G:ms[i]? with
  |none=>exact{[],λm h=>by cases h}
  |some m=>
   by_cases hf:eE (rs.map<|red M) ks m.tk=cp
   .have hi:d8 (ms.map<|gA M) (i:Int)=b4 (gA M m):=bH (by rw[zaq,G];rfl)
    obtain⟨H,dd,e,a⟩:=zF (c:=c) B (zaA G) hi hk hf;exact{H,λm' h _=>by cases h;exact{e,dd,a}}
   .exact{[],λm' h h2=>by cases h;exact absurd h2 hf}
 obtain⟨F,Fs⟩:∃F:Nat->List My.Tm,∀(i:Nat) (m:Mk),ms[i]?=b4 m->eE (rs.map<|red M) ks m.tk=cp->fN [gB M c n rs ms,.int (i:Int),tupI ks]=b4 (fD<|F i)/\SF (rs.map<|red M) M ks m (F i):={λi=>(ex i).choose,λi=>(ex i).choose_spec};clear ex;refine{F,?_,λp J=>?_}
 .have ml:=B.ml
  refine aM ?_;have h3:aN (gB M c n rs ms) (.int 3)=b4 (.tup<|ms.map<|gA M):=N0;have vf:=λ(i:Int) (m:Mk) G ht=>WW (c:=c) (ms:=ms) (i:=i) (m:=m) (ks:=ks) B.hn.2 B.g G hk (by lia) ht
  generalize gB M c n rs ms=bk at Fs h3 vf ⊢;unfold lV;rw[aG<|aJ (d:=.dK [])<|by simp_all];refine b8 (items:=eX 0<|ms.map<|gA M) (by ac_rfl) (λi ρ=>∃(N o5:Option D),ρ=[b4 bk,b4<|.str x,b4<|tupI ks,b4<|.dK<|cZ F<|(ms.take i).zipIdx.filter λp=>decide (p.1.nm=x) && eE (rs.map<|red M) ks p.1.tk,N,o5]) {cg,cg,by ac_rfl} ?_ ?_
  .rintro i y ρ hy ⟨N,o5,rfl⟩
   obtain⟨z,hz,rfl⟩:=gK hy;rw[zaq]at hz;obtain⟨m,G,rfl⟩:=map_some hz;have W:=zaA G;have ok:=B.mo m W;have hI:((0+i:Nat):Int)=(i:Int):=by lia
   rw[hI];have hi:d8 (ms.map<|gA M) (i:Int)=b4 (gA M m):=bH (by rw[zaq,G];rfl);have U:=vf (i:Int) m hi ok.tb;have b0:=qac (M:=M) (m:=m);have il:=(List.getElem?_eq_some_iff.mp G).1;rw[oW G,List.filter_append];generalize hT:((ms.take i).zipIdx.filter λp=>decide (p.1.nm=x) && eE (rs.map<|red M) ks p.1.tk)=T;have tm:∀p∈T,p.2<i:=λp J=>by
    rw[<- hT]at J;have:=(List.mem_zipIdx' (List.mem_filter.mp J).1).1;rw[zbJ]at this
    lia
   have tl:T.length<=100:=by
    rw[<- hT];have:=zfg (λp:Mk×Nat=>decide (p.1.nm=x) && eE (rs.map<|red M) ks p.1.tk) (ms.take i).zipIdx;rw[zfh,zbJ]at this
    lia
   generalize gA M m=bm at b0 ⊢;by_cases c1:m.nm=x
   .by_cases Y:eE (rs.map<|red M) ks m.tk=cp
    .obtain⟨e1,_⟩:=Fs i m G Y
     rw[Y]at U;have pt:uK (.dK<|cZ F T) (.int (i:Int)) (fD<|F i)=b4 (.dK<|cZ F<|T++[(m,i)]):=by
      have pf:=C6 (l:=cZ F T) (k:=zan (i:Int)) (d:=fD<|F i) (λp J z=>by
       obtain⟨q,hq,rfl⟩:=List.mem_map.mp J;have:=tm q hq;have z:(zan (q.2:Int):Key)=zan (i:Int):=z;injection z with z
       lia)
      have zz:a7 (cZ F T).length=cp:=decide_eq_true (by unfold cZ;rw[zaj];lia);show(if a7 (cZ F T).length=cp then b4 (D.dK<|putD (cZ F T) (zan (i:Int))<|fD<|F i)else cg)=_;rw[cw zz,pf];unfold cZ;rw[za5];rfl
     rw[List.filter_cons_of_pos<|by ac_rfl,zfi];generalize cZ F (T++[(m,i)])=s2 at pt;generalize fD (F i)=ff at pt e1;exact{_,by simp_all[turn,b0,c1,U,e1,pt],b4<|.int (i:Int),b4 bm,rfl}
    .have ab:eE (rs.map<|red M) ks m.tk=cr:=by rw[zc2];exact Y
     rw[ab]at U;rw[zfd<|by ac_rfl,zfi,zcs];exact{_,by ac_rfl,b4<|.int (i:Int),b4 bm,rfl}
   .rw[zfd<|by ac_rfl,zfi,zcs]
    exact{_,by ac_rfl,b4<|.int (i:Int),b4 bm,rfl}
  .rintro ρ ⟨N,o5,rfl⟩
   rw[jJ,zaj,zbr]
   ac_rfl
 .obtain⟨a,_,_,b⟩:=bQ J
  exact(Fs p.2 p.1 a b).2
def E2(h:p∈L):aN (.dK<|cZ F L) (.int (p.2:Int))=b4 (fD<|F p.2):=by
 show((cJ (.dK<|cZ F L)<|.int (p.2:Int)).join)=_;show(b4<|b6 (cZ F L)<|zan (p.2:Int)).join=_;show b6 (cZ F L) (zan (p.2:Int))=_;induction L with
 |nil=>exact nomatch h
 |cons q L ih=>
  unfold b6 cZ at ih ⊢;rw[zak,za0];by_cases e:q.2=p.2
  .simp_all[e]
  .have B:¬ (zan (q.2:Int):Key)=zan (p.2:Int):=λz=>by
    injection z with z
    lia
   have G:p∈L:=by
    rcases List.mem_cons.mp h with z|z
    .exact absurd (by rw[z]) e
    .exact z
   rw[decide_eq_false B];exact ih G
def shf(R:List Ro)(M:Int)(ks:List Int)(a b:Mk):D:=if RT R a.gv b.gv=cp then pD ((cH (ks.length:Int)).find? λp=>!decide (cN R M (sv R M a ks p) (fwd R a.gv b.gv)=sv R M b ks p))else .tup []
def FH:dJ (shf R M ks a b)=yS R M ks a b:=by
 unfold shf yS;cases RT R a.gv b.gv with
 |false=>rfl
 |true=>
  rw[cw rfl,Bool.true_and,<- gL];cases(cH (ks.length:Int)).find? _ <;> rfl
def nD(B:Bok M n rs ms)(ac:ks.length=1\/ks.length=2)(hL:∀p∈L,ms[p.2]?=b4 p.1/\p.1∈ms/\p.1.tk.length=ks.length/\SF (rs.map<|red M) M ks p.1 (F p.2))(hp:p∈L)(hq:q∈L):gF [gB M c n rs ms,.int (p.2:Int),.int (q.2:Int),.dK<|cZ F L]=b4 (shf (rs.map<|red M) M ks p.1 q.1):=by
 have h0:0<M:=by have:=B.h3;lia
 obtain⟨p1,p2,p3,pd,pf,ab,pz,pl,pe⟩:=hL p hp;obtain⟨q1,q2,q3,qd,qf,aj,qz,ql,qe⟩:=hL q hq;have ga:=(B.mo p.1 p2).gv;have gb:=(B.mo q.1 q2).gv;have h3:aN (gB M c n rs ms) (.int 3)=b4 (.tup<|ms.map<|gA M):=N0;have hB:aN (gB M c n rs ms) (.int 2)=b4 (.tup<|(rs.map<|red M).map bD):=XX;have W:aN (gB M c n rs ms) (.int 0)=b4 (.int M):=qh;have g:=B.g;have sp:=E2 (F:=F) hp;have sq:=E2 (F:=F) hq;have ip:d8 (ms.map<|gA M) (p.2:Int)=b4 (gA M p.1):=bH (by rw[zaq,p1];rfl);have iq:d8 (ms.map<|gA M) (q.2:Int)=b4 (gA M q.1):=bH (by rw[zaq,q1];rfl);generalize gB M c n rs ms=bk at h3 hB W ⊢;have vw:=F5 hB g B.hn.2 ga gb;have N:=XT (M:=M) (m:=p.1);have Y:=qr (M:=M) (m:=p.1);have U:=qr (M:=M) (m:=q.1);generalize gA M p.1=bmp at ip N Y;generalize gA M q.1=bmq at iq U;unfold shf;generalize rs.map (red M)=R at g hB vw pe qe ⊢;by_cases hr:Rch R p.1.gv q.1.gv
 .obtain⟨e1,f1⟩:=vw.1 hr
  have e2:=vU W hB B.h3 B.h60 g<|IsF.at_ f1;have ag:((ks.length:Nat):Int)=1\/((ks.length:Nat):Int)=2:=by lia
  obtain⟨H,eh,fh,vh⟩:=fV (a:=(iA R M (1,0)<|fwd R p.1.gv q.1.gv).1) (b:=(iA R M (1,0)<|fwd R p.1.gv q.1.gv).2) h0 B.h60 ag (by lia) pz ab pf;have er:=HQ B.h3 B.h60 ac fh qf ab aj pl ql;have rt:RT R p.1.gv q.1.gv=cp:=i6.mpr hr;rw[cw rt];have ef:((cH (ks.length:Int)).find? λp=>!decide (ev p H%M=ev p (F q.2)%M))=(cH (ks.length:Int)).find? λpt=>!decide (cN R M (sv R M p.1 ks pt) (fwd R p.1.gv q.1.gv)=sv R M q.1 ks pt):=by
   refine wC λpt am=>?_
   have lp:pt.length=ks.length:=(nM B.h3 ac am).1;rw[qe pt lp];have x1:=vh pt (by lia);have ep:=pe pt lp;have J:=XQ (R:=R) (m:=p.1) (ks:=ks) (vs:=pt) h0;have aa:M∣ev pt (F p.2)-sv R M p.1 ks pt:=Z7 (by rw[ep,Int.emod_eq_of_lt J.1 J.2]);generalize sv R M p.1 ks pt=s1 at J aa;obtain⟨_,_,d⟩:=S1 (R:=R) B.h3 (fwd R p.1.gv q.1.gv) s1;have gr:=dW (rs:=R) h0 (fwd R p.1.gv q.1.gv) s1 J;generalize iA R M (1,0) (fwd R p.1.gv q.1.gv)=t at x1 d;have x2:=a8 (aQ M t.1) aa;have e:ev pt H%M=cN R M s1 (fwd R p.1.gv q.1.gv):=by
    rw[<- Int.emod_eq_of_lt gr.1 gr.2];refine dU ?_;have:ev pt H-cN R M s1 (fwd R p.1.gv q.1.gv)=(ev pt H-(t.1*ev pt (F p.2)+t.2))+(t.1*ev pt (F p.2)-t.1*s1)+(t.1*s1+t.2-cN R M s1 (fwd R p.1.gv q.1.gv)):=by lia
    rw[this];exact zaR (zaR x1 x2) d
   rw[e]
  rw[ef]at er
  .refine aM ?_
   have G:bF [.int M,.int (ks.length:Int),B3<|iA R M (1,0)<|fwd R p.1.gv q.1.gv,fD<|F p.2]=b4 (fD H):=eh;have lt:cE [tupI p.1.tk]=b4 (.int (ks.length:Int)):=by unfold tupI;rw[q_lenT,zaj,p3]
   have nn:dJ (tupI<|fwd R p.1.gv q.1.gv)=cr:=rfl;generalize B3 (iA R M (1,0)<|fwd R p.1.gv q.1.gv)=tt at e2 G;generalize tupI (fwd R p.1.gv q.1.gv)=ff at e1 e2 nn;generalize tupI p.1.tk=tp at N lt;generalize fD (F p.2)=fp at sp G;generalize fD (F q.2)=fq at sq er;generalize fD H=fH at G er;generalize (D.dK<|cZ F L)=sd at sp sq ⊢;simp_all[dQ,aK,h3,ip,iq,N,Y,U,e1,nn,lt,W,e2,sp,sq,G,er]
 .have rf:RT R p.1.gv q.1.gv=cr:=by rw[zc2];exact λz=>hr (i6.mp z)
  have e1:=vw.2 hr;rw[rf,cx zat];refine aM ?_;have nn:dJ .non=cp:=rfl;simp_all[dQ,aK,h3,ip,iq,Y,U,e1,nn]
def frD(R:List Ro)(M:Int)(ks:List Int)(p:Mk):Option (Mk×Nat)->D
 |none=>.non
 |some q=>.tup [.int (q.2:Int),shf R M ks p q.1]
def fA(B:Bok M n rs ms)(W:ks.length=1\/ks.length=2)(hL:∀p∈L,ms[p.2]?=b4 p.1/\p.1∈ms/\p.1.tk.length=ks.length/\SF (rs.map<|red M) M ks p.1 (F p.2))(hp:p∈L):bO [gB M c n rs ms,.int (p.2:Int),.dK<|cZ F L]=b4 (frD (rs.map<|red M) M ks p.1<|L.find? λq=>!yS (rs.map<|red M) M ks p.1 q.1):=by
 have ss:=λq (z:q∈L)=>nD (c:=c) B W hL hp z
 generalize gB M c n rs ms=bk at ss ⊢;have lk:∀ {ρ:dC},aD 2 ρ=b4 (.dK<|cZ F L)->mY (aD 2) ρ=b4 (L.map λq=>.int (q.2:Int)):=λh=>by
  unfold mY;rw[h,aA];show b4 ((cZ F L).map λp=>nV p.1)=_;unfold cZ;rw[zaI];rfl
 have Y:=lk (ρ:=aK 5 [bk,.int (p.2:Int),.dK<|cZ F L]) rfl;generalize (D.dK<|cZ F L)=sd at ss Y ⊢;refine aM<|TB (frD (rs.map<|red M) M ks p.1) (λρ=>∃J G,ρ=[b4 bk,b4<|.int (p.2:Int),b4 sd,J,G]) L (f:=λq=>.int (q.2:Int)) Y {cg,cg,rfl} ?_ ?_ ?_
 .rintro q z _ ⟨J,G,rfl⟩ N
  have er:=ss q z;have U:dJ (shf (rs.map<|red M) M ks p.1 q.1)=cp:=by rw[FH];simpa using N
  generalize shf (rs.map<|red M) M ks p.1 q.1=r at er U;exact{[b4 bk,b4<|.int (p.2:Int),b4 sd,b4<|.int (q.2:Int),b4 r],by ac_rfl,_,_,rfl}
 .rintro q z _ ⟨J,G,rfl⟩ N
  have er:=ss q z;have U:dJ (shf (rs.map<|red M) M ks p.1 q.1)=cr:=by rw[FH];simpa using N
  show turn _ _ _ _=b4 (.rt<|.tup [.int (q.2:Int),shf (rs.map<|red M) M ks p.1 q.1]);generalize shf (rs.map<|red M) M ks p.1 q.1=r at er U
  ac_rfl
 .rintro _ ⟨J,G,rfl⟩
  rfl
def MS{L:List (Mk×Nat)}:dJ (frD R M ks p<|L.find? λq=>!yS R M ks p q.1)=L.all λq=>yS R M ks p q.1:=by
 rw[<- gL];cases L.find? _ <;> rfl
def CK(B:Bok M n rs ms)(U:ks.length=1\/ks.length=2)(Y:∀p∈L,ms[p.2]?=b4 p.1/\p.1∈ms/\p.1.tk.length=ks.length/\SF (rs.map<|red M) M ks p.1 (F p.2)):hU [gB M c n rs ms,.dK<|cZ F L]=b4 (i8<|best (rs.map<|red M) M ks L):=by
 have ss:=λq (z:q∈L)=>fA (c:=c) B U Y z
 unfold best;generalize gB M c n rs ms=bk at ss ⊢;have W:mY (aD 1) (aK 3 [bk,.dK<|cZ F L])=b4 (L.map λq=>.int (q.2:Int)):=by
  show b4 ((cZ F L).map λp=>nV p.1)=_;unfold cZ;rw[zaI];rfl
 generalize (D.dK<|cZ F L)=sd at ss W ⊢;refine aM<|TB i8 (λρ=>∃G,ρ=[b4 bk,b4 sd,G]) L (f:=λq=>.int (q.2:Int)) W {cg,rfl} ?_ ?_ ?_
 .rintro q z _ ⟨G,rfl⟩ J
  have er:=ss q z;have N:=(MS (p:=q.1) (L:=L)).trans J;generalize frD (rs.map<|red M) M ks q.1 _=r at er N;exact{[b4 bk,b4 sd,b4<|.int (q.2:Int)],by ac_rfl,_,rfl}
 .rintro q z _ ⟨G,rfl⟩ J
  have er:=ss q z;have N:=(MS (p:=q.1) (L:=L)).trans J;generalize frD (rs.map<|red M) M ks q.1 _=r at er N;show turn _ _ _ _=b4 (.rt<|.int (q.2:Int))
  ac_rfl
 .rintro _ ⟨G,rfl⟩
  rfl
open Classical in
def MA{B:Type}{f:B->D}(inj:∀a b,f a=f b->a=b)(ok:∀a,cY (f a)=cp)(l:List B)(x:B):t6 (f x) (.lst<|l.map f)=b4 (.bl<|!decide (x∈l)):=by
 have h:(l.map f).all cY=cp:=List.all_eq_true.mpr λd q=>by
  obtain⟨a,_,rfl⟩:=List.mem_map.mp q;exact ok a
 have e:((l.map f).any λd=>decide (d=f x))=decide (x∈l):=by
  rw[zcD,List.any_eq_true,decide_eq_true_iff];constructor
  .rintro⟨d,q,z⟩
   obtain⟨a,F,rfl⟩:=List.mem_map.mp q;rw[<- inj _ _<|of_decide_eq_true z];exact F
  .exact λh=>{f x,List.mem_map.mpr {x,h,rfl},decide_eq_true rfl}
 unfold t6 BY;show Option.map _ (if cY (f x)=cp/\(l.map f).all cY=cp then b4 ((l.map f).any λd=>decide (d=f x))else cg)=_;rw[cw ⟨ok x,h⟩,aB,e]
def MF{q:Type}{f:q->D}(inj:∀a b,f a=f b->a=b)(ok:∀a,cY (f a)=cp){l:List q}{x:q}(h:x∈l):t6 (f x) (.lst<|l.map f)=b4 (.bl cr):=(MA inj ok l x).trans<|by simp_all[h]
open Classical in
def MR{B:Type}{f:B->D}(inj:∀a b,f a=f b->a=b)(ok:∀a,cY (f a)=cp){l:List B}{x:B}(G:x∈l)(J:l.length<=1000):∃i:Nat,l[i]?=b4 x/\lD (.lst<|l.map f) (f x)=b4 (.int (i:Int)):=by
 have h:(l.map f).all cY=cp:=List.all_eq_true.mpr λd F=>by
  obtain⟨a,_,rfl⟩:=List.mem_map.mp F;exact ok a
 have k:∀ {l:List B},x∈l->∃i:Nat,l[i]?=b4 x/\((l.map f).findIdx? λy=>decide (y=f x))=b4 i:=by
  intro l;induction l with
  |nil=>exact λz=>nomatch z
  |cons a l ih=>
   intro z;by_cases e:f a=f x
   .exact{0,by rw[inj _ _ e];rfl,by rw[zak,List.findIdx?_cons,decide_eq_true e];rfl}
   .obtain⟨i,h1,h2⟩:=ih ((List.mem_cons.mp z).resolve_left λq=>e<|by rw[q])
    exact{i+1,h1,by rw[zak,List.findIdx?_cons,decide_eq_false e,h2];rfl}
 obtain⟨i,h1,h2⟩:=k G;refine{i,h1,?_};unfold lD;show(if cY (f x)=cp/\(l.map f).all cY=cp/\a7 (l.map f).length=cp then Option.map _ ((l.map f).findIdx? λy=>decide (y=f x))else cg)=_;rw[cw {ok x,h,decide_eq_true<|by rw[zaj];lia},h2];rfl
def lI(d:Str×Nat):D:=.tup [.str d.1,.int (d.2:Int)]
def DZ(a b:Str×Nat)(h:lI a=lI b):a=b:=by
 unfold lI at h;simp only[D.tup.injEq,List.cons.injEq,D.str.injEq,D.int.injEq,and_true]at h;exact Prod.ext h.1<|by lia
def NM(a:Str×Nat):cY (lI a)=cp:=rfl
open Classical in
def S6(l:List<|Str×Nat)(m:Mk):List<|Str×Nat:=if(m.nm,m.tk.length)∈l then l else l++[(m.nm,m.tk.length)]
def dO(ms:List Mk):List<|Str×Nat:=ms.foldl S6 []
theorem nN:∀(ms:List Mk) (l:List<|Str×Nat),l.Nodup->(ms.foldl S6 l).Nodup/\(ms.foldl S6 l).length<=l.length+ms.length/\∀d∈ms.foldl S6 l,d∈l\/∃m∈ms,d=(m.nm,m.tk.length)
 |[],l,h=>{h,zam _,λd B=>.inl B}
 |m::ms,l,h=>by
  rw[zcw,zaU];by_cases c:(m.nm,m.tk.length)∈l
  .have e:S6 l m=l:=cw c
   obtain⟨a,b,q⟩:=nN ms l h;rw[e];exact{a,by lia,λd B=>(q d B).imp id λ⟨F,h1,h2⟩=>{F,zax _ h1,h2}}
  .have e:S6 l m=l++[(m.nm,m.tk.length)]:=cx c
   obtain⟨a,b,q⟩:=nN ms (l++[(m.nm,m.tk.length)])<|List.nodup_append.mpr {h,by simp_all,λx G y J z=>c<|by rw[List.mem_singleton.mp J]at z;exact z ▸ G};rw[e];rw[zbp]at b;refine{a,by simp[-zad,-zae,aA,aB]at b;lia,λd B=>?_};rcases q d B with z|⟨F,h1,h2⟩
   .rcases List.mem_append.mp z with z|z
    .exact .inl z
    .exact .inr {m,zaw ..,List.mem_singleton.mp z}
   .exact .inr {F,zax _ h1,h2}
def K9{ms:List Mk}(h:ms[i]?=b4 m):dO (ms.take<|i+1)=S6 (dO<|ms.take i) m:=by
 unfold dO;rw[zbl,h,zeg];rfl
def EH{ms:List Mk}(hi:ms.length<=5)(h:ms[i]?=b4 m):(∃b,fS (lI (m.nm,m.tk.length)) (.lst<|(dO<|ms.take i).map lI)=b4 (.bl b)/\(dO<|ms.take<|i+1).map lI=if b=cp then(dO<|ms.take i).map lI++[lI (m.nm,m.tk.length)]else(dO<|ms.take i).map lI)/\((dO<|ms.take i).map lI).length<=1000000:=by
 have n:=(nN (ms.take i) [] .nil).2.1;rw[zbJ]at n;simp[-zad,-zae,aA,aB]at n;refine{{_,MA DZ NM (dO<|ms.take i) (m.nm,m.tk.length),?_},by rw[zaj];show(dO _).length<=_;unfold dO;lia};rw[K9 h];unfold S6;by_cases c:(m.nm,m.tk.length)∈dO (ms.take i)
 .rw[cw c];simp_all[c]
 .rw[cx c,za5];simp_all[c]
def P8{M c:Int}(G:ms.length<=5):F7 [gB M c n rs ms]=b4 (.lst<|(dO ms).map lI):=by
 have F:aN (gB M c n rs ms) (.int 3)=b4 (.tup<|ms.map<|gA M):=N0;generalize gB M c n rs ms=bk at F;refine aM ?_;unfold EL;rw[aG<|aJ (d:=.lst [])<|by simp_all];refine b8 (items:=ms.map<|gA M) (by simp_all[aK,F]) (λi ρ=>∃q z,ρ=[b4 bk,b4<|.lst<|(dO<|ms.take i).map lI,q,z]) {cg,cg,rfl} ?_ ?_
 .rintro i x ρ B ⟨q,z,rfl⟩
  rw[zaq]at B;obtain⟨m,N,rfl⟩:=map_some B;obtain⟨⟨b,U,W⟩,J⟩:=EH G N;have h0:=qac (M:=M) (m:=m);have h1:=XT (M:=M) (m:=m);have lt:cE [tupI m.tk]=b4 (.int (m.tk.length:Int)):=by unfold tupI;rw[q_lenT,zaj]
  rw[W];generalize gA M m=bm at h0 h1;generalize (dO<|ms.take i).map lI=l at U J;unfold lI at *;generalize tupI m.tk=tk at h1 lt;cases b with
  |true=>
   rw[cw rfl];apply fO
   .exact cK rfl<|by ac_rfl
   exact{_,_,rfl}
  |false=>rw[cx zat];exact{[b4 bk,b4<|.lst l,b4 bm,b4<|.tup [.str m.nm,.int (m.tk.length:Int)]],by ac_rfl,_,_,rfl}
 .rintro ρ ⟨q,z,rfl⟩
  rw[zaj,zbr];ac_rfl
def oY{ms:List Mk}(B:ms.length<=5):iN [.lst<|ms.map bL]=b4 (.lst<|(dO ms).map lI):=by
 refine aM ?_;unfold oG;rw[aG<|aJ (d:=.lst [])<|by simp_all];refine b8 (items:=ms.map bL) (by simp_all[aK]) (λi ρ=>∃q,ρ=[b4<|.lst<|ms.map bL,b4<|.lst<|(dO<|ms.take i).map lI,q]) {cg,rfl} ?_ ?_
 .rintro i x ρ z ⟨q,rfl⟩
  rw[zaq]at z;obtain⟨m,G,rfl⟩:=map_some z;obtain⟨⟨b,J,N⟩,F⟩:=EH B G;have h0:=qb (m:=m);have h1:=X3 (m:=m);have lt:cE [tupI m.tk]=b4 (.int (m.tk.length:Int)):=by unfold tupI;rw[q_lenT,zaj]
  rw[N];generalize bL m=bm at h0 h1;generalize (dO<|ms.take i).map lI=l at J F;generalize ms.map bL=ml_ at *;unfold lI at *;generalize tupI m.tk=tk at h1 lt;cases b with
  |true=>
   rw[cw rfl];apply fO
   .exact cK rfl<|by ac_rfl
   exact{_,rfl}
  |false=>rw[cx zat];exact{[b4<|.lst ml_,b4<|.lst l,b4 bm],by ac_rfl,_,rfl}
 .rintro ρ ⟨q,rfl⟩
  rw[zaj,zbr];ac_rfl
def ktl(n a:Nat):List<|List Int:=if a=1 then(zav n).map λ(k:Nat)=>[(k:Int)]else(zav<|n*n).map λ(p:Nat)=>[(p:Int)/(n:Int),(p:Int)%(n:Int)]
def uS{n a:Nat}(N:1<=n/\n<=6)(Y:a=1\/a=2):fX [.int (n:Int),.int (a:Int)]=b4 (.lst<|(ktl n a).map tupI):=by
 have G:(0:Int)<(n:Int):=by lia
 have U:∀k:Nat,k<=36->bZ [.int (k:Int)]=b4 ((zav k).map λ(j:Nat)=>D.int (j:Int)):=λk q=>by
  rw[jK (n:=k)<|by lia];unfold aU;refine congrArg b4<|zdf λx _=>?_;show D.int _=_;rw[show(0:Int)+(x:Int)*1=(x:Int) by lia]
 refine aM ?_;unfold j8 ktl;rcases Y with rfl|rfl
 .have r:=U n (by lia)
  have c:=mH (K:=n) (f:=gQ<|aE (aD 0) bB) (rest:=[]) (F:=λi=>.tup [.int i]) (λi _ _=>rfl) (zav n) cg λk q=>List.mem_range.mp q
  have z:((zav n).map λ(j:Nat)=>D.int (j:Int)).length<=1000000:=by simp_all;lia
  rw[cw rfl,zaI];have e:(1:Nat)=1:=rfl;exact aR (s_ift (by simp_all[aK])<|kH<|qF (wK rfl r) z c) rfl
 .have hh:n*n<=36:=Nat.mul_le_mul N.2 N.2
  have r:=U (n*n) hh;have B:b5 (.int (n:Int)) (.int (n:Int))=b4 (.int ((n*n:Nat):Int)):=by
   have b:Bd 61 (n:Int):={by have:(10:Int)^61>0:=(by decide +kernel);lia,by have:(10:Int)^61>6:=(by decide +kernel);lia};rw[b.mulH b (by decide)<|by decide];simp_all
  have c:=mH (K:=n*n) (f:=gQ<|aE (bE lG (aD 0)<|aD 1)<|aE (bE dM (aD 0)<|aD 1) bB) (rest:=[b4<|.int (n:Int)]) (F:=λi=>.tup [.int<|i/(n:Int),.int<|i%(n:Int)]) (λi i0 i1=>by
   have q1:lG (.int i) (.int (n:Int))=b4 (.int<|i/(n:Int)):=gO G (by lia);have q2:dM (.int i) (.int (n:Int))=b4 (.int<|i%(n:Int)):=bS G
   ac_rfl) (zav<|n*n) cg λk q=>List.mem_range.mp q
  have z:((zav<|n*n).map λ(j:Nat)=>D.int (j:Int)).length<=1000000:=by rw[zaj,List.length_range];lia
  rw[cx<|by decide,zaI];have ne:pZ (.int ((2:Nat):Int)) (.int 1)=b4 (.bl cr):=by simp_all
  have W:lR bZ (aE (bE b5 (aD 0)<|aD 0) bB) (aK 2 [.int (n:Int),.int ((2:Nat):Int)])=b4 ((zav<|n*n).map λ(j:Nat)=>D.int (j:Int)):=by
   generalize ((n*n:Nat):Int)=nn at B r;generalize (n:Int)=n1 at B;exact wK (cG (cF (cA rfl) (cA rfl) B) rfl) r
  refine Eq.trans (b:=b4<|.rt<|.lst<|(zav<|n*n).map λ(k:Nat)=>D.tup [.int<|(k:Int)/(n:Int),.int<|(k:Int)%(n:Int)]) ?_<|congrArg (λl=>b4<|Out.rt<|.lst l)<|zdf λk _=>rfl;have J:=qF (ms:=[cg,b4 0]) (w:=aO 0) (a:=pX) W z c;generalize ((zav<|n*n).map λ(k:Nat)=>D.tup [.int<|(k:Int)/(n:Int),.int<|(k:Int)%(n:Int)])=out at J;refine(aG<|D8 (f:=JM _) (g:=B4) ?_).trans<|kH J;exact dE<|cF (cA rfl) mZ ne
def xF(N:1<=n/\n<=6)(B:a=1\/a=2)(h:ks∈ktl n a):ks.length=a/\∀k∈ks,0<=k/\k<(n:Int):=by
 have z:(0:Int)<(n:Int):=by lia
 unfold ktl at h;rcases B with rfl|rfl
 .rw[cw rfl]at h
  obtain⟨k,G,rfl⟩:=List.mem_map.mp h;have:=List.mem_range.mp G;exact{rfl,λj q=>by rw[List.mem_singleton.mp q];lia}
 .rw[cx<|by decide]at h
  obtain⟨p,F,rfl⟩:=List.mem_map.mp h;have J:=List.mem_range.mp F;refine{rfl,λj q=>?_};simp only[zaF,zaG,or_false]at q;rcases q with rfl|rfl
  .exact{ze4 (by lia)<|by lia,Int.ediv_lt_of_lt_mul z<|by rw[<- Int.natCast_mul];lia}
  .exact{zay _<|zaX z,zaz _ z}
theorem ND{B:Type}:∀(l:List B) (k:Nat),(l.zipIdx k).Pairwise (λa b=>a.2<b.2)/\∀p∈l.zipIdx k,k<=p.2
 |[],_=>{.nil,λ_ h=>nomatch h}
 |a::l,k=>by
  obtain⟨h1,h2⟩:=ND l<|k+1;rw[zdc];refine{List.pairwise_cons.mpr {λp q=>by have:=h2 p q;show k<p.2;lia,h1},λp q=>?_};rcases List.mem_cons.mp q with z|z
  .rw[z];exact zam _
  .have:=h2 p z;lia
def P6:(near R ms x ks).Pairwise λa b=>a.2<b.2:=(ND ms 0).1.filter _
def mC:(near R ms x ks).length<=ms.length:=by
 unfold near;have:=zfg (λp:Mk×Nat=>decide (p.1.nm=x) && eE R ks p.1.tk) ms.zipIdx;rw[zfh]at this;exact this
def bad(R:List Ro)(M:Int)(ms:List Mk)(d:Str×Nat)(ks:List Int):Bool:=!(near R ms d.1 ks).isEmpty && (best R M ks<|near R ms d.1 ks).isNone
def ED(R:List Ro)(M:Int)(ks:List Int)(L:List<|Mk×Nat)(p:Mk×Nat):Mk×Nat:=(L.find? λq=>!yS R M ks p.1 q.1).getD p
def YD(R:List Ro)(M:Int)(ks:List Int)(L:List<|Mk×Nat)(p:Mk×Nat):D:=.tup [.int (p.2:Int),.int ((ED R M ks L p).2:Int),shf R M ks p.1 (ED R M ks L p).1]
def SI(R:List Ro)(M:Int)(ms:List Mk)(d:Str×Nat)(ks:List Int):D:=.tup [.str d.1,tupI ks,.lst<|(near R ms d.1 ks).map<|YD R M ks<|near R ms d.1 ks]
def nG(h:(best R M ks L).isNone=cp)(z:p∈L):(L.find? λq=>!yS R M ks p.1 q.1)=b4 (ED R M ks L p):=by
 unfold best at h;have h2:=List.find?_eq_none.mp (Option.isNone_iff_eq_none.mp h) p z;unfold ED;cases e:L.find? λq=>!yS R M ks p.1 q.1 with
 |some q=>rfl
 |none=>
  refine absurd ?_ h2;rw[<- gL,e];rfl
def CS(B:Bok M n rs ms)(hk:∀k∈ks,0<=k/\k<(n:Int))(J:ks.length=1\/ks.length=2):∃z,eI [gB M c n rs ms,.str d.1,tupI ks]=b4 z/\cE [z]=b4 (.int ((near (rs.map<|red M) ms d.1 ks).length:Int))/\hU [gB M c n rs ms,z]=b4 (i8<|best (rs.map<|red M) M ks<|near (rs.map<|red M) ms d.1 ks)/\(bad (rs.map<|red M) M ms d ks=cp->∀ {ρ:dC} {o:Option D},aD 4 ρ=b4 z->pR [cg,b4 0,b4 4] ρ=[o,b4<|gB M c n rs ms,b4 z]->gP [cg,b4 0,b4 4] (mY<|aD 4) (aO 0) pX (bE cC (gQ<|aE (aD 0) bB)<|aW bO<|aE (aD 1)<|aE (aD 0)<|aE (aD 2) bB) ρ=b4 (.lst<|(near (rs.map<|red M) ms d.1 ks).map<|YD (rs.map<|red M) M ks<|near (rs.map<|red M) ms d.1 ks)):=by
 obtain⟨F,e,h⟩:=w6 (c:=c) B hk (by lia) (x:=d.1);have W:∀p∈near (rs.map<|red M) ms d.1 ks,ms[p.2]?=b4 p.1/\p.1∈ms/\p.1.tk.length=ks.length/\SF (rs.map<|red M) M ks p.1 (F p.2):=λp G=>by
  obtain⟨a,b,_,q⟩:=bQ G;exact{a,b,(fits_of q).1.symm,h p G}
 have ec:=CK (c:=c) B J W;have ef:=λp G=>fA (c:=c) B J W (p:=p) G
 have nl:=mC (R:=rs.map<|red M) (ms:=ms) (x:=d.1) (ks:=ks);have ml:=B.ml;refine{_,e,?_,ec,λhb ρ o h4 hs=>?_}
 .show b4 (D.int ((cZ F _).length:Int))=_
  unfold cZ;rw[zaj]
 .have N:=(Bool.and_eq_true_iff.mp hb).2
  have lk:mY (aD 4) ρ=b4 ((near (rs.map<|red M) ms d.1 ks).map λq=>.int (q.2:Int)):=by
   unfold mY;rw[h4,aA];show b4 ((cZ F _).map λp=>nV p.1)=_;unfold cZ;rw[zaI];rfl
  refine qF lk (by rw[zaj];lia) ?_;rw[hs];have bn:=λp G=>nG N (p:=p) G
  generalize near (rs.map<|red M) ms d.1 ks=L at *;generalize gB M c n rs ms=bk at *;generalize (D.dK<|cZ F L)=z at *;have go:∀(l:List<|Mk×Nat) (o:Option D),(∀p∈l,p∈L)->bV (aO 0) pX (bE cC (gQ<|aE (aD 0) bB)<|aW bO<|aE (aD 1)<|aE (aD 0)<|aE (aD 2) bB) (l.map λq=>.int (q.2:Int)) [o,b4 bk,b4 z]=b4 (l.map<|YD (rs.map<|red M) M ks L):=by
   intro l;induction l with
   |nil=>exact λ_ _=>rfl
   |cons p l ih=>
    intro o U;have Y:=ef p<|U p<|zaw ..;rw[bn p<|U p<|zaw ..]at Y;refine FQ rfl rfl ?_<|ih _ λq hq=>U q<|zax _ hq;exact cF (DT<|cG (cA rfl) rfl) (cW rfl Y) rfl
  exact go L o λ_ h=>h
def YH(R:List Ro)(M:Int)(n:Nat)(ms:List Mk):Option (Str×Nat)->D
 |none=>.non
 |some d=>match (ktl n d.2).find? (bad R M ms d)with
  |none=>.non
  |some ks=>SI R M ms d ks
def X4(R:List Ro)(M:Int)(n:Nat)(ms:List Mk):Option<|Str×Nat:=(dO ms).find? λd=>((ktl n d.2).find?<|bad R M ms d).isSome
def yC(B:Bok M n rs ms)(h:d∈dO ms):d.2=1\/d.2=2:=by
 rcases(nN ms [] .nil).2.2 d h with z|⟨m,q,rfl⟩
 .exact nomatch z
 .rcases(B.mo m q).tk with⟨t,e⟩|⟨t,u,e⟩ <;> (show m.tk.length=1\/m.tk.length=2;rw[e];simp_all)
def wU(B:Bok M n rs ms):lT [gB M c n rs ms]=b4 (YH (rs.map<|red M) M n ms<|X4 (rs.map<|red M) M n ms):=by
 have vd:=P8 (c:=c) (M:=M) (n:=n) (rs:=rs) B.ml;have bl:∀a:Nat,a=1\/a=2->fX [.int (n:Int),.int (a:Int)]=b4 (.lst<|(ktl n a).map tupI):=λa ha=>uS B.hn ha
 have b1:aN (gB M c n rs ms) (.int 1)=b4 (.tup<|dN c n):=by unfold gB;rw[q_itT];exact at1
 have ln:cE [.tup<|dN c n]=b4 (.int (n:Int)):=by rw[q_lenT,gN]
 have fa:=λ(d:Str×Nat) (ks:List Int) hk ai=>CS (c:=c) B (d:=d) (ks:=ks) hk ai
 have go:=λ(d:Str×Nat) (N:d∈dO ms)=>yC B N
 unfold X4;generalize rs.map (red M)=R at *;generalize gB M c n rs ms=bk at *;have inner:∀(d:Str×Nat),d∈dO ms->∀(G F:Option D),_:=λd N G F=>qK (g:=aO 3) (b:=(bW (dA 4<|aW eI<|aE (aD 0)<|aE (aD 1)<|aE (aD 3) bB)
    (wL
     (yQ (lJ<|bE BV (aW cE<|aE (aD 4) bB)<|eC<|D.int 0)
      (lJ<|bE N1 (aW hU<|aE (aD 0)<|aE (aD 4) bB)<|eC D.non))
     (JM
      (gQ
       (aE (aD 1)
        (aE (aD 3)
         (aE
          (gP [cg, b4 0, b4 4] (mY<|aD 4) (aO 0) pX
           (bE cC (gQ<|aE (aD 0) bB)
            (aW bO<|aE (aD 1)<|aE (aD 0)<|aE (aD 2) bB)))
          bB)))))
     B4))) (f:=tupI) (E:=SI R M ms d) (P:=bad R M ms d) (λρ=>∃G F,ρ=[b4 bk,b4<|.str d.1,b4<|.int (d.2:Int),G,F]) (ktl n d.2) (ρ:=[b4 bk,b4<|.str d.1,b4<|.int (d.2:Int),G,F]) {G,F,rfl} (by
   rintro ks J _ ⟨G,F,rfl⟩ U;have km:=xF B.hn (go d N) J;obtain⟨sd,e1,e2,W,_⟩:=fa d ks km.2 (by rw[km.1];exact go d N);refine{[b4 bk,b4<|.str d.1,b4<|.int (d.2:Int),b4<|tupI ks,b4 sd],?_,_,_,rfl};unfold bad at U;generalize tupI ks=tk at e1;generalize near R ms d.1 ks=L at e2 W U;cases L with
   |nil=>
    have z:¬ ((([]:List<|Mk×Nat).length:Int)>0):=by decide
    ac_rfl
   |cons p L=>
    cases hbe:best R M ks (p::L)with
    |none=>rw[hbe]at U;cases U
    |some q=>
     rw[hbe]at W;have z:(((p::L).length:Int)>0):=by rw[zaU];lia
     have nn:dJ (i8<|b4 q)=cr:=rfl;generalize i8 (b4 q)=bd at W nn
     ac_rfl) (by
   rintro ks J _ ⟨G,F,rfl⟩ U;have km:=xF B.hn (go d N) J;obtain⟨sd,e1,e2,W,e4⟩:=fa d ks km.2 (by rw[km.1];exact go d N);have e5:=e4 U (ρ:=[b4 bk,b4<|.str d.1,b4<|.int (d.2:Int),b4<|tupI ks,b4 sd]) (o:=cg) rfl rfl;have Y:=Bool.and_eq_true_iff.mp U;have bn:=Option.isNone_iff_eq_none.mp Y.2;have z:((near R ms d.1 ks).length:Int)>0:=by
    have:=Y.1;rcases hn:near R ms d.1 ks with _|⟨p,L⟩
    .rw[hn]at this;cases this
    .rw[zaU];lia
   rw[bn]at W;unfold SI;have nn:dJ (i8 cg)=cp:=rfl;generalize i8 cg=bd at W nn;generalize D.lst ((near R ms d.1 ks).map<|YD R M ks<|near R ms d.1 ks)=res at e5;generalize tupI ks=tk at e1 e5;generalize ((near R ms d.1 ks).length:Int)=len at e2 z;have g1:BV (.int len) (.int 0)=b4 (.bl cp):=congrArg (λb=>b4<|D.bl b)<|decide_eq_true z;have g2:N1 bd .non=b4 (.bl cp):=congrArg (λb=>b4<|D.bl b) nn;clear z nn;exact cK rfl (aR (aJ (d:=sd)<|by ac_rfl)<|bI<|s_ift (by ac_rfl)<|kH<|DT<|cG (cA rfl)<|cG (cA rfl)<|cG e5 rfl)
   )
 refine aM<|TB (YH R M n ms) (λρ=>∃o1 o2 G F,ρ=[b4 bk,o1,o2,G,F]) (dO ms) (f:=lI) (t7<|cW (cG rfl rfl) vd) {cg,cg,cg,cg,rfl} ?_ ?_ ?_
 .rintro d N _ ⟨o1,o2,G,F,rfl⟩ hc
  obtain⟨ρ',e,as,ap,rfl⟩:=(inner d N G F).1 (by simpa using hc);refine{_,cK rfl<|lB (t7<|cW (cG (cW (cG (cF rfl mZ b1) rfl) ln)<|cG rfl rfl)<|bl d.2<|go d N) e,_,_,_,_,rfl}
 .rintro d N _ ⟨o1,o2,G,F,rfl⟩ hc
  obtain⟨ks,J⟩:=Option.isSome_iff_exists.mp hc;have e:=(inner d N G F).2 ks J;have ef:YH R M n ms (b4 d)=SI R M ms d ks:=by
   show(match (ktl n d.2).find? (bad R M ms d)with|none=>D.non|some ks=>SI R M ms d ks)=_;rw[J]
  rw[ef];exact cK rfl<|lB (t7<|cW (cG (cW (cG (cF rfl mZ b1) rfl) ln)<|cG rfl rfl)<|bl d.2<|go d N) e
 .rintro _ ⟨o1,o2,G,F,rfl⟩
  rfl
def CJ(B:Bok M n rs ms)(z:a∈ms)(F:b∈ms)(J:∀k∈ks,0<=k/\k<(n:Int))(U:eE (rs.map<|red M) ks a.tk=cp)(fb:eE (rs.map<|red M) ks b.tk=cp)(Y:Rch (rs.map<|red M) a.gv b.gv)(G:vs.length=ks.length)(q:∀v∈vs,0<=v/\v<M):rG [.int M,.lst<|rs.map bD,bY n<|RT<|rs.map<|red M,.tup [bL a,bL b],tupI ks,tupI vs]=b4 (.bl<|decide (cN (rs.map<|red M) M (sv (rs.map<|red M) M a ks vs) (fwd (rs.map<|red M) a.gv b.gv)=sv (rs.map<|red M) M b ks vs)):=by
 have h0:0<M:=by have:=B.h3;lia
 have ga:=(B.mo a z).gv;have gb:=(B.mo b F).gv;obtain⟨e1,W⟩:=mP B.g B.hn.2 ga.1 gb Y;have e2:=kS B z J U G q;have e3:=kS B F J fb G q;have e4:=d9 h0 B.h60 B.rb (IsF.at_ W)<|XQ (R:=rs.map<|red M) (m:=a) (ks:=ks) (vs:=vs) h0;have m2:=JF (m:=a);have N:=JF (m:=b);generalize sv (rs.map<|red M) M a ks vs=s1 at *;generalize sv (rs.map<|red M) M b ks vs=s2 at *;generalize cN (rs.map<|red M) M s1 (fwd (rs.map<|red M) a.gv b.gv)=s3 at *;generalize tupI (fwd (rs.map<|red M) a.gv b.gv)=w at *;generalize bY n (RT<|rs.map<|red M)=mt at *;generalize D.lst (rs.map bD)=rl at *;generalize bL a=ma at *;generalize bL b=mb at *;generalize tupI ks=tk at *;generalize tupI vs=tv at *;refine aM ?_;unfold sN;rw[aG<|aJ (d:=w)<|by ac_rfl,aG<|aJ (d:=.int s3)<|by ac_rfl];exact kH<|cF (cA rfl) (by ac_rfl)<|by simp_all
def gY(h0:0<=i)(h1:i<m):lX [.int i,.int m]=b4 (.bl cp):=aM<|by simp_all[l5,aK,h0,h1,uM]
theorem AJ{q:Type}{P:q->Bool}:∀ {l:List q} {k:Nat},((l.zipIdx k).find? λx=>P x.1).map (·.1)=l.find? P
 |[],_=>rfl
 |a::l,k=>by
  rw[zdc,za0,za0];cases h:P a with
  |true=>rfl
  |false=>exact AJ
def FM(a b:Nat)(h:D.int (a:Int)=D.int (b:Int)):a=b:=by injection h with h;lia
def NR(q:p∈near R ms x ks):d8 (ms.map bL) (p.2:Int)=b4 (bL p.1):=bH<|by rw[zaq,(bQ q).1];rfl
def yU{M:Int}(B:Bok M n rs ms)(hk:∀k∈ks,0<=k/\k<(n:Int))(G:ks.length=1\/ks.length=2)(hp:p∈near (rs.map<|red M) ms x ks)(hq:(near (rs.map<|red M) ms x ks).find? (λq=>!yS (rs.map<|red M) M ks p.1 q.1)=b4 q):iO [.int M,.lst<|rs.map bD,bY n<|RT<|rs.map<|red M,.lst<|ms.map bL,tupI ks,.lst<|(near (rs.map<|red M) ms x ks).map λp=>.int (p.2:Int),.lst<|(near (rs.map<|red M) ms x ks).map λp=>cL (rs.map<|red M) M ks p.1,.tup [.int (p.2:Int),.int (q.2:Int),shf (rs.map<|red M) M ks p.1 q.1]]=b4 (.bl cp):=by
 have af:=zeI hq;have nl:=mC (R:=rs.map<|red M) (ms:=ms) (x:=x) (ks:=ks);have ml:=B.ml;have up:=P6 (R:=rs.map<|red M) (ms:=ms) (x:=x) (ks:=ks);have np:=bQ hp;have nq:=bQ af;have ap:=NR hp;have aq:=NR af;have ar:=λr (F:r∈near (rs.map (red M)) ms x ks)=>NR F
 have cv:=λr (F:r∈near (rs.map (red M)) ms x ks)=>lW B (ks:=ks) np.2.1 (bQ F).2.1
 have m2:=JF (m:=p.1);have ag:=JF (m:=q.1);have ga:=(B.mo p.1 np.2.1).gv;have gb:=(B.mo q.1 nq.2.1).gv;have ma:=xX (K:=n) (P:=RT<|rs.map<|red M) (k:=p.1.gv) ga.1 ga.2;have ra:=t5 (K:=n) (p:=RT (rs.map<|red M) p.1.gv) gb.1 gb.2
 -- those ahead of q are covered
 have Y:∀r∈near (rs.map<|red M) ms x ks,(r.2:Int)<(q.2:Int)->yS (rs.map<|red M) M ks p.1 r.1=cp:=λr F N=>by
  obtain⟨_,as,bs,e,h1⟩:=List.find?_eq_some_iff_append.mp hq;rw[e]at F up;rcases List.mem_append.mp F with z|z
  .simpa using h1 r z
  .have u:=(List.pairwise_append.mp up).2.1
   rcases List.mem_cons.mp z with z|z
   .rw[z]at N;lia
   .have:=(List.pairwise_cons.mp u).1 r z;lia
 -- the place of p
 obtain⟨i,hi,ei⟩:=MR (f:=λ(k:Nat)=>D.int (k:Int)) FM (λ_=>rfl) (l:=(near (rs.map<|red M) ms x ks).map (·.2)) (x:=p.2) (List.mem_map.mpr {p,hp,rfl}) (by rw[zaj];lia);have ei:lD (.lst<|(near (rs.map<|red M) ms x ks).map λp=>.int (p.2:Int)) (.int (p.2:Int))=b4 (.int (i:Int)):=by rw[zaI]at ei;exact ei
 have ti:d8 ((near (rs.map<|red M) ms x ks).map λp=>cL (rs.map<|red M) M ks p.1) (i:Int)=b4 (cL (rs.map<|red M) M ks p.1):=by
  rw[zaq]at hi;obtain⟨p',h1,h2⟩:=Option.map_eq_some_iff.mp hi;refine bH ?_;rw[zaq,h1];have h3:=(bQ<|zaA h1).1;rw[h2,np.1]at h3;rw[zaD h3];rfl
 have ci:=(List.find?_some hq);have bo:=λvs (J:vs∈cH (ks.length:Int)) (F:Rch (rs.map (red M)) p.1.gv q.1.gv)=>CJ B np.2.1 nq.2.1 hk np.2.2.2 nq.2.2.2 F (nM B.h3 G J).1 (nM B.h3 G J).2
 have po:=λ(k:Nat) (hk:k<(cH (ks.length:Int)).length)=>zQ G hk
 have zl:=mB (λp:Mk×Nat=>D.int (p.2:Int)) (λp=>cL (rs.map<|red M) M ks p.1)<|near (rs.map<|red M) ms x ks;have lk:cE [tupI ks]=b4 (.int (ks.length:Int)):=by unfold tupI;rw[q_lenT,zaj]
 have pk:∀vs∈cH (ks.length:Int),cY (tupI vs)=cp:=λvs J=>by
  have:=(nM B.h3 G J).1;rcases G with z|z
  .obtain⟨a,rfl⟩:=List.length_eq_one_iff.mp<|this.trans z;rfl
  .obtain⟨a,b,rfl⟩:=iB<|this.trans z;rfl
 unfold yS at ci;unfold shf;generalize rs.map (red M)=R at *;generalize near R ms x ks=L at *;generalize D.lst (rs.map bD)=rl at *;generalize bY n (RT R)=mt at *;generalize c7 n (RT R p.1.gv)=rw_ at *;generalize hsh:(if RT R p.1.gv q.1.gv=cp then pD ((cH (ks.length:Int)).find? λpt=>!decide (cN R M (sv R M p.1 ks pt) (fwd R p.1.gv q.1.gv)=sv R M q.1 ks pt))else .tup [])=sh;refine aM ?_;unfold pH;rw[aG<|aJ (d:=.tup [bL p.1,bL q.1])<|by ac_rfl];rw[aG<|aJ (d:=cL R M ks p.1)<|by ac_rfl];refine xB (λρ=>∃W ab aa,ρ=[b4<|.int M,b4 rl,b4 mt,b4<|.lst<|ms.map bL,b4<|tupI ks,b4<|.lst<|L.map λp=>.int (p.2:Int),b4<|.lst<|L.map λp=>cL R M ks p.1,b4<|.tup [.int (p.2:Int),.int (q.2:Int),sh],b4<|.tup [bL p.1,bL q.1],b4<|cL R M ks p.1,W,ab,aa,cg,cg]) L (f:=λr=>.tup [.int (r.2:Int),cL R M ks r.1]) ?_ {cg,cg,cg,rfl} ?_ ?_
 .rw[<- zl]
  simp_all[aK]
 .rintro r F _ ⟨W,ab,aa,rfl⟩
  have a3:=ar r F;have c3:=cv r F;have b3:=Y r F;generalize cL R M ks p.1=rp at *;generalize cL R M ks r.1=rr at *;generalize bL p.1=mp at *;generalize bL q.1=mq at *;generalize bL r.1=mr at *;generalize tupI ks=tk at *;refine{[b4<|.int M,b4 rl,b4 mt,b4<|.lst<|ms.map bL,b4 tk,b4<|.lst<|L.map λp=>.int (p.2:Int),b4<|.lst<|L.map λp=>cL R M ks p.1,b4<|.tup [.int (p.2:Int),.int (q.2:Int),sh],b4<|.tup [mp,mq],b4 rp,b4<|.int (r.2:Int),b4 rr,b4<|.tup [mp,mr],cg,cg],?_,_,_,_,rfl};by_cases N:(r.2:Int)<(q.2:Int)
  .rw[b3 N]at c3
   refine cK rfl<|aR (aJ (d:=.tup [mp,mr])<|by ac_rfl)<|bI<|s_iff ?_ rfl;have l1:dLt (.int (r.2:Int)) (.int (q.2:Int))=b4 (.bl cp):=congrArg (λb=>b4<|D.bl b)<|decide_eq_true N;exact i5 (c:=cp) (by ac_rfl)<|JA rfl<|c6 (c:=cp)<|by ac_rfl
  .refine cK rfl (aR (aJ (d:=.tup [mp,mr])<|by ac_rfl)<|bI<|s_iff ?_ rfl)
   have l1:dLt (.int (r.2:Int)) (.int (q.2:Int))=b4 (.bl cr):=congrArg (λb=>b4<|D.bl b)<|decide_eq_false N;exact i5 (c:=cr) (by ac_rfl) rfl
 .rintro _ ⟨W,ab,aa,rfl⟩
  generalize cL R M ks p.1=rp at *;cases hrt:RT R p.1.gv q.1.gv with
  |false=>
   rw[hrt]at hsh ra;rw[cx zat]at hsh;subst hsh;refine aR (p:=.rt<|.bl cp) (s_ift ?_<|kH<|by simp_all[at2,uM]) rfl;refine c6 (c:=cr)<|dE ?_;exact cF (cF (cA rfl) (cF (cF (cA rfl) mZ rfl) mZ m2) ma) (cF (cF (cA rfl) mZ rfl) mZ ag) ra
  |true=>
   rw[hrt]at hsh ra ci;rw[cw rfl]at hsh;have F:=i6.mp hrt;obtain⟨pt,ad⟩:∃pt,((cH (ks.length:Int)).find? λpt=>!decide (cN R M (sv R M p.1 ks pt) (fwd R p.1.gv q.1.gv)=sv R M q.1 ks pt))=b4 pt:=by
    cases e:(cH (ks.length:Int)).find? λpt=>!decide (cN R M (sv R M p.1 ks pt) (fwd R p.1.gv q.1.gv)=sv R M q.1 ks pt)with
    |some pt=>exact{pt,rfl}
    |none=>
     have:=gL (l:=cH (ks.length:Int)) (f:=λpt=>decide (cN R M (sv R M p.1 ks pt) (fwd R p.1.gv q.1.gv)=sv R M q.1 ks pt));rw[e]at this;rw[<- this]at ci;cases ci
   rw[ad]at hsh;subst hsh;refine(aG<|D8 (f:=JM _) (g:=B4) ?_).trans ?_
   .refine c6 (c:=cp) (dE ?_)
    exact cF (cF (cA rfl) (cF (cF (cA rfl) mZ rfl) mZ m2) ma) (cF (cF (cA rfl) mZ rfl) mZ ag) ra
   have ae:=pk pt<|zeI ad;have zf:=AJ (l:=cH (ks.length:Int)) (k:=0) (P:=λpt=>!decide (cN R M (sv R M p.1 ks pt) (fwd R p.1.gv q.1.gv)=sv R M q.1 ks pt));rw[ad]at zf;obtain⟨y,a6,a2⟩:=Option.map_eq_some_iff.mp zf;have a4:pZ (tupI pt) (tupI pt)=b4 (.bl cp):=by
    unfold pZ JO;rw[cw<|.inr {rfl,rfl,ae,ae}];simp_all
   refine(TB (P:=λy:List Int×Nat=>!decide (cN R M (sv R M p.1 ks y.1) (fwd R p.1.gv q.1.gv)=sv R M q.1 ks y.1)) (f:=λy=>D.int (y.2:Int)) (λo=>match o with|none=>.bl cr|some y=>((pZ (tupI pt)<|tupI y.1).getD .non)) (λρ=>∃ac U,ρ=[b4<|.int M,b4 rl,b4 mt,b4<|.lst<|ms.map bL,b4<|tupI ks,b4<|.lst<|L.map λp=>.int (p.2:Int),b4<|.lst<|L.map λp=>cL R M ks p.1,b4<|.tup [.int (p.2:Int),.int (q.2:Int),tupI pt],b4<|.tup [bL p.1,bL q.1],b4 rp,W,ab,aa,ac,U]) (cH (ks.length:Int)).zipIdx ?_ {cg,cg,rfl} ?_ ?_ ?_).trans ?_
   .have:(cH (ks.length:Int)).zipIdx.map (λy=>D.int (y.2:Int))=aU 0 1 (if ks.length=1 then 3 else 9):=by rcases G with z|z <;> rw[z] <;> rfl
    rw[this];rcases G with z|z
    .rw[z]at lk ⊢
     generalize tupI ks=tk at *;exact wK (xs:=[.int 3]) (by ac_rfl) rfl
    .rw[z]at lk ⊢
     generalize tupI ks=tk at *;exact wK (xs:=[.int 9]) (by ac_rfl) rfl
   .rintro y hy _ ⟨ac,U,rfl⟩ hc
    have hg:(cH (ks.length:Int))[y.2]?=b4 y.1:=List.mem_zipIdx_iff_getElem?.mp hy;obtain⟨v,J,a1⟩:=po y.2 (List.getElem?_eq_some_iff.mp hg).1;have e1:v=y.1:=by rw[hg]at J;exact(zaD J).symm
    have bv:=bo v (zaA J) F;have c:cN R M (sv R M p.1 ks v) (fwd R p.1.gv q.1.gv)=sv R M q.1 ks v:=by rw[e1];simpa using hc
    rw[decide_eq_true c]at bv;generalize tupI v=tv at *;generalize tupI ks=tk at *;generalize D.tup [bL p.1,bL q.1]=pr at *;refine{_,cK rfl<|aR (aJ (d:=tv)<|by ac_rfl)<|bI<|s_iff (c6 (c:=cp)<|by ac_rfl) rfl,_,_,rfl}
   .rintro y hy _ ⟨ac,U,rfl⟩ hc
    have hg:(cH (ks.length:Int))[y.2]?=b4 y.1:=List.mem_zipIdx_iff_getElem?.mp hy;obtain⟨v,J,a1⟩:=po y.2 (List.getElem?_eq_some_iff.mp hg).1;have e1:v=y.1:=by rw[hg]at J;exact(zaD J).symm
    have ao:=pk v<|zaA J;have bv:=bo v (zaA J) F;have c:¬ cN R M (sv R M p.1 ks v) (fwd R p.1.gv q.1.gv)=sv R M q.1 ks v:=by rw[e1];simpa using hc
    rw[decide_eq_false c]at bv;obtain⟨b,eb⟩:∃b,pZ (tupI pt) (tupI v)=b4 (.bl b):=by
     unfold pZ JO;rw[cw<|.inr {rfl,rfl,ae,ao}];exact{_,rfl}
    show turn _ _ _ _=b4 (.rt<|(pZ (tupI pt)<|tupI y.1).getD .non);rw[<- e1,eb];have it:uM "tuple" (tupI pt)=cp:=rfl;generalize tupI v=tv at *;generalize tupI pt=tp at *;generalize tupI ks=tk at *;generalize D.tup [bL p.1,bL q.1]=pr at *;refine cK rfl<|aR (aJ (d:=tv)<|by ac_rfl)<|bI<|s_ift (c6 (c:=cr)<|by ac_rfl)<|kH ?_;simp_all[it,at2,eb]
   .rintro _ ⟨ac,U,rfl⟩
    rfl
   .rw[a6]
    show b4 (Out.rt<|(pZ (tupI pt)<|tupI y.1).getD .non)=_;rw[a2,a4];rfl
def PZ:cE [bY n P]=b4 (.int (n:Int)):=by
 unfold bY;simp_all
def zG(B:Bok M n rs ms)(hd:d∈dO ms)(G:∀k∈ks,0<=k/\k<(n:Int))(N:ks.length=d.2)(hb:bad (rs.map<|red M) M ms d ks=cp):iR [.int M,.lst<|rs.map bD,bY n<|RT<|rs.map<|red M,.lst<|ms.map bL,SI (rs.map<|red M) M ms d ks]=b4 (.bl cp):=by
 have ko:ks.length=1\/ks.length=2:=by rw[N];exact yC B hd
 have ml:=B.ml;have nl:=mC (R:=rs.map<|red M) (ms:=ms) (x:=d.1) (ks:=ks);have F:=Bool.and_eq_true_iff.mp hb;have v1:=oY ml;have v2:=jZ B G (x:=d.1);have v3:=lU B G ko (L:=near (rs.map<|red M) ms d.1 ks) (λp q=>{(bQ q).1,(bQ q).2.1,(bQ q).2.2.2}) (by lia);have sh:=λp (q:p∈near (rs.map (red M)) ms d.1 ks)=>yU B G ko q<|nG F.2 q
 have fm:=λp (q:p∈near (rs.map (red M)) ms d.1 ks)=>zeI<|nG F.2 q
 have bd:=λp (q:p∈near (rs.map (red M)) ms d.1 ks)=>(List.getElem?_eq_some_iff.mp (bQ q).1).1
 have aj:=PZ (n:=n) (P:=RT<|rs.map<|red M);have lk:cE [tupI ks]=b4 (.int (ks.length:Int)):=by unfold tupI;rw[q_lenT,zaj]
 have di:fS (.tup [.str d.1,.int (ks.length:Int)]) (.lst<|(dO ms).map lI)=b4 (.bl cr):=by
  rw[N];exact MF DZ NM hd
 have zl:=mB (λp:Mk×Nat=>D.int (p.2:Int)) (YD (rs.map<|red M) M ks<|near (rs.map<|red M) ms d.1 ks)<|near (rs.map<|red M) ms d.1 ks;have ne:near (rs.map<|red M) ms d.1 ks≠[]:=λz=>by rw[z]at F;cases F.1
 unfold SI;generalize rs.map (red M)=R at *;unfold YD at *;generalize near R ms d.1 ks=L at *;generalize D.lst (rs.map bD)=rl at *;generalize bY n (RT R)=mt at *;have lp:¬ (L.length:Int)=0:=by
  intro z;exact ne<|List.length_eq_zero_iff.mp<|by lia
 have li:cE [.lst<|L.map λp=>D.int (p.2:Int)]=b4 (.int (L.length:Int)):=by rw[q_lenL,zaj]
 have lm:cE [.lst<|ms.map bL]=b4 (.int (ms.length:Int)):=by rw[q_lenL,zaj]
 refine aM ?_;unfold pK;generalize hrw:(L.map λp=>D.tup [.int (p.2:Int),.int ((ED R M ks L p).2:Int),shf R M ks p.1 (ED R M ks L p).1])=rows at *;have lr:cE [.lst rows]=b4 (.int (L.length:Int)):=by rw[<- hrw,q_lenL,zaj]
 have ti:uM "tuple" (tupI ks)=cp:=rfl;have wl:mS (bE aN (aD 4)<|eC<|D.int 1) [b4<|.int M,b4 rl,b4 mt,b4<|.lst<|ms.map bL,b4<|.tup [.str d.1,tupI ks,.lst rows],cg,cg,cg,cg,cg]=b4 (ks.map .int):=rfl;refine(aG (ρ':=[b4<|.int M,b4 rl,b4 mt,b4<|.lst<|ms.map bL,b4<|.tup [.str d.1,tupI ks,.lst rows],cg,cg,cg,cg,cg]) ?_).trans ?_
 .have Y:EE (.int 3) (.int 3)=b4 (.bl cr):=by simp_all
  exact s_iff (pO (c:=cr) (c6 (c:=cp)<|dE rfl)<|yO rfl<|pO (c:=cr) (dE<|cF (cW (cG (cA rfl) rfl) rfl) mZ Y)<|yO rfl<|c6 (c:=cp)<|dE rfl) rfl
 refine(aG<|D8 (f:=JM _) (g:=B4) ?_).trans ?_
 .generalize tupI ks=tk at *
  refine pO (c:=cr) (by ac_rfl)<|yO rfl ?_;rfl
 refine xB (λρ=>∃o5,ρ=[b4<|.int M,b4 rl,b4 mt,b4<|.lst<|ms.map bL,b4<|.tup [.str d.1,tupI ks,.lst rows],o5,cg,cg,cg,cg]) ks (f:=.int) wl {cg,rfl} ?_ ?_
 .rintro k J _ ⟨o5,rfl⟩
  have vn:=gY (G k J).1 (G k J).2;generalize tupI ks=tk at *;exact{_,cK rfl<|s_iff (c6 (c:=cp)<|by ac_rfl) rfl,_,rfl}
 rintro _ ⟨o5,rfl⟩;have e0:pZ (.int (L.length:Int)) (.int 0)=b4 (.bl cr):=by simp_all[lp,ne]
 have e1:EE (.int (L.length:Int)) (.int (L.length:Int))=b4 (.bl cr):=by simp_all
 have W:∀p∈L,iO [.int M,rl,mt,.lst<|ms.map bL,tupI ks,.lst<|L.map λp=>.int (p.2:Int),.lst<|L.map λp=>cL R M ks p.1,.tup [.int (p.2:Int),.int ((ED R M ks L p).2:Int),shf R M ks p.1 (ED R M ks L p).1]]=b4 (.bl cp):=sh;have nq:∀p∈L,fS (.int ((ED R M ks L p).2:Int)) (.lst<|L.map λp=>.int (p.2:Int))=b4 (.bl cr):=λp q=>by
  have:=MF (f:=λ(k:Nat)=>D.int (k:Int)) FM (λ_=>rfl) (l:=L.map (·.2)) (x:=(ED R M ks L p).2)<|List.mem_map.mpr {_,fm p q,rfl};rw[zaI]at this;exact this
 generalize (L.map λp=>cL R M ks p.1)=tb at *;generalize tupI ks=tk at *;generalize hni:(L.map λp=>D.int (p.2:Int))=ni at *;rw[aG<|aJ (d:=.lst ni)<|by ac_rfl];refine(aG<|D8 (f:=JM _) (g:=B4)<|by ac_rfl).trans ?_;rw[aG<|aJ (d:=.lst tb)<|by ac_rfl];refine xB (λρ=>∃o8 U,ρ=[b4<|.int M,b4 rl,b4 mt,b4<|.lst<|ms.map bL,b4<|.tup [.str d.1,tk,.lst rows],o5,b4<|.lst ni,b4<|.lst tb,o8,U]) L (f:=λp=>.tup [.int (p.2:Int),.tup [.int (p.2:Int),.int ((ED R M ks L p).2:Int),shf R M ks p.1 (ED R M ks L p).1]]) ?_ {cg,cg,rfl} ?_ ?_
 .rw[<- zl]
  simp_all[at2]
 .rintro p q _ ⟨o8,U,rfl⟩
  have s1:=W p q;have n1:=nq p q;have b1:=gY (i:=(p.2:Int)) (m:=(ms.length:Int)) (by lia) (by have:=bd p q;lia);have b2:=gY (i:=((ED R M ks L p).2:Int)) (m:=(ms.length:Int)) (by lia) (by have:=bd _<|fm p q;lia);have e3:EE (.int (p.2:Int)) (.int (p.2:Int))=b4 (.bl cr):=by simp_all
  generalize shf R M ks p.1 (ED R M ks L p).1=sh_ at *;generalize ((ED R M ks L p).2:Int)=q2 at *;generalize (p.2:Int)=p2 at *;have l3:cE [.tup [.int p2,.int q2,sh_]]=b4 (.int 3):=rfl;have Y:EE (.int 3) (.int 3)=b4 (.bl cr):=by simp_all
  exact{_,cK rfl<|aR (s_iff (pO (c:=cr) rfl<|yO rfl<|pO (c:=cr) (by ac_rfl)<|yO rfl<|pO (c:=cr) (c6 (c:=cp)<|by ac_rfl)<|yO rfl<|dE<|by ac_rfl) rfl)<|bI<|aR (s_iff (pO (c:=cr) (c6 (c:=cp)<|by ac_rfl)<|yO rfl<|dE<|by ac_rfl) rfl)<|bI<|s_iff (c6 (c:=cp)<|by ac_rfl) rfl,_,_,rfl}
 .rintro _ ⟨o8,U,rfl⟩
  rfl
def uR(B:Bok M n rs ms)(F:∀k∈ks,0<=k/\k<(n:Int))(J:ks.length=1\/ks.length=2):jV [.int M,.lst<|rs.map bD,bY n<|RT<|rs.map<|red M,.lst<|ms.map bL,.str d.1,tupI ks]=b4 (.bl<|!bad (rs.map<|red M) M ms d ks):=by
 have N:=B.ml;have nl:=mC (R:=rs.map<|red M) (ms:=ms) (x:=d.1) (ks:=ks);have W:=jZ B F (x:=d.1);have Y:=lU B F J (L:=near (rs.map<|red M) ms d.1 ks) (λp q=>{(bQ q).1,(bQ q).2.1,(bQ q).2.2.2}) (by lia);have U:=nC B (ks:=ks) (L:=near (rs.map<|red M) ms d.1 ks) λp q=>{(bQ q).1,(bQ q).2.1};unfold bad;generalize rs.map (red M)=R at *;generalize near R ms d.1 ks=L at *;generalize D.lst (rs.map bD)=rl at *;generalize bY n (RT R)=mt at *;generalize (L.map λp=>cL R M ks p.1)=tb at *;have z:cE [.lst<|L.map λp=>D.int (p.2:Int)]=b4 (.int (L.length:Int)):=by rw[q_lenL,zaj]
 generalize (L.map λp=>D.int (p.2:Int))=ni at *;have nn:dJ (i8<|best R M ks L)=(best R M ks L).isNone:=by cases best R M ks L <;> rfl
 generalize i8 (best R M ks L)=bd at *;generalize (best R M ks L).isNone=bn at *;generalize tupI ks=tk at *;refine aM ?_;unfold j4;rw[aG<|aJ (d:=.lst ni)<|by ac_rfl,aG<|aJ (d:=.lst tb)<|by ac_rfl,aG<|aJ (d:=bd)<|by ac_rfl];cases L with
 |nil=>
  simp_all[aK,z]
 |cons p L=>
  have G:¬ ((L.length:Int)+1=0):=by lia
  simp_all[aK,z,G,nn]
def JC:List Int->List Int->Prop
 |[],_::_=>True
 |a::as,b::bs=>a<b\/(a=b/\JC as bs)
 |_,_=>False
theorem MW:∀(ks ls:List Int),∃b,My.lE (ks.map .int) (ls.map .int)=b4 b/\(b=cp->JC ks ls)
 |[],[]=>{cr,by rw[zbB,My.lE],λz=>nomatch z}
 |[],_::_=>{cp,by rw[zbB,zak,My.lE],λ_=>trivial}
 |_::_,[]=>{cr,by rw[zbB,zak,My.lE],λz=>nomatch z}
 |a::as,b::bs=>by
  rw[zak,zak,My.lE];by_cases h:a=b
  .subst h
   obtain⟨c,e,k⟩:=MW as bs;exact{c,by rw[cw rfl,e],λz=>.inr {rfl,k z}}
  .exact{decide (a<b),by rw[cx (λz=>h<|by injection z),My.EF],λz=>.inl<|of_decide_eq_true z}
def OV(U:ks.length=1\/ks.length=2)(G:ls.length=1\/ls.length=2):∃b,JE (.tup [.int i,tupI ks]) (.tup [.int j,tupI ls])=b4 (.bl b)/\(b=cp->i<j\/(i=j/\JC ks ls)):=by
 have ok:∀ {i:Int} {ks:List Int},(ks.length=1\/ks.length=2)->cY (.tup [.int i,tupI ks])=cp/\jC (.tup [.int i,tupI ks])=b4 (.tup [.int i,.tup<|ks.map .int]):=by
  rintro i ks (z|z)
  .obtain⟨a,rfl⟩:=List.length_eq_one_iff.mp z;exact{rfl,rfl}
  .obtain⟨a,b,rfl⟩:=iB z;exact{rfl,rfl}
 obtain⟨B,N⟩:=ok (i:=i) U;obtain⟨F,J⟩:=ok (i:=j) G;obtain⟨b,e,k⟩:=MW ks ls;unfold JE;rw[cw {B,F},N,J,aA,aA,My.EF,My.lE];by_cases h:i=j
 .subst h
  rw[cw rfl,My.lE];by_cases q:(My.Dx.tup<|ks.map .int)=.tup (ls.map .int)
  .rw[cw q,My.lE];exact{cr,rfl,λz=>nomatch z}
  .rw[cx q,My.EF,e];exact{b,rfl,λz=>.inr {rfl,k z}}
 .rw[cx (λz=>h<|by injection z),My.EF]
  exact{decide (i<j),rfl,λz=>.inl<|of_decide_eq_true z}
def rk(n:Nat):List Int->Int
 |[a]=>a
 |[a,b]=>a*(n:Int)+b
 |_=>0
def MG(z:a=1\/a=2){i:Nat}(h:(ktl n a)[i]?=b4 ks):rk n ks=(i:Int):=by
 unfold ktl at h;rcases z with rfl|rfl
 .rw[cw rfl,zaq]at h
  obtain⟨k,h1,rfl⟩:=Option.map_eq_some_iff.mp h;obtain⟨h2,q⟩:=List.getElem?_eq_some_iff.mp h1;rw[List.getElem_range]at q;show(k:Int)=_;lia
 .rw[cx<|by decide,zaq]at h
  obtain⟨k,h1,rfl⟩:=Option.map_eq_some_iff.mp h;obtain⟨h2,q⟩:=List.getElem?_eq_some_iff.mp h1;rw[List.getElem_range]at q;show(k:Int)/(n:Int)*(n:Int)+(k:Int)%(n:Int)=_;rw[Int.mul_comm,Int.mul_ediv_add_emod];lia
def UX{n:Nat}(z:0<=a/\a<(n:Int))(B:0<=b/\b<(n:Int)):[a]∈ktl n 1/\[a,b]∈ktl n 2:=by
 unfold ktl;rw[cw rfl,cx<|by decide];obtain⟨x,rfl⟩:=zeH z.1;obtain⟨y,rfl⟩:=zeH B.1;have q:x<n:=by have:=z.2;lia
 have F:y<n:=by have:=B.2;lia
 have G:0<n:=by lia
 refine{List.mem_map.mpr {x,List.mem_range.mpr q,rfl},List.mem_map.mpr {x*n+y,List.mem_range.mpr ?_,?_}}
 .exact zba (show x*n+y<(x+1)*n by rw[Nat.succ_mul];lia)<|Nat.mul_le_mul_right _ q
 .have J:(x*n+y)/n=x:=by rw[Nat.mul_comm,Nat.mul_add_div G,Nat.div_eq_of_lt F,Nat.add_zero]
  have N:(x*n+y)%n=y:=by rw[Nat.mul_comm,Nat.mul_add_mod,Nat.mod_eq_of_lt F]
  rw[<- Int.natCast_ediv,<- Int.natCast_emod,J,N]
def VS{n a:Nat}(J:a=1\/a=2)(G:ks.length=a)(B:ls.length=a)(bk:∀k∈ks,0<=k/\k<(n:Int))(N:∀k∈ls,0<=k/\k<(n:Int))(h:JC ks ls):rk n ks<rk n ls:=by
 rcases J with rfl|rfl
 .obtain⟨x,rfl⟩:=List.length_eq_one_iff.mp G
  obtain⟨y,rfl⟩:=List.length_eq_one_iff.mp B;rcases h with z|⟨_,z⟩
  .exact z
  .exact absurd z<|by simp_all[JC]
 .obtain⟨x,F,rfl⟩:=iB G
  obtain⟨y,q,rfl⟩:=iB B;have W:=bk F (by simp_all);have U:=N q (by simp_all);show x*(n:Int)+F<y*(n:Int)+q;rcases h with z|⟨rfl,z⟩
  .have:=Int.mul_le_mul_of_nonneg_right (show x+1<=y by lia) (show 0<=(n:Int) by lia)
   rw[Int.add_mul]at this;lia
  .rcases z with z|⟨_,z⟩
   .lia
   .exact absurd z<|by simp_all[JC]
def AK{q:Type}{P:q->Bool}{l:List q}{x:q}(h:l.find? P=b4 x):∃j:Nat,l[j]?=b4 x/\P x=cp/\∀(i:Nat) (y:q),i<j->l[i]?=b4 y->P y=cr:=by
 obtain⟨h0,as,bs,rfl,h1⟩:=List.find?_eq_some_iff_append.mp h;refine{as.length,by simp_all,h0,λi y hi z=>?_};rw[zcW hi]at z;simpa using h1 y (zaA z)
def KS{q:Type}{l:List q}(h:l.Nodup){i j:Nat}{x:q}(a:l[i]?=b4 x)(b:l[j]?=b4 x):i=j:=by
 obtain⟨F,ea⟩:=List.getElem?_eq_some_iff.mp a;obtain⟨B,z⟩:=List.getElem?_eq_some_iff.mp b;exact(zcT h).mp<|ea.trans z.symm
def IH{M:Int}{n:Nat}{rs:List Ro}(B:Bok M n rs ms):(YH (rs.map<|red M) M n ms (X4 (rs.map<|red M) M n ms)=.non/\∀d∈dO ms,∀ks∈ktl n d.2,bad (rs.map<|red M) M ms d ks=cr)\/∃(d:Str×Nat) (ks:List Int) (j:Nat),YH (rs.map<|red M) M n ms (X4 (rs.map<|red M) M n ms)=SI (rs.map<|red M) M ms d ks/\(dO ms)[j]?=b4 d/\ks∈ktl n d.2/\bad (rs.map<|red M) M ms d ks=cp/\(∀(i:Nat) (d':Str×Nat),i<j->(dO ms)[i]?=b4 d'->∀q∈ktl n d'.2,bad (rs.map<|red M) M ms d' q=cr)/\∀q∈ktl n d.2,rk n q<rk n ks->bad (rs.map<|red M) M ms d q=cr:=by
 unfold X4;generalize rs.map (red M)=R;cases e:(dO ms).find? λd=>((ktl n d.2).find?<|bad R M ms d).isSome with
 |none=>
  refine .inl {rfl,λd hd ks F=>?_};have h1:=List.find?_eq_none.mp e d hd;cases e2:(ktl n d.2).find? (bad R M ms d)with
  |some _=>rw[e2]at h1;exact absurd rfl h1
  |none=>simpa using List.find?_eq_none.mp e2 ks F
 |some d=>
  obtain⟨j,h1,h2,W⟩:=AK e;obtain⟨ks,F⟩:=Option.isSome_iff_exists.mp h2;obtain⟨k,N,g2,g3⟩:=AK F;have J:=yC B<|zaA h1;refine .inr {d,ks,j,?_,h1,zaA N,g2,λi d' hi G q z=>?_,λq z Y=>?_}
  .show(match (ktl n d.2).find? (bad R M ms d)with|none=>D.non|some ks=>SI R M ms d ks)=_
   rw[F]
  .have U:=W i d' hi G
   cases e2:(ktl n d'.2).find? (bad R M ms d')with
   |some _=>rw[e2]at U;cases U
   |none=>simpa using List.find?_eq_none.mp e2 q z
  .obtain⟨i,hi⟩:=List.getElem?_of_mem z
   have r1:=MG J hi;have r2:=MG J N;exact g3 i q (by lia) hi
def YM(ns:List Int)(hl:ns.length<=63):aY 15 NQ [.lst<|ns.map .int]=b4 (.bl cp):=by
 obtain⟨f,hf⟩:=iY ns;obtain⟨M,c,n,rs,ms,eb,hM,hn,hr,hm,al⟩:=C3 ns;have vb:=WZ (c:=c) hM hn hr hm al;have g:=WT hM.1 hr.1 hr.2;have vr:=zA g hn.2;have B:Bok M n rs ms:={hM.1,hM.2.1,hn,g,λr h=>{(hr.2 r h).2.2.2.1,(hr.2 r h).2.2.2.2},hm,al};have np:(0:Int)<(n:Int):=by lia
 have vm:=wU (c:=c) B;have vd:=oY hm;have fc:=IH B;have sw:=λ(d:Str×Nat) N (ks:List Int) hk ag hb=>zG B (d:=d) N (ks:=ks) hk ag hb
 have st:=λ(d:Str×Nat) (ks:List Int) hk ag=>uR B (d:=d) (ks:=ks) hk ag
 have dk:=λ(d:Str×Nat) (N:d∈dO ms)=>yC B N
 have dn:=(nN ms [] .nil).1;have dl:=(nN ms [] .nil).2.1;have nk:cE [.lst<|dN c n]=b4 (.int (n:Int)):=by rw[q_lenL,gN]
 have ld:cE [.lst<|(dO ms).map lI]=b4 (.int ((dO ms).length:Int)):=by rw[q_lenL,zaj]
 change (dO ms).Nodup at dn;change (dO ms).length<=([]:List<|Str×Nat).length+ms.length at dl;simp only[zbZ,zcR]at dl;have kt:=λ(d:Str×Nat) (N:d∈dO ms) (ks:List Int) (h:ks∈ktl n d.2)=>xF hn (dk d N) h
 generalize hFD:YH (rs.map<|red M) M n ms (X4 (rs.map<|red M) M n ms)=FD at vm fc
 -- what is found is well Y
 have Y:(FD=.non)\/(dJ FD=cr/\iR [.int M,.lst<|rs.map bD,bY n<|RT<|rs.map<|red M,.lst<|ms.map bL,FD]=b4 (.bl cp)):=by
  rcases fc with⟨z,_⟩|⟨d,ks,j,rfl,h1,h2,h3,_⟩
  .exact .inl z
  .have N:=zaA h1
   exact .inr {rfl,sw d N ks (kt d N ks h2).2 (kt d N ks h2).1 h3}
 -- each question
 have af:∀(i:Nat) (d:Str×Nat) (ks:List Int),(dO ms)[i]?=b4 d->ks∈ktl n d.2->(FD=.non/\bad (rs.map<|red M) M ms d ks=cr)\/∃(x:Str) (ls:List Int) (aa:List D) (j:Nat) (b:Bool),FD=.tup [.str x,tupI ls,.lst aa]/\cE [tupI ls]=b4 (.int (ls.length:Int))/\lD (.lst<|(dO ms).map lI) (.tup [.str x,.int (ls.length:Int)])=b4 (.int (j:Int))/\JE (.tup [.int (i:Int),tupI ks]) (.tup [.int (j:Int),tupI ls])=b4 (.bl b)/\(b=cp->bad (rs.map<|red M) M ms d ks=cr):=λi d ks hi U=>by
  have N:=zaA hi;rcases fc with⟨z,h⟩|⟨d0,ls,j,rfl,h1,h2,h3,h4,h5⟩
  .exact .inl {z,h d N ks U}
  .have ah:=zaA h1
   have k0:=kt d0 ah ls h2;have k1:=kt d N ks U;obtain⟨j',e1,e2⟩:=MR DZ NM ah (by lia);have ej:=KS dn e1 h1;subst ej;obtain⟨b,e3,e4⟩:=OV (i:=(i:Int)) (j:=(j':Int)) (ks:=ks) (ls:=ls) (by rw[k1.1];exact dk d N) (by rw[k0.1];exact dk d0 ah);refine .inr {d0.1,ls,_,j',b,rfl,by unfold tupI;rw[q_lenT,zaj],?_,e3,λhb=>?_}
   .rw[k0.1];exact e2
   .rcases e4 hb with z|⟨z,q⟩
    .exact h4 i d (by lia) hi ks U
    .have ez:i=j':=by lia
     subst ez;rw[hi]at h1;cases h1;exact h5 ks U<|VS (dk d N) k1.1 k0.1 k1.2 k0.2 q
 clear fc sw;refine aM ?_;unfold NQ;rw[aG (ρ':=[b4<|.lst<|ns.map .int,b4<|.int M,b4<|.lst<|dN c n,b4<|.lst<|rs.map bD,b4<|.lst<|ms.map bL,cg,cg,cg,cg,cg,cg,cg,cg,cg,cg])<|by ac_rfl];rw[aG<|aJ (d:=bY n<|RT<|rs.map<|red M)<|by ac_rfl];rw[aG<|aJ (d:=FD)<|by ac_rfl];rw[aG<|aJ (d:=.lst<|(dO ms).map lI)<|by ac_rfl];generalize hmt:bY n (RT<|rs.map<|red M)=mt at *;generalize hrl:D.lst (rs.map bD)=rl at *;generalize hml:D.lst (ms.map bL)=mll at *;refine(aG<|D8 (f:=JM _) (g:=B4) ?_).trans ?_
 .rcases Y with rfl|⟨z1,z2⟩
  .exact i5 (c:=cr) rfl rfl
  .exact i5 (c:=cp) (dE<|cF (cA rfl) mZ<|congrArg (λb=>b4<|D.bl<|!b) z1)<|JA rfl<|c6 (c:=cp)<|by ac_rfl
 obtain⟨hi,bw,a1⟩:∃hi:Int,(35<=hi/\hi<=50)/\(aE (eC<|.int 31)<|aE (aW GL<|aE (eC<|.int 35)<|aE (aW GC<|aE (aW cE<|aE (aD 0) bB)<|aE (eC<|.int 50) bB) bB) bB) [b4<|.lst<|ns.map .int,b4<|.int M,b4<|.lst<|dN c n,b4 rl,b4 mll,b4 mt,b4 FD,b4<|.lst<|(dO ms).map lI,cg,cg,cg,cg,cg,cg,cg]=b4 [.int 31,.int hi]:=by
  refine{if(if(50:Int)<(ns.length:Int)then 50 else(ns.length:Int))>35 then(if(50:Int)<(ns.length:Int)then 50 else(ns.length:Int))else 35,by constructor <;> split <;> (try split) <;> lia,?_}
  simp_all
 have r2:d6 [.int 31,.int hi]=b4 ((zav (hi-31).toNat).map λ(k:Nat)=>D.int<|31+(k:Int)*1):=by
  show(if(cI 31 && cI hi)=cp then b4 (aU 31 1 (hi-31).toNat)else cg)=_;rw[cw<|by simp_all[cI];lia];rfl
 refine(TB (λ_=>.bl cp) (P:=λ_=>(dO ms).isEmpty) (f:=λ(k:Nat)=>D.int<|31+(k:Int)*1) (λρ=>∃o8 o9 J ab W G F,ρ=[b4<|.lst<|ns.map .int,b4<|.int M,b4<|.lst<|dN c n,b4 rl,b4 mll,b4 mt,b4 FD,b4<|.lst<|(dO ms).map lI,o8,o9,J,ab,W,G,F]) (zav (hi-31).toNat) (wK a1 r2) {_,_,_,_,_,_,_,rfl} ?_ ?_ ?_)
 .rintro k hk _ ⟨o8,o9,J,ab,W,G,F,rfl⟩ hc
  have k1:=List.mem_range.mp hk;have fI:=hf (31+(k:Int)*1) (by lia) (by lia);generalize f (31+(k:Int)*1)=ce at fI;generalize 31+(k:Int)*1=I at fI;have lp:0<(dO ms).length:=by
   cases e:dO ms with
   |nil=>rw[e]at hc;cases hc
   |cons a b=>exact Nat.succ_pos _
  have ai:(0:Int)<((dO ms).length:Int):=by lia
  have m0:=zay ce<|zaX ai;have m1:=zaz ce ai;obtain⟨i,ei⟩:=zeH m0;have il:i<(dO ms).length:=by lia
  have ac:(dO ms)[i]?=b4 (dO ms)[i]:=zaH il;generalize (dO ms)[i]=d at ac;have N:=zaA ac;have dm:dM (.int ce) (.int ((dO ms).length:Int))=b4 (.int (i:Int)):=by rw[bS ai,ei]
  have ad:d8 ((dO ms).map lI) (i:Int)=b4 (.tup [.str d.1,.int (d.2:Int)]):=bH (by rw[zaq,ac];rfl);have e0:pZ (.int ((dO ms).length:Int)) (.int 0)=b4 (.bl cr):=by
   have:¬ ((dO ms).length:Int)=0:=by lia
   simp_all[this];exact λz=>by simp[-zad,-zae,aA,aB,z]at lp
  have kb:∀y:Int,0<=y%(n:Int)/\y%(n:Int)<(n:Int):=λy=>{zay _<|zaX np,zaz _ np}
  obtain⟨ks,U,ao⟩:∃ks,ks∈ktl n d.2/\∀ {J G F:Option D},OA lF (gQ<|aE (bE dM (bE lG (aD 9)<|eC<|D.int 5)<|aW cE<|aE (aD 2) bB)<|aE (bE dM (bE lG (aD 9)<|eC<|D.int 30)<|aW cE<|aE (aD 2) bB) bB) uI (mX<|aD 11) [b4<|.lst<|ns.map .int,b4<|.int M,b4<|.lst<|dN c n,b4 rl,b4 mll,b4 mt,b4 FD,b4<|.lst<|(dO ms).map lI,b4<|.int I,b4<|.int ce,J,b4<|.int (d.2:Int),W,G,F]=b4 (tupI ks):=by
   have q1:dM (.int<|ce/5) (.int (n:Int))=b4 (.int<|ce/5%(n:Int)):=bS np;have q2:dM (.int<|ce/30) (.int (n:Int))=b4 (.int<|ce/30%(n:Int)):=bS np;have q3:lG (.int ce) (.int 5)=b4 (.int<|ce/5):=gO (by decide) (by decide);have q4:lG (.int ce) (.int 30)=b4 (.int<|ce/30):=gO (by decide) (by decide);obtain⟨i1,i2⟩:=UX (kb<|ce/5)<|kb<|ce/30;have tt:∀ {J G F:Option D},gQ (aE (bE dM (bE lG (aD 9)<|eC<|D.int 5)<|aW cE<|aE (aD 2) bB)<|aE (bE dM (bE lG (aD 9)<|eC<|D.int 30)<|aW cE<|aE (aD 2) bB) bB) [b4<|.lst<|ns.map .int,b4<|.int M,b4<|.lst<|dN c n,b4 rl,b4 mll,b4 mt,b4 FD,b4<|.lst<|(dO ms).map lI,b4<|.int I,b4<|.int ce,J,b4<|.int (d.2:Int),W,G,F]=b4 (.tup [.int<|ce/5%(n:Int),.int<|ce/30%(n:Int)]):=by
    intro J G F;generalize ce/5%(n:Int)=y1 at *;generalize ce/30%(n:Int)=y2 at *
    ac_rfl
   rcases dk d N with z|z
   .exact{[ce/5%(n:Int)],by rw[z];exact i1,λ{J G F}=>BP tt rfl (BO (i:=(d.2:Int)) rfl)<|by rw[show(d.2:Int)=1 by lia];rfl}
   .exact{[ce/5%(n:Int),ce/30%(n:Int)],by rw[z];exact i2,λ{J G F}=>BP tt rfl (BO (i:=(d.2:Int)) rfl)<|by rw[show(d.2:Int)=2 by lia];rfl}
  have km:=kt d N ks U;have vs:=st d ks km.2 (by rw[km.1];exact dk d N);have as:=af i d ks ac U;generalize bad (rs.map<|red M) M ms d ks=bd at vs as;generalize tupI ks=tk at *;rcases as with⟨rfl,a3⟩|⟨x,ls,aa,j,b,rfl,g1,g2,g3,g4⟩
  .subst a3
   refine{[b4<|.lst<|ns.map .int,b4<|.int M,b4<|.lst<|dN c n,b4 rl,b4 mll,b4 mt,b4 .non,b4<|.lst<|(dO ms).map lI,b4<|.int I,b4<|.int ce,b4<|.str d.1,b4<|.int (d.2:Int),b4 tk,b4<|.bl cp,F],?_,_,_,_,_,_,_,_,rfl};refine cK rfl<|aR (aJ (d:=.int ce)<|by ac_rfl)<|bI<|aR (s_iff (dE<|by ac_rfl) rfl)<|bI<|aR (DO (x:=.tup [.str d.1,.int (d.2:Int)]) (by ac_rfl) rfl)<|bI<|aR (aJ (d:=tk) ao)<|bI<|aR (aJ (d:=.bl cp) rfl)<|bI<|aR (s_iff rfl rfl)<|bI<|s_iff ?_ rfl;exact i5 (c:=cp) rfl<|JA rfl<|c6 (c:=cp)<|by ac_rfl
  .generalize tupI ls=tl at *
   refine{[b4<|.lst<|ns.map .int,b4<|.int M,b4<|.lst<|dN c n,b4 rl,b4 mll,b4 mt,b4<|.tup [.str x,tl,.lst aa],b4<|.lst<|(dO ms).map lI,b4<|.int I,b4<|.int ce,b4<|.str d.1,b4<|.int (d.2:Int),b4 tk,b4<|.bl b,b4<|.int (j:Int)],?_,_,_,_,_,_,_,_,rfl};refine cK rfl<|aR (aJ (d:=.int ce)<|by ac_rfl)<|bI<|aR (s_iff (dE<|by ac_rfl) rfl)<|bI<|aR (DO (x:=.tup [.str d.1,.int (d.2:Int)]) (by ac_rfl) rfl)<|bI<|aR (aJ (d:=tk) ao)<|bI<|aR (aJ (d:=.bl cr) rfl)<|bI<|aR (s_ift rfl<|aR (aJ (d:=.int (j:Int))<|by ac_rfl)<|bI<|aJ (d:=.bl b)<|by ac_rfl)<|bI<|s_iff ?_ rfl;cases b with
   |false=>exact i5 (c:=cr) rfl rfl
   |true=>
    rw[g4 rfl]at vs;exact i5 (c:=cp) rfl<|JA rfl<|c6 (c:=cp)<|by ac_rfl
 .rintro k hk _ ⟨o8,o9,J,ab,W,G,F,rfl⟩ hc
  have k1:=List.mem_range.mp hk;have fI:=hf (31+(k:Int)*1) (by lia) (by lia);generalize f (31+(k:Int)*1)=ce at fI;generalize 31+(k:Int)*1=I at fI;have ez:dO ms=[]:=List.isEmpty_iff.mp hc;have ef:FD=.non:=by
   rw[<- hFD];unfold X4;rw[ez];rfl
  subst ef;rw[ez]at ld ⊢;have e0:pZ (.int (([]:List<|Str×Nat).length:Int)) (.int 0)=b4 (.bl cp):=by simp_all
  exact cK rfl<|aR (aJ (d:=.int ce)<|by ac_rfl)<|bI<|aR (p:=.rt<|.bl cp) (s_ift (dE<|by ac_rfl)<|kH rfl) rfl
 .rintro _ ⟨o8,o9,J,ab,W,G,F,rfl⟩
  rfl
def qbc:Bds top tab:=by
 unfold tab
 repeat (refine Bds.cons ?_ ?_;· (repeat intro _);rfl)
 exact Bds.nil
def WX{l:ze2}{w:World}{K:zaf}{h:Heap}{mg:Str->Option Value}{fa:Addr}{k:Nat}(X:K.In h)(G:h.Ns za3 mg)(am:mg "law" = b4 (.ref fa))(D:Des K top tab)(B:Nos K blt)(J:Gis K gis)
  {f0:Addr} {al ae:Option Addr} {aj:Array (Option Value)} {ak ah ad af ac ag:Value} (a0:zcz K za3 "law" = b4 (b4<|.ref f0)) (l0:K.lookup f0=b4 {ak,al,.func<|zbK "law" "law" (d7 s_law) (b9 s_law) (aS s_law) .none ah ad af ae ac ag,aj}) (c0:zcX K ac "law" = cp) (k0:zct K (.ref f0)=cp)
  {q:Addr} {Y:Option Addr} {aa:Nat} {ab:Array (Option Value)} {z F N U:Tok} (gaWORDS:zcz K za3 "WORDS" = b4 (b4<|.ref q)) (glWORDS:K.lookup q=b4 {.type "tuple",Y,.seq #[.str "let" z,.str "in" F,.str "pick" N,.str "again" U] aa,ab})
  (ok:∀base:Heap,K.In base->base.Ns za3 mg->Txt K mg->My.BodyOk l.prog w K mg base "law" s_law ["script", "M", "kinds", "roads", "makes", "reach", "found", "deeds_v", "k", "cell", "name", "many", "some", "asked", "at"] k (My.BN K)) :
  ∃fd:zbt,(∀(s:zab) (v:Value),BindsTo s fd {[v],[]} [("script",v)])/\∀base:Heap,K.In base->base.Ns za3 mg->FnOk l.prog w K mg base JJ (k+1) fa fd ["script"] (My.BN K):=by
 have e:=am.symm.trans<|zeG X G a0;cases e;have F0:=MJ (st:=s_law) l0 c0 k0;have T:Txt K mg:={Des.d X G D qbc,λx hx=>PySem.W.mg_none_of X G<|B x hx,Gis.d X G J,{{_,zeG X G gaWORDS,_,_,_,glWORDS,rfl,rfl,by show 4<=zal;decide,.cons {_,rfl}<|.cons {_,rfl}<|.cons {_,rfl}<|.cons {_,rfl}<|.nil}}};refine{zbK "law" "law" (d7 s_law) (b9 s_law) (aS s_law) .none ah ad af ae ac ag,λs v=>.of_eq rfl,λbase kb nb=>?_};exact(ok base kb nb T).fn F0 sc_law λvs H Q E h=>by obtain⟨a,ns,e,_⟩:=h;rw[e];rfl
end Law
set_option genInjectivity false in
structure PySem.W.Fast:Prop where(tw3923365652159841060 tw13852047613231508466 tw7241774859315012006 tw4416791395462663850 tw9581073230401550896 tw15435564918329192197 tw11331706236377352297 tw13172721102254858464 tw16078339925908021657 tw5610608377373009011 tw13887404518673003180 tw3121649308124067975 tw3368939828342276267 tw14698354939790662806 tw2996318719392384087 tw8211418255651060203 tw1231934771485080316 tw16937888807060188467 tw5767510186333658223 tw16665538209005901810 tw11721259078765464446 tw2891552446977315569 tw2242164592875242746 tw11052429341752520419 tw3774051751118366101 tw4589755418706110254 tw16974697040331177696 tw16901727054044236502 tw7957987132390918281 tw7467209236386337067 tw17114807365961687751 tw13290084243687368638 tw16314078766749843327 tw4534832609565246319 tw8253033507425771510 tw15742819298978962503 tw7656526022865613083 tw12208085503841084853 tw6576596021510108141 tw9252196366484106118 tw16336223859067253363 tw11156399305246805776 tw15370461485324755225 tw8639486415370818801 tw17410726763472944237 tw16487778619216105806 tw1936144719977586601 tw12084070342009646307 tw2783738098811334641 tw14977778629768245924 tw1410701769008708593 tw11556698253269870996 tw9489831316706373278 tw9214690732775937573 tw8809185578998815601 tw5367264866532885870 tw17811320350300845146 tw4362355043585586265 tw18281265867430286640 tw12979521624251409857 tw9492265081255897418 tw17005991669921711935 tw1111289055858077319 tw5694014834698026889 tw1708400546577157309 tw16839301835602314629 tw11548522840747159075 tw11555293763526071076 tw15664589097806338781 tw16139887588893786704 tw12442393982896891604 tw11939787605933433664 tw8716695092254395489 tw8182727237632421586 tw14370028520956384384 tw13472257489020232441 tw12797955097575741424 tw8319964055928307125 tw15721593190796996300 tw8319775495016889025 tw17287902154357318294 tw15326138925594584398 tw10675817138986976157 tw2690596051833684373 tw17195307883696589927 tw2781693470956832788 tw10206181185274757571 tw13270471839681813744 tw5880335213093163183 tw10085254135970433247 tw7867645213157765847 tw14718518043377974085 tw9274159263054335372 tw179438960375030129 tw6496090810847341946 tw15641035497504261595 tw3092887667479830559 tw7837713777403822367 tw8470700981273052120 tw12507795704478981869 tw15097826811788911970 tw10399067762603467688 tw3443695187085982629 tw3220645135233849857 tw13487620186063205730 tw15661246686648297462 tw10968106482829398105 tw14048248746726081232 tw6244820626732158310 tw15184774208631175874 tw13777547868739643093 tw6230512808239791263 tw9717620227515139269 tw5068302866088814013 tw5878390982255835262 tw12870734426828976227 tw2856379142130394293 tw7805519023423441733 tw17758592829944916402 tw16401777245599510317 tw4077318072754291743 tw6491191044083699107 tw16434332217223210126 tw1419219202330159295 tw11405478847240441718 tw2030137449510690929 tw10341551709599976962 tw12835268965324572498 tw15206478308498909462 tw5491172079838925317 tw16368010793506426555 tw12353004589238520728 tw17672695052810438341 tw18187169738477719520 tw14159533058089135574 tw15713251751714814790 tw12105450725976016967 tw15926415975760630954 tw1052343753663816754 tw10553627093502596502 tw17725757671934158756 tw16673813645998392592 tw15495024188043945815 tw18167108860657020435 tw6626516339089829182 tw11584585481045011264 tw506400123967271807 tw6939333085717433783 tw16861134919573893085 tw13103359381199406883 tw8075879954246638968 tw17554408311872147506 tw10042332450957043432 tw9347779685934948943 tw5454677891512750321 tw1266134374010236044 tw511447400969736557 tw5860169249569184295 tw13356495355449896127 tw15151450100378453096 tw14132090749280627884 tw13724193749338914553 tw3302452869616010016 tw18229156941226082984 tw83416293924943964 tw16739600267204575854 tw17382721057401454629 tw11448552628839533523 tw12313317687713847549 tw11550403124499359705 tw7304145759839045285 tw17780608633064920565 tw11874666229331672346 tw6953498100876919819 tw10639821857689171061 tw16839630752456834918 tw5784794501351599239 tw15208554329696746179 tw3559111047080241598 tw15740183270102631685 tw16080044147779392048 tw4231673763182973229 tw13676301541061857721 tw4296868168290823067 tw9097648443686659649 tw3726367460039634999 tw2405950495160781657 tw15860316950295835406 tw5075978993668924604 tw12156756275179786114 tw10375865388268552340 tw208418263262737078 tw13424548920193980827 tw9053267926326598584 tw132155238491589816 tw9864380944542263011 tw10833284092273221856 tw5031304242974167536 tw13407660596576105031 tw4213363863408880730 tw1018712304797114906 tw7292189847632735595 tw12535847521832478506 tw12144036882467298079 tw750423542974890998 tw7397639035471490468 tw17868980302712277077 tw8937588143552701302 tw2958156299104380183 tw13912225758664668142 tw962595707178408552 tw14925707640957451205 tw10752955451333605952 tw2600392188875191801 tw3145530795960970224 tw9978421367820789322 tw15261244766664737700 tw6189129658288345666 tw626806300371224017 tw14417750368359046368 tw17982429163353218652 tw9862963851372637928 tw6435850640931406976 tw6740424455052990605 tw13208417431558950522 tw12860144806420995548 tw8142114581641316923 tw11164433141836383355 tw10638332310228425927 tw350380150831486446 tw13944401363320981849 tw2981051702318850960 tw11554395299256104878 tw5844414007798668779 tw7808673752815206057 tw9594730335865801829 tw13209638133680710212 tw17532926673870364507 tw3508610466948906264 tw16876323243090067346 tw1538586141539479101 tw2708531184140354891 tw17578581639604755276 tw14542745676834867730 tw4525531528075723752 tw9301207455315847368 tw108510652300236536 tw18231489593634091655 tw12550381228720311658 tw1593947816153074068 tw5656145249691337475 tw1788943503157710793 tw87883665381146738 tw13462088930873240980 tw16276556475486680784 tw12852203569138800420 tw1880551916693740879 tw12248001248584440561 tw18372784121800361292 tw11380200382290786106 tw12547007686230938946 tw7722617292767674502 tw14186434988754936727 tw10625116359520341364 tw11805055502940494929 tw11785392664155482955 tw18175574543240316286 tw15817402483968591560 tw8735517660762573527 tw8641962894547280652 tw5513637281452408104 tw16604833868480493875 tw11964476299873763439 tw7572755894510203681 tw12697342226236395987 tw12935118227487500281 tw18366146329677158539 tw11486701299805681208 tw5953850361102153678 tw12378557950384562143 tw887498750183487997 tw16633395130107367384 tw1923363401655687355 tw8137551159235148653 tw974487539054254703 tw781947203716718756 tw2239675293022031474 tw10748287117316082299 tw17306997914364122690 tw8818853166585011053 tw4292745011589817847 tw13477820470695217479 tw10293093467681236591 tw7217544429156176137 tw12484065150313405086 tw8749556481104490504 tw3813609347485616946 tw8244759261602723120 tw1457363859601307545 tw11836018754273633411 tw14108056857534097083 tw2163993331652388106 tw4927541834544143090 tw11602978192420714686 tw1320175811173303565 tw10079900543284530536 tw15332052842199686447 tw11654299857428210824 tw1479123512910031868 tw12655708441800091931 tw4242075993921970702 tw2631591546180157138 tw11263069789901393816 tw16703589200696483797 tw3645289389857473555 tw4565684145977345424 tw10865626159258000356 tw9672731085792308101 tw638016514209641301 tw11500533373296138599 tw8443026592905330430 tw11557154457565705430 tw4594762706232578825 tw14868541732547257918 tw6623336720218375989 tw15029294910520917400 tw11220509883941702250 tw18330286780390658248 tw13204220531764518789 tw2290964751485704764 tw9889440284482095633 tw6002987101658525119 tw11653348749474348976 tw14797042943963160681 tw12040937938471994400 tw11142993512494563497 tw14212532826552496755 tw11546279059494228121 tw2265187020695813348 tw4390150828887709413 tw5427038375034601567 tw6015662851961480290 tw5901593894668752836 tw6731295086680990332 tw3703708644185080897 tw3813115250494070238 tw17775787631255337152 tw11683866865557622199 tw4355392036101683901 tw3172487636306310142 tw2762334978562561408 tw17649709289351961126 tw14227156494381831585 tw12472614253157250597 tw1040312673229420665 tw5336694362862717414 tw17283021536593025633 tw17559435605559467648 tw13815072495186935308 tw5141039026912517144 tw5317018977586908198 tw14640010207313472108:True)
open PySem PySem.W PyProof.Rows
set_option maxRecDepth 100000 in
set_option maxHeartbeats 0 in
theorem PySem.Challenge.cw_chiefway_k26_makes_that_fall_short_holds : PySem.Challenge.rw_chiefway_k26_makes_that_fall_short.Holds := by
 w_on;o_law;k_head;(case hw=>w_witness2)
 k_fill
 refine My.walk (l:=PySem.Challenge.rw_chiefway_k26_makes_that_fall_short) (k:=9) (by decide) rfl rfl (λw h Y=>PySem.W.kIn_of Y) ?F
 case F=>
  intro w mg N h KX G q;refine' Law.WX (k:=8) KX G q ?D ?B ?J ?a0 ?l0 ?c0 ?k0 ?gaWORDS ?glWORDS ?ok
  (case D=>unfold Law.tab;(repeat (apply P.Des.cons;(case a=>k_is);(case l=>k_is);(case c=>k_is);(case k=>k_is)));exact P.Des.nil)
  (case B=>unfold Law.blt;(repeat (apply P.Nos.cons;(case a=>k_is)));exact P.Nos.nil)
  (case J=>unfold Law.gis;(repeat (apply P.Gis.cons;(case a=>k_is)));exact P.Gis.nil)
  (case a0=>k_is)
  (case l0=>k_is)
  (case c0=>k_is)
  (case k0=>k_is)
  (case gaWORDS=>k_is)
  (case glWORDS=>k_is)
  (case ok=>exact λbase kb nb T=>P.V0 (f:=Law.NQ) (O':=[]) rfl (λN z A outer s H E U=>Law.SV.2 T N z A outer s H E U) Law.YM)
