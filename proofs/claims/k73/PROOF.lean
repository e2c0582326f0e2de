import PyProof.Rows.All
import Wide.All
import OpenK.AllK
import Wide.FinOn
import Lean
import PyProof.EqAt
import PyProof.EqKinds
import PyProof.TupleCall
import KE.KEqDict
import PySem.Challenge.RW_chiefway_k73_rows_of_a_reading
set_option autoImplicit true
set_option relaxedAutoImplicit true
set_option Elab.async false
set_option linter.all false
set_option maxRecDepth 100000
open PySem renaming wpAny_bind → U4, Shared → U5, wpAny_pure → U7, starEach → U8, Program → VB, sizeLine → VC, Around → VJ, compareOp → VM, backTo → VU, mainGlobals → V0, swapsWith → V3, bootBuiltins → V7, assignEach → WA, pyNext → WC, binaryOp → WD, rawInt → WF, Paired → WK, wpAny_field → WP, wpAny_mono → WR, assign → WU, wpAny_newObj_type → WW, sysModules → W2, wpAny_holding → W3, foldedSetIterable → W4, FuncData → XA, wpAny_call_entry → XD, codeAny → XI, wpAny_truthy_bool → XJ, DictEntry → XO, relabel → XQ, Builtin → XS, wpAny_setField_rec → XT, plainId_quiet → XU, IsEnum → XW, tupleKind → XY, swapsWithSole → XZ, swappedStores → X0, NameKind → X1, IsPart → X3, getItem → X4, wpAny_callSpecial?_slot → X5, sliceBounds → X7, valueAt → X8, Keyword → YB, cellsFrom → YC, wpAny_loadPart' → YD, hashStr → YG, holding → YJ, behindInMarks → YK, sizeLine_eq → YL, codeAny_builtin → YR, wpAny_rule → YW, wpAny_passesOwn → YX, wpAny_typeOf → YZ, call_meets → Y1, callerA → Y2, PassesOwn → Y4, wpAny_pyIter_tuple → Y5, lastMarks → Y7, attributeBase → ZC, backToKw → ZD, keywordEach → ZE, wpAny_dictEntries → ZJ, wpAny_dictEpoch → ZK, wpAny_attempt → ZL, setField → ZM, firstArgMember → ZN, wpAny_letGo → ZO, wpAny_updateSeq → ZP, wpAny_standAt → ZV, mem_of_lookup → ZX, typeIs_int → ZY, wpAny_setField → Z4, updateSeq → Z8, wpAny_seqItems → zab, wpAny_tryCatch → zag, wpAny_execs_nil → zal, letOwnedTupleGo → zam, codeAny_mono → zap, subscripted → zav, tupleKind_room_in1 → zaA, wpAny_typeNameOfWhole_keyiter → zaD, wpAny_typeNameOf_keyiter → zaE, wpAny_fieldsOf → zaF, wpAny_of_eq → zaH, wpAny_typeNameOfWhole_itemiter → zaK, wpAny_typeNameOf_itemiter → zaL, wpAny_newTuple → zaM, getattributeRaised → zaS, wpAny_pyIter_list → za1, wpAny_Call_Name_kw → za3, noFill_tuple_add → za6, wpAny_notOrdered_dict → zbg, wpAny_isInstance → zbi, wpAny_isOneOf_itemiter → zbj
open PySem.W renaming Frag → U6, nsIn → W8, kia_one → XH, fnOf → XN, mg_of → XX, keepIn → YN, codeIn → Y9, kitOne → ZW, kitx_dict → zao, kitAny → zaT, instObj → zaW, methodObj → zaX, OpenLaw → zbe
open Option renaming bind_some → U9, map_some → VA, bind → zaR
open List renaming length_map → VD, map_cons → VG, size_toArray → VN, range → VO, length_cons → VR, getElem?_map → VV, replicate → VZ, mem_cons_of_mem → V1, mem_cons_self → V2, getElem?_eq_getElem → V6, mem_cons → WG, not_mem_nil → WH, set → WI, length_append → WN, mem_of_getElem? → WS, map_nil → WV, find?_cons → WZ, length_nil → W5, map_append → W6, map_map → W7, any_cons → XE, mem_append_right → XR, length → X2, append_nil → YM, replicate_succ → YQ, flatten_cons → Y0, getElem?_append_left → Y8, all_cons → ZA, getD → ZG, eq_of_mem_replicate → ZS, mem_append_left → ZT, getElem_inj → ZU, all_eq_true → Z0, ext_getElem → Z1, toArray → Z2, getElem_mem → zaa, drop_eq_getElem_cons → zac, lookup_cons → zad, nil_append → zaf, length_range → zai, getElem?_set_ne → zak, length_take → zaq, getElem?_append_right → zar, append_assoc → zaw, foldl_cons → zax, length_singleton → zaz, forall_mem_cons → zaU, cons_append → zaV, filterMap_cons → zaY, getElem?_set_self → zaZ, of_mem_zip → za4, getElem?_replicate → za5, filter_cons → zbc, getElem?_range → zbl, drop_length → zbm, map_congr_left → zbo, take_add_one → zbs, take_length → zbt, mem_map_of_mem → zbu, length_filter_le → zbv
open PySem.Heap renaming lt_size → VE, get?_push_of_some → VI, get?_push_size → VW, SameBut → V8, get?_update_other → X6, get?_update_self → YO, ExtBut → Z5, size_push → Z6
open PySem.Value renaming ref → VF, none → V4, bool → YH, type → YI
open Nat renaming le_refl → VH, ne_of_lt → VT, ne_of_gt → WB, zero_le → WL, le_trans → WM, lt_of_lt_of_le → WQ, lt_irrefl → XG, zero_add → YU, lt_trans → ZF, lt_of_le_of_lt → ZZ, le_of_lt → zaj, lt_succ_self → zbn, le_of_ble_eq_true → zbp
open Bool renaming false_ne_true → VL, and_eq_true → V5, false_eq_true → YE, eq_iff_iff → Y6, not_eq_true → zae, beq_eq_decide_eq → zbf
open Int renaming emod_nonneg → VP, emod_lt_of_pos → VQ, ne_of_gt → WJ, toNat_natCast → W1, eq_ofNat_of_zero_le → zbr
open Sum renaming inl → VS, inr → XF
open Option.some renaming inj → VX
open Ne renaming symm → VY
open PyProof.Rows renaming envOfC → V9, seqObj → WE, IntsAre → WO, kindOf → XB, AllBare → YA, callWith_type1 → zan, slot_tuple_getitem → zat, assignInOrder_cons → za0
open Or renaming inl → WT, inr → W0
open True renaming intro → WX
open PySem.Obj renaming mapSeq → WY, data_mapFields → zaG
open Array renaming length_toList → W9, getD → ZI, getElem?_toList → Z9, getElem?_eq_getElem → zbh
open PySem.Str renaming ofString → XC
open False renaming elim → XM
open Eq renaming trans → X9
open PySem.NameKind renaming free → YF
open PySem.Around renaming under_plainId → YS
open Classical renaming propDecidable → YT
open PySem.Paired renaming length → YV
open PySem.SeqAt renaming EqAt → YY
open PySem.Heap.SameBut renaming update → Y3
open ForInStep renaming yield → ZH
open ToString renaming toString → ZQ
open PySem.F renaming plain_max_loop → ZR, plain_extend_loop → Z7, slot_dict_keyiterator_next → zaC, slot_dict_itemiterator_next → zaJ, slot_tuple_iterator_next → zaP, slot_enumerate_next → zaQ, slot_tuple_add → za7, entry_tuple_add → za8, args_tuple_add_2 → za9, slot_dict_get → zbd, plainAttrs_list → zbq, entry_dict_keyiterator_next → zbw, args_dict_keyiterator_next_1 → zbx, entry_dict_itemiterator_next → zby, args_dict_itemiterator_next_1 → zbz, slot_dict_items_iter → zbA, entry_tuple_iterator_next → zbC, args_tuple_iterator_next_1 → zbD
open PySem.Builtin.Dict_items renaming ownsTuple → Z3, pairFromOwner → zaI, ownedTupleIsFree → zaN, ownedTupleFields → zbB
open Subtype renaming val → zah
open PySem.Builtin.Slice renaming slicePlaces → zas, sliceAdjust → zba
open PySem.Builtin.Tuple renaming tupleExact → zau
open PySem.Builtin.List renaming listTooLong → zay, listExtendWith → zbk
open PySem.Builtin.Dict renaming showsAll → zaB
open PySem.Builtin.SmallTypes renaming nextOf → zaO, ownedTupleIsFree → zbE, ownedTupleHandOut → zbF
open PySem.Calls renaming spliced_cons → za2, callWith_builtin → zbb
open PySem.Builtin.Builtins renaming bindParams → zbG
noncomputable section
namespace L2
open PySem PySem.Spec PyProof.Rows
abbrev Key:=Sum Int Str
def qL:Key->Value->Bool
 | .inl k,v=>Value.isInt k v
 | .inr x,v=>Value.isStrOf x v
def S2(w:World):Key->Int
 | .inl k=>hashInt k
 | .inr x=>YG w x
theorem bH:∀ {k:Key} {v:Value},qL k v=true->(∃i t,k=VS i/\v=Value.int i t)\/(∃x t,k=XF x/\v=Value.str x t)
 | .inl i,v,h=>by
  obtain⟨t,e⟩:=Value.isInt_shape (k:=i) (v:=v) h;exact .inl ⟨i,t,rfl,e⟩
 | .inr x,v,h=>by
  obtain⟨t,e⟩:=Value.isStrOf_shape (x:=x) (v:=v) h;exact .inr ⟨x,t,rfl,e⟩
theorem BC(i:Int)(t:Tok):qL (.inl i) (.int i t)=true:=by simp[qL,Value.isInt]
theorem jP(x:Str)(t:Tok):qL (.inr x) (.str x t)=true:=by simp[qL,Value.isStrOf]
theorem OB(a b:Int):decide ((VS a:Key)=VS b)=(a == b):=by
 by_cases e:a=b
 ·subst e;simp
 ·have h:¬ (VS a:Key)=VS b:=λq=>e (Sum.inl.inj q)
  rw[decide_eq_false h];exact(beq_eq_false_iff_ne.mpr e).symm
theorem L7(a b:Str):decide ((XF a:Key)=XF b)=decide (a=b):=by
 by_cases e:a=b
 ·subst e;simp
 ·have h:¬ (XF a:Key)=XF b:=λq=>e (Sum.inr.inj q)
  rw[decide_eq_false h,decide_eq_false e]
theorem MS(a:Int)(b:Str):decide ((VS a:Key)=XF b)=false:=decide_eq_false (λq=>nomatch q)
theorem ND(a:Str)(b:Int):decide ((XF a:Key)=VS b)=false:=decide_eq_false (λq=>nomatch q)
def aZ(prog:VB)(w:World):PySem.KeyKind prog w Key where
 is:=qL
 hash:=S2 w
 inj:=λv a b G B=>by
  rcases bH G with⟨i,t,rfl,rfl⟩|⟨x,t,rfl,rfl⟩
  ·rcases bH B with⟨j,u,rfl,e⟩|⟨y,u,rfl,e⟩
   ·injection e with e1 _;rw[e1]
   ·exact nomatch e
  ·rcases bH B with⟨j,u,rfl,e⟩|⟨y,u,rfl,e⟩
   ·exact nomatch e
   ·injection e with e1 _;rw[e1]
 byValue:=λk v h=>by
  rcases bH h with⟨i,t,rfl,rfl⟩|⟨x,t,rfl,rfl⟩ <;> rfl
 pyHash:=λq h=>by
  rcases bH q with⟨i,t,rfl,rfl⟩|⟨x,t,rfl,rfl⟩
  ·exact wpAny_pyHash_int h
  ·exact wpAny_pyHash_str h
 eqBool:=λF q h=>by
  rcases bH F with⟨i,t,rfl,rfl⟩|⟨x,t,rfl,rfl⟩
  ·rcases bH q with⟨j,u,rfl,rfl⟩|⟨y,u,rfl,rfl⟩
   ·rw[OB]at h;exact wpAny_eqBool_int h
   ·rw[MS]at h;exact SeqAt.EqAt.int_str i t y u _ _ _ _ h
  ·rcases bH q with⟨j,u,rfl,rfl⟩|⟨y,u,rfl,rfl⟩
   ·rw[ND]at h;exact SeqAt.EqAt.str_int x t j u _ _ _ _ h
   ·rw[L7]at h;exact wpAny_eqBool_str h
 «strs»:=λk x t v h=>by
  rcases bH h with⟨i,u,rfl,e⟩|⟨y,u,rfl,e⟩
  ·exact nomatch e
  ·injection e with e1 _
   subst e1;cases v <;> rfl
theorem tE(prog:VB)(w:World)(i:Int)(t:Tok):(aZ prog w).is (.inl i) (.int i t)=true:=BC i t
theorem tG(prog:VB)(w:World)(x:Str)(t:Tok):(aZ prog w).is (.inr x) (.str x t)=true:=jP x t
inductive V where
 | non|bl (b:Bool)|int (i:Int)|str (x:Str)|byt (b:Array UInt8)|flt (b:UInt64)|ref (a:Addr)|ty (n:String)
 deriving DecidableEq
noncomputable def RelV:V->Value->Prop
 | .non,u=>u=V4
 | .bl b,u=>u=YH b
 | .int i,u=>∃t,u=Value.int i t
 | .str x,u=>∃t,u=Value.str x t
 | .byt b,u=>∃t,u=Value.bytes b t
 | .flt b,u=>∃t,u=Value.float b t
 | .ref a,u=>u=VF a
 | .ty n,u=>u=YI n
abbrev Vals:List V->List Value->Prop:=WK RelV
theorem Vals.length(r:Vals xs us):xs.length=us.length:=YV r
theorem Vals.get:∀ {xs:List V} {us:List Value} {i:Nat} {x:V},Vals xs us->xs[i]?=some x->∃u,us[i]?=some u/\RelV x u
 | _,_,_,_,.nil,e=>by simp at e
 | _,_,0,_,.cons r _,e=>by simp at e;subst e;exact⟨_,rfl,r⟩
 | _,_,i+1,x,.cons _ t,e=>by
  obtain⟨u,h1,h2⟩:=Vals.get (i:=i) (x:=x) t (by simpa using e);exact⟨u,by simpa using h1,h2⟩
theorem Vals.set(r:RelV x u):∀ {xs:List V} {us:List Value} (i:Nat),Vals xs us->Vals (xs.set i x) (us.set i u)
 | _,_,_,.nil=>.nil
 | _,_,0,.cons _ t=>.cons r t
 | _,_,i+1,.cons q t=>.cons q (Vals.set r i t)
theorem Vals.append:∀ {xs ys:List V} {us ws:List Value},Vals xs us->Vals ys ws->Vals (xs++ys) (us++ws)
 | _,_,_,_,.nil,s=>s
 | _,_,_,_,.cons r t,s=>.cons r (Vals.append t s)
theorem Vals.take:∀ {xs:List V} {us:List Value} (n:Nat),Vals xs us->Vals (xs.take n) (us.take n)
 | _,_,0,_=>.nil
 | _,_,_+1,.nil=>.nil
 | _,_,n+1,.cons r t=>.cons r (Vals.take n t)
theorem Vals.drop:∀ {xs:List V} {us:List Value} (n:Nat),Vals xs us->Vals (xs.drop n) (us.drop n)
 | _,_,0,r=>r
 | _,_,_+1,.nil=>.nil
 | _,_,n+1,.cons _ t=>Vals.drop n t
def RelO:Option V->Option Value->Prop
 | some v,some u=>RelV v u
 | none,none=>True
 | _,_=>False
def KV{κ:Type}:List (κ×V)->List (κ×Value)->Prop:=WK λ(p:κ×V) (q:κ×Value)=>p.1=q.1/\RelV p.2 q.2
def kV:Key->V
 | .inl i=>.int i
 | .inr x=>.str x
inductive HO where
 /-- a list -/
 | lst (xs:List V)
 /-- a tuple (never changes) -/
 | tup (xs:List V)
 /-- a dict whose keys are ints and texts;one whose keys are tuples of ints and texts (the empty one is both) -/
 | dK (kvs:List (Key×V))|dT (kvs:List (List Key×V))
 /-- a set of ints: its members, its size -/
 | set (S:Int->Bool) (n:Nat)
 /-- an instance of the class at C, its dict at dx, its attributes -/
 | ins (C dx:Addr) (fs:List (Str×V))
 /-- the dict of the instance at x -/
 | own (x:Addr)
 /-- the dict of an exception -/
 | xd (fs:List (Str×V))
 /-- a bound method, f of x -/
 | met (f x:Addr)
 /-- a range object lo, lo+1, .. below hi -/
 | rng (lo hi:Int)
 /-- a thing that is known to the object (the script;a dict while a loop walks it): read, never written while it is so -/
 | frz (o:Obj) (u:HO)
 /-- a code object's table -/
 | tbl (ps:Array Value)
 /-- any other thing, by what is true of its one object (a def of one's own: SetO a S n:=HO.ext λh => ..) -/
 | ext (φ:Heap->Prop)
abbrev Hp:=Addr->Option HO
def upd(H:Hp)(a:Addr)(o:HO):Hp:=λb=>if b=a then some o else H b
theorem aG:upd H a o a=some o:=by unfold upd;rw[if_pos rfl]
theorem aC(h:b≠a):upd H a o b=H b:=by unfold upd;rw[if_neg h]
theorem KO{H:Hp}{a b:Addr}{o u:HO}(h:H a=some o)(h':H b=some u)(d:o≠u):a≠b:=by
 intro e;subst e;rw[h]at h';exact d (VX h')
theorem a7{H:Hp}{a b:Addr}{o:HO}(h:H a=some o)(h':H b=none):a≠b:=by
 intro e;subst e;rw[h]at h';cases h'
section
variable (P:VB)(w:World)
def IsTupN(h:Heap)(a:Addr)(items:Array Value):Prop:=∃o,h.get? a=some o/\o.cls=.type "tuple" /\ ∃n,o.data=.seq items n/\o.dict=none
theorem IsTupN.tup{h:Heap}{a:Addr}{items:Array Value}(x:IsTupN h a items):IsTup h a items:=let ⟨o,e,c,n,d,_⟩:=x;⟨o,e,c,n,d⟩
theorem IsTupN.lt(x:IsTupN h a items):a<h.objs.size:=x.tup.lt
theorem IsTupN.new(h:Heap)(items:Array Value):IsTupN (h.push {cls:=.type "tuple",data:=.seq items}) h.objs.size items:=⟨_,VW _ rfl,rfl,_,rfl,rfl⟩
def ObjOk(H:Hp)(h:Heap)(a:Addr):HO->Prop
 | .lst xs=>xs.length<=VC/\∃(its:List Value) (n:Nat),Vals xs its/\h.get? a=some {cls:=.type "list",data:=.seq its.toArray n}
 | .tup xs=>xs.length<=VC/\∃its:List Value,Vals xs its/\IsTupN h a its.toArray
 | .dK kvs=>kvs.length<=VC/\(a == W2)=false/\∃vs,KV kvs vs/\h.DictOf (aZ P w) a vs
 | .dT kvs=>kvs.length<=VC/\(a == W2)=false/\∃xs:List (List Key×Addr×Value),
   WK (λ(p:List Key×V) (q:List Key×Addr×Value)=>p.1=q.1/\H q.2.1=some (.tup (p.1.map kV))/\RelV p.2 q.2.2) kvs xs /\
   ∃o es ep,h.get? a=some o/\o.ExactDict/\o.data=.dict es ep/\es.toList=xs.map (entryOfKey (XY (aZ P w)))/\(xs.map (·.1)).Nodup
 | .set S n=>h.SetOf (intKind P w) a S n
 | .ins C dx fs=>H dx=some (.own a)/\fs.length<=1000/\dx≠a/\h.get? a=some (zaW C dx) /\
   ∃mA,h.Ns1 dx mA/\(∀f,RelO (fs.lookup f) (mA f))/\PySem.Within mA (fs.map (·.1))
 | .own _=>∃o,h.get? a=some o
 | .xd fs=>∃mA,h.Ns1 a mA/\∀f,RelO (fs.lookup f) (mA f)
 | .rng lo hi=>∃t u v,h.get? a=some {cls:=.type "range",data:=.fields #[.int lo t,.int hi u,.int 1 v]}
 | .frz o u=>h.get? a=some o/\ObjOk H h a u
 | .tbl ps=>h.get? a=some {cls:=.none,data:=.fields ps}
 | .met f x=>h.get? a=some (zaX (.ref f) (.ref x))
 | .ext φ=>φ h/\(∃o,h.get? a=some o)/\∀h1 h2:Heap,φ h1->(∀o,h1.get? a=some o->h2.get? a=some o)->φ h2
def HOk(H:Hp)(h:Heap):Prop:=∀a o,H a=some o->ObjOk P w H h a o
end
section
variable {P:VB}{w:World}{H H':Hp}{h h':Heap}{a:Addr}{o:HO}
theorem ObjOk.lt(x:ObjOk P w H h a o):a<h.objs.size:=by
 cases o with
 | lst xs=>obtain⟨_,_,_,_,e⟩:=x;exact VE e
 | tup xs=>obtain⟨_,_,_,p⟩:=x;exact p.lt
 | dK kvs=>obtain⟨_,_,_,_,o,_,_,e,_⟩:=x;exact VE e
 | dT kvs=>obtain⟨_,_,_,_,o,_,_,e,_⟩:=x;exact VE e
 | set S n=>obtain⟨o,_,_,_,e,_⟩:=x;exact VE e
 | ins C dx fs=>obtain⟨_,_,_,e,_⟩:=x;exact VE e
 | own y=>obtain⟨_,e⟩:=x;exact VE e
 | xd fs=>obtain⟨_,⟨_,_,_,e,_⟩,_⟩:=x;exact VE e
 | rng lo hi=>obtain⟨_,_,_,e⟩:=x;exact VE e
 | frz ob u=>obtain⟨e,_⟩:=x;exact VE e
 | tbl ps=>exact VE (show h.get? a=some _ from x)
 | met f y=>exact VE (show h.get? a=some _ from x)
 | ext φ=>obtain⟨_,⟨_,e⟩,_⟩:=x;exact VE e
theorem Paired.mapP{B q:Type}{F G:B->q->Prop}:∀ {l₁:List B} {l₂:List q},WK F l₁ l₂->(∀a b,F a b->G a b)->WK G l₁ l₂
 | _,_,.nil,_=>.nil
 | _,_,.cons r t,f=>.cons (f _ _ r) (Paired.mapP t f)
theorem ObjOk.stay(x:ObjOk P w H h a o)(k:∀b u,(b=a\/H b=some (.own a))->h.get? b=some u->h'.get? b=some u)
  (G:∀b,H b=some (.own a)->H' b=some (.own a)) (J:∀b xs,H b=some (.tup xs)->H' b=some (.tup xs)):ObjOk P w H' h' a o:=by
 induction o with
 | lst xs=>obtain⟨z,F,n,r,e⟩:=x;exact⟨z,F,n,r,k _ _ (.inl rfl) e⟩
 | tup xs=>obtain⟨z,F,r,B,e,c⟩:=x;exact⟨z,F,r,B,k _ _ (.inl rfl) e,c⟩
 | dK kvs=>obtain⟨z,y,vs,r,B,es,ep,e,c⟩:=x;exact⟨z,y,vs,r,B,es,ep,k _ _ (.inl rfl) e,c⟩
 | dT kvs=>
  obtain⟨z,y,xs,r,B,es,ep,e,c⟩:=x;exact⟨z,y,xs,Paired.mapP r λp q z=>⟨z.1,J _ _ z.2.1,z.2.2⟩,B,es,ep,k _ _ (.inl rfl) e,c⟩
 | set S n=>obtain⟨B,es,ep,t,e,c⟩:=x;exact⟨B,es,ep,t,k _ _ (.inl rfl) e,c⟩
 | ins C dx fs=>
  obtain⟨d,z,ne,e,mA,⟨od,es,ep,M,c⟩,r⟩:=x;exact⟨G _ d,z,ne,k _ _ (.inl rfl) e,mA,⟨od,es,ep,k _ _ (.inr d) M,c⟩,r⟩
 | own y=>obtain⟨B,e⟩:=x;exact⟨B,k _ _ (.inl rfl) e⟩
 | xd fs=>obtain⟨mA,⟨od,es,ep,e,c⟩,r⟩:=x;exact⟨mA,⟨od,es,ep,k _ _ (.inl rfl) e,c⟩,r⟩
 | rng lo hi=>obtain⟨t,u,v,e⟩:=x;exact⟨t,u,v,k _ _ (.inl rfl) e⟩
 | frz B u ih=>obtain⟨e,q⟩:=x;exact⟨k _ _ (.inl rfl) e,ih q⟩
 | tbl ps=>
  have e:h.get? a=some {cls:=.none,data:=.fields ps}:=x;show h'.get? a=some {cls:=.none,data:=.fields ps};exact k a _ (.inl rfl) e
 | met f y=>
  have e:h.get? a=some (zaX (.ref f) (.ref y)):=x;show h'.get? a=some (zaX (.ref f) (.ref y));exact k a _ (.inl rfl) e
 | ext φ=>obtain⟨p,⟨o,e⟩,st⟩:=x;exact⟨st _ _ p λo q=>k _ _ (.inl rfl) q,⟨o,k _ _ (.inl rfl) e⟩,st⟩
theorem HOk.lt(x:HOk P w H h)(e:H a=some o):a<h.objs.size:=(x a o e).lt
theorem HOk.fresh(x:HOk P w H h)(e:h.objs.size<=a):H a=none:=by
 cases q:H a with
 | none=>rfl
 | some u=>exact absurd (WQ (x.lt q) e) (XG _)
theorem HOk.kept(x:HOk P w H h)(k:∀b u,h.get? b=some u->h'.get? b=some u):HOk P w H h':=λa o e=>
 (x a o e).stay (λb u _ q=>k b u q) (λ_ q=>q) λ_ _ q=>q
theorem HOk.laid(x:HOk P w H h)(k:∀b u,h.get? b=some u->h'.get? b=some u)(G:h.objs.size<=a)(new:ObjOk P w (upd H a o) h' a o):HOk P w (upd H a o) h':=λb u e=>by
 have B:=x.fresh G;by_cases F:b=a
 ·subst F;rw[aG]at e;cases e;exact new
 ·rw[aC F]at e
  exact(x b u e).stay (λc v _ q=>k c v q) (λc q=>by rw[aC (a7 q B)];exact q) λc xs q=>by rw[aC (a7 q B)];exact q
end
def Rd(H:Hp)(a:Addr)(u:HO):Prop:=H a=some u\/∃o,H a=some (.frz o u)
theorem Rd.of(h:H a=some u):Rd H a u:=.inl h
theorem Rd.ok(r:Rd H a u)(x:HOk P w H h):ObjOk P w H h a u:=by
 rcases r with r|⟨o,r⟩
 ·exact x a u r
 ·obtain⟨_,q⟩:=x a _ r
  exact q
def RQ:Option HO->Prop
 | some (.lst _)=>True
 | some (.dK _)=>True
 | some (.dT _)=>True
 | some (.set _ _)=>True
 | some (.ins _ _ _)=>True
 | some (.ext _)=>True
 | _=>False
section
variable {P:VB}{w:World}{H:Hp}{h h':Heap}{x e:Addr}{o':HO}
theorem HOk.write(ok:HOk P w H h)(N:RQ (H x))(W:e=x\/H e=some (.own x))(k:∀b u,b≠e->h.get? b=some u->h'.get? b=some u)(U:∃u,h'.get? e=some u)
  (new:ObjOk P w (upd H x o') h' x o'):HOk P w (upd H x o') h':=λb u q=>by
 have F:∀c y,H c=some (.own y)->c≠x:=λc y r z=>by subst z;rw[r]at N;exact N
 have G:∀c xs,H c=some (.tup xs)->c≠x:=λc xs r z=>by subst z;rw[r]at N;exact N
 by_cases J:b=x
 ·subst J;rw[aG]at q;cases q;exact new
 ·rw[aC J]at q
  by_cases B:b=e
  ·have Y:H b=some (.own x):=by
    rcases W with z|z
    ·exact absurd (B.trans z) J
    ·rw[B];exact z
   rw[q]at Y;cases Y;obtain⟨v,hv⟩:=U;exact⟨v,by rw[B];exact hv⟩
  ·refine(ok b u q).stay (λc v M r=>k c v ?_ r) (λc r=>by rw[aC (F c b r)];exact r) λc xs r=>by rw[aC (G c xs r)];exact r
   rcases M with rfl|M
   ·exact B
   ·rintro rfl
    rcases W with z|z
    ·exact F c b M z
    ·rw[M]at z;cases z;exact J rfl
end
structure Un(fs ex:List Addr)(H H':Hp)(h h':Heap):Prop where
 keep:∀b o,h.get? b=some o->H b=none->b∉fs->b∉ex->h'.get? b=some o
 slot:∀b o,h.get? b=some o->H b=none->b∈fs->b∉ex->∃sl,h'.get? b=some {o with slots:=sl}
 free:∀b o,h.get? b=some o->H b=none->b∉ex->H' b=none
 there:∀b o,h.get? b=some o->b∉ex->∃o',h'.get? b=some o'
 tups:∀b xs,H b=some (.tup xs)->H' b=some (.tup xs)
 frzs:∀b o u,H b=some (.frz o u)->H' b=some (.frz o u)
 tbls:∀b ps,H b=some (.tbl ps)->∃more,H' b=some (.tbl (ps++more))
section
variable {fs fs' ex ex':List Addr}{H H1 H2:Hp}{h h1 h2 h':Heap}{a x e:Addr}{o:HO}
theorem Un.any(u:Un fs ex H H1 h h1)(q:h.get? b=some ob)(n:H b=none)(B:b∉ex):∃G,h1.get? b=some {ob with slots:=G}:=by
 by_cases F:b∈fs
 ·exact u.slot b ob q n F B
 ·exact⟨ob.slots,u.keep b ob q n F B⟩
theorem Un.trans(a:Un fs ex H H1 h h1)(b:Un fs ex H1 H2 h1 h2):Un fs ex H H2 h h2 where
 keep:=λc B q n J F=>b.keep c B (a.keep c B q n J F) (a.free c B q n F) J F
 slot:=λc B q n J F=>by
  obtain⟨Y,G⟩:=a.slot c B q n J F;obtain⟨M,N⟩:=b.slot c _ G (a.free c B q n F) J F;exact⟨M,N⟩
 free:=λc B q n F=>by
  obtain⟨o',G⟩:=a.there c B q F;exact b.free c o' G (a.free c B q n F) F
 there:=λc B q F=>by
  obtain⟨o',G⟩:=a.there c B q F;exact b.there c o' G F
 tups:=λc xs q=>b.tups c xs (a.tups c xs q)
 frzs:=λc B xs q=>b.frzs c B xs (a.frzs c B xs q)
 tbls:=λc ps q=>by
  obtain⟨U,G⟩:=a.tbls c ps q;obtain⟨W,N⟩:=b.tbls c _ G;exact⟨U++W,by rw[N,Array.append_assoc]⟩
theorem Un.kept(k:∀b u,h.get? b=some u->h'.get? b=some u):Un fs ex H H h h':=
 ⟨λb B q _ _ _=>k b B q,λb B q _ _ _=>⟨B.slots,k b B q⟩,λ_ _ _ n _=>n,λb B q _=>⟨B,k b B q⟩,λ_ _ q=>q,λ_ _ _ q=>q,λ_ ps q=>⟨#[],by rw[q];simp⟩⟩
theorem Un.refl:Un fs ex H H h h:=Un.kept λ_ _ q=>q
theorem Un.laid(k:∀b u,h.get? b=some u->h'.get? b=some u)(F:h.objs.size<=a)(B:H a=none):Un fs ex H (upd H a o) h h' where
 keep:=λb u q _ _ _=>k b u q
 slot:=λb u q _ _ _=>⟨u.slots,k b u q⟩
 free:=λb u q n _=>by rw[aC (VT (WQ (VE q) F))];exact n
 there:=λb u q _=>⟨u,k b u q⟩
 tups:=λb xs q=>by rw[aC (a7 q B)];exact q
 frzs:=λb u xs q=>by rw[aC (a7 q B)];exact q
 tbls:=λb ps q=>⟨#[],by rw[aC (a7 q B),q];simp⟩
theorem Un.write(F:RQ (H x))(U:e=x\/H e=some (.own x))(k:∀b u,b≠e->h.get? b=some u->h'.get? b=some u)(J:∃u,h'.get? e=some u):Un fs ex H (upd H x o) h h':=by
 have M:∀b,H b=none->b≠x:=λb n z=>by subst z;rw[n]at F;exact F
 have N:∀b,H b=none->b≠e:=λb n z=>by
  subst z;rcases U with r|r
  ·exact M b n r
  ·rw[n]at r;cases r
 have G:∀b u,H b=some u->¬ RQ (some u)->b≠x:=λb u q nm z=>by subst z;rw[q]at F;exact nm F
 refine⟨λb u q n _ _=>k b u (N b n) q,λb u q n _ _=>⟨u.slots,k b u (N b n) q⟩,λb u q n _=>by rw[aC (M b n)];exact n,λb u q _=>?_,
  λb xs q=>by rw[aC (G b _ q λz=>z)];exact q,λb u xs q=>by rw[aC (G b _ q λz=>z)];exact q,λb ps q=>⟨#[],by rw[aC (G b _ q λz=>z),q];simp⟩⟩
 by_cases B:b=e
 ·subst B;exact J
 ·exact⟨u,k b u B q⟩
theorem Un.mono(u:Un fs ex H H1 h h1)(hs:∀b∈fs,b∈fs')(G:∀b∈ex,b∈ex'):Un fs' ex' H H1 h h1:=
 ⟨λb F q n J B=>u.keep b F q n (λz=>J (hs b z)) λz=>B (G b z),λ_ _ q n _ B=>u.any q n λz=>B (G _ z),λb F q n B=>u.free b F q n λz=>B (G b z),λb F q B=>u.there b F q λz=>B (G b z),u.tups,u.frzs,u.tbls⟩
end
def R6(h:Heap)(H:Hp):List Addr:=(VO h.objs.size).filter λa=>(H a).isSome
def sM(h:Heap)(H:Hp):Heap:=PySem.W.hideAll h (R6 h H)
theorem BO(h:Heap)(H:Hp):(sM h H).objs.size=h.objs.size:=PySem.W.hideAll_size _ _
theorem CT(e:h.get? b=some o)(n:H b=none):(sM h H).get? b=some o:=
 PySem.W.hideAll_get _ e λB=>by
  have q:(H b).isSome=true:=(List.mem_filter.mp B).2;rw[n]at q;simp at q
theorem JJ(e:(sM h H).get? b=some o):h.get? b=some o/\H b=none:=by
 have B:h.get? b=some o:=PySem.W.of_hideAll (R6 h H) e;refine⟨B,?_⟩;cases q:H b with
 | none=>rfl
 | some x=>
  have F:b∈R6 h H:=List.mem_filter.mpr ⟨List.mem_range.mpr (VE B),by simp[q]⟩;have z:(sM h H).get? b=none:=PySem.W.hideAll_none (R6 h H) F;rw[z]at e;cases e
noncomputable def IJ(g h:Heap)(L:Addr):List (Addr×Obj):=(VO h.objs.size).filterMap λa=>if a=L\/(g.get? a).isSome=true then none else(h.get? a).map λo=>(a,o)
def rest(g h:Heap)(L d:Addr):List (Addr×Obj):=(IJ g h L).filter λp=>decide (p.1≠d)
structure Mod(K:U6)(mg:Str->Option Value)(base:Heap):Prop where
 kin:K.In base
 glob:base.Ns V0 mg
 blt:∃mb,base.Ns builtinsNs mb/\∀x:Str,x ≠ "__name__" -> mb x=V7 x
 nolimit:base.NoLimit
structure Cx where
 prog:VB
 w:World
 K:U6
 mg:Str->Option Value
 base:Heap
 A:VJ
 N:List Str
 s₀:U5
 H₀:Hp
 env:Env
 outer:List Env
 stack:List Env
 ex:List Addr
 fn:Str->Bool
 calm:Bool
 pn:List (Addr×Obj)
 xe:Value->U5->Prop
noncomputable def frs(l:List Env):List Addr:=l.filterMap (·.frame)
abbrev Cx.fs(X:Cx):List Addr:=frs X.outer
def O9(sc:Scope)(x:Str):Prop:=sc.names.lookup x=some .local\/sc.names.lookup x=some .cell\/sc.names.lookup x=some .free
def Loc(sc:Scope)(x:Str):Prop:=sc.names.lookup x=some .local\/sc.names.lookup x=some .cell
def Look(env:Env)(h:Heap)(m:Str->Option Value)(x:Str)(u:Value):Prop:=
 (env.kindOf x=some .local/\m x=some u)\/((env.kindOf x=some .cell\/env.kindOf x=some .free)/\∃c,env.cells.lookup x=some c/\h.IsCell c (some u))
structure Cx.Ok(X:Cx):Prop where
 mod:Mod X.K X.mg X.base
 kind:X.env.scope.kind=.function
 glob:X.env.globals=V0
 blt:X.env.builtins=builtinsNs
 above:X.s₀.heap.objs.size<=X.env.locals
 inj:∀x y c,X.env.cells.lookup x=some c->X.env.cells.lookup y=some c->x=y
 has:∀x,(X.env.kindOf x=some .cell\/X.env.kindOf x=some .free)->∃c,X.env.cells.lookup x=some c
 cab:∀x c,X.fn x=true->X.env.cells.lookup x=some c->X.s₀.heap.objs.size<=c
 hd:X.calm=true->X.A.handled=none
 frames:X.A.frames=some X.stack
 stk:X.stack=X.outer\/(X.stack=X.env::X.outer/\X.env.frame=some X.env.locals)
 exf:∀b∈X.ex,b≠X.env.locals/\∀x c,X.env.cells.lookup x=some c->c≠b
 bs:∀b o,X.base.get? b=some o->X.s₀.heap.get? b=some o/\X.H₀ b=none
 bsz:X.base.objs.size<=X.s₀.heap.objs.size
 noex:∀b o,X.base.get? b=some o->b∉X.ex
 exfs:∀b∈X.ex,b∉X.fs
 funs:X.s₀.heap.FunFrames X.base X.outer
 frf:∀b∈X.fs,X.H₀ b=none
structure Inv(X:Cx)(pins:List (Addr×Obj))(σ:List (Option V))(H:Hp)(s:U5):Prop where
 ok:X.Ok
 os:s.os=X.s₀.os
 bare:YA s.gens
 base:Un X.fs X.ex X.H₀ H X.s₀.heap s.heap
 loc:∃m,s.heap.Ns X.env.locals m/\∀(i:Nat) (x:Str) (v:V),X.N[i]?=some x->σ[i]?=some (some v)->O9 X.env.scope x->∃u,RelV v u/\Look X.env s.heap m x u
 cell:∀x c,X.env.cells.lookup x=some c->∃v,s.heap.IsCell c v
 free:H X.env.locals=none
 freeC:∀x c,X.env.cells.lookup x=some c->H c=none
 pin:∀p∈X.pn++pins,s.heap.get? p.1=some p.2/\H p.1=none/\p.1≠X.env.locals/\p.1∉X.fs/\∀v,p.2.data≠.cell v
 hok:HOk X.prog X.w H s.heap
 len:σ.length=X.N.length
section
variable {X:Cx}{pins:List (Addr×Obj)}{σ:List (Option V)}{H H':Hp}{s:U5}{h':Heap}
theorem Cx.Ok.nofr(ok:X.Ok)(e:X.base.get? b=some o):b∉X.fs:=λq=>by
 have:=(ok.funs.mem q).1;rw[e]at this;cases this
theorem Inv.bs(I:Inv X pins σ H s):∀b o,X.base.get? b=some o->s.heap.get? b=some o/\H b=none:=λb o e=>
 ⟨I.base.keep b o (I.ok.bs b o e).1 (I.ok.bs b o e).2 (I.ok.nofr e) (I.ok.noex b o e),I.base.free b o (I.ok.bs b o e).1 (I.ok.bs b o e).2 (I.ok.noex b o e)⟩
theorem Inv.bk(I:Inv X pins σ H s):∀b o,X.base.get? b=some o->s.heap.get? b=some o:=λb o e=>(I.bs b o e).1
theorem Inv.mod(I:Inv X pins σ H s):Mod X.K X.mg X.base:=I.ok.mod
theorem Inv.kIn(I:Inv X pins σ H s):X.K.In s.heap:=I.ok.mod.kin.keeps I.bk
theorem Inv.lt(I:Inv X pins σ H s):X.env.locals<s.heap.objs.size:=let ⟨_,hn,_⟩:=I.loc;hn.lt
theorem Inv.sz(I:Inv X pins σ H s):X.s₀.heap.objs.size<=s.heap.objs.size:=WM I.ok.above (zaj I.lt)
theorem Inv.nofs(I:Inv X pins σ H s)(h:s.heap.objs.size<=a):a∉X.fs:=λq=>by
 obtain⟨_,o,B,_⟩:=I.ok.funs.mem q;exact absurd (WQ (VE B) (WM I.sz h)) (XG _)
theorem Inv.cne(I:Inv X pins σ H s):∀x c,X.env.cells.lookup x=some c->c≠X.env.locals:=λx c e z=>by
 obtain⟨v,o,F,hd⟩:=I.cell x c e;obtain⟨m,⟨o',es,ep,q,B,_⟩,_⟩:=I.loc;rw[z,q]at F;cases F;rw[B]at hd;cases hd
theorem Inv.funs(I:Inv X pins σ H s):s.heap.FunFrames X.base X.outer:=by
 have all:∀(l:List Env),(∀b∈frs l,b∈X.fs)->X.s₀.heap.FunFrames X.base l->s.heap.FunFrames X.base l:=by
  intro l;induction l with
  | nil=>intro _ _;trivial
  | cons env r ih=>
   intro hs J;obtain⟨N,⟨L,o,B,U,G,hd⟩,M⟩:=J;have F:L∈X.fs:=hs L (by unfold frs;rw[zaY,B];exact V2);obtain⟨W,e⟩:=I.base.slot L o G (I.ok.frf L F) F λz=>I.ok.exfs L z F
   exact⟨N,⟨L,_,B,U,e,hd⟩,ih (λb q=>hs b (by unfold frs;rw[zaY,B];exact V1 _ q)) M⟩
 exact all X.outer (λ_ q=>q) I.ok.funs
theorem Inv.stack(I:Inv X pins σ H s):s.heap.FunFrames X.base X.stack:=by
 rcases I.ok.stk with e|⟨e,B⟩
 ·rw[e];exact I.funs
 ·rw[e]
  obtain⟨m,q,_⟩:=I.loc;refine .cons (by rw[I.ok.kind];decide) B q ?_ I.funs;exact Heap.get?_none_of_le (WM I.ok.bsz I.ok.above)
theorem Inv.stkSub(I:Inv X pins σ H s):∀b∈frs X.stack,b∈X.env.locals::X.fs:=λb q=>by
 rcases I.ok.stk with e|⟨e,B⟩
 ·rw[e]at q;exact V1 _ q
 ·rw[e]at q
  unfold frs at q;rw[zaY,B]at q;exact q
theorem Inv.stkFree(I:Inv X pins σ H s):∀b∈frs X.stack,H b=none:=λb q=>by
 rcases List.mem_cons.mp (I.stkSub b q)with e|q
 ·rw[e];exact I.free
 ·obtain⟨_,o,B,_⟩:=I.ok.funs.mem q
  exact I.base.free b o B (I.ok.frf b q) λz=>I.ok.exfs b z q
theorem Inv.step{g':Array GenState}{t':Nat}{d':Drawn}{ch:List Addr}(I:Inv X pins σ H s)
  (J:∀b∈ch,(b∈X.ex\/X.s₀.heap.objs.size<=b)/\b≠X.env.locals/\(∀x c,X.env.cells.lookup x=some c->c≠b)/\∀p∈X.pn++pins,p.1≠b)
  (keep:∀b o,b≠X.env.locals->b∉X.fs->b∉ch->s.heap.get? b=some o->H b=none->h'.get? b=some o)
  (U:∀b o,b≠X.env.locals->b∈X.fs->b∉ch->s.heap.get? b=some o->H b=none->∃sl,h'.get? b=some {o with slots:=sl}) (free:∀b o,b∉ch->s.heap.get? b=some o->H b=none->H' b=none)
  (there:∀b o,b∉ch->s.heap.get? b=some o->∃o',h'.get? b=some o')
  (ab:∀b xs,H b=some (.tup xs)->H' b=some (.tup xs)) (ac:∀b o u,H b=some (.frz o u)->H' b=some (.frz o u)) (aa:∀b ps,H b=some (.tbl ps)->∃more,H' b=some (.tbl (ps++more)))
  (ns:∀m,s.heap.Ns X.env.locals m->h'.Ns X.env.locals m) (af:HOk X.prog X.w H' h') (hg:YA g') :
  Inv X pins σ H' {s with heap:=h',gens:=g',drawn:=d',toks:=t'}:=by
 have ae:∀b o,X.s₀.heap.get? b=some o->b≠X.env.locals:=λb o e=>VT (WQ (VE e) I.ok.above)
 have M:∀b o,X.s₀.heap.get? b=some o->b∉X.ex->b∉ch:=λb o e B W=>by
  rcases(J b W).1 with z|z
  ·exact B z
  ·exact absurd (WQ (VE e) z) (XG _)
 have F:∀x c,X.env.cells.lookup x=some c->∀v,s.heap.IsCell c v->h'.IsCell c v:=by
  rintro x c e v ⟨o,Y,hd⟩;have G:c∉ch:=λz=>(J c z).2.2.1 x c e rfl
  by_cases hc:c∈X.fs
  ·obtain⟨sl,q⟩:=U c o (I.cne x c e) hc G Y (I.freeC x c e)
   exact⟨_,q,hd⟩
  ·exact⟨o,keep c o (I.cne x c e) hc G Y (I.freeC x c e),hd⟩
 refine⟨I.ok,I.os,hg,⟨λb o e n W B=>?_,λb o e n W B=>?_,λb o e n B=>?_,λb o e B=>?_,λb xs e=>ab b xs (I.base.tups b xs e),λb o xs e=>ac b o xs (I.base.frzs b o xs e),λb ps e=>?_⟩,?_,λx c e=>?_,?_,λx c e=>?_,λp hp=>?_,af,I.len⟩
 ·exact keep b o (ae b o e) W (M b o e B) (I.base.keep b o e n W B) (I.base.free b o e n B)
 ·obtain⟨sl,N⟩:=I.base.slot b o e n W B
  obtain⟨ah,e2⟩:=U b _ (ae b o e) W (M b o e B) N (I.base.free b o e n B);exact⟨ah,e2⟩
 ·obtain⟨o',N⟩:=I.base.there b o e B
  exact free b o' (M b o e B) N (I.base.free b o e n B)
 ·obtain⟨o',N⟩:=I.base.there b o e B
  exact there b o' (M b o e B) N
 ·obtain⟨m1,N⟩:=I.base.tbls b ps e
  obtain⟨m2,e2⟩:=aa b _ N;exact⟨m1++m2,by rw[e2,Array.append_assoc]⟩
 ·obtain⟨m,hn,hl⟩:=I.loc
  refine⟨m,ns m hn,λi x v N e2 e3=>?_⟩;obtain⟨u,r,l⟩:=hl i x v N e2 e3;refine⟨u,r,?_⟩;rcases l with l|⟨k,c,e,z⟩
  ·exact .inl l
  ·exact .inr ⟨k,c,e,F x c e _ z⟩
 ·obtain⟨v,z⟩:=I.cell x c e
  exact⟨v,F x c e v z⟩
 ·obtain⟨m,⟨o,_,_,Y,_⟩,_⟩:=I.loc
  exact free _ o (λz=>(J _ z).2.1 rfl) Y I.free
 ·obtain⟨v,o,Y,hd⟩:=I.cell x c e
  exact free c o (λz=>(J c z).2.2.1 x c e rfl) Y (I.freeC x c e)
 ·obtain⟨e,n,ne,nf,d⟩:=I.pin p hp
  have G:p.1∉ch:=λz=>(J p.1 z).2.2.2 p hp rfl
  exact⟨keep p.1 p.2 ne nf G e n,free p.1 p.2 G e n,ne,nf,d⟩
theorem Inv.un{t':Nat}(I:Inv X pins σ H s)(u:Un X.fs [] H H' s.heap h')(J:HOk X.prog X.w H' h'):Inv X pins σ H' {s with heap:=h',toks:=t'}:=by
 obtain⟨m,⟨o,es,ep,M,r⟩,_⟩:=id I.loc;obtain⟨Y,W⟩:=u.any M I.free (by simp);exact I.step (g':=s.gens) (d':=s.drawn) (ch:=[]) (λ_ z=>nomatch z) (λb o _ B _ e n=>u.keep b o e n B (by simp)) (λb o _ B _ e n=>u.slot b o e n B (by simp)) (λb o _ e n=>u.free b o e n (by simp)) (λb o _ e=>u.there b o e (by simp)) u.tups u.frzs u.tbls (λm' U=>by
  obtain⟨o',F,G,q,N⟩:=U;rw[M]at q;cases q;exact⟨_,F,G,W,N⟩) J I.bare
theorem Inv.call{g':Array GenState}{t':Nat}{d':Drawn}{ch:List Addr}(I:Inv X pins σ H s)(u:Un (frs X.stack) ch H H' s.heap h')(M:HOk X.prog X.w H' h')(hg:YA g')
  (F:∀b∈ch,(b∈X.ex\/X.s₀.heap.objs.size<=b)/\b≠X.env.locals/\(∀x c,X.env.cells.lookup x=some c->c≠b)/\∀p∈X.pn++pins,p.1≠b) :
  Inv X pins σ H' {s with heap:=h',gens:=g',drawn:=d',toks:=t'}:=by
 obtain⟨m,⟨o,es,ep,U,r⟩,_⟩:=id I.loc;obtain⟨sl,N⟩:=u.any U I.free λz=>(F _ z).2.1 rfl
 exact I.step (ch:=ch) F (λb o N W q e n=>u.keep b o e n (λz=>(List.mem_cons.mp (I.stkSub b z)).elim N W) q) (λb o _ _ q e n=>u.any e n q) (λb o q e n=>u.free b o e n q) (λb o q e=>u.there b o e q) u.tups u.frzs u.tbls (λm' hm=>by
  obtain⟨o',G,J,B,Y⟩:=hm;rw[U]at B;cases B;exact⟨_,G,J,N,Y⟩) M hg
theorem Inv.turned{t':Nat}{it:Addr}(I:Inv X pins σ H s)(k:∀b o,b≠it->s.heap.get? b=some o->h'.get? b=some o)(W:H it=none)(G:it≠X.env.locals)
  (h1:it∈X.ex\/X.s₀.heap.objs.size<=it) (h2:∀x c,X.env.cells.lookup x=some c->c≠it) (U:∀p∈X.pn++pins,p.1≠it):Inv X pins σ H {s with heap:=h',toks:=t'}:=by
 have F:∀b u,H b=some u->b≠it:=λb u e z=>by rw[z,W]at e;cases e
 refine I.step (g':=s.gens) (d':=s.drawn) (ch:=[it]) (λb J=>?_) (λb o _ _ B e _=>k b o (λz=>B (by simp[z])) e) (λb o _ _ B e _=>⟨o.slots,k b o (λz=>B (by simp[z])) e⟩) (λ_ _ _ _ n=>n)
  (λb o B e=>⟨o,k b o (λz=>B (by simp[z])) e⟩) (λ_ _ e=>e) (λ_ _ _ e=>e) (λb ps e=>⟨#[],by rw[e];simp⟩) (λm N=>?_) (λb u e=>?_) I.bare
 ·have e:b=it:=by simpa using J
  subst e;exact⟨h1,G,h2,U⟩
 ·obtain⟨o,es,ep,M,r⟩:=N
  exact⟨o,es,ep,k _ o (VY G) M,r⟩
 ·refine(I.hok b u e).stay (λc v B q=>k c v ?_ q) (λ_ q=>q) λ_ _ q=>q
  rcases B with z|z
  ·rw[z];exact F b u e
  ·exact F c _ z
theorem Inv.tok(I:Inv X pins σ H s)(t:Nat):Inv X pins σ H {s with toks:=t}:=I.un (h':=s.heap) (t':=t) Un.refl I.hok
theorem Inv.kept(I:Inv X pins σ H s)(k:∀b u,s.heap.get? b=some u->h'.get? b=some u):Inv X pins σ H {s with heap:=h',toks:=t'}:=I.un (Un.kept k) (I.hok.kept k)
theorem Inv.laid(I:Inv X pins σ H s)(k:∀b u,s.heap.get? b=some u->h'.get? b=some u)(q:s.heap.objs.size<=a)(new:ObjOk X.prog X.w (upd H a o) h' a o) :
  Inv X pins σ (upd H a o) {s with heap:=h',toks:=t'}:=I.un (Un.laid k q (I.hok.fresh q)) (I.hok.laid k q new)
theorem Inv.write(I:Inv X pins σ H s)(F:RQ (H x))(B:e=x\/H e=some (.own x))(k:∀b u,b≠e->s.heap.get? b=some u->h'.get? b=some u)(q:∃u,h'.get? e=some u)
  (new:ObjOk X.prog X.w (upd H x o) h' x o):Inv X pins σ (upd H x o) {s with heap:=h',toks:=t'}:=I.un (Un.write F B k q) (I.hok.write F B k q new)
theorem Inv.pins_of(I:Inv X pins σ H s)(h:∀p∈pins',s.heap.get? p.1=some p.2/\H p.1=none/\p.1≠X.env.locals/\p.1∉X.fs/\∀v,p.2.data≠.cell v):Inv X pins' σ H s:=
 ⟨I.ok,I.os,I.bare,I.base,I.loc,I.cell,I.free,I.freeC,λp q=>(List.mem_append.mp q).elim (λz=>I.pin p (ZT _ z)) (h p),I.hok,I.len⟩
theorem uM{N:List Str}(B:N.Nodup){i j:Nat}{x:Str}(a:N[i]?=some x)(b:N[j]?=some x):i=j:=by
 obtain⟨h1,F⟩:=List.getElem?_eq_some_iff.mp a;obtain⟨h2,q⟩:=List.getElem?_eq_some_iff.mp b;exact(ZU B).mp (F.trans q.symm)
theorem oW{M:Model}{A:VJ}{E:Value->U5->Prop}{i:Nat}{x:Str}{v:V}{u:Value}{Q:Unit->U5->Prop}(I:Inv X pins σ H s)(hN:X.N.Nodup)(hi:X.N[i]?=some x)(J:Loc X.env.scope x)(r:RelV v u)
  (h:∀s',Inv X pins (σ.set i (some v)) H s'->(∃a,V8 a s.heap s'.heap/\(a=X.env.locals\/X.env.cells.lookup x=some a))->Q () s') (hf:X.fn x=true\/X.env.scope.names.lookup x=some .local:=by first|exact .inl rfl|exact .inr rfl|assumption):wpAny M A (storeName X.env x u) Q E s:=by
 obtain⟨m,hn,hl⟩:=id I.loc;have ae:(X.env.scope.kind == .class || (X.env.scope.kind == .module && X.env.locals != X.env.globals))=false:=by rw[I.ok.kind];rfl
 have aa:i<σ.length:=by rw[I.len];exact(List.getElem?_eq_some_iff.mp hi).1
 have cne:=I.cne;have F:∀ {a:Addr} {h':Heap},(∃o,s.heap.get? a=some o/\H a=none)->V8 a s.heap h'->HOk X.prog X.w H h':=λ{a h'} ha hs b ob e=>by
  obtain⟨_,_,U⟩:=ha;refine(I.hok b ob e).stay (λc w' G q=>(hs.2 c ?_).trans q) (λ_ q=>q) λ_ _ q=>q
  rintro rfl;rcases G with rfl|G
  ·rw[U]at e;cases e
  ·rw[U]at G;cases G
 rcases J with Y|Y
 ·refine wpAny_storeName_local Y hn (λh' as hs=>?_) ae
  obtain⟨oL,_,_,au,_⟩:=id hn;refine h _ ⟨I.ok,I.os,I.bare,⟨λb o e n hb J=>?_,λb o e n hb J=>?_,I.base.free,λb o e J=>?_,I.base.tups,I.base.frzs,I.base.tbls⟩,⟨_,as,λj y v' B W e3=>?_⟩,λy c e=>?_,I.free,I.freeC,λp hp=>?_,F ⟨oL,au,I.free⟩ hs,by simpa using I.len⟩ ⟨_,hs,.inl rfl⟩
  ·exact(hs.2 b (VT (WQ (VE e) I.ok.above))).trans (I.base.keep b o e n hb J)
  ·obtain⟨sl,B⟩:=I.base.slot b o e n hb J
   exact⟨sl,(hs.2 b (VT (WQ (VE e) I.ok.above))).trans B⟩
  ·obtain⟨o',B⟩:=I.base.there b o e J
   exact⟨o',(hs.2 b (VT (WQ (VE e) I.ok.above))).trans B⟩
  ·by_cases hj:j=i
   ·subst hj
    rw[hi]at B;cases B;rw[zaZ aa]at W;cases W;exact⟨u,r,.inl ⟨Y,by simp⟩⟩
   ·rw[zak (VY hj)]at W
    obtain⟨u',r',q⟩:=hl j y v' B W e3;refine⟨u',r',?_⟩;rcases q with⟨k,e⟩|⟨k,c,e,z⟩
    ·refine .inl ⟨k,?_⟩
     have:y≠x:=λe=>hj (uM hN B (e ▸ hi))
     simp[this,e]
    ·exact .inr ⟨k,c,e,z.sameBut hs (cne y c e)⟩
  ·obtain⟨w',z⟩:=I.cell y c e
   exact⟨w',z.sameBut hs (cne y c e)⟩
  ·obtain⟨e,n,ne,nf,d⟩:=I.pin p hp
   exact⟨(hs.2 p.1 ne).trans e,n,ne,nf,d⟩
 ·have ab:X.fn x=true:=by
   rcases hf with z|z
   ·exact z
   ·rw[z]at Y;cases Y
  obtain⟨c,G⟩:=I.ok.has x (.inl Y);obtain⟨w',z⟩:=I.cell x c G;refine wpAny_storeName_cell I.ok.kind Y G z (λh' ag hs=>?_);obtain⟨oc,ah,af⟩:=id z;refine h {s with heap:=h'} ⟨I.ok,I.os,I.bare,⟨λb o e n hb J=>?_,λb o e n hb J=>?_,I.base.free,λb o e J=>?_,I.base.tups,I.base.frzs,I.base.tbls⟩,⟨m,hn.sameBut hs (VY (cne x c G)),λj y v' B W e3=>?_⟩,λy c' e=>?_,I.free,I.freeC,λp hp=>?_,F ⟨oc,ah,I.freeC x c G⟩ hs,by simpa using I.len⟩ ⟨c,hs,.inr G⟩
  ·exact(hs.2 b (VT (WQ (VE e) (I.ok.cab x c ab G)))).trans (I.base.keep b o e n hb J)
  ·obtain⟨sl,B⟩:=I.base.slot b o e n hb J
   exact⟨sl,(hs.2 b (VT (WQ (VE e) (I.ok.cab x c ab G)))).trans B⟩
  ·obtain⟨o',B⟩:=I.base.there b o e J
   exact⟨o',(hs.2 b (VT (WQ (VE e) (I.ok.cab x c ab G)))).trans B⟩
  ·by_cases hj:j=i
   ·subst hj
    rw[hi]at B;cases B;rw[zaZ aa]at W;cases W;exact⟨u,r,.inr ⟨.inl Y,c,G,ag⟩⟩
   ·rw[zak (VY hj)]at W
    obtain⟨u',r',q⟩:=hl j y v' B W e3;refine⟨u',r',?_⟩;rcases q with q|⟨k,c',e,z'⟩
    ·exact .inl q
    ·refine .inr ⟨k,c',e,z'.sameBut hs ?_⟩
     rintro rfl;exact hj (uM hN B (I.ok.inj _ _ _ e G ▸ hi))
  ·by_cases ai:c'=c
   ·subst ai;exact⟨_,ag⟩
   ·obtain⟨w2,z2⟩:=I.cell y c' e
    exact⟨w2,z2.sameBut hs ai⟩
  ·obtain⟨e,n,ne,nf,d⟩:=I.pin p hp
   refine⟨(hs.2 p.1 ?_).trans e,n,ne,nf,d⟩;intro q;rw[q,ah]at e;have q':oc=p.2:=VX e;exact d w' (by rw[<- q'];exact af)
theorem iJ(I:Inv X pins σ H s)(G:X.N.Nodup)(hi:X.N[i]?=some x)(F:Loc X.env.scope x)(r:RelV v u)
  (h:∀s',Inv X pins (σ.set i (some v)) H s'->Q () s') (q:X.fn x=true\/X.env.scope.names.lookup x=some .local:=by first|exact .inl rfl|exact .inr rfl|assumption):wpAny M A (storeName X.env x u) Q E s:=
 oW I G hi F r (λs' B _=>h s' B) q
theorem Inv.call'(I:Inv X pins σ H s)(F:s'.os=s.os)(u:Un (frs X.stack) ch H H' s.heap s'.heap)(B:HOk X.prog X.w H' s'.heap)(G:YA s'.gens)
  (q:∀b∈ch,(b∈X.ex\/X.s₀.heap.objs.size<=b)/\b≠X.env.locals/\(∀x c,X.env.cells.lookup x=some c->c≠b)/\∀p∈X.pn++pins,p.1≠b):Inv X pins σ H' s':=by
 obtain⟨h',g',d',t',o'⟩:=s';have e:o'=s.os:=F;subst e;exact I.call (g':=g') (t':=t') (d':=d') u B G q
end
abbrev XK:=Value->Option Addr->Hp->Prop
abbrev St:=List (Option V)
abbrev VK:=V->Hp->Prop
abbrev TE:=St->Hp->VK->Prop
abbrev TT:=St->Hp->(Bool->Hp->Prop)->Prop
abbrev TA:=St->Hp->(List V->Hp->Prop)->Prop
structure Ends where
 nx:St->Hp->Prop
 rt:VK
 bk:St->Hp->Prop:=λ_ _=>False
 ct:St->Hp->Prop:=λ_ _=>False
abbrev TS:=Ends->St->Hp->Prop
inductive EP(X:Cx)(pins:List (Addr×Obj))(σ:St)(Q:VK)(u:Value)(s':U5):Prop
 | mk (v:V) (H':Hp) (i:Inv X pins σ H' s') (r:RelV v u) (q:Q v H'):EP X pins σ Q u s'
inductive TP(X:Cx)(pins:List (Addr×Obj))(σ:St)(Q:Bool->Hp->Prop)(b:Bool)(s':U5):Prop
 | mk (H':Hp) (i:Inv X pins σ H' s') (q:Q b H'):TP X pins σ Q b s'
inductive AP(X:Cx)(pins:List (Addr×Obj))(σ:St)(Q:List V->Hp->Prop)(us:List Value)(s':U5):Prop
 | mk (vs:List V) (H':Hp) (i:Inv X pins σ H' s') (r:Vals vs us) (q:Q vs H'):AP X pins σ Q us s'
def SP(X:Cx)(pins:List (Addr×Obj))(D:Ends)(f:Flow)(s':U5):Prop:=
 match f with
 | .next=>∃σ' H',Inv X pins σ' H' s'/\D.nx σ' H'
 | .brk=>∃σ' H',Inv X pins σ' H' s'/\D.bk σ' H'
 | .cont=>∃σ' H',Inv X pins σ' H' s'/\D.ct σ' H'
 | .ret u=>∃v σ' H',Inv X pins σ' H' s'/\RelV v u/\D.rt v H'
def PE(X:Cx)(e:Expr)(t:TE):Prop:=
 ∀(pins:List (Addr×Obj)) (s:U5) (σ:St) (H:Hp) (Q:VK),Inv X pins σ H s->t σ H Q->wpAny (model X.prog X.w) X.A (eval e X.env) (EP X pins σ Q) X.xe s
def PT(X:Cx)(e:Expr)(t:TT):Prop:=
 ∀(pins:List (Addr×Obj)) (s:U5) (σ:St) (H:Hp) (Q:Bool->Hp->Prop),Inv X pins σ H s->t σ H Q->wpAny (model X.prog X.w) X.A (isTrue e X.env (eval e X.env)) (TP X pins σ Q) X.xe s
def PW(X:Cx)(e:Expr)(t:TT):Prop:=
 ∀(whole:Sem Value) (pins:List (Addr×Obj)) (s:U5) (σ:St) (H:Hp) (Q:Bool->Hp->Prop),Inv X pins σ H s->t σ H Q->wpAny (model X.prog X.w) X.A (isTrue e X.env whole) (TP X pins σ Q) X.xe s
theorem PW.pt{X:Cx}{e:Expr}{t:TT}(h:PW X e t):PT X e t:=h _
def PA(X:Cx)(es:List Expr)(t:TA):Prop:=
 ∀(pos:Pos) (pins:List (Addr×Obj)) (s:U5) (σ:St) (H:Hp) (Q:List V->Hp->Prop),Inv X pins σ H s->t σ H Q->wpAny (model X.prog X.w) X.A (spliced (VU pos (U8 es X.env))) (AP X pins σ Q) X.xe s
def PS(X:Cx)(st:Stmt)(t:TS):Prop:=
 ∀(pins:List (Addr×Obj)) (s:U5) (σ:St) (H:Hp) (D:Ends),Inv X pins σ H s->t D σ H->wpAny (model X.prog X.w) X.A (exec st X.env) (SP X pins D) X.xe s
def PSs(X:Cx)(st:List Stmt)(t:TS):Prop:=
 ∀(pins:List (Addr×Obj)) (s:U5) (σ:St) (H:Hp) (D:Ends),Inv X pins σ H s->t D σ H->wpAny (model X.prog X.w) X.A (execs st X.env) (SP X pins D) X.xe s
theorem bG{B:Type}{t:Sem B}{Q q:B->U5->Prop}{M:Model}{A:VJ}{E:Value->U5->Prop}{s:U5}(h:wpAny M A t Q E s)(F:∀a s,Q a s->q a s):wpAny M A t q E s:=WR h F λ_ _ x=>x
section
variable {X:Cx}
def hW(i:Nat):TE:=λσ H Q=>∃v,σ[i]?=some (some v)/\Q v H
def tC(v:V):TE:=λ_ H Q=>Q v H
theorem LP(Y:X.N[i]?=some x)(M:O9 X.env.scope x)(hd:(x == ("__debug__" : Str))=false:=by decide)(F:(x == ("__classdict__" : Str))=false:=by decide):PE X (.Name x pos) (hW i):=by
 intro pins s σ H Q I h;obtain⟨v,e,h⟩:=h;obtain⟨m,W,J⟩:=I.loc;obtain⟨u,r,l⟩:=J i x v Y e M;have fin:EP X pins σ Q u s:=⟨v,H,I,r,h⟩;rcases l with⟨B,U⟩|⟨B,c,G,q⟩
 ·exact wpAny_Name (wpAny_loadName_local I.ok.kind B W U fin) hd
 ·rcases B with B|B
  ·exact wpAny_Name (wpAny_loadName_cell I.ok.kind B G q fin) hd
  ·exact wpAny_Name (wpAny_loadName_free I.ok.kind B G q fin F) hd
theorem NG{i j pos}:PE X (.Constant (.int i) j pos) (tC (.int i)):=λ_ _ _ H _ I h=>wpAny_Constant_int ⟨.int i,H,I.tok _,⟨_,rfl⟩,h⟩
theorem P0{b j pos}:PE X (.Constant (.bool b) j pos) (tC (.bl b)):=λ_ _ _ H _ I h=>Constant_bool ⟨.bl b,H,I,rfl,h⟩
theorem MC{x j pos}:PE X (.Constant (.str x) j pos) (tC (.str x)):=λ_ _ _ H _ I h=>Calls.Constant_str ⟨.str x,H,I.tok _,⟨_,rfl⟩,h⟩
def Gl(X:Cx)(x:Str):Prop:=X.env.kindOf x=some .globalImplicit
theorem rF(I:Inv X pins σ H s)(B:Gl X x)(q:X.mg x=some u)(h:Q u s)
  (hd:(x == ("__debug__" : Str))=false:=by decide):wpAny (model X.prog X.w) X.A (eval (.Name x pos) X.env) Q E s:=
 Calls.Name_function_global I.ok.kind B (Calls.loadGlobal_global (by rw[I.ok.glob];exact I.mod.glob.keeps I.bk) q h) hd
theorem jQ{E:Value->U5->Prop}{pins:List (Addr×Obj)}{s:U5}{σ:St}{H:Hp}{x:Str}{u:Value}{pos:Pos}{Q:Value->U5->Prop}(I:Inv X pins σ H s)(F:Gl X x)(B:X.mg x=none)(q:V7 x=some u)(h:Q u s)
  (G:x ≠ "__name__" := by decide) (hd:(x == ("__debug__" : Str))=false:=by decide):wpAny (model X.prog X.w) X.A (eval (.Name x pos) X.env) Q E s:=by
 obtain⟨J,h1,h2⟩:=I.mod.blt;exact Calls.Name_function_global I.ok.kind F (Calls.loadGlobal_builtin (by rw[I.ok.glob];exact I.mod.glob.keeps I.bk) B (by rw[I.ok.blt];exact h1.keeps I.bk) ((h2 x G).trans q) h) hd
theorem zD(B:Gl X x)(q:X.mg x=some u)(r:RelV v u)(hd:(x == ("__debug__" : Str))=false:=by decide):PE X (.Name x pos) (tC v):=
 λ_ _ _ H _ I h=>rF I B q ⟨v,H,I,r,h⟩ hd
theorem IS(G:Gl X x)(F:X.mg x=none)(B:V7 x=some u)(r:RelV v u)(q:x ≠ "__name__" := by decide)(hd:(x == ("__debug__" : Str))=false:=by decide):PE X (.Name x pos) (tC v):=
 λ_ _ _ H _ I h=>jQ I G F B ⟨v,H,I,r,h⟩ q hd
variable {a b:Expr}{ta tb:TE}{pos:Pos}
def tB(t:TE):TT:=λσ H Q=>t σ H λx H1=>∃c,x=.bl c/\Q c H1
theorem NE{e:Expr}{t:TE}(h:PE X e t)(J:∀B,isTrue e X.env B=(do let v <- B;standAt e.pos;YJ [v] (truthy v)):=by intro _;rfl):PT X e (tB t):=by
 intro pins s σ H Q I hw;refine isTrue_plain (bG (h pins s σ H _ I hw) λv N ⟨x,H1,G,F,M⟩=>?_) (J _);obtain⟨d,rfl,q⟩:=M;cases F;exact XJ ⟨H1,G,q⟩
variable {tA tB':TT}{rest:List Expr}
def S1(t u:TT):TT:=λσ H Q=>t σ H λc H1=>if c=true then u σ H1 Q else Q false H1
def UU(t u:TT):TT:=λσ H Q=>t σ H λc H1=>if c=true then Q true H1 else u σ H1 Q
def SL(t:TT):TT:=λσ H Q=>t σ H λc H1=>Q (!c) H1
theorem JI(q:PT X a tA):PW X (.BoolOp .And [a] pos) tA:=by
 intro F pins s σ H Q I h;refine isTrue_and (bG (q pins s σ H Q I h) λc B e=>?_);cases c with
 | true=>exact isTrue_and_nil e
 | false=>exact e
theorem OA(q:PT X a tA):PW X (.BoolOp .Or [a] pos) tA:=by
 intro F pins s σ H Q I h;refine isTrue_or (bG (q pins s σ H Q I h) λc B e=>?_);cases c with
 | false=>exact isTrue_or_nil e
 | true=>exact e
theorem MY(M:PT X a tA)(F:PW X (.BoolOp .And (b::rest) pos) tB'):PW X (.BoolOp .And (a::b::rest) pos) (S1 tA tB'):=by
 intro J pins s σ H Q I h;refine isTrue_and (bG (M pins s σ H _ I h) λc G ⟨H1,q,B⟩=>?_);cases c with
 | true=>exact F J pins G σ H1 Q q B
 | false=>exact⟨H1,q,B⟩
theorem QS(M:PT X a tA)(F:PW X (.BoolOp .Or (b::rest) pos) tB'):PW X (.BoolOp .Or (a::b::rest) pos) (UU tA tB'):=by
 intro J pins s σ H Q I h;refine isTrue_or (bG (M pins s σ H _ I h) λc G ⟨H1,q,B⟩=>?_);cases c with
 | true=>exact⟨H1,q,B⟩
 | false=>exact F J pins G σ H1 Q q B
theorem OG(B:PT X a tA):PT X (.UnaryOp .Not a pos) (SL tA):=by
 intro pins s σ H Q I h;exact isTrue_not (bG (B pins s σ H (λc H1=>Q (!c) H1) I h) λ_ _ ⟨H',i,q⟩=>⟨H',i,q⟩)
def QR(ta tb:TE):TE:=λσ H Q=>ta σ H λx H1=>∃c,x=.bl c/\if c=true then tb σ H1 Q else Q (.bl false) H1
def QW(ta:TE):TE:=λσ H Q=>ta σ H λx H1=>∃c,x=.bl c/\Q (.bl (!c)) H1
theorem NS{op}(h:PE X a t):PE X (.BoolOp op [a] pos) t:=λpins s σ H Q I hw=>BoolOp_one (h pins s σ H Q I hw)
theorem MZ(M:PE X a ta)(G:PE X (.BoolOp .And (b::rest) pos) tb):PE X (.BoolOp .And (a::b::rest) pos) (QR ta tb):=by
 intro pins s σ H Q I h;refine BoolOp_and (bG (M pins s σ H _ I h) λv J ⟨x,H1,B,F,q⟩=>?_);obtain⟨c,rfl,q⟩:=q;cases F;refine XJ ?_;cases c with
 | true=>exact G pins J σ H1 Q B q
 | false=>exact⟨.bl false,H1,B,rfl,q⟩
theorem NQ(G:PE X a ta):PE X (.UnaryOp .Not a pos) (QW ta):=by
 intro pins s σ H Q I h;refine UnaryOp_ (bG (G pins s σ H _ I h) λv J ⟨x,H1,F,B,q⟩=>?_);obtain⟨c,rfl,q⟩:=q;cases B;exact not_of (XJ ⟨.bl (!c),H1,F,rfl,q⟩)
def UZ(t:TT)(ta tb:TE):TE:=λσ H Q=>t σ H λc H1=>if c=true then ta σ H1 Q else tb σ H1 Q
theorem CZ{c:Expr}(J:PT X c tA)(M:PE X a ta)(G:PE X b tb):PE X (.IfExp c a b pos) (UZ tA ta tb):=by
 intro pins s σ H Q I h;refine wpAny_IfExp (bG (J pins s σ H _ I h) λd B ⟨H1,q,F⟩=>?_);cases d with
 | true=>exact M pins B σ H1 Q q F
 | false=>exact G pins B σ H1 Q q F
end
def SqL(K:U6)(H:Hp)(a:Addr)(xs:List V):Prop:=
 Rd H a (.lst xs) \/
  ∃(o:Obj) (its:Array Value) (n:Nat),K.lookup a=some o/\o.cls=.type "list" /\ o.dict=none/\o.data=.seq its n/\its.size<=VC/\Vals xs its.toList
def SqT(K:U6)(H:Hp)(a:Addr)(xs:List V):Prop:=
 Rd H a (.tup xs) \/
  ∃(o:Obj) (its:Array Value) (n:Nat),K.lookup a=some o/\o.cls=.type "tuple" /\ o.data=.seq its n/\its.size<=VC/\Vals xs its.toList
noncomputable def TR:Value->Option V
 | .none=>some .non
 | .bool b=>some (.bl b)
 | .int i _=>some (.int i)
 | .str x _=>some (.str x)
 | .bytes b _=>some (.byt b)
 | .float b _=>some (.flt b)
 | .ref a=>some (.ref a)
 | .type n=>some (.ty n)
 | _=>none
theorem RelV.abs(r:RelV x u):TR u=some x:=by
 cases x with
 | non=>cases r;rfl
 | bl _=>cases r;rfl
 | int _=>obtain⟨t,rfl⟩:=r;rfl
 | str _=>obtain⟨t,rfl⟩:=r;rfl
 | byt _=>obtain⟨t,rfl⟩:=r;rfl
 | flt _=>obtain⟨t,rfl⟩:=r;rfl
 | ref _=>cases r;rfl
 | ty _=>cases r;rfl
theorem RelV.inj(r:RelV x u)(q:RelV y u):x=y:=VX (r.abs.symm.trans q.abs)
theorem Vals.inj:∀ {xs ys:List V} {us:List Value},Vals xs us->Vals ys us->xs=ys
 | _,_,_,.nil,.nil=>rfl
 | _,_,_,.cons r t,.cons r' t'=>by rw[r.inj r',Vals.inj t t']
section
variable {X:Cx}{pins:List (Addr×Obj)}{σ:St}{H:Hp}{s:U5}{a:Addr}{xs ys:List V}
theorem SqL.of{K:U6}(h:H a=some (.lst xs)):SqL K H a xs:=.inl (.inl h)
theorem SqT.of{K:U6}(h:H a=some (.tup xs)):SqT K H a xs:=.inl (.inl h)
theorem Inv.list(I:Inv X pins σ H s)(h:SqL X.K H a xs):∃q:List Value,Vals xs q/\PlainL s.heap a q.toArray/\xs.length<=VC:=by
 rcases h with h|⟨o,q,n,F,B,hd,hs,hz,r⟩
 ·obtain⟨z,q,n,r,e⟩:=h.ok I.hok
  exact⟨q,r,⟨_,n,e,rfl,rfl,rfl⟩,z⟩
 ·refine⟨q.toList,r,⟨o,n,I.kIn a o F,B,hd,by simpa using hs⟩,?_⟩
  have e:=r.length;simp only[W9]at e
  lia
theorem Inv.tuple(I:Inv X pins σ H s)(h:SqT X.K H a xs):∃q:List Value,Vals xs q/\IsTup s.heap a q.toArray/\xs.length<=VC:=by
 rcases h with h|⟨o,q,n,F,B,hs,hz,r⟩
 ·obtain⟨z,q,r,p⟩:=h.ok I.hok
  exact⟨q,r,p.tup,z⟩
 ·refine⟨q.toList,r,⟨o,I.kIn a o F,B,n,by simpa using hs⟩,?_⟩
  have e:=r.length;simp only[W9]at e
  lia
theorem Inv.list_inj(I:Inv X pins σ H s)(h:SqL X.K H a xs)(h':SqL X.K H a ys):xs=ys:=by
 obtain⟨q,r,⟨o,n,e,_,_,d⟩,_⟩:=I.list h;obtain⟨its',F,⟨o',G,B,_,_,d'⟩,_⟩:=I.list h';rw[e]at B;cases B;rw[d]at d';injection d' with d1 _
 have:q=its':=by simpa using congrArg Array.toList d1
 subst this;exact r.inj F
theorem Inv.tuple_inj(I:Inv X pins σ H s)(h:SqT X.K H a xs)(h':SqT X.K H a ys):xs=ys:=by
 obtain⟨q,r,⟨o,e,_,n,d⟩,_⟩:=I.tuple h;obtain⟨its',F,⟨o',B,_,G,d'⟩,_⟩:=I.tuple h';rw[e]at B;cases B;rw[d]at d';injection d' with d1 _
 have:q=its':=by simpa using congrArg Array.toList d1
 subst this;exact r.inj F
end
abbrev Cx.wish(X:Cx)(E:Value->U5->Prop):Cx:={X with xe:=E}
abbrev Cx.nox(X:Cx):Cx:=X.wish λ_ _=>False
theorem Cx.Ok.wish{X:Cx}(ok:X.Ok)(E:Value->U5->Prop):(X.wish E).Ok:=
 ⟨ok.mod,ok.kind,ok.glob,ok.blt,ok.above,ok.inj,ok.has,ok.cab,ok.hd,ok.frames,ok.stk,ok.exf,ok.bs,ok.bsz,ok.noex,ok.exfs,ok.funs,ok.frf⟩
theorem Cx.Ok.unwish{X:Cx}{E:Value->U5->Prop}(ok:(X.wish E).Ok):X.Ok:=
 ⟨ok.mod,ok.kind,ok.glob,ok.blt,ok.above,ok.inj,ok.has,ok.cab,ok.hd,ok.frames,ok.stk,ok.exf,ok.bs,ok.bsz,ok.noex,ok.exfs,ok.funs,ok.frf⟩
section
variable {X:Cx}{pins:List (Addr×Obj)}{σ:St}{H:Hp}{s:U5}{E:Value->U5->Prop}
theorem Inv.wish(I:Inv X pins σ H s)(E:Value->U5->Prop):Inv (X.wish E) pins σ H s:=⟨I.ok.wish E,I.os,I.bare,I.base,I.loc,I.cell,I.free,I.freeC,I.pin,I.hok,I.len⟩
theorem Inv.unwish(I:Inv (X.wish E) pins σ H s):Inv X pins σ H s:=⟨I.ok.unwish,I.os,I.bare,I.base,I.loc,I.cell,I.free,I.freeC,I.pin,I.hok,I.len⟩
theorem SP.unwish(h:SP (X.wish E) pins D f s'):SP X pins D f s':=by
 cases f with
 | next=>obtain⟨B,H',I,q⟩:=h;exact⟨B,H',I.unwish,q⟩
 | brk=>obtain⟨B,H',I,q⟩:=h;exact⟨B,H',I.unwish,q⟩
 | cont=>obtain⟨B,H',I,q⟩:=h;exact⟨B,H',I.unwish,q⟩
 | ret u=>obtain⟨v,B,H',I,r,q⟩:=h;exact⟨v,B,H',I.unwish,r,q⟩
theorem PE.nox(h:PE X.nox e t):PE X e t:=λpins s σ H Q I hw=>
 WR (h pins s σ H Q (I.wish _) hw) (λ_ _ ⟨v,H',B,r,q⟩=>⟨v,H',B.unwish,r,q⟩) λ_ _ z=>XM z
theorem PT.nox(h:PT X.nox e t):PT X e t:=λpins s σ H Q I hw=>
 WR (h pins s σ H Q (I.wish _) hw) (λ_ _ ⟨H',B,q⟩=>⟨H',B.unwish,q⟩) λ_ _ z=>XM z
theorem PSs.nox{st:List Stmt}{t:TS}(h:PSs X.nox st t):PSs X st t:=λpins s σ H D I hw=>
 WR (h pins s σ H D (I.wish _) hw) (λ_ _ q=>q.unwish) λ_ _ z=>XM z
end
section
variable {X:Cx}{st:Stmt}{rest:List Stmt}{t u:TS}{e:Expr}{te:TE}{pos:Pos}
def QH:TS:=λD σ H=>D.nx σ H
def Q5(t u:TS):TS:=λD σ H=>t {D with nx:=u D} σ H
theorem yJ:PSs X [] QH:=λ_ _ σ H _ I h=>zal ⟨σ,H,I,h⟩
theorem uL(h1:PS X st t)(h2:PSs X rest u):PSs X (st::rest) (Q5 t u):=by
 intro pins s σ H D I h;refine wpAny_execs_cons (bG (h1 pins s σ H {D with nx:=u D} I h) λf F q=>?_);cases f with
 | next=>
  obtain⟨B,H',G,q⟩:=q;exact h2 pins F B H' D G q
 | ret v=>exact q
 | brk=>exact q
 | cont=>exact q
theorem yP(h1:PS X st t):PSs X [st] t:=by
 intro pins s σ H D I h;refine wpAny_execs_cons (bG (h1 pins s σ H D I h) λf B q=>?_);cases f with
 | next=>exact zal q
 | ret v=>exact q
 | brk=>exact q
 | cont=>exact q
theorem Inv.quiet(I:Inv X pins σ H s):interactive X.env=false:=by simp[interactive,I.ok.kind]
def PM(te:TE):TS:=λD σ H=>te σ H λ_ H1=>D.nx σ H1
theorem qY(B:PE X e te)(hs:V3 e none pos.line X.env=pure false:=by rfl):PS X (.Expr e pos) (PM te):=by
 intro pins s σ H D I h;exact wpAny_Expr_any (bG (B pins s σ H _ I h) λv J ⟨x,H1,q,G,F⟩=>⟨σ,H1,q,F⟩) I.quiet hs
def TK(te:TE):TS:=λD σ H=>te σ H D.rt
theorem xF(F:PE X e te):PS X (.Return (some e) pos) (TK te):=by
 intro pins s σ H D I h;exact wpAny_Return_some (bG (F pins s σ H _ I h) λv J ⟨x,H1,B,q,G⟩=>⟨x,σ,H1,B,q,G⟩)
def S4(c:TT)(t u:TS):TS:=λD σ H=>c σ H λb H1=>if b=true then t D σ H1 else u D σ H1
theorem KM{c:Expr}{a b:List Stmt}{tc:TT}(J:PT X c tc)(M:PSs X a t)(G:PSs X b u):PS X (.If c a b pos) (S4 tc t u):=by
 intro pins s σ H D I h;refine wpAny_If (bG (J pins s σ H _ I h) λd B ⟨H1,q,F⟩=>?_);cases d with
 | true=>exact M pins B σ H1 D q F
 | false=>exact G pins B σ H1 D q F
end
abbrev TG:=V->St->Hp->(St->Hp->Prop)->Prop
abbrev KI:=List V->St->Hp->(St->Hp->Prop)->Prop
def PG(X:Cx)(q:Expr)(t:TG):Prop:=
 ∀(pins:List (Addr×Obj)) (s:U5) (σ:St) (H:Hp) (v:V) (u:Value) (Q:St->Hp->Prop),Inv X pins σ H s->RelV v u->t v σ H Q->
  wpAny (model X.prog X.w) X.A (WU q X.env u) (λ_ s'=>∃B H',Inv X pins B H' s'/\Q B H') X.xe s
def PGs(X:Cx)(ts:List Expr)(t:KI):Prop:=
 ∀(pins:List (Addr×Obj)) (s:U5) (σ:St) (H:Hp) (vs:List V) (us:List Value) (Q:St->Hp->Prop),Inv X pins σ H s->Vals vs us->t vs σ H Q->
  wpAny (model X.prog X.w) X.A (assignInOrder ((WA ts X.env).map (·.2)) us) (λ_ s'=>∃q H',Inv X pins q H' s'/\Q q H') X.xe s
abbrev xO:=V->V->V->Hp->(Hp->Prop)->Prop
def B1(X:Cx)(t:xO):Prop:=
 ∀(pins:List (Addr×Obj)) (s:U5) (σ:St) (H:Hp) (o i v:V) (ov iv u:Value) (Q:Hp->Prop),Inv X pins σ H s->RelV o ov->RelV i iv->RelV v u->t o i v H Q->
  wpAny (model X.prog X.w) X.A (setItem ov iv u) (λ_ s'=>∃H',Inv X pins σ H' s'/\Q H') X.xe s
section
variable {X:Cx}{pos:Pos}
def fQ(i:Nat):TG:=λv σ H Q=>Q (σ.set i (some v)) H
theorem i8(G:X.N.Nodup)(hi:X.N[i]?=some x)(F:Loc X.env.scope x)(q:X.fn x=true\/X.env.scope.names.lookup x=some .local:=by first|exact .inl rfl|exact .inr rfl|assumption):PG X (.Name x pos) (fQ i):=by
 intro pins s σ H v u Q I r h;exact wpAny_assign_Name (iJ I G hi F r (λs' B=>⟨_,H,B,h⟩) q)
def S0:KI:=λvs σ H Q=>vs=[]/\Q σ H
def FM(t:TG)(u:KI):KI:=λvs σ H Q=>∃v r,vs=v::r/\t v σ H λq H'=>u r q H' Q
theorem y4:PGs X [] S0:=by
 intro pins s σ H vs q Q I r h;obtain⟨e,h⟩:=h;subst e;cases r;exact assignInOrder_nil ⟨σ,H,I,h⟩
theorem iR{e:Expr}{es:List Expr}{t:TG}{u:KI}(h1:PG X e t)(h2:PGs X es u)
  (hs:(WA (e::es) X.env).map (·.2)=WU e X.env::(WA es X.env).map (·.2):=by rfl):PGs X (e::es) (FM t u):=by
 intro pins s σ H vs M Q I r h;obtain⟨v,N,G,h⟩:=h;subst G;cases r with
 | cons r rr=>
  rw[hs];refine za0 (bG (h1 pins s σ H _ _ _ I r h) λ_ F ⟨q,H1,B,J⟩=>?_);exact h2 pins F q H1 _ _ Q B rr J
def RN(K:U6)(n:Nat)(t:KI):TG:=λv σ H Q=>∃a xs,v=.ref a/\SqT K H a xs/\xs.length=n/\t xs σ H Q
theorem E6(M:X.calm=true)(h:PGs X es t)
  (Y:(WA es X.env).length=n:=by rfl) (q:(WA es X.env).findIdx? (·.1)=none:=by rfl):PG X (.Tuple es k pos) (RN X.K n t):=by
 intro pins s σ H v u Q I r hw;obtain⟨a,xs,W,G,N,hw⟩:=hw;subst W;cases r;obtain⟨aa,B,U,hz⟩:=I.tuple G;refine assign_Tuple_tuple (I.ok.hd M) U (by simp[Y,<- N,B.length]) q λh' F=>?_
 have J:Inv X pins σ H {s with heap:=h'}:=I.kept (t':=s.toks) λb o e=>F b o (VT (VE e)) e
 exact h pins _ σ H xs _ Q J (by simpa using B) hw
def F4(to B:TE)(t:xO):TG:=λv σ H Q=>to σ H λo H1=>B σ H1 λi H2=>t o i v H2 λq=>Q σ q
theorem rZ{o i:Expr}{to F:TE}{t:xO}(M:PE X o to)(hi:PE X i F)(hs:B1 X t)
  (ha:∀v, WU (.Subscript o i pos) X.env v = (do
   let q <- YJ [v] (eval o X.env);let B <- YJ [v,q] (eval i X.env)
   standAt pos
   YJ [v,q,B] (setItem q B v)
   release [v,q,B] []):=by intro _;rfl):PG X (.Subscript o i pos) (F4 to F t):=by
 intro pins s σ H v u Q I r h;rw[ha];refine U4 (W3 (bG (M pins s σ H _ I h) λq s1 ⟨x,H1,N,J,q1⟩=>?_));refine U4 (W3 (bG (hi pins s1 σ H1 _ N q1) λB s2 ⟨y,H2,U,Y,G⟩=>?_));refine U4 (ZV (U4 (W3 (bG (hs pins s2 σ H2 x y v q B u _ U J Y r G) λ_ s3 ⟨W,I3,q3⟩=>?_))));exact wpAny_release ⟨σ,W,I3,q3⟩
def vI(te:TE)(g:TG):TS:=λD σ H=>te σ H λx H1=>g x σ H1 D.nx
theorem sD{tg e:Expr}{te:TE}{g:TG}(M:PE X e te)(N:PG X tg g)(hs:XZ [tg] e pos.line X.env=pure false:=by rfl)(hw:X0 [tg] e X.env=pure none:=by rfl)
  (h1:(WA [tg] X.env).map (·.2)=[WU tg X.env]:=by rfl):PS X (.Assign [tg] e pos) (vI te g):=by
 intro pins s σ H D I h;refine wpAny_Assign_stores (bG (M pins s σ H _ I h) λv G ⟨x,H1,F,B,J⟩=>?_) hs hw;rw[h1];exact bG (N pins G σ H1 x v _ F B J) λ_ U q=>q
theorem rV{i:Nat}{x:Str}{e:Expr}{te:TE}{pos':Pos}(W:X.N.Nodup)(hi:X.N[i]?=some x)(q:Loc X.env.scope x)(M:PE X e te)(hs:V3 e (some (.Name x pos')) pos.line X.env=pure false:=by rfl)(J:X.fn x=true\/X.env.scope.names.lookup x=some .local:=by first|exact .inl rfl|exact .inr rfl|assumption) :
  PS X (.Assign [.Name x pos'] e pos) (vI te (fQ i)):=by
 intro pins s σ H D I h;refine wpAny_Assign_Name (bG (M pins s σ H _ I h) λv Y ⟨y,H1,F,B,U⟩=>?_) hs;exact iJ F W hi q B (λs2 G=>⟨_,H1,G,U⟩) J
def TF(i j:Nat)(ta:TA):TS:=λD σ H=>ta σ H λvs H1=>∃v w,vs=[v,w]/\D.nx ((σ.set i (some v)).set j (some w)) H1
theorem OC{i j:Nat}{x y:Str}{a b:Expr}{ta:TA}{U M pt:Pos}{kt k2 pt2}(hc:X.calm=true)(hN:X.N.Nodup)(hi:X.N[i]?=some x)(hj:X.N[j]?=some y)(Y:i≠j)
  (hx:X.env.scope.names.lookup x=some .local) (hy:X.env.scope.names.lookup y=some .local) (ha:PA X [a,b] ta)
  (hw:X0 [.Tuple [.Name x U,.Name y M] kt pt] (.Tuple [a,b] k2 pt2) X.env=pure (some [x,y]))
  (hs:XZ [.Tuple [.Name x U,.Name y M] kt pt] (.Tuple [a,b] k2 pt2) pos.line X.env=pure false:=by rfl) :
  PS X (.Assign [.Tuple [.Name x U,.Name y M] kt pt] (.Tuple [a,b] k2 pt2) pos) (TF i j ta):=by
 intro pins s σ H D I h;rw[exec_Assign_arm];refine U4 (ZV ?_);rw[hs];refine U4 (U7 ?_);rw[if_neg (by decide)];refine U4 (Tuple_ (bG (ha _ pins s σ H _ I h) λus G ⟨vs,H1,I1,r1,J⟩=>?_));obtain⟨v,w,e1,J⟩:=J;subst e1;obtain⟨F,B,rfl,rv,W⟩:∃F B,us=[F,B]/\RelV v F/\RelV w B:=by
  cases r1 with
  | cons p q=>
   cases q with
   | cons p' q'=>
    cases q';exact⟨_,_,rfl,p,p'⟩
 refine WW ?_ (by show 2<=VC;decide);have I2:Inv X pins σ H1 {G with heap:=G.heap.push {cls:=.type "tuple",data:=.seq [F,B].toArray} }:=I1.kept (t':=G.toks) λb o e=>VI _ e
 rw[hw];refine U4 (U7 ?_);show wpAny (model X.prog X.w) X.A (do rule "assign.swapped-stores";let items <- unpackItems (.ref G.heap.objs.size) 2 none;assignInOrder [λv=>bindName X.env y v,λv=>bindName X.env x v] items.reverse;pure Flow.next) _ _ _
 refine U4 (YW (U4 (unpackItems_tuple (items:=#[F,B]) (I.ok.hd hc) (IsTup.new G.heap _) λh' aa=>?_)));have I3:=I2.kept (h':=h') (t':=G.toks) λb o e=>aa b o (VT (VE e)) e
 show wpAny _ _ (assignInOrder [λv=>bindName X.env y v,λv=>bindName X.env x v] [B,F] >>= λ_=>pure Flow.next) _ _ _
 refine U4 (za0 (wpAny_bindName (iJ I3 hN hj (.inl hy) W (λs2 I4=>?_) (.inr hy))));refine za0 (wpAny_bindName (iJ I4 hN hi (.inl hx) rv (λs3 I5=>assignInOrder_nil (U7 ?_)) (.inr hx)));rw[List.set_comm _ _ (VY Y)]at I5;exact⟨_,H1,I5,J⟩
end
section
variable {X:Cx}{pos:Pos}
def MA(c:TT)(tb:TS):TS:=λD σ H=>∃W:Nat->St->Hp->Prop,(∃m,W m σ H)/\∀m σ H,W m σ H->
 c σ H λb H1=>if b=true then ∃N:St->Hp->Prop,(∀q H',N q H'->∃B,B<m/\W B q H')/\tb {D with nx:=N,ct:=N,bk:=D.nx} σ H1 else D.nx σ H1
theorem D6{c:Expr}{body:List Stmt}{tc:TT}{tb:TS}(hp:Y4 (model X.prog X.w) X.A X.env X.xe)(hc:PT X c tc)(hb:PSs X body tb):PS X (.While c body [] pos) (MA tc tb):=by
 intro pins s σ H D I h;obtain⟨W,⟨m0,w0⟩,turn⟩:=h;refine wpAny_While (codeAny_whileLoop (λn s'=>∃G H',Inv X pins G H' s'/\W n G H') ?_ m0 ⟨σ,H,I,w0⟩);rintro n s1 ⟨B,H1,I1,w1⟩;refine YX hp (bG (hc pins s1 B H1 _ I1 (turn n B H1 w1)) λb s2 ⟨H2,I2,M⟩=>?_);cases b with
 | true=>
  obtain⟨N,hN,M⟩:=M;rw[if_pos rfl];refine YX hp (bG (hb pins s2 B H2 _ I2 M) λf s3 J=>?_);cases f with
  | next=>
   obtain⟨q,F,Y,n3⟩:=J;obtain⟨m',hm,U⟩:=hN q F n3;exact⟨m',hm,q,F,Y,U⟩
  | cont=>
   obtain⟨q,F,Y,n3⟩:=J;obtain⟨m',hm,U⟩:=hN q F n3;exact⟨m',hm,q,F,Y,U⟩
  | brk=>exact J
  | ret v=>exact J
 | false=>
  rw[if_neg VL];exact zal ⟨B,H2,I2,M⟩
end
structure It where
 go:Nat->Hp->Prop
 yld:Nat->Hp->V->Hp->Prop
 stop:Nat->Hp->Prop
def fS(X:Cx)(pins:List (Addr×Obj))(H:Hp)(b:Addr):Prop:=
 H b=none/\b≠X.env.locals/\b∉X.fs/\(b∈X.ex\/X.s₀.heap.objs.size<=b)/\(∀x c,X.env.cells.lookup x=some c->c≠b)/\∀p∈X.pn++pins,p.1≠b
theorem Inv.fpOk(I:Inv X pins σ H s)(B:s.heap.objs.size<=b)(F:H' b=none):fS X pins H' b:=by
 refine⟨F,WB (WQ I.lt B),I.nofs B,.inr (WM I.sz B),λx c e z=>?_,λp G z=>?_⟩
 ·obtain⟨v,q⟩:=I.cell x c e
  exact absurd (WQ q.lt (by rw[z];exact B)) (XG _)
 ·exact absurd (WQ (VE (I.pin p G).1) (by rw[z];exact B)) (XG _)
structure Turn(P:VB)(w:World)(K:U6)(tg:Expr)(J:It)(fp:List Addr)(it:Addr)(tn:Nat->Heap->Prop):Prop where
 mem:it∈fp
 obj:∀i h,tn i h->∀b∈fp,∃o,h.get? b=some o/\∀v,o.data≠.cell v
 keep:∀i h h',tn i h->(∀b∈fp,∀o,h.get? b=some o->h'.get? b=some o)->tn i h'
 item:∀(X:Cx),X.prog=P->X.w=w->X.K=K->X.calm=true->∀(i:Nat) (pins:List (Addr×Obj)) (s:U5) (σ:St) (H:Hp) (E:Value->U5->Prop),Inv X pins σ H s->(∀b∈fp,fS X pins H b)->tn i s.heap->J.go i H->
  wpAny (model P w) X.A (WC (.ref it)) (λr s1=>∃u,r=some u /\
   wpAny (model P w) X.A (zam tg (.ref it) u) (λ_ s2=>∃x H',Inv X pins σ H' s2/\RelV x u/\J.yld i H x H'/\tn (i+1) s2.heap/\∀b∈fp,H' b=none) E s1) E s
 done:∀(X:Cx),X.prog=P->X.w=w->X.K=K->X.calm=true->∀(i:Nat) (pins:List (Addr×Obj)) (s:U5) (σ:St) (H:Hp) (E:Value->U5->Prop),Inv X pins σ H s->(∀b∈fp,fS X pins H b)->tn i s.heap->J.stop i H->
  wpAny (model P w) X.A (WC (.ref it)) (λr s1=>r=none/\Inv X pins σ H s1) E s
 self:∀(A:VJ) (i:Nat) (s:U5) (Q:Value->U5->Prop) (E:Value->U5->Prop),tn i s.heap->Q (.ref it) s->wpAny (model P w) A (pyIter (.ref it)) Q E s
abbrev TI:=St->Hp->(It->Hp->Prop)->Prop
def PIE(X:Cx)(pins:List (Addr×Obj))(σ:St)(tg:Expr)(R:It->Hp->Prop)(q:Value)(B:U5):Prop:=
 ∃(it:Addr) (fp:List Addr) (tn:Nat->Heap->Prop) (J:It) (H':Hp),q=.ref it/\Inv X pins σ H' B/\Turn X.prog X.w X.K tg J fp it tn/\tn 0 B.heap/\(∀b∈fp,fS X pins H' b)/\R J H'
def PI(X:Cx)(tg q:Expr)(wi:TI):Prop:=
 ∀(pins:List (Addr×Obj)) (s:U5) (σ:St) (H:Hp) (R:It->Hp->Prop),Inv X pins σ H s->wi σ H R->
  wpAny (model X.prog X.w) X.A (eval q X.env) (λv B=>wpAny (model X.prog X.w) X.A (pyIter v) (PIE X pins σ tg R) X.xe B) X.xe s
theorem p9(F:s.heap.get? it=some o)(G:o.cls=.type n)(hd:o.data=.fields vs)
    (B:["enumerate", "zip", "dict_itemiterator", "dict_reverseitemiterator", "odict_iterator", "itertools.zip_longest", "itertools.pairwise"].contains n=false) (q:Q () s):wpAny M A (zam tg (.ref it) u) Q E s:=by
  unfold zam;cases tg <;> first
    | exact U7 q
    | (cases u <;> first
        | exact U7 q
        | (refine U4 (wpAny_load F ?_)
           rw[G,hd];show wpAny M A (if(["enumerate", "zip", "dict_itemiterator", "dict_reverseitemiterator", "odict_iterator", "itertools.zip_longest", "itertools.pairwise"].contains n && vs[0]? == some (WF _))=true then _ else _) Q E s;rw[if_neg (by intro h;rw[B,Bool.false_and]at h;cases h)];exact U7 q))
def T6(K:U6)(a:Addr):It:=
 ⟨λi H=>∃xs x,SqL K H a xs/\xs[i]?=some x,λi H x H'=>H'=H/\∀xs,SqL K H a xs->xs[i]?=some x,λi H=>∃xs,SqL K H a xs/\xs.length<=i⟩
def TX(K:U6)(a:Addr):It:=
 ⟨λi H=>∃xs x,SqT K H a xs/\xs[i]?=some x,λi H x H'=>H'=H/\∀xs,SqT K H a xs->xs[i]?=some x,λi H=>∃xs,SqT K H a xs/\xs.length<=i⟩
noncomputable def RS(lo:Int)(n:Nat):It:=⟨λi _=>i<n,λi H x H'=>H'=H/\x=.int (lo+i),λi _=>n<=i⟩
theorem AG{P:VB}{w:World}{K:U6}{tg:Expr}(a it:Addr):Turn P w K tg (T6 K a) [it] it (λi h=>h.IsListIter it a i) where
 mem:=by simp
 obj:=λi h st b q=>by
  have e:b=it:=by simpa using q
  subst e;obtain⟨o,e,c,d⟩:=st;exact⟨o,e,λv z=>by rw[d]at z;cases z⟩
 keep:=λi h h' st k=>st.at λo e=>k it (by simp) o e
 item:=by
  intro X J hw hK hc i pins s σ H E I F st M;subst J hw hK;obtain⟨xs,x,G,hx⟩:=M;obtain⟨N,W,p,hz⟩:=I.list G;obtain⟨u,hu,ru⟩:=W.get hx;obtain⟨f0,f1,f2,Y,U,f5⟩:=F it (by simp);refine wpAny_pyNext_list_item st p.isList (x:=u) (by simpa using hu) λh' B sb=>?_
  have I1:Inv X pins σ H {s with heap:=h'}:=I.turned (t':=s.toks) (λb o q e=>(sb.2 b q).trans e) f0 f1 Y U f5;obtain⟨o,e,c,d⟩:=id B;exact⟨u,rfl,p9 (s:={s with heap:=h'}) e c d (by decide) ⟨x,H,I1,ru,⟨rfl,λys hy=>by rw[I.list_inj hy G];exact hx⟩,B,λb q=>(F b q).1⟩⟩
 done:=by
  intro X J hw hK hc i pins s σ H E I F st M;subst J hw hK;obtain⟨xs,G,hx⟩:=M;obtain⟨N,W,p,hz⟩:=I.list G;obtain⟨f0,f1,f2,Y,U,f5⟩:=F it (by simp);have hl:=W.length;exact wpAny_pyNext_list_end (I.ok.hd hc) st p.isList (by simp;lia) λh' eb=>⟨rfl,I.turned (t':=s.toks) (λb o q e=>eb b o q e) f0 f1 Y U f5⟩
 self:=λ_ _ _ _ _ st h=>wpAny_pyIter_listiter st h
theorem wF{P:VB}{w:World}{K:U6}{tg:Expr}(a it:Addr):Turn P w K tg (TX K a) [it] it (λi h=>h.IsTupleIter it a i) where
 mem:=by simp
 obj:=λi h st b B=>by
  have e:b=it:=by simpa using B
  subst e;obtain⟨o,e,c,d⟩:=st;exact⟨o,e,λv z=>by rw[d]at z;cases z⟩
 keep:=λi h h' st k=>st.at λo e=>k it (by simp) o e
 item:=by
  intro X M hw hK hc i pins s σ H E I G st N;subst M hw hK;obtain⟨xs,x,J,hx⟩:=N;obtain⟨q,W,p,hz⟩:=I.tuple J;obtain⟨u,hu,ru⟩:=W.get hx;obtain⟨f0,f1,f2,Y,U,f5⟩:=G it (by simp);refine wpAny_pyNext_tuple_item st (show s.heap.IsTuple a q.toArray from p) (x:=u) (by simpa using hu) λh' F sb=>?_
  have I1:Inv X pins σ H {s with heap:=h'}:=I.turned (t':=s.toks) (λb o B e=>(sb.2 b B).trans e) f0 f1 Y U f5;obtain⟨o,e,c,d⟩:=id F;exact⟨u,rfl,p9 (s:={s with heap:=h'}) e c d (by decide) ⟨x,H,I1,ru,⟨rfl,λys hy=>by rw[I.tuple_inj hy J];exact hx⟩,F,λb B=>(G b B).1⟩⟩
 done:=by
  intro X M hw hK hc i pins s σ H E I G st N;subst M hw hK;obtain⟨xs,J,hx⟩:=N;obtain⟨q,W,p,hz⟩:=I.tuple J;obtain⟨f0,f1,f2,Y,U,f5⟩:=G it (by simp);have hl:=W.length;exact wpAny_pyNext_tuple_end (I.ok.hd hc) st (show s.heap.IsTuple a q.toArray from p) (by simp;lia) λh' eb=>⟨rfl,I.turned (t':=s.toks) (λb o B e=>eb b o B e) f0 f1 Y U f5⟩
 self:=λ_ _ _ _ _ st h=>wpAny_pyIter_tupleiter st h
theorem wB{P:VB}{w:World}{K:U6}{tg:Expr}(it:Addr)(lo:Int)(n:Nat):Turn P w K tg (RS lo n) [it] it (λi h=>IsRangeIter h it (lo+(i:Nat)*1) ((n:Int)-(i:Nat)) 1) where
 mem:=by simp
 obj:=λi h st b q=>by
  have e:b=it:=by simpa using q
  subst e;exact⟨_,st,λv z=>by
   have z':Data.fields _=Data.cell v:=z;cases z'⟩
 keep:=λi h h' st k=>k it (by simp) _ st
 item:=by
  intro X M hw hK J i pins s σ H E I F st Y;subst M hw hK;obtain⟨f0,N,f2,U,G,f5⟩:=F it (by simp);have W:=Walks.range (prog:=X.prog) (w:=X.w) (I.ok.hd J) it lo 1 n;refine W.item i s _ _ Y st λv h' tk hv B kk=>?_
  obtain⟨t,rfl⟩:=hv;have I1:Inv X pins σ H {s with heap:=h',toks:=tk}:=I.turned (λb o q e=>kk b o (by simpa using q) e) f0 N U G f5;refine⟨_,rfl,p9 (s:={s with heap:=h',toks:=tk}) (n := "range_iterator") B rfl rfl (by decide) ⟨.int (lo+i),H,I1,⟨t,?_⟩,⟨rfl,rfl⟩,B,λb q=>(F b q).1⟩⟩;rw[Int.mul_one]
 done:=by
  intro X M hw hK J i pins s σ H E I F st Y;subst M hw hK;obtain⟨f0,N,f2,U,G,f5⟩:=F it (by simp);exact wpAny_pyNext_range_end (I.ok.hd J) st (by have:n<=i:=Y;lia) λh' eb=>⟨rfl,I.turned (t':=s.toks) (λb o q e=>eb b o q e) f0 N U G f5⟩
 self:=λ_ _ _ _ _ st h=>wpAny_pyIter_rangeiter st h
section
variable {X:Cx}{tg:Expr}
def PU(K:U6)(tl:TE):TI:=λσ H R=>tl σ H λx H1=>∃a,x=.ref a/\(∃xs,SqL K H1 a xs)/\R (T6 K a) H1
def S3(K:U6)(tl:TE):TI:=λσ H R=>tl σ H λx H1=>∃a,x=.ref a/\(∃xs,SqT K H1 a xs)/\R (TX K a) H1
theorem HC{l:Expr}{tl:TE}(N:PE X l tl):PI X tg l (PU X.K tl):=by
 intro pins s σ H R I h;refine bG (N pins s σ H _ I h) λv F ⟨x,H1,B,G,U⟩=>?_
 obtain⟨a,e,⟨xs,M⟩,q⟩:=U;subst e;cases G;obtain⟨W,Y,p,hz⟩:=B.list M;refine za1 p.isList ?_;refine⟨F.heap.objs.size,[F.heap.objs.size],_,_,H1,rfl,B.kept (t':=F.toks) λb o e=>VI _ e,AG a _,⟨_,VW _ rfl,rfl,rfl⟩,λb J=>?_,q⟩;have e:b=F.heap.objs.size:=by simpa using J
 subst e;exact B.fpOk (VH _) (B.hok.fresh (VH _))
theorem NH{l:Expr}{tl:TE}(U:PE X l tl):PI X tg l (S3 X.K tl):=by
 intro pins s σ H R I h;refine bG (U pins s σ H _ I h) λv B ⟨x,H1,F,J,W⟩=>?_
 obtain⟨a,e,⟨xs,N⟩,q⟩:=W;subst e;cases J;obtain⟨G,Y,p,hz⟩:=F.tuple N;refine Y5 (show B.heap.IsTuple a G.toArray from p) ?_;refine⟨B.heap.objs.size,[B.heap.objs.size],_,_,H1,rfl,F.kept (t':=B.toks) λb o e=>VI _ e,wF a _,⟨_,VW _ rfl,rfl,rfl⟩,λb M=>?_,q⟩;have e:b=B.heap.objs.size:=by simpa using M
 subst e;exact F.fpOk (VH _) (F.hok.fresh (VH _))
theorem tX{pins:List (Addr×Obj)}{σ:St}{H:Hp}{s:U5}{R:It->Hp->Prop}{E:Value->U5->Prop}{lo hi:Int}{t u v:Tok}{tk:Nat}(I:Inv X pins σ H s)(h1:-(2^62)<=lo)(h2:lo<2^62)(G:-(2^62)<=hi)(J:hi<2^62)
  (q:R (RS lo (hi-lo).toNat) H):wpAny (model X.prog X.w) X.A (pyIter (.ref s.heap.objs.size)) (PIE X pins σ tg R) E {s with heap:=s.heap.push {cls:=.type "range",data:=.fields #[.int lo t,.int hi u,.int 1 v]},toks:=tk}:=by
 refine wpAny_pyIter_range (IsRange.new ..) (small_one h1 h2 G J) ?_;have B:Inv X pins σ H {s with heap:=s.heap.push {cls:=.type "range",data:=.fields #[.int lo t,.int hi u,.int 1 v]},toks:=tk}:=I.kept λb o e=>VI _ e
 refine⟨(s.heap.push {cls:=.type "range",data:=.fields #[.int lo t,.int hi u,.int 1 v]}).objs.size,[(s.heap.push {cls:=.type "range",data:=.fields #[.int lo t,.int hi u,.int 1 v]}).objs.size],_,_,H,rfl,
  B.kept (t':=tk) λb o e=>VI _ e,wB _ lo (hi-lo).toNat,?_,λb F=>?_,q⟩
 ·have M:lo+((0:Nat):Int)*1=lo:=by simp
  have N:(((hi-lo).toNat:Nat):Int)-((0:Nat):Int)=Builtin.Range.rangeSize lo hi 1:=by rw[rangeSize_one];split <;> lia
  show IsRangeIter _ _ (lo+((0:Nat):Int)*1) ((((hi-lo).toNat:Nat):Int)-((0:Nat):Int)) 1;rw[M,N];exact VW _ rfl
 ·have e:b=(s.heap.push {cls:=.type "range",data:=.fields #[.int lo t,.int hi u,.int 1 v]}).objs.size:=by simpa using F
  subst e;exact B.fpOk (VH _) (B.hok.fresh (VH _))
def QU(ta:TA):TI:=λσ H R=>ta σ H λvs H1=>∃j:Int,vs=[.int j]/\-(2^62)<=j/\j<2^62/\R (RS 0 j.toNat) H1
def QY(ta:TA):TI:=λσ H R=>ta σ H λvs H1=>∃i j:Int,vs=[.int i,.int j]/\(-(2^62)<=i/\i<2^62/\-(2^62)<=j/\j<2^62)/\R (RS i (j-i).toNat) H1
theorem BG{a:Expr}{ta:TA}{p pos:Pos}(J:Gl X "range")(N:X.mg "range" = none)(U:PA X [a] ta)(hs:U8 [a] X.env=[(false,eval a X.env)]:=by rfl):PI X tg (.Call (.Name "range" p) [a] [] pos) (QU ta):=by
 intro pins s σ H R I h;refine Call_ (jQ I J N boot_range (zan (bG (U pos pins s σ H _ I h) λW Y ⟨vs,H1,M,G,B⟩=>?_) hs rfl));obtain⟨j,e,B,F,q⟩:=B;subst e;cases G with
 | cons r rr=>
  cases rr;obtain⟨t,rfl⟩:=r;exact call_range_1 (tX M (by lia) (by lia) B F (by simpa using q))
theorem AF{a b:Expr}{ta:TA}{p pos:Pos}(N:Gl X "range")(W:X.mg "range" = none)(ha:PA X [a,b] ta)(hs:U8 [a,b] X.env=[(false,eval a X.env),(false,eval b X.env)]:=by rfl)(B:U8 [b] X.env=[(false,eval b X.env)]:=by rfl) :
  PI X tg (.Call (.Name "range" p) [a,b] [] pos) (QY ta):=by
 intro pins s σ H R I h;refine Call_ (jQ I N W boot_range (zan (bG (ha pos pins s σ H _ I h) λus s1 ⟨vs,H1,U,M,F⟩=>?_) (by rw[hs,B]) (by rw[B];rfl)));obtain⟨i,j,e,⟨F,G,Y,J⟩,q⟩:=F;subst e;cases M with
 | cons r rr=>
  cases rr with
  | cons r' rr=>
   cases rr;obtain⟨t,rfl⟩:=r;obtain⟨t',rfl⟩:=r';exact call_range_2 (tX U F G Y J q)
def S8(wi:TI)(g:TG)(tb:TS):TS:=λD σ H=>wi σ H λJ H1=>∃W:Nat->Nat->St->Hp->Prop,(∃m,W 0 m σ H1)/\∀i m σ H,W i m σ H->
 (J.stop i H/\D.nx σ H)\/(J.go i H/\∃N:St->Hp->Prop,(∀q H',N q H'->∃F,F<m/\W (i+1) F q H')/\∀x H',J.yld i H x H'->g x σ H' λB H2=>tb {D with nx:=N,ct:=N,bk:=D.nx} B H2)
noncomputable def nI(fp:List Addr)(h:Heap):List (Addr×Obj):=fp.filterMap λb=>(h.get? b).map λo=>(b,o)
theorem eQ(q:b∈fp)(e:h.get? b=some o):(b,o)∈nI fp h:=List.mem_filterMap.mpr ⟨b,q,by rw[e];rfl⟩
theorem BR(G:p∈nI fp h):p.1∈fp/\h.get? p.1=some p.2:=by
 obtain⟨b,F,e⟩:=List.mem_filterMap.mp G;cases q:h.get? b with
 | none=>rw[q]at e;cases e
 | some o=>
  rw[q]at e;have B:(b,o)=p:=VX e;subst B;exact⟨F,q⟩
theorem Inv.pinned(I:Inv X pins σ H s)(G:∀b∈fp,fS X pins H b)(F:∀b∈fp,∃o,s.heap.get? b=some o/\∀v,o.data≠.cell v):Inv X (pins++nI fp s.heap) σ H s:=
 I.pins_of λp N=>(List.mem_append.mp N).elim (λz=>I.pin p (XR _ z)) λz=>by
  obtain⟨q,e⟩:=BR z;obtain⟨f0,J,M,_⟩:=G p.1 q;obtain⟨o,B,d⟩:=F p.1 q;rw[e]at B;cases B;exact⟨e,f0,J,M,d⟩
theorem Inv.unpinned(I:Inv X (pins++pl) σ H s):Inv X pins σ H s:=I.pins_of λp q=>I.pin p (XR _ (ZT _ q))
theorem LL{G:Expr}{body:List Stmt}{wi:TI}{g:TG}{tb:TS}{pos:Pos}(hp:Y4 (model X.prog X.w) X.A X.env X.xe)(hc:X.calm=true)(hi:PI X tg G wi)(hg:PG X tg g)(hb:PSs X body tb)
  (hs:∀x,W4 G X.env x=pure x:=by intro _;rfl):PS X (.For tg G body [] pos) (S8 wi g tb):=by
 intro pins s σ H D I h;refine wpAny_For (bG (hi pins s σ H _ I h) λv s1 h1=>bG h1 λbg s2 h2=>?_) hs;obtain⟨it,fp,tn,J,H2,e,I2,T,al,f2,W,⟨m0,w0⟩,turn⟩:=h2;subst e
 -- what stays true of the iterator's objects through the loop
 have ab:∀ {H':Hp},(∀b∈fp,H' b=none)->∀b∈fp,fS X pins H' b:=λhn b hb=>⟨hn b hb,(f2 b hb).2⟩
 refine codeAny_forLoop_any (λn s'=>∃i U H',Inv X pins U H' s'/\tn i s'.heap/\(∀b∈fp,H' b=none)/\W i n U H') ?_ m0 ⟨0,σ,H2,I2,al,λb hb=>(f2 b hb).1,w0⟩;rintro n s3 ⟨i,Y,H3,I3,ag,af,w3⟩;rcases turn i n Y H3 w3 with⟨ae,qn⟩|⟨go,N,hN,step⟩
 ·refine YX hp (bG (T.done X rfl rfl rfl hc i pins s3 Y H3 X.xe I3 (ab af) ag ae) λr s4 ⟨hr,I4⟩=>?_)
  subst hr;exact zal ⟨Y,H3,I4,qn⟩
 ·refine YX hp (bG (T.item X rfl rfl rfl hc i pins s3 Y H3 X.xe I3 (ab af) ag go) λr s4 ⟨u,hr,h4⟩=>?_)
  subst hr;refine YX hp (bG h4 λ_ s5 ⟨x,H5,I5,r5,y5,ad,an⟩=>?_);have am:=I5.pinned (ab an) (T.obj _ _ ad);refine YX hp (bG (hg _ s5 Y H5 x u _ am r5 (step x H5 y5)) λ_ s6 ⟨ao,H6,I6,q6⟩=>?_);refine YX hp (bG (hb _ s6 ao H6 _ I6 q6) λf s7 q7=>?_);have M:∀ {q:St} {B:Hp},Inv X (pins++nI fp s5.heap) q B s7->N q B->∃m,m<n/\∃i U H',Inv X pins U H' s7/\tn i s7.heap/\(∀b∈fp,H' b=none)/\W i m U H':=λ{q B} F n7=>by
   obtain⟨m',hm,w7⟩:=hN q B n7;refine⟨m',hm,i+1,q,B,F.unpinned,T.keep _ _ _ ad λb hb o e=>(F.pin (b,o) (XR _ (XR _ (eQ hb e)))).1,λb hb=>?_,w7⟩;obtain⟨o,e,d⟩:=T.obj _ _ ad b hb;exact(F.pin (b,o) (XR _ (XR _ (eQ hb e)))).2.1
  cases f with
  | next=>obtain⟨q,B,F,n7⟩:=q7;exact M F n7
  | cont=>obtain⟨q,B,F,n7⟩:=q7;exact M F n7
  | brk=>obtain⟨q,B,F,q7⟩:=q7;exact⟨q,B,F.unpinned,q7⟩
  | ret v=>obtain⟨x7,q,B,F,r7,q7⟩:=q7;exact⟨x7,q,B,F.unpinned,r7,q7⟩
end
abbrev R2:=V->V->Hp->VK->Prop
def OpR(X:Cx)(f:Value->Value->Sem Value)(r:R2):Prop:=
 ∀(pins:List (Addr×Obj)) (s:U5) (σ:St) (H:Hp) (x y:V) (v u:Value) (Q:VK),Inv X pins σ H s->RelV x v->RelV y u->r x y H Q->
  wpAny (model X.prog X.w) X.A (f v u) (EP X pins σ Q) X.xe s
def TV(X:Cx)(f:Value->Sem Value)(r:V->Hp->VK->Prop):Prop:=
 ∀(pins:List (Addr×Obj)) (s:U5) (σ:St) (H:Hp) (x:V) (v:Value) (Q:VK),Inv X pins σ H s->RelV x v->r x H Q->
  wpAny (model X.prog X.w) X.A (f v) (EP X pins σ Q) X.xe s
def CallR(X:Cx)(f:Value)(r:List V->Hp->VK->Prop):Prop:=
 ∀(pins:List (Addr×Obj)) (s:U5) (σ:St) (H:Hp) (xs:List V) (us:List Value) (Q:VK),Inv X pins σ H s->Vals xs us->r xs H Q->
  wpAny (model X.prog X.w) X.A (call f us) (EP X pins σ Q) X.xe s
def PJ(r:R2)(ta tb:TE):TE:=λσ H Q=>ta σ H λx H1=>tb σ H1 λy H2=>r x y H2 Q
def UP(r:V->Hp->VK->Prop)(ta:TE):TE:=λσ H Q=>ta σ H λx H1=>r x H1 Q
def rI(C:Int->Int->Prop)(g:Int->Int->V):R2:=λx y H Q=>∃i j,x=.int i/\y=.int j/\C i j/\Q (g i j) H
def GE(g:Int->Int->V):R2:=λx y H Q=>∃i j,x=.int i/\y=.int j/\Q (g i j) H
def rU(g:Int->V):V->Hp->VK->Prop:=λx H Q=>∃i,x=.int i/\Q (g i) H
section
variable {X:Cx}{a b c:Expr}{ta tb tc:TE}{pos:Pos}
theorem OQ(ha:PE X a ta)(M:PE X b tb){pins:List (Addr×Obj)}{s:U5}{σ:St}{H:Hp}{R:V->V->Hp->Prop}(I:Inv X pins σ H s)
  (h:ta σ H λx H1=>tb σ H1 λy H2=>R x y H2) {Q:Value->U5->Prop} {f:Value->Value->Sem Value}
  (Y:∀v u F x y H2,Inv X pins σ H2 F->RelV x v->RelV y u->R x y H2->wpAny (model X.prog X.w) X.A (f v u) Q X.xe F) :
  wpAny (model X.prog X.w) X.A (eval a X.env) (λv B=>wpAny (model X.prog X.w) X.A (eval b X.env) (λu q=>wpAny (model X.prog X.w) X.A (f v u) Q X.xe q) X.xe B) X.xe s:=by
 refine bG (ha pins s σ H _ I h) λv U ⟨x,H1,N,J,q1⟩=>?_
 refine bG (M pins U σ H1 _ N q1) λu F ⟨y,H2,I2,W,G⟩=>?_
 exact Y v u F x y H2 I2 J W G
theorem FJ{op:Operator}{r:R2}(F:OpR X (WD op) r)(U:PE X a ta)(B:PE X b tb):PE X (.BinOp a op b pos) (PJ r ta tb):=by
 intro pins s σ H Q I h;exact wpAny_BinOp (OQ U B I h λv u M x y H2 J G N q=>F pins M σ H2 x y v u Q J G N q)
theorem P2{op:UnaryOp}{r:V->Hp->VK->Prop}(B:TV X (unaryOp op) r)(M:PE X a ta):PE X (.UnaryOp op a pos) (UP r ta):=by
 intro pins s σ H Q I h;exact UnaryOp_ (bG (M pins s σ H _ I h) λv G ⟨x,H1,F,q,J⟩=>B pins G σ H1 x v Q F q J)
theorem R7{f:Value->Value->Sem Value}{C:Int->Int->Prop}{g:Int->Int->Int}
  (B:∀(i j:Int) (t u:Tok) (s:U5) (Q:Value->U5->Prop) (E:Value->U5->Prop),C i j->Q (.int (g i j) s.toks) {s with toks:=s.toks+1}->wpAny (model X.prog X.w) X.A (f (.int i t) (.int j u)) Q E s) :
  OpR X f (rI C λi j=>.int (g i j)):=by
 intro pins s σ H x y v u Q I F G h;obtain⟨i,j,rfl,rfl,J,q⟩:=h;obtain⟨t,rfl⟩:=F;obtain⟨t',rfl⟩:=G;exact B i j t t' s _ _ J ⟨.int (g i j),H,I.tok _,⟨_,rfl⟩,q⟩
theorem RH{f:Value->Value->Sem Value}{g:Int->Int->Int}
  (B:∀(i j:Int) (t u:Tok) (s:U5) (Q:Value->U5->Prop) (E:Value->U5->Prop),Q (.int (g i j) s.toks) {s with toks:=s.toks+1}->wpAny (model X.prog X.w) X.A (f (.int i t) (.int j u)) Q E s) :
  OpR X f (GE λi j=>.int (g i j)):=by
 intro pins s σ H x y v u Q I F G h;obtain⟨i,j,rfl,rfl,q⟩:=h;obtain⟨t,rfl⟩:=F;obtain⟨t',rfl⟩:=G;exact B i j t t' s _ _ ⟨.int (g i j),H,I.tok _,⟨_,rfl⟩,q⟩
theorem JX{f:Value->Value->Sem Value}{g:Int->Int->Bool}
  (B:∀(i j:Int) (t u:Tok) (s:U5) (Q:Value->U5->Prop) (E:Value->U5->Prop),Q (.bool (g i j)) s->wpAny (model X.prog X.w) X.A (f (.int i t) (.int j u)) Q E s) :
  OpR X f (GE λi j=>.bl (g i j)):=by
 intro pins s σ H x y v u Q I F G h;obtain⟨i,j,rfl,rfl,q⟩:=h;obtain⟨t,rfl⟩:=F;obtain⟨t',rfl⟩:=G;exact B i j t t' s _ _ ⟨.bl (g i j),H,I,rfl,q⟩
def JZ(i j:Int):Prop:=0<j/\j<1073741824
def J6(i j:Int):Prop:=0<=j/\j<=1000000/\i.natAbs<2^64
theorem N4:OpR X (WD .Add) (GE λi j=>.int (i+j)):=RH λ_ _ _ _ _ _ _ q=>add_int q
theorem LM:OpR X (WD .Sub) (GE λi j=>.int (i-j)):=RH λ_ _ _ _ _ _ _ q=>sub_int q
theorem JB:OpR X (WD .FloorDiv) (rI JZ λi j=>.int (i/j)):=R7 λi j _ _ _ _ _ B q=>by
 have h1:(0:Int)<j:=B.1;have h2:j<1073741824:=B.2;exact floordiv_int (by lia) (by rw[Int.fdiv_eq_ediv_of_nonneg i (by lia)];exact q) (.inl (PyProof.noPylong_small (by lia)))
theorem MF:OpR X (WD .Mod) (rI (λ_ j=>0<j) λi j=>.int (i%j)):=R7 λi j _ _ _ _ _ B q=>by
 have h1:(0:Int)<j:=B;exact mod_int' (by lia) (by rw[Int.fmod_eq_emod_of_nonneg i (by lia)];exact q)
theorem NO:OpR X (WD .Pow) (rI J6 λi j=>.int (i^j.toNat)):=R7 λ_ _ _ _ _ _ _ B q=>pow_int_small B.1 B.2.1 B.2.2 q
theorem UL{f:Value->Sem Value}{g:Int->Int}
  (B:∀(i:Int) (t:Tok) (s:U5) (Q:Value->U5->Prop) (E:Value->U5->Prop),Q (.int (g i) s.toks) {s with toks:=s.toks+1}->wpAny (model X.prog X.w) X.A (f (.int i t)) Q E s) :
  TV X f (rU λi=>.int (g i)):=by
 intro pins s σ H x v Q I F h;obtain⟨i,rfl,q⟩:=h;obtain⟨t,rfl⟩:=F;exact B i t s _ _ ⟨.int (g i),H,I.tok _,⟨_,rfl⟩,q⟩
theorem ME:TV X (unaryOp .USub) (rU λi=>.int (-i)):=UL λ_ _ _ _ _ q=>neg_int q
end
noncomputable def OY:V->V->Bool
 | .non,.non=>true | .non,.int _=>true | .int _,.non=>true | .non,.bl _=>true | .bl _,.non=>true | .non,.str _=>true | .str _,.non=>true
 | .int _,.int _=>true | .bl _,.bl _=>true | .str _,.str _=>true | .byt _,.byt _=>true
 | .int _,.str _=>true | .str _,.int _=>true | .bl _,.str _=>true | .str _,.bl _=>true
 | _,_=>false
def UM:R2:=λx y H Q=>OY x y=true/\Q (.bl (decide (x=y))) H
def UV:R2:=λx y H Q=>OY x y=true/\Q (.bl (!decide (x=y))) H
theorem yA:decide (V.int i=V.int j)=(i == j):=by
 rw[Y6];simp
theorem EE:decide (V.bl i=V.bl j)=(i == j):=by
 rw[Y6];simp
theorem zA:decide (V.str i=V.str j)=(i == j):=by
 rw[Y6];simp
theorem x9:decide (V.byt i=V.byt j)=(i.toList == j.toList):=by
 rw[Y6];cases i;cases j;simp
section
variable {X:Cx}{a b c:Expr}{ta tb tc:TE}{pos:Pos}
theorem aX(I:Inv X pins σ H s)(q:Q (.bl k) H)(e:k=k'):EP X pins σ Q (.bool k') s:=by
 subst e;exact⟨.bl k,H,I,rfl,q⟩
theorem P9:OpR X (VM .Eq) UM:=by
 intro pins s σ H x y v u Q I F B h;obtain⟨hs,q⟩:=h;cases x with
 | non=>
  cases F;cases y with
  | non=>cases B;exact PySem.EqNone.eq_none_none (aX I q (by simp))
  | bl j=>cases B;exact PySem.EqNone.eq_none_bool (aX I q (by simp))
  | int j=>obtain⟨t',rfl⟩:=B;exact PySem.EqNone.eq_none_int (aX I q (by simp))
  | str j=>obtain⟨t',rfl⟩:=B;exact PySem.EqNone.eq_none_str (aX I q (by simp))
  | _=>exact absurd (show false=true from hs) VL
 | bl i=>
  cases F;cases y with
  | non=>cases B;exact PySem.EqNone.eq_bool_none (aX I q (by simp))
  | bl j=>cases B;exact eq_bool (aX I q EE)
  | str j=>obtain⟨t',rfl⟩:=B;exact PySem.EqMixed.eq_bool_str (aX I q (by simp))
  | _=>exact absurd (show false=true from hs) VL
 | int i=>
  obtain⟨t,rfl⟩:=F;cases y with
  | non=>cases B;exact PySem.EqNone.eq_int_none (aX I q (by simp))
  | int j=>obtain⟨t',rfl⟩:=B;exact eq_int (aX I q yA)
  | str j=>obtain⟨t',rfl⟩:=B;exact PySem.EqMixed.eq_int_str (aX I q (by simp))
  | _=>exact absurd (show false=true from hs) VL
 | str i=>
  obtain⟨t,rfl⟩:=F;cases y with
  | non=>cases B;exact PySem.EqNone.eq_str_none (aX I q (by simp))
  | bl j=>cases B;exact PySem.EqMixed.eq_str_bool (aX I q (by simp))
  | int j=>obtain⟨t',rfl⟩:=B;exact PySem.EqMixed.eq_str_int (aX I q (by simp))
  | str j=>obtain⟨t',rfl⟩:=B;exact eq_str (aX I q zA)
  | _=>exact absurd (show false=true from hs) VL
 | byt i=>
  obtain⟨t,rfl⟩:=F;cases y with
  | byt j=>obtain⟨t',rfl⟩:=B;exact PySem.W.eq_bytes (aX I q x9)
  | _=>exact absurd (show false=true from hs) VL
 | _=>cases y <;> exact absurd (show false=true from hs) VL
theorem PL:OpR X (VM .NotEq) UV:=by
 intro pins s σ H x y v u Q I F B h;obtain⟨hs,q⟩:=h;cases x with
 | non=>
  cases F;cases y with
  | non=>cases B;exact PySem.EqNone.ne_none_none (aX I q (by simp))
  | bl j=>cases B;exact PySem.EqNone.ne_none_bool (aX I q (by simp))
  | int j=>obtain⟨t',rfl⟩:=B;exact PySem.EqNone.ne_none_int (aX I q (by simp))
  | str j=>obtain⟨t',rfl⟩:=B;exact PySem.EqNone.ne_none_str (aX I q (by simp))
  | _=>exact absurd (show false=true from hs) VL
 | bl i=>
  cases F;cases y with
  | non=>cases B;exact PySem.EqNone.ne_bool_none (aX I q (by simp))
  | bl j=>cases B;exact ne_bool (aX I q (congrArg not EE))
  | str j=>obtain⟨t',rfl⟩:=B;exact PySem.EqMixed.ne_bool_str (aX I q (by simp))
  | _=>exact absurd (show false=true from hs) VL
 | int i=>
  obtain⟨t,rfl⟩:=F;cases y with
  | non=>cases B;exact PySem.EqNone.ne_int_none (aX I q (by simp))
  | int j=>obtain⟨t',rfl⟩:=B;exact ne_int (aX I q (congrArg not yA))
  | str j=>obtain⟨t',rfl⟩:=B;exact PySem.EqMixed.ne_int_str (aX I q (by simp))
  | _=>exact absurd (show false=true from hs) VL
 | str i=>
  obtain⟨t,rfl⟩:=F;cases y with
  | non=>cases B;exact PySem.EqNone.ne_str_none (aX I q (by simp))
  | bl j=>cases B;exact PySem.EqMixed.ne_str_bool (aX I q (by simp))
  | int j=>obtain⟨t',rfl⟩:=B;exact PySem.EqMixed.ne_str_int (aX I q (by simp))
  | str j=>obtain⟨t',rfl⟩:=B;exact ne_str (aX I q (congrArg not zA))
  | _=>exact absurd (show false=true from hs) VL
 | byt i=>
  obtain⟨t,rfl⟩:=F;cases y with
  | byt j=>obtain⟨t',rfl⟩:=B;exact PySem.W.ne_bytes (aX I q (congrArg not x9))
  | _=>exact absurd (show false=true from hs) VL
 | _=>cases y <;> exact absurd (show false=true from hs) VL
theorem PV:OpR X (VM .Lt) (GE λi j=>.bl (decide (i<j))):=JX λ_ _ _ _ _ _ _ q=>lt_int q
theorem PX:OpR X (VM .LtE) (GE λi j=>.bl (decide (i<=j))):=JX λ_ _ _ _ _ _ _ q=>le_int q
theorem P7:OpR X (VM .Gt) (GE λi j=>.bl (decide (j<i))):=JX λ_ _ _ _ _ _ _ q=>gt_int q
theorem P5:OpR X (VM .GtE) (GE λi j=>.bl (decide (j<=i))):=JX λ_ _ _ _ _ _ _ q=>ge_int q
theorem BA:OpR X (VM .In) (λx y H Q=>∃i j,x=.str i/\y=.str j/\Q (.bl (!(Builtin.Str.occurrences j i 0 j.length 1).isEmpty)) H):=by
 intro pins s σ H x y v u Q I B F h;obtain⟨i,j,rfl,rfl,q⟩:=h;obtain⟨t,rfl⟩:=B;obtain⟨t',rfl⟩:=F;exact in_str (aX I q rfl)
theorem OpR.or(h:OpR X f r)(h':OpR X f r'):OpR X f (λx y H Q=>r x y H Q\/r' x y H Q):=by
 intro pins s σ H x y v u Q I B F q;rcases q with q|q
 ·exact h pins s σ H x y v u Q I B F q
 ·exact h' pins s σ H x y v u Q I B F q
theorem EA(b:Expr)(h:op≠.In:=by decide)(h2:op≠.NotIn:=by decide):YK op b=false:=by
 have B:(op == CmpOp.In)=false:=by cases op <;> first|rfl|exact absurd rfl h
 have q:(op == CmpOp.NotIn)=false:=by cases op <;> first|rfl|exact absurd rfl h2
 cases b <;> simp[YK,B,q]
theorem JR(F:OpR X (VM op) r)(W:PE X a ta)(B:PE X b tb)(M:YK op b=false):PE X (.Compare a [op] [b] pos) (PJ r ta tb):=by
 intro pins s σ H Q I h;exact wpAny_Compare1 (OQ W B I h λv u N x y H2 J G U q=>F pins N σ H2 x y v u Q J G U q) M
def FQ(t:TE):TT:=λσ H Q=>t σ H λx H'=>∃k,x=.bl k/\Q k H'
theorem yZ{op:CmpOp}{r:R2}(G:OpR X (VM op) r)(ha:PE X a ta)(F:PE X b tb)(Y:YK op b=false):PT X (.Compare a [op] [b] pos) (FQ (PJ r ta tb)):=by
 intro pins s σ H Q I h;refine wpAny_isTrue_Compare1 (bG (ha pins s σ H _ I h) λv M ⟨x,H1,J,B,q1⟩=>bG (F pins M σ H1 _ J q1) λu s2 ⟨y,H2,U,N,q⟩=>
  bG (G pins s2 σ H2 x y v u _ U B N q) λc s3 ⟨z,H3,I3,W,k,e,q3⟩=>?_) Y
 subst e;cases W;exact XJ ⟨H3,I3,q3⟩
def xH(r G:R2)(ta tb tc:TE):TE:=λσ H Q=>ta σ H λx H1=>tb σ H1 λy H2=>r x y H2 λz q=>∃k,z=.bl k /\
 (if k=true then tc σ q λB F=>G y B F Q else Q (.bl false) q)
theorem CV{op q:CmpOp}{r F:R2}(ho:OpR X (VM op) r)(B:OpR X (VM q) F)(ha:PE X a ta)(hb:PE X b tb)(hc:PE X c tc)
  (hm:Y7 [op,q] [b,c]=false:=by with_unfolding_all rfl):PE X (.Compare a [op,q] [b,c] pos) (xH r F ta tb tc):=by
 intro pins s σ H Q I h;refine Compare_chain (bG (ha pins s σ H _ I h) λv s1 ⟨x,H1,I1,r1,Y⟩=>chain_link (bG (hb pins s1 σ H1 _ I1 Y) λu s2 ⟨y,H2,I2,M,q2⟩=>
  bG (ho pins s2 σ H2 x y v u _ I2 r1 M q2) λd U ⟨z,G,N,r3,k,e,J⟩=>?_)) hm
 subst e;cases r3;refine XJ ?_;cases k with
 | false=>exact ite_ff ⟨.bl false,G,N,rfl,J⟩
 | true=>exact ite_tt (chain_last (bG (hc pins U σ G _ N J) λw' s4 ⟨z',W,I4,r4,q4⟩=>B pins s4 σ W y z' u w' Q I4 M r4 q4))
theorem CQ{op q:CmpOp}{r F:R2}(ho:OpR X (VM op) r)(B:OpR X (VM q) F)(ha:PE X a ta)(hb:PE X b tb)(hc:PE X c tc)
  (hm:Y7 [op,q] [b,c]=false:=by with_unfolding_all rfl):PT X (.Compare a [op,q] [b,c] pos) (FQ (xH r F ta tb tc)):=by
 intro pins s σ H Q I h;refine isTrue_chain (bG (ha pins s σ H _ I h) λv s1 ⟨x,H1,I1,r1,Y⟩=>test_link (bG (hb pins s1 σ H1 _ I1 Y) λu s2 ⟨y,H2,I2,M,q2⟩=>
  bG (ho pins s2 σ H2 x y v u _ I2 r1 M q2) λd U ⟨z,G,N,r3,k,e,J⟩=>?_)) hm
 subst e;cases r3;refine XJ ?_;cases k with
 | false=>
  obtain⟨k',e',q'⟩:=J;cases e';exact ite_ff ⟨G,N,q'⟩
 | true=>
  refine ite_tt (test_last (bG (hc pins U σ G _ N J) λw' s4 ⟨z',W,I4,r4,q4⟩=>bG (B pins s4 σ W y z' u w' _ I4 M r4 q4) λd' s5 ⟨z2,H5,I5,r5,k2,e2,q5⟩=>?_));subst e2;cases r5;exact XJ ⟨H5,I5,q5⟩
theorem nP:(VC:Nat)<2^63:=by rw[YL];decide
theorem vU:OpR X (WD .Add) (λx y H Q=>∃i j,x=.str i/\y=.str j/\i.length+j.length<=VC/\Q (.str (i++j)) H):=by
 intro pins s σ H x y v u Q I B F h;obtain⟨i,j,rfl,rfl,hz,q⟩:=h;obtain⟨t,rfl⟩:=B;obtain⟨t',rfl⟩:=F;exact add_str (λt' tk=>⟨.str (i++j),H,I.tok _,⟨_,rfl⟩,q⟩) hz
theorem vals1(r:Vals [x] us):∃u,us=[u]/\RelV x u:=by
 cases r with
 | cons r1 r2=>cases r2;exact⟨_,rfl,r1⟩
theorem vals2(r:Vals [x,y] us):∃u q,us=[u,q]/\RelV x u/\RelV y q:=by
 cases r with
 | cons r1 r2=>
  cases r2 with
  | cons r3 r4=>cases r4;exact⟨_,_,rfl,r1,r3⟩
theorem AO:CallR X (.type "int") (λxs H Q=>(∃i,xs=[.int i]/\Q (.int i) H)\/∃k,xs=[.bl k]/\Q (.int (if k then 1 else 0)) H):=by
 intro pins s σ H xs F Q I r h;rcases h with⟨i,rfl,q⟩|⟨k,rfl,q⟩
 ·obtain⟨u,rfl,t,rfl⟩:=vals1 r
  exact call_int_int ⟨.int i,H,I,⟨_,rfl⟩,q⟩
 ·obtain⟨u,rfl,B⟩:=vals1 r
  cases B;exact call_int_bool ⟨.int (if k then 1 else 0),H,I.tok _,⟨_,rfl⟩,q⟩
def TB(K:U6)(x:V)(H:Hp)(n:Nat):Prop:=
 match x with
 | .str y=>y.length<=VC/\n=y.length
 | .byt y=>y.size<=VC/\n=y.size
 | .ref p=>(∃xs,SqL K H p xs/\n=xs.length)\/∃xs,SqT K H p xs/\n=xs.length
 | _=>False
theorem nD:CallR X (.builtin "len") (λxs H Q=>∃x n,xs=[x]/\TB X.K x H n/\Q (.int n) H):=by
 intro pins s σ H xs us Q I r h;obtain⟨x,n,rfl,e,q⟩:=h;obtain⟨u,rfl,M⟩:=vals1 r;have hl:=nP;have hs:VC=16777216:=YL;cases x with
 | str y=>
  obtain⟨t,rfl⟩:=M;obtain⟨Y,F⟩:y.length<=VC/\n=y.length:=e;subst F;exact len_str (by lia) ⟨.int _,H,I.tok _,⟨_,rfl⟩,q⟩
 | byt y=>
  obtain⟨t,rfl⟩:=M;obtain⟨Y,F⟩:y.size<=VC/\n=y.size:=e;subst F;exact PySem.W.len_bytes (by lia) ⟨.int _,H,I.tok _,⟨_,rfl⟩,q⟩
 | ref p=>
  cases M;have F:(∃xs,SqL X.K H p xs/\n=xs.length)\/∃xs,SqT X.K H p xs/\n=xs.length:=e;rcases F with⟨xs,G,F⟩|⟨xs,G,F⟩
  ·subst F
   obtain⟨U,J,N,hz⟩:=I.list G;have B:=J.length;exact Calls.call_len_list N.isList (by simp only[VN];lia) ⟨.int xs.length,H,I.tok _,⟨_,by simp only[VN];rw[B]⟩,q⟩
  ·subst F
   obtain⟨U,J,N,hz⟩:=I.tuple G;have B:=J.length;exact len_tuple N (by simp only[VN];lia) ⟨.int xs.length,H,I.tok _,⟨_,by simp only[VN];rw[B]⟩,q⟩
 | _=>exact(show False from e).elim
end
structure ObjM(h:Heap)(x dx C:Addr)(mA:Str->Option Value):Prop where
 obj:h.get? x=some (zaW C dx)
 ns:h.Ns1 dx mA
 ne:dx≠x
theorem A5{h:Heap}{dx:Addr}{mA:Str->Option Value}(n:h.Ns1 dx mA):∃od,h.get? dx=some od/\∀name,PySem.W.lookIn name od=some (mA name):=by
 obtain⟨o,es,ep,F,hd,N,_,G⟩:=n;refine⟨o,F,λname=>?_⟩;have e:=G name;unfold nsFind findBy at e;rw[<- Array.find?_toList]at e;unfold PySem.W.lookIn;rw[hd];dsimp only;split
 ·rename_i y q
  rw[q]at e;exact congrArg some e
 ·rename_i q
  rw[q]at e;have a:es.toList.any (·.refKey)=false:=by
   rw[List.any_eq_false];intro y M;obtain⟨z,t,B⟩:=N y (Array.mem_toList_iff.mp M);simp[DictEntry.refKey,B]
  have J:¬ es.toList.any (·.refKey)=true:=by rw[a];exact VL
  rw[if_neg J];exact congrArg some e
theorem ObjM.look(I:ObjM h x dx C mA):∃od,PySem.W.InstAt h x (zaW C dx) C (some od)/\∀name,PySem.W.lookIn name od=some (mA name):=
 let ⟨od,ho,hl⟩:=A5 I.ns
 ⟨od,⟨I.obj,rfl,rfl,ho⟩,hl⟩
section
variable {prog:VB}{w:World}{A:VJ}{E:Value->U5->Prop}{s:U5}{K:U6}{x dx C f:Addr}{mA:Str->Option Value}{name:Str}{v:Value}
end
theorem RelO.some_of(r:RelO (some v) o):∃u,o=some u/\RelV v u:=by
 cases o with
 | none=>exact(show False from r).elim
 | some u=>exact⟨u,rfl,r⟩
section
variable {P:VB}{w:World}{H H':Hp}{h h':Heap}{a C dx:Addr}{fs fs':List (Str×V)}
theorem HX(B:HOk P w H h)(e:H a=some (.ins C dx fs)):∃mA,ObjM h a dx C mA/\(∀f,RelO (fs.lookup f) (mA f))/\PySem.Within mA (fs.map (·.1))/\fs.length<=1000/\H dx=some (.own a):=by
 obtain⟨d,z,ne,F,mA,n,r,q⟩:=(show ObjOk P w H h a (.ins C dx fs)from B a _ e);exact⟨mA,⟨F,n,ne⟩,r,q,z,d⟩
end
structure Cls(K:U6)(C:Addr):Prop where
 pg:PySem.W.plainGet K C Str.empty=true
 hd:PySem.W.hasDictIn K C=true
 po:PySem.W.plainOver K C=true
 sa:PySem.W.findIn K (.ref C) "__setattr__" = some (some (.builtin "object.__setattr__"))
theorem Cls.get{K:U6}{C:Addr}(c:Cls K C)(f:Str):PySem.W.plainGet K C f=true:=c.pg
section
variable {X:Cx}{pins:List (Addr×Obj)}{σ:St}{H:Hp}{s:U5}{a C dx:Addr}{fs:List (Str×V)}{f:Str}{v:V}{A:VJ}{E:Value->U5->Prop}
end
section
variable {X:Cx}{o e value:Expr}{f:Str}{pos pos' tpos:Pos}{ta tv:TE}
end
section
variable {X:Cx}{pins:List (Addr×Obj)}{σ:St}{H:Hp}{s:U5}{A:VJ}{E:Value->U5->Prop}{Q:Value->U5->Prop}{c:Value}{b:Bool}
inductive TyOf(K:U6)(H:Hp):V->Value->Prop where
 | non:TyOf K H .non (.type "NoneType")
 | bl (x:Bool):TyOf K H (.bl x) (.type "bool")
 | int (i:Int):TyOf K H (.int i) (.type "int")
 | str (x:Str):TyOf K H (.str x) (.type "str")
 | flt (x:UInt64):TyOf K H (.flt x) (.type "float")
 | lst {a:Addr} {xs:List V} (e:H a=some (.lst xs)):TyOf K H (.ref a) (.type "list")
 | frz {a:Addr} {o:Obj} {xs:List V} (e:H a=some (.frz o (.lst xs))):TyOf K H (.ref a) (.type "list")
 | tup {a:Addr} {xs:List V} (e:H a=some (.tup xs)):TyOf K H (.ref a) (.type "tuple")
 | dK {a:Addr} {kvs:List (Key×V)} (e:H a=some (.dK kvs)):TyOf K H (.ref a) (.type "dict")
 | dT {a:Addr} {kvs:List (List Key×V)} (e:H a=some (.dT kvs)):TyOf K H (.ref a) (.type "dict")
 | ins {a C dx:Addr} {fs:List (Str×V)} (e:H a=some (.ins C dx fs)) (cl:Cls K C) (ha:PySem.W.findIn K (.ref C) "__class__" = some (some (.builtin "object.__class__")))
   (hn:PySem.W.specialIn K (.builtin "object.__class__") "__get__" = some (some (.builtin "getset_descriptor.__get__"))) (htk:PySem.W.takesIn K (.builtin "object.__class__")=some true)
   (hm:PySem.W.mroIn K C (.type "object")=some true):TyOf K H (.ref a) (.ref C)
theorem AU(I:Inv X pins σ H s)(B:RelV x u)(ty:TyOf X.K H x t)(e:ZW X.K t c=some b)(h:∀tk,Q (.bool b) {s with toks:=tk}) :
  wpAny (model X.prog X.w) A (call (.builtin "isinstance") [u,c]) Q E s:=by
 cases ty with
 | non=>cases(show u=V4 from B);exact XH PySem.W.kitx_none I.kIn WX e (λz=>nomatch z) h
 | bl y=>cases(show u=YH y from B);exact XH PySem.W.kitx_bool I.kIn WX e (λz=>nomatch z) h
 | int i=>obtain⟨t,q⟩:=(show ∃t,u=Value.int i t from B);cases q;exact XH PySem.W.kitx_int I.kIn WX e (λz=>nomatch z) h
 | str y=>obtain⟨t,q⟩:=(show ∃t,u=Value.str y t from B);cases q;exact XH PySem.W.kitx_str I.kIn WX e (λz=>nomatch z) h
 | flt y=>obtain⟨t,q⟩:=(show ∃t,u=Value.float y t from B);cases q;exact XH PySem.W.kitx_float I.kIn WX e (λz=>nomatch z) h
 | @lst a xs ea=>
  cases(show u=VF a from B);obtain⟨_,_,n,_,h1⟩:=(show ObjOk X.prog X.w H s.heap a (.lst xs)from I.hok a _ ea);exact XH PySem.W.kitx_list I.kIn ⟨_,h1,rfl⟩ e (λz=>nomatch z) h
 | @frz a ob xs ea=>
  cases(show u=VF a from B);obtain⟨_,_,_,n,_,h1⟩:=(show ObjOk X.prog X.w H s.heap a (.frz ob (.lst xs))from I.hok a _ ea);exact XH PySem.W.kitx_list I.kIn ⟨_,h1,rfl⟩ e (λz=>nomatch z) h
 | @tup a xs ea=>
  cases(show u=VF a from B);obtain⟨_,_,_,p⟩:=(show ObjOk X.prog X.w H s.heap a (.tup xs)from I.hok a _ ea);obtain⟨o,h1,h2,_⟩:=p;exact XH PySem.W.kitx_tuple I.kIn ⟨o,h1,h2⟩ e (λz=>nomatch z) h
 | @dK a kvs ea=>
  cases(show u=VF a from B);obtain⟨_,_,vs,_,p⟩:=(show ObjOk X.prog X.w H s.heap a (.dK kvs)from I.hok a _ ea);obtain⟨o,es,ep,h1,h2,_⟩:=p;exact XH zao I.kIn ⟨o,h1,h2.1⟩ e (λz=>nomatch z) h
 | @dT a kvs ea=>
  cases(show u=VF a from B);obtain⟨_,_,xs,_,o,es,ep,h1,h2,_⟩:=(show ObjOk X.prog X.w H s.heap a (.dT kvs)from I.hok a _ ea);exact XH zao I.kIn ⟨o,h1,h2.1⟩ e (λz=>nomatch z) h
 | @ins a C dx fs ea cl ha hn htk hm=>
  cases(show u=VF a from B);obtain⟨mA,O,_⟩:=HX I.hok ea;obtain⟨od,J,_⟩:=O.look;exact XH (PySem.W.kitx_own (cl.get _) cl.hd ha hn htk hm) I.kIn J e (λz=>nomatch z) h
end
structure Room(k:Nat)(A:VJ):Prop where
 hd:A.handled=none
 dp:A.depth+3*k+5<recursionLimit
 un:A.units+16*k+200<cLine
theorem Room.mono(r:Room k A)(h:j<=k):Room j A:=⟨r.hd,by have:=r.dp;lia,by have:=r.un;lia⟩
theorem Room.deeper(r:Room (k+1) A)(env:Env):Room k (A.deeper env):=
 ⟨r.hd,by have:=r.dp;show A.depth+1+3*k+5<_;lia,by have:=r.un;show A.units+3+16*k+200<_;lia⟩
theorem Room.depth(r:Room k A):A.depth<recursionLimit:=by have:=r.dp;lia
theorem Room.units(r:Room k A):A.units+64<cLine:=by have:=r.un;lia
theorem Room.units0(r:Room k A):A.units<cLine:=by have:=r.un;lia
def OS:TA:=λ_ H Q=>Q [] H
def zM(ta:TE)(q:TA):TA:=λσ H Q=>ta σ H λx H1=>q σ H1 λxs H2=>Q (x::xs) H2
section
variable {X:Cx}{e:Expr}{es:List Expr}{te:TE}{t:TA}{pos:Pos}
theorem hJ:PA X [] OS:=λ_ _ _ _ H Q I h=>Calls.spliced_nil ⟨[],H,I,.nil,h⟩
theorem cA(W:PE X e te)(M:PA X es t)(hs:U8 (e::es) X.env=(false,eval e X.env)::U8 es X.env:=by rfl):PA X (e::es) (zM te t):=by
 intro pos pins s σ H Q I h;rw[hs];show wpAny _ _ (spliced ((false,eval e X.env)::VU pos (U8 es X.env))) _ _ s;refine za2 (bG (W pins s σ H _ I h) λu G ⟨x,H1,F,B,U⟩=>?_);exact bG (M pos pins G σ H1 _ F U) λY s2 ⟨xs,H2,N,J,q⟩=>⟨x::xs,H2,N,.cons B J,q⟩
def SO(t:TA):TE:=λσ H Q=>t σ H λxs H1=>xs.length<=VC/\∀p,H1 p=none->Q (.ref p) (upd H1 p (.tup xs))
def SU(t:TA):TE:=λσ H Q=>t σ H λxs H1=>xs.length<=VC/\∀p,H1 p=none->Q (.ref p) (upd H1 p (.lst xs))
theorem N3{x1}(h:PA X es t):PE X (.Tuple es x1 pos) (SO t):=by
 intro pins s σ H Q I J;refine wpAny_Tuple_spliced (bG (h pos pins s σ H _ I J) λG B ⟨xs,H1,F,r,z,q⟩=>⟨by rw[<- r.length];exact z,?_⟩);have M:H1 B.heap.objs.size=none:=F.hok.fresh (VH _);refine⟨.ref B.heap.objs.size,upd H1 B.heap.objs.size (.tup xs),F.laid (t':=B.toks) (λb u e=>VI _ e) (VH _) ?_,rfl,q _ M⟩;exact⟨z,G,r,⟨_,VW _ rfl,rfl,_,rfl,rfl⟩⟩
theorem LV(h:PA X es t):PE X (.List es pos) (SU t):=by
 intro pins s σ H Q I J;refine wpAny_List_spliced (bG (h pos pins s σ H _ I J) λG B ⟨xs,H1,F,r,z,q⟩=>⟨by rw[<- r.length];exact z,?_⟩);have M:H1 B.heap.objs.size=none:=F.hok.fresh (VH _);refine⟨.ref B.heap.objs.size,upd H1 B.heap.objs.size (.lst xs),F.laid (t':=B.toks) (λb u e=>VI _ e) (VH _) ?_,rfl,q _ M⟩;exact⟨z,G,0,r,VW _ rfl⟩
end
abbrev Sp:=List V->Hp->VK->XK->Prop
abbrev B7:=List Env->Hp->U5->XK->Value->U5->Prop
structure Env0(P:VB)(w:World)(K:U6)(mg:Str->Option Value)(base:Heap)(A:VJ)(outer:List Env)(s:U5)(H:Hp):Prop where
 frames:A.frames=some outer
 mod:Mod K mg base
 bs:∀b o,base.get? b=some o->s.heap.get? b=some o/\H b=none
 bsz:base.objs.size<=s.heap.objs.size
 funs:s.heap.FunFrames base outer
 frf:∀b∈frs outer,H b=none
 hok:HOk P w H s.heap
 bare:YA s.gens
def CE(q:List Env)(P:VB)(w:World)(H:Hp)(s:U5)(Q:VK)(u:Value)(s':U5):Prop:=
 ∃v H',s'.os=s.os/\YA s'.gens/\Un (frs q) [] H H' s.heap s'.heap/\HOk P w H' s'.heap/\RelV v u/\Q v H'
def CR(CX:B7)(outer:List Env)(P:VB)(w:World)(H:Hp)(s:U5)(Q:VK)(E:XK)(r:Result)(s':U5):Prop:=
 match r with
 | .ok (.ret u)=>CE outer P w H s Q u s'
 | .ok _=>False
 | .error e=>CX outer H s E e s'
structure FnOk(P:VB)(w:World)(K:U6)(mg:Str->Option Value)(base:Heap)(CX:B7)(k:Nat)(f:Addr)(fd:XA)(ps:List Str)(sp:Sp):Prop where
 len:∀vs H Q E,sp vs H Q E->vs.length=ps.length
 run:∀(A:VJ) (outer:List Env) (s:U5) (H:Hp) (args:Args) (us:List Value) (vs:List V) (Q:VK) (E:XK),Room k A->Env0 P w K mg base A outer s H->BindsTo s fd args (ps.zip us)->Vals vs us->sp vs H Q E->
  XI (model P w) A (.call (.ref f) args) (CR CX outer P w H s Q E) s
theorem FnOk.mono{P:VB}{w:World}{K:U6}{mg:Str->Option Value}{base:Heap}{CX:B7}{j k:Nat}{f:Addr}{fd:XA}{ps:List Str}{sp:Sp}(F:FnOk P w K mg base CX j f fd ps sp)(h:j<=k) :
  FnOk P w K mg base CX k f fd ps sp:=⟨F.len,λA q s H args G vs Q E B=>F.run A q s H args G vs Q E (B.mono h)⟩
section
variable {X:Cx}{pins:List (Addr×Obj)}{σ:St}{H:Hp}{s s':U5}
theorem Inv.env0(I:Inv X pins σ H s):Env0 X.prog X.w X.K X.mg X.base X.A X.stack s H:=
 ⟨I.ok.frames,I.ok.mod,I.bs,WM I.ok.bsz I.sz,I.stack,I.stkFree,I.hok,I.bare⟩
theorem Inv.after(I:Inv X pins σ H s)(h:CE X.stack X.prog X.w H s Q u s'):EP X pins σ Q u s':=by
 obtain⟨v,H',os,B,un,G,r,q⟩:=h;obtain⟨J,g,d,t,F⟩:=s';obtain rfl:F=s.os:=os;exact⟨v,H',I.call (h':=J) (g':=g) (d':=d) (t':=t) (ch:=[]) un G B (λb z=>absurd z (by simp)),r,q⟩
end
def PZ(sp:Sp)(dvs:List V)(E:XK)(t:TA):TE:=λσ H Q=>t σ H λvs H1=>sp (vs++dvs) H1 Q E
def Binds(K:U6)(fd:XA)(ps:List Str)(ds:List Value):Prop:=
 ∀(s:U5) (us:List Value),K.In s.heap->(us++ds).length=ps.length->BindsTo s fd ⟨us,[]⟩ (ps.zip (us++ds))
theorem Binds.all{K:U6}{fd:XA}{ps:List Str}(h:∀q:List Value,q.length=ps.length->bindArgs fd ⟨q,[]⟩=pure (ps.zip q)):Binds K fd ps []:=λs q _ B=>by
 rw[YM]at B ⊢;exact .of_eq (h q B)
def xI(CX:B7)(X:Cx)(E:XK):Prop:=∀(pins:List (Addr×Obj)) (σ:St) (H:Hp) (s:U5) (e:Value) (s':U5),Inv X pins σ H s->CX X.stack H s E e s'->X.xe e s'
section
variable {X:Cx}{CX:B7}{k:Nat}{f C:Addr}{fd:XA}{ps:List Str}{sp:Sp}{dvs:List V}{ds:List Value}{E:XK}{x m:Str}{p pos apos:Pos}{e o:Expr}{es:List Expr}{ta:TE}{t:TA}
theorem FA(F:FnOk X.prog X.w X.K X.mg X.base CX k f fd ps sp)(N:Room k X.A)(J:Binds X.K fd ps ds)(hd:Vals dvs ds)(G:xI CX X E)
  (I:Inv X pins σ H s) (r:Vals vs us) (h:sp (vs++dvs) H Q E):wpAny (model X.prog X.w) X.A (call (.ref f) us) (EP X pins σ Q) X.xe s:=by
 have B:Vals (vs++dvs) (us++ds):=r.append hd;have M:(us++ds).length=ps.length:=by rw[<- B.length];exact F.len _ _ _ _ h
 refine wpAny_call (zap (F.run X.A X.stack s H ⟨us,[]⟩ (us++ds) (vs++dvs) Q E N I.env0 (J s us I.kIn M) B h) λr s' q=>?_);cases r with
 | error e=>exact G pins σ H s e s' I q
 | ok fl=>
  cases fl with
  | ret u=>exact I.after q
  | next=>exact XM q
  | brk=>exact XM q
  | cont=>exact XM q
theorem IZ(F:FnOk X.prog X.w X.K X.mg X.base CX k f fd ps sp)(U:Room k X.A)(hg:Gl X x)(hm:X.mg x=some (.ref f))(hk:YN X.K (.ref f)=true)(N:Binds X.K fd ps ds)(hd:Vals dvs ds)(M:xI CX X E)
  (ha:PA X (e::es) t) (G:(x == ("__debug__" : Str))=false:=by decide) (Y:U8 (e::es) X.env=(false,eval e X.env)::U8 es X.env:=by rfl) (B:(VU pos (U8 es X.env)).any (·.1)=false:=by rfl) :
  PE X (.Call (.Name x p) (e::es) [] pos) (PZ sp dvs E t):=by
 intro pins s σ H Q I h;refine za3 (rF I hg hm ?_ G);refine PySem.W.callWith_K (h₀:=X.base) I.ok.mod.kin hk (bG (ha pos pins s σ H _ I h) λus s1 ⟨vs,H1,J,r,q⟩=>⟨J.kIn,?_⟩) Y B;exact FA F U N hd M J r q
structure Mk(K:U6)(C f:Addr):Prop where
 makes:PySem.W.makesIn K C=true
 init:PySem.W.findIn K (.ref C) "__init__" = some (some (.ref f))
 fn:PySem.W.isFn K (.ref f)=true
 kp:YN K (.ref C)=true
end
section
variable {X:Cx}{CX:B7}{k:Nat}{f C:Addr}{fd:XA}{ps ks:List Str}{sp:Sp}{E:XK}{x m:Str}{p pos apos kpos:Pos}{e o:Expr}{es:List Expr}{kws:List YB}{te ta:TE}{t tk:TA}{nm:Option Str}
variable {g:List Value->List Value->List Value}{gV:List V->List V->List V}
end
structure FnScope(N P:List Str)(sc:Scope):Prop where
 kind:sc.kind=.function
 co:sc.isCoroutine=false
 gen:sc.isGenerator=false
 nd:N.Nodup
 pre:N.take P.length=P
 par:∀x∈P,sc.names.lookup x=some .local\/sc.names.lookup x=some .cell
 nofree:∀y∈sc.names,y.2≠.free
theorem pQ{XB:Str->Option X1}:∀ {binds:List (Str×Value)} {m:Str->Option Value},(∀v,(x,v)∉binds)->bindL XB binds m x=m x
 | [],_,_=>rfl
 | (n,v)::r,m,h=>by
  unfold bindL;rw[pQ λw hw=>h w (V1 _ hw)];split
  ·have:x≠n:=by rintro rfl;exact h v V2
   simp[this]
  ·rfl
theorem p5{XB:Str->Option X1}:∀ {binds:List (Str×Value)} {m:Str->Option Value},(∀v,(x,v)∉binds)->bindC XB binds m x=m x
 | [],_,_=>rfl
 | (n,v)::r,m,h=>by
  unfold bindC;rw[p5 λw hw=>h w (V1 _ hw)];split
  ·rfl
  ·have:x≠n:=by rintro rfl;exact h v V2
   simp[this]
theorem oY{XB:Str->Option X1}{x:Str}{v:Value}:∀ {P:List Str} {vs:List Value} {i:Nat} {m:Str->Option Value},P.Nodup->P[i]?=some x->vs[i]?=some v->XB x=some .local->
  bindL XB (P.zip vs) m x=some v
 | [],_,_,_,_,h,_,_=>by simp at h
 | _::_,[],_,_,_,_,h,_=>by simp at h
 | p::P,w::vs,0,m,nd,h1,h2,hk=>by
  simp at h1 h2;subst h1;subst h2;show bindL XB ((p,w)::P.zip vs) m p=_;unfold bindL;rw[pQ λv q=>(List.nodup_cons.mp nd).1 (za4 q).1,if_pos hk];simp
 | p::P,w::vs,i+1,m,nd,h1,h2,hk=>by
  show bindL XB ((p,w)::P.zip vs) m x=_;unfold bindL;exact oY (i:=i) (List.nodup_cons.mp nd).2 (by simpa using h1) (by simpa using h2) hk
theorem oX{XB:Str->Option X1}{x:Str}{v:Value}:∀ {P:List Str} {vs:List Value} {i:Nat} {m:Str->Option Value},P.Nodup->P[i]?=some x->vs[i]?=some v->XB x≠some .local->
  bindC XB (P.zip vs) m x=some v
 | [],_,_,_,_,h,_,_=>by simp at h
 | _::_,[],_,_,_,_,h,_=>by simp at h
 | p::P,w::vs,0,m,nd,h1,h2,hk=>by
  simp at h1 h2;subst h1;subst h2;show bindC XB ((p,w)::P.zip vs) m p=_;unfold bindC;rw[p5 λv q=>(List.nodup_cons.mp nd).1 (za4 q).1,if_neg hk];simp
 | p::P,w::vs,i+1,m,nd,h1,h2,hk=>by
  show bindC XB ((p,w)::P.zip vs) m x=_;unfold bindC;exact oX (i:=i) (List.nodup_cons.mp nd).2 (by simpa using h1) (by simpa using h2) hk
def start(N:List Str)(vs:List V):St:=vs.map some++VZ (N.length-vs.length) none
def gE(CX:B7)(P:VB)(w:World)(K:U6)(mg:Str->Option Value)(base:Heap)(N:List Str)(q:Str)(scope:Scope)(f:Addr)(F:Value)(A:VJ)(outer:List Env)(s:U5)(H:Hp)(E:XK):Cx where
 prog:=P
 w:=w
 K:=K
 mg:=mg
 base:=base
 A:=A.deeper (V9 q scope s.heap.objs.size f F)
 N:=N
 s₀:=s
 H₀:=H
 env:=V9 q scope s.heap.objs.size f F
 outer:=outer
 stack:=V9 q scope s.heap.objs.size f F::outer
 ex:=[]
 calm:=true
 fn:=λ_=>true
 pn:=[]
 xe:=λe s'=>wpAny (model P w) (A.deeper (V9 q scope s.heap.objs.size f F)) (leaving (V9 q scope s.heap.objs.size f F) e) (λ_ B=>CX outer H s E e B) (λG B=>CX outer H s E G B) s'
theorem nE{sc:Scope}{n:Nat}{x:Str}(h:sc.names.lookup x=some .cell):∃c,(YC n sc.names []).lookup x=some c:=by
 have q:=PySem.W.cellsFrom_some sc.names n [] (.inl h);exact Option.isSome_iff_exists.mp q
theorem BE{CX:B7}{P:VB}{w:World}{K:U6}{mg:Str->Option Value}{base:Heap}{N ps:List Str}{F:Str}{scope:Scope}{f:Addr}{Y:Value}{A:VJ}{B:List Env}{s s1:U5}{H:Hp}{E:XK}{us:List Value}{vs:List V}
  (S:FnScope N ps scope) (hd:A.handled=none) (G:Env0 P w K mg base A B s H) (hl:vs.length=ps.length) (r:Vals vs us)
  (x:InCallC s s.heap.objs.size (bindL (V9 F scope s.heap.objs.size f Y).kindOf (ps.zip us) λ_=>none) (YC (s.heap.objs.size+1) scope.names []) (bindC (V9 F scope s.heap.objs.size f Y).kindOf (ps.zip us) λ_=>none) s1) :
  Inv (gE CX P w K mg base N F scope f Y A B s H E) [] (start N vs) H s1:=by
 have af:ps.length<=N.length:=by have:=congrArg X2 S.pre;rw[zaq]at this;lia
 obtain⟨h1,tk,rfl,hk⟩:=x.done;have M:∀b:Addr,b∉(gE CX P w K mg base N F scope f Y A B s H E).ex:=λb z=>absurd (show b∈([]:List Addr)from z) (by simp)
 refine⟨⟨G.mod,S.kind,rfl,rfl,VH _,λy z c h1 h2=>?_,λy J=>?_,λy c _ h=>?_,λ_=>hd,Around.frames_deeper G.frames,.inr ⟨rfl,rfl⟩,λb z=>absurd z (M b),G.bs,G.bsz,λb _ _=>M b,λb z=>absurd z (M b),G.funs,G.frf⟩,
  rfl,G.bare,Un.kept hk,⟨_,x.toInCall.ns,λi y v h1 h2 h3=>?_⟩,λy c h=>⟨_,x.cell y c h⟩,G.hok.fresh (VH _),λy c h=>?_,λp W=>absurd (show p∈([]:List (Addr×Obj))from W) (by simp),G.hok.kept hk,?_⟩
 ·exact name_of_addr x.apart (ZX h1) (ZX h2)
 ·have J:scope.names.lookup y=some .cell\/scope.names.lookup y=some .free:=J
  rcases J with J|J
  ·exact nE J
  ·exact absurd rfl (S.nofree _ (ZX J))
 ·exact zaj (x.above y c (ZX h))
 ·have hi:i<vs.length:=by
   unfold start at h2;by_cases hi:i<vs.length
   ·exact hi
   ·rw[zar (by simpa using hi)]at h2
    rw[za5]at h2;split at h2 <;> cases h2
  have ha:vs[i]?=some v:=by
   unfold start at h2;rw[Y8 (by simpa using hi),VV]at h2;cases e:vs[i]? with
   | none=>rw[e]at h2;cases h2
   | some a=>rw[e]at h2;cases h2;rfl
  obtain⟨u,hu,rv⟩:=r.get ha;have W:ps[i]?=some y:=by
   rw[<- S.pre,List.getElem?_take_of_lt (by lia)];exact h1
  have U:ps.Nodup:=by rw[<- S.pre];exact S.nd.sublist (List.take_sublist _ _)
  refine⟨u,rv,?_⟩;rcases S.par y (WS W)with k|k
  ·exact .inl ⟨k,oY U W hu k⟩
  ·obtain⟨c,e⟩:=nE (n:=s.heap.objs.size+1) k
   refine .inr ⟨.inl k,c,e,?_⟩;have q:=x.cell y c e;rw[oX U W hu (by show scope.names.lookup y≠_;rw[k];decide)]at q;exact q
 ·exact G.hok.fresh (zaj (x.above y c (ZX h)))
 ·unfold start
  show _=N.length;rw[WN,VD,List.length_replicate]
  lia
theorem P1{CX:B7}{P:VB}{w:World}{K:U6}{mg:Str->Option Value}{base:Heap}{k:Nat}{f:Addr}{name F:Str}{M:Arguments}{body:List Stmt}{scope:Scope}{dV kV ad pm G ct oc:Value}{an od:Option Addr}
  {ai:Array (Option Value)} {N ps:List Str} {sp:Sp} (lk:K.lookup f=some ⟨oc,od,.func (XN name F M body scope dV kV ad pm an G ct),ai⟩) (ag:Y9 K G F=true) (S:FnScope N ps scope)
  (ae:∀vs H Q E,sp vs H Q E->vs.length=ps.length)
  (Y:∀(A:VJ) (B:List Env) (s:U5) (H:Hp) (vs:List V) (Q:VK) (E:XK), Room k (A.deeper (V9 F scope s.heap.objs.size f G)) -> sp vs H Q E ->
   ∃t,PSs (gE CX P w K mg base N F scope f G A B s H E) body t/\t {nx:=λ_ H'=>Q .non H',rt:=Q} (start N vs) H) :
  FnOk P w K mg base CX (k+1) f (XN name F M body scope dV kV ad pm an G ct) ps sp:=by
 refine⟨ae,λA B s H args us vs Q E hr e0 hb r ab=>?_⟩;have hl:=ae _ _ _ _ ab;have KX:K.In s.heap:=e0.mod.kin.keeps λb o e=>(e0.bs b o e).1
 have lim:s.heap.NoLimit:=e0.mod.nolimit.keeps λb o e=>(e0.bs b o e).1
 have aa:∀y∈ps.zip us,scope.names.lookup y.1=some .local\/(scope.names.lookup y.1=some .cell/\((YC (s.heap.objs.size+1) scope.names []).lookup y.1).isSome=true):=by
  rintro⟨n,v⟩ hy;rcases S.par n (za4 hy).1 with q|q
  ·exact .inl q
  ·exact .inr ⟨q,PySem.W.cellsFrom_some _ _ _ (.inl q)⟩
 refine codeAny_call_function hr.depth (KX _ _ lk) rfl S.co S.gen rfl (PySem.W.codeRec_of KX ag) (hb _ _ _ _ ?_);refine wpAny_newFunctionEnv_cells S.kind aa λenv he s1 x=>?_
 subst he;refine⟨lim.keeps x.toInCall.keep,codeAny_func ?_⟩;obtain⟨t,ht,hq⟩:=Y A B s H vs Q E (hr.deeper _) ab;have I:Inv (gE CX P w K mg base N F scope f G A B s H E) [] (start N vs) H s1:=BE S hr.hd e0 hl r x;refine WR (ht [] s1 (start N vs) H _ I hq) (λfl s' hs=>?_) λe s' hs=>hs
 have fin:∀ {U:St} {H':Hp} {v:V} {u:Value},Inv (gE CX P w K mg base N F scope f G A B s H E) [] U H' s'->RelV v u->Q v H'->CE B P w H s Q u s':=
  λ{U H' v u} J rv q=>⟨v,H',J.os,J.bare,J.base,J.hok,rv,q⟩
 cases fl with
 | ret u=>
  obtain⟨v,U,H',J,rv,q⟩:=hs;exact fin J rv q
 | next=>
  obtain⟨U,H',J,q⟩:=hs;exact fin (v:=V.non) (u:=V4) J rfl q
 | brk=>
  obtain⟨_,_,_,q⟩:=hs;exact XM q
 | cont=>
  obtain⟨_,_,_,q⟩:=hs;exact XM q
section
variable {X:Cx}{x:Str}{p pos:Pos}{e:Expr}{es:List Expr}{t:TA}{id T:String}{r:List V->Hp->VK->Prop}
def SA(r:List V->Hp->VK->Prop)(t:TA):TE:=λσ H Q=>t σ H λvs H1=>r vs H1 Q
theorem m8(M:CallR X (.builtin id) r)(hg:Gl X x)(hm:X.mg x=none)(Y:V7 x=some (.builtin id))(ha:PA X (e::es) t)(hn:x ≠ "__name__" := by decide)(B:(x == ("__debug__" : Str))=false:=by decide)
  (W:U8 (e::es) X.env=(false,eval e X.env)::U8 es X.env:=by rfl) (q:(VU pos (U8 es X.env)).any (·.1)=false:=by rfl):PE X (.Call (.Name x p) (e::es) [] pos) (SA r t):=by
 intro pins s σ H Q I h;refine za3 (jQ I hg hm Y ?_ hn B);exact PyProof.Rows.callWith_builtin1 (bG (ha pos pins s σ H _ I h) λF N ⟨vs,H1,J,G,U⟩=>M pins N σ H1 vs F Q J G U) W q
theorem pG(M:CallR X (.type T) r)(hg:Gl X x)(hm:X.mg x=none)(Y:V7 x=some (.type T))(ha:PA X (e::es) t)(hn:x ≠ "__name__" := by decide)(B:(x == ("__debug__" : Str))=false:=by decide)
  (W:U8 (e::es) X.env=(false,eval e X.env)::U8 es X.env:=by rfl) (q:(VU pos (U8 es X.env)).any (·.1)=false:=by rfl):PE X (.Call (.Name x p) (e::es) [] pos) (SA r t):=by
 intro pins s σ H Q I h;refine za3 (jQ I hg hm Y ?_ hn B);exact zan (bG (ha pos pins s σ H _ I h) λF N ⟨vs,H1,J,G,U⟩=>M pins N σ H1 vs F Q J G U) W q
end
end L2
namespace HT
open PySem PyProof.Rows
noncomputable def lexLt:List Int->List Int->Bool
 | [],[]=>false
 | [],_::_=>true
 | _::_,[]=>false
 | x::xs,y::ys=>if x=y then lexLt xs ys else decide (x<y)
theorem dB(x y:Int)(xs ys:List Int):lexLt (x::xs) (y::ys)=if x=y then lexLt xs ys else decide (x<y):=rfl
theorem oI:lexLt [] []=false:=rfl
theorem lS(y:Int)(ys:List Int):lexLt [] (y::ys)=true:=rfl
theorem lQ(x:Int)(xs:List Int):lexLt (x::xs) []=false:=rfl
theorem DV(A:VJ)(s:U5)(a:Int)(t:Tok)(c:Int)(u:Tok):∃e,YY A s (.int a t) (.int c u) e/\(e=true↔a=c):=
 ⟨(a == c),SeqAt.EqAt.int_int a t c u,by simp⟩
theorem CA(A:VJ)(s:U5)(a:Int)(t:Tok)(c:Int)(u:Tok)(prog:VB)(w:World)(E:Value->U5->Prop)(Q:Value->U5->Prop)(h:Q (.bool (decide (a<c))) s) :
  wpAny (model prog w) A (richCompare .Lt (.int a t) (.int c u)) Q E s:=
 (PyProof.Rows.lt_int h:wpAny (model prog w) A (VM .Lt (.int a t) (.int c u)) Q E s)
section
open PySem.SeqAt
open PySem.AutoSeq1 (wpAny_loadPart')
open PySem.MeetsSeq PySem.MeetsSeq2 PySem.MeetsSeq3
theorem oG(l b:Addr)(items B:Array Value)(n n2:Nat)(dd ae:Option Addr)(sl ad:Array (Option Value))(ns ms:List Int)(hi:WO items.toList ns)(hj:WO B.toList ms) :
  Meets (XS.«tuple.__lt__» ⟨[.ref l,.ref b],[]⟩)
   (λ_ R s => s.heap.get? l = some {cls := .type "tuple", dict:=dd, data := .seq items n, slots:=sl} /\ s.heap.get? b = some {cls := .type "tuple", dict:=ae, data := .seq B n2, slots:=ad} /\
    R (.ok (.ret (.bool (lexLt ns ms)))) s):=
 .of_wp λprog w A R s h=>by
  obtain⟨hp,g,d,tk,os⟩:=s;obtain⟨hl,hb,h⟩:=h;have f2:=AutoSeq1.sub_tuple_tuple;have z1:items.size=ns.length:=by rw[<- hi.length];simp
  have z2:B.size=ms.length:=by rw[<- hj.length];simp
  wp_walk using YD hl,YD hb,wpAny_forIn_list _ (λrest b s'=>b.1=none/\s'=⟨hp,g,d,tk,os⟩/\∃(vs ws:List Value) (G J:List Int),rest=vs.zip ws /\
   WO vs G/\WO ws J/\G.length+B.size=J.length+items.size/\R (.ok (.ret (.bool (lexLt G J)))) ⟨hp,g,d,tk,os⟩) _
  case turn=>
   rintro⟨y,x⟩ rest b s' ⟨Y,rfl,vs,ws,G,J,hz,W,M,F,N⟩;cases W with
   | nil=>rw[List.zip_nil_left]at hz;cases hz
   | cons a t hvi'=>
    cases M with
    | nil=>rw[List.zip_nil_right]at hz;cases hz
    | cons c u hwi'=>
     rw[List.zip_cons_cons]at hz;injection hz with hyx hrest
     injection hyx with hy hx
     subst hy hx;rw[dB]at N;simp only[VR]at F;obtain⟨e,he,U⟩:=DV A.in1 ⟨hp,g,d,tk,os⟩ a t c u;refine U4 (he prog w _ _ ?_);cases e with
     | true=>
      rw[if_pos (U.mp rfl)]at N
      wp_walk
      exact⟨rfl,rfl,_,_,_,_,hrest,hvi',hwi',by lia,N⟩
     | false=>
      rw[if_neg (λq=>absurd (U.mpr q) VL)]at N;have ac:=CA A.in1 ⟨hp,g,d,tk,os⟩ a t c u prog w
      wp_walk using ac
      exact⟨_,rfl,by simpa using N⟩
  case fin=>
   rintro⟨b1,b2⟩ s' ⟨Y,rfl,vs,ws,G,J,hz,W,M,F,N⟩;simp only at Y;subst Y;have hv:lexLt G J=decide (items.size<B.size):=by
    cases W with
    | nil=>
     cases M with
     | nil=>
      simp only[W5]at F;rw[oI];exact(decide_eq_false (by lia)).symm
     | cons c u hw=>
      simp only[W5,VR]at F;rw[lS];exact(decide_eq_true (by lia)).symm
    | cons a t hv=>
     cases M with
     | nil=>
      simp only[W5,VR]at F;rw[lQ];exact(decide_eq_false (by lia)).symm
     | cons c u hw=>
      rw[List.zip_cons_cons]at hz;cases hz
   rw[hv]at N
   wp_walk
   exact⟨_,rfl,by simpa[Builtin.Tuple.tupleCompareSizes]using N⟩
  case h=>
   exact⟨rfl,rfl,items.toList,B.toList,ns,ms,rfl,hi,hj,by lia,h⟩
end
section
variable {prog:VB}{w:World}{A:VJ}{E:Value->U5->Prop}{s:U5}
theorem mR(hl:IsTup s.heap l items)(hb:IsTup s.heap b items2)(hi:WO items.toList ns)(hj:WO items2.toList ms)
  (hu:A.units<cLine) (h:Q (.bool (lexLt ns ms)) s):wpAny (model prog w) A (VM .Lt (.ref l) (.ref b)) Q E s:=by
 obtain⟨⟨cls,dd,data,sl⟩,W,U,n,hd⟩:=id hl;obtain⟨⟨Y,M,N,J⟩,B,q,n2,G⟩:=id hb;simp only at U hd q G;subst U hd q G;exact richCompare_meets_room (op:=.Lt) ⟨_,W,rfl⟩ ⟨_,B,rfl⟩ PySem.F.slot_tuple_lt PySem.F.entry_tuple_lt (PySem.F.args_tuple_lt_2 _ _) (oG l b items items2 n n2 dd M sl J ns ms hi hj)
  ⟨W,B,show YH (lexLt ns ms)≠Value.notImplemented/\Q (.bool (lexLt ns ms)) s from⟨(λx=>nomatch x),h⟩⟩ hu
theorem HR(ht:IsTup s.heap t vs.toArray)(hb:IsTup s.heap b ws.toArray)(Y:vs≠[])
  (h1:ws=[]->Q (.ref t) s) (h2:ws≠[]->Q (.ref s.heap.objs.size) {s with heap:=s.heap.push {cls:=.type "tuple",data:=.seq (vs++ws).toArray} })
  (hsz:vs.length+ws.length<=VC):wpAny (model prog w) A (WD .Add (.ref t) (.ref b)) Q E s:=by
 obtain⟨⟨cls,dd,data,U⟩,M,W,n,hd⟩:=id ht;obtain⟨⟨aa,J,N,B⟩,q,F,n2,G⟩:=id hb;simp only at W hd F G;subst W hd F G;have e:vs.toArray++ws.toArray=(vs++ws).toArray:=by simp
 by_cases hw:ws=[]
 ·exact concat_meets ⟨_,M,rfl⟩ ⟨_,q,rfl⟩ za6 seq_tuple_add za7 za8 (za9 _ _)
   (tuple_addW1 t b vs.toArray ws.toArray n n2 dd J U B (by simpa using Y) (by simp[hw])) ⟨M,q,h1 hw⟩
 ·refine concat_meets ⟨_,M,rfl⟩ ⟨_,q,rfl⟩ za6 seq_tuple_add za7 za8 (za9 _ _)
   (tuple_addW2 t b vs.toArray ws.toArray n n2 dd J U B (by simpa using Y) (by simpa using hw) (by rw[VN,VN];exact hsz)) ⟨M,q,?_⟩
  rw[e];exact h2 hw
noncomputable def sIx(n d:Nat):Option Int->Nat
 | none=>d
 | some v=>if v<0 then(v+(n:Int)).toNat else min v.toNat n
theorem MN(n d:Nat)(hd:d<=n)(o:Option Int):sIx n d o<=n:=by
 cases o with
 | none=>exact hd
 | some v=>
  show(if v<0 then(v+(n:Int)).toNat else min v.toNat n)<=n;by_cases q:v<0
  ·rw[if_pos q];lia
  ·rw[if_neg q];exact Nat.min_le_right _ _
theorem xZ(v:Int)(n d:Nat):(if v<0 then max (v+(n:Int)) 0 else min v (n:Int))=((sIx n d (some v):Nat):Int):=by
 show(if v<0 then max (v+(n:Int)) 0 else min v (n:Int))=(((if v<0 then(v+(n:Int)).toNat else min v.toNat n):Nat):Int);by_cases q:v<0
 ·simp only[if_pos q];lia
 ·simp only[if_neg q];lia
theorem vV(lo hi:Option Int)(n:Nat):zba lo hi 1 (n:Int)=(((sIx n 0 lo:Nat):Int),((sIx n n hi:Nat):Int)):=by
 have h1:¬ ((1:Int)<0):=by lia
 unfold zba;simp only[h1,if_false];refine Prod.ext ?_ ?_
 ·cases lo with
  | none=>rfl
  | some v=>exact xZ v n 0
 ·cases hi with
  | none=>rfl
  | some v=>exact xZ v n n
theorem vW(i j:Nat):zas (i:Int) (j:Int) 1=j-i:=by
 unfold zas;have h1:(1:Int)>0:=by lia
 simp only[h1,if_true,Int.ediv_one];split <;> lia
theorem l8(p:X3 v o)(h:Q o s):wpAny (model prog w) A (Builtin.Slice.slicePartIndex v) Q E s:=by
 cases p with
 | none=>exact slicePart_none h
 | int i t=>exact slicePart_int h
theorem d8{J:Addr}{F G:Value}{lo hi:Option Int}{n:Nat}{Q:Int×Int×Nat->U5->Prop}(hs:s.heap.IsSliceOf J F G .none)(M:X3 F lo)(N:X3 G hi)
  (h:Q (((sIx n 0 lo:Nat):Int),1,sIx n n hi-sIx n 0 lo) s):wpAny (model prog w) A (Builtin.Slice.sliceApplied (.ref J) (pure (n:Int))) Q E s:=by
 obtain⟨os,B,U,q⟩:=id hs;unfold Builtin.Slice.sliceApplied Builtin.Slice.sliceFields;refine U4 (U4 (WP B q (x:=F) rfl (U4 (WP B q (x:=G) rfl (U4 (WP B q (x:=.none) rfl (U7 ?_)))))));refine U4 (slicePart_none ?_);show wpAny _ _ (if((1:Int) == 0)=true then _ else _) _ _ s;rw[if_neg (by decide)];refine U4 (l8 M (U4 (l8 N (U4 (U7 ?_)))));show wpAny _ _ (match zba lo hi 1 (n:Int)with|(lo,hi)=>pure (lo,(1:Int),zas lo hi 1)) _ _ s;rw[vV lo hi n];show wpAny _ _ (pure (((sIx n 0 lo:Nat):Int),(1:Int),zas ((sIx n 0 lo:Nat):Int) ((sIx n n hi:Nat):Int) 1)) _ _ s;rw[vW];exact U7 h
theorem DZ(xs:Array Value)(i k:Nat):((VO k).filterMap λ(m:Nat)=>xs[((i:Int)+(m:Int)*1).toNat]?).toArray=((xs.toList.drop i).take k).toArray:=by
 have e:(λ(m:Nat)=>xs[((i:Int)+(m:Int)*1).toNat]?)=λm=>xs[i+m]?:=by
  funext m;have:((i:Int)+(m:Int)*1).toNat=i+m:=by lia
  rw[this]
 rw[e];have:=pick_run xs i k;rw[List.filterMap_map]at this;have q:((λx=>xs[x]?) ∘ λx=>i+x)=λm=>xs[i+m]?:=rfl
 rw[q]at this;rw[this]
theorem iA{t G:Addr}{items:Array Value}{W Y:Value}{lo hi:Option Int}{Q:Value->U5->Prop}(F:IsTup s.heap t items)(hs:s.heap.IsSliceOf G W Y .none)(pl:X3 W lo)(pu:X3 Y hi)
  (hw:¬ (sIx items.size 0 lo=0/\sIx items.size items.size hi=items.size))
  (h:Q (.ref s.heap.objs.size) {s with heap:=s.heap.push {cls:=.type "tuple",data:=.seq ((items.toList.drop (sIx items.size 0 lo)).take (sIx items.size items.size hi-sIx items.size 0 lo)).toArray} })
  (hsz:items.size<=VC):wpAny (model prog w) A (X4 (.ref t) (.ref G)) Q E s:=by
 have B:sizeOk (.seq ((items.toList.drop (sIx items.size 0 lo)).take (sIx items.size items.size hi-sIx items.size 0 lo)).toArray):=by
  show((items.toList.drop (sIx items.size 0 lo)).take (sIx items.size items.size hi-sIx items.size 0 lo)).toArray.size<=VC;rw[VN,zaq,List.length_drop,W9]
  lia
 have hj:sIx items.size items.size hi<=items.size:=MN _ _ (VH _) hi;obtain⟨os,U,M,aa⟩:=id hs;have J:s.TypeIs (.ref G) "slice" := ⟨os,U,M⟩;unfold X4
 try with_reducible refine W3 ?_
 first|refine U4 (U7 ?_)|skip
 refine U4 (wpAny_sequenceKey F.typeIs (by decide) ?_);refine U4 (X5 (name:=XC "__getitem__") F.typeIs zat
  (XD zat F.typeIs entry_tuple_getitem ?_ (args_tuple_getitem _ _)))
 show wpAny _ _ (Builtin.Tuple.tupleItemsOf (.ref t) >>= _) _ _ s;refine U4 (tupleItemsOf_ F ?_);refine U4 (YZ J ?_);rw[if_pos (by decide)];refine U4 (d8 hs pl pu ?_);have N:¬ ((((sIx items.size 0 lo:Nat):Int) == 0 && (1:Int) == 1 && (sIx items.size items.size hi-sIx items.size 0 lo) == items.size)=true):=by
  intro q;rw[V5,V5]at q;have q1:((sIx items.size 0 lo:Nat):Int)=0:=eq_of_beq q.1.1;have q2:sIx items.size items.size hi-sIx items.size 0 lo=items.size:=eq_of_beq q.2;exact hw ⟨by lia,by lia⟩
 show wpAny _ _ (if(((sIx items.size 0 lo:Nat):Int) == 0 && (1:Int) == 1 && (sIx items.size items.size hi-sIx items.size 0 lo) == items.size)=true then _ else _) _ _ s;rw[if_neg N,DZ]
 first
  | exact U4 (m:=zau _) (WW (U7 ⟨_,rfl,U7 h⟩) B)
  | exact U4 (m:=zau _) (WW (U4 (U7 (U7 ⟨_,rfl,U7 h⟩))) B)
  | exact U4 (U4 (m:=zau _) (WW (U7 (U7 ⟨_,rfl,U7 h⟩)) B))
  | exact U4 (U4 (m:=zau _) (WW (U7 ⟨_,rfl,U7 h⟩) B))
end
end HT
namespace L2
open PySem PySem.Spec PyProof.Rows
abbrev TO:=St->Hp->(Option Int->Hp->Prop)->Prop
def PO(X:Cx)(e:Option Expr)(t:TO):Prop:=
 ∀(pins:List (Addr×Obj)) (s:U5) (σ:St) (H:Hp) (Q:Option Int->Hp->Prop),Inv X pins σ H s->t σ H Q->
  wpAny (model X.prog X.w) X.A (evalPart e X.env) (λu s'=>∃o H',Inv X pins σ H' s'/\X3 u o/\Q o H') X.xe s
def HV:TO:=λ_ H Q=>Q none H
def QP(t:TE):TO:=λσ H Q=>t σ H λx H1=>∃i,x=.int i/\Q (some i) H1
theorem intsAre_of:∀ {q:List Value},Vals (ns.map V.int) q->WO q ns:=by
 induction ns with
 | nil=>intro q r;rw[WV]at r;cases r;exact .nil
 | cons n ns ih=>
  intro q r;rw[VG]at r;cases r with
  | cons r1 r2=>
   obtain⟨t,e⟩:=r1;subst e;exact .cons n t (ih r2)
section
variable {X:Cx}{e:Expr}{te:TE}{lo hi:Option Expr}{tl th:TO}{pos p2:Pos}
theorem JC:PO X none HV:=by
 intro pins s σ H Q I h;rw[evalPart_none];exact U7 ⟨none,H,I,.none,h⟩
theorem I0(h:PE X e te):PO X (some e) (QP te):=by
 intro pins s σ H Q I hw;rw[evalPart_some];refine bG (h pins s σ H _ I hw) λu J ⟨x,H1,F,B,G⟩=>?_
 obtain⟨i,rfl,q⟩:=G;obtain⟨t,rfl⟩:=B;exact⟨some i,H1,F,.int i t,q⟩
def SlR(X:Cx)(r:V->Option Int->Option Int->Hp->VK->Prop):Prop:=
 ∀(pins:List (Addr×Obj)) (s:U5) (σ:St) (H:Hp) (x:V) (v vl vu:Value) (lo hi:Option Int) (sl:Addr) (Q:VK),Inv X pins σ H s->RelV x v->s.heap.IsSliceOf sl vl vu .none->X3 vl lo->X3 vu hi->r x lo hi H Q->
  ∃T id,typeLookup (.type T) "__getitem__" = pure (some (.builtin id))/\s.TypeIs v T/\wpAny (model X.prog X.w) X.A (X4 v (.ref sl)) (EP X pins σ Q) X.xe s
theorem SlR.or(h:SlR X r)(h':SlR X r'):SlR X (λx lo hi H Q=>r x lo hi H Q\/r' x lo hi H Q):=by
 intro pins s σ H x v M N lo hi B Q I F hs G J q;rcases q with q|q
 ·exact h pins s σ H x v M N lo hi B Q I F hs G J q
 ·exact h' pins s σ H x v M N lo hi B Q I F hs G J q
def UW(r:V->Option Int->Option Int->Hp->VK->Prop)(te:TE)(tl th:TO):TE:=λσ H Q=>te σ H λx H1=>tl σ H1 λl H2=>th σ H2 λu q=>r x l u q Q
theorem DY(M:SlR X r)(N:PE X e te)(hl:PO X lo tl)(hu:PO X hi th):PE X (.Subscript e (.Slice lo hi none p2) pos) (UW r te tl th):=by
 intro pins s σ H Q I h;refine Subscript_ (bG (N pins s σ H _ I h) λv s1 ⟨x,H1,I1,r1,U⟩=>?_);refine wpAny_Slice (bG (hl pins s1 σ H1 _ I1 U) λG s2 ⟨l,H2,I2,pl,q2⟩=>bG (hu pins s2 σ H2 _ I2 q2) λF B ⟨u,J,I3,pu,q3⟩=>?_);rw[evalPart_none];refine U7 ?_;have Y:Inv X pins σ J {B with heap:=B.heap.push {cls:=.type "slice",data:=.fields #[G,F,.none]} }:=I3.kept (t':=B.toks) λb ob q=>VI _ q
 obtain⟨T,id,hT,ht,W⟩:=M pins {B with heap:=B.heap.push {cls:=.type "slice",data:=.fields #[G,F,.none]} } σ J x v G F l u B.heap.objs.size Q Y r1 (Heap.IsSliceOf.new ..) pl pu q3;show wpAny (model X.prog X.w) X.A (subscriptTail e (.Slice lo hi none p2) v (.ref B.heap.objs.size)) (EP X pins σ Q) X.xe {B with heap:=B.heap.push {cls:=.type "slice",data:=.fields #[G,F,.none]} };exact tail_any (ops:=[.ref B.heap.objs.size,v]) ht hT W (by with_unfolding_all rfl)
def oT(xs:List V)(lo hi:Option Int):List V:=(xs.drop (HT.sIx xs.length 0 lo)).take (HT.sIx xs.length xs.length hi-HT.sIx xs.length 0 lo)
theorem j6(xs:List V)(lo hi:Option Int):(oT xs lo hi).length<=xs.length:=by
 unfold oT;rw[zaq,List.length_drop]
 lia
def Q9(K:U6):V->Option Int->Option Int->Hp->VK->Prop:=λx lo hi H Q=>∃a xs,x=.ref a/\SqT K H a xs /\
 ¬ (HT.sIx xs.length 0 lo=0/\HT.sIx xs.length xs.length hi=xs.length)/\∀p,H p=none->Q (.ref p) (upd H p (.tup (oT xs lo hi)))
theorem NN:SlR X (Q9 X.K):=by
 intro pins s σ H x v vl vu lo hi Y Q I M hs N U h;obtain⟨a,xs,rfl,J,hw,q⟩:=h;cases M;obtain⟨F,r,G,hz⟩:=I.tuple J;have B:F.toArray.size=xs.length:=by rw[VN];exact r.length.symm
 refine⟨"tuple",_,PyProof.Rows.slot_tuple_getitem.lookup,G.typeIs,?_⟩;refine HT.iA G hs N U (by rw[B];exact hw) ?_ (by rw[B];exact hz);rw[B];refine⟨.ref s.heap.objs.size,_,I.laid (t':=s.toks) (o:=.tup (oT xs lo hi)) (λb W q=>VI _ q) (VH _) ?_,rfl,q _ (I.hok.fresh (VH _))⟩;exact⟨WM (j6 xs lo hi) hz,_,(r.drop (HT.sIx xs.length 0 lo)).take (HT.sIx xs.length xs.length hi-HT.sIx xs.length 0 lo),IsTupN.new _ _⟩
def TQ(K:U6):R2:=λx y H Q=>∃a b ns ms,x=.ref a/\y=.ref b/\SqT K H a (ns.map V.int)/\SqT K H b (ms.map V.int)/\Q (.bl (HT.lexLt ns ms)) H
theorem NT(U:X.A.units<cLine):OpR X (VM .Lt) (TQ X.K):=by
 intro pins s σ H x y v u Q I M W h;obtain⟨a,b,ns,ms,rfl,rfl,ha,J,q⟩:=h;cases M;cases W;obtain⟨F,G,p1,_⟩:=I.tuple ha;obtain⟨B,N,p2,_⟩:=I.tuple J;have Y:WO F.toArray.toList ns:=intsAre_of G;have i2:WO B.toArray.toList ms:=intsAre_of N;exact HT.mR p1 p2 Y i2 U ⟨.bl (HT.lexLt ns ms),H,I,rfl,q⟩
def QA(K:U6):R2:=λx y H Q=>∃a b xs ys,x=.ref a/\y=.ref b/\SqT K H a xs/\SqT K H b ys/\xs≠[]/\xs.length+ys.length<=VC /\
 (ys=[]->Q (.ref a) H)/\(ys≠[]->∀p,H p=none->Q (.ref p) (upd H p (.tup (xs++ys))))
theorem Vals.nil_iff(r:Vals xs us):us=[]↔xs=[]:=by
 cases r with
 | nil=>simp
 | cons _ _=>simp
theorem HD:OpR X (WD .Add) (QA X.K):=by
 intro pins s σ H x y v u Q I U Y h;obtain⟨a,b,xs,ys,rfl,rfl,ha,N,M,hz,W,J⟩:=h;cases U;cases Y;obtain⟨aa,F,p1,_⟩:=I.tuple ha;obtain⟨G,B,p2,_⟩:=I.tuple N;refine HT.HR p1 p2 (λz=>M (F.nil_iff.mp z)) (λz=>⟨.ref a,H,I,rfl,W (B.nil_iff.mp z)⟩) (λz=>?_) (by rw[<- F.length,<- B.length];exact hz);refine⟨.ref s.heap.objs.size,_,I.laid (t':=s.toks) (o:=.tup (xs++ys)) (λb ob q=>VI _ q) (VH _) ?_,rfl,J (λw=>z (B.nil_iff.mpr w)) _ (I.hok.fresh (VH _))⟩;exact⟨by rw[WN];exact hz,_,F.append B,IsTupN.new _ _⟩
end
noncomputable def sQ(n:Nat)(i:Int):Option Nat:=if 0<=i then(if i<n then some i.toNat else none)else if -(n:Int)<=i then some (i+n).toNat else none
def d7{α:Type}(xs:List α)(i:Int):Option α:=(sQ xs.length i).bind λj=>xs[j]?
theorem yQ(h:sQ n i=some j):seqIndex? i n=some j/\j<n/\-(n:Int)<=i/\i<n:=by
 unfold sQ at h;by_cases h0:0<=i
 ·rw[if_pos h0]at h
  by_cases h1:i<n
  ·rw[if_pos h1]at h
   have e:i.toNat=j:=VX h;exact⟨by rw[seqIndex_of h0 h1,e],by lia,by lia,h1⟩
  ·rw[if_neg h1]at h;cases h
 ·rw[if_neg h0]at h
  by_cases h1:-(n:Int)<=i
  ·rw[if_pos h1]at h
   have e:(i+n).toNat=j:=VX h;exact⟨by rw[seqIndex_neg (by lia) h1,e],by lia,h1,by lia⟩
  ·rw[if_neg h1]at h;cases h
theorem rK{q:Type}{xs:List q}{i:Int}{v:q}(h:d7 xs i=some v):∃j,seqIndex? i xs.length=some j/\xs[j]?=some v/\j<xs.length/\-(xs.length:Int)<=i/\i<xs.length:=by
 unfold d7 at h;cases e:sQ xs.length i with
 | none=>rw[e]at h;cases h
 | some j=>
  rw[e]at h;obtain⟨h1,h2,B,F⟩:=yQ e;exact⟨j,h1,h,h2,B,F⟩
theorem bX{q:Type}{xs:List q}{j:Nat}{v:q}(h:xs[j]?=some v):d7 xs (j:Int)=some v:=by
 have B:j<xs.length:=(List.getElem?_eq_some_iff.mp h).1;have e:sQ xs.length (j:Int)=some j:=by
  unfold sQ;rw[if_pos (by lia),if_pos (by lia)];simp
 unfold d7;rw[e];exact h
def rA(b:Expr):Prop:=∀o i,zav b false o i=operate [o,i] (X4 o i)
def IxR(X:Cx)(r:R2):Prop:=
 ∀(value slice:Expr) (pins:List (Addr×Obj)) (s:U5) (σ:St) (H:Hp) (x y:V) (v u:Value) (Q:VK),Inv X pins σ H s->RelV x v->RelV y u->r x y H Q->
  zav slice false v u=operate [v,u] (X4 v u)->wpAny (model X.prog X.w) X.A (subscriptTail value slice v u) (EP X pins σ Q) X.xe s
def MtR(X:Cx)(id:String)(r:V->List V->Hp->VK->Prop):Prop:=
 ∀(pins:List (Addr×Obj)) (s:U5) (σ:St) (H:Hp) (x:V) (xs:List V) (v:Value) (us:List Value) (Q:VK),Inv X pins σ H s->RelV x v->Vals xs us->r x xs H Q->
  wpAny (model X.prog X.w) X.A (call (.builtin id) (v::us)) (EP X pins σ Q) X.xe s
section
variable {X:Cx}{a b:Expr}{ta tb:TE}{pos:Pos}
theorem IxR.or(h:IxR X r)(h':IxR X r'):IxR X (λx y H Q=>r x y H Q\/r' x y H Q):=by
 intro value B pins s σ H x y v u Q I F G q hs;rcases q with q|q
 ·exact h value B pins s σ H x y v u Q I F G q hs
 ·exact h' value B pins s σ H x y v u Q I F G q hs
theorem MtR.or{id:String}{r G:V->List V->Hp->VK->Prop}(h:MtR X id r)(h':MtR X id G):MtR X id (λx xs H Q=>r x xs H Q\/G x xs H Q):=by
 intro pins s σ H x xs v F Q I B rs q;rcases q with q|q
 ·exact h pins s σ H x xs v F Q I B rs q
 ·exact h' pins s σ H x xs v F Q I B rs q
theorem P8(G:IxR X r)(U:PE X a ta)(B:PE X b tb)(hs:rA b):PE X (.Subscript a b pos) (PJ r ta tb):=by
 intro pins s σ H Q I h;exact Subscript_ (OQ U B I h λv u M x y H2 J F N q=>G a b pins M σ H2 x y v u Q J F N q (hs _ _))
def RM(K:U6):R2:=λx y H Q=>∃p xs i v,x=.ref p/\y=.int i/\SqL K H p xs/\d7 xs i=some v/\Q v H
def RE(K:U6):R2:=λx y H Q=>∃p xs i v,x=.ref p/\y=.int i/\SqT K H p xs/\d7 xs i=some v/\Q v H
def Q0:R2:=λx y H Q=>∃z i c,x=.str z/\y=.int i/\z.length<=VC/\d7 z.cps.toList i=some c/\Q (.str ⟨#[c]⟩) H
theorem HN:IxR X (RM X.K):=by
 intro value G pins s σ H x y v u Q I Y ry h hs;obtain⟨p,xs,i,z,rfl,rfl,U,he,q⟩:=h;cases Y;obtain⟨t,rfl⟩:=ry;obtain⟨J,r,B,hz⟩:=I.list U;obtain⟨j,h1,h2,h3,h4,h5⟩:=rK he;obtain⟨w,N,F⟩:=r.get h2;have W:=r.length;have hn:=nP;have fin:EP X pins σ Q w s:=⟨z,H,I,F,q⟩;by_cases h0:0<=i
 ·have M:i.toNat=j:=by
   rw[seqIndex_of h0 h5]at h1;exact VX h1
  exact item_listR B.isList h0 (by lia) (by rw[M];simpa using N) fin hs
 ·have M:(i+(J.toArray.size:Int)).toNat=j:=by
   rw[seqIndex_neg (by lia) h4]at h1;rw[VN,<- W];exact VX h1
  exact subscriptTail_builtinR (x:=w) B.isList.typeIs slot_list_getitem.lookup
   (wpAny_getItem_list_neg (Q:=λr s'=>r=w/\EP X pins σ Q r s') B.isList (by lia) (by rw[VN] <;> lia) (by lia) (by rw[M];simpa using N) ⟨rfl,fin⟩) hs
theorem MQ:IxR X (RE X.K):=by
 intro value F pins s σ H x y v u Q I N Y h hs;obtain⟨p,xs,i,z,rfl,rfl,J,W,q⟩:=h;cases N;obtain⟨t,rfl⟩:=Y;obtain⟨aa,r,G,hz⟩:=I.tuple J;obtain⟨j,h1,h2,h3,h4,h5⟩:=rK W;obtain⟨w,U,B⟩:=r.get h2;have M:=r.length;have hn:=nP;have fin:EP X pins σ Q w s:=⟨z,H,I,B,q⟩;exact subscriptTail_builtinR (x:=w) G.typeIs slot_tuple_getitem.lookup
  (getItem_tuple (j:=j) (Q:=λr s'=>r=w/\EP X pins σ Q r s') G (by lia) (by lia) (by rw[VN,<- M];exact h1) (by simpa using U) ⟨rfl,fin⟩) hs
theorem MO:IxR X Q0:=by
 intro value B pins s σ H x y v u Q I G W h hs;obtain⟨z,i,c,rfl,rfl,hz,J,q⟩:=h;obtain⟨t,rfl⟩:=G;obtain⟨t',rfl⟩:=W;obtain⟨j,h1,h2,h3,N,M⟩:=rK J;have F:z.cps.toList.length=z.length:=by simp[Str.length]
 rw[F]at h1 N M;have hn:=nP;exact tail_any (typeIs_str s z t) slot_str_getitem.lookup (getItem_str (c:=c) (by
  have U:decide (i < -(2^63:Int))=false:=decide_eq_false (by lia);have Y:decide (i ≥ 2^63)=false:=decide_eq_false (by lia);rw[U,Y,Bool.or_false]) (by rw[h1];simpa using h2) ⟨.str ⟨#[c]⟩,H,I.tok _,⟨_,rfl⟩,q⟩) hs
def UQ(K:U6):R2:=λx y H Q=>RM K x y H Q\/RE K x y H Q\/Q0 x y H Q
theorem N8:IxR X (UQ X.K):=HN.or (MQ.or MO)
theorem v6(q:List Value)(n j:Nat)(u:Value):WY (·.setIfInBounds j u) {cls:=.type "list",data:=.seq q.toArray n}={cls:=.type "list",data:=.seq (q.set j u).toArray n}:=by
 simp[WY]
theorem Inv.lst{pins:List (Addr×Obj)}{σ:St}{H:Hp}{s:U5}{p:Addr}{xs:List V}(I:Inv X pins σ H s)(h:H p=some (.lst xs)) :
  ∃(q:List Value) (n:Nat),Vals xs q/\s.heap.get? p=some {cls:=.type "list",data:=.seq q.toArray n}/\xs.length<=VC:=by
 obtain⟨z,q,n,r,e⟩:=I.hok p _ h;exact⟨q,n,r,e,z⟩
theorem Inv.lstUpd{pins:List (Addr×Obj)}{xs ys:List V}{B its':List Value}{n F:Nat}{f:Obj->Obj}(I:Inv X pins σ H s)(h:H p=some (.lst xs))
  (M:s.heap.get? p=some {cls:=.type "list",data:=.seq B.toArray n}) (G:f {cls:=.type "list",data:=.seq B.toArray n}={cls:=.type "list",data:=.seq its'.toArray F}) (r:Vals ys its') (hz:ys.length<=VC) (t:Nat) :
  Inv X pins σ (upd H p (.lst ys)) {s with heap:=s.heap.update p f,toks:=t}:=by
 have e:(s.heap.update p f).get? p=some {cls:=.type "list",data:=.seq its'.toArray F}:=by
  rw[YO f M (by rw[G] <;> rfl),G]
 refine I.write (x:=p) (e:=p) (by rw[h];trivial) (.inl rfl) (λb u J q=>(X6 _ _ (VY J)).trans q) ⟨_,e⟩ ?_;exact⟨hz,its',F,r,e⟩
def QL:V->V->V->Hp->(Hp->Prop)->Prop:=λo i v H Q=>∃p xs k j,o=.ref p/\i=.int k/\H p=some (.lst xs)/\sQ xs.length k=some j/\Q (upd H p (.lst (xs.set j v)))
theorem set_list:B1 X QL:=by
 intro pins s σ H o i v ov iv u Q I ro ri rv h;obtain⟨p,xs,k,j,rfl,rfl,Y,hj,q⟩:=h;cases ro;obtain⟨t,rfl⟩:=ri;obtain⟨B,n,r,F,hz⟩:=I.lst Y;obtain⟨h1,h2,N,U⟩:=yQ hj;have G:=r.length;have hn:=nP;have M:Inv X pins σ (upd H p (.lst (xs.set j v))) {s with heap:=s.heap.update p (WY (·.setIfInBounds j u))}:=
  I.lstUpd Y F (v6 B n j u) (r.set rv j) (by rw[List.length_set];exact hz) s.toks
 by_cases h0:0<=k
 ·have J:k.toNat=j:=by
   rw[seqIndex_of h0 U]at h1;exact VX h1
  exact PySem.W.ki_setAt F h0 (by lia) (by rw[VN,<- G];exact U) (by rw[J];exact⟨_,M,q⟩)
 ·have J:(k+(B.toArray.size:Int)).toNat=j:=by
   rw[seqIndex_neg (by lia) N]at h1;rw[VN,<- G];exact VX h1
  exact PySem.W.ki_setBack F (by lia) (by rw[VN,<- G];exact N) (by lia) (by rw[J];exact⟨_,M,q⟩)
theorem qV(lo hi:Option Int)(n:Nat):(X7 lo hi none n).1=((HT.sIx n 0 lo:Nat):Int)/\(X7 lo hi none n).2.1=((HT.sIx n n hi:Nat):Int)/\(X7 lo hi none n).2.2=1:=by
 refine⟨?_,?_,rfl⟩
 ·cases lo with
  | none=>simp[X7,HT.sIx]
  | some i=>
   simp only[X7,HT.sIx,Option.getD_none,show(1:Int)>0 by decide,if_true];by_cases h:i<0
   ·simp only[h,if_true] <;> lia
   ·simp only[h,if_false] <;> lia
 ·cases hi with
  | none=>simp[X7,HT.sIx]
  | some i=>
   simp only[X7,HT.sIx,Option.getD_none,show(1:Int)>0 by decide,if_true];by_cases h:i<0
   ·simp only[h,if_true] <;> lia
   ·simp only[h,if_false] <;> lia
theorem oH(q:List Value)(lo hi:Option Int):slicePick q.toArray lo hi none=((q.drop (HT.sIx q.length 0 lo)).take (HT.sIx q.length q.length hi-HT.sIx q.length 0 lo)).toArray:=by
 obtain⟨h1,h2,B⟩:=qV lo hi q.toArray.size;unfold slicePick;rw[h1,h2,B];simp only[sliceRange_one,pick_run,VN] <;> rfl
def SY(K:U6):V->Option Int->Option Int->Hp->VK->Prop:=λx lo hi H Q=>∃a xs,x=.ref a/\SqL K H a xs/\∀p,H p=none->Q (.ref p) (upd H p (.lst (oT xs lo hi)))
theorem ID:SlR X (SY X.K):=by
 intro pins s σ H x v vl vu lo hi Y Q I J hs M N h;obtain⟨a,xs,rfl,G,q⟩:=h;cases J;obtain⟨U,r,F,hz⟩:=I.list G;have B:=r.length;refine⟨"list",_,slot_list_getitem.lookup,F.isList.typeIs,?_⟩;refine wpAny_getItem_list_slice F.isList hs M N .none (by simp) ?_ (by rw[VN] <;> lia);rw[oH,<- B];refine⟨.ref s.heap.objs.size,_,I.laid (t':=s.toks) (o:=.lst (oT xs lo hi)) (λb W q=>VI _ q) (VH _) ?_,rfl,q _ (I.hok.fresh (VH _))⟩;exact⟨WM (j6 xs lo hi) hz,_,0,(r.drop (HT.sIx xs.length 0 lo)).take (HT.sIx xs.length xs.length hi-HT.sIx xs.length 0 lo),VW _ rfl⟩
noncomputable def jB:V->Bool
 | .non=>true
 | .bl _=>true
 | .int _=>true
 | .str _=>true
 | _=>false
noncomputable def K9:V->V->Bool
 | .non,.non=>true
 | .bl a,.bl b=>a == b
 | .bl a,.int b=>(if a then 1 else 0) == b
 | .int a,.bl b=>a == (if b then 1 else 0)
 | .int a,.int b=>a == b
 | .str a,.str b=>a == b
 | _,_=>false
theorem M0(B:RelV y u)(q:RelV x v)(F:jB y=true)(fx:jB x=true):YY A s u v (K9 y x):=by
 cases y with
 | non=>
  cases B;cases x with
  | non=>cases q;exact SeqAt.EqAt.same _
  | bl b=>cases q;exact SeqAt.EqAt.none_bool b
  | int b=>obtain⟨t,rfl⟩:=q;exact SeqAt.EqAt.none_int b t
  | str b=>obtain⟨t,rfl⟩:=q;exact SeqAt.EqAt.none_str b t
  | _=>exact absurd (show false=true from fx) VL
 | bl a=>
  cases B;cases x with
  | non=>cases q;exact SeqAt.EqAt.bool_none a
  | bl b=>cases q;exact SeqAt.EqAt.bool_bool a b
  | int b=>obtain⟨t,rfl⟩:=q;exact SeqAt.EqAt.bool_int a b t
  | str b=>obtain⟨t,rfl⟩:=q;exact SeqAt.EqAt.bool_str a b t
  | _=>exact absurd (show false=true from fx) VL
 | int a=>
  obtain⟨t',rfl⟩:=B;cases x with
  | non=>cases q;exact SeqAt.EqAt.int_none a t'
  | bl b=>cases q;exact SeqAt.EqAt.int_bool a t' b
  | int b=>obtain⟨t,rfl⟩:=q;exact SeqAt.EqAt.int_int a t' b t
  | str b=>obtain⟨t,rfl⟩:=q;exact SeqAt.EqAt.int_str a t' b t
  | _=>exact absurd (show false=true from fx) VL
 | str a=>
  obtain⟨t',rfl⟩:=B;cases x with
  | non=>cases q;exact SeqAt.EqAt.str_none a t'
  | bl b=>cases q;exact SeqAt.EqAt.str_bool a t' b
  | int b=>obtain⟨t,rfl⟩:=q;exact SeqAt.EqAt.str_int a t' b t
  | str b=>obtain⟨t,rfl⟩:=q;exact SeqAt.EqAt.str_str a t' b t
  | _=>exact absurd (show false=true from fx) VL
 | _=>exact absurd (show false=true from F) VL
def KC(x:V)(u:Value):Bool:=match u with
 | .none=>K9 .non x
 | .bool b=>K9 (.bl b) x
 | .int i _=>K9 (.int i) x
 | .str z _=>K9 (.str z) x
 | _=>false
theorem EC(r:RelV y u)(f:jB y=true):KC x u=K9 y x:=by
 cases y with
 | non=>cases r;rfl
 | bl b=>cases r;rfl
 | int i=>obtain⟨t,rfl⟩:=r;rfl
 | str z=>obtain⟨t,rfl⟩:=r;rfl
 | _=>exact absurd (show false=true from f) VL
theorem qX:∀ {xs:List V} {us:List Value},Vals xs us->xs.all jB=true->us.any (KC x)=xs.any λy=>K9 y x
 | _,_,.nil,_=>rfl
 | y::xs,u::us,.cons r t,f=>by
  rw[ZA,V5]at f;rw[XE,XE,EC r f.1,qX t f.2]
theorem mY(B:RelV x v)(fx:jB x=true):∀ {xs:List V} {us:List Value},Vals xs us->xs.all jB=true->∀u∈us,YY A s u v (KC x u)
 | _,_,.nil,_=>λu q=>by cases q
 | y::xs,u::us,.cons r t,f=>λF q=>by
  rw[ZA,V5]at f;rcases List.mem_cons.mp q with rfl|q
  ·rw[EC r f.1];exact M0 r B f.1 fx
  ·exact mY B fx t f.2 F q
def inV(x:V)(xs:List V):Bool:=xs.any λy=>K9 y x
def UB(K:U6)(neg:Bool):R2:=λx y H Q=>∃p xs,y=.ref p/\(SqL K H p xs\/SqT K H p xs)/\jB x=true/\xs.all jB=true/\Q (.bl (if neg then !inV x xs else inV x xs)) H
theorem BI:OpR X (VM .In) (UB X.K false):=by
 intro pins s σ H x y v u Q I J M h;obtain⟨p,xs,rfl,F,fx,fs,q⟩:=h;cases M;rcases F with F|F
 ·obtain⟨B,r,G,hz⟩:=I.list F
  refine SeqAt.in_listAt (KC x) G.isList (λw hw=>mY J fx r fs w (by simpa using hw)) ⟨.bl _,H,I,rfl,?_⟩;rw[show B.toArray.any (KC x)=B.any (KC x) by simp,qX r fs];exact q
 ·obtain⟨B,r,G,hz⟩:=I.tuple F
  refine SeqAt.in_tupleAt (KC x) G (λw hw=>mY J fx r fs w (by simpa using hw)) ⟨.bl _,H,I,rfl,?_⟩;rw[show B.toArray.any (KC x)=B.any (KC x) by simp,qX r fs];exact q
theorem CallR.or(h:CallR X f r)(h':CallR X f r'):CallR X f (λxs H Q=>r xs H Q\/r' xs H Q):=by
 intro pins s σ H xs B Q I rs q;rcases q with q|q
 ·exact h pins s σ H xs B Q I rs q
 ·exact h' pins s σ H xs B Q I rs q
theorem qS:CallR X (.type "list") (λxs H Q=>∃p ys,xs=[.ref p]/\(SqL X.K H p ys\/SqT X.K H p ys)/\∀l,H l=none->Q (.ref l) (upd H l (.lst ys))):=by
 intro pins s σ H xs us Q I r h;obtain⟨p,ys,rfl,J,q⟩:=h;obtain⟨u,rfl,rx⟩:=vals1 r;cases rx;have fin:∀(B:List Value),Vals ys B->ys.length<=VC->∀(h':Heap) (G:Nat),(∀b o',s.heap.get? b=some o'->h'.get? b=some o')->
   h'.get? s.heap.objs.size=some {cls:=.type "list",dict:=none,data:=.seq B.toArray G,slots:=#[]}->EP X pins σ Q (.ref s.heap.objs.size) {s with heap:=h'}:=λB F hz h' G M e=>
  ⟨.ref s.heap.objs.size,_,I.laid (t':=s.toks) M (VH _) (show ObjOk X.prog X.w _ h' _ (.lst ys)from⟨hz,B,G,F,e⟩),rfl,q _ (I.hok.fresh (VH _))⟩
 rcases J with J|J
 ·obtain⟨B,F,Y,hz⟩:=I.list J
  have N:=F.length;obtain⟨o,W,U,n,hd⟩:=Y.isList;exact call_list_seq p (.inl rfl) W U hd (λh' G M e=>fin B F hz h' G M e) (by simp only[VN] <;> lia)
 ·obtain⟨B,F,Y,hz⟩:=I.tuple J
  have N:=F.length;obtain⟨o,W,U,n,hd⟩:=Y;exact call_list_seq p (.inr rfl) W U hd (λh' G M e=>fin B F hz h' G M e) (by simp only[VN] <;> lia)
theorem oN:CallR X (.type "tuple") (λxs H Q=>∃p ys,xs=[.ref p]/\((SqL X.K H p ys/\∀l,H l=none->Q (.ref l) (upd H l (.tup ys)))\/(SqT X.K H p ys/\Q (.ref p) H))):=by
 intro pins s σ H xs us Q I r h;obtain⟨p,ys,rfl,h⟩:=h;obtain⟨u,rfl,W⟩:=vals1 r;cases W;rcases h with⟨F,q⟩|⟨F,q⟩
 ·obtain⟨B,G,J,hz⟩:=I.list F
  have N:=G.length;refine call_tuple_list J.isList (λh' U=>?_) (by simp only[VN] <;> lia);have M:Inv X pins σ H {s with heap:=h'}:=I.kept (t':=s.toks) U;have Y:Inv X pins σ (upd H h'.objs.size (.tup ys)) {s with heap:=h'.push {cls:=.type "tuple",data:=.seq B.toArray} }:=
   M.laid (t':=s.toks) (λb o e=>VI _ e) (VH _) (show ObjOk X.prog X.w _ _ _ (.tup ys)from⟨hz,B,G,IsTupN.new _ _⟩)
  exact⟨.ref h'.objs.size,_,Y,rfl,q _ (M.hok.fresh (VH _))⟩
 ·obtain⟨B,G,J,hz⟩:=I.tuple F
  exact call_tuple_same J ⟨.ref p,H,I,rfl,q⟩
def UA(K:U6)(T:String)(x:V)(H:Hp):Prop:=match x with
 | .str _=>T = "str"
 | .int _=>T = "int"
 | .ref p=>(T = "list" /\ ∃xs,SqL K H p xs)\/(T = "tuple" /\ ∃o,K.lookup p=some o/\o.cls=.type "tuple" /\ o.dict=none) \/
   (T = "dict" /\ ((∃kvs,H p=some (.dK kvs))\/∃kvs,H p=some (.dT kvs)))\/(T = "set" /\ ∃S n,H p=some (.set S n))
 | _=>False
theorem N9(I:Inv X pins σ H s)(r:RelV x v)(ty:UA X.K T x H) :
  s.TypeIs v T/\∀a,v=.ref a->∃F,s.heap.get? a=some F/\F.dict=none:=by
 cases x with
 | str z=>
  obtain⟨t,rfl⟩:=r;cases(show T = "str" from ty);exact⟨typeIs_str s z t,λ_ e=>nomatch e⟩
 | int i=>
  obtain⟨t,rfl⟩:=r;cases(show T = "int" from ty);exact⟨ZY s i t,λ_ e=>nomatch e⟩
 | ref p=>
  cases r;rcases ty with⟨rfl,xs,J⟩|⟨rfl,o,q,M,hd⟩|⟨rfl,q⟩|⟨rfl,S,n,q⟩
  ·obtain⟨N,_,G,_⟩:=I.list J
   refine⟨G.isList.typeIs,λa e=>?_⟩;cases e;obtain⟨o,n,e,c,hd,_⟩:=G;exact⟨o,e,hd⟩
  ·refine⟨⟨o,I.kIn p o q,M⟩,λa e=>?_⟩
   cases e;exact⟨o,I.kIn _ o q,hd⟩
  ·have z:∃o,s.heap.get? p=some o/\o.ExactDict:=by
    rcases q with⟨kvs,q⟩|⟨kvs,q⟩
    ·obtain⟨_,_,_,_,o,_,_,e,ex,_⟩:=I.hok p _ q
     exact⟨o,e,ex⟩
    ·obtain⟨_,_,_,_,o,_,_,e,ex,_⟩:=I.hok p _ q
     exact⟨o,e,ex⟩
   obtain⟨o,e,ex⟩:=z;refine⟨⟨o,e,ex.1⟩,λa B=>?_⟩;cases B;exact⟨o,e,ex.2.1⟩
  ·obtain⟨o,_,_,_,e,ex,_⟩:=I.hok p _ q
   refine⟨⟨o,e,ex.1⟩,λa B=>?_⟩;cases B;exact⟨o,e,ex.2.1⟩
 | _=>exact XM ty
def RX(K:U6)(T:String)(r:V->List V->Hp->VK->Prop)(to:TE)(t:TA):TE:=λσ H Q=>to σ H λx H1=>UA K T x H1/\t σ H1 λxs H2=>r x xs H2 Q
variable {o e:Expr}{es:List Expr}{to:TE}{t:TA}{name:Str}{apos cpos:Pos}{T id:String}{r:V->List V->Hp->VK->Prop}
theorem zO(pa:PlainAttrs T)(G:Slot T name id)(M:typeOf (.builtin id)=pure (.type "method_descriptor"))(hm:MtR X id r)(ho:PE X o to)(ha:PA X (e::es) t)
  (B:ZC o name X.env (eval o X.env)=eval o X.env:=by rfl)
  (J:((VU cpos (U8 (e::es) X.env)).all (λx => !x.1) && (ZD cpos (ZE [] X.env)).all (λx => x.1.isSome)
   && decide ((e::es).length+([]:List YB).length+(if([]:List YB).isEmpty then 0 else 1)<30))=true:=by rfl)
  (F:(apos.endLine == cpos.line)=true:=by rfl) (hs:U8 (e::es) X.env=(false,eval e X.env)::U8 es X.env:=by rfl) (q:(VU cpos (U8 es X.env)).any (·.1)=false:=by rfl) :
  PE X (.Call (.Attribute o name apos) (e::es) [] cpos) (RX X.K T r to t):=by
 intro pins s σ H Q I h;refine wpAny_Call_method_late B J F rfl (bG (ho pins s σ H _ I h) λv s1 ⟨x,H1,W,U,ty,q1⟩=>?_);obtain⟨h1,h2⟩:=N9 W U ty;refine⟨T,id,pa,G,M,h1,h2,?_⟩;have N:=ha cpos pins s1 σ H1 _ W q1;rw[hs]at N ⊢;refine zbb (by show(false || (VU cpos (U8 es X.env)).any (·.1))=false;rw[q] <;> rfl) (Calls.evalArgs_plain ?_);exact bG N λY s2 ⟨vs,H2,I2,r2,q2⟩=>hm pins s2 σ H2 x vs v Y Q I2 U r2 q2
end
def RP(X:Cx)(id:String)(r:V->List V->Hp->VK->Prop):Prop:=
 ∀(pins:List (Addr×Obj)) (s:U5) (σ:St) (H:Hp) (x:V) (xs:List V) (v:Value) (us:List Value) (Q:VK),Inv X pins σ H s->RelV x v->Vals xs us->r x xs H Q->
  wpAny (model X.prog X.w) X.A (call (.builtin id) (v::us)) (EP X pins σ Q) X.xe s
theorem Vals.one:∀ {x:V} {us:List Value},Vals [x] us->∃u,us=[u]/\RelV x u
 | _,_,.cons r .nil=>⟨_,rfl,r⟩
theorem Vals.zero:∀ {us:List Value},Vals [] us->us=[]
 | _,.nil=>rfl
theorem Vals.rep(h:Vals xs us):∀k:Nat,Vals (VZ k xs).flatten (VZ k us).flatten
 | 0=>.nil
 | k+1=>by
  rw[YQ,YQ,Y0,Y0];exact Vals.append h (Vals.rep h k)
theorem foldl_rep(q:List Value):∀(k:Nat) (acc:List Value),
  List.foldl (λB G=>B++G) acc.toArray (VZ k q.toArray)=(acc++(VZ k q).flatten).toArray
 | 0,acc=>by simp
 | k+1,acc=>by
  have e:acc.toArray++q.toArray=(acc++q).toArray:=by simp
  have F:(acc++q)++(VZ k q).flatten=acc++(VZ (k+1) q).flatten:=by
   rw[YQ,Y0,zaw]
  rw[<- F,<- foldl_rep q k (acc++q),<- e,YQ,zax]
section
variable {X:Cx}{pins:List (Addr×Obj)}{σ:St}{H:Hp}{s:U5}{l b:Addr}{xs ys zs:List V}
theorem Inv.lset{B its':List Value}{n:Nat}{f:Array Value->Array Value}{t':Nat}(I:Inv X pins σ H s)(N:H l=some (.lst xs))
  (e:s.heap.get? l=some {cls:=.type "list",data:=.seq B.toArray n}) (G:f B.toArray=its'.toArray) (J:Vals ys its') (hz:ys.length<=VC) :
  Inv X pins σ (upd H l (.lst ys)) {s with heap:=s.heap.update l (WY f),toks:=t'}:=by
 have q:=PySem.IsL.update e f;rw[G]at q;refine I.write (x:=l) (e:=l) (by rw[N];exact trivial) (.inl rfl) (λU u F M=>(X6 s.heap (WY f) (VY F)).trans M) ⟨_,q⟩ ?_;exact⟨hz,its',_,J,q⟩
theorem Inv.lnew(I:Inv X pins σ H s)(B:Vals ys its)(hz:ys.length<=VC) :
  Inv X pins σ (upd H s.heap.objs.size (.lst ys)) {s with heap:=s.heap.push {cls:=.type "list",data:=.seq its.toArray},toks:=t'}:=
 I.laid (λ_ _ q=>VI _ q) (VH _) ⟨hz,its,0,B,VW _ rfl⟩
theorem Inv.fresh(I:Inv X pins σ H s):H s.heap.objs.size=none:=I.hok.fresh (VH _)
theorem Inv.lstM(I:Inv X pins σ H s)(B:H l=some (.lst xs)):xs.length<=VC/\∃(q:List Value) (n:Nat),Vals xs q/\xs.length=q.length/\s.heap.get? l=some {cls:=.type "list",data:=.seq q.toArray n}:=by
 obtain⟨z,q,n,r,e⟩:=I.hok l _ B;exact⟨z,q,n,r,r.length,e⟩
theorem uW(h:n<=VC):zay n=false:=by
 unfold zay;exact decide_eq_false (by lia)
end
section
variable {X:Cx}
def yN:V->List V->Hp->VK->Prop:=λx vs H Q=>∃l xs y,x=.ref l/\vs=[y]/\H l=some (.lst xs)/\xs.length<VC/\Q .non (upd H l (.lst (xs++[y])))
theorem pM:RP X "list.append" yN:=by
 intro pins s σ H x vs v U Q I M J h;obtain⟨l,xs,y,rfl,rfl,G,hz,q⟩:=h;cases M;obtain⟨u,rfl,N⟩:=J.one;obtain⟨z,B,n,r,W,e⟩:=I.lstM G;refine Y1 F.slot_list_append ⟨_,e,rfl⟩ F.entry_list_append (F.args_list_append_2 _ _) (PySem.list_append l B.toArray n u (by rw[VN];lia)) ⟨e,?_⟩;refine⟨.non,_,I.lset (its':=B++[u]) G e (by simp) (r.append (.cons N .nil)) ?_,rfl,q⟩;rw[WN,zaz]
 lia
theorem len_rep{q:Type}(xs:List q)(k:Nat):(VZ k xs).flatten.length=k*xs.length:=by
 induction k with
 | zero=>simp
 | succ k ih=>rw[YQ,Y0,WN,ih,Nat.succ_mul,Nat.add_comm]
end
section
variable {prog:VB}{w:World}{A:VJ}{E:Value->U5->Prop}{s:U5}
end
section
variable {X:Cx}
end
section
variable {κ:Type}[DecidableEq κ]
noncomputable def jE(kvs:List (κ×V))(k:κ):Option V:=(kvs.find? λq=>decide (q.1=k)).map (·.2)
noncomputable def putK(kvs:List (κ×V))(k:κ)(v:V):List (κ×V):=
 if(kvs.any λq=>decide (q.1=k))=true then kvs.map (λq=>if q.1=k then(q.1,v)else q)else kvs++[(k,v)]
noncomputable def K3(kvs:List (κ×V))(k:κ):List (κ×V):=kvs.filter λq=>decide (q.1≠k)
theorem iN{p:κ×V}{r:List (κ×V)}{k:κ}(e:p.1=k):jE (p::r) k=some p.2:=by simp[jE,WZ,e]
theorem iT{p:κ×V}{r:List (κ×V)}{k:κ}(e:¬ p.1=k):jE (p::r) k=jE r k:=by simp[jE,WZ,e]
theorem u3(k:κ):∀kvs:List (κ×V),(kvs.any λq=>decide (q.1=k))=(jE kvs k).isSome
 | []=>rfl
 | p::r=>by
  rw[XE];by_cases e:p.1=k
  ·simp only[iN e,decide_eq_true e,Bool.true_or,Option.isSome_some]
  ·rw[iT e,decide_eq_false e,Bool.false_or];exact u3 k r
theorem cV(kvs:List (κ×V))(k:κ)(v:V):(putK kvs k v).length<=kvs.length+1:=by
 unfold putK;split
 ·rw[VD];lia
 ·rw[WN,VR,W5];lia
theorem RelO.isSome_eq(r:RelO o u):o.isSome=u.isSome:=by
 cases o with
 | none=>cases u with
  | none=>rfl
  | some _=>exact(show False from r).elim
 | some _=>cases u with
  | none=>exact(show False from r).elim
  | some _=>rfl
theorem RelO.getD(r:RelO o u)(rd:RelV d d'):RelV (o.getD d) (u.getD d'):=by
 cases o with
 | none=>cases u with
  | none=>exact rd
  | some _=>exact(show False from r).elim
 | some _=>cases u with
  | none=>exact(show False from r).elim
  | some _=>exact r
theorem KV.val(r:KV kvs vs)(k:κ):RelO (jE kvs k) (X8 vs k):=by
 unfold KV at r;induction r with
 | nil=>exact WX
 | @cons p q ps qs h t ih=>
  obtain⟨h1,h2⟩:=h;by_cases e:p.1=k
  ·have B:q.1=k:=h1.symm.trans e
   have b:X8 (q::qs) k=some q.2:=by simp[X8,WZ,B]
   rw[iN e,b];exact h2
  ·have B:¬ q.1=k:=λz=>e (h1.trans z)
   have b:X8 (q::qs) k=X8 qs k:=by simp[X8,WZ,B]
   rw[iT e,b];exact ih
theorem KV.any(r:KV kvs vs)(k:κ):(kvs.any λq=>decide (q.1=k))=vs.any λq=>decide (q.1=k):=by
 unfold KV at r;induction r with
 | nil=>rfl
 | cons h t ih=>rw[XE,XE,ih,h.1]
theorem KV.repl(r:KV kvs vs)(k:κ)(F:RelV y u) :
  KV (kvs.map λB=>if B.1=k then(B.1,y)else B) (vs.map λB=>if B.1=k then(B.1,u)else B):=by
 unfold KV at r ⊢;induction r with
 | nil=>exact .nil
 | @cons p q ps qs h t ih=>
  rw[VG,VG];refine .cons ?_ ih;obtain⟨h1,h2⟩:=h;by_cases e:p.1=k
  ·rw[if_pos e,if_pos (h1.symm.trans e)];exact⟨h1,F⟩
  ·rw[if_neg e,if_neg (λz=>e (h1.trans z))];exact⟨h1,h2⟩
theorem KV.put(r:KV kvs vs)(k:κ)(q:RelV y u):KV (putK kvs k y) (stored vs k u):=by
 unfold putK stored;rw[r.any k];by_cases e:(vs.any λB=>decide (B.1=k))=true
 ·rw[if_pos e,if_pos e];exact r.repl k q
 ·rw[if_neg e,if_neg e];exact Paired.snoc r ⟨rfl,q⟩
theorem KV.drop(r:KV kvs vs)(k:κ):KV (K3 kvs k) (without vs k):=by
 unfold KV at r ⊢;unfold K3 without;induction r with
 | nil=>exact .nil
 | @cons p q ps qs h t ih=>
  obtain⟨h1,h2⟩:=h;rw[zbc,zbc];by_cases e:p.1=k
  ·have a:¬ decide (p.1≠k)=true:=by simp[e]
   have b:¬ decide (q.1≠k)=true:=by simp[h1.symm.trans e]
   rw[if_neg a,if_neg b];exact ih
  ·have B:¬ q.1=k:=λz=>e (h1.trans z)
   have a:decide (p.1≠k)=true:=by simp[e]
   have b:decide (q.1≠k)=true:=by simp[B]
   rw[if_pos a,if_pos b];exact .cons ⟨h1,h2⟩ ih
theorem KV.length(r:KV kvs vs):kvs.length=vs.length:=YV r
end
theorem oB(r:RelV (kV k) u):(aZ P w).is k u=true:=by
 cases k with
 | inl i=>obtain⟨t,e⟩:=(show ∃t,u=Value.int i t from r);subst e;exact tE P w i t
 | inr x=>obtain⟨t,e⟩:=(show ∃t,u=Value.str x t from r);subst e;exact tG P w x t
theorem pK:∀ {ks:List Key} {us:List Value},Vals (ks.map kV) us->ItemsAre (aZ P w) ks us
 | [],_,r=>by rw[WV]at r;cases r;exact .nil
 | k::ks,_,r=>by
  rw[VG]at r;cases r with
  | cons h t=>exact .cons (oB h) (pK t)
abbrev KT(H:Hp):List (List Key×V)->List (List Key×Addr×Value)->Prop:=WK λp q=>p.1=q.1/\H q.2.1=some (.tup (p.1.map kV))/\RelV p.2 q.2.2
theorem KT.val(r:KT H kvs xs)(k:List Key):RelO (jE kvs k) ((atKey xs k).map (·.2)):=by
 induction r with
 | nil=>exact WX
 | @cons p q ps qs h t ih=>
  obtain⟨h1,_,h2⟩:=h;by_cases e:p.1=k
  ·have B:q.1=k:=h1.symm.trans e
   have b:atKey (q::qs) k=some q.2:=by simp[atKey,WZ,B]
   rw[iN e,b];exact h2
  ·have B:¬ q.1=k:=λz=>e (h1.trans z)
   have b:atKey (q::qs) k=atKey qs k:=by simp[atKey,WZ,B]
   rw[iT e,b];exact ih
theorem KT.repl(r:KT H kvs xs)(k:List Key)(F:RelV y u) :
  KT H (kvs.map λB=>if B.1=k then(B.1,y)else B) (xs.map (putAt k u)):=by
 induction r with
 | nil=>exact .nil
 | @cons p q ps qs h t ih=>
  rw[VG,VG];refine .cons ?_ ih;obtain⟨h1,h2,G⟩:=h;unfold putAt;by_cases e:p.1=k
  ·rw[if_pos e,if_pos (h1.symm.trans e)];exact⟨h1,h2,F⟩
  ·rw[if_neg e,if_neg (λz=>e (h1.trans z))];exact⟨h1,h2,G⟩
theorem KT.put(r:KT H kvs xs)(k:List Key)(G:H b=some (.tup (k.map kV)))(B:RelV y u) :
  KT H (putK kvs k y) (storedH xs k b u):=by
 have e:(kvs.any λF=>decide (F.1=k))=(atKey xs k).isSome:=by
  rw[u3,(r.val k).isSome_eq,Option.isSome_map]
 unfold putK storedH;rw[e];by_cases q:(atKey xs k).isSome=true
 ·rw[if_pos q,if_pos q];exact r.repl k B
 ·rw[if_neg q,if_neg q];exact Paired.snoc r ⟨rfl,G,B⟩
theorem KT.keeps(r:KT H kvs xs)(q:∀b ys,H b=some (.tup ys)->H' b=some (.tup ys)):KT H' kvs xs:=
 Paired.mapP r λ_ _ z=>⟨z.1,q _ _ z.2.1,z.2.2⟩
section
variable {P:VB}{w:World}{H:Hp}{h:Heap}{a:Addr}
theorem KU(ok:HOk P w H h)(e:Rd H a u):ObjOk P w H h a u:=e.ok ok
theorem kR(ok:HOk P w H h)(e:Rd H a (.dK kvs)):kvs.length<=VC/\(a == W2)=false/\∃vs,KV kvs vs/\h.DictOf (aZ P w) a vs:=
 show ObjOk P w H h a (.dK kvs)from KU ok e
theorem K5(ok:HOk P w H h)(e:H a=some (.dK kvs)):kvs.length<=VC/\(a == W2)=false/\∃vs,KV kvs vs/\h.DictOf (aZ P w) a vs:=kR ok (.inl e)
theorem jR(ok:HOk P w H h)(e:H a=some (.tup (ks.map kV))):(XY (aZ P w)).is h ks a:=by
 obtain⟨_,q,r,o,h1,h2,n,B⟩:=(show ObjOk P w H h a (.tup (ks.map kV))from ok a _ e);exact⟨o,q.toArray,n,h1,h2,B.1,by simpa using pK r⟩
theorem qE(ok:HOk P w H h)(e:Rd H a (.dT kvs)):kvs.length<=VC/\(a == W2)=false /\
  ∃xs,KT H kvs xs/\h.DictOfH (XY (aZ P w)) a xs:=by
 obtain⟨z,y,xs,r,o,es,ep,h1,h2,F,G,J⟩:=(show ObjOk P w H h a (.dT kvs)from KU ok e);refine⟨z,y,xs,r,o,es,ep,h1,h2,F,G,λx B=>?_,J⟩;have all:∀ {l:List (List Key×V)} {m:List (List Key×Addr×Value)},KT H l m->∀x∈m,(XY (aZ P w)).is h x.1 x.2.1:=by
  intro l m q;induction q with
  | nil=>intro x B;exact nomatch B
  | @cons p q ps qs hq t ih=>
   intro x B;rcases List.mem_cons.mp B with e|B
   ·subst e
    exact jR ok (by rw[<- hq.1];exact hq.2.1)
   ·exact ih x B
 exact all r x B
theorem KS(ok:HOk P w H h)(e:H a=some (.dT kvs)):kvs.length<=VC/\(a == W2)=false /\
  ∃xs,KT H kvs xs/\h.DictOfH (XY (aZ P w)) a xs:=qE ok (.inl e)
end
def DGet(H:Hp)(a:Addr)(y:V)(r:Option V):Prop:=
 (∃kvs k,Rd H a (.dK kvs)/\y=kV k/\r=jE kvs k)\/∃kvs k b,Rd H a (.dT kvs)/\y=.ref b/\H b=some (.tup (k.map kV))/\r=jE kvs k
def DPut(H:Hp)(a:Addr)(y v:V)(H':Hp):Prop:=
 (∃kvs k,H a=some (.dK kvs)/\y=kV k/\kvs.length<VC/\H'=upd H a (.dK (putK kvs k v))) \/
 ∃kvs k b,H a=some (.dT kvs)/\y=.ref b/\H b=some (.tup (k.map kV))/\kvs.length<VC/\H'=upd H a (.dT (putK kvs k v))
theorem DGet.k{H:Hp}{a:Addr}{kvs:List (Key×V)}{k:Key}(e:H a=some (.dK kvs)):DGet H a (kV k) (jE kvs k):=.inl ⟨kvs,k,.inl e,rfl,rfl⟩
theorem DGet.t{H:Hp}{a b:Addr}{kvs:List (List Key×V)}{k:List Key}(e:H a=some (.dT kvs))(q:H b=some (.tup (k.map kV))):DGet H a (.ref b) (jE kvs k):=.inr ⟨kvs,k,b,.inl e,rfl,q,rfl⟩
theorem DPut.k{H:Hp}{a:Addr}{kvs:List (Key×V)}{k:Key}{v:V}(e:H a=some (.dK kvs))(q:kvs.length<VC):DPut H a (kV k) v (upd H a (.dK (putK kvs k v))):=.inl ⟨kvs,k,e,rfl,q,rfl⟩
theorem DPut.t{H:Hp}{a b:Addr}{kvs:List (List Key×V)}{k:List Key}{v:V}(e:H a=some (.dT kvs))(q:H b=some (.tup (k.map kV)))(B:kvs.length<VC) :
  DPut H a (.ref b) v (upd H a (.dT (putK kvs k v))):=.inr ⟨kvs,k,b,e,rfl,q,B,rfl⟩
section
variable {X:Cx}{pins:List (Addr×Obj)}{σ:St}{H:Hp}{s:U5}{a:Addr}{y v:V}{u r:Value}{o:Option V}{A:VJ}{E:Value->U5->Prop}
theorem Inv.big(I:Inv X pins σ H s):W2<s.heap.objs.size:=by
 have h:V0<s.heap.objs.size:=(I.mod.glob.keeps I.bk).lt;exact ZF (by decide) h
theorem AR(U:A.units+1<cLine)(I:Inv X pins σ H s)(g:DGet H a y (some v))(N:RelV y u)(h:∀F s',Inv X pins σ H s'->RelV v F->Q F s') :
  wpAny (model X.prog X.w) A (X4 (.ref a) u) Q E s:=by
 rcases g with⟨kvs,k,e,J,l⟩|⟨kvs,k,b,e,J,W,l⟩
 ·subst J
  obtain⟨z,hd,vs,B,G⟩:=kR I.hok e;obtain⟨F,hw,q⟩:=RelO.some_of (v:=v) (o:=X8 vs k) (by rw[l];exact B.val k);exact wpAny_getItem_of (oB N) G.mapOf hw (h F _ (I.tok _) q)
 ·subst J
  cases(show u=VF b from N);obtain⟨z,hd,xs,B,G⟩:=qE I.hok e;obtain⟨F,hw,q⟩:=RelO.some_of (v:=v) (o:=(atKey xs k).map (·.2)) (by rw[l];exact B.val k);obtain⟨p,Y,M⟩:=Option.map_eq_some_iff.mp hw;refine wpAny_getItem_heap (zaA U) (jR I.hok W) G Y ?_;rw[M];exact h F _ (I.tok _) q
theorem S5(M:A.units+1<cLine)(I:Inv X pins σ H s)(g:DGet H a y o)(J:RelV y u)(h:∀s',Inv X pins σ H s'->Q (.bool o.isSome) s') :
  wpAny (model X.prog X.w) A (VM .In u (.ref a)) Q E s:=by
 rcases g with⟨kvs,k,e,G,l⟩|⟨kvs,k,b,e,G,N,l⟩
 ·subst G
  obtain⟨z,hd,vs,B,F⟩:=kR I.hok e;refine wpAny_in_of (oB J) hd F.mapOf ?_;rw[<- (B.val k).isSome_eq,<- l];exact h _ (I.tok _)
 ·subst G
  cases(show u=VF b from J);obtain⟨z,hd,xs,B,F⟩:=qE I.hok e;refine wpAny_in_heap (zaA M) (jR I.hok N) hd F ?_;have q:=(B.val k).isSome_eq;rw[Option.isSome_map]at q;rw[<- q,<- l];exact h _ (I.tok _)
theorem lE(I:Inv X pins σ H s)(G:RQ (H a))(hs:V8 a s.heap h')(B:∃q,h'.get? a=some q)(new:ObjOk X.prog X.w (upd H a ob) h' a ob) :
  Inv X pins σ (upd H a ob) {s with heap:=h',toks:=t'}:=
 I.write (x:=a) (e:=a) G (.inl rfl) (λb q F z=>(hs.2 b F).trans z) B new
theorem ES(z:kvs.length<=VC)(hd:(a == W2)=false)(q:KV kvs vs)(B:h'.DictOf (aZ P w) a vs) :
  ObjOk P w H' h' a (.dK kvs):=⟨z,hd,vs,q,B⟩
theorem AH(hu:A.units+1<cLine)(I:Inv X pins σ H s)(g:DPut H a y v H')(ry:RelV y u)(W:RelV v r)(h:∀s',Inv X pins σ H' s'->Q () s') :
  wpAny (model X.prog X.w) A (setItem (.ref a) u r) Q E s:=by
 rcases g with⟨kvs,k,e,N,l,J⟩|⟨kvs,k,b,e,N,eb,l,J⟩
 ·subst N J
  obtain⟨z,hd,vs,B,U⟩:=K5 I.hok e;have hz:vs.length<=VC:=by rw[<- B.length];exact z
  have M:(putK kvs k v).length<=VC:=by have:=cV kvs k v;lia
  refine wpAny_setItem_pairs (hsz:=hz) (oB ry) U λh' F hs=>h _ ?_
  have he:∃q,h'.get? a=some q:=let ⟨q,_,_,G,_⟩:=F;⟨q,G⟩;exact lE I (by rw[e];exact WX) hs he (ES M hd (B.put k W) F)
 ·subst N J
  cases(show u=VF b from ry);obtain⟨z,hd,xs,B,U⟩:=KS I.hok e;have hz:xs.length<=VC:=by rw[<- YV B];exact z
  have M:(putK kvs k v).length<=VC:=by have:=cV kvs k v;lia
  refine wpAny_setItem_heap (hsz:=hz) (zaA hu) (jR I.hok eb) U λh' F hs=>h _ ?_
  obtain⟨q,es,ep,G,h2,h3,h4,_,h5⟩:=F;refine lE I (by rw[e];exact WX) hs ⟨q,G⟩ ⟨M,hd,_,(B.put k eb W).keeps λc ys Y=>?_,q,es,ep,G,h2,h3,h4,h5⟩;rw[aC (KO Y e (λz=>nomatch z))];exact Y
end
section
variable {X:Cx}{pins:List (Addr×Obj)}{σ:St}{H:Hp}{s:U5}{a:Addr}{kvs:List (Key×V)}{k:Key}{u:Value}{A:VJ}{E:Value->U5->Prop}
theorem P6(I:Inv X pins σ H s)(e:Rd H a (.dK kvs))(h:∀t s',Inv X pins σ H s'->Q (.int kvs.length t) s'):wpAny (model X.prog X.w) A (call (.builtin "len") [.ref a]) Q E s:=by
 obtain⟨z,hd,vs,q,B⟩:=kR I.hok e;refine call_len_dict hd B (by rw[<- q.length];rw[YL]at z;lia) ?_;rw[<- q.length];exact h _ _ (I.tok _)
end
def J3(i:Expr):Prop:=∀q B,zav i false q B=operate [q,B] (X4 q B)
theorem y9{E:Value->U5->Prop}{T id:String}{Q:Value->U5->Prop}
  (N:typeLookup (.type T) "__getitem__" = pure (some (.builtin id))) (hs:J3 slice)
  (h:wpAny (model prog w) A (eval value env) (λo F=>wpAny (model prog w) A (eval slice env) (λi q=>q.TypeIs o T/\wpAny (model prog w) A (X4 o i) Q E q) E F) E s) :
  wpAny (model prog w) A (eval (.Subscript value slice pos) env) Q E s:=by
 refine Subscript_ (WR h (λo F J=>WR J (λi q B=>?_) λ_ _ x=>x) λ_ _ x=>x);obtain⟨hT,B⟩:=B;unfold subscriptTail;refine U4 ?_;rw[getitemInPython_of_ne hT.not_modules];refine U4 (wpAny_specialOf hT N ?_);have fin:wpAny (model prog w) A (zav slice false o i) (λr G=>wpAny (model prog w) A (letTemporaryGo value o r >>= λ_=>pure r) Q E G) E q:=by
  rw[hs o i];exact wpAny_operating (WR B (λr G M=>U4 (wpAny_letTemporaryGo (U7 M))) λ_ _ x=>x)
 first
  | exact U7 (U4 fin)
  | exact U4 (U7 (U4 fin))
  | exact U4 fin
theorem tN(I:Inv X pins σ H s)(g:DGet H a y o):s.TypeIs (.ref a) "dict" := by
 rcases g with⟨kvs,k,e,_,_⟩|⟨kvs,k,b,e,_,_,_⟩
 ·obtain⟨_,_,vs,_,q⟩:=kR I.hok e
  exact q.typeIs
 ·obtain⟨_,_,xs,_,q⟩:=qE I.hok e
  exact q.typeIs
def K0(td ty:TE):TE:=λσ H Q=>td σ H λx H1=>ty σ H1 λy H2=>∃a v,x=.ref a/\DGet H2 a y (some v)/\Q v H2
def QE(td ty tv:TE):TS:=λD σ H=>tv σ H λv H1=>td σ H1 λx H2=>ty σ H2 λy B=>∃a q,x=.ref a/\DPut B a y v q/\D.nx σ q
section
variable {X:Cx}{o i e value:Expr}{pos pos' tpos:Pos}{td ty tv:TE}
theorem HZ(W:X.A.units+1<cLine)(J:PE X o td)(hi:PE X i ty)(hs:J3 i):PE X (.Subscript o i pos) (K0 td ty):=by
 intro pins s σ H Q I h;refine y9 PySem.F.slot_dict_getitem.lookup hs (bG (J pins s σ H _ I h) λu N ⟨x,H1,M,U,q1⟩=>bG (hi pins N σ H1 _ M q1) λiv s2 ⟨y,H2,B,Y,a,v,ex,g,G⟩=>?_);subst ex;obtain rfl:u=VF a:=U;exact⟨tN B g,AR W B g Y λw' s3 I3 q=>⟨v,H2,I3,q,G⟩⟩
theorem HQ(Y:X.A.units+1<cLine)(ho:PE X o td)(hi:PE X i ty)(W:PE X value tv)(hs:V3 value (some (.Subscript o i pos')) pos.line X.env=pure false) :
  PS X (.Assign [.Subscript o i pos'] value pos) (QE td ty tv):=by
 intro pins s σ H D I h;refine wpAny_Assign_Subscript (bG (W pins s σ H _ I h) λr s1 ⟨v,H1,U,J,F⟩=>bG (ho pins s1 σ H1 _ U F) λu s2 ⟨x,H2,M,q,q2⟩=>bG (hi pins s2 σ H2 _ M q2) λiv s3 ⟨y,H3,I3,ry,a,B,ex,g,N⟩=>?_) hs;subst ex;obtain rfl:u=VF a:=q;exact AH Y I3 g ry J λs4 G=>⟨σ,B,G,N⟩
end
theorem uG(h:Heap)(q:W2<h.objs.size):ObjOk P w H (h.push {cls:=.type "dict",data:=.dict #[]}) h.objs.size (.dK []):=
 ⟨WL _,beq_eq_false_iff_ne.mpr (VY (VT q)),[],.nil,Heap.DictOf.new h⟩
theorem uV(h:Heap)(q:W2<h.objs.size):ObjOk P w H (h.push {cls:=.type "dict",data:=.dict #[]}) h.objs.size (.dT []):=
 ⟨WL _,beq_eq_false_iff_ne.mpr (VY (VT q)),[],.nil,_,#[],0,VW _ rfl,⟨rfl,rfl,rfl⟩,rfl,rfl,List.nodup_nil⟩
def NF:TE:=λ_ H Q=>∀p,H p=none->Q (.ref p) (upd H p (.dK []))
def OI:TE:=λ_ H Q=>∀p,H p=none->Q (.ref p) (upd H p (.dT []))
section
variable {X:Cx}{pos:Pos}
theorem CF:PE X (.Dict [] [] pos) NF:=λpins s σ H Q I h=>
 wpAny_Dict_empty ⟨.ref s.heap.objs.size,_,I.laid (a:=s.heap.objs.size) (o:=.dK []) (t':=s.toks) (λ_ _ q=>VI _ q) (VH _) (uG s.heap I.big),rfl,h _ (I.hok.fresh (VH _))⟩
theorem D4:PE X (.Dict [] [] pos) OI:=λpins s σ H Q I h=>
 wpAny_Dict_empty ⟨.ref s.heap.objs.size,_,I.laid (a:=s.heap.objs.size) (o:=.dT []) (t':=s.toks) (λ_ _ q=>VI _ q) (VH _) (uV s.heap I.big),rfl,h _ (I.hok.fresh (VH _))⟩
end
structure M2(X:Cx)(o:Expr)(m:Str)(apos:Pos)(e f:Expr)(cpos:Pos):Prop where
 base:ZC o m X.env (eval o X.env)=eval o X.env
 few:((VU cpos (U8 [e,f] X.env)).all (λx=>!x.1) && (ZD cpos (ZE [] X.env)).all (λx=>x.1.isSome)
  && decide (([e,f]:List Expr).length+([]:List YB).length+(if([]:List YB).isEmpty then 0 else 1)<30))=true
 line:(apos.endLine == cpos.line)=true
 trees:VU cpos (U8 [e,f] X.env)=[(false,eval e X.env),(false,eval f X.env)]
def PK(H:Hp)(a:Addr):Prop:=(∃kvs,Rd H a (.dK kvs))\/∃kvs,Rd H a (.dT kvs)
theorem E7(I:Inv X pins σ H s)(d:PK H a) :
  s.TypeIs (.ref a) "dict" /\ (∀b,VF a=.ref b->∃B,s.heap.get? b=some B/\B.dict=none)/\(a == W2)=false:=by
 rcases d with⟨kvs,e⟩|⟨kvs,e⟩
 ·obtain⟨_,hd,vs,_,F⟩:=kR I.hok e
  refine⟨F.typeIs,λb q=>?_,hd⟩;cases q;obtain⟨B,_,_,h1,h2,_⟩:=F;exact⟨B,h1,h2.2.1⟩
 ·obtain⟨_,hd,xs,_,F⟩:=qE I.hok e
  refine⟨F.typeIs,λb q=>?_,hd⟩;cases q;obtain⟨B,_,_,h1,h2,_⟩:=F;exact⟨B,h1,h2.2.1⟩
section
variable {X:Cx}{pins:List (Addr×Obj)}{σ:St}{H:Hp}{s:U5}{a:Addr}{y d:V}{u r:Value}{o:Option V}{A:VJ}{E:Value->U5->Prop}
theorem OD(N:A.units+1<cLine)(I:Inv X pins σ H s)(g:DGet H a y o)(J:RelV y u)(rd:RelV d r)(h:∀M s',Inv X pins σ H s'->RelV (o.getD d) M->Q M s') :
  wpAny (model X.prog X.w) A (call (.builtin "dict.get") [.ref a,u,r]) Q E s:=by
 rcases g with⟨kvs,k,e,G,l⟩|⟨kvs,k,b,e,G,U,l⟩
 ·subst G
  obtain⟨z,hd,vs,q,B⟩:=kR I.hok e;refine call_meetsIn zbd B.typeIs PySem.F.entry_dict_get (PySem.F.args_dict_get_3 _ _ _) (meets_dict_get_default (aZ X.prog X.w) a (oB J) hd r) ⟨_,B.mapOf,h _ _ (I.tok _) ?_⟩;rw[l];exact(q.val k).getD rd
 ·subst G
  cases(show u=VF b from J);obtain⟨z,hd,xs,q,B⟩:=qE I.hok e;refine call_meetsIn zbd B.typeIs PySem.F.entry_dict_get (PySem.F.args_dict_get_3 _ _ _) (meetsH_dict_get_default (XY (aZ X.prog X.w)) a b hd r) ⟨zaA N,k,xs,jR I.hok U,B,h _ _ (I.tok _) ?_⟩;rw[l];exact(q.val k).getD rd
end
def LC(td ty tx:TE):TE:=λσ H Q=>td σ H λx H1=>∃a,x=.ref a/\PK H1 a/\ty σ H1 λy H2=>tx σ H2 λz q=>∃o,DGet q a y o/\Q (o.getD z) q
section
variable {X:Cx}{o e f:Expr}{apos cpos:Pos}{td ty tx:TE}
theorem D7(hu:X.A.units+1<cLine)(ho:PE X o td)(J:PE X e ty)(Y:PE X f tx)(m:M2 X o "get" apos e f cpos):PE X (.Call (.Attribute o "get" apos) [e,f] [] cpos) (LC td ty tx):=by
 intro pins s σ H Q I h;refine wpAny_Call_method m.base m.few m.line PySem.F.plainAttrs_dict zbd PySem.F.type_dict_get (bG (ho pins s σ H _ I h) λu s1 ⟨x,H1,B,G,a,ex,d,M⟩=>?_);subst ex;obtain rfl:u=VF a:=G;obtain⟨t1,t2,_⟩:=E7 B d;refine⟨t1,t2,?_⟩;rw[m.trees];refine zbb rfl (Calls.evalArgs_plain (za2 (bG (J pins s1 σ H1 _ B M) λiv s2 ⟨y,H2,U,ry,q2⟩=>
  za2 (bG (Y pins s2 σ H2 _ U q2) λfv s3 ⟨z,W,I3,rz,ov,g,q3⟩=>Calls.spliced_nil ?_))))
 exact OD hu I3 g ry rz λw' s4 N q=>⟨_,W,N,q,q3⟩
end
section
variable {X:Cx}{pins:List (Addr×Obj)}{σ:St}{H:Hp}{s:U5}{a:Addr}{kvs:List (Key×V)}{A:VJ}{E:Value->U5->Prop}
end
section
variable {X:Cx}{pins:List (Addr×Obj)}{σ:St}{H:Hp}{s:U5}{a:Addr}{y:V}{u:Value}{A:VJ}{E:Value->U5->Prop}
end
end L2
namespace Att
open PySem PySem.W PySem.Calls PyProof.Rows
theorem kW:∀(ns:List Int) (vs:List Value),WellAll P h vs (ns.map WData.int)->WO vs ns:=by
 intro ns;induction ns with
 | nil=>
  intro vs w;rw[WV]at w;cases w;exact .nil
 | cons n ns ih=>
  intro vs w;rw[VG]at w;cases w with
  | cons a b=>
   cases a;exact .cons _ _ (ih _ b)
theorem A6{l:OpenLaw}{n:Nat}(hn:l.most=some n){P:Params}{h:Heap}{args:List WData}{B:List Value}
  (F:l.row.toRowW.claim.pre args=true) (U:WellAll P h B args) :
  ∃a vs ns,B=[VF a]/\args=[WData.list (ns.map WData.int)]/\h.get? a=some {cls:=.type "list",data:=.seq vs.toArray}/\WO vs ns/\ns.length<=n:=by
 have N:WShape.hasAll [] args [.list .int]=true:=(pre_splitW F).1;have W:l.pre.holds [] {args:=args}=true:=(pre_splitW F).2;obtain⟨d,r,rfl,h1,h2⟩:=hasAllW_cons N;obtain rfl:=hasAllW_nil h2;obtain⟨xs,rfl,Y⟩:=hasW_list h1;obtain⟨ns,rfl⟩:=items_int Y;have G:ns.length<=n:=by
  unfold OpenLaw.pre at W;have M:(WTm.not (.lt (.lit (.int (n:Int))) (.len (.arg 0)))).holds [] {args:=[.list (ns.map .int)]}=true:=by
   have M:=(holds_andW W).1;rw[hn]at M;exact M
  have J:=condW_of M (w_not (w_lt w_lit (w_len_list (w_arg rfl))));rw[VD]at J;refine Nat.le_of_not_lt λq=>?_
  have q':(n:Int)<((ns.length:Nat):Int):=by lia
  first
   | (rw[decide_eq_true q']at J;exact absurd J (by decide))
   | (simp at J;lia)
 cases U with
 | cons w1 w2=>
  cases w2;cases w1 with
  | list ho hall=>exact⟨_,_,ns,rfl,rfl,ho,kW ns _ hall,G⟩
theorem BL(l:OpenLaw)(args:List WData):l.row.toRowW.claim.post args (.bool true) args=true:=
 postW_of (r:=l.row.toRowW) (X:=(true == true))
  (show WShape.has [] (.bool true) .bool=true by first|rfl|decide|simp[WShape.has,WShape.arms,WShape.armsAll])
  (show(WTm.eq .res (.lit (.bool true))).value [] {args:=args,res:=some (.bool true),after:=args}=some (.bool (true == true))from w_eq_bool (w_res rfl) w_lit) rfl
theorem sV{l:OpenLaw}{n:Nat}{q:VB}{J:List Str}{XP:(Str->Option Value)->Heap->Prop}{YP:World->Heap->Prop}{d:DefRec}
  (hn:l.most=some n) (ai:d.params.defaults=[])
  (call:∀(w:World) (F B:U5) (mg mb:Str -> Option Value) (U:Addr) (o:Obj) (pm cd M:Value) (a:Addr) (vs:List Value) (ns:List Int),
   Ground q J [] XP w F mg mb B.heap->YP w B.heap->
   B.heap.get? U=some o->o.data=.func (docDef d.name d.params d.body d.scope pm cd M)->B.heap.CodeRec cd d.name->mg d.name=some (.ref U)->
   B.heap.get? a=some {cls:=.type "list",data:=.seq vs.toArray}->WO vs ns->ns.length<=n->B.gens=#[]->
   XI (model l.prog w) Y2 (.call (.ref U) ⟨[.ref a],[]⟩) (λr s'=>r=.ok (.ret (.bool true))/\OldK B.heap s'.heap/\s'.os=B.os/\YA s'.gens) B) :
  WalkO q J XP YP l.row.toRowW d [] (λf vs=>PySem.call f vs):=by
 intro w F B mg mb G Y U o pm cd M dV kV ho hd ae hD af hg args aj as aa an au ad ar;obtain rfl:dV=.none:=Dflts.none hD ai;obtain rfl:kV=.none:=Dflts.noKw hD;obtain⟨a,vs,ns,rfl,rfl,W,N,ab⟩:=A6 hn aa ad;refine enter_call (zap (call w F B mg mb U o pm cd M a vs ns G Y ho (fd_plain hd) ae af W N ab hg) λr s' hq=>?_);obtain⟨rfl,h2,h3,h4⟩:=hq;exact⟨.inl ⟨.bool true,.bool true,[],rfl,λ_=>rfl,.bool true,BL l _,λ_=>⟨List.Pairwise.nil,λ_ hm=>(nomatch hm)⟩⟩,h2,h3,h4⟩
section
variable {prog:VB}{w:World}{A:VJ}{E:Value->U5->Prop}{s:U5}{K:Frag}
noncomputable def sJ(h:Heap):Heap:={h with objs:=#[]}
theorem gX(h:Heap)(b:Addr):(sJ h).get? b=none:=by
 cases e:(sJ h).get? b with
 | none=>rfl
 | some o=>exact absurd (VE e) (Nat.not_lt_zero _)
noncomputable def ledger(h:Heap)(L d:Addr):List (Addr×Obj):=(VO h.objs.size).filterMap λa=>if a=L\/a=d then none else(h.get? a).map λo=>(a,o)
theorem cQ:(a,o)∈ledger h L d↔a≠L/\a≠d/\h.get? a=some o:=by
 unfold ledger;rw[List.mem_filterMap];constructor
 ·rintro⟨b,_,e⟩
  split at e
  ·cases e
  ·rename_i hb
   obtain⟨o',B,F⟩:=Option.map_eq_some_iff.mp e;cases F;exact⟨λq=>hb (.inl q),λq=>hb (.inr q),B⟩
 ·rintro⟨n1,G,B⟩
  refine⟨a,List.mem_range.mpr (VE B),?_⟩;rw[if_neg (show ¬ (a=L\/a=d)from λq=>q.elim n1 G),B] <;> rfl
theorem M5(n:h.Ns L m):Fr (sJ h) L h m:=
 ⟨n,λb o e=>(by rw[gX]at e;cases e),WL _⟩
end
end Att
namespace L2
open PySem PySem.Spec PyProof.Rows
theorem pD:∀ {vs:List Value} {ns:List Int},WO vs ns->Vals (ns.map V.int) vs
 | _,_,.nil=>.nil
 | _,_,.cons n t h=>.cons ⟨t,rfl⟩ (pD h)
def Only(H:Hp):Prop:=∀b,H b=none\/∃o xs,H b=some (.frz o (.lst xs))
theorem C6{P:VB}{w:World}{K:U6}{mg mb:Str->Option Value}{CX:B7}{k:Nat}{fa a:Addr}{fd:XA}{x:Str}{sp:Sp}{B:U5}{vs:List Value}{ns:List Int}
  (KX:K.In B.heap) (aa:B.heap.Ns V0 mg) (J:B.heap.Ns builtinsNs mb) (ai:∀x:Str,x ≠ "__name__" -> mb x=V7 x) (ac:B.heap.NoLimit) (hg:B.gens=#[])
  (ha:B.heap.get? a=some {cls:=.type "list",data:=.seq vs.toArray}) (hi:WO vs ns) (hl:ns.length<=VC) (hr:Room k Y2)
  (F:∀base:Heap,K.In base->base.Ns V0 mg->FnOk P w K mg base CX k fa fd [x] sp) (U:∀(s:U5) (u:Value),BindsTo s fd ⟨[u],[]⟩ [(x,u)])
  (ah:∀H:Hp,Only H->SqL K H a (ns.map V.int)->sp [.ref a] H (λv _=>v=.bl true) λ_ _ _=>False)
  (ao:∀H e s',CX [] H B (λ_ _ _=>False) e s'->False) :
  XI (model P w) Y2 (.call (.ref fa) ⟨[.ref a],[]⟩) (λr s'=>r=.ok (.ret (.bool true))/\OldK B.heap s'.heap/\s'.os=B.os/\YA s'.gens) B:=by
 have rv:=pD hi;have Y:=hi.length
 -- from an abstract heap in which nothing but the script may be tracked
 have N:∀H:Hp,Only H->SqL K H a (ns.map V.int)->HOk P w H B.heap->(∀b,H b≠none->b=a)->(H a≠none->K.lookup a=none)->
   XI (model P w) Y2 (.call (.ref fa) ⟨[.ref a],[]⟩) (λr s'=>r=.ok (.ret (.bool true))/\OldK B.heap s'.heap/\s'.os=B.os/\YA s'.gens) B:=by
  intro H hO hS W hA hK;have G:∀ {b:Addr} {o:Obj},B.heap.get? b=some o->H b=none->(sM B.heap H).get? b=some o:=λe n=>CT e n
  have am:∀ {b:Addr} {o:Obj} {es:Array XO} {ep:Nat},B.heap.get? b=some o->o.data=.dict es ep->H b=none:=λ{b o es ep} e d=>by
   cases q:H b with
   | none=>rfl
   | some u=>
    have e':b=a:=hA b (by rw[q];simp);subst e';rw[ha]at e;cases e;have d':Data.seq vs.toArray _=Data.dict es ep:=d;cases d'
  have M:∀ {b:Addr} {m:Str->Option Value},B.heap.Ns b m->(sM B.heap H).Ns b m:=λ{b m} ⟨o,es,ep,e,d,r⟩=>⟨o,es,ep,G e (am e d),d,r⟩
  have ae:K.In (sM B.heap H):=λb o e=>G (KX b o e) (by
   cases q:H b with
   | none=>rfl
   | some u=>
    have e':b=a:=hA b (by rw[q];simp);subst e';rw[hK (by rw[q];simp)]at e;cases e)
  have hM:Mod K mg (sM B.heap H):=⟨ae,M aa,⟨mb,M J,ai⟩,let ⟨mc,h1,h2⟩:=ac;⟨mc,M h1,h2⟩⟩;have e0:Env0 P w K mg (sM B.heap H) Y2 [] B H:=⟨rfl,hM,λb o e=>JJ e,Nat.le_of_eq (BO _ _),trivial,λb J=>absurd (show b∈([]:List Addr)from J) (by simp),W,.of_eq hg⟩;refine zap ((F _ ae (M aa)).run Y2 [] B H ⟨[.ref a],[]⟩ [.ref a] [.ref a] _ _ hr e0 (U B (.ref a)) (.cons rfl .nil) (ah H hO hS)) λr s' h=>?_
  cases r with
  | error e=>exact(ao H e s' h).elim
  | ok fl=>
   cases fl with
   | next=>exact XM h
   | brk=>exact XM h
   | cont=>exact XM h
   | ret u=>
    obtain⟨v,H',os,ab,un,af,r',q⟩:=h;have q':v=.bl true:=q;subst q';obtain rfl:u=YH true:=r';refine⟨rfl,OldK.of_keep λb o e=>?_,os,ab⟩;cases q:H b with
    | none=>exact un.keep b o e q (by intro z;exact absurd (show b∈([]:List Addr)from z) (by simp)) (by simp)
    | some u=>
     rcases hO b with z|⟨ob,xs,z⟩
     ·rw[q]at z;cases z
     ·have z2:=un.frzs b ob _ z
      obtain⟨e1,_⟩:=W b _ z;obtain⟨e2,_⟩:=af b _ z2;rw[e]at e1;cases e1;exact e2
 cases hk:K.lookup a with
 | some o=>
  -- the script is one of the module's own objects
  have e:=KX a o hk;rw[ha]at e;cases e;refine N (λ_=>none) (λ_=>.inl rfl) (.inr ⟨_,vs.toArray,_,hk,rfl,rfl,rfl,by rw[VN,Y];exact hl,by simpa using rv⟩) (λb u z=>by have z':(none:Option HO)=some u:=z;cases z') (λb z=>absurd rfl z) λz=>absurd rfl z
 | none=>
  refine N (λb=>if b=a then some (.frz {cls:=.type "list",data:=.seq vs.toArray} (.lst (ns.map V.int)))else none) (λb=>?_) (.inl (.inr ⟨{cls:=.type "list",data:=.seq vs.toArray},if_pos rfl⟩)) (λb u z=>?_) (λb z=>?_) λ_=>hk
  ·by_cases J:b=a
   ·exact .inr ⟨_,_,if_pos J⟩
   ·exact .inl (if_neg J)
  ·by_cases J:b=a
   ·have z':=(if_pos J).symm.trans z
    cases z';subst J;exact⟨ha,by rw[VD];exact hl,vs,_,rv,ha⟩
   ·have z':=(if_neg J).symm.trans z
    cases z'
  ·by_cases J:b=a
   ·exact J
   ·exact absurd (if_neg J) z
theorem IU{l:zbe}{n k:Nat}{q:VB}{J:List Str}{XP:(Str->Option Value)->Heap->Prop}{YP:World->Heap->Prop}{d:DefRec}{K:Params->U6}{CX:World->B7}{sp:World->Sp}{x:Str}
  (hn:l.most=some n) (ad:n<=VC) (ae:d.params.defaults=[]) (hr:Room k Y2)
  (hY:∀(w:World) (h:Heap),YP w h->(K w.params).In h)
  (F:∀(w:World) (mg:Str -> Option Value) (fa:Addr) (h:Heap), (K w.params).In h -> h.Ns V0 mg -> mg d.name = some (.ref fa) ->
   ∃fd:XA,(∀(s:U5) (u:Value),BindsTo s fd ⟨[u],[]⟩ [(x,u)]) /\
    ∀base:Heap,(K w.params).In base->base.Ns V0 mg->FnOk l.prog w (K w.params) mg base (CX w) k fa fd [x] (sp w))
  (ab:∀(w:World) (H:Hp) (a:Addr) (ns:List Int),ns.length<=n->Only H->SqL (K w.params) H a (ns.map V.int)->sp w [.ref a] H (λv _=>v=.bl true) λ_ _ _=>False)
  (af:∀(w:World) (H:Hp) (s:U5) (e:Value) (s':U5),CX w [] H s (λ_ _ _=>False) e s'->False) :
  PySem.W.WalkO q J XP YP l.row.toRowW d [] (λf vs=>PySem.call f vs):=by
 refine Att.sV hn ae λw ag N mg mb fa o pm cd aq a vs ns G Y ho hd an ac U M B hg=>?_
 have KX:=hY w _ Y;obtain⟨fd,hb,hF⟩:=F w mg fa _ KX G.T.g ac;exact C6 KX G.T.g G.T.b G.T.builtins G.T.nolimit hg U M (WM B ad) hr hF hb (λH hO hS=>ab w H a ns B hO hS) λH e s'=>af w H N e s'
noncomputable def cU(s:Stmt):Arguments:=match s with
 | .FunctionDef _ a _ _ _ _ _ _ _ _=>a
 | _=>{posonlyargs:=[],args:=[],vararg:=none,kwonlyargs:=[],kw_defaults:=[],kwarg:=none,defaults:=[]}
noncomputable def a9(s:Stmt):List Stmt:=match s with
 | .FunctionDef _ _ b _ _ _ _ _ _ _=>b
 | _=>[]
noncomputable def aE(s:Stmt):Scope:=match s with
 | .FunctionDef _ _ _ _ _ _ sc _ _ _=>sc
 | _=>{kind:=.function,names:=[],isGenerator:=false,isCoroutine:=false}
abbrev sP:B7:=λ_ _ _ _ _ _=>False
abbrev E0:XK:=λ_ _ _=>False
theorem KR:xI sP X E0:=λ_ _ _ _ _ _ _ h=>h.elim
structure Fun(K:U6)(x qual:Str)(st:Stmt)(f:Addr)(fd:XA):Prop where
 ex:∃(oc:Value) (od:Option Addr) (kV doc pm:Value) (an:Option Addr) (cdv ct:Value) (osl:Array (Option Value)),
  fd=XN x qual (cU st) (a9 st) (aE st) .none kV doc pm an cdv ct/\K.lookup f=some ⟨oc,od,.func fd,osl⟩/\Y9 K cdv qual=true
 kp:YN K (.ref f)=true
section
variable {P:VB}{w:World}{K:U6}{mg:Str->Option Value}{base:Heap}
theorem Fun.ok{x G:Str}{st:Stmt}{f:Addr}{fd:XA}{N ps:List Str}{k:Nat}{sp:Sp}(F:Fun K x G st f fd)(S:FnScope N ps (aE st))(W:∀vs H Q E,sp vs H Q E->vs.length=ps.length)
  (M:∀(J:Value) (A:VJ) (B:List Env) (s:U5) (H:Hp) (vs:List V) (Q:VK) (E:XK), Room k (A.deeper (V9 G (aE st) s.heap.objs.size f J)) -> sp vs H Q E ->
   ∃t,PSs (gE sP P w K mg base N G (aE st) f J A B s H E).nox (a9 st) t/\t {nx:=λ_ H'=>Q .non H',rt:=Q} (start N vs) H):FnOk P w K mg base sP (k+1) f fd ps sp:=by
 obtain⟨oc,od,kV,ab,pm,an,J,ct,ad,rfl,lk,U⟩:=F.ex;refine P1 lk U S W λA B s H vs Q E hr Y=>?_
 obtain⟨t,h,q⟩:=M J A B s H vs Q E hr Y;exact⟨t,h.nox,q⟩
theorem Fun.binds{x q:Str}{st:Stmt}{f:Addr}{fd:XA}{ps:List Str}(F:Fun K x q st f fd)
  (h:∀(kV B M:Value) (J:Option Addr) (G ct:Value) (us:List Value),us.length=ps.length->bindArgs (XN x q (cU st) (a9 st) (aE st) .none kV B M J G ct) ⟨us,[]⟩=pure (ps.zip us)):Binds K fd ps []:=by
 obtain⟨Y,od,kV,B,M,J,G,ct,U,rfl,W,N⟩:=F.ex;exact .all (h kV B M J G ct)
theorem EV{x q:Str}{st:Stmt}{f:Addr}{N:Value}{od J:Option Addr}{G:Array (Option Value)}{kV F M B ct:Value}(l:K.lookup f=some ⟨N,od,.func (XN x q (cU st) (a9 st) (aE st) .none kV F M J B ct),G⟩)
  (c:Y9 K B q=true) (k:YN K (.ref f)=true):Fun K x q st f (XN x q (cU st) (a9 st) (aE st) .none kV F M J B ct):=⟨⟨N,od,kV,F,M,J,B,ct,G,rfl,l,c⟩,k⟩
end
theorem qI(q:Room k A):A.units+1<cLine:=ZZ (Nat.add_le_add_left (by decide:1<=64) _) q.units
section
variable {X:Cx}
theorem pv(i:Nat)(F:X.N[i]?=some x:=by rfl)(B:O9 X.env.scope x:=by first|exact WT rfl|exact W0 (WT rfl)|exact W0 (W0 rfl))(hd:(x == ("__debug__" : Str))=false:=by decide)
  (q:(x == ("__classdict__" : Str))=false:=by decide):PE X (.Name x pos) (hW i):=LP F B hd q
end
theorem TN{A B:Prop}(h:B):if false=true then A else B:=by
 rw[if_neg VL];exact h
theorem RD{A B:Prop}(h:A):if true=true then A else B:=by
 rw[if_pos rfl];exact h
def Same(H H':Hp):Prop:=∀b o,H b=some o->H' b=some o
theorem Same.trans(a:Same H H1)(b:Same H1 H2):Same H H2:=λc o h=>b c o (a c o h)
theorem Same.free(e:Same H H')(h:H' l=Option.none):H l=Option.none:=by
 cases q:H l with
 | none=>rfl
 | some o=>
  rw[e l o q]at h;cases h
theorem Same.seq{K:U6}{H H':Hp}{a:Addr}{xs:List V}(e:Same H H')(h:SqL K H a xs):SqL K H' a xs:=by
 rcases h with(h|⟨o,h⟩)|h
 ·exact .inl (.inl (e _ _ h))
 ·exact .inl (.inr ⟨o,e _ _ h⟩)
 ·exact .inr h
section
variable {X:Cx}
end
section
variable {κ:Type}[DecidableEq κ]
theorem zC:∀ {l:List κ} {k:κ},l.Nodup->¬ k∈l->(l++[k]).Nodup
 | [],k,_,_=>by simp
 | a::r,k,h,hk=>by
  obtain⟨h1,h2⟩:=List.nodup_cons.mp h;show(a::(r++[k])).Nodup;refine List.nodup_cons.mpr ⟨λm=>?_,zC h2 λm=>hk (List.mem_cons.mpr (W0 m))⟩;rcases List.mem_append.mp m with q|q
  ·exact h1 q
  ·exact hk (List.mem_cons.mpr (WT (List.mem_singleton.mp q).symm))
end
end L2
set_option maxHeartbeats 4000000
namespace My
open PySem PySem.Spec PyProof.Rows L2
def RC(i j:Int):Prop:=(-(10^250)<i/\i<10^250)/\-(10^250)<j/\j<10^250
section
variable {X:Cx}
def TC(K:U6):List V->Hp->VK->Prop:=λxs H Q=>∃x n t b,xs=[x,.ty n]/\TyOf K H x t/\ZW K t (.type n)=some b/\Q (.bl b) H
theorem DO:CallR X (.builtin "isinstance") (TC X.K):=by
 intro pins s σ H xs J Q I r h;obtain⟨x,n,t,b,rfl,ty,e,q⟩:=h;obtain⟨u,G,rfl,F,B⟩:=vals2 r;cases B;exact AU I F ty e λtk=>⟨.bl b,H,I.tok tk,rfl,q⟩
end
structure Ok(P:VB)(w:World)(K:U6)(mg:Str->Option Value)(base:Heap)(x:Str)(k:Nat)(ps:List Str)(sp:Sp):Prop where
 ex:∃f fd,YN K (.ref f)=true/\Binds K fd ps []/\mg x=some (.ref f)/\FnOk P w K mg base sP k f fd ps sp
structure DefAt(K:U6)(mg:Str->Option Value)(x:Str)(st:Stmt)(ps:List Str):Prop where
 ex:∃f fd,Fun K x x st f fd/\Binds K fd ps []/\mg x=some (.ref f)
def MU(sp:Sp)(t:TA):TE:=λσ H Q=>t σ H λvs H1=>sp vs H1 Q E0
section
variable {X:Cx}{x:Str}{k:Nat}{ps:List Str}{sp:Sp}{e:Expr}{es:List Expr}{t:TA}{p pos:Pos}
theorem mX(O:Ok X.prog X.w X.K X.mg X.base x k ps sp)(J:Room k X.A)(U:Gl X x)(Y:PA X (e::es) t)(B:(x == ("__debug__" : Str))=false:=by decide)
  (M:U8 (e::es) X.env=(false,eval e X.env)::U8 es X.env:=by rfl) (q:(VU pos (U8 es X.env)).any (·.1)=false:=by rfl) :
  PE X (.Call (.Name x p) (e::es) [] pos) (MU sp t):=by
 obtain⟨f,fd,W,G,N,F⟩:=O.ex;have h:=IZ (p:=p) (pos:=pos) F J U N W G .nil KR Y B M q;intro pins s σ H Q I hw;refine h pins s σ H Q I ?_;have e:(λ(vs:List V) (H1:Hp)=>sp (vs++[]) H1 Q E0)=λvs H1=>sp vs H1 Q E0:=by
  funext vs H1;rw[YM]
 show t σ H λvs H1=>sp (vs++[]) H1 Q E0
 rw[e];exact hw
end
section
variable {P:VB}{w:World}{K:U6}{mg:Str->Option Value}{base:Heap}
def BodyOk(P:VB)(w:World)(K:U6)(mg:Str->Option Value)(base:Heap)(x:Str)(st:Stmt)(N:List Str)(k:Nat)(sp:Sp):Prop:=
 ∀(f:Addr) (cdv:Value) (A:VJ) (outer:List Env) (s:U5) (H:Hp) (vs:List V) (Q:VK) (E:XK),Room k (A.deeper (V9 x (aE st) s.heap.objs.size f cdv))->sp vs H Q E->
   ∃t,PSs (gE sP P w K mg base N x (aE st) f cdv A outer s H E).nox (a9 st) t/\t {nx:=λ_ H'=>Q .non H',rt:=Q} (start N vs) H
theorem BodyOk.fn{x:Str}{st:Stmt}{N ps:List Str}{k:Nat}{sp:Sp}{f:Addr}{fd:XA}(q:BodyOk P w K mg base x st N k sp)(F:Fun K x x st f fd)(S:FnScope N ps (aE st))(J:∀vs H Q E,sp vs H Q E->vs.length=ps.length) :
  FnOk P w K mg base sP (k+1) f fd ps sp:=F.ok S J λG A B s H vs Q E M h=>q f G A B s H vs Q E M h
theorem BodyOk.ok{x:Str}{st:Stmt}{N ps:List Str}{k:Nat}{sp:Sp}(q:BodyOk P w K mg base x st N k sp)(D:DefAt K mg x st ps)(S:FnScope N ps (aE st))(G:∀vs H Q E,sp vs H Q E->vs.length=ps.length) :
  Ok P w K mg base x (k+1) ps sp:=by
 obtain⟨f,fd,F,B,J⟩:=D.ex;exact⟨f,fd,F.kp,B,J,q.fn F S G⟩
theorem Ok.mono(O:Ok P w K mg base x j ps sp)(h:j<=k):Ok P w K mg base x k ps sp:=by
 obtain⟨f,fd,G,q,B,F⟩:=O.ex;exact⟨f,fd,G,q,B,F.mono h⟩
end
def vC(K:U6):Sp:=λvs H Q _=>∃(a:Addr) (ns:List Int),vs=[.ref a]/\SqL K H a (ns.map V.int)/\ns.length<=63/\∀H',Q (.bl true) H'
theorem walk{l:zbe}{q:VB}{B:List Str}{Y:(Str->Option Value)->Heap->Prop}{J:World->Heap->Prop}{d:DefRec}{K:Params->U6}{k:Nat}(hk:k<=100)(hn:l.most=some 63)(G:d.params.defaults=[])
  (U:∀(w:World) (h:Heap),J w h->(K w.params).In h)
  (F:∀(w:World) (mg:Str -> Option Value) (fa:Addr) (h:Heap), (K w.params).In h -> h.Ns V0 mg -> mg d.name = some (.ref fa) ->
   ∃fd:XA,(∀(s:U5) (u:Value),BindsTo s fd ⟨[u],[]⟩ [("script",u)])/\∀base:Heap,(K w.params).In base->base.Ns V0 mg->FnOk l.prog w (K w.params) mg base sP k fa fd ["script"] (vC (K w.params))) :
  PySem.W.WalkO q B Y J l.row.toRowW d [] (λf vs=>PySem.call f vs):=
 L2.IU (n:=63) (k:=k) (x := "script") (CX:=λ_=>sP) (sp:=λw=>vC (K w.params)) hn (by decide) G (Room.mono (k:=100) ⟨rfl,by decide,by decide⟩ hk) U F (λ_ _ a ns N _ M=>⟨a,ns,rfl,M,N,λ_=>rfl⟩) λ_ _ _ _ _ z=>z
theorem t7(h:H p=none):Same H (upd H p o):=λb u e=>by
 rw[aC (a7 e h)];exact e
theorem Same.tupR{K:U6}{H H':Hp}{a:Addr}{xs:List V}(e:Same H H')(h:SqT K H a xs):SqT K H' a xs:=by
 rcases h with(h|⟨o,h⟩)|h
 ·exact .inl (.inl (e _ _ h))
 ·exact .inl (.inr ⟨o,e _ _ h⟩)
 ·exact .inr h
noncomputable def num(c:Int):Int:=if c%3=0 then c/3%21-10 else c/3%(2*10^60-1)-(10^60-1)
theorem boot_len:V7 "len" = some (.builtin "len"):=by decide +kernel
theorem boot_max:V7 "max" = some (.builtin "max"):=by decide +kernel
theorem boot_isinstance:V7 "isinstance" = some (.builtin "isinstance"):=by decide +kernel
theorem boot_sorted:V7 "sorted" = some (.builtin "sorted"):=by decide +kernel
theorem boot_int:V7 "int" = some (.type "int"):=by decide +kernel
theorem boot_bool:V7 "bool" = some (.type "bool"):=by decide +kernel
theorem boot_tuple:V7 "tuple" = some (.type "tuple"):=by decide +kernel
theorem boot_list:V7 "list" = some (.type "list"):=by decide +kernel
theorem boot_dict:V7 "dict" = some (.type "dict"):=by decide +kernel
theorem boot_all:V7 "all" = some (.builtin "all"):=by decide +kernel
end My
namespace My
open PySem PySem.Spec PyProof.Rows L2 PySem.SeqAt
inductive Dx where
 | non|bl (b:Bool)|int (i:Int)|str (x:Str)|tup (l:List Dx)|lst (l:List Dx)
mutual
def Rep(K:U6)(H:Hp):Dx->V->Prop
 | .non,v=>v=.non
 | .bl b,v=>v=.bl b
 | .int i,v=>v=.int i
 | .str x,v=>v=.str x
 | .tup l,v=>∃a xs,v=.ref a/\SqT K H a xs/\RepL K H l xs
 | .lst l,v=>∃a xs,v=.ref a/\SqL K H a xs/\RepL K H l xs
def RepL(K:U6)(H:Hp):List Dx->List V->Prop
 | [],vs=>vs=[]
 | d::ds,vs=>∃x xs,vs=x::xs/\Rep K H d x/\RepL K H ds xs
end
section
variable {K:U6}{H H':Hp}
mutual
theorem Rep.same(e:Same H H'):∀(d:Dx) (v:V),Rep K H d v->Rep K H' d v
 | .non,v,h=>by rw[Rep]at h ⊢;exact h
 | .bl b,v,h=>by rw[Rep]at h ⊢;exact h
 | .int i,v,h=>by rw[Rep]at h ⊢;exact h
 | .str x,v,h=>by rw[Rep]at h ⊢;exact h
 | .tup l,v,h=>by
  rw[Rep]at h ⊢;obtain⟨a,xs,q,h1,h2⟩:=h;exact⟨a,xs,q,Same.tupR e h1,RepL.same e l xs h2⟩
 | .lst l,v,h=>by
  rw[Rep]at h ⊢;obtain⟨a,xs,q,h1,h2⟩:=h;exact⟨a,xs,q,e.seq h1,RepL.same e l xs h2⟩
theorem RepL.same(e:Same H H'):∀(ds:List Dx) (vs:List V),RepL K H ds vs->RepL K H' ds vs
 | [],vs,h=>by rw[RepL]at h ⊢;exact h
 | d::ds,vs,h=>by
  rw[RepL]at h ⊢;obtain⟨x,xs,q,h1,h2⟩:=h;exact⟨x,xs,q,Rep.same e d x h1,RepL.same e ds xs h2⟩
end
theorem RepL.nil:RepL K H [] []:=by rw[RepL]
theorem RepL.cons(h1:Rep K H d v)(h2:RepL K H ds vs):RepL K H (d::ds) (v::vs):=by
 rw[RepL];exact⟨v,vs,rfl,h1,h2⟩
theorem RepL.length:∀ {ds:List Dx} {vs:List V},RepL K H ds vs->vs.length=ds.length
 | [],vs,h=>by rw[RepL]at h;rw[h];rfl
 | d::ds,vs,h=>by
  rw[RepL]at h;obtain⟨x,xs,rfl,_,h2⟩:=h;rw[VR,VR,RepL.length h2]
theorem RepL.get':∀ {ds:List Dx} {vs:List V} {i:Nat} {d:Dx},RepL K H ds vs->ds[i]?=some d->∃v,vs[i]?=some v/\Rep K H d v
 | [],vs,i,d,h,e=>by simp at e
 | d'::ds,vs,i,d,h,e=>by
  rw[RepL]at h;obtain⟨x,xs,rfl,h1,h2⟩:=h;cases i with
  | zero=>simp at e;subst e;exact⟨x,rfl,h1⟩
  | succ i=>exact RepL.get' (i:=i) (ds:=ds) h2 (by simpa using e)
mutual
def Dx.dep:Dx->Nat
 | .tup l=>oP l+1
 | .lst l=>oP l+1
 | .non=>0
 | .bl _=>0
 | .int _=>0
 | .str _=>0
def oP:List Dx->Nat
 | []=>0
 | d::ds=>max d.dep (oP ds)
end
mutual
def Dx.nb:Dx->Bool
 | .bl _=>false
 | .tup l=>GF l
 | .lst l=>GF l
 | .non=>true
 | .int _=>true
 | .str _=>true
def GF:List Dx->Bool
 | []=>true
 | d::ds=>d.nb && GF ds
end
theorem xW:∀ {ds:List Dx} {i:Nat} {d:Dx},ds[i]?=some d->d.dep<=oP ds
 | [],i,d,e=>by simp at e
 | d'::ds,0,d,e=>by simp at e;subst e;rw[oP];lia
 | d'::ds,i+1,d,e=>by
  have:=xW (ds:=ds) (i:=i) (by simpa using e);rw[oP];lia
theorem xC:∀ {ds:List Dx} {i:Nat} {d:Dx},GF ds=true->ds[i]?=some d->d.nb=true
 | [],i,d,_,e=>by simp at e
 | d'::ds,0,d,h,e=>by simp at e;subst e;rw[GF,V5]at h;exact h.1
 | d'::ds,i+1,d,h,e=>by
  rw[GF,V5]at h;exact xC h.2 (by simpa using e)
end
section
variable {X:Cx}{pins:List (Addr×Obj)}{σ:L2.St}{H:Hp}{s:U5}
theorem yF(I:Inv X pins σ H s)(h1:SqL X.K H a xs)(h2:SqT X.K H a ys):False:=by
 obtain⟨F,_,⟨o,n,e,c,_⟩,_⟩:=I.list h1;obtain⟨its',_,⟨o',B,q,_⟩,_⟩:=I.tuple h2;rw[e]at B;cases B;rw[c]at q;exact absurd q (by decide)
mutual
theorem Rep.inj(I:Inv X pins σ H s):∀(d e:Dx) (v:V),Rep X.K H d v->Rep X.K H e v->d=e
 | .non,e,v,h,h'=>by
  rw[Rep]at h;subst h;cases e <;> (rw[Rep]at h') <;> first|rfl|(cases h';done)|(obtain⟨_,_,z,_⟩:=h';cases z)
 | .bl b,e,v,h,h'=>by
  rw[Rep]at h;subst h;cases e <;> (rw[Rep]at h') <;> first|(cases h';rfl)|(cases h';done)|(obtain⟨_,_,z,_⟩:=h';cases z)
 | .int i,e,v,h,h'=>by
  rw[Rep]at h;subst h;cases e <;> (rw[Rep]at h') <;> first|(cases h';rfl)|(cases h';done)|(obtain⟨_,_,z,_⟩:=h';cases z)
 | .str x,e,v,h,h'=>by
  rw[Rep]at h;subst h;cases e <;> (rw[Rep]at h') <;> first|(cases h';rfl)|(cases h';done)|(obtain⟨_,_,z,_⟩:=h';cases z)
 | .tup l,e,v,h,h'=>by
  rw[Rep]at h;obtain⟨a,xs,rfl,h1,h2⟩:=h;cases e with
  | tup m=>
   rw[Rep]at h';obtain⟨b,ys,B,q,F⟩:=h';cases B;have G:=I.tuple_inj h1 q;subst G;rw[RepL.inj I l m xs h2 F]
  | lst m=>
   rw[Rep]at h';obtain⟨b,ys,B,q,F⟩:=h';cases B;exact(yF I q h1).elim
  | non=>rw[Rep]at h';cases h'
  | bl b=>rw[Rep]at h';cases h'
  | int i=>rw[Rep]at h';cases h'
  | str x=>rw[Rep]at h';cases h'
 | .lst l,e,v,h,h'=>by
  rw[Rep]at h;obtain⟨a,xs,rfl,h1,h2⟩:=h;cases e with
  | lst m=>
   rw[Rep]at h';obtain⟨b,ys,B,q,F⟩:=h';cases B;have G:=I.list_inj h1 q;subst G;rw[RepL.inj I l m xs h2 F]
  | tup m=>
   rw[Rep]at h';obtain⟨b,ys,B,q,F⟩:=h';cases B;exact(yF I h1 q).elim
  | non=>rw[Rep]at h';cases h'
  | bl b=>rw[Rep]at h';cases h'
  | int i=>rw[Rep]at h';cases h'
  | str x=>rw[Rep]at h';cases h'
theorem RepL.inj(I:Inv X pins σ H s):∀(ds es:List Dx) (vs:List V),RepL X.K H ds vs->RepL X.K H es vs->ds=es
 | [],es,vs,h,h'=>by
  rw[RepL]at h;subst h;cases es with
  | nil=>rfl
  | cons e es=>rw[RepL]at h';obtain⟨_,_,z,_⟩:=h';cases z
 | d::ds,es,vs,h,h'=>by
  rw[RepL]at h;obtain⟨x,xs,rfl,h1,h2⟩:=h;cases es with
  | nil=>rw[RepL]at h';cases h'
  | cons e es=>
   rw[RepL]at h';obtain⟨_,_,z,q,B⟩:=h';cases z;rw[Rep.inj I d e x h1 q,RepL.inj I ds es xs h2 B]
end
end
open Classical in
theorem rH:∀(ds es:List Dx),((VO (min ds.length es.length)).all (λj=>decide (ds.getD j .non=es.getD j .non)) && ds.length == es.length)=decide (ds=es):=by
 intro ds es;by_cases h:ds=es
 ·subst h
  simp
 ·rw[decide_eq_false h]
  by_cases q:ds.length=es.length
  ·simp only[q,Nat.min_self,beq_self_eq_true,Bool.and_true]
   rw[Bool.eq_false_iff];intro B;rw[Z0]at B;refine h (Z1 q λi h1 h2=>?_);have:=of_decide_eq_true (B i (List.mem_range.mpr h2));simpa[ZG,h1,h2]using this
  ·have:(ds.length == es.length)=false:=by simpa using q
   rw[this,Bool.and_false]
open Classical in
theorem uN(ds es:List Dx)(h:ds.length=es.length):((VO ds.length).all (λj=>decide (ds.getD j .non=es.getD j .non)))=decide (ds=es):=by
 have:=rH ds es;rw[h,Nat.min_self,beq_self_eq_true,Bool.and_true]at this;rw[h];exact this
section
variable {X:Cx}{pins:List (Addr×Obj)}{σ:L2.St}{H:Hp}{s:U5}
theorem EqAt.to(h:EqAt A s u v b)(e:b=c):EqAt A s u v c:=e ▸ h
open Classical in
theorem iU(I:Inv X pins σ H s){n:Nat}(ih:∀(A:VJ) (d e:Dx) (x y:V) (u v:Value),d.dep<=n->A.units+n<cLine->d.nb=true->e.nb=true->Rep X.K H d x->Rep X.K H e y->RelV x u->RelV y v->EqAt A s u v (decide (d=e)))
  {A:VJ} {ds es:List Dx} {xs ys:List V} {q vs:List Value} (hd:oP ds<=n) (hu:A.units+(n+1)<cLine) (h1:GF ds=true) (h2:GF es=true) (G:RepL X.K H ds xs) (N:RepL X.K H es ys) (J:Vals xs q) (F:Vals ys vs) :
  ∀j (h1:j<q.toArray.size) (h2:j<vs.toArray.size),EqAt A.in1 s q.toArray[j] vs.toArray[j] (decide (ds.getD j .non=es.getD j .non)):=by
 intro j j1 j2;have l1:=G.length;have l2:=N.length;have l3:=J.length;have l4:=F.length;have W:j<q.length:=by simpa using j1
 have k2:j<vs.length:=by simpa using j2
 have B:ds[j]?=some (ds.getD j .non):=by simp[ZG,show j<ds.length by lia]
 have U:es[j]?=some (es.getD j .non):=by simp[ZG,show j<es.length by lia]
 obtain⟨x,ex,Y⟩:=G.get' B;obtain⟨y,ey,ry⟩:=N.get' U;obtain⟨u,M,ru⟩:=J.get ex;obtain⟨v,ev,rv⟩:=F.get ey;have b1:q.toArray[j]=u:=by
  rw[V6 W]at M;simpa using VX M
 have b2:vs.toArray[j]=v:=by
  rw[V6 k2]at ev;simpa using VX ev
 rw[b1,b2];exact ih A.in1 _ _ x y u v (WM (xW B) hd) (by show A.units+1+n<cLine;lia) (xC h1 B) (xC h2 U) Y ry ru rv
end
section
variable {X:Cx}{pins:List (Addr×Obj)}{σ:L2.St}{H:Hp}{s:U5}
theorem PlainL.isList(p:PlainL h a its):h.IsList a its:=by
 obtain⟨o,n,e,c,_,d⟩:=p;exact⟨o,e,c,n,d⟩
open Classical in
theorem lD(I:Inv X pins σ H s) :
  ∀(n:Nat) (A:VJ) (d e:Dx) (x y:V) (u v:Value),d.dep<=n->A.units+n<cLine->d.nb=true->e.nb=true->Rep X.K H d x->Rep X.K H e y->RelV x u->RelV y v->EqAt A s u v (decide (d=e)):=by
 intro n;induction n with
 | zero=>
  intro A d e x y u v hd hu n1 M W q Y F;have B:A.units<cLine:=by lia
  cases d with
  | bl b=>rw[Dx.nb]at n1;cases n1
  | tup l=>rw[Dx.dep]at hd;lia
  | lst l=>rw[Dx.dep]at hd;lia
  | non=>
   rw[Rep]at W;subst W;cases Y;cases e with
   | bl b=>rw[Dx.nb]at M;cases M
   | non=>rw[Rep]at q;subst q;cases F;exact EqAt.to (EqAt.same _) (by simp)
   | int i=>rw[Rep]at q;subst q;obtain⟨t,rfl⟩:=F;exact EqAt.to (EqAt.none_int _ _) (by simp)
   | str i=>rw[Rep]at q;subst q;obtain⟨t,rfl⟩:=F;exact EqAt.to (EqAt.none_str _ _) (by simp)
   | tup l=>
    rw[Rep]at q;obtain⟨a,xs,rfl,h1,_⟩:=q;cases F;obtain⟨J,_,G,_⟩:=I.tuple h1;exact EqAt.to (EqAt.none_tuple G B) (by simp)
   | lst l=>
    rw[Rep]at q;obtain⟨a,xs,rfl,h1,_⟩:=q;cases F;obtain⟨J,_,G,_⟩:=I.list h1;exact EqAt.to (EqAt.none_list G.isList B) (by simp)
  | int i=>
   rw[Rep]at W;subst W;obtain⟨t,rfl⟩:=Y;cases e with
   | bl b=>rw[Dx.nb]at M;cases M
   | non=>rw[Rep]at q;subst q;cases F;exact EqAt.to (EqAt.int_none _ _) (by simp)
   | int j=>rw[Rep]at q;subst q;obtain⟨t',rfl⟩:=F;exact EqAt.to (EqAt.int_int _ _ _ _) (by simp[zbf])
   | str j=>rw[Rep]at q;subst q;obtain⟨t',rfl⟩:=F;exact EqAt.to (EqAt.int_str _ _ _ _) (by simp)
   | tup l=>
    rw[Rep]at q;obtain⟨a,xs,rfl,h1,_⟩:=q;cases F;obtain⟨J,_,G,_⟩:=I.tuple h1;exact EqAt.to (EqAt.int_tuple _ _ G B) (by simp)
   | lst l=>
    rw[Rep]at q;obtain⟨a,xs,rfl,h1,_⟩:=q;cases F;obtain⟨J,_,G,_⟩:=I.list h1;exact EqAt.to (EqAt.int_list _ _ G.isList B) (by simp)
  | str i=>
   rw[Rep]at W;subst W;obtain⟨t,rfl⟩:=Y;cases e with
   | bl b=>rw[Dx.nb]at M;cases M
   | non=>rw[Rep]at q;subst q;cases F;exact EqAt.to (EqAt.str_none _ _) (by simp)
   | int j=>rw[Rep]at q;subst q;obtain⟨t',rfl⟩:=F;exact EqAt.to (EqAt.str_int _ _ _ _) (by simp)
   | str j=>rw[Rep]at q;subst q;obtain⟨t',rfl⟩:=F;exact EqAt.to (EqAt.str_str _ _ _ _) (by simp[zbf])
   | tup l=>
    rw[Rep]at q;obtain⟨a,xs,rfl,h1,_⟩:=q;cases F;obtain⟨J,_,G,_⟩:=I.tuple h1;exact EqAt.to (EqAt.str_tuple _ _ G B) (by simp)
   | lst l=>
    rw[Rep]at q;obtain⟨a,xs,rfl,h1,_⟩:=q;cases F;obtain⟨J,_,G,_⟩:=I.list h1;exact EqAt.to (EqAt.str_list _ _ G.isList B) (by simp)
 | succ n ih=>
  intro A d e x y u v hd hu n1 M W q Y F;have B:A.units<cLine:=by lia
  cases d with
  | bl b=>rw[Dx.nb]at n1;cases n1
  | non=>exact ih A _ e x y u v (by rw[Dx.dep];lia) (by lia) n1 M W q Y F
  | int i=>exact ih A _ e x y u v (by rw[Dx.dep];lia) (by lia) n1 M W q Y F
  | str i=>exact ih A _ e x y u v (by rw[Dx.dep];lia) (by lia) n1 M W q Y F
  | tup l=>
   have ab:=W;rw[Rep]at W;obtain⟨a,xs,rfl,h1,q1⟩:=W;cases Y;obtain⟨J,v1,G,_⟩:=I.tuple h1;cases e with
   | bl b=>rw[Dx.nb]at M;cases M
   | non=>rw[Rep]at q;subst q;cases F;exact EqAt.to (EqAt.tuple_none G B) (by simp)
   | int j=>rw[Rep]at q;subst q;obtain⟨t',rfl⟩:=F;exact EqAt.to (EqAt.tuple_int _ _ G B) (by simp)
   | str j=>rw[Rep]at q;subst q;obtain⟨t',rfl⟩:=F;exact EqAt.to (EqAt.tuple_str _ _ G B) (by simp)
   | lst m=>
    rw[Rep]at q;obtain⟨b,ys,rfl,h2,q2⟩:=q;cases F;obtain⟨U,v2,N,_⟩:=I.list h2;exact EqAt.to (EqAt.tuple_list G N.isList B) (by simp)
   | tup m=>
    by_cases hv:v=VF a
    ·subst hv
     obtain rfl:y=V.ref a:=RelV.inj F rfl;have:=Rep.inj I _ _ _ ab q;rw[this];exact EqAt.to (EqAt.same _) (by simp)
    ·rw[Rep]at q;obtain⟨b,ys,rfl,h2,q2⟩:=q;cases F
     obtain⟨U,v2,N,_⟩:=I.tuple h2;rw[Dx.dep]at hd;rw[Dx.nb]at n1 M;refine EqAt.to (EqAt.of_refs (λz=>hv (by rw[z])) (RcAt.tuples G N B (iU I ih (by lia) hu n1 M q1 q2 v1 v2))) ?_;have e1:J.toArray.size=l.length:=by rw[VN,<- v1.length,q1.length]
     have e2:U.toArray.size=m.length:=by rw[VN,<- v2.length,q2.length]
     rw[e1,e2,rH];simp
  | lst l=>
   have ab:=W;rw[Rep]at W;obtain⟨a,xs,rfl,h1,q1⟩:=W;cases Y;obtain⟨J,v1,G,_⟩:=I.list h1;cases e with
   | bl b=>rw[Dx.nb]at M;cases M
   | non=>rw[Rep]at q;subst q;cases F;exact EqAt.to (EqAt.list_none G.isList B) (by simp)
   | int j=>rw[Rep]at q;subst q;obtain⟨t',rfl⟩:=F;exact EqAt.to (EqAt.list_int _ _ G.isList B) (by simp)
   | str j=>rw[Rep]at q;subst q;obtain⟨t',rfl⟩:=F;exact EqAt.to (EqAt.list_str _ _ G.isList B) (by simp)
   | tup m=>
    rw[Rep]at q;obtain⟨b,ys,rfl,h2,q2⟩:=q;cases F;obtain⟨U,v2,N,_⟩:=I.tuple h2;exact EqAt.to (EqAt.list_tuple G.isList N B) (by simp)
   | lst m=>
    by_cases hv:v=VF a
    ·subst hv
     obtain rfl:y=V.ref a:=RelV.inj F rfl;have:=Rep.inj I _ _ _ ab q;rw[this];exact EqAt.to (EqAt.same _) (by simp)
    ·rw[Rep]at q;obtain⟨b,ys,rfl,h2,q2⟩:=q;cases F
     obtain⟨U,v2,N,_⟩:=I.list h2;rw[Dx.dep]at hd;rw[Dx.nb]at n1 M;have e1:J.toArray.size=l.length:=by rw[VN,<- v1.length,q1.length]
     have e2:U.toArray.size=m.length:=by rw[VN,<- v2.length,q2.length]
     by_cases hl:l.length=m.length
     ·refine EqAt.to (EqAt.of_refs (λz=>hv (by rw[z])) (RcAt.lists G.isList N.isList (by rw[e1,e2,hl]) B (iU I ih (by lia) hu n1 M q1 q2 v1 v2))) ?_
      rw[e1,uN _ _ hl];simp
     ·refine EqAt.to (EqAt.of_refs (λz=>hv (by rw[z])) (RcAt.lists_lengths G.isList N.isList (by rw[e1,e2];simpa using hl) B)) ?_
      rw[decide_eq_false];intro z;cases z;exact hl rfl
end
noncomputable def Dx.seq:Dx->Bool
 | .tup _=>true | .lst _=>true | .non=>false | .bl _=>false | .int _=>false | .str _=>false
open Classical in
def Q4(K:U6)(neg:Bool):R2:=λx y H Q=>∃d e,Rep K H d x/\Rep K H e y/\d.seq=true/\e.seq=true/\d.nb=true/\e.nb=true/\d.dep<=60/\Q (.bl (if neg then !decide (d=e)else decide (d=e))) H
section
variable {X:Cx}{pins:List (Addr×Obj)}{σ:L2.St}{H:Hp}{s:U5}
open Classical in
theorem K4(I:Inv X pins σ H s)(hu:X.A.units+64<cLine)(r1:Rep X.K H d x)(J:Rep X.K H e y)(q1:d.seq=true)(M:e.seq=true)(n1:d.nb=true)(n2:e.nb=true)(hd:d.dep<=60)(ru:RelV x u)(rv:RelV y v) :
  RcAt X.A s u v (decide (d=e))/\RcNeAt X.A s u v (!decide (d=e)):=by
 have B:X.A.units<cLine:=by lia
 cases d with
 | bl b=>cases q1
 | non=>cases q1
 | int b=>cases q1
 | str b=>cases q1
 | tup l=>
  rw[Rep]at r1;obtain⟨a,xs,rfl,h1,k1⟩:=r1;cases ru;obtain⟨U,v1,G,_⟩:=I.tuple h1;have W:U.toArray.size=l.length:=by rw[VN,<- v1.length,k1.length]
  cases e with
  | bl b=>cases M
  | non=>cases M
  | int b=>cases M
  | str b=>cases M
  | tup m=>
   rw[Rep]at J;obtain⟨b,ys,rfl,h2,Y⟩:=J;cases rv;obtain⟨F,N,q,_⟩:=I.tuple h2;have e2:F.toArray.size=m.length:=by rw[VN,<- N.length,Y.length]
   rw[Dx.dep]at hd;rw[Dx.nb]at n1 n2;have he:=iU I (lD I 60) (A:=X.A) (by lia) (by lia) n1 n2 k1 Y v1 N;have a1:=RcAt.tuples G q B he;have a2:=RcNeAt.tuples G q B he;rw[W,e2,rH]at a1 a2;have z:decide (Dx.tup l=Dx.tup m)=decide (l=m):=by simp
   rw[z];exact⟨a1,a2⟩
  | lst m=>
   rw[Rep]at J;obtain⟨b,ys,rfl,h2,Y⟩:=J;cases rv;obtain⟨F,N,q,_⟩:=I.list h2;have z:decide (Dx.tup l=Dx.lst m)=false:=by simp
   rw[z];exact⟨RcAt.tuple_list G q.isList B,RcNeAt.tuple_list G q.isList B⟩
 | lst l=>
  rw[Rep]at r1;obtain⟨a,xs,rfl,h1,k1⟩:=r1;cases ru;obtain⟨U,v1,G,_⟩:=I.list h1;have W:U.toArray.size=l.length:=by rw[VN,<- v1.length,k1.length]
  cases e with
  | bl b=>cases M
  | non=>cases M
  | int b=>cases M
  | str b=>cases M
  | tup m=>
   rw[Rep]at J;obtain⟨b,ys,rfl,h2,Y⟩:=J;cases rv;obtain⟨F,N,q,_⟩:=I.tuple h2;have z:decide (Dx.lst l=Dx.tup m)=false:=by simp
   rw[z];exact⟨RcAt.list_tuple G.isList q B,RcNeAt.list_tuple G.isList q B⟩
  | lst m=>
   rw[Rep]at J;obtain⟨b,ys,rfl,h2,Y⟩:=J;cases rv;obtain⟨F,N,q,_⟩:=I.list h2;have e2:F.toArray.size=m.length:=by rw[VN,<- N.length,Y.length]
   rw[Dx.dep]at hd;rw[Dx.nb]at n1 n2;have z:decide (Dx.lst l=Dx.lst m)=decide (l=m):=by simp
   rw[z];by_cases hl:l.length=m.length
   ·have he:=iU I (lD I 60) (A:=X.A) (by lia) (by lia) n1 n2 k1 Y v1 N
    have a1:=RcAt.lists G.isList q.isList (by rw[W,e2,hl]) B he;have a2:=RcNeAt.lists G.isList q.isList (by rw[W,e2,hl]) B he;rw[W,uN _ _ hl]at a1 a2;exact⟨a1,a2⟩
   ·have z2:decide (l=m)=false:=decide_eq_false λz=>hl (by rw[z])
    rw[z2];exact⟨RcAt.lists_lengths G.isList q.isList (by rw[W,e2];simpa using hl) B,RcNeAt.lists_lengths G.isList q.isList (by rw[W,e2];simpa using hl) B⟩
end
section
variable {X:Cx}
theorem NV(M:X.A.units+64<cLine):OpR X (VM .Eq) (Q4 X.K false):=by
 intro pins s σ H x y v u Q I G W h;obtain⟨d,e,F,J,U,B,n1,N,hd,q⟩:=h;exact(K4 I M F J U B n1 N hd G W).1 X.prog X.w X.xe _ ⟨.bl _,H,I,rfl,q⟩
theorem LJ(M:X.A.units+64<cLine):OpR X (VM .NotEq) (Q4 X.K true):=by
 intro pins s σ H x y v u Q I G W h;obtain⟨d,e,F,J,U,B,n1,N,hd,q⟩:=h;exact(K4 I M F J U B n1 N hd G W).2 X.prog X.w X.xe _ ⟨.bl _,H,I,rfl,q⟩
end
def TSame(H H':Hp):Prop:=∀b xs,Rd H b (.tup xs)->Rd H' b (.tup xs)
theorem Same.t(e:Same H H'):TSame H H':=λb xs h=>by
 rcases h with h|⟨o,h⟩
 ·exact .inl (e _ _ h)
 ·exact .inr ⟨o,e _ _ h⟩
theorem TSame.trans(a:TSame H H1)(b:TSame H1 H2):TSame H H2:=λc o h=>b c o (a c o h)
theorem TSame.put(h:H l=some (.lst us)):TSame H (upd H l o):=λb xs q=>by
 have ne:b≠l:=λz=>by
  subst z;rcases q with q|⟨B,q⟩ <;> (rw[h]at q;cases q)
 rcases q with q|⟨B,q⟩
 ·exact .inl (by rw[aC ne];exact q)
 ·exact .inr ⟨B,by rw[aC ne];exact q⟩
theorem TSame.sq{K:U6}{H H':Hp}{a:Addr}{xs:List V}(e:TSame H H')(h:SqT K H a xs):SqT K H' a xs:=by
 rcases h with h|h
 ·exact .inl (e _ _ h)
 ·exact .inr h
mutual
def Dx.nl:Dx->Bool
 | .lst _=>false
 | .tup l=>R8 l
 | .non=>true
 | .bl _=>true
 | .int _=>true
 | .str _=>true
def R8:List Dx->Bool
 | []=>true
 | d::ds=>d.nl && R8 ds
end
section
variable {K:U6}{H H':Hp}
mutual
theorem Rep.tsame(e:TSame H H'):∀(d:Dx) (v:V),d.nl=true->Rep K H d v->Rep K H' d v
 | .non,v,_,h=>by rw[Rep]at h ⊢;exact h
 | .bl b,v,_,h=>by rw[Rep]at h ⊢;exact h
 | .int i,v,_,h=>by rw[Rep]at h ⊢;exact h
 | .str x,v,_,h=>by rw[Rep]at h ⊢;exact h
 | .tup l,v,n,h=>by
  rw[Rep]at h ⊢;rw[Dx.nl]at n;obtain⟨a,xs,q,h1,h2⟩:=h;exact⟨a,xs,q,e.sq h1,RepL.tsame e l xs n h2⟩
 | .lst l,v,n,h=>by rw[Dx.nl]at n;cases n
theorem RepL.tsame(e:TSame H H'):∀(ds:List Dx) (vs:List V),R8 ds=true->RepL K H ds vs->RepL K H' ds vs
 | [],vs,_,h=>by rw[RepL]at h ⊢;exact h
 | d::ds,vs,n,h=>by
  rw[RepL]at h ⊢;rw[R8,V5]at n;obtain⟨x,xs,q,h1,h2⟩:=h;exact⟨x,xs,q,Rep.tsame e d x n.1 h1,RepL.tsame e ds xs n.2 h2⟩
end
end
theorem Same.put(e:Same H H')(h:H l=none):Same H (upd H' l o):=λb u q=>by
 rw[aC (a7 q h)];exact e b u q
def aN(X:Cx)(N:List Str)(scope:Scope)(q:List (Str×Addr))(C:Addr)(s:U5)(H:Hp)(fp:List Addr):Cx where
 prog:=X.prog
 w:=X.w
 K:=X.K
 mg:=X.mg
 base:=X.base
 A:=X.A
 N:=N
 s₀:=s
 H₀:=H
 env:=compEnvC scope q C X.env
 outer:=X.stack
 stack:=X.stack
 ex:=fp
 fn:=λ_=>false
 calm:=X.calm
 pn:=[]
 xe:=λ_ _=>False
def vN(X:Cx)(q:List Expr)(t:TT):Prop:=
 ∀(pins:List (Addr×Obj)) (s:U5) (σ:L2.St) (H:Hp) (Q:Bool->Hp->Prop),Inv X pins σ H s->t σ H Q->
  wpAny (model X.prog X.w) X.A (forIn q true λc r=>if r=true then do let ok <- isTrue c X.env (eval c X.env);pure (ZH ok)else pure (ZH r)) (TP X pins σ Q) X.xe s
def SZ:TT:=λ_ H Q=>Q true H
theorem HH:vN X [] SZ:=λpins s σ H Q I h=>wpAny_tests_nil ⟨H,I,h⟩
theorem IC(h:PT X c t):vN X [c] t:=λpins s σ H Q I hw=>wpAny_tests_one (h pins s σ H Q I hw)
structure Clo(X:Cx)(N:List Str)(scope:Scope)(cl:List (Str×Addr)):Prop where
 clos:closureFor scope X.env=pure cl
 kind:scope.kind=.function
 nocell:∀y∈scope.names,y.2≠.cell
 names:∀y∈scope.names,y.2=.local->scope.names.lookup y.1=some .local
 sub:∀x c,cl.lookup x=some c->X.env.cells.lookup x=some c
 has:∀x,((XQ scope X.env).names.lookup x=some .cell\/(XQ scope X.env).names.lookup x=some .free)->∃c,cl.lookup x=some c
def Start(X:Cx)(N:List Str)(scope:Scope)(σ q:L2.St):Prop:=
 q.length=N.length/\∀(j:Nat) (x:Str) (v:V),N[j]?=some x->q[j]?=some (some v)->O9 (XQ scope X.env) x->¬ (XQ scope X.env).names.lookup x=some .local/\∃i:Nat,X.N[i]?=some x/\σ[i]?=some (some v)/\(X.env.kindOf x=some .cell\/X.env.kindOf x=some .free)
def zT(wi:TI)(g:TG)(tt:TT)(te:TE)(S:L2.St->L2.St->Prop):TE:=λσ H Q=>∃M,S σ M/\wi σ H λJ H1=>∀D,H1 D=none->∃W:Nat->Nat->L2.St->List V->Hp->Prop,(∃m,W 0 m M [] (upd H1 D (.lst []))) /\
 ∀i m G B H2,W i m G B H2->(J.stop i H2/\Q (.ref D) H2)\/(J.go i H2/\B.length<VC/\∀x Y,J.yld i H2 x Y->g x G Y λq H4=>tt q H4 λok N=>
  if ok=true then te q N λv U=>U D=some (.lst B)/\∃F,F<m/\W (i+1) F q (B++[v]) (upd U D (.lst (B++[v])))else N D=some (.lst B)/\∃F,F<m/\W (i+1) F q B N)
section
variable {X:Cx}
theorem HU(B:Inv X pins σ H3 s3)(G:Clo X N scope cl)(J:∀b∈fp,fS X pins H3 b)(M:∀b∈fp,∃o,s3.heap.get? b=some o) :
  (aN X N scope cl s3.heap.objs.size s3 H3 fp).Ok where
 mod:=B.ok.mod
 kind:=G.kind
 glob:=B.ok.glob
 blt:=B.ok.blt
 above:=VH _
 inj:=λx y c h1 h2=>B.ok.inj x y c (G.sub x c h1) (G.sub y c h2)
 has:=λx h=>G.has x h
 cab:=λx c h _=>nomatch h
 hd:=B.ok.hd
 frames:=B.ok.frames
 stk:=.inl rfl
 exf:=λb F=>by
  obtain⟨o,e⟩:=M b F;exact⟨VT (VE e),λx c h=>(J b F).2.2.2.2.1 x c (G.sub x c h)⟩
 bs:=B.bs
 bsz:=WM B.ok.bsz B.sz
 noex:=λb o e F=>by
  rcases(J b F).2.2.2.1 with z|z
  ·exact B.ok.noex b o e z
  ·exact absurd (WQ (VE e) B.ok.bsz) (Nat.not_lt.mpr z)
 exfs:=λb F z=>by
  rcases List.mem_cons.mp (B.stkSub b z)with q|q
  ·exact(J b F).2.1 q
  ·exact(J b F).2.2.1 q
 funs:=B.stack
 frf:=B.stkFree
theorem CM(G:Inv X pins σ H3 s3)(J:Clo X N scope cl)(ff:∀b∈fp,fS X pins H3 b)(fe:∀b∈fp,∃o,s3.heap.get? b=some o)
  (st:Start X N scope σ σ') (ho:s4.os=s3.os) (hg:s4.gens=s3.gens) (U:∀b o,s3.heap.get? b=some o->s4.heap.get? b=some o) (hn:s4.heap.Ns s3.heap.objs.size m) :
  Inv (aN X N scope cl s3.heap.objs.size s3 H3 fp) [] σ' H3 s4 where
 ok:=HU G J ff fe
 os:=ho
 bare:=by rw[hg];exact G.bare
 base:=Un.kept U
 loc:=by
  refine⟨m,hn,λj x v h1 h2 B=>?_⟩;obtain⟨nl,i,W,e2,q⟩:=st.2 j x v h1 h2 B;obtain⟨m0,ap,aa⟩:=G.loc;have ab:O9 X.env.scope x:=by
   rcases q with q|q
   ·exact .inr (.inl q)
   ·exact .inr (.inr q)
  obtain⟨u,ru,l⟩:=aa i x v W e2 ab;refine⟨u,ru,?_⟩;rcases l with⟨lk,_⟩|⟨_,c,hc,F⟩
  ·rcases q with q|q <;> (rw[lk]at q;cases q)
  ·have kk:(XQ scope X.env).names.lookup x=some .cell\/(XQ scope X.env).names.lookup x=some .free:=by
    rcases B with B|B|B
    ·exact absurd B nl
    ·exact .inl B
    ·exact .inr B
   obtain⟨c',M⟩:=J.has x kk;have ec:=J.sub x c' M;rw[hc]at ec;cases ec;obtain⟨o,ac,Y⟩:=F;exact .inr ⟨kk,c,M,o,U c o ac,Y⟩
 cell:=λx c e=>by
  obtain⟨v,o,W,d1⟩:=G.cell x c (J.sub x c e);exact⟨v,o,U c o W,d1⟩
 free:=G.hok.fresh (VH _)
 freeC:=λx c e=>G.freeC x c (J.sub x c e)
 pin:=λp hp=>nomatch hp
 hok:=G.hok.kept U
 len:=st.1
theorem comp_back(I3:Inv X pins σ H3 s3)(ff:∀b∈fp,fS X pins H3 b)
  (G:Inv (aN X N scope cl s3.heap.objs.size s3 H3 fp) [] σ5 H5 s5) (hs:V8 s3.heap.objs.size s5.heap h'):Inv X pins σ H5 {s5 with heap:=h'}:=by
 have ne:∀b o,s3.heap.get? b=some o->b≠s3.heap.objs.size:=λb o e=>VT (VE e)
 have u:=G.base;refine I3.call' (s':={s5 with heap:=h'}) (ch:=fp) G.os ⟨λb o e n F B=>?_,λb o e n F B=>?_,u.free,λb o e B=>?_,u.tups,u.frzs,u.tbls⟩ ?_ G.bare λb F=>?_
 ·exact(hs.2 b (ne b o e)).trans (u.keep b o e n F B)
 ·obtain⟨W,q⟩:=u.slot b o e n F B
  exact⟨W,(hs.2 b (ne b o e)).trans q⟩
 ·obtain⟨o',q⟩:=u.there b o e B
  exact⟨o',(hs.2 b (ne b o e)).trans q⟩
 ·intro b M e
  have J:H5 s3.heap.objs.size=none:=G.free;refine(G.hok b M e).stay (λc w' Y q=>(hs.2 c ?_).trans q) (λ_ q=>q) λ_ _ q=>q
  rintro rfl;rcases Y with z|z
  ·subst z;rw[J]at e;cases e
  ·rw[J]at z;cases z
 ·obtain⟨_,f1,_,f3,U,f5⟩:=ff b F
  exact⟨f3,f1,U,f5⟩
theorem A8(I:Nat->U5->Prop)
  (turn:∀n s, I n s -> wpAny (model prog w) A (WC it) (λr q => match r with
   | none=>R (.ok .next) q
   | some v=>wpAny (model prog w) A (zam target it v) (λ_ B=>wpAny (model prog w) A (WU target env v) (λ_ G=>
     wpAny (model prog w) A (forIn ifs true λc r=>if r=true then do let ok <- isTrue c env (eval c env);pure (ZH ok)else pure (ZH r)) (λok F=>
      if ok=true then wpAny (model prog w) A (eval elt env) (λx M=>
       wpAny (model prog w) A (call (.builtin "list.append") [acc,x]) (λ_ N=>∃m,m<n/\I m N) (λ_ _=>False) M) (λ_ _=>False) F
      else ∃m,m<n/\I m F) (λ_ _=>False) G) (λ_ _=>False) B) (λ_ _=>False) q) (λ_ _=>False) s)
  (n:Nat) (h:I n s) :
  XI (model prog w) A (.compLoop (.ListComp elt [⟨target,iter,ifs,0⟩] scope pos) 0 it acc env) R s:=by
 refine codeAny_loop rfl I (λn s hI=>?_) n h;show wpAny _ A ((compTurn (.ListComp elt [⟨target,iter,ifs,0⟩] scope pos) 0 it acc env).onRaise (λx=>do noteFrame x env;theTreesLotGoes x)) _ _ s;refine wpAny_noted ?_;rw[compTurn_list];have Y:∀(e:Value) (s':U5),False->notedBy (model prog w) A env (λe s'=>R (.error e) s') e s':=λ_ _ h=>h.elim
 refine U4 (ZV (U4 (WR (turn n s hI) (λr q J=>?_) Y)));cases r with
 | none=>exact U7 J
 | some v=>
  refine U4 (WR J (λ_ B W=>?_) Y);refine U4 (WR W (λ_ G aa=>U4 (WR aa (λok F U=>?_) Y)) Y);cases ok with
  | false=>exact U7 ⟨rfl,U⟩
  | true=>
   exact U4 (U4 (WR U (λx M ab=>U4 (WR ab (λ_ N ac=>U7 (U7 ⟨rfl,ac⟩)) Y)) Y))
theorem pZ{ar tg al:Expr}{ap:List Expr}{scope:Scope}{pos:Pos}{N:List Str}{U:List (Str×Addr)}{wi:TI}{g:TG}{tt:TT}{te:TE}{RR:Value->Addr->Result->U5->Prop}{pins:List (Addr×Obj)}{σ ai:L2.St}{Q:VK}{J:It}{H2:Hp}{B:U5}{it:Addr}{fp:List Addr}{tn:Nat->Heap->Prop}{E:Value->U5->Prop}
  (hc:X.calm=true) (cc:Clo X N scope U) (hg:∀C s H fp,PG (aN X N scope U C s H fp) tg g) (ht:∀C s H fp,vN (aN X N scope U C s H fp) ap tt) (he:∀C s H fp,PE (aN X N scope U C s H fp) ar te)
  (I2:Inv X pins σ H2 B) (T:Turn X.prog X.w X.K tg J fp it tn) (au:tn 0 B.heap) (f2:∀b∈fp,fS X pins H2 b) (sS:Start X N scope σ ai)
  (q2:∀D, H2 D = none -> ∃W:Nat -> Nat -> L2.St -> List V -> Hp -> Prop, (∃m, W 0 m ai [] (upd H2 D (.lst []))) /\
   ∀i m M G H2,W i m M G H2->(J.stop i H2/\Q (.ref D) H2)\/(J.go i H2/\G.length<VC/\∀x F,J.yld i H2 x F->g x M F λaj H4=>tt aj H4 λok H5=>
    if ok=true then te aj H5 λv H6=>H6 D=some (.lst G)/\∃m',m'<m/\W (i+1) m' aj (G++[v]) (upd H6 D (.lst (G++[v])))else H5 D=some (.lst G)/\∃m',m'<m/\W (i+1) m' aj G H5))
  (bq:∀(s3 s5:U5) (F H5:Hp) (ab:L2.St) (D:Addr),Inv X pins σ F s3->(∀b∈fp,fS X pins F b)->Inv (aN X N scope U s3.heap.objs.size s3 F fp) [] ab H5 s5->Q (.ref D) H5->RR (.ref D) s3.heap.objs.size (.ok .next) s5) :
  wpAny (model X.prog X.w) X.A (newList []) (λba ax=>wpAny (model X.prog X.w) X.A (newFunctionEnv scope X.env.globals U [] X.env.qual none .none (some X.env)) (λak a2=>
   XI (model X.prog X.w) X.A (.compStart (.ListComp ar [⟨tg,al,ap,0⟩] scope pos) 0 (.ref it) ba {ak with scope:=XQ scope X.env}) (RR ba ak.locals) a2) E ax) E B:=by
 refine WW (wpAny_newFunctionEnv cc.nocell (by intro y hy;simp at hy) (λh1 ah ae=>?_) cc.kind);dsimp only at ah ae ⊢;have I3:Inv X pins σ (upd H2 B.heap.objs.size (.lst [])) {B with heap:=B.heap.push {cls:=.type "list",dict:=none,data:=.seq ([]:List Value).toArray} }:=I2.lnew (t':=B.toks) .nil (WL _);have hD:H2 B.heap.objs.size=none:=I2.fresh;have bt:∀b∈fp,b≠B.heap.objs.size:=λb q=>by
  obtain⟨o,e,_⟩:=T.obj 0 _ au b q;exact VT (VE e)
 have fe:∀b∈fp,∃o,(B.heap.push {cls:=.type "list",dict:=none,data:=.seq ([]:List Value).toArray}).get? b=some o:=λb q=>by
  obtain⟨o,e,_⟩:=T.obj 0 _ au b q;exact⟨o,VI _ e⟩
 have f3:∀b∈fp,fS X pins (upd H2 B.heap.objs.size (.lst [])) b:=λb q=>⟨by rw[aC (bt b q)];exact(f2 b q).1,(f2 b q).2⟩
 obtain⟨W,⟨m0,w0⟩,turn⟩:=q2 B.heap.objs.size hD;have bm:(upd H2 B.heap.objs.size (.lst [])) B.heap.objs.size=some (.lst []):=aG;generalize hs3:({B with heap:=B.heap.push {cls:=.type "list",dict:=none,data:=.seq ([]:List Value).toArray} }:U5)=s3 at I3;have e3:B.heap.push {cls:=.type "list",dict:=none,data:=.seq ([]:List Value).toArray}=s3.heap:=by rw[<- hs3]
 rw[e3]at ah ae fe ⊢;generalize B.heap.objs.size=D at *;generalize upd H2 D (.lst [])=F at *;have as:∀b o,s3.heap.get? b=some o->h1.get? b=some o:=λb o e=>(ae.2 b (VT (VE e))).trans (VI _ e)
 have aw:tn 0 s3.heap:=by
  refine T.keep 0 _ _ au λb q o e=>?_
  rw[<- e3];exact VI _ e
 have am:∀s4:U5,s4={B with heap:=h1,toks:=B.toks+([]:List (Str×Value)).length}->
   XI (model X.prog X.w) X.A (.compLoop (.ListComp ar [⟨tg,al,ap,0⟩] scope pos) 0 (.ref it) (.ref D) (compEnvC scope U s3.heap.objs.size X.env)) (RR (.ref D) s3.heap.objs.size) s4:=by
  rintro s4 rfl;have I4:Inv (aN X N scope U s3.heap.objs.size s3 F fp) [] ai F {B with heap:=h1,toks:=B.toks+([]:List (Str×Value)).length}:=
   CM (m:=λx=>([]:List (Str×Value)).reverse.lookup x) I3 cc f3 fe sS (by rw[<- hs3]) (by rw[<- hs3]) as ah
  have ao:∀ {H':Hp},(∀b∈fp,H' b=none)->∀b∈fp,fS (aN X N scope U s3.heap.objs.size s3 F fp) [] H' b:=λhn b q=>by
   have ok:=I4.ok;exact⟨hn b q,(ok.exf b q).1,ok.exfs b q,.inl q,(ok.exf b q).2,λp hp=>nomatch hp⟩
  refine A8 (λn s'=>∃i M G H',Inv (aN X N scope U s3.heap.objs.size s3 F fp) [] M H' s'/\tn i s'.heap/\(∀b∈fp,H' b=none)/\H' D=some (.lst G)/\W i n M G H') ?_ m0 ⟨0,ai,[],F,I4,T.keep 0 _ _ aw λb q o e=>as b o e,λb q=>(f3 b q).1,bm,w0⟩;rintro n s5 ⟨i,ab,G,H5,I5,a4,a1,db,w5⟩;rcases turn i n ab G H5 w5 with⟨bb,qn⟩|⟨go,bc,step⟩
  ·refine bG (T.done (aN X N scope U s3.heap.objs.size s3 F fp) rfl rfl rfl hc i [] s5 ab H5 _ I5 (ao a1) a4 bb) λr s6 ⟨hr,I6⟩=>?_
   subst hr;exact bq s3 s6 F H5 ab D I3 f3 I6 qn
  ·refine bG (T.item (aN X N scope U s3.heap.objs.size s3 F fp) rfl rfl rfl hc i [] s5 ab H5 _ I5 (ao a1) a4 go) λr s6 ⟨u,hr,h6⟩=>?_
   subst hr;refine bG h6 λ_ s7 ⟨x,H7,I7,r7,y7,aq,br⟩=>?_
   have bp:=I7.pinned (ao br) (T.obj _ _ aq);refine bG (hg _ _ _ _ _ s7 ab H7 x u _ bp r7 (step x H7 y7)) λ_ s8 ⟨Y,H8,I8,q8⟩=>?_
   refine bG (ht _ _ _ _ _ s8 Y H8 _ I8 q8) λok s9 ⟨H9,I9,q9⟩=>?_
   have fin:∀ {ac:U5} {aa:Hp} {vs:List V},Inv (aN X N scope U s3.heap.objs.size s3 F fp) ([]++nI fp s7.heap) Y aa ac->aa D=some (.lst vs)->(∃m',m'<n/\W (i+1) m' Y vs aa)->
     ∃m,m<n/\∃i M G H',Inv (aN X N scope U s3.heap.objs.size s3 F fp) [] M H' ac/\tn i ac.heap/\(∀b∈fp,H' b=none)/\H' D=some (.lst G)/\W i m M G H':=λ{ac aa vs} ag hd ⟨m',hm,bh⟩=>by
    refine⟨m',hm,i+1,Y,vs,aa,ag.unpinned,T.keep _ _ _ aq λb q o e=>(ag.pin (b,o) (XR _ (XR _ (eQ q e)))).1,λb q=>?_,hd,bh⟩;obtain⟨o,e,d⟩:=T.obj _ _ aq b q;exact(ag.pin (b,o) (XR _ (XR _ (eQ q e)))).2.1
   cases ok with
   | false=>
    rw[if_neg VL]at q9 ⊢;exact fin I9 q9.1 q9.2
   | true=>
    rw[if_pos rfl]at q9 ⊢;refine bG (he _ _ _ _ _ s9 Y H9 _ I9 q9) λy ac ⟨v,aa,ag,bl,ay,bi⟩=>?_
    refine bG (pM (X:=aN X N scope U s3.heap.objs.size s3 F fp) _ ac Y aa (.ref D) [v] (.ref D) [y] (λ_ an=>an D=some (.lst (G++[v]))/\∃m',m'<n/\W (i+1) m' Y (G++[v]) an) ag rfl (.cons bl .nil) ⟨D,G,v,rfl,rfl,ay,bc,aG,bi⟩) λ_ c3 ⟨z,an,bo,_,az,bd⟩=>?_
    exact fin bo az bd
 exact codeAny_compStart_list (am _ rfl) (T.self X.A 0 _ _ _ (T.keep 0 _ _ aw λb q o e=>as b o e) (am _ rfl))
theorem HA{G tg B:Expr}{F:List Expr}{scope:Scope}{pos:Pos}{N:List Str}{U:List (Str×Addr)}{wi:TI}{g:TG}{tt:TT}{te:TE}
  (hc:X.calm=true) (M:Clo X N scope U) (hi:PI X tg B wi) (hg:∀C s H fp,PG (aN X N scope U C s H fp) tg g) (ht:∀C s H fp,vN (aN X N scope U C s H fp) F tt) (he:∀C s H fp,PE (aN X N scope U C s H fp) G te)
  (hs:∀x,W4 B X.env x=pure x:=by intro _;rfl) :
  PE X (.ListComp G [⟨tg,B,F,0⟩] scope pos) (zT wi g tt te (Start X N scope)):=by
 intro pins s σ H Q I h;obtain⟨aj,sS,hw⟩:=h;rw[eval_ListComp];refine wpAny_comprehension_free (use:=none) rfl hs M.clos M.kind M.names (bG (hi pins s σ H _ I hw) λv s1 h1=>bG h1 λal s2 h2=>?_);obtain⟨it,fp,tn,J,H2,e,I2,T,W,f2,q2⟩:=h2;subst e;refine pZ (wi:=wi) (Q:=Q) (RR:=λaa C=>compPost (model X.prog X.w) X.A X.xe none (EP X pins σ Q) aa C) hc M hg ht he I2 T W f2 sS q2 ?_;intro s3 s5 H3 H5 ak D I3 f3 I5 q;obtain⟨m,hn,_⟩:=id I5.loc;exact⟨m,hn,λh' Y=>⟨.ref D,H5,comp_back I3 f3 I5 Y,rfl,q⟩⟩
end
end My
namespace My
open PySem PySem.W PyProof.Rows
structure Ord(n:Nat)(lt:Nat->Nat->Bool):Prop where
 irr:∀i,i<n->lt i i=false
 tr:∀i j k,i<n->j<n->k<n->lt i j=true->lt j k=true->lt i k=true
 tot:∀i j,i<n->j<n->i≠j->lt i j=true\/lt j i=true
noncomputable def eJ(n:Nat)(lt:Nat->Nat->Bool):Nat->Nat->(Bool->U5->Prop)->U5->Prop:=λi j C s=>i<n/\j<n/\i≠j/\C (lt i j) s
def PermR(n:Nat)(p:Array Nat):Prop:=p.Perm (Z2 (VO n))
theorem PermR.size(h:PermR n p):p.size=n:=by
 have:=Array.Perm.size_eq h;simpa using this
theorem PermR.lt(h:PermR n p)(hi:i<n):p.getD i 0<n:=by
 have hs:=h.size;have q:i<p.size:=by lia
 have e:p.getD i 0=p[i]:=by simp[ZI,q]
 rw[e];have B:p[i]∈p.toList:=by simp
 have:=(Array.perm_iff_toList_perm.mp h).mem_iff.mp B;simpa using this
theorem PermR.nodup(h:PermR n p):p.toList.Nodup:=by
 have:=Array.perm_iff_toList_perm.mp h;exact this.symm.nodup (by simpa using List.nodup_range)
theorem PermR.ne(h:PermR n p)(hi:i<n)(M:j<n)(q:i≠j):p.getD i 0≠p.getD j 0:=by
 have hs:=h.size;have F:i<p.toList.length:=by rw[W9];lia
 have J:j<p.toList.length:=by rw[W9];lia
 have B:p.getD i 0=p.toList[i]:=by simp[ZI,show i<p.size by lia]
 have G:p.getD j 0=p.toList[j]:=by simp[ZI,show j<p.size by lia]
 rw[B,G];intro z;exact q ((ZU h.nodup).mp z)
def dR(lt:Nat->Nat->Bool)(p:Array Nat)(k:Nat):Prop:=∀i j,i<j->j<k->lt (p.getD i 0) (p.getD j 0)=true
section
variable {n:Nat}{lt:Nat->Nat->Bool}(O:Ord n lt)
include O
theorem g5(B:PermR n p)(F:r<=n)(h:∀i,i+1<r->lt (p.getD i 0) (p.getD (i+1) 0)=true):dR lt p r:=by
 intro i j q G;obtain⟨d,rfl⟩:∃d,j=i+1+d:=⟨j-i-1,by lia⟩;clear q;induction d with
 | zero=>exact h i (by lia)
 | succ d ih=>exact O.tr _ _ _ (B.lt (by lia)) (B.lt (by lia)) (B.lt (by lia)) (ih (by lia)) (h (i+1+d) (by lia))
theorem OP(B:PermR n p)(hi:i<n)(F:j<n)(q:i≠j)(h:lt (p.getD i 0) (p.getD j 0)=false):lt (p.getD j 0) (p.getD i 0)=true:=by
 rcases O.tot _ _ (B.lt hi) (B.lt F) (B.ne hi F q)with z|z
 ·rw[h]at z;cases z
 ·exact z
theorem wZ(q:PermR n p):∀(f m:Nat),1<=m->m+f<=n->(∀i,i+1<m->lt (p.getD i 0) (p.getD (i+1) 0)=true)->
  (∀r,m<=r->r<=m+f->(∀i,i+1<r->lt (p.getD i 0) (p.getD (i+1) 0)=true)->(r<m+f->lt (p.getD r 0) (p.getD (r-1) 0)=true)->G r s)->(kas_asc p f m).kasWp (eJ n lt) G s
 | 0,m,h1,h2,ha,hG=>hG m (VH _) (VH _) ha λz=>absurd z (by lia)
 | f+1,m,h1,h2,ha,hG=>by
  show eJ n lt _ _ _ s;refine⟨q.lt (by lia),q.lt (by lia),q.ne (by lia) (by lia) (by lia),?_⟩;cases hc:lt (p.getD m 0) (p.getD (m-1) 0)with
  | true=>
   show(KasT.ret m).kasWp (eJ n lt) G s;exact hG m (VH _) (by lia) ha λ_=>hc
  | false=>
   show(kas_asc p f (m+1)).kasWp (eJ n lt) G s;refine wZ q f (m+1) (by lia) (by lia) (λi hi=>?_) (λr M N F B=>hG r (by lia) (by lia) F λz=>B (by lia));by_cases e:i+1<m
   ·exact ha i e
   ·have:i=m-1:=by lia
    subst this;have J:m-1+1=m:=by lia
    rw[J];exact OP O q (by lia) (by lia) (by lia) hc
theorem zI(q:PermR n p):∀(f m:Nat),1<=m->m+f<=n->(∀i,i+1<m->lt (p.getD (i+1) 0) (p.getD i 0)=true)->
  (∀r,m<=r->r<=m+f->(∀i,i+1<r->lt (p.getD (i+1) 0) (p.getD i 0)=true)->G (p,r,0) s)->(kas_desc f p m 0).kasWp (eJ n lt) G s
 | 0,m,h1,h2,ha,hG=>hG m (VH _) (VH _) ha
 | f+1,m,h1,h2,ha,hG=>by
  show eJ n lt _ _ _ s;refine⟨q.lt (by lia),q.lt (by lia),q.ne (by lia) (by lia) (by lia),?_⟩;cases hc:lt (p.getD m 0) (p.getD (m-1) 0)with
  | true=>
   show(kas_desc f p (m+1) 0).kasWp (eJ n lt) G s;refine zI q f (m+1) (by lia) (by lia) (λi hi=>?_) (λr J M B=>hG r (by lia) (by lia) B);by_cases e:i+1<m
   ·exact ha i e
   ·have:i=m-1:=by lia
    subst this;have F:m-1+1=m:=by lia
    rw[F];exact hc
  | false=>
   show eJ n lt _ _ _ s;refine⟨q.lt (by lia),q.lt (by lia),q.ne (by lia) (by lia) (by lia),?_⟩;rw[OP O q (by lia) (by lia) (by lia) hc];exact hG m (VH _) (by lia) ha
theorem EK(B:PermR n p)(F:r<=n)(k:Nat):(kas_rev p 0 r).getD k 0=if k<r then p.getD (r-1-k) 0 else p.getD k 0:=by
 have hs:=B.size;have e:=getElem?_mirror_all (xs:=p) (i:=0) (j:=r) (by lia) k;have g:∀(q:Array Nat) (k:Nat),q.getD k 0=(q[k]?).getD 0:=λq k=>by
  by_cases h:k<q.size <;> simp[ZI,h]
 unfold kas_rev;rw[g,e];by_cases h:k<r
 ·rw[if_pos ⟨WL _,h⟩,if_pos h,g]
  congr 2
  lia
 ·rw[if_neg (λz=>h z.2),if_neg h,g]
omit O in
theorem DE(q:PermR n p)(r:Nat):PermR n (kas_rev p 0 r):=(mirror_perm p 0 r _).trans q
theorem C9(q:PermR n p)(hn:1<=n)(M:∀m N,1<=m->m<=n->PermR n N->dR lt N m->G (m,N) s):(kas_count n p).kasWp (eJ n lt) G s:=by
 unfold kas_count;rw[KasT.kasWp_bind];refine wZ O q (n-1) 1 (VH _) (by lia) (λi hi=>absurd hi (by lia)) λr h1 h2 h3 h4=>?_
 by_cases e:r=n
 ·have:(r == n)=true:=by simp[e]
  rw[if_pos this];exact M r p h1 (by lia) q (g5 O q (by lia) h3)
 ·have:¬ (r == n)=true:=by simp[e]
  rw[if_neg this];have hs:=g5 O q (r:=r) (by lia) h3;by_cases Y:r>1
  ·rw[if_pos Y]
   show eJ n lt _ _ _ s;refine⟨q.lt (by lia),q.lt (by lia),q.ne (by lia) (by lia) (by lia),?_⟩;rw[hs 0 (r-1) (by lia) (by lia)];exact M r p h1 (by lia) q hs
  ·rw[if_neg Y]
   have r1:r=1:=by lia
   subst r1;unfold kas_descPart;rw[KasT.kasWp_bind];have U:=h4 (by lia);refine zI O q (n-(1+1)) (1+1) (by lia) (by lia) (λi hi=>?_) λB h6 h7 h8=>?_
   ·have:i=0:=by lia
    subst this;exact U
   ·show(kas_tail3 B n p).kasWp (eJ n lt) G s
    unfold kas_tail3;rw[KasT.kasWp_bind];have J:B<=n:=by lia
    have F:PermR n (kas_rev p 0 B):=DE q B;refine wZ O F (n-B) B (by lia) (by lia) (λi hi=>?_) λm h9 ae W _=>?_
    ·rw[EK O q J,EK O q J,if_pos (by lia),if_pos hi]
     have:=h8 (B-1-(i+1)) (by lia);have e2:B-1-(i+1)+1=B-1-i:=by lia
     rw[e2]at this;exact this
    ·exact M m _ (by lia) (by lia) F (g5 O F (by lia) W)
theorem m5(q:PermR n p)(M:k<n)(hs:dR lt p k):∀(f l r:Nat),l<=r->r<=k->r-l<=f->(∀i,i<l->lt (p.getD i 0) (p.getD k 0)=true)->(∀i,r<=i->i<k->lt (p.getD k 0) (p.getD i 0)=true)->
  (∀l,l<=k->(∀i,i<l->lt (p.getD i 0) (p.getD k 0)=true)->(∀i,l<=i->i<k->lt (p.getD k 0) (p.getD i 0)=true)->G l s)->(kas_place p k f l r).kasWp (eJ n lt) G s
 | 0,l,r,h1,h2,h3,h4,h5,hG=>by
  have:l=r:=by lia
  subst this;exact hG l h2 h4 h5
 | f+1,l,r,h1,h2,h3,h4,h5,hG=>by
  unfold kas_place;by_cases e:l ≥ r
  ·rw[if_pos e]
   have:l=r:=by lia
   subst this;exact hG l h2 h4 h5
  ·rw[if_neg e]
   show eJ n lt _ _ _ s;refine⟨q.lt (by lia),q.lt (by lia),q.ne (by lia) (by lia) (by lia),?_⟩;have N:(l+r)/2<k:=by lia
   have F:l<=(l+r)/2:=by lia
   have U:(l+r)/2<r:=by lia
   generalize (l+r)/2=mid at *;cases hc:lt (p.getD k 0) (p.getD mid 0)with
   | true=>
    show(kas_place p k f l mid).kasWp (eJ n lt) G s;refine m5 q M hs f l mid F (by lia) (by lia) h4 (λi hi J=>?_) hG;by_cases z:i=mid
    ·rw[z];exact hc
    ·exact O.tr _ _ _ (q.lt (by lia)) (q.lt (by lia)) (q.lt (by lia)) hc (hs mid i (by lia) J)
   | false=>
    show(kas_place p k f (mid+1) r).kasWp (eJ n lt) G s;have B:=OP O q (by lia) (by lia) (by lia) hc;refine m5 q M hs f (mid+1) r (by lia) h2 (by lia) (λi hi=>?_) h5 hG;by_cases z:i=mid
    ·rw[z];exact B
    ·exact O.tr _ _ _ (q.lt (by lia)) (q.lt (by lia)) (q.lt (by lia)) (hs i mid (by lia) N) B
theorem FE(F:PermR n p)(G:k<n)(J:l<=k)(j:Nat):(bubble p k (k-l)).getD j 0=if j=l then p.getD k 0 else if l<j/\j<=k then p.getD (j-1) 0 else p.getD j 0:=by
 have hs:=F.size;have e:=getElem?_bubble (xs:=p) (src:=k) (by lia) (k-l) (by lia) j;have g:∀(q:Array Nat) (k:Nat),q.getD k 0=(q[k]?).getD 0:=λq k=>by
  by_cases h:k<q.size <;> simp[ZI,h]
 have B:k-(k-l)=l:=by lia
 rw[B]at e;rw[g,e];by_cases h:j=l
 ·rw[if_pos h,if_pos h,g]
 ·rw[if_neg h,if_neg h]
  by_cases h2:l<j/\j<=k
  ·rw[if_pos h2,if_pos h2,g]
  ·rw[if_neg h2,if_neg h2,g]
theorem EN(J:∀p,PermR n p->dR lt p n->G p s):∀(f:Nat) (p:Array Nat) (k:Nat),k+f=n->PermR n p->dR lt p k->(kas_bin f p k).kasWp (eJ n lt) G s
 | 0,p,k,h1,hp,hs=>by
  have:k=n:=by lia
  subst this;exact J p hp hs
 | f+1,p,k,h1,hp,hs=>by
  unfold kas_bin;rw[KasT.kasWp_bind];have B:k<n:=by lia
  refine m5 O hp B hs k 0 k (WL _) (VH _) (by lia) (λi hi=>absurd hi (by lia)) (λi h2 h3=>absurd h3 (by lia)) λl M h4 Y=>?_
  refine EN J f _ (k+1) (by lia) ((bubble_perm p k _).trans hp) λi j q hj=>?_
  rw[FE O hp B M,FE O hp B M];by_cases F:i=l
  ·rw[if_pos F,if_neg (by lia),if_pos (by lia)]
   exact Y (j-1) (by lia) (by lia)
  ·rw[if_neg F]
   by_cases N:j=l
   ·rw[if_pos N,if_neg (by lia)]
    exact h4 i (by lia)
   ·rw[if_neg N]
    by_cases W:l<i/\i<=k
    ·rw[if_pos W,if_pos (by lia)]
     exact hs (i-1) (j-1) (by lia) (by lia)
    ·rw[if_neg W]
     by_cases U:l<j/\j<=k
     ·rw[if_pos U]
      by_cases c:i=j-1
      ·lia
      ·exact hs i (j-1) (by lia) (by lia)
     ·rw[if_neg U]
      exact hs i j q (by lia)
theorem GU(J:1<=n)(B:∀p,PermR n p->dR lt p n->G p s):(kas_sort n).kasWp (eJ n lt) G s:=by
 unfold kas_sort;rw[KasT.kasWp_bind];refine C9 O (Array.Perm.refl _) J λm q h1 h2 F hs=>?_
 show(if m<n then kas_bin (n-max m 1) q (max m 1)else KasT.ret q).kasWp (eJ n lt) G s;have e:max m 1=m:=by lia
 rw[e];by_cases h:m<n
 ·rw[if_pos h]
  exact EN O B (n-m) q m (by lia) F hs
 ·rw[if_neg h]
  have:m=n:=by lia
  subst this;exact B q F hs
end
theorem yM{B:Type}{n:Nat}{lt:Nat->Nat->Bool}{c:Nat->Nat->(Bool->U5->Prop)->U5->Prop}(q:∀i j C,i<n->j<n->i≠j->C (lt i j) s->c i j C s){Q:B->U5->Prop}:∀(t:KasT B),t.kasWp (eJ n lt) Q s->t.kasWp c Q s
 | .ret a,h=>h
 | .ask i j k,h=>by
  obtain⟨h1,h2,F,G⟩:=(show i<n/\j<n/\i≠j/\(k (lt i j)).kasWp (eJ n lt) Q s from h);exact q i j _ h1 h2 F (yM q (k (lt i j)) G)
end My
namespace My
open PySem PySem.Spec PyProof.Rows PySem.W
section
variable {prog:VB}{w:World}{A:VJ}{E:Value->U5->Prop}{s:U5}{it d:Addr}{i ep:Nat}{od:Obj}{es:Array XO}
def RawD(h:Heap)(d:Addr)(es:Array XO)(ep:Nat):Prop:=∃o,h.get? d=some o/\o.ExactDict/\o.data=.dict es ep
theorem RawD.at'(x:RawD h d es ep)(k:∀o,h.get? d=some o->h'.get? d=some o):RawD h' d es ep:=let ⟨o,a,b⟩:=x;⟨o,k o a,b⟩
theorem RawD.typ(x:RawD s.heap d es ep):s.TypeIs (.ref d) "dict" := let ⟨o,a,b,_⟩:=x;⟨o,a,b.1⟩
theorem C8(hd:(d == W2)=false)(B:RawD s.heap d es ep)
  (M:Q (.ref s.heap.objs.size) {s with heap:=s.heap.push {cls:=.type "dict_keyiterator",data:=.fields #[.ref d,.int 0 0,.int es.size 0,.int ep 0]} }):wpAny (model prog w) A (pyIter (.ref d)) Q E s:=by
 have q:=B.typ;obtain⟨o,G,N,J⟩:=B;refine wpAny_pyIter_slot q PySem.F.slot_dict_iter (XD PySem.F.slot_dict_iter q PySem.F.entry_dict_iter ?_ (PySem.F.args_dict_iter_1 _));unfold XS.«dict.__iter__»;refine U4 ?_;unfold Builtin.Dict.dictSlotNone;refine U4 (zbg q ?_);show wpAny _ _ (pure (VF d)) _ _ s;refine U7 ?_;show wpAny _ _ (zaB d >>= _) _ _ s;unfold zaB;rw[if_neg (by rw[hd];exact VL)];refine U4 (U7 (U4 (ZJ G J (U4 (ZK G J ?_)))));refine U4 (WW (U7 ⟨_,rfl, "dict_keyiterator",_,⟨_,VW _ rfl,rfl⟩,PySem.F.slot_dict_keyiterator_next.lookup,?_⟩));simpa[WF]using M
theorem CN(B:s.heap.IsKeyIter it d i es.size ep)(U:RawD s.heap d es ep)(M:i<es.size)
  (W:∀h',h'.IsKeyIter it d (i+1) es.size ep->V8 it s.heap h'->Q (some es[i].key) {s with heap:=h'}):wpAny (model prog w) A (WC (.ref it)) Q E s:=by
 have q:=B.typeIs;obtain⟨o,F,N,hd⟩:=id B;obtain⟨od,G,Y,J⟩:=U;unfold WC;refine U4 (ZL (X5 (name:=XC "__next__") q zaC (XD zaC q zbw ?_ (zbx _))));refine U4 (U7 (U4 (U4 ?_)))
 first|refine U4 (zaD q (U7 ?_))|refine U4 (zaE q (U7 ?_))
 refine U4 (zaF F hd ?_);simp only[show Z3 "dict_keyiterator" = false by decide,YE,if_false];show wpAny _ _ (if(VF d == V4)=true then _ else _) _ _ s;rw[if_neg (show ¬ ((VF d == V4)=true)from VL)];refine U4 (U7 (U4 (ZJ G J ?_)));rw[if_neg (by simp)];refine U4 (U7 (U4 (ZK G J ?_)));rw[if_neg (by simp)];refine U7 ?_;simp only[show ¬ ((i:Int)<0)from by lia,if_false,W1,zbh M];refine U4 ?_;first|refine U4 (zaD q (U7 ?_))|refine U4 (zaE q (U7 ?_))
 refine U4 (wpAny_isOneOf_keyiter q ?_);show wpAny _ _ (ZM (.ref it) 1 (WF ((i:Int)+1)) >>= _) _ _ s;refine U4 (Z4 F hd (by simp) ?_);have nx:(s.heap.update it (Obj.mapFields (·.setIfInBounds 1 (WF ((i:Int)+1))))).IsKeyIter it d (i+1) es.size ep:=⟨_,YO _ F (Obj.isFreed_of_fields (zaG hd _)),(Obj.cls_mapFields ..).trans N,by rw[zaG hd];simp[WF]⟩;refine U4 (W3 (U4 (wpAny_isOneOf_keyiter (s:={s with heap:=s.heap.update it (Obj.mapFields (·.setIfInBounds 1 (WF ((i:Int)+1))))}) nx.typeIs ?_)));show wpAny _ _ (pure es[i].key) _ _ _;exact U7 (U7 ⟨_,rfl,U7 (W _ nx (Y3 ..))⟩)
theorem G5(N:A.handled=none)(B:s.heap.IsKeyIter it d i es.size ep)(U:RawD s.heap d es ep)(M:es.size<=i)
  (W:∀h',Z5 it s.heap h'->Q none {s with heap:=h'}):wpAny (model prog w) A (WC (.ref it)) Q E s:=by
 have q:=B.typeIs;obtain⟨o,F,Y,hd⟩:=id B;obtain⟨od,G,g2,J⟩:=U;unfold WC;refine U4 (ZL (X5 (name:=XC "__next__") q zaC (XD zaC q zbw ?_ (zbx _))));refine U4 (U7 (U4 (U4 ?_)))
 first|refine U4 (zaD q (U7 ?_))|refine U4 (zaE q (U7 ?_))
 refine U4 (zaF F hd ?_);simp only[show Z3 "dict_keyiterator" = false by decide,YE,if_false];show wpAny _ _ (if(VF d == V4)=true then _ else _) _ _ s;rw[if_neg (show ¬ ((VF d == V4)=true)from VL)];refine U4 (U7 (U4 (ZJ G J ?_)));rw[if_neg (by simp)];refine U4 (U7 (U4 (ZK G J ?_)));rw[if_neg (by simp)];refine U7 ?_;simp only[show ¬ ((i:Int)<0)from by lia,if_false,W1,Array.getElem?_eq_none M];refine U4 ?_;first|refine U4 (zaD q (U7 ?_))|refine U4 (zaE q (U7 ?_))
 show wpAny _ _ (ZM (.ref it) 0 .none >>= _) _ _ s;refine U4 (Z4 F hd (by simp) ?_);show wpAny _ _ (newExc (.type "StopIteration") [] >>= _) _ _ _;refine U4 ?_;simp only[newExc,newTuple];refine U4 (WW ?_ (by size_fits));refine U4 (m:=ZN _ _) (zaH (a:=V4) (by first|rfl|(simp only[ZN];rfl)) ?_)
 refine WW ?_ (by size_fits);simp only[raiseNew];refine U4 (wpAny_handled ?_);rw[show A.in1.handled=none from N];refine U4 (U7 (wpAny_throw ?_));refine U4 (zbi (T := "StopIteration") (b:=true) ⟨_,VW _ rfl,rfl⟩ isSubtype_stop ?_);exact U7 (W _ (((Y3 ..).extBut.push _).push _))
def zZ(h:Heap)(it d:Addr)(i n ep:Nat)(q fl:Value)(ok B:Value):Prop:=
 h.get? it=some {cls:=.type "dict_itemiterator",dict:=none,data:=.fields #[q,fl,.ref d,.int i 0,.int n 0,.int ep 0,ok,B],slots:=#[]}
def ItSt(h:Heap)(it d S:Addr)(i n ep:Nat):Prop:=
 (i=0/\∃ok q,zZ h it d i n ep .none (.bool false) ok q)\/∃ok q a f B,zZ h it d i n ep (WF (a:Nat)) (.bool f) ok q/\h.get? a=some B/\a≠it/\a≠S
theorem pU(B:zZ s.heap it d i es.size ep own fl ok ov)(Y:RawD s.heap d es ep)(U:i<es.size)
  (hQ:∀h1:Heap, zZ h1 it d (i+1) es.size ep own fl ok ov -> V8 it s.heap h1 ->
   wpAny (model prog w) A.in1 (zaI (.ref it) 6 es[i].key es[i].val) (λv s'=>Q (some v) s') (λ_ _=>False) {s with heap:=h1}):wpAny (model prog w) A (WC (.ref it)) Q E s:=by
 obtain⟨od,J,g2,M⟩:=Y;have F:s.TypeIs (.ref it) "dict_itemiterator" := ⟨_,B,rfl⟩;unfold WC;refine U4 (ZL (X5 (name:=XC "__next__") F zaJ (XD zaJ F zby ?_ (zbz _))));refine U4 (U7 (U4 (U4 ?_)))
 first|refine U4 (zaK F (U7 ?_))|refine U4 (zaL F (U7 ?_))
 refine U4 (zaF B rfl ?_);simp only[show Z3 "dict_itemiterator" = true by decide,if_true];show wpAny _ _ (if(VF d == V4)=true then _ else _) _ _ s;rw[if_neg (show ¬ ((VF d == V4)=true)from VL)];refine U4 (U7 (U4 (ZJ J M ?_)));rw[if_neg (by simp)];refine U4 (U7 (U4 (ZK J M ?_)));rw[if_neg (by simp)];refine U7 ?_;simp only[show ¬ ((i:Int)<0)from by lia,if_false,W1,zbh U];refine U4 ?_;first|refine U4 (zaK F (U7 ?_))|refine U4 (zaL F (U7 ?_))
 refine U4 (zbj F ?_);show wpAny _ _ (ZM (.ref it) 3 (WF ((i:Int)+1)) >>= _) _ _ s;refine U4 (XT B (by simp) λh1 W k2=>?_);have N:zZ h1 it d (i+1) es.size ep own fl ok ov:=by
  have e:((i+1:Nat):Int)=(i:Int)+1:=by lia
  unfold zZ;rw[e];simpa[WF]using W
 have G:Shared.TypeIs {s with heap:=h1} (.ref it) "dict_itemiterator" := ⟨_,N,rfl⟩;refine U4 (W3 (U4 (zbj G ?_)));refine U4 (zbj G ?_);show wpAny _ _ (zaI (.ref it) 6 es[i].key es[i].val) _ _ {s with heap:=h1};exact WR (hQ h1 N k2) (λv s' q=>U7 ⟨_,rfl,U7 q⟩) λ_ _ z=>z.elim
theorem BN(af:ItSt s.heap it d S i es.size ep)(hS:S<s.heap.objs.size)(hm:RawD s.heap d es ep)(hx:i<es.size)
  (hQ:∀h', ItSt h' it d S (i+1) es.size ep -> h'.get? s.heap.objs.size = some {cls := .type "tuple", data := .seq #[es[i].key, es[i].val]} -> h'.objs.size = s.heap.objs.size+1 ->
   (∀b o,b≠it->s.heap.get? b=some o->h'.get? b=some o)->Q (some (.ref s.heap.objs.size)) {s with heap:=h'}):wpAny (model prog w) A (WC (.ref it)) Q E s:=by
 have J:it<s.heap.objs.size:=by
  rcases af with⟨_,ok,U,B⟩|⟨ok,U,a,f,oa,B,_⟩ <;> exact VE B
 rcases af with⟨_,ok,U,B⟩|⟨ok,U,a,f,oa,B,ha,N,ao⟩
 ·refine pU B hm hx λh1 k1 k2=>?_
  have W:h1.objs.size=s.heap.objs.size:=k2.1;unfold zaI;refine U4 (zaM ?_);have M:zZ (h1.push {cls:=.type "tuple",data:=.seq #[es[i].key,es[i].val]}) it d (i+1) es.size ep .none (.bool false) ok U:=VI _ k1;have m2:(h1.push {cls:=.type "tuple",data:=.seq #[es[i].key,es[i].val]}).get? s.heap.objs.size=some {cls:=.type "tuple",data:=.seq #[es[i].key,es[i].val]}:=by rw[<- W];exact VW _ rfl
  have m3:(h1.push {cls:=.type "tuple",data:=.seq #[es[i].key,es[i].val]}).objs.size=s.heap.objs.size+1:=by rw[Z6,W]
  have m4:∀b o,b≠it->s.heap.get? b=some o->(h1.push {cls:=.type "tuple",data:=.seq #[es[i].key,es[i].val]}).get? b=some o:=λb o q e=>VI _ (k2.extBut b o q e)
  show wpAny _ _ (zaN (.ref it) >>= _) _ _ {s with heap:=h1.push {cls:=.type "tuple",data:=.seq #[es[i].key,es[i].val]} };dsimp only;rw[W];generalize h1.push {cls:=.type "tuple",data:=.seq #[es[i].key,es[i].val]}=h2 at *;refine U4 ?_;unfold zaN;refine U4 (WP M rfl (x:=.none) rfl (U7 ?_));simp only[if_true];refine U4 (WP M rfl (x:=ok) rfl (U4 (WP M rfl (x:=U) rfl ?_)));refine U4 (XT M (by simp) λF e3 G=>?_);have aj:zZ F it d (i+1) es.size ep .none (.bool false) es[i].key U:=e3;refine U4 (XT aj (by simp) λh4 e4 s4=>?_);have an:zZ h4 it d (i+1) es.size ep .none (.bool false) es[i].key es[i].val:=e4;refine U4 (XT an (by simp) λh5 e5 s5=>?_);have al:zZ h5 it d (i+1) es.size ep (WF (s.heap.objs.size:Nat)) (.bool false) es[i].key es[i].val:=e5;refine U4 (XT al (by simp) λY e6 s6=>?_);have am:zZ Y it d (i+1) es.size ep (WF (s.heap.objs.size:Nat)) (.bool false) es[i].key es[i].val:=e6;have ex:∀b o,b≠it->h2.get? b=some o->Y.get? b=some o:=λb o q e=>(show V8 it h5 Y from s6).extBut b o q ((show V8 it h4 h5 from s5).extBut b o q ((show V8 it F h4 from s4).extBut b o q ((show V8 it h2 F from G).extBut b o q e)))
  have sz:Y.objs.size=s.heap.objs.size+1:=by
   rw[(show V8 it h5 Y from s6).1,(show V8 it h4 h5 from s5).1,(show V8 it F h4 from s4).1,(show V8 it h2 F from G).1,m3]
  exact U4 (ZO (U7 (hQ Y (.inr ⟨_,_,_,false,_,am,ex _ _ (WB J) m2,WB J,WB hS⟩) (ex _ _ (WB J) m2) sz λb o q e=>ex b o q (m4 b o q e))))
 ·refine pU B hm hx λh1 k1 k2=>?_
  have W:h1.objs.size=s.heap.objs.size:=k2.1;unfold zaI;refine U4 (zaM ?_);have M:zZ (h1.push {cls:=.type "tuple",data:=.seq #[es[i].key,es[i].val]}) it d (i+1) es.size ep (WF (a:Nat)) (.bool f) ok U:=VI _ k1;have m2:(h1.push {cls:=.type "tuple",data:=.seq #[es[i].key,es[i].val]}).get? s.heap.objs.size=some {cls:=.type "tuple",data:=.seq #[es[i].key,es[i].val]}:=by rw[<- W];exact VW _ rfl
  have m3:(h1.push {cls:=.type "tuple",data:=.seq #[es[i].key,es[i].val]}).objs.size=s.heap.objs.size+1:=by rw[Z6,W]
  have m4:∀b o,b≠it->s.heap.get? b=some o->(h1.push {cls:=.type "tuple",data:=.seq #[es[i].key,es[i].val]}).get? b=some o:=λb o q e=>VI _ (k2.extBut b o q e)
  show wpAny _ _ (zaN (.ref it) >>= _) _ _ {s with heap:=h1.push {cls:=.type "tuple",data:=.seq #[es[i].key,es[i].val]} };dsimp only;rw[W];generalize h1.push {cls:=.type "tuple",data:=.seq #[es[i].key,es[i].val]}=h2 at *;refine U4 ?_;unfold zaN;refine U4 (WP M rfl (x:=WF (a:Nat)) rfl ?_);show wpAny _ _ (loadIfAlive ((a:Int).toNat) >>= _) _ _ _;rw[W1];refine U4 (kdx_alive (m4 a oa N ha) ?_);simp only[Option.isNone_some,YE,if_false];refine U4 (WP M rfl (x:=.bool f) rfl ?_);have fin:∀F:Heap,zZ F it d (i+1) es.size ep (WF (a:Nat)) (.bool true) ok U->V8 it h2 F->Q (some (.ref s.heap.objs.size)) {s with heap:=F}:=λF e3 G=>
   hQ F (.inr ⟨_,_,a,true,oa,e3,G.extBut a oa N (m4 a oa N ha),N,ao⟩) (G.extBut _ _ (WB J) m2) (by rw[G.1,m3]) λb o q e=>G.extBut b o q (m4 b o q e)
  cases f with
  | true=>
   rw[if_neg (show ¬ ((YH true != YH true)=true)from VL)];refine U7 ?_;simp only[YE,if_false];exact U7 (fin h2 M (Heap.SameBut.refl _ _))
  | false=>
   rw[if_pos (show(YH false != YH true)=true from rfl)];refine U4 (XT M (by simp) λF e3 G=>?_);refine U7 ?_;simp only[YE,if_false];exact U7 (fin F e3 G)
theorem tZ(M:A.handled=none)(q:zZ s.heap it d i es.size ep own fl ok ov)(N:RawD s.heap d es ep)(J:es.size<=i)
  (U:∀h',Z5 it s.heap h'->Q none {s with heap:=h'}):wpAny (model prog w) A (WC (.ref it)) Q E s:=by
 obtain⟨od,F,W,G⟩:=N;have B:s.TypeIs (.ref it) "dict_itemiterator" := ⟨_,q,rfl⟩;unfold WC;refine U4 (ZL (X5 (name:=XC "__next__") B zaJ (XD zaJ B zby ?_ (zbz _))));refine U4 (U7 (U4 (U4 ?_)))
 first|refine U4 (zaK B (U7 ?_))|refine U4 (zaL B (U7 ?_))
 refine U4 (zaF q rfl ?_);simp only[show Z3 "dict_itemiterator" = true by decide,if_true];show wpAny _ _ (if(VF d == V4)=true then _ else _) _ _ s;rw[if_neg (show ¬ ((VF d == V4)=true)from VL)];refine U4 (U7 (U4 (ZJ F G ?_)));rw[if_neg (by simp)];refine U4 (U7 (U4 (ZK F G ?_)));rw[if_neg (by simp)];refine U7 ?_;simp only[show ¬ ((i:Int)<0)from by lia,if_false,W1,Array.getElem?_eq_none J];refine U4 ?_;first|refine U4 (zaK B (U7 ?_))|refine U4 (zaL B (U7 ?_))
 show wpAny _ _ (ZM (.ref it) 2 .none >>= _) _ _ s;refine U4 (Z4 q rfl (by simp) ?_);show wpAny _ _ (newExc (.type "StopIteration") [] >>= _) _ _ _;refine U4 ?_;simp only[newExc,newTuple];refine U4 (WW ?_ (by size_fits));refine U4 (m:=ZN _ _) (zaH (a:=V4) (by first|rfl|(simp only[ZN];rfl)) ?_)
 refine WW ?_ (by size_fits);simp only[raiseNew];refine U4 (wpAny_handled ?_);rw[show A.in1.handled=none from M];refine U4 (U7 (wpAny_throw ?_));refine U4 (zbi (T := "StopIteration") (b:=true) ⟨_,VW _ rfl,rfl⟩ isSubtype_stop ?_);exact U7 (U _ (((Y3 ..).extBut.push _).push _))
theorem ItSt.keep(x:ItSt h it d S i n ep)(G:∀b o,b≠S->h.get? b=some o->h'.get? b=some o)(M:it≠S):ItSt h' it d S i n ep:=by
 rcases x with⟨e,ok,F,q⟩|⟨ok,F,a,f,N,q,U,J,B⟩
 ·exact .inl ⟨e,ok,F,G _ _ M q⟩
 ·exact .inr ⟨ok,F,a,f,N,G _ _ M q,G _ _ B U,J,B⟩
structure Made(es:Array XO)(lo:Addr)(h:Heap)(as:List Addr):Prop where
 above:∀a∈as,lo<a
 pair:∀(j:Nat) (a:Addr),as[j]?=some a->∃e,es[j]?=some e/\h.get? a=some {cls:=.type "tuple",data:=.seq #[e.key,e.val]}
end
section
variable {prog:VB}{w:World}{A:VJ}{s:U5}{R:Result->U5->Prop}{es:Array XO}{ep:Nat}
theorem BJ{S I d:Addr}(hh:A.handled=none)(al:S<I)(ao:d≠S)(aq:d≠I)(hn:es.size<=VC)(res:Value){h0:Heap}
  (hR:∀h' tk q c as,(∀b o,b≠S->b≠I->h0.get? b=some o->h'.get? b=some o)->h'.get? S=some {cls:=.type "list",dict:=none,data:=.seq q c,slots:=#[]}->as.length=es.size->Made es I h' as->q.toList=as.map VF->R (.ok (.ret res)) {s with heap:=h',toks:=tk}) :
  ∀(k i:Nat) (h:Heap) (tk c:Nat) (q:Array Value) (as:List Addr),es.size-i=k->i<=es.size->ItSt h I d S i es.size ep->RawD h d es ep->(∀b o,b≠S->b≠I->h0.get? b=some o->h.get? b=some o)->
   h.get? S=some {cls:=.type "list",dict:=none,data:=.seq q c,slots:=#[]}->q.toList=as.map VF->as.length=i->Made es I h as->I<h.objs.size->
   XI (model prog w) A (.builtin "list.extend.loop" ⟨[.ref S,.ref I,res],[]⟩) R {s with heap:=h,toks:=tk}:=by
 have aa:S≠I:=VT al;intro k;induction k with
 | zero=>
  intro i h tk c q as hk hi ad hD B hS G ab N ac;have aj:es.size<=i:=by lia
  refine YR PySem.F.entry_extend_loop ?_;rw[YS Z7 _];show wpAny _ A.in1 (WC (.ref I) >>= _) _ _ _;have fin:∀h',Z5 I h h'->R (.ok (.ret res)) {s with heap:=h',toks:=tk}:=λh' U=>by
   refine hR h' tk q c as (λb o h1 h2 e=>U b o h2 (B b o h1 h2 e)) (U S _ aa hS) (by lia) ⟨N.above,λj a M=>?_⟩ G;obtain⟨e,e1,e2⟩:=N.pair j a M;exact⟨e,e1,U a _ (WB (N.above a (WS M))) e2⟩
  rcases ad with⟨_,ok,ov,Y⟩|⟨ok,ov,a,f,oa,Y,_⟩
  ·exact U4 (tZ (s:={s with heap:=h,toks:=tk}) (A:=A.in1) hh Y hD aj λh' U=>U7 (fin h' U))
  ·exact U4 (tZ (s:={s with heap:=h,toks:=tk}) (A:=A.in1) hh Y hD aj λh' U=>U7 (fin h' U))
 | succ k ih=>
  intro i h tk c q as hk hi ad hD B hS G ab N ac;have W:i<es.size:=by lia
  have hsz:q.size=i:=by rw[<- W9,G,VD,ab]
  refine YR PySem.F.entry_extend_loop ?_;rw[YS Z7 _];show wpAny _ A.in1 (WC (.ref I) >>= _) _ _ _;refine U4 (BN (s:={s with heap:=h,toks:=tk}) (S:=S) ad (VE hS) hD W λh' ai ht hz J=>?_);dsimp only at ht hz J ⊢;have ag:=J S _ aa hS;have af:S<h.objs.size:=VE hS;have up:∀b o,b≠S->h'.get? b=some o->(h'.update S (WY (·.push (VF h.objs.size)))).get? b=some o:=λb o hb e=>(X6 _ _ (VY hb)).trans e
  show wpAny _ A.in1 (Z8 S (·.push (VF h.objs.size)) >>= _) _ _ _;refine U4 (ZP ag rfl ?_ (by rw[hsz];lia) (by show(q.push (VF h.objs.size)).size<=VC+1;rw[Array.size_push,hsz];lia));refine U7 ⟨XU Z7 _,ih (i+1) _ tk _ (q.push (VF h.objs.size)) (as++[h.objs.size]) (by lia) W (ai.keep up (VY aa)) (hD.at' λo e=>up d o ao (J d o aq e)) (λb o h1 h2 e=>up b o h1 (J b o h2 (B b o h1 h2 e))) (YO _ ag rfl) (by rw[Array.toList_push,G,W6];rfl) (by rw[WN,ab];rfl) ⟨λa ha=>?_,λj b M=>?_⟩ ?_⟩
  ·rcases List.mem_append.mp ha with ha|ha
   ·exact N.above a ha
   ·rw[List.mem_singleton.mp ha];exact ac
  ·by_cases h1:j<as.length
   ·rw[Y8 h1]at M
    obtain⟨e,e1,e2⟩:=N.pair j b M;have hb:=N.above b (WS M);exact⟨e,e1,up b _ (WB (ZF al hb)) (J b _ (WB hb) e2)⟩
   ·rw[zar (by lia)]at M
    have:j-as.length=0:=by
     by_cases z:j-as.length=0
     ·exact z
     ·rw[List.getElem?_eq_none (by simp only[zaz];lia)]at M;cases M
    rw[this]at M;cases M;have e:j=i:=by lia
    subst e;exact⟨es[j],by simp[W],up _ _ (WB af) ht⟩
  ·have e:=up _ _ (WB af) ht
   exact ZF ac (VE e)
end
section
variable {prog:VB}{w:World}{A:VJ}{E:Value->U5->Prop}{s:U5}{r d:Addr}{es:Array XO}{ep:Nat}
theorem z9(q:s.heap.IsItemsView r d)(N:RawD s.heap d es ep)
  (U:Q (.ref s.heap.objs.size) {s with heap:=s.heap.push {cls:=.type "dict_itemiterator",data:=.fields #[.none,.bool false,.ref d,.int 0 0,.int es.size 0,.int ep 0,.none,.none]} }):wpAny (model prog w) A (pyIter (.ref r)) Q E s:=by
 have J:=q.typeIs;obtain⟨Y,M,v2,W⟩:=id q;obtain⟨o,B,g2,G⟩:=N;refine wpAny_pyIter_slot J zbA (XD zbA J PySem.F.entry_dict_items_iter ?_ (PySem.F.args_dict_items_iter_1 _));unfold XS.«dict_items.__iter__»;refine U4 (U7 (U4 ?_));unfold Builtin.Dict_items.dictOf;refine U4 (WP M W (x:=.ref d) rfl (U7 ?_));refine U4 ?_;unfold Builtin.Dict_items.newIterator;refine U4 (ZJ B G (U4 (ZK B G ?_)));simp only[show Z3 "dict_itemiterator" = true by decide,if_true];refine WW (U7 ⟨_,rfl, "dict_itemiterator",_,⟨_,VW _ rfl,rfl⟩,PySem.F.slot_dict_itemiterator_next.lookup,?_⟩) (by simp only[sizeOk,zbB,VN,WN,VR,W5,YL];lia);simpa[WF,zbB]using U
theorem sZ{R:Result->U5->Prop}(hh:A.handled=none)(hv:s.heap.IsItemsView r d)(hm:RawD s.heap d es ep)(S:Addr)(W:S≠r)(J:d≠S)(res:Value)(F:Nat)(hS:s.heap.get? S=some {cls:=.type "list",data:=.seq #[] F})
  (hR:∀h' tk B c as,(∀b o,b≠S->s.heap.get? b=some o->h'.get? b=some o)->h'.get? S=some {cls:=.type "list",dict:=none,data:=.seq B c,slots:=#[]}->as.length=es.size->Made es s.heap.objs.size h' as->B.toList=as.map VF->R (.ok (.ret res)) {s with heap:=h',toks:=tk}) (hn:es.size<=VC) :
  wpAny (model prog w) A.in1 (zbk (.ref S) (.ref r) res)
   (λfin s'=>match fin with | .done f=>R (.ok f) s' | .again c'=>c'.quiet=true/\XI (model prog w) A c' R s') (λe s'=>R (.error e) s') s:=by
 have U:S<s.heap.objs.size:=VE hS;have Y:d<s.heap.objs.size:=by
  obtain⟨o,e,_⟩:=hm;exact VE e
 have N:∀(h:Heap) (q tk:Nat),(∀b o,b≠S->(s.heap.push {cls:=.type "dict_itemiterator",data:=.fields #[.none,.bool false,.ref d,.int 0 0,.int es.size 0,.int ep 0,.none,.none]}).get? b=some o->h.get? b=some o)->
   h.get? S=some {cls:=.type "list",data:=.seq #[] q}->XI (model prog w) A (.builtin "list.extend.loop" ⟨[.ref S,.ref s.heap.objs.size,res],[]⟩) R {s with heap:=h,toks:=tk}:=by
  intro h q tk hk aa;have hI:=hk s.heap.objs.size _ (WB U) (VW _ rfl);exact BJ (es:=es) (ep:=ep) (s:=s) (h0:=s.heap) hh U J (VT Y) hn res (λh' af B c as ad ab hl hG M=>hR h' af B c as (λb o G e=>ad b o G (VT (VE e)) e) ab hl hG M)
   es.size 0 h tk q #[] [] (Nat.sub_zero _) (WL _) (.inl ⟨rfl,.none,.none,hI⟩) (hm.at' λo e=>hk d o J (VI _ e)) (λb o G _ e=>hk b o G (VI _ e)) aa rfl rfl ⟨(λ_ ha=>nomatch ha),(λj a hj=>by simp at hj)⟩ (VE hI)
 unfold zbk;refine U4 (YZ (T := "dict_items") hv.typeIs ?_);simp only[show Builtin.List.listSameRef (.ref S) (.ref r)=false by simp[Builtin.List.listSameRef,W],show(YI "dict_items" == YI "list")=false by decide,show(YI "dict_items" == YI "tuple")=false by decide,Bool.or_false,YE,if_false];refine U4 (z9 hv hm ?_);have p1:=VI {cls:=.type "dict_itemiterator",data:=.fields #[.none,.bool false,.ref d,.int 0 0,.int es.size 0,.int ep 0,.none,.none]} hS;refine U4 (W3 (kdx_hint (let ⟨o,ho,hc,_⟩:=hv;⟨o,VI _ ho,hc⟩) ?_));refine wpAny_ite_split (λ_=>?_) (λ_=>U7 ⟨XU Z7 _,N _ F _ (λb o _ e=>e) p1⟩);refine U4 (YW (U4 ?_));show wpAny _ _ (Z8 S (·.push .none) >>= λ_=>Z8 S (·.pop)) _ _ _;refine U4 (ZP p1 rfl ?_);have p2:=YO (WY (·.push V4)) p1 rfl;refine ZP (hz:=by seq_fits) p2 rfl ?_;have p3:=YO (WY (·.pop)) p2 rfl;exact U7 ⟨XU Z7 _,N _ _ _ (λb o G e=>(X6 _ _ (VY G)).trans ((X6 _ _ (VY G)).trans e)) p3⟩
theorem qT(hh:A.handled=none)(hv:s.heap.IsItemsView r d)(hm:RawD s.heap d es ep)(hn:es.size<=VC)
  (h:∀(h':Heap) (tk:Nat) (as:List Addr),(∀b o,s.heap.get? b=some o->h'.get? b=some o)->as.length=es.size->Made es s.heap.objs.size h' as->R (as.map VF) {s with heap:=h',toks:=tk}) :
  wpAny (model prog w) A (collect (.ref r)) R E s:=by
 have hr:r<s.heap.objs.size:=let ⟨_,ho,_⟩:=hv;VE ho;have hd:d<s.heap.objs.size:=let ⟨_,ho,_⟩:=hm;VE ho;unfold collect;refine U4 (wpAny_runValue (YR entry_proto_collect' ?_));rw[YS PySem.F.plain_proto_collect _];show wpAny _ A.in1 (newList [] >>= λl=>again (.builtin "list.__iadd__" ⟨[l,.ref r],[]⟩)) _ _ s;refine U4 (WW ?_);refine U7 ⟨XU PySem.F.plain_list_iadd _,YR entry_list_iadd' ?_⟩;rw[YS PySem.F.plain_list_iadd _];have p1:(s.heap.push {cls:=.type "list",data:=.seq ([]:List Value).toArray}).get? s.heap.objs.size=some {cls:=.type "list",data:=.seq #[]}:=VW _ rfl;show wpAny _ A.in1 (zbk (.ref s.heap.objs.size) (.ref r) (.ref s.heap.objs.size)) _ _ _;have Y:=sZ (prog:=prog) (w:=w) (A:=A) (s:={s with heap:=s.heap.push {cls:=.type "list",data:=.seq ([]:List Value).toArray} }) (es:=es) (ep:=ep)
  (R:=λ(q:Result) (s':U5) => ∃(h':Heap) (tk:Nat) (B:Array Value) (W:Nat) (as:List Addr), q = .ok (.ret (.ref s.heap.objs.size)) /\ s' = {s with heap:=h', toks:=tk} /\
   (∀b o,s.heap.get? b=some o->h'.get? b=some o)/\h'.get? s.heap.objs.size=some {cls:=.type "list",dict:=none,data:=.seq B W,slots:=#[]}/\as.length=es.size/\Made es s.heap.objs.size h' as/\B.toList=as.map VF)
  hh (let ⟨o,ho,x⟩:=hv;⟨o,VI _ ho,x⟩) (hm.at' λo e=>VI _ e) s.heap.objs.size (WB hr) (VT hd) (.ref s.heap.objs.size) 0 p1
  (λh' tk B W as U J N M G=>⟨h',tk,B,W,as,rfl,rfl,λb o e=>U b o (VT (VE e)) (VI _ e),J,N,⟨λa ha=>ZZ (by show s.heap.objs.size<=(s.heap.push _).objs.size;rw[Z6];exact Nat.le_succ _) (M.above a ha),M.pair⟩,G⟩) hn
 refine WR Y (λfin s' x=>?_) λe s' x=>?_
 ·cases fin with
  | done f=>
   obtain⟨h',tk,B,W,as,e,rfl,U,J,N,M,G⟩:=x;cases e;show wpAny _ A (load s.heap.objs.size >>= _) _ _ _;refine U4 (wpAny_load J (U7 ?_));rw[G];exact h h' tk as U N M
  | again c₁=>
   refine⟨x.1,zap x.2 λq aa y=>?_⟩;obtain⟨h',tk,B,W,as,e,rfl,U,J,N,M,G⟩:=y;cases e;show wpAny _ A (load s.heap.objs.size >>= _) _ _ _;refine U4 (wpAny_load J (U7 ?_));rw[G];exact h h' tk as U N M
 ·obtain⟨_,_,_,_,_,z,_⟩:=x
  cases z
end
section
variable {prog:VB}{w:World}{A:VJ}{E:Value->U5->Prop}{s:U5}{a L:Addr}{vs:List Value}{m:Str->Option Value}
theorem B9(O:Ord vs.length lt)(G:s.heap.Ns L m)(Y:s.heap.get? a=some (WE "list" vs.toArray n))(M:a≠L)(ab:vs.length<64)
  (ad:2 <= vs.length -> ∀h':Heap, (∀b o, b≠a -> b≠L -> s.heap.get? b = some o -> h'.get? b = some o) -> ∃κ, (∀Q':SortKind -> U5 -> Prop, Q' κ {s with heap:=h'} -> wpAny (model prog w) A (keyKind' vs.toArray) Q' (λ_ _ => False) {s with heap:=h'}) /\
   ∀i j C,i<vs.length->j<vs.length->i≠j->C (lt i j) {s with heap:=h'}->kas_ask prog w A κ vs i j C {s with heap:=h'})
  (hP:∀(p:Array Nat) (h':Heap) (c:Nat), PermR vs.length p -> dR lt p vs.length -> h'.get? a = some (WE "list" (Z2 (p.toList.map λi => vs.getD i V4)) c) ->
   (∀b o,b≠a->b≠L->s.heap.get? b=some o->h'.get? b=some o)->h'.Ns L m->P (.done (.ret .none)) {s with heap:=h'}) :
  wpAny (model prog w) A (XS.«list.sort» ⟨[.ref a],[]⟩) P E s:=by
 by_cases h2:2<=vs.length
 ·have N:News (Att.sJ s.heap) L s.heap (Att.ledger s.heap L a):=λ⟨b,o⟩ B=>⟨(Att.cQ.mp B).2.2,(Att.cQ.mp B).1,Att.gX _ _⟩
  refine kat_list_sort (Att.M5 G) N Y M (Att.gX _ _) (λ⟨b,o⟩ B=>(Att.cQ.mp B).2.1) h2 ab λW h' F' N'=>?_
  have keep:∀b o,b≠a->b≠L->s.heap.get? b=some o->h'.get? b=some o:=λb o q hL e=>(N' (b,o) (V1 _ (Att.cQ.mpr ⟨hL,q,e⟩))).1
  obtain⟨κ,k1,k2⟩:=ad h2 h' keep;refine k1 _ (yM k2 _ (GU O (by lia) λp B hs=>?_));refine KasFin.intro F' N' (.head λ⟨b,o⟩ q=>(Att.cQ.mp q).2.1) λaf c ac J=>?_
  exact hP p af c B hs (J _ (V2 ..)).1 (λb o q hL e=>(J (b,o) (V1 _ (Att.cQ.mpr ⟨hL,q,e⟩))).1) ac.ns
 ·have F:vs.toArray.size<2:=by rw[VN];lia
  rw[list_sort_plain];obtain⟨W,U⟩:∃W,(s.heap.update a (WY λ_=>(#[]:Array Value))).get? a=some (WE "list" #[] W):=⟨_,get?_update_seq Y λ_=>#[]⟩;refine U4 (listItems_at Y rfl (U4 (listUpdate_at Y rfl ?_ (by rw[VN,YL];lia) (WL _))));refine U4 (seqEpoch_at U rfl (U4 (zaM ?_ (by show vs.length<=_;rw[YL];lia))));refine U4 (wpAny_newList ?_ (WL _));refine W3 ?_;show wpAny (model prog w) A _ P E {s with heap:=((s.heap.update a (WY λ_=>(#[]:Array Value))).push (WE "tuple" vs.toArray 0)).push (WE "list" #[] 0)};dsimp only;rw[if_pos F,if_pos F];have g1:(((s.heap.update a (WY λ_=>(#[]:Array Value))).push (WE "tuple" vs.toArray 0)).push (WE "list" #[] 0)).get? a=some (WE "list" #[] W):=VI _ (VI _ U);refine U4 (U7 ?_);rw[StateT.run_pure];refine U4 (U7 ?_);dsimp only;refine U4 (seqEpoch_at g1 rfl (U4 (listUpdate_at g1 rfl ?_ (WL _) ?_)))
  ·simp only[bne_self_eq_false,YE,if_false]
   have s1:=Y3 s.heap a (WY λ_=>(#[]:Array Value));have s2:=Y3 (((s.heap.update a (WY λ_=>(#[]:Array Value))).push (WE "tuple" vs.toArray 0)).push (WE "list" #[] 0)) a (WY λ_=>(arrOf (SortSt.mk' general' (vs.toArray.zip vs.toArray) #[] 7 none)).map (·.2));have keep:∀b o,b≠a->s.heap.get? b=some o->_:=λb o q e=>s2.extBut b o q (VI (WE "list" #[] 0) (VI (WE "tuple" vs.toArray 0) (s1.extBut b o q e)))
   have eo:(arrOf (SortSt.mk' general' (vs.toArray.zip vs.toArray) #[] 7 none)).map (·.2)=Z2 ((Z2 (VO vs.length)).toList.map λi=>vs.getD i V4):=by
    show((vs.toArray.zip vs.toArray).map (·.2))=_;apply Array.toList_inj.mp;rw[Array.toList_map,Array.toList_zip];show(vs.zip vs).map (·.2)=(VO vs.length).map λi=>vs.getD i V4
    apply Z1
    ·simp
    ·intro i h5 h6
     have:i<vs.length:=by simpa using h6
     simp[this]
   obtain⟨c,hc⟩:∃c,((((s.heap.update a (WY λ_=>(#[]:Array Value))).push (WE "tuple" vs.toArray 0)).push (WE "list" #[] 0)).update a (WY λ_=>(arrOf (SortSt.mk' general' (vs.toArray.zip vs.toArray) #[] 7 none)).map (·.2))).get? a=some (WE "list" ((arrOf (SortSt.mk' general' (vs.toArray.zip vs.toArray) #[] 7 none)).map (·.2)) c):=⟨_,get?_update_seq g1 _⟩;exact U7 (hP (Z2 (VO vs.length)) _ c (Array.Perm.refl _) (λi j h1 h3=>absurd h3 (by lia)) (by rw[<- eo];exact hc) (λb o q _ e=>keep b o q e) (G.at' λo e=>keep L o (VY M) e))
  ·rw[Array.size_map]
   show(vs.toArray.zip vs.toArray).size<=_;rw[YL];simp
   lia
end
end My
namespace My
open PySem PySem.Spec PyProof.Rows PySem.W PySem.SeqAt
theorem rJ:∀ns:List Int,HT.lexLt ns ns=false
 | []=>rfl
 | x::xs=>by rw[HT.dB,if_pos rfl];exact rJ xs
theorem rO:∀a b c:List Int,HT.lexLt a b=true->HT.lexLt b c=true->HT.lexLt a c=true
 | [],[],c,h,_=>by cases h
 | [],_::_,[],_,h=>by cases h
 | [],_::_,_::_,_,_=>rfl
 | _::_,[],_,h,_=>by cases h
 | _::_,_::_,[],_,h=>by cases h
 | x::xs,y::ys,z::zs,h1,h2=>by
  rw[HT.dB]at h1 h2 ⊢;by_cases F:x=y
  ·by_cases B:y=z
   ·rw[if_pos F]at h1;rw[if_pos B]at h2;rw[if_pos (F.trans B)];exact rO xs ys zs h1 h2
   ·rw[if_neg B]at h2;rw[if_neg (λq=>B (F.symm.trans q)),F];exact h2
  ·rw[if_neg F]at h1
   have h1:=of_decide_eq_true h1;by_cases B:y=z
   ·rw[if_neg (λq=>F (q.trans B.symm))];exact decide_eq_true (by lia)
   ·rw[if_neg B]at h2
    have h2:=of_decide_eq_true h2;rw[if_neg (by lia)];exact decide_eq_true (by lia)
theorem rN:∀a b:List Int,a≠b->HT.lexLt a b=true\/HT.lexLt b a=true
 | [],[],h=>absurd rfl h
 | [],_::_,_=>.inl rfl
 | _::_,[],_=>.inr rfl
 | x::xs,y::ys,h=>by
  rw[HT.dB,HT.dB];by_cases e:x=y
  ·rw[if_pos e,if_pos e.symm]
   exact rN xs ys λq=>h (by rw[e,q])
  ·rw[if_neg e,if_neg (λq=>e q.symm)]
   rcases Int.lt_or_gt_of_ne e with q|q
   ·exact .inl (decide_eq_true q)
   ·exact .inr (decide_eq_true q)
def O5(ks:List (List Int))(i j:Nat):Bool:=HT.lexLt (ks.getD i []) (ks.getD j [])
theorem CG(F:ks.Nodup):Ord ks.length (O5 ks) where
 irr:=λi _=>rJ _
 tr:=λi j k _ _ _ h1 h2=>rO _ _ _ h1 h2
 tot:=λi j hi J q=>rN _ _ λe=>q (by
  have B:ks.getD i []=ks[i]:=by simp[hi]
  have G:ks.getD j []=ks[j]:=by simp[J]
  rw[B,G]at e;exact(ZU F).mp e)
section
variable {prog:VB}{w:World}{A:VJ}{E:Value->U5->Prop}{s:U5}
def TupI(h:Heap)(a:Addr)(ns:List Int):Prop:=∃q:List Value,IsTup h a q.toArray/\WO q ns
theorem TupI.at'(x:TupI h a ns)(k:∀o,h.get? a=some o->h'.get? a=some o):TupI h' a ns:=by
 obtain⟨q,⟨o,e,c⟩,i⟩:=x;exact⟨q,⟨o,k o e,c⟩,i⟩
theorem JS(hx:TupI s.heap x ns)(hy:TupI s.heap y ms)(B:ns≠ms)(hu:A.units<cLine):EqAt A s (.ref x) (.ref y) false:=by
 obtain⟨q,tx,N⟩:=hx;obtain⟨vs,ty,U⟩:=hy;have ne:x≠y:=λe=>by
  subst e;obtain⟨o,J,c1,n,d1⟩:=tx;obtain⟨o',F,c2,n',W⟩:=ty;rw[J]at F;cases F;rw[d1]at W;injection W with d3 _
  have:q=vs:=by simpa using congrArg Array.toList d3
  subst this;have:∀ {q:List Value} {a b:List Int},WO q a->WO q b->a=b:=by
   intro q a b h1;induction h1 generalizing b with
   | nil=>intro h2;cases h2;rfl
   | cons n t _ ih=>intro h2;cases h2 with|cons _ _ r=>rw[ih r]
  exact B (this N U)
 have he:∀j (h1:j<q.toArray.size) (h2:j<vs.toArray.size),EqAt A.in1 s q.toArray[j] vs.toArray[j] (decide (ns.getD j 0=ms.getD j 0)):=by
  intro j h1 h2;have g:∀ {q:List Value} {ns:List Int} {j:Nat} (_:WO q ns) (h:j<q.length),∃t,q[j]=.int (ns.getD j 0) t:=by
   intro q ns j r;induction r generalizing j with
   | nil=>intro h;cases h
   | cons n t r ih=>
    intro h;cases j with
    | zero=>exact⟨t,rfl⟩
    | succ j=>
     obtain⟨t',e⟩:=ih (j:=j) (by simpa using h);exact⟨t',by simpa using e⟩
  obtain⟨t,J⟩:=g N (j:=j) (by simpa using h1);obtain⟨t',F⟩:=g U (j:=j) (by simpa using h2);have G:q.toArray[j]=q[j]'(by simpa using h1):=by simp
  have M:vs.toArray[j]=vs[j]'(by simpa using h2):=by simp
  rw[G,M,J,F];exact EqAt.to (EqAt.int_int _ _ _ _) (by simp[zbf])
 refine EqAt.to (EqAt.of_refs ne (RcAt.tuples tx ty hu he)) ?_;have G:q.toArray.size=ns.length:=by rw[VN];exact N.length
 have M:vs.toArray.size=ms.length:=by rw[VN];exact U.length
 rw[G,M,Bool.eq_false_iff];intro z;rw[V5]at z;obtain⟨Y,z2⟩:=z;have hl:ns.length=ms.length:=by simpa using z2
 rw[Z0]at Y;refine B (Z1 hl λj h1 h2=>?_);have:=of_decide_eq_true (Y j (List.mem_range.mpr (by lia)));simpa[h1,h2]using this
def zW(h:Heap)(p a:Addr)(v:Value)(ns:List Int):Prop:=IsTup h p #[.ref a,v]/\TupI h a ns
theorem A7(G:zW s.heap p a u ns)(W:zW s.heap q b v ms)(B:ns≠ms)(F:A.units<cLine)(h:Q (HT.lexLt ns ms) s) :
  wpAny (model prog w) A (keyLt' (tuples' false) (.ref p) (.ref q)) Q E s:=by
 obtain⟨⟨ox,J,x2,n,U⟩,tx⟩:=G;obtain⟨⟨oy,Y,y2,m,N⟩,ty⟩:=W;refine kat_lt J U Y N ?_;refine kat_cons (JS tx ty B F prog w _ _ (kat_no ?_));obtain⟨us,M,i1⟩:=tx;obtain⟨ws,t2,i2⟩:=ty;exact kat_one _ _ (HT.mR M t2 i1 i2 F h)
end
end My
namespace My
open PySem PySem.Spec PyProof.Rows L2 PySem.SeqAt
theorem obj_some(x:ObjOk P w H h a o):∃q,h.get? a=some q:=by
 cases o with
 | lst xs=>obtain⟨_,_,_,_,e⟩:=x;exact⟨_,e⟩
 | tup xs=>obtain⟨_,_,_,q,e,_⟩:=x;exact⟨q,e⟩
 | dK kvs=>obtain⟨_,_,_,_,q,_,_,e,_⟩:=x;exact⟨q,e⟩
 | dT kvs=>obtain⟨_,_,_,_,q,_,_,e,_⟩:=x;exact⟨q,e⟩
 | set S n=>obtain⟨q,_,_,_,e,_⟩:=x;exact⟨q,e⟩
 | ins C dx fs=>obtain⟨_,_,_,e,_⟩:=x;exact⟨_,e⟩
 | own y=>exact x
 | xd fs=>obtain⟨_,⟨q,_,_,e,_⟩,_⟩:=x;exact⟨q,e⟩
 | rng lo hi=>obtain⟨_,_,_,e⟩:=x;exact⟨_,e⟩
 | frz q u=>obtain⟨e,_⟩:=x;exact⟨_,e⟩
 | tbl ps=>exact⟨_,(show h.get? a=some _ from x)⟩
 | met f y=>exact⟨_,(show h.get? a=some _ from x)⟩
 | ext φ=>exact x.2.1
theorem DS(I:Inv X pins σ H s)(keep:∀b o,b≠X.env.locals->s.heap.get? b=some o->h'.get? b=some o)(ns:∀m,s.heap.Ns X.env.locals m->h'.Ns X.env.locals m)
  (same:∀b o,s.heap.get? b=some o->H' b=H b) (new:∀b o,H b=none->H' b=some o->ObjOk X.prog X.w H' h' b o):Inv X pins σ H' {s with heap:=h',toks:=t'}:=by
 have nl:∀b o,H b=some o->b≠X.env.locals:=λb o e z=>by rw[z,I.free]at e;cases e
 have B:∀b o,H b=some o->H' b=some o:=λb o e=>by
  obtain⟨J,q⟩:=obj_some (I.hok b o e);rw[same b J q];exact e
 refine I.step (g':=s.gens) (d':=s.drawn) (ch:=[]) (λ_ z=>nomatch z) (λb o F _ _ e _=>keep b o F e) (λb o F _ _ e _=>⟨o.slots,keep b o F e⟩) (λb o _ e n=>by rw[same b o e];exact n) (λb o _ e=>?_)
  (λb xs e=>B b _ e) (λb o u e=>B b _ e) (λb ps e=>⟨#[],by rw[B b _ e];simp⟩) ns (λb u e=>?_) I.bare
 ·by_cases G:b=X.env.locals
  ·obtain⟨m,U,_⟩:=I.loc
   obtain⟨o',_,_,N,_⟩:=ns m U;exact⟨o',by rw[G];exact N⟩
  ·exact⟨o,keep b o G e⟩
 ·cases e0:H b with
  | some v=>
   have:v=u:=by
    have:=B b v e0;rw[e]at this;exact(VX this).symm
   subst this;refine(I.hok b v e0).stay (λc v M q=>keep c v ?_ q) (λc q=>B c _ q) λc xs q=>B c _ q
   rcases M with z|z
   ·rw[z];exact nl b _ e0
   ·exact nl c _ z
  | none=>exact new b u e0 e
def kI(p:List Int×V):List Key×V:=(p.1.map VS,p.2)
theorem GT(ns:List Int):(ns.map (VS:Int->Key)).map kV=ns.map V.int:=by
 rw[W7];rfl
def rX(q:List (List Int×V)):Prop:=q.Pairwise λa b=>HT.lexLt a.1 b.1=true
theorem sX:∀ {ns:List Int} {us:List Value},Vals (ns.map V.int) us->WO us ns:=λr=>L2.intsAre_of r
theorem FD{X:Cx}{pins:List (Addr×Obj)}{σ:L2.St}{H:Hp}{s:U5}{d:Addr}{ps:List (List Int×V)}(I:Inv X pins σ H s)(hd:Rd H d (.dT (ps.map kI))) :
  ps.length<=VC/\(d == W2)=false/\(ps.map (·.1)).Nodup/\∃es ep,RawD s.heap d es ep/\es.size=ps.length/\∀(j:Nat) (p:List Int×V),ps[j]?=some p->∃(e:XO) (b:Addr),es[j]?=some e/\e.key=.ref b/\H b=some (.tup (p.1.map V.int))/\RelV p.2 e.val:=by
 obtain⟨z,y,xs,r,o,es,ep,h1,h2,J,G,F⟩:=(show ObjOk X.prog X.w H s.heap d (.dT (ps.map kI))from hd.ok I.hok);have Y:xs.length=ps.length:=by rw[<- YV r,VD]
 have B:es.size=ps.length:=by
  have:=congrArg X2 G;rw[W9,VD]at this
  lia
 have get:∀ {ps:List (List Int×V)} {xs:List (List Key×Addr×Value)},WK (λ(p:List Key×V) (q:List Key×Addr×Value)=>p.1=q.1/\H q.2.1=some (.tup (p.1.map kV))/\RelV p.2 q.2.2) (ps.map kI) xs->
   ∀(j:Nat) (p:List Int×V),ps[j]?=some p->∃q,xs[j]?=some q/\(kI p).1=q.1/\H q.2.1=some (.tup ((kI p).1.map kV))/\RelV p.2 q.2.2:=by
  intro ps;induction ps with
  | nil=>intro xs r j p e;simp at e
  | cons p0 ps ih=>
   intro xs r j p e;rw[VG]at r;cases r with
   | cons h t=>
    cases j with
    | zero=>simp at e;subst e;exact⟨_,rfl,h⟩
    | succ j=>exact ih t j p (by simpa using e)
 have keys:∀ {ps:List (List Int×V)} {xs:List (List Key×Addr×Value)},WK (λ(p:List Key×V) (q:List Key×Addr×Value)=>p.1=q.1/\H q.2.1=some (.tup (p.1.map kV))/\RelV p.2 q.2.2) (ps.map kI) xs->
   xs.map (·.1)=ps.map λp=>p.1.map VS:=by
  intro ps;induction ps with
  | nil=>intro xs r;rw[WV]at r;cases r;rfl
  | cons p0 ps ih=>
   intro xs r;rw[VG]at r;cases r with
   | cons h t=>rw[VG,VG,ih t,<- h.1];rfl
 refine⟨by rw[VD]at z;exact z,y,?_,es,ep,⟨o,h1,h2,J⟩,B,λj p e=>?_⟩
 ·rw[keys r]at F
  have:(ps.map λp=>p.1.map (VS:Int->Key))=(ps.map (·.1)).map λns=>ns.map VS:=by rw[W7];rfl
  rw[this]at F;exact List.Pairwise.of_map _ (λa b h e=>h (by rw[e])) F
 ·obtain⟨q,N,e2,U,M⟩:=get r j p e
  have W:es[j]?=some (entryOfKey (XY (aZ X.prog X.w)) q):=by
   rw[<- Z9,G,VV,N];rfl
  exact⟨_,q.2.1,W,rfl,by rw[U];show some (HO.tup (((p.1.map VS):List Key).map kV))=_;rw[GT],M⟩
theorem JP(I:Inv X pins σ H s)(h:H b=some (.tup (ns.map V.int))):TupI s.heap b ns:=by
 obtain⟨q,r,t,_⟩:=I.tuple (SqT.of h);exact⟨q,t,sX r⟩
theorem sW(G:PermR ps.length p)(hs:dR (O5 (ps.map (·.1))) p ps.length) :
  (p.toList.map λi=>ps.getD i ([],.non)).Perm ps/\rX (p.toList.map λi=>ps.getD i ([],.non)):=by
 have M:(VO ps.length).map (λi=>ps.getD i ([],.non))=ps:=by
  apply Z1
  ·simp
  ·intro i h1 h2
   simp[h2]
 constructor
 ·have:=(Array.perm_iff_toList_perm.mp G).map λi=>ps.getD i (([],.non):List Int×V)
  rw[M]at this;exact this
 ·unfold rX
  rw[List.pairwise_map];rw[List.pairwise_iff_getElem];intro i j hi J q;have hsz:=G.size;rw[W9]at hi J;have h1:=hs i j q (by lia);have g:∀k (B:k<p.size),p.getD k 0=p.toList[k]'(by rw[W9];exact B):=λk B=>by simp[ZI,B]
  rw[g i hi,g j J]at h1;have F:∀k,(ps.map (·.1)).getD k []=(ps.getD k ([],.non)).1:=λk=>by
   by_cases h:k<ps.length
   ·simp[h]
   ·simp[Nat.le_of_not_lt h]
  unfold O5 at h1;rw[F,F]at h1;exact h1
end My
namespace My
open PySem PySem.Spec PyProof.Rows L2 PySem.SeqAt PySem.W
theorem eM{q F B:Type}{R:F->B->Prop}{f:q->F}{g:q->B}:∀(l:List q),(∀i∈l,R (f i) (g i))->WK R (l.map f) (l.map g)
 | [],_=>.nil
 | i::l,h=>.cons (h i (V2 ..)) (eM l λj G=>h j (V1 _ G))
theorem j9{F B:Type}{f:B->Value}{R:B->F->Prop}:∀(ps:List F) (vs:List Value),vs.length=ps.length->(∀(j:Nat) (p:F),ps[j]?=some p->∃b,vs[j]?=some (f b)/\R b p)->∃bs:List B,vs=bs.map f/\WK R bs ps
 | [],[],_,_=>⟨[],rfl,.nil⟩
 | [],_::_,h,_=>by cases h
 | _::_,[],h,_=>by cases h
 | p::ps,v::vs,hl,h=>by
  obtain⟨b,e,r⟩:=h 0 p rfl;obtain⟨bs,M,J⟩:=j9 ps vs (by simpa using hl) λj q G=>h (j+1) q (by simpa using G)
  have:v=f b:=by simpa using e
  exact⟨b::bs,by rw[VG,<- M,this],.cons r J⟩
theorem l5{B q:Type}{R:B->q->Prop}:∀ {as:List B} {bs:List q},WK R as bs->∀(j:Nat) (b:q),bs[j]?=some b->∃a,as[j]?=some a/\R a b
 | _,_,.nil,j,b,e=>by simp at e
 | _,_,.cons h t,0,b,e=>by simp at e;subst e;exact⟨_,rfl,h⟩
 | _,_,.cons h t,j+1,b,e=>l5 t j b (by simpa using e)
section
variable {X:Cx}
def xX(el:Hp->V->List Int×V->Prop)(H:Hp)(ps:List (List Int×V))(Q:VK):Prop:=
 ∀(l:Addr) (us:List V) (qs:List (List Int×V)) (H2:Hp),Same H H2->H l=none->H2 l=some (.lst us)->WK (el H2) us qs->qs.Perm ps->rX qs->Q (.ref l) H2
def T8:Hp->V->List Int×V->Prop:=λH u q=>∃a b,u=.ref a/\H a=some (.tup [.ref b,q.2])/\H b=some (.tup (q.1.map V.int))
theorem z4{pins:List (Addr×Obj)}{σ:L2.St}{H H1:Hp}{s:U5}{h1:Heap}{tk:Nat}{A:VJ}{E:Value->U5->Prop}{Q:VK}{ps:List (List Int×V)}{as:List Addr}{el:Hp->V->List Int×V->Prop}{P:PySem.Fin->U5->Prop}
  (I:Inv X pins σ H s) (B:∀b o,s.heap.get? b=some o->h1.get? b=some o) (af:ps.length<64) (hn:(ps.map (·.1)).Nodup) (hl:as.length=ps.length)
  (G:∀b o,s.heap.get? b=some o->H1 b=H b) (M:∀b o,H1 b=some o->b<h1.objs.size)
  (W:∀(b:Addr) (o:HO),H b=none->H1 b=some o->∀(h':Heap) (H':Hp),(∀c u,c≠h1.objs.size->c≠X.env.locals->h1.get? c=some u->h'.get? c=some u)->ObjOk X.prog X.w H' h' b o)
  (ae:∀(j:Nat) (p:List Int×V) (a:Addr),ps[j]?=some p->as[j]?=some a->∀H',Same H1 H'->el H' (.ref a) p)
  (ah:2 <= ps.length -> ∀h':Heap, (∀b o, b≠h1.objs.size -> b≠X.env.locals -> h1.get? b = some o -> h'.get? b = some o) -> ∃κ, (∀Q':SortKind -> U5 -> Prop, Q' κ {s with heap:=h', toks:=tk} -> wpAny (model X.prog X.w) A (keyKind' (as.map VF).toArray) Q' (λ_ _ => False) {s with heap:=h', toks:=tk}) /\
   ∀i j C,i<ps.length->j<ps.length->i≠j->C (O5 (ps.map (·.1)) i j) {s with heap:=h',toks:=tk}->kas_ask X.prog X.w A κ (as.map VF) i j C {s with heap:=h',toks:=tk})
  (q:xX el H ps Q) (hP:∀s',EP X pins σ Q (.ref h1.objs.size) s'->P (.done (.ret .none)) s') :
  wpAny (model X.prog X.w) A (XS.«list.sort» ⟨[.ref h1.objs.size],[]⟩) P E {s with heap:=h1.push (WE "list" (as.map VF).toArray 0),toks:=tk}:=by
 obtain⟨m,N,_⟩:=id I.loc;have F:(as.map VF).length=ps.length:=by rw[VD,hl]
 have am:X.env.locals<h1.objs.size:=by
  obtain⟨o,_,_,e,_⟩:=id N;exact VE (B _ o e)
 have ak:(h1.push (WE "list" (as.map VF).toArray 0)).Ns X.env.locals m:=N.at' λo e=>VI _ (B _ o e)
 have O:Ord (as.map VF).length (O5 (ps.map (·.1))):=by
  rw[F,<- VD (f:=(·.1)) (as:=ps)];exact CG hn
 have Y:H h1.objs.size=none:=by
  cases e:H h1.objs.size with
  | none=>rfl
  | some o=>
   obtain⟨ob,z⟩:=obj_some (I.hok _ o e);exact absurd (VE (B _ ob z)) (XG _)
 have aa:H1 h1.objs.size=none:=by
  cases e:H1 h1.objs.size with
  | none=>rfl
  | some o=>exact absurd (M _ o e) (XG _)
 refine B9 (lt:=O5 (ps.map (·.1))) (n:=0) (L:=X.env.locals) (m:=m) (s:={s with heap:=h1.push (WE "list" (as.map VF).toArray 0),toks:=tk}) O ak (VW _ rfl) (WB am) (by rw[F];exact af) (λh2 h' k=>?_) λp h' c hp hs ai U al=>?_
 ·rw[F]at h2
  obtain⟨κ,k1,k2⟩:=ah h2 h' λb o hb hL e=>k b o hb hL (VI _ e)
  exact⟨κ,k1,λi j C hi hj=>k2 i j C (by rw[F]at hi;exact hi) (by rw[F]at hj;exact hj)⟩
 ·rw[F]at hp hs
  obtain⟨g1,g2⟩:=sW hp hs;have J:∀c u,c≠h1.objs.size->c≠X.env.locals->h1.get? c=some u->h'.get? c=some u:=λc u ad ag e=>U c u ad ag (VI _ e)
  have lt:∀i∈p.toList,i<ps.length:=λi hi=>by
   have:=(Array.perm_iff_toList_perm.mp hp).mem_iff.mp hi;simpa using this
  have ga:∀i,i<ps.length->as[i]?=some (as.getD i 0)/\ps[i]?=some (ps.getD i ([],.non))/\(as.map VF).getD i V4=.ref (as.getD i 0):=λi hi=>by
   have h1:i<as.length:=by lia
   refine⟨by simp[h1],by simp[hi],by simp[h1]⟩
  have an:Same H (upd H1 h1.objs.size (.lst (p.toList.map λi=>V.ref (as.getD i 0)))):=λb o e=>by
   obtain⟨ob,z⟩:=obj_some (I.hok b o e);rw[aC (a7 e Y),G b ob z];exact e
  have aj:Same H1 (upd H1 h1.objs.size (.lst (p.toList.map λi=>V.ref (as.getD i 0)))):=t7 aa;have I2:Inv X pins σ (upd H1 h1.objs.size (.lst (p.toList.map λi=>V.ref (as.getD i 0)))) {s with heap:=h',toks:=tk}:=by
   refine DS I (λb o hL e=>J b o (λz=>absurd (VE (B b o e)) (by rw[z];exact XG _)) hL (B b o e)) (λm' aq=>?_) (λb o e=>?_) (λb o n e=>?_)
   ·obtain⟨o1,bf,bh,e1,d1,r1⟩:=N
    obtain⟨o2,az,bd,e2,d2,r2⟩:=aq;rw[e1]at e2;cases e2;rw[d1]at d2;injection d2 with d3 d4
    subst d3 d4;have:m=m':=funext λx=>by rw[<- r1.2 x,<- r2.2 x]
    rw[<- this];exact al
   ·rw[aC (λz=>absurd (VE (B b o e)) (by rw[z];exact XG _))]
    exact G b o e
   ·by_cases hb:b=h1.objs.size
    ·subst hb
     rw[aG]at e;cases e;refine⟨?_,_,c,?_,ai⟩
     ·rw[VD,W9,hp.size,YL]
      lia
     ·show Vals _ (p.toList.map λi=>(as.map VF).getD i V4)
      exact eM p.toList λi hi=>by
       show(as.map VF).getD i V4=VF (as.getD i 0);exact(ga i (lt i hi)).2.2
    ·rw[aC hb]at e
     exact W b o n e h' _ J
  refine hP _ ⟨.ref h1.objs.size,_,I2,rfl,q _ _ _ _ an Y aG (eM p.toList λi hi=>?_) g1 g2⟩;obtain⟨a1,a2,_⟩:=ga i (lt i hi);exact ae i _ _ a2 a1 _ aj
theorem M3{A:VJ}{κ:SortKind}{as:List Addr}{i j:Nat}{C:Bool->U5->Prop}{s:U5}(hi:i<as.length)(F:j<as.length)(h:wpAny (model X.prog X.w) A (keyLt' κ (.ref (as.getD i 0)) (.ref (as.getD j 0))) C (λ_ _=>False) s):kas_ask X.prog X.w A κ (as.map VF) i j C s:=by
 unfold kas_ask;have B:(as.map VF).getD i V4=.ref (as.getD i 0):=by simp[hi]
 have q:(as.map VF).getD j V4=.ref (as.getD j 0):=by simp[F]
 rw[B,q];exact h
theorem lV:∀ {as:List Addr} {fs:List Value},WK (λa f=>∃q:List Value,IsTup h a q.toArray/\q[0]?=some f) as fs->KatTups h (as.map VF) fs
 | _,_,.nil=>.nil
 | _,_,.cons ⟨q,⟨o,e,c,n,d⟩,z⟩ t=>KatTups.cons e c d (by simpa using z) (lV t)
def EF:V->List V->Hp->VK->Prop:=λx vs H Q=>∃d kvs,x=.ref d/\vs=[]/\Rd H d (.dT kvs)/\∀r,H r=none->Q (.ref r) (upd H r (.ext λh=>h.IsItemsView r d))
theorem CW:RP X "dict.items" EF:=by
 intro pins s σ H x vs v Y Q I M J h;obtain⟨d,kvs,rfl,rfl,hd,q⟩:=h;cases M;have B:=J.zero;subst B;obtain⟨z,y,xs,r,o,es,ep,h1,h2,h3,_⟩:=(show ObjOk X.prog X.w H s.heap d (.dT kvs)from hd.ok I.hok);have G:s.TypeIs (.ref d) "dict" := ⟨o,h1,h2.1⟩;refine XD PySem.F.slot_dict_items G PySem.F.entry_dict_items ?_ (PySem.F.args_dict_items_1 _);unfold XS.«dict.items»;refine U4 ?_;unfold Builtin.Dict.noArgs;refine U4 (zbg G ?_);show wpAny _ _ (pure d) _ _ s;refine U7 ?_;show wpAny _ _ (zaB d >>= _) _ _ s;unfold zaB;rw[if_neg (by rw[y];exact VL)];refine U4 (U7 (U4 (WW (U7 ⟨_,rfl,?_⟩))));have U:H s.heap.objs.size=none:=I.fresh;refine⟨.ref s.heap.objs.size,_,I.laid (t':=s.toks) (o:=.ext λh=>h.IsItemsView s.heap.objs.size d) (λ_ _ q=>VI _ q) (VH _) ⟨⟨_,VW _ rfl,rfl,rfl⟩,⟨_,VW _ rfl⟩,λa b ⟨o,N,W⟩ k=>⟨o,k o N,W⟩⟩,rfl,q _ U⟩
def B2(H:Hp)(as:List Addr)(ds:List (List V)):Hp:=λb=>match as.findIdx? (λa=>decide (a=b))with
 | some j=>some (.tup (ds.getD j []))
 | none=>H b
theorem iL(h:¬ b∈as):B2 H as ds b=H b:=by
 unfold B2;have:as.findIdx? (λa=>decide (a=b))=none:=by
  rw[List.findIdx?_eq_none_iff];intro a q;exact decide_eq_false λe=>h (e ▸ q)
 rw[this]
theorem yV(h:b∈as):∃j,as[j]?=some b/\B2 H as ds b=some (.tup (ds.getD j [])):=by
 unfold B2;cases e:as.findIdx? (λa=>decide (a=b))with
 | none=>
  rw[List.findIdx?_eq_none_iff]at e;have:=e b h;simp at this
 | some j=>
  rw[List.findIdx?_eq_some_iff_getElem]at e;obtain⟨h1,h2,_⟩:=e;exact⟨j,by rw[V6 h1,of_decide_eq_true h2],rfl⟩
theorem qR(hc:X.calm=true)(hu:X.A.units+64<cLine):CallR X (.builtin "sorted") (λxs H Q=>∃r d ps,xs=[.ref r]/\H r=some (.ext λh=>h.IsItemsView r d)/\Rd H d (.dT (ps.map kI))/\ps.length<64/\xX T8 H ps Q):=by
 intro pins s σ H xs us Q I rr h;obtain⟨r,d,ps,rfl,hr,hd,ay,q⟩:=h;obtain⟨u,rfl,ru⟩:=vals1 rr;cases ru;obtain⟨hz,ca,al,es,ep,be,an,aj⟩:=FD I hd;have hv:s.heap.IsItemsView r d:=(I.hok r _ hr).1;have nL:∀ {b:Addr} {o:HO},H b=some o->b≠X.env.locals:=λe z=>by rw[z,I.free]at e;cases e
 refine Calls.call_function_entry kind_sorted plain_sorted entry_sorted (args_sorted1 _) ?_;unfold XS.«sorted»;refine U4 (m:=checkCount "sorted" 1 1 _) (U7 (U4 (qT (I.ok.hd hc) hv be (by rw[an];exact hz) λh1 tk as G ba ab=>?_)));have B:as.length=ps.length:=by rw[ba,an]
 obtain⟨bs,bh,ar⟩:=j9 (f:=VF) (R:=λb (p:List Int×V)=>H b=some (.tup (p.1.map V.int))) ps (es.toList.map (·.key)) (by rw[VD,W9,an]) λj p hp=>by
  obtain⟨e,b,Y,W,e3,_⟩:=aj j p hp;exact⟨b,by rw[VV,Z9,Y];exact congrArg some W,e3⟩
 have am:bs.length=ps.length:=YV ar
 -- the j-th pair
 have F:∀(j:Nat) (p:List Int×V),ps[j]?=some p->∃a b v,as[j]?=some a/\bs[j]?=some b/\H b=some (.tup (p.1.map V.int))/\RelV p.2 v/\s.heap.objs.size<a/\h1.get? a=some {cls:=.type "tuple",data:=.seq #[.ref b,v]}:=λj p hp=>by
  obtain⟨e,b,Y,W,e3,e4⟩:=aj j p hp;have J:j<ps.length:=(List.getElem?_eq_some_iff.mp hp).1;obtain⟨b',f1,f2⟩:=l5 ar j p hp;have ap:as[j]?=some (as[j]'(by lia)):=V6 (by lia);obtain⟨e',g1,g2⟩:=ab.pair j _ ap;rw[Y]at g1;cases g1;have hb:b=b':=by
   have z:(es.toList.map (·.key))[j]?=some (.ref b):=by rw[VV,Z9,Y];exact congrArg some W
   rw[bh,VV,f1]at z;have:=VX z;injection this with this
   exact this.symm
  subst hb;exact⟨_,b,e.val,ap,f1,e3,e4,ab.above _ (zaa _),by rw[g2,W]⟩
 have ac:∀(i j:Nat) (a:Addr),as[i]?=some a->as[j]?=some a->i=j:=λi j a hi J=>by
  have li:i<ps.length:=by rw[<- B];exact(List.getElem?_eq_some_iff.mp hi).1
  have lj:j<ps.length:=by rw[<- B];exact(List.getElem?_eq_some_iff.mp J).1
  obtain⟨a1,b1,v1,M,_,x2,_,_,x3⟩:=F i _ (V6 li);obtain⟨a2,b2,v2,y1,_,U,_,_,y3⟩:=F j _ (V6 lj);rw[hi]at M;cases M;rw[J]at y1;cases y1;rw[x3]at y3;injection y3 with y3
  injection y3 with _ _ y3 _
  injection y3 with y3 _
  have hb:b1=b2:=by
   have:=congrArg (λz:Array Value=>z[0]?) y3;simpa using this
  subst hb;rw[x2]at U;injection U with U
  injection U with U
  have:ps[i].1=ps[j].1:=by
   have inj:∀ {a b:List Int},a.map V.int=b.map V.int->a=b:=by
    intro a;induction a with
    | nil=>intro b h;cases b with
     | nil=>rfl
     | cons _ _=>cases h
    | cons x xs ih=>intro b h;cases b with
     | nil=>cases h
     | cons y ys=>
      rw[VG,VG]at h;injection h with h1 h2
      injection h1 with h1
      rw[h1,ih h2]
   exact inj U
  have Y:(ps.map (·.1))[i]'(by rw[VD];exact li)=(ps.map (·.1))[j]'(by rw[VD];exact lj):=by simpa using this
  exact(ZU al).mp Y
 have aq:∀(j:Nat) (p:List Int×V) (b:Addr),ps[j]?=some p->bs[j]?=some b->((bs.zip ps).map λx=>[V.ref x.1,x.2.2]).getD j []=[V.ref b,p.2]:=λj p b h1 h2=>by
  have:((bs.zip ps).map λx=>[V.ref x.1,x.2.2])[j]?=some [V.ref b,p.2]:=by
   rw[VV,(List.getElem?_zip_eq_some (z:=(b,p))).mpr ⟨h2,h1⟩];rfl
  simp[ZG,this]
 have ak:∀b o,s.heap.get? b=some o->¬ b∈as:=λb o e hb=>absurd (VE e) (Nat.not_lt.mpr (zaj (ab.above b hb)))
 have au:Same H (B2 H as ((bs.zip ps).map λx=>[V.ref x.1,x.2.2])):=λb o e=>by
  obtain⟨ob,z⟩:=obj_some (I.hok b o e);rw[iL (ak b ob z)];exact e
 refine U4 (wpAny_newList ?_ (by rw[VD,B];exact hz));have bc:(h1.push (WE "list" (as.map VF).toArray 0)).get? h1.objs.size=some (WE "list" (as.map VF).toArray 0):=VW _ rfl;show wpAny _ _ _ _ _ {s with heap:=h1.push (WE "list" (as.map VF).toArray 0),toks:=tk};refine U4 (W3 (XD slot_list_sort ⟨_,bc,rfl⟩ entry_list_sort ?body (args_list_sort _)))
 case body=>
  refine z4 (H1:=B2 H as ((bs.zip ps).map λx=>[V.ref x.1,x.2.2])) (el:=T8) (Q:=Q) I G ay al B (λb o e=>iL (ak b o e)) (λb o e=>?_) (λb o n e h' H' k=>?_) (λj p a hp ha H' sm=>?_) (λh2 h' k=>?_) q λs' hE=>⟨_,rfl,U7 ⟨_,rfl,hE⟩⟩
  ·by_cases hb:b∈as
   ·obtain⟨j,J⟩:=List.mem_iff_getElem?.mp hb
    have lj:j<ps.length:=by rw[<- B];exact(List.getElem?_eq_some_iff.mp J).1
    obtain⟨a,b',v,M,_,_,_,_,x3⟩:=F j _ (V6 lj);rw[J]at M;cases M;exact VE x3
   ·rw[iL hb]at e
    obtain⟨ob,z⟩:=obj_some (I.hok b o e);exact VE (G b ob z)
  ·have hb:b∈as:=Classical.byContradiction λz=>by rw[iL z,n]at e;cases e
   obtain⟨j,J,W⟩:=yV (H:=H) (ds:=(bs.zip ps).map λx=>[V.ref x.1,x.2.2]) hb;rw[W]at e;cases e;have lj:j<ps.length:=by rw[<- B];exact(List.getElem?_eq_some_iff.mp J).1
   obtain⟨a,b',v,M,x2,_,x4,x5,x3⟩:=F j _ (V6 lj);rw[J]at M;cases M;rw[aq j _ b' (V6 lj) x2];have aw:b≠X.env.locals:=WB (ZF I.lt x5);exact⟨by show 2<=VC;decide,[.ref b',v],.cons rfl (.cons x4 .nil),_,k b _ (VT (VE x3)) aw x3,rfl,0,rfl,rfl⟩
  ·obtain⟨a',b,v,M,x2,x3,x4,_,_⟩:=F j p hp
   rw[ha]at M;cases M;obtain⟨j',bg,W⟩:=yV (H:=H) (as:=as) (ds:=(bs.zip ps).map λx=>[V.ref x.1,x.2.2]) (WS ha);have:=ac j' j a bg ha;subst this;rw[aq j' p b hp x2]at W;exact⟨a,b,rfl,sm _ _ W,sm _ _ (au _ _ x3)⟩
  ·have pI:∀(j:Nat) (p:List Int×V),ps[j]?=some p->∃a b v,as[j]?=some a/\bs[j]?=some b/\zW h' a b v p.1:=λj p hp=>by
    obtain⟨a,b,v,M,x2,x3,x4,x5,x6⟩:=F j p hp;refine⟨a,b,v,M,x2,⟨_,k a _ (VT (VE x6)) (WB (ZF I.lt x5)) x6,rfl,0,rfl⟩,(JP I x3).at' λo e=>k b o ?_ (nL x3) (G b o e)⟩;exact λz=>absurd (VE (G b o e)) (by rw[z];exact XG _)
   refine⟨tuples' (YI "tuple" != YI "tuple"),λQ' q'=>?_,λi j C hi J a0 hC=>?_⟩
   ·have pr:WK (λa (f:Value)=>∃N:List Value,IsTup h' a N.toArray/\N[0]?=some f) as (bs.map VF):=by
     have:∀ {as bs:List Addr} {ps:List (List Int×V)},as.length=ps.length->bs.length=ps.length->(∀(j:Nat) (p:List Int×V),ps[j]?=some p->∃a b v,as[j]?=some a/\bs[j]?=some b/\zW h' a b v p.1)->WK (λa (f:Value)=>∃N:List Value,IsTup h' a N.toArray/\N[0]?=some f) as (bs.map VF):=by
      intro as;induction as with
      | nil=>intro bs ps h1 h2 _;cases ps with
       | nil=>cases bs with
        | nil=>exact .nil
        | cons _ _=>cases h2
       | cons _ _=>cases h1
      | cons a as ih=>intro bs ps h1 h2 h3;cases ps with
       | nil=>cases h1
       | cons p ps=>cases bs with
        | nil=>cases h2
        | cons b bs=>
         obtain⟨a',b',v,y1,U,y3,_⟩:=h3 0 p rfl;have Y:a'=a:=by simpa using y1.symm
         have W:b'=b:=by simpa using U.symm
         subst Y W;exact .cons ⟨[.ref b',v],y3,rfl⟩ (ih (by simpa using h1) (by simpa using h2) λj q hq=>h3 (j+1) q (by simpa using hq))
     exact this B am pI
    refine kat_kind (s:={s with heap:=h',toks:=tk}) (lV pr) (by rw[VD,am];lia) (λv hv=>?_) (by decide) q';obtain⟨b,hb,rfl⟩:=List.mem_map.mp hv;obtain⟨j,J⟩:=List.mem_iff_getElem?.mp hb;have lj:j<ps.length:=by rw[<- am];exact(List.getElem?_eq_some_iff.mp J).1
    obtain⟨a,b',v,_,U,_,N,⟨o,Y,W,_⟩,_⟩:=pI j _ (V6 lj);rw[J]at U;cases U;rw[<- W];exact(show Looks _ h' (typeOf (.ref b)) o.cls from(Looks.ld Y).andThen .now)
   ·refine M3 (by lia) (by lia) ?_
    obtain⟨x,b1,v1,M,_,x2⟩:=pI i _ (V6 hi);obtain⟨y,b2,v2,y1,_,U⟩:=pI j _ (V6 J);have ex:as.getD i 0=x:=by simp[ZG,M]
    have ey:as.getD j 0=y:=by simp[ZG,y1]
    rw[ex,ey];have az:ps[i].1≠ps[j].1:=λz=>a0 (by
     have Y:(ps.map (·.1))[i]'(by rw[VD];exact hi)=(ps.map (·.1))[j]'(by rw[VD];exact J):=by simpa using z
     exact(ZU al).mp Y)
    refine A7 (s:={s with heap:=h',toks:=tk}) x2 U az (by show X.A.units+1+1<cLine;lia) ?_;unfold O5 at hC;have k1:(ps.map (·.1)).getD i []=ps[i].1:=by simp[hi]
    have k2:(ps.map (·.1)).getD j []=ps[j].1:=by simp[J]
    rw[k1,k2]at hC;exact hC
end
theorem AS{prog:VB}{w:World}{A:VJ}{E:Value->U5->Prop}{s:U5}{t F:Addr}{items:Array Value}{M N:Value}{lo hi:Option Int}{Q:Value->U5->Prop}(q:IsTup s.heap t items)(hs:s.heap.IsSliceOf F M N .none)(Y:X3 M lo)(pu:X3 N hi)
  (hw:HT.sIx items.size 0 lo=0/\HT.sIx items.size items.size hi=items.size) (h:Q (.ref t) s):wpAny (model prog w) A (X4 (.ref t) (.ref F)) Q E s:=by
 obtain⟨os,J,G,W⟩:=id hs;have U:s.TypeIs (.ref F) "slice" := ⟨os,J,G⟩;unfold X4;try with_reducible refine W3 ?_
 first|refine U4 (U7 ?_)|skip
 refine U4 (wpAny_sequenceKey q.typeIs (by decide) ?_);refine U4 (X5 (name:=XC "__getitem__") q.typeIs zat (XD zat q.typeIs entry_tuple_getitem ?_ (args_tuple_getitem _ _)));show wpAny _ _ (Builtin.Tuple.tupleItemsOf (.ref t) >>= _) _ _ s;refine U4 (tupleItemsOf_ q (U4 (YZ U ?_)));rw[if_pos (by decide)];refine U4 (HT.d8 hs Y pu ?_);have B:(((HT.sIx items.size 0 lo:Nat):Int) == 0 && (1:Int) == 1 && (HT.sIx items.size items.size hi-HT.sIx items.size 0 lo) == items.size)=true:=by
  rw[hw.1,hw.2];simp
 show wpAny _ _ (if(((HT.sIx items.size 0 lo:Nat):Int) == 0 && (1:Int) == 1 && (HT.sIx items.size items.size hi-HT.sIx items.size 0 lo) == items.size)=true then _ else _) _ _ s;rw[if_pos B];refine U4 (m:=Builtin.Tuple.tupleIsExact _) ?_;unfold Builtin.Tuple.tupleIsExact;refine U4 (YZ q.typeIs (U7 ?_));rw[if_pos (by decide)];exact U4 (YW (U7 ⟨_,rfl,U7 h⟩))
section
variable {X:Cx}
def RB(K:U6):V->Option Int->Option Int->Hp->VK->Prop:=λx lo hi H Q=>∃a xs,x=.ref a/\SqT K H a xs/\(HT.sIx xs.length 0 lo=0/\HT.sIx xs.length xs.length hi=xs.length)/\Q (.ref a) H
theorem GW:SlR X (RB X.K):=by
 intro pins s σ H x v Y vu lo hi W Q I M hs N U h;obtain⟨a,xs,rfl,J,hw,q⟩:=h;cases M;obtain⟨F,r,G,hz⟩:=I.tuple J;have B:F.toArray.size=xs.length:=by rw[VN];exact r.length.symm
 exact⟨"tuple",_,PyProof.Rows.slot_tuple_getitem.lookup,G.typeIs,AS G hs N U (by rw[B];exact hw) ⟨.ref a,H,I,rfl,q⟩⟩
theorem HL:SlR X (λx lo hi H Q=>Q9 X.K x lo hi H Q\/RB X.K x lo hi H Q):=NN.or GW
end
theorem nY(x:ObjOk P w H h d (.dT kvs)):(d == W2)=false/\kvs.length<=VC/\∃es ep,RawD h d es ep/\es.size=kvs.length /\
  ∀(j:Nat) (p:List Key×V),kvs[j]?=some p->∃(e:XO) (b:Addr),es[j]?=some e/\e.key=.ref b/\H b=some (.tup (p.1.map kV))/\RelV p.2 e.val/\e.hash=(XY (aZ P w)).hash p.1:=by
 obtain⟨z,y,xs,r,o,es,ep,h1,h2,G,F,h5⟩:=x;have Y:xs.length=kvs.length:=(YV r).symm;have B:es.size=kvs.length:=by
  have:=congrArg X2 F;rw[W9,VD]at this
  lia
 have get:∀ {kvs:List (List Key×V)} {xs:List (List Key×Addr×Value)},WK (λ(p:List Key×V) (q:List Key×Addr×Value)=>p.1=q.1/\H q.2.1=some (.tup (p.1.map kV))/\RelV p.2 q.2.2) kvs xs->
   ∀(j:Nat) (p:List Key×V),kvs[j]?=some p->∃q,xs[j]?=some q/\p.1=q.1/\H q.2.1=some (.tup (p.1.map kV))/\RelV p.2 q.2.2:=by
  intro kvs xs r;induction r with
  | nil=>intro j p e;simp at e
  | cons h t ih=>
   intro j p e;cases j with
   | zero=>simp at e;subst e;exact⟨_,rfl,h⟩
   | succ j=>exact ih j p (by simpa using e)
 refine⟨y,z,es,ep,⟨o,h1,h2,G⟩,B,λj p e=>?_⟩;obtain⟨q,M,U,N,J⟩:=get r j p e;have W:es[j]?=some (entryOfKey (XY (aZ P w)) q):=by
  rw[<- Z9,F,VV,M];rfl
 exact⟨_,q.2.1,W,rfl,N,J,by show(XY (aZ P w)).hash q.1=_;rw[U]⟩
def RV(d:Addr)(o:Obj)(kvs:List (List Key×V)):It:=
 ⟨λi H=>H d=some (.frz o (.dT kvs))/\i<kvs.length,λi H x H'=>H'=H/\∃k v b,kvs[i]?=some (k,v)/\x=.ref b/\H b=some (.tup (k.map kV)),λi H=>H d=some (.frz o (.dT kvs))/\kvs.length<=i⟩
theorem BQ{P:VB}{w:World}{K:U6}{tg:Expr}(d it:Addr)(o:Obj)(kvs:List (List Key×V))(es:Array XO)(ep:Nat)(hd:o.data=.dict es ep)(an:es.size=kvs.length):Turn P w K tg (RV d o kvs) [it] it (λi h=>h.IsKeyIter it d i es.size ep) where
 mem:=by simp
 obj:=λi h st b B=>by
  have e:b=it:=by simpa using B
  subst e;obtain⟨o,U,e2,e3⟩:=st;exact⟨o,U,λv z=>by rw[e3]at z;cases z⟩
 keep:=λi h h' st k=>st.at λo e=>k it (by simp) o e
 item:=by
  intro X W hw hK hc i pins s σ H E I N st Y;subst W hw hK;obtain⟨h1,h2⟩:=Y;obtain⟨F,g2⟩:=(show ObjOk X.prog X.w H s.heap d (.frz o (.dT kvs))from I.hok d _ h1);obtain⟨_,_,ad,ah,⟨o',G,r2,r3⟩,J,q⟩:=nY g2;rw[F]at G;cases G;rw[hd]at r3;injection r3 with r4 r5
  subst r4 r5;obtain⟨f0,f1,f2,f3,f4,f5⟩:=N it (by simp);have hi:i<es.size:=by lia
  refine CN st ⟨o,F,r2,hd⟩ hi λh' M sb=>?_
  have I1:Inv X pins σ H {s with heap:=h'}:=I.turned (t':=s.toks) (λb o B e=>(sb.2 b B).trans e) f0 f1 f3 f4 f5;obtain⟨e,b,U,e2,e3,_⟩:=q i _ (V6 h2);have ee:es[i]=e:=by
   rw[zbh hi]at U;exact VX U
  obtain⟨o2,q1,q2,q3⟩:=id M;refine⟨_,rfl,p9 (s:={s with heap:=h'}) (n := "dict_keyiterator") q1 q2 q3 (by decide) ⟨.ref b,H,I1,?_,⟨rfl,kvs[i].1,kvs[i].2,b,V6 h2,rfl,e3⟩,M,λc B=>(N c B).1⟩⟩;rw[ee,e2];rfl
 done:=by
  intro X W hw hK hc i pins s σ H E I N st Y;subst W hw hK;obtain⟨h1,h2⟩:=Y;obtain⟨F,g2⟩:=(show ObjOk X.prog X.w H s.heap d (.frz o (.dT kvs))from I.hok d _ h1);obtain⟨_,_,ad,ah,⟨o',G,r2,r3⟩,J,q⟩:=nY g2;rw[F]at G;cases G;obtain⟨f0,f1,f2,f3,f4,f5⟩:=N it (by simp);exact G5 (I.ok.hd hc) st ⟨o,F,r2,hd⟩ (by lia) λh' eb=>⟨rfl,I.turned (t':=s.toks) (λb o B e=>eb b o B e) f0 f1 f3 f4 f5⟩
 self:=λ_ _ _ _ _ st h=>wpAny_pyIter_keyiter st h
theorem wG(I:Inv X pins σ H s)(hd:H d=some (.dT kvs))(F:s.heap.get? d=some o):Inv X pins σ (upd H d (.frz o (.dT kvs))) s:=by
 have ne:∀b u,H b=some u->(∀z,u≠.dT z)->b≠d:=λb u e n z=>by
  subst z;rw[hd]at e;exact n kvs (VX e).symm
 have J:=I.un (h':=s.heap) (t':=s.toks) (H':=upd H d (.frz o (.dT kvs))) ⟨λb u q _ _ _=>q,λb u q _ _ _=>⟨u.slots,q⟩,λb u q n _=>by rw[aC (λz=>by rw[z,hd]at n;cases n)];exact n,λb u q _=>⟨u,q⟩,
  λb xs q=>by rw[aC (ne b _ q (λz h=>by cases h))];exact q,λb u xs q=>by rw[aC (ne b _ q (λz h=>by cases h))];exact q,λb ps q=>⟨#[],by rw[aC (ne b _ q (λz h=>by cases h)),q];simp⟩⟩ (λb u e=>?_)
 ·exact J
 ·have st:∀ {b:Addr} {u:HO},ObjOk X.prog X.w H s.heap b u->ObjOk X.prog X.w (upd H d (.frz o (.dT kvs))) s.heap b u:=λx=>x.stay (λ_ _ _ q=>q) (λc q=>by rw[aC (ne c _ q (λz h=>by cases h))];exact q) λc xs q=>by rw[aC (ne c _ q (λz h=>by cases h))];exact q
  by_cases B:b=d
  ·subst B
   rw[aG]at e;cases e;exact⟨F,st (I.hok b _ hd)⟩
  ·rw[aC B]at e
   exact st (I.hok b u e)
section
variable {X:Cx}{tg:Expr}
end
section
variable {X:Cx}
end
end My
namespace My
open PySem PySem.Spec PyProof.Rows L2 PySem.SeqAt
abbrev Tm:=List Int×Int
def look(cs:List Tm)(k:List Int):Option Int:=(cs.find? λt=>decide (t.1=k)).map (·.2)
def put(cs:List Tm)(k:List Int)(c:Int):List Tm:=if(cs.any λt=>decide (t.1=k))=true then cs.map (λt=>if t.1=k then(t.1,c)else t)else cs++[(k,c)]
theorem i9{a b:List Int}:(a.map (VS:Int->Key)=b.map VS)↔a=b:=by
 constructor
 ·intro h
  induction a generalizing b with
  | nil=>cases b with
   | nil=>rfl
   | cons _ _=>cases h
  | cons x xs ih=>cases b with
   | nil=>cases h
   | cons y ys=>
    rw[VG,VG]at h;injection h with h1 h2
    injection h1 with h1
    rw[h1,ih h2]
 ·intro h;rw[h]
theorem rG(cs:List Tm)(k:List Int)(c:Int):(put cs k c).length<=cs.length+1:=by
 unfold put;split
 ·rw[VD];lia
 ·rw[WN];simp
theorem DU:∀t∈put cs k c,t.1=k\/∃u∈cs,u.1=t.1:=by
 intro t q;unfold put at q;split at q
 ·obtain⟨u,B,e⟩:=List.mem_map.mp q
  split at e
  ·rename_i z;subst e;exact .inl z
  ·subst e;exact .inr ⟨u,B,rfl⟩
 ·rcases List.mem_append.mp q with h|h
  ·exact .inr ⟨t,h,rfl⟩
  ·rw[List.mem_singleton.mp h];exact .inl rfl
theorem AZ(h:(cs.map (·.1)).Nodup):((put cs k c).map (·.1)).Nodup:=by
 unfold put;split
 ·rw[W7]
  have:((·.1) ∘ λt:Tm=>if t.1=k then(t.1,c)else t)=(·.1):=by
   funext t;show(if t.1=k then(t.1,c)else t).1=t.1;split <;> rfl
  rw[this];exact h
 ·rename_i z
  rw[W6];refine L2.zC h λB=>z ?_
  obtain⟨t,q,e⟩:=List.mem_map.mp B;exact List.any_eq_true.mpr ⟨t,q,decide_eq_true e⟩
def oD(cs:List Tm)(t:Tm):List Tm:=put cs t.1 ((look cs t.1).getD 0+t.2)
def bK(ts:List Tm):List Tm:=ts.foldl oD []
theorem AA(ts:List Tm)(t:Tm):bK (ts++[t])=oD (bK ts) t:=by
 unfold bK;rw[List.foldl_append];rfl
theorem mH:∀(ts:List Tm),(bK ts).length<=ts.length/\((bK ts).map (·.1)).Nodup/\∀t∈bK ts,∃u∈ts,u.1=t.1:=by
 intro ts;have F:∀(ts:List Tm) (cs:List Tm),(cs.map (·.1)).Nodup->(ts.foldl oD cs).length<=cs.length+ts.length/\((ts.foldl oD cs).map (·.1)).Nodup/\∀t∈ts.foldl oD cs,(∃u∈ts,u.1=t.1)\/∃u∈cs,u.1=t.1:=by
  intro ts;induction ts with
  | nil=>intro cs h;exact⟨by simp,h,λt q=>.inr ⟨t,q,rfl⟩⟩
  | cons x ts ih=>
   intro cs h;obtain⟨a,b,c⟩:=ih (oD cs x) (AZ h);refine⟨?_,b,λt q=>?_⟩
   ·have:=rG cs x.1 ((look cs x.1).getD 0+x.2)
    rw[zax,VR];unfold oD at *
    lia
   ·rcases c t q with⟨u,B,e⟩|⟨u,B,e⟩
    ·exact .inl ⟨u,V1 _ B,e⟩
    ·rcases DU u B with z|⟨v,G,z⟩
     ·exact .inl ⟨x,V2 ..,z.symm.trans e⟩
     ·exact .inr ⟨v,G,z.trans e⟩
 obtain⟨a,b,c⟩:=F ts [] List.nodup_nil;refine⟨by have:=a;simpa[bK]using this,b,λt q=>?_⟩;rcases c t q with h|⟨u,B,_⟩
 ·exact h
 ·cases B
def kN(M:Int)(q:List Tm):List Tm:=(q.filter λt=>decide (t.2%M≠0)).map λt=>(t.1,t.2%M)
def TS(H H':Hp):Prop:=∀b xs,H b=some (.tup xs)->H' b=some (.tup xs)
theorem Same.ts(e:Same H H'):TS H H':=λb xs h=>e b _ h
theorem TS.trans(a:TS H H1)(b:TS H1 H2):TS H H2:=λc xs h=>b c xs (a c xs h)
theorem TS.put(h:H l=some u)(n:∀xs,u≠.tup xs):TS H (upd H l o):=λb xs q=>by
 rw[aC (λz=>by subst z;rw[h]at q;exact n xs (VX q))];exact q
noncomputable def hT(ns:List Int):Int:=reduceHash (Builtin.Tuple.tupleHashOf (ns.map hashInt))
end My
namespace My
open PySem PySem.Spec PyProof.Rows L2
noncomputable def UD(t:Bool):String:=if t=true then "tuple_iterator" else "list_iterator"
noncomputable def UH(t:Bool):String:=if t=true then "tuple" else "list"
def SIt(t:Bool)(h:Heap)(i l:Addr)(k:Nat):Prop:=∃o,h.get? i=some o/\o.cls=.type (UD t)/\o.data=.fields #[.ref l,.int k 0]
def SSq(t:Bool)(h:Heap)(l:Addr)(xs:Array Value):Prop:=∃o,h.get? l=some o/\o.cls=.type (UH t)/\∃n,o.data=.seq xs n
theorem SIt.to(x:SIt t h i l k)(e:∀o,h.get? i=some o->h'.get? i=some o):SIt t h' i l k:=let ⟨o,ho,r⟩:=x;⟨o,e o ho,r⟩
theorem SSq.to(x:SSq t h l xs)(e:∀o,h.get? l=some o->h'.get? l=some o):SSq t h' l xs:=let ⟨o,ho,r⟩:=x;⟨o,e o ho,r⟩
section
variable {prog:VB}{w:World}{A:VJ}{E:Value->U5->Prop}{s:U5}
theorem next_item(B:SIt t s.heap it l i)(N:SSq t s.heap l xs)(M:xs[i]?=some x)
  (U:∀h',SIt t h' it l (i+1)->V8 it s.heap h'->Q x {s with heap:=h'}):wpAny (model prog w) A (zaO (.ref it)) Q E s:=by
 cases t with
 | false=>exact wpAny_nextOf_list_item (it:=it) (l:=l) (items:=xs) B N M U
 | true=>
  have q:s.heap.IsTupleIter it l i:=B;obtain⟨o,F,W,hd⟩:=B;obtain⟨Y,G,_,nl,J⟩:=N;unfold zaO;refine U4 (X5 (name:=XC "__next__") q.typeIs zaP (XD zaP q.typeIs zbC ?_ (zbD _)));show wpAny _ _ (field (.ref it) 0 >>= _) _ _ _;refine U4 (WP F hd (x:=.ref l) rfl ?_);show wpAny _ _ (if(VF l == V4)=true then _ else _) _ _ _;rw[if_neg (show ¬ ((VF l == V4)=true)from VL)];show wpAny _ _ (field (.ref it) 1 >>= _) _ _ _;refine U4 (WP F hd (x:=.int i 0) rfl ?_);show wpAny _ _ (seqItems? (.ref l) >>= _) _ _ _;refine U4 (zab G J ?_);simp only[W1,M];refine U4 (Z4 F hd (by simp) (U7 ⟨x,rfl,U7 (U _ ⟨_,YO _ F (Obj.isFreed_of_fields (zaG hd _)),(Obj.cls_mapFields ..).trans W,by rw[zaG hd];simp[WF]⟩ (Y3 ..))⟩))
theorem next_end(F:A.handled=none)(B:SIt t s.heap it l i)(U:SSq t s.heap l xs)(N:xs[i]?=none)
  (W:∀h' e,Z5 it s.heap h'->(∃o,h'.get? e=some o/\o.cls=.type "StopIteration")->E (.ref e) {s with heap:=h'}):wpAny (model prog w) A (zaO (.ref it)) Q E s:=by
 cases t with
 | false=>exact wpAny_nextOf_list_end (it:=it) (l:=l) (items:=xs) F B U N W
 | true=>
  have q:s.heap.IsTupleIter it l i:=B;obtain⟨o,G,Y,hd⟩:=B;obtain⟨ol,J,_,nl,M⟩:=U;unfold zaO;refine U4 (X5 (name:=XC "__next__") q.typeIs zaP (XD zaP q.typeIs zbC ?_ (zbD _)));show wpAny _ _ (field (.ref it) 0 >>= _) _ _ _;refine U4 (WP G hd (x:=.ref l) rfl ?_);show wpAny _ _ (if(VF l == V4)=true then _ else _) _ _ _;rw[if_neg (show ¬ ((VF l == V4)=true)from VL)];show wpAny _ _ (field (.ref it) 1 >>= _) _ _ _;refine U4 (WP G hd (x:=.int i 0) rfl ?_);show wpAny _ _ (seqItems? (.ref l) >>= _) _ _ _;refine U4 (zab J M ?_);simp only[W1,N];refine U4 (YW (U4 (Z4 G hd (by simp) ?_)));show wpAny _ _ (newExc (.type "StopIteration") [] >>= _) _ _ _;refine U4 ?_;simp only[newExc,newTuple];refine U4 (WW ?_ (by size_fits));refine U4 (m:=ZN _ _) (zaH (a:=V4) (by first|rfl|(simp only[ZN];rfl)) ?_);refine WW ?_ (by size_fits);simp only[raiseNew]
  refine U4 (wpAny_handled ?_);first|rw[show A.in1.handled=none from F]|rw[F]
  refine U4 (U7 (wpAny_throw ?_));exact W _ _ (((Y3 ..).extBut.push _).push _) ⟨_,VW _ rfl,rfl⟩
abbrev T4(t:Bool)(l:Addr):Obj:={cls:=.type (UD t),data:=.fields #[.ref l,.int 0 0]}
end
def KJ(K:U6)(t:Bool)(H:Hp)(a:Addr)(xs:List V):Prop:=if t=true then SqT K H a xs else SqL K H a xs
theorem xE(I:Inv X pins σ H s)(h:KJ X.K t H a xs):∃q:List Value,Vals xs q/\SSq t s.heap a q.toArray:=by
 cases t with
 | true=>
  obtain⟨q,r,p,_⟩:=I.tuple (show SqT X.K H a xs from h);exact⟨q,r,p⟩
 | false=>
  obtain⟨q,r,p,_⟩:=I.list (show SqL X.K H a xs from h);exact⟨q,r,PlainL.isList p⟩
theorem JU(I:Inv X pins σ H s)(h:KJ X.K t H a xs)(h':KJ X.K t H a ys):xs=ys:=by
 cases t with
 | true=>exact I.tuple_inj (show SqT X.K H a xs from h) h'
 | false=>exact I.list_inj (show SqL X.K H a xs from h) h'
theorem lW{pins:List (Addr×Obj)}{t':Nat}{fp:List Addr}(I:Inv X pins σ H s)(G:∀b∈fp,fS X pins H b)(k:∀b o,b∉fp->s.heap.get? b=some o->h'.get? b=some o):Inv X pins σ H {s with heap:=h',toks:=t'}:=by
 have F:∀b u,H b=some u->b∉fp:=λb u e z=>by rw[(G b z).1]at e;cases e
 refine I.call' (s':={s with heap:=h',toks:=t'}) (ch:=fp) rfl ⟨λb o e _ _ B=>k b o B e,λb o e _ _ B=>⟨o.slots,k b o B e⟩,λ_ _ _ n _=>n,λb o e B=>⟨o,k b o B e⟩,λ_ _ q=>q,λ_ _ _ q=>q,λb ps q=>⟨#[],by rw[q];simp⟩⟩ (λb u e=>?_) I.bare λb M=>?_
 ·refine(I.hok b u e).stay (λc v N q=>k c v ?_ q) (λ_ q=>q) λ_ _ q=>q
  rcases N with z|z
  ·rw[z];exact F b u e
  ·exact F c _ z
 ·obtain⟨_,U,_,W,J,Y⟩:=G b M
  exact⟨W,U,J,Y⟩
end My
namespace P
open PySem PySem.Spec PyProof.Rows L2
inductive D where
 | non|bl (b:Bool)|int (i:Int)|str (x:Str)|tup (l:List D)|lst (l:List D)
 | dK (l:List (Key×D))|dT (l:List (List Key×D))
abbrev Av:=Addr->Prop
section
variable (A:Av)(H:Hp)
mutual
/-- a heap bears a value that stays (the things that may still be written are in A) -/
inductive Rep:D->V->Prop where
 | non:Rep .non .non
 | bl (b:Bool):Rep (.bl b) (.bl b)
 | int (i:Int):Rep (.int i) (.int i)
 | str (x:Str):Rep (.str x) (.str x)
 | tup {l:List D} {a:Addr} {xs:List V} (h:H a=some (.tup xs)) (r:RepL l xs):Rep (.tup l) (.ref a)
 | lst {l:List D} {a:Addr} {xs:List V} (n:¬ A a) (h:Rd H a (.lst xs)) (r:RepL l xs):Rep (.lst l) (.ref a)
 | dK {l:List (Key×D)} {a:Addr} {xs:List (Key×V)} (n:¬ A a) (h:Rd H a (.dK xs)) (e:xs.map (·.1)=l.map (·.1)) (r:RepL (l.map (·.2)) (xs.map (·.2))):Rep (.dK l) (.ref a)
 | dT {l:List (List Key×D)} {a:Addr} {xs:List (List Key×V)} (n:¬ A a) (h:Rd H a (.dT xs)) (e:xs.map (·.1)=l.map (·.1)) (r:RepL (l.map (·.2)) (xs.map (·.2))):Rep (.dT l) (.ref a)
inductive RepL:List D->List V->Prop where
 | nil:RepL [] []
 | cons {d:D} {v:V} {ds:List D} {vs:List V} (h:Rep d v) (t:RepL ds vs):RepL (d::ds) (v::vs)
end
inductive RepB:D->V->Prop where
 | of {d:D} {v:V} (h:Rep A H d v):RepB d v
 | lst {l:List D} {a:Addr} {xs:List V} (h:Rd H a (.lst xs)) (r:RepL A H l xs):RepB (.lst l) (.ref a)
 | dK {l:List (Key×D)} {a:Addr} {xs:List (Key×V)} (h:Rd H a (.dK xs)) (e:xs.map (·.1)=l.map (·.1)) (r:RepL A H (l.map (·.2)) (xs.map (·.2))):RepB (.dK l) (.ref a)
 | dT {l:List (List Key×D)} {a:Addr} {xs:List (List Key×V)} (h:Rd H a (.dT xs)) (e:xs.map (·.1)=l.map (·.1)) (r:RepL A H (l.map (·.2)) (xs.map (·.2))):RepB (.dT l) (.ref a)
inductive Own:D->Addr->Prop where
 | lst {l:List D} {a:Addr} {xs:List V} (h:H a=some (.lst xs)) (r:RepL A H l xs):Own (.lst l) a
 | dK {l:List (Key×D)} {a:Addr} {xs:List (Key×V)} (h:H a=some (.dK xs)) (e:xs.map (·.1)=l.map (·.1)) (r:RepL A H (l.map (·.2)) (xs.map (·.2))):Own (.dK l) a
 | dT {l:List (List Key×D)} {a:Addr} {xs:List (List Key×V)} (h:H a=some (.dT xs)) (e:xs.map (·.1)=l.map (·.1)) (r:RepL A H (l.map (·.2)) (xs.map (·.2))):Own (.dT l) a
end
noncomputable def Kp:HO->Prop
 | .tup _=>True | .lst _=>True|_=>False
structure Ext(A:Av)(H H':Hp):Prop where
 rd:∀b u,Rd H b u->Rd H' b u
 kp:∀b u,Kp u->H b=some u->H' b=some u
 ow:∀b u,A b->H b=some u->H' b=some u
 fz:∀b o u,H b=some (.frz o u)->H' b=some (.frz o u)
theorem Ext.refl(A:Av)(H:Hp):Ext A H H:=⟨λ_ _ h=>h,λ_ _ _ h=>h,λ_ _ _ h=>h,λ_ _ _ h=>h⟩
theorem Ext.trans(a:Ext A H H1)(b:Ext A H1 H2):Ext A H H2:=
 ⟨λc u h=>b.rd c u (a.rd c u h),λc u k h=>b.kp c u k (a.kp c u k h),λc u n h=>b.ow c u n (a.ow c u n h),λc o u h=>b.fz c o u (a.fz c o u h)⟩
theorem Ext.mono(h:Ext A H H')(s:∀a,A' a->A a):Ext A' H H':=⟨h.rd,h.kp,λb u n e=>h.ow b u (s b n) e,h.fz⟩
theorem Ext.same(h:Same H H'):Ext A H H':=
 ⟨λb u r=>by rcases r with r|⟨o,r⟩;exact .inl (h _ _ r);exact .inr ⟨o,h _ _ r⟩,λb u _ r=>h _ _ r,λb u _ r=>h _ _ r,λb o u r=>h _ _ r⟩
theorem Ext.tp(x:Ext A H H')(b:Addr)(xs:List V)(h:H b=some (.tup xs)):H' b=some (.tup xs):=x.kp b _ trivial h
theorem Ext.new(h:H p=none):Ext A H (upd H p o):=Ext.same (My.t7 h)
mutual
theorem Rep.ext(x:Ext A H H'):Rep A H d v->Rep A H' d v
 | .non=>.non
 | .bl b=>.bl b
 | .int i=>.int i
 | .str s=>.str s
 | .tup h r=>.tup (x.tp _ _ h) (RepL.ext x r)
 | .lst n h r=>.lst n (x.rd _ _ h) (RepL.ext x r)
 | .dK n h e r=>.dK n (x.rd _ _ h) e (RepL.ext x r)
 | .dT n h e r=>.dT n (x.rd _ _ h) e (RepL.ext x r)
theorem RepL.ext(x:Ext A H H'):RepL A H ds vs->RepL A H' ds vs
 | .nil=>.nil
 | .cons h t=>.cons (Rep.ext x h) (RepL.ext x t)
end
theorem RepB.ext(x:Ext A H H'):RepB A H d v->RepB A H' d v
 | .of h=>.of (h.ext x)
 | .lst h r=>.lst (x.rd _ _ h) (r.ext x)
 | .dK h e r=>.dK (x.rd _ _ h) e (r.ext x)
 | .dT h e r=>.dT (x.rd _ _ h) e (r.ext x)
theorem Own.ext(x:Ext A H H')(q:A a):Own A H d a->Own A H' d a
 | .lst h r=>.lst (x.ow _ _ q h) (r.ext x)
 | .dK h e r=>.dK (x.ow _ _ q h) e (r.ext x)
 | .dT h e r=>.dT (x.ow _ _ q h) e (r.ext x)
theorem Own.b:Own A H d a->RepB A H d (.ref a)
 | .lst h r=>.lst (.inl h) r
 | .dK h e r=>.dK (.inl h) e r
 | .dT h e r=>.dT (.inl h) e r
mutual
/-- avoid other things: those that were not there, or fewer -/
theorem Rep.av(x:∀a,A' a->A a\/H a=none):Rep A H d v->Rep A' H d v
 | .non=>.non
 | .bl b=>.bl b
 | .int i=>.int i
 | .str s=>.str s
 | .tup h r=>.tup h (RepL.av x r)
 | .lst n h r=>.lst (λz=>(x _ z).elim n λz=>by rcases h with h|⟨o,h⟩ <;> (rw[z]at h;cases h)) h (RepL.av x r)
 | .dK n h e r=>.dK (λz=>(x _ z).elim n λz=>by rcases h with h|⟨o,h⟩ <;> (rw[z]at h;cases h)) h e (RepL.av x r)
 | .dT n h e r=>.dT (λz=>(x _ z).elim n λz=>by rcases h with h|⟨o,h⟩ <;> (rw[z]at h;cases h)) h e (RepL.av x r)
theorem RepL.av(x:∀a,A' a->A a\/H a=none):RepL A H ds vs->RepL A' H ds vs
 | .nil=>.nil
 | .cons h t=>.cons (Rep.av x h) (RepL.av x t)
end
noncomputable def PH:HO->Prop
 | .lst _=>True | .dK _=>True | .dT _=>True|_=>False
theorem dY(n:b≠a)(h:Rd H b u):Rd (upd H a o) b u:=by
 rcases h with h|⟨x,h⟩
 ·exact .inl (by rw[aC n];exact h)
 ·exact .inr ⟨x,by rw[aC n];exact h⟩
mutual
theorem Rep.put(q:A a)(F:H a=some u)(B:PH u):Rep A H d v->Rep A (upd H a o) d v
 | .non=>.non
 | .bl b=>.bl b
 | .int i=>.int i
 | .str s=>.str s
 | .tup (a:=b) h r=>.tup (by rw[aC (λz=>by subst z;rw[F]at h;cases h;exact B)];exact h) (RepL.put q F B r)
 | .lst (a:=b) n h r=>.lst n (dY (λz=>n (by rw[z];exact q)) h) (RepL.put q F B r)
 | .dK (a:=b) n h e r=>.dK n (dY (λz=>n (by rw[z];exact q)) h) e (RepL.put q F B r)
 | .dT (a:=b) n h e r=>.dT n (dY (λz=>n (by rw[z];exact q)) h) e (RepL.put q F B r)
theorem RepL.put(F:A a)(B:H a=some u)(q:PH u):RepL A H ds vs->RepL A (upd H a o) ds vs
 | .nil=>.nil
 | .cons h t=>.cons (Rep.put F B q h) (RepL.put F B q t)
end
theorem Own.put{A:Av}{H:Hp}{a b:Addr}{o u:HO}(G:A a)(B:H a=some u)(q:PH u)(F:b≠a){d:D}:Own A H d b->Own A (upd H a o) d b
 | .lst h r=>.lst (by rw[aC F];exact h) (r.put G B q)
 | .dK h e r=>.dK (by rw[aC F];exact h) e (r.put G B q)
 | .dT h e r=>.dT (by rw[aC F];exact h) e (r.put G B q)
theorem Own.av(x:∀a,A' a->A a\/H a=none):Own A H d a->Own A' H d a
 | .lst h r=>.lst h (r.av x)
 | .dK h e r=>.dK h e (r.av x)
 | .dT h e r=>.dT h e (r.av x)
theorem Own.rep(n:¬ A a):Own A H d a->Rep A H d (.ref a)
 | .lst h r=>.lst n (.inl h) r
 | .dK h e r=>.dK n (.inl h) e r
 | .dT h e r=>.dT n (.inl h) e r
section
variable {A:Av}{H:Hp}
theorem RepL.length:∀ {ds:List D} {vs:List V},RepL A H ds vs->vs.length=ds.length
 | _,_,.nil=>rfl
 | _,_,.cons _ t=>by rw[VR,VR,RepL.length t]
theorem RepL.get:∀ {ds:List D} {vs:List V} {i:Nat} {v:V},RepL A H ds vs->vs[i]?=some v->∃d,ds[i]?=some d/\Rep A H d v
 | _,_,i,v,.nil,e=>by simp at e
 | _,_,0,v,.cons h t,e=>by simp at e;subst e;exact⟨_,rfl,h⟩
 | _,_,i+1,v,.cons h t,e=>RepL.get (i:=i) t (by simpa using e)
theorem RepL.get':∀ {ds:List D} {vs:List V} {i:Nat} {d:D},RepL A H ds vs->ds[i]?=some d->∃v,vs[i]?=some v/\Rep A H d v
 | _,_,i,v,.nil,e=>by simp at e
 | _,_,0,v,.cons h t,e=>by simp at e;subst e;exact⟨_,rfl,h⟩
 | _,_,i+1,v,.cons h t,e=>RepL.get' (i:=i) t (by simpa using e)
theorem RepL.append:∀ {ds es:List D} {vs us:List V},RepL A H ds vs->RepL A H es us->RepL A H (ds++es) (vs++us)
 | _,_,_,_,.nil,s=>s
 | _,_,_,_,.cons h t,s=>.cons h (RepL.append t s)
theorem RepL.take:∀ {ds:List D} {vs:List V} (n:Nat),RepL A H ds vs->RepL A H (ds.take n) (vs.take n)
 | _,_,0,_=>by simp;exact .nil
 | _,_,n+1,.nil=>.nil
 | _,_,n+1,.cons h t=>.cons h (RepL.take n t)
theorem RepL.drop:∀ {ds:List D} {vs:List V} (n:Nat),RepL A H ds vs->RepL A H (ds.drop n) (vs.drop n)
 | _,_,0,r=>r
 | _,_,n+1,.nil=>.nil
 | _,_,n+1,.cons h t=>RepL.drop n t
theorem RepL.set:∀ {ds:List D} {vs:List V} {d:D} {v:V} (n:Nat),Rep A H d v->RepL A H ds vs->RepL A H (ds.set n d) (vs.set n v)
 | _,_,_,_,_,_,.nil=>.nil
 | _,_,_,_,0,r,.cons h t=>.cons r t
 | _,_,_,_,n+1,r,.cons h t=>.cons h (RepL.set n r t)
theorem Rep.b(h:Rep A H d v):RepB A H d v:=.of h
theorem RepB.int_inv(h:RepB A H (.int i) v):v=.int i:=by cases h with|of h=>cases h;rfl
theorem RepB.bl_inv(h:RepB A H (.bl i) v):v=.bl i:=by cases h with|of h=>cases h;rfl
theorem RepB.str_inv(h:RepB A H (.str i) v):v=.str i:=by cases h with|of h=>cases h;rfl
theorem RepB.non_inv(h:RepB A H .non v):v=.non:=by cases h with|of h=>cases h;rfl
theorem RepB.tup_inv(h:RepB A H (.tup l) v):∃a xs,v=.ref a/\H a=some (.tup xs)/\RepL A H l xs:=by
 cases h with|of h=>cases h with|tup h r=>exact⟨_,_,rfl,h,r⟩
theorem RepB.lst_inv(h:RepB A H (.lst l) v):∃a xs,v=.ref a/\Rd H a (.lst xs)/\RepL A H l xs:=by
 cases h with
 | of h=>cases h with|lst n h r=>exact⟨_,_,rfl,h,r⟩
 | lst h r=>exact⟨_,_,rfl,h,r⟩
theorem RepB.dK_inv(h:RepB A H (.dK l) v):∃a xs,v=.ref a/\Rd H a (.dK xs)/\xs.map (·.1)=l.map (·.1)/\RepL A H (l.map (·.2)) (xs.map (·.2)):=by
 cases h with
 | of h=>cases h with|dK n h e r=>exact⟨_,_,rfl,h,e,r⟩
 | dK h e r=>exact⟨_,_,rfl,h,e,r⟩
theorem RepB.dT_inv(h:RepB A H (.dT l) v):∃a xs,v=.ref a/\Rd H a (.dT xs)/\xs.map (·.1)=l.map (·.1)/\RepL A H (l.map (·.2)) (xs.map (·.2)):=by
 cases h with
 | of h=>cases h with|dT n h e r=>exact⟨_,_,rfl,h,e,r⟩
 | dT h e r=>exact⟨_,_,rfl,h,e,r⟩
end
abbrev bI:=List (Option D)
inductive Fact where
 | rep (d:D) (v:V)|fz (a:Addr) (o:Obj) (u:HO)
def Fact.Holds(A:Av)(H:Hp):Fact->Prop
 | .rep d v=>Rep A H d v
 | .fz a o u=>H a=some (.frz o u)
theorem Fact.ext(x:Ext A H H'):∀ {p:Fact},p.Holds A H->p.Holds A H'
 | .rep _ _,h=>Rep.ext x h
 | .fz _ _ _,h=>x.fz _ _ _ h
theorem Fact.av(x:∀a,A' a->A a\/H a=none):∀ {p:Fact},p.Holds A H->p.Holds A' H
 | .rep _ _,h=>Rep.av x h
 | .fz _ _ _,h=>h
theorem Fact.put(G:A a)(F:H a=some u)(B:PH u):∀ {p:Fact},p.Holds A H->p.Holds A (upd H a o)
 | .rep _ _,h=>Rep.put G F B h
 | .fz b q w,h=>by
  have h:H b=some (.frz q w):=h;show upd H a o b=some (.frz q w);rw[aC (λz=>by subst z;rw[F]at h;cases h;exact B)];exact h
structure ST(H0:Hp)(A0 A:Av)(E:List Fact)(O:List Nat)(σ:L2.St)(H:Hp)(ρ:bI):Prop where
 ex:Ext A0 H0 H
 sub:∀a,A0 a->A a
 l0:∀a,A0 a->H0 a≠none
 live:∀a,A a->H a≠none
 len:σ.length=ρ.length
 val:∀i d,ρ[i]?=some (some d)->i∉O->∃v,σ[i]?=some (some v)/\Rep A H d v
 own:∀i d,ρ[i]?=some (some d)->i∈O->∃a,σ[i]?=some (some (.ref a))/\A a/\H0 a=none/\Own A H d a
 inj:∀i j d d' a,i∈O->j∈O->ρ[i]?=some (some d)->ρ[j]?=some (some d')->σ[i]?=some (some (.ref a))->σ[j]?=some (some (.ref a))->i=j
 ext:∀p∈E,p.Holds A H
section
variable {H0:Hp}{A0 A:Av}{E:List Fact}{O:List Nat}{σ:L2.St}{H H':Hp}{ρ:bI}
theorem ST.mono(s:ST H0 A0 A E O σ H ρ)(x:Ext A H H'):ST H0 A0 A E O σ H' ρ where
 ex:=s.ex.trans (x.mono s.sub)
 sub:=s.sub
 l0:=s.l0
 live:=λa q=>by
  have:=s.live a q;cases e:H a with
  | none=>exact absurd e this
  | some u=>rw[x.ow a u q e];exact λz=>nomatch z
 len:=s.len
 val:=λi d h n=>by obtain⟨v,h1,h2⟩:=s.val i d h n;exact⟨v,h1,h2.ext x⟩
 own:=λi d h n=>by obtain⟨a,h1,h2,B,F⟩:=s.own i d h n;exact⟨a,h1,h2,B,F.ext x h2⟩
 inj:=s.inj
 ext:=λp G=>Fact.ext x (s.ext p G)
theorem ST.more(s:ST H0 A0 A E O σ H ρ)(h:Rep A H d v):ST H0 A0 A (.rep d v::E) O σ H ρ:=
 {s with ext:=λp q=>by rcases List.mem_cons.mp q with e|e;rw[e];exact h;exact s.ext p e}
theorem ST.less(s:ST H0 A0 A E O σ H ρ)(h:∀p∈E',p∈E):ST H0 A0 A E' O σ H ρ:=
 {s with ext:=λp q=>s.ext p (h p q)}
theorem b9(h:(ρ.set i o)[j]?=some (some d)):(j=i/\o=some d/\i<ρ.length)\/(j≠i/\ρ[j]?=some (some d)):=by
 rw[List.getElem?_set]at h;by_cases e:i=j
 ·rw[if_pos e]at h
  by_cases l:i<ρ.length
  ·rw[if_pos l]at h
   exact .inl ⟨e.symm,VX h,l⟩
  ·rw[if_neg l]at h;cases h
 ·rw[if_neg e]at h
  exact .inr ⟨λz=>e z.symm,h⟩
theorem sig_set(h:i<σ.length):(σ.set i (some v))[i]?=some (some v):=by simp[h]
theorem dD(h:j≠i):(σ.set i (some v))[j]?=σ[j]?:=by rw[zak (VY h)]
theorem ST.put(s:ST H0 A0 A E O σ H ρ)(h:Rep A H d v)(n:i∉O):ST H0 A0 A E O (σ.set i (some v)) H (ρ.set i (some d)) where
 ex:=s.ex
 sub:=s.sub
 l0:=s.l0
 live:=s.live
 len:=by simp[s.len]
 val:=λj d' h' B=>by
  rcases b9 h' with⟨e,q,l⟩|⟨e,q⟩
  ·subst e;cases q;exact⟨v,sig_set (by rw[s.len];exact l),h⟩
  ·obtain⟨w,h1,h2⟩:=s.val j d' q B;exact⟨w,by rw[dD e];exact h1,h2⟩
 own:=λj d' h' B=>by
  rcases b9 h' with⟨e,q,l⟩|⟨e,q⟩
  ·subst e;exact absurd B n
  ·obtain⟨w,h1,h2⟩:=s.own j d' q B;exact⟨w,by rw[dD e];exact h1,h2⟩
 inj:=λj k Y W a U N h1 h2 G J=>by
  have M:j≠i:=λz=>n (z ▸ U)
  have F:k≠i:=λz=>n (z ▸ N)
  rcases b9 h1 with⟨e,_⟩|⟨_,h1⟩
  ·exact absurd e M
  rcases b9 h2 with⟨e,_⟩|⟨_,h2⟩
  ·exact absurd e F
  exact s.inj j k Y W a U N h1 h2 (by rw[dD M]at G;exact G) (by rw[dD F]at J;exact J)
 ext:=s.ext
theorem ST.shut(s:ST H0 A0 A E O σ H ρ)(h:∀i,i∈O'->i∈O):∃A',ST H0 A0 A' E O' σ H ρ:=by
 let F:Av:=λa=>∃i d,i∈O/\i∉O'/\ρ[i]?=some (some d)/\σ[i]?=some (some (.ref a))
 have cut:∀a,(A a/\¬ F a)->A a\/H a=none:=λa z=>.inl z.1
 refine⟨λa=>A a/\¬ F a,s.ex,λa M=>⟨s.sub a M,?_⟩,s.l0,λa M=>s.live a M.1,s.len,λi d hi n=>?_,λi d hi n=>?_,λi j d d' a hi Y=>s.inj i j d d' a (h i hi) (h j Y),λp hp=>Fact.av cut (s.ext p hp)⟩
 ·rintro⟨i,d,h1,h2,U,W⟩
  obtain⟨b,q,B,J,G⟩:=s.own i d U h1;rw[W]at q;cases q;exact s.l0 a M J
 ·by_cases N:i∈O
  ·obtain⟨a,q,B,J,G⟩:=s.own i d hi N
   exact⟨.ref a,q,(G.av cut).rep λz=>z.2 ⟨i,d,N,n,hi,q⟩⟩
  ·obtain⟨v,q,B⟩:=s.val i d hi N
   exact⟨v,q,B.av cut⟩
 ·obtain⟨a,q,B,J,G⟩:=s.own i d hi (h i n)
  refine⟨a,q,⟨B,?_⟩,J,G.av cut⟩;rintro⟨j,d',h1,h2,U,W⟩;have:=s.inj i j d d' a (h i n) h1 hi U q W;subst this;exact h2 n
end
abbrev Ev:=bI->Option D
abbrev Bv:=bI->Option Bool
abbrev Lv:=bI->Option (List D)
abbrev RR:=Av->Hp->D->V->Prop
inductive tD(R:RR)(O:List Nat)(f:Ev)(σ:L2.St)(H:Hp)(Q:VK):Prop
 | mk (H0:Hp) (A0 A:Av) (E:List Fact) (ρ:bI) (d:D) (st:ST H0 A0 A E O σ H ρ) (e:f ρ=some d) (q:∀v H',Ext A H H'->R A H' d v->Q v H'):tD R O f σ H Q
inductive tDT(O:List Nat)(g:Bv)(σ:L2.St)(H:Hp)(Q:Bool->Hp->Prop):Prop
 | mk (H0:Hp) (A0 A:Av) (E:List Fact) (ρ:bI) (b:Bool) (st:ST H0 A0 A E O σ H ρ) (e:g ρ=some b) (q:∀H',Ext A H H'->Q b H'):tDT O g σ H Q
def PD(X:Cx)(O:List Nat)(e:Expr)(f:Ev):Prop:=PE X e (tD Rep O f)
def PB(X:Cx)(O:List Nat)(e:Expr)(f:Ev):Prop:=PE X e (tD RepB O f)
def jU(X:Cx)(O:List Nat)(e:Expr)(g:Bv):Prop:=PT X e (tDT O g)
def PDW(X:Cx)(O:List Nat)(e:Expr)(g:Bv):Prop:=PW X e (tDT O g)
theorem PDW.pt(h:PDW X O e g):jU X O e g:=PW.pt h
inductive RL(R:RR)(A:Av)(H:Hp):List D->List V->Prop where
 | nil:RL R A H [] []
 | cons {d v ds vs} (h:R A H d v) (t:RL R A H ds vs):RL R A H (d::ds) (v::vs)
inductive tDA(R:RR)(O:List Nat)(f:Lv)(σ:L2.St)(H:Hp)(Q:List V->Hp->Prop):Prop
 | mk (H0:Hp) (A0 A:Av) (E:List Fact) (ρ:bI) (ds:List D) (st:ST H0 A0 A E O σ H ρ) (e:f ρ=some ds) (q:∀vs H',Ext A H H'->RL R A H' ds vs->Q vs H'):tDA R O f σ H Q
def oF(X:Cx)(O:List Nat)(es:List Expr)(f:Lv):Prop:=PA X es (tDA Rep O f)
def oV(X:Cx)(O:List Nat)(es:List Expr)(f:Lv):Prop:=PA X es (tDA RepB O f)
section
variable {X:Cx}{O:List Nat}
theorem PE.mono(h:PE X e t)(x:∀σ H Q,t' σ H Q->t σ H Q):PE X e t':=λpins s σ H Q I w=>h pins s σ H Q I (x σ H Q w)
theorem PT.mono(h:PT X e t)(x:∀σ H Q,t' σ H Q->t σ H Q):PT X e t':=λpins s σ H Q I w=>h pins s σ H Q I (x σ H Q w)
theorem PW.mono(h:PW X e t)(x:∀σ H Q,t' σ H Q->t σ H Q):PW X e t':=λq pins s σ H Q I w=>h q pins s σ H Q I (x σ H Q w)
theorem PA.mono(h:PA X es t)(x:∀σ H Q,t' σ H Q->t σ H Q):PA X es t':=λpos pins s σ H Q I w=>h pos pins s σ H Q I (x σ H Q w)
theorem PD.b{e:Expr}{f:Ev}(h:PD X O e f):PB X O e f:=PE.mono h λσ H Q ⟨H0,A0,A,E,ρ,d,st,e,q⟩=>⟨H0,A0,A,E,ρ,d,st,e,λv H' x r=>q v H' x (.of r)⟩
theorem RL.toL:∀ {ds:List D} {vs:List V},RL Rep A H ds vs->RepL A H ds vs
 | _,_,.nil=>.nil
 | _,_,.cons h t=>.cons h (RL.toL t)
def aD(i:Nat):Ev:=λρ=>(ρ[i]?).join
def eC(d:D):Ev:=λ_=>some d
theorem aV{ρ:bI}{i:Nat}{d:D}(h:(ρ[i]?).join=some d):ρ[i]?=some (some d):=by
 cases e:ρ[i]? with
 | none=>rw[e]at h;cases h
 | some o=>rw[e]at h;cases o with
  | none=>cases h
  | some x=>cases h;rfl
theorem NJ{e:Expr}(i:Nat)(h:PE X e (hW i))(n:i∉O):PD X O e (aD i):=PE.mono h <| by
 rintro σ H Q ⟨H0,A0,A,E,ρ,d,st,e,q⟩;obtain⟨v,B,r⟩:=st.val i d (aV e) n;exact⟨v,B,q v H (Ext.refl _ _) r⟩
theorem LK{e:Expr}(i:Nat)(h:PE X e (hW i)):PB X O e (aD i):=PE.mono h <| by
 rintro σ H Q ⟨H0,A0,A,E,ρ,d,st,e,q⟩;by_cases n:i∈O
 ·obtain⟨a,B,_,_,r⟩:=st.own i d (aV e) n
  exact⟨_,B,q _ H (Ext.refl _ _) r.b⟩
 ·obtain⟨v,B,r⟩:=st.val i d (aV e) n
  exact⟨v,B,q v H (Ext.refl _ _) (.of r)⟩
theorem EL{i j pos}:PD X O (.Constant (.int i) j pos) (eC (.int i)):=PE.mono NG λσ H Q ⟨H0,A0,A,E,ρ,d,st,e,q⟩=>by cases e;exact q _ H (Ext.refl _ _) (.int _)
theorem QM{i j pos}:PD X O (.Constant (.bool i) j pos) (eC (.bl i)):=PE.mono P0 λσ H Q ⟨H0,A0,A,E,ρ,d,st,e,q⟩=>by cases e;exact q _ H (Ext.refl _ _) (.bl _)
theorem LX{i j pos}:PD X O (.Constant (.str i) j pos) (eC (.str i)):=PE.mono MC λσ H Q ⟨H0,A0,A,E,ρ,d,st,e,q⟩=>by cases e;exact q _ H (Ext.refl _ _) (.str _)
def Live(A:Av)(H:Hp):Prop:=∀a,A a->H a≠none
theorem Live.ext(l:Live A H)(x:Ext A H H'):Live A H':=λa q=>by
 cases e:H a with
 | none=>exact absurd e (l a q)
 | some u=>rw[x.ow a u q e];exact λz=>nomatch z
inductive rD(g:D->D->Option D)(x y:V)(H:Hp)(Q:VK):Prop
 | mk (A:Av) (dx dy d:D) (lv:Live A H) (rx:RepB A H dx x) (ry:RepB A H dy y) (e:g dx dy=some d) (q:∀v H',Ext A H H'->Rep A H' d v->Q v H'):rD g x y H Q
def fT(X:Cx)(f:Value->Value->Sem Value)(g:D->D->Option D):Prop:=OpR X f (rD g)
theorem OpR.mono(h:OpR X f r)(x:∀a b H Q,r' a b H Q->r a b H Q):OpR X f r':=λpins s σ H a b v u Q I q B w=>h pins s σ H a b v u Q I q B (x a b H Q w)
def bC(g:D->D->Option D)(q B:Ev):Ev:=λρ=>(q ρ).bind λx=>(B ρ).bind λy=>g x y
theorem bind_some{B q:Type}{o:Option B}{f:B->Option q}{b:q}(h:o.bind f=some b):∃a,o=some a/\f a=some b:=by
 cases o with
 | none=>cases h
 | some a=>exact⟨a,rfl,h⟩
theorem rW{g:D->D->Option D}{G J:Ev}{σ:L2.St}{H:Hp}{Q:VK}(h:tD Rep O (bC g G J) σ H Q):PJ (rD g) (tD RepB O G) (tD RepB O J) σ H Q:=by
 obtain⟨H0,A0,A,E,ρ,d,st,e,q⟩:=h;obtain⟨x,ex,e⟩:=bind_some e;obtain⟨y,ey,e⟩:=bind_some e;exact⟨H0,A0,A,E,ρ,x,st,ex,λv H1 F M=>⟨H0,A0,A,E,ρ,y,st.mono F,ey,λw H2 B N=>⟨A,x,y,d,(st.mono (F.trans B)).live,M.ext B,N,e,λz U Y W=>q z U ((F.trans B).trans Y) W⟩⟩⟩
theorem qD(F:fT X (WD op) g)(B:PB X O a fa)(q:PB X O b fb):PD X O (.BinOp a op b pos) (bC g fa fb):=
 PE.mono (FJ F B q) λσ H Q h=>rW h
theorem M8(G:fT X (VM op) g)(F:PB X O a fa)(q:PB X O b fb)(B:YK op b=false):PD X O (.Compare a [op] [b] pos) (bC g fa fb):=
 PE.mono (JR G F q B) λσ H Q h=>rW h
noncomputable def xT:D->Option Bool
 | .bl b=>some b
 | _=>none
theorem eE(h:xT d=some b):d=.bl b:=by
 cases d <;> cases h;rfl
def lN(f:Ev):Bv:=λρ=>(f ρ).bind xT
theorem fG{f:Ev}{σ:L2.St}{H:Hp}{Q:Bool->Hp->Prop}(h:tDT O (lN f) σ H Q):tD Rep O f σ H λx H'=>∃k,x=.bl k/\Q k H':=by
 obtain⟨H0,A0,A,E,ρ,b,st,e,q⟩:=h;obtain⟨x,ex,e⟩:=bind_some e;rw[eE e]at ex;exact⟨H0,A0,A,E,ρ,_,st,ex,λv H1 F B=>⟨b,RepB.bl_inv (.of B),q H1 F⟩⟩
theorem yU(G:fT X (VM op) g)(F:PB X O a fa)(q:PB X O b fb)(B:YK op b=false):jU X O (.Compare a [op] [b] pos) (lN (bC g fa fb)):=
 PT.mono (yZ G F q B) λσ H Q h=>rW (fG h)
theorem IW(h:PD X O e f)(B:∀q,isTrue e X.env q=(do let v <- q;standAt e.pos;YJ [v] (truthy v)):=by intro _;rfl):jU X O e (lN f):=
 PT.mono (NE h B) λσ H Q h=>fG h
def F5(g:Bv):Bv:=λρ=>(g ρ).map (!·)
def xN(g h:Bv):Bv:=λρ=>(g ρ).bind λb=>if b=true then h ρ else some false
def RZ(g h:Bv):Bv:=λρ=>(g ρ).bind λb=>if b=true then some true else h ρ
theorem GP(h:jU X O a g):jU X O (.UnaryOp .Not a pos) (F5 g):=PT.mono (OG h) <| by
 rintro σ H Q ⟨H0,A0,A,E,ρ,b,st,e,q⟩;unfold F5 at e;cases z:g ρ with
 | none=>rw[z]at e;cases e
 | some c=>rw[z]at e;cases e;exact⟨H0,A0,A,E,ρ,c,st,z,q⟩
theorem D3(h:jU X O a g):PDW X O (.BoolOp .And [a] pos) g:=JI h
theorem HJ(h:jU X O a g):PDW X O (.BoolOp .Or [a] pos) g:=OA h
theorem IA{a b:Expr}{rest:List Expr}{pos:Pos}{g k:Bv}(J:jU X O a g)(G:PDW X O (.BoolOp .And (b::rest) pos) k):PDW X O (.BoolOp .And (a::b::rest) pos) (xN g k):=
 PW.mono (MY J G) <| by
  rintro σ H Q ⟨H0,A0,A,E,ρ,b,st,e,q⟩;obtain⟨x,ex,e⟩:=bind_some e;refine⟨H0,A0,A,E,ρ,x,st,ex,λH1 B=>?_⟩;cases x with
  | false=>rw[if_neg VL]at e ⊢;cases e;exact q H1 B
  | true=>rw[if_pos rfl]at e ⊢;exact⟨H0,A0,A,E,ρ,b,st.mono B,e,λH2 F=>q H2 (B.trans F)⟩
theorem NC{a b:Expr}{rest:List Expr}{pos:Pos}{g k:Bv}(J:jU X O a g)(G:PDW X O (.BoolOp .Or (b::rest) pos) k):PDW X O (.BoolOp .Or (a::b::rest) pos) (RZ g k):=
 PW.mono (QS J G) <| by
  rintro σ H Q ⟨H0,A0,A,E,ρ,b,st,e,q⟩;obtain⟨x,ex,e⟩:=bind_some e;refine⟨H0,A0,A,E,ρ,x,st,ex,λH1 B=>?_⟩;cases x with
  | true=>rw[if_pos rfl]at e ⊢;cases e;exact q H1 B
  | false=>rw[if_neg VL]at e ⊢;exact⟨H0,A0,A,E,ρ,b,st.mono B,e,λH2 F=>q H2 (B.trans F)⟩
def ON(f g:Ev):Ev:=λρ=>(f ρ).bind λx=>(xT x).bind λb=>if b=true then g ρ else some (.bl false)
def Q1(f:Ev):Ev:=λρ=>(f ρ).bind λx=>(xT x).map λb=>.bl (!b)
def UG(c:Bv)(f g:Ev):Ev:=λρ=>(c ρ).bind λb=>if b=true then f ρ else g ρ
theorem MT{op}(h:PD X O a f):PD X O (.BoolOp op [a] pos) f:=NS h
theorem M7{a b:Expr}{rest:List Expr}{pos:Pos}{f g:Ev}(N:PD X O a f)(J:PD X O (.BoolOp .And (b::rest) pos) g):PD X O (.BoolOp .And (a::b::rest) pos) (ON f g):=
 PE.mono (MZ N J) <| by
  rintro σ H Q ⟨H0,A0,A,E,ρ,d,st,e,q⟩;obtain⟨x,ex,e⟩:=bind_some e;obtain⟨b,M,e⟩:=bind_some e;rw[eE M]at ex;refine⟨H0,A0,A,E,ρ,_,st,ex,λv H1 B G=>⟨b,RepB.bl_inv (.of G),?_⟩⟩;cases b with
  | false=>rw[if_neg VL]at e ⊢;cases e;exact q _ H1 B (.bl _)
  | true=>rw[if_pos rfl]at e ⊢;exact⟨H0,A0,A,E,ρ,d,st.mono B,e,λw H2 F=>q w H2 (B.trans F)⟩
theorem N0{a:Expr}{pos:Pos}{f:Ev}(F:PD X O a f):PD X O (.UnaryOp .Not a pos) (Q1 f):=
 PE.mono (NQ F) <| by
  rintro σ H Q ⟨H0,A0,A,E,ρ,d,st,e,q⟩;obtain⟨x,ex,e⟩:=bind_some e;cases z:xT x with
  | none=>rw[z]at e;cases e
  | some b=>
   rw[z]at e;cases e;rw[eE z]at ex;exact⟨H0,A0,A,E,ρ,_,st,ex,λv H1 G B=>⟨b,RepB.bl_inv (.of B),q _ H1 G (.bl _)⟩⟩
theorem QX{c a b:Expr}{pos:Pos}{g:Bv}{f k:Ev}(J:jU X O c g)(N:PD X O a f)(G:PD X O b k):PD X O (.IfExp c a b pos) (UG g f k):=
 PE.mono (CZ J N G) <| by
  rintro σ H Q ⟨H0,A0,A,E,ρ,d,st,e,q⟩;obtain⟨b,M,e⟩:=bind_some e;refine⟨H0,A0,A,E,ρ,b,st,M,λH1 B=>?_⟩;cases b with
  | true=>rw[if_pos rfl]at e ⊢;exact⟨H0,A0,A,E,ρ,d,st.mono B,e,λw H2 F=>q w H2 (B.trans F)⟩
  | false=>rw[if_neg VL]at e ⊢;exact⟨H0,A0,A,E,ρ,d,st.mono B,e,λw H2 F=>q w H2 (B.trans F)⟩
def eT(g g':D->D->Option D)(q B F:Ev):Ev:=λρ=>(q ρ).bind λx=>(B ρ).bind λy=>(g x y).bind λz=>(xT z).bind λb=>if b=true then(F ρ).bind λw=>g' y w else some (.bl false)
end
section
variable {X:Cx}{O:List Nat}
theorem pB(h:tD Rep O (eT g g' fa fb fc) σ H Q):xH (rD g) (rD g') (tD RepB O fa) (tD RepB O fb) (tD RepB O fc) σ H Q:=by
 obtain⟨H0,A0,A,E,ρ,d,st,e,q⟩:=h;obtain⟨x,ex,e⟩:=bind_some e;obtain⟨y,ey,e⟩:=bind_some e;obtain⟨z,U,e⟩:=bind_some e;obtain⟨b,eb,e⟩:=bind_some e;rw[eE eb]at U;refine⟨H0,A0,A,E,ρ,x,st,ex,λv H1 G Y=>⟨H0,A0,A,E,ρ,y,st.mono G,ey,λw H2 F N=>⟨A,x,y,_,(st.mono (G.trans F)).live,Y.ext F,N,U,λz H3 M r3=>⟨b,RepB.bl_inv (.of r3),?_⟩⟩⟩⟩;have B:=(G.trans F).trans M;cases b with
 | false=>rw[if_neg VL]at e ⊢;cases e;exact q _ H3 B (.bl _)
 | true=>
  rw[if_pos rfl]at e ⊢;obtain⟨u,eu,e⟩:=bind_some e;exact⟨H0,A0,A,E,ρ,u,st.mono B,eu,λz' H4 J r4=>⟨A,y,u,d,(st.mono (B.trans J)).live,N.ext (M.trans J),r4,e,λW H5 x5 r5=>q W H5 ((B.trans J).trans x5) r5⟩⟩
theorem D0(F:fT X (VM op) g)(q:fT X (VM op') g')(M:PB X O a fa)(B:PB X O b fb)(G:PB X O c fc)
  (J:Y7 [op,op'] [b,c]=false:=by with_unfolding_all rfl):PD X O (.Compare a [op,op'] [b,c] pos) (eT g g' fa fb fc):=PE.mono (CV F q M B G J) λσ H Q h=>pB h
theorem AK(F:fT X (VM op) g)(q:fT X (VM op') g')(M:PB X O a fa)(B:PB X O b fb)(G:PB X O c fc)
  (J:Y7 [op,op'] [b,c]=false:=by with_unfolding_all rfl):jU X O (.Compare a [op,op'] [b,c] pos) (lN (eT g g' fa fb fc)):=PT.mono (CQ F q M B G J) λσ H Q h=>pB (fG h)
def bQ:Lv:=λ_=>some []
def aH(f:Ev)(g:Lv):Lv:=λρ=>(f ρ).bind λx=>(g ρ).bind λxs=>some (x::xs)
theorem iY:oF X O [] bQ:=PA.mono hJ λσ H Q ⟨H0,A0,A,E,ρ,d,st,e,q⟩=>by cases e;exact q [] H (Ext.refl _ _) .nil
theorem gC:oV X O [] bQ:=PA.mono hJ λσ H Q ⟨H0,A0,A,E,ρ,d,st,e,q⟩=>by cases e;exact q [] H (Ext.refl _ _) .nil
theorem uJ(N:∀A H H' d v,Ext A H H'->R A H d v->R A H' d v)(h:tDA R O (aH f g) σ H Q):zM (tD R O f) (tDA R O g) σ H Q:=by
 obtain⟨H0,A0,A,E,ρ,d,st,e,q⟩:=h;obtain⟨x,ex,e⟩:=bind_some e;obtain⟨xs,B,e⟩:=bind_some e;cases e;exact⟨H0,A0,A,E,ρ,x,st,ex,λv H1 G J=>⟨H0,A0,A,E,ρ,xs,st.mono G,B,λvs H2 F M=>q (v::vs) H2 (G.trans F) (.cons (N _ _ _ _ _ F J) M)⟩⟩
theorem CB(B:PD X O e f)(q:oF X O es g)(hs:U8 (e::es) X.env=(false,eval e X.env)::U8 es X.env:=by rfl):oF X O (e::es) (aH f g):=
 PA.mono (cA B q hs) λσ H Q h=>uJ (λ_ _ _ _ _ x r=>r.ext x) h
theorem uF(B:PB X O e f)(q:oV X O es g)(hs:U8 (e::es) X.env=(false,eval e X.env)::U8 es X.env:=by rfl):oV X O (e::es) (aH f g):=
 PA.mono (cA B q hs) λσ H Q h=>uJ (λ_ _ _ _ _ x r=>r.ext x) h
inductive tF(O:List Nat)(f:Ev)(σ:L2.St)(H:Hp)(Q:VK):Prop
 | mk (H0:Hp) (A0 A:Av) (E:List Fact) (ρ:bI) (d:D) (st:ST H0 A0 A E O σ H ρ) (e:f ρ=some d) (q:∀a H',Ext A H H'->H a=none->¬ A a->Own (λb=>A b\/b=a) H' d a->Q (.ref a) H'):tF O f σ H Q
def PF(X:Cx)(O:List Nat)(e:Expr)(f:Ev):Prop:=PE X e (tF O f)
theorem PF.d(h:PF X O e f):PD X O e f:=PE.mono h λσ H Q ⟨H0,A0,A,E,ρ,d,st,e,q⟩=>
 ⟨H0,A0,A,E,ρ,d,st,e,λa H' x n B o=>q _ H' x ((o.av (A':=A) λb F=>.inl (.inl F)).rep B)⟩
theorem RepL.fresh(n:H p=none)(r:RepL A H ds vs):RepL (λb=>A b\/b=p) (upd H p o) ds vs:=by
 have B:RepL (λb=>A b\/b=p) H ds vs:=r.av λb q=>by
  rcases q with q|q
  ·exact .inl q
  ·exact .inr (q ▸ n)
 exact B.ext (Ext.new n)
theorem Ext.free(x:Ext A H H')(n:H' p=none):H p=none:=by
 cases e:H p with
 | none=>rfl
 | some u=>rcases x.rd p u (.inl e)with h|⟨o,h⟩ <;> (rw[n]at h;cases h)
def kX(g:Lv):Ev:=λρ=>(g ρ).map .tup
def sL(g:Lv):Ev:=λρ=>(g ρ).map .lst
theorem RL.length:∀ {ds:List D} {vs:List V},RL R A H ds vs->vs.length=ds.length
 | _,_,.nil=>rfl
 | _,_,.cons _ t=>by rw[VR,VR,RL.length t]
noncomputable def aW(n:Nat):Bool:=decide (n<=1000000)
theorem cI(h:aW n=true):n<=VC:=WM (of_decide_eq_true h) (by decide)
theorem lJ(h:aW n=true):n<VC:=ZZ (of_decide_eq_true h) (by decide)
theorem map_some{B q:Type}{o:Option B}{f:B->q}{b:q}(h:o.map f=some b):∃a,o=some a/\f a=b:=by
 cases o with
 | none=>cases h
 | some a=>exact⟨a,rfl,VX h⟩
def Len(g:Lv)(n:Nat):Prop:=∀ρ ds,g ρ=some ds->ds.length=n
theorem GV:Len bQ 0:=λρ ds h=>by cases h;rfl
theorem CI(h:Len g n):Len (aH f g) (n+1):=λρ ds e=>by
 obtain⟨x,ex,e⟩:=bind_some e;obtain⟨xs,q,e⟩:=bind_some e;cases e;rw[VR,h ρ xs q]
theorem EO{es:List Expr}{B}{pos:Pos}{g:Lv}(h:oF X O es g)(M:∀ρ ds,g ρ=some ds->ds.length<=100):PD X O (.Tuple es B pos) (kX g):=PE.mono (N3 h) <| by
 rintro σ H Q ⟨H0,A0,A,E,ρ,d,st,e,q⟩;obtain⟨ds,G,rfl⟩:=map_some e;refine⟨H0,A0,A,E,ρ,ds,st,G,λvs H1 B F=>⟨by rw[F.length];exact WM (M ρ ds G) (by decide),λp J=>?_⟩⟩;exact q _ _ (B.trans (Ext.new J)) (.tup aG (F.toL.ext (Ext.new J)))
theorem E8{es:List Expr}{pos:Pos}{g:Lv}(h:oF X O es g)(M:∀ρ ds,g ρ=some ds->ds.length<=100):PF X O (.List es pos) (sL g):=PE.mono (LV h) <| by
 rintro σ H Q ⟨H0,A0,A,E,ρ,d,st,e,q⟩;obtain⟨ds,J,rfl⟩:=map_some e;refine⟨H0,A0,A,E,ρ,ds,st,J,λvs H1 F G=>⟨by rw[G.length];exact WM (M ρ ds J) (by decide),λp B=>?_⟩⟩;exact q p _ (F.trans (Ext.new B)) (F.free B) (λz=>(st.mono F).live p z B) (.lst aG (G.toL.fresh B))
theorem DI:PF X O (.Dict [] [] pos) (eC (.dK [])):=PE.mono CF <| by
 rintro σ H Q ⟨H0,A0,A,E,ρ,d,st,e,q⟩ p B;cases e;exact q p _ (Ext.new B) B (λz=>st.live p z B) (.dK aG rfl .nil)
theorem tY:PF X O (.Dict [] [] pos) (eC (.dT [])):=PE.mono D4 <| by
 rintro σ H Q ⟨H0,A0,A,E,ρ,d,st,e,q⟩ p B;cases e;exact q p _ (Ext.new B) B (λz=>st.live p z B) (.dT aG rfl .nil)
inductive rC(g:List D->Option D)(xs:List V)(H:Hp)(Q:VK):Prop
 | mk (A:Av) (ds:List D) (d:D) (lv:Live A H) (r:RL RepB A H ds xs) (e:g ds=some d) (q:∀v H',Ext A H H'->Rep A H' d v->Q v H'):rC g xs H Q
inductive rCF(g:List D->Option D)(xs:List V)(H:Hp)(Q:VK):Prop
 | mk (A:Av) (ds:List D) (d:D) (lv:Live A H) (r:RL RepB A H ds xs) (e:g ds=some d) (q:∀a H',Ext A H H'->H a=none->¬ A a->Own (λb=>A b\/b=a) H' d a->Q (.ref a) H'):rCF g xs H Q
def jD(X:Cx)(f:Value)(g:List D->Option D):Prop:=CallR X f (rC g)
def zU(X:Cx)(f:Value)(g:List D->Option D):Prop:=CallR X f (rCF g)
theorem CallR.mono(h:CallR X f r)(x:∀a H Q,r' a H Q->r a H Q):CallR X f r':=λpins s σ H a v Q I q w=>h pins s σ H a v Q I q (x a H Q w)
def a6(g:List D->Option D)(f:Lv):Ev:=λρ=>(f ρ).bind g
theorem pE(h:tD Rep O (a6 g f) σ H Q):SA (rC g) (tDA RepB O f) σ H Q:=by
 obtain⟨H0,A0,A,E,ρ,d,st,e,q⟩:=h;obtain⟨ds,M,e⟩:=bind_some e;exact⟨H0,A0,A,E,ρ,ds,st,M,λvs H1 B G=>⟨A,ds,d,(st.mono B).live,G,e,λv H2 F J=>q v H2 (B.trans F) J⟩⟩
theorem BD(h:tF O (a6 g f) σ H Q):SA (rCF g) (tDA RepB O f) σ H Q:=by
 obtain⟨H0,A0,A,E,ρ,d,st,e,q⟩:=h;obtain⟨ds,J,e⟩:=bind_some e;exact⟨H0,A0,A,E,ρ,ds,st,J,λvs H1 B G=>⟨A,ds,d,(st.mono B).live,G,e,λa H2 F n M o=>q a H2 (B.trans F) (B.free n) M o⟩⟩
section
variable {x:Str}{id T:String}{g:List D->Option D}{e:Expr}{es:List Expr}{f:Lv}{p pos:Pos}
theorem CY(F:jD X (.builtin id) g)(N:Gl X x)(M:X.mg x=none)(J:V7 x=some (.builtin id))(W:oV X O (e::es) f)(U:x ≠ "__name__" := by decide)(B:(x == ("__debug__" : Str))=false:=by decide)
  (G:U8 (e::es) X.env=(false,eval e X.env)::U8 es X.env:=by rfl) (q:(VU pos (U8 es X.env)).any (·.1)=false:=by rfl) :
  PD X O (.Call (.Name x p) (e::es) [] pos) (a6 g f):=PE.mono (m8 F N M J W U B G q) λσ H Q h=>pE h
theorem BF(F:jD X (.type T) g)(N:Gl X x)(M:X.mg x=none)(J:V7 x=some (.type T))(W:oV X O (e::es) f)(U:x ≠ "__name__" := by decide)(B:(x == ("__debug__" : Str))=false:=by decide)
  (G:U8 (e::es) X.env=(false,eval e X.env)::U8 es X.env:=by rfl) (q:(VU pos (U8 es X.env)).any (·.1)=false:=by rfl) :
  PD X O (.Call (.Name x p) (e::es) [] pos) (a6 g f):=PE.mono (pG F N M J W U B G q) λσ H Q h=>pE h
theorem z5(F:zU X (.type T) g)(N:Gl X x)(M:X.mg x=none)(J:V7 x=some (.type T))(W:oV X O (e::es) f)(U:x ≠ "__name__" := by decide)(B:(x == ("__debug__" : Str))=false:=by decide)
  (G:U8 (e::es) X.env=(false,eval e X.env)::U8 es X.env:=by rfl) (q:(VU pos (U8 es X.env)).any (·.1)=false:=by rfl) :
  PF X O (.Call (.Name x p) (e::es) [] pos) (a6 g f):=PE.mono (pG F N M J W U B G q) λσ H Q h=>BD h
end
def TY(n:Nat)(F:List D->Option D):Sp:=λvs H Q _=>∃A ds d,Live A H/\RepL A H ds vs/\vs.length=n/\F ds=some d/\∀v H',Ext A H H'->Rep A H' d v->Q v H'
def Fn(P:VB)(w:World)(K:U6)(mg:Str->Option Value)(base:Heap)(x:Str)(k:Nat)(ps:List Str)(F:List D->Option D):Prop:=My.Ok P w K mg base x k ps (TY ps.length F)
theorem Fn.mono{P:VB}{w:World}{K:U6}{mg:Str->Option Value}{base:Heap}{x:Str}{j k:Nat}{ps:List Str}{F:List D->Option D}(h:Fn P w K mg base x j ps F)(l:j<=k):Fn P w K mg base x k ps F:=My.Ok.mono h l
theorem HM(O':Fn X.prog X.w X.K X.mg X.base x k ps F)(hr:Room k X.A)(hg:Gl X x)(ha:oF X O (e::es) f)(W:∀ρ ds,f ρ=some ds->ds.length=ps.length)(B:(x == ("__debug__" : Str))=false:=by decide)
  (he:U8 (e::es) X.env=(false,eval e X.env)::U8 es X.env:=by rfl) (G:(VU pos (U8 es X.env)).any (·.1)=false:=by rfl) :
  PD X O (.Call (.Name x p) (e::es) [] pos) (a6 F f):=PE.mono (My.mX O' hr hg ha B he G) λσ H Q ⟨H0,A0,A,E,ρ,d,st,e,q⟩=>by
 obtain⟨ds,N,e⟩:=bind_some e;exact⟨H0,A0,A,E,ρ,ds,st,N,λvs H1 M J=>⟨A,ds,d,(st.mono M).live,J.toL,by rw[J.length];exact W ρ ds N,e,λv H2 U Y=>q v H2 (M.trans U) Y⟩⟩
theorem IxR.mono(h:IxR X r)(x:∀a b H Q,r' a b H Q->r a b H Q):IxR X r':=λq B pins s σ H a b v u Q I F G w=>h q B pins s σ H a b v u Q I F G (x a b H Q w)
def R4:D->D->Option D
 | .lst l,.int i=>d7 l i
 | .tup l,.int i=>d7 l i
 | .str z,.int i=>if aW z.length then(d7 z.cps.toList i).map λc=>.str ⟨#[c]⟩else none
 | _,_=>none
theorem RepL.at(r:RepL A H ds vs)(h:d7 ds i=some d):∃v,d7 vs i=some v/\Rep A H d v:=by
 obtain⟨j,G,B⟩:=bind_some h;obtain⟨v,q,F⟩:=r.get' B;refine⟨v,?_,F⟩;unfold d7;rw[r.length,G];exact q
theorem SG:IxR X (rD R4):=IxR.mono N8 <| by
 rintro x y H Q ⟨A,dx,J,d,N,F,M,e,q⟩;cases J with
 | int i=>
  have:=M.int_inv;subst this;cases dx with
  | lst l=>
   obtain⟨a,xs,rfl,h,r⟩:=F.lst_inv;obtain⟨v,B,G⟩:=r.at e;exact .inl ⟨a,xs,i,v,rfl,rfl,.inl h,B,q v H (Ext.refl _ _) G⟩
  | tup l=>
   obtain⟨a,xs,rfl,h,r⟩:=F.tup_inv;obtain⟨v,B,G⟩:=r.at e;exact .inr (.inl ⟨a,xs,i,v,rfl,rfl,.inl (.inl h),B,q v H (Ext.refl _ _) G⟩)
  | str z=>
   have:=F.str_inv;subst this;simp only[R4]at e;by_cases hz:aW z.length=true
   ·rw[if_pos hz]at e
    obtain⟨c,B,rfl⟩:=map_some e;exact .inr (.inr ⟨z,i,c,rfl,rfl,cI hz,B,q _ H (Ext.refl _ _) (.str _)⟩)
   ·rw[if_neg hz]at e;cases e
  | _=>cases e
 | _=>cases dx <;> cases e
abbrev Ov:=bI->Option (Option Int)
inductive tDO(O:List Nat)(g:Ov)(σ:L2.St)(H:Hp)(Q:Option Int->Hp->Prop):Prop
 | mk (H0:Hp) (A0 A:Av) (E:List Fact) (ρ:bI) (o:Option Int) (st:ST H0 A0 A E O σ H ρ) (e:g ρ=some o) (q:∀H',Ext A H H'->Q o H'):tDO O g σ H Q
def LB(X:Cx)(O:List Nat)(e:Option Expr)(g:Ov):Prop:=PO X e (tDO O g)
theorem PO.mono(h:PO X e t)(x:∀σ H Q,t' σ H Q->t σ H Q):PO X e t':=λpins s σ H Q I w=>h pins s σ H Q I (x σ H Q w)
def qJ:Ov:=λ_=>some none
noncomputable def GC:D->Option Int
 | .int i=>some i
 | _=>none
theorem iV(h:GC d=some i):d=.int i:=by cases d <;> cases h;rfl
def kP(f:Ev):Ov:=λρ=>(f ρ).bind λd=>(GC d).map some
theorem CD:LB X O none qJ:=PO.mono JC λσ H Q ⟨H0,A0,A,E,ρ,d,st,e,q⟩=>by cases e;exact q H (Ext.refl _ _)
theorem DP{e:Expr}{f:Ev}(h:PD X O e f):LB X O (some e) (kP f):=PO.mono (I0 h) <| by
 rintro σ H Q ⟨H0,A0,A,E,ρ,d,st,e,q⟩;obtain⟨x,ex,e⟩:=bind_some e;obtain⟨i,B,rfl⟩:=map_some e;rw[iV B]at ex;exact⟨H0,A0,A,E,ρ,_,st,ex,λv H1 G F=>⟨i,RepB.int_inv (.of F),q H1 G⟩⟩
def cutD(xs:List D)(lo hi:Option Int):List D:=(xs.drop (HT.sIx xs.length 0 lo)).take (HT.sIx xs.length xs.length hi-HT.sIx xs.length 0 lo)
theorem RepL.cut{ds:List D}{vs:List V}{lo hi:Option Int}(r:RepL A H ds vs):RepL A H (cutD ds lo hi) (oT vs lo hi):=by
 unfold cutD oT;rw[r.length];exact(r.drop _).take _
def KD(g:D->Option Int->Option Int->Option D)(f:Ev)(a b:Ov):Ev:=λρ=>(f ρ).bind λx=>(a ρ).bind λlo=>(b ρ).bind λhi=>g x lo hi
inductive rS(g:D->Option Int->Option Int->Option D)(x:V)(lo hi:Option Int)(H:Hp)(Q:VK):Prop
 | mk (A:Av) (dx d:D) (lv:Live A H) (r:RepB A H dx x) (e:g dx lo hi=some d) (q:∀v H',Ext A H H'->Rep A H' d v->Q v H'):rS g x lo hi H Q
inductive rSF(g:D->Option Int->Option Int->Option D)(x:V)(lo hi:Option Int)(H:Hp)(Q:VK):Prop
 | mk (A:Av) (dx d:D) (lv:Live A H) (r:RepB A H dx x) (e:g dx lo hi=some d) (q:∀a H',Ext A H H'->H a=none->¬ A a->Own (λb=>A b\/b=a) H' d a->Q (.ref a) H'):rSF g x lo hi H Q
theorem SlR.mono(h:SlR X r)(x:∀a b c H Q,r' a b c H Q->r a b c H Q):SlR X r':=λpins s σ H a v J M lo hi B Q I q hs F G w=>h pins s σ H a v J M lo hi B Q I q hs F G (x a lo hi H Q w)
def S7:D->Option Int->Option Int->Option D
 | .tup l,lo,hi=>some (.tup (cutD l lo hi))
 | _,_,_=>none
def RK:D->Option Int->Option Int->Option D
 | .lst l,lo,hi=>some (.lst (cutD l lo hi))
 | _,_,_=>none
theorem D2{lo hi:Option Expr}{g:D->Option Int->Option Int->Option D}{a b:Ov}(N:SlR X (rS g))(U:PB X O e f)(M:LB X O lo a)(hu:LB X O hi b):PD X O (.Subscript e (.Slice lo hi none p2) pos) (KD g f a b):=
 PE.mono (DY N U M hu) <| by
  rintro σ H Q ⟨H0,A0,A,E,ρ,d,st,e,q⟩;obtain⟨x,ex,e⟩:=bind_some e;obtain⟨l,el,e⟩:=bind_some e;obtain⟨h,W,e⟩:=bind_some e;exact⟨H0,A0,A,E,ρ,x,st,ex,λv H1 F J=>⟨H0,A0,A,E,ρ,l,st.mono F,el,λH2 B=>⟨H0,A0,A,E,ρ,h,st.mono (F.trans B),W,λH3 G=>⟨A,x,d,(st.mono ((F.trans B).trans G)).live,J.ext (B.trans G),e,λv Y x4 r4=>q v Y (((F.trans B).trans G).trans x4) r4⟩⟩⟩⟩
theorem SI:SlR X (rS S7):=SlR.mono My.HL <| by
 rintro x lo hi H Q ⟨A,dx,d,J,F,e,q⟩;cases dx with
 | tup l=>
  obtain⟨a,xs,rfl,h,r⟩:=F.tup_inv;cases e;by_cases w:HT.sIx xs.length 0 lo=0/\HT.sIx xs.length xs.length hi=xs.length
  ·refine .inr ⟨a,xs,rfl,.inl (.inl h),w,q _ H (Ext.refl _ _) (.tup h ?_)⟩
   have G:oT xs lo hi=xs:=by unfold oT;rw[w.1,w.2];simp
   rw[<- G];exact r.cut
  ·exact .inl ⟨a,xs,rfl,.inl (.inl h),w,λp B=>q _ _ (Ext.new B) (.tup aG (r.cut.ext (Ext.new B)))⟩
 | _=>cases e
theorem SH:SlR X (rSF RK):=SlR.mono ID <| by
 rintro x lo hi H Q ⟨A,dx,d,G,F,e,q⟩;cases dx with
 | lst l=>
  obtain⟨a,xs,rfl,h,r⟩:=F.lst_inv;cases e;exact⟨a,xs,rfl,.inl h,λp B=>q p _ (Ext.new B) B (λz=>G p z B) (.lst aG (r.cut.fresh B))⟩
 | _=>cases e
end
inductive Out where
 | nx (ρ:bI)|rt (d:D)|bk (ρ:bI)|ct (ρ:bI)
abbrev Sv:=bI->Option Out
structure Lp where
 ob:List Nat
 oc:List Nat
def SC(L:Lp)(H0:Hp)(A0:Av)(E:List Fact)(O':List Nat)(T:Ends):Out->Prop
 | .nx ρ=>∀A σ H,ST H0 A0 A E O' σ H ρ->T.nx σ H
 | .rt d=>∀v H,Ext A0 H0 H->Rep A0 H d v->T.rt v H
 | .bk ρ=>∀A σ H,ST H0 A0 A E L.ob σ H ρ->T.bk σ H
 | .ct ρ=>∀A σ H,ST H0 A0 A E L.oc σ H ρ->T.ct σ H
inductive tS(L:Lp)(O:List Nat)(f:Sv)(O':List Nat)(T:Ends)(σ:L2.St)(H:Hp):Prop
 | mk (H0:Hp) (A0 A:Av) (E:List Fact) (ρ:bI) (out:Out) (st:ST H0 A0 A E O σ H ρ) (e:f ρ=some out) (p:SC L H0 A0 E O' T out):tS L O f O' T σ H
def PSD(X:Cx)(L:Lp)(O:List Nat)(st:Stmt)(f:Sv)(O':List Nat):Prop:=PS X st (tS L O f O')
def PSDs(X:Cx)(L:Lp)(O:List Nat)(st:List Stmt)(f:Sv)(O':List Nat):Prop:=PSs X st (tS L O f O')
section
variable {X:Cx}{L:Lp}{O O' O2:List Nat}
theorem PS.mono{st:Stmt}{t t':TS}(h:PS X st t)(x:∀T σ H,t' T σ H->t T σ H):PS X st t':=λpins s σ H T I w=>h pins s σ H T I (x T σ H w)
theorem PSs.mono{st:List Stmt}{t t':TS}(h:PSs X st t)(x:∀T σ H,t' T σ H->t T σ H):PSs X st t':=λpins s σ H T I w=>h pins s σ H T I (x T σ H w)
noncomputable def Sub(a b:List Nat):Bool:=a.all λi=>b.contains i
theorem Sub.mem(h:Sub a b=true)(i:Nat)(hi:i∈a):i∈b:=by
 have:=(List.all_eq_true.mp h) i hi;simpa using this
theorem tS.pre(h:Sub O1 O=true)(t:tS L O f O' T σ H):tS L O1 f O' T σ H:=by
 obtain⟨H0,A0,A,E,ρ,q,st,e,p⟩:=t;obtain⟨A',B⟩:=st.shut (Sub.mem h);exact⟨H0,A0,A',E,ρ,q,B,e,p⟩
theorem PSDs.pre{st:List Stmt}{O1:List Nat}(t:PSDs X L O1 st f O')(h:Sub O1 O=true):PSDs X L O st f O':=PSs.mono t λT σ H z=>tS.pre h z
theorem PSD.pre{st:Stmt}{f:Sv}{O1:List Nat}(t:PSD X L O1 st f O')(h:Sub O1 O=true):PSD X L O st f O':=PS.mono t λT σ H z=>tS.pre h z
def O0:Sv:=λρ=>some (.nx ρ)
def c6(f g:Sv):Sv:=λρ=>(f ρ).bind λo=>match o with
 | .nx ρ'=>g ρ'
 | o=>some o
theorem x8(h:Sub O' O=true:=by rfl):PSDs X L O [] O0 O':=PSs.mono yJ <| by
 rintro T σ H ⟨H0,A0,A,E,ρ,B,st,e,p⟩;cases e;obtain⟨A',q⟩:=st.shut (Sub.mem h);exact p A' σ H q
theorem JD(h:tS L O (c6 f g) O' T σ H):Q5 (tS L O f O2) (tS L O2 g O') T σ H:=by
 obtain⟨H0,A0,A,E,ρ,q,st,e,p⟩:=h;obtain⟨o,F,e⟩:=bind_some e;refine⟨H0,A0,A,E,ρ,o,st,F,?_⟩;cases o with
 | nx ρ'=>exact λA' G H' B=>⟨H0,A0,A',E,ρ',q,B,e,p⟩
 | rt d=>cases e;exact p
 | bk d=>cases e;exact p
 | ct d=>cases e;exact p
theorem DW{st:Stmt}{rest:List Stmt}{f g:Sv}(h1:PSD X L O st f O2)(h2:PSDs X L O2 rest g O'):PSDs X L O (st::rest) (c6 f g) O':=PSs.mono (uL h1 h2) λT σ H h=>JD h
theorem aM{st:Stmt}{f:Sv}(h1:PSD X L O st f O'):PSDs X L O [st] f O':=yP h1
def LA(f:Ev):Sv:=λρ=>(f ρ).map .rt
theorem IB{e:Expr}{pos:Pos}{f:Ev}(B:PD X O e f):PSD X L O (.Return (some e) pos) (LA f) O':=PS.mono (xF B) <| by
 rintro T σ H ⟨H0,A0,A,E,ρ,q,st,e,p⟩;obtain⟨d,F,rfl⟩:=map_some e;exact⟨H0,A0,A,E,ρ,d,st,F,λv H' x r=>p v H' (st.mono x).ex (r.av λa G=>.inl (st.sub a G))⟩
def FI(f:Ev):Sv:=λρ=>(f ρ).map λ_=>.nx ρ
theorem CP{e:Expr}{pos:Pos}{f:Ev}(F:PB X O e f)(hs:V3 e none pos.line X.env=pure false:=by rfl)(h:Sub O' O=true:=by rfl):PSD X L O (.Expr e pos) (FI f) O':=PS.mono (qY F hs) <| by
 rintro T σ H ⟨H0,A0,A,E,ρ,B,st,e,p⟩;obtain⟨d,G,rfl⟩:=map_some e;refine⟨H0,A0,A,E,ρ,d,st,G,λv H' x r=>?_⟩;obtain⟨A',q⟩:=(st.mono x).shut (Sub.mem h);exact p A' σ H' q
def GJ(c:Bv)(f g:Sv):Sv:=λρ=>(c ρ).bind λb=>if b=true then f ρ else g ρ
theorem xB{c:Expr}{a b:List Stmt}{pos:Pos}{g:Bv}{f k:Sv}(G:jU X O c g)(M:PSDs X L O a f O')(F:PSDs X L O b k O'):PSD X L O (.If c a b pos) (GJ g f k) O':=PS.mono (KM G M F) <| by
 rintro T σ H ⟨H0,A0,A,E,ρ,q,st,e,p⟩;obtain⟨b,J,e⟩:=bind_some e;refine⟨H0,A0,A,E,ρ,b,st,J,λH1 B=>?_⟩;cases b with
 | true=>rw[if_pos rfl]at e ⊢;exact⟨H0,A0,A,E,ρ,q,st.mono B,e,p⟩
 | false=>rw[if_neg VL]at e ⊢;exact⟨H0,A0,A,E,ρ,q,st.mono B,e,p⟩
def d5(i:Nat)(f:Ev):Sv:=λρ=>(f ρ).map λd=>.nx (ρ.set i (some d))
theorem Sub.er{a b:List Nat}{i j:Nat}(h:Sub a (b.filter (· != i))=true)(q:j∈a):j∈b/\j≠i:=by
 have:=Sub.mem h j q;rw[List.mem_filter]at this;exact⟨this.1,by simpa using this.2⟩
theorem yH{i:Nat}{x:Str}{e:Expr}{pos pos':Pos}{f:Ev}(hN:X.N.Nodup)(hi:X.N[i]?=some x)(G:Loc X.env.scope x)(U:PD X O e f)(h:Sub O' (O.filter (· != i))=true:=by rfl)
  (hs:V3 e (some (.Name x pos')) pos.line X.env=pure false:=by rfl) (M:X.fn x=true\/X.env.scope.names.lookup x=some .local:=by first|exact .inl rfl|exact .inr rfl):PSD X L O (.Assign [.Name x pos'] e pos) (d5 i f) O':=
 PS.mono (rV hN hi G U hs M) <| by
  rintro T σ H ⟨H0,A0,A,E,ρ,W,st,e,p⟩;obtain⟨d,Y,rfl⟩:=map_some e;refine⟨H0,A0,A,E,ρ,d,st,Y,λv H' x r=>?_⟩
  -- i leaves what may be written ahead of the store: the value is borne by fewer too
  have F:=(st.mono x).more r;obtain⟨A',B⟩:=F.shut (O':=O') λj hj=>(Sub.er h hj).1
  exact p A' _ H' ((B.put (B.ext _ (V2 ..)) λz=>(Sub.er h z).2 rfl).less λq J=>V1 _ J)
theorem Own.there:Own A H d a->H a≠none
 | .lst h _=>by rw[h];exact λz=>nomatch z
 | .dK h _ _=>by rw[h];exact λz=>nomatch z
 | .dT h _ _=>by rw[h];exact λz=>nomatch z
theorem ST.own_put(s:ST H0 A0 A E O σ H ρ)(x:Ext A H H')(n:H a=none)(na:¬ A a)(o:Own (λb=>A b\/b=a) H' d a)(ni:i∉O) :
  ST H0 A0 (λb=>A b\/b=a) E (i::O) (σ.set i (some (.ref a))) H' (ρ.set i (some d)):=by
 have s':=s.mono x;have n0:H0 a=none:=s.ex.free n
 -- whatever was borne ahead avoids a
 have G:Ext (λb=>A b\/b=a) H H':=⟨x.rd,x.kp,λb u q e=>q.elim (λq=>x.ow b u q e) λq=>(by subst q;rw[n]at e;exact nomatch e),x.fz⟩;have ac:∀ {p:Fact},p.Holds A H->p.Holds (λb=>A b\/b=a) H':=λr=>Fact.ext G (Fact.av (A':=λb=>A b\/b=a) (λb q=>by
   rcases q with q|q
   ·exact .inl q
   ·exact .inr (q ▸ n)) r)
 have up:∀ {d:D} {v:V},Rep A H d v->Rep (λb=>A b\/b=a) H' d v:=λr=>by
  have r1:Rep (λb=>A b\/b=a) H _ _:=r.av λb q=>by
   rcases q with q|q
   ·exact .inl q
   ·exact .inr (q ▸ n)
  exact r1.ext G
 have aa:∀ {d:D} {b:Addr},A b->Own A H d b->Own (λc=>A c\/c=a) H' d b:=λq r=>by
  have r1:Own (λc=>A c\/c=a) H _ _:=r.av λb q=>by
   rcases q with q|q
   ·exact .inl q
   ·exact .inr (q ▸ n)
  exact r1.ext G (.inl q)
 have ha:H' a≠none:=o.there;refine⟨s'.ex,λb q=>.inl (s.sub b q),s.l0,λb q=>?_,by simp[s.len],λj d' h' Y=>?_,λj d' h' Y=>?_,λj k M d2 b hj hk h1 h2 F U=>?_,λp hp=>ac (s.ext p hp)⟩
 ·rcases q with q|q
  ·exact s'.live b q
  ·subst q;exact ha
 ·rcases b9 h' with⟨e,B,l⟩|⟨e,B⟩
  ·exact absurd (List.mem_cons.mpr (.inl e)) Y
  ·obtain⟨w,h1,h2⟩:=s.val j d' B λz=>Y (V1 _ z)
   exact⟨w,by rw[dD e];exact h1,up h2⟩
 ·rcases b9 h' with⟨e,B,l⟩|⟨e,B⟩
  ·subst e;cases B
   exact⟨a,sig_set (by rw[s.len];exact l),.inr rfl,n0,o⟩
  ·rcases List.mem_cons.mp Y with z|z
   ·exact absurd z e
   ·obtain⟨w,h1,h2,F,U⟩:=s.own j d' B z
    exact⟨w,by rw[dD e];exact h1,.inl h2,F,aa h2 U⟩
 ·have J:∀ {j:Nat} {M:D},j∈i::O->(ρ.set i (some d))[j]?=some (some M)->(σ.set i (some (.ref a)))[j]?=some (some (.ref b))->(j=i/\b=a)\/(j≠i/\j∈O/\ρ[j]?=some (some M)/\σ[j]?=some (some (.ref b))/\b≠a):=by
   intro j M hj h1 F;rcases b9 h1 with⟨e,B,l⟩|⟨e,B⟩
   ·subst e
    rw[sig_set (by rw[s.len];exact l)]at F;cases F;exact .inl ⟨rfl,rfl⟩
   ·rcases List.mem_cons.mp hj with z|z
    ·exact absurd z e
    ·rw[dD e]at F
     obtain⟨w,q1,q2,_⟩:=s.own j M B z;rw[F]at q1;cases q1;exact .inr ⟨e,z,B,F,λz=>na (z ▸ q2)⟩
  rcases J hj h1 F with⟨e1,B⟩|⟨e1,B,e3,e4,e5⟩
  ·rcases J hk h2 U with⟨W,N⟩|⟨W,N,f3,f4,f5⟩
   ·rw[e1,W]
   ·exact absurd B f5
  ·rcases J hk h2 U with⟨W,N⟩|⟨W,N,f3,f4,f5⟩
   ·exact absurd N e5
   ·exact s.inj j k M d2 b B N e3 f3 e4 f4
theorem CC{i:Nat}{x:Str}{e:Expr}{pos pos':Pos}{f:Ev}(hN:X.N.Nodup)(hi:X.N[i]?=some x)(B:Loc X.env.scope x)(G:PF X O e f)(h:Sub O' (i::O)=true:=by rfl)(W:O.contains i=false:=by rfl)
  (hs:V3 e (some (.Name x pos')) pos.line X.env=pure false:=by rfl) (F:X.fn x=true\/X.env.scope.names.lookup x=some .local:=by first|exact .inl rfl|exact .inr rfl):PSD X L O (.Assign [.Name x pos'] e pos) (d5 i f) O':=
 PS.mono (rV hN hi B G hs F) <| by
  rintro T σ H ⟨H0,A0,A,E,ρ,J,st,e,p⟩;obtain⟨d,M,rfl⟩:=map_some e;refine⟨H0,A0,A,E,ρ,d,st,M,λa H' x n Y o=>?_⟩;have ni:i∉O:=λz=>by
   have:O.contains i=true:=by simpa using z
   rw[W]at this;cases this
  obtain⟨U,q⟩:=(st.own_put x n Y o ni).shut (Sub.mem h);exact p U _ H' q
theorem ST.write(s:ST H0 A0 A E O σ H ρ)(hi:ρ[i]?=some (some d))(hO:i∈O)(hs:σ[i]?=some (some (.ref a)))(U:A a)(h0:H0 a=none)(Y:H a=some u)(ob:PH u)(hn:Own A (upd H a o) d' a) :
  ST H0 A0 A E O σ (upd H a o) (ρ.set i (some d')):=by
 have B:∀b,H0 b≠none->b≠a:=λb hb z=>hb (z ▸ h0)
 refine⟨⟨λb w r=>?_,λb xs k r=>?_,λb w n r=>?_,λb q w r=>?_⟩,s.sub,s.l0,λb hb=>?_,by simp[s.len],λj G h' M=>?_,λj G h' M=>?_,λj k N G b hj hk h1 h2 h3 W=>?_,λp hp=>Fact.put U Y ob (s.ext p hp)⟩
 ·refine dY (B b ?_) (s.ex.rd b w r)
  rcases r with r|⟨_,r⟩ <;> (rw[r];exact λz=>nomatch z)
 ·rw[aC (B b (by rw[r];exact λz=>nomatch z))];exact s.ex.kp b xs k r
 ·rw[aC (B b (by rw[r];exact λz=>nomatch z))];exact s.ex.ow b w n r
 ·rw[aC (B b (by rw[r];exact λz=>nomatch z))];exact s.ex.fz b q w r
 ·by_cases e:b=a
  ·subst e;rw[aG];exact λz=>nomatch z
  ·rw[aC e];exact s.live b hb
 ·rcases b9 h' with⟨e,F,l⟩|⟨e,F⟩
  ·subst e;exact absurd hO M
  ·obtain⟨w,h1,h2⟩:=s.val j G F M
   exact⟨w,h1,h2.put U Y ob⟩
 ·rcases b9 h' with⟨e,F,l⟩|⟨e,F⟩
  ·subst e;cases F;exact⟨a,hs,U,h0,hn⟩
  ·obtain⟨b,h1,h2,h3,W⟩:=s.own j G F M
   refine⟨b,h1,h2,h3,W.put U Y ob λz=>?_⟩;subst z;exact e (s.inj j i G d b M hO F hi h1 hs)
 ·have J:∀ {j:Nat} {N:D},(ρ.set i (some d'))[j]?=some (some N)->∃d0,ρ[j]?=some (some d0):=by
   intro j N h;rcases b9 h with⟨e,_,_⟩|⟨_,e⟩
   ·subst e;exact⟨d,hi⟩
   ·exact⟨N,e⟩
  obtain⟨x,hx⟩:=J h1;obtain⟨y,hy⟩:=J h2;exact s.inj j k x y b hj hk hx hy h3 W
noncomputable def mem(O:List Nat)(i:Nat):Bool:=O.contains i
theorem fH(h:mem O i=true):i∈O:=by simpa[mem]using h
def F3(i:Nat)(f:Ev):Sv:=λρ=>(aD i ρ).bind λx=>match x with
 | .lst l=>(f ρ).bind λd=>if aW l.length then some (.nx (ρ.set i (some (.lst (l++[d])))))else none
 | _=>none
theorem vS{o e:Expr}{i:Nat}{apos cpos pos:Pos}{f:Ev}(ho:PE X o (hW i))(he:PD X O e f)(F:mem O i=true)(Y:PE X (.Call (.Attribute o "append" apos) [e] [] cpos) (RX X.K "list" yN (hW i) (zM (tD Rep O f) OS)))
  (hs:V3 (.Call (.Attribute o "append" apos) [e] [] cpos) none pos.line X.env=pure false:=by rfl) (h:Sub O' O=true:=by rfl):PSD X L O (.Expr (.Call (.Attribute o "append" apos) [e] [] cpos) pos) (F3 i f) O':=
 PS.mono (qY Y hs) <| by
  rintro T σ H ⟨H0,A0,A,E,ρ,M,st,e,p⟩;obtain⟨x,ex,e⟩:=bind_some e;cases x with
  | lst l=>
   obtain⟨d,U,e⟩:=bind_some e;by_cases hz:aW l.length=true
   ·rw[if_pos hz]at e
    cases e;obtain⟨a,J,q,W,N⟩:=st.own i _ (aV ex) (fH F);cases N with
    | lst h4 r4=>
     refine⟨_,J,.inl ⟨rfl,_,SqL.of h4⟩,H0,A0,A,E,ρ,d,st,U,λv H' x r=>⟨a,_,v,rfl,rfl,x.ow _ _ q h4,by rw[r4.length];exact lJ hz,?_⟩⟩;have G:=x.ow _ _ q h4;obtain⟨A',B⟩:=((st.mono x).write (o:=.lst _) (aV ex) (fH F) J q W G trivial (.lst aG (((r4.ext x).append (.cons r .nil)).put q G trivial))).shut (Sub.mem h);exact p A' σ _ B
   ·rw[if_neg hz]at e;cases e
  | _=>cases e
def RO:D->Option Key
 | .int i=>some (.inl i)
 | .str x=>some (.inr x)
 | _=>none
def F7:List D->Option (List Key)
 | []=>some []
 | d::ds=>(RO d).bind λk=>(F7 ds).bind λks=>some (k::ks)
def KG:D->Option (List Key)
 | .tup l=>F7 l
 | _=>none
noncomputable def dF{κ:Type}[DecidableEq κ](l:List (κ×D))(k:κ):Option D:=(l.find? λp=>decide (p.1=k)).map (·.2)
noncomputable def putD{κ:Type}[DecidableEq κ](l:List (κ×D))(k:κ)(d:D):List (κ×D):=if l.any (λp=>decide (p.1=k))then l.map (λp=>if p.1=k then(p.1,d)else p)else l++[(k,d)]
end
section
variable {A:Av}{H:Hp}
section
variable {κ:Type}[DecidableEq κ]
abbrev PP(A:Av)(H:Hp):List (κ×D)->List (κ×V)->Prop:=WK λ(p:κ×D) (q:κ×V)=>p.1=q.1/\Rep A H p.2 q.2
theorem p8:∀ {l:List (κ×D)} {xs:List (κ×V)},xs.map (·.1)=l.map (·.1)->RepL A H (l.map (·.2)) (xs.map (·.2))->PP A H l xs
 | [],[],_,_=>.nil
 | [],_::_,e,_=>by cases e
 | _::_,[],e,_=>by cases e
 | p::l,q::xs,e,r=>by
  rw[VG,VG]at e r;injection e with e1 e2
  cases r with
  | cons h t=>exact .cons ⟨e1.symm,h⟩ (p8 e2 t)
theorem zQ:∀ {l:List (κ×D)} {xs:List (κ×V)},PP A H l xs->xs.map (·.1)=l.map (·.1)/\RepL A H (l.map (·.2)) (xs.map (·.2))
 | _,_,.nil=>⟨rfl,.nil⟩
 | _,_,.cons h t=>by
  obtain⟨e,r⟩:=zQ t;exact⟨by rw[VG,VG,h.1,e],.cons h.2 r⟩
theorem E9(k:κ)(h:PP A H l xs):(dF l k=none/\jE xs k=none)\/∃d v,dF l k=some d/\jE xs k=some v/\Rep A H d v:=by
 induction h with
 | nil=>exact .inl ⟨rfl,rfl⟩
 | @cons p q l xs h t ih=>
  by_cases e:p.1=k
  ·refine .inr ⟨p.2,q.2,?_,iN (h.1 ▸ e),h.2⟩
   simp[dF,WZ,e]
  ·have B:¬ q.1=k:=λz=>e (h.1.trans z)
   have a:dF (p::l) k=dF l k:=by simp[dF,WZ,e]
   rw[a,iT B];exact ih
theorem NM(k:κ)(h:PP A H l xs):(l.any λp=>decide (p.1=k))=xs.any λp=>decide (p.1=k):=by
 induction h with
 | nil=>rfl
 | cons h t ih=>rw[XE,XE,ih,h.1]
theorem LG(k:κ)(r:Rep A H d v)(h:PP A H l xs):PP A H (l.map λp=>if p.1=k then(p.1,d)else p) (xs.map λp=>if p.1=k then(p.1,v)else p):=by
 induction h with
 | nil=>exact .nil
 | @cons p q l xs h t ih=>
  rw[VG,VG];refine .cons ?_ ih;by_cases e:p.1=k
  ·rw[if_pos e,if_pos (h.1 ▸ e)];exact⟨h.1,r⟩
  ·rw[if_neg e,if_neg (λz=>e (h.1.trans z))];exact h
theorem MX(h:PP A H l xs)(h':PP A H m ys):PP A H (l++m) (xs++ys):=by
 induction h with
 | nil=>exact h'
 | cons h t ih=>exact .cons h ih
theorem w9(k:κ)(r:Rep A H d v)(h:PP A H l xs):PP A H (putD l k d) (putK xs k v):=by
 unfold putD putK;rw[NM k h];by_cases e:(xs.any λp=>decide (p.1=k))=true
 ·rw[if_pos e,if_pos e];exact LG k r h
 ·rw[if_neg e,if_neg e];exact MX h (.cons ⟨rfl,r⟩ .nil)
end
theorem k7(h:RO d=some k)(r:RepB A H d v):v=kV k:=by
 cases d <;> cases h
 ·exact r.int_inv
 ·exact r.str_inv
theorem uU:∀ {ds:List D} {ks:List Key} {vs:List V},F7 ds=some ks->RepL A H ds vs->vs=ks.map kV
 | _,_,_,h,.nil=>by cases h;rfl
 | _,_,_,h,.cons r t=>by
  obtain⟨k,B,h⟩:=bind_some h;obtain⟨ks,q,h⟩:=bind_some h;cases h;rw[VG,k7 B (.of r),uU q t]
theorem yG(h:KG d=some k)(r:RepB A H d v):∃b,v=.ref b/\H b=some (.tup (k.map kV)):=by
 cases d <;> try cases h
 rename_i l;obtain⟨a,xs,rfl,h1,h2⟩:=r.tup_inv;exact⟨a,rfl,by rw[h1,uU h h2]⟩
def dU:D->D->Option (Option D)
 | .dK l,k=>(RO k).map λk=>dF l k
 | .dT l,k=>(KG k).map λk=>dF l k
 | _,_=>none
theorem m7{d k:D}{x y:V}{o:Option D}(h:dU d k=some o)(G:RepB A H d x)(J:RepB A H k y):∃a B,x=.ref a/\PK H a/\DGet H a y B/\((o=none/\B=none)\/∃z v,o=some z/\B=some v/\Rep A H z v):=by
 cases d with
 | dK l=>
  obtain⟨q,F,rfl⟩:=map_some h;obtain⟨a,xs,rfl,h1,e,r⟩:=G.dK_inv;have:=k7 F J;subst this;refine⟨a,_,rfl,.inl ⟨xs,h1⟩,.inl ⟨xs,q,h1,rfl,rfl⟩,E9 q (p8 e r)⟩
 | dT l=>
  obtain⟨q,F,rfl⟩:=map_some h;obtain⟨a,xs,rfl,h1,e,r⟩:=G.dT_inv;obtain⟨b,rfl,M⟩:=yG F J;exact⟨a,_,rfl,.inr ⟨xs,h1⟩,.inr ⟨xs,q,b,h1,rfl,M,rfl⟩,E9 q (p8 e r)⟩
 | _=>cases h
end
section
variable {X:Cx}{O O':List Nat}{L:Lp}
theorem PE.or(h:PE X e t)(k:PE X e u):PE X e (λσ H Q=>t σ H Q\/u σ H Q):=λpins s σ H Q I w=>w.elim (h pins s σ H Q I) (k pins s σ H Q I)
def aF(d k:D):Option D:=match d with
 | .dK _=>(dU d k).join
 | .dT _=>(dU d k).join
 | _=>R4 d k
theorem mK{q:Type}{o:Option (Option q)}{d:q}(h:o.join=some d):o=some (some d):=by
 cases o with
 | none=>cases h
 | some o=>cases o with
  | none=>cases h
  | some x=>cases h;rfl
theorem tU{F M:Ev}{σ:L2.St}{H:Hp}{Q:VK}(h:tD Rep O (bC (λd k=>(dU d k).join) F M) σ H Q):K0 (tD RepB O F) (tD RepB O M) σ H Q:=by
 obtain⟨H0,A0,A,E,ρ,d,st,e,q⟩:=h;obtain⟨x,ex,e⟩:=bind_some e;obtain⟨y,ey,e⟩:=bind_some e;refine⟨H0,A0,A,E,ρ,x,st,ex,λv H1 J U=>⟨H0,A0,A,E,ρ,y,st.mono J,ey,λw H2 G W=>?_⟩⟩;obtain⟨a,ov,e1,_,g,B⟩:=m7 (mK e) (U.ext G) W;rcases B with⟨B,_⟩|⟨z,N,B,e3,Y⟩
 ·cases B
 ·cases B;subst e3
  exact⟨a,N,e1,g,q N H2 (J.trans G) Y⟩
theorem G4(M:X.A.units+1<cLine)(J:PB X O a fa)(G:PB X O b fb)(hs:rA b):PD X O (.Subscript a b pos) (bC aF fa fb):=
 PE.mono (PE.or (P8 SG J G hs) (HZ M J G hs)) <| by
  rintro σ H Q ⟨H0,A0,A,E,ρ,d,st,e,q⟩;obtain⟨x,ex,F⟩:=bind_some e;obtain⟨y,N,F⟩:=bind_some F;have B:∀g:D->D->Option D,g x y=some d->tD Rep O (bC g fa fb) σ H Q:=λg h=>⟨H0,A0,A,E,ρ,d,st,by unfold bC;rw[ex,N];exact h,q⟩
  cases x with
  | dK l=>exact .inr (tU (B _ F))
  | dT l=>exact .inr (tU (B _ F))
  | _=>exact .inl (rW (B R4 F))
def K2(fd B q:Ev):Ev:=λρ=>(fd ρ).bind λd=>(B ρ).bind λk=>(q ρ).bind λe=>(dU d k).map λo=>o.getD e
theorem L6(k:D)(h:dU d k=some o)(r:RepB A H d v):∃a,v=.ref a/\PK H a:=by
 cases d with
 | dK l=>obtain⟨a,xs,rfl,h1,_⟩:=r.dK_inv;exact⟨a,rfl,.inl ⟨xs,h1⟩⟩
 | dT l=>obtain⟨a,xs,rfl,h1,_⟩:=r.dT_inv;exact⟨a,rfl,.inr ⟨xs,h1⟩⟩
 | _=>cases h
theorem HK(hu:X.A.units+1<cLine)(ho:PB X O o fd)(he:PB X O e fk)(hf:PD X O f fe)(m:M2 X o "get" apos e f cpos):PD X O (.Call (.Attribute o "get" apos) [e,f] [] cpos) (K2 fd fk fe):=
 PE.mono (D7 hu ho he hf m) <| by
  rintro σ H Q ⟨H0,A0,A,E,ρ,d,st,e,q⟩;obtain⟨x,ex,e⟩:=bind_some e;obtain⟨y,ey,e⟩:=bind_some e;obtain⟨z,ez,e⟩:=bind_some e;obtain⟨ov,eo,rfl⟩:=map_some e;refine⟨H0,A0,A,E,ρ,x,st,ex,λv H1 F N=>?_⟩;obtain⟨a,W,M⟩:=L6 y eo N;refine⟨a,W,M,H0,A0,A,E,ρ,y,st.mono F,ey,λw H2 B r2=>⟨H0,A0,A,E,ρ,z,st.mono (F.trans B),ez,λu U G r3=>?_⟩⟩;obtain⟨a',J,Y,_,g,e3⟩:=m7 eo (N.ext (B.trans G)) (r2.ext G);rw[W]at Y;cases Y;refine⟨J,g,?_⟩;rcases e3 with⟨rfl,rfl⟩|⟨z',v',rfl,rfl,r4⟩
  ·exact q u U ((F.trans B).trans G) r3
  ·exact q v' U ((F.trans B).trans G) r4
def sN(d k e:D):Option D:=match d with
 | .dK l=>(RO k).bind λk=>if aW l.length then some (.dK (putD l k e))else none
 | .dT l=>(KG k).bind λk=>if aW l.length then some (.dT (putD l k e))else none
 | .lst l=>(GC k).bind λk=>(sQ l.length k).map λj=>.lst (l.set j e)
 | _=>none
def BX(i:Nat)(B q:Ev):Sv:=λρ=>(q ρ).bind λe=>(aD i ρ).bind λx=>(B ρ).bind λk=>(sN x k e).map λd=>.nx (ρ.set i (some d))
theorem PS.or{st:Stmt}{t u:TS}(h:PS X st t)(k:PS X st u):PS X st (λT σ H=>t T σ H\/u T σ H):=λpins s σ H T I w=>w.elim (h pins s σ H T I) (k pins s σ H T I)
theorem GS{o k value:Expr}{i:Nat}{pos pos':Pos}{fk fe:Ev}(B:X.A.units+1<cLine)(ho:PE X o (hW i))(hk:PB X O k fk)(hv:PD X O value fe)(hO:mem O i=true)(h:Sub O' O=true:=by rfl)
  (hs:V3 value (some (.Subscript o k pos')) pos.line X.env=pure false:=by rfl) (ah:XZ [.Subscript o k pos'] value pos.line X.env=pure false:=by rfl) (hw:X0 [.Subscript o k pos'] value X.env=pure none:=by rfl)
  (hg:∀ {to ti:TE} {t:xO},PE X o to->PE X k ti->B1 X t->PG X (.Subscript o k pos') (F4 to ti t):=by intro _ _ _ a b c;exact rZ a b c) :
  PSD X L O (.Assign [.Subscript o k pos'] value pos) (BX i fk fe) O':=
 PS.mono (PS.or (HQ B ho hk hv hs) (sD hv (hg ho hk set_list) ah hw)) <| by
  rintro T σ H ⟨H0,A0,A,E,ρ,as,st,e,p⟩;obtain⟨z,ez,e⟩:=bind_some e;obtain⟨x,ex,e⟩:=bind_some e;obtain⟨y,ey,e⟩:=bind_some e;obtain⟨d,ed,rfl⟩:=map_some e;obtain⟨a,U,J,e3,e4⟩:=st.own i _ (aV ex) (fH hO);cases x with
  | dK l=>
   obtain⟨kk,e5,G⟩:=bind_some ed;by_cases hz:aW l.length=true
   ·rw[if_pos hz]at G;cases G
    refine .inl ⟨H0,A0,A,E,ρ,z,st,ez,λv H1 N Y=>⟨_,U,H0,A0,A,E,ρ,y,st.mono N,ey,λw H2 M W=>?_⟩⟩;have q:=N.trans M;cases e4 with
    | @dK _ _ xs h4 ee r4=>
     have B:=q.ow _ _ J h4;have hl:xs.length=l.length:=by have:=congrArg X2 ee;simpa using this
     have:=k7 e5 W;subst this;refine⟨a,_,rfl,DPut.k B (by rw[hl];exact lJ hz),?_⟩;obtain⟨e7,r7⟩:=zQ (w9 kk (Y.ext M) (p8 ee (r4.ext q)));obtain⟨A',F⟩:=((st.mono q).write (o:=.dK _) (aV ex) (fH hO) U J e3 B trivial (.dK aG e7 (r7.put J B trivial))).shut (Sub.mem h);exact p A' σ _ F
   ·rw[if_neg hz]at G;cases G
  | dT l=>
   obtain⟨kk,e5,G⟩:=bind_some ed;by_cases hz:aW l.length=true
   ·rw[if_pos hz]at G;cases G
    refine .inl ⟨H0,A0,A,E,ρ,z,st,ez,λv H1 N Y=>⟨_,U,H0,A0,A,E,ρ,y,st.mono N,ey,λw H2 M W=>?_⟩⟩;have q:=N.trans M;cases e4 with
    | @dT _ _ xs h4 ee r4=>
     have B:=q.ow _ _ J h4;have hl:xs.length=l.length:=by have:=congrArg X2 ee;simpa using this
     obtain⟨b,rfl,hb⟩:=yG e5 W;refine⟨a,_,rfl,DPut.t B hb (by rw[hl];exact lJ hz),?_⟩;obtain⟨e7,r7⟩:=zQ (w9 kk (Y.ext M) (p8 ee (r4.ext q)));obtain⟨A',F⟩:=((st.mono q).write (o:=.dT _) (aV ex) (fH hO) U J e3 B trivial (.dT aG e7 (r7.put J B trivial))).shut (Sub.mem h);exact p A' σ _ F
   ·rw[if_neg hz]at G;cases G
  | lst l=>
   obtain⟨kk,e5,G⟩:=bind_some ed;obtain⟨j,e7,rfl⟩:=map_some G;refine .inr ⟨H0,A0,A,E,ρ,z,st,ez,λv H1 N Y=>⟨_,U,H0,A0,A,E,ρ,y,st.mono N,ey,λw H2 M W=>?_⟩⟩;have q:=N.trans M;cases e4 with
   | @lst _ _ xs h4 r4=>
    have B:=q.ow _ _ J h4;rw[iV e5]at W;have:=W.int_inv;subst this;refine⟨a,xs,kk,j,rfl,rfl,B,by rw[r4.length];exact e7,?_⟩;obtain⟨A',F⟩:=((st.mono q).write (o:=.lst _) (aV ex) (fH hO) U J e3 B trivial (.lst aG (((r4.ext q).set j (Y.ext M)).put J B trivial))).shut (Sub.mem h);exact p A' σ _ F
  | _=>cases ed
noncomputable def B5(g:Int->Int->Option D):D->D->Option D
 | .int i,.int j=>g i j
 | _,_=>none
theorem nB(h:B5 g x y=some d):∃i j,x=.int i/\y=.int j/\g i j=some d:=by
 cases x <;> cases y <;> first|(cases h;done)|exact⟨_,_,rfl,rfl,h⟩
theorem sI{f:Value->Value->Sem Value}{C:Int->Int->Prop}[∀i j,Decidable (C i j)]{g:Int->Int->Int}(h:OpR X f (rI C λi j=>.int (g i j))):fT X f (B5 λi j=>if C i j then some (.int (g i j))else none):=
 OpR.mono h <| by
  rintro x y H Q ⟨A,dx,M,d,N,G,J,e,q⟩;obtain⟨i,j,rfl,rfl,B⟩:=nB e;have:=G.int_inv;subst this;have:=J.int_inv;subst this;by_cases F:C i j
  ·rw[if_pos F]at B;cases B
   exact⟨i,j,rfl,rfl,F,q _ H (Ext.refl _ _) (.int _)⟩
  ·rw[if_neg F]at B;cases B
theorem G9{f:Value->Value->Sem Value}{g:Int->Int->Int}(h:OpR X f (GE λi j=>.int (g i j))):fT X f (B5 λi j=>some (.int (g i j))):=
 OpR.mono h <| by
  rintro x y H Q ⟨A,dx,G,d,J,B,F,e,q⟩;obtain⟨i,j,rfl,rfl,e⟩:=nB e;have:=B.int_inv;subst this;have:=F.int_inv;subst this;cases e;exact⟨i,j,rfl,rfl,q _ H (Ext.refl _ _) (.int _)⟩
theorem uE{f:Value->Value->Sem Value}{g:Int->Int->Bool}(h:OpR X f (GE λi j=>.bl (g i j))):fT X f (B5 λi j=>some (.bl (g i j))):=
 OpR.mono h <| by
  rintro x y H Q ⟨A,dx,G,d,J,B,F,e,q⟩;obtain⟨i,j,rfl,rfl,e⟩:=nB e;have:=B.int_inv;subst this;have:=F.int_inv;subst this;cases e;exact⟨i,j,rfl,rfl,q _ H (Ext.refl _ _) (.bl _)⟩
instance:∀i j,Decidable (My.RC i j):=λi j=>by unfold My.RC;infer_instance
instance:∀i j,Decidable (JZ i j):=λi j=>by unfold JZ;infer_instance
instance:∀i j,Decidable (J6 i j):=λi j=>by unfold J6;infer_instance
def J2:D->D->Option D:=B5 λi j=>some (.int (i-j))
def eW:D->D->Option D:=B5 λi j=>if 0<j then some (.int (i%j))else none
def vG:D->D->Option D:=B5 λi j=>if JZ i j then some (.int (i/j))else none
def xR:D->D->Option D:=B5 λi j=>if J6 i j then some (.int (i^j.toNat))else none
def FZ:D->D->Option D:=B5 λi j=>some (.bl (decide (j<i)))
def OM:D->D->Option D:=B5 λi j=>some (.bl (decide (j<=i)))
theorem LY:fT X (WD .Sub) J2:=G9 LM
theorem N2:fT X (WD .Mod) eW:=sI MF
theorem LD:fT X (WD .FloorDiv) vG:=sI JB
theorem MV:fT X (WD .Pow) xR:=sI NO
theorem QF:fT X (VM .Gt) FZ:=uE P7
theorem QD:fT X (VM .GtE) OM:=uE P5
def J7(f:Ev):Ev:=λρ=>(f ρ).bind λd=>(GC d).map λi=>.int (-i)
theorem M4(G:PB X O a f):PD X O (.UnaryOp .USub a pos) (J7 f):=PE.mono (P2 ME G) <| by
 rintro σ H Q ⟨H0,A0,A,E,ρ,d,st,e,q⟩;obtain⟨x,ex,e⟩:=bind_some e;obtain⟨i,B,rfl⟩:=map_some e;rw[iV B]at ex;exact⟨H0,A0,A,E,ρ,_,st,ex,λv H1 J F=>⟨i,F.int_inv,q _ H1 J (.int _)⟩⟩
end
section
variable {X:Cx}{L:Lp}{O O':List Nat}
def JW:Sv:=λ_=>none
theorem AI{st:Stmt}:PSD X L O st JW O':=λ_ _ _ _ _ _ ⟨_,_,_,_,_,_,_,e,_⟩=>nomatch e
abbrev Gv:=D->bI->Option bI
inductive tDG(O:List Nat)(g:Gv)(v:V)(σ:L2.St)(H:Hp)(Q:L2.St->Hp->Prop):Prop
 | mk (H0:Hp) (A0 A:Av) (E:List Fact) (ρ:bI) (d:D) (ρ':bI) (st:ST H0 A0 A E O σ H ρ) (r:Rep A H d v) (e:g d ρ=some ρ') (q:∀σ',ST H0 A0 A E O σ' H ρ'->Q σ' H):tDG O g v σ H Q
def sO(X:Cx)(O:List Nat)(tg:Expr)(g:Gv):Prop:=PG X tg (tDG O g)
abbrev zY:=List D->bI->Option bI
inductive tDGs(O:List Nat)(g:zY)(vs:List V)(σ:L2.St)(H:Hp)(Q:L2.St->Hp->Prop):Prop
 | mk (H0:Hp) (A0 A:Av) (E:List Fact) (ρ:bI) (ds:List D) (ρ':bI) (st:ST H0 A0 A E O σ H ρ) (r:RepL A H ds vs) (e:g ds ρ=some ρ') (q:∀σ',ST H0 A0 A E O σ' H ρ'->Q σ' H):tDGs O g vs σ H Q
def xM(X:Cx)(O:List Nat)(ts:List Expr)(g:zY):Prop:=PGs X ts (tDGs O g)
theorem PG.mono(h:PG X tg t)(x:∀v σ H Q,t' v σ H Q->t v σ H Q):PG X tg t':=λpins s σ H v u Q I r w=>h pins s σ H v u Q I r (x v σ H Q w)
theorem PGs.mono(h:PGs X ts t)(x:∀v σ H Q,t' v σ H Q->t v σ H Q):PGs X ts t':=λpins s σ H v u Q I r w=>h pins s σ H v u Q I r (x v σ H Q w)
def aJ(i:Nat):Gv:=λd ρ=>some (ρ.set i (some d))
theorem iQ(h:PG X tg (fQ i))(n:O.contains i=false:=by rfl):sO X O tg (aJ i):=PG.mono h <| by
 rintro v σ H Q ⟨H0,A0,A,E,ρ,d,ρ',st,r,e,q⟩;cases e;exact q _ (st.put r λz=>by
  have:O.contains i=true:=by simpa using z
  rw[n]at this;cases this)
def gQ:zY:=λds ρ=>match ds with
 | []=>some ρ
 | _=>none
def aR(g:Gv)(k:zY):zY:=λds ρ=>match ds with
 | d::ds=>(g d ρ).bind λρ'=>k ds ρ'
 | _=>none
theorem DQ:xM X O [] gQ:=PGs.mono y4 <| by
 rintro v σ H Q ⟨H0,A0,A,E,ρ,ds,ρ',st,r,e,q⟩;cases r with
 | nil=>cases e;exact⟨rfl,q _ st⟩
 | cons _ _=>cases e
theorem jH(J:∀ {t:TG} {u:KI},PG X e t->PGs X es u->PGs X (e::es) (FM t u))(h1:sO X O e g)(h2:xM X O es k):xM X O (e::es) (aR g k):=
 PGs.mono (J h1 h2) <| by
  rintro v σ H Q ⟨H0,A0,A,E,ρ,ds,ρ',st,r,e,q⟩;cases r with
  | nil=>cases e
  | cons h t=>
   obtain⟨ρ1,G,e⟩:=bind_some e;exact⟨_,_,rfl,H0,A0,A,E,ρ,_,ρ1,st,h,G,λF B=>⟨H0,A0,A,E,ρ1,_,ρ',B,t,e,q⟩⟩
def kQ(n:Nat)(k:zY):Gv:=λd ρ=>match d with
 | .tup l=>if l.length=n then k l ρ else none
 | _=>none
theorem G0(G:PG X tg (RN X.K n (tDGs O k))):sO X O tg (kQ n k):=PG.mono G <| by
 rintro v σ H Q ⟨H0,A0,A,E,ρ,d,ρ',st,r,e,q⟩;cases d with
 | tup l=>
  obtain⟨a,xs,rfl,h,F⟩:=RepB.tup_inv (.of r);by_cases B:l.length=n
  ·simp only[kQ,if_pos B]at e
   exact⟨a,xs,rfl,.inl (.inl h),by rw[F.length];exact B,H0,A0,A,E,ρ,l,ρ',st,F,e,q⟩
  ·simp only[kQ,if_neg B]at e;cases e
 | _=>cases e
def J9(f:Ev)(g:Gv):Sv:=λρ=>(f ρ).bind λd=>(g d ρ).map .nx
theorem gA(G:PD X O e f)(N:sO X O tg g)(hs:XZ [tg] e pos.line X.env=pure false:=by rfl)(hw:X0 [tg] e X.env=pure none:=by rfl)(h:Sub O' O=true:=by rfl)(h1:(WA [tg] X.env).map (·.2)=[WU tg X.env]:=by rfl)(h1:(WA [tg] X.env).map (·.2)=[WU tg X.env]:=by rfl)(h1:(WA [tg] X.env).map (·.2)=[WU tg X.env]:=by rfl)(h1:(WA [tg] X.env).map (·.2)=[WU tg X.env]:=by rfl):PSD X L O (.Assign [tg] e pos) (J9 f g) O':=
 PS.mono (sD G N hs hw h1) <| by
  rintro T σ H ⟨H0,A0,A,E,ρ,J,st,e,p⟩;obtain⟨d,M,e⟩:=bind_some e;obtain⟨ρ',U,rfl⟩:=map_some e;refine⟨H0,A0,A,E,ρ,d,st,M,λv H' x r=>⟨H0,A0,A,E,ρ,d,ρ',st.mono x,r,U,λF B=>?_⟩⟩;obtain⟨A',q⟩:=B.shut (Sub.mem h);exact p A' F H' q
def B4(J:It)(q:List Fact)(items:List D):Prop:=
 ∀(A:Av) (H:Hp),Live A H->(∀p∈q,p.Holds A H)->∀i,(items.length<=i->J.stop i H)/\∀d,items[i]?=some d->J.go i H/\∀x H',J.yld i H x H'->Ext A H H'/\Rep A H' d x
inductive tDI(O:List Nat)(f:Lv)(σ:L2.St)(H:Hp)(R:It->Hp->Prop):Prop
 | mk (H0:Hp) (A0 A:Av) (E:List Fact) (ρ:bI) (items:List D) (st:ST H0 A0 A E O σ H ρ) (e:f ρ=some items) (q:∀J H' E1,Ext A H H'->(∀p∈E1,p.Holds A H')->B4 J E1 items->R J H'):tDI O f σ H R
def PDI(X:Cx)(O:List Nat)(tg e:Expr)(f:Lv):Prop:=PI X tg e (tDI O f)
theorem PI.mono(h:PI X tg e t)(x:∀σ H Q,t' σ H Q->t σ H Q):PI X tg e t':=λpins s σ H Q I w=>h pins s σ H Q I (x σ H Q w)
theorem PI.or(h:PI X tg e t)(k:PI X tg e u):PI X tg e (λσ H Q=>t σ H Q\/u σ H Q):=λpins s σ H Q I w=>w.elim (h pins s σ H Q I) (k pins s σ H Q I)
theorem IR{a:Addr}{l:List D}{K:U6}:B4 (T6 K a) [.rep (.lst l) (.ref a)] l:=by
 intro A H J h i;have r:Rep A H (.lst l) (.ref a):=h _ (List.mem_singleton.mpr rfl);obtain⟨G,xs,e,h1,B⟩:=RepB.lst_inv (.of r);cases e;refine⟨λhi=>⟨xs,.inl h1,by rw[B.length];exact hi⟩,λd hd=>?_⟩;obtain⟨v,q,F⟩:=B.get' hd;refine⟨⟨xs,v,.inl h1,q⟩,λx H' y=>?_⟩;obtain⟨rfl,y⟩:=y;have:=y xs (.inl h1);rw[q]at this;cases this;exact⟨Ext.refl _ _,F⟩
theorem MM{a:Addr}{l:List D}{K:U6}:B4 (TX K a) [.rep (.tup l) (.ref a)] l:=by
 intro A H J h i;have r:Rep A H (.tup l) (.ref a):=h _ (List.mem_singleton.mpr rfl);obtain⟨G,xs,e,h1,B⟩:=RepB.tup_inv (.of r);cases e;refine⟨λhi=>⟨xs,.inl (.inl h1),by rw[B.length];exact hi⟩,λd hd=>?_⟩;obtain⟨v,q,F⟩:=B.get' hd;refine⟨⟨xs,v,.inl (.inl h1),q⟩,λx H' y=>?_⟩;obtain⟨rfl,y⟩:=y;have:=y xs (.inl (.inl h1));rw[q]at this;cases this;exact⟨Ext.refl _ _,F⟩
noncomputable def aO(lo c:Int)(n:Nat):List D:=(VO n).map λ(i:Nat)=>.int (lo+(i:Int)*c)
theorem aU(lo c:Int)(n:Nat):(aO lo c n).length=n:=by simp[aO]
theorem bB{lo c:Int}{n i:Nat}(h:(aO lo c n)[i]?=some d):i<n/\d=.int (lo+(i:Int)*c):=by
 unfold aO at h;rw[VV]at h;by_cases hi:i<n
 ·rw[zbl hi]at h;cases h;exact⟨hi,rfl⟩
 ·rw[List.getElem?_eq_none (by simpa using hi)]at h;cases h
theorem uY{lo:Int}{n:Nat}:B4 (RS lo n) [] (aO lo 1 n):=by
 intro A H q h i;refine⟨λhi=>by rw[aU]at hi;exact hi,λd hd=>?_⟩;obtain⟨hi,rfl⟩:=bB hd;exact⟨hi,λx H' ⟨e,y⟩=>by subst e y;rw[Int.mul_one];exact⟨Ext.refl _ _,.int _⟩⟩
noncomputable def bZ(i:Int):Bool:=decide (-1000000<=i) && decide (i<=1000000)
def bN:List D->Option (List D)
 | [.int j]=>if bZ j then some (aO 0 1 j.toNat)else none
 | _=>none
def fY:List D->Option (List D)
 | [.int i,.int j]=>if bZ i && bZ j then some (aO i 1 (j-i).toNat)else none
 | _=>none
theorem dC(h:bZ i=true):-(2^62)<=i/\i<2^62:=by
 simp only[bZ,V5,decide_eq_true_eq]at h
 lia
def lR(g:List D->Option (List D))(f:Lv):Lv:=λρ=>(f ρ).bind g
theorem RL.one(r:RL R A H [d] vs):∃v,vs=[v]/\R A H d v:=by
 cases r with|cons h t=>cases t;exact⟨_,rfl,h⟩
theorem RL.two(r:RL R A H [d,e] vs):∃v w,vs=[v,w]/\R A H d v/\R A H e w:=by
 cases r with|cons h t=>obtain⟨w,rfl,h2⟩:=RL.one t;exact⟨_,w,rfl,h,h2⟩
theorem qW(h:bN ds=some l):∃j,ds=[.int j]/\bZ j=true/\l=aO 0 1 j.toNat:=by
 unfold bN at h;split at h
 ·split at h
  ·cases h;exact⟨_,rfl,by assumption,rfl⟩
  ·cases h
 ·cases h
theorem qO(h:fY ds=some l):∃i j,ds=[.int i,.int j]/\bZ i=true/\bZ j=true/\l=aO i 1 (j-i).toNat:=by
 unfold fY at h;split at h
 ·split at h
  ·rename_i hh
   cases h;exact⟨_,_,rfl,(V5 _ _ ▸ hh).1,(V5 _ _ ▸ hh).2,rfl⟩
  ·cases h
 ·cases h
section
variable {tg a b c:Expr}{f:Lv}{p pos:Pos}
theorem v7(M:Gl X "range")(G:X.mg "range" = none)(N:oV X O [a] f)(hs:U8 [a] X.env=[(false,eval a X.env)]:=by rfl):PDI X O tg (.Call (.Name "range" p) [a] [] pos) (lR bN f):=PI.mono (BG M G N hs) <| by
 rintro σ H R ⟨H0,A0,A,E,ρ,items,st,e,q⟩;obtain⟨ds,J,e⟩:=bind_some e;refine⟨H0,A0,A,E,ρ,ds,st,J,λvs H1 F B=>?_⟩;obtain⟨j,rfl,h,rfl⟩:=qW e;obtain⟨v,rfl,h1⟩:=B.one;have:=h1.int_inv;subst this;exact⟨j,rfl,(dC h).1,(dC h).2,q _ H1 [] F (λ_ h=>nomatch h) uY⟩
theorem vQ(N:Gl X "range")(J:X.mg "range" = none)(U:oV X O [a,b] f)(hs:U8 [a,b] X.env=[(false,eval a X.env),(false,eval b X.env)]:=by rfl)(B:U8 [b] X.env=[(false,eval b X.env)]:=by rfl):PDI X O tg (.Call (.Name "range" p) [a,b] [] pos) (lR fY f):=PI.mono (AF N J U hs B) <| by
 rintro σ H R ⟨H0,A0,A,E,ρ,items,st,e,q⟩;obtain⟨ds,M,e⟩:=bind_some e;refine⟨H0,A0,A,E,ρ,ds,st,M,λvs H1 G F=>?_⟩;obtain⟨i,j,rfl,h,h',rfl⟩:=qO e;obtain⟨v,w,rfl,h1,h2⟩:=F.two;have:=h1.int_inv;subst this;have:=h2.int_inv;subst this;exact⟨i,j,rfl,⟨(dC h).1,(dC h).2,(dC h').1,(dC h').2⟩,q _ H1 [] G (λ_ h=>nomatch h) uY⟩
end
def B3:Key->D
 | .inl i=>.int i
 | .inr x=>.str x
def FU(f:Ev):Lv:=λρ=>(f ρ).bind λd=>match d with
 | .lst l=>some l
 | .tup l=>some l
 | .dT l=>some (l.map λp=>.tup (p.1.map B3))
 | _=>none
theorem m9:∀k:List Key,RepL A H (k.map B3) (k.map kV)
 | []=>.nil
 | .inl i::k=>.cons (.int i) (m9 k)
 | .inr x::k=>.cons (.str x) (m9 k)
def MH(tl:TE):TI:=λσ H R=>tl σ H λx H1=>∃d kvs,x=.ref d/\((H1 d=some (.dT kvs)/\∀o,R (My.RV d o kvs) (upd H1 d (.frz o (.dT kvs))))\/∃o,H1 d=some (.frz o (.dT kvs))/\R (My.RV d o kvs) H1)
theorem C2(hl:PE X l tl):PI X tg l (MH tl):=by
 intro pins s σ H R I h;refine bG (hl pins s σ H _ I h) λv B ⟨x,H1,N,F,q1⟩=>?_
 obtain⟨d,kvs,rfl,q⟩:=q1;cases F;have M:∀(o:Obj) (H2:Hp),(d == W2)=false->Inv X pins σ H2 B->B.heap.get? d=some o->ObjOk X.prog X.w H2 B.heap d (.dT kvs)->R (My.RV d o kvs) H2->wpAny (model X.prog X.w) X.A (pyIter (.ref d)) (PIE X pins σ tg R) X.xe B:=λo H2 lo G ho ok q=>by
  obtain⟨_,_,es,ep,⟨o',F,Y,U⟩,J,_⟩:=My.nY ok;rw[ho]at F;cases F;refine My.C8 lo ⟨o,ho,Y,U⟩ ?_;refine⟨B.heap.objs.size,[B.heap.objs.size],_,_,_,rfl,G.kept (t':=B.toks) λb o e=>VI _ e,My.BQ d _ o kvs es ep U J,⟨_,VW _ rfl,rfl,rfl⟩,λb hb=>?_,q⟩;have e:b=B.heap.objs.size:=by simpa using hb
  subst e;exact G.fpOk (VH _) (G.hok.fresh (VH _))
 rcases q with⟨hd,q⟩|⟨o,hd,q⟩
 ·have ok:=(show ObjOk X.prog X.w H1 B.heap d (.dT kvs)from N.hok d _ hd)
  obtain⟨lo,_,es,ep,⟨o,F,Y,U⟩,J,_⟩:=My.nY ok;have G:=My.wG N hd F;have W:=(show ObjOk X.prog X.w _ B.heap d (.frz o (.dT kvs))from G.hok d _ aG);exact M o _ lo G F W.2 (q o)
 ·have ok:=(show ObjOk X.prog X.w H1 B.heap d (.frz o (.dT kvs))from N.hok d _ hd)
  obtain⟨lo,_⟩:=My.nY ok.2;exact M o H1 lo N ok.1 ok.2 q
theorem yC{a:Addr}{o:Obj}{xs:List (List Key×V)}{l:List (List Key×D)}(e:xs.map (·.1)=l.map (·.1)):B4 (My.RV a o xs) [.fz a o (.dT xs)] (l.map λp=>.tup (p.1.map B3)):=by
 intro A H U h i;have q:H a=some (.frz o (.dT xs)):=h _ (List.mem_singleton.mpr rfl);have N:xs.length=l.length:=by have:=congrArg X2 e;simpa using this
 refine⟨λhi=>⟨q,by rw[VD]at hi;lia⟩,λd hd=>?_⟩;rw[VV]at hd;obtain⟨p,B,rfl⟩:=map_some hd;have hi:i<l.length:=(List.getElem?_eq_some_iff.mp B).1;refine⟨⟨q,by lia⟩,λx H' ⟨M,k,v,b,J,G,F⟩=>?_⟩;subst M G;have:k=p.1:=by
  have h1:(xs.map (·.1))[i]?=some k:=by rw[VV,J];rfl
  rw[e,VV,B]at h1;exact(VX h1).symm
 subst this;exact⟨Ext.refl _ _,.tup F (m9 _)⟩
theorem G1(n:¬ A d)(hd:H d=some u)(B:PH u)(F:¬ Kp u):Ext A H (upd H d (.frz o u)) where
 rd:=λb w r=>by
  by_cases e:b=d
  ·subst e
   rcases r with r|⟨q,r⟩
   ·rw[hd]at r;cases r;exact .inr ⟨o,aG⟩
   ·rw[hd]at r;cases r;exact B.elim
  ·exact dY e r
 kp:=λb w k r=>by rw[aC (λz=>by subst z;rw[hd]at r;cases r;exact F k)];exact r
 ow:=λb w G r=>by rw[aC (λz=>n (by rw[<- z];exact G))];exact r
 fz:=λb q w r=>by rw[aC (λz=>by subst z;rw[hd]at r;cases r;exact B)];exact r
theorem II(h:PD X O e f):PDI X O tg e (FU f):=PI.mono (PI.or (PI.or (HC h) (NH h)) (C2 h)) <| by
 rintro σ H R ⟨H0,A0,A,E,ρ,items,st,e,q⟩;obtain⟨d,J,e⟩:=bind_some e;cases d with
 | lst l=>
  cases e;refine .inl (.inl ⟨H0,A0,A,E,ρ,_,st,J,λv H1 G B=>?_⟩);obtain⟨a,xs,rfl,h1,M⟩:=RepB.lst_inv (.of B);exact⟨a,rfl,⟨xs,.inl h1⟩,q _ H1 [.rep (.lst items) (.ref a)] G (λp F=>by rw[List.mem_singleton.mp F];exact B) IR⟩
 | tup l=>
  cases e;refine .inl (.inr ⟨H0,A0,A,E,ρ,_,st,J,λv H1 G B=>?_⟩);obtain⟨a,xs,rfl,h1,M⟩:=RepB.tup_inv (.of B);exact⟨a,rfl,⟨xs,.inl (.inl h1)⟩,q _ H1 [.rep (.tup items) (.ref a)] G (λp F=>by rw[List.mem_singleton.mp F];exact B) MM⟩
 | dT l=>
  cases e;refine .inr ⟨H0,A0,A,E,ρ,_,st,J,λv H1 G B=>?_⟩;cases B with
  | @dT _ a xs n h ee M=>
   refine⟨a,xs,rfl,?_⟩;rcases h with h|⟨o,h⟩
   ·refine .inl ⟨h,λo=>q _ _ [.fz a o (.dT xs)] (G.trans (G1 n h trivial λz=>z)) (λp F=>by rw[List.mem_singleton.mp F];exact aG) (yC ee)⟩
   ·exact .inr ⟨o,h,q _ H1 [.fz a o (.dT xs)] G (λp F=>by rw[List.mem_singleton.mp F];exact h) (yC ee)⟩
 | _=>cases e
def fR(g:Gv)(body:Sv):List D->bI->Option Out
 | [],ρ=>some (.nx ρ)
 | x::xs,ρ=>(g x ρ).bind λρ1=>(body ρ1).bind λo=>match o with
  | .nx ρ2=>fR g body xs ρ2
  | .ct ρ2=>fR g body xs ρ2
  | .bk ρ2=>some (.nx ρ2)
  | .rt d=>some (.rt d)
def oS(f:Lv)(g:Gv)(body:Sv):Sv:=λρ=>(f ρ).bind λitems=>fR g body items ρ
theorem ST.both(s:ST H0 A0 A E O σ H ρ)(h:∀p∈E1,p.Holds A H):ST H0 A0 A (E1++E) O σ H ρ:=
 {s with ext:=λp q=>by rcases List.mem_append.mp q with e|e;exact h p e;exact s.ext p e}
theorem G3(hp:Y4 (model X.prog X.w) X.A X.env X.xe)(hc:X.calm=true)(hi:PDI X O tg iter f)(hg:sO X O1 tg g)(hb:PSDs X ⟨Ob,O1⟩ O1 body b O1)(h1:Sub O1 O=true)(h2:Sub O' O1=true)(h3:Sub O' Ob=true)
  (hs:∀x,W4 iter X.env x=pure x:=by intro _;rfl):PSD X L O (.For tg iter body [] pos) (oS f g b) O':=PS.mono (LL hp hc hi hg hb hs) λT σ H ⟨H0,A0,A,E,ρ,U,st,e,p⟩=>by
 obtain⟨items,e1,e⟩:=bind_some e;refine⟨H0,A0,A,E,ρ,items,st,e1,λJ H1 M x1 ac J1=>?_⟩;obtain⟨A1,af⟩:=((st.mono x1).both ac).shut (Sub.mem h1);refine⟨λi m σ H=>m=items.length-i/\i<=items.length/\∃ρ A,ST H0 A0 A (M++E) O1 σ H ρ/\fR g b (items.drop i) ρ=some U,⟨items.length,by simp,WL _,ρ,A1,af,e⟩,?_⟩;rintro i m σ H ⟨rfl,az,ρ,A,st,e⟩;have hE:∀p∈M,p.Holds A H:=λp hp=>st.ext p (ZT _ hp)
 obtain⟨N,go⟩:=J1 A H st.live hE i;have fin:∀ {O2:List Nat} {A:Av} {σ:L2.St} {H:Hp} {ρ:bI},Sub O' O2=true->ST H0 A0 A (M++E) O2 σ H ρ->(∀A σ H,ST H0 A0 A E O' σ H ρ->T.nx σ H)->T.nx σ H:=λhs st k=>by
  obtain⟨B,ab⟩:=(st.less (E':=E) λq hq=>XR _ hq).shut (Sub.mem hs);exact k B _ _ ab
 by_cases F:i<items.length
 ·have ed:items[i]?=some items[i]:=by simp[F]
  obtain⟨ae,hy⟩:=go _ ed;rw[zac F]at e;obtain⟨ρ1,eg,e⟩:=bind_some e;obtain⟨o,eo,e⟩:=bind_some e;refine .inr ⟨ae,λW H'=>∃ρ2 B,ST H0 A0 B (M++E) O1 W H' ρ2/\fR g b (items.drop (i+1)) ρ2=some U,λW H' ⟨ρ2,B,G,e2⟩=>⟨items.length-(i+1),by lia,rfl,F,ρ2,B,G,e2⟩,λx H' y=>?_⟩;obtain⟨x2,r2⟩:=hy x H' y;refine⟨H0,A0,A,M++E,ρ,_,ρ1,st.mono x2,r2,eg,λah s1=>⟨H0,A0,A,M++E,ρ1,o,s1,eo,?_⟩⟩;cases o with
  | nx ρ2=>exact λB Y H2 G=>⟨ρ2,B,G,e⟩
  | ct ρ2=>exact λB Y H2 G=>⟨ρ2,B,G,e⟩
  | bk ρ2=>cases e;exact λB Y H2 G=>fin h3 G p
  | rt d=>cases e;exact p
 ·have aa:i=items.length:=by lia
  subst aa;rw[zbm]at e;cases e;exact .inl ⟨N (VH _),fin h2 st p⟩
end
noncomputable def cY(cells:List (Str×Addr)):List (Str×X1)->List (Str×Addr)->List (Str×Addr)
 | [],cs=>cs
 | (x,k)::r,cs=>cY cells r (if k == .free then(x,(cells.lookup x).getD 0)::cs else cs)
theorem pS:∀(names:List (Str×X1)) (cs:List (Str×Addr)),(∀y∈names,y.2=.free->∃c,env.cells.lookup y.1=some c)->
  (forIn names cs (λ(p:Str×X1) (r:List (Str×Addr))=>if(p.2 == .free)=true then(do let c <- cellOf env p.1;pure (ZH ((p.1,c)::r)))else(pure (ZH r):Sem _)))=(pure (cY env.cells names cs):Sem _)
 | [],cs,_=>by simp[cY]
 | (x,k)::r,cs,h=>by
  have ih:=λcs=>pS r cs λy F=>h y (V1 _ F)
  rw[List.forIn_cons];by_cases e:(k == YF)=true
  ·have B:k=.free:=by simpa using e
   obtain⟨c,G⟩:=h (x,k) (V2 ..) B;have q:env.cells.lookup x=some c:=G;simp only[e,if_true,cY];have:cellOf env x=pure c:=by unfold cellOf;rw[q]
   rw[this];simp only[pure_bind,q,Option.getD_some];exact ih _
  ·simp only[e,cY]
   simp only[YE,if_false,pure_bind];exact ih _
theorem JQ(h:∀y∈scope.names,y.2=.free->∃c,env.cells.lookup y.1=some c):closureFor scope env=pure (cY env.cells scope.names []):=by
 have:=pS scope.names [] h;unfold closureFor;simp only[bind_pure];exact this
theorem tO:∀ {names:List (Str×X1)} {cs:List (Str×Addr)} {c:Addr},(cY cells names cs).lookup x=some c->(∃q,cs.lookup x=some q/\c=q)\/((x,YF)∈names/\c=(cells.lookup x).getD 0)
 | [],cs,c,h=>.inl ⟨c,h,rfl⟩
 | (y,k)::r,cs,c,h=>by
  rw[cY]at h;rcases tO h with⟨q,h1,h2⟩|⟨h1,h2⟩
  ·by_cases e:(k == YF)=true
   ·rw[if_pos e,zad]at h1
    by_cases ex:(x == y)=true
    ·rw[ex]at h1
     have B:x=y:=by simpa using ex
     have F:k=.free:=by simpa using e
     subst B F;cases h1;exact .inr ⟨V2 ..,h2⟩
    ·rw[zae]at ex
     rw[ex]at h1;exact .inl ⟨q,h1,h2⟩
   ·rw[if_neg e]at h1
    exact .inl ⟨q,h1,h2⟩
  ·exact .inr ⟨V1 _ h1,h2⟩
theorem tW:∀ {names:List (Str×X1)} {cs:List (Str×Addr)},((x,YF)∈names\/∃c,cs.lookup x=some c)->∃c,(cY cells names cs).lookup x=some c
 | [],cs,h=>h.elim (λh=>nomatch h) id
 | (y,k)::r,cs,h=>by
  rw[cY];apply tW;rcases h with h|⟨c,h⟩
  ·rcases List.mem_cons.mp h with e|e
   ·cases e
    refine .inr ⟨(cells.lookup x).getD 0,?_⟩;simp[zad]
   ·exact .inl e
  ·right
   by_cases e:(k == YF)=true
   ·rw[if_pos e,zad]
    by_cases ex:(x == y)=true
    ·rw[ex];exact⟨_,rfl⟩
    ·rw[zae]at ex;rw[ex];exact⟨c,h⟩
   ·rw[if_neg e];exact⟨c,h⟩
theorem c8{q:Type}{v:q}:∀ {l:List (Str×q)},l.lookup x=some v->(x,v)∈l
 | (y,w)::r,h=>by
  rw[zad]at h;by_cases ex:(x == y)=true
  ·rw[ex]at h;cases h;rw[show x=y by simpa using ex];exact V2 ..
  ·rw[zae]at ex;rw[ex]at h;exact V1 _ (c8 h)
noncomputable def qM(names q:List (Str×X1)):Bool:=
 names.all λy=>y.2 != .cell && (y.2 != .local || names.lookup y.1 == some .local) && (y.2 != .free || q.lookup y.1 == some .cell)
theorem nV{X:Cx}{N:List Str}{scope:Scope}{n:Nat}(hk:scope.kind=.function)(h:qM scope.names X.env.scope.names=true)(hc:X.env.cells=YC n X.env.scope.names []):My.Clo X N scope (cY X.env.cells scope.names []):=by
 have h':=List.all_eq_true.mp h;have Y:∀y∈scope.names,y.2≠.cell:=λy F=>by
  have:=h' y F;simp only[V5]at this;simpa using this.1.1
 have c2:∀y∈scope.names,y.2=.local->scope.names.lookup y.1=some .local:=λy F e=>by
  have:=h' y F;simp only[V5,Bool.or_eq_true]at this;rcases this.1.2 with z|z
  ·rw[e]at z;exact absurd z (by decide)
  ·simpa using z
 have c3:∀y∈scope.names,y.2=.free->∃c,X.env.cells.lookup y.1=some c:=λy F e=>by
  have:=h' y F;simp only[V5,Bool.or_eq_true]at this;rcases this.2 with z|z
  ·rw[e]at z;exact absurd z (by decide)
  ·rw[hc];exact nE (sc:=X.env.scope) (by simpa using z)
 have B:∀x,((XQ scope X.env).names.lookup x=some .cell\/(XQ scope X.env).names.lookup x=some .free)->(x,YF)∈scope.names:=λx J=>by
  have M:∀U,(U=NameKind.cell\/U=YF)->(x,U)∈(XQ scope X.env).names->(x,YF)∈scope.names:=λU W hm=>by
   obtain⟨⟨y,k⟩,F,e⟩:=List.mem_map.mp hm;dsimp only at e;by_cases q:(k == YF && X.env.scope.kind == .function && X.env.kindOf y == some .cell)=true
   ·rw[if_pos q]at e
    have:k=.free:=by simp only[V5]at q;simpa using q.1.1
    cases e;subst this;exact F
   ·rw[if_neg q]at e
    cases e;rcases W with z|z
    ·exact absurd z (Y _ F)
    ·subst z;exact F
  rcases J with J|J
  ·exact M _ (.inl rfl) (c8 J)
  ·exact M _ (.inr rfl) (c8 J)
 refine⟨JQ c3,hk,Y,c2,λx c e=>?_,λx J=>tW (.inl (B x J))⟩;rcases tO e with⟨c',z,_⟩|⟨z1,z2⟩
 ·cases z
 ·obtain⟨c0,G⟩:=c3 _ z1 rfl
  have G:X.env.cells.lookup x=some c0:=G;rw[z2,G];rfl
noncomputable def bJ(X:Cx)(scope:Scope):List Str->List (Option Nat)->Prop
 | [],[]=>True
 | _::N,none::ms=>bJ X scope N ms
 | x::N,some i::ms=>(X.N[i]?=some x/\((XQ scope X.env).names.lookup x == some NameKind.local)=false/\(X.env.kindOf x=some .cell\/X.env.kindOf x=some .free))/\bJ X scope N ms
 | _,_=>False
noncomputable def jV{q:Type}(ms:List (Option Nat))(σ:List (Option q)):List (Option q):=ms.map λo=>o.bind λi=>(σ[i]?).join
theorem fA:∀ {N:List Str} {ms:List (Option Nat)},bJ X scope N ms->ms.length=N.length/\∀(j:Nat) (x:Str) (i:Nat),N[j]?=some x->ms[j]?=some (some i)->X.N[i]?=some x/\(XQ scope X.env).names.lookup x≠some .local/\(X.env.kindOf x=some .cell\/X.env.kindOf x=some .free)
 | [],[],_=>⟨rfl,λj x i h _=>by simp at h⟩
 | y::N,none::ms,h=>by
  obtain⟨l,g⟩:=fA (N:=N) (ms:=ms) h;refine⟨by simp[l],λj x i h1 h2=>?_⟩;cases j with
  | zero=>simp at h2
  | succ j=>exact g j x i (by simpa using h1) (by simpa using h2)
 | y::N,some k::ms,h=>by
  obtain⟨l,g⟩:=fA (N:=N) (ms:=ms) h.2;refine⟨by simp[l],λj x i h1 h2=>?_⟩;cases j with
  | zero=>simp at h1 h2;subst h1 h2;exact⟨h.1.1,λz=>by have:=h.1.2.1;rw[z]at this;exact absurd this (by decide),h.1.2.2⟩
  | succ j=>exact g j x i (by simpa using h1) (by simpa using h2)
 | [],_::_,h=>h.elim
 | _::_,[],h=>h.elim
theorem lF{B:Type}{ms:List (Option Nat)}{σ:List (Option B)}{j:Nat}{v:B}(h:(jV ms σ)[j]?=some (some v)):∃i:Nat,ms[j]?=some (some i)/\σ[i]?=some (some v):=by
 unfold jV at h;rw[VV]at h;obtain⟨o,F,q⟩:=map_some h;cases o with
 | none=>cases q
 | some i=>exact⟨i,F,mK q⟩
theorem uB{N:List Str}{ms:List (Option Nat)}(h:bJ X scope N ms)(σ:L2.St):My.Start X N scope σ (jV ms σ):=by
 obtain⟨l,g⟩:=fA h;refine⟨by unfold jV;rw[VD];exact l,λj x v h1 h2 _=>?_⟩;obtain⟨i,B,q⟩:=lF h2;obtain⟨a,b,c⟩:=g j x i h1 B;exact⟨b,i,a,q,c⟩
theorem ST.inner{E:List Fact}{O:List Nat}(s:ST H0 A0 A E O σ H ρ)(ms:List (Option Nat))(n:∀i,some i∈ms->i∉O):ST H0 A0 A E [] (jV ms σ) H (jV ms ρ) where
 ex:=s.ex
 sub:=s.sub
 l0:=s.l0
 live:=s.live
 len:=by simp[jV]
 val:=λj d h _=>by
  obtain⟨i,q,F⟩:=lF h;obtain⟨v,B,r⟩:=s.val i d F (n i (WS q));refine⟨v,?_,r⟩;unfold jV;rw[VV,q];show some ((σ[i]?).join)=_;rw[B];rfl
 own:=λj d _ h=>nomatch h
 inj:=λi j d d' a hi=>nomatch hi
 ext:=s.ext
def bD(g:Gv)(c:Bv)(f:Ev):List D->bI->Option (List D)
 | [],_=>some []
 | x::xs,ρ=>(g x ρ).bind λρ1=>(c ρ1).bind λb=>if b=true then(f ρ1).bind λd=>(bD g c f xs ρ1).bind λds=>some (d::ds)else bD g c f xs ρ1
def dW(ms:List (Option Nat))(it:Lv)(g:Gv)(c:Bv)(f:Ev):Ev:=λρ=>(it ρ).bind λitems=>if aW items.length then(bD g c f items (jV ms ρ)).map .lst else none
def gD:Bv:=λ_=>some true
theorem uI:My.vN X [] (tDT O gD):=λpins s σ H Q I ⟨H0,A0,A,E,ρ,b,st,e,q⟩=>My.HH pins s σ H Q I (by cases e;exact q H (Ext.refl _ _))
theorem C5(h:jU X O c g):My.vN X [c] (tDT O g):=My.IC h
section
variable {X:Cx}{O:List Nat}
theorem iS(ba:bJ X scope N ms)(hn:(ms.all λo=>match o with|some i=>!O.contains i|none=>true)=true)(σ:L2.St)(H:Hp)(Q:VK) :
  tF O (dW ms it g c f) σ H Q->My.zT (tDI O it) (tDG [] g) (tDT [] c) (tD Rep [] f) (My.Start X N scope) σ H Q:=λ⟨H0,A0,A,E,ρ,d,st,e,q⟩=>by
 obtain⟨items,e1,e⟩:=bind_some e;by_cases hz:aW items.length=true
 case neg=>rw[if_neg hz]at e;cases e
 rw[if_pos hz]at e;obtain⟨ds,e2,rfl⟩:=map_some e;have a0:∀i,some i∈ms->i∉O:=λi hi z=>by
  have:=List.all_eq_true.mp hn _ hi;simp only[Bool.not_eq_true']at this;have z':O.contains i=true:=by simpa using z
  rw[z']at this;cases this
 refine⟨jV ms σ,uB ba σ,H0,A0,A,E,ρ,items,st,e1,λJ H1 E1 x1 a1 J1 D hD=>?_⟩;have bb:=(st.mono x1).live;have nA:¬ A D:=λz=>bb D z hD
 have n0:H D=none:=x1.free hD
 -- the state of the block: the list that grows stands outside all that is borne
 refine⟨λi m am us H2=>m=items.length-i/\i<=items.length/\∃ρ2 B rest,ST H0 A0 (λb=>A b\/b=D) (E1++E) [] am H2 ρ2/\H2 D=some (.lst us)/\Ext A H H2/\RepL (λb=>A b\/b=D) H2 B us/\bD g c f (items.drop i) ρ2=some rest/\B++rest=ds/\B.length<=i,⟨items.length,by simp,WL _,jV ms ρ,[],ds,?_,aG,x1.trans (Ext.new hD),.nil,e2,rfl,VH _⟩,?_⟩
 ·have s1:=((st.mono x1).both a1).inner ms a0
  have up:∀a,(A a\/a=D)->A a\/H1 a=none:=λa G=>G.imp id λz=>by rw[z];exact hD
  refine⟨s1.ex.trans (Ext.new hD),λa G=>.inl (s1.sub a G),s1.l0,λa G=>?_,s1.len,λi d h n=>?_,(λi d _ h=>nomatch h),(λi j d d' a hi=>nomatch hi),λp hp=>Fact.ext (Ext.new hD) (Fact.av up (s1.ext p hp))⟩
  ·rcases G with G|G
   ·rw[aC (λz=>by subst z;exact nA G)];exact s1.live a G
   ·subst G;rw[aG];exact λz=>nomatch z
  ·obtain⟨v,h1,h2⟩:=s1.val i d h n
   exact⟨v,h1,(h2.av up).ext (Ext.new hD)⟩
 ·rintro i m am us H2 ⟨rfl,bz,ρ2,B,rest,s2,af,x2,aa,M,ed,ay⟩
  obtain⟨aj,go⟩:=J1 _ H2 s2.live (λp hp=>s2.ext p (ZT _ hp)) i;by_cases U:i<items.length
  ·have eg:items[i]?=some items[i]:=by simp[U]
   obtain⟨a3,hy⟩:=go _ eg;rw[zac U]at M;obtain⟨W,e3,M⟩:=bind_some M;obtain⟨b,e4,M⟩:=bind_some M;have ap:us.length<VC:=by
    rw[aa.length];exact ZZ ay (WQ U (cI hz))
   refine .inr ⟨a3,ap,λx H3 y=>?_⟩;obtain⟨x3,r3⟩:=hy x H3 y;refine⟨H0,A0,_,E1++E,ρ2,_,W,s2.mono x3,r3,e3,λbp s3=>⟨H0,A0,_,E1++E,W,b,s3,e4,λH5 x5=>?_⟩⟩;have ac:=x3.trans x5;have ak:H5 D=some (.lst us):=ac.ow D _ (.inr rfl) af;have ao:Ext A H H5:=x2.trans (ac.mono λa G=>.inl G);cases b with
   | false=>
    rw[if_neg VL]at M;exact TN ⟨ak,items.length-(i+1),by lia,rfl,U,W,B,rest,s3.mono x5,ak,ao,aa.ext ac,M,ed,by lia⟩
   | true=>
    rw[if_pos rfl]at M;refine RD ?_;obtain⟨d,e6,M⟩:=bind_some M;obtain⟨ae,e7,M⟩:=bind_some M;cases M;refine⟨H0,A0,_,E1++E,W,d,s3.mono x5,e6,λv H6 x6 r6=>?_⟩;have al:=ac.trans x6;have ad:H6 D=some (.lst us):=al.ow D _ (.inr rfl) af;refine⟨ad,items.length-(i+1),by lia,rfl,U,W,B++[d],ae,?_,aG,?_,((aa.ext al).append (.cons r6 .nil)).put (.inr rfl) ad trivial,e7,by rw[<- ed];simp,by rw[WN];show B.length+1<=i+1;lia⟩
    ·have Y:=s3.mono (x5.trans x6)
     have ax:H0 D=none:=st.ex.free n0;have F:∀b,H0 b≠none->b≠D:=λb hb z=>hb (by rw[z];exact ax)
     refine⟨⟨λb w r=>dY (F b (by rcases r with r|⟨_,r⟩ <;> (rw[r];exact λz=>nomatch z))) (Y.ex.rd b w r),λb xs k r=>?_,λb w n r=>?_,λb q w r=>?_⟩,Y.sub,Y.l0,λa G=>?_,Y.len,λi d h n=>?_,(λi d _ h=>nomatch h),(λi j d d' a hi=>nomatch hi),λp hp=>Fact.put (.inr rfl) ad trivial (Y.ext p hp)⟩
     ·rw[aC (F b (by rw[r];exact λz=>nomatch z))];exact Y.ex.kp b xs k r
     ·rw[aC (F b (by rw[r];exact λz=>nomatch z))];exact Y.ex.ow b w n r
     ·rw[aC (F b (by rw[r];exact λz=>nomatch z))];exact Y.ex.fz b q w r
     ·by_cases z:a=D
      ·subst z;rw[aG];exact λz=>nomatch z
      ·rw[aC z];exact Y.live a G
     ·obtain⟨v,h1,h2⟩:=Y.val i d h n
      exact⟨v,h1,h2.put (.inr rfl) ad trivial⟩
    ·have ab:Ext A H H6:=ao.trans (x6.mono λa G=>.inl G)
     have F:∀b,H b≠none->b≠D:=λb hb z=>hb (by rw[z];exact n0)
     exact⟨λb w r=>dY (F b (by rcases r with r|⟨_,r⟩ <;> (rw[r];exact λz=>nomatch z))) (ab.rd b w r),
      λb xs k r=>by rw[aC (F b (by rw[r];exact λz=>nomatch z))];exact ab.kp b xs k r,
      λb w n r=>by rw[aC (F b (by rw[r];exact λz=>nomatch z))];exact ab.ow b w n r,
      λb q w r=>by rw[aC (F b (by rw[r];exact λz=>nomatch z))];exact ab.fz b q w r⟩
  ·have az:i=items.length:=by lia
   subst az;rw[zbm]at M;cases M;rw[YM]at ed;subst ed;exact .inl ⟨aj (VH _),q D H2 x2 n0 nA (.lst af aa)⟩
theorem G6
  (B:X.calm=true) (G:My.Clo X N scope cl) (q:bJ X scope N ms) (U:(ms.all λo=>match o with|some i=>!O.contains i|none=>true)=true) (hi:PDI X O tg iter it) (M:∀C s H fp,sO (My.aN X N scope cl C s H fp) [] tg g)
  (J:∀C s H fp,My.vN (My.aN X N scope cl C s H fp) ifs (tDT [] c)) (F:∀C s H fp,PD (My.aN X N scope cl C s H fp) [] elt f) (hs:∀x,W4 iter X.env x=pure x:=by intro _;rfl) :
  PF X O (.ListComp elt [⟨tg,iter,ifs,0⟩] scope pos) (dW ms it g c f):=PE.mono (My.HA B G hi M J F hs) (iS q U)
def aK(n:Nat)(ds:List D):bI:=ds.map some++VZ (n-ds.length) none
def aS(n:Nat)(f:Sv)(ds:List D):Option D:=(f (aK n ds)).bind λo=>match o with
 | .rt d=>some d
 | .nx _=>some .non
 | _=>none
theorem ST.begun(q:Live A H)(r:RepL A H ds vs):ST H A A [] [] (L2.start N vs) H (aK N.length ds) where
 ex:=Ext.refl _ _
 sub:=λ_ h=>h
 l0:=q
 live:=q
 len:=by unfold L2.start aK;simp[r.length]
 val:=λi d h _=>by
  unfold aK at h;by_cases hi:i<ds.length
  ·rw[Y8 (by simpa using hi),VV]at h
   obtain⟨d',F,J⟩:=map_some h;cases J;obtain⟨v,G,B⟩:=r.get' F;refine⟨v,?_,B⟩;unfold L2.start;rw[Y8 (by rw[VD,r.length];exact hi),VV,G];rfl
  ·rw[zar (by simpa using hi),za5]at h
   split at h <;> cases h
 own:=λi d _ h=>nomatch h
 inj:=λi j d d' a hi=>nomatch hi
 ext:=λp M=>nomatch M
theorem zK{P:VB}{w:World}{K:U6}{mg:Str->Option Value}{base:Heap}{x:Str}{st:Stmt}{N ps:List Str}{k:Nat}{f:Sv}{O':List Nat}(Df:My.DefAt K mg x st ps)(S:FnScope N ps (aE st))
  (h:∀(J:Addr) (F:Value) (A:VJ) (B:List Env) (s:U5) (H:Hp) (E:XK),Room k (A.deeper (V9 x (aE st) s.heap.objs.size J F))->∃g,PSDs (gE sP P w K mg base N x (aE st) J F A B s H E).nox ⟨[],[]⟩ [] (a9 st) g O'/\g=f) :
  Fn P w K mg base x (k+1) ps (aS N.length f):=by
 refine My.BodyOk.ok (λJ F A B s H vs Q E hr G=>?_) Df S (λvs H Q E G=>by obtain⟨A,ds,d,_,_,e,_⟩:=G;exact e);obtain⟨U,ds,d,lv,r,e,Y,q⟩:=G;obtain⟨o,eo,M⟩:=bind_some Y;obtain⟨g,hg,rfl⟩:=h J F A B s H E hr;refine⟨_,hg,H,U,U,[],_,o,ST.begun lv r,eo,?_⟩;cases o with
 | nx ρ=>cases M;exact λA2 ag H2 s2=>q .non H2 s2.ex .non
 | rt d'=>cases M;exact λv H2 W r2=>q v H2 W r2
 | bk _=>cases M
 | ct _=>cases M
noncomputable def EG(K:U6):Bool:=K.all λp=>match p.2.cls with
 | .type "list" => false
 | _=>true
theorem A3{K:U6}(h:EG K=true){a:Addr}{o:Obj}(e:K.lookup a=some o):o.cls≠.type "list" := λz=>by
 have m:∀ {K:U6},K.lookup a=some o->(a,o)∈K:=by
  intro K;induction K with
  | nil=>intro e;cases e
  | cons p r ih=>
   intro e;rw[zad]at e;by_cases q:(a == p.1)=true
   ·rw[q]at e;cases e;rw[show a=p.1 by simpa using q];exact V2 ..
   ·rw[zae]at q;rw[q]at e;exact V1 _ (ih e)
 have:=List.all_eq_true.mp h _ (m e);dsimp only at this;rw[z]at this;exact absurd this (by decide)
theorem LN{P:VB}{w:World}{K:U6}{mg:Str->Option Value}{base:Heap}{st:Stmt}{N:List Str}{k:Nat}{f:Sv}{O':List Nat}(hK:EG K=true)
  (h:∀(J:Addr) (F:Value) (A:VJ) (B:List Env) (s:U5) (H:Hp) (E:XK),Room k (A.deeper (V9 "law" (aE st) s.heap.objs.size J F))->∃g,PSDs (gE sP P w K mg base N "law" (aE st) J F A B s H E).nox ⟨[],[]⟩ [] (a9 st) g O'/\g=f)
  (hv:∀ns:List Int,ns.length<=63->aS N.length f [.lst (ns.map .int)]=some (.bl true)):My.BodyOk P w K mg base "law" st N k (My.vC K):=by
 refine λJ F A B s H vs Q E hr W=>?_
 obtain⟨a,ns,rfl,U,hl,q⟩:=W;have hR:Rd H a (.lst (ns.map V.int)):=by
  rcases U with U|⟨o,_,_,e,c,_⟩
  ·exact U
  ·exact absurd c (A3 hK e)
 have lv:Live (λ_=>False) H:=λa h=>h.elim
 have G:∀ns:List Int,RepL (λ_=>False) H (ns.map .int) (ns.map V.int):=λns=>by
  induction ns with
  | nil=>exact .nil
  | cons n ns ih=>exact .cons (.int n) ih
 obtain⟨o,eo,M⟩:=bind_some (hv ns hl);obtain⟨g,Y,rfl⟩:=h J F A B s H E hr;refine⟨_,Y,H,λ_=>False,λ_=>False,[],_,o,ST.begun lv (.cons (.lst (λz=>z) hR (G ns)) .nil),eo,?_⟩;cases o with
 | nx ρ=>cases M
 | rt d'=>cases M;exact λv H2 x2 r2=>by cases r2;exact q _
 | bk _=>cases M
 | ct _=>cases M
end
mutual
def eZ:D->Option My.Dx
 | .non=>some .non
 | .bl b=>some (.bl b)
 | .int i=>some (.int i)
 | .str x=>some (.str x)
 | .tup l=>(hV l).map .tup
 | .lst l=>(hV l).map .lst
 | .dK _=>none
 | .dT _=>none
def hV:List D->Option (List My.Dx)
 | []=>some []
 | d::ds=>(eZ d).bind λx=>(hV ds).bind λxs=>some (x::xs)
end
mutual
theorem iZ:∀ {d e:D} {x:My.Dx},eZ d=some x->eZ e=some x->d=e
 | .non,e,x,h,k=>by cases h;cases e <;> simp[eZ]at k <;> first|rfl|(obtain⟨_,_,z⟩:=k;cases z)
 | .bl b,e,x,h,k=>by cases h;cases e <;> simp[eZ]at k <;> first|(rw[k])|(obtain⟨_,_,z⟩:=k;cases z)
 | .int b,e,x,h,k=>by cases h;cases e <;> simp[eZ]at k <;> first|(rw[k])|(obtain⟨_,_,z⟩:=k;cases z)
 | .str b,e,x,h,k=>by cases h;cases e <;> simp[eZ]at k <;> first|(rw[k])|(obtain⟨_,_,z⟩:=k;cases z)
 | .tup l,e,x,h,k=>by
  rw[eZ]at h;obtain⟨xs,h1,rfl⟩:=map_some h;cases e with
  | tup m=>
   rw[eZ]at k;obtain⟨ys,B,q⟩:=map_some k;cases q;rw[nF h1 B]
  | lst m=>rw[eZ]at k;obtain⟨ys,B,q⟩:=map_some k;cases q
  | _=>simp[eZ]at k
 | .lst l,e,x,h,k=>by
  rw[eZ]at h;obtain⟨xs,h1,rfl⟩:=map_some h;cases e with
  | lst m=>
   rw[eZ]at k;obtain⟨ys,B,q⟩:=map_some k;cases q;rw[nF h1 B]
  | tup m=>rw[eZ]at k;obtain⟨ys,B,q⟩:=map_some k;cases q
  | _=>simp[eZ]at k
 | .dK _,e,x,h,k=>by rw[eZ]at h;cases h
 | .dT _,e,x,h,k=>by rw[eZ]at h;cases h
theorem nF:∀ {d e:List D} {x:List My.Dx},hV d=some x->hV e=some x->d=e
 | [],e,x,h,k=>by
  rw[hV]at h;cases h;cases e with
  | nil=>rfl
  | cons e es=>
   rw[hV]at k;obtain⟨_,_,k⟩:=bind_some k;obtain⟨_,_,k⟩:=bind_some k;cases k
 | d::ds,e,x,h,k=>by
  rw[hV]at h;obtain⟨y,h1,h⟩:=bind_some h;obtain⟨ys,h2,h⟩:=bind_some h;cases h;cases e with
  | nil=>rw[hV]at k;cases k
  | cons e es=>
   rw[hV]at k;obtain⟨z,q,k⟩:=bind_some k;obtain⟨zs,B,k⟩:=bind_some k;cases k;rw[iZ h1 q,nF h2 B]
end
mutual
theorem lI{K:U6}{A:Av}{H:Hp}:∀ {d:D} {x:My.Dx} {v:V},eZ d=some x->Rep A H d v->My.Rep K H x v
 | .non,x,v,h,r=>by cases h;cases r;rw[My.Rep]
 | .bl b,x,v,h,r=>by cases h;cases r;rw[My.Rep]
 | .int b,x,v,h,r=>by cases h;cases r;rw[My.Rep]
 | .str b,x,v,h,r=>by cases h;cases r;rw[My.Rep]
 | .tup l,x,v,h,r=>by
  rw[eZ]at h;obtain⟨xs,h1,rfl⟩:=map_some h;cases r with
  | tup hh rl=>rw[My.Rep];exact⟨_,_,rfl,.inl (.inl hh),iO h1 rl⟩
 | .lst l,x,v,h,r=>by
  rw[eZ]at h;obtain⟨xs,h1,rfl⟩:=map_some h;cases r with
  | lst n hh rl=>rw[My.Rep];exact⟨_,_,rfl,.inl hh,iO h1 rl⟩
 | .dK _,x,v,h,r=>by rw[eZ]at h;cases h
 | .dT _,x,v,h,r=>by rw[eZ]at h;cases h
theorem iO{K:U6}{A:Av}{H:Hp}:∀ {d:List D} {x:List My.Dx} {v:List V},hV d=some x->RepL A H d v->My.RepL K H x v
 | [],x,v,h,r=>by rw[hV]at h;cases h;cases r;rw[My.RepL]
 | d::ds,x,v,h,r=>by
  rw[hV]at h;obtain⟨y,h1,h⟩:=bind_some h;obtain⟨ys,h2,h⟩:=bind_some h;cases h;cases r with
  | cons r rs=>rw[My.RepL];exact⟨_,_,rfl,lI h1 r,iO h2 rs⟩
end
theorem eG{K:U6}{A:Av}{H:Hp}{d:D}{x:My.Dx}{v:V}(h:eZ d=some x)(r:RepB A H d v):My.Rep K H x v:=by
 cases r with
 | of r=>exact lI h r
 | lst hh rl=>
  rw[eZ]at h;obtain⟨xs,h1,rfl⟩:=map_some h;rw[My.Rep];exact⟨_,_,rfl,.inl hh,iO h1 rl⟩
 | dK=>rw[eZ]at h;cases h
 | dT=>rw[eZ]at h;cases h
def dG(d:D):Bool:=match eZ d with
 | some x=>x.nb && decide (x.dep<=60)
 | none=>false
noncomputable def OT:D->Bool
 | .tup _=>true | .lst _=>true|_=>false
noncomputable def KP:D->D->Bool
 | .non,.non=>true | .non,.int _=>true | .int _,.non=>true | .non,.bl _=>true | .bl _,.non=>true | .non,.str _=>true | .str _,.non=>true
 | .int _,.int _=>true | .bl _,.bl _=>true | .str _,.str _=>true
 | .int _,.str _=>true | .str _,.int _=>true | .bl _,.str _=>true | .str _,.bl _=>true
 | _,_=>false
open Classical in
def B6(d e:D):Option Bool:=if KP d e=true\/(OT d=true/\OT e=true/\dG d=true/\dG e=true)then some (decide (d=e))else none
def d6(d e:D):Option D:=(B6 d e).map .bl
def KH(d e:D):Option D:=(B6 d e).map λb=>.bl (!b)
theorem EZ(h:KP d e=true)(r:RepB A H d v)(s:RepB A H e w):OY v w=true/\(v=w↔d=e):=by
 cases d <;> cases e <;> first
  | (cases h;done)
  | (have:=r.non_inv;subst this;have:=s.non_inv;subst this;exact⟨rfl,by simp⟩)
  | (have:=r.non_inv;subst this;have:=s.int_inv;subst this;exact⟨rfl,by simp⟩)
  | (have:=r.non_inv;subst this;have:=s.bl_inv;subst this;exact⟨rfl,by simp⟩)
  | (have:=r.non_inv;subst this;have:=s.str_inv;subst this;exact⟨rfl,by simp⟩)
  | (have:=r.int_inv;subst this;have:=s.non_inv;subst this;exact⟨rfl,by simp⟩)
  | (have:=r.int_inv;subst this;have:=s.int_inv;subst this;exact⟨rfl,by simp⟩)
  | (have:=r.int_inv;subst this;have:=s.str_inv;subst this;exact⟨rfl,by simp⟩)
  | (have:=r.bl_inv;subst this;have:=s.non_inv;subst this;exact⟨rfl,by simp⟩)
  | (have:=r.bl_inv;subst this;have:=s.bl_inv;subst this;exact⟨rfl,by simp⟩)
  | (have:=r.bl_inv;subst this;have:=s.str_inv;subst this;exact⟨rfl,by simp⟩)
  | (have:=r.str_inv;subst this;have:=s.non_inv;subst this;exact⟨rfl,by simp⟩)
  | (have:=r.str_inv;subst this;have:=s.int_inv;subst this;exact⟨rfl,by simp⟩)
  | (have:=r.str_inv;subst this;have:=s.bl_inv;subst this;exact⟨rfl,by simp⟩)
  | (have:=r.str_inv;subst this;have:=s.str_inv;subst this;exact⟨rfl,by simp⟩)
section
variable {X:Cx}{O:List Nat}
theorem OpR.orM(h:OpR X f r)(h':OpR X f r')(x:∀a b H Q,r2 a b H Q->r a b H Q\/r' a b H Q):OpR X f r2:=OpR.mono (OpR.or h h') x
theorem fM(h:dG d=true):∃x,eZ d=some x/\x.nb=true/\x.dep<=60:=by
 unfold dG at h;cases e:eZ d with
 | none=>rw[e]at h;cases h
 | some x=>rw[e]at h;simp only[V5,decide_eq_true_eq]at h;exact⟨x,rfl,h.1,h.2⟩
theorem zX(h:OT d=true)(e:eZ d=some x):x.seq=true:=by
 cases d with
 | tup l=>rw[eZ]at e;obtain⟨xs,_,rfl⟩:=map_some e;rfl
 | lst l=>rw[eZ]at e;obtain⟨xs,_,rfl⟩:=map_some e;rfl
 | _=>cases h
theorem PY(hu:X.A.units+64<cLine):fT X (VM .Eq) d6:=OpR.orM P9 (My.NV hu) <| by
 rintro x y H Q ⟨A,dx,U,d,lv,N,W,e,q⟩;obtain⟨b,G,rfl⟩:=map_some e;unfold B6 at G;split at G
 case isFalse=>cases G
 rename_i hc;cases G;rcases hc with hs|⟨s1,s2,Y,k2⟩
 ·left
  obtain⟨h1,h2⟩:=EZ hs N W;refine⟨h1,?_⟩;have:decide (x=y)=@decide (dx=U) (YT _):=decide_eq_decide.mpr h2;rw[this];exact q _ H (Ext.refl _ _) (.bl _)
 ·right
  obtain⟨M,F,a2,a3⟩:=fM Y;obtain⟨J,B,b2,b3⟩:=fM k2;refine⟨M,J,eG F N,eG B W,zX s1 F,zX s2 B,a2,b2,a3,?_⟩;have:@decide (M=J) (YT _)=@decide (dx=U) (YT _):=decide_eq_decide.mpr ⟨λz=>iZ F (z ▸ B),λz=>by subst z;rw[F]at B;exact VX B⟩;show Q (.bl (@decide (M=J) (YT _))) H;rw[this];exact q _ H (Ext.refl _ _) (.bl _)
theorem PR(hu:X.A.units+64<cLine):fT X (VM .NotEq) KH:=OpR.orM PL (My.LJ hu) <| by
 rintro x y H Q ⟨A,dx,U,d,lv,N,W,e,q⟩;obtain⟨b,G,rfl⟩:=map_some e;unfold B6 at G;split at G
 case isFalse=>cases G
 rename_i hc;cases G;rcases hc with hs|⟨s1,s2,Y,k2⟩
 ·left
  obtain⟨h1,h2⟩:=EZ hs N W;refine⟨h1,?_⟩;have:decide (x=y)=@decide (dx=U) (YT _):=decide_eq_decide.mpr h2;rw[this];exact q _ H (Ext.refl _ _) (.bl _)
 ·right
  obtain⟨M,F,a2,a3⟩:=fM Y;obtain⟨J,B,b2,b3⟩:=fM k2;refine⟨M,J,eG F N,eG B W,zX s1 F,zX s2 B,a2,b2,a3,?_⟩;have:@decide (M=J) (YT _)=@decide (dx=U) (YT _):=decide_eq_decide.mpr ⟨λz=>iZ F (z ▸ B),λz=>by subst z;rw[F]at B;exact VX B⟩;show Q (.bl (!@decide (M=J) (YT _))) H;rw[this];exact q _ H (Ext.refl _ _) (.bl _)
theorem Inv.lstR(I:Inv X pins σ H s)(B:Rd H l (.lst xs)):xs.length<=VC/\∃(q:List Value) (n:Nat),Vals xs q/\xs.length=q.length/\s.heap.get? l=some {cls:=.type "list",data:=.seq q.toArray n}:=by
 obtain⟨hz,q,n,r,e⟩:=(show ObjOk X.prog X.w H s.heap l (.lst xs)from B.ok I.hok);exact⟨hz,q,n,r,r.length,e⟩
def QQ:R2:=λx y H Q=>∃l b xs zs,x=.ref l/\y=.ref b/\Rd H l (.lst xs)/\Rd H b (.lst zs)/\xs.length+zs.length<=VC/\∀p,H p=none->Q (.ref p) (upd H p (.lst (xs++zs)))
theorem yT:OpR X (WD .Add) QQ:=by
 intro pins s σ H x y v u Q I G W h;obtain⟨l,b,xs,zs,rfl,rfl,N,M,hz,q⟩:=h;cases G;cases W;obtain⟨z,F,n,r,hl,e⟩:=Inv.lstR I N;obtain⟨z2,B,n2,J,U,Y⟩:=Inv.lstR I M;refine PySem.P.add_list e Y ?_ (by rw[VN,VN];lia);have ea:F.toArray++B.toArray=(F++B).toArray:=by simp
 rw[ea];exact⟨.ref _,_,I.lnew (t':=s.toks) (r.append J) (by rw[WN];lia),rfl,q _ I.fresh⟩
end
section
variable {X:Cx}{O:List Nat}
theorem RepL.nil_iff(r:RepL A H ds vs):vs=[]↔ds=[]:=by cases r <;> simp
def qF:D->D->Option D
 | .int i,.int j=>some (.int (i+j))
 | .str i,.str j=>if aW (i.length+j.length)then some (.str (i++j))else none
 | .lst l,.lst m=>if aW (l.length+m.length)then some (.lst (l++m))else none
 | .tup (a::l),.tup m=>if aW (l.length+1+m.length)then some (.tup (a::l++m))else none
 | _,_=>none
theorem NR:fT X (WD .Add) qF:=OpR.mono (OpR.or (OpR.or N4 vU) (OpR.or yT HD)) <| by
 rintro x y H Q ⟨A,dx,G,d,U,M,N,e,q⟩;cases dx with
 | int i=>
  cases G with
  | int j=>cases e;have:=M.int_inv;subst this;have:=N.int_inv;subst this;exact .inl (.inl ⟨i,j,rfl,rfl,q _ H (Ext.refl _ _) (.int _)⟩)
  | _=>cases e
 | str i=>
  cases G with
  | str j=>
   simp only[qF]at e;by_cases hz:aW (i.length+j.length)=true
   ·rw[if_pos hz]at e;cases e;have:=M.str_inv;subst this;have:=N.str_inv;subst this
    exact .inl (.inr ⟨i,j,rfl,rfl,cI hz,q _ H (Ext.refl _ _) (.str _)⟩)
   ·rw[if_neg hz]at e;cases e
  | _=>cases e
 | lst l=>
  cases G with
  | lst m=>
   simp only[qF]at e;by_cases hz:aW (l.length+m.length)=true
   ·rw[if_pos hz]at e;cases e
    obtain⟨a,xs,rfl,h1,B⟩:=M.lst_inv;obtain⟨b,ys,rfl,h2,F⟩:=N.lst_inv;exact .inr (.inl ⟨a,b,xs,ys,rfl,rfl,h1,h2,by rw[B.length,F.length];exact cI hz,λp J=>q _ _ (Ext.new J) (.lst (λz=>U p z J) (.inl aG) ((B.append F).ext (Ext.new J)))⟩)
   ·rw[if_neg hz]at e;cases e
  | _=>cases e
 | tup l=>
  cases l with
  | nil=>cases G <;> cases e
  | cons a0 l=>
   cases G with
   | tup m=>
    simp only[qF]at e;by_cases hz:aW (l.length+1+m.length)=true
    ·rw[if_pos hz]at e;cases e
     obtain⟨a,xs,rfl,h1,B⟩:=M.tup_inv;obtain⟨b,ys,rfl,h2,F⟩:=N.tup_inv;refine .inr (.inr ⟨a,b,xs,ys,rfl,rfl,.inl (.inl h1),.inl (.inl h2),λz=>(by have:=B.nil_iff.mp z;cases this),by rw[B.length,F.length];exact cI hz,λz=>?_,λ_ p J=>q _ _ (Ext.new J) (.tup aG ((B.append F).ext (Ext.new J)))⟩);refine q _ H (Ext.refl _ _) (.tup h1 ?_);have:=F.nil_iff.mp z;subst this;rw[YM];exact B
    ·rw[if_neg hz]at e;cases e
   | _=>cases e
 | _=>cases G <;> cases e
noncomputable def eV:List D->Option (List Int)
 | []=>some []
 | .int i::ds=>(eV ds).map (i::·)
 | _=>none
theorem eN:∀ {ds:List D} {ns:List Int} {vs:List V},eV ds=some ns->RepL A H ds vs->vs=ns.map V.int
 | [],ns,vs,h,r=>by cases h;cases r;rfl
 | .int i::ds,ns,vs,h,r=>by
  obtain⟨ms,h1,rfl⟩:=map_some h;cases r with
  | cons r rs=>cases r;rw[eN h1 rs];rfl
def TZ:D->D->Option D
 | .int i,.int j=>some (.bl (decide (i<j)))
 | .tup l,.tup m=>(eV l).bind λns=>(eV m).map λms=>.bl (HT.lexLt ns ms)
 | _,_=>none
theorem NA(N:X.A.units<cLine):fT X (VM .Lt) TZ:=OpR.mono (OpR.or PV (NT N)) <| by
 rintro x y H Q ⟨A,dx,B,d,Y,F,G,e,q⟩;cases dx with
 | int i=>
  cases B with
  | int j=>cases e;have:=F.int_inv;subst this;have:=G.int_inv;subst this;exact .inl ⟨i,j,rfl,rfl,q _ H (Ext.refl _ _) (.bl _)⟩
  | _=>cases e
 | tup l=>
  cases B with
  | tup m=>
   obtain⟨ns,U,e⟩:=bind_some e;obtain⟨ms,W,rfl⟩:=map_some e;obtain⟨a,xs,rfl,h1,J⟩:=F.tup_inv;obtain⟨b,ys,rfl,h2,M⟩:=G.tup_inv;have:=eN U J;subst this;have:=eN W M;subst this;exact .inr ⟨a,b,ns,ms,rfl,rfl,.inl (.inl h1),.inl (.inl h2),q _ H (Ext.refl _ _) (.bl _)⟩
  | _=>cases e
 | _=>cases B <;> cases e
open Classical in
def JY(x y:D):Option Bool:=match y with
 | .dK _=>(dU y x).map (·.isSome)
 | .dT _=>(dU y x).map (·.isSome)
 | .lst l=>if dG x=true/\l.all dG=true then some (l.any λd=>decide (d=x))else none
 | .tup l=>if dG x=true/\l.all dG=true then some (l.any λd=>decide (d=x))else none
 | _=>none
def R0(x y:D):Option D:=(JY x y).map .bl
open Classical in
theorem tT(I:Inv X pins σ H s)(hu:Ar.units+60<cLine)(kx:dG x=true)(rx:RepB A H x v)(ru:RelV v u)(kl:l.all dG=true)(rl:RepL A H l xs)(M:Vals xs B) :
  ∃f:Value->Bool,(∀y∈B,YY Ar s y u (f y))/\B.any f=l.any λd=>decide (d=x):=by
 obtain⟨F,G,a2,a3⟩:=fM kx;have Y:My.Rep X.K H F v:=eG G rx;let g:Value->Bool:=λy=>decide (∃w z,RelV w y/\My.Rep X.K H z w/\z=F)
 have one:∀ {d:D} {w:V} {y:Value},dG d=true->Rep A H d w->RelV w y->g y=decide (d=x)/\YY Ar s y u (g y):=by
  intro d w y kd rd U;obtain⟨z,J,b2,b3⟩:=fM kd;have N:My.Rep X.K H z w:=lI J rd;have e:g y=decide (z=F):=by
   refine decide_eq_decide.mpr ⟨λ⟨w',z',q1,q2,q3⟩=>?_,λe=>⟨w,z,U,N,e⟩⟩;have:=RelV.inj U q1;subst this;rw[My.Rep.inj I _ _ _ N q2,q3]
  have W:decide (z=F)=decide (d=x):=decide_eq_decide.mpr ⟨λq=>iZ J (q ▸ G),λq=>by subst q;rw[J]at G;exact VX G⟩;refine⟨e.trans W,?_⟩;rw[e];exact My.lD I 60 Ar z F w v y u b3 hu b2 a2 N Y U ru
 refine⟨g,?_,?_⟩
 ·intro y hy
  obtain⟨j,hj⟩:=List.mem_iff_getElem?.mp hy;have ae:=M.length;have aj:j<B.length:=(List.getElem?_eq_some_iff.mp hj).1;have hx:xs[j]?=some (xs[j]'(by lia)):=V6 (by lia);obtain⟨u',e1,r1⟩:=M.get hx;rw[hj]at e1;cases e1;obtain⟨d,W,r2⟩:=rl.get hx;exact(one (List.all_eq_true.mp kl _ (WS W)) r2 r1).2
 ·have all:∀(l:List D) (xs:List V) (B:List Value),l.all dG=true->RepL A H l xs->Vals xs B->B.any g=l.any λd=>decide (d=x):=by
   intro l;induction l with
   | nil=>intro xs B _ r v;cases r;cases v;rfl
   | cons d l ih=>
    intro xs B k r v;cases r with
    | cons h t=>
     cases v with
     | cons r rs=>
      rw[ZA,V5]at k;rw[XE,XE,(one k.1 h r).1,ih _ _ k.2 t rs]
  exact all l xs B kl rl M
open Classical in
theorem IL(I:Inv X pins σ H s)(hu:Ar.units+60<cLine)(kx:dG x=true)(rx:RepB A H x v)(ru:RelV v u)(kl:l.all dG=true)(rl:RepL A H l xs)(U:Vals xs its) :
  ∃f:Value->Bool,(∀y∈its,YY Ar s y u (f y))/\∀(j:Nat) (d:D) (y:Value),l[j]?=some d->its[j]?=some y->f y=decide (d=x):=by
 obtain⟨F,G,a2,a3⟩:=fM kx;have ac:My.Rep X.K H F v:=eG G rx;let g:Value->Bool:=λy=>decide (∃w z,RelV w y/\My.Rep X.K H z w/\z=F)
 have one:∀ {d:D} {w:V} {y:Value},dG d=true->Rep A H d w->RelV w y->g y=decide (d=x)/\YY Ar s y u (g y):=by
  intro d w y kd rd ry;obtain⟨z,M,b2,b3⟩:=fM kd;have W:My.Rep X.K H z w:=lI M rd;have e:g y=decide (z=F):=by
   refine decide_eq_decide.mpr ⟨λ⟨w',z',q1,q2,q3⟩=>?_,λe=>⟨w,z,ry,W,e⟩⟩;have:=RelV.inj ry q1;subst this;rw[My.Rep.inj I _ _ _ W q2,q3]
  have B:decide (z=F)=decide (d=x):=decide_eq_decide.mpr ⟨λq=>iZ M (q ▸ G),λq=>by subst q;rw[M]at G;exact VX G⟩;refine⟨e.trans B,?_⟩;rw[e];exact My.lD I 60 Ar z F w v y u b3 hu b2 a2 W ac ry ru
 refine⟨g,?_,?_⟩
 ·intro y hy
  obtain⟨j,hj⟩:=List.mem_iff_getElem?.mp hy;have ag:=U.length;have al:j<its.length:=(List.getElem?_eq_some_iff.mp hj).1;have hx:xs[j]?=some (xs[j]'(by lia)):=V6 (by lia);obtain⟨u',J,N⟩:=U.get hx;rw[hj]at J;cases J;obtain⟨d,B,Y⟩:=rl.get hx;exact(one (List.all_eq_true.mp kl _ (WS B)) Y N).2
 ·intro j d y hd hy
  obtain⟨w,J,N⟩:=rl.get' hd;obtain⟨u',B,Y⟩:=U.get J;rw[hy]at B;cases B;exact(one (List.all_eq_true.mp kl _ (WS hd)) N Y).1
theorem P3(hu:X.A.units+64<cLine):fT X (VM .In) R0:=by
 intro pins s σ H x y v u Q I U Y h;obtain⟨A,dx,dy,d,lv,J,ry,e,q⟩:=h;obtain⟨b,B,rfl⟩:=map_some e;have fin:∀k,k=b->EP X pins σ Q (.bool k) s:=λk hk=>⟨.bl b,H,I,by rw[hk];rfl,q _ H (Ext.refl _ _) (.bl _)⟩
 have aa:X.A.units+1<cLine:=by lia
 have dict:∀o,dU dy dx=some o->o.isSome=b->wpAny (model X.prog X.w) X.A (VM .In v u) (EP X pins σ Q) X.xe s:=λo G F=>by
  obtain⟨a,ov,rfl,_,g,e3⟩:=m7 G ry J;cases Y;refine S5 aa I g U λs' I'=>⟨.bl b,H,I',?_,q _ H (Ext.refl _ _) (.bl _)⟩
  have:ov.isSome=b:=by rw[<- F];rcases e3 with⟨rfl,rfl⟩|⟨_,_,rfl,rfl,_⟩ <;> rfl
  rw[this];rfl
 cases dy with
 | dK l=>obtain⟨o,G,F⟩:=map_some B;exact dict o G F
 | dT l=>obtain⟨o,G,F⟩:=map_some B;exact dict o G F
 | lst l=>
  simp only[JY]at B;split at B
  case isFalse=>cases B
  rename_i hc;cases B;obtain⟨a,xs,rfl,h1,N⟩:=ry.lst_inv;cases Y;obtain⟨M,r,W,hz⟩:=I.list (.inl h1);obtain⟨f,f1,f2⟩:=tT (Ar:=X.A.in1) I (by show X.A.units+1+60<cLine;lia) hc.1 J U hc.2 N r;refine SeqAt.in_listAt f (My.PlainL.isList W) (λw hw=>f1 w (by simpa using hw)) (fin _ ?_);rw[<- f2];simp
 | tup l=>
  simp only[JY]at B;split at B
  case isFalse=>cases B
  rename_i hc;cases B;obtain⟨a,xs,rfl,h1,N⟩:=ry.tup_inv;cases Y;obtain⟨M,r,W,hz⟩:=I.tuple (.inl (.inl h1));obtain⟨f,f1,f2⟩:=tT (Ar:=X.A.in1) I (by show X.A.units+1+60<cLine;lia) hc.1 J U hc.2 N r;refine SeqAt.in_tupleAt f W (λw hw=>f1 w (by simpa using hw)) (fin _ ?_);rw[<- f2];simp
 | _=>cases B
def bY:List D->Option D
 | [.lst l]=>some (.int l.length)
 | [.tup l]=>some (.int l.length)
 | [.str z]=>if aW z.length then some (.int z.length)else none
 | [.dK l]=>some (.int l.length)
 | _=>none
theorem LO:jD X (.builtin "len") bY:=by
 intro pins s σ H xs G Q I r h;obtain⟨A,ds,d,W,B,e,q⟩:=h
 match ds,B,e with
 | [.lst l],B,e=>
  cases e;obtain⟨v,rfl,h1⟩:=B.one;obtain⟨a,xs,rfl,h2,F⟩:=h1.lst_inv;exact nD pins s σ H _ G Q I r ⟨_,_,rfl,.inl ⟨xs,.inl h2,rfl⟩,by rw[F.length];exact q _ H (Ext.refl _ _) (.int _)⟩
 | [.tup l],B,e=>
  cases e;obtain⟨v,rfl,h1⟩:=B.one;obtain⟨a,xs,rfl,h2,F⟩:=h1.tup_inv;exact nD pins s σ H _ G Q I r ⟨_,_,rfl,.inr ⟨xs,.inl (.inl h2),rfl⟩,by rw[F.length];exact q _ H (Ext.refl _ _) (.int _)⟩
 | [.str z],B,e=>
  simp only[bY]at e;by_cases hz:aW z.length=true
  ·rw[if_pos hz]at e;cases e
   obtain⟨v,rfl,h1⟩:=B.one;have:=h1.str_inv;subst this;exact nD pins s σ H _ G Q I r ⟨_,_,rfl,⟨cI hz,rfl⟩,q _ H (Ext.refl _ _) (.int _)⟩
  ·rw[if_neg hz]at e;cases e
 | [.dK l],B,e=>
  cases e;obtain⟨v,rfl,h1⟩:=B.one;obtain⟨a,xs,rfl,h2,U,F⟩:=h1.dK_inv;obtain⟨u,rfl,N⟩:=vals1 r;cases N;have M:xs.length=l.length:=by have:=congrArg X2 U;simpa using this
  exact P6 I h2 λt s' J=>⟨.int xs.length,H,J,⟨t,rfl⟩,by rw[M];exact q _ H (Ext.refl _ _) (.int _)⟩
 | [],_,e=>cases e
 | [.non],_,e=>cases e
 | [.bl _],_,e=>cases e
 | [.int _],_,e=>cases e
 | [.dT _],_,e=>cases e
 | _::_::_,_,e=>simp[bY]at e
noncomputable def dX:List D->Option D
 | [.lst l]=>some (.tup l)
 | [.tup l]=>some (.tup l)
 | _=>none
noncomputable def jC:List D->Option D
 | [.lst l]=>some (.lst l)
 | [.tup l]=>some (.lst l)
 | _=>none
theorem yW{ds:List D}{g:List D->D}(h:(match ds with|[.lst l]=>some (g l)|[.tup l]=>some (g l)|_=>none)=some d):∃l,(ds=[.lst l]\/ds=[.tup l])/\d=g l:=by
 split at h
 ·cases h;exact⟨_,.inl rfl,rfl⟩
 ·cases h;exact⟨_,.inr rfl,rfl⟩
 ·cases h
theorem eD:jD X (.type "tuple") dX:=CallR.mono oN <| by
 rintro xs H Q ⟨A,ds,d,J,r,e,q⟩;obtain⟨l,G,rfl⟩:=yW (g:=.tup) e;rcases G with rfl|rfl
 ·obtain⟨v,rfl,h1⟩:=r.one
  obtain⟨a,xs,rfl,h2,B⟩:=h1.lst_inv;exact⟨a,xs,rfl,.inl ⟨.inl h2,λp F=>q _ _ (Ext.new F) (.tup aG (B.ext (Ext.new F)))⟩⟩
 ·obtain⟨v,rfl,h1⟩:=r.one
  obtain⟨a,xs,rfl,h2,B⟩:=h1.tup_inv;exact⟨a,xs,rfl,.inr ⟨.inl (.inl h2),q _ H (Ext.refl _ _) (.tup h2 B)⟩⟩
theorem JF:zU X (.type "list") jC:=CallR.mono qS <| by
 rintro xs H Q ⟨A,ds,d,G,r,e,q⟩;obtain⟨l,J,rfl⟩:=yW (g:=.lst) e;rcases J with rfl|rfl
 ·obtain⟨v,rfl,h1⟩:=r.one
  obtain⟨a,xs,rfl,h2,F⟩:=h1.lst_inv;exact⟨a,xs,rfl,.inl (.inl h2),λp B=>q p _ (Ext.new B) B (λz=>G p z B) (.lst aG (F.fresh B))⟩
 ·obtain⟨v,rfl,h1⟩:=r.one
  obtain⟨a,xs,rfl,h2,F⟩:=h1.tup_inv;exact⟨a,xs,rfl,.inr (.inl (.inl h2)),λp B=>q p _ (Ext.new B) B (λz=>G p z B) (.lst aG (F.fresh B))⟩
end
section
variable {X:Cx}{O:List Nat}
noncomputable def T5:D->String
 | .non => "NoneType" | .bl _ => "bool" | .int _ => "int" | .str _ => "str" | .tup _ => "tuple" | .lst _ => "list" | .dK _ => "dict" | .dT _ => "dict"
def S9(K:U6):List V->Hp->VK->Prop:=λxs H Q=>∃A d x n b,xs=[x,.ty n]/\RepB A H d x/\ZW K (.type (T5 d)) (.type n)=some b/\Q (.bl b) H
theorem DM:CallR X (.builtin "isinstance") (S9 X.K):=by
 intro pins s σ H xs M Q I r h;obtain⟨A,d,x,n,b,rfl,B,e,q⟩:=h;have F:∀t,TyOf X.K H x t->t=.type (T5 d)->wpAny (model X.prog X.w) X.A (call (.builtin "isinstance") M) (EP X pins σ Q) X.xe s:=λt U W=>by
  subst W;exact My.DO pins s σ H _ M Q I r ⟨x,n,_,b,rfl,U,e,q⟩
 cases d with
 | non=>have:=B.non_inv;subst this;exact F _ .non rfl
 | bl c=>have:=B.bl_inv;subst this;exact F _ (.bl c) rfl
 | int c=>have:=B.int_inv;subst this;exact F _ (.int c) rfl
 | str c=>have:=B.str_inv;subst this;exact F _ (.str c) rfl
 | tup l=>obtain⟨a,xs,rfl,h1,_⟩:=B.tup_inv;exact F _ (.tup h1) rfl
 | lst l=>
  obtain⟨a,xs,rfl,h1,_⟩:=B.lst_inv;rcases h1 with h1|⟨o,h1⟩
  ·exact F _ (.lst h1) rfl
  ·exact F _ (.frz h1) rfl
 | dK l=>
  obtain⟨a,xs,rfl,h1,_⟩:=B.dK_inv;obtain⟨u,N,rfl,G,J⟩:=vals2 r;cases G;cases J;obtain⟨_,_,vs,_,p⟩:=(show ObjOk X.prog X.w H s.heap a (.dK xs)from h1.ok I.hok);obtain⟨o,es,ep,h1,h2,_⟩:=p;exact XH zao I.kIn ⟨o,h1,h2.1⟩ e (λz=>nomatch z) λtk=>⟨.bl b,H,I.tok tk,rfl,q⟩
 | dT l=>
  obtain⟨a,xs,rfl,h1,_⟩:=B.dT_inv;obtain⟨u,N,rfl,G,J⟩:=vals2 r;cases G;cases J;obtain⟨_,_,xs,_,o,es,ep,h1,h2,_⟩:=(show ObjOk X.prog X.w H s.heap a (.dT xs)from h1.ok I.hok);exact XH zao I.kIn ⟨o,h1,h2.1⟩ e (λz=>nomatch z) λtk=>⟨.bl b,H,I.tok tk,rfl,q⟩
noncomputable def vJ(n:String)(d:D):Bool:=match d with
 | .non=>false
 | .bl _=>n == "bool" || n == "int"
 | .int _=>n == "int"
 | .str _=>n == "str"
 | .tup _=>n == "tuple"
 | .lst _=>n == "list"
 | .dK _=>n == "dict"
 | .dT _=>n == "dict"
def R3(n:String):Prop:=∀(K:U6) (d:D),ZW K (.type (T5 d)) (.type n)=some (vJ n d)
theorem HS:R3 "int" := λK d=>by cases d <;> rfl
theorem CO:R3 "bool" := λK d=>by cases d <;> rfl
theorem DD:R3 "list" := λK d=>by cases d <;> rfl
def BZ(n:String)(f:Ev):Ev:=λρ=>(f ρ).map λd=>.bl (vJ n d)
theorem wX(F:R3 n)(hg:Gl X "isinstance")(W:X.mg "isinstance" = none)(B:Gl X x)(G:X.mg x=none)(M:V7 x=some (.type n))(U:PB X O e f)(hn:x ≠ "__name__" := by decide)(hd:(x == ("__debug__" : Str))=false:=by decide)
  (h1:U8 [e,.Name x p2] X.env=(false,eval e X.env)::U8 [.Name x p2] X.env:=by rfl) (h2:(VU pos (U8 [.Name x p2] X.env)).any (·.1)=false:=by rfl) (Y:U8 [.Name x p2] X.env=(false,eval (.Name x p2) X.env)::U8 [] X.env:=by rfl) :
  PD X O (.Call (.Name "isinstance" p) [e,.Name x p2] [] pos) (BZ n f):=
 PE.mono (m8 DM hg W My.boot_isinstance (cA U (cA (IS (v:=.ty n) B G M rfl hn hd) hJ Y) h1) (by decide) (by decide) h1 h2) <| by
  rintro σ H Q ⟨H0,A0,A,E,ρ,d,st,e,q⟩;obtain⟨x,ex,rfl⟩:=map_some e;exact⟨H0,A0,A,E,ρ,x,st,ex,λv H1 N J=>⟨A,x,v,n,_,rfl,J,F _ _,q _ H1 N (.bl _)⟩⟩
def nZ:List Key->Option (List Int)
 | []=>some []
 | .inl i::ks=>(nZ ks).map (i::·)
 | _=>none
theorem p6:∀ {k:List Key} {ns:List Int},nZ k=some ns->k=ns.map VS
 | [],ns,h=>by cases h;rfl
 | .inl i::ks,ns,h=>by obtain⟨ms,h1,rfl⟩:=map_some h;rw[p6 h1];rfl
theorem kM:∀ns:List Int,nZ (ns.map VS)=some ns
 | []=>rfl
 | n::ns=>by rw[VG,nZ,kM ns];rfl
def intKeys{α:Type}:List (List Key×α)->Option (List (List Int×α))
 | []=>some []
 | p::l=>(nZ p.1).bind λns=>(intKeys l).map λr=>(ns,p.2)::r
def K8{α:Type}(p:List Int×α):List Key×α:=(p.1.map VS,p.2)
theorem mJ{q:Type}:∀ {l:List (List Key×q)} {m:List (List Int×q)},intKeys l=some m->l=m.map K8
 | [],m,h=>by cases h;rfl
 | p::l,m,h=>by
  obtain⟨ns,h1,h⟩:=bind_some h;obtain⟨r,h2,rfl⟩:=map_some h;rw[VG,mJ h2];congr 1;show p=(ns.map VS,p.2);rw[<- p6 h1]
theorem kG{q:Type}:∀m:List (List Int×q),intKeys (m.map K8)=some m
 | []=>rfl
 | p::m=>by rw[VG,intKeys,show(K8 p).1=p.1.map VS from rfl,kM,kG m];rfl
theorem wU{xs:List (List Key×V)}{m:List (List Int×D)}(e:xs.map (·.1)=(m.map K8).map (·.1)):∃ps:List (List Int×V),xs=ps.map My.kI/\ps.map (·.1)=m.map (·.1):=by
 induction m generalizing xs with
 | nil=>cases xs with
  | nil=>exact⟨[],rfl,rfl⟩
  | cons _ _=>cases e
 | cons p m ih=>cases xs with
  | nil=>cases e
  | cons x xs=>
   rw[VG,VG,VG]at e;injection e with e1 e2
   obtain⟨ps,h1,h2⟩:=ih e2;refine⟨(p.1,x.2)::ps,?_,by rw[VG,VG,h2]⟩;rw[VG,<- h1];congr 1;show x=(p.1.map VS,x.2);rw[<- show x.1=p.1.map VS from e1]
def ins{α:Type}(p:List Int×α):List (List Int×α)->List (List Int×α)
 | []=>[p]
 | q::r=>if HT.lexLt p.1 q.1=true then p::q::r else q::ins p r
def bM{α:Type}:List (List Int×α)->List (List Int×α)
 | []=>[]
 | p::r=>ins p (bM r)
theorem ins_map{B F:Type}(f:B->F)(p:List Int×B):∀l:List (List Int×B),(ins p l).map (λx=>(x.1,f x.2))=ins (p.1,f p.2) (l.map λx=>(x.1,f x.2))
 | []=>rfl
 | q::r=>by
  rw[ins,VG,ins];by_cases h:HT.lexLt p.1 q.1=true
  ·rw[if_pos h,if_pos h];rfl
  ·rw[if_neg h,if_neg h,VG,ins_map f p r]
theorem fW{q B:Type}(f:q->B):∀l:List (List Int×q),(bM l).map (λx=>(x.1,f x.2))=bM (l.map λx=>(x.1,f x.2))
 | []=>rfl
 | p::r=>by rw[bM,ins_map,fW f r,VG,bM]
theorem nC{B:Type}(p:List Int×B):∀l:List (List Int×B),(ins p l).Perm (p::l)
 | []=>.refl _
 | q::r=>by
  rw[ins];by_cases h:HT.lexLt p.1 q.1=true
  ·rw[if_pos h]
  ·rw[if_neg h];exact((nC p r).cons q).trans (.swap ..)
theorem c9{q:Type}:∀l:List (List Int×q),(bM l).Perm l
 | []=>.refl _
 | p::r=>(nC p (bM r)).trans ((c9 r).cons p)
def f6{q:Type}(l:List (List Int×q)):Prop:=l.Pairwise λa b=>HT.lexLt a.1 b.1=true
theorem mF{G:Type}(p:List Int×G):∀l:List (List Int×G),(∀q∈l,q.1≠p.1)->f6 l->f6 (ins p l)
 | [],_,_=>by rw[ins];exact List.pairwise_singleton _ _
 | q::r,hn,h=>by
  rw[ins];have F:=List.pairwise_cons.mp h;by_cases c:HT.lexLt p.1 q.1=true
  ·rw[if_pos c]
   refine List.pairwise_cons.mpr ⟨λx B=>?_,h⟩;rcases List.mem_cons.mp B with e|e
   ·rw[e];exact c
   ·exact My.rO _ _ _ c (F.1 x e)
  ·rw[if_neg c]
   refine List.pairwise_cons.mpr ⟨λx B=>?_,mF p r (λy J=>hn y (V1 _ J)) F.2⟩;rcases List.mem_cons.mp ((nC p r).subset B)with e|e
   ·rw[e]
    rcases My.rN p.1 q.1 (λz=>hn q (V2 ..) z.symm)with z|z
    ·exact absurd z c
    ·exact z
   ·exact F.1 x e
theorem iH{F:Type}:∀l:List (List Int×F),(l.map (·.1)).Nodup->f6 (bM l)
 | [],_=>List.Pairwise.nil
 | p::r,h=>by
  rw[VG,List.nodup_cons]at h;refine mF p _ (λq B z=>h.1 ?_) (iH r h.2);exact List.mem_map.mpr ⟨q,(c9 r).subset B,z⟩
theorem oK{q:Type}{l m:List (List Int×q)}(h1:f6 l)(h2:f6 m)(B:l.Perm m):l=m:=by
 refine List.Perm.eq_of_pairwise (le:=λ(a b:List Int×q)=>HT.lexLt a.1 b.1=true) (λa b _ _ x y=>?_) h1 h2 B;have:=My.rO _ _ _ x y;rw[My.rJ]at this;cases this
theorem tJ{m:List (List Int×D)}{ps B:List (List Int×V)}(G:(ps.map (·.1)).Nodup)(h:PP A H (m.map K8) (ps.map My.kI))(hs:My.rX B)(hp:B.Perm ps):WK (λ(p:List Int×D) (q:List Int×V)=>p.1=q.1/\Rep A H p.2 q.2) (bM m) B:=by
 -- both by one list of triples
 have F:∀ {m:List (List Int×D)} {ps:List (List Int×V)},PP A H (m.map K8) (ps.map My.kI)->∃ts:List (List Int×(D×V)),m=ts.map (λt=>(t.1,t.2.1))/\ps=ts.map (λt=>(t.1,t.2.2))/\∀t∈ts,Rep A H t.2.1 t.2.2:=by
  intro m;induction m with
  | nil=>intro ps h;cases ps with
   | nil=>exact⟨[],rfl,rfl,λ_ h=>nomatch h⟩
   | cons _ _=>cases h
  | cons p m ih=>intro ps h;cases ps with
   | nil=>cases h
   | cons q ps=>
    cases h with
    | cons h t=>
     obtain⟨ts,M,U,N⟩:=ih t;have W:p.1=q.1:=My.i9.mp h.1;refine⟨(p.1,(p.2,q.2))::ts,by rw[VG,<- M],by rw[VG,<- U];congr 1;rw[W],λt J=>?_⟩;rcases List.mem_cons.mp J with e|e
     ·rw[e];exact h.2
     ·exact N t e
 obtain⟨ts,M,U,N⟩:=F h;have d1:bM m=(bM ts).map λt=>(t.1,t.2.1):=by rw[M,fW]
 have Y:B=(bM ts).map λt=>(t.1,t.2.2):=by
  have s1:f6 (bM ps):=iH ps G;have:=oK (l:=B) (m:=bM ps) hs s1 (hp.trans (c9 ps).symm);rw[this,U,fW]
 rw[d1,Y];refine My.eM _ λt J=>⟨rfl,N t ((c9 ts).subset J)⟩
theorem uK:∀ns:List Int,RepL A H (ns.map .int) (ns.map V.int)
 | []=>.nil
 | n::ns=>.cons (.int n) (uK ns)
theorem L1{o:Expr}{name:Str}{id:String}{r:V->List V->Hp->VK->Prop}{to:TE}{apos cpos:Pos}(G:Slot "dict" name id)(J:typeOf (.builtin id)=pure (.type "method_descriptor"))(hm:MtR X id r)(W:PE X o to)
  (q:ZC o name X.env (eval o X.env)=eval o X.env:=by rfl) (B:(apos.endLine == cpos.line)=true:=by rfl):PE X (.Call (.Attribute o name apos) [] [] cpos) (λσ H Q=>to σ H λx H1=>∃a,x=.ref a/\PK H1 a/\r x [] H1 Q):=by
 intro pins s σ H Q I h;refine wpAny_Call_method0_late q B (bG (W pins s σ H _ I h) λv Y ⟨x,H1,N,U,a,ex,M,q1⟩=>?_);subst ex;cases U;obtain⟨h1,h2,_⟩:=E7 N M;exact⟨"dict",id,PySem.F.plainAttrs_dict,G,J,h1,h2,zbb rfl (PySem.evalArgs_none (hm pins Y σ H1 (.ref a) [] (.ref a) [] Q N rfl .nil q1))⟩
def qB(g:D->Option D)(f:Ev):Ev:=λρ=>(f ρ).bind g
def m6:D->Option D
 | .dT l=>(intKeys l).bind λm=>if m.length<64 then some (.lst ((bM m).map λp=>.tup [.tup (p.1.map .int),p.2]))else none
 | _=>none
theorem vO(hc:X.calm=true)(hu:X.A.units+64<cLine)(hg:Gl X "sorted")(hm:X.mg "sorted" = none)(ho:PB X O o f)
  (hp:∀ {to:TE},PE X o to->PE X (.Call (.Attribute o "items" apos) [] [] cpos) (λσ H Q=>to σ H λx H1=>∃a,x=.ref a/\PK H1 a/\My.EF x [] H1 Q))
  (he:U8 [.Call (.Attribute o "items" apos) [] [] cpos] X.env=(false,eval (.Call (.Attribute o "items" apos) [] [] cpos) X.env)::U8 [] X.env:=by rfl) (ad:(VU pos (U8 [] X.env)).any (·.1)=false:=by rfl) :
  PF X O (.Call (.Name "sorted" p) [.Call (.Attribute o "items" apos) [] [] cpos] [] pos) (qB m6 f):=by
 have J:CallR X (.builtin "sorted") (λxs H Q=>∃A r a ys m,xs=[.ref r]/\Live A H/\H r=some (.ext λh=>h.IsItemsView r a)/\Rd H a (.dT ys)/\ys.map (·.1)=(m.map K8).map (·.1)/\RepL A H ((m.map K8).map (·.2)) (ys.map (·.2))/\m.length<64/\∀a H',Ext A H H'->H a=none->¬ A a->Own (λb=>A b\/b=a) H' (.lst ((bM m).map λp=>.tup [.tup (p.1.map .int),p.2])) a->Q (.ref a) H'):=by
  intro pins s σ H xs B Q I r h;obtain⟨A,r',a,ys,m,rfl,lv,F,h2,N,r3,G,q⟩:=h;obtain⟨ps,rfl,e4⟩:=wU N;obtain⟨_,_,ab,_⟩:=My.FD I h2;have ag:ps.length=m.length:=by have:=congrArg X2 e4;simpa using this
  refine My.qR hc hu pins s σ H _ B Q I r ⟨r',a,ps,rfl,F,h2,by lia,λla B M H2 sm n0 h3 pr pm so=>?_⟩;have sb:=tJ (A:=A) (H:=H) ab (p8 N r3) so pm;have up:∀ {d:D} {v:V},Rep A H d v->Rep (λb=>A b\/b=la) H2 d v:=λr=>by
   have W:Rep (λb=>A b\/b=la) H _ _:=r.av λb hb=>hb.imp id λz=>by rw[z];exact n0
   exact W.ext (Ext.same sm)
  have Y:∀ {ts:List (List Int×D)} {M:List (List Int×V)} {B:List V},WK (λ(p:List Int×D) (q:List Int×V)=>p.1=q.1/\Rep A H p.2 q.2) ts M->WK (My.T8 H2) B M->RepL (λb=>A b\/b=la) H2 (ts.map λp=>.tup [.tup (p.1.map .int),p.2]) B:=by
   intro ts M B h;induction h generalizing B with
   | nil=>intro h;cases h;exact .nil
   | cons h t ih=>
    intro h';cases h' with
    | cons h' t'=>
     obtain⟨a,b,rfl,ha,hb⟩:=h';exact .cons (.tup ha (.cons (.tup hb (by rw[h.1];exact uK _)) (.cons (up h.2) .nil))) (ih t')
  exact q la H2 (Ext.same sm) n0 (λz=>lv la z n0) (.lst h3 (Y sb pr))
 refine PE.mono (m8 J hg hm My.boot_sorted (cA (hp ho) hJ he) (by decide) (by decide) he ad) λσ H Q ⟨H0,A0,A,E,ρ,d,st,e,q⟩=>?_
 obtain⟨x,ex,e⟩:=bind_some e;cases x with
 | dT l=>
  obtain⟨m,e1,e⟩:=bind_some e;split at e
  case isFalse=>cases e
  rename_i G;cases e;have el:=mJ e1;subst el;refine⟨H0,A0,A,E,ρ,_,st,ex,λv H1 U W=>?_⟩;obtain⟨a,ys,rfl,h2,N,r3⟩:=W.dT_inv;refine⟨a,rfl,.inr ⟨ys,h2⟩,a,ys,rfl,rfl,h2,λr F=>⟨A,r,a,ys,m,rfl,Live.ext (st.mono U).live (Ext.new F),aG,dY (λz=>?_) h2,N,r3.ext (Ext.new F),G,λa' H' x' n na o=>?_⟩⟩
  ·subst z;rcases h2 with h2|⟨_,h2⟩ <;> (rw[F]at h2;cases h2)
  ·have x2:=(U.trans (Ext.new F)).trans x'
   exact q a' H' x2 ((U.trans (Ext.new F)).free n) na o
 | _=>cases e
end
def kY:D->Option Int->Option Int->Option D
 | .tup l,lo,hi=>some (.tup (cutD l lo hi))
 | .lst l,lo,hi=>some (.lst (cutD l lo hi))
 | _,_,_=>none
theorem SQ:SlR X (rS kY):=SlR.mono (SlR.or SI (SlR.mono SH λx lo hi H Q (h:rS RK x lo hi H Q)=>by
  obtain⟨A,dx,d,F,B,e,q⟩:=h;exact⟨A,dx,d,F,B,e,λa H' x n G o=>q _ H' x ((o.av (A':=A) λb J=>.inl (.inl J)).rep G)⟩)) λx lo hi H Q ⟨A,dx,d,F,B,e,q⟩=>by
 cases dx with
 | tup l=>exact .inl ⟨A,_,d,F,B,e,q⟩
 | lst l=>exact .inr ⟨A,_,d,F,B,e,q⟩
 | _=>cases e
section
variable {ρ:bI}{f g:Ev}{d x y:D}{i j:Int}{k:Nat}
@[simp] theorem q_seq{f g:Sv}:c6 f g ρ=(f ρ).bind λo=>match o with | .nx ρ'=>g ρ'|o=>some o:=rfl
@[simp] theorem q_set:d5 k f ρ=(f ρ).map λd=>.nx (ρ.set k (some d)):=rfl
@[simp] theorem q_if{c:Bv}{f g:Sv}:GJ c f g ρ=(c ρ).bind λb=>if b=true then f ρ else g ρ:=rfl
@[simp] theorem q_rt:LA f ρ=(f ρ).map .rt:=rfl
@[simp] theorem q_nx:O0 ρ=some (.nx ρ):=rfl
@[simp] theorem q_bad:JW ρ=none:=rfl
@[simp] theorem q_asg{g:Gv}:J9 f g ρ=(f ρ).bind λd=>(g d ρ).map .nx:=rfl
@[simp] theorem q_for{f:Lv}{g:Gv}{b:Sv}:oS f g b ρ=(f ρ).bind λitems=>fR g b items ρ:=rfl
@[simp] theorem q_drop:FI f ρ=(f ρ).map λ_=>.nx ρ:=rfl
@[simp] theorem q_app:F3 k f ρ=(aD k ρ).bind λx=>match x with
 | .lst l=>(f ρ).bind λd=>if aW l.length then some (.nx (ρ.set k (some (.lst (l++[d])))))else none
 | _=>none:=rfl
@[simp] theorem q_put:BX k f g ρ=(g ρ).bind λe=>(aD k ρ).bind λx=>(f ρ).bind λq=>(sN x q e).map λd=>.nx (ρ.set k (some d)):=rfl
@[simp] theorem q_var:aD k ρ=(ρ[k]?).join:=rfl
@[simp] theorem q_c:eC d ρ=some d:=rfl
@[simp] theorem q_op:bC o f g ρ=(f ρ).bind λx=>(g ρ).bind λy=>o x y:=rfl
@[simp] theorem q_call:a6 F l ρ=(l ρ).bind F:=rfl
@[simp] theorem q_lnil:bQ ρ=some []:=rfl
@[simp] theorem q_lcons:aH f l ρ=(f ρ).bind λx=>(l ρ).bind λxs=>some (x::xs):=rfl
@[simp] theorem q_tup:kX l ρ=(l ρ).map .tup:=rfl
@[simp] theorem q_lst:sL l ρ=(l ρ).map .lst:=rfl
@[simp] theorem q_bind:qB o f ρ=(f ρ).bind o:=rfl
@[simp] theorem q_bof:lN f ρ=(f ρ).bind xT:=rfl
@[simp] theorem q_asB:xT (.bl b)=some b:=rfl
@[simp] theorem q_asI:GC (.int i)=some i:=rfl
@[simp] theorem q_bnot:F5 c ρ=(c ρ).map (!·):=rfl
@[simp] theorem q_band:xN a b ρ=(a ρ).bind λx=>if x=true then b ρ else some false:=rfl
@[simp] theorem q_bor:RZ a b ρ=(a ρ).bind λx=>if x=true then some true else b ρ:=rfl
@[simp] theorem q_and:ON f g ρ=(f ρ).bind λx=>(xT x).bind λb=>if b=true then g ρ else some (.bl false):=rfl
@[simp] theorem q_not:Q1 f ρ=(f ρ).bind λx=>(xT x).map λb=>.bl (!b):=rfl
@[simp] theorem q_neg:J7 f ρ=(f ρ).bind λd=>(GC d).map λi=>.int (-i):=rfl
@[simp] theorem q_ifx:UG c f g ρ=(c ρ).bind λb=>if b=true then f ρ else g ρ:=rfl
@[simp] theorem q_isi:BZ n f ρ=(f ρ).map λd=>.bl (vJ n d):=rfl
@[simp] theorem q_get2:K2 a b c ρ=(a ρ).bind λd=>(b ρ).bind λk=>(c ρ).bind λe=>(dU d k).map λo=>o.getD e:=rfl
@[simp] theorem q_sl:KD o f a b ρ=(f ρ).bind λx=>(a ρ).bind λlo=>(b ρ).bind λhi=>o x lo hi:=rfl
@[simp] theorem q_oN:qJ ρ=some none:=rfl
@[simp] theorem q_oS:kP f ρ=(f ρ).bind λd=>(GC d).map some:=rfl
@[simp] theorem q_lR:lR o l ρ=(l ρ).bind o:=rfl
@[simp] theorem q_lSeq:FU f ρ=(f ρ).bind λd=>match d with
 | .lst l=>some l
 | .tup l=>some l
 | .dT l=>some (l.map λp=>.tup (p.1.map B3))
 | _=>none:=rfl
@[simp] theorem q_comp{ms:List (Option Nat)}{it:Lv}{g:Gv}{c:Bv}:dW ms it g c f ρ=(it ρ).bind λitems=>if aW items.length then(bD g c f items (jV ms ρ)).map .lst else none:=rfl
@[simp] theorem q_yes:gD ρ=some true:=rfl
@[simp] theorem q_name:aJ k d ρ=some (ρ.set k (some d)):=rfl
@[simp] theorem q_gnil:gQ [] ρ=some ρ:=rfl
@[simp] theorem q_gcons{g:Gv}{h:zY}{ds:List D}:aR g h (d::ds) ρ=(g d ρ).bind λρ'=>h ds ρ':=rfl
@[simp] theorem q_gtup:kQ n h (.tup l) ρ=if l.length=n then h l ρ else none:=rfl
@[simp] theorem q_sub:J2 (.int i) (.int j)=some (.int (i-j)):=rfl
@[simp] theorem q_addI:qF (.int i) (.int j)=some (.int (i+j)):=rfl
@[simp] theorem q_ltI:TZ (.int i) (.int j)=some (.bl (decide (i<j))):=rfl
@[simp] theorem q_gtI:FZ (.int i) (.int j)=some (.bl (decide (j<i))):=rfl
@[simp] theorem q_geI:OM (.int i) (.int j)=some (.bl (decide (j<=i))):=rfl
@[simp] theorem q_eqI:d6 (.int i) (.int j)=some (.bl (decide (i=j))):=by
 unfold d6 B6;rw[if_pos (.inl rfl)];simp
@[simp] theorem q_neI:KH (.int i) (.int j)=some (.bl (!decide (i=j))):=by
 unfold KH B6;rw[if_pos (.inl rfl)];simp
@[simp] theorem q_eqB:d6 (.bl a) (.bl b)=some (.bl (decide (a=b))):=by
 unfold d6 B6;rw[if_pos (.inl rfl)];simp
@[simp] theorem q_neB:KH (.bl a) (.bl b)=some (.bl (!decide (a=b))):=by
 unfold KH B6;rw[if_pos (.inl rfl)];simp
theorem cF(h:0<j):eW (.int i) (.int j)=some (.int (i%j)):=if_pos h
theorem qK(h:0<j)(h2:j<1073741824):vG (.int i) (.int j)=some (.int (i/j)):=if_pos ⟨h,h2⟩
theorem vA(h:0<=j)(h2:j<=1000000)(q:i.natAbs<2^64):xR (.int i) (.int j)=some (.int (i^j.toNat)):=if_pos ⟨h,h2,q⟩
@[simp] theorem q_lenL:bY [.lst l]=some (.int l.length):=rfl
@[simp] theorem q_lenT:bY [.tup l]=some (.int l.length):=rfl
@[simp] theorem q_tuL:dX [.lst l]=some (.tup l):=rfl
@[simp] theorem q_tuT:dX [.tup l]=some (.tup l):=rfl
@[simp] theorem q_liL:jC [.lst l]=some (.lst l):=rfl
@[simp] theorem q_liT:jC [.tup l]=some (.lst l):=rfl
@[simp] theorem q_slT{l:List D}{lo hi:Option Int}:kY (.tup l) lo hi=some (.tup (cutD l lo hi)):=rfl
@[simp] theorem q_slL{l:List D}{lo hi:Option Int}:kY (.lst l) lo hi=some (.lst (cutD l lo hi)):=rfl
@[simp] theorem q_itL:aF (.lst l) (.int i)=d7 l i:=rfl
@[simp] theorem q_itT:aF (.tup l) (.int i)=d7 l i:=rfl
@[simp] theorem q_itD:aF (.dT l) d=(dU (.dT l) d).join:=rfl
@[simp] theorem isi_int_int:vJ "int" (.int i)=true:=rfl
@[simp] theorem isi_bool_int:vJ "bool" (.int i)=false:=rfl
@[simp] theorem isi_tuple_tup:vJ "tuple" (.tup l)=true:=rfl
@[simp] theorem isi_list_lst:vJ "list" (.lst l)=true:=rfl
end
def turn(g:Gv)(b:Sv)(x:D):Sv:=λρ=>(g x ρ).bind b
theorem jT(I:Nat->bI->Prop)(h0:I 0 ρ)(hs:∀i x ρ,items[i]?=some x->I i ρ->∃ρ',turn g b x ρ=some (.nx ρ')/\I (i+1) ρ'):∃ρ',fR g b items ρ=some (.nx ρ')/\I items.length ρ':=by
 have B:∀(m:List D) (k:Nat) (ρ:bI),items.drop k=m->k<=items.length->I k ρ->∃ρ',fR g b m ρ=some (.nx ρ')/\I items.length ρ':=by
  intro m;induction m with
  | nil=>
   intro k ρ e N h;have:items.length<=k:=by rw[List.drop_eq_nil_iff]at e;exact e
   have:k=items.length:=by lia
   subst this;exact⟨ρ,rfl,h⟩
  | cons x m ih=>
   intro k ρ e N h;have q:k<items.length:=by
    rcases Nat.lt_or_ge k items.length with z|z
    ·exact z
    ·rw[List.drop_eq_nil_iff.mpr z]at e;cases e
   rw[zac q]at e;injection e with e1 e2
   obtain⟨ρ',h1,h2⟩:=hs k x ρ (by rw[<- e1];simp[q]) h;obtain⟨ρ2,J,M⟩:=ih (k+1) ρ' e2 q h2;refine⟨ρ2,?_,M⟩;unfold turn at h1;obtain⟨ρ1,F,G⟩:=bind_some h1;unfold fR;rw[F];show(b ρ1).bind _=_;rw[G];exact J
 exact B items 0 ρ rfl (WL _) h0
theorem aQ(h:f (aK n ds)=some (.rt d)):aS n f ds=some d:=by
 unfold aS;rw[h];rfl
theorem NX(h:f (aK n ds)=some (.nx ρ)):aS n f ds=some .non:=by
 unfold aS;rw[h];rfl
theorem aI(h:f ρ=some (.nx ρ')):c6 f g ρ=g ρ':=by
 unfold c6;rw[h];rfl
theorem b5(h:f ρ=some d):d5 k f ρ=some (.nx (ρ.set k (some d))):=by
 unfold d5;rw[h];rfl
theorem RF(h:f ρ=some d):LA f ρ=some (.rt d):=by
 unfold LA;rw[h];rfl
theorem f9{f:Lv}{g:Gv}{b rest:Sv}{ρ:bI}{items:List D}{q:Option Out}(B:f ρ=some items)(I:Nat->bI->Prop)(h0:I 0 ρ)(hs:∀i x ρ,items[i]?=some x->I i ρ->∃ρ',turn g b x ρ=some (.nx ρ')/\I (i+1) ρ')(k:∀ρ',I items.length ρ'->rest ρ'=q):c6 (oS f g b) rest ρ=q:=by
 obtain⟨ρ',e,h⟩:=jT (g:=g) (b:=b) I h0 hs;rw[aI (by rw[q_for,B];exact e)];exact k ρ' h
open My (look put bK oD kN)
def kD(t:My.Tm):List Key×D:=(t.1.map VS,.int t.2)
noncomputable def tupI(k:List Int):D:=.tup (k.map .int)
def kS(t:My.Tm):D:=.tup [tupI t.1,.int t.2]
theorem pT:∀k:List Int,F7 (k.map .int)=some (k.map VS)
 | []=>rfl
 | i::k=>by rw[VG,F7,pT k];rfl
@[simp] theorem asT_tupI(k:List Int):KG (tupI k)=some (k.map VS):=pT k
theorem LS(cs:List My.Tm)(k:List Int):dF (cs.map kD) (k.map VS:List Key)=(look cs k).map D.int:=by
 induction cs with
 | nil=>rfl
 | cons t cs ih=>
  rw[VG];by_cases e:t.1=k
  ·have:(kD t).1=k.map VS:=by show t.1.map VS=_;rw[e]
   simp[dF,look,WZ,this,e,kD]
  ·have:¬ (kD t).1=k.map VS:=by show ¬ t.1.map VS=_;rw[My.i9];exact e
   have a:dF (kD t::cs.map kD) (k.map VS)=dF (cs.map kD) (k.map VS):=by simp[dF,WZ,this]
   rw[a,ih];simp[look,WZ,e]
theorem ML(cs:List My.Tm)(k:List Int)(c:Int):putD (cs.map kD) (k.map VS:List Key) (.int c)=(put cs k c).map kD:=by
 unfold putD put;have e:((cs.map kD).any λB=>decide (B.1=(k.map VS:List Key)))=cs.any λt=>decide (t.1=k):=by
  rw[List.any_map];congr 1;funext t;exact decide_eq_decide.mpr (My.i9 (a:=t.1) (b:=k))
 rw[e];by_cases h:(cs.any λt=>decide (t.1=k))=true
 ·rw[if_pos h,if_pos h,W7,W7]
  congr 1;funext t;show(if t.1.map VS=(k.map VS:List Key)then((t.1.map VS:List Key),D.int c)else kD t)=kD (if t.1=k then(t.1,c)else t);by_cases z:t.1=k
  ·rw[if_pos z,if_pos (My.i9.mpr z)];rfl
  ·rw[if_neg z,if_neg (λq=>z (My.i9.mp q))]
 ·rw[if_neg h,if_neg h,W6]
  rfl
@[simp] theorem look_kD(cs:List My.Tm)(k:List Int):dU (.dT (cs.map kD)) (tupI k)=some ((look cs k).map D.int):=by
 show(KG (tupI k)).map _=_;rw[asT_tupI,VA,LS]
theorem GY(k:List Int)(c:Int)(h:cs.length<=1000000):sN (.dT (cs.map kD)) (tupI k) (.int c)=some (.dT ((put cs k c).map kD)):=by
 show(KG (tupI k)).bind _=_;rw[asT_tupI,U9,if_pos (by rw[aW,VD];exact decide_eq_true h),ML]
theorem vR(cs:List My.Tm):intKeys (cs.map kD)=some (cs.map λt=>(t.1,D.int t.2)):=by
 have:=kG (cs.map λt=>(t.1,D.int t.2));rw[W7]at this;exact this
theorem wR(h:cs.length<64):m6 (.dT (cs.map kD))=some (.lst ((bM cs).map kS)):=by
 show(intKeys (cs.map kD)).bind _=_;rw[vR,U9,if_pos (by rw[VD];exact h)];have:(bM (cs.map λt=>(t.1,D.int t.2)))=(bM cs).map λt=>(t.1,D.int t.2):=(fW D.int cs).symm
 rw[this,W7];rfl
theorem uC{ns:List Int}{k:Int}(h0:0<=k)(h:k<(ns.length:Int)):∃c,d7 (ns.map D.int) k=some (.int c)/\ns[k.toNat]?=some c:=by
 obtain⟨j,rfl⟩:∃j:Nat,k=(j:Int):=⟨k.toNat,by lia⟩;have q:j<ns.length:=by lia
 exact⟨ns[j],bX (by simp[q]),by simp[q]⟩
noncomputable def qG:D->Option (List D)
 | .lst l=>some l
 | .tup l=>some l
 | _=>none
theorem IE{A:Av}{H:Hp}{K:U6}{d:D}{l:List D}{v:V}(h:qG d=some l)(r:Rep A H d v):∃t a xs,v=.ref a/\My.KJ K t H a xs/\RepL A H l xs/\∀A' H',Rep A' H' d v->∃ys,My.KJ K t H' a ys/\RepL A' H' l ys:=by
 cases d with
 | lst m=>
  cases h;obtain⟨a,xs,rfl,h1,B⟩:=RepB.lst_inv (.of r);refine⟨false,a,xs,rfl,.inl h1,B,λA' H' F=>?_⟩;obtain⟨G,ys,e,h2,q⟩:=RepB.lst_inv (.of F);cases e;exact⟨ys,.inl h2,q⟩
 | tup m=>
  cases h;obtain⟨a,xs,rfl,h1,B⟩:=RepB.tup_inv (.of r);refine⟨true,a,xs,rfl,.inl (.inl h1),B,λA' H' F=>?_⟩;obtain⟨G,ys,e,h2,q⟩:=RepB.tup_inv (.of F);cases e;exact⟨ys,.inl (.inl h2),q⟩
 | _=>cases h
@[simp] theorem q_seqL:qG (.lst l)=some l:=rfl
@[simp] theorem q_seqT:qG (.tup l)=some l:=rfl
theorem NK(h1:-A<a)(h2:a<A)(q:-B<b)(F:b<B):-(A*B)<a*b/\a*b<A*B:=by
 have e:(a*b).natAbs<(A*B).natAbs:=by
  rw[Int.natAbs_mul,Int.natAbs_mul];exact Nat.mul_lt_mul_of_lt_of_le (by lia) (by lia) (by lia)
 have G:0<=A*B:=Int.mul_nonneg (by lia) (by lia)
 lia
end P
namespace P
end P
namespace P
open PySem PySem.Spec PyProof.Rows L2
@[simp] theorem q_chain:eT g g' fa fb fc ρ=(fa ρ).bind λx=>(fb ρ).bind λy=>(g x y).bind λz=>(xT z).bind λb=>if b=true then(fc ρ).bind λw=>g' y w else some (.bl false):=rfl
noncomputable def pick{α:Type}(l:List α)(lo hi st:Option Int):List α:=(sliceRange (X7 lo hi st l.length).1 (X7 lo hi st l.length).2.1 (X7 lo hi st l.length).2.2).filterMap (l[·]?)
section
variable {X:Cx}{O:List Nat}
open Classical in
def nM(d x:D):Option D:=match d with
 | .lst l=>if dG x=true/\l.all dG=true/\aW l.length=true then(l.findIdx? λy=>decide (y=x)).map λ(j:Nat)=>.int (j:Int)else none
 | _=>none
open Classical in
theorem DC(hu:X.A.units+64<cLine):RP X "list.index" (λv vs H Q=>∃A d x y d',vs=[y]/\Live A H/\RepB A H d v/\RepB A H x y/\nM d x=some d'/\∀v H',Ext A H H'->Rep A H' d' v->Q v H'):=by
 intro pins s σ H v vs u us Q I rv ru h;obtain⟨A,d,x,y,d',rfl,lv,rd,rx,e,q⟩:=h;obtain⟨w,rfl,Y⟩:=ru.one;cases d with
 | lst l=>
  simp only[nM]at e;split at e
  case isFalse=>cases e
  rename_i hc;obtain⟨j,ej,rfl⟩:=map_some e;obtain⟨a,xs,rfl,h1,r1⟩:=rd.lst_inv;cases rv;obtain⟨_,B,n,r,J,eo⟩:=Inv.lstR I h1;obtain⟨f,f1,f2⟩:=IL (Ar:=X.A.in1) I (by show X.A.units+1+60<cLine;lia) hc.1 rx Y hc.2.1 r1 r;obtain⟨hj,M,N⟩:=List.findIdx?_eq_some_iff_getElem.mp ej;have G:j<B.length:=by rw[<- J,r1.length];exact hj
  have hsz:=cI hc.2.2;have aa:(j:Int)<2^63-1:=by
   have:(VC:Nat)<2^62:=by decide
   lia
  refine Y1 F.slot_list_index ⟨_,eo,rfl⟩ F.entry_list_index (F.args_list_index_2 _ _) (PySem.SeqAt.list_indexAt a B.toArray n none #[] w f j (by simpa using G) aa ?_ ?_) ⟨eo,λz hz=>f1 z (by simpa using hz),?_⟩
  ·rw[f2 j _ _ (V6 hj) (by simp[G])]
   exact M
  ·intro m hm W
   have ab:m<l.length:=by lia
   have U:m<B.length:=by simpa using hm
   rw[f2 m _ _ (V6 ab) (by simp[U])];have:=N m W;simpa using this
  ·exact⟨.int j,H,I.tok _,⟨_,rfl⟩,q _ H (Ext.refl _ _) (.int _)⟩
 | _=>cases e
theorem C1(W:X.A.units+64<cLine)(J:PB X O o f)(U:PB X O e g)
  (hp:∀ {r:V->List V->Hp->VK->Prop} {to:TE} {t:TA},MtR X "list.index" r->PE X o to->PA X [e] t->PE X (.Call (.Attribute o "index" apos) [e] [] cpos) (RX X.K "list" r to t)) (hs:U8 [e] X.env=(false,eval e X.env)::U8 [] X.env:=by rfl) :
  PD X O (.Call (.Attribute o "index" apos) [e] [] cpos) (bC nM f g):=PE.mono (hp (DC W) J (cA U hJ hs)) λσ H Q ⟨H0,A0,A,E,ρ,d,st,e,q⟩=>by
 obtain⟨x,ex,e⟩:=bind_some e;obtain⟨y,ey,e⟩:=bind_some e;refine⟨H0,A0,A,E,ρ,x,st,ex,λv H1 F G=>⟨?_,H0,A0,A,E,ρ,y,st.mono F,ey,λw H2 B M=>⟨A,x,y,w,d,rfl,(st.mono (F.trans B)).live,G.ext B,M,e,λv N x3 Y=>q v N ((F.trans B).trans x3) Y⟩⟩⟩;cases x with
 | lst l=>obtain⟨a,xs,rfl,h1,_⟩:=G.lst_inv;exact .inl ⟨rfl,xs,.inl h1⟩
 | _=>cases e
end
end P
namespace My
open PySem PySem.Spec PyProof.Rows L2 PySem.SeqAt
section
variable {X:Cx}
theorem Inv.gone(I:Inv X pins σ H s)(f:fS X pins H C)(hs:V8 C s.heap h'):Inv X pins σ H {s with heap:=h'}:=by
 obtain⟨f0,N,Y,U,J,W⟩:=f;refine I.call' (s':={s with heap:=h'}) (ch:=[C]) rfl ⟨λb o e n F B=>?_,λb o e n F B=>?_,λ_ _ _ n _=>n,λb o e B=>?_,λ_ _ q=>q,λ_ _ _ q=>q,λ_ ps q=>⟨#[],by simpa using q⟩⟩ ?_ I.bare λb F=>?_
 ·exact(hs.2 b (λz=>B (z ▸ List.mem_singleton.mpr rfl))).trans e
 ·exact⟨o.slots,(hs.2 b (λz=>B (z ▸ List.mem_singleton.mpr rfl))).trans e⟩
 ·exact⟨o,(hs.2 b (λz=>B (z ▸ List.mem_singleton.mpr rfl))).trans e⟩
 ·intro b G e
  refine(I.hok b G e).stay (λc w' M q=>(hs.2 c ?_).trans q) (λ_ q=>q) λ_ _ q=>q
  rintro rfl;rcases M with z|z
  ·subst z;rw[f0]at e;cases e
  ·rw[f0]at z;cases z
 ·rw[List.mem_singleton.mp F]
  exact⟨U,N,J,W⟩
theorem lB(hN:X.N.Nodup)(ac:X.N[i]?=some x)(hx:Loc X.env.scope x)
  (hc:X.calm=true) (F:Clo X N scope cl) (hi:PI X tg iter wi) (hg:∀C s H fp,PG (aN X N scope cl C s H fp) tg g) (ht:∀C s H fp,vN (aN X N scope cl C s H fp) ifs tt) (he:∀C s H fp,PE (aN X N scope cl C s H fp) elt te)
  (hs:∀x,W4 iter X.env x=pure x:=by intro _;rfl) (ad:V3 (.ListComp elt [⟨tg,iter,ifs,0⟩] scope pos) (some (.Name x pos')) spos.line X.env=pure true:=by rfl)
  (hf:X.fn x=true\/X.env.scope.names.lookup x=some .local:=by first|exact .inl rfl|exact .inr rfl) :
  PS X (.Assign [.Name x pos'] (.ListComp elt [⟨tg,iter,ifs,0⟩] scope pos) spos) (vI (zT wi g tt te (Start X N scope)) (fQ i)):=by
 intro pins s σ H D I h;obtain⟨aq,sS,hw⟩:=h;rw[exec_Assign_Name_used _ _ _ _ ad];refine U4 (ZV (U4 ?_));show wpAny _ X.A (do let _ <- comprehension (.ListComp elt [⟨tg,iter,ifs,0⟩] scope pos) scope X.env _ (newList []) false (eval iter X.env) (some (WU (.Name x pos') X.env))) _ _ s;refine U4 (WR (wpAny_comprehension_free (use:=some (WU (.Name x pos') X.env)) (Q:=λ_ s'=>SP X pins D .next s') rfl hs F.clos F.kind F.names
  (bG (hi pins s σ H _ I hw) λv s1 h1=>bG h1 λas s2 h2=>?_)) (λ_ s' hq=>U7 (U7 hq)) λ_ _ e=>e)
 obtain⟨it,fp,tn,J,H2,e,I2,T,G,f2,q2⟩:=h2;subst e;refine pZ (wi:=wi) (Q:=λv H1=>fQ i v σ H1 D.nx) (RR:=λY C=>compPost (model X.prog X.w) X.A X.xe (some (WU (.Name x pos') X.env)) (λ_ s'=>SP X pins D .next s') Y C) hc F hg ht he I2 T G f2 sS q2 ?_
 intro s3 s5 H3 H5 ar D1 I3 f3 M q;obtain⟨m,hn,_⟩:=id M.loc;have I6:Inv X pins σ H5 s5:=comp_back I3 f3 M (Heap.SameBut.refl _ _);have U:fS X pins H5 s3.heap.objs.size:=I3.fpOk (VH _) M.free;show wpAny _ X.A (WU (.Name x pos') X.env (.ref D1)) _ _ s5;refine wpAny_assign_Name (oW (v:=.ref D1) I6 hN ac hx rfl (λs7 I7 ⟨a,aa,B⟩=>?_) hf);have ne:s3.heap.objs.size≠a:=λz=>by
  rcases B with B|B
  ·exact U.2.1 (z.trans B)
  ·exact U.2.2.2.2.1 x a B z.symm
 exact⟨m,Heap.Ns.sameBut hn aa ne,λh' W=>⟨_,H5,Inv.gone I7 U W,q⟩⟩
end
end My
namespace P
open PySem PySem.Spec PyProof.Rows L2 PySem.SeqAt
section
variable {X:Cx}{O O':List Nat}{L:Lp}
theorem wH(N:PS X (.Assign [.Name x pos'] e pos) (vI (tD Rep O f) (fQ i)))(h:Sub O' (O.filter (· != i))=true):PSD X L O (.Assign [.Name x pos'] e pos) (d5 i f) O':=
 PS.mono N <| by
  rintro T σ H ⟨H0,A0,A,E,ρ,J,st,e,p⟩;obtain⟨d,M,rfl⟩:=map_some e;refine⟨H0,A0,A,E,ρ,d,st,M,λv H' x r=>?_⟩;have F:=(st.mono x).more r;obtain⟨A',B⟩:=F.shut (O':=O') λj U=>(Sub.er h U).1
  exact p A' _ H' ((B.put (B.ext _ (V2 ..)) λz=>(Sub.er h z).2 rfl).less λq G=>V1 _ G)
theorem sY(U:PS X (.Assign [.Name x pos'] e pos) (vI (tF O f) (fQ i)))(h:Sub O' (i::O)=true)(J:O.contains i=false):PSD X L O (.Assign [.Name x pos'] e pos) (d5 i f) O':=
 PS.mono U <| by
  rintro T σ H ⟨H0,A0,A,E,ρ,B,st,e,p⟩;obtain⟨d,F,rfl⟩:=map_some e;refine⟨H0,A0,A,E,ρ,d,st,F,λa H' x n M o=>?_⟩;have N:i∉O:=λz=>by
   have:O.contains i=true:=by simpa using z
   rw[J]at this;cases this
  obtain⟨G,q⟩:=(st.own_put x n M o N).shut (Sub.mem h);exact p G _ H' q
theorem KQ:tD Rep O f σ H Q->tF O f σ H Q:=λ⟨H0,A0,A,E,ρ,d,st,e,q⟩=>
 ⟨H0,A0,A,E,ρ,d,st,e,λa H' x n B o=>q _ H' x ((o.av (A':=A) λb F=>.inl (.inl F)).rep B)⟩
theorem D8(hN:X.N.Nodup)(q:X.N[i]?=some x)(G:Loc X.env.scope x)
  (J:X.calm=true) (W:My.Clo X N scope cl) (F:bJ X scope N ms) (hn:(ms.all λo=>match o with|some i=>!O.contains i|none=>true)=true) (hi:PDI X O tg iter it) (hg:∀C s H fp,sO (My.aN X N scope cl C s H fp) [] tg g)
  (Y:∀C s H fp,My.vN (My.aN X N scope cl C s H fp) ifs (tDT [] c)) (U:∀C s H fp,PD (My.aN X N scope cl C s H fp) [] elt f) (h:Sub O' (O.filter (· != i))=true:=by rfl) (hs:∀x,W4 iter X.env x=pure x:=by intro _;rfl)
  (B:V3 (.ListComp elt [⟨tg,iter,ifs,0⟩] scope pos) (some (.Name x pos')) spos.line X.env=pure true:=by rfl) (M:X.fn x=true\/X.env.scope.names.lookup x=some .local:=by first|exact .inl rfl|exact .inr rfl) :
  PSD X L O (.Assign [.Name x pos'] (.ListComp elt [⟨tg,iter,ifs,0⟩] scope pos) spos) (d5 i (dW ms it g c f)) O':=
 wH (PS.mono (My.lB hN q G J W hi hg Y U hs B M) λT σ H w=>iS F hn _ _ _ (KQ w)) h
theorem BM(hN:X.N.Nodup)(q:X.N[i]?=some x)(J:Loc X.env.scope x)
  (M:X.calm=true) (Y:My.Clo X N scope cl) (F:bJ X scope N ms) (hn:(ms.all λo=>match o with|some i=>!O.contains i|none=>true)=true) (hi:PDI X O tg iter it) (hg:∀C s H fp,sO (My.aN X N scope cl C s H fp) [] tg g)
  (ht:∀C s H fp,My.vN (My.aN X N scope cl C s H fp) ifs (tDT [] c)) (W:∀C s H fp,PD (My.aN X N scope cl C s H fp) [] elt f) (h:Sub O' (i::O)=true:=by rfl) (G:O.contains i=false:=by rfl) (hs:∀x,W4 iter X.env x=pure x:=by intro _;rfl)
  (B:V3 (.ListComp elt [⟨tg,iter,ifs,0⟩] scope pos) (some (.Name x pos')) spos.line X.env=pure true:=by rfl) (U:X.fn x=true\/X.env.scope.names.lookup x=some .local:=by first|exact .inl rfl|exact .inr rfl) :
  PSD X L O (.Assign [.Name x pos'] (.ListComp elt [⟨tg,iter,ifs,0⟩] scope pos) spos) (d5 i (dW ms it g c f)) O':=
 sY (PS.mono (My.lB hN q J M Y hi hg ht W hs B U) λT σ H w=>iS F hn _ _ _ w) h G
end
end P
namespace My
open PySem PySem.Spec PyProof.Rows L2 PySem.SeqAt
def OO(K:U6)(n:Nat)(t:KI):TG:=λv σ H Q=>∃a xs,v=.ref a/\(SqT K H a xs\/SqL K H a xs)/\xs.length=n/\t xs σ H Q
theorem hU(J:X.calm=true)(h:PGs X es t)
  (N:(WA es X.env).length=n:=by rfl) (B:(WA es X.env).findIdx? (·.1)=none:=by rfl):PG X (.Tuple es k pos) (OO X.K n t):=by
 intro pins s σ H v u Q I r hw;obtain⟨a,xs,e1,q,M,hw⟩:=hw;subst e1;rcases q with q|q
 ·exact E6 J h N B pins s σ H _ u Q I r ⟨a,xs,rfl,q,M,hw⟩
 ·cases r
  obtain⟨F,G,ht,hz⟩:=I.list q;have hsz:(WA es X.env).length=F.toArray.size:=by simp[N,<- M,G.length]
  rw[assign_Tuple];refine U4 (ZV ?_);unfold unpack;rw[hsz,B];refine U4 (W3 (PySem.W.kun_itemsOf (I.ok.hd J) (My.PlainL.isList ht) λh' U=>?_));have Y:Inv X pins σ H {s with heap:=h'}:=I.kept (t':=s.toks) λb o e=>U b o (VT (VE e)) e
  exact h pins _ σ H xs _ Q Y (by simpa using G) hw
end My
namespace P
open PySem PySem.Spec PyProof.Rows L2 PySem.SeqAt
def cN(n:Nat)(k:zY):Gv:=λd ρ=>match d with
 | .tup l=>if l.length=n then k l ρ else none
 | .lst l=>if l.length=n then k l ρ else none
 | _=>none
theorem gB(G:PG X tg (My.OO X.K n (tDGs O k))):sO X O tg (cN n k):=PG.mono G <| by
 rintro v σ H Q ⟨H0,A0,A,E,ρ,d,ρ',st,r,e,q⟩;cases d with
 | tup l=>
  obtain⟨a,xs,rfl,h,F⟩:=RepB.tup_inv (.of r);by_cases B:l.length=n
  ·simp only[cN,if_pos B]at e
   exact⟨a,xs,rfl,.inl (.inl (.inl h)),by rw[F.length];exact B,H0,A0,A,E,ρ,l,ρ',st,F,e,q⟩
  ·simp only[cN,if_neg B]at e;cases e
 | lst l=>
  obtain⟨a,xs,rfl,h,F⟩:=RepB.lst_inv (.of r);by_cases B:l.length=n
  ·simp only[cN,if_pos B]at e
   exact⟨a,xs,rfl,.inr (.inl h),by rw[F.length];exact B,H0,A0,A,E,ρ,l,ρ',st,F,e,q⟩
  ·simp only[cN,if_neg B]at e;cases e
 | _=>cases e
@[simp] theorem q_gseqT:cN n h (.tup l) ρ=if l.length=n then h l ρ else none:=rfl
@[simp] theorem q_gseqL:cN n h (.lst l) ρ=if l.length=n then h l ρ else none:=rfl
end P
namespace P
open PySem PySem.Spec PyProof.Rows L2
def cf(q:List My.Tm)(k:List Int):Int:=(My.look q k).getD 0
theorem wW{f:Lv}{g:Gv}{b rest:Sv}{ρ:bI}{items:List D}{R:D->Prop}(q:f ρ=some items)(I:Nat->bI->Prop)(h0:I 0 ρ)(hs:∀i x ρ,items[i]?=some x->I i ρ->∃ρ',turn g b x ρ=some (.nx ρ')/\I (i+1) ρ')(k:∀ρ',I items.length ρ'->∃d,rest ρ'=some (.rt d)/\R d):∃d,c6 (oS f g b) rest ρ=some (.rt d)/\R d:=by
 obtain⟨ρ',e,h⟩:=jT (g:=g) (b:=b) I h0 hs;rw[aI (by rw[q_for,q];exact e)];exact k ρ' h
theorem nQ{n:Nat}{ds:List D}{R:D->Prop}(h:∃d,f (aK n ds)=some (.rt d)/\R d):∃d,aS n f ds=some d/\R d:=by
 obtain⟨d,e,r⟩:=h;exact⟨d,aQ e,r⟩
end P
namespace My
open PySem PySem.Spec PyProof.Rows L2 PySem.SeqAt
end My
namespace P
open PySem PySem.Spec PyProof.Rows L2 PySem.SeqAt
section
variable {X:Cx}
end
end P
namespace My
open PySem PySem.Spec PyProof.Rows L2 PySem.SeqAt
end My
namespace P
open PySem PySem.Spec PyProof.Rows L2 PySem.SeqAt
end P
namespace My
open PySem PySem.Spec PyProof.Rows L2
section
variable {X:Cx}
theorem DJ{ns:List Int}{q:List Value}(r:Vals (ns.map V.int) q){i:Nat}(h:q[i]?=some v):∃t,v=.int ((ns[i]?).getD 0) t:=by
 have B:=r.length;rw[VD]at B;have hi:i<ns.length:=by rw[B];exact(List.getElem?_eq_some_iff.mp h).1
 have e:(ns.map V.int)[i]?=some (.int ns[i]):=by simp[hi]
 obtain⟨u,F,G⟩:=r.get e;rw[h]at F;cases F;obtain⟨t,rfl⟩:=G;exact⟨t,by simp[hi]⟩
theorem IG:OpR X (WD .Add) (λx y H Q=>∃a b ys,x=.ref a/\y=.ref b/\SqT X.K H a []/\SqT X.K H b ys/\Q (.ref b) H):=by
 intro pins s σ H x y v u Q I rx ry h;obtain⟨a,b,ys,rfl,rfl,ha,hb,q⟩:=h;cases rx;cases ry;obtain⟨W,r1,p1,_⟩:=I.tuple ha;obtain⟨B,r2,p2,_⟩:=I.tuple hb;have e1:W=[]:=r1.nil_iff.mpr rfl;subst e1;obtain⟨⟨cls,dd,data,sl⟩,ho,hc,n,hd⟩:=p1;obtain⟨⟨J,ad,F,ac⟩,M,Y,n2,ab⟩:=p2;have aa:cls=.type "tuple" := hc;have U:data=.seq #[] n:=hd;have G:J=.type "tuple" := Y;have N:F=.seq B.toArray n2:=ab;subst aa U G N;exact concat_meets ⟨_,ho,rfl⟩ ⟨_,M,rfl⟩ za6 seq_tuple_add za7 za8 (za9 _ _)
  (tuple_addW0 a b #[] B.toArray n n2 dd ad sl ac rfl) ⟨ho,M,.ref b,H,I,rfl,q⟩
def QJ:R2:=λx y H Q=>∃l k xs,x=.ref l/\y=.int k/\Rd H l (.lst xs)/\-(2^63)<=k/\k<2^63/\xs.length*k.toNat<=VC /\
 ∀p,H p=none->Q (.ref p) (upd H p (.lst (VZ k.toNat xs).flatten))
theorem IN:OpR X (WD .Mult) QJ:=by
 intro pins s σ H x y v u Q I rx ry h;obtain⟨l,k,xs,rfl,rfl,hH,h1,h2,hz,q⟩:=h;cases rx;obtain⟨t,rfl⟩:=ry;obtain⟨z,B,n,r,hl,e⟩:=P.Inv.lstR I hH;have N:B.toArray.size*k.toNat<=VC:=by rw[VN,<- hl];exact hz
 have M:¬ B.toArray.size*k.toNat>(2^63-1)/8:=by
  have:(VC:Nat)<=(2^63-1)/8:=by decide
  lia
 have W:¬ (!Builtin.List.listFitsIndex k)=true:=by
  rw[fitsIndex_both h1 h2];exact VL
 have G:¬ zay (B.toArray.size*k.toNat)=true:=by
  rw[uW N];exact VL
 have J:List.foldl (λx1 Y=>x1++Y) #[] (VZ (if B.toArray.isEmpty=true then 0 else k.toNat) B.toArray)=(VZ k.toNat B).flatten.toArray:=by
  have f0:∀m:Nat,List.foldl (λx1 Y=>x1++Y) #[] (VZ m B.toArray)=(VZ m B).flatten.toArray:=λm=>by
   have:=foldl_rep B m [];rw[zaf]at this;exact this
  rw[f0];cases B with
  | nil=>simp
  | cons a r'=>rw[if_neg (by simp)]
 refine wpAny_binaryOp_repeat_ref (T := "list") (U := "int") (by decide) ⟨_,e,rfl⟩ (λs'=>ZY s' k t) noFill_list_mul F.fills_int_mul F.slot_int_rmul repeat_list F.slot_int_index.lookup
  (Y1 F.slot_int_rmul (ZY s k t) F.entry_int_rmul (F.args_int_rmul_2 _ _) (int___rmul___int_list k t l B.toArray n)
   ⟨e,rfl,⟨_,e,rfl⟩,Y1 F.slot_list_mul ⟨_,e,rfl⟩ F.entry_list_mul (F.args_list_mul_2 _ _) (AutoListH.list___mul___list_int_3 l B.toArray n k t W M G) ⟨e,?_⟩⟩)
 rw[J];exact⟨.ref _,_,I.lnew (t':=s.toks) (r.rep k.toNat) (by rw[len_rep,Nat.mul_comm];exact hz),rfl,q _ I.fresh⟩
def uA:V->List V->Hp->VK->Prop:=λx vs H Q=>∃l b xs zs,x=.ref l/\vs=[.ref b]/\H l=some (.lst xs)/\Rd H b (.lst zs)/\xs.length+zs.length<=VC/\Q .non (upd H l (.lst (xs++zs)))
theorem v8:RP X "list.extend" uA:=by
 intro pins s σ H x vs v us Q I U N h;obtain⟨l,b,xs,zs,rfl,rfl,M,Y,hz,q⟩:=h;cases U;obtain⟨u,rfl,ru⟩:=N.one;cases ru;obtain⟨z,G,n,r,hl,e⟩:=I.lstM M;obtain⟨z2,B,n2,W,ab,e2⟩:=P.Inv.lstR I Y;have hsz:G.toArray.size+B.toArray.size<=VC:=by rw[VN,VN];lia
 have J:¬ (!G.toArray.isEmpty && zay (G.toArray.size+B.toArray.size))=true:=by
  rw[uW hsz,Bool.and_false];exact VL
 refine Y1 F.slot_list_extend ⟨_,e,rfl⟩ F.entry_list_extend (F.args_list_extend_2 _ _)
  (AutoSeq1.list_extend_list_list_0 l G.toArray n b B.toArray n2 J (by rw[VN];lia) (by lia)) ⟨e,e2,?_⟩
 refine⟨.non,_,I.lset (its':=G++B) M e (by simp) (r.append W) ?_,rfl,q⟩;rw[WN]
 lia
end
end My
namespace P
open PySem PySem.Spec PyProof.Rows L2
theorem aA{q B:Type}(a:q)(f:q->Option B):(some a).bind f=f a:=by rw[U9]
theorem aB{q B:Type}(a:q)(f:q->B):(some a).map f=some (f a):=by rw[VA]
section
variable {X:Cx}{O O':List Nat}{L:Lp}
noncomputable def BY:List D->Option D
 | [.int i]=>some (.int i)
 | [.bl b]=>some (.int (if b then 1 else 0))
 | _=>none
theorem LZ:jD X (.type "int") BY:=CallR.mono AO <| by
 rintro xs H Q ⟨A,ds,d,F,r,e,q⟩;unfold BY at e;split at e
 ·cases e
  obtain⟨v,rfl,B⟩:=r.one;cases B.int_inv;exact .inl ⟨_,rfl,q _ H (Ext.refl _ _) (.int _)⟩
 ·cases e
  obtain⟨v,rfl,B⟩:=r.one;cases B.bl_inv;exact .inr ⟨_,rfl,q _ H (Ext.refl _ _) (.int _)⟩
 ·cases e
@[simp] theorem q_intB:BY [.bl b]=some (.int (if b then 1 else 0)):=rfl
@[simp] theorem q_intI:BY [.int i]=some (.int i):=rfl
theorem jY:∀ns:List Int,eV (ns.map .int)=some ns
 | []=>rfl
 | n::ns=>by rw[VG,eV,jY ns];rfl
def OV:D->D->Option D
 | .lst l,.int k=>if bZ k=true/\aW (l.length*k.toNat)=true then some (.lst (VZ k.toNat l).flatten)else none
 | _,_=>none
theorem RepL.rep(r:RepL A H ds vs):∀k:Nat,RepL A H (VZ k ds).flatten (VZ k vs).flatten
 | 0=>.nil
 | k+1=>by rw[YQ,YQ,Y0,Y0];exact r.append (RepL.rep r k)
theorem EM(ha:PB X O a fa)(B:PB X O b fb):PF X O (.BinOp a .Mult b pos) (bC OV fa fb):=
 PE.mono (FJ My.IN ha B) <| by
  rintro σ H Q ⟨H0,A0,A,E,ρ,d,st,e,q⟩;obtain⟨x,ex,e⟩:=bind_some e;obtain⟨y,W,e⟩:=bind_some e;refine⟨H0,A0,A,E,ρ,x,st,ex,λv H1 G M=>⟨H0,A0,A,E,ρ,y,st.mono G,W,λw H2 F N=>?_⟩⟩;unfold OV at e;split at e
  ·rename_i _ l k _
   by_cases hz:bZ k=true/\aW (l.length*k.toNat)=true
   ·rw[if_pos hz]at e
    cases e;obtain⟨p,xs,rfl,U,J⟩:=(M.ext F).lst_inv;cases N.int_inv;have hk:=dC hz.1;refine⟨p,k,xs,rfl,rfl,U,by lia,by lia,by rw[J.length];exact cI hz.2,λb B=>?_⟩;have n0:H b=none:=(G.trans F).free B;have Y:¬ A b:=λz=>(st.mono (G.trans F)).live b z B
    exact q b _ ((G.trans F).trans (Ext.new B)) n0 Y (.lst aG ((J.rep k.toNat).fresh B))
   ·rw[if_neg hz]at e;cases e
  ·cases e
@[simp] theorem q_rep:OV (.lst l) (.int k)=if bZ k=true/\aW (l.length*k.toNat)=true then some (.lst (VZ k.toNat l).flatten)else none:=rfl
def aT(x y:D):Option D:=match x,y with
 | .tup l,.tup m=>if aW (l.length+m.length)then some (.tup (l++m))else none
 | x,y=>qF x y
theorem f7:fT X (WD .Add) aT:=OpR.mono (OpR.or NR My.IG) <| by
 rintro x y H Q ⟨A,dx,N,d,G,B,F,e,q⟩;unfold aT at e;split at e
 ·rename_i l m
  cases l with
  | nil=>
   by_cases hz:aW (([]:List D).length+m.length)=true
   ·rw[if_pos hz]at e
    cases e;obtain⟨a,xs,rfl,h1,J⟩:=B.tup_inv;obtain⟨b,ys,rfl,h2,M⟩:=F.tup_inv;cases J;exact .inr ⟨a,b,ys,rfl,rfl,.inl (.inl h1),.inl (.inl h2),q _ H (Ext.refl _ _) (.tup h2 M)⟩
   ·rw[if_neg hz]at e;cases e
  | cons a l=>
   refine .inl ⟨A,_,_,d,G,B,F,?_,q⟩;rw[<- e];rfl
 ·exact .inl ⟨A,_,_,d,G,B,F,e,q⟩
@[simp] theorem q_addAI:aT (.int i) (.int j)=some (.int (i+j)):=rfl
@[simp] theorem q_addAT:aT (.tup l) (.tup m)=if aW (l.length+m.length)then some (.tup (l++m))else none:=rfl
@[simp] theorem q_addAL:aT (.lst l) (.lst m)=if aW (l.length+m.length)then some (.lst (l++m))else none:=rfl
@[simp] theorem q_addAS:aT (.str l) (.str m)=if aW (l.length+m.length)then some (.str (l++m))else none:=rfl
def J8(i:Nat)(f:Ev):Sv:=λρ=>(aD i ρ).bind λx=>match x with
 | .lst l=>(f ρ).bind λd=>match d with
  | .lst m=>if aW (l.length+m.length)then some (.nx (ρ.set i (some (.lst (l++m)))))else none
  | _=>none
 | _=>none
theorem wM(ho:PE X o (hW i))(he:PD X O e f)(F:mem O i=true)(hp:PE X (.Call (.Attribute o "extend" apos) [e] [] cpos) (RX X.K "list" My.uA (hW i) (zM (tD Rep O f) OS)))
  (hs:V3 (.Call (.Attribute o "extend" apos) [e] [] cpos) none pos.line X.env=pure false:=by rfl) (h:Sub O' O=true:=by rfl):PSD X L O (.Expr (.Call (.Attribute o "extend" apos) [e] [] cpos) pos) (J8 i f) O':=
 PS.mono (qY hp hs) <| by
  rintro T σ H ⟨H0,A0,A,E,ρ,U,st,e,p⟩;obtain⟨x,ex,e⟩:=bind_some e;cases x with
  | lst l=>
   obtain⟨d,Y,e⟩:=bind_some e;cases d with
   | lst m=>
    dsimp only at e;by_cases hz:aW (l.length+m.length)=true
    ·rw[if_pos hz]at e
     cases e;obtain⟨a,J,q,e3,W⟩:=st.own i _ (aV ex) (fH F);cases W with
     | lst h4 r4=>
      refine⟨_,J,.inl ⟨rfl,_,SqL.of h4⟩,H0,A0,A,E,ρ,_,st,Y,λv H' x r=>?_⟩;obtain⟨b,zs,rfl,N,M⟩:=RepB.lst_inv (.of r);refine⟨a,b,_,zs,rfl,rfl,x.ow _ _ q h4,N,by rw[r4.length,M.length];exact cI hz,?_⟩;have G:=x.ow _ _ q h4;obtain⟨A',B⟩:=((st.mono x).write (o:=.lst _) (aV ex) (fH F) J q e3 G trivial (.lst aG (((r4.ext x).append M).put q G trivial))).shut (Sub.mem h);exact p A' σ _ B
    ·rw[if_neg hz]at e;cases e
   | _=>cases e
  | _=>cases e
def fL(c:Bv)(b:Sv):Nat->bI->Option Out
 | 0,_=>none
 | n+1,ρ=>(c ρ).bind λt=>if t=true then(b ρ).bind λo=>match o with
   | .nx ρ'=>fL c b n ρ'
   | .ct ρ'=>fL c b n ρ'
   | .bk ρ'=>some (.nx ρ')
   | .rt d=>some (.rt d)
  else some (.nx ρ)
def sF(c:Bv)(b:Sv):Sv:=λρ=>fL c b 100000 ρ
theorem BS(hp:Y4 (model X.prog X.w) X.A X.env X.xe)(Y:jU X O1 c g)(W:PSDs X ⟨Ob,O1⟩ O1 body b O1)(h1:Sub O1 O=true)(h2:Sub O' O1=true)(h3:Sub O' Ob=true) :
  PSD X L O (.While c body [] pos) (sF g b) O':=PS.mono (D6 hp Y W) λT σ H ⟨H0,A0,A,E,ρ,G,st,e,p⟩=>by
 obtain⟨A1,N⟩:=st.shut (Sub.mem h1);refine⟨λm σ H=>∃ρ A,ST H0 A0 A E O1 σ H ρ/\fL g b m ρ=some G,⟨100000,ρ,A1,N,e⟩,?_⟩;rintro m σ H ⟨ρ,A,st,e⟩;cases m with
 | zero=>cases e
 | succ m=>
  obtain⟨t,et,e⟩:=bind_some e;refine⟨H0,A0,A,E,ρ,t,st,et,λH1 U=>?_⟩;have fin:∀ {O2:List Nat} {A:Av} {σ:L2.St} {H:Hp} {ρ:bI},Sub O' O2=true->ST H0 A0 A E O2 σ H ρ->(∀A σ H,ST H0 A0 A E O' σ H ρ->T.nx σ H)->T.nx σ H:=λhs st k=>by
   obtain⟨q,M⟩:=st.shut (Sub.mem hs);exact k q _ _ M
  cases t with
  | true=>
   rw[if_pos rfl]at e;dsimp only;rw[if_pos rfl];obtain⟨o,eo,e⟩:=bind_some e;refine⟨λF H'=>∃ρ2 q,ST H0 A0 q E O1 F H' ρ2/\fL g b m ρ2=some G,λF H' ⟨ρ2,q,B,e2⟩=>⟨m,zbn m,ρ2,q,B,e2⟩,H0,A0,A,E,ρ,o,st.mono U,eo,?_⟩;cases o with
   | nx ρ2=>exact λq J H2 B=>⟨ρ2,q,B,e⟩
   | ct ρ2=>exact λq J H2 B=>⟨ρ2,q,B,e⟩
   | bk ρ2=>cases e;exact λq J H2 B=>fin h3 B p
   | rt d=>cases e;exact p
  | false=>
   rw[if_neg VL]at e;dsimp only;rw[if_neg VL];cases e;exact fin h2 (st.mono U) p
end
theorem zG{P:VB}{w:World}{K:U6}{mg:Str->Option Value}{base:Heap}{x:Str}{st:Stmt}{N ps:List Str}{k:Nat}(J:My.DefAt K mg x st ps)(S:FnScope N ps (aE st)):Fn P w K mg base x (k+1) ps (λ_=>none):=
 My.BodyOk.ok (k:=k) (N:=N) (λU G A F s H vs Q E W ⟨M,ds,d,Y,r,e,B,q⟩=>nomatch B) J S (λvs H Q E ⟨M,ds,d,_,_,e,B,_⟩=>nomatch B)
def xQ(n:Nat)(b:(List D->Option D)->Sv):Nat->List D->Option D
 | 0=>λ_=>none
 | m+1=>aS n (b (xQ n b m))
end P
namespace My
open PySem PySem.Spec PyProof.Rows L2
open AutoSeq1 (wpAny_loadPart')
theorem AD(l:Addr)(items:Array Value)(n:Nat)(B:Option Addr)(J:Array (Option Value)) :
  Meets (XS.«enumerate.__new__» ⟨[.type "enumerate",.ref l],[]⟩) (λ_ R s=>s.heap.get? l=some {cls:=.type "tuple",dict:=B,data:=.seq items n,slots:=J} /\
   R (.ok (.ret (.ref (s.heap.push {cls:=.type "tuple_iterator",data:=.fields #[.ref l,.int 0 0]}).objs.size)))
    {s with heap:=(s.heap.push {cls:=.type "tuple_iterator",data:=.fields #[.ref l,.int 0 0]}).push {cls:=.type "enumerate",data:=.fields #[.none,.bool false,.ref s.heap.objs.size,WF 0,.none,.none]} }):=
 .of_wp λprog w A R s h=>by
  obtain⟨M,g,d,tk,os⟩:=s;obtain⟨q,h⟩:=h;have G:=sub_enumerate;have F:Heap.IsTuple (Shared.heap ⟨M,g,d,tk,os⟩) l items:=⟨_,q,rfl,n,rfl⟩
  wp_walk using YD q
  refine wpAny_stack_any λst=>U7 ?_
  split
  ·rename_i c _ _ _ _ _
   cases(c == YI "enumerate")
   ·wp_walk using YD q,Y5 F
    exact⟨_,rfl,h⟩
   ·wp_walk using YD q,Y5 F
    exact⟨_,rfl,h⟩
  ·wp_walk using YD q,Y5 F
   exact⟨_,rfl,h⟩
section
variable {prog:VB}{w:World}{A:VJ}{E:Value->U5->Prop}{s:U5}
theorem AC(Y:SSq t s.heap l xs)
  (h:∀h',XW h' (s.heap.objs.size+1) s.heap.objs.size 0 .none->SIt t h' s.heap.objs.size l 0->(∀b o,s.heap.get? b=some o->h'.get? b=some o)->Q (.ref (s.heap.objs.size+1)) {s with heap:=h'}) :
  wpAny (model prog w) A (call (.type "enumerate") [.ref l]) Q E s:=by
 obtain⟨⟨cls,J,data,W⟩,U,hc,n,hd⟩:=Y;have N:cls=.type (UH t):=hc;have M:data=.seq xs n:=hd;subst N M;have hz:(s.heap.push (T4 t l)).objs.size=s.heap.objs.size+1:=Z6 ..;have fin:XW ((s.heap.push (T4 t l)).push {cls:=.type "enumerate",data:=.fields #[.none,.bool false,.ref s.heap.objs.size,WF 0,.none,.none]}) (s.heap.objs.size+1) s.heap.objs.size 0 .none:=by
  have:=VW (s.heap.push (T4 t l)) (o:={cls:=.type "enumerate",data:=.fields #[.none,.bool false,.ref s.heap.objs.size,WF 0,.none,.none]}) rfl;rw[hz]at this;exact this
 have q:=h _ fin ⟨_,VI _ (VW _ rfl),rfl,rfl⟩ λb o x=>VI _ (VI _ x)
 cases t with
 | false=>
  refine callType_new F.called_enumerate (by decide) (F.typeCall_enumerate_1 _) (F.newCall_enumerate_1 _) (λG=>F.args_object_init_2 G _) F.entry_enumerate_new (meets_enumerate_newL l xs n J W) ⟨U,?_⟩;have B:(s.heap.push {cls:=.type "list_iterator",data:=.fields #[.ref l,.int 0 0]}).objs.size=s.heap.objs.size+1:=hz;show _/\_;rw[B];exact⟨⟨_,fin,rfl⟩,q⟩
 | true=>
  refine callType_new F.called_enumerate (by decide) (F.typeCall_enumerate_1 _) (F.newCall_enumerate_1 _) (λG=>F.args_object_init_2 G _) F.entry_enumerate_new (AD l xs n J W) ⟨U,?_⟩;have B:(s.heap.push {cls:=.type "tuple_iterator",data:=.fields #[.ref l,.int 0 0]}).objs.size=s.heap.objs.size+1:=hz;show _/\_;rw[B];exact⟨⟨_,fin,rfl⟩,q⟩
theorem AQ{t:Bool}{e it l:Addr}{i:Nat}{items:Array Value}{x al:Value}{Q:Value->U5->Prop}
  (he:XW s.heap e it i al) (ay:SIt t s.heap it l i) (hl:SSq t s.heap l items) (hx:items[i]?=some x) (ak:e≠it)
  (hQ:∀h', IsEnumOut h' e it ((i:Int)+1) x s.heap.objs.size -> SIt t h' it l (i+1) ->
   h'.get? s.heap.objs.size=some {cls:=.type "tuple",data:=.seq #[.int i s.toks,x]}->h'.objs.size=s.heap.objs.size+1->
   (∀b o,b≠e->b≠it->s.heap.get? b=some o->h'.get? b=some o)->Q (.ref s.heap.objs.size) {s with heap:=h',toks:=s.toks+1}) :
  wpAny (model prog w) A (XS.«enumerate.__next__» ⟨[.ref e],[]⟩) (λfin s'=>∃v,fin=.done (.ret v)/\Q v s') E s:=by
 obtain⟨hp,g,d,tk,os⟩:=s;show wpAny _ _ (field (.ref e) 2 >>= _) _ _ _;refine U4 (WP he rfl (x:=.ref it) rfl ?_);refine U4 (next_item ay hl hx λU ai F=>?_);replace F:V8 it hp U:=F;have aa:XW U e it i al:=(F.2 e ak).trans he;show wpAny _ _ (field (.ref e) 3 >>= _) _ _ ⟨U,g,d,tk,os⟩;refine U4 (WP aa rfl (x:=WF i) rfl ?_);show wpAny _ _ (field (.ref e) 4 >>= _) _ _ ⟨U,g,d,tk,os⟩;refine U4 (WP aa rfl (x:=.none) rfl ?_);show wpAny _ _ (mkInt i >>= _) _ _ ⟨U,g,d,tk,os⟩;refine U4 (wpAny_mkInt ?_);show wpAny _ _ (ZM (.ref e) 3 (WF ((i:Int)+1)) >>= _) _ _ ⟨U,g,d,tk+1,os⟩;refine U4 (XT aa (by simp) λad Y M=>?_);replace M:V8 e U ad:=M;replace Y:XW ad e it ((i:Int)+1) al:=Y;show wpAny _ _ (ZM (.ref e) 4 .none >>= _) _ _ ⟨ad,g,d,tk+1,os⟩;refine U4 (XT Y (by simp) λW ac J=>?_);replace J:V8 e ad W:=J;replace ac:XW W e it ((i:Int)+1) al:=ac;show wpAny _ _ (newTuple [.int i tk,x] >>= _) _ _ ⟨W,g,d,tk+1,os⟩;refine U4 (zaM ?_);have ab:XW (W.push {cls:=.type "tuple",data:=.seq #[.int i tk,x]}) e it ((i:Int)+1) al:=VI _ ac;generalize hh₄:W.push {cls:=.type "tuple",data:=.seq #[.int i tk,x]}=h₄ at ab;have hsz:W.objs.size=hp.objs.size:=by rw[J.1,M.1,F.1]
 have ar:e<hp.objs.size:=VE he;have au:h₄.get? hp.objs.size=some {cls:=.type "tuple",data:=.seq #[.int i tk,x]}:=by rw[<- hh₄,<- hsz];exact VW _ rfl
 have aw:h₄.objs.size=hp.objs.size+1:=by rw[<- hh₄,Z6,hsz]
 have as:∀b o,b≠e->b≠it->hp.get? b=some o->h₄.get? b=some o:=λb o af aq hb=>by
  rw[<- hh₄];exact VI _ (J.extBut b o af (M.extBut b o af (F.extBut b o aq hb)))
 have ap:SIt t h₄ it l (i+1):=by
  rw[<- hh₄];exact ai.to λo q=>VI _ (J.extBut it o (VY ak) (M.extBut it o (VY ak) q))
 show wpAny _ _ (zbE (.ref e) >>= _) _ _ ⟨h₄,g,d,tk+1,os⟩;rw[hsz];clear hh₄ ac J Y M aa F ai hsz W ad U;refine U4 ?_
 ·unfold zbE
  refine U4 (WP ab rfl (x:=.none) rfl (U7 ?_));simp only[if_true];refine U4 (YW ?_);refine U4 (WP ab rfl (x:=al) rfl ?_);refine U4 (XT ab (by simp) λaj ah B=>?_);replace B:V8 e h₄ aj:=B;replace ah:XW aj e it ((i:Int)+1) x:=ah;show wpAny _ _ (zbF (.ref e) (.ref hp.objs.size) >>= _) _ _ ⟨aj,g,d,tk+1,os⟩;refine U4 ?_
  ·unfold zbF
   refine U4 (XT ah (by simp) λan ag G=>?_);replace G:V8 e aj an:=G;replace ag:IsEnumOut an e it ((i:Int)+1) x hp.objs.size:=ag;refine XT ag (by simp) λam ae N=>?_
   replace N:V8 e an am:=N;replace ae:IsEnumOut am e it ((i:Int)+1) x hp.objs.size:=ae;refine U4 (ZO (U7 ⟨_,rfl,hQ am ae ?_ ?_ ?_ ?_⟩))
   ·exact ap.to λo q=>N.extBut it o (VY ak) (G.extBut it o (VY ak) (B.extBut it o (VY ak) q))
   ·exact N.extBut _ _ (WB ar) (G.extBut _ _ (WB ar) (B.extBut _ _ (WB ar) au))
   ·rw[N.1,G.1,B.1,aw]
   ·exact λb o af aq hb=>N.extBut b o af (G.extBut b o af (B.extBut b o af (as b o af aq hb)))
theorem AV{t:Bool}{e it l:Addr}{i:Nat}{items:Array Value}{x B:Value}{Q:Option Value->U5->Prop}
  (J:XW s.heap e it i B) (G:SIt t s.heap it l i) (N:SSq t s.heap l items) (M:items[i]?=some x) (q:e≠it)
  (U:∀h', IsEnumOut h' e it ((i:Int)+1) x s.heap.objs.size -> SIt t h' it l (i+1) ->
   h'.get? s.heap.objs.size=some {cls:=.type "tuple",data:=.seq #[.int i s.toks,x]}->h'.objs.size=s.heap.objs.size+1->
   (∀b o,b≠e->b≠it->s.heap.get? b=some o->h'.get? b=some o)->Q (some (.ref s.heap.objs.size)) {s with heap:=h',toks:=s.toks+1}) :
  wpAny (model prog w) A (WC (.ref e)) Q E s:=by
 have hT:s.TypeIs (.ref e) "enumerate" := ⟨_,J,rfl⟩;unfold WC;exact U4 (ZL (X5 (name:=XC "__next__") hT zaQ
  (XD zaQ hT F.entry_enumerate_next
   (AQ J G N M q λh' a b c d k=>U7 (U h' a b c d k)) (F.args_enumerate_next_1 _))))
theorem DR{t:Bool}{i:Nat}{items:Array Value}{Q:Option Value->U5->Prop}(N:A.handled=none)
  (J:XW s.heap e it i old) (B:SIt t s.heap it l i) (Y:SSq t s.heap l items) (M:items[i]?=none)
  (hQ:∀h',Z5 it s.heap h'->Q none {s with heap:=h'}):wpAny (model prog w) A (WC (.ref e)) Q E s:=by
 have hT:s.TypeIs (.ref e) "enumerate" := ⟨_,J,rfl⟩;unfold WC;refine U4 (ZL (X5 (name:=XC "__next__") hT zaQ
  (XD zaQ hT F.entry_enumerate_next ?_ (F.args_enumerate_next_1 _))))
 show wpAny _ _ (field (.ref e) 2 >>= _) _ _ _;refine U4 (WP J rfl (x:=.ref it) rfl ?_);refine U4 (next_end N B Y M λh' x G q=>?_);obtain⟨o,U,W⟩:=q;refine U4 (zbi (T := "StopIteration") (b:=true) ⟨o,U,W⟩ isSubtype_stop ?_);exact U7 (hQ _ G)
end
def UE(K:U6)(t:Bool)(l:Addr):It:=
 ⟨λi H => ∃xs, KJ K t H l xs /\ i<xs.length, λi H x H' => ∃p u, x = .ref p /\ H p = none /\ H' = upd H p (.tup [.int (i:Int), u]) /\ ∀xs, KJ K t H l xs -> xs[i]? = some u,
  λi H=>∃xs,KJ K t H l xs/\xs.length<=i⟩
theorem AN{P:VB}{w:World}{K:U6}{aa:List Expr}{x1}{tp:Pos}(t:Bool){e it l:Addr}(Y:e≠it) :
  Turn P w K (.Tuple aa x1 tp) (UE K t l) [e,it] e (λi h=>(∃J,XW h e it (i:Nat) J)/\SIt t h it l i) where
 mem:=by simp
 obj:=by
  rintro i h ⟨⟨J,M⟩,⟨o1,e1,_,d1⟩⟩ c B;simp only[WG,WH,or_false]at B;rcases B with rfl|rfl
  ·exact⟨_,M,λv q=>by cases q⟩
  ·exact⟨o1,e1,λv q=>by rw[d1]at q;cases q⟩
 keep:=λi h h' ⟨⟨J,M⟩,W⟩ k=>⟨⟨J,k e (by simp) _ M⟩,W.to λo q=>k it (by simp) o q⟩
 item:=by
  intro X hP hw hK B i pins s σ H E I hf st hg;subst hP hw hK;obtain⟨⟨J,M⟩,W⟩:=st;obtain⟨xs,q1,ak⟩:=hg;obtain⟨ac,r1,p1⟩:=xE I q1;have e1:xs[i]?=some xs[i]:=by simp[ak]
  obtain⟨u,eu,ru⟩:=r1.get e1;refine AV M W p1 (x:=u) (by simpa using eu) Y λh' a1 a2 a3 a4 U=>⟨_,rfl,?_⟩
  refine wpAny_letOwnedTupleGo_enum (s:={s with heap:=h',toks:=s.toks+1}) a1 λh2 al sb=>?_
  have zz:∀c,c∈[e,it]->c<s.heap.objs.size:=λc B=>by
   simp only[WG,WH,or_false]at B;rcases B with rfl|rfl
   ·exact VE M
   ·obtain⟨o,q,_⟩:=W;exact VE q
  have N:∀c o,c≠e->h'.get? c=some o->h2.get? c=some o:=λc o B q=>sb.extBut _ _ B q
  have I1:Inv X pins σ H {s with heap:=h2,toks:=s.toks+1}:=lW I hf λc o B q=>by
   simp only[WG,WH,or_false,not_or]at B;exact N c o B.1 (U c o B.1 B.2 q)
  have F:H s.heap.objs.size=none:=I.fresh;have am:h2.get? s.heap.objs.size=some {cls:=.type "tuple",data:=.seq #[.int i s.toks,u]}:=N _ _ (WB (zz e (by simp))) a3;have I2:Inv X pins σ (upd H s.heap.objs.size (.tup [.int (i:Int),xs[i]])) {s with heap:=h2,toks:=s.toks+1}:=by
   have ag:HOk X.prog X.w (upd H s.heap.objs.size (.tup [.int (i:Int),xs[i]])) h2:=λc ob q=>by
    by_cases B:c=s.heap.objs.size
    ·subst B;rw[aG]at q;cases q
     exact⟨by show 2<=VC;decide,[.int i s.toks,u],.cons ⟨_,rfl⟩ (.cons ru .nil),_,am,rfl,0,rfl,rfl⟩
    ·rw[aC B]at q
     exact(I1.hok c ob q).stay (λ_ _ _ q=>q) (λd q=>by rw[aC (a7 q F)];exact q) λd ai q=>by rw[aC (a7 q F)];exact q
   refine I.call' (s':={s with heap:=h2,toks:=s.toks+1}) (ch:=[e,it]) rfl ⟨λc o q _ _ G=>?_,λc o q _ _ G=>⟨o.slots,?_⟩,λc o q n G=>by rw[aC (VT (VE q))];exact n,λc o q G=>⟨o,?_⟩,λc ai q=>by rw[aC (a7 q F)];exact q,λc o' u' q=>by rw[aC (a7 q F)];exact q,λc ps q=>⟨#[],by rw[aC (a7 q F),q];simp⟩⟩ ag I.bare λb hb=>?_
   ·simp only[WG,WH,or_false,not_or]at G
    exact N c o G.1 (U c o G.1 G.2 q)
   ·simp only[WG,WH,or_false,not_or]at G
    exact N c o G.1 (U c o G.1 G.2 q)
   ·simp only[WG,WH,or_false,not_or]at G
    exact N c o G.1 (U c o G.1 G.2 q)
   ·obtain⟨_,f1,_,f3,f4,f5⟩:=hf b hb
    exact⟨f3,f1,f4,f5⟩
  refine⟨.ref s.heap.objs.size,_,I2,rfl,⟨_,_,rfl,F,rfl,λbh g1=>by rw[<- JU I q1 g1];exact e1⟩,⟨⟨_,al⟩,a2.to λo q=>N _ o (VY Y) q⟩,λc B=>?_⟩;rw[aC (VT (zz c B))];exact(hf c B).1
 done:=by
  intro X hP hw hK B i pins s σ H E I hf st hg;subst hP hw hK;obtain⟨⟨J,M⟩,W⟩:=st;obtain⟨xs,q1,ao⟩:=hg;obtain⟨ac,r1,p1⟩:=xE I q1;have n1:=r1.length;refine DR (I.ok.hd B) M W p1 (by simp;lia) λh' U=>⟨rfl,lW (t':=s.toks) I hf λc o B q=>?_⟩
  simp only[WG,WH,or_false,not_or]at B;exact U c o B.2 q
 self:=λ_ _ _ _ _ st h=>let ⟨⟨_,M⟩,_⟩:=st;wpAny_pyIter_enum M h
theorem boot_enumerate:V7 "enumerate" = some (.type "enumerate"):=by first|rfl|decide +kernel
def QN(K:U6)(ta:TA):TI:=λσ H R=>ta σ H λvs H1=>∃t l xs,vs=[.ref l]/\KJ K t H1 l xs/\R (UE K t l) H1
theorem G8{X:Cx}{B:List Expr}{x1}{tp:Pos}{a:Expr}{ta:TA}{p pos:Pos}(hg:Gl X "enumerate")(hm:X.mg "enumerate" = none)(ha:PA X [a] ta)(hs:U8 [a] X.env=[(false,eval a X.env)]:=by rfl) :
  PI X (.Tuple B x1 tp) (.Call (.Name "enumerate" p) [a] [] pos) (QN X.K ta):=by
 intro pins s σ H R I h;refine Call_ (jQ I hg hm boot_enumerate (zan (bG (ha pos pins s σ H _ I h) λus J ⟨vs,H1,F,Y,M⟩=>?_) (by rw[hs];rfl) rfl));obtain⟨t,l,xs,rfl,M,q⟩:=M;obtain⟨u,rfl,ru⟩:=vals1 Y;cases ru;obtain⟨W,_,p1⟩:=xE F M;refine AC p1 λh' U N k=>?_
 refine wpAny_pyIter_enum U ?_;have D:J.heap.objs.size+1≠J.heap.objs.size:=by lia
 refine⟨_,[_,_],_,_,H1,rfl,F.kept (t':=J.toks) k,AN t D,⟨⟨_,U⟩,N⟩,λc G=>F.fpOk ?_ (F.hok.fresh ?_),q⟩
 ·simp only[WG,WH,or_false]at G
  rcases G with rfl|rfl <;> lia
 ·simp only[WG,WH,or_false]at G
  rcases G with rfl|rfl <;> lia
end My
namespace P
open PySem PySem.Spec PyProof.Rows L2
noncomputable def fP:Nat->List D->List D
 | _,[]=>[]
 | k,x::xs=>.tup [.int (k:Int),x]::fP (k+1) xs
def zR(f:Lv):Lv:=λρ=>(f ρ).bind λds=>match ds with
 | [a]=>(qG a).map (fP 0)
 | _=>none
theorem jK:∀ {xs:List D} {k i:Nat} {d:D},(fP k xs)[i]?=some d->∃x,xs[i]?=some x/\d=.tup [.int ((k+i:Nat):Int),x]
 | [],k,i,d,h=>by simp[fP]at h
 | x::xs,k,0,d,h=>by simp[fP]at h;exact⟨x,rfl,h.symm⟩
 | x::xs,k,i+1,d,h=>by
  obtain⟨y,B,q⟩:=jK (xs:=xs) (k:=k+1) (i:=i) (by simpa[fP]using h);exact⟨y,by simpa using B,by rw[q];congr 4;lia⟩
theorem pJ:∀(xs:List D) (k:Nat),(fP k xs).length=xs.length
 | [],_=>rfl
 | x::xs,k=>by simp[fP,pJ xs]
theorem CU{J}(hg:Gl X "enumerate")(hm:X.mg "enumerate" = none)(ha:oF X O [a] f)(hs:U8 [a] X.env=[(false,eval a X.env)]:=by rfl) :
  PDI X O (.Tuple elts J tp) (.Call (.Name "enumerate" p) [a] [] pos) (zR f):=PI.mono (My.G8 hg hm ha hs) λσ H R ⟨H0,A0,A,E,ρ,items,st,e,q⟩=>by
 obtain⟨ds,e1,e⟩:=bind_some e;refine⟨H0,A0,A,E,ρ,ds,st,e1,λvs H1 J r1=>?_⟩;split at e
 case h_2=>cases e
 rename_i da;obtain⟨xs,e2,rfl⟩:=map_some e;obtain⟨v,rfl,U⟩:=r1.one;obtain⟨t1,G,Y,rfl,q1,_,k1⟩:=IE (K:=X.K) e2 U;refine⟨t1,G,Y,rfl,q1,q _ H1 [.rep da (.ref G)] J (λp hp=>?_) ?_⟩
 ·rw[List.mem_singleton.mp hp];exact U
 ·intro A' H' lv hE i
  have a1:Rep A' H' da (.ref G):=hE (.rep da (.ref G)) (V2 ..);obtain⟨B,M,F⟩:=k1 A' H' a1;refine⟨λhi=>⟨B,M,by rw[F.length];rw[pJ]at hi;exact hi⟩,λd hd=>?_⟩;obtain⟨x,ex,rfl⟩:=jK hd;obtain⟨u,N,ru⟩:=F.get' ex;refine⟨⟨B,M,(List.getElem?_eq_some_iff.mp N).1⟩,λx' H2 ⟨p,u',e4,n,e5,e6⟩=>?_⟩;subst e4 e5;have W:=e6 B M;rw[N]at W;cases W;rw[YU];exact⟨Ext.new n,.tup aG (.cons (.int _) (.cons (ru.ext (Ext.new n)) .nil))⟩
@[simp] theorem q_enum:zR f ρ=(f ρ).bind λds=>match ds with
 | [a]=>(qG a).map (fP 0)
 | _=>none:=rfl
end P
namespace P
open L2
structure Ro where
 j:Int
 k:Int
 a:Int
 b:Int
 p:Int
structure GR(M many:Int)(rs:List Ro):Prop where
 len:rs.length<=12
 jk:∀r∈rs,0<=r.j/\r.j<r.k/\r.k<many
 ab:∀r∈rs,(0<=r.a/\r.a<M)/\0<=r.b/\r.b<M
 pr:∀r∈rs,0<=r.p/\r.p<=10^30
noncomputable def gT(rs:List Ro)(n:Int):Option Ro:=if 0<=n then rs[n.toNat]? else none
theorem zF(h:gT rs n=some r):r∈rs:=by
 unfold gT at h;split at h
 ·exact WS h
 ·cases h
theorem nR(h:gT rs n=some r):0<=n/\n<(rs.length:Int):=by
 unfold gT at h;split at h
 ·rename_i h0
  have:=(List.getElem?_eq_some_iff.mp h).1
  lia
 ·cases h
def gw(rs:List Ro):Int->List Int->Option Int
 | at_,[]=>some at_
 | at_,n::w=>(gT rs n).bind λr=>if r.j=at_ then gw rs r.k w else none
theorem jM:∀ {at_:Int} {v w:List Int},gw rs at_ (v++w)=(gw rs at_ v).bind λe=>gw rs e w
 | at_,[],w=>rfl
 | at_,n::v,w=>by
  show((gT rs n).bind λr=>if r.j=at_ then gw rs r.k (v++w)else none)=_;cases e:gT rs n with
  | none=>simp[gw,e]
  | some r=>
   by_cases h:r.j=at_
   ·simp[gw,e,h,jM (v:=v) (w:=w)]
   ·simp[gw,e,h]
theorem IP(h:gw rs at_ w=some e)(q:gT rs n=some r)(B:r.j=e):gw rs at_ (w++[n])=some r.k:=by
 rw[jM,h];simp[gw,q,B]
theorem EU(g:GR M many rs):∀ {at_ e:Int} {w:List Int},gw rs at_ w=some e->at_+(w.length:Int)<=e
 | at_,e,[],h=>by cases h;simp
 | at_,e,m::w,h=>by
  unfold gw at h;cases er:gT rs m with
  | none=>rw[er]at h;cases h
  | some r=>
   rw[er]at h;simp only[zaR]at h;split at h
   ·have:=EU g h
    have:=(g.jk r (zF er)).2.1;simp only[VR];lia
   ·cases h
def Rch(rs:List Ro)(x k:Int):Prop:=∃w,gw rs x w=some k
theorem Rch.refl(rs:List Ro)(k:Int):Rch rs k k:=⟨[],rfl⟩
theorem Rch.inv(h:Rch rs x k):x=k\/∃n r,gT rs n=some r/\r.j=x/\Rch rs r.k k:=by
 obtain⟨w,hw⟩:=h;cases w with
 | nil=>cases hw;exact .inl rfl
 | cons n w=>
  unfold gw at hw;cases er:gT rs n with
  | none=>rw[er]at hw;cases hw
  | some r=>
   rw[er]at hw;simp only[zaR]at hw;split at hw
   ·rename_i hj
    exact .inr ⟨n,r,er,hj,w,hw⟩
   ·cases hw
theorem Rch.le(g:GR M many rs)(h:Rch rs x k):x<=k:=by
 obtain⟨w,hw⟩:=h;have:=EU g hw
 lia
noncomputable def fl{α:Type}(h:Nat->Ro->List α):Nat->List Ro->List α
 | _,[]=>[]
 | m,r::rs=>h m r++fl h (m+1) rs
noncomputable def sg(q:Nat->Ro->Int):Nat->List Ro->Int
 | _,[]=>0
 | m,r::rs=>q m r+sg q (m+1) rs
end P
namespace P
open PySem PySem.Spec PyProof.Rows L2
theorem A9{n:Nat}(h:n<=1000000):bN [.int (n:Int)]=some (aO 0 1 n):=by
 show(if bZ (n:Int)then _ else _)=_;rw[if_pos (by simp only[bZ,V5,decide_eq_true_eq];lia)];simp
theorem bE(h0:0<=y)(h:y<=1000000):bN [.int y]=some (aO 0 1 y.toNat):=by
 show(if bZ y then _ else _)=_;rw[if_pos (by simp only[bZ,V5,decide_eq_true_eq];lia)]
noncomputable def aY(r:Ro):D:=.tup [.int r.j,.int r.k,.int r.a,.int r.b,.int r.p]
theorem rT(h:gT rs n=some r):d7 (rs.map aY) n=some (aY r):=by
 have q:=nR h;obtain⟨j,rfl⟩:∃j:Nat,n=(j:Int):=⟨n.toNat,by lia⟩;unfold gT at h;rw[if_pos (by lia)]at h;refine bX ?_;rw[VV];simp at h;rw[h];rfl
theorem at0:d7 (a::l) 0=some a:=bX (j:=0) rfl
theorem at1:d7 (a::b::l) 1=some b:=bX (j:=1) rfl
theorem at2:d7 (a::b::c::l) 2=some c:=bX (j:=2) rfl
theorem UN:d7 (a::b::c::d::l) 3=some d:=bX (j:=3) rfl
theorem Q6:aF (aY r) (.int 0)=some (.int r.j):=by simp[aY,at0]
theorem OX:aF (aY r) (.int 1)=some (.int r.k):=by simp[aY,at1]
noncomputable def cG(K:Nat)(p:Int->Bool):D:=.lst ((VO K).map λ(k:Nat)=>.bl (p (k:Int)))
def b6(K:Nat)(P:Int->Int->Bool):D:=.lst ((VO K).map λ(x:Nat)=>cG K (P (x:Int)))
theorem nU{K:Nat}{p:Int->Bool}{k:Int}(h0:0<=k)(h:k<(K:Int)):aF (cG K p) (.int k)=some (.bl (p k)):=by
 obtain⟨j,rfl⟩:∃j:Nat,k=(j:Int):=⟨k.toNat,by lia⟩;exact bX (by simp[show j<K by lia])
theorem rP{K:Nat}{P:Int->Int->Bool}{k:Int}(h0:0<=k)(h:k<(K:Int)):aF (b6 K P) (.int k)=some (cG K (P k)):=by
 obtain⟨j,rfl⟩:∃j:Nat,k=(j:Int):=⟨k.toNat,by lia⟩;exact bX (by simp[show j<K by lia])
noncomputable def RA(K:Nat)(f:Int->D):D:=.lst ((VO K).map λ(x:Nat)=>f (x:Int))
theorem GO{K:Nat}{f:Int->D}{c:Int}{d:D}(h0:0<=c)(h:c<(K:Int)):sN (RA K f) (.int c) d=some (RA K λx=>if x=c then d else f x):=by
 have B:sQ ((VO K).map λ(x:Nat)=>f (x:Int)).length c=some c.toNat:=by
  unfold sQ;rw[if_pos h0,if_pos (by simpa using h)]
 show((GC (.int c)).bind λk=>(sQ _ k).map λj=>D.lst (WI _ j d))=_;simp only[q_asI,zaR];rw[B];show some (D.lst _)=some (D.lst _);congr 2;refine Z1 (by simp) λi h1 h2=>?_
 rw[List.getElem_set];by_cases e:c.toNat=i
 ·have q:((i:Nat):Int)=c:=by lia
  simp[e,q]
 ·have q:¬ ((i:Nat):Int)=c:=by lia
  simp[e,q]
theorem CH(K:Nat):aO 0 1 K=(VO K).map λ(k:Nat)=>D.int (k:Int):=by
 unfold aO;exact zbo λi _=>by simp
theorem uD{K:Nat}{f:Ev}{rest:List (Option D)}{F:Int->D}(h:∀k:Int,0<=k->k<(K:Int)->f (some (.int k)::rest)=some (F k)):∀(l:List Nat) (o:Option D),(∀k∈l,k<K)->bD (aJ 0) gD f (l.map λ(k:Nat)=>D.int (k:Int)) (o::rest)=some (l.map λ(k:Nat)=>F (k:Int))
 | [],o,_=>rfl
 | k::l,o,hl=>by
  have ih:=uD h l (some (.int (k:Int))) λm q=>hl m (V1 _ q)
  have B:=h (k:Int) (by lia) (by have:=hl k (V2 ..);lia);simp[bD,B,ih]
theorem pA(h1:-1000<=a)(h2:a<=1000)(q:-1000<=b)(B:b<=1000000):fY [.int a,.int b]=some (aO a 1 (b-a).toNat):=by
 show(if(bZ a && bZ b)=true then _ else _)=_;rw[if_pos (by simp only[bZ,V5,decide_eq_true_eq];lia)]
end P
namespace My
open PySem PySem.Spec PyProof.Rows L2
noncomputable def Q2(a:Bool):String:=if a=true then "str_ascii_iterator" else "str_iterator"
noncomputable def T7(x:Str):It:=⟨λi H=>i<x.cps.size,λi H y H'=>H'=H/\∃c,x.cps[i]?=some c/\y=.str ⟨#[c]⟩,λi H=>x.cps.size<=i⟩
theorem DT{P:VB}{w:World}{K:U6}{tg:Expr}(a:Bool)(x:Str)(t:Tok)(it:Addr):Turn P w K tg (T7 x) [it] it (λi h=>h.IsStrIter it (Q2 a) x t i) where
 mem:=by simp
 obj:=λi h st b q=>by
  have e:b=it:=by simpa using q
  subst e;obtain⟨o,e,c,d⟩:=st;exact⟨o,e,λv z=>by rw[d]at z;cases z⟩
 keep:=λi h h' st k=>let ⟨o,ho,r⟩:=st;⟨o,k it (by simp) o ho,r⟩
 item:=by
  intro X hP hw hK Y i pins s σ H E I J st hg;subst hP hw hK;obtain⟨f0,M,f2,N,G,U⟩:=J it (by simp);have hi:i<x.cps.size:=hg;have F:x.cps[i]?=some x.cps[i]:=by simp[hi]
  cases a with
  | true=>
   refine wpAny_pyNext_ascii_item st F λh' B sb=>?_
   have W:Inv X pins σ H {s with heap:=h',toks:=s.toks+1}:=I.turned (t':=s.toks+1) (λb o q e=>(sb.2 b q).trans e) f0 M N G U;obtain⟨o,e,c,d⟩:=id B;exact⟨_,rfl,p9 (s:={s with heap:=h',toks:=s.toks+1}) e c d (by decide) ⟨.str ⟨#[x.cps[i]]⟩,H,W,⟨_,rfl⟩,⟨rfl,_,F,rfl⟩,B,λb q=>(J b q).1⟩⟩
  | false=>
   refine wpAny_pyNext_wide_item st F λh' B sb=>?_
   have W:Inv X pins σ H {s with heap:=h',toks:=s.toks+1}:=I.turned (t':=s.toks+1) (λb o q e=>(sb.2 b q).trans e) f0 M N G U;obtain⟨o,e,c,d⟩:=id B;exact⟨_,rfl,p9 (s:={s with heap:=h',toks:=s.toks+1}) e c d (by decide) ⟨.str ⟨#[x.cps[i]]⟩,H,W,⟨_,rfl⟩,⟨rfl,_,F,rfl⟩,B,λb q=>(J b q).1⟩⟩
 done:=by
  intro X hP hw hK Y i pins s σ H E I J st hg;subst hP hw hK;obtain⟨f0,M,f2,N,G,U⟩:=J it (by simp);have hi:x.cps.size<=i:=hg;have F:x.cps[i]?=none:=by simp[hi]
  cases a with
  | true=>exact wpAny_pyNext_ascii_end (I.ok.hd Y) st F λh' eb=>⟨rfl,I.turned (t':=s.toks) (λb o q e=>eb b o q e) f0 M N G U⟩
  | false=>exact wpAny_pyNext_wide_end (I.ok.hd Y) st F λh' eb=>⟨rfl,I.turned (t':=s.toks) (λb o q e=>eb b o q e) f0 M N G U⟩
 self:=λ_ _ _ _ _ st h=>by
  cases a with
  | true=>exact wpAny_pyIter_striter_ascii st h
  | false=>exact wpAny_pyIter_striter_wide st h
def SJ(tl:TE):TI:=λσ H R=>tl σ H λx H1=>∃y,x=.str y/\R (T7 y) H1
section
variable {X:Cx}{tg:Expr}
theorem LF{l:Expr}{tl:TE}(M:PE X l tl):PI X tg l (SJ tl):=by
 intro pins s σ H R I h;refine bG (M pins s σ H _ I h) λv B ⟨x,H1,F,G,N⟩=>?_
 obtain⟨y,rfl,q⟩:=N;obtain⟨t,rfl⟩:=G;have fin:∀a:Bool,PIE X pins σ tg R (.ref B.heap.objs.size) {B with heap:=B.heap.push {cls:=.type (Q2 a),data:=.fields #[.str y t,.int 0 0]} }:=λa=>by
  refine⟨B.heap.objs.size,[B.heap.objs.size],_,_,H1,rfl,F.kept (t':=B.toks) λb o e=>VI _ e,DT a y t _,⟨_,VW _ rfl,rfl,rfl⟩,λb J=>?_,q⟩;have e:b=B.heap.objs.size:=by simpa using J
  subst e;exact F.fpOk (VH _) (F.hok.fresh (VH _))
 cases ha:y.cps.all (·<128)
 ·exact wpAny_pyIter_wide ha (fin false)
 ·exact wpAny_pyIter_ascii ha (fin true)
theorem A4:OpR X (VM .LtE) (λx y H Q=>∃i j,x=.str i/\y=.str j/\Q (.bl (!decide (j.cps.toList<i.cps.toList))) H):=by
 intro pins s σ H x y v u Q I B F h;obtain⟨i,j,rfl,rfl,q⟩:=h;obtain⟨t,rfl⟩:=B;obtain⟨t',rfl⟩:=F;exact PySem.P.le_str ⟨.bl _,H,I,rfl,q⟩
theorem LQ{bs:List Bool}{q:List Value}(r:Vals (bs.map V.bl) q):TruthOf P w A (λi v=>q.toArray[i]?=some v) (λi=>(bs[i]?).getD false):=by
 intro i v s Q E B F;have B:q[i]?=some v:=by simpa using B
 have G:=r.length;rw[VD]at G;have hi:i<bs.length:=by rw[G];exact(List.getElem?_eq_some_iff.mp B).1
 have e:(bs.map V.bl)[i]?=some (.bl bs[i]):=by simp[hi]
 obtain⟨u,J,M⟩:=r.get e;rw[B]at J;cases J;cases M;have:(bs[i]?).getD false=bs[i]:=by simp[hi]
 dsimp only at F;rw[this]at F;exact XJ F
theorem range_all(bs:List Bool):(VO bs.length).all (λi=>(bs[i]?).getD false)=bs.all id:=by
 rw[Y6,Z0,Z0];constructor
 ·intro h b q
  obtain⟨i,hi,rfl⟩:=List.getElem_of_mem q;have:=h i (List.mem_range.mpr hi);simpa[hi]using this
 ·intro h i hi
  have hi:=List.mem_range.mp hi;simpa[hi]using h bs[i] (zaa hi)
theorem AL(W:X.calm=true):CallR X (.builtin "all") (λxs H Q=>∃(p:Addr) (bs:List Bool),xs=[.ref p]/\SqL X.K H p (bs.map V.bl)/\Q (.bl (bs.all id)) H):=by
 intro pins s σ H xs us Q I r h;obtain⟨p,bs,rfl,U,q⟩:=h;obtain⟨u,rfl,Y⟩:=vals1 r;cases Y;obtain⟨F,M,pl,hz⟩:=I.list U;have J:s.heap.IsList p F.toArray:=pl.isList;obtain⟨o,ho,ad,n,hd⟩:=id J;have G:p≠s.heap.objs.size:=VT (VE ho);refine call_all_walk (za1 J ?_);refine⟨s.heap.objs.size,_,_,_,_,_,_,rfl,Walks.list (prog:=X.prog) (w:=X.w) (A:=X.A.in1) (I.ok.hd W) s.heap.objs.size p G F.toArray,⟨⟨_,VW _ rfl,rfl,rfl⟩,J.at λo e=>VI _ e⟩,LQ M,λh' tk hm=>?_⟩;have hk:∀b o,s.heap.get? b=some o->h'.get? b=some o:=λb o e=>hm b o (λN=>absurd (VE e) ((List.mem_singleton.mp N) ▸ XG _)) (VI _ e)
 have B:=M.length;rw[VD]at B;refine⟨.bl (bs.all id),H,I.kept (t':=tk) hk,?_,q⟩;rw[VN,<- B,range_all];rfl
theorem t9:∀ {ss:List Str} {its:List Value},Vals (ss.map V.str) its->StrsAre its ss
 | [],_,.nil=>.nil
 | x::ss,_,.cons r t=>by
  obtain⟨k,rfl⟩:=r;exact .cons x k (t9 t)
def rJoin(K:U6):V->List V->Hp->VK->Prop:=λx vs H Q=>∃(sep:Str) (p:Addr) (ss:List Str),x=.str sep/\vs=[.ref p]/\SqL K H p (ss.map V.str)/\(ss.map (·.length)).sum+ss.length*sep.length<=16777216/\Q (.str (Txt.join sep ss)) H
theorem JA:RP X "str.join" (rJoin X.K):=by
 intro pins s σ H x vs v W Q I M J h;obtain⟨sep,p,ss,rfl,rfl,F,hz,q⟩:=h;obtain⟨t,rfl⟩:=M;obtain⟨u,rfl,U⟩:=J.one;cases U;obtain⟨B,G,N,_⟩:=I.list F;exact join_list (items:=B.toArray) N.isList (by simpa using t9 G) hz λt' k=>⟨.str (Txt.join sep ss),H,I.kept (t':=k) λ_ _ e=>e,⟨_,rfl⟩,q⟩
end
end My
namespace P
open PySem PySem.Spec PyProof.Rows L2
section
variable {X:Cx}{O O':List Nat}{L:Lp}
noncomputable def FW:List D->Option (List Bool)
 | []=>some []
 | .bl b::l=>(FW l).map (b::·)
 | _=>none
theorem tR:∀ {ds:List D} {ns:List Bool} {vs:List V},FW ds=some ns->RepL A H ds vs->vs=ns.map V.bl
 | [],_,_,e,.nil=>by cases e;rfl
 | d::ds,ns,_,e,.cons h t=>by
  cases d with
  | bl b=>
   obtain⟨m,q,rfl⟩:=map_some e;cases RepB.bl_inv (.of h);rw[tR q t];rfl
  | _=>cases e
theorem uQ:∀bs:List Bool,FW (bs.map .bl)=some bs
 | []=>rfl
 | b::bs=>by rw[VG,FW,uQ bs];rfl
def BW:List D->Option D
 | [.lst l]=>(FW l).map λbs=>.bl (bs.all id)
 | _=>none
theorem ER(G:X.calm=true):jD X (.builtin "all") BW:=CallR.mono (My.AL G) <| by
 rintro xs H Q ⟨A,ds,d,N,r,e,q⟩;unfold BW at e;split at e
 ·obtain⟨bs,J,rfl⟩:=map_some e
  obtain⟨v,rfl,F⟩:=r.one;obtain⟨a,M,rfl,h1,B⟩:=F.lst_inv;rw[tR J B]at h1;exact⟨a,bs,rfl,.inl h1,q _ H (Ext.refl _ _) (.bl _)⟩
 ·cases e
@[simp] theorem q_all{bs:List Bool}:BW [.lst (bs.map .bl)]=some (.bl (bs.all id)):=by unfold BW;simp only[uQ];rfl
noncomputable def F6:List D->Option (List Str)
 | []=>some []
 | .str b::l=>(F6 l).map (b::·)
 | _=>none
theorem t4:∀ {ds:List D} {ns:List Str} {vs:List V},F6 ds=some ns->RepL A H ds vs->vs=ns.map V.str
 | [],_,_,e,.nil=>by cases e;rfl
 | d::ds,ns,_,e,.cons h t=>by
  cases d with
  | str b=>
   obtain⟨m,q,rfl⟩:=map_some e;cases RepB.str_inv (.of h);rw[t4 q t];rfl
  | _=>cases e
theorem pX:∀bs:List Str,F6 (bs.map .str)=some bs
 | []=>rfl
 | b::bs=>by rw[VG,F6,pX bs];rfl
def p7:D->D->Option D
 | .str sep,.lst l=>(F6 l).bind λss=>if(ss.map (·.length)).sum+ss.length*sep.length<=16777216 then some (.str (Txt.join sep ss))else none
 | _,_=>none
theorem IT(M:PB X O o fo)(U:PB X O e fe)(hp:∀ {to:TE} {t:TA},PE X o to->PA X [e] t->PE X (.Call (.Attribute o "join" apos) [e] [] cpos) (RX X.K "str" (My.rJoin X.K) to t))(hs:U8 [e] X.env=(false,eval e X.env)::U8 [] X.env:=by rfl):PD X O (.Call (.Attribute o "join" apos) [e] [] cpos) (bC p7 fo fe):=
 PE.mono (hp M (uF U gC hs)) <| by
  rintro σ H Q ⟨H0,A0,A,E,ρ,d,st,e,q⟩;obtain⟨x,ex,e⟩:=bind_some e;obtain⟨y,Y,e⟩:=bind_some e;refine⟨H0,A0,A,E,ρ,x,st,ex,λv H1 F J=>?_⟩;unfold p7 at e;split at e
  ·rename_i sep l _
   obtain⟨ss,es,e⟩:=bind_some e;by_cases hz:(ss.map (·.length)).sum+ss.length*sep.length<=16777216
   ·rw[if_pos hz]at e
    cases e;cases J.str_inv;refine⟨rfl,H0,A0,A,E,ρ,[.lst l],st.mono F,by unfold aH bQ;rw[Y];rfl,λvs H2 G N=>?_⟩;obtain⟨w,rfl,B⟩:=N.one;obtain⟨p,us,rfl,h1,W⟩:=B.lst_inv;rw[t4 es W]at h1;exact⟨sep,p,ss,rfl,rfl,.inl h1,hz,q _ H2 (F.trans G) (.str _)⟩
   ·rw[if_neg hz]at e;cases e
  ·cases e
theorem NI(h:(ss.map (·.length)).sum+ss.length*sep.length<=16777216):p7 (.str sep) (.lst (ss.map .str))=some (.str (Txt.join sep ss)):=by
 unfold p7;simp only[pX,zaR];rw[if_pos h]
noncomputable def vH:D->D->Option D
 | .int i,.int j=>some (.bl (decide (i<=j)))
 | .str i,.str j=>some (.bl (!decide (j.cps.toList<i.cps.toList)))
 | _,_=>none
theorem L4:fT X (VM .LtE) vH:=OpR.mono (OpR.or PX My.A4) <| by
 rintro x y H Q ⟨A,dx,G,d,J,B,F,e,q⟩;unfold vH at e;split at e
 ·cases e
  cases B.int_inv;cases F.int_inv;exact .inl ⟨_,_,rfl,rfl,q _ H (Ext.refl _ _) (.bl _)⟩
 ·cases e
  cases B.str_inv;cases F.str_inv;exact .inr ⟨_,_,rfl,rfl,q _ H (Ext.refl _ _) (.bl _)⟩
 ·cases e
@[simp] theorem q_leAI:vH (.int i) (.int j)=some (.bl (decide (i<=j))):=rfl
@[simp] theorem q_leAS:vH (.str i) (.str j)=some (.bl (!decide (j.cps.toList<i.cps.toList))):=rfl
def J5(x y:D):Option D:=match x,y with
 | .str i,.str j=>some (.bl (!(Builtin.Str.occurrences j i 0 j.length 1).isEmpty))
 | x,y=>R0 x y
theorem OJ(G:X.A.units+64<cLine):fT X (VM .In) J5:=OpR.mono (OpR.or (P3 G) BA) <| by
 rintro x y H Q ⟨A,dx,M,d,J,B,F,e,q⟩;unfold J5 at e;split at e
 ·cases e
  cases B.str_inv;cases F.str_inv;exact .inr ⟨_,_,rfl,rfl,q _ H (Ext.refl _ _) (.bl _)⟩
 ·exact .inl ⟨A,_,_,d,J,B,F,e,q⟩
noncomputable def signs(x:Str):List D:=x.cps.toList.map λc=>.str ⟨#[c]⟩
theorem MI:B4 (My.T7 x) [] (signs x):=by
 intro A H N M i;have q:(signs x).length=x.cps.size:=by simp[signs]
 refine⟨λhi=>by rw[q]at hi;exact hi,λd hd=>?_⟩;have hi:i<x.cps.size:=by rw[<- q];exact(List.getElem?_eq_some_iff.mp hd).1
 refine⟨hi,λy H' ⟨e,c,B,G⟩=>?_⟩;subst e G;have:d=.str ⟨#[c]⟩:=by
  unfold signs at hd;rw[VV]at hd;obtain⟨J,F,rfl⟩:=map_some hd;have:x.cps[i]?=some J:=by rw[<- Z9];exact F
  rw[B]at this;cases this;rfl
 subst this;exact⟨Ext.refl _ _,.str _⟩
def eI(f:Ev):Lv:=λρ=>(f ρ).bind λd=>match d with
 | .lst l=>some l
 | .tup l=>some l
 | .dT l=>some (l.map λp=>.tup (p.1.map B3))
 | .str x=>some (signs x)
 | _=>none
@[simp] theorem q_lSeqA:eI f ρ=(f ρ).bind λd=>match d with
 | .lst l=>some l
 | .tup l=>some l
 | .dT l=>some (l.map λp=>.tup (p.1.map B3))
 | .str x=>some (signs x)
 | _=>none:=rfl
theorem DA(h:PD X O e f):PDI X O tg e (eI f):=PI.mono (PI.or (II h) (My.LF h)) <| by
 rintro σ H R ⟨H0,A0,A,E,ρ,items,st,e,q⟩;obtain⟨d,B,e⟩:=bind_some e;cases d with
 | str x=>
  cases e;refine .inr ⟨H0,A0,A,E,ρ,_,st,B,λv H1 J F=>?_⟩;cases RepB.str_inv (.of F);exact⟨x,rfl,q _ H1 [] J (λp G=>nomatch G) MI⟩
 | lst l=>exact .inl ⟨H0,A0,A,E,ρ,items,st,by unfold FU;rw[B];exact e,q⟩
 | tup l=>exact .inl ⟨H0,A0,A,E,ρ,items,st,by unfold FU;rw[B];exact e,q⟩
 | dT l=>exact .inl ⟨H0,A0,A,E,ρ,items,st,by unfold FU;rw[B];exact e,q⟩
 | _=>cases e
end
structure GTup(K:U6)(mg:Str->Option Value)(x:Str)(ss:List Str):Prop where
 ex:∃a,mg x=some (.ref a)/\∃(o:Obj) (its:Array Value) (n:Nat),K.lookup a=some o/\o.cls=.type "tuple" /\ o.data=.seq its n/\its.size<=VC/\Vals (ss.map V.str) its.toList
structure GInt(mg:Str->Option Value)(x:Str)(i:Int):Prop where
 ex:∃t,mg x=some (.int i t)
section
variable {X:Cx}{O:List Nat}
theorem i6(g:GInt X.mg x i)(B:Gl X x)(hd:(x == ("__debug__" : Str))=false:=by decide):PD X O (.Name x p) (eC (.int i)):=by
 obtain⟨t,e⟩:=g.ex;exact PE.mono (zD (v:=.int i) B e ⟨t,rfl⟩ hd) λσ H Q ⟨H0,A0,A,E,ρ,d,st,e,q⟩=>by cases e;exact q _ H (Ext.refl _ _) (.int _)
noncomputable def KB(neg:Bool)(ss:List Str):D->Option D
 | .str s=>some (.bl (if neg then !ss.contains s else ss.contains s))
 | _=>none
theorem t8(s:Str):∀ss:List Str,inV (.str s) (ss.map V.str)=ss.contains s
 | []=>rfl
 | y::ss=>by
  have ih:=t8 s ss;unfold inV at ih ⊢;rw[VG,XE,ih,List.contains_cons];congr 1;show decide (y=s)=(s == y);by_cases h:y=s
  ·subst h;simp
  ·have:¬ s=y:=λz=>h z.symm
   simp[h,this]
theorem pV:∀ss:List Str,(ss.map V.str).all jB=true
 | []=>rfl
 | y::ss=>by rw[VG,ZA,pV ss];rfl
theorem HI{neg:Bool}{ss:List Str}{f:Ev}{a:Addr}{K:U6}(G:∃(o:Obj) (its:Array Value) (n:Nat),K.lookup a=some o/\o.cls=.type "tuple" /\ o.data=.seq its n/\its.size<=VC/\Vals (ss.map V.str) its.toList){σ:L2.St}{H:Hp}{Q:VK}(h:tD Rep O (qB (KB neg ss) f) σ H Q):PJ (UB K neg) (tD RepB O f) (tC (.ref a)) σ H Q:=by
 obtain⟨H0,A0,A,E,ρ,d,st,e,q⟩:=h;obtain⟨x,ex,e⟩:=bind_some e;refine⟨H0,A0,A,E,ρ,x,st,ex,λv H1 B F=>?_⟩;cases x with
 | str s=>
  cases e;cases F.str_inv;refine⟨a,ss.map V.str,rfl,.inr (.inr G),rfl,pV ss,?_⟩;rw[t8];exact q _ H1 B (.bl _)
 | _=>cases e
theorem HW(g:GTup X.K X.mg x ss)(q:Gl X x)(B:PB X O e f)(hd:(x == ("__debug__" : Str))=false:=by decide)(F:YK .In (.Name x p)=false:=by rfl):jU X O (.Compare e [.In] [.Name x p] pos) (lN (qB (KB false ss) f)):=by
 obtain⟨a,G,J⟩:=g.ex;exact PT.mono (yZ BI B (zD (v:=.ref a) q G rfl hd) F) λσ H Q h=>HI J (fG h)
end
@[simp] theorem q_inG:KB neg ss (.str s)=some (.bl (if neg then !ss.contains s else ss.contains s)):=rfl
@[simp] theorem b4:d6 (.str a) (.str b)=some (.bl (decide (a=b))):=by
 unfold d6 B6;rw[if_pos (.inl rfl)];by_cases h:a=b
 ·subst h;simp
 ·have h2:¬ D.str a=D.str b:=λz=>h (by injection z)
  simp[h]
@[simp] theorem q_neS:KH (.str a) (.str b)=some (.bl (!decide (a=b))):=by
 unfold KH B6;rw[if_pos (.inl rfl)];by_cases h:a=b
 ·subst h;simp
 ·have h2:¬ D.str a=D.str b:=λz=>h (by injection z)
  simp[h]
theorem yX{f rest:Sv}{ρ:bI}{R:D->Prop}(W:bI->Prop)(h:∃ρ',f ρ=some (.nx ρ')/\W ρ')(k:∀ρ',W ρ'->∃d,rest ρ'=some (.rt d)/\R d):∃d,c6 f rest ρ=some (.rt d)/\R d:=by
 obtain⟨ρ',e,w⟩:=h;rw[aI e];exact k ρ' w
theorem NY(h0:0<=k)(h:k<(l.length:Int)):sN (.lst l) (.int k) e=some (.lst (l.set k.toNat e)):=by
 show(sQ l.length k).map _=_;unfold sQ;rw[if_pos h0,if_pos h];rfl
theorem at_of(h0:0<=k)(h:l[k.toNat]?=some d):d7 l k=some d:=by
 obtain⟨j,rfl⟩:∃j:Nat,k=(j:Int):=⟨k.toNat,by lia⟩;exact bX (by simpa using h)
theorem oC(h0:0<=k)(h:k<(l.length:Int)):∃d,d∈l/\l[k.toNat]?=some d/\d7 l k=some d:=by
 have q:k.toNat<l.length:=by lia
 have e:l[k.toNat]?=some l[k.toNat]:=V6 q;exact⟨l[k.toNat],zaa q,e,at_of h0 e⟩
theorem xU(I:Nat->bI->Prop)(J:bI->Prop)(h:∀n ρ,I n ρ->(c ρ=some true/\∃m ρ',m<n/\b ρ=some (.nx ρ')/\I m ρ')\/(c ρ=some false/\J ρ)):∀(fuel n:Nat) (ρ:bI),n<fuel->I n ρ->∃ρ',fL c b fuel ρ=some (.nx ρ')/\J ρ'
 | 0,n,ρ,hn,_=>absurd hn (Nat.not_lt_zero n)
 | fuel+1,n,ρ,hn,hi=>by
  rcases h n ρ hi with⟨q,m,ρ',M,G,F⟩|⟨q,B⟩
  ·obtain⟨ρ2,e,B⟩:=xU I J h fuel m ρ' (by lia) F
   refine⟨ρ2,?_,B⟩;unfold fL;rw[q,aA,if_pos rfl,G,aA];exact e
  ·refine⟨ρ,?_,B⟩
   unfold fL;rw[q,aA,if_neg VL]
theorem AW{c:Bv}{b rest:Sv}{ρ:bI}{R:D->Prop}(I:Nat->bI->Prop)(J:bI->Prop)(n:Nat)(q:n<100000)(h0:I n ρ)(h:∀n ρ,I n ρ->(c ρ=some true/\∃m ρ',m<n/\b ρ=some (.nx ρ')/\I m ρ')\/(c ρ=some false/\J ρ))(k:∀ρ',J ρ'->∃d,rest ρ'=some (.rt d)/\R d):∃d,c6 (sF c b) rest ρ=some (.rt d)/\R d:=by
 obtain⟨ρ',e,F⟩:=xU I J h 100000 n ρ q h0;have B:sF c b ρ=some (.nx ρ'):=e;rw[aI B];exact k ρ' F
theorem PD.pe(h:PD X O e f):PE X e (tD Rep O f):=h
noncomputable def isStar:Expr->Bool
 | .Starred ..=>true
 | _=>false
theorem cR(h:isStar e=false):U8 (e::es) env=(false,eval e env)::U8 es env:=by
 cases e <;> first|rfl|cases h
theorem iW:∀ {es:List Expr},(es.all λe=>!isStar e)=true->(VU pos (U8 es env)).any (·.1)=false
 | [],_=>by simp[U8,VU]
 | e::es,h=>by
  rw[ZA,V5]at h;have q:isStar e=false:=by cases z:isStar e;rfl;rw[z]at h;exact absurd h.1 (by decide)
  have ih:=iW (pos:=pos) (env:=env) (es:=es) h.2;rw[cR q];simp only[VU,VG,XE,Bool.false_or]at ih ⊢;exact ih
end P
namespace My
open PySem PySem.Spec PyProof.Rows L2 PySem.SeqAt
noncomputable def O7(val:Nat->Int):Nat->Nat->Int->Int
 | 0,_,m=>m
 | k+1,j,m=>O7 val k (j+1) (if val j>m then val j else m)
section
variable {prog:VB}{w:World}{A:VJ}{R:Result->U5->Prop}{I S:Addr}{fp wr:List Addr}{n:Nat}{P:Nat->Value->Prop}{St:Nat->Heap->Prop}{kw:List (Str×Value)}
theorem jO(W:Walks prog w A.in1 I fp wr n P St)(val:Nat->Int)(hv:∀j v,P j v->∃t,v=.int (val j) t)(Y:S∉fp):∀(k j:Nat) (s:U5) (m:Int) (t:Tok) (c:Nat),n-j=k->j<=n->St j s.heap->
  s.heap.get? S=some {cls:=.type "list",dict:=none,data:=.seq #[.int m t,.int m t] c,slots:=#[]}->
  (∀t' h' tk,(∀b o,b∉wr->b≠S->s.heap.get? b=some o->h'.get? b=some o)->R (.ok (.ret (.int (O7 val k j m) t'))) {s with heap:=h',toks:=tk})->
  XI (model prog w) A (.builtin "max.loop" ⟨[.ref I,.none,.ref S],kw⟩) R s
 | k,j,s,m,t,c,hk,hj,st,gS,fin=>by
  have nw:S∉wr:=λz=>Y (W.sub _ z)
  have nm:(ZQ "max" ++ ZQ ".loop" : String) = "max.loop" := by decide
  refine YR PySem.F.entry_max_loop ?_;rw[YS ZR _];show wpAny _ A.in1 (seqItems? (.ref S) >>= λ_=>_) _ _ s;refine U4 (zab gS rfl ?_);show wpAny _ A.in1 (tryCatch (WC (.ref I)) _ >>= λ_=>_) _ _ s
  match k,hk,fin with
  | 0,hk,fin=>
   have e:j=n:=by lia
   refine U4 (zag (W.done s _ _ (e ▸ st) λh1 tk same=>?_));have G:=same S _ nw gS;show wpAny _ A.in1 (Z8 S (λ_=>#[]) >>= λ_=>_) _ _ _;refine U4 (ZP G rfl (U4 (ZO (U7 ?_))));exact fin t _ tk λb o nb B M=>(X6 _ _ (VY B)).trans (same b o nb M)
  | k+1,hk,fin=>
   have lt:j<n:=by lia
   refine U4 (zag (W.item j s _ _ lt st λv h1 tk pv N same=>?_));have G:=same S _ nw gS;obtain⟨u,rfl⟩:=hv j v pv;show wpAny _ A.in1 (tryCatch (YJ [.int (val j) u,.int (val j) u] (richCompare .Gt (.int (val j) u) (.int m t) >>= λ_=>_)) _ >>= λ_=>_) _ _ _;refine U4 (zag (W3 (U4 ?_)));refine richCompare_gives (op:=.Gt) (ZY _ _ u) (ZY _ _ t) PySem.F.slot_int_gt PySem.F.entry_int_gt (PySem.F.args_int_gt_2 _ _) (gives_int_gt _ _ u t) (λz=>nomatch z) ?_;refine U4 (W3 (XJ ?_));refine U4 (ZO (U7 ?_));by_cases U:val j>m
   ·rw[decide_eq_true U]
    simp only[if_true];refine U4 (ZP G rfl (U4 (ZO ?_)));rw[nm];refine U7 ⟨XU ZR _,jO W val hv Y k (j+1) _ (val j) u _ (by lia) lt (W.frame _ _ _ N λb bf o M=>?_) (YO _ G rfl) λt' h2 J q=>?_⟩
    ·exact(X6 _ _ (λz:S=b=>Y (z ▸ bf))).trans M
    ·have:=fin t' h2 J λb o nb B M=>q b o nb B ((X6 _ _ (VY B)).trans (same b o nb M))
     rw[O7,if_pos U]at this;exact this
   ·rw[decide_eq_false U]
    simp only[YE,if_false];refine U4 (ZO ?_);rw[nm];refine U7 ⟨XU ZR _,jO W val hv Y k (j+1) _ m t c (by lia) lt N G λt' h2 J q=>?_⟩;have:=fin t' h2 J λb o nb B M=>q b o nb B (same b o nb M)
    rw[O7,if_neg U]at this;exact this
end
noncomputable def xS(d:Int):List Int->Int
 | []=>d
 | x::xs=>xs.foldl (λm y=>if y>m then y else m) x
theorem tP(ns:List Int):∀(k j:Nat) (m:Int),ns.length-j=k->O7 (λi=>(ns[i]?).getD 0) k j m=(ns.drop j).foldl (λm y=>if y>m then y else m) m
 | 0,j,m,h=>by
  rw[List.drop_eq_nil_iff.mpr (by lia)];rfl
 | k+1,j,m,h=>by
  have q:j<ns.length:=by lia
  rw[O7,zac q,zax,tP ns k (j+1) _ (by lia)];simp[q]
section
variable {X:Cx}
end
end My
namespace P
open PySem PySem.Spec PyProof.Rows L2
section
variable {X:Cx}{O:List Nat}
end
end P
namespace My
open PySem PySem.Spec PyProof.Rows L2 PySem.SeqAt
theorem e8:entryFor table "dict.update.loop" = some XS.«dict.update.loop»:=entryFor_of_tree (by kernel_rfl)
theorem bT:plainId "dict.update.loop" = true:=by decide +kernel
theorem lO:typeLookup (.type "list") (XC "keys")=pure none:=by rw[typeLookup_type,builtinLookup_eq_fast];kernel_rfl
theorem kU:typeLookup (.type "tuple") (XC "keys")=pure none:=by rw[typeLookup_type,builtinLookup_eq_fast];kernel_rfl
section
variable {prog:VB}{w:World}{A:VJ}{E:Value->U5->Prop}{s:U5}
theorem lP(J:s.heap.get? a=some o)(M:o.cls=.type "list")(q:o.data=.seq xs k)(hd:o.dict=none)(Y:A.handled=none)
  (h:∀h' tk,(∀b o,s.heap.get? b=some o->h'.get? b=some o)->Q none {s with heap:=h',toks:=tk}):wpAny (model prog w) A (getAttr? (.ref a) "keys") Q E s:=by
 obtain⟨c,N,W,U⟩:=o;simp only at M q hd;subst M q hd;obtain⟨hp,g,d,tk,os⟩:=s;have hT:∀B,(⟨hp,g,d,B,os⟩:U5).TypeIs (.ref a) "list" := λ_=>⟨_,J,rfl⟩
 have f1:=sub_AttributeError;have f3:=PySem.F.slot_list_getattribute.lookup;have f4:=PySem.F.slot_list_getattribute.bind (.ref a);have f5:=am_list_getattr_none;unfold getAttr? getAttrBy? getAttrBy
 repeat (any_goals (first|assumption|exact hT _|((with_reducible show wpAny _ _ (call (Value.builtin "list.__getattribute__") _ _) _ _ _);refine Y1 PySem.F.slot_list_getattribute (hT _) am_entry_list_getattribute (PySem.F.args_list_getattribute_2 _ _) (meets_getattribute_miss_list a xs k U (XC "keys") _ lO (by decide) (by size_fits)) ⟨J,Y,λh' B e G=>?_⟩)|wp_step))
 obtain⟨t',u',he⟩:=G.there;show wpAny _ _ (zaS _ _ _ _ _ _ _) _ _ _;unfold zaS
 repeat (any_goals (first|assumption|wp_step))
 exact h _ _ G.keeps
theorem kT(J:s.heap.get? a=some o)(M:o.cls=.type "tuple")(q:o.data=.seq xs k)(hd:o.dict=none)(Y:A.handled=none)
  (h:∀h' tk,(∀b o,s.heap.get? b=some o->h'.get? b=some o)->Q none {s with heap:=h',toks:=tk}):wpAny (model prog w) A (getAttr? (.ref a) "keys") Q E s:=by
 obtain⟨c,N,W,U⟩:=o;simp only at M q hd;subst M q hd;obtain⟨hp,g,d,tk,os⟩:=s;have hT:∀B,(⟨hp,g,d,B,os⟩:U5).TypeIs (.ref a) "tuple" := λ_=>⟨_,J,rfl⟩
 have f1:=sub_AttributeError;have f3:=PySem.F.slot_tuple_getattribute.lookup;have f4:=PySem.F.slot_tuple_getattribute.bind (.ref a);have f5:=am_tuple_getattr_none;unfold getAttr? getAttrBy? getAttrBy
 repeat (any_goals (first|assumption|exact hT _|((with_reducible show wpAny _ _ (call (Value.builtin "tuple.__getattribute__") _ _) _ _ _);refine Y1 PySem.F.slot_tuple_getattribute (hT _) am_entry_tuple_getattribute (PySem.F.args_tuple_getattribute_2 _ _) (meets_getattribute_miss_tuple a xs k U (XC "keys") _ kU (by decide) (by size_fits)) ⟨J,Y,λh' B e G=>?_⟩)|wp_step))
 obtain⟨t',u',he⟩:=G.there;show wpAny _ _ (zaS _ _ _ _ _ _ _) _ _ _;unfold zaS
 repeat (any_goals (first|assumption|wp_step))
 exact h _ _ G.keeps
end
section
variable {X:Cx}{pins:List (Addr×Obj)}{σ:L2.St}{H:Hp}{s:U5}{a:Addr}{y v:V}{u r:Value}{A:VJ}{E:Value->U5->Prop}
theorem BB(hu:A.units+1<cLine)(I:Inv X pins σ H s)(g:DPut H a y v H')(ry:RelV y u)(W:RelV v r)(h:∀h' t',Inv X pins σ H' {s with heap:=h',toks:=t'}->V8 a s.heap h'->Q () {s with heap:=h',toks:=t'}) :
  wpAny (model X.prog X.w) A (dictSet a u r) Q E s:=by
 rcases g with⟨kvs,k,e,N,l,J⟩|⟨kvs,k,b,e,N,eb,l,J⟩
 ·subst N J
  obtain⟨z,hd,vs,B,U⟩:=K5 I.hok e;have hz:vs.length<=VC:=by rw[<- B.length];exact z
  have M:(putK kvs k v).length<=VC:=by have:=cV kvs k v;lia
  refine wpAny_dictSet_pairs (hsz:=hz) (oB ry) U λh' F hs=>h _ _ ?_ hs
  have he:∃q,h'.get? a=some q:=let ⟨q,_,_,G,_⟩:=F;⟨q,G⟩;exact lE I (by rw[e];exact WX) hs he (ES M hd (B.put k W) F)
 ·subst N J
  cases(show u=VF b from ry);obtain⟨z,hd,xs,B,U⟩:=KS I.hok e;have hz:xs.length<=VC:=by rw[<- YV B];exact z
  have M:(putK kvs k v).length<=VC:=by have:=cV kvs k v;lia
  refine wpAny_dictSet_heap (hsz:=hz) (show A.units<cLine by lia) (jR I.hok eb) U λh' F hs=>h _ _ ?_ hs
  obtain⟨q,es,ep,G,h2,h3,h4,_,h5⟩:=F;refine lE I (by rw[e];exact WX) hs ⟨q,G⟩ ⟨M,hd,_,(B.put k eb W).keeps λc ys Y=>?_,q,es,ep,G,h2,h3,h4,h5⟩;rw[aC (KO Y e (λz=>nomatch z))];exact Y
end
inductive Puts(d:Addr):Hp->List (V×V)->Hp->Prop where
 | nil {H:Hp}:Puts d H [] H
 | cons {H H1 H2:Hp} {y v:V} {l:List (V×V)} (h:DPut H d y v H1) (t:Puts d H1 l H2):Puts d H ((y,v)::l) H2
theorem t6(g:DPut H a y v H'):(∃u,H a=some u/\(∀xs,u≠.tup xs)/\∀o w,u≠.frz o w)/\∀b,b≠a->H' b=H b:=by
 rcases g with⟨kvs,k,e,F,l,q⟩|⟨kvs,k,b,e,F,G,l,q⟩
 ·subst q;exact⟨⟨_,e,(λ_ z=>nomatch z),(λ_ _ z=>nomatch z)⟩,λb B=>aC B⟩
 ·subst q;exact⟨⟨_,e,(λ_ z=>nomatch z),(λ_ _ z=>nomatch z)⟩,λb B=>aC B⟩
theorem CJ{K:U6}{H H':Hp}{a:Addr}{y v:V}(g:DPut H a y v H'){b:Addr}{xs:List V}(h:SqT K H b xs):SqT K H' b xs:=by
 obtain⟨⟨u,e,n1,q⟩,same⟩:=t6 g;rcases h with(h|⟨o,h⟩)|h
 ·exact .inl (.inl (by rw[same b (λz=>by rw[z,e]at h;exact n1 _ (VX h))];exact h))
 ·exact .inl (.inr ⟨o,by rw[same b (λz=>by rw[z,e]at h;exact q _ _ (VX h))];exact h⟩)
 ·exact .inr h
section
variable {X:Cx}{pins:List (Addr×Obj)}{σ:L2.St}{A:VJ}{R:Result->U5->Prop}{it d:Addr}{fp:List Addr}{n:Nat}{P:Nat->Value->Prop}{St:Nat->Heap->Prop}{H2:Hp}
theorem g7(W:Walks X.prog X.w A.in1 it fp [it] n P St)(hd:d∉fp)(hu:A.in1.units+1<cLine)(fin:∀s',Inv X pins σ H2 s'->R (.ok (.ret .none)) s'):∀(l:List (V×V)) (j:Nat) (s:U5) (H:Hp) (t:Tok) (i:Int),n-j=l.length->j<=n->St j s.heap->Inv X pins σ H s->fS X pins H it->
  (∀(m:Nat) (p:V×V) (v:Value),l[m]?=some p->P (j+m) v->∃b,v=.ref b/\SqT X.K H b [p.1,p.2])->Puts d H l H2->
  XI (model X.prog X.w) A (.builtin "dict.update.loop" ⟨[.ref d,.ref it,.int i t,.none],[]⟩) R s
 | [],j,s,H,t,i,hn,hj,st,I,fo,facts,pu=>by
  cases pu;obtain⟨f0,J,f2,F,B,G⟩:=fo;have e:j=n:=by simp at hn;lia
  subst e;refine YR e8 ?_;rw[YS bT _];show wpAny _ A.in1 (WC (.ref it) >>= λ_=>_) _ _ s;refine U4 (W.done s _ _ st λh1 tk same=>?_);show wpAny _ _ (Builtin.Dict.addKeywords d [] >>= _) _ _ _;exact U4 (U7 (U7 (fin _ (I.turned (t':=tk) (λb o M e=>same b o (by simpa using M) e) f0 J F B G))))
 | (y,v)::l,j,s,H,t,i,hn,hj,st,I,fo,facts,pu=>by
  obtain⟨f0,J,f2,F,B,G⟩:=id fo;cases pu with
  | @cons _ H1 _ _ _ _ dp pu=>
  have lt:j<n:=by rw[VR]at hn;lia
  refine YR e8 ?_;rw[YS bT _];show wpAny _ A.in1 (WC (.ref it) >>= λ_=>_) _ _ s;refine U4 (W.item j s _ _ lt st λv1 h1 tk pv N same=>?_);obtain⟨b,rfl,sq⟩:=facts 0 (y,v) v1 rfl pv;have I1:Inv X pins σ H {s with heap:=h1,toks:=tk}:=I.turned (t':=tk) (λb o M e=>same b o (by simpa using M) e) f0 J F B G;obtain⟨af,rv,ht,hz⟩:=I1.tuple sq;cases rv with
  | @cons _ u _ us ru rt=>
  cases rt with
  | @cons _ r _ us2 rr rt2=>
  cases rt2;obtain⟨o,ho,hc,nn,U⟩:=id ht;show wpAny _ A.in1 (YJ [VF b] _ >>= λ_=>_) _ _ _;refine U4 (W3 ?_);refine U4 (zag ?_);unfold Builtin.Dict.pairItems;refine U4 (YZ ht.typeIs ?_);rw[if_pos (by decide)];refine U4 (zab ho U (U7 ?_));show wpAny _ A.in1 (YJ [u,r] (dictSet d u r)) _ _ _;refine W3 (BB hu I1 dp ru rr λh2 t2 I2 sb=>?_);obtain⟨⟨uo,Y,_,_⟩,q⟩:=t6 dp;have nd:it≠d:=λz=>by rw[<- z,f0]at Y;cases Y
  refine U7 ⟨XU bT _,g7 W hd hu fin l (j+1) _ H1 _ _ (by rw[VR]at hn;lia) lt (W.frame _ _ _ N λb bf o eb=>?_) I2 ⟨by rw[q it nd];exact f0,J,f2,F,B,G⟩ (λm p v2 hm hp=>?_) pu⟩
  ·exact(sb.2 b (λz=>hd (z ▸ bf))).trans eb
  ·obtain⟨c,e,sq⟩:=facts (m+1) p v2 (by simpa using hm) (by rw[show j+(m+1)=j+1+m by lia];exact hp)
   exact⟨c,e,CJ dp sq⟩
end
section
variable {X:Cx}
def Src(X:Cx)(H:Hp)(p:Addr)(ys:List V):Prop:=SqL X.K H p ys\/Rd H p (.tup ys)
theorem wQ(hc:X.calm=true)(hu:X.A.units+64<cLine):CallR X (.type "dict") (λxs H Q=>∃p ys l,xs=[.ref p]/\Src X H p ys/\l.length=ys.length/\(∀(m:Nat) (pr:V×V),l[m]?=some pr->∃b,ys[m]?=some (.ref b)/\SqT X.K H b [pr.1,pr.2]) /\
  ∀q,H q=none->∃H2,(Puts q (upd H q (.dK [])) l H2\/Puts q (upd H q (.dT [])) l H2)/\Q (.ref q) H2):=by
 intro pins s σ H xs us Q I r h;obtain⟨p,ys,l,rfl,src,hl,al,q⟩:=h;obtain⟨u,rfl,rx⟩:=vals1 r;cases rx;obtain⟨H2,pu,q⟩:=q s.heap.objs.size (I.hok.fresh (VH _));refine callType_codes (Q₁:=λam aa=>am=.ref s.heap.objs.size/\aa={s with heap:=s.heap.push {cls:=.type "dict",data:=.dict #[]} }) PySem.F.kt_called_dict (PySem.F.kt_typeCall_dict_1 _) PySem.F.entry_dict_init (kt_code_dict_new _ ⟨rfl,rfl⟩) ?_;rintro am aa ⟨rfl,rfl⟩;have n1:(s.heap.push {cls:=.type "dict",data:=.dict #[]}).get? s.heap.objs.size=some {cls:=.type "dict",data:=.dict #[]}:=VW _ rfl;have t1:Shared.TypeIs {s with heap:=s.heap.push {cls:=.type "dict",data:=.dict #[]} } (.ref s.heap.objs.size) "dict" := ⟨_,n1,rfl⟩;refine⟨t1,PySem.F.args_dict_init_2 _ _,?_⟩;unfold XS.«dict.__init__»;refine U4 ?_;unfold Builtin.Dict.selfAndRest;refine U4 (zbg t1 ?_);show wpAny _ _ (pure (s.heap.objs.size,[VF p])) _ _ _;refine U7 ?_;show wpAny _ _ (Builtin.Dict.updateFrom "dict.__init__" s.heap.objs.size (.ref p) [] .none) _ _ _;unfold Builtin.Dict.updateFrom;obtain⟨Y,a3,IK,pu⟩:∃Y:HO,(Y=.dK []\/Y=.dT [])/\Inv X pins σ (upd H s.heap.objs.size Y) {s with heap:=s.heap.push {cls:=.type "dict",data:=.dict #[]} }/\Puts s.heap.objs.size (upd H s.heap.objs.size Y) l H2:=by
  rcases pu with pu|pu
  ·exact⟨_,.inl rfl,I.laid (a:=s.heap.objs.size) (o:=.dK []) (h':=s.heap.push {cls:=.type "dict",data:=.dict #[]}) (t':=s.toks) (λ_ _ q=>VI _ q) (VH _) (uG s.heap I.big),pu⟩
  ·exact⟨_,.inr rfl,I.laid (a:=s.heap.objs.size) (o:=.dT []) (h':=s.heap.push {cls:=.type "dict",data:=.dict #[]}) (t':=s.toks) (λ_ _ q=>VI _ q) (VH _) (uV s.heap I.big),pu⟩
 have aj:∀b u,H b=some u->b≠s.heap.objs.size:=λb u e z=>XG _ (by have:=(I.hok b u e).lt;rw[z]at this;exact this)
 have ai:∀ {b:Addr} {zs:List V},SqT X.K H b zs->SqT X.K (upd H s.heap.objs.size Y) b zs:=λ{b zs} h=>by
  rcases h with(h|⟨o,h⟩)|h
  ·exact .inl (.inl (by rw[aC (aj _ _ h)];exact h))
  ·exact .inl (.inr ⟨o,by rw[aC (aj _ _ h)];exact h⟩)
  ·exact .inr h
 have ah:∀ {o:Obj},s.heap.get? p=some o->p<s.heap.objs.size:=λe=>VE e
 rcases src with sq|sq
 ·obtain⟨N,rv,pl,hz⟩:=I.list sq
  obtain⟨o,n,ho,G,ac,J⟩:=id pl;have U:=rv.length;have B:(s.heap.push {cls:=.type "dict",data:=.dict #[]}).get? p=some o:=VI _ ho;refine U4 (YZ (s:={s with heap:=s.heap.push {cls:=.type "dict",data:=.dict #[]} }) ⟨o,B,G⟩ ?_);rw[if_pos (by decide)];refine U4 (lP (s:={s with heap:=s.heap.push {cls:=.type "dict",data:=.dict #[]} }) B G J ac (I.ok.hd hc) λh' tk keep=>?_);simp only[Option.isNone_none,if_true];refine U4 (YW (U4 (za1 (s:={s with heap:=h',toks:=tk}) (items:=N.toArray) ⟨o,keep _ _ B,G,n,J⟩ ?_)));have M:Inv X pins σ (upd H s.heap.objs.size Y) {s with heap:=h',toks:=tk}:=IK.kept (t':=tk) keep;have ag:Inv X pins σ (upd H s.heap.objs.size Y) {s with heap:=h'.push {cls:=.type "list_iterator",data:=.fields #[.ref p,.int 0 0]},toks:=tk}:=M.kept (t':=tk) λb o e=>VI _ e
  have lp:p<h'.objs.size:=VE (keep _ _ B);have ld:s.heap.objs.size<h'.objs.size:=VE (keep _ _ n1);have W:=Walks.list (prog:=X.prog) (w:=X.w) (A:=X.A.in1.in1) (I.ok.hd hc) h'.objs.size p (VT lp) N.toArray;refine U7 ⟨XU bT _,g7 (X:=X) (pins:=pins) (σ:=σ) (H2:=H2) W (d:=s.heap.objs.size) ?_ (by show X.A.units+1+1+1<cLine;lia) ?_ l 0 _ _ _ _ ?_ (WL _) ?_ ag ?_ ?_ pu⟩
  ·intro z
   rcases List.mem_cons.mp z with z|z
   ·exact VT ld z
   ·exact WB (ah ho) (List.mem_singleton.mp z)
  ·exact λs' I'=>⟨rfl,.ref s.heap.objs.size,H2,I',rfl,q⟩
  ·rw[VN,<- U,hl];lia
  ·exact⟨⟨_,VW _ rfl,rfl,rfl⟩,⟨o,VI _ (keep _ _ B),G,n,J⟩⟩
  ·exact M.fpOk (VH _) (M.hok.fresh (VH _))
  ·intro m pr v hm hv
   obtain⟨b,e1,e2⟩:=al m pr hm;rw[YU]at hv;refine⟨b,?_,ai e2⟩;obtain⟨w',hw,ae⟩:=rv.get e1;rw[List.getElem?_toArray,hw]at hv;cases(show w'=VF b from ae);exact(VX hv).symm
 ·obtain⟨hz,N,rv,o,ho,G,n,J,ac⟩:=(show ObjOk X.prog X.w H s.heap p (.tup ys)from sq.ok I.hok)
  have U:=rv.length;have B:(s.heap.push {cls:=.type "dict",data:=.dict #[]}).get? p=some o:=VI _ ho;refine U4 (YZ (s:={s with heap:=s.heap.push {cls:=.type "dict",data:=.dict #[]} }) ⟨o,B,G⟩ ?_);rw[if_pos (by decide)];refine U4 (kT (s:={s with heap:=s.heap.push {cls:=.type "dict",data:=.dict #[]} }) B G J ac (I.ok.hd hc) λh' tk keep=>?_);simp only[Option.isNone_none,if_true];refine U4 (YW (U4 (Y5 (s:={s with heap:=h',toks:=tk}) (items:=N.toArray) ⟨o,keep _ _ B,G,n,J⟩ ?_)));have M:Inv X pins σ (upd H s.heap.objs.size Y) {s with heap:=h',toks:=tk}:=IK.kept (t':=tk) keep;have ag:Inv X pins σ (upd H s.heap.objs.size Y) {s with heap:=h'.push {cls:=.type "tuple_iterator",data:=.fields #[.ref p,.int 0 0]},toks:=tk}:=M.kept (t':=tk) λb o e=>VI _ e
  have lp:p<h'.objs.size:=VE (keep _ _ B);have ld:s.heap.objs.size<h'.objs.size:=VE (keep _ _ n1);have W:=Walks.tuple (prog:=X.prog) (w:=X.w) (A:=X.A.in1.in1) (I.ok.hd hc) h'.objs.size p (VT lp) N.toArray;refine U7 ⟨XU bT _,g7 (X:=X) (pins:=pins) (σ:=σ) (H2:=H2) W (d:=s.heap.objs.size) ?_ (by show X.A.units+1+1+1<cLine;lia) ?_ l 0 _ _ _ _ ?_ (WL _) ?_ ag ?_ ?_ pu⟩
  ·intro z
   rcases List.mem_cons.mp z with z|z
   ·exact VT ld z
   ·exact WB (ah ho) (List.mem_singleton.mp z)
  ·exact λs' I'=>⟨rfl,.ref s.heap.objs.size,H2,I',rfl,q⟩
  ·rw[VN,<- U,hl];lia
  ·exact⟨⟨_,VW _ rfl,rfl,rfl⟩,⟨o,VI _ (keep _ _ B),G,n,J⟩⟩
  ·exact M.fpOk (VH _) (M.hok.fresh (VH _))
  ·intro m pr v hm hv
   obtain⟨b,e1,e2⟩:=al m pr hm;rw[YU]at hv;refine⟨b,?_,ai e2⟩;obtain⟨w',hw,ae⟩:=rv.get e1;rw[List.getElem?_toArray,hw]at hv;cases(show w'=VF b from ae);exact(VX hv).symm
end
section
variable {X:Cx}
theorem v9:CallR X (.type "dict") (λxs H Q=>∃d kvs,xs=[.ref d]/\Rd H d (.dK kvs)/\∀p,H p=none->Q (.ref p) (upd H p (.dK kvs))):=by
 intro pins s σ H xs U Q I r h;obtain⟨d,kvs,rfl,hd,q⟩:=h;obtain⟨u,rfl,J⟩:=vals1 r;cases J;obtain⟨z,y,vs,B,G⟩:=kR I.hok hd;have hz:vs.length<=VC:=by rw[<- B.length];exact z
 refine kt_call_dict (knd:=aZ X.prog X.w) y G hz λh' F M=>?_
 refine⟨.ref s.heap.objs.size,_,I.laid (t':=s.toks) (o:=.dK kvs) (λb N q=>(M.2 b (VT (VE q))).trans (VI _ q)) (VH _) ⟨z,beq_eq_false_iff_ne.mpr (VY (VT I.big)),vs,B,F⟩,rfl,q _ (I.hok.fresh (VH _))⟩
theorem MR(h:H2 q=some u)(k:∀b,b≠q->H2 b=H b):H2=upd H q u:=funext λb=>by
 by_cases e:b=q
 ·subst e;rw[aG];exact h
 ·rw[aC e];exact k b e
def nT{κ:Type}[DecidableEq κ](kvs more:List (κ×V)):List (κ×V):=more.foldl (λq B=>putK q B.1 B.2) kvs
theorem E5:∀(prs:List (Key×V)) (H:Hp) (xs:List (Key×V)),H q=some (.dK xs)->xs.length+prs.length<VC->∃H2,Puts q H (prs.map λp=>(kV p.1,p.2)) H2/\H2 q=some (.dK (nT xs prs))/\∀b,b≠q->H2 b=H b
 | [],H,xs,e,hl=>⟨H,.nil,e,λ_ _=>rfl⟩
 | p::prs,H,xs,e,hl=>by
  have J:=cV xs p.1 p.2;rw[VR]at hl;obtain⟨H2,G,F,k⟩:=E5 prs (upd H q (.dK (putK xs p.1 p.2))) (putK xs p.1 p.2) aG (by lia);exact⟨H2,.cons (DPut.k e (by lia)) G,F,λb B=>(k b B).trans (aC B)⟩
end
end My
namespace P
open PySem PySem.Spec PyProof.Rows L2
section
variable {X:Cx}{A:Av}{H:Hp}
def KA:List D->Option (List (Key×D))
 | []=>some []
 | .tup [k,v]::l=>(RO k).bind λkk=>(KA l).map λr=>(kk,v)::r
 | _=>none
def zS{κ:Type}[DecidableEq κ](l more:List (κ×D)):List (κ×D):=more.foldl (λm p=>putD m p.1 p.2) l
theorem G7{κ:Type}[DecidableEq κ]{more:List (κ×D)}{ys:List (κ×V)}(h:PP A H more ys):∀ {l:List (κ×D)} {xs:List (κ×V)},PP A H l xs->PP A H (zS l more) (My.nT xs ys):=by
 induction h with
 | nil=>intro l xs q;exact q
 | @cons p q ps qs h t ih=>
  intro l xs z;have:=ih (w9 p.1 h.2 z);rw[show zS l (p::ps)=zS (putD l p.1 p.2) ps from rfl,show My.nT xs (q::qs)=My.nT (putK xs q.1 q.2) qs from rfl,<- h.1];exact this
theorem tV:∀ {l:List D} {kvs:List (Key×D)} {xs:List V},KA l=some kvs->RepL A H l xs->∃q:List (Key×V),PP A H kvs q/\q.length=xs.length/\∀(m:Nat) (B:V×V),(q.map λp=>(kV p.1,p.2))[m]?=some B->∃b,xs[m]?=some (.ref b)/\H b=some (.tup [B.1,B.2])
 | _,kvs,_,e,.nil=>by cases e;exact⟨[],.nil,rfl,λm B h=>by simp at h⟩
 | d::l,kvs,v::xs,e,.cons h t=>by
  unfold KA at e;split at e
  ·cases ‹_::_=[]›
  ·rename_i k w l' heq
   injection heq with h1 h2
   subst h1 h2;obtain⟨N,W,e⟩:=bind_some e;obtain⟨r,M,rfl⟩:=map_some e;obtain⟨q,Y,J,U⟩:=tV M t;obtain⟨a,zs,rfl,ha,F⟩:=RepB.tup_inv (.of h);cases F with
   | @cons _ z1 _ zs1 q1 F=>
   cases F with
   | @cons _ z2 _ zs2 q2 F=>
   cases F;have G:=k7 W (.of q1);subst G;refine⟨(N,z2)::q,.cons ⟨rfl,q2⟩ Y,by simp[J],λm B h=>?_⟩;cases m with
   | zero=>simp at h;subst h;exact⟨a,rfl,ha⟩
   | succ m=>exact U m B (by simpa using h)
  ·cases e
noncomputable def KZ:D->Option (List D)
 | .lst l=>some l
 | .tup l=>some l
 | _=>none
def xD:List D->Option D
 | [.dK l]=>some (.dK l)
 | [d]=>(KZ d).bind λl=>if aW l.length then(KA l).map λkvs=>.dK (zS [] kvs)else none
 | _=>none
theorem DN(h:KZ d=some l)(r:RepB A H d v):∃p ys,v=.ref p/\My.Src X H p ys/\RepL A H l ys:=by
 cases d with
 | lst m=>cases h;obtain⟨a,xs,rfl,h1,h2⟩:=r.lst_inv;exact⟨a,xs,rfl,.inl (.inl h1),h2⟩
 | tup m=>cases h;obtain⟨a,xs,rfl,h1,h2⟩:=r.tup_inv;exact⟨a,xs,rfl,.inr (.inl h1),h2⟩
 | _=>cases h
theorem UJ(h:aW n=true):0+n<VC:=by rw[YU];exact lJ h
theorem DK(hc:X.calm=true)(hu:X.A.units+64<cLine):zU X (.type "dict") xD:=by
 intro pins s σ H xs U Q I r h;obtain⟨A,ds,d,Y,W,e,q⟩:=h;unfold xD at e;split at e
 ·cases e
  obtain⟨v,rfl,h1⟩:=W.one;obtain⟨a,ys,rfl,h2,N,r3⟩:=h1.dK_inv;exact My.v9 pins s σ H _ U Q I r ⟨a,ys,rfl,h2,λp J=>q p _ (Ext.new J) J (λz=>Y p z J) (.dK aG N (r3.fresh J))⟩
 ·obtain⟨l,e1,e⟩:=bind_some e
  split at e
  ·rename_i hz
   obtain⟨kvs,e2,rfl⟩:=map_some e;obtain⟨v,rfl,h1⟩:=W.one;obtain⟨p,ys,rfl,src,F⟩:=DN (X:=X) e1 h1;obtain⟨B,pp,hl,hm⟩:=tV e2 F;have G:=F.length;refine My.wQ hc hu pins s σ H _ U Q I r ⟨p,ys,B.map λp=>(kV p.1,p.2),rfl,src,by rw[VD];exact hl,λm pr h=>?_,λa M=>?_⟩
   ·obtain⟨b,x1,x2⟩:=hm m pr h
    exact⟨b,x1,.inl (.inl x2)⟩
   ·obtain⟨H2,pu,N,k⟩:=My.E5 B (upd H a (.dK [])) [] aG (by rw[hl,G];exact UJ hz)
    have eH:H2=upd H a (.dK (My.nT [] B)):=My.MR N λb hb=>(k b hb).trans (aC hb)
    obtain⟨f1,f2⟩:=zQ (G7 pp (Paired.nil));refine⟨H2,.inl pu,?_⟩;rw[eH];exact q a _ (Ext.new M) M (λz=>Y a z M) (.dK aG f1 (f2.fresh M))
  ·cases e
 ·cases e
end
end P
namespace My
open PySem PySem.Spec PyProof.Rows L2 PySem.SeqAt
section
variable {X:Cx}
end
end My
namespace P
open PySem PySem.Spec PyProof.Rows L2
section
variable {X:Cx}{O:List Nat}
end
section
variable {X:Cx}{O:List Nat}{e:Expr}{es:List Expr}
theorem vM(B:PD X O e f)(q:oF X O es g)(hs:isStar e=false:=by rfl):oF X O (e::es) (aH f g):=CB B q (cR hs)
theorem O6(B:PB X O e f)(q:oV X O es g)(hs:isStar e=false:=by rfl):oV X O (e::es) (aH f g):=uF B q (cR hs)
theorem lc(h:Len g n):Len (aH f g) (n+1):=CI h
theorem l0:Len bQ 0:=GV
variable {x:Str}{id T:String}{g:List D->Option D}{f:Lv}{p pos:Pos}
theorem cB(B:jD X (.builtin id) g)(G:X.mg x=none)(F:V7 x=some (.builtin id))(N:oV X O (e::es) f)(J:Gl X x:=by rfl)(M:x ≠ "__name__" := by decide)(q:(x == ("__debug__" : Str))=false:=by decide)(hs:isStar e=false:=by rfl)(U:(es.all λe=>!isStar e)=true:=by rfl) :
  PD X O (.Call (.Name x p) (e::es) [] pos) (a6 g f):=CY B J G F N M q (cR hs) (iW U)
theorem O4(B:jD X (.type T) g)(G:X.mg x=none)(F:V7 x=some (.type T))(N:oV X O (e::es) f)(J:Gl X x:=by rfl)(M:x ≠ "__name__" := by decide)(q:(x == ("__debug__" : Str))=false:=by decide)(hs:isStar e=false:=by rfl)(U:(es.all λe=>!isStar e)=true:=by rfl) :
  PD X O (.Call (.Name x p) (e::es) [] pos) (a6 g f):=BF B J G F N M q (cR hs) (iW U)
theorem UF(B:zU X (.type T) g)(G:X.mg x=none)(F:V7 x=some (.type T))(N:oV X O (e::es) f)(J:Gl X x:=by rfl)(M:x ≠ "__name__" := by decide)(q:(x == ("__debug__" : Str))=false:=by decide)(hs:isStar e=false:=by rfl)(U:(es.all λe=>!isStar e)=true:=by rfl) :
  PF X O (.Call (.Name x p) (e::es) [] pos) (a6 g f):=z5 B J G F N M q (cR hs) (iW U)
theorem cD(O':Fn X.prog X.w X.K X.mg X.base x k ps F)(G:Room k X.A)(M:oF X O (e::es) f)(B:Len f ps.length)(J:Gl X x:=by rfl)(q:(x == ("__debug__" : Str))=false:=by decide)(hs:isStar e=false:=by rfl)(N:(es.all λe=>!isStar e)=true:=by rfl) :
  PD X O (.Call (.Name x p) (e::es) [] pos) (a6 F f):=HM O' G J M B q (cR hs) (iW N)
theorem cn{L:Lp}{O1 O2 O3:List Nat}{st:Stmt}{q:List Stmt}{f g:Sv}(h:PSD X L O1 st f O2)(k:PSDs X L O2 q g O3):PSDs X L O1 (st::q) (c6 f g) O3:=DW h k
end
def U1(P:VB)(w:World)(K:U6)(mg:Str->Option Value)(base:Heap)(N:List Str)(x:Str)(st:Stmt)(k:Nat)(b:Sv):Prop:=
 ∀(fa:Addr) (cdv:Value) (A:VJ) (outer:List Env) (s:U5) (H:Hp) (E:XK),Room k (A.deeper (V9 x (aE st) s.heap.objs.size fa cdv))->∃g,PSDs (gE sP P w K mg base N x (aE st) fa cdv A outer s H E).nox ⟨[],[]⟩ [] (a9 st) g []/\g=b
end P
namespace My
open PySem PySem.Spec PyProof.Rows L2 PySem.SeqAt
theorem args_max1(a:Value):argsOk "max" ⟨[a],[]⟩:=by unfold argsOk;kernel_rfl
section
variable {prog:VB}{w:World}{A:VJ}{R:Result->U5->Prop}{I S:Addr}{fp wr:List Addr}{n:Nat}{P:Nat->Value->Prop}{St:Nat->Heap->Prop}
theorem wK(W:Walks prog w A.in1 I fp wr n P St)(val:Nat->Int)(hv:∀j v,P j v->∃t,v=.int (val j) t)(N:S∉fp)(st:St 0 s.heap)
  (Y:s.heap.get? S=some {cls:=.type "list",dict:=none,data:=.seq #[] c,slots:=#[]}) (lt:0<n)
  (fin:∀t' h' tk,(∀b o,b∉wr->b≠S->s.heap.get? b=some o->h'.get? b=some o)->R (.ok (.ret (.int (O7 val (n-1) 1 (val 0)) t'))) {s with heap:=h',toks:=tk}) :
  XI (model prog w) A (.builtin "max.loop" ⟨[.ref I,.none,.ref S],[]⟩) R s:=by
 have nw:S∉wr:=λz=>N (W.sub _ z)
 have nm:(ZQ "max" ++ ZQ ".loop" : String) = "max.loop" := by decide
 refine YR PySem.F.entry_max_loop ?_;rw[YS ZR _];show wpAny _ A.in1 (seqItems? (.ref S) >>= λ_=>_) _ _ s;refine U4 (zab Y rfl ?_);show wpAny _ A.in1 (tryCatch (WC (.ref I)) _ >>= λ_=>_) _ _ s;refine U4 (zag (W.item 0 s _ _ lt st λv h1 tk pv J same=>?_));have B:=same S _ nw Y;obtain⟨u,rfl⟩:=hv 0 v pv;show wpAny _ A.in1 (Z8 S (λ_=>#[.int (val 0) u,.int (val 0) u]) >>= λ_=>_) _ _ _;refine U4 (ZP B rfl ?_);rw[nm];refine U7 ⟨XU ZR _,jO W val hv N (n-1) 1 _ (val 0) u _ rfl lt (W.frame _ _ _ J λb bf o U=>?_) (YO _ B rfl) λt' h2 M q=>?_⟩
 ·exact(X6 _ _ (λz:S=b=>N (z ▸ bf))).trans U
 ·exact fin t' h2 M λb o nb G U=>q b o nb G ((X6 _ _ (VY G)).trans (same b o nb U))
end
section
variable {X:Cx}
theorem vT(hc:X.calm=true)(I:Inv X pins σ H s)(hq:SqT X.K H p (ns.map V.int))(hn:ns≠[])(q:Q (.int (xS 0 ns)) H) :
  wpAny (model X.prog X.w) X.A (call (.builtin "max") [.ref p]) (EP X pins σ Q) X.xe s:=by
 have nm:(ZQ "max" ++ ZQ ".loop" : String) = "max.loop" := by decide
 obtain⟨B,U,pl,hz⟩:=I.tuple hq;have N:s.heap.IsTuple p B.toArray:=pl;obtain⟨o,Y,af,n,hd⟩:=id N;have M:p≠s.heap.objs.size:=VT (VE Y);have W:=Walks.tuple (prog:=X.prog) (w:=X.w) (A:=X.A.in1) (I.ok.hd hc) s.heap.objs.size p M B.toArray;refine kmk_tree PySem.F.kind_max PySem.F.plain_max PySem.F.entry_max (args_max1 _) ?_;show wpAny _ X.A.in1 (zbG "max" ["key", "default"] 0 ⟨[],[]⟩ >>= λ_=>_) _ _ s;refine U4 (zaH (show zbG "max" ["key", "default"] 0 ⟨[],[]⟩=pure [none,none]from rfl) ?_);refine U4 (U7 (U4 (Y5 N (U4 (wpAny_newList ?_ (WL _))))));rw[nm];refine U7 ⟨XU ZR _,?_⟩;have G:=U.length;rw[VD]at G;have sz:B.toArray.size=ns.length:=by rw[VN];exact G.symm
 have keep:∀h':Heap,(∀b o,b∉[s.heap.objs.size]->b≠(s.heap.push {cls:=.type "tuple_iterator",data:=.fields #[.ref p,.int 0 0]}).objs.size->((s.heap.push {cls:=.type "tuple_iterator",data:=.fields #[.ref p,.int 0 0]}).push (WE "list" #[] 0)).get? b=some o->h'.get? b=some o)->∀b o,s.heap.get? b=some o->h'.get? b=some o:=λh' k b o e=>by
  have lt:=VE e;refine k b o (λz=>VT lt (List.mem_singleton.mp z)) ?_ (VI _ (VI _ e));rw[size_push'];exact VT (Nat.lt_succ_of_lt lt)
 have J:0<B.toArray.size:=by
  rw[sz];exact List.length_pos_iff.mpr hn
 refine wK W (λi=>(ns[i]?).getD 0) (λi v hP=>DJ U (by simpa using hP)) (S:=(s.heap.push {cls:=.type "tuple_iterator",data:=.fields #[.ref p,.int 0 0]}).objs.size) ?_ ?_ (VW _ rfl) J λt' h' tk same=>?_
 ·rw[size_push']
  intro z;rcases List.mem_cons.mp z with z|z
  ·exact WB (zbn _) z
  ·exact XG _ (ZF (zbn _) ((List.mem_singleton.mp z) ▸ VE Y))
 ·exact⟨⟨_,VI _ (VW _ rfl),rfl,rfl⟩,N.at λo e=>VI _ (VI _ e)⟩
 ·refine⟨.int (xS 0 ns),H,I.kept (t':=tk) (keep h' same),⟨t',?_⟩,q⟩
  rw[sz];cases ns with
  | nil=>exact absurd rfl hn
  | cons x xs=>
   rw[tP (x::xs) _ 1 _ (by simp)];rfl
theorem MW(F:∀v s,¬ X.xe v s)(G:PSs X body t):PS X (.Try body (h₀::hs) [] [] pos) t:=λpins s σ H D I hw=>
 wpAny_Try_except (WR (G pins s σ H D I hw) (λf B q=>by
  cases f with
  | next=>exact U7 q
  | _=>exact q) λv B z=>absurd z (F v B))
end
end My
namespace P
open PySem PySem.Spec PyProof.Rows L2
section
variable {X:Cx}{O O':List Nat}{L:Lp}
theorem IH(q:∀v s,¬ X.xe v s)(B:PSDs X L O body f O'):PSD X L O (.Try body (h₀::hs) [] [] pos) f O':=My.MW q B
def u6:List D->Option D
 | [.tup l]=>(eV l).bind λns=>if ns=[]then none else some (.int (My.xS 0 ns))
 | _=>none
theorem HG(B:X.calm=true):jD X (.builtin "max") u6:=by
 intro pins s σ H xs N Q I r h;obtain⟨A,ds,d,U,J,e,q⟩:=h;unfold u6 at e;split at e
 ·rename_i l
  obtain⟨ns,G,e⟩:=bind_some e;split at e
  ·cases e
  ·rename_i hn
   cases e;obtain⟨v,rfl,h1⟩:=J.one;obtain⟨a,ys,rfl,h2,F⟩:=h1.tup_inv;rw[eN G F]at h2;obtain⟨u,rfl,M⟩:=vals1 r;cases M;exact My.vT B I (.inl (.inl h2)) hn (q _ H (Ext.refl _ _) (.int _))
 ·cases e
@[simp] theorem q_max1:u6 [.tup (.int n::ns.map .int)]=some (.int (My.xS 0 (n::ns))):=by
 have e:eV (.int n::ns.map .int)=some (n::ns):=jY (n::ns);show(eV (.int n::ns.map .int)).bind _=_;rw[e];rfl
end
end P
namespace My
open PySem PySem.Spec PyProof.Rows L2
def xY(r M N:R2)(ta tb tc td:TE):TE:=λσ H Q=>ta σ H λx H1=>tb σ H1 λy H2=>r x y H2 λz q=>∃k,z=.bl k /\
 (if k=true then tc σ q λF U=>M y F U λW B=>∃G,W=.bl G/\(if G=true then td σ B λu J=>N F u J Q else Q (.bl false) B)else Q (.bl false) q)
theorem BP(ho:OpR X (VM op) r)(q:OpR X (VM op') r')(G:OpR X (VM op3) F)(ha:PE X a ta)(hb:PE X b tb)(hc:PE X c tc)(hd:PE X d td)
  (hm:Y7 [op,op',op3] [b,c,d]=false:=by with_unfolding_all rfl):PT X (.Compare a [op,op',op3] [b,c,d] pos) (FQ (xY r r' F ta tb tc td)):=by
 intro pins s σ H Q I h;refine isTrue_chain (bG (ha pins s σ H _ I h) λv s1 ⟨x,H1,I1,r1,q1⟩=>test_link (bG (hb pins s1 σ H1 _ I1 q1) λu s2 ⟨y,H2,I2,r2,q2⟩=>
  bG (ho pins s2 σ H2 x y v u _ I2 r1 r2 q2) λd s3 ⟨z,N,I3,F,k,e,W⟩=>?_)) hm
 subst e;cases F;refine XJ ?_;cases k with
 | false=>
  obtain⟨k',B,J⟩:=W;cases B;exact ite_ff ⟨N,I3,J⟩
 | true=>
  refine ite_tt (test_link (bG (hc pins s3 σ N _ I3 W) λM s4 ⟨y',H4,I4,Y,q4⟩=>bG (q pins s4 σ H4 y y' u M _ I4 r2 Y q4) λd2 s5 ⟨z2,H5,U,r5,k2,e2,q5⟩=>?_));subst e2;cases r5;refine XJ ?_;cases k2 with
  | false=>
   obtain⟨k',B,J⟩:=q5;cases B;exact ite_ff ⟨H5,U,J⟩
  | true=>
   refine ite_tt (test_last (bG (hd pins s5 σ H5 _ U q5) λw2 s6 ⟨z',H6,I6,r6,q6⟩=>bG (G pins s6 σ H6 y' z' M w2 _ I6 Y r6 q6) λd' s7 ⟨z3,H7,I7,r7,k3,e3,q7⟩=>?_));subst e3;cases r7;exact XJ ⟨H7,I7,q7⟩
end My
namespace P
open PySem PySem.Spec PyProof.Rows L2
section
variable {X:Cx}{O:List Nat}
def lC(g g' M:D->D->Option D)(q B G fd:Ev):Ev:=λρ=>(q ρ).bind λx=>(B ρ).bind λy=>(g x y).bind λz=>(xT z).bind λb=>if b=true then(G ρ).bind λw=>(g' y w).bind λF=>(xT F).bind λJ=>if J=true then(fd ρ).bind λu=>M w u else some (.bl false)else some (.bl false)
@[simp] theorem q_chain3:lC g g' g3 fa fb fc fd ρ=(fa ρ).bind λx=>(fb ρ).bind λy=>(g x y).bind λz=>(xT z).bind λb=>if b=true then(fc ρ).bind λw=>(g' y w).bind λq=>(xT q).bind λB=>if B=true then(fd ρ).bind λu=>g3 w u else some (.bl false)else some (.bl false):=rfl
theorem vX(h:tD Rep O (lC g g' g3 fa fb fc fd) σ H Q):My.xY (rD g) (rD g') (rD g3) (tD RepB O fa) (tD RepB O fb) (tD RepB O fc) (tD RepB O fd) σ H Q:=by
 obtain⟨H0,A0,A,E,ρ,d,st,e,q⟩:=h;obtain⟨x,ex,e⟩:=bind_some e;obtain⟨y,ey,e⟩:=bind_some e;obtain⟨z,ez,e⟩:=bind_some e;obtain⟨b,eb,e⟩:=bind_some e;rw[eE eb]at ez;refine⟨H0,A0,A,E,ρ,x,st,ex,λv H1 M r1=>⟨H0,A0,A,E,ρ,y,st.mono M,ey,λw H2 J r2=>⟨A,x,y,_,(st.mono (M.trans J)).live,r1.ext J,r2,ez,λz H3 Y r3=>⟨b,RepB.bl_inv (.of r3),?_⟩⟩⟩⟩;have B:=(M.trans J).trans Y;cases b with
 | false=>rw[if_neg VL]at e ⊢;cases e;exact q _ H3 B (.bl _)
 | true=>
  rw[if_pos rfl]at e ⊢;obtain⟨u,eu,e⟩:=bind_some e;obtain⟨z2,G,e⟩:=bind_some e;obtain⟨b2,U,e⟩:=bind_some e;rw[eE U]at G;refine⟨H0,A0,A,E,ρ,u,st.mono B,eu,λz' H4 W r4=>⟨A,y,u,_,(st.mono (B.trans W)).live,r2.ext (Y.trans W),r4,G,λz2 H5 x5 r5=>⟨b2,RepB.bl_inv (.of r5),?_⟩⟩⟩;have F:=(B.trans W).trans x5;cases b2 with
  | false=>rw[if_neg VL]at e ⊢;cases e;exact q _ H5 F (.bl _)
  | true=>
   rw[if_pos rfl]at e ⊢;obtain⟨t,et,e⟩:=bind_some e;exact⟨H0,A0,A,E,ρ,t,st.mono F,et,λz6 H6 N r6=>⟨A,u,t,d,(st.mono (F.trans N)).live,r4.ext (x5.trans N),r6,e,λz7 H7 x7 r7=>q z7 H7 ((F.trans N).trans x7) r7⟩⟩
theorem wL(G:fT X (VM op) g)(q:fT X (VM op') g')(B:fT X (VM op3) g3)(N:PB X O a fa)(F:PB X O b fb)(J:PB X O c fc)(hd:PB X O d fd)
  (M:Y7 [op,op',op3] [b,c,d]=false:=by with_unfolding_all rfl):jU X O (.Compare a [op,op',op3] [b,c,d] pos) (lN (lC g g' g3 fa fb fc fd)):=PT.mono (My.BP G q B N F J hd M) λσ H Q h=>vX (fG h)
end
end P
namespace My
open PySem PySem.Spec PyProof.Rows L2
def F9(i j:Int):Prop:=(-(10^250*10^250)<i/\i<10^250*10^250)/\-(10^250*10^250)<j/\j<10^250*10^250
theorem uS(h1:-(10^250*10^250)<i)(h2:i<10^250*10^250):Builtin.Int.intBits i<=2^20:=by
 have h:i.natAbs<10^250*10^250:=by lia
 have e:(10:Nat)^250*10^250<=2^(4*250+4*250):=by
  rw[Nat.pow_add,Nat.pow_mul];have:(10:Nat)^250<=(2^4)^250:=Nat.pow_le_pow_left (by decide) 250;exact Nat.mul_le_mul this this
 exact WM (PyProof.Rows.intBits_le (WQ h e)) (by decide)
theorem IV:OpR X (WD .Mult) (rI F9 λi j=>.int (i*j)):=R7 λ_ _ _ _ _ _ _ B q=>mul_int q (IntMulOk.of_bits (uS B.1.1 B.1.2) (uS B.2.1 B.2.2))
end My
namespace P
open PySem PySem.Spec PyProof.Rows L2
instance:∀i j,Decidable (My.F9 i j):=λi j=>by unfold My.F9;infer_instance
def E2:D->D->Option D:=B5 λi j=>if My.F9 i j then some (.int (i*j))else none
open Classical in
def cZ:D->D->Option D:=B5 λi j=>if My.F9 i j then some (.int (i*j))else none
theorem y8:cZ=E2:=by
 unfold cZ E2;congr 1
theorem HY:fT X (WD .Mult) cZ:=by rw[y8];exact sI My.IV
theorem eU(h:-(10^250*10^250)<i)(h1:i<10^250*10^250)(h2:-(10^250*10^250)<j)(q:j<10^250*10^250):cZ (.int i) (.int j)=some (.int (i*j)):=by
 rw[y8];exact if_pos ⟨⟨h,h1⟩,h2,q⟩
end P
namespace My
open PySem PySem.Spec PyProof.Rows L2 PySem.SeqAt
section
variable {X:Cx}
end
end My
namespace P
open PySem PySem.Spec PyProof.Rows L2
section
variable {X:Cx}{O Oi:List Nat}
end
end P
namespace My
open PySem PySem.Spec PySem.Calls PySem.W PySem.Builtin PySem.Builtin.ObjectAttr PySem.Builtin.Getset_descriptor
section
variable {prog:VB}{w:World}{A:VJ}{E:Value->U5->Prop}{h:Heap}{g:Array GenState}{d:Drawn}{t:Nat}{os:OsState}{a C:Addr}{o:Obj}{K:Frag}
end
end My
namespace My
open PySem PySem.Spec PyProof.Rows L2 PySem.SeqAt
section
variable {l:List Env}{fs fr:List Addr}{h0 h1 h:Heap}{e C:Addr}{H H1:Hp}{P:VB}{w:World}
end
section
variable {X:Cx}{pins:List (Addr×Obj)}{σ:L2.St}{H:Hp}{s:U5}{ea:Addr}{oe:Obj}
end
end My
namespace My
open PySem PySem.Spec PyProof.Rows L2 PySem.SeqAt PySem.W
section
variable {X:Cx}{pins:List (Addr×Obj)}{σ:L2.St}{H:Hp}{s:U5}
theorem any_cons{K:U6}{t c:Value}{cs:List Value}(h:ZW K t c=some false)(r:zaT K t cs=some false):zaT K t (c::cs)=some false:=by
 unfold zaT;rw[h];exact r
end
end My
namespace P
open PySem PySem.Spec PyProof.Rows L2
section
variable {X:Cx}{L:Lp}{O O2 O':List Nat}
end
section
variable {X:Cx}{O:List Nat}
end
end P
namespace My
open PySem PySem.Spec PyProof.Rows L2 PySem.SeqAt
section
variable {X:Cx}
def US(cs:List V):TA:=λ_ H Q=>Q cs H
def PO(X:Cx)(B:Addr)(es:List Expr):Prop:=∃cs:List V,PA X es (US cs)/\(cs.length=es.length)/\∀q,Vals cs q->zaT X.K (.ref B) q=some false
end
end My
namespace P
open PySem PySem.Spec PyProof.Rows L2
section
variable {X:Cx}{L:Lp}{O O':List Nat}
end
end P
namespace My
open PySem PySem.Spec PyProof.Rows L2 PySem.SeqAt
end My
namespace P
open PySem PySem.Spec PyProof.Rows L2
section
variable {X:Cx}{L:Lp}{O O':List Nat}
end
section
variable {X:Cx}{L:Lp}{O O' O2:List Nat}
end
section
variable {X:Cx}{L:Lp}{O O' O2:List Nat}{Z:List Nat}
def dCat:D->D->Option D
 | .lst l,.lst m=>if aW (l.length+m.length)=true then some (.lst (l++m))else none
 | _,_=>none
theorem L5(ha:PB X O a fa)(U:PB X O b fb):PF X O (.BinOp a .Add b pos) (bC dCat fa fb):=
 PE.mono (FJ yT ha U) <| by
  rintro σ H Q ⟨H0,A0,A,E,ρ,d,st,e,q⟩;obtain⟨x,ex,e⟩:=bind_some e;obtain⟨y,Y,e⟩:=bind_some e;refine⟨H0,A0,A,E,ρ,x,st,ex,λv H1 F N=>⟨H0,A0,A,E,ρ,y,st.mono F,Y,λw H2 B W=>?_⟩⟩;unfold dCat at e;split at e
  ·rename_i _ l m _
   by_cases hz:aW (l.length+m.length)=true
   ·rw[if_pos hz]at e
    cases e;obtain⟨a,xs,rfl,h1,J⟩:=(N.ext B).lst_inv;obtain⟨b,ys,rfl,h2,M⟩:=W.lst_inv;have s2:=(st.mono F).mono B;exact⟨a,b,xs,ys,rfl,rfl,h1,h2,by rw[J.length,M.length];exact cI hz,λp G=>q p _ ((F.trans B).trans (Ext.new G)) ((F.trans B).free G) (λz=>s2.live p z G) (.lst aG ((J.append M).fresh G))⟩
   ·rw[if_neg hz]at e;cases e
  ·cases e
end
end P
namespace My
open PySem PySem.Spec PyProof.Rows L2
section
variable {X:Cx}
end
end My
namespace P
open PySem PySem.Spec PyProof.Rows L2
section
variable {X:Cx}
end
end P
namespace My
open PySem PySem.Spec PyProof.Rows L2
inductive Ents(w:World)(mg:Str->Option Value):List XO->List (Str×Str)->Prop
 | nil:Ents w mg [] []
 | cons {key fn:Str} {t:Tok} {f:Addr} {es:List XO} {l:List (Str×Str)} (hm:mg fn=some (.ref f)) (h:Ents w mg es l):Ents w mg (⟨YG w key,.str key t,.ref f⟩::es) ((key,fn)::l)
structure DictAt(w:World)(K:U6)(mg:Str->Option Value)(x:Str)(l:List (Str×Str)):Prop where
 ex:∃(a:Addr) (o:Obj) (es:List XO) (ep:Nat),mg x=some (.ref a)/\K.lookup a=some o/\o.ExactDict/\o.data=.dict es.toArray ep/\Ents w mg es l/\(l.map (·.1)).Nodup
def B0(mg:Str->Option Value)(l:List (Str×Str)):List (Key×Value):=l.map λp=>(.inr p.1,(mg p.2).getD .none)
theorem Ents.keys(h:Ents w mg es l):∀e∈es,∃k,(aZ P w).is k e.key=true/\e.hash=(aZ P w).hash k:=by
 induction h with
 | nil=>exact λe q=>nomatch q
 | @cons key fn t f es l hm h ih=>
  intro e q;rcases List.mem_cons.mp q with z|z
  ·subst z;exact⟨.inr key,jP key t,rfl⟩
  ·exact ih e z
theorem Ents.pairs(h:Ents w mg es l):Pairs (aZ P w) es (B0 mg l):=by
 induction h with
 | nil=>exact .nil
 | @cons key fn t f es l hm h ih=>exact .cons (jP key t) (by show VF f=(mg fn).getD .none;rw[hm];rfl) ih
theorem yI:∀ {l:List (Str×Str)},(l.find? λp=>decide (p.1=s))=some (s,fn)->mg fn=some (.ref f)->X8 (B0 mg l) (.inr s:Key)=some (.ref f)
 | [],h,_=>nomatch h
 | p::l,h,hm=>by
  unfold X8 B0;rw[VG,WZ];rw[WZ]at h;by_cases e:p.1=s
  ·have q:decide ((XF p.1:Key)=XF s)=true:=decide_eq_true (by rw[e])
   rw[decide_eq_true e]at h;cases h;simp[hm]
  ·have q:decide ((XF p.1:Key)=XF s)=false:=decide_eq_false (λz=>e (Sum.inr.inj z))
   rw[decide_eq_false e]at h;have:=yI (l:=l) h hm;unfold X8 B0 at this;simp only[q];exact this
end My
namespace P
open PySem PySem.Spec PyProof.Rows L2
section
variable {X:Cx}{O:List Nat}
noncomputable def gR(Fs:List (Str×(List D->Option D)))(k:D)(ds:List D):Option D:=match k with
 | .str s=>(Fs.find? λp=>decide (p.1=s)).bind λp=>p.2 ds
 | _=>none
def nX(B:List (Str×(List D->Option D)))(F:Ev)(q:Lv):Ev:=λρ=>(F ρ).bind λk=>(q ρ).bind λds=>gR B k ds
@[simp] theorem q_callD:nX Fs fk fa ρ=(fk ρ).bind λk=>(fa ρ).bind λds=>gR Fs k ds:=rfl
inductive Fam(X:Cx)(k n:Nat):List (Str×Str)->List (Str×(List D->Option D))->Prop
 | nil:Fam X k n [] []
 | cons {key fn:Str} {ps:List Str} {F:List D->Option D} {l:List (Str×Str)} {Fs:List (Str×(List D->Option D))} (h:Fn X.prog X.w X.K X.mg X.base fn k ps F) (hn:ps.length=n) (t:Fam X k n l Fs):Fam X k n ((key,fn)::l) ((key,F)::Fs)
theorem Fam.find(h:Fam X k n l Fs)(e:(Fs.find? λp=>decide (p.1=s))=some p):∃fn ps,(l.find? λp=>decide (p.1=s))=some (s,fn)/\Fn X.prog X.w X.K X.mg X.base fn k ps p.2/\ps.length=n:=by
 induction h with
 | nil=>cases e
 | @cons key fn ps F l Fs h hn t ih=>
  rw[WZ]at e ⊢;by_cases z:key=s
  ·subst z
   have q:decide (key=key)=true:=decide_eq_true rfl;simp only[q]at e ⊢;cases e;exact⟨fn,ps,rfl,h,hn⟩
  ·have q:decide (key=s)=false:=decide_eq_false z
   simp only[q]at e ⊢;exact ih e
theorem C4(hD:My.DictAt X.w X.K X.mg x l)(hF:Fam X k n l Fs)(hr:Room k X.A)(hg:Gl X x)(hk:PB X O ke fk)(ha:oF X O (e::es) fa)(hl:∀ρ ds,fa ρ=some ds->ds.length=n)(hs:J3 ke)
  (N:(x == ("__debug__" : Str))=false:=by decide) (M:U8 (e::es) X.env=(false,eval e X.env)::U8 es X.env:=by rfl) (ac:(VU pos (U8 es X.env)).any (·.1)=false:=by rfl)
  (hc:eval (.Call (.Subscript (.Name x p) ke sp) (e::es) [] pos) X.env=(do callWith pos (<- eval (.Subscript (.Name x p) ke sp) X.env) [] (VU pos (U8 (e::es) X.env)) (ZD pos (ZE [] X.env))):=by rfl) :
  PD X O (.Call (.Subscript (.Name x p) ke sp) (e::es) [] pos) (nX Fs fk fa):=by
 intro pins s σ H Q I ⟨H0,A0,A,E,ρ,d,st,G,q⟩;obtain⟨kd,ek,G⟩:=bind_some G;obtain⟨ds,ed,G⟩:=bind_some G;cases kd with
 | str ks=>
  obtain⟨p0,hf,eF⟩:=bind_some (show(Fs.find? λp=>decide (p.1=ks)).bind (λp=>p.2 ds)=some d from G);obtain⟨fn,ps,ad,FF,hn⟩:=hF.find hf;obtain⟨a,o,U,ep,hm,hK,hx,hd,hE,aa⟩:=hD.ex;obtain⟨f,fd,B,hb,ab,FO⟩:=My.Ok.ex FF;rw[hc];refine U4 (y9 PySem.F.slot_dict_getitem.lookup hs (rF I hg hm ?_ N));refine bG (hk pins s σ H (λv H1=>v=.str ks/\Ext A H H1) I ⟨H0,A0,A,E,ρ,_,st,ek,λv H1 J r1=>⟨r1.str_inv,J⟩⟩) λiv s2 ⟨y,H1,Y,ry,ey,J⟩=>?_
  subst ey;have dd:s2.heap.DictOf (aZ X.prog X.w) a (My.B0 X.mg l):=⟨o,U.toArray,ep,Y.kIn a o hK,hx,hd,λe M=>hE.keys e (by simpa using M),hE.pairs,by
   unfold My.B0;rw[W7];have:(l.map (·.1)).map (XF:Str->Key)=l.map ((λx=>x.1) ∘ λp=>((XF p.1:Key),(X.mg p.2).getD .none)):=by rw[W7];rfl
   rw[<- this];exact List.pairwise_map.mpr (List.Pairwise.imp (λh z=>h (Sum.inr.inj z)) aa)⟩
  refine⟨dd.typeIs,wpAny_getItem_of (oB (k:=.inr ks) ry) dd.mapOf (My.yI ad ab) ?_⟩;have I3:=λtk=>Y.tok tk
  refine PySem.W.callWith_K (h₀:=X.base) I.ok.mod.kin B (bG (ha pos pins _ σ H1 _ (Y.tok _) ⟨H0,A0,A,E,ρ,ds,st.mono J,ed,λvs H2 x2 r2=>(?_:(λvs H2=>TY ps.length p0.2 (vs++[]) H2 Q E0) vs H2)⟩) λus s4 ⟨vs,H2,I4,r,qq⟩=>⟨I4.kIn,?_⟩) M ac
  ·show TY ps.length p0.2 (vs++[]) H2 Q E0
   rw[YM];exact⟨A,ds,d,((st.mono J).mono x2).live,r2.toL,by rw[r2.length,hl ρ ds ed,hn],eF,λv H3 x3 r3=>q v H3 ((J.trans x2).trans x3) r3⟩
  ·exact FA FO hr hb .nil KR I4 r qq
 | _=>cases G
end
end P
namespace My
open PySem PySem.Spec PyProof.Rows L2
section
variable {X:Cx}
end
end My
namespace P
open PySem PySem.Spec PyProof.Rows L2
section
variable {X:Cx}{O:List Nat}
end
variable {X:Cx}{O:List Nat}{e:Expr}
mutual
def frz:D->Bool
 | .tup l=>OW l
 | .lst _=>false
 | .dK _=>false
 | .dT _=>false
 | _=>true
def OW:List D->Bool
 | []=>true
 | d::l=>frz d && OW l
end
mutual
theorem Rep.frz:Rep A H d v->P.frz d=true->Rep A' H d v
 | .non,_=>.non
 | .bl b,_=>.bl b
 | .int i,_=>.int i
 | .str s,_=>.str s
 | .tup h r,f=>.tup h (RepL.frz r f)
 | .lst n h r,f=>nomatch f
 | .dK n h e r,f=>nomatch f
 | .dT n h e r,f=>nomatch f
theorem RepL.frz:RepL A H ds vs->OW ds=true->RepL A' H ds vs
 | .nil,_=>.nil
 | .cons h t,f=>.cons (Rep.frz h (Bool.and_eq_true_iff.mp f).1) (RepL.frz t (Bool.and_eq_true_iff.mp f).2)
end
section
variable {X:Cx}{O:List Nat}
end
end P
namespace My
open PySem PySem.Spec PyProof.Rows L2
end My
namespace P
open PySem PySem.Spec PyProof.Rows L2
section
variable {X:Cx}{O:List Nat}
end
end P
namespace My
open PySem PySem.Spec PyProof.Rows L2
section
variable {prog:VB}{w:World}{A:VJ}{E:Value->U5->Prop}{s:U5}
end
end My
namespace P
open PySem PySem.Spec PyProof.Rows L2
def Fe(K:U6)(x:Str)(st:Stmt)(f:Addr):Prop:=∃fd,Fun K x x st f fd
theorem Fe.mk{K:U6}{x:Str}{st:Stmt}{f:Addr}{G:Value}{od J:Option Addr}{F:Array (Option Value)}{kV B M q ct:Value}(l:K.lookup f=some ⟨G,od,.func (XN x x (cU st) (a9 st) (aE st) .none kV B M J q ct),F⟩)(c:Y9 K q x=true)(k:YN K (.ref f)=true):Fe K x st f:=⟨_,EV l c k⟩
theorem Fe.d{K:U6}{mg:Str->Option Value}{x:Str}{st:Stmt}{f:Addr}{ps:List Str}(h:Fe K x st f)(a:mg x=some (.ref f))(q:∀(kV doc pm:Value) (an:Option Addr) (cdv ct:Value) (us:List Value),us.length=ps.length->bindArgs (XN x x (cU st) (a9 st) (aE st) .none kV doc pm an cdv ct) ⟨us,[]⟩=pure (ps.zip us)):My.DefAt K mg x st ps:=let ⟨fd,F⟩:=h;⟨⟨f,fd,F,F.binds q,a⟩⟩
section
variable {X:Cx}{L:Lp}{O O':List Nat}
theorem c0{O1 O3:List Nat}{st:Stmt}{q:List Stmt}{f g:Sv}(h:PSD X L O1 st f [])(k:PSDs X L [] q g O3):PSDs X L O1 (st::q) (c6 f g) O3:=cn h k
theorem ss(i:Nat)(F:X.N.Nodup)(q:PD X O e f)(hi:X.N[i]?=some x:=by rfl)(G:Loc X.env.scope x:=by exact WT rfl)(h:Sub O' (O.filter (· != i))=true:=by rfl)(hs:V3 e (some (.Name x pos')) pos.line X.env=pure false:=by rfl)(B:X.fn x=true\/X.env.scope.names.lookup x=some .local:=by first|exact .inl rfl|exact .inr rfl):PSD X L O (.Assign [.Name x pos'] e pos) (d5 i f) O':=yH F hi G q h hs B
theorem gc(h1:sO X O e g)(h2:xM X O es k)(a:(WA (e::es) X.env).map (·.2)=WU e X.env::(WA es X.env).map (·.2):=by rfl):xM X O (e::es) (aR g k):=jH (λx y=>iR x y a) h1 h2
theorem gu(n:Nat)(h:xM X O es k)(q:X.calm=true:=by rfl)(a:(WA es X.env).length=n:=by rfl)(b:List.findIdx? (λx=>x.fst) (WA es X.env)=none:=by rfl):sO X O (.Tuple es j pos) (kQ n k):=G0 (E6 q h a b)
theorem tc(F:fT X (VM op) g)(B:PB X O a fa)(q:PB X O b fb)(h1:op≠CmpOp.In:=by decide)(h2:op≠CmpOp.NotIn:=by decide):jU X O (.Compare a [op] [b] pos) (lN (bC g fa fb)):=yU F B q (EA _ h1 h2)
theorem ib{j}:PB X O (.Constant (.int n) j p) (eC (.int n)):=PD.b EL
end
end P
namespace My
open PySem PySem.Spec PyProof.Rows L2
section
variable {X:Cx}
end
end My
namespace P
open PySem PySem.Spec PyProof.Rows L2
section
variable {X:Cx}
end
section
variable {X:Cx}{O:List Nat}
end
end P
namespace HT
open PySem PySem.Spec PyProof.Rows
section
open PySem.SeqAt
open PySem.AutoSeq1 (wpAny_loadPart')
open PySem.MeetsSeq PySem.MeetsSeq2 PySem.MeetsSeq3
end
section
variable {prog:VB}{w:World}{A:VJ}{E:Value->U5->Prop}{s:U5}
end
end HT
namespace P
open PySem PySem.Spec PyProof.Rows L2
section
variable {X:Cx}
end
section
variable {X:Cx}
end
noncomputable def mon:List Int->List Int->Int
 | e::es,v::vs=>v^e.toNat*mon es vs
 | _,_=>1
def ev(vs:List Int)(F:List My.Tm):Int:=(F.map λt=>t.2*mon t.1 vs).sum
noncomputable def pw(S:Nat->Int)(a:Int):Nat->Int
 | 0=>0
 | n+1=>pw S a n+a^n*S n
noncomputable def la(k:List Int):Int:=(k.getLast?).getD 0
def fm(M:Int)(ts:List My.Tm):List My.Tm:=My.kN M (bM (My.bK ts))
section
variable {X:Cx}{L:Lp}{O O':List Nat}
theorem cO(O2:List Nat){O1 O3:List Nat}{st:Stmt}{q:List Stmt}{f g:Sv}(h:PSD X L O1 st f O2)(k:PSDs X L O2 q g O3):PSDs X L O1 (st::q) (c6 f g) O3:=cn h k
theorem wt{x1}(h:oF X O es g)(B:Len g es.length)(q:Nat.ble es.length 100=true:=by rfl):PD X O (.Tuple es x1 pos) (kX g):=EO h (λρ ds k=>by rw[B ρ ds k];exact zbp q)
theorem wl(h:oF X O es g)(B:Len g es.length)(q:Nat.ble es.length 100=true:=by rfl):PF X O (.List es pos) (sL g):=E8 h (λρ ds k=>by rw[B ρ ds k];exact zbp q)
theorem wE(O':Fn X.prog X.w X.K X.mg X.base x k ps F)(J:Room j X.A)(N:oF X O (e::es) f)(G:Len f ps.length)(M:k<=j)(B:Gl X x:=by rfl)(q:(x == ("__debug__" : Str))=false:=by decide)(hs:isStar e=false:=by rfl)(U:(es.all λe=>!isStar e)=true:=by rfl):PD X O (.Call (.Name x p) (e::es) [] pos) (a6 F f):=cD O' (J.mono M) N G B q hs U
theorem SF{e:Expr}{es:List Expr}{f:Lv}{p pos:Pos}(q:X.mg "len" = none)(B:oV X O (e::es) f)(F:Gl X "len")(hs:isStar e=false)(G:((es:List Expr).all λe=>!isStar e)=true):PD X O (.Call (.Name "len" p) (e::es) [] pos) (a6 bY f):=cB LO q My.boot_len B F (by decide) (by decide) hs G
theorem TL{e:Expr}{es:List Expr}{f:Lv}{p pos:Pos}(q:X.mg "tuple" = none)(B:oV X O (e::es) f)(F:Gl X "tuple")(hs:isStar e=false)(G:((es:List Expr).all λe=>!isStar e)=true):PD X O (.Call (.Name "tuple" p) (e::es) [] pos) (a6 dX f):=O4 eD q My.boot_tuple B F (by decide) (by decide) hs G
theorem SS{e:Expr}{es:List Expr}{f:Lv}{p pos:Pos}(q:X.mg "int" = none)(B:oV X O (e::es) f)(F:Gl X "int")(hs:isStar e=false)(G:((es:List Expr).all λe=>!isStar e)=true):PD X O (.Call (.Name "int" p) (e::es) [] pos) (a6 BY f):=O4 LZ q My.boot_int B F (by decide) (by decide) hs G
theorem SK{e:Expr}{es:List Expr}{f:Lv}{p pos:Pos}(q:X.mg "list" = none)(B:oV X O (e::es) f)(F:Gl X "list")(hs:isStar e=false)(G:((es:List Expr).all λe=>!isStar e)=true):PF X O (.Call (.Name "list" p) (e::es) [] pos) (a6 jC f):=UF JF q My.boot_list B F (by decide) (by decide) hs G
theorem TH{e:Expr}{es:List Expr}{f:Lv}{p pos:Pos}(q:X.calm=true)(B:X.mg "all" = none)(F:oV X O (e::es) f)(G:Gl X "all")(hs:isStar e=false)(J:((es:List Expr).all λe=>!isStar e)=true):PD X O (.Call (.Name "all" p) (e::es) [] pos) (a6 BW f):=cB (ER q) B My.boot_all F G (by decide) (by decide) hs J
theorem QC{e:Expr}{es:List Expr}{f:Lv}{p pos:Pos}(q:X.calm=true)(B:X.mg "max" = none)(F:oV X O [e] f)(G:Gl X "max")(hs:isStar e=false)(J:(([]:List Expr).all λe=>!isStar e)=true):PD X O (.Call (.Name "max" p) [e] [] pos) (a6 u6 f):=cB (HG q) B My.boot_max F G (by decide) (by decide) hs J
theorem QV{e:Expr}{f:Ev}{p p2 pos:Pos}(F:PB X O e f)(G:X.mg "isinstance" = none)(B:X.mg "int" = none)(M:Gl X "isinstance")(q:Gl X "int")(h1:U8 [e,.Name "int" p2] X.env=(false,eval e X.env)::U8 [.Name "int" p2] X.env)(h2:(VU pos (U8 [.Name "int" p2] X.env)).any (·.1)=false)(J:U8 [.Name "int" p2] X.env=(false,eval (.Name "int" p2) X.env)::U8 [] X.env):PD X O (.Call (.Name "isinstance" p) [e,.Name "int" p2] [] pos) (BZ "int" f):=wX HS M G q B My.boot_int F (by decide) (by decide) h1 h2 J
theorem MD{e:Expr}{f:Ev}{p p2 pos:Pos}(F:PB X O e f)(G:X.mg "isinstance" = none)(B:X.mg "bool" = none)(M:Gl X "isinstance")(q:Gl X "bool")(h1:U8 [e,.Name "bool" p2] X.env=(false,eval e X.env)::U8 [.Name "bool" p2] X.env)(h2:(VU pos (U8 [.Name "bool" p2] X.env)).any (·.1)=false)(J:U8 [.Name "bool" p2] X.env=(false,eval (.Name "bool" p2) X.env)::U8 [] X.env):PD X O (.Call (.Name "isinstance" p) [e,.Name "bool" p2] [] pos) (BZ "bool" f):=wX CO M G q B My.boot_bool F (by decide) (by decide) h1 h2 J
theorem LI{e:Expr}{f:Ev}{p p2 pos:Pos}(F:PB X O e f)(G:X.mg "isinstance" = none)(B:X.mg "list" = none)(M:Gl X "isinstance")(q:Gl X "list")(h1:U8 [e,.Name "list" p2] X.env=(false,eval e X.env)::U8 [.Name "list" p2] X.env)(h2:(VU pos (U8 [.Name "list" p2] X.env)).any (·.1)=false)(J:U8 [.Name "list" p2] X.env=(false,eval (.Name "list" p2) X.env)::U8 [] X.env):PD X O (.Call (.Name "isinstance" p) [e,.Name "list" p2] [] pos) (BZ "list" f):=wX DD M G q B My.boot_list F (by decide) (by decide) h1 h2 J
theorem U3{e:Expr}{lo hi:Option Expr}{p2 pos:Pos}{f:Ev}{a b:Ov}(q:PB X O e f)(F:LB X O lo a)(B:LB X O hi b):PD X O (.Subscript e (.Slice lo hi none p2) pos) (KD kY f a b):=D2 SQ q F B
theorem UK{a b:Expr}{pos:Pos}{q B:Ev}(G:X.A.units+1<cLine)(J:PB X O a q)(F:PB X O b B)(hs:rA b:=by exact λ_ _=>rfl):PD X O (.Subscript a b pos) (bC aF q B):=G4 G J F hs
theorem SE{a b:Expr}{pos:Pos}{q B:Ev}{j:Nat}(G:Room j X.A)(M:PB X O a q)(F:PB X O b B)(J:YK .In b=false):jU X O (.Compare a [.In] [b] pos) (lN (bC J5 q B)):=yU (OJ G.units) M F J
theorem U2{a b:Expr}{op:CmpOp}{pos:Pos}{g:D->D->Option D}{q B:Ev}(G:fT X (VM op) g)(J:PB X O a q)(F:PB X O b B)(h1:op≠CmpOp.In)(h2:op≠CmpOp.NotIn):PD X O (.Compare a [op] [b] pos) (bC g q B):=M8 G J F (EA _ h1 h2)
theorem UY{o e:Expr}{apos cpos:Pos}{G q:Ev}(M:PB X O o G)(N:PB X O e q)(J:ZC o "join" X.env (eval o X.env)=eval o X.env)(U:((((VU cpos (U8 [e] X.env)).all λx=>!x.fst) && (ZD cpos (ZE [] X.env)).all λx=>x.fst.isSome) && decide (([e].length+([]:List YB).length+if([]:List YB).isEmpty=true then 0 else 1)<30))=true)(W:(apos.endLine == cpos.line)=true)(B:U8 [e] X.env=(false,eval e X.env)::U8 [] X.env)(Y:((VU cpos (U8 [] X.env)).any λx=>x.fst)=false):PD X O (.Call (.Attribute o "join" apos) [e] [] cpos) (bC p7 G q):=IT M N (λa b=>zO PySem.F.plainAttrs_str PySem.F.slot_str_join PySem.F.type_str_join My.JA a b J U W B Y) B
theorem UR{o:Expr}{f:Ev}{p pos apos cpos:Pos}{j:Nat}(J:Room j X.A)(N:X.mg "sorted" = none)(B:PB X O o f)(G:X.calm=true)(U:Gl X "sorted")(h1:ZC o "items" X.env (eval o X.env)=eval o X.env)(h2:(apos.endLine == cpos.line)=true)(M:U8 [.Call (.Attribute o "items" apos) [] [] cpos] X.env=(false,eval (.Call (.Attribute o "items" apos) [] [] cpos) X.env)::U8 [] X.env)(q:(VU pos (U8 [] X.env)).any (·.1)=false):PF X O (.Call (.Name "sorted" p) [.Call (.Attribute o "items" apos) [] [] cpos] [] pos) (qB m6 f):=vO G J.units U N B (λh=>L1 PySem.F.slot_dict_items PySem.F.type_dict_items My.CW h h1 h2) M q
theorem UO{j:Nat}(q:Room j X.A):fT X (VM .Eq) d6:=PY q.units
theorem UI{j:Nat}(q:Room j X.A):fT X (VM .NotEq) KH:=PR q.units
theorem UX{j:Nat}(q:Room j X.A):fT X (VM .Lt) TZ:=NA q.units0
def At(l:List Str)(x:Str)(i:Nat):Prop:=l[i]?=some x
theorem at_(i:Nat){l:List Str}{x:Str}(h:l[i]?=some x:=by eq_refl):At l x i:=h
theorem vB{i:Nat}{x:Str}{p:Pos}(h:At X.N x i)(q:O9 X.env.scope x)(hd:(x == ("__debug__" : Str))=false)(B:(x == ("__classdict__" : Str))=false):PB X O (.Name x p) (aD i):=LK i (pv i h q hd B)
theorem vD{i:Nat}{x:Str}{p:Pos}(h:At X.N x i)(n:O.contains i=false)(q:O9 X.env.scope x)(hd:(x == ("__debug__" : Str))=false)(B:(x == ("__classdict__" : Str))=false):PD X O (.Name x p) (aD i):=NJ i (pv i h q hd B) (by simpa using n)
theorem gV{i:Nat}{x:Str}{pos:Pos}(h:At X.N x i)(n:O.contains i=false)(B:X.N.Nodup)(F:Loc X.env.scope x)(q:X.fn x=true\/X.env.scope.names.lookup x=some .local):sO X O (.Name x pos) (aJ i):=iQ (i8 B h F q) n
theorem aL(i:Nat)(q:PD X O e f:=by trivial)(F:X.N.Nodup:=by assumption)(hi:X.N[i]?=some x:=by rfl)(G:Loc X.env.scope x:=by first|exact WT rfl|exact W0 rfl)(h:Sub O' (O.filter (· != i))=true:=by rfl)(hs:V3 e (some (.Name x pos')) pos.line X.env=pure false:=by rfl)(B:X.fn x=true\/X.env.scope.names.lookup x=some .local:=by first|exact .inl rfl|exact .inr rfl):PSD X L O (.Assign [.Name x pos'] e pos) (d5 i f) O':=yH F hi G q h hs B
theorem cJ(i:Nat)(F:PF X O e f:=by trivial)(J:X.N.Nodup:=by assumption)(hi:X.N[i]?=some x:=by rfl)(q:Loc X.env.scope x:=by first|exact WT rfl|exact W0 rfl)(h:Sub O' (i::O)=true:=by rfl)(G:O.contains i=false:=by rfl)(hs:V3 e (some (.Name x pos')) pos.line X.env=pure false:=by rfl)(B:X.fn x=true\/X.env.scope.names.lookup x=some .local:=by first|exact .inl rfl|exact .inr rfl):PSD X L O (.Assign [.Name x pos'] e pos) (d5 i f) O':=CC J hi q F h G hs B
theorem oA(i:Nat)(G:PD X O e f:=by trivial)(q:PE X o (hW i):=by exact pv _)(M:mem O i=true:=by rfl)(J:ZC o "append" X.env (eval o X.env)=eval o X.env:=by rfl)(N:((((VU cpos (U8 [e] X.env)).all λx=>!x.fst) && (ZD cpos (ZE [] X.env)).all λx=>x.fst.isSome) && decide (([e].length+([]:List YB).length+if([]:List YB).isEmpty=true then 0 else 1)<30))=true:=by rfl)(U:(apos.endLine == cpos.line)=true:=by rfl)(B:U8 [e] X.env=(false,eval e X.env)::U8 [] X.env:=by rfl)(W:((VU cpos (U8 [] X.env)).any λx=>x.fst)=false:=by rfl)(hs:V3 (.Call (.Attribute o "append" apos) [e] [] cpos) none pos.line X.env=pure false:=by rfl)(h:Sub O' O=true:=by rfl):PSD X L O (.Expr (.Call (.Attribute o "append" apos) [e] [] cpos) pos) (F3 i f) O':=vS q G M (zO zbq PySem.F.slot_list_append PySem.F.type_list_append pM q (cA (PD.pe G) hJ (hs:=B)) J N U B W) hs h
theorem a8(q:PD X O e f:=by trivial):PSDs X L O [.Return (some e) pos] (LA f) O':=aM (IB q)
theorem F8(B:PSDs X L O a f O')(q:PSDs X L O b k O')(F:jU X O c g:=by trivial):PSD X L O (.If c a b pos) (GJ g f k) O':=xB F B q
theorem fO(q:PSDs X L O a f O')(B:jU X O c g:=by trivial)(h:Sub O' O=true:=by rfl):PSD X L O (.If c a [] pos) (GJ g f O0) O':=xB B q (x8 h)
theorem SN{st:Stmt}:PSDs X L O [st] JW O':=aM AI
theorem cK{c:Expr}{st:Stmt}{pos:Pos}{g:Bv}(q:jU X O c g:=by trivial)(h:Sub O' O=true:=by rfl):PSD X L O (.If c [st] [] pos) (GJ g JW O0) O':=xB q SN (x8 h)
theorem cP(O1 q:List Nat)(B:PSDs X ⟨q,O1⟩ O1 body b O1)(hi:PDI X O tg iter f:=by trivial)(J:sO X O1 tg g:=by trivial)(M:Y4 (model X.prog X.w) X.A X.env X.xe:=by exact PassesOwn.never)(F:X.calm=true:=by rfl)(h1:Sub O1 O=true:=by rfl)(h2:Sub O' O1=true:=by rfl)(G:Sub O' q=true:=by rfl)(hs:∀x,W4 iter X.env x=pure x:=by intro _;rfl):PSD X L O (.For tg iter body [] pos) (oS f g b) O':=G3 M F hi J B h1 h2 G hs
theorem PN(O1 q:List Nat)(B:PSDs X ⟨q,O1⟩ O1 body b O1)(F:jU X O1 c g:=by trivial)(J:Y4 (model X.prog X.w) X.A X.env X.xe:=by exact PassesOwn.never)(h1:Sub O1 O=true:=by rfl)(h2:Sub O' O1=true:=by rfl)(G:Sub O' q=true:=by rfl):PSD X L O (.While c body [] pos) (sF g b) O':=BS J F B h1 h2 G
theorem qA(i:Nat)(J:PD X O value fe:=by trivial)(N:PB X O k fk:=by trivial)(G:X.A.units+1<cLine:=by assumption)(B:PE X o (hW i):=by exact pv _)(F:mem O i=true:=by rfl)(h:Sub O' O=true:=by rfl)(hs:V3 value (some (.Subscript o k pos')) pos.line X.env=pure false:=by rfl)(q:XZ [.Subscript o k pos'] value pos.line X.env=pure false:=by rfl)(hw:X0 [.Subscript o k pos'] value X.env=pure none:=by rfl)
  (M:∀ {to ti:TE} {t:xO},PE X o to->PE X k ti->B1 X t->PG X (.Subscript o k pos') (F4 to ti t):=by intro _ _ _ a b c;exact rZ a b c):PSD X L O (.Assign [.Subscript o k pos'] value pos) (BX i fk fe) O':=GS G B N J F h hs q hw M
theorem nN(q:PB X O e f:=by trivial)(hs:V3 e none pos.line X.env=pure false:=by rfl)(h:Sub O' O=true:=by rfl):PSD X L O (.Expr e pos) (FI f) O':=CP q hs h
theorem dZ(σ:U5)(N:List Str)(ms:List (Option Nat))(hi:PDI X O tg iter it:=by trivial)(M:∀C s H fp,N.Nodup->sO (My.aN X N scope (cY X.env.cells scope.names []) C s H fp) [] tg g:=by intros;trivial)(J:∀C s H fp,My.vN (My.aN X N scope (cY X.env.cells scope.names []) C s H fp) ifs (tDT [] c):=by intros;trivial)(G:∀C s H fp,PD (My.aN X N scope (cY X.env.cells scope.names []) C s H fp) [] elt f:=by intros;trivial)
  (B:X.env.cells=YC (σ.heap.objs.size+1) X.env.scope.names []:=by rfl) (q:bJ X scope N ms:=by repeat' first|exact WX|exact rfl|exact WT rfl|constructor) (Y:N.Nodup:=by decide)
  (F:X.calm=true:=by rfl) (W:scope.kind=.function:=by rfl) (h:qM scope.names X.env.scope.names=true:=by rfl) (U:(ms.all λo=>match o with|some i=>!O.contains i|none=>true)=true:=by rfl) (hs:∀x,W4 iter X.env x=pure x:=by intro _;rfl):PF X O (.ListComp elt [⟨tg,iter,ifs,0⟩] scope pos) (dW ms it g c f):=G6 F (nV W h B) q U hi (λC s H fp=>M C s H fp Y) J G hs
theorem sC(i:Nat)(σ:U5)(N:List Str)(ms:List (Option Nat))(hi:PDI X O tg iter it:=by trivial)(hg:∀C s H fp,N.Nodup->sO (My.aN X N scope (cY X.env.cells scope.names []) C s H fp) [] tg g:=by intros;trivial)(ht:∀C s H fp,My.vN (My.aN X N scope (cY X.env.cells scope.names []) C s H fp) ifs (tDT [] c):=by intros;trivial)(Y:∀C s H fp,PD (My.aN X N scope (cY X.env.cells scope.names []) C s H fp) [] elt f:=by intros;trivial)
  (J:X.env.cells=YC (σ.heap.objs.size+1) X.env.scope.names []:=by rfl) (G:bJ X scope N ms:=by repeat' first|exact WX|exact rfl|exact WT rfl|constructor) (hN:N.Nodup:=by decide)
  (U:X.calm=true:=by rfl) (hk:scope.kind=.function:=by rfl) (h:qM scope.names X.env.scope.names=true:=by rfl) (hn:(ms.all λo=>match o with|some i=>!O.contains i|none=>true)=true:=by rfl) (hs:∀x,W4 iter X.env x=pure x:=by intro _;rfl)
  (hX:X.N.Nodup:=by assumption) (B:X.N[i]?=some x:=by rfl) (M:Loc X.env.scope x:=by first|exact WT rfl|exact W0 rfl) (q:Sub O' (O.filter (· != i))=true:=by rfl) (F:V3 (.ListComp elt [⟨tg,iter,ifs,0⟩] scope pos) (some (.Name x pos')) spos.line X.env=pure true:=by rfl) (W:X.fn x=true\/X.env.scope.names.lookup x=some .local:=by first|exact .inl rfl|exact .inr rfl) :
  PSD X L O (.Assign [.Name x pos'] (.ListComp elt [⟨tg,iter,ifs,0⟩] scope pos) spos) (d5 i (dW ms it g c f)) O':=D8 hX B M U (nV hk h J) G hn hi (λC s H fp=>hg C s H fp hN) ht Y q hs F W
theorem IQ(i:Nat)(σ:U5)(N:List Str)(ms:List (Option Nat))(hi:PDI X O tg iter it:=by trivial)(U:∀C s H fp,N.Nodup->sO (My.aN X N scope (cY X.env.cells scope.names []) C s H fp) [] tg g:=by intros;trivial)(ht:∀C s H fp,My.vN (My.aN X N scope (cY X.env.cells scope.names []) C s H fp) ifs (tDT [] c):=by intros;trivial)(he:∀C s H fp,PD (My.aN X N scope (cY X.env.cells scope.names []) C s H fp) [] elt f:=by intros;trivial)
  (M:X.env.cells=YC (σ.heap.objs.size+1) X.env.scope.names []:=by rfl) (G:bJ X scope N ms:=by repeat' first|exact WX|exact rfl|exact WT rfl|constructor) (hN:N.Nodup:=by decide)
  (Y:X.calm=true:=by rfl) (hk:scope.kind=.function:=by rfl) (h:qM scope.names X.env.scope.names=true:=by rfl) (hn:(ms.all λo=>match o with|some i=>!O.contains i|none=>true)=true:=by rfl) (hs:∀x,W4 iter X.env x=pure x:=by intro _;rfl)
  (hX:X.N.Nodup:=by assumption) (B:X.N[i]?=some x:=by rfl) (W:Loc X.env.scope x:=by first|exact WT rfl|exact W0 rfl) (q:Sub O' (i::O)=true:=by rfl) (J:O.contains i=false:=by rfl) (F:V3 (.ListComp elt [⟨tg,iter,ifs,0⟩] scope pos) (some (.Name x pos')) spos.line X.env=pure true:=by rfl) (hf:X.fn x=true\/X.env.scope.names.lookup x=some .local:=by first|exact .inl rfl|exact .inr rfl) :
  PSD X L O (.Assign [.Name x pos'] (.ListComp elt [⟨tg,iter,ifs,0⟩] scope pos) spos) (d5 i (dW ms it g c f)) O':=BM hX B W Y (nV hk h M) G hn hi (λC s H fp=>U C s H fp hN) ht he q J hs F hf
end
theorem fx{Q:VB}{w:World}{K:U6}{mg:Str->Option Value}{base:Heap}{x:Str}{k:Nat}{ps:List Str}{F:List D->Option D}(B:List D->Option D)(h:Fn Q w K mg base x k ps F)(e:F=B:=by rfl):Fn Q w K mg base x k ps B:=e ▸ h
noncomputable def OK:List Str->(List Value->Prop)->Prop
 | [],Q=>Q []
 | _::ps,Q=>∀u,OK ps λus=>Q (u::us)
theorem HB{ps:List Str}{Q:List Value->Prop}(h:OK ps Q){q:List Value}(e:q.length=ps.length):Q q:=by
 induction ps generalizing q Q with
 | nil=>rw[List.length_eq_zero_iff.mp e];exact h
 | cons a ps ih=>
  cases q with
  | nil=>cases e
  | cons u q=>exact ih (h u) (Nat.succ.inj e)
def Bd(st:Stmt)(x:Str)(ps:List Str):Prop:=∀(kV doc pm:Value) (an:Option Addr) (cdv ct:Value),OK ps λq=>bindArgs (XN x x (cU st) (a9 st) (aE st) .none kV doc pm an cdv ct) ⟨q,[]⟩=pure (ps.zip q)
def De(K:U6)(x:Str)(st:Stmt):Prop:=∃f,W8 K V0 x=some (some (.ref f))/\Fe K x st f
def Des(K:U6)(tp:Nat->Stmt)(t:List (Str×Nat×List Str)):Prop:=∀p∈t,De K p.1 (tp p.2.1)
theorem Des.nil{K:U6}{tp:Nat->Stmt}:Des K tp []:=λ_ h=>nomatch h
theorem Des.cons{K:U6}{tp:Nat->Stmt}{x:Str}{i:Nat}{ps:List Str}{t:List (Str×Nat×List Str)}{f:Addr}{G:Value}{od J:Option Addr}{F:Array (Option Value)}{kV B M q ct:Value}(a:W8 K V0 x=some (some (.ref f)))(l:K.lookup f=some ⟨G,od,.func (XN x x (cU (tp i)) (a9 (tp i)) (aE (tp i)) .none kV B M J q ct),F⟩)(c:Y9 K q x=true)(k:YN K (.ref f)=true)(r:Des K tp t):Des K tp ((x,i,ps)::t):=
 zaU.2 ⟨⟨f,a,Fe.mk l c k⟩,r⟩
def Bds(tp:Nat->Stmt)(t:List (Str×Nat×List Str)):Prop:=∀p∈t,Bd (tp p.2.1) p.1 p.2.2
theorem Bds.nil:Bds tp []:=λ_ h=>nomatch h
theorem Bds.cons(a:Bd (tp i) x ps)(r:Bds tp t):Bds tp ((x,i,ps)::t):=zaU.2 ⟨a,r⟩
theorem Des.d{K:U6}{h:Heap}{mg:Str->Option Value}{tp:Nat->Stmt}{t:List (Str×Nat×List Str)}(X:K.In h)(G:h.Ns V0 mg)(D:Des K tp t)(B:Bds tp t):∀p∈t,My.DefAt K mg p.1 (tp p.2.1) p.2.2:=λp J=>let ⟨_,a,e⟩:=D p J;e.d (XX X G a) λkV q N M F ct U=>HB (B p J kV q N M F ct)
def Nos(K:U6)(t:List Str):Prop:=∀x∈t,W8 K V0 x=some none
theorem Nos.nil{K:U6}:Nos K []:=λ_ h=>nomatch h
theorem Nos.cons{K:U6}{x:Str}{t:List Str}(a:W8 K V0 x=some none)(r:Nos K t):Nos K (x::t):=zaU.2 ⟨a,r⟩
def Gis(K:U6)(t:List (Str×Int)):Prop:=∀p∈t,∃k,W8 K V0 p.1=some (some (.int p.2 k))
theorem Gis.nil{K:U6}:Gis K []:=λ_ h=>nomatch h
theorem Gis.cons{K:U6}{x:Str}{n:Int}{k:Tok}{t:List (Str×Int)}(a:W8 K V0 x=some (some (.int n k)))(r:Gis K t):Gis K ((x,n)::t):=zaU.2 ⟨⟨k,a⟩,r⟩
theorem Gis.d{K:U6}{h:Heap}{mg:Str->Option Value}{t:List (Str×Int)}(X:K.In h)(G:h.Ns V0 mg)(D:Gis K t):∀p∈t,GInt mg p.1 p.2:=λp q=>let ⟨_,a⟩:=D p q;⟨⟨_,XX X G a⟩⟩
theorem nH{w:List D}{c:Int}(h0:0<=c)(h1:c<=(w.length:Int)):cutD w none (some c)=w.take c.toNat/\cutD w (some c) none=w.drop c.toNat:=by
 have G:HT.sIx w.length w.length (some c)=c.toNat:=by
  show(if c<0 then _ else min c.toNat w.length)=_;rw[if_neg (by lia)];lia
 have B:HT.sIx w.length 0 (some c)=c.toNat:=by
  show(if c<0 then _ else min c.toNat w.length)=_;rw[if_neg (by lia)];lia
 have q:HT.sIx w.length 0 none=0:=rfl;have F:HT.sIx w.length w.length none=w.length:=rfl;unfold cutD;rw[G,B,q,F];constructor
 ·simp
 ·rw[List.take_of_length_le (by simp)]
section
variable {ρ ρ':bI}{f g:Ev}{a b:Bv}{l:Lv}{x y d r:D}{xs:List D}{i j:Int}{k:Nat}{s t:Sv}{o:Option Out}
theorem MK(h:ρ[k]?=some (some x)):aD k ρ=some x:=by unfold aD;rw[h];rfl
theorem SW:eC x ρ=some x:=rfl
theorem bV{w:D->D->Option D}(q:f ρ=some x)(F:g ρ=some y)(B:w x y=some r):bC w f g ρ=some r:=by unfold bC;rw[q,aA,F,aA,B]
theorem lA{F:List D->Option D}(h:l ρ=some xs)(k:F xs=some r):a6 F l ρ=some r:=by unfold a6;rw[h,aA,k]
theorem zB(h:f ρ=some x)(k:l ρ=some xs):aH f l ρ=some (x::xs):=by unfold aH;rw[h,aA,k,aA]
theorem EQ(h:l ρ=some xs):kX l ρ=some (.tup xs):=by unfold kX;rw[h,aB]
theorem wY(h:l ρ=some xs):sL l ρ=some (.lst xs):=by unfold sL;rw[h,aB]
theorem u5(h:f ρ=some (.int i)):kP f ρ=some (some i):=by unfold kP;rw[h,aA];rfl
theorem u9{w:D->Option Int->Option Int->Option D}{u v:Ov}{p q:Option Int}(B:f ρ=some x)(J:u ρ=some p)(F:v ρ=some q)(G:w x p q=some r):KD w f u v ρ=some r:=by unfold KD;rw[B,aA,J,aA,F,aA,G]
theorem LU(h:f ρ=some (.int i)):J7 f ρ=some (.int (-i)):=by unfold J7;rw[h,aA];rfl
theorem sE{c:Bool}(h:f ρ=some (.bl c)):lN f ρ=some c:=by unfold lN;rw[h,aA];rfl
theorem NW{c:Bool}(h:a ρ=some c):F5 a ρ=some (!c):=by unfold F5;rw[h,aB]
noncomputable def PC{α:Type}(c:Bool)(u v:α):α:=if c=true then u else v
theorem FV{q:Type}{c:Bool}{u v w:q}(h:c=true)(k:u=w):PC c u v=w:=(if_pos h).trans k
theorem oU{q:Type}{c:Bool}{u v w:q}(h:c=false)(k:v=w):PC c u v=w:=(if_neg (by rw[h];exact nofun)).trans k
theorem NL{c:Bool}{z:Option Bool}(h:a ρ=some c)(k:PC c (b ρ) (some false)=z):xN a b ρ=z:=by unfold xN;rw[h,aA];exact k
theorem P4{c:Bool}{z:Option Bool}(h:a ρ=some c)(k:PC c (some true) (b ρ)=z):RZ a b ρ=z:=by unfold RZ;rw[h,aA];exact k
theorem jA{c:Bool}(h:a ρ=some c)(k:PC c (s ρ) (t ρ)=o):GJ a s t ρ=o:=by unfold GJ;rw[h,aA];exact k
def sq(p:Out)(t:Sv):Option Out:=match p with
 | .nx ρ=>t ρ
 | p=>some p
theorem xJ{p:Out}(h:s ρ=some p)(k:sq p t=o):c6 s t ρ=o:=by unfold c6;rw[h,aA];exact k
theorem FL(k:t ρ=o):sq (.nx ρ) t=o:=k
theorem FK(h:f ρ=some x):LA f ρ=some (.rt x):=RF h
theorem fN{w:Gv}(h:f ρ=some x)(k:w x ρ=some ρ'):J9 f w ρ=some (.nx ρ'):=by unfold J9;rw[h,aA,k,aB]
theorem E3(h:aD k ρ=some (.lst xs))(e:f ρ=some x)(z:xs.length<=1000000):F3 k f ρ=some (.nx (ρ.set k (some (.lst (xs++[x]))))):=by
 unfold F3;rw[h,aA];show(f ρ).bind _=_;rw[e,aA];exact if_pos (decide_eq_true z)
theorem bL{u v:List D}(z:u.length+v.length<=1000000):aT (.lst u) (.lst v)=some (.lst (u++v)):=if_pos (decide_eq_true z)
theorem GM{u:List D}(z:u.length+1<=1000000):aT (.lst u) (.lst [x])=some (.lst (u++[x])):=bL z
theorem KY(h:d7 xs i=some x):aF (.lst xs) (.int i)=some x:=h
theorem OE(h:d7 xs i=some x):aF (.tup xs) (.int i)=some x:=h
theorem lH{ms:List (Option Nat)}{w:Gv}{ds:List D}(h:l ρ=some xs)(z:xs.length<=1000000)(e:bD w a f xs (jV ms ρ)=some ds):dW ms l w a f ρ=some (.lst ds):=by unfold dW;rw[h,aA];exact(if_pos (decide_eq_true z)).trans (by rw[e,aB])
theorem N7{w:Gv}:bD w a f [] ρ=some []:=rfl
theorem dS{w:Gv}{ds:List D}(h:w x ρ=some ρ')(k:a ρ'=some true)(e:f ρ'=some y)(r:bD w a f xs ρ'=some ds):bD w a f (x::xs) ρ=some (y::ds):=by rw[bD,h,aA,k,aA,if_pos rfl,e,aA,r,aA]
theorem cE{R:D->Prop}(h:s ρ=some (.nx ρ'))(k:∃d,t ρ'=some (.rt d)/\R d):∃d,c6 s t ρ=some (.rt d)/\R d:=by rw[aI h];exact k
theorem kO{w:Gv}(h:w x ρ=some ρ')(k:s ρ'=o):turn w s x ρ=o:=by unfold turn;rw[h,aA,k]
theorem k6{w:Gv}{Q:bI->Prop}(h:turn w s x ρ=some (.nx ρ'))(k:Q ρ'):∃ρ',turn w s x ρ=some (.nx ρ')/\Q ρ':=⟨_,h,k⟩
theorem sG{w:Gv}(h:l ρ=some xs)(k:fR w s xs ρ=o):oS l w s ρ=o:=by unfold oS;rw[h,aA,k]
theorem MB{w:Gv}:fR w s [] ρ=some (.nx ρ):=rfl
theorem kZ{w:Gv}(h:turn w s x ρ=some (.nx ρ'))(k:fR w s xs ρ'=o):fR w s (x::xs) ρ=o:=by
 unfold turn at h;obtain⟨ρ1,B,q⟩:=bind_some h;unfold fR;rw[B,aA,q,aA];exact k
theorem GX{ys:List D}(h:l ρ=some [x])(e:(qG x).map (fP 0)=some ys):zR l ρ=some ys:=by unfold zR;rw[h,aA];exact e
theorem ET(h:f ρ=some (.lst xs)):eI f ρ=some xs:=by unfold eI;rw[h,aA]
theorem KW{w:List D->Option (List D)}{ys:List D}(h:l ρ=some xs)(k:w xs=some ys):lR w l ρ=some ys:=by unfold lR;rw[h,aA,k]
theorem LH{u:Ev}{w:List D}(q:f ρ=some (.lst w))(B:g ρ=some (.int i))(F:u ρ=some (.lst [x]))(h0:0<=i)(h1:i<w.length)(G:w.length<=1000) :
  bC aT (bC aT (KD kY f qJ (kP g)) u) (KD kY f (kP (bC aT g (eC (.int 1)))) qJ) ρ=some (.lst (w.take i.toNat++x::w.drop (i.toNat+1))):=by
 obtain⟨n,rfl⟩:=zbr h0;refine(bV (bV (u9 q rfl (u5 B) rfl) F (bL ?_)) (u9 q (u5 (bV B rfl rfl)) rfl rfl) (bL ?_)).trans ?_
 all_goals rw[(nH h0 (by lia)).1]
 ·simp;lia
 ·rw[(nH (by lia) (by lia)).2];simp;lia
 ·rw[(nH (by lia) (by lia)).2];simp
end
def hide(p:Addr)(H:Hp):Hp:=λb=>if b=p then none else H b
section
variable {A A0:Av}{H H0 H':Hp}{p:Addr}
theorem hide_ne{b:Addr}(n:b≠p):hide p H b=H b:=if_neg n
theorem BK:hide p H p=none:=if_pos rfl
theorem bR{b:Addr}{u:HO}(h:hide p H b=some u):b≠p/\H b=some u:=by
 unfold hide at h;split at h
 ·cases h
 ·next n=>exact⟨n,h⟩
theorem fZ{b:Addr}{u:HO}(n:b≠p)(h:Rd H b u):Rd (hide p H) b u:=by
 rcases h with h|⟨o,h⟩
 ·exact .inl (by rw[hide_ne n];exact h)
 ·exact .inr ⟨o,by rw[hide_ne n];exact h⟩
theorem yR{b:Addr}{u:HO}(h:Rd (hide p H) b u):b≠p/\Rd H b u:=by
 rcases h with h|⟨o,h⟩
 ·exact⟨(bR h).1,.inl (bR h).2⟩
 ·exact⟨(bR h).1,.inr ⟨o,(bR h).2⟩⟩
theorem iK:Ext A (hide p H) H:=⟨λ_ _ h=>(yR h).2,λ_ _ _ h=>(bR h).2,λ_ _ _ h=>(bR h).2,λ_ _ _ h=>(bR h).2⟩
mutual
theorem Rep.hide(q:A p)(B:∀xs,H p≠some (.tup xs)){d:D}{v:V}:Rep A H d v->Rep A (hide p H) d v
 | .non=>.non
 | .bl b=>.bl b
 | .int i=>.int i
 | .str s=>.str s
 | .tup h r=>.tup (by rw[hide_ne (λz=>by subst z;exact B _ h)];exact h) (RepL.hide q B r)
 | .lst n h r=>.lst n (fZ (λz=>n (z ▸ q)) h) (RepL.hide q B r)
 | .dK n h e r=>.dK n (fZ (λz=>n (z ▸ q)) h) e (RepL.hide q B r)
 | .dT n h e r=>.dT n (fZ (λz=>n (z ▸ q)) h) e (RepL.hide q B r)
theorem RepL.hide(q:A p)(B:∀xs,H p≠some (.tup xs)){ds:List D}{vs:List V}:RepL A H ds vs->RepL A (hide p H) ds vs
 | .nil=>.nil
 | .cons h t=>.cons (Rep.hide q B h) (RepL.hide q B t)
end
abbrev T3(A:Av)(p:Addr):Av:=λb=>A b/\b≠p
abbrev Pour(A:Av)(p:Addr)(H H':Hp):Prop:=Ext (T3 A p) (hide p H) H'
theorem Own.notTup{l:D}(o:Own A H l p)(xs:List V):H p≠some (.tup xs):=by
 cases o with
 | lst h r=>rw[h];exact nofun
 | dK h e r=>rw[h];exact nofun
 | dT h e r=>rw[h];exact nofun
theorem uX(x:Pour A p H H'):Ext A (hide p H) H':=⟨x.rd,x.kp,λb u a h=>x.ow b u ⟨a,(bR h).1⟩ h,x.fz⟩
theorem Rep.pour(x:Pour A p H H')(q:A p)(B:∀xs,H p≠some (.tup xs)){d:D}{v:V}(r:Rep A H d v):Rep A H' d v:=(r.hide q B).ext (uX x)
theorem RepL.pour(x:Pour A p H H')(q:A p)(B:∀xs,H p≠some (.tup xs)){d:List D}{v:List V}(r:RepL A H d v):RepL A H' d v:=(r.hide q B).ext (uX x)
theorem g4{H2:Hp}(x:Pour A p H H')(y:Pour A p H' H2):Pour A p H H2:=by
 have q:∀ {b u},hide p H b=some u->b≠p:=λh=>(bR h).1
 refine⟨λb u h=>?_,λb u k h=>?_,λb u a h=>?_,λb o u h=>?_⟩
 ·exact y.rd b u (fZ (yR h).1 (x.rd b u h))
 ·exact y.kp b u k (by rw[hide_ne (q h)];exact x.kp b u k h)
 ·exact y.ow b u a (by rw[hide_ne (q h)];exact x.ow b u a h)
 ·exact y.fz b o u (by rw[hide_ne (q h)];exact x.fz b o u h)
theorem ST.pour{E:List Fact}{z:Nat}{σ:L2.St}{ρ:bI}{l M:D}(s:ST H0 A0 A E [z] σ H ρ)(hz:σ[z]?=some (some (.ref p)))(J:ρ[z]?=some (some l))(x:Pour A p H H')(o:Own A H' M p):ST H0 A0 A E [z] σ H' (ρ.set z (some M)):=by
 obtain⟨a,U,B,W,N⟩:=s.own z l J (List.mem_singleton.mpr rfl);rw[hz]at U;cases U;have G:=N.notTup;have n0:∀ {b},H0 b≠none->b≠p:=λh q=>h (q ▸ W)
 have lt:z<ρ.length:=(List.getElem?_eq_some_iff.mp J).1;refine⟨⟨λb u h=>?_,λb u k h=>?_,λb u a h=>?_,λb q u h=>?_⟩,s.sub,s.l0,λb F=>?_,by rw[List.length_set];exact s.len,λi d h n=>?_,λi d h n=>?_,λi j d d' b hi hj _ _ _ _=>by rw[List.mem_singleton.mp hi,List.mem_singleton.mp hj],λq Y=>?_⟩
 ·refine x.rd b u (fZ (n0 ?_) (s.ex.rd b u h))
  rcases h with h|⟨_,h⟩ <;> (rw[h];exact nofun)
 ·exact x.kp b u k (by rw[hide_ne (n0 (by rw[h];exact nofun))];exact s.ex.kp b u k h)
 ·exact x.ow b u ⟨s.sub b a,n0 (by rw[h];exact nofun)⟩ (by rw[hide_ne (n0 (by rw[h];exact nofun))];exact s.ex.ow b u a h)
 ·exact x.fz b q u (by rw[hide_ne (n0 (by rw[h];exact nofun))];exact s.ex.fz b q u h)
 ·by_cases q:b=p
  ·subst q;exact o.there
  ·cases e:H b with
   | none=>exact absurd e (s.live b F)
   | some u=>rw[x.ow b u ⟨F,q⟩ (by rw[hide_ne q];exact e)];exact nofun
 ·rcases b9 h with⟨q,_⟩|⟨q,h⟩
  ·exact absurd (List.mem_singleton.mpr q) n
  ·obtain⟨v,e,r⟩:=s.val i d h n
   exact⟨v,e,r.pour x B G⟩
 ·rcases b9 h with⟨q,e,_⟩|⟨q,_⟩
  ·cases e;exact⟨p,q ▸ hz,B,W,o⟩
  ·exact absurd (List.mem_singleton.mp n) q
 ·have:=s.ext q Y
  cases q with
  | rep d v=>exact Rep.pour x B G this
  | fz b o u=>
   have this:H b=some (.frz o u):=this;have nb:b≠p:=λq=>by
    subst q;cases N with
    | lst h r=>rw[h]at this;cases this
    | dK h e r=>rw[h]at this;cases this
    | dT h e r=>rw[h]at this;cases this
   exact x.fz b o u (by rw[hide_ne nb];exact this)
end
inductive OutQ where
 | nx (ρ:bI)|rt (d l:D)
abbrev Qv:=bI->Option OutQ
def QO(z:Nat)(p:Addr)(H0:Hp)(A0:Av)(E:List Fact)(T:Ends):OutQ->Prop
 | .nx ρ=>∀A σ H,ST H0 A0 A E [z] σ H ρ->σ[z]?=some (some (.ref p))->T.nx σ H
 | .rt d l=>∀A v H,(∀a,A0 a->A a)->A p->Ext A0 H0 H->Rep A H d v->Own A H l p->T.rt v H
inductive tQ(z:Nat)(f:Qv)(T:Ends)(σ:L2.St)(H:Hp):Prop
 | mk (H0:Hp) (A0 A:Av) (E:List Fact) (ρ:bI) (p:Addr) (out:OutQ) (st:ST H0 A0 A E [z] σ H ρ) (hz:σ[z]?=some (some (.ref p))) (e:f ρ=some out) (q:QO z p H0 A0 E T out):tQ z f T σ H
def PQ(X:Cx)(z:Nat)(st:Stmt)(f:Qv):Prop:=PS X st (tQ z f)
def KL(X:Cx)(z:Nat)(st:List Stmt)(f:Qv):Prop:=PSs X st (tQ z f)
section
variable {X:Cx}{z:Nat}
def RY:Qv:=λρ=>some (.nx ρ)
def oR(f g:Qv):Qv:=λρ=>(f ρ).bind λo=>match o with
 | .nx ρ'=>g ρ'
 | o=>some o
theorem L3:KL X z [] RY:=PSs.mono yJ <| by
 rintro T σ H ⟨H0,A0,A,E,ρ,p,B,st,hz,e,q⟩;cases e;exact q A σ H st hz
theorem aP{st:Stmt}{rest:List Stmt}{f g:Qv}(h1:PQ X z st f)(h2:KL X z rest g):KL X z (st::rest) (oR f g):=PSs.mono (uL h1 h2) <| by
 rintro T σ H ⟨H0,A0,A,E,ρ,p,G,st,hz,e,q⟩;obtain⟨o,J,e⟩:=bind_some e;refine⟨H0,A0,A,E,ρ,p,o,st,hz,J,?_⟩;cases o with
 | nx ρ'=>exact λA' M H' B F=>⟨H0,A0,A',E,ρ',p,G,B,F,e,q⟩
 | rt d l=>cases e;exact q
theorem fK{st:Stmt}{f:Qv}(h:PQ X z st f):KL X z [st] f:=yP h
def KF(c:Bv)(f g:Qv):Qv:=λρ=>(c ρ).bind λb=>if b=true then f ρ else g ρ
theorem QI{c:Expr}{a b:List Stmt}{pos:Pos}{g:Bv}{f k:Qv}(N:KL X z a f)(G:KL X z b k)(J:jU X [z] c g:=by trivial):PQ X z (.If c a b pos) (KF g f k):=PS.mono (KM J N G) <| by
 rintro T σ H ⟨H0,A0,A,E,ρ,p,B,st,hz,e,q⟩;obtain⟨b,M,e⟩:=bind_some e;refine⟨H0,A0,A,E,ρ,b,st,M,λH1 F=>?_⟩;cases b with
 | true=>rw[if_pos rfl]at e ⊢;exact⟨H0,A0,A,E,ρ,p,B,st.mono F,hz,e,q⟩
 | false=>rw[if_neg VL]at e ⊢;exact⟨H0,A0,A,E,ρ,p,B,st.mono F,hz,e,q⟩
def T2(z:Nat)(f:Ev):Qv:=λρ=>(f ρ).bind λd=>(aD z ρ).map λl=>.rt d l
theorem jS{e:Expr}{pos:Pos}{f:Ev}(G:PD X [z] e f:=by trivial):PQ X z (.Return (some e) pos) (T2 z f):=PS.mono (xF G) <| by
 rintro T σ H ⟨H0,A0,A,E,ρ,p,M,st,hz,e,q⟩;obtain⟨d,N,e⟩:=bind_some e;obtain⟨l,U,rfl⟩:=map_some e;refine⟨H0,A0,A,E,ρ,d,st,N,λv H' x r=>?_⟩;obtain⟨a,B,F,W,J⟩:=(st.mono x).own z l (aV U) (List.mem_singleton.mpr rfl);rw[hz]at B;cases B;exact q A v H' st.sub F (st.mono x).ex r J
def xK(i:Nat)(f:Ev):Qv:=λρ=>(f ρ).map λd=>.nx (ρ.set i (some d))
theorem pO{i:Nat}{st:Stmt}{f:Ev}(G:PS X st (vI (tD Rep [z] f) (fQ i)))(n:i≠z):PQ X z st (xK i f):=PS.mono G <| by
 rintro T σ H ⟨H0,A0,A,E,ρ,p,B,st,hz,e,q⟩;obtain⟨d,F,rfl⟩:=map_some e;exact⟨H0,A0,A,E,ρ,d,st,F,λv H' x r=>q A _ H' ((st.mono x).put r λh=>n (List.mem_singleton.mp h)) (by rw[dD (VY n)];exact hz)⟩
theorem L9{i:Nat}{x:Str}{e:Expr}{pos pos':Pos}{f:Ev}(G:X.N.Nodup)(hi:X.N[i]?=some x)(F:Loc X.env.scope x)(B:PD X [z] e f)(n:i≠z)
  (hs:V3 e (some (.Name x pos')) pos.line X.env=pure false:=by rfl) (q:X.fn x=true\/X.env.scope.names.lookup x=some .local:=by first|exact .inl rfl|exact .inr rfl):PQ X z (.Assign [.Name x pos'] e pos) (xK i f):=pO (rV G hi F B hs q) n
theorem JM{i:Nat}{x:Str}{F tg q:Expr}{G:List Expr}{scope:Scope}{pos pos' B:Pos}{N:List Str}{J:List (Str×Addr)}{ms:List (Option Nat)}{it:Lv}{g:Gv}{c:Bv}{f:Ev}(hN:X.N.Nodup)(M:X.N[i]?=some x)(Y:Loc X.env.scope x)
  (hc:X.calm=true) (cc:My.Clo X N scope J) (W:bJ X scope N ms) (hn:(ms.all λo=>match o with|some i=>!([z]:List Nat).contains i|none=>true)=true) (hi:PDI X [z] tg q it) (hg:∀C s H fp,sO (My.aN X N scope J C s H fp) [] tg g)
  (ht:∀C s H fp,My.vN (My.aN X N scope J C s H fp) G (tDT [] c)) (he:∀C s H fp,PD (My.aN X N scope J C s H fp) [] F f) (n:i≠z) (hs:∀x,W4 q X.env x=pure x:=by intro _;rfl)
  (U:V3 (.ListComp F [⟨tg,q,G,0⟩] scope pos) (some (.Name x pos')) B.line X.env=pure true:=by rfl) (hf:X.fn x=true\/X.env.scope.names.lookup x=some .local:=by first|exact .inl rfl|exact .inr rfl) :
  PQ X z (.Assign [.Name x pos'] (.ListComp F [⟨tg,q,G,0⟩] scope pos) B) (xK i (dW ms it g c f)):=
 pO (PS.mono (My.lB hN M Y hc cc hi hg ht he hs U hf) λT σ H w=>iS W hn _ _ _ (KQ w)) n
inductive tGz(z:Nat)(g:Gv)(v:V)(σ:L2.St)(H:Hp)(Q:L2.St->Hp->Prop):Prop
 | mk (H0:Hp) (A0 A:Av) (E:List Fact) (ρ:bI) (d:D) (ρ':bI) (p:V) (st:ST H0 A0 A E [z] σ H ρ) (hz:σ[z]?=some (some p)) (r:Rep A H d v) (e:g d ρ=some ρ') (q:∀σ',ST H0 A0 A E [z] σ' H ρ'->σ'[z]?=some (some p)->Q σ' H):tGz z g v σ H Q
inductive tGzs(z:Nat)(g:zY)(vs:List V)(σ:L2.St)(H:Hp)(Q:L2.St->Hp->Prop):Prop
 | mk (H0:Hp) (A0 A:Av) (E:List Fact) (ρ:bI) (ds:List D) (ρ':bI) (p:V) (st:ST H0 A0 A E [z] σ H ρ) (hz:σ[z]?=some (some p)) (r:RepL A H ds vs) (e:g ds ρ=some ρ') (q:∀σ',ST H0 A0 A E [z] σ' H ρ'->σ'[z]?=some (some p)->Q σ' H):tGzs z g vs σ H Q
def GG(X:Cx)(z:Nat)(tg:Expr)(g:Gv):Prop:=PG X tg (tGz z g)
def BU(X:Cx)(z:Nat)(tg:List Expr)(g:zY):Prop:=PGs X tg (tGzs z g)
theorem CL{i:Nat}{tg:Expr}(h:PG X tg (fQ i))(n:i≠z):GG X z tg (aJ i):=PG.mono h <| by
 rintro v σ H Q ⟨H0,A0,A,E,ρ,d,ρ',p,st,hz,r,e,q⟩;cases e;exact q _ (st.put r λh=>n (List.mem_singleton.mp h)) (by rw[dD (VY n)];exact hz)
theorem iI:BU X z [] gQ:=PGs.mono y4 <| by
 rintro v σ H Q ⟨H0,A0,A,E,ρ,ds,ρ',p,st,hz,r,e,q⟩;cases r with
 | nil=>cases e;exact⟨rfl,q _ st hz⟩
 | cons _ _=>cases e
theorem AX{e:Expr}{es:List Expr}{g:Gv}{k:zY}(M:∀ {t:TG} {u:KI},PG X e t->PGs X es u->PGs X (e::es) (FM t u))(h1:GG X z e g)(h2:BU X z es k):BU X z (e::es) (aR g k):=
 PGs.mono (M h1 h2) <| by
  rintro v σ H Q ⟨H0,A0,A,E,ρ,ds,ρ',p,st,hz,r,e,q⟩;cases r with
  | nil=>cases e
  | cons h t=>
   obtain⟨ρ1,J,e⟩:=bind_some e;exact⟨_,_,rfl,H0,A0,A,E,ρ,_,ρ1,p,st,hz,h,J,λG B F=>⟨H0,A0,A,E,ρ1,_,ρ',p,B,F,t,e,q⟩⟩
theorem IF{tg:Expr}{n:Nat}{k:zY}(G:PG X tg (My.OO X.K n (tGzs z k))):GG X z tg (cN n k):=PG.mono G <| by
 rintro v σ H Q ⟨H0,A0,A,E,ρ,d,ρ',p,st,hz,r,e,q⟩;cases d with
 | tup l=>
  obtain⟨a,xs,rfl,h,F⟩:=RepB.tup_inv (.of r);by_cases B:l.length=n
  ·simp only[cN,if_pos B]at e
   exact⟨a,xs,rfl,.inl (.inl (.inl h)),by rw[F.length];exact B,H0,A0,A,E,ρ,l,ρ',p,st,hz,F,e,q⟩
  ·simp only[cN,if_neg B]at e;cases e
 | lst l=>
  obtain⟨a,xs,rfl,h,F⟩:=RepB.lst_inv (.of r);by_cases B:l.length=n
  ·simp only[cN,if_pos B]at e
   exact⟨a,xs,rfl,.inr (.inl h),by rw[F.length];exact B,H0,A0,A,E,ρ,l,ρ',p,st,hz,F,e,q⟩
  ·simp only[cN,if_neg B]at e;cases e
 | _=>cases e
def J0(f:Ev)(g:Gv):Qv:=λρ=>(f ρ).bind λd=>(g d ρ).map .nx
theorem N6{tg e:Expr}{pos:Pos}{f:Ev}{g:Gv}(J:PD X [z] e f)(U:GG X z tg g)(hs:XZ [tg] e pos.line X.env=pure false:=by rfl)(hw:X0 [tg] e X.env=pure none:=by rfl)(h1:(WA [tg] X.env).map (·.2)=[WU tg X.env]:=by rfl):PQ X z (.Assign [tg] e pos) (J0 f g):=
 PS.mono (sD J U hs hw h1) <| by
  rintro T σ H ⟨H0,A0,A,E,ρ,p,M,st,hz,e,q⟩;obtain⟨d,N,e⟩:=bind_some e;obtain⟨ρ',W,rfl⟩:=map_some e;exact⟨H0,A0,A,E,ρ,d,st,N,λv H' x r=>⟨H0,A0,A,E,ρ,d,ρ',_,st.mono x,hz,r,W,λG B F=>q A G H' B F⟩⟩
def vL(z:Nat)(fk fe:Ev):Qv:=λρ=>(fe ρ).bind λe=>(fk ρ).bind λk=>(GC k).bind λk=>(aD z ρ).bind λx=>match x with
 | .lst l=>(sQ l.length k).map λj=>.nx (ρ.set z (some (.lst (l.set j e))))
 | _=>none
theorem NU{o k value:Expr}{pos pos':Pos}{W fe:Ev}(ho:PE X o (hW z))(hk:PB X [z] k W)(hv:PD X [z] value fe)(F:XZ [.Subscript o k pos'] value pos.line X.env=pure false:=by rfl)(hw:X0 [.Subscript o k pos'] value X.env=pure none:=by rfl)
  (hg:∀ {to ti:TE} {t:xO},PE X o to->PE X k ti->B1 X t->PG X (.Subscript o k pos') (F4 to ti t):=by intro _ _ _ a b c;exact rZ a b c):PQ X z (.Assign [.Subscript o k pos'] value pos) (vL z W fe):=
 PS.mono (sD hv (hg ho hk set_list) F hw) <| by
  rintro T σ H ⟨H0,A0,A,E,ρ,p,ae,st,hz,e,q⟩;obtain⟨w,ew,e⟩:=bind_some e;obtain⟨y,ey,e⟩:=bind_some e;obtain⟨kk,e5,e⟩:=bind_some e;obtain⟨x,ex,e⟩:=bind_some e;obtain⟨a,U,J,e3,e4⟩:=st.own z _ (aV ex) (List.mem_singleton.mpr rfl);cases x with
  | lst l=>
   obtain⟨j,e7,rfl⟩:=map_some e;refine⟨H0,A0,A,E,ρ,w,st,ew,λv H1 N r1=>⟨_,U,H0,A0,A,E,ρ,y,st.mono N,ey,λu H2 M Y=>?_⟩⟩;have B:=N.trans M;cases e4 with
   | @lst _ _ xs h4 r4=>
    have G:=B.ow _ _ J h4;rw[iV e5]at Y;have:=Y.int_inv;subst this;refine⟨a,xs,kk,j,rfl,rfl,G,by rw[r4.length];exact e7,?_⟩;exact q A σ _ ((st.mono B).write (o:=.lst _) (aV ex) (List.mem_singleton.mpr rfl) U J e3 G trivial (.lst aG (((r4.ext B).set j (r1.ext M)).put J G trivial))) hz
  | _=>cases e
abbrev Qe:=bI->Option (D×D)
def U0(n:Nat)(F:List D->Option (D×D)):Sp:=λvs H Q _=>∃(A:Av) (p:Addr) (v0:V) (us:List V) (d0:D) (es:List D) (l d l':D),vs=v0::.ref p::us/\us.length+2=n/\Live A H/\A p/\Rep A H d0 v0/\RepL A H es us/\Own A H l p/\F (d0::l::es)=some (d,l') /\
 ∀v H',Pour A p H H'->Own A H' l' p->Rep A H' d v->Q v H'
def FnQ(P:VB)(w:World)(K:U6)(mg:Str->Option Value)(base:Heap)(x:Str)(k:Nat)(ps:List Str)(F:List D->Option (D×D)):Prop:=My.Ok P w K mg base x k ps (U0 ps.length F)
theorem FnQ.mono{P:VB}{w:World}{K:U6}{mg:Str->Option Value}{base:Heap}{x:Str}{j k:Nat}{ps:List Str}{F:List D->Option (D×D)}(h:FnQ P w K mg base x j ps F)(l:j<=k):FnQ P w K mg base x k ps F:=My.Ok.mono h l
inductive tQE(z:Nat)(f:Qe)(σ:L2.St)(H:Hp)(Q:VK):Prop
 | mk (H0:Hp) (A0 A:Av) (E:List Fact) (ρ:bI) (p:Addr) (l d l':D) (st:ST H0 A0 A E [z] σ H ρ) (hz:σ[z]?=some (some (.ref p))) (hl:ρ[z]?=some (some l)) (e:f ρ=some (d,l')) (q:∀v H',Pour A p H H'->Own A H' l' p->Rep A H' d v->Q v H'):tQE z f σ H Q
def O8(X:Cx)(z:Nat)(e:Expr)(f:Qe):Prop:=PE X e (tQE z f)
def cM(z:Nat)(F:List D->Option (D×D))(f0:Ev)(fs:Lv):Qe:=λρ=>(f0 ρ).bind λq=>(fs ρ).bind λes=>(aD z ρ).bind λl=>F (q::l::es)
theorem DX{x:Str}{k:Nat}{ps:List Str}{F:List D->Option (D×D)}{G ep:Expr}{es:List Expr}{f0:Ev}{fs:Lv}{p pos:Pos}(O':FnQ X.prog X.w X.K X.mg X.base x k ps F)(hr:Room k X.A)(hg:Gl X x)(h0:PD X [z] G f0)(hp:PE X ep (hW z))(ha:oF X [z] es fs)(hl:∀ρ ds,fs ρ=some ds->ds.length+2=ps.length)(U:(x == ("__debug__" : Str))=false:=by decide)
  (he:U8 (G::ep::es) X.env=(false,eval G X.env)::U8 (ep::es) X.env:=by rfl) (W:U8 (ep::es) X.env=(false,eval ep X.env)::U8 es X.env:=by rfl) (Y:(VU pos (U8 (ep::es) X.env)).any (·.1)=false:=by rfl) :
  O8 X z (.Call (.Name x p) (G::ep::es) [] pos) (cM z F f0 fs):=PE.mono (My.mX O' hr hg (cA h0 (cA hp ha W) he) U he Y) λσ H Q ⟨H0,A0,A,E,ρ,p,l,d,l',st,hz,B,e,q⟩=>by
 obtain⟨d0,G,e⟩:=bind_some e;obtain⟨ds,e1,e⟩:=bind_some e;obtain⟨N,e2,e⟩:=bind_some e;have:N=l:=by have:=aV e2;rw[B]at this;cases this;rfl
 subst this;refine⟨H0,A0,A,E,ρ,d0,st,G,λv0 H1 M r1=>⟨.ref p,hz,H0,A0,A,E,ρ,ds,st.mono M,e1,λus H2 J r2=>?_⟩⟩;obtain⟨a,o1,o2,o3,o4⟩:=(st.mono (M.trans J)).own z N B (List.mem_singleton.mpr rfl);rw[hz]at o1;cases o1;obtain⟨a,w1,w2,w3,w4⟩:=st.own z N B (List.mem_singleton.mpr rfl);rw[hz]at w1;cases w1;have px:Pour A p H H2:=Ext.trans iK ((M.trans J).mono λ_ h=>h.1);exact⟨A,p,v0,us,d0,ds,N,d,l',rfl,by rw[r2.length];exact hl ρ ds e1,(st.mono (M.trans J)).live,o2,r1.ext J,r2.toL,o4,e,λv H' x o r=>q v H' (g4 px x) o r⟩
def qH(i z:Nat)(f:Qe):Qv:=λρ=>(f ρ).map λp=>.nx ((ρ.set z (some p.2)).set i (some p.1))
theorem wI{i:Nat}{st:Stmt}{f:Qe}(J:∀ρ p,f ρ=some p->∃l,ρ[z]?=some (some l))(N:PS X st (vI (tQE z f) (fQ i)))(n:i≠z):PQ X z st (qH i z f):=PS.mono N <| by
 rintro T σ H ⟨H0,A0,A,E,ρ,p,M,st,hz,e,q⟩;obtain⟨⟨d,G⟩,F,rfl⟩:=map_some e;obtain⟨l,B⟩:=J ρ _ F;exact⟨H0,A0,A,E,ρ,p,l,d,G,st,hz,B,F,λv H' x o r=>q A _ H' ((st.pour hz B x o).put r λh=>n (List.mem_singleton.mp h)) (by rw[dD (VY n)];exact hz)⟩
theorem rM{F:List D->Option (D×D)}{f0:Ev}{fs:Lv}(ρ:bI)(p:D×D)(h:cM z F f0 fs ρ=some p):∃l,ρ[z]?=some (some l):=by
 obtain⟨J,B,h⟩:=bind_some h;obtain⟨ds,G,h⟩:=bind_some h;obtain⟨l,q,h⟩:=bind_some h;exact⟨l,aV q⟩
theorem JK{i:Nat}{x:Str}{e:Expr}{pos pos':Pos}{F:List D->Option (D×D)}{f0:Ev}{fs:Lv}(J:X.N.Nodup)(hi:X.N[i]?=some x)(G:Loc X.env.scope x)(B:O8 X z e (cM z F f0 fs))(n:i≠z)
  (hs:V3 e (some (.Name x pos')) pos.line X.env=pure false:=by rfl) (q:X.fn x=true\/X.env.scope.names.lookup x=some .local:=by first|exact .inl rfl|exact .inr rfl):PQ X z (.Assign [.Name x pos'] e pos) (qH i z (cM z F f0 fs)):=wI rM (rV J hi G B hs q) n
def OU(f:Qe):Qv:=λρ=>(f ρ).map λp=>.rt p.1 p.2
theorem yE{e:Expr}{pos:Pos}{F:List D->Option (D×D)}{f0:Ev}{fs:Lv}(U:O8 X z e (cM z F f0 fs)):PQ X z (.Return (some e) pos) (OU (cM z F f0 fs)):=PS.mono (xF U) <| by
 rintro T σ H ⟨H0,A0,A,E,ρ,p,W,st,hz,e,q⟩;obtain⟨⟨d,N⟩,J,rfl⟩:=map_some e;obtain⟨l,B⟩:=rM ρ _ J;obtain⟨a,G,M,o3,Y⟩:=st.own z l B (List.mem_singleton.mpr rfl);rw[hz]at G;cases G;exact⟨H0,A0,A,E,ρ,p,l,d,N,st,hz,B,J,λv H' x o r=>q A v H' st.sub M (st.pour hz B x o).ex r o⟩
def oQ(n:Nat)(f:Qv)(ds:List D):Option (D×D):=(f (aK n ds)).bind λo=>match o with
 | .rt d l=>some (d,l)
 | .nx _=>none
theorem ST.begunQ{A:Av}{H:Hp}{N:List Str}{F l:D}{es:List D}{B:V}{p:Addr}{q:List V}(G:Live A H)(W:A p)(M:Rep A H F B)(r:RepL A H es q)(o:Own A H l p):ST (P.hide p H) (T3 A p) A [] [1] (L2.start N (B::.ref p::q)) H (aK N.length (F::l::es)) where
 ex:=iK
 sub:=λ_ h=>h.1
 l0:=λa h=>by rw[hide_ne h.2];exact G a h.1
 live:=G
 len:=by unfold L2.start aK;simp[r.length]
 val:=λi d h n=>by
  unfold aK at h;unfold L2.start
  match i with
  | 0=>cases h;exact⟨B,rfl,M⟩
  | 1=>exact absurd (List.mem_singleton.mpr rfl) n
  | i+2=>
   have h:(es.map some++VZ (N.length-(es.length+2)) none)[i]?=some (some d):=h;by_cases hi:i<es.length
   ·rw[Y8 (by simpa using hi),VV]at h
    obtain⟨d',U,e2⟩:=map_some h;cases e2;obtain⟨v,Y,J⟩:=r.get' U;refine⟨v,?_,J⟩;show(q.map some++_)[i]?=_;rw[Y8 (by rw[VD,r.length];exact hi),VV,Y];rfl
   ·rw[zar (by simpa using hi),za5]at h
    split at h <;> cases h
 own:=λi d h n=>by
  rw[List.mem_singleton.mp n]at h ⊢;cases h;exact⟨p,rfl,W,BK,o⟩
 inj:=λi j d d' a hi hj _ _ _ _=>by rw[List.mem_singleton.mp hi,List.mem_singleton.mp hj]
 ext:=λp hp=>nomatch hp
theorem N1{P:VB}{w:World}{K:U6}{mg:Str->Option Value}{base:Heap}{x:Str}{st:Stmt}{N ps:List Str}{k:Nat}{f:Qv}(Df:My.DefAt K mg x st ps)(S:FnScope N ps (aE st))
  (h:∀(M:Addr) (F:Value) (A:VJ) (B:List Env) (s:U5) (H:Hp) (E:XK),Room k (A.deeper (V9 x (aE st) s.heap.objs.size M F))->∃g,KL (gE sP P w K mg base N x (aE st) M F A B s H E).nox 1 (a9 st) g/\g=f) :
  FnQ P w K mg base x (k+1) ps (oQ N.length f):=by
 refine My.BodyOk.ok (λM F A B s H vs Q E hr G=>?_) Df S (λvs H Q E G=>by obtain⟨A,p,v0,us,d0,es,l,d,l',rfl,e,_⟩:=G;exact e);obtain⟨U,p,v0,us,d0,es,l,d,l',rfl,hl,lv,ha,r0,r,o,eF,q⟩:=G;obtain⟨J,eo,Y⟩:=bind_some eF;obtain⟨g,hg,rfl⟩:=h M F A B s H E hr;refine⟨_,hg,_root_.P.hide p H,T3 U p,U,[],_,p,J,ST.begunQ lv ha r0 r o,rfl,eo,?_⟩;cases J with
 | nx ρ=>cases Y
 | rt d' l2=>
  cases Y;intro A v H' W ap x rv ol;have le:∀a,U a->A a\/H' a=none:=λa h=>by
   by_cases z:a=p
   ·exact .inl (z ▸ ap)
   ·exact .inl (W a ⟨h,z⟩)
  exact q v H' x (ol.av le) (rv.av le)
end
section
variable {A A0:Av}{H H0 H':Hp}{p D':Addr}{E:List Fact}{z zc:Nat}{σ:L2.St}{ρ:bI}
theorem ST.innerQ{l:D}(s:ST H0 A0 A E [z] σ H ρ)(hz:σ[z]?=some (some (.ref p)))(hl:ρ[z]?=some (some l))(ms:List (Option Nat))(h1:ms[zc]?=some (some z))(h2:∀j:Nat,ms[j]?=some (some z)->j=zc) :
  ST H0 A0 A E [zc] (jV ms σ) H (jV ms ρ)/\(jV ms σ)[zc]?=some (some (.ref p)):=by
 have F:∀ {M:Type} {τ:List (Option M)} {j i:Nat} {v:M},ms[j]?=some (some i)->τ[i]?=some (some v)->(jV ms τ)[j]?=some (some v):=λ{M τ j i v} B G=>by
  unfold jV;rw[VV,B];show some ((τ[i]?).join)=_;rw[G];rfl
 refine⟨⟨s.ex,s.sub,s.l0,s.live,by simp[jV],λj d h n=>?_,λj d h n=>?_,λi j d d' a hi hj _ _ _ _=>by rw[List.mem_singleton.mp hi,List.mem_singleton.mp hj],s.ext⟩,F h1 hz⟩
 ·obtain⟨i,B,J⟩:=lF h
  obtain⟨v,G,r⟩:=s.val i d J λq=>n (List.mem_singleton.mpr (h2 j (List.mem_singleton.mp q ▸ B)))
  exact⟨v,F B G,r⟩
 ·have n:=List.mem_singleton.mp n
  subst n;obtain⟨i,B,J⟩:=lF h;rw[h1]at B;cases B;obtain⟨a,U,N,Y,W⟩:=s.own z d J (List.mem_singleton.mpr rfl);exact⟨a,F h1 U,N,Y,W⟩
theorem ST.side{u o:HO}(s:ST H0 A0 A E [z] σ H ρ)(hz:σ[z]?=some (some (.ref p)))(F:A D')(h0:H0 D'=none)(J:H D'=some u)(G:PH u)(N:D'≠p):ST H0 A0 A E [z] σ (upd H D' o) ρ:=by
 have B:∀b,H0 b≠none->b≠D':=λb U z=>U (by rw[z];exact h0)
 refine⟨⟨λb w r=>dY (B b (by rcases r with r|⟨_,r⟩ <;> (rw[r];exact nofun))) (s.ex.rd b w r),λb xs k r=>?_,λb w n r=>?_,λb q w r=>?_⟩,s.sub,s.l0,λa F=>?_,s.len,λi d h n=>?_,λi d h n=>?_,λi j d d' a hi hj _ _ _ _=>by rw[List.mem_singleton.mp hi,List.mem_singleton.mp hj],λp hp=>Fact.put F J G (s.ext p hp)⟩
 ·rw[aC (B b (by rw[r];exact nofun))];exact s.ex.kp b xs k r
 ·rw[aC (B b (by rw[r];exact nofun))];exact s.ex.ow b w n r
 ·rw[aC (B b (by rw[r];exact nofun))];exact s.ex.fz b q w r
 ·by_cases z:a=D'
  ·subst z;rw[aG];exact nofun
  ·rw[aC z];exact s.live a F
 ·obtain⟨v,h1,h2⟩:=s.val i d h n
  exact⟨v,h1,h2.put F J G⟩
 ·obtain⟨a,M,W,o3,Y⟩:=s.own i d h n
  have n:=List.mem_singleton.mp n;subst n;have q:a=p:=by rw[hz]at M;cases M;rfl
  exact⟨a,M,W,o3,Y.put F J G (λz=>N (by rw[<- z,q]))⟩
theorem t5{o:HO}(x:Pour A p H H')(n:H D'=none):Pour A p H (upd H' D' o):=by
 have B:∀b u,hide p H b=some u->b≠D':=λb u h z=>by have:=(bR h).2;rw[z,n]at this;cases this
 refine⟨λb w r=>dY ?_ (x.rd b w r),λb xs k r=>?_,λb w m r=>?_,λb q w r=>?_⟩
 ·rcases r with r|⟨_,r⟩ <;> exact B _ _ r
 ·rw[aC (B _ _ r)];exact x.kp b xs k r
 ·rw[aC (B _ _ r)];exact x.ow b w m r
 ·rw[aC (B _ _ r)];exact x.fz b q w r
theorem Pour.less{A':Av}(x:Pour A' p H H')(s:∀a,A a->A' a):Pour A p H H':=Ext.mono x λ_ h=>⟨s _ h.1,h.2⟩
end
def qC(zc:Nat)(g:Gv)(f:Qe):List D->bI->Option (List D×bI)
 | [],ρ=>some ([],ρ)
 | x::xs,ρ=>(g x ρ).bind λρ1=>(f ρ1).bind λp=>(qC zc g f xs (ρ1.set zc (some p.2))).map λr=>(p.1::r.1,r.2)
def zN(zc:Nat)(ms:List (Option Nat))(it:Lv)(g:Gv)(f:Qe):Qe:=λρ=>(it ρ).bind λitems=>if aW items.length then(qC zc g f items (jV ms ρ)).bind λr=>(aD zc r.2).map λl=>(.lst r.1,l)else none
section
variable {X:Cx}{z:Nat}
theorem AB{zc:Nat}{scope:Scope}{N:List Str}{ms:List (Option Nat)}{it:Lv}{g:Gv}{f:Qe}(a1:bJ X scope N ms)(h1:ms[zc]?=some (some z))(h2:∀j:Nat,ms[j]?=some (some z)->j=zc)(hf:∀ρ p,f ρ=some p->∃l,ρ[zc]?=some (some l))(σ:L2.St)(H:Hp)(Q:VK) :
  tQE z (zN zc ms it g f) σ H Q->My.zT (tDI [z] it) (tGz zc g) (tDT [zc] gD) (tQE zc f) (My.Start X N scope) σ H Q:=λ⟨H0,A0,A,E,ρ,p,l,d,l',st,hz,hl,e,q⟩=>by
 obtain⟨items,e1,e⟩:=bind_some e;by_cases hs:aW items.length=true
 case neg=>rw[if_neg hs]at e;cases e
 rw[if_pos hs]at e;obtain⟨⟨ds,a2⟩,e2,e⟩:=bind_some e;obtain⟨l1,e3,e⟩:=map_some e;cases e;have e3:=aV e3;obtain⟨pa,o1,o2,o3,o4⟩:=st.own z l hl (List.mem_singleton.mpr rfl);rw[hz]at o1;cases o1;refine⟨jV ms σ,uB a1 σ,H0,A0,A,E,ρ,items,st,e1,λJ H1 E1 x1 bb J1 D' hD=>?_⟩;have a4:=(st.mono x1).live;have nA:¬ A D':=λz=>a4 D' z hD
 have n0:H D'=none:=x1.free hD;have ba:H0 D'=none:=st.ex.free n0;have np:D'≠p:=λq=>nA (q ▸ o2)
 refine⟨λi m af us H2=>m=items.length-i/\i<=items.length/\∃ρ2 B rest l2,ST H0 A0 (λb=>A b\/b=D') (E1++E) [zc] af H2 ρ2/\af[zc]?=some (some (.ref p))/\ρ2[zc]?=some (some l2)/\H2 D'=some (.lst us)/\Pour A p H H2/\RepL (λb=>A b\/b=D') H2 B us/\qC zc g f (items.drop i) ρ2=some (rest,a2)/\B++rest=ds/\B.length<=i,⟨items.length,by simp,WL _,jV ms ρ,[],ds,l,?_⟩,?_⟩
 ·obtain⟨s1,az⟩:=((st.mono x1).both bb).innerQ hz hl ms h1 h2
  have up:∀a,(A a\/a=D')->A a\/H1 a=none:=λa M=>M.imp id λz=>by rw[z];exact hD
  refine⟨⟨s1.ex.trans (Ext.new hD),λa M=>.inl (s1.sub a M),s1.l0,λa M=>?_,s1.len,λi d h n=>?_,λi d h n=>?_,λi j d d' a hi hj _ _ _ _=>by rw[List.mem_singleton.mp hi,List.mem_singleton.mp hj],λp hp=>Fact.ext (Ext.new hD) (Fact.av up (s1.ext p hp))⟩,az,?_,aG,t5 (Ext.trans iK (x1.mono λ_ h=>h.1)) n0,.nil,e2,rfl,VH _⟩
  ·rcases M with M|M
   ·rw[aC (λz=>by subst z;exact nA M)];exact s1.live a M
   ·subst M;rw[aG];exact nofun
  ·obtain⟨v,h1,h2⟩:=s1.val i d h n
   exact⟨v,h1,(h2.av up).ext (Ext.new hD)⟩
  ·obtain⟨a,w1,w2,w3,w4⟩:=s1.own i d h n
   exact⟨a,w1,.inl w2,w3,(w4.av up).ext (Ext.new hD) (.inl w2)⟩
  ·unfold jV
   rw[VV,h1];show some ((ρ[z]?).join)=_;rw[hl];rfl
 ·rintro i m af us H2 ⟨rfl,b0,ρ2,B,rest,l2,s2,al,aj,ak,x2,ag,U,ed,bg⟩
  obtain⟨an,go⟩:=J1 _ H2 s2.live (λp hp=>s2.ext p (ZT _ hp)) i;by_cases W:i<items.length
  ·have eg:items[i]?=some items[i]:=by simp[W]
   obtain⟨be,hy⟩:=go _ eg;rw[zac W]at U;obtain⟨G,e4,U⟩:=bind_some U;obtain⟨⟨d,l4⟩,e6,U⟩:=bind_some U;obtain⟨⟨ab,bt⟩,e7,U⟩:=map_some U;cases U;have ao:us.length<VC:=by
    rw[ag.length];exact ZZ bg (WQ W (cI hs))
   refine .inr ⟨be,ao,λx H3 y=>?_⟩;obtain⟨x3,r3⟩:=hy x H3 y;refine⟨H0,A0,_,E1++E,ρ2,_,G,_,s2.mono x3,al,r3,e4,λco s3 F=>⟨H0,A0,_,E1++E,G,true,s3,rfl,λH5 x5=>RD ?_⟩⟩;obtain⟨l3,Y⟩:=hf G _ e6;have ac:=x3.trans x5;have bi:H5 D'=some (.lst us):=ac.ow D' _ (.inr rfl) ak;refine⟨H0,A0,_,E1++E,G,p,l3,d,l4,s3.mono x5,F,Y,e6,λv H6 px o6 r6=>?_⟩;have ad:H6 D'=some (.lst us):=px.ow D' _ ⟨.inr rfl,np⟩ (by rw[hide_ne np];exact bi);have s6:=(s3.mono x5).pour F Y px o6;obtain⟨a5,w1,w2,w3,w4⟩:=(s3.mono x5).own zc l3 Y (List.mem_singleton.mpr rfl);rw[F]at w1;cases w1;have r5:=(ag.ext ac).pour px w2 w4.notTup;have pp:Pour A p H H6:=g4 (g4 x2 (Ext.trans iK (ac.mono λ_ h=>.inl h.1))) (Pour.less px λ_ h=>.inl h);exact⟨ad,items.length-(i+1),by lia,rfl,W,G.set zc (some l4),B++[d],ab,l4,s6.side F (.inr rfl) ba ad trivial np,F,by rw[zaZ (List.getElem?_eq_some_iff.mp Y).1],aG,t5 pp n0,(r5.append (.cons r6 .nil)).put (.inr rfl) ad trivial,e7,by rw[<- ed];simp,by rw[WN];show B.length+1<=i+1;lia⟩
  ·have bh:i=items.length:=by lia
   subst bh;rw[zbm]at U;cases U;rw[YM]at ed;subst ed;rw[aj]at e3;cases e3;obtain⟨a5,w1,w2,w3,w4⟩:=s2.own zc _ aj (List.mem_singleton.mpr rfl);rw[al]at w1;cases w1;have le:∀a,A a->(A a\/a=D')\/H2 a=none:=λa h=>.inl (.inl h)
   exact .inl ⟨an (VH _),q (.ref D') H2 x2 (w4.av le) (.lst nA (.inl ak) (ag.av le))⟩
def zJ(i z zc:Nat)(ms:List (Option Nat))(it:Lv)(g:Gv)(f:Qe):Qv:=λρ=>(aD z ρ).bind λ_=>qH i z (zN zc ms it g f) ρ
theorem JN{zc i:Nat}{x:Str}{J tg B:Expr}{scope:Scope}{pos pos' G:Pos}{N:List Str}{M:List (Str×Addr)}{ms:List (Option Nat)}{it:Lv}{g:Gv}{F:List D->Option (D×D)}{f0:Ev}{fs:Lv}(hN:X.N.Nodup)(U:X.N[i]?=some x)(hx:Loc X.env.scope x)
  (hc:X.calm=true) (cc:My.Clo X N scope M) (Y:bJ X scope N ms) (h1:ms[zc]?=some (some z)) (h2:∀j:Nat,ms[j]?=some (some z)->j=zc) (hi:PDI X [z] tg B it) (hg:∀C s H fp,GG (My.aN X N scope M C s H fp) zc tg g)
  (he:∀C s H fp,O8 (My.aN X N scope M C s H fp) zc J (cM zc F f0 fs)) (n:i≠z) (hs:∀x,W4 B X.env x=pure x:=by intro _;rfl)
  (W:V3 (.ListComp J [⟨tg,B,[],0⟩] scope pos) (some (.Name x pos')) G.line X.env=pure true:=by rfl) (hf:X.fn x=true\/X.env.scope.names.lookup x=some .local:=by first|exact .inl rfl|exact .inr rfl) :
  PQ X z (.Assign [.Name x pos'] (.ListComp J [⟨tg,B,[],0⟩] scope pos) G) (zJ i z zc ms it g (cM zc F f0 fs)):=by
 have hp:PS X (.Assign [.Name x pos'] (.ListComp J [⟨tg,B,[],0⟩] scope pos) G) (vI (tQE z (zN zc ms it g (cM zc F f0 fs))) (fQ i)):=
  PS.mono (My.lB hN U hx hc cc hi hg (λ_ _ _ _=>uI) he hs W hf) λT σ H w=>AB Y h1 h2 rM _ _ _ w
 refine PS.mono hp λT σ H ⟨H0,A0,A,E,ρ,p,af,st,hz,e,q⟩=>?_
 obtain⟨l,el,e⟩:=bind_some e;obtain⟨⟨d,l'⟩,e1,rfl⟩:=map_some e;have hl:=aV el;exact⟨H0,A0,A,E,ρ,p,l,d,l',st,hz,hl,e1,λv H' x o r=>q A _ H' ((st.pour hz hl x o).put r λh=>n (List.mem_singleton.mp h)) (by rw[dD (VY n)];exact hz)⟩
end
section
variable {X:Cx}{L:Lp}{O:List Nat}
def JV(i j:Nat)(g:Lv):Sv:=λρ=>(g ρ).bind λds=>match ds with
 | [d,e]=>some (.nx ((ρ.set i (some d)).set j (some e)))
 | _=>none
theorem FT(i j:Nat){x y:Str}{a b:Expr}{f:Lv}{B q pt pos:Pos}{kt k2 pt2}(ha:oF X O [a,b] f:=by trivial)(hN:X.N.Nodup:=by assumption)(ni:O.contains i=false:=by rfl)(nj:O.contains j=false:=by rfl)(hi:X.N[i]?=some x:=by rfl)(hj:X.N[j]?=some y:=by rfl)(F:i≠j:=by decide)(W:X.calm=true:=by rfl)
  (M:X.env.scope.names.lookup x=some .local:=by rfl) (hy:X.env.scope.names.lookup y=some .local:=by rfl)
  (hw:X0 [.Tuple [.Name x B,.Name y q] kt pt] (.Tuple [a,b] k2 pt2) X.env=pure (some [x,y]):=by rfl)
  (hs:XZ [.Tuple [.Name x B,.Name y q] kt pt] (.Tuple [a,b] k2 pt2) pos.line X.env=pure false:=by rfl) :
  PSD X L O (.Assign [.Tuple [.Name x B,.Name y q] kt pt] (.Tuple [a,b] k2 pt2) pos) (JV i j f) O:=PS.mono (OC W hN hi hj F M hy ha hw hs) λT σ H ⟨H0,A0,A,E,ρ,Y,st,e,p⟩=>by
 have no:∀ {k:Nat},O.contains k=false->k∉O:=λ{k} h z=>by
  have:O.contains k=true:=by simpa using z
  rw[h]at this;cases this
 obtain⟨ds,G,e⟩:=bind_some e
 match ds,e,G with
 | [d,d'],e,G=>
  cases e;refine⟨H0,A0,A,E,ρ,_,st,G,λvs H1 U J=>?_⟩;cases J.toL with
  | cons h t=>cases t with
   | cons h' t=>cases t;exact⟨_,_,rfl,p A _ H1 (((st.mono U).put h (no ni)).put h' (no nj))⟩
end
section
variable {X:Cx}{O:List Nat}
theorem ST.add{H0:Hp}{A0 A:Av}{E:List Fact}{σ:L2.St}{H H':Hp}{ρ:bI}{a:Addr}(s:ST H0 A0 A E O σ H ρ)(x:Ext A H H')(n:H a=none)(h:H' a≠none):ST H0 A0 (λb=>A b\/b=a) E O σ H' ρ:=by
 have B:∀b,(A b\/b=a)->A b\/H b=none:=λb q=>q.imp id λz=>by rw[z];exact n
 have F:Ext (λb=>A b\/b=a) H H':=⟨x.rd,x.kp,λb u m e=>m.elim (λm=>x.ow b u m e) (λm=>by subst m;rw[n]at e;cases e),x.fz⟩;have s':=s.mono x;refine⟨s'.ex,λb q=>.inl (s.sub b q),s.l0,λb q=>?_,s.len,λi d e k=>?_,λi d e k=>?_,s.inj,λp M=>Fact.ext F (Fact.av B (s.ext p M))⟩
 ·rcases q with q|q
  ·exact s'.live b q
  ·rw[q];exact h
 ·obtain⟨v,h1,h2⟩:=s.val i d e k
  exact⟨v,h1,(h2.av B).ext F⟩
 ·obtain⟨b,h1,h2,G,J⟩:=s.own i d e k
  exact⟨b,h1,.inl h2,G,(J.av B).ext F (.inl h2)⟩
def sH(F:List D->Option (D×D))(f0 fl:Ev)(fs:Lv):Ev:=λρ=>(f0 ρ).bind λd0=>(fl ρ).bind λl=>(fs ρ).bind λes=>match l with
 | .lst _=>(F (d0::l::es)).map (·.1)
 | _=>none
theorem DF{x:Str}{k:Nat}{ps:List Str}{F:List D->Option (D×D)}{G el:Expr}{es:List Expr}{f0 fl:Ev}{fs:Lv}{p pos:Pos}(O':FnQ X.prog X.w X.K X.mg X.base x k ps F)(hr:Room k X.A)(hg:Gl X x)(h0:PD X O G f0)(hp:PF X O el fl)(ha:oF X O es fs)(hl:∀ρ ds,fs ρ=some ds->ds.length+2=ps.length)(W:(x == ("__debug__" : Str))=false:=by decide)
  (he:U8 (G::el::es) X.env=(false,eval G X.env)::U8 (el::es) X.env:=by rfl) (aa:U8 (el::es) X.env=(false,eval el X.env)::U8 es X.env:=by rfl) (ac:(VU pos (U8 (el::es) X.env)).any (·.1)=false:=by rfl) :
  PD X O (.Call (.Name x p) (G::el::es) [] pos) (sH F f0 fl fs):=PE.mono (My.mX O' hr hg (cA h0 (cA hp ha aa) he) W he ac) λσ H Q ⟨H0,A0,A,E,ρ,d,st,e,q⟩=>by
 obtain⟨U,G,e⟩:=bind_some e;obtain⟨l,e1,e⟩:=bind_some e;obtain⟨ds,e2,e⟩:=bind_some e;cases l with
 | lst l=>
  obtain⟨⟨d',l'⟩,e3,rfl⟩:=map_some e;refine⟨H0,A0,A,E,ρ,U,st,G,λv0 H1 M r1=>⟨H0,A0,A,E,ρ,.lst l,st.mono M,e1,λa H2 B n na o=>?_⟩⟩;cases o with
  | @lst _ _ xs h r=>
   have s2:=(st.mono M).add B n (by rw[h];exact nofun);refine⟨H0,A0,_,E,ρ,ds,s2,e2,λus H3 J r3=>?_⟩;have n0:H a=none:=M.free n;have Y:Ext (λb=>A b\/b=a) H1 H2:=⟨B.rd,B.kp,λb u m e=>m.elim (λm=>B.ow b u m e) (λm=>by subst m;rw[n]at e;cases e),B.fz⟩;have r0:Rep (λb=>A b\/b=a) H3 U v0:=((r1.av λb hb=>hb.imp id λz=>by rw[z];exact n).ext Y).ext J;have h3:H3 a=some (.lst xs):=J.ow a _ (.inr rfl) h;refine⟨λb=>A b\/b=a,a,v0,us,U,ds,.lst l,d',l',rfl,by rw[r3.length];exact hl ρ ds e2,(s2.mono J).live,.inr rfl,r0,r3.toL,.lst h3 (r.ext J),e3,λv H' x o r=>?_⟩
   ·have N:=(M.trans B).trans (J.mono λ_ h=>.inl h)
    have ne:∀ {b u},H b=some u->b≠a:=λh z=>by rw[z,n0]at h;cases h
    refine q v H' ⟨λb u h=>?_,λb u k h=>?_,λb u m h=>?_,λb o u h=>?_⟩ (r.av λb hb=>.inl (.inl hb))
    ·exact x.rd b u (fZ (by rcases h with h|⟨_,h⟩ <;> exact ne h) (N.rd b u h))
    ·exact x.kp b u k (by rw[hide_ne (ne h)];exact N.kp b u k h)
    ·exact x.ow b u ⟨.inl m,ne h⟩ (by rw[hide_ne (ne h)];exact N.ow b u m h)
    ·exact x.fz b o u (by rw[hide_ne (ne h)];exact N.fz b o u h)
 | _=>cases e
end
section
variable {X:Cx}{z:Nat}
theorem cS(i:Nat){x:Str}{e:Expr}{pos pos':Pos}{f:Ev}(B:PD X [z] e f:=by trivial)(G:X.N.Nodup:=by assumption)(hi:X.N[i]?=some x:=by rfl)(F:Loc X.env.scope x:=by first|exact WT rfl|exact W0 rfl)(n:i≠z:=by decide)(hs:V3 e (some (.Name x pos')) pos.line X.env=pure false:=by rfl)(q:X.fn x=true\/X.env.scope.names.lookup x=some .local:=by first|exact .inl rfl|exact .inr rfl):PQ X z (.Assign [.Name x pos'] e pos) (xK i f):=L9 G hi F B n hs q
theorem i7(i:Nat)(σ:U5)(N:List Str)(ms:List (Option Nat)){x:Str}{pos' B:Pos}{F tg q:Expr}{G:List Expr}{scope:Scope}{pos:Pos}{it:Lv}{g:Gv}{c:Bv}{f:Ev}(hi:PDI X [z] tg q it:=by trivial)(hg:∀C s H fp,N.Nodup->sO (My.aN X N scope (cY X.env.cells scope.names []) C s H fp) [] tg g:=by intros;trivial)(ht:∀C s H fp,My.vN (My.aN X N scope (cY X.env.cells scope.names []) C s H fp) G (tDT [] c):=by intros;trivial)(he:∀C s H fp,PD (My.aN X N scope (cY X.env.cells scope.names []) C s H fp) [] F f:=by intros;trivial)
  (W:X.env.cells=YC (σ.heap.objs.size+1) X.env.scope.names []:=by rfl) (U:bJ X scope N ms:=by repeat' first|exact WX|exact rfl|exact WT rfl|constructor) (hN:N.Nodup:=by decide)
  (hc:X.calm=true:=by rfl) (hk:scope.kind=.function:=by rfl) (h:qM scope.names X.env.scope.names=true:=by rfl) (hn:(ms.all λo=>match o with|some i=>!([z]:List Nat).contains i|none=>true)=true:=by rfl) (hs:∀x,W4 q X.env x=pure x:=by intro _;rfl)
  (hX:X.N.Nodup:=by assumption) (J:X.N[i]?=some x:=by rfl) (Y:Loc X.env.scope x:=by first|exact WT rfl|exact W0 rfl) (n:i≠z:=by decide) (M:V3 (.ListComp F [⟨tg,q,G,0⟩] scope pos) (some (.Name x pos')) B.line X.env=pure true:=by rfl) (hf:X.fn x=true\/X.env.scope.names.lookup x=some .local:=by first|exact .inl rfl|exact .inr rfl) :
  PQ X z (.Assign [.Name x pos'] (.ListComp F [⟨tg,q,G,0⟩] scope pos) B) (xK i (dW ms it g c f)):=JM hX J Y hc (nV hk h W) U hn hi (λC s H fp=>hg C s H fp hN) ht he n hs M hf
theorem nK{o k value:Expr}{pos pos':Pos}{F B:Ev}(J:PD X [z] value B:=by trivial)(N:PB X [z] k F:=by trivial)(G:PE X o (hW z):=by exact pv _)(q:XZ [.Subscript o k pos'] value pos.line X.env=pure false:=by rfl)(hw:X0 [.Subscript o k pos'] value X.env=pure none:=by rfl)
  (M:∀ {to ti:TE} {t:xO},PE X o to->PE X k ti->B1 X t->PG X (.Subscript o k pos') (F4 to ti t):=by intro _ _ _ a b c;exact rZ a b c):PQ X z (.Assign [.Subscript o k pos'] value pos) (vL z F B):=NU G N J q hw M
theorem u7{c:Expr}{a:List Stmt}{pos:Pos}{g:Bv}{f:Qv}(q:KL X z a f)(B:jU X [z] c g:=by trivial):PQ X z (.If c a [] pos) (KF g f RY):=QI q L3 B
theorem gz(i:Nat){x:Str}{pos:Pos}(B:X.N.Nodup:=by assumption)(hi:X.N[i]?=some x:=by rfl)(F:Loc X.env.scope x:=by first|exact WT rfl|exact W0 rfl)(q:X.fn x=true\/X.env.scope.names.lookup x=some .local:=by first|exact .inl rfl|exact .inr rfl|assumption)(n:i≠z:=by decide):GG X z (.Name x pos) (aJ i):=CL (i8 B hi F q) n
theorem qN{e:Expr}{es:List Expr}{g:Gv}{k:zY}(h1:GG X z e g)(h2:BU X z es k)(a:(WA (e::es) X.env).map (·.2)=WU e X.env::(WA es X.env).map (·.2):=by rfl):BU X z (e::es) (aR g k):=AX (λx y=>iR x y a) h1 h2
theorem R5(n:Nat){es:List Expr}{j:Nat}{pos:Pos}{k:zY}(h:BU X z es k)(q:X.calm=true:=by rfl)(a:(WA es X.env).length=n:=by rfl)(b:List.findIdx? (λx=>x.fst) (WA es X.env)=none:=by rfl):GG X z (.Tuple es j pos) (cN n k):=IF (My.hU q h a b)
theorem rQ{tg e:Expr}{pos:Pos}{f:Ev}{g:Gv}(B:GG X z tg g)(q:PD X [z] e f:=by trivial)(hs:XZ [tg] e pos.line X.env=pure false:=by rfl)(hw:X0 [tg] e X.env=pure none:=by rfl)(h1:(WA [tg] X.env).map (·.2)=[WU tg X.env]:=by rfl):PQ X z (.Assign [tg] e pos) (J0 f g):=N6 q B hs hw h1
theorem vK{x:Str}{k j m:Nat}{ps:List Str}{F:List D->Option (D×D)}{q ep:Expr}{es:List Expr}{f0:Ev}{fs:Lv}{p pos:Pos}(O':FnQ X.prog X.w X.K X.mg X.base x k ps F:=by assumption)(N:Room j X.A:=by assumption)(h0:PD X [z] q f0:=by trivial)(hp:PE X ep (hW z):=by exact pv _)(ha:oF X [z] es fs:=by trivial)(M:Len fs m:=by trivial)(W:m+2=ps.length:=by rfl)(Y:k<=j:=by trivial)(hg:Gl X x:=by rfl)(G:(x == ("__debug__" : Str))=false:=by decide)
  (U:U8 (q::ep::es) X.env=(false,eval q X.env)::U8 (ep::es) X.env:=by rfl) (J:U8 (ep::es) X.env=(false,eval ep X.env)::U8 es X.env:=by rfl) (B:(VU pos (U8 (ep::es) X.env)).any (·.1)=false:=by rfl) :
  O8 X z (.Call (.Name x p) (q::ep::es) [] pos) (cM z F f0 fs):=DX (O'.mono Y) N hg h0 hp ha (λρ ds h=>by rw[M ρ ds h];exact W) G U J B
theorem k9(i:Nat){x:Str}{e:Expr}{pos pos':Pos}{F:List D->Option (D×D)}{f0:Ev}{fs:Lv}(B:O8 X z e (cM z F f0 fs))(J:X.N.Nodup:=by assumption)(hi:X.N[i]?=some x:=by rfl)(G:Loc X.env.scope x:=by first|exact WT rfl|exact W0 rfl)(n:i≠z:=by decide)
  (hs:V3 e (some (.Name x pos')) pos.line X.env=pure false:=by rfl) (q:X.fn x=true\/X.env.scope.names.lookup x=some .local:=by first|exact .inl rfl|exact .inr rfl):PQ X z (.Assign [.Name x pos'] e pos) (qH i z (cM z F f0 fs)):=JK J hi G B n hs q
theorem yY(i:Nat)(σ:U5)(N:List Str)(ms:List (Option Nat))(zc:Nat){x:Str}{G tg q:Expr}{scope:Scope}{pos pos' B:Pos}{it:Lv}{g:Gv}{F:List D->Option (D×D)}{f0:Ev}{fs:Lv}(he:∀C s H fp,O8 (My.aN X N scope (cY X.env.cells scope.names []) C s H fp) zc G (cM zc F f0 fs))(hg:∀C s H fp,N.Nodup->GG (My.aN X N scope (cY X.env.cells scope.names []) C s H fp) zc tg g)(h1:ms[zc]?=some (some z))(h2:∀j:Nat,ms[j]?=some (some z)->j=zc)(hi:PDI X [z] tg q it:=by trivial)
  (W:X.env.cells=YC (σ.heap.objs.size+1) X.env.scope.names []:=by rfl) (U:bJ X scope N ms:=by repeat' first|exact WX|exact rfl|exact WT rfl|constructor) (hN:N.Nodup:=by decide)
  (hc:X.calm=true:=by rfl) (hk:scope.kind=.function:=by rfl) (h:qM scope.names X.env.scope.names=true:=by rfl) (hs:∀x,W4 q X.env x=pure x:=by intro _;rfl)
  (hX:X.N.Nodup:=by assumption) (J:X.N[i]?=some x:=by rfl) (Y:Loc X.env.scope x:=by first|exact WT rfl|exact W0 rfl) (n:i≠z:=by decide) (M:V3 (.ListComp G [⟨tg,q,[],0⟩] scope pos) (some (.Name x pos')) B.line X.env=pure true:=by rfl) (hf:X.fn x=true\/X.env.scope.names.lookup x=some .local:=by first|exact .inl rfl|exact .inr rfl) :
  PQ X z (.Assign [.Name x pos'] (.ListComp G [⟨tg,q,[],0⟩] scope pos) B) (zJ i z zc ms it g (cM zc F f0 fs)):=JN hX J Y hc (nV hk h W) U h1 h2 hi (λC s H fp=>hg C s H fp hN) he n hs M hf
theorem wN{O:List Nat}{x:Str}{k j m:Nat}{ps:List Str}{F:List D->Option (D×D)}{q el:Expr}{es:List Expr}{f0 fl:Ev}{fs:Lv}{p pos:Pos}(O':FnQ X.prog X.w X.K X.mg X.base x k ps F)(N:Room j X.A)(h0:PD X O q f0)(hp:PF X O el fl)(ha:oF X O es fs)(M:Len fs m)(W:m+2=ps.length)(hk:k<=j)(Y:Gl X x:=by rfl)(G:(x == ("__debug__" : Str))=false:=by decide)
  (U:U8 (q::el::es) X.env=(false,eval q X.env)::U8 (el::es) X.env:=by rfl) (J:U8 (el::es) X.env=(false,eval el X.env)::U8 es X.env:=by rfl) (B:(VU pos (U8 (el::es) X.env)).any (·.1)=false:=by rfl) :
  PD X O (.Call (.Name x p) (q::el::es) [] pos) (sH F f0 fl fs):=DF (O'.mono hk) N Y h0 hp ha (λρ ds h=>by rw[M ρ ds h];exact W) G U J B
end
theorem iM{P:VB}{w:World}{K:U6}{mg:Str->Option Value}{base:Heap}{x:Str}{st:Stmt}{N ps:List Str}{k:Nat}(G:My.DefAt K mg x st ps)(S:FnScope N ps (aE st)):FnQ P w K mg base x (k+1) ps (λ_=>none):=
 My.BodyOk.ok (k:=k) (N:=N) (λJ F A B s H vs Q E M ⟨_,_,_,_,_,_,_,_,_,_,_,_,_,_,_,_,q,_⟩=>nomatch q) G S (λvs H Q E ⟨_,_,_,_,_,_,_,_,_,_,_,_,_,_,_,_,q,_⟩=>nomatch q)
variable {X:Cx}{O:List Nat}
theorem UT{x:Str}{l:List (Str×Str)}{M:List (Str×(List D->Option D))}{k n:Nat}{q e:Expr}{es:List Expr}{J:Ev}{B:Lv}{p sp pos:Pos}(Y:My.DictAt X.w X.K X.mg x l)(hF:Fam X k n l M)(U:Room k X.A)(hk:PB X O q J:=by trivial)(ha:oF X O (e::es) B:=by trivial)(W:Len B n:=by trivial)(hs:J3 q:=by exact λ_ _=>rfl)(hg:Gl X x:=by rfl)
  (F:(x == ("__debug__" : Str))=false:=by decide) (he:U8 (e::es) X.env=(false,eval e X.env)::U8 es X.env:=by rfl) (G:(VU pos (U8 es X.env)).any (·.1)=false:=by rfl)
  (N:eval (.Call (.Subscript (.Name x p) q sp) (e::es) [] pos) X.env=(do callWith pos (<- eval (.Subscript (.Name x p) q sp) X.env) [] (VU pos (U8 (e::es) X.env)) (ZD pos (ZE [] X.env))):=by rfl) :
  PD X O (.Call (.Subscript (.Name x p) q sp) (e::es) [] pos) (nX M J B):=C4 Y hF U hg hk ha W hs F he G N
section
variable {ρ ρ':bI}{f f0:Ev}{a:Bv}{l fs:Lv}{x y d e:D}{xs es:List D}{i j z:Nat}{s t:Qv}{o:Option OutQ}
theorem M6(h:l ρ=some [x,y]):JV i j l ρ=some (.nx ((ρ.set i (some x)).set j (some y))):=by unfold JV;rw[h,aA]
theorem nW{s:Sv}{R:D->Prop}(h:s ρ=some (.rt d))(k:R d):∃d,s ρ=some (.rt d)/\R d:=⟨_,h,k⟩
theorem cC{d:D}(h:f ρ=some d)(e:ρ.set i (some d)=ρ'):d5 i f ρ=some (.nx ρ'):=e ▸ b5 h
def UC(p:OutQ)(t:Qv):Option OutQ:=match p with
 | .nx ρ=>t ρ
 | p=>some p
theorem nJ{p:OutQ}(h:s ρ=some p)(k:UC p t=o):oR s t ρ=o:=by unfold oR;rw[h,aA];exact k
theorem FP(k:t ρ=o):UC (.nx ρ) t=o:=k
theorem FR{c:Bool}(h:a ρ=some c)(k:PC c (s ρ) (t ρ)=o):KF a s t ρ=o:=by unfold KF;rw[h,aA];exact k
theorem MP(h:f ρ=some d)(e:ρ.set i (some d)=ρ'):xK i f ρ=some (.nx ρ'):=by unfold xK;rw[h,aB,e]
theorem w8{w:Gv}(h:f ρ=some d)(k:w d ρ=some ρ'):J0 f w ρ=some (.nx ρ'):=by unfold J0;rw[h,aA,k,aB]
theorem lK{k:Int}{n:Nat}(h:f ρ=some e)(F:f0 ρ=some (.int k))(q:aD z ρ=some (.lst xs))(B:sQ xs.length k=some n):vL z f0 f ρ=some (.nx (ρ.set z (some (.lst (xs.set n e))))):=by
 unfold vL;rw[h,aA,F,aA,show GC (.int k)=some k from rfl,aA,q,aA];show Option.map _ (sQ xs.length k)=_;rw[B,aB]
theorem IY{J B q F:D}(h:f ρ=some e)(G:aD z ρ=some (.lst [J,B,q,F]))(hs:ρ.set z (some (.lst [e,B,q,F]))=ρ'):vL z (eC (.int 0)) f ρ=some (.nx ρ'):=by rw[<- hs];exact lK (k:=0) (n:=0) h rfl G rfl
theorem GZ{F J q B:D}(h:f ρ=some e)(G:aD z ρ=some (.lst [F,J,q,B]))(hs:ρ.set z (some (.lst [F,e,q,B]))=ρ'):vL z (eC (.int 1)) f ρ=some (.nx ρ'):=by rw[<- hs];exact lK (k:=1) (n:=1) h rfl G rfl
theorem GN{F q G B:D}(h:f ρ=some e)(J:aD z ρ=some (.lst [F,q,G,B]))(hs:ρ.set z (some (.lst [F,q,e,B]))=ρ'):vL z (eC (.int 2)) f ρ=some (.nx ρ'):=by rw[<- hs];exact lK (k:=2) (n:=2) h rfl J rfl
theorem HF{F B q J:D}(h:f ρ=some e)(G:aD z ρ=some (.lst [F,B,q,J]))(hs:ρ.set z (some (.lst [F,B,q,e]))=ρ'):vL z (eC (.int 3)) f ρ=some (.nx ρ'):=by rw[<- hs];exact lK (k:=3) (n:=3) h rfl G rfl
theorem QB(h:f ρ=some d)(k:aD z ρ=some e):T2 z f ρ=some (.rt d e):=by unfold T2;rw[h,aA,k,aB]
theorem MJ{q:Qe}(h:q ρ=some (d,e)):OU q ρ=some (.rt d e):=by unfold OU;rw[h,aB]
theorem yD{q:Qe}(h:q ρ=some (d,e))(k:(ρ.set z (some e)).set i (some d)=ρ'):qH i z q ρ=some (.nx ρ'):=by unfold qH;rw[h,aB,k]
theorem GQ{F:List D->Option (D×D)}{r:D×D}(h0:f0 ρ=some d)(hs:fs ρ=some es)(q:aD z ρ=some e)(k:F (d::e::es)=some r):cM z F f0 fs ρ=some r:=by unfold cM;rw[h0,aA,hs,aA,q,aA,k]
theorem k8{n:Nat}{q:Qv}{ds:List D}(h:q (aK n ds)=some (.rt d e)):oQ n q ds=some (d,e):=by unfold oQ;rw[h,aA]
end
end P
namespace Law
open PySem PySem.Spec PyProof.Rows L2 P
local macro_rules | `(tactic|contradiction) => `(tactic|with_reducible first|apply FL|apply xJ|apply LH|apply bV|apply zB|apply lA|apply cC|apply EQ|apply wY|apply u9|apply u5|apply fN|apply FK|apply jA|apply sE|apply LU|apply lH|apply dS|apply sG|apply kZ|apply kO|apply GX|apply ET|apply KW|apply NW|apply NL|apply P4|apply E3|apply M6|apply FP|apply nJ|apply FR|apply MP|apply w8|apply IY|apply GZ|apply GN|apply HF|apply QB|apply MJ|apply yD|apply GQ|apply FV)
local macro_rules | `(tactic|ac_rfl) => `(tactic|first
 | (with_reducible first|exact SW|exact N7|exact MB|exact rfl|assumption)
 | ((with_reducible apply MK);exact rfl)
 | ((with_reducible show PC _ _ _=_);(first|((with_reducible apply FV);(with_reducible first|exact rfl|(apply decide_eq_true;assumption)))|((with_reducible apply oU);(with_reducible first|exact rfl|(apply decide_eq_false;assumption)))|((with_reducible apply FV);ac_rfl)|((with_reducible apply oU);ac_rfl));ac_rfl)
 | ((with_reducible show WI _ _ _=_);dsimp only[WI])
 | ((fail_if_success contradiction);first|((with_reducible first|apply cF|apply qK|apply q_eqI|apply KY|apply OE|apply GM|apply bL|apply decide_eq_true|apply decide_eq_false) <;> ac_rfl)|((with_reducible show bD _ _ _ _ _=_);assumption)|exact rfl|exact zbp rfl|decide|lia)
 | (contradiction <;> ac_rfl))
local macro_rules | `(tactic|simp_all[$xs,*]) => `(tactic|simp[-U9, -VA, aA, aB, $xs,*])
noncomputable def top(i:Nat):Stmt:=PySem.Challenge.pw_chiefway_k73_rows_of_a_reading.main.body.getD i (.Pass ⟨0,0,0,0⟩)
abbrev s_law:Stmt:=top 59
abbrev tb(x:Str)(i:Nat)(ps:List Str):=(x,i,ps)
def tab:List (Str×Nat×List Str):=[tb "_law_names" 46 ["cell", "many"],tb "_law_at" 45 ["script", "k"],tb "_law_roads" 48 ["M", "seats", "script"],tb "_law_seat" 47 ["M", "cell"],tb "_law_make" 49 ["M", "seats", "some", "names", "cell"],tb "_law_book" 50 ["script"],tb "is_whole" 8 ["thing"],tb "wheel" 9 ["thing"],tb "is_name" 22 ["text"],tb "check_kinds" 24 ["kinds"],tb "is_price" 26 ["price"],tb "on" 10 ["M", "n"],tb "roads_of" 25 ["M", "many", "roads"],tb "check_deeds" 30 ["makes"],tb "check_make" 28 ["many", "name", "takes", "gives", "price"],tb "form_of" 14 ["M", "sums"],tb "check_exponents" 13 ["n", "exponents"],tb "form" 12 ["M", "n", "terms"],tb "make_form" 29 ["M", "n", "terms"],tb "makes_of" 27 ["M", "many", "makes"],tb "book" 23 ["M", "kinds", "roads", "makes"],tb "_law_reach" 51 ["many", "roads"],tb "_law_heads" 56 ["script", "many", "names"],tb "_law_way" 52 ["roads", "reach", "j", "k", "cell"],tb "_law_leaf" 53 ["world", "pot", "known", "want", "cell"],tb "_law_grown" 55 ["world", "pot", "known", "want", "deep", "nest"],tb "_law_bound" 54 ["world", "pot", "known", "want", "deep", "nest", "cell"],tb "_law_program" 57 ["script", "M", "roads", "makes", "reach"],tb "way_of" 32 ["reading"],tb "with_place" 39 ["places", "x"],tb "rows_at" 35 ["book", "places", "tally", "reading", "start"],tb "name_rows" 36 ["book", "places", "tally", "reading", "start"],tb "number_rows" 37 ["book", "places", "tally", "reading", "start"],tb "use_rows" 38 ["book", "places", "tally", "reading", "start"],tb "let_rows" 40 ["book", "places", "tally", "reading", "start"],tb "pick_rows" 41 ["book", "places", "tally", "reading", "start"],tb "again_rows" 42 ["book", "places", "tally", "reading", "start"],tb "rows_of" 34 ["book", "heads", "reading"],tb "_law_due" 58 ["world", "names", "at", "tally", "reading"]]
noncomputable def blt:List Str:=["all", "bool", "dict", "enumerate", "int", "isinstance", "len", "list", "max", "range", "sorted", "tuple"]
noncomputable def TU:List (Str×Int):=[("MOST_KINDS",6),("MOST_MAKES",16),("MOST_OF_A_DEED",6),("MOST_POWER",2),("MOST_ROADS",12)]
theorem sc_law:FnScope ["script", "M", "kinds", "roads", "makes", "made", "reach", "heads", "want", "part", "reading", "handed", "found", "due"] ["script"] (aE s_law):=⟨rfl,rfl,rfl,by decide +kernel,rfl,by decide +kernel,by decide +kernel⟩
structure Txt(w:World)(K:U6)(mg:Str->Option Value):Prop where
 d:∀p∈tab,My.DefAt K mg p.1 (top p.2.1) p.2.2
 b:∀x∈blt,mg x=none
 g:∀p∈TU,GInt mg p.1 p.2
 g_WORDS:GTup K mg "WORDS" ["let", "in", "pick", "again"]
 k_ROWS:My.DictAt w K mg "ROWS" [("name", "name_rows"),("number", "number_rows"),("use", "use_rows"),("let", "let_rows"),("pick", "pick_rows"),("again", "again_rows")]
theorem Txt.n{w:World}{K:U6}{mg:Str->Option Value}(T:Txt w K mg){x:Str}(h:x∈blt:=by decide +kernel):mg x=none:=T.b x h
abbrev Tx(P:VB)(w:World)(K:U6)(mg:Str->Option Value)(base:Heap):Prop:=Txt w K mg
abbrev Zt(x:Str)(ps:List Str)(k n:Nat):Type:={b:Sv // ∀ {P:VB} {w:World} {K:U6} {mg:Str->Option Value} {base:Heap},Tx P w K mg base->Fn P w K mg base x k ps (aS n b)}
def jF(N:List Str)(i:Nat){x:Str}{ps:List Str}{k:Nat}{b:Sv}(h:∀ {P:VB} {w:World} {K:U6} {mg:Str->Option Value} {base:Heap} {F:Addr} {B:Value} {A:VJ} {q:List Env} {H:Hp} {E:XK} (T:Tx P w K mg base) (s:U5) (nd:N.Nodup) (G:Room k (A.deeper (V9 x (aE (top i)) s.heap.objs.size F B))) (hu:(A.deeper (V9 x (aE (top i)) s.heap.objs.size F B)).units+1<cLine),∃g,PSDs (gE sP P w K mg base N x (aE (top i)) F B A q s H E).nox ⟨[],[]⟩ [] (a9 (top i)) g []/\g=b)(m:(x,i,ps)∈tab:=by decide +kernel)(sc:FnScope N ps (aE (top i)):=by exact⟨rfl,rfl,rfl,by decide +kernel,rfl,by decide +kernel,by decide +kernel⟩):Zt x ps (k+1) N.length:=⟨b,λT=>zK (T.d _ m) sc λF B A q s H E G=>h T s sc.nd G (qI G)⟩
abbrev Zr(x:Str)(ps:List Str)(k n m:Nat):Type:={b:(List D->Option D)->Sv // ∀ {P:VB} {w:World} {K:U6} {mg:Str->Option Value} {base:Heap},Tx P w K mg base->Fn P w K mg base x (k+m+1) ps (xQ n b m)}
def J4(N:List Str)(i:Nat){x:Str}{ps:List Str}{k m:Nat}{b:(List D->Option D)->Sv}(h:∀ {P:VB} {w:World} {K:U6} {mg:Str->Option Value} {base:Heap} {fa:Addr} {cdv:Value} {A:VJ} {outer:List Env} {H:Hp} {E:XK} (T:Tx P w K mg base) (R:List D->Option D) (j:Nat) (hj:k<=j) (ih:Fn P w K mg base x j ps R) (s:U5) (nd:N.Nodup) (hr:Room j (A.deeper (V9 x (aE (top i)) s.heap.objs.size fa cdv))) (hu:(A.deeper (V9 x (aE (top i)) s.heap.objs.size fa cdv)).units+1<cLine),∃g,PSDs (gE sP P w K mg base N x (aE (top i)) fa cdv A outer s H E).nox ⟨[],[]⟩ [] (a9 (top i)) g []/\g=b R)(me:(x,i,ps)∈tab:=by decide +kernel)(sc:FnScope N ps (aE (top i)):=by exact⟨rfl,rfl,rfl,by decide +kernel,rfl,by decide +kernel,by decide +kernel⟩):Zr x ps k N.length m:=⟨b,λT=>by
 induction m with
 | zero=>exact zG (T.d _ me) sc
 | succ m ih=>exact zK (T.d _ me) sc λfa cdv A outer s H E hr=>h T _ (k+m+1) (by lia) ih s sc.nd hr (qI hr)⟩
local macro_rules | `(tactic|exists $x:ident) => `(tactic|(refine' (?f:∀y:(List D -> Option D) -> Sv, zah $x = y -> (List D -> Option D) -> Sv) _ ?h;(case h => unfold $x;(try unfold J4);(try dsimp only);try exact rfl);(case f => exact λy _ => y)))
local macro_rules | `(tactic|exists $x:ident) => `(tactic|(refine' (?f:∀y:Sv, zah $x = y -> Sv) _ ?h;(case h => unfold $x;(try unfold jF);(try dsimp only);try exact rfl);(case f => exact λy _ => y)))
theorem TJ{X:Cx}{O:List Nat}{p:Pos}(T:Txt X.w X.K X.mg)(q:Gl X "MOST_KINDS"):PD X O (.Name "MOST_KINDS" p) (eC (.int 6)):=i6 (T.g ("MOST_KINDS",6) (by decide +kernel)) q
theorem SV{X:Cx}{O:List Nat}{p:Pos}(T:Txt X.w X.K X.mg)(q:Gl X "MOST_MAKES"):PD X O (.Name "MOST_MAKES" p) (eC (.int 16)):=i6 (T.g ("MOST_MAKES",16) (by decide +kernel)) q
theorem SR{X:Cx}{O:List Nat}{p:Pos}(T:Txt X.w X.K X.mg)(q:Gl X "MOST_OF_A_DEED"):PD X O (.Name "MOST_OF_A_DEED" p) (eC (.int 6)):=i6 (T.g ("MOST_OF_A_DEED",6) (by decide +kernel)) q
theorem SM{X:Cx}{O:List Nat}{p:Pos}(T:Txt X.w X.K X.mg)(q:Gl X "MOST_POWER"):PD X O (.Name "MOST_POWER" p) (eC (.int 2)):=i6 (T.g ("MOST_POWER",2) (by decide +kernel)) q
theorem SX{X:Cx}{O:List Nat}{p:Pos}(T:Txt X.w X.K X.mg)(q:Gl X "MOST_ROADS"):PD X O (.Name "MOST_ROADS" p) (eC (.int 12)):=i6 (T.g ("MOST_ROADS",12) (by decide +kernel)) q
theorem gt_0{X:Cx}{O:List Nat}{e:Expr}{f:Ev}{p pos:Pos}(T:Txt X.w X.K X.mg)(B:Gl X "WORDS")(q:PB X O e f):jU X O (.Compare e [.In] [.Name "WORDS" p] pos) (lN (qB (KB false ["let", "in", "pick", "again"]) f)):=HW T.g_WORDS B q
local macro_rules | `(tactic|trivial) => `(tactic|first
 | (show PB _ _ _ _;first|(apply vB <;> trivial)|(apply PD.b <;> trivial))
 | (show PD _ _ _ _;first|(apply vD <;> trivial)|(apply wE <;> trivial)|((first|apply EL|apply qD|apply U3|apply UK|apply SF|apply wt|apply QM|apply LX|apply TL|apply SS|apply TH|apply QC|apply TJ|apply SV|apply SR|apply SM|apply SX|apply QV|apply MD|apply LI|apply U2|apply MT|apply M7|apply N0|apply QX|apply D0|apply M4|apply HK|apply UY|apply PF.d) <;> trivial))
 | (show oF _ _ _ _;((first|apply iY|apply vM) <;> trivial))
 | (show oV _ _ _ _;((first|apply gC|apply O6) <;> trivial))
 | (show Len _ _;((first|apply l0|apply lc) <;> trivial))
 | (show fT _ _ _;((first|apply f7|apply N2|apply LD|apply HY|apply LY|apply QF|apply QD|apply L4|apply MV|apply UO|apply UI|apply UX) <;> trivial))
 | (show At _ _ _;first|exact at_ 0|exact at_ 1|exact at_ 2|exact at_ 3|exact at_ 4|exact at_ 5|exact at_ 6|exact at_ 7|exact at_ 8|exact at_ 9|exact at_ 10|exact at_ 11|exact at_ 12|exact at_ 13|exact at_ 14|exact at_ 15|exact at_ 16|exact at_ 17|exact at_ 18|exact at_ 19|exact at_ 20)
 | (show jU _ _ _ _;first|((first|apply gt_0|apply SE|apply tc|apply AK|apply wL|apply GP) <;> trivial)|(apply PDW.pt <;> trivial)|(apply IW <;> trivial))
 | (show PDW _ _ _ _;((first|apply HJ|apply NC|apply D3|apply IA) <;> trivial))
 | (show LB _ _ _ _;((first|apply CD|apply DP) <;> trivial))
 | (show PDI _ _ _ _ _;((first|apply v7|apply vQ|apply CU|apply DA) <;> trivial))
 | (show sO _ _ _ _;first|(apply gV <;> trivial)|(apply gu 2 <;> trivial)|(apply gu 5 <;> trivial))
 | (show xM _ _ _ _;((first|apply DQ|apply gc) <;> trivial))
 | (show My.vN _ _ _;((first|apply uI|apply C5) <;> trivial))
 | (show PF _ _ _ _;((first|apply wl|apply SK|apply UR) <;> trivial))
 | rfl
 | assumption
 | exact Txt.n (by assumption)
 | exact .inl rfl
 | exact .inr rfl
 | exact .inr (.inl rfl)
 | exact .inr (.inr rfl)
 | exact λ_=>rfl
 | exact λ_ _=>rfl
 | (with_unfolding_all rfl)
 | (constructor <;> rfl)
 | exact VH _
 | (refine WM ?_ (by assumption);decide))
seal PD PB PF oF oV jU PDW PDI LB PSD PSDs Fn fT VM WD
def e9:Zt "_law_names" ["cell", "many"] 1 7:=jF ["cell", "many", "letters", "size", "out", "k", "signs"] 46 λT s B q F=>by exact⟨_,(c0 (aL 2) (c0 (aL 3) (cO [4] (cJ 4) (c0 (cP [4] [] (cO [4,6] (cJ 6 (EM (by trivial) (by trivial))) (cO [4] (qA 6) (cO [4] (fO (aM (aL 6 (PF.d (EM (by trivial) (by trivial)))))) (aM (oA 4)))))) a8)))),rfl⟩
def kE:Sv:=by exists e9
def dQ:=aS 7 kE
def cH:Zt "_law_at" ["script", "k"] 1 3:=jF ["script", "k", "cell"] 45 λT s B q F=>by exact⟨_,(c0 (fO a8) (c0 (aL 2) (c0 (fO (aM (aL 2))) (c0 (aL 2) a8)))),rfl⟩
def iP:Sv:=by exists cH
def bF:=aS 3 iP
def jW:Zt "_law_roads" ["M", "seats", "script"] 2 11:=jF ["M", "seats", "script", "out", "n", "cell", "j", "k", "a", "b", "spot"] 48 λT s B q F=>by have:=fx bF (cH.2 T);exact⟨_,(cO [3] (cJ 3) (c0 (cP [3] [] (cO [3] (aL 5) (cO [3] (FT 6 7 (by trivial)) (cO [3] (fO (cO [3] (aL 7) (aM (aL 6)))) (aM (fO (cO [3] (aL 8) (cO [3] (aL 9) (aM (oA 3)))))))))) (c0 (aL 10) a8))),rfl⟩
def j5:Sv:=by exists jW
def fD:=aS 11 j5
def lY:Zt "_law_seat" ["M", "cell"] 1 5:=jF ["M", "cell", "one", "back", "k"] 47 λT s B q F=>by exact⟨_,(c0 (gA (by trivial) (gB (My.hU (n:=2) rfl (by trivial)))) (c0 (cP [] [] (aM (FT 2 3 (by trivial)))) (c0 (fO (aM (FT 2 3 (by trivial)))) a8))),rfl⟩
def mI:Sv:=by exists lY
def eR:=aS 5 mI
def lU:Zt "_law_make" ["M", "seats", "some", "names", "cell"] 1 17:=jF ["M", "seats", "some", "names", "cell", "many", "way", "takes", "i", "o", "e", "d", "gives", "one", "back", "t", "rows"] 49 λT s q B F=>by exact⟨_,(c0 (aL 5) (c0 (aL 6) (c0 (aL 2) (c0 (aL 7) (c0 (aL 8) (c0 (aL 9) (c0 (aL 10) (c0 (aL 11) (c0 (aL 12) (c0 (gA (by trivial) (gB (My.hU (n:=3) rfl (jH (λa b=>(iR a b)) (iQ (i8 (i:=13) q rfl (W0 rfl))) (by trivial))))) (c0 (F8 (c0 (aL 16) (aM (aL 16))) (c0 (aL 16) (c0 (aL 16) (aM (aL 16))))) (c0 (sC 16 s ["es", "c", "one", "M"] [none,none,some 13,some 0]) a8)))))))))))),rfl⟩
def mQ:Sv:=by exists lU
def g6:=aS 17 mQ
def mN:Zt "_law_book" ["script"] 3 10:=jF ["script", "M", "many", "seats", "some", "names", "size", "makes", "n", "roads"] 50 λT s B q F=>by have:=fx bF (cH.2 T);have:=fx g6 (lU.2 T);have:=fx dQ (e9.2 T);have:=fx fD (jW.2 T);have:=fx eR (lY.2 T);exact⟨_,(c0 (aL 1) (c0 (fO (aM (aL 1))) (c0 (aL 2) (c0 (fO (aM (aL 2))) (c0 (sC 3 s ["k", "M", "script"] [none,some 1,some 0]) (c0 (sC 4 s ["k", "script", "M"] [none,some 0,some 1]) (c0 (aL 5) (c0 (aL 6) (cO [7] (cJ 7) (c0 (cP [7] [] (aM (oA 7))) (c0 (aL 9) a8))))))))))),rfl⟩
def mT:Sv:=by exists mN
def g8:=aS 10 mT
def mS:Zt "is_whole" ["thing"] 1 1:=jF ["thing"] 8 λT s B q F=>by exact⟨_,a8,rfl⟩
def wJ:Sv:=by exists mS
def wO:=aS 1 wJ
def yL:Zt "wheel" ["thing"] 2 1:=jF ["thing"] 9 λT s B q F=>by have:=fx wO (mS.2 T);exact⟨_,(c0 cK (c0 cK (c0 cK a8))),rfl⟩
def zH:Sv:=by exists yL
def xV:=aS 1 zH
def jI:Zt "is_name" ["text"] 1 1:=jF ["text"] 22 λT s B q F=>by exact⟨_,(c0 (fO a8) (a8 (cB (ER rfl) T.n My.boot_all (O6 (PD.b (PF.d (dZ s ["sign"] [none]))) (by trivial))))),rfl⟩
def pL:Sv:=by exists jI
def jN:=aS 1 pL
def gN:Zt "check_kinds" ["kinds"] 2 3:=jF ["kinds", "number", "kind"] 24 λT s B q F=>by have:=fx jN (jI.2 T);exact⟨_,(c0 cK (aM (cP [] [] (c0 cK (aM cK))))),rfl⟩
def gF:Sv:=by exists gN
def gJ:=aS 3 gF
def gZ:Zt "is_price" ["price"] 1 1:=jF ["price"] 26 λT s B q F=>by exact⟨_,a8,rfl⟩
def l6:Sv:=by exists gZ
def gY:=aS 1 l6
def OZ:Zt "on" ["M", "n"] 1 2:=jF ["M", "n"] 10 λT s B q F=>by exact⟨_,a8,rfl⟩
def RI:Sv:=by exists OZ
def FX:=aS 2 RI
def mG:Zt "roads_of" ["M", "many", "roads"] 2 9:=jF ["M", "many", "roads", "told", "j", "k", "a", "b", "price"] 25 λT s B q F=>by have:=fx gY (gZ.2 T);have:=fx FX (OZ.2 T);exact⟨_,(c0 cK (cO [3] (cJ 3) (c0 (cP [3] [] (cO [3] cK (cO [3] cK (aM (oA 3))))) a8))),rfl⟩
def mB:Sv:=by exists mG
def mE:=aS 9 mB
def gM:Zt "check_deeds" ["makes"] 1 8:=jF ["makes", "counted", "name", "takes", "gives", "terms", "price", "deed"] 30 λT s B q F=>by exact⟨_,(cO [1] (cJ 1 tY) (aM (cP [1] [] (cO [1] (aL 7) (cO [1] (qA 1) (aM cK)))))),rfl⟩
def gG:Sv:=by exists gM
def gO:=aS 8 gG
def iG:Zt "check_make" ["many", "name", "takes", "gives", "price"] 2 6:=jF ["many", "name", "takes", "gives", "price", "kind"] 28 λT s B q F=>by have:=fx jN (jI.2 T);have:=fx gY (gZ.2 T);exact⟨_,(c0 cK (c0 cK (c0 (cP [] [] (aM cK)) (aM cK)))),rfl⟩
def iC:Sv:=by exists iG
def iF:=aS 6 iC
def pY:Zt "form_of" ["M", "sums"] 2 2:=jF ["M", "sums"] 14 λT s B q F=>by have:=fx FX (OZ.2 T);exact⟨_,(a8 (O4 eD T.n My.boot_tuple (O6 (PD.b (PF.d (dZ s ["exponents", "c", "M"] [none,none,some 0]))) (by trivial)))),rfl⟩
def pF:Sv:=by exists pY
def p4:=aS 2 pF
def dI:Zt "check_exponents" ["n", "exponents"] 1 3:=jF ["n", "exponents", "exponent"] 13 λT s B q F=>by exact⟨_,(c0 cK (aM (cP [] [] (aM cK)))),rfl⟩
def dJ:Sv:=by exists dI
def dM:=aS 3 dJ
def EI:Zt "form" ["M", "n", "terms"] 3 6:=jF ["M", "n", "terms", "sums", "exponents", "c"] 12 λT s B q F=>by have:=fx dM (dI.2 T);have:=fx p4 (pY.2 T);exact⟨_,(c0 cK (cO [3] (cJ 3 tY) (c0 (cP [3] [] (cO [3] nN (aM (qA 3)))) a8))),rfl⟩
def ED:Sv:=by exists EI
def EY:=aS 6 ED
def kB:Zt "make_form" ["M", "n", "terms"] 4 7:=jF ["M", "n", "terms", "told", "e", "exponents", "c"] 29 λT s B q F=>by have:=fx EY (EI.2 T);exact⟨_,(c0 (IH (λ_ _ z=>z) (aM (aL 3))) (c0 (cP [] [] (aM cK)) a8)),rfl⟩
def j7:Sv:=by exists kB
def kC:=aS 7 j7
def l7:Zt "makes_of" ["M", "many", "makes"] 5 9:=jF ["M", "many", "makes", "told", "name", "takes", "gives", "terms", "price"] 27 λT s B q F=>by have:=fx gO (gM.2 T);have:=fx iF (iG.2 T);have:=fx kC (kB.2 T);exact⟨_,(c0 cK (cO [3] (cJ 3) (c0 (cP [3] [] (cO [3] nN (aM (oA 3)))) (c0 nN a8)))),rfl⟩
def mC:Sv:=by exists l7
def l9:=aS 9 mC
def FG:Zt "book" ["M", "kinds", "roads", "makes"] 6 4:=jF ["M", "kinds", "roads", "makes"] 23 λT s B q F=>by have:=fx gJ (gN.2 T);have:=fx l9 (l7.2 T);have:=fx mE (mG.2 T);have:=fx xV (yL.2 T);exact⟨_,(c0 nN (c0 nN a8)),rfl⟩
def FC:Sv:=by exists FG
def EH:=aS 4 FC
def j3:Zt "_law_reach" ["many", "roads"] 1 7:=jF ["many", "roads", "out", "j", "row", "k", "road"] 51 λT s q B F=>by exact⟨_,(cO [2] (cJ 2) (c0 (cP [2] [] (cO [2,4] (IQ 4 s ["k", "j"] [none,some 3]) (cO [2] (cP [2,4] [2] (aM (cP [2,4] [2,4] (aM (fO (aM (qA 4))))))) (aM (oA 2)))) (by trivial) (iQ (i8 (i:=3) q rfl (W0 rfl)))) a8)),rfl⟩
def kL:Sv:=by exists j3
def j4:=aS 7 kL
def kH:Zt "_law_heads" ["script", "many", "names"] 2 4:=jF ["script", "many", "names", "cell"] 56 λT s B q F=>by have:=fx bF (cH.2 T);exact⟨_,(c0 (aL 3) (a8 (PF.d (dZ s ["k", "names", "cell", "many"] [none,some 2,some 3,some 1])))),rfl⟩
def kF:Sv:=by exists kH
def fB:=aS 4 kF
def fV:Zt "_law_way" ["roads", "reach", "j", "k", "cell"] 1 7:=jF ["roads", "reach", "j", "k", "cell", "way", "going"] 52 λT s B q F=>by exact⟨_,(c0 (aL 5) (c0 (PN [] [] (c0 (sC 6 s ["r", "roads", "j", "reach", "k"] [none,some 0,some 2,some 1,some 3]) (c0 (aL 5) (c0 (aL 4) (aM (aL 2)))))) a8)),rfl⟩
def pN:Sv:=by exists fV
def eA:=aS 7 pN
abbrev Fq:=List D->Option (D×D)
def R9(N:List Str)(i:Nat){x:Str}{ps:List Str}{k:Nat}{b:Fq->Fq->Qv}(h:∀ {P:VB} {w:World} {K:U6} {mg:Str->Option Value} {base:Heap} {J:Addr} {F:Value} {A:VJ} {q:List Env} {H:Hp} {E:XK} (T:Tx P w K mg base) (G B:Fq) (j:Nat) (U:k<=j) (ih:FnQ P w K mg base "_law_grown" j ["world", "pot", "known", "want", "deep", "nest"] G) (ib:FnQ P w K mg base "_law_bound" j ["world", "pot", "known", "want", "deep", "nest", "cell"] B) (s:U5) (nd:N.Nodup) (M:Room j (A.deeper (V9 x (aE (top i)) s.heap.objs.size J F))) (hu:(A.deeper (V9 x (aE (top i)) s.heap.objs.size J F)).units+1<cLine),∃g,KL (gE sP P w K mg base N x (aE (top i)) J F A q s H E).nox 1 (a9 (top i)) g/\g=b G B)(m:(x,i,ps)∈tab:=by decide +kernel)(sc:FnScope N ps (aE (top i)):=by exact⟨rfl,rfl,rfl,by decide +kernel,rfl,by decide +kernel,by decide +kernel⟩):{b:Fq->Fq->Qv // ∀ {P:VB} {w:World} {K:U6} {mg:Str->Option Value} {base:Heap},Tx P w K mg base->∀(G B:Fq) (j:Nat),k<=j->FnQ P w K mg base "_law_grown" j ["world", "pot", "known", "want", "deep", "nest"] G->FnQ P w K mg base "_law_bound" j ["world", "pot", "known", "want", "deep", "nest", "cell"] B->FnQ P w K mg base x (j+1) ps (oQ N.length (b G B))}:=⟨b,λT G B j U ih ib=>N1 (T.d _ m) sc λJ F A q s H E M=>h T G B j U ih ib s sc.nd M (qI M)⟩
local macro_rules | `(tactic|exists $x:ident) => `(tactic|(refine' (?f:∀y:Fq -> Fq -> Qv, zah $x = y -> Fq -> Fq -> Qv) _ ?h;(case h => unfold $x;(try unfold R9);(try dsimp only);try exact rfl);(case f => exact λy _ => y)))
def lX:=R9 (x := "_law_leaf") (ps:=["world", "pot", "known", "want", "cell"]) (k:=1) ["world", "pot", "known", "want", "cell", "script", "M", "roads", "makes", "reach", "names", "near", "x", "k", "part"] 53 λT G B j M ih ib s F q J=>by have:=fx bF (cH.2 T);have:=fx eA (fV.2 T);exact⟨_,(aP (rQ (R5 6 (qN (gz 5) (qN (gz 6) (qN (gz 7) (qN (gz 8) (qN (gz 9) (qN (gz 10) iI))))))))
 (aP (i7 11 s ["one", "reach", "want"] [none,some 9,some 3])
 (aP (u7 (aP (rQ (R5 2 (qN (gz 12) (qN (gz 13) iI)))) (fK jS)))
 (aP (i7 11 s ["j", "reach", "want"] [none,some 9,some 3])
 (aP (cS 13)
 (aP nK
 (aP (cS 14)
 (fK jS)))))))),rfl⟩
def kJ:Fq->Fq->Qv:=by exists lX
def gU:Qv:=kJ (λ_=>none) (λ_=>none)
def dA:Fq:=oQ 15 gU
def kA:=R9 (x := "_law_bound") (ps:=["world", "pot", "known", "want", "deep", "nest", "cell"]) (k:=2) ["world", "pot", "known", "want", "deep", "nest", "cell", "script", "M", "roads", "makes", "reach", "names", "x", "j", "one", "two", "near", "k", "front", "way"] 54 λT G B j M ih ib s F q J=>by have:=fx bF (cH.2 T);have:=fx eA (fV.2 T);exact⟨_,(aP (rQ (R5 6 (qN (gz 7) (qN (gz 8) (qN (gz 9) (qN (gz 10) (qN (gz 11) (qN (gz 12) iI))))))))
 (aP (cS 13)
 (aP nK
 (aP (u7 (aP nK
 (aP (cS 14)
 (aP (k9 15 vK)
 (aP (k9 16 vK)
 (fK jS))))))
 (aP (i7 17 s ["j", "reach", "want"] [none,some 11,some 3])
 (aP (cS 18)
 (aP (k9 15 vK)
 (aP (k9 16 vK)
 (aP (cS 19)
 (aP (cS 20)
 (fK jS))))))))))),rfl⟩
def dO:Fq->Fq->Qv:=by exists kA
theorem lf{P:VB}{w:World}{K:U6}{mg:Str->Option Value}{base:Heap}(T:Tx P w K mg base):FnQ P w K mg base "_law_leaf" 2 ["world", "pot", "known", "want", "cell"] dA:=lX.2 T _ _ 1 (VH _) (iM (T.d ("_law_grown",55,["world", "pot", "known", "want", "deep", "nest"]) (by decide +kernel)) (N:=["world", "pot", "known", "want", "deep", "nest", "script", "M", "roads", "makes", "reach", "names", "cell", "some", "v", "two", "way", "part", "near", "front", "three"]) ⟨rfl,rfl,rfl,by decide +kernel,rfl,by decide +kernel,by decide +kernel⟩) (iM (T.d ("_law_bound",54,["world", "pot", "known", "want", "deep", "nest", "cell"]) (by decide +kernel)) (N:=["world", "pot", "known", "want", "deep", "nest", "cell", "script", "M", "roads", "makes", "reach", "names", "x", "j", "one", "two", "near", "k", "front", "way"]) ⟨rfl,rfl,rfl,by decide +kernel,rfl,by decide +kernel,by decide +kernel⟩)
theorem T9:∀j:Nat,([none,some 0,some 1,some 2,some 4,some 5]:List (Option Nat))[j]?=some (some 1)->j=2
 | 0,h=>by cases h
 | 1,h=>by cases h
 | 2,_=>rfl
 | 3,h=>by cases h
 | 4,h=>by cases h
 | 5,h=>by cases h
 | _+6,h=>by cases h
def jZ:=R9 (x := "_law_grown") (ps:=["world", "pot", "known", "want", "deep", "nest"]) (k:=2) ["world", "pot", "known", "want", "deep", "nest", "script", "M", "roads", "makes", "reach", "names", "cell", "some", "v", "two", "way", "part", "near", "front", "three"] 55 λT G B j M ih ib s F q J=>by have:=fx bF (cH.2 T);have:=fx eA (fV.2 T);have:FnQ _ _ _ _ _ "_law_leaf" 2 ["world", "pot", "known", "want", "cell"] dA:=lf T;exact⟨_,(aP (rQ (R5 6 (qN (gz 6) (qN (gz 7) (qN (gz 8) (qN (gz 9) (qN (gz 10) (qN (gz 11) iI))))))))
 (aP nK
 (aP nK
 (aP (cS 12)
 (aP (i7 13 s ["v", "reach", "makes", "want"] [none,some 10,some 9,some 3])
 (aP (u7 (fK (yE vK)))
 (aP (u7 (aP (cS 14)
 (aP (yY 15 s ["k", "world", "pot", "known", "deep", "nest"] [none,some 0,some 1,some 2,some 4,some 5] 2 (λ_ _ _ _=>vK) (λ_ _ _ _ _=>gz 0) rfl (λj h=>T9 j h))
 (aP (cS 16)
 (aP (cS 17 (wt (vM (by trivial) (vM (by trivial) (vM (O4 eD T.n My.boot_tuple (O6 (PD.b (PF.d (dZ s ["one"] [none]))) gC)) iY))) (lc (lc (lc l0)))))
 (fK (jS (wt (vM (by trivial) (vM (wt (vM (by trivial) (vM (by trivial) (vM (O4 eD T.n My.boot_tuple (O6 (PD.b (PF.d (dZ s ["one"] [none]))) gC)) (vM (by trivial) iY)))) (lc (lc (lc (lc l0))))) iY)) (lc (lc l0))))))))))
 (aP (u7 (fK (yE vK)))
 (aP (i7 18 s ["j", "reach", "want"] [none,some 10,some 3])
 (aP (cS 19)
 (aP (yY 20 s ["k", "world", "pot", "known", "deep", "nest"] [none,some 0,some 1,some 2,some 4,some 5] 2 (λ_ _ _ _=>vK) (λ_ _ _ _ _=>gz 0) rfl (λj h=>T9 j h))
 (aP (cS 16)
 (fK (jS (wt (vM (qD f7 (by trivial) (PD.b (O4 eD T.n My.boot_tuple (O6 (PD.b (PF.d (dZ s ["one"] [none]))) gC)))) (vM (qD f7 (PD.b (qD f7 (by trivial) (PD.b (O4 eD T.n My.boot_tuple (O6 (PD.b (PF.d (dZ s ["one"] [none]))) gC))))) (by trivial)) iY)) (lc (lc l0))))))))))))))))),rfl⟩
def bU:Fq->Fq->Qv:=by exists jZ
def GB:Nat->Fq×Fq
 | 0=>(λ_=>none,λ_=>none)
 | n+1=>(oQ 21 (bU (GB n).1 (GB n).2),oQ 21 (dO (GB n).1 (GB n).2))
theorem EJ{P:VB}{w:World}{K:U6}{mg:Str->Option Value}{base:Heap}(T:Tx P w K mg base):∀n,FnQ P w K mg base "_law_grown" (2+n+1) ["world", "pot", "known", "want", "deep", "nest"] (GB n).1/\FnQ P w K mg base "_law_bound" (2+n+1) ["world", "pot", "known", "want", "deep", "nest", "cell"] (GB n).2
 | 0=>⟨iM (T.d ("_law_grown",55,["world", "pot", "known", "want", "deep", "nest"]) (by decide +kernel)) (N:=["world", "pot", "known", "want", "deep", "nest", "script", "M", "roads", "makes", "reach", "names", "cell", "some", "v", "two", "way", "part", "near", "front", "three"]) ⟨rfl,rfl,rfl,by decide +kernel,rfl,by decide +kernel,by decide +kernel⟩,iM (T.d ("_law_bound",54,["world", "pot", "known", "want", "deep", "nest", "cell"]) (by decide +kernel)) (N:=["world", "pot", "known", "want", "deep", "nest", "cell", "script", "M", "roads", "makes", "reach", "names", "x", "j", "one", "two", "near", "k", "front", "way"]) ⟨rfl,rfl,rfl,by decide +kernel,rfl,by decide +kernel,by decide +kernel⟩⟩
 | n+1=>have⟨a,b⟩:=EJ T n;⟨jZ.2 T _ _ _ (by lia) a b,kA.2 T _ _ _ (by lia) a b⟩
def kK:Fq:=(GB 10).1
theorem qQ{P:VB}{w:World}{K:U6}{mg:Str->Option Value}{base:Heap}(T:Tx P w K mg base):FnQ P w K mg base "_law_grown" 13 ["world", "pot", "known", "want", "deep", "nest"] kK:=(EJ T 10).1
def gI:Zt "_law_program" ["script", "M", "roads", "makes", "reach"] 14 11:=jF ["script", "M", "roads", "makes", "reach", "names", "heads", "want", "world", "part", "reading"] 57 λT s B q F=>by have:=fx bF (cH.2 T);have:=fx fB (kH.2 T);have:=fx dQ (e9.2 T);exact⟨_,(c0 (aL 5) (c0 (aL 6) (c0 (aL 7) (c0 (aL 8) (c0 (gA (wN (qQ T) (by assumption) (by trivial) (by trivial) (by trivial) (by trivial) rfl (by trivial)) (gB (My.hU (n:=2) rfl (by trivial)))) a8))))),rfl⟩
def gP:Sv:=by exists gI
def gK:=aS 11 gP
def uO:Zt "way_of" ["reading"] 1 1:=jF ["reading"] 32 λT s B q F=>by exact⟨_,a8,rfl⟩
def mW:Sv:=by exists uO
def eB:=aS 1 mW
def eK:Zt "with_place" ["places", "x"] 1 3:=jF ["places", "x", "more"] 39 λT s B q F=>by exact⟨_,(cO [2] (cJ 2 (UF (DK rfl q.units) T.n My.boot_dict (by trivial))) (c0 (qA 2) a8)),rfl⟩
def iD:Sv:=by exists eK
def eL:=aS 3 iD
abbrev Zv(x:Str)(ps:List Str)(k n:Nat):Type:={b:(List D->Option D)->Sv // ∀ {P:VB} {w:World} {K:U6} {mg:Str->Option Value} {base:Heap},Tx P w K mg base->∀(R:List D->Option D) (j:Nat),k<=j->Fn P w K mg base "rows_at" j ["book", "places", "tally", "reading", "start"] R->Fn P w K mg base x (j+1) ps (aS n (b R))}
def xP(N:List Str)(i:Nat){x:Str}{ps:List Str}{k:Nat}{b:(List D->Option D)->Sv}(h:∀ {P:VB} {w:World} {K:U6} {mg:Str->Option Value} {base:Heap} {F:Addr} {B:Value} {A:VJ} {q:List Env} {H:Hp} {E:XK} (T:Tx P w K mg base) (R:List D->Option D) (j:Nat) (J:k<=j) (ih:Fn P w K mg base "rows_at" j ["book", "places", "tally", "reading", "start"] R) (s:U5) (nd:N.Nodup) (G:Room (j) (A.deeper (V9 x (aE (top i)) s.heap.objs.size F B))) (hu:(A.deeper (V9 x (aE (top i)) s.heap.objs.size F B)).units+1<cLine),∃g,PSDs (gE sP P w K mg base N x (aE (top i)) F B A q s H E).nox ⟨[],[]⟩ [] (a9 (top i)) g []/\g=b R)(M:(x,i,ps)∈tab:=by decide +kernel)(sc:FnScope N ps (aE (top i)):=by exact⟨rfl,rfl,rfl,by decide +kernel,rfl,by decide +kernel,by decide +kernel⟩):Zv x ps k N.length:=⟨b,λT R j J ih=>zK (T.d _ M) sc λF B A q s H E G=>h T R j J ih s sc.nd G (qI G)⟩
local macro_rules | `(tactic|exists $x:ident) => `(tactic|(refine' (?f:∀y:(List D -> Option D) -> Sv, zah $x = y -> (List D -> Option D) -> Sv) _ ?h;(case h => unfold $x;(try unfold xP);(try unfold J4);(try dsimp only);try exact rfl);(case f => exact λy _ => y)))
def jX:Zv "name_rows" ["book", "places", "tally", "reading", "start"] 1 5:=xP ["book", "places", "tally", "reading", "start"] 36 λT R j G ih s B q F=>by exact⟨_,a8,rfl⟩
def dN:(List D->Option D)->Sv:=by exists jX
def gH:Zv "number_rows" ["book", "places", "tally", "reading", "start"] 1 5:=xP ["book", "places", "tally", "reading", "start"] 37 λT R j G ih s B q F=>by exact⟨_,a8,rfl⟩
def cT:(List D->Option D)->Sv:=by exists gH
def mO:Zv "use_rows" ["book", "places", "tally", "reading", "start"] 1 7:=xP ["book", "places", "tally", "reading", "start", "rows", "one"] 38 λT R j J ih s B q G=>by exact⟨_,(cO [5] (cJ 5) (c0 (cP [5] [] (aM (wM (i:=5) (pv 5) (by trivial) rfl (zO zbq PySem.F.slot_list_extend PySem.F.type_list_extend My.v8 (pv 5) (cA (PD.pe (by trivial)) hJ))))) a8)),rfl⟩
def eO:(List D->Option D)->Sv:=by exists mO
def lT:Zv "let_rows" ["book", "places", "tally", "reading", "start"] 1 8:=xP ["book", "places", "tally", "reading", "start", "r", "keep", "s"] 40 λT R j G ih s B q F=>by have:=fx eL (eK.2 T);exact⟨_,(c0 (aL 5) (c0 (aL 6) (c0 (aL 7) a8))),rfl⟩
def eP:(List D->Option D)->Sv:=by exists lT
def j8:Zv "pick_rows" ["book", "places", "tally", "reading", "start"] 1 9:=xP ["book", "places", "tally", "reading", "start", "q", "r", "second", "s"] 41 λT R j G ih s B q F=>by exact⟨_,(c0 (aL 5) (c0 (aL 6) (c0 (aL 7) (c0 (aL 8) a8)))),rfl⟩
def dP:(List D->Option D)->Sv:=by exists j8
def iE:Zv "again_rows" ["book", "places", "tally", "reading", "start"] 1 11:=xP ["book", "places", "tally", "reading", "start", "place", "r", "turning", "s", "behind", "ahead"] 42 λT R j G ih s B q F=>by have:=fx eL (eK.2 T);exact⟨_,(c0 (aL 5) (c0 (aL 6) (c0 (aL 7) (c0 (aL 8) (c0 (aL 9) (c0 (aL 10) a8)))))),rfl⟩
def c4:(List D->Option D)->Sv:=by exists iE
abbrev Zw(x:Str)(ps:List Str)(k n m:Nat):Type:={b:(List D->Option D)->Sv // ∀ {P:VB} {w:World} {K:U6} {mg:Str->Option Value} {base:Heap},Tx P w K mg base->Fn P w K mg base x (k+2*m+1) ps (xQ n b m)}
def QZ(N:List Str)(i:Nat){x:Str}{ps:List Str}{k m:Nat}{b:(List D->Option D)->Sv}(h:∀ {P:VB} {w:World} {K:U6} {mg:Str->Option Value} {base:Heap} {fa:Addr} {cdv:Value} {A:VJ} {outer:List Env} {H:Hp} {E:XK} (T:Tx P w K mg base) (R:List D->Option D) (j:Nat) (hj:k<=j) (hj1:k<=j+1) (ih:Fn P w K mg base x j ps R) (s:U5) (nd:N.Nodup) (hr:Room (j+1) (A.deeper (V9 x (aE (top i)) s.heap.objs.size fa cdv))) (hu:(A.deeper (V9 x (aE (top i)) s.heap.objs.size fa cdv)).units+1<cLine),∃g,PSDs (gE sP P w K mg base N x (aE (top i)) fa cdv A outer s H E).nox ⟨[],[]⟩ [] (a9 (top i)) g []/\g=b R)(me:(x,i,ps)∈tab:=by decide +kernel)(sc:FnScope N ps (aE (top i)):=by exact⟨rfl,rfl,rfl,by decide +kernel,rfl,by decide +kernel,by decide +kernel⟩):Zw x ps k N.length m:=⟨b,λT=>by
 induction m with
 | zero=>exact zG (T.d _ me) sc
 | succ m ih=>exact zK (T.d _ me) sc λfa cdv A outer s H E hr=>h T _ (k+2*m+1) (by lia) (by lia) ih s sc.nd hr (qI hr)⟩
local macro_rules | `(tactic|exists $x:ident) => `(tactic|(refine' (?f:∀y:(List D -> Option D) -> Sv, zah $x = y -> (List D -> Option D) -> Sv) _ ?h;(case h => unfold $x;(try unfold QZ);(try unfold J4);(try dsimp only);try exact rfl);(case f => exact λy _ => y)))
def pW:Zw "rows_at" ["book", "places", "tally", "reading", "start"] 1 6 6:=QZ ["book", "places", "tally", "reading", "start", "rows"] 35 λT R j N U ih s Y W hu=>by have:=fx eB (uO.2 T);have G:=fx (aS 5 (dN R)) (jX.2 T R j N ih);have q:=fx (aS 5 (cT R)) (gH.2 T R j N ih);have M:=fx (aS 7 (eO R)) (mO.2 T R j N ih);have J:=fx (aS 8 (eP R)) (lT.2 T R j N ih);have F:=fx (aS 9 (dP R)) (j8.2 T R j N ih);have B:=fx (aS 11 (c4 R)) (iE.2 T R j N ih);exact⟨_,(c0 (aL 5 (UT T.k_ROWS (.cons G rfl (.cons q rfl (.cons M rfl (.cons J rfl (.cons F rfl (.cons B rfl .nil)))))) W)) (a8 (qD f7 (by trivial) (PD.b (PF.d (dZ s ["number", "book"] [none,some 0])))))),rfl⟩
def bS:(List D->Option D)->Sv:=by exists pW
def jJ:=xQ 6 bS 6
def oZ:Zt "rows_of" ["book", "heads", "reading"] 15 6:=jF ["book", "heads", "reading", "places", "x", "k"] 34 λT s B q F=>by have:=fx jJ (pW.2 T);exact⟨_,(cO [3] (cJ 3 DI) (c0 (cP [3] [] (aM (qA 3))) a8)),rfl⟩
def pC:Sv:=by exists oZ
def fU:=aS 6 pC
def jL:Zr "_law_due" ["world", "names", "at", "tally", "reading"] 0 14 6:=J4 ["world", "names", "at", "tally", "reading", "roads", "makes", "first", "behind", "second", "rows", "one", "goal", "place"] 58 λT R j J ih s B q G=>by exact⟨_,(c0 (gA (by trivial) (gB (My.hU (n:=2) rfl (jH (λa b=>(iR a b)) (iQ (i8 (i:=5) B rfl (W0 rfl))) (by trivial))))) (c0 (fO (c0 (aL 7) (c0 (aL 8) (c0 (aL 9) a8)))) (c0 (F8 (aM (aL 10 (PF.d (E8 (vM (EO (vM (by trivial) (vM (C1 q.units (by trivial) (by trivial) (λm h k=>(zO zbq PySem.F.slot_list_index PySem.F.type_list_index m h k))) (by trivial))) (λρ ds h=>(by have:=(lc (lc l0)) ρ ds h;lia))) (by trivial)) (λρ ds h=>(by have:=(lc l0) ρ ds h;lia)))))) (aM (F8 (aM (aL 10)) (aM (F8 (cO [10] (cJ 10) (cO [10] (cP [10] [10] (PSDs.pre (O1:=[]) (aM (cJ 10 (L5 (by trivial) (by trivial)))) rfl)) (aM (oA 10)))) (aM (F8 (c0 (aL 10) (c0 (aL 7) (c0 (aL 12) (c0 (aL 9) (aM (aL 10)))))) (c0 (aL 13) (c0 (aL 10) (c0 (aL 12) (c0 (aL 9) (c0 (aL 10) (aM (aL 10)))))))))))))) (a8 (qD f7 (by trivial) (PD.b (PF.d (dZ s ["r", "roads"] [none,some 5])))))))),rfl⟩
def bA:(List D->Option D)->Sv:=by exists jL
def fX:=xQ 14 bA 6
def K7:{b:Sv // ∀ {P:VB} {w:World} {K:U6} {mg:Str->Option Value} {base:Heap},Tx P w K mg base->U1 P w K mg base ["script", "M", "kinds", "roads", "makes", "made", "reach", "heads", "want", "part", "reading", "handed", "found", "due"] "law" s_law 15 b}:=⟨_,λT G F A q s H E B=>by have M:=qI B;have J:=sc_law.nd;have:=fx EH (FG.2 T);have:=fx bF (cH.2 T);have:=fx g8 (mN.2 T);have:=fx fX (jL.2 T);have:=fx gK (gI.2 T);have:=fx j4 (j3.2 T);have:=fx fU (oZ.2 T);exact⟨_,(c0 (gA (by trivial) (gB (My.hU (n:=4) rfl (by trivial)))) (c0 (aL 5) (c0 (aL 6) (c0 (gA (by trivial) (gB (My.hU (n:=4) rfl (by trivial)))) (c0 (aL 11) (c0 (aL 12) (c0 (aL 13 (cD (fx fX (jL.2 T)) (B.mono (by decide)) (vM (by trivial) (vM (PF.d (dZ s ["head"] [none])) (by trivial))) (lc (lc (lc (lc (lc l0))))))) a8))))))),rfl⟩⟩
def FS:Sv:=by exists K7
def Bd(k:Nat)(x:Int):Prop:=-(10^k)<x/\x<10^k
theorem Bd.mono(h:Bd k x)(l:k<=m):Bd m x:=by
 have:(10:Int)^k<=10^m:=by
  have:=Nat.pow_le_pow_right (show 0<10 by decide) l;exact_mod_cast this
 exact⟨by have:=h.1;lia,by have:=h.2;lia⟩
theorem Bd.mul(h:Bd k x)(g:Bd m y):Bd (k+m) (x*y):=by
 have:=NK h.1 h.2 g.1 g.2;unfold Bd;rw[Int.pow_add];exact this
theorem Bd.add(h:Bd k x)(g:Bd k y):Bd (k+1) (x+y):=by
 have a:=h.1;have b:=h.2;have c:=g.1;have d:=g.2;unfold Bd;rw[Int.pow_succ];constructor <;> lia
theorem Bd.neg(h:Bd k x):Bd k (-x):=⟨by have:=h.2;lia,by have:=h.1;lia⟩
theorem Bd.mulH(h:Bd k x)(g:Bd m y)(B:k<=500)(q:m<=500):cZ (.int x) (.int y)=some (.int (x*y)):=by
 have e:(10:Int)^500=10^250*10^250:=by rw[<- Int.pow_add]
 have h':=h.mono B;have g':=g.mono q;unfold Bd at h' g';rw[e]at h' g';exact eU h'.1 h'.2 g'.1 g'.2
theorem Bd.of(q:M<10^60)(h:0<=x/\x<=M):Bd 60 x:=by
 have:(0:Int)<10^60:=by decide +kernel
 exact⟨by lia,by lia⟩
theorem Bd.mod(h0:0<M)(q:M<10^60):Bd 61 (x%M):=(Bd.of q ⟨VP x (WJ h0),Int.le_of_lt (VQ x h0)⟩).mono (by decide)
theorem cX(ns:List Int):∃f:Int->Int,∀k:Int,0<=k->k<=1000->bF [.lst (ns.map .int),.int k]=some (.int (f k)):=by
 have h:∀k:Int,∃c:Int,0<=k->k<=1000->bF [.lst (ns.map .int),.int k]=some (.int c):=λk=>by
  by_cases h0:0<=k
  ·by_cases h1:k<=1000
   ·by_cases B:k<(ns.length:Int)
    ·obtain⟨c,G,_⟩:=uC h0 B
     exact⟨c,λ_ _=>aQ (by simp_all[iP,aK,B,G])⟩
    ·have N:cZ (.int 40692) (.int k)=some (.int (40692*k)):=eU (by decide +kernel) (by decide +kernel) (by lia) (by lia)
     have U:cZ (.int k) (.int k)=some (.int (k*k)):=eU (by lia) (by lia) (by lia) (by lia);have fin:∀y:Int,-(100000000000)<y->y<100000000000->cZ (.int y) (.int 48271)=some (.int (y*48271))/\cZ (.int (y*48271%2147483647)) (.int (y*48271%2147483647))=some (.int (y*48271%2147483647*(y*48271%2147483647))):=λy a b=>by
      have c:=VP (y*48271) (show(2147483647:Int)≠0 by decide);have d:=VQ (y*48271) (show(0:Int)<2147483647 by decide);exact⟨eU (by lia) (by lia) (by decide +kernel) (by decide +kernel),eU (by lia) (by lia) (by lia) (by lia)⟩
     by_cases F:(0:Int)<(ns.length:Int)
     ·have q:0<ns.length:=by lia
      obtain⟨c,G,_⟩:=uC (ns:=ns) (k:=k*k%(ns.length:Int)) (VP _ (WJ F)) (VQ _ F);have c0:=VP c (show(2147483647:Int)≠0 by decide);have W:=VQ c (show(0:Int)<2147483647 by decide);obtain⟨J,M⟩:=fin (40692*k+1+c%2147483647) (by lia) (by lia);exact⟨_,λ_ _=>aQ (by simp_all[iP,aK,B,N,U,q,cF F,G,cF,J,M];rfl)⟩
     ·have q:¬ 0<ns.length:=by lia
      obtain⟨J,M⟩:=fin (40692*k+1) (by lia) (by lia);exact⟨_,λ_ _=>aQ (by simp_all[iP,aK,B,N,q,cF,J,M];rfl)⟩
   ·exact⟨0,λ_ z=>absurd z h1⟩
  ·exact⟨0,λz=>absurd z h0⟩
 exact⟨λk=>(h k).choose,λk=>(h k).choose_spec⟩
theorem JO{ss:List Str}(h:∀s∈ss,∃n,s=⟨#[n]⟩):(ss.map (·.length)).sum=ss.length:=by
 induction ss with
 | nil=>rfl
 | cons s ss ih=>
  obtain⟨n,rfl⟩:=h s (V2 ..);rw[VG,List.sum_cons,ih λt q=>h t (V1 _ q),VR];show 1+ss.length=ss.length+1
  lia
noncomputable def sg(S:Str)(i:Int):Nat:=S.cps.toList.getD i.toNat 0
theorem JH(hz:z.length<=1000)(h0:0<=i)(h:i<(z.length:Int)):aF (.str z) (.int i)=some (.str ⟨#[sg z i]⟩):=by
 obtain⟨j,rfl⟩:∃j:Nat,i=(j:Int):=⟨i.toNat,by lia⟩;have q:j<z.cps.toList.length:=by rw[W9];show j<z.length;lia
 have e:d7 z.cps.toList (j:Int)=some z.cps.toList[j]:=bX (by simp_all[q]);have B:sg z (j:Int)=z.cps.toList[j]:=by
  unfold sg;rw[W1,List.getD_eq_getElem?_getD,V6 q];rfl
 rw[B];show(if aW z.length then(d7 z.cps.toList (j:Int)).map (λc=>D.str ⟨#[c]⟩)else none)=_;rw[if_pos (show aW z.length=true from decide_eq_true (by lia)),e];rfl
theorem join_ones:∀l:List Nat,(Str.join "" (l.map λg=>(⟨#[g]⟩:Str))).cps.toList=l
 | []=>rfl
 | [g]=>rfl
 | g::g'::l=>by
  have ih:=join_ones (g'::l);show((⟨#[g]⟩:Str) ++ "" ++ Str.join "" ((g'::l).map λg=>(⟨#[g]⟩:Str))).cps.toList=_;have e:∀a b:Str,(a++b).cps=a.cps++b.cps:=λ_ _=>rfl
  rw[e,e,Array.toList_append,Array.toList_append,ih];rfl
theorem DG:Txt.join sep ys=Str.join sep ys:=by
 have:=join_closes (sep:=sep) (sep':=sep) (ys:=ys) rfl;simpa using this
theorem CS(l:List Nat):((l.map λg=>(⟨#[g]⟩:Str)).map (·.length)).sum=l.length:=by
 rw[JO (ss:=l.map λg=>(⟨#[g]⟩:Str)) λs hs=>by obtain⟨g,_,rfl⟩:=List.mem_map.mp hs;exact⟨g,rfl⟩,VD]
noncomputable def low(c:Nat):Bool:=decide (97<=c) && decide (c<=122)
def fJ(x:Str):Bool:=decide (1<=x.length) && decide (x.length<=8) && (x.cps.toList.all low) && !((["let", "in", "pick", "again"]:List Str).contains x)
theorem NZ(c:Nat):(!decide ((⟨#[c]⟩:Str).cps.toList<("a" : Str).cps.toList))=decide (97<=c)/\(!decide (("z" : Str).cps.toList<(⟨#[c]⟩:Str).cps.toList))=decide (c<=122):=by
 have ea:("a" : Str).cps.toList=[97]:=by decide
 have B:("z" : Str).cps.toList=[122]:=by decide
 have q:(⟨#[c]⟩:Str).cps.toList=[c]:=rfl;rw[ea,B,q];have h1:([c]<[97])↔c<97:=by simp_all[List.cons_lt_cons_iff]
 have h2:([122]<[c])↔122<c:=by simp_all[List.cons_lt_cons_iff]
 constructor
 ·by_cases h:c<97
  ·rw[decide_eq_true (h1.mpr h),decide_eq_false (by lia)];rfl
  ·rw[decide_eq_false (λz=>h (h1.mp z)),decide_eq_true (by lia)];rfl
 ·by_cases h:122<c
  ·rw[decide_eq_true (h2.mpr h),decide_eq_false (by lia)];rfl
  ·rw[decide_eq_false (λz=>h (h2.mp z)),decide_eq_true (by lia)];rfl
theorem uT:∀(cs:List Nat) (o:Option D),bD (aJ 0) gD (eT vH vH (eC (.str "a")) (aD 0) (eC (.str "z"))) (cs.map λc=>.str ⟨#[c]⟩) [o]=some ((cs.map low).map .bl)
 | [],o=>rfl
 | c::cs,o=>by
  have ih:=uT cs (some (.str ⟨#[c]⟩));obtain⟨G,F⟩:=NZ c;have q:vH (.str "a") (.str ⟨#[c]⟩)=some (.bl (decide (97<=c))):=by rw[q_leAS,G]
  have B:vH (.str ⟨#[c]⟩) (.str "z")=some (.bl (decide (c<=122))):=by rw[q_leAS,F]
  by_cases h:97<=c
  ·simp_all[-W7,-q_leAS,bD,eT,q,B,h,ih,low]
  ·simp_all[-W7,-q_leAS,bD,eT,q,h,ih,low]
theorem pR(hl:x.length<=1000):jN [.str x]=some (.bl (fJ x)):=by
 refine aQ ?_;have hz:aW x.length=true:=decide_eq_true (by lia);have le:bY [.str x]=some (.int (x.length:Int)):=if_pos hz;have U:=uT x.cps.toList none;have J:aW (P.signs x).length=true:=by
  have:(P.signs x).length=x.length:=by unfold P.signs;rw[VD,W9];rfl
  rw[this];exact hz
 have Y:(List.map low x.cps.toList).all id=x.cps.toList.all low:=by rw[List.all_map];rfl
 unfold pL fJ;by_cases h1:x.length<1
 ·have B:(x.length:Int)<1:=by lia
  have h2:decide (1<=x.length)=false:=decide_eq_false (by lia);rw[h2]
  ac_rfl
 ·have B:¬ (x.length:Int)<1:=by lia
  have h2:decide (1<=x.length)=true:=decide_eq_true (by lia);rw[h2];by_cases h8:8<x.length
  ·have q:(8:Int)<(x.length:Int):=by lia
   have M:decide (x.length<=8)=false:=decide_eq_false (by lia);rw[M]
   ac_rfl
  ·have q:¬ (8:Int)<(x.length:Int):=by lia
   have M:decide (x.length<=8)=true:=decide_eq_true (by lia);rw[M];unfold P.signs at J;by_cases G:x = "let" \/ x = "in" \/ x = "pick" \/ x = "again"
   ·have F:(["let", "in", "pick", "again"]:List Str).contains x=true:=by simpa using G
    rw[F]
    ac_rfl
   ·have F:(["let", "in", "pick", "again"]:List Str).contains x=false:=by simpa using G
    rw[F];have sg:P.signs x=x.cps.toList.map λc=>D.str ⟨#[c]⟩:=rfl
    have W:BW [.lst ((x.cps.toList.map low).map .bl)]=some (.bl (x.cps.toList.all low)):=by rw[q_all,Y]
    have N:aW x.cps.size=true:=hz;simp[-U9,-VA,aA,aB,-W7,-q_all,aK,le,B,q,G,sg,N,jV,U]at W ⊢
    ac_rfl
theorem K1(h0:0<=i)(h:i<26):aF (.str "abcdefghijklmnopqrstuvwxyz") (.int i)=some (.str ⟨#[97+i.toNat]⟩):=by
 have l:("abcdefghijklmnopqrstuvwxyz" : Str).length=26:=by decide +kernel
 rw[JH (by rw[l];decide) h0 (by rw[l];exact h)];have:∀j:Fin 26,sg "abcdefghijklmnopqrstuvwxyz" (j.val:Int)=97+j.val:=by decide +kernel
 have e:=this ⟨i.toNat,by lia⟩;have q:((i.toNat:Nat):Int)=i:=by lia
 rw[q]at e;rw[e]
noncomputable def jG(c:Int):Int:=if c/26%5=0 then 1 else if c/26%5=4 then 8 else c/26%5+2
def lL(c k:Int):List Nat:=if c/1664%3=0 then VZ (1+(c+k)%8).toNat (97+(c%26).toNat)else(VZ (jG c).toNat (97+(c%26).toNat)).set (c/130%jG c).toNat (97+((c+1+k)%26).toNat)
def b7(c k:Int):Str:=⟨(lL c k).toArray⟩
theorem zP(c:Int):1<=jG c/\jG c<=8/\jG c≠2:=by
 unfold jG;have:=VP (c/26) (show(5:Int)≠0 by decide);have:=VQ (c/26) (show(0:Int)<5 by decide);split
 ·lia
 ·split <;> lia
theorem iX(c k:Int):(lL c k).length=(if c/1664%3=0 then(1+(c+k)%8).toNat else(jG c).toNat):=by
 unfold lL;split <;> simp[-U9,-VA,aA,aB]
theorem rY(c k:Int):1<=(b7 c k).length/\(b7 c k).length<=8:=by
 have e:(b7 c k).length=(lL c k).length:=by show(lL c k).toArray.size=_;simp[-U9,-VA,aA,aB]
 have z:=zP c;rw[e,iX];split <;> lia
theorem LW(c k:Int):(b7 c k).cps.toList.all low=true:=by
 show(lL c k).toArray.toList.all low=true;rw[Z0];intro x q;have q:x∈lL c k:=by simpa using q
 have a:x=97+(c%26).toNat\/x=97+((c+1+k)%26).toNat:=by
  unfold lL at q;split at q
  ·exact .inl (ZS q)
  ·rcases List.mem_or_eq_of_mem_set q with z|z
   ·exact .inl (ZS z)
   ·exact .inr z
 unfold low;have:97<=x/\x<=122:=by lia
 ac_rfl
theorem JT(c k:Int):∃(a s:Nat),∀i x,i≠s->(lL c k)[i]?=some x->x=a:=by
 unfold lL;split
 ·exact⟨97+(c%26).toNat,100,λi x _ h=>ZS (WS h)⟩
 ·refine⟨97+(c%26).toNat,(c/130%jG c).toNat,λi x hi h=>?_⟩
  rw[zak (VY hi)]at h;exact ZS (WS h)
theorem three{a s i j k x y z:Nat}{w:List Nat}(h:∀i x,i≠s->w[i]?=some x->x=a)(G:w[i]?=some x)(F:w[j]?=some y)(hz:w[k]?=some z)(n:i≠j/\i≠k/\j≠k)(m:x≠y/\x≠z/\y≠z):False:=by
 by_cases e:i=s
 ·have p:=h j y (λq=>n.1 (e.trans q.symm)) F
  have q:=h k z (λq=>n.2.1 (e.trans q.symm)) hz;exact m.2.2 (p.trans q.symm)
 ·have p:=h i x e G
  by_cases B:j=s
  ·exact m.2.1 (p.trans (h k z (λq=>n.2.2 (B.trans q.symm)) hz).symm)
  ·exact m.1 (p.trans (h j y B F).symm)
theorem rB{c k:Int}{w:List Nat}(hw:w=[108,101,116]\/w=[112,105,99,107]\/w=[97,103,97,105,110]):lL c k≠w:=by
 rintro rfl;obtain⟨a,s,h⟩:=JT c k;rcases hw with e|e|e <;> rw[e]at h
 ·exact three (i:=0) (j:=1) (k:=2) h rfl rfl rfl (by decide) (by decide)
 ·exact three (i:=0) (j:=1) (k:=2) h rfl rfl rfl (by decide) (by decide)
 ·exact three (i:=0) (j:=1) (k:=3) h rfl rfl rfl (by decide) (by decide)
theorem M9:lL c k≠[105,110]:=by
 intro e;have l:=congrArg X2 e;rw[iX]at l;have z:=zP c;unfold lL at e;split at e
 ·have h0:(105:Nat)∈[105,110]:=by decide
  have h1:(110:Nat)∈[105,110]:=by decide
  rw[<- e]at h0 h1;have:=(ZS h0).trans (ZS h1).symm
  lia
 ·rw[if_neg (by assumption)]at l
  have l:(jG c).toNat=2:=l
  lia
theorem FN(h0:0<=k)(h:k<25):fJ (b7 c k)=true:=by
 obtain⟨q,F⟩:=rY c k;have hw:(["let", "in", "pick", "again"]:List Str).contains (b7 c k)=false:=by
  have e:∀s:Str,b7 c k=s->lL c k=s.cps.toList:=λs z=>by rw[<- z];simp_all[b7]
  have G:("let" : Str).cps.toList=[108,101,116]:=by decide
  have M:("in" : Str).cps.toList=[105,110]:=by decide
  have J:("pick" : Str).cps.toList=[112,105,99,107]:=by decide
  have B:("again" : Str).cps.toList=[97,103,97,105,110]:=by decide
  have:¬ (b7 c k = "let" \/ b7 c k = "in" \/ b7 c k = "pick" \/ b7 c k = "again"):=by
   rintro(z|z|z|z)
   ·exact rB (.inl G) (e _ z)
   ·exact M9 ((e _ z).trans M)
   ·exact rB (.inr (.inl J)) (e _ z)
   ·exact rB (.inr (.inr B)) (e _ z)
  simpa using this
 unfold fJ;rw[hw,LW,decide_eq_true q,decide_eq_true F];rfl
theorem nO(h0:0<=k)(h:k<8)(h2:0<=m)(J:m<8)(e:b7 c k=b7 c m):k=m:=by
 have e:lL c k=lL c m:=by
  have:=congrArg (λs:Str=>s.cps.toList) e;simpa[b7]using this
 have z:=zP c;by_cases q:c/1664%3=0
 ·have l:=congrArg X2 e
  rw[iX,iX,if_pos q,if_pos q]at l
  lia
 ·unfold lL at e
  rw[if_neg q,if_neg q]at e;have F:=VP (c/130) (show jG c≠0 by lia);have B:=VQ (c/130) (show 0<jG c by lia);have G:=congrArg (λl:List Nat=>l[(c/130%jG c).toNat]?) e;simp[-U9,-VA,aA,aB,List.getElem?_set,show(c/130%jG c).toNat<(jG c).toNat by lia]at G
  lia
theorem nG:∀n:Nat,(VZ n [x]).flatten=VZ n x
 | 0=>rfl
 | n+1=>by rw[YQ,Y0,nG n];rfl
theorem MG(l:List Nat)(h:l.length<=100):p7 (.str "") (.lst (l.map λg=>.str ⟨#[g]⟩))=some (.str ⟨l.toArray⟩):=by
 have j:=NI (sep := "") (ss:=l.map λg=>(⟨#[g]⟩:Str)) (by
  rw[CS];show l.length+_*0<=_
  lia)
 rw[W7]at j;refine X9 j ?_;congr 2;rw[DG];have:=join_ones l;cases hs:Str.join "" (l.map λg=>(⟨#[g]⟩:Str))with
 | mk cps=>
  rw[hs]at this;simp only at this;rw[<- this]
theorem DL(h0:0<=i)(h:i<5):d7 [D.int 1,.int 3,.int 4,.int 5,.int 8] i=some (.int (if i=0 then 1 else if i=4 then 8 else i+2)):=by
 have:i=0\/i=1\/i=2\/i=3\/i=4:=by lia
 rcases this with rfl|rfl|rfl|rfl|rfl <;> rfl
theorem fE(h0:0<=many)(h:many<=8):dQ [.int c,.int many]=some (.lst ((VO many.toNat).map λ(k:Nat)=>.str (b7 c (k:Int)))):=by
 obtain⟨z1,z2,_⟩:=zP c;have i0:=VP (c/26) (show(5:Int)≠0 by decide);have i1:=VQ (c/26) (show(0:Int)<5 by decide);have es:=DL i0 i1;have s0:=VP (c/130) (show jG c≠0 by lia);have s1:=VQ (c/130) (show 0<jG c by lia);have a0:=VP c (show(26:Int)≠0 by decide);have a1:=VQ c (show(0:Int)<26 by decide);have z8:aW 8=true:=rfl;have U:0<jG c:=by lia
 refine aQ ?_;unfold kE;rw[aI (b5 (d:=.str "abcdefghijklmnopqrstuvwxyz") (by simp[-U9,-VA,aA,aB]))];rw[aI (b5 (d:=.int (jG c)) (by simp_all[aK,qK,cF,es,jG,z8]))];rw[aI (b5 (d:=.lst []) (by simp[-U9,-VA,aA,aB]))];refine f9 (items:=aO 0 1 many.toNat) (by simp_all[aK,bE h0 (show many<=1000000 by lia)]) (λi ρ=>∃o6 o7,ρ=[some (.int c),some (.int many),some (.str "abcdefghijklmnopqrstuvwxyz"),some (.int (jG c)),some (.lst ((VO i).map λ(k:Nat)=>.str (b7 c (k:Int)))),o6,o7]) ⟨none,none,by ac_rfl⟩ ?_ ?_
 ·rintro i x ρ hx ⟨o6,o7,rfl⟩
  obtain⟨aa,rfl⟩:=bB hx;have hI:(0:Int)+(i:Int)*1=(i:Int):=by lia
  rw[hI];have b0:=VP (c+1+(i:Int)) (show(26:Int)≠0 by decide);have b1:=VQ (c+1+(i:Int)) (show(0:Int)<26 by decide);have n0:=VP (c+(i:Int)) (show(8:Int)≠0 by decide);have n1:=VQ (c+(i:Int)) (show(0:Int)<8 by decide);have hz:aW i=true:=decide_eq_true (by lia);have B:aW (jG c).toNat=true:=decide_eq_true (by lia);have N:aW (1+(c+(i:Int))%8).toNat=true:=decide_eq_true (by lia);have q:bZ (jG c)=true:=by simp only[bZ,V5,decide_eq_true_eq];lia
  have M:bZ (1+(c+(i:Int))%8)=true:=by simp only[bZ,V5,decide_eq_true_eq];lia
  have W:=K1 a0 a1;have Y:=K1 b0 b1;have nl:(lL c (i:Int)).length<=100:=by rw[iX];split <;> lia
  have J:=MG (lL c (i:Int)) nl;have pt:=NY (l:=VZ (jG c).toNat (D.str ⟨#[97+(c%26).toNat]⟩)) (k:=c/130%jG c) (e:=.str ⟨#[97+((c+1+(i:Int))%26).toNat]⟩) s0 (by rw[List.length_replicate];lia);refine⟨[some (.int c),some (.int many),some (.str "abcdefghijklmnopqrstuvwxyz"),some (.int (jG c)),some (.lst ((VO (i+1)).map λ(k:Nat)=>.str (b7 c (k:Int)))),some (.int (i:Int)),some (.lst ((lL c (i:Int)).map λg=>.str ⟨#[g]⟩))],?_,_,_,rfl⟩;have rs:(VO (i+1)).map (λ(k:Nat)=>D.str (b7 c (k:Int)))=(VO i).map (λ(k:Nat)=>D.str (b7 c (k:Int)))++[.str (b7 c (i:Int))]:=by rw[List.range_succ,W6];rfl
  rw[rs];by_cases G:c/1664%3=0
  ·have F:lL c (i:Int)=VZ (1+(c+(i:Int))%8).toNat (97+(c%26).toNat):=by unfold lL;rw[if_pos G]
   rw[F,List.map_replicate]at J ⊢;have hs:b7 c (i:Int)=⟨(VZ (1+(c+(i:Int))%8).toNat (97+(c%26).toNat)).toArray⟩:=by unfold b7;rw[F]
   simp_all[turn,cF,cF U,qK,W,Y,nG,B,N,q,M,pt,G,J,hz,hs]
  ·have F:lL c (i:Int)=(VZ (jG c).toNat (97+(c%26).toNat)).set (c/130%jG c).toNat (97+((c+1+(i:Int))%26).toNat):=by unfold lL;rw[if_neg G]
   rw[F,List.map_set,List.map_replicate]at J ⊢;have hs:b7 c (i:Int)=⟨((VZ (jG c).toNat (97+(c%26).toNat)).set (c/130%jG c).toNat (97+((c+1+(i:Int))%26).toNat)).toArray⟩:=by unfold b7;rw[F]
   simp_all[turn,cF,cF U,qK,W,Y,nG,B,q,pt,G,J,hz,hs]
 ·rintro ρ ⟨o6,o7,rfl⟩
  rw[aU];simp[-U9,-VA,aA,aB]
structure Se where
 (x y z:Int)
noncomputable def oE(s:Se):D:=.tup [.int s.x,.int s.y,.int s.z]
def RU(M:Int)(s:Se):Prop:=(0<=s.x/\s.x<=M)/\(0<=s.y/\s.y<=M)/\0<=s.z/\s.z<=M
def GA(many:Int)(r:Ro):Prop:=(0<=r.j/\r.j<r.k/\r.k<many)/\0<=r.p/\r.p<=10^30/\Bd 61 r.a/\Bd 61 r.b
theorem vE{ss:List Se}{i:Int}(h0:0<=i)(h:i<(ss.length:Int)):∃s∈ss,d7 (ss.map oE) i=some (oE s):=by
 obtain⟨d,hd,_,e⟩:=oC (l:=ss.map oE) (k:=i) h0 (by rw[VD];exact h);obtain⟨s,hs,rfl⟩:=List.mem_map.mp hd;exact⟨s,hs,e⟩
theorem wA{M c:Int}(h3:3<=M)(N:M<10^60):∃s:Se,eR [.int M,.int c]=some (oE s)/\RU M s:=by
 suffices h:∃d,eR [.int M,.int c]=some d/\∃s:Se,d=oE s/\RU M s by
  obtain⟨d,e,s,rfl,h⟩:=h;exact⟨s,e,h⟩
 have G:(10:Int)^60=1000000000000000000000000000000000000000000000000000000000000:=by decide +kernel
 have q:0<M:=by lia
 have F:=VP c (show(5:Int)≠0 by decide);have W:=VQ c (show(0:Int)<5 by decide);have z0:=VP (c/10) (WJ q);have Y:=VQ (c/10) q;have U:=bE F (show c%5<=1000000 by lia);refine nQ ?_;unfold mI;refine cE (ρ':=[some (.int M),some (.int c),some (.int 1),some (.int 1),none]) (by simp_all[aK,cN]) ?_;refine wW (items:=aO 0 1 (c%5).toNat) (by ac_rfl) (λi ρ=>∃(a b:Int) (o:Option D),ρ=[some (.int M),some (.int c),some (.int a),some (.int b),o]/\(0<=a/\a<M)/\0<=b/\b<M) ⟨1,1,none,rfl,by lia,by lia,by lia⟩ ?_ ?_
 ·rintro i x ρ hx ⟨a,b,o,rfl,J,B⟩
  have m1:cZ (.int a) (.int 2)=some (.int (a*2)):=eU (by lia) (by lia) (by decide +kernel) (by decide +kernel);have m2:cZ (.int b) (.int ((M+1)/2))=some (.int (b*((M+1)/2))):=eU (by lia) (by lia) (by lia) (by lia);apply k6
  ·exact kO rfl (by ac_rfl)
  ·exact⟨_,_,_,rfl,⟨VP _ (WJ q),VQ _ q⟩,VP _ (WJ q),VQ _ q⟩
 ·rintro ρ ⟨a,b,o,rfl,J,B⟩
  by_cases h:c/5%2=1
  ·apply nW
   ·ac_rfl
   ·exact⟨⟨M-b,M-a,c/10%M⟩,rfl,show(0<=M-b/\M-b<=M)/\(0<=M-a/\M-a<=M)/\0<=c/10%M/\c/10%M<=M by lia⟩
  ·apply nW
   ·ac_rfl
   ·exact⟨⟨a,b,c/10%M⟩,rfl,show(0<=a/\a<=M)/\(0<=b/\b<=M)/\0<=c/10%M/\c/10%M<=M by lia⟩
theorem wV{q B t:Sv}{ρ ρ1 ρ2 ρ':bI}{o:Option Out}(h1:q ρ=some (.nx ρ1))(h2:B ρ1=some (.nx ρ2))(e:ρ2=ρ')(h:t ρ'=o):c6 q (c6 B t) ρ=o:=by rw[aI h1,aI h2,e,h]
theorem tI{ns:List Int}{M many:Int}{ss:List Se}(h3:3<=M)(B:M<10^60)(hm:1<=many/\many<=6)(hl:(ss.length:Int)=many)(hs:∀s∈ss,RU M s):∃rs:List Ro,fD [.int M,.lst (ss.map oE),.lst (ns.map .int)]=some (.lst (rs.map aY))/\rs.length<=12/\∀r∈rs,GA many r:=by
 suffices h:∃d,fD [.int M,.lst (ss.map oE),.lst (ns.map .int)]=some d/\∃rs:List Ro,d=.lst (rs.map aY)/\rs.length<=12/\∀r∈rs,GA many r by
  obtain⟨d,e,rs,rfl,h⟩:=h;exact⟨rs,e,h⟩
 have N:0<M:=by lia
 obtain⟨f,hf⟩:=cX ns;have f3:=hf 3 (by decide) (by decide);have W:∀ {rs:List Ro} {r:Ro},(∀r∈rs,GA many r)->GA many r->∀q∈rs++[r],GA many q:=λh k q hq=>by
  rcases List.mem_append.mp hq with z|z
  ·exact h q z
  ·rw[List.mem_singleton.mp z];exact k
 have el:bY [.lst (ss.map oE)]=some (.int many):=by rw[q_lenL,VD,hl]
 have pw:xR (.int 10) (.int 30)=some (.int 1000000000000000000000000000000):=vA (by decide) (by decide) (by decide);have r8:bN [.int 8]=some (aO 0 1 8):=bE (by decide) (by decide);refine nQ ?_;unfold j5;refine cE (ρ':=WI _ 3 (some (.lst []))) (by ac_rfl) ?_;refine wW (items:=aO 0 1 8) (by ac_rfl) (λi ρ=>∃(rs:List Ro) (U o5 o6 o7 o8 o9:Option D),ρ=[some (.int M),some (.lst (ss.map oE)),some (.lst (ns.map .int)),some (.lst (rs.map aY)),U,o5,o6,o7,o8,o9,none]/\rs.length<=i/\∀r∈rs,GA many r) ⟨[],none,none,none,none,none,none,rfl,VH _,λ_ h=>nomatch h⟩ ?_ ?_
 ·rintro i x ρ hx ⟨rs,U,o5,o6,o7,o8,o9,rfl,hr,F⟩
  obtain⟨ak,rfl⟩:=bB hx;have hI:0<=(0:Int)+(i:Int)*1/\(0:Int)+(i:Int)*1<8:=by lia
  generalize (0:Int)+(i:Int)*1=I at hI;have fI:=hf (10+I) (by lia) (by lia);generalize f (10+I)=c at fI;have hz:(rs.map aY).length<=1000000:=by rw[VD];lia
  have c0:=VP c (show(5:Int)≠0 by decide);have c1:=VQ c (show(0:Int)<5 by decide);have kp:0<1+c%5:=by lia
  have j0:=VP (c/5) (WJ kp);have j1:=VQ (c/5) kp;obtain⟨j,k,G,ej⟩:∃j k:Int,(0<=j/\j<k)/\∀ {t:Sv} {o:Option Out},t [some (.int M),some (.lst (ss.map oE)),some (.lst (ns.map .int)),some (.lst (rs.map aY)),some (.int I),some (.int c),some (.int j),some (.int k),o8,o9,none]=o->c6 (JV 6 7 (aH (aD 4) (aH (bC aT (aD 4) (eC (.int 1))) bQ))) (c6 (GJ (RZ (lN (bC OM (aD 4) (eC (.int 5)))) (lN (bC d6 (bC eW (a6 bF (aH (aD 2) (aH (eC (.int 3)) bQ))) (eC (.int 3))) (eC (.int 2))))) (c6 (d5 7 (bC aT (eC (.int 1)) (bC eW (aD 5) (eC (.int 5))))) (d5 6 (bC eW (bC vG (aD 5) (eC (.int 5))) (aD 7)))) O0) t) [some (.int M),some (.lst (ss.map oE)),some (.lst (ns.map .int)),some (.lst (rs.map aY)),some (.int I),some (.int c),o6,o7,o8,o9,none]=o:=by
   by_cases h5:5<=I
   ·exact⟨c/5%(1+c%5),1+c%5,⟨j0,j1⟩,λh=>by apply wV;(· ac_rfl);(· ac_rfl);(· rfl);exact h⟩
   ·by_cases h:f 3%3=2
    ·exact⟨c/5%(1+c%5),1+c%5,⟨j0,j1⟩,λh=>by apply wV;(· ac_rfl);(· ac_rfl);(· rfl);exact h⟩
    ·exact⟨I,I+1,by lia,λh=>by apply wV;(· ac_rfl);(· ac_rfl);(· rfl);exact h⟩
  by_cases hk:k<many
  ·obtain⟨⟨X,Y,Z⟩,sm,es⟩:=vE (ss:=ss) (i:=k) (by lia) (by lia)
   obtain⟨⟨x,y,z⟩,tm,et⟩:=vE (ss:=ss) (i:=j) (by lia) (by lia);have aq:d7 (ss.map oE) k=some (.tup [.int X,.int Y,.int Z]):=es;have am:d7 (ss.map oE) j=some (.tup [.int x,.int y,.int z]):=et;obtain⟨a1,a2,a3⟩:=hs _ sm;obtain⟨b1,b2,b3⟩:=hs _ tm;have m1:=(show Bd 60 X from Bd.of B a1).mulH (show Bd 60 y from Bd.of B b2) (by decide) (by decide);have m2:=(Bd.mod (x:=X*y) N B).mulH (show Bd 60 z from Bd.of B b3) (by decide) (by decide);have J:=VP (c/25) (show(1000000000000000000000000000000:Int)≠0 by decide);have w1:=VQ (c/25) (show(0:Int)<1000000000000000000000000000000 by decide);apply k6
   ·apply kO;(· rfl);apply xJ;(· ac_rfl);apply FL;refine ej ?_;ac_rfl
   ·exact⟨rs++[⟨j,k,X*y%M,(Z-X*y%M*z)%M,c/25%1000000000000000000000000000000⟩],_,_,_,_,_,_,by rw[W6];rfl,by simp[-U9,-VA,aA,aB];lia,W F ⟨⟨G.1,G.2,hk⟩,J,show c/25%1000000000000000000000000000000<=(10:Int)^30 by lia,Bd.mod N B,Bd.mod N B⟩⟩
  ·apply k6
   ·apply kO;(· rfl);apply xJ;(· ac_rfl);apply FL;refine ej ?_;ac_rfl
   ·exact⟨rs,_,_,_,_,_,_,rfl,by lia,F⟩
 ·rintro ρ ⟨rs,U,o5,o6,o7,o8,o9,rfl,hr,F⟩
  rw[aU]at hr;have ln:(rs.map aY).length=rs.length:=VD ..;have lp:(0:Int)<((rs.map aY).length:Int)+1:=by lia
  have J:=VP (f 3/3) (WJ lp);have w1:=VQ (f 3/3) lp;refine cE (by ac_rfl) ?_;generalize f 3/3%(((rs.map aY).length:Int)+1)=sp at J w1;obtain⟨c1,c2⟩:=nH (w:=rs.map aY) (c:=sp) J (by lia);refine⟨.lst ((rs.drop sp.toNat++rs.take sp.toNat).map aY),?_,_,rfl,by simp[-U9,-VA,aA,aB];lia,λr h=>?_⟩
  ·have d1:kY (.lst (rs.map aY)) (some sp) none=some (.lst ((rs.map aY).drop sp.toNat)):=by rw[q_slL,c2]
   have d2:kY (.lst (rs.map aY)) none (some sp)=some (.lst ((rs.map aY).take sp.toNat)):=by rw[q_slL,c1]
   have hz:((rs.map aY).drop sp.toNat).length+((rs.map aY).take sp.toNat).length<=1000000:=by simp[-U9,-VA,aA,aB];lia
   rw[W6,List.map_drop,List.map_take]
   ac_rfl
  ·rcases List.mem_append.mp h with z|z
   ·exact F r (List.mem_of_mem_drop z)
   ·exact F r (List.mem_of_mem_take z)
def T1(n:Nat)(t:My.Tm):Prop:=t.1.length=n/\(∀e∈t.1,0<=e/\e<=2)/\Bd 61 t.2
structure Mk where
 nm:Str
 tk:List Int
 gv:Int
 ts:List My.Tm
 p:Int
def eY(m:Mk):D:=.tup [.str m.nm,tupI m.tk,.int m.gv,.lst (m.ts.map kS),.int m.p]
structure OkM(many:Int)(n:Nat)(m:Mk):Prop where
 nm:fJ m.nm=true
 nl:m.nm.length<=8
 tk:(∃t,m.tk=[t])\/∃t u,m.tk=[t,u]
 tb:∀t∈m.tk,0<=t/\t<many
 gv:0<=m.gv/\m.gv<many
 tl:m.ts.length<=n
 tt:∀t∈m.ts,T1 m.tk.length t
 pr:0<=m.p/\m.p<=10^30
theorem Q8{q:Type}{P:q->Prop}{l:List q}{x:q}(h:∀y∈l,P y)(k:P x):∀y∈l++[x],P y:=λy B=>by
 rcases List.mem_append.mp B with z|z
 ·exact h y z
 ·rw[List.mem_singleton.mp z];exact k
theorem mU{M x:Int}(q:0<M):∀(ts:List My.Tm) (o1 o2:Option D),(∀t∈ts,cZ (.int x) (.int t.2)=some (.int (x*t.2)))->bD (kQ 2 (aR (aJ 0) (aR (aJ 1) gQ))) gD (kX (aH (aD 0) (aH (bC eW (bC cZ (aD 2) (aD 1)) (aD 3)) bQ))) (ts.map kS) [o1,o2,some (.int x),some (.int M)]=some ((ts.map λt=>(t.1,x*t.2%M)).map kS)
 | [],_,_,_=>rfl
 | t::ts,o1,o2,h=>by
  have ih:=mU q ts (some (tupI t.1)) (some (.int t.2)) λu B=>h u (V1 _ B)
  have m:=h t (V2 ..);exact dS (ρ':=[some (tupI t.1),some (.int t.2),some (.int x),some (.int M)]) rfl rfl (y:=kS (t.1,x*t.2%M)) (EQ (by ac_rfl)) ih
theorem vP{M many cell:Int}{ss:List Se}{a b c d:Int}{n0 n1:Str}(h3:3<=M)(B:M<10^60)(hm:1<=many/\many<=6)(hl:(ss.length:Int)=many)(hs:∀s∈ss,RU M s)(al:∀x∈[a,b,c,d],0<=x/\x<=M)(k0:fJ n0=true/\n0.length<=8)(k1:fJ n1=true/\n1.length<=8) :
  ∃m:Mk,g6 [.int M,.lst (ss.map oE),.lst [.int a,.int b,.int c,.int d],.lst [.str n0,.str n1],.int cell]=some (eY m)/\OkM many 7 m:=by
 suffices h:∃dd,g6 [.int M,.lst (ss.map oE),.lst [.int a,.int b,.int c,.int d],.lst [.str n0,.str n1],.int cell]=some dd/\∃m:Mk,dd=eY m/\OkM many 7 m by
  obtain⟨dd,e,m,rfl,h⟩:=h;exact⟨m,e,h⟩
 have Mp:0<M:=by lia
 have mp:0<many:=by lia
 have mm:∀x:Int,0<=x%many/\x%many<many:=λx=>⟨VP x (WJ mp),VQ x mp⟩
 have el:bY [.lst (ss.map oE)]=some (.int many):=by rw[q_lenL,VD,hl]
 have pw:xR (.int 10) (.int 30)=some (.int 1000000000000000000000000000000):=vA (by decide) (by decide) (by decide);have w0:=VP (cell/1944) (show(1000000000000000000000000000000:Int)≠0 by decide);have w1:=VQ (cell/1944) (show(0:Int)<1000000000000000000000000000000 by decide);have dp:eW (.int (cell/1944)) (.int 1000000000000000000000000000000)=some (.int (cell/1944%1000000000000000000000000000000)):=cF (by decide);generalize cell/1944%1000000000000000000000000000000=pr at w0 w1 dp;have pb:0<=pr/\pr<=10^30:=by lia
 have v0:=VP (cell/648) (show(3:Int)≠0 by decide);have v1:=VQ (cell/648) (show(0:Int)<3 by decide);have dw:vG (.int (cell/648%3)) (.int 2)=some (.int (cell/648%3/2)):=qK (by decide) (by decide);have hw:cell/648%3/2=0\/cell/648%3/2=1:=by lia
 generalize cell/648%3/2=n at dw hw;obtain⟨nm,an,W⟩:∃nm:Str,d7 [D.str n0,.str n1] n=some (.str nm)/\fJ nm=true/\nm.length<=8:=by
  rcases hw with rfl|rfl
  ·exact⟨n0,rfl,k0⟩
  ·exact⟨n1,rfl,k1⟩
 obtain⟨a',b',c',d',so,J⟩:∃a' b' c' d':Int,bC aT (KD kY (aD 2) (kP (aD 6)) qJ) (KD kY (aD 2) qJ (kP (aD 6))) [some (.int M),some (.lst (ss.map oE)),some (.lst [.int a,.int b,.int c,.int d]),some (.lst [.str n0,.str n1]),some (.int cell),some (.int many),some (.int n),none,none,none,none,none,none,none,none,none,none]=some (.lst [.int a',.int b',.int c',.int d'])/\∀x∈[a',b',c',d'],0<=x/\x<=M:=by
  rcases hw with rfl|rfl
  ·exact⟨a,b,c,d,rfl,al⟩
  ·exact⟨b,c,d,a,rfl,λx hx=>al x (by simp only[WG,WH,or_false]at hx ⊢;lia)⟩
 have ba:=Bd.of B (J a' (by simp[-U9,-VA,aA,aB]));have bb:=Bd.of B (J b' (by simp[-U9,-VA,aA,aB]));have N:=Bd.of B (J c' (by simp[-U9,-VA,aA,aB]));have U:=Bd.of B (J d' (by simp[-U9,-VA,aA,aB]));have two:Bd 60 2:=⟨by decide +kernel,by decide +kernel⟩;have gb:=mm (cell/108);have dg:eW (.int (cell/108)) (.int many)=some (.int (cell/108%many)):=cF mp;generalize cell/108%many=g at gb dg;have tb:=mm (cell/3);have dt:eW (.int (cell/3)) (.int many)=some (.int (cell/3%many)):=cF mp;generalize cell/3%many=t at tb dt;have ub:=mm (cell/18);have du:eW (.int (cell/18)) (.int many)=some (.int (cell/18%many)):=cF mp;generalize cell/18%many=u at ub du;obtain⟨⟨X,Y,Z⟩,ar,es⟩:=vE (ss:=ss) (i:=g) gb.1 (by lia);obtain⟨s1,s2,s3⟩:=hs _ ar;have bx:Bd 60 X:=Bd.of B s1;have ak:Bd 60 Y:=Bd.of B s2;have bz:Bd 60 Z:=Bd.of B s3;have b3:d7 (ss.map oE) g=some (.tup [.int X,.int Y,.int Z]):=es;have v3:=ak.mul bz;have m3:=ak.mulH bz (by decide) (by decide);have mf:∀ {v:Int},Bd 400 v->cZ (.int X) (.int v)=some (.int (X*v)):=λh=>bx.mulH h (by decide) (by decide)
 obtain⟨⟨_,i,z⟩,aq,er⟩:=vE (ss:=ss) (i:=t) tb.1 (by lia);obtain⟨r1,r2,r3⟩:=hs _ aq;have F:Bd 60 i:=Bd.of B r2;have bw:Bd 60 z:=Bd.of B r3;have G:=F.neg.mul bw;have mo:=F.neg.mulH bw (by decide) (by decide);have cq:d7 (ss.map oE) t=some (.tup [.int _,.int i,.int z]):=er;generalize -i*z=o at G mo;refine nQ ?_;unfold mQ;simp only[aK,VG,WV,VR,W5,Nat.reduceAdd,Nat.reduceSub,VZ,zaV,zaf];refine cE (cC (lA (by ac_rfl) el) (by dsimp only[WI])) (cE (cC (bV (by ac_rfl) rfl dw) (by dsimp only[WI])) (cE (cC so (by dsimp only[WI])) ?_));by_cases h0:cell%3=0
 ·have hq:d6 (.int (cell%3)) (.int 0)=some (.bl true):=by rw[q_eqI,decide_eq_true h0]
  have n1:=bb.mulH G (by decide) (by decide);have n2:=N.mulH G (by decide) (by decide);have n3:=(N.mul G).mulH G (by decide) (by decide);have n4:=N.mulH F (by decide) (by decide);have n5:=(N.mul F).mulH F (by decide) (by decide);have n6:=bb.mulH F (by decide) (by decide);have n7:=two.mulH N (by decide) (by decide);have n8:=(two.mul N).mulH F (by decide) (by decide);have n9:=((two.mul N).mul F).mulH G (by decide) (by decide);have e1:=mf (((N.mul F).mul F).mono (show 60+60+60<=400 by decide));have e2:=mf ((((bb.mul F).mono (show 60+60<=350 by decide)).add ((((two.mul N).mul F).mul G).mono (show 60+60+60+(60+60)<=350 by decide))).mono (show 350+1<=400 by decide));have e3:=mf (((((ba.mono (show 60<=300 by decide)).add ((bb.mul G).mono (show 60+(60+60)<=300 by decide))).add (((N.mul G).mul G).mono (show 60+(60+60)+(60+60)<=300+1 by decide))).add (v3.mono (show 60+60<=300+1+1 by decide))).mono (show 300+1+1+1<=400 by decide));have cm:=mU (x:=X) Mp [([2],c'*i*i),([1],b'*i+2*c'*i*o),([0],a'+b'*o+c'*o*o+Y*Z)] none none (by simp only[WG,WH,or_false];rintro t (rfl|rfl|rfl) <;> assumption);refine cE (cC (d:=.tup [.int t]) (u9 (by ac_rfl) rfl (u5 (by ac_rfl)) rfl) (by dsimp only[WI])) ?_;apply nW
  ·ac_rfl
  ·refine⟨⟨nm,[t],g,_,pr⟩,rfl,W.1,W.2,.inl ⟨t,rfl⟩,λx hx=>by rw[List.mem_singleton.mp hx];exact tb,gb,by simp[-U9,-VA,aA,aB],λq hq=>?_,pb⟩
   simp only[VG,WV,WG,WH,or_false]at hq;rcases hq with rfl|rfl|rfl <;> exact⟨rfl,by simp[-U9,-VA,aA,aB],Bd.mod Mp B⟩
 ·have hq:d6 (.int (cell%3)) (.int 0)=some (.bl false):=by rw[q_eqI,decide_eq_false h0]
  obtain⟨⟨_,e,w⟩,as,eq⟩:=vE (ss:=ss) (i:=u) ub.1 (by lia);obtain⟨q1,q2,q3⟩:=hs _ as;have be:Bd 60 e:=Bd.of B q2;have bv:Bd 60 w:=Bd.of B q3;have bp:=be.neg.mul bv;have ap:=be.neg.mulH bv (by decide) (by decide);have cv:d7 (ss.map oE) u=some (.tup [.int _,.int e,.int w]):=eq;generalize -e*w=p at bp ap;have n1:=U.mulH F (by decide) (by decide);have n2:=(U.mul F).mulH be (by decide) (by decide);have n3:=bb.mulH G (by decide) (by decide);have n4:=N.mulH bp (by decide) (by decide);have n5:=U.mulH G (by decide) (by decide);have n6:=(U.mul G).mulH bp (by decide) (by decide);have n7:=N.mulH be (by decide) (by decide);have n8:=(U.mul G).mulH be (by decide) (by decide);have n9:=bb.mulH F (by decide) (by decide);have bh:=(U.mul F).mulH bp (by decide) (by decide);have e1:=mf (((U.mul F).mul be).mono (show 60+60+60<=400 by decide));have e2:=mf ((((N.mul be).mono (show 60+60<=350 by decide)).add (((U.mul G).mul be).mono (show 60+(60+60)+60<=350 by decide))).mono (show 350+1<=400 by decide));have e3:=mf ((((bb.mul F).mono (show 60+60<=350 by decide)).add (((U.mul F).mul bp).mono (show 60+60+(60+60)<=350 by decide))).mono (show 350+1<=400 by decide));have e4:=mf ((((ba.mono (show 60<=300 by decide)).add ((bb.mul G).mono (show 60+(60+60)<=300 by decide))).add ((N.mul bp).mono (show 60+(60+60)<=300+1 by decide))).mono (show 300+1+1<=400 by decide));have e5:=mf (((((U.mul G).mul bp).mono (show 60+(60+60)+(60+60)<=350 by decide)).add (v3.mono (show 60+60<=350 by decide))).mono (show 350+1<=400 by decide));have cm:=mU (x:=X) Mp [([1,1],d'*i*e),([0,1],c'*e+d'*o*e),([1,0],b'*i+d'*i*p),([0,0],a'+b'*o+c'*p),([0,0],d'*o*p+Y*Z)] none none (by simp only[WG,WH,or_false];rintro t (rfl|rfl|rfl|rfl|rfl) <;> assumption);refine cE (cC (d:=.tup [.int t,.int u]) (u9 (by ac_rfl) rfl (u5 (by ac_rfl)) rfl) (by dsimp only[WI])) ?_;apply nW
  ·ac_rfl
  ·refine⟨⟨nm,[t,u],g,_,pr⟩,rfl,W.1,W.2,.inr ⟨t,u,rfl⟩,λx hx=>by simp only[WG,WH,or_false]at hx;rcases hx with rfl|rfl <;> assumption,gb,by simp[-U9,-VA,aA,aB],λq hq=>?_,pb⟩
   simp only[VG,WV,WG,WH,or_false]at hq;rcases hq with rfl|rfl|rfl|rfl|rfl <;> exact⟨rfl,by simp[-U9,-VA,aA,aB],Bd.mod Mp B⟩
def bP(c:Int)(n:Nat):List D:=(VO n).map λ(k:Nat)=>.str (b7 c (k:Int))
theorem fF(c:Int)(n:Nat):(bP c n).length=n:=by simp_all[bP]
theorem vY(lo c:Int)(n:Nat):aO lo c n=((VO n).map λ(i:Nat)=>lo+(i:Int)*c).map .int:=by unfold aO;rw[W7];rfl
theorem mD{M:Int}(G:3<=M)(q:M<10^60){ns:List Int}{f:Int->Int}(F:∀k:Int,0<=k->k<=1000->bF [.lst (ns.map .int),.int k]=some (.int (f k))):∀(l:List Int) (o:Option D),(∀k∈l,0<=k/\k<=100)->∃ss:List Se,bD (aJ 0) gD (a6 eR (aH (aD 1) (aH (a6 bF (aH (aD 2) (aH (bC aT (eC (.int 4)) (aD 0)) bQ))) bQ))) (l.map .int) [o,some (.int M),some (.lst (ns.map .int))]=some (ss.map oE)/\ss.length=l.length/\∀s∈ss,RU M s
 | [],_,_=>⟨[],rfl,rfl,λ_ h=>nomatch h⟩
 | k::l,o,h=>by
  obtain⟨ss,e,J,hs⟩:=mD G q F l (some (.int k)) λx B=>h x (V1 _ B)
  have U:=h k (V2 ..);have N:=F (4+k) (by lia) (by lia);obtain⟨s,es,ok⟩:=wA (c:=f (4+k)) G q;refine⟨s::ss,dS (ρ':=[some (.int k),some (.int M),some (.lst (ns.map .int))]) rfl rfl (by ac_rfl) e,by rw[VR,VR,J],λx B=>?_⟩;rcases List.mem_cons.mp B with z|z
  ·rw[z];exact ok
  ·exact hs x z
theorem v5(ns:List Int):∃(M c:Int) (n:Nat) (rs:List Ro) (ms:List Mk),g8 [.lst (ns.map .int)]=some (.tup [.int M,.lst (bP c n),.lst (rs.map aY),.lst (ms.map eY)])/\(3<=M/\M<10^60/\M%2=1)/\(1<=n/\n<=6)/\(rs.length<=12/\∀r∈rs,GA (n:Int) r)/\ms.length<=5/\∀m∈ms,OkM (n:Int) 7 m:=by
 obtain⟨f,q⟩:=cX ns;have f0:=q 0 (by decide) (by decide);have f1:=q 1 (by decide) (by decide);have f2:=q 2 (by decide) (by decide);have f3:=q 3 (by decide) (by decide);have af:=q 24 (by decide) (by decide);have ay:=q 25 (by decide) (by decide);have aw:=q 26 (by decide) (by decide);have am:=q 27 (by decide) (by decide);have ai:=q 28 (by decide) (by decide);have al:=q 30 (by decide) (by decide);have a1:(10:Int)^60=1000000000000000000000000000000000000000000000000000000000000:=by decide +kernel
 have pw:xR (.int 10) (.int 59)=some (.int 100000000000000000000000000000000000000000000000000000000000):=vA (by decide) (by decide) (by decide +kernel);have x0:=VP (f 1) (show(100000000000000000000000000000000000000000000000000000000000:Int)≠0 by decide);have x1:=VQ (f 1) (show(0:Int)<100000000000000000000000000000000000000000000000000000000000 by decide);have dx:eW (.int (f 1)) (.int 100000000000000000000000000000000000000000000000000000000000)=some (.int (f 1%100000000000000000000000000000000000000000000000000000000000)):=cF (by decide);generalize f 1%100000000000000000000000000000000000000000000000000000000000=x at x0 x1 dx;have y0:=VP (f 1) (show(4:Int)≠0 by decide);have y1:=VQ (f 1) (show(0:Int)<4 by decide);have dy:eW (.int (f 1)) (.int 4)=some (.int (f 1%4)):=cF (by decide);generalize f 1%4=y at y0 y1 dy;have m1:cZ (.int 2) (.int x)=some (.int (2*x)):=eU (by decide +kernel) (by decide +kernel) (by lia) (by lia);have m2:cZ (.int 2) (.int y)=some (.int (2*y)):=eU (by decide +kernel) (by decide +kernel) (by lia) (by lia)
 suffices h:∃d,g8 [.lst (ns.map .int)]=some d/\∃(M c:Int) (n:Nat) (rs:List Ro) (ms:List Mk),d=.tup [.int M,.lst (bP c n),.lst (rs.map aY),.lst (ms.map eY)]/\(3<=M/\M<10^60/\M%2=1)/\(1<=n/\n<=6)/\(rs.length<=12/\∀r∈rs,GA (n:Int) r)/\ms.length<=5/\∀m∈ms,OkM (n:Int) 7 m by
  obtain⟨d,e,M,c,n,rs,ms,rfl,h⟩:=h;exact⟨M,c,n,rs,ms,e,h⟩
 refine nQ ?_;unfold mT;simp only[aK,VG,WV,VR,W5,Nat.reduceAdd,Nat.reduceSub,VZ,zaV,zaf];refine cE (by ac_rfl) ?_;refine yX (λρ=>∃M:Int,ρ=[some (.lst (ns.map .int)),some (.int M),none,none,none,none,none,none,none,none]/\3<=M/\M<10^60/\M%2=1) ?_ ?_
 ·by_cases h:f 0%4=0
  ·exact⟨_,by ac_rfl,3+2*y,rfl,by lia,by lia,by lia⟩
  ·exact⟨_,by ac_rfl,3+2*x,rfl,by lia,by lia,by lia⟩
 rintro ρ ⟨M,rfl,W,B,U⟩;have Mp:0<M:=by lia
 have v0:=VP (f 2) (show(4:Int)≠0 by decide);have v1:=VQ (f 2) (show(0:Int)<4 by decide);refine cE (by ac_rfl) ?_;refine yX (λρ=>∃many:Int,ρ=[some (.lst (ns.map .int)),some (.int M),some (.int many),none,none,none,none,none,none,none]/\1<=many/\many<=6) ?_ ?_
 ·by_cases h:f 2/4%8=1
  ·exact⟨_,by ac_rfl,6,rfl,by decide,by decide⟩
  ·exact⟨_,by ac_rfl,1+f 2%4,rfl,by lia,by lia⟩
 rintro ρ ⟨many,rfl,N,G⟩;have rm:bN [.int many]=some (aO 0 1 many.toNat):=bE (by lia) (by lia);obtain⟨ss,es,hl,hs⟩:=mD W B q ((VO many.toNat).map λ(i:Nat)=>(0:Int)+(i:Int)*1) none (λk hk=>by
  obtain⟨i,hi,rfl⟩:=List.mem_map.mp hk;have:=List.mem_range.mp hi
  lia)
 rw[<- vY]at es;rw[VD,zai]at hl;have J:(ss.length:Int)=many:=by lia
 have zr:(aO 0 1 many.toNat).length<=1000000:=by rw[aU];lia
 have aj:fY [.int 24,.int 28]=some [.int 24,.int 25,.int 26,.int 27]:=pA (by decide) (by decide) (by decide) (by decide);have mb:∀x:Int,0<=x%M/\x%M<=M:=λx=>by
  have:=VP x (WJ Mp);have:=VQ x Mp
  lia
 have nn:=fE (c:=f 28) (many:=2) (by decide) (by decide);have e2:(VO (2:Int).toNat).map (λ(k:Nat)=>D.str (b7 (f 28) (k:Int)))=[.str (b7 (f 28) 0),.str (b7 (f 28) 1)]:=rfl;rw[e2]at nn;obtain⟨sz,hz,dz⟩:∃sz:Int,(0<=sz/\sz<=5)/\∀ {o3 o4 o5:Option D},bC eW (bC vG (a6 bF (aH (aD 0) (aH (eC (.int 3)) bQ))) (eC (.int 30))) (bC aF (sL (aH (eC (.int 6)) (aH (eC (.int 3)) bQ))) (a6 BY (aH (bC FZ (aD 2) (eC (.int 4))) bQ))) [some (.lst (ns.map .int)),some (.int M),some (.int many),o3,o4,o5,none,none,none,none]=some (.int sz):=by
  have s0:=VP (f 3/30) (show(6:Int)≠0 by decide);have s1:=VQ (f 3/30) (show(0:Int)<6 by decide);have t0:=VP (f 3/30) (show(3:Int)≠0 by decide);have t1:=VQ (f 3/30) (show(0:Int)<3 by decide);by_cases h:4<many
  ·have hg:FZ (.int many) (.int 4)=some (.bl true):=congrArg (λb=>some (D.bl b)) (decide_eq_true h)
   have it:aF (.lst [.int 6,.int 3]) (.int (if true=true then 1 else 0))=some (.int 3):=rfl;exact⟨f 3/30%3,by lia,by intros;ac_rfl⟩
  ·have hg:FZ (.int many) (.int 4)=some (.bl false):=congrArg (λb=>some (D.bl b)) (decide_eq_false h)
   have it:aF (.lst [.int 6,.int 3]) (.int (if false=true then 1 else 0))=some (.int 6):=rfl;exact⟨f 3/30%6,by lia,by intros;ac_rfl⟩
 have rz:bN [.int sz]=some (aO 0 1 sz.toNat):=bE (by lia) (by lia);refine cE (by ac_rfl) (cE (by ac_rfl) (cE (by ac_rfl) (cE (cC dz (by dsimp only[WI])) (cE (ρ':=[some (.lst (ns.map .int)),some (.int M),some (.int many),some (.lst (ss.map oE)),some (.lst [.int (f 24%M),.int (f 25%M),.int (f 26%M),.int (f 27%M)]),some (.lst [.str (b7 (f 28) 0),.str (b7 (f 28) 1)]),some (.int sz),some (.lst []),none,none]) (by ac_rfl) ?_))));refine wW (items:=aO 0 1 sz.toNat) (by ac_rfl) (λi ρ=>∃(ms:List Mk) (o:Option D),ρ=[some (.lst (ns.map .int)),some (.int M),some (.int many),some (.lst (ss.map oE)),some (.lst [.int (f 24%M),.int (f 25%M),.int (f 26%M),.int (f 27%M)]),some (.lst [.str (b7 (f 28) 0),.str (b7 (f 28) 1)]),some (.int sz),some (.lst (ms.map eY)),o,none]/\ms.length=i/\∀m∈ms,OkM many 7 m) ⟨[],none,rfl,rfl,λ_ h=>nomatch h⟩ ?_ ?_
 ·rintro i x ρ hx ⟨ms,o,rfl,hi,F⟩
  obtain⟨ag,rfl⟩:=bB hx;have hI:0<=(0:Int)+(i:Int)*1/\(0:Int)+(i:Int)*1<=5:=by lia
  generalize (0:Int)+(i:Int)*1=I at hI;have fI:=q (19+I) (by lia) (by lia);obtain⟨m,em,Y⟩:=vP (cell:=f (19+I)) (a:=f 24%M) (b:=f 25%M) (c:=f 26%M) (d:=f 27%M) (n0:=b7 (f 28) 0) (n1:=b7 (f 28) 1) W B ⟨N,G⟩ J hs (by simp only[WG,WH,or_false];rintro x (rfl|rfl|rfl|rfl) <;> exact mb _) ⟨FN (by decide) (by decide),(rY _ _).2⟩ ⟨FN (by decide) (by decide),(rY _ _).2⟩;have lz:(ms.map eY).length<=1000000:=by rw[VD];lia
  apply k6
  ·exact kO rfl (by ac_rfl)
  ·exact⟨ms++[m],_,by rw[W6];rfl,by simp_all[hi],Q8 F Y⟩
 ·rintro ρ ⟨ms,o,rfl,hi,F⟩
  rw[aU]at hi;obtain⟨rs,er,hr,aa⟩:=tI (ns:=ns) W B ⟨N,G⟩ J hs;have en:=fE (c:=f 30) (many:=many) (by lia) (by lia);have ec:((many.toNat:Nat):Int)=many:=by lia
  apply nW
  ·ac_rfl
  ·exact⟨M,f 30,many.toNat,rs,ms,rfl,⟨W,B,U⟩,by lia,⟨hr,by rw[ec];exact aa⟩,by lia,by rw[ec];exact F⟩
theorem k4(h:∃ρ,f (aK n ds)=some (.nx ρ)):aS n f ds=some .non:=by
 obtain⟨ρ,e⟩:=h;exact NX e
theorem xA(q:f ρ=some items)(I:Nat->bI->Prop)(h0:I 0 ρ)(hs:∀i x ρ,items[i]?=some x->I i ρ->∃ρ',turn g b x ρ=some (.nx ρ')/\I (i+1) ρ'):∃ρ',oS f g b ρ=some (.nx ρ'):=by
 obtain⟨ρ',e,_⟩:=jT (g:=g) (b:=b) I h0 hs;exact⟨ρ',by rw[q_for,q,aA];exact e⟩
theorem AY{f:Lv}{g:Gv}{b rest:Sv}{ρ:bI}{items:List D}(B:f ρ=some items)(I:Nat->bI->Prop)(h0:I 0 ρ)(hs:∀i x ρ,items[i]?=some x->I i ρ->∃ρ',turn g b x ρ=some (.nx ρ')/\I (i+1) ρ')(k:∀ρ',I items.length ρ'->∃q,rest ρ'=some (.nx q)):∃ρ',c6 (oS f g b) rest ρ=some (.nx ρ'):=by
 obtain⟨ρ',e,i⟩:=jT (g:=g) (b:=b) I h0 hs;obtain⟨q,F⟩:=k ρ' i;exact⟨q,by rw[aI (ρ':=ρ') (by rw[q_for,B,aA];exact e)];exact F⟩
theorem HP(B:3<=M)(q:M<10^60)(F:M%2=1):xV [.int M]=some (.int M):=by
 refine aQ ?_;have pw:xR (.int 10) (.int 60)=some (.int (10^60)):=vA (by decide) (by decide) (by decide +kernel);have a:¬ M<3:=by lia
 have b:¬ 10^60<M:=by lia
 unfold zH;simp only[Int.reducePow]at pw b
 ac_rfl
theorem mM(h0:0<=p)(h:p<=10^30):gY [.int p]=some (.bl true):=by
 refine aQ ?_;have pw:xR (.int 10) (.int 30)=some (.int (10^30)):=vA (by decide) (by decide) (by decide +kernel);simp only[Int.reducePow]at pw h;simp_all[l6,aK,eT,pw,h0,h]
theorem OL(h:0<M):FX [.int M,.int n]=some (.int (n%M)):=by
 refine aQ ?_;simp_all[RI,aK,cF h]
open Classical in
theorem uP(x:Str):∀l:List Str,(l.map D.str).any (λd=>decide (d=.str x))=l.contains x
 | []=>rfl
 | y::l=>by
  rw[VG,XE,uP x l,List.contains_cons];congr 1;by_cases h:y=x
  ·subst h;simp[-U9,-VA,aA,aB]
  ·have h2:¬ x=y:=λz=>h z.symm
   have q:¬ D.str y=D.str x:=λz=>h (by injection z)
   rw[decide_eq_false q]
   ac_rfl
theorem all_strs:∀l:List Str,(l.map D.str).all dG=true
 | []=>rfl
 | _::l=>by rw[VG,ZA,all_strs l];rfl
theorem G2(x:Str)(l:List Str):J5 (.str x) (.lst (l.map D.str))=some (.bl (l.contains x)):=by
 show R0 (.str x) (.lst (l.map D.str))=_;unfold R0 JY;dsimp only;rw[if_pos ⟨rfl,all_strs l⟩,uP];rfl
def FY(c:Int)(n:Nat):List Str:=(VO n).map λ(k:Nat)=>b7 c (k:Int)
theorem M1(c:Int)(n:Nat):bP c n=(FY c n).map D.str:=by unfold bP FY;rw[W7];rfl
theorem oJ(h1:1<=n)(h6:n<=6):gJ [.lst (bP c n)]=some .non:=by
 refine k4 ?_;unfold gF;have hz:aW n=true:=decide_eq_true (by lia);have a:¬ (n:Int)<1:=by lia
 have b:¬ 6<(n:Int):=by lia
 rw[aI (ρ':=aK 3 [.lst (bP c n)]) (by simp_all[aK,fF,a,b])];refine xA (items:=fP 0 (bP c n)) (by ac_rfl) (λi ρ=>∃J G,ρ=[some (.lst (bP c n)),J,G]) ⟨none,none,rfl⟩ ?_;rintro i x ρ N ⟨J,G,rfl⟩;obtain⟨y,B,rfl⟩:=jK N;have hi:i<n:=by have:=(List.getElem?_eq_some_iff.mp B).1;rw[fF]at this;exact this
 have W:y=.str (b7 c (i:Int)):=by
  unfold bP at B;rw[VV,zbl hi]at B;exact(VX B).symm
 subst W;have F:=pR (x:=b7 c (i:Int)) (by have:=(rY c (i:Int)).2;lia);rw[FN (by lia) (by lia)]at F;have ct:=(nH (w:=bP c n) (c:=(i:Int)) (by lia) (by rw[fF];lia)).1;have tk:(bP c n).take i=(FY c i).map D.str:=by
  rw[<- M1];unfold bP;rw[<- List.map_take,List.take_range,Nat.min_eq_left (by lia)]
 have Y:(FY c i).contains (b7 c (i:Int))=false:=by
  rw[<- zae,List.contains_iff_mem];intro U;obtain⟨k,M,e⟩:=List.mem_map.mp U;have M:=List.mem_range.mp M;have:=nO (c:=c) (k:=(k:Int)) (m:=(i:Int)) (by lia) (by lia) (by lia) (by lia) e
  lia
 have q:=G2 (b7 c (i:Int)) (FY c i);rw[Y]at q;rw[YU];refine⟨[some (.lst (bP c n)),some (.int (i:Int)),some (.str (b7 c (i:Int)))],?_,_,_,rfl⟩;simp_all[turn,F,ct,tk,q]
noncomputable def red(M:Int)(r:Ro):Ro:=⟨r.j,r.k,r.a%M,r.b%M,r.p⟩
theorem vZ{M:Int}{n:Nat}{rs:List Ro}(h3:3<=M)(hl:rs.length<=12)(U:∀r∈rs,GA (n:Int) r):mE [.int M,.int (n:Int),.lst (rs.map aY)]=some (.tup ((rs.map (red M)).map aY)):=by
 have N:0<M:=by lia
 have hz:aW rs.length=true:=decide_eq_true (by lia);have b:(rs.length:Int)<=12:=by lia
 refine aQ ?_;unfold mB;rw[aI (ρ':=aK 9 [.int M,.int (n:Int),.lst (rs.map aY)]) (by simp_all[aK,b])];rw[aI (b5 (d:=.lst []) (by simp[-U9,-VA,aA,aB]))];refine f9 (items:=rs.map aY) (by ac_rfl) (λi ρ=>∃B o5 o6 o7 o8,ρ=[some (.int M),some (.int (n:Int)),some (.lst (rs.map aY)),some (.lst (((rs.take i).map (red M)).map aY)),B,o5,o6,o7,o8]) ⟨none,none,none,none,none,by ac_rfl⟩ ?_ ?_
 ·rintro i x ρ G ⟨B,o5,o6,o7,o8,rfl⟩
  rw[VV]at G;obtain⟨r,q,rfl⟩:=map_some G;obtain⟨⟨Y,W,kn⟩,p0,p1,_⟩:=U r (WS q);have J:=mM p0 p1;have hi:i<rs.length:=(List.getElem?_eq_some_iff.mp q).1;have F:aW (min i rs.length)=true:=decide_eq_true (by lia);refine⟨[some (.int M),some (.int (n:Int)),some (.lst (rs.map aY)),some (.lst (((rs.take (i+1)).map (red M)).map aY)),some (.int r.j),some (.int r.k),some (.int r.a),some (.int r.b),some (.int r.p)],?_,_,_,_,_,_,rfl⟩;rw[zbs,q];simp_all[turn,aY,red,Y,W,kn,J,OL N,F,lC]
 ·rintro ρ ⟨B,o5,o6,o7,o8,rfl⟩
  rw[VD,zbt]
  ac_rfl
theorem hZ{n:Nat}{k:List Int}(h:k.length=n)(h2:∀e∈k,0<=e/\e<=2):dM [.int (n:Int),tupI k]=some .non:=by
 refine k4 ?_;unfold dJ;rw[aI (ρ':=aK 3 [.int (n:Int),tupI k]) (by simp_all[aK,tupI,h])];refine xA (items:=k.map .int) (by ac_rfl) (λi ρ=>∃o,ρ=[some (.int (n:Int)),some (tupI k),o]) ⟨none,rfl⟩ ?_;rintro i x ρ q ⟨o,rfl⟩;rw[VV]at q;obtain⟨e,B,rfl⟩:=map_some q;have:=h2 e (WS B);exact⟨[some (.int (n:Int)),some (tupI k),some (.int e)],by simp_all[turn,show ¬ e<0 by lia,show ¬ 8<e by lia],_,rfl⟩
theorem pP{M:Int}(h0:0<M){ρ1 ρ2:Option D}:∀(qs:List My.Tm) (o1 o2:Option D),bD (kQ 2 (aR (aJ 0) (aR (aJ 1) gQ))) (lN (bC KH (a6 FX (aH (aD 2) (aH (aD 1) bQ))) (eC (.int 0)))) (kX (aH (aD 0) (aH (a6 FX (aH (aD 2) (aH (aD 1) bQ))) bQ))) (qs.map kS) [o1,o2,some (.int M)]=some ((My.kN M qs).map kS)
 | [],o1,o2=>rfl
 | t::qs,o1,o2=>by
  have ih:=pP h0 (ρ1:=ρ1) (ρ2:=ρ2) qs (some (tupI t.1)) (some (.int t.2));rw[VG,bD];by_cases e:t.2%M=0
  ·simp[-U9,-VA,aA,aB,kS,OL h0,e,My.kN]at ih ⊢
   exact ih
  ·simp[-U9,-VA,aA,aB,kS,OL h0,e,My.kN]at ih ⊢
   rw[ih]
   ac_rfl
theorem AJ{q:Type}(l:List (List Int×q)):(bM l).length=l.length:=(c9 l).length_eq
theorem AE{M:Int}{cs:List My.Tm}(h0:0<M)(h:cs.length<64):p4 [.int M,.dT (cs.map kD)]=some (.tup ((My.kN M (bM cs)).map kS)):=by
 refine aQ ?_;have e:=pP h0 (ρ1:=none) (ρ2:=none) (bM cs) none none;have hz:aW (bM cs).length=true:=decide_eq_true (by rw[AJ];lia);simp_all[pF,aK,wR h,jV,e,hz]
theorem V_form{M:Int}{n:Nat}{ts:List My.Tm}(h0:0<M)(hn:n=1\/n=2)(hl:ts.length<=7)(Y:∀t∈ts,T1 n t):EY [.int M,.int (n:Int),.lst (ts.map kS)]=some (.tup ((My.kN M (bM (My.bK ts))).map kS)):=by
 refine aQ ?_;unfold ED;rw[aI (ρ':=aK 6 [.int M,.int (n:Int),.lst (ts.map kS)]) (by rcases hn with rfl|rfl <;> simp_all[aK])];rw[aI (ρ':=[some (.int M),some (.int (n:Int)),some (.lst (ts.map kS)),some (.dT []),none,none]) (by ac_rfl)];refine f9 (items:=ts.map kS) (by simp[-U9,-VA,aA,aB]) (λi ρ=>∃F o5,ρ=[some (.int M),some (.int (n:Int)),some (.lst (ts.map kS)),some (.dT ((My.bK (ts.take i)).map kD)),F,o5]) ⟨none,none,rfl⟩ ?_ ?_
 ·rintro i x ρ J ⟨F,o5,rfl⟩
  rw[VV]at J;obtain⟨t,N,rfl⟩:=map_some J;obtain⟨W,U,_⟩:=Y t (WS N);have es:My.bK (ts.take (i+1))=My.oD (My.bK (ts.take i)) t:=by rw[zbs,N];exact My.AA _ _
  have q:(My.bK (ts.take i)).length<=1000000:=by
   have:=(My.mH (ts.take i)).1;rw[zaq]at this
   lia
  have G:=hZ W U;refine⟨[some (.int M),some (.int (n:Int)),some (.lst (ts.map kS)),some (.dT ((My.bK (ts.take (i+1))).map kD)),some (tupI t.1),some (.int t.2)],?_,_,_,rfl⟩;have B:=GY (cs:=My.bK (ts.take i)) t.1 ((My.look (My.bK (ts.take i)) t.1).getD 0+t.2) q;cases e:My.look (My.bK (ts.take i)) t.1 with
  | none=>simp[-U9,-VA,aA,aB,turn,kS,G,e,es,My.oD]at B ⊢;simp_all[B]
  | some v=>simp[-U9,-VA,aA,aB,turn,kS,G,e,es,My.oD]at B ⊢;simp_all[B]
 ·rintro ρ ⟨F,o5,rfl⟩
  have hs:(My.bK ts).length<64:=by have:=(My.mH ts).1;lia
  rw[VD,zbt];simp_all[AE h0 hs]
theorem yK:∀(k:List Int) (m:Int),(∀e∈k,0<=e/\e<=2)->m<=2->k.foldl (λm y=>if y>m then y else m) m<=2
 | [],m,_,h=>h
 | e::k,m,h,hm=>by
  rw[zax];refine yK k _ (λx q=>h x (V1 _ q)) ?_;have:=(h e (V2 ..)).2;split <;> lia
theorem JL(h:∀e∈k,0<=e/\e<=2)(hd:d<=2):My.xS d k<=2:=by
 cases k with
 | nil=>exact hd
 | cons e k=>exact yK k e (λx q=>h x (V1 _ q)) (h e (V2 ..)).2
def GI(M:Int)(ts:List My.Tm):D:=.tup ((My.kN M (bM (My.bK ts))).map kS)
theorem tH(h0:0<M)(hn:n=1\/n=2)(J:ts.length<=7)(G:∀t∈ts,T1 n t):kC [.int M,.int (n:Int),.lst (ts.map kS)]=some (GI M ts):=by
 have W:=V_form h0 hn J G;refine aQ ?_;unfold j7;rw[aI (b5 (d:=GI M ts) (by simp_all[aK,W,GI]))];refine f9 (items:=ts.map kS) (by ac_rfl) (λi ρ=>∃q o5 o6,ρ=[some (.int M),some (.int (n:Int)),some (.lst (ts.map kS)),some (GI M ts),q,o5,o6]) ⟨none,none,none,rfl⟩ ?_ ?_
 ·rintro i x ρ B ⟨q,o5,o6,rfl⟩
  rw[VV]at B;obtain⟨t,U,rfl⟩:=map_some B;obtain⟨F,Y,_⟩:=G t (WS U);refine⟨[some (.int M),some (.int (n:Int)),some (.lst (ts.map kS)),some (GI M ts),q,some (tupI t.1),some (.int t.2)],?_,_,_,_,rfl⟩;have N:u6 [tupI t.1]=some (.int (My.xS 0 t.1)):=by
   cases hk:t.1 with
   | nil=>rw[hk]at F;simp[-U9,-VA,aA,aB]at F;lia
   | cons e k=>exact q_max1
  have ml:=JL Y (d:=0) (by decide);simp_all[-q_max1,turn,kS,N,show ¬ 2<My.xS 0 t.1 by lia]
 ·rintro ρ ⟨q,o5,o6,rfl⟩
  simp[-U9,-VA,aA,aB]
theorem GL{κ:Type}[DecidableEq κ](l:List (κ×D))(k:κ)(e:D):dF (putD l k e) k=some e:=by
 unfold dF putD;split
 ·rename_i h
  induction l with
  | nil=>simp[-U9,-VA,aA,aB]at h
  | cons p l ih=>
   by_cases q:p.1=k
   ·simp_all[q]
   ·rw[XE,decide_eq_false q,Bool.false_or]at h
    rw[VG,if_neg q,List.find?_cons_of_neg (by simpa using q)];exact ih h
 ·rename_i h
  rw[List.find?_append];have:l.find? (λp=>decide (p.1=k))=none:=by
   rw[List.find?_eq_none];intro p q z;exact h (List.any_eq_true.mpr ⟨p,q,z⟩)
  rw[this];simp[-U9,-VA,aA,aB]
theorem JE{κ:Type}[DecidableEq κ]{l:List (κ×D)}{k:κ}{e:D}{P:D->Prop}(h:∀p∈l,P p.2)(F:P e):∀p∈putD l k e,P p.2:=by
 intro p B;unfold putD at B;split at B
 ·obtain⟨q,G,rfl⟩:=List.mem_map.mp B
  split
  ·exact F
  ·exact h q G
 ·rcases List.mem_append.mp B with z|z
  ·exact h p z
  ·rw[List.mem_singleton.mp z];exact F
theorem rG{κ:Type}[DecidableEq κ](l:List (κ×D))(k:κ)(e:D):(putD l k e).length<=l.length+1:=by
 unfold putD;split
 ·rw[VD];lia
 ·rw[WN];simp[-U9,-VA,aA,aB]
theorem GK{κ:Type}[DecidableEq κ]{l:List (κ×D)}{k:κ}(h:dF l k=some d):∃p∈l,p.2=d:=by
 obtain⟨p,q,e⟩:=map_some h;exact⟨p,List.mem_of_find?_eq_some q,e⟩
def lM(M:Int)(m:Mk):D:=.tup [.str m.nm,tupI m.tk,.int m.gv,GI M m.ts,.int m.p]
theorem oM{M:Int}{ms:List Mk}(hl:ms.length<=5):gO [.lst (ms.map (lM M))]=some .non:=by
 refine k4 ?_;unfold gG;rw[aI (b5 (d:=.dT []) (by simp[-U9,-VA,aA,aB]))];refine xA (items:=ms.map (lM M)) (by ac_rfl) (λi ρ=>∃(ys:List (List Key×D)) (N Y W o5 o6 o7:Option D),ρ=[some (.lst (ms.map (lM M))),some (.dT ys),N,Y,W,o5,o6,o7]/\ys.length<=i/\∀p∈ys,∃c:Int,p.2=.int c/\c<=(i:Int)) ⟨[],none,none,none,none,none,none,by ac_rfl,VH _,λ_ h=>nomatch h⟩ ?_;rintro i x ρ J ⟨ys,N,Y,W,o5,o6,o7,rfl,hy,U⟩;rw[VV]at J;obtain⟨m,hm,rfl⟩:=map_some J;have hi:i<ms.length:=(List.getElem?_eq_some_iff.mp hm).1;have hz:aW ys.length=true:=decide_eq_true (by lia);have q:KG (.tup [.str m.nm,.int (m.tk.length:Int)])=some [.inr m.nm,.inl (m.tk.length:Int)]:=rfl;generalize hk:([.inr m.nm,.inl (m.tk.length:Int)]:List Key)=k at q;have lk:dU (.dT ys) (.tup [.str m.nm,.int (m.tk.length:Int)])=some (dF ys k):=by
  show(KG (.tup [.str m.nm,.int (m.tk.length:Int)])).map _=_;rw[q];rfl
 have F:∃c:Int,((dF ys k).getD (.int 0))=.int c/\c<=(i:Int):=by
  cases hv:dF ys k with
  | none=>exact⟨0,rfl,by lia⟩
  | some d=>
   obtain⟨p,G,rfl⟩:=GK hv;exact U p G
 obtain⟨c,ec,ad⟩:=F;have pt:sN (.dT ys) (.tup [.str m.nm,.int (m.tk.length:Int)]) (.int (c+1))=some (.dT (putD ys k (.int (c+1)))):=by
  unfold _root_.P.sN;dsimp only;rw[q,aA,if_pos hz]
 have B:dU (.dT (putD ys k (.int (c+1)))) (.tup [.str m.nm,.int (m.tk.length:Int)])=some (some (.int (c+1))):=by
  show(KG (.tup [.str m.nm,.int (m.tk.length:Int)])).map _=_;rw[q,aB,GL]
 refine⟨[some (.lst (ms.map (lM M))),some (.dT (putD ys k (.int (c+1)))),some (.str m.nm),some (tupI m.tk),some (.int m.gv),some (GI M m.ts),some (.int m.p),some (.tup [.str m.nm,.int (m.tk.length:Int)])],?_,_,_,_,_,_,_,_,rfl,WM (rG _ _ _) (by lia),JE (P:=λd=>∃c:Int,d=.int c/\c<=((i+1:Nat):Int)) (λp G=>by obtain⟨c,e,h⟩:=U p G;exact⟨c,e,by lia⟩) ⟨c+1,rfl,by lia⟩⟩;simp_all[turn,lM,tupI,lk,ec,pt,B,show ¬ 6<c+1 by lia]
theorem qU(ok:OkM (n:Int) 7 m):iF [.int (n:Int),.str m.nm,tupI m.tk,.int m.gv,.int m.p]=some .non:=by
 have F:=pR (x:=m.nm) (by have:=ok.nl;lia);rw[ok.nm]at F;have M:=mM ok.pr.1 ok.pr.2;have hz:aW (m.tk.length+1)=true:=by rcases ok.tk with⟨t,e⟩|⟨t,u,e⟩ <;> rw[e] <;> rfl
 have q:(m.tk.length:Int)=1\/(m.tk.length:Int)=2:=by rcases ok.tk with⟨t,e⟩|⟨t,u,e⟩ <;> rw[e] <;> simp[-U9,-VA,aA,aB]
 refine k4 ?_;unfold iC;rw[aI (ρ':=aK 6 [.int (n:Int),.str m.nm,tupI m.tk,.int m.gv,.int m.p]) (by ac_rfl)];rw[aI (ρ':=aK 6 [.int (n:Int),.str m.nm,tupI m.tk,.int m.gv,.int m.p]) (by rcases q with e|e <;> simp_all[aK,tupI,e])];have J:eI (bC aT (a6 jC (aH (aD 2) bQ)) (sL (aH (aD 3) bQ))) (aK 6 [.int (n:Int),.str m.nm,tupI m.tk,.int m.gv,.int m.p])=some ((m.tk++[m.gv]).map .int):=by simp_all[aK,tupI,jC,hz]
 refine AY (items:=(m.tk++[m.gv]).map .int) J (λi ρ=>∃o,ρ=[some (.int (n:Int)),some (.str m.nm),some (tupI m.tk),some (.int m.gv),some (.int m.p),o]) ⟨none,rfl⟩ ?_ ?_
 ·rintro i x ρ B ⟨o,rfl⟩
  rw[VV]at B;obtain⟨e,G,rfl⟩:=map_some B;have b:0<=e/\e<(n:Int):=Q8 (P:=λe=>0<=e/\e<(n:Int)) ok.tb ok.gv e (WS G);exact⟨[some (.int (n:Int)),some (.str m.nm),some (tupI m.tk),some (.int m.gv),some (.int m.p),some (.int e)],by simp_all[turn,eT,b.1,b.2],_,rfl⟩
 ·rintro ρ ⟨o,rfl⟩
  exact⟨[some (.int (n:Int)),some (.str m.nm),some (tupI m.tk),some (.int m.gv),some (.int m.p),o],by ac_rfl⟩
theorem wC{M:Int}{n:Nat}{ms:List Mk}(h3:3<=M)(U:ms.length<=5)(N:∀m∈ms,OkM (n:Int) 7 m):l9 [.int M,.int (n:Int),.lst (ms.map eY)]=some (.tup (ms.map (lM M))):=by
 have W:0<M:=by lia
 have b:(ms.length:Int)<=16:=by lia
 refine aQ ?_;unfold mC;rw[aI (ρ':=aK 9 [.int M,.int (n:Int),.lst (ms.map eY)]) (by simp_all[aK,b])];rw[aI (b5 (d:=.lst []) (by simp[-U9,-VA,aA,aB]))];refine f9 (items:=ms.map eY) (by ac_rfl) (λi ρ=>∃B o5 o6 o7 o8,ρ=[some (.int M),some (.int (n:Int)),some (.lst (ms.map eY)),some (.lst ((ms.take i).map (lM M))),B,o5,o6,o7,o8]) ⟨none,none,none,none,none,by ac_rfl⟩ ?_ ?_
 ·rintro i x ρ J ⟨B,o5,o6,o7,o8,rfl⟩
  rw[VV]at J;obtain⟨m,q,rfl⟩:=map_some J;have ok:=N m (WS q);have hi:i<ms.length:=(List.getElem?_eq_some_iff.mp q).1;have F:aW (min i ms.length)=true:=decide_eq_true (by lia);have G:=qU ok;have Y:=tH (M:=M) (n:=m.tk.length) (ts:=m.ts) W (by rcases ok.tk with⟨t,e⟩|⟨t,u,e⟩ <;> rw[e] <;> simp[-U9,-VA,aA,aB]) ok.tl ok.tt;refine⟨[some (.int M),some (.int (n:Int)),some (.lst (ms.map eY)),some (.lst ((ms.take (i+1)).map (lM M))),some (.str m.nm),some (tupI m.tk),some (.int m.gv),some (.lst (m.ts.map kS)),some (.int m.p)],?_,_,_,_,_,_,rfl⟩;rw[zbs,q];simp only[tupI]at G;simp_all[turn,eY,lM,tupI,G,Y,F,dX]
 ·rintro ρ ⟨B,o5,o6,o7,o8,rfl⟩
  rw[VD,zbt];simp_all[dX,oM U]
def GD(M c:Int)(n:Nat)(rs:List Ro)(ms:List Mk):D:=.tup [.int M,.tup (bP c n),.tup ((rs.map (red M)).map aY),.tup (ms.map (lM M))]
theorem NB{M c:Int}{n:Nat}{rs:List Ro}{ms:List Mk}(q:3<=M/\M<10^60/\M%2=1)(G:1<=n/\n<=6)(B:rs.length<=12/\∀r∈rs,GA (n:Int) r)(W:ms.length<=5)(U:∀m∈ms,OkM (n:Int) 7 m):EH [.int M,.lst (bP c n),.lst (rs.map aY),.lst (ms.map eY)]=some (GD M c n rs ms):=by
 have N:=HP q.1 q.2.1 q.2.2;have Y:=oJ (c:=c) G.1 G.2;have F:=vZ q.1 B.1 B.2;have J:=wC q.1 W U;refine aQ ?_;simp[-U9,-VA,aA,aB,FC,aK,N,Y,F,J,fF,dX,GD]at F ⊢
theorem CK(h:Rch rs j x):x=j\/∃m r,gT rs m=some r/\r.k=x/\Rch rs j r.j:=by
 obtain⟨w,hw⟩:=h;rcases List.eq_nil_or_concat w with rfl|⟨v,m,rfl⟩
 ·exact .inl (VX hw).symm
 ·rw[List.concat_eq_append,jM]at hw
  obtain⟨e,B,hw⟩:=bind_some hw;obtain⟨r,q,hw⟩:=bind_some (show(gT rs m).bind (λr=>if r.j=e then gw rs r.k []else none)=some x from hw);split at hw
  ·rename_i hj
   exact .inr ⟨m,r,q,VX hw,v,by rw[hj];exact B⟩
  ·cases hw
theorem DB(h:Rch rs j r.j)(q:gT rs m=some r):Rch rs j r.k:=by
 obtain⟨w,hw⟩:=h;exact⟨w++[m],IP hw q rfl⟩
theorem N5{M:Int}{rs:List Ro}{i:Nat}{r:Ro}(h:rs[i]?=some r):gT (rs.map (red M)) (i:Int)=some (red M r):=by
 unfold gT;rw[if_pos (by lia),W1,VV,h];rfl
theorem L0{M:Int}{n:Nat}{rs:List Ro}(N:3<=M)(J:rs.length<=12)(G:∀r∈rs,GA (n:Int) r):GR M (n:Int) (rs.map (red M)):=by
 have B:0<M:=by lia
 refine⟨by rw[VD];exact J,λr h=>?_,λr h=>?_,λr h=>?_⟩ <;> obtain⟨q,F,rfl⟩:=List.mem_map.mp h
 ·exact(G q F).1
 ·exact⟨⟨VP _ (WJ B),VQ _ B⟩,VP _ (WJ B),VQ _ B⟩
 ·exact⟨(G q F).2.1,(G q F).2.2.1⟩
theorem JG{K:Nat}{p:Int->Bool}{c:Int}{b:Bool}(h0:0<=c)(h:c<(K:Int)):sN (cG K p) (.int c) (.bl b)=some (cG K λx=>if x=c then b else p x):=by
 have:=GO (K:=K) (f:=λx=>D.bl (p x)) (c:=c) (d:=.bl b) h0 h;refine X9 this ?_;show some (D.lst _)=some (D.lst _);congr 2;refine zbo λx _=>?_
 show(if(x:Int)=c then D.bl b else D.bl (p x))=D.bl (if(x:Int)=c then b else p x);split <;> rfl
theorem AM{K:Nat}{p q:Int->Bool}(h:∀x:Int,0<=x->x<(K:Int)->p x=q x):cG K p=cG K q:=by
 unfold cG;congr 1;exact zbo λx B=>by rw[h (x:Int) (by lia) (by have:=List.mem_range.mp B;lia)]
open Classical in
def RT(rs:List Ro)(j x:Int):Bool:=decide (Rch rs j x)
theorem g9:RT rs j x=true↔Rch rs j x:=by unfold RT;simp[-U9,-VA,aA,aB]
theorem tK{M:Int}{n:Nat}{rs:List Ro}(g:GR M (n:Int) (rs.map (red M)))(hn:n<=6):j4 [.int (n:Int),.lst (rs.map aY)]=some (b6 n (RT (rs.map (red M)))):=by
 have r1:=A9 (show n<=1000000 by lia);have hz:aW n=true:=decide_eq_true (by lia);generalize hR:rs.map (red M)=R at g;have ao:∀r∈rs,0<=r.j/\r.j<r.k/\r.k<(n:Int):=λr h=>g.jk (red M r) (by rw[<- hR];exact List.mem_map.mpr ⟨r,h,rfl⟩)
 refine aQ ?_;unfold kL;rw[aI (b5 (d:=.lst []) (by simp[-U9,-VA,aA,aB]))];refine f9 (items:=aO 0 1 n) (by simp_all[aK,r1]) (λi ρ=>∃o3 o4 o5 o6,ρ=[some (.int (n:Int)),some (.lst (rs.map aY)),some (.lst ((VO i).map λ(j:Nat)=>cG n (RT R (j:Int)))),o3,o4,o5,o6]) ⟨none,none,none,none,by ac_rfl⟩ ?_ ?_
 ·rintro i x ρ B ⟨o3,o4,o5,o6,rfl⟩
  obtain⟨ay,rfl⟩:=bB B;have hI:(0:Int)+(i:Int)*1=(i:Int):=by lia
  rw[hI];have ah:bD (aJ 0) gD (bC d6 (aD 0) (aD 1)) (aO 0 1 n) [none,some (.int (i:Int))]=some ((VO n).map λ(k:Nat)=>D.bl (decide ((k:Int)=(i:Int)))):=by
   rw[CH];exact uD (K:=n) (F:=λk=>D.bl (decide (k=(i:Int)))) (λk _ _=>by simp[-U9,-VA,aA,aB]) (VO n) none λk hk=>List.mem_range.mp hk
  have r2:fY [.int ((i:Int)+1),.int (n:Int)]=some (aO ((i:Int)+1) 1 ((n:Int)-((i:Int)+1)).toNat):=pA (by lia) (by lia) (by lia) (by lia);obtain⟨ρ',e,p,ak,Y,rfl,G,J⟩:=jT (g:=aJ 5) (b:=oS (eI (aD 1)) (aJ 6) (GJ (xN (lN (bC d6 (bC aF (aD 6) (eC (.int 1))) (aD 5))) (lN (bC aF (aD 4) (bC aF (aD 6) (eC (.int 0)))))) (BX 4 (aD 5) (eC (.bl true))) O0)) (items:=aO ((i:Int)+1) 1 ((n:Int)-((i:Int)+1)).toNat)
   (ρ:=[some (.int (n:Int)),some (.lst (rs.map aY)),some (.lst ((VO i).map λ(j:Nat)=>cG n (RT R (j:Int)))),some (.int (i:Int)),some (cG n λx=>decide (x=(i:Int))),o5,o6])
   (λt ρ => ∃(p:Int -> Bool) (o5 o6:Option D), ρ = [some (.int (n:Int)), some (.lst (rs.map aY)), some (.lst ((VO i).map λ(j:Nat) => cG n (RT R (j:Int)))), some (.int (i:Int)), some (cG n p), o5, o6] /\ (∀x:Int, x<(i:Int)+1+(t:Int) -> (p x = true ↔ Rch R (i:Int) x)) /\ ∀x:Int, (i:Int)+1+(t:Int) <= x -> p x = false) ⟨_, o5, o6, rfl, λx B => by
    rw[decide_eq_true_eq];refine⟨λz=>by rw[z];exact Rch.refl R _,λz=>by have:=z.le g;lia⟩,λx B=>decide_eq_false (by lia)⟩ (by
   rintro t x ρ B ⟨p,o5,o6,rfl,G,J⟩;obtain⟨au,rfl⟩:=bB B;generalize hk:(i:Int)+1+(t:Int)*1=kk;have ek:(i:Int)+1+(t:Int)=kk:=by lia
   rw[ek]at G J;have kn:kk<(n:Int):=by lia
   obtain⟨ρ',e,p',Y,rfl,al,am,ad⟩:=jT (g:=aJ 6) (b:=(GJ (xN (lN (bC d6 (bC aF (aD 6) (eC (.int 1))) (aD 5))) (lN (bC aF (aD 4) (bC aF (aD 6) (eC (.int 0)))))) (BX 4 (aD 5) (eC (.bl true))) O0)) (items:=rs.map aY)
    (ρ:=[some (.int (n:Int)),some (.lst (rs.map aY)),some (.lst ((VO i).map λ(j:Nat)=>cG n (RT R (j:Int)))),some (.int (i:Int)),some (cG n p),some (.int kk),o6])
    (λu ρ => ∃(p:Int -> Bool) (o6:Option D), ρ = [some (.int (n:Int)), some (.lst (rs.map aY)), some (.lst ((VO i).map λ(j:Nat) => cG n (RT R (j:Int)))), some (.int (i:Int)), some (cG n p), some (.int kk), o6] /\ (∀x:Int, x<kk -> (p x = true ↔ Rch R (i:Int) x)) /\ (∀x:Int, kk<x -> p x = false) /\ (p kk = true ↔ ∃(m:Int) (r:Ro), m<(u:Int) /\ gT R m = some r /\ r.k = kk /\ Rch R (i:Int) r.j)) ⟨p, o6, rfl, G, λx B => J x (by lia), by
     rw[J kk (by lia)];refine⟨λz=>(nomatch z),λ⟨m,r,hm,N,_⟩=>?_⟩;have:=(nR N).1
     lia⟩ (by
    rintro u x ρ B ⟨p,o6,rfl,G,J,N⟩;rw[VV]at B;obtain⟨r,ac,rfl⟩:=map_some B;have ra:gT R (u:Int)=some (red M r):=by rw[<- hR];exact N5 ac
    have b:=ao r (WS ac);have U:¬ (r.k=kk/\p r.j=true)->(p kk=true↔∃(m:Int) (r:Ro),m<((u+1:Nat):Int)/\gT R m=some r/\r.k=kk/\Rch R (i:Int) r.j):=λhn=>by
     rw[N];refine⟨λ⟨m,q,a,z⟩=>⟨m,q,by lia,z⟩,λ⟨m,q,a,W,aa,ae⟩=>?_⟩;by_cases em:m=(u:Int)
     ·subst em
      rw[ra]at W;cases W;exact absurd ⟨aa,(G r.j (by have:r.k=kk:=aa;lia)).mpr ae⟩ hn
     ·exact⟨m,q,by lia,W,aa,ae⟩
    by_cases h1:r.k=kk
    ·have rj:=nU (p:=p) b.1 (show r.j<(n:Int) by lia)
     by_cases h2:p r.j=true
     ·have rp:=JG (p:=p) (c:=kk) (b:=true) (by lia) kn
      refine⟨[some (.int (n:Int)),some (.lst (rs.map aY)),some (.lst ((VO i).map λ(j:Nat)=>cG n (RT R (j:Int)))),some (.int (i:Int)),some (cG n λx=>if x=kk then true else p x),some (.int kk),some (aY r)],?_,_,_,rfl,λx B=>?_,λx B=>?_,?_⟩
      ·simp_all[turn,OX,Q6,h1,rj,h2,rp]
      ·rw[if_neg (by lia)];exact G x B
      ·rw[if_neg (by lia)];exact J x B
      ·rw[if_pos rfl]
       exact⟨λ_=>⟨u,red M r,by lia,ra,h1,(G r.j (by lia)).mp h2⟩,λ_=>rfl⟩
     ·refine⟨[some (.int (n:Int)),some (.lst (rs.map aY)),some (.lst ((VO i).map λ(j:Nat)=>cG n (RT R (j:Int)))),some (.int (i:Int)),some (cG n p),some (.int kk),some (aY r)],?_,_,_,rfl,G,J,U λz=>h2 z.2⟩
      have ai:p r.j=false:=by simpa using h2
      simp_all[turn,OX,Q6,h1,rj,ai]
    ·refine⟨[some (.int (n:Int)),some (.lst (rs.map aY)),some (.lst ((VO i).map λ(j:Nat)=>cG n (RT R (j:Int)))),some (.int (i:Int)),some (cG n p),some (.int kk),some (aY r)],?_,_,_,rfl,G,J,U λz=>h1 z.1⟩
     simp_all[turn,OX,h1])
   rw[VD]at ad;refine⟨[some (.int (n:Int)),some (.lst (rs.map aY)),some (.lst ((VO i).map λ(j:Nat)=>cG n (RT R (j:Int)))),some (.int (i:Int)),some (cG n p'),some (.int kk),Y],?_,p',_,_,rfl,λx B=>?_,λx B=>am x (by lia)⟩
   ·simp_all[turn,e]
   ·by_cases ex:x=kk
    ·subst ex
     rw[ad];refine⟨λ⟨m,r,_,N,hk,z⟩=>by rw[<- hk];exact DB z N,λz=>?_⟩;rcases CK z with z|⟨m,r,N,hk,z⟩
     ·lia
     ·refine⟨m,r,?_,N,hk,z⟩
      have:=(nR N).2;rw[<- hR,VD]at this;exact this
    ·exact al x (by lia))
  rw[aU]at G J;have er:cG n p=cG n (RT R (i:Int)):=AM λx h0 h1=>by
   rw[Y6,g9];exact G x (by lia)
  refine⟨[some (.int (n:Int)),some (.lst (rs.map aY)),some (.lst ((VO (i+1)).map λ(j:Nat)=>cG n (RT R (j:Int)))),some (.int (i:Int)),some (cG n p),ak,Y],?_,_,_,_,_,rfl⟩;have aj:aW i=true:=decide_eq_true (by lia);have af:(D.lst ((VO n).map λ(k:Nat)=>D.bl (decide ((k:Int)=(i:Int)))))=cG n λx=>decide (x=(i:Int)):=rfl
  rw[List.range_succ,W6];simp only[VG,WV];simp_all[-W6,turn,r1,aU,hz,jV,ah,af,r2,e,er,aj]
 ·rintro ρ ⟨o3,o4,o5,o6,rfl⟩
  rw[aU]
  ac_rfl
theorem IX:gT (rs.map (red M)) i=(gT rs i).map (red M):=by
 unfold gT;by_cases h:0<=i
 ·rw[if_pos h,if_pos h,VV]
 ·rw[if_neg h,if_neg h];rfl
theorem D5(h:w.length<=900):aT (tupI w) (.tup [.int x])=some (tupI (w++[x])):=by
 have q:aW (w.length+1)=true:=decide_eq_true (by lia);simp_all[tupI,q]
theorem Q3:aF (aY r) (.int 0)=some (.int r.j):=by unfold aY;rw[q_itT];exact at0
theorem RJ:aF (aY r) (.int 1)=some (.int r.k):=by unfold aY;rw[q_itT];exact at1
theorem Q7:aF (aY r) (.int 2)=some (.int r.a):=by unfold aY;rw[q_itT];exact at2
theorem RG:aF (aY r) (.int 3)=some (.int r.b):=by unfold aY;rw[q_itT];exact UN
theorem HE{q:Type}{l:List q}{x:q}:d7 (l++[x]) (-1)=some x:=by
 have:sQ (l++[x]).length (-1)=some l.length:=by
  unfold sQ;rw[WN,zaz];rw[if_neg (by decide)];split
  ·exact congrArg some (by lia)
  ·lia
 unfold d7;rw[this,aA];simp[-U9,-VA,aA,aB]
theorem cW{c:Bv}{τ:bI}{p:D->Bool}:∀(l:List D) (o:Option D),(∀x∈l,c (some x::τ)=some (p x))->bD (aJ 0) c (aD 0) l (o::τ)=some (l.filter p)
 | [],_,_=>rfl
 | x::l,o,h=>by
  have ih:=cW l (some x) λy B=>h y (V1 _ B)
  have q:=h x (V2 ..);rw[bD,show aJ 0 x (o::τ)=some (some x::τ)from rfl,aA,q,aA,zbc];cases p x with
  | true=>rw[if_pos rfl,if_pos rfl,show aD 0 (some x::τ)=some x from rfl,aA,ih,aA]
  | false=>rw[if_neg (by decide),if_neg (by decide),ih]
def RW(rs R:List Ro)(j k:Int)(d:D):Bool:=match d with
 | .int r=>match gT rs r with
  | some q=>decide (q.j=j) && RT R q.k k
  | none=>false
 | _=>false
structure Wy(n:Nat)(w:List Int):Prop where
 l:w.length<=10
 i:∀i∈w,0<=i/\i<(n:Int)
theorem d9{M:Int}{n:Nat}{rs:List Ro}(g:GR M (n:Int) (rs.map (red M)))(hn:n<=6){j k cell:Int}(j0:0<=j)(k0:0<=k/\k<(n:Int))(h:Rch (rs.map (red M)) j k):∃w:List Int,eA [.lst (rs.map aY),b6 n (RT (rs.map (red M))),.int j,.int k,.int cell]=some (tupI w)/\Wy rs.length w:=by
 suffices h:∃d,eA [.lst (rs.map aY),b6 n (RT (rs.map (red M))),.int j,.int k,.int cell]=some d/\∃w:List Int,d=tupI w/\Wy rs.length w by
  obtain⟨d,e,w,rfl,h⟩:=h;exact⟨w,e,h⟩
 have hl:rs.length<=12:=by have:=g.len;rwa [VD]at this
 refine nQ ?_;unfold pN;rw[aI (b5 (d:=tupI []) (by ac_rfl))];have jk:=Rch.le g h;have el:bY [.lst (rs.map aY)]=some (.int (rs.length:Int)):=by rw[q_lenL,VD]
 have rl:bN [.int (rs.length:Int)]=some (aO 0 1 rs.length):=by
  have:=bE (show(0:Int)<=(rs.length:Int) by lia) (show(rs.length:Int)<=1000000 by lia)
  rwa [W1]at this
 refine AW (λm ρ=>∃(B c:Int) (w:List Int) (o:Option D),ρ=[some (.lst (rs.map aY)),some (b6 n (RT (rs.map (red M)))),some (.int B),some (.int k),some (.int c),some (tupI w),o]/\0<=B/\Rch (rs.map (red M)) B k/\(k-B).toNat=m/\(w.length:Int)<=B/\∀i∈w,0<=i/\i<(rs.length:Int)) (λρ=>∃(c:Int) (w:List Int) (o:Option D),ρ=[some (.lst (rs.map aY)),some (b6 n (RT (rs.map (red M)))),some (.int k),some (.int k),some (.int c),some (tupI w),o]/\Wy rs.length w) (k-j).toNat (by lia) ⟨j,cell,[],none,rfl,j0,h,rfl,by simp[-U9,-VA,aA,aB];lia,λ_ z=>nomatch z⟩ ?_ ?_
 ·rintro m ρ ⟨B,c,w,o,rfl,ak,U,hm,hw,hi⟩
  by_cases ne:B=k
  ·subst ne
   exact .inr ⟨by simp[-U9,-VA,aA,aB],c,w,o,rfl,by lia,hi⟩
  ·have cm:=cW (c:=xN (lN (bC d6 (bC aF (bC aF (aD 1) (aD 0)) (eC (.int 0))) (aD 2))) (lN (bC aF (bC aF (aD 3) (bC aF (bC aF (aD 1) (aD 0)) (eC (.int 1)))) (aD 4)))) (τ:=[some (.lst (rs.map aY)),some (.int B),some (b6 n (RT (rs.map (red M)))),some (.int k)]) (p:=RW rs (rs.map (red M)) B k) (aO 0 1 rs.length) none (λx hx=>by
    obtain⟨i,hi⟩:=List.mem_iff_getElem?.mp hx;obtain⟨F,rfl⟩:=bB hi;have e0:(0:Int)+(i:Int)*1=(i:Int):=by lia
    rw[e0];have eq:rs[i]?=some rs[i]:=V6 F;have G:gT rs (i:Int)=some rs[i]:=by unfold gT;rw[if_pos (by lia),W1];exact eq
    have at_:=rT G;have Y:0<=rs[i].j/\rs[i].j<rs[i].k/\rs[i].k<(n:Int):=g.jk (red M rs[i]) (zbu (zaa F));have mt:=rP (P:=RT (rs.map (red M))) (show 0<=rs[i].k by lia) Y.2.2;have rt:=nU (p:=RT (rs.map (red M)) rs[i].k) k0.1 k0.2;unfold RW;dsimp only;rw[G];dsimp only;by_cases hj:rs[i].j=B
    ·simp_all[at_,Q3,RJ,hj,mt,rt]
    ·simp_all[at_,Q3,hj])
   generalize hL:(aO 0 1 rs.length).filter (RW rs (rs.map (red M)) B k)=L at cm;have inv:∀d∈L,∃(r:Int) (q:Ro),d=.int r/\gT rs r=some q/\q.j=B/\Rch (rs.map (red M)) q.k k:=λd hd=>by
    rw[<- hL]at hd;obtain⟨h1,h2⟩:=List.mem_filter.mp hd;obtain⟨i,hi⟩:=List.mem_iff_getElem?.mp h1;obtain⟨F,rfl⟩:=bB hi;unfold RW at h2;dsimp only at h2;cases G:gT rs (0+(i:Int)*1)with
    | none=>rw[G]at h2;cases h2
    | some q=>
     rw[G]at h2;simp only[V5,decide_eq_true_eq]at h2;exact⟨_,q,rfl,G,h2.1,g9.mp h2.2⟩
   have ll:L.length<=12:=by rw[<- hL];refine WM (zbv ..) ?_;rw[aU];exact hl
   have N:0<(L.length:Int):=by
    rcases U.inv with z|⟨a,r,h1,h2,J⟩
    ·exact absurd z ne
    ·rw[IX]at h1
     obtain⟨q,W,rfl⟩:=map_some h1;have mem:D.int a∈L:=by
      rw[<- hL];refine List.mem_filter.mpr ⟨?_,?_⟩
      ·have:=nR W
       unfold aO;exact List.mem_map.mpr ⟨a.toNat,List.mem_range.mpr (by lia),by rw[show(0:Int)+((a.toNat:Nat):Int)*1=a by lia]⟩
      ·unfold RW
       dsimp only;rw[W];simp only[V5,decide_eq_true_eq];exact⟨h2,g9.mpr J⟩
     have:=List.length_pos_of_mem mem
     lia
   have a0:=VP c (WJ N);have a1:=VQ c N;obtain⟨d,hd,_,ed⟩:=oC a0 a1;obtain⟨r,q,rfl,h1,h2,J⟩:=inv d hd;have at_:=rT h1;have Y:0<=q.j/\q.j<q.k/\q.k<(n:Int):=g.jk (red M q) (zbu (zF h1));have qk:=Rch.le g J;have am:=Rch.le g U;have sn:=D5 (w:=w) (x:=r) (by lia);have zl:(aO 0 1 rs.length).length<=1000000:=by rw[aU];lia
   have dd:vG (.int c) (.int (L.length:Int))=some (.int (c/(L.length:Int))):=qK N (by lia);have la:aF (tupI (w++[r])) (.int (-1))=some (.int r):=by
    show d7 ((w++[r]).map D.int) (-1)=_;rw[W6];exact HE
   refine .inl ⟨by simp_all[ne],(k-q.k).toNat,[some (.lst (rs.map aY)),some (b6 n (RT (rs.map (red M)))),some (.int q.k),some (.int k),some (.int (c/(L.length:Int))),some (tupI (w++[r])),some (.lst L)],by lia,?_,q.k,_,w++[r],_,rfl,by lia,J,rfl,by simp[-U9,-VA,aA,aB];lia,λi z=>?_⟩
   rotate_left
   ·rcases List.mem_append.mp z with z|z
    ·exact hi i z
    ·rw[List.mem_singleton.mp z];exact nR h1
   rw[aI (cC (d:=.lst L) (ρ':=[some (.lst (rs.map aY)),some (b6 n (RT (rs.map (red M)))),some (.int B),some (.int k),some (.int c),some (tupI w),some (.lst L)]) (lH (KW (zB (lA (by ac_rfl) el) rfl) rl) zl cm) rfl)];rw[aI (cC (d:=tupI (w++[r])) (ρ':=[some (.lst (rs.map aY)),some (b6 n (RT (rs.map (red M)))),some (.int B),some (.int k),some (.int c),some (tupI (w++[r])),some (.lst L)]) (by ac_rfl) rfl)];rw[aI (cC (ρ':=[some (.lst (rs.map aY)),some (b6 n (RT (rs.map (red M)))),some (.int B),some (.int k),some (.int (c/(L.length:Int))),some (tupI (w++[r])),some (.lst L)]) (by ac_rfl) rfl)];have r1:=RJ (r:=q);exact cC (d:=.int q.k) (by ac_rfl) rfl
 ·rintro ρ ⟨c,w,o,rfl,hw⟩
  exact⟨_,RF rfl,w,rfl,hw⟩
inductive Gd:Nat->D->Prop
 | int {k:Nat} {i:Int}:Gd k (.int i)
 | str {k:Nat} {s:Str}:Gd k (.str s)
 | tup {k:Nat} {l:List D} (h:∀d∈l,Gd k d):Gd (k+1) (.tup l)
theorem Gd.mono{k m:Nat}{d:D}(h:Gd k d)(l:k<=m):Gd m d:=by
 induction h generalizing m with
 | int=>exact .int
 | str=>exact .str
 | tup _ ih=>
  obtain⟨m,rfl⟩:∃p,m=p+1:=⟨m-1,by lia⟩;exact .tup λd hd=>ih d hd (by lia)
theorem Gd.ints{k:Nat}{w:List Int}:Gd (k+1) (tupI w):=.tup λd hd=>by
 obtain⟨i,_,rfl⟩:=List.mem_map.mp hd;exact .int
theorem w6{k:Nat}:∀l:List D,(∀d∈l,∃x,eZ d=some x/\x.nb=true/\x.dep<=k)->∃xs,hV l=some xs/\My.GF xs=true/\My.oP xs<=k
 | [],_=>⟨[],rfl,rfl,WL _⟩
 | a::l,h=>by
  obtain⟨x,h1,h2,F⟩:=h a (V2 ..);obtain⟨xs,B,q,G⟩:=w6 l λd hd=>h d (V1 _ hd)
  exact⟨x::xs,by rw[hV,h1,U9,B,U9],by rw[My.GF,h2,q];rfl,by rw[My.oP];lia⟩
theorem Gd.x{k:Nat}{d:D}(h:Gd k d):∃x,eZ d=some x/\x.nb=true/\x.dep<=k:=by
 induction h with
 | int=>exact⟨_,rfl,rfl,WL _⟩
 | str=>exact⟨_,rfl,rfl,WL _⟩
 | @tup k l _ ih=>
  obtain⟨xs,h1,h2,q⟩:=w6 l ih;exact⟨.tup xs,by rw[eZ,h1];rfl,by rw[My.Dx.nb];exact h2,by rw[My.Dx.dep];lia⟩
theorem Gd.ok{k:Nat}{d:D}(h:Gd k d)(l:k<=60):dG d=true:=by
 obtain⟨x,h1,h2,q⟩:=h.x;unfold dG;rw[h1];show(x.nb && decide (x.dep<=60))=true;rw[h2,decide_eq_true (show x.dep<=60 by lia)];rfl
theorem b4{a b:Str}:d6 (.str a) (.str b)=some (.bl (decide (a=b))):=by
 unfold d6 B6;rw[if_pos (.inl rfl)];simp[-U9,-VA,aA,aB]
theorem zV{a b:List D}(h:a.length+b.length<=1000000):aT (.tup a) (.tup b)=some (.tup (a++b)):=if_pos (decide_eq_true h)
inductive Rg(nr nm:Nat):Nat->List Str->D->Prop
 | nam {k:Nat} {xs:List Str} {x:Str} {w:List Int} (hx:x∈xs) (hw:Wy nr w):Rg nr nm (k+1) xs (.tup [.str "name",.str x,tupI w])
 | num {k:Nat} {xs:List Str} {a j:Int} {w:List Int} (hw:Wy nr w):Rg nr nm (k+1) xs (.tup [.str "number",.int a,.int j,tupI w])
 | use {k:Nat} {xs:List Str} {v:Int} {l:List D} {w:List Int} (hv:0<=v/\v<(nm:Int)) (hl:l.length<=2) (h:∀r∈l,Rg nr nm k xs r) (hw:Wy nr w):Rg nr nm (k+1) xs (.tup [.str "use",.int v,.tup l,tupI w])
 | bnd {k:Nat} {xs:List Str} {x:Str} {j:Int} {a b:D} (hx:x∉xs) (ha:Rg nr nm k xs a) (hb:Rg nr nm k (xs++[x]) b):Rg nr nm (k+1) xs (.tup [.str "let",.str x,.int j,a,b])
 | pick {k:Nat} {xs:List Str} {i j:Int} {a b c:D} {w:List Int} (ha:Rg nr nm k xs a) (hb:Rg nr nm k xs b) (hc:Rg nr nm k xs c) (hw:Wy nr w):Rg nr nm (k+1) xs (.tup [.str "pick",.int i,.int j,a,b,c,tupI w])
 | again {k:Nat} {xs:List Str} {i j:Int} {x:Str} {a b:D} {w:List Int} (hx:x∉xs) (ha:Rg nr nm k xs a) (hb:Rg nr nm k (xs++[x]) b) (hw:Wy nr w):Rg nr nm (k+1) xs (.tup [.str "again",.int i,.int j,.str x,a,b,tupI w])
theorem Rg.mono{q nm k m:Nat}{xs:List Str}{d:D}(h:Rg q nm k xs d)(l:k<=m):Rg q nm m xs d:=by
 induction h generalizing m with
 | nam hx hw=>obtain⟨m,rfl⟩:∃p,m=p+1:=⟨m-1,by lia⟩;exact .nam hx hw
 | num hw=>obtain⟨m,rfl⟩:∃p,m=p+1:=⟨m-1,by lia⟩;exact .num hw
 | use hv hl _ hw ih=>obtain⟨m,rfl⟩:∃p,m=p+1:=⟨m-1,by lia⟩;exact .use hv hl (λr B=>ih r B (by lia)) hw
 | bnd hx _ _ i1 i2=>obtain⟨m,rfl⟩:∃p,m=p+1:=⟨m-1,by lia⟩;exact .bnd hx (i1 (by lia)) (i2 (by lia))
 | pick _ _ _ hw i1 i2 i3=>obtain⟨m,rfl⟩:∃p,m=p+1:=⟨m-1,by lia⟩;exact .pick (i1 (by lia)) (i2 (by lia)) (i3 (by lia)) hw
 | again hx _ _ hw i1 i2=>obtain⟨m,rfl⟩:∃p,m=p+1:=⟨m-1,by lia⟩;exact .again hx (i1 (by lia)) (i2 (by lia)) hw
def sR(n:Nat):List Str->List (Key×D)
 | []=>[]
 | x::xs=>(.inr x,.int (n:Int))::sR (n+1) xs
def dH(xs:List Str):D:=.dK (sR 0 xs)
theorem uZ{x:Str}:∀(xs:List Str) (n:Nat),sR n (xs++[x])=sR n xs++[(.inr x,.int ((n+xs.length:Nat):Int))]
 | [],n=>rfl
 | y::xs,n=>by
  rw[zaV,sR,uZ xs (n+1),sR,zaV,VR,show n+1+xs.length=n+(xs.length+1) by lia]
theorem rE:∀(xs:List Str) (n:Nat),(sR n xs).length=xs.length
 | [],n=>rfl
 | y::xs,n=>by rw[sR,VR,rE xs,VR]
theorem FB{x:Str}:∀(xs:List Str) (n:Nat),x∉xs->(sR n xs).any (λp=>decide (p.1=(.inr x:Key)))=false
 | [],n,_=>rfl
 | y::xs,n,h=>by
  have h1:¬ y=x:=λz=>h (z ▸ V2 ..)
  rw[sR,XE,FB xs (n+1) λz=>h (V1 _ z)];simp_all[h1]
open Classical in
theorem EX{x:Str}:∀(xs:List Str) (n:Nat),x∈xs->∃i:Nat,dF (sR n xs) (.inr x:Key)=some (.int ((n+i:Nat):Int))/\(xs.map D.str).findIdx? (λy=>decide (y=D.str x))=some i
 | [],n,h=>nomatch h
 | y::xs,n,h=>by
  by_cases e:y=x
  ·exact⟨0,by unfold dF;rw[sR,WZ];simp_all[e],by rw[VG,List.findIdx?_cons];simp_all[e]⟩
  ·obtain⟨i,h1,h2⟩:=EX xs (n+1) ((List.mem_cons.mp h).resolve_left λz=>e z.symm)
   refine⟨i+1,?_,?_⟩
   ·unfold dF at h1 ⊢
    rw[sR,WZ];simp only[Sum.inr.injEq,e,decide_false];rw[h1,show n+1+i=n+(i+1) by lia]
   ·rw[VG,List.findIdx?_cons,h2]
    simp_all[e]
open Classical in
theorem QK{x:Str}{xs:List Str}(h:x∈xs)(B:xs.length<=100):∃i:Int,aF (dH xs) (.str x)=some (.int i)/\nM (.lst (xs.map .str)) (.str x)=some (.int i):=by
 obtain⟨i,h1,h2⟩:=EX xs 0 h;rw[YU]at h1;have q:∀y:Str,dG (.str y)=true:=λy=>rfl
 refine⟨(i:Int),?_,?_⟩
 ·show(some (dF (sR 0 xs) (.inr x:Key))).join=_
  rw[h1];rfl
 ·unfold nM
  dsimp only;rw[if_pos ⟨q x,by rw[List.all_map];exact List.all_eq_true.mpr λy _=>q y,decide_eq_true (by rw[VD];lia)⟩,h2];rfl
theorem rR{xs:List Str}:bY [dH xs]=some (.int (xs.length:Int)):=by
 show some (D.int ((sR 0 xs).length:Int))=_;rw[rE]
theorem EW{x:Str}{xs:List Str}(h:x∉xs)(q:xs.length<=100):sN (dH xs) (.str x) (.int (xs.length:Int))=some (dH (xs++[x])):=by
 show(if aW (sR 0 xs).length then some (D.dK (putD (sR 0 xs) (.inr x) _))else none)=_;rw[if_pos (show aW (sR 0 xs).length=true from decide_eq_true (by rw[rE];lia))];unfold putD dH;rw[FB xs 0 h,uZ,YU];rfl
theorem rL{R:List Ro}{n:Nat}{want:Int}(h0:0<=want)(h1:want<(n:Int)):∃L:List D,bD (aJ 0) (lN (bC aF (bC aF (aD 1) (aD 0)) (aD 2))) (aD 0) (aO 0 1 n) [none,some (b6 n (RT R)),some (.int want)]=some L/\0<(L.length:Int)/\L.length<=n/\∀d∈L,∃j:Int,d=.int j/\0<=j/\j<(n:Int)/\Rch R j want:=by
 refine⟨_,cW (p:=λd=>match d with | .int j=>RT R j want|_=>false) (aO 0 1 n) none (λx B=>?_),?_,?_,λd hd=>?_⟩
 ·obtain⟨i,hi⟩:=List.mem_iff_getElem?.mp B
  obtain⟨q,rfl⟩:=bB hi;have G:=rP (K:=n) (P:=RT R) (k:=0+(i:Int)*1) (by lia) (by lia);have rt:=nU (K:=n) (p:=RT R (0+(i:Int)*1)) h0 h1;exact sE (bV (bV rfl rfl G) rfl rt)
 ·have mem:D.int want∈(aO 0 1 n).filter (λd=>match d with | .int j=>RT R j want|_=>false):=by
   refine List.mem_filter.mpr ⟨?_,g9.mpr (Rch.refl _ _)⟩;unfold aO;exact List.mem_map.mpr ⟨want.toNat,List.mem_range.mpr (by lia),by rw[show(0:Int)+((want.toNat:Nat):Int)*1=want by lia]⟩
  have:=List.length_pos_of_mem mem
  lia
 ·refine WM (zbv ..) ?_
  rw[aU];exact VH _
 ·obtain⟨F,J⟩:=List.mem_filter.mp hd
  obtain⟨i,hi⟩:=List.mem_iff_getElem?.mp F;obtain⟨q,rfl⟩:=bB hi;exact⟨_,rfl,by lia,by lia,g9.mp J⟩
noncomputable def bW(kn:List (Str×Int)):List D:=kn.map λp=>.tup [.str p.1,.int p.2]
theorem C7{R:List Ro}{n:Nat}{want:Int}{kn:List (Str×Int)}(B:∀p∈kn,0<=p.2/\p.2<(n:Int))(h0:0<=want)(h1:want<(n:Int)):∃L:List D,bD (aJ 0) (lN (bC aF (bC aF (aD 1) (bC aF (aD 0) (eC (.int 1)))) (aD 2))) (aD 0) (bW kn) [none,some (b6 n (RT R)),some (.int want)]=some L/\L.length<=kn.length/\∀d∈L,∃(x:Str) (j:Int),d=.tup [.str x,.int j]/\x∈kn.map (·.1)/\0<=j/\j<(n:Int)/\Rch R j want:=by
 refine⟨_,cW (p:=λd=>match d with | .tup [_,.int j]=>RT R j want|_=>false) (bW kn) none (λx F=>?_),?_,λd hd=>?_⟩
 ·obtain⟨p,q,rfl⟩:=List.mem_map.mp F
  obtain⟨U,M⟩:=B p q;have J:=rP (K:=n) (P:=RT R) U M;have rt:=nU (K:=n) (p:=RT R p.2) h0 h1;exact sE (bV (bV rfl (bV rfl rfl rfl) J) rfl rt)
 ·refine WM (zbv ..) ?_
  unfold bW;rw[VD];exact VH _
 ·obtain⟨G,N⟩:=List.mem_filter.mp hd
  obtain⟨p,q,rfl⟩:=List.mem_map.mp G;exact⟨p.1,p.2,rfl,zbu q,(B p q).1,(B p q).2,g9.mp N⟩
structure Wo(M:Int)(n:Nat)(rs:List Ro)(ms:List Mk):Prop where
 mp:0<M
 hn:1<=n/\n<=6
 g:GR M (n:Int) (rs.map (red M))
 ml:ms.length<=5
 mo:∀m∈ms,OkM (n:Int) 7 m
def wD(ns:List Int)(M:Int)(n:Nat)(rs:List Ro)(ms:List Mk)(c:Int):D:=.tup [.lst (ns.map .int),.int M,.lst (rs.map aY),.lst (ms.map eY),b6 n (RT (rs.map (red M))),.lst (bP c 8)]
abbrev eX(p0 p1 p2 p3:Int):D:=.lst [.int p0,.int p1,.int p2,.int p3]
noncomputable def cst:Nat->Int
 | 0=>2
 | d+1=>2+3*cst d
def Res(B nm:Nat)(xs:List Str)(k:Int)(q:Nat)(p0 p2 p3:Int)(r:Option (D×D)):Prop:=∃(part rd:D) (q0 q1 q2 q3:Int),r=some (.tup [part,rd],eX q0 q1 q2 q3)/\(p0<=q0/\q0<=p0+k)/\(p2<=q2/\q2<=8)/\(0<=q3/\q3<=p3)/\Rg B nm q xs rd
theorem mP{ns:List Int}{M c:Int}{n:Nat}{rs:List Ro}{ms:List Mk}(B:Wo M n rs ms){kn:List (Str×Int)}(hk:∀p∈kn,0<=p.2/\p.2<(n:Int))(kl:kn.length<=100){want cell p0 p1 p2 p3:Int}(hw:0<=want/\want<(n:Int))(h0:0<=p0/\p0<=900)(h2:p2<=8)(h3:0<=p3):Res rs.length ms.length (kn.map (·.1)) 1 1 p0 p2 p3 (dA [wD ns M n rs ms c,eX p0 p1 p2 p3,.lst (bW kn),.int want,.int cell]):=by
 obtain⟨f,hf⟩:=cX ns;have Mp:=B.mp;obtain⟨L,cm,ll,hL⟩:=C7 (R:=rs.map (red M)) hk hw.1 hw.2;obtain⟨K,cn,W,kk,hK⟩:=rL (R:=rs.map (red M)) hw.1 hw.2;have zl:(bW kn).length<=1000000:=by unfold bW;rw[VD];lia
 have el:bY [b6 n (RT (rs.map (red M)))]=some (.int (n:Int)):=by unfold b6;rw[q_lenL,VD,zai]
 have rl:bN [.int (n:Int)]=some (aO 0 1 n):=by
  have:=bE (show(0:Int)<=(n:Int) by lia) (show(n:Int)<=1000000 by have:=B.hn;lia)
  rwa [W1]at this
 have zr:(aO 0 1 n).length<=1000000:=by rw[aU];have:=B.hn;lia
 have fk:=hf (p0+1) (by lia) (by lia)
 suffices h:∃(d l:D),gU (aK 15 [wD ns M n rs ms c,eX p0 p1 p2 p3,.lst (bW kn),.int want,.int cell])=some (.rt d l)/\Res rs.length ms.length (kn.map (·.1)) 1 1 p0 p2 p3 (some (d,l)) by
  obtain⟨d,l,e,h⟩:=h;rw[show dA [wD ns M n rs ms c,eX p0 p1 p2 p3,.lst (bW kn),.int want,.int cell]=some (d,l)from k8 e];exact h
 unfold gU kJ;rw[show aK 15 [wD ns M n rs ms c,eX p0 p1 p2 p3,.lst (bW kn),.int want,.int cell]=[some (wD ns M n rs ms c),some (eX p0 p1 p2 p3),some (.lst (bW kn)),some (.int want),some (.int cell),none,none,none,none,none,none,none,none,none,none]from rfl];have un:cN 6 (aR (aJ 5) (aR (aJ 6) (aR (aJ 7) (aR (aJ 8) (aR (aJ 9) (aR (aJ 10) gQ)))))) (wD ns M n rs ms c) [some (wD ns M n rs ms c),some (eX p0 p1 p2 p3),some (.lst (bW kn)),some (.int want),some (.int cell),none,none,none,none,none,none,none,none,none,none]=some [some (wD ns M n rs ms c),some (eX p0 p1 p2 p3),some (.lst (bW kn)),some (.int want),some (.int cell),some (.lst (ns.map .int)),some (.int M),some (.lst (rs.map aY)),some (.lst (ms.map eY)),some (b6 n (RT (rs.map (red M)))),some (.lst (bP c 8)),none,none,none,none]:=rfl;have N:∀ {d l:D} {q:Qv} {ρ:bI},q ρ=some (.rt d l)->Res rs.length ms.length (kn.map (·.1)) 1 1 p0 p2 p3 (some (d,l))->∃d l,q ρ=some (.rt d l)/\Res rs.length ms.length (kn.map (·.1)) 1 1 p0 p2 p3 (some (d,l)):=λa b=>⟨_,_,a,b⟩
 by_cases Y:0<(L.length:Int)/\0<cell%4
 ·obtain⟨F,c2⟩:=Y
  have a0:=VP (cell/4) (WJ F);have J:=VQ (cell/4) F;obtain⟨d,hd,_,ed⟩:=oC a0 J;obtain⟨x,j,rfl,hx,U,j1,G⟩:=hL d hd;obtain⟨w,ew,wl⟩:=d9 (cell:=cell/64) B.g B.hn.2 U hw G;apply N
  ·ac_rfl
  ·exact⟨_,.tup [.str "name",.str x,tupI w],p0,p1,p2,p3,rfl,by lia,by lia,by lia,.nam hx wl⟩
 ·have a0:=VP (cell/4) (WJ W)
  have J:=VQ (cell/4) W;obtain⟨d,hd,_,ed⟩:=oC a0 J;obtain⟨j,rfl,U,j1,G⟩:=hK d hd;obtain⟨w,ew,wl⟩:=d9 (cell:=cell/64) B.g B.hn.2 U hw G;have fin:Res rs.length ms.length (kn.map (·.1)) 1 1 p0 p2 p3 (some (.tup [.tup [.str "number",.int (f (p0+1)%M),.int j],.tup [.str "number",.int (f (p0+1)%M),.int j,tupI w]],eX (p0+1) p1 p2 p3)):=
   ⟨_,_,_,_,_,_,rfl,by lia,by lia,by lia,.num wl⟩
  by_cases F:0<(L.length:Int)
  ·have c2:¬ 0<cell%4:=λz=>Y ⟨F,z⟩
   apply N
   ·ac_rfl
   ·exact fin
  ·apply N
   ·ac_rfl
   ·exact fin
theorem k5:∀d:Nat,2<=cst d
 | 0=>by decide
 | d+1=>by have:=k5 d;unfold cst;lia
def KN(c:Int)(kn:List (Str×Int))(p:Int):Prop:=∀y∈kn,∃i:Int,0<=i/\i<p/\y.1=b7 c i
theorem KN.mono{c p q:Int}{kn:List (Str×Int)}(h:KN c kn p)(l:p<=q):KN c kn q:=λy B=>by
 obtain⟨i,a,b,e⟩:=h y B;exact⟨i,a,by lia,e⟩
theorem KN.no{c p:Int}{kn:List (Str×Int)}(h:KN c kn p)(h0:0<=p)(F:p<8):b7 c p∉kn.map (·.1):=λz=>by
 obtain⟨y,B,e⟩:=List.mem_map.mp z;obtain⟨i,a,b,q⟩:=h y B;have:=nO a (by lia) h0 F (q.symm.trans e)
 lia
theorem KN.snoc{c p q j:Int}{kn:List (Str×Int)}(h:KN c kn p)(h0:0<=p)(l:p+1<=q):KN c (kn++[(b7 c p,j)]) q:=λy B=>by
 rcases List.mem_append.mp B with z|z
 ·exact h.mono (by lia) y z
 ·rw[List.mem_singleton.mp z];exact⟨p,h0,by lia,rfl⟩
theorem uH{kn:List (Str×Int)}{x:Str}{j:Int}:bW (kn++[(x,j)])=bW kn++[.tup [.str x,.int j]]:=by unfold bW;rw[W6];rfl
theorem sA{c p:Int}(h0:0<=p)(h:p<8):d7 (bP c 8) p=some (.str (b7 c p)):=by
 obtain⟨n,rfl⟩:=zbr h0;refine bX ?_;unfold bP;rw[VV,zbl (by lia)];rfl
def GH(G:Fq)(ns:List Int)(M c:Int)(n:Nat)(rs:List Ro)(ms:List Mk)(d:Nat):Prop:=∀ {kn:List (Str×Int)} {want nest p0 p1 p2 p3:Int},(∀p∈kn,0<=p.2/\p.2<(n:Int))->KN c kn p2->kn.length+d<=90->0<=want/\want<(n:Int)->0<=p0/\p0+cst d<=900->0<=p2/\p2<=8->0<=p3->Res rs.length ms.length (kn.map (·.1)) (cst d) (d+1) p0 p2 p3 (G [wD ns M n rs ms c,eX p0 p1 p2 p3,.lst (bW kn),.int want,.int (d:Int),.int nest])
theorem yB{n:Nat}{kn:List (Str×Int)}{x:Str}{j:Int}(B:∀p∈kn,0<=p.2/\p.2<(n:Int))(h:0<=j/\j<(n:Int)):∀p∈kn++[(x,j)],0<=p.2/\p.2<(n:Int):=λp q=>by
 rcases List.mem_append.mp q with z|z
 ·exact B p z
 ·rw[List.mem_singleton.mp z];exact h
theorem sT{G Bq:Fq}{ns:List Int}{M c:Int}{n d:Nat}{rs:List Ro}{ms:List Mk}(B:Wo M n rs ms)(Y:GH G ns M c n rs ms d){kn:List (Str×Int)}(hk:∀p∈kn,0<=p.2/\p.2<(n:Int))(kl:kn.length+(d+1)<=90){want nest cell p0 p1 p2 p3:Int}(J:KN c kn p2)(hw:0<=want/\want<(n:Int))(h0:0<=p0/\p0+2*cst d<=900)(h2:0<=p2/\p2<8)(h3:0<=p3)(h5:cell%8=5->0<p3):Res rs.length ms.length (kn.map (·.1)) (2*cst d) (d+2) p0 p2 p3 (oQ 21 (dO G Bq) [wD ns M n rs ms c,eX p0 p1 p2 p3,.lst (bW kn),.int want,.int ((d:Int)+1),.int nest,.int cell]):=by
 have cp:=k5 d;have np:0<(n:Int):=by have:=B.hn;lia
 obtain⟨K,cn,kp,kk,hK⟩:=rL (R:=rs.map (red M)) hw.1 hw.2;have zk:(bW kn).length+1<=1000000:=by unfold bW;rw[VD];lia
 have el:bY [b6 n (RT (rs.map (red M)))]=some (.int (n:Int)):=by unfold b6;rw[q_lenL,VD,zai]
 have rl:bN [.int (n:Int)]=some (aO 0 1 n):=by
  have:=bE (show(0:Int)<=(n:Int) by lia) (show(n:Int)<=1000000 by have:=B.hn;lia)
  rwa [W1]at this
 have zr:(aO 0 1 n).length<=1000000:=by rw[aU];have:=B.hn;lia
 have nx:=sA (c:=c) h2.1 h2.2
 suffices h:∃(F l:D),dO G Bq (aK 21 [wD ns M n rs ms c,eX p0 p1 p2 p3,.lst (bW kn),.int want,.int ((d:Int)+1),.int nest,.int cell])=some (.rt F l)/\Res rs.length ms.length (kn.map (·.1)) (2*cst d) (d+2) p0 p2 p3 (some (F,l)) by
  obtain⟨F,l,e,h⟩:=h;rw[k8 e];exact h
 unfold dO;rw[show aK 21 [wD ns M n rs ms c,eX p0 p1 p2 p3,.lst (bW kn),.int want,.int ((d:Int)+1),.int nest,.int cell]=[some (wD ns M n rs ms c),some (eX p0 p1 p2 p3),some (.lst (bW kn)),some (.int want),some (.int ((d:Int)+1)),some (.int nest),some (.int cell),none,none,none,none,none,none,none,none,none,none,none,none,none,none]from rfl];have un:cN 6 (aR (aJ 7) (aR (aJ 8) (aR (aJ 9) (aR (aJ 10) (aR (aJ 11) (aR (aJ 12) gQ)))))) (wD ns M n rs ms c) [some (wD ns M n rs ms c),some (eX p0 p1 p2 p3),some (.lst (bW kn)),some (.int want),some (.int ((d:Int)+1)),some (.int nest),some (.int cell),none,none,none,none,none,none,none,none,none,none,none,none,none,none]=some [some (wD ns M n rs ms c),some (eX p0 p1 p2 p3),some (.lst (bW kn)),some (.int want),some (.int ((d:Int)+1)),some (.int nest),some (.int cell),some (.lst (ns.map .int)),some (.int M),some (.lst (rs.map aY)),some (.lst (ms.map eY)),some (b6 n (RT (rs.map (red M)))),some (.lst (bP c 8)),none,none,none,none,none,none,none,none]:=rfl;have ad:∀ {F l:D} {q:Qv} {ρ:bI},q ρ=some (.rt F l)->Res rs.length ms.length (kn.map (·.1)) (2*cst d) (d+2) p0 p2 p3 (some (F,l))->∃F l,q ρ=some (.rt F l)/\Res rs.length ms.length (kn.map (·.1)) (2*cst d) (d+2) p0 p2 p3 (some (F,l)):=λa b=>⟨_,_,a,b⟩
 have dm:(d:Int)+1-1=(d:Int):=by lia
 by_cases c5:cell%8=5
 ·have pp:=h5 c5
  have j0:=VP (cell/8) (WJ np);have j1:=VQ (cell/8) np;have dj:eW (.int (cell/8)) (.int (n:Int))=some (.int (cell/8%(n:Int))):=cF np;generalize cell/8%(n:Int)=j at j0 j1 dj;obtain⟨pa,ra,a0,U,a2,a3,ea,au,ai,ab,ga⟩:=Y (kn:=kn) (want:=j) (nest:=nest) (p0:=p0) (p1:=p1) (p2:=p2+1) (p3:=p3-1) hk (J.mono (by lia)) (by lia) ⟨j0,j1⟩ (by lia) (by lia) (by lia);obtain⟨pb,rb,b0,b1,b2,b3,W,al,ae,as,N⟩:=Y (kn:=kn++[(b7 c p2,j)]) (want:=want) (nest:=nest) (p0:=a0) (p1:=U) (p2:=a2) (p3:=a3) (yB hk ⟨j0,j1⟩) (J.snoc h2.1 (by lia)) (by simp[-U9,-VA,aA,aB];lia) hw (by lia) (by lia) (by lia);rw[<- dm]at ea W;rw[uH]at W;rw[W6,VG,WV]at N;apply ad
  ·ac_rfl
  ·exact⟨_,.tup [.str "let",.str (b7 c p2),.int j,ra,rb],b0,b1,b2,b3,rfl,by lia,by lia,by lia,.bnd (J.no h2.1 h2.2) ga N⟩
 ·have a0:=VP (cell/32) (WJ kp)
  have U:=VQ (cell/32) kp;obtain⟨F,hd,_,ed⟩:=oC a0 U;obtain⟨k,rfl,k0,k1,hr⟩:=hK F hd;obtain⟨w,ew,wl⟩:=d9 (cell:=cell/192) B.g B.hn.2 k0 hw hr;obtain⟨pa,ra,a0,U,a2,a3,ea,au,ai,ab,ga⟩:=Y (kn:=kn) (want:=k) (nest:=nest) (p0:=p0) (p1:=p1) (p2:=p2+1) (p3:=p3) hk (J.mono (by lia)) (by lia) ⟨k0,k1⟩ (by lia) (by lia) (by lia);obtain⟨pb,rb,b0,b1,b2,b3,W,al,ae,as,N⟩:=Y (kn:=kn++[(b7 c p2,k)]) (want:=k) (nest:=nest+1) (p0:=a0) (p1:=U) (p2:=a2) (p3:=a3) (yB hk ⟨k0,k1⟩) (J.snoc h2.1 (by lia)) (by simp[-U9,-VA,aA,aB];lia) ⟨k0,k1⟩ (by lia) (by lia) (by lia);rw[<- dm]at ea W;rw[uH]at W;rw[W6,VG,WV]at N;apply ad
  ·ac_rfl
  ·exact⟨_,.tup [.str "again",.int _,.int k,.str (b7 c p2),ra,rb,tupI w],b0,b1,b2,b3,rfl,by lia,by lia,by lia,.again (J.no h2.1 h2.2) ga N wl⟩
theorem bO{s t:Qv}{ρ ρ':bI}{R:D->D->Prop}(h:s ρ=some (.nx ρ'))(k:∃d l,t ρ'=some (.rt d l)/\R d l):∃d l,oR s t ρ=some (.rt d l)/\R d l:=by
 obtain⟨d,l,e,r⟩:=k;exact⟨d,l,nJ h (FP e),r⟩
theorem lG{s t:Qv}{ρ:bI}{d l:D}{R:D->D->Prop}(h:s ρ=some (.rt d l))(r:R d l):∃d l,oR s t ρ=some (.rt d l)/\R d l:=⟨d,l,nJ h rfl,r⟩
theorem y6{i z zc:Nat}{ms:List (Option Nat)}{it:Lv}{g:Gv}{f:Qe}{ρ q ρ':bI}{y l:D}{xs ds:List D}(hz:aD z ρ=some y)(hi:it ρ=some xs)(zs:xs.length<=1000000)(F:qC zc g f xs (jV ms ρ)=some (ds,q))(B:aD zc q=some l)(k:(ρ.set z (some l)).set i (some (.lst ds))=ρ'):zJ i z zc ms it g f ρ=some (.nx ρ'):=by
 unfold zJ;rw[hz,aA];refine yD ?_ k;unfold zN;rw[hi,aA];refine(if_pos (decide_eq_true zs)).trans ?_;rw[F,aA,B,aB]
theorem yS{R:List Ro}{n:Nat}{ms:List Mk}{want:Int}(N:∀m∈ms,OkM (n:Int) 7 m)(h0:0<=want)(h1:want<(n:Int)):∃L:List D,bD (aJ 0) (lN (bC aF (bC aF (aD 1) (bC aF (bC aF (aD 2) (aD 0)) (eC (.int 2)))) (aD 3))) (aD 0) (aO 0 1 ms.length) [none,some (b6 n (RT R)),some (.lst (ms.map eY)),some (.int want)]=some L/\∀d∈L,∃(v:Int) (m:Mk),d=.int v/\(0<=v/\v<(ms.length:Int))/\m∈ms/\d7 (ms.map eY) v=some (eY m)/\Rch R m.gv want:=by
 have at_:∀i:Nat,i<ms.length->∃m∈ms,d7 (ms.map eY) (0+(i:Int)*1)=some (eY m)/\ms[i]?=some m:=λi hi=>by
  refine⟨ms[i],zaa hi,?_,V6 hi⟩;rw[show(0:Int)+(i:Int)*1=(i:Int) by lia];exact bX (by rw[VV,V6 hi];rfl)
 refine⟨_,cW (p:=λd=>match d with | .int j=>(match ms[j.toNat]? with|some m=>RT R m.gv want|none=>false)|_=>false) (aO 0 1 ms.length) none (λx M=>?_),λd hd=>?_⟩
 ·obtain⟨i,hi⟩:=List.mem_iff_getElem?.mp M
  obtain⟨q,rfl⟩:=bB hi;obtain⟨m,B,G,J⟩:=at_ i q;have ok:=(N m B).gv;have W:=rP (K:=n) (P:=RT R) ok.1 ok.2;have rt:=nU (K:=n) (p:=RT R m.gv) h0 h1;have Y:aF (eY m) (.int 2)=some (.int m.gv):=rfl;dsimp only;rw[show((0:Int)+(i:Int)*1).toNat=i by lia,J];exact sE (bV (bV rfl (bV (bV rfl rfl (KY G)) rfl Y) W) rfl rt)
 ·obtain⟨U,F⟩:=List.mem_filter.mp hd
  obtain⟨i,hi⟩:=List.mem_iff_getElem?.mp U;obtain⟨q,rfl⟩:=bB hi;obtain⟨m,B,G,J⟩:=at_ i q;dsimp only at F;rw[show((0:Int)+(i:Int)*1).toNat=i by lia,J]at F;exact⟨_,m,rfl,by lia,B,G,g9.mp F⟩
theorem gW{G:Fq}{ns:List Int}{M c:Int}{n d:Nat}{rs:List Ro}{ms:List Mk}(W:GH G ns M c n rs ms d){kn:List (Str×Int)}(hk:∀p∈kn,0<=p.2/\p.2<(n:Int))(U:kn.length+d<=90){nest:Int}:∀(ks:List Int) (o:Option D) (p0 p1 p2 p3:Int),(∀k∈ks,0<=k/\k<(n:Int))->0<=p0/\p0+(ks.length:Int)*cst d<=900->0<=p2/\p2<=8->KN c kn p2->0<=p3->∃(q:List (D×D)) (o':Option D) (F N J B:Int),qC 2 (aJ 0) (cM 2 G (aD 1) (aH (aD 3) (aH (aD 0) (aH (bC J2 (aD 4) (eC (.int 1))) (aH (aD 5) bQ))))) (ks.map .int) [o,some (wD ns M n rs ms c),some (eX p0 p1 p2 p3),some (.lst (bW kn)),some (.int ((d:Int)+1)),some (.int nest)]=some (q.map λp=>.tup [p.1,p.2],[o',some (wD ns M n rs ms c),some (eX F N J B),some (.lst (bW kn)),some (.int ((d:Int)+1)),some (.int nest)])/\q.length=ks.length/\(p0<=F/\F<=p0+(ks.length:Int)*cst d)/\(p2<=J/\J<=8)/\(0<=B/\B<=p3)/\∀p∈q,Rg rs.length ms.length (d+1) (kn.map (·.1)) p.2
 | [],o,p0,p1,p2,p3,_,h0,h2,_,h3=>⟨[],o,p0,p1,p2,p3,rfl,rfl,by simp[-U9,-VA,aA,aB],by lia,by lia,λ_ h=>nomatch h⟩
 | k::ks,o,p0,p1,p2,p3,hks,h0,h2,kc,h3=>by
  have cp:=k5 d;have lc:((k::ks).length:Int)*cst d=(ks.length:Int)*cst d+cst d:=by
   rw[VR,Int.natCast_add,Int.add_mul];simp[-U9,-VA,aA,aB]
  have nn:0<=(ks.length:Int)*cst d:=Int.mul_nonneg (by lia) (by lia);rw[lc]at h0 ⊢;obtain⟨pa,ra,a0,Y,a2,a3,ea,am,ah,af,ga⟩:=W (kn:=kn) (want:=k) (nest:=nest) (p0:=p0) (p1:=p1) (p2:=p2) (p3:=p3) hk kc U (hks k (V2 ..)) (by lia) h2 h3;obtain⟨q,o',F,N,J,B,e,hl,g0,g2,g3,gg⟩:=gW W hk U ks (some (.int k)) a0 Y a2 a3 (λx hx=>hks x (V1 _ hx)) (by lia) (by lia) (kc.mono (by lia)) (by lia);refine⟨(pa,ra)::q,o',F,N,J,B,?_,by rw[VR,VR,hl],by lia,by lia,by lia,λp hp=>?_⟩
  ·have dm:(d:Int)+1-1=(d:Int):=by lia
   rw[<- dm]at ea;have ec:cM 2 G (aD 1) (aH (aD 3) (aH (aD 0) (aH (bC J2 (aD 4) (eC (.int 1))) (aH (aD 5) bQ)))) [some (.int k),some (wD ns M n rs ms c),some (eX p0 p1 p2 p3),some (.lst (bW kn)),some (.int ((d:Int)+1)),some (.int nest)]=some (.tup [pa,ra],eX a0 Y a2 a3):=by ac_rfl
   rw[VG,qC,show aJ 0 (.int k) [o,some (wD ns M n rs ms c),some (eX p0 p1 p2 p3),some (.lst (bW kn)),some (.int ((d:Int)+1)),some (.int nest)]=some [some (.int k),some (wD ns M n rs ms c),some (eX p0 p1 p2 p3),some (.lst (bW kn)),some (.int ((d:Int)+1)),some (.int nest)]from rfl,aA,ec,aA];exact(congrArg (Option.map _) e).trans rfl
  ·rcases List.mem_cons.mp hp with z|z
   ·rw[z];exact ga
   ·exact gg p z
theorem mZ:∀(prs:List (D×D)) (o:Option D),bD (aJ 0) gD (bC aF (aD 0) (eC (.int 0))) (prs.map λp=>.tup [p.1,p.2]) [o]=some (prs.map (·.1))
 | [],_=>rfl
 | p::prs,o=>dS (ρ':=[some (.tup [p.1,p.2])]) rfl rfl (bV rfl rfl rfl) (mZ prs _)
theorem mV:∀(prs:List (D×D)) (o:Option D),bD (aJ 0) gD (bC aF (aD 0) (eC (.int 1))) (prs.map λp=>.tup [p.1,p.2]) [o]=some (prs.map (·.2))
 | [],_=>rfl
 | p::prs,o=>dS (ρ':=[some (.tup [p.1,p.2])]) rfl rfl (bV rfl rfl rfl) (mV prs _)
theorem FH{a:Bv}{s t u:Qv}{ρ:bI}{R:D->D->Prop}(h:a ρ=some true)(k:∃d l,s ρ=some (.rt d l)/\R d l):∃d l,oR (KF a s t) u ρ=some (.rt d l)/\R d l:=by
 obtain⟨d,l,e,r⟩:=k;exact⟨d,l,nJ (FR h (FV rfl e)) rfl,r⟩
theorem xG{a:Bv}{s u:Qv}{ρ:bI}{R:D->D->Prop}(h:a ρ=some false)(k:∃d l,u ρ=some (.rt d l)/\R d l):∃d l,oR (KF a s RY) u ρ=some (.rt d l)/\R d l:=by
 obtain⟨d,l,e,r⟩:=k;exact⟨d,l,nJ (FR h (oU rfl rfl)) (FP e),r⟩
theorem EB{f:Ev}{ρ:bI}{xs:List D}(h:f ρ=some (.tup xs)):eI f ρ=some xs:=by unfold eI;rw[h,aA]
theorem yO{a:Bv}{c:Bool}{s u:Qv}{ρ:bI}{R:D->D->Prop}(h:a ρ=some c)(q:c=false)(k:∃d l,u ρ=some (.rt d l)/\R d l):∃d l,oR (KF a s RY) u ρ=some (.rt d l)/\R d l:=xG (q ▸ h) k
theorem IM{a:Bv}{c:Bool}{s t u:Qv}{ρ:bI}{R:D->D->Prop}(h:a ρ=some c)(q:c=true)(k:∃d l,s ρ=some (.rt d l)/\R d l):∃d l,oR (KF a s t) u ρ=some (.rt d l)/\R d l:=FH (q ▸ h) k
theorem D9{a:Bv}{s u:Qv}{ρ:bI}{R:D->D->Prop}(p:Prop)(h:a ρ=some true/\p\/a ρ=some false)(hs:p->∃d l,s ρ=some (.rt d l)/\R d l)(q:∃d l,u ρ=some (.rt d l)/\R d l):∃d l,oR (KF a s RY) u ρ=some (.rt d l)/\R d l:=by
 rcases h with⟨h,z⟩|h
 ·exact FH h (hs z)
 ·exact xG h q
theorem qZ{s:Qv}{ρ:bI}{d l:D}{R:D->D->Prop}(h:s ρ=some (.rt d l))(r:R d l):∃d l,s ρ=some (.rt d l)/\R d l:=⟨d,l,h,r⟩
def BH(G:Fq)(ns:List Int)(M c:Int)(n:Nat)(rs:List Ro)(ms:List Mk)(d:Nat):Prop:=∀ {kn:List (Str×Int)} {want nest cell p0 p1 p2 p3:Int},(∀p∈kn,0<=p.2/\p.2<(n:Int))->KN c kn p2->kn.length+(d+1)<=90->0<=want/\want<(n:Int)->0<=p0/\p0+2*cst d<=900->0<=p2/\p2<8->0<=p3->(cell%8=5->0<p3)->Res rs.length ms.length (kn.map (·.1)) (2*cst d) (d+2) p0 p2 p3 (G [wD ns M n rs ms c,eX p0 p1 p2 p3,.lst (bW kn),.int want,.int ((d:Int)+1),.int nest,.int cell])
theorem Res.to{F nm:Nat}{xs:List Str}{k G:Int}{q J:Nat}{p0 p2 p3 B:Int}{r:D×D}(h:Res F nm xs k q B p2 p3 (some r))(a:p0<=B)(b:B+k<=p0+G)(c:q<=J)   : Res F nm xs G J p0 p2 p3 (some (r.1,r.2)):=by
 obtain⟨x,y,N,W,M,Y,e,h0,h2,U,g⟩:=h;exact⟨x,y,N,W,M,Y,e,by lia,h2,U,g.mono c⟩
theorem tL{G Bq:Fq}{ns:List Int}{M c:Int}{n d:Nat}{rs:List Ro}{ms:List Mk}(B:Wo M n rs ms)(Hg:GH G ns M c n rs ms d)(Hb:BH Bq ns M c n rs ms d){kn:List (Str×Int)}(hk:∀p∈kn,0<=p.2/\p.2<(n:Int))(kl:kn.length+(d+1)<=90){want nest p0 p1 p2 p3:Int}(kc:KN c kn p2)(hw:0<=want/\want<(n:Int))(h0:0<=p0/\p0+cst (d+1)<=900)(h2:0<=p2/\p2<=8)(h3:0<=p3):Res rs.length ms.length (kn.map (·.1)) (cst (d+1)) (d+2) p0 p2 p3 (oQ 21 (bU G Bq) [wD ns M n rs ms c,eX p0 p1 p2 p3,.lst (bW kn),.int want,.int ((d:Int)+1),.int nest]):=by
 have cp:=k5 d;have cs:cst (d+1)=2+3*cst d:=rfl;rw[cs]at h0 ⊢;have np:0<(n:Int):=by have:=B.hn;lia
 obtain⟨f,hf⟩:=cX ns;have fk:=hf (p0+1) (by lia) (by lia);generalize f (p0+1)=cell at fk;obtain⟨L,cL,hL⟩:=yS (R:=rs.map (red M)) B.mo hw.1 hw.2;obtain⟨K,cn,kp,kk,hK⟩:=rL (R:=rs.map (red M)) hw.1 hw.2;have el:bY [b6 n (RT (rs.map (red M)))]=some (.int (n:Int)):=by unfold b6;rw[q_lenL,VD,zai]
 have rl:bN [.int (n:Int)]=some (aO 0 1 n):=by
  have:=bE (show(0:Int)<=(n:Int) by lia) (show(n:Int)<=1000000 by have:=B.hn;lia)
  rwa [W1]at this
 have zr:(aO 0 1 n).length<=1000000:=by rw[aU];have:=B.hn;lia
 have em:bY [.lst (ms.map eY)]=some (.int (ms.length:Int)):=by rw[q_lenL,VD]
 have rm:bN [.int (ms.length:Int)]=some (aO 0 1 ms.length):=by
  have:=bE (show(0:Int)<=(ms.length:Int) by lia) (show(ms.length:Int)<=1000000 by have:=B.ml;lia)
  rwa [W1]at this
 have zm:(aO 0 1 ms.length).length<=1000000:=by rw[aU];have:=B.ml;lia
 suffices h:∃(F l:D),bU G Bq (aK 21 [wD ns M n rs ms c,eX p0 p1 p2 p3,.lst (bW kn),.int want,.int ((d:Int)+1),.int nest])=some (.rt F l)/\Res rs.length ms.length (kn.map (·.1)) (2+3*cst d) (d+2) p0 p2 p3 (some (F,l)) by
  obtain⟨F,l,e,h⟩:=h;rw[k8 e];exact h
 unfold bU;rw[show aK 21 [wD ns M n rs ms c,eX p0 p1 p2 p3,.lst (bW kn),.int want,.int ((d:Int)+1),.int nest]=[some (wD ns M n rs ms c),some (eX p0 p1 p2 p3),some (.lst (bW kn)),some (.int want),some (.int ((d:Int)+1)),some (.int nest),none,none,none,none,none,none,none,none,none,none,none,none,none,none,none]from rfl];have un:cN 6 (aR (aJ 6) (aR (aJ 7) (aR (aJ 8) (aR (aJ 9) (aR (aJ 10) (aR (aJ 11) gQ)))))) (wD ns M n rs ms c) [some (wD ns M n rs ms c),some (eX p0 p1 p2 p3),some (.lst (bW kn)),some (.int want),some (.int ((d:Int)+1)),some (.int nest),none,none,none,none,none,none,none,none,none,none,none,none,none,none,none]=some [some (wD ns M n rs ms c),some (eX p0 p1 p2 p3),some (.lst (bW kn)),some (.int want),some (.int ((d:Int)+1)),some (.int nest),some (.lst (ns.map .int)),some (.int M),some (.lst (rs.map aY)),some (.lst (ms.map eY)),some (b6 n (RT (rs.map (red M)))),some (.lst (bP c 8)),none,none,none,none,none,none,none,none,none]:=rfl;refine bO (w8 rfl un) (bO (by ac_rfl) (bO (by ac_rfl) (bO (by ac_rfl) (bO (by ac_rfl) ?_))));have d0:¬ (d:Int)+1=0:=by lia
 have aa:∃F l,dA [wD ns M n rs ms c,eX (p0+1) (p1-1) p2 p3,.lst (bW kn),.int want,.int (cell/8)]=some (F,l)/\Res rs.length ms.length (kn.map (·.1)) (2+3*cst d) (d+2) p0 p2 p3 (some (F,l)):=by
  have r:=mP (ns:=ns) (c:=c) (cell:=cell/8) (p1:=p1-1) B hk (by lia) hw (show 0<=p0+1/\p0+1<=900 by lia) h2.2 h3;obtain⟨x,y,U,J,W,N,e,rest⟩:=r;exact⟨_,_,e,Res.to (r:=(_,_)) ⟨x,y,U,J,W,N,rfl,rest⟩ (by lia) (by lia) (by lia)⟩
 obtain⟨ld,ll,le,lr⟩:=aa;by_cases h1:p1-1<0
 ·exact lG (by ac_rfl) lr
 by_cases bc:cell%8<2
 ·exact lG (by ac_rfl) lr
 by_cases ab:cell%8<5
 ·by_cases h4:(L.length:Int)=0
  ·exact lG (by ac_rfl) lr
  ·have c1:0<(L.length:Int):=by lia
   have a0:=VP (cell/8) (WJ c1);have Y:=VQ (cell/8) c1;obtain⟨F,hd,_,ed⟩:=oC a0 Y;obtain⟨v,m,rfl,hv,hm,bq,hr⟩:=hL F hd;have ok:=B.mo m hm;obtain⟨w,ew,wl⟩:=d9 (cell:=cell/48) B.g B.hn.2 ok.gv.1 hw hr;have tl:m.tk.length<=2:=by rcases ok.tk with⟨t,e⟩|⟨t,u,e⟩ <;> rw[e] <;> simp[-U9,-VA,aA,aB]
   have tc:(m.tk.length:Int)*cst d<=2*cst d:=Int.mul_le_mul_of_nonneg_right (by lia) (by lia);obtain⟨q,o',U,J,W,N,ec,pl,g0,g2,g3,gg⟩:=gW Hg hk (by lia) (nest:=nest) m.tk none (p0+1) (p1-1) p2 p3 ok.tb (by lia) h2 kc h3;have pz:(q.map λp=>D.tup [p.1,p.2]).length<=1000000:=by rw[VD];lia
   have tz:(m.tk.map D.int).length<=1000000:=by rw[VD];lia
   have cf:=mZ q none;have cg:=mV q none;have bm:aF (eY m) (.int 0)=some (.str m.nm):=rfl;have bl:aF (eY m) (.int 1)=some (.tup (m.tk.map .int)):=rfl;have ay:aF (eY m) (.int 2)=some (.int m.gv):=rfl;refine yO (c:=decide ((L.length:Int)=0)) (by ac_rfl) (decide_eq_false h4) ?_;refine IM (c:=decide (cell%8<5)) (by ac_rfl) (decide_eq_true ab) ?_;refine bO (by ac_rfl) ?_;dsimp only[WI];refine bO (y6 (y:=eX (p0+1) (p1-1) p2 p3) rfl (EB (by ac_rfl)) tz ec rfl (by dsimp only[WI])) ?_;refine qZ (by ac_rfl) ?_;exact⟨_,.tup [.str "use",.int v,.tup (q.map (·.2)),tupI w],U,J,W,N,rfl,by lia,by lia,by lia,.use hv (by rw[VD];lia) (λx hx=>by
    obtain⟨p,hp,rfl⟩:=List.mem_map.mp hx;exact gg p hp) wl⟩
 refine xG (by ac_rfl) ?_;refine yO (c:=decide (cell%8<5)) (by ac_rfl) (decide_eq_false ab) ?_;refine D9 (p2<8/\(cell%8=5->0<p3)) ?_ (λhp=>?_) ?_
 ·by_cases h4:p2<8
  ·by_cases h5:cell%8=5
   ·have h7:¬ cell%8=7:=by lia
    by_cases h6:0<p3
    ·exact .inl ⟨by ac_rfl,h4,λ_=>h6⟩
    ·exact .inr (by ac_rfl)
   ·by_cases h7:cell%8=7
    ·by_cases h6:nest<2
     ·exact .inl ⟨X9 (b:=some (decide (nest<2))) (by ac_rfl) (by rw[decide_eq_true h6]),h4,λz=>absurd z h5⟩
     ·exact .inr (X9 (b:=some (decide (nest<2))) (by ac_rfl) (by rw[decide_eq_false h6]))
    ·exact .inr (by ac_rfl)
  ·exact .inr (by ac_rfl)
 ·have r:=Hb (kn:=kn) (want:=want) (nest:=nest) (cell:=cell) (p0:=p0+1) (p1:=p1-1) (p2:=p2) (p3:=p3) hk kc kl hw (by lia) ⟨h2.1,hp.1⟩ h3 hp.2
  obtain⟨x,y,U,J,W,N,e,rest⟩:=r;exact qZ (by ac_rfl) (Res.to (r:=(_,_)) ⟨x,y,U,J,W,N,rfl,rest⟩ (by lia) (by lia) (by lia))
 ·have j0:=VP (cell/8) (WJ np)
  have j1:=VQ (cell/8) np;have dj:eW (.int (cell/8)) (.int (n:Int))=some (.int (cell/8%(n:Int))):=cF np;generalize cell/8%(n:Int)=j at j0 j1 dj;have a0:=VP (cell/48) (WJ kp);have Y:=VQ (cell/48) kp;obtain⟨F,hd,_,ed⟩:=oC a0 Y;obtain⟨k,rfl,k0,k1,hr⟩:=hK F hd;obtain⟨w,ew,wl⟩:=d9 (cell:=cell/288) B.g B.hn.2 k0 hw hr;obtain⟨q,o',U,J,W,N,ec,pl,g0,g2,g3,gg⟩:=gW Hg hk (by lia) (nest:=nest) [j,k,k] none (p0+1) (p1-1) p2 p3 (by intro i hi;simp[-U9,-VA,aA,aB]at hi;rcases hi with rfl|rfl <;> lia) (by simp[-U9,-VA,aA,aB];lia) h2 kc h3;simp only[VR,W5]at pl g0;have pz:(q.map λp=>D.tup [p.1,p.2]).length<=1000000:=by rw[VD];lia
  have tz:([j,k,k].map D.int).length<=1000000:=by simp[-U9,-VA,aA,aB]
  have cf:=mZ q none;have cg:=mV q none;have s1:kY (.tup [.str "pick",.int j,.int k]) (some 1) none=some (.tup [.int j,.int k]):=rfl;have s2:kY (.tup [.str "pick",.int j,.int k]) (some 2) none=some (.tup [.int k]):=rfl;have s3:aT (.tup [.int j,.int k]) (.tup [.int k])=some (.tup ([j,k,k].map .int)):=zV (by simp[-U9,-VA,aA,aB]);have t1:aT (.tup [.str "pick",.int j,.int k]) (.tup (q.map (·.1)))=some (.tup ([.str "pick",.int j,.int k]++q.map (·.1))):=zV (by simp[-U9,-VA,aA,aB];lia);have t2:aT (.tup [.str "pick",.int j,.int k]) (.tup (q.map (·.2)))=some (.tup ([.str "pick",.int j,.int k]++q.map (·.2))):=zV (by simp[-U9,-VA,aA,aB];lia);have t3:aT (.tup ([.str "pick",.int j,.int k]++q.map (·.2))) (.tup [tupI w])=some (.tup (([.str "pick",.int j,.int k]++q.map (·.2))++[tupI w])):=zV (by simp[-U9,-VA,aA,aB];lia);refine bO (by ac_rfl) ?_;refine bO (by ac_rfl) ?_;dsimp only[WI];refine bO (y6 (y:=eX (p0+1) (p1-1) p2 p3) rfl (EB (by ac_rfl)) tz ec rfl (by dsimp only[WI])) ?_;refine qZ (by ac_rfl) ?_;obtain⟨⟨Y,a2⟩,⟨b1,b2⟩,⟨c1,c2⟩,rfl⟩:∃a b c,q=[a,b,c]:=by
   match q,pl with
   | [a,b,c],_=>exact⟨a,b,c,rfl⟩
  exact⟨_,.tup [.str "pick",.int j,.int k,a2,b2,c2,tupI w],U,J,W,N,rfl,by lia,by lia,by lia,.pick (gg (Y,a2) (by simp[-U9,-VA,aA,aB])) (gg (b1,b2) (by simp[-U9,-VA,aA,aB])) (gg (c1,c2) (by simp[-U9,-VA,aA,aB])) wl⟩
theorem qP{G Bq:Fq}{ns:List Int}{M c:Int}{n:Nat}{rs:List Ro}{ms:List Mk}(B:Wo M n rs ms){kn:List (Str×Int)}(hk:∀p∈kn,0<=p.2/\p.2<(n:Int))(kl:kn.length<=90){want nest p0 p1 p2 p3:Int}(hw:0<=want/\want<(n:Int))(h0:0<=p0/\p0+2<=900)(h2:0<=p2/\p2<=8)(Y:0<=p3):Res rs.length ms.length (kn.map (·.1)) 2 1 p0 p2 p3 (oQ 21 (bU G Bq) [wD ns M n rs ms c,eX p0 p1 p2 p3,.lst (bW kn),.int want,.int 0,.int nest]):=by
 obtain⟨f,N⟩:=cX ns;have J:=N (p0+1) (by lia) (by lia);generalize f (p0+1)=cell at J;obtain⟨L,cL,hL⟩:=yS (R:=rs.map (red M)) B.mo hw.1 hw.2;have em:bY [.lst (ms.map eY)]=some (.int (ms.length:Int)):=by rw[q_lenL,VD]
 have rm:bN [.int (ms.length:Int)]=some (aO 0 1 ms.length):=by
  have:=bE (show(0:Int)<=(ms.length:Int) by lia) (show(ms.length:Int)<=1000000 by have:=B.ml;lia)
  rwa [W1]at this
 have zm:(aO 0 1 ms.length).length<=1000000:=by rw[aU];have:=B.ml;lia
 suffices h:∃(q l:D),bU G Bq (aK 21 [wD ns M n rs ms c,eX p0 p1 p2 p3,.lst (bW kn),.int want,.int 0,.int nest])=some (.rt q l)/\Res rs.length ms.length (kn.map (·.1)) 2 1 p0 p2 p3 (some (q,l)) by
  obtain⟨q,l,e,h⟩:=h;rw[k8 e];exact h
 unfold bU;rw[show aK 21 [wD ns M n rs ms c,eX p0 p1 p2 p3,.lst (bW kn),.int want,.int 0,.int nest]=[some (wD ns M n rs ms c),some (eX p0 p1 p2 p3),some (.lst (bW kn)),some (.int want),some (.int 0),some (.int nest),none,none,none,none,none,none,none,none,none,none,none,none,none,none,none]from rfl];have un:cN 6 (aR (aJ 6) (aR (aJ 7) (aR (aJ 8) (aR (aJ 9) (aR (aJ 10) (aR (aJ 11) gQ)))))) (wD ns M n rs ms c) [some (wD ns M n rs ms c),some (eX p0 p1 p2 p3),some (.lst (bW kn)),some (.int want),some (.int 0),some (.int nest),none,none,none,none,none,none,none,none,none,none,none,none,none,none,none]=some [some (wD ns M n rs ms c),some (eX p0 p1 p2 p3),some (.lst (bW kn)),some (.int want),some (.int 0),some (.int nest),some (.lst (ns.map .int)),some (.int M),some (.lst (rs.map aY)),some (.lst (ms.map eY)),some (b6 n (RT (rs.map (red M)))),some (.lst (bP c 8)),none,none,none,none,none,none,none,none,none]:=rfl;refine bO (w8 rfl un) (bO (by ac_rfl) (bO (by ac_rfl) (bO (by ac_rfl) (bO (by ac_rfl) ?_))));have d0:(0:Int)=0:=rfl;obtain⟨x,y,W,U,F,q3,e,rest⟩:=mP (ns:=ns) (c:=c) (cell:=cell/8) (p1:=p1-1) B hk (by lia) hw (show 0<=p0+1/\p0+1<=900 by lia) h2.2 Y;exact lG (by ac_rfl) (Res.to (r:=(_,_)) ⟨x,y,W,U,F,q3,rfl,rest⟩ (by lia) (by lia) (by lia))
theorem sU{ns:List Int}{M c:Int}{n:Nat}{rs:List Ro}{ms:List Mk}(B:Wo M n rs ms)(d:Nat):∀m:Nat,2*d+1<=m->GH (GB m).1 ns M c n rs ms d:=by
 induction d with
 | zero=>
  intro m N;obtain⟨m,rfl⟩:∃i,m=i+1:=⟨m-1,by lia⟩;intro kn want nest p0 p1 p2 p3 F J G hw h0 h2 q;exact qP B F (by lia) hw h0 h2 q
 | succ d ih=>
  intro m N;obtain⟨m,rfl⟩:∃i,m=(i+1)+1:=⟨m-2,by lia⟩;have Y:GH (GB (m+1)).1 ns M c n rs ms d:=ih (m+1) (by lia);have W:GH (GB m).1 ns M c n rs ms d:=ih m (by lia);intro kn want nest p0 p1 p2 p3 F J G hw h0 h2 q;rw[show(((d+1:Nat)):Int)=(d:Int)+1 by lia];refine tL (Bq:=(GB (m+1)).2) B Y ?_ F G J hw h0 h2 q;intro kn want nest cell p0 p1 p2 p3 F J G hw h0 h2 q U;exact sT B W F G J hw h0 h2 q U
theorem Gd.okL{k:Nat}{l:List D}(h:∀d∈l,Gd k d)(B:k+1<=60):dG (.lst l)=true:=by
 obtain⟨xs,h1,h2,q⟩:=w6 l λd hd=>(h d hd).x
 unfold dG;rw[eZ,h1];show((My.Dx.lst xs).nb && decide ((My.Dx.lst xs).dep<=60))=true;rw[My.Dx.nb,My.Dx.dep,h2,decide_eq_true (show My.oP xs+1<=60 by lia)];rfl
theorem Gd.t2{k:Nat}{s:Str}{i:Int}:Gd (k+1) (.tup [.str s,.int i]):=.tup λd hd=>by
 simp only[WG,WH,or_false]at hd;rcases hd with rfl|rfl
 ·exact .str
 ·exact .int
theorem Gd.t3{k:Nat}{s:Str}{i:Int}{d:D}(h:Gd k d):Gd (k+1) (.tup [.str s,.int i,d]):=.tup λd hd=>by
 simp only[WG,WH,or_false]at hd;rcases hd with rfl|rfl|rfl
 ·exact .str
 ·exact .int
 ·exact h
theorem Gd.fm{M:Int}{ts:List My.Tm}{k:Nat}:Gd (k+3) (GI M ts):=.tup λd hd=>by
 obtain⟨t,_,rfl⟩:=List.mem_map.mp hd;exact .tup λd hd=>by
  simp only[WG,WH,or_false]at hd;rcases hd with rfl|rfl
  ·exact .ints
  ·exact .int
def B8(rs:List Ro)(i:Int):D:=match gT rs i with
 | some r=>.tup [.str "turn",.int r.a,.int r.b]
 | none=>.int 0
theorem QG{rs:List Ro}{i:Int}:Gd 5 (B8 rs i):=by
 unfold B8;split
 ·exact .t3 .int
 ·exact .int
theorem K6{rs:List Ro}{i:Int}(h:0<=i/\i<(rs.length:Int)):∃r,gT rs i=some r:=by
 unfold gT;rw[if_pos h.1];exact⟨_,V6 (by lia)⟩
theorem zE{rs:List Ro}{bk:D}(h2:aF bk (.int 2)=some (.tup (rs.map aY))):∀(w:List Int) (o:Option D),(∀i∈w,0<=i/\i<(rs.length:Int))->bD (aJ 0) gD (kX (aH (eC (.str "turn")) (aH (bC aF (bC aF (bC aF (aD 1) (eC (.int 2))) (aD 0)) (eC (.int 2))) (aH (bC aF (bC aF (bC aF (aD 1) (eC (.int 2))) (aD 0)) (eC (.int 3))) bQ)))) (w.map .int) [o,some bk]=some (w.map (B8 rs))
 | [],_,_=>rfl
 | i::w,o,h=>by
  obtain⟨r,q⟩:=K6 (h i (V2 ..));have a:=rT q;have G:=Q7 (r:=r);have F:=RG (r:=r);refine dS (ρ':=[some (.int i),some bk]) rfl rfl ?_ (zE h2 w _ λj B=>h j (V1 _ B));rw[show B8 rs i=.tup [.str "turn",.int r.a,.int r.b] by unfold B8;rw[q]]
  ac_rfl
theorem E4{rs:List Ro}:∀(w:List Int) (o:Option D),(∀i∈w,0<=i/\i<(rs.length:Int))->bD (aJ 0) gD (kX (aH (eC (.str "turn")) (aH (bC aF (bC aF (aD 1) (aD 0)) (eC (.int 2))) (aH (bC aF (bC aF (aD 1) (aD 0)) (eC (.int 3))) bQ)))) (w.map .int) [o,some (.tup (rs.map aY))]=some (w.map (B8 rs))
 | [],_,_=>rfl
 | i::w,o,h=>by
  obtain⟨r,q⟩:=K6 (h i (V2 ..));have a:=rT q;have G:=Q7 (r:=r);have F:=RG (r:=r);refine dS (ρ':=[some (.int i),some (.tup (rs.map aY))]) rfl rfl ?_ (E4 w _ λj B=>h j (V1 _ B));rw[show B8 rs i=.tup [.str "turn",.int r.a,.int r.b] by unfold B8;rw[q]]
  ac_rfl
theorem iB{x:Str}{xs:List Str}(h:x∉xs)(q:xs.length<=100):eL [dH xs,.str x]=some (dH (xs++[x])):=by
 have a:=rR (xs:=xs);have b:=EW h q;have c:xD [dH xs]=some (dH xs):=rfl;refine aQ ?_;generalize dH xs=p at *;unfold iD;simp_all[aK,a,b,c]
noncomputable def lim:Nat->Nat
 | 0=>0
 | k+1=>3*lim k+20
def Rw(bk B:D)(xs:List Str)(d:D)(q:Nat)(G F:List D->Option D):Prop:=∀t s:Int,∃l:List D,G [bk,dH xs,.int t,d,.int s]=some (.lst l)/\F [B,.lst (xs.map .str),.int s,.int t,d]=some (.lst l)/\l.length<=lim q/\∀r∈l,Gd 5 r
theorem DH{B:List (Str×(List D->Option D))}{F:Ev}{q:Lv}{ρ:bI}{k r:D}{ds:List D}(h:F ρ=some k)(G:q ρ=some ds)(e:gR B k ds=some r):nX B F q ρ=some r:=by
 unfold nX;rw[h,aA,G,aA,e]
theorem i5{f:Ev}{ρ:bI}{xs:List D}(h:f ρ=some (.tup xs)):eI f ρ=some xs:=by unfold eI;rw[h,aA]
abbrev Sp(R:List D->Option D):List (Str×(List D->Option D)):=[("name",aS 5 (dN R)),("number",aS 5 (cT R)),("use",aS 7 (eO R)),("let",aS 8 (eP R)),("pick",aS 9 (dP R)),("again",aS 11 (c4 R))]
theorem c7{R:List D->Option D}{rs:List Ro}{bk p d:D}{t s:Int}{q:Str}{l:List D}{w:List Int}(h2:aF bk (.int 2)=some (.tup (rs.map aY)))(G:aF d (.int 0)=some (.str q))(e:gR (Sp R) (.str q) [bk,p,.int t,d,.int s]=some (.lst l))(B:eB [d]=some (tupI w))(hw:Wy rs.length w)(J:l.length<=100000):aS 6 (bS R) [bk,p,.int t,d,.int s]=some (.lst (l++w.map (B8 rs))):=by
 have F:=zE h2 w none hw.i;have wl:=hw.l;refine aQ ?_;unfold bS;simp only[aK,VG,WV,VR,W5];refine(aI (ρ':=[some bk,some p,some (.int t),some d,some (.int s),some (.lst l)]) (cC (DH (k:=.str q) (bV rfl rfl G) rfl e) rfl)).trans ?_;exact FK (bV rfl (lH (i5 (lA rfl B)) (by rw[VD];lia) F) (bL (by rw[VD];lia)))
theorem i4{rs:List Ro}{J M G N o6 o7 o8 o9 q o12 o13:Option D}{d:D}{l:List D}{w:List Int}(B:aF d (.int (-1))=some (tupI w))(hw:Wy rs.length w)(U:l.length<=100000):LA (bC aT (aD 10) (dW [none,some 5] (eI (bC aF (aD 4) (eC (.int (-1))))) (aJ 0) gD (kX (aH (eC (.str "turn")) (aH (bC aF (bC aF (aD 1) (aD 0)) (eC (.int 2))) (aH (bC aF (bC aF (aD 1) (aD 0)) (eC (.int 3))) bQ)))))) [J,M,G,N,some d,some (.tup (rs.map aY)),o6,o7,o8,o9,some (.lst l),q,o12,o13]=some (.rt (.lst (l++w.map (B8 rs)))):=by
 have F:=E4 (rs:=rs) w none hw.i;have wl:=hw.l;exact FK (bV rfl (lH (i5 (bV rfl rfl B)) (by rw[VD];lia) F) (bL (by rw[VD];lia)))
theorem u4{rs:List Ro}{l:List D}{w:List Int}{k:Nat}(hw:Wy rs.length w)(F:l.length+10<=k)(B:∀r∈l,Gd 5 r):(l++w.map (B8 rs)).length<=k/\∀r∈l++w.map (B8 rs),Gd 5 r:=by
 have:=hw.l;refine⟨by rw[WN,VD];lia,λr q=>?_⟩;rcases List.mem_append.mp q with z|z
 ·exact B r z
 ·obtain⟨i,_,rfl⟩:=List.mem_map.mp z
  exact QG
theorem dE{l m:List D}(h:∀r∈l,Gd 5 r)(k:∀r∈m,Gd 5 r):∀r∈l++m,Gd 5 r:=λr q=>(List.mem_append.mp q).elim (h r) (k r)
theorem b8{x:D}{l:List D}(h:Gd 5 x)(k:∀r∈l,Gd 5 r):∀r∈x::l,Gd 5 r:=λr q=>(List.mem_cons.mp q).elim (λz=>z ▸ h) (k r)
theorem eS:∀r∈([]:List D),Gd 5 r:=λ_ h=>nomatch h
theorem vF{d w:D}{s:Str}{n:Int}(B:aF d (.int 0)=some (.str s))(hs:d6 (.str s) (.str "let")=some (.bl false))(el:bY [d]=some (.int n))(q:aF d (.int (n-1))=some w):eB [d]=some w:=by
 refine aQ ?_;unfold mW;simp_all[aK,B,hs,el,q]
theorem L8{d:D}(q:aF d (.int 0)=some (.str "let")):eB [d]=some (tupI []):=by
 have hs:d6 (.str "let") (.str "let")=some (.bl true):=by rw[b4];rfl
 refine aQ ?_;unfold mW;simp_all[aK,q,hs] <;> rfl
theorem BV{a b c d e:D}:aK 14 [a,b,c,d,e]=[some a,some b,some c,some d,some e,none,none,none,none,none,none,none,none,none]:=rfl
theorem rw_nam{R1 R2:List D->Option D}{rs:List Ro}{bk mk:D}{xs:List Str}{x:Str}{w:List Int}{q:Nat}(h2:aF bk (.int 2)=some (.tup (rs.map aY)))(F:x∈xs)(J:xs.length<=100)(hw:Wy rs.length w):Rw bk (.tup [.tup (rs.map aY),mk]) xs (.tup [.str "name",.str x,tupI w]) (q+1) (aS 6 (bS R1)) (aS 14 (bA R2)):=λt s=>by
 obtain⟨i,a,b⟩:=QK F J;have N:d6 (.str "name") (.str "let")=some (.bl false):=by rw[b4];rfl
 have G:eB [.tup [.str "name",.str x,tupI w]]=some (tupI w):=vF rfl N rfl rfl;have sp:gR (Sp R1) (.str "name") [bk,dH xs,.int t,.tup [.str "name",.str x,tupI w],.int s]=some (.lst [.tup [.str "take",.int i]]):=by
  refine X9 (b:=aS 5 (dN R1) [bk,dH xs,.int t,.tup [.str "name",.str x,tupI w],.int s]) rfl (aQ ?_);generalize dH xs=p at *;unfold dN
  ac_rfl
 obtain⟨M,U⟩:=u4 (k:=lim (q+1)) (l:=[.tup [.str "take",.int i]]) hw (by simp only[VR,W5,lim];lia) (b8 .t2 eS);refine⟨_,c7 h2 rfl sp G hw (by simp[-U9,-VA,aA,aB]),aQ ?_,M,U⟩;have W:d6 (.str "name") (.str "name")=some (.bl true):=by rw[b4];rfl
 have B:aF (.tup [.str "name",.str x,tupI w]) (.int (-1))=some (tupI w):=rfl;unfold bA;rw[BV];refine(aI (fN rfl rfl)).trans ?_;dsimp only[WI];refine(aI (jA (by ac_rfl) (oU rfl rfl))).trans ?_;refine(aI (ρ':=[some (.tup [.tup (rs.map aY),mk]),some (.lst (xs.map .str)),some (.int s),some (.int t),some (.tup [.str "name",.str x,tupI w]),some (.tup (rs.map aY)),some mk,none,none,none,some (.lst [.tup [.str "take",.int i]]),none,none,none]) (by ac_rfl)).trans ?_;exact i4 B hw (by simp[-U9,-VA,aA,aB])
theorem rw_num{R1 R2:List D->Option D}{rs:List Ro}{bk mk:D}{xs:List Str}{a j:Int}{w:List Int}{q:Nat}(h2:aF bk (.int 2)=some (.tup (rs.map aY)))(hw:Wy rs.length w):Rw bk (.tup [.tup (rs.map aY),mk]) xs (.tup [.str "number",.int a,.int j,tupI w]) (q+1) (aS 6 (bS R1)) (aS 14 (bA R2)):=λt s=>by
 have J:d6 (.str "number") (.str "let")=some (.bl false):=by rw[b4];rfl
 have F:eB [.tup [.str "number",.int a,.int j,tupI w]]=some (tupI w):=vF rfl J rfl rfl;have sp:gR (Sp R1) (.str "number") [bk,dH xs,.int t,.tup [.str "number",.int a,.int j,tupI w],.int s]=some (.lst [.tup [.str "push",.int a]]):=by
  refine X9 (b:=aS 5 (cT R1) [bk,dH xs,.int t,.tup [.str "number",.int a,.int j,tupI w],.int s]) rfl (aQ ?_);generalize dH xs=p at *;unfold cT
  ac_rfl
 obtain⟨G,M⟩:=u4 (k:=lim (q+1)) (l:=[.tup [.str "push",.int a]]) hw (by simp only[VR,W5,lim];lia) (b8 .t2 eS);refine⟨_,c7 h2 rfl sp F hw (by simp[-U9,-VA,aA,aB]),aQ ?_,G,M⟩;have U:d6 (.str "number") (.str "name")=some (.bl false):=by rw[b4];rfl
 have N:d6 (.str "number") (.str "number")=some (.bl true):=by rw[b4];rfl
 have B:aF (.tup [.str "number",.int a,.int j,tupI w]) (.int (-1))=some (tupI w):=rfl;unfold bA;rw[BV];refine(aI (fN rfl rfl)).trans ?_;dsimp only[WI];refine(aI (jA (by ac_rfl) (oU rfl rfl))).trans ?_;refine(aI (ρ':=[some (.tup [.tup (rs.map aY),mk]),some (.lst (xs.map .str)),some (.int s),some (.int t),some (.tup [.str "number",.int a,.int j,tupI w]),some (.tup (rs.map aY)),some mk,none,none,none,some (.lst [.tup [.str "push",.int a]]),none,none,none]) (by ac_rfl)).trans ?_;exact i4 B hw (by simp[-U9,-VA,aA,aB])
theorem rw_bnd{R1 R2:List D->Option D}{rs:List Ro}{bk mk a b:D}{xs:List Str}{x:Str}{j:Int}{q:Nat}(h2:aF bk (.int 2)=some (.tup (rs.map aY)))(M:x∉xs)(G:xs.length<=100)(hq:lim q<=10000)(W:Rw bk (.tup [.tup (rs.map aY),mk]) xs a q R1 R2)(N:Rw bk (.tup [.tup (rs.map aY),mk]) (xs++[x]) b q R1 R2):Rw bk (.tup [.tup (rs.map aY),mk]) xs (.tup [.str "let",.str x,.int j,a,b]) (q+1) (aS 6 (bS R1)) (aS 14 (bA R2)):=λt s=>by
 obtain⟨B,a1,a2,n1,J⟩:=W t s;obtain⟨F,b1,b2,n2,U⟩:=N t (s+(B.length:Int)+1);have pl:=rR (xs:=xs);have pw:=iB M G;have Y:bY [.lst B]=some (.int (B.length:Int)):=q_lenL;have c1:aT (.lst B) (.lst [.tup [.str "keep",.int (xs.length:Int)]])=some (.lst (B++[.tup [.str "keep",.int (xs.length:Int)]])):=bL (by simp[-U9,-VA,aA,aB];lia);have c2:aT (.lst (B++[.tup [.str "keep",.int (xs.length:Int)]])) (.lst F)=some (.lst (B++[.tup [.str "keep",.int (xs.length:Int)]]++F)):=bL (by simp[-U9,-VA,aA,aB];lia);have sp:gR (Sp R1) (.str "let") [bk,dH xs,.int t,.tup [.str "let",.str x,.int j,a,b],.int s]=some (.lst (B++[.tup [.str "keep",.int (xs.length:Int)]]++F)):=by
  refine X9 (b:=aS 8 (eP R1) [bk,dH xs,.int t,.tup [.str "let",.str x,.int j,a,b],.int s]) rfl (aQ ?_);generalize dH xs=p at *;generalize dH (xs++[x])=p' at *;unfold eP;simp only[aK,VG,WV,VR,W5]
  ac_rfl
 have e1:d6 (.str "let") (.str "let")=some (.bl true):=by rw[b4];rfl
 have hd:=c7 h2 rfl sp (L8 rfl) ⟨by simp[-U9,-VA,aA,aB],λ_ z=>nomatch z⟩ (by simp[-U9,-VA,aA,aB];lia);rw[WV,YM]at hd;refine⟨_,hd,aQ ?_,by simp_all[lim];lia,dE (dE J (b8 .t2 eS)) U⟩;have nl:bY [.lst (xs.map .str)]=some (.int (xs.length:Int)):=by rw[q_lenL,VD]
 have na:aT (.lst (xs.map .str)) (.lst [.str x])=some (.lst ((xs++[x]).map .str)):=by rw[bL (by simp[-U9,-VA,aA,aB];lia),W6];rfl
 unfold bA;rw[BV];refine(aI (fN rfl rfl)).trans ?_;dsimp only[WI];generalize (xs++[x]).map D.str=ys at *
 ac_rfl
theorem rw_pick{R1 R2:List D->Option D}{rs:List Ro}{bk mk a b c:D}{xs:List Str}{i j:Int}{w:List Int}{q:Nat}(h2:aF bk (.int 2)=some (.tup (rs.map aY)))(hw:Wy rs.length w)(hq:lim q<=10000)(ha:Rw bk (.tup [.tup (rs.map aY),mk]) xs a q R1 R2)(hb:Rw bk (.tup [.tup (rs.map aY),mk]) xs b q R1 R2)(hc:Rw bk (.tup [.tup (rs.map aY),mk]) xs c q R1 R2):Rw bk (.tup [.tup (rs.map aY),mk]) xs (.tup [.str "pick",.int i,.int j,a,b,c,tupI w]) (q+1) (aS 6 (bS R1)) (aS 14 (bA R2)):=λt s=>by
 obtain⟨B,a1,a2,n1,N⟩:=ha t s;obtain⟨F,b1,b2,n2,g2⟩:=hb t (s+(B.length:Int)+1);obtain⟨G,c1,c2,n3,Y⟩:=hc t (s+(B.length:Int)+1+(F.length:Int)+1);have k1:bY [.lst B]=some (.int (B.length:Int)):=q_lenL;have k2:bY [.lst F]=some (.int (F.length:Int)):=q_lenL;have k3:bY [.lst G]=some (.int (G.length:Int)):=q_lenL;have sm:aT (.int (s+(B.length:Int)+(F.length:Int))) (.int 2)=some (.int (s+(B.length:Int)+1+(F.length:Int)+1)):=congrArg (λz=>some (D.int z)) (by lia);have ab:aT (.int (s+(B.length:Int)+1+(F.length:Int))) (.int 1)=some (.int (s+(B.length:Int)+1+(F.length:Int)+1)):=rfl;generalize s+(B.length:Int)+1+(F.length:Int)+1=S at *;have d1:aT (.lst B) (.lst [.tup [.str "unless",.int S]])=some (.lst (B++[.tup [.str "unless",.int S]])):=bL (by simp[-U9,-VA,aA,aB];lia);have d2:aT (.lst (B++[.tup [.str "unless",.int S]])) (.lst F)=some (.lst (B++[.tup [.str "unless",.int S]]++F)):=bL (by simp[-U9,-VA,aA,aB];lia);have d3:aT (.lst (B++[.tup [.str "unless",.int S]]++F)) (.lst [.tup [.str "go",.int (S+(G.length:Int))]])=some (.lst (B++[.tup [.str "unless",.int S]]++F++[.tup [.str "go",.int (S+(G.length:Int))]])):=bL (by simp[-U9,-VA,aA,aB];lia);have d4:aT (.lst (B++[.tup [.str "unless",.int S]]++F++[.tup [.str "go",.int (S+(G.length:Int))]])) (.lst G)=some (.lst (B++[.tup [.str "unless",.int S]]++F++[.tup [.str "go",.int (S+(G.length:Int))]]++G)):=bL (by simp[-U9,-VA,aA,aB];lia);have sp:gR (Sp R1) (.str "pick") [bk,dH xs,.int t,.tup [.str "pick",.int i,.int j,a,b,c,tupI w],.int s]=some (.lst (B++[.tup [.str "unless",.int S]]++F++[.tup [.str "go",.int (S+(G.length:Int))]]++G)):=by
  refine X9 (b:=aS 9 (dP R1) [bk,dH xs,.int t,.tup [.str "pick",.int i,.int j,a,b,c,tupI w],.int s]) rfl (aQ ?_);generalize dH xs=p at *;unfold dP;simp only[aK,VG,WV,VR,W5]
  ac_rfl
 have W:d6 (.str "pick") (.str "let")=some (.bl false):=by rw[b4];rfl
 have e2:d6 (.str "pick") (.str "name")=some (.bl false):=by rw[b4];rfl
 have e3:d6 (.str "pick") (.str "number")=some (.bl false):=by rw[b4];rfl
 have e4:d6 (.str "pick") (.str "use")=some (.bl false):=by rw[b4];rfl
 have e5:d6 (.str "pick") (.str "pick")=some (.bl true):=by rw[b4];rfl
 have hd:=c7 h2 rfl sp (vF rfl W rfl rfl) hw (by simp[-U9,-VA,aA,aB];lia);generalize hL:B++[.tup [.str "unless",.int S]]++F++[.tup [.str "go",.int (S+(G.length:Int))]]++G=L at *;have J:L.length+10<=lim (q+1):=by rw[<- hL];simp_all[lim];lia
 have gL:∀r∈L,Gd 5 r:=hL ▸ dE (dE (dE (dE N (b8 .t2 eS)) g2) (b8 .t2 eS)) Y;obtain⟨U,m2⟩:=u4 hw J gL;refine⟨_,hd,aQ ?_,U,m2⟩;have M:aF (.tup [.str "pick",.int i,.int j,a,b,c,tupI w]) (.int (-1))=some (tupI w):=rfl;unfold bA;rw[BV];refine(aI (fN rfl rfl)).trans ?_;dsimp only[WI];refine(aI (jA (by ac_rfl) (oU rfl rfl))).trans ?_;refine(aI (ρ':=[some (.tup [.tup (rs.map aY),mk]),some (.lst (xs.map .str)),some (.int s),some (.int t),some (.tup [.str "pick",.int i,.int j,a,b,c,tupI w]),some (.tup (rs.map aY)),some mk,some (.lst F),none,some (.lst G),some (.lst L),none,some (.int S),none]) (by ac_rfl)).trans ?_;exact i4 M hw (by unfold lim at J;lia)
theorem rw_again{R1 R2:List D->Option D}{rs:List Ro}{bk mk a b:D}{xs:List Str}{x:Str}{i j:Int}{w:List Int}{q:Nat}(h2:aF bk (.int 2)=some (.tup (rs.map aY)))(hx:x∉xs)(N:xs.length<=100)(hw:Wy rs.length w)(hq:lim q<=10000)(ha:Rw bk (.tup [.tup (rs.map aY),mk]) xs a q R1 R2)(hb:Rw bk (.tup [.tup (rs.map aY),mk]) (xs++[x]) b q R1 R2):Rw bk (.tup [.tup (rs.map aY),mk]) xs (.tup [.str "again",.int i,.int j,.str x,a,b,tupI w]) (q+1) (aS 6 (bS R1)) (aS 14 (bA R2)):=λt s=>by
 obtain⟨B,a1,a2,n1,W⟩:=ha t s;obtain⟨F,b1,b2,n2,g2⟩:=hb (t+1) (s+(B.length:Int)+2+1);have pl:=rR (xs:=xs);have pw:=iB hx N;have k1:bY [.lst B]=some (.int (B.length:Int)):=q_lenL;have k2:bY [.lst F]=some (.int (F.length:Int)):=q_lenL;have ak:aT (.int (s+(B.length:Int))) (.int 2)=some (.int (s+(B.length:Int)+2)):=rfl;have ad:aT (.int s) (.int ((B.length:Int)+2))=some (.int (s+(B.length:Int)+2)):=congrArg (λz=>some (D.int z)) (by lia);generalize s+(B.length:Int)+2=T at *;have ac:aT (.int (T+(F.length:Int))) (.int 3)=some (.int (T+1+(F.length:Int)+2)):=congrArg (λz=>some (D.int z)) (by lia);have Y:aT (.int (T+1+(F.length:Int))) (.int 2)=some (.int (T+1+(F.length:Int)+2)):=rfl;generalize T+1+(F.length:Int)+2=U at *;generalize hA:D.tup [.str "keep",.int (xs.length:Int)]=A;generalize hC:D.tup [.str "count",.int t,.int i]=C;generalize hO:D.tup [.str "round",.int t,.int U]=O;generalize hG:D.tup [.str "go",.int T]=G;generalize hE:D.tup [.str "take",.int (xs.length:Int)]=E;have f1:aT (.lst B) (.lst [A,C,O])=some (.lst (B++[A,C,O])):=bL (by simp[-U9,-VA,aA,aB];lia);have f2:aT (.lst (B++[A,C,O])) (.lst F)=some (.lst (B++[A,C,O]++F)):=bL (by simp[-U9,-VA,aA,aB];lia);have f3:aT (.lst (B++[A,C,O]++F)) (.lst [A,G,E])=some (.lst (B++[A,C,O]++F++[A,G,E])):=bL (by simp[-U9,-VA,aA,aB];lia);have f4:aT (.lst B) (.lst [A,C])=some (.lst (B++[A,C])):=bL (by simp[-U9,-VA,aA,aB];lia);have f5:aT (.lst (B++[A,C])) (.lst [O])=some (.lst (B++[A,C,O])):=by rw[bL (by simp[-U9,-VA,aA,aB];lia),zaw];rfl
 have k3:bY [.lst (B++[A,C])]=some (.int ((B.length:Int)+2)):=by rw[q_lenL,WN];rfl
 have sp:gR (Sp R1) (.str "again") [bk,dH xs,.int t,.tup [.str "again",.int i,.int j,.str x,a,b,tupI w],.int s]=some (.lst (B++[A,C,O]++F++[A,G,E])):=by
  refine X9 (b:=aS 11 (c4 R1) [bk,dH xs,.int t,.tup [.str "again",.int i,.int j,.str x,a,b,tupI w],.int s]) rfl (aQ ?_);generalize dH xs=p at *;generalize dH (xs++[x])=p' at *;unfold c4;simp only[aK,VG,WV,VR,W5];subst hA hC hO hG hE
  ac_rfl
 have e1:d6 (.str "again") (.str "let")=some (.bl false):=by rw[b4];rfl
 have e2:d6 (.str "again") (.str "name")=some (.bl false):=by rw[b4];rfl
 have e3:d6 (.str "again") (.str "number")=some (.bl false):=by rw[b4];rfl
 have e4:d6 (.str "again") (.str "use")=some (.bl false):=by rw[b4];rfl
 have e5:d6 (.str "again") (.str "pick")=some (.bl false):=by rw[b4];rfl
 have hd:=c7 h2 rfl sp (vF rfl e1 rfl rfl) hw (by simp[-U9,-VA,aA,aB];lia);have J:(B++[A,C,O]++F++[A,G,E]).length+10<=lim (q+1):=by simp_all[lim];lia
 have gL:∀r∈B++[A,C,O]++F++[A,G,E],Gd 5 r:=dE (dE (dE W (b8 (hA ▸ .t2) (b8 (hC ▸ .t3 .int) (b8 (hO ▸ .t3 .int) eS)))) g2) (b8 (hA ▸ .t2) (b8 (hG ▸ .t2) (b8 (hE ▸ .t2) eS)));obtain⟨m1,m2⟩:=u4 hw J gL;refine⟨_,hd,aQ ?_,m1,m2⟩;have M:aF (.tup [.str "again",.int i,.int j,.str x,a,b,tupI w]) (.int (-1))=some (tupI w):=rfl;have nl:bY [.lst (xs.map .str)]=some (.int (xs.length:Int)):=by rw[q_lenL,VD]
 have na:aT (.lst (xs.map .str)) (.lst [.str x])=some (.lst ((xs++[x]).map .str)):=by rw[bL (by simp[-U9,-VA,aA,aB];lia),W6];rfl
 unfold bA;rw[BV];refine(aI (fN rfl rfl)).trans ?_;dsimp only[WI];refine(aI (jA (by ac_rfl) (oU rfl rfl))).trans ?_;have zl:(B++[A,C,O]++F++[A,G,E]).length<=100000:=by unfold lim at J;lia
 refine(aI (ρ':=[some (.tup [.tup (rs.map aY),mk]),some (.lst (xs.map .str)),some (.int s),some (.int t),some (.tup [.str "again",.int i,.int j,.str x,a,b,tupI w]),some (.tup (rs.map aY)),some mk,none,none,some (.lst F),some (.lst (B++[A,C,O]++F++[A,G,E])),none,some (.int T),some (.int (xs.length:Int))]) ?_).trans (i4 M hw zl);generalize (xs++[x]).map D.str=ys at *;subst hA hC hO hG hE
 ac_rfl
theorem S6{u v:List D}(z:u.length+v.length<=1000000):dCat (.lst u) (.lst v)=some (.lst (u++v)):=if_pos (decide_eq_true z)
theorem NP{k:Nat}{f:Ev}{ρ ρ':bI}{u v:List D}(h:aD k ρ=some (.lst u))(e:f ρ=some (.lst v))(z:u.length+v.length<=1000000)(r:ρ.set k (some (.lst (u++v)))=ρ'):J8 k f ρ=some (.nx ρ'):=by
 unfold J8;rw[h,aA];dsimp only;rw[e,aA];dsimp only;rw[if_pos (show aW (u.length+v.length)=true from decide_eq_true z),r]
theorem uR{R1 R2:List D->Option D}{rs:List Ro}{bk mk d:D}{xs:List Str}{q:Nat}{t s:Int}{o5 o6 o7 o8 o9 o12 o13:Option D}(N:lim q<=10000):∀(l acc:List D) (u v:Option D),(∀r∈l,Rw bk (.tup [.tup (rs.map aY),mk]) xs r q R1 R2)->acc.length+l.length*lim q<=900000->(∀r∈acc,Gd 5 r)->∃(B:List D) (F G:Option D),fR (aJ 6) (J8 5 (a6 R1 (aH (aD 0) (aH (aD 1) (aH (aD 2) (aH (aD 6) (aH (bC aT (aD 4) (a6 bY (aH (aD 5) bQ))) bQ))))))) l [some bk,some (dH xs),some (.int t),some d,some (.int s),some (.lst acc),u]=some (.nx [some bk,some (dH xs),some (.int t),some d,some (.int s),some (.lst B),F])/\fR (aJ 11) (d5 10 (bC dCat (aD 10) (a6 R2 (aH (aD 0) (aH (aD 1) (aH (bC aT (aD 2) (a6 bY (aH (aD 10) bQ))) (aH (aD 3) (aH (aD 11) bQ)))))))) l [some (.tup [.tup (rs.map aY),mk]),some (.lst (xs.map .str)),some (.int s),some (.int t),some d,o5,o6,o7,o8,o9,some (.lst acc),v,o12,o13]=some (.nx [some (.tup [.tup (rs.map aY),mk]),some (.lst (xs.map .str)),some (.int s),some (.int t),some d,o5,o6,o7,o8,o9,some (.lst B),G,o12,o13])/\B.length<=acc.length+l.length*lim q/\∀r∈B,Gd 5 r
 | [],acc,u,v,_,_,g=>⟨acc,u,v,rfl,rfl,by simp[-U9,-VA,aA,aB],g⟩
 | r::l,acc,u,v,h,z,g=>by
  rw[VR,Nat.add_mul,Nat.one_mul]at z;obtain⟨m,a1,a2,n1,W⟩:=h r (V2 ..) t (s+(acc.length:Int));obtain⟨B,F,G,U,Y,n,g'⟩:=uR (rs:=rs) (mk:=mk) (d:=d) (t:=t) (s:=s) (o5:=o5) (o6:=o6) (o7:=o7) (o8:=o8) (o9:=o9) (o12:=o12) (o13:=o13) N l (acc++m) (some r) (some r) (λx M=>h x (V1 _ M)) (by rw[WN];lia) (dE g W);have k1:bY [.lst acc]=some (.int (acc.length:Int)):=q_lenL;have J:acc.length+m.length<=1000000:=by lia
  have c2:=S6 J;refine⟨B,F,G,kZ (kO (ρ':=[some bk,some (dH xs),some (.int t),some d,some (.int s),some (.lst acc),some r]) rfl (NP rfl ?_ J rfl)) U,kZ (kO (ρ':=[some (.tup [.tup (rs.map aY),mk]),some (.lst (xs.map .str)),some (.int s),some (.int t),some d,o5,o6,o7,o8,o9,some (.lst acc),some r,o12,o13]) rfl ?_) Y,by rw[WN]at n;rw[VR,Nat.add_mul,Nat.one_mul];lia,g'⟩
  ·generalize dH xs=p at *
   ac_rfl
  ·ac_rfl
theorem rw_use{R1 R2:List D->Option D}{rs:List Ro}{ms:List Mk}{M:Int}{bk:D}{xs:List Str}{v:Int}{l:List D}{w:List Int}{q:Nat}(h2:aF bk (.int 2)=some (.tup (rs.map aY)))(h3:aF bk (.int 3)=some (.tup (ms.map (lM M))))(hv:0<=v/\v<(ms.length:Int))(hl:l.length<=2)(hw:Wy rs.length w)(hq:lim q<=10000)(ha:∀r∈l,Rw bk (.tup [.tup (rs.map aY),.tup (ms.map (lM M))]) xs r q R1 R2):Rw bk (.tup [.tup (rs.map aY),.tup (ms.map (lM M))]) xs (.tup [.str "use",.int v,.tup l,tupI w]) (q+1) (aS 6 (bS R1)) (aS 14 (bA R2)):=λt s=>by
 have hm:l.length*lim q<=2*lim q:=Nat.mul_le_mul_right _ hl;obtain⟨B,u',J,Y,e2,n,g⟩:=uR (R1:=R1) (R2:=R2) (rs:=rs) (mk:=.tup (ms.map (lM M))) (xs:=xs) (d:=.tup [.str "use",.int v,.tup l,tupI w]) (t:=t) (s:=s) (o5:=some (.tup (rs.map aY))) (o6:=some (.tup (ms.map (lM M)))) (o7:=none) (o8:=none) (o9:=none) (o12:=none) (o13:=none) hq l [] none none ha (by simp[-U9,-VA,aA,aB];lia) eS;rw[W5,YU]at n;have N:d7 (ms.map (lM M)) v=some (lM M ms[v.toNat]):=by
  obtain⟨k,rfl⟩:=zbr hv.1;refine bX ?_;rw[VV,V6 (by lia)];rfl
 generalize ms[v.toNat]=m at N;have m3:aF (lM M m) (.int 3)=some (GI M m.ts):=rfl;have kl:bY [.tup l]=some (.int (l.length:Int)):=q_lenT;generalize hC:D.tup [.str "reckon",.int (l.length:Int),GI M m.ts]=C;have f1:aT (.lst B) (.lst [C])=some (.lst (B++[C])):=bL (by simp[-U9,-VA,aA,aB];lia);have sp:gR (Sp R1) (.str "use") [bk,dH xs,.int t,.tup [.str "use",.int v,.tup l,tupI w],.int s]=some (.lst (B++[C])):=by
  refine X9 (b:=aS 7 (eO R1) [bk,dH xs,.int t,.tup [.str "use",.int v,.tup l,tupI w],.int s]) rfl (aQ ?_);generalize dH xs=p at *;unfold eO;refine(aI (ρ':=[some bk,some p,some (.int t),some (.tup [.str "use",.int v,.tup l,tupI w]),some (.int s),some (.lst []),none]) (cC (wY rfl) rfl)).trans ?_;refine(aI (sG (i5 (bV rfl rfl rfl)) Y)).trans ?_;subst hC
  ac_rfl
 have F:d6 (.str "use") (.str "let")=some (.bl false):=by rw[b4];rfl
 have U:d6 (.str "use") (.str "name")=some (.bl false):=by rw[b4];rfl
 have e3:d6 (.str "use") (.str "number")=some (.bl false):=by rw[b4];rfl
 have e4:d6 (.str "use") (.str "use")=some (.bl true):=by rw[b4];rfl
 have hd:=c7 h2 rfl sp (vF rfl F rfl rfl) hw (by simp[-U9,-VA,aA,aB];lia);obtain⟨W,m2⟩:=u4 (k:=lim (q+1)) (l:=B++[C]) hw (by simp_all[lim];lia) (dE g (b8 (hC ▸ .t3 .fm) eS));refine⟨_,hd,aQ ?_,W,m2⟩;have G:aF (.tup [.str "use",.int v,.tup l,tupI w]) (.int (-1))=some (tupI w):=rfl;unfold bA;rw[BV];refine(aI (fN rfl rfl)).trans ?_;dsimp only[WI];refine(aI (jA (by ac_rfl) (oU rfl rfl))).trans ?_;refine(aI (ρ':=[some (.tup [.tup (rs.map aY),.tup (ms.map (lM M))]),some (.lst (xs.map .str)),some (.int s),some (.int t),some (.tup [.str "use",.int v,.tup l,tupI w]),some (.tup (rs.map aY)),some (.tup (ms.map (lM M))),none,none,none,some (.lst (B++[C])),J,none,none]) ?_).trans (i4 G hw (by simp[-U9,-VA,aA,aB];lia));refine jA (by ac_rfl) (oU rfl (jA (by ac_rfl) (oU rfl (jA (by ac_rfl) (FV rfl ?_)))));refine(aI (cC (wY rfl) rfl)).trans ?_;dsimp only[WI];refine(aI (sG (i5 (bV rfl rfl rfl)) e2)).trans ?_;have za:B.length<=1000000:=by lia
 subst hC;exact E3 rfl (by ac_rfl) za
theorem OH{rs:List Ro}{ms:List Mk}{M:Int}{bk:D}(h2:aF bk (.int 2)=some (.tup (rs.map aY)))(J:aF bk (.int 3)=some (.tup (ms.map (lM M)))){k:Nat}{xs:List Str}{d:D}(h:Rg rs.length ms.length k xs d):∀ {f:Nat},k<=f->xs.length+k<=100->lim k<=10000->Rw bk (.tup [.tup (rs.map aY),.tup (ms.map (lM M))]) xs d k (xQ 6 bS f) (xQ 14 bA f):=by
 induction h with
 | nam hx hw=>intro f F B q;obtain⟨f,rfl⟩:∃p,f=p+1:=⟨f-1,by lia⟩;exact rw_nam h2 hx (by lia) hw
 | num hw=>intro f F B q;obtain⟨f,rfl⟩:∃p,f=p+1:=⟨f-1,by lia⟩;exact rw_num h2 hw
 | use hv hl _ hw ih=>intro f F B q;obtain⟨f,rfl⟩:∃p,f=p+1:=⟨f-1,by lia⟩;unfold lim at q;exact rw_use h2 J hv hl hw (by lia) λr G=>ih r G (by lia) (by lia) (by lia)
 | bnd hx _ _ i1 i2=>intro f F B q;obtain⟨f,rfl⟩:∃p,f=p+1:=⟨f-1,by lia⟩;unfold lim at q;exact rw_bnd h2 hx (by lia) (by lia) (i1 (by lia) (by lia) (by lia)) (i2 (by lia) (by simp[-U9,-VA,aA,aB];lia) (by lia))
 | pick _ _ _ hw i1 i2 i3=>intro f F B q;obtain⟨f,rfl⟩:∃p,f=p+1:=⟨f-1,by lia⟩;unfold lim at q;exact rw_pick h2 hw (by lia) (i1 (by lia) (by lia) (by lia)) (i2 (by lia) (by lia) (by lia)) (i3 (by lia) (by lia) (by lia))
 | again hx _ _ hw i1 i2=>intro f F B q;obtain⟨f,rfl⟩:∃p,f=p+1:=⟨f-1,by lia⟩;unfold lim at q;exact rw_again h2 hx (by lia) hw (by lia) (i1 (by lia) (by lia) (by lia)) (i2 (by lia) (by simp[-U9,-VA,aA,aB];lia) (by lia))
theorem tM(ns:List Int){n:Nat}(hn:1<=n){c:Int}:∃kn:List (Str×Int),fB [.lst (ns.map .int),.int (n:Int),.lst (bP c 8)]=some (.lst (bW kn))/\kn.length<=3/\(∀p∈kn,0<=p.2/\p.2<(n:Int))/\KN c kn (kn.length:Int)/\(kn.map (·.1)).Nodup:=by
 obtain⟨f,Y⟩:=cX ns;have fk:=Y 32 (by decide) (by decide);generalize f 32=cell at fk;have N:(0:Int)<(n:Int):=by lia
 have M:∀y:Int,0<=y%(n:Int)/\y%(n:Int)<(n:Int):=λy=>⟨VP _ (WJ N),VQ _ N⟩
 have n0:=sA (c:=c) (p:=0) (by decide) (by decide);have n1:=sA (c:=c) (p:=1) (by decide) (by decide);have n2:=sA (c:=c) (p:=2) (by decide) (by decide);have B:b7 c 0≠b7 c 1:=λz=>by have:=nO (by decide) (by decide) (by decide) (by decide) z;lia
 have J:b7 c 0≠b7 c 2:=λz=>by have:=nO (by decide) (by decide) (by decide) (by decide) z;lia
 have G:b7 c 1≠b7 c 2:=λz=>by have:=nO (by decide) (by decide) (by decide) (by decide) z;lia
 have W:cell%4=0\/cell%4=1\/cell%4=2\/cell%4=3:=by lia
 have i0:aF (.lst [.int 4,.int 24,.int 144]) (.int 0)=some (.int 4):=rfl;have i1:aF (.lst [.int 4,.int 24,.int 144]) (.int 1)=some (.int 24):=rfl;have i2:aF (.lst [.int 4,.int 24,.int 144]) (.int 2)=some (.int 144):=rfl;have F:∀ {r:Int} {L:List D} (kn:List (Str×Int)),cell%4=r->bN [.int r]=some L->L.length<=1000000->bD (aJ 0) gD (kX (aH (bC aF (aD 1) (aD 0)) (aH (bC eW (bC vG (aD 2) (bC aF (sL (aH (eC (.int 4)) (aH (eC (.int 24)) (aH (eC (.int 144)) bQ)))) (aD 0))) (aD 3)) bQ))) L [none,some (.lst (bP c 8)),some (.int cell),some (.int (n:Int))]=some (bW kn)->fB [.lst (ns.map .int),.int (n:Int),.lst (bP c 8)]=some (.lst (bW kn)):=λ{r L} kn U rl zl hc=>by
  have dm:eW (.int cell) (.int 4)=some (.int r):=by rw[cF (by decide),U]
  refine aQ ?_;unfold kF
  ac_rfl
 rcases W with h|h|h|h
 ·exact⟨[],F [] h (L:=[]) rfl (by decide) rfl,by simp[-U9,-VA,aA,aB],(λ_ z=>nomatch z),(λ_ z=>nomatch z),by simp[-U9,-VA,aA,aB]⟩
 ·refine⟨[(b7 c 0,cell/4%(n:Int))],F _ h (L:=[.int 0]) rfl (by simp[-U9,-VA,aA,aB]) (show _=some [D.tup [.str (b7 c 0),.int (cell/4%(n:Int))]] by ac_rfl),by simp[-U9,-VA,aA,aB],λp q=>?_,λp q=>?_,by simp[-U9,-VA,aA,aB]⟩
  ·rw[List.mem_singleton.mp q];exact M _
  ·rw[List.mem_singleton.mp q];exact⟨0,by decide,by simp[-U9,-VA,aA,aB],rfl⟩
 ·refine⟨[(b7 c 0,cell/4%(n:Int)),(b7 c 1,cell/24%(n:Int))],F _ h (L:=[.int 0,.int 1]) rfl (by simp[-U9,-VA,aA,aB]) (show _=some [D.tup [.str (b7 c 0),.int (cell/4%(n:Int))],D.tup [.str (b7 c 1),.int (cell/24%(n:Int))]] by ac_rfl),by simp[-U9,-VA,aA,aB],λp q=>?_,λp q=>?_,by simp_all[B]⟩ <;> simp only[WG,WH,or_false]at q
  ·rcases q with rfl|rfl <;> exact M _
  ·rcases q with rfl|rfl
   ·exact⟨0,by decide,by simp[-U9,-VA,aA,aB],rfl⟩
   ·exact⟨1,by decide,by simp[-U9,-VA,aA,aB],rfl⟩
 ·refine⟨[(b7 c 0,cell/4%(n:Int)),(b7 c 1,cell/24%(n:Int)),(b7 c 2,cell/144%(n:Int))],F _ h (L:=[.int 0,.int 1,.int 2]) rfl (by simp[-U9,-VA,aA,aB]) (show _=some [D.tup [.str (b7 c 0),.int (cell/4%(n:Int))],D.tup [.str (b7 c 1),.int (cell/24%(n:Int))],D.tup [.str (b7 c 2),.int (cell/144%(n:Int))]] by ac_rfl),by simp[-U9,-VA,aA,aB],λp q=>?_,λp q=>?_,by simp_all[B,J,G]⟩ <;> simp only[WG,WH,or_false]at q
  ·rcases q with rfl|rfl|rfl <;> exact M _
  ·rcases q with rfl|rfl|rfl
   ·exact⟨0,by decide,by simp[-U9,-VA,aA,aB],rfl⟩
   ·exact⟨1,by decide,by simp[-U9,-VA,aA,aB],rfl⟩
   ·exact⟨2,by decide,by simp[-U9,-VA,aA,aB],rfl⟩
theorem C3{F:Fq}{f0 fl:Ev}{fs:Lv}{ρ:bI}{q r z:D}{l es:List D}(h0:f0 ρ=some q)(B:fl ρ=some (.lst l))(hs:fs ρ=some es)(e:F (q::.lst l::es)=some (r,z)):sH F f0 fl fs ρ=some r:=by
 unfold sH;rw[h0,aA,B,aA,hs,aA];show(F (q::.lst l::es)).map (·.1)=_;rw[e,aB]
theorem oO(ns:List Int){M:Int}{n:Nat}{rs:List Ro}{ms:List Mk}(B:Wo M n rs ms):∃(kn:List (Str×Int)) (want:Int) (q rd:D),gK [.lst (ns.map .int),.int M,.lst (rs.map aY),.lst (ms.map eY),b6 n (RT (rs.map (red M)))]=some (.tup [.lst (bW kn),.int want,q,rd])/\kn.length<=3/\(kn.map (·.1)).Nodup/\Rg rs.length ms.length 5 (kn.map (·.1)) rd:=by
 obtain⟨f,J⟩:=cX ns;have f1:=J 31 (by decide) (by decide);have f2:=J 32 (by decide) (by decide);generalize f 31=c at f1;generalize f 32=cell at f2;have F:(0:Int)<(n:Int):=by have:=B.hn;lia
 obtain⟨kn,eh,W,hk,kc,kd⟩:=tM ns (c:=c) B.hn.1;have nn:dQ [.int c,.int 8]=some (.lst (bP c 8)):=fE (c:=c) (many:=8) (by decide) (by decide);have el:bY [b6 n (RT (rs.map (red M)))]=some (.int (n:Int)):=by unfold b6;rw[q_lenL,VD,zai]
 have N:=VP (cell/1000) (WJ F);have U:=VQ (cell/1000) F;have dj:eW (.int (cell/1000)) (.int (n:Int))=some (.int (cell/1000%(n:Int))):=cF F;generalize cell/1000%(n:Int)=want at N U dj;have ek:bY [.lst (bW kn)]=some (.int (kn.length:Int)):=by rw[q_lenL];unfold bW;rw[VD]
 obtain⟨q,rd,q0,Y,q2,q3,G,g0,g2,g3,gd⟩:=sU (ns:=ns) (c:=c) B 4 10 (by decide) (kn:=kn) (want:=want) (nest:=0) (p0:=37) (p1:=10) (p2:=(kn.length:Int)) (p3:=2) hk kc (by lia) ⟨N,U⟩ (by decide) (by lia) (by decide);have G:kK [wD ns M n rs ms c,.lst [.int 37,.int 10,.int (kn.length:Int),.int 2],.lst (bW kn),.int want,.int 4,.int 0]=some (.tup [q,rd],eX q0 Y q2 q3):=G;refine⟨kn,want,q,rd,?_,W,kd,gd⟩;refine aQ ?_;unfold gP;rw[aI (b5 (d:=.lst (bP c 8)) (by ac_rfl))];rw[aI (b5 (d:=.lst (bW kn)) (by ac_rfl))];rw[aI (b5 (d:=.int want) (by ac_rfl))];rw[aI (b5 (d:=wD ns M n rs ms c) (show _=some (D.tup [.lst (ns.map .int),.int M,.lst (rs.map aY),.lst (ms.map eY),b6 n (RT (rs.map (red M))),.lst (bP c 8)]) by ac_rfl))];refine(aI (ρ':=[some (.lst (ns.map .int)),some (.int M),some (.lst (rs.map aY)),some (.lst (ms.map eY)),some (b6 n (RT (rs.map (red M)))),some (.lst (bP c 8)),some (.lst (bW kn)),some (.int want),some (wD ns M n rs ms c),some q,some rd]) (fN (C3 rfl (by ac_rfl) (by ac_rfl) G) rfl)).trans ?_
 ac_rfl
theorem lZ:∀(kn:List (Str×Int)) (o:Option D),bD (aJ 0) gD (bC aF (aD 0) (eC (.int 0))) (bW kn) [o]=some ((kn.map (·.1)).map .str)
 | [],_=>rfl
 | p::kn,o=>dS (ρ':=[some (.tup [.str p.1,.int p.2])]) rfl rfl (bV rfl rfl rfl) (lZ kn _)
theorem mL{bk hd rd:D}:∀(kn:List (Str×Int)) (ys:List Str) (u v:Option D),(ys++kn.map (·.1)).Nodup->ys.length+kn.length<=100->∃B F,fR (kQ 2 (aR (aJ 4) (aR (aJ 5) gQ))) (BX 3 (aD 4) (a6 bY (aH (aD 3) bQ))) (bW kn) [some bk,some hd,some rd,some (dH ys),u,v]=some (.nx [some bk,some hd,some rd,some (dH (ys++kn.map (·.1))),B,F])
 | [],ys,u,v,_,_=>⟨u,v,by rw[WV,YM];rfl⟩
 | p::kn,ys,u,v,h,z=>by
  rw[VR]at z;rw[VG]at h;have G:p.1∉ys:=λm=>by
   have:=(List.nodup_append.mp h).2.2 _ m p.1 (V2 ..);exact this rfl
  obtain⟨B,F,e⟩:=mL (bk:=bk) (hd:=hd) (rd:=rd) kn (ys++[p.1]) (some (.str p.1)) (some (.int p.2)) (by rw[zaw];exact h) (by rw[WN,zaz];lia);rw[zaw]at e;have a:=rR (xs:=ys);have b:=EW G (by lia);refine⟨B,F,kZ (kO (ρ':=[some bk,some hd,some rd,some (dH ys),some (.str p.1),some (.int p.2)]) rfl ?_) e⟩;generalize dH ys=q at *;generalize dH (ys++[p.1])=q' at *;simp_all[a,b]
theorem pH{bk hd rd:D}{kn:List (Str×Int)}{l:List D}(q:eI (aD 1) [some bk,some hd,some rd,some (dH []),none,none]=some (bW kn))(h:(kn.map (·.1)).Nodup)(z:kn.length<=3)(e:jJ [bk,dH (kn.map (·.1)),.int 0,rd,.int 0]=some (.lst l)):fU [bk,hd,rd]=some (.lst l):=by
 obtain⟨u,v,f⟩:=mL (bk:=bk) (hd:=hd) (rd:=rd) kn [] none none (by rw[zaf];exact h) (by simp[-U9,-VA,aA,aB];lia);rw[zaf]at f;refine aQ ?_;unfold pC;refine(aI (ρ':=[some bk,some hd,some rd,some (dH []),none,none]) (cC (d:=dH []) rfl rfl)).trans ?_;refine(aI (sG q f)).trans ?_;generalize dH (kn.map (·.1))=p at *
 ac_rfl
theorem QT(ns:List Int)(hl:ns.length<=63):aS 14 FS [.lst (ns.map .int)]=some (.bl true):=by
 obtain⟨M,c,n,rs,ms,eb,hM,N,J,hm,F⟩:=v5 ns;have vb:=NB (c:=c) hM N J hm F;have g:=L0 hM.1 J.1 J.2;have vr:=tK g N.2;have B:Wo M n rs ms:=⟨by lia,N,g,hm,F⟩;obtain⟨kn,j,q,rd,vp,kl,kd,gd⟩:=oO ns B;obtain⟨f,hf⟩:=cX ns;have fk:=hf 32 (by decide) (by decide);generalize f 32=cell at fk;have h2:aF (GD M c n rs ms) (.int 2)=some (.tup ((rs.map (red M)).map aY)):=rfl;have h3:aF (GD M c n rs ms) (.int 3)=some (.tup (ms.map (lM M))):=rfl;have ec:bY [.lst (bP c n)]=some (.int (n:Int)):=by rw[q_lenL,fF]
 have Y:Rg (rs.map (red M)).length ms.length 5 (kn.map (·.1)) rd:=by rw[VD];exact gd
 obtain⟨l,G,r2,zl,gl⟩:=OH h2 h3 Y (f:=6) (by decide) (by rw[VD];lia) (by decide) 0 0;have G:jJ [GD M c n rs ms,dH (kn.map (·.1)),.int 0,rd,.int 0]=some (.lst l):=G;have r2:fX [.tup [.tup ((rs.map (red M)).map aY),.tup (ms.map (lM M))],.lst ((kn.map (·.1)).map .str),.int 0,.int 0,rd]=some (.lst l):=r2;have U:=pH (bk:=GD M c n rs ms) (hd:=.lst (bW kn)) (rd:=rd) (ET rfl) kd kl G;have W:=pH (bk:=GD M c n rs ms) (hd:=.tup (bW kn)) (rd:=rd) (i5 rfl) kd kl G;have cn:=lZ kn none;have zk:(bW kn).length<=1000000:=by unfold bW;rw[VD];lia
 have it:vJ "list" (D.lst l)=true:=rfl;have eq:d6 (.lst l) (.lst l)=some (.bl true):=by
  unfold d6 B6;rw[if_pos (.inr ⟨rfl,rfl,Gd.okL gl (by decide),Gd.okL gl (by decide)⟩)];simp[-U9,-VA,aA,aB]
 have d1:jC [.lst (bW kn)]=some (.lst (bW kn)):=by simp_all[jC,aW,zk]
 have d2:dX [.lst (bW kn)]=some (.tup (bW kn)):=by simp_all[dX,aW,zk]
 refine aQ ?_;unfold FS;rw[aI (ρ':=[some (.lst (ns.map .int)),some (.int M),some (.lst (bP c n)),some (.lst (rs.map aY)),some (.lst (ms.map eY)),none,none,none,none,none,none,none,none,none]) (by ac_rfl)];rw[aI (b5 (d:=GD M c n rs ms) (by ac_rfl))];rw[aI (b5 (d:=b6 n (RT (rs.map (red M)))) (by ac_rfl))];rw[aI (ρ':=[some (.lst (ns.map .int)),some (.int M),some (.lst (bP c n)),some (.lst (rs.map aY)),some (.lst (ms.map eY)),some (GD M c n rs ms),some (b6 n (RT (rs.map (red M)))),some (.lst (bW kn)),some (.int j),some q,some rd,none,none,none]) (by ac_rfl)];generalize GD M c n rs ms=bk at *;generalize b6 n (RT (rs.map (red M)))=mm at *;have two:∀hd:D,aF (.lst [.lst (bW kn),.tup (bW kn)]) (.int (cell/7919%2))=some hd->fU [bk,hd,rd]=some (.lst l)->c6 (d5 11 (bC aF (sL (aH (a6 jC (aH (aD 7) bQ)) (aH (a6 dX (aH (aD 7) bQ)) bQ))) (bC eW (bC vG (a6 bF (aH (aD 0) (aH (eC (.int 32)) bQ))) (eC (.int 7919))) (eC (.int 2))))) (c6 (d5 12 (a6 fU (aH (aD 5) (aH (aD 11) (aH (aD 10) bQ))))) (c6 (d5 13 (a6 fX (aH (kX (aH (bC aF (aD 5) (eC (.int 2))) (aH (bC aF (aD 5) (eC (.int 3))) bQ))) (aH (dW [none] (eI (aD 7)) (aJ 0) gD (bC aF (aD 0) (eC (.int 0)))) (aH (eC (.int 0)) (aH (eC (.int 0)) (aH (aD 10) bQ))))))) (LA (ON (BZ "list" (aD 12)) (bC d6 (aD 12) (aD 13)))))) [some (.lst (ns.map .int)),some (.int M),some (.lst (bP c n)),some (.lst (rs.map aY)),some (.lst (ms.map eY)),some bk,some mm,some (.lst (bW kn)),some (.int j),some q,some rd,none,none,none]=some (.rt (.bl true)):=λhd ei er=>by
  rw[aI (ρ':=[some (.lst (ns.map .int)),some (.int M),some (.lst (bP c n)),some (.lst (rs.map aY)),some (.lst (ms.map eY)),some bk,some mm,some (.lst (bW kn)),some (.int j),some q,some rd,some hd,none,none]) (by ac_rfl)];rw[aI (ρ':=[some (.lst (ns.map .int)),some (.int M),some (.lst (bP c n)),some (.lst (rs.map aY)),some (.lst (ms.map eY)),some bk,some mm,some (.lst (bW kn)),some (.int j),some q,some rd,some hd,some (.lst l),none]) (by ac_rfl)];rw[aI (ρ':=[some (.lst (ns.map .int)),some (.int M),some (.lst (bP c n)),some (.lst (rs.map aY)),some (.lst (ms.map eY)),some bk,some mm,some (.lst (bW kn)),some (.int j),some q,some rd,some hd,some (.lst l),some (.lst l)]) (by ac_rfl)];simp_all[it,eq]
 have:cell/7919%2=0\/cell/7919%2=1:=by lia
 rcases this with z|z
 ·exact two _ (by rw[z];rfl) U
 ·exact two _ (by rw[z];rfl) W
theorem SD:Bds top tab:=by
 unfold tab
 repeat (refine Bds.cons ?_ ?_;· (repeat intro _);rfl)
 exact Bds.nil
theorem LR{l:zbe}{w:World}{K:U6}{h:Heap}{mg:Str->Option Value}{fa:Addr}{k:Nat}(X:K.In h)(G:h.Ns V0 mg)(a2:mg "law" = some (.ref fa))(D:Des K top tab)(B:Nos K blt)(J:Gis K TU)
  {f0:Addr} {a1 au:Option Addr} {az:Array (Option Value)} {ay ar as aw ap ax:Value} (a0:W8 K V0 "law" = some (some (.ref f0))) (l0:K.lookup f0=some ⟨ay,a1,.func (XN "law" "law" (cU s_law) (a9 s_law) (aE s_law) .none ar as aw au ap ax),az⟩) (c0:Y9 K ap "law" = true) (k0:YN K (.ref f0)=true)
  {Y:Addr} {am:Option Addr} {an:Nat} {ao:Array (Option Value)} {ab ac ad ae:Tok} (gaWORDS:W8 K V0 "WORDS" = some (some (.ref Y))) (glWORDS:K.lookup Y=some ⟨.type "tuple",am,.seq #[.str "let" ab,.str "in" ac,.str "pick" ad,.str "again" ae] an,ao⟩)
  {af:Addr} {aq:Nat} {al aj ak ag ai ah:Tok} {F N q aa U M:Addr} (kfROWS0:W8 K V0 "name_rows" = some (some (.ref F))) (kfROWS1:W8 K V0 "number_rows" = some (some (.ref N))) (kfROWS2:W8 K V0 "use_rows" = some (some (.ref q))) (kfROWS3:W8 K V0 "let_rows" = some (some (.ref aa))) (kfROWS4:W8 K V0 "pick_rows" = some (some (.ref U))) (kfROWS5:W8 K V0 "again_rows" = some (some (.ref M))) (kaROWS:W8 K V0 "ROWS" = some (some (.ref af))) (klROWS:K.lookup af=some ⟨.type "dict",none,.dict #[⟨YG w "name",.str "name" al,.ref F⟩,⟨YG w "number",.str "number" aj,.ref N⟩,⟨YG w "use",.str "use" ak,.ref q⟩,⟨YG w "let",.str "let" ag,.ref aa⟩,⟨YG w "pick",.str "pick" ai,.ref U⟩,⟨YG w "again",.str "again" ah,.ref M⟩] aq,#[]⟩)
  (ok:∀base:Heap,K.In base->base.Ns V0 mg->Txt w K mg->My.BodyOk l.prog w K mg base "law" s_law ["script", "M", "kinds", "roads", "makes", "made", "reach", "heads", "want", "part", "reading", "handed", "found", "due"] k (My.vC K)) :
  ∃fd:XA,(∀(s:U5) (v:Value),BindsTo s fd ⟨[v],[]⟩ [("script",v)])/\∀base:Heap,K.In base->base.Ns V0 mg->FnOk l.prog w K mg base sP (k+1) fa fd ["script"] (My.vC K):=by
 have e:=a2.symm.trans (XX X G a0);cases e;have F0:=EV (st:=s_law) l0 c0 k0;have T:Txt w K mg:=⟨Des.d X G D SD,λx hx=>PySem.W.mg_none_of X G (B x hx),Gis.d X G J,⟨⟨_,XX X G gaWORDS,_,_,_,glWORDS,rfl,rfl,by show 4<=VC;decide,.cons ⟨_,rfl⟩ (.cons ⟨_,rfl⟩ (.cons ⟨_,rfl⟩ (.cons ⟨_,rfl⟩ (.nil))))⟩⟩,⟨⟨_,_,_,_,XX X G kaROWS,klROWS,⟨rfl,rfl,rfl⟩,rfl,(.cons (XX X G kfROWS0) (.cons (XX X G kfROWS1) (.cons (XX X G kfROWS2) (.cons (XX X G kfROWS3) (.cons (XX X G kfROWS4) (.cons (XX X G kfROWS5) .nil)))))),by decide +kernel⟩⟩⟩;refine⟨XN "law" "law" (cU s_law) (a9 s_law) (aE s_law) .none ar as aw au ap ax,λs v=>.of_eq rfl,λbase kb nb=>?_⟩;exact(ok base kb nb T).fn F0 sc_law (λvs H Q E h=>by obtain⟨a,ns,e,_⟩:=h;rw[e];rfl)
end Law
namespace PySem.W.Fast
theorem tw16021762038626873492:0=0:=rfl
theorem tw9469184736923302799:0=0:=rfl
theorem tw8725821174112372005:0=0:=rfl
theorem tw18420616583196172797:0=0:=rfl
theorem tw12216386974984925313:0=0:=rfl
theorem tw1710766692759022479:0=0:=rfl
theorem tw15084006649212113303:0=0:=rfl
theorem tw1018732913770162189:0=0:=rfl
theorem tw1713369123434750095:0=0:=rfl
theorem tw728179726327414022:0=0:=rfl
theorem tw15929310573706219861:0=0:=rfl
theorem tw12231985640146539211:0=0:=rfl
theorem tw13103841916519511829:0=0:=rfl
theorem tw3385628848524807385:0=0:=rfl
theorem tw8803579619355681966:0=0:=rfl
theorem tw17820326407230022698:0=0:=rfl
theorem tw14961493063353958905:0=0:=rfl
theorem tw13311502225911541009:0=0:=rfl
theorem tw1157136726083392551:0=0:=rfl
theorem tw8190664086601696527:0=0:=rfl
theorem tw7762624342585570815:0=0:=rfl
theorem tw18018716734936050685:0=0:=rfl
theorem tw16623870058152348258:0=0:=rfl
theorem tw12066340299765241348:0=0:=rfl
theorem tw15292785900827646736:0=0:=rfl
theorem tw17139071447661011122:0=0:=rfl
theorem tw6475725633425993731:0=0:=rfl
theorem tw17253389659352633768:0=0:=rfl
theorem tw2204134761170587337:0=0:=rfl
theorem tw2079168539662970106:0=0:=rfl
theorem tw11543115396188116720:0=0:=rfl
theorem tw9431187587420488141:0=0:=rfl
theorem tw9168923916974328725:0=0:=rfl
theorem tw4429456856290226953:0=0:=rfl
theorem tw4513568442963610539:0=0:=rfl
theorem tw5778005697577665112:0=0:=rfl
theorem tw8795568784142771743:0=0:=rfl
theorem tw17704278112531434773:0=0:=rfl
theorem tw4650717056918873266:0=0:=rfl
theorem tw3038908037214278199:0=0:=rfl
theorem tw4302350282731886240:0=0:=rfl
theorem tw16596789728475763940:0=0:=rfl
theorem tw10074987398298588660:0=0:=rfl
theorem tw1144380825881950330:0=0:=rfl
theorem tw13598944355825210697:0=0:=rfl
theorem tw8778230101307697410:0=0:=rfl
theorem tw17630547357772249816:0=0:=rfl
theorem tw14274261805872716565:0=0:=rfl
theorem tw8716271159972290300:0=0:=rfl
theorem tw700984774650292202:0=0:=rfl
theorem tw7562682826383165532:0=0:=rfl
theorem tw14468650592860897041:0=0:=rfl
theorem tw1494872092376000921:0=0:=rfl
theorem tw2871322753223508711:0=0:=rfl
theorem tw10153780956990411189:0=0:=rfl
theorem tw16044773095340406514:0=0:=rfl
theorem tw12019153129085795675:0=0:=rfl
theorem tw13233274720314323851:0=0:=rfl
theorem tw7649923558294958620:0=0:=rfl
theorem tw11410149782737658979:0=0:=rfl
theorem tw13421088047368644681:0=0:=rfl
theorem tw15685733692152306250:0=0:=rfl
theorem tw191128519821210015:0=0:=rfl
theorem tw12950073907268614197:0=0:=rfl
theorem tw15006287448938655342:0=0:=rfl
theorem tw8611206445307366532:0=0:=rfl
theorem tw9336012812474687418:0=0:=rfl
theorem tw1213344402947330713:0=0:=rfl
theorem tw15441252864251082667:0=0:=rfl
theorem tw11298745643260378331:0=0:=rfl
theorem tw9856515102333282325:0=0:=rfl
theorem tw9765181488157049865:0=0:=rfl
theorem tw5957482578537099722:0=0:=rfl
theorem tw9838386348898682931:0=0:=rfl
theorem tw15197580795168650072:0=0:=rfl
theorem tw13263263604365789525:0=0:=rfl
theorem tw3246514153315105046:0=0:=rfl
theorem tw16837275358906342127:0=0:=rfl
theorem tw6740841964577751327:0=0:=rfl
theorem tw3632442682381654799:0=0:=rfl
theorem tw12445372578152751764:0=0:=rfl
theorem tw12879140229457842729:0=0:=rfl
theorem tw14136393840595504080:0=0:=rfl
theorem tw9068539727770129731:0=0:=rfl
theorem tw6131805759333404108:0=0:=rfl
theorem tw8202280349228696288:0=0:=rfl
theorem tw9811291430212265245:0=0:=rfl
theorem tw15371296094323750911:0=0:=rfl
theorem tw13317804792525747794:0=0:=rfl
theorem tw4845502865038078432:0=0:=rfl
theorem tw9451889804576521459:0=0:=rfl
theorem tw2982970754653927329:0=0:=rfl
theorem tw5876873846723698127:0=0:=rfl
theorem tw11523266133968895254:0=0:=rfl
theorem tw7617683312387446856:0=0:=rfl
theorem tw17897190575492327314:0=0:=rfl
theorem tw16030246471018421006:0=0:=rfl
theorem tw16980347324264053201:0=0:=rfl
theorem tw8692718222329075369:0=0:=rfl
theorem tw9982240316812549777:0=0:=rfl
theorem tw16743691675061271717:0=0:=rfl
theorem tw17697592530928048379:0=0:=rfl
theorem tw1768890691241873616:0=0:=rfl
theorem tw9272128587731448567:0=0:=rfl
theorem tw8070221083502400648:0=0:=rfl
theorem tw14980359230390709849:0=0:=rfl
theorem tw16043455240053213865:0=0:=rfl
theorem tw1004424484460779328:0=0:=rfl
theorem tw1530089074189901687:0=0:=rfl
theorem tw9149349939088048511:0=0:=rfl
theorem tw11592526607862449754:0=0:=rfl
theorem tw11544578651509842850:0=0:=rfl
theorem tw14033333893157076619:0=0:=rfl
theorem tw16196920259397837488:0=0:=rfl
theorem tw14355505840684927853:0=0:=rfl
theorem tw16776821732285939158:0=0:=rfl
theorem tw10001799090739365229:0=0:=rfl
theorem tw6467035137133589401:0=0:=rfl
theorem tw18248323263880752104:0=0:=rfl
theorem tw11775674369754156903:0=0:=rfl
theorem tw2166315405352733141:0=0:=rfl
theorem tw7834060672887394058:0=0:=rfl
theorem tw2556312534308553868:0=0:=rfl
theorem tw6871142614530998158:0=0:=rfl
theorem tw18218415554928469418:0=0:=rfl
theorem tw1351845977068774433:0=0:=rfl
theorem tw1748172378041141373:0=0:=rfl
theorem tw13259173514579061627:0=0:=rfl
theorem tw7209891794138676887:0=0:=rfl
theorem tw15925586831920507981:0=0:=rfl
theorem tw14992838818850513128:0=0:=rfl
theorem tw1878379296664211983:0=0:=rfl
theorem tw8684736231646017045:0=0:=rfl
theorem tw13559102518736601143:0=0:=rfl
theorem tw9937012146396784598:0=0:=rfl
theorem tw8737732498460357731:0=0:=rfl
theorem tw4718250427535723855:0=0:=rfl
theorem tw7359821285174382910:0=0:=rfl
theorem tw17028571794839971459:0=0:=rfl
theorem tw9620777201905248457:0=0:=rfl
theorem tw16749755819321761118:0=0:=rfl
theorem tw6044052635347925215:0=0:=rfl
theorem tw15709939676227160830:0=0:=rfl
theorem tw13491967670556821002:0=0:=rfl
theorem tw13480734006824347368:0=0:=rfl
theorem tw15132708974980449240:0=0:=rfl
theorem tw4720266707226197374:0=0:=rfl
theorem tw15120432869314307213:0=0:=rfl
theorem tw3816386622242717615:0=0:=rfl
theorem tw3817510796284034704:0=0:=rfl
theorem tw12665474255462673417:0=0:=rfl
theorem tw8321772983420085657:0=0:=rfl
theorem tw14906596690724540180:0=0:=rfl
theorem tw7522715006883949472:0=0:=rfl
theorem tw5688373814368836627:0=0:=rfl
theorem tw16729542258185738152:0=0:=rfl
theorem tw9941184744502369803:0=0:=rfl
theorem tw17000166735273192864:0=0:=rfl
theorem tw2769845086591229187:0=0:=rfl
theorem tw2584761414396854591:0=0:=rfl
theorem tw14936711996116594551:0=0:=rfl
theorem tw9969502608762203680:0=0:=rfl
theorem tw864818054554176829:0=0:=rfl
theorem tw12380086571909558015:0=0:=rfl
theorem tw1727155563896546898:0=0:=rfl
theorem tw2147781670413196952:0=0:=rfl
theorem tw13428841073491762575:0=0:=rfl
theorem tw4616089659025720908:0=0:=rfl
theorem tw5104737574390769860:0=0:=rfl
theorem tw7526805984207852618:0=0:=rfl
end PySem.W.Fast
open PySem PySem.W PyProof.Rows
set_option maxRecDepth 100000 in
set_option maxHeartbeats 0 in
theorem PySem.Challenge.cw_chiefway_k73_rows_of_a_reading_holds : PySem.Challenge.rw_chiefway_k73_rows_of_a_reading.Holds := by
 w_on;o_law;k_head;(case hw=>w_witness2)
 k_fill
 refine My.walk (l:=PySem.Challenge.rw_chiefway_k73_rows_of_a_reading) (k:=16) (by decide) rfl rfl (λw h Y=>PySem.W.kIn_of Y) ?F
 case F=>
  intro w mg U h KX G M;refine' Law.LR (k:=15) KX G M ?D ?B ?J ?a0 ?l0 ?c0 ?k0 ?gaWORDS ?glWORDS ?kfROWS0 ?kfROWS1 ?kfROWS2 ?kfROWS3 ?kfROWS4 ?kfROWS5 ?kaROWS ?klROWS ?ok
  (case D=>unfold Law.tab;(repeat (apply P.Des.cons;(case a=>k_is);(case l=>k_is);(case c=>k_is);(case k=>k_is)));exact P.Des.nil)
  (case B=>unfold Law.blt;(repeat (apply P.Nos.cons;(case a=>k_is)));exact P.Nos.nil)
  (case J=>unfold Law.TU;(repeat (apply P.Gis.cons;(case a=>k_is)));exact P.Gis.nil)
  (case a0=>k_is)
  (case l0=>k_is)
  (case c0=>k_is)
  (case k0=>k_is)
  (case gaWORDS=>k_is)
  (case glWORDS=>k_is)
  (case kfROWS0=>k_is)
  (case kfROWS1=>k_is)
  (case kfROWS2=>k_is)
  (case kfROWS3=>k_is)
  (case kfROWS4=>k_is)
  (case kfROWS5=>k_is)
  (case kaROWS=>k_is)
  (case klROWS=>k_is)
  (case ok=>exact λbase kb nb T=>P.LN (f:=Law.FS) (O':=[]) rfl (λU N A q s H E hr=>Law.K7.2 T U N A q s H E hr) Law.QT)
