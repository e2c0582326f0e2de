import PyProof.Rows.All
import Wide.All
import OpenK.AllK
import Wide.FinOn
import Lean
import PyProof.EqAt
import PyProof.EqKinds
import PyProof.TupleCall
import KE.KEqDict
import PySem.Challenge.RW_chiefway_k32_programs_refused
set_option autoImplicit true
set_option relaxedAutoImplicit true
set_option Elab.async false
set_option linter.all false
set_option maxRecDepth 100000
open PySem renaming Shared → U2, wpAny_bind → U4, Program → U7, starEach → U8, wpAny_pure → U9, sizeLine → VA, Around → VC, compareOp → VF, wpAny_mono → VP, mainGlobals → VQ, backTo → VU, swapsWith → V2, binaryOp → V4, bootBuiltins → V5, rawInt → WA, assignEach → WF, wpAny_field → WG, assign → WO, FuncData → WP, pyNext → WU, foldedSetIterable → WY, relabel → W2, codeAny → W5, wpAny_newObj_type → W7, IsEnum → W9, sysModules → XA, NameKind → XF, IsPart → XG, getItem → XH, sliceBounds → XI, valueAt → XJ, DictEntry → XM, wpAny_truthy_bool → XS, wpAny_holding → XT, behindInMarks → XU, wpAny_loadPart' → XX, wpAny_call_entry → XY, hashStr → X2, tupleKind → X4, Keyword → X5, wpAny_callSpecial?_slot → X6, PassesOwn → YA, wpAny_passesOwn → YB, codeAny_mono → YD, backToKw → YE, keywordEach → YF, leaving → YG, cellsFrom → YH, Builtin → YI, callerA → YM, noteFrame → YN, wpAny_setField → YO, wpAny_execs_nil → YU, wpAny_execs_cons → YV, wpAny_Call_Name_kw → YW, wpAny_standAt → Y9, wpAny_pyIter_list → ZA, wpAny_call → ZC, mem_of_lookup → ZE, typeIs_int → ZJ, wpAny_setField_rec → ZO, wpAny_letGo → ZP, wpAny_tryCatch → ZQ, setFlight → ZS, swapsWithSole → ZZ, swappedStores → Z0, letOwnedTupleGo → Z1, wpAny_pyIter_tuple → Z2, subscripted → zab, tupleKind_room_in1 → zaf, wpAny_attempt → zah, wpAny_typeNameOfWhole_keyiter → zaj, wpAny_typeNameOf_keyiter → zak, firstArgMember → zao, wpAny_seqItems → zar, plainId_quiet → zat, ExcAttrBase → zau, noFill_tuple_add → zaH, wpAny_getItem_of → zaP, wpAny_dictEntries → zaS, wpAny_dictEpoch → zaT, codeAny_builtin → za0, wpAny_updateSeq → za1
open PySem.W renaming Frag → U3, subIn → VS, nsIn → WH, mg_of → WT, fnOf → W0, keepIn → XW, kitOne → X0, codeIn → YZ, callWith_K → ZD, kitAny → ZT, findIn → Z4, excIn → zaw, clsIn → zax, methodObj → zaC, OpenLaw → zaQ
open Option renaming bind_some → U5, map_some → U6, isSome_map → zaO
open Int renaming emod_nonneg → VB, emod_lt_of_pos → VD, ne_of_gt → VV, toNat_natCast → X7, add_assoc → Y8
open PySem.Heap renaming lt_size → VE, get?_push_of_some → VI, get?_push_size → V3, SameBut → WN, FlyingW → W3, get?_update_other → W8, get?_update_self → YJ, HeldW → Y7, get?_none_of_le → ZW, MadeExcOf → zav
open Nat renaming le_refl → VG, ne_of_lt → VY, lt_of_lt_of_le → V9, le_trans → WC, lt_irrefl → XB, zero_le → XN, ne_of_gt → YC, le_of_eq → zag, lt_of_le_of_lt → zaR, lt_succ_self → zaZ
open Bool renaming false_ne_true → VH, and_eq_true → WD, eq_iff_iff → XE, eq_false_iff → Y1, not_eq_true → Y4, and_false → ZL, false_or → zae, false_eq_true → zal, not_eq_true' → zaX
open List renaming size_toArray → VJ, length_map → VL, getElem?_map → VM, range → VO, mem_cons_self → VR, mem_cons_of_mem → VW, map_cons → V0, replicate → V6, map_map → V7, getElem?_eq_getElem → WE, length_cons → WI, any_cons → WJ, set → WK, mem_append_right → WM, mem_of_getElem? → WR, length_append → WV, mem_append_left → WX, length_take → WZ, find?_cons → W1, append_nil → W6, getElem?_set_ne → XD, mem_cons → XO, not_mem_nil → XQ, getD_eq_getElem?_getD → X1, replicate_succ → YK, lookup_cons → YS, getElem_mem → YT, length → YX, getElem?_take_of_lt → YY, flatten_cons → Y0, getD → Y2, length_nil → ZG, all_cons → ZI, all_eq_true → ZK, drop_eq_getElem_cons → ZM, take_add_one → ZN, getElem_inj → ZX, getElem?_set_self → ZY, getElem?_append_right → Z5, getElem?_append_left → Z6, length_drop → Z8, length_set → zac, foldl_cons → zad, map_append → zay, forall_mem_cons → zaz, zipIdx → zaB, filterMap_cons → zaE, of_mem_zip → zaG, append_assoc → zaM, getElem?_range → zaV, drop_length → zaW, take_length → zaY, mem_or_eq_of_mem_set → za2, foldl_append → za3, mem_of_mem_take → za4
open Or renaming inl → VN
open PySem.Value renaming ref → VT, none → V8, bool → X3, builtin → ZR
open Option.some renaming inj → VX
open Ne renaming symm → VZ
open False renaming elim → V1
open PyProof.Rows renaming envOfC → WB, kindOf → WQ, IntsAre → WS, AllBare → XC, slot_tuple_getitem → Z9, callWith_type1 → zaF
open Sum renaming inr → WL, inl → XR
open PySem.Str renaming ofString → WW, join → X9
open Array renaming length_toList → W4, append_assoc → zaD, getElem?_setIfInBounds_ne → zbd
open PySem.NameKind renaming free → XZ
open Classical renaming propDecidable → X8
open True renaming intro → YL
open PySem.Obj renaming mapFields → YQ, data_mapFields → YR, mapSeq → ZH, isFreed_of_fields → zam, cls_mapFields → zaU
open ForInStep renaming yield → Y3
open ToString renaming toString → Y5
open PySem.F renaming plain_max_loop → Y6, slot_dict_keyiterator_next → zai, slot_tuple_iterator_next → zaq, slot_enumerate_next → zas, slot_tuple_add → zaI, entry_tuple_add → zaJ, args_tuple_add_2 → zaK, entry_dict_keyiterator_next → za5, args_dict_keyiterator_next_1 → za6, entry_tuple_iterator_next → za8, args_tuple_iterator_next_1 → za9, attrBase_ValueError → zbe
open PySem.SeqAt renaming EqAt → ZF
open Sum.inr renaming inj → ZU
open PySem.Paired renaming length → ZV
open PySem.Builtin.Str renaming occurrences → Z3
open PySem.Builtin.Slice renaming slicePlaces → Z7, sliceAdjust → zaL
open PySem.Builtin.Tuple renaming tupleExact → zaa
open PySem.Heap.SameBut renaming update → zan
open PySem.Builtin.SmallTypes renaming nextOf → zap, ownedTupleIsFree → zba, ownedTupleHandOut → zbb
open Subtype renaming val → zaA
open PySem.Builtin.List renaming listTooLong → zaN
open PySem.Builtin.Dict_items renaming ownsTuple → za7
open PySem.Builtin.Builtins renaming bindParams → zbc
noncomputable section
namespace L2
open PySem PySem.Spec PyProof.Rows
abbrev Key:=Sum Int Str
def t2:Key->Value->Bool
 | .inl k,v=>Value.isInt k v
 | .inr x,v=>Value.isStrOf x v
def SJ(w:World):Key->Int
 | .inl k=>hashInt k
 | .inr x=>X2 w x
theorem bZ:∀ {k:Key} {v:Value},t2 k v=true->(∃i t,k=XR i/\v=Value.int i t)\/(∃x t,k=WL x/\v=Value.str x t)
 | .inl i,v,h=>by
  obtain⟨t,e⟩:=Value.isInt_shape (k:=i) (v:=v) h;exact .inl ⟨i,t,rfl,e⟩
 | .inr x,v,h=>by
  obtain⟨t,e⟩:=Value.isStrOf_shape (x:=x) (v:=v) h;exact .inr ⟨x,t,rfl,e⟩
theorem A5(i:Int)(t:Tok):t2 (.inl i) (.int i t)=true:=by simp[t2,Value.isInt]
theorem nJ(x:Str)(t:Tok):t2 (.inr x) (.str x t)=true:=by simp[t2,Value.isStrOf]
theorem MB(a b:Int):decide ((XR a:Key)=XR b)=(a == b):=by
 by_cases e:a=b
 ·subst e;simp
 ·have h:¬ (XR a:Key)=XR b:=λq=>e (Sum.inl.inj q)
  rw[decide_eq_false h];exact(beq_eq_false_iff_ne.mpr e).symm
theorem M5(a b:Str):decide ((WL a:Key)=WL b)=decide (a=b):=by
 by_cases e:a=b
 ·subst e;simp
 ·have h:¬ (WL a:Key)=WL b:=λq=>e (ZU q)
  rw[decide_eq_false h,decide_eq_false e]
theorem M8(a:Int)(b:Str):decide ((XR a:Key)=WL b)=false:=decide_eq_false (λq=>nomatch q)
theorem LR(a:Str)(b:Int):decide ((WL a:Key)=XR b)=false:=decide_eq_false (λq=>nomatch q)
def bK(prog:U7)(w:World):PySem.KeyKind prog w Key where
 is:=t2
 hash:=SJ w
 inj:=λv a b J z=>by
  rcases bZ J with⟨i,t,rfl,rfl⟩|⟨x,t,rfl,rfl⟩
  ·rcases bZ z with⟨j,u,rfl,e⟩|⟨y,u,rfl,e⟩
   ·injection e with e1 _;rw[e1]
   ·exact nomatch e
  ·rcases bZ z with⟨j,u,rfl,e⟩|⟨y,u,rfl,e⟩
   ·exact nomatch e
   ·injection e with e1 _;rw[e1]
 byValue:=λk v h=>by
  rcases bZ h with⟨i,t,rfl,rfl⟩|⟨x,t,rfl,rfl⟩ <;> rfl
 pyHash:=λq h=>by
  rcases bZ q with⟨i,t,rfl,rfl⟩|⟨x,t,rfl,rfl⟩
  ·exact wpAny_pyHash_int h
  ·exact wpAny_pyHash_str h
 eqBool:=λG q h=>by
  rcases bZ G with⟨i,t,rfl,rfl⟩|⟨x,t,rfl,rfl⟩
  ·rcases bZ q with⟨j,u,rfl,rfl⟩|⟨y,u,rfl,rfl⟩
   ·rw[MB]at h;exact wpAny_eqBool_int h
   ·rw[M8]at h;exact SeqAt.EqAt.int_str i t y u _ _ _ _ h
  ·rcases bZ q with⟨j,u,rfl,rfl⟩|⟨y,u,rfl,rfl⟩
   ·rw[LR]at h;exact SeqAt.EqAt.str_int x t j u _ _ _ _ h
   ·rw[M5]at h;exact wpAny_eqBool_str h
 «strs»:=λk x t v h=>by
  rcases bZ h with⟨i,u,rfl,e⟩|⟨y,u,rfl,e⟩
  ·exact nomatch e
  ·injection e with e1 _
   subst e1;cases v <;> rfl
theorem vU(prog:U7)(w:World)(i:Int)(t:Tok):(bK prog w).is (.inl i) (.int i t)=true:=A5 i t
theorem vW(prog:U7)(w:World)(x:Str)(t:Tok):(bK prog w).is (.inr x) (.str x t)=true:=nJ x t
inductive V where
 | non|bl (b:Bool)|int (i:Int)|str (x:Str)|byt (b:Array UInt8)|flt (b:UInt64)|ref (a:Addr)|ty (n:String)
 deriving DecidableEq
noncomputable def RelV:V->Value->Prop
 | .non,u=>u=V8
 | .bl b,u=>u=X3 b
 | .int i,u=>∃t,u=Value.int i t
 | .str x,u=>∃t,u=Value.str x t
 | .byt b,u=>∃t,u=Value.bytes b t
 | .flt b,u=>∃t,u=Value.float b t
 | .ref a,u=>u=VT a
 | .ty n,u=>u=Value.type n
abbrev Vals:List V->List Value->Prop:=Paired RelV
theorem Vals.length(r:Vals xs us):xs.length=us.length:=ZV r
theorem Vals.get:∀ {xs:List V} {us:List Value} {i:Nat} {x:V},Vals xs us->xs[i]?=some x->∃u,us[i]?=some u/\RelV x u
 | _,_,_,_,.nil,e=>by simp at e
 | _,_,0,_,.cons r _,e=>by simp at e;subst e;exact⟨_,rfl,r⟩
 | _,_,i+1,x,.cons _ t,e=>by
  obtain⟨u,h1,h2⟩:=Vals.get (i:=i) (x:=x) t (by simpa using e);exact⟨u,by simpa using h1,h2⟩
theorem Vals.set(r:RelV x u):∀ {xs:List V} {us:List Value} (i:Nat),Vals xs us->Vals (xs.set i x) (us.set i u)
 | _,_,_,.nil=>.nil
 | _,_,0,.cons _ t=>.cons r t
 | _,_,i+1,.cons q t=>.cons q (Vals.set r i t)
theorem Vals.append:∀ {xs ys:List V} {us ws:List Value},Vals xs us->Vals ys ws->Vals (xs++ys) (us++ws)
 | _,_,_,_,.nil,s=>s
 | _,_,_,_,.cons r t,s=>.cons r (Vals.append t s)
theorem Vals.take:∀ {xs:List V} {us:List Value} (n:Nat),Vals xs us->Vals (xs.take n) (us.take n)
 | _,_,0,_=>.nil
 | _,_,_+1,.nil=>.nil
 | _,_,n+1,.cons r t=>.cons r (Vals.take n t)
theorem Vals.drop:∀ {xs:List V} {us:List Value} (n:Nat),Vals xs us->Vals (xs.drop n) (us.drop n)
 | _,_,0,r=>r
 | _,_,_+1,.nil=>.nil
 | _,_,n+1,.cons _ t=>Vals.drop n t
def RelO:Option V->Option Value->Prop
 | some v,some u=>RelV v u
 | none,none=>True
 | _,_=>False
def KV{κ:Type}:List (κ×V)->List (κ×Value)->Prop:=Paired λ(p:κ×V) (q:κ×Value)=>p.1=q.1/\RelV p.2 q.2
def kV:Key->V
 | .inl i=>.int i
 | .inr x=>.str x
inductive HO where
 /-- a list -/
 | lst (xs:List V)
 /-- a tuple (never changes) -/
 | tup (xs:List V)
 /-- a dict whose keys are ints and texts;one whose keys are tuples of ints and texts (the empty one is both) -/
 | dK (kvs:List (Key×V))|dT (kvs:List (List Key×V))
 /-- a set of ints: its members, its size -/
 | set (S:Int->Bool) (n:Nat)
 /-- an instance of the class at C, its dict at dx, its attributes -/
 | ins (C dx:Addr) (fs:List (Str×V))
 /-- the dict of the instance at x -/
 | own (x:Addr)
 /-- the dict of an exception -/
 | xd (fs:List (Str×V))
 /-- a bound method, f of x -/
 | met (f x:Addr)
 /-- a range object lo, lo+1, .. below hi -/
 | rng (lo hi:Int)
 /-- a thing that is known to the object (the script;a dict while a loop walks it): read, never written while it is so -/
 | frz (o:Obj) (u:HO)
 /-- a code object's table -/
 | tbl (ps:Array Value)
 /-- any other thing, by what is true of its one object (a def of one's own: SetO a S n:=HO.ext λh => ..) -/
 | ext (φ:Heap->Prop)
abbrev Hp:=Addr->Option HO
def upd(H:Hp)(a:Addr)(o:HO):Hp:=λb=>if b=a then some o else H b
theorem aT:upd H a o a=some o:=by unfold upd;rw[if_pos rfl]
theorem aO(h:b≠a):upd H a o b=H b:=by unfold upd;rw[if_neg h]
theorem P0{H:Hp}{a b:Addr}{o u:HO}(h:H a=some o)(h':H b=some u)(d:o≠u):a≠b:=by
 intro e;subst e;rw[h]at h';exact d (VX h')
theorem bP{H:Hp}{a b:Addr}{o:HO}(h:H a=some o)(h':H b=none):a≠b:=by
 intro e;subst e;rw[h]at h';cases h'
section
variable (P:U7)(w:World)
def IsTupN(h:Heap)(a:Addr)(items:Array Value):Prop:=∃o,h.get? a=some o/\o.cls=.type "tuple" /\ ∃n,o.data=.seq items n/\o.dict=none
theorem IsTupN.tup{h:Heap}{a:Addr}{items:Array Value}(x:IsTupN h a items):IsTup h a items:=let ⟨o,e,c,n,d,_⟩:=x;⟨o,e,c,n,d⟩
theorem IsTupN.lt(x:IsTupN h a items):a<h.objs.size:=x.tup.lt
theorem IsTupN.new(h:Heap)(items:Array Value):IsTupN (h.push {cls:=.type "tuple",data:=.seq items}) h.objs.size items:=⟨_,V3 _ rfl,rfl,_,rfl,rfl⟩
def ObjOk(H:Hp)(h:Heap)(a:Addr):HO->Prop
 | .lst xs=>xs.length<=VA/\∃(its:List Value) (n:Nat),Vals xs its/\h.get? a=some {cls:=.type "list",data:=.seq its.toArray n}
 | .tup xs=>xs.length<=VA/\∃its:List Value,Vals xs its/\IsTupN h a its.toArray
 | .dK kvs=>kvs.length<=VA/\(a == XA)=false/\∃vs,KV kvs vs/\h.DictOf (bK P w) a vs
 | .dT kvs=>kvs.length<=VA/\(a == XA)=false/\∃xs:List (List Key×Addr×Value),
   Paired (λ(p:List Key×V) (q:List Key×Addr×Value)=>p.1=q.1/\H q.2.1=some (.tup (p.1.map kV))/\RelV p.2 q.2.2) kvs xs /\
   ∃o es ep,h.get? a=some o/\o.ExactDict/\o.data=.dict es ep/\es.toList=xs.map (entryOfKey (X4 (bK P w)))/\(xs.map (·.1)).Nodup
 | .set S n=>h.SetOf (intKind P w) a S n
 | .ins C dx fs=>H dx=some (.own a)/\fs.length<=1000/\dx≠a/\h.get? a=some (PySem.W.instObj C dx) /\
   ∃mA,h.Ns1 dx mA/\(∀f,RelO (fs.lookup f) (mA f))/\PySem.Within mA (fs.map (·.1))
 | .own _=>∃o,h.get? a=some o
 | .xd fs=>∃mA,h.Ns1 a mA/\∀f,RelO (fs.lookup f) (mA f)
 | .rng lo hi=>∃t u v,h.get? a=some {cls:=.type "range",data:=.fields #[.int lo t,.int hi u,.int 1 v]}
 | .frz o u=>h.get? a=some o/\ObjOk H h a u
 | .tbl ps=>h.get? a=some {cls:=.none,data:=.fields ps}
 | .met f x=>h.get? a=some (zaC (.ref f) (.ref x))
 | .ext φ=>φ h/\(∃o,h.get? a=some o)/\∀h1 h2:Heap,φ h1->(∀o,h1.get? a=some o->h2.get? a=some o)->φ h2
def HOk(H:Hp)(h:Heap):Prop:=∀a o,H a=some o->ObjOk P w H h a o
end
section
variable {P:U7}{w:World}{H H':Hp}{h h':Heap}{a:Addr}{o:HO}
theorem ObjOk.lt(x:ObjOk P w H h a o):a<h.objs.size:=by
 cases o with
 | lst xs=>obtain⟨_,_,_,_,e⟩:=x;exact VE e
 | tup xs=>obtain⟨_,_,_,p⟩:=x;exact p.lt
 | dK kvs=>obtain⟨_,_,_,_,o,_,_,e,_⟩:=x;exact VE e
 | dT kvs=>obtain⟨_,_,_,_,o,_,_,e,_⟩:=x;exact VE e
 | set S n=>obtain⟨o,_,_,_,e,_⟩:=x;exact VE e
 | ins C dx fs=>obtain⟨_,_,_,e,_⟩:=x;exact VE e
 | own y=>obtain⟨_,e⟩:=x;exact VE e
 | xd fs=>obtain⟨_,⟨_,_,_,e,_⟩,_⟩:=x;exact VE e
 | rng lo hi=>obtain⟨_,_,_,e⟩:=x;exact VE e
 | frz ob u=>obtain⟨e,_⟩:=x;exact VE e
 | tbl ps=>exact VE (show h.get? a=some _ from x)
 | met f y=>exact VE (show h.get? a=some _ from x)
 | ext φ=>obtain⟨_,⟨_,e⟩,_⟩:=x;exact VE e
theorem Paired.mapP{z q:Type}{F G:z->q->Prop}:∀ {l₁:List z} {l₂:List q},Paired F l₁ l₂->(∀a b,F a b->G a b)->Paired G l₁ l₂
 | _,_,.nil,_=>.nil
 | _,_,.cons r t,f=>.cons (f _ _ r) (Paired.mapP t f)
theorem ObjOk.stay(x:ObjOk P w H h a o)(k:∀b u,(b=a\/H b=some (.own a))->h.get? b=some u->h'.get? b=some u)
  (N:∀b,H b=some (.own a)->H' b=some (.own a)) (U:∀b xs,H b=some (.tup xs)->H' b=some (.tup xs)):ObjOk P w H' h' a o:=by
 induction o with
 | lst xs=>obtain⟨z,G,n,r,e⟩:=x;exact⟨z,G,n,r,k _ _ (.inl rfl) e⟩
 | tup xs=>obtain⟨z,G,r,ob,e,c⟩:=x;exact⟨z,G,r,ob,k _ _ (.inl rfl) e,c⟩
 | dK kvs=>obtain⟨z,y,vs,r,ob,es,ep,e,c⟩:=x;exact⟨z,y,vs,r,ob,es,ep,k _ _ (.inl rfl) e,c⟩
 | dT kvs=>
  obtain⟨z,y,xs,r,ob,es,ep,e,c⟩:=x;exact⟨z,y,xs,Paired.mapP r λp q z=>⟨z.1,U _ _ z.2.1,z.2.2⟩,ob,es,ep,k _ _ (.inl rfl) e,c⟩
 | set S n=>obtain⟨ob,es,ep,t,e,c⟩:=x;exact⟨ob,es,ep,t,k _ _ (.inl rfl) e,c⟩
 | ins C dx fs=>
  obtain⟨d,z,J,e,mA,⟨od,es,ep,W,c⟩,r⟩:=x;exact⟨N _ d,z,J,k _ _ (.inl rfl) e,mA,⟨od,es,ep,k _ _ (.inr d) W,c⟩,r⟩
 | own y=>obtain⟨ob,e⟩:=x;exact⟨ob,k _ _ (.inl rfl) e⟩
 | xd fs=>obtain⟨mA,⟨od,es,ep,e,c⟩,r⟩:=x;exact⟨mA,⟨od,es,ep,k _ _ (.inl rfl) e,c⟩,r⟩
 | rng lo hi=>obtain⟨t,u,v,e⟩:=x;exact⟨t,u,v,k _ _ (.inl rfl) e⟩
 | frz ob u ih=>obtain⟨e,q⟩:=x;exact⟨k _ _ (.inl rfl) e,ih q⟩
 | tbl ps=>
  have e:h.get? a=some {cls:=.none,data:=.fields ps}:=x;show h'.get? a=some {cls:=.none,data:=.fields ps};exact k a _ (.inl rfl) e
 | met f y=>
  have e:h.get? a=some (zaC (.ref f) (.ref y)):=x;show h'.get? a=some (zaC (.ref f) (.ref y));exact k a _ (.inl rfl) e
 | ext φ=>obtain⟨p,⟨o,e⟩,st⟩:=x;exact⟨st _ _ p λo q=>k _ _ (.inl rfl) q,⟨o,k _ _ (.inl rfl) e⟩,st⟩
theorem HOk.lt(x:HOk P w H h)(e:H a=some o):a<h.objs.size:=(x a o e).lt
theorem HOk.fresh(x:HOk P w H h)(e:h.objs.size<=a):H a=none:=by
 cases q:H a with
 | none=>rfl
 | some u=>exact absurd (V9 (x.lt q) e) (XB _)
theorem HOk.kept(x:HOk P w H h)(k:∀b u,h.get? b=some u->h'.get? b=some u):HOk P w H h':=λa o e=>
 (x a o e).stay (λb u _ q=>k b u q) (λ_ q=>q) λ_ _ q=>q
theorem HOk.laid(x:HOk P w H h)(k:∀b u,h.get? b=some u->h'.get? b=some u)(J:h.objs.size<=a)(new:ObjOk P w (upd H a o) h' a o):HOk P w (upd H a o) h':=λb u e=>by
 have z:=x.fresh J;by_cases G:b=a
 ·subst G;rw[aT]at e;cases e;exact new
 ·rw[aO G]at e
  exact(x b u e).stay (λc v _ q=>k c v q) (λc q=>by rw[aO (bP q z)];exact q) λc xs q=>by rw[aO (bP q z)];exact q
end
def Rd(H:Hp)(a:Addr)(u:HO):Prop:=H a=some u\/∃o,H a=some (.frz o u)
theorem Rd.of(h:H a=some u):Rd H a u:=.inl h
theorem Rd.ok(r:Rd H a u)(x:HOk P w H h):ObjOk P w H h a u:=by
 rcases r with r|⟨o,r⟩
 ·exact x a u r
 ·obtain⟨_,q⟩:=x a _ r
  exact q
def RG:Option HO->Prop
 | some (.lst _)=>True
 | some (.dK _)=>True
 | some (.dT _)=>True
 | some (.set _ _)=>True
 | some (.ins _ _ _)=>True
 | some (.ext _)=>True
 | _=>False
section
variable {P:U7}{w:World}{H:Hp}{h h':Heap}{x e:Addr}{o':HO}
theorem HOk.write(ok:HOk P w H h)(U:RG (H x))(he:e=x\/H e=some (.own x))(k:∀b u,b≠e->h.get? b=some u->h'.get? b=some u)(aa:∃u,h'.get? e=some u)
  (new:ObjOk P w (upd H x o') h' x o'):HOk P w (upd H x o') h':=λb u q=>by
 have J:∀c y,H c=some (.own y)->c≠x:=λc y r z=>by subst z;rw[r]at U;exact U
 have N:∀c xs,H c=some (.tup xs)->c≠x:=λc xs r z=>by subst z;rw[r]at U;exact U
 by_cases W:b=x
 ·subst W;rw[aT]at q;cases q;exact new
 ·rw[aO W]at q
  by_cases G:b=e
  ·have q':H b=some (.own x):=by
    rcases he with z|z
    ·exact absurd (G.trans z) W
    ·rw[G];exact z
   rw[q]at q';cases q';obtain⟨v,hv⟩:=aa;exact⟨v,by rw[G];exact hv⟩
  ·refine(ok b u q).stay (λc v Y r=>k c v ?_ r) (λc r=>by rw[aO (J c b r)];exact r) λc xs r=>by rw[aO (N c xs r)];exact r
   rcases Y with rfl|Y
   ·exact G
   ·rintro rfl
    rcases he with z|z
    ·exact J c b Y z
    ·rw[Y]at z;cases z;exact W rfl
end
structure Un(fs ex:List Addr)(H H':Hp)(h h':Heap):Prop where
 keep:∀b o,h.get? b=some o->H b=none->b∉fs->b∉ex->h'.get? b=some o
 slot:∀b o,h.get? b=some o->H b=none->b∈fs->b∉ex->∃sl,h'.get? b=some {o with slots:=sl}
 free:∀b o,h.get? b=some o->H b=none->b∉ex->H' b=none
 there:∀b o,h.get? b=some o->b∉ex->∃o',h'.get? b=some o'
 tups:∀b xs,H b=some (.tup xs)->H' b=some (.tup xs)
 frzs:∀b o u,H b=some (.frz o u)->H' b=some (.frz o u)
 tbls:∀b ps,H b=some (.tbl ps)->∃more,H' b=some (.tbl (ps++more))
section
variable {fs fs' ex ex':List Addr}{H H1 H2:Hp}{h h1 h2 h':Heap}{a x e:Addr}{o:HO}
theorem Un.any(u:Un fs ex H H1 h h1)(q:h.get? b=some ob)(n:H b=none)(G:b∉ex):∃J,h1.get? b=some {ob with slots:=J}:=by
 by_cases z:b∈fs
 ·exact u.slot b ob q n z G
 ·exact⟨ob.slots,u.keep b ob q n z G⟩
theorem Un.trans(a:Un fs ex H H1 h h1)(b:Un fs ex H1 H2 h1 h2):Un fs ex H H2 h h2 where
 keep:=λc ob q n J z=>b.keep c ob (a.keep c ob q n J z) (a.free c ob q n z) J z
 slot:=λc ob q n J z=>by
  obtain⟨sl,G⟩:=a.slot c ob q n J z;obtain⟨N,U⟩:=b.slot c _ G (a.free c ob q n z) J z;exact⟨N,U⟩
 free:=λc ob q n z=>by
  obtain⟨o',G⟩:=a.there c ob q z;exact b.free c o' G (a.free c ob q n z) z
 there:=λc ob q z=>by
  obtain⟨o',G⟩:=a.there c ob q z;exact b.there c o' G z
 tups:=λc xs q=>b.tups c xs (a.tups c xs q)
 frzs:=λc ob xs q=>b.frzs c ob xs (a.frzs c ob xs q)
 tbls:=λc ps q=>by
  obtain⟨W,G⟩:=a.tbls c ps q;obtain⟨Y,U⟩:=b.tbls c _ G;exact⟨W++Y,by rw[U,zaD]⟩
theorem Un.kept(k:∀b u,h.get? b=some u->h'.get? b=some u):Un fs ex H H h h':=
 ⟨λb ob q _ _ _=>k b ob q,λb ob q _ _ _=>⟨ob.slots,k b ob q⟩,λ_ _ _ n _=>n,λb ob q _=>⟨ob,k b ob q⟩,λ_ _ q=>q,λ_ _ _ q=>q,λ_ ps q=>⟨#[],by rw[q];simp⟩⟩
theorem Un.refl:Un fs ex H H h h:=Un.kept λ_ _ q=>q
theorem Un.laid(k:∀b u,h.get? b=some u->h'.get? b=some u)(G:h.objs.size<=a)(z:H a=none):Un fs ex H (upd H a o) h h' where
 keep:=λb u q _ _ _=>k b u q
 slot:=λb u q _ _ _=>⟨u.slots,k b u q⟩
 free:=λb u q n _=>by rw[aO (VY (V9 (VE q) G))];exact n
 there:=λb u q _=>⟨u,k b u q⟩
 tups:=λb xs q=>by rw[aO (bP q z)];exact q
 frzs:=λb u xs q=>by rw[aO (bP q z)];exact q
 tbls:=λb ps q=>⟨#[],by rw[aO (bP q z),q];simp⟩
theorem Un.write(J:RG (H x))(he:e=x\/H e=some (.own x))(k:∀b u,b≠e->h.get? b=some u->h'.get? b=some u)(U:∃u,h'.get? e=some u):Un fs ex H (upd H x o) h h':=by
 have Y:∀b,H b=none->b≠x:=λb n z=>by subst z;rw[n]at J;exact J
 have W:∀b,H b=none->b≠e:=λb n z=>by
  subst z;rcases he with r|r
  ·exact Y b n r
  ·rw[n]at r;cases r
 have N:∀b u,H b=some u->¬ RG (some u)->b≠x:=λb u q nm z=>by subst z;rw[q]at J;exact nm J
 refine⟨λb u q n _ _=>k b u (W b n) q,λb u q n _ _=>⟨u.slots,k b u (W b n) q⟩,λb u q n _=>by rw[aO (Y b n)];exact n,λb u q _=>?_,
  λb xs q=>by rw[aO (N b _ q λz=>z)];exact q,λb u xs q=>by rw[aO (N b _ q λz=>z)];exact q,λb ps q=>⟨#[],by rw[aO (N b _ q λz=>z),q];simp⟩⟩
 by_cases G:b=e
 ·subst G;exact U
 ·exact⟨u,k b u G q⟩
theorem Un.mono(u:Un fs ex H H1 h h1)(hs:∀b∈fs,b∈fs')(J:∀b∈ex,b∈ex'):Un fs' ex' H H1 h h1:=
 ⟨λb ob q n N G=>u.keep b ob q n (λz=>N (hs b z)) λz=>G (J b z),λ_ _ q n _ G=>u.any q n λz=>G (J _ z),λb ob q n G=>u.free b ob q n λz=>G (J b z),λb ob q G=>u.there b ob q λz=>G (J b z),u.tups,u.frzs,u.tbls⟩
end
def RJ(h:Heap)(H:Hp):List Addr:=(VO h.objs.size).filter λa=>(H a).isSome
def vM(h:Heap)(H:Hp):Heap:=PySem.W.hideAll h (RJ h H)
theorem CF(h:Heap)(H:Hp):(vM h H).objs.size=h.objs.size:=PySem.W.hideAll_size _ _
theorem DO(e:h.get? b=some o)(n:H b=none):(vM h H).get? b=some o:=
 PySem.W.hideAll_get _ e λz=>by
  have q:(H b).isSome=true:=(List.mem_filter.mp z).2;rw[n]at q;simp at q
theorem GP(e:(vM h H).get? b=some o):h.get? b=some o/\H b=none:=by
 have G:h.get? b=some o:=PySem.W.of_hideAll (RJ h H) e;refine⟨G,?_⟩;cases q:H b with
 | none=>rfl
 | some x=>
  have J:b∈RJ h H:=List.mem_filter.mpr ⟨List.mem_range.mpr (VE G),by simp[q]⟩;have z:(vM h H).get? b=none:=PySem.W.hideAll_none (RJ h H) J;rw[z]at e;cases e
noncomputable def HZ(g h:Heap)(L:Addr):List (Addr×Obj):=(VO h.objs.size).filterMap λa=>if a=L\/(g.get? a).isSome=true then none else(h.get? a).map λo=>(a,o)
def rest(g h:Heap)(L d:Addr):List (Addr×Obj):=(HZ g h L).filter λp=>decide (p.1≠d)
structure Mod(K:U3)(mg:Str->Option Value)(base:Heap):Prop where
 kin:K.In base
 glob:base.Ns VQ mg
 blt:∃mb,base.Ns builtinsNs mb/\∀x:Str,x ≠ "__name__" -> mb x=V5 x
 nolimit:base.NoLimit
structure Cx where
 prog:U7
 w:World
 K:U3
 mg:Str->Option Value
 base:Heap
 A:VC
 N:List Str
 s₀:U2
 H₀:Hp
 env:Env
 outer:List Env
 stack:List Env
 ex:List Addr
 fn:Str->Bool
 calm:Bool
 pn:List (Addr×Obj)
 xe:Value->U2->Prop
noncomputable def frs(l:List Env):List Addr:=l.filterMap (·.frame)
abbrev Cx.fs(X:Cx):List Addr:=frs X.outer
def GL(sc:Scope)(x:Str):Prop:=sc.names.lookup x=some .local\/sc.names.lookup x=some .cell\/sc.names.lookup x=some .free
def Loc(sc:Scope)(x:Str):Prop:=sc.names.lookup x=some .local\/sc.names.lookup x=some .cell
def Look(env:Env)(h:Heap)(m:Str->Option Value)(x:Str)(u:Value):Prop:=
 (env.kindOf x=some .local/\m x=some u)\/((env.kindOf x=some .cell\/env.kindOf x=some .free)/\∃c,env.cells.lookup x=some c/\h.IsCell c (some u))
structure Cx.Ok(X:Cx):Prop where
 mod:Mod X.K X.mg X.base
 kind:X.env.scope.kind=.function
 glob:X.env.globals=VQ
 blt:X.env.builtins=builtinsNs
 above:X.s₀.heap.objs.size<=X.env.locals
 inj:∀x y c,X.env.cells.lookup x=some c->X.env.cells.lookup y=some c->x=y
 has:∀x,(X.env.kindOf x=some .cell\/X.env.kindOf x=some .free)->∃c,X.env.cells.lookup x=some c
 cab:∀x c,X.fn x=true->X.env.cells.lookup x=some c->X.s₀.heap.objs.size<=c
 hd:X.calm=true->X.A.handled=none
 frames:X.A.frames=some X.stack
 stk:X.stack=X.outer\/(X.stack=X.env::X.outer/\X.env.frame=some X.env.locals)
 exf:∀b∈X.ex,b≠X.env.locals/\∀x c,X.env.cells.lookup x=some c->c≠b
 bs:∀b o,X.base.get? b=some o->X.s₀.heap.get? b=some o/\X.H₀ b=none
 bsz:X.base.objs.size<=X.s₀.heap.objs.size
 noex:∀b o,X.base.get? b=some o->b∉X.ex
 exfs:∀b∈X.ex,b∉X.fs
 funs:X.s₀.heap.FunFrames X.base X.outer
 frf:∀b∈X.fs,X.H₀ b=none
structure Inv(X:Cx)(pins:List (Addr×Obj))(σ:List (Option V))(H:Hp)(s:U2):Prop where
 ok:X.Ok
 os:s.os=X.s₀.os
 bare:XC s.gens
 base:Un X.fs X.ex X.H₀ H X.s₀.heap s.heap
 loc:∃m,s.heap.Ns X.env.locals m/\∀(i:Nat) (x:Str) (v:V),X.N[i]?=some x->σ[i]?=some (some v)->GL X.env.scope x->∃u,RelV v u/\Look X.env s.heap m x u
 cell:∀x c,X.env.cells.lookup x=some c->∃v,s.heap.IsCell c v
 free:H X.env.locals=none
 freeC:∀x c,X.env.cells.lookup x=some c->H c=none
 pin:∀p∈X.pn++pins,s.heap.get? p.1=some p.2/\H p.1=none/\p.1≠X.env.locals/\p.1∉X.fs/\∀v,p.2.data≠.cell v
 hok:HOk X.prog X.w H s.heap
 len:σ.length=X.N.length
section
variable {X:Cx}{pins:List (Addr×Obj)}{σ:List (Option V)}{H H':Hp}{s:U2}{h':Heap}
theorem Cx.Ok.nofr(ok:X.Ok)(e:X.base.get? b=some o):b∉X.fs:=λq=>by
 have:=(ok.funs.mem q).1;rw[e]at this;cases this
theorem Inv.bs(I:Inv X pins σ H s):∀b o,X.base.get? b=some o->s.heap.get? b=some o/\H b=none:=λb o e=>
 ⟨I.base.keep b o (I.ok.bs b o e).1 (I.ok.bs b o e).2 (I.ok.nofr e) (I.ok.noex b o e),I.base.free b o (I.ok.bs b o e).1 (I.ok.bs b o e).2 (I.ok.noex b o e)⟩
theorem Inv.bk(I:Inv X pins σ H s):∀b o,X.base.get? b=some o->s.heap.get? b=some o:=λb o e=>(I.bs b o e).1
theorem Inv.mod(I:Inv X pins σ H s):Mod X.K X.mg X.base:=I.ok.mod
theorem Inv.kIn(I:Inv X pins σ H s):X.K.In s.heap:=I.ok.mod.kin.keeps I.bk
theorem Inv.lt(I:Inv X pins σ H s):X.env.locals<s.heap.objs.size:=let ⟨_,hn,_⟩:=I.loc;hn.lt
theorem Inv.sz(I:Inv X pins σ H s):X.s₀.heap.objs.size<=s.heap.objs.size:=WC I.ok.above (Nat.le_of_lt I.lt)
theorem Inv.nofs(I:Inv X pins σ H s)(h:s.heap.objs.size<=a):a∉X.fs:=λq=>by
 obtain⟨_,o,z,_⟩:=I.ok.funs.mem q;exact absurd (V9 (VE z) (WC I.sz h)) (XB _)
theorem Inv.cne(I:Inv X pins σ H s):∀x c,X.env.cells.lookup x=some c->c≠X.env.locals:=λx c e z=>by
 obtain⟨v,o,J,N⟩:=I.cell x c e;obtain⟨m,⟨o',es,ep,q,G,_⟩,_⟩:=I.loc;rw[z,q]at J;cases J;rw[G]at N;cases N
theorem Inv.funs(I:Inv X pins σ H s):s.heap.FunFrames X.base X.outer:=by
 have all:∀(l:List Env),(∀b∈frs l,b∈X.fs)->X.s₀.heap.FunFrames X.base l->s.heap.FunFrames X.base l:=by
  intro l;induction l with
  | nil=>intro _ _;trivial
  | cons env r ih=>
   intro hs W;obtain⟨U,⟨L,o,q,N,Y,hd⟩,hr⟩:=W;have G:L∈X.fs:=hs L (by unfold frs;rw[zaE,q];exact VR);obtain⟨sl,e⟩:=I.base.slot L o Y (I.ok.frf L G) G λz=>I.ok.exfs L z G
   exact⟨U,⟨L,_,q,N,e,hd⟩,ih (λb J=>hs b (by unfold frs;rw[zaE,q];exact VW _ J)) hr⟩
 exact all X.outer (λ_ J=>J) I.ok.funs
theorem Inv.stack(I:Inv X pins σ H s):s.heap.FunFrames X.base X.stack:=by
 rcases I.ok.stk with e|⟨e,q⟩
 ·rw[e];exact I.funs
 ·rw[e]
  obtain⟨m,z,_⟩:=I.loc;refine .cons (by rw[I.ok.kind];decide) q z ?_ I.funs;exact ZW (WC I.ok.bsz I.ok.above)
theorem Inv.stkSub(I:Inv X pins σ H s):∀b∈frs X.stack,b∈X.env.locals::X.fs:=λb q=>by
 rcases I.ok.stk with e|⟨e,z⟩
 ·rw[e]at q;exact VW _ q
 ·rw[e]at q
  unfold frs at q;rw[zaE,z]at q;exact q
theorem Inv.stkFree(I:Inv X pins σ H s):∀b∈frs X.stack,H b=none:=λb q=>by
 rcases List.mem_cons.mp (I.stkSub b q)with e|q
 ·rw[e];exact I.free
 ·obtain⟨_,o,G,_⟩:=I.ok.funs.mem q
  exact I.base.free b o G (I.ok.frf b q) λz=>I.ok.exfs b z q
theorem Inv.step{g':Array GenState}{t':Nat}{d':Drawn}{ch:List Addr}(I:Inv X pins σ H s)
  (J:∀b∈ch,(b∈X.ex\/X.s₀.heap.objs.size<=b)/\b≠X.env.locals/\(∀x c,X.env.cells.lookup x=some c->c≠b)/\∀p∈X.pn++pins,p.1≠b)
  (keep:∀b o,b≠X.env.locals->b∉X.fs->b∉ch->s.heap.get? b=some o->H b=none->h'.get? b=some o)
  (aa:∀b o,b≠X.env.locals->b∈X.fs->b∉ch->s.heap.get? b=some o->H b=none->∃sl,h'.get? b=some {o with slots:=sl}) (free:∀b o,b∉ch->s.heap.get? b=some o->H b=none->H' b=none)
  (there:∀b o,b∉ch->s.heap.get? b=some o->∃o',h'.get? b=some o')
  (ag:∀b xs,H b=some (.tup xs)->H' b=some (.tup xs)) (ah:∀b o u,H b=some (.frz o u)->H' b=some (.frz o u)) (ad:∀b ps,H b=some (.tbl ps)->∃more,H' b=some (.tbl (ps++more)))
  (ns:∀m,s.heap.Ns X.env.locals m->h'.Ns X.env.locals m) (hok:HOk X.prog X.w H' h') (hg:XC g') :
  Inv X pins σ H' {s with heap:=h',gens:=g',drawn:=d',toks:=t'}:=by
 have af:∀b o,X.s₀.heap.get? b=some o->b≠X.env.locals:=λb o e=>VY (V9 (VE e) I.ok.above)
 have Y:∀b o,X.s₀.heap.get? b=some o->b∉X.ex->b∉ch:=λb o e G hb=>by
  rcases(J b hb).1 with z|z
  ·exact G z
  ·exact absurd (V9 (VE e) z) (XB _)
 have N:∀x c,X.env.cells.lookup x=some c->∀v,s.heap.IsCell c v->h'.IsCell c v:=by
  rintro x c e v ⟨o,ho,hd⟩;have U:c∉ch:=λz=>(J c z).2.2.1 x c e rfl
  by_cases hc:c∈X.fs
  ·obtain⟨sl,q⟩:=aa c o (I.cne x c e) hc U ho (I.freeC x c e)
   exact⟨_,q,hd⟩
  ·exact⟨o,keep c o (I.cne x c e) hc U ho (I.freeC x c e),hd⟩
 refine⟨I.ok,I.os,hg,⟨λb o e n hb G=>?_,λb o e n hb G=>?_,λb o e n G=>?_,λb o e G=>?_,λb xs e=>ag b xs (I.base.tups b xs e),λb o xs e=>ah b o xs (I.base.frzs b o xs e),λb ps e=>?_⟩,?_,λx c e=>?_,?_,λx c e=>?_,λp hp=>?_,hok,I.len⟩
 ·exact keep b o (af b o e) hb (Y b o e G) (I.base.keep b o e n hb G) (I.base.free b o e n G)
 ·obtain⟨sl,W⟩:=I.base.slot b o e n hb G
  obtain⟨ak,e2⟩:=aa b _ (af b o e) hb (Y b o e G) W (I.base.free b o e n G);exact⟨ak,e2⟩
 ·obtain⟨o',W⟩:=I.base.there b o e G
  exact free b o' (Y b o e G) W (I.base.free b o e n G)
 ·obtain⟨o',W⟩:=I.base.there b o e G
  exact there b o' (Y b o e G) W
 ·obtain⟨m1,W⟩:=I.base.tbls b ps e
  obtain⟨m2,e2⟩:=ad b _ W;exact⟨m1++m2,by rw[e2,zaD]⟩
 ·obtain⟨m,hn,hl⟩:=I.loc
  refine⟨m,ns m hn,λi x v W e2 e3=>?_⟩;obtain⟨u,r,l⟩:=hl i x v W e2 e3;refine⟨u,r,?_⟩;rcases l with l|⟨k,c,e,z⟩
  ·exact .inl l
  ·exact .inr ⟨k,c,e,N x c e _ z⟩
 ·obtain⟨v,z⟩:=I.cell x c e
  exact⟨v,N x c e v z⟩
 ·obtain⟨m,⟨o,_,_,ho,_⟩,_⟩:=I.loc
  exact free _ o (λz=>(J _ z).2.1 rfl) ho I.free
 ·obtain⟨v,o,ho,hd⟩:=I.cell x c e
  exact free c o (λz=>(J c z).2.2.1 x c e rfl) ho (I.freeC x c e)
 ·obtain⟨e,n,ne,nf,d⟩:=I.pin p hp
  have U:p.1∉ch:=λz=>(J p.1 z).2.2.2 p hp rfl
  exact⟨keep p.1 p.2 ne nf U e n,free p.1 p.2 U e n,ne,nf,d⟩
theorem Inv.un{t':Nat}(I:Inv X pins σ H s)(u:Un X.fs [] H H' s.heap h')(hok:HOk X.prog X.w H' h'):Inv X pins σ H' {s with heap:=h',toks:=t'}:=by
 obtain⟨m,⟨o,es,ep,U,r⟩,_⟩:=id I.loc;obtain⟨sl,hL⟩:=u.any U I.free (by simp);exact I.step (g':=s.gens) (d':=s.drawn) (ch:=[]) (λ_ z=>nomatch z) (λb o _ G _ e n=>u.keep b o e n G (by simp)) (λb o _ G _ e n=>u.slot b o e n G (by simp)) (λb o _ e n=>u.free b o e n (by simp)) (λb o _ e=>u.there b o e (by simp)) u.tups u.frzs u.tbls (λm' Y=>by
  obtain⟨o',J,N,q,W⟩:=Y;rw[U]at q;cases q;exact⟨_,J,N,hL,W⟩) hok I.bare
theorem Inv.call{g':Array GenState}{t':Nat}{d':Drawn}{ch:List Addr}(I:Inv X pins σ H s)(u:Un (frs X.stack) ch H H' s.heap h')(hok:HOk X.prog X.w H' h')(hg:XC g')
  (J:∀b∈ch,(b∈X.ex\/X.s₀.heap.objs.size<=b)/\b≠X.env.locals/\(∀x c,X.env.cells.lookup x=some c->c≠b)/\∀p∈X.pn++pins,p.1≠b) :
  Inv X pins σ H' {s with heap:=h',gens:=g',drawn:=d',toks:=t'}:=by
 obtain⟨m,⟨o,es,ep,Y,r⟩,_⟩:=id I.loc;obtain⟨sl,U⟩:=u.any Y I.free λz=>(J _ z).2.1 rfl
 exact I.step (ch:=ch) J (λb o U hb q e n=>u.keep b o e n (λz=>(List.mem_cons.mp (I.stkSub b z)).elim U hb) q) (λb o _ _ q e n=>u.any e n q) (λb o q e n=>u.free b o e n q) (λb o q e=>u.there b o e q) u.tups u.frzs u.tbls (λm' hm=>by
  obtain⟨o',N,W,G,r'⟩:=hm;rw[Y]at G;cases G;exact⟨_,N,W,U,r'⟩) hok hg
theorem Inv.turned{t':Nat}{it:Addr}(I:Inv X pins σ H s)(k:∀b o,b≠it->s.heap.get? b=some o->h'.get? b=some o)(W:H it=none)(N:it≠X.env.locals)
  (h1:it∈X.ex\/X.s₀.heap.objs.size<=it) (h2:∀x c,X.env.cells.lookup x=some c->c≠it) (Y:∀p∈X.pn++pins,p.1≠it):Inv X pins σ H {s with heap:=h',toks:=t'}:=by
 have J:∀b u,H b=some u->b≠it:=λb u e z=>by rw[z,W]at e;cases e
 refine I.step (g':=s.gens) (d':=s.drawn) (ch:=[it]) (λb hb=>?_) (λb o _ _ G e _=>k b o (λz=>G (by simp[z])) e) (λb o _ _ G e _=>⟨o.slots,k b o (λz=>G (by simp[z])) e⟩) (λ_ _ _ _ n=>n)
  (λb o G e=>⟨o,k b o (λz=>G (by simp[z])) e⟩) (λ_ _ e=>e) (λ_ _ _ e=>e) (λb ps e=>⟨#[],by rw[e];simp⟩) (λm U=>?_) (λb u e=>?_) I.bare
 ·have e:b=it:=by simpa using hb
  subst e;exact⟨h1,N,h2,Y⟩
 ·obtain⟨o,es,ep,ho,r⟩:=U
  exact⟨o,es,ep,k _ o (VZ N) ho,r⟩
 ·refine(I.hok b u e).stay (λc v G q=>k c v ?_ q) (λ_ q=>q) λ_ _ q=>q
  rcases G with z|z
  ·rw[z];exact J b u e
  ·exact J c _ z
theorem Inv.tok(I:Inv X pins σ H s)(t:Nat):Inv X pins σ H {s with toks:=t}:=I.un (h':=s.heap) (t':=t) Un.refl I.hok
theorem Inv.kept(I:Inv X pins σ H s)(k:∀b u,s.heap.get? b=some u->h'.get? b=some u):Inv X pins σ H {s with heap:=h',toks:=t'}:=I.un (Un.kept k) (I.hok.kept k)
theorem Inv.laid(I:Inv X pins σ H s)(k:∀b u,s.heap.get? b=some u->h'.get? b=some u)(q:s.heap.objs.size<=a)(new:ObjOk X.prog X.w (upd H a o) h' a o) :
  Inv X pins σ (upd H a o) {s with heap:=h',toks:=t'}:=I.un (Un.laid k q (I.hok.fresh q)) (I.hok.laid k q new)
theorem Inv.write(I:Inv X pins σ H s)(z:RG (H x))(G:e=x\/H e=some (.own x))(k:∀b u,b≠e->s.heap.get? b=some u->h'.get? b=some u)(q:∃u,h'.get? e=some u)
  (new:ObjOk X.prog X.w (upd H x o) h' x o):Inv X pins σ (upd H x o) {s with heap:=h',toks:=t'}:=I.un (Un.write z G k q) (I.hok.write z G k q new)
theorem Inv.pins_of(I:Inv X pins σ H s)(h:∀p∈pins',s.heap.get? p.1=some p.2/\H p.1=none/\p.1≠X.env.locals/\p.1∉X.fs/\∀v,p.2.data≠.cell v):Inv X pins' σ H s:=
 ⟨I.ok,I.os,I.bare,I.base,I.loc,I.cell,I.free,I.freeC,λp q=>(List.mem_append.mp q).elim (λz=>I.pin p (WX _ z)) (h p),I.hok,I.len⟩
theorem qO{N:List Str}(q:N.Nodup){i j:Nat}{x:Str}(a:N[i]?=some x)(b:N[j]?=some x):i=j:=by
 obtain⟨h1,z⟩:=List.getElem?_eq_some_iff.mp a;obtain⟨h2,G⟩:=List.getElem?_eq_some_iff.mp b;exact(ZX q).mp (z.trans G.symm)
theorem sN{M:Model}{A:VC}{E:Value->U2->Prop}{i:Nat}{x:Str}{v:V}{u:Value}{Q:Unit->U2->Prop}(I:Inv X pins σ H s)(hN:X.N.Nodup)(hi:X.N[i]?=some x)(W:Loc X.env.scope x)(r:RelV v u)
  (h:∀s',Inv X pins (σ.set i (some v)) H s'->(∃a,WN a s.heap s'.heap/\(a=X.env.locals\/X.env.cells.lookup x=some a))->Q () s') (hf:X.fn x=true\/X.env.scope.names.lookup x=some .local:=by first|exact .inl rfl|exact .inr rfl|assumption):wpAny M A (storeName X.env x u) Q E s:=by
 obtain⟨m,hn,hl⟩:=id I.loc;have ag:(X.env.scope.kind == .class || (X.env.scope.kind == .module && X.env.locals != X.env.globals))=false:=by rw[I.ok.kind];rfl
 have ac:i<σ.length:=by rw[I.len];exact(List.getElem?_eq_some_iff.mp hi).1
 have cne:=I.cne;have J:∀ {a:Addr} {h':Heap},(∃o,s.heap.get? a=some o/\H a=none)->WN a s.heap h'->HOk X.prog X.w H h':=λ{a h'} ha hs b ob e=>by
  obtain⟨_,_,Y⟩:=ha;refine(I.hok b ob e).stay (λc w' U q=>(hs.2 c ?_).trans q) (λ_ q=>q) λ_ _ q=>q
  rintro rfl;rcases U with rfl|U
  ·rw[Y]at e;cases e
  ·rw[Y]at U;cases U
 rcases W with hk|hk
 ·refine wpAny_storeName_local hk hn (λh' ay hs=>?_) ag
  obtain⟨oL,_,_,ao,_⟩:=id hn;refine h _ ⟨I.ok,I.os,I.bare,⟨λb o e n hb W=>?_,λb o e n hb W=>?_,I.base.free,λb o e W=>?_,I.base.tups,I.base.frzs,I.base.tbls⟩,⟨_,ay,λj y v' G e2 e3=>?_⟩,λy c e=>?_,I.free,I.freeC,λp hp=>?_,J ⟨oL,ao,I.free⟩ hs,by simpa using I.len⟩ ⟨_,hs,.inl rfl⟩
  ·exact(hs.2 b (VY (V9 (VE e) I.ok.above))).trans (I.base.keep b o e n hb W)
  ·obtain⟨sl,G⟩:=I.base.slot b o e n hb W
   exact⟨sl,(hs.2 b (VY (V9 (VE e) I.ok.above))).trans G⟩
  ·obtain⟨o',G⟩:=I.base.there b o e W
   exact⟨o',(hs.2 b (VY (V9 (VE e) I.ok.above))).trans G⟩
  ·by_cases hj:j=i
   ·subst hj
    rw[hi]at G;cases G;rw[ZY ac]at e2;cases e2;exact⟨u,r,.inl ⟨hk,by simp⟩⟩
   ·rw[XD (VZ hj)]at e2
    obtain⟨u',r',q⟩:=hl j y v' G e2 e3;refine⟨u',r',?_⟩;rcases q with⟨k,e⟩|⟨k,c,e,z⟩
    ·refine .inl ⟨k,?_⟩
     have:y≠x:=λe=>hj (qO hN G (e ▸ hi))
     simp[this,e]
    ·exact .inr ⟨k,c,e,z.sameBut hs (cne y c e)⟩
  ·obtain⟨w',z⟩:=I.cell y c e
   exact⟨w',z.sameBut hs (cne y c e)⟩
  ·obtain⟨e,n,ne,nf,d⟩:=I.pin p hp
   exact⟨(hs.2 p.1 ne).trans e,n,ne,nf,d⟩
 ·have af:X.fn x=true:=by
   rcases hf with z|z
   ·exact z
   ·rw[z]at hk;cases hk
  obtain⟨c,U⟩:=I.ok.has x (.inl hk);obtain⟨w',z⟩:=I.cell x c U;refine wpAny_storeName_cell I.ok.kind hk U z (λh' ah hs=>?_);obtain⟨oc,aj,ak⟩:=id z;refine h {s with heap:=h'} ⟨I.ok,I.os,I.bare,⟨λb o e n hb W=>?_,λb o e n hb W=>?_,I.base.free,λb o e W=>?_,I.base.tups,I.base.frzs,I.base.tbls⟩,⟨m,hn.sameBut hs (VZ (cne x c U)),λj y v' G e2 e3=>?_⟩,λy c' e=>?_,I.free,I.freeC,λp hp=>?_,J ⟨oc,aj,I.freeC x c U⟩ hs,by simpa using I.len⟩ ⟨c,hs,.inr U⟩
  ·exact(hs.2 b (VY (V9 (VE e) (I.ok.cab x c af U)))).trans (I.base.keep b o e n hb W)
  ·obtain⟨sl,G⟩:=I.base.slot b o e n hb W
   exact⟨sl,(hs.2 b (VY (V9 (VE e) (I.ok.cab x c af U)))).trans G⟩
  ·obtain⟨o',G⟩:=I.base.there b o e W
   exact⟨o',(hs.2 b (VY (V9 (VE e) (I.ok.cab x c af U)))).trans G⟩
  ·by_cases hj:j=i
   ·subst hj
    rw[hi]at G;cases G;rw[ZY ac]at e2;cases e2;exact⟨u,r,.inr ⟨.inl hk,c,U,ah⟩⟩
   ·rw[XD (VZ hj)]at e2
    obtain⟨u',r',q⟩:=hl j y v' G e2 e3;refine⟨u',r',?_⟩;rcases q with q|⟨k,c',e,z'⟩
    ·exact .inl q
    ·refine .inr ⟨k,c',e,z'.sameBut hs ?_⟩
     rintro rfl;exact hj (qO hN G (I.ok.inj _ _ _ e U ▸ hi))
  ·by_cases ai:c'=c
   ·subst ai;exact⟨_,ah⟩
   ·obtain⟨w2,z2⟩:=I.cell y c' e
    exact⟨w2,z2.sameBut hs ai⟩
  ·obtain⟨e,n,ne,nf,d⟩:=I.pin p hp
   refine⟨(hs.2 p.1 ?_).trans e,n,ne,nf,d⟩;intro q;rw[q,aj]at e;have q':oc=p.2:=VX e;exact d w' (by rw[<- q'];exact ak)
theorem mQ(I:Inv X pins σ H s)(z:X.N.Nodup)(hi:X.N[i]?=some x)(J:Loc X.env.scope x)(r:RelV v u)
  (h:∀s',Inv X pins (σ.set i (some v)) H s'->Q () s') (q:X.fn x=true\/X.env.scope.names.lookup x=some .local:=by first|exact .inl rfl|exact .inr rfl|assumption):wpAny M A (storeName X.env x u) Q E s:=
 sN I z hi J r (λs' G _=>h s' G) q
theorem Inv.call'(I:Inv X pins σ H s)(G:s'.os=s.os)(u:Un (frs X.stack) ch H H' s.heap s'.heap)(hok:HOk X.prog X.w H' s'.heap)(z:XC s'.gens)
  (q:∀b∈ch,(b∈X.ex\/X.s₀.heap.objs.size<=b)/\b≠X.env.locals/\(∀x c,X.env.cells.lookup x=some c->c≠b)/\∀p∈X.pn++pins,p.1≠b):Inv X pins σ H' s':=by
 obtain⟨h',g',d',t',o'⟩:=s';have e:o'=s.os:=G;subst e;exact I.call (g':=g') (t':=t') (d':=d') u hok z q
end
abbrev XK:=Value->Option Addr->Hp->Prop
abbrev St:=List (Option V)
abbrev VK:=V->Hp->Prop
abbrev TE:=St->Hp->VK->Prop
abbrev TT:=St->Hp->(Bool->Hp->Prop)->Prop
abbrev TA:=St->Hp->(List V->Hp->Prop)->Prop
structure Ends where
 nx:St->Hp->Prop
 rt:VK
 bk:St->Hp->Prop:=λ_ _=>False
 ct:St->Hp->Prop:=λ_ _=>False
abbrev TS:=Ends->St->Hp->Prop
inductive EP(X:Cx)(pins:List (Addr×Obj))(σ:St)(Q:VK)(u:Value)(s':U2):Prop
 | mk (v:V) (H':Hp) (i:Inv X pins σ H' s') (r:RelV v u) (q:Q v H'):EP X pins σ Q u s'
inductive TP(X:Cx)(pins:List (Addr×Obj))(σ:St)(Q:Bool->Hp->Prop)(b:Bool)(s':U2):Prop
 | mk (H':Hp) (i:Inv X pins σ H' s') (q:Q b H'):TP X pins σ Q b s'
inductive AP(X:Cx)(pins:List (Addr×Obj))(σ:St)(Q:List V->Hp->Prop)(us:List Value)(s':U2):Prop
 | mk (vs:List V) (H':Hp) (i:Inv X pins σ H' s') (r:Vals vs us) (q:Q vs H'):AP X pins σ Q us s'
def SP(X:Cx)(pins:List (Addr×Obj))(D:Ends)(f:Flow)(s':U2):Prop:=
 match f with
 | .next=>∃σ' H',Inv X pins σ' H' s'/\D.nx σ' H'
 | .brk=>∃σ' H',Inv X pins σ' H' s'/\D.bk σ' H'
 | .cont=>∃σ' H',Inv X pins σ' H' s'/\D.ct σ' H'
 | .ret u=>∃v σ' H',Inv X pins σ' H' s'/\RelV v u/\D.rt v H'
def PE(X:Cx)(e:Expr)(t:TE):Prop:=
 ∀(pins:List (Addr×Obj)) (s:U2) (σ:St) (H:Hp) (Q:VK),Inv X pins σ H s->t σ H Q->wpAny (model X.prog X.w) X.A (eval e X.env) (EP X pins σ Q) X.xe s
def PT(X:Cx)(e:Expr)(t:TT):Prop:=
 ∀(pins:List (Addr×Obj)) (s:U2) (σ:St) (H:Hp) (Q:Bool->Hp->Prop),Inv X pins σ H s->t σ H Q->wpAny (model X.prog X.w) X.A (isTrue e X.env (eval e X.env)) (TP X pins σ Q) X.xe s
def PW(X:Cx)(e:Expr)(t:TT):Prop:=
 ∀(whole:Sem Value) (pins:List (Addr×Obj)) (s:U2) (σ:St) (H:Hp) (Q:Bool->Hp->Prop),Inv X pins σ H s->t σ H Q->wpAny (model X.prog X.w) X.A (isTrue e X.env whole) (TP X pins σ Q) X.xe s
theorem PW.pt{X:Cx}{e:Expr}{t:TT}(h:PW X e t):PT X e t:=h _
def PA(X:Cx)(es:List Expr)(t:TA):Prop:=
 ∀(pos:Pos) (pins:List (Addr×Obj)) (s:U2) (σ:St) (H:Hp) (Q:List V->Hp->Prop),Inv X pins σ H s->t σ H Q->wpAny (model X.prog X.w) X.A (spliced (VU pos (U8 es X.env))) (AP X pins σ Q) X.xe s
def PS(X:Cx)(st:Stmt)(t:TS):Prop:=
 ∀(pins:List (Addr×Obj)) (s:U2) (σ:St) (H:Hp) (D:Ends),Inv X pins σ H s->t D σ H->wpAny (model X.prog X.w) X.A (exec st X.env) (SP X pins D) X.xe s
def PSs(X:Cx)(st:List Stmt)(t:TS):Prop:=
 ∀(pins:List (Addr×Obj)) (s:U2) (σ:St) (H:Hp) (D:Ends),Inv X pins σ H s->t D σ H->wpAny (model X.prog X.w) X.A (execs st X.env) (SP X pins D) X.xe s
theorem b7{z:Type}{t:Sem z}{Q q:z->U2->Prop}{M:Model}{A:VC}{E:Value->U2->Prop}{s:U2}(h:wpAny M A t Q E s)(G:∀a s,Q a s->q a s):wpAny M A t q E s:=VP h G λ_ _ x=>x
section
variable {X:Cx}
def nW(i:Nat):TE:=λσ H Q=>∃v,σ[i]?=some (some v)/\Q v H
def tC(v:V):TE:=λ_ H Q=>Q v H
theorem yO(W:X.N[i]?=some x)(hv:GL X.env.scope x)(J:(x == ("__debug__" : Str))=false:=by decide)(G:(x == ("__classdict__" : Str))=false:=by decide):PE X (.Name x pos) (nW i):=by
 intro pins s σ H Q I h;obtain⟨v,e,h⟩:=h;obtain⟨m,hn,hl⟩:=I.loc;obtain⟨u,r,l⟩:=hl i x v W e hv;have fin:EP X pins σ Q u s:=⟨v,H,I,r,h⟩;rcases l with⟨z,Y⟩|⟨z,c,U,q⟩
 ·exact wpAny_Name (wpAny_loadName_local I.ok.kind z hn Y fin) J
 ·rcases z with z|z
  ·exact wpAny_Name (wpAny_loadName_cell I.ok.kind z U q fin) J
  ·exact wpAny_Name (wpAny_loadName_free I.ok.kind z U q fin G) J
theorem NP{i j pos}:PE X (.Constant (.int i) j pos) (tC (.int i)):=λ_ _ _ H _ I h=>wpAny_Constant_int ⟨.int i,H,I.tok _,⟨_,rfl⟩,h⟩
theorem PV{b j pos}:PE X (.Constant (.bool b) j pos) (tC (.bl b)):=λ_ _ _ H _ I h=>Constant_bool ⟨.bl b,H,I,rfl,h⟩
theorem MU{j pos}:PE X (.Constant .none j pos) (tC .non):=λ_ _ _ H _ I h=>Constant_none ⟨.non,H,I,rfl,h⟩
theorem N1{x j pos}:PE X (.Constant (.str x) j pos) (tC (.str x)):=λ_ _ _ H _ I h=>Calls.Constant_str ⟨.str x,H,I.tok _,⟨_,rfl⟩,h⟩
def Gl(X:Cx)(x:Str):Prop:=X.env.kindOf x=some .globalImplicit
theorem gN(I:Inv X pins σ H s)(q:Gl X x)(G:X.mg x=some u)(h:Q u s)
  (z:(x == ("__debug__" : Str))=false:=by decide):wpAny (model X.prog X.w) X.A (eval (.Name x pos) X.env) Q E s:=
 Calls.Name_function_global I.ok.kind q (Calls.loadGlobal_global (by rw[I.ok.glob];exact I.mod.glob.keeps I.bk) G h) z
theorem nV{E:Value->U2->Prop}{pins:List (Addr×Obj)}{s:U2}{σ:St}{H:Hp}{x:Str}{u:Value}{pos:Pos}{Q:Value->U2->Prop}(I:Inv X pins σ H s)(G:Gl X x)(q:X.mg x=none)(N:V5 x=some u)(h:Q u s)
  (z:x ≠ "__name__" := by decide) (J:(x == ("__debug__" : Str))=false:=by decide):wpAny (model X.prog X.w) X.A (eval (.Name x pos) X.env) Q E s:=by
 obtain⟨U,h1,h2⟩:=I.mod.blt;exact Calls.Name_function_global I.ok.kind G (Calls.loadGlobal_builtin (by rw[I.ok.glob];exact I.mod.glob.keeps I.bk) q (by rw[I.ok.blt];exact h1.keeps I.bk) ((h2 x z).trans N) h) J
theorem o6(q:Gl X x)(G:X.mg x=some u)(r:RelV v u)(z:(x == ("__debug__" : Str))=false:=by decide):PE X (.Name x pos) (tC v):=
 λ_ _ _ H _ I h=>gN I q G ⟨v,H,I,r,h⟩ z
theorem JA(J:Gl X x)(z:X.mg x=none)(q:V5 x=some u)(r:RelV v u)(G:x ≠ "__name__" := by decide)(N:(x == ("__debug__" : Str))=false:=by decide):PE X (.Name x pos) (tC v):=
 λ_ _ _ H _ I h=>nV I J z q ⟨v,H,I,r,h⟩ G N
variable {a b:Expr}{ta tb:TE}{pos:Pos}
def tB(t:TE):TT:=λσ H Q=>t σ H λx H1=>∃c,x=.bl c/\Q c H1
theorem MD{e:Expr}{t:TE}(h:PE X e t)(U:∀z,isTrue e X.env z=(do let v <- z;standAt e.pos;holding [v] (truthy v)):=by intro _;rfl):PT X e (tB t):=by
 intro pins s σ H Q I hw;refine isTrue_plain (b7 (h pins s σ H _ I hw) λv W ⟨x,H1,G,J,N⟩=>?_) (U _);obtain⟨d,rfl,q⟩:=N;cases J;exact XS ⟨H1,G,q⟩
variable {tA tB':TT}{rest:List Expr}
def SC(t u:TT):TT:=λσ H Q=>t σ H λc H1=>if c=true then u σ H1 Q else Q false H1
def UQ(t u:TT):TT:=λσ H Q=>t σ H λc H1=>if c=true then Q true H1 else u σ H1 Q
def R7(t:TT):TT:=λσ H Q=>t σ H λc H1=>Q (!c) H1
theorem G9(q:PT X a tA):PW X (.BoolOp .And [a] pos) tA:=by
 intro G pins s σ H Q I h;refine isTrue_and (b7 (q pins s σ H Q I h) λc z e=>?_);cases c with
 | true=>exact isTrue_and_nil e
 | false=>exact e
theorem NI(q:PT X a tA):PW X (.BoolOp .Or [a] pos) tA:=by
 intro G pins s σ H Q I h;refine isTrue_or (b7 (q pins s σ H Q I h) λc z e=>?_);cases c with
 | false=>exact isTrue_or_nil e
 | true=>exact e
theorem NA(G:PT X a tA)(U:PW X (.BoolOp .And (b::rest) pos) tB'):PW X (.BoolOp .And (a::b::rest) pos) (SC tA tB'):=by
 intro N pins s σ H Q I h;refine isTrue_and (b7 (G pins s σ H _ I h) λc J ⟨H1,z,q⟩=>?_);cases c with
 | true=>exact U N pins J σ H1 Q z q
 | false=>exact⟨H1,z,q⟩
theorem O6(G:PT X a tA)(U:PW X (.BoolOp .Or (b::rest) pos) tB'):PW X (.BoolOp .Or (a::b::rest) pos) (UQ tA tB'):=by
 intro N pins s σ H Q I h;refine isTrue_or (b7 (G pins s σ H _ I h) λc J ⟨H1,z,q⟩=>?_);cases c with
 | true=>exact⟨H1,z,q⟩
 | false=>exact U N pins J σ H1 Q z q
theorem NT(z:PT X a tA):PT X (.UnaryOp .Not a pos) (R7 tA):=by
 intro pins s σ H Q I h;exact isTrue_not (b7 (z pins s σ H (λc H1=>Q (!c) H1) I h) λ_ _ ⟨H',i,q⟩=>⟨H',i,q⟩)
def P1(ta tb:TE):TE:=λσ H Q=>ta σ H λx H1=>∃c,x=.bl c/\if c=true then tb σ H1 Q else Q (.bl false) H1
def R0(ta tb:TE):TE:=λσ H Q=>ta σ H λx H1=>∃c,x=.bl c/\if c=true then Q (.bl true) H1 else tb σ H1 Q
theorem MT{op}(h:PE X a t):PE X (.BoolOp op [a] pos) t:=λpins s σ H Q I hw=>BoolOp_one (h pins s σ H Q I hw)
theorem L8(G:PE X a ta)(U:PE X (.BoolOp .And (b::rest) pos) tb):PE X (.BoolOp .And (a::b::rest) pos) (P1 ta tb):=by
 intro pins s σ H Q I h;refine BoolOp_and (b7 (G pins s σ H _ I h) λv N ⟨x,H1,z,J,q⟩=>?_);obtain⟨c,rfl,q⟩:=q;cases J;refine XS ?_;cases c with
 | true=>exact U pins N σ H1 Q z q
 | false=>exact⟨.bl false,H1,z,rfl,q⟩
theorem OS(G:PE X a ta)(U:PE X (.BoolOp .Or (b::rest) pos) tb):PE X (.BoolOp .Or (a::b::rest) pos) (R0 ta tb):=by
 intro pins s σ H Q I h;refine BoolOp_or (b7 (G pins s σ H _ I h) λv N ⟨x,H1,z,J,q⟩=>?_);obtain⟨c,rfl,q⟩:=q;cases J;refine XS ?_;cases c with
 | false=>exact U pins N σ H1 Q z q
 | true=>exact⟨.bl true,H1,z,rfl,q⟩
def UV(t:TT)(ta tb:TE):TE:=λσ H Q=>t σ H λc H1=>if c=true then ta σ H1 Q else tb σ H1 Q
theorem DP{c:Expr}(U:PT X c tA)(J:PE X a ta)(N:PE X b tb):PE X (.IfExp c a b pos) (UV tA ta tb):=by
 intro pins s σ H Q I h;refine wpAny_IfExp (b7 (U pins s σ H _ I h) λd z ⟨H1,G,q⟩=>?_);cases d with
 | true=>exact J pins z σ H1 Q G q
 | false=>exact N pins z σ H1 Q G q
end
def SqL(K:U3)(H:Hp)(a:Addr)(xs:List V):Prop:=
 Rd H a (.lst xs) \/
  ∃(o:Obj) (its:Array Value) (n:Nat),K.lookup a=some o/\o.cls=.type "list" /\ o.dict=none/\o.data=.seq its n/\its.size<=VA/\Vals xs its.toList
def SqT(K:U3)(H:Hp)(a:Addr)(xs:List V):Prop:=
 Rd H a (.tup xs) \/
  ∃(o:Obj) (its:Array Value) (n:Nat),K.lookup a=some o/\o.cls=.type "tuple" /\ o.data=.seq its n/\its.size<=VA/\Vals xs its.toList
noncomputable def SF:Value->Option V
 | .none=>some .non
 | .bool b=>some (.bl b)
 | .int i _=>some (.int i)
 | .str x _=>some (.str x)
 | .bytes b _=>some (.byt b)
 | .float b _=>some (.flt b)
 | .ref a=>some (.ref a)
 | .type n=>some (.ty n)
 | _=>none
theorem RelV.abs(r:RelV x u):SF u=some x:=by
 cases x with
 | non=>cases r;rfl
 | bl _=>cases r;rfl
 | int _=>obtain⟨t,rfl⟩:=r;rfl
 | str _=>obtain⟨t,rfl⟩:=r;rfl
 | byt _=>obtain⟨t,rfl⟩:=r;rfl
 | flt _=>obtain⟨t,rfl⟩:=r;rfl
 | ref _=>cases r;rfl
 | ty _=>cases r;rfl
theorem RelV.inj(r:RelV x u)(q:RelV y u):x=y:=VX (r.abs.symm.trans q.abs)
theorem Vals.inj:∀ {xs ys:List V} {us:List Value},Vals xs us->Vals ys us->xs=ys
 | _,_,_,.nil,.nil=>rfl
 | _,_,_,.cons r t,.cons r' t'=>by rw[r.inj r',Vals.inj t t']
section
variable {X:Cx}{pins:List (Addr×Obj)}{σ:St}{H:Hp}{s:U2}{a:Addr}{xs ys:List V}
theorem SqL.of{K:U3}(h:H a=some (.lst xs)):SqL K H a xs:=.inl (.inl h)
theorem SqT.of{K:U3}(h:H a=some (.tup xs)):SqT K H a xs:=.inl (.inl h)
theorem Inv.list(I:Inv X pins σ H s)(h:SqL X.K H a xs):∃q:List Value,Vals xs q/\PlainL s.heap a q.toArray/\xs.length<=VA:=by
 rcases h with h|⟨o,q,n,G,J,N,hs,U,r⟩
 ·obtain⟨z,q,n,r,e⟩:=h.ok I.hok
  exact⟨q,r,⟨_,n,e,rfl,rfl,rfl⟩,z⟩
 ·refine⟨q.toList,r,⟨o,n,I.kIn a o G,J,N,by simpa using hs⟩,?_⟩
  have e:=r.length;simp only[W4]at e
  lia
theorem Inv.tuple(I:Inv X pins σ H s)(h:SqT X.K H a xs):∃q:List Value,Vals xs q/\IsTup s.heap a q.toArray/\xs.length<=VA:=by
 rcases h with h|⟨o,q,n,J,G,hs,N,r⟩
 ·obtain⟨z,q,r,p⟩:=h.ok I.hok
  exact⟨q,r,p.tup,z⟩
 ·refine⟨q.toList,r,⟨o,I.kIn a o J,G,n,by simpa using hs⟩,?_⟩
  have e:=r.length;simp only[W4]at e
  lia
theorem Inv.list_inj(I:Inv X pins σ H s)(h:SqL X.K H a xs)(h':SqL X.K H a ys):xs=ys:=by
 obtain⟨q,r,⟨o,n,e,_,_,d⟩,_⟩:=I.list h;obtain⟨its',G,⟨o',J,z,_,_,d'⟩,_⟩:=I.list h';rw[e]at z;cases z;rw[d]at d';injection d' with d1 _
 have:q=its':=by simpa using congrArg Array.toList d1
 subst this;exact r.inj G
theorem Inv.tuple_inj(I:Inv X pins σ H s)(h:SqT X.K H a xs)(h':SqT X.K H a ys):xs=ys:=by
 obtain⟨q,r,⟨o,e,_,n,d⟩,_⟩:=I.tuple h;obtain⟨its',G,⟨o',z,_,J,d'⟩,_⟩:=I.tuple h';rw[e]at z;cases z;rw[d]at d';injection d' with d1 _
 have:q=its':=by simpa using congrArg Array.toList d1
 subst this;exact r.inj G
end
abbrev Cx.wish(X:Cx)(E:Value->U2->Prop):Cx:={X with xe:=E}
abbrev Cx.nox(X:Cx):Cx:=X.wish λ_ _=>False
theorem Cx.Ok.wish{X:Cx}(ok:X.Ok)(E:Value->U2->Prop):(X.wish E).Ok:=
 ⟨ok.mod,ok.kind,ok.glob,ok.blt,ok.above,ok.inj,ok.has,ok.cab,ok.hd,ok.frames,ok.stk,ok.exf,ok.bs,ok.bsz,ok.noex,ok.exfs,ok.funs,ok.frf⟩
theorem Cx.Ok.unwish{X:Cx}{E:Value->U2->Prop}(ok:(X.wish E).Ok):X.Ok:=
 ⟨ok.mod,ok.kind,ok.glob,ok.blt,ok.above,ok.inj,ok.has,ok.cab,ok.hd,ok.frames,ok.stk,ok.exf,ok.bs,ok.bsz,ok.noex,ok.exfs,ok.funs,ok.frf⟩
section
variable {X:Cx}{pins:List (Addr×Obj)}{σ:St}{H:Hp}{s:U2}{E:Value->U2->Prop}
theorem Inv.wish(I:Inv X pins σ H s)(E:Value->U2->Prop):Inv (X.wish E) pins σ H s:=⟨I.ok.wish E,I.os,I.bare,I.base,I.loc,I.cell,I.free,I.freeC,I.pin,I.hok,I.len⟩
theorem Inv.unwish(I:Inv (X.wish E) pins σ H s):Inv X pins σ H s:=⟨I.ok.unwish,I.os,I.bare,I.base,I.loc,I.cell,I.free,I.freeC,I.pin,I.hok,I.len⟩
theorem SP.unwish(h:SP (X.wish E) pins D f s'):SP X pins D f s':=by
 cases f with
 | next=>obtain⟨z,H',I,q⟩:=h;exact⟨z,H',I.unwish,q⟩
 | brk=>obtain⟨z,H',I,q⟩:=h;exact⟨z,H',I.unwish,q⟩
 | cont=>obtain⟨z,H',I,q⟩:=h;exact⟨z,H',I.unwish,q⟩
 | ret u=>obtain⟨v,z,H',I,r,q⟩:=h;exact⟨v,z,H',I.unwish,r,q⟩
theorem PE.nox(h:PE X.nox e t):PE X e t:=λpins s σ H Q I hw=>
 VP (h pins s σ H Q (I.wish _) hw) (λ_ _ ⟨v,H',G,r,q⟩=>⟨v,H',G.unwish,r,q⟩) λ_ _ z=>V1 z
theorem PT.nox(h:PT X.nox e t):PT X e t:=λpins s σ H Q I hw=>
 VP (h pins s σ H Q (I.wish _) hw) (λ_ _ ⟨H',G,q⟩=>⟨H',G.unwish,q⟩) λ_ _ z=>V1 z
theorem PSs.nox{st:List Stmt}{t:TS}(h:PSs X.nox st t):PSs X st t:=λpins s σ H D I hw=>
 VP (h pins s σ H D (I.wish _) hw) (λ_ _ q=>q.unwish) λ_ _ z=>V1 z
end
section
variable {X:Cx}{st:Stmt}{rest:List Stmt}{t u:TS}{e:Expr}{te:TE}{pos:Pos}
def QA:TS:=λD σ H=>D.nx σ H
def QV(t u:TS):TS:=λD σ H=>t {D with nx:=u D} σ H
theorem zG:PSs X [] QA:=λ_ _ σ H _ I h=>YU ⟨σ,H,I,h⟩
theorem qM(h1:PS X st t)(h2:PSs X rest u):PSs X (st::rest) (QV t u):=by
 intro pins s σ H D I h;refine YV (b7 (h1 pins s σ H {D with nx:=u D} I h) λf G q=>?_);cases f with
 | next=>
  obtain⟨z,H',J,q⟩:=q;exact h2 pins G z H' D J q
 | ret v=>exact q
 | brk=>exact q
 | cont=>exact q
theorem IG(h1:PS X st t):PSs X [st] t:=by
 intro pins s σ H D I h;refine YV (b7 (h1 pins s σ H D I h) λf z q=>?_);cases f with
 | next=>exact YU q
 | ret v=>exact q
 | brk=>exact q
 | cont=>exact q
theorem Inv.quiet(I:Inv X pins σ H s):interactive X.env=false:=by simp[interactive,I.ok.kind]
def P8(te:TE):TS:=λD σ H=>te σ H λ_ H1=>D.nx σ H1
theorem zV(G:PE X e te)(hs:V2 e none pos.line X.env=pure false:=by rfl):PS X (.Expr e pos) (P8 te):=by
 intro pins s σ H D I h;exact wpAny_Expr_any (b7 (G pins s σ H _ I h) λv N ⟨x,H1,q,J,z⟩=>⟨σ,H1,q,z⟩) I.quiet hs
def TH(te:TE):TS:=λD σ H=>te σ H D.rt
theorem NO(J:PE X e te):PS X (.Return (some e) pos) (TH te):=by
 intro pins s σ H D I h;exact wpAny_Return_some (b7 (J pins s σ H _ I h) λv N ⟨x,H1,q,z,G⟩=>⟨x,σ,H1,q,z,G⟩)
def QR:TS:=λD _ H=>D.rt .non H
theorem IP:PS X (.Return none pos) QR:=λ_ _ σ H _ I h=>wpAny_Return_none ⟨.non,σ,H,I,rfl,h⟩
def S6(c:TT)(t u:TS):TS:=λD σ H=>c σ H λb H1=>if b=true then t D σ H1 else u D σ H1
theorem P3{c:Expr}{a b:List Stmt}{tc:TT}(U:PT X c tc)(J:PSs X a t)(N:PSs X b u):PS X (.If c a b pos) (S6 tc t u):=by
 intro pins s σ H D I h;refine wpAny_If (b7 (U pins s σ H _ I h) λd z ⟨H1,G,q⟩=>?_);cases d with
 | true=>exact J pins z σ H1 D G q
 | false=>exact N pins z σ H1 D G q
end
abbrev TG:=V->St->Hp->(St->Hp->Prop)->Prop
abbrev LL:=List V->St->Hp->(St->Hp->Prop)->Prop
def PG(X:Cx)(q:Expr)(t:TG):Prop:=
 ∀(pins:List (Addr×Obj)) (s:U2) (σ:St) (H:Hp) (v:V) (u:Value) (Q:St->Hp->Prop),Inv X pins σ H s->RelV v u->t v σ H Q->
  wpAny (model X.prog X.w) X.A (WO q X.env u) (λ_ s'=>∃z H',Inv X pins z H' s'/\Q z H') X.xe s
def PGs(X:Cx)(z:List Expr)(t:LL):Prop:=
 ∀(pins:List (Addr×Obj)) (s:U2) (σ:St) (H:Hp) (vs:List V) (us:List Value) (Q:St->Hp->Prop),Inv X pins σ H s->Vals vs us->t vs σ H Q->
  wpAny (model X.prog X.w) X.A (assignInOrder ((WF z X.env).map (·.2)) us) (λ_ s'=>∃q H',Inv X pins q H' s'/\Q q H') X.xe s
abbrev GA:=V->V->V->Hp->(Hp->Prop)->Prop
def J9(X:Cx)(t:GA):Prop:=
 ∀(pins:List (Addr×Obj)) (s:U2) (σ:St) (H:Hp) (o i v:V) (ov iv u:Value) (Q:Hp->Prop),Inv X pins σ H s->RelV o ov->RelV i iv->RelV v u->t o i v H Q->
  wpAny (model X.prog X.w) X.A (setItem ov iv u) (λ_ s'=>∃H',Inv X pins σ H' s'/\Q H') X.xe s
section
variable {X:Cx}{pos:Pos}
def nB(i:Nat):TG:=λv σ H Q=>Q (σ.set i (some v)) H
theorem zA(z:X.N.Nodup)(hi:X.N[i]?=some x)(J:Loc X.env.scope x)(q:X.fn x=true\/X.env.scope.names.lookup x=some .local:=by first|exact .inl rfl|exact .inr rfl|assumption):PG X (.Name x pos) (nB i):=by
 intro pins s σ H v u Q I r h;exact wpAny_assign_Name (mQ I z hi J r (λs' G=>⟨_,H,G,h⟩) q)
def SZ:LL:=λvs σ H Q=>vs=[]/\Q σ H
def LG(t:TG)(u:LL):LL:=λvs σ H Q=>∃v r,vs=v::r/\t v σ H λq H'=>u r q H' Q
theorem JC:PGs X [] SZ:=by
 intro pins s σ H vs q Q I r h;obtain⟨e,h⟩:=h;subst e;cases r;exact assignInOrder_nil ⟨σ,H,I,h⟩
theorem qL{e:Expr}{es:List Expr}{t:TG}{u:LL}(h1:PG X e t)(h2:PGs X es u)
  (hs:(WF (e::es) X.env).map (·.2)=WO e X.env::(WF es X.env).map (·.2):=by rfl):PGs X (e::es) (LG t u):=by
 intro pins s σ H vs U Q I r h;obtain⟨v,W,J,h⟩:=h;subst J;cases r with
 | cons r rr=>
  rw[hs];refine assignInOrder_cons (b7 (h1 pins s σ H _ _ _ I r h) λ_ G ⟨q,H1,N,z⟩=>?_);exact h2 pins G q H1 _ _ Q N rr z
def Q5(K:U3)(n:Nat)(t:LL):TG:=λv σ H Q=>∃a xs,v=.ref a/\SqT K H a xs/\xs.length=n/\t xs σ H Q
theorem FC(hc:X.calm=true)(h:PGs X es t)
  (G:(WF es X.env).length=n:=by rfl) (q:(WF es X.env).findIdx? (·.1)=none:=by rfl):PG X (.Tuple es k pos) (Q5 X.K n t):=by
 intro pins s σ H v u Q I r hw;obtain⟨a,xs,J,U,N,hw⟩:=hw;subst J;cases r;obtain⟨W,z,ht,hz⟩:=I.tuple U;refine assign_Tuple_tuple (I.ok.hd hc) ht (by simp[G,<- N,z.length]) q λh' Y=>?_
 have I1:Inv X pins σ H {s with heap:=h'}:=I.kept (t':=s.toks) λb o e=>Y b o (VY (VE e)) e
 exact h pins _ σ H xs _ Q I1 (by simpa using z) hw
def N8(to q:TE)(t:GA):TG:=λv σ H Q=>to σ H λo H1=>q σ H1 λi H2=>t o i v H2 λz=>Q σ z
theorem EW{o i:Expr}{to G:TE}{t:GA}(ho:PE X o to)(hi:PE X i G)(hs:J9 X t)
  (J:∀v, WO (.Subscript o i pos) X.env v = (do
   let q <- holding [v] (eval o X.env);let z <- holding [v,q] (eval i X.env)
   standAt pos
   holding [v,q,z] (setItem q z v)
   release [v,q,z] []):=by intro _;rfl):PG X (.Subscript o i pos) (N8 to G t):=by
 intro pins s σ H v u Q I r h;rw[J];refine U4 (XT (b7 (ho pins s σ H _ I h) λq s1 ⟨x,H1,I1,N,U⟩=>?_));refine U4 (XT (b7 (hi pins s1 σ H1 _ I1 U) λz s2 ⟨y,H2,I2,Y,W⟩=>?_));refine U4 (Y9 (U4 (XT (b7 (hs pins s2 σ H2 x y v q z u _ I2 N Y r W) λ_ s3 ⟨H3,I3,q3⟩=>?_))));exact wpAny_release ⟨σ,H3,I3,q3⟩
def yZ(te:TE)(g:TG):TS:=λD σ H=>te σ H λx H1=>g x σ H1 D.nx
theorem EU{tg e:Expr}{te:TE}{g:TG}(z:PE X e te)(U:PG X tg g)(hs:ZZ [tg] e pos.line X.env=pure false:=by rfl)(hw:Z0 [tg] e X.env=pure none:=by rfl)
  (h1:(WF [tg] X.env).map (·.2)=[WO tg X.env]:=by rfl):PS X (.Assign [tg] e pos) (yZ te g):=by
 intro pins s σ H D I h;refine wpAny_Assign_stores (b7 (z pins s σ H _ I h) λv N ⟨x,H1,W,G,J⟩=>?_) hs hw;rw[h1];exact b7 (U pins N σ H1 x v _ W G J) λ_ Y q=>q
theorem vC{i:Nat}{x:Str}{e:Expr}{te:TE}{pos':Pos}(z:X.N.Nodup)(hi:X.N[i]?=some x)(Y:Loc X.env.scope x)(G:PE X e te)(hs:V2 e (some (.Name x pos')) pos.line X.env=pure false:=by rfl)(q:X.fn x=true\/X.env.scope.names.lookup x=some .local:=by first|exact .inl rfl|exact .inr rfl|assumption) :
  PS X (.Assign [.Name x pos'] e pos) (yZ te (nB i)):=by
 intro pins s σ H D I h;refine wpAny_Assign_Name (b7 (G pins s σ H _ I h) λv s1 ⟨y,H1,I1,J,U⟩=>?_) hs;exact mQ I1 z hi Y J (λs2 W=>⟨_,H1,W,U⟩) q
end
section
variable {X:Cx}{pos:Pos}
def N6(c:TT)(tb:TS):TS:=λD σ H=>∃W:Nat->St->Hp->Prop,(∃m,W m σ H)/\∀m σ H,W m σ H->
 c σ H λb H1=>if b=true then ∃N:St->Hp->Prop,(∀q H',N q H'->∃z,z<m/\W z q H')/\tb {D with nx:=N,ct:=N,bk:=D.nx} σ H1 else D.nx σ H1
theorem EL{c:Expr}{G:List Stmt}{tc:TT}{tb:TS}(hp:YA (model X.prog X.w) X.A X.env X.xe)(hc:PT X c tc)(hb:PSs X G tb):PS X (.While c G [] pos) (N6 tc tb):=by
 intro pins s σ H D I h;obtain⟨W,⟨m0,w0⟩,turn⟩:=h;refine wpAny_While (codeAny_whileLoop (λn s'=>∃J H',Inv X pins J H' s'/\W n J H') ?_ m0 ⟨σ,H,I,w0⟩);rintro n s1 ⟨z,H1,I1,w1⟩;refine YB hp (b7 (hc pins s1 z H1 _ I1 (turn n z H1 w1)) λb s2 ⟨H2,I2,Y⟩=>?_);cases b with
 | true=>
  obtain⟨N,hN,Y⟩:=Y;rw[if_pos rfl];refine YB hp (b7 (hb pins s2 z H2 _ I2 Y) λf s3 q3=>?_);cases f with
  | next=>
   obtain⟨q,U,I3,n3⟩:=q3;obtain⟨m',hm,w3⟩:=hN q U n3;exact⟨m',hm,q,U,I3,w3⟩
  | cont=>
   obtain⟨q,U,I3,n3⟩:=q3;obtain⟨m',hm,w3⟩:=hN q U n3;exact⟨m',hm,q,U,I3,w3⟩
  | brk=>exact q3
  | ret v=>exact q3
 | false=>
  rw[if_neg VH];exact YU ⟨z,H2,I2,Y⟩
end
structure It where
 go:Nat->Hp->Prop
 yld:Nat->Hp->V->Hp->Prop
 stop:Nat->Hp->Prop
def kT(X:Cx)(pins:List (Addr×Obj))(H:Hp)(b:Addr):Prop:=
 H b=none/\b≠X.env.locals/\b∉X.fs/\(b∈X.ex\/X.s₀.heap.objs.size<=b)/\(∀x c,X.env.cells.lookup x=some c->c≠b)/\∀p∈X.pn++pins,p.1≠b
theorem Inv.fpOk(I:Inv X pins σ H s)(G:s.heap.objs.size<=b)(J:H' b=none):kT X pins H' b:=by
 refine⟨J,YC (V9 I.lt G),I.nofs G,.inr (WC I.sz G),λx c e z=>?_,λp N z=>?_⟩
 ·obtain⟨v,q⟩:=I.cell x c e
  exact absurd (V9 q.lt (by rw[z];exact G)) (XB _)
 ·exact absurd (V9 (VE (I.pin p N).1) (by rw[z];exact G)) (XB _)
structure Turn(P:U7)(w:World)(K:U3)(tg:Expr)(J:It)(fp:List Addr)(it:Addr)(tn:Nat->Heap->Prop):Prop where
 mem:it∈fp
 obj:∀i h,tn i h->∀b∈fp,∃o,h.get? b=some o/\∀v,o.data≠.cell v
 keep:∀i h h',tn i h->(∀b∈fp,∀o,h.get? b=some o->h'.get? b=some o)->tn i h'
 item:∀(X:Cx),X.prog=P->X.w=w->X.K=K->X.calm=true->∀(i:Nat) (pins:List (Addr×Obj)) (s:U2) (σ:St) (H:Hp) (E:Value->U2->Prop),Inv X pins σ H s->(∀b∈fp,kT X pins H b)->tn i s.heap->J.go i H->
  wpAny (model P w) X.A (WU (.ref it)) (λr s1=>∃u,r=some u /\
   wpAny (model P w) X.A (Z1 tg (.ref it) u) (λ_ s2=>∃x H',Inv X pins σ H' s2/\RelV x u/\J.yld i H x H'/\tn (i+1) s2.heap/\∀b∈fp,H' b=none) E s1) E s
 done:∀(X:Cx),X.prog=P->X.w=w->X.K=K->X.calm=true->∀(i:Nat) (pins:List (Addr×Obj)) (s:U2) (σ:St) (H:Hp) (E:Value->U2->Prop),Inv X pins σ H s->(∀b∈fp,kT X pins H b)->tn i s.heap->J.stop i H->
  wpAny (model P w) X.A (WU (.ref it)) (λr s1=>r=none/\Inv X pins σ H s1) E s
 self:∀(A:VC) (i:Nat) (s:U2) (Q:Value->U2->Prop) (E:Value->U2->Prop),tn i s.heap->Q (.ref it) s->wpAny (model P w) A (pyIter (.ref it)) Q E s
abbrev TI:=St->Hp->(It->Hp->Prop)->Prop
def PIE(X:Cx)(pins:List (Addr×Obj))(σ:St)(tg:Expr)(R:It->Hp->Prop)(q:Value)(z:U2):Prop:=
 ∃(it:Addr) (fp:List Addr) (tn:Nat->Heap->Prop) (J:It) (H':Hp),q=.ref it/\Inv X pins σ H' z/\Turn X.prog X.w X.K tg J fp it tn/\tn 0 z.heap/\(∀b∈fp,kT X pins H' b)/\R J H'
def PI(X:Cx)(tg q:Expr)(wi:TI):Prop:=
 ∀(pins:List (Addr×Obj)) (s:U2) (σ:St) (H:Hp) (R:It->Hp->Prop),Inv X pins σ H s->wi σ H R->
  wpAny (model X.prog X.w) X.A (eval q X.env) (λv z=>wpAny (model X.prog X.w) X.A (pyIter v) (PIE X pins σ tg R) X.xe z) X.xe s
theorem tZ(J:s.heap.get? it=some o)(G:o.cls=.type n)(N:o.data=.fields vs)
    (z:["enumerate", "zip", "dict_itemiterator", "dict_reverseitemiterator", "odict_iterator", "itertools.zip_longest", "itertools.pairwise"].contains n=false) (q:Q () s):wpAny M A (Z1 tg (.ref it) u) Q E s:=by
  unfold Z1;cases tg <;> first
    | exact U9 q
    | (cases u <;> first
        | exact U9 q
        | (refine U4 (wpAny_load J ?_)
           rw[G,N];show wpAny M A (if(["enumerate", "zip", "dict_itemiterator", "dict_reverseitemiterator", "odict_iterator", "itertools.zip_longest", "itertools.pairwise"].contains n && vs[0]? == some (WA _))=true then _ else _) Q E s;rw[if_neg (by intro h;rw[z,Bool.false_and]at h;cases h)];exact U9 q))
def TX(K:U3)(a:Addr):It:=
 ⟨λi H=>∃xs x,SqL K H a xs/\xs[i]?=some x,λi H x H'=>H'=H/\∀xs,SqL K H a xs->xs[i]?=some x,λi H=>∃xs,SqL K H a xs/\xs.length<=i⟩
def TU(K:U3)(a:Addr):It:=
 ⟨λi H=>∃xs x,SqT K H a xs/\xs[i]?=some x,λi H x H'=>H'=H/\∀xs,SqT K H a xs->xs[i]?=some x,λi H=>∃xs,SqT K H a xs/\xs.length<=i⟩
noncomputable def RU(lo:Int)(n:Nat):It:=⟨λi _=>i<n,λi H x H'=>H'=H/\x=.int (lo+i),λi _=>n<=i⟩
theorem BC{P:U7}{w:World}{K:U3}{tg:Expr}(a it:Addr):Turn P w K tg (TX K a) [it] it (λi h=>h.IsListIter it a i) where
 mem:=by simp
 obj:=λi h st b q=>by
  have e:b=it:=by simpa using q
  subst e;obtain⟨o,e,c,d⟩:=st;exact⟨o,e,λv z=>by rw[d]at z;cases z⟩
 keep:=λi h h' st k=>st.at λo e=>k it (by simp) o e
 item:=by
  intro X hP hw W hc i pins s σ H E I J st Y;subst hP hw W;obtain⟨xs,x,N,hx⟩:=Y;obtain⟨af,U,p,hz⟩:=I.list N;obtain⟨u,hu,ru⟩:=U.get hx;obtain⟨f0,f1,f2,f3,f4,f5⟩:=J it (by simp);refine wpAny_pyNext_list_item st p.isList (x:=u) (by simpa using hu) λh' G sb=>?_
  have I1:Inv X pins σ H {s with heap:=h'}:=I.turned (t':=s.toks) (λb o q e=>(sb.2 b q).trans e) f0 f1 f3 f4 f5;obtain⟨o,e,c,d⟩:=id G;exact⟨u,rfl,tZ (s:={s with heap:=h'}) e c d (by decide) ⟨x,H,I1,ru,⟨rfl,λys hy=>by rw[I.list_inj hy N];exact hx⟩,G,λb q=>(J b q).1⟩⟩
 done:=by
  intro X hP hw W hc i pins s σ H E I J st Y;subst hP hw W;obtain⟨xs,N,hx⟩:=Y;obtain⟨af,U,p,hz⟩:=I.list N;obtain⟨f0,f1,f2,f3,f4,f5⟩:=J it (by simp);have hl:=U.length;exact wpAny_pyNext_list_end (I.ok.hd hc) st p.isList (by simp;lia) λh' eb=>⟨rfl,I.turned (t':=s.toks) (λb o q e=>eb b o q e) f0 f1 f3 f4 f5⟩
 self:=λ_ _ _ _ _ st h=>wpAny_pyIter_listiter st h
theorem xI{P:U7}{w:World}{K:U3}{tg:Expr}(a it:Addr):Turn P w K tg (TU K a) [it] it (λi h=>h.IsTupleIter it a i) where
 mem:=by simp
 obj:=λi h st b q=>by
  have e:b=it:=by simpa using q
  subst e;obtain⟨o,e,c,d⟩:=st;exact⟨o,e,λv z=>by rw[d]at z;cases z⟩
 keep:=λi h h' st k=>st.at λo e=>k it (by simp) o e
 item:=by
  intro X hP hw Y hc i pins s σ H E I N st hg;subst hP hw Y;obtain⟨xs,x,U,hx⟩:=hg;obtain⟨G,W,p,hz⟩:=I.tuple U;obtain⟨u,hu,ru⟩:=W.get hx;obtain⟨f0,f1,f2,f3,f4,f5⟩:=N it (by simp);refine wpAny_pyNext_tuple_item st (show s.heap.IsTuple a G.toArray from p) (x:=u) (by simpa using hu) λh' J sb=>?_
  have I1:Inv X pins σ H {s with heap:=h'}:=I.turned (t':=s.toks) (λb o q e=>(sb.2 b q).trans e) f0 f1 f3 f4 f5;obtain⟨o,e,c,d⟩:=id J;exact⟨u,rfl,tZ (s:={s with heap:=h'}) e c d (by decide) ⟨x,H,I1,ru,⟨rfl,λys hy=>by rw[I.tuple_inj hy U];exact hx⟩,J,λb q=>(N b q).1⟩⟩
 done:=by
  intro X hP hw Y hc i pins s σ H E I N st hg;subst hP hw Y;obtain⟨xs,U,hx⟩:=hg;obtain⟨G,W,p,hz⟩:=I.tuple U;obtain⟨f0,f1,f2,f3,f4,f5⟩:=N it (by simp);have hl:=W.length;exact wpAny_pyNext_tuple_end (I.ok.hd hc) st (show s.heap.IsTuple a G.toArray from p) (by simp;lia) λh' eb=>⟨rfl,I.turned (t':=s.toks) (λb o q e=>eb b o q e) f0 f1 f3 f4 f5⟩
 self:=λ_ _ _ _ _ st h=>wpAny_pyIter_tupleiter st h
theorem yA{P:U7}{w:World}{K:U3}{tg:Expr}(it:Addr)(lo:Int)(n:Nat):Turn P w K tg (RU lo n) [it] it (λi h=>IsRangeIter h it (lo+(i:Nat)*1) ((n:Int)-(i:Nat)) 1) where
 mem:=by simp
 obj:=λi h st b q=>by
  have e:b=it:=by simpa using q
  subst e;exact⟨_,st,λv z=>by
   have z':Data.fields _=Data.cell v:=z;cases z'⟩
 keep:=λi h h' st k=>k it (by simp) _ st
 item:=by
  intro X hP hw hK hc i pins s σ H E I J st hg;subst hP hw hK;obtain⟨Y,U,f2,N,f4,f5⟩:=J it (by simp);have W:=Walks.range (prog:=X.prog) (w:=X.w) (I.ok.hd hc) it lo 1 n;refine W.item i s _ _ hg st λv h' tk hv G kk=>?_
  obtain⟨t,rfl⟩:=hv;have I1:Inv X pins σ H {s with heap:=h',toks:=tk}:=I.turned (λb o q e=>kk b o (by simpa using q) e) Y U N f4 f5;refine⟨_,rfl,tZ (s:={s with heap:=h',toks:=tk}) (n := "range_iterator") G rfl rfl (by decide) ⟨.int (lo+i),H,I1,⟨t,?_⟩,⟨rfl,rfl⟩,G,λb q=>(J b q).1⟩⟩;rw[Int.mul_one]
 done:=by
  intro X hP hw hK hc i pins s σ H E I J st hg;subst hP hw hK;obtain⟨Y,U,f2,N,f4,f5⟩:=J it (by simp);exact wpAny_pyNext_range_end (I.ok.hd hc) st (by have:n<=i:=hg;lia) λh' eb=>⟨rfl,I.turned (t':=s.toks) (λb o q e=>eb b o q e) Y U N f4 f5⟩
 self:=λ_ _ _ _ _ st h=>wpAny_pyIter_rangeiter st h
section
variable {X:Cx}{tg:Expr}
def QN(K:U3)(tl:TE):TI:=λσ H R=>tl σ H λx H1=>∃a,x=.ref a/\(∃xs,SqL K H1 a xs)/\R (TX K a) H1
def TC(K:U3)(tl:TE):TI:=λσ H R=>tl σ H λx H1=>∃a,x=.ref a/\(∃xs,SqT K H1 a xs)/\R (TU K a) H1
theorem IF{l:Expr}{tl:TE}(U:PE X l tl):PI X tg l (QN X.K tl):=by
 intro pins s σ H R I h;refine b7 (U pins s σ H _ I h) λv z ⟨x,H1,G,N,J⟩=>?_
 obtain⟨a,e,⟨xs,W⟩,q⟩:=J;subst e;cases N;obtain⟨Y,rv,p,hz⟩:=G.list W;refine ZA p.isList ?_;refine⟨z.heap.objs.size,[z.heap.objs.size],_,_,H1,rfl,G.kept (t':=z.toks) λb o e=>VI _ e,BC a _,⟨_,V3 _ rfl,rfl,rfl⟩,λb hb=>?_,q⟩;have e:b=z.heap.objs.size:=by simpa using hb
 subst e;exact G.fpOk (VG _) (G.hok.fresh (VG _))
theorem MI{l:Expr}{tl:TE}(W:PE X l tl):PI X tg l (TC X.K tl):=by
 intro pins s σ H R I h;refine b7 (W pins s σ H _ I h) λv z ⟨x,H1,G,U,N⟩=>?_
 obtain⟨a,e,⟨xs,Y⟩,q⟩:=N;subst e;cases U;obtain⟨J,rv,p,hz⟩:=G.tuple Y;refine Z2 (show z.heap.IsTuple a J.toArray from p) ?_;refine⟨z.heap.objs.size,[z.heap.objs.size],_,_,H1,rfl,G.kept (t':=z.toks) λb o e=>VI _ e,xI a _,⟨_,V3 _ rfl,rfl,rfl⟩,λb hb=>?_,q⟩;have e:b=z.heap.objs.size:=by simpa using hb
 subst e;exact G.fpOk (VG _) (G.hok.fresh (VG _))
theorem C2{pins:List (Addr×Obj)}{σ:St}{H:Hp}{s:U2}{R:It->Hp->Prop}{E:Value->U2->Prop}{lo hi:Int}{t u v:Tok}{tk:Nat}(I:Inv X pins σ H s)(h1:-(2^62)<=lo)(h2:lo<2^62)(U:-(2^62)<=hi)(G:hi<2^62)
  (q:R (RU lo (hi-lo).toNat) H):wpAny (model X.prog X.w) X.A (pyIter (.ref s.heap.objs.size)) (PIE X pins σ tg R) E {s with heap:=s.heap.push {cls:=.type "range",data:=.fields #[.int lo t,.int hi u,.int 1 v]},toks:=tk}:=by
 refine wpAny_pyIter_range (IsRange.new ..) (small_one h1 h2 U G) ?_;have z:Inv X pins σ H {s with heap:=s.heap.push {cls:=.type "range",data:=.fields #[.int lo t,.int hi u,.int 1 v]},toks:=tk}:=I.kept λb o e=>VI _ e
 refine⟨(s.heap.push {cls:=.type "range",data:=.fields #[.int lo t,.int hi u,.int 1 v]}).objs.size,[(s.heap.push {cls:=.type "range",data:=.fields #[.int lo t,.int hi u,.int 1 v]}).objs.size],_,_,H,rfl,
  z.kept (t':=tk) λb o e=>VI _ e,yA _ lo (hi-lo).toNat,?_,λb N=>?_,q⟩
 ·have J:lo+((0:Nat):Int)*1=lo:=by simp
  have W:(((hi-lo).toNat:Nat):Int)-((0:Nat):Int)=Builtin.Range.rangeSize lo hi 1:=by rw[rangeSize_one];split <;> lia
  show IsRangeIter _ _ (lo+((0:Nat):Int)*1) ((((hi-lo).toNat:Nat):Int)-((0:Nat):Int)) 1;rw[J,W];exact V3 _ rfl
 ·have e:b=(s.heap.push {cls:=.type "range",data:=.fields #[.int lo t,.int hi u,.int 1 v]}).objs.size:=by simpa using N
  subst e;exact z.fpOk (VG _) (z.hok.fresh (VG _))
def QQ(ta:TA):TI:=λσ H R=>ta σ H λvs H1=>∃j:Int,vs=[.int j]/\-(2^62)<=j/\j<2^62/\R (RU 0 j.toNat) H1
theorem BR{a:Expr}{ta:TA}{p pos:Pos}(W:Gl X "range")(J:X.mg "range" = none)(G:PA X [a] ta)(hs:U8 [a] X.env=[(false,eval a X.env)]:=by rfl):PI X tg (.Call (.Name "range" p) [a] [] pos) (QQ ta):=by
 intro pins s σ H R I h;refine Call_ (nV I W J boot_range (zaF (b7 (G pos pins s σ H _ I h) λus s1 ⟨vs,H1,Y,N,z⟩=>?_) hs rfl));obtain⟨j,e,z,U,q⟩:=z;subst e;cases N with
 | cons r rr=>
  cases rr;obtain⟨t,rfl⟩:=r;exact call_range_1 (C2 Y (by lia) (by lia) z U (by simpa using q))
def SD(wi:TI)(g:TG)(tb:TS):TS:=λD σ H=>wi σ H λJ H1=>∃W:Nat->Nat->St->Hp->Prop,(∃m,W 0 m σ H1)/\∀i m σ H,W i m σ H->
 (J.stop i H/\D.nx σ H)\/(J.go i H/\∃N:St->Hp->Prop,(∀q H',N q H'->∃G,G<m/\W (i+1) G q H')/\∀x H',J.yld i H x H'->g x σ H' λz H2=>tb {D with nx:=N,ct:=N,bk:=D.nx} z H2)
noncomputable def rA(fp:List Addr)(h:Heap):List (Addr×Obj):=fp.filterMap λb=>(h.get? b).map λo=>(b,o)
theorem iX(q:b∈fp)(e:h.get? b=some o):(b,o)∈rA fp h:=List.mem_filterMap.mpr ⟨b,q,by rw[e];rfl⟩
theorem B5(G:p∈rA fp h):p.1∈fp/\h.get? p.1=some p.2:=by
 obtain⟨b,z,e⟩:=List.mem_filterMap.mp G;cases q:h.get? b with
 | none=>rw[q]at e;cases e
 | some o=>
  rw[q]at e;have J:(b,o)=p:=VX e;subst J;exact⟨z,q⟩
theorem Inv.pinned(I:Inv X pins σ H s)(J:∀b∈fp,kT X pins H b)(Y:∀b∈fp,∃o,s.heap.get? b=some o/\∀v,o.data≠.cell v):Inv X (pins++rA fp s.heap) σ H s:=
 I.pins_of λp U=>(List.mem_append.mp U).elim (λz=>I.pin p (WM _ z)) λz=>by
  obtain⟨G,e⟩:=B5 z;obtain⟨W,N,f2,_⟩:=J p.1 G;obtain⟨o,q,d⟩:=Y p.1 G;rw[e]at q;cases q;exact⟨e,W,N,f2,d⟩
theorem Inv.unpinned(I:Inv X (pins++pl) σ H s):Inv X pins σ H s:=I.pins_of λp q=>I.pin p (WM _ (WX _ q))
theorem ES{Y:Expr}{ae:List Stmt}{wi:TI}{g:TG}{tb:TS}{pos:Pos}(hp:YA (model X.prog X.w) X.A X.env X.xe)(hc:X.calm=true)(hi:PI X tg Y wi)(hg:PG X tg g)(U:PSs X ae tb)
  (hs:∀x,WY Y X.env x=pure x:=by intro _;rfl):PS X (.For tg Y ae [] pos) (SD wi g tb):=by
 intro pins s σ H D I h;refine wpAny_For (b7 (hi pins s σ H _ I h) λv s1 h1=>b7 h1 λbg s2 h2=>?_) hs;obtain⟨it,fp,tn,J,H2,e,I2,T,ap,f2,W,⟨m0,w0⟩,turn⟩:=h2;subst e
 -- what stays true of the iterator's objects through the loop
 have aa:∀ {H':Hp},(∀b∈fp,H' b=none)->∀b∈fp,kT X pins H' b:=λhn b U=>⟨hn b U,(f2 b U).2⟩
 refine codeAny_forLoop_any (λn s'=>∃i z H',Inv X pins z H' s'/\tn i s'.heap/\(∀b∈fp,H' b=none)/\W i n z H') ?_ m0 ⟨0,σ,H2,I2,ap,λb U=>(f2 b U).1,w0⟩;rintro n s3 ⟨i,ac,H3,I3,ai,ak,w3⟩;rcases turn i n ac H3 w3 with⟨al,qn⟩|⟨go,N,hN,step⟩
 ·refine YB hp (b7 (T.done X rfl rfl rfl hc i pins s3 ac H3 X.xe I3 (aa ak) ai al) λr s4 ⟨hr,I4⟩=>?_)
  subst hr;exact YU ⟨ac,H3,I4,qn⟩
 ·refine YB hp (b7 (T.item X rfl rfl rfl hc i pins s3 ac H3 X.xe I3 (aa ak) ai go) λr s4 ⟨u,hr,h4⟩=>?_)
  subst hr;refine YB hp (b7 h4 λ_ s5 ⟨x,H5,I5,r5,y5,ag,an⟩=>?_);have as:=I5.pinned (aa an) (T.obj _ _ ag);refine YB hp (b7 (hg _ s5 ac H5 x u _ as r5 (step x H5 y5)) λ_ s6 ⟨ao,H6,I6,q6⟩=>?_);refine YB hp (b7 (U _ s6 ao H6 _ I6 q6) λf s7 q7=>?_);have ad:∀ {q:St} {H7:Hp},Inv X (pins++rA fp s5.heap) q H7 s7->N q H7->∃m,m<n/\∃i z H',Inv X pins z H' s7/\tn i s7.heap/\(∀b∈fp,H' b=none)/\W i m z H':=λ{q H7} G n7=>by
   obtain⟨m',hm,w7⟩:=hN q H7 n7;refine⟨m',hm,i+1,q,H7,G.unpinned,T.keep _ _ _ ag λb U o e=>(G.pin (b,o) (WM _ (WM _ (iX U e)))).1,λb U=>?_,w7⟩;obtain⟨o,e,d⟩:=T.obj _ _ ag b U;exact(G.pin (b,o) (WM _ (WM _ (iX U e)))).2.1
  cases f with
  | next=>obtain⟨q,H7,G,n7⟩:=q7;exact ad G n7
  | cont=>obtain⟨q,H7,G,n7⟩:=q7;exact ad G n7
  | brk=>obtain⟨q,H7,G,q7⟩:=q7;exact⟨q,H7,G.unpinned,q7⟩
  | ret v=>obtain⟨x7,q,H7,G,r7,q7⟩:=q7;exact⟨x7,q,H7,G.unpinned,r7,q7⟩
end
abbrev R2:=V->V->Hp->VK->Prop
def OpR(X:Cx)(f:Value->Value->Sem Value)(r:R2):Prop:=
 ∀(pins:List (Addr×Obj)) (s:U2) (σ:St) (H:Hp) (x y:V) (v u:Value) (Q:VK),Inv X pins σ H s->RelV x v->RelV y u->r x y H Q->
  wpAny (model X.prog X.w) X.A (f v u) (EP X pins σ Q) X.xe s
def T1(X:Cx)(f:Value->Sem Value)(r:V->Hp->VK->Prop):Prop:=
 ∀(pins:List (Addr×Obj)) (s:U2) (σ:St) (H:Hp) (x:V) (v:Value) (Q:VK),Inv X pins σ H s->RelV x v->r x H Q->
  wpAny (model X.prog X.w) X.A (f v) (EP X pins σ Q) X.xe s
def CallR(X:Cx)(f:Value)(r:List V->Hp->VK->Prop):Prop:=
 ∀(pins:List (Addr×Obj)) (s:U2) (σ:St) (H:Hp) (xs:List V) (us:List Value) (Q:VK),Inv X pins σ H s->Vals xs us->r xs H Q->
  wpAny (model X.prog X.w) X.A (call f us) (EP X pins σ Q) X.xe s
def OQ(r:R2)(ta tb:TE):TE:=λσ H Q=>ta σ H λx H1=>tb σ H1 λy H2=>r x y H2 Q
def UJ(r:V->Hp->VK->Prop)(ta:TE):TE:=λσ H Q=>ta σ H λx H1=>r x H1 Q
def rI(C:Int->Int->Prop)(g:Int->Int->V):R2:=λx y H Q=>∃i j,x=.int i/\y=.int j/\C i j/\Q (g i j) H
def GK(g:Int->Int->V):R2:=λx y H Q=>∃i j,x=.int i/\y=.int j/\Q (g i j) H
def rU(g:Int->V):V->Hp->VK->Prop:=λx H Q=>∃i,x=.int i/\Q (g i) H
section
variable {X:Cx}{a b c:Expr}{ta tb tc:TE}{pos:Pos}
theorem OD(U:PE X a ta)(hb:PE X b tb){pins:List (Addr×Obj)}{s:U2}{σ:St}{H:Hp}{R:V->V->Hp->Prop}(I:Inv X pins σ H s)
  (h:ta σ H λx H1=>tb σ H1 λy H2=>R x y H2) {Q:Value->U2->Prop} {f:Value->Value->Sem Value}
  (J:∀v u G x y H2,Inv X pins σ H2 G->RelV x v->RelV y u->R x y H2->wpAny (model X.prog X.w) X.A (f v u) Q X.xe G) :
  wpAny (model X.prog X.w) X.A (eval a X.env) (λv q=>wpAny (model X.prog X.w) X.A (eval b X.env) (λu z=>wpAny (model X.prog X.w) X.A (f v u) Q X.xe z) X.xe q) X.xe s:=by
 refine b7 (U pins s σ H _ I h) λv s1 ⟨x,H1,N,W,Y⟩=>?_
 refine b7 (hb pins s1 σ H1 _ N Y) λu G ⟨y,H2,I2,r2,q2⟩=>?_
 exact J v u G x y H2 I2 W r2 q2
theorem FW{op:Operator}{r:R2}(Y:OpR X (V4 op) r)(z:PE X a ta)(N:PE X b tb):PE X (.BinOp a op b pos) (OQ r ta tb):=by
 intro pins s σ H Q I h;exact wpAny_BinOp (OD z N I h λv u J x y H2 U G W q=>Y pins J σ H2 x y v u Q U G W q)
theorem OV{op:UnaryOp}{r:V->Hp->VK->Prop}(U:T1 X (unaryOp op) r)(q:PE X a ta):PE X (.UnaryOp op a pos) (UJ r ta):=by
 intro pins s σ H Q I h;exact UnaryOp_ (b7 (q pins s σ H _ I h) λv J ⟨x,H1,N,z,G⟩=>U pins J σ H1 x v Q N z G)
theorem RV{f:Value->Value->Sem Value}{C:Int->Int->Prop}{g:Int->Int->Int}
  (z:∀(i j:Int) (t u:Tok) (s:U2) (Q:Value->U2->Prop) (E:Value->U2->Prop),C i j->Q (.int (g i j) s.toks) {s with toks:=s.toks+1}->wpAny (model X.prog X.w) X.A (f (.int i t) (.int j u)) Q E s) :
  OpR X f (rI C λi j=>.int (g i j)):=by
 intro pins s σ H x y v u Q I N J h;obtain⟨i,j,rfl,rfl,G,q⟩:=h;obtain⟨t,rfl⟩:=N;obtain⟨t',rfl⟩:=J;exact z i j t t' s _ _ G ⟨.int (g i j),H,I.tok _,⟨_,rfl⟩,q⟩
theorem Q1{f:Value->Value->Sem Value}{g:Int->Int->Int}
  (z:∀(i j:Int) (t u:Tok) (s:U2) (Q:Value->U2->Prop) (E:Value->U2->Prop),Q (.int (g i j) s.toks) {s with toks:=s.toks+1}->wpAny (model X.prog X.w) X.A (f (.int i t) (.int j u)) Q E s) :
  OpR X f (GK λi j=>.int (g i j)):=by
 intro pins s σ H x y v u Q I J G h;obtain⟨i,j,rfl,rfl,q⟩:=h;obtain⟨t,rfl⟩:=J;obtain⟨t',rfl⟩:=G;exact z i j t t' s _ _ ⟨.int (g i j),H,I.tok _,⟨_,rfl⟩,q⟩
theorem KI{f:Value->Value->Sem Value}{g:Int->Int->Bool}
  (z:∀(i j:Int) (t u:Tok) (s:U2) (Q:Value->U2->Prop) (E:Value->U2->Prop),Q (.bool (g i j)) s->wpAny (model X.prog X.w) X.A (f (.int i t) (.int j u)) Q E s) :
  OpR X f (GK λi j=>.bl (g i j)):=by
 intro pins s σ H x y v u Q I J G h;obtain⟨i,j,rfl,rfl,q⟩:=h;obtain⟨t,rfl⟩:=J;obtain⟨t',rfl⟩:=G;exact z i j t t' s _ _ ⟨.bl (g i j),H,I,rfl,q⟩
def JX(i j:Int):Prop:=0<j/\j<1073741824
def KM(i j:Int):Prop:=0<=j/\j<=1000000/\i.natAbs<2^64
theorem MM:OpR X (V4 .Add) (GK λi j=>.int (i+j)):=Q1 λ_ _ _ _ _ _ _ q=>add_int q
theorem MK:OpR X (V4 .Sub) (GK λi j=>.int (i-j)):=Q1 λ_ _ _ _ _ _ _ q=>sub_int q
theorem IX:OpR X (V4 .FloorDiv) (rI JX λi j=>.int (i/j)):=RV λi j _ _ _ _ _ z q=>by
 have h1:(0:Int)<j:=z.1;have h2:j<1073741824:=z.2;exact floordiv_int (by lia) (by rw[Int.fdiv_eq_ediv_of_nonneg i (by lia)];exact q) (.inl (PyProof.noPylong_small (by lia)))
theorem LQ:OpR X (V4 .Mod) (rI (λ_ j=>0<j) λi j=>.int (i%j)):=RV λi j _ _ _ _ _ z q=>by
 have h1:(0:Int)<j:=z;exact mod_int' (by lia) (by rw[Int.fmod_eq_emod_of_nonneg i (by lia)];exact q)
theorem NN:OpR X (V4 .Pow) (rI KM λi j=>.int (i^j.toNat)):=RV λ_ _ _ _ _ _ _ z q=>pow_int_small z.1 z.2.1 z.2.2 q
theorem UW{f:Value->Sem Value}{g:Int->Int}
  (z:∀(i:Int) (t:Tok) (s:U2) (Q:Value->U2->Prop) (E:Value->U2->Prop),Q (.int (g i) s.toks) {s with toks:=s.toks+1}->wpAny (model X.prog X.w) X.A (f (.int i t)) Q E s) :
  T1 X f (rU λi=>.int (g i)):=by
 intro pins s σ H x v Q I G h;obtain⟨i,rfl,q⟩:=h;obtain⟨t,rfl⟩:=G;exact z i t s _ _ ⟨.int (g i),H,I.tok _,⟨_,rfl⟩,q⟩
theorem LU:T1 X (unaryOp .USub) (rU λi=>.int (-i)):=UW λ_ _ _ _ _ q=>neg_int q
end
noncomputable def OH:V->V->Bool
 | .non,.non=>true | .non,.int _=>true | .int _,.non=>true | .non,.bl _=>true | .bl _,.non=>true | .non,.str _=>true | .str _,.non=>true
 | .int _,.int _=>true | .bl _,.bl _=>true | .str _,.str _=>true | .byt _,.byt _=>true
 | .int _,.str _=>true | .str _,.int _=>true | .bl _,.str _=>true | .str _,.bl _=>true
 | _,_=>false
def UO:R2:=λx y H Q=>OH x y=true/\Q (.bl (decide (x=y))) H
def UU:R2:=λx y H Q=>OH x y=true/\Q (.bl (!decide (x=y))) H
theorem AH:decide (V.int i=V.int j)=(i == j):=by
 rw[XE];simp
theorem FI:decide (V.bl i=V.bl j)=(i == j):=by
 rw[XE];simp
theorem zY:decide (V.str i=V.str j)=(i == j):=by
 rw[XE];simp
theorem zM:decide (V.byt i=V.byt j)=(i.toList == j.toList):=by
 rw[XE];cases i;cases j;simp
section
variable {X:Cx}{a b c:Expr}{ta tb tc:TE}{pos:Pos}
theorem bB(I:Inv X pins σ H s)(q:Q (.bl k) H)(e:k=k'):EP X pins σ Q (.bool k') s:=by
 subst e;exact⟨.bl k,H,I,rfl,q⟩
theorem PY:OpR X (VF .Eq) UO:=by
 intro pins s σ H x y v u Q I G z h;obtain⟨hs,q⟩:=h;cases x with
 | non=>
  cases G;cases y with
  | non=>cases z;exact PySem.EqNone.eq_none_none (bB I q (by simp))
  | bl j=>cases z;exact PySem.EqNone.eq_none_bool (bB I q (by simp))
  | int j=>obtain⟨t',rfl⟩:=z;exact PySem.EqNone.eq_none_int (bB I q (by simp))
  | str j=>obtain⟨t',rfl⟩:=z;exact PySem.EqNone.eq_none_str (bB I q (by simp))
  | _=>exact absurd (show false=true from hs) VH
 | bl i=>
  cases G;cases y with
  | non=>cases z;exact PySem.EqNone.eq_bool_none (bB I q (by simp))
  | bl j=>cases z;exact eq_bool (bB I q FI)
  | str j=>obtain⟨t',rfl⟩:=z;exact PySem.EqMixed.eq_bool_str (bB I q (by simp))
  | _=>exact absurd (show false=true from hs) VH
 | int i=>
  obtain⟨t,rfl⟩:=G;cases y with
  | non=>cases z;exact PySem.EqNone.eq_int_none (bB I q (by simp))
  | int j=>obtain⟨t',rfl⟩:=z;exact eq_int (bB I q AH)
  | str j=>obtain⟨t',rfl⟩:=z;exact PySem.EqMixed.eq_int_str (bB I q (by simp))
  | _=>exact absurd (show false=true from hs) VH
 | str i=>
  obtain⟨t,rfl⟩:=G;cases y with
  | non=>cases z;exact PySem.EqNone.eq_str_none (bB I q (by simp))
  | bl j=>cases z;exact PySem.EqMixed.eq_str_bool (bB I q (by simp))
  | int j=>obtain⟨t',rfl⟩:=z;exact PySem.EqMixed.eq_str_int (bB I q (by simp))
  | str j=>obtain⟨t',rfl⟩:=z;exact eq_str (bB I q zY)
  | _=>exact absurd (show false=true from hs) VH
 | byt i=>
  obtain⟨t,rfl⟩:=G;cases y with
  | byt j=>obtain⟨t',rfl⟩:=z;exact PySem.W.eq_bytes (bB I q zM)
  | _=>exact absurd (show false=true from hs) VH
 | _=>cases y <;> exact absurd (show false=true from hs) VH
theorem O8:OpR X (VF .NotEq) UU:=by
 intro pins s σ H x y v u Q I G z h;obtain⟨hs,q⟩:=h;cases x with
 | non=>
  cases G;cases y with
  | non=>cases z;exact PySem.EqNone.ne_none_none (bB I q (by simp))
  | bl j=>cases z;exact PySem.EqNone.ne_none_bool (bB I q (by simp))
  | int j=>obtain⟨t',rfl⟩:=z;exact PySem.EqNone.ne_none_int (bB I q (by simp))
  | str j=>obtain⟨t',rfl⟩:=z;exact PySem.EqNone.ne_none_str (bB I q (by simp))
  | _=>exact absurd (show false=true from hs) VH
 | bl i=>
  cases G;cases y with
  | non=>cases z;exact PySem.EqNone.ne_bool_none (bB I q (by simp))
  | bl j=>cases z;exact ne_bool (bB I q (congrArg not FI))
  | str j=>obtain⟨t',rfl⟩:=z;exact PySem.EqMixed.ne_bool_str (bB I q (by simp))
  | _=>exact absurd (show false=true from hs) VH
 | int i=>
  obtain⟨t,rfl⟩:=G;cases y with
  | non=>cases z;exact PySem.EqNone.ne_int_none (bB I q (by simp))
  | int j=>obtain⟨t',rfl⟩:=z;exact ne_int (bB I q (congrArg not AH))
  | str j=>obtain⟨t',rfl⟩:=z;exact PySem.EqMixed.ne_int_str (bB I q (by simp))
  | _=>exact absurd (show false=true from hs) VH
 | str i=>
  obtain⟨t,rfl⟩:=G;cases y with
  | non=>cases z;exact PySem.EqNone.ne_str_none (bB I q (by simp))
  | bl j=>cases z;exact PySem.EqMixed.ne_str_bool (bB I q (by simp))
  | int j=>obtain⟨t',rfl⟩:=z;exact PySem.EqMixed.ne_str_int (bB I q (by simp))
  | str j=>obtain⟨t',rfl⟩:=z;exact ne_str (bB I q (congrArg not zY))
  | _=>exact absurd (show false=true from hs) VH
 | byt i=>
  obtain⟨t,rfl⟩:=G;cases y with
  | byt j=>obtain⟨t',rfl⟩:=z;exact PySem.W.ne_bytes (bB I q (congrArg not zM))
  | _=>exact absurd (show false=true from hs) VH
 | _=>cases y <;> exact absurd (show false=true from hs) VH
theorem P5:OpR X (VF .Lt) (GK λi j=>.bl (decide (i<j))):=KI λ_ _ _ _ _ _ _ q=>lt_int q
theorem PR:OpR X (VF .LtE) (GK λi j=>.bl (decide (i<=j))):=KI λ_ _ _ _ _ _ _ q=>le_int q
theorem OW:OpR X (VF .Gt) (GK λi j=>.bl (decide (j<i))):=KI λ_ _ _ _ _ _ _ q=>gt_int q
theorem QC:OpR X (VF .GtE) (GK λi j=>.bl (decide (j<=i))):=KI λ_ _ _ _ _ _ _ q=>ge_int q
theorem A9:OpR X (VF .In) (λx y H Q=>∃i j,x=.str i/\y=.str j/\Q (.bl (!(Z3 j i 0 j.length 1).isEmpty)) H):=by
 intro pins s σ H x y v u Q I G z h;obtain⟨i,j,rfl,rfl,q⟩:=h;obtain⟨t,rfl⟩:=G;obtain⟨t',rfl⟩:=z;exact in_str (bB I q rfl)
theorem NB:OpR X (VF .Is) (λx y H Q=>y=.non/\Q (.bl (decide (x=.non))) H):=by
 intro pins s σ H x y v u Q I z G h;obtain⟨rfl,q⟩:=h;cases G;refine is_none_gen (bB I q ?_);cases x <;> first
  | (cases z;rfl)
  | (obtain⟨t,rfl⟩:=z;rfl)
theorem OpR.or(h:OpR X f r)(h':OpR X f r'):OpR X f (λx y H Q=>r x y H Q\/r' x y H Q):=by
 intro pins s σ H x y v u Q I G z q;rcases q with q|q
 ·exact h pins s σ H x y v u Q I G z q
 ·exact h' pins s σ H x y v u Q I G z q
theorem nQ(b:Expr)(h:op≠.In:=by decide)(h2:op≠.NotIn:=by decide):XU op b=false:=by
 have q:(op == CmpOp.In)=false:=by cases op <;> first|rfl|exact absurd rfl h
 have z:(op == CmpOp.NotIn)=false:=by cases op <;> first|rfl|exact absurd rfl h2
 cases b <;> simp[XU,q,z]
theorem IW(ho:OpR X (VF op) r)(z:PE X a ta)(U:PE X b tb)(J:XU op b=false):PE X (.Compare a [op] [b] pos) (OQ r ta tb):=by
 intro pins s σ H Q I h;exact wpAny_Compare1 (OD z U I h λv u N x y H2 W G Y q=>ho pins N σ H2 x y v u Q W G Y q) J
def LC(t:TE):TT:=λσ H Q=>t σ H λx H'=>∃k,x=.bl k/\Q k H'
theorem AG{op:CmpOp}{r:R2}(G:OpR X (VF op) r)(q:PE X a ta)(hb:PE X b tb)(J:XU op b=false):PT X (.Compare a [op] [b] pos) (LC (OQ r ta tb)):=by
 intro pins s σ H Q I h;refine wpAny_isTrue_Compare1 (b7 (q pins s σ H _ I h) λv W ⟨x,H1,I1,N,U⟩=>b7 (hb pins W σ H1 _ I1 U) λu s2 ⟨y,H2,I2,r2,Y⟩=>
  b7 (G pins s2 σ H2 x y v u _ I2 N r2 Y) λc s3 ⟨z,H3,I3,r3,k,e,q3⟩=>?_) J
 subst e;cases r3;exact XS ⟨H3,I3,q3⟩
def yL(r G:R2)(ta tb tc:TE):TE:=λσ H Q=>ta σ H λx H1=>tb σ H1 λy H2=>r x y H2 λz q=>∃k,z=.bl k /\
 (if k=true then tc σ q λJ N=>G y J N Q else Q (.bl false) q)
theorem DC{op q:CmpOp}{r J:R2}(ho:OpR X (VF op) r)(G:OpR X (VF q) J)(ha:PE X a ta)(hb:PE X b tb)(hc:PE X c tc)
  (hm:lastMarks [op,q] [b,c]=false:=by with_unfolding_all rfl):PE X (.Compare a [op,q] [b,c] pos) (yL r J ta tb tc):=by
 intro pins s σ H Q I h;refine Compare_chain (b7 (ha pins s σ H _ I h) λv s1 ⟨x,H1,I1,r1,q1⟩=>chain_link (b7 (hb pins s1 σ H1 _ I1 q1) λu s2 ⟨y,H2,I2,N,q2⟩=>
  b7 (ho pins s2 σ H2 x y v u _ I2 r1 N q2) λd s3 ⟨z,U,W,r3,k,e,Y⟩=>?_)) hm
 subst e;cases r3;refine XS ?_;cases k with
 | false=>exact ite_ff ⟨.bl false,U,W,rfl,Y⟩
 | true=>exact ite_tt (chain_last (b7 (hc pins s3 σ U _ W Y) λw' s4 ⟨z',H4,I4,r4,q4⟩=>G pins s4 σ H4 y z' u w' Q I4 N r4 q4))
theorem C1{op q:CmpOp}{r J:R2}(ho:OpR X (VF op) r)(G:OpR X (VF q) J)(ha:PE X a ta)(hb:PE X b tb)(hc:PE X c tc)
  (hm:lastMarks [op,q] [b,c]=false:=by with_unfolding_all rfl):PT X (.Compare a [op,q] [b,c] pos) (LC (yL r J ta tb tc)):=by
 intro pins s σ H Q I h;refine isTrue_chain (b7 (ha pins s σ H _ I h) λv s1 ⟨x,H1,I1,r1,q1⟩=>test_link (b7 (hb pins s1 σ H1 _ I1 q1) λu s2 ⟨y,H2,I2,N,q2⟩=>
  b7 (ho pins s2 σ H2 x y v u _ I2 r1 N q2) λd s3 ⟨z,U,W,r3,k,e,Y⟩=>?_)) hm
 subst e;cases r3;refine XS ?_;cases k with
 | false=>
  obtain⟨k',e',q'⟩:=Y;cases e';exact ite_ff ⟨U,W,q'⟩
 | true=>
  refine ite_tt (test_last (b7 (hc pins s3 σ U _ W Y) λw' s4 ⟨z',H4,I4,r4,q4⟩=>b7 (G pins s4 σ H4 y z' u w' _ I4 N r4 q4) λd' s5 ⟨z2,H5,I5,r5,k2,e2,q5⟩=>?_));subst e2;cases r5;exact XS ⟨H5,I5,q5⟩
theorem qW:(VA:Nat)<2^63:=by rw[sizeLine_eq];decide
theorem xR:OpR X (V4 .Add) (λx y H Q=>∃i j,x=.str i/\y=.str j/\i.length+j.length<=VA/\Q (.str (i++j)) H):=by
 intro pins s σ H x y v u Q I G z h;obtain⟨i,j,rfl,rfl,J,q⟩:=h;obtain⟨t,rfl⟩:=G;obtain⟨t',rfl⟩:=z;exact add_str (λt' tk=>⟨.str (i++j),H,I.tok _,⟨_,rfl⟩,q⟩) J
theorem vals1(r:Vals [x] us):∃u,us=[u]/\RelV x u:=by
 cases r with
 | cons r1 r2=>cases r2;exact⟨_,rfl,r1⟩
theorem vals2(r:Vals [x,y] us):∃u q,us=[u,q]/\RelV x u/\RelV y q:=by
 cases r with
 | cons r1 r2=>
  cases r2 with
  | cons r3 r4=>cases r4;exact⟨_,_,rfl,r1,r3⟩
theorem B4(G:X.calm=true):CallR X (.builtin "max") (λxs H Q=>∃i j,xs=[.int i,.int j]/\Q (.int (if j>i then j else i)) H):=by
 intro pins s σ H xs J Q I r h;obtain⟨i,j,rfl,q⟩:=h;obtain⟨u,N,rfl,⟨t,rfl⟩,⟨t',rfl⟩⟩:=vals2 r;refine max_two_ints (I.ok.hd G) λh' tk k=>⟨_,H,I.kept k,?_,q⟩
 by_cases z:j>i
 ·rw[if_pos z,if_pos z];exact⟨_,rfl⟩
 ·rw[if_neg z,if_neg z];exact⟨_,rfl⟩
theorem A6:CallR X (.type "int") (λxs H Q=>(∃i,xs=[.int i]/\Q (.int i) H)\/∃k,xs=[.bl k]/\Q (.int (if k then 1 else 0)) H):=by
 intro pins s σ H xs G Q I r h;rcases h with⟨i,rfl,q⟩|⟨k,rfl,q⟩
 ·obtain⟨u,rfl,t,rfl⟩:=vals1 r
  exact call_int_int ⟨.int i,H,I,⟨_,rfl⟩,q⟩
 ·obtain⟨u,rfl,z⟩:=vals1 r
  cases z;exact call_int_bool ⟨.int (if k then 1 else 0),H,I.tok _,⟨_,rfl⟩,q⟩
def SQ(K:U3)(x:V)(H:Hp)(n:Nat):Prop:=
 match x with
 | .str y=>y.length<=VA/\n=y.length
 | .byt y=>y.size<=VA/\n=y.size
 | .ref p=>(∃xs,SqL K H p xs/\n=xs.length)\/∃xs,SqT K H p xs/\n=xs.length
 | _=>False
theorem qH:CallR X (.builtin "len") (λxs H Q=>∃x n,xs=[x]/\SQ X.K x H n/\Q (.int n) H):=by
 intro pins s σ H xs us Q I r h;obtain⟨x,n,rfl,e,q⟩:=h;obtain⟨u,rfl,N⟩:=vals1 r;have hl:=qW;have hs:VA=16777216:=sizeLine_eq;cases x with
 | str y=>
  obtain⟨t,rfl⟩:=N;obtain⟨hy,G⟩:y.length<=VA/\n=y.length:=e;subst G;exact len_str (by lia) ⟨.int _,H,I.tok _,⟨_,rfl⟩,q⟩
 | byt y=>
  obtain⟨t,rfl⟩:=N;obtain⟨hy,G⟩:y.size<=VA/\n=y.size:=e;subst G;exact PySem.W.len_bytes (by lia) ⟨.int _,H,I.tok _,⟨_,rfl⟩,q⟩
 | ref p=>
  cases N;have G:(∃xs,SqL X.K H p xs/\n=xs.length)\/∃xs,SqT X.K H p xs/\n=xs.length:=e;rcases G with⟨xs,hx,G⟩|⟨xs,hx,G⟩
  ·subst G
   obtain⟨Y,J,U,hz⟩:=I.list hx;have z:=J.length;exact Calls.call_len_list U.isList (by simp only[VJ];lia) ⟨.int xs.length,H,I.tok _,⟨_,by simp only[VJ];rw[z]⟩,q⟩
  ·subst G
   obtain⟨Y,J,U,hz⟩:=I.tuple hx;have z:=J.length;exact len_tuple U (by simp only[VJ];lia) ⟨.int xs.length,H,I.tok _,⟨_,by simp only[VJ];rw[z]⟩,q⟩
 | _=>exact(show False from e).elim
end
section
variable {prog:U7}{w:World}{A:VC}{E:Value->U2->Prop}{s:U2}{K:U3}{x dx C f:Addr}{mA:Str->Option Value}{name:Str}{v:Value}
end
theorem RelO.some_of(r:RelO (some v) o):∃u,o=some u/\RelV v u:=by
 cases o with
 | none=>exact(show False from r).elim
 | some u=>exact⟨u,rfl,r⟩
section
variable {P:U7}{w:World}{H H':Hp}{h h':Heap}{a C dx:Addr}{fs fs':List (Str×V)}
end
section
variable {X:Cx}{pins:List (Addr×Obj)}{σ:St}{H:Hp}{s:U2}{a C dx:Addr}{fs:List (Str×V)}{f:Str}{v:V}{A:VC}{E:Value->U2->Prop}
end
section
variable {X:Cx}{o e value:Expr}{f:Str}{pos pos' tpos:Pos}{ta tv:TE}
end
section
variable {X:Cx}{pins:List (Addr×Obj)}{σ:St}{H:Hp}{s:U2}{A:VC}{E:Value->U2->Prop}{Q:Value->U2->Prop}{c:Value}{b:Bool}
end
structure Room(k:Nat)(A:VC):Prop where
 hd:A.handled=none
 dp:A.depth+3*k+5<recursionLimit
 un:A.units+16*k+200<cLine
theorem Room.mono(r:Room k A)(h:j<=k):Room j A:=⟨r.hd,by have:=r.dp;lia,by have:=r.un;lia⟩
theorem Room.deeper(r:Room (k+1) A)(env:Env):Room k (A.deeper env):=
 ⟨r.hd,by have:=r.dp;show A.depth+1+3*k+5<_;lia,by have:=r.un;show A.units+3+16*k+200<_;lia⟩
theorem Room.depth(r:Room k A):A.depth<recursionLimit:=by have:=r.dp;lia
theorem Room.units(r:Room k A):A.units+64<cLine:=by have:=r.un;lia
theorem Room.units0(r:Room k A):A.units<cLine:=by have:=r.un;lia
def OB:TA:=λ_ H Q=>Q [] H
def AN(ta:TE)(q:TA):TA:=λσ H Q=>ta σ H λx H1=>q σ H1 λxs H2=>Q (x::xs) H2
section
variable {X:Cx}{e:Expr}{es:List Expr}{te:TE}{t:TA}{pos:Pos}
theorem lP:PA X [] OB:=λ_ _ _ _ H Q I h=>Calls.spliced_nil ⟨[],H,I,.nil,h⟩
theorem fM(q:PE X e te)(hr:PA X es t)(hs:U8 (e::es) X.env=(false,eval e X.env)::U8 es X.env:=by rfl):PA X (e::es) (AN te t):=by
 intro pos pins s σ H Q I h;rw[hs];show wpAny _ _ (spliced ((false,eval e X.env)::VU pos (U8 es X.env))) _ _ s;refine Calls.spliced_cons (b7 (q pins s σ H _ I h) λu J ⟨x,H1,Y,z,G⟩=>?_);exact b7 (hr pos pins J σ H1 _ Y G) λus s2 ⟨xs,H2,W,U,N⟩=>⟨x::xs,H2,W,.cons z U,N⟩
def S7(t:TA):TE:=λσ H Q=>t σ H λxs H1=>xs.length<=VA/\∀p,H1 p=none->Q (.ref p) (upd H1 p (.tup xs))
def SK(t:TA):TE:=λσ H Q=>t σ H λxs H1=>xs.length<=VA/\∀p,H1 p=none->Q (.ref p) (upd H1 p (.lst xs))
theorem EX{x1}(h:PA X es t):PE X (.Tuple es x1 pos) (S7 t):=by
 intro pins s σ H Q I U;refine wpAny_Tuple_spliced (b7 (h pos pins s σ H _ I U) λW G ⟨xs,H1,J,r,z,q⟩=>⟨by rw[<- r.length];exact z,?_⟩);have N:H1 G.heap.objs.size=none:=J.hok.fresh (VG _);refine⟨.ref G.heap.objs.size,upd H1 G.heap.objs.size (.tup xs),J.laid (t':=G.toks) (λb u e=>VI _ e) (VG _) ?_,rfl,q _ N⟩;exact⟨z,W,r,⟨_,V3 _ rfl,rfl,_,rfl,rfl⟩⟩
theorem EQ(h:PA X es t):PE X (.List es pos) (SK t):=by
 intro pins s σ H Q I U;refine wpAny_List_spliced (b7 (h pos pins s σ H _ I U) λW G ⟨xs,H1,J,r,z,q⟩=>⟨by rw[<- r.length];exact z,?_⟩);have N:H1 G.heap.objs.size=none:=J.hok.fresh (VG _);refine⟨.ref G.heap.objs.size,upd H1 G.heap.objs.size (.lst xs),J.laid (t':=G.toks) (λb u e=>VI _ e) (VG _) ?_,rfl,q _ N⟩;exact⟨z,W,0,r,V3 _ rfl⟩
end
abbrev Sp:=List V->Hp->VK->XK->Prop
abbrev CQ:=List Env->Hp->U2->XK->Value->U2->Prop
structure Env0(P:U7)(w:World)(K:U3)(mg:Str->Option Value)(base:Heap)(A:VC)(outer:List Env)(s:U2)(H:Hp):Prop where
 frames:A.frames=some outer
 mod:Mod K mg base
 bs:∀b o,base.get? b=some o->s.heap.get? b=some o/\H b=none
 bsz:base.objs.size<=s.heap.objs.size
 funs:s.heap.FunFrames base outer
 frf:∀b∈frs outer,H b=none
 hok:HOk P w H s.heap
 bare:XC s.gens
def CE(outer:List Env)(P:U7)(w:World)(H:Hp)(s:U2)(Q:VK)(u:Value)(s':U2):Prop:=
 ∃v H',s'.os=s.os/\XC s'.gens/\Un (frs outer) [] H H' s.heap s'.heap/\HOk P w H' s'.heap/\RelV v u/\Q v H'
def CR(CX:CQ)(outer:List Env)(P:U7)(w:World)(H:Hp)(s:U2)(Q:VK)(E:XK)(r:Result)(s':U2):Prop:=
 match r with
 | .ok (.ret u)=>CE outer P w H s Q u s'
 | .ok _=>False
 | .error e=>CX outer H s E e s'
structure FnOk(P:U7)(w:World)(K:U3)(mg:Str->Option Value)(base:Heap)(CX:CQ)(k:Nat)(f:Addr)(fd:WP)(ps:List Str)(sp:Sp):Prop where
 len:∀vs H Q E,sp vs H Q E->vs.length=ps.length
 run:∀(A:VC) (outer:List Env) (s:U2) (H:Hp) (args:Args) (us:List Value) (vs:List V) (Q:VK) (E:XK),Room k A->Env0 P w K mg base A outer s H->BindsTo s fd args (ps.zip us)->Vals vs us->sp vs H Q E->
  W5 (model P w) A (.call (.ref f) args) (CR CX outer P w H s Q E) s
theorem FnOk.mono{P:U7}{w:World}{K:U3}{mg:Str->Option Value}{base:Heap}{CX:CQ}{j k:Nat}{f:Addr}{fd:WP}{ps:List Str}{sp:Sp}(F:FnOk P w K mg base CX j f fd ps sp)(h:j<=k) :
  FnOk P w K mg base CX k f fd ps sp:=⟨F.len,λA outer s H args q vs Q E z=>F.run A outer s H args q vs Q E (z.mono h)⟩
section
variable {X:Cx}{pins:List (Addr×Obj)}{σ:St}{H:Hp}{s s':U2}
theorem Inv.env0(I:Inv X pins σ H s):Env0 X.prog X.w X.K X.mg X.base X.A X.stack s H:=
 ⟨I.ok.frames,I.ok.mod,I.bs,WC I.ok.bsz I.sz,I.stack,I.stkFree,I.hok,I.bare⟩
theorem Inv.after(I:Inv X pins σ H s)(h:CE X.stack X.prog X.w H s Q u s'):EP X pins σ Q u s':=by
 obtain⟨v,H',os,G,un,hok,r,q⟩:=h;obtain⟨N,g,d,t,J⟩:=s';obtain rfl:J=s.os:=os;exact⟨v,H',I.call (h':=N) (g':=g) (d':=d) (t':=t) (ch:=[]) un hok G (λb z=>absurd z (by simp)),r,q⟩
end
def QS(sp:Sp)(dvs:List V)(E:XK)(t:TA):TE:=λσ H Q=>t σ H λvs H1=>sp (vs++dvs) H1 Q E
def Binds(K:U3)(fd:WP)(ps:List Str)(ds:List Value):Prop:=
 ∀(s:U2) (us:List Value),K.In s.heap->(us++ds).length=ps.length->BindsTo s fd ⟨us,[]⟩ (ps.zip (us++ds))
theorem Binds.all{K:U3}{fd:WP}{ps:List Str}(h:∀q:List Value,q.length=ps.length->bindArgs fd ⟨q,[]⟩=pure (ps.zip q)):Binds K fd ps []:=λs q _ z=>by
 rw[W6]at z ⊢;exact .of_eq (h q z)
def yM(CX:CQ)(X:Cx)(E:XK):Prop:=∀(pins:List (Addr×Obj)) (σ:St) (H:Hp) (s:U2) (e:Value) (s':U2),Inv X pins σ H s->CX X.stack H s E e s'->X.xe e s'
section
variable {X:Cx}{CX:CQ}{k:Nat}{f C:Addr}{fd:WP}{ps:List Str}{sp:Sp}{dvs:List V}{ds:List Value}{E:XK}{x m:Str}{p pos apos:Pos}{e o:Expr}{es:List Expr}{ta:TE}{t:TA}
theorem EO(F:FnOk X.prog X.w X.K X.mg X.base CX k f fd ps sp)(W:Room k X.A)(J:Binds X.K fd ps ds)(U:Vals dvs ds)(N:yM CX X E)
  (I:Inv X pins σ H s) (r:Vals vs us) (h:sp (vs++dvs) H Q E):wpAny (model X.prog X.w) X.A (call (.ref f) us) (EP X pins σ Q) X.xe s:=by
 have z:Vals (vs++dvs) (us++ds):=r.append U;have G:(us++ds).length=ps.length:=by rw[<- z.length];exact F.len _ _ _ _ h
 refine ZC (YD (F.run X.A X.stack s H ⟨us,[]⟩ (us++ds) (vs++dvs) Q E W I.env0 (J s us I.kIn G) z h) λr s' q=>?_);cases r with
 | error e=>exact N pins σ H s e s' I q
 | ok fl=>
  cases fl with
  | ret u=>exact I.after q
  | next=>exact V1 q
  | brk=>exact V1 q
  | cont=>exact V1 q
theorem GT(F:FnOk X.prog X.w X.K X.mg X.base CX k f fd ps sp)(hr:Room k X.A)(hg:Gl X x)(W:X.mg x=some (.ref f))(Y:XW X.K (.ref f)=true)(hb:Binds X.K fd ps ds)(hd:Vals dvs ds)(hx:yM CX X E)
  (U:PA X (e::es) t) (G:(x == ("__debug__" : Str))=false:=by decide) (N:U8 (e::es) X.env=(false,eval e X.env)::U8 es X.env:=by rfl) (z:(VU pos (U8 es X.env)).any (·.1)=false:=by rfl) :
  PE X (.Call (.Name x p) (e::es) [] pos) (QS sp dvs E t):=by
 intro pins s σ H Q I h;refine YW (gN I hg W ?_ G);refine ZD (h₀:=X.base) I.ok.mod.kin Y (b7 (U pos pins s σ H _ I h) λus s1 ⟨vs,H1,J,r,q⟩=>⟨J.kIn,?_⟩) N z;exact EO F hr hb hd hx J r q
structure Mk(K:U3)(C f:Addr):Prop where
 makes:PySem.W.makesIn K C=true
 init:Z4 K (.ref C) "__init__" = some (some (.ref f))
 fn:PySem.W.isFn K (.ref f)=true
 kp:XW K (.ref C)=true
end
def PK(X:Cx)(kws:List X5)(t:TA):Prop:=
 ∀(pos:Pos) (pins:List (Addr×Obj)) (s:U2) (σ:St) (H:Hp) (Q:List V->Hp->Prop),Inv X pins σ H s->t σ H Q->wpAny (model X.prog X.w) X.A (evalAll ((YE pos (YF kws X.env)).map (·.2))) (AP X pins σ Q) X.xe s
section
variable {X:Cx}{CX:CQ}{k:Nat}{f C:Addr}{fd:WP}{ps ks:List Str}{sp:Sp}{E:XK}{x m:Str}{p pos apos kpos:Pos}{e o:Expr}{es:List Expr}{kws:List X5}{te ta:TE}{t tk:TA}{nm:Option Str}
theorem MP:PK X [] OB:=λ_ _ _ _ H Q I h=>wpAny_evalAll_nil ⟨[],H,I,.nil,h⟩
theorem HP(q:PE X e te)(hr:PK X kws t):PK X (⟨nm,e,kpos⟩::kws) (AN te t):=by
 intro pos pins s σ H Q I h;show wpAny _ _ (evalAll ((do let v <- eval e X.env;standAt pos;pure v)::(YE pos (YF kws X.env)).map (·.2))) _ _ s;refine wpAny_evalAll_cons (U4 (b7 (q pins s σ H _ I h) λu J ⟨x,H1,Y,z,G⟩=>U4 (Y9 (U9 ?_))));exact b7 (hr pos pins J σ H1 _ Y G) λus s2 ⟨xs,H2,W,U,N⟩=>⟨x::xs,H2,W,.cons z U,N⟩
variable {g:List Value->List Value->List Value}{gV:List V->List V->List V}
end
structure FnScope(N P:List Str)(sc:Scope):Prop where
 kind:sc.kind=.function
 co:sc.isCoroutine=false
 gen:sc.isGenerator=false
 nd:N.Nodup
 pre:N.take P.length=P
 par:∀x∈P,sc.names.lookup x=some .local\/sc.names.lookup x=some .cell
 nofree:∀y∈sc.names,y.2≠.free
theorem tK{WQ:Str->Option XF}:∀ {binds:List (Str×Value)} {m:Str->Option Value},(∀v,(x,v)∉binds)->bindL WQ binds m x=m x
 | [],_,_=>rfl
 | (n,v)::r,m,h=>by
  unfold bindL;rw[tK λw hw=>h w (VW _ hw)];split
  ·have:x≠n:=by rintro rfl;exact h v VR
   simp[this]
  ·rfl
theorem tM{WQ:Str->Option XF}:∀ {binds:List (Str×Value)} {m:Str->Option Value},(∀v,(x,v)∉binds)->bindC WQ binds m x=m x
 | [],_,_=>rfl
 | (n,v)::r,m,h=>by
  unfold bindC;rw[tM λw hw=>h w (VW _ hw)];split
  ·rfl
  ·have:x≠n:=by rintro rfl;exact h v VR
   simp[this]
theorem tT{WQ:Str->Option XF}{x:Str}{v:Value}:∀ {P:List Str} {vs:List Value} {i:Nat} {m:Str->Option Value},P.Nodup->P[i]?=some x->vs[i]?=some v->WQ x=some .local->
  bindL WQ (P.zip vs) m x=some v
 | [],_,_,_,_,h,_,_=>by simp at h
 | _::_,[],_,_,_,_,h,_=>by simp at h
 | p::P,w::vs,0,m,nd,h1,h2,hk=>by
  simp at h1 h2;subst h1;subst h2;show bindL WQ ((p,w)::P.zip vs) m p=_;unfold bindL;rw[tK λv q=>(List.nodup_cons.mp nd).1 (zaG q).1,if_pos hk];simp
 | p::P,w::vs,i+1,m,nd,h1,h2,hk=>by
  show bindL WQ ((p,w)::P.zip vs) m x=_;unfold bindL;exact tT (i:=i) (List.nodup_cons.mp nd).2 (by simpa using h1) (by simpa using h2) hk
theorem sQ{WQ:Str->Option XF}{x:Str}{v:Value}:∀ {P:List Str} {vs:List Value} {i:Nat} {m:Str->Option Value},P.Nodup->P[i]?=some x->vs[i]?=some v->WQ x≠some .local->
  bindC WQ (P.zip vs) m x=some v
 | [],_,_,_,_,h,_,_=>by simp at h
 | _::_,[],_,_,_,_,h,_=>by simp at h
 | p::P,w::vs,0,m,nd,h1,h2,hk=>by
  simp at h1 h2;subst h1;subst h2;show bindC WQ ((p,w)::P.zip vs) m p=_;unfold bindC;rw[tM λv q=>(List.nodup_cons.mp nd).1 (zaG q).1,if_neg hk];simp
 | p::P,w::vs,i+1,m,nd,h1,h2,hk=>by
  show bindC WQ ((p,w)::P.zip vs) m x=_;unfold bindC;exact sQ (i:=i) (List.nodup_cons.mp nd).2 (by simpa using h1) (by simpa using h2) hk
def start(N:List Str)(vs:List V):St:=vs.map some++V6 (N.length-vs.length) none
def dR(CX:CQ)(P:U7)(w:World)(K:U3)(mg:Str->Option Value)(base:Heap)(N:List Str)(q:Str)(scope:Scope)(f:Addr)(G:Value)(A:VC)(outer:List Env)(s:U2)(H:Hp)(E:XK):Cx where
 prog:=P
 w:=w
 K:=K
 mg:=mg
 base:=base
 A:=A.deeper (WB q scope s.heap.objs.size f G)
 N:=N
 s₀:=s
 H₀:=H
 env:=WB q scope s.heap.objs.size f G
 outer:=outer
 stack:=WB q scope s.heap.objs.size f G::outer
 ex:=[]
 calm:=true
 fn:=λ_=>true
 pn:=[]
 xe:=λe s'=>wpAny (model P w) (A.deeper (WB q scope s.heap.objs.size f G)) (YG (WB q scope s.heap.objs.size f G) e) (λ_ z=>CX outer H s E e z) (λJ z=>CX outer H s E J z) s'
theorem qI{sc:Scope}{n:Nat}{x:Str}(h:sc.names.lookup x=some .cell):∃c,(YH n sc.names []).lookup x=some c:=by
 have q:=PySem.W.cellsFrom_some sc.names n [] (.inl h);exact Option.isSome_iff_exists.mp q
theorem CA{CX:CQ}{P:U7}{w:World}{K:U3}{mg:Str->Option Value}{base:Heap}{N ps:List Str}{G:Str}{scope:Scope}{f:Addr}{cd:Value}{A:VC}{outer:List Env}{s s1:U2}{H:Hp}{E:XK}{us:List Value}{vs:List V}
  (S:FnScope N ps scope) (hd:A.handled=none) (J:Env0 P w K mg base A outer s H) (hl:vs.length=ps.length) (r:Vals vs us)
  (x:InCallC s s.heap.objs.size (bindL (WB G scope s.heap.objs.size f cd).kindOf (ps.zip us) λ_=>none) (YH (s.heap.objs.size+1) scope.names []) (bindC (WB G scope s.heap.objs.size f cd).kindOf (ps.zip us) λ_=>none) s1) :
  Inv (dR CX P w K mg base N G scope f cd A outer s H E) [] (start N vs) H s1:=by
 have ah:ps.length<=N.length:=by have:=congrArg YX S.pre;rw[WZ]at this;lia
 obtain⟨h1,tk,rfl,hk⟩:=x.done;have U:∀b:Addr,b∉(dR CX P w K mg base N G scope f cd A outer s H E).ex:=λb z=>absurd (show b∈([]:List Addr)from z) (by simp)
 refine⟨⟨J.mod,S.kind,rfl,rfl,VG _,λy z c h1 h2=>?_,λy W=>?_,λy c _ h=>?_,λ_=>hd,Around.frames_deeper J.frames,.inr ⟨rfl,rfl⟩,λb z=>absurd z (U b),J.bs,J.bsz,λb _ _=>U b,λb z=>absurd z (U b),J.funs,J.frf⟩,
  rfl,J.bare,Un.kept hk,⟨_,x.toInCall.ns,λi y v h1 h2 h3=>?_⟩,λy c h=>⟨_,x.cell y c h⟩,J.hok.fresh (VG _),λy c h=>?_,λp Y=>absurd (show p∈([]:List (Addr×Obj))from Y) (by simp),J.hok.kept hk,?_⟩
 ·exact name_of_addr x.apart (ZE h1) (ZE h2)
 ·have W:scope.names.lookup y=some .cell\/scope.names.lookup y=some .free:=W
  rcases W with W|W
  ·exact qI W
  ·exact absurd rfl (S.nofree _ (ZE W))
 ·exact Nat.le_of_lt (x.above y c (ZE h))
 ·have hi:i<vs.length:=by
   unfold start at h2;by_cases hi:i<vs.length
   ·exact hi
   ·rw[Z5 (by simpa using hi)]at h2
    rw[List.getElem?_replicate]at h2;split at h2 <;> cases h2
  have ha:vs[i]?=some v:=by
   unfold start at h2;rw[Z6 (by simpa using hi),VM]at h2;cases e:vs[i]? with
   | none=>rw[e]at h2;cases h2
   | some a=>rw[e]at h2;cases h2;rfl
  obtain⟨u,hu,rv⟩:=r.get ha;have Y:ps[i]?=some y:=by
   rw[<- S.pre,YY (by lia)];exact h1
  have aa:ps.Nodup:=by rw[<- S.pre];exact S.nd.sublist (List.take_sublist _ _)
  refine⟨u,rv,?_⟩;rcases S.par y (WR Y)with k|k
  ·exact .inl ⟨k,tT aa Y hu k⟩
  ·obtain⟨c,e⟩:=qI (n:=s.heap.objs.size+1) k
   refine .inr ⟨.inl k,c,e,?_⟩;have q:=x.cell y c e;rw[sQ aa Y hu (by show scope.names.lookup y≠_;rw[k];decide)]at q;exact q
 ·exact J.hok.fresh (Nat.le_of_lt (x.above y c (ZE h)))
 ·unfold start
  show _=N.length;rw[WV,VL,List.length_replicate]
  lia
theorem FY{CX:CQ}{P:U7}{w:World}{K:U3}{mg:Str->Option Value}{base:Heap}{k:Nat}{f:Addr}{name z:Str}{U:Arguments}{Y:List Stmt}{scope:Scope}{dV kV ad pm G ct oc:Value}{an od:Option Addr}
  {ak:Array (Option Value)} {N ps:List Str} {sp:Sp} (lk:K.lookup f=some ⟨oc,od,.func (W0 name z U Y scope dV kV ad pm an G ct),ak⟩) (aj:YZ K G z=true) (S:FnScope N ps scope)
  (len:∀vs H Q E,sp vs H Q E->vs.length=ps.length)
  (ac:∀(A:VC) (outer:List Env) (s:U2) (H:Hp) (vs:List V) (Q:VK) (E:XK), Room k (A.deeper (WB z scope s.heap.objs.size f G)) -> sp vs H Q E ->
   ∃t,PSs (dR CX P w K mg base N z scope f G A outer s H E) Y t/\t {nx:=λ_ H'=>Q .non H',rt:=Q} (start N vs) H) :
  FnOk P w K mg base CX (k+1) f (W0 name z U Y scope dV kV ad pm an G ct) ps sp:=by
 refine⟨len,λA outer s H args us vs Q E hr e0 hb r ae=>?_⟩;have hl:=len _ _ _ _ ae;have KX:K.In s.heap:=e0.mod.kin.keeps λb o e=>(e0.bs b o e).1
 have ah:s.heap.NoLimit:=e0.mod.nolimit.keeps λb o e=>(e0.bs b o e).1
 have ab:∀y∈ps.zip us,scope.names.lookup y.1=some .local\/(scope.names.lookup y.1=some .cell/\((YH (s.heap.objs.size+1) scope.names []).lookup y.1).isSome=true):=by
  rintro⟨n,v⟩ hy;rcases S.par n (zaG hy).1 with q|q
  ·exact .inl q
  ·exact .inr ⟨q,PySem.W.cellsFrom_some _ _ _ (.inl q)⟩
 refine codeAny_call_function hr.depth (KX _ _ lk) rfl S.co S.gen rfl (PySem.W.codeRec_of KX aj) (hb _ _ _ _ ?_);refine wpAny_newFunctionEnv_cells S.kind ab λenv he s1 x=>?_
 subst he;refine⟨ah.keeps x.toInCall.keep,codeAny_func ?_⟩;obtain⟨t,ht,hq⟩:=ac A outer s H vs Q E (hr.deeper _) ae;have I:Inv (dR CX P w K mg base N z scope f G A outer s H E) [] (start N vs) H s1:=CA S hr.hd e0 hl r x;refine VP (ht [] s1 (start N vs) H _ I hq) (λfl s' hs=>?_) λe s' hs=>hs
 have fin:∀ {aa:St} {H':Hp} {v:V} {u:Value},Inv (dR CX P w K mg base N z scope f G A outer s H E) [] aa H' s'->RelV v u->Q v H'->CE outer P w H s Q u s':=
  λ{aa H' v u} J rv q=>⟨v,H',J.os,J.bare,J.base,J.hok,rv,q⟩
 cases fl with
 | ret u=>
  obtain⟨v,aa,H',J,rv,q⟩:=hs;exact fin J rv q
 | next=>
  obtain⟨aa,H',J,q⟩:=hs;exact fin (v:=V.non) (u:=V8) J rfl q
 | brk=>
  obtain⟨_,_,_,q⟩:=hs;exact V1 q
 | cont=>
  obtain⟨_,_,_,q⟩:=hs;exact V1 q
section
variable {X:Cx}{x:Str}{p pos:Pos}{e:Expr}{es:List Expr}{t:TA}{id T:String}{r:List V->Hp->VK->Prop}
def RM(r:List V->Hp->VK->Prop)(t:TA):TE:=λσ H Q=>t σ H λvs H1=>r vs H1 Q
theorem qS(hc:CallR X (.builtin id) r)(hg:Gl X x)(N:X.mg x=none)(hv:V5 x=some (.builtin id))(J:PA X (e::es) t)(U:x ≠ "__name__" := by decide)(z:(x == ("__debug__" : Str))=false:=by decide)
  (G:U8 (e::es) X.env=(false,eval e X.env)::U8 es X.env:=by rfl) (q:(VU pos (U8 es X.env)).any (·.1)=false:=by rfl):PE X (.Call (.Name x p) (e::es) [] pos) (RM r t):=by
 intro pins s σ H Q I h;refine YW (nV I hg N hv ?_ U z);exact PyProof.Rows.callWith_builtin1 (b7 (J pos pins s σ H _ I h) λus W ⟨vs,H1,I1,Y,q1⟩=>hc pins W σ H1 vs us Q I1 Y q1) G q
theorem tN(hc:CallR X (.type T) r)(hg:Gl X x)(N:X.mg x=none)(hv:V5 x=some (.type T))(J:PA X (e::es) t)(U:x ≠ "__name__" := by decide)(z:(x == ("__debug__" : Str))=false:=by decide)
  (G:U8 (e::es) X.env=(false,eval e X.env)::U8 es X.env:=by rfl) (q:(VU pos (U8 es X.env)).any (·.1)=false:=by rfl):PE X (.Call (.Name x p) (e::es) [] pos) (RM r t):=by
 intro pins s σ H Q I h;refine YW (nV I hg N hv ?_ U z);exact zaF (b7 (J pos pins s σ H _ I h) λus W ⟨vs,H1,I1,Y,q1⟩=>hc pins W σ H1 vs us Q I1 Y q1) G q
end
end L2
namespace HT
open PySem PyProof.Rows
noncomputable def lexLt:List Int->List Int->Bool
 | [],[]=>false
 | [],_::_=>true
 | _::_,[]=>false
 | x::xs,y::ys=>if x=y then lexLt xs ys else decide (x<y)
theorem x8(x y:Int)(xs ys:List Int):lexLt (x::xs) (y::ys)=if x=y then lexLt xs ys else decide (x<y):=rfl
theorem rQ:lexLt [] []=false:=rfl
theorem pJ(y:Int)(ys:List Int):lexLt [] (y::ys)=true:=rfl
theorem pG(x:Int)(xs:List Int):lexLt (x::xs) []=false:=rfl
theorem EE(A:VC)(s:U2)(a:Int)(t:Tok)(c:Int)(u:Tok):∃e,ZF A s (.int a t) (.int c u) e/\(e=true↔a=c):=
 ⟨(a == c),SeqAt.EqAt.int_int a t c u,by simp⟩
theorem DJ(A:VC)(s:U2)(a:Int)(t:Tok)(c:Int)(u:Tok)(prog:U7)(w:World)(E:Value->U2->Prop)(Q:Value->U2->Prop)(h:Q (.bool (decide (a<c))) s) :
  wpAny (model prog w) A (richCompare .Lt (.int a t) (.int c u)) Q E s:=
 (PyProof.Rows.lt_int h:wpAny (model prog w) A (VF .Lt (.int a t) (.int c u)) Q E s)
section
open PySem.SeqAt
open PySem.AutoSeq1 (wpAny_loadPart')
open PySem.MeetsSeq PySem.MeetsSeq2 PySem.MeetsSeq3
theorem rY(l b:Addr)(items z:Array Value)(n n2:Nat)(dd ah:Option Addr)(sl ag:Array (Option Value))(ns ms:List Int)(hi:WS items.toList ns)(hj:WS z.toList ms) :
  Meets (YI.«tuple.__lt__» ⟨[.ref l,.ref b],[]⟩)
   (λ_ R s => s.heap.get? l = some {cls := .type "tuple", dict:=dd, data := .seq items n, slots:=sl} /\ s.heap.get? b = some {cls := .type "tuple", dict:=ah, data := .seq z n2, slots:=ag} /\
    R (.ok (.ret (.bool (lexLt ns ms)))) s):=
 .of_wp λprog w A R s h=>by
  obtain⟨hp,g,d,tk,os⟩:=s;obtain⟨hl,hb,h⟩:=h;have f2:=AutoSeq1.sub_tuple_tuple;have z1:items.size=ns.length:=by rw[<- hi.length];simp
  have z2:z.size=ms.length:=by rw[<- hj.length];simp
  wp_walk using XX hl,XX hb,wpAny_forIn_list _ (λrest b s'=>b.1=none/\s'=⟨hp,g,d,tk,os⟩/\∃(vs ws:List Value) (J N:List Int),rest=vs.zip ws /\
   WS vs J/\WS ws N/\J.length+z.size=N.length+items.size/\R (.ok (.ret (.bool (lexLt J N)))) ⟨hp,g,d,tk,os⟩) _
  case turn=>
   rintro⟨y,x⟩ rest b s' ⟨ac,rfl,vs,ws,J,N,W,ab,U,G,hR⟩;cases ab with
   | nil=>rw[List.zip_nil_left]at W;cases W
   | cons a t hvi'=>
    cases U with
    | nil=>rw[List.zip_nil_right]at W;cases W
    | cons c u hwi'=>
     rw[List.zip_cons_cons]at W;injection W with hyx hrest
     injection hyx with hy hx
     subst hy hx;rw[x8]at hR;simp only[WI]at G;obtain⟨e,he,Y⟩:=EE A.in1 ⟨hp,g,d,tk,os⟩ a t c u;refine U4 (he prog w _ _ ?_);cases e with
     | true=>
      rw[if_pos (Y.mp rfl)]at hR
      wp_walk
      exact⟨rfl,rfl,_,_,_,_,hrest,hvi',hwi',by lia,hR⟩
     | false=>
      rw[if_neg (λq=>absurd (Y.mpr q) VH)]at hR;have af:=DJ A.in1 ⟨hp,g,d,tk,os⟩ a t c u prog w
      wp_walk using af
      exact⟨_,rfl,by simpa using hR⟩
  case fin=>
   rintro⟨b1,b2⟩ s' ⟨ac,rfl,vs,ws,J,N,W,ab,U,G,hR⟩;simp only at ac;subst ac;have hv:lexLt J N=decide (items.size<z.size):=by
    cases ab with
    | nil=>
     cases U with
     | nil=>
      simp only[ZG]at G;rw[rQ];exact(decide_eq_false (by lia)).symm
     | cons c u hw=>
      simp only[ZG,WI]at G;rw[pJ];exact(decide_eq_true (by lia)).symm
    | cons a t hv=>
     cases U with
     | nil=>
      simp only[ZG,WI]at G;rw[pG];exact(decide_eq_false (by lia)).symm
     | cons c u hw=>
      rw[List.zip_cons_cons]at W;cases W
   rw[hv]at hR
   wp_walk
   exact⟨_,rfl,by simpa[Builtin.Tuple.tupleCompareSizes]using hR⟩
  case h=>
   exact⟨rfl,rfl,items.toList,z.toList,ns,ms,rfl,hi,hj,by lia,h⟩
end
section
variable {prog:U7}{w:World}{A:VC}{E:Value->U2->Prop}{s:U2}
theorem xO(hl:IsTup s.heap l items)(hb:IsTup s.heap b items2)(hi:WS items.toList ns)(hj:WS items2.toList ms)
  (hu:A.units<cLine) (h:Q (.bool (lexLt ns ms)) s):wpAny (model prog w) A (VF .Lt (.ref l) (.ref b)) Q E s:=by
 obtain⟨⟨cls,dd,data,sl⟩,W,hc,n,hd⟩:=id hl;obtain⟨⟨Y,U,N,J⟩,z,G,n2,q⟩:=id hb;simp only at hc hd G q;subst hc hd G q;exact richCompare_meets_room (op:=.Lt) ⟨_,W,rfl⟩ ⟨_,z,rfl⟩ PySem.F.slot_tuple_lt PySem.F.entry_tuple_lt (PySem.F.args_tuple_lt_2 _ _) (rY l b items items2 n n2 dd U sl J ns ms hi hj)
  ⟨W,z,show X3 (lexLt ns ms)≠Value.notImplemented/\Q (.bool (lexLt ns ms)) s from⟨(λx=>nomatch x),h⟩⟩ hu
theorem GY(ht:IsTup s.heap t vs.toArray)(hb:IsTup s.heap b ws.toArray)(hv:vs≠[])
  (h1:ws=[]->Q (.ref t) s) (h2:ws≠[]->Q (.ref s.heap.objs.size) {s with heap:=s.heap.push {cls:=.type "tuple",data:=.seq (vs++ws).toArray} })
  (hsz:vs.length+ws.length<=VA):wpAny (model prog w) A (V4 .Add (.ref t) (.ref b)) Q E s:=by
 obtain⟨⟨cls,dd,data,sl⟩,U,hc,n,hd⟩:=id ht;obtain⟨⟨aa,J,W,z⟩,q,N,Y,G⟩:=id hb;simp only at hc hd N G;subst hc hd N G;have e:vs.toArray++ws.toArray=(vs++ws).toArray:=by simp
 by_cases hw:ws=[]
 ·exact concat_meets ⟨_,U,rfl⟩ ⟨_,q,rfl⟩ zaH seq_tuple_add zaI zaJ (zaK _ _)
   (tuple_addW1 t b vs.toArray ws.toArray n Y dd J sl z (by simpa using hv) (by simp[hw])) ⟨U,q,h1 hw⟩
 ·refine concat_meets ⟨_,U,rfl⟩ ⟨_,q,rfl⟩ zaH seq_tuple_add zaI zaJ (zaK _ _)
   (tuple_addW2 t b vs.toArray ws.toArray n Y dd J sl z (by simpa using hv) (by simpa using hw) (by rw[VJ,VJ];exact hsz)) ⟨U,q,?_⟩
  rw[e];exact h2 hw
noncomputable def sIx(n d:Nat):Option Int->Nat
 | none=>d
 | some v=>if v<0 then(v+(n:Int)).toNat else min v.toNat n
theorem ME(n d:Nat)(z:d<=n)(o:Option Int):sIx n d o<=n:=by
 cases o with
 | none=>exact z
 | some v=>
  show(if v<0 then(v+(n:Int)).toNat else min v.toNat n)<=n;by_cases q:v<0
  ·rw[if_pos q];lia
  ·rw[if_neg q];exact Nat.min_le_right _ _
theorem zU(v:Int)(n d:Nat):(if v<0 then max (v+(n:Int)) 0 else min v (n:Int))=((sIx n d (some v):Nat):Int):=by
 show(if v<0 then max (v+(n:Int)) 0 else min v (n:Int))=(((if v<0 then(v+(n:Int)).toNat else min v.toNat n):Nat):Int);by_cases q:v<0
 ·simp only[if_pos q];lia
 ·simp only[if_neg q];lia
theorem xH(lo hi:Option Int)(n:Nat):zaL lo hi 1 (n:Int)=(((sIx n 0 lo:Nat):Int),((sIx n n hi:Nat):Int)):=by
 have h1:¬ ((1:Int)<0):=by lia
 unfold zaL;simp only[h1,if_false];refine Prod.ext ?_ ?_
 ·cases lo with
  | none=>rfl
  | some v=>exact zU v n 0
 ·cases hi with
  | none=>rfl
  | some v=>exact zU v n n
theorem xY(i j:Nat):Z7 (i:Int) (j:Int) 1=j-i:=by
 unfold Z7;have h1:(1:Int)>0:=by lia
 simp only[h1,if_true,Int.ediv_one];split <;> lia
theorem pN(p:XG v o)(h:Q o s):wpAny (model prog w) A (Builtin.Slice.slicePartIndex v) Q E s:=by
 cases p with
 | none=>exact slicePart_none h
 | int i t=>exact slicePart_int h
theorem g9{N:Addr}{J G:Value}{lo hi:Option Int}{n:Nat}{Q:Int×Int×Nat->U2->Prop}(hs:s.heap.IsSliceOf N J G .none)(W:XG J lo)(U:XG G hi)
  (h:Q (((sIx n 0 lo:Nat):Int),1,sIx n n hi-sIx n 0 lo) s):wpAny (model prog w) A (Builtin.Slice.sliceApplied (.ref N) (pure (n:Int))) Q E s:=by
 obtain⟨os,z,Y,q⟩:=id hs;unfold Builtin.Slice.sliceApplied Builtin.Slice.sliceFields;refine U4 (U4 (WG z q (x:=J) rfl (U4 (WG z q (x:=G) rfl (U4 (WG z q (x:=.none) rfl (U9 ?_)))))));refine U4 (slicePart_none ?_);show wpAny _ _ (if((1:Int) == 0)=true then _ else _) _ _ s;rw[if_neg (by decide)];refine U4 (pN W (U4 (pN U (U4 (U9 ?_)))));show wpAny _ _ (match zaL lo hi 1 (n:Int)with|(lo,hi)=>pure (lo,(1:Int),Z7 lo hi 1)) _ _ s;rw[xH lo hi n];show wpAny _ _ (pure (((sIx n 0 lo:Nat):Int),(1:Int),Z7 ((sIx n 0 lo:Nat):Int) ((sIx n n hi:Nat):Int) 1)) _ _ s;rw[xY];exact U9 h
theorem DQ(xs:Array Value)(i k:Nat):((VO k).filterMap λ(m:Nat)=>xs[((i:Int)+(m:Int)*1).toNat]?).toArray=((xs.toList.drop i).take k).toArray:=by
 have e:(λ(m:Nat)=>xs[((i:Int)+(m:Int)*1).toNat]?)=λm=>xs[i+m]?:=by
  funext m;have:((i:Int)+(m:Int)*1).toNat=i+m:=by lia
  rw[this]
 rw[e];have:=pick_run xs i k;rw[List.filterMap_map]at this;have q:((λx=>xs[x]?) ∘ λx=>i+x)=λm=>xs[i+m]?:=rfl
 rw[q]at this;rw[this]
theorem lX{t W:Addr}{items:Array Value}{vl vu:Value}{lo hi:Option Int}{Q:Value->U2->Prop}(G:IsTup s.heap t items)(hs:s.heap.IsSliceOf W vl vu .none)(pl:XG vl lo)(pu:XG vu hi)
  (hw:¬ (sIx items.size 0 lo=0/\sIx items.size items.size hi=items.size))
  (h:Q (.ref s.heap.objs.size) {s with heap:=s.heap.push {cls:=.type "tuple",data:=.seq ((items.toList.drop (sIx items.size 0 lo)).take (sIx items.size items.size hi-sIx items.size 0 lo)).toArray} })
  (hsz:items.size<=VA):wpAny (model prog w) A (XH (.ref t) (.ref W)) Q E s:=by
 have z:sizeOk (.seq ((items.toList.drop (sIx items.size 0 lo)).take (sIx items.size items.size hi-sIx items.size 0 lo)).toArray):=by
  show((items.toList.drop (sIx items.size 0 lo)).take (sIx items.size items.size hi-sIx items.size 0 lo)).toArray.size<=VA;rw[VJ,WZ,Z8,W4]
  lia
 have hj:sIx items.size items.size hi<=items.size:=ME _ _ (VG _) hi;obtain⟨os,J,N,ae⟩:=id hs;have Y:s.TypeIs (.ref W) "slice" := ⟨os,J,N⟩;unfold XH
 try with_reducible refine XT ?_
 first|refine U4 (U9 ?_)|skip
 refine U4 (wpAny_sequenceKey G.typeIs (by decide) ?_);refine U4 (X6 (name:=WW "__getitem__") G.typeIs Z9
  (XY Z9 G.typeIs entry_tuple_getitem ?_ (args_tuple_getitem _ _)))
 show wpAny _ _ (Builtin.Tuple.tupleItemsOf (.ref t) >>= _) _ _ s;refine U4 (tupleItemsOf_ G ?_);refine U4 (wpAny_typeOf Y ?_);rw[if_pos (by decide)];refine U4 (g9 hs pl pu ?_);have U:¬ ((((sIx items.size 0 lo:Nat):Int) == 0 && (1:Int) == 1 && (sIx items.size items.size hi-sIx items.size 0 lo) == items.size)=true):=by
  intro q;rw[WD,WD]at q;have q1:((sIx items.size 0 lo:Nat):Int)=0:=eq_of_beq q.1.1;have q2:sIx items.size items.size hi-sIx items.size 0 lo=items.size:=eq_of_beq q.2;exact hw ⟨by lia,by lia⟩
 show wpAny _ _ (if(((sIx items.size 0 lo:Nat):Int) == 0 && (1:Int) == 1 && (sIx items.size items.size hi-sIx items.size 0 lo) == items.size)=true then _ else _) _ _ s;rw[if_neg U,DQ]
 first
  | exact U4 (m:=zaa _) (W7 (U9 ⟨_,rfl,U9 h⟩) z)
  | exact U4 (m:=zaa _) (W7 (U4 (U9 (U9 ⟨_,rfl,U9 h⟩))) z)
  | exact U4 (U4 (m:=zaa _) (W7 (U9 (U9 ⟨_,rfl,U9 h⟩)) z))
  | exact U4 (U4 (m:=zaa _) (W7 (U9 ⟨_,rfl,U9 h⟩) z))
end
end HT
namespace L2
open PySem PySem.Spec PyProof.Rows
abbrev TO:=St->Hp->(Option Int->Hp->Prop)->Prop
def PO(X:Cx)(e:Option Expr)(t:TO):Prop:=
 ∀(pins:List (Addr×Obj)) (s:U2) (σ:St) (H:Hp) (Q:Option Int->Hp->Prop),Inv X pins σ H s->t σ H Q->
  wpAny (model X.prog X.w) X.A (evalPart e X.env) (λu s'=>∃o H',Inv X pins σ H' s'/\XG u o/\Q o H') X.xe s
def HM:TO:=λ_ H Q=>Q none H
def OY(t:TE):TO:=λσ H Q=>t σ H λx H1=>∃i,x=.int i/\Q (some i) H1
theorem intsAre_of:∀ {q:List Value},Vals (ns.map V.int) q->WS q ns:=by
 induction ns with
 | nil=>intro q r;rw[List.map_nil]at r;cases r;exact .nil
 | cons n ns ih=>
  intro q r;rw[V0]at r;cases r with
  | cons r1 r2=>
   obtain⟨t,e⟩:=r1;subst e;exact .cons n t (ih r2)
section
variable {X:Cx}{e:Expr}{te:TE}{lo hi:Option Expr}{tl th:TO}{pos p2:Pos}
theorem G1:PO X none HM:=by
 intro pins s σ H Q I h;rw[evalPart_none];exact U9 ⟨none,H,I,.none,h⟩
theorem G3(h:PE X e te):PO X (some e) (OY te):=by
 intro pins s σ H Q I hw;rw[evalPart_some];refine b7 (h pins s σ H _ I hw) λu N ⟨x,H1,J,z,G⟩=>?_
 obtain⟨i,rfl,q⟩:=G;obtain⟨t,rfl⟩:=z;exact⟨some i,H1,J,.int i t,q⟩
def SlR(X:Cx)(r:V->Option Int->Option Int->Hp->VK->Prop):Prop:=
 ∀(pins:List (Addr×Obj)) (s:U2) (σ:St) (H:Hp) (x:V) (v vl vu:Value) (lo hi:Option Int) (sl:Addr) (Q:VK),Inv X pins σ H s->RelV x v->s.heap.IsSliceOf sl vl vu .none->XG vl lo->XG vu hi->r x lo hi H Q->
  ∃T id,typeLookup (.type T) "__getitem__" = pure (some (.builtin id))/\s.TypeIs v T/\wpAny (model X.prog X.w) X.A (XH v (.ref sl)) (EP X pins σ Q) X.xe s
theorem SlR.or(h:SlR X r)(h':SlR X r'):SlR X (λx lo hi H Q=>r x lo hi H Q\/r' x lo hi H Q):=by
 intro pins s σ H x v U z lo hi W Q I G hs N J q;rcases q with q|q
 ·exact h pins s σ H x v U z lo hi W Q I G hs N J q
 ·exact h' pins s σ H x v U z lo hi W Q I G hs N J q
def U0(r:V->Option Int->Option Int->Hp->VK->Prop)(te:TE)(tl th:TO):TE:=λσ H Q=>te σ H λx H1=>tl σ H1 λl H2=>th σ H2 λu q=>r x l u q Q
theorem EN(hr:SlR X r)(he:PE X e te)(hl:PO X lo tl)(hu:PO X hi th):PE X (.Subscript e (.Slice lo hi none p2) pos) (U0 r te tl th):=by
 intro pins s σ H Q I h;refine Subscript_ (b7 (he pins s σ H _ I h) λv s1 ⟨x,H1,I1,Y,q1⟩=>?_);refine wpAny_Slice (b7 (hl pins s1 σ H1 _ I1 q1) λJ s2 ⟨l,H2,I2,U,q2⟩=>b7 (hu pins s2 σ H2 _ I2 q2) λG z ⟨u,N,I3,pu,q3⟩=>?_);rw[evalPart_none];refine U9 ?_;have I4:Inv X pins σ N {z with heap:=z.heap.push {cls:=.type "slice",data:=.fields #[J,G,.none]} }:=I3.kept (t':=z.toks) λb ob q=>VI _ q
 obtain⟨T,id,hT,ht,W⟩:=hr pins {z with heap:=z.heap.push {cls:=.type "slice",data:=.fields #[J,G,.none]} } σ N x v J G l u z.heap.objs.size Q I4 Y (Heap.IsSliceOf.new ..) U pu q3;show wpAny (model X.prog X.w) X.A (subscriptTail e (.Slice lo hi none p2) v (.ref z.heap.objs.size)) (EP X pins σ Q) X.xe {z with heap:=z.heap.push {cls:=.type "slice",data:=.fields #[J,G,.none]} };exact tail_any (ops:=[.ref z.heap.objs.size,v]) ht hT W (by with_unfolding_all rfl)
def sC(xs:List V)(lo hi:Option Int):List V:=(xs.drop (HT.sIx xs.length 0 lo)).take (HT.sIx xs.length xs.length hi-HT.sIx xs.length 0 lo)
theorem oH(xs:List V)(lo hi:Option Int):(sC xs lo hi).length<=xs.length:=by
 unfold sC;rw[WZ,Z8]
 lia
def QY(K:U3):V->Option Int->Option Int->Hp->VK->Prop:=λx lo hi H Q=>∃a xs,x=.ref a/\SqT K H a xs /\
 ¬ (HT.sIx xs.length 0 lo=0/\HT.sIx xs.length xs.length hi=xs.length)/\∀p,H p=none->Q (.ref p) (upd H p (.tup (sC xs lo hi)))
theorem NF:SlR X (QY X.K):=by
 intro pins s σ H x v vl vu lo hi sl Q I U hs Y W h;obtain⟨a,xs,rfl,hx,hw,q⟩:=h;cases U;obtain⟨G,r,N,J⟩:=I.tuple hx;have z:G.toArray.size=xs.length:=by rw[VJ];exact r.length.symm
 refine⟨"tuple",_,PyProof.Rows.slot_tuple_getitem.lookup,N.typeIs,?_⟩;refine HT.lX N hs Y W (by rw[z];exact hw) ?_ (by rw[z];exact J);rw[z];refine⟨.ref s.heap.objs.size,_,I.laid (t':=s.toks) (o:=.tup (sC xs lo hi)) (λb ob q=>VI _ q) (VG _) ?_,rfl,q _ (I.hok.fresh (VG _))⟩;exact⟨WC (oH xs lo hi) J,_,(r.drop (HT.sIx xs.length 0 lo)).take (HT.sIx xs.length xs.length hi-HT.sIx xs.length 0 lo),IsTupN.new _ _⟩
def TN(K:U3):R2:=λx y H Q=>∃a b ns ms,x=.ref a/\y=.ref b/\SqT K H a (ns.map V.int)/\SqT K H b (ms.map V.int)/\Q (.bl (HT.lexLt ns ms)) H
theorem MQ(hu:X.A.units<cLine):OpR X (VF .Lt) (TN X.K):=by
 intro pins s σ H x y v u Q I N Y h;obtain⟨a,b,ns,ms,rfl,rfl,J,hb,q⟩:=h;cases N;cases Y;obtain⟨G,W,p1,_⟩:=I.tuple J;obtain⟨z,r2,p2,_⟩:=I.tuple hb;have i1:WS G.toArray.toList ns:=intsAre_of W;have U:WS z.toArray.toList ms:=intsAre_of r2;exact HT.xO p1 p2 i1 U hu ⟨.bl (HT.lexLt ns ms),H,I,rfl,q⟩
def OX(K:U3):R2:=λx y H Q=>∃a b xs ys,x=.ref a/\y=.ref b/\SqT K H a xs/\SqT K H b ys/\xs≠[]/\xs.length+ys.length<=VA /\
 (ys=[]->Q (.ref a) H)/\(ys≠[]->∀p,H p=none->Q (.ref p) (upd H p (.tup (xs++ys))))
theorem Vals.nil_iff(r:Vals xs us):us=[]↔xs=[]:=by
 cases r with
 | nil=>simp
 | cons _ _=>simp
theorem IE:OpR X (V4 .Add) (OX X.K):=by
 intro pins s σ H x y v u Q I Y ry h;obtain⟨a,b,xs,ys,rfl,rfl,W,hb,hx,N,q1,q2⟩:=h;cases Y;cases ry;obtain⟨ad,J,p1,_⟩:=I.tuple W;obtain⟨U,G,p2,_⟩:=I.tuple hb;refine HT.GY p1 p2 (λz=>hx (J.nil_iff.mp z)) (λz=>⟨.ref a,H,I,rfl,q1 (G.nil_iff.mp z)⟩) (λz=>?_) (by rw[<- J.length,<- G.length];exact N);refine⟨.ref s.heap.objs.size,_,I.laid (t':=s.toks) (o:=.tup (xs++ys)) (λb ob q=>VI _ q) (VG _) ?_,rfl,q2 (λw=>z (G.nil_iff.mpr w)) _ (I.hok.fresh (VG _))⟩;exact⟨by rw[WV];exact N,_,J.append G,IsTupN.new _ _⟩
end
noncomputable def GM(n:Nat)(i:Int):Option Nat:=if 0<=i then(if i<n then some i.toNat else none)else if -(n:Int)<=i then some (i+n).toNat else none
def fF{α:Type}(xs:List α)(i:Int):Option α:=(GM xs.length i).bind λj=>xs[j]?
theorem zW(h:GM n i=some j):seqIndex? i n=some j/\j<n/\-(n:Int)<=i/\i<n:=by
 unfold GM at h;by_cases h0:0<=i
 ·rw[if_pos h0]at h
  by_cases h1:i<n
  ·rw[if_pos h1]at h
   have e:i.toNat=j:=VX h;exact⟨by rw[seqIndex_of h0 h1,e],by lia,by lia,h1⟩
  ·rw[if_neg h1]at h;cases h
 ·rw[if_neg h0]at h
  by_cases h1:-(n:Int)<=i
  ·rw[if_pos h1]at h
   have e:(i+n).toNat=j:=VX h;exact⟨by rw[seqIndex_neg (by lia) h1,e],by lia,h1,by lia⟩
  ·rw[if_neg h1]at h;cases h
theorem uX{q:Type}{xs:List q}{i:Int}{v:q}(h:fF xs i=some v):∃j,seqIndex? i xs.length=some j/\xs[j]?=some v/\j<xs.length/\-(xs.length:Int)<=i/\i<xs.length:=by
 unfold fF at h;cases e:GM xs.length i with
 | none=>rw[e]at h;cases h
 | some j=>
  rw[e]at h;obtain⟨h1,h2,G,z⟩:=zW e;exact⟨j,h1,h,h2,G,z⟩
theorem bD{q:Type}{xs:List q}{j:Nat}{v:q}(h:xs[j]?=some v):fF xs (j:Int)=some v:=by
 have z:j<xs.length:=(List.getElem?_eq_some_iff.mp h).1;have e:GM xs.length (j:Int)=some j:=by
  unfold GM;rw[if_pos (by lia),if_pos (by lia)];simp
 unfold fF;rw[e];exact h
def uW(b:Expr):Prop:=∀o i,zab b false o i=operate [o,i] (XH o i)
def IxR(X:Cx)(r:R2):Prop:=
 ∀(value slice:Expr) (pins:List (Addr×Obj)) (s:U2) (σ:St) (H:Hp) (x y:V) (v u:Value) (Q:VK),Inv X pins σ H s->RelV x v->RelV y u->r x y H Q->
  zab slice false v u=operate [v,u] (XH v u)->wpAny (model X.prog X.w) X.A (subscriptTail value slice v u) (EP X pins σ Q) X.xe s
def MtR(X:Cx)(id:String)(r:V->List V->Hp->VK->Prop):Prop:=
 ∀(pins:List (Addr×Obj)) (s:U2) (σ:St) (H:Hp) (x:V) (xs:List V) (v:Value) (us:List Value) (Q:VK),Inv X pins σ H s->RelV x v->Vals xs us->r x xs H Q->
  wpAny (model X.prog X.w) X.A (call (.builtin id) (v::us)) (EP X pins σ Q) X.xe s
section
variable {X:Cx}{a b:Expr}{ta tb:TE}{pos:Pos}
theorem IxR.or(h:IxR X r)(h':IxR X r'):IxR X (λx y H Q=>r x y H Q\/r' x y H Q):=by
 intro value z pins s σ H x y v u Q I J G q hs;rcases q with q|q
 ·exact h value z pins s σ H x y v u Q I J G q hs
 ·exact h' value z pins s σ H x y v u Q I J G q hs
theorem MtR.or{id:String}{r z:V->List V->Hp->VK->Prop}(h:MtR X id r)(h':MtR X id z):MtR X id (λx xs H Q=>r x xs H Q\/z x xs H Q):=by
 intro pins s σ H x xs v G Q I J N q;rcases q with q|q
 ·exact h pins s σ H x xs v G Q I J N q
 ·exact h' pins s σ H x xs v G Q I J N q
theorem QK(Y:IxR X r)(z:PE X a ta)(N:PE X b tb)(hs:uW b):PE X (.Subscript a b pos) (OQ r ta tb):=by
 intro pins s σ H Q I h;exact Subscript_ (OD z N I h λv u J x y H2 U G W q=>Y a b pins J σ H2 x y v u Q U G W q (hs _ _))
def Q8(K:U3):R2:=λx y H Q=>∃p xs i v,x=.ref p/\y=.int i/\SqL K H p xs/\fF xs i=some v/\Q v H
def RB(K:U3):R2:=λx y H Q=>∃p xs i v,x=.ref p/\y=.int i/\SqT K H p xs/\fF xs i=some v/\Q v H
def RC:R2:=λx y H Q=>∃z i c,x=.str z/\y=.int i/\z.length<=VA/\fF z.cps.toList i=some c/\Q (.str ⟨#[c]⟩) H
theorem JI:IxR X (Q8 X.K):=by
 intro value J pins s σ H x y v u Q I rx ry h hs;obtain⟨p,xs,i,z,rfl,rfl,hq,he,q⟩:=h;cases rx;obtain⟨t,rfl⟩:=ry;obtain⟨W,r,N,hz⟩:=I.list hq;obtain⟨j,h1,h2,h3,h4,h5⟩:=uX he;obtain⟨w,Y,U⟩:=r.get h2;have hl:=r.length;have hn:=qW;have fin:EP X pins σ Q w s:=⟨z,H,I,U,q⟩;by_cases h0:0<=i
 ·have G:i.toNat=j:=by
   rw[seqIndex_of h0 h5]at h1;exact VX h1
  exact item_listR N.isList h0 (by lia) (by rw[G];simpa using Y) fin hs
 ·have G:(i+(W.toArray.size:Int)).toNat=j:=by
   rw[seqIndex_neg (by lia) h4]at h1;rw[VJ,<- hl];exact VX h1
  exact subscriptTail_builtinR (x:=w) N.isList.typeIs slot_list_getitem.lookup
   (wpAny_getItem_list_neg (Q:=λr s'=>r=w/\EP X pins σ Q r s') N.isList (by lia) (by rw[VJ] <;> lia) (by lia) (by rw[G];simpa using Y) ⟨rfl,fin⟩) hs
theorem LW:IxR X (RB X.K):=by
 intro value G pins s σ H x y v u Q I U ry h hs;obtain⟨p,xs,i,z,rfl,rfl,Y,he,q⟩:=h;cases U;obtain⟨t,rfl⟩:=ry;obtain⟨aa,r,N,hz⟩:=I.tuple Y;obtain⟨j,h1,h2,h3,h4,h5⟩:=uX he;obtain⟨w,W,J⟩:=r.get h2;have hl:=r.length;have hn:=qW;have fin:EP X pins σ Q w s:=⟨z,H,I,J,q⟩;exact subscriptTail_builtinR (x:=w) N.typeIs slot_tuple_getitem.lookup
  (getItem_tuple (j:=j) (Q:=λr s'=>r=w/\EP X pins σ Q r s') N (by lia) (by lia) (by rw[VJ,<- hl];exact h1) (by simpa using W) ⟨rfl,fin⟩) hs
theorem L4:IxR X RC:=by
 intro value G pins s σ H x y v u Q I N ry h hs;obtain⟨z,i,c,rfl,rfl,hz,he,q⟩:=h;obtain⟨t,rfl⟩:=N;obtain⟨t',rfl⟩:=ry;obtain⟨j,h1,h2,h3,U,J⟩:=uX he;have Y:z.cps.toList.length=z.length:=by simp[Str.length]
 rw[Y]at h1 U J;have hn:=qW;exact tail_any (typeIs_str s z t) slot_str_getitem.lookup (getItem_str (c:=c) (by
  have W:decide (i < -(2^63:Int))=false:=decide_eq_false (by lia);have e2:decide (i ≥ 2^63)=false:=decide_eq_false (by lia);rw[W,e2,Bool.or_false]) (by rw[h1];simpa using h2) ⟨.str ⟨#[c]⟩,H,I.tok _,⟨_,rfl⟩,q⟩) hs
def UT(K:U3):R2:=λx y H Q=>Q8 K x y H Q\/RB K x y H Q\/RC x y H Q
theorem LS:IxR X (UT X.K):=JI.or (LW.or L4)
theorem yB(q:List Value)(n j:Nat)(u:Value):ZH (·.setIfInBounds j u) {cls:=.type "list",data:=.seq q.toArray n}={cls:=.type "list",data:=.seq (q.set j u).toArray n}:=by
 simp[ZH]
theorem Inv.lst{pins:List (Addr×Obj)}{σ:St}{H:Hp}{s:U2}{p:Addr}{xs:List V}(I:Inv X pins σ H s)(h:H p=some (.lst xs)) :
  ∃(q:List Value) (n:Nat),Vals xs q/\s.heap.get? p=some {cls:=.type "list",data:=.seq q.toArray n}/\xs.length<=VA:=by
 obtain⟨z,q,n,r,e⟩:=I.hok p _ h;exact⟨q,n,r,e,z⟩
theorem Inv.lstUpd{pins:List (Addr×Obj)}{xs ys:List V}{z its':List Value}{n G:Nat}{f:Obj->Obj}(I:Inv X pins σ H s)(h:H p=some (.lst xs))
  (W:s.heap.get? p=some {cls:=.type "list",data:=.seq z.toArray n}) (J:f {cls:=.type "list",data:=.seq z.toArray n}={cls:=.type "list",data:=.seq its'.toArray G}) (r:Vals ys its') (N:ys.length<=VA) (t:Nat) :
  Inv X pins σ (upd H p (.lst ys)) {s with heap:=s.heap.update p f,toks:=t}:=by
 have e:(s.heap.update p f).get? p=some {cls:=.type "list",data:=.seq its'.toArray G}:=by
  rw[YJ f W (by rw[J] <;> rfl),J]
 refine I.write (x:=p) (e:=p) (by rw[h];trivial) (.inl rfl) (λb u U q=>(W8 _ _ (VZ U)).trans q) ⟨_,e⟩ ?_;exact⟨N,its',G,r,e⟩
def P4:V->V->V->Hp->(Hp->Prop)->Prop:=λo i v H Q=>∃p xs k j,o=.ref p/\i=.int k/\H p=some (.lst xs)/\GM xs.length k=some j/\Q (upd H p (.lst (xs.set j v)))
theorem set_list:J9 X P4:=by
 intro pins s σ H o i v ov iv u Q I ro ri rv h;obtain⟨p,xs,k,j,rfl,rfl,Y,hj,q⟩:=h;cases ro;obtain⟨t,rfl⟩:=ri;obtain⟨z,n,r,N,hz⟩:=I.lst Y;obtain⟨h1,h2,h3,U⟩:=zW hj;have J:=r.length;have hn:=qW;have I':Inv X pins σ (upd H p (.lst (xs.set j v))) {s with heap:=s.heap.update p (ZH (·.setIfInBounds j u))}:=
  I.lstUpd Y N (yB z n j u) (r.set rv j) (by rw[zac];exact hz) s.toks
 by_cases h0:0<=k
 ·have G:k.toNat=j:=by
   rw[seqIndex_of h0 U]at h1;exact VX h1
  exact PySem.W.ki_setAt N h0 (by lia) (by rw[VJ,<- J];exact U) (by rw[G];exact⟨_,I',q⟩)
 ·have G:(k+(z.toArray.size:Int)).toNat=j:=by
   rw[seqIndex_neg (by lia) h3]at h1;rw[VJ,<- J];exact VX h1
  exact PySem.W.ki_setBack N (by lia) (by rw[VJ,<- J];exact h3) (by lia) (by rw[G];exact⟨_,I',q⟩)
theorem uG(lo hi:Option Int)(n:Nat):(XI lo hi none n).1=((HT.sIx n 0 lo:Nat):Int)/\(XI lo hi none n).2.1=((HT.sIx n n hi:Nat):Int)/\(XI lo hi none n).2.2=1:=by
 refine⟨?_,?_,rfl⟩
 ·cases lo with
  | none=>simp[XI,HT.sIx]
  | some i=>
   simp only[XI,HT.sIx,Option.getD_none,show(1:Int)>0 by decide,if_true];by_cases h:i<0
   ·simp only[h,if_true] <;> lia
   ·simp only[h,if_false] <;> lia
 ·cases hi with
  | none=>simp[XI,HT.sIx]
  | some i=>
   simp only[XI,HT.sIx,Option.getD_none,show(1:Int)>0 by decide,if_true];by_cases h:i<0
   ·simp only[h,if_true] <;> lia
   ·simp only[h,if_false] <;> lia
theorem rM(q:List Value)(lo hi:Option Int):slicePick q.toArray lo hi none=((q.drop (HT.sIx q.length 0 lo)).take (HT.sIx q.length q.length hi-HT.sIx q.length 0 lo)).toArray:=by
 obtain⟨h1,h2,z⟩:=uG lo hi q.toArray.size;unfold slicePick;rw[h1,h2,z];simp only[sliceRange_one,pick_run,VJ] <;> rfl
def R6(K:U3):V->Option Int->Option Int->Hp->VK->Prop:=λx lo hi H Q=>∃a xs,x=.ref a/\SqL K H a xs/\∀p,H p=none->Q (.ref p) (upd H p (.lst (sC xs lo hi)))
theorem HC:SlR X (R6 X.K):=by
 intro pins s σ H x v vl vu lo hi sl Q I J hs U N h;obtain⟨a,xs,rfl,hx,q⟩:=h;cases J;obtain⟨Y,r,G,W⟩:=I.list hx;have z:=r.length;refine⟨"list",_,slot_list_getitem.lookup,G.isList.typeIs,?_⟩;refine wpAny_getItem_list_slice G.isList hs U N .none (by simp) ?_ (by rw[VJ] <;> lia);rw[rM,<- z];refine⟨.ref s.heap.objs.size,_,I.laid (t':=s.toks) (o:=.lst (sC xs lo hi)) (λb ob q=>VI _ q) (VG _) ?_,rfl,q _ (I.hok.fresh (VG _))⟩;exact⟨WC (oH xs lo hi) W,_,0,(r.drop (HT.sIx xs.length 0 lo)).take (HT.sIx xs.length xs.length hi-HT.sIx xs.length 0 lo),V3 _ rfl⟩
noncomputable def nE:V->Bool
 | .non=>true
 | .bl _=>true
 | .int _=>true
 | .str _=>true
 | _=>false
noncomputable def LK:V->V->Bool
 | .non,.non=>true
 | .bl a,.bl b=>a == b
 | .bl a,.int b=>(if a then 1 else 0) == b
 | .int a,.bl b=>a == (if b then 1 else 0)
 | .int a,.int b=>a == b
 | .str a,.str b=>a == b
 | _,_=>false
theorem MN(z:RelV y u)(q:RelV x v)(G:nE y=true)(fx:nE x=true):ZF A s u v (LK y x):=by
 cases y with
 | non=>
  cases z;cases x with
  | non=>cases q;exact SeqAt.EqAt.same _
  | bl b=>cases q;exact SeqAt.EqAt.none_bool b
  | int b=>obtain⟨t,rfl⟩:=q;exact SeqAt.EqAt.none_int b t
  | str b=>obtain⟨t,rfl⟩:=q;exact SeqAt.EqAt.none_str b t
  | _=>exact absurd (show false=true from fx) VH
 | bl a=>
  cases z;cases x with
  | non=>cases q;exact SeqAt.EqAt.bool_none a
  | bl b=>cases q;exact SeqAt.EqAt.bool_bool a b
  | int b=>obtain⟨t,rfl⟩:=q;exact SeqAt.EqAt.bool_int a b t
  | str b=>obtain⟨t,rfl⟩:=q;exact SeqAt.EqAt.bool_str a b t
  | _=>exact absurd (show false=true from fx) VH
 | int a=>
  obtain⟨t',rfl⟩:=z;cases x with
  | non=>cases q;exact SeqAt.EqAt.int_none a t'
  | bl b=>cases q;exact SeqAt.EqAt.int_bool a t' b
  | int b=>obtain⟨t,rfl⟩:=q;exact SeqAt.EqAt.int_int a t' b t
  | str b=>obtain⟨t,rfl⟩:=q;exact SeqAt.EqAt.int_str a t' b t
  | _=>exact absurd (show false=true from fx) VH
 | str a=>
  obtain⟨t',rfl⟩:=z;cases x with
  | non=>cases q;exact SeqAt.EqAt.str_none a t'
  | bl b=>cases q;exact SeqAt.EqAt.str_bool a t' b
  | int b=>obtain⟨t,rfl⟩:=q;exact SeqAt.EqAt.str_int a t' b t
  | str b=>obtain⟨t,rfl⟩:=q;exact SeqAt.EqAt.str_str a t' b t
  | _=>exact absurd (show false=true from fx) VH
 | _=>exact absurd (show false=true from G) VH
def KP(x:V)(u:Value):Bool:=match u with
 | .none=>LK .non x
 | .bool b=>LK (.bl b) x
 | .int i _=>LK (.int i) x
 | .str z _=>LK (.str z) x
 | _=>false
theorem FD(r:RelV y u)(f:nE y=true):KP x u=LK y x:=by
 cases y with
 | non=>cases r;rfl
 | bl b=>cases r;rfl
 | int i=>obtain⟨t,rfl⟩:=r;rfl
 | str z=>obtain⟨t,rfl⟩:=r;rfl
 | _=>exact absurd (show false=true from f) VH
theorem uN:∀ {xs:List V} {us:List Value},Vals xs us->xs.all nE=true->us.any (KP x)=xs.any λy=>LK y x
 | _,_,.nil,_=>rfl
 | y::xs,u::us,.cons r t,f=>by
  rw[ZI,WD]at f;rw[WJ,WJ,FD r f.1,uN t f.2]
theorem qB(z:RelV x v)(fx:nE x=true):∀ {xs:List V} {us:List Value},Vals xs us->xs.all nE=true->∀u∈us,ZF A s u v (KP x u)
 | _,_,.nil,_=>λu q=>by cases q
 | y::xs,u::us,.cons r t,f=>λG q=>by
  rw[ZI,WD]at f;rcases List.mem_cons.mp q with rfl|q
  ·rw[FD r f.1];exact MN r z f.1 fx
  ·exact qB z fx t f.2 G q
def inV(x:V)(xs:List V):Bool:=xs.any λy=>LK y x
def UH(K:U3)(neg:Bool):R2:=λx y H Q=>∃p xs,y=.ref p/\(SqL K H p xs\/SqT K H p xs)/\nE x=true/\xs.all nE=true/\Q (.bl (if neg then !inV x xs else inV x xs)) H
theorem CB:OpR X (VF .In) (UH X.K false):=by
 intro pins s σ H x y v u Q I N W h;obtain⟨p,xs,rfl,G,fx,fs,q⟩:=h;cases W;rcases G with G|G
 ·obtain⟨z,r,J,U⟩:=I.list G
  refine SeqAt.in_listAt (KP x) J.isList (λw hw=>qB N fx r fs w (by simpa using hw)) ⟨.bl _,H,I,rfl,?_⟩;rw[show z.toArray.any (KP x)=z.any (KP x) by simp,uN r fs];exact q
 ·obtain⟨z,r,J,U⟩:=I.tuple G
  refine SeqAt.in_tupleAt (KP x) J (λw hw=>qB N fx r fs w (by simpa using hw)) ⟨.bl _,H,I,rfl,?_⟩;rw[show z.toArray.any (KP x)=z.any (KP x) by simp,uN r fs];exact q
theorem uJ:OpR X (VF .NotIn) (λx y H Q=>∃i j,x=.str i/\y=.str j/\Q (.bl (!(!(Z3 j i 0 j.length 1).isEmpty))) H):=by
 intro pins s σ H x y v u Q I G z h;obtain⟨i,j,rfl,rfl,q⟩:=h;obtain⟨t,rfl⟩:=G;obtain⟨t',rfl⟩:=z;exact notIn_str ⟨.bl _,H,I,rfl,q⟩
theorem CallR.or(h:CallR X f r)(h':CallR X f r'):CallR X f (λxs H Q=>r xs H Q\/r' xs H Q):=by
 intro pins s σ H xs z Q I G q;rcases q with q|q
 ·exact h pins s σ H xs z Q I G q
 ·exact h' pins s σ H xs z Q I G q
theorem uE:CallR X (.type "list") (λxs H Q=>∃p ys,xs=[.ref p]/\(SqL X.K H p ys\/SqT X.K H p ys)/\∀l,H l=none->Q (.ref l) (upd H l (.lst ys))):=by
 intro pins s σ H xs us Q I r h;obtain⟨p,ys,rfl,Y,q⟩:=h;obtain⟨u,rfl,rx⟩:=vals1 r;cases rx;have fin:∀(z:List Value),Vals ys z->ys.length<=VA->∀(h':Heap) (J:Nat),(∀b o',s.heap.get? b=some o'->h'.get? b=some o')->
   h'.get? s.heap.objs.size=some {cls:=.type "list",dict:=none,data:=.seq z.toArray J,slots:=#[]}->EP X pins σ Q (.ref s.heap.objs.size) {s with heap:=h'}:=λz G W h' J N e=>
  ⟨.ref s.heap.objs.size,_,I.laid (t':=s.toks) N (VG _) (show ObjOk X.prog X.w _ h' _ (.lst ys)from⟨W,z,J,G,e⟩),rfl,q _ (I.hok.fresh (VG _))⟩
 rcases Y with Y|Y
 ·obtain⟨z,G,pl,W⟩:=I.list Y
  have U:=G.length;obtain⟨o,ho,hc,n,hd⟩:=pl.isList;exact call_list_seq p (.inl rfl) ho hc hd (λh' J N e=>fin z G W h' J N e) (by simp only[VJ] <;> lia)
 ·obtain⟨z,G,pl,W⟩:=I.tuple Y
  have U:=G.length;obtain⟨o,ho,hc,n,hd⟩:=pl;exact call_list_seq p (.inr rfl) ho hc hd (λh' J N e=>fin z G W h' J N e) (by simp only[VJ] <;> lia)
theorem rR:CallR X (.type "tuple") (λxs H Q=>∃p ys,xs=[.ref p]/\((SqL X.K H p ys/\∀l,H l=none->Q (.ref l) (upd H l (.tup ys)))\/(SqT X.K H p ys/\Q (.ref p) H))):=by
 intro pins s σ H xs us Q I r h;obtain⟨p,ys,rfl,h⟩:=h;obtain⟨u,rfl,rx⟩:=vals1 r;cases rx;rcases h with⟨N,q⟩|⟨N,q⟩
 ·obtain⟨z,G,J,W⟩:=I.list N
  have U:=G.length;refine call_tuple_list J.isList (λh' kp=>?_) (by simp only[VJ] <;> lia);have Y:Inv X pins σ H {s with heap:=h'}:=I.kept (t':=s.toks) kp;have I2:Inv X pins σ (upd H h'.objs.size (.tup ys)) {s with heap:=h'.push {cls:=.type "tuple",data:=.seq z.toArray} }:=
   Y.laid (t':=s.toks) (λb o e=>VI _ e) (VG _) (show ObjOk X.prog X.w _ _ _ (.tup ys)from⟨W,z,G,IsTupN.new _ _⟩)
  exact⟨.ref h'.objs.size,_,I2,rfl,q _ (Y.hok.fresh (VG _))⟩
 ·obtain⟨z,G,J,W⟩:=I.tuple N
  exact call_tuple_same J ⟨.ref p,H,I,rfl,q⟩
def T7(K:U3)(T:String)(x:V)(H:Hp):Prop:=match x with
 | .str _=>T = "str"
 | .int _=>T = "int"
 | .ref p=>(T = "list" /\ ∃xs,SqL K H p xs)\/(T = "tuple" /\ ∃o,K.lookup p=some o/\o.cls=.type "tuple" /\ o.dict=none) \/
   (T = "dict" /\ ((∃kvs,H p=some (.dK kvs))\/∃kvs,H p=some (.dT kvs)))\/(T = "set" /\ ∃S n,H p=some (.set S n))
 | _=>False
theorem NE(I:Inv X pins σ H s)(r:RelV x v)(ty:T7 X.K T x H) :
  s.TypeIs v T/\∀a,v=.ref a->∃ob,s.heap.get? a=some ob/\ob.dict=none:=by
 cases x with
 | str z=>
  obtain⟨t,rfl⟩:=r;cases(show T = "str" from ty);exact⟨typeIs_str s z t,λ_ e=>nomatch e⟩
 | int i=>
  obtain⟨t,rfl⟩:=r;cases(show T = "int" from ty);exact⟨ZJ s i t,λ_ e=>nomatch e⟩
 | ref p=>
  cases r;rcases ty with⟨rfl,xs,U⟩|⟨rfl,o,q,Y,G⟩|⟨rfl,q⟩|⟨rfl,S,n,q⟩
  ·obtain⟨W,_,N,_⟩:=I.list U
   refine⟨N.isList.typeIs,λa e=>?_⟩;cases e;obtain⟨o,n,e,c,G,_⟩:=N;exact⟨o,e,G⟩
  ·refine⟨⟨o,I.kIn p o q,Y⟩,λa e=>?_⟩
   cases e;exact⟨o,I.kIn _ o q,G⟩
  ·have z:∃o,s.heap.get? p=some o/\o.ExactDict:=by
    rcases q with⟨kvs,q⟩|⟨kvs,q⟩
    ·obtain⟨_,_,_,_,o,_,_,e,ex,_⟩:=I.hok p _ q
     exact⟨o,e,ex⟩
    ·obtain⟨_,_,_,_,o,_,_,e,ex,_⟩:=I.hok p _ q
     exact⟨o,e,ex⟩
   obtain⟨o,e,ex⟩:=z;refine⟨⟨o,e,ex.1⟩,λa J=>?_⟩;cases J;exact⟨o,e,ex.2.1⟩
  ·obtain⟨o,_,_,_,e,ex,_⟩:=I.hok p _ q
   refine⟨⟨o,e,ex.1⟩,λa J=>?_⟩;cases J;exact⟨o,e,ex.2.1⟩
 | _=>exact V1 ty
def T5(K:U3)(T:String)(r:V->List V->Hp->VK->Prop)(to:TE)(t:TA):TE:=λσ H Q=>to σ H λx H1=>T7 K T x H1/\t σ H1 λxs H2=>r x xs H2 Q
variable {o e:Expr}{es:List Expr}{to:TE}{t:TA}{name:Str}{apos cpos:Pos}{T id:String}{r:V->List V->Hp->VK->Prop}
theorem FU(pa:PlainAttrs T)(N:Slot T name id)(U:typeOf (.builtin id)=pure (.type "method_descriptor"))(hm:MtR X id r)(ho:PE X o to)(ha:PA X (e::es) t)
  (z:attributeBase o name X.env (eval o X.env)=eval o X.env:=by rfl)
  (J:((VU cpos (U8 (e::es) X.env)).all (λx => !x.1) && (YE cpos (YF [] X.env)).all (λx => x.1.isSome)
   && decide ((e::es).length+([]:List X5).length+(if([]:List X5).isEmpty then 0 else 1)<30))=true:=by rfl)
  (G:(apos.endLine == cpos.line)=true:=by rfl) (hs:U8 (e::es) X.env=(false,eval e X.env)::U8 es X.env:=by rfl) (q:(VU cpos (U8 es X.env)).any (·.1)=false:=by rfl) :
  PE X (.Call (.Attribute o name apos) (e::es) [] cpos) (T5 X.K T r to t):=by
 intro pins s σ H Q I h;refine wpAny_Call_method_late z J G rfl (b7 (ho pins s σ H _ I h) λv s1 ⟨x,H1,Y,W,ty,q1⟩=>?_);obtain⟨h1,h2⟩:=NE Y W ty;refine⟨T,id,pa,N,U,h1,h2,?_⟩;have hA:=ha cpos pins s1 σ H1 _ Y q1;rw[hs]at hA ⊢;refine Calls.callWith_builtin (by show(false || (VU cpos (U8 es X.env)).any (·.1))=false;rw[q] <;> rfl) (Calls.evalArgs_plain ?_);exact b7 hA λus s2 ⟨vs,H2,I2,r2,q2⟩=>hm pins s2 σ H2 x vs v us Q I2 W r2 q2
end
def T8(X:Cx)(id:String)(r:V->List V->Hp->VK->Prop):Prop:=
 ∀(pins:List (Addr×Obj)) (s:U2) (σ:St) (H:Hp) (x:V) (xs:List V) (v:Value) (us:List Value) (Q:VK),Inv X pins σ H s->RelV x v->Vals xs us->r x xs H Q->
  wpAny (model X.prog X.w) X.A (call (.builtin id) (v::us)) (EP X pins σ Q) X.xe s
theorem Vals.one:∀ {x:V} {us:List Value},Vals [x] us->∃u,us=[u]/\RelV x u
 | _,_,.cons r .nil=>⟨_,rfl,r⟩
theorem Vals.rep(h:Vals xs us):∀k:Nat,Vals (V6 k xs).flatten (V6 k us).flatten
 | 0=>.nil
 | k+1=>by
  rw[YK,YK,Y0,Y0];exact Vals.append h (Vals.rep h k)
theorem foldl_rep(q:List Value):∀(k:Nat) (acc:List Value),
  List.foldl (λz G=>z++G) acc.toArray (V6 k q.toArray)=(acc++(V6 k q).flatten).toArray
 | 0,acc=>by simp
 | k+1,acc=>by
  have e:acc.toArray++q.toArray=(acc++q).toArray:=by simp
  have J:(acc++q)++(V6 k q).flatten=acc++(V6 (k+1) q).flatten:=by
   rw[YK,Y0,zaM]
  rw[<- J,<- foldl_rep q k (acc++q),<- e,YK,zad]
section
variable {X:Cx}{pins:List (Addr×Obj)}{σ:St}{H:Hp}{s:U2}{l b:Addr}{xs ys zs:List V}
theorem Inv.lset{z its':List Value}{n:Nat}{f:Array Value->Array Value}{t':Nat}(I:Inv X pins σ H s)(Y:H l=some (.lst xs))
  (e:s.heap.get? l=some {cls:=.type "list",data:=.seq z.toArray n}) (G:f z.toArray=its'.toArray) (W:Vals ys its') (J:ys.length<=VA) :
  Inv X pins σ (upd H l (.lst ys)) {s with heap:=s.heap.update l (ZH f),toks:=t'}:=by
 have q:=PySem.IsL.update e f;rw[G]at q;refine I.write (x:=l) (e:=l) (by rw[Y];exact trivial) (.inl rfl) (λb' u N U=>(W8 s.heap (ZH f) (VZ N)).trans U) ⟨_,q⟩ ?_;exact⟨J,its',_,W,q⟩
theorem Inv.lnew(I:Inv X pins σ H s)(z:Vals ys its)(G:ys.length<=VA) :
  Inv X pins σ (upd H s.heap.objs.size (.lst ys)) {s with heap:=s.heap.push {cls:=.type "list",data:=.seq its.toArray},toks:=t'}:=
 I.laid (λ_ _ q=>VI _ q) (VG _) ⟨G,its,0,z,V3 _ rfl⟩
theorem Inv.fresh(I:Inv X pins σ H s):H s.heap.objs.size=none:=I.hok.fresh (VG _)
theorem Inv.lstM(I:Inv X pins σ H s)(G:H l=some (.lst xs)):xs.length<=VA/\∃(q:List Value) (n:Nat),Vals xs q/\xs.length=q.length/\s.heap.get? l=some {cls:=.type "list",data:=.seq q.toArray n}:=by
 obtain⟨z,q,n,r,e⟩:=I.hok l _ G;exact⟨z,q,n,r,r.length,e⟩
theorem D2(h:n<=VA):zaN n=false:=by
 unfold zaN;exact decide_eq_false (by lia)
end
section
variable {X:Cx}
def zC:V->List V->Hp->VK->Prop:=λx vs H Q=>∃l xs y,x=.ref l/\vs=[y]/\H l=some (.lst xs)/\xs.length<VA/\Q .non (upd H l (.lst (xs++[y])))
theorem sH:T8 X "list.append" zC:=by
 intro pins s σ H x vs v us Q I N U h;obtain⟨l,xs,y,rfl,rfl,J,hz,q⟩:=h;cases N;obtain⟨u,rfl,W⟩:=U.one;obtain⟨z,G,n,r,Y,e⟩:=I.lstM J;refine call_meets F.slot_list_append ⟨_,e,rfl⟩ F.entry_list_append (F.args_list_append_2 _ _) (PySem.list_append l G.toArray n u (by rw[VJ];lia)) ⟨e,?_⟩;refine⟨.non,_,I.lset (its':=G++[u]) J e (by simp) (r.append (.cons W .nil)) ?_,rfl,q⟩;rw[WV,List.length_singleton]
 lia
theorem len_rep{q:Type}(xs:List q)(k:Nat):(V6 k xs).flatten.length=k*xs.length:=by
 induction k with
 | zero=>simp
 | succ k ih=>rw[YK,Y0,WV,ih,Nat.succ_mul,Nat.add_comm]
end
section
variable {prog:U7}{w:World}{A:VC}{E:Value->U2->Prop}{s:U2}
end
section
variable {X:Cx}
end
section
variable {κ:Type}[DecidableEq κ]
noncomputable def nG(kvs:List (κ×V))(k:κ):Option V:=(kvs.find? λq=>decide (q.1=k)).map (·.2)
noncomputable def putK(kvs:List (κ×V))(k:κ)(v:V):List (κ×V):=
 if(kvs.any λq=>decide (q.1=k))=true then kvs.map (λq=>if q.1=k then(q.1,v)else q)else kvs++[(k,v)]
noncomputable def K9(kvs:List (κ×V))(k:κ):List (κ×V):=kvs.filter λq=>decide (q.1≠k)
theorem mT{p:κ×V}{r:List (κ×V)}{k:κ}(e:p.1=k):nG (p::r) k=some p.2:=by simp[nG,W1,e]
theorem mU{p:κ×V}{r:List (κ×V)}{k:κ}(e:¬ p.1=k):nG (p::r) k=nG r k:=by simp[nG,W1,e]
theorem wC(k:κ):∀kvs:List (κ×V),(kvs.any λq=>decide (q.1=k))=(nG kvs k).isSome
 | []=>rfl
 | p::r=>by
  rw[WJ];by_cases e:p.1=k
  ·simp only[mT e,decide_eq_true e,Bool.true_or,Option.isSome_some]
  ·rw[mU e,decide_eq_false e,zae];exact wC k r
theorem oN(kvs:List (κ×V))(k:κ)(v:V):(putK kvs k v).length<=kvs.length+1:=by
 unfold putK;split
 ·rw[VL];lia
 ·rw[WV,WI,ZG];lia
theorem RelO.isSome_eq(r:RelO o u):o.isSome=u.isSome:=by
 cases o with
 | none=>cases u with
  | none=>rfl
  | some _=>exact(show False from r).elim
 | some _=>cases u with
  | none=>exact(show False from r).elim
  | some _=>rfl
theorem RelO.getD(r:RelO o u)(q:RelV d d'):RelV (o.getD d) (u.getD d'):=by
 cases o with
 | none=>cases u with
  | none=>exact q
  | some _=>exact(show False from r).elim
 | some _=>cases u with
  | none=>exact(show False from r).elim
  | some _=>exact r
theorem KV.val(r:KV kvs vs)(k:κ):RelO (nG kvs k) (XJ vs k):=by
 unfold KV at r;induction r with
 | nil=>exact YL
 | @cons p q ps qs h t ih=>
  obtain⟨h1,h2⟩:=h;by_cases e:p.1=k
  ·have G:q.1=k:=h1.symm.trans e
   have b:XJ (q::qs) k=some q.2:=by simp[XJ,W1,G]
   rw[mT e,b];exact h2
  ·have G:¬ q.1=k:=λz=>e (h1.trans z)
   have b:XJ (q::qs) k=XJ qs k:=by simp[XJ,W1,G]
   rw[mU e,b];exact ih
theorem KV.any(r:KV kvs vs)(k:κ):(kvs.any λq=>decide (q.1=k))=vs.any λq=>decide (q.1=k):=by
 unfold KV at r;induction r with
 | nil=>rfl
 | cons h t ih=>rw[WJ,WJ,ih,h.1]
theorem KV.repl(r:KV kvs vs)(k:κ)(J:RelV y u) :
  KV (kvs.map λG=>if G.1=k then(G.1,y)else G) (vs.map λG=>if G.1=k then(G.1,u)else G):=by
 unfold KV at r ⊢;induction r with
 | nil=>exact .nil
 | @cons p q ps qs h t ih=>
  rw[V0,V0];refine .cons ?_ ih;obtain⟨h1,h2⟩:=h;by_cases e:p.1=k
  ·rw[if_pos e,if_pos (h1.symm.trans e)];exact⟨h1,J⟩
  ·rw[if_neg e,if_neg (λz=>e (h1.trans z))];exact⟨h1,h2⟩
theorem KV.put(r:KV kvs vs)(k:κ)(q:RelV y u):KV (putK kvs k y) (stored vs k u):=by
 unfold putK stored;rw[r.any k];by_cases e:(vs.any λz=>decide (z.1=k))=true
 ·rw[if_pos e,if_pos e];exact r.repl k q
 ·rw[if_neg e,if_neg e];exact Paired.snoc r ⟨rfl,q⟩
theorem KV.drop(r:KV kvs vs)(k:κ):KV (K9 kvs k) (without vs k):=by
 unfold KV at r ⊢;unfold K9 without;induction r with
 | nil=>exact .nil
 | @cons p q ps qs h t ih=>
  obtain⟨h1,h2⟩:=h;rw[List.filter_cons,List.filter_cons];by_cases e:p.1=k
  ·have a:¬ decide (p.1≠k)=true:=by simp[e]
   have b:¬ decide (q.1≠k)=true:=by simp[h1.symm.trans e]
   rw[if_neg a,if_neg b];exact ih
  ·have G:¬ q.1=k:=λz=>e (h1.trans z)
   have a:decide (p.1≠k)=true:=by simp[e]
   have b:decide (q.1≠k)=true:=by simp[G]
   rw[if_pos a,if_pos b];exact .cons ⟨h1,h2⟩ ih
theorem KV.length(r:KV kvs vs):kvs.length=vs.length:=ZV r
end
theorem rG(r:RelV (kV k) u):(bK P w).is k u=true:=by
 cases k with
 | inl i=>obtain⟨t,e⟩:=(show ∃t,u=Value.int i t from r);subst e;exact vU P w i t
 | inr x=>obtain⟨t,e⟩:=(show ∃t,u=Value.str x t from r);subst e;exact vW P w x t
theorem sY:∀ {ks:List Key} {us:List Value},Vals (ks.map kV) us->ItemsAre (bK P w) ks us
 | [],_,r=>by rw[List.map_nil]at r;cases r;exact .nil
 | k::ks,_,r=>by
  rw[V0]at r;cases r with
  | cons h t=>exact .cons (rG h) (sY t)
abbrev KT(H:Hp):List (List Key×V)->List (List Key×Addr×Value)->Prop:=Paired λp q=>p.1=q.1/\H q.2.1=some (.tup (p.1.map kV))/\RelV p.2 q.2.2
theorem KT.val(r:KT H kvs xs)(k:List Key):RelO (nG kvs k) ((atKey xs k).map (·.2)):=by
 induction r with
 | nil=>exact YL
 | @cons p q ps qs h t ih=>
  obtain⟨h1,_,h2⟩:=h;by_cases e:p.1=k
  ·have G:q.1=k:=h1.symm.trans e
   have b:atKey (q::qs) k=some q.2:=by simp[atKey,W1,G]
   rw[mT e,b];exact h2
  ·have G:¬ q.1=k:=λz=>e (h1.trans z)
   have b:atKey (q::qs) k=atKey qs k:=by simp[atKey,W1,G]
   rw[mU e,b];exact ih
theorem KT.repl(r:KT H kvs xs)(k:List Key)(J:RelV y u) :
  KT H (kvs.map λG=>if G.1=k then(G.1,y)else G) (xs.map (putAt k u)):=by
 induction r with
 | nil=>exact .nil
 | @cons p q ps qs h t ih=>
  rw[V0,V0];refine .cons ?_ ih;obtain⟨h1,h2,N⟩:=h;unfold putAt;by_cases e:p.1=k
  ·rw[if_pos e,if_pos (h1.symm.trans e)];exact⟨h1,h2,J⟩
  ·rw[if_neg e,if_neg (λz=>e (h1.trans z))];exact⟨h1,h2,N⟩
theorem KT.put(r:KT H kvs xs)(k:List Key)(G:H b=some (.tup (k.map kV)))(z:RelV y u) :
  KT H (putK kvs k y) (storedH xs k b u):=by
 have e:(kvs.any λJ=>decide (J.1=k))=(atKey xs k).isSome:=by
  rw[wC,(r.val k).isSome_eq,zaO]
 unfold putK storedH;rw[e];by_cases q:(atKey xs k).isSome=true
 ·rw[if_pos q,if_pos q];exact r.repl k z
 ·rw[if_neg q,if_neg q];exact Paired.snoc r ⟨rfl,G,z⟩
theorem KT.keeps(r:KT H kvs xs)(q:∀b ys,H b=some (.tup ys)->H' b=some (.tup ys)):KT H' kvs xs:=
 Paired.mapP r λ_ _ z=>⟨z.1,q _ _ z.2.1,z.2.2⟩
section
variable {P:U7}{w:World}{H:Hp}{h:Heap}{a:Addr}
theorem LD(ok:HOk P w H h)(e:Rd H a u):ObjOk P w H h a u:=e.ok ok
theorem tW(ok:HOk P w H h)(e:Rd H a (.dK kvs)):kvs.length<=VA/\(a == XA)=false/\∃vs,KV kvs vs/\h.DictOf (bK P w) a vs:=
 show ObjOk P w H h a (.dK kvs)from LD ok e
theorem QU(ok:HOk P w H h)(e:H a=some (.dK kvs)):kvs.length<=VA/\(a == XA)=false/\∃vs,KV kvs vs/\h.DictOf (bK P w) a vs:=tW ok (.inl e)
theorem qV(ok:HOk P w H h)(e:H a=some (.tup (ks.map kV))):(X4 (bK P w)).is h ks a:=by
 obtain⟨_,q,r,o,h1,h2,n,z⟩:=(show ObjOk P w H h a (.tup (ks.map kV))from ok a _ e);exact⟨o,q.toArray,n,h1,h2,z.1,by simpa using sY r⟩
theorem w4(ok:HOk P w H h)(e:Rd H a (.dT kvs)):kvs.length<=VA/\(a == XA)=false /\
  ∃xs,KT H kvs xs/\h.DictOfH (X4 (bK P w)) a xs:=by
 obtain⟨z,y,xs,r,o,es,ep,h1,h2,U,J,N⟩:=(show ObjOk P w H h a (.dT kvs)from LD ok e);refine⟨z,y,xs,r,o,es,ep,h1,h2,U,J,λx G=>?_,N⟩;have all:∀ {l:List (List Key×V)} {m:List (List Key×Addr×Value)},KT H l m->∀x∈m,(X4 (bK P w)).is h x.1 x.2.1:=by
  intro l m q;induction q with
  | nil=>intro x G;exact nomatch G
  | @cons p q ps qs hq t ih=>
   intro x G;rcases List.mem_cons.mp G with e|G
   ·subst e
    exact qV ok (by rw[<- hq.1];exact hq.2.1)
   ·exact ih x G
 exact all r x G
theorem QM(ok:HOk P w H h)(e:H a=some (.dT kvs)):kvs.length<=VA/\(a == XA)=false /\
  ∃xs,KT H kvs xs/\h.DictOfH (X4 (bK P w)) a xs:=w4 ok (.inl e)
end
def DGet(H:Hp)(a:Addr)(y:V)(r:Option V):Prop:=
 (∃kvs k,Rd H a (.dK kvs)/\y=kV k/\r=nG kvs k)\/∃kvs k b,Rd H a (.dT kvs)/\y=.ref b/\H b=some (.tup (k.map kV))/\r=nG kvs k
def DPut(H:Hp)(a:Addr)(y v:V)(H':Hp):Prop:=
 (∃kvs k,H a=some (.dK kvs)/\y=kV k/\kvs.length<VA/\H'=upd H a (.dK (putK kvs k v))) \/
 ∃kvs k b,H a=some (.dT kvs)/\y=.ref b/\H b=some (.tup (k.map kV))/\kvs.length<VA/\H'=upd H a (.dT (putK kvs k v))
theorem DGet.k{H:Hp}{a:Addr}{kvs:List (Key×V)}{k:Key}(e:H a=some (.dK kvs)):DGet H a (kV k) (nG kvs k):=.inl ⟨kvs,k,.inl e,rfl,rfl⟩
theorem DGet.t{H:Hp}{a b:Addr}{kvs:List (List Key×V)}{k:List Key}(e:H a=some (.dT kvs))(q:H b=some (.tup (k.map kV))):DGet H a (.ref b) (nG kvs k):=.inr ⟨kvs,k,b,.inl e,rfl,q,rfl⟩
theorem DPut.k{H:Hp}{a:Addr}{kvs:List (Key×V)}{k:Key}{v:V}(e:H a=some (.dK kvs))(q:kvs.length<VA):DPut H a (kV k) v (upd H a (.dK (putK kvs k v))):=.inl ⟨kvs,k,e,rfl,q,rfl⟩
theorem DPut.t{H:Hp}{a b:Addr}{kvs:List (List Key×V)}{k:List Key}{v:V}(e:H a=some (.dT kvs))(q:H b=some (.tup (k.map kV)))(z:kvs.length<VA) :
  DPut H a (.ref b) v (upd H a (.dT (putK kvs k v))):=.inr ⟨kvs,k,b,e,rfl,q,z,rfl⟩
section
variable {X:Cx}{pins:List (Addr×Obj)}{σ:St}{H:Hp}{s:U2}{a:Addr}{y v:V}{u r:Value}{o:Option V}{A:VC}{E:Value->U2->Prop}
theorem BY(hu:A.units+1<cLine)(I:Inv X pins σ H s)(g:DGet H a y (some v))(W:RelV y u)(h:∀J s',Inv X pins σ H s'->RelV v J->Q J s') :
  wpAny (model X.prog X.w) A (XH (.ref a) u) Q E s:=by
 rcases g with⟨kvs,k,e,U,l⟩|⟨kvs,k,b,e,U,eb,l⟩
 ·subst U
  obtain⟨z,hd,vs,G,dd⟩:=tW I.hok e;obtain⟨J,hw,q⟩:=RelO.some_of (v:=v) (o:=XJ vs k) (by rw[l];exact G.val k);exact zaP (rG W) dd.mapOf hw (h J _ (I.tok _) q)
 ·subst U
  cases(show u=VT b from W);obtain⟨z,hd,xs,G,dd⟩:=w4 I.hok e;obtain⟨J,hw,q⟩:=RelO.some_of (v:=v) (o:=(atKey xs k).map (·.2)) (by rw[l];exact G.val k);obtain⟨p,Y,N⟩:=Option.map_eq_some_iff.mp hw;refine wpAny_getItem_heap (zaf hu) (qV I.hok eb) dd Y ?_;rw[N];exact h J _ (I.tok _) q
theorem R4(Y:A.units+1<cLine)(I:Inv X pins σ H s)(g:DGet H a y o)(U:RelV y u)(h:∀s',Inv X pins σ H s'->Q (.bool o.isSome) s') :
  wpAny (model X.prog X.w) A (VF .In u (.ref a)) Q E s:=by
 rcases g with⟨kvs,k,e,J,l⟩|⟨kvs,k,b,e,J,W,l⟩
 ·subst J
  obtain⟨z,N,vs,G,dd⟩:=tW I.hok e;refine wpAny_in_of (rG U) N dd.mapOf ?_;rw[<- (G.val k).isSome_eq,<- l];exact h _ (I.tok _)
 ·subst J
  cases(show u=VT b from U);obtain⟨z,N,xs,G,dd⟩:=w4 I.hok e;refine wpAny_in_heap (zaf Y) (qV I.hok W) N dd ?_;have q:=(G.val k).isSome_eq;rw[zaO]at q;rw[<- q,<- l];exact h _ (I.tok _)
theorem HU(Y:A.units+1<cLine)(I:Inv X pins σ H s)(g:DGet H a y o)(U:RelV y u)(h:∀s',Inv X pins σ H s'->Q (.bool (!o.isSome)) s') :
  wpAny (model X.prog X.w) A (VF .NotIn u (.ref a)) Q E s:=by
 rcases g with⟨kvs,k,e,J,l⟩|⟨kvs,k,b,e,J,W,l⟩
 ·subst J
  obtain⟨z,N,vs,G,dd⟩:=tW I.hok e;refine wpAny_notIn_of (rG U) N dd.mapOf ?_;rw[<- (G.val k).isSome_eq,<- l];exact h _ (I.tok _)
 ·subst J
  cases(show u=VT b from U);obtain⟨z,N,xs,G,dd⟩:=w4 I.hok e;refine wpAny_notIn_heap (zaf Y) (qV I.hok W) N dd ?_;have q:=(G.val k).isSome_eq;rw[zaO]at q;rw[<- q,<- l];exact h _ (I.tok _)
theorem y8(I:Inv X pins σ H s)(G:RG (H a))(hs:WN a s.heap h')(N:∃q,h'.get? a=some q)(new:ObjOk X.prog X.w (upd H a ob) h' a ob) :
  Inv X pins σ (upd H a ob) {s with heap:=h',toks:=t'}:=
 I.write (x:=a) (e:=a) G (.inl rfl) (λb q J z=>(hs.2 b J).trans z) N new
theorem NZ(z:kvs.length<=VA)(G:(a == XA)=false)(q:KV kvs vs)(dd:h'.DictOf (bK P w) a vs) :
  ObjOk P w H' h' a (.dK kvs):=⟨z,G,vs,q,dd⟩
theorem B3(hu:A.units+1<cLine)(I:Inv X pins σ H s)(g:DPut H a y v H')(ry:RelV y u)(rv:RelV v r)(h:∀s',Inv X pins σ H' s'->Q () s') :
  wpAny (model X.prog X.w) A (setItem (.ref a) u r) Q E s:=by
 rcases g with⟨kvs,k,e,Y,l,eH⟩|⟨kvs,k,b,e,Y,eb,l,eH⟩
 ·subst Y eH
  obtain⟨z,hd,vs,G,dd⟩:=QU I.hok e;have W:vs.length<=VA:=by rw[<- G.length];exact z
  have U:(putK kvs k v).length<=VA:=by have:=oN kvs k v;lia
  refine wpAny_setItem_pairs (hsz:=W) (rG ry) dd λh' J hs=>h _ ?_
  have he:∃q,h'.get? a=some q:=let ⟨q,_,_,N,_⟩:=J;⟨q,N⟩;exact y8 I (by rw[e];exact YL) hs he (NZ U hd (G.put k rv) J)
 ·subst Y eH
  cases(show u=VT b from ry);obtain⟨z,hd,xs,G,dd⟩:=QM I.hok e;have W:xs.length<=VA:=by rw[<- ZV G];exact z
  have U:(putK kvs k v).length<=VA:=by have:=oN kvs k v;lia
  refine wpAny_setItem_heap (hsz:=W) (zaf hu) (qV I.hok eb) dd λh' J hs=>h _ ?_
  obtain⟨q,es,ep,N,h2,h3,h4,_,h5⟩:=J;refine y8 I (by rw[e];exact YL) hs ⟨q,N⟩ ⟨U,hd,_,(G.put k eb rv).keeps λc ys ec=>?_,q,es,ep,N,h2,h3,h4,h5⟩;rw[aO (P0 ec e (λz=>nomatch z))];exact ec
end
section
variable {X:Cx}{pins:List (Addr×Obj)}{σ:St}{H:Hp}{s:U2}{a:Addr}{kvs:List (Key×V)}{k:Key}{u:Value}{A:VC}{E:Value->U2->Prop}
theorem O9(I:Inv X pins σ H s)(e:Rd H a (.dK kvs))(h:∀t s',Inv X pins σ H s'->Q (.int kvs.length t) s'):wpAny (model X.prog X.w) A (call (.builtin "len") [.ref a]) Q E s:=by
 obtain⟨z,G,vs,q,dd⟩:=tW I.hok e;refine call_len_dict G dd (by rw[<- q.length];rw[sizeLine_eq]at z;lia) ?_;rw[<- q.length];exact h _ _ (I.tok _)
end
def KH(i:Expr):Prop:=∀z q,zab i false z q=operate [z,q] (XH z q)
theorem uT{E:Value->U2->Prop}{T id:String}{Q:Value->U2->Prop}
  (W:typeLookup (.type T) "__getitem__" = pure (some (.builtin id))) (hs:KH slice)
  (h:wpAny (model prog w) A (eval value env) (λo G=>wpAny (model prog w) A (eval slice env) (λi q=>q.TypeIs o T/\wpAny (model prog w) A (XH o i) Q E q) E G) E s) :
  wpAny (model prog w) A (eval (.Subscript value slice pos) env) Q E s:=by
 refine Subscript_ (VP h (λo G U=>VP U (λi q z=>?_) λ_ _ x=>x) λ_ _ x=>x);obtain⟨hT,z⟩:=z;unfold subscriptTail;refine U4 ?_;rw[getitemInPython_of_ne hT.not_modules];refine U4 (wpAny_specialOf hT W ?_);have fin:wpAny (model prog w) A (zab slice false o i) (λr J=>wpAny (model prog w) A (letTemporaryGo value o r >>= λ_=>pure r) Q E J) E q:=by
  rw[hs o i];exact wpAny_operating (VP z (λr J N=>U4 (wpAny_letTemporaryGo (U9 N))) λ_ _ x=>x)
 first
  | exact U9 (U4 fin)
  | exact U4 (U9 (U4 fin))
  | exact U4 fin
theorem vY(I:Inv X pins σ H s)(g:DGet H a y o):s.TypeIs (.ref a) "dict" := by
 rcases g with⟨kvs,k,e,_,_⟩|⟨kvs,k,b,e,_,_,_⟩
 ·obtain⟨_,_,vs,_,dd⟩:=tW I.hok e
  exact dd.typeIs
 ·obtain⟨_,_,xs,_,dd⟩:=w4 I.hok e
  exact dd.typeIs
def LI(td ty:TE):TE:=λσ H Q=>td σ H λx H1=>ty σ H1 λy H2=>∃a v,x=.ref a/\DGet H2 a y (some v)/\Q v H2
def QE(td ty tv:TE):TS:=λD σ H=>tv σ H λv H1=>td σ H1 λx H2=>ty σ H2 λy z=>∃a q,x=.ref a/\DPut z a y v q/\D.nx σ q
section
variable {X:Cx}{o i e value:Expr}{pos pos' tpos:Pos}{td ty tv:TE}
theorem IK(hu:X.A.units+1<cLine)(ho:PE X o td)(hi:PE X i ty)(hs:KH i):PE X (.Subscript o i pos) (LI td ty):=by
 intro pins s σ H Q I h;refine uT PySem.F.slot_dict_getitem.lookup hs (b7 (ho pins s σ H _ I h) λu N ⟨x,H1,I1,G,J⟩=>b7 (hi pins N σ H1 _ I1 J) λiv s2 ⟨y,H2,z,Y,a,v,ex,g,U⟩=>?_);subst ex;obtain rfl:u=VT a:=G;exact⟨vY z g,BY hu z g Y λw' s3 W q=>⟨v,H2,W,q,U⟩⟩
theorem HS(Y:X.A.units+1<cLine)(J:PE X o td)(hi:PE X i ty)(hv:PE X value tv)(hs:V2 value (some (.Subscript o i pos')) pos.line X.env=pure false) :
  PS X (.Assign [.Subscript o i pos'] value pos) (QE td ty tv):=by
 intro pins s σ H D I h;refine wpAny_Assign_Subscript (b7 (hv pins s σ H _ I h) λr s1 ⟨v,H1,W,z,N⟩=>b7 (J pins s1 σ H1 _ W N) λu s2 ⟨x,H2,I2,q,U⟩=>b7 (hi pins s2 σ H2 _ I2 U) λiv s3 ⟨y,H3,I3,G,a,H4,ex,g,q3⟩=>?_) hs;subst ex;obtain rfl:u=VT a:=q;exact B3 Y I3 g G z λs4 I4=>⟨σ,H4,I4,q3⟩
end
section
variable {X:Cx}{pos:Pos}
end
def UR(H:Hp)(a:Addr):Prop:=(∃kvs,Rd H a (.dK kvs))\/∃kvs,Rd H a (.dT kvs)
section
variable {X:Cx}{pins:List (Addr×Obj)}{σ:St}{H:Hp}{s:U2}{a:Addr}{y d:V}{u r:Value}{o:Option V}{A:VC}{E:Value->U2->Prop}
end
section
variable {X:Cx}{o e f:Expr}{apos cpos:Pos}{td ty tx:TE}
end
section
variable {X:Cx}{pins:List (Addr×Obj)}{σ:St}{H:Hp}{s:U2}{a:Addr}{kvs:List (Key×V)}{A:VC}{E:Value->U2->Prop}
end
section
variable {X:Cx}{pins:List (Addr×Obj)}{σ:St}{H:Hp}{s:U2}{a:Addr}{y:V}{u:Value}{A:VC}{E:Value->U2->Prop}
end
end L2
namespace Att
open PySem PySem.W PySem.Calls PyProof.Rows
theorem oU:∀(ns:List Int) (vs:List Value),WellAll P h vs (ns.map WData.int)->WS vs ns:=by
 intro ns;induction ns with
 | nil=>
  intro vs w;rw[List.map_nil]at w;cases w;exact .nil
 | cons n ns ih=>
  intro vs w;rw[V0]at w;cases w with
  | cons a b=>
   cases a;exact .cons _ _ (ih _ b)
theorem BL{l:OpenLaw}{n:Nat}(hn:l.most=some n){P:Params}{h:Heap}{args:List WData}{z:List Value}
  (G:l.row.toRowW.claim.pre args=true) (Y:WellAll P h z args) :
  ∃a vs ns,z=[VT a]/\args=[WData.list (ns.map WData.int)]/\h.get? a=some {cls:=.type "list",data:=.seq vs.toArray}/\WS vs ns/\ns.length<=n:=by
 have W:WShape.hasAll [] args [.list .int]=true:=(pre_splitW G).1;have hc:l.pre.holds [] {args:=args}=true:=(pre_splitW G).2;obtain⟨d,r,rfl,h1,h2⟩:=hasAllW_cons W;obtain rfl:=hasAllW_nil h2;obtain⟨xs,rfl,h3⟩:=hasW_list h1;obtain⟨ns,rfl⟩:=items_int h3;have J:ns.length<=n:=by
  unfold OpenLaw.pre at hc;have U:(WTm.not (.lt (.lit (.int (n:Int))) (.len (.arg 0)))).holds [] {args:=[.list (ns.map .int)]}=true:=by
   have U:=(holds_andW hc).1;rw[hn]at U;exact U
  have N:=condW_of U (w_not (w_lt w_lit (w_len_list (w_arg rfl))));rw[VL]at N;refine Nat.le_of_not_lt λq=>?_
  have q':(n:Int)<((ns.length:Nat):Int):=by lia
  first
   | (rw[decide_eq_true q']at N;exact absurd N (by decide))
   | (simp at N;lia)
 cases Y with
 | cons w1 w2=>
  cases w2;cases w1 with
  | list ho hall=>exact⟨_,_,ns,rfl,rfl,ho,oU ns _ hall,J⟩
theorem B6(l:OpenLaw)(args:List WData):l.row.toRowW.claim.post args (.bool true) args=true:=
 postW_of (r:=l.row.toRowW) (X:=(true == true))
  (show WShape.has [] (.bool true) .bool=true by first|rfl|decide|simp[WShape.has,WShape.arms,WShape.armsAll])
  (show(WTm.eq .res (.lit (.bool true))).value [] {args:=args,res:=some (.bool true),after:=args}=some (.bool (true == true))from w_eq_bool (w_res rfl) w_lit) rfl
theorem vR{l:OpenLaw}{n:Nat}{q:U7}{J:List Str}{XP:(Str->Option Value)->Heap->Prop}{YP:World->Heap->Prop}{d:DefRec}
  (hn:l.most=some n) (ag:d.params.defaults=[])
  (call:∀(w:World) (N z:U2) (mg mb:Str -> Option Value) (fa:Addr) (o:Obj) (pm cd U:Value) (a:Addr) (vs:List Value) (ns:List Int),
   Ground q J [] XP w N mg mb z.heap->YP w z.heap->
   z.heap.get? fa=some o->o.data=.func (docDef d.name d.params d.body d.scope pm cd U)->z.heap.CodeRec cd d.name->mg d.name=some (.ref fa)->
   z.heap.get? a=some {cls:=.type "list",data:=.seq vs.toArray}->WS vs ns->ns.length<=n->z.gens=#[]->
   W5 (model l.prog w) YM (.call (.ref fa) ⟨[.ref a],[]⟩) (λr s'=>r=.ok (.ret (.bool true))/\OldK z.heap s'.heap/\s'.os=z.os/\XC s'.gens) z) :
  WalkO q J XP YP l.row.toRowW d [] (λf vs=>PySem.call f vs):=by
 intro w N z mg mb G Y fa o pm cd U dV kV ho hd ai hD ak hg args am as ac al ax ah aq;obtain rfl:dV=.none:=Dflts.none hD ag;obtain rfl:kV=.none:=Dflts.noKw hD;obtain⟨a,vs,ns,rfl,rfl,ab,W,aa⟩:=BL hn ac ah;refine enter_call (YD (call w N z mg mb fa o pm cd U a vs ns G Y ho (fd_plain hd) ai ak ab W aa hg) λr s' hq=>?_);obtain⟨rfl,h2,h3,h4⟩:=hq;exact⟨.inl ⟨.bool true,.bool true,[],rfl,λ_=>rfl,.bool true,B6 l _,λ_=>⟨List.Pairwise.nil,λ_ hm=>(nomatch hm)⟩⟩,h2,h3,h4⟩
section
variable {prog:U7}{w:World}{A:VC}{E:Value->U2->Prop}{s:U2}{K:Frag}
end
end Att
namespace L2
open PySem PySem.Spec PyProof.Rows
theorem tG:∀ {vs:List Value} {ns:List Int},WS vs ns->Vals (ns.map V.int) vs
 | _,_,.nil=>.nil
 | _,_,.cons n t h=>.cons ⟨t,rfl⟩ (tG h)
def Only(H:Hp):Prop:=∀b,H b=none\/∃o xs,H b=some (.frz o (.lst xs))
theorem DT{P:U7}{w:World}{K:U3}{mg mb:Str->Option Value}{CX:CQ}{k:Nat}{fa a:Addr}{fd:WP}{x:Str}{sp:Sp}{G:U2}{vs:List Value}{ns:List Int}
  (KX:K.In G.heap) (af:G.heap.Ns VQ mg) (N:G.heap.Ns builtinsNs mb) (ak:∀x:Str,x ≠ "__name__" -> mb x=V5 x) (ae:G.heap.NoLimit) (hg:G.gens=#[])
  (ha:G.heap.get? a=some {cls:=.type "list",data:=.seq vs.toArray}) (hi:WS vs ns) (hl:ns.length<=VA) (hr:Room k YM)
  (F:∀base:Heap,K.In base->base.Ns VQ mg->FnOk P w K mg base CX k fa fd [x] sp) (Y:∀(s:U2) (u:Value),BindsTo s fd ⟨[u],[]⟩ [(x,u)])
  (aj:∀H:Hp,Only H->SqL K H a (ns.map V.int)->sp [.ref a] H (λv _=>v=.bl true) λ_ _ _=>False)
  (ao:∀H e s',CX [] H G (λ_ _ _=>False) e s'->False) :
  W5 (model P w) YM (.call (.ref fa) ⟨[.ref a],[]⟩) (λr s'=>r=.ok (.ret (.bool true))/\OldK G.heap s'.heap/\s'.os=G.os/\XC s'.gens) G:=by
 have rv:=tG hi;have ac:=hi.length
 -- from an abstract heap in which nothing but the script may be tracked
 have W:∀H:Hp,Only H->SqL K H a (ns.map V.int)->HOk P w H G.heap->(∀b,H b≠none->b=a)->(H a≠none->K.lookup a=none)->
   W5 (model P w) YM (.call (.ref fa) ⟨[.ref a],[]⟩) (λr s'=>r=.ok (.ret (.bool true))/\OldK G.heap s'.heap/\s'.os=G.os/\XC s'.gens) G:=by
  intro H hO hS hok hA hK;have J:∀ {b:Addr} {o:Obj},G.heap.get? b=some o->H b=none->(vM G.heap H).get? b=some o:=λe n=>DO e n
  have al:∀ {b:Addr} {o:Obj} {es:Array XM} {ep:Nat},G.heap.get? b=some o->o.data=.dict es ep->H b=none:=λ{b o es ep} e d=>by
   cases q:H b with
   | none=>rfl
   | some u=>
    have e':b=a:=hA b (by rw[q];simp);subst e';rw[ha]at e;cases e;have d':Data.seq vs.toArray _=Data.dict es ep:=d;cases d'
  have U:∀ {b:Addr} {m:Str->Option Value},G.heap.Ns b m->(vM G.heap H).Ns b m:=λ{b m} ⟨o,es,ep,e,d,r⟩=>⟨o,es,ep,J e (al e d),d,r⟩
  have ad:K.In (vM G.heap H):=λb o e=>J (KX b o e) (by
   cases q:H b with
   | none=>rfl
   | some u=>
    have e':b=a:=hA b (by rw[q];simp);subst e';rw[hK (by rw[q];simp)]at e;cases e)
  have hM:Mod K mg (vM G.heap H):=⟨ad,U af,⟨mb,U N,ak⟩,let ⟨mc,h1,h2⟩:=ae;⟨mc,U h1,h2⟩⟩;have e0:Env0 P w K mg (vM G.heap H) YM [] G H:=⟨rfl,hM,λb o e=>GP e,zag (CF _ _),trivial,λb N=>absurd (show b∈([]:List Addr)from N) (by simp),hok,.of_eq hg⟩;refine YD ((F _ ad (U af)).run YM [] G H ⟨[.ref a],[]⟩ [.ref a] [.ref a] _ _ hr e0 (Y G (.ref a)) (.cons rfl .nil) (aj H hO hS)) λr s' h=>?_
  cases r with
  | error e=>exact(ao H e s' h).elim
  | ok fl=>
   cases fl with
   | next=>exact V1 h
   | brk=>exact V1 h
   | cont=>exact V1 h
   | ret u=>
    obtain⟨v,H',os,aa,un,ag,r',q⟩:=h;have q':v=.bl true:=q;subst q';obtain rfl:u=X3 true:=r';refine⟨rfl,OldK.of_keep λb o e=>?_,os,aa⟩;cases q:H b with
    | none=>exact un.keep b o e q (by intro z;exact absurd (show b∈([]:List Addr)from z) (by simp)) (by simp)
    | some u=>
     rcases hO b with z|⟨ob,xs,z⟩
     ·rw[q]at z;cases z
     ·have z2:=un.frzs b ob _ z
      obtain⟨e1,_⟩:=hok b _ z;obtain⟨e2,_⟩:=ag b _ z2;rw[e]at e1;cases e1;exact e2
 cases hk:K.lookup a with
 | some o=>
  -- the script is one of the module's own objects
  have e:=KX a o hk;rw[ha]at e;cases e;refine W (λ_=>none) (λ_=>.inl rfl) (.inr ⟨_,vs.toArray,_,hk,rfl,rfl,rfl,by rw[VJ,ac];exact hl,by simpa using rv⟩) (λb u z=>by have z':(none:Option HO)=some u:=z;cases z') (λb z=>absurd rfl z) λz=>absurd rfl z
 | none=>
  refine W (λb=>if b=a then some (.frz {cls:=.type "list",data:=.seq vs.toArray} (.lst (ns.map V.int)))else none) (λb=>?_) (.inl (.inr ⟨{cls:=.type "list",data:=.seq vs.toArray},if_pos rfl⟩)) (λb u z=>?_) (λb z=>?_) λ_=>hk
  ·by_cases N:b=a
   ·exact .inr ⟨_,_,if_pos N⟩
   ·exact .inl (if_neg N)
  ·by_cases N:b=a
   ·have z':=(if_pos N).symm.trans z
    cases z';subst N;exact⟨ha,by rw[VL];exact hl,vs,_,rv,ha⟩
   ·have z':=(if_neg N).symm.trans z
    cases z'
  ·by_cases N:b=a
   ·exact N
   ·exact absurd (if_neg N) z
theorem JR{l:zaQ}{n k:Nat}{q:U7}{J:List Str}{XP:(Str->Option Value)->Heap->Prop}{YP:World->Heap->Prop}{d:DefRec}{K:Params->U3}{CX:World->CQ}{sp:World->Sp}{x:Str}
  (hn:l.most=some n) (af:n<=VA) (ad:d.params.defaults=[]) (hr:Room k YM)
  (hY:∀(w:World) (h:Heap),YP w h->(K w.params).In h)
  (F:∀(w:World) (mg:Str -> Option Value) (fa:Addr) (h:Heap), (K w.params).In h -> h.Ns VQ mg -> mg d.name = some (.ref fa) ->
   ∃fd:WP,(∀(s:U2) (u:Value),BindsTo s fd ⟨[u],[]⟩ [(x,u)]) /\
    ∀base:Heap,(K w.params).In base->base.Ns VQ mg->FnOk l.prog w (K w.params) mg base (CX w) k fa fd [x] (sp w))
  (ac:∀(w:World) (H:Hp) (a:Addr) (ns:List Int),ns.length<=n->Only H->SqL (K w.params) H a (ns.map V.int)->sp w [.ref a] H (λv _=>v=.bl true) λ_ _ _=>False)
  (ae:∀(w:World) (H:Hp) (s:U2) (e:Value) (s':U2),CX w [] H s (λ_ _ _=>False) e s'->False) :
  PySem.W.WalkO q J XP YP l.row.toRowW d [] (λf vs=>PySem.call f vs):=by
 refine Att.vR hn ad λw aj aa mg mb fa o pm cd ak a vs ns G Y ho hd au ag U N z hg=>?_
 have KX:=hY w _ Y;obtain⟨fd,hb,hF⟩:=F w mg fa _ KX G.T.g ag;exact DT KX G.T.g G.T.b G.T.builtins G.T.nolimit hg U N (WC z af) hr hF hb (λH hO hS=>ac w H a ns z hO hS) λH e s'=>ae w H aa e s'
noncomputable def eS(s:Stmt):Arguments:=match s with
 | .FunctionDef _ a _ _ _ _ _ _ _ _=>a
 | _=>{posonlyargs:=[],args:=[],vararg:=none,kwonlyargs:=[],kw_defaults:=[],kwarg:=none,defaults:=[]}
noncomputable def bO(s:Stmt):List Stmt:=match s with
 | .FunctionDef _ _ b _ _ _ _ _ _ _=>b
 | _=>[]
noncomputable def aJ(s:Stmt):Scope:=match s with
 | .FunctionDef _ _ _ _ _ _ sc _ _ _=>sc
 | _=>{kind:=.function,names:=[],isGenerator:=false,isCoroutine:=false}
abbrev A4:CQ:=λ_ _ _ _ _ _=>False
abbrev E0:XK:=λ_ _ _=>False
theorem KU:yM A4 X E0:=λ_ _ _ _ _ _ _ h=>h.elim
structure Fun(K:U3)(x qual:Str)(st:Stmt)(f:Addr)(fd:WP):Prop where
 ex:∃(oc:Value) (od:Option Addr) (kV doc pm:Value) (an:Option Addr) (cdv ct:Value) (osl:Array (Option Value)),
  fd=W0 x qual (eS st) (bO st) (aJ st) .none kV doc pm an cdv ct/\K.lookup f=some ⟨oc,od,.func fd,osl⟩/\YZ K cdv qual=true
 kp:XW K (.ref f)=true
section
variable {P:U7}{w:World}{K:U3}{mg:Str->Option Value}{base:Heap}
theorem Fun.ok{x z:Str}{st:Stmt}{f:Addr}{fd:WP}{N ps:List Str}{k:Nat}{sp:Sp}(F:Fun K x z st f fd)(S:FnScope N ps (aJ st))(len:∀vs H Q E,sp vs H Q E->vs.length=ps.length)
  (J:∀(G:Value) (A:VC) (outer:List Env) (s:U2) (H:Hp) (vs:List V) (Q:VK) (E:XK), Room k (A.deeper (WB z (aJ st) s.heap.objs.size f G)) -> sp vs H Q E ->
   ∃t,PSs (dR A4 P w K mg base N z (aJ st) f G A outer s H E).nox (bO st) t/\t {nx:=λ_ H'=>Q .non H',rt:=Q} (start N vs) H):FnOk P w K mg base A4 (k+1) f fd ps sp:=by
 obtain⟨oc,od,kV,Y,pm,an,G,ct,ab,rfl,lk,W⟩:=F.ex;refine FY lk W S len λA outer s H vs Q E hr U=>?_
 obtain⟨t,h,q⟩:=J G A outer s H vs Q E hr U;exact⟨t,h.nox,q⟩
theorem Fun.binds{x q:Str}{st:Stmt}{f:Addr}{fd:WP}{ps:List Str}(F:Fun K x q st f fd)
  (h:∀(kV z N:Value) (J:Option Addr) (G ct:Value) (us:List Value),us.length=ps.length->bindArgs (W0 x q (eS st) (bO st) (aJ st) .none kV z N J G ct) ⟨us,[]⟩=pure (ps.zip us)):Binds K fd ps []:=by
 obtain⟨Y,od,kV,z,N,J,G,ct,W,rfl,lk,U⟩:=F.ex;exact .all (h kV z N J G ct)
theorem FK{x q:Str}{st:Stmt}{f:Addr}{W:Value}{od N:Option Addr}{J:Array (Option Value)}{kV G U z ct:Value}(l:K.lookup f=some ⟨W,od,.func (W0 x q (eS st) (bO st) (aJ st) .none kV G U N z ct),J⟩)
  (c:YZ K z q=true) (k:XW K (.ref f)=true):Fun K x q st f (W0 x q (eS st) (bO st) (aJ st) .none kV G U N z ct):=⟨⟨W,od,kV,G,U,N,z,ct,J,rfl,l,c⟩,k⟩
end
theorem cG(q:Room k A):A.units+1<cLine:=zaR (Nat.add_le_add_left (by decide:1<=64) _) q.units
section
variable {X:Cx}
theorem pv(i:Nat)(G:X.N[i]?=some x:=by rfl)(z:GL X.env.scope x:=by first|exact VN rfl|exact Or.inr (VN rfl)|exact Or.inr (Or.inr rfl))(J:(x == ("__debug__" : Str))=false:=by decide)
  (q:(x == ("__classdict__" : Str))=false:=by decide):PE X (.Name x pos) (nW i):=yO G z J q
end
theorem TK{A B:Prop}(h:B):if false=true then A else B:=by
 rw[if_neg VH];exact h
theorem SG{A B:Prop}(h:A):if true=true then A else B:=by
 rw[if_pos rfl];exact h
def Same(H H':Hp):Prop:=∀b o,H b=some o->H' b=some o
theorem Same.trans(a:Same H H1)(b:Same H1 H2):Same H H2:=λc o h=>b c o (a c o h)
theorem Same.free(e:Same H H')(h:H' l=Option.none):H l=Option.none:=by
 cases q:H l with
 | none=>rfl
 | some o=>
  rw[e l o q]at h;cases h
theorem Same.seq{K:U3}{H H':Hp}{a:Addr}{xs:List V}(e:Same H H')(h:SqL K H a xs):SqL K H' a xs:=by
 rcases h with(h|⟨o,h⟩)|h
 ·exact .inl (.inl (e _ _ h))
 ·exact .inl (.inr ⟨o,e _ _ h⟩)
 ·exact .inr h
section
variable {X:Cx}
end
section
variable {κ:Type}[DecidableEq κ]
end
end L2
set_option maxHeartbeats 4000000
namespace My
open PySem PySem.Spec PyProof.Rows L2
def y4(i j:Int):Prop:=(-(10^250)<i/\i<10^250)/\-(10^250)<j/\j<10^250
theorem wF(h1:-(10^250)<i)(h2:i<10^250):Builtin.Int.intBits i<=2^20:=by
 have h:i.natAbs<10^250:=by lia
 have e:(10:Nat)^250<=2^(4*250):=by
  rw[Nat.pow_mul];exact Nat.pow_le_pow_left (by decide) 250
 exact WC (PyProof.Rows.intBits_le (V9 h e)) (by decide)
section
variable {X:Cx}
theorem HA:OpR X (V4 .Mult) (rI y4 λi j=>.int (i*j)):=RV λ_ _ _ _ _ _ _ z q=>mul_int q (IntMulOk.of_bits (wF z.1.1 z.1.2) (wF z.2.1 z.2.2))
end
structure Ok(P:U7)(w:World)(K:U3)(mg:Str->Option Value)(base:Heap)(x:Str)(k:Nat)(ps:List Str)(sp:Sp):Prop where
 ex:∃f fd,XW K (.ref f)=true/\Binds K fd ps []/\mg x=some (.ref f)/\FnOk P w K mg base A4 k f fd ps sp
structure DefAt(K:U3)(mg:Str->Option Value)(x:Str)(st:Stmt)(ps:List Str):Prop where
 ex:∃f fd,Fun K x x st f fd/\Binds K fd ps []/\mg x=some (.ref f)
def MG(sp:Sp)(t:TA):TE:=λσ H Q=>t σ H λvs H1=>sp vs H1 Q E0
section
variable {X:Cx}{x:Str}{k:Nat}{ps:List Str}{sp:Sp}{e:Expr}{es:List Expr}{t:TA}{p pos:Pos}
theorem D6(O:Ok X.prog X.w X.K X.mg X.base x k ps sp)(hr:Room k X.A)(W:Gl X x)(G:PA X (e::es) t)(z:(x == ("__debug__" : Str))=false:=by decide)
  (Y:U8 (e::es) X.env=(false,eval e X.env)::U8 es X.env:=by rfl) (q:(VU pos (U8 es X.env)).any (·.1)=false:=by rfl) :
  PE X (.Call (.Name x p) (e::es) [] pos) (MG sp t):=by
 obtain⟨f,fd,N,U,J,F⟩:=O.ex;have h:=GT (p:=p) (pos:=pos) F hr W J N U .nil KU G z Y q;intro pins s σ H Q I hw;refine h pins s σ H Q I ?_;have e:(λ(vs:List V) (H1:Hp)=>sp (vs++[]) H1 Q E0)=λvs H1=>sp vs H1 Q E0:=by
  funext vs H1;rw[W6]
 show t σ H λvs H1=>sp (vs++[]) H1 Q E0
 rw[e];exact hw
end
section
variable {P:U7}{w:World}{K:U3}{mg:Str->Option Value}{base:Heap}
def BodyOk(P:U7)(w:World)(K:U3)(mg:Str->Option Value)(base:Heap)(x:Str)(st:Stmt)(N:List Str)(k:Nat)(sp:Sp):Prop:=
 ∀(f:Addr) (cdv:Value) (A:VC) (outer:List Env) (s:U2) (H:Hp) (vs:List V) (Q:VK) (E:XK),Room k (A.deeper (WB x (aJ st) s.heap.objs.size f cdv))->sp vs H Q E->
   ∃t,PSs (dR A4 P w K mg base N x (aJ st) f cdv A outer s H E).nox (bO st) t/\t {nx:=λ_ H'=>Q .non H',rt:=Q} (start N vs) H
theorem BodyOk.fn{x:Str}{st:Stmt}{N ps:List Str}{k:Nat}{sp:Sp}{f:Addr}{fd:WP}(q:BodyOk P w K mg base x st N k sp)(F:Fun K x x st f fd)(S:FnScope N ps (aJ st))(len:∀vs H Q E,sp vs H Q E->vs.length=ps.length) :
  FnOk P w K mg base A4 (k+1) f fd ps sp:=F.ok S len λz A outer s H vs Q E G h=>q f z A outer s H vs Q E G h
theorem BodyOk.ok{x:Str}{st:Stmt}{N ps:List Str}{k:Nat}{sp:Sp}(q:BodyOk P w K mg base x st N k sp)(D:DefAt K mg x st ps)(S:FnScope N ps (aJ st))(len:∀vs H Q E,sp vs H Q E->vs.length=ps.length) :
  Ok P w K mg base x (k+1) ps sp:=by
 obtain⟨f,fd,F,B,z⟩:=D.ex;exact⟨f,fd,F.kp,B,z,q.fn F S len⟩
theorem Ok.mono(O:Ok P w K mg base x j ps sp)(h:j<=k):Ok P w K mg base x k ps sp:=by
 obtain⟨f,fd,z,q,G,F⟩:=O.ex;exact⟨f,fd,z,q,G,F.mono h⟩
end
def w8(K:U3):Sp:=λvs H Q _=>∃(a:Addr) (ns:List Int),vs=[.ref a]/\SqL K H a (ns.map V.int)/\ns.length<=63/\∀H',Q (.bl true) H'
theorem walk{l:zaQ}{q:U7}{G:List Str}{U:(Str->Option Value)->Heap->Prop}{N:World->Heap->Prop}{d:DefRec}{K:Params->U3}{k:Nat}(hk:k<=100)(Y:l.most=some 63)(J:d.params.defaults=[])
  (hY:∀(w:World) (h:Heap),N w h->(K w.params).In h)
  (F:∀(w:World) (mg:Str -> Option Value) (fa:Addr) (h:Heap), (K w.params).In h -> h.Ns VQ mg -> mg d.name = some (.ref fa) ->
   ∃fd:WP,(∀(s:U2) (u:Value),BindsTo s fd ⟨[u],[]⟩ [("script",u)])/\∀base:Heap,(K w.params).In base->base.Ns VQ mg->FnOk l.prog w (K w.params) mg base A4 k fa fd ["script"] (w8 (K w.params))) :
  PySem.W.WalkO q G U N l.row.toRowW d [] (λf vs=>PySem.call f vs):=
 L2.JR (n:=63) (k:=k) (x := "script") (CX:=λ_=>A4) (sp:=λw=>w8 (K w.params)) Y (by decide) J (Room.mono (k:=100) ⟨rfl,by decide,by decide⟩ hk) hY F (λ_ _ a ns hl _ hS=>⟨a,ns,rfl,hS,hl,λ_=>rfl⟩) λ_ _ _ _ _ z=>z
theorem DV(h:H p=none):Same H (upd H p o):=λb u e=>by
 rw[aO (bP e h)];exact e
theorem Same.tupR{K:U3}{H H':Hp}{a:Addr}{xs:List V}(e:Same H H')(h:SqT K H a xs):SqT K H' a xs:=by
 rcases h with(h|⟨o,h⟩)|h
 ·exact .inl (.inl (e _ _ h))
 ·exact .inl (.inr ⟨o,e _ _ h⟩)
 ·exact .inr h
noncomputable def num(c:Int):Int:=if c%3=0 then c/3%21-10 else c/3%(2*10^60-1)-(10^60-1)
theorem boot_len:V5 "len" = some (.builtin "len"):=by decide +kernel
theorem boot_max:V5 "max" = some (.builtin "max"):=by decide +kernel
theorem boot_isinstance:V5 "isinstance" = some (.builtin "isinstance"):=by decide +kernel
theorem boot_int:V5 "int" = some (.type "int"):=by decide +kernel
theorem boot_tuple:V5 "tuple" = some (.type "tuple"):=by decide +kernel
theorem boot_list:V5 "list" = some (.type "list"):=by decide +kernel
theorem boot_sum:V5 "sum" = some (.builtin "sum"):=by decide +kernel
theorem boot_any:V5 "any" = some (.builtin "any"):=by decide +kernel
theorem boot_all:V5 "all" = some (.builtin "all"):=by decide +kernel
end My
namespace My
open PySem PySem.Spec PyProof.Rows L2 PySem.SeqAt
inductive Dx where
 | non|bl (b:Bool)|int (i:Int)|str (x:Str)|tup (l:List Dx)|lst (l:List Dx)
mutual
def Rep(K:U3)(H:Hp):Dx->V->Prop
 | .non,v=>v=.non
 | .bl b,v=>v=.bl b
 | .int i,v=>v=.int i
 | .str x,v=>v=.str x
 | .tup l,v=>∃a xs,v=.ref a/\SqT K H a xs/\RepL K H l xs
 | .lst l,v=>∃a xs,v=.ref a/\SqL K H a xs/\RepL K H l xs
def RepL(K:U3)(H:Hp):List Dx->List V->Prop
 | [],vs=>vs=[]
 | d::ds,vs=>∃x xs,vs=x::xs/\Rep K H d x/\RepL K H ds xs
end
section
variable {K:U3}{H H':Hp}
mutual
theorem Rep.same(e:Same H H'):∀(d:Dx) (v:V),Rep K H d v->Rep K H' d v
 | .non,v,h=>by rw[Rep]at h ⊢;exact h
 | .bl b,v,h=>by rw[Rep]at h ⊢;exact h
 | .int i,v,h=>by rw[Rep]at h ⊢;exact h
 | .str x,v,h=>by rw[Rep]at h ⊢;exact h
 | .tup l,v,h=>by
  rw[Rep]at h ⊢;obtain⟨a,xs,q,h1,h2⟩:=h;exact⟨a,xs,q,Same.tupR e h1,RepL.same e l xs h2⟩
 | .lst l,v,h=>by
  rw[Rep]at h ⊢;obtain⟨a,xs,q,h1,h2⟩:=h;exact⟨a,xs,q,e.seq h1,RepL.same e l xs h2⟩
theorem RepL.same(e:Same H H'):∀(ds:List Dx) (vs:List V),RepL K H ds vs->RepL K H' ds vs
 | [],vs,h=>by rw[RepL]at h ⊢;exact h
 | d::ds,vs,h=>by
  rw[RepL]at h ⊢;obtain⟨x,xs,q,h1,h2⟩:=h;exact⟨x,xs,q,Rep.same e d x h1,RepL.same e ds xs h2⟩
end
theorem RepL.nil:RepL K H [] []:=by rw[RepL]
theorem RepL.cons(h1:Rep K H d v)(h2:RepL K H ds vs):RepL K H (d::ds) (v::vs):=by
 rw[RepL];exact⟨v,vs,rfl,h1,h2⟩
theorem RepL.length:∀ {ds:List Dx} {vs:List V},RepL K H ds vs->vs.length=ds.length
 | [],vs,h=>by rw[RepL]at h;rw[h];rfl
 | d::ds,vs,h=>by
  rw[RepL]at h;obtain⟨x,xs,rfl,_,h2⟩:=h;rw[WI,WI,RepL.length h2]
theorem RepL.get':∀ {ds:List Dx} {vs:List V} {i:Nat} {d:Dx},RepL K H ds vs->ds[i]?=some d->∃v,vs[i]?=some v/\Rep K H d v
 | [],vs,i,d,h,e=>by simp at e
 | d'::ds,vs,i,d,h,e=>by
  rw[RepL]at h;obtain⟨x,xs,rfl,h1,h2⟩:=h;cases i with
  | zero=>simp at e;subst e;exact⟨x,rfl,h1⟩
  | succ i=>exact RepL.get' (i:=i) (ds:=ds) h2 (by simpa using e)
mutual
def Dx.dep:Dx->Nat
 | .tup l=>rJ l+1
 | .lst l=>rJ l+1
 | .non=>0
 | .bl _=>0
 | .int _=>0
 | .str _=>0
def rJ:List Dx->Nat
 | []=>0
 | d::ds=>max d.dep (rJ ds)
end
mutual
def Dx.nb:Dx->Bool
 | .bl _=>false
 | .tup l=>GN l
 | .lst l=>GN l
 | .non=>true
 | .int _=>true
 | .str _=>true
def GN:List Dx->Bool
 | []=>true
 | d::ds=>d.nb && GN ds
end
theorem zQ:∀ {ds:List Dx} {i:Nat} {d:Dx},ds[i]?=some d->d.dep<=rJ ds
 | [],i,d,e=>by simp at e
 | d'::ds,0,d,e=>by simp at e;subst e;rw[rJ];lia
 | d'::ds,i+1,d,e=>by
  have:=zQ (ds:=ds) (i:=i) (by simpa using e);rw[rJ];lia
theorem yR:∀ {ds:List Dx} {i:Nat} {d:Dx},GN ds=true->ds[i]?=some d->d.nb=true
 | [],i,d,_,e=>by simp at e
 | d'::ds,0,d,h,e=>by simp at e;subst e;rw[GN,WD]at h;exact h.1
 | d'::ds,i+1,d,h,e=>by
  rw[GN,WD]at h;exact yR h.2 (by simpa using e)
end
section
variable {X:Cx}{pins:List (Addr×Obj)}{σ:L2.St}{H:Hp}{s:U2}
theorem zB(I:Inv X pins σ H s)(h1:SqL X.K H a xs)(h2:SqT X.K H a ys):False:=by
 obtain⟨G,_,⟨o,n,e,c,_⟩,_⟩:=I.list h1;obtain⟨its',_,⟨o',z,q,_⟩,_⟩:=I.tuple h2;rw[e]at z;cases z;rw[c]at q;exact absurd q (by decide)
mutual
theorem Rep.inj(I:Inv X pins σ H s):∀(d e:Dx) (v:V),Rep X.K H d v->Rep X.K H e v->d=e
 | .non,e,v,h,h'=>by
  rw[Rep]at h;subst h;cases e <;> (rw[Rep]at h') <;> first|rfl|(cases h';done)|(obtain⟨_,_,z,_⟩:=h';cases z)
 | .bl b,e,v,h,h'=>by
  rw[Rep]at h;subst h;cases e <;> (rw[Rep]at h') <;> first|(cases h';rfl)|(cases h';done)|(obtain⟨_,_,z,_⟩:=h';cases z)
 | .int i,e,v,h,h'=>by
  rw[Rep]at h;subst h;cases e <;> (rw[Rep]at h') <;> first|(cases h';rfl)|(cases h';done)|(obtain⟨_,_,z,_⟩:=h';cases z)
 | .str x,e,v,h,h'=>by
  rw[Rep]at h;subst h;cases e <;> (rw[Rep]at h') <;> first|(cases h';rfl)|(cases h';done)|(obtain⟨_,_,z,_⟩:=h';cases z)
 | .tup l,e,v,h,h'=>by
  rw[Rep]at h;obtain⟨a,xs,rfl,h1,h2⟩:=h;cases e with
  | tup m=>
   rw[Rep]at h';obtain⟨b,ys,q,G,J⟩:=h';cases q;have N:=I.tuple_inj h1 G;subst N;rw[RepL.inj I l m xs h2 J]
  | lst m=>
   rw[Rep]at h';obtain⟨b,ys,q,G,J⟩:=h';cases q;exact(zB I G h1).elim
  | non=>rw[Rep]at h';cases h'
  | bl b=>rw[Rep]at h';cases h'
  | int i=>rw[Rep]at h';cases h'
  | str x=>rw[Rep]at h';cases h'
 | .lst l,e,v,h,h'=>by
  rw[Rep]at h;obtain⟨a,xs,rfl,h1,h2⟩:=h;cases e with
  | lst m=>
   rw[Rep]at h';obtain⟨b,ys,q,G,J⟩:=h';cases q;have N:=I.list_inj h1 G;subst N;rw[RepL.inj I l m xs h2 J]
  | tup m=>
   rw[Rep]at h';obtain⟨b,ys,q,G,J⟩:=h';cases q;exact(zB I h1 G).elim
  | non=>rw[Rep]at h';cases h'
  | bl b=>rw[Rep]at h';cases h'
  | int i=>rw[Rep]at h';cases h'
  | str x=>rw[Rep]at h';cases h'
theorem RepL.inj(I:Inv X pins σ H s):∀(ds es:List Dx) (vs:List V),RepL X.K H ds vs->RepL X.K H es vs->ds=es
 | [],es,vs,h,h'=>by
  rw[RepL]at h;subst h;cases es with
  | nil=>rfl
  | cons e es=>rw[RepL]at h';obtain⟨_,_,z,_⟩:=h';cases z
 | d::ds,es,vs,h,h'=>by
  rw[RepL]at h;obtain⟨x,xs,rfl,h1,h2⟩:=h;cases es with
  | nil=>rw[RepL]at h';cases h'
  | cons e es=>
   rw[RepL]at h';obtain⟨_,_,z,G,q⟩:=h';cases z;rw[Rep.inj I d e x h1 G,RepL.inj I ds es xs h2 q]
end
end
open Classical in
theorem uO:∀(ds es:List Dx),((VO (min ds.length es.length)).all (λj=>decide (ds.getD j .non=es.getD j .non)) && ds.length == es.length)=decide (ds=es):=by
 intro ds es;by_cases h:ds=es
 ·subst h
  simp
 ·rw[decide_eq_false h]
  by_cases q:ds.length=es.length
  ·simp only[q,Nat.min_self,beq_self_eq_true,Bool.and_true]
   rw[Y1];intro z;rw[ZK]at z;refine h (List.ext_getElem q λi h1 h2=>?_);have:=of_decide_eq_true (z i (List.mem_range.mpr h2));simpa[Y2,h1,h2]using this
  ·have:(ds.length == es.length)=false:=by simpa using q
   rw[this,ZL]
open Classical in
theorem wH(ds es:List Dx)(h:ds.length=es.length):((VO ds.length).all (λj=>decide (ds.getD j .non=es.getD j .non)))=decide (ds=es):=by
 have:=uO ds es;rw[h,Nat.min_self,beq_self_eq_true,Bool.and_true]at this;rw[h];exact this
section
variable {X:Cx}{pins:List (Addr×Obj)}{σ:L2.St}{H:Hp}{s:U2}
theorem EqAt.to(h:EqAt A s u v b)(e:b=c):EqAt A s u v c:=e ▸ h
open Classical in
theorem mL(I:Inv X pins σ H s){n:Nat}(ih:∀(A:VC) (d e:Dx) (x y:V) (u v:Value),d.dep<=n->A.units+n<cLine->d.nb=true->e.nb=true->Rep X.K H d x->Rep X.K H e y->RelV x u->RelV y v->EqAt A s u v (decide (d=e)))
  {A:VC} {ds es:List Dx} {xs ys:List V} {q vs:List Value} (hd:rJ ds<=n) (hu:A.units+(n+1)<cLine) (h1:GN ds=true) (h2:GN es=true) (N:RepL X.K H ds xs) (U:RepL X.K H es ys) (J:Vals xs q) (Y:Vals ys vs) :
  ∀j (h1:j<q.toArray.size) (h2:j<vs.toArray.size),EqAt A.in1 s q.toArray[j] vs.toArray[j] (decide (ds.getD j .non=es.getD j .non)):=by
 intro j j1 j2;have l1:=N.length;have l2:=U.length;have l3:=J.length;have l4:=Y.length;have k1:j<q.length:=by simpa using j1
 have k2:j<vs.length:=by simpa using j2
 have z:ds[j]?=some (ds.getD j .non):=by simp[Y2,show j<ds.length by lia]
 have W:es[j]?=some (es.getD j .non):=by simp[Y2,show j<es.length by lia]
 obtain⟨x,ex,rx⟩:=N.get' z;obtain⟨y,ey,ry⟩:=U.get' W;obtain⟨u,G,ru⟩:=J.get ex;obtain⟨v,ev,rv⟩:=Y.get ey;have b1:q.toArray[j]=u:=by
  rw[WE k1]at G;simpa using VX G
 have b2:vs.toArray[j]=v:=by
  rw[WE k2]at ev;simpa using VX ev
 rw[b1,b2];exact ih A.in1 _ _ x y u v (WC (zQ z) hd) (by show A.units+1+n<cLine;lia) (yR h1 z) (yR h2 W) rx ry ru rv
end
section
variable {X:Cx}{pins:List (Addr×Obj)}{σ:L2.St}{H:Hp}{s:U2}
theorem PlainL.isList(p:PlainL h a its):h.IsList a its:=by
 obtain⟨o,n,e,c,_,d⟩:=p;exact⟨o,e,c,n,d⟩
open Classical in
theorem uQ(I:Inv X pins σ H s) :
  ∀(n:Nat) (A:VC) (d e:Dx) (x y:V) (u v:Value),d.dep<=n->A.units+n<cLine->d.nb=true->e.nb=true->Rep X.K H d x->Rep X.K H e y->RelV x u->RelV y v->EqAt A s u v (decide (d=e)):=by
 intro n;induction n with
 | zero=>
  intro A d e x y u v hd hu n1 W r1 q ru J;have G:A.units<cLine:=by lia
  cases d with
  | bl b=>rw[Dx.nb]at n1;cases n1
  | tup l=>rw[Dx.dep]at hd;lia
  | lst l=>rw[Dx.dep]at hd;lia
  | non=>
   rw[Rep]at r1;subst r1;cases ru;cases e with
   | bl b=>rw[Dx.nb]at W;cases W
   | non=>rw[Rep]at q;subst q;cases J;exact EqAt.to (EqAt.same _) (by simp)
   | int i=>rw[Rep]at q;subst q;obtain⟨t,rfl⟩:=J;exact EqAt.to (EqAt.none_int _ _) (by simp)
   | str i=>rw[Rep]at q;subst q;obtain⟨t,rfl⟩:=J;exact EqAt.to (EqAt.none_str _ _) (by simp)
   | tup l=>
    rw[Rep]at q;obtain⟨a,xs,rfl,h1,_⟩:=q;cases J;obtain⟨U,_,N,_⟩:=I.tuple h1;exact EqAt.to (EqAt.none_tuple N G) (by simp)
   | lst l=>
    rw[Rep]at q;obtain⟨a,xs,rfl,h1,_⟩:=q;cases J;obtain⟨U,_,N,_⟩:=I.list h1;exact EqAt.to (EqAt.none_list N.isList G) (by simp)
  | int i=>
   rw[Rep]at r1;subst r1;obtain⟨t,rfl⟩:=ru;cases e with
   | bl b=>rw[Dx.nb]at W;cases W
   | non=>rw[Rep]at q;subst q;cases J;exact EqAt.to (EqAt.int_none _ _) (by simp)
   | int j=>rw[Rep]at q;subst q;obtain⟨t',rfl⟩:=J;exact EqAt.to (EqAt.int_int _ _ _ _) (by simp[Bool.beq_eq_decide_eq])
   | str j=>rw[Rep]at q;subst q;obtain⟨t',rfl⟩:=J;exact EqAt.to (EqAt.int_str _ _ _ _) (by simp)
   | tup l=>
    rw[Rep]at q;obtain⟨a,xs,rfl,h1,_⟩:=q;cases J;obtain⟨U,_,N,_⟩:=I.tuple h1;exact EqAt.to (EqAt.int_tuple _ _ N G) (by simp)
   | lst l=>
    rw[Rep]at q;obtain⟨a,xs,rfl,h1,_⟩:=q;cases J;obtain⟨U,_,N,_⟩:=I.list h1;exact EqAt.to (EqAt.int_list _ _ N.isList G) (by simp)
  | str i=>
   rw[Rep]at r1;subst r1;obtain⟨t,rfl⟩:=ru;cases e with
   | bl b=>rw[Dx.nb]at W;cases W
   | non=>rw[Rep]at q;subst q;cases J;exact EqAt.to (EqAt.str_none _ _) (by simp)
   | int j=>rw[Rep]at q;subst q;obtain⟨t',rfl⟩:=J;exact EqAt.to (EqAt.str_int _ _ _ _) (by simp)
   | str j=>rw[Rep]at q;subst q;obtain⟨t',rfl⟩:=J;exact EqAt.to (EqAt.str_str _ _ _ _) (by simp[Bool.beq_eq_decide_eq])
   | tup l=>
    rw[Rep]at q;obtain⟨a,xs,rfl,h1,_⟩:=q;cases J;obtain⟨U,_,N,_⟩:=I.tuple h1;exact EqAt.to (EqAt.str_tuple _ _ N G) (by simp)
   | lst l=>
    rw[Rep]at q;obtain⟨a,xs,rfl,h1,_⟩:=q;cases J;obtain⟨U,_,N,_⟩:=I.list h1;exact EqAt.to (EqAt.str_list _ _ N.isList G) (by simp)
 | succ n ih=>
  intro A d e x y u v hd hu n1 W r1 q ru J;have G:A.units<cLine:=by lia
  cases d with
  | bl b=>rw[Dx.nb]at n1;cases n1
  | non=>exact ih A _ e x y u v (by rw[Dx.dep];lia) (by lia) n1 W r1 q ru J
  | int i=>exact ih A _ e x y u v (by rw[Dx.dep];lia) (by lia) n1 W r1 q ru J
  | str i=>exact ih A _ e x y u v (by rw[Dx.dep];lia) (by lia) n1 W r1 q ru J
  | tup l=>
   have ae:=r1;rw[Rep]at r1;obtain⟨a,xs,rfl,h1,q1⟩:=r1;cases ru;obtain⟨U,v1,N,_⟩:=I.tuple h1;cases e with
   | bl b=>rw[Dx.nb]at W;cases W
   | non=>rw[Rep]at q;subst q;cases J;exact EqAt.to (EqAt.tuple_none N G) (by simp)
   | int j=>rw[Rep]at q;subst q;obtain⟨t',rfl⟩:=J;exact EqAt.to (EqAt.tuple_int _ _ N G) (by simp)
   | str j=>rw[Rep]at q;subst q;obtain⟨t',rfl⟩:=J;exact EqAt.to (EqAt.tuple_str _ _ N G) (by simp)
   | lst m=>
    rw[Rep]at q;obtain⟨b,ys,rfl,h2,q2⟩:=q;cases J;obtain⟨Y,v2,aa,_⟩:=I.list h2;exact EqAt.to (EqAt.tuple_list N aa.isList G) (by simp)
   | tup m=>
    by_cases hv:v=VT a
    ·subst hv
     obtain rfl:y=V.ref a:=RelV.inj J rfl;have:=Rep.inj I _ _ _ ae q;rw[this];exact EqAt.to (EqAt.same _) (by simp)
    ·rw[Rep]at q;obtain⟨b,ys,rfl,h2,q2⟩:=q;cases J
     obtain⟨Y,v2,aa,_⟩:=I.tuple h2;rw[Dx.dep]at hd;rw[Dx.nb]at n1 W;refine EqAt.to (EqAt.of_refs (λz=>hv (by rw[z])) (RcAt.tuples N aa G (mL I ih (by lia) hu n1 W q1 q2 v1 v2))) ?_;have e1:U.toArray.size=l.length:=by rw[VJ,<- v1.length,q1.length]
     have e2:Y.toArray.size=m.length:=by rw[VJ,<- v2.length,q2.length]
     rw[e1,e2,uO];simp
  | lst l=>
   have ae:=r1;rw[Rep]at r1;obtain⟨a,xs,rfl,h1,q1⟩:=r1;cases ru;obtain⟨U,v1,N,_⟩:=I.list h1;cases e with
   | bl b=>rw[Dx.nb]at W;cases W
   | non=>rw[Rep]at q;subst q;cases J;exact EqAt.to (EqAt.list_none N.isList G) (by simp)
   | int j=>rw[Rep]at q;subst q;obtain⟨t',rfl⟩:=J;exact EqAt.to (EqAt.list_int _ _ N.isList G) (by simp)
   | str j=>rw[Rep]at q;subst q;obtain⟨t',rfl⟩:=J;exact EqAt.to (EqAt.list_str _ _ N.isList G) (by simp)
   | tup m=>
    rw[Rep]at q;obtain⟨b,ys,rfl,h2,q2⟩:=q;cases J;obtain⟨Y,v2,aa,_⟩:=I.tuple h2;exact EqAt.to (EqAt.list_tuple N.isList aa G) (by simp)
   | lst m=>
    by_cases hv:v=VT a
    ·subst hv
     obtain rfl:y=V.ref a:=RelV.inj J rfl;have:=Rep.inj I _ _ _ ae q;rw[this];exact EqAt.to (EqAt.same _) (by simp)
    ·rw[Rep]at q;obtain⟨b,ys,rfl,h2,q2⟩:=q;cases J
     obtain⟨Y,v2,aa,_⟩:=I.list h2;rw[Dx.dep]at hd;rw[Dx.nb]at n1 W;have e1:U.toArray.size=l.length:=by rw[VJ,<- v1.length,q1.length]
     have e2:Y.toArray.size=m.length:=by rw[VJ,<- v2.length,q2.length]
     by_cases hl:l.length=m.length
     ·refine EqAt.to (EqAt.of_refs (λz=>hv (by rw[z])) (RcAt.lists N.isList aa.isList (by rw[e1,e2,hl]) G (mL I ih (by lia) hu n1 W q1 q2 v1 v2))) ?_
      rw[e1,wH _ _ hl];simp
     ·refine EqAt.to (EqAt.of_refs (λz=>hv (by rw[z])) (RcAt.lists_lengths N.isList aa.isList (by rw[e1,e2];simpa using hl) G)) ?_
      rw[decide_eq_false];intro z;cases z;exact hl rfl
end
noncomputable def Dx.seq:Dx->Bool
 | .tup _=>true | .lst _=>true | .non=>false | .bl _=>false | .int _=>false | .str _=>false
open Classical in
def QZ(K:U3)(neg:Bool):R2:=λx y H Q=>∃d e,Rep K H d x/\Rep K H e y/\d.seq=true/\e.seq=true/\d.nb=true/\e.nb=true/\d.dep<=60/\Q (.bl (if neg then !decide (d=e)else decide (d=e))) H
section
variable {X:Cx}{pins:List (Addr×Obj)}{σ:L2.St}{H:Hp}{s:U2}
open Classical in
theorem LB(I:Inv X pins σ H s)(hu:X.A.units+64<cLine)(r1:Rep X.K H d x)(W:Rep X.K H e y)(q1:d.seq=true)(U:e.seq=true)(n1:d.nb=true)(n2:e.nb=true)(hd:d.dep<=60)(ru:RelV x u)(rv:RelV y v) :
  RcAt X.A s u v (decide (d=e))/\RcNeAt X.A s u v (!decide (d=e)):=by
 have G:X.A.units<cLine:=by lia
 cases d with
 | bl b=>cases q1
 | non=>cases q1
 | int b=>cases q1
 | str b=>cases q1
 | tup l=>
  rw[Rep]at r1;obtain⟨a,xs,rfl,h1,k1⟩:=r1;cases ru;obtain⟨ab,v1,N,_⟩:=I.tuple h1;have Y:ab.toArray.size=l.length:=by rw[VJ,<- v1.length,k1.length]
  cases e with
  | bl b=>cases U
  | non=>cases U
  | int b=>cases U
  | str b=>cases U
  | tup m=>
   rw[Rep]at W;obtain⟨b,ys,rfl,h2,k2⟩:=W;cases rv;obtain⟨J,v2,q,_⟩:=I.tuple h2;have e2:J.toArray.size=m.length:=by rw[VJ,<- v2.length,k2.length]
   rw[Dx.dep]at hd;rw[Dx.nb]at n1 n2;have he:=mL I (uQ I 60) (A:=X.A) (by lia) (by lia) n1 n2 k1 k2 v1 v2;have a1:=RcAt.tuples N q G he;have a2:=RcNeAt.tuples N q G he;rw[Y,e2,uO]at a1 a2;have z:decide (Dx.tup l=Dx.tup m)=decide (l=m):=by simp
   rw[z];exact⟨a1,a2⟩
  | lst m=>
   rw[Rep]at W;obtain⟨b,ys,rfl,h2,k2⟩:=W;cases rv;obtain⟨J,v2,q,_⟩:=I.list h2;have z:decide (Dx.tup l=Dx.lst m)=false:=by simp
   rw[z];exact⟨RcAt.tuple_list N q.isList G,RcNeAt.tuple_list N q.isList G⟩
 | lst l=>
  rw[Rep]at r1;obtain⟨a,xs,rfl,h1,k1⟩:=r1;cases ru;obtain⟨ab,v1,N,_⟩:=I.list h1;have Y:ab.toArray.size=l.length:=by rw[VJ,<- v1.length,k1.length]
  cases e with
  | bl b=>cases U
  | non=>cases U
  | int b=>cases U
  | str b=>cases U
  | tup m=>
   rw[Rep]at W;obtain⟨b,ys,rfl,h2,k2⟩:=W;cases rv;obtain⟨J,v2,q,_⟩:=I.tuple h2;have z:decide (Dx.lst l=Dx.tup m)=false:=by simp
   rw[z];exact⟨RcAt.list_tuple N.isList q G,RcNeAt.list_tuple N.isList q G⟩
  | lst m=>
   rw[Rep]at W;obtain⟨b,ys,rfl,h2,k2⟩:=W;cases rv;obtain⟨J,v2,q,_⟩:=I.list h2;have e2:J.toArray.size=m.length:=by rw[VJ,<- v2.length,k2.length]
   rw[Dx.dep]at hd;rw[Dx.nb]at n1 n2;have z:decide (Dx.lst l=Dx.lst m)=decide (l=m):=by simp
   rw[z];by_cases hl:l.length=m.length
   ·have he:=mL I (uQ I 60) (A:=X.A) (by lia) (by lia) n1 n2 k1 k2 v1 v2
    have a1:=RcAt.lists N.isList q.isList (by rw[Y,e2,hl]) G he;have a2:=RcNeAt.lists N.isList q.isList (by rw[Y,e2,hl]) G he;rw[Y,wH _ _ hl]at a1 a2;exact⟨a1,a2⟩
   ·have z2:decide (l=m)=false:=decide_eq_false λz=>hl (by rw[z])
    rw[z2];exact⟨RcAt.lists_lengths N.isList q.isList (by rw[Y,e2];simpa using hl) G,RcNeAt.lists_lengths N.isList q.isList (by rw[Y,e2];simpa using hl) G⟩
end
section
variable {X:Cx}
theorem N5(hu:X.A.units+64<cLine):OpR X (VF .Eq) (QZ X.K false):=by
 intro pins s σ H x y v u Q I z Y h;obtain⟨d,e,G,W,J,N,U,n2,hd,q⟩:=h;exact(LB I hu G W J N U n2 hd z Y).1 X.prog X.w X.xe _ ⟨.bl _,H,I,rfl,q⟩
theorem MS(hu:X.A.units+64<cLine):OpR X (VF .NotEq) (QZ X.K true):=by
 intro pins s σ H x y v u Q I z Y h;obtain⟨d,e,G,W,J,N,U,n2,hd,q⟩:=h;exact(LB I hu G W J N U n2 hd z Y).2 X.prog X.w X.xe _ ⟨.bl _,H,I,rfl,q⟩
end
def TSame(H H':Hp):Prop:=∀b xs,Rd H b (.tup xs)->Rd H' b (.tup xs)
theorem Same.t(e:Same H H'):TSame H H':=λb xs h=>by
 rcases h with h|⟨o,h⟩
 ·exact .inl (e _ _ h)
 ·exact .inr ⟨o,e _ _ h⟩
theorem TSame.trans(a:TSame H H1)(b:TSame H1 H2):TSame H H2:=λc o h=>b c o (a c o h)
theorem TSame.put(h:H l=some (.lst us)):TSame H (upd H l o):=λb xs q=>by
 have G:b≠l:=λz=>by
  subst z;rcases q with q|⟨ob,q⟩ <;> (rw[h]at q;cases q)
 rcases q with q|⟨ob,q⟩
 ·exact .inl (by rw[aO G];exact q)
 ·exact .inr ⟨ob,by rw[aO G];exact q⟩
theorem TSame.sq{K:U3}{H H':Hp}{a:Addr}{xs:List V}(e:TSame H H')(h:SqT K H a xs):SqT K H' a xs:=by
 rcases h with h|h
 ·exact .inl (e _ _ h)
 ·exact .inr h
mutual
def Dx.nl:Dx->Bool
 | .lst _=>false
 | .tup l=>RN l
 | .non=>true
 | .bl _=>true
 | .int _=>true
 | .str _=>true
def RN:List Dx->Bool
 | []=>true
 | d::ds=>d.nl && RN ds
end
section
variable {K:U3}{H H':Hp}
mutual
theorem Rep.tsame(e:TSame H H'):∀(d:Dx) (v:V),d.nl=true->Rep K H d v->Rep K H' d v
 | .non,v,_,h=>by rw[Rep]at h ⊢;exact h
 | .bl b,v,_,h=>by rw[Rep]at h ⊢;exact h
 | .int i,v,_,h=>by rw[Rep]at h ⊢;exact h
 | .str x,v,_,h=>by rw[Rep]at h ⊢;exact h
 | .tup l,v,n,h=>by
  rw[Rep]at h ⊢;rw[Dx.nl]at n;obtain⟨a,xs,q,h1,h2⟩:=h;exact⟨a,xs,q,e.sq h1,RepL.tsame e l xs n h2⟩
 | .lst l,v,n,h=>by rw[Dx.nl]at n;cases n
theorem RepL.tsame(e:TSame H H'):∀(ds:List Dx) (vs:List V),RN ds=true->RepL K H ds vs->RepL K H' ds vs
 | [],vs,_,h=>by rw[RepL]at h ⊢;exact h
 | d::ds,vs,n,h=>by
  rw[RepL]at h ⊢;rw[RN,WD]at n;obtain⟨x,xs,q,h1,h2⟩:=h;exact⟨x,xs,q,Rep.tsame e d x n.1 h1,RepL.tsame e ds xs n.2 h2⟩
end
end
theorem Same.put(e:Same H H')(h:H l=none):Same H (upd H' l o):=λb u q=>by
 rw[aO (bP q h)];exact e b u q
def aX(X:Cx)(N:List Str)(scope:Scope)(cl:List (Str×Addr))(C:Addr)(s:U2)(H:Hp)(fp:List Addr):Cx where
 prog:=X.prog
 w:=X.w
 K:=X.K
 mg:=X.mg
 base:=X.base
 A:=X.A
 N:=N
 s₀:=s
 H₀:=H
 env:=compEnvC scope cl C X.env
 outer:=X.stack
 stack:=X.stack
 ex:=fp
 fn:=λ_=>false
 calm:=X.calm
 pn:=[]
 xe:=λ_ _=>False
def AZ(X:Cx)(q:List Expr)(t:TT):Prop:=
 ∀(pins:List (Addr×Obj)) (s:U2) (σ:L2.St) (H:Hp) (Q:Bool->Hp->Prop),Inv X pins σ H s->t σ H Q->
  wpAny (model X.prog X.w) X.A (forIn q true λc r=>if r=true then do let ok <- isTrue c X.env (eval c X.env);pure (Y3 ok)else pure (Y3 r)) (TP X pins σ Q) X.xe s
def R1:TT:=λ_ H Q=>Q true H
theorem HW:AZ X [] R1:=λpins s σ H Q I h=>wpAny_tests_nil ⟨H,I,h⟩
theorem G8(h:PT X c t):AZ X [c] t:=λpins s σ H Q I hw=>wpAny_tests_one (h pins s σ H Q I hw)
structure Clo(X:Cx)(N:List Str)(scope:Scope)(cl:List (Str×Addr)):Prop where
 clos:closureFor scope X.env=pure cl
 kind:scope.kind=.function
 nocell:∀y∈scope.names,y.2≠.cell
 names:∀y∈scope.names,y.2=.local->scope.names.lookup y.1=some .local
 sub:∀x c,cl.lookup x=some c->X.env.cells.lookup x=some c
 has:∀x,((W2 scope X.env).names.lookup x=some .cell\/(W2 scope X.env).names.lookup x=some .free)->∃c,cl.lookup x=some c
def Start(X:Cx)(N:List Str)(scope:Scope)(σ q:L2.St):Prop:=
 q.length=N.length/\∀(j:Nat) (x:Str) (v:V),N[j]?=some x->q[j]?=some (some v)->GL (W2 scope X.env) x->¬ (W2 scope X.env).names.lookup x=some .local/\∃i:Nat,X.N[i]?=some x/\σ[i]?=some (some v)/\(X.env.kindOf x=some .cell\/X.env.kindOf x=some .free)
def FS(wi:TI)(g:TG)(tt:TT)(te:TE)(S:L2.St->L2.St->Prop):TE:=λσ H Q=>∃G,S σ G/\wi σ H λJ H1=>∀D,H1 D=none->∃W:Nat->Nat->L2.St->List V->Hp->Prop,(∃m,W 0 m G [] (upd H1 D (.lst []))) /\
 ∀i m U z H2,W i m U z H2->(J.stop i H2/\Q (.ref D) H2)\/(J.go i H2/\z.length<VA/\∀x H3,J.yld i H2 x H3->g x U H3 λq H4=>tt q H4 λok Y=>
  if ok=true then te q Y λv H6=>H6 D=some (.lst z)/\∃N,N<m/\W (i+1) N q (z++[v]) (upd H6 D (.lst (z++[v])))else Y D=some (.lst z)/\∃N,N<m/\W (i+1) N q z Y)
section
variable {X:Cx}
theorem G2(G:Inv X pins σ H3 s3)(U:Clo X N scope cl)(W:∀b∈fp,kT X pins H3 b)(Y:∀b∈fp,∃o,s3.heap.get? b=some o) :
  (aX X N scope cl s3.heap.objs.size s3 H3 fp).Ok where
 mod:=G.ok.mod
 kind:=U.kind
 glob:=G.ok.glob
 blt:=G.ok.blt
 above:=VG _
 inj:=λx y c h1 h2=>G.ok.inj x y c (U.sub x c h1) (U.sub y c h2)
 has:=λx h=>U.has x h
 cab:=λx c h _=>nomatch h
 hd:=G.ok.hd
 frames:=G.ok.frames
 stk:=.inl rfl
 exf:=λb J=>by
  obtain⟨o,e⟩:=Y b J;exact⟨VY (VE e),λx c h=>(W b J).2.2.2.2.1 x c (U.sub x c h)⟩
 bs:=G.bs
 bsz:=WC G.ok.bsz G.sz
 noex:=λb o e J=>by
  rcases(W b J).2.2.2.1 with z|z
  ·exact G.ok.noex b o e z
  ·exact absurd (V9 (VE e) G.ok.bsz) (Nat.not_lt.mpr z)
 exfs:=λb J z=>by
  rcases List.mem_cons.mp (G.stkSub b z)with q|q
  ·exact(W b J).2.1 q
  ·exact(W b J).2.2.1 q
 funs:=G.stack
 frf:=G.stkFree
theorem C6(J:Inv X pins σ H3 s3)(W:Clo X N scope cl)(ff:∀b∈fp,kT X pins H3 b)(fe:∀b∈fp,∃o,s3.heap.get? b=some o)
  (st:Start X N scope σ σ') (ho:s4.os=s3.os) (hg:s4.gens=s3.gens) (Y:∀b o,s3.heap.get? b=some o->s4.heap.get? b=some o) (hn:s4.heap.Ns s3.heap.objs.size m) :
  Inv (aX X N scope cl s3.heap.objs.size s3 H3 fp) [] σ' H3 s4 where
 ok:=G2 J W ff fe
 os:=ho
 bare:=by rw[hg];exact J.bare
 base:=Un.kept Y
 loc:=by
  refine⟨m,hn,λj x v h1 h2 z=>?_⟩;obtain⟨nl,i,e1,e2,q⟩:=st.2 j x v h1 h2 z;obtain⟨m0,an,ac⟩:=J.loc;have ae:GL X.env.scope x:=by
   rcases q with q|q
   ·exact .inr (.inl q)
   ·exact .inr (.inr q)
  obtain⟨u,ru,l⟩:=ac i x v e1 e2 ae;refine⟨u,ru,?_⟩;rcases l with⟨lk,_⟩|⟨_,c,hc,G⟩
  ·rcases q with q|q <;> (rw[lk]at q;cases q)
  ·have kk:(W2 scope X.env).names.lookup x=some .cell\/(W2 scope X.env).names.lookup x=some .free:=by
    rcases z with z|z|z
    ·exact absurd z nl
    ·exact .inl z
    ·exact .inr z
   obtain⟨c',U⟩:=W.has x kk;have ec:=W.sub x c' U;rw[hc]at ec;cases ec;obtain⟨o,ad,ab⟩:=G;exact .inr ⟨kk,c,U,o,Y c o ad,ab⟩
 cell:=λx c e=>by
  obtain⟨v,o,e1,d1⟩:=J.cell x c (W.sub x c e);exact⟨v,o,Y c o e1,d1⟩
 free:=J.hok.fresh (VG _)
 freeC:=λx c e=>J.freeC x c (W.sub x c e)
 pin:=λp hp=>nomatch hp
 hok:=J.hok.kept Y
 len:=st.1
theorem comp_back(I3:Inv X pins σ H3 s3)(ff:∀b∈fp,kT X pins H3 b)
  (G:Inv (aX X N scope cl s3.heap.objs.size s3 H3 fp) [] σ5 H5 s5) (hs:WN s3.heap.objs.size s5.heap h'):Inv X pins σ H5 {s5 with heap:=h'}:=by
 have W:∀b o,s3.heap.get? b=some o->b≠s3.heap.objs.size:=λb o e=>VY (VE e)
 have u:=G.base;refine I3.call' (s':={s5 with heap:=h'}) (ch:=fp) G.os ⟨λb o e n J U=>?_,λb o e n J U=>?_,u.free,λb o e U=>?_,u.tups,u.frzs,u.tbls⟩ ?_ G.bare λb J=>?_
 ·exact(hs.2 b (W b o e)).trans (u.keep b o e n J U)
 ·obtain⟨sl,q⟩:=u.slot b o e n J U
  exact⟨sl,(hs.2 b (W b o e)).trans q⟩
 ·obtain⟨o',q⟩:=u.there b o e U
  exact⟨o',(hs.2 b (W b o e)).trans q⟩
 ·intro b ob e
  have Y:H5 s3.heap.objs.size=none:=G.free;refine(G.hok b ob e).stay (λc w' hc q=>(hs.2 c ?_).trans q) (λ_ q=>q) λ_ _ q=>q
  rintro rfl;rcases hc with z|z
  ·subst z;rw[Y]at e;cases e
  ·rw[Y]at z;cases z
 ·obtain⟨_,f1,_,f3,f4,f5⟩:=ff b J
  exact⟨f3,f1,f4,f5⟩
theorem BV(I:Nat->U2->Prop)
  (turn:∀n s, I n s -> wpAny (model prog w) A (WU it) (λr q => match r with
   | none=>R (.ok .next) q
   | some v=>wpAny (model prog w) A (Z1 target it v) (λ_ z=>wpAny (model prog w) A (WO target env v) (λ_ W=>
     wpAny (model prog w) A (forIn ifs true λc r=>if r=true then do let ok <- isTrue c env (eval c env);pure (Y3 ok)else pure (Y3 r)) (λok G=>
      if ok=true then wpAny (model prog w) A (eval elt env) (λx J=>
       wpAny (model prog w) A (call (.builtin "list.append") [acc,x]) (λ_ U=>∃m,m<n/\I m U) (λ_ _=>False) J) (λ_ _=>False) G
      else ∃m,m<n/\I m G) (λ_ _=>False) W) (λ_ _=>False) z) (λ_ _=>False) q) (λ_ _=>False) s)
  (n:Nat) (h:I n s) :
  W5 (model prog w) A (.compLoop (.ListComp elt [⟨target,iter,ifs,0⟩] scope pos) 0 it acc env) R s:=by
 refine codeAny_loop rfl I (λn s hI=>?_) n h;show wpAny _ A ((compTurn (.ListComp elt [⟨target,iter,ifs,0⟩] scope pos) 0 it acc env).onRaise (λx=>do YN x env;theTreesLotGoes x)) _ _ s;refine wpAny_noted ?_;rw[compTurn_list];have ff:∀(e:Value) (s':U2),False->notedBy (model prog w) A env (λe s'=>R (.error e) s') e s':=λ_ _ h=>h.elim
 refine U4 (Y9 (U4 (VP (turn n s hI) (λr q Y=>?_) ff)));cases r with
 | none=>exact U9 Y
 | some v=>
  refine U4 (VP Y (λ_ z aa=>?_) ff);refine U4 (VP aa (λ_ W ac=>U4 (VP ac (λok G N=>?_) ff)) ff);cases ok with
  | false=>exact U9 ⟨rfl,N⟩
  | true=>
   exact U4 (U4 (VP N (λx J ae=>U4 (VP ae (λ_ U ad=>U9 (U9 ⟨rfl,ad⟩)) ff)) ff))
theorem sI{as tg an:Expr}{au:List Expr}{scope:Scope}{pos:Pos}{N:List Str}{cl:List (Str×Addr)}{wi:TI}{g:TG}{tt:TT}{te:TE}{RR:Value->Addr->Result->U2->Prop}{pins:List (Addr×Obj)}{σ ak:L2.St}{Q:VK}{J:It}{H2:Hp}{G:U2}{it:Addr}{fp:List Addr}{tn:Nat->Heap->Prop}{E:Value->U2->Prop}
  (hc:X.calm=true) (cc:Clo X N scope cl) (hg:∀C s H fp,PG (aX X N scope cl C s H fp) tg g) (ht:∀C s H fp,AZ (aX X N scope cl C s H fp) au tt) (he:∀C s H fp,PE (aX X N scope cl C s H fp) as te)
  (I2:Inv X pins σ H2 G) (T:Turn X.prog X.w X.K tg J fp it tn) (ax:tn 0 G.heap) (f2:∀b∈fp,kT X pins H2 b) (sS:Start X N scope σ ak)
  (q2:∀D, H2 D = none -> ∃W:Nat -> Nat -> L2.St -> List V -> Hp -> Prop, (∃m, W 0 m ak [] (upd H2 D (.lst []))) /\
   ∀i m aa U H2,W i m aa U H2->(J.stop i H2/\Q (.ref D) H2)\/(J.go i H2/\U.length<VA/\∀x Y,J.yld i H2 x Y->g x aa Y λal H4=>tt al H4 λok H5=>
    if ok=true then te al H5 λv H6=>H6 D=some (.lst U)/\∃m',m'<m/\W (i+1) m' al (U++[v]) (upd H6 D (.lst (U++[v])))else H5 D=some (.lst U)/\∃m',m'<m/\W (i+1) m' al U H5))
  (bn:∀(s3 s5:U2) (Y H5:Hp) (ac:L2.St) (D:Addr),Inv X pins σ Y s3->(∀b∈fp,kT X pins Y b)->Inv (aX X N scope cl s3.heap.objs.size s3 Y fp) [] ac H5 s5->Q (.ref D) H5->RR (.ref D) s3.heap.objs.size (.ok .next) s5) :
  wpAny (model X.prog X.w) X.A (newList []) (λa5 a8=>wpAny (model X.prog X.w) X.A (newFunctionEnv scope X.env.globals cl [] X.env.qual none .none (some X.env)) (λao ay=>
   W5 (model X.prog X.w) X.A (.compStart (.ListComp as [⟨tg,an,au,0⟩] scope pos) 0 (.ref it) a5 {ao with scope:=W2 scope X.env}) (RR a5 ao.locals) ay) E a8) E G:=by
 refine W7 (wpAny_newFunctionEnv cc.nocell (by intro y hy;simp at hy) (λh1 ah ai=>?_) cc.kind);dsimp only at ah ai ⊢;have I3:Inv X pins σ (upd H2 G.heap.objs.size (.lst [])) {G with heap:=G.heap.push {cls:=.type "list",dict:=none,data:=.seq ([]:List Value).toArray} }:=I2.lnew (t':=G.toks) .nil (XN _);have hD:H2 G.heap.objs.size=none:=I2.fresh;have bt:∀b∈fp,b≠G.heap.objs.size:=λb q=>by
  obtain⟨o,e,_⟩:=T.obj 0 _ ax b q;exact VY (VE e)
 have fe:∀b∈fp,∃o,(G.heap.push {cls:=.type "list",dict:=none,data:=.seq ([]:List Value).toArray}).get? b=some o:=λb q=>by
  obtain⟨o,e,_⟩:=T.obj 0 _ ax b q;exact⟨o,VI _ e⟩
 have f3:∀b∈fp,kT X pins (upd H2 G.heap.objs.size (.lst [])) b:=λb q=>⟨by rw[aO (bt b q)];exact(f2 b q).1,(f2 b q).2⟩
 obtain⟨W,⟨m0,w0⟩,turn⟩:=q2 G.heap.objs.size hD;have bp:(upd H2 G.heap.objs.size (.lst [])) G.heap.objs.size=some (.lst []):=aT;generalize hs3:({G with heap:=G.heap.push {cls:=.type "list",dict:=none,data:=.seq ([]:List Value).toArray} }:U2)=s3 at I3;have e3:G.heap.push {cls:=.type "list",dict:=none,data:=.seq ([]:List Value).toArray}=s3.heap:=by rw[<- hs3]
 rw[e3]at ah ai fe ⊢;generalize G.heap.objs.size=D at *;generalize upd H2 D (.lst [])=Y at *;have aq:∀b o,s3.heap.get? b=some o->h1.get? b=some o:=λb o e=>(ai.2 b (VY (VE e))).trans (VI _ e)
 have a2:tn 0 s3.heap:=by
  refine T.keep 0 _ _ ax λb q o e=>?_
  rw[<- e3];exact VI _ e
 have am:∀s4:U2,s4={G with heap:=h1,toks:=G.toks+([]:List (Str×Value)).length}->
   W5 (model X.prog X.w) X.A (.compLoop (.ListComp as [⟨tg,an,au,0⟩] scope pos) 0 (.ref it) (.ref D) (compEnvC scope cl s3.heap.objs.size X.env)) (RR (.ref D) s3.heap.objs.size) s4:=by
  rintro s4 rfl;have I4:Inv (aX X N scope cl s3.heap.objs.size s3 Y fp) [] ak Y {G with heap:=h1,toks:=G.toks+([]:List (Str×Value)).length}:=
   C6 (m:=λx=>([]:List (Str×Value)).reverse.lookup x) I3 cc f3 fe sS (by rw[<- hs3]) (by rw[<- hs3]) aq ah
  have ar:∀ {H':Hp},(∀b∈fp,H' b=none)->∀b∈fp,kT (aX X N scope cl s3.heap.objs.size s3 Y fp) [] H' b:=λhn b q=>by
   have ok:=I4.ok;exact⟨hn b q,(ok.exf b q).1,ok.exfs b q,.inl q,(ok.exf b q).2,λp hp=>nomatch hp⟩
  refine BV (λn s'=>∃i aa U H',Inv (aX X N scope cl s3.heap.objs.size s3 Y fp) [] aa H' s'/\tn i s'.heap/\(∀b∈fp,H' b=none)/\H' D=some (.lst U)/\W i n aa U H') ?_ m0 ⟨0,ak,[],Y,I4,T.keep 0 _ _ a2 λb q o e=>aq b o e,λb q=>(f3 b q).1,bp,w0⟩;rintro n s5 ⟨i,ac,U,H5,I5,be,bc,da,w5⟩;rcases turn i n ac U H5 w5 with⟨az,qn⟩|⟨go,ba,step⟩
  ·refine b7 (T.done (aX X N scope cl s3.heap.objs.size s3 Y fp) rfl rfl rfl hc i [] s5 ac H5 _ I5 (ar bc) be az) λr s6 ⟨hr,I6⟩=>?_
   subst hr;exact bn s3 s6 Y H5 ac D I3 f3 I6 qn
  ·refine b7 (T.item (aX X N scope cl s3.heap.objs.size s3 Y fp) rfl rfl rfl hc i [] s5 ac H5 _ I5 (ar bc) be go) λr s6 ⟨u,hr,h6⟩=>?_
   subst hr;refine b7 h6 λ_ s7 ⟨x,H7,I7,r7,y7,ap,bu⟩=>?_
   have bh:=I7.pinned (ar bu) (T.obj _ _ ap);refine b7 (hg _ _ _ _ _ s7 ac H7 x u _ bh r7 (step x H7 y7)) λ_ s8 ⟨ab,H8,I8,q8⟩=>?_
   refine b7 (ht _ _ _ _ _ s8 ab H8 _ I8 q8) λok s9 ⟨H9,I9,q9⟩=>?_
   have fin:∀ {ae:U2} {ad:Hp} {vs:List V},Inv (aX X N scope cl s3.heap.objs.size s3 Y fp) ([]++rA fp s7.heap) ab ad ae->ad D=some (.lst vs)->(∃m',m'<n/\W (i+1) m' ab vs ad)->
     ∃m,m<n/\∃i aa U H',Inv (aX X N scope cl s3.heap.objs.size s3 Y fp) [] aa H' ae/\tn i ae.heap/\(∀b∈fp,H' b=none)/\H' D=some (.lst U)/\W i m aa U H':=λ{ae ad vs} ag hd ⟨m',hm,br⟩=>by
    refine⟨m',hm,i+1,ab,vs,ad,ag.unpinned,T.keep _ _ _ ap λb q o e=>(ag.pin (b,o) (WM _ (WM _ (iX q e)))).1,λb q=>?_,hd,br⟩;obtain⟨o,e,d⟩:=T.obj _ _ ap b q;exact(ag.pin (b,o) (WM _ (WM _ (iX q e)))).2.1
   cases ok with
   | false=>
    rw[if_neg VH]at q9 ⊢;exact fin I9 q9.1 q9.2
   | true=>
    rw[if_pos rfl]at q9 ⊢;refine b7 (he _ _ _ _ _ s9 ab H9 _ I9 q9) λy ae ⟨v,ad,ag,bf,a1,bo⟩=>?_
    refine b7 (sH (X:=aX X N scope cl s3.heap.objs.size s3 Y fp) _ ae ab ad (.ref D) [v] (.ref D) [y] (λ_ aw=>aw D=some (.lst (U++[v]))/\∃m',m'<n/\W (i+1) m' ab (U++[v]) aw) ag rfl (.cons bf .nil) ⟨D,U,v,rfl,rfl,a1,ba,aT,bo⟩) λ_ c4 ⟨z,aw,bm,_,a3,bj⟩=>?_
    exact fin bm a3 bj
 exact codeAny_compStart_list (am _ rfl) (T.self X.A 0 _ _ _ (T.keep 0 _ _ a2 λb q o e=>aq b o e) (am _ rfl))
theorem HK{U tg z:Expr}{G:List Expr}{scope:Scope}{pos:Pos}{N:List Str}{cl:List (Str×Addr)}{wi:TI}{g:TG}{tt:TT}{te:TE}
  (hc:X.calm=true) (W:Clo X N scope cl) (hi:PI X tg z wi) (hg:∀C s H fp,PG (aX X N scope cl C s H fp) tg g) (ht:∀C s H fp,AZ (aX X N scope cl C s H fp) G tt) (he:∀C s H fp,PE (aX X N scope cl C s H fp) U te)
  (hs:∀x,WY z X.env x=pure x:=by intro _;rfl) :
  PE X (.ListComp U [⟨tg,z,G,0⟩] scope pos) (FS wi g tt te (Start X N scope)):=by
 intro pins s σ H Q I h;obtain⟨ae,sS,hw⟩:=h;rw[eval_ListComp];refine wpAny_comprehension_free (use:=none) rfl hs W.clos W.kind W.names (b7 (hi pins s σ H _ I hw) λv s1 h1=>b7 h1 λam s2 h2=>?_);obtain⟨it,fp,tn,J,H2,e,I2,T,ab,f2,q2⟩:=h2;subst e;refine sI (wi:=wi) (Q:=Q) (RR:=λY C=>compPost (model X.prog X.w) X.A X.xe none (EP X pins σ Q) Y C) hc W hg ht he I2 T ab f2 sS q2 ?_;intro s3 s5 H3 H5 ag D I3 f3 I5 q;obtain⟨m,hn,_⟩:=id I5.loc;exact⟨m,hn,λh' aa=>⟨.ref D,H5,comp_back I3 f3 I5 aa,rfl,q⟩⟩
end
end My
namespace My
open PySem PySem.W PyProof.Rows
structure Ord(n:Nat)(lt:Nat->Nat->Bool):Prop where
 irr:∀i,i<n->lt i i=false
 tr:∀i j k,i<n->j<n->k<n->lt i j=true->lt j k=true->lt i k=true
 tot:∀i j,i<n->j<n->i≠j->lt i j=true\/lt j i=true
section
variable {n:Nat}{lt:Nat->Nat->Bool}(O:Ord n lt)
include O
end
end My
namespace My
open PySem PySem.Spec PyProof.Rows PySem.W
section
variable {prog:U7}{w:World}{A:VC}{E:Value->U2->Prop}{s:U2}{it d:Addr}{i ep:Nat}{od:Obj}{es:Array XM}
def RawD(h:Heap)(d:Addr)(es:Array XM)(ep:Nat):Prop:=∃o,h.get? d=some o/\o.ExactDict/\o.data=.dict es ep
theorem RawD.typ(x:RawD s.heap d es ep):s.TypeIs (.ref d) "dict" := let ⟨o,a,b,_⟩:=x;⟨o,a,b.1⟩
theorem D4(N:(d == XA)=false)(z:RawD s.heap d es ep)
  (J:Q (.ref s.heap.objs.size) {s with heap:=s.heap.push {cls:=.type "dict_keyiterator",data:=.fields #[.ref d,.int 0 0,.int es.size 0,.int ep 0]} }):wpAny (model prog w) A (pyIter (.ref d)) Q E s:=by
 have q:=z.typ;obtain⟨o,g1,g2,G⟩:=z;refine wpAny_pyIter_slot q PySem.F.slot_dict_iter (XY PySem.F.slot_dict_iter q PySem.F.entry_dict_iter ?_ (PySem.F.args_dict_iter_1 _));unfold YI.«dict.__iter__»;refine U4 ?_;unfold Builtin.Dict.dictSlotNone;refine U4 (wpAny_notOrdered_dict q ?_);show wpAny _ _ (pure (VT d)) _ _ s;refine U9 ?_;show wpAny _ _ (Builtin.Dict.showsAll d >>= _) _ _ s;unfold Builtin.Dict.showsAll;rw[if_neg (by rw[N];exact VH)];refine U4 (U9 (U4 (zaS g1 G (U4 (zaT g1 G ?_)))));refine U4 (W7 (U9 ⟨_,rfl, "dict_keyiterator",_,⟨_,V3 _ rfl,rfl⟩,PySem.F.slot_dict_keyiterator_next.lookup,?_⟩));simpa[WA]using J
theorem EA(z:s.heap.IsKeyIter it d i es.size ep)(W:RawD s.heap d es ep)(Y:i<es.size)
  (U:∀h',h'.IsKeyIter it d (i+1) es.size ep->WN it s.heap h'->Q (some es[i].key) {s with heap:=h'}):wpAny (model prog w) A (WU (.ref it)) Q E s:=by
 have q:=z.typeIs;obtain⟨o,J,hc,G⟩:=id z;obtain⟨od,g1,g2,N⟩:=W;unfold WU;refine U4 (zah (X6 (name:=WW "__next__") q zai (XY zai q za5 ?_ (za6 _))));refine U4 (U9 (U4 (U4 ?_)))
 first|refine U4 (zaj q (U9 ?_))|refine U4 (zak q (U9 ?_))
 refine U4 (wpAny_fieldsOf J G ?_);simp only[show za7 "dict_keyiterator" = false by decide,zal,if_false];show wpAny _ _ (if(VT d == V8)=true then _ else _) _ _ s;rw[if_neg (show ¬ ((VT d == V8)=true)from VH)];refine U4 (U9 (U4 (zaS g1 N ?_)));rw[if_neg (by simp)];refine U4 (U9 (U4 (zaT g1 N ?_)));rw[if_neg (by simp)];refine U9 ?_;simp only[show ¬ ((i:Int)<0)from by lia,if_false,X7,Array.getElem?_eq_getElem Y];refine U4 ?_;first|refine U4 (zaj q (U9 ?_))|refine U4 (zak q (U9 ?_))
 refine U4 (wpAny_isOneOf_keyiter q ?_);show wpAny _ _ (setField (.ref it) 1 (WA ((i:Int)+1)) >>= _) _ _ s;refine U4 (YO J G (by simp) ?_);have nx:(s.heap.update it (YQ (·.setIfInBounds 1 (WA ((i:Int)+1))))).IsKeyIter it d (i+1) es.size ep:=⟨_,YJ _ J (zam (YR G _)),(zaU ..).trans hc,by rw[YR G];simp[WA]⟩;refine U4 (XT (U4 (wpAny_isOneOf_keyiter (s:={s with heap:=s.heap.update it (YQ (·.setIfInBounds 1 (WA ((i:Int)+1))))}) nx.typeIs ?_)));show wpAny _ _ (pure es[i].key) _ _ _;exact U9 (U9 ⟨_,rfl,U9 (U _ nx (zan ..))⟩)
theorem GO(hh:A.handled=none)(z:s.heap.IsKeyIter it d i es.size ep)(W:RawD s.heap d es ep)(Y:es.size<=i)
  (U:∀h',Heap.ExtBut it s.heap h'->Q none {s with heap:=h'}):wpAny (model prog w) A (WU (.ref it)) Q E s:=by
 have q:=z.typeIs;obtain⟨o,G,hc,J⟩:=id z;obtain⟨od,g1,g2,N⟩:=W;unfold WU;refine U4 (zah (X6 (name:=WW "__next__") q zai (XY zai q za5 ?_ (za6 _))));refine U4 (U9 (U4 (U4 ?_)))
 first|refine U4 (zaj q (U9 ?_))|refine U4 (zak q (U9 ?_))
 refine U4 (wpAny_fieldsOf G J ?_);simp only[show za7 "dict_keyiterator" = false by decide,zal,if_false];show wpAny _ _ (if(VT d == V8)=true then _ else _) _ _ s;rw[if_neg (show ¬ ((VT d == V8)=true)from VH)];refine U4 (U9 (U4 (zaS g1 N ?_)));rw[if_neg (by simp)];refine U4 (U9 (U4 (zaT g1 N ?_)));rw[if_neg (by simp)];refine U9 ?_;simp only[show ¬ ((i:Int)<0)from by lia,if_false,X7,Array.getElem?_eq_none Y];refine U4 ?_;first|refine U4 (zaj q (U9 ?_))|refine U4 (zak q (U9 ?_))
 show wpAny _ _ (setField (.ref it) 0 .none >>= _) _ _ s;refine U4 (YO G J (by simp) ?_);show wpAny _ _ (newExc (.type "StopIteration") [] >>= _) _ _ _;refine U4 ?_;simp only[newExc,newTuple];refine U4 (W7 ?_ (by size_fits));refine U4 (m:=zao _ _) (wpAny_of_eq (a:=V8) (by first|rfl|(simp only[zao];rfl)) ?_)
 refine W7 ?_ (by size_fits);simp only[raiseNew];refine U4 (wpAny_handled ?_);rw[show A.in1.handled=none from hh];refine U4 (U9 (wpAny_throw ?_));refine U4 (wpAny_isInstance (T := "StopIteration") (b:=true) ⟨_,V3 _ rfl,rfl⟩ isSubtype_stop ?_);exact U9 (U _ (((zan ..).extBut.push _).push _))
end
section
variable {prog:U7}{w:World}{A:VC}{s:U2}{R:Result->U2->Prop}{es:Array XM}{ep:Nat}
end
section
variable {prog:U7}{w:World}{A:VC}{E:Value->U2->Prop}{s:U2}{r d:Addr}{es:Array XM}{ep:Nat}
end
section
variable {prog:U7}{w:World}{A:VC}{E:Value->U2->Prop}{s:U2}{a L:Addr}{vs:List Value}{m:Str->Option Value}
end
end My
namespace My
open PySem PySem.Spec PyProof.Rows PySem.W PySem.SeqAt
section
variable {prog:U7}{w:World}{A:VC}{E:Value->U2->Prop}{s:U2}
end
end My
namespace My
open PySem PySem.Spec PyProof.Rows L2 PySem.SeqAt
end My
namespace My
open PySem PySem.Spec PyProof.Rows L2 PySem.SeqAt PySem.W
section
variable {X:Cx}
end
theorem BS{prog:U7}{w:World}{A:VC}{E:Value->U2->Prop}{s:U2}{t N:Addr}{items:Array Value}{W U:Value}{lo hi:Option Int}{Q:Value->U2->Prop}(q:IsTup s.heap t items)(hs:s.heap.IsSliceOf N W U .none)(pl:XG W lo)(Y:XG U hi)
  (hw:HT.sIx items.size 0 lo=0/\HT.sIx items.size items.size hi=items.size) (h:Q (.ref t) s):wpAny (model prog w) A (XH (.ref t) (.ref N)) Q E s:=by
 obtain⟨os,z,G,ac⟩:=id hs;have tt:s.TypeIs (.ref N) "slice" := ⟨os,z,G⟩;unfold XH;try with_reducible refine XT ?_
 first|refine U4 (U9 ?_)|skip
 refine U4 (wpAny_sequenceKey q.typeIs (by decide) ?_);refine U4 (X6 (name:=WW "__getitem__") q.typeIs Z9 (XY Z9 q.typeIs entry_tuple_getitem ?_ (args_tuple_getitem _ _)));show wpAny _ _ (Builtin.Tuple.tupleItemsOf (.ref t) >>= _) _ _ s;refine U4 (tupleItemsOf_ q (U4 (wpAny_typeOf tt ?_)));rw[if_pos (by decide)];refine U4 (HT.g9 hs pl Y ?_);have J:(((HT.sIx items.size 0 lo:Nat):Int) == 0 && (1:Int) == 1 && (HT.sIx items.size items.size hi-HT.sIx items.size 0 lo) == items.size)=true:=by
  rw[hw.1,hw.2];simp
 show wpAny _ _ (if(((HT.sIx items.size 0 lo:Nat):Int) == 0 && (1:Int) == 1 && (HT.sIx items.size items.size hi-HT.sIx items.size 0 lo) == items.size)=true then _ else _) _ _ s;rw[if_pos J];refine U4 (m:=Builtin.Tuple.tupleIsExact _) ?_;unfold Builtin.Tuple.tupleIsExact;refine U4 (wpAny_typeOf q.typeIs (U9 ?_));rw[if_pos (by decide)];exact U4 (wpAny_rule (U9 ⟨_,rfl,U9 h⟩))
section
variable {X:Cx}
def Q7(K:U3):V->Option Int->Option Int->Hp->VK->Prop:=λx lo hi H Q=>∃a xs,x=.ref a/\SqT K H a xs/\(HT.sIx xs.length 0 lo=0/\HT.sIx xs.length xs.length hi=xs.length)/\Q (.ref a) H
theorem HB:SlR X (Q7 X.K):=by
 intro pins s σ H x v vl vu lo hi sl Q I N hs W U h;obtain⟨a,xs,rfl,Y,hw,q⟩:=h;cases N;obtain⟨G,r,J,hz⟩:=I.tuple Y;have z:G.toArray.size=xs.length:=by rw[VJ];exact r.length.symm
 exact⟨"tuple",_,PyProof.Rows.slot_tuple_getitem.lookup,J.typeIs,BS J hs W U (by rw[z];exact hw) ⟨.ref a,H,I,rfl,q⟩⟩
theorem G4:SlR X (λx lo hi H Q=>QY X.K x lo hi H Q\/Q7 X.K x lo hi H Q):=NF.or HB
end
theorem rB(x:ObjOk P w H h d (.dT kvs)):(d == XA)=false/\kvs.length<=VA/\∃es ep,RawD h d es ep/\es.size=kvs.length /\
  ∀(j:Nat) (p:List Key×V),kvs[j]?=some p->∃(e:XM) (b:Addr),es[j]?=some e/\e.key=.ref b/\H b=some (.tup (p.1.map kV))/\RelV p.2 e.val/\e.hash=(X4 (bK P w)).hash p.1:=by
 obtain⟨z,y,xs,r,o,es,ep,h1,h2,h3,J,h5⟩:=x;have hl:xs.length=kvs.length:=(ZV r).symm;have G:es.size=kvs.length:=by
  have:=congrArg YX J;rw[W4,VL]at this
  lia
 have get:∀ {kvs:List (List Key×V)} {xs:List (List Key×Addr×Value)},Paired (λ(p:List Key×V) (q:List Key×Addr×Value)=>p.1=q.1/\H q.2.1=some (.tup (p.1.map kV))/\RelV p.2 q.2.2) kvs xs->
   ∀(j:Nat) (p:List Key×V),kvs[j]?=some p->∃q,xs[j]?=some q/\p.1=q.1/\H q.2.1=some (.tup (p.1.map kV))/\RelV p.2 q.2.2:=by
  intro kvs xs r;induction r with
  | nil=>intro j p e;simp at e
  | cons h t ih=>
   intro j p e;cases j with
   | zero=>simp at e;subst e;exact⟨_,rfl,h⟩
   | succ j=>exact ih j p (by simpa using e)
 refine⟨y,z,es,ep,⟨o,h1,h2,h3⟩,G,λj p e=>?_⟩;obtain⟨q,U,e2,N,Y⟩:=get r j p e;have W:es[j]?=some (entryOfKey (X4 (bK P w)) q):=by
  rw[<- Array.getElem?_toList,J,VM,U];rfl
 exact⟨_,q.2.1,W,rfl,N,Y,by show(X4 (bK P w)).hash q.1=_;rw[e2]⟩
def RE(d:Addr)(o:Obj)(kvs:List (List Key×V)):It:=
 ⟨λi H=>H d=some (.frz o (.dT kvs))/\i<kvs.length,λi H x H'=>H'=H/\∃k v b,kvs[i]?=some (k,v)/\x=.ref b/\H b=some (.tup (k.map kV)),λi H=>H d=some (.frz o (.dT kvs))/\kvs.length<=i⟩
theorem BW{P:U7}{w:World}{K:U3}{tg:Expr}(d it:Addr)(o:Obj)(kvs:List (List Key×V))(es:Array XM)(ep:Nat)(hd:o.data=.dict es ep)(ay:es.size=kvs.length):Turn P w K tg (RE d o kvs) [it] it (λi h=>h.IsKeyIter it d i es.size ep) where
 mem:=by simp
 obj:=λi h st b G=>by
  have e:b=it:=by simpa using G
  subst e;obtain⟨o,W,e2,e3⟩:=st;exact⟨o,W,λv z=>by rw[e3]at z;cases z⟩
 keep:=λi h h' st k=>st.at λo e=>k it (by simp) o e
 item:=by
  intro X hP hw hK hc i pins s σ H E I Y st hg;subst hP hw hK;obtain⟨h1,h2⟩:=hg;obtain⟨g1,g2⟩:=(show ObjOk X.prog X.w H s.heap d (.frz o (.dT kvs))from I.hok d _ h1);obtain⟨_,_,ak,an,⟨o',J,r2,r3⟩,U,q⟩:=rB g2;rw[g1]at J;cases J;rw[hd]at r3;injection r3 with r4 r5
  subst r4 r5;obtain⟨f0,f1,f2,f3,f4,f5⟩:=Y it (by simp);have hi:i<es.size:=by lia
  refine EA st ⟨o,g1,r2,hd⟩ hi λh' N sb=>?_
  have I1:Inv X pins σ H {s with heap:=h'}:=I.turned (t':=s.toks) (λb o G e=>(sb.2 b G).trans e) f0 f1 f3 f4 f5;obtain⟨e,b,W,e2,e3,_⟩:=q i _ (WE h2);have ee:es[i]=e:=by
   rw[Array.getElem?_eq_getElem hi]at W;exact VX W
  obtain⟨o2,q1,q2,q3⟩:=id N;refine⟨_,rfl,tZ (s:={s with heap:=h'}) (n := "dict_keyiterator") q1 q2 q3 (by decide) ⟨.ref b,H,I1,?_,⟨rfl,kvs[i].1,kvs[i].2,b,WE h2,rfl,e3⟩,N,λc G=>(Y c G).1⟩⟩;rw[ee,e2];rfl
 done:=by
  intro X hP hw hK hc i pins s σ H E I Y st hg;subst hP hw hK;obtain⟨h1,h2⟩:=hg;obtain⟨g1,g2⟩:=(show ObjOk X.prog X.w H s.heap d (.frz o (.dT kvs))from I.hok d _ h1);obtain⟨_,_,ak,an,⟨o',J,r2,r3⟩,U,q⟩:=rB g2;rw[g1]at J;cases J;obtain⟨f0,f1,f2,f3,f4,f5⟩:=Y it (by simp);exact GO (I.ok.hd hc) st ⟨o,g1,r2,hd⟩ (by lia) λh' eb=>⟨rfl,I.turned (t':=s.toks) (λb o G e=>eb b o G e) f0 f1 f3 f4 f5⟩
 self:=λ_ _ _ _ _ st h=>wpAny_pyIter_keyiter st h
theorem xW(I:Inv X pins σ H s)(N:H d=some (.dT kvs))(W:s.heap.get? d=some o):Inv X pins σ (upd H d (.frz o (.dT kvs))) s:=by
 have G:∀b u,H b=some u->(∀z,u≠.dT z)->b≠d:=λb u e n z=>by
  subst z;rw[N]at e;exact n kvs (VX e).symm
 have J:=I.un (h':=s.heap) (t':=s.toks) (H':=upd H d (.frz o (.dT kvs))) ⟨λb u q _ _ _=>q,λb u q _ _ _=>⟨u.slots,q⟩,λb u q n _=>by rw[aO (λz=>by rw[z,N]at n;cases n)];exact n,λb u q _=>⟨u,q⟩,
  λb xs q=>by rw[aO (G b _ q (λz h=>by cases h))];exact q,λb u xs q=>by rw[aO (G b _ q (λz h=>by cases h))];exact q,λb ps q=>⟨#[],by rw[aO (G b _ q (λz h=>by cases h)),q];simp⟩⟩ (λb u e=>?_)
 ·exact J
 ·have st:∀ {b:Addr} {u:HO},ObjOk X.prog X.w H s.heap b u->ObjOk X.prog X.w (upd H d (.frz o (.dT kvs))) s.heap b u:=λx=>x.stay (λ_ _ _ q=>q) (λc q=>by rw[aO (G c _ q (λz h=>by cases h))];exact q) λc xs q=>by rw[aO (G c _ q (λz h=>by cases h))];exact q
  by_cases U:b=d
  ·subst U
   rw[aT]at e;cases e;exact⟨W,st (I.hok b _ N)⟩
  ·rw[aO U]at e
   exact st (I.hok b u e)
section
variable {X:Cx}{tg:Expr}
end
section
variable {X:Cx}
end
end My
namespace My
open PySem PySem.Spec PyProof.Rows L2 PySem.SeqAt
abbrev Tm:=List Int×Int
def look(q:List Tm)(k:List Int):Option Int:=(q.find? λt=>decide (t.1=k)).map (·.2)
def put(q:List Tm)(k:List Int)(c:Int):List Tm:=if(q.any λt=>decide (t.1=k))=true then q.map (λt=>if t.1=k then(t.1,c)else t)else q++[(k,c)]
def QW(q:List Tm)(t:Tm):List Tm:=put q t.1 ((look q t.1).getD 0+t.2)
def LV(q:List Tm):List Tm:=q.foldl QW []
def PJ(M:Int)(q:List Tm):List Tm:=(q.filter λt=>decide (t.2%M≠0)).map λt=>(t.1,t.2%M)
def TS(H H':Hp):Prop:=∀b xs,H b=some (.tup xs)->H' b=some (.tup xs)
theorem TS.trans(a:TS H H1)(b:TS H1 H2):TS H H2:=λc xs h=>b c xs (a c xs h)
theorem TS.put(h:H l=some u)(n:∀xs,u≠.tup xs):TS H (upd H l o):=λb xs q=>by
 rw[aO (λz=>by subst z;rw[h]at q;exact n xs (VX q))];exact q
noncomputable def hT(ns:List Int):Int:=reduceHash (Builtin.Tuple.tupleHashOf (ns.map hashInt))
end My
namespace My
open PySem PySem.Spec PyProof.Rows L2
noncomputable def T6(t:Bool):String:=if t=true then "tuple_iterator" else "list_iterator"
noncomputable def UG(t:Bool):String:=if t=true then "tuple" else "list"
def SIt(t:Bool)(h:Heap)(i l:Addr)(k:Nat):Prop:=∃o,h.get? i=some o/\o.cls=.type (T6 t)/\o.data=.fields #[.ref l,.int k 0]
def SSq(t:Bool)(h:Heap)(l:Addr)(xs:Array Value):Prop:=∃o,h.get? l=some o/\o.cls=.type (UG t)/\∃n,o.data=.seq xs n
theorem SIt.to(x:SIt t h i l k)(e:∀o,h.get? i=some o->h'.get? i=some o):SIt t h' i l k:=let ⟨o,ho,r⟩:=x;⟨o,e o ho,r⟩
theorem SSq.to(x:SSq t h l xs)(e:∀o,h.get? l=some o->h'.get? l=some o):SSq t h' l xs:=let ⟨o,ho,r⟩:=x;⟨o,e o ho,r⟩
section
variable {prog:U7}{w:World}{A:VC}{E:Value->U2->Prop}{s:U2}
theorem next_item(z:SIt t s.heap it l i)(Y:SSq t s.heap l xs)(hx:xs[i]?=some x)
  (W:∀h',SIt t h' it l (i+1)->WN it s.heap h'->Q x {s with heap:=h'}):wpAny (model prog w) A (zap (.ref it)) Q E s:=by
 cases t with
 | false=>exact wpAny_nextOf_list_item (it:=it) (l:=l) (items:=xs) z Y hx W
 | true=>
  have q:s.heap.IsTupleIter it l i:=z;obtain⟨o,J,hc,G⟩:=z;obtain⟨ol,U,_,nl,N⟩:=Y;unfold zap;refine U4 (X6 (name:=WW "__next__") q.typeIs zaq (XY zaq q.typeIs za8 ?_ (za9 _)));show wpAny _ _ (field (.ref it) 0 >>= _) _ _ _;refine U4 (WG J G (x:=.ref l) rfl ?_);show wpAny _ _ (if(VT l == V8)=true then _ else _) _ _ _;rw[if_neg (show ¬ ((VT l == V8)=true)from VH)];show wpAny _ _ (field (.ref it) 1 >>= _) _ _ _;refine U4 (WG J G (x:=.int i 0) rfl ?_);show wpAny _ _ (seqItems? (.ref l) >>= _) _ _ _;refine U4 (zar U N ?_);simp only[X7,hx];refine U4 (YO J G (by simp) (U9 ⟨x,rfl,U9 (W _ ⟨_,YJ _ J (zam (YR G _)),(zaU ..).trans hc,by rw[YR G];simp[WA]⟩ (zan ..))⟩))
theorem next_end(J:A.handled=none)(z:SIt t s.heap it l i)(hl:SSq t s.heap l xs)(hx:xs[i]?=none)
  (Y:∀h' e,Heap.ExtBut it s.heap h'->(∃o,h'.get? e=some o/\o.cls=.type "StopIteration")->E (.ref e) {s with heap:=h'}):wpAny (model prog w) A (zap (.ref it)) Q E s:=by
 cases t with
 | false=>exact wpAny_nextOf_list_end (it:=it) (l:=l) (items:=xs) J z hl hx Y
 | true=>
  have q:s.heap.IsTupleIter it l i:=z;obtain⟨o,N,hc,U⟩:=z;obtain⟨ol,W,_,nl,G⟩:=hl;unfold zap;refine U4 (X6 (name:=WW "__next__") q.typeIs zaq (XY zaq q.typeIs za8 ?_ (za9 _)));show wpAny _ _ (field (.ref it) 0 >>= _) _ _ _;refine U4 (WG N U (x:=.ref l) rfl ?_);show wpAny _ _ (if(VT l == V8)=true then _ else _) _ _ _;rw[if_neg (show ¬ ((VT l == V8)=true)from VH)];show wpAny _ _ (field (.ref it) 1 >>= _) _ _ _;refine U4 (WG N U (x:=.int i 0) rfl ?_);show wpAny _ _ (seqItems? (.ref l) >>= _) _ _ _;refine U4 (zar W G ?_);simp only[X7,hx];refine U4 (wpAny_rule (U4 (YO N U (by simp) ?_)));show wpAny _ _ (newExc (.type "StopIteration") [] >>= _) _ _ _;refine U4 ?_;simp only[newExc,newTuple];refine U4 (W7 ?_ (by size_fits));refine U4 (m:=zao _ _) (wpAny_of_eq (a:=V8) (by first|rfl|(simp only[zao];rfl)) ?_);refine W7 ?_ (by size_fits);simp only[raiseNew]
  refine U4 (wpAny_handled ?_);first|rw[show A.in1.handled=none from J]|rw[J]
  refine U4 (U9 (wpAny_throw ?_));exact Y _ _ (((zan ..).extBut.push _).push _) ⟨_,V3 _ rfl,rfl⟩
abbrev T3(t:Bool)(l:Addr):Obj:={cls:=.type (T6 t),data:=.fields #[.ref l,.int 0 0]}
end
def KQ(K:U3)(t:Bool)(H:Hp)(a:Addr)(xs:List V):Prop:=if t=true then SqT K H a xs else SqL K H a xs
theorem yG(I:Inv X pins σ H s)(h:KQ X.K t H a xs):∃q:List Value,Vals xs q/\SSq t s.heap a q.toArray:=by
 cases t with
 | true=>
  obtain⟨q,r,p,_⟩:=I.tuple (show SqT X.K H a xs from h);exact⟨q,r,p⟩
 | false=>
  obtain⟨q,r,p,_⟩:=I.list (show SqL X.K H a xs from h);exact⟨q,r,PlainL.isList p⟩
theorem IJ(I:Inv X pins σ H s)(h:KQ X.K t H a xs)(h':KQ X.K t H a ys):xs=ys:=by
 cases t with
 | true=>exact I.tuple_inj (show SqT X.K H a xs from h) h'
 | false=>exact I.list_inj (show SqL X.K H a xs from h) h'
theorem p9{pins:List (Addr×Obj)}{t':Nat}{fp:List Addr}(I:Inv X pins σ H s)(N:∀b∈fp,kT X pins H b)(k:∀b o,b∉fp->s.heap.get? b=some o->h'.get? b=some o):Inv X pins σ H {s with heap:=h',toks:=t'}:=by
 have J:∀b u,H b=some u->b∉fp:=λb u e z=>by rw[(N b z).1]at e;cases e
 refine I.call' (s':={s with heap:=h',toks:=t'}) (ch:=fp) rfl ⟨λb o e _ _ G=>k b o G e,λb o e _ _ G=>⟨o.slots,k b o G e⟩,λ_ _ _ n _=>n,λb o e G=>⟨o,k b o G e⟩,λ_ _ q=>q,λ_ _ _ q=>q,λb ps q=>⟨#[],by rw[q];simp⟩⟩ (λb u e=>?_) I.bare λb hb=>?_
 ·refine(I.hok b u e).stay (λc v hc q=>k c v ?_ q) (λ_ q=>q) λ_ _ q=>q
  rcases hc with z|z
  ·rw[z];exact J b u e
  ·exact J c _ z
 ·obtain⟨_,W,_,U,Y,f5⟩:=N b hb
  exact⟨U,W,Y,f5⟩
end My
namespace P
open PySem PySem.Spec PyProof.Rows L2
inductive D where
 | non|bl (b:Bool)|int (i:Int)|str (x:Str)|tup (l:List D)|lst (l:List D)
 | dK (l:List (Key×D))|dT (l:List (List Key×D))
abbrev Av:=Addr->Prop
section
variable (A:Av)(H:Hp)
mutual
/-- a heap bears a value that stays (the things that may still be written are in A) -/
inductive Rep:D->V->Prop where
 | non:Rep .non .non
 | bl (b:Bool):Rep (.bl b) (.bl b)
 | int (i:Int):Rep (.int i) (.int i)
 | str (x:Str):Rep (.str x) (.str x)
 | tup {l:List D} {a:Addr} {xs:List V} (h:H a=some (.tup xs)) (r:RepL l xs):Rep (.tup l) (.ref a)
 | lst {l:List D} {a:Addr} {xs:List V} (n:¬ A a) (h:Rd H a (.lst xs)) (r:RepL l xs):Rep (.lst l) (.ref a)
 | dK {l:List (Key×D)} {a:Addr} {xs:List (Key×V)} (n:¬ A a) (h:Rd H a (.dK xs)) (e:xs.map (·.1)=l.map (·.1)) (r:RepL (l.map (·.2)) (xs.map (·.2))):Rep (.dK l) (.ref a)
 | dT {l:List (List Key×D)} {a:Addr} {xs:List (List Key×V)} (n:¬ A a) (h:Rd H a (.dT xs)) (e:xs.map (·.1)=l.map (·.1)) (r:RepL (l.map (·.2)) (xs.map (·.2))):Rep (.dT l) (.ref a)
inductive RepL:List D->List V->Prop where
 | nil:RepL [] []
 | cons {d:D} {v:V} {ds:List D} {vs:List V} (h:Rep d v) (t:RepL ds vs):RepL (d::ds) (v::vs)
end
inductive RepB:D->V->Prop where
 | of {d:D} {v:V} (h:Rep A H d v):RepB d v
 | lst {l:List D} {a:Addr} {xs:List V} (h:Rd H a (.lst xs)) (r:RepL A H l xs):RepB (.lst l) (.ref a)
 | dK {l:List (Key×D)} {a:Addr} {xs:List (Key×V)} (h:Rd H a (.dK xs)) (e:xs.map (·.1)=l.map (·.1)) (r:RepL A H (l.map (·.2)) (xs.map (·.2))):RepB (.dK l) (.ref a)
 | dT {l:List (List Key×D)} {a:Addr} {xs:List (List Key×V)} (h:Rd H a (.dT xs)) (e:xs.map (·.1)=l.map (·.1)) (r:RepL A H (l.map (·.2)) (xs.map (·.2))):RepB (.dT l) (.ref a)
inductive Own:D->Addr->Prop where
 | lst {l:List D} {a:Addr} {xs:List V} (h:H a=some (.lst xs)) (r:RepL A H l xs):Own (.lst l) a
 | dK {l:List (Key×D)} {a:Addr} {xs:List (Key×V)} (h:H a=some (.dK xs)) (e:xs.map (·.1)=l.map (·.1)) (r:RepL A H (l.map (·.2)) (xs.map (·.2))):Own (.dK l) a
 | dT {l:List (List Key×D)} {a:Addr} {xs:List (List Key×V)} (h:H a=some (.dT xs)) (e:xs.map (·.1)=l.map (·.1)) (r:RepL A H (l.map (·.2)) (xs.map (·.2))):Own (.dT l) a
end
noncomputable def Kp:HO->Prop
 | .tup _=>True | .lst _=>True|_=>False
structure Ext(A:Av)(H H':Hp):Prop where
 rd:∀b u,Rd H b u->Rd H' b u
 kp:∀b u,Kp u->H b=some u->H' b=some u
 ow:∀b u,A b->H b=some u->H' b=some u
 fz:∀b o u,H b=some (.frz o u)->H' b=some (.frz o u)
theorem Ext.refl(A:Av)(H:Hp):Ext A H H:=⟨λ_ _ h=>h,λ_ _ _ h=>h,λ_ _ _ h=>h,λ_ _ _ h=>h⟩
theorem Ext.trans(a:Ext A H H1)(b:Ext A H1 H2):Ext A H H2:=
 ⟨λc u h=>b.rd c u (a.rd c u h),λc u k h=>b.kp c u k (a.kp c u k h),λc u n h=>b.ow c u n (a.ow c u n h),λc o u h=>b.fz c o u (a.fz c o u h)⟩
theorem Ext.mono(h:Ext A H H')(s:∀a,A' a->A a):Ext A' H H':=⟨h.rd,h.kp,λb u n e=>h.ow b u (s b n) e,h.fz⟩
theorem Ext.same(h:Same H H'):Ext A H H':=
 ⟨λb u r=>by rcases r with r|⟨o,r⟩;exact .inl (h _ _ r);exact .inr ⟨o,h _ _ r⟩,λb u _ r=>h _ _ r,λb u _ r=>h _ _ r,λb o u r=>h _ _ r⟩
theorem Ext.tp(x:Ext A H H')(b:Addr)(xs:List V)(h:H b=some (.tup xs)):H' b=some (.tup xs):=x.kp b _ trivial h
theorem Ext.new(h:H p=none):Ext A H (upd H p o):=Ext.same (My.DV h)
mutual
theorem Rep.ext(x:Ext A H H'):Rep A H d v->Rep A H' d v
 | .non=>.non
 | .bl b=>.bl b
 | .int i=>.int i
 | .str s=>.str s
 | .tup h r=>.tup (x.tp _ _ h) (RepL.ext x r)
 | .lst n h r=>.lst n (x.rd _ _ h) (RepL.ext x r)
 | .dK n h e r=>.dK n (x.rd _ _ h) e (RepL.ext x r)
 | .dT n h e r=>.dT n (x.rd _ _ h) e (RepL.ext x r)
theorem RepL.ext(x:Ext A H H'):RepL A H ds vs->RepL A H' ds vs
 | .nil=>.nil
 | .cons h t=>.cons (Rep.ext x h) (RepL.ext x t)
end
theorem RepB.ext(x:Ext A H H'):RepB A H d v->RepB A H' d v
 | .of h=>.of (h.ext x)
 | .lst h r=>.lst (x.rd _ _ h) (r.ext x)
 | .dK h e r=>.dK (x.rd _ _ h) e (r.ext x)
 | .dT h e r=>.dT (x.rd _ _ h) e (r.ext x)
theorem Own.ext(x:Ext A H H')(q:A a):Own A H d a->Own A H' d a
 | .lst h r=>.lst (x.ow _ _ q h) (r.ext x)
 | .dK h e r=>.dK (x.ow _ _ q h) e (r.ext x)
 | .dT h e r=>.dT (x.ow _ _ q h) e (r.ext x)
theorem Own.b:Own A H d a->RepB A H d (.ref a)
 | .lst h r=>.lst (.inl h) r
 | .dK h e r=>.dK (.inl h) e r
 | .dT h e r=>.dT (.inl h) e r
mutual
/-- avoid other things: those that were not there, or fewer -/
theorem Rep.av(x:∀a,A' a->A a\/H a=none):Rep A H d v->Rep A' H d v
 | .non=>.non
 | .bl b=>.bl b
 | .int i=>.int i
 | .str s=>.str s
 | .tup h r=>.tup h (RepL.av x r)
 | .lst n h r=>.lst (λz=>(x _ z).elim n λz=>by rcases h with h|⟨o,h⟩ <;> (rw[z]at h;cases h)) h (RepL.av x r)
 | .dK n h e r=>.dK (λz=>(x _ z).elim n λz=>by rcases h with h|⟨o,h⟩ <;> (rw[z]at h;cases h)) h e (RepL.av x r)
 | .dT n h e r=>.dT (λz=>(x _ z).elim n λz=>by rcases h with h|⟨o,h⟩ <;> (rw[z]at h;cases h)) h e (RepL.av x r)
theorem RepL.av(x:∀a,A' a->A a\/H a=none):RepL A H ds vs->RepL A' H ds vs
 | .nil=>.nil
 | .cons h t=>.cons (Rep.av x h) (RepL.av x t)
end
noncomputable def OP:HO->Prop
 | .lst _=>True | .dK _=>True | .dT _=>True|_=>False
theorem lO(n:b≠a)(h:Rd H b u):Rd (upd H a o) b u:=by
 rcases h with h|⟨x,h⟩
 ·exact .inl (by rw[aO n];exact h)
 ·exact .inr ⟨x,by rw[aO n];exact h⟩
mutual
theorem Rep.put(q:A a)(G:H a=some u)(ob:OP u):Rep A H d v->Rep A (upd H a o) d v
 | .non=>.non
 | .bl b=>.bl b
 | .int i=>.int i
 | .str s=>.str s
 | .tup (a:=b) h r=>.tup (by rw[aO (λz=>by subst z;rw[G]at h;cases h;exact ob)];exact h) (RepL.put q G ob r)
 | .lst (a:=b) n h r=>.lst n (lO (λz=>n (by rw[z];exact q)) h) (RepL.put q G ob r)
 | .dK (a:=b) n h e r=>.dK n (lO (λz=>n (by rw[z];exact q)) h) e (RepL.put q G ob r)
 | .dT (a:=b) n h e r=>.dT n (lO (λz=>n (by rw[z];exact q)) h) e (RepL.put q G ob r)
theorem RepL.put(z:A a)(q:H a=some u)(ob:OP u):RepL A H ds vs->RepL A (upd H a o) ds vs
 | .nil=>.nil
 | .cons h t=>.cons (Rep.put z q ob h) (RepL.put z q ob t)
end
theorem Own.put{A:Av}{H:Hp}{a b:Addr}{o u:HO}(G:A a)(q:H a=some u)(ob:OP u)(z:b≠a){d:D}:Own A H d b->Own A (upd H a o) d b
 | .lst h r=>.lst (by rw[aO z];exact h) (r.put G q ob)
 | .dK h e r=>.dK (by rw[aO z];exact h) e (r.put G q ob)
 | .dT h e r=>.dT (by rw[aO z];exact h) e (r.put G q ob)
theorem Own.av(x:∀a,A' a->A a\/H a=none):Own A H d a->Own A' H d a
 | .lst h r=>.lst h (r.av x)
 | .dK h e r=>.dK h e (r.av x)
 | .dT h e r=>.dT h e (r.av x)
theorem Own.rep(n:¬ A a):Own A H d a->Rep A H d (.ref a)
 | .lst h r=>.lst n (.inl h) r
 | .dK h e r=>.dK n (.inl h) e r
 | .dT h e r=>.dT n (.inl h) e r
section
variable {A:Av}{H:Hp}
theorem RepL.length:∀ {ds:List D} {vs:List V},RepL A H ds vs->vs.length=ds.length
 | _,_,.nil=>rfl
 | _,_,.cons _ t=>by rw[WI,WI,RepL.length t]
theorem RepL.get:∀ {ds:List D} {vs:List V} {i:Nat} {v:V},RepL A H ds vs->vs[i]?=some v->∃d,ds[i]?=some d/\Rep A H d v
 | _,_,i,v,.nil,e=>by simp at e
 | _,_,0,v,.cons h t,e=>by simp at e;subst e;exact⟨_,rfl,h⟩
 | _,_,i+1,v,.cons h t,e=>RepL.get (i:=i) t (by simpa using e)
theorem RepL.get':∀ {ds:List D} {vs:List V} {i:Nat} {d:D},RepL A H ds vs->ds[i]?=some d->∃v,vs[i]?=some v/\Rep A H d v
 | _,_,i,v,.nil,e=>by simp at e
 | _,_,0,v,.cons h t,e=>by simp at e;subst e;exact⟨_,rfl,h⟩
 | _,_,i+1,v,.cons h t,e=>RepL.get' (i:=i) t (by simpa using e)
theorem RepL.append:∀ {ds es:List D} {vs us:List V},RepL A H ds vs->RepL A H es us->RepL A H (ds++es) (vs++us)
 | _,_,_,_,.nil,s=>s
 | _,_,_,_,.cons h t,s=>.cons h (RepL.append t s)
theorem RepL.take:∀ {ds:List D} {vs:List V} (n:Nat),RepL A H ds vs->RepL A H (ds.take n) (vs.take n)
 | _,_,0,_=>by simp;exact .nil
 | _,_,n+1,.nil=>.nil
 | _,_,n+1,.cons h t=>.cons h (RepL.take n t)
theorem RepL.drop:∀ {ds:List D} {vs:List V} (n:Nat),RepL A H ds vs->RepL A H (ds.drop n) (vs.drop n)
 | _,_,0,r=>r
 | _,_,n+1,.nil=>.nil
 | _,_,n+1,.cons h t=>RepL.drop n t
theorem RepL.set:∀ {ds:List D} {vs:List V} {d:D} {v:V} (n:Nat),Rep A H d v->RepL A H ds vs->RepL A H (ds.set n d) (vs.set n v)
 | _,_,_,_,_,_,.nil=>.nil
 | _,_,_,_,0,r,.cons h t=>.cons r t
 | _,_,_,_,n+1,r,.cons h t=>.cons h (RepL.set n r t)
theorem Rep.b(h:Rep A H d v):RepB A H d v:=.of h
theorem RepB.int_inv(h:RepB A H (.int i) v):v=.int i:=by cases h with|of h=>cases h;rfl
theorem RepB.bl_inv(h:RepB A H (.bl i) v):v=.bl i:=by cases h with|of h=>cases h;rfl
theorem RepB.str_inv(h:RepB A H (.str i) v):v=.str i:=by cases h with|of h=>cases h;rfl
theorem RepB.non_inv(h:RepB A H .non v):v=.non:=by cases h with|of h=>cases h;rfl
theorem RepB.tup_inv(h:RepB A H (.tup l) v):∃a xs,v=.ref a/\H a=some (.tup xs)/\RepL A H l xs:=by
 cases h with|of h=>cases h with|tup h r=>exact⟨_,_,rfl,h,r⟩
theorem RepB.lst_inv(h:RepB A H (.lst l) v):∃a xs,v=.ref a/\Rd H a (.lst xs)/\RepL A H l xs:=by
 cases h with
 | of h=>cases h with|lst n h r=>exact⟨_,_,rfl,h,r⟩
 | lst h r=>exact⟨_,_,rfl,h,r⟩
theorem RepB.dK_inv(h:RepB A H (.dK l) v):∃a xs,v=.ref a/\Rd H a (.dK xs)/\xs.map (·.1)=l.map (·.1)/\RepL A H (l.map (·.2)) (xs.map (·.2)):=by
 cases h with
 | of h=>cases h with|dK n h e r=>exact⟨_,_,rfl,h,e,r⟩
 | dK h e r=>exact⟨_,_,rfl,h,e,r⟩
theorem RepB.dT_inv(h:RepB A H (.dT l) v):∃a xs,v=.ref a/\Rd H a (.dT xs)/\xs.map (·.1)=l.map (·.1)/\RepL A H (l.map (·.2)) (xs.map (·.2)):=by
 cases h with
 | of h=>cases h with|dT n h e r=>exact⟨_,_,rfl,h,e,r⟩
 | dT h e r=>exact⟨_,_,rfl,h,e,r⟩
end
abbrev cX:=List (Option D)
inductive Fact where
 | rep (d:D) (v:V)|fz (a:Addr) (o:Obj) (u:HO)
def Fact.Holds(A:Av)(H:Hp):Fact->Prop
 | .rep d v=>Rep A H d v
 | .fz a o u=>H a=some (.frz o u)
theorem Fact.ext(x:Ext A H H'):∀ {p:Fact},p.Holds A H->p.Holds A H'
 | .rep _ _,h=>Rep.ext x h
 | .fz _ _ _,h=>x.fz _ _ _ h
theorem Fact.av(x:∀a,A' a->A a\/H a=none):∀ {p:Fact},p.Holds A H->p.Holds A' H
 | .rep _ _,h=>Rep.av x h
 | .fz _ _ _,h=>h
theorem Fact.put(J:A a)(G:H a=some u)(ob:OP u):∀ {p:Fact},p.Holds A H->p.Holds A (upd H a o)
 | .rep _ _,h=>Rep.put J G ob h
 | .fz b q w,h=>by
  have h:H b=some (.frz q w):=h;show upd H a o b=some (.frz q w);rw[aO (λz=>by subst z;rw[G]at h;cases h;exact ob)];exact h
structure ST(H0:Hp)(A0 A:Av)(E:List Fact)(O:List Nat)(σ:L2.St)(H:Hp)(ρ:cX):Prop where
 ex:Ext A0 H0 H
 sub:∀a,A0 a->A a
 l0:∀a,A0 a->H0 a≠none
 live:∀a,A a->H a≠none
 len:σ.length=ρ.length
 val:∀i d,ρ[i]?=some (some d)->i∉O->∃v,σ[i]?=some (some v)/\Rep A H d v
 own:∀i d,ρ[i]?=some (some d)->i∈O->∃a,σ[i]?=some (some (.ref a))/\A a/\H0 a=none/\Own A H d a
 inj:∀i j d d' a,i∈O->j∈O->ρ[i]?=some (some d)->ρ[j]?=some (some d')->σ[i]?=some (some (.ref a))->σ[j]?=some (some (.ref a))->i=j
 ext:∀p∈E,p.Holds A H
section
variable {H0:Hp}{A0 A:Av}{E:List Fact}{O:List Nat}{σ:L2.St}{H H':Hp}{ρ:cX}
theorem ST.mono(s:ST H0 A0 A E O σ H ρ)(x:Ext A H H'):ST H0 A0 A E O σ H' ρ where
 ex:=s.ex.trans (x.mono s.sub)
 sub:=s.sub
 l0:=s.l0
 live:=λa q=>by
  have:=s.live a q;cases e:H a with
  | none=>exact absurd e this
  | some u=>rw[x.ow a u q e];exact λz=>nomatch z
 len:=s.len
 val:=λi d h n=>by obtain⟨v,h1,h2⟩:=s.val i d h n;exact⟨v,h1,h2.ext x⟩
 own:=λi d h n=>by obtain⟨a,h1,h2,J,G⟩:=s.own i d h n;exact⟨a,h1,h2,J,G.ext x h2⟩
 inj:=s.inj
 ext:=λp N=>Fact.ext x (s.ext p N)
theorem ST.more(s:ST H0 A0 A E O σ H ρ)(h:Rep A H d v):ST H0 A0 A (.rep d v::E) O σ H ρ:=
 {s with ext:=λp q=>by rcases List.mem_cons.mp q with e|e;rw[e];exact h;exact s.ext p e}
theorem ST.less(s:ST H0 A0 A E O σ H ρ)(h:∀p∈E',p∈E):ST H0 A0 A E' O σ H ρ:=
 {s with ext:=λp q=>s.ext p (h p q)}
theorem cL(h:(ρ.set i o)[j]?=some (some d)):(j=i/\o=some d/\i<ρ.length)\/(j≠i/\ρ[j]?=some (some d)):=by
 rw[List.getElem?_set]at h;by_cases e:i=j
 ·rw[if_pos e]at h
  by_cases l:i<ρ.length
  ·rw[if_pos l]at h
   exact .inl ⟨e.symm,VX h,l⟩
  ·rw[if_neg l]at h;cases h
 ·rw[if_neg e]at h
  exact .inr ⟨λz=>e z.symm,h⟩
theorem sig_set(h:i<σ.length):(σ.set i (some v))[i]?=some (some v):=by simp[h]
theorem lN(h:j≠i):(σ.set i (some v))[j]?=σ[j]?:=by rw[XD (VZ h)]
theorem ST.put(s:ST H0 A0 A E O σ H ρ)(h:Rep A H d v)(n:i∉O):ST H0 A0 A E O (σ.set i (some v)) H (ρ.set i (some d)) where
 ex:=s.ex
 sub:=s.sub
 l0:=s.l0
 live:=s.live
 len:=by simp[s.len]
 val:=λj d' h' G=>by
  rcases cL h' with⟨e,q,l⟩|⟨e,q⟩
  ·subst e;cases q;exact⟨v,sig_set (by rw[s.len];exact l),h⟩
  ·obtain⟨w,h1,h2⟩:=s.val j d' q G;exact⟨w,by rw[lN e];exact h1,h2⟩
 own:=λj d' h' G=>by
  rcases cL h' with⟨e,q,l⟩|⟨e,q⟩
  ·subst e;exact absurd G n
  ·obtain⟨w,h1,h2⟩:=s.own j d' q G;exact⟨w,by rw[lN e];exact h1,h2⟩
 inj:=λj k d1 d2 a J U h1 h2 h3 N=>by
  have W:j≠i:=λz=>n (z ▸ J)
  have Y:k≠i:=λz=>n (z ▸ U)
  rcases cL h1 with⟨e,_⟩|⟨_,h1⟩
  ·exact absurd e W
  rcases cL h2 with⟨e,_⟩|⟨_,h2⟩
  ·exact absurd e Y
  exact s.inj j k d1 d2 a J U h1 h2 (by rw[lN W]at h3;exact h3) (by rw[lN Y]at N;exact N)
 ext:=s.ext
theorem ST.shut(s:ST H0 A0 A E O σ H ρ)(h:∀i,i∈O'->i∈O):∃A',ST H0 A0 A' E O' σ H ρ:=by
 let F:Av:=λa=>∃i d,i∈O/\i∉O'/\ρ[i]?=some (some d)/\σ[i]?=some (some (.ref a))
 have cut:∀a,(A a/\¬ F a)->A a\/H a=none:=λa z=>.inl z.1
 refine⟨λa=>A a/\¬ F a,s.ex,λa J=>⟨s.sub a J,?_⟩,s.l0,λa J=>s.live a J.1,s.len,λi d hi n=>?_,λi d hi n=>?_,λi j d d' a hi hj=>s.inj i j d d' a (h i hi) (h j hj),λp hp=>Fact.av cut (s.ext p hp)⟩
 ·rintro⟨i,d,h1,h2,h3,W⟩
  obtain⟨b,q,G,N,U⟩:=s.own i d h3 h1;rw[W]at q;cases q;exact s.l0 a J N
 ·by_cases Y:i∈O
  ·obtain⟨a,q,G,N,U⟩:=s.own i d hi Y
   exact⟨.ref a,q,(U.av cut).rep λz=>z.2 ⟨i,d,Y,n,hi,q⟩⟩
  ·obtain⟨v,q,G⟩:=s.val i d hi Y
   exact⟨v,q,G.av cut⟩
 ·obtain⟨a,q,G,N,U⟩:=s.own i d hi (h i n)
  refine⟨a,q,⟨G,?_⟩,N,U.av cut⟩;rintro⟨j,d',h1,h2,h3,W⟩;have:=s.inj i j d d' a (h i n) h1 hi h3 q W;subst this;exact h2 n
end
abbrev Ev:=cX->Option D
abbrev Bv:=cX->Option Bool
abbrev Lv:=cX->Option (List D)
abbrev RR:=Av->Hp->D->V->Prop
inductive tD(R:RR)(O:List Nat)(f:Ev)(σ:L2.St)(H:Hp)(Q:VK):Prop
 | mk (H0:Hp) (A0 A:Av) (E:List Fact) (ρ:cX) (d:D) (st:ST H0 A0 A E O σ H ρ) (e:f ρ=some d) (q:∀v H',Ext A H H'->R A H' d v->Q v H'):tD R O f σ H Q
inductive tDT(O:List Nat)(g:Bv)(σ:L2.St)(H:Hp)(Q:Bool->Hp->Prop):Prop
 | mk (H0:Hp) (A0 A:Av) (E:List Fact) (ρ:cX) (b:Bool) (st:ST H0 A0 A E O σ H ρ) (e:g ρ=some b) (q:∀H',Ext A H H'->Q b H'):tDT O g σ H Q
def PD(X:Cx)(O:List Nat)(e:Expr)(f:Ev):Prop:=PE X e (tD Rep O f)
def PB(X:Cx)(O:List Nat)(e:Expr)(f:Ev):Prop:=PE X e (tD RepB O f)
def oR(X:Cx)(O:List Nat)(e:Expr)(g:Bv):Prop:=PT X e (tDT O g)
def PDW(X:Cx)(O:List Nat)(e:Expr)(g:Bv):Prop:=PW X e (tDT O g)
theorem PDW.pt(h:PDW X O e g):oR X O e g:=PW.pt h
inductive RL(R:RR)(A:Av)(H:Hp):List D->List V->Prop where
 | nil:RL R A H [] []
 | cons {d v ds vs} (h:R A H d v) (t:RL R A H ds vs):RL R A H (d::ds) (v::vs)
inductive tDA(R:RR)(O:List Nat)(f:Lv)(σ:L2.St)(H:Hp)(Q:List V->Hp->Prop):Prop
 | mk (H0:Hp) (A0 A:Av) (E:List Fact) (ρ:cX) (ds:List D) (st:ST H0 A0 A E O σ H ρ) (e:f ρ=some ds) (q:∀vs H',Ext A H H'->RL R A H' ds vs->Q vs H'):tDA R O f σ H Q
def vO(X:Cx)(O:List Nat)(es:List Expr)(f:Lv):Prop:=PA X es (tDA Rep O f)
def t6(X:Cx)(O:List Nat)(es:List Expr)(f:Lv):Prop:=PA X es (tDA RepB O f)
section
variable {X:Cx}{O:List Nat}
theorem PE.mono(h:PE X e t)(x:∀σ H Q,t' σ H Q->t σ H Q):PE X e t':=λpins s σ H Q I w=>h pins s σ H Q I (x σ H Q w)
theorem PT.mono(h:PT X e t)(x:∀σ H Q,t' σ H Q->t σ H Q):PT X e t':=λpins s σ H Q I w=>h pins s σ H Q I (x σ H Q w)
theorem PW.mono(h:PW X e t)(x:∀σ H Q,t' σ H Q->t σ H Q):PW X e t':=λq pins s σ H Q I w=>h q pins s σ H Q I (x σ H Q w)
theorem PA.mono(h:PA X es t)(x:∀σ H Q,t' σ H Q->t σ H Q):PA X es t':=λpos pins s σ H Q I w=>h pos pins s σ H Q I (x σ H Q w)
theorem PD.b{e:Expr}{f:Ev}(h:PD X O e f):PB X O e f:=PE.mono h λσ H Q ⟨H0,A0,A,E,ρ,d,st,e,q⟩=>⟨H0,A0,A,E,ρ,d,st,e,λv H' x r=>q v H' x (.of r)⟩
theorem RL.toL:∀ {ds:List D} {vs:List V},RL Rep A H ds vs->RepL A H ds vs
 | _,_,.nil=>.nil
 | _,_,.cons h t=>.cons h (RL.toL t)
def aH(i:Nat):Ev:=λρ=>(ρ[i]?).join
def eC(d:D):Ev:=λ_=>some d
theorem cV{ρ:cX}{i:Nat}{d:D}(h:(ρ[i]?).join=some d):ρ[i]?=some (some d):=by
 cases e:ρ[i]? with
 | none=>rw[e]at h;cases h
 | some o=>rw[e]at h;cases o with
  | none=>cases h
  | some x=>cases h;rfl
theorem M7{e:Expr}(i:Nat)(h:PE X e (nW i))(n:i∉O):PD X O e (aH i):=PE.mono h <| by
 rintro σ H Q ⟨H0,A0,A,E,ρ,d,st,e,q⟩;obtain⟨v,z,r⟩:=st.val i d (cV e) n;exact⟨v,z,q v H (Ext.refl _ _) r⟩
theorem L7{e:Expr}(i:Nat)(h:PE X e (nW i)):PB X O e (aH i):=PE.mono h <| by
 rintro σ H Q ⟨H0,A0,A,E,ρ,d,st,e,q⟩;by_cases n:i∈O
 ·obtain⟨a,z,_,_,r⟩:=st.own i d (cV e) n
  exact⟨_,z,q _ H (Ext.refl _ _) r.b⟩
 ·obtain⟨v,z,r⟩:=st.val i d (cV e) n
  exact⟨v,z,q v H (Ext.refl _ _) (.of r)⟩
theorem EZ{i j pos}:PD X O (.Constant (.int i) j pos) (eC (.int i)):=PE.mono NP λσ H Q ⟨H0,A0,A,E,ρ,d,st,e,q⟩=>by cases e;exact q _ H (Ext.refl _ _) (.int _)
theorem P2{i j pos}:PD X O (.Constant (.bool i) j pos) (eC (.bl i)):=PE.mono PV λσ H Q ⟨H0,A0,A,E,ρ,d,st,e,q⟩=>by cases e;exact q _ H (Ext.refl _ _) (.bl _)
theorem NR{i j pos}:PD X O (.Constant (.str i) j pos) (eC (.str i)):=PE.mono N1 λσ H Q ⟨H0,A0,A,E,ρ,d,st,e,q⟩=>by cases e;exact q _ H (Ext.refl _ _) (.str _)
theorem MJ{j pos}:PD X O (.Constant .none j pos) (eC .non):=PE.mono MU λσ H Q ⟨H0,A0,A,E,ρ,d,st,e,q⟩=>by cases e;exact q _ H (Ext.refl _ _) .non
def Live(A:Av)(H:Hp):Prop:=∀a,A a->H a≠none
theorem Live.ext(l:Live A H)(x:Ext A H H'):Live A H':=λa q=>by
 cases e:H a with
 | none=>exact absurd e (l a q)
 | some u=>rw[x.ow a u q e];exact λz=>nomatch z
inductive rD(g:D->D->Option D)(x y:V)(H:Hp)(Q:VK):Prop
 | mk (A:Av) (dx dy d:D) (lv:Live A H) (rx:RepB A H dx x) (ry:RepB A H dy y) (e:g dx dy=some d) (q:∀v H',Ext A H H'->Rep A H' d v->Q v H'):rD g x y H Q
def jK(X:Cx)(f:Value->Value->Sem Value)(g:D->D->Option D):Prop:=OpR X f (rD g)
theorem OpR.mono(h:OpR X f r)(x:∀a b H Q,r' a b H Q->r a b H Q):OpR X f r':=λpins s σ H a b v u Q I z q w=>h pins s σ H a b v u Q I z q (x a b H Q w)
def a6(g:D->D->Option D)(q z:Ev):Ev:=λρ=>(q ρ).bind λx=>(z ρ).bind λy=>g x y
theorem bind_some{z q:Type}{o:Option z}{f:z->Option q}{b:q}(h:o.bind f=some b):∃a,o=some a/\f a=some b:=by
 cases o with
 | none=>cases h
 | some a=>exact⟨a,rfl,h⟩
theorem vG{g:D->D->Option D}{N U:Ev}{σ:L2.St}{H:Hp}{Q:VK}(h:tD Rep O (a6 g N U) σ H Q):OQ (rD g) (tD RepB O N) (tD RepB O U) σ H Q:=by
 obtain⟨H0,A0,A,E,ρ,d,st,e,q⟩:=h;obtain⟨x,ex,e⟩:=bind_some e;obtain⟨y,ey,e⟩:=bind_some e;exact⟨H0,A0,A,E,ρ,x,st,ex,λv H1 G W=>⟨H0,A0,A,E,ρ,y,st.mono G,ey,λw H2 J Y=>⟨A,x,y,d,(st.mono (G.trans J)).live,W.ext J,Y,e,λz H3 x3 r3=>q z H3 ((G.trans J).trans x3) r3⟩⟩⟩
theorem bU(G:jK X (V4 op) g)(z:PB X O a fa)(q:PB X O b fb):PD X O (.BinOp a op b pos) (a6 g fa fb):=
 PE.mono (FW G z q) λσ H Q h=>vG h
theorem vF(G:jK X (VF op) g)(z:PB X O a fa)(q:PB X O b fb)(J:XU op b=false):PD X O (.Compare a [op] [b] pos) (a6 g fa fb):=
 PE.mono (IW G z q J) λσ H Q h=>vG h
noncomputable def GI:D->Option Bool
 | .bl b=>some b
 | _=>none
theorem mO(h:GI d=some b):d=.bl b:=by
 cases d <;> cases h;rfl
def fN(f:Ev):Bv:=λρ=>(f ρ).bind GI
theorem mS{f:Ev}{σ:L2.St}{H:Hp}{Q:Bool->Hp->Prop}(h:tDT O (fN f) σ H Q):tD Rep O f σ H λx H'=>∃k,x=.bl k/\Q k H':=by
 obtain⟨H0,A0,A,E,ρ,b,st,e,q⟩:=h;obtain⟨x,ex,e⟩:=bind_some e;rw[mO e]at ex;exact⟨H0,A0,A,E,ρ,_,st,ex,λv H1 G z=>⟨b,RepB.bl_inv (.of z),q H1 G⟩⟩
theorem pE(G:jK X (VF op) g)(z:PB X O a fa)(q:PB X O b fb)(J:XU op b=false):oR X O (.Compare a [op] [b] pos) (fN (a6 g fa fb)):=
 PT.mono (AG G z q J) λσ H Q h=>vG (mS h)
theorem GW(h:PD X O e f)(z:∀q,isTrue e X.env q=(do let v <- q;standAt e.pos;holding [v] (truthy v)):=by intro _;rfl):oR X O e (fN f):=
 PT.mono (MD h z) λσ H Q h=>mS h
def F6(g:Bv):Bv:=λρ=>(g ρ).map (!·)
def yX(g h:Bv):Bv:=λρ=>(g ρ).bind λb=>if b=true then h ρ else some false
def KO(g h:Bv):Bv:=λρ=>(g ρ).bind λb=>if b=true then some true else h ρ
theorem JL(h:oR X O a g):oR X O (.UnaryOp .Not a pos) (F6 g):=PT.mono (NT h) <| by
 rintro σ H Q ⟨H0,A0,A,E,ρ,b,st,e,q⟩;unfold F6 at e;cases z:g ρ with
 | none=>rw[z]at e;cases e
 | some c=>rw[z]at e;cases e;exact⟨H0,A0,A,E,ρ,c,st,z,q⟩
theorem EH(h:oR X O a g):PDW X O (.BoolOp .And [a] pos) g:=G9 h
theorem G6(h:oR X O a g):PDW X O (.BoolOp .Or [a] pos) g:=NI h
theorem IQ{a b:Expr}{rest:List Expr}{pos:Pos}{g k:Bv}(J:oR X O a g)(G:PDW X O (.BoolOp .And (b::rest) pos) k):PDW X O (.BoolOp .And (a::b::rest) pos) (yX g k):=
 PW.mono (NA J G) <| by
  rintro σ H Q ⟨H0,A0,A,E,ρ,b,st,e,q⟩;obtain⟨x,ex,e⟩:=bind_some e;refine⟨H0,A0,A,E,ρ,x,st,ex,λH1 z=>?_⟩;cases x with
  | false=>rw[if_neg VH]at e ⊢;cases e;exact q H1 z
  | true=>rw[if_pos rfl]at e ⊢;exact⟨H0,A0,A,E,ρ,b,st.mono z,e,λH2 N=>q H2 (z.trans N)⟩
theorem E6{a b:Expr}{rest:List Expr}{pos:Pos}{g k:Bv}(J:oR X O a g)(G:PDW X O (.BoolOp .Or (b::rest) pos) k):PDW X O (.BoolOp .Or (a::b::rest) pos) (KO g k):=
 PW.mono (O6 J G) <| by
  rintro σ H Q ⟨H0,A0,A,E,ρ,b,st,e,q⟩;obtain⟨x,ex,e⟩:=bind_some e;refine⟨H0,A0,A,E,ρ,x,st,ex,λH1 z=>?_⟩;cases x with
  | true=>rw[if_pos rfl]at e ⊢;cases e;exact q H1 z
  | false=>rw[if_neg VH]at e ⊢;exact⟨H0,A0,A,E,ρ,b,st.mono z,e,λH2 N=>q H2 (z.trans N)⟩
def KN(f g:Ev):Ev:=λρ=>(f ρ).bind λx=>(GI x).bind λb=>if b=true then g ρ else some (.bl false)
def RI(f g:Ev):Ev:=λρ=>(f ρ).bind λx=>(GI x).bind λb=>if b=true then some (.bl true)else g ρ
def T4(c:Bv)(f g:Ev):Ev:=λρ=>(c ρ).bind λb=>if b=true then f ρ else g ρ
theorem FL{op}(h:PD X O a f):PD X O (.BoolOp op [a] pos) f:=MT h
theorem yI{a b:Expr}{rest:List Expr}{pos:Pos}{f g:Ev}(G:PD X O a f)(N:PD X O (.BoolOp .And (b::rest) pos) g):PD X O (.BoolOp .And (a::b::rest) pos) (KN f g):=
 PE.mono (L8 G N) <| by
  rintro σ H Q ⟨H0,A0,A,E,ρ,d,st,e,q⟩;obtain⟨x,ex,e⟩:=bind_some e;obtain⟨b,U,e⟩:=bind_some e;rw[mO U]at ex;refine⟨H0,A0,A,E,ρ,_,st,ex,λv H1 z J=>⟨b,RepB.bl_inv (.of J),?_⟩⟩;cases b with
  | false=>rw[if_neg VH]at e ⊢;cases e;exact q _ H1 z (.bl _)
  | true=>rw[if_pos rfl]at e ⊢;exact⟨H0,A0,A,E,ρ,d,st.mono z,e,λw H2 W=>q w H2 (z.trans W)⟩
theorem QB{a b:Expr}{rest:List Expr}{pos:Pos}{f g:Ev}(G:PD X O a f)(N:PD X O (.BoolOp .Or (b::rest) pos) g):PD X O (.BoolOp .Or (a::b::rest) pos) (RI f g):=
 PE.mono (OS G N) <| by
  rintro σ H Q ⟨H0,A0,A,E,ρ,d,st,e,q⟩;obtain⟨x,ex,e⟩:=bind_some e;obtain⟨b,U,e⟩:=bind_some e;rw[mO U]at ex;refine⟨H0,A0,A,E,ρ,_,st,ex,λv H1 z J=>⟨b,RepB.bl_inv (.of J),?_⟩⟩;cases b with
  | true=>rw[if_pos rfl]at e ⊢;cases e;exact q _ H1 z (.bl _)
  | false=>rw[if_neg VH]at e ⊢;exact⟨H0,A0,A,E,ρ,d,st.mono z,e,λw H2 W=>q w H2 (z.trans W)⟩
theorem QT{c a b:Expr}{pos:Pos}{g:Bv}{f k:Ev}(W:oR X O c g)(J:PD X O a f)(N:PD X O b k):PD X O (.IfExp c a b pos) (T4 g f k):=
 PE.mono (DP W J N) <| by
  rintro σ H Q ⟨H0,A0,A,E,ρ,d,st,e,q⟩;obtain⟨b,U,e⟩:=bind_some e;refine⟨H0,A0,A,E,ρ,b,st,U,λH1 z=>?_⟩;cases b with
  | true=>rw[if_pos rfl]at e ⊢;exact⟨H0,A0,A,E,ρ,d,st.mono z,e,λw H2 G=>q w H2 (z.trans G)⟩
  | false=>rw[if_neg VH]at e ⊢;exact⟨H0,A0,A,E,ρ,d,st.mono z,e,λw H2 G=>q w H2 (z.trans G)⟩
def bW(g g':D->D->Option D)(q G J:Ev):Ev:=λρ=>(q ρ).bind λx=>(G ρ).bind λy=>(g x y).bind λz=>(GI z).bind λb=>if b=true then(J ρ).bind λw=>g' y w else some (.bl false)
end
section
variable {X:Cx}{O:List Nat}
theorem sO(h:tD Rep O (bW g g' fa fb fc) σ H Q):yL (rD g) (rD g') (tD RepB O fa) (tD RepB O fb) (tD RepB O fc) σ H Q:=by
 obtain⟨H0,A0,A,E,ρ,d,st,e,q⟩:=h;obtain⟨x,ex,e⟩:=bind_some e;obtain⟨y,ey,e⟩:=bind_some e;obtain⟨z,Y,e⟩:=bind_some e;obtain⟨b,eb,e⟩:=bind_some e;rw[mO eb]at Y;refine⟨H0,A0,A,E,ρ,x,st,ex,λv H1 J r1=>⟨H0,A0,A,E,ρ,y,st.mono J,ey,λw H2 N W=>⟨A,x,y,_,(st.mono (J.trans N)).live,r1.ext N,W,Y,λz H3 x3 r3=>⟨b,RepB.bl_inv (.of r3),?_⟩⟩⟩⟩;have G:=(J.trans N).trans x3;cases b with
 | false=>rw[if_neg VH]at e ⊢;cases e;exact q _ H3 G (.bl _)
 | true=>
  rw[if_pos rfl]at e ⊢;obtain⟨u,eu,e⟩:=bind_some e;exact⟨H0,A0,A,E,ρ,u,st.mono G,eu,λz' H4 U r4=>⟨A,y,u,d,(st.mono (G.trans U)).live,W.ext (x3.trans U),r4,e,λz2 H5 x5 r5=>q z2 H5 ((G.trans U).trans x5) r5⟩⟩
theorem DL(U:jK X (VF op) g)(q:jK X (VF op') g')(z:PB X O a fa)(J:PB X O b fb)(N:PB X O c fc)
  (G:lastMarks [op,op'] [b,c]=false:=by with_unfolding_all rfl):PD X O (.Compare a [op,op'] [b,c] pos) (bW g g' fa fb fc):=PE.mono (DC U q z J N G) λσ H Q h=>sO h
theorem CC(U:jK X (VF op) g)(q:jK X (VF op') g')(z:PB X O a fa)(J:PB X O b fb)(N:PB X O c fc)
  (G:lastMarks [op,op'] [b,c]=false:=by with_unfolding_all rfl):oR X O (.Compare a [op,op'] [b,c] pos) (fN (bW g g' fa fb fc)):=PT.mono (C1 U q z J N G) λσ H Q h=>sO (mS h)
def bC:Lv:=λ_=>some []
def aI(f:Ev)(g:Lv):Lv:=λρ=>(f ρ).bind λx=>(g ρ).bind λxs=>some (x::xs)
theorem IA:vO X O [] bC:=PA.mono lP λσ H Q ⟨H0,A0,A,E,ρ,d,st,e,q⟩=>by cases e;exact q [] H (Ext.refl _ _) .nil
theorem AD:t6 X O [] bC:=PA.mono lP λσ H Q ⟨H0,A0,A,E,ρ,d,st,e,q⟩=>by cases e;exact q [] H (Ext.refl _ _) .nil
theorem wG(W:∀A H H' d v,Ext A H H'->R A H d v->R A H' d v)(h:tDA R O (aI f g) σ H Q):AN (tD R O f) (tDA R O g) σ H Q:=by
 obtain⟨H0,A0,A,E,ρ,d,st,e,q⟩:=h;obtain⟨x,ex,e⟩:=bind_some e;obtain⟨xs,z,e⟩:=bind_some e;cases e;exact⟨H0,A0,A,E,ρ,x,st,ex,λv H1 G N=>⟨H0,A0,A,E,ρ,xs,st.mono G,z,λvs H2 J U=>q (v::vs) H2 (G.trans J) (.cons (W _ _ _ _ _ J N) U)⟩⟩
theorem DM(q:PD X O e f)(z:vO X O es g)(hs:U8 (e::es) X.env=(false,eval e X.env)::U8 es X.env:=by rfl):vO X O (e::es) (aI f g):=
 PA.mono (fM q z hs) λσ H Q h=>wG (λ_ _ _ _ _ x r=>r.ext x) h
theorem wL(q:PB X O e f)(z:t6 X O es g)(hs:U8 (e::es) X.env=(false,eval e X.env)::U8 es X.env:=by rfl):t6 X O (e::es) (aI f g):=
 PA.mono (fM q z hs) λσ H Q h=>wG (λ_ _ _ _ _ x r=>r.ext x) h
inductive tF(O:List Nat)(f:Ev)(σ:L2.St)(H:Hp)(Q:VK):Prop
 | mk (H0:Hp) (A0 A:Av) (E:List Fact) (ρ:cX) (d:D) (st:ST H0 A0 A E O σ H ρ) (e:f ρ=some d) (q:∀a H',Ext A H H'->H a=none->¬ A a->Own (λb=>A b\/b=a) H' d a->Q (.ref a) H'):tF O f σ H Q
def PF(X:Cx)(O:List Nat)(e:Expr)(f:Ev):Prop:=PE X e (tF O f)
theorem PF.d(h:PF X O e f):PD X O e f:=PE.mono h λσ H Q ⟨H0,A0,A,E,ρ,d,st,e,q⟩=>
 ⟨H0,A0,A,E,ρ,d,st,e,λa H' x n G o=>q _ H' x ((o.av (A':=A) λb z=>.inl (.inl z)).rep G)⟩
theorem RepL.fresh(n:H p=none)(r:RepL A H ds vs):RepL (λb=>A b\/b=p) (upd H p o) ds vs:=by
 have z:RepL (λb=>A b\/b=p) H ds vs:=r.av λb q=>by
  rcases q with q|q
  ·exact .inl q
  ·exact .inr (q ▸ n)
 exact z.ext (Ext.new n)
theorem Ext.free(x:Ext A H H')(n:H' p=none):H p=none:=by
 cases e:H p with
 | none=>rfl
 | some u=>rcases x.rd p u (.inl e)with h|⟨o,h⟩ <;> (rw[n]at h;cases h)
def sE(g:Lv):Ev:=λρ=>(g ρ).map .tup
def vJ(g:Lv):Ev:=λρ=>(g ρ).map .lst
theorem RL.length:∀ {ds:List D} {vs:List V},RL R A H ds vs->vs.length=ds.length
 | _,_,.nil=>rfl
 | _,_,.cons _ t=>by rw[WI,WI,RL.length t]
noncomputable def aZ(n:Nat):Bool:=decide (n<=1000000)
theorem i6(h:aZ n=true):n<=VA:=WC (of_decide_eq_true h) (by decide)
theorem uK(h:aZ n=true):n<VA:=zaR (of_decide_eq_true h) (by decide)
theorem map_some{z q:Type}{o:Option z}{f:z->q}{b:q}(h:o.map f=some b):∃a,o=some a/\f a=b:=by
 cases o with
 | none=>cases h
 | some a=>exact⟨a,rfl,VX h⟩
def Len(g:Lv)(n:Nat):Prop:=∀ρ ds,g ρ=some ds->ds.length=n
theorem G7:Len bC 0:=λρ ds h=>by cases h;rfl
theorem CY(h:Len g n):Len (aI f g) (n+1):=λρ ds e=>by
 obtain⟨x,ex,e⟩:=bind_some e;obtain⟨xs,q,e⟩:=bind_some e;cases e;rw[WI,h ρ xs q]
theorem lM{es:List Expr}{z}{pos:Pos}{g:Lv}(h:vO X O es g)(U:∀ρ ds,g ρ=some ds->ds.length<=100):PD X O (.Tuple es z pos) (sE g):=PE.mono (EX h) <| by
 rintro σ H Q ⟨H0,A0,A,E,ρ,d,st,e,q⟩;obtain⟨ds,J,rfl⟩:=map_some e;refine⟨H0,A0,A,E,ρ,ds,st,J,λvs H1 z G=>⟨by rw[G.length];exact WC (U ρ ds J) (by decide),λp N=>?_⟩⟩;exact q _ _ (z.trans (Ext.new N)) (.tup aT (G.toL.ext (Ext.new N)))
theorem MR{es:List Expr}{pos:Pos}{g:Lv}(h:vO X O es g)(W:∀ρ ds,g ρ=some ds->ds.length<=100):PF X O (.List es pos) (vJ g):=PE.mono (EQ h) <| by
 rintro σ H Q ⟨H0,A0,A,E,ρ,d,st,e,q⟩;obtain⟨ds,U,rfl⟩:=map_some e;refine⟨H0,A0,A,E,ρ,ds,st,U,λvs H1 J N=>⟨by rw[N.length];exact WC (W ρ ds U) (by decide),λp G=>?_⟩⟩;exact q p _ (J.trans (Ext.new G)) (J.free G) (λz=>(st.mono J).live p z G) (.lst aT (N.toL.fresh G))
inductive rC(g:List D->Option D)(xs:List V)(H:Hp)(Q:VK):Prop
 | mk (A:Av) (ds:List D) (d:D) (lv:Live A H) (r:RL RepB A H ds xs) (e:g ds=some d) (q:∀v H',Ext A H H'->Rep A H' d v->Q v H'):rC g xs H Q
inductive rCF(g:List D->Option D)(xs:List V)(H:Hp)(Q:VK):Prop
 | mk (A:Av) (ds:List D) (d:D) (lv:Live A H) (r:RL RepB A H ds xs) (e:g ds=some d) (q:∀a H',Ext A H H'->H a=none->¬ A a->Own (λb=>A b\/b=a) H' d a->Q (.ref a) H'):rCF g xs H Q
def kA(X:Cx)(f:Value)(g:List D->Option D):Prop:=CallR X f (rC g)
def FP(X:Cx)(f:Value)(g:List D->Option D):Prop:=CallR X f (rCF g)
theorem CallR.mono(h:CallR X f r)(x:∀a H Q,r' a H Q->r a H Q):CallR X f r':=λpins s σ H a v Q I q w=>h pins s σ H a v Q I q (x a H Q w)
def aS(g:List D->Option D)(f:Lv):Ev:=λρ=>(f ρ).bind g
theorem sG(h:tD Rep O (aS g f) σ H Q):RM (rC g) (tDA RepB O f) σ H Q:=by
 obtain⟨H0,A0,A,E,ρ,d,st,e,q⟩:=h;obtain⟨ds,J,e⟩:=bind_some e;exact⟨H0,A0,A,E,ρ,ds,st,J,λvs H1 z G=>⟨A,ds,d,(st.mono z).live,G,e,λv H2 U N=>q v H2 (z.trans U) N⟩⟩
theorem B0(h:tF O (aS g f) σ H Q):RM (rCF g) (tDA RepB O f) σ H Q:=by
 obtain⟨H0,A0,A,E,ρ,d,st,e,q⟩:=h;obtain⟨ds,J,e⟩:=bind_some e;exact⟨H0,A0,A,E,ρ,ds,st,J,λvs H1 z G=>⟨A,ds,d,(st.mono z).live,G,e,λa H2 U n N o=>q a H2 (z.trans U) (z.free n) N o⟩⟩
section
variable {x:Str}{id T:String}{g:List D->Option D}{e:Expr}{es:List Expr}{f:Lv}{p pos:Pos}
theorem C7(Y:kA X (.builtin id) g)(U:Gl X x)(J:X.mg x=none)(hv:V5 x=some (.builtin id))(G:t6 X O (e::es) f)(N:x ≠ "__name__" := by decide)(z:(x == ("__debug__" : Str))=false:=by decide)
  (W:U8 (e::es) X.env=(false,eval e X.env)::U8 es X.env:=by rfl) (q:(VU pos (U8 es X.env)).any (·.1)=false:=by rfl) :
  PD X O (.Call (.Name x p) (e::es) [] pos) (aS g f):=PE.mono (qS Y U J hv G N z W q) λσ H Q h=>sG h
theorem BD(Y:kA X (.type T) g)(U:Gl X x)(J:X.mg x=none)(hv:V5 x=some (.type T))(G:t6 X O (e::es) f)(N:x ≠ "__name__" := by decide)(z:(x == ("__debug__" : Str))=false:=by decide)
  (W:U8 (e::es) X.env=(false,eval e X.env)::U8 es X.env:=by rfl) (q:(VU pos (U8 es X.env)).any (·.1)=false:=by rfl) :
  PD X O (.Call (.Name x p) (e::es) [] pos) (aS g f):=PE.mono (tN Y U J hv G N z W q) λσ H Q h=>sG h
theorem B8(Y:FP X (.type T) g)(U:Gl X x)(J:X.mg x=none)(hv:V5 x=some (.type T))(G:t6 X O (e::es) f)(N:x ≠ "__name__" := by decide)(z:(x == ("__debug__" : Str))=false:=by decide)
  (W:U8 (e::es) X.env=(false,eval e X.env)::U8 es X.env:=by rfl) (q:(VU pos (U8 es X.env)).any (·.1)=false:=by rfl) :
  PF X O (.Call (.Name x p) (e::es) [] pos) (aS g f):=PE.mono (tN Y U J hv G N z W q) λσ H Q h=>B0 h
end
def TV(n:Nat)(F:List D->Option D):Sp:=λvs H Q _=>∃A ds d,Live A H/\RepL A H ds vs/\vs.length=n/\F ds=some d/\∀v H',Ext A H H'->Rep A H' d v->Q v H'
def Fn(P:U7)(w:World)(K:U3)(mg:Str->Option Value)(base:Heap)(x:Str)(k:Nat)(ps:List Str)(F:List D->Option D):Prop:=My.Ok P w K mg base x k ps (TV ps.length F)
theorem Fn.mono{P:U7}{w:World}{K:U3}{mg:Str->Option Value}{base:Heap}{x:Str}{j k:Nat}{ps:List Str}{F:List D->Option D}(h:Fn P w K mg base x j ps F)(l:j<=k):Fn P w K mg base x k ps F:=My.Ok.mono h l
theorem JJ(O':Fn X.prog X.w X.K X.mg X.base x k ps F)(hr:Room k X.A)(hg:Gl X x)(W:vO X O (e::es) f)(hl:∀ρ ds,f ρ=some ds->ds.length=ps.length)(G:(x == ("__debug__" : Str))=false:=by decide)
  (he:U8 (e::es) X.env=(false,eval e X.env)::U8 es X.env:=by rfl) (z:(VU pos (U8 es X.env)).any (·.1)=false:=by rfl) :
  PD X O (.Call (.Name x p) (e::es) [] pos) (aS F f):=PE.mono (My.D6 O' hr hg W G he z) λσ H Q ⟨H0,A0,A,E,ρ,d,st,e,q⟩=>by
 obtain⟨ds,N,e⟩:=bind_some e;exact⟨H0,A0,A,E,ρ,ds,st,N,λvs H1 U J=>⟨A,ds,d,(st.mono U).live,J.toL,by rw[J.length];exact hl ρ ds N,e,λv H2 x2 Y=>q v H2 (U.trans x2) Y⟩⟩
theorem IxR.mono(h:IxR X r)(x:∀a b H Q,r' a b H Q->r a b H Q):IxR X r':=λG J pins s σ H a b v u Q I z q w=>h G J pins s σ H a b v u Q I z q (x a b H Q w)
def RT:D->D->Option D
 | .lst l,.int i=>fF l i
 | .tup l,.int i=>fF l i
 | .str z,.int i=>if aZ z.length then(fF z.cps.toList i).map λc=>.str ⟨#[c]⟩else none
 | _,_=>none
theorem RepL.at(r:RepL A H ds vs)(h:fF ds i=some d):∃v,fF vs i=some v/\Rep A H d v:=by
 obtain⟨j,G,J⟩:=bind_some h;obtain⟨v,z,q⟩:=r.get' J;refine⟨v,?_,q⟩;unfold fF;rw[r.length,G];exact z
theorem SM:IxR X (rD RT):=IxR.mono LS <| by
 rintro x y H Q ⟨A,dx,W,d,lv,J,Y,e,q⟩;cases W with
 | int i=>
  have:=Y.int_inv;subst this;cases dx with
  | lst l=>
   obtain⟨a,xs,rfl,h,r⟩:=J.lst_inv;obtain⟨v,G,U⟩:=r.at e;exact .inl ⟨a,xs,i,v,rfl,rfl,.inl h,G,q v H (Ext.refl _ _) U⟩
  | tup l=>
   obtain⟨a,xs,rfl,h,r⟩:=J.tup_inv;obtain⟨v,G,U⟩:=r.at e;exact .inr (.inl ⟨a,xs,i,v,rfl,rfl,.inl (.inl h),G,q v H (Ext.refl _ _) U⟩)
  | str z=>
   have:=J.str_inv;subst this;simp only[RT]at e;by_cases N:aZ z.length=true
   ·rw[if_pos N]at e
    obtain⟨c,G,rfl⟩:=map_some e;exact .inr (.inr ⟨z,i,c,rfl,rfl,i6 N,G,q _ H (Ext.refl _ _) (.str _)⟩)
   ·rw[if_neg N]at e;cases e
  | _=>cases e
 | _=>cases dx <;> cases e
abbrev Ov:=cX->Option (Option Int)
inductive tDO(O:List Nat)(g:Ov)(σ:L2.St)(H:Hp)(Q:Option Int->Hp->Prop):Prop
 | mk (H0:Hp) (A0 A:Av) (E:List Fact) (ρ:cX) (o:Option Int) (st:ST H0 A0 A E O σ H ρ) (e:g ρ=some o) (q:∀H',Ext A H H'->Q o H'):tDO O g σ H Q
def LO(X:Cx)(O:List Nat)(e:Option Expr)(g:Ov):Prop:=PO X e (tDO O g)
theorem PO.mono(h:PO X e t)(x:∀σ H Q,t' σ H Q->t σ H Q):PO X e t':=λpins s σ H Q I w=>h pins s σ H Q I (x σ H Q w)
def K5:Ov:=λ_=>some none
noncomputable def OK:D->Option Int
 | .int i=>some i
 | _=>none
theorem qN(h:OK d=some i):d=.int i:=by cases d <;> cases h;rfl
def KZ(f:Ev):Ov:=λρ=>(f ρ).bind λd=>(OK d).map some
theorem D5:LO X O none K5:=PO.mono G1 λσ H Q ⟨H0,A0,A,E,ρ,d,st,e,q⟩=>by cases e;exact q H (Ext.refl _ _)
theorem DU{e:Expr}{f:Ev}(h:PD X O e f):LO X O (some e) (KZ f):=PO.mono (G3 h) <| by
 rintro σ H Q ⟨H0,A0,A,E,ρ,d,st,e,q⟩;obtain⟨x,ex,e⟩:=bind_some e;obtain⟨i,G,rfl⟩:=map_some e;rw[qN G]at ex;exact⟨H0,A0,A,E,ρ,_,st,ex,λv H1 J z=>⟨i,RepB.int_inv (.of z),q H1 J⟩⟩
def cutD(xs:List D)(lo hi:Option Int):List D:=(xs.drop (HT.sIx xs.length 0 lo)).take (HT.sIx xs.length xs.length hi-HT.sIx xs.length 0 lo)
theorem RepL.cut{ds:List D}{vs:List V}{lo hi:Option Int}(r:RepL A H ds vs):RepL A H (cutD ds lo hi) (sC vs lo hi):=by
 unfold cutD sC;rw[r.length];exact(r.drop _).take _
def TY(g:D->Option Int->Option Int->Option D)(f:Ev)(a b:Ov):Ev:=λρ=>(f ρ).bind λx=>(a ρ).bind λlo=>(b ρ).bind λhi=>g x lo hi
inductive rS(g:D->Option Int->Option Int->Option D)(x:V)(lo hi:Option Int)(H:Hp)(Q:VK):Prop
 | mk (A:Av) (dx d:D) (lv:Live A H) (r:RepB A H dx x) (e:g dx lo hi=some d) (q:∀v H',Ext A H H'->Rep A H' d v->Q v H'):rS g x lo hi H Q
inductive rSF(g:D->Option Int->Option Int->Option D)(x:V)(lo hi:Option Int)(H:Hp)(Q:VK):Prop
 | mk (A:Av) (dx d:D) (lv:Live A H) (r:RepB A H dx x) (e:g dx lo hi=some d) (q:∀a H',Ext A H H'->H a=none->¬ A a->Own (λb=>A b\/b=a) H' d a->Q (.ref a) H'):rSF g x lo hi H Q
theorem SlR.mono(h:SlR X r)(x:∀a b c H Q,r' a b c H Q->r a b c H Q):SlR X r':=λpins s σ H a v N q lo hi U Q I G hs J z w=>h pins s σ H a v N q lo hi U Q I G hs J z (x a lo hi H Q w)
def R9:D->Option Int->Option Int->Option D
 | .tup l,lo,hi=>some (.tup (cutD l lo hi))
 | _,_,_=>none
def RA:D->Option Int->Option Int->Option D
 | .lst l,lo,hi=>some (.lst (cutD l lo hi))
 | _,_,_=>none
theorem DI{lo hi:Option Expr}{g:D->Option Int->Option Int->Option D}{a b:Ov}(hr:SlR X (rS g))(he:PB X O e f)(Y:LO X O lo a)(hu:LO X O hi b):PD X O (.Subscript e (.Slice lo hi none p2) pos) (TY g f a b):=
 PE.mono (EN hr he Y hu) <| by
  rintro σ H Q ⟨H0,A0,A,E,ρ,d,st,e,q⟩;obtain⟨x,ex,e⟩:=bind_some e;obtain⟨l,el,e⟩:=bind_some e;obtain⟨h,N,e⟩:=bind_some e;exact⟨H0,A0,A,E,ρ,x,st,ex,λv H1 z W=>⟨H0,A0,A,E,ρ,l,st.mono z,el,λH2 G=>⟨H0,A0,A,E,ρ,h,st.mono (z.trans G),N,λH3 J=>⟨A,x,d,(st.mono ((z.trans G).trans J)).live,W.ext (G.trans J),e,λv U x4 r4=>q v U (((z.trans G).trans J).trans x4) r4⟩⟩⟩⟩
theorem TB:SlR X (rS R9):=SlR.mono My.G4 <| by
 rintro x lo hi H Q ⟨A,dx,d,N,G,e,q⟩;cases dx with
 | tup l=>
  obtain⟨a,xs,rfl,h,r⟩:=G.tup_inv;cases e;by_cases w:HT.sIx xs.length 0 lo=0/\HT.sIx xs.length xs.length hi=xs.length
  ·refine .inr ⟨a,xs,rfl,.inl (.inl h),w,q _ H (Ext.refl _ _) (.tup h ?_)⟩
   have J:sC xs lo hi=xs:=by unfold sC;rw[w.1,w.2];simp
   rw[<- J];exact r.cut
  ·exact .inl ⟨a,xs,rfl,.inl (.inl h),w,λp z=>q _ _ (Ext.new z) (.tup aT (r.cut.ext (Ext.new z)))⟩
 | _=>cases e
theorem TQ:SlR X (rSF RA):=SlR.mono HC <| by
 rintro x lo hi H Q ⟨A,dx,d,J,N,e,q⟩;cases dx with
 | lst l=>
  obtain⟨a,xs,rfl,h,r⟩:=N.lst_inv;cases e;exact⟨a,xs,rfl,.inl h,λp G=>q p _ (Ext.new G) G (λz=>J p z G) (.lst aT (r.cut.fresh G))⟩
 | _=>cases e
end
inductive Out where
 | nx (ρ:cX)|rt (d:D)|bk (ρ:cX)|ct (ρ:cX)
abbrev Sv:=cX->Option Out
structure Lp where
 ob:List Nat
 oc:List Nat
def SA(L:Lp)(H0:Hp)(A0:Av)(E:List Fact)(O':List Nat)(T:Ends):Out->Prop
 | .nx ρ=>∀A σ H,ST H0 A0 A E O' σ H ρ->T.nx σ H
 | .rt d=>∀v H,Ext A0 H0 H->Rep A0 H d v->T.rt v H
 | .bk ρ=>∀A σ H,ST H0 A0 A E L.ob σ H ρ->T.bk σ H
 | .ct ρ=>∀A σ H,ST H0 A0 A E L.oc σ H ρ->T.ct σ H
inductive tS(L:Lp)(O:List Nat)(f:Sv)(O':List Nat)(T:Ends)(σ:L2.St)(H:Hp):Prop
 | mk (H0:Hp) (A0 A:Av) (E:List Fact) (ρ:cX) (out:Out) (st:ST H0 A0 A E O σ H ρ) (e:f ρ=some out) (p:SA L H0 A0 E O' T out):tS L O f O' T σ H
def PSD(X:Cx)(L:Lp)(O:List Nat)(st:Stmt)(f:Sv)(O':List Nat):Prop:=PS X st (tS L O f O')
def PSDs(X:Cx)(L:Lp)(O:List Nat)(st:List Stmt)(f:Sv)(O':List Nat):Prop:=PSs X st (tS L O f O')
section
variable {X:Cx}{L:Lp}{O O' O2:List Nat}
theorem PS.mono{st:Stmt}{t t':TS}(h:PS X st t)(x:∀T σ H,t' T σ H->t T σ H):PS X st t':=λpins s σ H T I w=>h pins s σ H T I (x T σ H w)
theorem PSs.mono{st:List Stmt}{t t':TS}(h:PSs X st t)(x:∀T σ H,t' T σ H->t T σ H):PSs X st t':=λpins s σ H T I w=>h pins s σ H T I (x T σ H w)
noncomputable def Sub(a b:List Nat):Bool:=a.all λi=>b.contains i
theorem Sub.mem(h:Sub a b=true)(i:Nat)(hi:i∈a):i∈b:=by
 have:=(List.all_eq_true.mp h) i hi;simpa using this
theorem tS.pre(h:Sub O1 O=true)(t:tS L O f O' T σ H):tS L O1 f O' T σ H:=by
 obtain⟨H0,A0,A,E,ρ,q,st,e,p⟩:=t;obtain⟨A',z⟩:=st.shut (Sub.mem h);exact⟨H0,A0,A',E,ρ,q,z,e,p⟩
theorem PSDs.pre{st:List Stmt}{O1:List Nat}(t:PSDs X L O1 st f O')(h:Sub O1 O=true):PSDs X L O st f O':=PSs.mono t λT σ H z=>tS.pre h z
theorem PSD.pre{st:Stmt}{f:Sv}{O1:List Nat}(t:PSD X L O1 st f O')(h:Sub O1 O=true):PSD X L O st f O':=PS.mono t λT σ H z=>tS.pre h z
def nH:Sv:=λρ=>some (.nx ρ)
def bI(f g:Sv):Sv:=λρ=>(f ρ).bind λo=>match o with
 | .nx ρ'=>g ρ'
 | o=>some o
theorem AA(h:Sub O' O=true:=by rfl):PSDs X L O [] nH O':=PSs.mono zG <| by
 rintro T σ H ⟨H0,A0,A,E,ρ,z,st,e,p⟩;cases e;obtain⟨A',q⟩:=st.shut (Sub.mem h);exact p A' σ H q
theorem HY(h:tS L O (bI f g) O' T σ H):QV (tS L O f O2) (tS L O2 g O') T σ H:=by
 obtain⟨H0,A0,A,E,ρ,z,st,e,p⟩:=h;obtain⟨o,J,e⟩:=bind_some e;refine⟨H0,A0,A,E,ρ,o,st,J,?_⟩;cases o with
 | nx ρ'=>exact λA' G H' q=>⟨H0,A0,A',E,ρ',z,q,e,p⟩
 | rt d=>cases e;exact p
 | bk d=>cases e;exact p
 | ct d=>cases e;exact p
theorem DK{st:Stmt}{rest:List Stmt}{f g:Sv}(h1:PSD X L O st f O2)(h2:PSDs X L O2 rest g O'):PSDs X L O (st::rest) (bI f g) O':=PSs.mono (qM h1 h2) λT σ H h=>HY h
theorem aL{st:Stmt}{f:Sv}(h1:PSD X L O st f O'):PSDs X L O [st] f O':=IG h1
def OM(f:Ev):Sv:=λρ=>(f ρ).map .rt
theorem HX{e:Expr}{pos:Pos}{f:Ev}(J:PD X O e f):PSD X L O (.Return (some e) pos) (OM f) O':=PS.mono (NO J) <| by
 rintro T σ H ⟨H0,A0,A,E,ρ,G,st,e,p⟩;obtain⟨d,z,rfl⟩:=map_some e;exact⟨H0,A0,A,E,ρ,d,st,z,λv H' x r=>p v H' (st.mono x).ex (r.av λa q=>.inl (st.sub a q))⟩
def KG:Sv:=λ_=>some (.rt .non)
theorem wA{pos:Pos}:PSD X L O (.Return none pos) KG O':=PS.mono IP <| by
 rintro T σ H ⟨H0,A0,A,E,ρ,q,st,e,p⟩;cases e;exact p .non H st.ex .non
def d8(f:Ev):Sv:=λρ=>(f ρ).map λ_=>.nx ρ
theorem DR{e:Expr}{pos:Pos}{f:Ev}(J:PB X O e f)(hs:V2 e none pos.line X.env=pure false:=by rfl)(h:Sub O' O=true:=by rfl):PSD X L O (.Expr e pos) (d8 f) O':=PS.mono (zV J hs) <| by
 rintro T σ H ⟨H0,A0,A,E,ρ,z,st,e,p⟩;obtain⟨d,G,rfl⟩:=map_some e;refine⟨H0,A0,A,E,ρ,d,st,G,λv H' x r=>?_⟩;obtain⟨A',q⟩:=(st.mono x).shut (Sub.mem h);exact p A' σ H' q
def kP(c:Bv)(f g:Sv):Sv:=λρ=>(c ρ).bind λb=>if b=true then f ρ else g ρ
theorem yN{c:Expr}{a b:List Stmt}{pos:Pos}{g:Bv}{f k:Sv}(U:oR X O c g)(G:PSDs X L O a f O')(J:PSDs X L O b k O'):PSD X L O (.If c a b pos) (kP g f k) O':=PS.mono (P3 U G J) <| by
 rintro T σ H ⟨H0,A0,A,E,ρ,q,st,e,p⟩;obtain⟨b,N,e⟩:=bind_some e;refine⟨H0,A0,A,E,ρ,b,st,N,λH1 z=>?_⟩;cases b with
 | true=>rw[if_pos rfl]at e ⊢;exact⟨H0,A0,A,E,ρ,q,st.mono z,e,p⟩
 | false=>rw[if_neg VH]at e ⊢;exact⟨H0,A0,A,E,ρ,q,st.mono z,e,p⟩
def eW(i:Nat)(f:Ev):Sv:=λρ=>(f ρ).map λd=>.nx (ρ.set i (some d))
theorem Sub.er{a b:List Nat}{i j:Nat}(h:Sub a (b.filter (· != i))=true)(q:j∈a):j∈b/\j≠i:=by
 have:=Sub.mem h j q;rw[List.mem_filter]at this;exact⟨this.1,by simpa using this.2⟩
theorem zD{i:Nat}{x:Str}{e:Expr}{pos pos':Pos}{f:Ev}(W:X.N.Nodup)(hi:X.N[i]?=some x)(hx:Loc X.env.scope x)(he:PD X O e f)(h:Sub O' (O.filter (· != i))=true:=by rfl)
  (hs:V2 e (some (.Name x pos')) pos.line X.env=pure false:=by rfl) (U:X.fn x=true\/X.env.scope.names.lookup x=some .local:=by first|exact .inl rfl|exact .inr rfl):PSD X L O (.Assign [.Name x pos'] e pos) (eW i f) O':=
 PS.mono (vC W hi hx he hs U) <| by
  rintro T σ H ⟨H0,A0,A,E,ρ,aa,st,e,p⟩;obtain⟨d,e1,rfl⟩:=map_some e;refine⟨H0,A0,A,E,ρ,d,st,e1,λv H' x r=>?_⟩
  -- i leaves what may be written ahead of the store: the value is borne by fewer too
  have J:=(st.mono x).more r;obtain⟨A',G⟩:=J.shut (O':=O') λj Y=>(Sub.er h Y).1
  exact p A' _ H' ((G.put (G.ext _ (VR ..)) λz=>(Sub.er h z).2 rfl).less λq hq=>VW _ hq)
theorem Own.there:Own A H d a->H a≠none
 | .lst h _=>by rw[h];exact λz=>nomatch z
 | .dK h _ _=>by rw[h];exact λz=>nomatch z
 | .dT h _ _=>by rw[h];exact λz=>nomatch z
theorem ST.own_put(s:ST H0 A0 A E O σ H ρ)(x:Ext A H H')(n:H a=none)(na:¬ A a)(o:Own (λb=>A b\/b=a) H' d a)(ni:i∉O) :
  ST H0 A0 (λb=>A b\/b=a) E (i::O) (σ.set i (some (.ref a))) H' (ρ.set i (some d)):=by
 have s':=s.mono x;have n0:H0 a=none:=s.ex.free n
 -- whatever was borne ahead avoids a
 have N:Ext (λb=>A b\/b=a) H H':=⟨x.rd,x.kp,λb u q e=>q.elim (λq=>x.ow b u q e) λq=>(by subst q;rw[n]at e;exact nomatch e),x.fz⟩;have ae:∀ {p:Fact},p.Holds A H->p.Holds (λb=>A b\/b=a) H':=λr=>Fact.ext N (Fact.av (A':=λb=>A b\/b=a) (λb q=>by
   rcases q with q|q
   ·exact .inl q
   ·exact .inr (q ▸ n)) r)
 have up:∀ {d:D} {v:V},Rep A H d v->Rep (λb=>A b\/b=a) H' d v:=λr=>by
  have r1:Rep (λb=>A b\/b=a) H _ _:=r.av λb q=>by
   rcases q with q|q
   ·exact .inl q
   ·exact .inr (q ▸ n)
  exact r1.ext N
 have af:∀ {d:D} {b:Addr},A b->Own A H d b->Own (λc=>A c\/c=a) H' d b:=λq r=>by
  have r1:Own (λc=>A c\/c=a) H _ _:=r.av λb q=>by
   rcases q with q|q
   ·exact .inl q
   ·exact .inr (q ▸ n)
  exact r1.ext N (.inl q)
 have ha:H' a≠none:=o.there;refine⟨s'.ex,λb q=>.inl (s.sub b q),s.l0,λb q=>?_,by simp[s.len],λj d' h' n'=>?_,λj d' h' n'=>?_,λj k W d2 b hj hk h1 h2 J Y=>?_,λp hp=>ae (s.ext p hp)⟩
 ·rcases q with q|q
  ·exact s'.live b q
  ·subst q;exact ha
 ·rcases cL h' with⟨e,G,l⟩|⟨e,G⟩
  ·exact absurd (List.mem_cons.mpr (.inl e)) n'
  ·obtain⟨w,h1,h2⟩:=s.val j d' G λz=>n' (VW _ z)
   exact⟨w,by rw[lN e];exact h1,up h2⟩
 ·rcases cL h' with⟨e,G,l⟩|⟨e,G⟩
  ·subst e;cases G
   exact⟨a,sig_set (by rw[s.len];exact l),.inr rfl,n0,o⟩
  ·rcases List.mem_cons.mp n' with z|z
   ·exact absurd z e
   ·obtain⟨w,h1,h2,J,Y⟩:=s.own j d' G z
    exact⟨w,by rw[lN e];exact h1,.inl h2,J,af h2 Y⟩
 ·have U:∀ {j:Nat} {W:D},j∈i::O->(ρ.set i (some d))[j]?=some (some W)->(σ.set i (some (.ref a)))[j]?=some (some (.ref b))->(j=i/\b=a)\/(j≠i/\j∈O/\ρ[j]?=some (some W)/\σ[j]?=some (some (.ref b))/\b≠a):=by
   intro j W hj h1 J;rcases cL h1 with⟨e,G,l⟩|⟨e,G⟩
   ·subst e
    rw[sig_set (by rw[s.len];exact l)]at J;cases J;exact .inl ⟨rfl,rfl⟩
   ·rcases List.mem_cons.mp hj with z|z
    ·exact absurd z e
    ·rw[lN e]at J
     obtain⟨w,q1,q2,_⟩:=s.own j W G z;rw[J]at q1;cases q1;exact .inr ⟨e,z,G,J,λz=>na (z ▸ q2)⟩
  rcases U hj h1 J with⟨e1,G⟩|⟨e1,G,e3,e4,e5⟩
  ·rcases U hk h2 Y with⟨f1,f2⟩|⟨f1,f2,f3,f4,f5⟩
   ·rw[e1,f1]
   ·exact absurd G f5
  ·rcases U hk h2 Y with⟨f1,f2⟩|⟨f1,f2,f3,f4,f5⟩
   ·exact absurd f2 e5
   ·exact s.inj j k W d2 b G f2 e3 f3 e4 f4
theorem EB{i:Nat}{x:Str}{e:Expr}{pos pos':Pos}{f:Ev}(J:X.N.Nodup)(hi:X.N[i]?=some x)(hx:Loc X.env.scope x)(he:PF X O e f)(h:Sub O' (i::O)=true:=by rfl)(U:O.contains i=false:=by rfl)
  (hs:V2 e (some (.Name x pos')) pos.line X.env=pure false:=by rfl) (G:X.fn x=true\/X.env.scope.names.lookup x=some .local:=by first|exact .inl rfl|exact .inr rfl):PSD X L O (.Assign [.Name x pos'] e pos) (eW i f) O':=
 PS.mono (vC J hi hx he hs G) <| by
  rintro T σ H ⟨H0,A0,A,E,ρ,W,st,e,p⟩;obtain⟨d,Y,rfl⟩:=map_some e;refine⟨H0,A0,A,E,ρ,d,st,Y,λa H' x n na o=>?_⟩;have ni:i∉O:=λz=>by
   have:O.contains i=true:=by simpa using z
   rw[U]at this;cases this
  obtain⟨A1,q⟩:=(st.own_put x n na o ni).shut (Sub.mem h);exact p A1 _ H' q
theorem ST.write(s:ST H0 A0 A E O σ H ρ)(hi:ρ[i]?=some (some d))(hO:i∈O)(hs:σ[i]?=some (some (.ref a)))(Y:A a)(h0:H0 a=none)(hu:H a=some u)(ob:OP u)(hn:Own A (upd H a o) d' a) :
  ST H0 A0 A E O σ (upd H a o) (ρ.set i (some d')):=by
 have G:∀b,H0 b≠none->b≠a:=λb hb z=>hb (z ▸ h0)
 refine⟨⟨λb w r=>?_,λb xs k r=>?_,λb w n r=>?_,λb q w r=>?_⟩,s.sub,s.l0,λb hb=>?_,by simp[s.len],λj N h' U=>?_,λj N h' U=>?_,λj k d1 N b hj hk h1 h2 h3 h4=>?_,λp hp=>Fact.put Y hu ob (s.ext p hp)⟩
 ·refine lO (G b ?_) (s.ex.rd b w r)
  rcases r with r|⟨_,r⟩ <;> (rw[r];exact λz=>nomatch z)
 ·rw[aO (G b (by rw[r];exact λz=>nomatch z))];exact s.ex.kp b xs k r
 ·rw[aO (G b (by rw[r];exact λz=>nomatch z))];exact s.ex.ow b w n r
 ·rw[aO (G b (by rw[r];exact λz=>nomatch z))];exact s.ex.fz b q w r
 ·by_cases e:b=a
  ·subst e;rw[aT];exact λz=>nomatch z
  ·rw[aO e];exact s.live b hb
 ·rcases cL h' with⟨e,J,l⟩|⟨e,J⟩
  ·subst e;exact absurd hO U
  ·obtain⟨w,h1,h2⟩:=s.val j N J U
   exact⟨w,h1,h2.put Y hu ob⟩
 ·rcases cL h' with⟨e,J,l⟩|⟨e,J⟩
  ·subst e;cases J;exact⟨a,hs,Y,h0,hn⟩
  ·obtain⟨b,h1,h2,h3,h4⟩:=s.own j N J U
   refine⟨b,h1,h2,h3,h4.put Y hu ob λz=>?_⟩;subst z;exact e (s.inj j i N d b U hO J hi h1 hs)
 ·have W:∀ {j:Nat} {d1:D},(ρ.set i (some d'))[j]?=some (some d1)->∃d0,ρ[j]?=some (some d0):=by
   intro j d1 h;rcases cL h with⟨e,_,_⟩|⟨_,e⟩
   ·subst e;exact⟨d,hi⟩
   ·exact⟨d1,e⟩
  obtain⟨x,hx⟩:=W h1;obtain⟨y,hy⟩:=W h2;exact s.inj j k x y b hj hk hx hy h3 h4
noncomputable def mem(O:List Nat)(i:Nat):Bool:=O.contains i
theorem nU(h:mem O i=true):i∈O:=by simpa[mem]using h
def xD(i:Nat)(f:Ev):Sv:=λρ=>(aH i ρ).bind λx=>match x with
 | .lst l=>(f ρ).bind λd=>if aZ l.length then some (.nx (ρ.set i (some (.lst (l++[d])))))else none
 | _=>none
theorem xJ{o e:Expr}{i:Nat}{apos cpos pos:Pos}{f:Ev}(ho:PE X o (nW i))(he:PD X O e f)(N:mem O i=true)(hp:PE X (.Call (.Attribute o "append" apos) [e] [] cpos) (T5 X.K "list" zC (nW i) (AN (tD Rep O f) OB)))
  (hs:V2 (.Call (.Attribute o "append" apos) [e] [] cpos) none pos.line X.env=pure false:=by rfl) (h:Sub O' O=true:=by rfl):PSD X L O (.Expr (.Call (.Attribute o "append" apos) [e] [] cpos) pos) (xD i f) O':=
 PS.mono (zV hp hs) <| by
  rintro T σ H ⟨H0,A0,A,E,ρ,aa,st,e,p⟩;obtain⟨x,ex,e⟩:=bind_some e;cases x with
  | lst l=>
   obtain⟨d,Y,e⟩:=bind_some e;by_cases z:aZ l.length=true
   ·rw[if_pos z]at e
    cases e;obtain⟨a,J,q,W,e4⟩:=st.own i _ (cV ex) (nU N);cases e4 with
    | lst h4 r4=>
     refine⟨_,J,.inl ⟨rfl,_,SqL.of h4⟩,H0,A0,A,E,ρ,d,st,Y,λv H' x r=>⟨a,_,v,rfl,rfl,x.ow _ _ q h4,by rw[r4.length];exact uK z,?_⟩⟩;have U:=x.ow _ _ q h4;obtain⟨A',G⟩:=((st.mono x).write (o:=.lst _) (cV ex) (nU N) J q W U trivial (.lst aT (((r4.ext x).append (.cons r .nil)).put q U trivial))).shut (Sub.mem h);exact p A' σ _ G
   ·rw[if_neg z]at e;cases e
  | _=>cases e
def RQ:D->Option Key
 | .int i=>some (.inl i)
 | .str x=>some (.inr x)
 | _=>none
def F4:List D->Option (List Key)
 | []=>some []
 | d::ds=>(RQ d).bind λk=>(F4 ds).bind λks=>some (k::ks)
def RY:D->Option (List Key)
 | .tup l=>F4 l
 | _=>none
noncomputable def xC{κ:Type}[DecidableEq κ](l:List (κ×D))(k:κ):Option D:=(l.find? λp=>decide (p.1=k)).map (·.2)
noncomputable def putD{κ:Type}[DecidableEq κ](l:List (κ×D))(k:κ)(d:D):List (κ×D):=if l.any (λp=>decide (p.1=k))then l.map (λp=>if p.1=k then(p.1,d)else p)else l++[(k,d)]
end
section
variable {A:Av}{H:Hp}
section
variable {κ:Type}[DecidableEq κ]
abbrev PP(A:Av)(H:Hp):List (κ×D)->List (κ×V)->Prop:=Paired λ(p:κ×D) (q:κ×V)=>p.1=q.1/\Rep A H p.2 q.2
theorem w6:∀ {l:List (κ×D)} {xs:List (κ×V)},xs.map (·.1)=l.map (·.1)->RepL A H (l.map (·.2)) (xs.map (·.2))->PP A H l xs
 | [],[],_,_=>.nil
 | [],_::_,e,_=>by cases e
 | _::_,[],e,_=>by cases e
 | p::l,q::xs,e,r=>by
  rw[V0,V0]at e r;injection e with e1 e2
  cases r with
  | cons h t=>exact .cons ⟨e1.symm,h⟩ (w6 e2 t)
theorem FR:∀ {l:List (κ×D)} {xs:List (κ×V)},PP A H l xs->xs.map (·.1)=l.map (·.1)/\RepL A H (l.map (·.2)) (xs.map (·.2))
 | _,_,.nil=>⟨rfl,.nil⟩
 | _,_,.cons h t=>by
  obtain⟨e,r⟩:=FR t;exact⟨by rw[V0,V0,h.1,e],.cons h.2 r⟩
theorem FE(k:κ)(h:PP A H l xs):(xC l k=none/\nG xs k=none)\/∃d v,xC l k=some d/\nG xs k=some v/\Rep A H d v:=by
 induction h with
 | nil=>exact .inl ⟨rfl,rfl⟩
 | @cons p q l xs h t ih=>
  by_cases e:p.1=k
  ·refine .inr ⟨p.2,q.2,?_,mT (h.1 ▸ e),h.2⟩
   simp[xC,W1,e]
  ·have G:¬ q.1=k:=λz=>e (h.1.trans z)
   have a:xC (p::l) k=xC l k:=by simp[xC,W1,e]
   rw[a,mU G];exact ih
theorem MV(k:κ)(h:PP A H l xs):(l.any λp=>decide (p.1=k))=xs.any λp=>decide (p.1=k):=by
 induction h with
 | nil=>rfl
 | cons h t ih=>rw[WJ,WJ,ih,h.1]
theorem MZ(k:κ)(r:Rep A H d v)(h:PP A H l xs):PP A H (l.map λp=>if p.1=k then(p.1,d)else p) (xs.map λp=>if p.1=k then(p.1,v)else p):=by
 induction h with
 | nil=>exact .nil
 | @cons p q l xs h t ih=>
  rw[V0,V0];refine .cons ?_ ih;by_cases e:p.1=k
  ·rw[if_pos e,if_pos (h.1 ▸ e)];exact⟨h.1,r⟩
  ·rw[if_neg e,if_neg (λz=>e (h.1.trans z))];exact h
theorem NM(h:PP A H l xs)(h':PP A H m ys):PP A H (l++m) (xs++ys):=by
 induction h with
 | nil=>exact h'
 | cons h t ih=>exact .cons h ih
theorem ER(k:κ)(r:Rep A H d v)(h:PP A H l xs):PP A H (putD l k d) (putK xs k v):=by
 unfold putD putK;rw[MV k h];by_cases e:(xs.any λp=>decide (p.1=k))=true
 ·rw[if_pos e,if_pos e];exact MZ k r h
 ·rw[if_neg e,if_neg e];exact NM h (.cons ⟨rfl,r⟩ .nil)
end
theorem uS(h:RQ d=some k)(r:RepB A H d v):v=kV k:=by
 cases d <;> cases h
 ·exact r.int_inv
 ·exact r.str_inv
theorem v7:∀ {ds:List D} {ks:List Key} {vs:List V},F4 ds=some ks->RepL A H ds vs->vs=ks.map kV
 | _,_,_,h,.nil=>by cases h;rfl
 | _,_,_,h,.cons r t=>by
  obtain⟨k,q,h⟩:=bind_some h;obtain⟨ks,z,h⟩:=bind_some h;cases h;rw[V0,uS q (.of r),v7 z t]
theorem zI(h:RY d=some k)(r:RepB A H d v):∃b,v=.ref b/\H b=some (.tup (k.map kV)):=by
 cases d <;> try cases h
 rename_i l;obtain⟨a,xs,rfl,h1,h2⟩:=r.tup_inv;exact⟨a,rfl,by rw[h1,v7 h h2]⟩
def nD:D->D->Option (Option D)
 | .dK l,k=>(RQ k).map λk=>xC l k
 | .dT l,k=>(RY k).map λk=>xC l k
 | _,_=>none
theorem qF{d k:D}{x y:V}{o:Option D}(h:nD d k=some o)(N:RepB A H d x)(U:RepB A H k y):∃a G,x=.ref a/\UR H a/\DGet H a y G/\((o=none/\G=none)\/∃z v,o=some z/\G=some v/\Rep A H z v):=by
 cases d with
 | dK l=>
  obtain⟨q,J,rfl⟩:=map_some h;obtain⟨a,xs,rfl,h1,e,r⟩:=N.dK_inv;have:=uS J U;subst this;refine⟨a,_,rfl,.inl ⟨xs,h1⟩,.inl ⟨xs,q,h1,rfl,rfl⟩,FE q (w6 e r)⟩
 | dT l=>
  obtain⟨q,J,rfl⟩:=map_some h;obtain⟨a,xs,rfl,h1,e,r⟩:=N.dT_inv;obtain⟨b,rfl,W⟩:=zI J U;exact⟨a,_,rfl,.inr ⟨xs,h1⟩,.inr ⟨xs,q,b,h1,rfl,W,rfl⟩,FE q (w6 e r)⟩
 | _=>cases h
end
section
variable {X:Cx}{O O':List Nat}{L:Lp}
theorem PE.or(h:PE X e t)(k:PE X e u):PE X e (λσ H Q=>t σ H Q\/u σ H Q):=λpins s σ H Q I w=>w.elim (h pins s σ H Q I) (k pins s σ H Q I)
def aP(d k:D):Option D:=match d with
 | .dK _=>(nD d k).join
 | .dT _=>(nD d k).join
 | _=>RT d k
theorem p8{q:Type}{o:Option (Option q)}{d:q}(h:o.join=some d):o=some (some d):=by
 cases o with
 | none=>cases h
 | some o=>cases o with
  | none=>cases h
  | some x=>cases h;rfl
theorem v9{N U:Ev}{σ:L2.St}{H:Hp}{Q:VK}(h:tD Rep O (a6 (λd k=>(nD d k).join) N U) σ H Q):LI (tD RepB O N) (tD RepB O U) σ H Q:=by
 obtain⟨H0,A0,A,E,ρ,d,st,e,q⟩:=h;obtain⟨x,ex,e⟩:=bind_some e;obtain⟨y,ey,e⟩:=bind_some e;refine⟨H0,A0,A,E,ρ,x,st,ex,λv H1 W r1=>⟨H0,A0,A,E,ρ,y,st.mono W,ey,λw H2 Y r2=>?_⟩⟩;obtain⟨a,ov,e1,_,g,G⟩:=qF (p8 e) (r1.ext Y) r2;rcases G with⟨G,_⟩|⟨z,J,G,e3,r3⟩
 ·cases G
 ·cases G;subst e3
  exact⟨a,J,e1,g,q J H2 (W.trans Y) r3⟩
theorem GQ(W:X.A.units+1<cLine)(J:PB X O a fa)(N:PB X O b fb)(hs:uW b):PD X O (.Subscript a b pos) (a6 aP fa fb):=
 PE.mono (PE.or (QK SM J N hs) (IK W J N hs)) <| by
  rintro σ H Q ⟨H0,A0,A,E,ρ,d,st,e,q⟩;obtain⟨x,ex,G⟩:=bind_some e;obtain⟨y,U,G⟩:=bind_some G;have z:∀g:D->D->Option D,g x y=some d->tD Rep O (a6 g fa fb) σ H Q:=λg h=>⟨H0,A0,A,E,ρ,d,st,by unfold a6;rw[ex,U];exact h,q⟩
  cases x with
  | dK l=>exact .inr (v9 (z _ G))
  | dT l=>exact .inr (v9 (z _ G))
  | _=>exact .inl (vG (z RT G))
def w9(d k e:D):Option D:=match d with
 | .dK l=>(RQ k).bind λk=>if aZ l.length then some (.dK (putD l k e))else none
 | .dT l=>(RY k).bind λk=>if aZ l.length then some (.dT (putD l k e))else none
 | .lst l=>(OK k).bind λk=>(GM l.length k).map λj=>.lst (l.set j e)
 | _=>none
def F8(i:Nat)(z q:Ev):Sv:=λρ=>(q ρ).bind λe=>(aH i ρ).bind λx=>(z ρ).bind λk=>(w9 x k e).map λd=>.nx (ρ.set i (some d))
theorem PS.or{st:Stmt}{t u:TS}(h:PS X st t)(k:PS X st u):PS X st (λT σ H=>t T σ H\/u T σ H):=λpins s σ H T I w=>w.elim (h pins s σ H T I) (k pins s σ H T I)
theorem IU{o k value:Expr}{i:Nat}{pos pos':Pos}{fk fe:Ev}(G:X.A.units+1<cLine)(ho:PE X o (nW i))(hk:PB X O k fk)(hv:PD X O value fe)(hO:mem O i=true)(h:Sub O' O=true:=by rfl)
  (hs:V2 value (some (.Subscript o k pos')) pos.line X.env=pure false:=by rfl) (an:ZZ [.Subscript o k pos'] value pos.line X.env=pure false:=by rfl) (hw:Z0 [.Subscript o k pos'] value X.env=pure none:=by rfl)
  (hg:∀ {to ti:TE} {t:GA},PE X o to->PE X k ti->J9 X t->PG X (.Subscript o k pos') (N8 to ti t):=by intro _ _ _ a b c;exact EW a b c) :
  PSD X L O (.Assign [.Subscript o k pos'] value pos) (F8 i fk fe) O':=
 PS.mono (PS.or (HS G ho hk hv hs) (EU hv (hg ho hk set_list) an hw)) <| by
  rintro T σ H ⟨H0,A0,A,E,ρ,az,st,e,p⟩;obtain⟨z,ez,e⟩:=bind_some e;obtain⟨x,ex,e⟩:=bind_some e;obtain⟨y,ey,e⟩:=bind_some e;obtain⟨d,ed,rfl⟩:=map_some e;obtain⟨a,e1,U,e3,e4⟩:=st.own i _ (cV ex) (nU hO);cases x with
  | dK l=>
   obtain⟨kk,e5,N⟩:=bind_some ed;by_cases hz:aZ l.length=true
   ·rw[if_pos hz]at N;cases N
    refine .inl ⟨H0,A0,A,E,ρ,z,st,ez,λv H1 W r1=>⟨_,e1,H0,A0,A,E,ρ,y,st.mono W,ey,λw H2 Y r2=>?_⟩⟩;have q:=W.trans Y;cases e4 with
    | @dK _ _ xs h4 ee r4=>
     have G:=q.ow _ _ U h4;have hl:xs.length=l.length:=by have:=congrArg YX ee;simpa using this
     have:=uS e5 r2;subst this;refine⟨a,_,rfl,DPut.k G (by rw[hl];exact uK hz),?_⟩;obtain⟨e7,r7⟩:=FR (ER kk (r1.ext Y) (w6 ee (r4.ext q)));obtain⟨A',J⟩:=((st.mono q).write (o:=.dK _) (cV ex) (nU hO) e1 U e3 G trivial (.dK aT e7 (r7.put U G trivial))).shut (Sub.mem h);exact p A' σ _ J
   ·rw[if_neg hz]at N;cases N
  | dT l=>
   obtain⟨kk,e5,N⟩:=bind_some ed;by_cases hz:aZ l.length=true
   ·rw[if_pos hz]at N;cases N
    refine .inl ⟨H0,A0,A,E,ρ,z,st,ez,λv H1 W r1=>⟨_,e1,H0,A0,A,E,ρ,y,st.mono W,ey,λw H2 Y r2=>?_⟩⟩;have q:=W.trans Y;cases e4 with
    | @dT _ _ xs h4 ee r4=>
     have G:=q.ow _ _ U h4;have hl:xs.length=l.length:=by have:=congrArg YX ee;simpa using this
     obtain⟨b,rfl,hb⟩:=zI e5 r2;refine⟨a,_,rfl,DPut.t G hb (by rw[hl];exact uK hz),?_⟩;obtain⟨e7,r7⟩:=FR (ER kk (r1.ext Y) (w6 ee (r4.ext q)));obtain⟨A',J⟩:=((st.mono q).write (o:=.dT _) (cV ex) (nU hO) e1 U e3 G trivial (.dT aT e7 (r7.put U G trivial))).shut (Sub.mem h);exact p A' σ _ J
   ·rw[if_neg hz]at N;cases N
  | lst l=>
   obtain⟨kk,e5,N⟩:=bind_some ed;obtain⟨j,e7,rfl⟩:=map_some N;refine .inr ⟨H0,A0,A,E,ρ,z,st,ez,λv H1 W r1=>⟨_,e1,H0,A0,A,E,ρ,y,st.mono W,ey,λw H2 Y r2=>?_⟩⟩;have q:=W.trans Y;cases e4 with
   | @lst _ _ xs h4 r4=>
    have G:=q.ow _ _ U h4;rw[qN e5]at r2;have:=r2.int_inv;subst this;refine⟨a,xs,kk,j,rfl,rfl,G,by rw[r4.length];exact e7,?_⟩;obtain⟨A',J⟩:=((st.mono q).write (o:=.lst _) (cV ex) (nU hO) e1 U e3 G trivial (.lst aT (((r4.ext q).set j (r1.ext Y)).put U G trivial))).shut (Sub.mem h);exact p A' σ _ J
  | _=>cases ed
noncomputable def CT(g:Int->Int->Option D):D->D->Option D
 | .int i,.int j=>g i j
 | _,_=>none
theorem qA(h:CT g x y=some d):∃i j,x=.int i/\y=.int j/\g i j=some d:=by
 cases x <;> cases y <;> first|(cases h;done)|exact⟨_,_,rfl,rfl,h⟩
theorem u7{f:Value->Value->Sem Value}{C:Int->Int->Prop}[∀i j,Decidable (C i j)]{g:Int->Int->Int}(h:OpR X f (rI C λi j=>.int (g i j))):jK X f (CT λi j=>if C i j then some (.int (g i j))else none):=
 OpR.mono h <| by
  rintro x y H Q ⟨A,dx,U,d,W,J,N,e,q⟩;obtain⟨i,j,rfl,rfl,z⟩:=qA e;have:=J.int_inv;subst this;have:=N.int_inv;subst this;by_cases G:C i j
  ·rw[if_pos G]at z;cases z
   exact⟨i,j,rfl,rfl,G,q _ H (Ext.refl _ _) (.int _)⟩
  ·rw[if_neg G]at z;cases z
theorem JT{f:Value->Value->Sem Value}{g:Int->Int->Int}(h:OpR X f (GK λi j=>.int (g i j))):jK X f (CT λi j=>some (.int (g i j))):=
 OpR.mono h <| by
  rintro x y H Q ⟨A,dx,J,d,N,z,G,e,q⟩;obtain⟨i,j,rfl,rfl,e⟩:=qA e;have:=z.int_inv;subst this;have:=G.int_inv;subst this;cases e;exact⟨i,j,rfl,rfl,q _ H (Ext.refl _ _) (.int _)⟩
theorem wM{f:Value->Value->Sem Value}{g:Int->Int->Bool}(h:OpR X f (GK λi j=>.bl (g i j))):jK X f (CT λi j=>some (.bl (g i j))):=
 OpR.mono h <| by
  rintro x y H Q ⟨A,dx,J,d,N,z,G,e,q⟩;obtain⟨i,j,rfl,rfl,e⟩:=qA e;have:=z.int_inv;subst this;have:=G.int_inv;subst this;cases e;exact⟨i,j,rfl,rfl,q _ H (Ext.refl _ _) (.bl _)⟩
instance:∀i j,Decidable (My.y4 i j):=λi j=>by unfold My.y4;infer_instance
instance:∀i j,Decidable (JX i j):=λi j=>by unfold JX;infer_instance
instance:∀i j,Decidable (KM i j):=λi j=>by unfold KM;infer_instance
def Q3:D->D->Option D:=CT λi j=>some (.int (i-j))
def AQ:D->D->Option D:=CT λi j=>if My.y4 i j then some (.int (i*j))else none
def jI:D->D->Option D:=CT λi j=>if 0<j then some (.int (i%j))else none
def oX:D->D->Option D:=CT λi j=>if JX i j then some (.int (i/j))else none
def KD:D->D->Option D:=CT λi j=>if KM i j then some (.int (i^j.toNat))else none
def kD:D->D->Option D:=CT λi j=>some (.bl (decide (j<i)))
def N7:D->D->Option D:=CT λi j=>some (.bl (decide (j<=i)))
theorem E8:jK X (V4 .Sub) Q3:=JT MK
theorem MF:jK X (V4 .Mult) AQ:=u7 My.HA
theorem u9:jK X (V4 .Mod) jI:=u7 LQ
theorem yK:jK X (V4 .FloorDiv) oX:=u7 IX
theorem NY:jK X (V4 .Pow) KD:=u7 NN
theorem KW:jK X (VF .Gt) kD:=wM OW
theorem QL:jK X (VF .GtE) N7:=wM QC
def Q4(f:Ev):Ev:=λρ=>(f ρ).bind λd=>(OK d).map λi=>.int (-i)
theorem M0(G:PB X O a f):PD X O (.UnaryOp .USub a pos) (Q4 f):=PE.mono (OV LU G) <| by
 rintro σ H Q ⟨H0,A0,A,E,ρ,d,st,e,q⟩;obtain⟨x,ex,e⟩:=bind_some e;obtain⟨i,J,rfl⟩:=map_some e;rw[qN J]at ex;exact⟨H0,A0,A,E,ρ,_,st,ex,λv H1 N z=>⟨i,z.int_inv,q _ H1 N (.int _)⟩⟩
end
section
variable {X:Cx}{L:Lp}{O O':List Nat}
def kQ:Sv:=λ_=>none
theorem B7{st:Stmt}:PSD X L O st kQ O':=λ_ _ _ _ _ _ ⟨_,_,_,_,_,_,_,e,_⟩=>nomatch e
abbrev Gv:=D->cX->Option cX
inductive tDG(O:List Nat)(g:Gv)(v:V)(σ:L2.St)(H:Hp)(Q:L2.St->Hp->Prop):Prop
 | mk (H0:Hp) (A0 A:Av) (E:List Fact) (ρ:cX) (d:D) (ρ':cX) (st:ST H0 A0 A E O σ H ρ) (r:Rep A H d v) (e:g d ρ=some ρ') (q:∀σ',ST H0 A0 A E O σ' H ρ'->Q σ' H):tDG O g v σ H Q
def vQ(X:Cx)(O:List Nat)(tg:Expr)(g:Gv):Prop:=PG X tg (tDG O g)
abbrev LN:=List D->cX->Option cX
inductive tDGs(O:List Nat)(g:LN)(vs:List V)(σ:L2.St)(H:Hp)(Q:L2.St->Hp->Prop):Prop
 | mk (H0:Hp) (A0 A:Av) (E:List Fact) (ρ:cX) (ds:List D) (ρ':cX) (st:ST H0 A0 A E O σ H ρ) (r:RepL A H ds vs) (e:g ds ρ=some ρ') (q:∀σ',ST H0 A0 A E O σ' H ρ'->Q σ' H):tDGs O g vs σ H Q
def yW(X:Cx)(O:List Nat)(q:List Expr)(g:LN):Prop:=PGs X q (tDGs O g)
theorem PG.mono(h:PG X tg t)(x:∀v σ H Q,t' v σ H Q->t v σ H Q):PG X tg t':=λpins s σ H v u Q I r w=>h pins s σ H v u Q I r (x v σ H Q w)
theorem PGs.mono(h:PGs X ts t)(x:∀v σ H Q,t' v σ H Q->t v σ H Q):PGs X ts t':=λpins s σ H v u Q I r w=>h pins s σ H v u Q I r (x v σ H Q w)
def aY(i:Nat):Gv:=λd ρ=>some (ρ.set i (some d))
theorem wR(h:PG X tg (nB i))(n:O.contains i=false:=by rfl):vQ X O tg (aY i):=PG.mono h <| by
 rintro v σ H Q ⟨H0,A0,A,E,ρ,d,ρ',st,r,e,q⟩;cases e;exact q _ (st.put r λz=>by
  have:O.contains i=true:=by simpa using z
  rw[n]at this;cases this)
def rH:LN:=λds ρ=>match ds with
 | []=>some ρ
 | _=>none
def d7(g:Gv)(k:LN):LN:=λds ρ=>match ds with
 | d::ds=>(g d ρ).bind λρ'=>k ds ρ'
 | _=>none
theorem DA:yW X O [] rH:=PGs.mono JC <| by
 rintro v σ H Q ⟨H0,A0,A,E,ρ,ds,ρ',st,r,e,q⟩;cases r with
 | nil=>cases e;exact⟨rfl,q _ st⟩
 | cons _ _=>cases e
theorem nL(U:∀ {t:TG} {u:LL},PG X e t->PGs X es u->PGs X (e::es) (LG t u))(h1:vQ X O e g)(h2:yW X O es k):yW X O (e::es) (d7 g k):=
 PGs.mono (U h1 h2) <| by
  rintro v σ H Q ⟨H0,A0,A,E,ρ,ds,ρ',st,r,e,q⟩;cases r with
  | nil=>cases e
  | cons h t=>
   obtain⟨z,J,e⟩:=bind_some e;exact⟨_,_,rfl,H0,A0,A,E,ρ,_,z,st,h,J,λN G=>⟨H0,A0,A,E,z,_,ρ',G,t,e,q⟩⟩
def nC(n:Nat)(k:LN):Gv:=λd ρ=>match d with
 | .tup l=>if l.length=n then k l ρ else none
 | _=>none
theorem HF(J:PG X tg (Q5 X.K n (tDGs O k))):vQ X O tg (nC n k):=PG.mono J <| by
 rintro v σ H Q ⟨H0,A0,A,E,ρ,d,ρ',st,r,e,q⟩;cases d with
 | tup l=>
  obtain⟨a,xs,rfl,h,G⟩:=RepB.tup_inv (.of r);by_cases z:l.length=n
  ·simp only[nC,if_pos z]at e
   exact⟨a,xs,rfl,.inl (.inl h),by rw[G.length];exact z,H0,A0,A,E,ρ,l,ρ',st,G,e,q⟩
  ·simp only[nC,if_neg z]at e;cases e
 | _=>cases e
def N9(f:Ev)(g:Gv):Sv:=λρ=>(f ρ).bind λd=>(g d ρ).map .nx
theorem mY(W:PD X O e f)(U:vQ X O tg g)(hs:ZZ [tg] e pos.line X.env=pure false:=by rfl)(hw:Z0 [tg] e X.env=pure none:=by rfl)(h:Sub O' O=true:=by rfl)(h1:(WF [tg] X.env).map (·.2)=[WO tg X.env]:=by rfl)(h1:(WF [tg] X.env).map (·.2)=[WO tg X.env]:=by rfl)(h1:(WF [tg] X.env).map (·.2)=[WO tg X.env]:=by rfl)(h1:(WF [tg] X.env).map (·.2)=[WO tg X.env]:=by rfl):PSD X L O (.Assign [tg] e pos) (N9 f g) O':=
 PS.mono (EU W U hs hw h1) <| by
  rintro T σ H ⟨H0,A0,A,E,ρ,J,st,e,p⟩;obtain⟨d,N,e⟩:=bind_some e;obtain⟨ρ',Y,rfl⟩:=map_some e;refine⟨H0,A0,A,E,ρ,d,st,N,λv H' x r=>⟨H0,A0,A,E,ρ,d,ρ',st.mono x,r,Y,λz G=>?_⟩⟩;obtain⟨A',q⟩:=G.shut (Sub.mem h);exact p A' z H' q
def CN(J:It)(q:List Fact)(items:List D):Prop:=
 ∀(A:Av) (H:Hp),Live A H->(∀p∈q,p.Holds A H)->∀i,(items.length<=i->J.stop i H)/\∀d,items[i]?=some d->J.go i H/\∀x H',J.yld i H x H'->Ext A H H'/\Rep A H' d x
inductive tDI(O:List Nat)(f:Lv)(σ:L2.St)(H:Hp)(R:It->Hp->Prop):Prop
 | mk (H0:Hp) (A0 A:Av) (E:List Fact) (ρ:cX) (items:List D) (st:ST H0 A0 A E O σ H ρ) (e:f ρ=some items) (q:∀J H' E1,Ext A H H'->(∀p∈E1,p.Holds A H')->CN J E1 items->R J H'):tDI O f σ H R
def PDI(X:Cx)(O:List Nat)(tg e:Expr)(f:Lv):Prop:=PI X tg e (tDI O f)
theorem PI.mono(h:PI X tg e t)(x:∀σ H Q,t' σ H Q->t σ H Q):PI X tg e t':=λpins s σ H Q I w=>h pins s σ H Q I (x σ H Q w)
theorem PI.or(h:PI X tg e t)(k:PI X tg e u):PI X tg e (λσ H Q=>t σ H Q\/u σ H Q):=λpins s σ H Q I w=>w.elim (h pins s σ H Q I) (k pins s σ H Q I)
theorem IM{a:Addr}{l:List D}{K:U3}:CN (TX K a) [.rep (.lst l) (.ref a)] l:=by
 intro A H N h i;have r:Rep A H (.lst l) (.ref a):=h _ (List.mem_singleton.mpr rfl);obtain⟨U,xs,e,h1,q⟩:=RepB.lst_inv (.of r);cases e;refine⟨λhi=>⟨xs,.inl h1,by rw[q.length];exact hi⟩,λd J=>?_⟩;obtain⟨v,z,G⟩:=q.get' J;refine⟨⟨xs,v,.inl h1,z⟩,λx H' y=>?_⟩;obtain⟨rfl,y⟩:=y;have:=y xs (.inl h1);rw[z]at this;cases this;exact⟨Ext.refl _ _,G⟩
theorem N2{a:Addr}{l:List D}{K:U3}:CN (TU K a) [.rep (.tup l) (.ref a)] l:=by
 intro A H N h i;have r:Rep A H (.tup l) (.ref a):=h _ (List.mem_singleton.mpr rfl);obtain⟨U,xs,e,h1,q⟩:=RepB.tup_inv (.of r);cases e;refine⟨λhi=>⟨xs,.inl (.inl h1),by rw[q.length];exact hi⟩,λd J=>?_⟩;obtain⟨v,z,G⟩:=q.get' J;refine⟨⟨xs,v,.inl (.inl h1),z⟩,λx H' y=>?_⟩;obtain⟨rfl,y⟩:=y;have:=y xs (.inl (.inl h1));rw[z]at this;cases this;exact⟨Ext.refl _ _,G⟩
noncomputable def bH(lo c:Int)(n:Nat):List D:=(VO n).map λ(i:Nat)=>.int (lo+(i:Int)*c)
theorem b9(lo c:Int)(n:Nat):(bH lo c n).length=n:=by simp[bH]
theorem eE{lo c:Int}{n i:Nat}(h:(bH lo c n)[i]?=some d):i<n/\d=.int (lo+(i:Int)*c):=by
 unfold bH at h;rw[VM]at h;by_cases hi:i<n
 ·rw[zaV hi]at h;cases h;exact⟨hi,rfl⟩
 ·rw[List.getElem?_eq_none (by simpa using hi)]at h;cases h
theorem D3{lo:Int}{n:Nat}:CN (RU lo n) [] (bH lo 1 n):=by
 intro A H z h i;refine⟨λhi=>by rw[b9]at hi;exact hi,λd q=>?_⟩;obtain⟨hi,rfl⟩:=eE q;exact⟨hi,λx H' ⟨e,y⟩=>by subst e y;rw[Int.mul_one];exact⟨Ext.refl _ _,.int _⟩⟩
noncomputable def gQ(i:Int):Bool:=decide (-1000000<=i) && decide (i<=1000000)
def dH:List D->Option (List D)
 | [.int j]=>if gQ j then some (bH 0 1 j.toNat)else none
 | _=>none
theorem qD(h:gQ i=true):-(2^62)<=i/\i<2^62:=by
 simp only[gQ,WD,decide_eq_true_eq]at h
 lia
def lR(g:List D->Option (List D))(f:Lv):Lv:=λρ=>(f ρ).bind g
theorem RL.one(r:RL R A H [d] vs):∃v,vs=[v]/\R A H d v:=by
 cases r with|cons h t=>cases t;exact⟨_,rfl,h⟩
theorem RL.two(r:RL R A H [d,e] vs):∃v w,vs=[v,w]/\R A H d v/\R A H e w:=by
 cases r with|cons h t=>obtain⟨w,rfl,h2⟩:=RL.one t;exact⟨_,w,rfl,h,h2⟩
theorem uB(h:dH ds=some l):∃j,ds=[.int j]/\gQ j=true/\l=bH 0 1 j.toNat:=by
 unfold dH at h;split at h
 ·split at h
  ·cases h;exact⟨_,rfl,by assumption,rfl⟩
  ·cases h
 ·cases h
section
variable {tg a b c:Expr}{f:Lv}{p pos:Pos}
theorem xG(U:Gl X "range")(G:X.mg "range" = none)(z:t6 X O [a] f)(hs:U8 [a] X.env=[(false,eval a X.env)]:=by rfl):PDI X O tg (.Call (.Name "range" p) [a] [] pos) (lR dH f):=PI.mono (BR U G z hs) <| by
 rintro σ H R ⟨H0,A0,A,E,ρ,items,st,e,q⟩;obtain⟨ds,N,e⟩:=bind_some e;refine⟨H0,A0,A,E,ρ,ds,st,N,λvs H1 W J=>?_⟩;obtain⟨j,rfl,h,rfl⟩:=uB e;obtain⟨v,rfl,h1⟩:=J.one;have:=h1.int_inv;subst this;exact⟨j,rfl,(qD h).1,(qD h).2,q _ H1 [] W (λ_ h=>nomatch h) D3⟩
end
def CM:Key->D
 | .inl i=>.int i
 | .inr x=>.str x
def F7(f:Ev):Lv:=λρ=>(f ρ).bind λd=>match d with
 | .lst l=>some l
 | .tup l=>some l
 | .dT l=>some (l.map λp=>.tup (p.1.map CM))
 | _=>none
theorem qR:∀k:List Key,RepL A H (k.map CM) (k.map kV)
 | []=>.nil
 | .inl i::k=>.cons (.int i) (qR k)
 | .inr x::k=>.cons (.str x) (qR k)
def MY(tl:TE):TI:=λσ H R=>tl σ H λx H1=>∃d kvs,x=.ref d/\((H1 d=some (.dT kvs)/\∀o,R (My.RE d o kvs) (upd H1 d (.frz o (.dT kvs))))\/∃o,H1 d=some (.frz o (.dT kvs))/\R (My.RE d o kvs) H1)
theorem EC(hl:PE X l tl):PI X tg l (MY tl):=by
 intro pins s σ H R I h;refine b7 (hl pins s σ H _ I h) λv z ⟨x,H1,W,G,q1⟩=>?_
 obtain⟨d,kvs,rfl,q⟩:=q1;cases G;have N:∀(o:Obj) (H2:Hp),(d == XA)=false->Inv X pins σ H2 z->z.heap.get? d=some o->ObjOk X.prog X.w H2 z.heap d (.dT kvs)->R (My.RE d o kvs) H2->wpAny (model X.prog X.w) X.A (pyIter (.ref d)) (PIE X pins σ tg R) X.xe z:=λo H2 lo J ho ok q=>by
  obtain⟨_,_,es,ep,⟨o',G,r2,r3⟩,U,_⟩:=My.rB ok;rw[ho]at G;cases G;refine My.D4 lo ⟨o,ho,r2,r3⟩ ?_;refine⟨z.heap.objs.size,[z.heap.objs.size],_,_,_,rfl,J.kept (t':=z.toks) λb o e=>VI _ e,My.BW d _ o kvs es ep r3 U,⟨_,V3 _ rfl,rfl,rfl⟩,λb hb=>?_,q⟩;have e:b=z.heap.objs.size:=by simpa using hb
  subst e;exact J.fpOk (VG _) (J.hok.fresh (VG _))
 rcases q with⟨Y,q⟩|⟨o,Y,q⟩
 ·have ok:=(show ObjOk X.prog X.w H1 z.heap d (.dT kvs)from W.hok d _ Y)
  obtain⟨lo,_,es,ep,⟨o,G,r2,r3⟩,U,_⟩:=My.rB ok;have J:=My.xW W Y G;have aa:=(show ObjOk X.prog X.w _ z.heap d (.frz o (.dT kvs))from J.hok d _ aT);exact N o _ lo J G aa.2 (q o)
 ·have ok:=(show ObjOk X.prog X.w H1 z.heap d (.frz o (.dT kvs))from W.hok d _ Y)
  obtain⟨lo,_⟩:=My.rB ok.2;exact N o H1 lo W ok.1 ok.2 q
theorem AF{a:Addr}{o:Obj}{xs:List (List Key×V)}{l:List (List Key×D)}(e:xs.map (·.1)=l.map (·.1)):CN (My.RE a o xs) [.fz a o (.dT xs)] (l.map λp=>.tup (p.1.map CM)):=by
 intro A H lv h i;have q:H a=some (.frz o (.dT xs)):=h _ (List.mem_singleton.mpr rfl);have Y:xs.length=l.length:=by have:=congrArg YX e;simpa using this
 refine⟨λhi=>⟨q,by rw[VL]at hi;lia⟩,λd G=>?_⟩;rw[VM]at G;obtain⟨p,z,rfl⟩:=map_some G;have hi:i<l.length:=(List.getElem?_eq_some_iff.mp z).1;refine⟨⟨q,by lia⟩,λx H' ⟨W,k,v,b,J,U,N⟩=>?_⟩;subst W U;have:k=p.1:=by
  have h1:(xs.map (·.1))[i]?=some k:=by rw[VM,J];rfl
  rw[e,VM,z]at h1;exact(VX h1).symm
 subst this;exact⟨Ext.refl _ _,.tup N (qR _)⟩
theorem JS(n:¬ A d)(G:H d=some u)(ob:OP u)(N:¬ Kp u):Ext A H (upd H d (.frz o u)) where
 rd:=λb w r=>by
  by_cases e:b=d
  ·subst e
   rcases r with r|⟨q,r⟩
   ·rw[G]at r;cases r;exact .inr ⟨o,aT⟩
   ·rw[G]at r;cases r;exact ob.elim
  ·exact lO e r
 kp:=λb w k r=>by rw[aO (λz=>by subst z;rw[G]at r;cases r;exact N k)];exact r
 ow:=λb w J r=>by rw[aO (λz=>n (by rw[<- z];exact J))];exact r
 fz:=λb q w r=>by rw[aO (λz=>by subst z;rw[G]at r;cases r;exact ob)];exact r
theorem JH(h:PD X O e f):PDI X O tg e (F7 f):=PI.mono (PI.or (PI.or (IF h) (MI h)) (EC h)) <| by
 rintro σ H R ⟨H0,A0,A,E,ρ,items,st,e,q⟩;obtain⟨d,U,e⟩:=bind_some e;cases d with
 | lst l=>
  cases e;refine .inl (.inl ⟨H0,A0,A,E,ρ,_,st,U,λv H1 N G=>?_⟩);obtain⟨a,xs,rfl,h1,W⟩:=RepB.lst_inv (.of G);exact⟨a,rfl,⟨xs,.inl h1⟩,q _ H1 [.rep (.lst items) (.ref a)] N (λp J=>by rw[List.mem_singleton.mp J];exact G) IM⟩
 | tup l=>
  cases e;refine .inl (.inr ⟨H0,A0,A,E,ρ,_,st,U,λv H1 N G=>?_⟩);obtain⟨a,xs,rfl,h1,W⟩:=RepB.tup_inv (.of G);exact⟨a,rfl,⟨xs,.inl (.inl h1)⟩,q _ H1 [.rep (.tup items) (.ref a)] N (λp J=>by rw[List.mem_singleton.mp J];exact G) N2⟩
 | dT l=>
  cases e;refine .inr ⟨H0,A0,A,E,ρ,_,st,U,λv H1 N G=>?_⟩;cases G with
  | @dT _ a xs n h ee W=>
   refine⟨a,xs,rfl,?_⟩;rcases h with h|⟨o,h⟩
   ·refine .inl ⟨h,λo=>q _ _ [.fz a o (.dT xs)] (N.trans (JS n h trivial λz=>z)) (λp J=>by rw[List.mem_singleton.mp J];exact aT) (AF ee)⟩
   ·exact .inr ⟨o,h,q _ H1 [.fz a o (.dT xs)] N (λp J=>by rw[List.mem_singleton.mp J];exact h) (AF ee)⟩
 | _=>cases e
def kS(g:Gv)(body:Sv):List D->cX->Option Out
 | [],ρ=>some (.nx ρ)
 | x::xs,ρ=>(g x ρ).bind λρ1=>(body ρ1).bind λo=>match o with
  | .nx ρ2=>kS g body xs ρ2
  | .ct ρ2=>kS g body xs ρ2
  | .bk ρ2=>some (.nx ρ2)
  | .rt d=>some (.rt d)
def y2(f:Lv)(g:Gv)(q:Sv):Sv:=λρ=>(f ρ).bind λitems=>kS g q items ρ
theorem ST.both(s:ST H0 A0 A E O σ H ρ)(h:∀p∈E1,p.Holds A H):ST H0 A0 A (E1++E) O σ H ρ:=
 {s with ext:=λp q=>by rcases List.mem_append.mp q with e|e;exact h p e;exact s.ext p e}
theorem HH(hp:YA (model X.prog X.w) X.A X.env X.xe)(hc:X.calm=true)(hi:PDI X O tg iter f)(hg:vQ X O1 tg g)(hb:PSDs X ⟨Ob,O1⟩ O1 body b O1)(h1:Sub O1 O=true)(h2:Sub O' O1=true)(h3:Sub O' Ob=true)
  (hs:∀x,WY iter X.env x=pure x:=by intro _;rfl):PSD X L O (.For tg iter body [] pos) (y2 f g b) O':=PS.mono (ES hp hc hi hg hb hs) λT σ H ⟨H0,A0,A,E,ρ,ac,st,e,p⟩=>by
 obtain⟨items,e1,e⟩:=bind_some e;refine⟨H0,A0,A,E,ρ,items,st,e1,λJ H1 W x1 af J1=>?_⟩;obtain⟨A1,ae⟩:=((st.mono x1).both af).shut (Sub.mem h1);refine⟨λi m σ H=>m=items.length-i/\i<=items.length/\∃ρ A,ST H0 A0 A (W++E) O1 σ H ρ/\kS g b (items.drop i) ρ=some ac,⟨items.length,by simp,XN _,ρ,A1,ae,e⟩,?_⟩;rintro i m σ H ⟨rfl,a8,ρ,A,st,e⟩;have hE:∀p∈W,p.Holds A H:=λp hp=>st.ext p (WX _ hp)
 obtain⟨ab,go⟩:=J1 A H st.live hE i;have fin:∀ {O2:List Nat} {A:Av} {σ:L2.St} {H:Hp} {ρ:cX},Sub O' O2=true->ST H0 A0 A (W++E) O2 σ H ρ->(∀A σ H,ST H0 A0 A E O' σ H ρ->T.nx σ H)->T.nx σ H:=λhs st k=>by
  obtain⟨G,ah⟩:=(st.less (E':=E) λq hq=>WM _ hq).shut (Sub.mem hs);exact k G _ _ ah
 by_cases U:i<items.length
 ·have ed:items[i]?=some items[i]:=by simp[U]
  obtain⟨aj,hy⟩:=go _ ed;rw[ZM U]at e;obtain⟨ad,eg,e⟩:=bind_some e;obtain⟨o,eo,e⟩:=bind_some e;refine .inr ⟨aj,λY H'=>∃z G,ST H0 A0 G (W++E) O1 Y H' z/\kS g b (items.drop (i+1)) z=some ac,λY H' ⟨z,G,N,e2⟩=>⟨items.length-(i+1),by lia,rfl,U,z,G,N,e2⟩,λx H' y=>?_⟩;obtain⟨x2,r2⟩:=hy x H' y;refine⟨H0,A0,A,W++E,ρ,_,ad,st.mono x2,r2,eg,λa4 s1=>⟨H0,A0,A,W++E,ad,o,s1,eo,?_⟩⟩;cases o with
  | nx z=>exact λG aa H2 N=>⟨z,G,N,e⟩
  | ct z=>exact λG aa H2 N=>⟨z,G,N,e⟩
  | bk z=>cases e;exact λG aa H2 N=>fin h3 N p
  | rt d=>cases e;exact p
 ·have ai:i=items.length:=by lia
  subst ai;rw[zaW]at e;cases e;exact .inl ⟨ab (VG _),fin h2 st p⟩
end
noncomputable def iB(cells:List (Str×Addr)):List (Str×XF)->List (Str×Addr)->List (Str×Addr)
 | [],cs=>cs
 | (x,k)::r,cs=>iB cells r (if k == .free then(x,(cells.lookup x).getD 0)::cs else cs)
theorem sX:∀(names:List (Str×XF)) (q:List (Str×Addr)),(∀y∈names,y.2=.free->∃c,env.cells.lookup y.1=some c)->
  (forIn names q (λ(p:Str×XF) (r:List (Str×Addr))=>if(p.2 == .free)=true then(do let c <- cellOf env p.1;pure (Y3 ((p.1,c)::r)))else(pure (Y3 r):Sem _)))=(pure (iB env.cells names q):Sem _)
 | [],q,_=>by simp[iB]
 | (x,k)::r,q,h=>by
  have ih:=λq=>sX r q λy G=>h y (VW _ G)
  rw[List.forIn_cons];by_cases e:(k == XZ)=true
  ·have J:k=.free:=by simpa using e
   obtain⟨c,N⟩:=h (x,k) (VR ..) J;have z:env.cells.lookup x=some c:=N;simp only[e,if_true,iB];have:cellOf env x=pure c:=by unfold cellOf;rw[z]
   rw[this];simp only[pure_bind,z,Option.getD_some];exact ih _
  ·simp only[e,iB]
   simp only[zal,if_false,pure_bind];exact ih _
theorem GR(h:∀y∈scope.names,y.2=.free->∃c,env.cells.lookup y.1=some c):closureFor scope env=pure (iB env.cells scope.names []):=by
 have:=sX scope.names [] h;unfold closureFor;simp only[bind_pure];exact this
theorem wN:∀ {names:List (Str×XF)} {cs:List (Str×Addr)} {c:Addr},(iB cells names cs).lookup x=some c->(∃q,cs.lookup x=some q/\c=q)\/((x,XZ)∈names/\c=(cells.lookup x).getD 0)
 | [],cs,c,h=>.inl ⟨c,h,rfl⟩
 | (y,k)::r,cs,c,h=>by
  rw[iB]at h;rcases wN h with⟨q,h1,h2⟩|⟨h1,h2⟩
  ·by_cases e:(k == XZ)=true
   ·rw[if_pos e,YS]at h1
    by_cases ex:(x == y)=true
    ·rw[ex]at h1
     have z:x=y:=by simpa using ex
     have G:k=.free:=by simpa using e
     subst z G;cases h1;exact .inr ⟨VR ..,h2⟩
    ·rw[Y4]at ex
     rw[ex]at h1;exact .inl ⟨q,h1,h2⟩
   ·rw[if_neg e]at h1
    exact .inl ⟨q,h1,h2⟩
  ·exact .inr ⟨VW _ h1,h2⟩
theorem wV:∀ {names:List (Str×XF)} {cs:List (Str×Addr)},((x,XZ)∈names\/∃c,cs.lookup x=some c)->∃c,(iB cells names cs).lookup x=some c
 | [],cs,h=>h.elim (λh=>nomatch h) id
 | (y,k)::r,cs,h=>by
  rw[iB];apply wV;rcases h with h|⟨c,h⟩
  ·rcases List.mem_cons.mp h with e|e
   ·cases e
    refine .inr ⟨(cells.lookup x).getD 0,?_⟩;simp[YS]
   ·exact .inl e
  ·right
   by_cases e:(k == XZ)=true
   ·rw[if_pos e,YS]
    by_cases ex:(x == y)=true
    ·rw[ex];exact⟨_,rfl⟩
    ·rw[Y4]at ex;rw[ex];exact⟨c,h⟩
   ·rw[if_neg e];exact⟨c,h⟩
theorem fU{q:Type}{v:q}:∀ {l:List (Str×q)},l.lookup x=some v->(x,v)∈l
 | (y,w)::r,h=>by
  rw[YS]at h;by_cases ex:(x == y)=true
  ·rw[ex]at h;cases h;rw[show x=y by simpa using ex];exact VR ..
  ·rw[Y4]at ex;rw[ex]at h;exact VW _ (fU h)
noncomputable def AW(names outer:List (Str×XF)):Bool:=
 names.all λy=>y.2 != .cell && (y.2 != .local || names.lookup y.1 == some .local) && (y.2 != .free || outer.lookup y.1 == some .cell)
theorem yT{X:Cx}{N:List Str}{scope:Scope}{n:Nat}(hk:scope.kind=.function)(h:AW scope.names X.env.scope.names=true)(hc:X.env.cells=YH n X.env.scope.names []):My.Clo X N scope (iB X.env.cells scope.names []):=by
 have h':=List.all_eq_true.mp h;have c1:∀y∈scope.names,y.2≠.cell:=λy J=>by
  have:=h' y J;simp only[WD]at this;simpa using this.1.1
 have c2:∀y∈scope.names,y.2=.local->scope.names.lookup y.1=some .local:=λy J e=>by
  have:=h' y J;simp only[WD,Bool.or_eq_true]at this;rcases this.1.2 with z|z
  ·rw[e]at z;exact absurd z (by decide)
  ·simpa using z
 have c3:∀y∈scope.names,y.2=.free->∃c,X.env.cells.lookup y.1=some c:=λy J e=>by
  have:=h' y J;simp only[WD,Bool.or_eq_true]at this;rcases this.2 with z|z
  ·rw[e]at z;exact absurd z (by decide)
  ·rw[hc];exact qI (sc:=X.env.scope) (by simpa using z)
 have G:∀x,((W2 scope X.env).names.lookup x=some .cell\/(W2 scope X.env).names.lookup x=some .free)->(x,XZ)∈scope.names:=λx W=>by
  have Y:∀k',(k'=NameKind.cell\/k'=XZ)->(x,k')∈(W2 scope X.env).names->(x,XZ)∈scope.names:=λk' ab hm=>by
   obtain⟨⟨y,k⟩,J,e⟩:=List.mem_map.mp hm;dsimp only at e;by_cases q:(k == XZ && X.env.scope.kind == .function && X.env.kindOf y == some .cell)=true
   ·rw[if_pos q]at e
    have:k=.free:=by simp only[WD]at q;simpa using q.1.1
    cases e;subst this;exact J
   ·rw[if_neg q]at e
    cases e;rcases ab with z|z
    ·exact absurd z (c1 _ J)
    ·subst z;exact J
  rcases W with W|W
  ·exact Y _ (.inl rfl) (fU W)
  ·exact Y _ (.inr rfl) (fU W)
 refine⟨GR c3,hk,c1,c2,λx c e=>?_,λx W=>wV (.inl (G x W))⟩;rcases wN e with⟨c',z,_⟩|⟨z1,z2⟩
 ·cases z
 ·obtain⟨c0,U⟩:=c3 _ z1 rfl
  have U:X.env.cells.lookup x=some c0:=U;rw[z2,U];rfl
noncomputable def d5(X:Cx)(scope:Scope):List Str->List (Option Nat)->Prop
 | [],[]=>True
 | _::N,none::ms=>d5 X scope N ms
 | x::N,some i::ms=>(X.N[i]?=some x/\((W2 scope X.env).names.lookup x == some NameKind.local)=false/\(X.env.kindOf x=some .cell\/X.env.kindOf x=some .free))/\d5 X scope N ms
 | _,_=>False
noncomputable def g6{q:Type}(ms:List (Option Nat))(σ:List (Option q)):List (Option q):=ms.map λo=>o.bind λi=>(σ[i]?).join
theorem jU:∀ {N:List Str} {ms:List (Option Nat)},d5 X scope N ms->ms.length=N.length/\∀(j:Nat) (x:Str) (i:Nat),N[j]?=some x->ms[j]?=some (some i)->X.N[i]?=some x/\(W2 scope X.env).names.lookup x≠some .local/\(X.env.kindOf x=some .cell\/X.env.kindOf x=some .free)
 | [],[],_=>⟨rfl,λj x i h _=>by simp at h⟩
 | y::N,none::ms,h=>by
  obtain⟨l,g⟩:=jU (N:=N) (ms:=ms) h;refine⟨by simp[l],λj x i h1 h2=>?_⟩;cases j with
  | zero=>simp at h2
  | succ j=>exact g j x i (by simpa using h1) (by simpa using h2)
 | y::N,some k::ms,h=>by
  obtain⟨l,g⟩:=jU (N:=N) (ms:=ms) h.2;refine⟨by simp[l],λj x i h1 h2=>?_⟩;cases j with
  | zero=>simp at h1 h2;subst h1 h2;exact⟨h.1.1,λz=>by have:=h.1.2.1;rw[z]at this;exact absurd this (by decide),h.1.2.2⟩
  | succ j=>exact g j x i (by simpa using h1) (by simpa using h2)
 | [],_::_,h=>h.elim
 | _::_,[],h=>h.elim
theorem zK{q:Type}{ms:List (Option Nat)}{σ:List (Option q)}{j:Nat}{v:q}(h:(g6 ms σ)[j]?=some (some v)):∃i:Nat,ms[j]?=some (some i)/\σ[i]?=some (some v):=by
 unfold g6 at h;rw[VM]at h;obtain⟨o,G,z⟩:=map_some h;cases o with
 | none=>cases z
 | some i=>exact⟨i,G,p8 z⟩
theorem CV{N:List Str}{ms:List (Option Nat)}(h:d5 X scope N ms)(σ:L2.St):My.Start X N scope σ (g6 ms σ):=by
 obtain⟨l,g⟩:=jU h;refine⟨by unfold g6;rw[VL];exact l,λj x v h1 h2 _=>?_⟩;obtain⟨i,q,z⟩:=zK h2;obtain⟨a,b,c⟩:=g j x i h1 q;exact⟨b,i,a,z,c⟩
theorem ST.inner{E:List Fact}{O:List Nat}(s:ST H0 A0 A E O σ H ρ)(ms:List (Option Nat))(n:∀i,some i∈ms->i∉O):ST H0 A0 A E [] (g6 ms σ) H (g6 ms ρ) where
 ex:=s.ex
 sub:=s.sub
 l0:=s.l0
 live:=s.live
 len:=by simp[g6]
 val:=λj d h _=>by
  obtain⟨i,q,G⟩:=zK h;obtain⟨v,z,r⟩:=s.val i d G (n i (WR q));refine⟨v,?_,r⟩;unfold g6;rw[VM,q];show some ((σ[i]?).join)=_;rw[z];rfl
 own:=λj d _ h=>nomatch h
 inj:=λi j d d' a hi=>nomatch hi
 ext:=s.ext
def bA(g:Gv)(c:Bv)(f:Ev):List D->cX->Option (List D)
 | [],_=>some []
 | x::xs,ρ=>(g x ρ).bind λρ1=>(c ρ1).bind λb=>if b=true then(f ρ1).bind λd=>(bA g c f xs ρ1).bind λds=>some (d::ds)else bA g c f xs ρ1
def m9(ms:List (Option Nat))(it:Lv)(g:Gv)(c:Bv)(f:Ev):Ev:=λρ=>(it ρ).bind λitems=>if aZ items.length then(bA g c f items (g6 ms ρ)).map .lst else none
def gG:Bv:=λ_=>some true
theorem DY:My.AZ X [] (tDT O gG):=λpins s σ H Q I ⟨H0,A0,A,E,ρ,b,st,e,q⟩=>My.HW pins s σ H Q I (by cases e;exact q H (Ext.refl _ _))
theorem D8(h:oR X O c g):My.AZ X [c] (tDT O g):=My.G8 h
section
variable {X:Cx}{O:List Nat}
theorem qQ(a8:d5 X scope N ms)(hn:(ms.all λo=>match o with|some i=>!O.contains i|none=>true)=true)(σ:L2.St)(H:Hp)(Q:VK) :
  tF O (m9 ms it g c f) σ H Q->My.FS (tDI O it) (tDG [] g) (tDT [] c) (tD Rep [] f) (My.Start X N scope) σ H Q:=λ⟨H0,A0,A,E,ρ,d,st,e,q⟩=>by
 obtain⟨items,e1,e⟩:=bind_some e;by_cases hz:aZ items.length=true
 case neg=>rw[if_neg hz]at e;cases e
 rw[if_pos hz]at e;obtain⟨ds,e2,rfl⟩:=map_some e;have ba:∀i,some i∈ms->i∉O:=λi hi z=>by
  have:=List.all_eq_true.mp hn _ hi;simp only[zaX]at this;have z':O.contains i=true:=by simpa using z
  rw[z']at this;cases this
 refine⟨g6 ms σ,CV a8 σ,H0,A0,A,E,ρ,items,st,e1,λJ H1 E1 x1 a1 J1 D hD=>?_⟩;have a3:=(st.mono x1).live;have nA:¬ A D:=λz=>a3 D z hD
 have n0:H D=none:=x1.free hD
 -- the state of the block: the list that grows stands outside all that is borne
 refine⟨λi m aq us H2=>m=items.length-i/\i<=items.length/\∃ae G rest,ST H0 A0 (λb=>A b\/b=D) (E1++E) [] aq H2 ae/\H2 D=some (.lst us)/\Ext A H H2/\RepL (λb=>A b\/b=D) H2 G us/\bA g c f (items.drop i) ae=some rest/\G++rest=ds/\G.length<=i,⟨items.length,by simp,XN _,g6 ms ρ,[],ds,?_,aT,x1.trans (Ext.new hD),.nil,e2,rfl,VG _⟩,?_⟩
 ·have s1:=((st.mono x1).both a1).inner ms ba
  have up:∀a,(A a\/a=D)->A a\/H1 a=none:=λa W=>W.imp id λz=>by rw[z];exact hD
  refine⟨s1.ex.trans (Ext.new hD),λa W=>.inl (s1.sub a W),s1.l0,λa W=>?_,s1.len,λi d h n=>?_,(λi d _ h=>nomatch h),(λi j d d' a hi=>nomatch hi),λp hp=>Fact.ext (Ext.new hD) (Fact.av up (s1.ext p hp))⟩
  ·rcases W with W|W
   ·rw[aO (λz=>by subst z;exact nA W)];exact s1.live a W
   ·subst W;rw[aT];exact λz=>nomatch z
  ·obtain⟨v,h1,h2⟩:=s1.val i d h n
   exact⟨v,h1,(h2.av up).ext (Ext.new hD)⟩
 ·rintro i m aq us H2 ⟨rfl,ca,ae,G,rest,s2,al,x2,af,Y,ed,bc⟩
  obtain⟨ar,go⟩:=J1 _ H2 s2.live (λp hp=>s2.ext p (WX _ hp)) i;by_cases ab:i<items.length
  ·have eg:items[i]?=some items[i]:=by simp[ab]
   obtain⟨bh,hy⟩:=go _ eg;rw[ZM ab]at Y;obtain⟨aa,e3,Y⟩:=bind_some Y;obtain⟨b,e4,Y⟩:=bind_some Y;have an:us.length<VA:=by
    rw[af.length];exact zaR bc (V9 ab (i6 hz))
   refine .inr ⟨bh,an,λx H3 y=>?_⟩;obtain⟨x3,r3⟩:=hy x H3 y;refine⟨H0,A0,_,E1++E,ae,_,aa,s2.mono x3,r3,e3,λb4 s3=>⟨H0,A0,_,E1++E,aa,b,s3,e4,λH5 x5=>?_⟩⟩;have ah:=x3.trans x5;have au:H5 D=some (.lst us):=ah.ow D _ (.inr rfl) al;have as:Ext A H H5:=x2.trans (ah.mono λa W=>.inl W);cases b with
   | false=>
    rw[if_neg VH]at Y;exact TK ⟨au,items.length-(i+1),by lia,rfl,ab,aa,G,rest,s3.mono x5,au,as,af.ext ah,Y,ed,by lia⟩
   | true=>
    rw[if_pos rfl]at Y;refine SG ?_;obtain⟨d,e6,Y⟩:=bind_some Y;obtain⟨ak,e7,Y⟩:=bind_some Y;cases Y;refine⟨H0,A0,_,E1++E,aa,d,s3.mono x5,e6,λv H6 x6 r6=>?_⟩;have ap:=ah.trans x6;have ad:H6 D=some (.lst us):=ap.ow D _ (.inr rfl) al;refine⟨ad,items.length-(i+1),by lia,rfl,ab,aa,G++[d],ak,?_,aT,?_,((af.ext ap).append (.cons r6 .nil)).put (.inr rfl) ad trivial,e7,by rw[<- ed];simp,by rw[WV];show G.length+1<=i+1;lia⟩
    ·have s6:=s3.mono (x5.trans x6)
     have bb:H0 D=none:=st.ex.free n0;have U:∀b,H0 b≠none->b≠D:=λb hb z=>hb (by rw[z];exact bb)
     refine⟨⟨λb w r=>lO (U b (by rcases r with r|⟨_,r⟩ <;> (rw[r];exact λz=>nomatch z))) (s6.ex.rd b w r),λb xs k r=>?_,λb w n r=>?_,λb q w r=>?_⟩,s6.sub,s6.l0,λa W=>?_,s6.len,λi d h n=>?_,(λi d _ h=>nomatch h),(λi j d d' a hi=>nomatch hi),λp hp=>Fact.put (.inr rfl) ad trivial (s6.ext p hp)⟩
     ·rw[aO (U b (by rw[r];exact λz=>nomatch z))];exact s6.ex.kp b xs k r
     ·rw[aO (U b (by rw[r];exact λz=>nomatch z))];exact s6.ex.ow b w n r
     ·rw[aO (U b (by rw[r];exact λz=>nomatch z))];exact s6.ex.fz b q w r
     ·by_cases z:a=D
      ·subst z;rw[aT];exact λz=>nomatch z
      ·rw[aO z];exact s6.live a W
     ·obtain⟨v,h1,h2⟩:=s6.val i d h n
      exact⟨v,h1,h2.put (.inr rfl) ad trivial⟩
    ·have ag:Ext A H H6:=as.trans (x6.mono λa W=>.inl W)
     have U:∀b,H b≠none->b≠D:=λb hb z=>hb (by rw[z];exact n0)
     exact⟨λb w r=>lO (U b (by rcases r with r|⟨_,r⟩ <;> (rw[r];exact λz=>nomatch z))) (ag.rd b w r),
      λb xs k r=>by rw[aO (U b (by rw[r];exact λz=>nomatch z))];exact ag.kp b xs k r,
      λb w n r=>by rw[aO (U b (by rw[r];exact λz=>nomatch z))];exact ag.ow b w n r,
      λb q w r=>by rw[aO (U b (by rw[r];exact λz=>nomatch z))];exact ag.fz b q w r⟩
  ·have bg:i=items.length:=by lia
   subst bg;rw[zaW]at Y;cases Y;rw[W6]at ed;subst ed;exact .inl ⟨ar (VG _),q D H2 x2 n0 nA (.lst al af)⟩
theorem IH
  (W:X.calm=true) (G:My.Clo X N scope cl) (q:d5 X scope N ms) (z:(ms.all λo=>match o with|some i=>!O.contains i|none=>true)=true) (hi:PDI X O tg iter it) (J:∀C s H fp,vQ (My.aX X N scope cl C s H fp) [] tg g)
  (Y:∀C s H fp,My.AZ (My.aX X N scope cl C s H fp) ifs (tDT [] c)) (U:∀C s H fp,PD (My.aX X N scope cl C s H fp) [] elt f) (hs:∀x,WY iter X.env x=pure x:=by intro _;rfl) :
  PF X O (.ListComp elt [⟨tg,iter,ifs,0⟩] scope pos) (m9 ms it g c f):=PE.mono (My.HK W G hi J Y U hs) (qQ q z)
def aA(n:Nat)(ds:List D):cX:=ds.map some++V6 (n-ds.length) none
def bM(n:Nat)(f:Sv)(ds:List D):Option D:=(f (aA n ds)).bind λo=>match o with
 | .rt d=>some d
 | .nx _=>some .non
 | _=>none
theorem ST.begun(q:Live A H)(r:RepL A H ds vs):ST H A A [] [] (L2.start N vs) H (aA N.length ds) where
 ex:=Ext.refl _ _
 sub:=λ_ h=>h
 l0:=q
 live:=q
 len:=by unfold L2.start aA;simp[r.length]
 val:=λi d h _=>by
  unfold aA at h;by_cases hi:i<ds.length
  ·rw[Z6 (by simpa using hi),VM]at h
   obtain⟨d',G,W⟩:=map_some h;cases W;obtain⟨v,z,U⟩:=r.get' G;refine⟨v,?_,U⟩;unfold L2.start;rw[Z6 (by rw[VL,r.length];exact hi),VM,z];rfl
  ·rw[Z5 (by simpa using hi),List.getElem?_replicate]at h
   split at h <;> cases h
 own:=λi d _ h=>nomatch h
 inj:=λi j d d' a hi=>nomatch hi
 ext:=λp J=>nomatch J
theorem iA{P:U7}{w:World}{K:U3}{mg:Str->Option Value}{base:Heap}{x:Str}{st:Stmt}{N ps:List Str}{k:Nat}{f:Sv}{O':List Nat}(Y:My.DefAt K mg x st ps)(S:FnScope N ps (aJ st))
  (h:∀(J:Addr) (z:Value) (A:VC) (outer:List Env) (s:U2) (H:Hp) (E:XK),Room k (A.deeper (WB x (aJ st) s.heap.objs.size J z))->∃g,PSDs (dR A4 P w K mg base N x (aJ st) J z A outer s H E).nox ⟨[],[]⟩ [] (bO st) g O'/\g=f) :
  Fn P w K mg base x (k+1) ps (bM N.length f):=by
 refine My.BodyOk.ok (λJ z A outer s H vs Q E hr G=>?_) Y S (λvs H Q E G=>by obtain⟨A,ds,d,_,_,e,_⟩:=G;exact e);obtain⟨W,ds,d,lv,r,e,eF,q⟩:=G;obtain⟨o,eo,U⟩:=bind_some eF;obtain⟨g,hg,rfl⟩:=h J z A outer s H E hr;refine⟨_,hg,H,W,W,[],_,o,ST.begun lv r,eo,?_⟩;cases o with
 | nx ρ=>cases U;exact λA2 ah H2 s2=>q .non H2 s2.ex .non
 | rt d'=>cases U;exact λv H2 x2 r2=>q v H2 x2 r2
 | bk _=>cases U
 | ct _=>cases U
def E9(K:U3):Bool:=K.all λp=>match p.2.cls with
 | .type "list" => false
 | _=>true
theorem BA{K:U3}(h:E9 K=true){a:Addr}{o:Obj}(e:K.lookup a=some o):o.cls≠.type "list" := λz=>by
 have m:∀ {K:U3},K.lookup a=some o->(a,o)∈K:=by
  intro K;induction K with
  | nil=>intro e;cases e
  | cons p r ih=>
   intro e;rw[YS]at e;by_cases q:(a == p.1)=true
   ·rw[q]at e;cases e;rw[show a=p.1 by simpa using q];exact VR ..
   ·rw[Y4]at q;rw[q]at e;exact VW _ (ih e)
 have:=List.all_eq_true.mp h _ (m e);dsimp only at this;rw[z]at this;exact absurd this (by decide)
theorem M6{P:U7}{w:World}{K:U3}{mg:Str->Option Value}{base:Heap}{st:Stmt}{N:List Str}{k:Nat}{f:Sv}{O':List Nat}(hK:E9 K=true)
  (h:∀(U:Addr) (G:Value) (A:VC) (outer:List Env) (s:U2) (H:Hp) (E:XK),Room k (A.deeper (WB "law" (aJ st) s.heap.objs.size U G))->∃g,PSDs (dR A4 P w K mg base N "law" (aJ st) U G A outer s H E).nox ⟨[],[]⟩ [] (bO st) g O'/\g=f)
  (hv:∀ns:List Int,ns.length<=63->bM N.length f [.lst (ns.map .int)]=some (.bl true)):My.BodyOk P w K mg base "law" st N k (My.w8 K):=by
 refine λU G A outer s H vs Q E hr Y=>?_
 obtain⟨a,ns,rfl,hS,hl,q⟩:=Y;have hR:Rd H a (.lst (ns.map V.int)):=by
  rcases hS with hS|⟨o,_,_,e,c,_⟩
  ·exact hS
  ·exact absurd c (BA hK e)
 have lv:Live (λ_=>False) H:=λa h=>h.elim
 have J:∀ns:List Int,RepL (λ_=>False) H (ns.map .int) (ns.map V.int):=λns=>by
  induction ns with
  | nil=>exact .nil
  | cons n ns ih=>exact .cons (.int n) ih
 obtain⟨o,eo,W⟩:=bind_some (hv ns hl);obtain⟨g,hg,rfl⟩:=h U G A outer s H E hr;refine⟨_,hg,H,λ_=>False,λ_=>False,[],_,o,ST.begun lv (.cons (.lst (λz=>z) hR (J ns)) .nil),eo,?_⟩;cases o with
 | nx ρ=>cases W
 | rt d'=>cases W;exact λv H2 x2 r2=>by cases r2;exact q _
 | bk _=>cases W
 | ct _=>cases W
end
mutual
def kF:D->Option My.Dx
 | .non=>some .non
 | .bl b=>some (.bl b)
 | .int i=>some (.int i)
 | .str x=>some (.str x)
 | .tup l=>(lQ l).map .tup
 | .lst l=>(lQ l).map .lst
 | .dK _=>none
 | .dT _=>none
def lQ:List D->Option (List My.Dx)
 | []=>some []
 | d::ds=>(kF d).bind λx=>(lQ ds).bind λxs=>some (x::xs)
end
mutual
theorem pA:∀ {d e:D} {x:My.Dx},kF d=some x->kF e=some x->d=e
 | .non,e,x,h,k=>by cases h;cases e <;> simp[kF]at k <;> first|rfl|(obtain⟨_,_,z⟩:=k;cases z)
 | .bl b,e,x,h,k=>by cases h;cases e <;> simp[kF]at k <;> first|(rw[k])|(obtain⟨_,_,z⟩:=k;cases z)
 | .int b,e,x,h,k=>by cases h;cases e <;> simp[kF]at k <;> first|(rw[k])|(obtain⟨_,_,z⟩:=k;cases z)
 | .str b,e,x,h,k=>by cases h;cases e <;> simp[kF]at k <;> first|(rw[k])|(obtain⟨_,_,z⟩:=k;cases z)
 | .tup l,e,x,h,k=>by
  rw[kF]at h;obtain⟨xs,h1,rfl⟩:=map_some h;cases e with
  | tup m=>
   rw[kF]at k;obtain⟨ys,k1,k2⟩:=map_some k;cases k2;rw[qK h1 k1]
  | lst m=>rw[kF]at k;obtain⟨ys,k1,k2⟩:=map_some k;cases k2
  | _=>simp[kF]at k
 | .lst l,e,x,h,k=>by
  rw[kF]at h;obtain⟨xs,h1,rfl⟩:=map_some h;cases e with
  | lst m=>
   rw[kF]at k;obtain⟨ys,k1,k2⟩:=map_some k;cases k2;rw[qK h1 k1]
  | tup m=>rw[kF]at k;obtain⟨ys,k1,k2⟩:=map_some k;cases k2
  | _=>simp[kF]at k
 | .dK _,e,x,h,k=>by rw[kF]at h;cases h
 | .dT _,e,x,h,k=>by rw[kF]at h;cases h
theorem qK:∀ {d e:List D} {x:List My.Dx},lQ d=some x->lQ e=some x->d=e
 | [],e,x,h,k=>by
  rw[lQ]at h;cases h;cases e with
  | nil=>rfl
  | cons e es=>
   rw[lQ]at k;obtain⟨_,_,k⟩:=bind_some k;obtain⟨_,_,k⟩:=bind_some k;cases k
 | d::ds,e,x,h,k=>by
  rw[lQ]at h;obtain⟨y,h1,h⟩:=bind_some h;obtain⟨ys,h2,h⟩:=bind_some h;cases h;cases e with
  | nil=>rw[lQ]at k;cases k
  | cons e es=>
   rw[lQ]at k;obtain⟨z,k1,k⟩:=bind_some k;obtain⟨zs,k2,k⟩:=bind_some k;cases k;rw[pA h1 k1,qK h2 k2]
end
mutual
theorem uY{K:U3}{A:Av}{H:Hp}:∀ {d:D} {x:My.Dx} {v:V},kF d=some x->Rep A H d v->My.Rep K H x v
 | .non,x,v,h,r=>by cases h;cases r;rw[My.Rep]
 | .bl b,x,v,h,r=>by cases h;cases r;rw[My.Rep]
 | .int b,x,v,h,r=>by cases h;cases r;rw[My.Rep]
 | .str b,x,v,h,r=>by cases h;cases r;rw[My.Rep]
 | .tup l,x,v,h,r=>by
  rw[kF]at h;obtain⟨xs,h1,rfl⟩:=map_some h;cases r with
  | tup hh rl=>rw[My.Rep];exact⟨_,_,rfl,.inl (.inl hh),mM h1 rl⟩
 | .lst l,x,v,h,r=>by
  rw[kF]at h;obtain⟨xs,h1,rfl⟩:=map_some h;cases r with
  | lst n hh rl=>rw[My.Rep];exact⟨_,_,rfl,.inl hh,mM h1 rl⟩
 | .dK _,x,v,h,r=>by rw[kF]at h;cases h
 | .dT _,x,v,h,r=>by rw[kF]at h;cases h
theorem mM{K:U3}{A:Av}{H:Hp}:∀ {d:List D} {x:List My.Dx} {v:List V},lQ d=some x->RepL A H d v->My.RepL K H x v
 | [],x,v,h,r=>by rw[lQ]at h;cases h;cases r;rw[My.RepL]
 | d::ds,x,v,h,r=>by
  rw[lQ]at h;obtain⟨y,h1,h⟩:=bind_some h;obtain⟨ys,h2,h⟩:=bind_some h;cases h;cases r with
  | cons r rs=>rw[My.RepL];exact⟨_,_,rfl,uY h1 r,mM h2 rs⟩
end
theorem jZ{K:U3}{A:Av}{H:Hp}{d:D}{x:My.Dx}{v:V}(h:kF d=some x)(r:RepB A H d v):My.Rep K H x v:=by
 cases r with
 | of r=>exact uY h r
 | lst hh rl=>
  rw[kF]at h;obtain⟨xs,h1,rfl⟩:=map_some h;rw[My.Rep];exact⟨_,_,rfl,.inl hh,mM h1 rl⟩
 | dK=>rw[kF]at h;cases h
 | dT=>rw[kF]at h;cases h
def kE(d:D):Bool:=match kF d with
 | some x=>x.nb && decide (x.dep<=60)
 | none=>false
noncomputable def OI:D->Bool
 | .tup _=>true | .lst _=>true|_=>false
noncomputable def K6:D->D->Bool
 | .non,.non=>true | .non,.int _=>true | .int _,.non=>true | .non,.bl _=>true | .bl _,.non=>true | .non,.str _=>true | .str _,.non=>true
 | .int _,.int _=>true | .bl _,.bl _=>true | .str _,.str _=>true
 | .int _,.str _=>true | .str _,.int _=>true | .bl _,.str _=>true | .str _,.bl _=>true
 | _,_=>false
open Classical in
def CU(d e:D):Option Bool:=if K6 d e=true\/(OI d=true/\OI e=true/\kE d=true/\kE e=true)then some (decide (d=e))else none
def lU(d e:D):Option D:=(CU d e).map .bl
def CO(d e:D):Option D:=(CU d e).map λb=>.bl (!b)
theorem FM(h:K6 d e=true)(r:RepB A H d v)(s:RepB A H e w):OH v w=true/\(v=w↔d=e):=by
 cases d <;> cases e <;> first
  | (cases h;done)
  | (have:=r.non_inv;subst this;have:=s.non_inv;subst this;exact⟨rfl,by simp⟩)
  | (have:=r.non_inv;subst this;have:=s.int_inv;subst this;exact⟨rfl,by simp⟩)
  | (have:=r.non_inv;subst this;have:=s.bl_inv;subst this;exact⟨rfl,by simp⟩)
  | (have:=r.non_inv;subst this;have:=s.str_inv;subst this;exact⟨rfl,by simp⟩)
  | (have:=r.int_inv;subst this;have:=s.non_inv;subst this;exact⟨rfl,by simp⟩)
  | (have:=r.int_inv;subst this;have:=s.int_inv;subst this;exact⟨rfl,by simp⟩)
  | (have:=r.int_inv;subst this;have:=s.str_inv;subst this;exact⟨rfl,by simp⟩)
  | (have:=r.bl_inv;subst this;have:=s.non_inv;subst this;exact⟨rfl,by simp⟩)
  | (have:=r.bl_inv;subst this;have:=s.bl_inv;subst this;exact⟨rfl,by simp⟩)
  | (have:=r.bl_inv;subst this;have:=s.str_inv;subst this;exact⟨rfl,by simp⟩)
  | (have:=r.str_inv;subst this;have:=s.non_inv;subst this;exact⟨rfl,by simp⟩)
  | (have:=r.str_inv;subst this;have:=s.int_inv;subst this;exact⟨rfl,by simp⟩)
  | (have:=r.str_inv;subst this;have:=s.bl_inv;subst this;exact⟨rfl,by simp⟩)
  | (have:=r.str_inv;subst this;have:=s.str_inv;subst this;exact⟨rfl,by simp⟩)
section
variable {X:Cx}{O:List Nat}
theorem OpR.orM(h:OpR X f r)(h':OpR X f r')(x:∀a b H Q,r2 a b H Q->r a b H Q\/r' a b H Q):OpR X f r2:=OpR.mono (OpR.or h h') x
theorem nP(h:kE d=true):∃x,kF d=some x/\x.nb=true/\x.dep<=60:=by
 unfold kE at h;cases e:kF d with
 | none=>rw[e]at h;cases h
 | some x=>rw[e]at h;simp only[WD,decide_eq_true_eq]at h;exact⟨x,rfl,h.1,h.2⟩
theorem AM(h:OI d=true)(e:kF d=some x):x.seq=true:=by
 cases d with
 | tup l=>rw[kF]at e;obtain⟨xs,_,rfl⟩:=map_some e;rfl
 | lst l=>rw[kF]at e;obtain⟨xs,_,rfl⟩:=map_some e;rfl
 | _=>cases h
theorem P6(hu:X.A.units+64<cLine):jK X (VF .Eq) lU:=OpR.orM PY (My.N5 hu) <| by
 rintro x y H Q ⟨A,dx,Y,d,lv,rx,ry,e,q⟩;obtain⟨b,N,rfl⟩:=map_some e;unfold CU at N;split at N
 case isFalse=>cases N
 rename_i hc;cases N;rcases hc with hs|⟨s1,s2,k1,k2⟩
 ·left
  obtain⟨h1,h2⟩:=FM hs rx ry;refine⟨h1,?_⟩;have:decide (x=y)=@decide (dx=Y) (X8 _):=decide_eq_decide.mpr h2;rw[this];exact q _ H (Ext.refl _ _) (.bl _)
 ·right
  obtain⟨U,J,a2,a3⟩:=nP k1;obtain⟨W,G,b2,b3⟩:=nP k2;refine⟨U,W,jZ J rx,jZ G ry,AM s1 J,AM s2 G,a2,b2,a3,?_⟩;have:@decide (U=W) (X8 _)=@decide (dx=Y) (X8 _):=decide_eq_decide.mpr ⟨λz=>pA J (z ▸ G),λz=>by subst z;rw[J]at G;exact VX G⟩;show Q (.bl (@decide (U=W) (X8 _))) H;rw[this];exact q _ H (Ext.refl _ _) (.bl _)
theorem OU(hu:X.A.units+64<cLine):jK X (VF .NotEq) CO:=OpR.orM O8 (My.MS hu) <| by
 rintro x y H Q ⟨A,dx,Y,d,lv,rx,ry,e,q⟩;obtain⟨b,N,rfl⟩:=map_some e;unfold CU at N;split at N
 case isFalse=>cases N
 rename_i hc;cases N;rcases hc with hs|⟨s1,s2,k1,k2⟩
 ·left
  obtain⟨h1,h2⟩:=FM hs rx ry;refine⟨h1,?_⟩;have:decide (x=y)=@decide (dx=Y) (X8 _):=decide_eq_decide.mpr h2;rw[this];exact q _ H (Ext.refl _ _) (.bl _)
 ·right
  obtain⟨U,J,a2,a3⟩:=nP k1;obtain⟨W,G,b2,b3⟩:=nP k2;refine⟨U,W,jZ J rx,jZ G ry,AM s1 J,AM s2 G,a2,b2,a3,?_⟩;have:@decide (U=W) (X8 _)=@decide (dx=Y) (X8 _):=decide_eq_decide.mpr ⟨λz=>pA J (z ▸ G),λz=>by subst z;rw[J]at G;exact VX G⟩;show Q (.bl (!@decide (U=W) (X8 _))) H;rw[this];exact q _ H (Ext.refl _ _) (.bl _)
noncomputable def tX:D->Bool
 | .non=>true|_=>false
def KC(d e:D):Option D:=if tX e then some (.bl (tX d))else none
theorem G5(r:RepB A H d v):decide (v=.non)=tX d:=by
 cases d with
 | non=>have:=r.non_inv;subst this;rfl
 | bl b=>have:=r.bl_inv;subst this;rfl
 | int b=>have:=r.int_inv;subst this;rfl
 | str b=>have:=r.str_inv;subst this;rfl
 | tup l=>obtain⟨_,_,rfl,_⟩:=r.tup_inv;rfl
 | lst l=>obtain⟨_,_,rfl,_⟩:=r.lst_inv;rfl
 | dK l=>obtain⟨_,_,rfl,_⟩:=r.dK_inv;rfl
 | dT l=>obtain⟨_,_,rfl,_⟩:=r.dT_inv;rfl
theorem MH:jK X (VF .Is) KC:=OpR.mono NB <| by
 rintro x y H Q ⟨A,dx,z,d,N,G,J,e,q⟩;unfold KC at e;cases z with
 | non=>cases e;have:=J.non_inv;subst this;exact⟨rfl,by rw[G5 G];exact q _ H (Ext.refl _ _) (.bl _)⟩
 | _=>cases e
theorem Inv.lstR(I:Inv X pins σ H s)(z:Rd H l (.lst xs)):xs.length<=VA/\∃(q:List Value) (n:Nat),Vals xs q/\xs.length=q.length/\s.heap.get? l=some {cls:=.type "list",data:=.seq q.toArray n}:=by
 obtain⟨G,q,n,r,e⟩:=(show ObjOk X.prog X.w H s.heap l (.lst xs)from z.ok I.hok);exact⟨G,q,n,r,r.length,e⟩
def O7:R2:=λx y H Q=>∃l b xs zs,x=.ref l/\y=.ref b/\Rd H l (.lst xs)/\Rd H b (.lst zs)/\xs.length+zs.length<=VA/\∀p,H p=none->Q (.ref p) (upd H p (.lst (xs++zs)))
theorem AC:OpR X (V4 .Add) O7:=by
 intro pins s σ H x y v u Q I N Y h;obtain⟨l,b,xs,zs,rfl,rfl,hH,W,hz,q⟩:=h;cases N;cases Y;obtain⟨z,J,n,r,hl,e⟩:=Inv.lstR I hH;obtain⟨z2,G,n2,r2,U,e2⟩:=Inv.lstR I W;refine PySem.P.add_list e e2 ?_ (by rw[VJ,VJ];lia);have ea:J.toArray++G.toArray=(J++G).toArray:=by simp
 rw[ea];exact⟨.ref _,_,I.lnew (t':=s.toks) (r.append r2) (by rw[WV];lia),rfl,q _ I.fresh⟩
end
section
variable {X:Cx}{O:List Nat}
theorem RepL.nil_iff(r:RepL A H ds vs):vs=[]↔ds=[]:=by cases r <;> simp
def tY:D->D->Option D
 | .int i,.int j=>some (.int (i+j))
 | .str i,.str j=>if aZ (i.length+j.length)then some (.str (i++j))else none
 | .lst l,.lst m=>if aZ (l.length+m.length)then some (.lst (l++m))else none
 | .tup (a::l),.tup m=>if aZ (l.length+1+m.length)then some (.tup (a::l++m))else none
 | _,_=>none
theorem LY:jK X (V4 .Add) tY:=OpR.mono (OpR.or (OpR.or MM xR) (OpR.or AC IE)) <| by
 rintro x y H Q ⟨A,dx,N,d,lv,Y,ry,e,q⟩;cases dx with
 | int i=>
  cases N with
  | int j=>cases e;have:=Y.int_inv;subst this;have:=ry.int_inv;subst this;exact .inl (.inl ⟨i,j,rfl,rfl,q _ H (Ext.refl _ _) (.int _)⟩)
  | _=>cases e
 | str i=>
  cases N with
  | str j=>
   simp only[tY]at e;by_cases G:aZ (i.length+j.length)=true
   ·rw[if_pos G]at e;cases e;have:=Y.str_inv;subst this;have:=ry.str_inv;subst this
    exact .inl (.inr ⟨i,j,rfl,rfl,i6 G,q _ H (Ext.refl _ _) (.str _)⟩)
   ·rw[if_neg G]at e;cases e
  | _=>cases e
 | lst l=>
  cases N with
  | lst m=>
   simp only[tY]at e;by_cases G:aZ (l.length+m.length)=true
   ·rw[if_pos G]at e;cases e
    obtain⟨a,xs,rfl,h1,J⟩:=Y.lst_inv;obtain⟨b,ys,rfl,h2,U⟩:=ry.lst_inv;exact .inr (.inl ⟨a,b,xs,ys,rfl,rfl,h1,h2,by rw[J.length,U.length];exact i6 G,λp W=>q _ _ (Ext.new W) (.lst (λz=>lv p z W) (.inl aT) ((J.append U).ext (Ext.new W)))⟩)
   ·rw[if_neg G]at e;cases e
  | _=>cases e
 | tup l=>
  cases l with
  | nil=>cases N <;> cases e
  | cons a0 l=>
   cases N with
   | tup m=>
    simp only[tY]at e;by_cases G:aZ (l.length+1+m.length)=true
    ·rw[if_pos G]at e;cases e
     obtain⟨a,xs,rfl,h1,J⟩:=Y.tup_inv;obtain⟨b,ys,rfl,h2,U⟩:=ry.tup_inv;refine .inr (.inr ⟨a,b,xs,ys,rfl,rfl,.inl (.inl h1),.inl (.inl h2),λz=>(by have:=J.nil_iff.mp z;cases this),by rw[J.length,U.length];exact i6 G,λz=>?_,λ_ p W=>q _ _ (Ext.new W) (.tup aT ((J.append U).ext (Ext.new W)))⟩);refine q _ H (Ext.refl _ _) (.tup h1 ?_);have:=U.nil_iff.mp z;subst this;rw[W6];exact J
    ·rw[if_neg G]at e;cases e
   | _=>cases e
 | _=>cases N <;> cases e
noncomputable def j9:List D->Option (List Int)
 | []=>some []
 | .int i::ds=>(j9 ds).map (i::·)
 | _=>none
theorem fY:∀ {ds:List D} {ns:List Int} {vs:List V},j9 ds=some ns->RepL A H ds vs->vs=ns.map V.int
 | [],ns,vs,h,r=>by cases h;cases r;rfl
 | .int i::ds,ns,vs,h,r=>by
  obtain⟨ms,h1,rfl⟩:=map_some h;cases r with
  | cons r rs=>cases r;rw[fY h1 rs];rfl
def OO:D->D->Option D
 | .int i,.int j=>some (.bl (decide (i<j)))
 | .tup l,.tup m=>(j9 l).bind λns=>(j9 m).map λms=>.bl (HT.lexLt ns ms)
 | _,_=>none
theorem M9(Y:X.A.units<cLine):jK X (VF .Lt) OO:=OpR.mono (OpR.or P5 (MQ Y)) <| by
 rintro x y H Q ⟨A,dx,z,d,lv,G,J,e,q⟩;cases dx with
 | int i=>
  cases z with
  | int j=>cases e;have:=G.int_inv;subst this;have:=J.int_inv;subst this;exact .inl ⟨i,j,rfl,rfl,q _ H (Ext.refl _ _) (.bl _)⟩
  | _=>cases e
 | tup l=>
  cases z with
  | tup m=>
   obtain⟨ns,U,e⟩:=bind_some e;obtain⟨ms,e2,rfl⟩:=map_some e;obtain⟨a,xs,rfl,h1,N⟩:=G.tup_inv;obtain⟨b,ys,rfl,h2,W⟩:=J.tup_inv;have:=fY U N;subst this;have:=fY e2 W;subst this;exact .inr ⟨a,b,ns,ms,rfl,rfl,.inl (.inl h1),.inl (.inl h2),q _ H (Ext.refl _ _) (.bl _)⟩
  | _=>cases e
 | _=>cases z <;> cases e
open Classical in
def xA(x y:D):Option Bool:=match y with
 | .dK _=>(nD y x).map (·.isSome)
 | .dT _=>(nD y x).map (·.isSome)
 | .lst l=>if kE x=true/\l.all kE=true then some (l.any λd=>decide (d=x))else none
 | .tup l=>if kE x=true/\l.all kE=true then some (l.any λd=>decide (d=x))else none
 | _=>none
def RP(x y:D):Option D:=(xA x y).map .bl
def vE(x y:D):Option D:=(xA x y).map λb=>.bl (!b)
open Classical in
theorem mR(I:Inv X pins σ H s)(hu:Ar.units+60<cLine)(kx:kE x=true)(rx:RepB A H x v)(ru:RelV v u)(kl:l.all kE=true)(rl:RepL A H l xs)(W:Vals xs G) :
  ∃f:Value->Bool,(∀y∈G,ZF Ar s y u (f y))/\G.any f=l.any λd=>decide (d=x):=by
 obtain⟨J,N,a2,a3⟩:=nP kx;have U:My.Rep X.K H J v:=jZ N rx;let g:Value->Bool:=λy=>decide (∃w z,RelV w y/\My.Rep X.K H z w/\z=J)
 have one:∀ {d:D} {w:V} {y:Value},kE d=true->Rep A H d w->RelV w y->g y=decide (d=x)/\ZF Ar s y u (g y):=by
  intro d w y kd rd Y;obtain⟨z,b1,b2,b3⟩:=nP kd;have rz:My.Rep X.K H z w:=uY b1 rd;have e:g y=decide (z=J):=by
   refine decide_eq_decide.mpr ⟨λ⟨w',z',q1,q2,q3⟩=>?_,λe=>⟨w,z,Y,rz,e⟩⟩;have:=RelV.inj Y q1;subst this;rw[My.Rep.inj I _ _ _ rz q2,q3]
  have e2:decide (z=J)=decide (d=x):=decide_eq_decide.mpr ⟨λq=>pA b1 (q ▸ N),λq=>by subst q;rw[b1]at N;exact VX N⟩;refine⟨e.trans e2,?_⟩;rw[e];exact My.uQ I 60 Ar z J w v y u b3 hu b2 a2 rz U Y ru
 refine⟨g,?_,?_⟩
 ·intro y hy
  obtain⟨j,hj⟩:=List.mem_iff_getElem?.mp hy;have ad:=W.length;have aj:j<G.length:=(List.getElem?_eq_some_iff.mp hj).1;have hx:xs[j]?=some (xs[j]'(by lia)):=WE (by lia);obtain⟨u',e1,r1⟩:=W.get hx;rw[hj]at e1;cases e1;obtain⟨d,e2,r2⟩:=rl.get hx;exact(one (List.all_eq_true.mp kl _ (WR e2)) r2 r1).2
 ·have all:∀(l:List D) (xs:List V) (G:List Value),l.all kE=true->RepL A H l xs->Vals xs G->G.any g=l.any λd=>decide (d=x):=by
   intro l;induction l with
   | nil=>intro xs G _ r v;cases r;cases v;rfl
   | cons d l ih=>
    intro xs G k r v;cases r with
    | cons h t=>
     cases v with
     | cons r rs=>
      rw[ZI,WD]at k;rw[WJ,WJ,(one k.1 h r).1,ih _ _ k.2 t rs]
  exact all l xs G kl rl W
theorem PH(hu:X.A.units+64<cLine):jK X (VF .In) RP:=by
 intro pins s σ H x y v u Q I N ru h;obtain⟨A,dx,dy,d,lv,J,Y,e,q⟩:=h;obtain⟨b,z,rfl⟩:=map_some e;have fin:∀k,k=b->EP X pins σ Q (.bool k) s:=λk hk=>⟨.bl b,H,I,by rw[hk];rfl,q _ H (Ext.refl _ _) (.bl _)⟩
 have W:X.A.units+1<cLine:=by lia
 have dict:∀o,nD dy dx=some o->o.isSome=b->wpAny (model X.prog X.w) X.A (VF .In v u) (EP X pins σ Q) X.xe s:=λo G ob=>by
  obtain⟨a,ov,rfl,_,g,e3⟩:=qF G Y J;cases ru;refine R4 W I g N λs' I'=>⟨.bl b,H,I',?_,q _ H (Ext.refl _ _) (.bl _)⟩
  have:ov.isSome=b:=by rw[<- ob];rcases e3 with⟨rfl,rfl⟩|⟨_,_,rfl,rfl,_⟩ <;> rfl
  rw[this];rfl
 cases dy with
 | dK l=>obtain⟨o,G,ob⟩:=map_some z;exact dict o G ob
 | dT l=>obtain⟨o,G,ob⟩:=map_some z;exact dict o G ob
 | lst l=>
  simp only[xA]at z;split at z
  case isFalse=>cases z
  rename_i hc;cases z;obtain⟨a,xs,rfl,h1,r1⟩:=Y.lst_inv;cases ru;obtain⟨ac,r,U,hz⟩:=I.list (.inl h1);obtain⟨f,f1,f2⟩:=mR (Ar:=X.A.in1) I (by show X.A.units+1+60<cLine;lia) hc.1 J N hc.2 r1 r;refine SeqAt.in_listAt f (My.PlainL.isList U) (λw hw=>f1 w (by simpa using hw)) (fin _ ?_);rw[<- f2];simp
 | tup l=>
  simp only[xA]at z;split at z
  case isFalse=>cases z
  rename_i hc;cases z;obtain⟨a,xs,rfl,h1,r1⟩:=Y.tup_inv;cases ru;obtain⟨ac,r,U,hz⟩:=I.tuple (.inl (.inl h1));obtain⟨f,f1,f2⟩:=mR (Ar:=X.A.in1) I (by show X.A.units+1+60<cLine;lia) hc.1 J N hc.2 r1 r;refine SeqAt.in_tupleAt f U (λw hw=>f1 w (by simpa using hw)) (fin _ ?_);rw[<- f2];simp
 | _=>cases z
theorem DF(hu:X.A.units+64<cLine):jK X (VF .NotIn) vE:=by
 intro pins s σ H x y v u Q I N ru h;obtain⟨A,dx,dy,d,lv,J,Y,e,q⟩:=h;obtain⟨b,z,rfl⟩:=map_some e;have fin:∀k,k=(!b)->EP X pins σ Q (.bool k) s:=λk hk=>⟨.bl (!b),H,I,by rw[hk];rfl,q _ H (Ext.refl _ _) (.bl _)⟩
 have W:X.A.units+1<cLine:=by lia
 have dict:∀o,nD dy dx=some o->o.isSome=b->wpAny (model X.prog X.w) X.A (VF .NotIn v u) (EP X pins σ Q) X.xe s:=λo G ob=>by
  obtain⟨a,ov,rfl,_,g,e3⟩:=qF G Y J;cases ru;refine HU W I g N λs' I'=>⟨.bl (!b),H,I',?_,q _ H (Ext.refl _ _) (.bl _)⟩
  have:ov.isSome=b:=by rw[<- ob];rcases e3 with⟨rfl,rfl⟩|⟨_,_,rfl,rfl,_⟩ <;> rfl
  rw[this];rfl
 cases dy with
 | dK l=>obtain⟨o,G,ob⟩:=map_some z;exact dict o G ob
 | dT l=>obtain⟨o,G,ob⟩:=map_some z;exact dict o G ob
 | lst l=>
  simp only[xA]at z;split at z
  case isFalse=>cases z
  rename_i hc;cases z;obtain⟨a,xs,rfl,h1,r1⟩:=Y.lst_inv;cases ru;obtain⟨ac,r,U,hz⟩:=I.list (.inl h1);obtain⟨f,f1,f2⟩:=mR (Ar:=X.A.in1) I (by show X.A.units+1+60<cLine;lia) hc.1 J N hc.2 r1 r;refine SeqAt.notIn_listAt f (My.PlainL.isList U) (λw hw=>f1 w (by simpa using hw)) (fin _ ?_);rw[<- f2];simp
 | tup l=>
  simp only[xA]at z;split at z
  case isFalse=>cases z
  rename_i hc;cases z;obtain⟨a,xs,rfl,h1,r1⟩:=Y.tup_inv;cases ru;obtain⟨ac,r,U,hz⟩:=I.tuple (.inl (.inl h1));obtain⟨f,f1,f2⟩:=mR (Ar:=X.A.in1) I (by show X.A.units+1+60<cLine;lia) hc.1 J N hc.2 r1 r;refine SeqAt.notIn_tupleAt f U (λw hw=>f1 w (by simpa using hw)) (fin _ ?_);rw[<- f2];simp
 | _=>cases z
def g5:List D->Option D
 | [.lst l]=>some (.int l.length)
 | [.tup l]=>some (.int l.length)
 | [.str z]=>if aZ z.length then some (.int z.length)else none
 | [.dK l]=>some (.int l.length)
 | _=>none
theorem EV:kA X (.builtin "len") g5:=by
 intro pins s σ H xs U Q I r h;obtain⟨A,ds,d,lv,G,e,q⟩:=h
 match ds,G,e with
 | [.lst l],G,e=>
  cases e;obtain⟨v,rfl,h1⟩:=G.one;obtain⟨a,xs,rfl,h2,J⟩:=h1.lst_inv;exact qH pins s σ H _ U Q I r ⟨_,_,rfl,.inl ⟨xs,.inl h2,rfl⟩,by rw[J.length];exact q _ H (Ext.refl _ _) (.int _)⟩
 | [.tup l],G,e=>
  cases e;obtain⟨v,rfl,h1⟩:=G.one;obtain⟨a,xs,rfl,h2,J⟩:=h1.tup_inv;exact qH pins s σ H _ U Q I r ⟨_,_,rfl,.inr ⟨xs,.inl (.inl h2),rfl⟩,by rw[J.length];exact q _ H (Ext.refl _ _) (.int _)⟩
 | [.str z],G,e=>
  simp only[g5]at e;by_cases N:aZ z.length=true
  ·rw[if_pos N]at e;cases e
   obtain⟨v,rfl,h1⟩:=G.one;have:=h1.str_inv;subst this;exact qH pins s σ H _ U Q I r ⟨_,_,rfl,⟨i6 N,rfl⟩,q _ H (Ext.refl _ _) (.int _)⟩
  ·rw[if_neg N]at e;cases e
 | [.dK l],G,e=>
  cases e;obtain⟨v,rfl,h1⟩:=G.one;obtain⟨a,xs,rfl,h2,e2,J⟩:=h1.dK_inv;obtain⟨u,rfl,ru⟩:=vals1 r;cases ru;have W:xs.length=l.length:=by have:=congrArg YX e2;simpa using this
  exact O9 I h2 λt s' Y=>⟨.int xs.length,H,Y,⟨t,rfl⟩,by rw[W];exact q _ H (Ext.refl _ _) (.int _)⟩
 | [],_,e=>cases e
 | [.non],_,e=>cases e
 | [.bl _],_,e=>cases e
 | [.int _],_,e=>cases e
 | [.dT _],_,e=>cases e
 | _::_::_,_,e=>simp[g5]at e
noncomputable def wY:List D->Option D
 | [.int i,.int j]=>some (.int (if j>i then j else i))
 | _=>none
theorem DS{ds:List D}{g:Int->Int->D}(h:(match ds with|[.int i,.int j]=>some (g i j)|_=>none)=some d):∃i j,ds=[.int i,.int j]/\d=g i j:=by
 split at h
 ·cases h;exact⟨_,_,rfl,rfl⟩
 ·cases h
theorem IR(z:X.calm=true):kA X (.builtin "max") wY:=CallR.mono (B4 z) <| by
 rintro xs H Q ⟨A,ds,d,G,r,e,q⟩;obtain⟨i,j,rfl,rfl⟩:=DS (g:=λi j=>.int (if j>i then j else i)) e;obtain⟨v,w,rfl,h1,h2⟩:=r.two;have:=h1.int_inv;subst this;have:=h2.int_inv;subst this;exact⟨i,j,rfl,q _ H (Ext.refl _ _) (.int _)⟩
noncomputable def qU:List D->Option D
 | [.lst l]=>some (.tup l)
 | [.tup l]=>some (.tup l)
 | _=>none
noncomputable def rE:List D->Option D
 | [.lst l]=>some (.lst l)
 | [.tup l]=>some (.lst l)
 | _=>none
theorem zP{ds:List D}{g:List D->D}(h:(match ds with|[.lst l]=>some (g l)|[.tup l]=>some (g l)|_=>none)=some d):∃l,(ds=[.lst l]\/ds=[.tup l])/\d=g l:=by
 split at h
 ·cases h;exact⟨_,.inl rfl,rfl⟩
 ·cases h;exact⟨_,.inr rfl,rfl⟩
 ·cases h
theorem hZ:kA X (.type "tuple") qU:=CallR.mono rR <| by
 rintro xs H Q ⟨A,ds,d,N,r,e,q⟩;obtain⟨l,J,rfl⟩:=zP (g:=.tup) e;rcases J with rfl|rfl
 ·obtain⟨v,rfl,h1⟩:=r.one
  obtain⟨a,xs,rfl,h2,z⟩:=h1.lst_inv;exact⟨a,xs,rfl,.inl ⟨.inl h2,λp G=>q _ _ (Ext.new G) (.tup aT (z.ext (Ext.new G)))⟩⟩
 ·obtain⟨v,rfl,h1⟩:=r.one
  obtain⟨a,xs,rfl,h2,z⟩:=h1.tup_inv;exact⟨a,xs,rfl,.inr ⟨.inl (.inl h2),q _ H (Ext.refl _ _) (.tup h2 z)⟩⟩
theorem JV:FP X (.type "list") rE:=CallR.mono uE <| by
 rintro xs H Q ⟨A,ds,d,N,r,e,q⟩;obtain⟨l,U,rfl⟩:=zP (g:=.lst) e;rcases U with rfl|rfl
 ·obtain⟨v,rfl,h1⟩:=r.one
  obtain⟨a,xs,rfl,h2,J⟩:=h1.lst_inv;exact⟨a,xs,rfl,.inl (.inl h2),λp G=>q p _ (Ext.new G) G (λz=>N p z G) (.lst aT (J.fresh G))⟩
 ·obtain⟨v,rfl,h1⟩:=r.one
  obtain⟨a,xs,rfl,h2,J⟩:=h1.tup_inv;exact⟨a,xs,rfl,.inr (.inl (.inl h2)),λp G=>q p _ (Ext.new G) G (λz=>N p z G) (.lst aT (J.fresh G))⟩
end
section
variable {X:Cx}{O:List Nat}
def ins{α:Type}(p:List Int×α):List (List Int×α)->List (List Int×α)
 | []=>[p]
 | q::r=>if HT.lexLt p.1 q.1=true then p::q::r else q::ins p r
def AU(g:D->Option D)(f:Ev):Ev:=λρ=>(f ρ).bind g
end
def JZ:D->Option Int->Option Int->Option D
 | .tup l,lo,hi=>some (.tup (cutD l lo hi))
 | .lst l,lo,hi=>some (.lst (cutD l lo hi))
 | _,_,_=>none
theorem SU:SlR X (rS JZ):=SlR.mono (SlR.or TB (SlR.mono TQ λx lo hi H Q (h:rS RA x lo hi H Q)=>by
  obtain⟨A,dx,d,z,G,e,q⟩:=h;exact⟨A,dx,d,z,G,e,λa H' x n N o=>q _ H' x ((o.av (A':=A) λb J=>.inl (.inl J)).rep N)⟩)) λx lo hi H Q ⟨A,dx,d,z,G,e,q⟩=>by
 cases dx with
 | tup l=>exact .inl ⟨A,_,d,z,G,e,q⟩
 | lst l=>exact .inr ⟨A,_,d,z,G,e,q⟩
 | _=>cases e
section
variable {ρ:cX}{f g:Ev}{d x y:D}{i j:Int}{k:Nat}
@[simp] theorem q_seq{f g:Sv}:bI f g ρ=(f ρ).bind λo=>match o with | .nx ρ'=>g ρ'|o=>some o:=rfl
@[simp] theorem q_set:eW k f ρ=(f ρ).map λd=>.nx (ρ.set k (some d)):=rfl
@[simp] theorem q_if{c:Bv}{f g:Sv}:kP c f g ρ=(c ρ).bind λb=>if b=true then f ρ else g ρ:=rfl
@[simp] theorem q_rt:OM f ρ=(f ρ).map .rt:=rfl
@[simp] theorem q_nx:nH ρ=some (.nx ρ):=rfl
@[simp] theorem q_bad:kQ ρ=none:=rfl
@[simp] theorem q_asg{g:Gv}:N9 f g ρ=(f ρ).bind λd=>(g d ρ).map .nx:=rfl
@[simp] theorem q_for{f:Lv}{g:Gv}{b:Sv}:y2 f g b ρ=(f ρ).bind λitems=>kS g b items ρ:=rfl
@[simp] theorem q_drop:d8 f ρ=(f ρ).map λ_=>.nx ρ:=rfl
@[simp] theorem q_app:xD k f ρ=(aH k ρ).bind λx=>match x with
 | .lst l=>(f ρ).bind λd=>if aZ l.length then some (.nx (ρ.set k (some (.lst (l++[d])))))else none
 | _=>none:=rfl
@[simp] theorem q_put:F8 k f g ρ=(g ρ).bind λe=>(aH k ρ).bind λx=>(f ρ).bind λq=>(w9 x q e).map λd=>.nx (ρ.set k (some d)):=rfl
@[simp] theorem q_var:aH k ρ=(ρ[k]?).join:=rfl
@[simp] theorem q_c:eC d ρ=some d:=rfl
@[simp] theorem q_op:a6 o f g ρ=(f ρ).bind λx=>(g ρ).bind λy=>o x y:=rfl
@[simp] theorem q_call:aS F l ρ=(l ρ).bind F:=rfl
@[simp] theorem q_lnil:bC ρ=some []:=rfl
@[simp] theorem q_lcons:aI f l ρ=(f ρ).bind λx=>(l ρ).bind λxs=>some (x::xs):=rfl
@[simp] theorem q_tup:sE l ρ=(l ρ).map .tup:=rfl
@[simp] theorem q_lst:vJ l ρ=(l ρ).map .lst:=rfl
@[simp] theorem q_bind:AU o f ρ=(f ρ).bind o:=rfl
@[simp] theorem q_bof:fN f ρ=(f ρ).bind GI:=rfl
@[simp] theorem q_asB:GI (.bl b)=some b:=rfl
@[simp] theorem q_asI:OK (.int i)=some i:=rfl
@[simp] theorem q_bnot:F6 c ρ=(c ρ).map (!·):=rfl
@[simp] theorem q_band:yX a b ρ=(a ρ).bind λx=>if x=true then b ρ else some false:=rfl
@[simp] theorem q_bor:KO a b ρ=(a ρ).bind λx=>if x=true then some true else b ρ:=rfl
@[simp] theorem q_and:KN f g ρ=(f ρ).bind λx=>(GI x).bind λb=>if b=true then g ρ else some (.bl false):=rfl
@[simp] theorem q_or:RI f g ρ=(f ρ).bind λx=>(GI x).bind λb=>if b=true then some (.bl true)else g ρ:=rfl
@[simp] theorem q_neg:Q4 f ρ=(f ρ).bind λd=>(OK d).map λi=>.int (-i):=rfl
@[simp] theorem q_ifx:T4 c f g ρ=(c ρ).bind λb=>if b=true then f ρ else g ρ:=rfl
@[simp] theorem q_sl:TY o f a b ρ=(f ρ).bind λx=>(a ρ).bind λlo=>(b ρ).bind λhi=>o x lo hi:=rfl
@[simp] theorem q_oN:K5 ρ=some none:=rfl
@[simp] theorem q_oS:KZ f ρ=(f ρ).bind λd=>(OK d).map some:=rfl
@[simp] theorem q_lR:lR o l ρ=(l ρ).bind o:=rfl
@[simp] theorem q_lSeq:F7 f ρ=(f ρ).bind λd=>match d with
 | .lst l=>some l
 | .tup l=>some l
 | .dT l=>some (l.map λp=>.tup (p.1.map CM))
 | _=>none:=rfl
@[simp] theorem q_comp{ms:List (Option Nat)}{it:Lv}{g:Gv}{c:Bv}:m9 ms it g c f ρ=(it ρ).bind λitems=>if aZ items.length then(bA g c f items (g6 ms ρ)).map .lst else none:=rfl
@[simp] theorem q_yes:gG ρ=some true:=rfl
@[simp] theorem q_name:aY k d ρ=some (ρ.set k (some d)):=rfl
@[simp] theorem q_gnil:rH [] ρ=some ρ:=rfl
@[simp] theorem q_gcons{g:Gv}{h:LN}{ds:List D}:d7 g h (d::ds) ρ=(g d ρ).bind λρ'=>h ds ρ':=rfl
@[simp] theorem q_gtup:nC n h (.tup l) ρ=if l.length=n then h l ρ else none:=rfl
@[simp] theorem q_sub:Q3 (.int i) (.int j)=some (.int (i-j)):=rfl
@[simp] theorem q_addI:tY (.int i) (.int j)=some (.int (i+j)):=rfl
@[simp] theorem q_ltI:OO (.int i) (.int j)=some (.bl (decide (i<j))):=rfl
@[simp] theorem q_gtI:kD (.int i) (.int j)=some (.bl (decide (j<i))):=rfl
@[simp] theorem q_geI:N7 (.int i) (.int j)=some (.bl (decide (j<=i))):=rfl
@[simp] theorem q_eqI:lU (.int i) (.int j)=some (.bl (decide (i=j))):=by
 unfold lU CU;rw[if_pos (.inl rfl)];simp
@[simp] theorem q_neI:CO (.int i) (.int j)=some (.bl (!decide (i=j))):=by
 unfold CO CU;rw[if_pos (.inl rfl)];simp
@[simp] theorem q_eqB:lU (.bl a) (.bl b)=some (.bl (decide (a=b))):=by
 unfold lU CU;rw[if_pos (.inl rfl)];simp
@[simp] theorem q_neB:CO (.bl a) (.bl b)=some (.bl (!decide (a=b))):=by
 unfold CO CU;rw[if_pos (.inl rfl)];simp
theorem aF(h:0<j):jI (.int i) (.int j)=some (.int (i%j)):=if_pos h
theorem aQ(h:0<j)(h2:j<1073741824):oX (.int i) (.int j)=some (.int (i/j)):=if_pos ⟨h,h2⟩
theorem PN(h:My.y4 i j):AQ (.int i) (.int j)=some (.int (i*j)):=if_pos h
theorem gT(h:0<=j)(h2:j<=1000000)(q:i.natAbs<2^64):KD (.int i) (.int j)=some (.int (i^j.toNat)):=if_pos ⟨h,h2,q⟩
@[simp] theorem q_isN:KC d .non=some (.bl (tX d)):=rfl
@[simp] theorem q_lenL:g5 [.lst l]=some (.int l.length):=rfl
@[simp] theorem q_lenT:g5 [.tup l]=some (.int l.length):=rfl
@[simp] theorem q_max:wY [.int i,.int j]=some (.int (if j>i then j else i)):=rfl
@[simp] theorem q_tuL:qU [.lst l]=some (.tup l):=rfl
@[simp] theorem q_tuT:qU [.tup l]=some (.tup l):=rfl
@[simp] theorem q_liL:rE [.lst l]=some (.lst l):=rfl
@[simp] theorem q_liT:rE [.tup l]=some (.lst l):=rfl
@[simp] theorem q_slT{l:List D}{lo hi:Option Int}:JZ (.tup l) lo hi=some (.tup (cutD l lo hi)):=rfl
@[simp] theorem q_slL{l:List D}{lo hi:Option Int}:JZ (.lst l) lo hi=some (.lst (cutD l lo hi)):=rfl
@[simp] theorem q_itL:aP (.lst l) (.int i)=fF l i:=rfl
@[simp] theorem q_itT:aP (.tup l) (.int i)=fF l i:=rfl
@[simp] theorem q_itD:aP (.dT l) d=(nD (.dT l) d).join:=rfl
end
def turn(g:Gv)(b:Sv)(x:D):Sv:=λρ=>(g x ρ).bind b
theorem yU(I:Nat->cX->Prop)(h0:I 0 ρ)(hs:∀i x ρ,items[i]?=some x->I i ρ->∃ρ',turn g b x ρ=some (.nx ρ')/\I (i+1) ρ'):∃ρ',kS g b items ρ=some (.nx ρ')/\I items.length ρ':=by
 have G:∀(m:List D) (k:Nat) (ρ:cX),items.drop k=m->k<=items.length->I k ρ->∃ρ',kS g b m ρ=some (.nx ρ')/\I items.length ρ':=by
  intro m;induction m with
  | nil=>
   intro k ρ e hk h;have:items.length<=k:=by rw[List.drop_eq_nil_iff]at e;exact e
   have:k=items.length:=by lia
   subst this;exact⟨ρ,rfl,h⟩
  | cons x m ih=>
   intro k ρ e hk h;have q:k<items.length:=by
    rcases Nat.lt_or_ge k items.length with z|z
    ·exact z
    ·rw[List.drop_eq_nil_iff.mpr z]at e;cases e
   rw[ZM q]at e;injection e with e1 e2
   obtain⟨ρ',h1,h2⟩:=hs k x ρ (by rw[<- e1];simp[q]) h;obtain⟨N,h3,W⟩:=ih (k+1) ρ' e2 q h2;refine⟨N,?_,W⟩;unfold turn at h1;obtain⟨J,Y,U⟩:=bind_some h1;unfold kS;rw[Y];show(b J).bind _=_;rw[U];exact h3
 exact G items 0 ρ rfl (XN _) h0
theorem aM(h:f (aA n ds)=some (.rt d)):bM n f ds=some d:=by
 unfold bM;rw[h];rfl
theorem jA(h:f (aA n ds)=some (.nx ρ)):bM n f ds=some .non:=by
 unfold bM;rw[h];rfl
theorem aE(h:f ρ=some (.nx ρ')):bI f g ρ=g ρ':=by
 unfold bI;rw[h];rfl
theorem q0(h:f ρ=some (.rt d)):bI f g ρ=some (.rt d):=by
 unfold bI;rw[h];rfl
theorem KA(h:c ρ=some true):kP c f g ρ=f ρ:=by
 unfold kP;rw[h];rfl
theorem F9(h:c ρ=some false):kP c f g ρ=g ρ:=by
 unfold kP;rw[h];rfl
theorem aN(h:f ρ=some d):eW k f ρ=some (.nx (ρ.set k (some d))):=by
 unfold eW;rw[h];rfl
theorem IB{f:Lv}{g:Gv}{b rest:Sv}{ρ:cX}{items:List D}{q:Option Out}(z:f ρ=some items)(I:Nat->cX->Prop)(h0:I 0 ρ)(hs:∀i x ρ,items[i]?=some x->I i ρ->∃ρ',turn g b x ρ=some (.nx ρ')/\I (i+1) ρ')(k:∀ρ',I items.length ρ'->rest ρ'=q):bI (y2 f g b) rest ρ=q:=by
 obtain⟨ρ',e,h⟩:=yU (g:=g) (b:=b) I h0 hs;rw[aE (by rw[q_for,z];exact e)];exact k ρ' h
open My (look put LV QW PJ)
noncomputable def tupI(k:List Int):D:=.tup (k.map .int)
theorem tO:∀k:List Int,F4 (k.map .int)=some (k.map XR)
 | []=>rfl
 | i::k=>by rw[V0,F4,tO k];rfl
@[simp] theorem asT_tupI(k:List Int):RY (tupI k)=some (k.map XR):=tO k
theorem gB{ns:List Int}{k:Int}(h0:0<=k)(h:k<(ns.length:Int)):∃c,fF (ns.map D.int) k=some (.int c)/\ns[k.toNat]?=some c:=by
 obtain⟨j,rfl⟩:∃j:Nat,k=(j:Int):=⟨k.toNat,by lia⟩;have q:j<ns.length:=by lia
 exact⟨ns[j],bD (by simp[q]),by simp[q]⟩
noncomputable def wX:D->Option (List D)
 | .lst l=>some l
 | .tup l=>some l
 | _=>none
theorem JU{A:Av}{H:Hp}{K:U3}{d:D}{l:List D}{v:V}(h:wX d=some l)(r:Rep A H d v):∃t a xs,v=.ref a/\My.KQ K t H a xs/\RepL A H l xs/\∀A' H',Rep A' H' d v->∃ys,My.KQ K t H' a ys/\RepL A' H' l ys:=by
 cases d with
 | lst m=>
  cases h;obtain⟨a,xs,rfl,h1,z⟩:=RepB.lst_inv (.of r);refine⟨false,a,xs,rfl,.inl h1,z,λA' H' q=>?_⟩;obtain⟨J,ys,e,h2,G⟩:=RepB.lst_inv (.of q);cases e;exact⟨ys,.inl h2,G⟩
 | tup m=>
  cases h;obtain⟨a,xs,rfl,h1,z⟩:=RepB.tup_inv (.of r);refine⟨true,a,xs,rfl,.inl (.inl h1),z,λA' H' q=>?_⟩;obtain⟨J,ys,e,h2,G⟩:=RepB.tup_inv (.of q);cases e;exact⟨ys,.inl (.inl h2),G⟩
 | _=>cases h
@[simp] theorem q_seqL:wX (.lst l)=some l:=rfl
@[simp] theorem q_seqT:wX (.tup l)=some l:=rfl
theorem FJ(h1:-A<a)(h2:a<A)(G:-B<b)(q:b<B):-(A*B)<a*b/\a*b<A*B:=by
 have e:(a*b).natAbs<(A*B).natAbs:=by
  rw[Int.natAbs_mul,Int.natAbs_mul];exact Nat.mul_lt_mul_of_lt_of_le (by lia) (by lia) (by lia)
 have z:0<=A*B:=Int.mul_nonneg (by lia) (by lia)
 lia
end P
namespace P
end P
namespace P
open PySem PySem.Spec PyProof.Rows L2
@[simp] theorem q_chain:bW g g' fa fb fc ρ=(fa ρ).bind λx=>(fb ρ).bind λy=>(g x y).bind λz=>(GI z).bind λb=>if b=true then(fc ρ).bind λw=>g' y w else some (.bl false):=rfl
noncomputable def pick{α:Type}(l:List α)(lo hi st:Option Int):List α:=(sliceRange (XI lo hi st l.length).1 (XI lo hi st l.length).2.1 (XI lo hi st l.length).2.2).filterMap (l[·]?)
section
variable {X:Cx}{O:List Nat}
end
end P
namespace My
open PySem PySem.Spec PyProof.Rows L2 PySem.SeqAt
section
variable {X:Cx}
theorem Inv.gone(I:Inv X pins σ H s)(f:kT X pins H C)(hs:WN C s.heap h'):Inv X pins σ H {s with heap:=h'}:=by
 obtain⟨N,W,f2,U,f4,f5⟩:=f;refine I.call' (s':={s with heap:=h'}) (ch:=[C]) rfl ⟨λb o e n J G=>?_,λb o e n J G=>?_,λ_ _ _ n _=>n,λb o e G=>?_,λ_ _ q=>q,λ_ _ _ q=>q,λ_ ps q=>⟨#[],by simpa using q⟩⟩ ?_ I.bare λb J=>?_
 ·exact(hs.2 b (λz=>G (z ▸ List.mem_singleton.mpr rfl))).trans e
 ·exact⟨o.slots,(hs.2 b (λz=>G (z ▸ List.mem_singleton.mpr rfl))).trans e⟩
 ·exact⟨o,(hs.2 b (λz=>G (z ▸ List.mem_singleton.mpr rfl))).trans e⟩
 ·intro b ob e
  refine(I.hok b ob e).stay (λc w' Y q=>(hs.2 c ?_).trans q) (λ_ q=>q) λ_ _ q=>q
  rintro rfl;rcases Y with z|z
  ·subst z;rw[N]at e;cases e
  ·rw[N]at z;cases z
 ·rw[List.mem_singleton.mp J]
  exact⟨U,W,f4,f5⟩
theorem zS(hN:X.N.Nodup)(af:X.N[i]?=some x)(hx:Loc X.env.scope x)
  (hc:X.calm=true) (U:Clo X N scope cl) (hi:PI X tg iter wi) (hg:∀C s H fp,PG (aX X N scope cl C s H fp) tg g) (ht:∀C s H fp,AZ (aX X N scope cl C s H fp) ifs tt) (he:∀C s H fp,PE (aX X N scope cl C s H fp) elt te)
  (hs:∀x,WY iter X.env x=pure x:=by intro _;rfl) (ag:V2 (.ListComp elt [⟨tg,iter,ifs,0⟩] scope pos) (some (.Name x pos')) spos.line X.env=pure true:=by rfl)
  (hf:X.fn x=true\/X.env.scope.names.lookup x=some .local:=by first|exact .inl rfl|exact .inr rfl) :
  PS X (.Assign [.Name x pos'] (.ListComp elt [⟨tg,iter,ifs,0⟩] scope pos) spos) (yZ (FS wi g tt te (Start X N scope)) (nB i)):=by
 intro pins s σ H D I h;obtain⟨al,sS,hw⟩:=h;rw[exec_Assign_Name_used _ _ _ _ ag];refine U4 (Y9 (U4 ?_));show wpAny _ X.A (do let _ <- comprehension (.ListComp elt [⟨tg,iter,ifs,0⟩] scope pos) scope X.env _ (newList []) false (eval iter X.env) (some (WO (.Name x pos') X.env))) _ _ s;refine U4 (VP (wpAny_comprehension_free (use:=some (WO (.Name x pos') X.env)) (Q:=λ_ s'=>SP X pins D .next s') rfl hs U.clos U.kind U.names
  (b7 (hi pins s σ H _ I hw) λv s1 h1=>b7 h1 λax s2 h2=>?_)) (λ_ s' hq=>U9 (U9 hq)) λ_ _ e=>e)
 obtain⟨it,fp,tn,J,H2,e,I2,T,ac,f2,q2⟩:=h2;subst e;refine sI (wi:=wi) (Q:=λv H1=>nB i v σ H1 D.nx) (RR:=λaa C=>compPost (model X.prog X.w) X.A X.xe (some (WO (.Name x pos') X.env)) (λ_ s'=>SP X pins D .next s') aa C) hc U hg ht he I2 T ac f2 sS q2 ?_
 intro s3 s5 H3 W ao D1 I3 f3 Y q;obtain⟨m,hn,_⟩:=id Y.loc;have I6:Inv X pins σ W s5:=comp_back I3 f3 Y (Heap.SameBut.refl _ _);have fc:kT X pins W s3.heap.objs.size:=I3.fpOk (VG _) Y.free;show wpAny _ X.A (WO (.Name x pos') X.env (.ref D1)) _ _ s5;refine wpAny_assign_Name (sN (v:=.ref D1) I6 hN af hx rfl (λs7 I7 ⟨a,ae,G⟩=>?_) hf);have ne:s3.heap.objs.size≠a:=λz=>by
  rcases G with G|G
  ·exact fc.2.1 (z.trans G)
  ·exact fc.2.2.2.2.1 x a G z.symm
 exact⟨m,Heap.Ns.sameBut hn ae ne,λh' ab=>⟨_,W,Inv.gone I7 fc ab,q⟩⟩
end
end My
namespace P
open PySem PySem.Spec PyProof.Rows L2 PySem.SeqAt
section
variable {X:Cx}{O O':List Nat}{L:Lp}
theorem yF(Y:PS X (.Assign [.Name x pos'] e pos) (yZ (tD Rep O f) (nB i)))(h:Sub O' (O.filter (· != i))=true):PSD X L O (.Assign [.Name x pos'] e pos) (eW i f) O':=
 PS.mono Y <| by
  rintro T σ H ⟨H0,A0,A,E,ρ,U,st,e,p⟩;obtain⟨d,W,rfl⟩:=map_some e;refine⟨H0,A0,A,E,ρ,d,st,W,λv H' x r=>?_⟩;have J:=(st.mono x).more r;obtain⟨A',G⟩:=J.shut (O':=O') λj N=>(Sub.er h N).1
  exact p A' _ H' ((G.put (G.ext _ (VR ..)) λz=>(Sub.er h z).2 rfl).less λq hq=>VW _ hq)
theorem v6(W:PS X (.Assign [.Name x pos'] e pos) (yZ (tF O f) (nB i)))(h:Sub O' (i::O)=true)(G:O.contains i=false):PSD X L O (.Assign [.Name x pos'] e pos) (eW i f) O':=
 PS.mono W <| by
  rintro T σ H ⟨H0,A0,A,E,ρ,J,st,e,p⟩;obtain⟨d,N,rfl⟩:=map_some e;refine⟨H0,A0,A,E,ρ,d,st,N,λa H' x n U o=>?_⟩;have ni:i∉O:=λz=>by
   have:O.contains i=true:=by simpa using z
   rw[G]at this;cases this
  obtain⟨Y,q⟩:=(st.own_put x n U o ni).shut (Sub.mem h);exact p Y _ H' q
theorem PZ:tD Rep O f σ H Q->tF O f σ H Q:=λ⟨H0,A0,A,E,ρ,d,st,e,q⟩=>
 ⟨H0,A0,A,E,ρ,d,st,e,λa H' x n G o=>q _ H' x ((o.av (A':=A) λb z=>.inl (.inl z)).rep G)⟩
theorem DH(U:X.N.Nodup)(z:X.N[i]?=some x)(hx:Loc X.env.scope x)
  (hc:X.calm=true) (Y:My.Clo X N scope cl) (q:d5 X scope N ms) (W:(ms.all λo=>match o with|some i=>!O.contains i|none=>true)=true) (hi:PDI X O tg iter it) (hg:∀C s H fp,vQ (My.aX X N scope cl C s H fp) [] tg g)
  (ht:∀C s H fp,My.AZ (My.aX X N scope cl C s H fp) ifs (tDT [] c)) (he:∀C s H fp,PD (My.aX X N scope cl C s H fp) [] elt f) (h:Sub O' (O.filter (· != i))=true:=by rfl) (hs:∀x,WY iter X.env x=pure x:=by intro _;rfl)
  (G:V2 (.ListComp elt [⟨tg,iter,ifs,0⟩] scope pos) (some (.Name x pos')) spos.line X.env=pure true:=by rfl) (J:X.fn x=true\/X.env.scope.names.lookup x=some .local:=by first|exact .inl rfl|exact .inr rfl) :
  PSD X L O (.Assign [.Name x pos'] (.ListComp elt [⟨tg,iter,ifs,0⟩] scope pos) spos) (eW i (m9 ms it g c f)) O':=
 yF (PS.mono (My.zS U z hx hc Y hi hg ht he hs G J) λT σ H w=>qQ q W _ _ _ (PZ w)) h
theorem BO(W:X.N.Nodup)(z:X.N[i]?=some x)(hx:Loc X.env.scope x)
  (hc:X.calm=true) (cc:My.Clo X N scope cl) (q:d5 X scope N ms) (Y:(ms.all λo=>match o with|some i=>!O.contains i|none=>true)=true) (hi:PDI X O tg iter it) (hg:∀C s H fp,vQ (My.aX X N scope cl C s H fp) [] tg g)
  (ht:∀C s H fp,My.AZ (My.aX X N scope cl C s H fp) ifs (tDT [] c)) (he:∀C s H fp,PD (My.aX X N scope cl C s H fp) [] elt f) (h:Sub O' (i::O)=true:=by rfl) (J:O.contains i=false:=by rfl) (hs:∀x,WY iter X.env x=pure x:=by intro _;rfl)
  (G:V2 (.ListComp elt [⟨tg,iter,ifs,0⟩] scope pos) (some (.Name x pos')) spos.line X.env=pure true:=by rfl) (U:X.fn x=true\/X.env.scope.names.lookup x=some .local:=by first|exact .inl rfl|exact .inr rfl) :
  PSD X L O (.Assign [.Name x pos'] (.ListComp elt [⟨tg,iter,ifs,0⟩] scope pos) spos) (eW i (m9 ms it g c f)) O':=
 v6 (PS.mono (My.zS W z hx hc cc hi hg ht he hs G U) λT σ H w=>qQ q Y _ _ _ w) h J
end
end P
namespace My
open PySem PySem.Spec PyProof.Rows L2 PySem.SeqAt
def Q9(K:U3)(n:Nat)(t:LL):TG:=λv σ H Q=>∃a xs,v=.ref a/\(SqT K H a xs\/SqL K H a xs)/\xs.length=n/\t xs σ H Q
theorem qY(Y:X.calm=true)(h:PGs X es t)
  (N:(WF es X.env).length=n:=by rfl) (q:(WF es X.env).findIdx? (·.1)=none:=by rfl):PG X (.Tuple es k pos) (Q9 X.K n t):=by
 intro pins s σ H v u Q I r hw;obtain⟨a,xs,e1,z,U,hw⟩:=hw;subst e1;rcases z with z|z
 ·exact FC Y h N q pins s σ H _ u Q I r ⟨a,xs,rfl,z,U,hw⟩
 ·cases r
  obtain⟨G,J,ht,hz⟩:=I.list z;have hsz:(WF es X.env).length=G.toArray.size:=by simp[N,<- U,J.length]
  rw[assign_Tuple];refine U4 (Y9 ?_);unfold unpack;rw[hsz,q];refine U4 (XT (PySem.W.kun_itemsOf (I.ok.hd Y) (My.PlainL.isList ht) λh' hx=>?_));have I1:Inv X pins σ H {s with heap:=h'}:=I.kept (t':=s.toks) λb o e=>hx b o (VY (VE e)) e
  exact h pins _ σ H xs _ Q I1 (by simpa using J) hw
end My
namespace P
open PySem PySem.Spec PyProof.Rows L2 PySem.SeqAt
def oP(n:Nat)(k:LN):Gv:=λd ρ=>match d with
 | .tup l=>if l.length=n then k l ρ else none
 | .lst l=>if l.length=n then k l ρ else none
 | _=>none
theorem mX(J:PG X tg (My.Q9 X.K n (tDGs O k))):vQ X O tg (oP n k):=PG.mono J <| by
 rintro v σ H Q ⟨H0,A0,A,E,ρ,d,ρ',st,r,e,q⟩;cases d with
 | tup l=>
  obtain⟨a,xs,rfl,h,G⟩:=RepB.tup_inv (.of r);by_cases z:l.length=n
  ·simp only[oP,if_pos z]at e
   exact⟨a,xs,rfl,.inl (.inl (.inl h)),by rw[G.length];exact z,H0,A0,A,E,ρ,l,ρ',st,G,e,q⟩
  ·simp only[oP,if_neg z]at e;cases e
 | lst l=>
  obtain⟨a,xs,rfl,h,G⟩:=RepB.lst_inv (.of r);by_cases z:l.length=n
  ·simp only[oP,if_pos z]at e
   exact⟨a,xs,rfl,.inr (.inl h),by rw[G.length];exact z,H0,A0,A,E,ρ,l,ρ',st,G,e,q⟩
  ·simp only[oP,if_neg z]at e;cases e
 | _=>cases e
@[simp] theorem q_gseqT:oP n h (.tup l) ρ=if l.length=n then h l ρ else none:=rfl
@[simp] theorem q_gseqL:oP n h (.lst l) ρ=if l.length=n then h l ρ else none:=rfl
end P
namespace P
open PySem PySem.Spec PyProof.Rows L2
def cf(q:List My.Tm)(k:List Int):Int:=(My.look q k).getD 0
theorem qZ{f:Lv}{g:Gv}{b rest:Sv}{ρ:cX}{items:List D}{R:D->Prop}(q:f ρ=some items)(I:Nat->cX->Prop)(h0:I 0 ρ)(hs:∀i x ρ,items[i]?=some x->I i ρ->∃ρ',turn g b x ρ=some (.nx ρ')/\I (i+1) ρ')(k:∀ρ',I items.length ρ'->∃d,rest ρ'=some (.rt d)/\R d):∃d,bI (y2 f g b) rest ρ=some (.rt d)/\R d:=by
 obtain⟨ρ',e,h⟩:=yU (g:=g) (b:=b) I h0 hs;rw[aE (by rw[q_for,q];exact e)];exact k ρ' h
theorem i8{n:Nat}{ds:List D}{R:D->Prop}(h:∃d,f (aA n ds)=some (.rt d)/\R d):∃d,bM n f ds=some d/\R d:=by
 obtain⟨d,e,r⟩:=h;exact⟨d,aM e,r⟩
end P
namespace My
open PySem PySem.Spec PyProof.Rows L2 PySem.SeqAt
end My
namespace P
open PySem PySem.Spec PyProof.Rows L2 PySem.SeqAt
section
variable {X:Cx}
end
end P
namespace My
open PySem PySem.Spec PyProof.Rows L2 PySem.SeqAt
end My
namespace P
open PySem PySem.Spec PyProof.Rows L2 PySem.SeqAt
end P
namespace My
open PySem PySem.Spec PyProof.Rows L2
section
variable {X:Cx}
theorem oD(ns:List Int):∀n,n<=ns.length->preSum (λi=>(ns[i]?).getD 0) n=(ns.take n).sum
 | 0,_=>by simp[preSum]
 | n+1,h=>by
  have e:ns[n]?=some (ns[n]'(by lia)):=by simp
  rw[preSum,oD ns n (by lia),ZN,List.sum_append_int,e];simp
theorem v8{ns:List Int}{q:List Value}(r:Vals (ns.map V.int) q){i:Nat}(h:q[i]?=some v):∃t,v=.int ((ns[i]?).getD 0) t:=by
 have G:=r.length;rw[VL]at G;have hi:i<ns.length:=by rw[G];exact(List.getElem?_eq_some_iff.mp h).1
 have e:(ns.map V.int)[i]?=some (.int ns[i]):=by simp[hi]
 obtain⟨u,z,J⟩:=r.get e;rw[h]at z;cases z;obtain⟨t,rfl⟩:=J;exact⟨t,by simp[hi]⟩
theorem BU(hc:X.calm=true):CallR X (.builtin "sum") (λxs H Q=>∃(p:Addr) (ns:List Int),xs=[.ref p]/\SqL X.K H p (ns.map V.int)/\Q (.int ns.sum) H):=by
 intro pins s σ H xs us Q I r h;obtain⟨p,ns,rfl,hq,q⟩:=h;obtain⟨u,rfl,rx⟩:=vals1 r;cases rx;obtain⟨J,r',pl,hz⟩:=I.list hq;have hl:s.heap.IsList p J.toArray:=pl.isList;obtain⟨o,ho,ak,n,hd⟩:=id hl;have aa:p≠s.heap.objs.size:=VY (VE ho);have W:=(Walks.list (prog:=X.prog) (w:=X.w) (A:=X.A.in1) (I.ok.hd hc) s.heap.objs.size p aa J.toArray).toS;refine call_sum_walkAnyS (ZA hl ?_);refine⟨s.heap.objs.size,_,_,_,_,_,_,(λi=>(ns[i]?).getD 0),rfl,W,⟨⟨_,V3 _ rfl,rfl,rfl⟩,hl.at λo e=>VI _ e⟩,λb G=>?_,λi v hP=>v8 r' (by simpa using hP),λs' t' N=>?_⟩
 ·rcases List.mem_cons.mp G with rfl|G
  ·exact VE (V3 _ rfl)
  ·obtain rfl:=List.mem_singleton.mp G
   exact VE (VI _ ho)
 ·obtain⟨h',g',d',Y,U⟩:=s'
  have e1:g'=s.gens:=N.gens;have e2:d'=s.drawn:=N.drawn;have e3:U=s.os:=N.os;subst e1 e2 e3;have hk:∀b o,s.heap.get? b=some o->h'.get? b=some o:=λb o e=>N.heap b o (λG=>absurd (VE e) ((List.mem_singleton.mp G) ▸ XB _)) (VI _ e)
  refine⟨.int ns.sum,H,I.kept (t':=Y) hk,⟨t',?_⟩,q⟩;have z:=r'.length;rw[VL]at z;rw[VJ,<- z,oD ns ns.length (VG _),zaY]
theorem IS:OpR X (V4 .Add) (λx y H Q=>∃a b ys,x=.ref a/\y=.ref b/\SqT X.K H a []/\SqT X.K H b ys/\Q (.ref b) H):=by
 intro pins s σ H x y v u Q I rx ry h;obtain⟨a,b,ys,rfl,rfl,ha,hb,q⟩:=h;cases rx;cases ry;obtain⟨ad,r1,p1,_⟩:=I.tuple ha;obtain⟨z,r2,p2,_⟩:=I.tuple hb;have e1:ad=[]:=r1.nil_iff.mpr rfl;subst e1;obtain⟨⟨cls,dd,data,sl⟩,ho,hc,n,hd⟩:=p1;obtain⟨⟨U,ae,G,ab⟩,W,af,n2,ac⟩:=p2;have aa:cls=.type "tuple" := hc;have Y:data=.seq #[] n:=hd;have J:U=.type "tuple" := af;have N:G=.seq z.toArray n2:=ac;subst aa Y J N;exact concat_meets ⟨_,ho,rfl⟩ ⟨_,W,rfl⟩ zaH seq_tuple_add zaI zaJ (zaK _ _)
  (tuple_addW0 a b #[] z.toArray n n2 dd ae sl ab rfl) ⟨ho,W,.ref b,H,I,rfl,q⟩
def O0:R2:=λx y H Q=>∃l k xs,x=.ref l/\y=.int k/\Rd H l (.lst xs)/\-(2^63)<=k/\k<2^63/\xs.length*k.toNat<=VA /\
 ∀p,H p=none->Q (.ref p) (upd H p (.lst (V6 k.toNat xs).flatten))
theorem JP:OpR X (V4 .Mult) O0:=by
 intro pins s σ H x y v u Q I rx ry h;obtain⟨l,k,xs,rfl,rfl,hH,h1,h2,hz,q⟩:=h;cases rx;obtain⟨t,rfl⟩:=ry;obtain⟨z,G,n,r,hl,e⟩:=P.Inv.lstR I hH;have N:G.toArray.size*k.toNat<=VA:=by rw[VJ,<- hl];exact hz
 have aa:¬ G.toArray.size*k.toNat>(2^63-1)/8:=by
  have:(VA:Nat)<=(2^63-1)/8:=by decide
  lia
 have W:¬ (!Builtin.List.listFitsIndex k)=true:=by
  rw[fitsIndex_both h1 h2];exact VH
 have J:¬ zaN (G.toArray.size*k.toNat)=true:=by
  rw[D2 N];exact VH
 have Y:List.foldl (λx1 x2=>x1++x2) #[] (V6 (if G.toArray.isEmpty=true then 0 else k.toNat) G.toArray)=(V6 k.toNat G).flatten.toArray:=by
  have f0:∀m:Nat,List.foldl (λx1 x2=>x1++x2) #[] (V6 m G.toArray)=(V6 m G).flatten.toArray:=λm=>by
   have:=foldl_rep G m [];rw[List.nil_append]at this;exact this
  rw[f0];cases G with
  | nil=>simp
  | cons a r'=>rw[if_neg (by simp)]
 refine wpAny_binaryOp_repeat_ref (T := "list") (U := "int") (by decide) ⟨_,e,rfl⟩ (λs'=>ZJ s' k t) noFill_list_mul F.fills_int_mul F.slot_int_rmul repeat_list F.slot_int_index.lookup
  (call_meets F.slot_int_rmul (ZJ s k t) F.entry_int_rmul (F.args_int_rmul_2 _ _) (int___rmul___int_list k t l G.toArray n)
   ⟨e,rfl,⟨_,e,rfl⟩,call_meets F.slot_list_mul ⟨_,e,rfl⟩ F.entry_list_mul (F.args_list_mul_2 _ _) (AutoListH.list___mul___list_int_3 l G.toArray n k t W aa J) ⟨e,?_⟩⟩)
 rw[Y];exact⟨.ref _,_,I.lnew (t':=s.toks) (r.rep k.toNat) (by rw[len_rep,Nat.mul_comm];exact hz),rfl,q _ I.fresh⟩
end
end My
namespace P
open PySem PySem.Spec PyProof.Rows L2
theorem aC{q z:Type}(a:q)(f:q->Option z):(some a).bind f=f a:=by rw[U5]
theorem aG{q z:Type}(a:q)(f:q->z):(some a).map f=some (f a):=by rw[U6]
section
variable {X:Cx}{O O':List Nat}{L:Lp}
noncomputable def F1:List D->Option D
 | [.int i]=>some (.int i)
 | [.bl b]=>some (.int (if b then 1 else 0))
 | _=>none
theorem ND:kA X (.type "int") F1:=CallR.mono A6 <| by
 rintro xs H Q ⟨A,ds,d,G,r,e,q⟩;unfold F1 at e;split at e
 ·cases e
  obtain⟨v,rfl,z⟩:=r.one;cases z.int_inv;exact .inl ⟨_,rfl,q _ H (Ext.refl _ _) (.int _)⟩
 ·cases e
  obtain⟨v,rfl,z⟩:=r.one;cases z.bl_inv;exact .inr ⟨_,rfl,q _ H (Ext.refl _ _) (.int _)⟩
 ·cases e
@[simp] theorem q_intB:F1 [.bl b]=some (.int (if b then 1 else 0)):=rfl
@[simp] theorem q_intI:F1 [.int i]=some (.int i):=rfl
open Classical in
def dE:D->D->Option D:=CT λi j=>if My.y4 i j then some (.int (i*j))else none
theorem y9:dE=AQ:=by
 unfold dE AQ;congr 1
theorem d4:jK X (V4 .Mult) dE:=by rw[y9];exact MF
theorem NK(h:My.y4 i j):dE (.int i) (.int j)=some (.int (i*j)):=by rw[y9];exact PN h
theorem dI(h:-(10^250)<i)(h1:i<10^250)(h2:-(10^250)<j)(q:j<10^250):dE (.int i) (.int j)=some (.int (i*j)):=NK ⟨⟨h,h1⟩,h2,q⟩
def GE:List D->Option D
 | [.lst l]=>(j9 l).map λns=>.int ns.sum
 | _=>none
theorem E3(N:X.calm=true):kA X (.builtin "sum") GE:=CallR.mono (My.BU N) <| by
 rintro xs H Q ⟨A,ds,d,U,r,e,q⟩;unfold GE at e;split at e
 ·obtain⟨ns,J,rfl⟩:=map_some e
  obtain⟨v,rfl,z⟩:=r.one;obtain⟨a,W,rfl,h1,G⟩:=z.lst_inv;rw[fY J G]at h1;exact⟨a,ns,rfl,.inl h1,q _ H (Ext.refl _ _) (.int _)⟩
 ·cases e
theorem jR:∀ns:List Int,j9 (ns.map .int)=some ns
 | []=>rfl
 | n::ns=>by rw[V0,j9,jR ns];rfl
@[simp] theorem q_sum{ns:List Int}:GE [.lst (ns.map .int)]=some (.int ns.sum):=by unfold GE;simp only[jR];rfl
def J2:D->D->Option D
 | .lst l,.int k=>if gQ k=true/\aZ (l.length*k.toNat)=true then some (.lst (V6 k.toNat l).flatten)else none
 | _,_=>none
theorem RepL.rep(r:RepL A H ds vs):∀k:Nat,RepL A H (V6 k ds).flatten (V6 k vs).flatten
 | 0=>.nil
 | k+1=>by rw[YK,YK,Y0,Y0];exact r.append (RepL.rep r k)
theorem E2(Y:PB X O a fa)(G:PB X O b fb):PF X O (.BinOp a .Mult b pos) (a6 J2 fa fb):=
 PE.mono (FW My.JP Y G) <| by
  rintro σ H Q ⟨H0,A0,A,E,ρ,d,st,e,q⟩;obtain⟨x,ex,e⟩:=bind_some e;obtain⟨y,ey,e⟩:=bind_some e;refine⟨H0,A0,A,E,ρ,x,st,ex,λv H1 N r1=>⟨H0,A0,A,E,ρ,y,st.mono N,ey,λw H2 U r2=>?_⟩⟩;unfold J2 at e;split at e
  ·rename_i _ l k _
   by_cases J:gQ k=true/\aZ (l.length*k.toNat)=true
   ·rw[if_pos J]at e
    cases e;obtain⟨p,xs,rfl,h3,W⟩:=(r1.ext U).lst_inv;cases r2.int_inv;have hk:=qD J.1;refine⟨p,k,xs,rfl,rfl,h3,by lia,by lia,by rw[W.length];exact i6 J.2,λb G=>?_⟩;have n0:H b=none:=(N.trans U).free G;have na:¬ A b:=λz=>(st.mono (N.trans U)).live b z G
    exact q b _ ((N.trans U).trans (Ext.new G)) n0 na (.lst aT ((W.rep k.toNat).fresh G))
   ·rw[if_neg J]at e;cases e
  ·cases e
@[simp] theorem q_rep:J2 (.lst l) (.int k)=if gQ k=true/\aZ (l.length*k.toNat)=true then some (.lst (V6 k.toNat l).flatten)else none:=rfl
def gP(x y:D):Option D:=match x,y with
 | .tup l,.tup m=>if aZ (l.length+m.length)then some (.tup (l++m))else none
 | x,y=>tY x y
theorem cM:jK X (V4 .Add) gP:=OpR.mono (OpR.or LY My.IS) <| by
 rintro x y H Q ⟨A,dx,Y,d,N,z,G,e,q⟩;unfold gP at e;split at e
 ·rename_i l m
  cases l with
  | nil=>
   by_cases J:aZ (([]:List D).length+m.length)=true
   ·rw[if_pos J]at e
    cases e;obtain⟨a,xs,rfl,h1,U⟩:=z.tup_inv;obtain⟨b,ys,rfl,h2,W⟩:=G.tup_inv;cases U;exact .inr ⟨a,b,ys,rfl,rfl,.inl (.inl h1),.inl (.inl h2),q _ H (Ext.refl _ _) (.tup h2 W)⟩
   ·rw[if_neg J]at e;cases e
  | cons a l=>
   refine .inl ⟨A,_,_,d,N,z,G,?_,q⟩;rw[<- e];rfl
 ·exact .inl ⟨A,_,_,d,N,z,G,e,q⟩
@[simp] theorem q_addAI:gP (.int i) (.int j)=some (.int (i+j)):=rfl
@[simp] theorem q_addAT:gP (.tup l) (.tup m)=if aZ (l.length+m.length)then some (.tup (l++m))else none:=rfl
@[simp] theorem q_addAL:gP (.lst l) (.lst m)=if aZ (l.length+m.length)then some (.lst (l++m))else none:=rfl
@[simp] theorem q_addAS:gP (.str l) (.str m)=if aZ (l.length+m.length)then some (.str (l++m))else none:=rfl
def j7(c:Bv)(b:Sv):Nat->cX->Option Out
 | 0,_=>none
 | n+1,ρ=>(c ρ).bind λt=>if t=true then(b ρ).bind λo=>match o with
   | .nx ρ'=>j7 c b n ρ'
   | .ct ρ'=>j7 c b n ρ'
   | .bk ρ'=>some (.nx ρ')
   | .rt d=>some (.rt d)
  else some (.nx ρ)
def u6(c:Bv)(b:Sv):Sv:=λρ=>j7 c b 100000 ρ
theorem BX(hp:YA (model X.prog X.w) X.A X.env X.xe)(hc:oR X O1 c g)(hb:PSDs X ⟨Ob,O1⟩ O1 body b O1)(h1:Sub O1 O=true)(h2:Sub O' O1=true)(h3:Sub O' Ob=true) :
  PSD X L O (.While c body [] pos) (u6 g b) O':=PS.mono (EL hp hc hb) λT σ H ⟨H0,A0,A,E,ρ,N,st,e,p⟩=>by
 obtain⟨A1,W⟩:=st.shut (Sub.mem h1);refine⟨λm σ H=>∃ρ A,ST H0 A0 A E O1 σ H ρ/\j7 g b m ρ=some N,⟨100000,ρ,A1,W,e⟩,?_⟩;rintro m σ H ⟨ρ,A,st,e⟩;cases m with
 | zero=>cases e
 | succ m=>
  obtain⟨t,et,e⟩:=bind_some e;refine⟨H0,A0,A,E,ρ,t,st,et,λH1 x1=>?_⟩;have fin:∀ {O2:List Nat} {A:Av} {σ:L2.St} {H:Hp} {ρ:cX},Sub O' O2=true->ST H0 A0 A E O2 σ H ρ->(∀A σ H,ST H0 A0 A E O' σ H ρ->T.nx σ H)->T.nx σ H:=λhs st k=>by
   obtain⟨z,Y⟩:=st.shut (Sub.mem hs);exact k z _ _ Y
  cases t with
  | true=>
   rw[if_pos rfl]at e;dsimp only;rw[if_pos rfl];obtain⟨o,eo,e⟩:=bind_some e;refine⟨λJ H'=>∃q z,ST H0 A0 z E O1 J H' q/\j7 g b m q=some N,λJ H' ⟨q,z,G,e2⟩=>⟨m,zaZ m,q,z,G,e2⟩,H0,A0,A,E,ρ,o,st.mono x1,eo,?_⟩;cases o with
   | nx q=>exact λz U H2 G=>⟨q,z,G,e⟩
   | ct q=>exact λz U H2 G=>⟨q,z,G,e⟩
   | bk q=>cases e;exact λz U H2 G=>fin h3 G p
   | rt d=>cases e;exact p
  | false=>
   rw[if_neg VH]at e;dsimp only;rw[if_neg VH];cases e;exact fin h2 (st.mono x1) p
end
theorem zR{P:U7}{w:World}{K:U3}{mg:Str->Option Value}{base:Heap}{x:Str}{st:Stmt}{N ps:List Str}{k:Nat}(G:My.DefAt K mg x st ps)(S:FnScope N ps (aJ st)):Fn P w K mg base x (k+1) ps (λ_=>none):=
 My.BodyOk.ok (k:=k) (N:=N) (λW J A outer s H vs Q E hr ⟨U,ds,d,Y,r,e,z,q⟩=>nomatch z) G S (λvs H Q E ⟨U,ds,d,_,_,e,z,_⟩=>nomatch z)
def dO(n:Nat)(b:(List D->Option D)->Sv):Nat->List D->Option D
 | 0=>λ_=>none
 | m+1=>bM n (b (dO n b m))
end P
namespace My
open PySem PySem.Spec PyProof.Rows L2
open AutoSeq1 (wpAny_loadPart')
theorem B1(l:Addr)(items:Array Value)(n:Nat)(G:Option Addr)(U:Array (Option Value)) :
  Meets (YI.«enumerate.__new__» ⟨[.type "enumerate",.ref l],[]⟩) (λ_ R s=>s.heap.get? l=some {cls:=.type "tuple",dict:=G,data:=.seq items n,slots:=U} /\
   R (.ok (.ret (.ref (s.heap.push {cls:=.type "tuple_iterator",data:=.fields #[.ref l,.int 0 0]}).objs.size)))
    {s with heap:=(s.heap.push {cls:=.type "tuple_iterator",data:=.fields #[.ref l,.int 0 0]}).push {cls:=.type "enumerate",data:=.fields #[.none,.bool false,.ref s.heap.objs.size,WA 0,.none,.none]} }):=
 .of_wp λprog w A R s h=>by
  obtain⟨N,g,d,tk,os⟩:=s;obtain⟨q,h⟩:=h;have J:=sub_enumerate;have z:Heap.IsTuple (Shared.heap ⟨N,g,d,tk,os⟩) l items:=⟨_,q,rfl,n,rfl⟩
  wp_walk using XX q
  refine wpAny_stack_any λst=>U9 ?_
  split
  ·rename_i c _ _ _ _ _
   cases(c == Value.type "enumerate")
   ·wp_walk using XX q,Z2 z
    exact⟨_,rfl,h⟩
   ·wp_walk using XX q,Z2 z
    exact⟨_,rfl,h⟩
  ·wp_walk using XX q,Z2 z
   exact⟨_,rfl,h⟩
section
variable {prog:U7}{w:World}{A:VC}{E:Value->U2->Prop}{s:U2}
theorem BJ(hl:SSq t s.heap l xs)
  (h:∀h',W9 h' (s.heap.objs.size+1) s.heap.objs.size 0 .none->SIt t h' s.heap.objs.size l 0->(∀b o,s.heap.get? b=some o->h'.get? b=some o)->Q (.ref (s.heap.objs.size+1)) {s with heap:=h'}) :
  wpAny (model prog w) A (call (.type "enumerate") [.ref l]) Q E s:=by
 obtain⟨⟨cls,J,data,sl⟩,Y,hc,n,hd⟩:=hl;have N:cls=.type (UG t):=hc;have W:data=.seq xs n:=hd;subst N W;have U:(s.heap.push (T3 t l)).objs.size=s.heap.objs.size+1:=Heap.size_push ..;have fin:W9 ((s.heap.push (T3 t l)).push {cls:=.type "enumerate",data:=.fields #[.none,.bool false,.ref s.heap.objs.size,WA 0,.none,.none]}) (s.heap.objs.size+1) s.heap.objs.size 0 .none:=by
  have:=V3 (s.heap.push (T3 t l)) (o:={cls:=.type "enumerate",data:=.fields #[.none,.bool false,.ref s.heap.objs.size,WA 0,.none,.none]}) rfl;rw[U]at this;exact this
 have q:=h _ fin ⟨_,VI _ (V3 _ rfl),rfl,rfl⟩ λb o x=>VI _ (VI _ x)
 cases t with
 | false=>
  refine callType_new F.called_enumerate (by decide) (F.typeCall_enumerate_1 _) (F.newCall_enumerate_1 _) (λG=>F.args_object_init_2 G _) F.entry_enumerate_new (meets_enumerate_newL l xs n J sl) ⟨Y,?_⟩;have z:(s.heap.push {cls:=.type "list_iterator",data:=.fields #[.ref l,.int 0 0]}).objs.size=s.heap.objs.size+1:=U;show _/\_;rw[z];exact⟨⟨_,fin,rfl⟩,q⟩
 | true=>
  refine callType_new F.called_enumerate (by decide) (F.typeCall_enumerate_1 _) (F.newCall_enumerate_1 _) (λG=>F.args_object_init_2 G _) F.entry_enumerate_new (B1 l xs n J sl) ⟨Y,?_⟩;have z:(s.heap.push {cls:=.type "tuple_iterator",data:=.fields #[.ref l,.int 0 0]}).objs.size=s.heap.objs.size+1:=U;show _/\_;rw[z];exact⟨⟨_,fin,rfl⟩,q⟩
theorem BK{t:Bool}{e it l:Addr}{i:Nat}{items:Array Value}{x an:Value}{Q:Value->U2->Prop}
  (he:W9 s.heap e it i an) (a1:SIt t s.heap it l i) (hl:SSq t s.heap l items) (hx:items[i]?=some x) (am:e≠it)
  (hQ:∀h', IsEnumOut h' e it ((i:Int)+1) x s.heap.objs.size -> SIt t h' it l (i+1) ->
   h'.get? s.heap.objs.size=some {cls:=.type "tuple",data:=.seq #[.int i s.toks,x]}->h'.objs.size=s.heap.objs.size+1->
   (∀b o,b≠e->b≠it->s.heap.get? b=some o->h'.get? b=some o)->Q (.ref s.heap.objs.size) {s with heap:=h',toks:=s.toks+1}) :
  wpAny (model prog w) A (YI.«enumerate.__next__» ⟨[.ref e],[]⟩) (λfin s'=>∃v,fin=.done (.ret v)/\Q v s') E s:=by
 obtain⟨hp,g,d,tk,os⟩:=s;show wpAny _ _ (field (.ref e) 2 >>= _) _ _ _;refine U4 (WG he rfl (x:=.ref it) rfl ?_);refine U4 (next_item a1 hl hx λY al N=>?_);replace N:WN it hp Y:=N;have ab:W9 Y e it i an:=(N.2 e am).trans he;show wpAny _ _ (field (.ref e) 3 >>= _) _ _ ⟨Y,g,d,tk,os⟩;refine U4 (WG ab rfl (x:=WA i) rfl ?_);show wpAny _ _ (field (.ref e) 4 >>= _) _ _ ⟨Y,g,d,tk,os⟩;refine U4 (WG ab rfl (x:=.none) rfl ?_);show wpAny _ _ (mkInt i >>= _) _ _ ⟨Y,g,d,tk,os⟩;refine U4 (wpAny_mkInt ?_);show wpAny _ _ (setField (.ref e) 3 (WA ((i:Int)+1)) >>= _) _ _ ⟨Y,g,d,tk+1,os⟩;refine U4 (ZO ab (by simp) λaf ae G=>?_);replace G:WN e Y af:=G;replace ae:W9 af e it ((i:Int)+1) an:=ae;show wpAny _ _ (setField (.ref e) 4 .none >>= _) _ _ ⟨af,g,d,tk+1,os⟩;refine U4 (ZO ae (by simp) λaa ad W=>?_);replace W:WN e af aa:=W;replace ad:W9 aa e it ((i:Int)+1) an:=ad;show wpAny _ _ (newTuple [.int i tk,x] >>= _) _ _ ⟨aa,g,d,tk+1,os⟩;refine U4 (wpAny_newTuple ?_);have ac:W9 (aa.push {cls:=.type "tuple",data:=.seq #[.int i tk,x]}) e it ((i:Int)+1) an:=VI _ ad;generalize hh₄:aa.push {cls:=.type "tuple",data:=.seq #[.int i tk,x]}=h₄ at ac;have hsz:aa.objs.size=hp.objs.size:=by rw[W.1,G.1,N.1]
 have as:e<hp.objs.size:=VE he;have au:h₄.get? hp.objs.size=some {cls:=.type "tuple",data:=.seq #[.int i tk,x]}:=by rw[<- hh₄,<- hsz];exact V3 _ rfl
 have ax:h₄.objs.size=hp.objs.size+1:=by rw[<- hh₄,Heap.size_push,hsz]
 have aw:∀b o,b≠e->b≠it->hp.get? b=some o->h₄.get? b=some o:=λb o ag ay hb=>by
  rw[<- hh₄];exact VI _ (W.extBut b o ag (G.extBut b o ag (N.extBut b o ay hb)))
 have ar:SIt t h₄ it l (i+1):=by
  rw[<- hh₄];exact al.to λo q=>VI _ (W.extBut it o (VZ am) (G.extBut it o (VZ am) q))
 show wpAny _ _ (zba (.ref e) >>= _) _ _ ⟨h₄,g,d,tk+1,os⟩;rw[hsz];clear hh₄ ad W ae G ab N al hsz aa af Y;refine U4 ?_
 ·unfold zba
  refine U4 (WG ac rfl (x:=.none) rfl (U9 ?_));simp only[if_true];refine U4 (wpAny_rule ?_);refine U4 (WG ac rfl (x:=an) rfl ?_);refine U4 (ZO ac (by simp) λak ai U=>?_);replace U:WN e h₄ ak:=U;replace ai:W9 ak e it ((i:Int)+1) x:=ai;show wpAny _ _ (zbb (.ref e) (.ref hp.objs.size) >>= _) _ _ ⟨ak,g,d,tk+1,os⟩;refine U4 ?_
  ·unfold zbb
   refine U4 (ZO ai (by simp) λao aj J=>?_);replace J:WN e ak ao:=J;replace aj:IsEnumOut ao e it ((i:Int)+1) x hp.objs.size:=aj;refine ZO aj (by simp) λap ah z=>?_
   replace z:WN e ao ap:=z;replace ah:IsEnumOut ap e it ((i:Int)+1) x hp.objs.size:=ah;refine U4 (ZP (U9 ⟨_,rfl,hQ ap ah ?_ ?_ ?_ ?_⟩))
   ·exact ar.to λo q=>z.extBut it o (VZ am) (J.extBut it o (VZ am) (U.extBut it o (VZ am) q))
   ·exact z.extBut _ _ (YC as) (J.extBut _ _ (YC as) (U.extBut _ _ (YC as) au))
   ·rw[z.1,J.1,U.1,ax]
   ·exact λb o ag ay hb=>z.extBut b o ag (J.extBut b o ag (U.extBut b o ag (aw b o ag ay hb)))
theorem BF{t:Bool}{e it l:Addr}{i:Nat}{items:Array Value}{x G:Value}{Q:Option Value->U2->Prop}
  (J:W9 s.heap e it i G) (q:SIt t s.heap it l i) (U:SSq t s.heap l items) (W:items[i]?=some x) (z:e≠it)
  (N:∀h', IsEnumOut h' e it ((i:Int)+1) x s.heap.objs.size -> SIt t h' it l (i+1) ->
   h'.get? s.heap.objs.size=some {cls:=.type "tuple",data:=.seq #[.int i s.toks,x]}->h'.objs.size=s.heap.objs.size+1->
   (∀b o,b≠e->b≠it->s.heap.get? b=some o->h'.get? b=some o)->Q (some (.ref s.heap.objs.size)) {s with heap:=h',toks:=s.toks+1}) :
  wpAny (model prog w) A (WU (.ref e)) Q E s:=by
 have hT:s.TypeIs (.ref e) "enumerate" := ⟨_,J,rfl⟩;unfold WU;exact U4 (zah (X6 (name:=WW "__next__") hT zas
  (XY zas hT F.entry_enumerate_next
   (BK J q U W z λh' a b c d k=>U9 (N h' a b c d k)) (F.args_enumerate_next_1 _))))
theorem DZ{t:Bool}{i:Nat}{items:Array Value}{Q:Option Value->U2->Prop}(hh:A.handled=none)
  (J:W9 s.heap e it i old) (q:SIt t s.heap it l i) (W:SSq t s.heap l items) (Y:items[i]?=none)
  (N:∀h',Heap.ExtBut it s.heap h'->Q none {s with heap:=h'}):wpAny (model prog w) A (WU (.ref e)) Q E s:=by
 have hT:s.TypeIs (.ref e) "enumerate" := ⟨_,J,rfl⟩;unfold WU;refine U4 (zah (X6 (name:=WW "__next__") hT zas
  (XY zas hT F.entry_enumerate_next ?_ (F.args_enumerate_next_1 _))))
 show wpAny _ _ (field (.ref e) 2 >>= _) _ _ _;refine U4 (WG J rfl (x:=.ref it) rfl ?_);refine U4 (next_end hh q W Y λh' x G z=>?_);obtain⟨o,ho,U⟩:=z;refine U4 (wpAny_isInstance (T := "StopIteration") (b:=true) ⟨o,ho,U⟩ isSubtype_stop ?_);exact U9 (N _ G)
end
def UB(K:U3)(t:Bool)(l:Addr):It:=
 ⟨λi H => ∃xs, KQ K t H l xs /\ i<xs.length, λi H x H' => ∃p u, x = .ref p /\ H p = none /\ H' = upd H p (.tup [.int (i:Int), u]) /\ ∀xs, KQ K t H l xs -> xs[i]? = some u,
  λi H=>∃xs,KQ K t H l xs/\xs.length<=i⟩
theorem BP{P:U7}{w:World}{K:U3}{ac:List Expr}{x1}{tp:Pos}(t:Bool){e it l:Addr}(ae:e≠it) :
  Turn P w K (.Tuple ac x1 tp) (UB K t l) [e,it] e (λi h=>(∃N,W9 h e it (i:Nat) N)/\SIt t h it l i) where
 mem:=by simp
 obj:=by
  rintro i h ⟨⟨N,U⟩,⟨o1,e1,_,d1⟩⟩ c z;simp only[XO,XQ,or_false]at z;rcases z with rfl|rfl
  ·exact⟨_,U,λv q=>by cases q⟩
  ·exact⟨o1,e1,λv q=>by rw[d1]at q;cases q⟩
 keep:=λi h h' ⟨⟨N,U⟩,Y⟩ k=>⟨⟨N,k e (by simp) _ U⟩,Y.to λo q=>k it (by simp) o q⟩
 item:=by
  intro X hP hw hK z i pins s σ H E I hf st hg;subst hP hw hK;obtain⟨⟨N,U⟩,Y⟩:=st;obtain⟨xs,q1,GF⟩:=hg;obtain⟨ad,r1,p1⟩:=yG I q1;have e1:xs[i]?=some xs[i]:=by simp[GF]
  obtain⟨u,eu,ru⟩:=r1.get e1;refine BF U Y p1 (x:=u) (by simpa using eu) ae λh' a1 a2 a3 a4 hk=>⟨_,rfl,?_⟩
  refine wpAny_letOwnedTupleGo_enum (s:={s with heap:=h',toks:=s.toks+1}) a1 λh2 ao sb=>?_
  have zz:∀c,c∈[e,it]->c<s.heap.objs.size:=λc z=>by
   simp only[XO,XQ,or_false]at z;rcases z with rfl|rfl
   ·exact VE U
   ·obtain⟨o,q,_⟩:=Y;exact VE q
  have W:∀c o,c≠e->h'.get? c=some o->h2.get? c=some o:=λc o z q=>sb.extBut _ _ z q
  have I1:Inv X pins σ H {s with heap:=h2,toks:=s.toks+1}:=p9 I hf λc o z q=>by
   simp only[XO,XQ,or_false,not_or]at z;exact W c o z.1 (hk c o z.1 z.2 q)
  have G:H s.heap.objs.size=none:=I.fresh;have am:h2.get? s.heap.objs.size=some {cls:=.type "tuple",data:=.seq #[.int i s.toks,u]}:=W _ _ (YC (zz e (by simp))) a3;have I2:Inv X pins σ (upd H s.heap.objs.size (.tup [.int (i:Int),xs[i]])) {s with heap:=h2,toks:=s.toks+1}:=by
   have ah:HOk X.prog X.w (upd H s.heap.objs.size (.tup [.int (i:Int),xs[i]])) h2:=λc ob q=>by
    by_cases z:c=s.heap.objs.size
    ·subst z;rw[aT]at q;cases q
     exact⟨by show 2<=VA;decide,[.int i s.toks,u],.cons ⟨_,rfl⟩ (.cons ru .nil),_,am,rfl,0,rfl,rfl⟩
    ·rw[aO z]at q
     exact(I1.hok c ob q).stay (λ_ _ _ q=>q) (λd q=>by rw[aO (bP q G)];exact q) λd ak q=>by rw[aO (bP q G)];exact q
   refine I.call' (s':={s with heap:=h2,toks:=s.toks+1}) (ch:=[e,it]) rfl ⟨λc o q _ _ J=>?_,λc o q _ _ J=>⟨o.slots,?_⟩,λc o q n J=>by rw[aO (VY (VE q))];exact n,λc o q J=>⟨o,?_⟩,λc ak q=>by rw[aO (bP q G)];exact q,λc o' u' q=>by rw[aO (bP q G)];exact q,λc ps q=>⟨#[],by rw[aO (bP q G),q];simp⟩⟩ ah I.bare λb hb=>?_
   ·simp only[XO,XQ,or_false,not_or]at J
    exact W c o J.1 (hk c o J.1 J.2 q)
   ·simp only[XO,XQ,or_false,not_or]at J
    exact W c o J.1 (hk c o J.1 J.2 q)
   ·simp only[XO,XQ,or_false,not_or]at J
    exact W c o J.1 (hk c o J.1 J.2 q)
   ·obtain⟨_,f1,_,f3,f4,f5⟩:=hf b hb
    exact⟨f3,f1,f4,f5⟩
  refine⟨.ref s.heap.objs.size,_,I2,rfl,⟨_,_,rfl,G,rfl,λas g1=>by rw[<- IJ I q1 g1];exact e1⟩,⟨⟨_,ao⟩,a2.to λo q=>W _ o (VZ ae) q⟩,λc z=>?_⟩;rw[aO (VY (zz c z))];exact(hf c z).1
 done:=by
  intro X hP hw hK z i pins s σ H E I hf st hg;subst hP hw hK;obtain⟨⟨N,U⟩,Y⟩:=st;obtain⟨xs,q1,ar⟩:=hg;obtain⟨ad,r1,p1⟩:=yG I q1;have n1:=r1.length;refine DZ (I.ok.hd z) U Y p1 (by simp;lia) λh' hk=>⟨rfl,p9 (t':=s.toks) I hf λc o z q=>?_⟩
  simp only[XO,XQ,or_false,not_or]at z;exact hk c o z.2 q
 self:=λ_ _ _ _ _ st h=>let ⟨⟨_,U⟩,_⟩:=st;wpAny_pyIter_enum U h
theorem boot_enumerate:V5 "enumerate" = some (.type "enumerate"):=by first|rfl|decide +kernel
def PM(K:U3)(ta:TA):TI:=λσ H R=>ta σ H λvs H1=>∃t l xs,vs=[.ref l]/\KQ K t H1 l xs/\R (UB K t l) H1
theorem IL{X:Cx}{z:List Expr}{x1}{tp:Pos}{a:Expr}{ta:TA}{p pos:Pos}(hg:Gl X "enumerate")(hm:X.mg "enumerate" = none)(ha:PA X [a] ta)(hs:U8 [a] X.env=[(false,eval a X.env)]:=by rfl) :
  PI X (.Tuple z x1 tp) (.Call (.Name "enumerate" p) [a] [] pos) (PM X.K ta):=by
 intro pins s σ H R I h;refine Call_ (nV I hg hm boot_enumerate (zaF (b7 (ha pos pins s σ H _ I h) λus U ⟨vs,H1,G,r1,N⟩=>?_) (by rw[hs];rfl) rfl));obtain⟨t,l,xs,rfl,N,q⟩:=N;obtain⟨u,rfl,ru⟩:=vals1 r1;cases ru;obtain⟨Y,_,p1⟩:=yG G N;refine BJ p1 λh' he W k=>?_
 refine wpAny_pyIter_enum he ?_;have D:U.heap.objs.size+1≠U.heap.objs.size:=by lia
 refine⟨_,[_,_],_,_,H1,rfl,G.kept (t':=U.toks) k,BP t D,⟨⟨_,he⟩,W⟩,λc J=>G.fpOk ?_ (G.hok.fresh ?_),q⟩
 ·simp only[XO,XQ,or_false]at J
  rcases J with rfl|rfl <;> lia
 ·simp only[XO,XQ,or_false]at J
  rcases J with rfl|rfl <;> lia
end My
namespace P
open PySem PySem.Spec PyProof.Rows L2
noncomputable def gD:Nat->List D->List D
 | _,[]=>[]
 | k,x::xs=>.tup [.int (k:Int),x]::gD (k+1) xs
def FT(f:Lv):Lv:=λρ=>(f ρ).bind λds=>match ds with
 | [a]=>(wX a).map (gD 0)
 | _=>none
theorem tU:∀ {xs:List D} {k i:Nat} {d:D},(gD k xs)[i]?=some d->∃x,xs[i]?=some x/\d=.tup [.int ((k+i:Nat):Int),x]
 | [],k,i,d,h=>by simp[gD]at h
 | x::xs,k,0,d,h=>by simp[gD]at h;exact⟨x,rfl,h.symm⟩
 | x::xs,k,i+1,d,h=>by
  obtain⟨y,q,z⟩:=tU (xs:=xs) (k:=k+1) (i:=i) (by simpa[gD]using h);exact⟨y,by simpa using q,by rw[z];congr 4;lia⟩
theorem sJ:∀(xs:List D) (k:Nat),(gD k xs).length=xs.length
 | [],_=>rfl
 | x::xs,k=>by simp[gD,sJ xs]
theorem ED{N}(hg:Gl X "enumerate")(hm:X.mg "enumerate" = none)(ha:vO X O [a] f)(hs:U8 [a] X.env=[(false,eval a X.env)]:=by rfl) :
  PDI X O (.Tuple elts N tp) (.Call (.Name "enumerate" p) [a] [] pos) (FT f):=PI.mono (My.IL hg hm ha hs) λσ H R ⟨H0,A0,A,E,ρ,items,st,e,q⟩=>by
 obtain⟨ds,e1,e⟩:=bind_some e;refine⟨H0,A0,A,E,ρ,ds,st,e1,λvs H1 N r1=>?_⟩;split at e
 case h_2=>cases e
 rename_i da;obtain⟨xs,e2,rfl⟩:=map_some e;obtain⟨v,rfl,Y⟩:=r1.one;obtain⟨t1,J,us,rfl,q1,_,k1⟩:=JU (K:=X.K) e2 Y;refine⟨t1,J,us,rfl,q1,q _ H1 [.rep da (.ref J)] N (λp hp=>?_) ?_⟩
 ·rw[List.mem_singleton.mp hp];exact Y
 ·intro A' H' lv hE i
  have a1:Rep A' H' da (.ref J):=hE (.rep da (.ref J)) (VR ..);obtain⟨z,g1,G⟩:=k1 A' H' a1;refine⟨λhi=>⟨z,g1,by rw[G.length];rw[sJ]at hi;exact hi⟩,λd hd=>?_⟩;obtain⟨x,ex,rfl⟩:=tU hd;obtain⟨u,U,ru⟩:=G.get' ex;refine⟨⟨z,g1,(List.getElem?_eq_some_iff.mp U).1⟩,λx' H2 ⟨p,u',e4,n,e5,e6⟩=>?_⟩;subst e4 e5;have W:=e6 z g1;rw[U]at W;cases W;rw[Nat.zero_add];exact⟨Ext.new n,.tup aT (.cons (.int _) (.cons (ru.ext (Ext.new n)) .nil))⟩
@[simp] theorem q_enum:FT f ρ=(f ρ).bind λds=>match ds with
 | [a]=>(wX a).map (gD 0)
 | _=>none:=rfl
end P
namespace P
open L2
structure Ro where
 j:Int
 k:Int
 a:Int
 b:Int
 p:Int
noncomputable def fl{α:Type}(h:Nat->Ro->List α):Nat->List Ro->List α
 | _,[]=>[]
 | m,r::rs=>h m r++fl h (m+1) rs
noncomputable def sg(q:Nat->Ro->Int):Nat->List Ro->Int
 | _,[]=>0
 | m,r::rs=>q m r+sg q (m+1) rs
end P
namespace P
open PySem PySem.Spec PyProof.Rows L2
theorem fR{n:Nat}(h:n<=1000000):dH [.int (n:Int)]=some (bH 0 1 n):=by
 show(if gQ (n:Int)then _ else _)=_;rw[if_pos (by simp only[gQ,WD,decide_eq_true_eq];lia)];simp
theorem fX(h0:0<=y)(h:y<=1000000):dH [.int y]=some (bH 0 1 y.toNat):=by
 show(if gQ y then _ else _)=_;rw[if_pos (by simp only[gQ,WD,decide_eq_true_eq];lia)]
theorem at0:fF (a::l) 0=some a:=bD (j:=0) rfl
theorem at1:fF (a::b::l) 1=some b:=bD (j:=1) rfl
theorem at2:fF (a::b::c::l) 2=some c:=bD (j:=2) rfl
theorem LJ:fF (a::b::c::d::l) 3=some d:=bD (j:=3) rfl
theorem UF:fF (a::b::c::d::e::l) 4=some e:=bD (j:=4) rfl
theorem j5{K:Nat}{f:Ev}{rest:List (Option D)}{F:Int->D}(h:∀k:Int,0<=k->k<(K:Int)->f (some (.int k)::rest)=some (F k)):∀(l:List Nat) (o:Option D),(∀k∈l,k<K)->bA (aY 0) gG f (l.map λ(k:Nat)=>D.int (k:Int)) (o::rest)=some (l.map λ(k:Nat)=>F (k:Int))
 | [],o,_=>rfl
 | k::l,o,hl=>by
  have ih:=j5 h l (some (.int (k:Int))) λm z=>hl m (VW _ z)
  have q:=h (k:Int) (by lia) (by have:=hl k (VR ..);lia);simp[bA,q,ih]
end P
namespace My
open PySem PySem.Spec PyProof.Rows L2
noncomputable def QX(a:Bool):String:=if a=true then "str_ascii_iterator" else "str_iterator"
noncomputable def TR(x:Str):It:=⟨λi H=>i<x.cps.size,λi H y H'=>H'=H/\∃c,x.cps[i]?=some c/\y=.str ⟨#[c]⟩,λi H=>x.cps.size<=i⟩
theorem EJ{P:U7}{w:World}{K:U3}{tg:Expr}(a:Bool)(x:Str)(t:Tok)(it:Addr):Turn P w K tg (TR x) [it] it (λi h=>h.IsStrIter it (QX a) x t i) where
 mem:=by simp
 obj:=λi h st b q=>by
  have e:b=it:=by simpa using q
  subst e;obtain⟨o,e,c,d⟩:=st;exact⟨o,e,λv z=>by rw[d]at z;cases z⟩
 keep:=λi h h' st k=>let ⟨o,ho,r⟩:=st;⟨o,k it (by simp) o ho,r⟩
 item:=by
  intro X hP hw hK hc i pins s σ H E I N st hg;subst hP hw hK;obtain⟨f0,W,f2,U,Y,f5⟩:=N it (by simp);have hi:i<x.cps.size:=hg;have J:x.cps[i]?=some x.cps[i]:=by simp[hi]
  cases a with
  | true=>
   refine wpAny_pyNext_ascii_item st J λh' G sb=>?_
   have I1:Inv X pins σ H {s with heap:=h',toks:=s.toks+1}:=I.turned (t':=s.toks+1) (λb o q e=>(sb.2 b q).trans e) f0 W U Y f5;obtain⟨o,e,c,d⟩:=id G;exact⟨_,rfl,tZ (s:={s with heap:=h',toks:=s.toks+1}) e c d (by decide) ⟨.str ⟨#[x.cps[i]]⟩,H,I1,⟨_,rfl⟩,⟨rfl,_,J,rfl⟩,G,λb q=>(N b q).1⟩⟩
  | false=>
   refine wpAny_pyNext_wide_item st J λh' G sb=>?_
   have I1:Inv X pins σ H {s with heap:=h',toks:=s.toks+1}:=I.turned (t':=s.toks+1) (λb o q e=>(sb.2 b q).trans e) f0 W U Y f5;obtain⟨o,e,c,d⟩:=id G;exact⟨_,rfl,tZ (s:={s with heap:=h',toks:=s.toks+1}) e c d (by decide) ⟨.str ⟨#[x.cps[i]]⟩,H,I1,⟨_,rfl⟩,⟨rfl,_,J,rfl⟩,G,λb q=>(N b q).1⟩⟩
 done:=by
  intro X hP hw hK hc i pins s σ H E I N st hg;subst hP hw hK;obtain⟨f0,W,f2,U,Y,f5⟩:=N it (by simp);have hi:x.cps.size<=i:=hg;have J:x.cps[i]?=none:=by simp[hi]
  cases a with
  | true=>exact wpAny_pyNext_ascii_end (I.ok.hd hc) st J λh' eb=>⟨rfl,I.turned (t':=s.toks) (λb o q e=>eb b o q e) f0 W U Y f5⟩
  | false=>exact wpAny_pyNext_wide_end (I.ok.hd hc) st J λh' eb=>⟨rfl,I.turned (t':=s.toks) (λb o q e=>eb b o q e) f0 W U Y f5⟩
 self:=λ_ _ _ _ _ st h=>by
  cases a with
  | true=>exact wpAny_pyIter_striter_ascii st h
  | false=>exact wpAny_pyIter_striter_wide st h
def R8(tl:TE):TI:=λσ H R=>tl σ H λx H1=>∃y,x=.str y/\R (TR y) H1
section
variable {X:Cx}{tg:Expr}
theorem LX{l:Expr}{tl:TE}(U:PE X l tl):PI X tg l (R8 tl):=by
 intro pins s σ H R I h;refine b7 (U pins s σ H _ I h) λv z ⟨x,H1,G,J,N⟩=>?_
 obtain⟨y,rfl,q⟩:=N;obtain⟨t,rfl⟩:=J;have fin:∀a:Bool,PIE X pins σ tg R (.ref z.heap.objs.size) {z with heap:=z.heap.push {cls:=.type (QX a),data:=.fields #[.str y t,.int 0 0]} }:=λa=>by
  refine⟨z.heap.objs.size,[z.heap.objs.size],_,_,H1,rfl,G.kept (t':=z.toks) λb o e=>VI _ e,EJ a y t _,⟨_,V3 _ rfl,rfl,rfl⟩,λb W=>?_,q⟩;have e:b=z.heap.objs.size:=by simpa using W
  subst e;exact G.fpOk (VG _) (G.hok.fresh (VG _))
 cases ha:y.cps.all (·<128)
 ·exact wpAny_pyIter_wide ha (fin false)
 ·exact wpAny_pyIter_ascii ha (fin true)
theorem CD:OpR X (VF .LtE) (λx y H Q=>∃i j,x=.str i/\y=.str j/\Q (.bl (!decide (j.cps.toList<i.cps.toList))) H):=by
 intro pins s σ H x y v u Q I G z h;obtain⟨i,j,rfl,rfl,q⟩:=h;obtain⟨t,rfl⟩:=G;obtain⟨t',rfl⟩:=z;exact PySem.P.le_str ⟨.bl _,H,I,rfl,q⟩
theorem E7{bs:List Bool}{q:List Value}(r:Vals (bs.map V.bl) q):TruthOf P w A (λi v=>q.toArray[i]?=some v) (λi=>(bs[i]?).getD false):=by
 intro i v s Q E z G;have z:q[i]?=some v:=by simpa using z
 have J:=r.length;rw[VL]at J;have hi:i<bs.length:=by rw[J];exact(List.getElem?_eq_some_iff.mp z).1
 have e:(bs.map V.bl)[i]?=some (.bl bs[i]):=by simp[hi]
 obtain⟨u,N,U⟩:=r.get e;rw[z]at N;cases N;cases U;have:(bs[i]?).getD false=bs[i]:=by simp[hi]
 dsimp only at G;rw[this]at G;exact XS G
theorem range_all(bs:List Bool):(VO bs.length).all (λi=>(bs[i]?).getD false)=bs.all id:=by
 rw[XE,ZK,ZK];constructor
 ·intro h b q
  obtain⟨i,hi,rfl⟩:=List.getElem_of_mem q;have:=h i (List.mem_range.mpr hi);simpa[hi]using this
 ·intro h i hi
  have hi:=List.mem_range.mp hi;simpa[hi]using h bs[i] (YT hi)
theorem range_any(bs:List Bool):(VO bs.length).any (λi=>(bs[i]?).getD false)=bs.any id:=by
 rw[XE,List.any_eq_true,List.any_eq_true];constructor
 ·rintro⟨i,hi,h⟩
  have hi:=List.mem_range.mp hi;exact⟨bs[i],YT hi,by simpa[hi]using h⟩
 ·rintro⟨b,q,h⟩
  obtain⟨i,hi,rfl⟩:=List.getElem_of_mem q;exact⟨i,List.mem_range.mpr hi,by simpa[hi]using h⟩
theorem A7(hc:X.calm=true):CallR X (.builtin "all") (λxs H Q=>∃(p:Addr) (bs:List Bool),xs=[.ref p]/\SqL X.K H p (bs.map V.bl)/\Q (.bl (bs.all id)) H):=by
 intro pins s σ H xs us Q I r h;obtain⟨p,bs,rfl,hq,q⟩:=h;obtain⟨u,rfl,W⟩:=vals1 r;cases W;obtain⟨G,U,pl,hz⟩:=I.list hq;have N:s.heap.IsList p G.toArray:=pl.isList;obtain⟨o,ho,Y,n,hd⟩:=id N;have J:p≠s.heap.objs.size:=VY (VE ho);refine call_all_walk (ZA N ?_);refine⟨s.heap.objs.size,_,_,_,_,_,_,rfl,Walks.list (prog:=X.prog) (w:=X.w) (A:=X.A.in1) (I.ok.hd hc) s.heap.objs.size p J G.toArray,⟨⟨_,V3 _ rfl,rfl,rfl⟩,N.at λo e=>VI _ e⟩,E7 U,λh' tk hm=>?_⟩;have hk:∀b o,s.heap.get? b=some o->h'.get? b=some o:=λb o e=>hm b o (λhb=>absurd (VE e) ((List.mem_singleton.mp hb) ▸ XB _)) (VI _ e)
 have z:=U.length;rw[VL]at z;refine⟨.bl (bs.all id),H,I.kept (t':=tk) hk,?_,q⟩;rw[VJ,<- z,range_all];rfl
theorem BH(hc:X.calm=true):CallR X (.builtin "any") (λxs H Q=>∃(p:Addr) (bs:List Bool),xs=[.ref p]/\SqL X.K H p (bs.map V.bl)/\Q (.bl (bs.any id)) H):=by
 intro pins s σ H xs us Q I r h;obtain⟨p,bs,rfl,hq,q⟩:=h;obtain⟨u,rfl,W⟩:=vals1 r;cases W;obtain⟨G,U,pl,hz⟩:=I.list hq;have N:s.heap.IsList p G.toArray:=pl.isList;obtain⟨o,ho,Y,n,hd⟩:=id N;have J:p≠s.heap.objs.size:=VY (VE ho);refine call_any_walk (ZA N ?_);refine⟨s.heap.objs.size,_,_,_,_,_,_,rfl,Walks.list (prog:=X.prog) (w:=X.w) (A:=X.A.in1) (I.ok.hd hc) s.heap.objs.size p J G.toArray,⟨⟨_,V3 _ rfl,rfl,rfl⟩,N.at λo e=>VI _ e⟩,E7 U,λh' tk hm=>?_⟩;have hk:∀b o,s.heap.get? b=some o->h'.get? b=some o:=λb o e=>hm b o (λhb=>absurd (VE e) ((List.mem_singleton.mp hb) ▸ XB _)) (VI _ e)
 have z:=U.length;rw[VL]at z;refine⟨.bl (bs.any id),H,I.kept (t':=tk) hk,?_,q⟩;rw[VJ,<- z,range_any];rfl
theorem wQ:∀ {ss:List Str} {its:List Value},Vals (ss.map V.str) its->StrsAre its ss
 | [],_,.nil=>.nil
 | x::ss,_,.cons r t=>by
  obtain⟨k,rfl⟩:=r;exact .cons x k (wQ t)
def rJoin(K:U3):V->List V->Hp->VK->Prop:=λx vs H Q=>∃(sep:Str) (p:Addr) (ss:List Str),x=.str sep/\vs=[.ref p]/\SqL K H p (ss.map V.str)/\(ss.map (·.length)).sum+ss.length*sep.length<=16777216/\Q (.str (Txt.join sep ss)) H
theorem AB:T8 X "str.join" (rJoin X.K):=by
 intro pins s σ H x vs v us Q I J N h;obtain⟨sep,p,ss,rfl,rfl,W,Y,q⟩:=h;obtain⟨t,rfl⟩:=J;obtain⟨u,rfl,ru⟩:=N.one;cases ru;obtain⟨z,G,U,_⟩:=I.list W;exact join_list (items:=z.toArray) U.isList (by simpa using wQ G) Y λt' k=>⟨.str (Txt.join sep ss),H,I.kept (t':=k) λ_ _ e=>e,⟨_,rfl⟩,q⟩
end
end My
namespace P
open PySem PySem.Spec PyProof.Rows L2
section
variable {X:Cx}{O O':List Nat}{L:Lp}
noncomputable def oW:List D->Option (List Bool)
 | []=>some []
 | .bl b::l=>(oW l).map (b::·)
 | _=>none
theorem jY:∀ {ds:List D} {ns:List Bool} {vs:List V},oW ds=some ns->RepL A H ds vs->vs=ns.map V.bl
 | [],_,_,e,.nil=>by cases e;rfl
 | d::ds,ns,_,e,.cons h t=>by
  cases d with
  | bl b=>
   obtain⟨m,q,rfl⟩:=map_some e;cases RepB.bl_inv (.of h);rw[jY q t];rfl
  | _=>cases e
theorem qE:∀bs:List Bool,oW (bs.map .bl)=some bs
 | []=>rfl
 | b::bs=>by rw[V0,oW,qE bs];rfl
def CJ:List D->Option D
 | [.lst l]=>(oW l).map λbs=>.bl (bs.all id)
 | _=>none
def KJ:List D->Option D
 | [.lst l]=>(oW l).map λbs=>.bl (bs.any id)
 | _=>none
theorem FG(N:X.calm=true):kA X (.builtin "all") CJ:=CallR.mono (My.A7 N) <| by
 rintro xs H Q ⟨A,ds,d,U,r,e,q⟩;unfold CJ at e;split at e
 ·obtain⟨bs,J,rfl⟩:=map_some e
  obtain⟨v,rfl,z⟩:=r.one;obtain⟨a,W,rfl,h1,G⟩:=z.lst_inv;rw[jY J G]at h1;exact⟨a,bs,rfl,.inl h1,q _ H (Ext.refl _ _) (.bl _)⟩
 ·cases e
theorem NH(N:X.calm=true):kA X (.builtin "any") KJ:=CallR.mono (My.BH N) <| by
 rintro xs H Q ⟨A,ds,d,U,r,e,q⟩;unfold KJ at e;split at e
 ·obtain⟨bs,J,rfl⟩:=map_some e
  obtain⟨v,rfl,z⟩:=r.one;obtain⟨a,W,rfl,h1,G⟩:=z.lst_inv;rw[jY J G]at h1;exact⟨a,bs,rfl,.inl h1,q _ H (Ext.refl _ _) (.bl _)⟩
 ·cases e
@[simp] theorem q_all{bs:List Bool}:CJ [.lst (bs.map .bl)]=some (.bl (bs.all id)):=by unfold CJ;simp only[qE];rfl
@[simp] theorem q_any{bs:List Bool}:KJ [.lst (bs.map .bl)]=some (.bl (bs.any id)):=by unfold KJ;simp only[qE];rfl
noncomputable def GB:List D->Option (List Str)
 | []=>some []
 | .str b::l=>(GB l).map (b::·)
 | _=>none
theorem wU:∀ {ds:List D} {ns:List Str} {vs:List V},GB ds=some ns->RepL A H ds vs->vs=ns.map V.str
 | [],_,_,e,.nil=>by cases e;rfl
 | d::ds,ns,_,e,.cons h t=>by
  cases d with
  | str b=>
   obtain⟨m,q,rfl⟩:=map_some e;cases RepB.str_inv (.of h);rw[wU q t];rfl
  | _=>cases e
theorem tV:∀bs:List Str,GB (bs.map .str)=some bs
 | []=>rfl
 | b::bs=>by rw[V0,GB,tV bs];rfl
def wZ:D->D->Option D
 | .str sep,.lst l=>(GB l).bind λss=>if(ss.map (·.length)).sum+ss.length*sep.length<=16777216 then some (.str (Txt.join sep ss))else none
 | _,_=>none
theorem zZ(ho:PB X O o fo)(he:PB X O e fe)(W:∀ {to:TE} {t:TA},PE X o to->PA X [e] t->PE X (.Call (.Attribute o "join" apos) [e] [] cpos) (T5 X.K "str" (My.rJoin X.K) to t))(hs:U8 [e] X.env=(false,eval e X.env)::U8 [] X.env:=by rfl):PD X O (.Call (.Attribute o "join" apos) [e] [] cpos) (a6 wZ fo fe):=
 PE.mono (W ho (wL he AD hs)) <| by
  rintro σ H Q ⟨H0,A0,A,E,ρ,d,st,e,q⟩;obtain⟨x,ex,e⟩:=bind_some e;obtain⟨y,ey,e⟩:=bind_some e;refine⟨H0,A0,A,E,ρ,x,st,ex,λv H1 J N=>?_⟩;unfold wZ at e;split at e
  ·rename_i sep l _
   obtain⟨ss,es,e⟩:=bind_some e;by_cases z:(ss.map (·.length)).sum+ss.length*sep.length<=16777216
   ·rw[if_pos z]at e
    cases e;cases N.str_inv;refine⟨rfl,H0,A0,A,E,ρ,[.lst l],st.mono J,by unfold aI bC;rw[ey];rfl,λvs H2 x2 U=>?_⟩;obtain⟨w,rfl,G⟩:=U.one;obtain⟨p,us,rfl,h1,Y⟩:=G.lst_inv;rw[wU es Y]at h1;exact⟨sep,p,ss,rfl,rfl,.inl h1,z,q _ H2 (J.trans x2) (.str _)⟩
   ·rw[if_neg z]at e;cases e
  ·cases e
theorem NS(h:(ss.map (·.length)).sum+ss.length*sep.length<=16777216):wZ (.str sep) (.lst (ss.map .str))=some (.str (Txt.join sep ss)):=by
 unfold wZ;simp only[tV,Option.bind];rw[if_pos h]
noncomputable def xF:D->D->Option D
 | .int i,.int j=>some (.bl (decide (i<=j)))
 | .str i,.str j=>some (.bl (!decide (j.cps.toList<i.cps.toList)))
 | _,_=>none
theorem MA:jK X (VF .LtE) xF:=OpR.mono (OpR.or PR My.CD) <| by
 rintro x y H Q ⟨A,dx,J,d,N,z,G,e,q⟩;unfold xF at e;split at e
 ·cases e
  cases z.int_inv;cases G.int_inv;exact .inl ⟨_,_,rfl,rfl,q _ H (Ext.refl _ _) (.bl _)⟩
 ·cases e
  cases z.str_inv;cases G.str_inv;exact .inr ⟨_,_,rfl,rfl,q _ H (Ext.refl _ _) (.bl _)⟩
 ·cases e
@[simp] theorem q_leAI:xF (.int i) (.int j)=some (.bl (decide (i<=j))):=rfl
@[simp] theorem q_leAS:xF (.str i) (.str j)=some (.bl (!decide (j.cps.toList<i.cps.toList))):=rfl
def F5(x y:D):Option D:=match x,y with
 | .str i,.str j=>some (.bl (!(Z3 j i 0 j.length 1).isEmpty))
 | x,y=>RP x y
def pF(x y:D):Option D:=match x,y with
 | .str i,.str j=>some (.bl (!(!(Z3 j i 0 j.length 1).isEmpty)))
 | x,y=>vE x y
theorem LP(N:X.A.units+64<cLine):jK X (VF .In) F5:=OpR.mono (OpR.or (PH N) A9) <| by
 rintro x y H Q ⟨A,dx,U,d,J,z,G,e,q⟩;unfold F5 at e;split at e
 ·cases e
  cases z.str_inv;cases G.str_inv;exact .inr ⟨_,_,rfl,rfl,q _ H (Ext.refl _ _) (.bl _)⟩
 ·exact .inl ⟨A,_,_,d,J,z,G,e,q⟩
theorem CG(N:X.A.units+64<cLine):jK X (VF .NotIn) pF:=OpR.mono (OpR.or (DF N) uJ) <| by
 rintro x y H Q ⟨A,dx,U,d,J,z,G,e,q⟩;unfold pF at e;split at e
 ·cases e
  cases z.str_inv;cases G.str_inv;exact .inr ⟨_,_,rfl,rfl,q _ H (Ext.refl _ _) (.bl _)⟩
 ·exact .inl ⟨A,_,_,d,J,z,G,e,q⟩
noncomputable def signs(x:Str):List D:=x.cps.toList.map λc=>.str ⟨#[c]⟩
theorem NU:CN (My.TR x) [] (signs x):=by
 intro A H Y W i;have z:(signs x).length=x.cps.size:=by simp[signs]
 refine⟨λhi=>by rw[z]at hi;exact hi,λd q=>?_⟩;have hi:i<x.cps.size:=by rw[<- z];exact(List.getElem?_eq_some_iff.mp q).1
 refine⟨hi,λy H' ⟨e,c,U,J⟩=>?_⟩;subst e J;have:d=.str ⟨#[c]⟩:=by
  unfold signs at q;rw[VM]at q;obtain⟨N,G,rfl⟩:=map_some q;have:x.cps[i]?=some N:=by rw[<- Array.getElem?_toList];exact G
  rw[U]at this;cases this;rfl
 subst this;exact⟨Ext.refl _ _,.str _⟩
def AK(f:Ev):Lv:=λρ=>(f ρ).bind λd=>match d with
 | .lst l=>some l
 | .tup l=>some l
 | .dT l=>some (l.map λp=>.tup (p.1.map CM))
 | .str x=>some (signs x)
 | _=>none
@[simp] theorem q_lSeqA:AK f ρ=(f ρ).bind λd=>match d with
 | .lst l=>some l
 | .tup l=>some l
 | .dT l=>some (l.map λp=>.tup (p.1.map CM))
 | .str x=>some (signs x)
 | _=>none:=rfl
theorem DX(h:PD X O e f):PDI X O tg e (AK f):=PI.mono (PI.or (JH h) (My.LX h)) <| by
 rintro σ H R ⟨H0,A0,A,E,ρ,items,st,e,q⟩;obtain⟨d,z,e⟩:=bind_some e;cases d with
 | str x=>
  cases e;refine .inr ⟨H0,A0,A,E,ρ,_,st,z,λv H1 J G=>?_⟩;cases RepB.str_inv (.of G);exact⟨x,rfl,q _ H1 [] J (λp N=>nomatch N) NU⟩
 | lst l=>exact .inl ⟨H0,A0,A,E,ρ,items,st,by unfold F7;rw[z];exact e,q⟩
 | tup l=>exact .inl ⟨H0,A0,A,E,ρ,items,st,by unfold F7;rw[z];exact e,q⟩
 | dT l=>exact .inl ⟨H0,A0,A,E,ρ,items,st,by unfold F7;rw[z];exact e,q⟩
 | _=>cases e
end
structure GTup(K:U3)(mg:Str->Option Value)(x:Str)(ss:List Str):Prop where
 ex:∃a,mg x=some (.ref a)/\∃(o:Obj) (its:Array Value) (n:Nat),K.lookup a=some o/\o.cls=.type "tuple" /\ o.data=.seq its n/\its.size<=VA/\Vals (ss.map V.str) its.toList
structure GInt(mg:Str->Option Value)(x:Str)(i:Int):Prop where
 ex:∃t,mg x=some (.int i t)
section
variable {X:Cx}{O:List Nat}
theorem mZ(g:GInt X.mg x i)(z:Gl X x)(G:(x == ("__debug__" : Str))=false:=by decide):PD X O (.Name x p) (eC (.int i)):=by
 obtain⟨t,e⟩:=g.ex;exact PE.mono (o6 (v:=.int i) z e ⟨t,rfl⟩ G) λσ H Q ⟨H0,A0,A,E,ρ,d,st,e,q⟩=>by cases e;exact q _ H (Ext.refl _ _) (.int _)
noncomputable def JW(neg:Bool)(ss:List Str):D->Option D
 | .str s=>some (.bl (if neg then !ss.contains s else ss.contains s))
 | _=>none
theorem wB(s:Str):∀ss:List Str,inV (.str s) (ss.map V.str)=ss.contains s
 | []=>rfl
 | y::ss=>by
  have ih:=wB s ss;unfold inV at ih ⊢;rw[V0,WJ,ih,List.contains_cons];congr 1;show decide (y=s)=(s == y);by_cases h:y=s
  ·subst h;simp
  ·have:¬ s=y:=λz=>h z.symm
   simp[h,this]
theorem tJ:∀ss:List Str,(ss.map V.str).all nE=true
 | []=>rfl
 | y::ss=>by rw[V0,ZI,tJ ss];rfl
theorem JG{neg:Bool}{ss:List Str}{f:Ev}{a:Addr}{K:U3}(G:∃(o:Obj) (its:Array Value) (n:Nat),K.lookup a=some o/\o.cls=.type "tuple" /\ o.data=.seq its n/\its.size<=VA/\Vals (ss.map V.str) its.toList){σ:L2.St}{H:Hp}{Q:VK}(h:tD Rep O (AU (JW neg ss) f) σ H Q):OQ (UH K neg) (tD RepB O f) (tC (.ref a)) σ H Q:=by
 obtain⟨H0,A0,A,E,ρ,d,st,e,q⟩:=h;obtain⟨x,ex,e⟩:=bind_some e;refine⟨H0,A0,A,E,ρ,x,st,ex,λv H1 J z=>?_⟩;cases x with
 | str s=>
  cases e;cases z.str_inv;refine⟨a,ss.map V.str,rfl,.inr (.inr G),rfl,tJ ss,?_⟩;rw[wB];exact q _ H1 J (.bl _)
 | _=>cases e
theorem IZ(g:GTup X.K X.mg x ss)(J:Gl X x)(N:PB X O e f)(U:(x == ("__debug__" : Str))=false:=by decide)(q:XU .In (.Name x p)=false:=by rfl):oR X O (.Compare e [.In] [.Name x p] pos) (fN (AU (JW false ss) f)):=by
 obtain⟨a,z,G⟩:=g.ex;exact PT.mono (AG CB N (o6 (v:=.ref a) J z rfl U) q) λσ H Q h=>JG G (mS h)
end
@[simp] theorem q_inG:JW neg ss (.str s)=some (.bl (if neg then !ss.contains s else ss.contains s)):=rfl
@[simp] theorem q_eqS:lU (.str a) (.str b)=some (.bl (decide (a=b))):=by
 unfold lU CU;rw[if_pos (.inl rfl)];by_cases h:a=b
 ·subst h;simp
 ·have h2:¬ D.str a=D.str b:=λz=>h (by injection z)
  simp[h]
@[simp] theorem q_neS:CO (.str a) (.str b)=some (.bl (!decide (a=b))):=by
 unfold CO CU;rw[if_pos (.inl rfl)];by_cases h:a=b
 ·subst h;simp
 ·have h2:¬ D.str a=D.str b:=λz=>h (by injection z)
  simp[h]
theorem kM{f rest:Sv}{ρ:cX}{R:D->Prop}(W:cX->Prop)(h:∃ρ',f ρ=some (.nx ρ')/\W ρ')(k:∀ρ',W ρ'->∃d,rest ρ'=some (.rt d)/\R d):∃d,bI f rest ρ=some (.rt d)/\R d:=by
 obtain⟨ρ',e,w⟩:=h;rw[aE e];exact k ρ' w
def eqN(n:Nat)(d:D):Prop:=∃x,kF d=some x/\x.nb=true/\x.dep<=n
theorem eqN.ok(h:eqN n d)(q:n<=60):kE d=true:=by
 obtain⟨x,e,a,b⟩:=h;unfold kE;rw[e];show(x.nb && decide (x.dep<=60))=true;rw[a,decide_eq_true (by lia)];rfl
theorem eqN.mono(h:eqN n d)(q:n<=m):eqN m d:=by
 obtain⟨x,e,a,b⟩:=h;exact⟨x,e,a,by lia⟩
theorem eqN.int:eqN n (.int i):=⟨.int i,rfl,rfl,XN _⟩
theorem eqN.str:eqN n (.str s):=⟨.str s,rfl,rfl,XN _⟩
theorem eqN.list:∀ {l:List D},(∀d∈l,eqN n d)->∃xs,lQ l=some xs/\My.GN xs=true/\My.rJ xs<=n
 | [],_=>⟨[],rfl,rfl,XN _⟩
 | d::l,h=>by
  obtain⟨x,e,a,b⟩:=h d (VR ..);obtain⟨xs,J,z,N⟩:=eqN.list (l:=l) λq G=>h q (VW _ G)
  refine⟨x::xs,?_,?_,?_⟩
  ·rw[lQ,e,J];rfl
  ·show(x.nb && My.GN xs)=true
   rw[a,z];rfl
  ·show max x.dep (My.rJ xs)<=n
   lia
theorem eqN.tup(h:∀d∈l,eqN n d):eqN (n+1) (.tup l):=by
 obtain⟨xs,e,a,b⟩:=eqN.list h;refine⟨.tup xs,?_,a,?_⟩
 ·rw[kF,e];rfl
 ·show My.rJ xs+1<=n+1
  lia
theorem fD(h0:0<=k)(h:k<(l.length:Int)):w9 (.lst l) (.int k) e=some (.lst (l.set k.toNat e)):=by
 show(GM l.length k).map _=_;unfold GM;rw[if_pos h0,if_pos h];rfl
theorem zJ(I:Nat->cX->Prop)(J:cX->Prop)(h:∀n ρ,I n ρ->(c ρ=some true/\∃m ρ',m<n/\b ρ=some (.nx ρ')/\I m ρ')\/(c ρ=some false/\J ρ)):∀(fuel n:Nat) (ρ:cX),n<fuel->I n ρ->∃ρ',j7 c b fuel ρ=some (.nx ρ')/\J ρ'
 | 0,n,ρ,hn,_=>absurd hn (Nat.not_lt_zero n)
 | fuel+1,n,ρ,hn,hi=>by
  rcases h n ρ hi with⟨G,m,ρ',W,U,z⟩|⟨G,q⟩
  ·obtain⟨N,e,q⟩:=zJ I J h fuel m ρ' (by lia) z
   refine⟨N,?_,q⟩;unfold j7;rw[G,aC,if_pos rfl,U,aC];exact e
  ·refine⟨ρ,?_,q⟩
   unfold j7;rw[G,aC,if_neg VH]
theorem BI{c:Bv}{b rest:Sv}{ρ:cX}{R:D->Prop}(I:Nat->cX->Prop)(J:cX->Prop)(n:Nat)(z:n<100000)(h0:I n ρ)(h:∀n ρ,I n ρ->(c ρ=some true/\∃m ρ',m<n/\b ρ=some (.nx ρ')/\I m ρ')\/(c ρ=some false/\J ρ))(k:∀ρ',J ρ'->∃d,rest ρ'=some (.rt d)/\R d):∃d,bI (u6 c b) rest ρ=some (.rt d)/\R d:=by
 obtain⟨ρ',e,q⟩:=zJ I J h 100000 n ρ z h0;have G:u6 c b ρ=some (.nx ρ'):=e;rw[aE G];exact k ρ' q
theorem PD.pe(h:PD X O e f):PE X e (tD Rep O f):=h
noncomputable def isStar:Expr->Bool
 | .Starred ..=>true
 | _=>false
theorem cW(h:isStar e=false):U8 (e::es) env=(false,eval e env)::U8 es env:=by
 cases e <;> first|rfl|cases h
theorem kN:∀ {es:List Expr},(es.all λe=>!isStar e)=true->(VU pos (U8 es env)).any (·.1)=false
 | [],_=>by simp[U8,VU]
 | e::es,h=>by
  rw[ZI,WD]at h;have q:isStar e=false:=by cases z:isStar e;rfl;rw[z]at h;exact absurd h.1 (by decide)
  have ih:=kN (pos:=pos) (env:=env) (es:=es) h.2;rw[cW q];simp only[VU,V0,WJ,zae]at ih ⊢;exact ih
end P
namespace My
open PySem PySem.Spec PyProof.Rows L2 PySem.SeqAt
noncomputable def OL(val:Nat->Int):Nat->Nat->Int->Int
 | 0,_,m=>m
 | k+1,j,m=>OL val k (j+1) (if val j>m then val j else m)
theorem B9(a v:Value):argsOk "max" ⟨[a],[(WW "default",v)]⟩:=by unfold argsOk;kernel_rfl
section
variable {prog:U7}{w:World}{A:VC}{R:Result->U2->Prop}{I S:Addr}{fp wr:List Addr}{n:Nat}{P:Nat->Value->Prop}{St:Nat->Heap->Prop}{kw:List (Str×Value)}
theorem nN(W:Walks prog w A.in1 I fp wr n P St)(val:Nat->Int)(hv:∀j v,P j v->∃t,v=.int (val j) t)(nS:S∉fp):∀(k j:Nat) (s:U2) (m:Int) (t:Tok) (c:Nat),n-j=k->j<=n->St j s.heap->
  s.heap.get? S=some {cls:=.type "list",dict:=none,data:=.seq #[.int m t,.int m t] c,slots:=#[]}->
  (∀t' h' tk,(∀b o,b∉wr->b≠S->s.heap.get? b=some o->h'.get? b=some o)->R (.ok (.ret (.int (OL val k j m) t'))) {s with heap:=h',toks:=tk})->
  W5 (model prog w) A (.builtin "max.loop" ⟨[.ref I,.none,.ref S],kw⟩) R s
 | k,j,s,m,t,c,hk,hj,st,gS,fin=>by
  have nw:S∉wr:=λz=>nS (W.sub _ z)
  have nm:(Y5 "max" ++ Y5 ".loop" : String) = "max.loop" := by decide
  refine za0 PySem.F.entry_max_loop ?_;rw[Around.under_plainId Y6 _];show wpAny _ A.in1 (seqItems? (.ref S) >>= λ_=>_) _ _ s;refine U4 (zar gS rfl ?_);show wpAny _ A.in1 (tryCatch (WU (.ref I)) _ >>= λ_=>_) _ _ s
  match k,hk,fin with
  | 0,hk,fin=>
   have e:j=n:=by lia
   refine U4 (ZQ (W.done s _ _ (e ▸ st) λh1 tk same=>?_));have J:=same S _ nw gS;show wpAny _ A.in1 (updateSeq S (λ_=>#[]) >>= λ_=>_) _ _ _;refine U4 (za1 J rfl (U4 (ZP (U9 ?_))));exact fin t _ tk λb o nb G U=>(W8 _ _ (VZ G)).trans (same b o nb U)
  | k+1,hk,fin=>
   have lt:j<n:=by lia
   refine U4 (ZQ (W.item j s _ _ lt st λv h1 tk pv Y same=>?_));have J:=same S _ nw gS;obtain⟨u,rfl⟩:=hv j v pv;show wpAny _ A.in1 (tryCatch (holding [.int (val j) u,.int (val j) u] (richCompare .Gt (.int (val j) u) (.int m t) >>= λ_=>_)) _ >>= λ_=>_) _ _ _;refine U4 (ZQ (XT (U4 ?_)));refine richCompare_gives (op:=.Gt) (ZJ _ _ u) (ZJ _ _ t) PySem.F.slot_int_gt PySem.F.entry_int_gt (PySem.F.args_int_gt_2 _ _) (gives_int_gt _ _ u t) (λz=>nomatch z) ?_;refine U4 (XT (XS ?_));refine U4 (ZP (U9 ?_));by_cases hb:val j>m
   ·rw[decide_eq_true hb]
    simp only[if_true];refine U4 (za1 J rfl (U4 (ZP ?_)));rw[nm];refine U9 ⟨zat Y6 _,nN W val hv nS k (j+1) _ (val j) u _ (by lia) lt (W.frame _ _ _ Y λb bf o U=>?_) (YJ _ J rfl) λt' h2 N q=>?_⟩
    ·exact(W8 _ _ (λz:S=b=>nS (z ▸ bf))).trans U
    ·have:=fin t' h2 N λb o nb G U=>q b o nb G ((W8 _ _ (VZ G)).trans (same b o nb U))
     rw[OL,if_pos hb]at this;exact this
   ·rw[decide_eq_false hb]
    simp only[zal,if_false];refine U4 (ZP ?_);rw[nm];refine U9 ⟨zat Y6 _,nN W val hv nS k (j+1) _ m t c (by lia) lt Y J λt' h2 N q=>?_⟩;have:=fin t' h2 N λb o nb G U=>q b o nb G (same b o nb U)
    rw[OL,if_neg hb]at this;exact this
theorem xK(W:Walks prog w A.in1 I fp wr n P St)(val:Nat->Int)(hv:∀j v,P j v->∃t,v=.int (val j) t)(nS:S∉fp)(st:St 0 s.heap)
  (gS:s.heap.get? S=some {cls:=.type "list",dict:=none,data:=.seq #[] c,slots:=#[]})
  (f0:n=0->∀h' tk,(∀b o,b∉wr->b≠S->s.heap.get? b=some o->h'.get? b=some o)->R (.ok (.ret dv)) {s with heap:=h',toks:=tk})
  (fin:0<n->∀t' h' tk,(∀b o,b∉wr->b≠S->s.heap.get? b=some o->h'.get? b=some o)->R (.ok (.ret (.int (OL val (n-1) 1 (val 0)) t'))) {s with heap:=h',toks:=tk}) :
  W5 (model prog w) A (.builtin "max.loop" ⟨[.ref I,.none,.ref S],[(WW "default",dv)]⟩) R s:=by
 have nw:S∉wr:=λz=>nS (W.sub _ z)
 have nm:(Y5 "max" ++ Y5 ".loop" : String) = "max.loop" := by decide
 refine za0 PySem.F.entry_max_loop ?_;rw[Around.under_plainId Y6 _];show wpAny _ A.in1 (seqItems? (.ref S) >>= λ_=>_) _ _ s;refine U4 (zar gS rfl ?_);show wpAny _ A.in1 (tryCatch (WU (.ref I)) _ >>= λ_=>_) _ _ s;by_cases h0:n=0
 ·refine U4 (ZQ (W.done s _ _ (h0 ▸ st) λh1 tk same=>?_))
  refine U4 (wpAny_rule (U9 ?_));exact f0 h0 _ tk λb o nb G J=>same b o nb J
 ·have lt:0<n:=Nat.pos_of_ne_zero h0
  refine U4 (ZQ (W.item 0 s _ _ lt st λv h1 tk pv U same=>?_));have N:=same S _ nw gS;obtain⟨u,rfl⟩:=hv 0 v pv;show wpAny _ A.in1 (updateSeq S (λ_=>#[.int (val 0) u,.int (val 0) u]) >>= λ_=>_) _ _ _;refine U4 (za1 N rfl ?_);rw[nm];refine U9 ⟨zat Y6 _,nN W val hv nS (n-1) 1 _ (val 0) u _ rfl lt (W.frame _ _ _ U λb bf o J=>?_) (YJ _ N rfl) λt' h2 Y q=>?_⟩
  ·exact(W8 _ _ (λz:S=b=>nS (z ▸ bf))).trans J
  ·exact fin lt t' h2 Y λb o nb G J=>q b o nb G ((W8 _ _ (VZ G)).trans (same b o nb J))
end
noncomputable def CL(d:Int):List Int->Int
 | []=>d
 | x::xs=>xs.foldl (λm y=>if y>m then y else m) x
theorem wI(ns:List Int):∀(k j:Nat) (m:Int),ns.length-j=k->OL (λi=>(ns[i]?).getD 0) k j m=(ns.drop j).foldl (λm y=>if y>m then y else m) m
 | 0,j,m,h=>by
  rw[List.drop_eq_nil_iff.mpr (by lia)];rfl
 | k+1,j,m,h=>by
  have q:j<ns.length:=by lia
  rw[OL,ZM q,zad,wI ns k (j+1) _ (by lia)];simp[q]
section
variable {X:Cx}
theorem xN(hc:X.calm=true)(I:Inv X pins σ H s)(hq:SqL X.K H p (ns.map V.int))(q:Q (.int (CL d ns)) H) :
  wpAny (model X.prog X.w) X.A (call (.builtin "max") [.ref p] [(WW "default",.int d t)]) (EP X pins σ Q) X.xe s:=by
 have nm:(Y5 "max" ++ Y5 ".loop" : String) = "max.loop" := by decide
 obtain⟨J,Y,pl,hz⟩:=I.list hq;have U:s.heap.IsList p J.toArray:=pl.isList;obtain⟨o,ho,ab,n,hd⟩:=id U;have N:p≠s.heap.objs.size:=VY (VE ho);have W:=Walks.list (prog:=X.prog) (w:=X.w) (A:=X.A.in1) (I.ok.hd hc) s.heap.objs.size p N J.toArray;refine kmk_tree PySem.F.kind_max PySem.F.plain_max PySem.F.entry_max (B9 _ _) ?_;show wpAny _ X.A.in1 (zbc "max" ["key", "default"] 0 ⟨[],[(WW "default",.int d t)]⟩ >>= λ_=>_) _ _ s;refine U4 (wpAny_of_eq (show zbc "max" ["key", "default"] 0 ⟨[],[(WW "default",.int d t)]⟩=pure [none,some (.int d t)]from rfl) ?_);refine U4 (U9 (U4 (ZA U (U4 (wpAny_newList ?_ (XN _))))));rw[nm];refine U9 ⟨zat Y6 _,?_⟩;have G:=Y.length;rw[VL]at G;have sz:J.toArray.size=ns.length:=by rw[VJ];exact G.symm
 have keep:∀h':Heap,(∀b o,b∉[s.heap.objs.size]->b≠(s.heap.push {cls:=.type "list_iterator",data:=.fields #[.ref p,.int 0 0]}).objs.size->((s.heap.push {cls:=.type "list_iterator",data:=.fields #[.ref p,.int 0 0]}).push (seqObj "list" #[] 0)).get? b=some o->h'.get? b=some o)->∀b o,s.heap.get? b=some o->h'.get? b=some o:=λh' k b o e=>by
  have lt:=VE e;refine k b o (λz=>VY lt (List.mem_singleton.mp z)) ?_ (VI _ (VI _ e));rw[size_push'];exact VY (Nat.lt_succ_of_lt lt)
 refine xK W (λi=>(ns[i]?).getD 0) (λi v hP=>v8 Y (by simpa using hP)) (S:=(s.heap.push {cls:=.type "list_iterator",data:=.fields #[.ref p,.int 0 0]}).objs.size) ?_ ?_ (V3 _ rfl) (λh0 h' tk same=>?_) λh0 t' h' tk same=>?_
 ·rw[size_push']
  intro z;rcases List.mem_cons.mp z with z|z
  ·exact YC (zaZ _) z
  ·exact XB _ (Nat.lt_trans (zaZ _) ((List.mem_singleton.mp z) ▸ VE ho))
 ·exact⟨⟨_,VI _ (V3 _ rfl),rfl,rfl⟩,U.at λo e=>VI _ (VI _ e)⟩
 ·have e0:ns=[]:=List.length_eq_zero_iff.mp (by lia)
  subst e0;exact⟨.int d,H,I.kept (t':=tk) (keep h' same),⟨t,rfl⟩,q⟩
 ·refine⟨.int (CL d ns),H,I.kept (t':=tk) (keep h' same),⟨t',?_⟩,q⟩
  rw[sz];cases ns with
  | nil=>rw[sz]at h0;exact absurd h0 (XB 0)
  | cons x xs=>
   rw[wI (x::xs) _ 1 _ (by simp)];rfl
end
end My
namespace P
open PySem PySem.Spec PyProof.Rows L2
section
variable {X:Cx}{O:List Nat}
def AL(x y:D):Option D:=match x,y with
 | .lst l,.int d=>(j9 l).map λns=>.int (My.CL d ns)
 | _,_=>none
@[simp] theorem q_maxD:AL (.lst (ns.map .int)) (.int d)=some (.int (My.CL d ns)):=by unfold AL;simp only[jR];rfl
theorem GZ(hc:X.calm=true)(hg:Gl X "max")(hm:X.mg "max" = none)(he:PB X O e fe)(hd:PD X O ed fd)(hs:isStar e=false):PD X O (.Call (.Name "max" p) [e] [⟨some "default",ed,kp⟩] pos) (a6 AL fe fd):=by
 intro pins s σ H Q I h;obtain⟨H0,A0,A,E,ρ,d,st,z,q⟩:=h;obtain⟨x,ex,z⟩:=bind_some z;obtain⟨y,ey,z⟩:=bind_some z;refine YW (nV I hg hm My.boot_max ?_ (by decide) (by decide));refine PyProof.Rows.callWith_kw (b7 (fM he lP (cW hs) pos pins s σ H (λvs H1=>∃v,vs=[v]/\RepB A H1 x v/\Ext A H H1) I ⟨H0,A0,A,E,ρ,x,st,ex,λv H1 G N=>⟨v,rfl,N,G⟩⟩) λus s1 ⟨vs,H1,I1,N,v,ev,rv,G⟩=>?_) (by rw[cW hs];rfl) (kN (by simp[hs]));subst ev;refine b7 (HP (nm:=some "default") (kpos:=kp) hd MP pos pins s1 σ H1 (λvs H2=>∃w,vs=[w]/\Rep A H2 y w/\Ext A H1 H2) I1 ⟨H0,A0,A,E,ρ,y,st.mono G,ey,λw H2 J U=>⟨w,rfl,U,J⟩⟩) λws s2 ⟨zs,H2,I2,U,w,ew,Y,J⟩=>?_
 subst ew;unfold AL at z;split at z
 ·obtain⟨ns,e1,rfl⟩:=map_some z
  obtain⟨a,an,rfl,h1,r3⟩:=(rv.ext J).lst_inv;rw[fY e1 r3]at h1;cases Y;obtain⟨u,rfl,ru⟩:=vals1 N;cases ru;obtain⟨u2,rfl,W⟩:=vals1 U;obtain⟨t,rfl⟩:=W;exact My.xN hc I2 (.inl h1) (q _ H2 (G.trans J) (.int _))
 ·cases z
end
end P
namespace My
open PySem PySem.Spec PyProof.Rows L2 PySem.SeqAt
section
variable {prog:U7}{w:World}{A:VC}{E:Value->U2->Prop}{s:U2}
end
section
variable {X:Cx}{pins:List (Addr×Obj)}{σ:L2.St}{H:Hp}{s:U2}{a:Addr}{y v:V}{u r:Value}{A:VC}{E:Value->U2->Prop}
end
section
variable {X:Cx}{pins:List (Addr×Obj)}{σ:L2.St}{A:VC}{R:Result->U2->Prop}{it d:Addr}{fp:List Addr}{n:Nat}{P:Nat->Value->Prop}{St:Nat->Heap->Prop}{H2:Hp}
end
section
variable {X:Cx}
end
section
variable {X:Cx}
end
end My
namespace P
open PySem PySem.Spec PyProof.Rows L2
section
variable {X:Cx}{A:Av}{H:Hp}
end
end P
namespace My
open PySem PySem.Spec PyProof.Rows L2 PySem.SeqAt
section
variable {X:Cx}
end
end My
namespace P
open PySem PySem.Spec PyProof.Rows L2
section
variable {X:Cx}{O:List Nat}
end
section
variable {X:Cx}{O:List Nat}{e:Expr}{es:List Expr}
theorem oY(q:PD X O e f)(z:vO X O es g)(hs:isStar e=false:=by rfl):vO X O (e::es) (aI f g):=DM q z (cW hs)
theorem GG(q:PB X O e f)(z:t6 X O es g)(hs:isStar e=false:=by rfl):t6 X O (e::es) (aI f g):=wL q z (cW hs)
theorem lc(h:Len g n):Len (aI f g) (n+1):=CY h
theorem l0:Len bC 0:=G7
variable {x:Str}{id T:String}{g:List D->Option D}{f:Lv}{p pos:Pos}
theorem cB(W:kA X (.builtin id) g)(G:X.mg x=none)(Y:V5 x=some (.builtin id))(z:t6 X O (e::es) f)(U:Gl X x:=by rfl)(J:x ≠ "__name__" := by decide)(q:(x == ("__debug__" : Str))=false:=by decide)(hs:isStar e=false:=by rfl)(N:(es.all λe=>!isStar e)=true:=by rfl) :
  PD X O (.Call (.Name x p) (e::es) [] pos) (aS g f):=C7 W U G Y z J q (cW hs) (kN N)
theorem ON(W:kA X (.type T) g)(G:X.mg x=none)(Y:V5 x=some (.type T))(z:t6 X O (e::es) f)(U:Gl X x:=by rfl)(J:x ≠ "__name__" := by decide)(q:(x == ("__debug__" : Str))=false:=by decide)(hs:isStar e=false:=by rfl)(N:(es.all λe=>!isStar e)=true:=by rfl) :
  PD X O (.Call (.Name x p) (e::es) [] pos) (aS g f):=BD W U G Y z J q (cW hs) (kN N)
theorem U1(W:FP X (.type T) g)(G:X.mg x=none)(Y:V5 x=some (.type T))(z:t6 X O (e::es) f)(U:Gl X x:=by rfl)(J:x ≠ "__name__" := by decide)(q:(x == ("__debug__" : Str))=false:=by decide)(hs:isStar e=false:=by rfl)(N:(es.all λe=>!isStar e)=true:=by rfl) :
  PF X O (.Call (.Name x p) (e::es) [] pos) (aS g f):=B8 W U G Y z J q (cW hs) (kN N)
theorem cD(O':Fn X.prog X.w X.K X.mg X.base x k ps F)(U:Room k X.A)(z:vO X O (e::es) f)(J:Len f ps.length)(N:Gl X x:=by rfl)(q:(x == ("__debug__" : Str))=false:=by decide)(hs:isStar e=false:=by rfl)(G:(es.all λe=>!isStar e)=true:=by rfl) :
  PD X O (.Call (.Name x p) (e::es) [] pos) (aS F f):=JJ O' U N z J q (cW hs) (kN G)
theorem cn{L:Lp}{O1 O2 O3:List Nat}{st:Stmt}{q:List Stmt}{f g:Sv}(h:PSD X L O1 st f O2)(k:PSDs X L O2 q g O3):PSDs X L O1 (st::q) (bI f g) O3:=DK h k
end
def y6(P:U7)(w:World)(K:U3)(mg:Str->Option Value)(base:Heap)(N:List Str)(x:Str)(st:Stmt)(k:Nat)(b:Sv):Prop:=
 ∀(fa:Addr) (cdv:Value) (A:VC) (outer:List Env) (s:U2) (H:Hp) (E:XK),Room k (A.deeper (WB x (aJ st) s.heap.objs.size fa cdv))->∃g,PSDs (dR A4 P w K mg base N x (aJ st) fa cdv A outer s H E).nox ⟨[],[]⟩ [] (bO st) g []/\g=b
end P
namespace My
open PySem PySem.Spec PyProof.Rows L2 PySem.SeqAt
section
variable {prog:U7}{w:World}{A:VC}{R:Result->U2->Prop}{I S:Addr}{fp wr:List Addr}{n:Nat}{P:Nat->Value->Prop}{St:Nat->Heap->Prop}
end
section
variable {X:Cx}
end
end My
namespace P
open PySem PySem.Spec PyProof.Rows L2
section
variable {X:Cx}{O O':List Nat}{L:Lp}
end
end P
namespace My
open PySem PySem.Spec PyProof.Rows L2
end My
namespace P
open PySem PySem.Spec PyProof.Rows L2
section
variable {X:Cx}{O:List Nat}
end
end P
namespace My
open PySem PySem.Spec PyProof.Rows L2
def Q6(i j:Int):Prop:=(-(10^250*10^250)<i/\i<10^250*10^250)/\-(10^250*10^250)<j/\j<10^250*10^250
end My
namespace P
open PySem PySem.Spec PyProof.Rows L2
instance:∀i j,Decidable (My.Q6 i j):=λi j=>by unfold My.Q6;infer_instance
end P
namespace My
open PySem PySem.Spec PyProof.Rows L2 PySem.SeqAt
section
variable {X:Cx}
end
end My
namespace P
open PySem PySem.Spec PyProof.Rows L2
section
variable {X:Cx}{O Oi:List Nat}
end
end P
namespace My
open PySem PySem.Spec PySem.Calls PySem.W PySem.Builtin PySem.Builtin.ObjectAttr PySem.Builtin.Getset_descriptor
section
variable {prog:U7}{w:World}{A:VC}{E:Value->U2->Prop}{h:Heap}{g:Array GenState}{d:Drawn}{t:Nat}{os:OsState}{a C:Addr}{o:Obj}{K:Frag}
structure ExcK(K:Frag)(C:Addr):Prop where
 ga:findIn K (.ref C) "__getattribute__" = some (some (.builtin "BaseException.__getattribute__"))
 gt:findIn K (.ref C) "__getattr__" = some none
 cl:findIn K (.ref C) "__class__" = some (some (.builtin "object.__class__"))
 ob:subIn K (.ref C) (.type "object")=some true
 be:subIn K (.ref C) (.type "BaseException")=some true
 ty:typeIn K (.ref C)=some (.type "type")
 is:(clsIn K C).isSome=true
 gg:specialIn K (.builtin "object.__class__") "__get__" = some (some (.builtin "getset_descriptor.__get__"))
 tk:takesIn K (.builtin "object.__class__")=some true
theorem C4{M:Model}(X:K.In h)(k:ExcK K C):Looks M h (find (.ref a) (.ref C) "__class__") (.bind (.builtin "getset_descriptor.__get__") (.builtin "object.__class__")):=by
 have q:=looks_findIn (M:=M) X k.cl;have z:Looks M h (getOf (some (.builtin "object.__class__"))) (some (.builtin "getset_descriptor.__get__")):=looks_specialIn X k.gg;have G:=looks_takesIn (M:=M) X k.tk;refine q.andThen (z.andThen (Looks.andThen (a:=some (.builtin "getset_descriptor.__get__",.builtin "object.__class__")) ?_ (Looks.tag .now)));exact G.andThen .now
theorem rW{R:Result->U2->Prop}{tp:Value}(X:K.In h)(k:ExcK K C)(z:h.get? a=some o)(G:o.cls=.ref C)(q:R (.ok (.ret (.ref C))) ⟨h,g,d,t,os⟩) :
  W5 (model prog w) A (.call (.builtin "getset_descriptor.__get__") ⟨[.builtin "object.__class__",.ref a,tp],[]⟩) R ⟨h,g,d,t,os⟩:=by
 have N:Looks (model prog w) h (typeOf (.ref a)) (.ref C):=G ▸ (Looks.ld z).andThen .now;have J:=looks_subIn (M:=model prog w) X k.ob;refine codeAny_call_builtin KF.slot_gs.plain KF.entry_gs (KF.slot_gs.check _ _ _ _ _ _ _ _ KF.type_class (KF.args_gs _ _ _) ?_);unfold YI.«getset_descriptor.__get__» descrGet;rw[dga_obj];refine U4 (U9 ?_);unfold descrGetter descrCheckInstance descrNameAndClass isInstance;simp only[KF.owner_class]
 repeat lk
 refine⟨Code.quiet_builtin _ (by decide +kernel),za0 KF.entry_class ?_⟩;unfold YI.«object.__class__» shownTypeOf
 repeat lk
 exact q
theorem BG{tk:Tok}{Q:Fin->U2->Prop}(X:K.In h)(k:ExcK K C)(q:h.get? a=some o)(z:o.cls=.ref C)(N:Q (.done (.ret (.ref C))) ⟨h,g,d,t,os⟩) :
  wpAny (model prog w) A (YI.«object.__getattribute__» ⟨[.ref a,.str "__class__" tk],[]⟩) Q E ⟨h,g,d,t,os⟩:=by
 have J:Looks (model prog w) h (typeOf (.ref a)) (.ref C):=z ▸ (Looks.ld q).andThen .now;have G:=C4 (M:=model prog w) (a:=a) X k
 repeat (any_goals (first|assumption|with_reducible refine Looks.at J ?_|with_reducible refine Looks.at G ?_|wp_step))
 refine rW X k q z ?_
 repeat (any_goals (first|assumption|wp_step))
theorem BQ{M:Model}{q:Value}{Q:Unit->U2->Prop}(X:K.In h)(k:ExcK K C)(W:h.get? a=some o)(Y:o.cls=.ref C)(U:Q () ⟨h,g,d,t,os⟩):wpAny M A (checkBuiltinCall "BaseException.__getattribute__" ⟨[.ref a,q],[]⟩) Q E ⟨h,g,d,t,os⟩:=by
 have N:builtinKind "BaseException.__getattribute__" = some .slot:=by decide +kernel
 have z:splitId "BaseException.__getattribute__" = some ("BaseException", "__getattribute__"):=by decide +kernel
 have ha:=F.args_bexc_ga (.ref a) q;have J:Looks M h (typeOf (.ref a)) (.ref C):=Y ▸ (Looks.ld W).andThen .now;have G:=looks_subIn (M:=M) X k.be;simp only[checkBuiltinCall,N,z];refine U4 ?_;unfold isInstance
 repeat (first|with_reducible refine Looks.at J ?_|with_reducible refine Looks.at G ?_|wp_step)
 exact U
theorem DG{tk:Tok}{R:Result->U2->Prop}{B:String}{q:List Value}(N:zau B q)(X:K.In h)(k:ExcK K C)(z:h.get? a=some o)(G:o.cls=.ref C)(J:R (.ok (.ret (.ref C))) ⟨h,g,d,t,os⟩) :
  W5 (model prog w) A (.call (.builtin "BaseException.__getattribute__") ⟨[.ref a,.str "__class__" tk],[]⟩) R ⟨h,g,d,t,os⟩:=
 codeAny_call_builtin N.ga.plain F.entry_bexc_ga (BQ X k z G (BG X k z G J))
theorem L5{tk:Tok}{z q:Bool}{Q:Value->U2->Prop}{B:String}{J:List Value}(W:zau B J)(X:K.In h)(k:ExcK K C)(N:h.get? a=some o)(U:o.cls=.ref C)(hq:Q (.ref C) ⟨h,g,d,t,os⟩) :
  wpAny (model prog w) A (getAttrBy (.ref a) (.str "__class__" tk) z q) Q E ⟨h,g,d,t,os⟩:=by
 have f3:=W.ga.bind (.ref a);have ad:(q && onTheHeap (ZR "BaseException.__getattribute__"))=false:=by cases q <;> rfl
 have G:(ZR "BaseException.__getattribute__" == ZR "object.__getattribute__")=false:=by decide +kernel
 have Y:(onTheHeap (VT C) && ZR "BaseException.__getattribute__" == ZR "object.__getattribute__")=false:=by rw[G];rfl
 have L0:Looks (model prog w) h (typeOf (.ref a)) (.ref C):=U ▸ (Looks.ld N).andThen .now;have L1:=looks_findIn (M:=model prog w) X k.ga;have L2:=looks_findIn (M:=model prog w) X k.gt
 repeat (any_goals (first|assumption|with_reducible refine Looks.at L0 ?_|with_reducible refine Looks.at L1 ?_|with_reducible refine Looks.at L2 ?_|wp_step))
 refine DG W X k N U ?_
 repeat (any_goals (first|assumption|wp_step))
theorem CZ{Q:Option Value->U2->Prop}{B:String}{q:List Value}(J:zau B q)(X:K.In h)(k:ExcK K C)(z:h.get? a=some o)(G:o.cls=.ref C)(N:Q (some (.ref C)) ⟨h,g,d,t+1,os⟩) :
  wpAny (model prog w) A (getAttr? (.ref a) "__class__") Q E ⟨h,g,d,t,os⟩:=by
 unfold getAttr? getAttrBy?
 repeat (any_goals (first|assumption|with_reducible apply L5 J X k z G|wp_step))
theorem wK{B:String}{U:List Value}(FB:zau B U)(k:ExcK K C):KitX K (.ref a) (.ref C) (λh=>∃o,h.get? a=some o/\o.cls=.ref C) where
 ty:=λM h X ⟨o,N,J⟩=>J ▸ (Looks.ld N).andThen .now
 it:=λ_ _ X _=>by
  obtain⟨W,G⟩:=Option.isSome_iff_exists.mp k.is;unfold clsIn at G;split at G
  ·rename_i c' d' cd' sl' ho
   intro A' Q' E' s' kk q;unfold isType loadHead;exact U4 (wpAny_loadPart (kk _ _ (X _ _ ho)) (U9 q))
  ·cases G
 ne:=λh tp dd aa n sl X Y=>by
  obtain⟨W,G⟩:=Option.isSome_iff_exists.mp k.is;refine Bool.eq_false_iff.mpr λq=>?_
  have e:C=tp:=Value.ref.inj (beq_iff_eq.mp q);subst e;unfold clsIn at G;split at G
  ·rename_i c' d' cd' sl' ho
   have z:=(X _ _ ho).symm.trans Y;cases z
  ·cases G
 ca:=λ{_ _ _ _ _ s} X p q=>by
  obtain⟨o,N,J⟩:=p;obtain⟨h,g,d,t,os⟩:=s;exact CZ FB X k N J q
end
end My
namespace My
open PySem PySem.Spec
def jJ(h:Heap)(e:Addr):Prop:=∃oe vs,h.get? e=some oe/\oe.data=.fields vs/\vs[2]?=some .none
section
variable {M:Model}{A:VC}{E:Value->U2->Prop}{s:U2}{base:Heap}{env:Env}{outer:List Env}{L e:Addr}{cls a0:Value}{Q:Unit->U2->Prop}
theorem sT{oe:Obj}{vs:Array Value}{G:Value}{hn:Bool}(ag:A.frames=some (env::outer))(Y:s.heap.FunFrames base (env::outer))(hf:env.frame=some L)
  (he:s.heap.get? e=some oe) (ah:base.StaysIn s.heap) (ae:base.get? e=none) (W:oe.data=.fields vs) (hsz:1<vs.size) (h0:vs[0]?=some a0)
  (h:∀h',Heap.NotedW base (env::outer) e oe.cls a0 (WA L) s.heap h'->(vs[2]?=some .none->jJ h' e)->Q () {s with heap:=h'}) :
  wpAny M A (do let a <- frameOf env;let N <- entryPlaceOf L hn;let b <- EntryCells.newEntry G a .none (WA L) .none N;setField (.ref e) 1 b) Q E s:=by
 have ne:e∉(env::outer).filterMap (·.frame):=λhm=>by
  obtain⟨_,o,ho,J⟩:=Y.mem hm;rw[he]at ho;cases ho;exact J vs W
 have nr:∀b o,s.heap.get? b=some o->(∀ws,o.data≠.fields ws)->b≠e:=λb o hb J z=>by
  subst z;rw[he]at hb;cases hb;exact J vs W
 refine U4 (wpAny_frameOf_fun ag Y hf λh1 U=>U4 (wpAny_entryPlaceOf λN ad=>?_));unfold EntryCells.newEntry newFields;refine U4 (W7 ?_ (ad.sizeOk5 _ _ _ _ _));have e1:h1.get? e=some oe:=(U.2.1 e ne).trans he;have b1:base.StaysIn h1:=λb o q=>(U.2.1 b λhm=>by rw[(Y.mem hm).1]at q;cases q).trans (ah b o q)
 have nT:h1.objs.size≠e:=YC (VE e1);refine YO (VI _ e1) W hsz ?_;generalize ht:({cls:=.type "traceback",dict:=none,data:=.fields ([G,.ref L,.none,WA L,.none]++(if N.isEmpty then V6 6 V8 else N)).toArray}:Obj)=tb;have af:tb.data=.fields ([G,.ref L,.none,WA L,.none]++(if N.isEmpty then V6 6 V8 else N)).toArray:=by rw[<- ht]
 have d3:=YR W (·.setIfInBounds 1 (VT h1.objs.size));have e3:=YJ (YQ (·.setIfInBounds 1 (VT h1.objs.size))) (VI (h:=h1) tb e1) (zam d3);have t3:((h1.push tb).update e (YQ (·.setIfInBounds 1 (VT h1.objs.size)))).get? h1.objs.size=some tb:=
  (W8 _ _ (VZ nT)).trans (V3 h1 (by rw[<- ht];rfl))
 have kp:∀b o,b≠e->h1.get? b=some o->((h1.push tb).update e (YQ (·.setIfInBounds 1 (VT h1.objs.size)))).get? b=some o:=λb o z q=>
  (W8 _ _ (VZ z)).trans (VI _ q)
 refine h _ ⟨λb o q=>kp b o (λz=>by rw[z,ae]at q;cases q) (b1 b o q),Y.of_keeps λb o q J=>?_,?_,λb o q J=>?_⟩ λh2=>⟨_,_,e3,d3,by rw[zbd (by decide)];exact h2⟩
 ·obtain⟨sl,z⟩:=U.2.2 b o q
  exact⟨_,kp b _ (nr b o q J) z,rfl⟩
 ·exact⟨_,_,h1.objs.size,tb,_,e3,⟨zaU _ _,by rw[zbd (by decide)];exact h0⟩,d3,by simp[hsz],b1.fresh,nT,t3,af,by simp⟩
 ·obtain⟨sl,z⟩:=U.2.2 b o q
  exact⟨sl,kp b _ (nr b o q J) z⟩
theorem zE(ac:A.frames=some (env::outer))(hf:env.frame=some L)(aa:W3 base (env::outer) e cls a0 s.heap)
  (hQ:∀h',Y7 base (env::outer) e cls a0 L h'->(jJ s.heap e->jJ h' e)->s.heap.UpToSlots h'->Q () {s with heap:=h'}):wpAny M A (YN (.ref e) env) Q E s:=by
 obtain⟨ad,U,hl,oe,vs,T,oT,ts,he,⟨W,h0⟩,hd,h1,ab,ag,hT,N,h3⟩:=aa;subst W;unfold YN;simp only[hf];refine U4 (WG he hd h1 ?_);rw[if_pos (show(VT T != V8)=true from by simp)];refine U4 (WG hT N h3 ?_);rw[if_neg (show ¬ ((V8 == WA L)=true)from by simp[WA])];refine U4 (YO hT N (Array.getElem?_eq_some_iff.mp h3).1 ?_);have Y:∀b,b≠T->(s.heap.update T (YQ (·.setIfInBounds 3 V8))).get? b=s.heap.get? b:=λb G=>W8 _ _ (VZ G)
 have nr:∀b o,s.heap.get? b=some o->(∀vs,o.data≠.fields vs)->b≠T:=λb o G z q=>by
  subst q;rw[hT]at G;cases G;exact z ts N
 refine sT ac (hl.of_keeps λb o G z=>⟨o,(Y b (nr b o G z)).trans G,rfl⟩) hf ((Y e (VZ ag)).trans he)
  (λb o J=>(Y b λq=>by rw[q,ab]at J;cases J).trans (ad b o J)) U hd (Array.getElem?_eq_some_iff.mp h1).1 h0
  λh' ⟨x1,x2,x3,x4⟩ x5=>hQ h' ⟨x1,U,x2,x3⟩ (λ⟨o',ws,q1,q2,q3⟩=>x5 (by rw[he]at q1;cases q1;rw[hd]at q2;cases q2;exact q3)) λb o G z=>x4 b o ((Y b (nr b o G z)).trans G) z
theorem xS{oe:Obj}{vs:Array Value}(z:A.frames=some (env::outer))(hl:s.heap.FunFrames base (env::outer))(J:env.frame=some L)
  (N:s.heap.get? e=some oe) (G:base.StaysIn s.heap) (q:base.get? e=none) (U:oe.data=.fields vs) (h1:vs[1]?=some .none) (h0:vs[0]?=some a0)
  (W:∀h',Y7 base (env::outer) e oe.cls a0 L h'->(vs[2]?=some .none->jJ h' e)->s.heap.UpToSlots h'->Q () {s with heap:=h'}):wpAny M A (YN (.ref e) env) Q E s:=by
 unfold YN;simp only[J];refine U4 (WG N U h1 ?_);rw[if_neg (by decide)];exact sT z hl J N G q U (Array.getElem?_eq_some_iff.mp h1).1 h0 λh' ⟨x1,x2,x3,Y⟩ x5=>W h' ⟨x1,q,x2,x3⟩ x5 Y
theorem pU{l:List Env}{fl:Value}{fo:Option Addr}(ac:base.StaysIn s.heap)(al:base.get? e=none)(hl:s.heap.FunFrames base l)(ht:s.heap.TracedAtW base e cls a0 fl)
  (hQ:∀h',base.StaysIn h'->h'.FunFrames base l->h'.TracedAtW base e cls a0 (fo.elim V8 λf=>WA f)->(jJ s.heap e->jJ h' e)->s.heap.UpToSlots h'->Q () {s with heap:=h'}) :
  wpAny M A (ZS (.ref e) fo) Q E s:=by
 obtain⟨oe,vs,T,oT,ts,he,aa,hd,h1,Y,U,hT,J,h3⟩:=ht;have z3:3<ts.size:=(Array.getElem?_eq_some_iff.mp h3).1;have W:∀b,b≠T->(s.heap.update T (YQ (·.setIfInBounds 3 (fo.elim V8 λf=>WA f)))).get? b=s.heap.get? b:=λb G=>W8 _ _ (VZ G)
 have nr:∀b o,s.heap.get? b=some o->(∀vs,o.data≠.fields vs)->b≠T:=λb o G z q=>by
  subst q;rw[hT]at G;cases G;exact z ts J
 unfold ZS;refine U4 (WG he hd h1 ?_);rw[if_pos (show(VT T != V8)=true from by simp)];refine YO hT J z3 (hQ _ (λb o N=>(W b λq=>by rw[q,Y]at N;cases N).trans (ac b o N)) (hl.of_keeps λb o G z=>⟨o,(W b (nr b o G z)).trans G,rfl⟩) ?_ (λ⟨o',ws,q1,q2,q3⟩=>⟨o',ws,(W e (VZ U)).trans q1,q2,q3⟩) λb o G z=>⟨o.slots,(W b (nr b o G z)).trans G⟩);exact⟨oe,vs,T,_,_,(W e (VZ U)).trans he,aa,hd,h1,Y,U,YJ _ hT (zam (YR J _)),YR J _,by simp[z3]⟩
theorem lands{l:List Env}(q:Y7 base l e cls a0 L s.heap)(z:∀h',W3 base l e cls a0 h'->(jJ s.heap e->jJ h' e)->s.heap.UpToSlots h'->Q () {s with heap:=h'}):wpAny M A (ZS (.ref e) none) Q E s:=
 pU q.1 q.2.1 q.2.2.1 q.2.2.2 λh' a b c d f=>z h' ⟨a,q.2.1,b,c⟩ d f
theorem N4{l:List Env}(q:W3 base l e cls a0 s.heap)(z:∀h',W3 base l e cls a0 h'->(jJ s.heap e->jJ h' e)->s.heap.UpToSlots h'->Q () {s with heap:=h'}):wpAny M A (ZS (.ref e) none) Q E s:=
 pU q.1 q.2.1 q.2.2.1 q.2.2.2.at λh' a b c d f=>z h' ⟨a,q.2.1,b,c⟩ d f
theorem qP{h:Heap}(x:W3 base (env::outer) e cls a0 h):W3 base outer e cls a0 h:=⟨x.1,x.2.1,x.2.2.1.2.2,x.2.2.2⟩
theorem C8(G:A.frames=some (env::outer))(N:env.frame=some L)(J:W3 base (env::outer) e cls a0 s.heap)
  (W:∀h',W3 base outer e cls a0 h'->(jJ s.heap e->jJ h' e)->s.heap.UpToSlots h'->Q () {s with heap:=h'}):wpAny M A (YG env (.ref e)) Q E s:=by
 unfold YG;exact U4 (zE G N J λh1 hh k1 Y=>lands hh λh2 q k2 U=>W h2 (qP q) (λz=>k2 (k1 z)) (Y.trans U))
theorem leave_held(G:env.frame=some L)(z:Y7 base (env::outer) e cls a0 L s.heap)(N:∀h',W3 base outer e cls a0 h'->(jJ s.heap e->jJ h' e)->s.heap.UpToSlots h'->Q () {s with heap:=h'}):wpAny M A (YG env (.ref e)) Q E s:=by
 unfold YG;exact U4 (wpAny_noteFrame_againW G z.2.2.2 (lands z λh2 q k2 J=>N h2 (qP q) k2 J))
theorem xX{h:Heap}{args:List Value}(U:A.frames=some (env::outer))(Y:env.frame=some L)(z:base.StaysIn h)(hl:h.FunFrames base (env::outer))(G:zav h s.heap e cls args)
  (hQ:∀h' t,W3 base outer e cls (.ref t) h'->jJ h' e->s.heap.UpToSlots h'->Q () {s with heap:=h'}):wpAny M A (YG env (.ref e)) Q E s:=by
 obtain⟨t,he,af,ht⟩:=G.there;have fr:base.get? e=none:=by
  cases q:base.get? e with
  | none=>rfl
  | some o=>have:=z e o q;rw[G.new]at this;cases this
 unfold YG;exact U4 (xS (a0:=.ref t) U (hl.of_keeps λb o J _=>⟨o,G.keeps b o J,rfl⟩) Y he (λb o J=>G.keeps b o (z b o J)) fr rfl rfl rfl λh1 hh k1 u1=>lands hh λh2 N k2 W=>hQ h2 t (qP N) (k2 (k1 rfl)) (u1.trans W))
end
end My
namespace My
open PySem PySem.Spec PyProof.Rows L2 PySem.SeqAt
structure Fly(l:List Env)(fs:List Addr)(h1:Heap)(e C:Addr)(c:Option Addr)(h:Heap):Prop where
 fly:∃B a0,(∀b o,h1.get? b=some o->b∉fs->B.get? b=some o)/\W3 B l e (.ref C) a0 h
 up:h1.UpToSlots h
 fsd:∀b∈fs,∀o,h1.get? b=some o->∀vs,o.data≠.fields vs
 new:h1.get? e=none
 cx:c=none->jJ h e
section
variable {l:List Env}{fs fr:List Addr}{h0 h1 h:Heap}{e C:Addr}{c:Option Addr}{H H1:Hp}{P:U7}{w:World}
theorem Fly.keep(f:Fly l fs h1 e C c h){b:Addr}{o:Obj}(q:h1.get? b=some o)(n:b∉fs):h.get? b=some o:=by
 obtain⟨B,a0,k,fl⟩:=f.fly;exact fl.1 b o (k b o q n)
theorem Fly.any(f:Fly l fs h1 e C c h){b:Addr}{o:Obj}(q:h1.get? b=some o):∃G,h.get? b=some {o with slots:=G}:=by
 by_cases z:b∈fs
 ·exact f.up b o q (f.fsd b z o q)
 ·exact⟨o.slots,f.keep q z⟩
theorem Fly.un(f:Fly l fs h1 e C c h)(u:Un fr [] H H1 h0 h1)(U:∀b∈fs,b∈fr\/h0.get? b=none):Un fr [] H H1 h0 h where
 keep:=λb o q n J G=>f.keep (u.keep b o q n J G) λz=>(U b z).elim J λr=>by rw[r]at q;cases q
 slot:=λb o q n J G=>by
  obtain⟨Y,r⟩:=u.slot b o q n J G;obtain⟨W,N⟩:=f.any r;exact⟨W,N⟩
 free:=u.free
 there:=λb o q G=>by
  obtain⟨o',r⟩:=u.there b o q G;obtain⟨Y,N⟩:=f.any r;exact⟨_,N⟩
 tups:=u.tups
 frzs:=u.frzs
 tbls:=u.tbls
theorem Fly.hok(f:Fly l fs h1 e C c h)(x:HOk P w H1 h1)(J:∀b∈fs,H1 b=none):HOk P w H1 h:=λa o q=>(x a o q).stay (λb u G r=>f.keep r λz=>by
  have:=J b z;rcases G with G|G
  ·subst G;rw[q]at this;cases this
  ·rw[G]at this;cases this) (λ_ r=>r) λ_ _ r=>r
theorem vV{a:Addr}{o:HO}(x:ObjOk P w H h a o):∃u,h.get? a=some u:=by
 cases o with
 | lst xs=>obtain⟨_,_,_,_,e⟩:=x;exact⟨_,e⟩
 | tup xs=>obtain⟨_,_,_,o,e,_⟩:=x;exact⟨_,e⟩
 | dK kvs=>obtain⟨_,_,_,_,o,_,_,e,_⟩:=x;exact⟨_,e⟩
 | dT kvs=>obtain⟨_,_,_,_,o,_,_,e,_⟩:=x;exact⟨_,e⟩
 | set S n=>obtain⟨o,_,_,_,e,_⟩:=x;exact⟨_,e⟩
 | ins C dx fs=>obtain⟨_,_,_,e,_⟩:=x;exact⟨_,e⟩
 | own y=>obtain⟨_,e⟩:=x;exact⟨_,e⟩
 | xd fs=>obtain⟨_,⟨_,_,_,e,_⟩,_⟩:=x;exact⟨_,e⟩
 | rng lo hi=>obtain⟨_,_,_,e⟩:=x;exact⟨_,e⟩
 | frz ob u=>obtain⟨e,_⟩:=x;exact⟨_,e⟩
 | tbl ps=>exact⟨_,(show h.get? a=some _ from x)⟩
 | met f y=>exact⟨_,(show h.get? a=some _ from x)⟩
 | ext φ=>obtain⟨_,⟨_,e⟩,_⟩:=x;exact⟨_,e⟩
theorem Fly.fresh(f:Fly l fs h1 e C c h)(x:HOk P w H1 h1):H1 e=none:=by
 cases q:H1 e with
 | none=>rfl
 | some o=>
  obtain⟨u,r⟩:=vV (x e o q);rw[f.new]at r;cases r
end
def rL(P:U7)(w:World):CQ:=λouter H s E e s'=>∃ea C H1 h1 fs c,e=VT ea/\s'.os=s.os/\XC s'.gens/\Un (frs outer) [] H H1 s.heap h1/\HOk P w H1 h1/\(∀b∈fs,H1 b=none)/\(∀b∈fs,b∈frs outer\/s.heap.get? b=none)/\Fly outer fs h1 ea C c s'.heap/\E (.ref C) c H1
theorem uA{P:U7}{w:World}{K:U3}{mg:Str->Option Value}{base:Heap}{N:List Str}{z:Str}{scope:Scope}{Y:Addr}{G:Value}{A:VC}{outer:List Env}{s:U2}{H:Hp}{E:XK}{pins:List (Addr×Obj)}{σ:L2.St}{H1:Hp}{J:U2}{h':Heap}{ea C:Addr}{vs:List Value}
  (I:Inv (dR (rL P w) P w K mg base N z scope Y G A outer s H E) pins σ H1 J) (hx:zav J.heap h' ea (.ref C) vs) (hE:E (.ref C) none H1) :
  (dR (rL P w) P w K mg base N z scope Y G A outer s H E).xe (.ref ea) {J with heap:=h'}:=by
 have aa:=PySem.W.funFrames_hide (as:=frs (dR (rL P w) P w K mg base N z scope Y G A outer s H E).stack) I.stack λenv he a hf=>List.mem_filterMap.mpr ⟨env,he,hf⟩
 refine xX (base:=PySem.W.hideAll J.heap (frs (dR (rL P w) P w K mg base N z scope Y G A outer s H E).stack)) (h:=J.heap) I.ok.frames rfl (λb o e=>PySem.W.of_hideAll _ e) aa hx λh2 t fl ln up=>?_
 refine⟨ea,C,H1,J.heap,frs (dR (rL P w) P w K mg base N z scope Y G A outer s H E).stack,none,rfl,I.os,I.bare,I.base,I.hok,I.stkFree,λb hb=>?_,⟨⟨_,_,λb o q n=>PySem.W.hideAll_get _ q n,fl⟩,(Heap.UpToSlots.of_keeps hx.keeps).trans up,λb hb o q ad=>?_,hx.new,λ_=>ln⟩,hE⟩
 ·rcases List.mem_cons.mp (show b∈s.heap.objs.size::frs outer from hb)with e|e
  ·exact .inr (ZW (zag e.symm))
  ·exact .inl e
 ·obtain⟨_,o',U,hd⟩:=I.stack.mem hb
  rw[q]at U;cases U;exact hd ad
theorem xZ{P:U7}{w:World}{K:U3}{mg:Str->Option Value}{base:Heap}{N:List Str}{U:Str}{scope:Scope}{fa:Addr}{W:Value}{A:VC}{outer:List Env}{s:U2}{H:Hp}{E E':XK}{pins:List (Addr×Obj)}{σ:L2.St}{H1:Hp}{s1 s':U2}{e:Value}
  (I:Inv (dR (rL P w) P w K mg base N U scope fa W A outer s H E) pins σ H1 s1) (J:rL P w (dR (rL P w) P w K mg base N U scope fa W A outer s H E).stack H1 s1 E' e s') (hE:∀v c H2,E' v c H2->E v c H2) :
  (dR (rL P w) P w K mg base N U scope fa W A outer s H E).xe e s':=by
 obtain⟨ea,C,H2,h1,fs,c,rfl,os,aa,un,hok,hf,ah,fl,af⟩:=J;obtain⟨B,a0,kB,fw⟩:=id fl.fly;have G:=I.base;have ag:∀b o,s.heap.get? b=some o->b≠s.heap.objs.size:=λb o q=>VY (VE q)
 have g6:∀b,b∈frs (dR (rL P w) P w K mg base N U scope fa W A outer s H E).stack->b=s.heap.objs.size\/b∈frs outer:=λb Y=>List.mem_cons.mp (show b∈s.heap.objs.size::frs outer from Y)
 refine C8 I.ok.frames rfl fw λh2 ae ln sm=>?_
 refine⟨ea,C,H2,h1,fs,c,rfl,os.trans I.os,aa,⟨λb o q n Y J=>?_,λb o q n Y J=>?_,λb o q n J=>?_,λb o q J=>?_,λb xs q=>un.tups b xs (G.tups b xs q),λb o u q=>un.frzs b o u (G.frzs b o u q),λb ps q=>?_⟩,hok,hf,λb Y=>?_,⟨⟨B,a0,kB,ae⟩,fl.up.trans sm,fl.fsd,fl.new,λz=>ln (fl.cx z)⟩,hE _ _ _ af⟩
 ·exact un.keep b o (G.keep b o q n Y J) (G.free b o q n J) (λz=>(g6 b z).elim (ag b o q) Y) J
 ·obtain⟨sl,r⟩:=G.slot b o q n Y J
  obtain⟨ac,r'⟩:=un.any r (G.free b o q n J) J;exact⟨ac,r'⟩
 ·obtain⟨o',r⟩:=G.there b o q J
  exact un.free b o' r (G.free b o q n J) J
 ·obtain⟨o',r⟩:=G.there b o q J
  exact un.there b o' r J
 ·obtain⟨m1,r⟩:=G.tbls b ps q
  obtain⟨m2,r'⟩:=un.tbls b _ r;exact⟨m1++m2,by rw[r',zaD]⟩
 ·rcases ah b Y with z|z
  ·rcases g6 b z with z|z
   ·exact .inr (ZW (zag z.symm))
   ·exact .inl z
  ·refine .inr ?_
   cases q:s.heap.get? b with
   | none=>rfl
   | some o=>
    obtain⟨o',r⟩:=G.there b o q λz=>nomatch z
    rw[z]at r;cases r
theorem v5{P:U7}{w:World}{K:U3}{mg:Str->Option Value}{base:Heap}{N:List Str}{G:Str}{scope:Scope}{U:Addr}{J:Value}{A:VC}{outer:List Env}{s:U2}{H:Hp}{E:XK}{pins:List (Addr×Obj)}{σ:L2.St}{H1:Hp}{W:U2}{h' B:Heap}{ea C L:Addr}{a0:Value}
  (I:Inv (dR (rL P w) P w K mg base N G scope U J A outer s H E) pins σ H1 W) (hL:(dR (rL P w) P w K mg base N G scope U J A outer s H E).env.frame=some L) (kB:∀b o,W.heap.get? b=some o->b∉frs (dR (rL P w) P w K mg base N G scope U J A outer s H E).stack->B.get? b=some o)
  (hh:Y7 B (dR (rL P w) P w K mg base N G scope U J A outer s H E).stack ea (.ref C) a0 L h') (up:W.heap.UpToSlots h') (nw:W.heap.get? ea=none) (hE:E (.ref C) (some 0) H1) :
  (dR (rL P w) P w K mg base N G scope U J A outer s H E).xe (.ref ea) {W with heap:=h'}:=by
 refine leave_held hL hh λh2 fl _ aa=>?_
 refine⟨ea,C,H1,W.heap,frs (dR (rL P w) P w K mg base N G scope U J A outer s H E).stack,some 0,rfl,I.os,I.bare,I.base,I.hok,I.stkFree,λb hb=>?_,⟨⟨B,a0,kB,fl⟩,up.trans aa,λb hb o q ac=>?_,nw,λz=>nomatch z⟩,hE⟩
 ·rcases List.mem_cons.mp (show b∈s.heap.objs.size::frs outer from hb)with e|e
  ·exact .inr (ZW (zag e.symm))
  ·exact .inl e
 ·obtain⟨_,o',Y,hd⟩:=I.stack.mem hb
  rw[q]at Y;cases Y;exact hd ac
noncomputable def lD(X:Cx)(ea:Addr)(oe:Obj):Cx:={X with A:=X.A.mark (some (.ref ea)),calm:=false,pn:=(ea,oe)::X.pn,xe:=λ_ _=>False}
section
variable {X:Cx}{pins:List (Addr×Obj)}{σ:L2.St}{H:Hp}{s:U2}{ea:Addr}{oe:Obj}
theorem QI(I:Inv X pins σ H s)(N:s.heap.get? ea=some oe)(W:H ea=none)(J:ea≠X.env.locals)(q:ea∉X.fs)(U:∀v,oe.data≠.cell v):Inv (lD X ea oe) pins σ H s:=by
 have ok:=I.ok;refine⟨⟨ok.mod,ok.kind,ok.glob,ok.blt,ok.above,ok.inj,ok.has,ok.cab,λz=>(nomatch z),ok.frames,ok.stk,ok.exf,ok.bs,ok.bsz,ok.noex,ok.exfs,ok.funs,ok.frf⟩,I.os,I.bare,I.base,I.loc,I.cell,I.free,I.freeC,λp G=>?_,I.hok,I.len⟩;rcases List.mem_cons.mp G with z|z
 ·subst z;exact⟨N,W,J,q,U⟩
 ·exact I.pin p z
theorem JE(I:Inv (lD X ea oe) pins σ H s)(q:X.calm=true->X.A.handled=none):Inv X pins σ H s:=by
 have ok:=I.ok;exact⟨⟨ok.mod,ok.kind,ok.glob,ok.blt,ok.above,ok.inj,ok.has,ok.cab,q,ok.frames,ok.stk,ok.exf,ok.bs,ok.bsz,ok.noex,ok.exfs,ok.funs,ok.frf⟩,I.os,I.bare,I.base,I.loc,I.cell,I.free,I.freeC,λp z=>I.pin p (VW _ z),I.hok,I.len⟩
theorem EI{s':U2}{e:Value}{C0 Cy:Addr}{Good:Option Addr->Hp->Prop}{y n:Str}{yp U:Pos}{ad:Stmt}{N:List Stmt}{Q:Flow->U2->Prop}(I:Inv X pins σ H s)(J:X.stack=X.env::X.outer)(a4:X.env.frame=some X.env.locals)
  (hx:rL X.prog X.w X.stack H s (λc a H2=>c=.ref C0/\Good a H2) e s')
  (hg:Gl X y) (hm:X.mg y=some (.ref Cy)) (a1:PySem.W.exmOne X.K (.ref C0) (.ref Cy)=some true)
  (k:∀(ea:Addr) (oe:Obj) (c:Option Addr) (H1:Hp) (s6:U2), oe.cls = .ref C0 -> Good c H1 -> (c = none -> jJ s6.heap ea) -> Inv (lD X ea oe) pins σ H1 s6 ->
   wpAny (model X.prog X.w) (X.A.mark (some (.ref ea))) (storeName X.env n (.ref ea)) (λ_ aa=>wpAny (model X.prog X.w) (X.A.mark (some (.ref ea))) (execs (ad::N) X.env)
    (λf G=>wpAny (model X.prog X.w) X.A (do bindName X.env n .none;unbindBehindTheSuite X.env n U) (λ_ ao=>Q f ao) X.xe G) (λx G=>wpAny (model X.prog X.w) (X.A.mark (some (.ref ea))) (YN x X.env) (λ_ s4=>wpAny (model X.prog X.w) (X.A.mark (some (.ref ea))) (do bindName X.env n .none;unbindBehindTheSuite X.env n U)
    (λ_ s5=>wpAny (model X.prog X.w) (X.A.mark (some (.ref ea))) (passOn "try.except-as" x X.env:Sem Flow) (λ_ _=>False) (notedBy (model X.prog X.w) (X.A.mark (some (.ref ea))) X.env λx s'=>cameBackBy (model X.prog X.w) X.A X.env X.xe x s') s5) (λ_ _=>False) s4) (λ_ _=>False) G) aa) (λ_ _=>False) s6)
  (a2:(y == ("__debug__" : Str))=false:=by decide) :
  wpAny (model X.prog X.w) X.A (YN e X.env) (λ_ aa=>wpAny (model X.prog X.w) X.A (ZS e none) (λ_ G=>wpAny (model X.prog X.w) X.A (handleBy e X.env [.ExceptHandler (some (.Name y yp)) (some n) (ad::N) U]) Q X.xe G) X.xe aa) X.xe s':=by
 obtain⟨ea,C,H1,h1,fs,c,rfl,os,ak,un,hok,hf,a8,fl,ec,au⟩:=hx;cases ec;obtain⟨B,a0,kB,fw⟩:=id fl.fly;have aj:X.A.frames=some (X.env::X.outer):=I.ok.frames.trans (by rw[J]);rw[J]at fw;refine zE aj a4 fw λh4 af ai as=>?_
 refine lands af λh5 ap ag ax=>?_
 have fin:∀ {h6:Heap},W3 B (X.env::X.outer) ea (.ref C0) a0 h6->(c=none->jJ h6 ea)->s'.heap.UpToSlots h6->∃oe,h6.get? ea=some oe/\oe.cls=.ref C0/\Inv (lD X ea oe) pins σ H1 {s' with heap:=h6}:=λ{h6} ac ln ah=>by
  have ar:Fly X.stack fs h1 ea C0 c h6:=⟨⟨B,a0,kB,J ▸ ac⟩,fl.up.trans ah,fl.fsd,fl.new,ln⟩;have I6:Inv X pins σ H1 {s' with heap:=h6}:=I.call' (s':={s' with heap:=h6}) (ch:=[]) os (ar.un un a8) (ar.hok hok hf) ak λb hb=>nomatch hb
  obtain⟨oe,vs,he,Y,aq,_⟩:=ac.first
  have an:∀b∈X.env.locals::X.fs,ea≠b:=λb hb z=>by
   have:∃o,s.heap.get? b=some o:=by
    rcases List.mem_cons.mp hb with q|q
    ·obtain⟨m,⟨o,es,ep,ho,_⟩,_⟩:=I.loc
     exact⟨o,q ▸ ho⟩
    ·obtain⟨_,o,ho,_⟩:=I.funs.mem q
     exact⟨o,ho⟩
   obtain⟨o,ho⟩:=this;obtain⟨o',am⟩:=un.there b o ho λq=>nomatch q
   rw[<- z,fl.new]at am;cases am
  exact⟨oe,he,Y,QI I6 he (fl.fresh hok) (an _ (VR ..)) (λz=>an _ (VW _ z) rfl) λv z=>by rw[aq]at z;cases z⟩
 obtain⟨oe,he,Y,J5⟩:=fin ap (λz=>ag (ai (fl.cx z))) (as.trans ax);refine wpAny_handleBy_cons (codeAny_handlers_test ?_) (by intro q;cases q);refine gN (X:=lD X ea oe) J5 hg hm ?_ a2;have LT:PySem.W.Looks (model X.prog X.w) h5 (typeOf (.ref ea)) (.ref C0):=Y ▸ (PySem.W.Looks.ld he).andThen .now;refine(PySem.W.exm_one (M:=model X.prog X.w) (h:=h5) J5.kIn LT a1).here ?_;refine codeAny_handlers_suite_as ?_;refine N4 ap λh6 ac aw ah=>?_
 obtain⟨a3,_,ae,J6⟩:=fin ac (λz=>aw (ag (ai (fl.cx z)))) ((as.trans ax).trans ah);refine VP (k ea a3 c H1 _ ae au (λz=>aw (ag (ai (fl.cx z)))) J6) (λ_ s2 h2=>VP h2 (λf s3 h3=>h3) λx s3 h3=>?_) λ_ _ z=>z.elim
 exact VP h3 (λ_ s4 h4=>VP h4 (λ_ s5 h5=>h5) λ_ _ z=>z.elim) λ_ _ z=>z.elim
end
end My
namespace My
open PySem PySem.Spec PyProof.Rows L2 PySem.SeqAt PySem.W
abbrev UA:List Value:=[.type "ValueError",.type "Exception",.type "BaseException",.type "object"]
theorem II{K:U3}{h:Heap}{C:Addr}{J:List Value}{z:String}(X:K.In h)(q:zaw K C J z=true) :
  ∃bm N nm W bs hdct sn sub ab col dd k0 k1 k2 k3 k5 mN,h.get? C=some (excClassObj nm W C N bs bm hdct sn sub ab col dd k0 k1 k2 k3 k5 z)/\h.Ns N mN/\mN "__init__" = none/\OwnTail h J bm:=by
 unfold zaw at q;split at q
 ·rename_i dd cd sl ho
  split at q
  ·rename_i C' bm k0 k1 k2 k3 n k5 hm hs
   simp only[WD,beq_iff_eq,zaX]at q;obtain⟨⟨⟨⟨⟨rfl,rfl⟩,G⟩,ht⟩,hok⟩,U⟩:=q;obtain⟨nm,bs,ac,ns,W,hd,sn,sub,ab,col,aa⟩:=cd;dsimp only at hm G hok U;subst hm G;have Y:sl=#[k0,k1,k2,k3,some (.builtin n),k5]:=by
    obtain⟨l⟩:=sl;simp only at hs;rw[hs]
   subst Y;exact⟨bm,ns,nm,W,bs,hd,sn,sub,ab,col,dd,k0,k1,k2,k3,k5,_,X _ _ ho,.of_isNs (isNs_of_in X hok),nsMap_none_of_in X hok U,tail_of_in X ht⟩
  ·cases q
 ·cases q
structure ExcAt(K:U3)(mg:Str->Option Value)(x:Str)(C:Addr):Prop where
 bound:mg x=some (.ref C)
 ex:zaw K C UA "ValueError.__new__" = true
 k:ExcK K C
section
variable {X:Cx}{pins:List (Addr×Obj)}{σ:L2.St}{H:Hp}{s:U2}
theorem DB{x t:Str}{C:Addr}{j}{U J cpos pos:Pos}{Q:Flow->U2->Prop}{E:Value->U2->Prop}(I:Inv X pins σ H s)(hc:X.calm=true)(hg:Gl X x)(T:ExcAt X.K X.mg x C)
  (k:∀h' e vs,zav s.heap h' e (.ref C) vs->E (.ref e) {s with heap:=h',toks:=s.toks+1}) (z:(x == ("__debug__" : Str))=false:=by decide) :
  wpAny (model X.prog X.w) X.A (exec (.Raise (some (.Call (.Name x U) [.Constant (.str t) j J] [] cpos)) none pos) X.env) Q E s:=by
 obtain⟨bm,N,nm,qn,bs,hdct,sn,sub,ab,col,dd,k0,k1,k2,k3,k5,mN,Y,W,G,tl⟩:=II I.kIn T.ex;refine wpAny_Raise_call_subT PySem.F.excBase_ValueError (C:=C) (nm:=nm) (q:=qn) (N:=N) (bs:=bs) (bm:=bm) (hdct:=hdct) (sn:=sn) (sub:=sub) (ab:=ab) (col:=col) (dd:=dd) (k0:=k0) (k1:=k1) (k2:=k2) (k3:=k3) (k5:=k5) (mN:=mN) (tl.hasType PySem.F.excBase_ValueError.hasBase) (I.ok.hd hc) rfl G (gN I hg T.bound ⟨rfl,?_⟩ z);refine Calls.evalArgs_plain (Calls.spliced_cons (Calls.Constant_str (k:=j) (pos:=J) (Calls.spliced_nil ?_)));exact⟨rfl,(show(1:Nat)<=VA by decide),Y,W,tl,λh' e hm=>k h' e _ hm⟩
theorem xP{ie:Nat}{n:Str}{m:Str->Option Value}{v:Option Value}{h':Heap}{t':Nat}(I:Inv X pins σ H s)(hN:X.N.Nodup)(hi:X.N[ie]?=some n)(hn:s.heap.Ns X.env.locals m)
  (hl:∀(i:Nat) (x:Str) (v:V),X.N[i]?=some x->σ[i]?=some (some v)->GL X.env.scope x->∃u,RelV v u/\Look X.env s.heap m x u)
  (ac:h'.Ns X.env.locals (λx=>if x=n then v else m x)) (hs:WN X.env.locals s.heap h'):Inv X pins (σ.set ie none) H {s with heap:=h',toks:=t'}:=by
 have cne:=I.cne;obtain⟨oL,_,_,af,_⟩:=id hn;refine⟨I.ok,I.os,I.bare,⟨λb o e n hb U=>?_,λb o e n hb U=>?_,I.base.free,λb o e U=>?_,I.base.tups,I.base.frzs,I.base.tbls⟩,⟨_,ac,λj y v' J W e3=>?_⟩,λy c e=>?_,I.free,I.freeC,λp hp=>?_,λb ob e=>?_,by simpa using I.len⟩
 ·exact(hs.2 b (VY (V9 (VE e) I.ok.above))).trans (I.base.keep b o e n hb U)
 ·obtain⟨sl,J⟩:=I.base.slot b o e n hb U
  exact⟨sl,(hs.2 b (VY (V9 (VE e) I.ok.above))).trans J⟩
 ·obtain⟨o',J⟩:=I.base.there b o e U
  exact⟨o',(hs.2 b (VY (V9 (VE e) I.ok.above))).trans J⟩
 ·by_cases hj:j=ie
  ·subst hj
   rw[List.getElem?_set]at W;simp at W
  ·rw[XD (VZ hj)]at W
   obtain⟨u',r',q⟩:=hl j y v' J W e3;refine⟨u',r',?_⟩;rcases q with⟨k,e⟩|⟨k,c,e,z⟩
   ·refine .inl ⟨k,?_⟩
    have:y≠n:=λe=>hj (qO hN J (e ▸ hi))
    simp[this,e]
   ·exact .inr ⟨k,c,e,z.sameBut hs (cne y c e)⟩
 ·obtain⟨w',z⟩:=I.cell y c e
  exact⟨w',z.sameBut hs (cne y c e)⟩
 ·obtain⟨e,n,ne,nf,d⟩:=I.pin p hp
  exact⟨(hs.2 p.1 ne).trans e,n,ne,nf,d⟩
 ·refine(I.hok b ob e).stay (λc w' Y q=>(hs.2 c ?_).trans q) (λ_ q=>q) λ_ _ q=>q
  have G:=I.free;rintro rfl;rcases Y with rfl|Y
  ·rw[G]at e;cases e
  ·rw[G]at Y;cases Y
def tE(ie:Nat)(ea:Addr)(b:Bool):TE:=λσ H Q=>σ[ie]?=some (some (.ref ea))/\∀H',(∀A,P.Ext A H H')->Q (.bl b) H'
theorem D7{K:U3}{C:Addr}:X0 K (.ref C) (.ref C)=some true:=by unfold X0;rw[if_pos (by simp)]
structure CK(K:U3)(C:Addr):Prop where
 ex:∃cd,zax K C=some cd
 ty:PySem.W.typeIn K (.ref C)=some (.type "type")
theorem CK.is{K:U3}{C:Addr}(k:CK K C):(zax K C).isSome=true:=by obtain⟨q,e⟩:=k.ex;rw[e];rfl
theorem IT{K:U3}{C0 C:Addr}{b:Bool}(n:(C0 == C)=false)(hs:VS K (.ref C0) (.ref C)=some b)(k:CK K C):X0 K (.ref C0) (.ref C)=some b:=by
 unfold X0;rw[if_neg (λz=>by have:=Value.ref.inj (beq_iff_eq.mp z);rw[this]at n;simp at n)];show(if _ then _ else _)=_;rw[if_pos (by rw[k.is,k.ty];rfl)];exact hs
theorem HV{K:U3}{C0:Addr}{T:String}{b:Bool}(q:PySem.W.kitMeta T=true)(hs:VS K (.ref C0) (.type T)=some b):X0 K (.ref C0) (.type T)=some b:=by
 unfold X0;rw[if_neg (λz=>by cases beq_iff_eq.mp z)];show(if _ then _ else _)=_;rw[if_pos q];exact hs
theorem JM{K:U3}{C0 C:Addr}{b:Bool}(hs:VS K (.ref C0) (.ref C)=some b)(k:CK K C)(be:VS K (.ref C) (.type "BaseException")=some true):PySem.W.exmOne K (.ref C0) (.ref C)=some b:=by
 unfold PySem.W.exmOne;rw[if_pos (by rw[be];rfl)];show(if _ then _ else _)=_;rw[if_pos (by rw[k.is,k.ty];rfl)];exact hs
theorem any_cons{K:U3}{t c:Value}{q:List Value}(h:X0 K t c=some false)(r:ZT K t q=some false):ZT K t (c::q)=some false:=by
 unfold ZT;rw[h];exact r
def UN(ea:Addr)(cv:V)(b:Bool):List V->Hp->VK->Prop:=λvs H Q=>vs=[.ref ea,cv]/\Q (.bl b) H
theorem QP{ea C0:Addr}{oe:Obj}{cv:V}{b:Bool}(U:(ea,oe)∈X.pn)(Y:oe.cls=.ref C0)(k:ExcK X.K C0)(J:∀u,RelV cv u->X0 X.K (.ref C0) u=some b):CallR X (.builtin "isinstance") (UN ea cv b):=by
 intro pins s σ H xs us Q I r ⟨ex,q⟩;subst ex;obtain⟨u1,u2,rfl,G,N⟩:=vals2 r;cases G;exact PySem.W.kia_one (wK zbe k) I.kIn ⟨oe,(I.pin (ea,oe) (WX _ U)).1,Y⟩ (J _ N) (λz=>nomatch z) λtk=>⟨.bl b,H,I.tok tk,rfl,q⟩
def UL(ea:Addr)(K:U3)(C0:Addr)(b:Bool):List V->Hp->VK->Prop:=λvs H Q=>∃tp z,vs=[.ref ea,.ref tp]/\H tp=some (.tup z)/\(∀q,Vals z q->ZT K (.ref C0) q=some b)/\Q (.bl b) H
theorem OZ{ea C0:Addr}{oe:Obj}{b:Bool}(N:(ea,oe)∈X.pn)(hc:oe.cls=.ref C0)(k:ExcK X.K C0):CallR X (.builtin "isinstance") (UL ea X.K C0 b):=by
 intro pins s σ H xs us Q I r ⟨tp,cs,ex,ht,Y,q⟩;subst ex;obtain⟨u1,u2,rfl,J,U⟩:=vals2 r;cases J;cases U;obtain⟨_,aa,ri,o,e,G,n,hd,_⟩:=I.hok tp _ ht;obtain⟨c',d',da,sl⟩:=o;cases G;cases hd;exact PySem.W.kia_tup (wK zbe k) I.kIn ⟨oe,(I.pin (ea,oe) (WX _ N)).1,hc⟩ e (Y _ ri) (λz=>nomatch z) λtk=>⟨.bl b,H,I.tok tk,rfl,q⟩
end
end My
namespace P
open PySem PySem.Spec PyProof.Rows L2
abbrev Xv:=cX->Option Str
noncomputable def chained(x:Str):Bool:=x == ("NoMake" : Str)
inductive Raised(X:Cx)(A0:Av)(H0:Hp)(x:Str):Value->U2->Prop
 | made {pins:List (Addr×Obj)} {σ:L2.St} {H':Hp} {s':U2} {h':Heap} {ea C:Addr} {vs:List Value}:X.mg x=some (.ref C)->Inv X pins σ H' s'->Ext A0 H0 H'->zav s'.heap h' ea (.ref C) vs->Raised X A0 H0 x (.ref ea) {s' with heap:=h'}
 | flew {pins:List (Addr×Obj)} {σ:L2.St} {H':Hp} {s' s2:U2} {e:Value}:Inv X pins σ H' s'->My.rL X.prog X.w X.stack H' s' (λc a H2=>∃C,X.mg x=some (.ref C)/\c=.ref C/\(chained x=false->a=none)/\Ext A0 H0 H2) e s2->Raised X A0 H0 x e s2
 | held {pins:List (Addr×Obj)} {σ:L2.St} {H':Hp} {s':U2} {h' B:Heap} {ea C L:Addr} {a0:Value}:chained x=true->X.mg x=some (.ref C)->Inv X pins σ H' s'->Ext A0 H0 H'->X.env.frame=some L->(∀b o,s'.heap.get? b=some o->b∉frs X.stack->B.get? b=some o)->Y7 B X.stack ea (.ref C) a0 L h'->s'.heap.UpToSlots h'->s'.heap.get? ea=none->Raised X A0 H0 x (.ref ea) {s' with heap:=h'}
def PX(X:Cx)(O:List Nat)(st:Stmt)(g:Xv):Prop:=∀(pins:List (Addr×Obj)) (s:U2) (σ:L2.St) (H H0:Hp) (A0 A:Av) (E:List Fact) (ρ:cX) (x:Str),Inv X pins σ H s->ST H0 A0 A E O σ H ρ->g ρ=some x->
 (∀e s',Raised X A0 H0 x e s'->X.xe e s')->wpAny (model X.prog X.w) X.A (exec st X.env) (λ_ _=>False) X.xe s
def KR(X:Cx)(O:List Nat)(q:List Stmt)(g:Xv):Prop:=∀(pins:List (Addr×Obj)) (s:U2) (σ:L2.St) (H H0:Hp) (A0 A:Av) (E:List Fact) (ρ:cX) (x:Str),Inv X pins σ H s->ST H0 A0 A E O σ H ρ->g ρ=some x->
 (∀e s',Raised X A0 H0 x e s'->X.xe e s')->wpAny (model X.prog X.w) X.A (execs q X.env) (λ_ _=>False) X.xe s
section
variable {X:Cx}{L:Lp}{O O2 O':List Nat}
def vP:Xv:=λ_=>none
theorem FQ{st:Stmt}:PX X O st vP:=λ_ _ _ _ _ _ _ _ _ _ _ _ e=>nomatch e
theorem fA{q:List Stmt}:KR X O q vP:=λ_ _ _ _ _ _ _ _ _ _ _ _ e=>nomatch e
def GH(x:Str):Xv:=λ_=>some x
theorem cF{x t:Str}{j}{z G cpos pos:Pos}(U:X.calm=true)(N:Gl X x)(T:∃C,My.ExcAt X.K X.mg x C)(q:(x == ("__debug__" : Str))=false:=by decide) :
  PX X O (.Raise (some (.Call (.Name x z) [.Constant (.str t) j G] [] cpos)) none pos) (GH x):=λpins s σ H H0 A0 A E ρ y I st e W=>by
 cases e;obtain⟨C,T⟩:=T;refine My.DB I U N T (λh' e vs J=>?_) q;exact W _ _ (.made (s':={s with toks:=s.toks+1}) T.bound (I.tok _) st.ex J)
theorem a9{st:Stmt}{g:Xv}{rest:List Stmt}(h:PX X O st g):KR X O (st::rest) g:=λpins s σ H H0 A0 A E ρ y I q e W=>
 YV (VP (h pins s σ H H0 A0 A E ρ y I q e W) (λ_ _ z=>z.elim) λ_ _ z=>z)
def CP(c:Bv)(f g:Xv):Xv:=λρ=>(c ρ).bind λb=>if b=true then f ρ else g ρ
theorem jH{c:Expr}{a b:List Stmt}{pos:Pos}{g:Bv}{f k:Xv}(hc:oR X.nox O c g)(U:KR X O a f)(hb:KR X O b k):PX X O (.If c a b pos) (CP g f k):=λpins s σ H H0 A0 A E ρ y I st e W=>by
 obtain⟨G,eb,e⟩:=bind_some e;refine wpAny_If (b7 (PT.nox hc pins s σ H (λY H1=>Y=G/\Ext A H H1) I ⟨H0,A0,A,E,ρ,G,st,eb,λH1 q=>⟨rfl,q⟩⟩) λd J ⟨H1,N,ed,q⟩=>?_);subst ed;cases d with
 | true=>rw[if_pos rfl]at e;exact VP (U pins J σ H1 H0 A0 A E ρ y N (st.mono q) e W) (λ_ _ z=>z.elim) λ_ _ z=>z
 | false=>rw[if_neg VH]at e;exact VP (hb pins J σ H1 H0 A0 A E ρ y N (st.mono q) e W) (λ_ _ z=>z.elim) λ_ _ z=>z
def gF(g1:Xv)(f:Sv)(g2:Xv):Xv:=λρ=>((g1 ρ).map some).getD ((f ρ).bind λo=>match o with
 | .nx ρ'=>g2 ρ'
 | _=>none)
theorem PS.lift{st:Stmt}{t:TS}(h:PS X.nox st t):PS X st t:=λpins s σ H D I hw=>VP (h pins s σ H D (I.wish _) hw) (λ_ _ q=>q.unwish) λ_ _ z=>z.elim
theorem bT{st:Stmt}{rest:List Stmt}{g1 g2:Xv}{f:Sv}(h1:PX X O st g1)(N:PSD X.nox ⟨[],[]⟩ O st f O2)(h2:KR X O2 rest g2):KR X O (st::rest) (gF g1 f g2):=λpins s σ H H0 A0 A E ρ y I J e W=>by
 unfold gF at e;cases e1:g1 ρ with
 | some z=>
  rw[e1]at e;cases e;exact YV (VP (h1 pins s σ H H0 A0 A E ρ y I J e1 W) (λ_ _ z=>z.elim) λ_ _ z=>z)
 | none=>
  rw[e1]at e;obtain⟨o,Y,e⟩:=bind_some e;cases o with
  | nx ρ'=>
   refine YV (b7 (PS.lift N pins s σ H {nx:=λG H'=>∃A',ST H0 A0 A' E O2 G H' ρ',rt:=λ_ _=>False} I ⟨H0,A0,A,E,ρ,_,J,Y,λA' G H' z=>⟨A',z⟩⟩) λfl U q=>?_);cases fl with
   | next=>
    obtain⟨G,H',I',A',z⟩:=q;exact h2 pins U G H' H0 A0 A' E ρ' y I' z e W
   | ret v=>obtain⟨_,_,_,_,_,q⟩:=q;exact q.elim
   | brk=>obtain⟨_,_,_,q⟩:=q;exact q.elim
   | cont=>obtain⟨_,_,_,q⟩:=q;exact q.elim
  | rt d=>cases e
  | bk d=>cases e
  | ct d=>cases e
def kC(g:Gv)(b:Sv)(gx:Xv):List D->cX->Option Str
 | [],_=>none
 | x::xs,ρ=>(g x ρ).bind λρ1=>((gx ρ1).map some).getD ((b ρ1).bind λo=>match o with
  | .nx ρ2=>kC g b gx xs ρ2
  | .ct ρ2=>kC g b gx xs ρ2
  | _=>none)
def J4(f:Lv)(g:Gv)(b:Sv)(gx:Xv):Xv:=λρ=>(f ρ).bind λitems=>kC g b gx items ρ
theorem E4{tg U:Expr}{N:List Stmt}{pos:Pos}{f:Lv}{g:Gv}{b:Sv}{gx:Xv}{O1:List Nat}(hp:YA (model X.prog X.w) X.A X.env X.xe)(hc:X.calm=true)(hi:PDI X O tg U f)(hg:vQ X O1 tg g)(hb:PSDs X.nox ⟨[],O1⟩ O1 N b O1)(hx:KR X O1 N gx)(h1:Sub O1 O=true)
  (hs:∀x,WY U X.env x=pure x:=by intro _;rfl):PX X O (.For tg U N [] pos) (J4 f g b gx):=λpins s σ H H0 A0 A E ρ y I st e W=>by
 obtain⟨items,e1,e⟩:=bind_some e;have al:PSs X N (λT σ H=>tS ⟨[],O1⟩ O1 b O1 T σ H\/∃H0 A0 A E ρ x,ST H0 A0 A E O1 σ H ρ/\gx ρ=some x/\∀e s',Raised X A0 H0 x e s'->X.xe e s'):=λpins s σ H D I w=>w.elim (PSs.nox hb pins s σ H D I) λ⟨H0,A0,A,E,ρ,x,st,e,W⟩=>VP (hx pins s σ H H0 A0 A E ρ x I st e W) (λ_ _ z=>z.elim) λ_ _ z=>z
 refine VP (ES hp hc hi hg al hs pins s σ H {nx:=λ_ _=>False,rt:=λ_ _=>False} I ⟨H0,A0,A,E,ρ,items,st,e1,λJ H1 E1 x1 ah J1=>?_⟩) (λfl s1 q=>?_) λ_ _ z=>z
 ·obtain⟨A1,ag⟩:=((st.mono x1).both ah).shut (Sub.mem h1)
  refine⟨λi m σ H=>m=items.length-i/\i<=items.length/\∃ρ A,ST H0 A0 A (E1++E) O1 σ H ρ/\kC g b gx (items.drop i) ρ=some y,⟨items.length,by simp,XN _,ρ,A1,ag,e⟩,?_⟩;rintro i m σ H ⟨rfl,bc,ρ,A,st,e⟩;have hE:∀p∈E1,p.Holds A H:=λp hp=>st.ext p (WX _ hp)
  obtain⟨ao,go⟩:=J1 A H st.live hE i;by_cases ab:i<items.length
  ·have ed:items[i]?=some items[i]:=by simp[ab]
   obtain⟨an,hy⟩:=go _ ed;rw[ZM ab]at e;obtain⟨Y,eg,e⟩:=bind_some e;refine .inr ⟨an,λad H'=>∃G A2,ST H0 A0 A2 (E1++E) O1 ad H' G/\kC g b gx (items.drop (i+1)) G=some y,λad H' ⟨G,A2,s2,e2⟩=>⟨items.length-(i+1),by lia,rfl,ab,G,A2,s2,e2⟩,λx H' yl=>?_⟩;obtain⟨x2,r2⟩:=hy x H' yl;refine⟨H0,A0,A,E1++E,ρ,_,Y,st.mono x2,r2,eg,λbb s1=>?_⟩;cases e2:gx Y with
   | some z=>
    rw[e2]at e;cases e;exact .inr ⟨H0,A0,A,E1++E,Y,_,s1,e2,W⟩
   | none=>
    rw[e2]at e;obtain⟨o,eo,e⟩:=bind_some e;refine .inl ⟨H0,A0,A,E1++E,Y,o,s1,eo,?_⟩;cases o with
    | nx G=>exact λA2 aj H2 s2=>⟨G,A2,s2,e⟩
    | ct G=>exact λA2 aj H2 s2=>⟨G,A2,s2,e⟩
    | bk G=>cases e
    | rt d=>cases e
  ·have am:i=items.length:=by lia
   subst am;rw[zaW]at e;cases e
 ·cases fl with
  | next=>obtain⟨_,_,_,q⟩:=q;exact q
  | ret v=>obtain⟨_,_,_,_,_,q⟩:=q;exact q
  | brk=>obtain⟨_,_,_,q⟩:=q;exact q
  | cont=>obtain⟨_,_,_,q⟩:=q;exact q
end
def UD(n:Nat)(mg:Str->Option Value)(F:List D->Option D)(G:List D->Option Str):Sp:=λvs H Q E=>vs.length=n/\∃A ds,Live A H/\RepL A H ds vs/\((∃d,F ds=some d/\∀v H',Ext A H H'->Rep A H' d v->Q v H')\/∃x,G ds=some x/\∀C a H',mg x=some (.ref C)->(chained x=false->a=none)->Ext A H H'->E (.ref C) a H')
structure FnX(P:U7)(w:World)(K:U3)(mg:Str->Option Value)(base:Heap)(x:Str)(k:Nat)(ps:List Str)(F:List D->Option D)(G:List D->Option Str):Prop where
 ex:∃f fd,XW K (.ref f)=true/\Binds K fd ps []/\mg x=some (.ref f)/\FnOk P w K mg base (My.rL P w) k f fd ps (UD ps.length mg F G)
def kR(n:Nat)(g:Xv)(ds:List D):Option Str:=g (aA n ds)
theorem N3{P:U7}{w:World}{K:U3}{mg:Str->Option Value}{base:Heap}{x:Str}{st:Stmt}{N ps:List Str}{k:Nat}{f:Sv}{gx:Xv}{O':List Nat}(Df:My.DefAt K mg x st ps)(S:FnScope N ps (aJ st))
  (h:∀(J:Addr) (G:Value) (A:VC) (outer:List Env) (s:U2) (H:Hp) (E:XK),Room k (A.deeper (WB x (aJ st) s.heap.objs.size J G))->∃g,PSDs (dR (My.rL P w) P w K mg base N x (aJ st) J G A outer s H E).nox ⟨[],[]⟩ [] (bO st) g O'/\g=f)
  (hx:∀(J:Addr) (G:Value) (A:VC) (outer:List Env) (s:U2) (H:Hp) (E:XK),Room k (A.deeper (WB x (aJ st) s.heap.objs.size J G))->∃g,KR (dR (My.rL P w) P w K mg base N x (aJ st) J G A outer s H E) [] (bO st) g/\g=gx) :
  FnX P w K mg base x (k+1) ps (bM N.length f) (kR N.length gx):=by
 obtain⟨J,fd,F,B,hm⟩:=Df.ex;obtain⟨oc,od,kV,ah,pm,an,G,ct,ay,rfl,lk,ad⟩:=F.ex;refine⟨J,_,F.kp,B,hm,FY lk ad S (λvs H Q E hs=>hs.1) λA outer s H vs Q E hr U=>?_⟩;obtain⟨_,A1,ds,lv,r,U⟩:=U;rcases U with⟨d,eF,q⟩|⟨y,eG,q⟩
 ·obtain⟨g,hg,rfl⟩:=h J G A outer s H E hr
  obtain⟨o,eo,W⟩:=bind_some eF;refine⟨_,PSs.nox hg,H,A1,A1,[],_,o,ST.begun lv r,eo,?_⟩;cases o with
  | nx ρ=>cases W;exact λA2 aq H2 s2=>q .non H2 s2.ex .non
  | rt d'=>cases W;exact λv H2 x2 r2=>q v H2 x2 r2
  | bk _=>cases W
  | ct _=>cases W
 ·obtain⟨g,hg,rfl⟩:=hx J G A outer s H E hr
  refine⟨λT σ H1=>σ=L2.start N vs/\H1=H,λpins s1 σ H1 T I ⟨e1,W⟩=>?_,rfl,rfl⟩;subst e1 W;refine VP (hg pins s1 _ H1 H1 A1 A1 [] _ y I (ST.begun lv r) eG λe s' R=>?_) (λ_ _ z=>z.elim) λ_ _ z=>z
  cases R with
  | made Y I' x' hm'=>exact My.uA I' hm' (q _ _ _ Y (λ_=>rfl) x')
  | flew I' hx'=>exact My.xZ I' hx' λc a H2 ⟨C,Y,ec,ha,x2⟩=>by subst ec;exact q C a H2 Y ha x2
  | held hc Y I' x' hL kB hh up nw=>exact My.v5 I' hL kB hh up nw (q _ _ _ Y (λz=>by rw[hc]at z;cases z) x')
section
variable {X:Cx}{O:List Nat}
def lC(G:List D->Option Str)(f:Lv):Xv:=λρ=>(f ρ).bind G
theorem eQ{f:Str}{k:Nat}{ps:List Str}{F:List D->Option D}{G:List D->Option Str}{e:Expr}{es:List Expr}{fa:Lv}{p cpos pos:Pos}(FX:FnX X.prog X.w X.K X.mg X.base f k ps F G)(hr:Room k X.A)(hg:Gl X f)(ha:vO X O (e::es) fa)(hl:∀ρ ds,fa ρ=some ds->ds.length=ps.length)(ab:(f == ("__debug__" : Str))=false:=by decide)
  (he:U8 (e::es) X.env=(false,eval e X.env)::U8 es X.env:=by rfl) (aa:(VU cpos (U8 es X.env)).any (·.1)=false:=by rfl) (hs:V2 (.Call (.Name f p) (e::es) [] cpos) none pos.line X.env=pure false:=by rfl) :
  PX X O (.Expr (.Call (.Name f p) (e::es) [] cpos) pos) (lC G fa):=λpins s σ H H0 A0 A E ρ y I st eo W=>by
 obtain⟨ds,ed,eo⟩:=bind_some eo;obtain⟨fn,fd,hk,hb,hm,FO⟩:=FX.ex;refine wpAny_Expr_any ?_ I.quiet hs;refine YW (gN I hg hm ?_ ab);refine ZD (h₀:=X.base) I.ok.mod.kin hk (b7 (ha cpos pins s σ H (λvs H1=>Ext A H H1/\RepL A H1 ds vs) I ⟨H0,A0,A,E,ρ,ds,st,ed,λvs H1 U r1=>⟨U,r1.toL⟩⟩) λY s1 q=>?_) he aa;obtain⟨vs,H1,N,r,U,rl⟩:=q;have lv:=(st.mono U).live;have J:vs.length=ps.length:=by rw[rl.length];exact hl ρ ds ed
 have ad:Y.length=ps.length:=by rw[<- r.length];exact J
 refine⟨N.kIn,ZC (YD (FO.run X.A X.stack s1 H1 ⟨Y,[]⟩ Y vs (λ_ _=>False) (λc a H2=>∃C,X.mg y=some (.ref C)/\c=.ref C/\(chained y=false->a=none)/\Ext A0 H0 H2) hr N.env0 (by have:=hb s1 Y N.kIn (by rw[W6];exact ad);rwa [W6]at this) r ⟨J,A,ds,lv,rl,.inr ⟨y,eo,λC a H2 hC ha x2=>⟨C,hC,rfl,ha,(st.mono (U.trans x2)).ex⟩⟩⟩) λrr s2 q=>?_)⟩;cases rr with
 | error e=>exact W _ _ (.flew N q)
 | ok fl=>
  cases fl with
  | ret u=>obtain⟨v,H2,I2,rv,z⟩:=N.after q;exact z.elim
  | next=>exact V1 q
  | brk=>exact V1 q
  | cont=>exact V1 q
end
end P
namespace My
open PySem PySem.Spec PyProof.Rows L2 PySem.SeqAt
section
variable {X:Cx}
def TZ(K:U3)(mg:Str->Option Value)(C0:Addr)(z:Str):Prop:=∃C,mg z=some (.ref C)/\CK K C/\(C0 == C)=false/\VS K (.ref C0) (.ref C)=some false
structure TryAt(K:U3)(mg:Str->Option Value)(x0 y:Str)(ys:List Str):Prop where
 ex:∃C0 Cy,ExcAt K mg x0 C0/\mg y=some (.ref Cy)/\CK K Cy/\VS K (.ref Cy) (.type "BaseException")=some true/\VS K (.ref C0) (.ref Cy)=some true/\VS K (.ref C0) (.type "ValueError")=some true/\∀z∈ys,TZ K mg C0 z
theorem TryAt.cls{K:U3}{mg:Str->Option Value}{q y:Str}{ys:List Str}(T:TryAt K mg q y ys):∃C,ExcAt K mg q C:=by
 obtain⟨C0,_,h,_⟩:=T.ex;exact⟨C0,h⟩
def UZ(q:List V):TA:=λ_ H Q=>Q q H
def PO(X:Cx)(C0:Addr)(es:List Expr):Prop:=∃q:List V,PA X es (UZ q)/\(q.length=es.length)/\∀z,Vals q z->ZT X.K (.ref C0) z=some false
theorem uV{ea C0:Addr}{oe:Obj}{cv:V}{b:Bool}{ie:Nat}{G z:Expr}{p pos:Pos}(W:(ea,oe)∈X.pn)(hc:oe.cls=.ref C0)(k:ExcK X.K C0)(U:∀u,RelV cv u->X0 X.K (.ref C0) u=some b)
  (Y:Gl X "isinstance") (J:X.mg "isinstance" = none) (he:PE X G (nW ie)) (h2:PE X z (tC cv))
  (h1:U8 [G,z] X.env=(false,eval G X.env)::U8 [z] X.env:=by rfl) (h3:(VU pos (U8 [z] X.env)).any (·.1)=false:=by rfl) (N:U8 [z] X.env=(false,eval z X.env)::U8 [] X.env:=by rfl) :
  PE X (.Call (.Name "isinstance" p) [G,z] [] pos) (tE ie ea b):=
 P.PE.mono (qS (QP W hc k U) Y J boot_isinstance (fM he (fM h2 lP N) h1) (by decide) (by decide) h1 h3) λσ H Q ⟨e,q⟩=>⟨_,e,rfl,q H λA=>P.Ext.refl A H⟩
theorem JB{ea C0:Addr}{oe:Obj}{ie:Nat}{z:Expr}{es:List Expr}{x1}{p pos tp:Pos}(W:(ea,oe)∈X.pn)(hc:oe.cls=.ref C0)(k:ExcK X.K C0)
  (hg:Gl X "isinstance") (J:X.mg "isinstance" = none) (he:PE X z (nW ie)) (h2:PO X C0 es) (Y:es.length<=VA)
  (h1:U8 [z,.Tuple es x1 tp] X.env=(false,eval z X.env)::U8 [.Tuple es x1 tp] X.env:=by rfl) (h3:(VU pos (U8 [.Tuple es x1 tp] X.env)).any (·.1)=false:=by rfl) (N:U8 [.Tuple es x1 tp] X.env=(false,eval (.Tuple es x1 tp) X.env)::U8 [] X.env:=by rfl) :
  PE X (.Call (.Name "isinstance" p) [z,.Tuple es x1 tp] [] pos) (tE ie ea false):=by
 obtain⟨cs,G,hl,U⟩:=h2;refine P.PE.mono (qS (OZ (b:=false) W hc k) hg J boot_isinstance (fM he (fM (EX G) lP N) h1) (by decide) (by decide) h1 h3) λσ H Q ⟨e,q⟩=>?_
 exact⟨_,e,by rw[hl];exact Y,λt ht=>⟨t,cs,rfl,aT,U,q _ λA=>P.Ext.new ht⟩⟩
end
end My
namespace P
open PySem PySem.Spec PyProof.Rows L2
theorem ST.blank{H0:Hp}{A0 A:Av}{E:List Fact}{O:List Nat}{σ:L2.St}{H:Hp}{ρ:cX}(s:ST H0 A0 A E O σ H ρ){i:Nat}{o:Option V}(n:i∉O):ST H0 A0 A E O (σ.set i o) H (ρ.set i none) where
 ex:=s.ex
 sub:=s.sub
 l0:=s.l0
 live:=s.live
 len:=by simp[s.len]
 val:=λj d' h' G=>by
  rcases cL h' with⟨_,q,_⟩|⟨e,q⟩
  ·cases q
  ·obtain⟨w,h1,h2⟩:=s.val j d' q G;exact⟨w,by rw[XD (VZ e)];exact h1,h2⟩
 own:=λj d' h' G=>by
  rcases cL h' with⟨_,q,_⟩|⟨e,q⟩
  ·cases q
  ·obtain⟨w,h1,h2⟩:=s.own j d' q G;exact⟨w,by rw[XD (VZ e)];exact h1,h2⟩
 inj:=λj k d1 Y a J U h1 h2 W N=>by
  have nj:i≠j:=λz=>n (z ▸ J)
  have nk:i≠k:=λz=>n (z ▸ U)
  rcases cL h1 with⟨_,e,_⟩|⟨_,h1⟩
  ·cases e
  rcases cL h2 with⟨_,e,_⟩|⟨_,h2⟩
  ·cases e
  exact s.inj j k d1 Y a J U h1 h2 (by rw[XD nj]at W;exact W) (by rw[XD nk]at N;exact N)
 ext:=s.ext
section
variable {X:Cx}{L:Lp}{O O':List Nat}
end
end P
namespace My
open PySem PySem.Spec PyProof.Rows L2 PySem.SeqAt
end My
namespace P
open PySem PySem.Spec PyProof.Rows L2
section
variable {X:Cx}{L:Lp}{O O':List Nat}
end
end P
namespace My
open PySem PySem.Spec PyProof.Rows L2 PySem.SeqAt PySem.W
section
variable {X:Cx}{pins:List (Addr×Obj)}{σ:L2.St}{H:Hp}{s:U2}
end
end My
namespace My
open PySem PySem.Spec PyProof.Rows L2 PySem.SeqAt
section
variable {M:Model}{A:VC}{E:Value->U2->Prop}{s:U2}{B:Heap}{l:List Env}{env:Env}{L e:Addr}{cls a0:Value}
end
end My
namespace P
open PySem PySem.Spec PyProof.Rows L2
section
variable {X:Cx}{O:List Nat}
end
def UE(X:Cx)(O:List Nat)(e:Expr)(g:Xv):Prop:=∀(pins:List (Addr×Obj)) (s:U2) (σ:L2.St) (H H0:Hp) (A0 A:Av) (E:List Fact) (ρ:cX) (x:Str),Inv X pins σ H s->ST H0 A0 A E O σ H ρ->g ρ=some x->
 (∀e s',Raised X A0 H0 x e s'->X.xe e s')->wpAny (model X.prog X.w) X.A (eval e X.env) (λ_ _=>False) X.xe s
section
variable {X:Cx}{O:List Nat}
theorem O5{e:Expr}{g:Xv}{pos:Pos}(h:UE X O e g)(hs:V2 e none pos.line X.env=pure false:=by rfl):PX X O (.Expr e pos) g:=λpins s σ H H0 A0 A E ρ y I st q W=>
 wpAny_Expr_any (VP (h pins s σ H H0 A0 A E ρ y I st q W) (λ_ _ z=>z.elim) λ_ _ z=>z) I.quiet hs
end
end P
namespace My
open PySem PySem.Spec PyProof.Rows L2 PySem.SeqAt
def RF(ie:Nat)(ea:Addr)(d:P.D):TE:=λσ H Q=>σ[ie]?=some (some (.ref ea))/\∀v H',(∀A,P.Live A H->P.Ext A H H'/\P.Rep A H' d v)->Q v H'
section
variable {X:Cx}
def RK(ie:Nat)(ea:Addr)(bs:List Bool):TA:=λσ H Q=>σ[ie]?=some (some (.ref ea))/\∀H',(∀A,P.Ext A H H')->Q (bs.map .bl) H'
theorem bG{ie:Nat}{ea:Addr}:PA X [] (RK ie ea []):=λpos pins s σ H Q I ⟨e,q⟩=>lP pos pins s σ H Q I (q H λA=>P.Ext.refl A H)
theorem aD{ie:Nat}{ea:Addr}{b:Bool}{bs:List Bool}{e:Expr}{es:List Expr}(h:PE X e (tE ie ea b))(r:PA X es (RK ie ea bs))(hs:U8 (e::es) X.env=(false,eval e X.env)::U8 es X.env:=by rfl):PA X (e::es) (RK ie ea (b::bs)):=λpos pins s σ H Q I ⟨e,q⟩=>
 fM h r hs pos pins s σ H Q I ⟨e,λH1 z=>⟨e,λH2 G=>q H2 λA=>(z A).trans (G A)⟩⟩
theorem zO{A:P.Av}{H:Hp}:∀(bs:List Bool),P.RepL A H (bs.map .bl) (bs.map .bl)
 | []=>.nil
 | _::bs=>.cons (.bl _) (zO bs)
theorem bF{es:List Expr}{pos:Pos}{ie:Nat}{ea:Addr}{bs:List Bool}(h:PA X es (RK ie ea bs))(U:bs.length<=VA):PE X (.List es pos) (RF ie ea (.lst (bs.map .bl))):=
 P.PE.mono (EQ h) λσ H Q ⟨e,q⟩=>⟨e,λH1 J=>⟨by rw[VL];exact U,λp G=>q _ _ λA W=>by
  have N:¬ A p:=λz=>by
   cases ho:H p with
   | none=>exact W p z ho
   | some o=>have:=(J A).ow p o z ho;rw[G]at this;cases this
  exact⟨(J A).trans (P.Ext.new G),.lst N (.of aT) (zO bs)⟩⟩⟩
def UC(ie:Nat)(ea:Addr)(i:Nat)(as bs:List Bool):TE:=λσ H Q=>σ[ie]?=some (some (.ref ea))/\∃A v,P.Live A H/\σ[i]?=some (some v)/\P.Rep A H (.lst (as.map .bl)) v/\∀w H',P.Ext A H H'->P.Rep A H' (.lst ((as++bs).map .bl)) w->Q w H'
theorem IY{a b:Expr}{pos:Pos}{ie i:Nat}{ea:Addr}{as bs:List Bool}(ha:PE X a (nW i))(hb:PE X b (RF ie ea (.lst (bs.map .bl))))(hz:as.length+bs.length<=VA):PE X (.BinOp a .Add b pos) (UC ie ea i as bs):=
 P.PE.mono (FW P.AC ha hb) λσ H Q ⟨e,A,v,U,ev,rv,q⟩=>⟨v,ev,e,λw H1 hx=>by
  obtain⟨N,r1⟩:=hx A U;obtain⟨a,xs,rfl,h1,Y⟩:=P.RepB.lst_inv (.of (rv.ext N));obtain⟨b,ys,rfl,h2,W⟩:=P.RepB.lst_inv (.of r1);have G:P.Live A H1:=λp z ho=>by
   cases h0:H p with
   | none=>exact U p z h0
   | some o=>have:=N.ow p o z h0;rw[ho]at this;cases this
  refine⟨a,b,xs,ys,rfl,rfl,h1,h2,by rw[Y.length,W.length,VL,VL];exact hz,λp J=>q _ _ (N.trans (P.Ext.new J)) ?_⟩;rw[zay];exact .lst (λz=>G p z J) (.of aT) ((Y.append W).ext (P.Ext.new J))⟩
inductive HR(X:Cx)(ie:Nat)(ea:Addr):Option (Nat×List Bool)->List Stmt->List (Nat×P.D)->Prop
 | nil {o:Option (Nat×List Bool)}:HR X ie ea o [] []
 | cons {o o':Option (Nat×List Bool)} {st:Stmt} {sts:List Stmt} {i:Nat} {d:P.D} {l:List (Nat×P.D)}:PS X st (yZ (RF ie ea d) (nB i))->i≠ie->(∀p,o'=some p->p.1=i/\d=.lst (p.2.map .bl))->HR X ie ea o' sts l->HR X ie ea o (st::sts) ((i,d)::l)
 | more {st:Stmt} {sts:List Stmt} {i:Nat} {as bs:List Bool} {l:List (Nat×P.D)}:PS X st (yZ (UC ie ea i as bs) (nB i))->i≠ie->HR X ie ea (some (i,as++bs)) sts l->HR X ie ea (some (i,as)) (st::sts) ((i,.lst ((as++bs).map .bl))::l)
end
end My
namespace P
open PySem PySem.Spec PyProof.Rows L2
def AR:List (Nat×D)->cX->cX
 | [],ρ=>ρ
 | p::l,ρ=>AR l (ρ.set p.1 (some p.2))
theorem NG{X:Cx}{ie:Nat}{ea:Addr}{o:Option (Nat×List Bool)}{U:List Stmt}{l:List (Nat×D)}(h:My.HR X ie ea o U l):PSs X U (λD σ H=>σ[ie]?=some (some (.ref ea))/\∃H0 A0 A E O ρ,ST H0 A0 A E O σ H ρ/\(∀p,o=some p->ρ.length<=p.1\/ρ[p.1]?=some (some (.lst (p.2.map .bl))))/\(∀p∈l,p.1<σ.length/\p.1∉O)/\∀J H' A',ST H0 A0 A' E O J H' (AR l ρ)->D.nx J H'):=by
 induction h with
 | nil=>exact λpins s σ H D I ⟨_,H0,A0,A,E,O,ρ,st,_,_,q⟩=>zG pins s σ H D I (q σ H A st)
 | cons h1 hne ho _ ih=>
  intro pins s σ H D I ⟨e,H0,A0,A,E,O,ρ,st,_,N,q⟩;refine qM h1 ih pins s σ H D I ⟨e,λv H1 xr=>?_⟩;obtain⟨Y,W⟩:=xr A st.live;obtain⟨hi,z⟩:=N _ (VR ..);refine⟨by rw[XD hne];exact e,H0,A0,A,E,O,_,(st.mono Y).put W z,λp G=>?_,λp G=>by rw[zac];exact N p (VW _ G),q⟩;obtain⟨e1,e2⟩:=ho p G;refine .inr ?_;rw[e1,<- e2];simp[<- st.len,hi]
 | more h1 hne _ ih=>
  intro pins s σ H D I ⟨e,H0,A0,A,E,O,ρ,st,ho,N,q⟩;obtain⟨hi,z⟩:=N _ (VR ..);have hv:=(ho _ rfl).resolve_left (by rw[<- st.len];exact Nat.not_le.mpr hi);obtain⟨v,ev,rv⟩:=st.val _ _ hv z;refine qM h1 ih pins s σ H D I ⟨e,A,v,st.live,ev,rv,λw H1 Y W=>?_⟩;refine⟨by rw[XD hne];exact e,H0,A0,A,E,O,_,(st.mono Y).put W z,λp G=>.inr ?_,λp G=>by rw[zac];exact N p (VW _ G),q⟩;cases G;simp[<- st.len,hi]
def rF(jv ie:Nat)(F:List D->Option D)(G:List D->Option Str)(tl:List (Str×List (Nat×D)))(fa:Lv):Sv:=λρ=>(fa ρ).bind λds=>match G ds with
 | some x=>(tl.lookup x).bind λl=>some (.nx ((AR l (ρ.set ie none)).set ie none))
 | none=>(F ds).bind λd=>some (.nx (ρ.set jv (some d)))
theorem tI{q:Type}:∀ {tl:List (Str×q)} {x:Str} {l:q},tl.lookup x=some l->(x,l)∈tl
 | [],_,_,e=>nomatch e
 | (y,m)::tl,x,l,e=>by
  by_cases h:(x == y)=true
  ·rw[YS,h]at e;cases e;rw[eq_of_beq h];exact VR ..
  ·rw[YS,Bool.eq_false_iff.mpr h]at e;exact VW _ (tI e)
section
variable {X:Cx}{L:Lp}{O O':List Nat}
theorem EG{nn:Nat}{f y n v:Str}{vp:Pos}{jv:Nat}{ie k:Nat}{ps:List Str}{F:List D->Option D}{G:List D->Option Str}{e ad:Expr}{bt:Expr}{bp:Pos}{es:List Expr}{rest:List Stmt}{fa:Lv}{tl:List (Str×List (Nat×D))}{p cpos ae yp al pos:Pos}
  (bg:∀e s,X.xe e s->False) (hc:X.calm=true) (am:X.stack=X.env::X.outer) (bi:X.env.frame=some X.env.locals) (FX:FnX X.prog X.w X.K X.mg X.base f k ps F G) (hr:Room k X.A) (hg:Gl X f) (ha:vO X O (e::es) fa) (hl:∀ρ ds,fa ρ=some ds->ds.length=ps.length)
  (T:∀p∈tl,∃ys,My.TryAt X.K X.mg p.1 y ys/\∀C0 ea oe,oe.cls=.ref C0->X.mg p.1=some (.ref C0)->My.ExcK X.K C0->VS X.K (.ref C0) (.type "ValueError")=some true->(∀z∈ys,My.TZ X.K X.mg C0 z)->My.HR (My.lD X ea oe) ie ea none (.Assign [bt] ad bp::rest) p.2) (hy:Gl X y) (hN:X.N.Nodup) (ba:X.N[jv]?=some v) (ab:X.env.scope.names.lookup v=some .local) (bf:jv∉O) (ag:X.N[ie]?=some n) (W:X.env.scope.names.lookup n=some .local) (hO:ie∉O) (ax:∀p∈tl,∀q∈p.2,q.1<nn/\q.1∉O) (aB:X.N.length=nn:=by rfl)
  (h:Sub O' O=true:=by rfl) (a3:(f == ("__debug__" : Str))=false:=by decide) (bh:(y == ("__debug__" : Str))=false:=by decide)
  (he:U8 (e::es) X.env=(false,eval e X.env)::U8 es X.env:=by rfl) (au:(VU cpos (U8 es X.env)).any (·.1)=false:=by rfl) (hs:V2 (.Call (.Name f p) (e::es) [] cpos) (some (.Name v vp)) ae.line X.env=pure false:=by rfl) :
  PSD X L O (.Try [.Assign [.Name v vp] (.Call (.Name f p) (e::es) [] cpos) ae] [.ExceptHandler (some (.Name y yp)) (some n) (.Assign [bt] ad bp::rest) al] [] [] pos) (rF jv ie F G tl fa) O':=by
 intro pins s σ H Td I ⟨H0,A0,A,E,ρ,ci,st,Y,ac⟩;obtain⟨ds,ed,Y⟩:=bind_some Y;obtain⟨fn,fd,hk,hb,hm,FO⟩:=FX.ex;refine wpAny_Try_except (YV (wpAny_Assign_Name ?_ hs));refine YW (gN I hg hm ?_ a3);refine ZD (h₀:=X.base) I.ok.mod.kin hk (VP (ha cpos pins s σ H (λvs H1=>Ext A H H1/\RepL A H1 ds vs) I ⟨H0,A0,A,E,ρ,ds,st,ed,λvs H1 x1 r1=>⟨x1,r1.toL⟩⟩) (λus s1 U=>?_) λe s z=>(bg e s z).elim) he au;obtain⟨vs,H1,I1,r,x1,rl⟩:=U;have lv:=(st.mono x1).live;have ah:vs.length=ps.length:=by rw[rl.length];exact hl ρ ds ed
 have bl:us.length=ps.length:=by rw[<- r.length];exact ah
 have ap:=λ(Q:VK) (Ev:XK) (a2:UD ps.length X.mg F G vs H1 Q Ev)=>FO.run X.A X.stack s1 H1 ⟨us,[]⟩ us vs Q Ev hr I1.env0 (by have:=hb s1 us I1.kIn (by rw[W6];exact bl);rwa [W6]at this) r a2
 refine⟨I1.kIn,?_⟩;cases hG:G ds with
 | none=>
  rw[hG]at Y;obtain⟨d,eF,Y⟩:=bind_some Y;cases Y;refine ZC (YD (ap (λv H2=>Ext A H1 H2/\Rep A H2 d v) (λ_ _ _=>False) ⟨ah,A,ds,lv,rl,.inl ⟨d,eF,λv H2 x2 r2=>⟨x2,r2⟩⟩⟩) λrr s2 U=>?_);cases rr with
  | error e=>
   obtain⟨_,_,_,_,_,_,_,_,_,_,_,_,_,_,z⟩:=U;exact z.elim
  | ok fl=>
   cases fl with
   | ret u=>
    obtain⟨v,H2,I2,rv,x2,r2⟩:=I1.after U;obtain⟨A',af⟩:=((st.mono (x1.trans x2)).put r2 bf).shut (Sub.mem h);exact mQ I2 hN ba (.inl ab) rv (λs3 I3=>YU (YU ⟨_,H2,I3,ac A' _ H2 af⟩)) (.inr ab)
   | next=>exact V1 U
   | brk=>exact V1 U
   | cont=>exact V1 U
 | some x0=>
  rw[hG]at Y;obtain⟨l,bb,Y⟩:=bind_some Y;have ak:=tI bb;cases Y;obtain⟨ys,TA,hh⟩:=T _ ak;obtain⟨C0,Cy,h0,a8,ky,bj,sy,sv,ho⟩:=TA.ex;refine ZC (YD (ap (λ_ _=>False) (λc _ H2=>c=.ref C0/\Ext A H1 H2) ⟨ah,A,ds,lv,rl,.inr ⟨x0,hG,λC a H2 hC _ x2=>⟨by rw[h0.bound]at hC;cases hC;rfl,x2⟩⟩⟩) λrr s2 U=>?_);cases rr with
  | ok fl=>
   cases fl with
   | ret u=>
    obtain⟨v,H2,I2,rv,x2⟩:=I1.after U;exact x2.elim
   | next=>exact V1 U
   | brk=>exact V1 U
   | cont=>exact V1 U
  | error e=>
   refine My.EI (Good:=λ_ H2=>Ext A H1 H2) I1 am bi U hy a8 (My.JM sy ky bj) (λea oe _ H2 s6 ao x2 _ J=>?_) bh;refine mQ (X:=My.lD X ea oe) J hN ag (.inl W) (v:=.ref ea) rfl (λs7 J7=>?_) (.inr W);have hi:ie<σ.length:=by rw[I.len];exact(List.getElem?_eq_some_iff.mp ag).1
   refine VP (NG (hh C0 ea oe ao h0.bound h0.k sv ho) pins s7 (σ.set ie (some (.ref ea))) H2 {nx:=λaj H'=>∃A',ST H0 A0 A' E O aj H' (AR l (ρ.set ie none)),rt:=λ_ _=>False} J7 ⟨by simp[hi],H0,A0,A,E,O,_,(st.mono (x1.trans x2)).blank (o:=some (.ref ea)) hO,(λp hp=>by cases hp),λq U=>by rw[zac,I.len,aB];exact ax _ ak q U,λaj H' A' z=>⟨A',z⟩⟩) (λfl s8 q8=>?_) λ_ _ z=>z.elim
   cases fl with
   | next=>
    obtain⟨ca,H8,J8,A8,az⟩:=q8;have I8:=My.JE J8 I.ok.hd;obtain⟨m,hn,as⟩:=I8.loc;refine wpAny_nameGoes_keeps W hn (by rw[I.ok.kind];rfl) λh9 v ay a4=>?_
    have I9:=My.xP (t':=s8.toks+1) I8 hN ag hn as ay a4;obtain⟨A',af⟩:=(az.blank (o:=none) hO).shut (Sub.mem h);exact⟨_,H8,I9,ac A' _ H8 af⟩
   | ret v=>obtain⟨_,_,_,_,_,q⟩:=q8;exact q.elim
   | brk=>obtain⟨_,_,_,q⟩:=q8;exact q.elim
   | cont=>obtain⟨_,_,_,q⟩:=q8;exact q.elim
end
end P
namespace My
open PySem PySem.Spec PyProof.Rows L2 PySem.SeqAt
section
variable {X:Cx}{ea C0:Addr}{oe:Obj}{n:Str}{ie:Nat}
structure Hd(X:Cx)(ea:Addr)(oe:Obj)(C0:Addr)(n:Str)(ie:Nat):Prop where
 hc:oe.cls=.ref C0
 k:ExcK X.K C0
 hie:X.N[ie]?=some n
 he:GL X.env.scope n
 hg:Gl X "isinstance"
 hm:X.mg "isinstance" = none
 d1:(n == ("__debug__" : Str))=false
 d2:(n == ("__classdict__" : Str))=false
theorem Hd.v(h:Hd X ea oe C0 n ie)(p:Pos):PE (lD X ea oe) (.Name n p) (nW ie):=yO (X:=lD X ea oe) h.hie h.he h.d1 h.d2
theorem Hd.self(h:Hd X ea oe C0 n ie){x:Str}{J p2 q z:Pos}(G:Gl X x)(h0:X.mg x=some (.ref C0))(N:(x == ("__debug__" : Str))=false:=by decide):PE (lD X ea oe) (.Call (.Name "isinstance" J) [.Name n p2,.Name x q] [] z) (tE ie ea true):=
 uV (X:=lD X ea oe) (cv:=.ref C0) (VR ..) h.hc h.k (λu r=>by cases r;exact D7) h.hg h.hm (h.v _) (o6 (X:=lD X ea oe) (v:=.ref C0) G h0 rfl N)
theorem Hd.oth(h:Hd X ea oe C0 n ie){z:Str}{Y p2 J N:Pos}(U:Gl X z)(o:TZ X.K X.mg C0 z)(hd:(z == ("__debug__" : Str))=false:=by decide):PE (lD X ea oe) (.Call (.Name "isinstance" Y) [.Name n p2,.Name z J] [] N) (tE ie ea false):=by
 obtain⟨C,q,k,W,G⟩:=o;exact uV (X:=lD X ea oe) (cv:=.ref C) (VR ..) h.hc h.k (λu r=>by cases r;exact IT W G k) h.hg h.hm (h.v _) (o6 (X:=lD X ea oe) (v:=.ref C) U q rfl hd)
theorem Hd.val(h:Hd X ea oe C0 n ie){N p2 z G:Pos}(J:Gl X "ValueError")(q:X.mg "ValueError" = none)(sv:VS X.K (.ref C0) (.type "ValueError")=some true):PE (lD X ea oe) (.Call (.Name "isinstance" N) [.Name n p2,.Name "ValueError" z] [] G) (tE ie ea true):=
 uV (X:=lD X ea oe) (cv:=.ty "ValueError") (VR ..) h.hc h.k (λu r=>by cases r;exact HV (by decide +kernel) sv) h.hg h.hm (h.v _) (JA (X:=lD X ea oe) (v:=.ty "ValueError") J q (by decide +kernel) rfl (by decide) (by decide))
theorem Hd.tup(h:Hd X ea oe C0 n ie){es:List Expr}{x1}{z p2 G q:Pos}(p:PO (lD X ea oe) C0 es)(J:es.length<=VA):PE (lD X ea oe) (.Call (.Name "isinstance" z) [.Name n p2,.Tuple es x1 G] [] q) (tE ie ea false):=
 JB (X:=lD X ea oe) (VR ..) h.hc h.k h.hg h.hm (h.v _) p J
theorem dJ{o:Option (Nat×List Bool)}{i:Nat}{v:Str}{e:Expr}{bs:List Bool}{p pos:Pos}{q:List Stmt}{l:List (Nat×P.D)}(G:X.N.Nodup)(hi:X.N[i]?=some v)(z:X.env.scope.names.lookup v=some .local)(J:i≠ie)(h:PE (lD X ea oe) e (RF ie ea (.lst (bs.map .bl))))(r:HR (lD X ea oe) ie ea (some (i,bs)) q l)(hs:V2 e (some (.Name v p)) pos.line X.env=pure false:=by rfl):HR (lD X ea oe) ie ea o (.Assign [.Name v p] e pos::q) ((i,.lst (bs.map .bl))::l):=
 .cons (vC (X:=lD X ea oe) G hi (.inl z) h hs (.inr z)) J (λp h=>by cases h;exact⟨rfl,rfl⟩) r
theorem bV{i:Nat}{v:Str}{e:Expr}{as bs:List Bool}{p G p2 pos:Pos}{q:List Stmt}{l:List (Nat×P.D)}(J:X.N.Nodup)(hi:X.N[i]?=some v)(z:X.env.scope.names.lookup v=some .local)(hv:GL X.env.scope v)(ni:i≠ie)(h:PE (lD X ea oe) e (RF ie ea (.lst (bs.map .bl))))(Y:as.length+bs.length<=VA)(r:HR (lD X ea oe) ie ea (some (i,as++bs)) q l)(hs:V2 (.BinOp (.Name v G) .Add e p2) (some (.Name v p)) pos.line X.env=pure false:=by rfl)(W:(v == ("__debug__" : Str))=false:=by decide)(U:(v == ("__classdict__" : Str))=false:=by decide):HR (lD X ea oe) ie ea (some (i,as)) (.Assign [.Name v p] (.BinOp (.Name v G) .Add e p2) pos::q) ((i,.lst ((as++bs).map .bl))::l):=
 .more (vC (X:=lD X ea oe) J hi (.inl z) (IY (yO (X:=lD X ea oe) hi hv W U) h Y) hs (.inr z)) ni r
theorem kO(n:Str){o:Option (Nat×List Bool)}{q:List Stmt}{l:List (Nat×P.D)}(h:Hd X ea oe C0 n ie->HR (lD X ea oe) ie ea o q l)(z:Hd X ea oe C0 n ie):HR (lD X ea oe) ie ea o q l:=h z
end
structure Ce(K:U3)(z:Str)(C:Addr):Prop where
 a:WH K VQ z=some (some (.ref C))
 c:∃cd,zax K C=some cd
 t:PySem.W.typeIn K (.ref C)=some (.type "type")
inductive Ces(K:U3):List (Str×Addr)->Prop
 | nil:Ces K []
 | cons {z:Str} {C:Addr} {cd:ClassData} {l:List (Str×Addr)} (a:WH K VQ z=some (some (.ref C))) (c:zax K C=some cd) (t:PySem.W.typeIn K (.ref C)=some (.type "type")) (r:Ces K l):Ces K ((z,C)::l)
theorem Ces.at{K:U3}{l:List (Str×Addr)}(h:Ces K l):∀p∈l,Ce K p.1 p.2:=by
 induction h with
 | nil=>exact λp q=>nomatch q
 | cons a c t _ ih=>exact List.forall_mem_cons.mpr ⟨⟨a,⟨_,c⟩,t⟩,ih⟩
structure Exq(K:U3)(C:Addr):Prop where
 e:zaw K C UA "ValueError.__new__" = true
 ga:Z4 K (.ref C) "__getattribute__" = some (some (.builtin "BaseException.__getattribute__"))
 gt:Z4 K (.ref C) "__getattr__" = some none
 cl:Z4 K (.ref C) "__class__" = some (some (.builtin "object.__class__"))
 ob:VS K (.ref C) (.type "object")=some true
 be:VS K (.ref C) (.type "BaseException")=some true
 gg:PySem.W.specialIn K (.builtin "object.__class__") "__get__" = some (some (.builtin "getset_descriptor.__get__"))
 tk:PySem.W.takesIn K (.builtin "object.__class__")=some true
 sv:VS K (.ref C) (.type "ValueError")=some true
inductive Sus(K:U3)(C0:Addr):List (Str×Addr)->Prop
 | nil:Sus K C0 []
 | cons {z:Str} {C:Addr} {l:List (Str×Addr)} (b:VS K (.ref C0) (.ref C)=some false) (n:(C0 == C)=false) (r:Sus K C0 l):Sus K C0 ((z,C)::l)
theorem Sus.at{K:U3}{C0:Addr}{l:List (Str×Addr)}(h:Sus K C0 l):∀p∈l,VS K (.ref C0) (.ref p.2)=some false/\(C0 == p.2)=false:=by
 induction h with
 | nil=>exact λp q=>nomatch q
 | cons b n _ ih=>exact List.forall_mem_cons.mpr ⟨⟨b,n⟩,ih⟩
theorem nR{K:U3}{h:Heap}{mg:Str->Option Value}(X:K.In h)(G:h.Ns VQ mg){l N:List (Str×Addr)}(cl:Ces K l){W y:Str}{C0 q:Addr}(ex:Exq K C0)(yb:VS K (.ref q) (.type "BaseException")=some true)(sy:VS K (.ref C0) (.ref q)=some true)(su:Sus K C0 N)
  (m0:(W,C0)∈l) (my:(y,q)∈l) (Y:∀p∈N,p∈l):TryAt K mg W y (N.map (·.1)):=by
 have c0:=cl.at _ m0;have J:=cl.at _ my;refine⟨⟨C0,q,⟨WT X G c0.a,ex.e,⟨ex.ga,ex.gt,ex.cl,ex.ob,ex.be,c0.t,by obtain⟨cd,e⟩:=c0.c;rw[e];rfl,ex.gg,ex.tk⟩⟩,WT X G J.a,⟨J.c,J.t⟩,yb,sy,ex.sv,λz hz=>?_⟩⟩;obtain⟨p,U,e⟩:=List.mem_map.mp hz;subst e;have c:=cl.at p (Y p U);obtain⟨s1,s2⟩:=su.at p U;exact⟨p.2,WT X G c.a,⟨c.c,c.t⟩,s2,s1⟩
end My
namespace P
open PySem PySem.Spec PyProof.Rows L2
def AY(P:U7)(w:World)(K:U3)(mg:Str->Option Value)(base:Heap)(N:List Str)(x:Str)(st:Stmt)(k:Nat)(g:Xv):Prop:=
 ∀(fa:Addr) (cdv:Value) (A:VC) (outer:List Env) (s:U2) (H:Hp) (E:XK),Room k (A.deeper (WB x (aJ st) s.heap.objs.size fa cdv))->∃g',KR (dR (My.rL P w) P w K mg base N x (aJ st) fa cdv A outer s H E) [] (bO st) g'/\g'=g
theorem fB{P:U7}{w:World}{K:U3}{mg:Str->Option Value}{base:Heap}{x:Str}{st:Stmt}{N ps:List Str}{k:Nat}{b:Sv}{g:Xv}(G:My.DefAt K mg x st ps)(S:FnScope N ps (aJ st))(h:y6 P w K mg base N x st k b)(J:AY P w K mg base N x st k g):FnX P w K mg base x (k+1) ps (bM N.length b) (kR N.length g):=
 N3 (O':=[]) G S (λz q A outer s H E U=>h z q A outer s H E U) J
end P
namespace P
open PySem PySem.Spec PyProof.Rows L2 PySem.SeqAt
section
variable {X:Cx}{O:List Nat}{pins:List (Addr×Obj)}{σ:L2.St}{H:Hp}{s:U2}
def F3:D->D->Option D
 | .lst a,.lst b=>(oW a).bind λx=>(oW b).map λy=>.bl (decide (x=y))
 | _,_=>none
theorem qJ:∀ {bs:List Bool} {us:List Value},L2.Vals (bs.map V.bl) us->us=bs.map X3
 | [],us,r=>by cases r;rfl
 | b::bs,us,r=>by
  cases r with
  | cons r1 r2=>cases r1;rw[qJ r2];rfl
theorem HI:∀(a b:List Bool),a.length=b.length->((VO a.length).all λj=>a.getD j false == b.getD j false)=decide (a=b):=by
 intro a b z;by_cases h:a=b
 ·subst h;simp
 ·rw[decide_eq_false h,Y1]
  intro q;rw[ZK]at q;refine h (List.ext_getElem z λi h1 h2=>?_);have:=eq_of_beq (q i (List.mem_range.mpr h1));simpa[Y2,h1,h2]using this
theorem yQ(hu:X.A.units+64<cLine):jK X (VF .Eq) F3:=by
 intro pins s σ H x y v u Q I rx ry h;obtain⟨A,dx,dy,d,lv,r1,r2,e,q⟩:=h;have G:X.A.units<cLine:=by lia
 cases dx with
 | lst a=>
  cases dy with
  | lst b=>
   obtain⟨p,ep,e⟩:=bind_some e;obtain⟨r,er,rfl⟩:=map_some e;obtain⟨U,xs,rfl,h1,k1⟩:=r1.lst_inv;obtain⟨N,ys,rfl,h2,k2⟩:=r2.lst_inv;have ex:=jY ep k1;have ey:=jY er k2;subst ex ey;cases rx;cases ry;obtain⟨_,ab,n1,v1,_,o1⟩:=Inv.lstR I h1;obtain⟨_,Y,n2,v2,_,o2⟩:=Inv.lstR I h2;have w1:=qJ v1;have w2:=qJ v2;subst w1 w2;have W:s.heap.IsList U (p.map X3).toArray:=⟨_,o1,rfl,_,rfl⟩;have i2:s.heap.IsList N (r.map X3).toArray:=⟨_,o2,rfl,_,rfl⟩
   suffices a:RcAt X.A s (.ref U) (.ref N) (decide (p=r))from a X.prog X.w X.xe _ ⟨.bl _,H,I,rfl,q _ H (Ext.refl _ _) (.bl _)⟩
   by_cases J:p.length=r.length
   ·have a:=RcAt.lists (A:=X.A) (e:=λj=>p.getD j false == r.getD j false) W i2 (by simp[J]) G λj h1 h2=>by
     have j1:j<p.length:=by simpa using h1
     have j2:j<r.length:=by simpa using h2
     have e1:(p.map X3).toArray[j]=.bool (p.getD j false):=by simp[Y2,j1]
     have e2:(r.map X3).toArray[j]=.bool (r.getD j false):=by simp[Y2,j2]
     rw[e1,e2];exact EqAt.bool_bool _ _
    rw[VJ,VL,HI p r J]at a;exact a
   ·rw[decide_eq_false λz=>J (by rw[z])]
    exact RcAt.lists_lengths W i2 (by simpa using J) G
  | _=>cases e
 | _=>cases e
@[simp] theorem q_eqBs{a b:List D}:F3 (.lst a) (.lst b)=(oW a).bind λx=>(oW b).map λy=>.bl (decide (x=y)):=rfl
end
end P
namespace P
open PySem PySem.Spec PyProof.Rows L2
section
variable {X:Cx}{L:Lp}{O O' O2:List Nat}
end
section
variable {X:Cx}{L:Lp}{O O' O2:List Nat}{Z:List Nat}
end
end P
namespace My
open PySem PySem.Spec PyProof.Rows L2
section
variable {X:Cx}
end
end My
namespace P
open PySem PySem.Spec PyProof.Rows L2
section
variable {X:Cx}
end
end P
namespace My
open PySem PySem.Spec PyProof.Rows L2
inductive Ents(w:World)(mg:Str->Option Value):List XM->List (Str×Str)->Prop
 | nil:Ents w mg [] []
 | cons {key fn:Str} {t:Tok} {f:Addr} {es:List XM} {l:List (Str×Str)} (hm:mg fn=some (.ref f)) (h:Ents w mg es l):Ents w mg (⟨X2 w key,.str key t,.ref f⟩::es) ((key,fn)::l)
structure DictAt(w:World)(K:U3)(mg:Str->Option Value)(x:Str)(l:List (Str×Str)):Prop where
 ex:∃(a:Addr) (o:Obj) (es:List XM) (ep:Nat),mg x=some (.ref a)/\K.lookup a=some o/\o.ExactDict/\o.data=.dict es.toArray ep/\Ents w mg es l/\(l.map (·.1)).Nodup
def xE(mg:Str->Option Value)(l:List (Str×Str)):List (Key×Value):=l.map λp=>(.inr p.1,(mg p.2).getD .none)
theorem Ents.keys(h:Ents w mg es l):∀e∈es,∃k,(bK P w).is k e.key=true/\e.hash=(bK P w).hash k:=by
 induction h with
 | nil=>exact λe q=>nomatch q
 | @cons key fn t f es l hm h ih=>
  intro e q;rcases List.mem_cons.mp q with z|z
  ·subst z;exact⟨.inr key,nJ key t,rfl⟩
  ·exact ih e z
theorem Ents.pairs(h:Ents w mg es l):Pairs (bK P w) es (xE mg l):=by
 induction h with
 | nil=>exact .nil
 | @cons key fn t f es l hm h ih=>exact .cons (nJ key t) (by show VT f=(mg fn).getD .none;rw[hm];rfl) ih
theorem uR:∀ {l:List (Str×Str)},(l.find? λp=>decide (p.1=s))=some (s,fn)->mg fn=some (.ref f)->XJ (xE mg l) (.inr s:Key)=some (.ref f)
 | [],h,_=>nomatch h
 | p::l,h,hm=>by
  unfold XJ xE;rw[V0,W1];rw[W1]at h;by_cases e:p.1=s
  ·have q:decide ((WL p.1:Key)=WL s)=true:=decide_eq_true (by rw[e])
   rw[decide_eq_true e]at h;cases h;simp[hm]
  ·have q:decide ((WL p.1:Key)=WL s)=false:=decide_eq_false (λz=>e (ZU z))
   rw[decide_eq_false e]at h;have:=uR (l:=l) h hm;unfold XJ xE at this;simp only[q];exact this
end My
namespace P
open PySem PySem.Spec PyProof.Rows L2
section
variable {X:Cx}{O:List Nat}
noncomputable def gE(Fs:List (Str×(List D->Option D)))(k:D)(ds:List D):Option D:=match k with
 | .str s=>(Fs.find? λp=>decide (p.1=s)).bind λp=>p.2 ds
 | _=>none
def yP(q:List (Str×(List D->Option D)))(G:Ev)(z:Lv):Ev:=λρ=>(G ρ).bind λk=>(z ρ).bind λds=>gE q k ds
@[simp] theorem q_callD:yP Fs fk fa ρ=(fk ρ).bind λk=>(fa ρ).bind λds=>gE Fs k ds:=rfl
inductive Fam(X:Cx)(k n:Nat):List (Str×Str)->List (Str×(List D->Option D))->Prop
 | nil:Fam X k n [] []
 | cons {key fn:Str} {ps:List Str} {F:List D->Option D} {l:List (Str×Str)} {Fs:List (Str×(List D->Option D))} (h:Fn X.prog X.w X.K X.mg X.base fn k ps F) (hn:ps.length=n) (t:Fam X k n l Fs):Fam X k n ((key,fn)::l) ((key,F)::Fs)
theorem Fam.find(h:Fam X k n l Fs)(e:(Fs.find? λp=>decide (p.1=s))=some p):∃fn ps,(l.find? λp=>decide (p.1=s))=some (s,fn)/\Fn X.prog X.w X.K X.mg X.base fn k ps p.2/\ps.length=n:=by
 induction h with
 | nil=>cases e
 | @cons key fn ps F l Fs h hn t ih=>
  rw[W1]at e ⊢;by_cases z:key=s
  ·subst z
   have q:decide (key=key)=true:=decide_eq_true rfl;simp only[q]at e ⊢;cases e;exact⟨fn,ps,rfl,h,hn⟩
  ·have q:decide (key=s)=false:=decide_eq_false z
   simp only[q]at e ⊢;exact ih e
theorem wD(hD:My.DictAt X.w X.K X.mg x l)(hF:Fam X k n l Fs)(hr:Room k X.A)(hg:Gl X x)(hk:PB X O ke fk)(ha:vO X O (e::es) fa)(hl:∀ρ ds,fa ρ=some ds->ds.length=n)(hs:KH ke)
  (W:(x == ("__debug__" : Str))=false:=by decide) (he:U8 (e::es) X.env=(false,eval e X.env)::U8 es X.env:=by rfl) (U:(VU pos (U8 es X.env)).any (·.1)=false:=by rfl)
  (hc:eval (.Call (.Subscript (.Name x p) ke sp) (e::es) [] pos) X.env=(do callWith pos (<- eval (.Subscript (.Name x p) ke sp) X.env) [] (VU pos (U8 (e::es) X.env)) (YE pos (YF [] X.env))):=by rfl) :
  PD X O (.Call (.Subscript (.Name x p) ke sp) (e::es) [] pos) (yP Fs fk fa):=by
 intro pins s σ H Q I ⟨H0,A0,A,E,ρ,d,st,J,q⟩;obtain⟨kd,ek,J⟩:=bind_some J;obtain⟨ds,ed,J⟩:=bind_some J;cases kd with
 | str ks=>
  obtain⟨p0,hf,eF⟩:=bind_some (show(Fs.find? λp=>decide (p.1=ks)).bind (λp=>p.2 ds)=some d from J);obtain⟨fn,ps,ac,FF,hn⟩:=hF.find hf;obtain⟨a,o,ad,ep,hm,hK,hx,hd,hE,ae⟩:=hD.ex;obtain⟨f,fd,G,hb,aa,FO⟩:=My.Ok.ex FF;rw[hc];refine U4 (uT PySem.F.slot_dict_getitem.lookup hs (gN I hg hm ?_ W));refine b7 (hk pins s σ H (λv H1=>v=.str ks/\Ext A H H1) I ⟨H0,A0,A,E,ρ,_,st,ek,λv H1 N r1=>⟨r1.str_inv,N⟩⟩) λiv s2 ⟨y,H1,Y,ry,ey,N⟩=>?_
  subst ey;have dd:s2.heap.DictOf (bK X.prog X.w) a (My.xE X.mg l):=⟨o,ad.toArray,ep,Y.kIn a o hK,hx,hd,λe he=>hE.keys e (by simpa using he),hE.pairs,by
   unfold My.xE;rw[V7];have:(l.map (·.1)).map (WL:Str->Key)=l.map ((λx=>x.1) ∘ λp=>((WL p.1:Key),(X.mg p.2).getD .none)):=by rw[V7];rfl
   rw[<- this];exact List.pairwise_map.mpr (List.Pairwise.imp (λh z=>h (ZU z)) ae)⟩
  refine⟨dd.typeIs,zaP (rG (k:=.inr ks) ry) dd.mapOf (My.uR ac aa) ?_⟩;have I3:=λtk=>Y.tok tk
  refine ZD (h₀:=X.base) I.ok.mod.kin G (b7 (ha pos pins _ σ H1 _ (Y.tok _) ⟨H0,A0,A,E,ρ,ds,st.mono N,ed,λvs H2 x2 r2=>(?_:(λvs H2=>TV ps.length p0.2 (vs++[]) H2 Q E0) vs H2)⟩) λus s4 ⟨vs,H2,I4,r,qq⟩=>⟨I4.kIn,?_⟩) he U
  ·show TV ps.length p0.2 (vs++[]) H2 Q E0
   rw[W6];exact⟨A,ds,d,((st.mono N).mono x2).live,r2.toL,by rw[r2.length,hl ρ ds ed,hn],eF,λv H3 x3 r3=>q v H3 ((N.trans x2).trans x3) r3⟩
  ·exact EO FO hr hb .nil KU I4 r qq
 | _=>cases J
end
theorem FnX.mono{P:U7}{w:World}{K:U3}{mg:Str->Option Value}{base:Heap}{x:Str}{j k:Nat}{ps:List Str}{F:List D->Option D}{G:List D->Option Str}(h:FnX P w K mg base x j ps F G)(l:j<=k):FnX P w K mg base x k ps F G:=by
 obtain⟨f,fd,z,q,J,F⟩:=h.ex;exact⟨f,fd,z,q,J,F.mono l⟩
section
variable {X:Cx}{O:List Nat}
noncomputable def gR(Gs:List (Str×(List D->Option Str)))(k:D)(ds:List D):Option Str:=match k with
 | .str s=>(Gs.find? λp=>decide (p.1=s)).bind λp=>p.2 ds
 | _=>none
def qX(z:List (Str×(List D->Option Str)))(G:Ev)(q:Lv):Xv:=λρ=>(G ρ).bind λk=>(q ρ).bind λds=>gR z k ds
inductive FamX(X:Cx)(k n:Nat):List (Str×Str)->List (Str×(List D->Option Str))->Prop
 | nil:FamX X k n [] []
 | cons {key fn:Str} {ps:List Str} {F:List D->Option D} {G:List D->Option Str} {l:List (Str×Str)} {Gs:List (Str×(List D->Option Str))} (h:FnX X.prog X.w X.K X.mg X.base fn k ps F G) (hn:ps.length=n) (t:FamX X k n l Gs):FamX X k n ((key,fn)::l) ((key,G)::Gs)
theorem FamX.find{k n:Nat}{s:Str}{p:Str×(List D->Option Str)}{l:List (Str×Str)}{q:List (Str×(List D->Option Str))}(h:FamX X k n l q)(e:(q.find? λp=>decide (p.1=s))=some p):∃fn ps F,(l.find? λp=>decide (p.1=s))=some (s,fn)/\FnX X.prog X.w X.K X.mg X.base fn k ps F p.2/\ps.length=n:=by
 induction h with
 | nil=>cases e
 | @cons key fn ps F G l q h hn t ih=>
  rw[W1]at e ⊢;by_cases z:key=s
  ·subst z
   have J:decide (key=key)=true:=decide_eq_true rfl;simp only[J]at e ⊢;cases e;exact⟨fn,ps,F,rfl,h,hn⟩
  ·have J:decide (key=s)=false:=decide_eq_false z
   simp only[J]at e ⊢;exact ih e
theorem BM{x:Str}{l:List (Str×Str)}{Gs:List (Str×(List D->Option Str))}{k n:Nat}{N e:Expr}{es:List Expr}{fk:Ev}{fa:Lv}{p sp pos:Pos}(hD:My.DictAt X.w X.K X.mg x l)(hF:FamX X k n l Gs)(hr:Room k X.A)(hg:Gl X x)(hk:PB X.nox O N fk)(ha:vO X.nox O (e::es) fa)(hl:∀ρ ds,fa ρ=some ds->ds.length=n)(hs:KH N)
  (af:(x == ("__debug__" : Str))=false:=by decide) (he:U8 (e::es) X.env=(false,eval e X.env)::U8 es X.env:=by rfl) (ae:(VU pos (U8 es X.env)).any (·.1)=false:=by rfl)
  (hc:eval (.Call (.Subscript (.Name x p) N sp) (e::es) [] pos) X.env=(do callWith pos (<- eval (.Subscript (.Name x p) N sp) X.env) [] (VU pos (U8 (e::es) X.env)) (YE pos (YF [] X.env))):=by rfl) :
  UE X O (.Call (.Subscript (.Name x p) N sp) (e::es) [] pos) (qX Gs fk fa):=λpins s σ H H0 A0 A E ρ y I st J W=>by
 obtain⟨kd,ek,J⟩:=bind_some J;obtain⟨ds,ed,J⟩:=bind_some J;cases kd with
 | str ks=>
  obtain⟨p0,hf,eG⟩:=bind_some (show(Gs.find? λp=>decide (p.1=ks)).bind (λp=>p.2 ds)=some y from J);obtain⟨fn,ps,F,ak,FX,hn⟩:=hF.find hf;obtain⟨a,o,an,ep,hm,hK,hx,hd,hE,ao⟩:=hD.ex;obtain⟨f,fd,q,hb,ai,FO⟩:=FX.ex;rw[hc];refine U4 (uT PySem.F.slot_dict_getitem.lookup hs (gN I hg hm ?_ af));refine VP (hk pins s σ H (λv H1=>v=.str ks/\Ext A H H1) (I.wish _) ⟨H0,A0,A,E,ρ,_,st,ek,λv H1 U r1=>⟨r1.str_inv,U⟩⟩) (λiv s2 ⟨yv,H1,ad,ry,ey,U⟩=>?_) λ_ _ z=>z.elim
  subst ey;have I1:=ad.unwish;have dd:s2.heap.DictOf (bK X.prog X.w) a (My.xE X.mg l):=⟨o,an.toArray,ep,I1.kIn a o hK,hx,hd,λe he=>hE.keys e (by simpa using he),hE.pairs,by
   unfold My.xE;rw[V7];have:(l.map (·.1)).map (WL:Str->Key)=l.map ((λx=>x.1) ∘ λp=>((WL p.1:Key),(X.mg p.2).getD .none)):=by rw[V7];rfl
   rw[<- this];exact List.pairwise_map.mpr (List.Pairwise.imp (λh z=>h (ZU z)) ao)⟩
  refine⟨dd.typeIs,zaP (rG (k:=.inr ks) ry) dd.mapOf (My.uR ak ai) ?_⟩;refine ZD (h₀:=X.base) I.ok.mod.kin q (VP (ha pos pins _ σ H1 (λvs H2=>Ext A H1 H2/\RepL A H2 ds vs) ((I1.tok _).wish _) ⟨H0,A0,A,E,ρ,ds,st.mono U,ed,λvs H2 x2 r2=>⟨x2,r2.toL⟩⟩) (λus s4 G=>?_) λ_ _ z=>z.elim) he ae;obtain⟨vs,H2,am,r,x2,rl⟩:=G;have I4:=am.unwish;have lv:=((st.mono U).mono x2).live;have Y:vs.length=ps.length:=by rw[rl.length,hn];exact hl ρ ds ed
  have ag:us.length=ps.length:=by rw[<- r.length];exact Y
  refine⟨I4.kIn,ZC (YD (FO.run X.A X.stack s4 H2 ⟨us,[]⟩ us vs (λ_ _=>False) (λc a H2=>∃C,X.mg y=some (.ref C)/\c=.ref C/\(chained y=false->a=none)/\Ext A0 H0 H2) hr I4.env0 (by have:=hb s4 us I4.kIn (by rw[W6];exact ag);rwa [W6]at this) r ⟨Y,A,ds,lv,rl,.inr ⟨y,eG,λC a H3 hC ha x3=>⟨C,hC,rfl,ha,(st.mono ((U.trans x2).trans x3)).ex⟩⟩⟩) λrr s5 G=>?_)⟩;cases rr with
  | error e=>exact W _ _ (.flew I4 G)
  | ok fl=>
   cases fl with
   | ret u=>obtain⟨v,H2,I2,rv,z⟩:=I4.after G;exact z.elim
   | next=>exact V1 G
   | brk=>exact V1 G
   | cont=>exact V1 G
 | _=>cases J
end
def CH(n:Nat)(b:(List D->Option D)->Sv)(g:(List D->Option D)->(List D->Option Str)->Xv):Nat->List D->Option Str
 | 0=>λ_=>none
 | m+1=>kR n (g (dO n b m) (CH n b g m))
theorem DE{P:U7}{w:World}{K:U3}{mg:Str->Option Value}{base:Heap}{x:Str}{st:Stmt}{N ps:List Str}{k:Nat}(U:My.DefAt K mg x st ps)(S:FnScope N ps (aJ st)):FnX P w K mg base x (k+1) ps (λ_=>none) (λ_=>none):=by
 obtain⟨J,fd,F,B,W⟩:=U.ex;obtain⟨oc,od,kV,aa,pm,an,ab,ct,ad,rfl,lk,G⟩:=F.ex;refine⟨J,_,F.kp,B,W,FY lk G S (λvs H Q E hs=>hs.1) λA outer s H vs Q E hr z=>?_⟩;obtain⟨_,A1,ds,lv,r,z⟩:=z;rcases z with⟨d,Y,q⟩|⟨y,eG,q⟩
 ·cases Y
 ·cases eG
theorem uM{P:U7}{w:World}{K:U3}{mg:Str->Option Value}{base:Heap}{x:Str}{st:Stmt}{N ps:List Str}{k:Nat}{b:(List D->Option D)->Sv}{g:(List D->Option D)->(List D->Option Str)->Xv}(q:My.DefAt K mg x st ps)(S:FnScope N ps (aJ st))
  (h:∀R j,k<=j->Fn P w K mg base x j ps R->y6 P w K mg base N x st j (b R)) (J:∀R G j,k<=j->Fn P w K mg base x j ps R->FnX P w K mg base x j ps R G->AY P w K mg base N x st j (g R G)):∀m,Fn P w K mg base x (k+m+1) ps (dO N.length b m)/\FnX P w K mg base x (k+m+1) ps (dO N.length b m) (CH N.length b g m)
 | 0=>⟨zR q S,DE q S⟩
 | m+1=>by
  obtain⟨U,W⟩:=uM q S h J m;have z:=h _ (k+m+1) (by lia) U;exact⟨iA q S z,fB q S z (J _ _ (k+m+1) (by lia) U W)⟩
end P
namespace My
open PySem PySem.Spec PyProof.Rows L2
section
variable {X:Cx}
end
end My
namespace P
open PySem PySem.Spec PyProof.Rows L2
section
variable {X:Cx}{O:List Nat}
end
variable {X:Cx}{O:List Nat}{e:Expr}
end P
namespace My
open PySem PySem.Spec PyProof.Rows L2
section
variable {prog:U7}{w:World}{A:VC}{E:Value->U2->Prop}{s:U2}
end
end My
namespace P
open PySem PySem.Spec PyProof.Rows L2
def Fe(K:U3)(x:Str)(st:Stmt)(f:Addr):Prop:=∃fd,Fun K x x st f fd
theorem Fe.mk{K:U3}{x:Str}{st:Stmt}{f:Addr}{N:Value}{od J:Option Addr}{G:Array (Option Value)}{kV z U q ct:Value}(l:K.lookup f=some ⟨N,od,.func (W0 x x (eS st) (bO st) (aJ st) .none kV z U J q ct),G⟩)(c:YZ K q x=true)(k:XW K (.ref f)=true):Fe K x st f:=⟨_,FK l c k⟩
theorem Fe.d{K:U3}{mg:Str->Option Value}{x:Str}{st:Stmt}{f:Addr}{ps:List Str}(h:Fe K x st f)(a:mg x=some (.ref f))(q:∀(kV doc pm:Value) (an:Option Addr) (cdv ct:Value) (us:List Value),us.length=ps.length->bindArgs (W0 x x (eS st) (bO st) (aJ st) .none kV doc pm an cdv ct) ⟨us,[]⟩=pure (ps.zip us)):My.DefAt K mg x st ps:=let ⟨fd,F⟩:=h;⟨⟨f,fd,F,F.binds q,a⟩⟩
section
variable {X:Cx}{L:Lp}{O O':List Nat}
theorem c0{O1 O3:List Nat}{st:Stmt}{q:List Stmt}{f g:Sv}(h:PSD X L O1 st f [])(k:PSDs X L [] q g O3):PSDs X L O1 (st::q) (bI f g) O3:=cn h k
theorem ss(i:Nat)(z:X.N.Nodup)(J:PD X O e f)(hi:X.N[i]?=some x:=by rfl)(G:Loc X.env.scope x:=by exact VN rfl)(h:Sub O' (O.filter (· != i))=true:=by rfl)(hs:V2 e (some (.Name x pos')) pos.line X.env=pure false:=by rfl)(q:X.fn x=true\/X.env.scope.names.lookup x=some .local:=by first|exact .inl rfl|exact .inr rfl):PSD X L O (.Assign [.Name x pos'] e pos) (eW i f) O':=zD z hi G J h hs q
theorem gc(h1:vQ X O e g)(h2:yW X O es k)(a:(WF (e::es) X.env).map (·.2)=WO e X.env::(WF es X.env).map (·.2):=by rfl):yW X O (e::es) (d7 g k):=nL (λx y=>qL x y a) h1 h2
theorem gu(n:Nat)(h:yW X O es k)(q:X.calm=true:=by rfl)(a:(WF es X.env).length=n:=by rfl)(b:List.findIdx? (λx=>x.fst) (WF es X.env)=none:=by rfl):vQ X O (.Tuple es j pos) (nC n k):=HF (FC q h a b)
theorem tc(G:jK X (VF op) g)(z:PB X O a fa)(q:PB X O b fb)(h1:op≠CmpOp.In:=by decide)(h2:op≠CmpOp.NotIn:=by decide):oR X O (.Compare a [op] [b] pos) (fN (a6 g fa fb)):=pE G z q (nQ _ h1 h2)
theorem ib{j}:PB X O (.Constant (.int n) j p) (eC (.int n)):=PD.b EZ
end
end P
namespace My
open PySem PySem.Spec PyProof.Rows L2
section
variable {X:Cx}
end
end My
namespace P
open PySem PySem.Spec PyProof.Rows L2
section
variable {X:Cx}
end
end P
namespace HT
open PySem PySem.Spec PyProof.Rows
section
open PySem.SeqAt
open PySem.AutoSeq1 (wpAny_loadPart')
open PySem.MeetsSeq PySem.MeetsSeq2 PySem.MeetsSeq3
end
section
variable {prog:U7}{w:World}{A:VC}{E:Value->U2->Prop}{s:U2}
end
end HT
namespace P
open PySem PySem.Spec PyProof.Rows L2
section
variable {X:Cx}
end
section
variable {X:Cx}
end
noncomputable def mon:List Int->List Int->Int
 | e::es,v::vs=>v^e.toNat*mon es vs
 | _,_=>1
def ev(vs:List Int)(F:List My.Tm):Int:=(F.map λt=>t.2*mon t.1 vs).sum
noncomputable def pw(S:Nat->Int)(a:Int):Nat->Int
 | 0=>0
 | n+1=>pw S a n+a^n*S n
section
variable {X:Cx}{L:Lp}{O O':List Nat}
theorem cO(O2:List Nat){O1 O3:List Nat}{st:Stmt}{q:List Stmt}{f g:Sv}(h:PSD X L O1 st f O2)(k:PSDs X L O2 q g O3):PSDs X L O1 (st::q) (bI f g) O3:=cn h k
theorem wt{x1}(h:vO X O es g)(z:Len g es.length)(q:Nat.ble es.length 100=true:=by rfl):PD X O (.Tuple es x1 pos) (sE g):=lM h (λρ ds k=>by rw[z ρ ds k];exact Nat.le_of_ble_eq_true q)
theorem wl(h:vO X O es g)(z:Len g es.length)(q:Nat.ble es.length 100=true:=by rfl):PF X O (.List es pos) (vJ g):=MR h (λρ ds k=>by rw[z ρ ds k];exact Nat.le_of_ble_eq_true q)
theorem wE(O':Fn X.prog X.w X.K X.mg X.base x k ps F)(W:Room j X.A)(z:vO X O (e::es) f)(N:Len f ps.length)(G:k<=j)(U:Gl X x:=by rfl)(q:(x == ("__debug__" : Str))=false:=by decide)(hs:isStar e=false:=by rfl)(J:(es.all λe=>!isStar e)=true:=by rfl):PD X O (.Call (.Name x p) (e::es) [] pos) (aS F f):=cD O' (W.mono G) z N U q hs J
theorem SN{e:Expr}{es:List Expr}{f:Lv}{p pos:Pos}(G:X.mg "len" = none)(q:t6 X O (e::es) f)(z:Gl X "len")(hs:isStar e=false)(J:((es:List Expr).all λe=>!isStar e)=true):PD X O (.Call (.Name "len" p) (e::es) [] pos) (aS g5 f):=cB EV G My.boot_len q z (by decide) (by decide) hs J
theorem SL{e:Expr}{es:List Expr}{f:Lv}{p pos:Pos}(G:X.mg "tuple" = none)(q:t6 X O (e::es) f)(z:Gl X "tuple")(hs:isStar e=false)(J:((es:List Expr).all λe=>!isStar e)=true):PD X O (.Call (.Name "tuple" p) (e::es) [] pos) (aS qU f):=ON hZ G My.boot_tuple q z (by decide) (by decide) hs J
theorem SI{e:Expr}{es:List Expr}{f:Lv}{p pos:Pos}(G:X.mg "int" = none)(q:t6 X O (e::es) f)(z:Gl X "int")(hs:isStar e=false)(J:((es:List Expr).all λe=>!isStar e)=true):PD X O (.Call (.Name "int" p) (e::es) [] pos) (aS F1 f):=ON ND G My.boot_int q z (by decide) (by decide) hs J
theorem RZ{e:Expr}{es:List Expr}{f:Lv}{p pos:Pos}(G:X.mg "list" = none)(q:t6 X O (e::es) f)(z:Gl X "list")(hs:isStar e=false)(J:((es:List Expr).all λe=>!isStar e)=true):PF X O (.Call (.Name "list" p) (e::es) [] pos) (aS rE f):=U1 JV G My.boot_list q z (by decide) (by decide) hs J
theorem SO{e:Expr}{es:List Expr}{f:Lv}{p pos:Pos}(N:X.calm=true)(z:X.mg "all" = none)(q:t6 X O (e::es) f)(J:Gl X "all")(hs:isStar e=false)(G:((es:List Expr).all λe=>!isStar e)=true):PD X O (.Call (.Name "all" p) (e::es) [] pos) (aS CJ f):=cB (FG N) z My.boot_all q J (by decide) (by decide) hs G
theorem O4{q:Expr}{e:Expr}{es:List Expr}{f:Lv}{p pos:Pos}(U:X.calm=true)(G:X.mg "max" = none)(z:t6 X O [e,q] f)(N:Gl X "max")(hs:isStar e=false)(J:(([q]:List Expr).all λe=>!isStar e)=true):PD X O (.Call (.Name "max" p) [e,q] [] pos) (aS wY f):=cB (IR U) G My.boot_max z N (by decide) (by decide) hs J
theorem UX{e:Expr}{lo hi:Option Expr}{p2 pos:Pos}{f:Ev}{a b:Ov}(G:PB X O e f)(z:LO X O lo a)(q:LO X O hi b):PD X O (.Subscript e (.Slice lo hi none p2) pos) (TY JZ f a b):=DI SU G z q
theorem UK{a b:Expr}{pos:Pos}{q z:Ev}(N:X.A.units+1<cLine)(G:PB X O a q)(J:PB X O b z)(hs:uW b:=by exact λ_ _=>rfl):PD X O (.Subscript a b pos) (a6 aP q z):=GQ N G J hs
theorem SX{a b:Expr}{pos:Pos}{q z:Ev}{j:Nat}(U:Room j X.A)(G:PB X O a q)(N:PB X O b z)(J:XU .In b=false):oR X O (.Compare a [.In] [b] pos) (fN (a6 F5 q z)):=pE (LP U.units) G N J
theorem TJ{a b:Expr}{pos:Pos}{q z:Ev}{j:Nat}(U:Room j X.A)(G:PB X O a q)(N:PB X O b z)(J:XU .NotIn b=false):oR X O (.Compare a [.NotIn] [b] pos) (fN (a6 pF q z)):=pE (CG U.units) G N J
theorem UP{a b:Expr}{op:CmpOp}{pos:Pos}{g:D->D->Option D}{q z:Ev}(N:jK X (VF op) g)(G:PB X O a q)(J:PB X O b z)(h1:op≠CmpOp.In)(h2:op≠CmpOp.NotIn):PD X O (.Compare a [op] [b] pos) (a6 g q z):=vF N G J (nQ _ h1 h2)
theorem US{o e:Expr}{apos cpos:Pos}{q G:Ev}(ho:PB X O o q)(W:PB X O e G)(U:attributeBase o "join" X.env (eval o X.env)=eval o X.env)(N:((((VU cpos (U8 [e] X.env)).all λx=>!x.fst) && (YE cpos (YF [] X.env)).all λx=>x.fst.isSome) && decide (([e].length+([]:List X5).length+if([]:List X5).isEmpty=true then 0 else 1)<30))=true)(Y:(apos.endLine == cpos.line)=true)(z:U8 [e] X.env=(false,eval e X.env)::U8 [] X.env)(J:((VU cpos (U8 [] X.env)).any λx=>x.fst)=false):PD X O (.Call (.Attribute o "join" apos) [e] [] cpos) (a6 wZ q G):=zZ ho W (λa b=>FU PySem.F.plainAttrs_str PySem.F.slot_str_join PySem.F.type_str_join My.AB a b U N Y z J) z
theorem UM{j:Nat}(q:Room j X.A):jK X (VF .Eq) lU:=P6 q.units
theorem UI{j:Nat}(q:Room j X.A):jK X (VF .NotEq) CO:=OU q.units
theorem UY{j:Nat}(q:Room j X.A):jK X (VF .Lt) OO:=M9 q.units0
def At(l:List Str)(x:Str)(i:Nat):Prop:=l[i]?=some x
theorem at_(i:Nat){l:List Str}{x:Str}(h:l[i]?=some x:=by eq_refl):At l x i:=h
theorem vB{i:Nat}{x:Str}{p:Pos}(h:At X.N x i)(G:GL X.env.scope x)(z:(x == ("__debug__" : Str))=false)(q:(x == ("__classdict__" : Str))=false):PB X O (.Name x p) (aH i):=L7 i (pv i h G z q)
theorem vD{i:Nat}{x:Str}{p:Pos}(h:At X.N x i)(n:O.contains i=false)(G:GL X.env.scope x)(z:(x == ("__debug__" : Str))=false)(q:(x == ("__classdict__" : Str))=false):PD X O (.Name x p) (aH i):=M7 i (pv i h G z q) (by simpa using n)
theorem gV{i:Nat}{x:Str}{pos:Pos}(h:At X.N x i)(n:O.contains i=false)(z:X.N.Nodup)(G:Loc X.env.scope x)(q:X.fn x=true\/X.env.scope.names.lookup x=some .local):vQ X O (.Name x pos) (aY i):=wR (zA z h G q) n
theorem aK(i:Nat)(J:PD X O e f:=by trivial)(z:X.N.Nodup:=by assumption)(hi:X.N[i]?=some x:=by rfl)(G:Loc X.env.scope x:=by first|exact VN rfl|exact Or.inr rfl)(h:Sub O' (O.filter (· != i))=true:=by rfl)(hs:V2 e (some (.Name x pos')) pos.line X.env=pure false:=by rfl)(q:X.fn x=true\/X.env.scope.names.lookup x=some .local:=by first|exact .inl rfl|exact .inr rfl):PSD X L O (.Assign [.Name x pos'] e pos) (eW i f) O':=zD z hi G J h hs q
theorem g4(i:Nat)(U:PF X O e f:=by trivial)(z:X.N.Nodup:=by assumption)(hi:X.N[i]?=some x:=by rfl)(J:Loc X.env.scope x:=by first|exact VN rfl|exact Or.inr rfl)(h:Sub O' (i::O)=true:=by rfl)(G:O.contains i=false:=by rfl)(hs:V2 e (some (.Name x pos')) pos.line X.env=pure false:=by rfl)(q:X.fn x=true\/X.env.scope.names.lookup x=some .local:=by first|exact .inl rfl|exact .inr rfl):PSD X L O (.Assign [.Name x pos'] e pos) (eW i f) O':=EB z hi J U h G hs q
theorem AV(i:Nat)(z:PD X O e f:=by trivial)(G:PE X o (nW i):=by exact pv _)(W:mem O i=true:=by rfl)(U:attributeBase o "append" X.env (eval o X.env)=eval o X.env:=by rfl)(N:((((VU cpos (U8 [e] X.env)).all λx=>!x.fst) && (YE cpos (YF [] X.env)).all λx=>x.fst.isSome) && decide (([e].length+([]:List X5).length+if([]:List X5).isEmpty=true then 0 else 1)<30))=true:=by rfl)(Y:(apos.endLine == cpos.line)=true:=by rfl)(q:U8 [e] X.env=(false,eval e X.env)::U8 [] X.env:=by rfl)(J:((VU cpos (U8 [] X.env)).any λx=>x.fst)=false:=by rfl)(hs:V2 (.Call (.Attribute o "append" apos) [e] [] cpos) none pos.line X.env=pure false:=by rfl)(h:Sub O' O=true:=by rfl):PSD X L O (.Expr (.Call (.Attribute o "append" apos) [e] [] cpos) pos) (xD i f) O':=xJ G z W (FU PySem.F.plainAttrs_list PySem.F.slot_list_append PySem.F.type_list_append sH G (fM (PD.pe z) lP (hs:=q)) U N Y q J) hs h
theorem aR(q:PD X O e f:=by trivial):PSDs X L O [.Return (some e) pos] (OM f) O':=aL (HX q)
theorem SY(G:PSDs X L O a f O')(z:PSDs X L O b k O')(q:oR X O c g:=by trivial):PSD X L O (.If c a b pos) (kP g f k) O':=yN q G z
theorem aW(z:PSDs X L O a f O')(q:oR X O c g:=by trivial)(h:Sub O' O=true:=by rfl):PSD X L O (.If c a [] pos) (kP g f nH) O':=yN q z (AA h)
theorem Q2{st:Stmt}:PSDs X L O [st] kQ O':=aL B7
theorem dF{c:Expr}{st:Stmt}{pos:Pos}{g:Bv}(q:oR X O c g:=by trivial)(h:Sub O' O=true:=by rfl):PSD X L O (.If c [st] [] pos) (kP g kQ nH) O':=yN q Q2 (AA h)
theorem lB(O1 q:List Nat)(G:PSDs X ⟨q,O1⟩ O1 body b O1)(hi:PDI X O tg iter f:=by trivial)(J:vQ X O1 tg g:=by trivial)(z:YA (model X.prog X.w) X.A X.env X.xe:=by exact PassesOwn.never)(N:X.calm=true:=by rfl)(h1:Sub O1 O=true:=by rfl)(h2:Sub O' O1=true:=by rfl)(U:Sub O' q=true:=by rfl)(hs:∀x,WY iter X.env x=pure x:=by intro _;rfl):PSD X L O (.For tg iter body [] pos) (y2 f g b) O':=HH z N hi J G h1 h2 U hs
theorem OT(O1 q:List Nat)(G:PSDs X ⟨q,O1⟩ O1 body b O1)(J:oR X O1 c g:=by trivial)(z:YA (model X.prog X.w) X.A X.env X.xe:=by exact PassesOwn.never)(h1:Sub O1 O=true:=by rfl)(h2:Sub O' O1=true:=by rfl)(N:Sub O' q=true:=by rfl):PSD X L O (.While c body [] pos) (u6 g b) O':=BX z J G h1 h2 N
theorem oO(i:Nat)(W:PD X O value fe:=by trivial)(z:PB X O k fk:=by trivial)(N:X.A.units+1<cLine:=by assumption)(U:PE X o (nW i):=by exact pv _)(G:mem O i=true:=by rfl)(h:Sub O' O=true:=by rfl)(hs:V2 value (some (.Subscript o k pos')) pos.line X.env=pure false:=by rfl)(q:ZZ [.Subscript o k pos'] value pos.line X.env=pure false:=by rfl)(hw:Z0 [.Subscript o k pos'] value X.env=pure none:=by rfl)
  (J:∀ {to ti:TE} {t:GA},PE X o to->PE X k ti->J9 X t->PG X (.Subscript o k pos') (N8 to ti t):=by intro _ _ _ a b c;exact EW a b c):PSD X L O (.Assign [.Subscript o k pos'] value pos) (F8 i fk fe) O':=IU N U z W G h hs q hw J
theorem cR(q:PB X O e f:=by trivial)(hs:V2 e none pos.line X.env=pure false:=by rfl)(h:Sub O' O=true:=by rfl):PSD X L O (.Expr e pos) (d8 f) O':=DR q hs h
theorem cA(σ:U2)(N:List Str)(ms:List (Option Nat))(hi:PDI X O tg iter it:=by trivial)(U:∀C s H fp,N.Nodup->vQ (My.aX X N scope (iB X.env.cells scope.names []) C s H fp) [] tg g:=by intros;trivial)(ht:∀C s H fp,My.AZ (My.aX X N scope (iB X.env.cells scope.names []) C s H fp) ifs (tDT [] c):=by intros;trivial)(Y:∀C s H fp,PD (My.aX X N scope (iB X.env.cells scope.names []) C s H fp) [] elt f:=by intros;trivial)
  (W:X.env.cells=YH (σ.heap.objs.size+1) X.env.scope.names []:=by rfl) (q:d5 X scope N ms:=by repeat' first|exact YL|exact rfl|exact VN rfl|constructor) (z:N.Nodup:=by decide)
  (hc:X.calm=true:=by rfl) (J:scope.kind=.function:=by rfl) (h:AW scope.names X.env.scope.names=true:=by rfl) (G:(ms.all λo=>match o with|some i=>!O.contains i|none=>true)=true:=by rfl) (hs:∀x,WY iter X.env x=pure x:=by intro _;rfl):PF X O (.ListComp elt [⟨tg,iter,ifs,0⟩] scope pos) (m9 ms it g c f):=IH hc (yT J h W) q G hi (λC s H fp=>U C s H fp z) ht Y hs
theorem NX(i:Nat)(σ:U2)(N:List Str)(ms:List (Option Nat))(hi:PDI X O tg iter it:=by trivial)(hg:∀C s H fp,N.Nodup->vQ (My.aX X N scope (iB X.env.cells scope.names []) C s H fp) [] tg g:=by intros;trivial)(ht:∀C s H fp,My.AZ (My.aX X N scope (iB X.env.cells scope.names []) C s H fp) ifs (tDT [] c):=by intros;trivial)(he:∀C s H fp,PD (My.aX X N scope (iB X.env.cells scope.names []) C s H fp) [] elt f:=by intros;trivial)
  (hx:X.env.cells=YH (σ.heap.objs.size+1) X.env.scope.names []:=by rfl) (z:d5 X scope N ms:=by repeat' first|exact YL|exact rfl|exact VN rfl|constructor) (W:N.Nodup:=by decide)
  (hc:X.calm=true:=by rfl) (hk:scope.kind=.function:=by rfl) (h:AW scope.names X.env.scope.names=true:=by rfl) (hn:(ms.all λo=>match o with|some i=>!O.contains i|none=>true)=true:=by rfl) (hs:∀x,WY iter X.env x=pure x:=by intro _;rfl)
  (Y:X.N.Nodup:=by assumption) (G:X.N[i]?=some x:=by rfl) (hl:Loc X.env.scope x:=by first|exact VN rfl|exact Or.inr rfl) (q:Sub O' (O.filter (· != i))=true:=by rfl) (J:V2 (.ListComp elt [⟨tg,iter,ifs,0⟩] scope pos) (some (.Name x pos')) spos.line X.env=pure true:=by rfl) (U:X.fn x=true\/X.env.scope.names.lookup x=some .local:=by first|exact .inl rfl|exact .inr rfl) :
  PSD X L O (.Assign [.Name x pos'] (.ListComp elt [⟨tg,iter,ifs,0⟩] scope pos) spos) (eW i (m9 ms it g c f)) O':=DH Y G hl hc (yT hk h hx) z hn hi (λC s H fp=>hg C s H fp W) ht he q hs J U
theorem JF(i:Nat)(σ:U2)(N:List Str)(ms:List (Option Nat))(hi:PDI X O tg iter it:=by trivial)(hg:∀C s H fp,N.Nodup->vQ (My.aX X N scope (iB X.env.cells scope.names []) C s H fp) [] tg g:=by intros;trivial)(ht:∀C s H fp,My.AZ (My.aX X N scope (iB X.env.cells scope.names []) C s H fp) ifs (tDT [] c):=by intros;trivial)(he:∀C s H fp,PD (My.aX X N scope (iB X.env.cells scope.names []) C s H fp) [] elt f:=by intros;trivial)
  (hx:X.env.cells=YH (σ.heap.objs.size+1) X.env.scope.names []:=by rfl) (z:d5 X scope N ms:=by repeat' first|exact YL|exact rfl|exact VN rfl|constructor) (Y:N.Nodup:=by decide)
  (hc:X.calm=true:=by rfl) (hk:scope.kind=.function:=by rfl) (h:AW scope.names X.env.scope.names=true:=by rfl) (hn:(ms.all λo=>match o with|some i=>!O.contains i|none=>true)=true:=by rfl) (hs:∀x,WY iter X.env x=pure x:=by intro _;rfl)
  (hX:X.N.Nodup:=by assumption) (G:X.N[i]?=some x:=by rfl) (hl:Loc X.env.scope x:=by first|exact VN rfl|exact Or.inr rfl) (q:Sub O' (i::O)=true:=by rfl) (U:O.contains i=false:=by rfl) (J:V2 (.ListComp elt [⟨tg,iter,ifs,0⟩] scope pos) (some (.Name x pos')) spos.line X.env=pure true:=by rfl) (W:X.fn x=true\/X.env.scope.names.lookup x=some .local:=by first|exact .inl rfl|exact .inr rfl) :
  PSD X L O (.Assign [.Name x pos'] (.ListComp elt [⟨tg,iter,ifs,0⟩] scope pos) spos) (eW i (m9 ms it g c f)) O':=BO hX G hl hc (yT hk h hx) z hn hi (λC s H fp=>hg C s H fp Y) ht he q U hs J W
end
theorem fx{Q:U7}{w:World}{K:U3}{mg:Str->Option Value}{base:Heap}{x:Str}{k:Nat}{ps:List Str}{F:List D->Option D}(B:List D->Option D)(h:Fn Q w K mg base x k ps F)(e:F=B:=by rfl):Fn Q w K mg base x k ps B:=e ▸ h
noncomputable def OJ:List Str->(List Value->Prop)->Prop
 | [],Q=>Q []
 | _::ps,Q=>∀u,OJ ps λus=>Q (u::us)
theorem HE{ps:List Str}{Q:List Value->Prop}(h:OJ ps Q){q:List Value}(e:q.length=ps.length):Q q:=by
 induction ps generalizing q Q with
 | nil=>rw[List.length_eq_zero_iff.mp e];exact h
 | cons a ps ih=>
  cases q with
  | nil=>cases e
  | cons u q=>exact ih (h u) (Nat.succ.inj e)
def Bd(st:Stmt)(x:Str)(ps:List Str):Prop:=∀(kV doc pm:Value) (an:Option Addr) (cdv ct:Value),OJ ps λq=>bindArgs (W0 x x (eS st) (bO st) (aJ st) .none kV doc pm an cdv ct) ⟨q,[]⟩=pure (ps.zip q)
def De(K:U3)(x:Str)(st:Stmt):Prop:=∃f,WH K VQ x=some (some (.ref f))/\Fe K x st f
def Des(K:U3)(tp:Nat->Stmt)(t:List (Str×Nat×List Str)):Prop:=∀p∈t,De K p.1 (tp p.2.1)
theorem Des.nil{K:U3}{tp:Nat->Stmt}:Des K tp []:=λ_ h=>nomatch h
theorem Des.cons{K:U3}{tp:Nat->Stmt}{x:Str}{i:Nat}{ps:List Str}{t:List (Str×Nat×List Str)}{f:Addr}{N:Value}{od J:Option Addr}{G:Array (Option Value)}{kV z U q ct:Value}(a:WH K VQ x=some (some (.ref f)))(l:K.lookup f=some ⟨N,od,.func (W0 x x (eS (tp i)) (bO (tp i)) (aJ (tp i)) .none kV z U J q ct),G⟩)(c:YZ K q x=true)(k:XW K (.ref f)=true)(r:Des K tp t):Des K tp ((x,i,ps)::t):=
 zaz.2 ⟨⟨f,a,Fe.mk l c k⟩,r⟩
def Bds(tp:Nat->Stmt)(t:List (Str×Nat×List Str)):Prop:=∀p∈t,Bd (tp p.2.1) p.1 p.2.2
theorem Bds.nil:Bds tp []:=λ_ h=>nomatch h
theorem Bds.cons(a:Bd (tp i) x ps)(r:Bds tp t):Bds tp ((x,i,ps)::t):=zaz.2 ⟨a,r⟩
theorem Des.d{K:U3}{h:Heap}{mg:Str->Option Value}{tp:Nat->Stmt}{t:List (Str×Nat×List Str)}(X:K.In h)(G:h.Ns VQ mg)(D:Des K tp t)(B:Bds tp t):∀p∈t,My.DefAt K mg p.1 (tp p.2.1) p.2.2:=λp J=>let ⟨_,a,e⟩:=D p J;e.d (WT X G a) λkV q U N z ct W=>HE (B p J kV q U N z ct)
def Nos(K:U3)(t:List Str):Prop:=∀x∈t,WH K VQ x=some none
theorem Nos.nil{K:U3}:Nos K []:=λ_ h=>nomatch h
theorem Nos.cons{K:U3}{x:Str}{t:List Str}(a:WH K VQ x=some none)(r:Nos K t):Nos K (x::t):=zaz.2 ⟨a,r⟩
def Gis(K:U3)(t:List (Str×Int)):Prop:=∀p∈t,∃k,WH K VQ p.1=some (some (.int p.2 k))
theorem Gis.nil{K:U3}:Gis K []:=λ_ h=>nomatch h
theorem Gis.cons{K:U3}{x:Str}{n:Int}{k:Tok}{t:List (Str×Int)}(a:WH K VQ x=some (some (.int n k)))(r:Gis K t):Gis K ((x,n)::t):=zaz.2 ⟨⟨k,a⟩,r⟩
theorem Gis.d{K:U3}{h:Heap}{mg:Str->Option Value}{t:List (Str×Int)}(X:K.In h)(G:h.Ns VQ mg)(D:Gis K t):∀p∈t,GInt mg p.1 p.2:=λp q=>let ⟨_,a⟩:=D p q;⟨⟨_,WT X G a⟩⟩
theorem NC{w:List D}{c:Int}(h0:0<=c)(h1:c<=(w.length:Int)):cutD w none (some c)=w.take c.toNat/\cutD w (some c) none=w.drop c.toNat:=by
 have G:HT.sIx w.length w.length (some c)=c.toNat:=by
  show(if c<0 then _ else min c.toNat w.length)=_;rw[if_neg (by lia)];lia
 have J:HT.sIx w.length 0 (some c)=c.toNat:=by
  show(if c<0 then _ else min c.toNat w.length)=_;rw[if_neg (by lia)];lia
 have z:HT.sIx w.length 0 none=0:=rfl;have q:HT.sIx w.length w.length none=w.length:=rfl;unfold cutD;rw[G,J,z,q];constructor
 ·simp
 ·rw[List.take_of_length_le (by simp)]
section
variable {ρ ρ':cX}{f g:Ev}{a b:Bv}{l:Lv}{x y d r:D}{xs:List D}{i j:Int}{k:Nat}{s t:Sv}{o:Option Out}
def sq(p:Out)(t:Sv):Option Out:=match p with
 | .nx ρ=>t ρ
 | p=>some p
end
end P
namespace Law
open PySem PySem.Spec PyProof.Rows L2 P
local macro_rules | `(tactic|simp_all[$xs,*]) => `(tactic|simp[-U5, -U6, aC, aG, $xs,*])
noncomputable def top(i:Nat):Stmt:=PySem.Challenge.pw_chiefway_k32_programs_refused.main.body.getD i (.Pass ⟨0,0,0,0⟩)
abbrev s_law:Stmt:=top 71
abbrev tb(x:Str)(i:Nat)(ps:List Str):=(x,i,ps)
def tab:List (Str×Nat×List Str):=[tb "_law_cell" 46 ["script", "k"],tb "_law_name" 47 ["cell", "n"],tb "_law_book" 48 ["script"],tb "_law_all_names" 50 ["script", "tome"],tb "_law_heads" 49 ["script", "tome", "names"],tb "_law_leaf" 51 ["part", "wrong"],tb "_law_good" 53 ["tome", "known", "cell"],tb "_law_over" 52 ["part", "states", "own"],tb "_law_twig" 54 ["tome", "names", "known", "cell"],tb "_law_begun" 59 ["script", "tome", "names", "pairs"],tb "_law_many" 60 ["script"],tb "_law_wrapped" 55 ["tome", "names", "known", "state", "cell"],tb "_law_room" 57 ["state", "left", "room"],tb "_law_closed" 56 ["tome", "names", "known", "state", "binder", "cell"],tb "_law_step" 58 ["tome", "names", "now", "cell", "room"],tb "_law_no_kind" 62 ["kinds", "cell"],tb "_law_no_name" 61 ["cell"],tb "_law_wrong_leaf" 63 ["tome", "names", "cell"],tb "_law_odd_pick" 66 ["tome", "names", "state", "leaf", "near"],tb "_law_odd_use" 64 ["tome", "names", "state", "leaf", "near"],tb "_law_odd_again" 65 ["tome", "names", "known", "state", "leaf", "near"],tb "_law_odd" 67 ["tome", "names", "known", "state", "cell", "fresh"],tb "_law_body" 68 ["script", "tome", "names", "pairs", "room"],tb "is_kind" 31 ["book", "k"],tb "is_name" 18 ["text"],tb "check_heads" 32 ["book", "heads"],tb "inner" 25 ["part"],tb "too_round" 34 ["part", "rounds"],tb "parts_in" 26 ["part"],tb "lets_in" 27 ["part"],tb "depth_of" 28 ["part"],tb "check_size" 33 ["body"],tb "check_name" 36 ["book", "known", "part"],tb "check_kind" 38 ["book", "k"],tb "check_number" 37 ["book", "known", "part"],tb "check_use" 39 ["book", "known", "part"],tb "check_new_name" 41 ["known", "x"],tb "check_let" 40 ["book", "known", "part"],tb "check_pick" 42 ["book", "known", "part"],tb "check_again" 43 ["book", "known", "part"],tb "name_within" 29 ["part", "number"],tb "check_part" 35 ["book", "known", "part"],tb "program" 30 ["book", "heads", "body"],tb "_law_asked" 70 ["tome", "handed", "body"],tb "_law_wrong_heads" 69 ["names", "pairs", "kinds", "cell"]]
noncomputable def blt:List Str:=["ValueError", "all", "any", "enumerate", "int", "isinstance", "len", "list", "max", "range", "sum", "tuple"]
noncomputable def T2:List (Str×Int):=[("MOST_DEPTH",24),("MOST_HEADS",6),("MOST_LETS",2),("MOST_PARTS",60),("MOST_ROUNDS",9)]
theorem sc_law:FnScope ["script", "tome", "names", "pairs", "room", "state", "due", "handed", "found", "refused", "other"] ["script"] (aJ s_law):=⟨rfl,rfl,rfl,by decide +kernel,rfl,by decide +kernel,by decide +kernel⟩
structure Txt(w:World)(K:U3)(mg:Str->Option Value):Prop where
 d:∀p∈tab,My.DefAt K mg p.1 (top p.2.1) p.2.2
 b:∀x∈blt,mg x=none
 g:∀p∈T2,GInt mg p.1 p.2
 g_WORDS:GTup K mg "WORDS" ["let", "in", "pick", "again"]
 k_CHECKS:My.DictAt w K mg "CHECKS" [("name", "check_name"),("number", "check_number"),("use", "check_use"),("let", "check_let"),("pick", "check_pick"),("again", "check_again")]
 t_NoDeed:My.TryAt K mg "NoDeed" "ChiefError" ["NoForm", "NoHead", "NoKind", "NoMake", "NoName", "NoNumber", "NoReading", "NoRoad", "NoText", "NoWheel", "OutOfSteps", "TooBig", "Uneven"]
 t_NoHead:My.TryAt K mg "NoHead" "ChiefError" ["NoDeed", "NoForm", "NoKind", "NoMake", "NoName", "NoNumber", "NoReading", "NoRoad", "NoText", "NoWheel", "OutOfSteps", "TooBig", "Uneven"]
 t_NoKind:My.TryAt K mg "NoKind" "ChiefError" ["NoDeed", "NoForm", "NoHead", "NoMake", "NoName", "NoNumber", "NoReading", "NoRoad", "NoText", "NoWheel", "OutOfSteps", "TooBig", "Uneven"]
 t_NoName:My.TryAt K mg "NoName" "ChiefError" ["NoDeed", "NoForm", "NoHead", "NoKind", "NoMake", "NoNumber", "NoReading", "NoRoad", "NoText", "NoWheel", "OutOfSteps", "TooBig", "Uneven"]
 t_NoNumber:My.TryAt K mg "NoNumber" "ChiefError" ["NoDeed", "NoForm", "NoHead", "NoKind", "NoMake", "NoName", "NoReading", "NoRoad", "NoText", "NoWheel", "OutOfSteps", "TooBig", "Uneven"]
 t_TooBig:My.TryAt K mg "TooBig" "ChiefError" ["NoDeed", "NoForm", "NoHead", "NoKind", "NoMake", "NoName", "NoNumber", "NoReading", "NoRoad", "NoText", "NoWheel", "OutOfSteps", "Uneven"]
theorem Txt.n{w:World}{K:U3}{mg:Str->Option Value}(T:Txt w K mg){x:Str}(h:x∈blt:=by decide +kernel):mg x=none:=T.b x h
abbrev Tx(P:U7)(w:World)(K:U3)(mg:Str->Option Value)(base:Heap):Prop:=Txt w K mg
abbrev Zt(x:Str)(ps:List Str)(k n:Nat):Type:={b:Sv // ∀ {P:U7} {w:World} {K:U3} {mg:Str->Option Value} {base:Heap},Tx P w K mg base->Fn P w K mg base x k ps (bM n b)}
def lV(N:List Str)(i:Nat){x:Str}{ps:List Str}{k:Nat}{b:Sv}(h:∀ {P:U7} {w:World} {K:U3} {mg:Str->Option Value} {base:Heap} {z:Addr} {q:Value} {A:VC} {outer:List Env} {H:Hp} {E:XK} (T:Tx P w K mg base) (s:U2) (nd:N.Nodup) (G:Room k (A.deeper (WB x (aJ (top i)) s.heap.objs.size z q))) (hu:(A.deeper (WB x (aJ (top i)) s.heap.objs.size z q)).units+1<cLine),∃g,PSDs (dR A4 P w K mg base N x (aJ (top i)) z q A outer s H E).nox ⟨[],[]⟩ [] (bO (top i)) g []/\g=b)(m:(x,i,ps)∈tab:=by decide +kernel)(sc:FnScope N ps (aJ (top i)):=by exact⟨rfl,rfl,rfl,by decide +kernel,rfl,by decide +kernel,by decide +kernel⟩):Zt x ps (k+1) N.length:=⟨b,λT=>iA (T.d _ m) sc λz q A outer s H E G=>h T s sc.nd G (cG G)⟩
abbrev Zr(x:Str)(ps:List Str)(k n m:Nat):Type:={b:(List D->Option D)->Sv // ∀ {P:U7} {w:World} {K:U3} {mg:Str->Option Value} {base:Heap},Tx P w K mg base->Fn P w K mg base x (k+m+1) ps (dO n b m)}
def F2(N:List Str)(i:Nat){x:Str}{ps:List Str}{k m:Nat}{b:(List D->Option D)->Sv}(h:∀ {P:U7} {w:World} {K:U3} {mg:Str->Option Value} {base:Heap} {fa:Addr} {cdv:Value} {A:VC} {outer:List Env} {H:Hp} {E:XK} (T:Tx P w K mg base) (R:List D->Option D) (j:Nat) (hj:k<=j) (ih:Fn P w K mg base x j ps R) (s:U2) (nd:N.Nodup) (hr:Room j (A.deeper (WB x (aJ (top i)) s.heap.objs.size fa cdv))) (hu:(A.deeper (WB x (aJ (top i)) s.heap.objs.size fa cdv)).units+1<cLine),∃g,PSDs (dR A4 P w K mg base N x (aJ (top i)) fa cdv A outer s H E).nox ⟨[],[]⟩ [] (bO (top i)) g []/\g=b R)(me:(x,i,ps)∈tab:=by decide +kernel)(sc:FnScope N ps (aJ (top i)):=by exact⟨rfl,rfl,rfl,by decide +kernel,rfl,by decide +kernel,by decide +kernel⟩):Zr x ps k N.length m:=⟨b,λT=>by
 induction m with
 | zero=>exact zR (T.d _ me) sc
 | succ m ih=>exact iA (T.d _ me) sc λfa cdv A outer s H E hr=>h T _ (k+m+1) (by lia) ih s sc.nd hr (cG hr)⟩
local macro_rules | `(tactic|exists $x:ident) => `(tactic|(refine' (?f:∀y:(List D -> Option D) -> Sv, zaA $x = y -> (List D -> Option D) -> Sv) _ ?h;(case h => unfold $x;(try unfold F2);(try dsimp only);try exact rfl);(case f => exact λy _ => y)))
local macro_rules | `(tactic|exists $x:ident) => `(tactic|(refine' (?f:∀y:Xv, zaA $x = y -> Xv) _ ?h;(case h => unfold $x;(try dsimp only);try exact rfl);(case f => exact λy _ => y)))
local macro_rules | `(tactic|exists $x:ident) => `(tactic|(refine' (?f:∀y:Sv, zaA $x = y -> Sv) _ ?h;(case h => unfold $x;(try unfold lV);(try dsimp only);try exact rfl);(case f => exact λy _ => y)))
theorem SV{X:Cx}{O:List Nat}{p:Pos}(T:Txt X.w X.K X.mg)(q:Gl X "MOST_DEPTH"):PD X O (.Name "MOST_DEPTH" p) (eC (.int 24)):=mZ (T.g ("MOST_DEPTH",24) (by decide +kernel)) q
theorem R5{X:Cx}{O:List Nat}{p:Pos}(T:Txt X.w X.K X.mg)(q:Gl X "MOST_HEADS"):PD X O (.Name "MOST_HEADS" p) (eC (.int 6)):=mZ (T.g ("MOST_HEADS",6) (by decide +kernel)) q
theorem S5{X:Cx}{O:List Nat}{p:Pos}(T:Txt X.w X.K X.mg)(q:Gl X "MOST_LETS"):PD X O (.Name "MOST_LETS" p) (eC (.int 2)):=mZ (T.g ("MOST_LETS",2) (by decide +kernel)) q
theorem R3{X:Cx}{O:List Nat}{p:Pos}(T:Txt X.w X.K X.mg)(q:Gl X "MOST_PARTS"):PD X O (.Name "MOST_PARTS" p) (eC (.int 60)):=mZ (T.g ("MOST_PARTS",60) (by decide +kernel)) q
theorem TF{X:Cx}{O:List Nat}{p:Pos}(T:Txt X.w X.K X.mg)(q:Gl X "MOST_ROUNDS"):PD X O (.Name "MOST_ROUNDS" p) (eC (.int 9)):=mZ (T.g ("MOST_ROUNDS",9) (by decide +kernel)) q
theorem gt_0{X:Cx}{O:List Nat}{e:Expr}{f:Ev}{p pos:Pos}(T:Txt X.w X.K X.mg)(q:Gl X "WORDS")(z:PB X O e f):oR X O (.Compare e [.In] [.Name "WORDS" p] pos) (fN (AU (JW false ["let", "in", "pick", "again"]) f)):=IZ T.g_WORDS q z
local macro_rules | `(tactic|trivial) => `(tactic|first
 | (show PB _ _ _ _;first|(apply vB <;> trivial)|(apply PD.b <;> trivial))
 | (show PD _ _ _ _;first|(apply vD <;> trivial)|(apply wE <;> trivial)|((first|apply EZ|apply bU|apply UX|apply UK|apply SN|apply wt|apply P2|apply NR|apply MJ|apply SL|apply SI|apply SO|apply O4|apply SV|apply R5|apply S5|apply R3|apply TF|apply rInV|apply UP|apply FL|apply yI|apply QB|apply QT|apply DL|apply M0|apply US|apply PF.d) <;> trivial))
 | (show vO _ _ _ _;((first|apply IA|apply oY) <;> trivial))
 | (show t6 _ _ _ _;((first|apply AD|apply GG) <;> trivial))
 | (show Len _ _;((first|apply l0|apply lc) <;> trivial))
 | (show jK _ _ _;((first|apply cM|apply u9|apply yK|apply E8|apply KW|apply QL|apply MA|apply NY|apply MH|apply UM|apply UI|apply UY) <;> trivial))
 | (show At _ _ _;first|exact at_ 0|exact at_ 1|exact at_ 2|exact at_ 3|exact at_ 4|exact at_ 5|exact at_ 6|exact at_ 7|exact at_ 8|exact at_ 9|exact at_ 10|exact at_ 11|exact at_ 12)
 | (show oR _ _ _ _;first|((first|apply gt_0|apply SX|apply TJ|apply tc|apply CC|apply JL) <;> trivial)|(apply PDW.pt <;> trivial)|(apply GW <;> trivial))
 | (show PDW _ _ _ _;((first|apply G6|apply E6|apply EH|apply IQ) <;> trivial))
 | (show LO _ _ _ _;((first|apply D5|apply DU) <;> trivial))
 | (show PDI _ _ _ _ _;((first|apply xG|apply ED|apply DX) <;> trivial))
 | (show vQ _ _ _ _;first|(apply gV <;> trivial)|(apply gu 2 <;> trivial))
 | (show yW _ _ _ _;((first|apply DA|apply gc) <;> trivial))
 | (show My.AZ _ _ _;((first|apply DY|apply D8) <;> trivial))
 | (show PF _ _ _ _;((first|apply wl|apply RZ) <;> trivial))
 | rfl
 | assumption
 | exact Txt.n (by assumption)
 | exact .inl rfl
 | exact .inr rfl
 | exact .inr (.inl rfl)
 | exact .inr (.inr rfl)
 | exact λ_=>rfl
 | exact λ_ _=>rfl
 | (with_unfolding_all rfl)
 | (constructor <;> rfl)
 | exact VG _
 | (refine WC ?_ (by assumption);decide))
seal PD PB PF vO t6 oR PDW PDI LO PSD PSDs Fn jK VF V4
def cQ:Zt "_law_cell" ["script", "k"] 1 3:=lV ["script", "k", "near"] 46 λT s q G z=>by exact⟨_,(c0 (aW aR) (c0 (aK 2 (bU cM (by trivial) (PD.b (bU d4 (by trivial) (by trivial))))) (c0 (aW (aL (aK 2 (bU cM (by trivial) (PD.b (bU d4 (PD.b (bU d4 (by trivial) (by trivial))) (by trivial))))))) (aR (bU yK (PD.b (bU u9 (PD.b (bU d4 (by trivial) (by trivial))) (by trivial))) (by trivial)))))),rfl⟩
def iW:Sv:=by exists cQ
def bJ:=bM 3 iW
def lK:Zt "_law_name" ["cell", "n"] 1 6:=lV ["cell", "n", "many", "some", "letters", "at"] 47 λT s q G z=>by exact⟨_,(c0 (aK 0) (c0 (aK 2) (c0 (aK 3) (c0 (aW (aL (aK 3))) (cO [4] (g4 4 (cA s ["k", "cell", "some"] [none,some 0,some 3] (by trivial) (by intros;trivial) (by intros;trivial) (λ_ _ _ _=>(bU u9 (PD.b (bU cM (PD.b (bU yK (by trivial) (PD.b (bU cM (by trivial) (PD.b (bU d4 (by trivial) (by trivial))))))) (PD.b (bU d4 (by trivial) (by trivial))))) (by trivial))))) (c0 (SY (cO [4] (aK 2) (aL (oO 4))) (cO [4] (aK 5) (aL (oO 4)))) (aR (zZ (by trivial) (PD.b (PF.d (cA s ["k", "some", "letters"] [none,some 3,some 4]))) (λa b=>(FU PySem.F.plainAttrs_str PySem.F.slot_str_join PySem.F.type_str_join My.AB a b)))))))))),rfl⟩
def pW:Sv:=by exists lK
def cP:=bM 6 pW
def pZ:Zt "_law_book" ["script"] 2 12:=lV ["script", "cell", "M", "many", "kinds", "roads", "makes", "k", "near", "takes", "shape", "name"] 48 λT s q G z=>by have:=fx bJ (cQ.2 T);have:=fx cP (lK.2 T);exact⟨_,(c0 (aK 1) (c0 (aK 2 (bU cM (by trivial) (PD.b (bU d4 (by trivial) (by trivial))))) (c0 (aW (aL (aK 2 (bU cM (by trivial) (PD.b (bU d4 (by trivial) (by trivial))))))) (c0 (aK 3) (c0 (aK 4 (ON hZ T.n My.boot_tuple (GG (PD.b (PF.d (cA s ["k", "script"] [none,some 0]))) (by trivial)))) (c0 (aK 5) (c0 (aW (aL (aK 5))) (cO [6] (g4 6) (c0 (lB [6] [] (cO [6] (aK 8) (cO [6] (aK 9) (cO [6] (aK 10) (cO [6] (aW (cO [6] (aK 9) (aL (aK 10)))) (cO [6] (aK 11) (aL (AV 6)))))))) aR))))))))),rfl⟩
def pT:Sv:=by exists pZ
def lG:=bM 12 pT
def jD:Zt "_law_all_names" ["script", "tome"] 2 5:=lV ["script", "tome", "names", "some", "k"] 50 λT s q G z=>by have:=fx bJ (cQ.2 T);have:=fx cP (lK.2 T);exact⟨_,(cO [2] (JF 2 s ["k", "script"] [none,some 0]) (cO [2] (aK 3 (bU cM (PD.b (PF.d (cA s ["make"] [none]))) (by trivial))) (c0 (lB [2] [] (aL (aW (aL (oO 2 (by trivial) (PD.b (bU E8 (by trivial) (PD.b (bU d4 (by trivial) (by trivial)))))))))) aR))),rfl⟩
def jG:Sv:=by exists jD
def eY:=bM 5 jG
def oC:Zt "_law_heads" ["script", "tome", "names"] 2 5:=lV ["script", "tome", "names", "pairs", "k"] 49 λT s q G z=>by have:=fx bJ (cQ.2 T);exact⟨_,(cO [3] (g4 3) (c0 (lB [3] [] (aL (AV 3))) aR)),rfl⟩
def oM:Sv:=by exists oC
def jQ:=bM 5 oM
def iR:Zt "_law_leaf" ["part", "wrong"] 1 2:=lV ["part", "wrong"] 51 λT s q G z=>by exact⟨_,aR,rfl⟩
def lL:Sv:=by exists iR
def f7:=bM 2 lL
def iS:Zt "_law_good" ["tome", "known", "cell"] 2 3:=lV ["tome", "known", "cell"] 53 λT s z q G=>by have:=fx f7 (iR.2 T);exact⟨_,(c0 (aW aR) (aR (cD (fx f7 (iR.2 T)) (q.mono (by decide)) (oY (lM (oY (by trivial) (oY (bU u9 (PD.b (bU d4 (by trivial) (by trivial))) (by trivial)) (by trivial))) (λρ ds h=>(by have:=(lc (lc (lc l0))) ρ ds h;lia))) (by trivial)) (lc (lc l0))))),rfl⟩
def iY:Sv:=by exists iS
def iU:=bM 3 iY
def b8:Zt "_law_over" ["part", "states", "own"] 1 10:=lV ["part", "states", "own", "parts", "lets", "deep", "rounds", "wrong", "k", "one"] 52 λT s q G z=>by exact⟨_,(c0 (aK 3) (c0 (aK 4) (c0 (aK 5) (c0 (aK 6) (c0 (aK 7) (c0 (lB [] [] (c0 (aK 9) (c0 (aK 3) (c0 (aK 4) (c0 (aK 5) (c0 (aK 6) (aL (aW (aL (aK 7)))))))))) (aR (lM (oY (by trivial) (oY (by trivial) (oY (by trivial) (oY (by trivial) (oY (by trivial) (oY (by trivial) (oY (ON hZ T.n My.boot_tuple (GG (PD.b (PF.d (cA s ["one"] [none]))) (by trivial))) (by trivial)))))))) (λρ ds h=>(by have:=(lc (lc (lc (lc (lc (lc (lc l0))))))) ρ ds h;lia)))))))))),rfl⟩
def pY:Sv:=by exists b8
def a7:=bM 10 pY
def iT:Zt "_law_twig" ["tome", "names", "known", "cell"] 3 8:=lV ["tome", "names", "known", "cell", "kinds", "k", "one", "two"] 54 λT s q G z=>by have:=fx iU (iS.2 T);have:=fx a7 (b8.2 T);exact⟨_,(c0 (aK 4) (c0 (aK 5) (c0 (aK 6) (c0 (aW (c0 (aK 7) aR)) (c0 (aW (c0 (aK 7) aR)) aR))))),rfl⟩
def iZ:Sv:=by exists iT
def iV:=bM 8 iZ
def oF:Zt "_law_begun" ["script", "tome", "names", "pairs"] 4 6:=lV ["script", "tome", "names", "pairs", "left", "known"] 59 λT s q G z=>by have:=fx bJ (cQ.2 T);have:=fx iV (iT.2 T);exact⟨_,(c0 (aK 4) (c0 (aK 5 (bU cM (PD.b (PF.d (cA s ["name", "kind"] [none,none]))) (PD.b (PF.d (cA s ["k", "names"] [none,some 2]))))) aR)),rfl⟩
def oB:Sv:=by exists oF
def oA:=bM 6 oB
def pM:Zt "_law_many" ["script"] 2 1:=lV ["script"] 60 λT s q G z=>by have:=fx bJ (cQ.2 T);exact⟨_,aR,rfl⟩
def lE:Sv:=by exists pM
def pO:=bM 1 lE
def lA:Zt "_law_wrapped" ["tome", "names", "known", "state", "cell"] 4 13:=lV ["tome", "names", "known", "state", "cell", "near", "kinds", "other", "make", "at", "row", "two", "part"] 55 λT s z q G=>by have:=fx iU (iS.2 T);have:=fx a7 (b8.2 T);have:=fx iV (iT.2 T);exact⟨_,(c0 (aK 5) (c0 (aK 6) (c0 (aK 7) (c0 (aW (c0 (aK 8) (c0 (aK 9) (cO [10] (g4 10 (E2 (by trivial) (by trivial))) (c0 (oO 10) (aR (lM (oY (cD (fx a7 (b8.2 T)) (q.mono (by decide)) (oY (lM (oY (by trivial) (oY (by trivial) (oY (ON hZ T.n My.boot_tuple (GG (PD.b (PF.d (cA s ["one"] [none]))) (by trivial))) (by trivial)))) (λρ ds h=>(by have:=(lc (lc (lc l0))) ρ ds h;lia))) (by trivial)) (lc (lc (lc l0)))) (by trivial)) (λρ ds h=>(by have:=(lc (lc l0)) ρ ds h;lia))))))))) (c0 (aW (c0 (aK 11) (c0 (aK 12) aR))) (c0 (aW (c0 (aK 11) aR)) (c0 (aK 9) (cO [10] (g4 10) (c0 (oO 10) (c0 (aK 12) aR)))))))))),rfl⟩
def bR:Sv:=by exists lA
def cI:=bM 13 bR
def pP:Zt "_law_room" ["state", "left", "room"] 1 4:=lV ["state", "left", "room", "agains"] 57 λT s q G z=>by exact⟨_,(c0 (aK 3 (cB EV T.n My.boot_len (GG (PD.b (PF.d (cA s ["one"] [none]))) (by trivial)))) (c0 (aW aR (PDW.pt (E6 (pE KW (PD.b (bU cM (by trivial) (PD.b (bU d4 (by trivial) (by trivial))))) (by trivial) (nQ _)) (by trivial)))) aR)),rfl⟩
def eI:Sv:=by exists pP
def pS:=bM 4 eI
def l5:Zt "_law_closed" ["tome", "names", "known", "state", "binder", "cell"] 4 9:=lV ["tome", "names", "known", "state", "binder", "cell", "one", "name", "part"] 56 λT s q G z=>by have:=fx a7 (b8.2 T);have:=fx iV (iT.2 T);exact⟨_,(c0 (aK 6) (c0 (aK 7) (c0 (aW aR) (c0 (aK 8) aR)))),rfl⟩
def iJ:Sv:=by exists l5
def mG:=bM 9 iJ
def p7:Zt "_law_step" ["tome", "names", "now", "cell", "room"] 5 11:=lV ["tome", "names", "now", "cell", "room", "state", "left", "known", "rest", "grown", "at"] 58 λT s q G z=>by have:=fx mG (l5.2 T);have:=fx pS (pP.2 T);have:=fx cI (lA.2 T);exact⟨_,(c0 (mY (by trivial) (mX (My.qY (n:=3) rfl (nL (λa b=>(qL a b)) (by trivial) (nL (λa b=>(qL a b)) (wR (zA (i:=6) q rfl (Or.inr rfl))) (by trivial)))))) (c0 (aW (c0 (NX 8 s ["name", "names", "left"] [none,some 1,some 6]) aR)) (c0 (mY (by trivial) (mX (My.qY (n:=2) rfl (by trivial)))) (c0 (aW aR) aR)))),rfl⟩
def fW:Sv:=by exists p7
def iQ:=bM 11 fW
def dA:Zt "_law_no_kind" ["kinds", "cell"] 1 2:=lV ["kinds", "cell"] 62 λT s q G z=>by exact⟨_,aR,rfl⟩
def c9:Sv:=by exists dA
def dB:=bM 2 c9
def dC:Zt "_law_no_name" ["cell"] 1 2:=lV ["cell", "some"] 61 λT s q G z=>by exact⟨_,(c0 (aK 1) aR),rfl⟩
def kW:Sv:=by exists dC
def cZ:=bM 2 kW
def eA:Zt "_law_wrong_leaf" ["tome", "names", "cell"] 2 6:=lV ["tome", "names", "cell", "near", "kinds", "far"] 63 λT s q G z=>by have:=fx f7 (iR.2 T);have:=fx dB (dA.2 T);have:=fx cZ (dC.2 T);exact⟨_,(c0 (aK 3) (c0 (aK 4) (c0 (aK 5) (c0 (aW aR) (c0 (aW aR) (c0 (aW aR) (c0 (aW aR) aR))))))),rfl⟩
def bS:Sv:=by exists eA
def cT:=bM 6 bS
def jP:Zt "_law_odd_pick" ["tome", "names", "state", "leaf", "near"] 3 11:=lV ["tome", "names", "state", "leaf", "near", "kinds", "c", "k", "own", "other", "row"] 66 λT s q G z=>by have:=fx dB (dA.2 T);have:=fx a7 (b8.2 T);have:=fx cT (eA.2 T);exact⟨_,(c0 (aK 5) (c0 (aK 6) (c0 (aK 7) (c0 (aK 8) (c0 (aW (aL (aK 6))) (c0 (aW (aL (aK 7))) (c0 (aK 9) (c0 (aW (c0 (aK 8) (aL (aK 9)))) (cO [10] (g4 10) (cO [10] (oO 10) (c0 (oO 10) aR))))))))))),rfl⟩
def jO:Sv:=by exists jP
def fT:=bM 11 jO
def k9:Zt "_law_odd_use" ["tome", "names", "state", "leaf", "near"] 2 10:=lV ["tome", "names", "state", "leaf", "near", "row", "some", "name", "own", "make"] 64 λT s z q G=>by have:=fx a7 (b8.2 T);exact⟨_,(c0 (aK 5) (c0 (aK 6 (bU cM (PD.b (PF.d (cA s ["make"] [none]))) (by trivial))) (c0 (aK 7) (c0 (aK 8) (c0 (lB [] [] (aL (aW (aL (aK 8))))) (aR (cD (fx a7 (b8.2 T)) (q.mono (by decide)) (oY (lM (oY (by trivial) (oY (by trivial) (oY (ON hZ T.n My.boot_tuple (GG (PD.b (PF.d (cA s ["one"] [none]))) (by trivial))) (by trivial)))) (λρ ds h=>(by have:=(lc (lc (lc l0))) ρ ds h;lia))) (by trivial)) (lc (lc (lc l0)))))))))),rfl⟩
def kY:Sv:=by exists k9
def gY:=bM 10 kY
def jE:Zt "_law_odd_again" ["tome", "names", "known", "state", "leaf", "near"] 2 11:=lV ["tome", "names", "known", "state", "leaf", "near", "kinds", "n", "k", "name", "own"] 65 λT s q G z=>by have:=fx dB (dA.2 T);have:=fx cZ (dC.2 T);have:=fx a7 (b8.2 T);exact⟨_,(c0 (aK 6) (c0 (aK 7) (c0 (aK 8) (c0 (aK 9) (c0 (aK 10) (c0 (aW (aL (aK 10))) (c0 (aW (aL (aK 10))) (c0 (aW (aL (aK 10))) aR)))))))),rfl⟩
def jF:Sv:=by exists jE
def eZ:=bM 11 jF
def sP:Zt "_law_odd" ["tome", "names", "known", "state", "cell", "fresh"] 4 11:=lV ["tome", "names", "known", "state", "cell", "fresh", "near", "leaf", "name", "row", "part"] 67 λT s q G z=>by have:=fx iU (iS.2 T);have:=fx cZ (dC.2 T);have:=fx eZ (jE.2 T);have:=fx fT (jP.2 T);have:=fx gY (k9.2 T);have:=fx a7 (b8.2 T);have:=fx cT (eA.2 T);exact⟨_,(c0 (aK 6) (c0 (aK 7) (c0 (aW (aL (aK 7))) (c0 (aW aR) (c0 (aW aR) (c0 (aW (c0 (aK 8) (c0 (aK 9) aR))) (c0 (aW (c0 (aK 10) (c0 (aW (aL (aK 10))) aR))) aR))))))),rfl⟩
def sZ:Sv:=by exists sP
def eJ:=bM 11 sZ
def pL:Zt "_law_body" ["script", "tome", "names", "pairs", "room"] 6 11:=lV ["script", "tome", "names", "pairs", "room", "now", "many", "odd", "k", "cell", "at"] 68 λT s q G z=>by have:=fx oA (oF.2 T);have:=fx bJ (cQ.2 T);have:=fx pO (pM.2 T);have:=fx eJ (sP.2 T);have:=fx iQ (p7.2 T);exact⟨_,(c0 (aK 5) (c0 (aK 6) (cO [7] (g4 7) (cO [7] (aW (PSDs.pre (O1:=[]) (aL (g4 7)) rfl)) (c0 (aW (aL (oO 7))) (c0 (lB [] [] (c0 (aK 9) (c0 (mY (by trivial) (mX (My.qY (n:=2) rfl (by trivial)))) (c0 (aW (aL (aK 5))) (aL (aW (aL (aK 5)))))))) (c0 (OT [] [] (aL (mY (by trivial) (mX (My.qY (n:=2) rfl (by trivial)))))) aR))))))),rfl⟩
def pV:Sv:=by exists pL
def lJ:=bM 11 pV
def hU:Zt "is_kind" ["book", "k"] 1 2:=lV ["book", "k"] 31 λT s q G z=>by exact⟨_,aR,rfl⟩
def kG:Sv:=by exists hU
def fQ:=bM 2 kG
def hV:Zt "is_name" ["text"] 1 1:=lV ["text"] 18 λT s q G z=>by exact⟨_,(c0 (aW aR) (aR (cB (FG rfl) T.n My.boot_all (GG (PD.b (PF.d (cA s ["sign"] [none]))) (by trivial))))),rfl⟩
def sV:Sv:=by exists hV
def fP:=bM 1 sV
theorem sc_check_heads:FnScope ["book", "heads", "known", "x", "k"] ["book", "heads"] (aJ (top 32)):=⟨rfl,rfl,rfl,by decide +kernel,rfl,by decide +kernel,by decide +kernel⟩
def gW:{b:Sv // ∀ {P:U7} {w:World} {K:U3} {mg:Str->Option Value} {base:Heap},Tx P w K mg base->y6 P w K mg base ["book", "heads", "known", "x", "k"] "check_heads" (top 32) 1 b}:=⟨_,λT G q A outer s H E z=>by have N:=cG z;have J:=sc_check_heads.nd;have:=fx fQ (hU.2 T);have:=fx fP (hV.2 T);exact⟨_,(c0 dF (cO [2] (g4 2) (aL (lB [2] [] (cO [2] dF (cO [2] dF (aL (AV 2)))))))),rfl⟩⟩
def k4:Sv:=by exists gW
def eN:=bM 5 k4
def kU:{g:Xv // ∀ {P:U7} {w:World} {K:U3} {mg:Str->Option Value} {base:Heap},Tx P w K mg base->AY P w K mg base ["book", "heads", "known", "x", "k"] "check_heads" (top 32) 1 g}:=⟨_,λT G q A outer s H E z=>by have N:=cG z;have J:=sc_check_heads.nd;have:=fx fQ (hU.2 T);have:=fx fP (hV.2 T);exact⟨_,(bT (O2:=[]) (jH (by trivial) (a9 (cF rfl rfl T.t_NoHead.cls)) fA) dF (bT (O2:=[2]) FQ (g4 2) (a9 (E4 (O1:=[2]) PassesOwn.leaving rfl (by trivial) (by trivial) (cO [2] dF (cO [2] dF (aL (AV 2)))) (bT (O2:=[2]) (jH (by trivial) (a9 (cF rfl rfl T.t_NoHead.cls)) fA) dF (a9 (jH (by trivial) (a9 (cF rfl rfl T.t_NoHead.cls)) fA))) rfl)))),rfl⟩⟩
def rZ:Xv:=by exists kU
def cJ:=kR 5 rZ
theorem kZ{P:U7}{w:World}{K:U3}{mg:Str->Option Value}{base:Heap}(T:Tx P w K mg base):Fn P w K mg base "check_heads" 2 ["book", "heads"] eN:=iA (T.d ("check_heads",32,["book", "heads"]) (by decide +kernel)) sc_check_heads (gW.2 T)
theorem pI{P:U7}{w:World}{K:U3}{mg:Str->Option Value}{base:Heap}(T:Tx P w K mg base):FnX P w K mg base "check_heads" 2 ["book", "heads"] eN cJ:=fB (T.d ("check_heads",32,["book", "heads"]) (by decide +kernel)) sc_check_heads (gW.2 T) (kU.2 T)
def i7:Zt "inner" ["part"] 1 1:=lV ["part"] 25 λT s q G z=>by exact⟨_,(c0 (aW aR) (c0 (aW aR) (c0 (aW aR) (c0 (aW aR) aR)))),rfl⟩
def eR:Sv:=by exists i7
def gO:=bM 1 eR
def jW:Zr "too_round" ["part", "rounds"] 1 2 60:=F2 ["part", "rounds"] 34 λT R j q ih s z J G=>by have:=fx gO (i7.2 T);exact⟨_,(c0 (aW (aR (cB (NH rfl) T.n My.boot_any (GG (PD.b (PF.d (cA s ["one", "rounds"] [none,some 1]))) (by trivial))))) aR),rfl⟩
def bL:(List D->Option D)->Sv:=by exists jW
def jT:=dO 2 bL 60
def lI:Zr "parts_in" ["part"] 1 1 60:=F2 ["part"] 26 λT R j q ih s z J G=>by have:=fx gO (i7.2 T);exact⟨_,(aR (bU cM (by trivial) (PD.b (cB (E3 rfl) T.n My.boot_sum (GG (PD.b (PF.d (cA s ["one"] [none]))) (by trivial)))))),rfl⟩
def eD:(List D->Option D)->Sv:=by exists lI
def f6:=dO 1 eD 60
def nK:Zr "lets_in" ["part"] 1 1 60:=F2 ["part"] 27 λT R j q ih s z J G=>by have:=fx gO (i7.2 T);exact⟨_,(aR (bU cM (by trivial) (PD.b (cB (E3 rfl) T.n My.boot_sum (GG (PD.b (PF.d (cA s ["one"] [none]))) (by trivial)))))),rfl⟩
def fO:(List D->Option D)->Sv:=by exists nK
def hW:=dO 1 fO 60
def lH:Zr "depth_of" ["part"] 1 1 60:=F2 ["part"] 28 λT R j q ih s z J G=>by have:=fx gO (i7.2 T);exact⟨_,(aR (bU cM (by trivial) (PD.b (GZ rfl (by rfl) T.n (PD.b (PF.d (cA s ["one"] [none]))) (by trivial) rfl)))),rfl⟩
def fZ:(List D->Option D)->Sv:=by exists lH
def fV:=dO 1 fZ 60
theorem sc_check_size:FnScope ["body"] ["body"] (aJ (top 33)):=⟨rfl,rfl,rfl,by decide +kernel,rfl,by decide +kernel,by decide +kernel⟩
def iI:{b:Sv // ∀ {P:U7} {w:World} {K:U3} {mg:Str->Option Value} {base:Heap},Tx P w K mg base->y6 P w K mg base ["body"] "check_size" (top 33) 62 b}:=⟨_,λT G q A outer s H E z=>by have N:=cG z;have J:=sc_check_size.nd;have:=fx fV (lH.2 T);have:=fx hW (nK.2 T);have:=fx f6 (lI.2 T);have:=fx jT (jW.2 T);exact⟨_,(c0 dF (c0 dF (c0 dF (aL dF)))),rfl⟩⟩
def mF:Sv:=by exists iI
def iF:=bM 1 mF
def mD:{g:Xv // ∀ {P:U7} {w:World} {K:U3} {mg:Str->Option Value} {base:Heap},Tx P w K mg base->AY P w K mg base ["body"] "check_size" (top 33) 62 g}:=⟨_,λT G q A outer s H E z=>by have N:=cG z;have J:=sc_check_size.nd;have:=fx fV (lH.2 T);have:=fx hW (nK.2 T);have:=fx f6 (lI.2 T);have:=fx jT (jW.2 T);exact⟨_,(bT (O2:=[]) (jH (by trivial) (a9 (cF rfl rfl T.t_TooBig.cls)) fA) dF (bT (O2:=[]) (jH (by trivial) (a9 (cF rfl rfl T.t_TooBig.cls)) fA) dF (bT (O2:=[]) (jH (by trivial) (a9 (cF rfl rfl T.t_TooBig.cls)) fA) dF (a9 (jH (by trivial) (a9 (cF rfl rfl T.t_TooBig.cls)) fA))))),rfl⟩⟩
def uI:Xv:=by exists mD
def iH:=kR 1 uI
theorem mJ{P:U7}{w:World}{K:U3}{mg:Str->Option Value}{base:Heap}(T:Tx P w K mg base):Fn P w K mg base "check_size" 63 ["body"] iF:=iA (T.d ("check_size",33,["body"]) (by decide +kernel)) sc_check_size (iI.2 T)
theorem sA{P:U7}{w:World}{K:U3}{mg:Str->Option Value}{base:Heap}(T:Tx P w K mg base):FnX P w K mg base "check_size" 63 ["body"] iF iH:=fB (T.d ("check_size",33,["body"]) (by decide +kernel)) sc_check_size (iI.2 T) (mD.2 T)
theorem sc_check_name:FnScope ["book", "known", "part"] ["book", "known", "part"] (aJ (top 36)):=⟨rfl,rfl,rfl,by decide +kernel,rfl,by decide +kernel,by decide +kernel⟩
def iG:{b:Sv // ∀ {P:U7} {w:World} {K:U3} {mg:Str->Option Value} {base:Heap},Tx P w K mg base->y6 P w K mg base ["book", "known", "part"] "check_name" (top 36) 0 b}:=⟨_,λT G q A outer s H E z=>by have N:=cG z;have J:=sc_check_name.nd;exact⟨_,(aL dF),rfl⟩⟩
def lY:Sv:=by exists iG
def dW:=bM 3 lY
def l6:{g:Xv // ∀ {P:U7} {w:World} {K:U3} {mg:Str->Option Value} {base:Heap},Tx P w K mg base->AY P w K mg base ["book", "known", "part"] "check_name" (top 36) 0 g}:=⟨_,λT G q A outer s H E z=>by have N:=cG z;have J:=sc_check_name.nd;exact⟨_,(a9 (jH (by trivial) (a9 (cF rfl rfl T.t_NoName.cls)) fA)),rfl⟩⟩
def uC:Xv:=by exists l6
def iN:=kR 3 uC
theorem fK{P:U7}{w:World}{K:U3}{mg:Str->Option Value}{base:Heap}(T:Tx P w K mg base):Fn P w K mg base "check_name" 1 ["book", "known", "part"] dW:=iA (T.d ("check_name",36,["book", "known", "part"]) (by decide +kernel)) sc_check_name (iG.2 T)
theorem rX{P:U7}{w:World}{K:U3}{mg:Str->Option Value}{base:Heap}(T:Tx P w K mg base):FnX P w K mg base "check_name" 1 ["book", "known", "part"] dW iN:=fB (T.d ("check_name",36,["book", "known", "part"]) (by decide +kernel)) sc_check_name (iG.2 T) (l6.2 T)
theorem sc_check_kind:FnScope ["book", "k"] ["book", "k"] (aJ (top 38)):=⟨rfl,rfl,rfl,by decide +kernel,rfl,by decide +kernel,by decide +kernel⟩
def iE:{b:Sv // ∀ {P:U7} {w:World} {K:U3} {mg:Str->Option Value} {base:Heap},Tx P w K mg base->y6 P w K mg base ["book", "k"] "check_kind" (top 38) 1 b}:=⟨_,λT G q A outer s H E z=>by have N:=cG z;have J:=sc_check_kind.nd;have:=fx fQ (hU.2 T);exact⟨_,(aL dF),rfl⟩⟩
def mC:Sv:=by exists iE
def iO:=bM 2 mC
def lZ:{g:Xv // ∀ {P:U7} {w:World} {K:U3} {mg:Str->Option Value} {base:Heap},Tx P w K mg base->AY P w K mg base ["book", "k"] "check_kind" (top 38) 1 g}:=⟨_,λT G q A outer s H E z=>by have N:=cG z;have J:=sc_check_kind.nd;have:=fx fQ (hU.2 T);exact⟨_,(a9 (jH (by trivial) (a9 (cF rfl rfl T.t_NoKind.cls)) fA)),rfl⟩⟩
def uF:Xv:=by exists lZ
def fG:=kR 2 uF
theorem dY{P:U7}{w:World}{K:U3}{mg:Str->Option Value}{base:Heap}(T:Tx P w K mg base):Fn P w K mg base "check_kind" 2 ["book", "k"] iO:=iA (T.d ("check_kind",38,["book", "k"]) (by decide +kernel)) sc_check_kind (iE.2 T)
theorem eO{P:U7}{w:World}{K:U3}{mg:Str->Option Value}{base:Heap}(T:Tx P w K mg base):FnX P w K mg base "check_kind" 2 ["book", "k"] iO fG:=fB (T.d ("check_kind",38,["book", "k"]) (by decide +kernel)) sc_check_kind (iE.2 T) (lZ.2 T)
theorem sc_check_number:FnScope ["book", "known", "part"] ["book", "known", "part"] (aJ (top 37)):=⟨rfl,rfl,rfl,by decide +kernel,rfl,by decide +kernel,by decide +kernel⟩
def fS:{b:Sv // ∀ {P:U7} {w:World} {K:U3} {mg:Str->Option Value} {base:Heap},Tx P w K mg base->y6 P w K mg base ["book", "known", "part"] "check_number" (top 37) 2 b}:=⟨_,λT G q A outer s H E z=>by have N:=cG z;have J:=sc_check_number.nd;have:=dY T;exact⟨_,(c0 dF (aL cR)),rfl⟩⟩
def jN:Sv:=by exists fS
def cN:=bM 3 jN
def jM:{g:Xv // ∀ {P:U7} {w:World} {K:U3} {mg:Str->Option Value} {base:Heap},Tx P w K mg base->AY P w K mg base ["book", "known", "part"] "check_number" (top 37) 2 g}:=⟨_,λT G z A outer s H E q=>by have N:=cG q;have J:=sc_check_number.nd;exact⟨_,(bT (O2:=[]) (jH (by trivial) (a9 (cF rfl rfl T.t_NoNumber.cls)) fA) dF (a9 (eQ (eO T) (q.mono (by decide)) rfl (by trivial) (λρ ds h=>((lc (lc l0)) ρ ds h))))),rfl⟩⟩
def pK:Xv:=by exists jM
def dS:=kR 3 pK
theorem dU{P:U7}{w:World}{K:U3}{mg:Str->Option Value}{base:Heap}(T:Tx P w K mg base):Fn P w K mg base "check_number" 3 ["book", "known", "part"] cN:=iA (T.d ("check_number",37,["book", "known", "part"]) (by decide +kernel)) sc_check_number (fS.2 T)
theorem oV{P:U7}{w:World}{K:U3}{mg:Str->Option Value}{base:Heap}(T:Tx P w K mg base):FnX P w K mg base "check_number" 3 ["book", "known", "part"] cN dS:=fB (T.d ("check_number",37,["book", "known", "part"]) (by decide +kernel)) sc_check_number (fS.2 T) (jM.2 T)
theorem sc_check_use:FnScope ["book", "known", "part", "make"] ["book", "known", "part"] (aJ (top 39)):=⟨rfl,rfl,rfl,by decide +kernel,rfl,by decide +kernel,by decide +kernel⟩
def jS:{b:Sv // ∀ {P:U7} {w:World} {K:U3} {mg:Str->Option Value} {base:Heap},Tx P w K mg base->y6 P w K mg base ["book", "known", "part", "make"] "check_use" (top 39) 0 b}:=⟨_,λT G q A outer s H E z=>by have N:=cG z;have J:=sc_check_use.nd;exact⟨_,(c0 (lB [] [] (aL (aW (aL wA)))) Q2),rfl⟩⟩
def oJ:Sv:=by exists jS
def dP:=bM 4 oJ
def oI:{g:Xv // ∀ {P:U7} {w:World} {K:U3} {mg:Str->Option Value} {base:Heap},Tx P w K mg base->AY P w K mg base ["book", "known", "part", "make"] "check_use" (top 39) 0 g}:=⟨_,λT G q A outer s H E z=>by have N:=cG z;have J:=sc_check_use.nd;exact⟨_,(bT (O2:=[]) FQ (lB [] [] (aL (aW (aL wA)))) (a9 (cF rfl rfl T.t_NoDeed.cls))),rfl⟩⟩
def oK:Xv:=by exists oI
def eV:=kR 4 oK
theorem gL{P:U7}{w:World}{K:U3}{mg:Str->Option Value}{base:Heap}(T:Tx P w K mg base):Fn P w K mg base "check_use" 1 ["book", "known", "part"] dP:=iA (T.d ("check_use",39,["book", "known", "part"]) (by decide +kernel)) sc_check_use (jS.2 T)
theorem uD{P:U7}{w:World}{K:U3}{mg:Str->Option Value}{base:Heap}(T:Tx P w K mg base):FnX P w K mg base "check_use" 1 ["book", "known", "part"] dP eV:=fB (T.d ("check_use",39,["book", "known", "part"]) (by decide +kernel)) sc_check_use (jS.2 T) (oI.2 T)
theorem sc_check_new_name:FnScope ["known", "x"] ["known", "x"] (aJ (top 41)):=⟨rfl,rfl,rfl,by decide +kernel,rfl,by decide +kernel,by decide +kernel⟩
def d9:{b:Sv // ∀ {P:U7} {w:World} {K:U3} {mg:Str->Option Value} {base:Heap},Tx P w K mg base->y6 P w K mg base ["known", "x"] "check_new_name" (top 41) 1 b}:=⟨_,λT G q A outer s H E z=>by have N:=cG z;have J:=sc_check_new_name.nd;have:=fx fP (hV.2 T);exact⟨_,(aL dF),rfl⟩⟩
def g7:Sv:=by exists d9
def eB:=bM 2 g7
def g8:{g:Xv // ∀ {P:U7} {w:World} {K:U3} {mg:Str->Option Value} {base:Heap},Tx P w K mg base->AY P w K mg base ["known", "x"] "check_new_name" (top 41) 1 g}:=⟨_,λT G q A outer s H E z=>by have N:=cG z;have J:=sc_check_new_name.nd;have:=fx fP (hV.2 T);exact⟨_,(a9 (jH (by trivial) (a9 (cF rfl rfl T.t_NoName.cls)) fA)),rfl⟩⟩
def nI:Xv:=by exists g8
def cS:=kR 2 nI
theorem hJ{P:U7}{w:World}{K:U3}{mg:Str->Option Value}{base:Heap}(T:Tx P w K mg base):Fn P w K mg base "check_new_name" 2 ["known", "x"] eB:=iA (T.d ("check_new_name",41,["known", "x"]) (by decide +kernel)) sc_check_new_name (d9.2 T)
theorem gH{P:U7}{w:World}{K:U3}{mg:Str->Option Value}{base:Heap}(T:Tx P w K mg base):FnX P w K mg base "check_new_name" 2 ["known", "x"] eB cS:=fB (T.d ("check_new_name",41,["known", "x"]) (by decide +kernel)) sc_check_new_name (d9.2 T) (g8.2 T)
theorem sc_check_let:FnScope ["book", "known", "part"] ["book", "known", "part"] (aJ (top 40)):=⟨rfl,rfl,rfl,by decide +kernel,rfl,by decide +kernel,by decide +kernel⟩
def jV:{b:Sv // ∀ {P:U7} {w:World} {K:U3} {mg:Str->Option Value} {base:Heap},Tx P w K mg base->y6 P w K mg base ["book", "known", "part"] "check_let" (top 40) 2 b}:=⟨_,λT G q A outer s H E z=>by have N:=cG z;have J:=sc_check_let.nd;have:=hJ T;exact⟨_,(aL cR),rfl⟩⟩
def n8:Sv:=by exists jV
def eU:=bM 3 n8
def oE:{g:Xv // ∀ {P:U7} {w:World} {K:U3} {mg:Str->Option Value} {base:Heap},Tx P w K mg base->AY P w K mg base ["book", "known", "part"] "check_let" (top 40) 2 g}:=⟨_,λT G z A outer s H E q=>by have N:=cG q;have J:=sc_check_let.nd;exact⟨_,(a9 (eQ (gH T) (q.mono (by decide)) rfl (by trivial) (λρ ds h=>((lc (lc l0)) ρ ds h)))),rfl⟩⟩
def oG:Xv:=by exists oE
def eT:=kR 3 oG
theorem gK{P:U7}{w:World}{K:U3}{mg:Str->Option Value}{base:Heap}(T:Tx P w K mg base):Fn P w K mg base "check_let" 3 ["book", "known", "part"] eU:=iA (T.d ("check_let",40,["book", "known", "part"]) (by decide +kernel)) sc_check_let (jV.2 T)
theorem uH{P:U7}{w:World}{K:U3}{mg:Str->Option Value}{base:Heap}(T:Tx P w K mg base):FnX P w K mg base "check_let" 3 ["book", "known", "part"] eU eT:=fB (T.d ("check_let",40,["book", "known", "part"]) (by decide +kernel)) sc_check_let (jV.2 T) (oE.2 T)
theorem sc_check_pick:FnScope ["book", "known", "part"] ["book", "known", "part"] (aJ (top 42)):=⟨rfl,rfl,rfl,by decide +kernel,rfl,by decide +kernel,by decide +kernel⟩
def iM:{b:Sv // ∀ {P:U7} {w:World} {K:U3} {mg:Str->Option Value} {base:Heap},Tx P w K mg base->y6 P w K mg base ["book", "known", "part"] "check_pick" (top 42) 2 b}:=⟨_,λT G q A outer s H E z=>by have N:=cG z;have J:=sc_check_pick.nd;have:=dY T;exact⟨_,(c0 cR (aL cR)),rfl⟩⟩
def mB:Sv:=by exists iM
def dX:=bM 3 mB
def mI:{g:Xv // ∀ {P:U7} {w:World} {K:U3} {mg:Str->Option Value} {base:Heap},Tx P w K mg base->AY P w K mg base ["book", "known", "part"] "check_pick" (top 42) 2 g}:=⟨_,λT G z A outer s H E q=>by have N:=cG q;have J:=sc_check_pick.nd;have:=dY T;exact⟨_,(bT (O2:=[]) (eQ (eO T) (q.mono (by decide)) rfl (by trivial) (λρ ds h=>((lc (lc l0)) ρ ds h))) cR (a9 (eQ (eO T) (q.mono (by decide)) rfl (by trivial) (λρ ds h=>((lc (lc l0)) ρ ds h))))),rfl⟩⟩
def t8:Xv:=by exists mI
def fL:=kR 3 t8
theorem fH{P:U7}{w:World}{K:U3}{mg:Str->Option Value}{base:Heap}(T:Tx P w K mg base):Fn P w K mg base "check_pick" 3 ["book", "known", "part"] dX:=iA (T.d ("check_pick",42,["book", "known", "part"]) (by decide +kernel)) sc_check_pick (iM.2 T)
theorem rO{P:U7}{w:World}{K:U3}{mg:Str->Option Value}{base:Heap}(T:Tx P w K mg base):FnX P w K mg base "check_pick" 3 ["book", "known", "part"] dX fL:=fB (T.d ("check_pick",42,["book", "known", "part"]) (by decide +kernel)) sc_check_pick (iM.2 T) (mI.2 T)
theorem sc_check_again:FnScope ["book", "known", "part"] ["book", "known", "part"] (aJ (top 43)):=⟨rfl,rfl,rfl,by decide +kernel,rfl,by decide +kernel,by decide +kernel⟩
def gX:{b:Sv // ∀ {P:U7} {w:World} {K:U3} {mg:Str->Option Value} {base:Heap},Tx P w K mg base->y6 P w K mg base ["book", "known", "part"] "check_again" (top 43) 2 b}:=⟨_,λT G q A outer s H E z=>by have N:=cG z;have J:=sc_check_again.nd;have:=dY T;have:=hJ T;exact⟨_,(c0 dF (c0 cR (aL cR))),rfl⟩⟩
def k7:Sv:=by exists gX
def cY:=bM 3 k7
def kX:{g:Xv // ∀ {P:U7} {w:World} {K:U3} {mg:Str->Option Value} {base:Heap},Tx P w K mg base->AY P w K mg base ["book", "known", "part"] "check_again" (top 43) 2 g}:=⟨_,λT G z A outer s H E q=>by have N:=cG q;have J:=sc_check_again.nd;have:=dY T;exact⟨_,(bT (O2:=[]) (jH (by trivial) (a9 (cF rfl rfl T.t_NoNumber.cls)) fA) dF (bT (O2:=[]) (eQ (eO T) (q.mono (by decide)) rfl (by trivial) (λρ ds h=>((lc (lc l0)) ρ ds h))) cR (a9 (eQ (gH T) (q.mono (by decide)) rfl (by trivial) (λρ ds h=>((lc (lc l0)) ρ ds h)))))),rfl⟩⟩
def rT:Xv:=by exists kX
def eM:=kR 3 rT
theorem eP{P:U7}{w:World}{K:U3}{mg:Str->Option Value}{base:Heap}(T:Tx P w K mg base):Fn P w K mg base "check_again" 3 ["book", "known", "part"] cY:=iA (T.d ("check_again",43,["book", "known", "part"]) (by decide +kernel)) sc_check_again (gX.2 T)
theorem pH{P:U7}{w:World}{K:U3}{mg:Str->Option Value}{base:Heap}(T:Tx P w K mg base):FnX P w K mg base "check_again" 3 ["book", "known", "part"] cY eM:=fB (T.d ("check_again",43,["book", "known", "part"]) (by decide +kernel)) sc_check_again (gX.2 T) (kX.2 T)
def gU:Zt "name_within" ["part", "number"] 1 2:=lV ["part", "number"] 29 λT s q G z=>by exact⟨_,(c0 (aW aR) (c0 (aW aR) (c0 (aW aR) aR))),rfl⟩
def c8:Sv:=by exists gU
def cH:=bM 2 c8
local macro_rules | `(tactic|exists $x:ident) => `(tactic|(refine' (?f:∀y:(List D -> Option D) -> (List D -> Option Str) -> Xv, zaA $x = y -> (List D -> Option D) -> (List D -> Option Str) -> Xv) _ ?h;(case h => unfold $x;(try dsimp only);try exact rfl);(case f => exact λy _ => y)))
theorem sc_check_part:FnScope ["book", "known", "part", "number", "one", "x"] ["book", "known", "part"] (aJ (top 35)):=⟨rfl,rfl,rfl,by decide +kernel,rfl,by decide +kernel,by decide +kernel⟩
def iP:{b:(List D->Option D)->Sv // ∀ {P:U7} {w:World} {K:U3} {mg:Str->Option Value} {base:Heap},Tx P w K mg base->∀(R:List D->Option D) (j:Nat),3<=j->Fn P w K mg base "check_part" j ["book", "known", "part"] R->y6 P w K mg base ["book", "known", "part", "number", "one", "x"] "check_part" (top 35) j (b R)}:=⟨_,λT R j G ih N z A outer s H E q=>by have U:=cG q;have J:=sc_check_part.nd;have:=eP T;have:=gK T;have:=fK T;have:=dU T;have:=fH T;have:=gL T;have:=fx gO (i7.2 T);have:=fx cH (gU.2 T);exact⟨_,(c0 (cR (PD.b (wD T.k_CHECKS (.cons (Fn.mono (fK T) (by lia)) rfl (.cons (Fn.mono (dU T) (by lia)) rfl (.cons (Fn.mono (gL T) (by lia)) rfl (.cons (Fn.mono (gK T) (by lia)) rfl (.cons (Fn.mono (fH T) (by lia)) rfl (.cons (Fn.mono (eP T) (by lia)) rfl .nil)))))) q rfl (by trivial) (by trivial) (λρ ds h=>((lc (lc (lc l0))) ρ ds h)) (λ_ _=>rfl)))) (aL (lB [] [] (c0 (aK 5) (aL cR))))),rfl⟩⟩
def bQ:(List D->Option D)->Sv:=by exists iP
def iD:=dO 6 bQ 60
def iK:{g:(List D->Option D)->(List D->Option Str)->Xv // ∀ {P:U7} {w:World} {K:U3} {mg:Str->Option Value} {base:Heap},Tx P w K mg base->∀(R:List D->Option D) (G:List D->Option Str) (j:Nat),3<=j->Fn P w K mg base "check_part" j ["book", "known", "part"] R->FnX P w K mg base "check_part" j ["book", "known", "part"] R G->AY P w K mg base ["book", "known", "part", "number", "one", "x"] "check_part" (top 35) j (g R G)}:=⟨_,λT R G j N ih z U J A outer s H E q=>by have Y:=cG q;have W:=sc_check_part.nd;have:=eP T;have:=gK T;have:=fK T;have:=dU T;have:=fH T;have:=gL T;have:=fx gO (i7.2 T);have:=fx cH (gU.2 T);exact⟨_,(bT (O2:=[]) (O5 (BM T.k_CHECKS (.cons (FnX.mono (rX T) (by lia)) rfl (.cons (FnX.mono (oV T) (by lia)) rfl (.cons (FnX.mono (uD T) (by lia)) rfl (.cons (FnX.mono (uH T) (by lia)) rfl (.cons (FnX.mono (rO T) (by lia)) rfl (.cons (FnX.mono (pH T) (by lia)) rfl .nil)))))) q rfl (by trivial) (by trivial) (λρ ds h=>((lc (lc (lc l0))) ρ ds h)) (λ_ _=>rfl))) (cR (PD.b (wD T.k_CHECKS (.cons (Fn.mono (fK T) (by lia)) rfl (.cons (Fn.mono (dU T) (by lia)) rfl (.cons (Fn.mono (gL T) (by lia)) rfl (.cons (Fn.mono (gK T) (by lia)) rfl (.cons (Fn.mono (fH T) (by lia)) rfl (.cons (Fn.mono (eP T) (by lia)) rfl .nil)))))) q rfl (by trivial) (by trivial) (λρ ds h=>((lc (lc (lc l0))) ρ ds h)) (λ_ _=>rfl)))) (a9 (E4 (O1:=[]) PassesOwn.leaving rfl (by trivial) (by trivial) (c0 (aK 5) (aL cR)) (bT (O2:=[]) FQ (aK 5) (a9 (eQ z q rfl (by trivial) (λρ ds h=>((lc (lc (lc l0))) ρ ds h))))) rfl))),rfl⟩⟩
def fJ:(List D->Option D)->(List D->Option Str)->Xv:=by exists iK
def mH:=CH 6 bQ fJ 60
theorem mK{P:U7}{w:World}{K:U3}{mg:Str->Option Value}{base:Heap}(T:Tx P w K mg base):Fn P w K mg base "check_part" 64 ["book", "known", "part"] iD:=(uM (T.d ("check_part",35,["book", "known", "part"]) (by decide +kernel)) sc_check_part (iP.2 T) (iK.2 T) 60).1
theorem rV{P:U7}{w:World}{K:U3}{mg:Str->Option Value}{base:Heap}(T:Tx P w K mg base):FnX P w K mg base "check_part" 64 ["book", "known", "part"] iD mH:=(uM (T.d ("check_part",35,["book", "known", "part"]) (by decide +kernel)) sc_check_part (iP.2 T) (iK.2 T) 60).2
theorem sc_program:FnScope ["book", "heads", "body"] ["book", "heads", "body"] (aJ (top 30)):=⟨rfl,rfl,rfl,by decide +kernel,rfl,by decide +kernel,by decide +kernel⟩
def sR:{b:Sv // ∀ {P:U7} {w:World} {K:U3} {mg:Str->Option Value} {base:Heap},Tx P w K mg base->y6 P w K mg base ["book", "heads", "body"] "program" (top 30) 64 b}:=⟨_,λT G z A outer s H E q=>by have N:=cG q;have J:=sc_program.nd;have:=kZ T;have:=mK T;have:=mJ T;exact⟨_,(c0 cR (c0 cR (c0 (cR (PD.b (cD (mK T) (q.mono (by decide)) (oY (by trivial) (oY (PF.d (cA s ["x", "k"] [none,none])) (by trivial))) (lc (lc (lc l0)))))) (aR (lM (oY (ON hZ T.n My.boot_tuple (GG (PD.b (PF.d (cA s ["x", "k"] [none,none]))) (by trivial))) (by trivial)) (λρ ds h=>(by have:=(lc (lc l0)) ρ ds h;lia))))))),rfl⟩⟩
def tL:Sv:=by exists sR
def dQ:=bM 3 tL
def sM:{g:Xv // ∀ {P:U7} {w:World} {K:U3} {mg:Str->Option Value} {base:Heap},Tx P w K mg base->AY P w K mg base ["book", "heads", "body"] "program" (top 30) 64 g}:=⟨_,λT G z A outer s H E q=>by have N:=cG q;have J:=sc_program.nd;have:=kZ T;have:=mJ T;exact⟨_,(bT (O2:=[]) (eQ (pI T) (q.mono (by decide)) rfl (by trivial) (λρ ds h=>((lc (lc l0)) ρ ds h))) cR (bT (O2:=[]) (eQ (sA T) (q.mono (by decide)) rfl (by trivial) (λρ ds h=>((lc l0) ρ ds h))) cR (a9 (eQ (rV T) (q.mono (by decide)) rfl (oY (by trivial) (oY (PF.d (cA s ["x", "k"] [none,none])) (by trivial))) (λρ ds h=>((lc (lc (lc l0))) ρ ds h)))))),rfl⟩⟩
def BE:Xv:=by exists sM
def bY:=kR 3 BE
theorem yE{P:U7}{w:World}{K:U3}{mg:Str->Option Value}{base:Heap}(T:Tx P w K mg base):FnX P w K mg base "program" 65 ["book", "heads", "body"] dQ bY:=fB (T.d ("program",30,["book", "heads", "body"]) (by decide +kernel)) sc_program (sR.2 T) (sM.2 T)
def n5:Zt "_law_asked" ["tome", "handed", "body"] 66 7:=lV ["tome", "handed", "body", "found", "refused", "other", "e"] 70 λT s J U W=>by exact⟨_,(c0 (aK 3) (c0 (aK 4) (c0 (aK 5) (c0 (EG (nn:=7) (jv:=3) (ie:=6) (tl:=[("NoDeed",[(4,.lst [.bl true,.bl false,.bl false,.bl false]),(4,.lst [.bl true,.bl false,.bl false,.bl false,.bl false,.bl false,.bl true]),(5,.lst [.bl false,.bl false,.bl false,.bl false]),(5,.lst [.bl false,.bl false,.bl false,.bl false,.bl false,.bl false,.bl false]),(5,.lst [.bl false,.bl false,.bl false,.bl false,.bl false,.bl false,.bl false,.bl false])]),("NoHead",[(4,.lst [.bl true,.bl true,.bl false,.bl false]),(4,.lst [.bl true,.bl true,.bl false,.bl false,.bl false,.bl false,.bl false]),(5,.lst [.bl false,.bl false,.bl false,.bl false]),(5,.lst [.bl false,.bl false,.bl false,.bl false,.bl false,.bl false,.bl false]),(5,.lst [.bl false,.bl false,.bl false,.bl false,.bl false,.bl false,.bl false,.bl false])]),("NoKind",[(4,.lst [.bl true,.bl false,.bl false,.bl false]),(4,.lst [.bl true,.bl false,.bl false,.bl false,.bl false,.bl true,.bl false]),(5,.lst [.bl false,.bl false,.bl false,.bl false]),(5,.lst [.bl false,.bl false,.bl false,.bl false,.bl false,.bl false,.bl false]),(5,.lst [.bl false,.bl false,.bl false,.bl false,.bl false,.bl false,.bl false,.bl false])]),("NoName",[(4,.lst [.bl true,.bl false,.bl false,.bl true]),(4,.lst [.bl true,.bl false,.bl false,.bl true,.bl false,.bl false,.bl false]),(5,.lst [.bl false,.bl false,.bl false,.bl false]),(5,.lst [.bl false,.bl false,.bl false,.bl false,.bl false,.bl false,.bl false]),(5,.lst [.bl false,.bl false,.bl false,.bl false,.bl false,.bl false,.bl false,.bl false])]),("NoNumber",[(4,.lst [.bl true,.bl false,.bl false,.bl false]),(4,.lst [.bl true,.bl false,.bl false,.bl false,.bl true,.bl false,.bl false]),(5,.lst [.bl false,.bl false,.bl false,.bl false]),(5,.lst [.bl false,.bl false,.bl false,.bl false,.bl false,.bl false,.bl false]),(5,.lst [.bl false,.bl false,.bl false,.bl false,.bl false,.bl false,.bl false,.bl false])]),("TooBig",[(4,.lst [.bl true,.bl false,.bl true,.bl false]),(4,.lst [.bl true,.bl false,.bl true,.bl false,.bl false,.bl false,.bl false]),(5,.lst [.bl false,.bl false,.bl false,.bl false]),(5,.lst [.bl false,.bl false,.bl false,.bl false,.bl false,.bl false,.bl false]),(5,.lst [.bl false,.bl false,.bl false,.bl false,.bl false,.bl false,.bl false,.bl false])])]) (λ_ _ z=>z) rfl rfl rfl (yE T) (U.mono (by decide)) rfl (by trivial) (λρ ds h=>((lc (lc (lc l0))) ρ ds h)) (List.forall_mem_cons.mpr ⟨⟨_,T.t_NoDeed,λC0 ea oe N h0 k sv G=>My.kO "e" (λq=>(My.dJ (bs:=[true,false,false,false]) J rfl rfl (by decide) (My.bF (bs:=[true,false,false,false]) (My.aD (q.val rfl T.n sv) (My.aD (q.oth rfl (G "NoHead" (by decide))) (My.aD (q.oth rfl (G "TooBig" (by decide))) (My.aD (q.oth rfl (G "NoName" (by decide))) My.bG)))) (by decide)) (My.bV (as:=[true,false,false,false]) (bs:=[false,false,true]) J rfl rfl (VN rfl) (by decide) (My.bF (bs:=[false,false,true]) (My.aD (q.oth rfl (G "NoNumber" (by decide))) (My.aD (q.oth rfl (G "NoKind" (by decide))) (My.aD (q.self rfl h0) My.bG))) (by decide)) (by decide) (My.dJ (bs:=[false,false,false,false]) J rfl rfl (by decide) (My.bF (bs:=[false,false,false,false]) (My.aD (q.oth rfl (G "NoForm" (by decide))) (My.aD (q.oth rfl (G "NoMake" (by decide))) (My.aD (q.oth rfl (G "NoRoad" (by decide))) (My.aD (q.oth rfl (G "NoText" (by decide))) My.bG)))) (by decide)) (My.bV (as:=[false,false,false,false]) (bs:=[false,false,false]) J rfl rfl (VN rfl) (by decide) (My.bF (bs:=[false,false,false]) (My.aD (q.oth rfl (G "NoWheel" (by decide))) (My.aD (q.oth rfl (G "NoReading" (by decide))) (My.aD (q.oth rfl (G "OutOfSteps" (by decide))) My.bG))) (by decide)) (by decide) (My.bV (as:=[false,false,false,false,false,false,false]) (bs:=[false]) J rfl rfl (VN rfl) (by decide) (My.bF (bs:=[false]) (My.aD (q.oth rfl (G "Uneven" (by decide))) My.bG) (by decide)) (by decide) My.HR.nil)))))) ⟨N,k,rfl,VN rfl,rfl,T.n,rfl,rfl⟩⟩,List.forall_mem_cons.mpr ⟨⟨_,T.t_NoHead,λC0 ea oe N h0 k sv G=>My.kO "e" (λq=>(My.dJ (bs:=[true,true,false,false]) J rfl rfl (by decide) (My.bF (bs:=[true,true,false,false]) (My.aD (q.val rfl T.n sv) (My.aD (q.self rfl h0) (My.aD (q.oth rfl (G "TooBig" (by decide))) (My.aD (q.oth rfl (G "NoName" (by decide))) My.bG)))) (by decide)) (My.bV (as:=[true,true,false,false]) (bs:=[false,false,false]) J rfl rfl (VN rfl) (by decide) (My.bF (bs:=[false,false,false]) (My.aD (q.oth rfl (G "NoNumber" (by decide))) (My.aD (q.oth rfl (G "NoKind" (by decide))) (My.aD (q.oth rfl (G "NoDeed" (by decide))) My.bG))) (by decide)) (by decide) (My.dJ (bs:=[false,false,false,false]) J rfl rfl (by decide) (My.bF (bs:=[false,false,false,false]) (My.aD (q.oth rfl (G "NoForm" (by decide))) (My.aD (q.oth rfl (G "NoMake" (by decide))) (My.aD (q.oth rfl (G "NoRoad" (by decide))) (My.aD (q.oth rfl (G "NoText" (by decide))) My.bG)))) (by decide)) (My.bV (as:=[false,false,false,false]) (bs:=[false,false,false]) J rfl rfl (VN rfl) (by decide) (My.bF (bs:=[false,false,false]) (My.aD (q.oth rfl (G "NoWheel" (by decide))) (My.aD (q.oth rfl (G "NoReading" (by decide))) (My.aD (q.oth rfl (G "OutOfSteps" (by decide))) My.bG))) (by decide)) (by decide) (My.bV (as:=[false,false,false,false,false,false,false]) (bs:=[false]) J rfl rfl (VN rfl) (by decide) (My.bF (bs:=[false]) (My.aD (q.oth rfl (G "Uneven" (by decide))) My.bG) (by decide)) (by decide) My.HR.nil)))))) ⟨N,k,rfl,VN rfl,rfl,T.n,rfl,rfl⟩⟩,List.forall_mem_cons.mpr ⟨⟨_,T.t_NoKind,λC0 ea oe N h0 k sv G=>My.kO "e" (λq=>(My.dJ (bs:=[true,false,false,false]) J rfl rfl (by decide) (My.bF (bs:=[true,false,false,false]) (My.aD (q.val rfl T.n sv) (My.aD (q.oth rfl (G "NoHead" (by decide))) (My.aD (q.oth rfl (G "TooBig" (by decide))) (My.aD (q.oth rfl (G "NoName" (by decide))) My.bG)))) (by decide)) (My.bV (as:=[true,false,false,false]) (bs:=[false,true,false]) J rfl rfl (VN rfl) (by decide) (My.bF (bs:=[false,true,false]) (My.aD (q.oth rfl (G "NoNumber" (by decide))) (My.aD (q.self rfl h0) (My.aD (q.oth rfl (G "NoDeed" (by decide))) My.bG))) (by decide)) (by decide) (My.dJ (bs:=[false,false,false,false]) J rfl rfl (by decide) (My.bF (bs:=[false,false,false,false]) (My.aD (q.oth rfl (G "NoForm" (by decide))) (My.aD (q.oth rfl (G "NoMake" (by decide))) (My.aD (q.oth rfl (G "NoRoad" (by decide))) (My.aD (q.oth rfl (G "NoText" (by decide))) My.bG)))) (by decide)) (My.bV (as:=[false,false,false,false]) (bs:=[false,false,false]) J rfl rfl (VN rfl) (by decide) (My.bF (bs:=[false,false,false]) (My.aD (q.oth rfl (G "NoWheel" (by decide))) (My.aD (q.oth rfl (G "NoReading" (by decide))) (My.aD (q.oth rfl (G "OutOfSteps" (by decide))) My.bG))) (by decide)) (by decide) (My.bV (as:=[false,false,false,false,false,false,false]) (bs:=[false]) J rfl rfl (VN rfl) (by decide) (My.bF (bs:=[false]) (My.aD (q.oth rfl (G "Uneven" (by decide))) My.bG) (by decide)) (by decide) My.HR.nil)))))) ⟨N,k,rfl,VN rfl,rfl,T.n,rfl,rfl⟩⟩,List.forall_mem_cons.mpr ⟨⟨_,T.t_NoName,λC0 ea oe N h0 k sv G=>My.kO "e" (λq=>(My.dJ (bs:=[true,false,false,true]) J rfl rfl (by decide) (My.bF (bs:=[true,false,false,true]) (My.aD (q.val rfl T.n sv) (My.aD (q.oth rfl (G "NoHead" (by decide))) (My.aD (q.oth rfl (G "TooBig" (by decide))) (My.aD (q.self rfl h0) My.bG)))) (by decide)) (My.bV (as:=[true,false,false,true]) (bs:=[false,false,false]) J rfl rfl (VN rfl) (by decide) (My.bF (bs:=[false,false,false]) (My.aD (q.oth rfl (G "NoNumber" (by decide))) (My.aD (q.oth rfl (G "NoKind" (by decide))) (My.aD (q.oth rfl (G "NoDeed" (by decide))) My.bG))) (by decide)) (by decide) (My.dJ (bs:=[false,false,false,false]) J rfl rfl (by decide) (My.bF (bs:=[false,false,false,false]) (My.aD (q.oth rfl (G "NoForm" (by decide))) (My.aD (q.oth rfl (G "NoMake" (by decide))) (My.aD (q.oth rfl (G "NoRoad" (by decide))) (My.aD (q.oth rfl (G "NoText" (by decide))) My.bG)))) (by decide)) (My.bV (as:=[false,false,false,false]) (bs:=[false,false,false]) J rfl rfl (VN rfl) (by decide) (My.bF (bs:=[false,false,false]) (My.aD (q.oth rfl (G "NoWheel" (by decide))) (My.aD (q.oth rfl (G "NoReading" (by decide))) (My.aD (q.oth rfl (G "OutOfSteps" (by decide))) My.bG))) (by decide)) (by decide) (My.bV (as:=[false,false,false,false,false,false,false]) (bs:=[false]) J rfl rfl (VN rfl) (by decide) (My.bF (bs:=[false]) (My.aD (q.oth rfl (G "Uneven" (by decide))) My.bG) (by decide)) (by decide) My.HR.nil)))))) ⟨N,k,rfl,VN rfl,rfl,T.n,rfl,rfl⟩⟩,List.forall_mem_cons.mpr ⟨⟨_,T.t_NoNumber,λC0 ea oe N h0 k sv G=>My.kO "e" (λq=>(My.dJ (bs:=[true,false,false,false]) J rfl rfl (by decide) (My.bF (bs:=[true,false,false,false]) (My.aD (q.val rfl T.n sv) (My.aD (q.oth rfl (G "NoHead" (by decide))) (My.aD (q.oth rfl (G "TooBig" (by decide))) (My.aD (q.oth rfl (G "NoName" (by decide))) My.bG)))) (by decide)) (My.bV (as:=[true,false,false,false]) (bs:=[true,false,false]) J rfl rfl (VN rfl) (by decide) (My.bF (bs:=[true,false,false]) (My.aD (q.self rfl h0) (My.aD (q.oth rfl (G "NoKind" (by decide))) (My.aD (q.oth rfl (G "NoDeed" (by decide))) My.bG))) (by decide)) (by decide) (My.dJ (bs:=[false,false,false,false]) J rfl rfl (by decide) (My.bF (bs:=[false,false,false,false]) (My.aD (q.oth rfl (G "NoForm" (by decide))) (My.aD (q.oth rfl (G "NoMake" (by decide))) (My.aD (q.oth rfl (G "NoRoad" (by decide))) (My.aD (q.oth rfl (G "NoText" (by decide))) My.bG)))) (by decide)) (My.bV (as:=[false,false,false,false]) (bs:=[false,false,false]) J rfl rfl (VN rfl) (by decide) (My.bF (bs:=[false,false,false]) (My.aD (q.oth rfl (G "NoWheel" (by decide))) (My.aD (q.oth rfl (G "NoReading" (by decide))) (My.aD (q.oth rfl (G "OutOfSteps" (by decide))) My.bG))) (by decide)) (by decide) (My.bV (as:=[false,false,false,false,false,false,false]) (bs:=[false]) J rfl rfl (VN rfl) (by decide) (My.bF (bs:=[false]) (My.aD (q.oth rfl (G "Uneven" (by decide))) My.bG) (by decide)) (by decide) My.HR.nil)))))) ⟨N,k,rfl,VN rfl,rfl,T.n,rfl,rfl⟩⟩,List.forall_mem_cons.mpr ⟨⟨_,T.t_TooBig,λC0 ea oe N h0 k sv G=>My.kO "e" (λq=>(My.dJ (bs:=[true,false,true,false]) J rfl rfl (by decide) (My.bF (bs:=[true,false,true,false]) (My.aD (q.val rfl T.n sv) (My.aD (q.oth rfl (G "NoHead" (by decide))) (My.aD (q.self rfl h0) (My.aD (q.oth rfl (G "NoName" (by decide))) My.bG)))) (by decide)) (My.bV (as:=[true,false,true,false]) (bs:=[false,false,false]) J rfl rfl (VN rfl) (by decide) (My.bF (bs:=[false,false,false]) (My.aD (q.oth rfl (G "NoNumber" (by decide))) (My.aD (q.oth rfl (G "NoKind" (by decide))) (My.aD (q.oth rfl (G "NoDeed" (by decide))) My.bG))) (by decide)) (by decide) (My.dJ (bs:=[false,false,false,false]) J rfl rfl (by decide) (My.bF (bs:=[false,false,false,false]) (My.aD (q.oth rfl (G "NoForm" (by decide))) (My.aD (q.oth rfl (G "NoMake" (by decide))) (My.aD (q.oth rfl (G "NoRoad" (by decide))) (My.aD (q.oth rfl (G "NoText" (by decide))) My.bG)))) (by decide)) (My.bV (as:=[false,false,false,false]) (bs:=[false,false,false]) J rfl rfl (VN rfl) (by decide) (My.bF (bs:=[false,false,false]) (My.aD (q.oth rfl (G "NoWheel" (by decide))) (My.aD (q.oth rfl (G "NoReading" (by decide))) (My.aD (q.oth rfl (G "OutOfSteps" (by decide))) My.bG))) (by decide)) (by decide) (My.bV (as:=[false,false,false,false,false,false,false]) (bs:=[false]) J rfl rfl (VN rfl) (by decide) (My.bF (bs:=[false]) (My.aD (q.oth rfl (G "Uneven" (by decide))) My.bG) (by decide)) (by decide) My.HR.nil)))))) ⟨N,k,rfl,VN rfl,rfl,T.n,rfl,rfl⟩⟩,λ_ z=>nomatch z⟩⟩⟩⟩⟩⟩) rfl J rfl rfl (by decide) rfl rfl (by decide) (by decide)) aR)))),rfl⟩
def vX:Sv:=by exists n5
def gM:=bM 7 vX
def gI:Zt "_law_wrong_heads" ["names", "pairs", "kinds", "cell"] 2 6:=lV ["names", "pairs", "kinds", "cell", "near", "at"] 69 λT s q G z=>by have:=fx dB (dA.2 T);have:=fx cZ (dC.2 T);exact⟨_,(c0 (aK 4) (c0 (aW (aR (PF.d (cA s ["k", "names"] [none,some 0])))) (c0 (aK 5) (c0 (aW aR) (c0 (aW aR) aR))))),rfl⟩
def bN:Sv:=by exists gI
def cK:=bM 6 bN
def LA:{b:Sv // ∀ {P:U7} {w:World} {K:U3} {mg:Str->Option Value} {base:Heap},Tx P w K mg base->y6 P w K mg base ["script", "tome", "names", "pairs", "room", "state", "due", "handed", "found", "refused", "other"] "law" s_law 66 b}:=⟨_,λT G z A outer s H E q=>by have N:=cG q;have J:=sc_law.nd;have:=fx eY (jD.2 T);have:=fx gM (n5.2 T);have:=fx lJ (pL.2 T);have:=fx lG (pZ.2 T);have:=fx bJ (cQ.2 T);have:=fx jQ (oC.2 T);have:=fx cK (gI.2 T);exact⟨_,(c0 (aK 1) (c0 (aK 2) (c0 (aK 3) (c0 (aK 4) (c0 (aW (aL (aK 4))) (c0 (aK 5) (c0 (aK 6) (c0 (aW (aL (aK 6))) (c0 (aW (c0 (aK 3) (aL (aK 6)))) (c0 (aK 7) (c0 (mY (by trivial) (mX (My.qY (n:=3) rfl (by trivial)))) (c0 (aW aR) (c0 (aW (aR (yI (vF (yQ q.units) (by trivial) (by trivial) (nQ _)) (by trivial)))) (aR (yI (vF (yQ q.units) (by trivial) (PD.b (PF.d (cA s ["k", "due"] [none,some 6]))) (nQ _)) (FL (vF (yQ q.units) (by trivial) (PD.b (PF.d (E2 (by trivial) (by trivial)))) (nQ _)))))))))))))))))),rfl⟩⟩
def KY:Sv:=by exists LA
theorem dM(ns:List Int):∃f:Int->Int,∀k:Int,0<=k->k<=1000->bJ [.lst (ns.map .int),.int k]=some (.int (f k))/\0<=f k/\f k<10^60:=by
 have h:∀k:Int,∃c:Int,0<=k->k<=1000->bJ [.lst (ns.map .int),.int k]=some (.int c)/\0<=c/\c<10^60:=λk=>by
  by_cases h0:0<=k
  ·by_cases h1:k<=1000
   ·by_cases G:k<(ns.length:Int)
    ·obtain⟨c,W,_⟩:=gB h0 G
     have c0:=VB c (show(10^60:Int)≠0 by decide +kernel);have N:=VD c (show(0:Int)<10^60 by decide +kernel);refine⟨c%10^60,λ_ _=>⟨aM ?_,c0,N⟩⟩;simp_all[iW,aA,G,W,gT,aF]
    ·have fin:∀y:Int,(0<=y%2147483647/11)/\y%2147483647/11<10^60:=λy=>by
      have a:=VB y (show(2147483647:Int)≠0 by decide);have b:=VD y (show(0:Int)<2147483647 by decide);generalize y%2147483647=z at a b;have:(10:Int)^60=1000000000000000000000000000000000000000000000000000000000000:=by decide +kernel
      lia
     have J:dE (.int k) (.int k)=some (.int (k*k)):=dI (by lia) (by lia) (by lia) (by lia);have b2:=FJ (show -(10000:Int)<k by lia) (show k<10000 by lia) (show -(10000:Int)<k by lia) (show k<10000 by lia);generalize k*k=p at J b2;by_cases U:(0:Int)<(ns.length:Int)
     ·have q:0<ns.length:=by lia
      have m5:dE (.int 5) (.int k)=some (.int (5*k)):=dI (by decide +kernel) (by decide +kernel) (by lia) (by lia);have i0:=VB k (VV U);have i1:=VD k U;obtain⟨c,W,_⟩:=gB i0 i1;have c0:=VB c (show(1000003:Int)≠0 by decide);have N:=VD c (show(0:Int)<1000003 by decide);generalize hx:c%1000003=x at c0 N;have m3:dE (.int (5*k)) (.int x)=some (.int (5*k*x)):=dI (by lia) (by lia) (by lia) (by lia);have b3:=FJ (show -(100000:Int)<5*k by lia) (show 5*k<100000 by lia) (show -(1000000000:Int)<x by lia) (show x<1000000000 by lia);generalize 5*k*x=y at m3 b3;have Y:dE (.int (3+p+y)) (.int 69621)=some (.int ((3+p+y)*69621)):=dI (by lia) (by lia) (by decide +kernel) (by decide +kernel);refine⟨(3+p+y)*69621%2147483647/11,λ_ _=>⟨aM ?_,(fin _).1,(fin _).2⟩⟩;simp_all[iW,aA,G,J,q,m5,W,aF U,aF,aQ,hx,m3,Y]
     ·have q:¬ 0<ns.length:=by lia
      have Y:dE (.int (3+p)) (.int 69621)=some (.int ((3+p)*69621)):=dI (by lia) (by lia) (by decide +kernel) (by decide +kernel);refine⟨(3+p)*69621%2147483647/11,λ_ _=>⟨aM ?_,(fin _).1,(fin _).2⟩⟩;simp_all[iW,aA,G,J,q,aF,aQ,Y]
   ·exact⟨0,λ_ z=>absurd z h1⟩
  ·exact⟨0,λz=>absurd z h0⟩
 exact⟨λk=>(h k).choose,λk=>(h k).choose_spec⟩
theorem GX{ss:List Str}(h:∀s∈ss,∃n,s=⟨#[n]⟩):(ss.map (·.length)).sum=ss.length:=by
 induction ss with
 | nil=>rfl
 | cons s ss ih=>
  obtain⟨n,rfl⟩:=h s (VR ..);rw[V0,List.sum_cons,ih λt q=>h t (VW _ q),WI];show 1+ss.length=ss.length+1
  lia
theorem iL(n:Nat):bH 0 1 n=((VO n).map λ(j:Nat)=>(j:Int)).map D.int:=by
 unfold bH;rw[V7];refine List.map_congr_left λa _=>?_
 show D.int _=D.int _;have:(0:Int)+(a:Int)*1=(a:Int):=by lia
 rw[this]
noncomputable def sg(S:Str)(i:Int):Nat:=S.cps.toList.getD i.toNat 0
theorem HG(J:z.length<=1000)(h0:0<=i)(h:i<(z.length:Int)):aP (.str z) (.int i)=some (.str ⟨#[sg z i]⟩):=by
 obtain⟨j,rfl⟩:∃j:Nat,i=(j:Int):=⟨i.toNat,by lia⟩;have q:j<z.cps.toList.length:=by rw[W4];show j<z.length;lia
 have e:fF z.cps.toList (j:Int)=some z.cps.toList[j]:=bD (by simp_all[q]);have G:sg z (j:Int)=z.cps.toList[j]:=by
  unfold sg;rw[X7,X1,WE q];rfl
 rw[G];show(if aZ z.length then(fF z.cps.toList (j:Int)).map (λc=>D.str ⟨#[c]⟩)else none)=_;rw[if_pos (show aZ z.length=true from decide_eq_true (by lia)),e];rfl
theorem join_ones:∀l:List Nat,(X9 "" (l.map λg=>(⟨#[g]⟩:Str))).cps.toList=l
 | []=>rfl
 | [g]=>rfl
 | g::g'::l=>by
  have ih:=join_ones (g'::l);show((⟨#[g]⟩:Str) ++ "" ++ X9 "" ((g'::l).map λg=>(⟨#[g]⟩:Str))).cps.toList=_;have e:∀a b:Str,(a++b).cps=a.cps++b.cps:=λ_ _=>rfl
  rw[e,e,Array.toList_append,Array.toList_append,ih];rfl
theorem EM:Txt.join sep ys=X9 sep ys:=by
 have:=join_closes (sep:=sep) (sep':=sep) (ys:=ys) rfl;simpa using this
theorem EK(l:List Nat):((l.map λg=>(⟨#[g]⟩:Str)).map (·.length)).sum=l.length:=by
 rw[GX (ss:=l.map λg=>(⟨#[g]⟩:Str)) λs hs=>by obtain⟨g,_,rfl⟩:=List.mem_map.mp hs;exact⟨g,rfl⟩,VL]
noncomputable def S1:Str := "abcdfghjklmnopqrstuvwxyz"
noncomputable def S2:Str := "abcdfghjklmnopqrstuvwxyz" ++ "ei"
theorem u5:S1.length=24:=by decide +kernel
theorem FN:S2.length=26:=by decide +kernel
theorem LH:S1.cps.toList.Nodup:=by decide +kernel
theorem PL:S2.cps.toList.Nodup:=by decide +kernel
theorem yS{S:Str}(h:S.cps.toList.Nodup){i j:Int}(J:0<=i)(W:i<(S.length:Int))(N:0<=j)(U:j<(S.length:Int))(e:sg S i=sg S j):i=j:=by
 have G:i.toNat<S.cps.toList.length:=by rw[W4];show i.toNat<S.length;lia
 have q:j.toNat<S.cps.toList.length:=by rw[W4];show j.toNat<S.length;lia
 unfold sg at e;rw[X1,WE G,X1,WE q]at e;have z:S.cps.toList[i.toNat]=S.cps.toList[j.toNat]:=e;have:=(ZX h).mp z
 lia
noncomputable def low(c:Nat):Bool:=decide (97<=c) && decide (c<=122)
def aU(x:Str):Bool:=decide (1<=x.length) && decide (x.length<=8) && (x.cps.toList.all low) && !((["let", "in", "pick", "again"]:List Str).contains x)
theorem NW:S1.cps.toList.all low=true:=by decide +kernel
theorem LZ:S2.cps.toList.all low=true:=by decide +kernel
theorem K7:101∉S1.cps.toList/\105∉S1.cps.toList:=by decide +kernel
theorem HN{s S:Str}(h1:1<=s.length/\s.length<=8)(q:∀c∈s.cps.toList,c∈S.cps.toList)(J:S=S1\/(S=S2/\6<=s.length)):aU s=true:=by
 have G:s.cps.toList.all low=true:=by
  rw[ZK];intro c U;have:=q c U;rcases J with rfl|⟨rfl,_⟩
  ·exact List.all_eq_true.mp NW c this
  ·exact List.all_eq_true.mp LZ c this
 have hw:∀w:Str,(101∈w.cps.toList\/105∈w.cps.toList)->w.length<=5->s≠w:=λw hw G e=>by
  subst e;rcases J with rfl|⟨rfl,W⟩
  ·rcases hw with z|z
   ·exact K7.1 (q _ z)
   ·exact K7.2 (q _ z)
  ·lia
 have N:(["let", "in", "pick", "again"]:List Str).contains s=false:=by
  rw[Y1];intro z;have:=List.contains_iff_mem.mp z;simp[-U5,-U6,aC,aG]at this;rcases this with e|e|e|e
  ·exact hw _ (by decide +kernel) (by decide +kernel) e
  ·exact hw _ (by decide +kernel) (by decide +kernel) e
  ·exact hw _ (by decide +kernel) (by decide +kernel) e
  ·exact hw _ (by decide +kernel) (by decide +kernel) e
 unfold aU;rw[G,N,decide_eq_true h1.1,decide_eq_true h1.2];rfl
def RD(x n:Int)(s:Str):Prop:=((x%3=0->(s.length:Int)=1+n%8/\∃b:Int,b=(x/(31+7*(n%8))+n%8*(n%8))%24/\s.cps.toList[(n%8).toNat]?=some (sg S1 ((b+n/8)%24)))/\(¬ x%3=0->∃(S:Str) (L a b:Int),((S=S1/\L=24/\¬ 5<1+x/3%8)\/(S=S2/\L=26/\5<1+x/3%8))/\a=x/24%(1+x/3%8)/\b=(x/(31+7*a)+a*a)%L/\s.cps.toList[a.toNat]?=some (sg S ((b+n)%L))))/\aU s=true
theorem MX(hn:0<=n/\n<=15)(hm:0<=m/\m<=15)(a:RD x n s)(b:RD x m s):n=m:=by
 have a:=a.1;have b:=b.1;by_cases h:x%3=0
 ·obtain⟨l1,b1,W,Y⟩:=a.1 h
  obtain⟨l2,b2,G,v2⟩:=b.1 h;have U:n%8=m%8:=by lia
  rw[U]at W Y;rw[Y]at v2;have eb:b1=b2:=by rw[W,G]
  subst eb;have e3:=VX v2;have l:=u5;have:=yS LH (VB _ (by decide)) (by rw[l];exact VD _ (by decide)) (VB _ (by decide)) (by rw[l];exact VD _ (by decide)) e3
  lia
 ·obtain⟨S,L,p,q,hS,rfl,rfl,e⟩:=a.2 h
  obtain⟨S',L',p',q',N,rfl,rfl,e'⟩:=b.2 h;rw[e]at e';have G:=VX e';rcases hS with⟨rfl,rfl,z⟩|⟨rfl,rfl,z⟩
  ·rcases N with⟨rfl,rfl,J⟩|⟨rfl,rfl,J⟩
   ·generalize (x/(31+7*(x/24%(1+x/3%8)))+x/24%(1+x/3%8)*(x/24%(1+x/3%8)))%24=q at G
    have l:=u5;have:=yS LH (VB _ (by decide)) (by rw[l];exact VD _ (by decide)) (VB _ (by decide)) (by rw[l];exact VD _ (by decide)) G
    lia
   ·exact absurd J z
  ·rcases N with⟨rfl,rfl,J⟩|⟨rfl,rfl,J⟩
   ·exact absurd z J
   ·generalize (x/(31+7*(x/24%(1+x/3%8)))+x/24%(1+x/3%8)*(x/24%(1+x/3%8)))%26=q at G
    have l:=FN;have:=yS PL (VB _ (by decide)) (by rw[l];exact VD _ (by decide)) (VB _ (by decide)) (by rw[l];exact VD _ (by decide)) G
    lia
theorem vZ{c n:Int}(h0:0<=n)(h1:n<=1000):∃s:Str,cP [.int c,.int n]=some (.str s)/\RD (c%10^9) n s:=by
 suffices h:∃d,cP [.int c,.int n]=some d/\∃s:Str,d=.str s/\RD (c%10^9) n s by
  obtain⟨d,e,s,rfl,h⟩:=h;exact⟨s,e,h⟩
 refine i8 ?_;unfold pW;have c0:=VB c (show(10^9:Int)≠0 by decide);have c1:=VD c (show(0:Int)<10^9 by decide);rw[aE (aN (d:=.int (c%10^9)) (by simp_all[aA,gT,aF]))];generalize c%10^9=x at c0 c1;have m0:=VB (x/3) (show(8:Int)≠0 by decide);have m1:=VD (x/3) (show(0:Int)<8 by decide);rw[aE (aN (d:=.int (1+x/3%8)) (by simp_all[aA,aQ,aF]))];generalize hm:1+x/3%8=many;rw[aE (aN (d:=.str "abcdfghjklmnopqrstuvwxyz") (by simp[-U5,-U6,aC,aG]))];refine kM (λρ=>∃(S:Str) (L:Int),(S.length:Int)=L/\24<=L/\L<=26/\((x%3=0/\S=S1/\L=24)\/(¬ x%3=0/\((S=S1/\L=24/\¬ 5<many)\/(S=S2/\L=26/\5<many))))/\ρ=[some (.int x),some (.int n),some (.int many),some (.str S),none,none]) ?_ ?_
 ·have x0:=VB x (show(3:Int)≠0 by decide)
  by_cases q:0<x%3
  ·by_cases h5:5<many
   ·refine⟨_,?_,S2,26,by rw[FN];rfl,by decide,by decide,.inr ⟨by lia,.inr ⟨rfl,rfl,h5⟩⟩,rfl⟩
    have z:aZ (("abcdfghjklmnopqrstuvwxyz" : Str).length+("ei" : Str).length)=true:=by decide
    simp_all[aA,aF,q,h5,z,S2]
   ·exact⟨_,by simp_all[aA,aF,q,h5,S1],S1,24,by rw[u5];rfl,by decide,by decide,.inr ⟨by lia,.inl ⟨rfl,rfl,h5⟩⟩,rfl⟩
  ·exact⟨_,by simp_all[aA,aF,q,S1],S1,24,by rw[u5];rfl,by decide,by decide,.inl ⟨by lia,rfl,rfl⟩,rfl⟩
 ·rintro ρ ⟨S,L,ai,s1,s2,hS,rfl⟩
  have sL:g5 [.str S]=some (.int L):=by rw[<- ai];exact if_pos (decide_eq_true (by lia))
  have sp:(0:Int)<L:=by lia
  have sl:(S.length:Int)=L:=ai;have r8:dH [.int 8]=some (bH 0 1 8):=fR (n:=8) (by decide);have el:bA (aY 0) gG (a6 jI (a6 gP (a6 oX (aH 1) (a6 gP (eC (.int 31)) (a6 dE (eC (.int 7)) (aH 0)))) (a6 dE (aH 0) (aH 0))) (aS g5 (aI (aH 2) bC))) (bH 0 1 8) [none,some (.int x),some (.str S)]=some (((VO 8).map λ(k:Nat)=>(x/(31+7*(k:Int))+(k:Int)*(k:Int))%L).map .int):=by
   have:=j5 (K:=8) (f:=a6 jI (a6 gP (a6 oX (aH 1) (a6 gP (eC (.int 31)) (a6 dE (eC (.int 7)) (aH 0)))) (a6 dE (aH 0) (aH 0))) (aS g5 (aI (aH 2) bC))) (rest:=[some (.int x),some (.str S)]) (F:=λi=>.int ((x/(31+7*i)+i*i)%L)) (λi i0 i1=>by
    have q1:dE (.int 7) (.int i)=some (.int (7*i)):=dI (by decide +kernel) (by decide +kernel) (by lia) (by lia);have q2:dE (.int i) (.int i)=some (.int (i*i)):=dI (by lia) (by lia) (by lia) (by lia);have q3:oX (.int x) (.int (31+7*i))=some (.int (x/(31+7*i))):=aQ (by lia) (by lia);simp_all[q1,q2,q3,sL,aF sp]) (VO 8) none λk U=>List.mem_range.mp U
   rw[V7];have er:bH 0 1 8=(VO 8).map λ(k:Nat)=>D.int (k:Int):=by
    rw[iL,V7];rfl
   rw[er];exact this
  have aj:∀i∈(VO 8).map λ(k:Nat)=>(x/(31+7*(k:Int))+(k:Int)*(k:Int))%L,0<=i/\i<L:=λi hi=>by
   obtain⟨k,_,rfl⟩:=List.mem_map.mp hi;exact⟨VB _ (VV sp),VD _ sp⟩
  have ab:∀a:Int,0<=a->a<8->((VO 8).map λ(k:Nat)=>(x/(31+7*(k:Int))+(k:Int)*(k:Int))%L)[a.toNat]?=some ((x/(31+7*a)+a*a)%L):=λa a0 a8=>by
   obtain⟨j,rfl⟩:∃j:Nat,a=(j:Int):=⟨a.toNat,by lia⟩;rw[X7,VM,zaV (by lia)];rfl
  have l8:((VO 8).map λ(k:Nat)=>(x/(31+7*(k:Int))+(k:Int)*(k:Int))%L).length=8:=by simp[-U5,-U6,aC,aG]
  rw[aE (aN (d:=.lst (((VO 8).map λ(k:Nat)=>(x/(31+7*(k:Int))+(k:Int)*(k:Int))%L).map .int)) (by
   simp only[q_comp,q_lR,q_lcons,q_lnil,q_c,aC,r8,b9,aZ,g6];exact congrArg (Option.map D.lst) el))]
  generalize ((VO 8).map λ(k:Nat)=>(x/(31+7*(k:Int))+(k:Int)*(k:Int))%L)=is at aj ab l8;refine kM (λρ=>∃(G:List Int) (m:Int) (o:Option D),0<=m/\m<=8/\G.length=8/\(∀j∈G,0<=j/\j<L)/\(x%3=0->(m=1+n%8/\S=S1/\L=24)/\G[(n%8).toNat]?=some (((x/(31+7*(n%8))+(n%8)*(n%8))%24+n/8)%24))/\(¬ x%3=0->m=many/\G[(x/24%many).toNat]?=some (((x/(31+7*(x/24%many))+(x/24%many)*(x/24%many))%L+n)%L))/\ρ=[some (.int x),some (.int n),some (.int m),some (.str S),some (.lst (G.map .int)),o]) ?_ ?_
  ·have put:∀k y:Int,0<=k->k<8->(is.set k.toNat (y%L)).length=8/\(∀j∈is.set k.toNat (y%L),0<=j/\j<L)/\w9 (.lst (is.map .int)) (.int k) (.int (y%L))=some (.lst ((is.set k.toNat (y%L)).map .int)):=λk y k0 k8=>by
    refine⟨by simp_all[l8],λj W=>?_,?_⟩
    ·rcases za2 W with z|z
     ·exact aj j z
     ·rw[z];exact⟨VB _ (VV sp),VD _ sp⟩
    ·rw[fD k0 (by simp_all[l8];lia),List.map_set]
   by_cases q:x%3=0
   ·have n0:=VB n (show(8:Int)≠0 by decide)
    have n1:=VD n (show(0:Int)<8 by decide);obtain⟨v,hv,J⟩:=gB (ns:=is) (k:=1+n%8-1) (by lia) (by rw[l8];lia);have aa:S=S1/\L=24:=by
     rcases hS with z|z
     ·exact z.2
     ·exact absurd q z.1
    have U:1+n%8-1=n%8:=by lia
    have ha:=ab (n%8) n0 n1;rw[U,ha]at J;have Y:=VX J;obtain⟨j8,W,ej⟩:=put (1+n%8-1) (v+n/8) (by lia) (by lia);refine⟨_,?_,is.set (1+n%8-1).toNat ((v+n/8)%L),1+n%8,none,by lia,by lia,j8,W,λ_=>⟨⟨rfl,aa.1,aa.2⟩,by rw[U,ZY (by rw[l8];lia),<- Y,aa.2]⟩,λz=>absurd q z,rfl⟩;simp_all[aF,q,hv,aQ,sL,aF sp,ej]
   ·have mp:0<many:=by lia
    have a0:=VB (x/24) (VV mp);have a1:=VD (x/24) mp;have ha:=ab (x/24%many) a0 (by lia);obtain⟨v,hv,J⟩:=gB (ns:=is) (k:=x/24%many) a0 (by rw[l8];lia);rw[ha]at J;have Y:=VX J;obtain⟨j8,W,ej⟩:=put (x/24%many) (v+n) a0 (by lia);refine⟨_,?_,is.set (x/24%many).toNat ((v+n)%L),many,some (.int (x/24%many)),by lia,by lia,j8,W,λz=>absurd z q,λ_=>⟨rfl,?_⟩,rfl⟩
    ·simp_all[aF,q,aF mp,hv,aQ,sL,aF sp,ej]
    ·rw[ZY (by rw[l8];lia),Y]
  ·rintro ρ ⟨G,m,o,m0,m8,j8,W,hA,hB,rfl⟩
   have rm:dH [.int m]=some (bH 0 1 m.toNat):=fX m0 (by lia);have ed:=j5 (K:=m.toNat) (f:=a6 aP (aH 1) (a6 aP (aH 2) (aH 0))) (rest:=[some (.str S),some (.lst (G.map .int))]) (F:=λi=>.str ⟨#[sg S (G.getD i.toNat 0)]⟩) (λi i0 i1=>by
    obtain⟨v,hv,J⟩:=gB (ns:=G) (k:=i) i0 (by rw[j8];lia);have b:=W v (WR J);have e:G.getD i.toNat 0=v:=by rw[X1,J];rfl
    have ar:=HG (z:=S) (by lia) b.1 (by rw[sl];exact b.2);rw[e];simp_all[hv,ar]) (VO m.toNat) none λk U=>List.mem_range.mp U
   have er:bH 0 1 m.toNat=(VO m.toNat).map λ(k:Nat)=>D.int (k:Int):=by
    rw[iL,V7];rfl
   have es:((VO m.toNat).map λ(k:Nat)=>D.str ⟨#[sg S (G.getD ((k:Int)).toNat 0)]⟩)=(((VO m.toNat).map λ(k:Nat)=>sg S (G.getD k 0)).map λg=>(⟨#[g]⟩:Str)).map .str:=by
    rw[V7,V7];rfl
   rw[<- er,es]at ed;have hl:((VO m.toNat).map λ(k:Nat)=>sg S (G.getD k 0)).length=m.toNat:=by simp[-U5,-U6,aC,aG]
   have N:∀a:Int,0<=a->a<m->((VO m.toNat).map λ(k:Nat)=>sg S (G.getD k 0))[a.toNat]?=some (sg S (G.getD a.toNat 0)):=λa a0 am=>by
    rw[VM,zaV (by lia)];rfl
   have ag:∀c∈(VO m.toNat).map λ(k:Nat)=>sg S (G.getD k 0),c∈S.cps.toList:=λc q=>by
    obtain⟨k,U,rfl⟩:=List.mem_map.mp q;have U:=List.mem_range.mp U;have lk:k<G.length:=by lia
    have b:=W G[k] (YT lk);rw[X1,WE lk];show sg S G[k]∈_;have li:(G[k]).toNat<S.cps.toList.length:=by rw[W4];show(G[k]).toNat<S.length;lia
    unfold sg;rw[X1,WE li];exact YT li
   generalize ((VO m.toNat).map λ(k:Nat)=>sg S (G.getD k 0))=gs at ed hl N ag;have jn:=NS (sep := "") (ss:=gs.map λg=>(⟨#[g]⟩:Str)) (by
    rw[EK,VL];show gs.length+gs.length*0<=_
    lia)
   rw[EM]at jn;have zz:aZ m.toNat=true:=decide_eq_true (by lia);have jo:=join_ones gs;generalize (gs.map λg=>(⟨#[g]⟩:Str))=ss at ed jn jo;refine⟨.str (X9 "" ss),?_,_,rfl,⟨λq=>?_,λq=>?_⟩,?_⟩
   ·simp_all[rm,b9,zz,g6,ed,jn]
   ·obtain⟨⟨e1,_,e2⟩,e3⟩:=hA q
    have:(X9 "" ss).length=m.toNat:=by
     show(X9 "" ss).cps.size=_;rw[<- W4,jo,hl]
    have n0:=VB n (show(8:Int)≠0 by decide);refine⟨by lia,_,rfl,?_⟩;rename_i e4 _;rw[jo,N (n%8) n0 (by lia),X1,e3,(hA q).1.2.1];rfl
   ·obtain⟨em,ej⟩:=hB q
    have ak:(S=S1/\L=24/\¬ 5<many)\/(S=S2/\L=26/\5<many):=(hS.resolve_left λz=>q z.1).2;have mp:0<many:=by lia
    have a0:=VB (x/24) (VV mp);have a1:=VD (x/24) mp;rw[<- hm]at ak em ej a0 a1;refine⟨S,L,_,_,ak,rfl,rfl,?_⟩;rw[jo,N _ a0 (by lia),X1,ej];rfl
   ·have ln:(X9 "" ss).length=m.toNat:=by
     show(X9 "" ss).cps.size=_;rw[<- W4,jo,hl]
    have bb:1<=m:=by
     by_cases q:x%3=0
     ·have:=(hA q).1.1
      have n0:=VB n (show(8:Int)≠0 by decide)
      lia
     ·have:=(hB q).1;lia
    refine HN (S:=S) ⟨by lia,by lia⟩ (λc q=>?_) ?_
    ·rw[jo]at q
     exact ag c q
    ·rcases hS with z|⟨z,z1|z1⟩
     ·exact .inl z.2.1
     ·exact .inl z1.1
     ·have:=(hB z).1
      exact .inr ⟨z1.1,by lia⟩
theorem z9(c:Int):∃f:Int->Str,(∀n,0<=n->n<=15->cP [.int c,.int n]=some (.str (f n))/\aU (f n)=true)/\∀n m,(0<=n/\n<=15)->(0<=m/\m<=15)->f n=f m->n=m:=by
 have h:∀n:Int,∃s:Str,0<=n->n<=15->cP [.int c,.int n]=some (.str s)/\RD (c%10^9) n s:=λn=>by
  by_cases h0:0<=n/\n<=15
  ·obtain⟨s,e,p⟩:=vZ (c:=c) (n:=n) h0.1 (by lia)
   exact⟨s,λ_ _=>⟨e,p⟩⟩
  ·exact⟨"",λa b=>absurd ⟨a,b⟩ h0⟩
 refine⟨λn=>(h n).choose,λn a b=>⟨((h n).choose_spec a b).1,((h n).choose_spec a b).2.2⟩,λn m z G e=>?_⟩;have p:=((h n).choose_spec z.1 z.2).2;have q:=((h m).choose_spec G.1 G.2).2;have J:(h n).choose=(h m).choose:=e;rw[J]at p;exact MX z G p q
theorem T9{a b c d e f:D}{l:List D}:fF (a::b::c::d::e::f::l) 5=some f:=bD (j:=5) rfl
structure Mk where
 nm:Str
 takes:List Int
 g:Int
 f:D
 pr:Int
def nZ(m:Mk):D:=.tup [.str m.nm,tupI m.takes,.int m.g,m.f,.int m.pr]
structure Bk where
 M:Int
 kinds:List Str
 rs:D
 makes:List Mk
def aV(C:Bk):D:=.tup [.int C.M,.tup (C.kinds.map .str),C.rs,.tup (C.makes.map nZ)]
structure OkB(C:Bk):Prop where
 m3:3<=C.M
 k1:1<=C.kinds.length
 k6:C.kinds.length<=6
 kn:∀s∈C.kinds,aU s=true
 ml:C.makes.length<=6
 mn:∀m∈C.makes,aU m.nm=true
 mt:∀m∈C.makes,(∃t,m.takes=[t])\/∃t u,m.takes=[t,u]
theorem vN:aP (aV C) (.int 0)=some (.int C.M):=by unfold aV;rw[q_itT];exact at0
theorem eL{C:Bk}:aP (aV C) (.int 1)=some (.tup (C.kinds.map .str)):=by unfold aV;rw[q_itT];exact at1
theorem vK:aP (aV C) (.int 3)=some (.tup (C.makes.map nZ)):=by unfold aV;rw[q_itT];exact LJ
theorem vL:aP (nZ m) (.int 0)=some (.str m.nm):=by unfold nZ;rw[q_itT];exact at0
theorem CI:aP (nZ m) (.int 1)=some (tupI m.takes):=by unfold nZ;rw[q_itT];exact at1
structure OkMs(ms:List Mk):Prop where
 mn:∀m∈ms,aU m.nm=true
 mt:∀m∈ms,(∃t,m.takes=[t])\/∃t u,m.takes=[t,u]
theorem OkMs.snoc{ms:List Mk}(h:OkMs ms){m:Mk}(a:aU m.nm=true)(b:(∃t,m.takes=[t])\/∃t u,m.takes=[t,u]):OkMs (ms++[m]):=by
 have q:∀ {P:Mk->Prop},(∀r∈ms,P r)->P m->∀y∈ms++[m],P y:=λh1 h2 y G=>by
  rcases List.mem_append.mp G with z|z
  ·exact h1 y z
  ·rw[List.mem_singleton.mp z];exact h2
 exact⟨q h.mn a,q h.mt b⟩
theorem wW(c:Int)(ns:List Int)(k:Int)(J:bJ [.lst (ns.map .int),.int k]=some (.int c)):∃nm:Int->Str,(∀n,0<=n->n<=15->aU (nm n)=true)/\(∀n m,(0<=n/\n<=15)->(0<=m/\m<=15)->nm n=nm m->n=m)/\∀K:Nat,K<=15->bA (aY 0) gG (aS cP (aI (aS bJ (aI (aH 1) (aI (eC (.int k)) bC))) (aI (aH 0) bC))) (bH 0 1 K) [none,some (.lst (ns.map .int))]=some (((VO K).map λ(j:Nat)=>nm (j:Int)).map .str):=by
 obtain⟨nm,e,inj⟩:=z9 c;refine⟨nm,λn a b=>(e n a b).2,inj,λK N=>?_⟩;have z:=j5 (K:=K) (f:=aS cP (aI (aS bJ (aI (aH 1) (aI (eC (.int k)) bC))) (aI (aH 0) bC))) (rest:=[some (.lst (ns.map .int))]) (F:=λi=>.str (nm i)) (λi q U=>by simp_all[J,(e i q (by lia)).1]) (VO K) none λk G=>List.mem_range.mp G
 have er:bH 0 1 K=(VO K).map λ(k:Nat)=>D.int (k:Int):=by
  rw[iL,V7];rfl
 rw[er,V7];exact z
theorem xU(ns:List Int):∃C:Bk,lG [.lst (ns.map .int)]=some (aV C)/\OkB C:=by
 suffices h:∃d,lG [.lst (ns.map .int)]=some d/\∃C:Bk,d=aV C/\OkB C by
  obtain⟨d,e,C,rfl,h⟩:=h;exact⟨C,e,h⟩
 obtain⟨f,N⟩:=dM ns;have f0:=(N 0 (by decide) (by decide)).1;have f1:=(N 1 (by decide) (by decide)).1;have f2:=(N 2 (by decide) (by decide)).1;have f3:=(N 3 (by decide) (by decide)).1;have f9:=(N 9 (by decide) (by decide)).1;refine i8 ?_;unfold pT;generalize f 0=c at f0;rw[aE (aN (d:=.int c) (by simp_all[aA,f0]))];have ae:(10:Int)^59=100000000000000000000000000000000000000000000000000000000000:=by decide +kernel
 have w0:=VB (c/4) (show(10^59:Int)≠0 by decide +kernel);have w1:=VD (c/4) (show(0:Int)<10^59 by decide +kernel);have dw:jI (.int (c/4)) (.int (10^59))=some (.int (c/4%10^59)):=aF (by decide +kernel);generalize c/4%10^59=w at w0 w1 dw;have mw:dE (.int 2) (.int w)=some (.int (2*w)):=dI (by decide +kernel) (by decide +kernel) (by lia) (by lia);have pw:KD (.int 10) (.int 59)=some (.int (10^59)):=gT (by decide) (by decide) (by decide);rw[ae]at dw pw;rw[aE (aN (d:=.int (3+2*w)) (by simp_all[aA,aQ,pw,dw,mw]))];refine kM (λρ=>∃M:Int,3<=M/\ρ=[some (.lst (ns.map .int)),some (.int c),some (.int M),none,none,none,none,none,none,none,none,none]) ?_ ?_
 ·by_cases hc:c%4=0
  ·have v0:=VB (c/4) (show(4:Int)≠0 by decide)
   have v1:=VD (c/4) (show(0:Int)<4 by decide);have mv:dE (.int 2) (.int (c/4%4))=some (.int (2*(c/4%4))):=dI (by decide +kernel) (by decide +kernel) (by lia) (by lia);exact⟨_,by simp_all[aA,aF,aQ,hc,mv],3+2*(c/4%4),by lia,rfl⟩
  ·exact⟨_,by simp_all[aA,aF,hc],3+2*w,by lia,rfl⟩
 ·rintro ρ ⟨M,M3,rfl⟩
  have m0:=VB (f 1) (show(6:Int)≠0 by decide);have m1:=VD (f 1) (show(0:Int)<6 by decide);rw[aE (aN (d:=.int (1+f 1%6)) (by simp_all[f1,aF]))];generalize hmany:1+f 1%6=many;have hm:1<=many/\many<=6:=by lia
  have mp:0<many:=by lia
  obtain⟨nk,ac,_,aa⟩:=wW (f 2) ns 2 f2;obtain⟨nm,U,_⟩:=z9 (f 9);have ek:=aa many.toNat (by lia);have rm:dH [.int many]=some (bH 0 1 many.toNat):=fX (by lia) (by lia);have zz:aZ many.toNat=true:=decide_eq_true (by lia);generalize hkd:(VO many.toNat).map (λ(j:Nat)=>nk (j:Int))=kd at ek;rw[aE (aN (d:=.tup (kd.map .str)) (by simp_all[rm,b9,zz,g6,ek]))];rw[aE (aN (d:=.tup []) (by simp[-U5,-U6,aC,aG]))];refine kM (λρ=>∃W:D,ρ=[some (.lst (ns.map .int)),some (.int c),some (.int M),some (.int many),some (.tup (kd.map .str)),some W,none,none,none,none,none,none]) ?_ ?_
  ·by_cases h1:1<many
   ·exact⟨_,by simp_all[h1];rfl,_,rfl⟩
   ·exact⟨_,by simp_all[h1];rfl,_,rfl⟩
  ·rintro ρ ⟨W,rfl⟩
   have lk:kd.length=many.toNat:=by rw[<- hkd];simp[-U5,-U6,aC,aG]
   have af:∀s∈kd,aU s=true:=λs hs=>by
    rw[<- hkd]at hs;obtain⟨j,hj,rfl⟩:=List.mem_map.mp hs;have:=List.mem_range.mp hj;exact ac _ (by lia) (by lia)
   rw[aE (aN (d:=.lst []) (by simp[-U5,-U6,aC,aG]))];have z0:=VB (f 3) (show(6:Int)≠0 by decide);have z1:=VD (f 3) (show(0:Int)<6 by decide);refine qZ (items:=bH 0 1 (f 3%6).toNat) (by simp_all[f3,aF,fX z0 (show f 3%6<=1000000 by lia)]) (λi ρ=>∃(ms:List Mk) (o7 o8 o9 J G:Option D),ρ=[some (.lst (ns.map .int)),some (.int c),some (.int M),some (.int many),some (.tup (kd.map .str)),some W,some (.lst (ms.map nZ)),o7,o8,o9,J,G]/\ms.length=i/\i<=6/\OkMs ms) ⟨[],none,none,none,none,none,by simp[-U5,-U6,aC,aG],rfl,by decide,⟨λ_ h=>(nomatch h),λ_ h=>(nomatch h)⟩⟩ ?_ ?_
   ·rintro i x ρ hx ⟨ms,o7,o8,o9,J,G,rfl,Y,hi,K⟩
    obtain⟨bb,rfl⟩:=eE hx;have hI:0<=(0:Int)+(i:Int)*1/\(0:Int)+(i:Int)*1<=6:=by lia
    generalize (0:Int)+(i:Int)*1=I at hI;have fI:=(N (4+I) (by lia) (by lia)).1;generalize f (4+I)=near at fI;have hz:aZ ms.length=true:=decide_eq_true (by lia);have n0:=VB (near/2) (show(3:Int)≠0 by decide);have n1:=VD (near/2) (show(0:Int)<3 by decide);have en:=(U (near/2%3) n0 (by lia)).1;have on:=(U (near/2%3) n0 (by lia)).2;have z:KD (.int 10) (.int 30)=some (.int (10^30)):=gT (by decide) (by decide) (by decide);have q:jI (.int near) (.int (10^30))=some (.int (near%10^30)):=aF (by decide +kernel);generalize near%10^30=pr at q;generalize (10:Int)^30=big at z q;have z2:aZ 2=true:=rfl;by_cases h2:near%2=1
    ·refine⟨_,?_,ms++[(⟨nm (near/2%3),[near/4%many,near/24%many],near/144%many,.tup [.tup [.tup [.int 0,.int 1],.int 1],.tup [.tup [.int 1,.int 0],.int (M-1)]],pr⟩:Mk)],some (.int I),some (.int near),some (.tup [.int (near/4%many),.int (near/24%many)]),some (.tup [.tup [.tup [.int 0,.int 1],.int 1],.tup [.tup [.int 1,.int 0],.int (M-1)]]),some (.str (nm (near/2%3))),rfl,by simp_all[Y],by lia,K.snoc on (.inr ⟨_,_,rfl⟩)⟩
     simp_all[turn,fI,aQ,aF mp,aF,h2,f9,en,z,q,hz,nZ,tupI,z2]
    ·refine⟨_,?_,ms++[(⟨nm (near/2%3),[near/4%many],near/144%many,.tup [.tup [.tup [.int 1],.int 1]],pr⟩:Mk)],some (.int I),some (.int near),some (.tup [.int (near/4%many)]),some (.tup [.tup [.tup [.int 1],.int 1]]),some (.str (nm (near/2%3))),rfl,by simp_all[Y],by lia,K.snoc on (.inl ⟨_,rfl⟩)⟩
     simp_all[turn,fI,aQ,aF mp,aF,h2,f9,en,z,q,hz,nZ,tupI]
   ·rintro ρ ⟨ms,o7,o8,o9,J,G,rfl,Y,hi,K⟩
    rw[b9]at Y;exact⟨_,by simp[-U5,-U6,aC,aG];rfl,⟨M,kd,W,ms⟩,rfl,⟨M3,by show 1<=kd.length;lia,by show kd.length<=6;lia,af,by show ms.length<=6;lia,K.mn,K.mt⟩⟩
inductive Pt where
 | name (x:Str)
 | num (n k:Int)
 | use0 (nm:Str)
 | use1 (nm:Str) (p:Pt)
 | use2 (nm:Str) (p q:Pt)
 | use3 (nm:Str) (p q r:Pt)
 | lett (x:Str) (p q:Pt)
 | pick (c k:Int) (p q r:Pt)
 | again (n k:Int) (x:Str) (p q:Pt)
def pD:Pt->D
 | .name x=>.tup [.str "name",.str x]
 | .num n k=>.tup [.str "number",.int n,.int k]
 | .use0 nm=>.tup [.str "use",.str nm,.tup []]
 | .use1 nm p=>.tup [.str "use",.str nm,.tup [pD p]]
 | .use2 nm p q=>.tup [.str "use",.str nm,.tup [pD p,pD q]]
 | .use3 nm p q r=>.tup [.str "use",.str nm,.tup [pD p,pD q,pD r]]
 | .lett x p q=>.tup [.str "let",.str x,pD p,pD q]
 | .pick c k p q r=>.tup [.str "pick",.int c,.int k,pD p,pD q,pD r]
 | .again n k x p q=>.tup [.str "again",.int n,.int k,.str x,pD p,pD q]
def kids:Pt->List Pt
 | .name _=>[]
 | .num _ _=>[]
 | .use0 _=>[]
 | .use1 _ p=>[p]
 | .use2 _ p q=>[p,q]
 | .use3 _ p q r=>[p,q,r]
 | .lett _ p q=>[p,q]
 | .pick _ _ p q r=>[p,q,r]
 | .again _ _ _ p q=>[p,q]
def parts:Pt->Int
 | .name _=>1
 | .num _ _=>1
 | .use0 _=>1
 | .use1 _ p=>1+parts p
 | .use2 _ p q=>1+parts p+parts q
 | .use3 _ p q r=>1+parts p+parts q+parts r
 | .lett _ p q=>1+parts p+parts q
 | .pick _ _ p q r=>1+parts p+parts q+parts r
 | .again _ _ _ p q=>1+parts p+parts q
def lets:Pt->Int
 | .name _=>0
 | .num _ _=>0
 | .use0 _=>0
 | .use1 _ p=>lets p
 | .use2 _ p q=>lets p+lets q
 | .use3 _ p q r=>lets p+lets q+lets r
 | .lett _ p q=>1+lets p+lets q
 | .pick _ _ p q r=>lets p+lets q+lets r
 | .again _ _ _ p q=>lets p+lets q
def deep:Pt->Nat
 | .name _=>1
 | .num _ _=>1
 | .use0 _=>1
 | .use1 _ p=>deep p+1
 | .use2 _ p q=>max (deep p) (deep q)+1
 | .use3 _ p q r=>max (max (deep p) (deep q)) (deep r)+1
 | .lett _ p q=>max (deep p) (deep q)+1
 | .pick _ _ p q r=>max (max (deep p) (deep q)) (deep r)+1
 | .again _ _ _ p q=>max (deep p) (deep q)+1
def rnds:Pt->Nat
 | .name _=>0
 | .num _ _=>0
 | .use0 _=>0
 | .use1 _ p=>rnds p
 | .use2 _ p q=>max (rnds p) (rnds q)
 | .use3 _ p q r=>max (max (rnds p) (rnds q)) (rnds r)
 | .lett _ p q=>max (rnds p) (rnds q)
 | .pick _ _ p q r=>max (max (rnds p) (rnds q)) (rnds r)
 | .again _ _ _ p q=>max (rnds p) (rnds q+1)
def sD(s:Pt×Int):D:=.tup [pD s.1,.int (parts s.1),.int (lets s.1),.int (deep s.1:Int),.int (rnds s.1:Int),.int s.2,.tup ((kids s.1).map pD)]
theorem s_0{s:Pt×Int}:aP (sD s) (.int 0)=some (pD s.1):=by unfold sD;rw[q_itT];exact at0
theorem s_1{s:Pt×Int}:aP (sD s) (.int 1)=some (.int (parts s.1)):=by unfold sD;rw[q_itT];exact at1
theorem s_2{s:Pt×Int}:aP (sD s) (.int 2)=some (.int (lets s.1)):=by unfold sD;rw[q_itT];exact at2
theorem s_3{s:Pt×Int}:aP (sD s) (.int 3)=some (.int (deep s.1:Int)):=by unfold sD;rw[q_itT];exact LJ
theorem s_4{s:Pt×Int}:aP (sD s) (.int 4)=some (.int (rnds s.1:Int)):=by unfold sD;rw[q_itT];exact UF
theorem s_5{s:Pt×Int}:aP (sD s) (.int 5)=some (.int s.2):=by unfold sD;rw[q_itT];exact T9
def tg:Pt->Str
 | .name _ => "name"
 | .num _ _ => "number"
 | .use0 _ => "use"
 | .use1 _ _ => "use"
 | .use2 _ _ _ => "use"
 | .use3 _ _ _ _ => "use"
 | .lett _ _ _ => "let"
 | .pick _ _ _ _ _ => "pick"
 | .again _ _ _ _ _ => "again"
theorem yY(g:Pt):aP (pD g) (.int 0)=some (.str (tg g)):=by cases g <;> (unfold pD;rw[q_itT];exact at0)
noncomputable def GF(w:Str):Int:=if w = "let" then 1 else 0
noncomputable def f2(a b:Int):Int:=if a=0 then b else a
theorem kH{w:Str}{gs:List (Pt×Int)}(hl:gs.length<=10){N:D}(h0:aP N (.int 0)=some (.str w)){own:Int}:a7 [N,.lst (gs.map sD),.int own]=some (.tup [N,.int (1+(gs.map λs=>parts s.1).sum),.int (GF w+(gs.map λs=>lets s.1).sum),.int (gs.foldl (λa g=>max a (deep g.1:Int)) 0+1),.int ((gs.zipIdx).foldl (λa p=>max a ((rnds p.1.1:Int)+(if w = "again" /\ p.2=1 then 1 else 0))) 0),.int (gs.foldl (λa s=>f2 a s.2) own),.tup (gs.map λs=>pD s.1)]):=by
 refine aM ?_;unfold pY;rw[aE (aN (d:=.int 1) (by simp[-U5,-U6,aC,aG]))];rw[aE (aN (d:=.int (GF w)) (by
  by_cases h:w = "let"
  ·simp_all[aA,h0,h,GF]
  ·simp_all[aA,h0,h,GF]))]
 rw[aE (aN (d:=.int 0) (by simp[-U5,-U6,aC,aG]))];rw[aE (aN (d:=.int 0) (by simp[-U5,-U6,aC,aG]))];rw[aE (aN (d:=.int own) (by simp_all[aA]))];refine IB (items:=bH 0 1 gs.length) (by simp_all[aA,fR (n:=gs.length) (by lia)]) (λi ρ=>∃(W U:Option D),ρ=[some N,some (.lst (gs.map sD)),some (.int own),some (.int (1+((gs.take i).map λs=>parts s.1).sum)),some (.int (GF w+((gs.take i).map λs=>lets s.1).sum)),some (.int ((gs.take i).foldl (λa g=>max a (deep g.1:Int)) 0)),some (.int (((gs.take i).zipIdx).foldl (λa p=>max a ((rnds p.1.1:Int)+(if w = "again" /\ p.2=1 then 1 else 0))) 0)),some (.int ((gs.take i).foldl (λa s=>f2 a s.2) own)),W,U]) ⟨none,none,by simp_all[aA]⟩ ?_ ?_
 ·rintro i x ρ hx ⟨W,U,rfl⟩
  obtain⟨Y,rfl⟩:=eE hx;have hI:(0:Int)+(i:Int)*1=(i:Int):=by lia
  rw[hI];obtain⟨g,hg⟩:∃g,gs[i]?=some g:=⟨gs[i],WE Y⟩;have q:fF (gs.map sD) (i:Int)=some (sD g):=bD (by rw[VM,hg];rfl);have ht:gs.take (i+1)=gs.take i++[g]:=by rw[ZN,hg];rfl
  have aa:(gs.take i).length=i:=by rw[WZ];lia
  refine⟨_,?_,some (.int (i:Int)),some (sD g),rfl⟩;rw[ht,List.zipIdx_append,za3,za3,za3,zay,zay,List.sum_append,List.sum_append,aa];generalize (gs.take i).foldl (λa g=>max a (deep g.1:Int)) 0=dp;generalize (gs.take i).foldl (λa s=>f2 a s.2) own=wp;generalize ((gs.take i).zipIdx).foldl (λa p=>max a ((rnds p.1.1:Int)+(if w = "again" /\ p.2=1 then 1 else 0))) 0=rp;have J:∀a b:Int,wY [.int a,.int b]=some (.int (max a b)):=λa b=>by
   have e:wY [.int a,.int b]=some (.int (if b>a then b else a)):=by simp[-U5,-U6,aC,aG]
   rw[e];by_cases h:b>a
   ·rw[if_pos h,Int.max_eq_right (by lia)]
   ·rw[if_neg h,Int.max_eq_left (by lia)]
  have l1:[g].foldl (λa s=>f2 a s.2) wp=f2 wp g.2:=rfl;rw[l1];by_cases z:wp=0
  ·have f0:f2 wp g.2=g.2:=if_pos z
   rw[f0];by_cases hw:w = "again"
   ·by_cases h1:i=1
    ·subst h1
     have q:fF (gs.map sD) 1=some (sD g):=q;simp_all[turn,q,s_1,s_2,s_3,s_4,s_5,h0,hw,J,Y8,z,-q_max]
    ·have G:¬ (i:Int)=1:=by lia
     simp_all[turn,q,s_1,s_2,s_3,s_4,s_5,h0,hw,h1,G,J,Y8,z,-q_max]
   ·simp_all[turn,q,s_1,s_2,s_3,s_4,s_5,h0,hw,J,Y8,z,-q_max]
  ·have f0:f2 wp g.2=wp:=if_neg z
   rw[f0];by_cases hw:w = "again"
   ·by_cases h1:i=1
    ·subst h1
     have q:fF (gs.map sD) 1=some (sD g):=q;simp_all[turn,q,s_1,s_2,s_3,s_4,s_5,h0,hw,J,Y8,z,-q_max]
    ·have G:¬ (i:Int)=1:=by lia
     simp_all[turn,q,s_1,s_2,s_3,s_4,s_5,h0,hw,h1,G,J,Y8,z,-q_max]
   ·simp_all[turn,q,s_1,s_2,s_3,s_4,s_5,h0,hw,J,Y8,z,-q_max]
 ·rintro ρ ⟨W,U,rfl⟩
  rw[b9,zaY];have ec:bA (aY 0) gG (a6 aP (aH 0) (eC (.int 0))) (gs.map sD) [none]=some (gs.map λs=>pD s.1):=by
   have:∀(l:List (Pt×Int)) (o:Option D),bA (aY 0) gG (a6 aP (aH 0) (eC (.int 0))) (l.map sD) [o]=some (l.map λs=>pD s.1):=by
    intro l;induction l with
    | nil=>intro o;rfl
    | cons g l ih=>intro o;simp_all[bA,s_0,ih]
   exact this gs none
  have zz:aZ gs.length=true:=decide_eq_true (by lia);simp_all[g6,zz,ec]
theorem dD(g:Pt):1<=deep g:=by cases g <;> simp_all[deep]
theorem xB:¬ ("use" : Str) = "let" := by decide
theorem yV:¬ ("use" : Str) = "again" := by decide
theorem JY:¬ ("let" : Str) = "again" := by decide
theorem S0:¬ ("let" : Str) = "use" := by decide
theorem KB:¬ ("pick" : Str) = "let" := by decide
theorem TL:¬ ("pick" : Str) = "use" := by decide
theorem GD:¬ ("pick" : Str) = "again" := by decide
theorem J0:¬ ("again" : Str) = "let" := by decide
theorem S9:¬ ("again" : Str) = "use" := by decide
theorem SE:¬ ("again" : Str) = "pick" := by decide
theorem S3:¬ ("name" : Str) = "use" := by decide
theorem OC:¬ ("name" : Str) = "let" := by decide
theorem SW:¬ ("name" : Str) = "pick" := by decide
theorem OA:¬ ("name" : Str) = "again" := by decide
theorem SR:¬ ("number" : Str) = "use" := by decide
theorem OG:¬ ("number" : Str) = "let" := by decide
theorem SS:¬ ("number" : Str) = "pick" := by decide
theorem OE:¬ ("number" : Str) = "again" := by decide
theorem HD{nm:Str}{own:Int}:a7 [.tup [.str "use",.str nm,.tup []],.lst [],.int own]=some (sD (.use0 nm,own)):=by
 have h:=kH (gs:=[]) (own:=own) (by simp[-U5,-U6,aC,aG]) (yY (.use0 nm));refine h.trans ?_;simp_all[sD,kids,parts,lets,deep,rnds,tg,GF,xB,pD]
theorem zL{w:D}{g a:Pt}{wa own:Int}(e:pD g=w)(q:kids g=[a]):a7 [w,.lst [sD (a,wa)],.int own]=some (sD (g,f2 own wa)):=by
 have h:=kH (gs:=[(a,wa)]) (own:=own) (by simp[-U5,-U6,aC,aG]) (yY g);subst e;refine h.trans ?_;cases g <;> simp[-U5,-U6,aC,aG,kids]at q;subst q;simp_all[sD,kids,parts,lets,deep,rnds,tg,GF,xB,yV,zaB]
theorem dG{w:D}{g a b:Pt}{wa wb own:Int}(e:pD g=w)(q:kids g=[a,b]):a7 [w,.lst [sD (a,wa),sD (b,wb)],.int own]=some (sD (g,f2 (f2 own wa) wb)):=by
 have h:=kH (gs:=[(a,wa),(b,wb)]) (own:=own) (by simp[-U5,-U6,aC,aG]) (yY g);subst e;refine h.trans ?_;cases g <;> simp[-U5,-U6,aC,aG,kids]at q <;> (obtain⟨rfl,rfl⟩:=q;simp_all[sD,kids,parts,lets,deep,rnds,tg,GF,xB,yV,JY,J0,zaB];lia)
theorem pB{w:D}{g a b c:Pt}{wa wb wc own:Int}(e:pD g=w)(q:kids g=[a,b,c]):a7 [w,.lst [sD (a,wa),sD (b,wb),sD (c,wc)],.int own]=some (sD (g,f2 (f2 (f2 own wa) wb) wc)):=by
 have h:=kH (gs:=[(a,wa),(b,wb),(c,wc)]) (own:=own) (by simp[-U5,-U6,aC,aG]) (yY g);subst e;refine h.trans ?_;cases g <;> simp[-U5,-U6,aC,aG,kids]at q <;> (obtain⟨rfl,rfl,rfl⟩:=q;simp_all[sD,kids,parts,lets,deep,rnds,tg,GF,xB,yV,KB,GD,zaB];lia)
theorem NQ{a b c d:D}:cutD [a,b,c,d] (some 2) (some 4)=[c,d]:=rfl
theorem M1{a b c d e f:D}:cutD [a,b,c,d,e,f] (some 3) (some 6)=[d,e,f]:=rfl
theorem NV{a b c d e f:D}:cutD [a,b,c,d,e,f] (some 4) (some 6)=[e,f]:=rfl
theorem m7:∀g:Pt,gO [pD g]=some (.tup ((kids g).map pD))
 | .name x=>aM (by simp_all[eR,aA,pD,kids,at0,S3,OC,SW,OA])
 | .num n k=>aM (by simp_all[eR,aA,pD,kids,at0,SR,OG,SS,OE])
 | .use0 nm=>aM (by simp_all[eR,aA,pD,kids,at0,at2])
 | .use1 nm p=>aM (by simp_all[eR,aA,pD,kids,at0,at2])
 | .use2 nm p q=>aM (by simp_all[eR,aA,pD,kids,at0,at2])
 | .use3 nm p q r=>aM (by simp_all[eR,aA,pD,kids,at0,at2])
 | .lett x p q=>aM (by simp_all[eR,aA,pD,kids,at0,S0,NQ])
 | .pick c k p q r=>aM (by simp_all[eR,aA,pD,kids,at0,TL,KB,M1])
 | .again n k x p q=>aM (by simp_all[eR,aA,pD,kids,at0,S9,J0,SE,NV])
theorem jX{g k:Pt}(h:k∈kids g):deep k+1<=deep g:=by
 cases g <;> simp[-U5,-U6,aC,aG,kids]at h
 ·subst h;simp_all[deep]
 ·rcases h with rfl|rfl <;> simp_all[deep] <;> lia
 ·rcases h with rfl|rfl|rfl <;> simp_all[deep] <;> lia
 ·rcases h with rfl|rfl <;> simp_all[deep] <;> lia
 ·rcases h with rfl|rfl|rfl <;> simp_all[deep] <;> lia
 ·rcases h with rfl|rfl <;> simp_all[deep] <;> lia
theorem mV(g:Pt):(kids g).length<=3:=by cases g <;> simp_all[kids]
theorem kK{R:List D->Option D}{F:Pt->D}:∀(l:List Pt) (o:Option D),(∀k∈l,R [pD k]=some (F k))->bA (aY 0) gG (aS R (aI (aH 0) bC)) (l.map pD) [o]=some (l.map F)
 | [],o,_=>rfl
 | g::l,o,h=>by
  have ih:=kK (R:=R) (F:=F) l (some (pD g)) λk q=>h k (VW _ q)
  have h1:=h g (VR ..);simp_all[bA,h1,ih]
theorem sum_ints:∀l:List Int,GE [.lst (l.map .int)]=some (.int l.sum):=λl=>by simp[-U5,-U6,aC,aG]
theorem xT(g:Pt):parts g=1+((kids g).map parts).sum:=by cases g <;> simp_all[parts,kids] <;> lia
theorem B2(g:Pt):lets g=(if tg g = "let" then 1 else 0)+((kids g).map lets).sum:=by
 cases g <;> simp_all[lets,kids,tg,OC,OG,xB,KB,J0] <;> lia
theorem zX:∀(n:Nat) (g:Pt),deep g<=n->dO 1 eD n [pD g]=some (.int (parts g))
 | 0,g,h=>by have:=dD g;lia
 | n+1,g,h=>by
  have z:=kK (R:=dO 1 eD n) (F:=λk=>.int (parts k)) (kids g) none λk G=>zX n k (by have:=jX G;lia)
  have J:aZ (kids g).length=true:=decide_eq_true (by have:=mV g;lia);have hs:=sum_ints ((kids g).map parts);rw[V7]at hs;rw[xT];refine aM ?_;have q:bA (aY 0) gG (aS (dO 1 eD n) (aI (aH 0) bC)) ((kids g).map pD) [none]=some ((kids g).map (D.int ∘ parts)):=z;generalize dO 1 eD n=R at q ⊢;unfold eD;simp_all[aA,m7,g6,J,q,hs]
theorem ET:∀(n:Nat) (g:Pt),deep g<=n->dO 1 fO n [pD g]=some (.int (lets g))
 | 0,g,h=>by have:=dD g;lia
 | n+1,g,h=>by
  have N:=kK (R:=dO 1 fO n) (F:=λk=>.int (lets k)) (kids g) none λk U=>ET n k (by have:=jX U;lia)
  have J:aZ (kids g).length=true:=decide_eq_true (by have:=mV g;lia);have hs:=sum_ints ((kids g).map lets);rw[V7]at hs;rw[B2];refine aM ?_;have q:bA (aY 0) gG (aS (dO 1 fO n) (aI (aH 0) bC)) ((kids g).map pD) [none]=some ((kids g).map (D.int ∘ lets)):=N;have G:=yY g;have z:=m7 g;generalize dO 1 fO n=R at q ⊢;unfold fO;by_cases h:tg g = "let"
  ·simp_all[aA,z,g6,J,q,hs,G,h]
  ·simp_all[aA,z,g6,J,q,hs,G,h]
theorem BZ(g:Pt):(deep g:Int)=1+My.CL 0 ((kids g).map λk=>(deep k:Int)):=by
 cases g <;> simp_all[kids,deep,My.CL] <;> (repeat' split) <;> lia
theorem EY:∀(n:Nat) (g:Pt),deep g<=n->dO 1 fZ n [pD g]=some (.int (deep g:Int))
 | 0,g,h=>by have:=dD g;lia
 | n+1,g,h=>by
  have q:=kK (R:=dO 1 fZ n) (F:=λk=>.int (deep k:Int)) (kids g) none λk G=>EY n k (by have:=jX G;lia)
  have N:aZ (kids g).length=true:=decide_eq_true (by have:=mV g;lia);have hs:=q_maxD (ns:=(kids g).map λk=>(deep k:Int)) (d:=0);rw[BZ];refine aM ?_;have z:=m7 g;have J:(kids g).map (λk=>D.int (deep k:Int))=((kids g).map λk=>(deep k:Int)).map .int:=by rw[V7];rfl
  rw[J]at q;generalize (kids g).map (λk=>(deep k:Int))=ks at q hs ⊢;generalize dO 1 fZ n=R at q ⊢;unfold fZ;simp_all[aA,z,g6,N,q]
theorem pQ{R:List D->Option D}{r:Int}:∀(l:List Pt) (o:Option D),(∀k∈l,R [pD k,.int r]=some (.bl (decide (2<r+(rnds k:Int)))))->bA (aY 0) gG (aS R (aI (aH 0) (aI (aH 1) bC))) (l.map pD) [o,some (.int r)]=some ((l.map λk=>decide (2<r+(rnds k:Int))).map .bl)
 | [],o,_=>rfl
 | g::l,o,h=>by
  have ih:=pQ (R:=R) (r:=r) l (some (pD g)) λk q=>h k (VW _ q)
  have h1:=h g (VR ..);simp_all[bA,h1,ih]
theorem EF{g:Pt}{r:Int}(G:r<=2)(z:¬ tg g = "again"):((kids g).map λk=>decide (2<r+(rnds k:Int))).any id=decide (2<r+(rnds g:Int)):=by
 rw[XE,decide_eq_true_iff];cases g with
 | again n k x p q=>exact absurd rfl z
 | _=>simp_all[kids,rnds] <;> lia
theorem oZ:∀(n:Nat) (g:Pt) (r:Int),deep g<=n->r<=2->dO 2 bL n [pD g,.int r]=some (.bl (decide (2<r+(rnds g:Int))))
 | 0,g,r,h,_=>by have:=dD g;lia
 | n+1,g,r,h,r2=>by
  have zz:aZ (kids g).length=true:=decide_eq_true (by have:=mV g;lia);have vi:=m7 g;have J:=yY g;by_cases W:tg g = "again"
  case neg=>
   have U:=pQ (R:=dO 2 bL n) (r:=r) (kids g) none λk hk=>oZ n k r (by have:=jX hk;lia) r2
   have G:=q_any (bs:=(kids g).map λk=>decide (2<r+(rnds k:Int)));rw[EF r2 W]at G;refine aM ?_;generalize (kids g).map (λk=>decide (2<r+(rnds k:Int)))=bs at U G;generalize decide (2<r+(rnds g:Int))=b at G ⊢;generalize dO 2 bL n=R at U ⊢;unfold bL;simp_all[-V7,-q_any,aA,vi,g6,zz,U,J,W,G]
  cases g with
  | again m k x p q=>
   simp[-U5,-U6,aC,aG,deep]at h;have z:=oZ n p r (by lia) r2;have i4:aP (pD (.again m k x p q)) (.int 4)=some (pD p):=by rw[pD,q_itT];exact UF
   have i5:aP (pD (.again m k x p q)) (.int 5)=some (pD q):=by rw[pD,q_itT];exact T9
   by_cases Y:2<=r
   ·rw[decide_eq_true (show 2<r+((rnds (.again m k x p q):Nat):Int) by simp_all[rnds];lia)]
    refine aM ?_;generalize dO 2 bL n=R;unfold bL;simp_all[aA,J,tg,Y]
   ·have N:=oZ n q (r+1) (by lia) (by lia)
    refine aM ?_;by_cases ra:2<r+(rnds p:Int)
    ·rw[decide_eq_true ra]at z
     rw[decide_eq_true (show 2<r+((rnds (.again m k x p q):Nat):Int) by simp_all[rnds];lia)];generalize dO 2 bL n=R at z ⊢;unfold bL;simp_all[aA,J,tg,i4,z,Y]
    ·rw[decide_eq_false ra]at z
     have:decide (2<r+1+(rnds q:Int))=decide (2<r+((rnds (.again m k x p q):Nat):Int)):=by
      rw[XE,decide_eq_true_iff,decide_eq_true_iff];simp only[rnds];lia
     rw[this]at N;generalize decide (2<r+((rnds (.again m k x p q):Nat):Int))=b at N ⊢;generalize dO 2 bL n=R at z N ⊢;unfold bL;simp_all[aA,J,tg,i4,i5,z,N,Y]
  | _=>simp[-U5,-U6,aC,aG,tg,OA,OE,yV,JY,GD]at W
def big(g:Pt):Prop:=60<parts g\/2<lets g\/24<deep g\/2<rnds g
theorem ML(c:Nat):(!decide ((⟨#[c]⟩:Str).cps.toList<("a" : Str).cps.toList))=decide (97<=c)/\(!decide (("z" : Str).cps.toList<(⟨#[c]⟩:Str).cps.toList))=decide (c<=122):=by
 have ea:("a" : Str).cps.toList=[97]:=by decide
 have G:("z" : Str).cps.toList=[122]:=by decide
 have q:(⟨#[c]⟩:Str).cps.toList=[c]:=rfl;rw[ea,G,q];have h1:([c]<[97])↔c<97:=by simp_all[List.cons_lt_cons_iff]
 have h2:([122]<[c])↔122<c:=by simp_all[List.cons_lt_cons_iff]
 constructor
 ·by_cases h:c<97
  ·rw[decide_eq_true (h1.mpr h),decide_eq_false (by lia)];rfl
  ·rw[decide_eq_false (λz=>h (h1.mp z)),decide_eq_true (by lia)];rfl
 ·by_cases h:122<c
  ·rw[decide_eq_true (h2.mpr h),decide_eq_false (by lia)];rfl
  ·rw[decide_eq_false (λz=>h (h2.mp z)),decide_eq_true (by lia)];rfl
theorem wO:∀(cs:List Nat) (o:Option D),bA (aY 0) gG (bW xF xF (eC (.str "a")) (aH 0) (eC (.str "z"))) (cs.map λc=>.str ⟨#[c]⟩) [o]=some ((cs.map low).map .bl)
 | [],o=>rfl
 | c::cs,o=>by
  have ih:=wO cs (some (.str ⟨#[c]⟩));obtain⟨G,z⟩:=ML c;have q:xF (.str "a") (.str ⟨#[c]⟩)=some (.bl (decide (97<=c))):=by rw[q_leAS,G]
  have J:xF (.str ⟨#[c]⟩) (.str "z")=some (.bl (decide (c<=122))):=by rw[q_leAS,z]
  by_cases h:97<=c
  ·simp_all[-V7,-q_leAS,bA,bW,q,J,h,ih,low]
  ·simp_all[-V7,-q_leAS,bA,bW,q,h,ih,low]
theorem nM(hl:x.length<=1000):fP [.str x]=some (.bl (aU x)):=by
 refine aM ?_;have U:aZ x.length=true:=decide_eq_true (by lia);have J:g5 [.str x]=some (.int (x.length:Int)):=if_pos U;have cm:=wO x.cps.toList none;have W:aZ (P.signs x).length=true:=by
  have:(P.signs x).length=x.length:=by unfold P.signs;rw[VL,W4];rfl
  rw[this];exact U
 have al:(List.map low x.cps.toList).all id=x.cps.toList.all low:=by rw[List.all_map];rfl
 unfold sV aU;by_cases h1:x.length<1
 ·have q:(x.length:Int)<1:=by lia
  have h2:decide (1<=x.length)=false:=decide_eq_false (by lia);rw[h2];simp_all[aA,J,q]
 ·have q:¬ (x.length:Int)<1:=by lia
  have h2:decide (1<=x.length)=true:=decide_eq_true (by lia);rw[h2];by_cases h8:8<x.length
  ·have z:(8:Int)<(x.length:Int):=by lia
   have h3:decide (x.length<=8)=false:=decide_eq_false (by lia);rw[h3];simp_all[aA,J,q,z]
  ·have z:¬ (8:Int)<(x.length:Int):=by lia
   have h3:decide (x.length<=8)=true:=decide_eq_true (by lia);rw[h3];unfold P.signs at W;by_cases G:x = "let" \/ x = "in" \/ x = "pick" \/ x = "again"
   ·have Y:(["let", "in", "pick", "again"]:List Str).contains x=true:=by simpa using G
    rw[Y];simp_all[-V7,aA,J,q,z,G]
   ·have Y:(["let", "in", "pick", "again"]:List Str).contains x=false:=by simpa using G
    rw[Y];have sg:P.signs x=x.cps.toList.map λc=>D.str ⟨#[c]⟩:=rfl
    have dl:CJ [.lst ((x.cps.toList.map low).map .bl)]=some (.bl (x.cps.toList.all low)):=by rw[q_all,al]
    have N:aZ x.cps.size=true:=U;simp[-U5,-U6,aC,aG,-V7,-q_all,aA,J,q,z,G,sg,N,g6,cm]at dl ⊢;simp_all[-V7,-q_all,dl]
open Classical in
theorem qC(x:Str):∀l:List Str,(l.map D.str).any (λd=>decide (d=.str x))=l.contains x
 | []=>rfl
 | y::l=>by
  rw[V0,WJ,qC x l,List.contains_cons];congr 1;by_cases h:y=x
  ·subst h;simp[-U5,-U6,aC,aG]
  ·have h2:¬ x=y:=λz=>h z.symm
   have q:¬ D.str y=D.str x:=λz=>h (by injection z)
   rw[decide_eq_false q];simp_all[h2]
theorem all_strs(l:List Str):(l.map D.str).all kE=true:=List.all_eq_true.mpr λd q=>by obtain⟨s,_,rfl⟩:=List.mem_map.mp q;rfl
theorem uZ(x:Str)(l:List Str):F5 (.str x) (.lst (l.map .str))=some (.bl (l.contains x)):=by
 show RP (.str x) (.lst (l.map D.str))=_;unfold RP xA;dsimp only;rw[if_pos ⟨rfl,all_strs l⟩,qC];rfl
theorem pX(x:Str)(l:List Str):pF (.str x) (.lst (l.map .str))=some (.bl (!l.contains x)):=by
 show vE (.str x) (.lst (l.map D.str))=_;unfold vE xA;dsimp only;rw[if_pos ⟨rfl,all_strs l⟩,qC];rfl
theorem dZ{x:Str}(h:aU x=true):x.length<=8:=by
 unfold aU at h;simp[-U5,-U6,aC,aG]at h;exact h.1.1.2
theorem cE{g1 g2:Xv}{f:Sv}{ρ ρ':cX}(h1:g1 ρ=none)(h2:f ρ=some (.nx ρ')):gF g1 f g2 ρ=g2 ρ':=by unfold gF;rw[h1,h2];rfl
theorem e9{g1 g2:Xv}{f:Sv}{ρ:cX}{x:Str}(h:g1 ρ=some x):gF g1 f g2 ρ=some x:=by unfold gF;rw[h];rfl
theorem nX{c:Bv}{f:Xv}{ρ:cX}(h:c ρ=some false):CP c f vP ρ=none:=by unfold CP;rw[h];rfl
theorem nY{c:Bv}{g:Xv}{x:Str}{ρ:cX}(h:c ρ=some true):CP c (GH x) g ρ=some x:=by unfold CP;rw[h];rfl
theorem xc{f:Lv}{G:List D->Option Str}{ρ:cX}{ds:List D}(h:f ρ=some ds):lC G f ρ=G ds:=by unfold lC;rw[h];rfl
theorem zH{g:Gv}{b:Sv}{gx:Xv}{c:Str}(I:Nat->cX->Prop)(N:Nat->Prop):∀(xs:List D) (i:Nat) (ρ:cX),I i ρ->(∀j x ρ,xs[j]?=some x->I (i+j) ρ->∃J,g x ρ=some J/\((N (i+j)/\gx J=some c)\/(¬ N (i+j)/\gx J=none/\∃G,b J=some (.nx G)/\I (i+j+1) G)))->
  ((∃j,i<=j/\j<i+xs.length/\N j)->kC g b gx xs ρ=some c)/\((∀j,i<=j->j<i+xs.length->¬ N j)->kC g b gx xs ρ=none)
 | [],_,_,_,_=>⟨λ⟨j,h1,h2,_⟩=>absurd h2 (by rw[ZG];lia),λ_=>rfl⟩
 | x::xs,i,ρ,h,k=>by
  obtain⟨J,e1,q⟩:=k 0 x ρ rfl h;have st:kC g b gx (x::xs) ρ=((gx J).map some).getD ((b J).bind λo=>match o with
   | .nx G=>kC g b gx xs G
   | .ct G=>kC g b gx xs G
   | _=>none):=by
   show(g x ρ).bind _=_;rw[e1];rfl
  rw[st];rcases q with⟨U,W⟩|⟨U,W,G,e3,h2⟩
  ·rw[W]
   exact⟨λ_=>rfl,λz=>absurd U (z i (VG _) (by rw[WI];lia))⟩
  ·rw[W,e3]
   obtain⟨q1,q2⟩:=zH I N xs (i+1) G h2 λj x ρ hj hI=>by
    have:=k (j+1) x ρ hj (by rw[show i+(j+1)=i+1+j by lia];exact hI);rw[show i+(j+1)=i+1+j by lia]at this;exact this
   refine⟨λ⟨j,h3,h4,Y⟩=>q1 ⟨j,?_,by rw[WI]at h4;lia,Y⟩,λz=>q2 λj h3 h4=>z j (by lia) (by rw[WI];lia)⟩;rcases Nat.lt_or_ge i j with h6|h6
   ·exact h6
   ·exact absurd Y (by rw[show j=i by lia];exact U)
theorem uL{f:Lv}{g:Gv}{b:Sv}{gx:Xv}{ρ:cX}{items:List D}{o:Option Str}(h:f ρ=some items)(e:kC g b gx items ρ=o):J4 f g b gx ρ=o:=by unfold J4;rw[h];exact e
theorem QF{N:Type}{g:Gv}{b:Sv}{gx:Xv}{c:Str}(F:N->D)(I:Nat->cX->Prop)(B:Nat->N->Prop)(l:List N)(ρ:cX)(h:I 0 ρ)(k:∀j a ρ,l[j]?=some a->I j ρ->∃q,g (F a) ρ=some q/\((B j a/\gx q=some c)\/(¬ B j a/\gx q=none/\∃G,b q=some (.nx G)/\I (j+1) G))) :
  ((∃j a,l[j]?=some a/\B j a)->kC g b gx (l.map F) ρ=some c)/\((∀j a,l[j]?=some a->¬ B j a)->kC g b gx (l.map F) ρ=none):=by
 obtain⟨Y,q2⟩:=zH (g:=g) (b:=b) (gx:=gx) (c:=c) I (λj=>∃a,l[j]?=some a/\B j a) (l.map F) 0 ρ h λj x ρ W U=>by
  rw[Nat.zero_add]at U ⊢;rw[VM]at W;obtain⟨a,J,rfl⟩:=map_some W;obtain⟨q,e,r⟩:=k j a ρ J U;refine⟨q,e,r.imp (λ⟨u,v⟩=>⟨⟨a,J,u⟩,v⟩) λ⟨u,v⟩=>⟨λ⟨a',h1,h2⟩=>?_,v⟩⟩;rw[J]at h1;cases h1;exact u h2
 refine⟨λ⟨j,a,h1,h2⟩=>Y ⟨j,XN _,?_,a,h1,h2⟩,λz=>q2 λj _ _ ⟨a,h1,h2⟩=>z j a h1 h2⟩;rw[VL,Nat.zero_add];exact(List.getElem?_eq_some_iff.mp h1).1
noncomputable def jL(C:Bk)(k:Int):Bool:=decide (0<=k) && decide (k<(C.kinds.length:Int))
noncomputable def rK(C:Bk)(nm:Str)(n:Nat):Bool:=C.makes.any λm=>decide (m.nm=nm) && decide (m.takes.length=n)
def AX(kn:List Str)(x:Str):Bool:=aU x && !kn.contains x
noncomputable def cls(w:Int):Option Str:=if w=3 then some "NoName" else if w=4 then some "NoNumber" else if w=5 then some "NoKind" else if w=6 then some "NoDeed" else none
theorem kL{C:Bk}{k:Int}:fQ [aV C,.int k]=some (.bl (jL C k)):=by
 refine aM ?_;unfold jL;by_cases a:0<=k
 ·by_cases b:k<(C.kinds.length:Int)
  ·simp_all[kG,aA,bW,eL,a,b]
  ·simp_all[kG,aA,bW,eL,a,b]
 ·simp_all[kG,aA,bW,eL,a]
theorem cU{C:Bk}{k:Int}(h:jL C k=true):iO [aV C,.int k]=some .non:=jA (ρ:=[some (aV C),some (.int k)]) (by simp_all[mC,aA,kL,h])
theorem vA{C:Bk}{k:Int}:fG [aV C,.int k]=(if jL C k=true then none else some "NoKind" : Option Str):=by
 by_cases h:jL C k=true
 ·rw[if_pos h];exact nX (by simp_all[aA,kL,h])
 ·rw[if_neg h];rw[Y4]at h;exact nY (by simp_all[aA,kL,h])
theorem K8{kn:List Str}{x:Str}(q:x.length<=1000)(h:AX kn x=true):eB [.lst (kn.map .str),.str x]=some .non:=by
 have e:=nM (x:=x) q;have i:=uZ x kn;unfold AX at h;rw[WD,zaX]at h;rw[h.1]at e;rw[h.2]at i;exact jA (ρ:=[some (.lst (kn.map .str)),some (.str x)]) (by simp_all[g7,aA,e,i])
theorem K4{kn:List Str}{x:Str}(q:x.length<=1000):cS [.lst (kn.map .str),.str x]=(if AX kn x=true then none else some "NoName" : Option Str):=by
 have e:=nM (x:=x) q;have i:=uZ x kn;unfold AX;cases h1:aU x with
 | false=>rw[h1]at e;exact nY (by simp_all[aA,e])
 | true=>
  rw[h1]at e;cases h2:kn.contains x with
  | true=>rw[h2]at i;exact nY (by simp_all[aA,e,i])
  | false=>rw[h2]at i;exact nX (by simp_all[aA,e,i])
theorem u0{C:Bk}{kn l:D}{nm:Str}{ps:List D}:∀(ms:List Mk) (o:Option D),(ms.any (λm=>decide (m.nm=nm) && decide (m.takes.length=ps.length))=true->kS (aY 3) (kP (yX (fN (a6 lU (a6 aP (aH 3) (eC (.int 0))) (a6 aP (aH 2) (eC (.int 1))))) (fN (a6 lU (aS g5 (aI (a6 aP (aH 3) (eC (.int 1))) bC)) (aS g5 (aI (a6 aP (aH 2) (eC (.int 2))) bC))))) KG nH) (ms.map nZ) [some (aV C),some kn,some (.tup [l,.str nm,.tup ps]),o]=some (.rt .non))
  /\ (ms.any (λm=>decide (m.nm=nm) && decide (m.takes.length=ps.length))=false->∃ρ,kS (aY 3) (kP (yX (fN (a6 lU (a6 aP (aH 3) (eC (.int 0))) (a6 aP (aH 2) (eC (.int 1))))) (fN (a6 lU (aS g5 (aI (a6 aP (aH 3) (eC (.int 1))) bC)) (aS g5 (aI (a6 aP (aH 2) (eC (.int 2))) bC))))) KG nH) (ms.map nZ) [some (aV C),some kn,some (.tup [l,.str nm,.tup ps]),o]=some (.nx ρ))
 | [],_=>⟨λh=>(by cases h),λ_=>⟨_,rfl⟩⟩
 | m::ms,o=>by
  have ih:=u0 (C:=C) (kn:=kn) (l:=l) (nm:=nm) (ps:=ps) ms (some (nZ m));by_cases h1:m.nm=nm
  ·by_cases h2:m.takes.length=ps.length
   ·refine⟨λ_=>?_,λh=>?_⟩
    ·simp_all[kS,turn,vL,CI,at1,at2,h1,h2,tupI,KG]
    ·rw[WJ,decide_eq_true h1,decide_eq_true h2]at h;cases h
   ·have q:¬ ((m.takes.length:Int)=(ps.length:Int)):=by lia
    rw[WJ,decide_eq_false h2,ZL,zae];simp_all[kS,turn,vL,CI,at1,at2,h1,q,tupI];simp[-U5,-U6,aC,aG]at ih;exact ih
  ·rw[WJ,decide_eq_false h1,Bool.false_and,zae]
   simp_all[kS,turn,vL,CI,at1,h1];simp[-U5,-U6,aC,aG]at ih;exact ih
theorem gJ{C:Bk}{kn:D}{nm:Str}{ps:List D}(h:rK C nm ps.length=true):dP [aV C,kn,.tup [.str "use",.str nm,.tup ps]]=some .non:=by
 refine aM ?_;have e:=(u0 (C:=C) (kn:=kn) (l:=.str "use") (ps:=ps) C.makes none).1 h;unfold oJ;rw[q0 (d:=.non)];simp_all[aA,vK];exact e
theorem QG{g1 g2:Xv}{f:Sv}{ρ:cX}{d:D}(h1:g1 ρ=none)(h2:f ρ=some (.rt d)):gF g1 f g2 ρ=none:=by unfold gF;rw[h1,h2];rfl
theorem FH{f:Lv}{g:Gv}{b:Sv}{ρ:cX}{items:List D}{o:Option Out}(h:f ρ=some items)(e:kS g b items ρ=o):y2 f g b ρ=o:=by rw[q_for,h,aC];exact e
theorem AO{C:Bk}{kn:D}{nm:Str}{ps:List D}:eV [aV C,kn,.tup [.str "use",.str nm,.tup ps]]=(if rK C nm ps.length=true then none else some "NoDeed" : Option Str):=by
 obtain⟨z,G⟩:=u0 (C:=C) (kn:=kn) (l:=.str "use") (nm:=nm) (ps:=ps) C.makes none;have q:AK (a6 aP (aH 0) (eC (.int 3))) [some (aV C),some kn,some (.tup [.str "use",.str nm,.tup ps]),none]=some (C.makes.map nZ):=by simp_all[vK]
 unfold eV kR oK;by_cases h:rK C nm ps.length=true
 ·rw[if_pos h]
  exact QG rfl (FH q (z h))
 ·rw[if_neg h]
  rw[Y4]at h;obtain⟨ρ,e⟩:=G h;exact cE (ρ':=ρ) rfl (FH q e)
def own(C:Bk)(kn:List Str):Pt->Int
 | .name x=>if kn.contains x=true then 0 else 3
 | .num n k=>if 0<=n/\n<C.M then(if jL C k=true then 0 else 5)else 4
 | .use0 nm=>if rK C nm 0=true then 0 else 6
 | .use1 nm _=>if rK C nm 1=true then 0 else 6
 | .use2 nm _ _=>if rK C nm 2=true then 0 else 6
 | .use3 nm _ _ _=>if rK C nm 3=true then 0 else 6
 | .lett x _ _=>if AX kn x=true then 0 else 3
 | .pick c k _ _ _=>if jL C c=true/\jL C k=true then 0 else 5
 | .again n k x _ _=>if 0<=n/\n<=9 then(if jL C k=true then(if AX kn x=true then 0 else 3)else 5)else 4
def fE:Pt->Prop
 | .name _=>True
 | .num _ _=>True
 | .use0 _=>True
 | .use1 _ p=>fE p
 | .use2 _ p q=>fE p/\fE q
 | .use3 _ p q r=>fE p/\fE q/\fE r
 | .lett x p q=>x.length<=1000/\fE p/\fE q
 | .pick _ _ p q r=>fE p/\fE q/\fE r
 | .again _ _ x p q=>x.length<=1000/\fE p/\fE q
theorem C9{g k:Pt}(h:fE g)(q:k∈kids g):fE k:=by
 cases g <;> simp[-U5,-U6,aC,aG,kids]at q
 ·subst q;exact h
 ·rcases q with rfl|rfl;exact h.1;exact h.2
 ·rcases q with rfl|rfl|rfl;exact h.1;exact h.2.1;exact h.2.2
 ·rcases q with rfl|rfl;exact h.2.1;exact h.2.2
 ·rcases q with rfl|rfl|rfl;exact h.1;exact h.2.1;exact h.2.2
 ·rcases q with rfl|rfl;exact h.2.1;exact h.2.2
def A3:List (Str×(List D->Option D)):=[("name",dW),("number",cN),("use",dP),("let",eU),("pick",dX),("again",cY)]
theorem NL{ds:List D}:gE A3 (.str "name") ds=dW ds:=by simp_all[gE,A3]
theorem QO{ds:List D}:gE A3 (.str "number") ds=cN ds:=by
 have h1:¬ ("name" : Str) = "number" := by decide
 simp_all[gE,A3,h1]
theorem AS{ds:List D}:gE A3 (.str "use") ds=dP ds:=by
 have h1:¬ ("name" : Str) = "use" := by decide
 have h2:¬ ("number" : Str) = "use" := by decide
 simp_all[gE,A3,h1,h2]
theorem PQ{ds:List D}:gE A3 (.str "let") ds=eU ds:=by
 have h1:¬ ("name" : Str) = "let" := by decide
 have h2:¬ ("number" : Str) = "let" := by decide
 simp_all[gE,A3,h1,h2,xB]
theorem MC{ds:List D}:gE A3 (.str "pick") ds=dX ds:=by
 have h1:¬ ("name" : Str) = "pick" := by decide
 have h2:¬ ("number" : Str) = "pick" := by decide
 have z:¬ ("use" : Str) = "pick" := by decide
 have q:¬ ("let" : Str) = "pick" := by decide
 simp_all[gE,A3,h1,h2,z,q]
theorem JQ{ds:List D}:gE A3 (.str "again") ds=cY ds:=by
 have h1:¬ ("name" : Str) = "again" := by decide
 have h2:¬ ("number" : Str) = "again" := by decide
 simp_all[gE,A3,h1,h2,yV,JY,GD]
def nF:List (Str×(List D->Option Str)):=[("name",iN),("number",dS),("use",eV),("let",eT),("pick",fL),("again",eM)]
theorem GV{ds:List D}:gR nF (.str "name") ds=iN ds:=by simp_all[gR,nF]
theorem M2{ds:List D}:gR nF (.str "number") ds=dS ds:=by
 have h1:¬ ("name" : Str) = "number" := by decide
 simp_all[gR,nF,h1]
theorem vH{ds:List D}:gR nF (.str "use") ds=eV ds:=by
 have h1:¬ ("name" : Str) = "use" := by decide
 have h2:¬ ("number" : Str) = "use" := by decide
 simp_all[gR,nF,h1,h2]
theorem MW{ds:List D}:gR nF (.str "let") ds=eT ds:=by
 have h1:¬ ("name" : Str) = "let" := by decide
 have h2:¬ ("number" : Str) = "let" := by decide
 simp_all[gR,nF,h1,h2,xB]
theorem GS{ds:List D}:gR nF (.str "pick") ds=fL ds:=by
 have h1:¬ ("name" : Str) = "pick" := by decide
 have h2:¬ ("number" : Str) = "pick" := by decide
 have z:¬ ("use" : Str) = "pick" := by decide
 have q:¬ ("let" : Str) = "pick" := by decide
 simp_all[gR,nF,h1,h2,z,q]
theorem DW{ds:List D}:gR nF (.str "again") ds=eM ds:=by
 have h1:¬ ("name" : Str) = "again" := by decide
 have h2:¬ ("number" : Str) = "again" := by decide
 simp_all[gR,nF,h1,h2,yV,JY,GD]
theorem QH{C:Bk}{kn:List Str}:∀ {g:Pt},fE g->(own C kn g=0->gE A3 (.str (tg g)) [aV C,.lst (kn.map .str),pD g]=some .non)/\gR nF (.str (tg g)) [aV C,.lst (kn.map .str),pD g]=cls (own C kn g)
 | .name x,_=>by
  have i:=pX x kn;rw[tg,NL,GV];rw[own];cases h:kn.contains x with
  | true=>
   rw[h]at i;exact⟨λ_=>jA (ρ:=[some (aV C),some (.lst (kn.map .str)),some (pD (.name x))]) (by simp_all[lY,aA,pD,at1,i]),nX (by simp_all[aA,pD,at1,i])⟩
  | false=>
   rw[h]at i;exact⟨λz=>absurd z (by decide),nY (by simp_all[aA,pD,at1,i])⟩
 | .num n k,_=>by
  rw[tg,QO,M2];rw[own];have N:=vA (C:=C) (k:=k);by_cases h:0<=n/\n<C.M
  ·rw[if_pos h]
   have J:dS [aV C,.lst (kn.map .str),pD (.num n k)]=fG [aV C,.int k]:=(cE (ρ':=[some (aV C),some (.lst (kn.map .str)),some (pD (.num n k))]) (nX (by simp_all[aA,bW,pD,at1,vN,h.1,h.2])) (by simp_all[aA,bW,pD,at1,vN,h.1,h.2])).trans (xc (by simp_all[pD,at2]));rw[J,N];by_cases G:jL C k=true
   ·rw[if_pos G,if_pos G]
    exact⟨λ_=>jA (ρ:=[some (aV C),some (.lst (kn.map .str)),some (pD (.num n k))]) (by simp_all[jN,aA,bW,pD,at1,at2,vN,h.1,h.2,cU G]),rfl⟩
   ·rw[if_neg G,if_neg G]
    exact⟨λz=>absurd z (by decide),rfl⟩
  ·rw[if_neg h]
   refine⟨λz=>absurd z (by decide),e9 (nY ?_)⟩;by_cases a:0<=n
   ·have b:¬ n<C.M:=λb=>h ⟨a,b⟩
    simp_all[aA,bW,pD,at1,vN,a,b]
   ·simp_all[aA,bW,pD,at1,vN,a]
 | .use0 nm,_=>by
  rw[tg,AS,vH];rw[own];have x:=AO (C:=C) (kn:=.lst (kn.map .str)) (nm:=nm) (ps:=[]);have v:=gJ (C:=C) (kn:=.lst (kn.map .str)) (nm:=nm) (ps:=[]);rw[pD,x];show(_->_)/\(if rK C nm 0=true then none else _)=_;by_cases h:rK C nm 0=true
  ·rw[if_pos h,if_pos h];exact⟨λ_=>v h,rfl⟩
  ·rw[if_neg h,if_neg h];exact⟨λz=>absurd z (by decide),rfl⟩
 | .use1 nm p,_=>by
  rw[tg,AS,vH];rw[own];have x:=AO (C:=C) (kn:=.lst (kn.map .str)) (nm:=nm) (ps:=[pD p]);have v:=gJ (C:=C) (kn:=.lst (kn.map .str)) (nm:=nm) (ps:=[pD p]);rw[pD,x];show(_->_)/\(if rK C nm 1=true then none else _)=_;by_cases h:rK C nm 1=true
  ·rw[if_pos h,if_pos h];exact⟨λ_=>v h,rfl⟩
  ·rw[if_neg h,if_neg h];exact⟨λz=>absurd z (by decide),rfl⟩
 | .use2 nm p q,_=>by
  rw[tg,AS,vH];rw[own];have x:=AO (C:=C) (kn:=.lst (kn.map .str)) (nm:=nm) (ps:=[pD p,pD q]);have v:=gJ (C:=C) (kn:=.lst (kn.map .str)) (nm:=nm) (ps:=[pD p,pD q]);rw[pD,x];show(_->_)/\(if rK C nm 2=true then none else _)=_;by_cases h:rK C nm 2=true
  ·rw[if_pos h,if_pos h];exact⟨λ_=>v h,rfl⟩
  ·rw[if_neg h,if_neg h];exact⟨λz=>absurd z (by decide),rfl⟩
 | .use3 nm p q r,_=>by
  rw[tg,AS,vH];rw[own];have x:=AO (C:=C) (kn:=.lst (kn.map .str)) (nm:=nm) (ps:=[pD p,pD q,pD r]);have v:=gJ (C:=C) (kn:=.lst (kn.map .str)) (nm:=nm) (ps:=[pD p,pD q,pD r]);rw[pD,x];show(_->_)/\(if rK C nm 3=true then none else _)=_;by_cases h:rK C nm 3=true
  ·rw[if_pos h,if_pos h];exact⟨λ_=>v h,rfl⟩
  ·rw[if_neg h,if_neg h];exact⟨λz=>absurd z (by decide),rfl⟩
 | .lett x p q,hs=>by
  rw[tg,PQ,MW];rw[own];have Y:=K4 (kn:=kn) hs.1;have J:eT [aV C,.lst (kn.map .str),pD (.lett x p q)]=cS [.lst (kn.map .str),.str x]:=by
   unfold eT kR oG;exact xc (by simp_all[aA,pD,at1])
  rw[J,Y];by_cases h:AX kn x=true
  ·rw[if_pos h,if_pos h]
   exact⟨λ_=>jA (ρ:=[some (aV C),some (.lst (kn.map .str)),some (pD (.lett x p q))]) (by simp_all[n8,aA,pD,at1,K8 hs.1 h]),rfl⟩
  ·rw[if_neg h,if_neg h];exact⟨λz=>absurd z (by decide),rfl⟩
 | .pick c k p q r,_=>by
  rw[tg,MC,GS];rw[own];have U:=vA (C:=C) (k:=c);have N:=vA (C:=C) (k:=k);by_cases h:jL C c=true
  ·have J:fL [aV C,.lst (kn.map .str),pD (.pick c k p q r)]=fG [aV C,.int k]:=(cE (ρ':=[some (aV C),some (.lst (kn.map .str)),some (pD (.pick c k p q r))]) ((xc (ds:=[aV C,.int c]) (by simp_all[aA,pD,at1])).trans (by rw[U,if_pos h])) (by simp_all[aA,pD,at1,cU h])).trans (xc (by simp_all[pD,at2]))
   rw[J,N];by_cases G:jL C k=true
   ·rw[if_pos G,if_pos ⟨h,G⟩]
    exact⟨λ_=>jA (ρ:=[some (aV C),some (.lst (kn.map .str)),some (pD (.pick c k p q r))]) (by simp_all[mB,aA,pD,at1,at2,cU h,cU G]),rfl⟩
   ·rw[if_neg G,if_neg λz=>G z.2]
    exact⟨λz=>absurd z (by decide),rfl⟩
  ·rw[if_neg λz=>h z.1]
   exact⟨λz=>absurd z (by decide),e9 ((xc (ds:=[aV C,.int c]) (by simp_all[aA,pD,at1])).trans (by rw[U,if_neg h]))⟩
 | .again n k x p q,hs=>by
  rw[tg,JQ,DW];rw[own];have Y:=K4 (kn:=kn) hs.1;have N:=vA (C:=C) (k:=k);by_cases h:0<=n/\n<=9
  case neg=>
   rw[if_neg h];refine⟨λz=>absurd z (by decide),e9 (nY ?_)⟩;by_cases a:0<=n
   ·have b:¬ n<=9:=λb=>h ⟨a,b⟩
    simp_all[aA,bW,pD,at1,a,b]
   ·simp_all[aA,bW,pD,at1,a]
  rw[if_pos h];by_cases G:jL C k=true
  case neg=>
   rw[if_neg G];exact⟨λz=>absurd z (by decide),(cE (ρ':=[some (aV C),some (.lst (kn.map .str)),some (pD (.again n k x p q))]) (nX (by simp_all[aA,bW,pD,at1,h.1,h.2])) (by simp_all[aA,bW,pD,at1,h.1,h.2])).trans (e9 ((xc (ds:=[aV C,.int k]) (by simp_all[pD,at2])).trans (by rw[N,if_neg G])))⟩
  rw[if_pos G];have J:eM [aV C,.lst (kn.map .str),pD (.again n k x p q)]=cS [.lst (kn.map .str),.str x]:=(cE (ρ':=[some (aV C),some (.lst (kn.map .str)),some (pD (.again n k x p q))]) (nX (by simp_all[aA,bW,pD,at1,h.1,h.2])) (by simp_all[aA,bW,pD,at1,h.1,h.2])).trans ((cE (ρ':=[some (aV C),some (.lst (kn.map .str)),some (pD (.again n k x p q))]) ((xc (ds:=[aV C,.int k]) (by simp_all[pD,at2])).trans (by rw[N,if_pos G])) (by simp_all[pD,at2,cU G])).trans (xc (by simp_all[pD,LJ])));rw[J,Y];by_cases W:AX kn x=true
  ·rw[if_pos W,if_pos W]
   exact⟨λ_=>jA (ρ:=[some (aV C),some (.lst (kn.map .str)),some (pD (.again n k x p q))]) (by simp_all[k7,aA,bW,pD,at1,at2,LJ,h.1,h.2,cU G,K8 hs.1 W]),rfl⟩
  ·rw[if_neg W,if_neg W];exact⟨λz=>absurd z (by decide),rfl⟩
theorem DN{p:D}{i:Int}(h:¬ i=1):cH [p,.int i]=some .non:=aM (by simp_all[c8,aA,h])
noncomputable def kx:Pt->Nat->List Str
 | .lett x _ _,1=>[x]
 | .again _ _ x _ _,1=>[x]
 | _,_=>[]
noncomputable def sF:List Str->D
 | []=>.non
 | x::_=>.str x
theorem FV(g:Pt){i:Nat}(h:¬ i=1):kx g i=[]:=by
 cases g with
 | lett x p q=>cases i with
  | zero=>rfl
  | succ i=>cases i with
   | zero=>exact absurd rfl h
   | succ i=>rfl
 | again n k x p q=>cases i with
  | zero=>rfl
  | succ i=>cases i with
   | zero=>exact absurd rfl h
   | succ i=>rfl
 | _=>rfl
theorem C5(g:Pt)(i:Nat):cH [pD g,.int (i:Int)]=some (sF (kx g i)):=by
 by_cases h:i=1
 ·subst h
  have oth:∀w l,pD g=.tup (.str w::l)->¬ w = "let" -> ¬ w = "again" -> cH [pD g,.int 1]=some .non:=λw l e h1 h2=>by
   rw[e];exact aM (by simp_all[c8,aA,at0,h1,h2])
  cases g with
  | lett x p q=>exact aM (by simp_all[c8,aA,pD,at0,at1,kx,sF])
  | again n k x p q=>exact aM (by simp_all[c8,aA,pD,at0,LJ,J0,kx,sF])
  | name x=>exact oth _ _ rfl OC OA
  | num n k=>exact oth _ _ rfl OG OE
  | pick c k p q r=>exact oth _ _ rfl KB GD
  | _=>exact oth _ _ rfl xB yV
 ·rw[FV g h];exact DN (by lia)
def wr(C:Bk):List Str->Pt->Int
 | kn,.name x=>own C kn (.name x)
 | kn,.num n k=>own C kn (.num n k)
 | kn,.use0 nm=>own C kn (.use0 nm)
 | kn,.use1 nm p=>f2 (own C kn (.use1 nm p)) (wr C kn p)
 | kn,.use2 nm p q=>f2 (f2 (own C kn (.use2 nm p q)) (wr C kn p)) (wr C kn q)
 | kn,.use3 nm p q r=>f2 (f2 (f2 (own C kn (.use3 nm p q r)) (wr C kn p)) (wr C kn q)) (wr C kn r)
 | kn,.lett x p q=>f2 (f2 (own C kn (.lett x p q)) (wr C kn p)) (wr C (kn++[x]) q)
 | kn,.pick c k p q r=>f2 (f2 (f2 (own C kn (.pick c k p q r)) (wr C kn p)) (wr C kn q)) (wr C kn r)
 | kn,.again n k x p q=>f2 (f2 (own C kn (.again n k x p q)) (wr C kn p)) (wr C (kn++[x]) q)
theorem ID(C:Bk)(kn:List Str)(g:Pt):wr C kn g=((kids g).zipIdx).foldl (λa p=>f2 a (wr C (kn++kx g p.2) p.1)) (own C kn g):=by
 cases g <;> simp_all[kids,wr,kx,zaB]
def Cw(w:Int):Prop:=w=0\/∃s,cls w=some s
theorem Cw.f2{a b:Int}(z:Cw a)(q:Cw b):Cw (f2 a b):=by
 unfold Law.f2;by_cases h:a=0
 ·rw[if_pos h];exact q
 ·rw[if_neg h];exact z
theorem gZ(C:Bk)(kn:List Str)(g:Pt):Cw (own C kn g):=by
 have J:Cw 3:=.inr ⟨_,rfl⟩;have z:Cw 4:=.inr ⟨_,rfl⟩;have q:Cw 5:=.inr ⟨_,rfl⟩;have G:Cw 6:=.inr ⟨_,rfl⟩;have c0:Cw 0:=.inl rfl;cases g <;> unfold own <;> (repeat' split) <;> assumption
theorem gC(C:Bk):∀(g:Pt) (kn:List Str),Cw (wr C kn g)
 | .name x,kn=>gZ C kn _
 | .num n k,kn=>gZ C kn _
 | .use0 nm,kn=>gZ C kn _
 | .use1 nm p,kn=>(gZ C kn _).f2 (gC C p kn)
 | .use2 nm p q,kn=>((gZ C kn _).f2 (gC C p kn)).f2 (gC C q kn)
 | .use3 nm p q r,kn=>(((gZ C kn _).f2 (gC C p kn)).f2 (gC C q kn)).f2 (gC C r kn)
 | .lett x p q,kn=>((gZ C kn _).f2 (gC C p kn)).f2 (gC C q _)
 | .pick c k p q r,kn=>(((gZ C kn _).f2 (gC C p kn)).f2 (gC C q kn)).f2 (gC C r kn)
 | .again n k x p q,kn=>((gZ C kn _).f2 (gC C p kn)).f2 (gC C q _)
theorem uU{q:Type}{F:q->Int}{a:Int}(h:¬ a=0):∀l:List q,l.foldl (λa p=>f2 a (F p)) a=a
 | []=>rfl
 | p::l=>by rw[zad,show f2 a (F p)=a from if_neg h];exact uU h l
theorem eX{b:Int}:f2 0 b=b:=if_pos rfl
theorem pC{kn:List Str}{x:Str}(h:kn.length<=900):gP (.lst (kn.map .str)) (.lst [.str x])=some (.lst ((kn++[x]).map .str)):=by
 have q:aZ (kn.length+1)=true:=decide_eq_true (by lia);simp_all[q]
def jC:Lv:=aI (aH 0) (aI (T4 (fN (a6 KC (aH 5) (eC .non))) (aH 1) (a6 gP (aH 1) (vJ (aI (aH 5) bC)))) (aI (aH 4) bC))
def RS:Lv:=FT (aI (aS gO (aI (aH 2) bC)) bC)
def CS:Gv:=nC 2 (d7 (aY 3) (d7 (aY 4) rH))
def jB:Sv:=eW 5 (aS cH (aI (aH 2) (aI (aH 3) bC)))
theorem JN{C:Bk}{kn:List Str}{g k:Pt}{i:Nat}(q:kn.length<=900){o3:Option D}:jC [some (aV C),some (.lst (kn.map .str)),some (pD g),o3,some (pD k),some (sF (kx g i))]=some [aV C,.lst ((kn++kx g i).map .str),pD k]:=by
 unfold jC;have h:kx g i=[]\/∃x,kx g i=[x]:=by
  by_cases h:i=1
  ·subst h;cases g <;> simp_all[kx]
  ·exact .inl (FV g h)
 rcases h with h|⟨x,h⟩
 ·rw[h];simp_all[sF,tX]
 ·rw[h]
  have ks:=pC (kn:=kn) (x:=x) q;generalize D.lst ((kn++[x]).map .str)=K1 at ks ⊢;simp_all[sF,tX,ks]
theorem P9{g k:Pt}{i:Nat}{a b o3 o4 o5:Option D}:(CS (.tup [.int (i:Int),pD k]) [a,b,some (pD g),o3,o4,o5])=some [a,b,some (pD g),some (.int (i:Int)),some (pD k),o5]:=by
 unfold CS;simp[-U5,-U6,aC,aG]
theorem JD{g k:Pt}{i:Nat}{a b o5:Option D}:jB [a,b,some (pD g),some (.int (i:Int)),some (pD k),o5]=some (.nx [a,b,some (pD g),some (.int (i:Int)),some (pD k),some (sF (kx g i))]):=by
 unfold jB;simp_all[C5 g i]
theorem KS{C:Bk}{g:Pt}{kn:List Str}(G:kn.length<=900){R:List D->Option D}{RX:List D->Option Str}:∀(l:List Pt) (i:Nat) (o3 o4 o5:Option D),(∀j k,l[j]?=some k->(wr C (kn++kx g (i+j)) k=0->R [aV C,.lst ((kn++kx g (i+j)).map .str),pD k]=some .non)/\RX [aV C,.lst ((kn++kx g (i+j)).map .str),pD k]=cls (wr C (kn++kx g (i+j)) k))->
  ((l.zipIdx i).foldl (λa p=>f2 a (wr C (kn++kx g p.2) p.1)) 0=0->∃ρ,kS CS (bI jB (d8 (aS R jC))) (gD i (l.map pD)) [some (aV C),some (.lst (kn.map .str)),some (pD g),o3,o4,o5]=some (.nx ρ))
  /\ kC CS (bI jB (d8 (aS R jC))) (gF vP jB (lC RX jC)) (gD i (l.map pD)) [some (aV C),some (.lst (kn.map .str)),some (pD g),o3,o4,o5]=cls ((l.zipIdx i).foldl (λa p=>f2 a (wr C (kn++kx g p.2) p.1)) 0)
 | [],i,o3,o4,o5,_=>⟨λ_=>⟨_,rfl⟩,rfl⟩
 | k::l,i,o3,o4,o5,h=>by
  obtain⟨h1,h2⟩:=h 0 k rfl;rw[Nat.add_zero]at h1 h2;obtain⟨i1,Y⟩:=KS G l (i+1) (some (.int (i:Int))) (some (pD k)) (some (sF (kx g i))) λj k W=>by
   have:=h (j+1) k W;rw[show i+(j+1)=i+1+j by lia]at this;exact this
  rw[List.zipIdx_cons,zad,eX];have q:=JN (C:=C) (kn:=kn) (g:=g) (k:=k) (i:=i) G (o3:=some (.int (i:Int)));have ct:=P9 (g:=g) (k:=k) (i:=i) (a:=some (aV C)) (b:=some (.lst (kn.map .str))) (o3:=o3) (o4:=o4) (o5:=o5);have J:=JD (g:=g) (k:=k) (i:=i) (a:=some (aV C)) (b:=some (.lst (kn.map .str))) (o5:=o5);have st:kC CS (bI jB (d8 (aS R jC))) (gF vP jB (lC RX jC)) (gD i ((k::l).map pD)) [some (aV C),some (.lst (kn.map .str)),some (pD g),o3,o4,o5]=((cls (wr C (kn++kx g i) k)).map some).getD ((bI jB (d8 (aS R jC)) [some (aV C),some (.lst (kn.map .str)),some (pD g),some (.int (i:Int)),some (pD k),o5]).bind λo=>match o with
    | .nx ρ2=>kC CS (bI jB (d8 (aS R jC))) (gF vP jB (lC RX jC)) (gD (i+1) (l.map pD)) ρ2
    | .ct ρ2=>kC CS (bI jB (d8 (aS R jC))) (gF vP jB (lC RX jC)) (gD (i+1) (l.map pD)) ρ2
    | _=>none):=by
   show(CS (.tup [.int (i:Int),pD k]) _).bind _=_;rw[ct,aC];have:gF vP jB (lC RX jC) [some (aV C),some (.lst (kn.map .str)),some (pD g),some (.int (i:Int)),some (pD k),o5]=cls (wr C (kn++kx g i) k):=(cE rfl J).trans ((xc q).trans h2);rw[this];try rfl
  rw[st];by_cases hw:wr C (kn++kx g i) k=0
  ·have U:bI jB (d8 (aS R jC)) [some (aV C),some (.lst (kn.map .str)),some (pD g),some (.int (i:Int)),some (pD k),o5]=some (.nx [some (aV C),some (.lst (kn.map .str)),some (pD g),some (.int (i:Int)),some (pD k),some (sF (kx g i))]):=by
    rw[aE J];have N:=h1 hw;generalize D.lst (List.map D.str (kn++kx g i))=K1 at q N;simp_all[q,N]
   rw[hw,U];refine⟨λz=>?_,Y⟩;obtain⟨ρ,e⟩:=i1 z;refine⟨ρ,?_⟩;show(turn CS (bI jB (d8 (aS R jC))) (.tup [.int (i:Int),pD k]) _).bind _=_;have tn:turn CS (bI jB (d8 (aS R jC))) (.tup [.int (i:Int),pD k]) [some (aV C),some (.lst (kn.map .str)),some (pD g),o3,o4,o5]=some (.nx [some (aV C),some (.lst (kn.map .str)),some (pD g),some (.int (i:Int)),some (pD k),some (sF (kx g i))]):=by
    unfold turn;rw[ct,aC];exact U
   rw[tn,aC];exact e
  ·rw[uU (F:=λp:Pt×Nat=>wr C (kn++kx g p.2) p.1) hw]
   obtain⟨s,es⟩:=(gC C k (kn++kx g i)).resolve_left hw;rw[es];exact⟨λz=>absurd z hw,rfl⟩
theorem zN{n:Nat}{f:Sv}{ds:List D}(h:∃ρ,f (aA n ds)=some (.nx ρ)):bM n f ds=some .non:=by
 obtain⟨ρ,h⟩:=h;exact jA h
theorem mE{C:Bk}:∀(n:Nat) (g:Pt) (kn:List Str),deep g<=n->kn.length+deep g<=900->fE g->(wr C kn g=0->dO 6 bQ n [aV C,.lst (kn.map .str),pD g]=some .non)/\CH 6 bQ fJ n [aV C,.lst (kn.map .str),pD g]=cls (wr C kn g)
 | 0,g,_,h,_,_=>by have:=dD g;lia
 | n+1,g,kn,h,hk,hs=>by
  obtain⟨N,q⟩:=QH (C:=C) (kn:=kn) hs;unfold A3 at N;unfold nF at q;have Y:=m7 g;have G:=yY g;obtain⟨l1,W⟩:=KS (C:=C) (g:=g) (kn:=kn) (by have:=dD g;lia) (R:=dO 6 bQ n) (RX:=CH 6 bQ fJ n) (kids g) 0 none none none λj k U=>by
   have mk:=WR U;have dk:=jX mk;have lk:(kx g (0+j)).length<=1:=by
    by_cases z:0+j=1
    ·rw[z];cases g <;> simp_all[kx]
    ·rw[FV g z];decide
   exact mE n k (kn++kx g (0+j)) (by lia) (by rw[WV];lia) (C9 hs mk)
  rw[ID];have it:RS [some (aV C),some (.lst (kn.map .str)),some (pD g),none,none,none]=some (gD 0 ((kids g).map pD)):=by unfold RS;simp_all[Y]
  by_cases hw:own C kn g=0
  ·have J:d8 (yP [("name",dW),("number",cN),("use",dP),("let",eU),("pick",dX),("again",cY)] (a6 aP (aH 2) (eC (.int 0))) (aI (aH 0) (aI (aH 1) (aI (aH 2) bC)))) (aA 6 [aV C,.lst (kn.map .str),pD g])=some (.nx [some (aV C),some (.lst (kn.map .str)),some (pD g),none,none,none]):=by
    simp_all[aA,G,N hw]
   rw[hw];refine⟨λz=>zN ?_,?_⟩
   ·obtain⟨ρ,e⟩:=l1 z
    refine⟨ρ,?_⟩;show bI (d8 _) (y2 RS CS (bI jB (d8 (aS (dO 6 bQ n) jC)))) _=_;rw[aE J,q_for,it,aC];exact e
   ·show gF (qX _ _ _) (d8 _) (J4 RS CS (bI jB (d8 (aS (dO 6 bQ n) jC))) (gF vP jB (lC (CH 6 bQ fJ n) jC))) _=_
    refine(cE ?_ J).trans (uL it W);rw[hw]at q;unfold qX;simp_all[aA,G,q,cls]
  ·rw[uU (F:=λp:Pt×Nat=>wr C (kn++kx g p.2) p.1) hw]
   refine⟨λz=>absurd z hw,?_⟩;obtain⟨s,es⟩:=(gZ C kn g).resolve_left hw;rw[es]at q ⊢;show gF (qX _ _ _) _ _ _=_;refine e9 ?_;unfold qX;simp_all[aA,G,q]
theorem t7{g:Pt}(G:deep g<=60):(¬ big g->iF [pD g]=some .non/\iH [pD g]=none)/\(big g->iH [pD g]=some "TooBig"):=by
 have Y:f6 [pD g]=some (.int (parts g)):=zX 60 g G;have e2:hW [pD g]=some (.int (lets g)):=ET 60 g G;have W:fV [pD g]=some (.int (deep g:Int)):=EY 60 g G;have U:jT [pD g,.int 0]=some (.bl (decide (2<(0:Int)+(rnds g:Int)))):=oZ 60 g 0 G (by decide);have s0:aA 1 [pD g]=[some (pD g)]:=rfl;by_cases J:60<parts g
 ·exact⟨λz=>absurd (.inl J) z,λ_=>e9 (nY (by simp_all[aA,Y,J]))⟩
 have k1:∀x:Xv,gF (CP (fN (a6 kD (aS f6 (aI (aH 0) bC)) (eC (.int 60)))) (GH "TooBig") vP) (kP (fN (a6 kD (aS f6 (aI (aH 0) bC)) (eC (.int 60)))) kQ nH) x [some (pD g)]=x [some (pD g)]:=λx=>cE (nX (by simp_all[Y,J])) (by simp_all[Y,J])
 by_cases N:2<lets g
 ·exact⟨λz=>absurd (.inr (.inl N)) z,λ_=>(k1 _).trans (e9 (nY (by simp_all[e2,N])))⟩
 have k2:∀x:Xv,gF (CP (fN (a6 kD (aS hW (aI (aH 0) bC)) (eC (.int 2)))) (GH "TooBig") vP) (kP (fN (a6 kD (aS hW (aI (aH 0) bC)) (eC (.int 2)))) kQ nH) x [some (pD g)]=x [some (pD g)]:=λx=>cE (nX (by simp_all[e2,N])) (by simp_all[e2,N])
 by_cases n3:24<deep g
 ·have q:24<(deep g:Int):=by lia
  exact⟨λz=>absurd (.inr (.inr (.inl n3))) z,λ_=>(k1 _).trans ((k2 _).trans (e9 (nY (by simp_all[W,q]))))⟩
 have q:¬ 24<(deep g:Int):=by lia
 have k3:∀x:Xv,gF (CP (fN (a6 kD (aS fV (aI (aH 0) bC)) (eC (.int 24)))) (GH "TooBig") vP) (kP (fN (a6 kD (aS fV (aI (aH 0) bC)) (eC (.int 24)))) kQ nH) x [some (pD g)]=x [some (pD g)]:=λx=>cE (nX (by simp_all[W,q])) (by simp_all[W,q])
 by_cases n4:2<rnds g
 ·rw[decide_eq_true (by lia)]at U
  exact⟨λz=>absurd (.inr (.inr (.inr n4))) z,λ_=>(k1 _).trans ((k2 _).trans ((k3 _).trans (nY (by simp_all[U]))))⟩
 rw[decide_eq_false (by lia)]at U;refine⟨λ_=>⟨jA (ρ:=[some (pD g)]) (by simp_all[mF,aA,Y,e2,W,U,J,N,q]),(k1 _).trans ((k2 _).trans ((k3 _).trans (nX (by simp_all[U]))))⟩,λz=>?_⟩;rcases z with z|z|z|z
 ·exact absurd z J
 ·exact absurd z N
 ·exact absurd z n3
 ·exact absurd z n4
noncomputable def bE(p:Str×Int):D:=.tup [.str p.1,.int p.2]
def RO(C:Bk)(ps:List (Str×Int)):Prop:=∀p∈ps,aU p.1=true/\0<=p.2/\p.2<(C.kinds.length:Int)
structure Hd(C:Bk)(ps:List (Str×Int)):Prop where
 l:ps.length<=6
 k:∀j p,ps[j]?=some p->aU p.1=true/\p.1∉(ps.map (·.1)).take j/\jL C p.2=true
def RW:Gv:=nC 2 (d7 (aY 3) (d7 (aY 4) rH))
def GJ:Bv:=KO (F6 (fN (aS fP (aI (aH 3) bC)))) (fN (a6 F5 (aH 3) (aH 2)))
def LM:Bv:=F6 (fN (aS fQ (aI (aH 0) (aI (aH 4) bC))))
theorem IC{C:Bk}{ps:List (Str×Int)}(hl:∀p∈ps,p.1.length<=1000)(ak:ps.length<=900):(Hd C ps->eN [aV C,.lst (ps.map bE)]=some .non/\cJ [aV C,.lst (ps.map bE)]=none)/\(¬ Hd C ps->cJ [aV C,.lst (ps.map bE)]=some "NoHead"):=by
 by_cases z6:6<(ps.length:Int)
 ·exact⟨λz=>absurd z.l (by lia),λ_=>e9 (nY (by simp_all[aA,z6]))⟩
 have h6:ps.length<=6:=by lia
 have tr:∀(i:Nat) (p:Str×Int) (o3 o4:Option D),ps[i]?=some p->∃q,RW (bE p) [some (aV C),some (.lst (ps.map bE)),some (.lst (((ps.map (·.1)).take i).map .str)),o3,o4]=some q/\q=[some (aV C),some (.lst (ps.map bE)),some (.lst (((ps.map (·.1)).take i).map .str)),some (.str p.1),some (.int p.2)]/\GJ q=some (!aU p.1 || ((ps.map (·.1)).take i).contains p.1)/\LM q=some (!jL C p.2):=λi p o3 o4 G=>by
  refine⟨_,by unfold RW bE;simp[-U5,-U6,aC,aG],rfl,?_,?_⟩
  ·have N:=nM (x:=p.1) (hl p (WR G))
   have W:=uZ p.1 ((ps.map (·.1)).take i);unfold GJ;generalize (ps.map (·.1)).take i=tk at W ⊢;cases hn:aU p.1 with
   | false=>rw[hn]at N;simp_all[N]
   | true=>rw[hn]at N;simp_all[N,W]
  ·unfold LM;simp_all[kL]
 have go:∀(i:Nat) (p:Str×Int),ps[i]?=some p->(xD 2 (aH 3)) [some (aV C),some (.lst (ps.map bE)),some (.lst (((ps.map (·.1)).take i).map .str)),some (.str p.1),some (.int p.2)]=some (.nx [some (aV C),some (.lst (ps.map bE)),some (.lst (((ps.map (·.1)).take (i+1)).map .str)),some (.str p.1),some (.int p.2)]):=λi p G=>by
  have hi:(ps.map (·.1))[i]?=some p.1:=by rw[VM,G];rfl
  have ht:(ps.map (·.1)).take (i+1)=(ps.map (·.1)).take i++[p.1]:=by rw[ZN,hi];rfl
  rw[ht];have hz:aZ ((ps.map (·.1)).take i).length=true:=decide_eq_true (by rw[WZ,VL];lia);generalize (ps.map (·.1)).take i=tk at hz;simp_all[hz]
 have Y:∀(i:Nat) (p:Str×Int),(aU p.1=true/\p.1∉(ps.map (·.1)).take i/\jL C p.2=true)↔((!aU p.1 || ((ps.map (·.1)).take i).contains p.1)=false/\(!jL C p.2)=false):=λi p=>by
  have e:(((ps.map (·.1)).take i).contains p.1=false)↔p.1∉(ps.map (·.1)).take i:=by
   rw[Y1,ne_eq,List.contains_iff_mem]
  rw[Bool.or_eq_false_iff,e,Bool.not_eq_false',Bool.not_eq_false'];exact⟨λ⟨a,b,c⟩=>⟨⟨a,b⟩,c⟩,λ⟨⟨a,b⟩,c⟩=>⟨a,b,c⟩⟩
 have bd:∀(ρ:cX),GJ ρ=some false->LM ρ=some false->(bI (kP GJ kQ nH) (bI (kP LM kQ nH) (xD 2 (aH 3)))) ρ=xD 2 (aH 3) ρ:=λρ a b=>by
  rw[aE (ρ':=ρ) ((F9 a).trans rfl),aE (ρ':=ρ) ((F9 b).trans rfl)]
 obtain⟨q1,q2⟩:=QF (g:=RW) (b:=bI (kP GJ kQ nH) (bI (kP LM kQ nH) (xD 2 (aH 3)))) (gx:=gF (CP GJ (GH "NoHead") vP) (kP GJ kQ nH) (CP LM (GH "NoHead") vP)) (c := "NoHead") bE (λi ρ=>∃(o3 o4:Option D),ρ=[some (aV C),some (.lst (ps.map bE)),some (.lst (((ps.map (·.1)).take i).map .str)),o3,o4]) (λi p=>¬ (aU p.1=true/\p.1∉(ps.map (·.1)).take i/\jL C p.2=true)) ps [some (aV C),some (.lst (ps.map bE)),some (.lst []),none,none] ⟨none,none,by simp[-U5,-U6,aC,aG]⟩ (by
  rintro i p ρ G ⟨o3,o4,rfl⟩;obtain⟨q,N,W,J,U⟩:=tr i p o3 o4 G;refine⟨q,N,?_⟩;rw[Y];cases b1:(!aU p.1 || ((ps.map (·.1)).take i).contains p.1)with
  | true=>rw[b1]at J;exact .inl ⟨λz=>(by cases z.1),e9 (nY J)⟩
  | false=>
   rw[b1]at J;have sk:=cE (g1:=CP GJ (GH "NoHead") vP) (f:=kP GJ kQ nH) (g2:=CP LM (GH "NoHead") vP) (ρ:=q) (ρ':=q) (nX J) ((F9 J).trans rfl);cases b2:(!jL C p.2)with
   | true=>rw[b2]at U;exact .inl ⟨λz=>(by cases z.2),sk.trans (nY U)⟩
   | false=>
    rw[b2]at U;refine .inr ⟨λz=>z ⟨rfl,rfl⟩,sk.trans (nX U),_,(bd _ J U).trans (by rw[W];exact go i p G),_,_,rfl⟩)
 have li:AK (aH 1) [some (aV C),some (.lst (ps.map bE)),some (.lst []),none,none]=some (ps.map bE):=by simp[-U5,-U6,aC,aG]
 have k1:∀ {x:Xv},gF (CP (fN (a6 kD (aS g5 (aI (aH 1) bC)) (eC (.int 6)))) (GH "NoHead") vP) (kP (fN (a6 kD (aS g5 (aI (aH 1) bC)) (eC (.int 6)))) kQ nH) (gF vP (eW 2 (vJ bC)) x) (aA 5 [aV C,.lst (ps.map bE)])=x [some (aV C),some (.lst (ps.map bE)),some (.lst []),none,none]:=λ{x}=>
  (cE (ρ':=[some (aV C),some (.lst (ps.map bE)),none,none,none]) (nX (by simp_all[aA,z6])) (by simp_all[aA,z6])).trans (cE rfl (by simp[-U5,-U6,aC,aG]))
 have xg:(∀j p,ps[j]?=some p->¬ ¬ (aU p.1=true/\p.1∉(ps.map (·.1)).take j/\jL C p.2=true))->cJ [aV C,.lst (ps.map bE)]=none:=λh=>k1.trans (uL li (q2 h))
 have xb:(∃j p,ps[j]?=some p/\¬ (aU p.1=true/\p.1∉(ps.map (·.1)).take j/\jL C p.2=true))->cJ [aV C,.lst (ps.map bE)]=some "NoHead" := λh=>k1.trans (uL li (q1 h))
 refine⟨λH=>⟨zN ?_,xg λj p G z=>z (H.k j p G)⟩,λH=>xb ?_⟩
 ·unfold k4
  rw[aE (ρ':=[some (aV C),some (.lst (ps.map bE)),none,none,none]) (by simp_all[aA,z6])];rw[aE (aN (d:=.lst []) (by simp[-U5,-U6,aC,aG]))];obtain⟨ρ',e,_⟩:=yU (g:=RW) (b:=bI (kP GJ kQ nH) (bI (kP LM kQ nH) (xD 2 (aH 3)))) (items:=ps.map bE) (ρ:=[some (aV C),some (.lst (ps.map bE)),some (.lst []),none,none]) (λi ρ=>∃(o3 o4:Option D),ρ=[some (aV C),some (.lst (ps.map bE)),some (.lst (((ps.map (·.1)).take i).map .str)),o3,o4]) ⟨none,none,by simp[-U5,-U6,aC,aG]⟩ (by
   rintro i x ρ hx ⟨o3,o4,rfl⟩;rw[VM]at hx;obtain⟨p,G,rfl⟩:=Option.map_eq_some_iff.mp hx;obtain⟨q,N,W,J,U⟩:=tr i p o3 o4 G;obtain⟨b1,b2⟩:=(Y i p).mp (H.k i p G);rw[b1]at J;rw[b2]at U;exact⟨_,by unfold turn;rw[N,aC];exact(bd _ J U).trans (by rw[W];exact go i p G),_,_,rfl⟩)
  exact⟨ρ',by rw[q_for];exact e⟩
 ·refine Classical.byContradiction λz=>H ⟨h6,λj p G=>Classical.byContradiction λy=>z ⟨j,p,G,y⟩⟩
theorem qG:∀(l:List (Str×Int)) (o o':Option D),bA (nC 2 (d7 (aY 0) (d7 (aY 1) rH))) gG (aH 0) (l.map bE) [o,o']=some ((l.map (·.1)).map .str)
 | [],_,_=>rfl
 | p::l,o,o'=>by
  have ih:=qG l (some (.str p.1)) (some (.int p.2));simp[-U5,-U6,aC,aG,bA,bE]at ih ⊢;simp_all[ih]
theorem tP:∀(l:List (Str×Int)) (o o':Option D),bA (nC 2 (d7 (aY 0) (d7 (aY 1) rH))) gG (sE (aI (aH 0) (aI (aH 1) bC))) (l.map bE) [o,o']=some (l.map bE)
 | [],_,_=>rfl
 | p::l,o,o'=>by
  have ih:=tP l (some (.str p.1)) (some (.int p.2));simp[-U5,-U6,aC,aG,bA,bE]at ih ⊢;simp_all[ih]
theorem sU{C:Bk}{ps:List (Str×Int)}(hl:∀p∈ps,p.1.length<=1000)(ag:ps.length<=500){g:Pt}(z:deep g<=60)(hs:fE g):(¬ Hd C ps->bY [aV C,.lst (ps.map bE),pD g]=some "NoHead")/\(Hd C ps->big g->bY [aV C,.lst (ps.map bE),pD g]=some "TooBig")/\(Hd C ps->¬ big g->bY [aV C,.lst (ps.map bE),pD g]=cls (wr C (ps.map (·.1)) g)/\(wr C (ps.map (·.1)) g=0->dQ [aV C,.lst (ps.map bE),pD g]=some (.tup [.tup (ps.map bE),pD g]))):=by
 obtain⟨J,a2⟩:=IC (C:=C) hl (by lia);obtain⟨b1,b2⟩:=t7 z;obtain⟨c1,c2⟩:=mE (C:=C) 60 g (ps.map (·.1)) z (by rw[VL];lia) hs;have cf:=qG ps none none;have cs:=tP ps none none;have U:aZ (ps.map bE).length=true:=decide_eq_true (by rw[VL];lia);have q:wr C (ps.map (·.1)) g=0->iD [aV C,.lst ((ps.map (·.1)).map .str),pD g]=some .non:=c1;have G:mH [aV C,.lst ((ps.map (·.1)).map .str),pD g]=cls (wr C (ps.map (·.1)) g):=c2;generalize (ps.map (·.1)).map D.str=nl at cf q G;generalize ps.map bE=pl at J a2 cf cs U ⊢;have W:Hd C ps->∀ {x:Xv},gF (lC cJ (aI (aH 0) (aI (aH 1) bC))) (d8 (aS eN (aI (aH 0) (aI (aH 1) bC)))) x (aA 3 [aV C,.lst pl,pD g])=x [some (aV C),some (.lst pl),some (pD g)]:=λH {x}=>by
  obtain⟨N,d2⟩:=J H;exact cE ((xc (ds:=[aV C,.lst pl]) (by simp_all[aA])).trans d2) (by simp_all[aA,N])
 refine⟨λH=>e9 ((xc (ds:=[aV C,.lst pl]) (by simp_all[aA])).trans (a2 H)),λH B=>(W H).trans (e9 ((xc (ds:=[pD g]) (by simp[-U5,-U6,aC,aG])).trans (b2 B))),λH B=>?_⟩;obtain⟨Y,e2⟩:=b1 B;obtain⟨N,_⟩:=J H;refine⟨(W H).trans ((cE (ρ':=[some (aV C),some (.lst pl),some (pD g)]) ((xc (ds:=[pD g]) (by simp[-U5,-U6,aC,aG])).trans e2) (by simp_all[Y])).trans ((xc (ds:=[aV C,.lst nl,pD g]) (by simp_all[g6,U,cf])).trans G)),λhw=>aM ?_⟩;unfold tL;simp_all[aA,N,Y,U,g6,cf,cs,q hw]
theorem tR{x:Str}:∀ {l:List Str} {i:Nat},l.Nodup->x∉l->(l.set i x).Nodup
 | [],_,h,_=>by simp[-U5,-U6,aC,aG]
 | a::l,0,h,hx=>List.nodup_cons.mpr ⟨λz=>hx (VW _ z),(List.nodup_cons.mp h).2⟩
 | a::l,i+1,h,hx=>List.nodup_cons.mpr ⟨λz=>by
   rcases za2 z with z|z
   ·exact(List.nodup_cons.mp h).1 z
   ·exact hx (z ▸ VR ..),tR (List.nodup_cons.mp h).2 λz=>hx (VW _ z)⟩
structure Nms(nl:List Str):Prop where
 l:nl.length=14
 ok:∀s∈nl,aU s=true
 nd:nl.Nodup
theorem Nms.set{nl:List Str}(h:Nms nl){x:Str}(i:Nat)(a:aU x=true)(b:x∉nl):Nms (nl.set i x):=⟨by simp_all[h.l],λs hs=>by
 rcases za2 hs with z|z
 ·exact h.ok s z
 ·rw[z];exact a,tR h.nd b⟩
theorem gA{l:List Str}{k:Int}(h0:0<=k)(h:k<(l.length:Int)):∃s,fF (l.map D.str) k=some (.str s)/\l[k.toNat]?=some s:=by
 obtain⟨j,rfl⟩:∃j:Nat,k=(j:Int):=⟨k.toNat,by lia⟩;have q:j<l.length:=by lia
 refine⟨l[j],bD (by rw[VM,WE q];rfl),?_⟩;rw[X7];exact WE q
theorem PC{a:D}{l:List D}:P.cutD (a::l) none (some 1)=[a]:=by
 unfold P.cutD;have z:HT.sIx (a::l).length 0 none=0:=rfl;have q:HT.sIx (a::l).length (a::l).length (some 1)=1:=by
  show HT.sIx (l.length+1) (l.length+1) (some 1)=1;unfold HT.sIx;simp[-U5,-U6,aC,aG]
 rw[z,q];rfl
theorem oS(ns:List Int){C:Bk}(K:OkB C):∃nl:List Str,eY [.lst (ns.map .int),aV C]=some (.lst (nl.map .str))/\Nms nl:=by
 suffices h:∃d,eY [.lst (ns.map .int),aV C]=some d/\∃nl:List Str,d=.lst (nl.map .str)/\Nms nl by
  obtain⟨d,e,C,rfl,h⟩:=h;exact⟨C,e,h⟩
 obtain⟨f,hf⟩:=dM ns;have q:=(hf 11 (by decide) (by decide)).1;obtain⟨nm,ad,inj,ac⟩:=wW (f 11) ns 11 q;have J:=ac 14 (by decide);have N0:Nms ((VO 14).map λ(j:Nat)=>nm (j:Int)):=⟨by simp[-U5,-U6,aC,aG],λs hs=>by
  obtain⟨j,U,rfl⟩:=List.mem_map.mp hs;have:=List.mem_range.mp U;exact ad _ (by lia) (by lia),by
  refine List.pairwise_map.mpr (List.Pairwise.imp_of_mem (λ{i j} hi U ne=>?_) List.nodup_range);have hi:=List.mem_range.mp hi;have U:=List.mem_range.mp U;intro z;have:=inj (i:Int) (j:Int) ⟨by lia,by lia⟩ ⟨by lia,by lia⟩ z
  lia⟩
 have ae:aZ 14=true:=by decide
 have ab:dH [.int 14]=some (bH 0 1 14):=fR (n:=14) (by decide);generalize (VO 14).map (λ(j:Nat)=>nm (j:Int))=n0 at J N0;have hk:∃k0 kr,C.kinds=k0::kr:=by
  have:=K.k1;cases h:C.kinds with
  | nil=>rw[h]at this;exact absurd this (by decide)
  | cons a l=>exact⟨a,l,rfl⟩
 obtain⟨k0,kr,ek⟩:=hk;have af:aU k0=true:=K.kn k0 (by rw[ek];exact VR ..);have hs:∃G:List Str,bA (aY 0) gG (a6 aP (aH 0) (eC (.int 0))) (cutD (C.makes.map nZ) none (some 1)) [none]=some (G.map .str)/\G.length<=1/\(∀s∈G,aU s=true)/\(cutD (C.makes.map nZ) none (some 1)).length<=1:=by
  cases hm:C.makes with
  | nil=>exact⟨[],rfl,by decide,(λ_ h=>nomatch h),by decide⟩
  | cons m l=>
   have ec:P.cutD ((m::l).map nZ) none (some 1)=[nZ m]:=PC;rw[ec];exact⟨[m.nm],by simp_all[bA,vL],by simp[-U5,-U6,aC,aG],λs h=>by rw[List.mem_singleton.mp h];exact K.mn m (by rw[hm];exact VR ..),by simp[-U5,-U6,aC,aG]⟩
 obtain⟨G,es,l1,Y,l2⟩:=hs;refine i8 ?_;unfold jG;rw[aE (aN (d:=.lst (n0.map .str)) (by simp_all[aA,ab,b9,ae,g6,J]))];have zc:aZ (cutD (C.makes.map nZ) none (some 1)).length=true:=decide_eq_true (by lia);have zs:aZ (G.length+1)=true:=decide_eq_true (by lia);rw[aE (aN (d:=.lst ((G++[k0]).map .str)) (by simp_all[aA,vK,eL,ek,at0,g6,zc,es,zs]))];generalize hT:G++[k0]=T;have lT:T.length<=2:=by rw[<- hT];simp[-U5,-U6,aC,aG];lia
 have aa:∀s∈T,aU s=true:=λs hs=>by
  rw[<- hT]at hs;rcases List.mem_append.mp hs with z|z
  ·exact Y s z
  ·rw[List.mem_singleton.mp z];exact af
 refine qZ (items:=bH 0 1 T.length) (by simp_all[aA,fR (n:=T.length) (by lia)]) (λi ρ=>∃(nl:List Str) (o:Option D),ρ=[some (.lst (ns.map .int)),some (aV C),some (.lst (nl.map .str)),some (.lst (T.map .str)),o]/\Nms nl) ⟨n0,none,by simp_all[aA],N0⟩ ?_ ?_
 ·rintro i x ρ hx ⟨nl,o,rfl,N⟩
  obtain⟨as,rfl⟩:=eE hx;have hI:(0:Int)+(i:Int)*1=(i:Int):=by lia
  rw[hI];obtain⟨s,es,gs⟩:=gA (l:=T) (k:=(i:Int)) (by lia) (by lia);have so:=aa s (WR gs);have W:=pX s nl;have m6:dE (.int 6) (.int (i:Int))=some (.int (6*(i:Int))):=dI (by decide +kernel) (by decide +kernel) (by lia) (by lia);by_cases h1:f 11/7%3=1
  ·by_cases h2:s∈nl
   ·rw[List.contains_iff_mem.mpr h2]at W
    exact⟨_,by simp_all[turn,q,aQ,aF,h1,es,W];rfl,nl,_,rfl,N⟩
   ·have hc:nl.contains s=false:=by rw[Y1];intro z;exact h2 (List.contains_iff_mem.mp z)
    rw[hc]at W;have pt:=fD (l:=nl.map D.str) (k:=6-6*(i:Int)) (e:=.str s) (by lia) (by rw[VL,N.l];lia);rw[<- List.map_set]at pt;exact⟨_,by simp_all[turn,q,aQ,aF,h1,es,W,m6,pt,-List.map_set];rfl,nl.set (6-6*(i:Int)).toNat s,_,rfl,N.set _ so h2⟩
  ·exact⟨_,by simp_all[turn,q,aQ,aF,h1];rfl,nl,_,rfl,N⟩
 ·rintro ρ ⟨nl,o,rfl,N⟩
  exact⟨_,by simp[-U5,-U6,aC,aG] <;> rfl,nl,rfl,N⟩
theorem vS(ns:List Int){C:Bk}(K:OkB C){nl:List Str}(N:Nms nl):∃ps:List (Str×Int),jQ [.lst (ns.map .int),aV C,.lst (nl.map .str)]=some (.lst (ps.map bE))/\RO C ps/\ps.length<=6/\ps.map (·.1)=nl.take ps.length:=by
 suffices h:∃d,jQ [.lst (ns.map .int),aV C,.lst (nl.map .str)]=some d/\∃ps:List (Str×Int),d=.lst (ps.map bE)/\RO C ps/\ps.length<=6/\ps.map (·.1)=nl.take ps.length by
  obtain⟨d,e,ps,rfl,h⟩:=h;exact⟨ps,e,h⟩
 obtain⟨f,hf⟩:=dM ns;have J:=(hf 10 (by decide) (by decide)).1;refine i8 ?_;unfold oM;rw[aE (aN (d:=.lst []) (by simp[-U5,-U6,aC,aG]))];have z0:=VB (f 10) (show(7:Int)≠0 by decide);have z1:=VD (f 10) (show(0:Int)<7 by decide);have U:(0:Int)<(C.kinds.length:Int):=by have:=K.k1;lia
 refine qZ (items:=bH 0 1 (f 10%7).toNat) (by simp_all[aA,J,aF,fX z0 (show f 10%7<=1000000 by lia)]) (λi ρ=>∃(ps:List (Str×Int)) (o:Option D),ρ=[some (.lst (ns.map .int)),some (aV C),some (.lst (nl.map .str)),some (.lst (ps.map bE)),o]/\RO C ps/\ps.length=i/\ps.map (·.1)=nl.take i) ⟨[],none,by simp_all[aA],λ_ h=>(nomatch h),rfl,by simp[-U5,-U6,aC,aG]⟩ ?_ ?_
 ·rintro i x ρ hx ⟨ps,o,rfl,Y,G,q⟩
  obtain⟨af,rfl⟩:=eE hx;have hI:(0:Int)+(i:Int)*1=(i:Int):=by lia
  rw[hI];have fI:=(hf (12+(i:Int)) (by lia) (by lia)).1;obtain⟨s,es,gs⟩:=gA (l:=nl) (k:=(i:Int)) (by lia) (by rw[N.l];lia);rw[X7]at gs;have k0:=VB (f (12+(i:Int))) (VV U);have k1:=VD (f (12+(i:Int))) U;have hz:aZ ps.length=true:=decide_eq_true (by lia);have qm:=aF (i:=f (12+(i:Int))) U;refine⟨_,?_,ps++[(s,f (12+(i:Int))%(C.kinds.length:Int))],some (.int (i:Int)),rfl,λp W=>?_,by simp_all[G],?_⟩
  ·simp_all[turn,es,fI,eL,qm,hz,bE]
  ·rcases List.mem_append.mp W with z|z
   ·exact Y p z
   ·rw[List.mem_singleton.mp z];exact⟨N.ok s (WR gs),k0,k1⟩
  ·rw[zay,q,ZN,gs];rfl
 ·rintro ρ ⟨ps,o,rfl,Y,G,q⟩
  rw[b9]at G q;exact⟨_,by simp[-U5,-U6,aC,aG] <;> rfl,ps,rfl,Y,by lia,by rw[q,G]⟩
structure St(C:Bk)(kn F:List Str)(g:Pt)(w:Int):Prop where
 sh:fE g
 ok:∀K:List Str,(∀x∈kn,x∈K)->(∀x∈K,x∈kn\/x∈F)->wr C K g=w
theorem vI{a:Int}:f2 a 0=a:=by
 unfold f2;by_cases h:a=0
 ·rw[if_pos h,h]
 ·rw[if_neg h]
theorem KL{a b:Int}(h:¬ a=0):f2 a b=a:=if_neg h
section
variable {C:Bk}{kn F:List Str}
theorem St.mono{F':List Str}{g:Pt}{w:Int}(h:St C kn F g w)(s:∀x∈F',x∈kn\/x∈F):St C kn F' g w:=⟨h.sh,λK a b=>h.ok K a λx q=>(b x q).elim .inl (s x)⟩
theorem St.congr{q:List Str}{g:Pt}{w:Int}(h:St C kn F g w)(e:∀y,y∈kn↔y∈q):St C q F g w:=⟨h.sh,λK a b=>h.ok K (λx z=>a x ((e x).mp z)) λx z=>(b x z).imp (e x).mpr id⟩
theorem St.fresh{F':List Str}{x:Str}{g:Pt}{w:Int}(h:St C kn F g w)(J:x∈F)(G:∀y∈F',y∈F):St C (kn++[x]) F' g w:=⟨h.sh,λK a b=>h.ok K (λy q=>a y (WX _ q)) λy q=>by
 rcases b y q with z|z
 ·rcases List.mem_append.mp z with z|z
  ·exact .inl z
  ·rw[List.mem_singleton.mp z];exact .inr J
 ·exact .inr (G y z)⟩
theorem JO{x:Str}(h:x∈kn):St C kn F (.name x) 0:=⟨trivial,λK a _=>if_pos (List.contains_iff_mem.mpr (a x h))⟩
theorem sW{x:Str}(h:x∉kn)(h2:x∉F):St C kn F (.name x) 3:=⟨trivial,λK _ b=>if_neg λz=>(b x (List.contains_iff_mem.mp z)).elim h h2⟩
theorem L6{n k:Int}(a:0<=n)(b:n<C.M)(h:jL C k=true):St C kn F (.num n k) 0:=⟨trivial,λK _ _=>(if_pos ⟨a,b⟩).trans (if_pos h)⟩
theorem z5{n k:Int}(a:¬ (0<=n/\n<C.M)):St C kn F (.num n k) 4:=⟨trivial,λK _ _=>if_neg a⟩
theorem HL{n k:Int}(a:0<=n)(b:n<C.M)(h:jL C k=false):St C kn F (.num n k) 5:=⟨trivial,λK _ _=>(if_pos ⟨a,b⟩).trans (if_neg (by rw[h];decide))⟩
theorem IN{nm:Str}:St C kn F (.use0 nm) (if rK C nm 0=true then 0 else 6):=⟨trivial,λK _ _=>rfl⟩
theorem AE{nm:Str}{p:Pt}{q:Int}(z:St C kn F p q):St C kn F (.use1 nm p) (f2 (if rK C nm 1=true then 0 else 6) q):=⟨z.sh,λK a b=>by rw[wr,z.ok K a b];rfl⟩
theorem u3{nm:Str}{p q:Pt}{z G:Int}(J:St C kn F p z)(N:St C kn F q G):St C kn F (.use2 nm p q) (f2 (f2 (if rK C nm 2=true then 0 else 6) z) G):=⟨⟨J.sh,N.sh⟩,λK a b=>by rw[wr,J.ok K a b,N.ok K a b];rfl⟩
theorem HQ{nm:Str}{p q r:Pt}{J N G:Int}(z:St C kn F p J)(U:St C kn F q N)(W:St C kn F r G):St C kn F (.use3 nm p q r) (f2 (f2 (f2 (if rK C nm 3=true then 0 else 6) J) N) G):=⟨⟨z.sh,U.sh,W.sh⟩,λK a b=>by rw[wr,z.ok K a b,U.ok K a b,W.ok K a b];rfl⟩
theorem uP{c k:Int}{p q r:Pt}{J N G:Int}(z:St C kn F p J)(U:St C kn F q N)(W:St C kn F r G):St C kn F (.pick c k p q r) (f2 (f2 (f2 (if jL C c=true/\jL C k=true then 0 else 5) J) N) G):=⟨⟨z.sh,U.sh,W.sh⟩,λK a b=>by rw[wr,z.ok K a b,U.ok K a b,W.ok K a b];rfl⟩
theorem LF{K:List Str}{x:Str}(h:aU x=true)(G:x∉kn)(q:x∉F)(b:∀y∈K,y∈kn\/y∈F):AX K x=true:=by
 have:K.contains x=false:=by rw[Y1];intro z;exact(b x (List.contains_iff_mem.mp z)).elim G q
 unfold AX;rw[h,this];rfl
theorem E5{K:List Str}{x:Str}(a:∀y∈kn,y∈K)(b:∀y∈K,y∈kn\/y∈F):(∀y∈kn++[x],y∈K++[x])/\∀y∈K++[x],y∈kn++[x]\/y∈F:=by
 refine⟨λy q=>?_,λy q=>?_⟩
 ·rcases List.mem_append.mp q with z|z
  ·exact WX _ (a y z)
  ·exact WM _ z
 ·rcases List.mem_append.mp q with z|z
  ·exact(b y z).imp (WX _) id
  ·exact .inl (WM _ z)
theorem yJ{x:Str}{p q:Pt}{N J:Int}(h:aU x=true)(Y:x∉kn)(U:x∉F)(z:St C kn F p N)(G:St C (kn++[x]) F q J):St C kn F (.lett x p q) (f2 (f2 0 N) J):=⟨⟨by have:=dZ h;lia,z.sh,G.sh⟩,λK a b=>by
 obtain⟨a2,W⟩:=E5 (x:=x) a b;rw[wr,z.ok K a b,G.ok _ a2 W,show own C K (.lett x p q)=0 from if_pos (LF h Y U b)]⟩
theorem GU{x:Str}{p q:Pt}(U:x.length<=1000)(h:aU x=false\/x∈kn)(z:fE p)(G:fE q){J N:Int}:St C kn F (.lett x p q) (f2 (f2 3 J) N):=⟨⟨U,z,G⟩,λK a _=>by
 have:AX K x=false:=by
  unfold AX;rcases h with h|h
  ·rw[h];rfl
  ·rw[List.contains_iff_mem.mpr (a x h),Bool.not_true,ZL]
 rw[wr,show own C K (.lett x p q)=3 from if_neg (by rw[this];decide)];rfl⟩
theorem j6{n k:Int}{x:Str}{p q:Pt}{J N:Int}(Y:0<=n/\n<=9)(W:jL C k=true)(h:aU x=true)(hx:x∉kn)(U:x∉F)(z:St C kn F p J)(G:St C (kn++[x]) F q N):St C kn F (.again n k x p q) (f2 (f2 0 J) N):=⟨⟨by have:=dZ h;lia,z.sh,G.sh⟩,λK a b=>by
 obtain⟨a2,b2⟩:=E5 (x:=x) a b;rw[wr,z.ok K a b,G.ok _ a2 b2,show own C K (.again n k x p q)=0 from(if_pos Y).trans ((if_pos W).trans (if_pos (LF h hx U b)))]⟩
theorem BN{n k:Int}{x:Str}{p q:Pt}{o J N:Int}(G:x.length<=1000)(W:∀K:List Str,(∀y∈kn,y∈K)->own C K (.again n k x p q)=o)(h0:¬ o=0)(z:fE p)(U:fE q):St C kn F (.again n k x p q) (f2 (f2 o J) N):=⟨⟨G,z,U⟩,λK a _=>by
 rw[wr,W K a,KL h0,KL h0,KL h0,KL h0]⟩
end
theorem eK{C:Bk}{k:Int}(a:0<=k)(b:k<(C.kinds.length:Int)):jL C k=true:=by unfold jL;rw[decide_eq_true a,decide_eq_true b];rfl
theorem FA{C:Bk}{m:Mk}(h:m∈C.makes){n:Nat}(e:m.takes.length=n):rK C m.nm n=true:=List.any_eq_true.mpr ⟨m,h,by rw[decide_eq_true rfl,decide_eq_true e];rfl⟩
theorem nO{x:Str}{w:Int}:f7 [.tup [.str "name",.str x],.int w]=some (sD (.name x,w)):=aM (by simp_all[lL,aA,sD,pD,parts,lets,deep,rnds,kids])
theorem mP{n k w:Int}:f7 [.tup [.str "number",.int n,.int k],.int w]=some (sD (.num n k,w)):=aM (by simp_all[lL,aA,sD,pD,parts,lets,deep,rnds,kids])
theorem dN{C:Bk}(K:OkB C){kn:List Str}(hk:kn.length<=950){c:Int}(c0:0<=c)(c1:c<=10^60):∃g:Pt,iU [aV C,.lst (kn.map .str),.int c]=some (sD (g,0))/\(∀F,St C kn F g 0)/\deep g=1:=by
 have z:(0:Int)<(C.kinds.length:Int):=by have:=K.k1;lia
 have N:(0:Int)<C.M:=by have:=K.m3;lia
 have ac:(10:Int)^60=1000000000000000000000000000000000000000000000000000000000000:=by decide +kernel
 have Y:dE (.int (c/2)) (.int 982451653)=some (.int (c/2*982451653)):=dI (by lia) (by lia) (by decide +kernel) (by decide +kernel);have G:=aF (i:=c/2*982451653) N;have J:=aF (i:=c/3) z;have a0:=VB (c/2*982451653) (VV N);have a1:=VD (c/2*982451653) N;have b0:=VB (c/3) (VV z);have b1:=VD (c/3) z;have ok:∀F,St C kn F (.num (c/2*982451653%C.M) (c/3%(C.kinds.length:Int))) 0:=λF=>L6 a0 a1 (eK b0 b1)
 have q:=mP (n:=c/2*982451653%C.M) (k:=c/3%(C.kinds.length:Int)) (w:=0);generalize c/2*982451653%C.M=n at G ok q;generalize c/3%(C.kinds.length:Int)=k at J ok q;by_cases h1:c%2=1
 ·by_cases h2:kn.length=0
  ·refine⟨.num n k,aM ?_,ok,rfl⟩
   simp_all[iY,aA,aF,h1,h2,aQ,Y,vN,eL,G,J,q]
  ·have W:(0:Int)<(kn.length:Int):=by lia
   have U:0<kn.length:=by lia
   obtain⟨s,es,gs⟩:=gA (l:=kn) (k:=c/2%(kn.length:Int)) (VB _ (VV W)) (VD _ W);have q3:=aF (i:=c/2) W;refine⟨.name s,aM ?_,λF=>JO (WR gs),rfl⟩;simp_all[iY,aA,aF,h1,U,aQ,q3,es,nO]
 ·refine⟨.num n k,aM ?_,ok,rfl⟩
  simp_all[iY,aA,aF,h1,aQ,Y,vN,eL,G,J,q]
structure Wr(nl kn F:List Str)(x9 x10:Str):Prop where
 hk:kn.length<=900
 h9:nl[9]?=some x9
 o9:aU x9=true
 n9:x9∉kn
 f9:x9∉F
 h10:nl[10]?=some x10
 o10:aU x10=true
 n10:x10∉kn
 f10:x10∉F
theorem lF{C:Bk}(K:OkB C){nl kn F:List Str}{J ac:Str}(W:Wr nl kn F J ac){c:Int}(c0:0<=c)(c1:c<=10^60):∃g:Pt,iV [aV C,.lst (nl.map .str),.lst (kn.map .str),.int c]=some (sD (g,0))/\St C kn F g 0/\deep g<=2:=by
 have hk:=W.hk;have Y:(0:Int)<(C.kinds.length:Int):=by have:=K.k1;lia
 have al:(10:Int)^60=1000000000000000000000000000000000000000000000000000000000000:=by decide +kernel
 obtain⟨g1,U,q,s1⟩:=dN K (WC hk (by decide)) (c:=c/5) (by lia) (by lia);have i9:fF (nl.map D.str) 9=some (.str J):=bD (j:=9) (by rw[VM,W.h9];rfl);have z:=aF (i:=c/11) Y;have aa:=aF (i:=c/17) Y;have b0:=VB (c/11) (VV Y);have b1:=VD (c/11) Y;have d0:=VB (c/17) (VV Y);have d1:=VD (c/17) Y;generalize c/11%(C.kinds.length:Int)=k at z b0 b1;generalize c/17%(C.kinds.length:Int)=k2 at aa d0 d1;by_cases h0:c%5=0
 ·obtain⟨g2,e2,N,s2⟩:=dN K (kn:=kn++[J]) (by simp[-U5,-U6,aC,aG];lia) (c:=c/35+1) (by lia) (by lia)
  have ks:=pC (kn:=kn) (x:=J) hk;have t0:=VB (c/13) (show(10:Int)≠0 by decide);have t1:=VD (c/13) (show(0:Int)<10 by decide);generalize hn:c/13%10=n at t0 t1;have G:=dG (g:=.again n k J g1 g2) (wa:=0) (wb:=0) (own:=0) rfl rfl;refine⟨.again n k J g1 g2,aM ?_,j6 ⟨t0,by lia⟩ (eK b0 b1) W.o9 W.n9 W.f9 (q F) (N F),by simp_all[deep];lia⟩;rw[show f2 (f2 0 0) 0=0 from rfl]at G;generalize D.lst ((kn++[J]).map .str)=K1 at ks e2;generalize D.lst (kn.map .str)=K0 at ks U ⊢;generalize sD (.again n k J g1 g2,0)=res at G ⊢;rw[pD]at G;simp_all[iZ,aA,eL,aQ,z,U,aF,h0,i9,ks,e2,s_0,hn,G]
 ·by_cases h1:c%5=1
  ·obtain⟨g2,e2,N,s2⟩:=dN K (WC hk (by decide)) (c:=c/35+1) (by lia) (by lia)
   have G:=pB (g:=.pick k k2 g1 g2 g1) (wa:=0) (wb:=0) (wc:=0) (own:=0) rfl rfl;have sp:=uP (c:=k) (k:=k2) (q F) (N F) (q F);rw[if_pos ⟨eK b0 b1,eK d0 d1⟩]at sp;refine⟨.pick k k2 g1 g2 g1,aM ?_,sp,by simp_all[deep];lia⟩;rw[show f2 (f2 (f2 0 0) 0) 0=0 from rfl]at G;generalize D.lst (kn.map .str)=K0 at U e2 ⊢;generalize sD (.pick k k2 g1 g2 g1,0)=res at G ⊢;rw[pD]at G;simp_all[iZ,aA,eL,aQ,z,aa,U,aF,h0,h1,e2,s_0,G]
  ·refine⟨g1,aM ?_,q F,by lia⟩
   generalize D.lst (kn.map .str)=K0 at U ⊢;simp_all[iZ,aA,eL,aQ,z,U,aF,h0,h1]
theorem mW:∀(l:List (Pt×Int)) (o:Option D),bA (aY 0) gG (a6 aP (aH 0) (eC (.int 0))) (l.map sD) [o]=some (l.map λs=>pD s.1)
 | [],_=>rfl
 | g::l,o=>by
  have ih:=mW l (some (sD g));simp_all[bA,s_0,ih]
theorem rN{C:Bk}(K:OkB C){nl kn F:List Str}{x9 Y:Str}(W:Wr nl kn F x9 Y){g:Pt}{N:Int}(G:St C kn F g N){c:Int}(c0:0<=c)(c1:c<10^60):∃(g':Pt) (t:Int),cI [aV C,.lst (nl.map .str),.lst (kn.map .str),sD (g,N),.int c]=some (.tup [sD (g',N),.int t])/\St C kn F g' N:=by
 have kp:(0:Int)<(C.kinds.length:Int):=by have:=K.k1;lia
 have bt:(10:Int)^60=1000000000000000000000000000000000000000000000000000000000000:=by decide +kernel
 have i9:fF (nl.map D.str) 9=some (.str x9):=bD (j:=9) (by rw[VM,W.h9];rfl);have bc:fF (nl.map D.str) 10=some (.str Y):=bD (j:=10) (by rw[VM,W.h10];rfl);generalize hy:c/6=y;have y0:0<=y:=by lia
 have y1:y<10^60:=by lia
 obtain⟨o,eo,ad,_⟩:=lF K W (c:=y/7) (by lia) (by lia);have J:∀ {r:D},bR [some (aV C),some (.lst (nl.map .str)),some (.lst (kn.map .str)),some (sD (g,N)),some (.int c),none,none,none,none,none,none,none,none]=some (.rt r)->cI [aV C,.lst (nl.map .str),.lst (kn.map .str),sD (g,N),.int c]=some r:=λh=>aM (by simpa[aA]using h)
 have c6:=VB c (show(6:Int)≠0 by decide);have use:c%6<2->0<C.makes.length->∃(g':Pt) (t:Int),cI [aV C,.lst (nl.map .str),.lst (kn.map .str),sD (g,N),.int c]=some (.tup [sD (g',N),.int t])/\St C kn F g' N:=λh2 hm=>by
  have mp:(0:Int)<(C.makes.length:Int):=by lia
  have m0:=VB y (VV mp);have m1:=VD y mp;have qm:=aF (i:=y) mp;obtain⟨j,hj⟩:∃j:Nat,y%(C.makes.length:Int)=(j:Int):=⟨(y%(C.makes.length:Int)).toNat,by lia⟩;rw[hj]at m1 qm;have al:j<C.makes.length:=by lia
  have aa:fF (C.makes.map nZ) (j:Int)=some (nZ C.makes[j]):=bD (by rw[VM,WE al];rfl);have ab:C.makes[j]∈C.makes:=YT al;generalize C.makes[j]=m at aa ab;have mt:=K.mt m ab;have k1:=CI (m:=m);have k0:=vL (m:=m);rcases mt with⟨t,ht⟩|⟨t,u,ht⟩
  ·have r1:gQ (1:Int)=true:=by decide
   have z1:aZ 1=true:=by decide
   have U:=zL (g:=.use1 m.nm g) (a:=g) (wa:=N) (own:=0) rfl rfl;rw[eX]at U;have su:=AE (nm:=m.nm) G;rw[if_pos (FA ab (by rw[ht];rfl)),eX]at su;have pt:=fD (l:=[sD (o,0)]) (k:=0) (e:=sD (g,N)) (by decide) (by simp[-U5,-U6,aC,aG]);have cp:=mW [(g,N)] none;have q1:jI (.int (y/3)) (.int 1)=some (.int 0):=by rw[aF (by decide),Int.emod_one]
   refine⟨.use1 m.nm g,0,J ?_,su⟩;rw[ht]at k1;generalize nZ m=md at aa k0 k1;generalize D.lst (kn.map .str)=K0 at eo ⊢;generalize sD (.use1 m.nm g,N)=res at U ⊢;rw[pD]at U;simp[-U5,-U6,aC,aG]at cp;simp_all[bR,eL,vK,aQ,aF,hy,eo,h2,hm,qm,aa,k1,k0,tupI,q1,r1,z1,pt,g6,cp,U]
  ·have r1:gQ (2:Int)=true:=by decide
   have z1:aZ 2=true:=by decide
   have a0:=VB (y/3) (show(2:Int)≠0 by decide);have a1:=VD (y/3) (show(0:Int)<2 by decide);have q1:jI (.int (y/3)) (.int 2)=some (.int (y/3%2)):=aF (by decide);have ho:rK C m.nm 2=true:=FA ab (by rw[ht];rfl);have az:=u3 (nm:=m.nm) G ad;rw[if_pos ho,eX,vI]at az;have as:=u3 (nm:=m.nm) ad G;rw[if_pos ho,eX,eX]at as;rw[ht]at k1;by_cases au:y/3%2=0
   ·rw[au]at q1
    have U:=dG (g:=.use2 m.nm g o) (a:=g) (b:=o) (wa:=N) (wb:=0) (own:=0) rfl rfl;rw[eX,vI]at U;have pt:=fD (l:=[sD (o,0),sD (o,0)]) (k:=0) (e:=sD (g,N)) (by decide) (by simp[-U5,-U6,aC,aG]);have cp:=mW [(g,N),(o,0)] none;refine⟨.use2 m.nm g o,0,J ?_,az⟩;generalize nZ m=md at aa k0 k1;generalize D.lst (kn.map .str)=K0 at eo ⊢;generalize sD (.use2 m.nm g o,N)=res at U ⊢;rw[pD]at U;simp[-U5,-U6,aC,aG]at cp pt;simp_all[bR,eL,vK,aQ,aF,hy,eo,h2,hm,qm,aa,k1,k0,tupI,q1,r1,z1,pt,g6,cp,U,V6]
   ·have aw:y/3%2=1:=by lia
    rw[aw]at q1;have U:=dG (g:=.use2 m.nm o g) (a:=o) (b:=g) (wa:=0) (wb:=N) (own:=0) rfl rfl;rw[eX,eX]at U;have pt:=fD (l:=[sD (o,0),sD (o,0)]) (k:=1) (e:=sD (g,N)) (by decide) (by simp[-U5,-U6,aC,aG]);have cp:=mW [(o,0),(g,N)] none;refine⟨.use2 m.nm o g,1,J ?_,as⟩;generalize nZ m=md at aa k0 k1;generalize D.lst (kn.map .str)=K0 at eo ⊢;generalize sD (.use2 m.nm o g,N)=res at U ⊢;rw[pD]at U;simp[-U5,-U6,aC,aG]at cp pt;simp_all[bR,eL,vK,aQ,aF,hy,eo,h2,hm,qm,aa,k1,k0,tupI,q1,r1,z1,pt,g6,cp,U,V6]
 have pick:¬ (c%6<2/\0<C.makes.length)->¬ c%6=2->¬ c%6=3->∃(g':Pt) (t:Int),cI [aV C,.lst (nl.map .str),.lst (kn.map .str),sD (g,N),.int c]=some (.tup [sD (g',N),.int t])/\St C kn F g' N:=λh1 h2 h3=>by
  obtain⟨w,ew,ac,_⟩:=dN K (WC W.hk (by decide)) (c:=y/11) (by lia) (by lia);have a0:=VB (y/3) (show(3:Int)≠0 by decide);have a1:=VD (y/3) (show(0:Int)<3 by decide);have b0:=VB y (VV kp);have b1:=VD y kp;have d0:=VB (y/6) (VV kp);have d1:=VD (y/6) kp;have qa:=aF (i:=y) kp;have qb:=aF (i:=y/6) kp;generalize y%(C.kinds.length:Int)=k1 at b0 b1 qa;generalize y/6%(C.kinds.length:Int)=k2 at d0 d1 qb;have first:(yX (fN (a6 OO (a6 jI (aH 4) (eC (.int 6))) (eC (.int 2)))) (fN (a6 kD (aS g5 (aI (a6 aP (aH 0) (eC (.int 3))) bC)) (eC (.int 0))))) [some (aV C),some (.lst (nl.map .str)),some (.lst (kn.map .str)),some (sD (g,N)),some (.int c),some (.int y),some (.int (C.kinds.length:Int)),some (sD (o,0)),none,none,none,none,none]=some false:=by
   by_cases z:c%6<2
   ·have hm:¬ 0<C.makes.length:=λq=>h1 ⟨z,q⟩
    simp_all[aF,z,vK,hm]
   ·simp_all[aF,z]
  have fin:∀(t:Int) (p q r:Pt) (wp wq w3:Int),y/3%3=t->w9 (.lst [sD (o,0),sD (w,0),sD (o,0)]) (.int t) (sD (g,N))=some (.lst [sD (p,wp),sD (q,wq),sD (r,w3)])->St C kn F p wp->St C kn F q wq->St C kn F r w3->f2 (f2 wp wq) w3=N->∃(g':Pt) (t:Int),cI [aV C,.lst (nl.map .str),.lst (kn.map .str),sD (g,N),.int c]=some (.tup [sD (g',N),.int t])/\St C kn F g' N:=λt p q r wp wq w3 et pt op oq bb ef=>by
   have U:=pB (g:=.pick k1 k2 p q r) (a:=p) (b:=q) (c:=r) (wa:=wp) (wb:=wq) (wc:=w3) (own:=0) rfl rfl;have sp:=uP (c:=k1) (k:=k2) op oq bb;rw[if_pos ⟨eK b0 b1,eK d0 d1⟩,eX,ef]at sp;rw[eX,ef]at U;refine⟨.pick k1 k2 p q r,t,J ?_,sp⟩;unfold bR;rw[aE (aN (d:=.int y) (by simp_all[aQ,hy]))];rw[aE (aN (d:=.int (C.kinds.length:Int)) (by simp_all[eL]))];rw[aE (aN (d:=sD (o,0)) (by simp_all[aQ,eo]))];rw[aE (ρ':=[some (aV C),some (.lst (nl.map .str)),some (.lst (kn.map .str)),some (sD (g,N)),some (.int c),some (.int y),some (.int (C.kinds.length:Int)),some (sD (o,0)),none,none,none,none,none]) (by exact(F9 first).trans (by simp[-U5,-U6,aC,aG]))]
   generalize D.lst (kn.map .str)=K0 at ew ⊢;generalize sD (.pick k1 k2 p q r,N)=res at U ⊢;rw[pD]at U;simp_all[aF,aQ,h2,h3,et,ew,pt,qa,qb,at0,at1,at2,s_0,U]
  have e3:y/3%3=0\/y/3%3=1\/y/3%3=2:=by lia
  rcases e3 with e|e|e
  ·exact fin 0 g w o N 0 0 e (fD (l:=[sD (o,0),sD (w,0),sD (o,0)]) (k:=0) (by decide) (by simp[-U5,-U6,aC,aG])) G (ac F) ad (by rw[vI,vI])
  ·exact fin 1 o g o 0 N 0 e (fD (l:=[sD (o,0),sD (w,0),sD (o,0)]) (k:=1) (by decide) (by simp[-U5,-U6,aC,aG])) ad G ad (by rw[eX,vI])
  ·exact fin 2 o w g 0 0 N e (fD (l:=[sD (o,0),sD (w,0),sD (o,0)]) (k:=2) (by decide) (by simp[-U5,-U6,aC,aG])) ad (ac F) G (by rw[eX,eX])
 by_cases aj:c%6<2/\0<C.makes.length
 ·exact use aj.1 aj.2
 by_cases h2:c%6=2
 ·obtain⟨w,ew,ac,_⟩:=dN K (kn:=kn++[x9]) (by have:=W.hk;simp[-U5,-U6,aC,aG];lia) (c:=y/5) (by lia) (by lia)
  have ks:=pC (kn:=kn) (x:=x9) W.hk;have a0:=VB y (show(10:Int)≠0 by decide);have a1:=VD y (show(0:Int)<10 by decide);have d0:=VB (y/10) (VV kp);have d1:=VD (y/10) kp;have qb:=aF (i:=y/10) kp;generalize y/10%(C.kinds.length:Int)=k2 at d0 d1 qb;generalize hn:y%10=n at a0 a1;have U:=dG (g:=.again n k2 x9 g w) (a:=g) (b:=w) (wa:=N) (wb:=0) (own:=0) rfl rfl;rw[eX,vI]at U;have sa:=j6 (n:=n) ⟨a0,by lia⟩ (eK d0 d1) W.o9 W.n9 W.f9 G (ac F);rw[eX,vI]at sa;refine⟨.again n k2 x9 g w,0,J ?_,sa⟩;generalize D.lst ((kn++[x9]).map .str)=K1 at ks ew;generalize D.lst (kn.map .str)=K0 at ks eo ⊢;generalize sD (.again n k2 x9 g w,N)=res at U ⊢;rw[pD]at U;simp_all[bR,eL,aQ,aF,hy,eo,h2,ks,i9,ew,qb,hn,s_0,U]
 by_cases h3:c%6=3
 ·obtain⟨w,ew,ac,_⟩:=dN K (kn:=kn++[Y]) (by have:=W.hk;simp[-U5,-U6,aC,aG];lia) (c:=y/5) (by lia) (by lia)
  have ks:=pC (kn:=kn) (x:=Y) W.hk;have U:=dG (g:=.lett Y g w) (a:=g) (b:=w) (wa:=N) (wb:=0) (own:=0) rfl rfl;rw[eX,vI]at U;have sa:=yJ W.o10 W.n10 W.f10 G (ac F);rw[eX,vI]at sa;refine⟨.lett Y g w,0,J ?_,sa⟩;generalize D.lst ((kn++[Y]).map .str)=K1 at ks ew;generalize D.lst (kn.map .str)=K0 at ks eo ⊢;generalize sD (.lett Y g w,N)=res at U ⊢;rw[pD]at U;simp_all[bR,eL,aQ,aF,hy,eo,h3,ks,bc,ew,s_0,U]
 exact pick aj h2 h3
theorem NJ{a:D}{l:List D}:P.cutD (a::l) (some 1) none=l:=by
 unfold P.cutD;have q:HT.sIx (a::l).length (a::l).length none=l.length+1:=rfl;have z:HT.sIx (a::l).length 0 (some 1)=1:=by
  show HT.sIx (l.length+1) 0 (some 1)=1;unfold HT.sIx;simp[-U5,-U6,aC,aG]
 rw[z,q];simp[-U5,-U6,aC,aG]
theorem t9{C:Bk}(K:OkB C){nl rest F:List Str}{x9 aa:Str}(W:Wr nl rest F x9 aa){b:Nat}{x:Str}(hb:nl[b]?=some x)(ox:aU x=true)(nx:x∉rest)(fx:x∉F){g:Pt}{z:Int}(G:St C (rest++[x]) F g z){c:Int}(c0:0<=c)(c1:c<10^60):∃g':Pt,mG [aV C,.lst (nl.map .str),.lst (rest.map .str),sD (g,z),.int (b:Int),.int c]=some (sD (g',z))/\St C rest F g' z/\deep g'<=max 2 (deep g)+1:=by
 have kp:(0:Int)<(C.kinds.length:Int):=by have:=K.k1;lia
 have aj:(10:Int)^60=1000000000000000000000000000000000000000000000000000000000000:=by decide +kernel
 obtain⟨o,Y,U,so⟩:=lF K W (c:=c/7) (by lia) (by lia);have ib:fF (nl.map D.str) (b:Int)=some (.str x):=bD (j:=b) (by rw[VM,hb];rfl);by_cases h8:b<8
 ·have J:(b:Int)<8:=by lia
  have q:=dG (g:=.lett x o g) (a:=o) (b:=g) (wa:=0) (wb:=z) (own:=0) rfl rfl;rw[eX,eX]at q;have N:=yJ ox nx fx U G;rw[eX,eX]at N;refine⟨.lett x o g,aM ?_,N,?_⟩
  ·generalize D.lst (rest.map .str)=K0 at Y ⊢
   generalize sD (.lett x o g,z)=res at q ⊢;rw[pD]at q;simp_all[iJ,aA,aQ,Y,ib,J,s_0,q]
  ·simp_all[deep];lia
 ·have J:¬ (b:Int)<8:=by lia
  have a0:=VB c (show(10:Int)≠0 by decide);have a1:=VD c (show(0:Int)<10 by decide);have d0:=VB (c/10) (VV kp);have d1:=VD (c/10) kp;have qb:=aF (i:=c/10) kp;generalize c/10%(C.kinds.length:Int)=k2 at d0 d1 qb;generalize hn:c%10=n at a0 a1;have q:=dG (g:=.again n k2 x o g) (a:=o) (b:=g) (wa:=0) (wb:=z) (own:=0) rfl rfl;rw[eX,eX]at q;have N:=j6 (n:=n) ⟨a0,by lia⟩ (eK d0 d1) ox nx fx U G;rw[eX,eX]at N;refine⟨.again n k2 x o g,aM ?_,N,?_⟩
  ·generalize D.lst (rest.map .str)=K0 at Y ⊢
   generalize sD (.again n k2 x o g,z)=res at q ⊢;rw[pD]at q;simp_all[iJ,aA,aQ,aF,Y,ib,J,s_0,eL,qb,hn,q]
  ·simp_all[deep];lia
noncomputable def oQ(left:List Nat):D:=.lst (left.map λ(b:Nat)=>D.int (b:Int))
noncomputable def iC(r:Int×Int×Int×Int):D:=.lst [.int r.1,.int r.2.1,.int r.2.2.1,.int r.2.2.2]
theorem u4:∀(l:List Nat) (o:Option D),bA (aY 0) (fN (a6 lU (aH 0) (eC (.int 8)))) (aH 0) (l.map λ(b:Nat)=>D.int (b:Int)) [o]=some ((l.filter λb=>decide (b=8)).map λ(b:Nat)=>D.int (b:Int))
 | [],_=>rfl
 | b::l,o=>by
  have q:=u4 l (some (.int 8));have ih:=u4 l (some (.int (b:Int)));by_cases h:b=8
  ·subst h;simp_all[bA,q]
  ·have h':¬ (b:Int)=8:=by lia
   simp_all[bA,ih,h,h']
theorem xV{s:Pt×Int}{left:List Nat}(hl:left.length<=3)(r:Int×Int×Int×Int):∃b,pS [sD s,oQ left,iC r]=some (.bl b)/\(b=true->(deep s.1:Int)+(left.length:Int)<=r.2.1):=by
 obtain⟨Y,rb,rc,W⟩:=r;have q:=u4 left none;have J:aZ left.length=true:=decide_eq_true (by lia);have G:dE (.int 5) (.int (left.length:Int))=some (.int (5*(left.length:Int))):=dI (by decide +kernel) (by decide +kernel) (by lia) (by lia);generalize left.filter (λb=>decide (b=8))=agl at q;by_cases h1:Y<parts s.1+5*(left.length:Int)
 ·exact⟨false,aM (by simp_all[eI,aA,oQ,iC,g6,J,q,s_1,G,at0,h1]),λz=>nomatch z⟩
 by_cases h2:rb<(deep s.1:Int)+(left.length:Int)
 ·exact⟨false,aM (by simp_all[eI,aA,oQ,iC,g6,J,q,s_1,s_3,G,at0,at1,h1,h2]),λz=>nomatch z⟩
 by_cases N:lets s.1+(left.length:Int)-(agl.length:Int)<=rc
 ·by_cases U:(rnds s.1:Int)+(agl.length:Int)<=W
  ·exact⟨true,aM (by simp_all[eI,aA,oQ,iC,g6,J,q,s_1,s_2,s_3,s_4,G,at0,at1,at2,LJ,h1,h2,N,U]),λ_=>Int.not_lt.mp h2⟩
  ·exact⟨false,aM (by simp_all[eI,aA,oQ,iC,g6,J,q,s_1,s_2,s_3,s_4,G,at0,at1,at2,LJ,h1,h2,N,U]),λz=>nomatch z⟩
 ·exact⟨false,aM (by simp_all[eI,aA,oQ,iC,g6,J,q,s_1,s_2,s_3,G,at0,at1,at2,h1,h2,N]),λz=>nomatch z⟩
def nx(nl:List Str)(b:Nat):Str:=nl.getD b ""
structure Ctx(C:Bk)(nl hs:List Str):Prop where
 K:OkB C
 N:Nms nl
 h6:hs.length<=6
 hs:hs=nl.take hs.length
theorem Nms.at_{nl:List Str}(N:Nms nl){b:Nat}(h:b<14):nl[b]?=some (nx nl b):=by
 unfold nx;rw[X1,WE (by rw[N.l];exact h)];rfl
theorem Nms.ok_{nl:List Str}(N:Nms nl){b:Nat}(h:b<14):aU (nx nl b)=true:=N.ok _ (WR (N.at_ h))
theorem Nms.inj{nl:List Str}(N:Nms nl){a b:Nat}(q:a<14)(z:b<14)(e:nx nl a=nx nl b):a=b:=by
 have h1:=N.at_ q;have h2:=N.at_ z;rw[e]at h1;obtain⟨U,J⟩:=List.getElem?_eq_some_iff.mp h1;obtain⟨W,G⟩:=List.getElem?_eq_some_iff.mp h2;exact(ZX N.nd).mp (J.trans G.symm)
theorem Ctx.far{C:Bk}{nl hs:List Str}(X:Ctx C nl hs){b:Nat}(W:6<=b)(U:b<14):nx nl b∉hs:=λz=>by
 rw[X.hs]at z;obtain⟨j,G⟩:=List.mem_iff_getElem?.mp z;have J:=(List.getElem?_eq_some_iff.mp G).1;rw[WZ]at J;have:=X.h6;rw[YY (by lia)]at G;have q:j<14:=by lia
 rw[X.N.at_ q]at G;have:=X.N.inj q U (VX G)
 lia
structure LeftOk(left:List Nat):Prop where
 nd:left.Nodup
 m:∀b∈left,b=6\/b=7\/b=8
 l3:left.length<=3
def lW(nl hs:List Str)(left:List Nat):List Str:=hs++left.map (nx nl)
theorem Ctx.off{C:Bk}{nl hs:List Str}(X:Ctx C nl hs){left:List Nat}(L:LeftOk left){b:Nat}(h:9<=b)(q:b<14):nx nl b∉lW nl hs left:=λz=>by
 rcases List.mem_append.mp z with z|z
 ·exact X.far (by lia) q z
 ·obtain⟨a,G,e⟩:=List.mem_map.mp z
  have J:=L.m a G;have:=X.N.inj (by lia) q e
  lia
def Fr(nl F:List Str):Prop:=∀x∈F,x=nx nl 12\/x=nx nl 13
theorem Fr.off{nl F:List Str}(h:Fr nl F)(N:Nms nl){b:Nat}(q:b<12):nx nl b∉F:=λz=>by
 rcases h _ z with e|e
 ·have:=N.inj (by lia) (by decide) e;lia
 ·have:=N.inj (by lia) (by decide) e;lia
structure Inv(C:Bk)(nl hs F:List Str)(B:Nat)(g:Pt)(w:Int)(left:List Nat):Prop where
 st:St C (lW nl hs left) F g w
 d:deep g+left.length<=B
 lo:LeftOk left
def bX(nl hs:List Str)(s:Pt×Int)(left:List Nat):D:=.tup [sD s,oQ left,.lst ((lW nl hs left).map .str)]
theorem tQ{nm z:D}{x:Str}(G:(a6 aP (aH 1) (a6 aP (aH 2) (eC (.int 0)))) [none,some nm,some z]=some (.str x)):∀(l:List Str) (o:Option D),bA (aY 0) (fN (a6 CO (aH 0) (a6 aP (aH 1) (a6 aP (aH 2) (eC (.int 0)))))) (aH 0) (l.map .str) [o,some nm,some z]=some ((l.filter λy=>!decide (y=x)).map .str)
 | [],_=>rfl
 | y::l,o=>by
  have ih:=tQ G l (some (.str y));have q:=G;simp[-U5,-U6,aC,aG]at q;by_cases h:y=x
  ·simp_all[bA,q,h,ih]
   subst h;simpa using ih
  ·simp_all[bA,q,h,ih]
theorem Inv.len{C:Bk}{nl hs:List Str}(X:Ctx C nl hs){left:List Nat}(L:LeftOk left):(lW nl hs left).length<=9:=by
 unfold lW;rw[WV,VL];have:=X.h6;have:=L.l3
 lia
theorem LeftOk.tail{b:Nat}{left:List Nat}(L:LeftOk (b::left)):LeftOk left/\b∉left:=by
 have q:=List.nodup_cons.mp L.nd;exact⟨⟨q.2,λc z=>L.m c (VW _ z),by have:=L.l3;simp[-U5,-U6,aC,aG]at this;lia⟩,q.1⟩
theorem Ctx.wr{C:Bk}{nl hs:List Str}(X:Ctx C nl hs){left:List Nat}(L:LeftOk left){F:List Str}(q:Fr nl F):Wr nl (lW nl hs left) F (nx nl 9) (nx nl 10):=⟨by have:=Inv.len X L;lia,X.N.at_ (by decide),X.N.ok_ (by decide),X.off L (by decide) (by decide),q.off X.N (by decide),X.N.at_ (by decide),X.N.ok_ (by decide),X.off L (by decide) (by decide),q.off X.N (by decide)⟩
theorem pR{C:Bk}{nl hs:List Str}(X:Ctx C nl hs){F:List Str}(hF:Fr nl F){g:Pt}{q:Int}{left:List Nat}{B:Nat}(hB:52<=B)(I:Inv C nl hs F B g q left){G:Int×Int×Int×Int}(hr:G.2.1<=50){c:Int}(c0:0<=c)(c1:c<10^60):∃(g':Pt) (left':List Nat) (t:Int),iQ [aV C,.lst (nl.map .str),bX nl hs (g,q) left,.int c,iC G]=some (.tup [bX nl hs (g',q) left',.int t])/\Inv C nl hs F B g' q left'/\(c=5->left≠[]->left'.length<left.length):=by
 have ax:(10:Int)^60=1000000000000000000000000000000000000000000000000000000000000:=by decide +kernel
 have L:=I.lo;have ln:=Inv.len X L;have st:∀ {r:D},fW [some (aV C),some (.lst (nl.map .str)),some (bX nl hs (g,q) left),some (.int c),some (iC G),none,none,none,none,none,none]=some (.rt r)->iQ [aV C,.lst (nl.map .str),bX nl hs (g,q) left,.int c,iC G]=some r:=λh=>aM (by simpa[aA]using h)
 have J:(c%6=5->left=[])->∃(g':Pt) (left':List Nat) (t:Int),iQ [aV C,.lst (nl.map .str),bX nl hs (g,q) left,.int c,iC G]=some (.tup [bX nl hs (g',q) left',.int t])/\Inv C nl hs F B g' q left'/\(c=5->left≠[]->left'.length<left.length):=λhc=>by
  obtain⟨g',t,ew,ah⟩:=rN X.K (X.wr L hF) I.st c0 c1;obtain⟨b,er,hb⟩:=xV (s:=(g',q)) (left:=left) L.l3 G;have first:(yX (fN (a6 lU (a6 jI (aH 3) (eC (.int 6))) (eC (.int 5)))) (fN (a6 kD (aS g5 (aI (aH 6) bC)) (eC (.int 0))))) [some (aV C),some (.lst (nl.map .str)),some (bX nl hs (g,q) left),some (.int c),some (iC G),some (sD (g,q)),some (oQ left),some (.lst ((lW nl hs left).map .str)),none,none,none]=some false:=by
   by_cases z:c%6=5
   ·have:=hc z;subst this
    simp_all[aF,z,oQ]
   ·simp_all[aF,z]
  have U:fW [some (aV C),some (.lst (nl.map .str)),some (bX nl hs (g,q) left),some (.int c),some (iC G),none,none,none,none,none,none]=some (.rt (if b=true then .tup [bX nl hs (g',q) left,.int t]else .tup [bX nl hs (g,q) left,.int (-1)])):=by
   unfold fW;rw[aE (ρ':=[some (aV C),some (.lst (nl.map .str)),some (bX nl hs (g,q) left),some (.int c),some (iC G),some (sD (g,q)),some (oQ left),some (.lst ((lW nl hs left).map .str)),none,none,none]) (by simp_all[bX])];rw[aE (ρ':=[some (aV C),some (.lst (nl.map .str)),some (bX nl hs (g,q) left),some (.int c),some (iC G),some (sD (g,q)),some (oQ left),some (.lst ((lW nl hs left).map .str)),none,none,none]) (by exact(F9 first).trans (by simp[-U5,-U6,aC,aG]))]
   cases b with
   | true=>simp_all[ew,er,bX]
   | false=>simp_all[ew,er,bX]
  cases b with
  | true=>exact⟨g',left,t,st U,⟨ah,by have:=hb rfl;simp[-U5,-U6,aC,aG]at this;lia,L⟩,λh5 hl=>absurd (hc (by lia)) hl⟩
  | false=>exact⟨g,left,-1,st U,I,λh5 hl=>absurd (hc (by lia)) hl⟩
 by_cases h5:c%6=5
 ·cases left with
  | nil=>exact J λ_=>rfl
  | cons b left=>
   obtain⟨W,nb⟩:=L.tail;have mb:=L.m b (VR ..);have xb:=X.N.at_ (b:=b) (by lia);have hx:∀o:Option D,(a6 aP (aH 1) (a6 aP (aH 2) (eC (.int 0)))) [o,some (.lst (nl.map .str)),some (oQ (b::left))]=some (.str (nx nl b)):=λo=>by
    have ib:fF (nl.map D.str) (b:Int)=some (.str (nx nl b)):=bD (j:=b) (by rw[VM,xb];rfl);simp_all[oQ,at0,ib]
   have cr:=tQ (hx none) (lW nl hs (b::left)) none;have fl:(lW nl hs (b::left)).filter (λy=>!decide (y=nx nl b))=lW nl hs left:=by
    unfold lW;rw[List.filter_append,V0];have e1:hs.filter (λy=>!decide (y=nx nl b))=hs:=List.filter_eq_self.mpr λy hy=>by
     have:y≠nx nl b:=λz=>X.far (by lia) (by lia) (z ▸ hy)
     simp_all[this]
    have e2:(nx nl b::left.map (nx nl)).filter (λy=>!decide (y=nx nl b))=left.map (nx nl):=by
     rw[List.filter_cons_of_neg (by simp[-U5,-U6,aC,aG])];exact List.filter_eq_self.mpr λy hy=>by
      obtain⟨a,Y,rfl⟩:=List.mem_map.mp hy;have ma:=W.m a Y;have:nx nl a≠nx nl b:=λz=>by
       have:=X.N.inj (by lia) (by lia) z;subst this;exact nb Y
      simp_all[this]
    rw[e1,e2]
   rw[fl]at cr;have ae:nx nl b∉lW nl hs left:=λz=>by
    rcases List.mem_append.mp z with z|z
    ·exact X.far (by lia) (by lia) z
    ·obtain⟨a,Y,e⟩:=List.mem_map.mp z
     have ma:=W.m a Y;have:=X.N.inj (by lia) (by lia) e;subst this;exact nb Y
   have ac:St C (lW nl hs left++[nx nl b]) F g q:=I.st.congr λy=>by
    unfold lW;simp only[List.mem_append,V0,XO,XQ,or_false];constructor
    ·rintro(z|z|z)
     ·exact .inl (.inl z)
     ·exact .inr z
     ·exact .inl (.inr z)
    ·rintro((z|z)|z)
     ·exact .inl z
     ·exact .inr (.inr z)
     ·exact .inr (.inl z)
   obtain⟨g',ec,ad,hd⟩:=t9 X.K (X.wr W hF) xb (X.N.ok_ (by lia)) ae (hF.off X.N (by lia)) ac (c:=c/6) (by lia) (by lia);have rd:=I.d;rw[WI]at rd;have l3:=W.l3;refine⟨g',left,1,st ?_,⟨ad,by lia,W⟩,λ_ _=>by simp[-U5,-U6,aC,aG]⟩
   ·have zz:aZ (lW nl hs (b::left)).length=true:=decide_eq_true (by lia)
    have ct:P.cutD (.int (b:Int)::left.map λ(b:Nat)=>D.int (b:Int)) (some 1) none=left.map λ(b:Nat)=>D.int (b:Int):=NJ
    unfold fW;rw[aE (ρ':=[some (aV C),some (.lst (nl.map .str)),some (bX nl hs (g,q) (b::left)),some (.int c),some (iC G),some (sD (g,q)),some (oQ (b::left)),some (.lst ((lW nl hs (b::left)).map .str)),none,none,none]) (by simp_all[bX])];refine q0 ?_;rw[KA (by simp_all[aF,h5,oQ])];rw[aE (aN (d:=.lst ((lW nl hs left).map .str)) (by simp_all[g6,zz,cr]))];simp_all[oQ,at0,aQ,ec,bX,ct]
 ·exact J λz=>absurd z h5
def nn:List Str:=["", "A", "in", "let", "pick", "again", "abcdefghi", "a1", " a", "a ", "a\n", "a_b", "aB", "a-b"]
theorem QJ:∀s∈nn,aU s=false/\s.length<=10:=by decide +kernel
theorem kI(c:Int):∃s,cZ [.int c]=some (.str s)/\aU s=false/\s.length<=10:=by
 obtain⟨s,es,gs⟩:=gA (l:=nn) (k:=c%14) (VB c (by decide)) (VD c (show(0:Int)<14 by decide));refine⟨s,aM ?_,QJ s (WR gs)⟩;unfold kW;rw[aE (aN (d:=.lst (nn.map .str)) (by simp_all[nn]))];generalize nn=n at es;simp_all[aA,aF,es]
theorem kJ{n c:Int}(z:1<=n):∃k,dB [.int n,.int c]=some (.int k)/\(k<0\/n<=k):=by
 have G:=VB (c/4) (show(1000000000:Int)≠0 by decide);have q:c%4=0\/c%4=1\/c%4=2\/c%4=3:=by lia
 rcases q with h|h|h|h
 ·exact⟨n,aM (by simp_all[c9,aA,aF,aQ,gT,h,at0]),.inr (Int.le_refl _)⟩
 ·exact⟨-1,aM (by simp_all[c9,aA,aF,aQ,gT,h,at1]),.inl (by decide)⟩
 ·exact⟨n+1+c/4%1000000000,aM (by simp_all[c9,aA,aF,aQ,gT,h,at2]),.inr (by lia)⟩
 ·exact⟨-2-c/4%1000000000,aM (by simp_all[c9,aA,aF,aQ,gT,h,LJ]),.inl (by lia)⟩
theorem t5{C:Bk}{k:Int}(h:k<0\/(C.kinds.length:Int)<=k):jL C k=false:=by
 unfold jL;rcases h with h|h
 ·rw[decide_eq_false (by lia)];rfl
 ·rw[decide_eq_false (show ¬ k<(C.kinds.length:Int) by lia),ZL]
structure Kw(nl kn F:List Str):Prop where
 l:kn.length<=100
 ok:∀y∈kn,aU y=true
 fo:∀y∈F,aU y=true
 off:∀b,9<=b->b<12->nx nl b∉kn/\nx nl b∉F
theorem l9{C:Bk}(K:OkB C){nl:List Str}(N:Nms nl)(c:Int):∃(g:Pt) (w:Int),cT [aV C,.lst (nl.map .str),.int c]=some (sD (g,w))/\(∀kn F,Kw nl kn F->St C kn F g w)/\deep g=1:=by
 have kp:(0:Int)<(C.kinds.length:Int):=by have:=K.k1;lia
 have Y:(0:Int)<C.M:=by have:=K.m3;lia
 generalize hy:c/5=y;have far:∃m:Int,0<m/\fF [D.int 1,D.int 2,D.int 100000000000000000000] (y/5%3)=some (.int m):=by
  have U:y/5%3=0\/y/5%3=1\/y/5%3=2:=by lia
  rcases U with h|h|h <;> rw[h]
  ·exact⟨1,by decide,at0⟩
  ·exact⟨2,by decide,at1⟩
  ·exact⟨100000000000000000000,by decide,at2⟩
 obtain⟨m,m0,G⟩:=far;have f0:=VB y (VV m0);have q:=aF (i:=y) m0;generalize y%m=f at f0 q;have kd:∀k2:Int,∃k,fF [D.int (y%(C.kinds.length:Int)),D.int k2] (y%2)=some (.int k):=λk2=>by
  have h2:y%2=0\/y%2=1:=by lia
  rcases h2 with h|h <;> rw[h]
  ·exact⟨_,at0⟩
  ·exact⟨_,at1⟩
 have qk:=aF (i:=y) kp;by_cases h0:c%5=0
 ·obtain⟨s,es,ns,_⟩:=kI y
  exact⟨.name s,3,aM (by simp_all[bS,aA,aQ,hy,eL,aF,G,q,h0,es,nO,gT]),λkn F W=>sW (λz=>by have:=W.ok _ z;rw[ns]at this;cases this) (λz=>by have:=W.fo _ z;rw[ns]at this;cases this),rfl⟩
 by_cases h1:c%5=1
 ·obtain⟨j,hj⟩:∃j:Nat,y%3=(j:Int):=⟨(y%3).toNat,by lia⟩
  have j3:j<3:=by lia
  have ia:fF (nl.map D.str) (9+y%3)=some (.str (nx nl (9+j))):=by
   rw[hj];exact bD (j:=9+j) (by rw[VM,N.at_ (by lia)];rfl)
  exact⟨.name (nx nl (9+j)),3,aM (by simp_all[bS,aA,aQ,hy,eL,aF,G,q,h1,ia,nO,gT]),λkn F W=>sW (W.off _ (by lia) (by lia)).1 (W.off _ (by lia) (by lia)).2,rfl⟩
 by_cases h2:c%5=2
 ·obtain⟨k,J⟩:=kd (C.kinds.length:Int)
  exact⟨.num (-1-f) k,4,aM (by simp_all[bS,aA,aQ,hy,eL,aF,G,q,qk,h2,J,mP,gT]),λkn F W=>z5 (by lia),rfl⟩
 by_cases U:c%5=3
 ·obtain⟨k,J⟩:=kd (-1)
  exact⟨.num (C.M+f) k,4,aM (by simp_all[bS,aA,aQ,hy,eL,vN,aF,G,q,qk,U,J,mP,gT]),λkn F W=>z5 (by lia),rfl⟩
 obtain⟨k,J,bk⟩:=kJ (n:=(C.kinds.length:Int)) (c:=y) (by lia);have g0:=VB f (VV Y);have g1:=VD f Y;have qg:=aF (i:=f) Y;exact⟨.num (f%C.M) k,5,aM (by simp_all[bS,aA,aQ,hy,eL,vN,aF,G,q,qg,h0,h1,h2,U,J,mP,gT]),λkn F W=>HL g0 g1 (t5 bk),rfl⟩
theorem C3{C:Bk}{kn F:List Str}{nm:Str}{n:Nat}(N:1<=n):∀q:List (Pt×Int),q.length<=3->(∀r∈q,St C kn F r.1 r.2/\deep r.1<=n)->∃(g:Pt) (w:Int),a7 [.tup [.str "use",.str nm,.tup (q.map λs=>pD s.1)],.lst (q.map sD),.int (if rK C nm q.length=true then 0 else 6)]=some (sD (g,w))/\St C kn F g w/\deep g<=n+1
 | [],_,_=>⟨.use0 nm,_,HD,IN,by simp_all[deep]⟩
 | [a],_,h=>by
  have z:=h a (by simp[-U5,-U6,aC,aG]);exact⟨.use1 nm a.1,_,zL rfl rfl,AE z.1,by simp_all[deep];lia⟩
 | [a,b],_,h=>by
  have z:=h a (by simp[-U5,-U6,aC,aG]);have G:=h b (by simp[-U5,-U6,aC,aG]);exact⟨.use2 nm a.1 b.1,_,dG rfl rfl,u3 z.1 G.1,by simp_all[deep];lia⟩
 | [a,b,c],_,h=>by
  have z:=h a (by simp[-U5,-U6,aC,aG]);have G:=h b (by simp[-U5,-U6,aC,aG]);have J:=h c (by simp[-U5,-U6,aC,aG]);exact⟨.use3 nm a.1 b.1 c.1,_,pB rfl rfl,HQ z.1 G.1 J.1,by simp_all[deep];lia⟩
 | _::_::_::_::_,h,_=>by simp[-U5,-U6,aC,aG]at h
theorem wJ:∀(ms:List Mk) (o:Option D),bA (aY 0) gG (a6 aP (aH 0) (eC (.int 0))) (ms.map nZ) [o]=some ((ms.map (·.nm)).map .str)
 | [],_=>rfl
 | m::ms,o=>by
  have ih:=wJ ms (some (nZ m));simp[-U5,-U6,aC,aG]at ih;simp_all[bA,vL,ih]
theorem G0{a b c:D}{j:Int}(h:j=0\/j=1\/j=2\/j=3):P.cutD [a,b,c] none (some j)=[a,b,c].take j.toNat:=by
 rcases h with rfl|rfl|rfl|rfl <;> rfl
theorem Q0{q:Type}{P:q->Prop}{a b c:q}(N:P a)(J:P b)(G:P c):∀r∈[a,b,c],P r:=List.forall_mem_cons.mpr ⟨N,List.forall_mem_cons.mpr ⟨J,List.forall_mem_cons.mpr ⟨G,λ_ z=>(nomatch z)⟩⟩⟩
theorem BB{C:Bk}(K:OkB C){nl:List Str}(N:Nms nl){kn F:List Str}{s l:Pt×Int}(Hs:St C kn F s.1 s.2)(J:St C kn F l.1 l.2)(dl:deep l.1=1){y:Int}:∃(g:Pt) (w:Int),gY [aV C,.lst (nl.map .str),sD s,sD l,.int y]=some (sD (g,w))/\St C kn F g w/\deep g<=deep s.1+1:=by
 suffices h:∃d,gY [aV C,.lst (nl.map .str),sD s,sD l,.int y]=some d/\∃(g:Pt) (w:Int),d=sD (g,w)/\St C kn F g w/\deep g<=deep s.1+1 by
  obtain⟨d,e,g,w,rfl,h⟩:=h;exact⟨g,w,e,h⟩
 have ds:=dD s.1;have r3:∃a b c:Pt×Int,fF [D.lst [sD s,sD l,sD l],D.lst [sD l,sD s,sD l]] (y/20%2)=some (.lst ([a,b,c].map sD))/\∀r∈[a,b,c],St C kn F r.1 r.2/\deep r.1<=deep s.1:=by
  have h2:y/20%2=0\/y/20%2=1:=by lia
  rcases h2 with h|h <;> rw[h]
  ·exact⟨s,l,l,at0,Q0 ⟨Hs,VG _⟩ ⟨J,by lia⟩ ⟨J,by lia⟩⟩
  ·exact⟨l,s,l,at1,Q0 ⟨J,by lia⟩ ⟨Hs,VG _⟩ ⟨J,by lia⟩⟩
 obtain⟨a,b,c,e3,h3⟩:=r3;have j4:y%4=0\/y%4=1\/y%4=2\/y%4=3:=by lia
 have W:P.cutD ([a,b,c].map sD) none (some (y%4))=([a,b,c].take (y%4).toNat).map sD:=by rw[List.map_take];exact G0 j4
 have G:∀r∈[a,b,c].take (y%4).toNat,St C kn F r.1 r.2/\deep r.1<=deep s.1:=λr G=>h3 r (za4 G)
 have lr:([a,b,c].take (y%4).toNat).length<=3:=by rw[WZ];simp[-U5,-U6,aC,aG];lia
 generalize [a,b,c].take (y%4).toNat=row at W G lr;refine i8 ?_;unfold kY;rw[aE (aN (d:=.lst (row.map sD)) (by
  generalize [a,b,c].map sD=abc at e3 W;simp_all[aA,aQ,aF,e3,W]))]
 have aa:fF (nl.map D.str) 11=some (.str (nx nl 11)):=bD (j:=11) (by rw[VM,N.at_ (by decide)];rfl);have ml:=K.ml;have zm:aZ C.makes.length=true:=decide_eq_true (by lia);have zT:aZ (C.makes.length+3)=true:=decide_eq_true (by lia);have cm:=wJ C.makes none;rw[aE (aN (d:=.lst ((C.makes.map (·.nm)++[nx nl 11, "", "A"]).map .str)) (by
  simp[-U5,-U6,aC,aG]at cm;simp_all[aA,vK,g6,zm,cm,aa,zT]))]
 have U:((C.makes.map (·.nm)++[nx nl 11, "", "A"]).length:Int)>0:=by simp[-U5,-U6,aC,aG];lia
 generalize C.makes.map (·.nm)++[nx nl 11, "", "A"]=T at U;obtain⟨nm,en,_⟩:=gA (l:=T) (k:=y/4%(T.length:Int)) (VB _ (VV U)) (VD _ U);have qT:=aF (i:=y/4) U;rw[aE (aN (d:=.str nm) (by simp_all[aA,aQ,qT,en]))];rw[aE (aN (d:=.int 6) (by simp[-U5,-U6,aC,aG]))];refine qZ (items:=C.makes.map nZ) (by simp_all[aA,vK]) (λi ρ=>∃o:Option D,ρ=[some (aV C),some (.lst (nl.map .str)),some (sD s),some (sD l),some (.int y),some (.lst (row.map sD)),some (.lst (T.map .str)),some (.str nm),some (.int (if(C.makes.take i).any (λm=>decide (m.nm=nm) && decide (m.takes.length=row.length))=true then 0 else 6)),o]) ⟨none,by simp_all[aA]⟩ ?_ ?_
 ·rintro i x ρ hx ⟨o,rfl⟩
  rw[VM]at hx;obtain⟨m,hm,rfl⟩:=Option.map_eq_some_iff.mp hx;have ht:C.makes.take (i+1)=C.makes.take i++[m]:=by rw[ZN,hm];rfl
  refine⟨_,?_,some (nZ m),rfl⟩;rw[ht,List.any_append,WJ,List.any_nil,Bool.or_false];generalize (C.makes.take i).any (λm=>decide (m.nm=nm) && decide (m.takes.length=row.length))=bb;by_cases h1:m.nm=nm
  ·by_cases h2:m.takes.length=row.length
   ·rw[decide_eq_true h1,decide_eq_true h2]
    simp_all[turn,vL,CI,h1,h2,tupI]
   ·have Y:¬ ((m.takes.length:Int)=(row.length:Int)):=by lia
    rw[decide_eq_true h1,decide_eq_false h2];simp_all[turn,vL,CI,h1,Y,tupI]
  ·rw[decide_eq_false h1]
   simp_all[turn,vL,h1]
 ·rintro ρ ⟨o,rfl⟩
  obtain⟨g,w,eo,sg,dg⟩:=C3 (nm:=nm) ds row lr G;rw[VL,zaY];have cs:=mW row none;have zr:aZ row.length=true:=decide_eq_true (by lia);have q:a7 [.tup [.str "use",.str nm,.tup (row.map λs=>pD s.1)],.lst (row.map sD),.int (if C.makes.any (λm=>decide (m.nm=nm) && decide (m.takes.length=row.length))=true then 0 else 6)]=some (sD (g,w)):=eo;generalize (if C.makes.any (λm=>decide (m.nm=nm) && decide (m.takes.length=row.length))=true then(0:Int)else 6)=own at q;have z:aZ (row.map sD).length=true:=by rw[VL];exact zr
  generalize row.map sD=rd at cs q z;generalize row.map (λs=>pD s.1)=rp at cs q;exact⟨_,by simp_all[g6,z,cs,q],g,w,rfl,sg,dg⟩
theorem HJ{C:Bk}{kn:List Str}{n k:Int}{x:Str}{p q:Pt}(h:aU x=false\/x∈kn){K:List Str}(a:∀y∈kn,y∈K):own C K (.again n k x p q)=if 0<=n/\n<=9 then(if jL C k=true then 3 else 5)else 4:=by
 have:AX K x=false:=by
  unfold AX;rcases h with h|h
  ·rw[h];rfl
  ·rw[List.contains_iff_mem.mpr (a x h),Bool.not_true,ZL]
 rw[own,this];rfl
theorem v4{C:Bk}(K:OkB C){nl:List Str}(N:Nms nl){kn F:List Str}(W:Kw nl kn F){s l:Pt×Int}(Hs:St C kn F s.1 s.2)(Hl:∀F,St C kn F l.1 l.2)(dl:deep l.1=1){y:Int}:∃(g:Pt) (w:Int),eZ [aV C,.lst (nl.map .str),.lst (kn.map .str),sD s,sD l,.int y]=some (sD (g,w))/\St C kn F g w/\deep g<=deep s.1+1:=by
 suffices h:∃d,eZ [aV C,.lst (nl.map .str),.lst (kn.map .str),sD s,sD l,.int y]=some d/\∃(g:Pt) (w:Int),d=sD (g,w)/\St C kn F g w/\deep g<=deep s.1+1 by
  obtain⟨d,e,g,w,rfl,h⟩:=h;exact⟨g,w,e,h⟩
 have ds:=dD s.1;have kp:(0:Int)<(C.kinds.length:Int):=by have:=K.k1;lia
 have wl:=W.l;obtain⟨n,en⟩:∃n:Int,fF [D.int (-1),D.int 10,D.int (y%10),D.int (11+y%100000000000000000000),D.int (y/7%10)] (y%5)=some (.int n):=by
  obtain⟨n,e,_⟩:=gB (ns:=[-1,10,y%10,11+y%100000000000000000000,y/7%10]) (k:=y%5) (VB _ (by decide)) (VD _ (by decide));exact⟨n,e⟩
 obtain⟨k0,ak,_⟩:=kJ (n:=(C.kinds.length:Int)) (c:=y/30) (by lia);obtain⟨k,ek⟩:∃k:Int,fF [D.int k0,D.int (y/7%(C.kinds.length:Int))] (y/5%2)=some (.int k):=by
  obtain⟨n,e,_⟩:=gB (ns:=[k0,y/7%(C.kinds.length:Int)]) (k:=y/5%2) (VB _ (by decide)) (VD _ (by decide));exact⟨n,e⟩
 obtain⟨z,ez,nz,lz⟩:=kI (y/30);have Y:fF (nl.map D.str) 10=some (.str (nx nl 10)):=bD (j:=10) (by rw[VM,N.at_ (by decide)];rfl);obtain⟨ac,ab⟩:=W.off 10 (by decide) (by decide);have q:=N.ok_ (b:=10) (by decide);have lT:(0:Int)<3+(kn.length:Int):=by lia
 obtain⟨x,ex,gx⟩:=gA (l:=[z,nx nl 10,nx nl 10]++kn) (k:=y/10%(3+(kn.length:Int))) (VB _ (VV lT)) (by have:=VD (y/10) lT;rw[WV];simp[-U5,-U6,aC,aG];lia);have mx:x=z\/x=nx nl 10\/x∈kn:=by
  have:=WR gx;simp[-U5,-U6,aC,aG]at this;rcases this with h|h|h
  ·exact .inl h
  ·exact .inr (.inl h)
  ·exact .inr (.inr h)
 have qT:=aF (i:=y/10) lT;have qk:=aF (i:=y/7) kp;have zT:aZ (3+kn.length)=true:=decide_eq_true (by lia);refine i8 ?_;unfold jF;rw[aE (aN (d:=.int (C.kinds.length:Int)) (by simp_all[aA,eL]))];rw[aE (aN (d:=.int n) (by simp_all[aA,aF,aQ,gT,en]))];rw[aE (aN (d:=.int k) (by simp_all[aA,aF,aQ,qk,ak,ek]))];rw[aE (aN (d:=.str x) (by
  simp[-U5,-U6,aC,aG]at ex;simp_all[aA,aQ,ez,Y,zT,qT,ex]))]
 rw[aE (aN (d:=.int 0) (by simp[-U5,-U6,aC,aG]))];have ai:∀o:Int,WK (WK (WK (WK (WK (aA 11 [aV C,.lst (nl.map .str),.lst (kn.map .str),sD s,sD l,.int y]) 6 (some (.int (C.kinds.length:Int)))) 7 (some (.int n))) 8 (some (.int k))) 9 (some (.str x))) 10 (some (.int o))=[some (aV C),some (.lst (nl.map .str)),some (.lst (kn.map .str)),some (sD s),some (sD l),some (.int y),some (.int (C.kinds.length:Int)),some (.int n),some (.int k),some (.str x),some (.int o)]:=λo=>rfl
 rw[ai]
 -- the three questions
 obtain⟨U,e1,h1⟩:∃U:Int,(kP (fN (a6 CO (aH 9) (a6 aP (aH 1) (eC (.int 10))))) (eW 10 (eC (.int 3))) nH) [some (aV C),some (.lst (nl.map .str)),some (.lst (kn.map .str)),some (sD s),some (sD l),some (.int y),some (.int (C.kinds.length:Int)),some (.int n),some (.int k),some (.str x),some (.int 0)]=some (.nx [some (aV C),some (.lst (nl.map .str)),some (.lst (kn.map .str)),some (sD s),some (sD l),some (.int y),some (.int (C.kinds.length:Int)),some (.int n),some (.int k),some (.str x),some (.int U)])/\(U=0/\x=nx nl 10\/U=3/\x≠nx nl 10):=by
  by_cases h:x=nx nl 10
  ·exact⟨0,by simp_all[Y,h],.inl ⟨rfl,h⟩⟩
  ·exact⟨3,by simp_all[Y,h],.inr ⟨rfl,h⟩⟩
 rw[aE e1];obtain⟨G,e2,h2⟩:∃G:Int,(kP (KO (fN (a6 OO (aH 8) (eC (.int 0)))) (fN (a6 N7 (aH 8) (aH 6)))) (eW 10 (eC (.int 5))) nH) [some (aV C),some (.lst (nl.map .str)),some (.lst (kn.map .str)),some (sD s),some (sD l),some (.int y),some (.int (C.kinds.length:Int)),some (.int n),some (.int k),some (.str x),some (.int U)]=some (.nx [some (aV C),some (.lst (nl.map .str)),some (.lst (kn.map .str)),some (sD s),some (sD l),some (.int y),some (.int (C.kinds.length:Int)),some (.int n),some (.int k),some (.str x),some (.int G)])/\(G=U/\jL C k=true\/G=5/\jL C k=false):=by
  by_cases a:k<0
  ·exact⟨5,by simp_all[a],.inr ⟨rfl,t5 (.inl a)⟩⟩
  ·by_cases b:(C.kinds.length:Int)<=k
   ·exact⟨5,by simp_all[a,b],.inr ⟨rfl,t5 (.inr b)⟩⟩
   ·exact⟨U,by simp_all[a,b],.inl ⟨rfl,eK (by lia) (by lia)⟩⟩
 rw[aE e2];obtain⟨o3,e3,h3⟩:∃o3:Int,(kP (KO (fN (a6 OO (aH 7) (eC (.int 0)))) (fN (a6 kD (aH 7) (eC (.int 9))))) (eW 10 (eC (.int 4))) nH) [some (aV C),some (.lst (nl.map .str)),some (.lst (kn.map .str)),some (sD s),some (sD l),some (.int y),some (.int (C.kinds.length:Int)),some (.int n),some (.int k),some (.str x),some (.int G)]=some (.nx [some (aV C),some (.lst (nl.map .str)),some (.lst (kn.map .str)),some (sD s),some (sD l),some (.int y),some (.int (C.kinds.length:Int)),some (.int n),some (.int k),some (.str x),some (.int o3)])/\(o3=G/\(0<=n/\n<=9)\/o3=4/\¬ (0<=n/\n<=9)):=by
  by_cases a:n<0
  ·exact⟨4,by simp_all[a],.inr ⟨rfl,by lia⟩⟩
  ·by_cases b:9<n
   ·exact⟨4,by simp_all[a,b],.inr ⟨rfl,by lia⟩⟩
   ·exact⟨G,by simp_all[a,b],.inl ⟨rfl,by lia⟩⟩
 rw[aE e3];have ov:=dG (g:=.again n k x s.1 l.1) (a:=s.1) (b:=l.1) (wa:=s.2) (wb:=l.2) (own:=o3) rfl rfl;rw[pD]at ov;have sx:x.length<=1000:=by
  rcases mx with h|h|h
  ·rw[h];lia
  ·rw[h];have:=dZ q;lia
  ·have:=dZ (W.ok x h);lia
 refine⟨sD (.again n k x s.1 l.1,f2 (f2 o3 s.2) l.2),by simp_all[s_0,ov],.again n k x s.1 l.1,_,rfl,?_,by simp_all[deep];lia⟩;have J:∀o,¬ o=0->(∀K:List Str,(∀y∈kn,y∈K)->own C K (.again n k x s.1 l.1)=o)->St C kn F (.again n k x s.1 l.1) (f2 (f2 o s.2) l.2):=λo h0 ho=>BN sx ho h0 Hs.sh (Hl F).sh
 rcases h3 with⟨q3,n9⟩|⟨q3,n9⟩
 ·rcases h2 with⟨q2,hk⟩|⟨q2,hk⟩
  ·rcases h1 with⟨q1,hx⟩|⟨q1,hx⟩
   ·rw[q3,q2,q1]
    rw[<- hx]at q ac ab;exact j6 n9 hk q ac ab Hs ((Hl (x::F)).fresh (VR ..) λy hy=>VW _ hy)
   ·rw[q3,q2,q1]
    refine J 3 (by decide) λK a=>?_
    rw[HJ (by rcases mx with h|h|h;exact .inl (h ▸ nz);exact absurd h hx;exact .inr h) a,if_pos n9,if_pos hk]
  ·rw[q3,q2]
   refine J 5 (by decide) λK a=>?_
   rw[own,if_pos n9,if_neg (by rw[hk];decide)]
 ·rw[q3]
  refine J 4 (by decide) λK a=>?_
  rw[own,if_neg n9]
theorem P7{P:Pt×Int->Prop}{a b c:Pt×Int}(W:P a)(hb:P b)(hc:P c){i j:Int}(hi:i=0\/i=1\/i=2)(hj:j=0\/j=1\/j=2):∃q z G U J N:Pt×Int,w9 (.lst [sD a,sD a,sD a]) (.int i) (sD b)=some (.lst [sD q,sD z,sD G])/\w9 (.lst [sD q,sD z,sD G]) (.int j) (sD c)=some (.lst [sD U,sD J,sD N])/\P U/\P J/\P N:=by
 have pt:∀(u v w e:Pt×Int) (k:Int),k=0\/k=1\/k=2->P u->P v->P w->P e->∃u' v' w':Pt×Int,w9 (.lst [sD u,sD v,sD w]) (.int k) (sD e)=some (.lst [sD u',sD v',sD w'])/\P u'/\P v'/\P w':=λu v w e k hk hu hv hw Y=>by
  rcases hk with rfl|rfl|rfl
  ·exact⟨e,v,w,fD (l:=[sD u,sD v,sD w]) (k:=0) (by decide) (by simp[-U5,-U6,aC,aG]),Y,hv,hw⟩
  ·exact⟨u,e,w,fD (l:=[sD u,sD v,sD w]) (k:=1) (by decide) (by simp[-U5,-U6,aC,aG]),hu,Y,hw⟩
  ·exact⟨u,v,e,fD (l:=[sD u,sD v,sD w]) (k:=2) (by decide) (by simp[-U5,-U6,aC,aG]),hu,hv,Y⟩
 obtain⟨q,z,G,e1,p1,p2,p3⟩:=pt a a a b i hi W W W hb;obtain⟨U,J,N,e2,p4,p5,p6⟩:=pt q z G c j hj p1 p2 p3 hc;exact⟨q,z,G,U,J,N,e1,e2,p4,p5,p6⟩
theorem xQ{C:Bk}(K:OkB C){nl:List Str}(N:Nms nl){kn F:List Str}(W:Kw nl kn F){s l:Pt×Int}(Hs:St C kn F s.1 s.2)(Hl:St C kn F l.1 l.2)(dl:deep l.1=1){y:Int}:∃(g:Pt) (w:Int),fT [aV C,.lst (nl.map .str),sD s,sD l,.int y]=some (sD (g,w))/\St C kn F g w/\deep g<=deep s.1+1:=by
 suffices h:∃d,fT [aV C,.lst (nl.map .str),sD s,sD l,.int y]=some d/\∃(g:Pt) (w:Int),d=sD (g,w)/\St C kn F g w/\deep g<=deep s.1+1 by
  obtain⟨d,e,g,w,rfl,h⟩:=h;exact⟨g,w,e,h⟩
 have ds:=dD s.1;have J:(0:Int)<(C.kinds.length:Int):=by have:=K.k1;lia
 obtain⟨k0,aa,Y⟩:=kJ (n:=(C.kinds.length:Int)) (c:=y/4) (by lia);obtain⟨lg,lw,el,sl,ac⟩:=l9 K N (y/12);have b0:=VB (y/3) (VV J);have b1:=VD (y/3) J;have d0:=VB (y/5) (VV J);have d1:=VD (y/5) J;have qa:=aF (i:=y/3) J;have qb:=aF (i:=y/5) J;generalize y/3%(C.kinds.length:Int)=c1 at b0 b1 qa;generalize y/5%(C.kinds.length:Int)=c2 at d0 d1 qb;refine i8 ?_;unfold jO;rw[aE (aN (d:=.int (C.kinds.length:Int)) (by simp_all[aA,eL]))];rw[aE (aN (d:=.int c1) (by simp_all[aA,aQ,qa]))];rw[aE (aN (d:=.int c2) (by simp_all[aA,aQ,qb]))];rw[aE (aN (d:=.int 5) (by simp[-U5,-U6,aC,aG]))];have ad:WK (WK (WK (WK (aA 11 [aV C,.lst (nl.map .str),sD s,sD l,.int y]) 5 (some (.int (C.kinds.length:Int)))) 6 (some (.int c1))) 7 (some (.int c2))) 8 (some (.int 5))=[some (aV C),some (.lst (nl.map .str)),some (sD s),some (sD l),some (.int y),some (.int (C.kinds.length:Int)),some (.int c1),some (.int c2),some (.int 5),none,none]:=rfl;rw[ad];have fin:∀(c k o:Int) (t:Pt×Int) (i j:Int),(y/4%3=i)->((y/4+1+y/2%2)%3=j)->(i=0\/i=1\/i=2)->(j=0\/j=1\/j=2)->(St C kn F t.1 t.2/\deep t.1=1)->o=(if jL C c=true/\jL C k=true then 0 else 5)->
   ∃d,(bI (eW 10 (vJ (aI (aH 3) (aI (aH 3) (aI (aH 3) bC))))) (bI (F8 10 (a6 jI (a6 oX (aH 4) (eC (.int 4))) (eC (.int 3))) (aH 2)) (bI (F8 10 (a6 jI (a6 gP (a6 gP (a6 oX (aH 4) (eC (.int 4))) (eC (.int 1))) (a6 jI (a6 oX (aH 4) (eC (.int 2))) (eC (.int 2)))) (eC (.int 3))) (aH 9)) (OM (aS a7 (aI (sE (aI (eC (.str "pick")) (aI (aH 6) (aI (aH 7) (aI (a6 aP (a6 aP (aH 10) (eC (.int 0))) (eC (.int 0))) (aI (a6 aP (a6 aP (aH 10) (eC (.int 1))) (eC (.int 0))) (aI (a6 aP (a6 aP (aH 10) (eC (.int 2))) (eC (.int 0))) bC))))))) (aI (aH 10) (aI (aH 8) bC)))))))) [some (aV C),some (.lst (nl.map .str)),some (sD s),some (sD l),some (.int y),some (.int (C.kinds.length:Int)),some (.int c),some (.int k),some (.int o),some (sD t),none]=some (.rt d)/\∃(g:Pt) (w:Int),d=sD (g,w)/\St C kn F g w/\deep g<=deep s.1+1:=λc k o t i j ei ej hi hj ht ho=>by
  obtain⟨r1,r2,r3,q,G,U,p1,p2,q4,q5,q6⟩:=P7 (P:=λr=>St C kn F r.1 r.2/\deep r.1<=deep s.1) (a:=l) (b:=s) (c:=t) ⟨Hl,by lia⟩ ⟨Hs,VG _⟩ ⟨ht.1,by lia⟩ hi hj;have ov:=pB (g:=.pick c k q.1 G.1 U.1) (a:=q.1) (b:=G.1) (c:=U.1) (wa:=q.2) (wb:=G.2) (wc:=U.2) (own:=o) rfl rfl;rw[pD]at ov;refine⟨sD (.pick c k q.1 G.1 U.1,f2 (f2 (f2 o q.2) G.2) U.2),by simp_all[aQ,aF,ei,ej,p1,p2,at0,at1,at2,s_0,ov],.pick c k q.1 G.1 U.1,_,rfl,by rw[ho];exact uP q4.1 q5.1 q6.1,by have:=q4.2;have:=q5.2;have:=q6.2;simp_all[deep];lia⟩
 have i3:y/4%3=0\/y/4%3=1\/y/4%3=2:=by lia
 have j3:(y/4+1+y/2%2)%3=0\/(y/4+1+y/2%2)%3=1\/(y/4+1+y/2%2)%3=2:=by lia
 have k1:=eK (C:=C) b0 b1;have k2:=eK (C:=C) d0 d1;by_cases h0:y%4=0
 ·rw[aE (ρ':=[some (aV C),some (.lst (nl.map .str)),some (sD s),some (sD l),some (.int y),some (.int (C.kinds.length:Int)),some (.int k0),some (.int c2),some (.int 5),none,none]) (by simp_all[aF,aQ,h0,aa])]
  rw[aE (ρ':=[some (aV C),some (.lst (nl.map .str)),some (sD s),some (sD l),some (.int y),some (.int (C.kinds.length:Int)),some (.int k0),some (.int c2),some (.int 5),none,none]) (by simp_all[aF,h0])];rw[aE (aN (d:=sD l) (by simp[-U5,-U6,aC,aG]))];rw[aE (ρ':=[some (aV C),some (.lst (nl.map .str)),some (sD s),some (sD l),some (.int y),some (.int (C.kinds.length:Int)),some (.int k0),some (.int c2),some (.int 5),some (sD l),none]) (by simp_all[aF,h0])];exact fin k0 c2 5 l _ _ rfl rfl i3 j3 ⟨Hl,dl⟩ (by rw[t5 Y];rfl)
 by_cases h1:y%4=1
 ·rw[aE (ρ':=[some (aV C),some (.lst (nl.map .str)),some (sD s),some (sD l),some (.int y),some (.int (C.kinds.length:Int)),some (.int c1),some (.int c2),some (.int 5),none,none]) (by simp_all[aF,h1])]
  rw[aE (ρ':=[some (aV C),some (.lst (nl.map .str)),some (sD s),some (sD l),some (.int y),some (.int (C.kinds.length:Int)),some (.int c1),some (.int k0),some (.int 5),none,none]) (by simp_all[aF,aQ,h1,aa])];rw[aE (aN (d:=sD l) (by simp[-U5,-U6,aC,aG]))];rw[aE (ρ':=[some (aV C),some (.lst (nl.map .str)),some (sD s),some (sD l),some (.int y),some (.int (C.kinds.length:Int)),some (.int c1),some (.int k0),some (.int 5),some (sD l),none]) (by simp_all[aF,h1])];exact fin c1 k0 5 l _ _ rfl rfl i3 j3 ⟨Hl,dl⟩ (by rw[if_neg];rw[t5 Y];exact λz=>nomatch z.2)
 have h2:1<y%4:=by lia
 rw[aE (ρ':=[some (aV C),some (.lst (nl.map .str)),some (sD s),some (sD l),some (.int y),some (.int (C.kinds.length:Int)),some (.int c1),some (.int c2),some (.int 5),none,none]) (by simp_all[aF,h0])];rw[aE (ρ':=[some (aV C),some (.lst (nl.map .str)),some (sD s),some (sD l),some (.int y),some (.int (C.kinds.length:Int)),some (.int c1),some (.int c2),some (.int 5),none,none]) (by simp_all[aF,h1])];rw[aE (aN (d:=sD l) (by simp[-U5,-U6,aC,aG]))];rw[aE (ρ':=[some (aV C),some (.lst (nl.map .str)),some (sD s),some (sD l),some (.int y),some (.int (C.kinds.length:Int)),some (.int c1),some (.int c2),some (.int 0),some (sD (lg,lw)),none]) (by simp_all[aF,aQ,h2,el])];exact fin c1 c2 0 (lg,lw) _ _ rfl rfl i3 j3 ⟨sl kn F W,ac⟩ (by rw[if_pos ⟨k1,k2⟩])
theorem Kw.sub{nl kn F F':List Str}(W:Kw nl kn F)(h:∀x∈F',x∈F):Kw nl kn F':=⟨W.l,W.ok,λy q=>W.fo y (h y q),λb a c=>⟨(W.off b a c).1,λz=>(W.off b a c).2 (h _ z)⟩⟩
theorem tH{C:Bk}(K:OkB C){nl:List Str}(N:Nms nl){kn F F':List Str}(W:Kw nl kn F){s:Pt×Int}(Hs:St C kn F s.1 s.2){fr:Nat}(ad:fr<14)(ak:nx nl fr∈F)(ab:nx nl fr∉kn)(hF:∀x∈F',x∈F/\x≠nx nl fr){c:Int}(c0:0<=c)(c1:c<=10^60):∃(g:Pt) (w:Int),eJ [aV C,.lst (nl.map .str),.lst (kn.map .str),sD s,.int c,.int (fr:Int)]=some (sD (g,w))/\St C kn F' g w/\deep g<=deep s.1+1:=by
 suffices h:∃d,eJ [aV C,.lst (nl.map .str),.lst (kn.map .str),sD s,.int c,.int (fr:Int)]=some d/\∃(g:Pt) (w:Int),d=sD (g,w)/\St C kn F' g w/\deep g<=deep s.1+1 by
  obtain⟨d,e,g,w,rfl,h⟩:=h;exact⟨g,w,e,h⟩
 have ds:=dD s.1;have kp:(0:Int)<(C.kinds.length:Int):=by have:=K.k1;lia
 have wl:=W.l;have G:∀x∈F',x∈F:=λx hx=>(hF x hx).1
 have W':=W.sub G;have J:St C kn F' s.1 s.2:=Hs.mono λx hx=>.inr (G x hx)
 have bn:(10:Int)^60=1000000000000000000000000000000000000000000000000000000000000:=by decide +kernel
 generalize hy:c/5=y;obtain⟨U,el,ol,dl⟩:=dN K (kn:=kn) (by lia) (c:=y/3) (by lia) (by lia);obtain⟨wg,ww,ew,sw,dw⟩:=l9 K N (y/21);refine i8 ?_;unfold sZ;rw[aE (aN (d:=.int y) (by simp_all[aA,aQ,hy]))];rw[aE (aN (d:=sD (U,0)) (by simp_all[aA,aQ,el]))];have an:WK (WK (aA 11 [aV C,.lst (nl.map .str),.lst (kn.map .str),sD s,.int c,.int (fr:Int)]) 6 (some (.int y))) 7 (some (sD (U,0)))=[some (aV C),some (.lst (nl.map .str)),some (.lst (kn.map .str)),some (sD s),some (.int c),some (.int (fr:Int)),some (.int y),some (sD (U,0)),none,none,none]:=rfl;rw[an];obtain⟨L,e7,Y,dL,ag⟩:∃L:Pt×Int,(kP (yX (fN (a6 lU (a6 jI (a6 oX (aH 6) (eC (.int 7))) (eC (.int 3))) (eC (.int 0)))) (KO (fN (a6 lU (a6 jI (aH 4) (eC (.int 5))) (eC (.int 0)))) (fN (a6 lU (a6 jI (aH 4) (eC (.int 5))) (eC (.int 3)))))) (eW 7 (aS cT (aI (aH 0) (aI (aH 1) (aI (a6 oX (aH 6) (eC (.int 21))) bC))))) nH) [some (aV C),some (.lst (nl.map .str)),some (.lst (kn.map .str)),some (sD s),some (.int c),some (.int (fr:Int)),some (.int y),some (sD (U,0)),none,none,none]=some (.nx [some (aV C),some (.lst (nl.map .str)),some (.lst (kn.map .str)),some (sD s),some (.int c),some (.int (fr:Int)),some (.int y),some (sD L),none,none,none])/\St C kn F' L.1 L.2/\deep L.1=1/\(¬ c%5=0->¬ c%5=3->∀F,St C kn F L.1 L.2):=by
  by_cases a:y/7%3=0
  ·by_cases b:c%5=0
   ·exact⟨(wg,ww),by simp_all[aQ,aF,a,b,ew],sw kn F' W',dw,λz=>absurd b z⟩
   ·by_cases d:c%5=3
    ·exact⟨(wg,ww),by simp_all[aQ,aF,a,d,ew],sw kn F' W',dw,λ_ z=>absurd d z⟩
    ·exact⟨(U,0),by simp_all[aQ,aF,a,b,d],ol F',dl,λ_ _=>ol⟩
  ·exact⟨(U,0),by simp_all[aQ,aF,a],ol F',dl,λ_ _=>ol⟩
 rw[aE e7];by_cases h0:c%5=0
 ·obtain⟨g,w,e,sg,dg⟩:=BB K N J Y dL (y:=y)
  exact⟨_,by simp_all[aF,h0,e],g,w,rfl,sg,dg⟩
 by_cases h1:c%5=1
 ·obtain⟨g,w,e,sg,dg⟩:=v4 K N W' J (ag h0 (by lia)) dL (y:=y)
  exact⟨_,by simp_all[aF,h1,e],g,w,rfl,sg,dg⟩
 have ax:¬ c%5=0/\¬ c%5=1:=⟨h0,h1⟩;rw[aE (ρ':=[some (aV C),some (.lst (nl.map .str)),some (.lst (kn.map .str)),some (sD s),some (.int c),some (.int (fr:Int)),some (.int y),some (sD L),none,none,none]) (by simp_all[aF,h0])];rw[aE (ρ':=[some (aV C),some (.lst (nl.map .str)),some (.lst (kn.map .str)),some (sD s),some (.int c),some (.int (fr:Int)),some (.int y),some (sD L),none,none,none]) (by simp_all[aF,h1])];by_cases h2:c%5=2
 ·obtain⟨z,ez,nz,lz⟩:=kI (y/9)
  have lT:(0:Int)<1+(kn.length:Int):=by lia
  obtain⟨x,ex,gx⟩:=gA (l:=[z]++kn) (k:=y%(1+(kn.length:Int))) (VB _ (VV lT)) (by have:=VD y lT;rw[WV];simp[-U5,-U6,aC,aG];lia);have mx:x=z\/x∈kn:=by
   have:=WR gx;simp[-U5,-U6,aC,aG]at this;exact this
  have qT:=aF (i:=y) lT;have zT:aZ (1+kn.length)=true:=decide_eq_true (by lia);have sx:x.length<=1000:=by
   rcases mx with h|h
   ·rw[h];lia
   ·have:=dZ (W.ok x h);lia
  have hb:aU x=false\/x∈kn:=by rcases mx with h|h;exact .inl (h ▸ nz);exact .inr h
  obtain⟨a,b,er,ha,ao,da,db⟩:∃a b:Pt×Int,fF [D.lst [sD L,sD s],D.lst [sD s,sD L]] (y/2%2)=some (.lst [sD a,sD b])/\fE a.1/\fE b.1/\deep a.1<=deep s.1/\deep b.1<=deep s.1:=by
   have h2:y/2%2=0\/y/2%2=1:=by lia
   rcases h2 with h|h <;> rw[h]
   ·exact⟨L,s,at0,Y.sh,Hs.sh,by lia,VG _⟩
   ·exact⟨s,L,at1,Hs.sh,Y.sh,VG _,by lia⟩
  have q:=dG (g:=.lett x a.1 b.1) (a:=a.1) (b:=b.1) (wa:=a.2) (wb:=b.2) (own:=3) rfl rfl;rw[pD]at q;refine⟨sD (.lett x a.1 b.1,f2 (f2 3 a.2) b.2),q0 ?_,.lett x a.1 b.1,_,rfl,GU sx hb ha ao,by simp_all[deep];lia⟩;rw[KA (by simp_all[aF,h2])];rw[aE (aN (d:=.str x) (by
   simp[-U5,-U6,aC,aG]at ex;simp_all[aQ,ez,zT,qT,ex]))]
  rw[aE (aN (d:=.lst [sD a,sD b]) (by simp_all[aQ,aF,er]))];simp_all[at0,at1,s_0,q]
 rw[aE (ρ':=[some (aV C),some (.lst (nl.map .str)),some (.lst (kn.map .str)),some (sD s),some (.int c),some (.int (fr:Int)),some (.int y),some (sD L),none,none,none]) (by simp_all[aF,h2])];by_cases h3:c%5=3
 ·have ae:fF (nl.map D.str) (fr:Int)=some (.str (nx nl fr)):=bD (j:=fr) (by rw[VM,N.at_ ad];rfl)
  have af:=N.ok_ ad;have nf:nx nl fr∉F':=λz=>(hF _ z).2 rfl
  have Hq:St C (kn++[nx nl fr]) F' s.1 s.2:=Hs.fresh ak G;have b0:=VB (y/10) (VV kp);have b1:=VD (y/10) kp;have qb:=aF (i:=y/10) kp;generalize y/10%(C.kinds.length:Int)=k at b0 b1 qb;have a0:=VB y (show(10:Int)≠0 by decide);have a1:=VD y (show(0:Int)<10 by decide);generalize hn:y%10=n at a0 a1;by_cases aa:y/3%2=1
  ·have q:=dG (g:=.lett (nx nl fr) L.1 s.1) (a:=L.1) (b:=s.1) (wa:=L.2) (wb:=s.2) (own:=0) rfl rfl
   rw[pD]at q;refine⟨sD (.lett (nx nl fr) L.1 s.1,f2 (f2 0 L.2) s.2),q0 ?_,.lett (nx nl fr) L.1 s.1,_,rfl,yJ af ab nf Y Hq,by simp_all[deep];lia⟩;rw[KA (by simp_all[aF,h3])];simp_all[aF,aQ,hn,eL,qb,ae,s_0,aa,q]
  ·have q:=dG (g:=.again n k (nx nl fr) L.1 s.1) (a:=L.1) (b:=s.1) (wa:=L.2) (wb:=s.2) (own:=0) rfl rfl
   rw[pD]at q;refine⟨sD (.again n k (nx nl fr) L.1 s.1,f2 (f2 0 L.2) s.2),q0 ?_,.again n k (nx nl fr) L.1 s.1,_,rfl,j6 ⟨a0,by lia⟩ (eK b0 b1) af ab nf Y Hq,by simp_all[deep];lia⟩;rw[KA (by simp_all[aF,h3])];simp_all[aF,aQ,hn,eL,qb,ae,s_0,aa,q]
 rw[aE (ρ':=[some (aV C),some (.lst (nl.map .str)),some (.lst (kn.map .str)),some (sD s),some (.int c),some (.int (fr:Int)),some (.int y),some (sD L),none,none,none]) (by simp_all[aF,h3])];obtain⟨g,w,e,sg,dg⟩:=xQ K N W' J Y dL (y:=y);exact⟨_,by simp_all[e],g,w,rfl,sg,dg⟩
theorem z4{nl:List Str}(N:Nms nl):∀(l:List Nat) (o:Option D),(∀b∈l,b<14)->bA (aY 0) gG (a6 aP (aH 1) (aH 0)) (l.map λ(b:Nat)=>D.int (b:Int)) [o,some (.lst (nl.map .str))]=some ((l.map (nx nl)).map .str)
 | [],_,_=>rfl
 | b::l,o,h=>by
  have ih:=z4 N l (some (.int (b:Int))) λc q=>h c (VW _ q)
  have ib:fF (nl.map D.str) (b:Int)=some (.str (nx nl b)):=bD (j:=b) (by rw[VM,N.at_ (h b (VR ..))];rfl);simp[-U5,-U6,aC,aG]at ih;simp_all[bA,ib,ih]
noncomputable def t4:List (List Nat):=[[],[6],[8],[6,8],[8,6],[6,7],[7,8,6],[7,6,8]]
theorem D9:∀l∈t4,l.Nodup/\(∀b∈l,b=6\/b=7\/b=8)/\l.length<=3:=by decide
theorem vT(ns:List Int){C:Bk}{nl:List Str}{ps:List (Str×Int)}(X:Ctx C nl (ps.map (·.1))){F:List Str}(hF:Fr nl F){B:Nat}(hB:52<=B):∃(g:Pt) (left:List Nat),oA [.lst (ns.map .int),aV C,.lst (nl.map .str),.lst (ps.map bE)]=some (bX nl (ps.map (·.1)) (g,0) left)/\Inv C nl (ps.map (·.1)) F B g 0 left:=by
 obtain⟨f,hf⟩:=dM ns;have G:=(hf 18 (by decide) (by decide)).1;obtain⟨W,c0,c1⟩:=hf 19 (by decide) (by decide);have a0:=VB (f 18) (show(8:Int)≠0 by decide);have a1:=VD (f 18) (show(0:Int)<8 by decide);obtain⟨j,hj⟩:∃j:Nat,f 18%8=(j:Int):=⟨(f 18%8).toNat,by lia⟩;have z:j<8:=by lia
 have Y:t4[j]∈t4:=YT z;have q:fF (t4.map oQ) (j:Int)=some (oQ t4[j]):=bD (by rw[VM,WE z];rfl);obtain⟨l1,J,l3⟩:=D9 _ Y;generalize t4[j]=left at q Y l1 J l3;have L:LeftOk left:=⟨l1,J,l3⟩;have ln:=Inv.len X L;have h6:=X.h6;rw[VL]at h6;obtain⟨g,eg,U,sg⟩:=lF X.K (X.wr L hF) c0 (by lia);have cf:=qG ps none none;have cn:=z4 X.N left none λb hb=>by have:=J b hb;lia
 have z1:aZ (ps.map bE).length=true:=decide_eq_true (by rw[VL];lia);have z2:aZ left.length=true:=decide_eq_true (by lia);have z3:aZ (ps.length+left.length)=true:=decide_eq_true (by lia);refine⟨g,left,aM ?_,U,by lia,L⟩;have hq:jI (.int (f 18)) (.int 8)=some (.int (j:Int)):=by rw[aF (by decide),hj]
 unfold oB;rw[aE (aN (d:=oQ left) (by
  have:fF [D.lst [],D.lst [D.int 6],D.lst [D.int 8],D.lst [D.int 6,D.int 8],D.lst [D.int 8,D.int 6],D.lst [D.int 6,D.int 7],D.lst [D.int 7,D.int 8,D.int 6],D.lst [D.int 7,D.int 6,D.int 8]] (j:Int)=some (oQ left):=q;simp_all[aA,G,hq,this]))]
 rw[aE (aN (d:=.lst ((lW nl (ps.map (·.1)) left).map .str)) (by
  rw[VL]at z1;simp_all[-V7,aA,g6,oQ,z1,z2,cf,cn,z3,lW]))]
 simp_all[aA,W,eg,bX]
theorem xM{ns:List Int}(G:ns.length<=63):∃m:Int,pO [.lst (ns.map .int)]=some (.int m)/\0<=m/\m<=100:=by
 obtain⟨f,z⟩:=dM ns;have q:=(z 18 (by decide) (by decide)).1;have a0:=VB (f 18/8) (show(31:Int)≠0 by decide);have J:=VD (f 18/8) (show(0:Int)<31 by decide);by_cases h:(ns.length:Int)-23<f 18/8%31
 ·exact⟨_,aM (by simp_all[lE,aA,q,aQ,aF,h] <;> rfl),a0,by lia⟩
 ·exact⟨_,aM (by simp_all[lE,aA,q,aQ,aF,h] <;> rfl),by lia,by lia⟩
theorem Ctx.kw{C:Bk}{nl hs:List Str}(X:Ctx C nl hs){left:List Nat}(L:LeftOk left){F:List Str}(J:Fr nl F):Kw nl (lW nl hs left) F:=⟨by have:=Inv.len X L;lia,λy G=>by
 rcases List.mem_append.mp G with z|z
 ·rw[X.hs]at z;exact X.N.ok y (za4 z)
 ·obtain⟨a,W,rfl⟩:=List.mem_map.mp z
  have:=L.m a W;exact X.N.ok_ (by lia),λy G=>by
 rcases J y G with e|e <;> rw[e] <;> exact X.N.ok_ (by decide),λb U q=>⟨X.off L U (by lia),J.off X.N q⟩⟩
def fr(nl:List Str)(b:Nat)(t:Bool):List Str:=if t=true then [nx nl b]else []
noncomputable def bd(t:Bool):Nat:=if t=true then 0 else 1
theorem AI{nl:List Str}{t u:Bool}:Fr nl (fr nl 12 t++fr nl 13 u):=λx q=>by
 rcases List.mem_append.mp q with z|z
 ·unfold fr at z;split at z
  ·exact .inl (List.mem_singleton.mp z)
  ·exact nomatch z
 ·unfold fr at z;split at z
  ·exact .inr (List.mem_singleton.mp z)
  ·exact nomatch z
theorem SH{C:Bk}{nl hs:List Str}(X:Ctx C nl hs){u:Bool}{g:Pt}{w:Int}{left:List Nat}{B:Nat}(I:Inv C nl hs (fr nl 12 true++fr nl 13 u) B g w left){c:Int}(c0:0<=c)(J:c<=10^60):∃(g':Pt) (q:Int),eJ [aV C,.lst (nl.map .str),.lst ((lW nl hs left).map .str),sD (g,w),.int c,.int 12]=some (sD (g',q))/\Inv C nl hs (fr nl 12 false++fr nl 13 u) (B+1) g' q left:=by
 obtain⟨g',q,e,sg,G⟩:=tH X.K X.N (X.kw I.lo AI) (s:=(g,w)) I.st (fr:=12) (F':=fr nl 12 false++fr nl 13 u) (by decide) (WX _ (by simp_all[fr])) (X.off I.lo (by decide) (by decide)) (λx U=>by
  rcases List.mem_append.mp U with z|z
  ·exact nomatch z
  ·refine⟨WM _ z,λe=>?_⟩
   unfold fr at z;split at z
   ·have:=X.N.inj (a:=13) (b:=12) (by decide) (by decide) ((List.mem_singleton.mp z).symm.trans e)
    lia
   ·exact nomatch z) c0 J
 exact⟨g',q,e,sg,by have:=I.d;simp[-U5,-U6,aC,aG]at G;lia,I.lo⟩
theorem S8{C:Bk}{nl hs:List Str}(X:Ctx C nl hs){t:Bool}{g:Pt}{w:Int}{left:List Nat}{B:Nat}(I:Inv C nl hs (fr nl 12 t++fr nl 13 true) B g w left){c:Int}(c0:0<=c)(J:c<=10^60):∃(g':Pt) (q:Int),eJ [aV C,.lst (nl.map .str),.lst ((lW nl hs left).map .str),sD (g,w),.int c,.int 13]=some (sD (g',q))/\Inv C nl hs (fr nl 12 t++fr nl 13 false) (B+1) g' q left:=by
 obtain⟨g',q,e,sg,G⟩:=tH X.K X.N (X.kw I.lo AI) (s:=(g,w)) I.st (fr:=13) (F':=fr nl 12 t++fr nl 13 false) (by decide) (WM _ (by simp_all[fr])) (X.off I.lo (by decide) (by decide)) (λx U=>by
  rcases List.mem_append.mp U with z|z
  ·refine⟨WX _ z,λe=>?_⟩
   unfold fr at z;split at z
   ·have:=X.N.inj (a:=12) (b:=13) (by decide) (by decide) ((List.mem_singleton.mp z).symm.trans e)
    lia
   ·exact nomatch z
  ·exact nomatch z) c0 J
 exact⟨g',q,e,sg,by have:=I.d;simp[-U5,-U6,aC,aG]at G;lia,I.lo⟩
theorem FZ{nl hs:List Str}{s:Pt×Int}{left:List Nat}:aP (bX nl hs s left) (.int 0)=some (sD s):=by unfold bX;rw[q_itT];exact at0
theorem AJ{nl hs:List Str}{s:Pt×Int}{left:List Nat}:aP (bX nl hs s left) (.int 1)=some (oQ left):=by unfold bX;rw[q_itT];exact at1
theorem K2{nl hs:List Str}{s:Pt×Int}{left:List Nat}:aP (bX nl hs s left) (.int 2)=some (.lst ((lW nl hs left).map .str)):=by unfold bX;rw[q_itT];exact at2
theorem yC{ns:List Int}(hn:ns.length<=63){C:Bk}{nl:List Str}{ps:List (Str×Int)}(X:Ctx C nl (ps.map (·.1))){N:Int×Int×Int×Int}(hr:N.2.1<=50):∃(g:Pt) (w:Int),lJ [.lst (ns.map .int),aV C,.lst (nl.map .str),.lst (ps.map bE),iC N]=some (sD (g,w))/\St C (ps.map (·.1)) [] g w/\deep g<=60:=by
 suffices h:∃d,lJ [.lst (ns.map .int),aV C,.lst (nl.map .str),.lst (ps.map bE),iC N]=some d/\∃(g:Pt) (w:Int),d=sD (g,w)/\St C (ps.map (·.1)) [] g w/\deep g<=60 by
  obtain⟨d,e,g,w,rfl,h⟩:=h;exact⟨g,w,e,h⟩
 have bc:(10:Int)^60=1000000000000000000000000000000000000000000000000000000000000:=by decide +kernel
 obtain⟨f,hf⟩:=dM ns;have ad:=(hf 20 (by decide) (by decide)).1;have af:=(hf 21 (by decide) (by decide)).1;obtain⟨m,em,m0,m1⟩:=xM hn;have aa:(0:Int)<1+m:=by lia
 refine i8 ?_;unfold pV;obtain⟨g0,q,eb,I0⟩:=vT ns X (F:=fr nl 12 true++fr nl 13 true) AI (B:=52) (by decide);rw[aE (aN (d:=bX nl (ps.map (·.1)) (g0,0) q) (by simp_all[aA,eb]))];rw[aE (aN (d:=.int (1+m)) (by simp_all[aA,em]))];have qa:=aF (i:=f 20/4) aa;have qb:=aF (i:=f 21/2) aa;have a0:=VB (f 20/4) (VV aa);have b0:=VB (f 21/2) (VV aa);generalize f 20/4%(1+m)=a at qa a0;generalize f 21/2%(1+m)=b at qb b0;rw[aE (aN (d:=.lst [.int a,.int b]) (by simp_all[aA,ad,af,aQ,qa,qb]))];have am:WK (WK (WK (aA 11 [.lst (ns.map .int),aV C,.lst (nl.map .str),.lst (ps.map bE),iC N]) 5 (some (bX nl (ps.map (·.1)) (g0,0) q))) 6 (some (.int (1+m)))) 7 (some (.lst [.int a,.int b]))=[some (.lst (ns.map .int)),some (aV C),some (.lst (nl.map .str)),some (.lst (ps.map bE)),some (iC N),some (bX nl (ps.map (·.1)) (g0,0) q),some (.int (1+m)),some (.lst [.int a,.int b]),none,none,none]:=rfl;rw[am];refine kM (λρ=>∃a b:Int,0<=a/\0<=b/\ρ=[some (.lst (ns.map .int)),some (aV C),some (.lst (nl.map .str)),some (.lst (ps.map bE)),some (iC N),some (bX nl (ps.map (·.1)) (g0,0) q),some (.int (1+m)),some (.lst [.int a,.int b]),none,none,none]) ?_ ?_
 ·by_cases h:f 20%4=0
  ·exact⟨_,by simp_all[ad,aF,h],1+m,1+m,by lia,by lia,rfl⟩
  ·exact⟨_,by simp_all[ad,aF,h],a,b,a0,b0,rfl⟩
 clear qa qb a0 b0 am;rintro ρ ⟨a,b,a0,b0,rfl⟩;refine kM (λρ=>∃b:Int,0<=b/\ρ=[some (.lst (ns.map .int)),some (aV C),some (.lst (nl.map .str)),some (.lst (ps.map bE)),some (iC N),some (bX nl (ps.map (·.1)) (g0,0) q),some (.int (1+m)),some (.lst [.int a,.int b]),none,none,none]) ?_ ?_
 ·by_cases h:f 21%2=0
  ·have pt:=fD (l:=[.int a,.int b]) (k:=1) (e:=.int (1+m)) (by decide) (by simp[-U5,-U6,aC,aG])
   exact⟨_,by simp_all[af,aF,h,pt],1+m,by lia,rfl⟩
  ·exact⟨_,by simp_all[af,aF,h],b,b0,rfl⟩
 clear b0;rintro ρ ⟨b,b0,rfl⟩;refine qZ (items:=bH 0 1 (1+m).toNat) (by simp_all[fX (show 0<=1+m by lia) (show 1+m<=1000000 by lia)]) (λi ρ=>∃(g:Pt) (w:Int) (left:List Nat) (o8 o9 J:Option D),ρ=[some (.lst (ns.map .int)),some (aV C),some (.lst (nl.map .str)),some (.lst (ps.map bE)),some (iC N),some (bX nl (ps.map (·.1)) (g,w) left),some (.int (1+m)),some (.lst [.int a,.int b]),o8,o9,J]/\Inv C nl (ps.map (·.1)) (fr nl 12 (decide ((i:Int)<=a))++fr nl 13 (decide ((i:Int)<=b))) (52+bd (decide ((i:Int)<=a))+bd (decide ((i:Int)<=b))) g w left) ⟨g0,0,q,none,none,none,rfl,by rw[decide_eq_true (show((0:Nat):Int)<=a from a0),decide_eq_true (show((0:Nat):Int)<=b from b0)];exact I0⟩ ?_ ?_
 ·rintro i x ρ hx ⟨g,w,left,o8,o9,J,rfl,I⟩
  obtain⟨be,rfl⟩:=eE hx;have hI:(0:Int)+(i:Int)*1=(i:Int):=by lia
  rw[hI];obtain⟨fI,c0,c1⟩:=hf (23+(i:Int)) (by lia) (by lia);obtain⟨g1,G,t1,es,I1,_⟩:=pR X AI (by lia) I hr c0 c1;generalize f (23+(i:Int))=c at fI c0 c1 es;obtain⟨g2,W,e2,I2⟩:∃(g2:Pt) (W:Int),(kP (fN (a6 lU (aH 8) (a6 aP (aH 7) (eC (.int 0))))) (eW 5 (sE (aI (aS eJ (aI (aH 1) (aI (aH 2) (aI (a6 aP (aH 5) (eC (.int 2))) (aI (a6 aP (aH 5) (eC (.int 0))) (aI (a6 oX (aH 9) (eC (.int 6))) (aI (eC (.int 12)) bC))))))) (aI (a6 aP (aH 5) (eC (.int 1))) (aI (a6 aP (aH 5) (eC (.int 2))) bC))))) nH) [some (.lst (ns.map .int)),some (aV C),some (.lst (nl.map .str)),some (.lst (ps.map bE)),some (iC N),some (bX nl (ps.map (·.1)) (g1,w) G),some (.int (1+m)),some (.lst [.int a,.int b]),some (.int (i:Int)),some (.int c),some (.int t1)]=some (.nx [some (.lst (ns.map .int)),some (aV C),some (.lst (nl.map .str)),some (.lst (ps.map bE)),some (iC N),some (bX nl (ps.map (·.1)) (g2,W) G),some (.int (1+m)),some (.lst [.int a,.int b]),some (.int (i:Int)),some (.int c),some (.int t1)])/\Inv C nl (ps.map (·.1)) (fr nl 12 (decide ((i:Int)+1<=a))++fr nl 13 (decide ((i:Int)<=b))) (52+bd (decide ((i:Int)+1<=a))+bd (decide ((i:Int)<=b))) g2 W G:=by
   by_cases h:(i:Int)=a
   ·rw[decide_eq_true (show(i:Int)<=a by lia)]at I1
    obtain⟨g2,W,e2,I2⟩:=SH X I1 (c:=c/6) (by lia) (by lia);refine⟨g2,W,?_,?_⟩
    ·have n0:=FZ (nl:=nl) (hs:=ps.map (·.1)) (s:=(g1,w)) (left:=G)
     have n1:=AJ (nl:=nl) (hs:=ps.map (·.1)) (s:=(g1,w)) (left:=G);have n2:=K2 (nl:=nl) (hs:=ps.map (·.1)) (s:=(g1,w)) (left:=G);have nw:bX nl (ps.map (·.1)) (g2,W) G=.tup [sD (g2,W),oQ G,.lst ((lW nl (ps.map (·.1)) G).map .str)]:=rfl;rw[nw];generalize bX nl (ps.map (·.1)) (g1,w) G=now at n0 n1 n2;generalize D.lst ((lW nl (ps.map (·.1)) G).map .str)=kl at n2 e2;simp_all[at0,h,n0,n1,n2,aQ,e2]
    ·rw[decide_eq_false (show ¬ (i:Int)+1<=a by lia)]
     have:52+bd true+bd (decide ((i:Int)<=b))+1=52+bd false+bd (decide ((i:Int)<=b)):=by simp_all[bd];lia
     rw[<- this];exact I2
   ·refine⟨g1,w,by simp_all[at0,h],?_⟩
    have:decide ((i:Int)+1<=a)=decide ((i:Int)<=a):=by rw[XE,decide_eq_true_iff,decide_eq_true_iff];lia
    rw[this];exact I1
  obtain⟨g3,Y,e3,I3⟩:∃(g3:Pt) (Y:Int),(kP (fN (a6 lU (aH 8) (a6 aP (aH 7) (eC (.int 1))))) (eW 5 (sE (aI (aS eJ (aI (aH 1) (aI (aH 2) (aI (a6 aP (aH 5) (eC (.int 2))) (aI (a6 aP (aH 5) (eC (.int 0))) (aI (a6 oX (aH 9) (eC (.int 11))) (aI (eC (.int 13)) bC))))))) (aI (a6 aP (aH 5) (eC (.int 1))) (aI (a6 aP (aH 5) (eC (.int 2))) bC))))) nH) [some (.lst (ns.map .int)),some (aV C),some (.lst (nl.map .str)),some (.lst (ps.map bE)),some (iC N),some (bX nl (ps.map (·.1)) (g2,W) G),some (.int (1+m)),some (.lst [.int a,.int b]),some (.int (i:Int)),some (.int c),some (.int t1)]=some (.nx [some (.lst (ns.map .int)),some (aV C),some (.lst (nl.map .str)),some (.lst (ps.map bE)),some (iC N),some (bX nl (ps.map (·.1)) (g3,Y) G),some (.int (1+m)),some (.lst [.int a,.int b]),some (.int (i:Int)),some (.int c),some (.int t1)])/\Inv C nl (ps.map (·.1)) (fr nl 12 (decide ((i:Int)+1<=a))++fr nl 13 (decide ((i:Int)+1<=b))) (52+bd (decide ((i:Int)+1<=a))+bd (decide ((i:Int)+1<=b))) g3 Y G:=by
   by_cases h:(i:Int)=b
   ·rw[decide_eq_true (show(i:Int)<=b by lia)]at I2
    obtain⟨g3,Y,e3,I3⟩:=S8 X I2 (c:=c/11) (by lia) (by lia);refine⟨g3,Y,?_,?_⟩
    ·have n0:=FZ (nl:=nl) (hs:=ps.map (·.1)) (s:=(g2,W)) (left:=G)
     have n1:=AJ (nl:=nl) (hs:=ps.map (·.1)) (s:=(g2,W)) (left:=G);have n2:=K2 (nl:=nl) (hs:=ps.map (·.1)) (s:=(g2,W)) (left:=G);have nw:bX nl (ps.map (·.1)) (g3,Y) G=.tup [sD (g3,Y),oQ G,.lst ((lW nl (ps.map (·.1)) G).map .str)]:=rfl;rw[nw];generalize bX nl (ps.map (·.1)) (g2,W) G=now at n0 n1 n2;generalize D.lst ((lW nl (ps.map (·.1)) G).map .str)=kl at n2 e3;simp_all[at1,h,n0,n1,n2,aQ,e3]
    ·rw[decide_eq_false (show ¬ (i:Int)+1<=b by lia)]
     have:52+bd (decide ((i:Int)+1<=a))+bd true+1=52+bd (decide ((i:Int)+1<=a))+bd false:=by simp_all[bd]
     rw[<- this];exact I3
   ·refine⟨g2,W,by simp_all[at1,h],?_⟩
    have:decide ((i:Int)+1<=b)=decide ((i:Int)<=b):=by rw[XE,decide_eq_true_iff,decide_eq_true_iff];lia
    rw[this];exact I2
  refine⟨[some (.lst (ns.map .int)),some (aV C),some (.lst (nl.map .str)),some (.lst (ps.map bE)),some (iC N),some (bX nl (ps.map (·.1)) (g3,Y) G),some (.int (1+m)),some (.lst [.int a,.int b]),some (.int (i:Int)),some (.int c),some (.int t1)],?_,g3,Y,G,_,_,_,rfl,?_⟩
  ·show(bI _ _ _)=_
   rw[aE (aN (d:=.int c) (by simp_all[fI]))];rw[aE (ρ':=[some (.lst (ns.map .int)),some (aV C),some (.lst (nl.map .str)),some (.lst (ps.map bE)),some (iC N),some (bX nl (ps.map (·.1)) (g1,w) G),some (.int (1+m)),some (.lst [.int a,.int b]),some (.int (i:Int)),some (.int c),some (.int t1)]) (by simp_all[es])];rw[aE e2];exact e3
  ·rw[show((i+1:Nat):Int)=(i:Int)+1 by lia];exact I3
 ·rintro ρ ⟨g,w,left,o8,o9,J,rfl,I⟩
  have I:=(⟨I.st.mono λ_ z=>(nomatch z),WC I.d (by unfold bd;split <;> split <;> lia),I.lo⟩:Inv C nl (ps.map (·.1)) [] 54 g w left);have l3:=I.lo.l3;refine BI (λn ρ=>∃(g:Pt) (left:List Nat) (J:Option D),ρ=[some (.lst (ns.map .int)),some (aV C),some (.lst (nl.map .str)),some (.lst (ps.map bE)),some (iC N),some (bX nl (ps.map (·.1)) (g,w) left),some (.int (1+m)),some (.lst [.int a,.int b]),o8,o9,J]/\Inv C nl (ps.map (·.1)) [] 54 g w left/\left.length=n) (λρ=>∃(g:Pt) (J:Option D),ρ=[some (.lst (ns.map .int)),some (aV C),some (.lst (nl.map .str)),some (.lst (ps.map bE)),some (iC N),some (bX nl (ps.map (·.1)) (g,w) []),some (.int (1+m)),some (.lst [.int a,.int b]),o8,o9,J]/\Inv C nl (ps.map (·.1)) [] 54 g w []) left.length (by lia) ⟨g,left,J,rfl,I,rfl⟩ ?_ ?_
  ·rintro n ρ ⟨g,left,J,rfl,I,hl⟩
   cases left with
   | nil=>exact .inr ⟨by simp_all[AJ,oQ],g,J,rfl,I⟩
   | cons b left=>
    obtain⟨g',U,t',es,I',h5⟩:=pR X (F:=[]) (λ_ z=>(nomatch z)) (by decide) I hr (c:=5) (by decide) (by decide +kernel);have k1:=h5 rfl (List.cons_ne_nil _ _);refine .inl ⟨by simp_all[AJ,oQ],U.length,[some (.lst (ns.map .int)),some (aV C),some (.lst (nl.map .str)),some (.lst (ps.map bE)),some (iC N),some (bX nl (ps.map (·.1)) (g',w) U),some (.int (1+m)),some (.lst [.int a,.int _]),o8,o9,some (.int t')],by lia,?_,g',U,some (.int t'),rfl,I',rfl⟩;simp_all[es]
  ·rintro ρ ⟨g,J,rfl,I⟩
   refine⟨sD (g,w),by simp_all[FZ],g,w,rfl,?_,by have:=I.d;simp[-U5,-U6,aC,aG]at this;lia⟩;have:=I.st;unfold lW at this;simp[-U5,-U6,aC,aG]at this;exact this
theorem JK{n:Nat}{l:List D}(h:∀d∈l,eqN n d):eqN (n+1) (.lst l):=by
 obtain⟨xs,e,a,b⟩:=eqN.list h;refine⟨.lst xs,?_,a,?_⟩
 ·rw[kF,e];rfl
 ·show My.rJ xs+1<=n+1
  lia
theorem cC{P:D->Prop}{a:D}{l:List D}(h:P a)(t:∀d∈l,P d):∀d∈a::l,P d:=λd q=>by
 rcases List.mem_cons.mp q with z|z
 ·rw[z];exact h
 ·exact t d z
theorem lS{P:D->Prop}:∀d∈([]:List D),P d:=λd q=>nomatch q
theorem d6:∀g:Pt,eqN (2*deep g+2) (pD g)
 | .name x=>(eqN.tup (n:=0) (cC .str (cC .str lS))).mono (by simp_all[deep])
 | .num n k=>(eqN.tup (n:=0) (cC .str (cC .int (cC .int lS)))).mono (by simp_all[deep])
 | .use0 nm=>(eqN.tup (n:=1) (cC eqN.str (cC eqN.str (cC (eqN.tup (n:=0) lS) lS)))).mono (by simp_all[deep])
 | .use1 nm p=>(eqN.tup (n:=2*deep p+3) (cC eqN.str (cC eqN.str (cC (eqN.tup (n:=2*deep p+2) (cC (d6 p) lS)) lS)))).mono (by simp_all[deep];lia)
 | .use2 nm p q=>(eqN.tup (n:=2*max (deep p) (deep q)+3) (cC eqN.str (cC eqN.str (cC (eqN.tup (n:=2*max (deep p) (deep q)+2) (cC ((d6 p).mono (by lia)) (cC ((d6 q).mono (by lia)) lS))) lS)))).mono (by simp_all[deep];lia)
 | .use3 nm p q r=>(eqN.tup (n:=2*max (max (deep p) (deep q)) (deep r)+3) (cC eqN.str (cC eqN.str (cC (eqN.tup (n:=2*max (max (deep p) (deep q)) (deep r)+2) (cC ((d6 p).mono (by lia)) (cC ((d6 q).mono (by lia)) (cC ((d6 r).mono (by lia)) lS)))) lS)))).mono (by simp_all[deep];lia)
 | .lett x p q=>(eqN.tup (n:=2*max (deep p) (deep q)+2) (cC eqN.str (cC eqN.str (cC ((d6 p).mono (by lia)) (cC ((d6 q).mono (by lia)) lS))))).mono (by simp_all[deep];lia)
 | .pick c k p q r=>(eqN.tup (n:=2*max (max (deep p) (deep q)) (deep r)+2) (cC eqN.str (cC eqN.int (cC eqN.int (cC ((d6 p).mono (by lia)) (cC ((d6 q).mono (by lia)) (cC ((d6 r).mono (by lia)) lS))))))).mono (by simp_all[deep];lia)
 | .again n k x p q=>(eqN.tup (n:=2*max (deep p) (deep q)+2) (cC eqN.str (cC eqN.int (cC eqN.int (cC eqN.str (cC ((d6 p).mono (by lia)) (cC ((d6 q).mono (by lia)) lS))))))).mono (by simp_all[deep];lia)
theorem zF(p:Str×Int):eqN 1 (bE p):=eqN.tup (n:=0) (cC .str (cC .int lS))
theorem K3(ps:List (Str×Int)):CO (.lst (ps.map bE)) (.lst (ps.map bE))=some (.bl false):=by
 have o:kE (.lst (ps.map bE))=true:=(JK (n:=1) λd q=>by
  obtain⟨p,_,rfl⟩:=List.mem_map.mp q;exact zF p).ok (by decide)
 unfold CO CU;rw[if_pos (.inr ⟨rfl,rfl,o,o⟩)];simp[-U5,-U6,aC,aG]
theorem PU{ps:List (Str×Int)}{g:Pt}(h:deep g<=24):lU (.tup [.tup (ps.map bE),pD g]) (.tup [.tup (ps.map bE),pD g])=some (.bl true):=by
 have o:kE (.tup [.tup (ps.map bE),pD g])=true:=(eqN.tup (n:=2*deep g+2) (cC ((eqN.tup (n:=1) λd q=>by
  obtain⟨p,_,rfl⟩:=List.mem_map.mp q;exact zF p).mono (by lia)) (cC (d6 g) lS))).ok (by lia)
 unfold lU CU;rw[if_pos (.inr ⟨rfl,rfl,o,o⟩)];simp[-U5,-U6,aC,aG]
theorem IV{C:Bk}{ps:List (Str×Int)}{j:Nat}(N:j<=ps.length){q:Str×Int}(h:aU q.1=false\/jL C q.2=false\/∃(i:Nat) (p:Str×Int),ps[i]?=some p/\p.1=q.1):¬ Hd C (ps.take j++[q]++ps.drop j):=λH=>by
 have lt:(ps.take j).length=j:=by rw[WZ];lia
 have G:(ps.take j++[q]++ps.drop j)[j]?=some q:=by
  rw[zaM,Z5 (by lia),lt,Nat.sub_self];rfl
 obtain⟨k1,k2,k3⟩:=H.k j q G;rcases h with h|h|⟨i,p,z,e⟩
 ·rw[h]at k1;cases k1
 ·rw[h]at k3;cases k3
 ·have U:=(List.getElem?_eq_some_iff.mp z).1
  rcases Nat.lt_or_ge i j with h|h
  ·refine k2 (List.mem_iff_getElem?.mpr ⟨i,?_⟩)
   rw[YY h,VM,zaM,Z6 (by lia),YY h,z];exact congrArg some e
  ·have J:(ps.take j++[q]++ps.drop j)[i+1]?=some p:=by
    rw[Z5 (by simp[-U5,-U6,aC,aG];lia),List.getElem?_drop,<- z];congr 1;simp[-U5,-U6,aC,aG];lia
   refine(H.k (i+1) p J).2.1 (List.mem_iff_getElem?.mpr ⟨j,?_⟩);rw[YY (by lia),VM,G];exact congrArg some e.symm
theorem yD{nl:List Str}(N:Nms nl):bA (aY 0) gG (sE (aI (a6 aP (aH 1) (aH 0)) (aI (eC (.int 0)) bC))) (bH 0 1 7) [none,some (.lst (nl.map .str))]=some (([0,1,2,3,4,5,6].map λb=>((nx nl b,0):Str×Int)).map bE):=by
 have G:∀b:Nat,b<14->fF (nl.map D.str) (b:Int)=some (.str (nx nl b)):=λb J=>bD (j:=b) (by rw[VM,N.at_ J];rfl)
 have:∀(l:List Nat) (o:Option D),(∀b∈l,b<14)->bA (aY 0) gG (sE (aI (a6 aP (aH 1) (aH 0)) (aI (eC (.int 0)) bC))) (l.map λ(b:Nat)=>D.int (b:Int)) [o,some (.lst (nl.map .str))]=some ((l.map λb=>((nx nl b,0):Str×Int)).map bE):=by
  intro l;induction l with
  | nil=>intro o _;rfl
  | cons b l ih=>
   intro o h;have q:=ih (some (.int (b:Int))) λc U=>h c (VW _ U)
   have z:=G b (h b (VR ..));simp[-U5,-U6,aC,aG]at q;simp_all[bA,z,q,bE]
 exact this [0,1,2,3,4,5,6] none (by decide)
theorem rP{C:Bk}(K:OkB C){nl:List Str}(N:Nms nl){ps:List (Str×Int)}(h6:ps.length<=6)(al:RO C ps){c:Int}:∃G:List (Str×Int),cK [.lst (nl.map .str),.lst (ps.map bE),.int (C.kinds.length:Int),.int c]=some (.lst (G.map bE))/\¬ Hd C G/\(∀p∈G,p.1.length<=1000)/\G.length<=7:=by
 have kp:(0:Int)<(C.kinds.length:Int):=by have:=K.k1;lia
 have sh:∀p∈ps,p.1.length<=1000:=λp hp=>by have:=dZ (al p hp).1;lia
 generalize hy:c/4=y;by_cases h0:c%4=0
 ·have c7:=yD N
  refine⟨[0,1,2,3,4,5,6].map λb=>(nx nl b,0),aM ?_,λH=>by have:=H.l;simp[-U5,-U6,aC,aG]at this,λp hp=>?_,by simp[-U5,-U6,aC,aG]⟩
  ·have r7:dH [.int 7]=some (bH 0 1 7):=fR (n:=7) (by decide)
   have z7:aZ 7=true:=by decide
   generalize ([0,1,2,3,4,5,6].map λb=>((nx nl b,0):Str×Int)).map bE=rs at c7 ⊢;simp_all[bN,aA,aQ,aF,h0,r7,b9,z7,g6,c7]
  ·obtain⟨b,hb,rfl⟩:=List.mem_map.mp hp
   have:b<14:=by simp[-U5,-U6,aC,aG]at hb;lia
   have:=dZ (N.ok_ this);show(nx nl b).length<=1000
   lia
 have lp:(0:Int)<(ps.length:Int)+1:=by lia
 have a0:=VB y (VV lp);have a1:=VD y lp;have qa:=aF (i:=y) lp;generalize y%((ps.length:Int)+1)=a at a0 a1 qa;obtain⟨ct,U⟩:=NC (w:=ps.map bE) (c:=a) a0 (by rw[VL];lia);have ha:a.toNat<=ps.length:=by lia
 have lt:(ps.map bE).length<=6:=by rw[VL];exact h6
 have z1:aZ (((ps.map bE).take a.toNat).length+1)=true:=decide_eq_true (by rw[WZ];lia);have J:aZ (((ps.map bE).take a.toNat).length+1+((ps.map bE).drop a.toNat).length)=true:=decide_eq_true (by rw[WZ,Z8];lia);have em:∀q:Str×Int,(ps.take a.toNat++[q]++ps.drop a.toNat).map bE=(ps.map bE).take a.toNat++[bE q]++(ps.map bE).drop a.toNat:=λq=>by simp[-U5,-U6,aC,aG]
 have fin:∀q:Str×Int,q.1.length<=1000->(aU q.1=false\/jL C q.2=false\/∃(i:Nat) (p:Str×Int),ps[i]?=some p/\p.1=q.1)->cK [.lst (nl.map .str),.lst (ps.map bE),.int (C.kinds.length:Int),.int c]=some (.lst ((ps.map bE).take a.toNat++[bE q]++(ps.map bE).drop a.toNat))->∃G:List (Str×Int),cK [.lst (nl.map .str),.lst (ps.map bE),.int (C.kinds.length:Int),.int c]=some (.lst (G.map bE))/\¬ Hd C G/\(∀p∈G,p.1.length<=1000)/\G.length<=7:=λq hq hb e=>
  ⟨ps.take a.toNat++[q]++ps.drop a.toNat, by rw[em];exact e, IV ha hb, λp hp => by
   rcases List.mem_append.mp hp with z|z
   ·rcases List.mem_append.mp z with z|z
    ·exact sh p (za4 z)
    ·rw[List.mem_singleton.mp z];exact hq
   ·exact sh p (List.mem_of_mem_drop z),by rw[WV,WV,WZ,Z8];simp[-U5,-U6,aC,aG];lia⟩
 by_cases h1:c%4=1
 ·obtain⟨z,ez,nz,lz⟩:=kI (y/7)
  refine fin (z,0) (by show z.length<=1000;lia) (.inl nz) (aM ?_);have kd:bE (z,0)=.tup [.str z,.int 0]:=rfl;rw[kd];generalize (ps.map bE).drop a.toNat=r2 at U J ⊢;generalize (ps.map bE).take a.toNat=r1 at ct z1 J ⊢;have W:g5 [.lst (ps.map bE)]=some (.int (ps.length:Int)):=by simp[-U5,-U6,aC,aG]
  generalize ps.map bE=pl at ct U W ⊢;simp_all[bN,aA,aQ,aF,hy,h1,W,qa,ct,U,ez,z1,J]
 by_cases h2:c%4=2/\0<ps.length
 ·have ac:(0:Int)<(ps.length:Int):=by lia
  have i0:=VB (y/7) (VV ac);have i1:=VD (y/7) ac;have qi:=aF (i:=y/7) ac;obtain⟨i,hi⟩:∃i:Nat,y/7%(ps.length:Int)=(i:Int):=⟨(y/7%(ps.length:Int)).toNat,by lia⟩;rw[hi]at i1 qi;have Y:i<ps.length:=by lia
  have aa:fF (ps.map bE) (i:Int)=some (bE ps[i]):=bD (by rw[VM,WE Y];rfl);have k0:aP (bE ps[i]) (.int 0)=some (.str ps[i].1):=by unfold bE;rw[q_itT];exact at0
  have qk:=aF (i:=y/5) kp;have gi:ps[i]?=some ps[i]:=WE Y;refine fin (ps[i].1,y/5%(C.kinds.length:Int)) (sh ps[i] (YT Y)) (.inr (.inr ⟨i,ps[i],gi,rfl⟩)) (aM ?_);have kd:bE (ps[i].1,y/5%(C.kinds.length:Int))=.tup [.str ps[i].1,.int (y/5%(C.kinds.length:Int))]:=rfl;rw[kd];generalize bE ps[i]=pi at aa k0;generalize (ps.map bE).drop a.toNat=r2 at U J ⊢;generalize (ps.map bE).take a.toNat=r1 at ct z1 J ⊢;have W:g5 [.lst (ps.map bE)]=some (.int (ps.length:Int)):=by simp[-U5,-U6,aC,aG]
  generalize ps.map bE=pl at ct U W aa ⊢;simp_all[bN,aA,aQ,aF,hy,h2.1,h2.2,W,qa,ct,U,qi,aa,k0,qk,z1,J]
 obtain⟨k,ek,bk⟩:=kJ (n:=(C.kinds.length:Int)) (c:=y/7) (by lia);have ag:fF (nl.map D.str) 11=some (.str (nx nl 11)):=bD (j:=11) (by rw[VM,N.at_ (by decide)];rfl);refine fin (nx nl 11,k) (by have:=dZ (N.ok_ (b:=11) (by decide));show(nx nl 11).length<=1000;lia) (.inr (.inl (t5 bk))) (aM ?_);have kd:bE (nx nl 11,k)=.tup [.str (nx nl 11),.int k]:=rfl;rw[kd];generalize (ps.map bE).drop a.toNat=r2 at U J ⊢;generalize (ps.map bE).take a.toNat=r1 at ct z1 J ⊢;have W:g5 [.lst (ps.map bE)]=some (.int (ps.length:Int)):=by simp[-U5,-U6,aC,aG]
 generalize ps.map bE=pl at ct U W ⊢;by_cases ad:c%4=2
 ·have ak:¬ 0<ps.length:=λz=>h2 ⟨ad,z⟩
  simp_all[bN,aA,aQ,aF,hy,ad,ak,W,qa,ct,U,ag,ek,z1,J]
 ·simp_all[bN,aA,aQ,aF,hy,h0,h1,ad,W,qa,ct,U,ag,ek,z1,J]
noncomputable def y3(n:Nat):List (Nat×D):=[(4,.lst [.bl true,.bl (n == 1),.bl (n == 2),.bl (n == 3)]),(4,.lst [.bl true,.bl (n == 1),.bl (n == 2),.bl (n == 3),.bl (n == 4),.bl (n == 5),.bl (n == 6)]),(5,.lst [.bl false,.bl false,.bl false,.bl false]),(5,.lst [.bl false,.bl false,.bl false,.bl false,.bl false,.bl false,.bl false]),(5,.lst [.bl false,.bl false,.bl false,.bl false,.bl false,.bl false,.bl false,.bl false])]
def RH:List (Str×List (Nat×D)):=[("NoDeed",y3 6),("NoHead",y3 1),("NoKind",y3 5),("NoName",y3 3),("NoNumber",y3 4),("TooBig",y3 2)]
def J3(n:Nat):Option Str:=if n=1 then some "NoHead" else if n=2 then some "TooBig" else cls (n:Int)
theorem DD{b h p d:D}(G:bY [b,h,p]=none)(z:dQ [b,h,p]=some d):gM [b,h,p]=some (.tup [d,.lst [],.lst []]):=by
 refine aM ?_;show bI _ (bI _ (bI _ (bI (rF 3 6 dQ bY RH (aI (aH 0) (aI (aH 1) (aI (aH 2) bC)))) _))) _=_;rw[aE (aN (d:=.tup []) (by simp[-U5,-U6,aC,aG])),aE (aN (d:=.lst []) (by simp[-U5,-U6,aC,aG])),aE (aN (d:=.lst []) (by simp[-U5,-U6,aC,aG]))];have q:(aI (aH 0) (aI (aH 1) (aI (aH 2) bC))) [some b,some h,some p,some (.tup []),some (.lst []),some (.lst []),none]=some [b,h,p]:=by simp[-U5,-U6,aC,aG]
 rw[aE (ρ':=[some b,some h,some p,some d,some (.lst []),some (.lst []),none]) (by
  show rF 3 6 dQ bY RH _ [some b,some h,some p,some (.tup []),some (.lst []),some (.lst []),none]=_;unfold rF;simp only[q,aC,G,z];rfl)]
 simp[-U5,-U6,aC,aG]
theorem D0{b h p:D}{n:Nat}(h1:1<=n)(N:n<=6)(q:bY [b,h,p]=J3 n):gM [b,h,p]=some (.tup [.tup [],.lst [.bl true,.bl (n == 1),.bl (n == 2),.bl (n == 3),.bl (n == 4),.bl (n == 5),.bl (n == 6)],.lst [.bl false,.bl false,.bl false,.bl false,.bl false,.bl false,.bl false,.bl false]]):=by
 obtain⟨c,G,J⟩:∃c,J3 n=some c/\RH.lookup c=some (y3 n):=by
  have:n=1\/n=2\/n=3\/n=4\/n=5\/n=6:=by lia
  rcases this with rfl|rfl|rfl|rfl|rfl|rfl
  ·exact⟨_,rfl,rfl⟩
  ·exact⟨_,rfl,rfl⟩
  ·exact⟨_,rfl,rfl⟩
  ·exact⟨_,rfl,rfl⟩
  ·exact⟨_,rfl,rfl⟩
  ·exact⟨_,rfl,rfl⟩
 rw[G]at q;refine aM ?_;show bI _ (bI _ (bI _ (bI (rF 3 6 dQ bY RH (aI (aH 0) (aI (aH 1) (aI (aH 2) bC)))) _))) _=_;rw[aE (aN (d:=.tup []) (by simp[-U5,-U6,aC,aG])),aE (aN (d:=.lst []) (by simp[-U5,-U6,aC,aG])),aE (aN (d:=.lst []) (by simp[-U5,-U6,aC,aG]))];have z:(aI (aH 0) (aI (aH 1) (aI (aH 2) bC))) [some b,some h,some p,some (.tup []),some (.lst []),some (.lst []),none]=some [b,h,p]:=by simp[-U5,-U6,aC,aG]
 rw[aE (ρ':=[some b,some h,some p,some (.tup []),some (.lst [.bl true,.bl (n == 1),.bl (n == 2),.bl (n == 3),.bl (n == 4),.bl (n == 5),.bl (n == 6)]),some (.lst [.bl false,.bl false,.bl false,.bl false,.bl false,.bl false,.bl false,.bl false]),none]) (by
  show rF 3 6 dQ bY RH _ [some b,some h,some p,some (.tup []),some (.lst []),some (.lst []),none]=_;unfold rF;simp only[z,aC,q,J];rfl)]
 simp[-U5,-U6,aC,aG]
def GC:Sv:=bI (eW 7 (aS rE (aI (aH 3) bC)))
 (bI (N9 (aS gM (aI (aH 1) (aI (aH 7) (aI (a6 aP (aH 5) (eC (.int 0))) bC)))) (oP 3 (d7 (aY 8) (d7 (aY 9) (d7 (aY 10) rH)))))
  (bI (kP (fN (a6 CO (aH 7) (aH 3))) (OM (eC (.bl false))) nH)
   (bI (kP (fN (a6 lU (aH 6) (eC (.int 0)))) (OM (KN (a6 F3 (aH 9) (vJ bC)) (a6 lU (aH 8) (sE (aI (aS qU (aI (aH 3) bC)) (aI (a6 aP (aH 5) (eC (.int 0))) bC)))))) nH)
    (OM (KN (a6 F3 (aH 9) (m9 [none,some 6] (lR dH (aI (eC (.int 7)) bC)) (aY 0) gG (RI (a6 lU (aH 0) (eC (.int 0))) (a6 lU (aH 0) (aH 1))))) (a6 F3 (aH 10) (a6 J2 (vJ (aI (eC (.bl false)) bC)) (eC (.int 8)))))))))
theorem CW{n:Nat}(h1:1<=n)(q:n<=6):bA (aY 0) gG (RI (a6 lU (aH 0) (eC (.int 0))) (a6 lU (aH 0) (aH 1))) (bH 0 1 7) [none,some (.int (n:Int))]=some [.bl true,.bl (n == 1),.bl (n == 2),.bl (n == 3),.bl (n == 4),.bl (n == 5),.bl (n == 6)]:=by
 have e:=j5 (K:=7) (f:=RI (a6 lU (aH 0) (eC (.int 0))) (a6 lU (aH 0) (aH 1))) (rest:=[some (.int (n:Int))]) (F:=λk=>.bl (decide (k=0\/k=(n:Int)))) (λk _ _=>by
  by_cases a:k=0
  ·simp_all[a]
  ·by_cases b:k=(n:Int)
   ·subst b;simp_all[a]
   ·simp_all[a,b]) [0,1,2,3,4,5,6] none (by decide)
 refine(show bA _ _ _ _ _=_ from e).trans ?_;have:n=1\/n=2\/n=3\/n=4\/n=5\/n=6:=by lia
 rcases this with rfl|rfl|rfl|rfl|rfl|rfl <;> rfl
theorem L9{S N R:D}{C:Bk}{ps:List (Str×Int)}(h7:ps.length<=7){g:Pt}{w:Int}(G:deep g<=24)(Y:bY [aV C,.lst (ps.map bE),pD g]=none)(W:dQ [aV C,.lst (ps.map bE),pD g]=some (.tup [.tup (ps.map bE),pD g])):GC [some S,some (aV C),some N,some (.lst (ps.map bE)),some R,some (sD (g,w)),some (.int 0),none,none,none,none]=some (.rt (.bl true)):=by
 have as:=DD Y W;have U:=K3 ps;have J:=PU (ps:=ps) G;have q:=s_0 (s:=(g,w));have z:aZ (ps.map bE).length=true:=decide_eq_true (by rw[VL];lia);generalize ps.map bE=pl at as U J z ⊢;simp only at q;generalize pD g=pg at as J q;generalize sD (g,w)=st at q ⊢;unfold GC;rw[aE (aN (d:=.lst pl) (by simp_all[rE,z]))];rw[aE (ρ':=[some S,some (aV C),some N,some (.lst pl),some R,some st,some (.int 0),some (.lst pl),some (.tup [.tup pl,pg]),some (.lst []),some (.lst [])]) (by simp_all[q,as])];simp_all[U,oW,q,J,z]
theorem yH{S N R:D}{C:Bk}{ps:List (Str×Int)}(h7:ps.length<=7){g:Pt}{w:Int}{n:Nat}(h1:1<=n)(U:n<=6)(hx:bY [aV C,.lst (ps.map bE),pD g]=J3 n):GC [some S,some (aV C),some N,some (.lst (ps.map bE)),some R,some (sD (g,w)),some (.int (n:Int)),none,none,none,none]=some (.rt (.bl true)):=by
 have as:=D0 h1 U hx;have J:=K3 ps;have z:=s_0 (s:=(g,w));have G:aZ (ps.map bE).length=true:=decide_eq_true (by rw[VL];lia);have q:=CW h1 U;generalize ps.map bE=pl at as J G ⊢;simp only at z;generalize pD g=pg at as z;generalize sD (g,w)=st at z ⊢;unfold GC;rw[aE (aN (d:=.lst pl) (by simp_all[rE,G]))];rw[aE (ρ':=[some S,some (aV C),some N,some (.lst pl),some R,some st,some (.int (n:Int)),some (.lst pl),some (.tup []),some (.lst [.bl true,.bl (n == 1),.bl (n == 2),.bl (n == 3),.bl (n == 4),.bl (n == 5),.bl (n == 6)]),some (.lst [.bl false,.bl false,.bl false,.bl false,.bl false,.bl false,.bl false,.bl false])]) (by simp_all[z,as])];rw[aE (ρ':=[some S,some (aV C),some N,some (.lst pl),some R,some st,some (.int (n:Int)),some (.lst pl),some (.tup []),some (.lst [.bl true,.bl (n == 1),.bl (n == 2),.bl (n == 3),.bl (n == 4),.bl (n == 5),.bl (n == 6)]),some (.lst [.bl false,.bl false,.bl false,.bl false,.bl false,.bl false,.bl false,.bl false])]) (by simp_all[J])];rw[aE (ρ':=[some S,some (aV C),some N,some (.lst pl),some R,some st,some (.int (n:Int)),some (.lst pl),some (.tup []),some (.lst [.bl true,.bl (n == 1),.bl (n == 2),.bl (n == 3),.bl (n == 4),.bl (n == 5),.bl (n == 6)]),some (.lst [.bl false,.bl false,.bl false,.bl false,.bl false,.bl false,.bl false,.bl false])]) (by simp_all[show ¬ n=0 by lia])];have Y:dH [.int 7]=some (bH 0 1 7):=fR (n:=7) (by decide);have z7:aZ 7=true:=by decide
 generalize (n == 1)=b1 at q ⊢;generalize (n == 2)=b2 at q ⊢;generalize (n == 3)=b3 at q ⊢;generalize (n == 4)=b4 at q ⊢;generalize (n == 5)=b5 at q ⊢;generalize (n == 6)=b6 at q ⊢;have W:gQ (8:Int)=true:=by decide
 have z8:aZ 8=true:=by decide
 simp_all[Y,b9,z7,g6,q,oW,W,z8]
theorem MO{C:Bk}{kn:List Str}{g:Pt}{w:Int}(h:wr C kn g=w)(h0:¬ w=0):∃n:Nat,w=(n:Int)/\1<=n/\n<=6/\J3 n=cls w:=by
 obtain⟨s,es⟩:=(h ▸ gC C g kn:Cw w).resolve_left h0;unfold cls at es;by_cases a:w=3
 ·subst a;exact⟨3,rfl,by decide,by decide,rfl⟩
 by_cases b:w=4
 ·subst b;exact⟨4,rfl,by decide,by decide,rfl⟩
 by_cases c:w=5
 ·subst c;exact⟨5,rfl,by decide,by decide,rfl⟩
 by_cases d:w=6
 ·subst d;exact⟨6,rfl,by decide,by decide,rfl⟩
 rw[if_neg a,if_neg b,if_neg c,if_neg d]at es;cases es
theorem QD(ns:List Int)(hn:ns.length<=63):bM 11 KY [.lst (ns.map .int)]=some (.bl true):=by
 obtain⟨f,hf⟩:=dM ns;have J:=(hf 22 (by decide) (by decide)).1;obtain⟨C,an,K⟩:=xU ns;obtain⟨nl,en,N⟩:=oS ns K;obtain⟨ps,ep,Y,h6,hm⟩:=vS ns K N;have X:Ctx C nl (ps.map (·.1)):=⟨K,N,by rw[VL];exact h6,by rw[VL];exact hm⟩;have nd:(ps.map (·.1)).Nodup:=by rw[hm];exact N.nd.sublist (List.take_sublist ..)
 have hd:Hd C ps:=⟨h6,λj p hp=>by
  obtain⟨k1,k2,k3⟩:=Y p (WR hp);refine⟨k1,λz=>?_,eK k2 k3⟩;have hi:(ps.map (·.1))[j]?=some p.1:=by rw[VM,hp];rfl
  obtain⟨i,hj⟩:=List.mem_iff_getElem?.mp z;have lj:=(List.getElem?_eq_some_iff.mp hj).1;rw[WZ]at lj;rw[YY (by lia)]at hj;obtain⟨a1,a2⟩:=List.getElem?_eq_some_iff.mp hj;obtain⟨b1,b2⟩:=List.getElem?_eq_some_iff.mp hi;have:=(ZX nd).mp (a2.trans b2.symm)
  lia⟩
 have ak:∀p∈ps,p.1.length<=1000:=λp hp=>by have:=dZ (Y p hp).1;lia
 obtain⟨W,hr,er⟩:∃W:Int×Int×Int×Int,W.2.1<=50/\(kP (fN (a6 lU (a6 jI (aS bJ (aI (aH 0) (aI (eC (.int 22)) bC))) (eC (.int 3))) (eC (.int 0)))) (eW 4 (vJ (aI (eC (.int 150)) (aI (eC (.int 50)) (aI (eC (.int 6)) (aI (eC (.int 4)) bC)))))) nH) [some (.lst (ns.map .int)),some (aV C),some (.lst (nl.map .str)),some (.lst (ps.map bE)),some (.lst [.int 60,.int 24,.int 2,.int 2]),none,none,none,none,none,none]=some (.nx [some (.lst (ns.map .int)),some (aV C),some (.lst (nl.map .str)),some (.lst (ps.map bE)),some (iC W),none,none,none,none,none,none]):=by
  by_cases h:f 22%3=0
  ·exact⟨(150,50,6,4),by decide,by simp_all[J,aF,h,iC]⟩
  ·exact⟨(60,24,2,2),by decide,by simp_all[J,aF,h,iC]⟩
 obtain⟨g,w,eb,sg,dg⟩:=yC hn X hr;have hw:wr C (ps.map (·.1)) g=w:=sg.ok _ (λ_ z=>z) λ_ z=>.inl z
 refine aM ?_;show bI _ (bI _ (bI _ (bI _ (bI _ (bI _ (bI _ (bI _ (bI _ GC)))))))) _=_;rw[aE (aN (d:=aV C) (by simp_all[aA,an]))];rw[aE (aN (d:=.lst (nl.map .str)) (by simp_all[aA,en]))];rw[aE (aN (d:=.lst (ps.map bE)) (by simp_all[aA,ep]))];rw[aE (aN (d:=.lst [.int 60,.int 24,.int 2,.int 2]) (by simp[-U5,-U6,aC,aG]))];refine(aE (show kP _ _ _ _=_ from er)).trans ?_;rw[aE (aN (d:=sD (g,w)) (by simp_all[eb]))];rw[aE (aN (d:=.int w) (by simp_all[s_5]))];have ai:WK (WK [some (.lst (ns.map .int)),some (aV C),some (.lst (nl.map .str)),some (.lst (ps.map bE)),some (iC W),none,none,none,none,none,none] 5 (some (sD (g,w)))) 6 (some (.int w))=[some (.lst (ns.map .int)),some (aV C),some (.lst (nl.map .str)),some (.lst (ps.map bE)),some (iC W),some (sD (g,w)),some (.int w),none,none,none,none]:=rfl;rw[ai];obtain⟨v1,v2,v3⟩:=sU (C:=C) (ps:=ps) ak (by lia) dg sg.sh;obtain⟨G,e8,ab⟩:∃G:Int,(kP (KO (fN (a6 kD (a6 aP (aH 5) (eC (.int 1))) (eC (.int 60)))) (KO (fN (a6 kD (a6 aP (aH 5) (eC (.int 2))) (eC (.int 2)))) (KO (fN (a6 kD (a6 aP (aH 5) (eC (.int 3))) (eC (.int 24)))) (fN (a6 kD (a6 aP (aH 5) (eC (.int 4))) (eC (.int 2))))))) (eW 6 (eC (.int 2))) nH) [some (.lst (ns.map .int)),some (aV C),some (.lst (nl.map .str)),some (.lst (ps.map bE)),some (iC W),some (sD (g,w)),some (.int w),none,none,none,none]=some (.nx [some (.lst (ns.map .int)),some (aV C),some (.lst (nl.map .str)),some (.lst (ps.map bE)),some (iC W),some (sD (g,w)),some (.int G),none,none,none,none])/\(G=2/\big g\/G=w/\¬ big g):=by
  by_cases U:60<parts g
  ·exact⟨2,by simp_all[s_1,U],.inl ⟨rfl,.inl U⟩⟩
  by_cases n2:2<lets g
  ·exact⟨2,by simp_all[s_1,s_2,U,n2],.inl ⟨rfl,.inr (.inl n2)⟩⟩
  by_cases n3:24<(deep g:Int)
  ·exact⟨2,by simp_all[s_1,s_2,s_3,U,n2,n3],.inl ⟨rfl,.inr (.inr (.inl (by lia)))⟩⟩
  by_cases n4:2<(rnds g:Int)
  ·exact⟨2,by simp_all[s_1,s_2,s_3,s_4,U,n2,n3,n4],.inl ⟨rfl,.inr (.inr (.inr (by lia)))⟩⟩
  refine⟨w,by simp_all[s_1,s_2,s_3,s_4,U,n2,n3,n4],.inr ⟨rfl,λz=>?_⟩⟩;rcases z with z|z|z|z
  ·exact U z
  ·exact n2 z
  ·lia
  ·lia
 rw[aE e8];by_cases h4:f 22/3%4=0
 ·obtain⟨ac,ew,hb,ah,l7⟩:=rP K N h6 Y (c:=f 22/12)
  obtain⟨u1,_,_⟩:=sU (C:=C) (ps:=ac) ah (by lia) dg sg.sh;rw[aE (ρ':=[some (.lst (ns.map .int)),some (aV C),some (.lst (nl.map .str)),some (.lst (ac.map bE)),some (iC W),some (sD (g,w)),some (.int 1),none,none,none,none]) (by simp_all[J,aQ,aF,h4,eL,ew])];exact yH l7 (n:=1) (by decide) (by decide) (u1 hb)
 ·rw[aE (ρ':=[some (.lst (ns.map .int)),some (aV C),some (.lst (nl.map .str)),some (.lst (ps.map bE)),some (iC W),some (sD (g,w)),some (.int G),none,none,none,none]) (by simp_all[J,aQ,aF,h4])]
  rcases ab with⟨q,bg⟩|⟨q,bg⟩ <;> rw[q]
  ·exact yH (by lia) (n:=2) (by decide) (by decide) (v2 hd bg)
  ·obtain⟨x1,x2⟩:=v3 hd bg
   rw[hw]at x1 x2;by_cases w0:w=0
   ·subst w0
    have al:deep g<=24:=Nat.le_of_not_lt λz=>bg (.inr (.inr (.inl z)))
    exact L9 (by lia) al x1 (x2 rfl)
   ·obtain⟨n,rfl,U,n6,ec⟩:=MO hw w0
    exact yH (by lia) U n6 (x1.trans ec.symm)
theorem S4:Bds top tab:=by
 unfold tab
 repeat (refine Bds.cons ?_ ?_;· (repeat intro _);rfl)
 exact Bds.nil
theorem M4{l:zaQ}{w:World}{K:U3}{h:Heap}{mg:Str->Option Value}{fa:Addr}{k:Nat}(X:K.In h)(G:h.Ns VQ mg)(bj:mg "law" = some (.ref fa))(D:Des K top tab)(B:Nos K blt)(J:Gis K T2)
  {f0:Addr} {bi be:Option Addr} {bn:Array (Option Value)} {bm bc bg bh bb bf:Value} (a0:WH K VQ "law" = some (some (.ref f0))) (l0:K.lookup f0=some ⟨bm,bi,.func (W0 "law" "law" (eS s_law) (bO s_law) (aJ s_law) .none bc bg bh be bb bf),bn⟩) (c0:YZ K bb "law" = true) (k0:XW K (.ref f0)=true)
  {ar:Addr} {ba:Option Addr} {a5:Nat} {a8:Array (Option Value)} {a1 a4 a3 a2:Tok} (gaWORDS:WH K VQ "WORDS" = some (some (.ref ar))) (glWORDS:K.lookup ar=some ⟨.type "tuple",ba,.seq #[.str "let" a1,.str "in" a4,.str "pick" a3,.str "again" a2] a5,a8⟩)
  {aq:Addr} {aB:Nat} {ay au ax az aw as:Tok} {an am ap al ao ak:Addr} (kfCHECKS0:WH K VQ "check_name" = some (some (.ref an))) (kfCHECKS1:WH K VQ "check_number" = some (some (.ref am))) (kfCHECKS2:WH K VQ "check_use" = some (some (.ref ap))) (kfCHECKS3:WH K VQ "check_let" = some (some (.ref al))) (kfCHECKS4:WH K VQ "check_pick" = some (some (.ref ao))) (kfCHECKS5:WH K VQ "check_again" = some (some (.ref ak))) (kaCHECKS:WH K VQ "CHECKS" = some (some (.ref aq))) (klCHECKS:K.lookup aq=some ⟨.type "dict",none,.dict #[⟨X2 w "name",.str "name" ay,.ref an⟩,⟨X2 w "number",.str "number" au,.ref am⟩,⟨X2 w "use",.str "use" ax,.ref ap⟩,⟨X2 w "let",.str "let" az,.ref al⟩,⟨X2 w "pick",.str "pick" aw,.ref ao⟩,⟨X2 w "again",.str "again" as,.ref ak⟩] aB,#[]⟩)
  {q Y ah ac ad aj aa N U ai ag ae z ab af:Addr} (cl:My.Ces K [("ChiefError",q),("NoDeed",Y),("NoForm",ah),("NoHead",ac),("NoKind",ad),("NoMake",aj),("NoName",aa),("NoNumber",N),("NoReading",U),("NoRoad",ai),("NoText",ag),("NoWheel",ae),("OutOfSteps",z),("TooBig",ab),("Uneven",af)])
  (exNoDeed:My.Exq K Y) (ybNoDeed:VS K (.ref q) (.type "BaseException")=some true) (syNoDeed:VS K (.ref Y) (.ref q)=some true) (suNoDeed:My.Sus K Y [("NoForm",ah),("NoHead",ac),("NoKind",ad),("NoMake",aj),("NoName",aa),("NoNumber",N),("NoReading",U),("NoRoad",ai),("NoText",ag),("NoWheel",ae),("OutOfSteps",z),("TooBig",ab),("Uneven",af)])
  (exNoHead:My.Exq K ac) (ybNoHead:VS K (.ref q) (.type "BaseException")=some true) (syNoHead:VS K (.ref ac) (.ref q)=some true) (suNoHead:My.Sus K ac [("NoDeed",Y),("NoForm",ah),("NoKind",ad),("NoMake",aj),("NoName",aa),("NoNumber",N),("NoReading",U),("NoRoad",ai),("NoText",ag),("NoWheel",ae),("OutOfSteps",z),("TooBig",ab),("Uneven",af)])
  (exNoKind:My.Exq K ad) (ybNoKind:VS K (.ref q) (.type "BaseException")=some true) (syNoKind:VS K (.ref ad) (.ref q)=some true) (suNoKind:My.Sus K ad [("NoDeed",Y),("NoForm",ah),("NoHead",ac),("NoMake",aj),("NoName",aa),("NoNumber",N),("NoReading",U),("NoRoad",ai),("NoText",ag),("NoWheel",ae),("OutOfSteps",z),("TooBig",ab),("Uneven",af)])
  (exNoName:My.Exq K aa) (ybNoName:VS K (.ref q) (.type "BaseException")=some true) (syNoName:VS K (.ref aa) (.ref q)=some true) (suNoName:My.Sus K aa [("NoDeed",Y),("NoForm",ah),("NoHead",ac),("NoKind",ad),("NoMake",aj),("NoNumber",N),("NoReading",U),("NoRoad",ai),("NoText",ag),("NoWheel",ae),("OutOfSteps",z),("TooBig",ab),("Uneven",af)])
  (exNoNumber:My.Exq K N) (ybNoNumber:VS K (.ref q) (.type "BaseException")=some true) (syNoNumber:VS K (.ref N) (.ref q)=some true) (suNoNumber:My.Sus K N [("NoDeed",Y),("NoForm",ah),("NoHead",ac),("NoKind",ad),("NoMake",aj),("NoName",aa),("NoReading",U),("NoRoad",ai),("NoText",ag),("NoWheel",ae),("OutOfSteps",z),("TooBig",ab),("Uneven",af)])
  (exTooBig:My.Exq K ab) (ybTooBig:VS K (.ref q) (.type "BaseException")=some true) (syTooBig:VS K (.ref ab) (.ref q)=some true) (suTooBig:My.Sus K ab [("NoDeed",Y),("NoForm",ah),("NoHead",ac),("NoKind",ad),("NoMake",aj),("NoName",aa),("NoNumber",N),("NoReading",U),("NoRoad",ai),("NoText",ag),("NoWheel",ae),("OutOfSteps",z),("Uneven",af)])
  (ok:∀base:Heap,K.In base->base.Ns VQ mg->Txt w K mg->My.BodyOk l.prog w K mg base "law" s_law ["script", "tome", "names", "pairs", "room", "state", "due", "handed", "found", "refused", "other"] k (My.w8 K)) :
  ∃fd:WP,(∀(s:U2) (v:Value),BindsTo s fd ⟨[v],[]⟩ [("script",v)])/\∀base:Heap,K.In base->base.Ns VQ mg->FnOk l.prog w K mg base A4 (k+1) fa fd ["script"] (My.w8 K):=by
 have e:=bj.symm.trans (WT X G a0);cases e;have F0:=FK (st:=s_law) l0 c0 k0;have T:Txt w K mg:=⟨Des.d X G D S4,λx hx=>PySem.W.mg_none_of X G (B x hx),Gis.d X G J,⟨⟨_,WT X G gaWORDS,_,_,_,glWORDS,rfl,rfl,by show 4<=VA;decide,.cons ⟨_,rfl⟩ (.cons ⟨_,rfl⟩ (.cons ⟨_,rfl⟩ (.cons ⟨_,rfl⟩ (.nil))))⟩⟩,⟨⟨_,_,_,_,WT X G kaCHECKS,klCHECKS,⟨rfl,rfl,rfl⟩,rfl,(.cons (WT X G kfCHECKS0) (.cons (WT X G kfCHECKS1) (.cons (WT X G kfCHECKS2) (.cons (WT X G kfCHECKS3) (.cons (WT X G kfCHECKS4) (.cons (WT X G kfCHECKS5) .nil)))))),by decide +kernel⟩⟩,My.nR X G cl exNoDeed ybNoDeed syNoDeed suNoDeed (by simp) (by simp) (by simp),My.nR X G cl exNoHead ybNoHead syNoHead suNoHead (by simp) (by simp) (by simp),My.nR X G cl exNoKind ybNoKind syNoKind suNoKind (by simp) (by simp) (by simp),My.nR X G cl exNoName ybNoName syNoName suNoName (by simp) (by simp) (by simp),My.nR X G cl exNoNumber ybNoNumber syNoNumber suNoNumber (by simp) (by simp) (by simp),My.nR X G cl exTooBig ybTooBig syTooBig suTooBig (by simp) (by simp) (by simp)⟩;refine⟨W0 "law" "law" (eS s_law) (bO s_law) (aJ s_law) .none bc bg bh be bb bf,λs v=>.of_eq rfl,λbase kb nb=>?_⟩;exact(ok base kb nb T).fn F0 sc_law (λvs H Q E h=>by obtain⟨a,ns,e,_⟩:=h;rw[e];rfl)
end Law
namespace PySem.W.Fast
theorem tw15529367096256315231:0=0:=rfl
theorem tw5787238316203889303:0=0:=rfl
theorem tw10135496249872106779:0=0:=rfl
theorem tw7373542942254360605:0=0:=rfl
theorem tw137936195207373067:0=0:=rfl
theorem tw13365099668781169526:0=0:=rfl
theorem tw7296341183726116933:0=0:=rfl
theorem tw385183971591443617:0=0:=rfl
theorem tw1821186791003586473:0=0:=rfl
theorem tw7368376678166395536:0=0:=rfl
theorem tw16043863701212485116:0=0:=rfl
theorem tw5121552449401821672:0=0:=rfl
theorem tw13679823264058513277:0=0:=rfl
theorem tw3941543480792962038:0=0:=rfl
theorem tw3043276683579692448:0=0:=rfl
theorem tw1990855020550320479:0=0:=rfl
theorem tw15015950696430931644:0=0:=rfl
theorem tw7249621828272455325:0=0:=rfl
theorem tw1092474252820121345:0=0:=rfl
theorem tw14378771077806565095:0=0:=rfl
theorem tw6686010836895836147:0=0:=rfl
theorem tw13247300214827592529:0=0:=rfl
theorem tw4024435636839020248:0=0:=rfl
theorem tw8348596131585871281:0=0:=rfl
theorem tw3200544257166952060:0=0:=rfl
theorem tw3791907009093367524:0=0:=rfl
theorem tw10855955857707582194:0=0:=rfl
theorem tw7653395712500923967:0=0:=rfl
theorem tw12304986016734193310:0=0:=rfl
theorem tw2652421650878865712:0=0:=rfl
theorem tw12768743359090302491:0=0:=rfl
theorem tw923166252923121835:0=0:=rfl
theorem tw10677274573084631906:0=0:=rfl
theorem tw10964930714312120302:0=0:=rfl
theorem tw11420599729503317407:0=0:=rfl
theorem tw13522942464497041760:0=0:=rfl
theorem tw14427783659347334347:0=0:=rfl
theorem tw5458816334089332161:0=0:=rfl
theorem tw17012539216066684145:0=0:=rfl
theorem tw9428316356728182676:0=0:=rfl
theorem tw17308850505522704793:0=0:=rfl
theorem tw17939605914279139709:0=0:=rfl
theorem tw14155164033590836525:0=0:=rfl
theorem tw12573511816097551752:0=0:=rfl
theorem tw7841987538343062136:0=0:=rfl
theorem tw4161815758404188124:0=0:=rfl
theorem tw18347317738548409961:0=0:=rfl
theorem tw6035165832059039594:0=0:=rfl
theorem tw2068412818579170192:0=0:=rfl
theorem tw12294328314230532551:0=0:=rfl
theorem tw14450307426517467725:0=0:=rfl
theorem tw6216847280884313839:0=0:=rfl
theorem tw9056915659507805974:0=0:=rfl
theorem tw1161919504872726332:0=0:=rfl
theorem tw6663898410317603511:0=0:=rfl
theorem tw7527837368205365736:0=0:=rfl
theorem tw15123079377995464848:0=0:=rfl
theorem tw12314248407413718605:0=0:=rfl
theorem tw17779685229479807140:0=0:=rfl
theorem tw9190980606346509762:0=0:=rfl
theorem tw16653381684518819468:0=0:=rfl
theorem tw961586429778299086:0=0:=rfl
theorem tw18401397997827224157:0=0:=rfl
theorem tw9324337766732065906:0=0:=rfl
theorem tw12069737889656277215:0=0:=rfl
theorem tw8046573339537416566:0=0:=rfl
theorem tw17801450377842814594:0=0:=rfl
theorem tw5305570199837001544:0=0:=rfl
theorem tw9849601825421605942:0=0:=rfl
theorem tw10412768568513784623:0=0:=rfl
theorem tw2907268024769508889:0=0:=rfl
theorem tw12482414459904052993:0=0:=rfl
theorem tw12360031608099862840:0=0:=rfl
theorem tw6706284405025414671:0=0:=rfl
theorem tw656992961454615971:0=0:=rfl
theorem tw10686676617005262822:0=0:=rfl
theorem tw11281194220943559259:0=0:=rfl
theorem tw1082297812159952600:0=0:=rfl
theorem tw13278927033498886364:0=0:=rfl
theorem tw2517536808179652847:0=0:=rfl
theorem tw5758675157415246375:0=0:=rfl
theorem tw17959911628194211962:0=0:=rfl
theorem tw6102791483435251597:0=0:=rfl
theorem tw15300265027612704478:0=0:=rfl
theorem tw199693022170352380:0=0:=rfl
theorem tw16687048739455067698:0=0:=rfl
theorem tw5078735002125421411:0=0:=rfl
theorem tw10286672265439636633:0=0:=rfl
theorem tw8801057750094861576:0=0:=rfl
theorem tw4347961421925432974:0=0:=rfl
theorem tw1327400715024432946:0=0:=rfl
theorem tw6194327265932753838:0=0:=rfl
theorem tw17267986431907244052:0=0:=rfl
theorem tw8154444860055263109:0=0:=rfl
theorem tw2361950288287630496:0=0:=rfl
theorem tw11288847273024118817:0=0:=rfl
theorem tw15309808209651848567:0=0:=rfl
theorem tw11033900176365096746:0=0:=rfl
theorem tw15924887390803021615:0=0:=rfl
theorem tw8522024744100857425:0=0:=rfl
theorem tw16394486604360237442:0=0:=rfl
theorem tw14836968934739492936:0=0:=rfl
theorem tw15645768363379683508:0=0:=rfl
theorem tw4676069237166671590:0=0:=rfl
theorem tw9901361369060899907:0=0:=rfl
theorem tw11093183609757472528:0=0:=rfl
theorem tw7881972313763838705:0=0:=rfl
theorem tw11477980219850711108:0=0:=rfl
theorem tw7820513150476171417:0=0:=rfl
theorem tw14021282345065833259:0=0:=rfl
theorem tw8044161612915038344:0=0:=rfl
theorem tw539954648570225263:0=0:=rfl
theorem tw7573136156724105032:0=0:=rfl
theorem tw5575442505469861319:0=0:=rfl
theorem tw730250737664380272:0=0:=rfl
theorem tw8765905395308544951:0=0:=rfl
theorem tw3868796194752751290:0=0:=rfl
theorem tw8146356754872211793:0=0:=rfl
theorem tw16740204051153266464:0=0:=rfl
theorem tw7644389972816218158:0=0:=rfl
theorem tw14168156029227041124:0=0:=rfl
theorem tw3793832487319439442:0=0:=rfl
theorem tw7250950318391999016:0=0:=rfl
theorem tw11840014940951769084:0=0:=rfl
theorem tw8453184651852813165:0=0:=rfl
theorem tw16685438076055417613:0=0:=rfl
theorem tw6909821741010112019:0=0:=rfl
theorem tw6939629901213941467:0=0:=rfl
theorem tw6001116598057738166:0=0:=rfl
theorem tw5324082574689752:0=0:=rfl
theorem tw11843093061911540501:0=0:=rfl
theorem tw12880602446516299974:0=0:=rfl
theorem tw4983066221112904326:0=0:=rfl
theorem tw14149429309097810805:0=0:=rfl
theorem tw3930976892183613906:0=0:=rfl
theorem tw4349800547397962256:0=0:=rfl
theorem tw11353903167822621622:0=0:=rfl
theorem tw3737678066437135418:0=0:=rfl
theorem tw9010196528566040957:0=0:=rfl
theorem tw5399554619640400395:0=0:=rfl
theorem tw9937790302032754528:0=0:=rfl
theorem tw488337655707131575:0=0:=rfl
theorem tw10421935841581551222:0=0:=rfl
theorem tw2807944336696702257:0=0:=rfl
theorem tw595668800652600356:0=0:=rfl
theorem tw13850364492236215029:0=0:=rfl
theorem tw2162113692534382656:0=0:=rfl
theorem tw2568729771147021330:0=0:=rfl
theorem tw17492316263013325080:0=0:=rfl
theorem tw7955846077079468838:0=0:=rfl
theorem tw12245436004805427418:0=0:=rfl
theorem tw9763916436165020442:0=0:=rfl
theorem tw4939465802551417184:0=0:=rfl
theorem tw933024445845153571:0=0:=rfl
theorem tw3167642578408069855:0=0:=rfl
theorem tw2073951941759806701:0=0:=rfl
theorem tw9395356864959223653:0=0:=rfl
theorem tw10526329601430240503:0=0:=rfl
theorem tw10482215381935298906:0=0:=rfl
theorem tw12230703702880044137:0=0:=rfl
theorem tw14705548389232827572:0=0:=rfl
theorem tw15893356439000607632:0=0:=rfl
theorem tw17417048358065923273:0=0:=rfl
theorem tw10598772762761419128:0=0:=rfl
theorem tw24015106580452337:0=0:=rfl
theorem tw6113235203468392584:0=0:=rfl
theorem tw5875023107442661136:0=0:=rfl
theorem tw9955546609663953570:0=0:=rfl
theorem tw1806548207719858448:0=0:=rfl
theorem tw14439359372766651401:0=0:=rfl
theorem tw13597118682784653051:0=0:=rfl
theorem tw2569758814888349887:0=0:=rfl
theorem tw8580880195890533894:0=0:=rfl
theorem tw12253177845814413281:0=0:=rfl
theorem tw10538448070966177557:0=0:=rfl
theorem tw2814317590018018655:0=0:=rfl
theorem tw11566305447504073686:0=0:=rfl
theorem tw8517893412213980894:0=0:=rfl
theorem tw4463607327102233462:0=0:=rfl
theorem tw3957121228526483136:0=0:=rfl
theorem tw2189863787972582658:0=0:=rfl
theorem tw17586907615896919114:0=0:=rfl
theorem tw6868570306188697500:0=0:=rfl
theorem tw9430139131207472374:0=0:=rfl
theorem tw6667623782316107964:0=0:=rfl
theorem tw16181500717732273127:0=0:=rfl
theorem tw4287662763243161472:0=0:=rfl
theorem tw16169642202238993061:0=0:=rfl
theorem tw1537708301046057312:0=0:=rfl
theorem tw3038955809953924090:0=0:=rfl
theorem tw10949019923575317388:0=0:=rfl
theorem tw2429233914615650096:0=0:=rfl
theorem tw1189921424889590012:0=0:=rfl
theorem tw2077178355257521272:0=0:=rfl
theorem tw17094224513349242081:0=0:=rfl
theorem tw1269873225204411954:0=0:=rfl
theorem tw7196905140947157725:0=0:=rfl
theorem tw12086470601637158578:0=0:=rfl
theorem tw2382026610866247989:0=0:=rfl
theorem tw350485632945921228:0=0:=rfl
theorem tw1633915734779770203:0=0:=rfl
theorem tw3746473175995306937:0=0:=rfl
theorem tw9199819175691661309:0=0:=rfl
theorem tw6946735065100339421:0=0:=rfl
theorem tw9426763187849257216:0=0:=rfl
theorem tw12011274438252102512:0=0:=rfl
theorem tw2237779285574047136:0=0:=rfl
theorem tw5808176277890076119:0=0:=rfl
theorem tw12572435128363780717:0=0:=rfl
theorem tw10555251498429522367:0=0:=rfl
theorem tw9305245423549441436:0=0:=rfl
theorem tw15358031818932457531:0=0:=rfl
theorem tw6011950326248437413:0=0:=rfl
theorem tw15504570971302605641:0=0:=rfl
theorem tw16469386158899574574:0=0:=rfl
theorem tw15925094986449413270:0=0:=rfl
theorem tw13463853337149550186:0=0:=rfl
theorem tw659455930998942387:0=0:=rfl
theorem tw18237065174272146229:0=0:=rfl
theorem tw4059406060849300975:0=0:=rfl
theorem tw15892467535207912152:0=0:=rfl
theorem tw17688424655432501989:0=0:=rfl
theorem tw466063982662825309:0=0:=rfl
theorem tw15698681757595818559:0=0:=rfl
end PySem.W.Fast
open PySem PySem.W PyProof.Rows
set_option maxRecDepth 100000 in
set_option maxHeartbeats 0 in
theorem PySem.Challenge.cw_chiefway_k32_programs_refused_holds : PySem.Challenge.rw_chiefway_k32_programs_refused.Holds := by
 w_on;o_law;k_head;(case hw=>w_witness2)
 k_fill
 refine My.walk (l:=PySem.Challenge.rw_chiefway_k32_programs_refused) (k:=67) (by decide) rfl rfl (λw h Y=>PySem.W.kIn_of Y) ?F
 case F=>
  intro w mg N h U G z;refine' Law.M4 (k:=66) U G z ?D ?B ?J ?a0 ?l0 ?c0 ?k0 ?gaWORDS ?glWORDS ?kfCHECKS0 ?kfCHECKS1 ?kfCHECKS2 ?kfCHECKS3 ?kfCHECKS4 ?kfCHECKS5 ?kaCHECKS ?klCHECKS ?cl ?exNoDeed ?ybNoDeed ?syNoDeed ?suNoDeed ?exNoHead ?ybNoHead ?syNoHead ?suNoHead ?exNoKind ?ybNoKind ?syNoKind ?suNoKind ?exNoName ?ybNoName ?syNoName ?suNoName ?exNoNumber ?ybNoNumber ?syNoNumber ?suNoNumber ?exTooBig ?ybTooBig ?syTooBig ?suTooBig ?ok
  (case D=>unfold Law.tab;(repeat (apply P.Des.cons;(case a=>k_is);(case l=>k_is);(case c=>k_is);(case k=>k_is)));exact P.Des.nil)
  (case B=>unfold Law.blt;(repeat (apply P.Nos.cons;(case a=>k_is)));exact P.Nos.nil)
  (case J=>unfold Law.T2;(repeat (apply P.Gis.cons;(case a=>k_is)));exact P.Gis.nil)
  (case a0=>k_is)
  (case l0=>k_is)
  (case c0=>k_is)
  (case k0=>k_is)
  (case gaWORDS=>k_is)
  (case glWORDS=>k_is)
  (case kfCHECKS0=>k_is)
  (case kfCHECKS1=>k_is)
  (case kfCHECKS2=>k_is)
  (case kfCHECKS3=>k_is)
  (case kfCHECKS4=>k_is)
  (case kfCHECKS5=>k_is)
  (case kaCHECKS=>k_is)
  (case klCHECKS=>k_is)
  (case cl=>(repeat (apply My.Ces.cons;(case a=>k_is);(case c=>k_is);(case t=>k_is)));exact My.Ces.nil)
  (case exNoDeed=>refine' My.Exq.mk ?e ?ga ?gt ?cl ?ob ?be ?gg ?tk ?sv;(case e=>k_exc);(case ga=>k_is);(case gt=>k_is);(case cl=>k_is);(case ob=>k_is);(case be=>k_is);(case gg=>k_is);(case tk=>k_is);(case sv=>k_is))
  (case ybNoDeed=>k_is)
  (case syNoDeed=>k_is)
  (case suNoDeed=>(repeat (apply My.Sus.cons;(case b=>k_is);(case n=>rfl)));exact My.Sus.nil)
  (case exNoHead=>refine' My.Exq.mk ?e ?ga ?gt ?cl ?ob ?be ?gg ?tk ?sv;(case e=>k_exc);(case ga=>k_is);(case gt=>k_is);(case cl=>k_is);(case ob=>k_is);(case be=>k_is);(case gg=>k_is);(case tk=>k_is);(case sv=>k_is))
  (case ybNoHead=>k_is)
  (case syNoHead=>k_is)
  (case suNoHead=>(repeat (apply My.Sus.cons;(case b=>k_is);(case n=>rfl)));exact My.Sus.nil)
  (case exNoKind=>refine' My.Exq.mk ?e ?ga ?gt ?cl ?ob ?be ?gg ?tk ?sv;(case e=>k_exc);(case ga=>k_is);(case gt=>k_is);(case cl=>k_is);(case ob=>k_is);(case be=>k_is);(case gg=>k_is);(case tk=>k_is);(case sv=>k_is))
  (case ybNoKind=>k_is)
  (case syNoKind=>k_is)
  (case suNoKind=>(repeat (apply My.Sus.cons;(case b=>k_is);(case n=>rfl)));exact My.Sus.nil)
  (case exNoName=>refine' My.Exq.mk ?e ?ga ?gt ?cl ?ob ?be ?gg ?tk ?sv;(case e=>k_exc);(case ga=>k_is);(case gt=>k_is);(case cl=>k_is);(case ob=>k_is);(case be=>k_is);(case gg=>k_is);(case tk=>k_is);(case sv=>k_is))
  (case ybNoName=>k_is)
  (case syNoName=>k_is)
  (case suNoName=>(repeat (apply My.Sus.cons;(case b=>k_is);(case n=>rfl)));exact My.Sus.nil)
  (case exNoNumber=>refine' My.Exq.mk ?e ?ga ?gt ?cl ?ob ?be ?gg ?tk ?sv;(case e=>k_exc);(case ga=>k_is);(case gt=>k_is);(case cl=>k_is);(case ob=>k_is);(case be=>k_is);(case gg=>k_is);(case tk=>k_is);(case sv=>k_is))
  (case ybNoNumber=>k_is)
  (case syNoNumber=>k_is)
  (case suNoNumber=>(repeat (apply My.Sus.cons;(case b=>k_is);(case n=>rfl)));exact My.Sus.nil)
  (case exTooBig=>refine' My.Exq.mk ?e ?ga ?gt ?cl ?ob ?be ?gg ?tk ?sv;(case e=>k_exc);(case ga=>k_is);(case gt=>k_is);(case cl=>k_is);(case ob=>k_is);(case be=>k_is);(case gg=>k_is);(case tk=>k_is);(case sv=>k_is))
  (case ybTooBig=>k_is)
  (case syTooBig=>k_is)
  (case suTooBig=>(repeat (apply My.Sus.cons;(case b=>k_is);(case n=>rfl)));exact My.Sus.nil)
  (case ok=>exact λbase kb nb T=>P.M6 (f:=Law.KY) (O':=[]) rfl (λN q A outer s H E hr=>Law.LA.2 T N q A outer s H E hr) Law.QD)
