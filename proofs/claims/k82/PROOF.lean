import PyProof.Rows.All
import Wide.All
import OpenK.AllK
import Wide.FinOn
import Lean
import PyProof.EqAt
import PyProof.EqKinds
import PyProof.TupleCall
import KE.KEqDict
import PySem.Challenge.RW_chiefway_k82_a_programs_text
set_option autoImplicit true
set_option relaxedAutoImplicit true
set_option Elab.async false
set_option linter.all false
set_option maxRecDepth 100000
open PySem renaming Shared → YE, wpAny_bind → YF, starEach → YG, Program → YK, wpAny_pure → YL, Around → YM, sizeLine → YN, backTo → YO, compareOp → YR, mainGlobals → YU, swapsWith → Y3, bootBuiltins → ZA, binaryOp → ZC, Keyword → ZO, hashStr → ZP, wpAny_mono → ZR, attributeBase → ZX, FuncData → ZY, backToKw → ZZ, keywordEach → Z0, valueAt → Z4, pyNext → Z8, wpAny_field → zac, behindInMarks → zae, rawInt → zaf, relabel → zah, wpAny_truthy_bool → zai, foldedSetIterable → zaj, codeAny → zal, IsEnum → zar, sysModules → zas, assign → zau, assignEach → zav, NameKind → zax, IsPart → zaA, getItem → zaB, wpAny_call_entry → zaC, wpAny_newObj_type → zaD, sliceBounds → zaE, DictEntry → zaF, wpAny_loadPart' → zaM, wpAny_holding → zaR, wpAny_callSpecial?_slot → zaU, tupleKind → zaZ, wpAny_passesOwn → za0, cellsFrom → za3, callerA → za9, PassesOwn → zba, wpAny_pyIter_list → zbp, wpAny_Call_Name_kw → zbr, mem_of_lookup → zbs, typeIs_str → zbt, call_meets → zbw, wpAny_setField_rec → zbz, wpAny_letGo → zbA, wpAny_tryCatch → zbB, wpAny_execs_nil → zbF, wpAny_standAt → zbG, letOwnedTupleGo → zbH, IsRangeIter → zbI, wpAny_pyIter_tuple → zbJ, sizeLine_eq → zbL, codeAny_mono → zbR, subscripted → zbY, wpAny_attempt → zb3, wpAny_typeNameOfWhole_keyiter → zb5, wpAny_typeNameOf_keyiter → zb6, wpAny_setField → zb8, firstArgMember → zcb, wpAny_seqItems → zce, plainId_quiet → zcg, noFill_tuple_add → zcu, wpAny_getItem_of → zcE, tupleKind_room_in1 → zcF, wpAny_dictEntries → zcI, wpAny_dictEpoch → zcJ, wpAny_updateSeq → zcM
open PySem.W renaming Frag → YH, nsIn → Y6, mg_of → Y9, fnOf → Z2, kia_one → zab, findIn → zak, keepIn → zaw, emptyDict → zaL, instObj → zaQ, codeIn → za6, plainGet → zbM, hasDictIn → zbN, kitOne → zbP, kitx_dict → zbQ, callWith_K → zbS, methodObj → zcm, plainOver → zcq, takerIn → zcr, makesIn → zcs, OpenLaw → zcG
open Option renaming bind_some → YI, map_some → YJ, isSome_map → zcD
open List renaming mem_cons_self → YQ, length_map → YV, mem_cons_of_mem → YW, mem_cons → YZ, not_mem_nil → Y0, size_toArray → Y1, map_cons → Y4, length_cons → Y7, length_append → ZG, getElem?_map → ZJ, map_map → ZS, range → Z6, mem_append_right → Z9, find?_cons → zad, append_nil → zam, any_cons → zao, getElem?_eq_getElem → zap, length → zay, length_nil → zaz, lookup_cons → zaO, replicate → zaS, lookup → za2, length_take → za4, getElem?_append_left → za5, map_nil → za7, mem_of_getElem? → zbe, all_cons → zbf, getElem_mem → zbh, mem_append_left → zbo, drop_eq_getElem_cons → zbx, forall_mem_cons → zbC, getElem?_append_right → zbT, getElem?_replicate → zbU, replicate_succ → zbZ, flatten_cons → zb0, all_eq_true → zb2, all_map → zck, filterMap_cons → zcn, getElem?_set_self → zco, getElem?_set_ne → zcp, of_mem_zip → zct, length_drop → zcz, length_singleton → zcC, getElem?_range → zcK, drop_length → zcL, getD_eq_getElem?_getD → zcR, map_append → zcS, cons_append → zcT
open Nat renaming le_refl → YS, ne_of_lt → ZE, le_trans → ZF, lt_of_lt_of_le → ZN, zero_le → zaa, le_succ → zan, lt_irrefl → zat, toDigits → zaX, ne_of_gt → zbb, lt_succ_self → zbq, toDigits_of_lt_base → zbD, le_add_left → zbE, lt_of_le_of_lt → zb1, le_of_ble_eq_true → zch, toDigits_append_toDigits → zc3
open PySem.Heap renaming lt_size → YT, get?_push_of_some → YY, get?_push_size → Y8, SameBut → Z7, get?_update_other → za8, get?_update_self → zbv, size_push → zbO
open Bool renaming false_ne_true → YX, and_eq_true → ZK, eq_iff_iff → zbc, not_eq_true → zby, false_eq_true → zb7
open PyProof.Rows renaming envOfC → Y2, kindOf → Z1, IntsAre → Z3, AllBare → zaJ, callWith_type1 → zbK, slot_tuple_getitem → zbW
open PySem.Value renaming ref → Y5, none → ZW, int → zbk, str → zbl, bool → zbn
open PySem.Str renaming join → ZD, ofString → ZQ
open Ne renaming symm → ZH
open Option.some renaming inj → ZI
open Or renaming inl → ZL, inr → Z5
open Sum renaming inr → ZM, inl → zaY
open False renaming elim → ZT
open Int renaming emod_nonneg → ZU, emod_lt_of_pos → ZV, toNat_natCast → zaq, eq_ofNat_of_zero_le → zaP
open True renaming intro → zag
open ToString renaming toString → zaG
open PySem.Txt renaming split → zaH, startswith3 → zaW
open Subtype renaming val → zaI
open Array renaming length_toList → zaK
open PySem.NameKind renaming free → zaN
open PySem.SeqAt renaming EqAt → zaT
open Classical renaming propDecidable → zaV
open PySem.Builtin.Range renaming rangeSize → za1, small → zcH
open PySem.Builtin.Str renaming occurrences → zbd
open ForInStep renaming yield → zbg
open PySem.F renaming plain_max_loop → zbi, plainAttrs_str → zbj, slot_dict_keyiterator_next → zb4, slot_tuple_iterator_next → zcd, slot_enumerate_next → zcf, slot_str_join → zci, type_str_join → zcj, slot_tuple_add → zcv, entry_tuple_add → zcw, args_tuple_add_2 → zcx, plainAttrs_list → zcN, slot_str_split → zcO, entry_str_split → zcP, args_str_split_2 → zcQ, entry_dict_keyiterator_next → zcV, args_dict_keyiterator_next_1 → zcW, entry_tuple_iterator_next → zcY, args_tuple_iterator_next_1 → zcZ
open Sum.inr renaming inj → zbm
open PySem.Obj renaming mapSeq → zbu, data_mapFields → zb9
open PySem.Builtin.Slice renaming slicePlaces → zbV, sliceAdjust → zcy
open PySem.Builtin.Tuple renaming tupleExact → zbX, tupleItemsOf → zcA
open PySem.Heap.SameBut renaming update → zca
open PySem.Builtin.SmallTypes renaming nextOf → zcc, ownedTupleIsFree → zc0, ownedTupleHandOut → zc1
open List.cons renaming injEq → zcl
open PySem.Builtin.List renaming listTooLong → zcB
open PySem.W.KIN renaming signs_num → zcU
open PySem.Builtin.Dict_items renaming ownsTuple → zcX
open PySem.Builtin.Builtins renaming bindParams → zc2
noncomputable section
namespace L2
open PySem PySem.Spec PyProof.Rows
abbrev Key:=Sum Int Str
def tL:Key->Value->Bool
 | .inl k,v=>Value.isInt k v
 | .inr x,v=>Value.isStrOf x v
def VT(w:World):Key->Int
 | .inl k=>hashInt k
 | .inr x=>ZP w x
theorem bR:∀ {k:Key} {v:Value},tL k v=true->(∃i t,k=zaY i/\v=zbk i t)\/(∃x t,k=ZM x/\v=zbl x t)
 | .inl i,v,h=>by
  obtain⟨t,e⟩:=Value.isInt_shape (k:=i) (v:=v) h;exact .inl ⟨i,t,rfl,e⟩
 | .inr x,v,h=>by
  obtain⟨t,e⟩:=Value.isStrOf_shape (x:=x) (v:=v) h;exact .inr ⟨x,t,rfl,e⟩
theorem C0(i:Int)(t:Tok):tL (.inl i) (.int i t)=true:=by simp[tL,Value.isInt]
theorem mI(x:Str)(t:Tok):tL (.inr x) (.str x t)=true:=by simp[tL,Value.isStrOf]
theorem N0(a b:Int):decide ((zaY a:Key)=zaY b)=(a == b):=by
 by_cases e:a=b
 ·subst e;simp
 ·have h:¬ (zaY a:Key)=zaY b:=λq=>e (Sum.inl.inj q)
  rw[decide_eq_false h];exact(beq_eq_false_iff_ne.mpr e).symm
theorem NW(a b:Str):decide ((ZM a:Key)=ZM b)=decide (a=b):=by
 by_cases e:a=b
 ·subst e;simp
 ·have h:¬ (ZM a:Key)=ZM b:=λq=>e (zbm q)
  rw[decide_eq_false h,decide_eq_false e]
theorem PH(a:Int)(b:Str):decide ((zaY a:Key)=ZM b)=false:=decide_eq_false (λq=>nomatch q)
theorem N2(a:Str)(b:Int):decide ((ZM a:Key)=zaY b)=false:=decide_eq_false (λq=>nomatch q)
def bQ(prog:YK)(w:World):PySem.KeyKind prog w Key where
 is:=tL
 hash:=VT w
 inj:=λv a b ha B=>by
  rcases bR ha with⟨i,t,rfl,rfl⟩|⟨x,t,rfl,rfl⟩
  ·rcases bR B with⟨j,u,rfl,e⟩|⟨y,u,rfl,e⟩
   ·injection e with e1 _;rw[e1]
   ·exact nomatch e
  ·rcases bR B with⟨j,u,rfl,e⟩|⟨y,u,rfl,e⟩
   ·exact nomatch e
   ·injection e with e1 _;rw[e1]
 byValue:=λk v h=>by
  rcases bR h with⟨i,t,rfl,rfl⟩|⟨x,t,rfl,rfl⟩ <;> rfl
 pyHash:=λq h=>by
  rcases bR q with⟨i,t,rfl,rfl⟩|⟨x,t,rfl,rfl⟩
  ·exact wpAny_pyHash_int h
  ·exact wpAny_pyHash_str h
 eqBool:=λF q h=>by
  rcases bR F with⟨i,t,rfl,rfl⟩|⟨x,t,rfl,rfl⟩
  ·rcases bR q with⟨j,u,rfl,rfl⟩|⟨y,u,rfl,rfl⟩
   ·rw[N0]at h;exact wpAny_eqBool_int h
   ·rw[PH]at h;exact SeqAt.EqAt.int_str i t y u _ _ _ _ h
  ·rcases bR q with⟨j,u,rfl,rfl⟩|⟨y,u,rfl,rfl⟩
   ·rw[N2]at h;exact SeqAt.EqAt.str_int x t j u _ _ _ _ h
   ·rw[NW]at h;exact wpAny_eqBool_str h
 «strs»:=λk x t v h=>by
  rcases bR h with⟨i,u,rfl,e⟩|⟨y,u,rfl,e⟩
  ·exact nomatch e
  ·injection e with e1 _
   subst e1;cases v <;> rfl
theorem vN(prog:YK)(w:World)(i:Int)(t:Tok):(bQ prog w).is (.inl i) (.int i t)=true:=C0 i t
theorem vQ(prog:YK)(w:World)(x:Str)(t:Tok):(bQ prog w).is (.inr x) (.str x t)=true:=mI x t
inductive V where
 | non|bl (b:Bool)|int (i:Int)|str (x:Str)|byt (b:Array UInt8)|flt (b:UInt64)|ref (a:Addr)|ty (n:String)
 deriving DecidableEq
noncomputable def RelV:V->Value->Prop
 | .non,u=>u=ZW
 | .bl b,u=>u=zbn b
 | .int i,u=>∃t,u=zbk i t
 | .str x,u=>∃t,u=zbl x t
 | .byt b,u=>∃t,u=Value.bytes b t
 | .flt b,u=>∃t,u=Value.float b t
 | .ref a,u=>u=Y5 a
 | .ty n,u=>u=Value.type n
abbrev Vals:List V->List Value->Prop:=Paired RelV
theorem Vals.length(r:Vals xs us):xs.length=us.length:=Paired.length r
theorem Vals.get:∀ {xs:List V} {us:List Value} {i:Nat} {x:V},Vals xs us->xs[i]?=some x->∃u,us[i]?=some u/\RelV x u
 | _,_,_,_,.nil,e=>by simp at e
 | _,_,0,_,.cons r _,e=>by simp at e;subst e;exact⟨_,rfl,r⟩
 | _,_,i+1,x,.cons _ t,e=>by
  obtain⟨u,h1,h2⟩:=Vals.get (i:=i) (x:=x) t (by simpa using e);exact⟨u,by simpa using h1,h2⟩
theorem Vals.set(r:RelV x u):∀ {xs:List V} {us:List Value} (i:Nat),Vals xs us->Vals (xs.set i x) (us.set i u)
 | _,_,_,.nil=>.nil
 | _,_,0,.cons _ t=>.cons r t
 | _,_,i+1,.cons q t=>.cons q (Vals.set r i t)
theorem Vals.append:∀ {xs ys:List V} {us ws:List Value},Vals xs us->Vals ys ws->Vals (xs++ys) (us++ws)
 | _,_,_,_,.nil,s=>s
 | _,_,_,_,.cons r t,s=>.cons r (Vals.append t s)
theorem Vals.take:∀ {xs:List V} {us:List Value} (n:Nat),Vals xs us->Vals (xs.take n) (us.take n)
 | _,_,0,_=>.nil
 | _,_,_+1,.nil=>.nil
 | _,_,n+1,.cons r t=>.cons r (Vals.take n t)
theorem Vals.drop:∀ {xs:List V} {us:List Value} (n:Nat),Vals xs us->Vals (xs.drop n) (us.drop n)
 | _,_,0,r=>r
 | _,_,_+1,.nil=>.nil
 | _,_,n+1,.cons _ t=>Vals.drop n t
def RelO:Option V->Option Value->Prop
 | some v,some u=>RelV v u
 | none,none=>True
 | _,_=>False
def KV{κ:Type}:List (κ×V)->List (κ×Value)->Prop:=Paired λ(p:κ×V) (q:κ×Value)=>p.1=q.1/\RelV p.2 q.2
def kV:Key->V
 | .inl i=>.int i
 | .inr x=>.str x
inductive HO where
 /-- a list -/
 | lst (xs:List V)
 /-- a tuple (never changes) -/
 | tup (xs:List V)
 /-- a dict whose keys are ints and texts;one whose keys are tuples of ints and texts (the empty one is both) -/
 | dK (kvs:List (Key×V))|dT (kvs:List (List Key×V))
 /-- a set of ints: its members, its size -/
 | set (S:Int->Bool) (n:Nat)
 /-- an instance of the class at C, its dict at dx, its attributes -/
 | ins (C dx:Addr) (fs:List (Str×V))
 /-- the dict of the instance at x -/
 | own (x:Addr)
 /-- the dict of an exception -/
 | xd (fs:List (Str×V))
 /-- a bound method, f of x -/
 | met (f x:Addr)
 /-- a range object lo, lo+1, .. below hi -/
 | rng (lo hi:Int)
 /-- a thing that is known to the object (the script;a dict while a loop walks it): read, never written while it is so -/
 | frz (o:Obj) (u:HO)
 /-- a code object's table -/
 | tbl (ps:Array Value)
 /-- any other thing, by what is true of its one object (a def of one's own: SetO a S n:=HO.ext λh => ..) -/
 | ext (φ:Heap->Prop)
abbrev Hp:=Addr->Option HO
def upd(H:Hp)(a:Addr)(o:HO):Hp:=λb=>if b=a then some o else H b
theorem aM:upd H a o a=some o:=by unfold upd;rw[if_pos rfl]
theorem aK(h:b≠a):upd H a o b=H b:=by unfold upd;rw[if_neg h]
theorem bJ{H:Hp}{a b:Addr}{o:HO}(h:H a=some o)(h':H b=none):a≠b:=by
 intro e;subst e;rw[h]at h';cases h'
section
variable (P:YK)(w:World)
def IsTupN(h:Heap)(a:Addr)(items:Array Value):Prop:=∃o,h.get? a=some o/\o.cls=.type "tuple" /\ ∃n,o.data=.seq items n/\o.dict=none
theorem IsTupN.tup{h:Heap}{a:Addr}{items:Array Value}(x:IsTupN h a items):IsTup h a items:=let ⟨o,e,c,n,d,_⟩:=x;⟨o,e,c,n,d⟩
theorem IsTupN.lt(x:IsTupN h a items):a<h.objs.size:=x.tup.lt
theorem IsTupN.new(h:Heap)(items:Array Value):IsTupN (h.push {cls:=.type "tuple",data:=.seq items}) h.objs.size items:=⟨_,Y8 _ rfl,rfl,_,rfl,rfl⟩
def ObjOk(H:Hp)(h:Heap)(a:Addr):HO->Prop
 | .lst xs=>xs.length<=YN/\∃(its:List Value) (n:Nat),Vals xs its/\h.get? a=some {cls:=.type "list",data:=.seq its.toArray n}
 | .tup xs=>xs.length<=YN/\∃its:List Value,Vals xs its/\IsTupN h a its.toArray
 | .dK kvs=>kvs.length<=YN/\(a == zas)=false/\∃vs,KV kvs vs/\h.DictOf (bQ P w) a vs
 | .dT kvs=>kvs.length<=YN/\(a == zas)=false/\∃xs:List (List Key×Addr×Value),
   Paired (λ(p:List Key×V) (q:List Key×Addr×Value)=>p.1=q.1/\H q.2.1=some (.tup (p.1.map kV))/\RelV p.2 q.2.2) kvs xs /\
   ∃o es ep,h.get? a=some o/\o.ExactDict/\o.data=.dict es ep/\es.toList=xs.map (entryOfKey (zaZ (bQ P w)))/\(xs.map (·.1)).Nodup
 | .set S n=>h.SetOf (intKind P w) a S n
 | .ins C dx fs=>H dx=some (.own a)/\fs.length<=1000/\dx≠a/\h.get? a=some (zaQ C dx) /\
   ∃mA,h.Ns1 dx mA/\(∀f,RelO (fs.lookup f) (mA f))/\PySem.Within mA (fs.map (·.1))
 | .own _=>∃o,h.get? a=some o
 | .xd fs=>∃mA,h.Ns1 a mA/\∀f,RelO (fs.lookup f) (mA f)
 | .rng lo hi=>∃t u v,h.get? a=some {cls:=.type "range",data:=.fields #[.int lo t,.int hi u,.int 1 v]}
 | .frz o u=>h.get? a=some o/\ObjOk H h a u
 | .tbl ps=>h.get? a=some {cls:=.none,data:=.fields ps}
 | .met f x=>h.get? a=some (zcm (.ref f) (.ref x))
 | .ext φ=>φ h/\(∃o,h.get? a=some o)/\∀h1 h2:Heap,φ h1->(∀o,h1.get? a=some o->h2.get? a=some o)->φ h2
def HOk(H:Hp)(h:Heap):Prop:=∀a o,H a=some o->ObjOk P w H h a o
end
section
variable {P:YK}{w:World}{H H':Hp}{h h':Heap}{a:Addr}{o:HO}
theorem ObjOk.lt(x:ObjOk P w H h a o):a<h.objs.size:=by
 cases o with
 | lst xs=>obtain⟨_,_,_,_,e⟩:=x;exact YT e
 | tup xs=>obtain⟨_,_,_,p⟩:=x;exact p.lt
 | dK kvs=>obtain⟨_,_,_,_,o,_,_,e,_⟩:=x;exact YT e
 | dT kvs=>obtain⟨_,_,_,_,o,_,_,e,_⟩:=x;exact YT e
 | set S n=>obtain⟨o,_,_,_,e,_⟩:=x;exact YT e
 | ins C dx fs=>obtain⟨_,_,_,e,_⟩:=x;exact YT e
 | own y=>obtain⟨_,e⟩:=x;exact YT e
 | xd fs=>obtain⟨_,⟨_,_,_,e,_⟩,_⟩:=x;exact YT e
 | rng lo hi=>obtain⟨_,_,_,e⟩:=x;exact YT e
 | frz ob u=>obtain⟨e,_⟩:=x;exact YT e
 | tbl ps=>exact YT (show h.get? a=some _ from x)
 | met f y=>exact YT (show h.get? a=some _ from x)
 | ext φ=>obtain⟨_,⟨_,e⟩,_⟩:=x;exact YT e
theorem Paired.mapP{B q:Type}{F G:B->q->Prop}:∀ {l₁:List B} {l₂:List q},Paired F l₁ l₂->(∀a b,F a b->G a b)->Paired G l₁ l₂
 | _,_,.nil,_=>.nil
 | _,_,.cons r t,f=>.cons (f _ _ r) (Paired.mapP t f)
theorem ObjOk.stay(x:ObjOk P w H h a o)(k:∀b u,(b=a\/H b=some (.own a))->h.get? b=some u->h'.get? b=some u)
  (U:∀b,H b=some (.own a)->H' b=some (.own a)) (J:∀b xs,H b=some (.tup xs)->H' b=some (.tup xs)):ObjOk P w H' h' a o:=by
 induction o with
 | lst xs=>obtain⟨z,F,n,r,e⟩:=x;exact⟨z,F,n,r,k _ _ (.inl rfl) e⟩
 | tup xs=>obtain⟨z,F,r,B,e,c⟩:=x;exact⟨z,F,r,B,k _ _ (.inl rfl) e,c⟩
 | dK kvs=>obtain⟨z,y,vs,r,B,es,ep,e,c⟩:=x;exact⟨z,y,vs,r,B,es,ep,k _ _ (.inl rfl) e,c⟩
 | dT kvs=>
  obtain⟨z,y,xs,r,B,es,ep,e,c⟩:=x;exact⟨z,y,xs,Paired.mapP r λp q z=>⟨z.1,J _ _ z.2.1,z.2.2⟩,B,es,ep,k _ _ (.inl rfl) e,c⟩
 | set S n=>obtain⟨B,es,ep,t,e,c⟩:=x;exact⟨B,es,ep,t,k _ _ (.inl rfl) e,c⟩
 | ins C dx fs=>
  obtain⟨d,z,N,e,mA,⟨od,es,ep,W,c⟩,r⟩:=x;exact⟨U _ d,z,N,k _ _ (.inl rfl) e,mA,⟨od,es,ep,k _ _ (.inr d) W,c⟩,r⟩
 | own y=>obtain⟨B,e⟩:=x;exact⟨B,k _ _ (.inl rfl) e⟩
 | xd fs=>obtain⟨mA,⟨od,es,ep,e,c⟩,r⟩:=x;exact⟨mA,⟨od,es,ep,k _ _ (.inl rfl) e,c⟩,r⟩
 | rng lo hi=>obtain⟨t,u,v,e⟩:=x;exact⟨t,u,v,k _ _ (.inl rfl) e⟩
 | frz B u ih=>obtain⟨e,q⟩:=x;exact⟨k _ _ (.inl rfl) e,ih q⟩
 | tbl ps=>
  have e:h.get? a=some {cls:=.none,data:=.fields ps}:=x;show h'.get? a=some {cls:=.none,data:=.fields ps};exact k a _ (.inl rfl) e
 | met f y=>
  have e:h.get? a=some (zcm (.ref f) (.ref y)):=x;show h'.get? a=some (zcm (.ref f) (.ref y));exact k a _ (.inl rfl) e
 | ext φ=>obtain⟨p,⟨o,e⟩,st⟩:=x;exact⟨st _ _ p λo q=>k _ _ (.inl rfl) q,⟨o,k _ _ (.inl rfl) e⟩,st⟩
theorem HOk.lt(x:HOk P w H h)(e:H a=some o):a<h.objs.size:=(x a o e).lt
theorem HOk.fresh(x:HOk P w H h)(e:h.objs.size<=a):H a=none:=by
 cases q:H a with
 | none=>rfl
 | some u=>exact absurd (ZN (x.lt q) e) (zat _)
theorem HOk.kept(x:HOk P w H h)(k:∀b u,h.get? b=some u->h'.get? b=some u):HOk P w H h':=λa o e=>
 (x a o e).stay (λb u _ q=>k b u q) (λ_ q=>q) λ_ _ q=>q
theorem HOk.laid(x:HOk P w H h)(k:∀b u,h.get? b=some u->h'.get? b=some u)(J:h.objs.size<=a)(new:ObjOk P w (upd H a o) h' a o):HOk P w (upd H a o) h':=λb u e=>by
 have F:=x.fresh J;by_cases B:b=a
 ·subst B;rw[aM]at e;cases e;exact new
 ·rw[aK B]at e
  exact(x b u e).stay (λc v _ q=>k c v q) (λc q=>by rw[aK (bJ q F)];exact q) λc xs q=>by rw[aK (bJ q F)];exact q
end
def Rd(H:Hp)(a:Addr)(u:HO):Prop:=H a=some u\/∃o,H a=some (.frz o u)
theorem Rd.of(h:H a=some u):Rd H a u:=.inl h
theorem Rd.ok(r:Rd H a u)(x:HOk P w H h):ObjOk P w H h a u:=by
 rcases r with r|⟨o,r⟩
 ·exact x a u r
 ·obtain⟨_,q⟩:=x a _ r
  exact q
def UY:Option HO->Prop
 | some (.lst _)=>True
 | some (.dK _)=>True
 | some (.dT _)=>True
 | some (.set _ _)=>True
 | some (.ins _ _ _)=>True
 | some (.ext _)=>True
 | _=>False
section
variable {P:YK}{w:World}{H:Hp}{h h':Heap}{x e:Addr}{o':HO}
theorem HOk.write(ok:HOk P w H h)(W:UY (H x))(he:e=x\/H e=some (.own x))(k:∀b u,b≠e->h.get? b=some u->h'.get? b=some u)(Y:∃u,h'.get? e=some u)
  (new:ObjOk P w (upd H x o') h' x o'):HOk P w (upd H x o') h':=λb u q=>by
 have F:∀c y,H c=some (.own y)->c≠x:=λc y r z=>by subst z;rw[r]at W;exact W
 have J:∀c xs,H c=some (.tup xs)->c≠x:=λc xs r z=>by subst z;rw[r]at W;exact W
 by_cases N:b=x
 ·subst N;rw[aM]at q;cases q;exact new
 ·rw[aK N]at q
  by_cases B:b=e
  ·have q':H b=some (.own x):=by
    rcases he with z|z
    ·exact absurd (B.trans z) N
    ·rw[B];exact z
   rw[q]at q';cases q';obtain⟨v,hv⟩:=Y;exact⟨v,by rw[B];exact hv⟩
  ·refine(ok b u q).stay (λc v U r=>k c v ?_ r) (λc r=>by rw[aK (F c b r)];exact r) λc xs r=>by rw[aK (J c xs r)];exact r
   rcases U with rfl|U
   ·exact B
   ·rintro rfl
    rcases he with z|z
    ·exact F c b U z
    ·rw[U]at z;cases z;exact N rfl
end
structure Un(fs ex:List Addr)(H H':Hp)(h h':Heap):Prop where
 keep:∀b o,h.get? b=some o->H b=none->b∉fs->b∉ex->h'.get? b=some o
 slot:∀b o,h.get? b=some o->H b=none->b∈fs->b∉ex->∃sl,h'.get? b=some {o with slots:=sl}
 free:∀b o,h.get? b=some o->H b=none->b∉ex->H' b=none
 there:∀b o,h.get? b=some o->b∉ex->∃o',h'.get? b=some o'
 tups:∀b xs,H b=some (.tup xs)->H' b=some (.tup xs)
 frzs:∀b o u,H b=some (.frz o u)->H' b=some (.frz o u)
 tbls:∀b ps,H b=some (.tbl ps)->∃more,H' b=some (.tbl (ps++more))
section
variable {fs fs' ex ex':List Addr}{H H1 H2:Hp}{h h1 h2 h':Heap}{a x e:Addr}{o:HO}
theorem Un.any(u:Un fs ex H H1 h h1)(q:h.get? b=some ob)(n:H b=none)(B:b∉ex):∃J,h1.get? b=some {ob with slots:=J}:=by
 by_cases F:b∈fs
 ·exact u.slot b ob q n F B
 ·exact⟨ob.slots,u.keep b ob q n F B⟩
theorem Un.trans(a:Un fs ex H H1 h h1)(b:Un fs ex H1 H2 h1 h2):Un fs ex H H2 h h2 where
 keep:=λc B q n N F=>b.keep c B (a.keep c B q n N F) (a.free c B q n F) N F
 slot:=λc B q n N F=>by
  obtain⟨sl,J⟩:=a.slot c B q n N F;obtain⟨U,W⟩:=b.slot c _ J (a.free c B q n F) N F;exact⟨U,W⟩
 free:=λc B q n F=>by
  obtain⟨o',J⟩:=a.there c B q F;exact b.free c o' J (a.free c B q n F) F
 there:=λc B q F=>by
  obtain⟨o',J⟩:=a.there c B q F;exact b.there c o' J F
 tups:=λc xs q=>b.tups c xs (a.tups c xs q)
 frzs:=λc B xs q=>b.frzs c B xs (a.frzs c B xs q)
 tbls:=λc ps q=>by
  obtain⟨m1,J⟩:=a.tbls c ps q;obtain⟨Y,W⟩:=b.tbls c _ J;exact⟨m1++Y,by rw[W,Array.append_assoc]⟩
theorem Un.kept(k:∀b u,h.get? b=some u->h'.get? b=some u):Un fs ex H H h h':=
 ⟨λb B q _ _ _=>k b B q,λb B q _ _ _=>⟨B.slots,k b B q⟩,λ_ _ _ n _=>n,λb B q _=>⟨B,k b B q⟩,λ_ _ q=>q,λ_ _ _ q=>q,λ_ ps q=>⟨#[],by rw[q];simp⟩⟩
theorem Un.refl:Un fs ex H H h h:=Un.kept λ_ _ q=>q
theorem Un.laid(k:∀b u,h.get? b=some u->h'.get? b=some u)(F:h.objs.size<=a)(B:H a=none):Un fs ex H (upd H a o) h h' where
 keep:=λb u q _ _ _=>k b u q
 slot:=λb u q _ _ _=>⟨u.slots,k b u q⟩
 free:=λb u q n _=>by rw[aK (ZE (ZN (YT q) F))];exact n
 there:=λb u q _=>⟨u,k b u q⟩
 tups:=λb xs q=>by rw[aK (bJ q B)];exact q
 frzs:=λb u xs q=>by rw[aK (bJ q B)];exact q
 tbls:=λb ps q=>⟨#[],by rw[aK (bJ q B),q];simp⟩
theorem Un.write(F:UY (H x))(Y:e=x\/H e=some (.own x))(k:∀b u,b≠e->h.get? b=some u->h'.get? b=some u)(N:∃u,h'.get? e=some u):Un fs ex H (upd H x o) h h':=by
 have W:∀b,H b=none->b≠x:=λb n z=>by subst z;rw[n]at F;exact F
 have U:∀b,H b=none->b≠e:=λb n z=>by
  subst z;rcases Y with r|r
  ·exact W b n r
  ·rw[n]at r;cases r
 have J:∀b u,H b=some u->¬ UY (some u)->b≠x:=λb u q nm z=>by subst z;rw[q]at F;exact nm F
 refine⟨λb u q n _ _=>k b u (U b n) q,λb u q n _ _=>⟨u.slots,k b u (U b n) q⟩,λb u q n _=>by rw[aK (W b n)];exact n,λb u q _=>?_,
  λb xs q=>by rw[aK (J b _ q λz=>z)];exact q,λb u xs q=>by rw[aK (J b _ q λz=>z)];exact q,λb ps q=>⟨#[],by rw[aK (J b _ q λz=>z),q];simp⟩⟩
 by_cases B:b=e
 ·subst B;exact N
 ·exact⟨u,k b u B q⟩
theorem Un.mono(u:Un fs ex H H1 h h1)(hs:∀b∈fs,b∈fs')(J:∀b∈ex,b∈ex'):Un fs' ex' H H1 h h1:=
 ⟨λb F q n N B=>u.keep b F q n (λz=>N (hs b z)) λz=>B (J b z),λ_ _ q n _ B=>u.any q n λz=>B (J _ z),λb F q n B=>u.free b F q n λz=>B (J b z),λb F q B=>u.there b F q λz=>B (J b z),u.tups,u.frzs,u.tbls⟩
end
def U2(h:Heap)(H:Hp):List Addr:=(Z6 h.objs.size).filter λa=>(H a).isSome
def vE(h:Heap)(H:Hp):Heap:=PySem.W.hideAll h (U2 h H)
theorem B4(h:Heap)(H:Hp):(vE h H).objs.size=h.objs.size:=PySem.W.hideAll_size _ _
theorem FD(e:h.get? b=some o)(n:H b=none):(vE h H).get? b=some o:=
 PySem.W.hideAll_get _ e λB=>by
  have q:(H b).isSome=true:=(List.mem_filter.mp B).2;rw[n]at q;simp at q
theorem K0(e:(vE h H).get? b=some o):h.get? b=some o/\H b=none:=by
 have B:h.get? b=some o:=PySem.W.of_hideAll (U2 h H) e;refine⟨B,?_⟩;cases q:H b with
 | none=>rfl
 | some x=>
  have F:b∈U2 h H:=List.mem_filter.mpr ⟨List.mem_range.mpr (YT B),by simp[q]⟩;have z:(vE h H).get? b=none:=PySem.W.hideAll_none (U2 h H) F;rw[z]at e;cases e
noncomputable def II(g h:Heap)(L:Addr):List (Addr×Obj):=(Z6 h.objs.size).filterMap λa=>if a=L\/(g.get? a).isSome=true then none else(h.get? a).map λo=>(a,o)
def rest(g h:Heap)(L d:Addr):List (Addr×Obj):=(II g h L).filter λp=>decide (p.1≠d)
structure Mod(K:YH)(mg:Str->Option Value)(base:Heap):Prop where
 kin:K.In base
 glob:base.Ns YU mg
 blt:∃mb,base.Ns builtinsNs mb/\∀x:Str,x ≠ "__name__" -> mb x=ZA x
 nolimit:base.NoLimit
structure Cx where
 prog:YK
 w:World
 K:YH
 mg:Str->Option Value
 base:Heap
 A:YM
 N:List Str
 s₀:YE
 H₀:Hp
 env:Env
 outer:List Env
 stack:List Env
 ex:List Addr
 fn:Str->Bool
 calm:Bool
 pn:List (Addr×Obj)
 xe:Value->YE->Prop
noncomputable def frs(l:List Env):List Addr:=l.filterMap (·.frame)
abbrev Cx.fs(X:Cx):List Addr:=frs X.outer
def RB(sc:Scope)(x:Str):Prop:=sc.names.lookup x=some .local\/sc.names.lookup x=some .cell\/sc.names.lookup x=some .free
def Loc(sc:Scope)(x:Str):Prop:=sc.names.lookup x=some .local\/sc.names.lookup x=some .cell
def Look(env:Env)(h:Heap)(m:Str->Option Value)(x:Str)(u:Value):Prop:=
 (env.kindOf x=some .local/\m x=some u)\/((env.kindOf x=some .cell\/env.kindOf x=some .free)/\∃c,env.cells.lookup x=some c/\h.IsCell c (some u))
structure Cx.Ok(X:Cx):Prop where
 mod:Mod X.K X.mg X.base
 kind:X.env.scope.kind=.function
 glob:X.env.globals=YU
 blt:X.env.builtins=builtinsNs
 above:X.s₀.heap.objs.size<=X.env.locals
 inj:∀x y c,X.env.cells.lookup x=some c->X.env.cells.lookup y=some c->x=y
 has:∀x,(X.env.kindOf x=some .cell\/X.env.kindOf x=some .free)->∃c,X.env.cells.lookup x=some c
 cab:∀x c,X.fn x=true->X.env.cells.lookup x=some c->X.s₀.heap.objs.size<=c
 hd:X.calm=true->X.A.handled=none
 frames:X.A.frames=some X.stack
 stk:X.stack=X.outer\/(X.stack=X.env::X.outer/\X.env.frame=some X.env.locals)
 exf:∀b∈X.ex,b≠X.env.locals/\∀x c,X.env.cells.lookup x=some c->c≠b
 bs:∀b o,X.base.get? b=some o->X.s₀.heap.get? b=some o/\X.H₀ b=none
 bsz:X.base.objs.size<=X.s₀.heap.objs.size
 noex:∀b o,X.base.get? b=some o->b∉X.ex
 exfs:∀b∈X.ex,b∉X.fs
 funs:X.s₀.heap.FunFrames X.base X.outer
 frf:∀b∈X.fs,X.H₀ b=none
structure Inv(X:Cx)(pins:List (Addr×Obj))(σ:List (Option V))(H:Hp)(s:YE):Prop where
 ok:X.Ok
 os:s.os=X.s₀.os
 bare:zaJ s.gens
 base:Un X.fs X.ex X.H₀ H X.s₀.heap s.heap
 loc:∃m,s.heap.Ns X.env.locals m/\∀(i:Nat) (x:Str) (v:V),X.N[i]?=some x->σ[i]?=some (some v)->RB X.env.scope x->∃u,RelV v u/\Look X.env s.heap m x u
 cell:∀x c,X.env.cells.lookup x=some c->∃v,s.heap.IsCell c v
 free:H X.env.locals=none
 freeC:∀x c,X.env.cells.lookup x=some c->H c=none
 pin:∀p∈X.pn++pins,s.heap.get? p.1=some p.2/\H p.1=none/\p.1≠X.env.locals/\p.1∉X.fs/\∀v,p.2.data≠.cell v
 hok:HOk X.prog X.w H s.heap
 len:σ.length=X.N.length
section
variable {X:Cx}{pins:List (Addr×Obj)}{σ:List (Option V)}{H H':Hp}{s:YE}{h':Heap}
theorem Cx.Ok.nofr(ok:X.Ok)(e:X.base.get? b=some o):b∉X.fs:=λq=>by
 have:=(ok.funs.mem q).1;rw[e]at this;cases this
theorem Inv.bs(I:Inv X pins σ H s):∀b o,X.base.get? b=some o->s.heap.get? b=some o/\H b=none:=λb o e=>
 ⟨I.base.keep b o (I.ok.bs b o e).1 (I.ok.bs b o e).2 (I.ok.nofr e) (I.ok.noex b o e),I.base.free b o (I.ok.bs b o e).1 (I.ok.bs b o e).2 (I.ok.noex b o e)⟩
theorem Inv.bk(I:Inv X pins σ H s):∀b o,X.base.get? b=some o->s.heap.get? b=some o:=λb o e=>(I.bs b o e).1
theorem Inv.mod(I:Inv X pins σ H s):Mod X.K X.mg X.base:=I.ok.mod
theorem Inv.kIn(I:Inv X pins σ H s):X.K.In s.heap:=I.ok.mod.kin.keeps I.bk
theorem Inv.lt(I:Inv X pins σ H s):X.env.locals<s.heap.objs.size:=let ⟨_,hn,_⟩:=I.loc;hn.lt
theorem Inv.sz(I:Inv X pins σ H s):X.s₀.heap.objs.size<=s.heap.objs.size:=ZF I.ok.above (Nat.le_of_lt I.lt)
theorem Inv.nofs(I:Inv X pins σ H s)(h:s.heap.objs.size<=a):a∉X.fs:=λB=>by
 obtain⟨_,o,q,_⟩:=I.ok.funs.mem B;exact absurd (ZN (YT q) (ZF I.sz h)) (zat _)
theorem Inv.cne(I:Inv X pins σ H s):∀x c,X.env.cells.lookup x=some c->c≠X.env.locals:=λx c e z=>by
 obtain⟨v,o,J,F⟩:=I.cell x c e;obtain⟨m,⟨o',es,ep,B,q,_⟩,_⟩:=I.loc;rw[z,B]at J;cases J;rw[q]at F;cases F
theorem Inv.funs(I:Inv X pins σ H s):s.heap.FunFrames X.base X.outer:=by
 have all:∀(l:List Env),(∀b∈frs l,b∈X.fs)->X.s₀.heap.FunFrames X.base l->s.heap.FunFrames X.base l:=by
  intro l;induction l with
  | nil=>intro _ _;trivial
  | cons env r ih=>
   intro hs N;obtain⟨hk,⟨L,o,F,W,U,J⟩,Y⟩:=N;have q:L∈X.fs:=hs L (by unfold frs;rw[zcn,F];exact YQ);obtain⟨sl,e⟩:=I.base.slot L o U (I.ok.frf L q) q λz=>I.ok.exfs L z q
   exact⟨hk,⟨L,_,F,W,e,J⟩,ih (λb B=>hs b (by unfold frs;rw[zcn,F];exact YW _ B)) Y⟩
 exact all X.outer (λ_ B=>B) I.ok.funs
theorem Inv.stack(I:Inv X pins σ H s):s.heap.FunFrames X.base X.stack:=by
 rcases I.ok.stk with e|⟨e,q⟩
 ·rw[e];exact I.funs
 ·rw[e]
  obtain⟨m,B,_⟩:=I.loc;refine .cons (by rw[I.ok.kind];decide) q B ?_ I.funs;exact Heap.get?_none_of_le (ZF I.ok.bsz I.ok.above)
theorem Inv.stkSub(I:Inv X pins σ H s):∀b∈frs X.stack,b∈X.env.locals::X.fs:=λb q=>by
 rcases I.ok.stk with e|⟨e,B⟩
 ·rw[e]at q;exact YW _ q
 ·rw[e]at q
  unfold frs at q;rw[zcn,B]at q;exact q
theorem Inv.stkFree(I:Inv X pins σ H s):∀b∈frs X.stack,H b=none:=λb q=>by
 rcases List.mem_cons.mp (I.stkSub b q)with e|q
 ·rw[e];exact I.free
 ·obtain⟨_,o,B,_⟩:=I.ok.funs.mem q
  exact I.base.free b o B (I.ok.frf b q) λz=>I.ok.exfs b z q
theorem Inv.step{g':Array GenState}{t':Nat}{d':Drawn}{ch:List Addr}(I:Inv X pins σ H s)
  (J:∀b∈ch,(b∈X.ex\/X.s₀.heap.objs.size<=b)/\b≠X.env.locals/\(∀x c,X.env.cells.lookup x=some c->c≠b)/\∀p∈X.pn++pins,p.1≠b)
  (N:∀b o,b≠X.env.locals->b∉X.fs->b∉ch->s.heap.get? b=some o->H b=none->h'.get? b=some o)
  (aa:∀b o,b≠X.env.locals->b∈X.fs->b∉ch->s.heap.get? b=some o->H b=none->∃sl,h'.get? b=some {o with slots:=sl}) (free:∀b o,b∉ch->s.heap.get? b=some o->H b=none->H' b=none)
  (there:∀b o,b∉ch->s.heap.get? b=some o->∃o',h'.get? b=some o')
  (ai:∀b xs,H b=some (.tup xs)->H' b=some (.tup xs)) (ah:∀b o u,H b=some (.frz o u)->H' b=some (.frz o u)) (ae:∀b ps,H b=some (.tbl ps)->∃more,H' b=some (.tbl (ps++more)))
  (ns:∀m,s.heap.Ns X.env.locals m->h'.Ns X.env.locals m) (ak:HOk X.prog X.w H' h') (hg:zaJ g') :
  Inv X pins σ H' {s with heap:=h',gens:=g',drawn:=d',toks:=t'}:=by
 have af:∀b o,X.s₀.heap.get? b=some o->b≠X.env.locals:=λb o e=>ZE (ZN (YT e) I.ok.above)
 have W:∀b o,X.s₀.heap.get? b=some o->b∉X.ex->b∉ch:=λb o e B hb=>by
  rcases(J b hb).1 with z|z
  ·exact B z
  ·exact absurd (ZN (YT e) z) (zat _)
 have U:∀x c,X.env.cells.lookup x=some c->∀v,s.heap.IsCell c v->h'.IsCell c v:=by
  rintro x c e v ⟨o,ho,hd⟩;have F:c∉ch:=λz=>(J c z).2.2.1 x c e rfl
  by_cases hc:c∈X.fs
  ·obtain⟨sl,q⟩:=aa c o (I.cne x c e) hc F ho (I.freeC x c e)
   exact⟨_,q,hd⟩
  ·exact⟨o,N c o (I.cne x c e) hc F ho (I.freeC x c e),hd⟩
 refine⟨I.ok,I.os,hg,⟨λb o e n hb B=>?_,λb o e n hb B=>?_,λb o e n B=>?_,λb o e B=>?_,λb xs e=>ai b xs (I.base.tups b xs e),λb o xs e=>ah b o xs (I.base.frzs b o xs e),λb ps e=>?_⟩,?_,λx c e=>?_,?_,λx c e=>?_,λp hp=>?_,ak,I.len⟩
 ·exact N b o (af b o e) hb (W b o e B) (I.base.keep b o e n hb B) (I.base.free b o e n B)
 ·obtain⟨sl,Y⟩:=I.base.slot b o e n hb B
  obtain⟨al,e2⟩:=aa b _ (af b o e) hb (W b o e B) Y (I.base.free b o e n B);exact⟨al,e2⟩
 ·obtain⟨o',Y⟩:=I.base.there b o e B
  exact free b o' (W b o e B) Y (I.base.free b o e n B)
 ·obtain⟨o',Y⟩:=I.base.there b o e B
  exact there b o' (W b o e B) Y
 ·obtain⟨m1,Y⟩:=I.base.tbls b ps e
  obtain⟨m2,e2⟩:=ae b _ Y;exact⟨m1++m2,by rw[e2,Array.append_assoc]⟩
 ·obtain⟨m,hn,hl⟩:=I.loc
  refine⟨m,ns m hn,λi x v Y e2 e3=>?_⟩;obtain⟨u,r,l⟩:=hl i x v Y e2 e3;refine⟨u,r,?_⟩;rcases l with l|⟨k,c,e,z⟩
  ·exact .inl l
  ·exact .inr ⟨k,c,e,U x c e _ z⟩
 ·obtain⟨v,z⟩:=I.cell x c e
  exact⟨v,U x c e v z⟩
 ·obtain⟨m,⟨o,_,_,ho,_⟩,_⟩:=I.loc
  exact free _ o (λz=>(J _ z).2.1 rfl) ho I.free
 ·obtain⟨v,o,ho,hd⟩:=I.cell x c e
  exact free c o (λz=>(J c z).2.2.1 x c e rfl) ho (I.freeC x c e)
 ·obtain⟨e,n,ne,nf,d⟩:=I.pin p hp
  have F:p.1∉ch:=λz=>(J p.1 z).2.2.2 p hp rfl
  exact⟨N p.1 p.2 ne nf F e n,free p.1 p.2 F e n,ne,nf,d⟩
theorem Inv.un{t':Nat}(I:Inv X pins σ H s)(u:Un X.fs [] H H' s.heap h')(N:HOk X.prog X.w H' h'):Inv X pins σ H' {s with heap:=h',toks:=t'}:=by
 obtain⟨m,⟨o,es,ep,U,r⟩,_⟩:=id I.loc;obtain⟨sl,hL⟩:=u.any U I.free (by simp);exact I.step (g':=s.gens) (d':=s.drawn) (ch:=[]) (λ_ z=>nomatch z) (λb o _ B _ e n=>u.keep b o e n B (by simp)) (λb o _ B _ e n=>u.slot b o e n B (by simp)) (λb o _ e n=>u.free b o e n (by simp)) (λb o _ e=>u.there b o e (by simp)) u.tups u.frzs u.tbls (λm' Y=>by
  obtain⟨o',J,F,q,W⟩:=Y;rw[U]at q;cases q;exact⟨_,J,F,hL,W⟩) N I.bare
theorem Inv.call{g':Array GenState}{t':Nat}{d':Drawn}{ch:List Addr}(I:Inv X pins σ H s)(u:Un (frs X.stack) ch H H' s.heap h')(U:HOk X.prog X.w H' h')(hg:zaJ g')
  (B:∀b∈ch,(b∈X.ex\/X.s₀.heap.objs.size<=b)/\b≠X.env.locals/\(∀x c,X.env.cells.lookup x=some c->c≠b)/\∀p∈X.pn++pins,p.1≠b) :
  Inv X pins σ H' {s with heap:=h',gens:=g',drawn:=d',toks:=t'}:=by
 obtain⟨m,⟨o,es,ep,Y,r⟩,_⟩:=id I.loc;obtain⟨sl,W⟩:=u.any Y I.free λz=>(B _ z).2.1 rfl
 exact I.step (ch:=ch) B (λb o W hb q e n=>u.keep b o e n (λz=>(List.mem_cons.mp (I.stkSub b z)).elim W hb) q) (λb o _ _ q e n=>u.any e n q) (λb o q e n=>u.free b o e n q) (λb o q e=>u.there b o e q) u.tups u.frzs u.tbls (λm' hm=>by
  obtain⟨o',N,J,F,r'⟩:=hm;rw[Y]at F;cases F;exact⟨_,N,J,W,r'⟩) U hg
theorem Inv.turned{t':Nat}{it:Addr}(I:Inv X pins σ H s)(k:∀b o,b≠it->s.heap.get? b=some o->h'.get? b=some o)(hn:H it=none)(J:it≠X.env.locals)
  (h1:it∈X.ex\/X.s₀.heap.objs.size<=it) (h2:∀x c,X.env.cells.lookup x=some c->c≠it) (U:∀p∈X.pn++pins,p.1≠it):Inv X pins σ H {s with heap:=h',toks:=t'}:=by
 have F:∀b u,H b=some u->b≠it:=λb u e z=>by rw[z,hn]at e;cases e
 refine I.step (g':=s.gens) (d':=s.drawn) (ch:=[it]) (λb N=>?_) (λb o _ _ B e _=>k b o (λz=>B (by simp[z])) e) (λb o _ _ B e _=>⟨o.slots,k b o (λz=>B (by simp[z])) e⟩) (λ_ _ _ _ n=>n)
  (λb o B e=>⟨o,k b o (λz=>B (by simp[z])) e⟩) (λ_ _ e=>e) (λ_ _ _ e=>e) (λb ps e=>⟨#[],by rw[e];simp⟩) (λm W=>?_) (λb u e=>?_) I.bare
 ·have e:b=it:=by simpa using N
  subst e;exact⟨h1,J,h2,U⟩
 ·obtain⟨o,es,ep,Y,r⟩:=W
  exact⟨o,es,ep,k _ o (ZH J) Y,r⟩
 ·refine(I.hok b u e).stay (λc v B q=>k c v ?_ q) (λ_ q=>q) λ_ _ q=>q
  rcases B with z|z
  ·rw[z];exact F b u e
  ·exact F c _ z
theorem Inv.tok(I:Inv X pins σ H s)(t:Nat):Inv X pins σ H {s with toks:=t}:=I.un (h':=s.heap) (t':=t) Un.refl I.hok
theorem Inv.kept(I:Inv X pins σ H s)(k:∀b u,s.heap.get? b=some u->h'.get? b=some u):Inv X pins σ H {s with heap:=h',toks:=t'}:=I.un (Un.kept k) (I.hok.kept k)
theorem Inv.laid(I:Inv X pins σ H s)(k:∀b u,s.heap.get? b=some u->h'.get? b=some u)(q:s.heap.objs.size<=a)(new:ObjOk X.prog X.w (upd H a o) h' a o) :
  Inv X pins σ (upd H a o) {s with heap:=h',toks:=t'}:=I.un (Un.laid k q (I.hok.fresh q)) (I.hok.laid k q new)
theorem Inv.write(I:Inv X pins σ H s)(F:UY (H x))(B:e=x\/H e=some (.own x))(k:∀b u,b≠e->s.heap.get? b=some u->h'.get? b=some u)(q:∃u,h'.get? e=some u)
  (new:ObjOk X.prog X.w (upd H x o) h' x o):Inv X pins σ (upd H x o) {s with heap:=h',toks:=t'}:=I.un (Un.write F B k q) (I.hok.write F B k q new)
theorem Inv.pins_of(I:Inv X pins σ H s)(h:∀p∈pins',s.heap.get? p.1=some p.2/\H p.1=none/\p.1≠X.env.locals/\p.1∉X.fs/\∀v,p.2.data≠.cell v):Inv X pins' σ H s:=
 ⟨I.ok,I.os,I.bare,I.base,I.loc,I.cell,I.free,I.freeC,λp q=>(List.mem_append.mp q).elim (λz=>I.pin p (zbo _ z)) (h p),I.hok,I.len⟩
theorem wO{N:List Str}(q:N.Nodup){i j:Nat}{x:Str}(a:N[i]?=some x)(b:N[j]?=some x):i=j:=by
 obtain⟨h1,F⟩:=List.getElem?_eq_some_iff.mp a;obtain⟨h2,B⟩:=List.getElem?_eq_some_iff.mp b;exact(List.getElem_inj q).mp (F.trans B.symm)
theorem sR{M:Model}{A:YM}{E:Value->YE->Prop}{i:Nat}{x:Str}{v:V}{u:Value}{Q:Unit->YE->Prop}(I:Inv X pins σ H s)(hN:X.N.Nodup)(hi:X.N[i]?=some x)(U:Loc X.env.scope x)(r:RelV v u)
  (h:∀s',Inv X pins (σ.set i (some v)) H s'->(∃a,Z7 a s.heap s'.heap/\(a=X.env.locals\/X.env.cells.lookup x=some a))->Q () s') (hf:X.fn x=true\/X.env.scope.names.lookup x=some .local:=by first|exact .inl rfl|exact .inr rfl|assumption):wpAny M A (storeName X.env x u) Q E s:=by
 obtain⟨m,hn,hl⟩:=id I.loc;have aj:(X.env.scope.kind == .class || (X.env.scope.kind == .module && X.env.locals != X.env.globals))=false:=by rw[I.ok.kind];rfl
 have aa:i<σ.length:=by rw[I.len];exact(List.getElem?_eq_some_iff.mp hi).1
 have cne:=I.cne;have F:∀ {a:Addr} {h':Heap},(∃o,s.heap.get? a=some o/\H a=none)->Z7 a s.heap h'->HOk X.prog X.w H h':=λ{a h'} ha hs b ob e=>by
  obtain⟨_,_,W⟩:=ha;refine(I.hok b ob e).stay (λc w' J q=>(hs.2 c ?_).trans q) (λ_ q=>q) λ_ _ q=>q
  rintro rfl;rcases J with rfl|J
  ·rw[W]at e;cases e
  ·rw[W]at J;cases J
 rcases U with hk|hk
 ·refine wpAny_storeName_local hk hn (λh' aw hs=>?_) aj
  obtain⟨oL,_,_,as,_⟩:=id hn;refine h _ ⟨I.ok,I.os,I.bare,⟨λb o e n hb U=>?_,λb o e n hb U=>?_,I.base.free,λb o e U=>?_,I.base.tups,I.base.frzs,I.base.tbls⟩,⟨_,aw,λj y v' B Y e3=>?_⟩,λy c e=>?_,I.free,I.freeC,λp hp=>?_,F ⟨oL,as,I.free⟩ hs,by simpa using I.len⟩ ⟨_,hs,.inl rfl⟩
  ·exact(hs.2 b (ZE (ZN (YT e) I.ok.above))).trans (I.base.keep b o e n hb U)
  ·obtain⟨sl,B⟩:=I.base.slot b o e n hb U
   exact⟨sl,(hs.2 b (ZE (ZN (YT e) I.ok.above))).trans B⟩
  ·obtain⟨o',B⟩:=I.base.there b o e U
   exact⟨o',(hs.2 b (ZE (ZN (YT e) I.ok.above))).trans B⟩
  ·by_cases hj:j=i
   ·subst hj
    rw[hi]at B;cases B;rw[zco aa]at Y;cases Y;exact⟨u,r,.inl ⟨hk,by simp⟩⟩
   ·rw[zcp (ZH hj)]at Y
    obtain⟨u',r',q⟩:=hl j y v' B Y e3;refine⟨u',r',?_⟩;rcases q with⟨k,e⟩|⟨k,c,e,z⟩
    ·refine .inl ⟨k,?_⟩
     have:y≠x:=λe=>hj (wO hN B (e ▸ hi))
     simp[this,e]
    ·exact .inr ⟨k,c,e,z.sameBut hs (cne y c e)⟩
  ·obtain⟨w',z⟩:=I.cell y c e
   exact⟨w',z.sameBut hs (cne y c e)⟩
  ·obtain⟨e,n,ne,nf,d⟩:=I.pin p hp
   exact⟨(hs.2 p.1 ne).trans e,n,ne,nf,d⟩
 ·have ae:X.fn x=true:=by
   rcases hf with z|z
   ·exact z
   ·rw[z]at hk;cases hk
  obtain⟨c,J⟩:=I.ok.has x (.inl hk);obtain⟨w',z⟩:=I.cell x c J;refine wpAny_storeName_cell I.ok.kind hk J z (λh' af hs=>?_);obtain⟨oc,ai,ag⟩:=id z;refine h {s with heap:=h'} ⟨I.ok,I.os,I.bare,⟨λb o e n hb U=>?_,λb o e n hb U=>?_,I.base.free,λb o e U=>?_,I.base.tups,I.base.frzs,I.base.tbls⟩,⟨m,hn.sameBut hs (ZH (cne x c J)),λj y v' B Y e3=>?_⟩,λy c' e=>?_,I.free,I.freeC,λp hp=>?_,F ⟨oc,ai,I.freeC x c J⟩ hs,by simpa using I.len⟩ ⟨c,hs,.inr J⟩
  ·exact(hs.2 b (ZE (ZN (YT e) (I.ok.cab x c ae J)))).trans (I.base.keep b o e n hb U)
  ·obtain⟨sl,B⟩:=I.base.slot b o e n hb U
   exact⟨sl,(hs.2 b (ZE (ZN (YT e) (I.ok.cab x c ae J)))).trans B⟩
  ·obtain⟨o',B⟩:=I.base.there b o e U
   exact⟨o',(hs.2 b (ZE (ZN (YT e) (I.ok.cab x c ae J)))).trans B⟩
  ·by_cases hj:j=i
   ·subst hj
    rw[hi]at B;cases B;rw[zco aa]at Y;cases Y;exact⟨u,r,.inr ⟨.inl hk,c,J,af⟩⟩
   ·rw[zcp (ZH hj)]at Y
    obtain⟨u',r',q⟩:=hl j y v' B Y e3;refine⟨u',r',?_⟩;rcases q with q|⟨k,c',e,z'⟩
    ·exact .inl q
    ·refine .inr ⟨k,c',e,z'.sameBut hs ?_⟩
     rintro rfl;exact hj (wO hN B (I.ok.inj _ _ _ e J ▸ hi))
  ·by_cases ah:c'=c
   ·subst ah;exact⟨_,af⟩
   ·obtain⟨w2,z2⟩:=I.cell y c' e
    exact⟨w2,z2.sameBut hs ah⟩
  ·obtain⟨e,n,ne,nf,d⟩:=I.pin p hp
   refine⟨(hs.2 p.1 ?_).trans e,n,ne,nf,d⟩;intro q;rw[q,ai]at e;have q':oc=p.2:=ZI e;exact d w' (by rw[<- q'];exact ag)
theorem vS(I:Inv X pins σ H s)(B:X.N.Nodup)(hi:X.N[i]?=some x)(q:Loc X.env.scope x)(r:RelV v u)
  (h:∀s',Inv X pins (σ.set i (some v)) H s'->Q () s') (F:X.fn x=true\/X.env.scope.names.lookup x=some .local:=by first|exact .inl rfl|exact .inr rfl|assumption):wpAny M A (storeName X.env x u) Q E s:=
 sR I B hi q r (λs' J _=>h s' J) F
theorem Inv.call'(I:Inv X pins σ H s)(F:s'.os=s.os)(u:Un (frs X.stack) ch H H' s.heap s'.heap)(B:HOk X.prog X.w H' s'.heap)(J:zaJ s'.gens)
  (q:∀b∈ch,(b∈X.ex\/X.s₀.heap.objs.size<=b)/\b≠X.env.locals/\(∀x c,X.env.cells.lookup x=some c->c≠b)/\∀p∈X.pn++pins,p.1≠b):Inv X pins σ H' s':=by
 obtain⟨h',g',d',t',o'⟩:=s';have e:o'=s.os:=F;subst e;exact I.call (g':=g') (t':=t') (d':=d') u B J q
end
abbrev XK:=Value->Option Addr->Hp->Prop
abbrev St:=List (Option V)
abbrev VK:=V->Hp->Prop
abbrev TE:=St->Hp->VK->Prop
abbrev TT:=St->Hp->(Bool->Hp->Prop)->Prop
abbrev TA:=St->Hp->(List V->Hp->Prop)->Prop
structure Ends where
 nx:St->Hp->Prop
 rt:VK
 bk:St->Hp->Prop:=λ_ _=>False
 ct:St->Hp->Prop:=λ_ _=>False
abbrev TS:=Ends->St->Hp->Prop
inductive EP(X:Cx)(pins:List (Addr×Obj))(σ:St)(Q:VK)(u:Value)(s':YE):Prop
 | mk (v:V) (H':Hp) (i:Inv X pins σ H' s') (r:RelV v u) (q:Q v H'):EP X pins σ Q u s'
inductive TP(X:Cx)(pins:List (Addr×Obj))(σ:St)(Q:Bool->Hp->Prop)(b:Bool)(s':YE):Prop
 | mk (H':Hp) (i:Inv X pins σ H' s') (q:Q b H'):TP X pins σ Q b s'
inductive AP(X:Cx)(pins:List (Addr×Obj))(σ:St)(Q:List V->Hp->Prop)(us:List Value)(s':YE):Prop
 | mk (vs:List V) (H':Hp) (i:Inv X pins σ H' s') (r:Vals vs us) (q:Q vs H'):AP X pins σ Q us s'
def SP(X:Cx)(pins:List (Addr×Obj))(D:Ends)(f:Flow)(s':YE):Prop:=
 match f with
 | .next=>∃σ' H',Inv X pins σ' H' s'/\D.nx σ' H'
 | .brk=>∃σ' H',Inv X pins σ' H' s'/\D.bk σ' H'
 | .cont=>∃σ' H',Inv X pins σ' H' s'/\D.ct σ' H'
 | .ret u=>∃v σ' H',Inv X pins σ' H' s'/\RelV v u/\D.rt v H'
def PE(X:Cx)(e:Expr)(t:TE):Prop:=
 ∀(pins:List (Addr×Obj)) (s:YE) (σ:St) (H:Hp) (Q:VK),Inv X pins σ H s->t σ H Q->wpAny (model X.prog X.w) X.A (eval e X.env) (EP X pins σ Q) X.xe s
def PT(X:Cx)(e:Expr)(t:TT):Prop:=
 ∀(pins:List (Addr×Obj)) (s:YE) (σ:St) (H:Hp) (Q:Bool->Hp->Prop),Inv X pins σ H s->t σ H Q->wpAny (model X.prog X.w) X.A (isTrue e X.env (eval e X.env)) (TP X pins σ Q) X.xe s
def PW(X:Cx)(e:Expr)(t:TT):Prop:=
 ∀(whole:Sem Value) (pins:List (Addr×Obj)) (s:YE) (σ:St) (H:Hp) (Q:Bool->Hp->Prop),Inv X pins σ H s->t σ H Q->wpAny (model X.prog X.w) X.A (isTrue e X.env whole) (TP X pins σ Q) X.xe s
theorem PW.pt{X:Cx}{e:Expr}{t:TT}(h:PW X e t):PT X e t:=h _
def PA(X:Cx)(es:List Expr)(t:TA):Prop:=
 ∀(pos:Pos) (pins:List (Addr×Obj)) (s:YE) (σ:St) (H:Hp) (Q:List V->Hp->Prop),Inv X pins σ H s->t σ H Q->wpAny (model X.prog X.w) X.A (spliced (YO pos (YG es X.env))) (AP X pins σ Q) X.xe s
def PS(X:Cx)(st:Stmt)(t:TS):Prop:=
 ∀(pins:List (Addr×Obj)) (s:YE) (σ:St) (H:Hp) (D:Ends),Inv X pins σ H s->t D σ H->wpAny (model X.prog X.w) X.A (exec st X.env) (SP X pins D) X.xe s
def PSs(X:Cx)(st:List Stmt)(t:TS):Prop:=
 ∀(pins:List (Addr×Obj)) (s:YE) (σ:St) (H:Hp) (D:Ends),Inv X pins σ H s->t D σ H->wpAny (model X.prog X.w) X.A (execs st X.env) (SP X pins D) X.xe s
theorem bL{B:Type}{t:Sem B}{Q q:B->YE->Prop}{M:Model}{A:YM}{E:Value->YE->Prop}{s:YE}(h:wpAny M A t Q E s)(F:∀a s,Q a s->q a s):wpAny M A t q E s:=ZR h F λ_ _ x=>x
section
variable {X:Cx}
def d6(i:Nat):TE:=λσ H Q=>∃v,σ[i]?=some (some v)/\Q v H
def tC(v:V):TE:=λ_ H Q=>Q v H
theorem NV(U:X.N[i]?=some x)(Y:RB X.env.scope x)(F:(x == ("__debug__" : Str))=false:=by decide)(B:(x == ("__classdict__" : Str))=false:=by decide):PE X (.Name x pos) (d6 i):=by
 intro pins s σ H Q I h;obtain⟨v,e,h⟩:=h;obtain⟨m,hn,hl⟩:=I.loc;obtain⟨u,r,l⟩:=hl i x v U e Y;have fin:EP X pins σ Q u s:=⟨v,H,I,r,h⟩;rcases l with⟨hk,W⟩|⟨hk,c,J,q⟩
 ·exact wpAny_Name (wpAny_loadName_local I.ok.kind hk hn W fin) F
 ·rcases hk with hk|hk
  ·exact wpAny_Name (wpAny_loadName_cell I.ok.kind hk J q fin) F
  ·exact wpAny_Name (wpAny_loadName_free I.ok.kind hk J q fin B) F
theorem PX{i j pos}:PE X (.Constant (.int i) j pos) (tC (.int i)):=λ_ _ _ H _ I h=>wpAny_Constant_int ⟨.int i,H,I.tok _,⟨_,rfl⟩,h⟩
theorem SI{b j pos}:PE X (.Constant (.bool b) j pos) (tC (.bl b)):=λ_ _ _ H _ I h=>Constant_bool ⟨.bl b,H,I,rfl,h⟩
theorem M5{j pos}:PE X (.Constant .none j pos) (tC .non):=λ_ _ _ H _ I h=>Constant_none ⟨.non,H,I,rfl,h⟩
theorem PN{x j pos}:PE X (.Constant (.str x) j pos) (tC (.str x)):=λ_ _ _ H _ I h=>Calls.Constant_str ⟨.str x,H,I.tok _,⟨_,rfl⟩,h⟩
def Gl(X:Cx)(x:Str):Prop:=X.env.kindOf x=some .globalImplicit
theorem jT(I:Inv X pins σ H s)(B:Gl X x)(F:X.mg x=some u)(h:Q u s)
  (q:(x == ("__debug__" : Str))=false:=by decide):wpAny (model X.prog X.w) X.A (eval (.Name x pos) X.env) Q E s:=
 Calls.Name_function_global I.ok.kind B (Calls.loadGlobal_global (by rw[I.ok.glob];exact I.mod.glob.keeps I.bk) F h) q
theorem kQ{E:Value->YE->Prop}{pins:List (Addr×Obj)}{s:YE}{σ:St}{H:Hp}{x:Str}{u:Value}{pos:Pos}{Q:Value->YE->Prop}(I:Inv X pins σ H s)(J:Gl X x)(q:X.mg x=none)(B:ZA x=some u)(h:Q u s)
  (N:x ≠ "__name__" := by decide) (F:(x == ("__debug__" : Str))=false:=by decide):wpAny (model X.prog X.w) X.A (eval (.Name x pos) X.env) Q E s:=by
 obtain⟨U,h1,h2⟩:=I.mod.blt;exact Calls.Name_function_global I.ok.kind J (Calls.loadGlobal_builtin (by rw[I.ok.glob];exact I.mod.glob.keeps I.bk) q (by rw[I.ok.blt];exact h1.keeps I.bk) ((h2 x N).trans B) h) F
theorem uF(B:Gl X x)(F:X.mg x=some u)(r:RelV v u)(q:(x == ("__debug__" : Str))=false:=by decide):PE X (.Name x pos) (tC v):=
 λ_ _ _ H _ I h=>jT I B F ⟨v,H,I,r,h⟩ q
theorem KU(J:Gl X x)(q:X.mg x=none)(B:ZA x=some u)(r:RelV v u)(N:x ≠ "__name__" := by decide)(F:(x == ("__debug__" : Str))=false:=by decide):PE X (.Name x pos) (tC v):=
 λ_ _ _ H _ I h=>kQ I J q B ⟨v,H,I,r,h⟩ N F
variable {a b:Expr}{ta tb:TE}{pos:Pos}
def PC(X:Cx)(op:CmpOp)(a b:Expr)(t:TE):Prop:=
 ∀(pins:List (Addr×Obj)) (s:YE) (σ:St) (H:Hp) (Q:VK),Inv X pins σ H s->t σ H Q->
  wpAny (model X.prog X.w) X.A (eval a X.env) (λv B=>wpAny (model X.prog X.w) X.A (eval b X.env) (λu q=>wpAny (model X.prog X.w) X.A (YR op v u) (EP X pins σ Q) X.xe q) X.xe B) X.xe s
def tB(t:TE):TT:=λσ H Q=>t σ H λx H1=>∃c,x=.bl c/\Q c H1
theorem M1{op:CmpOp}{t:TE}(h:PC X op a b t)(h1:zae op b=false:=by first|exact nobehind _ (by decide) (by decide)|rfl):PT X (.Compare a [op] [b] pos) (tB t):=by
 intro pins s σ H Q I hw;refine wpAny_isTrue_Compare1 (bL (h pins s σ H _ I hw) λv N h1=>bL h1 λu U h2=>bL h2 λc J ⟨x,H1,B,F,q1⟩=>?_) h1;obtain⟨d,rfl,q⟩:=q1;cases F;exact zai ⟨H1,B,q⟩
theorem OD{e:Expr}{t:TE}(h:PE X e t)(F:∀B,isTrue e X.env B=(do let v <- B;standAt e.pos;holding [v] (truthy v)):=by intro _;rfl):PT X e (tB t):=by
 intro pins s σ H Q I hw;refine isTrue_plain (bL (h pins s σ H _ I hw) λv U ⟨x,H1,J,N,q1⟩=>?_) (F _);obtain⟨d,rfl,q⟩:=q1;cases N;exact zai ⟨H1,J,q⟩
variable {tA tB':TT}{rest:List Expr}
def V1(t u:TT):TT:=λσ H Q=>t σ H λc H1=>if c=true then u σ H1 Q else Q false H1
def XU(t u:TT):TT:=λσ H Q=>t σ H λc H1=>if c=true then Q true H1 else u σ H1 Q
def V0(t:TT):TT:=λσ H Q=>t σ H λc H1=>Q (!c) H1
theorem IZ(ha:PT X a tA):PW X (.BoolOp .And [a] pos) tA:=by
 intro B pins s σ H Q I h;refine isTrue_and (bL (ha pins s σ H Q I h) λc q e=>?_);cases c with
 | true=>exact isTrue_and_nil e
 | false=>exact e
theorem P9(ha:PT X a tA):PW X (.BoolOp .Or [a] pos) tA:=by
 intro B pins s σ H Q I h;refine isTrue_or (bL (ha pins s σ H Q I h) λc q e=>?_);cases c with
 | false=>exact isTrue_or_nil e
 | true=>exact e
theorem NP(ha:PT X a tA)(F:PW X (.BoolOp .And (b::rest) pos) tB'):PW X (.BoolOp .And (a::b::rest) pos) (V1 tA tB'):=by
 intro J pins s σ H Q I h;refine isTrue_and (bL (ha pins s σ H _ I h) λc B ⟨H1,q,q1⟩=>?_);cases c with
 | true=>exact F J pins B σ H1 Q q q1
 | false=>exact⟨H1,q,q1⟩
theorem RW(ha:PT X a tA)(F:PW X (.BoolOp .Or (b::rest) pos) tB'):PW X (.BoolOp .Or (a::b::rest) pos) (XU tA tB'):=by
 intro J pins s σ H Q I h;refine isTrue_or (bL (ha pins s σ H _ I h) λc B ⟨H1,q,q1⟩=>?_);cases c with
 | true=>exact⟨H1,q,q1⟩
 | false=>exact F J pins B σ H1 Q q q1
theorem NS(ha:PT X a tA):PT X (.UnaryOp .Not a pos) (V0 tA):=by
 intro pins s σ H Q I h;exact isTrue_not (bL (ha pins s σ H (λc H1=>Q (!c) H1) I h) λ_ _ ⟨H',i,q⟩=>⟨H',i,q⟩)
def SZ(ta tb:TE):TE:=λσ H Q=>ta σ H λx H1=>∃c,x=.bl c/\if c=true then tb σ H1 Q else Q (.bl false) H1
def VP(ta tb:TE):TE:=λσ H Q=>ta σ H λx H1=>∃c,x=.bl c/\if c=true then Q (.bl true) H1 else tb σ H1 Q
def SG(ta:TE):TE:=λσ H Q=>ta σ H λx H1=>∃c,x=.bl c/\Q (.bl (!c)) H1
theorem QE{op}(h:PE X a t):PE X (.BoolOp op [a] pos) t:=λpins s σ H Q I hw=>BoolOp_one (h pins s σ H Q I hw)
theorem O9(ha:PE X a ta)(F:PE X (.BoolOp .And (b::rest) pos) tb):PE X (.BoolOp .And (a::b::rest) pos) (SZ ta tb):=by
 intro pins s σ H Q I h;refine BoolOp_and (bL (ha pins s σ H _ I h) λv B ⟨x,H1,q,J,q1⟩=>?_);obtain⟨c,rfl,q1⟩:=q1;cases J;refine zai ?_;cases c with
 | true=>exact F pins B σ H1 Q q q1
 | false=>exact⟨.bl false,H1,q,rfl,q1⟩
theorem RZ(ha:PE X a ta)(F:PE X (.BoolOp .Or (b::rest) pos) tb):PE X (.BoolOp .Or (a::b::rest) pos) (VP ta tb):=by
 intro pins s σ H Q I h;refine BoolOp_or (bL (ha pins s σ H _ I h) λv B ⟨x,H1,q,J,q1⟩=>?_);obtain⟨c,rfl,q1⟩:=q1;cases J;refine zai ?_;cases c with
 | false=>exact F pins B σ H1 Q q q1
 | true=>exact⟨.bl true,H1,q,rfl,q1⟩
theorem NO(ha:PE X a ta):PE X (.UnaryOp .Not a pos) (SG ta):=by
 intro pins s σ H Q I h;refine UnaryOp_ (bL (ha pins s σ H _ I h) λv F ⟨x,H1,q,B,q1⟩=>?_);obtain⟨c,rfl,q1⟩:=q1;cases B;exact not_of (zai ⟨.bl (!c),H1,q,rfl,q1⟩)
def X2(t:TT)(ta tb:TE):TE:=λσ H Q=>t σ H λc H1=>if c=true then ta σ H1 Q else tb σ H1 Q
theorem E8{c:Expr}(F:PT X c tA)(ha:PE X a ta)(J:PE X b tb):PE X (.IfExp c a b pos) (X2 tA ta tb):=by
 intro pins s σ H Q I h;refine wpAny_IfExp (bL (F pins s σ H _ I h) λd B ⟨H1,q,q1⟩=>?_);cases d with
 | true=>exact ha pins B σ H1 Q q q1
 | false=>exact J pins B σ H1 Q q q1
end
def SqL(K:YH)(H:Hp)(a:Addr)(xs:List V):Prop:=
 Rd H a (.lst xs) \/
  ∃(o:Obj) (its:Array Value) (n:Nat),K.lookup a=some o/\o.cls=.type "list" /\ o.dict=none/\o.data=.seq its n/\its.size<=YN/\Vals xs its.toList
def SqT(K:YH)(H:Hp)(a:Addr)(xs:List V):Prop:=
 Rd H a (.tup xs) \/
  ∃(o:Obj) (its:Array Value) (n:Nat),K.lookup a=some o/\o.cls=.type "tuple" /\ o.data=.seq its n/\its.size<=YN/\Vals xs its.toList
noncomputable def WT:Value->Option V
 | .none=>some .non
 | .bool b=>some (.bl b)
 | .int i _=>some (.int i)
 | .str x _=>some (.str x)
 | .bytes b _=>some (.byt b)
 | .float b _=>some (.flt b)
 | .ref a=>some (.ref a)
 | .type n=>some (.ty n)
 | _=>none
theorem RelV.abs(r:RelV x u):WT u=some x:=by
 cases x with
 | non=>cases r;rfl
 | bl _=>cases r;rfl
 | int _=>obtain⟨t,rfl⟩:=r;rfl
 | str _=>obtain⟨t,rfl⟩:=r;rfl
 | byt _=>obtain⟨t,rfl⟩:=r;rfl
 | flt _=>obtain⟨t,rfl⟩:=r;rfl
 | ref _=>cases r;rfl
 | ty _=>cases r;rfl
theorem RelV.inj(r:RelV x u)(q:RelV y u):x=y:=ZI (r.abs.symm.trans q.abs)
theorem Vals.inj:∀ {xs ys:List V} {us:List Value},Vals xs us->Vals ys us->xs=ys
 | _,_,_,.nil,.nil=>rfl
 | _,_,_,.cons r t,.cons r' t'=>by rw[r.inj r',Vals.inj t t']
section
variable {X:Cx}{pins:List (Addr×Obj)}{σ:St}{H:Hp}{s:YE}{a:Addr}{xs ys:List V}
theorem SqL.of{K:YH}(h:H a=some (.lst xs)):SqL K H a xs:=.inl (.inl h)
theorem SqT.of{K:YH}(h:H a=some (.tup xs)):SqT K H a xs:=.inl (.inl h)
theorem Inv.list(I:Inv X pins σ H s)(h:SqL X.K H a xs):∃q:List Value,Vals xs q/\PlainL s.heap a q.toArray/\xs.length<=YN:=by
 rcases h with h|⟨o,q,n,hk,B,F,hs,J,r⟩
 ·obtain⟨z,q,n,r,e⟩:=h.ok I.hok
  exact⟨q,r,⟨_,n,e,rfl,rfl,rfl⟩,z⟩
 ·refine⟨q.toList,r,⟨o,n,I.kIn a o hk,B,F,by simpa using hs⟩,?_⟩
  have e:=r.length;simp only[zaK]at e
  lia
theorem Inv.tuple(I:Inv X pins σ H s)(h:SqT X.K H a xs):∃q:List Value,Vals xs q/\IsTup s.heap a q.toArray/\xs.length<=YN:=by
 rcases h with h|⟨o,q,n,hk,B,hs,F,r⟩
 ·obtain⟨z,q,r,p⟩:=h.ok I.hok
  exact⟨q,r,p.tup,z⟩
 ·refine⟨q.toList,r,⟨o,I.kIn a o hk,B,n,by simpa using hs⟩,?_⟩
  have e:=r.length;simp only[zaK]at e
  lia
theorem Inv.list_inj(I:Inv X pins σ H s)(h:SqL X.K H a xs)(h':SqL X.K H a ys):xs=ys:=by
 obtain⟨q,r,⟨o,n,e,_,_,d⟩,_⟩:=I.list h;obtain⟨its',F,⟨o',J,B,_,_,d'⟩,_⟩:=I.list h';rw[e]at B;cases B;rw[d]at d';injection d' with d1 _
 have:q=its':=by simpa using congrArg Array.toList d1
 subst this;exact r.inj F
theorem Inv.tuple_inj(I:Inv X pins σ H s)(h:SqT X.K H a xs)(h':SqT X.K H a ys):xs=ys:=by
 obtain⟨q,r,⟨o,e,_,n,d⟩,_⟩:=I.tuple h;obtain⟨its',F,⟨o',B,_,J,d'⟩,_⟩:=I.tuple h';rw[e]at B;cases B;rw[d]at d';injection d' with d1 _
 have:q=its':=by simpa using congrArg Array.toList d1
 subst this;exact r.inj F
end
abbrev Cx.wish(X:Cx)(E:Value->YE->Prop):Cx:={X with xe:=E}
abbrev Cx.nox(X:Cx):Cx:=X.wish λ_ _=>False
theorem Cx.Ok.wish{X:Cx}(ok:X.Ok)(E:Value->YE->Prop):(X.wish E).Ok:=
 ⟨ok.mod,ok.kind,ok.glob,ok.blt,ok.above,ok.inj,ok.has,ok.cab,ok.hd,ok.frames,ok.stk,ok.exf,ok.bs,ok.bsz,ok.noex,ok.exfs,ok.funs,ok.frf⟩
theorem Cx.Ok.unwish{X:Cx}{E:Value->YE->Prop}(ok:(X.wish E).Ok):X.Ok:=
 ⟨ok.mod,ok.kind,ok.glob,ok.blt,ok.above,ok.inj,ok.has,ok.cab,ok.hd,ok.frames,ok.stk,ok.exf,ok.bs,ok.bsz,ok.noex,ok.exfs,ok.funs,ok.frf⟩
section
variable {X:Cx}{pins:List (Addr×Obj)}{σ:St}{H:Hp}{s:YE}{E:Value->YE->Prop}
theorem Inv.wish(I:Inv X pins σ H s)(E:Value->YE->Prop):Inv (X.wish E) pins σ H s:=⟨I.ok.wish E,I.os,I.bare,I.base,I.loc,I.cell,I.free,I.freeC,I.pin,I.hok,I.len⟩
theorem Inv.unwish(I:Inv (X.wish E) pins σ H s):Inv X pins σ H s:=⟨I.ok.unwish,I.os,I.bare,I.base,I.loc,I.cell,I.free,I.freeC,I.pin,I.hok,I.len⟩
theorem SP.unwish(h:SP (X.wish E) pins D f s'):SP X pins D f s':=by
 cases f with
 | next=>obtain⟨B,H',I,q⟩:=h;exact⟨B,H',I.unwish,q⟩
 | brk=>obtain⟨B,H',I,q⟩:=h;exact⟨B,H',I.unwish,q⟩
 | cont=>obtain⟨B,H',I,q⟩:=h;exact⟨B,H',I.unwish,q⟩
 | ret u=>obtain⟨v,B,H',I,r,q⟩:=h;exact⟨v,B,H',I.unwish,r,q⟩
theorem PE.nox(h:PE X.nox e t):PE X e t:=λpins s σ H Q I hw=>
 ZR (h pins s σ H Q (I.wish _) hw) (λ_ _ ⟨v,H',B,r,q⟩=>⟨v,H',B.unwish,r,q⟩) λ_ _ z=>ZT z
theorem PT.nox(h:PT X.nox e t):PT X e t:=λpins s σ H Q I hw=>
 ZR (h pins s σ H Q (I.wish _) hw) (λ_ _ ⟨H',B,q⟩=>⟨H',B.unwish,q⟩) λ_ _ z=>ZT z
theorem PSs.nox{st:List Stmt}{t:TS}(h:PSs X.nox st t):PSs X st t:=λpins s σ H D I hw=>
 ZR (h pins s σ H D (I.wish _) hw) (λ_ _ q=>q.unwish) λ_ _ z=>ZT z
end
section
variable {X:Cx}{st:Stmt}{rest:List Stmt}{t u:TS}{e:Expr}{te:TE}{pos:Pos}
def RT:TS:=λD σ H=>D.nx σ H
def UC(t u:TS):TS:=λD σ H=>t {D with nx:=u D} σ H
theorem uJ:PSs X [] RT:=λ_ _ σ H _ I h=>zbF ⟨σ,H,I,h⟩
theorem lP(h1:PS X st t)(h2:PSs X rest u):PSs X (st::rest) (UC t u):=by
 intro pins s σ H D I h;refine wpAny_execs_cons (bL (h1 pins s σ H {D with nx:=u D} I h) λf F q=>?_);cases f with
 | next=>
  obtain⟨B,H',J,q⟩:=q;exact h2 pins F B H' D J q
 | ret v=>exact q
 | brk=>exact q
 | cont=>exact q
theorem o7(h1:PS X st t):PSs X [st] t:=by
 intro pins s σ H D I h;refine wpAny_execs_cons (bL (h1 pins s σ H D I h) λf B q=>?_);cases f with
 | next=>exact zbF q
 | ret v=>exact q
 | brk=>exact q
 | cont=>exact q
theorem Inv.quiet(I:Inv X pins σ H s):interactive X.env=false:=by simp[interactive,I.ok.kind]
def SK(te:TE):TS:=λD σ H=>te σ H λ_ H1=>D.nx σ H1
theorem lU(q:PE X e te)(hs:Y3 e none pos.line X.env=pure false:=by rfl):PS X (.Expr e pos) (SK te):=by
 intro pins s σ H D I h;exact wpAny_Expr_any (bL (q pins s σ H _ I h) λv F ⟨x,H1,B,J,q1⟩=>⟨σ,H1,B,q1⟩) I.quiet hs
def WR(te:TE):TS:=λD σ H=>te σ H D.rt
theorem qU(q:PE X e te):PS X (.Return (some e) pos) (WR te):=by
 intro pins s σ H D I h;exact wpAny_Return_some (bL (q pins s σ H _ I h) λv J ⟨x,H1,B,F,q1⟩=>⟨x,σ,H1,B,F,q1⟩)
def S4:TS:=λD _ H=>D.rt .non H
theorem IR:PS X (.Return none pos) S4:=λ_ _ σ H _ I h=>wpAny_Return_none ⟨.non,σ,H,I,rfl,h⟩
def WM(c:TT)(t u:TS):TS:=λD σ H=>c σ H λb H1=>if b=true then t D σ H1 else u D σ H1
theorem HF{c:Expr}{a b:List Stmt}{tc:TT}(F:PT X c tc)(ha:PSs X a t)(J:PSs X b u):PS X (.If c a b pos) (WM tc t u):=by
 intro pins s σ H D I h;refine wpAny_If (bL (F pins s σ H _ I h) λd B ⟨H1,q,q1⟩=>?_);cases d with
 | true=>exact ha pins B σ H1 D q q1
 | false=>exact J pins B σ H1 D q q1
end
abbrev TG:=V->St->Hp->(St->Hp->Prop)->Prop
abbrev Q8:=List V->St->Hp->(St->Hp->Prop)->Prop
def PG(X:Cx)(q:Expr)(t:TG):Prop:=
 ∀(pins:List (Addr×Obj)) (s:YE) (σ:St) (H:Hp) (v:V) (u:Value) (Q:St->Hp->Prop),Inv X pins σ H s->RelV v u->t v σ H Q->
  wpAny (model X.prog X.w) X.A (zau q X.env u) (λ_ s'=>∃B H',Inv X pins B H' s'/\Q B H') X.xe s
def PGs(X:Cx)(B:List Expr)(t:Q8):Prop:=
 ∀(pins:List (Addr×Obj)) (s:YE) (σ:St) (H:Hp) (vs:List V) (us:List Value) (Q:St->Hp->Prop),Inv X pins σ H s->Vals vs us->t vs σ H Q->
  wpAny (model X.prog X.w) X.A (assignInOrder ((zav B X.env).map (·.2)) us) (λ_ s'=>∃q H',Inv X pins q H' s'/\Q q H') X.xe s
abbrev HP:=V->V->V->Hp->(Hp->Prop)->Prop
def LJ(X:Cx)(t:HP):Prop:=
 ∀(pins:List (Addr×Obj)) (s:YE) (σ:St) (H:Hp) (o i v:V) (ov iv u:Value) (Q:Hp->Prop),Inv X pins σ H s->RelV o ov->RelV i iv->RelV v u->t o i v H Q->
  wpAny (model X.prog X.w) X.A (setItem ov iv u) (λ_ s'=>∃H',Inv X pins σ H' s'/\Q H') X.xe s
section
variable {X:Cx}{pos:Pos}
def kG(i:Nat):TG:=λv σ H Q=>Q (σ.set i (some v)) H
theorem uA(B:X.N.Nodup)(hi:X.N[i]?=some x)(q:Loc X.env.scope x)(F:X.fn x=true\/X.env.scope.names.lookup x=some .local:=by first|exact .inl rfl|exact .inr rfl|assumption):PG X (.Name x pos) (kG i):=by
 intro pins s σ H v u Q I r h;exact wpAny_assign_Name (vS I B hi q r (λs' J=>⟨_,H,J,h⟩) F)
def VL:Q8:=λvs σ H Q=>vs=[]/\Q σ H
def L7(t:TG)(u:Q8):Q8:=λvs σ H Q=>∃v r,vs=v::r/\t v σ H λq H'=>u r q H' Q
theorem K1:PGs X [] VL:=by
 intro pins s σ H vs q Q I r h;obtain⟨e,h⟩:=h;subst e;cases r;exact assignInOrder_nil ⟨σ,H,I,h⟩
theorem DP{e:Expr}{es:List Expr}{t:TG}{u:Q8}(h1:PG X e t)(h2:PGs X es u)
  (hs:(zav (e::es) X.env).map (·.2)=zau e X.env::(zav es X.env).map (·.2):=by rfl):PGs X (e::es) (L7 t u):=by
 intro pins s σ H vs U Q I r h;obtain⟨v,N,J,h⟩:=h;subst J;cases r with
 | cons r rr=>
  rw[hs];refine assignInOrder_cons (bL (h1 pins s σ H _ _ _ I r h) λ_ F ⟨q,H1,B,q1⟩=>?_);exact h2 pins F q H1 _ _ Q B rr q1
def UL(K:YH)(n:Nat)(t:Q8):TG:=λv σ H Q=>∃a xs,v=.ref a/\SqT K H a xs/\xs.length=n/\t xs σ H Q
theorem P0(J:X.calm=true)(h:PGs X es t)
  (hn:(zav es X.env).length=n:=by rfl) (q:(zav es X.env).findIdx? (·.1)=none:=by rfl):PG X (.Tuple es k pos) (UL X.K n t):=by
 intro pins s σ H v u Q I r hw;obtain⟨a,xs,e1,hq,Y,hw⟩:=hw;subst e1;cases r;obtain⟨N,B,W,hz⟩:=I.tuple hq;refine assign_Tuple_tuple (I.ok.hd J) W (by simp[hn,<- Y,B.length]) q λh' U=>?_
 have F:Inv X pins σ H {s with heap:=h'}:=I.kept (t':=s.toks) λb o e=>U b o (ZE (YT e)) e
 exact h pins _ σ H xs _ Q F (by simpa using B) hw
def QO(to B:TE)(t:HP):TG:=λv σ H Q=>to σ H λo H1=>B σ H1 λi H2=>t o i v H2 λq=>Q σ q
theorem FX{o i:Expr}{to F:TE}{t:HP}(ho:PE X o to)(hi:PE X i F)(hs:LJ X t)
  (ha:∀v, zau (.Subscript o i pos) X.env v = (do
   let q <- holding [v] (eval o X.env);let B <- holding [v,q] (eval i X.env)
   standAt pos
   holding [v,q,B] (setItem q B v)
   release [v,q,B] []):=by intro _;rfl):PG X (.Subscript o i pos) (QO to F t):=by
 intro pins s σ H v u Q I r h;rw[ha];refine YF (zaR (bL (ho pins s σ H _ I h) λq Y ⟨x,H1,J,r1,q1⟩=>?_));refine YF (zaR (bL (hi pins Y σ H1 _ J q1) λB s2 ⟨y,H2,N,W,q2⟩=>?_));refine YF (zbG (YF (zaR (bL (hs pins s2 σ H2 x y v q B u _ N r1 W r q2) λ_ s3 ⟨U,I3,q3⟩=>?_))));exact wpAny_release ⟨σ,U,I3,q3⟩
def zL(te:TE)(g:TG):TS:=λD σ H=>te σ H λx H1=>g x σ H1 D.nx
theorem P7{tg e:Expr}{te:TE}{g:TG}(B:PE X e te)(U:PG X tg g)(hs:swapsWithSole [tg] e pos.line X.env=pure false:=by rfl)(hw:swappedStores [tg] e X.env=pure none:=by rfl)
  (h1:(zav [tg] X.env).map (·.2)=[zau tg X.env]:=by rfl):PS X (.Assign [tg] e pos) (zL te g):=by
 intro pins s σ H D I h;refine wpAny_Assign_stores (bL (B pins s σ H _ I h) λv J ⟨x,H1,F,N,q1⟩=>?_) hs hw;rw[h1];exact bL (U pins J σ H1 x v _ F N q1) λ_ W q=>q
theorem jF{i:Nat}{x:Str}{e:Expr}{te:TE}{pos':Pos}(J:X.N.Nodup)(hi:X.N[i]?=some x)(U:Loc X.env.scope x)(q:PE X e te)(hs:Y3 e (some (.Name x pos')) pos.line X.env=pure false:=by rfl)(Y:X.fn x=true\/X.env.scope.names.lookup x=some .local:=by first|exact .inl rfl|exact .inr rfl|assumption) :
  PS X (.Assign [.Name x pos'] e pos) (zL te (kG i)):=by
 intro pins s σ H D I h;refine wpAny_Assign_Name (bL (q pins s σ H _ I h) λv s1 ⟨y,H1,B,W,q1⟩=>?_) hs;exact vS B J hi U W (λs2 F=>⟨_,H1,F,q1⟩) Y
end
section
variable {X:Cx}{pos:Pos}
def QA(c:TT)(tb:TS):TS:=λD σ H=>∃W:Nat->St->Hp->Prop,(∃m,W m σ H)/\∀m σ H,W m σ H->
 c σ H λb H1=>if b=true then ∃N:St->Hp->Prop,(∀q H',N q H'->∃B,B<m/\W B q H')/\tb {D with nx:=N,ct:=N,bk:=D.nx} σ H1 else D.nx σ H1
theorem DR{c:Expr}{F:List Stmt}{tc:TT}{tb:TS}(hp:zba (model X.prog X.w) X.A X.env X.xe)(hc:PT X c tc)(hb:PSs X F tb):PS X (.While c F [] pos) (QA tc tb):=by
 intro pins s σ H D I h;obtain⟨W,⟨m0,w0⟩,turn⟩:=h;refine wpAny_While (codeAny_whileLoop (λn s'=>∃U H',Inv X pins U H' s'/\W n U H') ?_ m0 ⟨σ,H,I,w0⟩);rintro n s1 ⟨B,H1,I1,w1⟩;refine za0 hp (bL (hc pins s1 B H1 _ I1 (turn n B H1 w1)) λb s2 ⟨H2,I2,q2⟩=>?_);cases b with
 | true=>
  obtain⟨N,hN,q2⟩:=q2;rw[if_pos rfl];refine za0 hp (bL (hb pins s2 B H2 _ I2 q2) λf s3 q3=>?_);cases f with
  | next=>
   obtain⟨q,J,I3,n3⟩:=q3;obtain⟨Y,hm,w3⟩:=hN q J n3;exact⟨Y,hm,q,J,I3,w3⟩
  | cont=>
   obtain⟨q,J,I3,n3⟩:=q3;obtain⟨Y,hm,w3⟩:=hN q J n3;exact⟨Y,hm,q,J,I3,w3⟩
  | brk=>exact q3
  | ret v=>exact q3
 | false=>
  rw[if_neg YX];exact zbF ⟨B,H2,I2,q2⟩
end
structure It where
 go:Nat->Hp->Prop
 yld:Nat->Hp->V->Hp->Prop
 stop:Nat->Hp->Prop
def jW(X:Cx)(pins:List (Addr×Obj))(H:Hp)(b:Addr):Prop:=
 H b=none/\b≠X.env.locals/\b∉X.fs/\(b∈X.ex\/X.s₀.heap.objs.size<=b)/\(∀x c,X.env.cells.lookup x=some c->c≠b)/\∀p∈X.pn++pins,p.1≠b
theorem Inv.fpOk(I:Inv X pins σ H s)(B:s.heap.objs.size<=b)(J:H' b=none):jW X pins H' b:=by
 refine⟨J,zbb (ZN I.lt B),I.nofs B,.inr (ZF I.sz B),λx c e z=>?_,λp F z=>?_⟩
 ·obtain⟨v,q⟩:=I.cell x c e
  exact absurd (ZN q.lt (by rw[z];exact B)) (zat _)
 ·exact absurd (ZN (YT (I.pin p F).1) (by rw[z];exact B)) (zat _)
structure Turn(P:YK)(w:World)(K:YH)(tg:Expr)(J:It)(fp:List Addr)(it:Addr)(tn:Nat->Heap->Prop):Prop where
 mem:it∈fp
 obj:∀i h,tn i h->∀b∈fp,∃o,h.get? b=some o/\∀v,o.data≠.cell v
 keep:∀i h h',tn i h->(∀b∈fp,∀o,h.get? b=some o->h'.get? b=some o)->tn i h'
 item:∀(X:Cx),X.prog=P->X.w=w->X.K=K->X.calm=true->∀(i:Nat) (pins:List (Addr×Obj)) (s:YE) (σ:St) (H:Hp) (E:Value->YE->Prop),Inv X pins σ H s->(∀b∈fp,jW X pins H b)->tn i s.heap->J.go i H->
  wpAny (model P w) X.A (Z8 (.ref it)) (λr s1=>∃u,r=some u /\
   wpAny (model P w) X.A (zbH tg (.ref it) u) (λ_ s2=>∃x H',Inv X pins σ H' s2/\RelV x u/\J.yld i H x H'/\tn (i+1) s2.heap/\∀b∈fp,H' b=none) E s1) E s
 done:∀(X:Cx),X.prog=P->X.w=w->X.K=K->X.calm=true->∀(i:Nat) (pins:List (Addr×Obj)) (s:YE) (σ:St) (H:Hp) (E:Value->YE->Prop),Inv X pins σ H s->(∀b∈fp,jW X pins H b)->tn i s.heap->J.stop i H->
  wpAny (model P w) X.A (Z8 (.ref it)) (λr s1=>r=none/\Inv X pins σ H s1) E s
 self:∀(A:YM) (i:Nat) (s:YE) (Q:Value->YE->Prop) (E:Value->YE->Prop),tn i s.heap->Q (.ref it) s->wpAny (model P w) A (pyIter (.ref it)) Q E s
abbrev TI:=St->Hp->(It->Hp->Prop)->Prop
def PIE(X:Cx)(pins:List (Addr×Obj))(σ:St)(tg:Expr)(R:It->Hp->Prop)(q:Value)(B:YE):Prop:=
 ∃(it:Addr) (fp:List Addr) (tn:Nat->Heap->Prop) (J:It) (H':Hp),q=.ref it/\Inv X pins σ H' B/\Turn X.prog X.w X.K tg J fp it tn/\tn 0 B.heap/\(∀b∈fp,jW X pins H' b)/\R J H'
def PI(X:Cx)(tg q:Expr)(wi:TI):Prop:=
 ∀(pins:List (Addr×Obj)) (s:YE) (σ:St) (H:Hp) (R:It->Hp->Prop),Inv X pins σ H s->wi σ H R->
  wpAny (model X.prog X.w) X.A (eval q X.env) (λv B=>wpAny (model X.prog X.w) X.A (pyIter v) (PIE X pins σ tg R) X.xe B) X.xe s
theorem q0(J:s.heap.get? it=some o)(B:o.cls=.type n)(F:o.data=.fields vs)
    (N:["enumerate", "zip", "dict_itemiterator", "dict_reverseitemiterator", "odict_iterator", "itertools.zip_longest", "itertools.pairwise"].contains n=false) (q:Q () s):wpAny M A (zbH tg (.ref it) u) Q E s:=by
  unfold zbH;cases tg <;> first
    | exact YL q
    | (cases u <;> first
        | exact YL q
        | (refine YF (wpAny_load J ?_)
           rw[B,F];show wpAny M A (if(["enumerate", "zip", "dict_itemiterator", "dict_reverseitemiterator", "odict_iterator", "itertools.zip_longest", "itertools.pairwise"].contains n && vs[0]? == some (zaf _))=true then _ else _) Q E s;rw[if_neg (by intro h;rw[N,Bool.false_and]at h;cases h)];exact YL q))
def W9(K:YH)(a:Addr):It:=
 ⟨λi H=>∃xs x,SqL K H a xs/\xs[i]?=some x,λi H x H'=>H'=H/\∀xs,SqL K H a xs->xs[i]?=some x,λi H=>∃xs,SqL K H a xs/\xs.length<=i⟩
def W1(K:YH)(a:Addr):It:=
 ⟨λi H=>∃xs x,SqT K H a xs/\xs[i]?=some x,λi H x H'=>H'=H/\∀xs,SqT K H a xs->xs[i]?=some x,λi H=>∃xs,SqT K H a xs/\xs.length<=i⟩
noncomputable def VA(lo:Int)(n:Nat):It:=⟨λi _=>i<n,λi H x H'=>H'=H/\x=.int (lo+i),λi _=>n<=i⟩
theorem BW{P:YK}{w:World}{K:YH}{tg:Expr}(a it:Addr):Turn P w K tg (W9 K a) [it] it (λi h=>h.IsListIter it a i) where
 mem:=by simp
 obj:=λi h st b q=>by
  have e:b=it:=by simpa using q
  subst e;obtain⟨o,e,c,d⟩:=st;exact⟨o,e,λv z=>by rw[d]at z;cases z⟩
 keep:=λi h h' st k=>st.at λo e=>k it (by simp) o e
 item:=by
  intro X hP hw N hc i pins s σ H E I J st hg;subst hP hw N;obtain⟨xs,x,F,Y⟩:=hg;obtain⟨W,rv,p,hz⟩:=I.list F;obtain⟨u,hu,ru⟩:=rv.get Y;obtain⟨f0,f1,f2,U,f4,f5⟩:=J it (by simp);refine wpAny_pyNext_list_item st p.isList (x:=u) (by simpa using hu) λh' B sb=>?_
  have I1:Inv X pins σ H {s with heap:=h'}:=I.turned (t':=s.toks) (λb o q e=>(sb.2 b q).trans e) f0 f1 U f4 f5;obtain⟨o,e,c,d⟩:=id B;exact⟨u,rfl,q0 (s:={s with heap:=h'}) e c d (by decide) ⟨x,H,I1,ru,⟨rfl,λys hy=>by rw[I.list_inj hy F];exact Y⟩,B,λb q=>(J b q).1⟩⟩
 done:=by
  intro X hP hw N hc i pins s σ H E I J st hg;subst hP hw N;obtain⟨xs,F,Y⟩:=hg;obtain⟨W,rv,p,hz⟩:=I.list F;obtain⟨f0,f1,f2,U,f4,f5⟩:=J it (by simp);have hl:=rv.length;exact wpAny_pyNext_list_end (I.ok.hd hc) st p.isList (by simp;lia) λh' eb=>⟨rfl,I.turned (t':=s.toks) (λb o q e=>eb b o q e) f0 f1 U f4 f5⟩
 self:=λ_ _ _ _ _ st h=>wpAny_pyIter_listiter st h
theorem yH{P:YK}{w:World}{K:YH}{tg:Expr}(a it:Addr):Turn P w K tg (W1 K a) [it] it (λi h=>h.IsTupleIter it a i) where
 mem:=by simp
 obj:=λi h st b B=>by
  have e:b=it:=by simpa using B
  subst e;obtain⟨o,e,c,d⟩:=st;exact⟨o,e,λv z=>by rw[d]at z;cases z⟩
 keep:=λi h h' st k=>st.at λo e=>k it (by simp) o e
 item:=by
  intro X hP hw U hc i pins s σ H E I N st hg;subst hP hw U;obtain⟨xs,x,J,Y⟩:=hg;obtain⟨q,rv,p,hz⟩:=I.tuple J;obtain⟨u,hu,ru⟩:=rv.get Y;obtain⟨f0,f1,f2,W,f4,f5⟩:=N it (by simp);refine wpAny_pyNext_tuple_item st (show s.heap.IsTuple a q.toArray from p) (x:=u) (by simpa using hu) λh' F sb=>?_
  have I1:Inv X pins σ H {s with heap:=h'}:=I.turned (t':=s.toks) (λb o B e=>(sb.2 b B).trans e) f0 f1 W f4 f5;obtain⟨o,e,c,d⟩:=id F;exact⟨u,rfl,q0 (s:={s with heap:=h'}) e c d (by decide) ⟨x,H,I1,ru,⟨rfl,λys hy=>by rw[I.tuple_inj hy J];exact Y⟩,F,λb B=>(N b B).1⟩⟩
 done:=by
  intro X hP hw U hc i pins s σ H E I N st hg;subst hP hw U;obtain⟨xs,J,Y⟩:=hg;obtain⟨q,rv,p,hz⟩:=I.tuple J;obtain⟨f0,f1,f2,W,f4,f5⟩:=N it (by simp);have hl:=rv.length;exact wpAny_pyNext_tuple_end (I.ok.hd hc) st (show s.heap.IsTuple a q.toArray from p) (by simp;lia) λh' eb=>⟨rfl,I.turned (t':=s.toks) (λb o B e=>eb b o B e) f0 f1 W f4 f5⟩
 self:=λ_ _ _ _ _ st h=>wpAny_pyIter_tupleiter st h
theorem x8{P:YK}{w:World}{K:YH}{tg:Expr}(it:Addr)(lo:Int)(n:Nat):Turn P w K tg (VA lo n) [it] it (λi h=>zbI h it (lo+(i:Nat)*1) ((n:Int)-(i:Nat)) 1) where
 mem:=by simp
 obj:=λi h st b q=>by
  have e:b=it:=by simpa using q
  subst e;exact⟨_,st,λv z=>by
   have z':Data.fields _=Data.cell v:=z;cases z'⟩
 keep:=λi h h' st k=>k it (by simp) _ st
 item:=by
  intro X hP hw J U i pins s σ H E I F st hg;subst hP hw J;obtain⟨f0,f1,f2,N,Y,f5⟩:=F it (by simp);have W:=Walks.range (prog:=X.prog) (w:=X.w) (I.ok.hd U) it lo 1 n;refine W.item i s _ _ hg st λv h' tk hv B kk=>?_
  obtain⟨t,rfl⟩:=hv;have I1:Inv X pins σ H {s with heap:=h',toks:=tk}:=I.turned (λb o q e=>kk b o (by simpa using q) e) f0 f1 N Y f5;refine⟨_,rfl,q0 (s:={s with heap:=h',toks:=tk}) (n := "range_iterator") B rfl rfl (by decide) ⟨.int (lo+i),H,I1,⟨t,?_⟩,⟨rfl,rfl⟩,B,λb q=>(F b q).1⟩⟩;rw[Int.mul_one]
 done:=by
  intro X hP hw J U i pins s σ H E I F st hg;subst hP hw J;obtain⟨f0,f1,f2,N,Y,f5⟩:=F it (by simp);exact wpAny_pyNext_range_end (I.ok.hd U) st (by have:n<=i:=hg;lia) λh' eb=>⟨rfl,I.turned (t':=s.toks) (λb o q e=>eb b o q e) f0 f1 N Y f5⟩
 self:=λ_ _ _ _ _ st h=>wpAny_pyIter_rangeiter st h
section
variable {X:Cx}{tg:Expr}
def SM(K:YH)(tl:TE):TI:=λσ H R=>tl σ H λx H1=>∃a,x=.ref a/\(∃xs,SqL K H1 a xs)/\R (W9 K a) H1
def VM(K:YH)(tl:TE):TI:=λσ H R=>tl σ H λx H1=>∃a,x=.ref a/\(∃xs,SqT K H1 a xs)/\R (W1 K a) H1
theorem J5{l:Expr}{tl:TE}(U:PE X l tl):PI X tg l (SM X.K tl):=by
 intro pins s σ H R I h;refine bL (U pins s σ H _ I h) λv F ⟨x,H1,B,W,q1⟩=>?_
 obtain⟨a,e,⟨xs,Y⟩,q⟩:=q1;subst e;cases W;obtain⟨N,rv,p,hz⟩:=B.list Y;refine zbp p.isList ?_;refine⟨F.heap.objs.size,[F.heap.objs.size],_,_,H1,rfl,B.kept (t':=F.toks) λb o e=>YY _ e,BW a _,⟨_,Y8 _ rfl,rfl,rfl⟩,λb J=>?_,q⟩;have e:b=F.heap.objs.size:=by simpa using J
 subst e;exact B.fpOk (YS _) (B.hok.fresh (YS _))
theorem PY{l:Expr}{tl:TE}(U:PE X l tl):PI X tg l (VM X.K tl):=by
 intro pins s σ H R I h;refine bL (U pins s σ H _ I h) λv B ⟨x,H1,F,W,q1⟩=>?_
 obtain⟨a,e,⟨xs,Y⟩,q⟩:=q1;subst e;cases W;obtain⟨J,rv,p,hz⟩:=F.tuple Y;refine zbJ (show B.heap.IsTuple a J.toArray from p) ?_;refine⟨B.heap.objs.size,[B.heap.objs.size],_,_,H1,rfl,F.kept (t':=B.toks) λb o e=>YY _ e,yH a _,⟨_,Y8 _ rfl,rfl,rfl⟩,λb N=>?_,q⟩;have e:b=B.heap.objs.size:=by simpa using N
 subst e;exact F.fpOk (YS _) (F.hok.fresh (YS _))
theorem EV{pins:List (Addr×Obj)}{σ:St}{H:Hp}{s:YE}{R:It->Hp->Prop}{E:Value->YE->Prop}{lo hi:Int}{t u v:Tok}{tk:Nat}(I:Inv X pins σ H s)(h1:-(2^62)<=lo)(h2:lo<2^62)(J:-(2^62)<=hi)(N:hi<2^62)
  (q:R (VA lo (hi-lo).toNat) H):wpAny (model X.prog X.w) X.A (pyIter (.ref s.heap.objs.size)) (PIE X pins σ tg R) E {s with heap:=s.heap.push {cls:=.type "range",data:=.fields #[.int lo t,.int hi u,.int 1 v]},toks:=tk}:=by
 refine wpAny_pyIter_range (IsRange.new ..) (small_one h1 h2 J N) ?_;have B:Inv X pins σ H {s with heap:=s.heap.push {cls:=.type "range",data:=.fields #[.int lo t,.int hi u,.int 1 v]},toks:=tk}:=I.kept λb o e=>YY _ e
 refine⟨(s.heap.push {cls:=.type "range",data:=.fields #[.int lo t,.int hi u,.int 1 v]}).objs.size,[(s.heap.push {cls:=.type "range",data:=.fields #[.int lo t,.int hi u,.int 1 v]}).objs.size],_,_,H,rfl,
  B.kept (t':=tk) λb o e=>YY _ e,x8 _ lo (hi-lo).toNat,?_,λb F=>?_,q⟩
 ·have U:lo+((0:Nat):Int)*1=lo:=by simp
  have W:(((hi-lo).toNat:Nat):Int)-((0:Nat):Int)=za1 lo hi 1:=by rw[rangeSize_one];split <;> lia
  show zbI _ _ (lo+((0:Nat):Int)*1) ((((hi-lo).toNat:Nat):Int)-((0:Nat):Int)) 1;rw[U,W];exact Y8 _ rfl
 ·have e:b=(s.heap.push {cls:=.type "range",data:=.fields #[.int lo t,.int hi u,.int 1 v]}).objs.size:=by simpa using F
  subst e;exact B.fpOk (YS _) (B.hok.fresh (YS _))
def SF(ta:TA):TI:=λσ H R=>ta σ H λvs H1=>∃j:Int,vs=[.int j]/\-(2^62)<=j/\j<2^62/\R (VA 0 j.toNat) H1
theorem B3{a:Expr}{ta:TA}{p pos:Pos}(N:Gl X "range")(F:X.mg "range" = none)(ha:PA X [a] ta)(hs:YG [a] X.env=[(false,eval a X.env)]:=by rfl):PI X tg (.Call (.Name "range" p) [a] [] pos) (SF ta):=by
 intro pins s σ H R I h;refine Call_ (kQ I N F boot_range (zbK (bL (ha pos pins s σ H _ I h) λW U ⟨vs,H1,B,J,q1⟩=>?_) hs rfl));obtain⟨j,e,q1,q2,q⟩:=q1;subst e;cases J with
 | cons r rr=>
  cases rr;obtain⟨t,rfl⟩:=r;exact call_range_1 (EV B (by lia) (by lia) q1 q2 (by simpa using q))
def WC(wi:TI)(g:TG)(tb:TS):TS:=λD σ H=>wi σ H λJ H1=>∃W:Nat->Nat->St->Hp->Prop,(∃m,W 0 m σ H1)/\∀i m σ H,W i m σ H->
 (J.stop i H/\D.nx σ H)\/(J.go i H/\∃N:St->Hp->Prop,(∀q H',N q H'->∃F,F<m/\W (i+1) F q H')/\∀x H',J.yld i H x H'->g x σ H' λB H2=>tb {D with nx:=N,ct:=N,bk:=D.nx} B H2)
noncomputable def qW(fp:List Addr)(h:Heap):List (Addr×Obj):=fp.filterMap λb=>(h.get? b).map λo=>(b,o)
theorem hU(q:b∈fp)(e:h.get? b=some o):(b,o)∈qW fp h:=List.mem_filterMap.mpr ⟨b,q,by rw[e];rfl⟩
theorem BZ(B:p∈qW fp h):p.1∈fp/\h.get? p.1=some p.2:=by
 obtain⟨b,F,e⟩:=List.mem_filterMap.mp B;cases q:h.get? b with
 | none=>rw[q]at e;cases e
 | some o=>
  rw[q]at e;have J:(b,o)=p:=ZI e;subst J;exact⟨F,q⟩
theorem Inv.pinned(I:Inv X pins σ H s)(U:∀b∈fp,jW X pins H b)(W:∀b∈fp,∃o,s.heap.get? b=some o/\∀v,o.data≠.cell v):Inv X (pins++qW fp s.heap) σ H s:=
 I.pins_of λp F=>(List.mem_append.mp F).elim (λz=>I.pin p (Z9 _ z)) λz=>by
  obtain⟨q,e⟩:=BZ z;obtain⟨f0,N,J,_⟩:=U p.1 q;obtain⟨o,B,d⟩:=W p.1 q;rw[e]at B;cases B;exact⟨e,f0,N,J,d⟩
theorem Inv.unpinned(I:Inv X (pins++pl) σ H s):Inv X pins σ H s:=I.pins_of λp q=>I.pin p (Z9 _ (zbo _ q))
theorem M6{ae:Expr}{af:List Stmt}{wi:TI}{g:TG}{tb:TS}{pos:Pos}(hp:zba (model X.prog X.w) X.A X.env X.xe)(hc:X.calm=true)(hi:PI X tg ae wi)(hg:PG X tg g)(hb:PSs X af tb)
  (hs:∀x,zaj ae X.env x=pure x:=by intro _;rfl):PS X (.For tg ae af [] pos) (WC wi g tb):=by
 intro pins s σ H D I h;refine wpAny_For (bL (hi pins s σ H _ I h) λv s1 h1=>bL h1 λbm s2 h2=>?_) hs;obtain⟨it,fp,tn,J,H2,e,I2,T,as,f2,W,⟨m0,w0⟩,turn⟩:=h2;subst e
 -- what stays true of the iterator's objects through the loop
 have F:∀ {H':Hp},(∀b∈fp,H' b=none)->∀b∈fp,jW X pins H' b:=λhn b hb=>⟨hn b hb,(f2 b hb).2⟩
 refine codeAny_forLoop_any (λn s'=>∃i Y H',Inv X pins Y H' s'/\tn i s'.heap/\(∀b∈fp,H' b=none)/\W i n Y H') ?_ m0 ⟨0,σ,H2,I2,as,λb hb=>(f2 b hb).1,w0⟩;rintro n s3 ⟨i,B,H3,I3,ak,aj,w3⟩;rcases turn i n B H3 w3 with⟨al,qn⟩|⟨go,N,hN,step⟩
 ·refine za0 hp (bL (T.done X rfl rfl rfl hc i pins s3 B H3 X.xe I3 (F aj) ak al) λr s4 ⟨hr,I4⟩=>?_)
  subst hr;exact zbF ⟨B,H3,I4,qn⟩
 ·refine za0 hp (bL (T.item X rfl rfl rfl hc i pins s3 B H3 X.xe I3 (F aj) ak go) λr s4 ⟨u,hr,h4⟩=>?_)
  subst hr;refine za0 hp (bL h4 λ_ s5 ⟨x,H5,I5,r5,y5,ag,aq⟩=>?_);have ar:=I5.pinned (F aq) (T.obj _ _ ag);refine za0 hp (bL (hg _ s5 B H5 x u _ ar r5 (step x H5 y5)) λ_ s6 ⟨ao,H6,I6,q6⟩=>?_);refine za0 hp (bL (hb _ s6 ao H6 _ I6 q6) λf s7 q7=>?_);have U:∀ {q:St} {H7:Hp},Inv X (pins++qW fp s5.heap) q H7 s7->N q H7->∃m,m<n/\∃i Y H',Inv X pins Y H' s7/\tn i s7.heap/\(∀b∈fp,H' b=none)/\W i m Y H':=λ{q H7} I7 n7=>by
   obtain⟨m',hm,w7⟩:=hN q H7 n7;refine⟨m',hm,i+1,q,H7,I7.unpinned,T.keep _ _ _ ag λb hb o e=>(I7.pin (b,o) (Z9 _ (Z9 _ (hU hb e)))).1,λb hb=>?_,w7⟩;obtain⟨o,e,d⟩:=T.obj _ _ ag b hb;exact(I7.pin (b,o) (Z9 _ (Z9 _ (hU hb e)))).2.1
  cases f with
  | next=>obtain⟨q,H7,I7,n7⟩:=q7;exact U I7 n7
  | cont=>obtain⟨q,H7,I7,n7⟩:=q7;exact U I7 n7
  | brk=>obtain⟨q,H7,I7,q7⟩:=q7;exact⟨q,H7,I7.unpinned,q7⟩
  | ret v=>obtain⟨x7,q,H7,I7,r7,q7⟩:=q7;exact⟨x7,q,H7,I7.unpinned,r7,q7⟩
end
abbrev R2:=V->V->Hp->VK->Prop
def OpR(X:Cx)(f:Value->Value->Sem Value)(r:R2):Prop:=
 ∀(pins:List (Addr×Obj)) (s:YE) (σ:St) (H:Hp) (x y:V) (v u:Value) (Q:VK),Inv X pins σ H s->RelV x v->RelV y u->r x y H Q->
  wpAny (model X.prog X.w) X.A (f v u) (EP X pins σ Q) X.xe s
def CallR(X:Cx)(f:Value)(r:List V->Hp->VK->Prop):Prop:=
 ∀(pins:List (Addr×Obj)) (s:YE) (σ:St) (H:Hp) (xs:List V) (us:List Value) (Q:VK),Inv X pins σ H s->Vals xs us->r xs H Q->
  wpAny (model X.prog X.w) X.A (call f us) (EP X pins σ Q) X.xe s
def RI(r:R2)(ta tb:TE):TE:=λσ H Q=>ta σ H λx H1=>tb σ H1 λy H2=>r x y H2 Q
def rI(C:Int->Int->Prop)(g:Int->Int->V):R2:=λx y H Q=>∃i j,x=.int i/\y=.int j/\C i j/\Q (g i j) H
def HX(g:Int->Int->V):R2:=λx y H Q=>∃i j,x=.int i/\y=.int j/\Q (g i j) H
section
variable {X:Cx}{a b c:Expr}{ta tb tc:TE}{pos:Pos}
theorem Q2(ha:PE X a ta)(N:PE X b tb){pins:List (Addr×Obj)}{s:YE}{σ:St}{H:Hp}{R:V->V->Hp->Prop}(I:Inv X pins σ H s)
  (h:ta σ H λx H1=>tb σ H1 λy H2=>R x y H2) {Q:Value->YE->Prop} {f:Value->Value->Sem Value}
  (hf:∀v u F x y H2,Inv X pins σ H2 F->RelV x v->RelV y u->R x y H2->wpAny (model X.prog X.w) X.A (f v u) Q X.xe F) :
  wpAny (model X.prog X.w) X.A (eval a X.env) (λv q=>wpAny (model X.prog X.w) X.A (eval b X.env) (λu B=>wpAny (model X.prog X.w) X.A (f v u) Q X.xe B) X.xe q) X.xe s:=by
 refine bL (ha pins s σ H _ I h) λv Y ⟨x,H1,J,r1,q1⟩=>?_
 refine bL (N pins Y σ H1 _ J q1) λu F ⟨y,H2,U,W,q2⟩=>?_
 exact hf v u F x y H2 U r1 W q2
theorem HA{op:Operator}{r:R2}(U:OpR X (ZC op) r)(ha:PE X a ta)(F:PE X b tb):PE X (.BinOp a op b pos) (RI r ta tb):=by
 intro pins s σ H Q I h;exact wpAny_BinOp (Q2 ha F I h λv u J x y H2 B W N q=>U pins J σ H2 x y v u Q B W N q)
theorem U4{f:Value->Value->Sem Value}{C:Int->Int->Prop}{g:Int->Int->Int}
  (B:∀(i j:Int) (t u:Tok) (s:YE) (Q:Value->YE->Prop) (E:Value->YE->Prop),C i j->Q (.int (g i j) s.toks) {s with toks:=s.toks+1}->wpAny (model X.prog X.w) X.A (f (.int i t) (.int j u)) Q E s) :
  OpR X f (rI C λi j=>.int (g i j)):=by
 intro pins s σ H x y v u Q I J N h;obtain⟨i,j,rfl,rfl,F,q⟩:=h;obtain⟨t,rfl⟩:=J;obtain⟨t',rfl⟩:=N;exact B i j t t' s _ _ F ⟨.int (g i j),H,I.tok _,⟨_,rfl⟩,q⟩
theorem UA{f:Value->Value->Sem Value}{g:Int->Int->Int}
  (B:∀(i j:Int) (t u:Tok) (s:YE) (Q:Value->YE->Prop) (E:Value->YE->Prop),Q (.int (g i j) s.toks) {s with toks:=s.toks+1}->wpAny (model X.prog X.w) X.A (f (.int i t) (.int j u)) Q E s) :
  OpR X f (HX λi j=>.int (g i j)):=by
 intro pins s σ H x y v u Q I F J h;obtain⟨i,j,rfl,rfl,q⟩:=h;obtain⟨t,rfl⟩:=F;obtain⟨t',rfl⟩:=J;exact B i j t t' s _ _ ⟨.int (g i j),H,I.tok _,⟨_,rfl⟩,q⟩
theorem LL{f:Value->Value->Sem Value}{g:Int->Int->Bool}
  (B:∀(i j:Int) (t u:Tok) (s:YE) (Q:Value->YE->Prop) (E:Value->YE->Prop),Q (.bool (g i j)) s->wpAny (model X.prog X.w) X.A (f (.int i t) (.int j u)) Q E s) :
  OpR X f (HX λi j=>.bl (g i j)):=by
 intro pins s σ H x y v u Q I F J h;obtain⟨i,j,rfl,rfl,q⟩:=h;obtain⟨t,rfl⟩:=F;obtain⟨t',rfl⟩:=J;exact B i j t t' s _ _ ⟨.bl (g i j),H,I,rfl,q⟩
def LU(i j:Int):Prop:=0<j/\j<1073741824
def LS(i j:Int):Prop:=0<=j/\j<=1000000/\i.natAbs<2^64
theorem OP:OpR X (ZC .Add) (HX λi j=>.int (i+j)):=UA λ_ _ _ _ _ _ _ q=>add_int q
theorem OU:OpR X (ZC .Sub) (HX λi j=>.int (i-j)):=UA λ_ _ _ _ _ _ _ q=>sub_int q
theorem JX:OpR X (ZC .FloorDiv) (rI LU λi j=>.int (i/j)):=U4 λi j _ _ _ _ _ B q=>by
 have h1:(0:Int)<j:=B.1;have h2:j<1073741824:=B.2;exact floordiv_int (by lia) (by rw[Int.fdiv_eq_ediv_of_nonneg i (by lia)];exact q) (.inl (PyProof.noPylong_small (by lia)))
theorem OE:OpR X (ZC .Mod) (rI (λ_ j=>0<j) λi j=>.int (i%j)):=U4 λi j _ _ _ _ _ B q=>by
 have h1:(0:Int)<j:=B;exact mod_int' (by lia) (by rw[Int.fmod_eq_emod_of_nonneg i (by lia)];exact q)
theorem OK:OpR X (ZC .Pow) (rI LS λi j=>.int (i^j.toNat)):=U4 λ_ _ _ _ _ _ _ B q=>pow_int_small B.1 B.2.1 B.2.2 q
end
noncomputable def QY:V->V->Bool
 | .non,.non=>true | .non,.int _=>true | .int _,.non=>true | .non,.bl _=>true | .bl _,.non=>true | .non,.str _=>true | .str _,.non=>true
 | .int _,.int _=>true | .bl _,.bl _=>true | .str _,.str _=>true | .byt _,.byt _=>true
 | .int _,.str _=>true | .str _,.int _=>true | .bl _,.str _=>true | .str _,.bl _=>true
 | _,_=>false
def X3:R2:=λx y H Q=>QY x y=true/\Q (.bl (decide (x=y))) H
def YD:R2:=λx y H Q=>QY x y=true/\Q (.bl (!decide (x=y))) H
theorem AE:decide (V.int i=V.int j)=(i == j):=by
 rw[zbc];simp
theorem F3:decide (V.bl i=V.bl j)=(i == j):=by
 rw[zbc];simp
theorem zS:decide (V.str i=V.str j)=(i == j):=by
 rw[zbc];simp
theorem zY:decide (V.byt i=V.byt j)=(i.toList == j.toList):=by
 rw[zbc];cases i;cases j;simp
section
variable {X:Cx}{a b c:Expr}{ta tb tc:TE}{pos:Pos}
theorem bB(I:Inv X pins σ H s)(q:Q (.bl k) H)(e:k=k'):EP X pins σ Q (.bool k') s:=by
 subst e;exact⟨.bl k,H,I,rfl,q⟩
theorem SX:OpR X (YR .Eq) X3:=by
 intro pins s σ H x y v u Q I F B h;obtain⟨hs,q⟩:=h;cases x with
 | non=>
  cases F;cases y with
  | non=>cases B;exact PySem.EqNone.eq_none_none (bB I q (by simp))
  | bl j=>cases B;exact PySem.EqNone.eq_none_bool (bB I q (by simp))
  | int j=>obtain⟨t',rfl⟩:=B;exact PySem.EqNone.eq_none_int (bB I q (by simp))
  | str j=>obtain⟨t',rfl⟩:=B;exact PySem.EqNone.eq_none_str (bB I q (by simp))
  | _=>exact absurd (show false=true from hs) YX
 | bl i=>
  cases F;cases y with
  | non=>cases B;exact PySem.EqNone.eq_bool_none (bB I q (by simp))
  | bl j=>cases B;exact eq_bool (bB I q F3)
  | str j=>obtain⟨t',rfl⟩:=B;exact PySem.EqMixed.eq_bool_str (bB I q (by simp))
  | _=>exact absurd (show false=true from hs) YX
 | int i=>
  obtain⟨t,rfl⟩:=F;cases y with
  | non=>cases B;exact PySem.EqNone.eq_int_none (bB I q (by simp))
  | int j=>obtain⟨t',rfl⟩:=B;exact eq_int (bB I q AE)
  | str j=>obtain⟨t',rfl⟩:=B;exact PySem.EqMixed.eq_int_str (bB I q (by simp))
  | _=>exact absurd (show false=true from hs) YX
 | str i=>
  obtain⟨t,rfl⟩:=F;cases y with
  | non=>cases B;exact PySem.EqNone.eq_str_none (bB I q (by simp))
  | bl j=>cases B;exact PySem.EqMixed.eq_str_bool (bB I q (by simp))
  | int j=>obtain⟨t',rfl⟩:=B;exact PySem.EqMixed.eq_str_int (bB I q (by simp))
  | str j=>obtain⟨t',rfl⟩:=B;exact eq_str (bB I q zS)
  | _=>exact absurd (show false=true from hs) YX
 | byt i=>
  obtain⟨t,rfl⟩:=F;cases y with
  | byt j=>obtain⟨t',rfl⟩:=B;exact PySem.W.eq_bytes (bB I q zY)
  | _=>exact absurd (show false=true from hs) YX
 | _=>cases y <;> exact absurd (show false=true from hs) YX
theorem RU:OpR X (YR .NotEq) YD:=by
 intro pins s σ H x y v u Q I F B h;obtain⟨hs,q⟩:=h;cases x with
 | non=>
  cases F;cases y with
  | non=>cases B;exact PySem.EqNone.ne_none_none (bB I q (by simp))
  | bl j=>cases B;exact PySem.EqNone.ne_none_bool (bB I q (by simp))
  | int j=>obtain⟨t',rfl⟩:=B;exact PySem.EqNone.ne_none_int (bB I q (by simp))
  | str j=>obtain⟨t',rfl⟩:=B;exact PySem.EqNone.ne_none_str (bB I q (by simp))
  | _=>exact absurd (show false=true from hs) YX
 | bl i=>
  cases F;cases y with
  | non=>cases B;exact PySem.EqNone.ne_bool_none (bB I q (by simp))
  | bl j=>cases B;exact ne_bool (bB I q (congrArg not F3))
  | str j=>obtain⟨t',rfl⟩:=B;exact PySem.EqMixed.ne_bool_str (bB I q (by simp))
  | _=>exact absurd (show false=true from hs) YX
 | int i=>
  obtain⟨t,rfl⟩:=F;cases y with
  | non=>cases B;exact PySem.EqNone.ne_int_none (bB I q (by simp))
  | int j=>obtain⟨t',rfl⟩:=B;exact ne_int (bB I q (congrArg not AE))
  | str j=>obtain⟨t',rfl⟩:=B;exact PySem.EqMixed.ne_int_str (bB I q (by simp))
  | _=>exact absurd (show false=true from hs) YX
 | str i=>
  obtain⟨t,rfl⟩:=F;cases y with
  | non=>cases B;exact PySem.EqNone.ne_str_none (bB I q (by simp))
  | bl j=>cases B;exact PySem.EqMixed.ne_str_bool (bB I q (by simp))
  | int j=>obtain⟨t',rfl⟩:=B;exact PySem.EqMixed.ne_str_int (bB I q (by simp))
  | str j=>obtain⟨t',rfl⟩:=B;exact ne_str (bB I q (congrArg not zS))
  | _=>exact absurd (show false=true from hs) YX
 | byt i=>
  obtain⟨t,rfl⟩:=F;cases y with
  | byt j=>obtain⟨t',rfl⟩:=B;exact PySem.W.ne_bytes (bB I q (congrArg not zY))
  | _=>exact absurd (show false=true from hs) YX
 | _=>cases y <;> exact absurd (show false=true from hs) YX
theorem TK:OpR X (YR .Lt) (HX λi j=>.bl (decide (i<j))):=LL λ_ _ _ _ _ _ _ q=>lt_int q
theorem RX:OpR X (YR .LtE) (HX λi j=>.bl (decide (i<=j))):=LL λ_ _ _ _ _ _ _ q=>le_int q
theorem S2:OpR X (YR .Gt) (HX λi j=>.bl (decide (j<i))):=LL λ_ _ _ _ _ _ _ q=>gt_int q
theorem RQ:OpR X (YR .GtE) (HX λi j=>.bl (decide (j<=i))):=LL λ_ _ _ _ _ _ _ q=>ge_int q
theorem C1:OpR X (YR .In) (λx y H Q=>∃i j,x=.str i/\y=.str j/\Q (.bl (!(zbd j i 0 j.length 1).isEmpty)) H):=by
 intro pins s σ H x y v u Q I B F h;obtain⟨i,j,rfl,rfl,q⟩:=h;obtain⟨t,rfl⟩:=B;obtain⟨t',rfl⟩:=F;exact in_str (bB I q rfl)
theorem P1:OpR X (YR .Is) (λx y H Q=>y=.non/\Q (.bl (decide (x=.non))) H):=by
 intro pins s σ H x y v u Q I B F h;obtain⟨rfl,q⟩:=h;cases F;refine is_none_gen (bB I q ?_);cases x <;> first
  | (cases B;rfl)
  | (obtain⟨t,rfl⟩:=B;rfl)
theorem OpR.or(h:OpR X f r)(h':OpR X f r'):OpR X f (λx y H Q=>r x y H Q\/r' x y H Q):=by
 intro pins s σ H x y v u Q I B F q;rcases q with q|q
 ·exact h pins s σ H x y v u Q I B F q
 ·exact h' pins s σ H x y v u Q I B F q
theorem GT(b:Expr)(h:op≠.In:=by decide)(h2:op≠.NotIn:=by decide):zae op b=false:=by
 have q:(op == CmpOp.In)=false:=by cases op <;> first|rfl|exact absurd rfl h
 have B:(op == CmpOp.NotIn)=false:=by cases op <;> first|rfl|exact absurd rfl h2
 cases b <;> simp[zae,q,B]
theorem KI(W:OpR X (YR op) r)(ha:PE X a ta)(F:PE X b tb)(J:zae op b=false):PE X (.Compare a [op] [b] pos) (RI r ta tb):=by
 intro pins s σ H Q I h;exact wpAny_Compare1 (Q2 ha F I h λv u N x y H2 B Y U q=>W pins N σ H2 x y v u Q B Y U q) J
def ML(t:TE):TT:=λσ H Q=>t σ H λx H'=>∃k,x=.bl k/\Q k H'
theorem AR{op:CmpOp}{r:R2}(ho:OpR X (YR op) r)(ha:PE X a ta)(J:PE X b tb)(U:zae op b=false):PT X (.Compare a [op] [b] pos) (ML (RI r ta tb)):=by
 intro pins s σ H Q I h;refine wpAny_isTrue_Compare1 (bL (ha pins s σ H _ I h) λv Y ⟨x,H1,q,r1,q1⟩=>bL (J pins Y σ H1 _ q q1) λu s2 ⟨y,H2,F,N,q2⟩=>
  bL (ho pins s2 σ H2 x y v u _ F r1 N q2) λc s3 ⟨z,B,I3,W,k,e,q3⟩=>?_) U
 subst e;cases W;exact zai ⟨B,I3,q3⟩
def zA(r F:R2)(ta tb tc:TE):TE:=λσ H Q=>ta σ H λx H1=>tb σ H1 λy H2=>r x y H2 λz q=>∃k,z=.bl k /\
 (if k=true then tc σ q λJ B=>F y J B Q else Q (.bl false) q)
theorem FB{op q:CmpOp}{r N:R2}(ho:OpR X (YR op) r)(B:OpR X (YR q) N)(ha:PE X a ta)(hb:PE X b tb)(hc:PE X c tc)
  (hm:lastMarks [op,q] [b,c]=false:=by with_unfolding_all rfl):PE X (.Compare a [op,q] [b,c] pos) (zA r N ta tb tc):=by
 intro pins s σ H Q I h;refine Compare_chain (bL (ha pins s σ H _ I h) λv s1 ⟨x,H1,I1,r1,q1⟩=>chain_link (bL (hb pins s1 σ H1 _ I1 q1) λu Y ⟨y,H2,I2,J,q2⟩=>
  bL (ho pins Y σ H2 x y v u _ I2 r1 J q2) λd s3 ⟨z,F,U,r3,k,e,q3⟩=>?_)) hm
 subst e;cases r3;refine zai ?_;cases k with
 | false=>exact ite_ff ⟨.bl false,F,U,rfl,q3⟩
 | true=>exact ite_tt (chain_last (bL (hc pins s3 σ F _ U q3) λw' s4 ⟨z',H4,W,r4,q4⟩=>B pins s4 σ H4 y z' u w' Q W J r4 q4))
theorem DS{op q:CmpOp}{r N:R2}(ho:OpR X (YR op) r)(B:OpR X (YR q) N)(ha:PE X a ta)(hb:PE X b tb)(hc:PE X c tc)
  (hm:lastMarks [op,q] [b,c]=false:=by with_unfolding_all rfl):PT X (.Compare a [op,q] [b,c] pos) (ML (zA r N ta tb tc)):=by
 intro pins s σ H Q I h;refine isTrue_chain (bL (ha pins s σ H _ I h) λv s1 ⟨x,H1,I1,r1,q1⟩=>test_link (bL (hb pins s1 σ H1 _ I1 q1) λu s2 ⟨y,H2,I2,J,q2⟩=>
  bL (ho pins s2 σ H2 x y v u _ I2 r1 J q2) λd s3 ⟨z,F,U,r3,k,e,q3⟩=>?_)) hm
 subst e;cases r3;refine zai ?_;cases k with
 | false=>
  obtain⟨k',e',q'⟩:=q3;cases e';exact ite_ff ⟨F,U,q'⟩
 | true=>
  refine ite_tt (test_last (bL (hc pins s3 σ F _ U q3) λw' s4 ⟨z',H4,Y,r4,q4⟩=>bL (B pins s4 σ H4 y z' u w' _ Y J r4 q4) λd' s5 ⟨z2,H5,I5,W,k2,e2,q5⟩=>?_));subst e2;cases W;exact zai ⟨H5,I5,q5⟩
theorem qQ:(YN:Nat)<2^63:=by rw[zbL];decide
theorem yN:OpR X (ZC .Add) (λx y H Q=>∃i j,x=.str i/\y=.str j/\i.length+j.length<=YN/\Q (.str (i++j)) H):=by
 intro pins s σ H x y v u Q I F B h;obtain⟨i,j,rfl,rfl,J,q⟩:=h;obtain⟨t,rfl⟩:=F;obtain⟨t',rfl⟩:=B;exact add_str (λt' tk=>⟨.str (i++j),H,I.tok _,⟨_,rfl⟩,q⟩) J
theorem vals1(r:Vals [x] us):∃u,us=[u]/\RelV x u:=by
 cases r with
 | cons r1 r2=>cases r2;exact⟨_,rfl,r1⟩
theorem vals2(r:Vals [x,y] us):∃u q,us=[u,q]/\RelV x u/\RelV y q:=by
 cases r with
 | cons r1 r2=>
  cases r2 with
  | cons r3 r4=>cases r4;exact⟨_,_,rfl,r1,r3⟩
theorem B7(F:X.calm=true):CallR X (.builtin "max") (λxs H Q=>∃i j,xs=[.int i,.int j]/\Q (.int (if j>i then j else i)) H):=by
 intro pins s σ H xs J Q I r h;obtain⟨i,j,rfl,q⟩:=h;obtain⟨u,N,rfl,⟨t,rfl⟩,⟨t',rfl⟩⟩:=vals2 r;refine max_two_ints (I.ok.hd F) λh' tk k=>⟨_,H,I.kept k,?_,q⟩
 by_cases B:j>i
 ·rw[if_pos B,if_pos B];exact⟨_,rfl⟩
 ·rw[if_neg B,if_neg B];exact⟨_,rfl⟩
theorem C4(F:X.calm=true):CallR X (.builtin "min") (λxs H Q=>∃i j,xs=[.int i,.int j]/\Q (.int (if j<i then j else i)) H):=by
 intro pins s σ H xs J Q I r h;obtain⟨i,j,rfl,q⟩:=h;obtain⟨u,N,rfl,⟨t,rfl⟩,⟨t',rfl⟩⟩:=vals2 r;refine min_two_ints (I.ok.hd F) λh' tk k=>⟨_,H,I.kept k,?_,q⟩
 by_cases B:j<i
 ·rw[if_pos B,if_pos B];exact⟨_,rfl⟩
 ·rw[if_neg B,if_neg B];exact⟨_,rfl⟩
theorem C3:CallR X (.type "int") (λxs H Q=>(∃i,xs=[.int i]/\Q (.int i) H)\/∃k,xs=[.bl k]/\Q (.int (if k then 1 else 0)) H):=by
 intro pins s σ H xs F Q I r h;rcases h with⟨i,rfl,q⟩|⟨k,rfl,q⟩
 ·obtain⟨u,rfl,t,rfl⟩:=vals1 r
  exact call_int_int ⟨.int i,H,I,⟨_,rfl⟩,q⟩
 ·obtain⟨u,rfl,B⟩:=vals1 r
  cases B;exact call_int_bool ⟨.int (if k then 1 else 0),H,I.tok _,⟨_,rfl⟩,q⟩
def WH(K:YH)(x:V)(H:Hp)(n:Nat):Prop:=
 match x with
 | .str y=>y.length<=YN/\n=y.length
 | .byt y=>y.size<=YN/\n=y.size
 | .ref p=>(∃xs,SqL K H p xs/\n=xs.length)\/∃xs,SqT K H p xs/\n=xs.length
 | _=>False
theorem qH:CallR X (.builtin "len") (λxs H Q=>∃x n,xs=[x]/\WH X.K x H n/\Q (.int n) H):=by
 intro pins s σ H xs us Q I r h;obtain⟨x,n,rfl,e,q⟩:=h;obtain⟨u,rfl,rx⟩:=vals1 r;have hl:=qQ;have hs:YN=16777216:=zbL;cases x with
 | str y=>
  obtain⟨t,rfl⟩:=rx;obtain⟨hy,F⟩:y.length<=YN/\n=y.length:=e;subst F;exact len_str (by lia) ⟨.int _,H,I.tok _,⟨_,rfl⟩,q⟩
 | byt y=>
  obtain⟨t,rfl⟩:=rx;obtain⟨hy,F⟩:y.size<=YN/\n=y.size:=e;subst F;exact PySem.W.len_bytes (by lia) ⟨.int _,H,I.tok _,⟨_,rfl⟩,q⟩
 | ref p=>
  cases rx;have F:(∃xs,SqL X.K H p xs/\n=xs.length)\/∃xs,SqT X.K H p xs/\n=xs.length:=e;rcases F with⟨xs,U,F⟩|⟨xs,U,F⟩
  ·subst F
   obtain⟨N,J,Y,hz⟩:=I.list U;have B:=J.length;exact Calls.call_len_list Y.isList (by simp only[Y1];lia) ⟨.int xs.length,H,I.tok _,⟨_,by simp only[Y1];rw[B]⟩,q⟩
  ·subst F
   obtain⟨N,J,Y,hz⟩:=I.tuple U;have B:=J.length;exact len_tuple Y (by simp only[Y1];lia) ⟨.int xs.length,H,I.tok _,⟨_,by simp only[Y1];rw[B]⟩,q⟩
 | _=>exact(show False from e).elim
end
structure ObjM(h:Heap)(x dx C:Addr)(mA:Str->Option Value):Prop where
 obj:h.get? x=some (zaQ C dx)
 ns:h.Ns1 dx mA
 ne:dx≠x
theorem B0{h:Heap}{dx:Addr}{mA:Str->Option Value}(n:h.Ns1 dx mA):∃od,h.get? dx=some od/\∀name,PySem.W.lookIn name od=some (mA name):=by
 obtain⟨o,es,ep,U,N,hk,_,F⟩:=n;refine⟨o,U,λname=>?_⟩;have e:=F name;unfold nsFind findBy at e;rw[<- Array.find?_toList]at e;unfold PySem.W.lookIn;rw[N];dsimp only;split
 ·rename_i y q
  rw[q]at e;exact congrArg some e
 ·rename_i q
  rw[q]at e;have a:es.toList.any (·.refKey)=false:=by
   rw[List.any_eq_false];intro y J;obtain⟨z,t,B⟩:=hk y (Array.mem_toList_iff.mp J);simp[DictEntry.refKey,B]
  have a':¬ es.toList.any (·.refKey)=true:=by rw[a];exact YX
  rw[if_neg a'];exact congrArg some e
theorem ObjM.look(I:ObjM h x dx C mA):∃od,PySem.W.InstAt h x (zaQ C dx) C (some od)/\∀name,PySem.W.lookIn name od=some (mA name):=
 let ⟨od,ho,hl⟩:=B0 I.ns
 ⟨od,⟨I.obj,rfl,rfl,ho⟩,hl⟩
section
variable {prog:YK}{w:World}{A:YM}{E:Value->YE->Prop}{s:YE}{K:YH}{x dx C f:Addr}{mA:Str->Option Value}{name:Str}{v:Value}
theorem LB(X:K.In s.heap)(I:ObjM s.heap x dx C mA)(N:zbM K C name=true)(U:zbN K C=true)
  (ha:zak K (.ref C) name=some none) (B:mA name=some v) (q:PySem.W.handedIn v=true) (h:Q v {s with toks:=s.toks+1}) :
  wpAny (model prog w) A (getAttr (.ref x) name expr) Q E s:=by
 obtain⟨od,J,F⟩:=I.look;exact PySem.W.get_value X J (PySem.W.plainGet_of N).1 (PySem.W.findObj_own U ha rfl (by rw[F,B])) q h
theorem J9(X:K.In s.heap)(I:ObjM s.heap x dx C mA)
  (hs:zak K (.ref C) "__setattr__" = some (some (.builtin "object.__setattr__"))) (Y:zcq K C=true) (ht:zcr K C name=some none) (hh:zbN K C=true)
  (hw:PySem.Within mA ns) (af:ns.length<=YN)
  (h:∀h',ObjM h' x dx C (λy=>if y=name then some v else mA y)->Z7 dx s.heap h'->Q () {s with heap:=h',toks:=s.toks+2}) :
  wpAny (model prog w) A (setAttr (.ref x) name v) Q E s:=by
 obtain⟨od,J,hl⟩:=I.look;refine PySem.W.set_plain X J hs (PySem.W.osa_open (s:={s with toks:=s.toks+1}) (r:=none) X J Y ht λb=>?_);obtain⟨cd,hc,U⟩:=PySem.W.any_some hh;have hx:s.heap.get? x=some ⟨.ref C,some dx,.plain,#[]⟩:=I.obj;refine YF (YL (YF (YF (wpAny_loadPart hx (YF (PySem.W.Looks.here (s:={s with toks:=s.toks+1}) (PySem.W.looks_clsIn X hc) ?_))))));rw[U];refine YL (a:=some dx) (YF (YL (YF ?_)));refine wpAny_nsSet1 (s:={s with toks:=s.toks+1}) I.ns λh' B q=>?_
 obtain⟨oD,ab,ag,N,hdD,F⟩:=B.count (PySem.Within.cons name v hw);refine YF (wpAny_lookBehind N (by rw[hdD];exact pastItsLine_dict (ZF F (by rw[Y7];lia))) ?_);exact YL (h _ ⟨(q.2 _ (ZH I.ne)).trans I.obj,B,I.ne⟩ q)
theorem EY(X:K.In s.heap)(B:zcs K C=true)
  (hi:zak K (.ref C) "__init__" = some (some (.ref f))) (F:PySem.W.typeIn K (.ref f)=some (.type "function"))
  (h:zal (model prog w) (A.under (.builtin "type.__call__" ⟨.ref C::vs, kw⟩)) (.call (.ref f) ⟨.ref (s.heap.objs.size+1)::vs, kw⟩) (PySem.W.InitBack (s.heap.objs.size+1) R)
   {s with heap:=(s.heap.push zaL).push (zaQ C s.heap.objs.size)}) :
  zal (model prog w) A (.call (.ref C) ⟨vs,kw⟩) R s:=by
 obtain⟨J,g,d,t,N⟩:=s;exact PySem.W.make_core (PySem.W.makes_of X B) (PySem.W.looks_findIn X hi) (λq=>PySem.W.bind_fn X q F) (.inl rfl) h
end
noncomputable def gZ(f:Str)(v:V):List (Str×V)->List (Str×V)
 | []=>[(f,v)]
 | (g,x)::r=>if g=f then(g,v)::r else(g,x)::gZ f v r
theorem nV(f g:Str)(v:V):∀fs:List (Str×V),(gZ f v fs).lookup g=if g=f then some v else fs.lookup g
 | []=>by
  show za2 g [(f,v)]=_;by_cases h:g=f
  ·have q:(g == f)=true:=beq_iff_eq.mpr h
   simp only[za2,q,if_pos h]
  ·have q:(g == f)=false:=beq_eq_false_iff_ne.mpr h
   simp only[za2,q,if_neg h]
 | (k,x)::r=>by
  have ih:=nV f g v r;rw[show gZ f v ((k,x)::r)=(if k=f then(k,v)::r else(k,x)::gZ f v r)from rfl];by_cases hk:k=f
  ·rw[if_pos hk]
   by_cases h:g=k
   ·have q:(g == k)=true:=beq_iff_eq.mpr h
    simp only[za2,q,if_pos (h.trans hk)]
   ·have q:(g == k)=false:=beq_eq_false_iff_ne.mpr h
    simp only[za2,q,if_neg (λe:g=f=>h (e.trans hk.symm))]
  ·rw[if_neg hk]
   by_cases h:g=k
   ·have q:(g == k)=true:=beq_iff_eq.mpr h
    simp only[za2,q,if_neg (λe:g=f=>hk (h.symm.trans e))]
   ·have q:(g == k)=false:=beq_eq_false_iff_ne.mpr h
    simp only[za2,q];exact ih
theorem mM(f:Str)(v:V):∀fs:List (Str×V),f∈(gZ f v fs).map (·.1)/\∀g,g∈fs.map (·.1)->g∈(gZ f v fs).map (·.1)
 | []=>⟨by simp[gZ],λg h=>by simp at h⟩
 | (k,x)::r=>by
  obtain⟨B,q⟩:=mM f v r;rw[show gZ f v ((k,x)::r)=(if k=f then(k,v)::r else(k,x)::gZ f v r)from rfl];by_cases hk:k=f
  ·rw[if_pos hk]
   subst hk;exact⟨by simp,λg h=>by simpa using h⟩
  ·rw[if_neg hk]
   refine⟨?_,λg h=>?_⟩
   ·rw[Y4]
    exact YW _ B
   ·rw[Y4]at h ⊢
    rcases List.mem_cons.mp h with e|e
    ·exact List.mem_cons.mpr (.inl e)
    ·exact YW _ (q g e)
theorem nC(f:Str)(v:V):∀fs:List (Str×V),(gZ f v fs).length<=fs.length+1
 | []=>by simp[gZ]
 | (k,x)::r=>by
  have ih:=nC f v r;rw[show gZ f v ((k,x)::r)=(if k=f then(k,v)::r else(k,x)::gZ f v r)from rfl];by_cases hk:k=f
  ·rw[if_pos hk,Y7,Y7];lia
  ·rw[if_neg hk,Y7,Y7];lia
theorem RelO.some_of(r:RelO (some v) o):∃u,o=some u/\RelV v u:=by
 cases o with
 | none=>exact(show False from r).elim
 | some u=>exact⟨u,rfl,r⟩
theorem B9(r:RelV v u):PySem.W.handedIn u=true:=by
 cases v with
 | non=>cases(show u=ZW from r);rfl
 | bl b=>cases(show u=zbn b from r);rfl
 | int i=>obtain⟨t,e⟩:=(show ∃t,u=zbk i t from r);cases e;rfl
 | str x=>obtain⟨t,e⟩:=(show ∃t,u=zbl x t from r);cases e;rfl
 | byt b=>obtain⟨t,e⟩:=(show ∃t,u=Value.bytes b t from r);cases e;rfl
 | flt b=>obtain⟨t,e⟩:=(show ∃t,u=Value.float b t from r);cases e;rfl
 | ref a=>cases(show u=Y5 a from r);rfl
 | ty n=>cases(show u=Value.type n from r);rfl
section
variable {P:YK}{w:World}{H H':Hp}{h h':Heap}{a C dx:Addr}{fs fs':List (Str×V)}
theorem uG(B:HOk P w H h)(e:H a=some (.ins C dx fs)):∃mA,ObjM h a dx C mA/\(∀f,RelO (fs.lookup f) (mA f))/\PySem.Within mA (fs.map (·.1))/\fs.length<=1000/\H dx=some (.own a):=by
 obtain⟨d,z,F,J,mA,n,r,q⟩:=(show ObjOk P w H h a (.ins C dx fs)from B a _ e);exact⟨mA,⟨J,n,F⟩,r,q,z,d⟩
end
structure Cls(K:YH)(C:Addr):Prop where
 pg:zbM K C Str.empty=true
 hd:zbN K C=true
 po:zcq K C=true
 sa:zak K (.ref C) "__setattr__" = some (some (.builtin "object.__setattr__"))
theorem Cls.get{K:YH}{C:Addr}(c:Cls K C)(f:Str):zbM K C f=true:=c.pg
def NoAttr(K:YH)(C:Addr)(f:Str):Prop:=zak K (.ref C) f=some none
theorem NoAttr.taker{K:YH}{C:Addr}{f:Str}(n:NoAttr K C f):zcr K C f=some none:=by
 unfold zcr;rw[show zak K (.ref C) f=some none from n];rfl
section
variable {X:Cx}{pins:List (Addr×Obj)}{σ:St}{H:Hp}{s:YE}{a C dx:Addr}{fs:List (Str×V)}{f:Str}{v:V}{A:YM}{E:Value->YE->Prop}
theorem yL(I:Inv X pins σ H s)(e:H a=some (.ins C dx fs))(c:Cls X.K C)(n:NoAttr X.K C f)(l:fs.lookup f=some v)
  (h:∀u s',Inv X pins σ H s'->RelV v u->Q u s'):wpAny (model X.prog X.w) A (getAttr (.ref a) f b) Q E s:=by
 obtain⟨mA,O,r,_,_,_⟩:=uG I.hok e;obtain⟨u,B,q⟩:=RelO.some_of (v:=v) (o:=mA f) (by rw[<- l];exact r f);exact LB I.kIn O (c.get f) c.hd n B (B9 q) (h u _ (I.tok _) q)
theorem xZ(I:Inv X pins σ H s)(e:H a=some (.ins C dx fs))(c:Cls X.K C)(n:NoAttr X.K C f)(hl:fs.length<1000)(W:RelV y u)
  (h:∀s',Inv X pins σ (upd H a (.ins C dx (gZ f y fs))) s'->Q () s'):wpAny (model X.prog X.w) A (setAttr (.ref a) f u) Q E s:=by
 obtain⟨mA,O,r,wi,_,B⟩:=uG I.hok e;have N:(fs.map (·.1)).length<=YN:=by rw[YV,zbL];lia
 refine J9 I.kIn O c.sa c.po n.taker c.hd wi N λh' O' J=>h _ ?_
 have U:∃o,h'.get? dx=some o:=let ⟨o,_,_,e',_⟩:=O'.ns;⟨o,e'⟩;refine I.write (x:=a) (e:=dx) (by rw[e];exact zag) (.inr B) (λb q F z=>(J.2 b F).trans z) U ?_;refine⟨by rw[aK O.ne];exact B,?_,O.ne,O'.obj,_,O'.ns,λg=>?_,λg Y=>?_⟩
 ·have:=nC f y fs;lia
 ·show RelO ((gZ f y fs).lookup g) (if g=f then some u else mA g)
  rw[nV];by_cases q:g=f
  ·rw[if_pos q,if_pos q];exact W
  ·rw[if_neg q,if_neg q];exact r g
 ·by_cases q:g=f
  ·rw[q];exact(mM f y fs).1
  ·refine(mM f y fs).2 g (wi g λz=>Y ?_)
   show(if g=f then some u else mA g)=none;rw[if_neg q];exact z
theorem Inv.made(I:Inv X pins σ H s):Inv X pins σ (upd (upd H s.heap.objs.size (.own (s.heap.objs.size+1))) (s.heap.objs.size+1) (.ins C s.heap.objs.size []))
  {s with heap:=(s.heap.push zaL).push (zaQ C s.heap.objs.size)}:=by
 have B:(s.heap.push zaL).get? s.heap.objs.size=some zaL:=Y8 s.heap rfl;have Y:((s.heap.push zaL).push (zaQ C s.heap.objs.size)).get? (s.heap.objs.size+1)=some (zaQ C s.heap.objs.size):=by
  have:=Y8 (s.heap.push zaL) (o:=zaQ C s.heap.objs.size) rfl
  rwa [zbO]at this
 have U:(s.heap.push zaL).Ns s.heap.objs.size (λ_=>none):=⟨zaL,#[],_,B,rfl,(λe J=>absurd J (by simp)),λ_=>rfl⟩;have N:=I.laid (a:=s.heap.objs.size) (o:=.own (s.heap.objs.size+1)) (h':=s.heap.push zaL) (t':=s.toks) (λb u q=>YY _ q) (YS _) ⟨_,B⟩;refine N.laid (a:=s.heap.objs.size+1) (o:=.ins C s.heap.objs.size []) (t':=s.toks) (λb u q=>YY _ q) (Nat.le_of_eq (zbO _ _)) ?_;have F:s.heap.objs.size≠s.heap.objs.size+1:=ZE (zbq _);refine⟨by rw[aK F,aM],zaa _,F,Y,λ_=>none,(Heap.Ns1.of_empty U).at λo q=>YY _ q,λ_=>zag,λy W=>absurd rfl W⟩
theorem KS{prog:YK}{w:World}{env:Env}{e:Expr}{f:Str}{pos:Pos}{s:YE}{Q:Value->YE->Prop}(B:ZX e f env (eval e env)=eval e env)
  (h:wpAny (model prog w) A (eval e env) (λo q=>wpAny (model prog w) A (getAttr o f true) Q E q) E s):wpAny (model prog w) A (eval (.Attribute e f pos) env) Q E s:=
 Attribute_any_ h (by rw[arm_eval_Attribute,B])
end
def WJ(K:YH)(ta:TE)(f:Str):TE:=λσ H Q=>ta σ H λx H1=>∃a C dx fs v,x=.ref a/\H1 a=some (.ins C dx fs)/\Cls K C/\NoAttr K C f/\fs.lookup f=some v/\Q v H1
def VH(K:YH)(ta tv:TE)(f:Str):TS:=λD σ H=>tv σ H λy H1=>ta σ H1 λx H2=>∃a C dx fs,x=.ref a/\H2 a=some (.ins C dx fs)/\Cls K C/\NoAttr K C f/\fs.length<1000 /\
 D.nx σ (upd H2 a (.ins C dx (gZ f y fs)))
section
variable {X:Cx}{o e value:Expr}{f:Str}{pos pos' tpos:Pos}{ta tv:TE}
theorem NE(B:PE X e ta)(J:ZX e f X.env (eval e X.env)=eval e X.env):PE X (.Attribute e f pos) (WJ X.K ta f):=by
 intro pins s σ H Q I h;refine KS J (bL (B pins s σ H _ I h) λu s1 ⟨x,H1,F,Y,a,C,dx,fs,v,ex,U,c,n,l,q⟩=>?_);subst ex;obtain rfl:u=Y5 a:=Y;exact yL F U c n l λu' s2 N W=>⟨v,H1,N,W,q⟩
theorem OJ(ha:PE X o ta)(J:PE X value tv)(hs:Y3 value (some (.Attribute o f pos')) pos.line X.env=pure false):PS X (.Assign [.Attribute o f pos'] value pos) (VH X.K ta tv f):=by
 intro pins s σ H D I h;refine plainObj_wpAny_Assign_Attribute (bL (J pins s σ H _ I h) λu N ⟨y,H1,B,Y,q⟩=>bL (ha pins N σ H1 _ B q) λov s2 ⟨x,H2,F,rx,a,C,dx,fs,ex,U,c,n,l,q2⟩=>?_) hs;subst ex;obtain rfl:ov=Y5 a:=rx;exact xZ F U c n l Y λs3 W=>⟨σ,_,W,q2⟩
end
section
variable {X:Cx}{pins:List (Addr×Obj)}{σ:St}{H:Hp}{s:YE}{A:YM}{E:Value->YE->Prop}{Q:Value->YE->Prop}{c:Value}{b:Bool}
inductive TyOf(K:YH)(H:Hp):V->Value->Prop where
 | non:TyOf K H .non (.type "NoneType")
 | bl (x:Bool):TyOf K H (.bl x) (.type "bool")
 | int (i:Int):TyOf K H (.int i) (.type "int")
 | str (x:Str):TyOf K H (.str x) (.type "str")
 | flt (x:UInt64):TyOf K H (.flt x) (.type "float")
 | lst {a:Addr} {xs:List V} (e:H a=some (.lst xs)):TyOf K H (.ref a) (.type "list")
 | frz {a:Addr} {o:Obj} {xs:List V} (e:H a=some (.frz o (.lst xs))):TyOf K H (.ref a) (.type "list")
 | tup {a:Addr} {xs:List V} (e:H a=some (.tup xs)):TyOf K H (.ref a) (.type "tuple")
 | dK {a:Addr} {kvs:List (Key×V)} (e:H a=some (.dK kvs)):TyOf K H (.ref a) (.type "dict")
 | dT {a:Addr} {kvs:List (List Key×V)} (e:H a=some (.dT kvs)):TyOf K H (.ref a) (.type "dict")
 | ins {a C dx:Addr} {fs:List (Str×V)} (e:H a=some (.ins C dx fs)) (cl:Cls K C) (ha:zak K (.ref C) "__class__" = some (some (.builtin "object.__class__")))
   (hn:PySem.W.specialIn K (.builtin "object.__class__") "__get__" = some (some (.builtin "getset_descriptor.__get__"))) (htk:PySem.W.takesIn K (.builtin "object.__class__")=some true)
   (hm:PySem.W.mroIn K C (.type "object")=some true):TyOf K H (.ref a) (.ref C)
theorem CG(I:Inv X pins σ H s)(B:RelV x u)(ty:TyOf X.K H x t)(e:zbP X.K t c=some b)(h:∀tk,Q (.bool b) {s with toks:=tk}) :
  wpAny (model X.prog X.w) A (call (.builtin "isinstance") [u,c]) Q E s:=by
 cases ty with
 | non=>cases(show u=ZW from B);exact zab PySem.W.kitx_none I.kIn zag e (λz=>nomatch z) h
 | bl y=>cases(show u=zbn y from B);exact zab PySem.W.kitx_bool I.kIn zag e (λz=>nomatch z) h
 | int i=>obtain⟨t,q⟩:=(show ∃t,u=zbk i t from B);cases q;exact zab PySem.W.kitx_int I.kIn zag e (λz=>nomatch z) h
 | str y=>obtain⟨t,q⟩:=(show ∃t,u=zbl y t from B);cases q;exact zab PySem.W.kitx_str I.kIn zag e (λz=>nomatch z) h
 | flt y=>obtain⟨t,q⟩:=(show ∃t,u=Value.float y t from B);cases q;exact zab PySem.W.kitx_float I.kIn zag e (λz=>nomatch z) h
 | @lst a xs ea=>
  cases(show u=Y5 a from B);obtain⟨_,_,n,_,h1⟩:=(show ObjOk X.prog X.w H s.heap a (.lst xs)from I.hok a _ ea);exact zab PySem.W.kitx_list I.kIn ⟨_,h1,rfl⟩ e (λz=>nomatch z) h
 | @frz a ob xs ea=>
  cases(show u=Y5 a from B);obtain⟨_,_,_,n,_,h1⟩:=(show ObjOk X.prog X.w H s.heap a (.frz ob (.lst xs))from I.hok a _ ea);exact zab PySem.W.kitx_list I.kIn ⟨_,h1,rfl⟩ e (λz=>nomatch z) h
 | @tup a xs ea=>
  cases(show u=Y5 a from B);obtain⟨_,_,_,p⟩:=(show ObjOk X.prog X.w H s.heap a (.tup xs)from I.hok a _ ea);obtain⟨o,h1,h2,_⟩:=p;exact zab PySem.W.kitx_tuple I.kIn ⟨o,h1,h2⟩ e (λz=>nomatch z) h
 | @dK a kvs ea=>
  cases(show u=Y5 a from B);obtain⟨_,_,vs,_,p⟩:=(show ObjOk X.prog X.w H s.heap a (.dK kvs)from I.hok a _ ea);obtain⟨o,es,ep,h1,h2,_⟩:=p;exact zab zbQ I.kIn ⟨o,h1,h2.1⟩ e (λz=>nomatch z) h
 | @dT a kvs ea=>
  cases(show u=Y5 a from B);obtain⟨_,_,xs,_,o,es,ep,h1,h2,_⟩:=(show ObjOk X.prog X.w H s.heap a (.dT kvs)from I.hok a _ ea);exact zab zbQ I.kIn ⟨o,h1,h2.1⟩ e (λz=>nomatch z) h
 | @ins a C dx fs ea cl ha hn htk hm=>
  cases(show u=Y5 a from B);obtain⟨mA,O,_⟩:=uG I.hok ea;obtain⟨od,J,_⟩:=O.look;exact zab (PySem.W.kitx_own (cl.get _) cl.hd ha hn htk hm) I.kIn J e (λz=>nomatch z) h
end
structure Room(k:Nat)(A:YM):Prop where
 hd:A.handled=none
 dp:A.depth+3*k+5<recursionLimit
 un:A.units+16*k+200<cLine
theorem Room.mono(r:Room k A)(h:j<=k):Room j A:=⟨r.hd,by have:=r.dp;lia,by have:=r.un;lia⟩
theorem Room.deeper(r:Room (k+1) A)(env:Env):Room k (A.deeper env):=
 ⟨r.hd,by have:=r.dp;show A.depth+1+3*k+5<_;lia,by have:=r.un;show A.units+3+16*k+200<_;lia⟩
theorem yM{A:YM}{C:Addr}{q:List Value}{kw:List (Str×Value)}:(A.under (.builtin "type.__call__" ⟨.ref C::q,kw⟩)).depth=A.depth+1:=by
 first|rfl|simp[Around.under,Code.weight,Code.isCreation,Code.isGuard,Code.isCaller,Code.frames,Code.isFrame,guardIds]
theorem yJ{A:YM}{C:Addr}{q:List Value}{kw:List (Str×Value)}:(A.under (.builtin "type.__call__" ⟨.ref C::q,kw⟩)).units=A.units+1:=by
 first|rfl|simp[Around.under,Code.cUnits,Code.frames,Code.isFrame]
theorem Room.make(r:Room (k+1) A)(C:Addr)(q:List Value)(kw:List (Str×Value)):Room k (A.under (.builtin "type.__call__" ⟨.ref C::q,kw⟩)):=
 ⟨r.hd,by have:=r.dp;rw[yM];lia,by have:=r.un;rw[yJ];lia⟩
theorem Room.depth(r:Room k A):A.depth<recursionLimit:=by have:=r.dp;lia
theorem Room.units(r:Room k A):A.units+64<cLine:=by have:=r.un;lia
theorem Room.units0(r:Room k A):A.units<cLine:=by have:=r.un;lia
def HL:TA:=λ_ H Q=>Q [] H
def rH(ta:TE)(q:TA):TA:=λσ H Q=>ta σ H λx H1=>q σ H1 λxs H2=>Q (x::xs) H2
section
variable {X:Cx}{e:Expr}{es:List Expr}{te:TE}{t:TA}{pos:Pos}
theorem gH:PA X [] HL:=λ_ _ _ _ H Q I h=>Calls.spliced_nil ⟨[],H,I,.nil,h⟩
theorem bP(ha:PE X e te)(U:PA X es t)(hs:YG (e::es) X.env=(false,eval e X.env)::YG es X.env:=by rfl):PA X (e::es) (rH te t):=by
 intro pos pins s σ H Q I h;rw[hs];show wpAny _ _ (spliced ((false,eval e X.env)::YO pos (YG es X.env))) _ _ s;refine Calls.spliced_cons (bL (ha pins s σ H _ I h) λu J ⟨x,H1,q,N,q1⟩=>?_);exact bL (U pos pins J σ H1 _ q q1) λW Y ⟨xs,H2,B,F,q2⟩=>⟨x::xs,H2,B,.cons N F,q2⟩
def VU(t:TA):TE:=λσ H Q=>t σ H λxs H1=>xs.length<=YN/\∀p,H1 p=none->Q (.ref p) (upd H1 p (.tup xs))
def VF(t:TA):TE:=λσ H Q=>t σ H λxs H1=>xs.length<=YN/\∀p,H1 p=none->Q (.ref p) (upd H1 p (.lst xs))
theorem FT{x1}(h:PA X es t):PE X (.Tuple es x1 pos) (VU t):=by
 intro pins s σ H Q I N;refine wpAny_Tuple_spliced (bL (h pos pins s σ H _ I N) λJ B ⟨xs,H1,F,r,z,q⟩=>⟨by rw[<- r.length];exact z,?_⟩);have U:H1 B.heap.objs.size=none:=F.hok.fresh (YS _);refine⟨.ref B.heap.objs.size,upd H1 B.heap.objs.size (.tup xs),F.laid (t':=B.toks) (λb u e=>YY _ e) (YS _) ?_,rfl,q _ U⟩;exact⟨z,J,r,⟨_,Y8 _ rfl,rfl,_,rfl,rfl⟩⟩
theorem G0(h:PA X es t):PE X (.List es pos) (VF t):=by
 intro pins s σ H Q I N;refine wpAny_List_spliced (bL (h pos pins s σ H _ I N) λJ B ⟨xs,H1,F,r,z,q⟩=>⟨by rw[<- r.length];exact z,?_⟩);have U:H1 B.heap.objs.size=none:=F.hok.fresh (YS _);refine⟨.ref B.heap.objs.size,upd H1 B.heap.objs.size (.lst xs),F.laid (t':=B.toks) (λb u e=>YY _ e) (YS _) ?_,rfl,q _ U⟩;exact⟨z,J,0,r,Y8 _ rfl⟩
end
abbrev Sp:=List V->Hp->VK->XK->Prop
abbrev DN:=List Env->Hp->YE->XK->Value->YE->Prop
structure Env0(P:YK)(w:World)(K:YH)(mg:Str->Option Value)(base:Heap)(A:YM)(outer:List Env)(s:YE)(H:Hp):Prop where
 frames:A.frames=some outer
 mod:Mod K mg base
 bs:∀b o,base.get? b=some o->s.heap.get? b=some o/\H b=none
 bsz:base.objs.size<=s.heap.objs.size
 funs:s.heap.FunFrames base outer
 frf:∀b∈frs outer,H b=none
 hok:HOk P w H s.heap
 bare:zaJ s.gens
def CE(q:List Env)(P:YK)(w:World)(H:Hp)(s:YE)(Q:VK)(u:Value)(s':YE):Prop:=
 ∃v H',s'.os=s.os/\zaJ s'.gens/\Un (frs q) [] H H' s.heap s'.heap/\HOk P w H' s'.heap/\RelV v u/\Q v H'
def CR(CX:DN)(outer:List Env)(P:YK)(w:World)(H:Hp)(s:YE)(Q:VK)(E:XK)(r:Result)(s':YE):Prop:=
 match r with
 | .ok (.ret u)=>CE outer P w H s Q u s'
 | .ok _=>False
 | .error e=>CX outer H s E e s'
structure FnOk(P:YK)(w:World)(K:YH)(mg:Str->Option Value)(base:Heap)(CX:DN)(k:Nat)(f:Addr)(fd:ZY)(ps:List Str)(sp:Sp):Prop where
 len:∀vs H Q E,sp vs H Q E->vs.length=ps.length
 run:∀(A:YM) (outer:List Env) (s:YE) (H:Hp) (args:Args) (us:List Value) (vs:List V) (Q:VK) (E:XK),Room k A->Env0 P w K mg base A outer s H->BindsTo s fd args (ps.zip us)->Vals vs us->sp vs H Q E->
  zal (model P w) A (.call (.ref f) args) (CR CX outer P w H s Q E) s
theorem FnOk.mono{P:YK}{w:World}{K:YH}{mg:Str->Option Value}{base:Heap}{CX:DN}{j k:Nat}{f:Addr}{fd:ZY}{ps:List Str}{sp:Sp}(F:FnOk P w K mg base CX j f fd ps sp)(h:j<=k) :
  FnOk P w K mg base CX k f fd ps sp:=⟨F.len,λA q s H args B vs Q E J=>F.run A q s H args B vs Q E (J.mono h)⟩
theorem Env0.make{P:YK}{w:World}{K:YH}{mg:Str->Option Value}{base:Heap}{A:YM}{q:List Env}{s:YE}{H:Hp}(e:Env0 P w K mg base A q s H)(C:Addr)(B:List Value)(kw:List (Str×Value)) :
  Env0 P w K mg base (A.under (.builtin "type.__call__" ⟨.ref C::B,kw⟩)) q s H:=⟨by first|exact e.frames|(simpa[Around.under,Code.envs,Code.isFrame,pushEnvs]using e.frames),e.mod,e.bs,e.bsz,e.funs,e.frf,e.hok,e.bare⟩
section
variable {X:Cx}{pins:List (Addr×Obj)}{σ:St}{H:Hp}{s s':YE}
theorem Inv.env0(I:Inv X pins σ H s):Env0 X.prog X.w X.K X.mg X.base X.A X.stack s H:=
 ⟨I.ok.frames,I.ok.mod,I.bs,ZF I.ok.bsz I.sz,I.stack,I.stkFree,I.hok,I.bare⟩
theorem Inv.after(I:Inv X pins σ H s)(h:CE X.stack X.prog X.w H s Q u s'):EP X pins σ Q u s':=by
 obtain⟨v,H',U,B,un,F,r,q⟩:=h;obtain⟨N,g,d,t,J⟩:=s';obtain rfl:J=s.os:=U;exact⟨v,H',I.call (h':=N) (g':=g) (d':=d) (t':=t) (ch:=[]) un F B (λb z=>absurd z (by simp)),r,q⟩
end
def TX(sp:Sp)(dvs:List V)(E:XK)(t:TA):TE:=λσ H Q=>t σ H λvs H1=>sp (vs++dvs) H1 Q E
def SS(C:Addr)(sp:Sp)(dvs:List V)(E:XK)(t:TA):TE:=λσ H Q=>t σ H λvs H1=>∀x dx,H1 x=none->H1 dx=none->dx≠x->
 sp (.ref x::(vs++dvs)) (upd (upd H1 dx (.own x)) x (.ins C dx [])) (λv H2=>v=.non/\Q (.ref x) H2) E
def Binds(K:YH)(fd:ZY)(ps:List Str)(ds:List Value):Prop:=
 ∀(s:YE) (us:List Value),K.In s.heap->(us++ds).length=ps.length->BindsTo s fd ⟨us,[]⟩ (ps.zip (us++ds))
theorem Binds.all{K:YH}{fd:ZY}{ps:List Str}(h:∀q:List Value,q.length=ps.length->bindArgs fd ⟨q,[]⟩=pure (ps.zip q)):Binds K fd ps []:=λs q _ B=>by
 rw[zam]at B ⊢;exact .of_eq (h q B)
def qR(CX:DN)(X:Cx)(E:XK):Prop:=∀(pins:List (Addr×Obj)) (σ:St) (H:Hp) (s:YE) (e:Value) (s':YE),Inv X pins σ H s->CX X.stack H s E e s'->X.xe e s'
section
variable {X:Cx}{CX:DN}{k:Nat}{f C:Addr}{fd:ZY}{ps:List Str}{sp:Sp}{dvs:List V}{ds:List Value}{E:XK}{x m:Str}{p pos apos:Pos}{e o:Expr}{es:List Expr}{ta:TE}{t:TA}
theorem y9(F:FnOk X.prog X.w X.K X.mg X.base CX k f fd ps sp)(Y:Room k X.A)(J:Binds X.K fd ps ds)(U:Vals dvs ds)(N:qR CX X E)
  (I:Inv X pins σ H s) (r:Vals vs us) (h:sp (vs++dvs) H Q E):wpAny (model X.prog X.w) X.A (call (.ref f) us) (EP X pins σ Q) X.xe s:=by
 have B:Vals (vs++dvs) (us++ds):=r.append U;have W:(us++ds).length=ps.length:=by rw[<- B.length];exact F.len _ _ _ _ h
 refine wpAny_call (zbR (F.run X.A X.stack s H ⟨us,[]⟩ (us++ds) (vs++dvs) Q E Y I.env0 (J s us I.kIn W) B h) λr s' q=>?_);cases r with
 | error e=>exact N pins σ H s e s' I q
 | ok fl=>
  cases fl with
  | ret u=>exact I.after q
  | next=>exact ZT q
  | brk=>exact ZT q
  | cont=>exact ZT q
theorem KA(F:FnOk X.prog X.w X.K X.mg X.base CX k f fd ps sp)(hr:Room k X.A)(hg:Gl X x)(Y:X.mg x=some (.ref f))(hk:zaw X.K (.ref f)=true)(W:Binds X.K fd ps ds)(hd:Vals dvs ds)(hx:qR CX X E)
  (ha:PA X (e::es) t) (J:(x == ("__debug__" : Str))=false:=by decide) (U:YG (e::es) X.env=(false,eval e X.env)::YG es X.env:=by rfl) (B:(YO pos (YG es X.env)).any (·.1)=false:=by rfl) :
  PE X (.Call (.Name x p) (e::es) [] pos) (TX sp dvs E t):=by
 intro pins s σ H Q I h;refine zbr (jT I hg Y ?_ J);refine zbS (h₀:=X.base) I.ok.mod.kin hk (bL (ha pos pins s σ H _ I h) λus s1 ⟨vs,H1,N,r,q⟩=>⟨N.kIn,?_⟩) U B;exact y9 F hr W hd hx N r q
structure Mk(K:YH)(C f:Addr):Prop where
 makes:zcs K C=true
 init:zak K (.ref C) "__init__" = some (some (.ref f))
 fn:PySem.W.isFn K (.ref f)=true
 kp:zaw K (.ref C)=true
theorem FA(M:Mk X.K C f)(F:FnOk X.prog X.w X.K X.mg X.base CX k f fd ps sp)(hr:Room (k+1) X.A)(U:Binds X.K fd ps ds)(hd:Vals dvs ds)
  (W:qR CX X E) (I:Inv X pins σ H s) (r:Vals vs us)
  (h:∀x dx,H x=none->H dx=none->dx≠x->sp (.ref x::(vs++dvs)) (upd (upd H dx (.own x)) x (.ins C dx [])) (λv H2=>v=.non/\Q (.ref x) H2) E) :
  wpAny (model X.prog X.w) X.A (call (.ref C) us) (EP X pins σ Q) X.xe s:=by
 have N:=h (s.heap.objs.size+1) s.heap.objs.size (I.hok.fresh (zan _)) (I.hok.fresh (YS _)) (ZE (zbq _));have B:=Inv.made (C:=C) I;have J:Vals (V.ref (s.heap.objs.size+1)::(vs++dvs)) (Y5 (s.heap.objs.size+1)::(us++ds)):=.cons rfl (r.append hd);have hl:(Y5 (s.heap.objs.size+1)::us++ds).length=ps.length:=by
  have e:=J.length;rw[F.len _ _ _ _ N]at e;exact e.symm
 refine wpAny_call (EY (f:=f) I.kIn M.makes M.init (beq_iff_eq.mp M.fn) (zbR (F.run _ X.stack _ _ ⟨Y5 (s.heap.objs.size+1)::us,[]⟩ (Y5 (s.heap.objs.size+1)::(us++ds)) _ _ E (hr.make C us [])
  (B.env0.make C us []) (U _ (Y5 (s.heap.objs.size+1)::us) B.kIn hl) J N) λr s' q=>?_))
 cases r with
 | error e=>exact W pins σ _ _ e s' B q
 | ok fl=>
  cases fl with
  | ret u=>
   obtain⟨v,H',I3,Y,ev,q3⟩:=B.after q;subst ev;exact⟨Y,⟨V.ref (s.heap.objs.size+1),H',I3,rfl,q3⟩⟩
  | next=>exact ZT q
  | brk=>exact ZT q
  | cont=>exact ZT q
theorem JS(M:Mk X.K C f)(F:FnOk X.prog X.w X.K X.mg X.base CX k f fd ps sp)(hr:Room (k+1) X.A)(hg:Gl X x)(Y:X.mg x=some (.ref C))(W:Binds X.K fd ps ds)(hd:Vals dvs ds)(hx:qR CX X E)
  (ha:PA X (e::es) t) (J:(x == ("__debug__" : Str))=false:=by decide) (U:YG (e::es) X.env=(false,eval e X.env)::YG es X.env:=by rfl) (B:(YO pos (YG es X.env)).any (·.1)=false:=by rfl) :
  PE X (.Call (.Name x p) (e::es) [] pos) (SS C sp dvs E t):=by
 intro pins s σ H Q I h;refine zbr (jT I hg Y ?_ J);refine zbS (h₀:=X.base) I.ok.mod.kin M.kp (bL (ha pos pins s σ H _ I h) λus s1 ⟨vs,H1,N,r,q⟩=>⟨N.kIn,?_⟩) U B;exact FA M F hr W hd hx N r q
end
def PK(X:Cx)(kws:List ZO)(t:TA):Prop:=
 ∀(pos:Pos) (pins:List (Addr×Obj)) (s:YE) (σ:St) (H:Hp) (Q:List V->Hp->Prop),Inv X pins σ H s->t σ H Q->wpAny (model X.prog X.w) X.A (evalAll ((ZZ pos (Z0 kws X.env)).map (·.2))) (AP X pins σ Q) X.xe s
section
variable {X:Cx}{CX:DN}{k:Nat}{f C:Addr}{fd:ZY}{ps ks:List Str}{sp:Sp}{E:XK}{x m:Str}{p pos apos kpos:Pos}{e o:Expr}{es:List Expr}{kws:List ZO}{te ta:TE}{t tk:TA}{nm:Option Str}
theorem N8:PK X [] HL:=λ_ _ _ _ H Q I h=>wpAny_evalAll_nil ⟨[],H,I,.nil,h⟩
theorem JN(ha:PE X e te)(U:PK X kws t):PK X (⟨nm,e,kpos⟩::kws) (rH te t):=by
 intro pos pins s σ H Q I h;show wpAny _ _ (evalAll ((do let v <- eval e X.env;standAt pos;pure v)::(ZZ pos (Z0 kws X.env)).map (·.2))) _ _ s;refine wpAny_evalAll_cons (YF (bL (ha pins s σ H _ I h) λu J ⟨x,H1,q,N,q1⟩=>YF (zbG (YL ?_))));exact bL (U pos pins J σ H1 _ q q1) λW Y ⟨xs,H2,B,F,q2⟩=>⟨x::xs,H2,B,.cons N F,q2⟩
variable {g:List Value->List Value->List Value}{gV:List V->List V->List V}
end
structure FnScope(N P:List Str)(sc:Scope):Prop where
 kind:sc.kind=.function
 co:sc.isCoroutine=false
 gen:sc.isGenerator=false
 nd:N.Nodup
 pre:N.take P.length=P
 par:∀x∈P,sc.names.lookup x=some .local\/sc.names.lookup x=some .cell
 nofree:∀y∈sc.names,y.2≠.free
theorem sC{Z1:Str->Option zax}:∀ {binds:List (Str×Value)} {m:Str->Option Value},(∀v,(x,v)∉binds)->bindL Z1 binds m x=m x
 | [],_,_=>rfl
 | (n,v)::r,m,h=>by
  unfold bindL;rw[sC λw hw=>h w (YW _ hw)];split
  ·have:x≠n:=by rintro rfl;exact h v YQ
   simp[this]
  ·rfl
theorem sO{Z1:Str->Option zax}:∀ {binds:List (Str×Value)} {m:Str->Option Value},(∀v,(x,v)∉binds)->bindC Z1 binds m x=m x
 | [],_,_=>rfl
 | (n,v)::r,m,h=>by
  unfold bindC;rw[sO λw hw=>h w (YW _ hw)];split
  ·rfl
  ·have:x≠n:=by rintro rfl;exact h v YQ
   simp[this]
theorem sY{Z1:Str->Option zax}{x:Str}{v:Value}:∀ {P:List Str} {vs:List Value} {i:Nat} {m:Str->Option Value},P.Nodup->P[i]?=some x->vs[i]?=some v->Z1 x=some .local->
  bindL Z1 (P.zip vs) m x=some v
 | [],_,_,_,_,h,_,_=>by simp at h
 | _::_,[],_,_,_,_,h,_=>by simp at h
 | p::P,w::vs,0,m,nd,h1,h2,hk=>by
  simp at h1 h2;subst h1;subst h2;show bindL Z1 ((p,w)::P.zip vs) m p=_;unfold bindL;rw[sC λv q=>(List.nodup_cons.mp nd).1 (zct q).1,if_pos hk];simp
 | p::P,w::vs,i+1,m,nd,h1,h2,hk=>by
  show bindL Z1 ((p,w)::P.zip vs) m x=_;unfold bindL;exact sY (i:=i) (List.nodup_cons.mp nd).2 (by simpa using h1) (by simpa using h2) hk
theorem tH{Z1:Str->Option zax}{x:Str}{v:Value}:∀ {P:List Str} {vs:List Value} {i:Nat} {m:Str->Option Value},P.Nodup->P[i]?=some x->vs[i]?=some v->Z1 x≠some .local->
  bindC Z1 (P.zip vs) m x=some v
 | [],_,_,_,_,h,_,_=>by simp at h
 | _::_,[],_,_,_,_,h,_=>by simp at h
 | p::P,w::vs,0,m,nd,h1,h2,hk=>by
  simp at h1 h2;subst h1;subst h2;show bindC Z1 ((p,w)::P.zip vs) m p=_;unfold bindC;rw[sO λv q=>(List.nodup_cons.mp nd).1 (zct q).1,if_neg hk];simp
 | p::P,w::vs,i+1,m,nd,h1,h2,hk=>by
  show bindC Z1 ((p,w)::P.zip vs) m x=_;unfold bindC;exact tH (i:=i) (List.nodup_cons.mp nd).2 (by simpa using h1) (by simpa using h2) hk
def start(N:List Str)(vs:List V):St:=vs.map some++zaS (N.length-vs.length) none
def eN(CX:DN)(P:YK)(w:World)(K:YH)(mg:Str->Option Value)(base:Heap)(N:List Str)(q:Str)(scope:Scope)(f:Addr)(F:Value)(A:YM)(outer:List Env)(s:YE)(H:Hp)(E:XK):Cx where
 prog:=P
 w:=w
 K:=K
 mg:=mg
 base:=base
 A:=A.deeper (Y2 q scope s.heap.objs.size f F)
 N:=N
 s₀:=s
 H₀:=H
 env:=Y2 q scope s.heap.objs.size f F
 outer:=outer
 stack:=Y2 q scope s.heap.objs.size f F::outer
 ex:=[]
 calm:=true
 fn:=λ_=>true
 pn:=[]
 xe:=λe s'=>wpAny (model P w) (A.deeper (Y2 q scope s.heap.objs.size f F)) (leaving (Y2 q scope s.heap.objs.size f F) e) (λ_ B=>CX outer H s E e B) (λJ B=>CX outer H s E J B) s'
theorem qB{sc:Scope}{n:Nat}{x:Str}(h:sc.names.lookup x=some .cell):∃c,(za3 n sc.names []).lookup x=some c:=by
 have q:=PySem.W.cellsFrom_some sc.names n [] (.inl h);exact Option.isSome_iff_exists.mp q
theorem BR{CX:DN}{P:YK}{w:World}{K:YH}{mg:Str->Option Value}{base:Heap}{N ps:List Str}{F:Str}{scope:Scope}{f:Addr}{cd:Value}{A:YM}{B:List Env}{s s1:YE}{H:Hp}{E:XK}{us:List Value}{vs:List V}
  (S:FnScope N ps scope) (hd:A.handled=none) (J:Env0 P w K mg base A B s H) (hl:vs.length=ps.length) (r:Vals vs us)
  (x:InCallC s s.heap.objs.size (bindL (Y2 F scope s.heap.objs.size f cd).kindOf (ps.zip us) λ_=>none) (za3 (s.heap.objs.size+1) scope.names []) (bindC (Y2 F scope s.heap.objs.size f cd).kindOf (ps.zip us) λ_=>none) s1) :
  Inv (eN CX P w K mg base N F scope f cd A B s H E) [] (start N vs) H s1:=by
 have ag:ps.length<=N.length:=by have:=congrArg zay S.pre;rw[za4]at this;lia
 obtain⟨h1,tk,rfl,hk⟩:=x.done;have U:∀b:Addr,b∉(eN CX P w K mg base N F scope f cd A B s H E).ex:=λb z=>absurd (show b∈([]:List Addr)from z) (by simp)
 refine⟨⟨J.mod,S.kind,rfl,rfl,YS _,λy z c h1 h2=>?_,λy W=>?_,λy c _ h=>?_,λ_=>hd,Around.frames_deeper J.frames,.inr ⟨rfl,rfl⟩,λb z=>absurd z (U b),J.bs,J.bsz,λb _ _=>U b,λb z=>absurd z (U b),J.funs,J.frf⟩,
  rfl,J.bare,Un.kept hk,⟨_,x.toInCall.ns,λi y v h1 h2 h3=>?_⟩,λy c h=>⟨_,x.cell y c h⟩,J.hok.fresh (YS _),λy c h=>?_,λp Y=>absurd (show p∈([]:List (Addr×Obj))from Y) (by simp),J.hok.kept hk,?_⟩
 ·exact name_of_addr x.apart (zbs h1) (zbs h2)
 ·have W:scope.names.lookup y=some .cell\/scope.names.lookup y=some .free:=W
  rcases W with W|W
  ·exact qB W
  ·exact absurd rfl (S.nofree _ (zbs W))
 ·exact Nat.le_of_lt (x.above y c (zbs h))
 ·have hi:i<vs.length:=by
   unfold start at h2;by_cases hi:i<vs.length
   ·exact hi
   ·rw[zbT (by simpa using hi)]at h2
    rw[zbU]at h2;split at h2 <;> cases h2
  have ha:vs[i]?=some v:=by
   unfold start at h2;rw[za5 (by simpa using hi),ZJ]at h2;cases e:vs[i]? with
   | none=>rw[e]at h2;cases h2
   | some a=>rw[e]at h2;cases h2;rfl
  obtain⟨u,hu,rv⟩:=r.get ha;have Y:ps[i]?=some y:=by
   rw[<- S.pre,List.getElem?_take_of_lt (by lia)];exact h1
  have aa:ps.Nodup:=by rw[<- S.pre];exact S.nd.sublist (List.take_sublist _ _)
  refine⟨u,rv,?_⟩;rcases S.par y (zbe Y)with k|k
  ·exact .inl ⟨k,sY aa Y hu k⟩
  ·obtain⟨c,e⟩:=qB (n:=s.heap.objs.size+1) k
   refine .inr ⟨.inl k,c,e,?_⟩;have q:=x.cell y c e;rw[tH aa Y hu (by show scope.names.lookup y≠_;rw[k];decide)]at q;exact q
 ·exact J.hok.fresh (Nat.le_of_lt (x.above y c (zbs h)))
 ·unfold start
  show _=N.length;rw[ZG,YV,List.length_replicate]
  lia
theorem R4{CX:DN}{P:YK}{w:World}{K:YH}{mg:Str->Option Value}{base:Heap}{k:Nat}{f:Addr}{name F:Str}{Y:Arguments}{aa:List Stmt}{scope:Scope}{dV kV ah pm U ct oc:Value}{an od:Option Addr}
  {am:Array (Option Value)} {N ps:List Str} {sp:Sp} (lk:K.lookup f=some ⟨oc,od,.func (Z2 name F Y aa scope dV kV ah pm an U ct),am⟩) (ak:za6 K U F=true) (S:FnScope N ps scope)
  (len:∀vs H Q E,sp vs H Q E->vs.length=ps.length)
  (ac:∀(A:YM) (B:List Env) (s:YE) (H:Hp) (vs:List V) (Q:VK) (E:XK), Room k (A.deeper (Y2 F scope s.heap.objs.size f U)) -> sp vs H Q E ->
   ∃t,PSs (eN CX P w K mg base N F scope f U A B s H E) aa t/\t {nx:=λ_ H'=>Q .non H',rt:=Q} (start N vs) H) :
  FnOk P w K mg base CX (k+1) f (Z2 name F Y aa scope dV kV ah pm an U ct) ps sp:=by
 refine⟨len,λA B s H args us vs Q E hr e0 hb r ag=>?_⟩;have hl:=len _ _ _ _ ag;have KX:K.In s.heap:=e0.mod.kin.keeps λb o e=>(e0.bs b o e).1
 have aj:s.heap.NoLimit:=e0.mod.nolimit.keeps λb o e=>(e0.bs b o e).1
 have ae:∀y∈ps.zip us,scope.names.lookup y.1=some .local\/(scope.names.lookup y.1=some .cell/\((za3 (s.heap.objs.size+1) scope.names []).lookup y.1).isSome=true):=by
  rintro⟨n,v⟩ hy;rcases S.par n (zct hy).1 with q|q
  ·exact .inl q
  ·exact .inr ⟨q,PySem.W.cellsFrom_some _ _ _ (.inl q)⟩
 refine codeAny_call_function hr.depth (KX _ _ lk) rfl S.co S.gen rfl (PySem.W.codeRec_of KX ak) (hb _ _ _ _ ?_);refine wpAny_newFunctionEnv_cells S.kind ae λenv he s1 x=>?_
 subst he;refine⟨aj.keeps x.toInCall.keep,codeAny_func ?_⟩;obtain⟨t,ht,hq⟩:=ac A B s H vs Q E (hr.deeper _) ag;have I:Inv (eN CX P w K mg base N F scope f U A B s H E) [] (start N vs) H s1:=BR S hr.hd e0 hl r x;refine ZR (ht [] s1 (start N vs) H _ I hq) (λfl s' hs=>?_) λe s' hs=>hs
 have fin:∀ {ab:St} {H':Hp} {v:V} {u:Value},Inv (eN CX P w K mg base N F scope f U A B s H E) [] ab H' s'->RelV v u->Q v H'->CE B P w H s Q u s':=
  λ{ab H' v u} J rv q=>⟨v,H',J.os,J.bare,J.base,J.hok,rv,q⟩
 cases fl with
 | ret u=>
  obtain⟨v,ab,H',J,rv,q⟩:=hs;exact fin J rv q
 | next=>
  obtain⟨ab,H',J,q⟩:=hs;exact fin (v:=V.non) (u:=ZW) J rfl q
 | brk=>
  obtain⟨_,_,_,q⟩:=hs;exact ZT q
 | cont=>
  obtain⟨_,_,_,q⟩:=hs;exact ZT q
section
variable {X:Cx}{x:Str}{p pos:Pos}{e:Expr}{es:List Expr}{t:TA}{id T:String}{r:List V->Hp->VK->Prop}
def W8(r:List V->Hp->VK->Prop)(t:TA):TE:=λσ H Q=>t σ H λvs H1=>r vs H1 Q
theorem vU(U:CallR X (.builtin id) r)(hg:Gl X x)(N:X.mg x=none)(W:ZA x=some (.builtin id))(ha:PA X (e::es) t)(hn:x ≠ "__name__" := by decide)(B:(x == ("__debug__" : Str))=false:=by decide)
  (F:YG (e::es) X.env=(false,eval e X.env)::YG es X.env:=by rfl) (q:(YO pos (YG es X.env)).any (·.1)=false:=by rfl):PE X (.Call (.Name x p) (e::es) [] pos) (W8 r t):=by
 intro pins s σ H Q I h;refine zbr (kQ I hg N W ?_ hn B);exact PyProof.Rows.callWith_builtin1 (bL (ha pos pins s σ H _ I h) λus Y ⟨vs,H1,J,r1,q1⟩=>U pins Y σ H1 vs us Q J r1 q1) F q
theorem CT(U:CallR X (.type T) r)(hg:Gl X x)(N:X.mg x=none)(W:ZA x=some (.type T))(ha:PA X (e::es) t)(hn:x ≠ "__name__" := by decide)(B:(x == ("__debug__" : Str))=false:=by decide)
  (F:YG (e::es) X.env=(false,eval e X.env)::YG es X.env:=by rfl) (q:(YO pos (YG es X.env)).any (·.1)=false:=by rfl):PE X (.Call (.Name x p) (e::es) [] pos) (W8 r t):=by
 intro pins s σ H Q I h;refine zbr (kQ I hg N W ?_ hn B);exact zbK (bL (ha pos pins s σ H _ I h) λus Y ⟨vs,H1,J,r1,q1⟩=>U pins Y σ H1 vs us Q J r1 q1) F q
end
end L2
namespace HT
open PySem PyProof.Rows
noncomputable def lexLt:List Int->List Int->Bool
 | [],[]=>false
 | [],_::_=>true
 | _::_,[]=>false
 | x::xs,y::ys=>if x=y then lexLt xs ys else decide (x<y)
theorem xY(x y:Int)(xs ys:List Int):lexLt (x::xs) (y::ys)=if x=y then lexLt xs ys else decide (x<y):=rfl
theorem rQ:lexLt [] []=false:=rfl
theorem pN(y:Int)(ys:List Int):lexLt [] (y::ys)=true:=rfl
theorem pM(x:Int)(xs:List Int):lexLt (x::xs) []=false:=rfl
theorem D6(A:YM)(s:YE)(a:Int)(t:Tok)(c:Int)(u:Tok):∃e,zaT A s (.int a t) (.int c u) e/\(e=true↔a=c):=
 ⟨(a == c),SeqAt.EqAt.int_int a t c u,by simp⟩
theorem D3(A:YM)(s:YE)(a:Int)(t:Tok)(c:Int)(u:Tok)(prog:YK)(w:World)(E:Value->YE->Prop)(Q:Value->YE->Prop)(h:Q (.bool (decide (a<c))) s) :
  wpAny (model prog w) A (richCompare .Lt (.int a t) (.int c u)) Q E s:=
 (PyProof.Rows.lt_int h:wpAny (model prog w) A (YR .Lt (.int a t) (.int c u)) Q E s)
section
open PySem.SeqAt
open PySem.AutoSeq1 (wpAny_loadPart')
open PySem.MeetsSeq PySem.MeetsSeq2 PySem.MeetsSeq3
theorem rU(l b:Addr)(items B:Array Value)(n n2:Nat)(dd aj:Option Addr)(sl ai:Array (Option Value))(ns ms:List Int)(hi:Z3 items.toList ns)(hj:Z3 B.toList ms) :
  Meets (Builtin.«tuple.__lt__» ⟨[.ref l,.ref b],[]⟩)
   (λ_ R s => s.heap.get? l = some {cls := .type "tuple", dict:=dd, data := .seq items n, slots:=sl} /\ s.heap.get? b = some {cls := .type "tuple", dict:=aj, data := .seq B n2, slots:=ai} /\
    R (.ok (.ret (.bool (lexLt ns ms)))) s):=
 .of_wp λprog w A R s h=>by
  obtain⟨hp,g,d,tk,os⟩:=s;obtain⟨hl,hb,h⟩:=h;have f2:=AutoSeq1.sub_tuple_tuple;have z1:items.size=ns.length:=by rw[<- hi.length];simp
  have z2:B.size=ms.length:=by rw[<- hj.length];simp
  wp_walk using zaM hl,zaM hb,wpAny_forIn_list _ (λrest b s'=>b.1=none/\s'=⟨hp,g,d,tk,os⟩/\∃(vs ws:List Value) (J N:List Int),rest=vs.zip ws /\
   Z3 vs J/\Z3 ws N/\J.length+B.size=N.length+items.size/\R (.ok (.ret (.bool (lexLt J N)))) ⟨hp,g,d,tk,os⟩) _
  case turn=>
   rintro⟨y,x⟩ rest b s' ⟨ab,rfl,vs,ws,J,N,W,ac,U,F,Y⟩;cases ac with
   | nil=>rw[List.zip_nil_left]at W;cases W
   | cons a t hvi'=>
    cases U with
    | nil=>rw[List.zip_nil_right]at W;cases W
    | cons c u hwi'=>
     rw[List.zip_cons_cons]at W;injection W with hyx hrest
     injection hyx with hy hx
     subst hy hx;rw[xY]at Y;simp only[Y7]at F;obtain⟨e,he,aa⟩:=D6 A.in1 ⟨hp,g,d,tk,os⟩ a t c u;refine YF (he prog w _ _ ?_);cases e with
     | true=>
      rw[if_pos (aa.mp rfl)]at Y
      wp_walk
      exact⟨rfl,rfl,_,_,_,_,hrest,hvi',hwi',by lia,Y⟩
     | false=>
      rw[if_neg (λq=>absurd (aa.mpr q) YX)]at Y;have ah:=D3 A.in1 ⟨hp,g,d,tk,os⟩ a t c u prog w
      wp_walk using ah
      exact⟨_,rfl,by simpa using Y⟩
  case fin=>
   rintro⟨b1,b2⟩ s' ⟨ab,rfl,vs,ws,J,N,W,ac,U,F,Y⟩;simp only at ab;subst ab;have hv:lexLt J N=decide (items.size<B.size):=by
    cases ac with
    | nil=>
     cases U with
     | nil=>
      simp only[zaz]at F;rw[rQ];exact(decide_eq_false (by lia)).symm
     | cons c u hw=>
      simp only[zaz,Y7]at F;rw[pN];exact(decide_eq_true (by lia)).symm
    | cons a t hv=>
     cases U with
     | nil=>
      simp only[zaz,Y7]at F;rw[pM];exact(decide_eq_false (by lia)).symm
     | cons c u hw=>
      rw[List.zip_cons_cons]at W;cases W
   rw[hv]at Y
   wp_walk
   exact⟨_,rfl,by simpa[Builtin.Tuple.tupleCompareSizes]using Y⟩
  case h=>
   exact⟨rfl,rfl,items.toList,B.toList,ns,ms,rfl,hi,hj,by lia,h⟩
end
section
variable {prog:YK}{w:World}{A:YM}{E:Value->YE->Prop}{s:YE}
theorem xV(hl:IsTup s.heap l items)(hb:IsTup s.heap b items2)(hi:Z3 items.toList ns)(hj:Z3 items2.toList ms)
  (hu:A.units<cLine) (h:Q (.bool (lexLt ns ms)) s):wpAny (model prog w) A (YR .Lt (.ref l) (.ref b)) Q E s:=by
 obtain⟨⟨cls,dd,data,sl⟩,ho,hc,n,hd⟩:=id hl;obtain⟨⟨Y,N,U,W⟩,J,B,n2,q⟩:=id hb;simp only at hc hd B q;subst hc hd B q;exact richCompare_meets_room (op:=.Lt) ⟨_,ho,rfl⟩ ⟨_,J,rfl⟩ PySem.F.slot_tuple_lt PySem.F.entry_tuple_lt (PySem.F.args_tuple_lt_2 _ _) (rU l b items items2 n n2 dd N sl W ns ms hi hj)
  ⟨ho,J,show zbn (lexLt ns ms)≠Value.notImplemented/\Q (.bool (lexLt ns ms)) s from⟨(λx=>nomatch x),h⟩⟩ hu
theorem JL(ht:IsTup s.heap t vs.toArray)(hb:IsTup s.heap b ws.toArray)(hv:vs≠[])
  (h1:ws=[]->Q (.ref t) s) (h2:ws≠[]->Q (.ref s.heap.objs.size) {s with heap:=s.heap.push {cls:=.type "tuple",data:=.seq (vs++ws).toArray} })
  (Y:vs.length+ws.length<=YN):wpAny (model prog w) A (ZC .Add (.ref t) (.ref b)) Q E s:=by
 obtain⟨⟨cls,dd,data,sl⟩,U,hc,n,hd⟩:=id ht;obtain⟨⟨ac,F,W,N⟩,q,J,n2,B⟩:=id hb;simp only at hc hd J B;subst hc hd J B;have e:vs.toArray++ws.toArray=(vs++ws).toArray:=by simp
 by_cases hw:ws=[]
 ·exact concat_meets ⟨_,U,rfl⟩ ⟨_,q,rfl⟩ zcu seq_tuple_add zcv zcw (zcx _ _)
   (tuple_addW1 t b vs.toArray ws.toArray n n2 dd F sl N (by simpa using hv) (by simp[hw])) ⟨U,q,h1 hw⟩
 ·refine concat_meets ⟨_,U,rfl⟩ ⟨_,q,rfl⟩ zcu seq_tuple_add zcv zcw (zcx _ _)
   (tuple_addW2 t b vs.toArray ws.toArray n n2 dd F sl N (by simpa using hv) (by simpa using hw) (by rw[Y1,Y1];exact Y)) ⟨U,q,?_⟩
  rw[e];exact h2 hw
noncomputable def sIx(n d:Nat):Option Int->Nat
 | none=>d
 | some v=>if v<0 then(v+(n:Int)).toNat else min v.toNat n
theorem P4(n d:Nat)(B:d<=n)(o:Option Int):sIx n d o<=n:=by
 cases o with
 | none=>exact B
 | some v=>
  show(if v<0 then(v+(n:Int)).toNat else min v.toNat n)<=n;by_cases q:v<0
  ·rw[if_pos q];lia
  ·rw[if_neg q];exact Nat.min_le_right _ _
theorem AW(v:Int)(n d:Nat):(if v<0 then max (v+(n:Int)) 0 else min v (n:Int))=((sIx n d (some v):Nat):Int):=by
 show(if v<0 then max (v+(n:Int)) 0 else min v (n:Int))=(((if v<0 then(v+(n:Int)).toNat else min v.toNat n):Nat):Int);by_cases q:v<0
 ·simp only[if_pos q];lia
 ·simp only[if_neg q];lia
theorem yO(lo hi:Option Int)(n:Nat):zcy lo hi 1 (n:Int)=(((sIx n 0 lo:Nat):Int),((sIx n n hi:Nat):Int)):=by
 have h1:¬ ((1:Int)<0):=by lia
 unfold zcy;simp only[h1,if_false];refine Prod.ext ?_ ?_
 ·cases lo with
  | none=>rfl
  | some v=>exact AW v n 0
 ·cases hi with
  | none=>rfl
  | some v=>exact AW v n n
theorem yC(i j:Nat):zbV (i:Int) (j:Int) 1=j-i:=by
 unfold zbV;have h1:(1:Int)>0:=by lia
 simp only[h1,if_true,Int.ediv_one];split <;> lia
theorem pU(p:zaA v o)(h:Q o s):wpAny (model prog w) A (Builtin.Slice.slicePartIndex v) Q E s:=by
 cases p with
 | none=>exact slicePart_none h
 | int i t=>exact slicePart_int h
theorem gP{N:Addr}{J F:Value}{lo hi:Option Int}{n:Nat}{Q:Int×Int×Nat->YE->Prop}(hs:s.heap.IsSliceOf N J F .none)(Y:zaA J lo)(W:zaA F hi)
  (h:Q (((sIx n 0 lo:Nat):Int),1,sIx n n hi-sIx n 0 lo) s):wpAny (model prog w) A (Builtin.Slice.sliceApplied (.ref N) (pure (n:Int))) Q E s:=by
 obtain⟨os,B,U,q⟩:=id hs;unfold Builtin.Slice.sliceApplied Builtin.Slice.sliceFields;refine YF (YF (zac B q (x:=J) rfl (YF (zac B q (x:=F) rfl (YF (zac B q (x:=.none) rfl (YL ?_)))))));refine YF (slicePart_none ?_);show wpAny _ _ (if((1:Int) == 0)=true then _ else _) _ _ s;rw[if_neg (by decide)];refine YF (pU Y (YF (pU W (YF (YL ?_)))));show wpAny _ _ (match zcy lo hi 1 (n:Int)with|(lo,hi)=>pure (lo,(1:Int),zbV lo hi 1)) _ _ s;rw[yO lo hi n];show wpAny _ _ (pure (((sIx n 0 lo:Nat):Int),(1:Int),zbV ((sIx n 0 lo:Nat):Int) ((sIx n n hi:Nat):Int) 1)) _ _ s;rw[yC];exact YL h
theorem EW(xs:Array Value)(i k:Nat):((Z6 k).filterMap λ(m:Nat)=>xs[((i:Int)+(m:Int)*1).toNat]?).toArray=((xs.toList.drop i).take k).toArray:=by
 have e:(λ(m:Nat)=>xs[((i:Int)+(m:Int)*1).toNat]?)=λm=>xs[i+m]?:=by
  funext m;have:((i:Int)+(m:Int)*1).toNat=i+m:=by lia
  rw[this]
 rw[e];have:=pick_run xs i k;rw[List.filterMap_map]at this;have q:((λx=>xs[x]?) ∘ λx=>i+x)=λm=>xs[i+m]?:=rfl
 rw[q]at this;rw[this]
theorem k5{t W:Addr}{items:Array Value}{vl vu:Value}{lo hi:Option Int}{Q:Value->YE->Prop}(F:IsTup s.heap t items)(hs:s.heap.IsSliceOf W vl vu .none)(pl:zaA vl lo)(pu:zaA vu hi)
  (hw:¬ (sIx items.size 0 lo=0/\sIx items.size items.size hi=items.size))
  (h:Q (.ref s.heap.objs.size) {s with heap:=s.heap.push {cls:=.type "tuple",data:=.seq ((items.toList.drop (sIx items.size 0 lo)).take (sIx items.size items.size hi-sIx items.size 0 lo)).toArray} })
  (ae:items.size<=YN):wpAny (model prog w) A (zaB (.ref t) (.ref W)) Q E s:=by
 have B:sizeOk (.seq ((items.toList.drop (sIx items.size 0 lo)).take (sIx items.size items.size hi-sIx items.size 0 lo)).toArray):=by
  show((items.toList.drop (sIx items.size 0 lo)).take (sIx items.size items.size hi-sIx items.size 0 lo)).toArray.size<=YN;rw[Y1,za4,zcz,zaK]
  lia
 have hj:sIx items.size items.size hi<=items.size:=P4 _ _ (YS _) hi;obtain⟨os,Y,N,ac⟩:=id hs;have U:s.TypeIs (.ref W) "slice" := ⟨os,Y,N⟩;unfold zaB
 try with_reducible refine zaR ?_
 first|refine YF (YL ?_)|skip
 refine YF (wpAny_sequenceKey F.typeIs (by decide) ?_);refine YF (zaU (name:=ZQ "__getitem__") F.typeIs zbW
  (zaC zbW F.typeIs entry_tuple_getitem ?_ (args_tuple_getitem _ _)))
 show wpAny _ _ (zcA (.ref t) >>= _) _ _ s;refine YF (tupleItemsOf_ F ?_);refine YF (wpAny_typeOf U ?_);rw[if_pos (by decide)];refine YF (gP hs pl pu ?_);have J:¬ ((((sIx items.size 0 lo:Nat):Int) == 0 && (1:Int) == 1 && (sIx items.size items.size hi-sIx items.size 0 lo) == items.size)=true):=by
  intro q;rw[ZK,ZK]at q;have q1:((sIx items.size 0 lo:Nat):Int)=0:=eq_of_beq q.1.1;have q2:sIx items.size items.size hi-sIx items.size 0 lo=items.size:=eq_of_beq q.2;exact hw ⟨by lia,by lia⟩
 show wpAny _ _ (if(((sIx items.size 0 lo:Nat):Int) == 0 && (1:Int) == 1 && (sIx items.size items.size hi-sIx items.size 0 lo) == items.size)=true then _ else _) _ _ s;rw[if_neg J,EW]
 first
  | exact YF (m:=zbX _) (zaD (YL ⟨_,rfl,YL h⟩) B)
  | exact YF (m:=zbX _) (zaD (YF (YL (YL ⟨_,rfl,YL h⟩))) B)
  | exact YF (YF (m:=zbX _) (zaD (YL (YL ⟨_,rfl,YL h⟩)) B))
  | exact YF (YF (m:=zbX _) (zaD (YL ⟨_,rfl,YL h⟩) B))
end
end HT
namespace L2
open PySem PySem.Spec PyProof.Rows
abbrev TO:=St->Hp->(Option Int->Hp->Prop)->Prop
def PO(X:Cx)(e:Option Expr)(t:TO):Prop:=
 ∀(pins:List (Addr×Obj)) (s:YE) (σ:St) (H:Hp) (Q:Option Int->Hp->Prop),Inv X pins σ H s->t σ H Q->
  wpAny (model X.prog X.w) X.A (evalPart e X.env) (λu s'=>∃o H',Inv X pins σ H' s'/\zaA u o/\Q o H') X.xe s
def JT:TO:=λ_ H Q=>Q none H
def R3(t:TE):TO:=λσ H Q=>t σ H λx H1=>∃i,x=.int i/\Q (some i) H1
theorem intsAre_of:∀ {q:List Value},Vals (ns.map V.int) q->Z3 q ns:=by
 induction ns with
 | nil=>intro q r;rw[za7]at r;cases r;exact .nil
 | cons n ns ih=>
  intro q r;rw[Y4]at r;cases r with
  | cons r1 r2=>
   obtain⟨t,e⟩:=r1;subst e;exact .cons n t (ih r2)
section
variable {X:Cx}{e:Expr}{te:TE}{lo hi:Option Expr}{tl th:TO}{pos p2:Pos}
theorem JR:PO X none JT:=by
 intro pins s σ H Q I h;rw[evalPart_none];exact YL ⟨none,H,I,.none,h⟩
theorem KN(h:PE X e te):PO X (some e) (R3 te):=by
 intro pins s σ H Q I hw;rw[evalPart_some];refine bL (h pins s σ H _ I hw) λu J ⟨x,H1,B,F,q1⟩=>?_
 obtain⟨i,rfl,q⟩:=q1;obtain⟨t,rfl⟩:=F;exact⟨some i,H1,B,.int i t,q⟩
def SlR(X:Cx)(r:V->Option Int->Option Int->Hp->VK->Prop):Prop:=
 ∀(pins:List (Addr×Obj)) (s:YE) (σ:St) (H:Hp) (x:V) (v vl vu:Value) (lo hi:Option Int) (sl:Addr) (Q:VK),Inv X pins σ H s->RelV x v->s.heap.IsSliceOf sl vl vu .none->zaA vl lo->zaA vu hi->r x lo hi H Q->
  ∃T id,typeLookup (.type T) "__getitem__" = pure (some (.builtin id))/\s.TypeIs v T/\wpAny (model X.prog X.w) X.A (zaB v (.ref sl)) (EP X pins σ Q) X.xe s
theorem SlR.or(h:SlR X r)(h':SlR X r'):SlR X (λx lo hi H Q=>r x lo hi H Q\/r' x lo hi H Q):=by
 intro pins s σ H x v F B lo hi J Q I W hs U N q;rcases q with q|q
 ·exact h pins s σ H x v F B lo hi J Q I W hs U N q
 ·exact h' pins s σ H x v F B lo hi J Q I W hs U N q
def YB(r:V->Option Int->Option Int->Hp->VK->Prop)(te:TE)(tl th:TO):TE:=λσ H Q=>te σ H λx H1=>tl σ H1 λl H2=>th σ H2 λu q=>r x l u q Q
theorem FH(hr:SlR X r)(he:PE X e te)(hl:PO X lo tl)(hu:PO X hi th):PE X (.Subscript e (.Slice lo hi none p2) pos) (YB r te tl th):=by
 intro pins s σ H Q I h;refine Subscript_ (bL (he pins s σ H _ I h) λv s1 ⟨x,H1,I1,r1,q1⟩=>?_);refine wpAny_Slice (bL (hl pins s1 σ H1 _ I1 q1) λF W ⟨l,H2,I2,pl,q2⟩=>bL (hu pins W σ H2 _ I2 q2) λJ B ⟨u,N,I3,Y,q3⟩=>?_);rw[evalPart_none];refine YL ?_;have U:Inv X pins σ N {B with heap:=B.heap.push {cls:=.type "slice",data:=.fields #[F,J,.none]} }:=I3.kept (t':=B.toks) λb ob q=>YY _ q
 obtain⟨T,id,hT,ht,hg⟩:=hr pins {B with heap:=B.heap.push {cls:=.type "slice",data:=.fields #[F,J,.none]} } σ N x v F J l u B.heap.objs.size Q U r1 (Heap.IsSliceOf.new ..) pl Y q3;show wpAny (model X.prog X.w) X.A (subscriptTail e (.Slice lo hi none p2) v (.ref B.heap.objs.size)) (EP X pins σ Q) X.xe {B with heap:=B.heap.push {cls:=.type "slice",data:=.fields #[F,J,.none]} };exact tail_any (ops:=[.ref B.heap.objs.size,v]) ht hT hg (by with_unfolding_all rfl)
def rV(xs:List V)(lo hi:Option Int):List V:=(xs.drop (HT.sIx xs.length 0 lo)).take (HT.sIx xs.length xs.length hi-HT.sIx xs.length 0 lo)
theorem n9(xs:List V)(lo hi:Option Int):(rV xs lo hi).length<=xs.length:=by
 unfold rV;rw[za4,zcz]
 lia
def T4(K:YH):V->Option Int->Option Int->Hp->VK->Prop:=λx lo hi H Q=>∃a xs,x=.ref a/\SqT K H a xs /\
 ¬ (HT.sIx xs.length 0 lo=0/\HT.sIx xs.length xs.length hi=xs.length)/\∀p,H p=none->Q (.ref p) (upd H p (.tup (rV xs lo hi)))
theorem OG:SlR X (T4 X.K):=by
 intro pins s σ H x v vl vu lo hi sl Q I rx hs Y W h;obtain⟨a,xs,rfl,U,hw,q⟩:=h;cases rx;obtain⟨F,r,J,N⟩:=I.tuple U;have B:F.toArray.size=xs.length:=by rw[Y1];exact r.length.symm
 refine⟨"tuple",_,PyProof.Rows.slot_tuple_getitem.lookup,J.typeIs,?_⟩;refine HT.k5 J hs Y W (by rw[B];exact hw) ?_ (by rw[B];exact N);rw[B];refine⟨.ref s.heap.objs.size,_,I.laid (t':=s.toks) (o:=.tup (rV xs lo hi)) (λb ob q=>YY _ q) (YS _) ?_,rfl,q _ (I.hok.fresh (YS _))⟩;exact⟨ZF (n9 xs lo hi) N,_,(r.drop (HT.sIx xs.length 0 lo)).take (HT.sIx xs.length xs.length hi-HT.sIx xs.length 0 lo),IsTupN.new _ _⟩
def VD(K:YH):R2:=λx y H Q=>∃a b ns ms,x=.ref a/\y=.ref b/\SqT K H a (ns.map V.int)/\SqT K H b (ms.map V.int)/\Q (.bl (HT.lexLt ns ms)) H
theorem OA(Y:X.A.units<cLine):OpR X (YR .Lt) (VD X.K):=by
 intro pins s σ H x y v u Q I rx ry h;obtain⟨a,b,ns,ms,rfl,rfl,ha,N,q⟩:=h;cases rx;cases ry;obtain⟨F,r1,J,_⟩:=I.tuple ha;obtain⟨B,U,p2,_⟩:=I.tuple N;have i1:Z3 F.toArray.toList ns:=intsAre_of r1;have W:Z3 B.toArray.toList ms:=intsAre_of U;exact HT.xV J p2 i1 W Y ⟨.bl (HT.lexLt ns ms),H,I,rfl,q⟩
def SY(K:YH):R2:=λx y H Q=>∃a b xs ys,x=.ref a/\y=.ref b/\SqT K H a xs/\SqT K H b ys/\xs≠[]/\xs.length+ys.length<=YN /\
 (ys=[]->Q (.ref a) H)/\(ys≠[]->∀p,H p=none->Q (.ref p) (upd H p (.tup (xs++ys))))
theorem Vals.nil_iff(r:Vals xs us):us=[]↔xs=[]:=by
 cases r with
 | nil=>simp
 | cons _ _=>simp
theorem JE:OpR X (ZC .Add) (SY X.K):=by
 intro pins s σ H x y v u Q I rx ry h;obtain⟨a,b,xs,ys,rfl,rfl,ha,W,hx,N,q1,q2⟩:=h;cases rx;cases ry;obtain⟨Y,F,U,_⟩:=I.tuple ha;obtain⟨J,B,p2,_⟩:=I.tuple W;refine HT.JL U p2 (λz=>hx (F.nil_iff.mp z)) (λz=>⟨.ref a,H,I,rfl,q1 (B.nil_iff.mp z)⟩) (λz=>?_) (by rw[<- F.length,<- B.length];exact N);refine⟨.ref s.heap.objs.size,_,I.laid (t':=s.toks) (o:=.tup (xs++ys)) (λb ob q=>YY _ q) (YS _) ?_,rfl,q2 (λw=>z (B.nil_iff.mpr w)) _ (I.hok.fresh (YS _))⟩;exact⟨by rw[ZG];exact N,_,F.append B,IsTupN.new _ _⟩
end
noncomputable def IC(n:Nat)(i:Int):Option Nat:=if 0<=i then(if i<n then some i.toNat else none)else if -(n:Int)<=i then some (i+n).toNat else none
def rP{α:Type}(xs:List α)(i:Int):Option α:=(IC xs.length i).bind λj=>xs[j]?
theorem AJ(h:IC n i=some j):seqIndex? i n=some j/\j<n/\-(n:Int)<=i/\i<n:=by
 unfold IC at h;by_cases q:0<=i
 ·rw[if_pos q]at h
  by_cases h1:i<n
  ·rw[if_pos h1]at h
   have e:i.toNat=j:=ZI h;exact⟨by rw[seqIndex_of q h1,e],by lia,by lia,h1⟩
  ·rw[if_neg h1]at h;cases h
 ·rw[if_neg q]at h
  by_cases h1:-(n:Int)<=i
  ·rw[if_pos h1]at h
   have e:(i+n).toNat=j:=ZI h;exact⟨by rw[seqIndex_neg (by lia) h1,e],by lia,h1,by lia⟩
  ·rw[if_neg h1]at h;cases h
theorem t2{q:Type}{xs:List q}{i:Int}{v:q}(h:rP xs i=some v):∃j,seqIndex? i xs.length=some j/\xs[j]?=some v/\j<xs.length/\-(xs.length:Int)<=i/\i<xs.length:=by
 unfold rP at h;cases e:IC xs.length i with
 | none=>rw[e]at h;cases h
 | some j=>
  rw[e]at h;obtain⟨h1,h2,F,B⟩:=AJ e;exact⟨j,h1,h,h2,F,B⟩
theorem cW{q:Type}{xs:List q}{j:Nat}{v:q}(h:xs[j]?=some v):rP xs (j:Int)=some v:=by
 have B:j<xs.length:=(List.getElem?_eq_some_iff.mp h).1;have e:IC xs.length (j:Int)=some j:=by
  unfold IC;rw[if_pos (by lia),if_pos (by lia)];simp
 unfold rP;rw[e];exact h
def uC(b:Expr):Prop:=∀o i,zbY b false o i=operate [o,i] (zaB o i)
def IxR(X:Cx)(r:R2):Prop:=
 ∀(value slice:Expr) (pins:List (Addr×Obj)) (s:YE) (σ:St) (H:Hp) (x y:V) (v u:Value) (Q:VK),Inv X pins σ H s->RelV x v->RelV y u->r x y H Q->
  zbY slice false v u=operate [v,u] (zaB v u)->wpAny (model X.prog X.w) X.A (subscriptTail value slice v u) (EP X pins σ Q) X.xe s
def MtR(X:Cx)(id:String)(r:V->List V->Hp->VK->Prop):Prop:=
 ∀(pins:List (Addr×Obj)) (s:YE) (σ:St) (H:Hp) (x:V) (xs:List V) (v:Value) (us:List Value) (Q:VK),Inv X pins σ H s->RelV x v->Vals xs us->r x xs H Q->
  wpAny (model X.prog X.w) X.A (call (.builtin id) (v::us)) (EP X pins σ Q) X.xe s
section
variable {X:Cx}{a b:Expr}{ta tb:TE}{pos:Pos}
theorem IxR.or(h:IxR X r)(h':IxR X r'):IxR X (λx y H Q=>r x y H Q\/r' x y H Q):=by
 intro value B pins s σ H x y v u Q I F J q hs;rcases q with q|q
 ·exact h value B pins s σ H x y v u Q I F J q hs
 ·exact h' value B pins s σ H x y v u Q I F J q hs
theorem MtR.or{id:String}{r B:V->List V->Hp->VK->Prop}(h:MtR X id r)(h':MtR X id B):MtR X id (λx xs H Q=>r x xs H Q\/B x xs H Q):=by
 intro pins s σ H x xs v F Q I J N q;rcases q with q|q
 ·exact h pins s σ H x xs v F Q I J N q
 ·exact h' pins s σ H x xs v F Q I J N q
theorem SD(W:IxR X r)(ha:PE X a ta)(F:PE X b tb)(hs:uC b):PE X (.Subscript a b pos) (RI r ta tb):=by
 intro pins s σ H Q I h;exact Subscript_ (Q2 ha F I h λv u J x y H2 B U N q=>W a b pins J σ H2 x y v u Q B U N q (hs _ _))
def T1(K:YH):R2:=λx y H Q=>∃p xs i v,x=.ref p/\y=.int i/\SqL K H p xs/\rP xs i=some v/\Q v H
def UG(K:YH):R2:=λx y H Q=>∃p xs i v,x=.ref p/\y=.int i/\SqT K H p xs/\rP xs i=some v/\Q v H
def UE:R2:=λx y H Q=>∃z i c,x=.str z/\y=.int i/\z.length<=YN/\rP z.cps.toList i=some c/\Q (.str ⟨#[c]⟩) H
theorem J2:IxR X (T1 X.K):=by
 intro value B pins s σ H x y v u Q I rx ry h hs;obtain⟨p,xs,i,z,rfl,rfl,hq,he,q⟩:=h;cases rx;obtain⟨t,rfl⟩:=ry;obtain⟨N,r,U,hz⟩:=I.list hq;obtain⟨j,h1,h2,h3,h4,h5⟩:=t2 he;obtain⟨w,Y,J⟩:=r.get h2;have hl:=r.length;have hn:=qQ;have fin:EP X pins σ Q w s:=⟨z,H,I,J,q⟩;by_cases W:0<=i
 ·have F:i.toNat=j:=by
   rw[seqIndex_of W h5]at h1;exact ZI h1
  exact item_listR U.isList W (by lia) (by rw[F];simpa using Y) fin hs
 ·have F:(i+(N.toArray.size:Int)).toNat=j:=by
   rw[seqIndex_neg (by lia) h4]at h1;rw[Y1,<- hl];exact ZI h1
  exact subscriptTail_builtinR (x:=w) U.isList.typeIs slot_list_getitem.lookup
   (wpAny_getItem_list_neg (Q:=λr s'=>r=w/\EP X pins σ Q r s') U.isList (by lia) (by rw[Y1] <;> lia) (by lia) (by rw[F];simpa using Y) ⟨rfl,fin⟩) hs
theorem P8:IxR X (UG X.K):=by
 intro value B pins s σ H x y v u Q I U ry h hs;obtain⟨p,xs,i,z,rfl,rfl,hq,N,q⟩:=h;cases U;obtain⟨t,rfl⟩:=ry;obtain⟨W,r,J,hz⟩:=I.tuple hq;obtain⟨j,h1,h2,h3,h4,h5⟩:=t2 N;obtain⟨w,ew,F⟩:=r.get h2;have Y:=r.length;have hn:=qQ;have fin:EP X pins σ Q w s:=⟨z,H,I,F,q⟩;exact subscriptTail_builtinR (x:=w) J.typeIs slot_tuple_getitem.lookup
  (getItem_tuple (j:=j) (Q:=λr s'=>r=w/\EP X pins σ Q r s') J (by lia) (by lia) (by rw[Y1,<- Y];exact h1) (by simpa using ew) ⟨rfl,fin⟩) hs
theorem QD:IxR X UE:=by
 intro value B pins s σ H x y v u Q I J Y h hs;obtain⟨z,i,c,rfl,rfl,hz,F,q⟩:=h;obtain⟨t,rfl⟩:=J;obtain⟨t',rfl⟩:=Y;obtain⟨j,h1,h2,h3,U,N⟩:=t2 F;have W:z.cps.toList.length=z.length:=by simp[Str.length]
 rw[W]at h1 U N;have hn:=qQ;exact tail_any (zbt s z t) slot_str_getitem.lookup (getItem_str (c:=c) (by
  have e1:decide (i < -(2^63:Int))=false:=decide_eq_false (by lia);have e2:decide (i ≥ 2^63)=false:=decide_eq_false (by lia);rw[e1,e2,Bool.or_false]) (by rw[h1];simpa using h2) ⟨.str ⟨#[c]⟩,H,I.tok _,⟨_,rfl⟩,q⟩) hs
def XT(K:YH):R2:=λx y H Q=>T1 K x y H Q\/UG K x y H Q\/UE x y H Q
theorem OX:IxR X (XT X.K):=J2.or (P8.or QD)
theorem yD(q:List Value)(n j:Nat)(u:Value):zbu (·.setIfInBounds j u) {cls:=.type "list",data:=.seq q.toArray n}={cls:=.type "list",data:=.seq (q.set j u).toArray n}:=by
 simp[zbu]
theorem Inv.lst{pins:List (Addr×Obj)}{σ:St}{H:Hp}{s:YE}{p:Addr}{xs:List V}(I:Inv X pins σ H s)(h:H p=some (.lst xs)) :
  ∃(q:List Value) (n:Nat),Vals xs q/\s.heap.get? p=some {cls:=.type "list",data:=.seq q.toArray n}/\xs.length<=YN:=by
 obtain⟨z,q,n,r,e⟩:=I.hok p _ h;exact⟨q,n,r,e,z⟩
theorem Inv.lstUpd{pins:List (Addr×Obj)}{xs ys:List V}{B its':List Value}{n F:Nat}{f:Obj->Obj}(I:Inv X pins σ H s)(h:H p=some (.lst xs))
  (W:s.heap.get? p=some {cls:=.type "list",data:=.seq B.toArray n}) (J:f {cls:=.type "list",data:=.seq B.toArray n}={cls:=.type "list",data:=.seq its'.toArray F}) (r:Vals ys its') (U:ys.length<=YN) (t:Nat) :
  Inv X pins σ (upd H p (.lst ys)) {s with heap:=s.heap.update p f,toks:=t}:=by
 have e:(s.heap.update p f).get? p=some {cls:=.type "list",data:=.seq its'.toArray F}:=by
  rw[zbv f W (by rw[J] <;> rfl),J]
 refine I.write (x:=p) (e:=p) (by rw[h];trivial) (.inl rfl) (λb u N q=>(za8 _ _ (ZH N)).trans q) ⟨_,e⟩ ?_;exact⟨U,its',F,r,e⟩
def R7:V->V->V->Hp->(Hp->Prop)->Prop:=λo i v H Q=>∃p xs k j,o=.ref p/\i=.int k/\H p=some (.lst xs)/\IC xs.length k=some j/\Q (upd H p (.lst (xs.set j v)))
theorem set_list:LJ X R7:=by
 intro pins s σ H o i v ov iv u Q I ro ri rv h;obtain⟨p,xs,k,j,rfl,rfl,N,hj,q⟩:=h;cases ro;obtain⟨t,rfl⟩:=ri;obtain⟨B,n,r,J,hz⟩:=I.lst N;obtain⟨h1,h2,U,h4⟩:=AJ hj;have F:=r.length;have hn:=qQ;have Y:Inv X pins σ (upd H p (.lst (xs.set j v))) {s with heap:=s.heap.update p (zbu (·.setIfInBounds j u))}:=
  I.lstUpd N J (yD B n j u) (r.set rv j) (by rw[List.length_set];exact hz) s.toks
 by_cases h0:0<=k
 ·have hk:k.toNat=j:=by
   rw[seqIndex_of h0 h4]at h1;exact ZI h1
  exact PySem.W.ki_setAt J h0 (by lia) (by rw[Y1,<- F];exact h4) (by rw[hk];exact⟨_,Y,q⟩)
 ·have hk:(k+(B.toArray.size:Int)).toNat=j:=by
   rw[seqIndex_neg (by lia) U]at h1;rw[Y1,<- F];exact ZI h1
  exact PySem.W.ki_setBack J (by lia) (by rw[Y1,<- F];exact U) (by lia) (by rw[hk];exact⟨_,Y,q⟩)
theorem tT(lo hi:Option Int)(n:Nat):(zaE lo hi none n).1=((HT.sIx n 0 lo:Nat):Int)/\(zaE lo hi none n).2.1=((HT.sIx n n hi:Nat):Int)/\(zaE lo hi none n).2.2=1:=by
 refine⟨?_,?_,rfl⟩
 ·cases lo with
  | none=>simp[zaE,HT.sIx]
  | some i=>
   simp only[zaE,HT.sIx,Option.getD_none,show(1:Int)>0 by decide,if_true];by_cases h:i<0
   ·simp only[h,if_true] <;> lia
   ·simp only[h,if_false] <;> lia
 ·cases hi with
  | none=>simp[zaE,HT.sIx]
  | some i=>
   simp only[zaE,HT.sIx,Option.getD_none,show(1:Int)>0 by decide,if_true];by_cases h:i<0
   ·simp only[h,if_true] <;> lia
   ·simp only[h,if_false] <;> lia
theorem rT(q:List Value)(lo hi:Option Int):slicePick q.toArray lo hi none=((q.drop (HT.sIx q.length 0 lo)).take (HT.sIx q.length q.length hi-HT.sIx q.length 0 lo)).toArray:=by
 obtain⟨h1,h2,B⟩:=tT lo hi q.toArray.size;unfold slicePick;rw[h1,h2,B];simp only[sliceRange_one,pick_run,Y1] <;> rfl
def VX(K:YH):V->Option Int->Option Int->Hp->VK->Prop:=λx lo hi H Q=>∃a xs,x=.ref a/\SqL K H a xs/\∀p,H p=none->Q (.ref p) (upd H p (.lst (rV xs lo hi)))
theorem IJ:SlR X (VX X.K):=by
 intro pins s σ H x v vl vu lo hi sl Q I rx hs Y W h;obtain⟨a,xs,rfl,N,q⟩:=h;cases rx;obtain⟨J,r,F,U⟩:=I.list N;have B:=r.length;refine⟨"list",_,slot_list_getitem.lookup,F.isList.typeIs,?_⟩;refine wpAny_getItem_list_slice F.isList hs Y W .none (by simp) ?_ (by rw[Y1] <;> lia);rw[rT,<- B];refine⟨.ref s.heap.objs.size,_,I.laid (t':=s.toks) (o:=.lst (rV xs lo hi)) (λb ob q=>YY _ q) (YS _) ?_,rfl,q _ (I.hok.fresh (YS _))⟩;exact⟨ZF (n9 xs lo hi) U,_,0,(r.drop (HT.sIx xs.length 0 lo)).take (HT.sIx xs.length xs.length hi-HT.sIx xs.length 0 lo),Y8 _ rfl⟩
noncomputable def lY:V->Bool
 | .non=>true
 | .bl _=>true
 | .int _=>true
 | .str _=>true
 | _=>false
noncomputable def MW:V->V->Bool
 | .non,.non=>true
 | .bl a,.bl b=>a == b
 | .bl a,.int b=>(if a then 1 else 0) == b
 | .int a,.bl b=>a == (if b then 1 else 0)
 | .int a,.int b=>a == b
 | .str a,.str b=>a == b
 | _,_=>false
theorem M7(B:RelV y u)(q:RelV x v)(F:lY y=true)(fx:lY x=true):zaT A s u v (MW y x):=by
 cases y with
 | non=>
  cases B;cases x with
  | non=>cases q;exact SeqAt.EqAt.same _
  | bl b=>cases q;exact SeqAt.EqAt.none_bool b
  | int b=>obtain⟨t,rfl⟩:=q;exact SeqAt.EqAt.none_int b t
  | str b=>obtain⟨t,rfl⟩:=q;exact SeqAt.EqAt.none_str b t
  | _=>exact absurd (show false=true from fx) YX
 | bl a=>
  cases B;cases x with
  | non=>cases q;exact SeqAt.EqAt.bool_none a
  | bl b=>cases q;exact SeqAt.EqAt.bool_bool a b
  | int b=>obtain⟨t,rfl⟩:=q;exact SeqAt.EqAt.bool_int a b t
  | str b=>obtain⟨t,rfl⟩:=q;exact SeqAt.EqAt.bool_str a b t
  | _=>exact absurd (show false=true from fx) YX
 | int a=>
  obtain⟨t',rfl⟩:=B;cases x with
  | non=>cases q;exact SeqAt.EqAt.int_none a t'
  | bl b=>cases q;exact SeqAt.EqAt.int_bool a t' b
  | int b=>obtain⟨t,rfl⟩:=q;exact SeqAt.EqAt.int_int a t' b t
  | str b=>obtain⟨t,rfl⟩:=q;exact SeqAt.EqAt.int_str a t' b t
  | _=>exact absurd (show false=true from fx) YX
 | str a=>
  obtain⟨t',rfl⟩:=B;cases x with
  | non=>cases q;exact SeqAt.EqAt.str_none a t'
  | bl b=>cases q;exact SeqAt.EqAt.str_bool a t' b
  | int b=>obtain⟨t,rfl⟩:=q;exact SeqAt.EqAt.str_int a t' b t
  | str b=>obtain⟨t,rfl⟩:=q;exact SeqAt.EqAt.str_str a t' b t
  | _=>exact absurd (show false=true from fx) YX
 | _=>exact absurd (show false=true from F) YX
def LV(x:V)(u:Value):Bool:=match u with
 | .none=>MW .non x
 | .bool b=>MW (.bl b) x
 | .int i _=>MW (.int i) x
 | .str z _=>MW (.str z) x
 | _=>false
theorem G3(r:RelV y u)(f:lY y=true):LV x u=MW y x:=by
 cases y with
 | non=>cases r;rfl
 | bl b=>cases r;rfl
 | int i=>obtain⟨t,rfl⟩:=r;rfl
 | str z=>obtain⟨t,rfl⟩:=r;rfl
 | _=>exact absurd (show false=true from f) YX
theorem t4:∀ {xs:List V} {us:List Value},Vals xs us->xs.all lY=true->us.any (LV x)=xs.any λy=>MW y x
 | _,_,.nil,_=>rfl
 | y::xs,u::us,.cons r t,f=>by
  rw[zbf,ZK]at f;rw[zao,zao,G3 r f.1,t4 t f.2]
theorem qN(B:RelV x v)(fx:lY x=true):∀ {xs:List V} {us:List Value},Vals xs us->xs.all lY=true->∀u∈us,zaT A s u v (LV x u)
 | _,_,.nil,_=>λu q=>by cases q
 | y::xs,u::us,.cons r t,f=>λF q=>by
  rw[zbf,ZK]at f;rcases List.mem_cons.mp q with rfl|q
  ·rw[G3 r f.1];exact M7 r B f.1 fx
  ·exact qN B fx t f.2 F q
def inV(x:V)(xs:List V):Bool:=xs.any λy=>MW y x
def XJ(K:YH)(neg:Bool):R2:=λx y H Q=>∃p xs,y=.ref p/\(SqL K H p xs\/SqT K H p xs)/\lY x=true/\xs.all lY=true/\Q (.bl (if neg then !inV x xs else inV x xs)) H
theorem CN:OpR X (YR .In) (XJ X.K false):=by
 intro pins s σ H x y v u Q I N W h;obtain⟨p,xs,rfl,F,fx,fs,q⟩:=h;cases W;rcases F with F|F
 ·obtain⟨B,r,J,U⟩:=I.list F
  refine SeqAt.in_listAt (LV x) J.isList (λw hw=>qN N fx r fs w (by simpa using hw)) ⟨.bl _,H,I,rfl,?_⟩;rw[show B.toArray.any (LV x)=B.any (LV x) by simp,t4 r fs];exact q
 ·obtain⟨B,r,J,U⟩:=I.tuple F
  refine SeqAt.in_tupleAt (LV x) J (λw hw=>qN N fx r fs w (by simpa using hw)) ⟨.bl _,H,I,rfl,?_⟩;rw[show B.toArray.any (LV x)=B.any (LV x) by simp,t4 r fs];exact q
theorem tV:OpR X (YR .NotIn) (λx y H Q=>∃i j,x=.str i/\y=.str j/\Q (.bl (!(!(zbd j i 0 j.length 1).isEmpty))) H):=by
 intro pins s σ H x y v u Q I B F h;obtain⟨i,j,rfl,rfl,q⟩:=h;obtain⟨t,rfl⟩:=B;obtain⟨t',rfl⟩:=F;exact notIn_str ⟨.bl _,H,I,rfl,q⟩
theorem CallR.or(h:CallR X f r)(h':CallR X f r'):CallR X f (λxs H Q=>r xs H Q\/r' xs H Q):=by
 intro pins s σ H xs B Q I F q;rcases q with q|q
 ·exact h pins s σ H xs B Q I F q
 ·exact h' pins s σ H xs B Q I F q
theorem rR:CallR X (.type "tuple") (λxs H Q=>∃p ys,xs=[.ref p]/\((SqL X.K H p ys/\∀l,H l=none->Q (.ref l) (upd H l (.tup ys)))\/(SqT X.K H p ys/\Q (.ref p) H))):=by
 intro pins s σ H xs us Q I r h;obtain⟨p,ys,rfl,h⟩:=h;obtain⟨u,rfl,rx⟩:=vals1 r;cases rx;rcases h with⟨J,q⟩|⟨J,q⟩
 ·obtain⟨B,F,N,Y⟩:=I.list J
  have W:=F.length;refine call_tuple_list N.isList (λh' kp=>?_) (by simp only[Y1] <;> lia);have U:Inv X pins σ H {s with heap:=h'}:=I.kept (t':=s.toks) kp;have I2:Inv X pins σ (upd H h'.objs.size (.tup ys)) {s with heap:=h'.push {cls:=.type "tuple",data:=.seq B.toArray} }:=
   U.laid (t':=s.toks) (λb o e=>YY _ e) (YS _) (show ObjOk X.prog X.w _ _ _ (.tup ys)from⟨Y,B,F,IsTupN.new _ _⟩)
  exact⟨.ref h'.objs.size,_,I2,rfl,q _ (U.hok.fresh (YS _))⟩
 ·obtain⟨B,F,N,Y⟩:=I.tuple J
  exact call_tuple_same N ⟨.ref p,H,I,rfl,q⟩
def XH(K:YH)(T:String)(x:V)(H:Hp):Prop:=match x with
 | .str _=>T = "str"
 | .int _=>T = "int"
 | .ref p=>(T = "list" /\ ∃xs,SqL K H p xs)\/(T = "tuple" /\ ∃o,K.lookup p=some o/\o.cls=.type "tuple" /\ o.dict=none) \/
   (T = "dict" /\ ((∃kvs,H p=some (.dK kvs))\/∃kvs,H p=some (.dT kvs)))\/(T = "set" /\ ∃S n,H p=some (.set S n))
 | _=>False
theorem O7(I:Inv X pins σ H s)(r:RelV x v)(ty:XH X.K T x H) :
  s.TypeIs v T/\∀a,v=.ref a->∃F,s.heap.get? a=some F/\F.dict=none:=by
 cases x with
 | str z=>
  obtain⟨t,rfl⟩:=r;cases(show T = "str" from ty);exact⟨zbt s z t,λ_ e=>nomatch e⟩
 | int i=>
  obtain⟨t,rfl⟩:=r;cases(show T = "int" from ty);exact⟨typeIs_int s i t,λ_ e=>nomatch e⟩
 | ref p=>
  cases r;rcases ty with⟨rfl,xs,W⟩|⟨rfl,o,hk,N,q⟩|⟨rfl,hk⟩|⟨rfl,S,n,hk⟩
  ·obtain⟨U,_,J,_⟩:=I.list W
   refine⟨J.isList.typeIs,λa e=>?_⟩;cases e;obtain⟨o,n,e,c,q,_⟩:=J;exact⟨o,e,q⟩
  ·refine⟨⟨o,I.kIn p o hk,N⟩,λa e=>?_⟩
   cases e;exact⟨o,I.kIn _ o hk,q⟩
  ·have z:∃o,s.heap.get? p=some o/\o.ExactDict:=by
    rcases hk with⟨kvs,hk⟩|⟨kvs,hk⟩
    ·obtain⟨_,_,_,_,o,_,_,e,ex,_⟩:=I.hok p _ hk
     exact⟨o,e,ex⟩
    ·obtain⟨_,_,_,_,o,_,_,e,ex,_⟩:=I.hok p _ hk
     exact⟨o,e,ex⟩
   obtain⟨o,e,ex⟩:=z;refine⟨⟨o,e,ex.1⟩,λa B=>?_⟩;cases B;exact⟨o,e,ex.2.1⟩
  ·obtain⟨o,_,_,_,e,ex,_⟩:=I.hok p _ hk
   refine⟨⟨o,e,ex.1⟩,λa B=>?_⟩;cases B;exact⟨o,e,ex.2.1⟩
 | _=>exact ZT ty
def RH(K:YH)(T:String)(r:V->List V->Hp->VK->Prop)(to:TE)(t:TA):TE:=λσ H Q=>to σ H λx H1=>XH K T x H1/\t σ H1 λxs H2=>r x xs H2 Q
variable {o e:Expr}{es:List Expr}{to:TE}{t:TA}{name:Str}{apos cpos:Pos}{T id:String}{r:V->List V->Hp->VK->Prop}
theorem l8(pa:PlainAttrs T)(J:Slot T name id)(U:typeOf (.builtin id)=pure (.type "method_descriptor"))(hm:MtR X id r)(ho:PE X o to)(ha:PA X (e::es) t)
  (B:ZX o name X.env (eval o X.env)=eval o X.env:=by rfl)
  (N:((YO cpos (YG (e::es) X.env)).all (λx => !x.1) && (ZZ cpos (Z0 [] X.env)).all (λx => x.1.isSome)
   && decide ((e::es).length+([]:List ZO).length+(if([]:List ZO).isEmpty then 0 else 1)<30))=true:=by rfl)
  (F:(apos.endLine == cpos.line)=true:=by rfl) (hs:YG (e::es) X.env=(false,eval e X.env)::YG es X.env:=by rfl) (q:(YO cpos (YG es X.env)).any (·.1)=false:=by rfl) :
  PE X (.Call (.Attribute o name apos) (e::es) [] cpos) (RH X.K T r to t):=by
 intro pins s σ H Q I h;refine wpAny_Call_method_late B N F rfl (bL (ho pins s σ H _ I h) λv s1 ⟨x,H1,W,Y,ty,q1⟩=>?_);obtain⟨h1,h2⟩:=O7 W Y ty;refine⟨T,id,pa,J,U,h1,h2,?_⟩;have hA:=ha cpos pins s1 σ H1 _ W q1;rw[hs]at hA ⊢;refine Calls.callWith_builtin (by show(false || (YO cpos (YG es X.env)).any (·.1))=false;rw[q] <;> rfl) (Calls.evalArgs_plain ?_);exact bL hA λus s2 ⟨vs,H2,I2,r2,q2⟩=>hm pins s2 σ H2 x vs v us Q I2 Y r2 q2
end
def U6(X:Cx)(id:String)(r:V->List V->Hp->VK->Prop):Prop:=
 ∀(pins:List (Addr×Obj)) (s:YE) (σ:St) (H:Hp) (x:V) (xs:List V) (v:Value) (us:List Value) (Q:VK),Inv X pins σ H s->RelV x v->Vals xs us->r x xs H Q->
  wpAny (model X.prog X.w) X.A (call (.builtin id) (v::us)) (EP X pins σ Q) X.xe s
theorem Vals.one:∀ {x:V} {us:List Value},Vals [x] us->∃u,us=[u]/\RelV x u
 | _,_,.cons r .nil=>⟨_,rfl,r⟩
theorem Vals.rep(h:Vals xs us):∀k:Nat,Vals (zaS k xs).flatten (zaS k us).flatten
 | 0=>.nil
 | k+1=>by
  rw[zbZ,zbZ,zb0,zb0];exact Vals.append h (Vals.rep h k)
section
variable {X:Cx}{pins:List (Addr×Obj)}{σ:St}{H:Hp}{s:YE}{l b:Addr}{xs ys zs:List V}
theorem Inv.lset{B its':List Value}{n:Nat}{f:Array Value->Array Value}{t':Nat}(I:Inv X pins σ H s)(J:H l=some (.lst xs))
  (e:s.heap.get? l=some {cls:=.type "list",data:=.seq B.toArray n}) (Y:f B.toArray=its'.toArray) (N:Vals ys its') (U:ys.length<=YN) :
  Inv X pins σ (upd H l (.lst ys)) {s with heap:=s.heap.update l (zbu f),toks:=t'}:=by
 have q:=PySem.IsL.update e f;rw[Y]at q;refine I.write (x:=l) (e:=l) (by rw[J];exact trivial) (.inl rfl) (λb' u F W=>(za8 s.heap (zbu f) (ZH F)).trans W) ⟨_,q⟩ ?_;exact⟨U,its',_,N,q⟩
theorem Inv.lnew(I:Inv X pins σ H s)(B:Vals ys its)(F:ys.length<=YN) :
  Inv X pins σ (upd H s.heap.objs.size (.lst ys)) {s with heap:=s.heap.push {cls:=.type "list",data:=.seq its.toArray},toks:=t'}:=
 I.laid (λ_ _ q=>YY _ q) (YS _) ⟨F,its,0,B,Y8 _ rfl⟩
theorem Inv.fresh(I:Inv X pins σ H s):H s.heap.objs.size=none:=I.hok.fresh (YS _)
theorem Inv.lstM(I:Inv X pins σ H s)(B:H l=some (.lst xs)):xs.length<=YN/\∃(q:List Value) (n:Nat),Vals xs q/\xs.length=q.length/\s.heap.get? l=some {cls:=.type "list",data:=.seq q.toArray n}:=by
 obtain⟨z,q,n,r,e⟩:=I.hok l _ B;exact⟨z,q,n,r,r.length,e⟩
theorem ET(h:n<=YN):zcB n=false:=by
 unfold zcB;exact decide_eq_false (by lia)
end
section
variable {X:Cx}
def uE:V->List V->Hp->VK->Prop:=λx vs H Q=>∃l xs y,x=.ref l/\vs=[y]/\H l=some (.lst xs)/\xs.length<YN/\Q .non (upd H l (.lst (xs++[y])))
theorem mL:U6 X "list.append" uE:=by
 intro pins s σ H x vs v us Q I W N h;obtain⟨l,xs,y,rfl,rfl,J,Y,q⟩:=h;cases W;obtain⟨u,rfl,U⟩:=N.one;obtain⟨z,B,n,r,hl,e⟩:=I.lstM J;refine zbw F.slot_list_append ⟨_,e,rfl⟩ F.entry_list_append (F.args_list_append_2 _ _) (PySem.list_append l B.toArray n u (by rw[Y1];lia)) ⟨e,?_⟩;refine⟨.non,_,I.lset (its':=B++[u]) J e (by simp) (r.append (.cons U .nil)) ?_,rfl,q⟩;rw[ZG,zcC]
 lia
end
section
variable {prog:YK}{w:World}{A:YM}{E:Value->YE->Prop}{s:YE}
end
section
variable {X:Cx}
end
section
variable {κ:Type}[DecidableEq κ]
noncomputable def oP(kvs:List (κ×V))(k:κ):Option V:=(kvs.find? λq=>decide (q.1=k)).map (·.2)
noncomputable def putK(kvs:List (κ×V))(k:κ)(v:V):List (κ×V):=
 if(kvs.any λq=>decide (q.1=k))=true then kvs.map (λq=>if q.1=k then(q.1,v)else q)else kvs++[(k,v)]
noncomputable def L6(kvs:List (κ×V))(k:κ):List (κ×V):=kvs.filter λq=>decide (q.1≠k)
theorem lM{p:κ×V}{r:List (κ×V)}{k:κ}(e:p.1=k):oP (p::r) k=some p.2:=by simp[oP,zad,e]
theorem lQ{p:κ×V}{r:List (κ×V)}{k:κ}(e:¬ p.1=k):oP (p::r) k=oP r k:=by simp[oP,zad,e]
theorem v7(k:κ):∀kvs:List (κ×V),(kvs.any λq=>decide (q.1=k))=(oP kvs k).isSome
 | []=>rfl
 | p::r=>by
  rw[zao];by_cases e:p.1=k
  ·simp only[lM e,decide_eq_true e,Bool.true_or,Option.isSome_some]
  ·rw[lQ e,decide_eq_false e,Bool.false_or];exact v7 k r
theorem RelO.isSome_eq(r:RelO o u):o.isSome=u.isSome:=by
 cases o with
 | none=>cases u with
  | none=>rfl
  | some _=>exact(show False from r).elim
 | some _=>cases u with
  | none=>exact(show False from r).elim
  | some _=>rfl
theorem RelO.getD(r:RelO o u)(rd:RelV d d'):RelV (o.getD d) (u.getD d'):=by
 cases o with
 | none=>cases u with
  | none=>exact rd
  | some _=>exact(show False from r).elim
 | some _=>cases u with
  | none=>exact(show False from r).elim
  | some _=>exact r
theorem KV.val(r:KV kvs vs)(k:κ):RelO (oP kvs k) (Z4 vs k):=by
 unfold KV at r;induction r with
 | nil=>exact zag
 | @cons p q ps qs h t ih=>
  obtain⟨h1,h2⟩:=h;by_cases e:p.1=k
  ·have B:q.1=k:=h1.symm.trans e
   have b:Z4 (q::qs) k=some q.2:=by simp[Z4,zad,B]
   rw[lM e,b];exact h2
  ·have B:¬ q.1=k:=λz=>e (h1.trans z)
   have b:Z4 (q::qs) k=Z4 qs k:=by simp[Z4,zad,B]
   rw[lQ e,b];exact ih
theorem KV.any(r:KV kvs vs)(k:κ):(kvs.any λq=>decide (q.1=k))=vs.any λq=>decide (q.1=k):=by
 unfold KV at r;induction r with
 | nil=>rfl
 | cons h t ih=>rw[zao,zao,ih,h.1]
theorem KV.repl(r:KV kvs vs)(k:κ)(F:RelV y u) :
  KV (kvs.map λB=>if B.1=k then(B.1,y)else B) (vs.map λB=>if B.1=k then(B.1,u)else B):=by
 unfold KV at r ⊢;induction r with
 | nil=>exact .nil
 | @cons p q ps qs h t ih=>
  rw[Y4,Y4];refine .cons ?_ ih;obtain⟨h1,h2⟩:=h;by_cases e:p.1=k
  ·rw[if_pos e,if_pos (h1.symm.trans e)];exact⟨h1,F⟩
  ·rw[if_neg e,if_neg (λz=>e (h1.trans z))];exact⟨h1,h2⟩
theorem KV.put(r:KV kvs vs)(k:κ)(q:RelV y u):KV (putK kvs k y) (stored vs k u):=by
 unfold putK stored;rw[r.any k];by_cases e:(vs.any λB=>decide (B.1=k))=true
 ·rw[if_pos e,if_pos e];exact r.repl k q
 ·rw[if_neg e,if_neg e];exact Paired.snoc r ⟨rfl,q⟩
theorem KV.drop(r:KV kvs vs)(k:κ):KV (L6 kvs k) (without vs k):=by
 unfold KV at r ⊢;unfold L6 without;induction r with
 | nil=>exact .nil
 | @cons p q ps qs h t ih=>
  obtain⟨h1,h2⟩:=h;rw[List.filter_cons,List.filter_cons];by_cases e:p.1=k
  ·have a:¬ decide (p.1≠k)=true:=by simp[e]
   have b:¬ decide (q.1≠k)=true:=by simp[h1.symm.trans e]
   rw[if_neg a,if_neg b];exact ih
  ·have B:¬ q.1=k:=λz=>e (h1.trans z)
   have a:decide (p.1≠k)=true:=by simp[e]
   have b:decide (q.1≠k)=true:=by simp[B]
   rw[if_pos a,if_pos b];exact .cons ⟨h1,h2⟩ ih
theorem KV.length(r:KV kvs vs):kvs.length=vs.length:=Paired.length r
end
theorem rA(r:RelV (kV k) u):(bQ P w).is k u=true:=by
 cases k with
 | inl i=>obtain⟨t,e⟩:=(show ∃t,u=zbk i t from r);subst e;exact vN P w i t
 | inr x=>obtain⟨t,e⟩:=(show ∃t,u=zbl x t from r);subst e;exact vQ P w x t
theorem tI:∀ {ks:List Key} {us:List Value},Vals (ks.map kV) us->ItemsAre (bQ P w) ks us
 | [],_,r=>by rw[za7]at r;cases r;exact .nil
 | k::ks,_,r=>by
  rw[Y4]at r;cases r with
  | cons h t=>exact .cons (rA h) (tI t)
abbrev KT(H:Hp):List (List Key×V)->List (List Key×Addr×Value)->Prop:=Paired λp q=>p.1=q.1/\H q.2.1=some (.tup (p.1.map kV))/\RelV p.2 q.2.2
theorem KT.val(r:KT H kvs xs)(k:List Key):RelO (oP kvs k) ((atKey xs k).map (·.2)):=by
 induction r with
 | nil=>exact zag
 | @cons p q ps qs h t ih=>
  obtain⟨h1,_,h2⟩:=h;by_cases e:p.1=k
  ·have B:q.1=k:=h1.symm.trans e
   have b:atKey (q::qs) k=some q.2:=by simp[atKey,zad,B]
   rw[lM e,b];exact h2
  ·have B:¬ q.1=k:=λz=>e (h1.trans z)
   have b:atKey (q::qs) k=atKey qs k:=by simp[atKey,zad,B]
   rw[lQ e,b];exact ih
theorem KT.repl(r:KT H kvs xs)(k:List Key)(J:RelV y u) :
  KT H (kvs.map λB=>if B.1=k then(B.1,y)else B) (xs.map (putAt k u)):=by
 induction r with
 | nil=>exact .nil
 | @cons p q ps qs h t ih=>
  rw[Y4,Y4];refine .cons ?_ ih;obtain⟨h1,h2,F⟩:=h;unfold putAt;by_cases e:p.1=k
  ·rw[if_pos e,if_pos (h1.symm.trans e)];exact⟨h1,h2,J⟩
  ·rw[if_neg e,if_neg (λz=>e (h1.trans z))];exact⟨h1,h2,F⟩
theorem KT.put(r:KT H kvs xs)(k:List Key)(F:H b=some (.tup (k.map kV)))(B:RelV y u) :
  KT H (putK kvs k y) (storedH xs k b u):=by
 have e:(kvs.any λJ=>decide (J.1=k))=(atKey xs k).isSome:=by
  rw[v7,(r.val k).isSome_eq,zcD]
 unfold putK storedH;rw[e];by_cases q:(atKey xs k).isSome=true
 ·rw[if_pos q,if_pos q];exact r.repl k B
 ·rw[if_neg q,if_neg q];exact Paired.snoc r ⟨rfl,F,B⟩
section
variable {P:YK}{w:World}{H:Hp}{h:Heap}{a:Addr}
theorem L8(ok:HOk P w H h)(e:Rd H a u):ObjOk P w H h a u:=e.ok ok
theorem xB(ok:HOk P w H h)(e:Rd H a (.dK kvs)):kvs.length<=YN/\(a == zas)=false/\∃vs,KV kvs vs/\h.DictOf (bQ P w) a vs:=
 show ObjOk P w H h a (.dK kvs)from L8 ok e
theorem u3(ok:HOk P w H h)(e:H a=some (.tup (ks.map kV))):(zaZ (bQ P w)).is h ks a:=by
 obtain⟨_,q,r,o,h1,h2,n,B⟩:=(show ObjOk P w H h a (.tup (ks.map kV))from ok a _ e);exact⟨o,q.toArray,n,h1,h2,B.1,by simpa using tI r⟩
theorem BB(ok:HOk P w H h)(e:Rd H a (.dT kvs)):kvs.length<=YN/\(a == zas)=false /\
  ∃xs,KT H kvs xs/\h.DictOfH (zaZ (bQ P w)) a xs:=by
 obtain⟨z,y,xs,r,o,es,ep,h1,h2,F,J,N⟩:=(show ObjOk P w H h a (.dT kvs)from L8 ok e);refine⟨z,y,xs,r,o,es,ep,h1,h2,F,J,λx B=>?_,N⟩;have all:∀ {l:List (List Key×V)} {m:List (List Key×Addr×Value)},KT H l m->∀x∈m,(zaZ (bQ P w)).is h x.1 x.2.1:=by
  intro l m q;induction q with
  | nil=>intro x B;exact nomatch B
  | @cons p q ps qs hq t ih=>
   intro x B;rcases List.mem_cons.mp B with e|B
   ·subst e
    exact u3 ok (by rw[<- hq.1];exact hq.2.1)
   ·exact ih x B
 exact all r x B
end
def DI(H:Hp)(a:Addr)(y:V)(r:Option V):Prop:=
 (∃kvs k,Rd H a (.dK kvs)/\y=kV k/\r=oP kvs k)\/∃kvs k b,Rd H a (.dT kvs)/\y=.ref b/\H b=some (.tup (k.map kV))/\r=oP kvs k
section
variable {X:Cx}{pins:List (Addr×Obj)}{σ:St}{H:Hp}{s:YE}{a:Addr}{y v:V}{u r:Value}{o:Option V}{A:YM}{E:Value->YE->Prop}
theorem CL(hu:A.units+1<cLine)(I:Inv X pins σ H s)(g:DI H a y (some v))(W:RelV y u)(h:∀F s',Inv X pins σ H s'->RelV v F->Q F s') :
  wpAny (model X.prog X.w) A (zaB (.ref a) u) Q E s:=by
 rcases g with⟨kvs,k,e,N,l⟩|⟨kvs,k,b,e,N,eb,l⟩
 ·subst N
  obtain⟨z,hd,vs,B,J⟩:=xB I.hok e;obtain⟨F,hw,q⟩:=RelO.some_of (v:=v) (o:=Z4 vs k) (by rw[l];exact B.val k);exact zcE (rA W) J.mapOf hw (h F _ (I.tok _) q)
 ·subst N
  cases(show u=Y5 b from W);obtain⟨z,hd,xs,B,J⟩:=BB I.hok e;obtain⟨F,hw,q⟩:=RelO.some_of (v:=v) (o:=(atKey xs k).map (·.2)) (by rw[l];exact B.val k);obtain⟨p,Y,U⟩:=Option.map_eq_some_iff.mp hw;refine wpAny_getItem_heap (zcF hu) (u3 I.hok eb) J Y ?_;rw[U];exact h F _ (I.tok _) q
theorem V3(Y:A.units+1<cLine)(I:Inv X pins σ H s)(g:DI H a y o)(U:RelV y u)(h:∀s',Inv X pins σ H s'->Q (.bool o.isSome) s') :
  wpAny (model X.prog X.w) A (YR .In u (.ref a)) Q E s:=by
 rcases g with⟨kvs,k,e,J,l⟩|⟨kvs,k,b,e,J,W,l⟩
 ·subst J
  obtain⟨z,N,vs,B,F⟩:=xB I.hok e;refine wpAny_in_of (rA U) N F.mapOf ?_;rw[<- (B.val k).isSome_eq,<- l];exact h _ (I.tok _)
 ·subst J
  cases(show u=Y5 b from U);obtain⟨z,N,xs,B,F⟩:=BB I.hok e;refine wpAny_in_heap (zcF Y) (u3 I.hok W) N F ?_;have q:=(B.val k).isSome_eq;rw[zcD]at q;rw[<- q,<- l];exact h _ (I.tok _)
theorem JQ(Y:A.units+1<cLine)(I:Inv X pins σ H s)(g:DI H a y o)(U:RelV y u)(h:∀s',Inv X pins σ H s'->Q (.bool (!o.isSome)) s') :
  wpAny (model X.prog X.w) A (YR .NotIn u (.ref a)) Q E s:=by
 rcases g with⟨kvs,k,e,J,l⟩|⟨kvs,k,b,e,J,W,l⟩
 ·subst J
  obtain⟨z,N,vs,B,F⟩:=xB I.hok e;refine wpAny_notIn_of (rA U) N F.mapOf ?_;rw[<- (B.val k).isSome_eq,<- l];exact h _ (I.tok _)
 ·subst J
  cases(show u=Y5 b from U);obtain⟨z,N,xs,B,F⟩:=BB I.hok e;refine wpAny_notIn_heap (zcF Y) (u3 I.hok W) N F ?_;have q:=(B.val k).isSome_eq;rw[zcD]at q;rw[<- q,<- l];exact h _ (I.tok _)
end
section
variable {X:Cx}{pins:List (Addr×Obj)}{σ:St}{H:Hp}{s:YE}{a:Addr}{kvs:List (Key×V)}{k:Key}{u:Value}{A:YM}{E:Value->YE->Prop}
theorem RY(I:Inv X pins σ H s)(e:Rd H a (.dK kvs))(h:∀t s',Inv X pins σ H s'->Q (.int kvs.length t) s'):wpAny (model X.prog X.w) A (call (.builtin "len") [.ref a]) Q E s:=by
 obtain⟨z,B,vs,q,F⟩:=xB I.hok e;refine call_len_dict B F (by rw[<- q.length];rw[zbL]at z;lia) ?_;rw[<- q.length];exact h _ _ (I.tok _)
end
def DE(i:Expr):Prop:=∀B q,zbY i false B q=operate [B,q] (zaB B q)
theorem t6{E:Value->YE->Prop}{T id:String}{Q:Value->YE->Prop}
  (U:typeLookup (.type T) "__getitem__" = pure (some (.builtin id))) (hs:DE slice)
  (h:wpAny (model prog w) A (eval value env) (λo J=>wpAny (model prog w) A (eval slice env) (λi q=>q.TypeIs o T/\wpAny (model prog w) A (zaB o i) Q E q) E J) E s) :
  wpAny (model prog w) A (eval (.Subscript value slice pos) env) Q E s:=by
 refine Subscript_ (ZR h (λo J h₁=>ZR h₁ (λi q B=>?_) λ_ _ x=>x) λ_ _ x=>x);obtain⟨hT,B⟩:=B;unfold subscriptTail;refine YF ?_;rw[getitemInPython_of_ne hT.not_modules];refine YF (wpAny_specialOf hT U ?_);have fin:wpAny (model prog w) A (zbY slice false o i) (λr F=>wpAny (model prog w) A (letTemporaryGo value o r >>= λ_=>pure r) Q E F) E q:=by
  rw[hs o i];exact wpAny_operating (ZR B (λr F N=>YF (wpAny_letTemporaryGo (YL N))) λ_ _ x=>x)
 first
  | exact YL (YF fin)
  | exact YF (YL (YF fin))
  | exact YF fin
theorem vL(I:Inv X pins σ H s)(g:DI H a y o):s.TypeIs (.ref a) "dict" := by
 rcases g with⟨kvs,k,e,_,_⟩|⟨kvs,k,b,e,_,_,_⟩
 ·obtain⟨_,_,vs,_,q⟩:=xB I.hok e
  exact q.typeIs
 ·obtain⟨_,_,xs,_,q⟩:=BB I.hok e
  exact q.typeIs
def L3(td ty:TE):TE:=λσ H Q=>td σ H λx H1=>ty σ H1 λy H2=>∃a v,x=.ref a/\DI H2 a y (some v)/\Q v H2
section
variable {X:Cx}{o i e value:Expr}{pos pos' tpos:Pos}{td ty tv:TE}
theorem KD(U:X.A.units+1<cLine)(ho:PE X o td)(hi:PE X i ty)(hs:DE i):PE X (.Subscript o i pos) (L3 td ty):=by
 intro pins s σ H Q I h;refine t6 PySem.F.slot_dict_getitem.lookup hs (bL (ho pins s σ H _ I h) λu N ⟨x,H1,J,rx,q1⟩=>bL (hi pins N σ H1 _ J q1) λiv s2 ⟨y,H2,B,Y,a,v,ex,g,q2⟩=>?_);subst ex;obtain rfl:u=Y5 a:=rx;exact⟨vL B g,CL U B g Y λw' s3 W q=>⟨v,H2,W,q,q2⟩⟩
end
section
variable {X:Cx}{pos:Pos}
end
def X7(H:Hp)(a:Addr):Prop:=(∃kvs,Rd H a (.dK kvs))\/∃kvs,Rd H a (.dT kvs)
section
variable {X:Cx}{pins:List (Addr×Obj)}{σ:St}{H:Hp}{s:YE}{a:Addr}{y d:V}{u r:Value}{o:Option V}{A:YM}{E:Value->YE->Prop}
end
section
variable {X:Cx}{o e f:Expr}{apos cpos:Pos}{td ty tx:TE}
end
section
variable {X:Cx}{pins:List (Addr×Obj)}{σ:St}{H:Hp}{s:YE}{a:Addr}{kvs:List (Key×V)}{A:YM}{E:Value->YE->Prop}
end
section
variable {X:Cx}{pins:List (Addr×Obj)}{σ:St}{H:Hp}{s:YE}{a:Addr}{y:V}{u:Value}{A:YM}{E:Value->YE->Prop}
end
end L2
namespace Att
open PySem PySem.W PySem.Calls PyProof.Rows
theorem oM:∀(ns:List Int) (vs:List Value),WellAll P h vs (ns.map WData.int)->Z3 vs ns:=by
 intro ns;induction ns with
 | nil=>
  intro vs w;rw[za7]at w;cases w;exact .nil
 | cons n ns ih=>
  intro vs w;rw[Y4]at w;cases w with
  | cons a b=>
   cases a;exact .cons _ _ (ih _ b)
theorem CB{l:OpenLaw}{n:Nat}(hn:l.most=some n){P:Params}{h:Heap}{args:List WData}{B:List Value}
  (F:l.row.toRowW.claim.pre args=true) (Y:WellAll P h B args) :
  ∃a vs ns,B=[Y5 a]/\args=[WData.list (ns.map WData.int)]/\h.get? a=some {cls:=.type "list",data:=.seq vs.toArray}/\Z3 vs ns/\ns.length<=n:=by
 have W:WShape.hasAll [] args [.list .int]=true:=(pre_splitW F).1;have hc:l.pre.holds [] {args:=args}=true:=(pre_splitW F).2;obtain⟨d,r,rfl,h1,h2⟩:=hasAllW_cons W;obtain rfl:=hasAllW_nil h2;obtain⟨xs,rfl,h3⟩:=hasW_list h1;obtain⟨ns,rfl⟩:=items_int h3;have J:ns.length<=n:=by
  unfold OpenLaw.pre at hc;have N:(WTm.not (.lt (.lit (.int (n:Int))) (.len (.arg 0)))).holds [] {args:=[.list (ns.map .int)]}=true:=by
   have N:=(holds_andW hc).1;rw[hn]at N;exact N
  have U:=condW_of N (w_not (w_lt w_lit (w_len_list (w_arg rfl))));rw[YV]at U;refine Nat.le_of_not_lt λq=>?_
  have q':(n:Int)<((ns.length:Nat):Int):=by lia
  first
   | (rw[decide_eq_true q']at U;exact absurd U (by decide))
   | (simp at U;lia)
 cases Y with
 | cons w1 w2=>
  cases w2;cases w1 with
  | list ho hall=>exact⟨_,_,ns,rfl,rfl,ho,oM ns _ hall,J⟩
theorem CC(l:OpenLaw)(args:List WData):l.row.toRowW.claim.post args (.bool true) args=true:=
 postW_of (r:=l.row.toRowW) (X:=(true == true))
  (show WShape.has [] (.bool true) .bool=true by first|rfl|decide|simp[WShape.has,WShape.arms,WShape.armsAll])
  (show(WTm.eq .res (.lit (.bool true))).value [] {args:=args,res:=some (.bool true),after:=args}=some (.bool (true == true))from w_eq_bool (w_res rfl) w_lit) rfl
theorem vM{l:OpenLaw}{n:Nat}{q:YK}{J:List Str}{XP:(Str->Option Value)->Heap->Prop}{YP:World->Heap->Prop}{d:DefRec}
  (hn:l.most=some n) (ah:d.params.defaults=[])
  (call:∀(w:World) (F B:YE) (mg mb:Str -> Option Value) (fa:Addr) (o:Obj) (pm cd N:Value) (a:Addr) (vs:List Value) (ns:List Int),
   Ground q J [] XP w F mg mb B.heap->YP w B.heap->
   B.heap.get? fa=some o->o.data=.func (docDef d.name d.params d.body d.scope pm cd N)->B.heap.CodeRec cd d.name->mg d.name=some (.ref fa)->
   B.heap.get? a=some {cls:=.type "list",data:=.seq vs.toArray}->Z3 vs ns->ns.length<=n->B.gens=#[]->
   zal (model l.prog w) za9 (.call (.ref fa) ⟨[.ref a],[]⟩) (λr s'=>r=.ok (.ret (.bool true))/\OldK B.heap s'.heap/\s'.os=B.os/\zaJ s'.gens) B) :
  WalkO q J XP YP l.row.toRowW d [] (λf vs=>PySem.call f vs):=by
 intro w F B mg mb G Y fa o pm cd N dV kV ho hd ai hD aj hg args ao as aa am aq af a1;obtain rfl:dV=.none:=Dflts.none hD ah;obtain rfl:kV=.none:=Dflts.noKw hD;obtain⟨a,vs,ns,rfl,rfl,W,U,ab⟩:=CB hn aa af;refine enter_call (zbR (call w F B mg mb fa o pm cd N a vs ns G Y ho (fd_plain hd) ai aj W U ab hg) λr s' hq=>?_);obtain⟨rfl,h2,h3,h4⟩:=hq;exact⟨.inl ⟨.bool true,.bool true,[],rfl,λ_=>rfl,.bool true,CC l _,λ_=>⟨List.Pairwise.nil,λ_ hm=>(nomatch hm)⟩⟩,h2,h3,h4⟩
section
variable {prog:YK}{w:World}{A:YM}{E:Value->YE->Prop}{s:YE}{K:Frag}
end
end Att
namespace L2
open PySem PySem.Spec PyProof.Rows
theorem sL:∀ {vs:List Value} {ns:List Int},Z3 vs ns->Vals (ns.map V.int) vs
 | _,_,.nil=>.nil
 | _,_,.cons n t h=>.cons ⟨t,rfl⟩ (sL h)
def Only(H:Hp):Prop:=∀b,H b=none\/∃o xs,H b=some (.frz o (.lst xs))
theorem ES{P:YK}{w:World}{K:YH}{mg mb:Str->Option Value}{CX:DN}{k:Nat}{fa a:Addr}{fd:ZY}{x:Str}{sp:Sp}{B:YE}{vs:List Value}{ns:List Int}
  (KX:K.In B.heap) (af:B.heap.Ns YU mg) (N:B.heap.Ns builtinsNs mb) (ap:∀x:Str,x ≠ "__name__" -> mb x=ZA x) (ai:B.heap.NoLimit) (hg:B.gens=#[])
  (ha:B.heap.get? a=some {cls:=.type "list",data:=.seq vs.toArray}) (hi:Z3 vs ns) (hl:ns.length<=YN) (hr:Room k za9)
  (F:∀base:Heap,K.In base->base.Ns YU mg->FnOk P w K mg base CX k fa fd [x] sp) (Y:∀(s:YE) (u:Value),BindsTo s fd ⟨[u],[]⟩ [(x,u)])
  (ak:∀H:Hp,Only H->SqL K H a (ns.map V.int)->sp [.ref a] H (λv _=>v=.bl true) λ_ _ _=>False)
  (aj:∀H e s',CX [] H B (λ_ _ _=>False) e s'->False) :
  zal (model P w) za9 (.call (.ref fa) ⟨[.ref a],[]⟩) (λr s'=>r=.ok (.ret (.bool true))/\OldK B.heap s'.heap/\s'.os=B.os/\zaJ s'.gens) B:=by
 have rv:=sL hi;have ab:=hi.length
 -- from an abstract heap in which nothing but the script may be tracked
 have W:∀H:Hp,Only H->SqL K H a (ns.map V.int)->HOk P w H B.heap->(∀b,H b≠none->b=a)->(H a≠none->K.lookup a=none)->
   zal (model P w) za9 (.call (.ref fa) ⟨[.ref a],[]⟩) (λr s'=>r=.ok (.ret (.bool true))/\OldK B.heap s'.heap/\s'.os=B.os/\zaJ s'.gens) B:=by
  intro H hO hS ae hA hK;have J:∀ {b:Addr} {o:Obj},B.heap.get? b=some o->H b=none->(vE B.heap H).get? b=some o:=λe n=>FD e n
  have am:∀ {b:Addr} {o:Obj} {es:Array zaF} {ep:Nat},B.heap.get? b=some o->o.data=.dict es ep->H b=none:=λ{b o es ep} e d=>by
   cases q:H b with
   | none=>rfl
   | some u=>
    have e':b=a:=hA b (by rw[q];simp);subst e';rw[ha]at e;cases e;have d':Data.seq vs.toArray _=Data.dict es ep:=d;cases d'
  have U:∀ {b:Addr} {m:Str->Option Value},B.heap.Ns b m->(vE B.heap H).Ns b m:=λ{b m} ⟨o,es,ep,e,d,r⟩=>⟨o,es,ep,J e (am e d),d,r⟩
  have ac:K.In (vE B.heap H):=λb o e=>J (KX b o e) (by
   cases q:H b with
   | none=>rfl
   | some u=>
    have e':b=a:=hA b (by rw[q];simp);subst e';rw[hK (by rw[q];simp)]at e;cases e)
  have hM:Mod K mg (vE B.heap H):=⟨ac,U af,⟨mb,U N,ap⟩,let ⟨mc,h1,h2⟩:=ai;⟨mc,U h1,h2⟩⟩;have e0:Env0 P w K mg (vE B.heap H) za9 [] B H:=⟨rfl,hM,λb o e=>K0 e,Nat.le_of_eq (B4 _ _),trivial,λb N=>absurd (show b∈([]:List Addr)from N) (by simp),ae,.of_eq hg⟩;refine zbR ((F _ ac (U af)).run za9 [] B H ⟨[.ref a],[]⟩ [.ref a] [.ref a] _ _ hr e0 (Y B (.ref a)) (.cons rfl .nil) (ak H hO hS)) λr s' h=>?_
  cases r with
  | error e=>exact(aj H e s' h).elim
  | ok fl=>
   cases fl with
   | next=>exact ZT h
   | brk=>exact ZT h
   | cont=>exact ZT h
   | ret u=>
    obtain⟨v,H',os,ah,un,aa,r',q⟩:=h;have q':v=.bl true:=q;subst q';obtain rfl:u=zbn true:=r';refine⟨rfl,OldK.of_keep λb o e=>?_,os,ah⟩;cases q:H b with
    | none=>exact un.keep b o e q (by intro z;exact absurd (show b∈([]:List Addr)from z) (by simp)) (by simp)
    | some u=>
     rcases hO b with z|⟨ob,xs,z⟩
     ·rw[q]at z;cases z
     ·have z2:=un.frzs b ob _ z
      obtain⟨e1,_⟩:=ae b _ z;obtain⟨e2,_⟩:=aa b _ z2;rw[e]at e1;cases e1;exact e2
 cases hk:K.lookup a with
 | some o=>
  -- the script is one of the module's own objects
  have e:=KX a o hk;rw[ha]at e;cases e;refine W (λ_=>none) (λ_=>.inl rfl) (.inr ⟨_,vs.toArray,_,hk,rfl,rfl,rfl,by rw[Y1,ab];exact hl,by simpa using rv⟩) (λb u z=>by have z':(none:Option HO)=some u:=z;cases z') (λb z=>absurd rfl z) λz=>absurd rfl z
 | none=>
  refine W (λb=>if b=a then some (.frz {cls:=.type "list",data:=.seq vs.toArray} (.lst (ns.map V.int)))else none) (λb=>?_) (.inl (.inr ⟨{cls:=.type "list",data:=.seq vs.toArray},if_pos rfl⟩)) (λb u z=>?_) (λb z=>?_) λ_=>hk
  ·by_cases N:b=a
   ·exact .inr ⟨_,_,if_pos N⟩
   ·exact .inl (if_neg N)
  ·by_cases N:b=a
   ·have z':=(if_pos N).symm.trans z
    cases z';subst N;exact⟨ha,by rw[YV];exact hl,vs,_,rv,ha⟩
   ·have z':=(if_neg N).symm.trans z
    cases z'
  ·by_cases N:b=a
   ·exact N
   ·exact absurd (if_neg N) z
theorem IS{l:zcG}{n k:Nat}{q:YK}{J:List Str}{XP:(Str->Option Value)->Heap->Prop}{YP:World->Heap->Prop}{d:DefRec}{K:Params->YH}{CX:World->DN}{sp:World->Sp}{x:Str}
  (hn:l.most=some n) (ah:n<=YN) (af:d.params.defaults=[]) (hr:Room k za9)
  (hY:∀(w:World) (h:Heap),YP w h->(K w.params).In h)
  (F:∀(w:World) (mg:Str -> Option Value) (fa:Addr) (h:Heap), (K w.params).In h -> h.Ns YU mg -> mg d.name = some (.ref fa) ->
   ∃fd:ZY,(∀(s:YE) (u:Value),BindsTo s fd ⟨[u],[]⟩ [(x,u)]) /\
    ∀base:Heap,(K w.params).In base->base.Ns YU mg->FnOk l.prog w (K w.params) mg base (CX w) k fa fd [x] (sp w))
  (ae:∀(w:World) (H:Hp) (a:Addr) (ns:List Int),ns.length<=n->Only H->SqL (K w.params) H a (ns.map V.int)->sp w [.ref a] H (λv _=>v=.bl true) λ_ _ _=>False)
  (ac:∀(w:World) (H:Hp) (s:YE) (e:Value) (s':YE),CX w [] H s (λ_ _ _=>False) e s'->False) :
  PySem.W.WalkO q J XP YP l.row.toRowW d [] (λf vs=>PySem.call f vs):=by
 refine Att.vM hn af λw ai aa mg mb fa o pm cd am a vs ns G Y ho hd aq ag U N B hg=>?_
 have KX:=hY w _ Y;obtain⟨fd,hb,hF⟩:=F w mg fa _ KX G.T.g ag;exact ES KX G.T.g G.T.b G.T.builtins G.T.nolimit hg U N (ZF B ah) hr hF hb (λH hO hS=>ae w H a ns B hO hS) λH e s'=>ac w H aa e s'
noncomputable def inClass(s:Stmt)(j:Nat):Stmt:=match s with
 | .ClassDef _ _ _ body _ _ _ _ _ _ _=>body.getD j (.Pass ⟨0,0,0,0⟩)
 | _=>.Pass ⟨0,0,0,0⟩
noncomputable def cU(s:Stmt):Arguments:=match s with
 | .FunctionDef _ a _ _ _ _ _ _ _ _=>a
 | _=>{posonlyargs:=[],args:=[],vararg:=none,kwonlyargs:=[],kw_defaults:=[],kwarg:=none,defaults:=[]}
noncomputable def aX(s:Stmt):List Stmt:=match s with
 | .FunctionDef _ _ b _ _ _ _ _ _ _=>b
 | _=>[]
noncomputable def aF(s:Stmt):Scope:=match s with
 | .FunctionDef _ _ _ _ _ _ sc _ _ _=>sc
 | _=>{kind:=.function,names:=[],isGenerator:=false,isCoroutine:=false}
abbrev mW:DN:=λ_ _ _ _ _ _=>False
abbrev E0:XK:=λ_ _ _=>False
theorem BD:qR mW X E0:=λ_ _ _ _ _ _ _ h=>h.elim
structure Fun(K:YH)(x qual:Str)(st:Stmt)(f:Addr)(fd:ZY):Prop where
 ex:∃(oc:Value) (od:Option Addr) (kV doc pm:Value) (an:Option Addr) (cdv ct:Value) (osl:Array (Option Value)),
  fd=Z2 x qual (cU st) (aX st) (aF st) .none kV doc pm an cdv ct/\K.lookup f=some ⟨oc,od,.func fd,osl⟩/\za6 K cdv qual=true
 kp:zaw K (.ref f)=true
section
variable {P:YK}{w:World}{K:YH}{mg:Str->Option Value}{base:Heap}
theorem Fun.ok{x J:Str}{st:Stmt}{f:Addr}{fd:ZY}{N ps:List Str}{k:Nat}{sp:Sp}(F:Fun K x J st f fd)(S:FnScope N ps (aF st))(len:∀vs H Q E,sp vs H Q E->vs.length=ps.length)
  (W:∀(U:Value) (A:YM) (B:List Env) (s:YE) (H:Hp) (vs:List V) (Q:VK) (E:XK), Room k (A.deeper (Y2 J (aF st) s.heap.objs.size f U)) -> sp vs H Q E ->
   ∃t,PSs (eN mW P w K mg base N J (aF st) f U A B s H E).nox (aX st) t/\t {nx:=λ_ H'=>Q .non H',rt:=Q} (start N vs) H):FnOk P w K mg base mW (k+1) f fd ps sp:=by
 obtain⟨oc,od,kV,ac,pm,an,U,ct,ae,rfl,lk,Y⟩:=F.ex;refine R4 lk Y S len λA B s H vs Q E hr aa=>?_
 obtain⟨t,h,q⟩:=W U A B s H vs Q E hr aa;exact⟨t,h.nox,q⟩
theorem Fun.binds{x q:Str}{st:Stmt}{f:Addr}{fd:ZY}{ps:List Str}(F:Fun K x q st f fd)
  (h:∀(kV J U:Value) (N:Option Addr) (B ct:Value) (us:List Value),us.length=ps.length->bindArgs (Z2 x q (cU st) (aX st) (aF st) .none kV J U N B ct) ⟨us,[]⟩=pure (ps.zip us)):Binds K fd ps []:=by
 obtain⟨oc,od,kV,J,U,N,B,ct,Y,rfl,lk,W⟩:=F.ex;exact .all (h kV J U N B ct)
theorem yV{x q:Str}{st:Stmt}{f:Addr}{W:Value}{od N:Option Addr}{J:Array (Option Value)}{kV F U B ct:Value}(l:K.lookup f=some ⟨W,od,.func (Z2 x q (cU st) (aX st) (aF st) .none kV F U N B ct),J⟩)
  (c:za6 K B q=true) (k:zaw K (.ref f)=true):Fun K x q st f (Z2 x q (cU st) (aX st) (aF st) .none kV F U N B ct):=⟨⟨W,od,kV,F,U,N,B,ct,J,rfl,l,c⟩,k⟩
end
theorem jL(q:Room k A):A.units+1<cLine:=zb1 (Nat.add_le_add_left (by decide:1<=64) _) q.units
section
variable {X:Cx}
theorem pv(i:Nat)(B:X.N[i]?=some x:=by rfl)(J:RB X.env.scope x:=by first|exact ZL rfl|exact Z5 (ZL rfl)|exact Z5 (Z5 rfl))(F:(x == ("__debug__" : Str))=false:=by decide)
  (q:(x == ("__classdict__" : Str))=false:=by decide):PE X (.Name x pos) (d6 i):=NV B J F q
end
theorem VI{A B:Prop}(h:B):if false=true then A else B:=by
 rw[if_neg YX];exact h
theorem UK{A B:Prop}(h:A):if true=true then A else B:=by
 rw[if_pos rfl];exact h
def Same(H H':Hp):Prop:=∀b o,H b=some o->H' b=some o
theorem Same.trans(a:Same H H1)(b:Same H1 H2):Same H H2:=λc o h=>b c o (a c o h)
theorem Same.free(e:Same H H')(h:H' l=Option.none):H l=Option.none:=by
 cases q:H l with
 | none=>rfl
 | some o=>
  rw[e l o q]at h;cases h
theorem Same.seq{K:YH}{H H':Hp}{a:Addr}{xs:List V}(e:Same H H')(h:SqL K H a xs):SqL K H' a xs:=by
 rcases h with(h|⟨o,h⟩)|h
 ·exact .inl (.inl (e _ _ h))
 ·exact .inl (.inr ⟨o,e _ _ h⟩)
 ·exact .inr h
section
variable {X:Cx}
end
section
variable {κ:Type}[DecidableEq κ]
end
end L2
set_option maxHeartbeats 4000000
namespace My
open PySem PySem.Spec PyProof.Rows L2
def UH(i j:Int):Prop:=(-(10^250)<i/\i<10^250)/\-(10^250)<j/\j<10^250
section
variable {X:Cx}
def V2(K:YH):List V->Hp->VK->Prop:=λxs H Q=>∃x n t b,xs=[x,.ty n]/\TyOf K H x t/\zbP K t (.type n)=some b/\Q (.bl b) H
theorem E9:CallR X (.builtin "isinstance") (V2 X.K):=by
 intro pins s σ H xs N Q I r h;obtain⟨x,n,t,b,rfl,ty,e,q⟩:=h;obtain⟨u,J,rfl,F,B⟩:=vals2 r;cases B;exact CG I F ty e λtk=>⟨.bl b,H,I.tok tk,rfl,q⟩
end
structure Ok(P:YK)(w:World)(K:YH)(mg:Str->Option Value)(base:Heap)(x:Str)(k:Nat)(ps:List Str)(sp:Sp):Prop where
 ex:∃f fd,zaw K (.ref f)=true/\Binds K fd ps []/\mg x=some (.ref f)/\FnOk P w K mg base mW k f fd ps sp
structure DefAt(K:YH)(mg:Str->Option Value)(x:Str)(st:Stmt)(ps:List Str):Prop where
 ex:∃f fd,Fun K x x st f fd/\Binds K fd ps []/\mg x=some (.ref f)
def NJ(sp:Sp)(t:TA):TE:=λσ H Q=>t σ H λvs H1=>sp vs H1 Q E0
section
variable {X:Cx}{x:Str}{k:Nat}{ps:List Str}{sp:Sp}{e:Expr}{es:List Expr}{t:TA}{p pos:Pos}
theorem gU(O:Ok X.prog X.w X.K X.mg X.base x k ps sp)(Y:Room k X.A)(W:Gl X x)(ha:PA X (e::es) t)(B:(x == ("__debug__" : Str))=false:=by decide)
  (J:YG (e::es) X.env=(false,eval e X.env)::YG es X.env:=by rfl) (q:(YO pos (YG es X.env)).any (·.1)=false:=by rfl) :
  PE X (.Call (.Name x p) (e::es) [] pos) (NJ sp t):=by
 obtain⟨f,fd,hk,N,U,F⟩:=O.ex;have h:=KA (p:=p) (pos:=pos) F Y W U hk N .nil BD ha B J q;intro pins s σ H Q I hw;refine h pins s σ H Q I ?_;have e:(λ(vs:List V) (H1:Hp)=>sp (vs++[]) H1 Q E0)=λvs H1=>sp vs H1 Q E0:=by
  funext vs H1;rw[zam]
 show t σ H λvs H1=>sp (vs++[]) H1 Q E0
 rw[e];exact hw
end
section
variable {P:YK}{w:World}{K:YH}{mg:Str->Option Value}{base:Heap}
def BodyOk(P:YK)(w:World)(K:YH)(mg:Str->Option Value)(base:Heap)(x:Str)(st:Stmt)(N:List Str)(k:Nat)(sp:Sp):Prop:=
 ∀(f:Addr) (cdv:Value) (A:YM) (outer:List Env) (s:YE) (H:Hp) (vs:List V) (Q:VK) (E:XK),Room k (A.deeper (Y2 x (aF st) s.heap.objs.size f cdv))->sp vs H Q E->
   ∃t,PSs (eN mW P w K mg base N x (aF st) f cdv A outer s H E).nox (aX st) t/\t {nx:=λ_ H'=>Q .non H',rt:=Q} (start N vs) H
theorem BodyOk.fn{x:Str}{st:Stmt}{N ps:List Str}{k:Nat}{sp:Sp}{f:Addr}{fd:ZY}(B:BodyOk P w K mg base x st N k sp)(F:Fun K x x st f fd)(S:FnScope N ps (aF st))(len:∀vs H Q E,sp vs H Q E->vs.length=ps.length) :
  FnOk P w K mg base mW (k+1) f fd ps sp:=F.ok S len λJ A q s H vs Q E U h=>B f J A q s H vs Q E U h
theorem BodyOk.ok{x:Str}{st:Stmt}{N ps:List Str}{k:Nat}{sp:Sp}(q:BodyOk P w K mg base x st N k sp)(D:DefAt K mg x st ps)(S:FnScope N ps (aF st))(len:∀vs H Q E,sp vs H Q E->vs.length=ps.length) :
  Ok P w K mg base x (k+1) ps sp:=by
 obtain⟨f,fd,F,B,J⟩:=D.ex;exact⟨f,fd,F.kp,B,J,q.fn F S len⟩
theorem Ok.mono(O:Ok P w K mg base x j ps sp)(h:j<=k):Ok P w K mg base x k ps sp:=by
 obtain⟨f,fd,hk,q,B,F⟩:=O.ex;exact⟨f,fd,hk,q,B,F.mono h⟩
end
def xD(K:YH):Sp:=λvs H Q _=>∃(a:Addr) (ns:List Int),vs=[.ref a]/\SqL K H a (ns.map V.int)/\ns.length<=63/\∀H',Q (.bl true) H'
theorem EF(h:H p=none):Same H (upd H p o):=λb u e=>by
 rw[aK (bJ e h)];exact e
theorem Same.tupR{K:YH}{H H':Hp}{a:Addr}{xs:List V}(e:Same H H')(h:SqT K H a xs):SqT K H' a xs:=by
 rcases h with(h|⟨o,h⟩)|h
 ·exact .inl (.inl (e _ _ h))
 ·exact .inl (.inr ⟨o,e _ _ h⟩)
 ·exact .inr h
theorem boot_len:ZA "len" = some (.builtin "len"):=by decide +kernel
theorem boot_max:ZA "max" = some (.builtin "max"):=by decide +kernel
theorem boot_min:ZA "min" = some (.builtin "min"):=by decide +kernel
theorem boot_isinstance:ZA "isinstance" = some (.builtin "isinstance"):=by decide +kernel
theorem boot_int:ZA "int" = some (.type "int"):=by decide +kernel
theorem boot_bool:ZA "bool" = some (.type "bool"):=by decide +kernel
theorem boot_tuple:ZA "tuple" = some (.type "tuple"):=by decide +kernel
theorem boot_str:ZA "str" = some (.type "str"):=by decide +kernel
theorem boot_range:ZA "range" = some (.type "range"):=by decide +kernel
theorem boot_sum:ZA "sum" = some (.builtin "sum"):=by decide +kernel
theorem boot_any:ZA "any" = some (.builtin "any"):=by decide +kernel
theorem boot_all:ZA "all" = some (.builtin "all"):=by decide +kernel
end My
namespace My
open PySem PySem.Spec PyProof.Rows L2 PySem.SeqAt
inductive Dx where
 | non|bl (b:Bool)|int (i:Int)|str (x:Str)|tup (l:List Dx)|lst (l:List Dx)
mutual
def Rep(K:YH)(H:Hp):Dx->V->Prop
 | .non,v=>v=.non
 | .bl b,v=>v=.bl b
 | .int i,v=>v=.int i
 | .str x,v=>v=.str x
 | .tup l,v=>∃a xs,v=.ref a/\SqT K H a xs/\RepL K H l xs
 | .lst l,v=>∃a xs,v=.ref a/\SqL K H a xs/\RepL K H l xs
def RepL(K:YH)(H:Hp):List Dx->List V->Prop
 | [],vs=>vs=[]
 | d::ds,vs=>∃x xs,vs=x::xs/\Rep K H d x/\RepL K H ds xs
end
section
variable {K:YH}{H H':Hp}
mutual
theorem Rep.same(e:Same H H'):∀(d:Dx) (v:V),Rep K H d v->Rep K H' d v
 | .non,v,h=>by rw[Rep]at h ⊢;exact h
 | .bl b,v,h=>by rw[Rep]at h ⊢;exact h
 | .int i,v,h=>by rw[Rep]at h ⊢;exact h
 | .str x,v,h=>by rw[Rep]at h ⊢;exact h
 | .tup l,v,h=>by
  rw[Rep]at h ⊢;obtain⟨a,xs,q,h1,h2⟩:=h;exact⟨a,xs,q,Same.tupR e h1,RepL.same e l xs h2⟩
 | .lst l,v,h=>by
  rw[Rep]at h ⊢;obtain⟨a,xs,q,h1,h2⟩:=h;exact⟨a,xs,q,e.seq h1,RepL.same e l xs h2⟩
theorem RepL.same(e:Same H H'):∀(ds:List Dx) (vs:List V),RepL K H ds vs->RepL K H' ds vs
 | [],vs,h=>by rw[RepL]at h ⊢;exact h
 | d::ds,vs,h=>by
  rw[RepL]at h ⊢;obtain⟨x,xs,q,h1,h2⟩:=h;exact⟨x,xs,q,Rep.same e d x h1,RepL.same e ds xs h2⟩
end
theorem RepL.nil:RepL K H [] []:=by rw[RepL]
theorem RepL.cons(h1:Rep K H d v)(h2:RepL K H ds vs):RepL K H (d::ds) (v::vs):=by
 rw[RepL];exact⟨v,vs,rfl,h1,h2⟩
theorem RepL.length:∀ {ds:List Dx} {vs:List V},RepL K H ds vs->vs.length=ds.length
 | [],vs,h=>by rw[RepL]at h;rw[h];rfl
 | d::ds,vs,h=>by
  rw[RepL]at h;obtain⟨x,xs,rfl,_,h2⟩:=h;rw[Y7,Y7,RepL.length h2]
theorem RepL.get':∀ {ds:List Dx} {vs:List V} {i:Nat} {d:Dx},RepL K H ds vs->ds[i]?=some d->∃v,vs[i]?=some v/\Rep K H d v
 | [],vs,i,d,h,e=>by simp at e
 | d'::ds,vs,i,d,h,e=>by
  rw[RepL]at h;obtain⟨x,xs,rfl,h1,h2⟩:=h;cases i with
  | zero=>simp at e;subst e;exact⟨x,rfl,h1⟩
  | succ i=>exact RepL.get' (i:=i) (ds:=ds) h2 (by simpa using e)
theorem RepL.append:∀ {ds es:List Dx} {vs us:List V},RepL K H ds vs->RepL K H es us->RepL K H (ds++es) (vs++us)
 | [],es,vs,us,h,h'=>by rw[RepL]at h;rw[h];exact h'
 | d::ds,es,vs,us,h,h'=>by
  rw[RepL]at h;obtain⟨x,xs,rfl,h1,h2⟩:=h;exact RepL.cons h1 (RepL.append h2 h')
mutual
def Dx.dep:Dx->Nat
 | .tup l=>rL l+1
 | .lst l=>rL l+1
 | .non=>0
 | .bl _=>0
 | .int _=>0
 | .str _=>0
def rL:List Dx->Nat
 | []=>0
 | d::ds=>max d.dep (rL ds)
end
mutual
def Dx.nb:Dx->Bool
 | .bl _=>false
 | .tup l=>HZ l
 | .lst l=>HZ l
 | .non=>true
 | .int _=>true
 | .str _=>true
def HZ:List Dx->Bool
 | []=>true
 | d::ds=>d.nb && HZ ds
end
theorem zU:∀ {ds:List Dx} {i:Nat} {d:Dx},ds[i]?=some d->d.dep<=rL ds
 | [],i,d,e=>by simp at e
 | d'::ds,0,d,e=>by simp at e;subst e;rw[rL];lia
 | d'::ds,i+1,d,e=>by
  have:=zU (ds:=ds) (i:=i) (by simpa using e);rw[rL];lia
theorem zF:∀ {ds:List Dx} {i:Nat} {d:Dx},HZ ds=true->ds[i]?=some d->d.nb=true
 | [],i,d,_,e=>by simp at e
 | d'::ds,0,d,h,e=>by simp at e;subst e;rw[HZ,ZK]at h;exact h.1
 | d'::ds,i+1,d,h,e=>by
  rw[HZ,ZK]at h;exact zF h.2 (by simpa using e)
end
section
variable {X:Cx}{pins:List (Addr×Obj)}{σ:L2.St}{H:Hp}{s:YE}
theorem zP(I:Inv X pins σ H s)(h1:SqL X.K H a xs)(h2:SqT X.K H a ys):False:=by
 obtain⟨F,_,⟨o,n,e,c,_⟩,_⟩:=I.list h1;obtain⟨its',_,⟨o',B,q,_⟩,_⟩:=I.tuple h2;rw[e]at B;cases B;rw[c]at q;exact absurd q (by decide)
mutual
theorem Rep.inj(I:Inv X pins σ H s):∀(d e:Dx) (v:V),Rep X.K H d v->Rep X.K H e v->d=e
 | .non,e,v,h,h'=>by
  rw[Rep]at h;subst h;cases e <;> (rw[Rep]at h') <;> first|rfl|(cases h';done)|(obtain⟨_,_,z,_⟩:=h';cases z)
 | .bl b,e,v,h,h'=>by
  rw[Rep]at h;subst h;cases e <;> (rw[Rep]at h') <;> first|(cases h';rfl)|(cases h';done)|(obtain⟨_,_,z,_⟩:=h';cases z)
 | .int i,e,v,h,h'=>by
  rw[Rep]at h;subst h;cases e <;> (rw[Rep]at h') <;> first|(cases h';rfl)|(cases h';done)|(obtain⟨_,_,z,_⟩:=h';cases z)
 | .str x,e,v,h,h'=>by
  rw[Rep]at h;subst h;cases e <;> (rw[Rep]at h') <;> first|(cases h';rfl)|(cases h';done)|(obtain⟨_,_,z,_⟩:=h';cases z)
 | .tup l,e,v,h,h'=>by
  rw[Rep]at h;obtain⟨a,xs,rfl,h1,h2⟩:=h;cases e with
  | tup m=>
   rw[Rep]at h';obtain⟨b,ys,B,q,F⟩:=h';cases B;have J:=I.tuple_inj h1 q;subst J;rw[RepL.inj I l m xs h2 F]
  | lst m=>
   rw[Rep]at h';obtain⟨b,ys,B,q,F⟩:=h';cases B;exact(zP I q h1).elim
  | non=>rw[Rep]at h';cases h'
  | bl b=>rw[Rep]at h';cases h'
  | int i=>rw[Rep]at h';cases h'
  | str x=>rw[Rep]at h';cases h'
 | .lst l,e,v,h,h'=>by
  rw[Rep]at h;obtain⟨a,xs,rfl,h1,h2⟩:=h;cases e with
  | lst m=>
   rw[Rep]at h';obtain⟨b,ys,B,q,F⟩:=h';cases B;have J:=I.list_inj h1 q;subst J;rw[RepL.inj I l m xs h2 F]
  | tup m=>
   rw[Rep]at h';obtain⟨b,ys,B,q,F⟩:=h';cases B;exact(zP I h1 q).elim
  | non=>rw[Rep]at h';cases h'
  | bl b=>rw[Rep]at h';cases h'
  | int i=>rw[Rep]at h';cases h'
  | str x=>rw[Rep]at h';cases h'
theorem RepL.inj(I:Inv X pins σ H s):∀(ds es:List Dx) (vs:List V),RepL X.K H ds vs->RepL X.K H es vs->ds=es
 | [],es,vs,h,h'=>by
  rw[RepL]at h;subst h;cases es with
  | nil=>rfl
  | cons e es=>rw[RepL]at h';obtain⟨_,_,z,_⟩:=h';cases z
 | d::ds,es,vs,h,h'=>by
  rw[RepL]at h;obtain⟨x,xs,rfl,h1,h2⟩:=h;cases es with
  | nil=>rw[RepL]at h';cases h'
  | cons e es=>
   rw[RepL]at h';obtain⟨_,_,z,B,q⟩:=h';cases z;rw[Rep.inj I d e x h1 B,RepL.inj I ds es xs h2 q]
end
end
open Classical in
theorem uL:∀(ds es:List Dx),((Z6 (min ds.length es.length)).all (λj=>decide (ds.getD j .non=es.getD j .non)) && ds.length == es.length)=decide (ds=es):=by
 intro ds es;by_cases h:ds=es
 ·subst h
  simp
 ·rw[decide_eq_false h]
  by_cases q:ds.length=es.length
  ·simp only[q,Nat.min_self,beq_self_eq_true,Bool.and_true]
   rw[Bool.eq_false_iff];intro ha;rw[zb2]at ha;refine h (List.ext_getElem q λi h1 h2=>?_);have:=of_decide_eq_true (ha i (List.mem_range.mpr h2));simpa[List.getD,h1,h2]using this
  ·have:(ds.length == es.length)=false:=by simpa using q
   rw[this,Bool.and_false]
open Classical in
theorem wY(ds es:List Dx)(h:ds.length=es.length):((Z6 ds.length).all (λj=>decide (ds.getD j .non=es.getD j .non)))=decide (ds=es):=by
 have:=uL ds es;rw[h,Nat.min_self,beq_self_eq_true,Bool.and_true]at this;rw[h];exact this
section
variable {X:Cx}{pins:List (Addr×Obj)}{σ:L2.St}{H:Hp}{s:YE}
theorem EqAt.to(h:EqAt A s u v b)(e:b=c):EqAt A s u v c:=e ▸ h
open Classical in
theorem lN(I:Inv X pins σ H s){n:Nat}(ih:∀(A:YM) (d e:Dx) (x y:V) (u v:Value),d.dep<=n->A.units+n<cLine->d.nb=true->e.nb=true->Rep X.K H d x->Rep X.K H e y->RelV x u->RelV y v->EqAt A s u v (decide (d=e)))
  {A:YM} {ds es:List Dx} {xs ys:List V} {q vs:List Value} (hd:rL ds<=n) (hu:A.units+(n+1)<cLine) (h1:HZ ds=true) (h2:HZ es=true) (Y:RepL X.K H ds xs) (J:RepL X.K H es ys) (F:Vals xs q) (U:Vals ys vs) :
  ∀j (h1:j<q.toArray.size) (h2:j<vs.toArray.size),EqAt A.in1 s q.toArray[j] vs.toArray[j] (decide (ds.getD j .non=es.getD j .non)):=by
 intro j j1 j2;have l1:=Y.length;have l2:=J.length;have l3:=F.length;have l4:=U.length;have k1:j<q.length:=by simpa using j1
 have k2:j<vs.length:=by simpa using j2
 have B:ds[j]?=some (ds.getD j .non):=by simp[List.getD,show j<ds.length by lia]
 have W:es[j]?=some (es.getD j .non):=by simp[List.getD,show j<es.length by lia]
 obtain⟨x,ex,rx⟩:=Y.get' B;obtain⟨y,ey,ry⟩:=J.get' W;obtain⟨u,N,ru⟩:=F.get ex;obtain⟨v,ev,rv⟩:=U.get ey;have b1:q.toArray[j]=u:=by
  rw[zap k1]at N;simpa using ZI N
 have b2:vs.toArray[j]=v:=by
  rw[zap k2]at ev;simpa using ZI ev
 rw[b1,b2];exact ih A.in1 _ _ x y u v (ZF (zU B) hd) (by show A.units+1+n<cLine;lia) (zF h1 B) (zF h2 W) rx ry ru rv
end
section
variable {X:Cx}{pins:List (Addr×Obj)}{σ:L2.St}{H:Hp}{s:YE}
theorem PlainL.isList(p:PlainL h a its):h.IsList a its:=by
 obtain⟨o,n,e,c,_,d⟩:=p;exact⟨o,e,c,n,d⟩
open Classical in
theorem pC(I:Inv X pins σ H s) :
  ∀(n:Nat) (A:YM) (d e:Dx) (x y:V) (u v:Value),d.dep<=n->A.units+n<cLine->d.nb=true->e.nb=true->Rep X.K H d x->Rep X.K H e y->RelV x u->RelV y v->EqAt A s u v (decide (d=e)):=by
 intro n;induction n with
 | zero=>
  intro A d e x y u v hd hu n1 U r1 q ru F;have B:A.units<cLine:=by lia
  cases d with
  | bl b=>rw[Dx.nb]at n1;cases n1
  | tup l=>rw[Dx.dep]at hd;lia
  | lst l=>rw[Dx.dep]at hd;lia
  | non=>
   rw[Rep]at r1;subst r1;cases ru;cases e with
   | bl b=>rw[Dx.nb]at U;cases U
   | non=>rw[Rep]at q;subst q;cases F;exact EqAt.to (EqAt.same _) (by simp)
   | int i=>rw[Rep]at q;subst q;obtain⟨t,rfl⟩:=F;exact EqAt.to (EqAt.none_int _ _) (by simp)
   | str i=>rw[Rep]at q;subst q;obtain⟨t,rfl⟩:=F;exact EqAt.to (EqAt.none_str _ _) (by simp)
   | tup l=>
    rw[Rep]at q;obtain⟨a,xs,rfl,h1,_⟩:=q;cases F;obtain⟨N,_,J,_⟩:=I.tuple h1;exact EqAt.to (EqAt.none_tuple J B) (by simp)
   | lst l=>
    rw[Rep]at q;obtain⟨a,xs,rfl,h1,_⟩:=q;cases F;obtain⟨N,_,J,_⟩:=I.list h1;exact EqAt.to (EqAt.none_list J.isList B) (by simp)
  | int i=>
   rw[Rep]at r1;subst r1;obtain⟨t,rfl⟩:=ru;cases e with
   | bl b=>rw[Dx.nb]at U;cases U
   | non=>rw[Rep]at q;subst q;cases F;exact EqAt.to (EqAt.int_none _ _) (by simp)
   | int j=>rw[Rep]at q;subst q;obtain⟨t',rfl⟩:=F;exact EqAt.to (EqAt.int_int _ _ _ _) (by simp[Bool.beq_eq_decide_eq])
   | str j=>rw[Rep]at q;subst q;obtain⟨t',rfl⟩:=F;exact EqAt.to (EqAt.int_str _ _ _ _) (by simp)
   | tup l=>
    rw[Rep]at q;obtain⟨a,xs,rfl,h1,_⟩:=q;cases F;obtain⟨N,_,J,_⟩:=I.tuple h1;exact EqAt.to (EqAt.int_tuple _ _ J B) (by simp)
   | lst l=>
    rw[Rep]at q;obtain⟨a,xs,rfl,h1,_⟩:=q;cases F;obtain⟨N,_,J,_⟩:=I.list h1;exact EqAt.to (EqAt.int_list _ _ J.isList B) (by simp)
  | str i=>
   rw[Rep]at r1;subst r1;obtain⟨t,rfl⟩:=ru;cases e with
   | bl b=>rw[Dx.nb]at U;cases U
   | non=>rw[Rep]at q;subst q;cases F;exact EqAt.to (EqAt.str_none _ _) (by simp)
   | int j=>rw[Rep]at q;subst q;obtain⟨t',rfl⟩:=F;exact EqAt.to (EqAt.str_int _ _ _ _) (by simp)
   | str j=>rw[Rep]at q;subst q;obtain⟨t',rfl⟩:=F;exact EqAt.to (EqAt.str_str _ _ _ _) (by simp[Bool.beq_eq_decide_eq])
   | tup l=>
    rw[Rep]at q;obtain⟨a,xs,rfl,h1,_⟩:=q;cases F;obtain⟨N,_,J,_⟩:=I.tuple h1;exact EqAt.to (EqAt.str_tuple _ _ J B) (by simp)
   | lst l=>
    rw[Rep]at q;obtain⟨a,xs,rfl,h1,_⟩:=q;cases F;obtain⟨N,_,J,_⟩:=I.list h1;exact EqAt.to (EqAt.str_list _ _ J.isList B) (by simp)
 | succ n ih=>
  intro A d e x y u v hd hu n1 U r1 q ru F;have B:A.units<cLine:=by lia
  cases d with
  | bl b=>rw[Dx.nb]at n1;cases n1
  | non=>exact ih A _ e x y u v (by rw[Dx.dep];lia) (by lia) n1 U r1 q ru F
  | int i=>exact ih A _ e x y u v (by rw[Dx.dep];lia) (by lia) n1 U r1 q ru F
  | str i=>exact ih A _ e x y u v (by rw[Dx.dep];lia) (by lia) n1 U r1 q ru F
  | tup l=>
   have af:=r1;rw[Rep]at r1;obtain⟨a,xs,rfl,h1,q1⟩:=r1;cases ru;obtain⟨N,v1,J,_⟩:=I.tuple h1;cases e with
   | bl b=>rw[Dx.nb]at U;cases U
   | non=>rw[Rep]at q;subst q;cases F;exact EqAt.to (EqAt.tuple_none J B) (by simp)
   | int j=>rw[Rep]at q;subst q;obtain⟨t',rfl⟩:=F;exact EqAt.to (EqAt.tuple_int _ _ J B) (by simp)
   | str j=>rw[Rep]at q;subst q;obtain⟨t',rfl⟩:=F;exact EqAt.to (EqAt.tuple_str _ _ J B) (by simp)
   | lst m=>
    rw[Rep]at q;obtain⟨b,ys,rfl,h2,q2⟩:=q;cases F;obtain⟨Y,v2,W,_⟩:=I.list h2;exact EqAt.to (EqAt.tuple_list J W.isList B) (by simp)
   | tup m=>
    by_cases hv:v=Y5 a
    ·subst hv
     obtain rfl:y=V.ref a:=RelV.inj F rfl;have:=Rep.inj I _ _ _ af q;rw[this];exact EqAt.to (EqAt.same _) (by simp)
    ·rw[Rep]at q;obtain⟨b,ys,rfl,h2,q2⟩:=q;cases F
     obtain⟨Y,v2,W,_⟩:=I.tuple h2;rw[Dx.dep]at hd;rw[Dx.nb]at n1 U;refine EqAt.to (EqAt.of_refs (λz=>hv (by rw[z])) (RcAt.tuples J W B (lN I ih (by lia) hu n1 U q1 q2 v1 v2))) ?_;have e1:N.toArray.size=l.length:=by rw[Y1,<- v1.length,q1.length]
     have e2:Y.toArray.size=m.length:=by rw[Y1,<- v2.length,q2.length]
     rw[e1,e2,uL];simp
  | lst l=>
   have af:=r1;rw[Rep]at r1;obtain⟨a,xs,rfl,h1,q1⟩:=r1;cases ru;obtain⟨N,v1,J,_⟩:=I.list h1;cases e with
   | bl b=>rw[Dx.nb]at U;cases U
   | non=>rw[Rep]at q;subst q;cases F;exact EqAt.to (EqAt.list_none J.isList B) (by simp)
   | int j=>rw[Rep]at q;subst q;obtain⟨t',rfl⟩:=F;exact EqAt.to (EqAt.list_int _ _ J.isList B) (by simp)
   | str j=>rw[Rep]at q;subst q;obtain⟨t',rfl⟩:=F;exact EqAt.to (EqAt.list_str _ _ J.isList B) (by simp)
   | tup m=>
    rw[Rep]at q;obtain⟨b,ys,rfl,h2,q2⟩:=q;cases F;obtain⟨Y,v2,W,_⟩:=I.tuple h2;exact EqAt.to (EqAt.list_tuple J.isList W B) (by simp)
   | lst m=>
    by_cases hv:v=Y5 a
    ·subst hv
     obtain rfl:y=V.ref a:=RelV.inj F rfl;have:=Rep.inj I _ _ _ af q;rw[this];exact EqAt.to (EqAt.same _) (by simp)
    ·rw[Rep]at q;obtain⟨b,ys,rfl,h2,q2⟩:=q;cases F
     obtain⟨Y,v2,W,_⟩:=I.list h2;rw[Dx.dep]at hd;rw[Dx.nb]at n1 U;have e1:N.toArray.size=l.length:=by rw[Y1,<- v1.length,q1.length]
     have e2:Y.toArray.size=m.length:=by rw[Y1,<- v2.length,q2.length]
     by_cases hl:l.length=m.length
     ·refine EqAt.to (EqAt.of_refs (λz=>hv (by rw[z])) (RcAt.lists J.isList W.isList (by rw[e1,e2,hl]) B (lN I ih (by lia) hu n1 U q1 q2 v1 v2))) ?_
      rw[e1,wY _ _ hl];simp
     ·refine EqAt.to (EqAt.of_refs (λz=>hv (by rw[z])) (RcAt.lists_lengths J.isList W.isList (by rw[e1,e2];simpa using hl) B)) ?_
      rw[decide_eq_false];intro z;cases z;exact hl rfl
end
noncomputable def Dx.seq:Dx->Bool
 | .tup _=>true | .lst _=>true | .non=>false | .bl _=>false | .int _=>false | .str _=>false
open Classical in
def T3(K:YH)(neg:Bool):R2:=λx y H Q=>∃d e,Rep K H d x/\Rep K H e y/\d.seq=true/\e.seq=true/\d.nb=true/\e.nb=true/\d.dep<=60/\Q (.bl (if neg then !decide (d=e)else decide (d=e))) H
section
variable {X:Cx}{pins:List (Addr×Obj)}{σ:L2.St}{H:Hp}{s:YE}
open Classical in
theorem MC(I:Inv X pins σ H s)(hu:X.A.units+64<cLine)(r1:Rep X.K H d x)(N:Rep X.K H e y)(q1:d.seq=true)(q2:e.seq=true)(n1:d.nb=true)(n2:e.nb=true)(hd:d.dep<=60)(ru:RelV x u)(rv:RelV y v) :
  RcAt X.A s u v (decide (d=e))/\RcNeAt X.A s u v (!decide (d=e)):=by
 have B:X.A.units<cLine:=by lia
 cases d with
 | bl b=>cases q1
 | non=>cases q1
 | int b=>cases q1
 | str b=>cases q1
 | tup l=>
  rw[Rep]at r1;obtain⟨a,xs,rfl,h1,k1⟩:=r1;cases ru;obtain⟨U,v1,J,_⟩:=I.tuple h1;have e1:U.toArray.size=l.length:=by rw[Y1,<- v1.length,k1.length]
  cases e with
  | bl b=>cases q2
  | non=>cases q2
  | int b=>cases q2
  | str b=>cases q2
  | tup m=>
   rw[Rep]at N;obtain⟨b,ys,rfl,h2,W⟩:=N;cases rv;obtain⟨F,Y,q,_⟩:=I.tuple h2;have e2:F.toArray.size=m.length:=by rw[Y1,<- Y.length,W.length]
   rw[Dx.dep]at hd;rw[Dx.nb]at n1 n2;have he:=lN I (pC I 60) (A:=X.A) (by lia) (by lia) n1 n2 k1 W v1 Y;have a1:=RcAt.tuples J q B he;have a2:=RcNeAt.tuples J q B he;rw[e1,e2,uL]at a1 a2;have z:decide (Dx.tup l=Dx.tup m)=decide (l=m):=by simp
   rw[z];exact⟨a1,a2⟩
  | lst m=>
   rw[Rep]at N;obtain⟨b,ys,rfl,h2,W⟩:=N;cases rv;obtain⟨F,Y,q,_⟩:=I.list h2;have z:decide (Dx.tup l=Dx.lst m)=false:=by simp
   rw[z];exact⟨RcAt.tuple_list J q.isList B,RcNeAt.tuple_list J q.isList B⟩
 | lst l=>
  rw[Rep]at r1;obtain⟨a,xs,rfl,h1,k1⟩:=r1;cases ru;obtain⟨U,v1,J,_⟩:=I.list h1;have e1:U.toArray.size=l.length:=by rw[Y1,<- v1.length,k1.length]
  cases e with
  | bl b=>cases q2
  | non=>cases q2
  | int b=>cases q2
  | str b=>cases q2
  | tup m=>
   rw[Rep]at N;obtain⟨b,ys,rfl,h2,W⟩:=N;cases rv;obtain⟨F,Y,q,_⟩:=I.tuple h2;have z:decide (Dx.lst l=Dx.tup m)=false:=by simp
   rw[z];exact⟨RcAt.list_tuple J.isList q B,RcNeAt.list_tuple J.isList q B⟩
  | lst m=>
   rw[Rep]at N;obtain⟨b,ys,rfl,h2,W⟩:=N;cases rv;obtain⟨F,Y,q,_⟩:=I.list h2;have e2:F.toArray.size=m.length:=by rw[Y1,<- Y.length,W.length]
   rw[Dx.dep]at hd;rw[Dx.nb]at n1 n2;have z:decide (Dx.lst l=Dx.lst m)=decide (l=m):=by simp
   rw[z];by_cases hl:l.length=m.length
   ·have he:=lN I (pC I 60) (A:=X.A) (by lia) (by lia) n1 n2 k1 W v1 Y
    have a1:=RcAt.lists J.isList q.isList (by rw[e1,e2,hl]) B he;have a2:=RcNeAt.lists J.isList q.isList (by rw[e1,e2,hl]) B he;rw[e1,wY _ _ hl]at a1 a2;exact⟨a1,a2⟩
   ·have z2:decide (l=m)=false:=decide_eq_false λz=>hl (by rw[z])
    rw[z2];exact⟨RcAt.lists_lengths J.isList q.isList (by rw[e1,e2];simpa using hl) B,RcNeAt.lists_lengths J.isList q.isList (by rw[e1,e2];simpa using hl) B⟩
end
section
variable {X:Cx}
theorem QK(N:X.A.units+64<cLine):OpR X (YR .Eq) (T3 X.K false):=by
 intro pins s σ H x y v u Q I rx Y h;obtain⟨d,e,W,F,q1,q2,J,B,U,q⟩:=h;exact(MC I N W F q1 q2 J B U rx Y).1 X.prog X.w X.xe _ ⟨.bl _,H,I,rfl,q⟩
theorem QH(N:X.A.units+64<cLine):OpR X (YR .NotEq) (T3 X.K true):=by
 intro pins s σ H x y v u Q I rx Y h;obtain⟨d,e,W,F,q1,q2,J,B,U,q⟩:=h;exact(MC I N W F q1 q2 J B U rx Y).2 X.prog X.w X.xe _ ⟨.bl _,H,I,rfl,q⟩
end
noncomputable def Q0(lo c:Int)(n:Nat):It:=⟨λi _=>i<n,λi H x H'=>H'=H/\x=.int (lo+i*c),λi _=>n<=i⟩
theorem vK{P:YK}{w:World}{K:YH}{tg:Expr}(it:Addr)(lo c:Int)(n:Nat):Turn P w K tg (Q0 lo c n) [it] it (λi h=>zbI h it (lo+(i:Nat)*c) ((n:Int)-(i:Nat)) c) where
 mem:=by simp
 obj:=λi h st b q=>by
  have e:b=it:=by simpa using q
  subst e;exact⟨_,st,λv z=>by
   have z':Data.fields _=Data.cell v:=z;cases z'⟩
 keep:=λi h h' st k=>k it (by simp) _ st
 item:=by
  intro X hP hw J U i pins s σ H E I F st hg;subst hP hw J;obtain⟨f0,f1,f2,N,Y,f5⟩:=F it (by simp);have W:=Walks.range (prog:=X.prog) (w:=X.w) (I.ok.hd U) it lo c n;refine W.item i s _ _ hg st λv h' tk hv B kk=>?_
  obtain⟨t,rfl⟩:=hv;have I1:Inv X pins σ H {s with heap:=h',toks:=tk}:=I.turned (λb o q e=>kk b o (by simpa using q) e) f0 f1 N Y f5;exact⟨_,rfl,q0 (s:={s with heap:=h',toks:=tk}) (n := "range_iterator") B rfl rfl (by decide) ⟨.int (lo+i*c),H,I1,⟨t,rfl⟩,⟨rfl,rfl⟩,B,λb q=>(F b q).1⟩⟩
 done:=by
  intro X hP hw J U i pins s σ H E I F st hg;subst hP hw J;obtain⟨f0,f1,f2,N,Y,f5⟩:=F it (by simp);exact wpAny_pyNext_range_end (I.ok.hd U) st (by have:n<=i:=hg;lia) λh' eb=>⟨rfl,I.turned (t':=s.toks) (λb o q e=>eb b o q e) f0 f1 N Y f5⟩
 self:=λ_ _ _ _ _ st h=>wpAny_pyIter_rangeiter st h
noncomputable def rsz(a b c:Int):Nat:=(za1 a b c).toNat
theorem OH(a b c:Int)(q:c≠0):za1 a b c=(rsz a b c:Int):=by
 unfold rsz;have:0<=za1 a b c:=by
  unfold za1;split
  ·rename_i h
   split
   ·have:=Int.ediv_nonneg (show 0<=b-a-1 by lia) (show 0<=c by lia)
    lia
   ·lia
  ·split
   ·have:=Int.ediv_nonneg (show 0<=a-b-1 by lia) (show 0<=-c by lia)
    lia
   ·lia
 lia
def SJ(ta:TA):TI:=λσ H R=>ta σ H λvs H1=>∃i j c:Int,vs=[.int i,.int j,.int c]/\(c≠0/\c.natAbs<1000/\zcH i j c=true)/\R (Q0 i c (rsz i j c)) H1
theorem CO(hg:Gl X "range")(hm:X.mg "range" = none)(ha:PA X [a,b,c] ta)(hs:YG [a,b,c] X.env=[(false,eval a X.env),(false,eval b X.env),(false,eval c X.env)]:=by rfl)(N:YG [b,c] X.env=[(false,eval b X.env),(false,eval c X.env)]:=by rfl) :
  PI X tg (.Call (.Name "range" p) [a,b,c] [] pos) (SJ ta):=by
 intro pins s σ H R I h;refine Call_ (kQ I hg hm My.boot_range (zbK (bL (ha pos pins s σ H _ I h) λus J ⟨vs,H1,W,r1,q1⟩=>?_) (by rw[hs,N]) (by rw[N];rfl)));obtain⟨i,j,B,e,⟨c0,c1,sm⟩,q⟩:=q1;subst e;cases r1 with
 | cons r rr=>
  cases rr with
  | cons r' rr=>
   cases rr with
   | cons r'' rr=>
    cases rr;obtain⟨t,rfl⟩:=r;obtain⟨t',rfl⟩:=r';obtain⟨F,rfl⟩:=r'';refine call_range_3 c0 ?_ (ZL (PyProof.noPylong_small (by lia)));refine wpAny_pyIter_range (IsRange.new ..) sm ?_;have U:Inv X pins σ H1 {J with heap:=J.heap.push {cls:=.type "range",data:=.fields #[.int i t,.int j t',.int B F]},toks:=J.toks}:=W.kept λb o e=>YY _ e
    refine⟨(J.heap.push {cls:=.type "range",data:=.fields #[.int i t,.int j t',.int B F]}).objs.size,[(J.heap.push {cls:=.type "range",data:=.fields #[.int i t,.int j t',.int B F]}).objs.size],_,_,H1,rfl,
     U.kept (t':=J.toks) λb o e=>YY _ e,vK _ i B (rsz i j B),?_,λb Y=>?_,q⟩
    ·show zbI _ _ (i+((0:Nat):Int)*B) (((rsz i j B:Nat):Int)-((0:Nat):Int)) B
     rw[<- OH i j B c0];have e1:i+((0:Nat):Int)*B=i:=by simp
     have e2:za1 i j B-((0:Nat):Int)=za1 i j B:=by simp
     rw[e1,e2];exact Y8 _ rfl
    ·have e:b=(J.heap.push {cls:=.type "range",data:=.fields #[.int i t,.int j t',.int B F]}).objs.size:=by simpa using Y
     subst e;exact U.fpOk (YS _) (U.hok.fresh (YS _))
def TSame(H H':Hp):Prop:=∀b xs,Rd H b (.tup xs)->Rd H' b (.tup xs)
theorem TSame.trans(a:TSame H H1)(b:TSame H1 H2):TSame H H2:=λc o h=>b c o (a c o h)
theorem TSame.put(h:H l=some (.lst us)):TSame H (upd H l o):=λb xs q=>by
 have B:b≠l:=λz=>by
  subst z;rcases q with q|⟨F,q⟩ <;> (rw[h]at q;cases q)
 rcases q with q|⟨F,q⟩
 ·exact .inl (by rw[aK B];exact q)
 ·exact .inr ⟨F,by rw[aK B];exact q⟩
theorem TSame.sq{K:YH}{H H':Hp}{a:Addr}{xs:List V}(e:TSame H H')(h:SqT K H a xs):SqT K H' a xs:=by
 rcases h with h|h
 ·exact .inl (e _ _ h)
 ·exact .inr h
mutual
def Dx.nl:Dx->Bool
 | .lst _=>false
 | .tup l=>U7 l
 | .non=>true
 | .bl _=>true
 | .int _=>true
 | .str _=>true
def U7:List Dx->Bool
 | []=>true
 | d::ds=>d.nl && U7 ds
end
section
variable {K:YH}{H H':Hp}
mutual
theorem Rep.tsame(e:TSame H H'):∀(d:Dx) (v:V),d.nl=true->Rep K H d v->Rep K H' d v
 | .non,v,_,h=>by rw[Rep]at h ⊢;exact h
 | .bl b,v,_,h=>by rw[Rep]at h ⊢;exact h
 | .int i,v,_,h=>by rw[Rep]at h ⊢;exact h
 | .str x,v,_,h=>by rw[Rep]at h ⊢;exact h
 | .tup l,v,n,h=>by
  rw[Rep]at h ⊢;rw[Dx.nl]at n;obtain⟨a,xs,q,h1,h2⟩:=h;exact⟨a,xs,q,e.sq h1,RepL.tsame e l xs n h2⟩
 | .lst l,v,n,h=>by rw[Dx.nl]at n;cases n
theorem RepL.tsame(e:TSame H H'):∀(ds:List Dx) (vs:List V),U7 ds=true->RepL K H ds vs->RepL K H' ds vs
 | [],vs,_,h=>by rw[RepL]at h ⊢;exact h
 | d::ds,vs,n,h=>by
  rw[RepL]at h ⊢;rw[U7,ZK]at n;obtain⟨x,xs,q,h1,h2⟩:=h;exact⟨x,xs,q,Rep.tsame e d x n.1 h1,RepL.tsame e ds xs n.2 h2⟩
end
end
theorem Same.put(e:Same H H')(h:H l=none):Same H (upd H' l o):=λb u q=>by
 rw[aK (bJ q h)];exact e b u q
def a6(X:Cx)(N:List Str)(scope:Scope)(q:List (Str×Addr))(C:Addr)(s:YE)(H:Hp)(fp:List Addr):Cx where
 prog:=X.prog
 w:=X.w
 K:=X.K
 mg:=X.mg
 base:=X.base
 A:=X.A
 N:=N
 s₀:=s
 H₀:=H
 env:=compEnvC scope q C X.env
 outer:=X.stack
 stack:=X.stack
 ex:=fp
 fn:=λ_=>false
 calm:=X.calm
 pn:=[]
 xe:=λ_ _=>False
def ID(X:Cx)(q:List Expr)(t:TT):Prop:=
 ∀(pins:List (Addr×Obj)) (s:YE) (σ:L2.St) (H:Hp) (Q:Bool->Hp->Prop),Inv X pins σ H s->t σ H Q->
  wpAny (model X.prog X.w) X.A (forIn q true λc r=>if r=true then do let ok <- isTrue c X.env (eval c X.env);pure (zbg ok)else pure (zbg r)) (TP X pins σ Q) X.xe s
def WF:TT:=λ_ H Q=>Q true H
theorem K3:ID X [] WF:=λpins s σ H Q I h=>wpAny_tests_nil ⟨H,I,h⟩
structure Clo(X:Cx)(N:List Str)(scope:Scope)(cl:List (Str×Addr)):Prop where
 clos:closureFor scope X.env=pure cl
 kind:scope.kind=.function
 nocell:∀y∈scope.names,y.2≠.cell
 names:∀y∈scope.names,y.2=.local->scope.names.lookup y.1=some .local
 sub:∀x c,cl.lookup x=some c->X.env.cells.lookup x=some c
 has:∀x,((zah scope X.env).names.lookup x=some .cell\/(zah scope X.env).names.lookup x=some .free)->∃c,cl.lookup x=some c
def Start(X:Cx)(N:List Str)(scope:Scope)(σ q:L2.St):Prop:=
 q.length=N.length/\∀(j:Nat) (x:Str) (v:V),N[j]?=some x->q[j]?=some (some v)->RB (zah scope X.env) x->¬ (zah scope X.env).names.lookup x=some .local/\∃i:Nat,X.N[i]?=some x/\σ[i]?=some (some v)/\(X.env.kindOf x=some .cell\/X.env.kindOf x=some .free)
def w6(wi:TI)(g:TG)(tt:TT)(te:TE)(S:L2.St->L2.St->Prop):TE:=λσ H Q=>∃N,S σ N/\wi σ H λJ H1=>∀D,H1 D=none->∃W:Nat->Nat->L2.St->List V->Hp->Prop,(∃m,W 0 m N [] (upd H1 D (.lst []))) /\
 ∀i m U B H2,W i m U B H2->(J.stop i H2/\Q (.ref D) H2)\/(J.go i H2/\B.length<YN/\∀x H3,J.yld i H2 x H3->g x U H3 λq H4=>tt q H4 λok Y=>
  if ok=true then te q Y λv H6=>H6 D=some (.lst B)/\∃F,F<m/\W (i+1) F q (B++[v]) (upd H6 D (.lst (B++[v])))else Y D=some (.lst B)/\∃F,F<m/\W (i+1) F q B Y)
section
variable {X:Cx}
theorem JB(B:Inv X pins σ H3 s3)(J:Clo X N scope cl)(ff:∀b∈fp,jW X pins H3 b)(U:∀b∈fp,∃o,s3.heap.get? b=some o) :
  (a6 X N scope cl s3.heap.objs.size s3 H3 fp).Ok where
 mod:=B.ok.mod
 kind:=J.kind
 glob:=B.ok.glob
 blt:=B.ok.blt
 above:=YS _
 inj:=λx y c h1 h2=>B.ok.inj x y c (J.sub x c h1) (J.sub y c h2)
 has:=λx h=>J.has x h
 cab:=λx c h _=>nomatch h
 hd:=B.ok.hd
 frames:=B.ok.frames
 stk:=.inl rfl
 exf:=λb F=>by
  obtain⟨o,e⟩:=U b F;exact⟨ZE (YT e),λx c h=>(ff b F).2.2.2.2.1 x c (J.sub x c h)⟩
 bs:=B.bs
 bsz:=ZF B.ok.bsz B.sz
 noex:=λb o e F=>by
  rcases(ff b F).2.2.2.1 with z|z
  ·exact B.ok.noex b o e z
  ·exact absurd (ZN (YT e) B.ok.bsz) (Nat.not_lt.mpr z)
 exfs:=λb F z=>by
  rcases List.mem_cons.mp (B.stkSub b z)with q|q
  ·exact(ff b F).2.1 q
  ·exact(ff b F).2.2.1 q
 funs:=B.stack
 frf:=B.stkFree
theorem D0(F:Inv X pins σ H3 s3)(W:Clo X N scope cl)(ff:∀b∈fp,jW X pins H3 b)(fe:∀b∈fp,∃o,s3.heap.get? b=some o)
  (st:Start X N scope σ σ') (ho:s4.os=s3.os) (hg:s4.gens=s3.gens) (hk:∀b o,s3.heap.get? b=some o->s4.heap.get? b=some o) (hn:s4.heap.Ns s3.heap.objs.size m) :
  Inv (a6 X N scope cl s3.heap.objs.size s3 H3 fp) [] σ' H3 s4 where
 ok:=JB F W ff fe
 os:=ho
 bare:=by rw[hg];exact F.bare
 base:=Un.kept hk
 loc:=by
  refine⟨m,hn,λj x v h1 h2 B=>?_⟩;obtain⟨nl,i,e1,e2,q⟩:=st.2 j x v h1 h2 B;obtain⟨m0,al,ae⟩:=F.loc;have aa:RB X.env.scope x:=by
   rcases q with q|q
   ·exact .inr (.inl q)
   ·exact .inr (.inr q)
  obtain⟨u,ru,l⟩:=ae i x v e1 e2 aa;refine⟨u,ru,?_⟩;rcases l with⟨lk,_⟩|⟨_,c,hc,J⟩
  ·rcases q with q|q <;> (rw[lk]at q;cases q)
  ·have kk:(zah scope X.env).names.lookup x=some .cell\/(zah scope X.env).names.lookup x=some .free:=by
    rcases B with B|B|B
    ·exact absurd B nl
    ·exact .inl B
    ·exact .inr B
   obtain⟨c',U⟩:=W.has x kk;have ec:=W.sub x c' U;rw[hc]at ec;cases ec;obtain⟨o,Y,ab⟩:=J;exact .inr ⟨kk,c,U,o,hk c o Y,ab⟩
 cell:=λx c e=>by
  obtain⟨v,o,e1,d1⟩:=F.cell x c (W.sub x c e);exact⟨v,o,hk c o e1,d1⟩
 free:=F.hok.fresh (YS _)
 freeC:=λx c e=>F.freeC x c (W.sub x c e)
 pin:=λp hp=>nomatch hp
 hok:=F.hok.kept hk
 len:=st.1
theorem comp_back(I3:Inv X pins σ H3 s3)(ff:∀b∈fp,jW X pins H3 b)
  (J:Inv (a6 X N scope cl s3.heap.objs.size s3 H3 fp) [] σ5 H5 s5) (hs:Z7 s3.heap.objs.size s5.heap h'):Inv X pins σ H5 {s5 with heap:=h'}:=by
 have U:∀b o,s3.heap.get? b=some o->b≠s3.heap.objs.size:=λb o e=>ZE (YT e)
 have u:=J.base;refine I3.call' (s':={s5 with heap:=h'}) (ch:=fp) J.os ⟨λb o e n B F=>?_,λb o e n B F=>?_,u.free,λb o e F=>?_,u.tups,u.frzs,u.tbls⟩ ?_ J.bare λb B=>?_
 ·exact(hs.2 b (U b o e)).trans (u.keep b o e n B F)
 ·obtain⟨sl,q⟩:=u.slot b o e n B F
  exact⟨sl,(hs.2 b (U b o e)).trans q⟩
 ·obtain⟨o',q⟩:=u.there b o e F
  exact⟨o',(hs.2 b (U b o e)).trans q⟩
 ·intro b ob e
  have W:H5 s3.heap.objs.size=none:=J.free;refine(J.hok b ob e).stay (λc w' hc q=>(hs.2 c ?_).trans q) (λ_ q=>q) λ_ _ q=>q
  rintro rfl;rcases hc with z|z
  ·subst z;rw[W]at e;cases e
  ·rw[W]at z;cases z
 ·obtain⟨_,f1,_,Y,f4,f5⟩:=ff b B
  exact⟨Y,f1,f4,f5⟩
theorem C6(I:Nat->YE->Prop)
  (turn:∀n s, I n s -> wpAny (model prog w) A (Z8 it) (λr B => match r with
   | none=>R (.ok .next) B
   | some v=>wpAny (model prog w) A (zbH target it v) (λ_ F=>wpAny (model prog w) A (zau target env v) (λ_ U=>
     wpAny (model prog w) A (forIn ifs true λc r=>if r=true then do let ok <- isTrue c env (eval c env);pure (zbg ok)else pure (zbg r)) (λok q=>
      if ok=true then wpAny (model prog w) A (eval elt env) (λx J=>
       wpAny (model prog w) A (call (.builtin "list.append") [acc,x]) (λ_ N=>∃m,m<n/\I m N) (λ_ _=>False) J) (λ_ _=>False) q
      else ∃m,m<n/\I m q) (λ_ _=>False) U) (λ_ _=>False) F) (λ_ _=>False) B) (λ_ _=>False) s)
  (n:Nat) (h:I n s) :
  zal (model prog w) A (.compLoop (.ListComp elt [⟨target,iter,ifs,0⟩] scope pos) 0 it acc env) R s:=by
 refine codeAny_loop rfl I (λn s hI=>?_) n h;show wpAny _ A ((compTurn (.ListComp elt [⟨target,iter,ifs,0⟩] scope pos) 0 it acc env).onRaise (λx=>do noteFrame x env;theTreesLotGoes x)) _ _ s;refine wpAny_noted ?_;rw[compTurn_list];have ff:∀(e:Value) (s':YE),False->notedBy (model prog w) A env (λe s'=>R (.error e) s') e s':=λ_ _ h=>h.elim
 refine YF (zbG (YF (ZR (turn n s hI) (λr B h₁=>?_) ff)));cases r with
 | none=>exact YL h₁
 | some v=>
  refine YF (ZR h₁ (λ_ F Y=>?_) ff);refine YF (ZR Y (λ_ U ab=>YF (ZR ab (λok q W=>?_) ff)) ff);cases ok with
  | false=>exact YL ⟨rfl,W⟩
  | true=>
   exact YF (YF (ZR W (λx J ac=>YF (ZR ac (λ_ N aa=>YL (YL ⟨rfl,aa⟩)) ff)) ff))
theorem sD{aw tg ap:Expr}{aq:List Expr}{scope:Scope}{pos:Pos}{N:List Str}{cl:List (Str×Addr)}{wi:TI}{g:TG}{tt:TT}{te:TE}{RR:Value->Addr->Result->YE->Prop}{pins:List (Addr×Obj)}{σ al:L2.St}{Q:VK}{J:It}{H2:Hp}{B:YE}{it:Addr}{fp:List Addr}{tn:Nat->Heap->Prop}{E:Value->YE->Prop}
  (hc:X.calm=true) (cc:Clo X N scope cl) (hg:∀C s H fp,PG (a6 X N scope cl C s H fp) tg g) (ht:∀C s H fp,ID (a6 X N scope cl C s H fp) aq tt) (he:∀C s H fp,PE (a6 X N scope cl C s H fp) aw te)
  (I2:Inv X pins σ H2 B) (T:Turn X.prog X.w X.K tg J fp it tn) (as:tn 0 B.heap) (f2:∀b∈fp,jW X pins H2 b) (sS:Start X N scope σ al)
  (q2:∀D, H2 D = none -> ∃W:Nat -> Nat -> L2.St -> List V -> Hp -> Prop, (∃m, W 0 m al [] (upd H2 D (.lst []))) /\
   ∀i m Y F H2,W i m Y F H2->(J.stop i H2/\Q (.ref D) H2)\/(J.go i H2/\F.length<YN/\∀x U,J.yld i H2 x U->g x Y U λam H4=>tt am H4 λok H5=>
    if ok=true then te am H5 λv H6=>H6 D=some (.lst F)/\∃m',m'<m/\W (i+1) m' am (F++[v]) (upd H6 D (.lst (F++[v])))else H5 D=some (.lst F)/\∃m',m'<m/\W (i+1) m' am F H5))
  (bq:∀(s3 s5:YE) (U H5:Hp) (ac:L2.St) (D:Addr),Inv X pins σ U s3->(∀b∈fp,jW X pins U b)->Inv (a6 X N scope cl s3.heap.objs.size s3 U fp) [] ac H5 s5->Q (.ref D) H5->RR (.ref D) s3.heap.objs.size (.ok .next) s5) :
  wpAny (model X.prog X.w) X.A (newList []) (λa0 bb=>wpAny (model X.prog X.w) X.A (newFunctionEnv scope X.env.globals cl [] X.env.qual none .none (some X.env)) (λao bc=>
   zal (model X.prog X.w) X.A (.compStart (.ListComp aw [⟨tg,ap,aq,0⟩] scope pos) 0 (.ref it) a0 {ao with scope:=zah scope X.env}) (RR a0 ao.locals) bc) E bb) E B:=by
 refine zaD (wpAny_newFunctionEnv cc.nocell (by intro y hy;simp at hy) (λh1 ak ai=>?_) cc.kind);dsimp only at ak ai ⊢;have I3:Inv X pins σ (upd H2 B.heap.objs.size (.lst [])) {B with heap:=B.heap.push {cls:=.type "list",dict:=none,data:=.seq ([]:List Value).toArray} }:=I2.lnew (t':=B.toks) .nil (zaa _);have hD:H2 B.heap.objs.size=none:=I2.fresh;have bw:∀b∈fp,b≠B.heap.objs.size:=λb q=>by
  obtain⟨o,e,_⟩:=T.obj 0 _ as b q;exact ZE (YT e)
 have fe:∀b∈fp,∃o,(B.heap.push {cls:=.type "list",dict:=none,data:=.seq ([]:List Value).toArray}).get? b=some o:=λb q=>by
  obtain⟨o,e,_⟩:=T.obj 0 _ as b q;exact⟨o,YY _ e⟩
 have f3:∀b∈fp,jW X pins (upd H2 B.heap.objs.size (.lst [])) b:=λb q=>⟨by rw[aK (bw b q)];exact(f2 b q).1,(f2 b q).2⟩
 obtain⟨W,⟨m0,w0⟩,turn⟩:=q2 B.heap.objs.size hD;have bi:(upd H2 B.heap.objs.size (.lst [])) B.heap.objs.size=some (.lst []):=aM;generalize hs3:({B with heap:=B.heap.push {cls:=.type "list",dict:=none,data:=.seq ([]:List Value).toArray} }:YE)=s3 at I3;have e3:B.heap.push {cls:=.type "list",dict:=none,data:=.seq ([]:List Value).toArray}=s3.heap:=by rw[<- hs3]
 rw[e3]at ak ai fe ⊢;generalize B.heap.objs.size=D at *;generalize upd H2 D (.lst [])=U at *;have au:∀b o,s3.heap.get? b=some o->h1.get? b=some o:=λb o e=>(ai.2 b (ZE (YT e))).trans (YY _ e)
 have be:tn 0 s3.heap:=by
  refine T.keep 0 _ _ as λb q o e=>?_
  rw[<- e3];exact YY _ e
 have an:∀s4:YE,s4={B with heap:=h1,toks:=B.toks+([]:List (Str×Value)).length}->
   zal (model X.prog X.w) X.A (.compLoop (.ListComp aw [⟨tg,ap,aq,0⟩] scope pos) 0 (.ref it) (.ref D) (compEnvC scope cl s3.heap.objs.size X.env)) (RR (.ref D) s3.heap.objs.size) s4:=by
  rintro s4 rfl;have I4:Inv (a6 X N scope cl s3.heap.objs.size s3 U fp) [] al U {B with heap:=h1,toks:=B.toks+([]:List (Str×Value)).length}:=
   D0 (m:=λx=>([]:List (Str×Value)).reverse.lookup x) I3 cc f3 fe sS (by rw[<- hs3]) (by rw[<- hs3]) au ak
  have ax:∀ {H':Hp},(∀b∈fp,H' b=none)->∀b∈fp,jW (a6 X N scope cl s3.heap.objs.size s3 U fp) [] H' b:=λhn b q=>by
   have ok:=I4.ok;exact⟨hn b q,(ok.exf b q).1,ok.exfs b q,.inl q,(ok.exf b q).2,λp hp=>nomatch hp⟩
  refine C6 (λn s'=>∃i Y F H',Inv (a6 X N scope cl s3.heap.objs.size s3 U fp) [] Y H' s'/\tn i s'.heap/\(∀b∈fp,H' b=none)/\H' D=some (.lst F)/\W i n Y F H') ?_ m0 ⟨0,al,[],U,I4,T.keep 0 _ _ be λb q o e=>au b o e,λb q=>(f3 b q).1,bi,w0⟩;rintro n s5 ⟨i,ac,F,H5,I5,ba,a4,cu,w5⟩;rcases turn i n ac F H5 w5 with⟨a5,qn⟩|⟨go,a3,step⟩
  ·refine bL (T.done (a6 X N scope cl s3.heap.objs.size s3 U fp) rfl rfl rfl hc i [] s5 ac H5 _ I5 (ax a4) ba a5) λr s6 ⟨hr,I6⟩=>?_
   subst hr;exact bq s3 s6 U H5 ac D I3 f3 I6 qn
  ·refine bL (T.item (a6 X N scope cl s3.heap.objs.size s3 U fp) rfl rfl rfl hc i [] s5 ac H5 _ I5 (ax a4) ba go) λr s6 ⟨u,hr,h6⟩=>?_
   subst hr;refine bL h6 λ_ s7 ⟨x,H7,I7,r7,y7,ar,br⟩=>?_
   have bm:=I7.pinned (ax br) (T.obj _ _ ar);refine bL (hg _ _ _ _ _ s7 ac H7 x u _ bm r7 (step x H7 y7)) λ_ s8 ⟨ab,H8,I8,q8⟩=>?_
   refine bL (ht _ _ _ _ _ s8 ab H8 _ I8 q8) λok s9 ⟨H9,I9,q9⟩=>?_
   have fin:∀ {af:YE} {aa:Hp} {vs:List V},Inv (a6 X N scope cl s3.heap.objs.size s3 U fp) ([]++qW fp s7.heap) ab aa af->aa D=some (.lst vs)->(∃m',m'<n/\W (i+1) m' ab vs aa)->
     ∃m,m<n/\∃i Y F H',Inv (a6 X N scope cl s3.heap.objs.size s3 U fp) [] Y H' af/\tn i af.heap/\(∀b∈fp,H' b=none)/\H' D=some (.lst F)/\W i m Y F H':=λ{af aa vs} ah hd ⟨m',hm,bh⟩=>by
    refine⟨m',hm,i+1,ab,vs,aa,ah.unpinned,T.keep _ _ _ ar λb q o e=>(ah.pin (b,o) (Z9 _ (Z9 _ (hU q e)))).1,λb q=>?_,hd,bh⟩;obtain⟨o,e,d⟩:=T.obj _ _ ar b q;exact(ah.pin (b,o) (Z9 _ (Z9 _ (hU q e)))).2.1
   cases ok with
   | false=>
    rw[if_neg YX]at q9 ⊢;exact fin I9 q9.1 q9.2
   | true=>
    rw[if_pos rfl]at q9 ⊢;refine bL (he _ _ _ _ _ s9 ab H9 _ I9 q9) λy af ⟨v,aa,ah,bn,az,bv⟩=>?_
    refine bL (mL (X:=a6 X N scope cl s3.heap.objs.size s3 U fp) _ af ab aa (.ref D) [v] (.ref D) [y] (λ_ ay=>ay D=some (.lst (F++[v]))/\∃m',m'<n/\W (i+1) m' ab (F++[v]) ay) ah rfl (.cons bn .nil) ⟨D,F,v,rfl,rfl,az,a3,aM,bv⟩) λ_ cq ⟨z,ay,bo,_,bd,bu⟩=>?_
    exact fin bo bd bu
 exact codeAny_compStart_list (an _ rfl) (T.self X.A 0 _ _ _ (T.keep 0 _ _ be λb q o e=>au b o e) (an _ rfl))
theorem KJ{U tg B:Expr}{F:List Expr}{scope:Scope}{pos:Pos}{N:List Str}{W:List (Str×Addr)}{wi:TI}{g:TG}{tt:TT}{te:TE}
  (hc:X.calm=true) (Y:Clo X N scope W) (hi:PI X tg B wi) (hg:∀C s H fp,PG (a6 X N scope W C s H fp) tg g) (ht:∀C s H fp,ID (a6 X N scope W C s H fp) F tt) (he:∀C s H fp,PE (a6 X N scope W C s H fp) U te)
  (hs:∀x,zaj B X.env x=pure x:=by intro _;rfl) :
  PE X (.ListComp U [⟨tg,B,F,0⟩] scope pos) (w6 wi g tt te (Start X N scope)):=by
 intro pins s σ H Q I h;obtain⟨ah,sS,hw⟩:=h;rw[eval_ListComp];refine wpAny_comprehension_free (use:=none) rfl hs Y.clos Y.kind Y.names (bL (hi pins s σ H _ I hw) λv s1 h1=>bL h1 λaq s2 h2=>?_);obtain⟨it,fp,tn,J,H2,e,I2,T,ac,f2,q2⟩:=h2;subst e;refine sD (wi:=wi) (Q:=Q) (RR:=λab C=>compPost (model X.prog X.w) X.A X.xe none (EP X pins σ Q) ab C) hc Y hg ht he I2 T ac f2 sS q2 ?_;intro s3 s5 H3 H5 ak D I3 f3 I5 q;obtain⟨m,hn,_⟩:=id I5.loc;exact⟨m,hn,λh' aa=>⟨.ref D,H5,comp_back I3 f3 I5 aa,rfl,q⟩⟩
end
end My
namespace My
open PySem PySem.W PyProof.Rows
structure Ord(n:Nat)(lt:Nat->Nat->Bool):Prop where
 irr:∀i,i<n->lt i i=false
 tr:∀i j k,i<n->j<n->k<n->lt i j=true->lt j k=true->lt i k=true
 tot:∀i j,i<n->j<n->i≠j->lt i j=true\/lt j i=true
section
variable {n:Nat}{lt:Nat->Nat->Bool}(O:Ord n lt)
include O
end
end My
namespace My
open PySem PySem.Spec PyProof.Rows PySem.W
section
variable {prog:YK}{w:World}{A:YM}{E:Value->YE->Prop}{s:YE}{it d:Addr}{i ep:Nat}{od:Obj}{es:Array zaF}
def RawD(h:Heap)(d:Addr)(es:Array zaF)(ep:Nat):Prop:=∃o,h.get? d=some o/\o.ExactDict/\o.data=.dict es ep
theorem RawD.typ(x:RawD s.heap d es ep):s.TypeIs (.ref d) "dict" := let ⟨o,a,b,_⟩:=x;⟨o,a,b.1⟩
theorem EN(W:(d == zas)=false)(B:RawD s.heap d es ep)
  (U:Q (.ref s.heap.objs.size) {s with heap:=s.heap.push {cls:=.type "dict_keyiterator",data:=.fields #[.ref d,.int 0 0,.int es.size 0,.int ep 0]} }):wpAny (model prog w) A (pyIter (.ref d)) Q E s:=by
 have q:=B.typ;obtain⟨o,N,Y,J⟩:=B;refine wpAny_pyIter_slot q PySem.F.slot_dict_iter (zaC PySem.F.slot_dict_iter q PySem.F.entry_dict_iter ?_ (PySem.F.args_dict_iter_1 _));unfold Builtin.«dict.__iter__»;refine YF ?_;unfold Builtin.Dict.dictSlotNone;refine YF (wpAny_notOrdered_dict q ?_);show wpAny _ _ (pure (Y5 d)) _ _ s;refine YL ?_;show wpAny _ _ (Builtin.Dict.showsAll d >>= _) _ _ s;unfold Builtin.Dict.showsAll;rw[if_neg (by rw[W];exact YX)];refine YF (YL (YF (zcI N J (YF (zcJ N J ?_)))));refine YF (zaD (YL ⟨_,rfl, "dict_keyiterator",_,⟨_,Y8 _ rfl,rfl⟩,PySem.F.slot_dict_keyiterator_next.lookup,?_⟩));simpa[zaf]using U
theorem EI(B:s.heap.IsKeyIter it d i es.size ep)(Y:RawD s.heap d es ep)(hx:i<es.size)
  (W:∀h',h'.IsKeyIter it d (i+1) es.size ep->Z7 it s.heap h'->Q (some es[i].key) {s with heap:=h'}):wpAny (model prog w) A (Z8 (.ref it)) Q E s:=by
 have q:=B.typeIs;obtain⟨o,J,hc,F⟩:=id B;obtain⟨od,U,g2,N⟩:=Y;unfold Z8;refine YF (zb3 (zaU (name:=ZQ "__next__") q zb4 (zaC zb4 q zcV ?_ (zcW _))));refine YF (YL (YF (YF ?_)))
 first|refine YF (zb5 q (YL ?_))|refine YF (zb6 q (YL ?_))
 refine YF (wpAny_fieldsOf J F ?_);simp only[show zcX "dict_keyiterator" = false by decide,zb7,if_false];show wpAny _ _ (if(Y5 d == ZW)=true then _ else _) _ _ s;rw[if_neg (show ¬ ((Y5 d == ZW)=true)from YX)];refine YF (YL (YF (zcI U N ?_)));rw[if_neg (by simp)];refine YF (YL (YF (zcJ U N ?_)));rw[if_neg (by simp)];refine YL ?_;simp only[show ¬ ((i:Int)<0)from by lia,if_false,zaq,Array.getElem?_eq_getElem hx];refine YF ?_;first|refine YF (zb5 q (YL ?_))|refine YF (zb6 q (YL ?_))
 refine YF (wpAny_isOneOf_keyiter q ?_);show wpAny _ _ (setField (.ref it) 1 (zaf ((i:Int)+1)) >>= _) _ _ s;refine YF (zb8 J F (by simp) ?_);have nx:(s.heap.update it (Obj.mapFields (·.setIfInBounds 1 (zaf ((i:Int)+1))))).IsKeyIter it d (i+1) es.size ep:=⟨_,zbv _ J (Obj.isFreed_of_fields (zb9 F _)),(Obj.cls_mapFields ..).trans hc,by rw[zb9 F];simp[zaf]⟩;refine YF (zaR (YF (wpAny_isOneOf_keyiter (s:={s with heap:=s.heap.update it (Obj.mapFields (·.setIfInBounds 1 (zaf ((i:Int)+1))))}) nx.typeIs ?_)));show wpAny _ _ (pure es[i].key) _ _ _;exact YL (YL ⟨_,rfl,YL (W _ nx (zca ..))⟩)
theorem IN(hh:A.handled=none)(B:s.heap.IsKeyIter it d i es.size ep)(Y:RawD s.heap d es ep)(hx:es.size<=i)
  (W:∀h',Heap.ExtBut it s.heap h'->Q none {s with heap:=h'}):wpAny (model prog w) A (Z8 (.ref it)) Q E s:=by
 have q:=B.typeIs;obtain⟨o,N,hc,J⟩:=id B;obtain⟨od,U,g2,F⟩:=Y;unfold Z8;refine YF (zb3 (zaU (name:=ZQ "__next__") q zb4 (zaC zb4 q zcV ?_ (zcW _))));refine YF (YL (YF (YF ?_)))
 first|refine YF (zb5 q (YL ?_))|refine YF (zb6 q (YL ?_))
 refine YF (wpAny_fieldsOf N J ?_);simp only[show zcX "dict_keyiterator" = false by decide,zb7,if_false];show wpAny _ _ (if(Y5 d == ZW)=true then _ else _) _ _ s;rw[if_neg (show ¬ ((Y5 d == ZW)=true)from YX)];refine YF (YL (YF (zcI U F ?_)));rw[if_neg (by simp)];refine YF (YL (YF (zcJ U F ?_)));rw[if_neg (by simp)];refine YL ?_;simp only[show ¬ ((i:Int)<0)from by lia,if_false,zaq,Array.getElem?_eq_none hx];refine YF ?_;first|refine YF (zb5 q (YL ?_))|refine YF (zb6 q (YL ?_))
 show wpAny _ _ (setField (.ref it) 0 .none >>= _) _ _ s;refine YF (zb8 N J (by simp) ?_);show wpAny _ _ (newExc (.type "StopIteration") [] >>= _) _ _ _;refine YF ?_;simp only[newExc,newTuple];refine YF (zaD ?_ (by size_fits));refine YF (m:=zcb _ _) (wpAny_of_eq (a:=ZW) (by first|rfl|(simp only[zcb];rfl)) ?_)
 refine zaD ?_ (by size_fits);simp only[raiseNew];refine YF (wpAny_handled ?_);rw[show A.in1.handled=none from hh];refine YF (YL (wpAny_throw ?_));refine YF (wpAny_isInstance (T := "StopIteration") (b:=true) ⟨_,Y8 _ rfl,rfl⟩ isSubtype_stop ?_);exact YL (W _ (((zca ..).extBut.push _).push _))
end
section
variable {prog:YK}{w:World}{A:YM}{s:YE}{R:Result->YE->Prop}{es:Array zaF}{ep:Nat}
end
section
variable {prog:YK}{w:World}{A:YM}{E:Value->YE->Prop}{s:YE}{r d:Addr}{es:Array zaF}{ep:Nat}
end
section
variable {prog:YK}{w:World}{A:YM}{E:Value->YE->Prop}{s:YE}{a L:Addr}{vs:List Value}{m:Str->Option Value}
end
end My
namespace My
open PySem PySem.Spec PyProof.Rows PySem.W PySem.SeqAt
section
variable {prog:YK}{w:World}{A:YM}{E:Value->YE->Prop}{s:YE}
end
end My
namespace My
open PySem PySem.Spec PyProof.Rows L2 PySem.SeqAt
end My
namespace My
open PySem PySem.Spec PyProof.Rows L2 PySem.SeqAt PySem.W
section
variable {X:Cx}
end
theorem C2{prog:YK}{w:World}{A:YM}{E:Value->YE->Prop}{s:YE}{t J:Addr}{items:Array Value}{U W:Value}{lo hi:Option Int}{Q:Value->YE->Prop}(q:IsTup s.heap t items)(hs:s.heap.IsSliceOf J U W .none)(pl:zaA U lo)(pu:zaA W hi)
  (hw:HT.sIx items.size 0 lo=0/\HT.sIx items.size items.size hi=items.size) (h:Q (.ref t) s):wpAny (model prog w) A (zaB (.ref t) (.ref J)) Q E s:=by
 obtain⟨os,N,F,Y⟩:=id hs;have tt:s.TypeIs (.ref J) "slice" := ⟨os,N,F⟩;unfold zaB;try with_reducible refine zaR ?_
 first|refine YF (YL ?_)|skip
 refine YF (wpAny_sequenceKey q.typeIs (by decide) ?_);refine YF (zaU (name:=ZQ "__getitem__") q.typeIs zbW (zaC zbW q.typeIs entry_tuple_getitem ?_ (args_tuple_getitem _ _)));show wpAny _ _ (zcA (.ref t) >>= _) _ _ s;refine YF (tupleItemsOf_ q (YF (wpAny_typeOf tt ?_)));rw[if_pos (by decide)];refine YF (HT.gP hs pl pu ?_);have B:(((HT.sIx items.size 0 lo:Nat):Int) == 0 && (1:Int) == 1 && (HT.sIx items.size items.size hi-HT.sIx items.size 0 lo) == items.size)=true:=by
  rw[hw.1,hw.2];simp
 show wpAny _ _ (if(((HT.sIx items.size 0 lo:Nat):Int) == 0 && (1:Int) == 1 && (HT.sIx items.size items.size hi-HT.sIx items.size 0 lo) == items.size)=true then _ else _) _ _ s;rw[if_pos B];refine YF (m:=Builtin.Tuple.tupleIsExact _) ?_;unfold Builtin.Tuple.tupleIsExact;refine YF (wpAny_typeOf q.typeIs (YL ?_));rw[if_pos (by decide)];exact YF (wpAny_rule (YL ⟨_,rfl,YL h⟩))
section
variable {X:Cx}
def UM(K:YH):V->Option Int->Option Int->Hp->VK->Prop:=λx lo hi H Q=>∃a xs,x=.ref a/\SqT K H a xs/\(HT.sIx xs.length 0 lo=0/\HT.sIx xs.length xs.length hi=xs.length)/\Q (.ref a) H
theorem IQ:SlR X (UM X.K):=by
 intro pins s σ H x v vl vu lo hi sl Q I Y hs W U h;obtain⟨a,xs,rfl,N,hw,q⟩:=h;cases Y;obtain⟨F,r,J,hz⟩:=I.tuple N;have B:F.toArray.size=xs.length:=by rw[Y1];exact r.length.symm
 exact⟨"tuple",_,PyProof.Rows.slot_tuple_getitem.lookup,J.typeIs,C2 J hs W U (by rw[B];exact hw) ⟨.ref a,H,I,rfl,q⟩⟩
theorem K8:SlR X (λx lo hi H Q=>T4 X.K x lo hi H Q\/UM X.K x lo hi H Q):=OG.or IQ
end
theorem qT(x:ObjOk P w H h d (.dT kvs)):(d == zas)=false/\kvs.length<=YN/\∃es ep,RawD h d es ep/\es.size=kvs.length /\
  ∀(j:Nat) (p:List Key×V),kvs[j]?=some p->∃(e:zaF) (b:Addr),es[j]?=some e/\e.key=.ref b/\H b=some (.tup (p.1.map kV))/\RelV p.2 e.val/\e.hash=(zaZ (bQ P w)).hash p.1:=by
 obtain⟨z,y,xs,r,o,es,ep,h1,h2,J,F,h5⟩:=x;have hl:xs.length=kvs.length:=(Paired.length r).symm;have B:es.size=kvs.length:=by
  have:=congrArg zay F;rw[zaK,YV]at this
  lia
 have get:∀ {kvs:List (List Key×V)} {xs:List (List Key×Addr×Value)},Paired (λ(p:List Key×V) (q:List Key×Addr×Value)=>p.1=q.1/\H q.2.1=some (.tup (p.1.map kV))/\RelV p.2 q.2.2) kvs xs->
   ∀(j:Nat) (p:List Key×V),kvs[j]?=some p->∃q,xs[j]?=some q/\p.1=q.1/\H q.2.1=some (.tup (p.1.map kV))/\RelV p.2 q.2.2:=by
  intro kvs xs r;induction r with
  | nil=>intro j p e;simp at e
  | cons h t ih=>
   intro j p e;cases j with
   | zero=>simp at e;subst e;exact⟨_,rfl,h⟩
   | succ j=>exact ih j p (by simpa using e)
 refine⟨y,z,es,ep,⟨o,h1,h2,J⟩,B,λj p e=>?_⟩;obtain⟨q,W,e2,N,Y⟩:=get r j p e;have U:es[j]?=some (entryOfKey (zaZ (bQ P w)) q):=by
  rw[<- Array.getElem?_toList,F,ZJ,W];rfl
 exact⟨_,q.2.1,U,rfl,N,Y,by show(zaZ (bQ P w)).hash q.1=_;rw[e2]⟩
def UT(d:Addr)(o:Obj)(kvs:List (List Key×V)):It:=
 ⟨λi H=>H d=some (.frz o (.dT kvs))/\i<kvs.length,λi H x H'=>H'=H/\∃k v b,kvs[i]?=some (k,v)/\x=.ref b/\H b=some (.tup (k.map kV)),λi H=>H d=some (.frz o (.dT kvs))/\kvs.length<=i⟩
theorem CV{P:YK}{w:World}{K:YH}{tg:Expr}(d it:Addr)(o:Obj)(kvs:List (List Key×V))(es:Array zaF)(ep:Nat)(hd:o.data=.dict es ep)(aw:es.size=kvs.length):Turn P w K tg (UT d o kvs) [it] it (λi h=>h.IsKeyIter it d i es.size ep) where
 mem:=by simp
 obj:=λi h st b B=>by
  have e:b=it:=by simpa using B
  subst e;obtain⟨o,W,e2,e3⟩:=st;exact⟨o,W,λv z=>by rw[e3]at z;cases z⟩
 keep:=λi h h' st k=>st.at λo e=>k it (by simp) o e
 item:=by
  intro X hP hw hK hc i pins s σ H E I Y st hg;subst hP hw hK;obtain⟨h1,h2⟩:=hg;obtain⟨U,g2⟩:=(show ObjOk X.prog X.w H s.heap d (.frz o (.dT kvs))from I.hok d _ h1);obtain⟨_,_,ae,ai,⟨o',N,r2,r3⟩,J,q⟩:=qT g2;rw[U]at N;cases N;rw[hd]at r3;injection r3 with r4 r5
  subst r4 r5;obtain⟨f0,f1,f2,f3,f4,f5⟩:=Y it (by simp);have hi:i<es.size:=by lia
  refine EI st ⟨o,U,r2,hd⟩ hi λh' F sb=>?_
  have I1:Inv X pins σ H {s with heap:=h'}:=I.turned (t':=s.toks) (λb o B e=>(sb.2 b B).trans e) f0 f1 f3 f4 f5;obtain⟨e,b,W,e2,e3,_⟩:=q i _ (zap h2);have ee:es[i]=e:=by
   rw[Array.getElem?_eq_getElem hi]at W;exact ZI W
  obtain⟨o2,q1,q2,q3⟩:=id F;refine⟨_,rfl,q0 (s:={s with heap:=h'}) (n := "dict_keyiterator") q1 q2 q3 (by decide) ⟨.ref b,H,I1,?_,⟨rfl,kvs[i].1,kvs[i].2,b,zap h2,rfl,e3⟩,F,λc B=>(Y c B).1⟩⟩;rw[ee,e2];rfl
 done:=by
  intro X hP hw hK hc i pins s σ H E I Y st hg;subst hP hw hK;obtain⟨h1,h2⟩:=hg;obtain⟨U,g2⟩:=(show ObjOk X.prog X.w H s.heap d (.frz o (.dT kvs))from I.hok d _ h1);obtain⟨_,_,ae,ai,⟨o',N,r2,r3⟩,J,q⟩:=qT g2;rw[U]at N;cases N;obtain⟨f0,f1,f2,f3,f4,f5⟩:=Y it (by simp);exact IN (I.ok.hd hc) st ⟨o,U,r2,hd⟩ (by lia) λh' eb=>⟨rfl,I.turned (t':=s.toks) (λb o B e=>eb b o B e) f0 f1 f3 f4 f5⟩
 self:=λ_ _ _ _ _ st h=>wpAny_pyIter_keyiter st h
theorem yE(I:Inv X pins σ H s)(F:H d=some (.dT kvs))(U:s.heap.get? d=some o):Inv X pins σ (upd H d (.frz o (.dT kvs))) s:=by
 have B:∀b u,H b=some u->(∀z,u≠.dT z)->b≠d:=λb u e n z=>by
  subst z;rw[F]at e;exact n kvs (ZI e).symm
 have J:=I.un (h':=s.heap) (t':=s.toks) (H':=upd H d (.frz o (.dT kvs))) ⟨λb u q _ _ _=>q,λb u q _ _ _=>⟨u.slots,q⟩,λb u q n _=>by rw[aK (λz=>by rw[z,F]at n;cases n)];exact n,λb u q _=>⟨u,q⟩,
  λb xs q=>by rw[aK (B b _ q (λz h=>by cases h))];exact q,λb u xs q=>by rw[aK (B b _ q (λz h=>by cases h))];exact q,λb ps q=>⟨#[],by rw[aK (B b _ q (λz h=>by cases h)),q];simp⟩⟩ (λb u e=>?_)
 ·exact J
 ·have st:∀ {b:Addr} {u:HO},ObjOk X.prog X.w H s.heap b u->ObjOk X.prog X.w (upd H d (.frz o (.dT kvs))) s.heap b u:=λx=>x.stay (λ_ _ _ q=>q) (λc q=>by rw[aK (B c _ q (λz h=>by cases h))];exact q) λc xs q=>by rw[aK (B c _ q (λz h=>by cases h))];exact q
  by_cases N:b=d
  ·subst N
   rw[aM]at e;cases e;exact⟨U,st (I.hok b _ F)⟩
  ·rw[aK N]at e
   exact st (I.hok b u e)
section
variable {X:Cx}{tg:Expr}
end
section
variable {X:Cx}
end
end My
namespace My
open PySem PySem.Spec PyProof.Rows L2 PySem.SeqAt
abbrev Tm:=List Int×Int
def look(q:List Tm)(k:List Int):Option Int:=(q.find? λt=>decide (t.1=k)).map (·.2)
def put(q:List Tm)(k:List Int)(c:Int):List Tm:=if(q.any λt=>decide (t.1=k))=true then q.map (λt=>if t.1=k then(t.1,c)else t)else q++[(k,c)]
def TZ(q:List Tm)(t:Tm):List Tm:=put q t.1 ((look q t.1).getD 0+t.2)
def P3(q:List Tm):List Tm:=q.foldl TZ []
def TV(M:Int)(q:List Tm):List Tm:=(q.filter λt=>decide (t.2%M≠0)).map λt=>(t.1,t.2%M)
def TS(H H':Hp):Prop:=∀b xs,H b=some (.tup xs)->H' b=some (.tup xs)
theorem TS.trans(a:TS H H1)(b:TS H1 H2):TS H H2:=λc xs h=>b c xs (a c xs h)
theorem TS.put(h:H l=some u)(n:∀xs,u≠.tup xs):TS H (upd H l o):=λb xs q=>by
 rw[aK (λz=>by subst z;rw[h]at q;exact n xs (ZI q))];exact q
noncomputable def hT(ns:List Int):Int:=reduceHash (Builtin.Tuple.tupleHashOf (ns.map hashInt))
end My
namespace My
open PySem PySem.Spec PyProof.Rows L2
noncomputable def XE(t:Bool):String:=if t=true then "tuple_iterator" else "list_iterator"
noncomputable def XN(t:Bool):String:=if t=true then "tuple" else "list"
def SIt(t:Bool)(h:Heap)(i l:Addr)(k:Nat):Prop:=∃o,h.get? i=some o/\o.cls=.type (XE t)/\o.data=.fields #[.ref l,.int k 0]
def SSq(t:Bool)(h:Heap)(l:Addr)(xs:Array Value):Prop:=∃o,h.get? l=some o/\o.cls=.type (XN t)/\∃n,o.data=.seq xs n
theorem SIt.to(x:SIt t h i l k)(e:∀o,h.get? i=some o->h'.get? i=some o):SIt t h' i l k:=let ⟨o,ho,r⟩:=x;⟨o,e o ho,r⟩
theorem SSq.to(x:SSq t h l xs)(e:∀o,h.get? l=some o->h'.get? l=some o):SSq t h' l xs:=let ⟨o,ho,r⟩:=x;⟨o,e o ho,r⟩
section
variable {prog:YK}{w:World}{A:YM}{E:Value->YE->Prop}{s:YE}
theorem next_item(B:SIt t s.heap it l i)(hl:SSq t s.heap l xs)(Y:xs[i]?=some x)
  (W:∀h',SIt t h' it l (i+1)->Z7 it s.heap h'->Q x {s with heap:=h'}):wpAny (model prog w) A (zcc (.ref it)) Q E s:=by
 cases t with
 | false=>exact wpAny_nextOf_list_item (it:=it) (l:=l) (items:=xs) B hl Y W
 | true=>
  have q:s.heap.IsTupleIter it l i:=B;obtain⟨o,J,hc,F⟩:=B;obtain⟨ol,U,_,nl,N⟩:=hl;unfold zcc;refine YF (zaU (name:=ZQ "__next__") q.typeIs zcd (zaC zcd q.typeIs zcY ?_ (zcZ _)));show wpAny _ _ (field (.ref it) 0 >>= _) _ _ _;refine YF (zac J F (x:=.ref l) rfl ?_);show wpAny _ _ (if(Y5 l == ZW)=true then _ else _) _ _ _;rw[if_neg (show ¬ ((Y5 l == ZW)=true)from YX)];show wpAny _ _ (field (.ref it) 1 >>= _) _ _ _;refine YF (zac J F (x:=.int i 0) rfl ?_);show wpAny _ _ (seqItems? (.ref l) >>= _) _ _ _;refine YF (zce U N ?_);simp only[zaq,Y];refine YF (zb8 J F (by simp) (YL ⟨x,rfl,YL (W _ ⟨_,zbv _ J (Obj.isFreed_of_fields (zb9 F _)),(Obj.cls_mapFields ..).trans hc,by rw[zb9 F];simp[zaf]⟩ (zca ..))⟩))
theorem next_end(W:A.handled=none)(B:SIt t s.heap it l i)(hl:SSq t s.heap l xs)(Y:xs[i]?=none)
  (hE:∀h' e,Heap.ExtBut it s.heap h'->(∃o,h'.get? e=some o/\o.cls=.type "StopIteration")->E (.ref e) {s with heap:=h'}):wpAny (model prog w) A (zcc (.ref it)) Q E s:=by
 cases t with
 | false=>exact wpAny_nextOf_list_end (it:=it) (l:=l) (items:=xs) W B hl Y hE
 | true=>
  have q:s.heap.IsTupleIter it l i:=B;obtain⟨o,U,hc,N⟩:=B;obtain⟨ol,J,_,nl,F⟩:=hl;unfold zcc;refine YF (zaU (name:=ZQ "__next__") q.typeIs zcd (zaC zcd q.typeIs zcY ?_ (zcZ _)));show wpAny _ _ (field (.ref it) 0 >>= _) _ _ _;refine YF (zac U N (x:=.ref l) rfl ?_);show wpAny _ _ (if(Y5 l == ZW)=true then _ else _) _ _ _;rw[if_neg (show ¬ ((Y5 l == ZW)=true)from YX)];show wpAny _ _ (field (.ref it) 1 >>= _) _ _ _;refine YF (zac U N (x:=.int i 0) rfl ?_);show wpAny _ _ (seqItems? (.ref l) >>= _) _ _ _;refine YF (zce J F ?_);simp only[zaq,Y];refine YF (wpAny_rule (YF (zb8 U N (by simp) ?_)));show wpAny _ _ (newExc (.type "StopIteration") [] >>= _) _ _ _;refine YF ?_;simp only[newExc,newTuple];refine YF (zaD ?_ (by size_fits));refine YF (m:=zcb _ _) (wpAny_of_eq (a:=ZW) (by first|rfl|(simp only[zcb];rfl)) ?_);refine zaD ?_ (by size_fits);simp only[raiseNew]
  refine YF (wpAny_handled ?_);first|rw[show A.in1.handled=none from W]|rw[W]
  refine YF (YL (wpAny_throw ?_));exact hE _ _ (((zca ..).extBut.push _).push _) ⟨_,Y8 _ rfl,rfl⟩
abbrev WY(t:Bool)(l:Addr):Obj:={cls:=.type (XE t),data:=.fields #[.ref l,.int 0 0]}
end
def LX(K:YH)(t:Bool)(H:Hp)(a:Addr)(xs:List V):Prop:=if t=true then SqT K H a xs else SqL K H a xs
theorem y0(I:Inv X pins σ H s)(h:LX X.K t H a xs):∃q:List Value,Vals xs q/\SSq t s.heap a q.toArray:=by
 cases t with
 | true=>
  obtain⟨q,r,p,_⟩:=I.tuple (show SqT X.K H a xs from h);exact⟨q,r,p⟩
 | false=>
  obtain⟨q,r,p,_⟩:=I.list (show SqL X.K H a xs from h);exact⟨q,r,PlainL.isList p⟩
theorem JP(I:Inv X pins σ H s)(h:LX X.K t H a xs)(h':LX X.K t H a ys):xs=ys:=by
 cases t with
 | true=>exact I.tuple_inj (show SqT X.K H a xs from h) h'
 | false=>exact I.list_inj (show SqL X.K H a xs from h) h'
theorem pR{pins:List (Addr×Obj)}{t':Nat}{fp:List Addr}(I:Inv X pins σ H s)(J:∀b∈fp,jW X pins H b)(k:∀b o,b∉fp->s.heap.get? b=some o->h'.get? b=some o):Inv X pins σ H {s with heap:=h',toks:=t'}:=by
 have B:∀b u,H b=some u->b∉fp:=λb u e z=>by rw[(J b z).1]at e;cases e
 refine I.call' (s':={s with heap:=h',toks:=t'}) (ch:=fp) rfl ⟨λb o e _ _ F=>k b o F e,λb o e _ _ F=>⟨o.slots,k b o F e⟩,λ_ _ _ n _=>n,λb o e F=>⟨o,k b o F e⟩,λ_ _ q=>q,λ_ _ _ q=>q,λb ps q=>⟨#[],by rw[q];simp⟩⟩ (λb u e=>?_) I.bare λb U=>?_
 ·refine(I.hok b u e).stay (λc v W q=>k c v ?_ q) (λ_ q=>q) λ_ _ q=>q
  rcases W with z|z
  ·rw[z];exact B b u e
  ·exact B c _ z
 ·obtain⟨_,f1,_,N,Y,f5⟩:=J b U
  exact⟨N,f1,Y,f5⟩
end My
namespace P
open PySem PySem.Spec PyProof.Rows L2
inductive D where
 | non|bl (b:Bool)|int (i:Int)|str (x:Str)|tup (l:List D)|lst (l:List D)
 | dK (l:List (Key×D))|dT (l:List (List Key×D))
 | ob (a C:Addr) (fs:List (Str×D))
abbrev Av:=Addr->Prop
section
variable (A:Av)(H:Hp)
mutual
/-- a heap bears a value that stays (the things that may still be written are in A) -/
inductive Rep:D->V->Prop where
 | non:Rep .non .non
 | bl (b:Bool):Rep (.bl b) (.bl b)
 | int (i:Int):Rep (.int i) (.int i)
 | str (x:Str):Rep (.str x) (.str x)
 | tup {l:List D} {a:Addr} {xs:List V} (h:H a=some (.tup xs)) (r:RepL l xs):Rep (.tup l) (.ref a)
 | lst {l:List D} {a:Addr} {xs:List V} (n:¬ A a) (h:Rd H a (.lst xs)) (r:RepL l xs):Rep (.lst l) (.ref a)
 | dK {l:List (Key×D)} {a:Addr} {xs:List (Key×V)} (n:¬ A a) (h:Rd H a (.dK xs)) (e:xs.map (·.1)=l.map (·.1)) (r:RepL (l.map (·.2)) (xs.map (·.2))):Rep (.dK l) (.ref a)
 | dT {l:List (List Key×D)} {a:Addr} {xs:List (List Key×V)} (n:¬ A a) (h:Rd H a (.dT xs)) (e:xs.map (·.1)=l.map (·.1)) (r:RepL (l.map (·.2)) (xs.map (·.2))):Rep (.dT l) (.ref a)
 | ob {C a dx:Addr} {fs:List (Str×D)} {vs:List (Str×V)} (n:¬ A a) (h:H a=some (.ins C dx vs)) (e:vs.map (·.1)=fs.map (·.1)) (r:RepL (fs.map (·.2)) (vs.map (·.2))):Rep (.ob a C fs) (.ref a)
inductive RepL:List D->List V->Prop where
 | nil:RepL [] []
 | cons {d:D} {v:V} {ds:List D} {vs:List V} (h:Rep d v) (t:RepL ds vs):RepL (d::ds) (v::vs)
end
inductive RepB:D->V->Prop where
 | of {d:D} {v:V} (h:Rep A H d v):RepB d v
 | lst {l:List D} {a:Addr} {xs:List V} (h:Rd H a (.lst xs)) (r:RepL A H l xs):RepB (.lst l) (.ref a)
 | dK {l:List (Key×D)} {a:Addr} {xs:List (Key×V)} (h:Rd H a (.dK xs)) (e:xs.map (·.1)=l.map (·.1)) (r:RepL A H (l.map (·.2)) (xs.map (·.2))):RepB (.dK l) (.ref a)
 | dT {l:List (List Key×D)} {a:Addr} {xs:List (List Key×V)} (h:Rd H a (.dT xs)) (e:xs.map (·.1)=l.map (·.1)) (r:RepL A H (l.map (·.2)) (xs.map (·.2))):RepB (.dT l) (.ref a)
 | ob {C a dx:Addr} {fs:List (Str×D)} {vs:List (Str×V)} (h:H a=some (.ins C dx vs)) (e:vs.map (·.1)=fs.map (·.1)) (r:RepL A H (fs.map (·.2)) (vs.map (·.2))):RepB (.ob a C fs) (.ref a)
inductive Own:D->Addr->Prop where
 | lst {l:List D} {a:Addr} {xs:List V} (h:H a=some (.lst xs)) (r:RepL A H l xs):Own (.lst l) a
 | dK {l:List (Key×D)} {a:Addr} {xs:List (Key×V)} (h:H a=some (.dK xs)) (e:xs.map (·.1)=l.map (·.1)) (r:RepL A H (l.map (·.2)) (xs.map (·.2))):Own (.dK l) a
 | dT {l:List (List Key×D)} {a:Addr} {xs:List (List Key×V)} (h:H a=some (.dT xs)) (e:xs.map (·.1)=l.map (·.1)) (r:RepL A H (l.map (·.2)) (xs.map (·.2))):Own (.dT l) a
 | ob {C a dx:Addr} {fs:List (Str×D)} {vs:List (Str×V)} (h:H a=some (.ins C dx vs)) (e:vs.map (·.1)=fs.map (·.1)) (r:RepL A H (fs.map (·.2)) (vs.map (·.2))):Own (.ob a C fs) a
end
def Kp:HO->Prop
 | .tup _=>True | .lst _=>True | .ins _ _ _=>True|_=>False
structure Ext(A:Av)(H H':Hp):Prop where
 rd:∀b u,Rd H b u->Rd H' b u
 kp:∀b u,Kp u->H b=some u->H' b=some u
 ow:∀b u,A b->H b=some u->H' b=some u
 fz:∀b o u,H b=some (.frz o u)->H' b=some (.frz o u)
theorem Ext.refl(A:Av)(H:Hp):Ext A H H:=⟨λ_ _ h=>h,λ_ _ _ h=>h,λ_ _ _ h=>h,λ_ _ _ h=>h⟩
theorem Ext.trans(a:Ext A H H1)(b:Ext A H1 H2):Ext A H H2:=
 ⟨λc u h=>b.rd c u (a.rd c u h),λc u k h=>b.kp c u k (a.kp c u k h),λc u n h=>b.ow c u n (a.ow c u n h),λc o u h=>b.fz c o u (a.fz c o u h)⟩
theorem Ext.mono(h:Ext A H H')(s:∀a,A' a->A a):Ext A' H H':=⟨h.rd,h.kp,λb u n e=>h.ow b u (s b n) e,h.fz⟩
theorem Ext.same(h:Same H H'):Ext A H H':=
 ⟨λb u r=>by rcases r with r|⟨o,r⟩;exact .inl (h _ _ r);exact .inr ⟨o,h _ _ r⟩,λb u _ r=>h _ _ r,λb u _ r=>h _ _ r,λb o u r=>h _ _ r⟩
theorem Ext.tp(x:Ext A H H')(b:Addr)(xs:List V)(h:H b=some (.tup xs)):H' b=some (.tup xs):=x.kp b _ trivial h
theorem Ext.new(h:H p=none):Ext A H (upd H p o):=Ext.same (My.EF h)
mutual
theorem Rep.ext(x:Ext A H H'):Rep A H d v->Rep A H' d v
 | .non=>.non
 | .bl b=>.bl b
 | .int i=>.int i
 | .str s=>.str s
 | .tup h r=>.tup (x.tp _ _ h) (RepL.ext x r)
 | .lst n h r=>.lst n (x.rd _ _ h) (RepL.ext x r)
 | .dK n h e r=>.dK n (x.rd _ _ h) e (RepL.ext x r)
 | .dT n h e r=>.dT n (x.rd _ _ h) e (RepL.ext x r)
 | .ob n h e r=>.ob n (x.kp _ _ trivial h) e (RepL.ext x r)
theorem RepL.ext(x:Ext A H H'):RepL A H ds vs->RepL A H' ds vs
 | .nil=>.nil
 | .cons h t=>.cons (Rep.ext x h) (RepL.ext x t)
end
theorem RepB.ext(x:Ext A H H'):RepB A H d v->RepB A H' d v
 | .of h=>.of (h.ext x)
 | .lst h r=>.lst (x.rd _ _ h) (r.ext x)
 | .dK h e r=>.dK (x.rd _ _ h) e (r.ext x)
 | .dT h e r=>.dT (x.rd _ _ h) e (r.ext x)
 | .ob h e r=>.ob (x.kp _ _ trivial h) e (r.ext x)
theorem Own.ext(x:Ext A H H')(ha:A a):Own A H d a->Own A H' d a
 | .lst h r=>.lst (x.ow _ _ ha h) (r.ext x)
 | .dK h e r=>.dK (x.ow _ _ ha h) e (r.ext x)
 | .dT h e r=>.dT (x.ow _ _ ha h) e (r.ext x)
 | .ob h e r=>.ob (x.ow _ _ ha h) e (r.ext x)
theorem Own.b:Own A H d a->RepB A H d (.ref a)
 | .lst h r=>.lst (.inl h) r
 | .dK h e r=>.dK (.inl h) e r
 | .dT h e r=>.dT (.inl h) e r
 | .ob h e r=>.ob h e r
mutual
/-- avoid other things: those that were not there, or fewer -/
theorem Rep.av(x:∀a,A' a->A a\/H a=none):Rep A H d v->Rep A' H d v
 | .non=>.non
 | .bl b=>.bl b
 | .int i=>.int i
 | .str s=>.str s
 | .tup h r=>.tup h (RepL.av x r)
 | .lst n h r=>.lst (λz=>(x _ z).elim n λz=>by rcases h with h|⟨o,h⟩ <;> (rw[z]at h;cases h)) h (RepL.av x r)
 | .dK n h e r=>.dK (λz=>(x _ z).elim n λz=>by rcases h with h|⟨o,h⟩ <;> (rw[z]at h;cases h)) h e (RepL.av x r)
 | .dT n h e r=>.dT (λz=>(x _ z).elim n λz=>by rcases h with h|⟨o,h⟩ <;> (rw[z]at h;cases h)) h e (RepL.av x r)
 | .ob n h e r=>.ob (λz=>(x _ z).elim n λz=>by rw[z]at h;cases h) h e (RepL.av x r)
theorem RepL.av(x:∀a,A' a->A a\/H a=none):RepL A H ds vs->RepL A' H ds vs
 | .nil=>.nil
 | .cons h t=>.cons (Rep.av x h) (RepL.av x t)
end
def RC:HO->Prop
 | .lst _=>True | .dK _=>True | .dT _=>True | .ins _ _ _=>True|_=>False
theorem kR(n:b≠a)(h:Rd H b u):Rd (upd H a o) b u:=by
 rcases h with h|⟨x,h⟩
 ·exact .inl (by rw[aK n];exact h)
 ·exact .inr ⟨x,by rw[aK n];exact h⟩
mutual
theorem Rep.put(ha:A a)(q:H a=some u)(B:RC u):Rep A H d v->Rep A (upd H a o) d v
 | .non=>.non
 | .bl b=>.bl b
 | .int i=>.int i
 | .str s=>.str s
 | .tup (a:=b) h r=>.tup (by rw[aK (λz=>by subst z;rw[q]at h;cases h;exact B)];exact h) (RepL.put ha q B r)
 | .lst (a:=b) n h r=>.lst n (kR (λz=>n (by rw[z];exact ha)) h) (RepL.put ha q B r)
 | .dK (a:=b) n h e r=>.dK n (kR (λz=>n (by rw[z];exact ha)) h) e (RepL.put ha q B r)
 | .dT (a:=b) n h e r=>.dT n (kR (λz=>n (by rw[z];exact ha)) h) e (RepL.put ha q B r)
 | .ob (a:=b) n h e r=>.ob n (by rw[aK (λz=>n (by rw[z];exact ha))];exact h) e (RepL.put ha q B r)
theorem RepL.put(ha:A a)(q:H a=some u)(B:RC u):RepL A H ds vs->RepL A (upd H a o) ds vs
 | .nil=>.nil
 | .cons h t=>.cons (Rep.put ha q B h) (RepL.put ha q B t)
end
theorem Own.put{A:Av}{H:Hp}{a b:Addr}{o u:HO}(ha:A a)(q:H a=some u)(F:RC u)(B:b≠a){d:D}:Own A H d b->Own A (upd H a o) d b
 | .lst h r=>.lst (by rw[aK B];exact h) (r.put ha q F)
 | .dK h e r=>.dK (by rw[aK B];exact h) e (r.put ha q F)
 | .dT h e r=>.dT (by rw[aK B];exact h) e (r.put ha q F)
 | .ob h e r=>.ob (by rw[aK B];exact h) e (r.put ha q F)
theorem Own.av(x:∀a,A' a->A a\/H a=none):Own A H d a->Own A' H d a
 | .lst h r=>.lst h (r.av x)
 | .dK h e r=>.dK h e (r.av x)
 | .dT h e r=>.dT h e (r.av x)
 | .ob h e r=>.ob h e (r.av x)
theorem Own.rep(n:¬ A a):Own A H d a->Rep A H d (.ref a)
 | .lst h r=>.lst n (.inl h) r
 | .dK h e r=>.dK n (.inl h) e r
 | .dT h e r=>.dT n (.inl h) e r
 | .ob h e r=>.ob n h e r
section
variable {A:Av}{H:Hp}
theorem RepL.length:∀ {ds:List D} {vs:List V},RepL A H ds vs->vs.length=ds.length
 | _,_,.nil=>rfl
 | _,_,.cons _ t=>by rw[Y7,Y7,RepL.length t]
theorem RepL.get:∀ {ds:List D} {vs:List V} {i:Nat} {v:V},RepL A H ds vs->vs[i]?=some v->∃d,ds[i]?=some d/\Rep A H d v
 | _,_,i,v,.nil,e=>by simp at e
 | _,_,0,v,.cons h t,e=>by simp at e;subst e;exact⟨_,rfl,h⟩
 | _,_,i+1,v,.cons h t,e=>RepL.get (i:=i) t (by simpa using e)
theorem RepL.get':∀ {ds:List D} {vs:List V} {i:Nat} {d:D},RepL A H ds vs->ds[i]?=some d->∃v,vs[i]?=some v/\Rep A H d v
 | _,_,i,v,.nil,e=>by simp at e
 | _,_,0,v,.cons h t,e=>by simp at e;subst e;exact⟨_,rfl,h⟩
 | _,_,i+1,v,.cons h t,e=>RepL.get' (i:=i) t (by simpa using e)
theorem RepL.append:∀ {ds es:List D} {vs us:List V},RepL A H ds vs->RepL A H es us->RepL A H (ds++es) (vs++us)
 | _,_,_,_,.nil,s=>s
 | _,_,_,_,.cons h t,s=>.cons h (RepL.append t s)
theorem RepL.take:∀ {ds:List D} {vs:List V} (n:Nat),RepL A H ds vs->RepL A H (ds.take n) (vs.take n)
 | _,_,0,_=>by simp;exact .nil
 | _,_,n+1,.nil=>.nil
 | _,_,n+1,.cons h t=>.cons h (RepL.take n t)
theorem RepL.drop:∀ {ds:List D} {vs:List V} (n:Nat),RepL A H ds vs->RepL A H (ds.drop n) (vs.drop n)
 | _,_,0,r=>r
 | _,_,n+1,.nil=>.nil
 | _,_,n+1,.cons h t=>RepL.drop n t
theorem RepL.set:∀ {ds:List D} {vs:List V} {d:D} {v:V} (n:Nat),Rep A H d v->RepL A H ds vs->RepL A H (ds.set n d) (vs.set n v)
 | _,_,_,_,_,_,.nil=>.nil
 | _,_,_,_,0,r,.cons h t=>.cons r t
 | _,_,_,_,n+1,r,.cons h t=>.cons h (RepL.set n r t)
theorem Rep.b(h:Rep A H d v):RepB A H d v:=.of h
theorem RepB.int_inv(h:RepB A H (.int i) v):v=.int i:=by cases h with|of h=>cases h;rfl
theorem RepB.bl_inv(h:RepB A H (.bl i) v):v=.bl i:=by cases h with|of h=>cases h;rfl
theorem RepB.str_inv(h:RepB A H (.str i) v):v=.str i:=by cases h with|of h=>cases h;rfl
theorem RepB.non_inv(h:RepB A H .non v):v=.non:=by cases h with|of h=>cases h;rfl
theorem RepB.tup_inv(h:RepB A H (.tup l) v):∃a xs,v=.ref a/\H a=some (.tup xs)/\RepL A H l xs:=by
 cases h with|of h=>cases h with|tup h r=>exact⟨_,_,rfl,h,r⟩
theorem RepB.ob_inv{a C:Addr}{fs:List (Str×D)}{v:V}(h:RepB A H (.ob a C fs) v):∃dx vs,v=.ref a/\H a=some (.ins C dx vs)/\vs.map (·.1)=fs.map (·.1)/\RepL A H (fs.map (·.2)) (vs.map (·.2)):=by
 cases h with
 | of h=>cases h with
  | ob n h e r=>exact⟨_,_,rfl,h,e,r⟩
 | ob h e r=>exact⟨_,_,rfl,h,e,r⟩
theorem RepB.lst_inv(h:RepB A H (.lst l) v):∃a xs,v=.ref a/\Rd H a (.lst xs)/\RepL A H l xs:=by
 cases h with
 | of h=>cases h with|lst n h r=>exact⟨_,_,rfl,h,r⟩
 | lst h r=>exact⟨_,_,rfl,h,r⟩
theorem RepB.dK_inv(h:RepB A H (.dK l) v):∃a xs,v=.ref a/\Rd H a (.dK xs)/\xs.map (·.1)=l.map (·.1)/\RepL A H (l.map (·.2)) (xs.map (·.2)):=by
 cases h with
 | of h=>cases h with|dK n h e r=>exact⟨_,_,rfl,h,e,r⟩
 | dK h e r=>exact⟨_,_,rfl,h,e,r⟩
theorem RepB.dT_inv(h:RepB A H (.dT l) v):∃a xs,v=.ref a/\Rd H a (.dT xs)/\xs.map (·.1)=l.map (·.1)/\RepL A H (l.map (·.2)) (xs.map (·.2)):=by
 cases h with
 | of h=>cases h with|dT n h e r=>exact⟨_,_,rfl,h,e,r⟩
 | dT h e r=>exact⟨_,_,rfl,h,e,r⟩
end
abbrev bI:=List (Option D)
inductive Fact where
 | rep (d:D) (v:V)|fz (a:Addr) (o:Obj) (u:HO)
def Fact.Holds(A:Av)(H:Hp):Fact->Prop
 | .rep d v=>Rep A H d v
 | .fz a o u=>H a=some (.frz o u)
theorem Fact.ext(x:Ext A H H'):∀ {p:Fact},p.Holds A H->p.Holds A H'
 | .rep _ _,h=>Rep.ext x h
 | .fz _ _ _,h=>x.fz _ _ _ h
theorem Fact.av(x:∀a,A' a->A a\/H a=none):∀ {p:Fact},p.Holds A H->p.Holds A' H
 | .rep _ _,h=>Rep.av x h
 | .fz _ _ _,h=>h
theorem Fact.put(ha:A a)(B:H a=some u)(F:RC u):∀ {p:Fact},p.Holds A H->p.Holds A (upd H a o)
 | .rep _ _,h=>Rep.put ha B F h
 | .fz b q w,h=>by
  have h:H b=some (.frz q w):=h;show upd H a o b=some (.frz q w);rw[aK (λz=>by subst z;rw[B]at h;cases h;exact F)];exact h
structure ST(H0:Hp)(A0 A:Av)(E:List Fact)(O:List Nat)(σ:L2.St)(H:Hp)(ρ:bI):Prop where
 ex:Ext A0 H0 H
 sub:∀a,A0 a->A a
 l0:∀a,A0 a->H0 a≠none
 live:∀a,A a->H a≠none
 len:σ.length=ρ.length
 val:∀i d,ρ[i]?=some (some d)->i∉O->∃v,σ[i]?=some (some v)/\Rep A H d v
 own:∀i d,ρ[i]?=some (some d)->i∈O->∃a,σ[i]?=some (some (.ref a))/\A a/\H0 a=none/\Own A H d a
 inj:∀i j d d' a,i∈O->j∈O->ρ[i]?=some (some d)->ρ[j]?=some (some d')->σ[i]?=some (some (.ref a))->σ[j]?=some (some (.ref a))->i=j
 ext:∀p∈E,p.Holds A H
section
variable {H0:Hp}{A0 A:Av}{E:List Fact}{O:List Nat}{σ:L2.St}{H H':Hp}{ρ:bI}
theorem ST.mono(s:ST H0 A0 A E O σ H ρ)(x:Ext A H H'):ST H0 A0 A E O σ H' ρ where
 ex:=s.ex.trans (x.mono s.sub)
 sub:=s.sub
 l0:=s.l0
 live:=λa ha=>by
  have:=s.live a ha;cases e:H a with
  | none=>exact absurd e this
  | some u=>rw[x.ow a u ha e];exact λz=>nomatch z
 len:=s.len
 val:=λi d h n=>by obtain⟨v,h1,h2⟩:=s.val i d h n;exact⟨v,h1,h2.ext x⟩
 own:=λi d h n=>by obtain⟨a,h1,h2,B,F⟩:=s.own i d h n;exact⟨a,h1,h2,B,F.ext x h2⟩
 inj:=s.inj
 ext:=λp q=>Fact.ext x (s.ext p q)
theorem ST.more(s:ST H0 A0 A E O σ H ρ)(h:Rep A H d v):ST H0 A0 A (.rep d v::E) O σ H ρ:=
 {s with ext:=λp q=>by rcases List.mem_cons.mp q with e|e;rw[e];exact h;exact s.ext p e}
theorem ST.less(s:ST H0 A0 A E O σ H ρ)(h:∀p∈E',p∈E):ST H0 A0 A E' O σ H ρ:=
 {s with ext:=λp q=>s.ext p (h p q)}
theorem cK(h:(ρ.set i o)[j]?=some (some d)):(j=i/\o=some d/\i<ρ.length)\/(j≠i/\ρ[j]?=some (some d)):=by
 rw[List.getElem?_set]at h;by_cases e:i=j
 ·rw[if_pos e]at h
  by_cases l:i<ρ.length
  ·rw[if_pos l]at h
   exact .inl ⟨e.symm,ZI h,l⟩
  ·rw[if_neg l]at h;cases h
 ·rw[if_neg e]at h
  exact .inr ⟨λz=>e z.symm,h⟩
theorem sig_set(h:i<σ.length):(σ.set i (some v))[i]?=some (some v):=by simp[h]
theorem eZ(h:j≠i):(σ.set i (some v))[j]?=σ[j]?:=by rw[zcp (ZH h)]
theorem ST.put(s:ST H0 A0 A E O σ H ρ)(h:Rep A H d v)(n:i∉O):ST H0 A0 A E O (σ.set i (some v)) H (ρ.set i (some d)) where
 ex:=s.ex
 sub:=s.sub
 l0:=s.l0
 live:=s.live
 len:=by simp[s.len]
 val:=λj d' h' B=>by
  rcases cK h' with⟨e,q,l⟩|⟨e,q⟩
  ·subst e;cases q;exact⟨v,sig_set (by rw[s.len];exact l),h⟩
  ·obtain⟨w,h1,h2⟩:=s.val j d' q B;exact⟨w,by rw[eZ e];exact h1,h2⟩
 own:=λj d' h' B=>by
  rcases cK h' with⟨e,q,l⟩|⟨e,q⟩
  ·subst e;exact absurd B n
  ·obtain⟨w,h1,h2⟩:=s.own j d' q B;exact⟨w,by rw[eZ e];exact h1,h2⟩
 inj:=λj k d1 d2 a J hk h1 h2 F N=>by
  have U:j≠i:=λz=>n (z ▸ J)
  have W:k≠i:=λz=>n (z ▸ hk)
  rcases cK h1 with⟨e,_⟩|⟨_,h1⟩
  ·exact absurd e U
  rcases cK h2 with⟨e,_⟩|⟨_,h2⟩
  ·exact absurd e W
  exact s.inj j k d1 d2 a J hk h1 h2 (by rw[eZ U]at F;exact F) (by rw[eZ W]at N;exact N)
 ext:=s.ext
theorem ST.shut(s:ST H0 A0 A E O σ H ρ)(h:∀i,i∈O'->i∈O):∃A',ST H0 A0 A' E O' σ H ρ:=by
 let F:Av:=λa=>∃i d,i∈O/\i∉O'/\ρ[i]?=some (some d)/\σ[i]?=some (some (.ref a))
 have cut:∀a,(A a/\¬ F a)->A a\/H a=none:=λa z=>.inl z.1
 refine⟨λa=>A a/\¬ F a,s.ex,λa ha=>⟨s.sub a ha,?_⟩,s.l0,λa ha=>s.live a ha.1,s.len,λi d hi n=>?_,λi d hi n=>?_,λi j d d' a hi hj=>s.inj i j d d' a (h i hi) (h j hj),λp hp=>Fact.av cut (s.ext p hp)⟩
 ·rintro⟨i,d,h1,h2,U,Y⟩
  obtain⟨b,q,B,J,N⟩:=s.own i d U h1;rw[Y]at q;cases q;exact s.l0 a ha J
 ·by_cases W:i∈O
  ·obtain⟨a,q,B,J,N⟩:=s.own i d hi W
   exact⟨.ref a,q,(N.av cut).rep λz=>z.2 ⟨i,d,W,n,hi,q⟩⟩
  ·obtain⟨v,q,B⟩:=s.val i d hi W
   exact⟨v,q,B.av cut⟩
 ·obtain⟨a,q,B,J,N⟩:=s.own i d hi (h i n)
  refine⟨a,q,⟨B,?_⟩,J,N.av cut⟩;rintro⟨j,d',h1,h2,U,Y⟩;have:=s.inj i j d d' a (h i n) h1 hi U q Y;subst this;exact h2 n
end
abbrev Ev:=bI->Option D
abbrev Bv:=bI->Option Bool
abbrev Lv:=bI->Option (List D)
abbrev RR:=Av->Hp->D->V->Prop
inductive tD(R:RR)(O:List Nat)(f:Ev)(σ:L2.St)(H:Hp)(Q:VK):Prop
 | mk (H0:Hp) (A0 A:Av) (E:List Fact) (ρ:bI) (d:D) (st:ST H0 A0 A E O σ H ρ) (e:f ρ=some d) (q:∀v H',Ext A H H'->R A H' d v->Q v H'):tD R O f σ H Q
inductive tDT(O:List Nat)(g:Bv)(σ:L2.St)(H:Hp)(Q:Bool->Hp->Prop):Prop
 | mk (H0:Hp) (A0 A:Av) (E:List Fact) (ρ:bI) (b:Bool) (st:ST H0 A0 A E O σ H ρ) (e:g ρ=some b) (q:∀H',Ext A H H'->Q b H'):tDT O g σ H Q
def PD(X:Cx)(O:List Nat)(e:Expr)(f:Ev):Prop:=PE X e (tD Rep O f)
def PB(X:Cx)(O:List Nat)(e:Expr)(f:Ev):Prop:=PE X e (tD RepB O f)
def k3(X:Cx)(O:List Nat)(e:Expr)(g:Bv):Prop:=PT X e (tDT O g)
def PDW(X:Cx)(O:List Nat)(e:Expr)(g:Bv):Prop:=PW X e (tDT O g)
theorem PDW.pt(h:PDW X O e g):k3 X O e g:=PW.pt h
inductive RL(R:RR)(A:Av)(H:Hp):List D->List V->Prop where
 | nil:RL R A H [] []
 | cons {d v ds vs} (h:R A H d v) (t:RL R A H ds vs):RL R A H (d::ds) (v::vs)
inductive tDA(R:RR)(O:List Nat)(f:Lv)(σ:L2.St)(H:Hp)(Q:List V->Hp->Prop):Prop
 | mk (H0:Hp) (A0 A:Av) (E:List Fact) (ρ:bI) (ds:List D) (st:ST H0 A0 A E O σ H ρ) (e:f ρ=some ds) (q:∀vs H',Ext A H H'->RL R A H' ds vs->Q vs H'):tDA R O f σ H Q
def mE(X:Cx)(O:List Nat)(es:List Expr)(f:Lv):Prop:=PA X es (tDA Rep O f)
def vF(X:Cx)(O:List Nat)(es:List Expr)(f:Lv):Prop:=PA X es (tDA RepB O f)
section
variable {X:Cx}{O:List Nat}
theorem PE.mono(h:PE X e t)(x:∀σ H Q,t' σ H Q->t σ H Q):PE X e t':=λpins s σ H Q I w=>h pins s σ H Q I (x σ H Q w)
theorem PT.mono(h:PT X e t)(x:∀σ H Q,t' σ H Q->t σ H Q):PT X e t':=λpins s σ H Q I w=>h pins s σ H Q I (x σ H Q w)
theorem PW.mono(h:PW X e t)(x:∀σ H Q,t' σ H Q->t σ H Q):PW X e t':=λq pins s σ H Q I w=>h q pins s σ H Q I (x σ H Q w)
theorem PA.mono(h:PA X es t)(x:∀σ H Q,t' σ H Q->t σ H Q):PA X es t':=λpos pins s σ H Q I w=>h pos pins s σ H Q I (x σ H Q w)
theorem PD.b{e:Expr}{f:Ev}(h:PD X O e f):PB X O e f:=PE.mono h λσ H Q ⟨H0,A0,A,E,ρ,d,st,e,q⟩=>⟨H0,A0,A,E,ρ,d,st,e,λv H' x r=>q v H' x (.of r)⟩
theorem RL.toL:∀ {ds:List D} {vs:List V},RL Rep A H ds vs->RepL A H ds vs
 | _,_,.nil=>.nil
 | _,_,.cons h t=>.cons h (RL.toL t)
def aE(i:Nat):Ev:=λρ=>(ρ[i]?).join
def eC(d:D):Ev:=λ_=>some d
theorem aQ{ρ:bI}{i:Nat}{d:D}(h:(ρ[i]?).join=some d):ρ[i]?=some (some d):=by
 cases e:ρ[i]? with
 | none=>rw[e]at h;cases h
 | some o=>rw[e]at h;cases o with
  | none=>cases h
  | some x=>cases h;rfl
theorem QF{e:Expr}(i:Nat)(h:PE X e (d6 i))(n:i∉O):PD X O e (aE i):=PE.mono h <| by
 rintro σ H Q ⟨H0,A0,A,E,ρ,d,st,e,q⟩;obtain⟨v,B,r⟩:=st.val i d (aQ e) n;exact⟨v,B,q v H (Ext.refl _ _) r⟩
theorem QL{e:Expr}(i:Nat)(h:PE X e (d6 i)):PB X O e (aE i):=PE.mono h <| by
 rintro σ H Q ⟨H0,A0,A,E,ρ,d,st,e,q⟩;by_cases n:i∈O
 ·obtain⟨a,B,_,_,r⟩:=st.own i d (aQ e) n
  exact⟨_,B,q _ H (Ext.refl _ _) r.b⟩
 ·obtain⟨v,B,r⟩:=st.val i d (aQ e) n
  exact⟨v,B,q v H (Ext.refl _ _) (.of r)⟩
theorem FU{i j pos}:PD X O (.Constant (.int i) j pos) (eC (.int i)):=PE.mono PX λσ H Q ⟨H0,A0,A,E,ρ,d,st,e,q⟩=>by cases e;exact q _ H (Ext.refl _ _) (.int _)
theorem S5{i j pos}:PD X O (.Constant (.bool i) j pos) (eC (.bl i)):=PE.mono SI λσ H Q ⟨H0,A0,A,E,ρ,d,st,e,q⟩=>by cases e;exact q _ H (Ext.refl _ _) (.bl _)
theorem OV{i j pos}:PD X O (.Constant (.str i) j pos) (eC (.str i)):=PE.mono PN λσ H Q ⟨H0,A0,A,E,ρ,d,st,e,q⟩=>by cases e;exact q _ H (Ext.refl _ _) (.str _)
theorem NN{j pos}:PD X O (.Constant .none j pos) (eC .non):=PE.mono M5 λσ H Q ⟨H0,A0,A,E,ρ,d,st,e,q⟩=>by cases e;exact q _ H (Ext.refl _ _) .non
def Live(A:Av)(H:Hp):Prop:=∀a,A a->H a≠none
theorem Live.ext(l:Live A H)(x:Ext A H H'):Live A H':=λa ha=>by
 cases e:H a with
 | none=>exact absurd e (l a ha)
 | some u=>rw[x.ow a u ha e];exact λz=>nomatch z
inductive rD(g:D->D->Option D)(x y:V)(H:Hp)(Q:VK):Prop
 | mk (A:Av) (dx dy d:D) (lv:Live A H) (rx:RepB A H dx x) (ry:RepB A H dy y) (e:g dx dy=some d) (q:∀v H',Ext A H H'->Rep A H' d v->Q v H'):rD g x y H Q
def iK(X:Cx)(f:Value->Value->Sem Value)(g:D->D->Option D):Prop:=OpR X f (rD g)
theorem OpR.mono(h:OpR X f r)(x:∀a b H Q,r' a b H Q->r a b H Q):OpR X f r':=λpins s σ H a b v u Q I q B w=>h pins s σ H a b v u Q I q B (x a b H Q w)
def aR(g:D->D->Option D)(B q:Ev):Ev:=λρ=>(B ρ).bind λx=>(q ρ).bind λy=>g x y
theorem bind_some{B q:Type}{o:Option B}{f:B->Option q}{b:q}(h:o.bind f=some b):∃a,o=some a/\f a=some b:=by
 cases o with
 | none=>cases h
 | some a=>exact⟨a,rfl,h⟩
theorem u0{g:D->D->Option D}{N J:Ev}{σ:L2.St}{H:Hp}{Q:VK}(h:tD Rep O (aR g N J) σ H Q):RI (rD g) (tD RepB O N) (tD RepB O J) σ H Q:=by
 obtain⟨H0,A0,A,E,ρ,d,st,e,q⟩:=h;obtain⟨x,ex,e⟩:=bind_some e;obtain⟨y,ey,e⟩:=bind_some e;exact⟨H0,A0,A,E,ρ,x,st,ex,λv H1 B r1=>⟨H0,A0,A,E,ρ,y,st.mono B,ey,λw H2 F Y=>⟨A,x,y,d,(st.mono (B.trans F)).live,r1.ext F,Y,e,λz W U r3=>q z W ((B.trans F).trans U) r3⟩⟩⟩
theorem bE(q:iK X (ZC op) g)(ha:PB X O a fa)(B:PB X O b fb):PD X O (.BinOp a op b pos) (aR g fa fb):=
 PE.mono (HA q ha B) λσ H Q h=>u0 h
theorem FR(q:iK X (YR op) g)(ha:PB X O a fa)(B:PB X O b fb)(F:zae op b=false):PD X O (.Compare a [op] [b] pos) (aR g fa fb):=
 PE.mono (KI q ha B F) λσ H Q h=>u0 h
noncomputable def BM:D->Option Bool
 | .bl b=>some b
 | _=>none
theorem jC(h:BM d=some b):d=.bl b:=by
 cases d <;> cases h;rfl
def c9(f:Ev):Bv:=λρ=>(f ρ).bind BM
theorem jB{f:Ev}{σ:L2.St}{H:Hp}{Q:Bool->Hp->Prop}(h:tDT O (c9 f) σ H Q):tD Rep O f σ H λx H'=>∃k,x=.bl k/\Q k H':=by
 obtain⟨H0,A0,A,E,ρ,b,st,e,q⟩:=h;obtain⟨x,ex,e⟩:=bind_some e;rw[jC e]at ex;exact⟨H0,A0,A,E,ρ,_,st,ex,λv H1 B F=>⟨b,RepB.bl_inv (.of F),q H1 B⟩⟩
theorem uH(q:iK X (YR op) g)(ha:PB X O a fa)(B:PB X O b fb)(F:zae op b=false):k3 X O (.Compare a [op] [b] pos) (c9 (aR g fa fb)):=
 PT.mono (AR q ha B F) λσ H Q h=>u0 (jB h)
theorem AM(h:PD X O e f)(B:∀q,isTrue e X.env q=(do let v <- q;standAt e.pos;holding [v] (truthy v)):=by intro _;rfl):k3 X O e (c9 f):=
 PT.mono (OD h B) λσ H Q h=>jB h
def xO(g:Bv):Bv:=λρ=>(g ρ).map (!·)
def mC(g h:Bv):Bv:=λρ=>(g ρ).bind λb=>if b=true then h ρ else some false
def LZ(g h:Bv):Bv:=λρ=>(g ρ).bind λb=>if b=true then some true else h ρ
theorem AC(h:k3 X O a g):k3 X O (.UnaryOp .Not a pos) (xO g):=PT.mono (NS h) <| by
 rintro σ H Q ⟨H0,A0,A,E,ρ,b,st,e,q⟩;unfold xO at e;cases z:g ρ with
 | none=>rw[z]at e;cases e
 | some c=>rw[z]at e;cases e;exact⟨H0,A0,A,E,ρ,c,st,z,q⟩
theorem ER(h:k3 X O a g):PDW X O (.BoolOp .And [a] pos) g:=IZ h
theorem zQ(h:k3 X O a g):PDW X O (.BoolOp .Or [a] pos) g:=P9 h
theorem IW{a b:Expr}{rest:List Expr}{pos:Pos}{g k:Bv}(ha:k3 X O a g)(F:PDW X O (.BoolOp .And (b::rest) pos) k):PDW X O (.BoolOp .And (a::b::rest) pos) (mC g k):=
 PW.mono (NP ha F) <| by
  rintro σ H Q ⟨H0,A0,A,E,ρ,b,st,e,q⟩;obtain⟨x,ex,e⟩:=bind_some e;refine⟨H0,A0,A,E,ρ,x,st,ex,λH1 B=>?_⟩;cases x with
  | false=>rw[if_neg YX]at e ⊢;cases e;exact q H1 B
  | true=>rw[if_pos rfl]at e ⊢;exact⟨H0,A0,A,E,ρ,b,st.mono B,e,λH2 J=>q H2 (B.trans J)⟩
theorem zB{a b:Expr}{rest:List Expr}{pos:Pos}{g k:Bv}(ha:k3 X O a g)(F:PDW X O (.BoolOp .Or (b::rest) pos) k):PDW X O (.BoolOp .Or (a::b::rest) pos) (LZ g k):=
 PW.mono (RW ha F) <| by
  rintro σ H Q ⟨H0,A0,A,E,ρ,b,st,e,q⟩;obtain⟨x,ex,e⟩:=bind_some e;refine⟨H0,A0,A,E,ρ,x,st,ex,λH1 B=>?_⟩;cases x with
  | true=>rw[if_pos rfl]at e ⊢;cases e;exact q H1 B
  | false=>rw[if_neg YX]at e ⊢;exact⟨H0,A0,A,E,ρ,b,st.mono B,e,λH2 J=>q H2 (B.trans J)⟩
def LN(f g:Ev):Ev:=λρ=>(f ρ).bind λx=>(BM x).bind λb=>if b=true then g ρ else some (.bl false)
def RK(f g:Ev):Ev:=λρ=>(f ρ).bind λx=>(BM x).bind λb=>if b=true then some (.bl true)else g ρ
def T6(f:Ev):Ev:=λρ=>(f ρ).bind λx=>(BM x).map λb=>.bl (!b)
def M0(c:Bv)(f g:Ev):Ev:=λρ=>(c ρ).bind λb=>if b=true then f ρ else g ρ
theorem M8{op}(h:PD X O a f):PD X O (.BoolOp op [a] pos) f:=QE h
theorem N9{a b:Expr}{rest:List Expr}{pos:Pos}{f g:Ev}(ha:PD X O a f)(J:PD X O (.BoolOp .And (b::rest) pos) g):PD X O (.BoolOp .And (a::b::rest) pos) (LN f g):=
 PE.mono (O9 ha J) <| by
  rintro σ H Q ⟨H0,A0,A,E,ρ,d,st,e,q⟩;obtain⟨x,ex,e⟩:=bind_some e;obtain⟨b,F,e⟩:=bind_some e;rw[jC F]at ex;refine⟨H0,A0,A,E,ρ,_,st,ex,λv H1 B N=>⟨b,RepB.bl_inv (.of N),?_⟩⟩;cases b with
  | false=>rw[if_neg YX]at e ⊢;cases e;exact q _ H1 B (.bl _)
  | true=>rw[if_pos rfl]at e ⊢;exact⟨H0,A0,A,E,ρ,d,st.mono B,e,λw H2 U=>q w H2 (B.trans U)⟩
theorem S6{a b:Expr}{rest:List Expr}{pos:Pos}{f g:Ev}(ha:PD X O a f)(J:PD X O (.BoolOp .Or (b::rest) pos) g):PD X O (.BoolOp .Or (a::b::rest) pos) (RK f g):=
 PE.mono (RZ ha J) <| by
  rintro σ H Q ⟨H0,A0,A,E,ρ,d,st,e,q⟩;obtain⟨x,ex,e⟩:=bind_some e;obtain⟨b,F,e⟩:=bind_some e;rw[jC F]at ex;refine⟨H0,A0,A,E,ρ,_,st,ex,λv H1 B N=>⟨b,RepB.bl_inv (.of N),?_⟩⟩;cases b with
  | true=>rw[if_pos rfl]at e ⊢;cases e;exact q _ H1 B (.bl _)
  | false=>rw[if_neg YX]at e ⊢;exact⟨H0,A0,A,E,ρ,d,st.mono B,e,λw H2 U=>q w H2 (B.trans U)⟩
theorem O6{a:Expr}{pos:Pos}{f:Ev}(ha:PD X O a f):PD X O (.UnaryOp .Not a pos) (T6 f):=
 PE.mono (NO ha) <| by
  rintro σ H Q ⟨H0,A0,A,E,ρ,d,st,e,q⟩;obtain⟨x,ex,e⟩:=bind_some e;cases z:BM x with
  | none=>rw[z]at e;cases e
  | some b=>
   rw[z]at e;cases e;rw[jC z]at ex;exact⟨H0,A0,A,E,ρ,_,st,ex,λv H1 B F=>⟨b,RepB.bl_inv (.of F),q _ H1 B (.bl _)⟩⟩
theorem SW{c a b:Expr}{pos:Pos}{g:Bv}{f k:Ev}(U:k3 X O c g)(ha:PD X O a f)(N:PD X O b k):PD X O (.IfExp c a b pos) (M0 g f k):=
 PE.mono (E8 U ha N) <| by
  rintro σ H Q ⟨H0,A0,A,E,ρ,d,st,e,q⟩;obtain⟨b,J,e⟩:=bind_some e;refine⟨H0,A0,A,E,ρ,b,st,J,λH1 B=>?_⟩;cases b with
  | true=>rw[if_pos rfl]at e ⊢;exact⟨H0,A0,A,E,ρ,d,st.mono B,e,λw H2 F=>q w H2 (B.trans F)⟩
  | false=>rw[if_neg YX]at e ⊢;exact⟨H0,A0,A,E,ρ,d,st.mono B,e,λw H2 F=>q w H2 (B.trans F)⟩
def hZ(g g':D->D->Option D)(F B q:Ev):Ev:=λρ=>(F ρ).bind λx=>(B ρ).bind λy=>(g x y).bind λz=>(BM z).bind λb=>if b=true then(q ρ).bind λw=>g' y w else some (.bl false)
end
section
variable {X:Cx}{O:List Nat}
theorem sT(h:tD Rep O (hZ g g' fa fb fc) σ H Q):zA (rD g) (rD g') (tD RepB O fa) (tD RepB O fb) (tD RepB O fc) σ H Q:=by
 obtain⟨H0,A0,A,E,ρ,d,st,e,q⟩:=h;obtain⟨x,ex,e⟩:=bind_some e;obtain⟨y,ey,e⟩:=bind_some e;obtain⟨z,W,e⟩:=bind_some e;obtain⟨b,eb,e⟩:=bind_some e;rw[jC eb]at W;refine⟨H0,A0,A,E,ρ,x,st,ex,λv H1 N r1=>⟨H0,A0,A,E,ρ,y,st.mono N,ey,λw H2 J U=>⟨A,x,y,_,(st.mono (N.trans J)).live,r1.ext J,U,W,λz H3 Y r3=>⟨b,RepB.bl_inv (.of r3),?_⟩⟩⟩⟩;have B:=(N.trans J).trans Y;cases b with
 | false=>rw[if_neg YX]at e ⊢;cases e;exact q _ H3 B (.bl _)
 | true=>
  rw[if_pos rfl]at e ⊢;obtain⟨u,eu,e⟩:=bind_some e;exact⟨H0,A0,A,E,ρ,u,st.mono B,eu,λz' H4 F r4=>⟨A,y,u,d,(st.mono (B.trans F)).live,U.ext (Y.trans F),r4,e,λz2 H5 x5 r5=>q z2 H5 ((B.trans F).trans x5) r5⟩⟩
theorem DX(N:iK X (YR op) g)(q:iK X (YR op') g')(ha:PB X O a fa)(B:PB X O b fb)(J:PB X O c fc)
  (F:lastMarks [op,op'] [b,c]=false:=by with_unfolding_all rfl):PD X O (.Compare a [op,op'] [b,c] pos) (hZ g g' fa fb fc):=PE.mono (FB N q ha B J F) λσ H Q h=>sT h
theorem BV(N:iK X (YR op) g)(q:iK X (YR op') g')(ha:PB X O a fa)(B:PB X O b fb)(J:PB X O c fc)
  (F:lastMarks [op,op'] [b,c]=false:=by with_unfolding_all rfl):k3 X O (.Compare a [op,op'] [b,c] pos) (c9 (hZ g g' fa fb fc)):=PT.mono (DS N q ha B J F) λσ H Q h=>sT (jB h)
def aY:Lv:=λ_=>some []
def aH(f:Ev)(g:Lv):Lv:=λρ=>(f ρ).bind λx=>(g ρ).bind λxs=>some (x::xs)
theorem oW:mE X O [] aY:=PA.mono gH λσ H Q ⟨H0,A0,A,E,ρ,d,st,e,q⟩=>by cases e;exact q [] H (Ext.refl _ _) .nil
theorem t8:vF X O [] aY:=PA.mono gH λσ H Q ⟨H0,A0,A,E,ρ,d,st,e,q⟩=>by cases e;exact q [] H (Ext.refl _ _) .nil
theorem wX(U:∀A H H' d v,Ext A H H'->R A H d v->R A H' d v)(h:tDA R O (aH f g) σ H Q):rH (tD R O f) (tDA R O g) σ H Q:=by
 obtain⟨H0,A0,A,E,ρ,d,st,e,q⟩:=h;obtain⟨x,ex,e⟩:=bind_some e;obtain⟨xs,B,e⟩:=bind_some e;cases e;exact⟨H0,A0,A,E,ρ,x,st,ex,λv H1 F W=>⟨H0,A0,A,E,ρ,xs,st.mono F,B,λvs H2 J N=>q (v::vs) H2 (F.trans J) (.cons (U _ _ _ _ _ J W) N)⟩⟩
theorem wV(ha:PD X O e f)(q:mE X O es g)(hs:YG (e::es) X.env=(false,eval e X.env)::YG es X.env:=by rfl):mE X O (e::es) (aH f g):=
 PA.mono (bP ha q hs) λσ H Q h=>wX (λ_ _ _ _ _ x r=>r.ext x) h
theorem qJ(ha:PB X O e f)(q:vF X O es g)(hs:YG (e::es) X.env=(false,eval e X.env)::YG es X.env:=by rfl):vF X O (e::es) (aH f g):=
 PA.mono (bP ha q hs) λσ H Q h=>wX (λ_ _ _ _ _ x r=>r.ext x) h
inductive tF(O:List Nat)(f:Ev)(σ:L2.St)(H:Hp)(Q:VK):Prop
 | mk (H0:Hp) (A0 A:Av) (E:List Fact) (ρ:bI) (d:D) (st:ST H0 A0 A E O σ H ρ) (e:f ρ=some d) (q:∀a H',Ext A H H'->H a=none->¬ A a->Own (λb=>A b\/b=a) H' d a->Q (.ref a) H'):tF O f σ H Q
def PF(X:Cx)(O:List Nat)(e:Expr)(f:Ev):Prop:=PE X e (tF O f)
theorem PF.d(h:PF X O e f):PD X O e f:=PE.mono h λσ H Q ⟨H0,A0,A,E,ρ,d,st,e,q⟩=>
 ⟨H0,A0,A,E,ρ,d,st,e,λa H' x n F o=>q _ H' x ((o.av (A':=A) λb B=>.inl (.inl B)).rep F)⟩
theorem RepL.fresh(n:H p=none)(r:RepL A H ds vs):RepL (λb=>A b\/b=p) (upd H p o) ds vs:=by
 have B:RepL (λb=>A b\/b=p) H ds vs:=r.av λb q=>by
  rcases q with q|q
  ·exact .inl q
  ·exact .inr (q ▸ n)
 exact B.ext (Ext.new n)
theorem Ext.free(x:Ext A H H')(n:H' p=none):H p=none:=by
 cases e:H p with
 | none=>rfl
 | some u=>rcases x.rd p u (.inl e)with h|⟨o,h⟩ <;> (rw[n]at h;cases h)
def vC(g:Lv):Ev:=λρ=>(g ρ).map .tup
def mD(g:Lv):Ev:=λρ=>(g ρ).map .lst
theorem RL.length:∀ {ds:List D} {vs:List V},RL R A H ds vs->vs.length=ds.length
 | _,_,.nil=>rfl
 | _,_,.cons _ t=>by rw[Y7,Y7,RL.length t]
noncomputable def bO(n:Nat):Bool:=decide (n<=1000000)
theorem fR(h:bO n=true):n<=YN:=ZF (of_decide_eq_true h) (by decide)
theorem AB(h:bO n=true):n<YN:=zb1 (of_decide_eq_true h) (by decide)
theorem map_some{B q:Type}{o:Option B}{f:B->q}{b:q}(h:o.map f=some b):∃a,o=some a/\f a=b:=by
 cases o with
 | none=>cases h
 | some a=>exact⟨a,rfl,ZI h⟩
def Len(g:Lv)(n:Nat):Prop:=∀ρ ds,g ρ=some ds->ds.length=n
theorem JI:Len aY 0:=λρ ds h=>by cases h;rfl
theorem DW(h:Len g n):Len (aH f g) (n+1):=λρ ds e=>by
 obtain⟨x,ex,e⟩:=bind_some e;obtain⟨xs,q,e⟩:=bind_some e;cases e;rw[Y7,h ρ xs q]
theorem FY{es:List Expr}{B}{pos:Pos}{g:Lv}(h:mE X O es g)(U:∀ρ ds,g ρ=some ds->ds.length<=100):PD X O (.Tuple es B pos) (vC g):=PE.mono (FT h) <| by
 rintro σ H Q ⟨H0,A0,A,E,ρ,d,st,e,q⟩;obtain⟨ds,N,rfl⟩:=map_some e;refine⟨H0,A0,A,E,ρ,ds,st,N,λvs H1 B J=>⟨by rw[J.length];exact ZF (U ρ ds N) (by decide),λp F=>?_⟩⟩;exact q _ _ (B.trans (Ext.new F)) (.tup aM (J.toL.ext (Ext.new F)))
theorem NG{es:List Expr}{pos:Pos}{g:Lv}(h:mE X O es g)(U:∀ρ ds,g ρ=some ds->ds.length<=100):PF X O (.List es pos) (mD g):=PE.mono (G0 h) <| by
 rintro σ H Q ⟨H0,A0,A,E,ρ,d,st,e,q⟩;obtain⟨ds,N,rfl⟩:=map_some e;refine⟨H0,A0,A,E,ρ,ds,st,N,λvs H1 F J=>⟨by rw[J.length];exact ZF (U ρ ds N) (by decide),λp B=>?_⟩⟩;exact q p _ (F.trans (Ext.new B)) (F.free B) (λz=>(st.mono F).live p z B) (.lst aM (J.toL.fresh B))
inductive rC(g:List D->Option D)(xs:List V)(H:Hp)(Q:VK):Prop
 | mk (A:Av) (ds:List D) (d:D) (lv:Live A H) (r:RL RepB A H ds xs) (e:g ds=some d) (q:∀v H',Ext A H H'->Rep A H' d v->Q v H'):rC g xs H Q
def fU(X:Cx)(f:Value)(g:List D->Option D):Prop:=CallR X f (rC g)
theorem CallR.mono(h:CallR X f r)(x:∀a H Q,r' a H Q->r a H Q):CallR X f r':=λpins s σ H a v Q I q w=>h pins s σ H a v Q I q (x a H Q w)
def aT(g:List D->Option D)(f:Lv):Ev:=λρ=>(f ρ).bind g
theorem rY(h:tD Rep O (aT g f) σ H Q):W8 (rC g) (tDA RepB O f) σ H Q:=by
 obtain⟨H0,A0,A,E,ρ,d,st,e,q⟩:=h;obtain⟨ds,N,e⟩:=bind_some e;exact⟨H0,A0,A,E,ρ,ds,st,N,λvs H1 B J=>⟨A,ds,d,(st.mono B).live,J,e,λv H2 U F=>q v H2 (B.trans U) F⟩⟩
section
variable {x:Str}{id T:String}{g:List D->Option D}{e:Expr}{es:List Expr}{f:Lv}{p pos:Pos}
theorem EB(N:fU X (.builtin id) g)(W:Gl X x)(J:X.mg x=none)(U:ZA x=some (.builtin id))(ha:vF X O (e::es) f)(Y:x ≠ "__name__" := by decide)(B:(x == ("__debug__" : Str))=false:=by decide)
  (F:YG (e::es) X.env=(false,eval e X.env)::YG es X.env:=by rfl) (q:(YO pos (YG es X.env)).any (·.1)=false:=by rfl) :
  PD X O (.Call (.Name x p) (e::es) [] pos) (aT g f):=PE.mono (vU N W J U ha Y B F q) λσ H Q h=>rY h
theorem CS(N:fU X (.type T) g)(W:Gl X x)(J:X.mg x=none)(U:ZA x=some (.type T))(ha:vF X O (e::es) f)(Y:x ≠ "__name__" := by decide)(B:(x == ("__debug__" : Str))=false:=by decide)
  (F:YG (e::es) X.env=(false,eval e X.env)::YG es X.env:=by rfl) (q:(YO pos (YG es X.env)).any (·.1)=false:=by rfl) :
  PD X O (.Call (.Name x p) (e::es) [] pos) (aT g f):=PE.mono (CT N W J U ha Y B F q) λσ H Q h=>rY h
end
def W5(n:Nat)(F:List D->Option D):Sp:=λvs H Q _=>∃A ds d,Live A H/\RepL A H ds vs/\vs.length=n/\F ds=some d/\∀v H',Ext A H H'->Rep A H' d v->Q v H'
def Fn(P:YK)(w:World)(K:YH)(mg:Str->Option Value)(base:Heap)(x:Str)(k:Nat)(ps:List Str)(F:List D->Option D):Prop:=My.Ok P w K mg base x k ps (W5 ps.length F)
theorem Fn.mono{P:YK}{w:World}{K:YH}{mg:Str->Option Value}{base:Heap}{x:Str}{j k:Nat}{ps:List Str}{F:List D->Option D}(h:Fn P w K mg base x j ps F)(l:j<=k):Fn P w K mg base x k ps F:=My.Ok.mono h l
theorem JJ(O':Fn X.prog X.w X.K X.mg X.base x k ps F)(hr:Room k X.A)(hg:Gl X x)(ha:mE X O (e::es) f)(hl:∀ρ ds,f ρ=some ds->ds.length=ps.length)(J:(x == ("__debug__" : Str))=false:=by decide)
  (Y:YG (e::es) X.env=(false,eval e X.env)::YG es X.env:=by rfl) (B:(YO pos (YG es X.env)).any (·.1)=false:=by rfl) :
  PD X O (.Call (.Name x p) (e::es) [] pos) (aT F f):=PE.mono (My.gU O' hr hg ha J Y B) λσ H Q ⟨H0,A0,A,E,ρ,d,st,e,q⟩=>by
 obtain⟨ds,W,e⟩:=bind_some e;exact⟨H0,A0,A,E,ρ,ds,st,W,λvs H1 N U=>⟨A,ds,d,(st.mono N).live,U.toL,by rw[U.length];exact hl ρ ds W,e,λv H2 x2 r2=>q v H2 (N.trans x2) r2⟩⟩
theorem IxR.mono(h:IxR X r)(x:∀a b H Q,r' a b H Q->r a b H Q):IxR X r':=λq B pins s σ H a b v u Q I J F w=>h q B pins s σ H a b v u Q I J F (x a b H Q w)
def U5:D->D->Option D
 | .lst l,.int i=>rP l i
 | .tup l,.int i=>rP l i
 | .str z,.int i=>if bO z.length then(rP z.cps.toList i).map λc=>.str ⟨#[c]⟩else none
 | _,_=>none
theorem RepL.at(r:RepL A H ds vs)(h:rP ds i=some d):∃v,rP vs i=some v/\Rep A H d v:=by
 obtain⟨j,q,J⟩:=bind_some h;obtain⟨v,F,B⟩:=r.get' J;refine⟨v,?_,B⟩;unfold rP;rw[r.length,q];exact F
theorem nn{q:Type}{a:q}{P:Prop}(h:(none:Option q)=some a):P:=nomatch h
theorem ff{P:Prop}(h:false=true):P:=nomatch h
theorem VG:IxR X (rD U5):=IxR.mono OX <| by
 rintro x y H Q ⟨A,dx,F,d,Y,U,N,e,q⟩;cases dx with
 | lst l=>
  cases F with
  | int i=>
   have:=N.int_inv;subst this;obtain⟨a,xs,rfl,h,r⟩:=U.lst_inv;obtain⟨v,B,W⟩:=r.at e;exact .inl ⟨a,xs,i,v,rfl,rfl,.inl h,B,q v H (Ext.refl _ _) W⟩
  | _=>exact nn e
 | tup l=>
  cases F with
  | int i=>
   have:=N.int_inv;subst this;obtain⟨a,xs,rfl,h,r⟩:=U.tup_inv;obtain⟨v,B,W⟩:=r.at e;exact .inr (.inl ⟨a,xs,i,v,rfl,rfl,.inl (.inl h),B,q v H (Ext.refl _ _) W⟩)
  | _=>exact nn e
 | str z=>
  cases F with
  | int i=>
   have:=N.int_inv;subst this;have:=U.str_inv;subst this;simp only[U5]at e;by_cases J:bO z.length=true
   ·rw[if_pos J]at e
    obtain⟨c,B,rfl⟩:=map_some e;exact .inr (.inr ⟨z,i,c,rfl,rfl,fR J,B,q _ H (Ext.refl _ _) (.str _)⟩)
   ·rw[if_neg J]at e;exact nn e
  | _=>exact nn e
 | _=>exact nn e
abbrev Ov:=bI->Option (Option Int)
inductive tDO(O:List Nat)(g:Ov)(σ:L2.St)(H:Hp)(Q:Option Int->Hp->Prop):Prop
 | mk (H0:Hp) (A0 A:Av) (E:List Fact) (ρ:bI) (o:Option Int) (st:ST H0 A0 A E O σ H ρ) (e:g ρ=some o) (q:∀H',Ext A H H'->Q o H'):tDO O g σ H Q
def IA(X:Cx)(O:List Nat)(e:Option Expr)(g:Ov):Prop:=PO X e (tDO O g)
theorem PO.mono(h:PO X e t)(x:∀σ H Q,t' σ H Q->t σ H Q):PO X e t':=λpins s σ H Q I w=>h pins s σ H Q I (x σ H Q w)
def BI:Ov:=λ_=>some none
noncomputable def MV:D->Option Int
 | .int i=>some i
 | _=>none
theorem wJ(h:MV d=some i):d=.int i:=by cases d <;> cases h;rfl
def kF(f:Ev):Ov:=λρ=>(f ρ).bind λd=>(MV d).map some
theorem FG:IA X O none BI:=PO.mono JR λσ H Q ⟨H0,A0,A,E,ρ,d,st,e,q⟩=>by cases e;exact q H (Ext.refl _ _)
theorem D5{e:Expr}{f:Ev}(h:PD X O e f):IA X O (some e) (kF f):=PO.mono (KN h) <| by
 rintro σ H Q ⟨H0,A0,A,E,ρ,d,st,e,q⟩;obtain⟨x,ex,e⟩:=bind_some e;obtain⟨i,F,rfl⟩:=map_some e;rw[wJ F]at ex;exact⟨H0,A0,A,E,ρ,_,st,ex,λv H1 B J=>⟨i,RepB.int_inv (.of J),q H1 B⟩⟩
def cutD(xs:List D)(lo hi:Option Int):List D:=(xs.drop (HT.sIx xs.length 0 lo)).take (HT.sIx xs.length xs.length hi-HT.sIx xs.length 0 lo)
theorem RepL.cut{ds:List D}{vs:List V}{lo hi:Option Int}(r:RepL A H ds vs):RepL A H (cutD ds lo hi) (rV vs lo hi):=by
 unfold cutD rV;rw[r.length];exact(r.drop _).take _
def LW(g:D->Option Int->Option Int->Option D)(f:Ev)(a b:Ov):Ev:=λρ=>(f ρ).bind λx=>(a ρ).bind λlo=>(b ρ).bind λhi=>g x lo hi
inductive rS(g:D->Option Int->Option Int->Option D)(x:V)(lo hi:Option Int)(H:Hp)(Q:VK):Prop
 | mk (A:Av) (dx d:D) (lv:Live A H) (r:RepB A H dx x) (e:g dx lo hi=some d) (q:∀v H',Ext A H H'->Rep A H' d v->Q v H'):rS g x lo hi H Q
inductive rSF(g:D->Option Int->Option Int->Option D)(x:V)(lo hi:Option Int)(H:Hp)(Q:VK):Prop
 | mk (A:Av) (dx d:D) (lv:Live A H) (r:RepB A H dx x) (e:g dx lo hi=some d) (q:∀a H',Ext A H H'->H a=none->¬ A a->Own (λb=>A b\/b=a) H' d a->Q (.ref a) H'):rSF g x lo hi H Q
theorem SlR.mono(h:SlR X r)(x:∀a b c H Q,r' a b c H Q->r a b c H Q):SlR X r':=λpins s σ H a v J q lo hi F Q I B hs U N w=>h pins s σ H a v J q lo hi F Q I B hs U N (x a lo hi H Q w)
def VY:D->Option Int->Option Int->Option D
 | .tup l,lo,hi=>some (.tup (cutD l lo hi))
 | _,_,_=>none
def UN:D->Option Int->Option Int->Option D
 | .lst l,lo,hi=>some (.lst (cutD l lo hi))
 | _,_,_=>none
theorem EU{lo hi:Option Expr}{g:D->Option Int->Option Int->Option D}{a b:Ov}(hr:SlR X (rS g))(W:PB X O e f)(hl:IA X O lo a)(hu:IA X O hi b):PD X O (.Subscript e (.Slice lo hi none p2) pos) (LW g f a b):=
 PE.mono (FH hr W hl hu) <| by
  rintro σ H Q ⟨H0,A0,A,E,ρ,d,st,e,q⟩;obtain⟨x,ex,e⟩:=bind_some e;obtain⟨l,el,e⟩:=bind_some e;obtain⟨h,N,e⟩:=bind_some e;exact⟨H0,A0,A,E,ρ,x,st,ex,λv H1 B r1=>⟨H0,A0,A,E,ρ,l,st.mono B,el,λH2 F=>⟨H0,A0,A,E,ρ,h,st.mono (B.trans F),N,λH3 J=>⟨A,x,d,(st.mono ((B.trans F).trans J)).live,r1.ext (F.trans J),e,λv U Y r4=>q v U (((B.trans F).trans J).trans Y) r4⟩⟩⟩⟩
theorem WE:SlR X (rS VY):=SlR.mono My.K8 <| by
 rintro x lo hi H Q ⟨A,dx,d,N,F,e,q⟩;cases dx with
 | tup l=>
  obtain⟨a,xs,rfl,h,r⟩:=F.tup_inv;cases e;by_cases w:HT.sIx xs.length 0 lo=0/\HT.sIx xs.length xs.length hi=xs.length
  ·refine .inr ⟨a,xs,rfl,.inl (.inl h),w,q _ H (Ext.refl _ _) (.tup h ?_)⟩
   have J:rV xs lo hi=xs:=by unfold rV;rw[w.1,w.2];simp
   rw[<- J];exact r.cut
  ·exact .inl ⟨a,xs,rfl,.inl (.inl h),w,λp B=>q _ _ (Ext.new B) (.tup aM (r.cut.ext (Ext.new B)))⟩
 | _=>exact nn e
theorem VV:SlR X (rSF UN):=SlR.mono IJ <| by
 rintro x lo hi H Q ⟨A,dx,d,F,J,e,q⟩;cases dx with
 | lst l=>
  obtain⟨a,xs,rfl,h,r⟩:=J.lst_inv;cases e;exact⟨a,xs,rfl,.inl h,λp B=>q p _ (Ext.new B) B (λz=>F p z B) (.lst aM (r.cut.fresh B))⟩
 | _=>exact nn e
end
inductive Out where
 | nx (ρ:bI)|rt (d:D)|bk (ρ:bI)|ct (ρ:bI)
abbrev Sv:=bI->Option Out
structure Lp where
 ob:List Nat
 oc:List Nat
def WQ(L:Lp)(H0:Hp)(A0:Av)(E:List Fact)(O':List Nat)(T:Ends):Out->Prop
 | .nx ρ=>∀A σ H,ST H0 A0 A E O' σ H ρ->T.nx σ H
 | .rt d=>∀v H,Ext A0 H0 H->Rep A0 H d v->T.rt v H
 | .bk ρ=>∀A σ H,ST H0 A0 A E L.ob σ H ρ->T.bk σ H
 | .ct ρ=>∀A σ H,ST H0 A0 A E L.oc σ H ρ->T.ct σ H
inductive tS(L:Lp)(O:List Nat)(f:Sv)(O':List Nat)(T:Ends)(σ:L2.St)(H:Hp):Prop
 | mk (H0:Hp) (A0 A:Av) (E:List Fact) (ρ:bI) (out:Out) (st:ST H0 A0 A E O σ H ρ) (e:f ρ=some out) (p:WQ L H0 A0 E O' T out):tS L O f O' T σ H
def gI(X:Cx)(L:Lp)(O:List Nat)(st:Stmt)(f:Sv)(O':List Nat):Prop:=PS X st (tS L O f O')
def cQ(X:Cx)(L:Lp)(O:List Nat)(st:List Stmt)(f:Sv)(O':List Nat):Prop:=PSs X st (tS L O f O')
section
variable {X:Cx}{L:Lp}{O O' O2:List Nat}
theorem PS.mono{st:Stmt}{t t':TS}(h:PS X st t)(x:∀T σ H,t' T σ H->t T σ H):PS X st t':=λpins s σ H T I w=>h pins s σ H T I (x T σ H w)
theorem PSs.mono{st:List Stmt}{t t':TS}(h:PSs X st t)(x:∀T σ H,t' T σ H->t T σ H):PSs X st t':=λpins s σ H T I w=>h pins s σ H T I (x T σ H w)
noncomputable def Sub(a b:List Nat):Bool:=a.all λi=>b.contains i
theorem Sub.mem(h:Sub a b=true)(i:Nat)(hi:i∈a):i∈b:=by
 have:=(List.all_eq_true.mp h) i hi;simpa using this
def BK:Sv:=λρ=>some (.nx ρ)
def eK(f g:Sv):Sv:=λρ=>(f ρ).bind λo=>match o with
 | .nx ρ'=>g ρ'
 | o=>some o
theorem A3(h:Sub O' O=true:=by rfl):cQ X L O [] BK O':=PSs.mono uJ <| by
 rintro T σ H ⟨H0,A0,A,E,ρ,B,st,e,p⟩;cases e;obtain⟨A',q⟩:=st.shut (Sub.mem h);exact p A' σ H q
theorem K2(h:tS L O (eK f g) O' T σ H):UC (tS L O f O2) (tS L O2 g O') T σ H:=by
 obtain⟨H0,A0,A,E,ρ,B,st,e,p⟩:=h;obtain⟨o,F,e⟩:=bind_some e;refine⟨H0,A0,A,E,ρ,o,st,F,?_⟩;cases o with
 | nx ρ'=>exact λA' J H' q=>⟨H0,A0,A',E,ρ',B,q,e,p⟩
 | rt d=>cases e;exact p
 | bk d=>cases e;exact p
 | ct d=>cases e;exact p
theorem D2{st:Stmt}{rest:List Stmt}{f g:Sv}(h1:gI X L O st f O2)(h2:cQ X L O2 rest g O'):cQ X L O (st::rest) (eK f g) O':=PSs.mono (lP h1 h2) λT σ H h=>K2 h
theorem aW{st:Stmt}{f:Sv}(h1:gI X L O st f O'):cQ X L O [st] f O':=o7 h1
def HY(f:Ev):Sv:=λρ=>(f ρ).map .rt
theorem KL{e:Expr}{pos:Pos}{f:Ev}(q:PD X O e f):gI X L O (.Return (some e) pos) (HY f) O':=PS.mono (qU q) <| by
 rintro T σ H ⟨H0,A0,A,E,ρ,B,st,e,p⟩;obtain⟨d,F,rfl⟩:=map_some e;exact⟨H0,A0,A,E,ρ,d,st,F,λv H' x r=>p v H' (st.mono x).ex (r.av λa ha=>.inl (st.sub a ha))⟩
def UI:Sv:=λ_=>some (.rt .non)
theorem EK{pos:Pos}:gI X L O (.Return none pos) UI O':=PS.mono IR <| by
 rintro T σ H ⟨H0,A0,A,E,ρ,q,st,e,p⟩;cases e;exact p .non H st.ex .non
def rG(f:Ev):Sv:=λρ=>(f ρ).map λ_=>.nx ρ
theorem DQ{e:Expr}{pos:Pos}{f:Ev}(B:PB X O e f)(hs:Y3 e none pos.line X.env=pure false:=by rfl)(h:Sub O' O=true:=by rfl):gI X L O (.Expr e pos) (rG f) O':=PS.mono (lU B hs) <| by
 rintro T σ H ⟨H0,A0,A,E,ρ,F,st,e,p⟩;obtain⟨d,J,rfl⟩:=map_some e;refine⟨H0,A0,A,E,ρ,d,st,J,λv H' x r=>?_⟩;obtain⟨A',q⟩:=(st.mono x).shut (Sub.mem h);exact p A' σ H' q
def pL(c:Bv)(f g:Sv):Sv:=λρ=>(c ρ).bind λb=>if b=true then f ρ else g ρ
theorem y4{c:Expr}{a b:List Stmt}{pos:Pos}{g:Bv}{f k:Sv}(N:k3 X O c g)(ha:cQ X L O a f O')(J:cQ X L O b k O'):gI X L O (.If c a b pos) (pL g f k) O':=PS.mono (HF N ha J) <| by
 rintro T σ H ⟨H0,A0,A,E,ρ,q,st,e,p⟩;obtain⟨b,F,e⟩:=bind_some e;refine⟨H0,A0,A,E,ρ,b,st,F,λH1 B=>?_⟩;cases b with
 | true=>rw[if_pos rfl]at e ⊢;exact⟨H0,A0,A,E,ρ,q,st.mono B,e,p⟩
 | false=>rw[if_neg YX]at e ⊢;exact⟨H0,A0,A,E,ρ,q,st.mono B,e,p⟩
def eL(i:Nat)(f:Ev):Sv:=λρ=>(f ρ).map λd=>.nx (ρ.set i (some d))
theorem Sub.er{a b:List Nat}{i j:Nat}(h:Sub a (b.filter (· != i))=true)(q:j∈a):j∈b/\j≠i:=by
 have:=Sub.mem h j q;rw[List.mem_filter]at this;exact⟨this.1,by simpa using this.2⟩
theorem AF{i:Nat}{x:Str}{e:Expr}{pos pos':Pos}{f:Ev}(W:X.N.Nodup)(hi:X.N[i]?=some x)(hx:Loc X.env.scope x)(J:PD X O e f)(h:Sub O' (O.filter (· != i))=true:=by rfl)
  (hs:Y3 e (some (.Name x pos')) pos.line X.env=pure false:=by rfl) (hf:X.fn x=true\/X.env.scope.names.lookup x=some .local:=by first|exact .inl rfl|exact .inr rfl):gI X L O (.Assign [.Name x pos'] e pos) (eL i f) O':=
 PS.mono (jF W hi hx J hs hf) <| by
  rintro T σ H ⟨H0,A0,A,E,ρ,U,st,e,p⟩;obtain⟨d,e1,rfl⟩:=map_some e;refine⟨H0,A0,A,E,ρ,d,st,e1,λv H' x r=>?_⟩
  -- i leaves what may be written ahead of the store: the value is borne by fewer too
  have F:=(st.mono x).more r;obtain⟨A',B⟩:=F.shut (O':=O') λj Y=>(Sub.er h Y).1
  exact p A' _ H' ((B.put (B.ext _ (YQ ..)) λz=>(Sub.er h z).2 rfl).less λq hq=>YW _ hq)
theorem Own.there:Own A H d a->H a≠none
 | .lst h _=>by rw[h];exact λz=>nomatch z
 | .dK h _ _=>by rw[h];exact λz=>nomatch z
 | .dT h _ _=>by rw[h];exact λz=>nomatch z
 | .ob h _ _=>by rw[h];exact λz=>nomatch z
theorem ST.own_put(s:ST H0 A0 A E O σ H ρ)(x:Ext A H H')(n:H a=none)(na:¬ A a)(o:Own (λb=>A b\/b=a) H' d a)(ni:i∉O) :
  ST H0 A0 (λb=>A b\/b=a) E (i::O) (σ.set i (some (.ref a))) H' (ρ.set i (some d)):=by
 have s':=s.mono x;have n0:H0 a=none:=s.ex.free n
 -- whatever was borne ahead avoids a
 have J:Ext (λb=>A b\/b=a) H H':=⟨x.rd,x.kp,λb u q e=>q.elim (λq=>x.ow b u q e) λq=>(by subst q;rw[n]at e;exact nomatch e),x.fz⟩;have ae:∀ {p:Fact},p.Holds A H->p.Holds (λb=>A b\/b=a) H':=λr=>Fact.ext J (Fact.av (A':=λb=>A b\/b=a) (λb q=>by
   rcases q with q|q
   ·exact .inl q
   ·exact .inr (q ▸ n)) r)
 have up:∀ {d:D} {v:V},Rep A H d v->Rep (λb=>A b\/b=a) H' d v:=λr=>by
  have r1:Rep (λb=>A b\/b=a) H _ _:=r.av λb q=>by
   rcases q with q|q
   ·exact .inl q
   ·exact .inr (q ▸ n)
  exact r1.ext J
 have ac:∀ {d:D} {b:Addr},A b->Own A H d b->Own (λc=>A c\/c=a) H' d b:=λq r=>by
  have r1:Own (λc=>A c\/c=a) H _ _:=r.av λb q=>by
   rcases q with q|q
   ·exact .inl q
   ·exact .inr (q ▸ n)
  exact r1.ext J (.inl q)
 have ha:H' a≠none:=o.there;refine⟨s'.ex,λb q=>.inl (s.sub b q),s.l0,λb q=>?_,by simp[s.len],λj d' h' Y=>?_,λj d' h' Y=>?_,λj k d1 d2 b hj hk h1 h2 F W=>?_,λp hp=>ae (s.ext p hp)⟩
 ·rcases q with q|q
  ·exact s'.live b q
  ·subst q;exact ha
 ·rcases cK h' with⟨e,B,l⟩|⟨e,B⟩
  ·exact absurd (List.mem_cons.mpr (.inl e)) Y
  ·obtain⟨w,h1,h2⟩:=s.val j d' B λz=>Y (YW _ z)
   exact⟨w,by rw[eZ e];exact h1,up h2⟩
 ·rcases cK h' with⟨e,B,l⟩|⟨e,B⟩
  ·subst e;cases B
   exact⟨a,sig_set (by rw[s.len];exact l),.inr rfl,n0,o⟩
  ·rcases List.mem_cons.mp Y with z|z
   ·exact absurd z e
   ·obtain⟨w,h1,h2,F,W⟩:=s.own j d' B z
    exact⟨w,by rw[eZ e];exact h1,.inl h2,F,ac h2 W⟩
 ·have N:∀ {j:Nat} {d1:D},j∈i::O->(ρ.set i (some d))[j]?=some (some d1)->(σ.set i (some (.ref a)))[j]?=some (some (.ref b))->(j=i/\b=a)\/(j≠i/\j∈O/\ρ[j]?=some (some d1)/\σ[j]?=some (some (.ref b))/\b≠a):=by
   intro j d1 hj h1 F;rcases cK h1 with⟨e,B,l⟩|⟨e,B⟩
   ·subst e
    rw[sig_set (by rw[s.len];exact l)]at F;cases F;exact .inl ⟨rfl,rfl⟩
   ·rcases List.mem_cons.mp hj with z|z
    ·exact absurd z e
    ·rw[eZ e]at F
     obtain⟨w,q1,q2,_⟩:=s.own j d1 B z;rw[F]at q1;cases q1;exact .inr ⟨e,z,B,F,λz=>na (z ▸ q2)⟩
  rcases N hj h1 F with⟨e1,B⟩|⟨e1,B,e3,e4,e5⟩
  ·rcases N hk h2 W with⟨f1,U⟩|⟨f1,U,f3,f4,f5⟩
   ·rw[e1,f1]
   ·exact absurd B f5
  ·rcases N hk h2 W with⟨f1,U⟩|⟨f1,U,f3,f4,f5⟩
   ·exact absurd U e5
   ·exact s.inj j k d1 d2 b B U e3 f3 e4 f4
theorem FJ{i:Nat}{x:Str}{e:Expr}{pos pos':Pos}{f:Ev}(J:X.N.Nodup)(hi:X.N[i]?=some x)(Y:Loc X.env.scope x)(B:PF X O e f)(h:Sub O' (i::O)=true:=by rfl)(hn:O.contains i=false:=by rfl)
  (hs:Y3 e (some (.Name x pos')) pos.line X.env=pure false:=by rfl) (hf:X.fn x=true\/X.env.scope.names.lookup x=some .local:=by first|exact .inl rfl|exact .inr rfl):gI X L O (.Assign [.Name x pos'] e pos) (eL i f) O':=
 PS.mono (jF J hi Y B hs hf) <| by
  rintro T σ H ⟨H0,A0,A,E,ρ,F,st,e,p⟩;obtain⟨d,e1,rfl⟩:=map_some e;refine⟨H0,A0,A,E,ρ,d,st,e1,λa H' x n na o=>?_⟩;have W:i∉O:=λz=>by
   have:O.contains i=true:=by simpa using z
   rw[hn]at this;cases this
  obtain⟨U,q⟩:=(st.own_put x n na o W).shut (Sub.mem h);exact p U _ H' q
theorem Ext.upN{A:Av}{H H':Hp}{D:Addr}{o:HO}(x:Ext A H H')(n:H D=none):Ext A H (upd H' D o):=by
 have B:∀b,H b≠none->b≠D:=λb F z=>F (by rw[z];exact n)
 exact⟨λb w r=>kR (B b (by rcases r with r|⟨_,r⟩ <;> (rw[r];exact λz=>nomatch z))) (x.rd b w r),
  λb xs k r=>by rw[aK (B b (by rw[r];exact λz=>nomatch z))];exact x.kp b xs k r,
  λb w n r=>by rw[aK (B b (by rw[r];exact λz=>nomatch z))];exact x.ow b w n r,
  λb q w r=>by rw[aK (B b (by rw[r];exact λz=>nomatch z))];exact x.fz b q w r⟩
theorem ST.write(s:ST H0 A0 A E O σ H ρ)(hi:ρ[i]?=some (some d))(Y:i∈O)(hs:σ[i]?=some (some (.ref a)))(ha:A a)(h0:H0 a=none)(W:H a=some u)(N:RC u)(hn:Own A (upd H a o) d' a) :
  ST H0 A0 A E O σ (upd H a o) (ρ.set i (some d')):=by
 refine⟨s.ex.upN h0,s.sub,s.l0,λb hb=>?_,by simp[s.len],λj d2 h' B=>?_,λj d2 h' B=>?_,λj k d1 d2 b hj hk h1 h2 J U=>?_,λp hp=>Fact.put ha W N (s.ext p hp)⟩
 ·by_cases e:b=a
  ·subst e;rw[aM];exact λz=>nomatch z
  ·rw[aK e];exact s.live b hb
 ·rcases cK h' with⟨e,q,l⟩|⟨e,q⟩
  ·subst e;exact absurd Y B
  ·obtain⟨w,h1,h2⟩:=s.val j d2 q B
   exact⟨w,h1,h2.put ha W N⟩
 ·rcases cK h' with⟨e,q,l⟩|⟨e,q⟩
  ·subst e;cases q;exact⟨a,hs,ha,h0,hn⟩
  ·obtain⟨b,h1,h2,J,U⟩:=s.own j d2 q B
   refine⟨b,h1,h2,J,U.put ha W N λz=>?_⟩;subst z;exact e (s.inj j i d2 d b B Y q hi h1 hs)
 ·have F:∀ {j:Nat} {d1:D},(ρ.set i (some d'))[j]?=some (some d1)->∃d0,ρ[j]?=some (some d0):=by
   intro j d1 h;rcases cK h with⟨e,_,_⟩|⟨_,e⟩
   ·subst e;exact⟨d,hi⟩
   ·exact⟨d1,e⟩
  obtain⟨x,hx⟩:=F h1;obtain⟨y,hy⟩:=F h2;exact s.inj j k x y b hj hk hx hy J U
noncomputable def mem(O:List Nat)(i:Nat):Bool:=O.contains i
theorem cN(h:mem O i=true):i∈O:=by simpa[mem]using h
def zI(i:Nat)(f:Ev):Sv:=λρ=>(aE i ρ).bind λx=>match x with
 | .lst l=>(f ρ).bind λd=>if bO l.length then some (.nx (ρ.set i (some (.lst (l++[d])))))else none
 | _=>none
theorem yB{o e:Expr}{i:Nat}{apos cpos pos:Pos}{f:Ev}(ho:PE X o (d6 i))(he:PD X O e f)(J:mem O i=true)(W:PE X (.Call (.Attribute o "append" apos) [e] [] cpos) (RH X.K "list" uE (d6 i) (rH (tD Rep O f) HL)))
  (hs:Y3 (.Call (.Attribute o "append" apos) [e] [] cpos) none pos.line X.env=pure false:=by rfl) (h:Sub O' O=true:=by rfl):gI X L O (.Expr (.Call (.Attribute o "append" apos) [e] [] cpos) pos) (zI i f) O':=
 PS.mono (lU W hs) <| by
  rintro T σ H ⟨H0,A0,A,E,ρ,ac,st,e,p⟩;obtain⟨x,ex,e⟩:=bind_some e;cases x with
  | lst l=>
   obtain⟨d,Y,e⟩:=bind_some e;by_cases B:bO l.length=true
   ·rw[if_pos B]at e
    cases e;obtain⟨a,U,q,e3,e4⟩:=st.own i _ (aQ ex) (cN J);cases e4 with
    | lst h4 r4=>
     refine⟨_,U,.inl ⟨rfl,_,SqL.of h4⟩,H0,A0,A,E,ρ,d,st,Y,λv H' x r=>⟨a,_,v,rfl,rfl,x.ow _ _ q h4,by rw[r4.length];exact AB B,?_⟩⟩;have N:=x.ow _ _ q h4;obtain⟨A',F⟩:=((st.mono x).write (o:=.lst _) (aQ ex) (cN J) U q e3 N trivial (.lst aM (((r4.ext x).append (.cons r .nil)).put q N trivial))).shut (Sub.mem h);exact p A' σ _ F
   ·rw[if_neg B]at e;cases e
  | _=>exact nn e
def W0:D->Option Key
 | .int i=>some (.inl i)
 | .str x=>some (.inr x)
 | _=>none
def Q5:List D->Option (List Key)
 | []=>some []
 | d::ds=>(W0 d).bind λk=>(Q5 ds).bind λks=>some (k::ks)
def XD:D->Option (List Key)
 | .tup l=>Q5 l
 | _=>none
noncomputable def xK{κ:Type}[DecidableEq κ](l:List (κ×D))(k:κ):Option D:=(l.find? λp=>decide (p.1=k)).map (·.2)
end
section
variable {A:Av}{H:Hp}
section
variable {κ:Type}[DecidableEq κ]
abbrev PP(A:Av)(H:Hp):List (κ×D)->List (κ×V)->Prop:=Paired λ(p:κ×D) (q:κ×V)=>p.1=q.1/\Rep A H p.2 q.2
theorem HB:∀ {l:List (κ×D)} {xs:List (κ×V)},xs.map (·.1)=l.map (·.1)->RepL A H (l.map (·.2)) (xs.map (·.2))->PP A H l xs
 | [],[],_,_=>.nil
 | [],_::_,e,_=>by cases e
 | _::_,[],e,_=>by cases e
 | p::l,q::xs,e,r=>by
  rw[Y4,Y4]at e r;injection e with e1 e2
  cases r with
  | cons h t=>exact .cons ⟨e1.symm,h⟩ (HB e2 t)
theorem FS(k:κ)(h:PP A H l xs):(xK l k=none/\oP xs k=none)\/∃d v,xK l k=some d/\oP xs k=some v/\Rep A H d v:=by
 induction h with
 | nil=>exact .inl ⟨rfl,rfl⟩
 | @cons p q l xs h t ih=>
  by_cases e:p.1=k
  ·refine .inr ⟨p.2,q.2,?_,lM (h.1 ▸ e),h.2⟩
   simp[xK,zad,e]
  ·have B:¬ q.1=k:=λz=>e (h.1.trans z)
   have a:xK (p::l) k=xK l k:=by simp[xK,zad,e]
   rw[a,lQ B];exact ih
end
theorem zZ(h:W0 d=some k)(r:RepB A H d v):v=kV k:=by
 cases d <;> cases h
 ·exact r.int_inv
 ·exact r.str_inv
theorem vV:∀ {ds:List D} {ks:List Key} {vs:List V},Q5 ds=some ks->RepL A H ds vs->vs=ks.map kV
 | _,_,_,h,.nil=>by cases h;rfl
 | _,_,_,h,.cons r t=>by
  obtain⟨k,q,h⟩:=bind_some h;obtain⟨ks,B,h⟩:=bind_some h;cases h;rw[Y4,zZ q (.of r),vV B t]
theorem J0(h:XD d=some k)(r:RepB A H d v):∃b,v=.ref b/\H b=some (.tup (k.map kV)):=by
 cases d <;> try cases h
 rename_i l;obtain⟨a,xs,rfl,h1,h2⟩:=r.tup_inv;exact⟨a,rfl,by rw[h1,vV h h2]⟩
def lZ:D->D->Option (Option D)
 | .dK l,k=>(W0 k).map λk=>xK l k
 | .dT l,k=>(XD k).map λk=>xK l k
 | _,_=>none
theorem qM{d k:D}{x y:V}{o:Option D}(h:lZ d k=some o)(N:RepB A H d x)(J:RepB A H k y):∃a F,x=.ref a/\X7 H a/\DI H a y F/\((o=none/\F=none)\/∃z v,o=some z/\F=some v/\Rep A H z v):=by
 cases d with
 | dK l=>
  obtain⟨q,B,rfl⟩:=map_some h;obtain⟨a,xs,rfl,h1,e,r⟩:=N.dK_inv;have:=zZ B J;subst this;refine⟨a,_,rfl,.inl ⟨xs,h1⟩,.inl ⟨xs,q,h1,rfl,rfl⟩,FS q (HB e r)⟩
 | dT l=>
  obtain⟨q,B,rfl⟩:=map_some h;obtain⟨a,xs,rfl,h1,e,r⟩:=N.dT_inv;obtain⟨b,rfl,U⟩:=J0 B J;exact⟨a,_,rfl,.inr ⟨xs,h1⟩,.inr ⟨xs,q,b,h1,rfl,U,rfl⟩,FS q (HB e r)⟩
 | _=>exact nn h
end
section
variable {X:Cx}{O O':List Nat}{L:Lp}
theorem PE.or(h:PE X e t)(k:PE X e u):PE X e (λσ H Q=>t σ H Q\/u σ H Q):=λpins s σ H Q I w=>w.elim (h pins s σ H Q I) (k pins s σ H Q I)
def aO(d k:D):Option D:=match d with
 | .dK _=>(lZ d k).join
 | .dT _=>(lZ d k).join
 | _=>U5 d k
theorem pS{q:Type}{o:Option (Option q)}{d:q}(h:o.join=some d):o=some (some d):=by
 cases o with
 | none=>cases h
 | some o=>cases o with
  | none=>cases h
  | some x=>cases h;rfl
theorem wM{N F:Ev}{σ:L2.St}{H:Hp}{Q:VK}(h:tD Rep O (aR (λd k=>(lZ d k).join) N F) σ H Q):L3 (tD RepB O N) (tD RepB O F) σ H Q:=by
 obtain⟨H0,A0,A,E,ρ,d,st,e,q⟩:=h;obtain⟨x,ex,e⟩:=bind_some e;obtain⟨y,ey,e⟩:=bind_some e;refine⟨H0,A0,A,E,ρ,x,st,ex,λv H1 J r1=>⟨H0,A0,A,E,ρ,y,st.mono J,ey,λw H2 U Y=>?_⟩⟩;obtain⟨a,ov,e1,_,g,B⟩:=qM (pS e) (r1.ext U) Y;rcases B with⟨B,_⟩|⟨z,W,B,e3,r3⟩
 ·cases B
 ·cases B;subst e3
  exact⟨a,W,e1,g,q W H2 (J.trans U) r3⟩
theorem z6(U:X.A.units+1<cLine)(ha:PB X O a fa)(J:PB X O b fb)(hs:uC b):PD X O (.Subscript a b pos) (aR aO fa fb):=
 PE.mono (PE.or (SD VG ha J hs) (KD U ha J hs)) <| by
  rintro σ H Q ⟨H0,A0,A,E,ρ,d,st,e,q⟩;obtain⟨x,ex,F⟩:=bind_some e;obtain⟨y,N,F⟩:=bind_some F;have B:∀g:D->D->Option D,g x y=some d->tD Rep O (aR g fa fb) σ H Q:=λg h=>⟨H0,A0,A,E,ρ,d,st,by unfold aR;rw[ex,N];exact h,q⟩
  cases x with
  | dK l=>exact .inr (wM (B _ F))
  | dT l=>exact .inr (wM (B _ F))
  | _=>exact .inl (u0 (B U5 F))
theorem PS.or{st:Stmt}{t u:TS}(h:PS X st t)(k:PS X st u):PS X st (λT σ H=>t T σ H\/u T σ H):=λpins s σ H T I w=>w.elim (h pins s σ H T I) (k pins s σ H T I)
noncomputable def DO(g:Int->Int->Option D):D->D->Option D
 | .int i,.int j=>g i j
 | _,_=>none
theorem qL(h:DO g x y=some d):∃i j,x=.int i/\y=.int j/\g i j=some d:=by
 cases x with
 | int i=>
  cases y with
  | int j=>exact⟨_,_,rfl,rfl,h⟩
  | _=>exact nn h
 | _=>exact nn h
theorem uT{f:Value->Value->Sem Value}{C:Int->Int->Prop}[∀i j,Decidable (C i j)]{g:Int->Int->Int}(h:OpR X f (rI C λi j=>.int (g i j))):iK X f (DO λi j=>if C i j then some (.int (g i j))else none):=
 OpR.mono h <| by
  rintro x y H Q ⟨A,dx,U,d,W,N,J,e,q⟩;obtain⟨i,j,rfl,rfl,B⟩:=qL e;have:=N.int_inv;subst this;have:=J.int_inv;subst this;by_cases F:C i j
  ·rw[if_pos F]at B;cases B
   exact⟨i,j,rfl,rfl,F,q _ H (Ext.refl _ _) (.int _)⟩
  ·rw[if_neg F]at B;cases B
theorem J7{f:Value->Value->Sem Value}{g:Int->Int->Int}(h:OpR X f (HX λi j=>.int (g i j))):iK X f (DO λi j=>some (.int (g i j))):=
 OpR.mono h <| by
  rintro x y H Q ⟨A,dx,J,d,N,B,F,e,q⟩;obtain⟨i,j,rfl,rfl,e⟩:=qL e;have:=B.int_inv;subst this;have:=F.int_inv;subst this;cases e;exact⟨i,j,rfl,rfl,q _ H (Ext.refl _ _) (.int _)⟩
theorem wA{f:Value->Value->Sem Value}{g:Int->Int->Bool}(h:OpR X f (HX λi j=>.bl (g i j))):iK X f (DO λi j=>some (.bl (g i j))):=
 OpR.mono h <| by
  rintro x y H Q ⟨A,dx,J,d,N,B,F,e,q⟩;obtain⟨i,j,rfl,rfl,e⟩:=qL e;have:=B.int_inv;subst this;have:=F.int_inv;subst this;cases e;exact⟨i,j,rfl,rfl,q _ H (Ext.refl _ _) (.bl _)⟩
instance:∀i j,Decidable (My.UH i j):=λi j=>by unfold My.UH;infer_instance
instance:∀i j,Decidable (LU i j):=λi j=>by unfold LU;infer_instance
instance:∀i j,Decidable (LS i j):=λi j=>by unfold LS;infer_instance
def mT:D->D->Option D:=DO λi j=>some (.int (i-j))
def iA:D->D->Option D:=DO λi j=>if 0<j then some (.int (i%j))else none
def oQ:D->D->Option D:=DO λi j=>if LU i j then some (.int (i/j))else none
def LP:D->D->Option D:=DO λi j=>if LS i j then some (.int (i^j.toNat))else none
def DC:D->D->Option D:=DO λi j=>some (.bl (decide (j<i)))
def Q3:D->D->Option D:=DO λi j=>some (.bl (decide (j<=i)))
theorem GY:iK X (ZC .Sub) mT:=J7 OU
theorem qY:iK X (ZC .Mod) iA:=uT OE
theorem OW:iK X (ZC .FloorDiv) oQ:=uT JX
theorem NQ:iK X (ZC .Pow) LP:=uT OK
theorem RS:iK X (YR .Gt) DC:=wA S2
theorem TC:iK X (YR .GtE) Q3:=wA RQ
def QX(f:Ev):Ev:=λρ=>(f ρ).bind λd=>(MV d).map λi=>.int (-i)
end
section
variable {X:Cx}{L:Lp}{O O':List Nat}
def xQ:Sv:=λ_=>none
theorem CQ{st:Stmt}:gI X L O st xQ O':=λ_ _ _ _ _ _ ⟨_,_,_,_,_,_,_,e,_⟩=>nomatch e
abbrev Gv:=D->bI->Option bI
inductive tDG(O:List Nat)(g:Gv)(v:V)(σ:L2.St)(H:Hp)(Q:L2.St->Hp->Prop):Prop
 | mk (H0:Hp) (A0 A:Av) (E:List Fact) (ρ:bI) (d:D) (ρ':bI) (st:ST H0 A0 A E O σ H ρ) (r:Rep A H d v) (e:g d ρ=some ρ') (q:∀σ',ST H0 A0 A E O σ' H ρ'->Q σ' H):tDG O g v σ H Q
def BL(X:Cx)(O:List Nat)(tg:Expr)(g:Gv):Prop:=PG X tg (tDG O g)
abbrev RD:=List D->bI->Option bI
inductive tDGs(O:List Nat)(g:RD)(vs:List V)(σ:L2.St)(H:Hp)(Q:L2.St->Hp->Prop):Prop
 | mk (H0:Hp) (A0 A:Av) (E:List Fact) (ρ:bI) (ds:List D) (ρ':bI) (st:ST H0 A0 A E O σ H ρ) (r:RepL A H ds vs) (e:g ds ρ=some ρ') (q:∀σ',ST H0 A0 A E O σ' H ρ'->Q σ' H):tDGs O g vs σ H Q
def zM(X:Cx)(O:List Nat)(q:List Expr)(g:RD):Prop:=PGs X q (tDGs O g)
theorem PG.mono(h:PG X tg t)(x:∀v σ H Q,t' v σ H Q->t v σ H Q):PG X tg t':=λpins s σ H v u Q I r w=>h pins s σ H v u Q I r (x v σ H Q w)
theorem PGs.mono(h:PGs X ts t)(x:∀v σ H Q,t' v σ H Q->t v σ H Q):PGs X ts t':=λpins s σ H v u Q I r w=>h pins s σ H v u Q I r (x v σ H Q w)
def a7(i:Nat):Gv:=λd ρ=>some (ρ.set i (some d))
theorem v5(h:PG X tg (kG i))(n:O.contains i=false:=by rfl):BL X O tg (a7 i):=PG.mono h <| by
 rintro v σ H Q ⟨H0,A0,A,E,ρ,d,ρ',st,r,e,q⟩;cases e;exact q _ (st.put r λz=>by
  have:O.contains i=true:=by simpa using z
  rw[n]at this;cases this)
def l5:RD:=λds ρ=>match ds with
 | []=>some ρ
 | _=>none
def cG(g:Gv)(k:RD):RD:=λds ρ=>match ds with
 | d::ds=>(g d ρ).bind λρ'=>k ds ρ'
 | _=>none
theorem EX:zM X O [] l5:=PGs.mono K1 <| by
 rintro v σ H Q ⟨H0,A0,A,E,ρ,ds,ρ',st,r,e,q⟩;cases r with
 | nil=>cases e;exact⟨rfl,q _ st⟩
 | cons _ _=>cases e
theorem BP(F:∀ {t:TG} {u:Q8},PG X e t->PGs X es u->PGs X (e::es) (L7 t u))(h1:BL X O e g)(h2:zM X O es k):zM X O (e::es) (cG g k):=
 PGs.mono (F h1 h2) <| by
  rintro v σ H Q ⟨H0,A0,A,E,ρ,ds,ρ',st,r,e,q⟩;cases r with
  | nil=>cases e
  | cons h t=>
   obtain⟨ρ1,N,e⟩:=bind_some e;exact⟨_,_,rfl,H0,A0,A,E,ρ,_,ρ1,st,h,N,λJ B=>⟨H0,A0,A,E,ρ1,_,ρ',B,t,e,q⟩⟩
def iI(n:Nat)(k:RD):Gv:=λd ρ=>match d with
 | .tup l=>if l.length=n then k l ρ else none
 | _=>none
theorem J8(J:PG X tg (UL X.K n (tDGs O k))):BL X O tg (iI n k):=PG.mono J <| by
 rintro v σ H Q ⟨H0,A0,A,E,ρ,d,ρ',st,r,e,q⟩;cases d with
 | tup l=>
  obtain⟨a,xs,rfl,h,F⟩:=RepB.tup_inv (.of r);by_cases B:l.length=n
  ·simp only[iI,if_pos B]at e
   exact⟨a,xs,rfl,.inl (.inl h),by rw[F.length];exact B,H0,A0,A,E,ρ,l,ρ',st,F,e,q⟩
  ·simp only[iI,if_neg B]at e;cases e
 | _=>exact nn e
def QS(f:Ev)(g:Gv):Sv:=λρ=>(f ρ).bind λd=>(g d ρ).map .nx
def zK(J:It)(q:List Fact)(items:List D):Prop:=
 ∀(A:Av) (H:Hp),Live A H->(∀p∈q,p.Holds A H)->∀i,(items.length<=i->J.stop i H)/\∀d,items[i]?=some d->J.go i H/\∀x H',J.yld i H x H'->Ext A H H'/\Rep A H' d x
inductive tDI(O:List Nat)(f:Lv)(σ:L2.St)(H:Hp)(R:It->Hp->Prop):Prop
 | mk (H0:Hp) (A0 A:Av) (E:List Fact) (ρ:bI) (items:List D) (st:ST H0 A0 A E O σ H ρ) (e:f ρ=some items) (q:∀J H' E1,Ext A H H'->(∀p∈E1,p.Holds A H')->zK J E1 items->R J H'):tDI O f σ H R
def PDI(X:Cx)(O:List Nat)(tg e:Expr)(f:Lv):Prop:=PI X tg e (tDI O f)
theorem PI.mono(h:PI X tg e t)(x:∀σ H Q,t' σ H Q->t σ H Q):PI X tg e t':=λpins s σ H Q I w=>h pins s σ H Q I (x σ H Q w)
theorem PI.or(h:PI X tg e t)(k:PI X tg e u):PI X tg e (λσ H Q=>t σ H Q\/u σ H Q):=λpins s σ H Q I w=>w.elim (h pins s σ H Q I) (k pins s σ H Q I)
theorem J4{a:Addr}{l:List D}{K:YH}:zK (W9 K a) [.rep (.lst l) (.ref a)] l:=by
 intro A H N h i;have r:Rep A H (.lst l) (.ref a):=h _ (List.mem_singleton.mpr rfl);obtain⟨a',xs,e,h1,q⟩:=RepB.lst_inv (.of r);cases e;refine⟨λhi=>⟨xs,.inl h1,by rw[q.length];exact hi⟩,λd J=>?_⟩;obtain⟨v,B,F⟩:=q.get' J;refine⟨⟨xs,v,.inl h1,B⟩,λx H' y=>?_⟩;obtain⟨rfl,y⟩:=y;have:=y xs (.inl h1);rw[B]at this;cases this;exact⟨Ext.refl _ _,F⟩
theorem OY{a:Addr}{l:List D}{K:YH}:zK (W1 K a) [.rep (.tup l) (.ref a)] l:=by
 intro A H N h i;have r:Rep A H (.tup l) (.ref a):=h _ (List.mem_singleton.mpr rfl);obtain⟨a',xs,e,h1,q⟩:=RepB.tup_inv (.of r);cases e;refine⟨λhi=>⟨xs,.inl (.inl h1),by rw[q.length];exact hi⟩,λd J=>?_⟩;obtain⟨v,B,F⟩:=q.get' J;refine⟨⟨xs,v,.inl (.inl h1),B⟩,λx H' y=>?_⟩;obtain⟨rfl,y⟩:=y;have:=y xs (.inl (.inl h1));rw[B]at this;cases this;exact⟨Ext.refl _ _,F⟩
noncomputable def bU(lo c:Int)(n:Nat):List D:=(Z6 n).map λ(i:Nat)=>.int (lo+(i:Int)*c)
theorem dN(lo c:Int)(n:Nat):(bU lo c n).length=n:=by simp[bU]
theorem eX{lo c:Int}{n i:Nat}(h:(bU lo c n)[i]?=some d):i<n/\d=.int (lo+(i:Int)*c):=by
 unfold bU at h;rw[ZJ]at h;by_cases hi:i<n
 ·rw[zcK hi]at h;cases h;exact⟨hi,rfl⟩
 ·rw[List.getElem?_eq_none (by simpa using hi)]at h;cases h
theorem CZ{lo c:Int}{n:Nat}:zK (My.Q0 lo c n) [] (bU lo c n):=by
 intro A H B h i;refine⟨λhi=>by rw[dN]at hi;exact hi,λd q=>?_⟩;obtain⟨hi,rfl⟩:=eX q;exact⟨hi,λx H' ⟨e,y⟩=>by subst e y;exact⟨Ext.refl _ _,.int _⟩⟩
theorem EZ{lo:Int}{n:Nat}:zK (VA lo n) [] (bU lo 1 n):=by
 intro A H B h i;refine⟨λhi=>by rw[dN]at hi;exact hi,λd q=>?_⟩;obtain⟨hi,rfl⟩:=eX q;exact⟨hi,λx H' ⟨e,y⟩=>by subst e y;rw[Int.mul_one];exact⟨Ext.refl _ _,.int _⟩⟩
noncomputable def oF(i:Int):Bool:=decide (-1000000<=i) && decide (i<=1000000)
def fS:List D->Option (List D)
 | [.int j]=>if oF j then some (bU 0 1 j.toNat)else none
 | _=>none
def jR:List D->Option (List D)
 | [.int i,.int j,.int c]=>if c≠0/\c.natAbs<1000/\zcH i j c=true then some (bU i c (My.rsz i j c))else none
 | _=>none
theorem vW(h:oF i=true):-(2^62)<=i/\i<2^62:=by
 simp only[oF,ZK,decide_eq_true_eq]at h
 lia
def lR(g:List D->Option (List D))(f:Lv):Lv:=λρ=>(f ρ).bind g
theorem RL.one(r:RL R A H [d] vs):∃v,vs=[v]/\R A H d v:=by
 cases r with|cons h t=>cases t;exact⟨_,rfl,h⟩
theorem RL.two(r:RL R A H [d,e] vs):∃v w,vs=[v,w]/\R A H d v/\R A H e w:=by
 cases r with|cons h t=>obtain⟨w,rfl,h2⟩:=RL.one t;exact⟨_,w,rfl,h,h2⟩
theorem RL.three(r:RL R A H [d,e,f] vs):∃v w u,vs=[v,w,u]/\R A H d v/\R A H e w/\R A H f u:=by
 cases r with|cons h t=>obtain⟨w,u,rfl,h2,q⟩:=RL.two t;exact⟨_,w,u,rfl,h,h2,q⟩
theorem tW(h:fS ds=some l):∃j,ds=[.int j]/\oF j=true/\l=bU 0 1 j.toNat:=by
 unfold fS at h;split at h
 ·split at h
  ·cases h;exact⟨_,rfl,by assumption,rfl⟩
  ·cases h
 ·cases h
theorem tU(h:jR ds=some l):∃i j c,ds=[.int i,.int j,.int c]/\(c≠0/\c.natAbs<1000/\zcH i j c=true)/\l=bU i c (My.rsz i j c):=by
 unfold jR at h;split at h
 ·split at h
  ·cases h;exact⟨_,_,_,rfl,by assumption,rfl⟩
  ·cases h
 ·cases h
section
variable {tg a b c:Expr}{f:Lv}{p pos:Pos}
theorem xU(U:Gl X "range")(F:X.mg "range" = none)(ha:vF X O [a] f)(hs:YG [a] X.env=[(false,eval a X.env)]:=by rfl):PDI X O tg (.Call (.Name "range" p) [a] [] pos) (lR fS f):=PI.mono (B3 U F ha hs) <| by
 rintro σ H R ⟨H0,A0,A,E,ρ,items,st,e,q⟩;obtain⟨ds,N,e⟩:=bind_some e;refine⟨H0,A0,A,E,ρ,ds,st,N,λvs H1 B J=>?_⟩;obtain⟨j,rfl,h,rfl⟩:=tW e;obtain⟨v,rfl,h1⟩:=J.one;have:=h1.int_inv;subst this;exact⟨j,rfl,(vW h).1,(vW h).2,q _ H1 [] B (λ_ h=>nomatch h) EZ⟩
theorem xT(hg:Gl X "range")(N:X.mg "range" = none)(ha:vF X O [a,b,c] f)(hs:YG [a,b,c] X.env=[(false,eval a X.env),(false,eval b X.env),(false,eval c X.env)]:=by rfl)(B:YG [b,c] X.env=[(false,eval b X.env),(false,eval c X.env)]:=by rfl):PDI X O tg (.Call (.Name "range" p) [a,b,c] [] pos) (lR jR f):=PI.mono (My.CO hg N ha hs B) <| by
 rintro σ H R ⟨H0,A0,A,E,ρ,items,st,e,q⟩;obtain⟨ds,Y,e⟩:=bind_some e;refine⟨H0,A0,A,E,ρ,ds,st,Y,λvs H1 F W=>?_⟩;obtain⟨i,j,U,rfl,h,rfl⟩:=tU e;obtain⟨v,w,u,rfl,h1,h2,J⟩:=W.three;have:=h1.int_inv;subst this;have:=h2.int_inv;subst this;have:=J.int_inv;subst this;exact⟨i,j,U,rfl,h,q _ H1 [] F (λ_ h=>nomatch h) CZ⟩
end
def DD:Key->D
 | .inl i=>.int i
 | .inr x=>.str x
def HJ(f:Ev):Lv:=λρ=>(f ρ).bind λd=>match d with
 | .lst l=>some l
 | .tup l=>some l
 | .dT l=>some (l.map λp=>.tup (p.1.map DD))
 | _=>none
theorem qF:∀k:List Key,RepL A H (k.map DD) (k.map kV)
 | []=>.nil
 | .inl i::k=>.cons (.int i) (qF k)
 | .inr x::k=>.cons (.str x) (qF k)
def OI(tl:TE):TI:=λσ H R=>tl σ H λx H1=>∃d kvs,x=.ref d/\((H1 d=some (.dT kvs)/\∀o,R (My.UT d o kvs) (upd H1 d (.frz o (.dT kvs))))\/∃o,H1 d=some (.frz o (.dT kvs))/\R (My.UT d o kvs) H1)
theorem E7(hl:PE X l tl):PI X tg l (OI tl):=by
 intro pins s σ H R I h;refine bL (hl pins s σ H _ I h) λv B ⟨x,H1,W,F,q1⟩=>?_
 obtain⟨d,kvs,rfl,q⟩:=q1;cases F;have N:∀(o:Obj) (H2:Hp),(d == zas)=false->Inv X pins σ H2 B->B.heap.get? d=some o->ObjOk X.prog X.w H2 B.heap d (.dT kvs)->R (My.UT d o kvs) H2->wpAny (model X.prog X.w) X.A (pyIter (.ref d)) (PIE X pins σ tg R) X.xe B:=λo H2 lo J ho ok q=>by
  obtain⟨_,_,es,ep,⟨o',F,r2,r3⟩,U,_⟩:=My.qT ok;rw[ho]at F;cases F;refine My.EN lo ⟨o,ho,r2,r3⟩ ?_;refine⟨B.heap.objs.size,[B.heap.objs.size],_,_,_,rfl,J.kept (t':=B.toks) λb o e=>YY _ e,My.CV d _ o kvs es ep r3 U,⟨_,Y8 _ rfl,rfl,rfl⟩,λb hb=>?_,q⟩;have e:b=B.heap.objs.size:=by simpa using hb
  subst e;exact J.fpOk (YS _) (J.hok.fresh (YS _))
 rcases q with⟨Y,q⟩|⟨o,Y,q⟩
 ·have ok:=(show ObjOk X.prog X.w H1 B.heap d (.dT kvs)from W.hok d _ Y)
  obtain⟨lo,_,es,ep,⟨o,F,r2,r3⟩,U,_⟩:=My.qT ok;have J:=My.yE W Y F;have ab:=(show ObjOk X.prog X.w _ B.heap d (.frz o (.dT kvs))from J.hok d _ aM);exact N o _ lo J F ab.2 (q o)
 ·have ok:=(show ObjOk X.prog X.w H1 B.heap d (.frz o (.dT kvs))from W.hok d _ Y)
  obtain⟨lo,_⟩:=My.qT ok.2;exact N o H1 lo W ok.1 ok.2 q
theorem AK{a:Addr}{o:Obj}{xs:List (List Key×V)}{l:List (List Key×D)}(e:xs.map (·.1)=l.map (·.1)):zK (My.UT a o xs) [.fz a o (.dT xs)] (l.map λp=>.tup (p.1.map DD)):=by
 intro A H Y h i;have B:H a=some (.frz o (.dT xs)):=h _ (List.mem_singleton.mpr rfl);have hl:xs.length=l.length:=by have:=congrArg zay e;simpa using this
 refine⟨λhi=>⟨B,by rw[YV]at hi;lia⟩,λd q=>?_⟩;rw[ZJ]at q;obtain⟨p,F,rfl⟩:=map_some q;have hi:i<l.length:=(List.getElem?_eq_some_iff.mp F).1;refine⟨⟨B,by lia⟩,λx H' ⟨W,k,v,b,J,U,N⟩=>?_⟩;subst W U;have:k=p.1:=by
  have h1:(xs.map (·.1))[i]?=some k:=by rw[ZJ,J];rfl
  rw[e,ZJ,F]at h1;exact(ZI h1).symm
 subst this;exact⟨Ext.refl _ _,.tup N (qF _)⟩
theorem K6(n:¬ A d)(B:H d=some u)(F:RC u)(N:¬ Kp u):Ext A H (upd H d (.frz o u)) where
 rd:=λb w r=>by
  by_cases e:b=d
  ·subst e
   rcases r with r|⟨q,r⟩
   ·rw[B]at r;cases r;exact .inr ⟨o,aM⟩
   ·rw[B]at r;cases r;exact F.elim
  ·exact kR e r
 kp:=λb w k r=>by rw[aK (λz=>by subst z;rw[B]at r;cases r;exact N k)];exact r
 ow:=λb w J r=>by rw[aK (λz=>n (by rw[<- z];exact J))];exact r
 fz:=λb q w r=>by rw[aK (λz=>by subst z;rw[B]at r;cases r;exact F)];exact r
theorem JK(h:PD X O e f):PDI X O tg e (HJ f):=PI.mono (PI.or (PI.or (J5 h) (PY h)) (E7 h)) <| by
 rintro σ H R ⟨H0,A0,A,E,ρ,items,st,e,q⟩;obtain⟨d,N,e⟩:=bind_some e;cases d with
 | lst l=>
  cases e;refine .inl (.inl ⟨H0,A0,A,E,ρ,_,st,N,λv H1 J F=>?_⟩);obtain⟨a,xs,rfl,h1,U⟩:=RepB.lst_inv (.of F);exact⟨a,rfl,⟨xs,.inl h1⟩,q _ H1 [.rep (.lst items) (.ref a)] J (λp B=>by rw[List.mem_singleton.mp B];exact F) J4⟩
 | tup l=>
  cases e;refine .inl (.inr ⟨H0,A0,A,E,ρ,_,st,N,λv H1 J F=>?_⟩);obtain⟨a,xs,rfl,h1,U⟩:=RepB.tup_inv (.of F);exact⟨a,rfl,⟨xs,.inl (.inl h1)⟩,q _ H1 [.rep (.tup items) (.ref a)] J (λp B=>by rw[List.mem_singleton.mp B];exact F) OY⟩
 | dT l=>
  cases e;refine .inr ⟨H0,A0,A,E,ρ,_,st,N,λv H1 J F=>?_⟩;cases F with
  | @dT _ a xs n h ee U=>
   refine⟨a,xs,rfl,?_⟩;rcases h with h|⟨o,h⟩
   ·refine .inl ⟨h,λo=>q _ _ [.fz a o (.dT xs)] (J.trans (K6 n h trivial λz=>z)) (λp B=>by rw[List.mem_singleton.mp B];exact aM) (AK ee)⟩
   ·exact .inr ⟨o,h,q _ H1 [.fz a o (.dT xs)] J (λp B=>by rw[List.mem_singleton.mp B];exact h) (AK ee)⟩
 | _=>exact nn e
def dI(g:Gv)(body:Sv):List D->bI->Option Out
 | [],ρ=>some (.nx ρ)
 | x::xs,ρ=>(g x ρ).bind λρ1=>(body ρ1).bind λo=>match o with
  | .nx ρ2=>dI g body xs ρ2
  | .ct ρ2=>dI g body xs ρ2
  | .bk ρ2=>some (.nx ρ2)
  | .rt d=>some (.rt d)
def DG(f:Lv)(g:Gv)(q:Sv):Sv:=λρ=>(f ρ).bind λitems=>dI g q items ρ
theorem ST.both(s:ST H0 A0 A E O σ H ρ)(h:∀p∈E1,p.Holds A H):ST H0 A0 A (E1++E) O σ H ρ:=
 {s with ext:=λp q=>by rcases List.mem_append.mp q with e|e;exact h p e;exact s.ext p e}
theorem JA(hp:zba (model X.prog X.w) X.A X.env X.xe)(hc:X.calm=true)(hi:PDI X O tg iter f)(hg:BL X O1 tg g)(hb:cQ X ⟨Ob,O1⟩ O1 body b O1)(h1:Sub O1 O=true)(h2:Sub O' O1=true)(h3:Sub O' Ob=true)
  (hs:∀x,zaj iter X.env x=pure x:=by intro _;rfl):gI X L O (.For tg iter body [] pos) (DG f g b) O':=PS.mono (M6 hp hc hi hg hb hs) λT σ H ⟨H0,A0,A,E,ρ,ab,st,e,p⟩=>by
 obtain⟨items,e1,e⟩:=bind_some e;refine⟨H0,A0,A,E,ρ,items,st,e1,λJ H1 W x1 ae J1=>?_⟩;obtain⟨A1,af⟩:=((st.mono x1).both ae).shut (Sub.mem h1);refine⟨λi m σ H=>m=items.length-i/\i<=items.length/\∃ρ A,ST H0 A0 A (W++E) O1 σ H ρ/\dI g b (items.drop i) ρ=some ab,⟨items.length,by simp,zaa _,ρ,A1,af,e⟩,?_⟩;rintro i m σ H ⟨rfl,az,ρ,A,st,e⟩;have hE:∀p∈W,p.Holds A H:=λp hp=>st.ext p (zbo _ hp)
 obtain⟨ac,go⟩:=J1 A H st.live hE i;have fin:∀ {O2:List Nat} {A:Av} {σ:L2.St} {H:Hp} {ρ:bI},Sub O' O2=true->ST H0 A0 A (W++E) O2 σ H ρ->(∀A σ H,ST H0 A0 A E O' σ H ρ->T.nx σ H)->T.nx σ H:=λhs st k=>by
  obtain⟨F,aj⟩:=(st.less (E':=E) λq hq=>Z9 _ hq).shut (Sub.mem hs);exact k F _ _ aj
 by_cases U:i<items.length
 ·have ed:items[i]?=some items[i]:=by simp[U]
  obtain⟨ai,hy⟩:=go _ ed;rw[zbx U]at e;obtain⟨ρ1,eg,e⟩:=bind_some e;obtain⟨o,eo,e⟩:=bind_some e;refine .inr ⟨ai,λY H'=>∃B F,ST H0 A0 F (W++E) O1 Y H' B/\dI g b (items.drop (i+1)) B=some ab,λY H' ⟨B,F,N,e2⟩=>⟨items.length-(i+1),by lia,rfl,U,B,F,N,e2⟩,λx H' y=>?_⟩;obtain⟨x2,r2⟩:=hy x H' y;refine⟨H0,A0,A,W++E,ρ,_,ρ1,st.mono x2,r2,eg,λa1 s1=>⟨H0,A0,A,W++E,ρ1,o,s1,eo,?_⟩⟩;cases o with
  | nx B=>exact λF aa H2 N=>⟨B,F,N,e⟩
  | ct B=>exact λF aa H2 N=>⟨B,F,N,e⟩
  | bk B=>cases e;exact λF aa H2 N=>fin h3 N p
  | rt d=>cases e;exact p
 ·have ah:i=items.length:=by lia
  subst ah;rw[zcL]at e;cases e;exact .inl ⟨ac (YS _),fin h2 st p⟩
end
noncomputable def h9(cells:List (Str×Addr)):List (Str×zax)->List (Str×Addr)->List (Str×Addr)
 | [],cs=>cs
 | (x,k)::r,cs=>h9 cells r (if k == .free then(x,(cells.lookup x).getD 0)::cs else cs)
theorem sJ:∀(names:List (Str×zax)) (q:List (Str×Addr)),(∀y∈names,y.2=.free->∃c,env.cells.lookup y.1=some c)->
  (forIn names q (λ(p:Str×zax) (r:List (Str×Addr))=>if(p.2 == .free)=true then(do let c <- cellOf env p.1;pure (zbg ((p.1,c)::r)))else(pure (zbg r):Sem _)))=(pure (h9 env.cells names q):Sem _)
 | [],q,_=>by simp[h9]
 | (x,k)::r,q,h=>by
  have ih:=λq=>sJ r q λy N=>h y (YW _ N)
  rw[List.forIn_cons];by_cases e:(k == zaN)=true
  ·have J:k=.free:=by simpa using e
   obtain⟨c,F⟩:=h (x,k) (YQ ..) J;have B:env.cells.lookup x=some c:=F;simp only[e,if_true,h9];have:cellOf env x=pure c:=by unfold cellOf;rw[B]
   rw[this];simp only[pure_bind,B,Option.getD_some];exact ih _
  ·simp only[e,h9]
   simp only[zb7,if_false,pure_bind];exact ih _
theorem LC(h:∀y∈scope.names,y.2=.free->∃c,env.cells.lookup y.1=some c):closureFor scope env=pure (h9 env.cells scope.names []):=by
 have:=sJ scope.names [] h;unfold closureFor;simp only[bind_pure];exact this
theorem wQ:∀ {names:List (Str×zax)} {cs:List (Str×Addr)} {c:Addr},(h9 cells names cs).lookup x=some c->(∃q,cs.lookup x=some q/\c=q)\/((x,zaN)∈names/\c=(cells.lookup x).getD 0)
 | [],cs,c,h=>.inl ⟨c,h,rfl⟩
 | (y,k)::r,cs,c,h=>by
  rw[h9]at h;rcases wQ h with⟨q,h1,h2⟩|⟨h1,h2⟩
  ·by_cases e:(k == zaN)=true
   ·rw[if_pos e,zaO]at h1
    by_cases ex:(x == y)=true
    ·rw[ex]at h1
     have B:x=y:=by simpa using ex
     have F:k=.free:=by simpa using e
     subst B F;cases h1;exact .inr ⟨YQ ..,h2⟩
    ·rw[zby]at ex
     rw[ex]at h1;exact .inl ⟨q,h1,h2⟩
   ·rw[if_neg e]at h1
    exact .inl ⟨q,h1,h2⟩
  ·exact .inr ⟨YW _ h1,h2⟩
theorem wB:∀ {names:List (Str×zax)} {cs:List (Str×Addr)},((x,zaN)∈names\/∃c,cs.lookup x=some c)->∃c,(h9 cells names cs).lookup x=some c
 | [],cs,h=>h.elim (λh=>nomatch h) id
 | (y,k)::r,cs,h=>by
  rw[h9];apply wB;rcases h with h|⟨c,h⟩
  ·rcases List.mem_cons.mp h with e|e
   ·cases e
    refine .inr ⟨(cells.lookup x).getD 0,?_⟩;simp[zaO]
   ·exact .inl e
  ·right
   by_cases e:(k == zaN)=true
   ·rw[if_pos e,zaO]
    by_cases ex:(x == y)=true
    ·rw[ex];exact⟨_,rfl⟩
    ·rw[zby]at ex;rw[ex];exact⟨c,h⟩
   ·rw[if_neg e];exact⟨c,h⟩
theorem eT{q:Type}{v:q}:∀ {l:List (Str×q)},l.lookup x=some v->(x,v)∈l
 | (y,w)::r,h=>by
  rw[zaO]at h;by_cases ex:(x == y)=true
  ·rw[ex]at h;cases h;rw[show x=y by simpa using ex];exact YQ ..
  ·rw[zby]at ex;rw[ex]at h;exact YW _ (eT h)
noncomputable def A9(names q:List (Str×zax)):Bool:=
 names.all λy=>y.2 != .cell && (y.2 != .local || names.lookup y.1 == some .local) && (y.2 != .free || q.lookup y.1 == some .cell)
theorem yU{X:Cx}{N:List Str}{scope:Scope}{n:Nat}(hk:scope.kind=.function)(h:A9 scope.names X.env.scope.names=true)(hc:X.env.cells=za3 n X.env.scope.names []):My.Clo X N scope (h9 X.env.cells scope.names []):=by
 have h':=List.all_eq_true.mp h;have c1:∀y∈scope.names,y.2≠.cell:=λy F=>by
  have:=h' y F;simp only[ZK]at this;simpa using this.1.1
 have c2:∀y∈scope.names,y.2=.local->scope.names.lookup y.1=some .local:=λy F e=>by
  have:=h' y F;simp only[ZK,Bool.or_eq_true]at this;rcases this.1.2 with z|z
  ·rw[e]at z;exact absurd z (by decide)
  ·simpa using z
 have c3:∀y∈scope.names,y.2=.free->∃c,X.env.cells.lookup y.1=some c:=λy F e=>by
  have:=h' y F;simp only[ZK,Bool.or_eq_true]at this;rcases this.2 with z|z
  ·rw[e]at z;exact absurd z (by decide)
  ·rw[hc];exact qB (sc:=X.env.scope) (by simpa using z)
 have B:∀x,((zah scope X.env).names.lookup x=some .cell\/(zah scope X.env).names.lookup x=some .free)->(x,zaN)∈scope.names:=λx U=>by
  have W:∀Y,(Y=NameKind.cell\/Y=zaN)->(x,Y)∈(zah scope X.env).names->(x,zaN)∈scope.names:=λY aa hm=>by
   obtain⟨⟨y,k⟩,F,e⟩:=List.mem_map.mp hm;dsimp only at e;by_cases q:(k == zaN && X.env.scope.kind == .function && X.env.kindOf y == some .cell)=true
   ·rw[if_pos q]at e
    have:k=.free:=by simp only[ZK]at q;simpa using q.1.1
    cases e;subst this;exact F
   ·rw[if_neg q]at e
    cases e;rcases aa with z|z
    ·exact absurd z (c1 _ F)
    ·subst z;exact F
  rcases U with U|U
  ·exact W _ (.inl rfl) (eT U)
  ·exact W _ (.inr rfl) (eT U)
 refine⟨LC c3,hk,c1,c2,λx c e=>?_,λx U=>wB (.inl (B x U))⟩;rcases wQ e with⟨c',z,_⟩|⟨z1,z2⟩
 ·cases z
 ·obtain⟨c0,J⟩:=c3 _ z1 rfl
  have J:X.env.cells.lookup x=some c0:=J;rw[z2,J];rfl
noncomputable def cI(X:Cx)(scope:Scope):List Str->List (Option Nat)->Prop
 | [],[]=>True
 | _::N,none::ms=>cI X scope N ms
 | x::N,some i::ms=>(X.N[i]?=some x/\((zah scope X.env).names.lookup x == some NameKind.local)=false/\(X.env.kindOf x=some .cell\/X.env.kindOf x=some .free))/\cI X scope N ms
 | _,_=>False
noncomputable def k4{q:Type}(ms:List (Option Nat))(σ:List (Option q)):List (Option q):=ms.map λo=>o.bind λi=>(σ[i]?).join
theorem jA:∀ {N:List Str} {ms:List (Option Nat)},cI X scope N ms->ms.length=N.length/\∀(j:Nat) (x:Str) (i:Nat),N[j]?=some x->ms[j]?=some (some i)->X.N[i]?=some x/\(zah scope X.env).names.lookup x≠some .local/\(X.env.kindOf x=some .cell\/X.env.kindOf x=some .free)
 | [],[],_=>⟨rfl,λj x i h _=>by simp at h⟩
 | y::N,none::ms,h=>by
  obtain⟨l,g⟩:=jA (N:=N) (ms:=ms) h;refine⟨by simp[l],λj x i h1 h2=>?_⟩;cases j with
  | zero=>simp at h2
  | succ j=>exact g j x i (by simpa using h1) (by simpa using h2)
 | y::N,some k::ms,h=>by
  obtain⟨l,g⟩:=jA (N:=N) (ms:=ms) h.2;refine⟨by simp[l],λj x i h1 h2=>?_⟩;cases j with
  | zero=>simp at h1 h2;subst h1 h2;exact⟨h.1.1,λz=>by have:=h.1.2.1;rw[z]at this;exact absurd this (by decide),h.1.2.2⟩
  | succ j=>exact g j x i (by simpa using h1) (by simpa using h2)
 | [],_::_,h=>h.elim
 | _::_,[],h=>h.elim
theorem oV{B:Type}{ms:List (Option Nat)}{σ:List (Option B)}{j:Nat}{v:B}(h:(k4 ms σ)[j]?=some (some v)):∃i:Nat,ms[j]?=some (some i)/\σ[i]?=some (some v):=by
 unfold k4 at h;rw[ZJ]at h;obtain⟨o,F,q⟩:=map_some h;cases o with
 | none=>cases q
 | some i=>exact⟨i,F,pS q⟩
theorem v8{N:List Str}{ms:List (Option Nat)}(h:cI X scope N ms)(σ:L2.St):My.Start X N scope σ (k4 ms σ):=by
 obtain⟨l,g⟩:=jA h;refine⟨by unfold k4;rw[YV];exact l,λj x v h1 h2 _=>?_⟩;obtain⟨i,q,B⟩:=oV h2;obtain⟨a,b,c⟩:=g j x i h1 q;exact⟨b,i,a,B,c⟩
theorem ST.inner{E:List Fact}{O:List Nat}(s:ST H0 A0 A E O σ H ρ)(ms:List (Option Nat))(n:∀i,some i∈ms->i∉O):ST H0 A0 A E [] (k4 ms σ) H (k4 ms ρ) where
 ex:=s.ex
 sub:=s.sub
 l0:=s.l0
 live:=s.live
 len:=by simp[k4]
 val:=λj d h _=>by
  obtain⟨i,q,B⟩:=oV h;obtain⟨v,F,r⟩:=s.val i d B (n i (zbe q));refine⟨v,?_,r⟩;unfold k4;rw[ZJ,q];show some ((σ[i]?).join)=_;rw[F];rfl
 own:=λj d _ h=>nomatch h
 inj:=λi j d d' a hi=>nomatch hi
 ext:=s.ext
def dF(g:Gv)(c:Bv)(f:Ev):List D->bI->Option (List D)
 | [],_=>some []
 | x::xs,ρ=>(g x ρ).bind λρ1=>(c ρ1).bind λb=>if b=true then(f ρ1).bind λd=>(dF g c f xs ρ1).bind λds=>some (d::ds)else dF g c f xs ρ1
def dU(ms:List (Option Nat))(it:Lv)(g:Gv)(c:Bv)(f:Ev):Ev:=λρ=>(it ρ).bind λitems=>if bO items.length then(dF g c f items (k4 ms ρ)).map .lst else none
def jX:Bv:=λ_=>some true
theorem wU:My.ID X [] (tDT O jX):=λpins s σ H Q I ⟨H0,A0,A,E,ρ,b,st,e,q⟩=>My.K3 pins s σ H Q I (by cases e;exact q H (Ext.refl _ _))
section
variable {X:Cx}{O:List Nat}
def X8(B:List Nat)(g:Gv)(G:TG):Prop:=∀ {H0:Hp} {A0 A:Av} {E:List Fact} {σ:L2.St} {H:Hp} {ρ ρ':bI} {x:V} {d:D} {Q:L2.St->Hp->Prop},ST H0 A0 A E B σ H ρ->Rep A H d x->g d ρ=some ρ'->(∀q,ST H0 A0 A E B q H ρ'->(∀j∈B,q[j]?=σ[j]?/\ρ'[j]?=ρ[j]?)->Q q H)->G x σ H Q
theorem E3(bb:cI X scope N ms)(bg:∀ {H0:Hp} {A0 A:Av} {E:List Fact} {σ:L2.St} {H:Hp} {ρ:bI},ST H0 A0 A E O σ H ρ->ST H0 A0 A E Oi (k4 ms σ) H (k4 ms ρ))(hG:X8 Oi g G)(σ:L2.St)(H:Hp)(Q:VK) :
  tF O (dU ms it g c f) σ H Q->My.w6 (tDI O it) G (tDT Oi c) (tD Rep Oi f) (My.Start X N scope) σ H Q:=λ⟨H0,A0,A,E,ρ,d,st,e,q⟩=>by
 obtain⟨items,e1,e⟩:=bind_some e;by_cases hz:bO items.length=true
 case neg=>rw[if_neg hz]at e;cases e
 rw[if_pos hz]at e;obtain⟨ds,e2,rfl⟩:=map_some e;refine⟨k4 ms σ,v8 bb σ,H0,A0,A,E,ρ,items,st,e1,λJ H1 E1 x1 a1 J1 D hD=>?_⟩;have s1:=bg ((st.mono x1).both a1);have nA:¬ A D:=λz=>s1.live D z hD
 have n0:H D=none:=x1.free hD
 -- the state of the block: the list that grows stands outside all that is borne
 refine⟨λi m ai us H2=>m=items.length-i/\i<=items.length/\∃af done rest,ST H0 A0 (λb=>A b\/b=D) (E1++E) Oi ai H2 af/\H2 D=some (.lst us)/\Ext A H H2/\RepL (λb=>A b\/b=D) H2 done us/\dF g c f (items.drop i) af=some rest/\done++rest=ds/\done.length<=i/\∀j∈Oi,∀d a,af[j]?=some (some d)->ai[j]?=some (some (.ref a))->a≠D,⟨items.length,by simp,zaa _,k4 ms ρ,[],ds,?_,aM,x1.trans (Ext.new hD),.nil,e2,rfl,YS _,λj Y d a h1 h2 z=>?_⟩,?_⟩
 ·have up:∀a,(A a\/a=D)->A a\/H1 a=none:=λa ha=>ha.imp id λz=>by rw[z];exact hD
  refine⟨s1.ex.trans (Ext.new hD),λa ha=>.inl (s1.sub a ha),s1.l0,λa ha=>?_,s1.len,λi d h n=>?_,λi d h n=>?_,s1.inj,λp hp=>Fact.ext (Ext.new hD) (Fact.av up (s1.ext p hp))⟩
  ·rcases ha with ha|ha
   ·rw[aK (λz=>by subst z;exact nA ha)];exact s1.live a ha
   ·subst ha;rw[aM];exact λz=>nomatch z
  ·obtain⟨v,h1,h2⟩:=s1.val i d h n
   exact⟨v,h1,(h2.av up).ext (Ext.new hD)⟩
  ·obtain⟨a,h1,h2,h3,h4⟩:=s1.own i d h n
   exact⟨a,h1,.inl h2,h3,(h4.av up).ext (Ext.new hD) (.inl h2)⟩
 ·obtain⟨a',g1,g2,_⟩:=s1.own j d h1 Y
  rw[h2]at g1;cases g1;exact nA (z ▸ g2)
 ·rintro i m ai us H2 ⟨rfl,b1,af,done,rest,s2,ak,x2,ae,B,ed,a0,be⟩
  obtain⟨ar,go⟩:=J1 _ H2 s2.live (λp hp=>s2.ext p (zbo _ hp)) i;by_cases U:i<items.length
  ·have eg:items[i]?=some items[i]:=by simp[U]
   obtain⟨bd,hy⟩:=go _ eg;rw[zbx U]at B;obtain⟨F,e3,B⟩:=bind_some B;obtain⟨b,e4,B⟩:=bind_some B;have aq:us.length<YN:=by
    rw[ae.length];exact zb1 a0 (ZN U (fR hz))
   refine .inr ⟨bd,aq,λx H3 y=>?_⟩;obtain⟨x3,r3⟩:=hy x H3 y;refine hG (s2.mono x3) r3 e3 λay s3 same=>⟨H0,A0,_,E1++E,F,b,s3,e4,λH5 x5=>?_⟩
   have ab:∀j∈Oi,∀d a,F[j]?=some (some d)->ay[j]?=some (some (.ref a))->a≠D:=λj Y d a h1 h2=>be j Y d a (by rw[<- (same j Y).2,h1]) (by rw[<- (same j Y).1,h2])
   have ac:=x3.trans x5;have ao:H5 D=some (.lst us):=ac.ow D _ (.inr rfl) ak;have am:Ext A H H5:=x2.trans (ac.mono λa ha=>.inl ha);cases b with
   | false=>
    rw[if_neg YX]at B;exact VI ⟨ao,items.length-(i+1),by lia,rfl,U,F,done,rest,s3.mono x5,ao,am,ae.ext ac,B,ed,by lia,ab⟩
   | true=>
    rw[if_pos rfl]at B;refine UK ?_;obtain⟨d,e6,B⟩:=bind_some B;obtain⟨aj,e7,B⟩:=bind_some B;cases B;refine⟨H0,A0,_,E1++E,F,d,s3.mono x5,e6,λv H6 x6 r6=>?_⟩;have ap:=ac.trans x6;have W:H6 D=some (.lst us):=ap.ow D _ (.inr rfl) ak;have s6:=s3.mono (x5.trans x6);refine⟨W,items.length-(i+1),by lia,rfl,U,F,done++[d],aj,⟨s6.ex.upN (st.ex.free n0),s6.sub,s6.l0,λa ha=>?_,s6.len,λi d h n=>?_,λi d h n=>?_,s6.inj,λp hp=>Fact.put (.inr rfl) W trivial (s6.ext p hp)⟩,aM,(am.trans (x6.mono λa ha=>.inl ha)).upN n0,((ae.ext ap).append (.cons r6 .nil)).put (.inr rfl) W trivial,e7,by rw[<- ed];simp,by rw[ZG];show done.length+1<=i+1;lia,ab⟩
    ·by_cases z:a=D
     ·subst z;rw[aM];exact λz=>nomatch z
     ·rw[aK z];exact s6.live a ha
    ·obtain⟨v,h1,h2⟩:=s6.val i d h n
     exact⟨v,h1,h2.put (.inr rfl) W trivial⟩
    ·obtain⟨a,h1,h2,h3,h4⟩:=s6.own i d h n
     exact⟨a,h1,h2,h3,h4.put (.inr rfl) W trivial (ab i n d a h h1)⟩
  ·have a4:i=items.length:=by lia
   subst a4;rw[zcL]at B;cases B;rw[zam]at ed;subst ed;exact .inl ⟨ar (YS _),q D H2 x2 n0 nA (.lst ak ae)⟩
theorem wF(F:cI X scope N ms)(W:(ms.all λo=>match o with|some i=>!O.contains i|none=>true)=true)(σ:L2.St)(H:Hp)(Q:VK) :
  tF O (dU ms it g c f) σ H Q->My.w6 (tDI O it) (tDG [] g) (tDT [] c) (tD Rep [] f) (My.Start X N scope) σ H Q:=
 E3 F (λs=>s.inner ms λi hi z=>by
  have:=List.all_eq_true.mp W _ hi;simp only[Bool.not_eq_true']at this;have J:O.contains i=true:=by simpa using z
  rw[J]at this;cases this) (λs r e q=>⟨_,_,_,_,_,_,_,s,r,e,λB U=>q B U λj h=>nomatch h⟩) σ H Q
theorem KH
  (F:X.calm=true) (U:My.Clo X N scope cl) (q:cI X scope N ms) (Y:(ms.all λo=>match o with|some i=>!O.contains i|none=>true)=true) (hi:PDI X O tg iter it) (W:∀C s H fp,BL (My.a6 X N scope cl C s H fp) [] tg g)
  (J:∀C s H fp,My.ID (My.a6 X N scope cl C s H fp) ifs (tDT [] c)) (B:∀C s H fp,PD (My.a6 X N scope cl C s H fp) [] elt f) (hs:∀x,zaj iter X.env x=pure x:=by intro _;rfl) :
  PF X O (.ListComp elt [⟨tg,iter,ifs,0⟩] scope pos) (dU ms it g c f):=PE.mono (My.KJ F U hi W J B hs) (wF q Y)
def a8(n:Nat)(ds:List D):bI:=ds.map some++zaS (n-ds.length) none
def bC(n:Nat)(f:Sv)(ds:List D):Option D:=(f (a8 n ds)).bind λo=>match o with
 | .rt d=>some d
 | .nx _=>some .non
 | _=>none
theorem ST.begun(q:Live A H)(r:RepL A H ds vs):ST H A A [] [] (L2.start N vs) H (a8 N.length ds) where
 ex:=Ext.refl _ _
 sub:=λ_ h=>h
 l0:=q
 live:=q
 len:=by unfold L2.start a8;simp[r.length]
 val:=λi d h _=>by
  unfold a8 at h;by_cases hi:i<ds.length
  ·rw[za5 (by simpa using hi),ZJ]at h
   obtain⟨d',U,W⟩:=map_some h;cases W;obtain⟨v,J,F⟩:=r.get' U;refine⟨v,?_,F⟩;unfold L2.start;rw[za5 (by rw[YV,r.length];exact hi),ZJ,J];rfl
  ·rw[zbT (by simpa using hi),zbU]at h
   split at h <;> cases h
 own:=λi d _ h=>nomatch h
 inj:=λi j d d' a hi=>nomatch hi
 ext:=λp B=>nomatch B
theorem w9{P:YK}{w:World}{K:YH}{mg:Str->Option Value}{base:Heap}{x:Str}{st:Stmt}{N ps:List Str}{k:Nat}{f:Sv}{O':List Nat}(Df:My.DefAt K mg x st ps)(S:FnScope N ps (aF st))
  (h:∀(U:Addr) (F:Value) (A:YM) (B:List Env) (s:YE) (H:Hp) (E:XK),Room k (A.deeper (Y2 x (aF st) s.heap.objs.size U F))->∃g,cQ (eN mW P w K mg base N x (aF st) U F A B s H E).nox ⟨[],[]⟩ [] (aX st) g O'/\g=f) :
  Fn P w K mg base x (k+1) ps (bC N.length f):=by
 refine My.BodyOk.ok (λU F A B s H vs Q E hr J=>?_) Df S (λvs H Q E J=>by obtain⟨A,ds,d,_,_,e,_⟩:=J;exact e);obtain⟨Y,ds,d,lv,r,e,eF,q⟩:=J;obtain⟨o,eo,W⟩:=bind_some eF;obtain⟨g,hg,rfl⟩:=h U F A B s H E hr;refine⟨_,hg,H,Y,Y,[],_,o,ST.begun lv r,eo,?_⟩;cases o with
 | nx ρ=>cases W;exact λA2 ae H2 s2=>q .non H2 s2.ex .non
 | rt d'=>cases W;exact λv H2 x2 r2=>q v H2 x2 r2
 | bk _=>cases W
 | ct _=>cases W
noncomputable def F8(K:YH):Bool:=K.all λp=>match p.2.cls with
 | .type "list" => false
 | _=>true
theorem B2{K:YH}(h:F8 K=true){a:Addr}{o:Obj}(e:K.lookup a=some o):o.cls≠.type "list" := λz=>by
 have m:∀ {K:YH},K.lookup a=some o->(a,o)∈K:=by
  intro K;induction K with
  | nil=>intro e;cases e
  | cons p r ih=>
   intro e;rw[zaO]at e;by_cases q:(a == p.1)=true
   ·rw[q]at e;cases e;rw[show a=p.1 by simpa using q];exact YQ ..
   ·rw[zby]at q;rw[q]at e;exact YW _ (ih e)
 have:=List.all_eq_true.mp h _ (m e);dsimp only at this;rw[z]at this;exact absurd this (by decide)
theorem PL{P:YK}{w:World}{K:YH}{mg:Str->Option Value}{base:Heap}{st:Stmt}{N:List Str}{k:Nat}{f:Sv}{O':List Nat}(hK:F8 K=true)
  (h:∀(U:Addr) (F:Value) (A:YM) (B:List Env) (s:YE) (H:Hp) (E:XK),Room k (A.deeper (Y2 "law" (aF st) s.heap.objs.size U F))->∃g,cQ (eN mW P w K mg base N "law" (aF st) U F A B s H E).nox ⟨[],[]⟩ [] (aX st) g O'/\g=f)
  (hv:∀ns:List Int,ns.length<=63->bC N.length f [.lst (ns.map .int)]=some (.bl true)):My.BodyOk P w K mg base "law" st N k (My.xD K):=by
 refine λU F A B s H vs Q E hr aa=>?_
 obtain⟨a,ns,rfl,Y,hl,q⟩:=aa;have hR:Rd H a (.lst (ns.map V.int)):=by
  rcases Y with Y|⟨o,_,_,e,c,_⟩
  ·exact Y
  ·exact absurd c (B2 hK e)
 have lv:Live (λ_=>False) H:=λa h=>h.elim
 have J:∀ns:List Int,RepL (λ_=>False) H (ns.map .int) (ns.map V.int):=λns=>by
  induction ns with
  | nil=>exact .nil
  | cons n ns ih=>exact .cons (.int n) ih
 obtain⟨o,eo,W⟩:=bind_some (hv ns hl);obtain⟨g,hg,rfl⟩:=h U F A B s H E hr;refine⟨_,hg,H,λ_=>False,λ_=>False,[],_,o,ST.begun lv (.cons (.lst (λz=>z) hR (J ns)) .nil),eo,?_⟩;cases o with
 | nx ρ=>cases W
 | rt d'=>cases W;exact λv H2 x2 r2=>by cases r2;exact q _
 | bk _=>cases W
 | ct _=>cases W
end
mutual
def iM:D->Option My.Dx
 | .non=>some .non
 | .bl b=>some (.bl b)
 | .int i=>some (.int i)
 | .str x=>some (.str x)
 | .tup l=>(kX l).map .tup
 | .lst l=>(kX l).map .lst
 | .dK _=>none
 | .dT _=>none
 | .ob _ _ _=>none
def kX:List D->Option (List My.Dx)
 | []=>some []
 | d::ds=>(iM d).bind λx=>(kX ds).bind λxs=>some (x::xs)
end
mutual
theorem lW:∀ {d e:D} {x:My.Dx},iM d=some x->iM e=some x->d=e
 | .non,e,x,h,k=>by cases h;cases e <;> simp[iM]at k <;> first|rfl|(obtain⟨_,_,z⟩:=k;cases z)
 | .bl b,e,x,h,k=>by cases h;cases e <;> simp[iM]at k <;> first|(rw[k])|(obtain⟨_,_,z⟩:=k;cases z)
 | .int b,e,x,h,k=>by cases h;cases e <;> simp[iM]at k <;> first|(rw[k])|(obtain⟨_,_,z⟩:=k;cases z)
 | .str b,e,x,h,k=>by cases h;cases e <;> simp[iM]at k <;> first|(rw[k])|(obtain⟨_,_,z⟩:=k;cases z)
 | .tup l,e,x,h,k=>by
  rw[iM]at h;obtain⟨xs,h1,rfl⟩:=map_some h;cases e with
  | tup m=>
   rw[iM]at k;obtain⟨ys,B,q⟩:=map_some k;cases q;rw[qK h1 B]
  | lst m=>rw[iM]at k;obtain⟨ys,B,q⟩:=map_some k;cases q
  | _=>simp[iM]at k
 | .lst l,e,x,h,k=>by
  rw[iM]at h;obtain⟨xs,h1,rfl⟩:=map_some h;cases e with
  | lst m=>
   rw[iM]at k;obtain⟨ys,B,q⟩:=map_some k;cases q;rw[qK h1 B]
  | tup m=>rw[iM]at k;obtain⟨ys,B,q⟩:=map_some k;cases q
  | _=>simp[iM]at k
 | .dK _,e,x,h,k=>by rw[iM]at h;cases h
 | .dT _,e,x,h,k=>by rw[iM]at h;cases h
 | .ob _ _ _,e,x,h,k=>by rw[iM]at h;cases h
theorem qK:∀ {d e:List D} {x:List My.Dx},kX d=some x->kX e=some x->d=e
 | [],e,x,h,k=>by
  rw[kX]at h;cases h;cases e with
  | nil=>rfl
  | cons e es=>
   rw[kX]at k;obtain⟨_,_,k⟩:=bind_some k;obtain⟨_,_,k⟩:=bind_some k;cases k
 | d::ds,e,x,h,k=>by
  rw[kX]at h;obtain⟨y,h1,h⟩:=bind_some h;obtain⟨ys,h2,h⟩:=bind_some h;cases h;cases e with
  | nil=>rw[kX]at k;cases k
  | cons e es=>
   rw[kX]at k;obtain⟨z,B,k⟩:=bind_some k;obtain⟨zs,q,k⟩:=bind_some k;cases k;rw[lW h1 B,qK h2 q]
end
mutual
theorem pE{K:YH}{A:Av}{H:Hp}:∀ {d:D} {x:My.Dx} {v:V},iM d=some x->Rep A H d v->My.Rep K H x v
 | .non,x,v,h,r=>by cases h;cases r;rw[My.Rep]
 | .bl b,x,v,h,r=>by cases h;cases r;rw[My.Rep]
 | .int b,x,v,h,r=>by cases h;cases r;rw[My.Rep]
 | .str b,x,v,h,r=>by cases h;cases r;rw[My.Rep]
 | .tup l,x,v,h,r=>by
  rw[iM]at h;obtain⟨xs,h1,rfl⟩:=map_some h;cases r with
  | tup hh rl=>rw[My.Rep];exact⟨_,_,rfl,.inl (.inl hh),lL h1 rl⟩
 | .lst l,x,v,h,r=>by
  rw[iM]at h;obtain⟨xs,h1,rfl⟩:=map_some h;cases r with
  | lst n hh rl=>rw[My.Rep];exact⟨_,_,rfl,.inl hh,lL h1 rl⟩
 | .dK _,x,v,h,r=>by rw[iM]at h;cases h
 | .dT _,x,v,h,r=>by rw[iM]at h;cases h
theorem lL{K:YH}{A:Av}{H:Hp}:∀ {d:List D} {x:List My.Dx} {v:List V},kX d=some x->RepL A H d v->My.RepL K H x v
 | [],x,v,h,r=>by rw[kX]at h;cases h;cases r;rw[My.RepL]
 | d::ds,x,v,h,r=>by
  rw[kX]at h;obtain⟨y,h1,h⟩:=bind_some h;obtain⟨ys,h2,h⟩:=bind_some h;cases h;cases r with
  | cons r rs=>rw[My.RepL];exact⟨_,_,rfl,pE h1 r,lL h2 rs⟩
end
theorem gX{K:YH}{A:Av}{H:Hp}{d:D}{x:My.Dx}{v:V}(h:iM d=some x)(r:RepB A H d v):My.Rep K H x v:=by
 cases r with
 | of r=>exact pE h r
 | lst hh rl=>
  rw[iM]at h;obtain⟨xs,h1,rfl⟩:=map_some h;rw[My.Rep];exact⟨_,_,rfl,.inl hh,lL h1 rl⟩
 | dK=>rw[iM]at h;cases h
 | dT=>rw[iM]at h;cases h
 | ob=>rw[iM]at h;cases h
def fG(d:D):Bool:=match iM d with
 | some x=>x.nb && decide (x.dep<=60)
 | none=>false
noncomputable def QQ:D->Bool
 | .tup _=>true | .lst _=>true|_=>false
noncomputable def MU:D->D->Bool
 | .non,.non=>true | .non,.int _=>true | .int _,.non=>true | .non,.bl _=>true | .bl _,.non=>true | .non,.str _=>true | .str _,.non=>true
 | .int _,.int _=>true | .bl _,.bl _=>true | .str _,.str _=>true
 | .int _,.str _=>true | .str _,.int _=>true | .bl _,.str _=>true | .str _,.bl _=>true
 | _,_=>false
open Classical in
def HW(d e:D):Option Bool:=if MU d e=true\/(QQ d=true/\QQ e=true/\fG d=true/\fG e=true)then some (decide (d=e))else none
def rN(d e:D):Option D:=(HW d e).map .bl
def DM(d e:D):Option D:=(HW d e).map λb=>.bl (!b)
theorem GK(h:MU d e=true)(r:RepB A H d v)(s:RepB A H e w):QY v w=true/\(v=w↔d=e):=by
 cases d with
 | non=>have:=r.non_inv;subst this;cases e <;> first|exact ff h|(have:=s.non_inv;subst this;exact⟨rfl,by simp⟩)|(have:=s.int_inv;subst this;exact⟨rfl,by simp⟩)|(have:=s.bl_inv;subst this;exact⟨rfl,by simp⟩)|(have:=s.str_inv;subst this;exact⟨rfl,by simp⟩)
 | int i=>have:=r.int_inv;subst this;cases e <;> first|exact ff h|(have:=s.non_inv;subst this;exact⟨rfl,by simp⟩)|(have:=s.int_inv;subst this;exact⟨rfl,by simp⟩)|(have:=s.bl_inv;subst this;exact⟨rfl,by simp⟩)|(have:=s.str_inv;subst this;exact⟨rfl,by simp⟩)
 | bl b=>have:=r.bl_inv;subst this;cases e <;> first|exact ff h|(have:=s.non_inv;subst this;exact⟨rfl,by simp⟩)|(have:=s.int_inv;subst this;exact⟨rfl,by simp⟩)|(have:=s.bl_inv;subst this;exact⟨rfl,by simp⟩)|(have:=s.str_inv;subst this;exact⟨rfl,by simp⟩)
 | str x=>have:=r.str_inv;subst this;cases e <;> first|exact ff h|(have:=s.non_inv;subst this;exact⟨rfl,by simp⟩)|(have:=s.int_inv;subst this;exact⟨rfl,by simp⟩)|(have:=s.bl_inv;subst this;exact⟨rfl,by simp⟩)|(have:=s.str_inv;subst this;exact⟨rfl,by simp⟩)
 | _=>exact ff h
section
variable {X:Cx}{O:List Nat}
theorem OpR.orM(h:OpR X f r)(h':OpR X f r')(x:∀a b H Q,r2 a b H Q->r a b H Q\/r' a b H Q):OpR X f r2:=OpR.mono (OpR.or h h') x
theorem jE(h:fG d=true):∃x,iM d=some x/\x.nb=true/\x.dep<=60:=by
 unfold fG at h;cases e:iM d with
 | none=>rw[e]at h;cases h
 | some x=>rw[e]at h;simp only[ZK,decide_eq_true_eq]at h;exact⟨x,rfl,h.1,h.2⟩
theorem A5(h:QQ d=true)(e:iM d=some x):x.seq=true:=by
 cases d with
 | tup l=>rw[iM]at e;obtain⟨xs,_,rfl⟩:=map_some e;rfl
 | lst l=>rw[iM]at e;obtain⟨xs,_,rfl⟩:=map_some e;rfl
 | _=>exact ff h
theorem TN(hu:X.A.units+64<cLine):iK X (YR .Eq) rN:=OpR.orM SX (My.QK hu) <| by
 rintro x y H Q ⟨A,dx,W,d,lv,rx,Y,e,q⟩;obtain⟨b,F,rfl⟩:=map_some e;unfold HW at F;split at F
 case isFalse=>cases F
 rename_i hc;cases F;rcases hc with hs|⟨s1,s2,k1,k2⟩
 ·left
  obtain⟨h1,h2⟩:=GK hs rx Y;refine⟨h1,?_⟩;have:decide (x=y)=@decide (dx=W) (zaV _):=decide_eq_decide.mpr h2;rw[this];exact q _ H (Ext.refl _ _) (.bl _)
 ·right
  obtain⟨N,J,a2,a3⟩:=jE k1;obtain⟨U,B,b2,b3⟩:=jE k2;refine⟨N,U,gX J rx,gX B Y,A5 s1 J,A5 s2 B,a2,b2,a3,?_⟩;have:@decide (N=U) (zaV _)=@decide (dx=W) (zaV _):=decide_eq_decide.mpr ⟨λz=>lW J (z ▸ B),λz=>by subst z;rw[J]at B;exact ZI B⟩;show Q (.bl (@decide (N=U) (zaV _))) H;rw[this];exact q _ H (Ext.refl _ _) (.bl _)
theorem TB(hu:X.A.units+64<cLine):iK X (YR .NotEq) DM:=OpR.orM RU (My.QH hu) <| by
 rintro x y H Q ⟨A,dx,W,d,lv,rx,Y,e,q⟩;obtain⟨b,F,rfl⟩:=map_some e;unfold HW at F;split at F
 case isFalse=>cases F
 rename_i hc;cases F;rcases hc with hs|⟨s1,s2,k1,k2⟩
 ·left
  obtain⟨h1,h2⟩:=GK hs rx Y;refine⟨h1,?_⟩;have:decide (x=y)=@decide (dx=W) (zaV _):=decide_eq_decide.mpr h2;rw[this];exact q _ H (Ext.refl _ _) (.bl _)
 ·right
  obtain⟨N,J,a2,a3⟩:=jE k1;obtain⟨U,B,b2,b3⟩:=jE k2;refine⟨N,U,gX J rx,gX B Y,A5 s1 J,A5 s2 B,a2,b2,a3,?_⟩;have:@decide (N=U) (zaV _)=@decide (dx=W) (zaV _):=decide_eq_decide.mpr ⟨λz=>lW J (z ▸ B),λz=>by subst z;rw[J]at B;exact ZI B⟩;show Q (.bl (!@decide (N=U) (zaV _))) H;rw[this];exact q _ H (Ext.refl _ _) (.bl _)
noncomputable def BA:D->Bool
 | .non=>true|_=>false
def C9(d e:D):Option D:=if BA e then some (.bl (BA d))else none
theorem LG(r:RepB A H d v):decide (v=.non)=BA d:=by
 cases d with
 | non=>have:=r.non_inv;subst this;rfl
 | bl b=>have:=r.bl_inv;subst this;rfl
 | int b=>have:=r.int_inv;subst this;rfl
 | str b=>have:=r.str_inv;subst this;rfl
 | tup l=>obtain⟨_,_,rfl,_⟩:=r.tup_inv;rfl
 | lst l=>obtain⟨_,_,rfl,_⟩:=r.lst_inv;rfl
 | dK l=>obtain⟨_,_,rfl,_⟩:=r.dK_inv;rfl
 | dT l=>obtain⟨_,_,rfl,_⟩:=r.dT_inv;rfl
 | ob a C l=>obtain⟨_,_,rfl,_⟩:=r.ob_inv;rfl
theorem M9:iK X (YR .Is) C9:=OpR.mono P1 <| by
 rintro x y H Q ⟨A,dx,B,d,N,F,J,e,q⟩;unfold C9 at e;cases B with
 | non=>cases e;have:=J.non_inv;subst this;exact⟨rfl,by rw[LG F];exact q _ H (Ext.refl _ _) (.bl _)⟩
 | _=>exact nn e
theorem Inv.lstR(I:Inv X pins σ H s)(B:Rd H l (.lst xs)):xs.length<=YN/\∃(q:List Value) (n:Nat),Vals xs q/\xs.length=q.length/\s.heap.get? l=some {cls:=.type "list",data:=.seq q.toArray n}:=by
 obtain⟨F,q,n,r,e⟩:=(show ObjOk X.prog X.w H s.heap l (.lst xs)from B.ok I.hok);exact⟨F,q,n,r,r.length,e⟩
def SO:R2:=λx y H Q=>∃l b xs zs,x=.ref l/\y=.ref b/\Rd H l (.lst xs)/\Rd H b (.lst zs)/\xs.length+zs.length<=YN/\∀p,H p=none->Q (.ref p) (upd H p (.lst (xs++zs)))
theorem JY:OpR X (ZC .Add) SO:=by
 intro pins s σ H x y v u Q I rx W h;obtain⟨l,b,xs,zs,rfl,rfl,N,Y,hz,q⟩:=h;cases rx;cases W;obtain⟨z,F,n,r,hl,e⟩:=Inv.lstR I N;obtain⟨z2,B,n2,J,aa,e2⟩:=Inv.lstR I Y;refine PySem.P.add_list e e2 ?_ (by rw[Y1,Y1];lia);have U:F.toArray++B.toArray=(F++B).toArray:=by simp
 rw[U];exact⟨.ref _,_,I.lnew (t':=s.toks) (r.append J) (by rw[ZG];lia),rfl,q _ I.fresh⟩
end
section
variable {X:Cx}{O:List Nat}
theorem RepL.nil_iff(r:RepL A H ds vs):vs=[]↔ds=[]:=by cases r <;> simp
def tP:D->D->Option D
 | .int i,.int j=>some (.int (i+j))
 | .str i,.str j=>if bO (i.length+j.length)then some (.str (i++j))else none
 | .lst l,.lst m=>if bO (l.length+m.length)then some (.lst (l++m))else none
 | .tup (a::l),.tup m=>if bO (l.length+1+m.length)then some (.tup (a::l++m))else none
 | _,_=>none
theorem OL:iK X (ZC .Add) tP:=OpR.mono (OpR.or (OpR.or OP yN) (OpR.or JY JE)) <| by
 rintro x y H Q ⟨A,dx,U,d,lv,Y,W,e,q⟩;cases dx with
 | int i=>
  cases U with
  | int j=>cases e;have:=Y.int_inv;subst this;have:=W.int_inv;subst this;exact .inl (.inl ⟨i,j,rfl,rfl,q _ H (Ext.refl _ _) (.int _)⟩)
  | _=>exact nn e
 | str i=>
  cases U with
  | str j=>
   simp only[tP]at e;by_cases B:bO (i.length+j.length)=true
   ·rw[if_pos B]at e;cases e;have:=Y.str_inv;subst this;have:=W.str_inv;subst this
    exact .inl (.inr ⟨i,j,rfl,rfl,fR B,q _ H (Ext.refl _ _) (.str _)⟩)
   ·rw[if_neg B]at e;cases e
  | _=>exact nn e
 | lst l=>
  cases U with
  | lst m=>
   simp only[tP]at e;by_cases B:bO (l.length+m.length)=true
   ·rw[if_pos B]at e;cases e
    obtain⟨a,xs,rfl,h1,F⟩:=Y.lst_inv;obtain⟨b,ys,rfl,h2,N⟩:=W.lst_inv;exact .inr (.inl ⟨a,b,xs,ys,rfl,rfl,h1,h2,by rw[F.length,N.length];exact fR B,λp J=>q _ _ (Ext.new J) (.lst (λz=>lv p z J) (.inl aM) ((F.append N).ext (Ext.new J)))⟩)
   ·rw[if_neg B]at e;cases e
  | _=>exact nn e
 | tup l=>
  cases l with
  | nil=>cases U <;> exact nn e
  | cons a0 l=>
   cases U with
   | tup m=>
    simp only[tP]at e;by_cases B:bO (l.length+1+m.length)=true
    ·rw[if_pos B]at e;cases e
     obtain⟨a,xs,rfl,h1,F⟩:=Y.tup_inv;obtain⟨b,ys,rfl,h2,N⟩:=W.tup_inv;refine .inr (.inr ⟨a,b,xs,ys,rfl,rfl,.inl (.inl h1),.inl (.inl h2),λz=>(by have:=F.nil_iff.mp z;cases this),by rw[F.length,N.length];exact fR B,λz=>?_,λ_ p J=>q _ _ (Ext.new J) (.tup aM ((F.append N).ext (Ext.new J)))⟩);refine q _ H (Ext.refl _ _) (.tup h1 ?_);have:=N.nil_iff.mp z;subst this;rw[zam];exact F
    ·rw[if_neg B]at e;cases e
   | _=>exact nn e
 | _=>exact nn e
noncomputable def jJ:List D->Option (List Int)
 | []=>some []
 | .int i::ds=>(jJ ds).map (i::·)
 | _=>none
theorem eY:∀ {ds:List D} {ns:List Int} {vs:List V},jJ ds=some ns->RepL A H ds vs->vs=ns.map V.int
 | [],ns,vs,h,r=>by cases h;cases r;rfl
 | .int i::ds,ns,vs,h,r=>by
  obtain⟨ms,h1,rfl⟩:=map_some h;cases r with
  | cons r rs=>cases r;rw[eY h1 rs];rfl
def DJ:D->D->Option D
 | .int i,.int j=>some (.bl (decide (i<j)))
 | .tup l,.tup m=>(jJ l).bind λns=>(jJ m).map λms=>.bl (HT.lexLt ns ms)
 | _,_=>none
theorem OQ(U:X.A.units<cLine):iK X (YR .Lt) DJ:=OpR.mono (OpR.or TK (OA U)) <| by
 rintro x y H Q ⟨A,dx,B,d,lv,J,F,e,q⟩;cases dx with
 | int i=>
  cases B with
  | int j=>cases e;have:=J.int_inv;subst this;have:=F.int_inv;subst this;exact .inl ⟨i,j,rfl,rfl,q _ H (Ext.refl _ _) (.bl _)⟩
  | _=>exact nn e
 | tup l=>
  cases B with
  | tup m=>
   obtain⟨ns,Y,e⟩:=bind_some e;obtain⟨ms,e2,rfl⟩:=map_some e;obtain⟨a,xs,rfl,h1,W⟩:=J.tup_inv;obtain⟨b,ys,rfl,h2,N⟩:=F.tup_inv;have:=eY Y W;subst this;have:=eY e2 N;subst this;exact .inr ⟨a,b,ns,ms,rfl,rfl,.inl (.inl h1),.inl (.inl h2),q _ H (Ext.refl _ _) (.bl _)⟩
  | _=>exact nn e
 | _=>exact nn e
open Classical in
def vA(x y:D):Option Bool:=match y with
 | .dK _=>(lZ y x).map (·.isSome)
 | .dT _=>(lZ y x).map (·.isSome)
 | .lst l=>if fG x=true/\l.all fG=true then some (l.any λd=>decide (d=x))else none
 | .tup l=>if fG x=true/\l.all fG=true then some (l.any λd=>decide (d=x))else none
 | _=>none
def RN(x y:D):Option D:=(vA x y).map .bl
def u4(x y:D):Option D:=(vA x y).map λb=>.bl (!b)
open Classical in
theorem lO(I:Inv X pins σ H s)(hu:Ar.units+60<cLine)(kx:fG x=true)(rx:RepB A H x v)(ru:RelV v u)(kl:l.all fG=true)(rl:RepL A H l xs)(rv:Vals xs B) :
  ∃f:Value->Bool,(∀y∈B,zaT Ar s y u (f y))/\B.any f=l.any λd=>decide (d=x):=by
 obtain⟨F,J,a2,a3⟩:=jE kx;have N:My.Rep X.K H F v:=gX J rx;let g:Value->Bool:=λy=>decide (∃w z,RelV w y/\My.Rep X.K H z w/\z=F)
 have one:∀ {d:D} {w:V} {y:Value},fG d=true->Rep A H d w->RelV w y->g y=decide (d=x)/\zaT Ar s y u (g y):=by
  intro d w y kd rd U;obtain⟨z,Y,b2,b3⟩:=jE kd;have rz:My.Rep X.K H z w:=pE Y rd;have e:g y=decide (z=F):=by
   refine decide_eq_decide.mpr ⟨λ⟨w',z',q1,q2,q3⟩=>?_,λe=>⟨w,z,U,rz,e⟩⟩;have:=RelV.inj U q1;subst this;rw[My.Rep.inj I _ _ _ rz q2,q3]
  have W:decide (z=F)=decide (d=x):=decide_eq_decide.mpr ⟨λq=>lW Y (q ▸ J),λq=>by subst q;rw[Y]at J;exact ZI J⟩;refine⟨e.trans W,?_⟩;rw[e];exact My.pC I 60 Ar z F w v y u b3 hu b2 a2 rz N U ru
 refine⟨g,?_,?_⟩
 ·intro y hy
  obtain⟨j,hj⟩:=List.mem_iff_getElem?.mp hy;have ag:=rv.length;have ap:j<B.length:=(List.getElem?_eq_some_iff.mp hj).1;have hx:xs[j]?=some (xs[j]'(by lia)):=zap (by lia);obtain⟨u',e1,r1⟩:=rv.get hx;rw[hj]at e1;cases e1;obtain⟨d,W,r2⟩:=rl.get hx;exact(one (List.all_eq_true.mp kl _ (zbe W)) r2 r1).2
 ·have all:∀(l:List D) (xs:List V) (B:List Value),l.all fG=true->RepL A H l xs->Vals xs B->B.any g=l.any λd=>decide (d=x):=by
   intro l;induction l with
   | nil=>intro xs B _ r v;cases r;cases v;rfl
   | cons d l ih=>
    intro xs B k r v;cases r with
    | cons h t=>
     cases v with
     | cons r rs=>
      rw[zbf,ZK]at k;rw[zao,zao,(one k.1 h r).1,ih _ _ k.2 t rs]
  exact all l xs B kl rl rv
open Classical in
theorem KR(I:Inv X pins σ H s)(hu:Ar.units+60<cLine)(kx:fG x=true)(rx:RepB A H x v)(ru:RelV v u)(kl:l.all fG=true)(rl:RepL A H l xs)(rv:Vals xs its) :
  ∃f:Value->Bool,(∀y∈its,zaT Ar s y u (f y))/\∀(j:Nat) (d:D) (y:Value),l[j]?=some d->its[j]?=some y->f y=decide (d=x):=by
 obtain⟨F,N,a2,a3⟩:=jE kx;have W:My.Rep X.K H F v:=gX N rx;let g:Value->Bool:=λy=>decide (∃w z,RelV w y/\My.Rep X.K H z w/\z=F)
 have one:∀ {d:D} {w:V} {y:Value},fG d=true->Rep A H d w->RelV w y->g y=decide (d=x)/\zaT Ar s y u (g y):=by
  intro d w y kd rd Y;obtain⟨z,b1,b2,b3⟩:=jE kd;have rz:My.Rep X.K H z w:=pE b1 rd;have e:g y=decide (z=F):=by
   refine decide_eq_decide.mpr ⟨λ⟨w',z',q1,q2,q3⟩=>?_,λe=>⟨w,z,Y,rz,e⟩⟩;have:=RelV.inj Y q1;subst this;rw[My.Rep.inj I _ _ _ rz q2,q3]
  have B:decide (z=F)=decide (d=x):=decide_eq_decide.mpr ⟨λq=>lW b1 (q ▸ N),λq=>by subst q;rw[b1]at N;exact ZI N⟩;refine⟨e.trans B,?_⟩;rw[e];exact My.pC I 60 Ar z F w v y u b3 hu b2 a2 rz W Y ru
 refine⟨g,?_,?_⟩
 ·intro y hy
  obtain⟨j,hj⟩:=List.mem_iff_getElem?.mp hy;have aj:=rv.length;have ar:j<its.length:=(List.getElem?_eq_some_iff.mp hj).1;have hx:xs[j]?=some (xs[j]'(by lia)):=zap (by lia);obtain⟨u',J,r1⟩:=rv.get hx;rw[hj]at J;cases J;obtain⟨d,B,U⟩:=rl.get hx;exact(one (List.all_eq_true.mp kl _ (zbe B)) U r1).2
 ·intro j d y hd hy
  obtain⟨w,J,r1⟩:=rl.get' hd;obtain⟨u',B,U⟩:=rv.get J;rw[hy]at B;cases B;exact(one (List.all_eq_true.mp kl _ (zbe hd)) r1 U).1
theorem S9(hu:X.A.units+64<cLine):iK X (YR .In) RN:=by
 intro pins s σ H x y v u Q I Y ru h;obtain⟨A,dx,dy,d,lv,rx,U,e,q⟩:=h;obtain⟨b,B,rfl⟩:=map_some e;have fin:∀k,k=b->EP X pins σ Q (.bool k) s:=λk hk=>⟨.bl b,H,I,by rw[hk];rfl,q _ H (Ext.refl _ _) (.bl _)⟩
 have ac:X.A.units+1<cLine:=by lia
 have dict:∀o,lZ dy dx=some o->o.isSome=b->wpAny (model X.prog X.w) X.A (YR .In v u) (EP X pins σ Q) X.xe s:=λo F J=>by
  obtain⟨a,ov,rfl,_,g,e3⟩:=qM F U rx;cases ru;refine V3 ac I g Y λs' I'=>⟨.bl b,H,I',?_,q _ H (Ext.refl _ _) (.bl _)⟩
  have:ov.isSome=b:=by rw[<- J];rcases e3 with⟨rfl,rfl⟩|⟨_,_,rfl,rfl,_⟩ <;> rfl
  rw[this];rfl
 cases dy with
 | dK l=>obtain⟨o,F,J⟩:=map_some B;exact dict o F J
 | dT l=>obtain⟨o,F,J⟩:=map_some B;exact dict o F J
 | lst l=>
  simp only[vA]at B;split at B
  case isFalse=>cases B
  rename_i hc;cases B;obtain⟨a,xs,rfl,h1,r1⟩:=U.lst_inv;cases ru;obtain⟨N,r,pl,hz⟩:=I.list (.inl h1);obtain⟨f,f1,W⟩:=lO (Ar:=X.A.in1) I (by show X.A.units+1+60<cLine;lia) hc.1 rx Y hc.2 r1 r;refine SeqAt.in_listAt f (My.PlainL.isList pl) (λw hw=>f1 w (by simpa using hw)) (fin _ ?_);rw[<- W];simp
 | tup l=>
  simp only[vA]at B;split at B
  case isFalse=>cases B
  rename_i hc;cases B;obtain⟨a,xs,rfl,h1,r1⟩:=U.tup_inv;cases ru;obtain⟨N,r,pl,hz⟩:=I.tuple (.inl (.inl h1));obtain⟨f,f1,W⟩:=lO (Ar:=X.A.in1) I (by show X.A.units+1+60<cLine;lia) hc.1 rx Y hc.2 r1 r;refine SeqAt.in_tupleAt f pl (λw hw=>f1 w (by simpa using hw)) (fin _ ?_);rw[<- W];simp
 | _=>cases B
theorem FK(hu:X.A.units+64<cLine):iK X (YR .NotIn) u4:=by
 intro pins s σ H x y v u Q I Y ru h;obtain⟨A,dx,dy,d,lv,rx,U,e,q⟩:=h;obtain⟨b,B,rfl⟩:=map_some e;have fin:∀k,k=(!b)->EP X pins σ Q (.bool k) s:=λk hk=>⟨.bl (!b),H,I,by rw[hk];rfl,q _ H (Ext.refl _ _) (.bl _)⟩
 have ac:X.A.units+1<cLine:=by lia
 have dict:∀o,lZ dy dx=some o->o.isSome=b->wpAny (model X.prog X.w) X.A (YR .NotIn v u) (EP X pins σ Q) X.xe s:=λo F J=>by
  obtain⟨a,ov,rfl,_,g,e3⟩:=qM F U rx;cases ru;refine JQ ac I g Y λs' I'=>⟨.bl (!b),H,I',?_,q _ H (Ext.refl _ _) (.bl _)⟩
  have:ov.isSome=b:=by rw[<- J];rcases e3 with⟨rfl,rfl⟩|⟨_,_,rfl,rfl,_⟩ <;> rfl
  rw[this];rfl
 cases dy with
 | dK l=>obtain⟨o,F,J⟩:=map_some B;exact dict o F J
 | dT l=>obtain⟨o,F,J⟩:=map_some B;exact dict o F J
 | lst l=>
  simp only[vA]at B;split at B
  case isFalse=>cases B
  rename_i hc;cases B;obtain⟨a,xs,rfl,h1,r1⟩:=U.lst_inv;cases ru;obtain⟨N,r,pl,hz⟩:=I.list (.inl h1);obtain⟨f,f1,W⟩:=lO (Ar:=X.A.in1) I (by show X.A.units+1+60<cLine;lia) hc.1 rx Y hc.2 r1 r;refine SeqAt.notIn_listAt f (My.PlainL.isList pl) (λw hw=>f1 w (by simpa using hw)) (fin _ ?_);rw[<- W];simp
 | tup l=>
  simp only[vA]at B;split at B
  case isFalse=>cases B
  rename_i hc;cases B;obtain⟨a,xs,rfl,h1,r1⟩:=U.tup_inv;cases ru;obtain⟨N,r,pl,hz⟩:=I.tuple (.inl (.inl h1));obtain⟨f,f1,W⟩:=lO (Ar:=X.A.in1) I (by show X.A.units+1+60<cLine;lia) hc.1 rx Y hc.2 r1 r;refine SeqAt.notIn_tupleAt f pl (λw hw=>f1 w (by simpa using hw)) (fin _ ?_);rw[<- W];simp
 | _=>cases B
def b4:List D->Option D
 | [.lst l]=>some (.int l.length)
 | [.tup l]=>some (.int l.length)
 | [.str z]=>if bO z.length then some (.int z.length)else none
 | [.dK l]=>some (.int l.length)
 | _=>none
theorem QI:fU X (.builtin "len") b4:=by
 intro pins s σ H xs N Q I r h;obtain⟨A,ds,d,lv,B,e,q⟩:=h
 match ds,B,e with
 | [.lst l],B,e=>
  cases e;obtain⟨v,rfl,h1⟩:=B.one;obtain⟨a,xs,rfl,h2,F⟩:=h1.lst_inv;exact qH pins s σ H _ N Q I r ⟨_,_,rfl,.inl ⟨xs,.inl h2,rfl⟩,by rw[F.length];exact q _ H (Ext.refl _ _) (.int _)⟩
 | [.tup l],B,e=>
  cases e;obtain⟨v,rfl,h1⟩:=B.one;obtain⟨a,xs,rfl,h2,F⟩:=h1.tup_inv;exact qH pins s σ H _ N Q I r ⟨_,_,rfl,.inr ⟨xs,.inl (.inl h2),rfl⟩,by rw[F.length];exact q _ H (Ext.refl _ _) (.int _)⟩
 | [.str z],B,e=>
  simp only[b4]at e;by_cases J:bO z.length=true
  ·rw[if_pos J]at e;cases e
   obtain⟨v,rfl,h1⟩:=B.one;have:=h1.str_inv;subst this;exact qH pins s σ H _ N Q I r ⟨_,_,rfl,⟨fR J,rfl⟩,q _ H (Ext.refl _ _) (.int _)⟩
  ·rw[if_neg J]at e;cases e
 | [.dK l],B,e=>
  cases e;obtain⟨v,rfl,h1⟩:=B.one;obtain⟨a,xs,rfl,h2,e2,F⟩:=h1.dK_inv;obtain⟨u,rfl,Y⟩:=vals1 r;cases Y;have W:xs.length=l.length:=by have:=congrArg zay e2;simpa using this
  exact RY I h2 λt s' U=>⟨.int xs.length,H,U,⟨t,rfl⟩,by rw[W];exact q _ H (Ext.refl _ _) (.int _)⟩
 | [],_,e=>cases e
 | [.non],_,e=>cases e
 | [.bl _],_,e=>cases e
 | [.int _],_,e=>cases e
 | [.dT _],_,e=>cases e
 | _::_::_,_,e=>simp[b4]at e
noncomputable def xH:List D->Option D
 | [.int i,.int j]=>some (.int (if j<i then j else i))
 | _=>none
noncomputable def xA:List D->Option D
 | [.int i,.int j]=>some (.int (if j>i then j else i))
 | _=>none
theorem wZ{ds:List D}{g:Int->Int->D}(h:(match ds with|[.int i,.int j]=>some (g i j)|_=>none)=some d):∃i j,ds=[.int i,.int j]/\d=g i j:=by
 split at h
 ·cases h;exact⟨_,_,rfl,rfl⟩
 ·cases h
theorem KB(B:X.calm=true):fU X (.builtin "min") xH:=CallR.mono (C4 B) <| by
 rintro xs H Q ⟨A,ds,d,F,r,e,q⟩;obtain⟨i,j,rfl,rfl⟩:=wZ (g:=λi j=>.int (if j<i then j else i)) e;obtain⟨v,w,rfl,h1,h2⟩:=r.two;have:=h1.int_inv;subst this;have:=h2.int_inv;subst this;exact⟨i,j,rfl,q _ H (Ext.refl _ _) (.int _)⟩
theorem JV(B:X.calm=true):fU X (.builtin "max") xA:=CallR.mono (B7 B) <| by
 rintro xs H Q ⟨A,ds,d,F,r,e,q⟩;obtain⟨i,j,rfl,rfl⟩:=wZ (g:=λi j=>.int (if j>i then j else i)) e;obtain⟨v,w,rfl,h1,h2⟩:=r.two;have:=h1.int_inv;subst this;have:=h2.int_inv;subst this;exact⟨i,j,rfl,q _ H (Ext.refl _ _) (.int _)⟩
noncomputable def qX:List D->Option D
 | [.lst l]=>some (.tup l)
 | [.tup l]=>some (.tup l)
 | _=>none
theorem JD{ds:List D}{g:List D->D}(h:(match ds with|[.lst l]=>some (g l)|[.tup l]=>some (g l)|_=>none)=some d):∃l,(ds=[.lst l]\/ds=[.tup l])/\d=g l:=by
 split at h
 ·cases h;exact⟨_,.inl rfl,rfl⟩
 ·cases h;exact⟨_,.inr rfl,rfl⟩
 ·cases h
theorem wR:fU X (.type "tuple") qX:=CallR.mono rR <| by
 rintro xs H Q ⟨A,ds,d,N,r,e,q⟩;obtain⟨l,J,rfl⟩:=JD (g:=.tup) e;rcases J with rfl|rfl
 ·obtain⟨v,rfl,h1⟩:=r.one
  obtain⟨a,xs,rfl,h2,B⟩:=h1.lst_inv;exact⟨a,xs,rfl,.inl ⟨.inl h2,λp F=>q _ _ (Ext.new F) (.tup aM (B.ext (Ext.new F)))⟩⟩
 ·obtain⟨v,rfl,h1⟩:=r.one
  obtain⟨a,xs,rfl,h2,B⟩:=h1.tup_inv;exact⟨a,xs,rfl,.inr ⟨.inl (.inl h2),q _ H (Ext.refl _ _) (.tup h2 B)⟩⟩
end
section
variable {X:Cx}{O:List Nat}
noncomputable def W7:D->String
 | .non => "NoneType" | .bl _ => "bool" | .int _ => "int" | .str _ => "str" | .tup _ => "tuple" | .lst _ => "list" | .dK _ => "dict" | .dT _ => "dict" | .ob _ _ _ => ""
noncomputable def oR:D->Bool
 | .ob _ _ _=>false|_=>true
def VR(K:YH):List V->Hp->VK->Prop:=λxs H Q=>∃A d x n b,xs=[x,.ty n]/\oR d=true/\RepB A H d x/\zbP K (.type (W7 d)) (.type n)=some b/\Q (.bl b) H
theorem DU:CallR X (.builtin "isinstance") (VR X.K):=by
 intro pins s σ H xs U Q I r h;obtain⟨A,d,x,n,b,rfl,J,B,e,q⟩:=h;have go:∀t,TyOf X.K H x t->t=.type (W7 d)->wpAny (model X.prog X.w) X.A (call (.builtin "isinstance") U) (EP X pins σ Q) X.xe s:=λt ht W=>by
  subst W;exact My.E9 pins s σ H _ U Q I r ⟨x,n,_,b,rfl,ht,e,q⟩
 cases d with
 | non=>have:=B.non_inv;subst this;exact go _ .non rfl
 | bl c=>have:=B.bl_inv;subst this;exact go _ (.bl c) rfl
 | int c=>have:=B.int_inv;subst this;exact go _ (.int c) rfl
 | str c=>have:=B.str_inv;subst this;exact go _ (.str c) rfl
 | tup l=>obtain⟨a,xs,rfl,h1,_⟩:=B.tup_inv;exact go _ (.tup h1) rfl
 | lst l=>
  obtain⟨a,xs,rfl,h1,_⟩:=B.lst_inv;rcases h1 with h1|⟨o,h1⟩
  ·exact go _ (.lst h1) rfl
  ·exact go _ (.frz h1) rfl
 | dK l=>
  obtain⟨a,xs,rfl,h1,_⟩:=B.dK_inv;obtain⟨u,Y,rfl,N,F⟩:=vals2 r;cases N;cases F;obtain⟨_,_,vs,_,p⟩:=(show ObjOk X.prog X.w H s.heap a (.dK xs)from h1.ok I.hok);obtain⟨o,es,ep,h1,h2,_⟩:=p;exact zab zbQ I.kIn ⟨o,h1,h2.1⟩ e (λz=>nomatch z) λtk=>⟨.bl b,H,I.tok tk,rfl,q⟩
 | dT l=>
  obtain⟨a,xs,rfl,h1,_⟩:=B.dT_inv;obtain⟨u,Y,rfl,N,F⟩:=vals2 r;cases N;cases F;obtain⟨_,_,xs,_,o,es,ep,h1,h2,_⟩:=(show ObjOk X.prog X.w H s.heap a (.dT xs)from h1.ok I.hok);exact zab zbQ I.kIn ⟨o,h1,h2.1⟩ e (λz=>nomatch z) λtk=>⟨.bl b,H,I.tok tk,rfl,q⟩
 | ob _ _ _=>cases J
noncomputable def xI(n:String)(d:D):Bool:=match d with
 | .non=>false
 | .bl _=>n == "bool" || n == "int"
 | .int _=>n == "int"
 | .str _=>n == "str"
 | .tup _=>n == "tuple"
 | .lst _=>n == "list"
 | .dK _=>n == "dict"
 | .dT _=>n == "dict"
 | _=>false
def UU(n:String):Prop:=∀(K:YH) (d:D),oR d=true->zbP K (.type (W7 d)) (.type n)=some (xI n d)
theorem JG:UU "int" := λK d h=>by cases d <;> first|rfl|cases h
theorem E2:UU "bool" := λK d h=>by cases d <;> first|rfl|cases h
theorem I0:UU "str" := λK d h=>by cases d <;> first|rfl|cases h
theorem kit_tuple:UU "tuple" := λK d h=>by cases d <;> first|rfl|cases h
def xR(n:String)(f:Ev):Ev:=λρ=>(f ρ).bind λd=>if oR d=true then some (.bl (xI n d))else none
theorem uZ(J:UU n)(hg:Gl X "isinstance")(hm:X.mg "isinstance" = none)(F:Gl X x)(N:X.mg x=none)(Y:ZA x=some (.type n))(U:PB X O e f)(B:x ≠ "__name__" := by decide)(hd:(x == ("__debug__" : Str))=false:=by decide)
  (h1:YG [e,.Name x p2] X.env=(false,eval e X.env)::YG [.Name x p2] X.env:=by rfl) (h2:(YO pos (YG [.Name x p2] X.env)).any (·.1)=false:=by rfl) (h3:YG [.Name x p2] X.env=(false,eval (.Name x p2) X.env)::YG [] X.env:=by rfl) :
  PD X O (.Call (.Name "isinstance" p) [e,.Name x p2] [] pos) (xR n f):=
 PE.mono (vU DU hg hm My.boot_isinstance (bP U (bP (KU (v:=.ty n) F N Y rfl B hd) gH h3) h1) (by decide) (by decide) h1 h2) <| by
  rintro σ H Q ⟨H0,A0,A,E,ρ,d,st,e,q⟩;obtain⟨x,ex,e⟩:=bind_some e;by_cases B:oR x=true
  ·rw[if_pos B]at e
   cases e;exact⟨H0,A0,A,E,ρ,x,st,ex,λv H1 W r1=>⟨A,x,v,n,_,rfl,B,r1,J _ _ B,q _ H1 W (.bl _)⟩⟩
  ·rw[if_neg B]at e;cases e
def ins{α:Type}(p:List Int×α):List (List Int×α)->List (List Int×α)
 | []=>[p]
 | q::r=>if HT.lexLt p.1 q.1=true then p::q::r else q::ins p r
def A8(g:D->Option D)(f:Ev):Ev:=λρ=>(f ρ).bind g
end
def DB:D->Option Int->Option Int->Option D
 | .tup l,lo,hi=>some (.tup (cutD l lo hi))
 | .lst l,lo,hi=>some (.lst (cutD l lo hi))
 | _,_,_=>none
theorem V9:SlR X (rS DB):=SlR.mono (SlR.or WE (SlR.mono VV λx lo hi H Q (h:rS UN x lo hi H Q)=>by
  obtain⟨A,dx,d,B,F,e,q⟩:=h;exact⟨A,dx,d,B,F,e,λa H' x n N o=>q _ H' x ((o.av (A':=A) λb J=>.inl (.inl J)).rep N)⟩)) λx lo hi H Q ⟨A,dx,d,B,F,e,q⟩=>by
 cases dx with
 | tup l=>exact .inl ⟨A,_,d,B,F,e,q⟩
 | lst l=>exact .inr ⟨A,_,d,B,F,e,q⟩
 | _=>exact nn e
section
variable {ρ:bI}{f g:Ev}{d x y:D}{i j:Int}{k:Nat}
@[simp] theorem q_seq{f g:Sv}:eK f g ρ=(f ρ).bind λo=>match o with | .nx ρ'=>g ρ'|o=>some o:=rfl
@[simp] theorem q_set:eL k f ρ=(f ρ).map λd=>.nx (ρ.set k (some d)):=rfl
@[simp] theorem q_if{c:Bv}{f g:Sv}:pL c f g ρ=(c ρ).bind λb=>if b=true then f ρ else g ρ:=rfl
@[simp] theorem q_rt:HY f ρ=(f ρ).map .rt:=rfl
@[simp] theorem q_nx:BK ρ=some (.nx ρ):=rfl
@[simp] theorem q_bad:xQ ρ=none:=rfl
@[simp] theorem q_asg{g:Gv}:QS f g ρ=(f ρ).bind λd=>(g d ρ).map .nx:=rfl
@[simp] theorem q_for{f:Lv}{g:Gv}{b:Sv}:DG f g b ρ=(f ρ).bind λitems=>dI g b items ρ:=rfl
@[simp] theorem q_drop:rG f ρ=(f ρ).map λ_=>.nx ρ:=rfl
@[simp] theorem q_app:zI k f ρ=(aE k ρ).bind λx=>match x with
 | .lst l=>(f ρ).bind λd=>if bO l.length then some (.nx (ρ.set k (some (.lst (l++[d])))))else none
 | _=>none:=rfl
@[simp] theorem q_var:aE k ρ=(ρ[k]?).join:=rfl
@[simp] theorem q_c:eC d ρ=some d:=rfl
@[simp] theorem q_op:aR o f g ρ=(f ρ).bind λx=>(g ρ).bind λy=>o x y:=rfl
@[simp] theorem q_call:aT F l ρ=(l ρ).bind F:=rfl
@[simp] theorem q_lnil:aY ρ=some []:=rfl
@[simp] theorem q_lcons:aH f l ρ=(f ρ).bind λx=>(l ρ).bind λxs=>some (x::xs):=rfl
@[simp] theorem q_tup:vC l ρ=(l ρ).map .tup:=rfl
@[simp] theorem q_lst:mD l ρ=(l ρ).map .lst:=rfl
@[simp] theorem q_bind:A8 o f ρ=(f ρ).bind o:=rfl
@[simp] theorem q_bof:c9 f ρ=(f ρ).bind BM:=rfl
@[simp] theorem q_asB:BM (.bl b)=some b:=rfl
@[simp] theorem q_asI:MV (.int i)=some i:=rfl
@[simp] theorem q_bnot:xO c ρ=(c ρ).map (!·):=rfl
@[simp] theorem q_band:mC a b ρ=(a ρ).bind λx=>if x=true then b ρ else some false:=rfl
@[simp] theorem q_bor:LZ a b ρ=(a ρ).bind λx=>if x=true then some true else b ρ:=rfl
@[simp] theorem q_and:LN f g ρ=(f ρ).bind λx=>(BM x).bind λb=>if b=true then g ρ else some (.bl false):=rfl
@[simp] theorem q_or:RK f g ρ=(f ρ).bind λx=>(BM x).bind λb=>if b=true then some (.bl true)else g ρ:=rfl
@[simp] theorem q_not:T6 f ρ=(f ρ).bind λx=>(BM x).map λb=>.bl (!b):=rfl
@[simp] theorem q_neg:QX f ρ=(f ρ).bind λd=>(MV d).map λi=>.int (-i):=rfl
@[simp] theorem q_ifx:M0 c f g ρ=(c ρ).bind λb=>if b=true then f ρ else g ρ:=rfl
@[simp] theorem q_isi:xR n f ρ=(f ρ).bind λd=>if oR d=true then some (.bl (xI n d))else none:=rfl
@[simp] theorem no_int:oR (.int i)=true:=rfl
@[simp] theorem no_tup{l:List D}:oR (.tup l)=true:=rfl
@[simp] theorem no_lst{l:List D}:oR (.lst l)=true:=rfl
@[simp] theorem no_bl{b:Bool}:oR (.bl b)=true:=rfl
@[simp] theorem no_str{x:Str}:oR (.str x)=true:=rfl
@[simp] theorem no_non:oR .non=true:=rfl
@[simp] theorem q_sl:LW o f a b ρ=(f ρ).bind λx=>(a ρ).bind λlo=>(b ρ).bind λhi=>o x lo hi:=rfl
@[simp] theorem q_oN:BI ρ=some none:=rfl
@[simp] theorem q_oS:kF f ρ=(f ρ).bind λd=>(MV d).map some:=rfl
@[simp] theorem q_lR:lR o l ρ=(l ρ).bind o:=rfl
@[simp] theorem q_lSeq:HJ f ρ=(f ρ).bind λd=>match d with
 | .lst l=>some l
 | .tup l=>some l
 | .dT l=>some (l.map λp=>.tup (p.1.map DD))
 | _=>none:=rfl
@[simp] theorem q_comp{ms:List (Option Nat)}{it:Lv}{g:Gv}{c:Bv}:dU ms it g c f ρ=(it ρ).bind λitems=>if bO items.length then(dF g c f items (k4 ms ρ)).map .lst else none:=rfl
@[simp] theorem q_yes:jX ρ=some true:=rfl
@[simp] theorem q_name:a7 k d ρ=some (ρ.set k (some d)):=rfl
@[simp] theorem q_gnil:l5 [] ρ=some ρ:=rfl
@[simp] theorem q_gcons{g:Gv}{h:RD}{ds:List D}:cG g h (d::ds) ρ=(g d ρ).bind λρ'=>h ds ρ':=rfl
@[simp] theorem q_gtup:iI n h (.tup l) ρ=if l.length=n then h l ρ else none:=rfl
@[simp] theorem q_sub:mT (.int i) (.int j)=some (.int (i-j)):=rfl
@[simp] theorem q_addI:tP (.int i) (.int j)=some (.int (i+j)):=rfl
@[simp] theorem q_ltI:DJ (.int i) (.int j)=some (.bl (decide (i<j))):=rfl
@[simp] theorem q_gtI:DC (.int i) (.int j)=some (.bl (decide (j<i))):=rfl
@[simp] theorem q_geI:Q3 (.int i) (.int j)=some (.bl (decide (j<=i))):=rfl
@[simp] theorem q_eqI:rN (.int i) (.int j)=some (.bl (decide (i=j))):=by
 unfold rN HW;rw[if_pos (.inl rfl)];simp
@[simp] theorem q_neI:DM (.int i) (.int j)=some (.bl (!decide (i=j))):=by
 unfold DM HW;rw[if_pos (.inl rfl)];simp
@[simp] theorem q_eqB:rN (.bl a) (.bl b)=some (.bl (decide (a=b))):=by
 unfold rN HW;rw[if_pos (.inl rfl)];simp
@[simp] theorem q_neB:DM (.bl a) (.bl b)=some (.bl (!decide (a=b))):=by
 unfold DM HW;rw[if_pos (.inl rfl)];simp
theorem bF(h:0<j):iA (.int i) (.int j)=some (.int (i%j)):=if_pos h
theorem dG(h:0<j)(h2:j<1073741824):oQ (.int i) (.int j)=some (.int (i/j)):=if_pos ⟨h,h2⟩
theorem MA(h:0<=j)(h2:j<=1000000)(q:i.natAbs<2^64):LP (.int i) (.int j)=some (.int (i^j.toNat)):=if_pos ⟨h,h2,q⟩
@[simp] theorem q_isN:C9 d .non=some (.bl (BA d)):=rfl
@[simp] theorem q_lenL:b4 [.lst l]=some (.int l.length):=rfl
@[simp] theorem q_lenT:b4 [.tup l]=some (.int l.length):=rfl
@[simp] theorem q_min:xH [.int i,.int j]=some (.int (if j<i then j else i)):=rfl
@[simp] theorem q_max:xA [.int i,.int j]=some (.int (if j>i then j else i)):=rfl
@[simp] theorem q_tuL:qX [.lst l]=some (.tup l):=rfl
@[simp] theorem q_tuT:qX [.tup l]=some (.tup l):=rfl
@[simp] theorem q_slT{l:List D}{lo hi:Option Int}:DB (.tup l) lo hi=some (.tup (cutD l lo hi)):=rfl
@[simp] theorem q_slL{l:List D}{lo hi:Option Int}:DB (.lst l) lo hi=some (.lst (cutD l lo hi)):=rfl
@[simp] theorem q_itL:aO (.lst l) (.int i)=rP l i:=rfl
@[simp] theorem q_itT:aO (.tup l) (.int i)=rP l i:=rfl
@[simp] theorem q_itD:aO (.dT l) d=(lZ (.dT l) d).join:=rfl
@[simp] theorem isi_int_int:xI "int" (.int i)=true:=rfl
@[simp] theorem isi_bool_int:xI "bool" (.int i)=false:=rfl
@[simp] theorem isi_tuple_tup:xI "tuple" (.tup l)=true:=rfl
@[simp] theorem isi_list_lst:xI "list" (.lst l)=true:=rfl
end
def turn(g:Gv)(b:Sv)(x:D):Sv:=λρ=>(g x ρ).bind b
theorem y1(I:Nat->bI->Prop)(Y:I 0 ρ)(hs:∀i x ρ,items[i]?=some x->I i ρ->∃ρ',turn g b x ρ=some (.nx ρ')/\I (i+1) ρ'):∃ρ',dI g b items ρ=some (.nx ρ')/\I items.length ρ':=by
 have F:∀(m:List D) (k:Nat) (ρ:bI),items.drop k=m->k<=items.length->I k ρ->∃ρ',dI g b m ρ=some (.nx ρ')/\I items.length ρ':=by
  intro m;induction m with
  | nil=>
   intro k ρ e hk h;have:items.length<=k:=by rw[List.drop_eq_nil_iff]at e;exact e
   have:k=items.length:=by lia
   subst this;exact⟨ρ,rfl,h⟩
  | cons x m ih=>
   intro k ρ e hk h;have q:k<items.length:=by
    rcases Nat.lt_or_ge k items.length with z|z
    ·exact z
    ·rw[List.drop_eq_nil_iff.mpr z]at e;cases e
   rw[zbx q]at e;injection e with e1 e2
   obtain⟨ρ',h1,h2⟩:=hs k x ρ (by rw[<- e1];simp[q]) h;obtain⟨B,J,U⟩:=ih (k+1) ρ' e2 q h2;refine⟨B,?_,U⟩;unfold turn at h1;obtain⟨ρ1,N,W⟩:=bind_some h1;unfold dI;rw[N];show(b ρ1).bind _=_;rw[W];exact J
 exact F items 0 ρ rfl (zaa _) Y
theorem aS(h:f (a8 n ds)=some (.rt d)):bC n f ds=some d:=by
 unfold bC;rw[h];rfl
theorem gG(h:f (a8 n ds)=some (.nx ρ)):bC n f ds=some .non:=by
 unfold bC;rw[h];rfl
theorem aL(h:f ρ=some (.nx ρ')):eK f g ρ=g ρ':=by
 unfold eK;rw[h];rfl
theorem WI(h:c ρ=some true):pL c f g ρ=f ρ:=by
 unfold pL;rw[h];rfl
theorem WO(h:c ρ=some false):pL c f g ρ=g ρ:=by
 unfold pL;rw[h];rfl
theorem aU(h:f ρ=some d):eL k f ρ=some (.nx (ρ.set k (some d))):=by
 unfold eL;rw[h];rfl
theorem VS(h:f ρ=some d):HY f ρ=some (.rt d):=by
 unfold HY;rw[h];rfl
theorem IF{f:Lv}{g:Gv}{b rest:Sv}{ρ:bI}{items:List D}{q:Option Out}(F:f ρ=some items)(I:Nat->bI->Prop)(B:I 0 ρ)(hs:∀i x ρ,items[i]?=some x->I i ρ->∃ρ',turn g b x ρ=some (.nx ρ')/\I (i+1) ρ')(k:∀ρ',I items.length ρ'->rest ρ'=q):eK (DG f g b) rest ρ=q:=by
 obtain⟨ρ',e,h⟩:=y1 (g:=g) (b:=b) I B hs;rw[aL (by rw[q_for,F];exact e)];exact k ρ' h
open My (look put P3 TZ TV)
theorem wH{ns:List Int}{k:Int}(B:0<=k)(h:k<(ns.length:Int)):∃c,rP (ns.map D.int) k=some (.int c)/\ns[k.toNat]?=some c:=by
 obtain⟨j,rfl⟩:∃j:Nat,k=(j:Int):=⟨k.toNat,by lia⟩;have q:j<ns.length:=by lia
 exact⟨ns[j],cW (by simp[q]),by simp[q]⟩
noncomputable def tJ:D->Option (List D)
 | .lst l=>some l
 | .tup l=>some l
 | _=>none
theorem JF{A:Av}{H:Hp}{K:YH}{d:D}{l:List D}{v:V}(h:tJ d=some l)(r:Rep A H d v):∃t a xs,v=.ref a/\My.LX K t H a xs/\RepL A H l xs/\∀A' H',Rep A' H' d v->∃ys,My.LX K t H' a ys/\RepL A' H' l ys:=by
 cases d with
 | lst m=>
  cases h;obtain⟨a,xs,rfl,h1,F⟩:=RepB.lst_inv (.of r);refine⟨false,a,xs,rfl,.inl h1,F,λA' H' q=>?_⟩;obtain⟨a',ys,e,h2,B⟩:=RepB.lst_inv (.of q);cases e;exact⟨ys,.inl h2,B⟩
 | tup m=>
  cases h;obtain⟨a,xs,rfl,h1,F⟩:=RepB.tup_inv (.of r);refine⟨true,a,xs,rfl,.inl (.inl h1),F,λA' H' q=>?_⟩;obtain⟨a',ys,e,h2,B⟩:=RepB.tup_inv (.of q);cases e;exact⟨ys,.inl (.inl h2),B⟩
 | _=>exact nn h
@[simp] theorem q_seqL:tJ (.lst l)=some l:=rfl
@[simp] theorem q_seqT:tJ (.tup l)=some l:=rfl
end P
namespace P
end P
namespace P
open PySem PySem.Spec PyProof.Rows L2
@[simp] theorem q_chain:hZ g g' fa fb fc ρ=(fa ρ).bind λx=>(fb ρ).bind λy=>(g x y).bind λz=>(BM z).bind λb=>if b=true then(fc ρ).bind λw=>g' y w else some (.bl false):=rfl
noncomputable def pick{α:Type}(l:List α)(lo hi st:Option Int):List α:=(sliceRange (zaE lo hi st l.length).1 (zaE lo hi st l.length).2.1 (zaE lo hi st l.length).2.2).filterMap (l[·]?)
section
variable {X:Cx}{O:List Nat}
end
end P
namespace My
open PySem PySem.Spec PyProof.Rows L2 PySem.SeqAt
section
variable {X:Cx}
theorem Inv.gone(I:Inv X pins σ H s)(f:jW X pins H C)(hs:Z7 C s.heap h'):Inv X pins σ H {s with heap:=h'}:=by
 obtain⟨f0,Y,f2,J,W,f5⟩:=f;refine I.call' (s':={s with heap:=h'}) (ch:=[C]) rfl ⟨λb o e n F B=>?_,λb o e n F B=>?_,λ_ _ _ n _=>n,λb o e B=>?_,λ_ _ q=>q,λ_ _ _ q=>q,λ_ ps q=>⟨#[],by simpa using q⟩⟩ ?_ I.bare λb F=>?_
 ·exact(hs.2 b (λz=>B (z ▸ List.mem_singleton.mpr rfl))).trans e
 ·exact⟨o.slots,(hs.2 b (λz=>B (z ▸ List.mem_singleton.mpr rfl))).trans e⟩
 ·exact⟨o,(hs.2 b (λz=>B (z ▸ List.mem_singleton.mpr rfl))).trans e⟩
 ·intro b N e
  refine(I.hok b N e).stay (λc w' U q=>(hs.2 c ?_).trans q) (λ_ q=>q) λ_ _ q=>q
  rintro rfl;rcases U with z|z
  ·subst z;rw[f0]at e;cases e
  ·rw[f0]at z;cases z
 ·rw[List.mem_singleton.mp F]
  exact⟨J,Y,W,f5⟩
theorem AX(hN:X.N.Nodup)(W:X.N[i]?=some x)(hx:Loc X.env.scope x)
  (hc:X.calm=true) (B:Clo X N scope cl) (hi:PI X tg iter wi) (hg:∀C s H fp,PG (a6 X N scope cl C s H fp) tg g) (ht:∀C s H fp,ID (a6 X N scope cl C s H fp) ifs tt) (he:∀C s H fp,PE (a6 X N scope cl C s H fp) elt te)
  (hs:∀x,zaj iter X.env x=pure x:=by intro _;rfl) (ac:Y3 (.ListComp elt [⟨tg,iter,ifs,0⟩] scope pos) (some (.Name x pos')) spos.line X.env=pure true:=by rfl)
  (hf:X.fn x=true\/X.env.scope.names.lookup x=some .local:=by first|exact .inl rfl|exact .inr rfl) :
  PS X (.Assign [.Name x pos'] (.ListComp elt [⟨tg,iter,ifs,0⟩] scope pos) spos) (zL (w6 wi g tt te (Start X N scope)) (kG i)):=by
 intro pins s σ H D I h;obtain⟨am,sS,hw⟩:=h;rw[exec_Assign_Name_used _ _ _ _ ac];refine YF (zbG (YF ?_));show wpAny _ X.A (do let _ <- comprehension (.ListComp elt [⟨tg,iter,ifs,0⟩] scope pos) scope X.env _ (newList []) false (eval iter X.env) (some (zau (.Name x pos') X.env))) _ _ s;refine YF (ZR (wpAny_comprehension_free (use:=some (zau (.Name x pos') X.env)) (Q:=λ_ s'=>SP X pins D .next s') rfl hs B.clos B.kind B.names
  (bL (hi pins s σ H _ I hw) λv s1 h1=>bL h1 λa2 s2 h2=>?_)) (λ_ s' hq=>YL (YL hq)) λ_ _ e=>e)
 obtain⟨it,fp,tn,J,H2,e,I2,T,af,f2,q2⟩:=h2;subst e;refine sD (wi:=wi) (Q:=λv H1=>kG i v σ H1 D.nx) (RR:=λaa C=>compPost (model X.prog X.w) X.A X.xe (some (zau (.Name x pos') X.env)) (λ_ s'=>SP X pins D .next s') aa C) hc B hg ht he I2 T af f2 sS q2 ?_
 intro s3 s5 H3 H5 au D1 I3 f3 F q;obtain⟨m,hn,_⟩:=id F.loc;have I6:Inv X pins σ H5 s5:=comp_back I3 f3 F (Heap.SameBut.refl _ _);have Y:jW X pins H5 s3.heap.objs.size:=I3.fpOk (YS _) F.free;show wpAny _ X.A (zau (.Name x pos') X.env (.ref D1)) _ _ s5;refine wpAny_assign_Name (sR (v:=.ref D1) I6 hN W hx rfl (λs7 I7 ⟨a,ab,ha⟩=>?_) hf);have ne:s3.heap.objs.size≠a:=λz=>by
  rcases ha with ha|ha
  ·exact Y.2.1 (z.trans ha)
  ·exact Y.2.2.2.2.1 x a ha z.symm
 exact⟨m,Heap.Ns.sameBut hn ab ne,λh' U=>⟨_,H5,Inv.gone I7 Y U,q⟩⟩
end
end My
namespace P
open PySem PySem.Spec PyProof.Rows L2 PySem.SeqAt
section
variable {X:Cx}{O O':List Nat}{L:Lp}
theorem xW(J:PS X (.Assign [.Name x pos'] e pos) (zL (tD Rep O f) (kG i)))(h:Sub O' (O.filter (· != i))=true):gI X L O (.Assign [.Name x pos'] e pos) (eL i f) O':=
 PS.mono J <| by
  rintro T σ H ⟨H0,A0,A,E,ρ,W,st,e,p⟩;obtain⟨d,Y,rfl⟩:=map_some e;refine⟨H0,A0,A,E,ρ,d,st,Y,λv H' x r=>?_⟩;have F:=(st.mono x).more r;obtain⟨A',B⟩:=F.shut (O':=O') λj N=>(Sub.er h N).1
  exact p A' _ H' ((B.put (B.ext _ (YQ ..)) λz=>(Sub.er h z).2 rfl).less λq U=>YW _ U)
theorem TH:tD Rep O f σ H Q->tF O f σ H Q:=λ⟨H0,A0,A,E,ρ,d,st,e,q⟩=>
 ⟨H0,A0,A,E,ρ,d,st,e,λa H' x n F o=>q _ H' x ((o.av (A':=A) λb B=>.inl (.inl B)).rep F)⟩
theorem EC(W:X.N.Nodup)(B:X.N[i]?=some x)(Y:Loc X.env.scope x)
  (U:X.calm=true) (cc:My.Clo X N scope cl) (F:cI X scope N ms) (hn:(ms.all λo=>match o with|some i=>!O.contains i|none=>true)=true) (hi:PDI X O tg iter it) (hg:∀C s H fp,BL (My.a6 X N scope cl C s H fp) [] tg g)
  (ht:∀C s H fp,My.ID (My.a6 X N scope cl C s H fp) ifs (tDT [] c)) (J:∀C s H fp,PD (My.a6 X N scope cl C s H fp) [] elt f) (h:Sub O' (O.filter (· != i))=true:=by rfl) (hs:∀x,zaj iter X.env x=pure x:=by intro _;rfl)
  (q:Y3 (.ListComp elt [⟨tg,iter,ifs,0⟩] scope pos) (some (.Name x pos')) spos.line X.env=pure true:=by rfl) (hf:X.fn x=true\/X.env.scope.names.lookup x=some .local:=by first|exact .inl rfl|exact .inr rfl) :
  gI X L O (.Assign [.Name x pos'] (.ListComp elt [⟨tg,iter,ifs,0⟩] scope pos) spos) (eL i (dU ms it g c f)) O':=
 xW (PS.mono (My.AX W B Y U cc hi hg ht J hs q hf) λT σ H w=>wF F hn _ _ _ (TH w)) h
end
end P
namespace My
open PySem PySem.Spec PyProof.Rows L2 PySem.SeqAt
end My
namespace P
open PySem PySem.Spec PyProof.Rows L2 PySem.SeqAt
end P
namespace P
open PySem PySem.Spec PyProof.Rows L2
end P
namespace My
open PySem PySem.Spec PyProof.Rows L2 PySem.SeqAt
end My
namespace P
open PySem PySem.Spec PyProof.Rows L2 PySem.SeqAt
section
variable {X:Cx}
end
end P
namespace My
open PySem PySem.Spec PyProof.Rows L2 PySem.SeqAt
end My
namespace P
open PySem PySem.Spec PyProof.Rows L2 PySem.SeqAt
end P
namespace My
open PySem PySem.Spec PyProof.Rows L2
section
variable {X:Cx}
theorem nL(ns:List Int):∀n,n<=ns.length->preSum (λi=>(ns[i]?).getD 0) n=(ns.take n).sum
 | 0,_=>by simp[preSum]
 | n+1,h=>by
  have e:ns[n]?=some (ns[n]'(by lia)):=by simp
  rw[preSum,nL ns n (by lia),List.take_add_one,List.sum_append_int,e];simp
theorem wI{ns:List Int}{q:List Value}(r:Vals (ns.map V.int) q){i:Nat}(h:q[i]?=some v):∃t,v=.int ((ns[i]?).getD 0) t:=by
 have F:=r.length;rw[YV]at F;have hi:i<ns.length:=by rw[F];exact(List.getElem?_eq_some_iff.mp h).1
 have e:(ns.map V.int)[i]?=some (.int ns[i]):=by simp[hi]
 obtain⟨u,B,J⟩:=r.get e;rw[h]at B;cases B;obtain⟨t,rfl⟩:=J;exact⟨t,by simp[hi]⟩
theorem C7(hc:X.calm=true):CallR X (.builtin "sum") (λxs H Q=>∃(p:Addr) (ns:List Int),xs=[.ref p]/\SqL X.K H p (ns.map V.int)/\Q (.int ns.sum) H):=by
 intro pins s σ H xs us Q I r h;obtain⟨p,ns,rfl,hq,q⟩:=h;obtain⟨u,rfl,rx⟩:=vals1 r;cases rx;obtain⟨F,r',pl,hz⟩:=I.list hq;have U:s.heap.IsList p F.toArray:=pl.isList;obtain⟨o,ho,ag,n,hd⟩:=id U;have ab:p≠s.heap.objs.size:=ZE (YT ho);have W:=(Walks.list (prog:=X.prog) (w:=X.w) (A:=X.A.in1) (I.ok.hd hc) s.heap.objs.size p ab F.toArray).toS;refine call_sum_walkAnyS (zbp U ?_);refine⟨s.heap.objs.size,_,_,_,_,_,_,(λi=>(ns[i]?).getD 0),rfl,W,⟨⟨_,Y8 _ rfl,rfl,rfl⟩,U.at λo e=>YY _ e⟩,λb J=>?_,λi v hP=>wI r' (by simpa using hP),λs' t' N=>?_⟩
 ·rcases List.mem_cons.mp J with rfl|J
  ·exact YT (Y8 _ rfl)
  ·obtain rfl:=List.mem_singleton.mp J
   exact YT (YY _ ho)
 ·obtain⟨h',g',d',Y,aa⟩:=s'
  have e1:g'=s.gens:=N.gens;have e2:d'=s.drawn:=N.drawn;have e3:aa=s.os:=N.os;subst e1 e2 e3;have hk:∀b o,s.heap.get? b=some o->h'.get? b=some o:=λb o e=>N.heap b o (λJ=>absurd (YT e) ((List.mem_singleton.mp J) ▸ zat _)) (YY _ e)
  refine⟨.int ns.sum,H,I.kept (t':=Y) hk,⟨t',?_⟩,q⟩;have B:=r'.length;rw[YV]at B;rw[Y1,<- B,nL ns ns.length (YS _),List.take_length]
theorem KM:OpR X (ZC .Add) (λx y H Q=>∃a b ys,x=.ref a/\y=.ref b/\SqT X.K H a []/\SqT X.K H b ys/\Q (.ref b) H):=by
 intro pins s σ H x y v u Q I rx ry h;obtain⟨a,b,ys,rfl,rfl,ha,hb,q⟩:=h;cases rx;cases ry;obtain⟨aa,r1,p1,_⟩:=I.tuple ha;obtain⟨B,r2,p2,_⟩:=I.tuple hb;have e1:aa=[]:=r1.nil_iff.mpr rfl;subst e1;obtain⟨⟨cls,dd,data,sl⟩,ho,hc,n,hd⟩:=p1;obtain⟨⟨J,af,F,ab⟩,W,Y,n2,ae⟩:=p2;have ac:cls=.type "tuple" := hc;have ag:data=.seq #[] n:=hd;have U:J=.type "tuple" := Y;have N:F=.seq B.toArray n2:=ae;subst ac ag U N;exact concat_meets ⟨_,ho,rfl⟩ ⟨_,W,rfl⟩ zcu seq_tuple_add zcv zcw (zcx _ _)
  (tuple_addW0 a b #[] B.toArray n n2 dd af sl ab rfl) ⟨ho,W,.ref b,H,I,rfl,q⟩
def vY:V->List V->Hp->VK->Prop:=λx vs H Q=>∃l b xs zs,x=.ref l/\vs=[.ref b]/\H l=some (.lst xs)/\Rd H b (.lst zs)/\xs.length+zs.length<=YN/\Q .non (upd H l (.lst (xs++zs)))
theorem yP:U6 X "list.extend" vY:=by
 intro pins s σ H x vs v us Q I rx rv h;obtain⟨l,b,xs,zs,rfl,rfl,W,hB,hz,q⟩:=h;cases rx;obtain⟨u,rfl,ru⟩:=rv.one;cases ru;obtain⟨z,J,n,r,hl,e⟩:=I.lstM W;obtain⟨z2,B,Y,r2,ae,e2⟩:=P.Inv.lstR I hB;have U:J.toArray.size+B.toArray.size<=YN:=by rw[Y1,Y1];lia
 have N:¬ (!J.toArray.isEmpty && zcB (J.toArray.size+B.toArray.size))=true:=by
  rw[ET U,Bool.and_false];exact YX
 refine zbw F.slot_list_extend ⟨_,e,rfl⟩ F.entry_list_extend (F.args_list_extend_2 _ _)
  (AutoSeq1.list_extend_list_list_0 l J.toArray n b B.toArray Y N (by rw[Y1];lia) (by lia)) ⟨e,e2,?_⟩
 refine⟨.non,_,I.lset (its':=J++B) W e (by simp) (r.append r2) ?_,rfl,q⟩;rw[ZG]
 lia
end
end My
namespace P
open PySem PySem.Spec PyProof.Rows L2
theorem aB{q B:Type}(a:q)(f:q->Option B):(some a).bind f=f a:=by rw[YI]
theorem aG{q B:Type}(a:q)(f:q->B):(some a).map f=some (f a):=by rw[YJ]
section
variable {X:Cx}{O O':List Nat}{L:Lp}
noncomputable def HV:List D->Option D
 | [.int i]=>some (.int i)
 | [.bl b]=>some (.int (if b then 1 else 0))
 | _=>none
theorem QC:fU X (.type "int") HV:=CallR.mono C3 <| by
 rintro xs H Q ⟨A,ds,d,F,r,e,q⟩;unfold HV at e;split at e
 ·cases e
  obtain⟨v,rfl,B⟩:=r.one;cases B.int_inv;exact .inl ⟨_,rfl,q _ H (Ext.refl _ _) (.int _)⟩
 ·cases e
  obtain⟨v,rfl,B⟩:=r.one;cases B.bl_inv;exact .inr ⟨_,rfl,q _ H (Ext.refl _ _) (.int _)⟩
 ·cases e
@[simp] theorem q_intB:HV [.bl b]=some (.int (if b then 1 else 0)):=rfl
@[simp] theorem q_intI:HV [.int i]=some (.int i):=rfl
def HU:List D->Option D
 | [.lst l]=>(jJ l).map λns=>.int ns.sum
 | _=>none
theorem F1(B:X.calm=true):fU X (.builtin "sum") HU:=CallR.mono (My.C7 B) <| by
 rintro xs H Q ⟨A,ds,d,U,r,e,q⟩;unfold HU at e;split at e
 ·obtain⟨ns,N,rfl⟩:=map_some e
  obtain⟨v,rfl,F⟩:=r.one;obtain⟨a,W,rfl,h1,J⟩:=F.lst_inv;rw[eY N J]at h1;exact⟨a,ns,rfl,.inl h1,q _ H (Ext.refl _ _) (.int _)⟩
 ·cases e
theorem i5:∀ns:List Int,jJ (ns.map .int)=some ns
 | []=>rfl
 | n::ns=>by rw[Y4,jJ,i5 ns];rfl
@[simp] theorem q_sum{ns:List Int}:HU [.lst (ns.map .int)]=some (.int ns.sum):=by unfold HU;simp only[i5];rfl
theorem RepL.rep(r:RepL A H ds vs):∀k:Nat,RepL A H (zaS k ds).flatten (zaS k vs).flatten
 | 0=>.nil
 | k+1=>by rw[zbZ,zbZ,zb0,zb0];exact r.append (RepL.rep r k)
def bD(x y:D):Option D:=match x,y with
 | .tup l,.tup m=>if bO (l.length+m.length)then some (.tup (l++m))else none
 | x,y=>tP x y
theorem bH:iK X (ZC .Add) bD:=OpR.mono (OpR.or OL My.KM) <| by
 rintro x y H Q ⟨A,dx,Y,d,N,F,B,e,q⟩;unfold bD at e;split at e
 ·rename_i l m
  cases l with
  | nil=>
   by_cases J:bO (([]:List D).length+m.length)=true
   ·rw[if_pos J]at e
    cases e;obtain⟨a,xs,rfl,h1,W⟩:=F.tup_inv;obtain⟨b,ys,rfl,h2,U⟩:=B.tup_inv;cases W;exact .inr ⟨a,b,ys,rfl,rfl,.inl (.inl h1),.inl (.inl h2),q _ H (Ext.refl _ _) (.tup h2 U)⟩
   ·rw[if_neg J]at e;cases e
  | cons a l=>
   refine .inl ⟨A,_,_,d,N,F,B,?_,q⟩;rw[<- e];rfl
 ·exact .inl ⟨A,_,_,d,N,F,B,e,q⟩
@[simp] theorem q_addAI:bD (.int i) (.int j)=some (.int (i+j)):=rfl
@[simp] theorem q_addAT:bD (.tup l) (.tup m)=if bO (l.length+m.length)then some (.tup (l++m))else none:=rfl
@[simp] theorem q_addAL:bD (.lst l) (.lst m)=if bO (l.length+m.length)then some (.lst (l++m))else none:=rfl
@[simp] theorem q_addAS:bD (.str l) (.str m)=if bO (l.length+m.length)then some (.str (l++m))else none:=rfl
def T5(i:Nat)(f:Ev):Sv:=λρ=>(aE i ρ).bind λx=>match x with
 | .lst l=>(f ρ).bind λd=>match d with
  | .lst m=>if bO (l.length+m.length)then some (.nx (ρ.set i (some (.lst (l++m)))))else none
  | _=>none
 | _=>none
theorem yI(ho:PE X o (d6 i))(he:PD X O e f)(J:mem O i=true)(Y:PE X (.Call (.Attribute o "extend" apos) [e] [] cpos) (RH X.K "list" My.vY (d6 i) (rH (tD Rep O f) HL)))
  (hs:Y3 (.Call (.Attribute o "extend" apos) [e] [] cpos) none pos.line X.env=pure false:=by rfl) (h:Sub O' O=true:=by rfl):gI X L O (.Expr (.Call (.Attribute o "extend" apos) [e] [] cpos) pos) (T5 i f) O':=
 PS.mono (lU Y hs) <| by
  rintro T σ H ⟨H0,A0,A,E,ρ,ab,st,e,p⟩;obtain⟨x,ex,e⟩:=bind_some e;cases x with
  | lst l=>
   obtain⟨d,ed,e⟩:=bind_some e;cases d with
   | lst m=>
    dsimp only at e;by_cases B:bO (l.length+m.length)=true
    ·rw[if_pos B]at e
     cases e;obtain⟨a,U,q,e3,e4⟩:=st.own i _ (aQ ex) (cN J);cases e4 with
     | lst h4 r4=>
      refine⟨_,U,.inl ⟨rfl,_,SqL.of h4⟩,H0,A0,A,E,ρ,_,st,ed,λv H' x r=>?_⟩;obtain⟨b,zs,rfl,hb,W⟩:=RepB.lst_inv (.of r);refine⟨a,b,_,zs,rfl,rfl,x.ow _ _ q h4,hb,by rw[r4.length,W.length];exact fR B,?_⟩;have N:=x.ow _ _ q h4;obtain⟨A',F⟩:=((st.mono x).write (o:=.lst _) (aQ ex) (cN J) U q e3 N trivial (.lst aM (((r4.ext x).append W).put q N trivial))).shut (Sub.mem h);exact p A' σ _ F
    ·rw[if_neg B]at e;cases e
   | _=>exact nn e
  | _=>exact nn e
def cY(c:Bv)(b:Sv):Nat->bI->Option Out
 | 0,_=>none
 | n+1,ρ=>(c ρ).bind λt=>if t=true then(b ρ).bind λo=>match o with
   | .nx ρ'=>cY c b n ρ'
   | .ct ρ'=>cY c b n ρ'
   | .bk ρ'=>some (.nx ρ')
   | .rt d=>some (.rt d)
  else some (.nx ρ)
def uM(c:Bv)(b:Sv):Sv:=λρ=>cY c b 100000 ρ
theorem CP(hp:zba (model X.prog X.w) X.A X.env X.xe)(hc:k3 X O1 c g)(hb:cQ X ⟨Ob,O1⟩ O1 body b O1)(h1:Sub O1 O=true)(h2:Sub O' O1=true)(h3:Sub O' Ob=true) :
  gI X L O (.While c body [] pos) (uM g b) O':=PS.mono (DR hp hc hb) λT σ H ⟨H0,A0,A,E,ρ,U,st,e,p⟩=>by
 obtain⟨A1,W⟩:=st.shut (Sub.mem h1);refine⟨λm σ H=>∃ρ A,ST H0 A0 A E O1 σ H ρ/\cY g b m ρ=some U,⟨100000,ρ,A1,W,e⟩,?_⟩;rintro m σ H ⟨ρ,A,st,e⟩;cases m with
 | zero=>cases e
 | succ m=>
  obtain⟨t,et,e⟩:=bind_some e;refine⟨H0,A0,A,E,ρ,t,st,et,λH1 x1=>?_⟩;have fin:∀ {O2:List Nat} {A:Av} {σ:L2.St} {H:Hp} {ρ:bI},Sub O' O2=true->ST H0 A0 A E O2 σ H ρ->(∀A σ H,ST H0 A0 A E O' σ H ρ->T.nx σ H)->T.nx σ H:=λhs st k=>by
   obtain⟨B,Y⟩:=st.shut (Sub.mem hs);exact k B _ _ Y
  cases t with
  | true=>
   rw[if_pos rfl]at e;dsimp only;rw[if_pos rfl];obtain⟨o,eo,e⟩:=bind_some e;refine⟨λJ H'=>∃q B,ST H0 A0 B E O1 J H' q/\cY g b m q=some U,λJ H' ⟨q,B,F,e2⟩=>⟨m,zbq m,q,B,F,e2⟩,H0,A0,A,E,ρ,o,st.mono x1,eo,?_⟩;cases o with
   | nx q=>exact λB N H2 F=>⟨q,B,F,e⟩
   | ct q=>exact λB N H2 F=>⟨q,B,F,e⟩
   | bk q=>cases e;exact λB N H2 F=>fin h3 F p
   | rt d=>cases e;exact p
  | false=>
   rw[if_neg YX]at e;dsimp only;rw[if_neg YX];cases e;exact fin h2 (st.mono x1) p
end
theorem uB{P:YK}{w:World}{K:YH}{mg:Str->Option Value}{base:Heap}{x:Str}{st:Stmt}{N ps:List Str}{k:Nat}(J:My.DefAt K mg x st ps)(S:FnScope N ps (aF st)):Fn P w K mg base x (k+1) ps (λ_=>none):=
 My.BodyOk.ok (k:=k) (N:=N) (λfa U A B s H vs Q E hr ⟨W,ds,d,Y,r,e,F,q⟩=>nomatch F) J S (λvs H Q E ⟨W,ds,d,_,_,e,F,_⟩=>nomatch F)
def b9(n:Nat)(b:(List D->Option D)->Sv):Nat->List D->Option D
 | 0=>λ_=>none
 | m+1=>bC n (b (b9 n b m))
end P
namespace My
open PySem PySem.Spec PyProof.Rows L2
open AutoSeq1 (wpAny_loadPart')
theorem BQ(l:Addr)(items:Array Value)(n:Nat)(B:Option Addr)(U:Array (Option Value)) :
  Meets (Builtin.«enumerate.__new__» ⟨[.type "enumerate",.ref l],[]⟩) (λ_ R s=>s.heap.get? l=some {cls:=.type "tuple",dict:=B,data:=.seq items n,slots:=U} /\
   R (.ok (.ret (.ref (s.heap.push {cls:=.type "tuple_iterator",data:=.fields #[.ref l,.int 0 0]}).objs.size)))
    {s with heap:=(s.heap.push {cls:=.type "tuple_iterator",data:=.fields #[.ref l,.int 0 0]}).push {cls:=.type "enumerate",data:=.fields #[.none,.bool false,.ref s.heap.objs.size,zaf 0,.none,.none]} }):=
 .of_wp λprog w A R s h=>by
  obtain⟨N,g,d,tk,W⟩:=s;obtain⟨q,h⟩:=h;have J:=sub_enumerate;have F:Heap.IsTuple (Shared.heap ⟨N,g,d,tk,W⟩) l items:=⟨_,q,rfl,n,rfl⟩
  wp_walk using zaM q
  refine wpAny_stack_any λst=>YL ?_
  split
  ·rename_i c _ _ _ _ _
   cases(c == Value.type "enumerate")
   ·wp_walk using zaM q,zbJ F
    exact⟨_,rfl,h⟩
   ·wp_walk using zaM q,zbJ F
    exact⟨_,rfl,h⟩
  ·wp_walk using zaM q,zbJ F
   exact⟨_,rfl,h⟩
section
variable {prog:YK}{w:World}{A:YM}{E:Value->YE->Prop}{s:YE}
theorem C5(hl:SSq t s.heap l xs)
  (h:∀h',zar h' (s.heap.objs.size+1) s.heap.objs.size 0 .none->SIt t h' s.heap.objs.size l 0->(∀b o,s.heap.get? b=some o->h'.get? b=some o)->Q (.ref (s.heap.objs.size+1)) {s with heap:=h'}) :
  wpAny (model prog w) A (call (.type "enumerate") [.ref l]) Q E s:=by
 obtain⟨⟨cls,N,data,sl⟩,ho,hc,n,hd⟩:=hl;have W:cls=.type (XN t):=hc;have Y:data=.seq xs n:=hd;subst W Y;have U:(s.heap.push (WY t l)).objs.size=s.heap.objs.size+1:=zbO ..;have fin:zar ((s.heap.push (WY t l)).push {cls:=.type "enumerate",data:=.fields #[.none,.bool false,.ref s.heap.objs.size,zaf 0,.none,.none]}) (s.heap.objs.size+1) s.heap.objs.size 0 .none:=by
  have:=Y8 (s.heap.push (WY t l)) (o:={cls:=.type "enumerate",data:=.fields #[.none,.bool false,.ref s.heap.objs.size,zaf 0,.none,.none]}) rfl;rw[U]at this;exact this
 have q:=h _ fin ⟨_,YY _ (Y8 _ rfl),rfl,rfl⟩ λb o x=>YY _ (YY _ x)
 cases t with
 | false=>
  refine callType_new F.called_enumerate (by decide) (F.typeCall_enumerate_1 _) (F.newCall_enumerate_1 _) (λJ=>F.args_object_init_2 J _) F.entry_enumerate_new (meets_enumerate_newL l xs n N sl) ⟨ho,?_⟩;have B:(s.heap.push {cls:=.type "list_iterator",data:=.fields #[.ref l,.int 0 0]}).objs.size=s.heap.objs.size+1:=U;show _/\_;rw[B];exact⟨⟨_,fin,rfl⟩,q⟩
 | true=>
  refine callType_new F.called_enumerate (by decide) (F.typeCall_enumerate_1 _) (F.newCall_enumerate_1 _) (λJ=>F.args_object_init_2 J _) F.entry_enumerate_new (BQ l xs n N sl) ⟨ho,?_⟩;have B:(s.heap.push {cls:=.type "tuple_iterator",data:=.fields #[.ref l,.int 0 0]}).objs.size=s.heap.objs.size+1:=U;show _/\_;rw[B];exact⟨⟨_,fin,rfl⟩,q⟩
theorem CJ{t:Bool}{e it l:Addr}{i:Nat}{items:Array Value}{x am:Value}{Q:Value->YE->Prop}
  (he:zar s.heap e it i am) (a1:SIt t s.heap it l i) (hl:SSq t s.heap l items) (hx:items[i]?=some x) (an:e≠it)
  (hQ:∀h', IsEnumOut h' e it ((i:Int)+1) x s.heap.objs.size -> SIt t h' it l (i+1) ->
   h'.get? s.heap.objs.size=some {cls:=.type "tuple",data:=.seq #[.int i s.toks,x]}->h'.objs.size=s.heap.objs.size+1->
   (∀b o,b≠e->b≠it->s.heap.get? b=some o->h'.get? b=some o)->Q (.ref s.heap.objs.size) {s with heap:=h',toks:=s.toks+1}) :
  wpAny (model prog w) A (Builtin.«enumerate.__next__» ⟨[.ref e],[]⟩) (λfin s'=>∃v,fin=.done (.ret v)/\Q v s') E s:=by
 obtain⟨hp,g,d,tk,os⟩:=s;show wpAny _ _ (field (.ref e) 2 >>= _) _ _ _;refine YF (zac he rfl (x:=.ref it) rfl ?_);refine YF (next_item a1 hl hx λh₁ ak N=>?_);replace N:Z7 it hp h₁:=N;have ae:zar h₁ e it i am:=(N.2 e an).trans he;show wpAny _ _ (field (.ref e) 3 >>= _) _ _ ⟨h₁,g,d,tk,os⟩;refine YF (zac ae rfl (x:=zaf i) rfl ?_);show wpAny _ _ (field (.ref e) 4 >>= _) _ _ ⟨h₁,g,d,tk,os⟩;refine YF (zac ae rfl (x:=.none) rfl ?_);show wpAny _ _ (mkInt i >>= _) _ _ ⟨h₁,g,d,tk,os⟩;refine YF (wpAny_mkInt ?_);show wpAny _ _ (setField (.ref e) 3 (zaf ((i:Int)+1)) >>= _) _ _ ⟨h₁,g,d,tk+1,os⟩;refine YF (zbz ae (by simp) λaf ac U=>?_);replace U:Z7 e h₁ af:=U;replace ac:zar af e it ((i:Int)+1) am:=ac;show wpAny _ _ (setField (.ref e) 4 .none >>= _) _ _ ⟨af,g,d,tk+1,os⟩;refine YF (zbz ac (by simp) λY aa F=>?_);replace F:Z7 e af Y:=F;replace aa:zar Y e it ((i:Int)+1) am:=aa;show wpAny _ _ (newTuple [.int i tk,x] >>= _) _ _ ⟨Y,g,d,tk+1,os⟩;refine YF (wpAny_newTuple ?_);have ab:zar (Y.push {cls:=.type "tuple",data:=.seq #[.int i tk,x]}) e it ((i:Int)+1) am:=YY _ aa;generalize hh₄:Y.push {cls:=.type "tuple",data:=.seq #[.int i tk,x]}=h₄ at ab;have ar:Y.objs.size=hp.objs.size:=by rw[F.1,U.1,N.1]
 have aw:e<hp.objs.size:=YT he;have ax:h₄.get? hp.objs.size=some {cls:=.type "tuple",data:=.seq #[.int i tk,x]}:=by rw[<- hh₄,<- ar];exact Y8 _ rfl
 have ay:h₄.objs.size=hp.objs.size+1:=by rw[<- hh₄,zbO,ar]
 have a0:∀b o,b≠e->b≠it->hp.get? b=some o->h₄.get? b=some o:=λb o ai az hb=>by
  rw[<- hh₄];exact YY _ (F.extBut b o ai (U.extBut b o ai (N.extBut b o az hb)))
 have as:SIt t h₄ it l (i+1):=by
  rw[<- hh₄];exact ak.to λo q=>YY _ (F.extBut it o (ZH an) (U.extBut it o (ZH an) q))
 show wpAny _ _ (zc0 (.ref e) >>= _) _ _ ⟨h₄,g,d,tk+1,os⟩;rw[ar];clear hh₄ aa F ac U ae N ak ar Y af h₁;refine YF ?_
 ·unfold zc0
  refine YF (zac ab rfl (x:=.none) rfl (YL ?_));simp only[if_true];refine YF (wpAny_rule ?_);refine YF (zac ab rfl (x:=am) rfl ?_);refine YF (zbz ab (by simp) λal ag J=>?_);replace J:Z7 e h₄ al:=J;replace ag:zar al e it ((i:Int)+1) x:=ag;show wpAny _ _ (zc1 (.ref e) (.ref hp.objs.size) >>= _) _ _ ⟨al,g,d,tk+1,os⟩;refine YF ?_
  ·unfold zc1
   refine YF (zbz ag (by simp) λao ah W=>?_);replace W:Z7 e al ao:=W;replace ah:IsEnumOut ao e it ((i:Int)+1) x hp.objs.size:=ah;refine zbz ah (by simp) λap aj B=>?_
   replace B:Z7 e ao ap:=B;replace aj:IsEnumOut ap e it ((i:Int)+1) x hp.objs.size:=aj;refine YF (zbA (YL ⟨_,rfl,hQ ap aj ?_ ?_ ?_ ?_⟩))
   ·exact as.to λo q=>B.extBut it o (ZH an) (W.extBut it o (ZH an) (J.extBut it o (ZH an) q))
   ·exact B.extBut _ _ (zbb aw) (W.extBut _ _ (zbb aw) (J.extBut _ _ (zbb aw) ax))
   ·rw[B.1,W.1,J.1,ay]
   ·exact λb o ai az hb=>B.extBut b o ai (W.extBut b o ai (J.extBut b o ai (a0 b o ai az hb)))
theorem B5{t:Bool}{e it l:Addr}{i:Nat}{items:Array Value}{x q:Value}{Q:Option Value->YE->Prop}
  (N:zar s.heap e it i q) (J:SIt t s.heap it l i) (Y:SSq t s.heap l items) (W:items[i]?=some x) (B:e≠it)
  (U:∀h', IsEnumOut h' e it ((i:Int)+1) x s.heap.objs.size -> SIt t h' it l (i+1) ->
   h'.get? s.heap.objs.size=some {cls:=.type "tuple",data:=.seq #[.int i s.toks,x]}->h'.objs.size=s.heap.objs.size+1->
   (∀b o,b≠e->b≠it->s.heap.get? b=some o->h'.get? b=some o)->Q (some (.ref s.heap.objs.size)) {s with heap:=h',toks:=s.toks+1}) :
  wpAny (model prog w) A (Z8 (.ref e)) Q E s:=by
 have hT:s.TypeIs (.ref e) "enumerate" := ⟨_,N,rfl⟩;unfold Z8;exact YF (zb3 (zaU (name:=ZQ "__next__") hT zcf
  (zaC zcf hT F.entry_enumerate_next
   (CJ N J Y W B λh' a b c d k=>YL (U h' a b c d k)) (F.args_enumerate_next_1 _))))
theorem FC{t:Bool}{i:Nat}{items:Array Value}{Q:Option Value->YE->Prop}(hh:A.handled=none)
  (N:zar s.heap e it i old) (B:SIt t s.heap it l i) (hl:SSq t s.heap l items) (Y:items[i]?=none)
  (U:∀h',Heap.ExtBut it s.heap h'->Q none {s with heap:=h'}):wpAny (model prog w) A (Z8 (.ref e)) Q E s:=by
 have hT:s.TypeIs (.ref e) "enumerate" := ⟨_,N,rfl⟩;unfold Z8;refine YF (zb3 (zaU (name:=ZQ "__next__") hT zcf
  (zaC zcf hT F.entry_enumerate_next ?_ (F.args_enumerate_next_1 _))))
 show wpAny _ _ (field (.ref e) 2 >>= _) _ _ _;refine YF (zac N rfl (x:=.ref it) rfl ?_);refine YF (next_end hh B hl Y λh' x q J=>?_);obtain⟨o,ho,W⟩:=J;refine YF (wpAny_isInstance (T := "StopIteration") (b:=true) ⟨o,ho,W⟩ isSubtype_stop ?_);exact YL (U _ q)
end
def XB(K:YH)(t:Bool)(l:Addr):It:=
 ⟨λi H => ∃xs, LX K t H l xs /\ i<xs.length, λi H x H' => ∃p u, x = .ref p /\ H p = none /\ H' = upd H p (.tup [.int (i:Int), u]) /\ ∀xs, LX K t H l xs -> xs[i]? = some u,
  λi H=>∃xs,LX K t H l xs/\xs.length<=i⟩
theorem B8{P:YK}{w:World}{K:YH}{ab:List Expr}{x1}{tp:Pos}(t:Bool){e it l:Addr}(ae:e≠it) :
  Turn P w K (.Tuple ab x1 tp) (XB K t l) [e,it] e (λi h=>(∃N,zar h e it (i:Nat) N)/\SIt t h it l i) where
 mem:=by simp
 obj:=by
  rintro i h ⟨⟨N,U⟩,⟨o1,e1,_,d1⟩⟩ c B;simp only[YZ,Y0,or_false]at B;rcases B with rfl|rfl
  ·exact⟨_,U,λv q=>by cases q⟩
  ·exact⟨o1,e1,λv q=>by rw[d1]at q;cases q⟩
 keep:=λi h h' ⟨⟨N,U⟩,Y⟩ k=>⟨⟨N,k e (by simp) _ U⟩,Y.to λo q=>k it (by simp) o q⟩
 item:=by
  intro X hP hw hK B i pins s σ H E I hf st hg;subst hP hw hK;obtain⟨⟨N,U⟩,Y⟩:=st;obtain⟨xs,q1,ah⟩:=hg;obtain⟨aa,r1,p1⟩:=y0 I q1;have e1:xs[i]?=some xs[i]:=by simp[ah]
  obtain⟨u,eu,ru⟩:=r1.get e1;refine B5 U Y p1 (x:=u) (by simpa using eu) ae λh' a1 a2 a3 a4 hk=>⟨_,rfl,?_⟩
  refine wpAny_letOwnedTupleGo_enum (s:={s with heap:=h',toks:=s.toks+1}) a1 λh2 ai sb=>?_
  have zz:∀c,c∈[e,it]->c<s.heap.objs.size:=λc B=>by
   simp only[YZ,Y0,or_false]at B;rcases B with rfl|rfl
   ·exact YT U
   ·obtain⟨o,q,_⟩:=Y;exact YT q
  have W:∀c o,c≠e->h'.get? c=some o->h2.get? c=some o:=λc o B q=>sb.extBut _ _ B q
  have I1:Inv X pins σ H {s with heap:=h2,toks:=s.toks+1}:=pR I hf λc o B q=>by
   simp only[YZ,Y0,or_false,not_or]at B;exact W c o B.1 (hk c o B.1 B.2 q)
  have F:H s.heap.objs.size=none:=I.fresh;have al:h2.get? s.heap.objs.size=some {cls:=.type "tuple",data:=.seq #[.int i s.toks,u]}:=W _ _ (zbb (zz e (by simp))) a3;have I2:Inv X pins σ (upd H s.heap.objs.size (.tup [.int (i:Int),xs[i]])) {s with heap:=h2,toks:=s.toks+1}:=by
   have ak:HOk X.prog X.w (upd H s.heap.objs.size (.tup [.int (i:Int),xs[i]])) h2:=λc ob q=>by
    by_cases B:c=s.heap.objs.size
    ·subst B;rw[aM]at q;cases q
     exact⟨by show 2<=YN;decide,[.int i s.toks,u],.cons ⟨_,rfl⟩ (.cons ru .nil),_,al,rfl,0,rfl,rfl⟩
    ·rw[aK B]at q
     exact(I1.hok c ob q).stay (λ_ _ _ q=>q) (λd q=>by rw[aK (bJ q F)];exact q) λd aj q=>by rw[aK (bJ q F)];exact q
   refine I.call' (s':={s with heap:=h2,toks:=s.toks+1}) (ch:=[e,it]) rfl ⟨λc o q _ _ J=>?_,λc o q _ _ J=>⟨o.slots,?_⟩,λc o q n J=>by rw[aK (ZE (YT q))];exact n,λc o q J=>⟨o,?_⟩,λc aj q=>by rw[aK (bJ q F)];exact q,λc o' u' q=>by rw[aK (bJ q F)];exact q,λc ps q=>⟨#[],by rw[aK (bJ q F),q];simp⟩⟩ ak I.bare λb hb=>?_
   ·simp only[YZ,Y0,or_false,not_or]at J
    exact W c o J.1 (hk c o J.1 J.2 q)
   ·simp only[YZ,Y0,or_false,not_or]at J
    exact W c o J.1 (hk c o J.1 J.2 q)
   ·simp only[YZ,Y0,or_false,not_or]at J
    exact W c o J.1 (hk c o J.1 J.2 q)
   ·obtain⟨_,f1,_,f3,f4,f5⟩:=hf b hb
    exact⟨f3,f1,f4,f5⟩
  refine⟨.ref s.heap.objs.size,_,I2,rfl,⟨_,_,rfl,F,rfl,λbc g1=>by rw[<- JP I q1 g1];exact e1⟩,⟨⟨_,ai⟩,a2.to λo q=>W _ o (ZH ae) q⟩,λc B=>?_⟩;rw[aK (ZE (zz c B))];exact(hf c B).1
 done:=by
  intro X hP hw hK B i pins s σ H E I hf st hg;subst hP hw hK;obtain⟨⟨N,U⟩,Y⟩:=st;obtain⟨xs,q1,ap⟩:=hg;obtain⟨aa,r1,p1⟩:=y0 I q1;have n1:=r1.length;refine FC (I.ok.hd B) U Y p1 (by simp;lia) λh' hk=>⟨rfl,pR (t':=s.toks) I hf λc o B q=>?_⟩
  simp only[YZ,Y0,or_false,not_or]at B;exact hk c o B.2 q
 self:=λ_ _ _ _ _ st h=>let ⟨⟨_,U⟩,_⟩:=st;wpAny_pyIter_enum U h
theorem boot_enumerate:ZA "enumerate" = some (.type "enumerate"):=by first|rfl|decide +kernel
def SE(K:YH)(ta:TA):TI:=λσ H R=>ta σ H λvs H1=>∃t l xs,vs=[.ref l]/\LX K t H1 l xs/\R (XB K t l) H1
theorem IX{X:Cx}{B:List Expr}{x1}{tp:Pos}{a:Expr}{ta:TA}{p pos:Pos}(hg:Gl X "enumerate")(hm:X.mg "enumerate" = none)(ha:PA X [a] ta)(hs:YG [a] X.env=[(false,eval a X.env)]:=by rfl) :
  PI X (.Tuple B x1 tp) (.Call (.Name "enumerate" p) [a] [] pos) (SE X.K ta):=by
 intro pins s σ H R I h;refine Call_ (kQ I hg hm boot_enumerate (zbK (bL (ha pos pins s σ H _ I h) λus N ⟨vs,H1,F,r1,q1⟩=>?_) (by rw[hs];rfl) rfl));obtain⟨t,l,xs,rfl,q1,q⟩:=q1;obtain⟨u,rfl,ru⟩:=vals1 r1;cases ru;obtain⟨Y,_,p1⟩:=y0 F q1;refine C5 p1 λh' W U k=>?_
 refine wpAny_pyIter_enum W ?_;have D:N.heap.objs.size+1≠N.heap.objs.size:=by lia
 refine⟨_,[_,_],_,_,H1,rfl,F.kept (t':=N.toks) k,B8 t D,⟨⟨_,W⟩,U⟩,λc J=>F.fpOk ?_ (F.hok.fresh ?_),q⟩
 ·simp only[YZ,Y0,or_false]at J
  rcases J with rfl|rfl <;> lia
 ·simp only[YZ,Y0,or_false]at J
  rcases J with rfl|rfl <;> lia
end My
namespace P
open PySem PySem.Spec PyProof.Rows L2
noncomputable def iJ:Nat->List D->List D
 | _,[]=>[]
 | k,x::xs=>.tup [.int (k:Int),x]::iJ (k+1) xs
def BH(f:Lv):Lv:=λρ=>(f ρ).bind λds=>match ds with
 | [a]=>(tJ a).map (iJ 0)
 | _=>none
theorem sZ:∀ {xs:List D} {k i:Nat} {d:D},(iJ k xs)[i]?=some d->∃x,xs[i]?=some x/\d=.tup [.int ((k+i:Nat):Int),x]
 | [],k,i,d,h=>by simp[iJ]at h
 | x::xs,k,0,d,h=>by simp[iJ]at h;exact⟨x,rfl,h.symm⟩
 | x::xs,k,i+1,d,h=>by
  obtain⟨y,q,B⟩:=sZ (xs:=xs) (k:=k+1) (i:=i) (by simpa[iJ]using h);exact⟨y,by simpa using q,by rw[B];congr 4;lia⟩
theorem sE:∀(xs:List D) (k:Nat),(iJ k xs).length=xs.length
 | [],_=>rfl
 | x::xs,k=>by simp[iJ,sE xs]
theorem EL{N}(hg:Gl X "enumerate")(hm:X.mg "enumerate" = none)(ha:mE X O [a] f)(hs:YG [a] X.env=[(false,eval a X.env)]:=by rfl) :
  PDI X O (.Tuple elts N tp) (.Call (.Name "enumerate" p) [a] [] pos) (BH f):=PI.mono (My.IX hg hm ha hs) λσ H R ⟨H0,A0,A,E,ρ,items,st,e,q⟩=>by
 obtain⟨ds,e1,e⟩:=bind_some e;refine⟨H0,A0,A,E,ρ,ds,st,e1,λvs H1 N r1=>?_⟩;split at e
 case h_2=>cases e
 rename_i da;obtain⟨xs,e2,rfl⟩:=map_some e;obtain⟨v,rfl,W⟩:=r1.one;obtain⟨t1,J,us,rfl,q1,_,k1⟩:=JF (K:=X.K) e2 W;refine⟨t1,J,us,rfl,q1,q _ H1 [.rep da (.ref J)] N (λp hp=>?_) ?_⟩
 ·rw[List.mem_singleton.mp hp];exact W
 ·intro A' H' lv hE i
  have a1:Rep A' H' da (.ref J):=hE (.rep da (.ref J)) (YQ ..);obtain⟨B,U,F⟩:=k1 A' H' a1;refine⟨λhi=>⟨B,U,by rw[F.length];rw[sE]at hi;exact hi⟩,λd hd=>?_⟩;obtain⟨x,ex,rfl⟩:=sZ hd;obtain⟨u,Y,ru⟩:=F.get' ex;refine⟨⟨B,U,(List.getElem?_eq_some_iff.mp Y).1⟩,λx' H2 ⟨p,u',e4,n,e5,e6⟩=>?_⟩;subst e4 e5;have z1:=e6 B U;rw[Y]at z1;cases z1;rw[Nat.zero_add];exact⟨Ext.new n,.tup aM (.cons (.int _) (.cons (ru.ext (Ext.new n)) .nil))⟩
@[simp] theorem q_enum:BH f ρ=(f ρ).bind λds=>match ds with
 | [a]=>(tJ a).map (iJ 0)
 | _=>none:=rfl
end P
namespace P
open L2
structure Ro where
 j:Int
 k:Int
 a:Int
 b:Int
 p:Int
noncomputable def fl{α:Type}(h:Nat->Ro->List α):Nat->List Ro->List α
 | _,[]=>[]
 | m,r::rs=>h m r++fl h (m+1) rs
noncomputable def sg(q:Nat->Ro->Int):Nat->List Ro->Int
 | _,[]=>0
 | m,r::rs=>q m r+sg q (m+1) rs
end P
namespace P
open PySem PySem.Spec PyProof.Rows L2
theorem B6{n:Nat}(h:n<=1000000):fS [.int (n:Int)]=some (bU 0 1 n):=by
 show(if oF (n:Int)then _ else _)=_;rw[if_pos (by simp only[oF,ZK,decide_eq_true_eq];lia)];simp
theorem kL(q:0<=y)(h:y<=1000000):fS [.int y]=some (bU 0 1 y.toNat):=by
 show(if oF y then _ else _)=_;rw[if_pos (by simp only[oF,ZK,decide_eq_true_eq];lia)]
end P
namespace My
open PySem PySem.Spec PyProof.Rows L2
noncomputable def TY(a:Bool):String:=if a=true then "str_ascii_iterator" else "str_iterator"
noncomputable def WX(x:Str):It:=⟨λi H=>i<x.cps.size,λi H y H'=>H'=H/\∃c,x.cps[i]?=some c/\y=.str ⟨#[c]⟩,λi H=>x.cps.size<=i⟩
theorem D9{P:YK}{w:World}{K:YH}{tg:Expr}(a:Bool)(x:Str)(t:Tok)(it:Addr):Turn P w K tg (WX x) [it] it (λi h=>h.IsStrIter it (TY a) x t i) where
 mem:=by simp
 obj:=λi h st b q=>by
  have e:b=it:=by simpa using q
  subst e;obtain⟨o,e,c,d⟩:=st;exact⟨o,e,λv z=>by rw[d]at z;cases z⟩
 keep:=λi h h' st k=>let ⟨o,ho,r⟩:=st;⟨o,k it (by simp) o ho,r⟩
 item:=by
  intro X hP hw hK hc i pins s σ H E I W st hg;subst hP hw hK;obtain⟨f0,U,f2,J,N,Y⟩:=W it (by simp);have hi:i<x.cps.size:=hg;have F:x.cps[i]?=some x.cps[i]:=by simp[hi]
  cases a with
  | true=>
   refine wpAny_pyNext_ascii_item st F λh' B sb=>?_
   have I1:Inv X pins σ H {s with heap:=h',toks:=s.toks+1}:=I.turned (t':=s.toks+1) (λb o q e=>(sb.2 b q).trans e) f0 U J N Y;obtain⟨o,e,c,d⟩:=id B;exact⟨_,rfl,q0 (s:={s with heap:=h',toks:=s.toks+1}) e c d (by decide) ⟨.str ⟨#[x.cps[i]]⟩,H,I1,⟨_,rfl⟩,⟨rfl,_,F,rfl⟩,B,λb q=>(W b q).1⟩⟩
  | false=>
   refine wpAny_pyNext_wide_item st F λh' B sb=>?_
   have I1:Inv X pins σ H {s with heap:=h',toks:=s.toks+1}:=I.turned (t':=s.toks+1) (λb o q e=>(sb.2 b q).trans e) f0 U J N Y;obtain⟨o,e,c,d⟩:=id B;exact⟨_,rfl,q0 (s:={s with heap:=h',toks:=s.toks+1}) e c d (by decide) ⟨.str ⟨#[x.cps[i]]⟩,H,I1,⟨_,rfl⟩,⟨rfl,_,F,rfl⟩,B,λb q=>(W b q).1⟩⟩
 done:=by
  intro X hP hw hK hc i pins s σ H E I W st hg;subst hP hw hK;obtain⟨f0,U,f2,J,N,Y⟩:=W it (by simp);have hi:x.cps.size<=i:=hg;have F:x.cps[i]?=none:=by simp[hi]
  cases a with
  | true=>exact wpAny_pyNext_ascii_end (I.ok.hd hc) st F λh' eb=>⟨rfl,I.turned (t':=s.toks) (λb o q e=>eb b o q e) f0 U J N Y⟩
  | false=>exact wpAny_pyNext_wide_end (I.ok.hd hc) st F λh' eb=>⟨rfl,I.turned (t':=s.toks) (λb o q e=>eb b o q e) f0 U J N Y⟩
 self:=λ_ _ _ _ _ st h=>by
  cases a with
  | true=>exact wpAny_pyIter_striter_ascii st h
  | false=>exact wpAny_pyIter_striter_wide st h
def VJ(tl:TE):TI:=λσ H R=>tl σ H λx H1=>∃y,x=.str y/\R (WX y) H1
section
variable {X:Cx}{tg:Expr}
theorem OT{l:Expr}{tl:TE}(N:PE X l tl):PI X tg l (VJ tl):=by
 intro pins s σ H R I h;refine bL (N pins s σ H _ I h) λv B ⟨x,H1,F,U,q1⟩=>?_
 obtain⟨y,rfl,q⟩:=q1;obtain⟨t,rfl⟩:=U;have fin:∀a:Bool,PIE X pins σ tg R (.ref B.heap.objs.size) {B with heap:=B.heap.push {cls:=.type (TY a),data:=.fields #[.str y t,.int 0 0]} }:=λa=>by
  refine⟨B.heap.objs.size,[B.heap.objs.size],_,_,H1,rfl,F.kept (t':=B.toks) λb o e=>YY _ e,D9 a y t _,⟨_,Y8 _ rfl,rfl,rfl⟩,λb J=>?_,q⟩;have e:b=B.heap.objs.size:=by simpa using J
  subst e;exact F.fpOk (YS _) (F.hok.fresh (YS _))
 cases ha:y.cps.all (·<128)
 ·exact wpAny_pyIter_wide ha (fin false)
 ·exact wpAny_pyIter_ascii ha (fin true)
theorem C8:OpR X (YR .LtE) (λx y H Q=>∃i j,x=.str i/\y=.str j/\Q (.bl (!decide (j.cps.toList<i.cps.toList))) H):=by
 intro pins s σ H x y v u Q I B F h;obtain⟨i,j,rfl,rfl,q⟩:=h;obtain⟨t,rfl⟩:=B;obtain⟨t',rfl⟩:=F;exact PySem.P.le_str ⟨.bl _,H,I,rfl,q⟩
theorem GU{bs:List Bool}{q:List Value}(r:Vals (bs.map V.bl) q):TruthOf P w A (λi v=>q.toArray[i]?=some v) (λi=>(bs[i]?).getD false):=by
 intro i v s Q E hP B;have hP:q[i]?=some v:=by simpa using hP
 have J:=r.length;rw[YV]at J;have hi:i<bs.length:=by rw[J];exact(List.getElem?_eq_some_iff.mp hP).1
 have e:(bs.map V.bl)[i]?=some (.bl bs[i]):=by simp[hi]
 obtain⟨u,F,N⟩:=r.get e;rw[hP]at F;cases F;cases N;have:(bs[i]?).getD false=bs[i]:=by simp[hi]
 dsimp only at B;rw[this]at B;exact zai B
theorem range_all(bs:List Bool):(Z6 bs.length).all (λi=>(bs[i]?).getD false)=bs.all id:=by
 rw[zbc,zb2,zb2];constructor
 ·intro h b q
  obtain⟨i,hi,rfl⟩:=List.getElem_of_mem q;have:=h i (List.mem_range.mpr hi);simpa[hi]using this
 ·intro h i hi
  have hi:=List.mem_range.mp hi;simpa[hi]using h bs[i] (zbh hi)
theorem range_any(bs:List Bool):(Z6 bs.length).any (λi=>(bs[i]?).getD false)=bs.any id:=by
 rw[zbc,List.any_eq_true,List.any_eq_true];constructor
 ·rintro⟨i,hi,h⟩
  have hi:=List.mem_range.mp hi;exact⟨bs[i],zbh hi,by simpa[hi]using h⟩
 ·rintro⟨b,q,h⟩
  obtain⟨i,hi,rfl⟩:=List.getElem_of_mem q;exact⟨i,List.mem_range.mpr hi,by simpa[hi]using h⟩
theorem B1(hc:X.calm=true):CallR X (.builtin "all") (λxs H Q=>∃(p:Addr) (bs:List Bool),xs=[.ref p]/\SqL X.K H p (bs.map V.bl)/\Q (.bl (bs.all id)) H):=by
 intro pins s σ H xs us Q I r h;obtain⟨p,bs,rfl,hq,q⟩:=h;obtain⟨u,rfl,rx⟩:=vals1 r;cases rx;obtain⟨F,U,pl,hz⟩:=I.list hq;have N:s.heap.IsList p F.toArray:=pl.isList;obtain⟨o,ho,ab,n,hd⟩:=id N;have J:p≠s.heap.objs.size:=ZE (YT ho);refine call_all_walk (zbp N ?_);refine⟨s.heap.objs.size,_,_,_,_,_,_,rfl,Walks.list (prog:=X.prog) (w:=X.w) (A:=X.A.in1) (I.ok.hd hc) s.heap.objs.size p J F.toArray,⟨⟨_,Y8 _ rfl,rfl,rfl⟩,N.at λo e=>YY _ e⟩,GU U,λh' tk Y=>?_⟩;have hk:∀b o,s.heap.get? b=some o->h'.get? b=some o:=λb o e=>Y b o (λW=>absurd (YT e) ((List.mem_singleton.mp W) ▸ zat _)) (YY _ e)
 have B:=U.length;rw[YV]at B;refine⟨.bl (bs.all id),H,I.kept (t':=tk) hk,?_,q⟩;rw[Y1,<- B,range_all];rfl
theorem BU(hc:X.calm=true):CallR X (.builtin "any") (λxs H Q=>∃(p:Addr) (bs:List Bool),xs=[.ref p]/\SqL X.K H p (bs.map V.bl)/\Q (.bl (bs.any id)) H):=by
 intro pins s σ H xs us Q I r h;obtain⟨p,bs,rfl,hq,q⟩:=h;obtain⟨u,rfl,rx⟩:=vals1 r;cases rx;obtain⟨F,U,pl,hz⟩:=I.list hq;have N:s.heap.IsList p F.toArray:=pl.isList;obtain⟨o,ho,ab,n,hd⟩:=id N;have J:p≠s.heap.objs.size:=ZE (YT ho);refine call_any_walk (zbp N ?_);refine⟨s.heap.objs.size,_,_,_,_,_,_,rfl,Walks.list (prog:=X.prog) (w:=X.w) (A:=X.A.in1) (I.ok.hd hc) s.heap.objs.size p J F.toArray,⟨⟨_,Y8 _ rfl,rfl,rfl⟩,N.at λo e=>YY _ e⟩,GU U,λh' tk Y=>?_⟩;have hk:∀b o,s.heap.get? b=some o->h'.get? b=some o:=λb o e=>Y b o (λW=>absurd (YT e) ((List.mem_singleton.mp W) ▸ zat _)) (YY _ e)
 have B:=U.length;rw[YV]at B;refine⟨.bl (bs.any id),H,I.kept (t':=tk) hk,?_,q⟩;rw[Y1,<- B,range_any];rfl
theorem wK:∀ {ss:List Str} {its:List Value},Vals (ss.map V.str) its->StrsAre its ss
 | [],_,.nil=>.nil
 | x::ss,_,.cons r t=>by
  obtain⟨k,rfl⟩:=r;exact .cons x k (wK t)
def rJoin(K:YH):V->List V->Hp->VK->Prop:=λx vs H Q=>∃(sep:Str) (p:Addr) (ss:List Str),x=.str sep/\vs=[.ref p]/\SqL K H p (ss.map V.str)/\(ss.map (·.length)).sum+ss.length*sep.length<=16777216/\Q (.str (Txt.join sep ss)) H
theorem oZ:U6 X "str.join" (rJoin X.K):=by
 intro pins s σ H x vs v us Q I rx N h;obtain⟨sep,p,ss,rfl,rfl,U,J,q⟩:=h;obtain⟨t,rfl⟩:=rx;obtain⟨u,rfl,W⟩:=N.one;cases W;obtain⟨B,F,Y,_⟩:=I.list U;exact join_list (items:=B.toArray) Y.isList (by simpa using wK F) J λt' k=>⟨.str (Txt.join sep ss),H,I.kept (t':=k) λ_ _ e=>e,⟨_,rfl⟩,q⟩
end
end My
namespace P
open PySem PySem.Spec PyProof.Rows L2
section
variable {X:Cx}{O O':List Nat}{L:Lp}
noncomputable def DF:List D->Option (List Bool)
 | []=>some []
 | .bl b::l=>(DF l).map (b::·)
 | _=>none
theorem qG:∀ {ds:List D} {ns:List Bool} {vs:List V},DF ds=some ns->RepL A H ds vs->vs=ns.map V.bl
 | [],_,_,e,.nil=>by cases e;rfl
 | d::ds,ns,_,e,.cons h t=>by
  cases d with
  | bl b=>
   obtain⟨m,q,rfl⟩:=map_some e;cases RepB.bl_inv (.of h);rw[qG q t];rfl
  | _=>exact nn e
theorem qC:∀bs:List Bool,DF (bs.map .bl)=some bs
 | []=>rfl
 | b::bs=>by rw[Y4,DF,qC bs];rfl
def DA:List D->Option D
 | [.lst l]=>(DF l).map λbs=>.bl (bs.all id)
 | _=>none
def HI:List D->Option D
 | [.lst l]=>(DF l).map λbs=>.bl (bs.any id)
 | _=>none
theorem GV(B:X.calm=true):fU X (.builtin "all") DA:=CallR.mono (My.B1 B) <| by
 rintro xs H Q ⟨A,ds,d,U,r,e,q⟩;unfold DA at e;split at e
 ·obtain⟨bs,N,rfl⟩:=map_some e
  obtain⟨v,rfl,F⟩:=r.one;obtain⟨a,W,rfl,h1,J⟩:=F.lst_inv;rw[qG N J]at h1;exact⟨a,bs,rfl,.inl h1,q _ H (Ext.refl _ _) (.bl _)⟩
 ·cases e
theorem O8(B:X.calm=true):fU X (.builtin "any") HI:=CallR.mono (My.BU B) <| by
 rintro xs H Q ⟨A,ds,d,U,r,e,q⟩;unfold HI at e;split at e
 ·obtain⟨bs,N,rfl⟩:=map_some e
  obtain⟨v,rfl,F⟩:=r.one;obtain⟨a,W,rfl,h1,J⟩:=F.lst_inv;rw[qG N J]at h1;exact⟨a,bs,rfl,.inl h1,q _ H (Ext.refl _ _) (.bl _)⟩
 ·cases e
@[simp] theorem q_all{bs:List Bool}:DA [.lst (bs.map .bl)]=some (.bl (bs.all id)):=by unfold DA;simp only[qC];rfl
@[simp] theorem q_any{bs:List Bool}:HI [.lst (bs.map .bl)]=some (.bl (bs.any id)):=by unfold HI;simp only[qC];rfl
noncomputable def HQ:List D->Option (List Str)
 | []=>some []
 | .str b::l=>(HQ l).map (b::·)
 | _=>none
theorem v9:∀ {ds:List D} {ns:List Str} {vs:List V},HQ ds=some ns->RepL A H ds vs->vs=ns.map V.str
 | [],_,_,e,.nil=>by cases e;rfl
 | d::ds,ns,_,e,.cons h t=>by
  cases d with
  | str b=>
   obtain⟨m,q,rfl⟩:=map_some e;cases RepB.str_inv (.of h);rw[v9 q t];rfl
  | _=>exact nn e
theorem sH:∀bs:List Str,HQ (bs.map .str)=some bs
 | []=>rfl
 | b::bs=>by rw[Y4,HQ,sH bs];rfl
def iH:D->D->Option D
 | .str sep,.lst l=>(HQ l).bind λss=>if(ss.map (·.length)).sum+ss.length*sep.length<=16777216 then some (.str (Txt.join sep ss))else none
 | _,_=>none
theorem pH(ho:PB X O o fo)(U:PB X O e fe)(N:∀ {to:TE} {t:TA},PE X o to->PA X [e] t->PE X (.Call (.Attribute o "join" apos) [e] [] cpos) (RH X.K "str" (My.rJoin X.K) to t))(hs:YG [e] X.env=(false,eval e X.env)::YG [] X.env:=by rfl):PD X O (.Call (.Attribute o "join" apos) [e] [] cpos) (aR iH fo fe):=
 PE.mono (N ho (qJ U t8 hs)) <| by
  rintro σ H Q ⟨H0,A0,A,E,ρ,d,st,e,q⟩;obtain⟨x,ex,e⟩:=bind_some e;obtain⟨y,ey,e⟩:=bind_some e;refine⟨H0,A0,A,E,ρ,x,st,ex,λv H1 J r1=>?_⟩;unfold iH at e;split at e
  ·rename_i sep l _
   obtain⟨ss,es,e⟩:=bind_some e;by_cases F:(ss.map (·.length)).sum+ss.length*sep.length<=16777216
   ·rw[if_pos F]at e
    cases e;cases r1.str_inv;refine⟨rfl,H0,A0,A,E,ρ,[.lst l],st.mono J,by unfold aH aY;rw[ey];rfl,λvs H2 x2 W=>?_⟩;obtain⟨w,rfl,B⟩:=W.one;obtain⟨p,us,rfl,h1,Y⟩:=B.lst_inv;rw[v9 es Y]at h1;exact⟨sep,p,ss,rfl,rfl,.inl h1,F,q _ H2 (J.trans x2) (.str _)⟩
   ·rw[if_neg F]at e;cases e
  ·cases e
theorem N3(h:(ss.map (·.length)).sum+ss.length*sep.length<=16777216):iH (.str sep) (.lst (ss.map .str))=some (.str (Txt.join sep ss)):=by
 unfold iH;simp only[sH,Option.bind];rw[if_pos h]
noncomputable def u9:D->D->Option D
 | .int i,.int j=>some (.bl (decide (i<=j)))
 | .str i,.str j=>some (.bl (!decide (j.cps.toList<i.cps.toList)))
 | _,_=>none
theorem PJ:iK X (YR .LtE) u9:=OpR.mono (OpR.or RX My.C8) <| by
 rintro x y H Q ⟨A,dx,J,d,N,B,F,e,q⟩;unfold u9 at e;split at e
 ·cases e
  cases B.int_inv;cases F.int_inv;exact .inl ⟨_,_,rfl,rfl,q _ H (Ext.refl _ _) (.bl _)⟩
 ·cases e
  cases B.str_inv;cases F.str_inv;exact .inr ⟨_,_,rfl,rfl,q _ H (Ext.refl _ _) (.bl _)⟩
 ·cases e
@[simp] theorem q_leAI:u9 (.int i) (.int j)=some (.bl (decide (i<=j))):=rfl
@[simp] theorem q_leAS:u9 (.str i) (.str j)=some (.bl (!decide (j.cps.toList<i.cps.toList))):=rfl
def jN(x y:D):Option D:=match x,y with
 | .str i,.str j=>some (.bl (!(zbd j i 0 j.length 1).isEmpty))
 | x,y=>RN x y
def lT(x y:D):Option D:=match x,y with
 | .str i,.str j=>some (.bl (!(!(zbd j i 0 j.length 1).isEmpty)))
 | x,y=>u4 x y
theorem FW(J:X.A.units+64<cLine):iK X (YR .In) jN:=OpR.mono (OpR.or (S9 J) C1) <| by
 rintro x y H Q ⟨A,dx,U,d,N,F,B,e,q⟩;unfold jN at e;split at e
 ·cases e
  cases F.str_inv;cases B.str_inv;exact .inr ⟨_,_,rfl,rfl,q _ H (Ext.refl _ _) (.bl _)⟩
 ·exact .inl ⟨A,_,_,d,N,F,B,e,q⟩
theorem BX(J:X.A.units+64<cLine):iK X (YR .NotIn) lT:=OpR.mono (OpR.or (FK J) tV) <| by
 rintro x y H Q ⟨A,dx,U,d,N,F,B,e,q⟩;unfold lT at e;split at e
 ·cases e
  cases F.str_inv;cases B.str_inv;exact .inr ⟨_,_,rfl,rfl,q _ H (Ext.refl _ _) (.bl _)⟩
 ·exact .inl ⟨A,_,_,d,N,F,B,e,q⟩
noncomputable def signs(x:Str):List D:=x.cps.toList.map λc=>.str ⟨#[c]⟩
theorem OO:zK (My.WX x) [] (signs x):=by
 intro A H W Y i;have B:(signs x).length=x.cps.size:=by simp[signs]
 refine⟨λhi=>by rw[B]at hi;exact hi,λd q=>?_⟩;have hi:i<x.cps.size:=by rw[<- B];exact(List.getElem?_eq_some_iff.mp q).1
 refine⟨hi,λy H' ⟨e,c,F,J⟩=>?_⟩;subst e J;have:d=.str ⟨#[c]⟩:=by
  unfold signs at q;rw[ZJ]at q;obtain⟨N,U,rfl⟩:=map_some q;have:x.cps[i]?=some N:=by rw[<- Array.getElem?_toList];exact U
  rw[F]at this;cases this;rfl
 subst this;exact⟨Ext.refl _ _,.str _⟩
def fF(f:Ev):Lv:=λρ=>(f ρ).bind λd=>match d with
 | .lst l=>some l
 | .tup l=>some l
 | .dT l=>some (l.map λp=>.tup (p.1.map DD))
 | .str x=>some (signs x)
 | _=>none
@[simp] theorem q_lSeqA:fF f ρ=(f ρ).bind λd=>match d with
 | .lst l=>some l
 | .tup l=>some l
 | .dT l=>some (l.map λp=>.tup (p.1.map DD))
 | .str x=>some (signs x)
 | _=>none:=rfl
theorem D7(h:PD X O e f):PDI X O tg e (fF f):=PI.mono (PI.or (JK h) (My.OT h)) <| by
 rintro σ H R ⟨H0,A0,A,E,ρ,items,st,e,q⟩;obtain⟨d,B,e⟩:=bind_some e;cases d with
 | str x=>
  cases e;refine .inr ⟨H0,A0,A,E,ρ,_,st,B,λv H1 J N=>?_⟩;cases RepB.str_inv (.of N);exact⟨x,rfl,q _ H1 [] J (λp F=>nomatch F) OO⟩
 | lst l=>exact .inl ⟨H0,A0,A,E,ρ,items,st,by unfold HJ;rw[B];exact e,q⟩
 | tup l=>exact .inl ⟨H0,A0,A,E,ρ,items,st,by unfold HJ;rw[B];exact e,q⟩
 | dT l=>exact .inl ⟨H0,A0,A,E,ρ,items,st,by unfold HJ;rw[B];exact e,q⟩
 | _=>exact nn e
end
structure GTup(K:YH)(mg:Str->Option Value)(x:Str)(ss:List Str):Prop where
 ex:∃a,mg x=some (.ref a)/\∃(o:Obj) (its:Array Value) (n:Nat),K.lookup a=some o/\o.cls=.type "tuple" /\ o.data=.seq its n/\its.size<=YN/\Vals (ss.map V.str) its.toList
structure GInt(mg:Str->Option Value)(x:Str)(i:Int):Prop where
 ex:∃t,mg x=some (.int i t)
section
variable {X:Cx}{O:List Nat}
theorem jQ(g:GInt X.mg x i)(F:Gl X x)(B:(x == ("__debug__" : Str))=false:=by decide):PD X O (.Name x p) (eC (.int i)):=by
 obtain⟨t,e⟩:=g.ex;exact PE.mono (uF (v:=.int i) F e ⟨t,rfl⟩ B) λσ H Q ⟨H0,A0,A,E,ρ,d,st,e,q⟩=>by cases e;exact q _ H (Ext.refl _ _) (.int _)
noncomputable def LR(neg:Bool)(ss:List Str):D->Option D
 | .str s=>some (.bl (if neg then !ss.contains s else ss.contains s))
 | _=>none
theorem wC(s:Str):∀ss:List Str,inV (.str s) (ss.map V.str)=ss.contains s
 | []=>rfl
 | y::ss=>by
  have ih:=wC s ss;unfold inV at ih ⊢;rw[Y4,zao,ih,List.contains_cons];congr 1;show decide (y=s)=(s == y);by_cases h:y=s
  ·subst h;simp
  ·have:¬ s=y:=λz=>h z.symm
   simp[h,this]
theorem sV:∀ss:List Str,(ss.map V.str).all lY=true
 | []=>rfl
 | y::ss=>by rw[Y4,zbf,sV ss];rfl
theorem KW{neg:Bool}{ss:List Str}{f:Ev}{a:Addr}{K:YH}(hk:∃(o:Obj) (its:Array Value) (n:Nat),K.lookup a=some o/\o.cls=.type "tuple" /\ o.data=.seq its n/\its.size<=YN/\Vals (ss.map V.str) its.toList){σ:L2.St}{H:Hp}{Q:VK}(h:tD Rep O (A8 (LR neg ss) f) σ H Q):RI (XJ K neg) (tD RepB O f) (tC (.ref a)) σ H Q:=by
 obtain⟨H0,A0,A,E,ρ,d,st,e,q⟩:=h;obtain⟨x,ex,e⟩:=bind_some e;refine⟨H0,A0,A,E,ρ,x,st,ex,λv H1 B F=>?_⟩;cases x with
 | str s=>
  cases e;cases F.str_inv;refine⟨a,ss.map V.str,rfl,.inr (.inr hk),rfl,sV ss,?_⟩;rw[wC];exact q _ H1 B (.bl _)
 | _=>exact nn e
theorem JH(g:GTup X.K X.mg x ss)(N:Gl X x)(q:PB X O e f)(F:(x == ("__debug__" : Str))=false:=by decide)(B:zae .In (.Name x p)=false:=by rfl):k3 X O (.Compare e [.In] [.Name x p] pos) (c9 (A8 (LR false ss) f)):=by
 obtain⟨a,J,hk⟩:=g.ex;exact PT.mono (AR CN q (uF (v:=.ref a) N J rfl F) B) λσ H Q h=>KW hk (jB h)
end
@[simp] theorem q_inG:LR neg ss (.str s)=some (.bl (if neg then !ss.contains s else ss.contains s)):=rfl
@[simp] theorem q_eqS:rN (.str a) (.str b)=some (.bl (decide (a=b))):=by
 unfold rN HW;rw[if_pos (.inl rfl)];by_cases h:a=b
 ·subst h;simp
 ·have h2:¬ D.str a=D.str b:=λz=>h (by injection z)
  simp[h]
@[simp] theorem q_neS:DM (.str a) (.str b)=some (.bl (!decide (a=b))):=by
 unfold DM HW;rw[if_pos (.inl rfl)];by_cases h:a=b
 ·subst h;simp
 ·have h2:¬ D.str a=D.str b:=λz=>h (by injection z)
  simp[h]
def eqN(n:Nat)(d:D):Prop:=∃x,iM d=some x/\x.nb=true/\x.dep<=n
theorem eqN.ok(h:eqN n d)(q:n<=60):fG d=true:=by
 obtain⟨x,e,a,b⟩:=h;unfold fG;rw[e];show(x.nb && decide (x.dep<=60))=true;rw[a,decide_eq_true (by lia)];rfl
theorem eqN.mono(h:eqN n d)(q:n<=m):eqN m d:=by
 obtain⟨x,e,a,b⟩:=h;exact⟨x,e,a,by lia⟩
theorem eqN.int:eqN n (.int i):=⟨.int i,rfl,rfl,zaa _⟩
theorem eqN.str:eqN n (.str s):=⟨.str s,rfl,rfl,zaa _⟩
theorem eqN.list:∀ {l:List D},(∀d∈l,eqN n d)->∃xs,kX l=some xs/\My.HZ xs=true/\My.rL xs<=n
 | [],_=>⟨[],rfl,rfl,zaa _⟩
 | d::l,h=>by
  obtain⟨x,e,a,b⟩:=h d (YQ ..);obtain⟨xs,J,B,N⟩:=eqN.list (l:=l) λq F=>h q (YW _ F)
  refine⟨x::xs,?_,?_,?_⟩
  ·rw[kX,e,J];rfl
  ·show(x.nb && My.HZ xs)=true
   rw[a,B];rfl
  ·show max x.dep (My.rL xs)<=n
   lia
theorem eqN.tup(h:∀d∈l,eqN n d):eqN (n+1) (.tup l):=by
 obtain⟨xs,e,a,b⟩:=eqN.list h;refine⟨.tup xs,?_,a,?_⟩
 ·rw[iM,e];rfl
 ·show My.rL xs+1<=n+1
  lia
theorem gW{q:Type}{rest:List (Option D)}{g h:q->D}:∀(l:List q) (o:Option D),(∀a∈l,f (some (g a)::rest)=some (h a))->dF (a7 0) jX f (l.map g) (o::rest)=some (l.map h)
 | [],o,_=>rfl
 | a::l,o,hf=>by
  have ih:=gW (f:=f) (rest:=rest) (g:=g) (h:=h) l (some (g a)) λb B=>hf b (YW _ B)
  have ha:=hf a (YQ ..);simp[-YI,-YJ,aB,aG,dF,ha,ih]
theorem z7(I:Nat->bI->Prop)(J:bI->Prop)(h:∀n ρ,I n ρ->(c ρ=some true/\∃m ρ',m<n/\b ρ=some (.nx ρ')/\I m ρ')\/(c ρ=some false/\J ρ)):∀(fuel n:Nat) (ρ:bI),n<fuel->I n ρ->∃ρ',cY c b fuel ρ=some (.nx ρ')/\J ρ'
 | 0,n,ρ,hn,_=>absurd hn (Nat.not_lt_zero n)
 | fuel+1,n,ρ,hn,hi=>by
  rcases h n ρ hi with⟨B,m,ρ',W,U,F⟩|⟨B,N⟩
  ·obtain⟨q,e,N⟩:=z7 I J h fuel m ρ' (by lia) F
   refine⟨q,?_,N⟩;unfold cY;rw[B,aB,if_pos rfl,U,aB];exact e
  ·refine⟨ρ,?_,N⟩
   unfold cY;rw[B,aB,if_neg YX]
theorem CK{c:Bv}{b rest:Sv}{ρ:bI}{R:D->Prop}(I:Nat->bI->Prop)(J:bI->Prop)(n:Nat)(F:n<100000)(q:I n ρ)(h:∀n ρ,I n ρ->(c ρ=some true/\∃m ρ',m<n/\b ρ=some (.nx ρ')/\I m ρ')\/(c ρ=some false/\J ρ))(k:∀ρ',J ρ'->∃d,rest ρ'=some (.rt d)/\R d):∃d,eK (uM c b) rest ρ=some (.rt d)/\R d:=by
 obtain⟨ρ',e,B⟩:=z7 I J h 100000 n ρ F q;have N:uM c b ρ=some (.nx ρ'):=e;rw[aL N];exact k ρ' B
theorem PD.pe(h:PD X O e f):PE X e (tD Rep O f):=h
noncomputable def isStar:Expr->Bool
 | .Starred ..=>true
 | _=>false
theorem c7(h:isStar e=false):YG (e::es) env=(false,eval e env)::YG es env:=by
 cases e <;> first|rfl|cases h
theorem lV:∀ {es:List Expr},(es.all λe=>!isStar e)=true->(YO pos (YG es env)).any (·.1)=false
 | [],_=>by simp[YG,YO]
 | e::es,h=>by
  rw[zbf,ZK]at h;have q:isStar e=false:=by cases z:isStar e;rfl;rw[z]at h;exact absurd h.1 (by decide)
  have ih:=lV (pos:=pos) (env:=env) (es:=es) h.2;rw[c7 q];simp only[YO,Y4,zao,Bool.false_or]at ih ⊢;exact ih
end P
namespace My
open PySem PySem.Spec PyProof.Rows L2 PySem.SeqAt
noncomputable def Q9(val:Nat->Int):Nat->Nat->Int->Int
 | 0,_,m=>m
 | k+1,j,m=>Q9 val k (j+1) (if val j>m then val j else m)
theorem CA(a v:Value):argsOk "max" ⟨[a],[(ZQ "default",v)]⟩:=by unfold argsOk;kernel_rfl
section
variable {prog:YK}{w:World}{A:YM}{R:Result->YE->Prop}{I S:Addr}{fp wr:List Addr}{n:Nat}{P:Nat->Value->Prop}{St:Nat->Heap->Prop}{kw:List (Str×Value)}
theorem mH(W:Walks prog w A.in1 I fp wr n P St)(val:Nat->Int)(hv:∀j v,P j v->∃t,v=.int (val j) t)(nS:S∉fp):∀(k j:Nat) (s:YE) (m:Int) (t:Tok) (c:Nat),n-j=k->j<=n->St j s.heap->
  s.heap.get? S=some {cls:=.type "list",dict:=none,data:=.seq #[.int m t,.int m t] c,slots:=#[]}->
  (∀t' h' tk,(∀b o,b∉wr->b≠S->s.heap.get? b=some o->h'.get? b=some o)->R (.ok (.ret (.int (Q9 val k j m) t'))) {s with heap:=h',toks:=tk})->
  zal (model prog w) A (.builtin "max.loop" ⟨[.ref I,.none,.ref S],kw⟩) R s
 | k,j,s,m,t,c,hk,hj,st,gS,fin=>by
  have nw:S∉wr:=λz=>nS (W.sub _ z)
  have nm:(zaG "max" ++ zaG ".loop" : String) = "max.loop" := by decide
  refine codeAny_builtin PySem.F.entry_max_loop ?_;rw[Around.under_plainId zbi _];show wpAny _ A.in1 (seqItems? (.ref S) >>= λ_=>_) _ _ s;refine YF (zce gS rfl ?_);show wpAny _ A.in1 (tryCatch (Z8 (.ref I)) _ >>= λ_=>_) _ _ s
  match k,hk,fin with
  | 0,hk,fin=>
   have e:j=n:=by lia
   refine YF (zbB (W.done s _ _ (e ▸ st) λh1 tk same=>?_));have J:=same S _ nw gS;show wpAny _ A.in1 (updateSeq S (λ_=>#[]) >>= λ_=>_) _ _ _;refine YF (zcM J rfl (YF (zbA (YL ?_))));exact fin t _ tk λb o nb B N=>(za8 _ _ (ZH B)).trans (same b o nb N)
  | k+1,hk,fin=>
   have lt:j<n:=by lia
   refine YF (zbB (W.item j s _ _ lt st λv h1 tk pv Y same=>?_));have J:=same S _ nw gS;obtain⟨u,rfl⟩:=hv j v pv;show wpAny _ A.in1 (tryCatch (holding [.int (val j) u,.int (val j) u] (richCompare .Gt (.int (val j) u) (.int m t) >>= λ_=>_)) _ >>= λ_=>_) _ _ _;refine YF (zbB (zaR (YF ?_)));refine richCompare_gives (op:=.Gt) (typeIs_int _ _ u) (typeIs_int _ _ t) PySem.F.slot_int_gt PySem.F.entry_int_gt (PySem.F.args_int_gt_2 _ _) (gives_int_gt _ _ u t) (λz=>nomatch z) ?_;refine YF (zaR (zai ?_));refine YF (zbA (YL ?_));by_cases hb:val j>m
   ·rw[decide_eq_true hb]
    simp only[if_true];refine YF (zcM J rfl (YF (zbA ?_)));rw[nm];refine YL ⟨zcg zbi _,mH W val hv nS k (j+1) _ (val j) u _ (by lia) lt (W.frame _ _ _ Y λb bf o N=>?_) (zbv _ J rfl) λt' h2 U q=>?_⟩
    ·exact(za8 _ _ (λz:S=b=>nS (z ▸ bf))).trans N
    ·have:=fin t' h2 U λb o nb B N=>q b o nb B ((za8 _ _ (ZH B)).trans (same b o nb N))
     rw[Q9,if_pos hb]at this;exact this
   ·rw[decide_eq_false hb]
    simp only[zb7,if_false];refine YF (zbA ?_);rw[nm];refine YL ⟨zcg zbi _,mH W val hv nS k (j+1) _ m t c (by lia) lt Y J λt' h2 U q=>?_⟩;have:=fin t' h2 U λb o nb B N=>q b o nb B (same b o nb N)
    rw[Q9,if_neg hb]at this;exact this
theorem yA(W:Walks prog w A.in1 I fp wr n P St)(val:Nat->Int)(hv:∀j v,P j v->∃t,v=.int (val j) t)(Y:S∉fp)(st:St 0 s.heap)
  (gS:s.heap.get? S=some {cls:=.type "list",dict:=none,data:=.seq #[] c,slots:=#[]})
  (f0:n=0->∀h' tk,(∀b o,b∉wr->b≠S->s.heap.get? b=some o->h'.get? b=some o)->R (.ok (.ret dv)) {s with heap:=h',toks:=tk})
  (fin:0<n->∀t' h' tk,(∀b o,b∉wr->b≠S->s.heap.get? b=some o->h'.get? b=some o)->R (.ok (.ret (.int (Q9 val (n-1) 1 (val 0)) t'))) {s with heap:=h',toks:=tk}) :
  zal (model prog w) A (.builtin "max.loop" ⟨[.ref I,.none,.ref S],[(ZQ "default",dv)]⟩) R s:=by
 have nw:S∉wr:=λz=>Y (W.sub _ z)
 have nm:(zaG "max" ++ zaG ".loop" : String) = "max.loop" := by decide
 refine codeAny_builtin PySem.F.entry_max_loop ?_;rw[Around.under_plainId zbi _];show wpAny _ A.in1 (seqItems? (.ref S) >>= λ_=>_) _ _ s;refine YF (zce gS rfl ?_);show wpAny _ A.in1 (tryCatch (Z8 (.ref I)) _ >>= λ_=>_) _ _ s;by_cases h0:n=0
 ·refine YF (zbB (W.done s _ _ (h0 ▸ st) λh1 tk same=>?_))
  refine YF (wpAny_rule (YL ?_));exact f0 h0 _ tk λb o nb q J=>same b o nb J
 ·have lt:0<n:=Nat.pos_of_ne_zero h0
  refine YF (zbB (W.item 0 s _ _ lt st λv h1 tk pv U same=>?_));have N:=same S _ nw gS;obtain⟨u,rfl⟩:=hv 0 v pv;show wpAny _ A.in1 (updateSeq S (λ_=>#[.int (val 0) u,.int (val 0) u]) >>= λ_=>_) _ _ _;refine YF (zcM N rfl ?_);rw[nm];refine YL ⟨zcg zbi _,mH W val hv Y (n-1) 1 _ (val 0) u _ rfl lt (W.frame _ _ _ U λb bf o J=>?_) (zbv _ N rfl) λt' h2 aa B=>?_⟩
  ·exact(za8 _ _ (λz:S=b=>Y (z ▸ bf))).trans J
  ·exact fin lt t' h2 aa λb o nb q J=>B b o nb q ((za8 _ _ (ZH q)).trans (same b o nb J))
end
noncomputable def HR(d:Int):List Int->Int
 | []=>d
 | x::xs=>xs.foldl (λm y=>if y>m then y else m) x
theorem vX(ns:List Int):∀(k j:Nat) (m:Int),ns.length-j=k->Q9 (λi=>(ns[i]?).getD 0) k j m=(ns.drop j).foldl (λm y=>if y>m then y else m) m
 | 0,j,m,h=>by
  rw[List.drop_eq_nil_iff.mpr (by lia)];rfl
 | k+1,j,m,h=>by
  have q:j<ns.length:=by lia
  rw[Q9,zbx q,List.foldl_cons,vX ns k (j+1) _ (by lia)];simp[q]
section
variable {X:Cx}
theorem yG(hc:X.calm=true)(I:Inv X pins σ H s)(hq:SqL X.K H p (ns.map V.int))(q:Q (.int (HR d ns)) H) :
  wpAny (model X.prog X.w) X.A (call (.builtin "max") [.ref p] [(ZQ "default",.int d t)]) (EP X pins σ Q) X.xe s:=by
 have nm:(zaG "max" ++ zaG ".loop" : String) = "max.loop" := by decide
 obtain⟨N,r',pl,hz⟩:=I.list hq;have Y:s.heap.IsList p N.toArray:=pl.isList;obtain⟨o,ho,ag,n,hd⟩:=id Y;have U:p≠s.heap.objs.size:=ZE (YT ho);have W:=Walks.list (prog:=X.prog) (w:=X.w) (A:=X.A.in1) (I.ok.hd hc) s.heap.objs.size p U N.toArray;refine kmk_tree PySem.F.kind_max PySem.F.plain_max PySem.F.entry_max (CA _ _) ?_;show wpAny _ X.A.in1 (zc2 "max" ["key", "default"] 0 ⟨[],[(ZQ "default",.int d t)]⟩ >>= λ_=>_) _ _ s;refine YF (wpAny_of_eq (show zc2 "max" ["key", "default"] 0 ⟨[],[(ZQ "default",.int d t)]⟩=pure [none,some (.int d t)]from rfl) ?_);refine YF (YL (YF (zbp Y (YF (wpAny_newList ?_ (zaa _))))));rw[nm];refine YL ⟨zcg zbi _,?_⟩;have J:=r'.length;rw[YV]at J;have sz:N.toArray.size=ns.length:=by rw[Y1];exact J.symm
 have B:∀h':Heap,(∀b o,b∉[s.heap.objs.size]->b≠(s.heap.push {cls:=.type "list_iterator",data:=.fields #[.ref p,.int 0 0]}).objs.size->((s.heap.push {cls:=.type "list_iterator",data:=.fields #[.ref p,.int 0 0]}).push (seqObj "list" #[] 0)).get? b=some o->h'.get? b=some o)->∀b o,s.heap.get? b=some o->h'.get? b=some o:=λh' k b o e=>by
  have lt:=YT e;refine k b o (λz=>ZE lt (List.mem_singleton.mp z)) ?_ (YY _ (YY _ e));rw[size_push'];exact ZE (Nat.lt_succ_of_lt lt)
 refine yA W (λi=>(ns[i]?).getD 0) (λi v hP=>wI r' (by simpa using hP)) (S:=(s.heap.push {cls:=.type "list_iterator",data:=.fields #[.ref p,.int 0 0]}).objs.size) ?_ ?_ (Y8 _ rfl) (λh0 h' tk same=>?_) λh0 t' h' tk same=>?_
 ·rw[size_push']
  intro z;rcases List.mem_cons.mp z with z|z
  ·exact zbb (zbq _) z
  ·exact zat _ (Nat.lt_trans (zbq _) ((List.mem_singleton.mp z) ▸ YT ho))
 ·exact⟨⟨_,YY _ (Y8 _ rfl),rfl,rfl⟩,Y.at λo e=>YY _ (YY _ e)⟩
 ·have e0:ns=[]:=List.length_eq_zero_iff.mp (by lia)
  subst e0;exact⟨.int d,H,I.kept (t':=tk) (B h' same),⟨t,rfl⟩,q⟩
 ·refine⟨.int (HR d ns),H,I.kept (t':=tk) (B h' same),⟨t',?_⟩,q⟩
  rw[sz];cases ns with
  | nil=>rw[sz]at h0;exact absurd h0 (zat 0)
  | cons x xs=>
   rw[vX (x::xs) _ 1 _ (by simp)];rfl
end
end My
namespace P
open PySem PySem.Spec PyProof.Rows L2
section
variable {X:Cx}{O:List Nat}
def BC(x y:D):Option D:=match x,y with
 | .lst l,.int d=>(jJ l).map λns=>.int (My.HR d ns)
 | _,_=>none
@[simp] theorem q_maxD:BC (.lst (ns.map .int)) (.int d)=some (.int (My.HR d ns)):=by unfold BC;simp only[i5];rfl
theorem IV(hc:X.calm=true)(hg:Gl X "max")(hm:X.mg "max" = none)(he:PB X O e fe)(hd:PD X O ed fd)(hs:isStar e=false):PD X O (.Call (.Name "max" p) [e] [⟨some "default",ed,kp⟩] pos) (aR BC fe fd):=by
 intro pins s σ H Q I h;obtain⟨H0,A0,A,E,ρ,d,st,B,q⟩:=h;obtain⟨x,ex,B⟩:=bind_some B;obtain⟨y,ey,B⟩:=bind_some B;refine zbr (kQ I hg hm My.boot_max ?_ (by decide) (by decide));refine PyProof.Rows.callWith_kw (bL (bP he gH (c7 hs) pos pins s σ H (λvs H1=>∃v,vs=[v]/\RepB A H1 x v/\Ext A H H1) I ⟨H0,A0,A,E,ρ,x,st,ex,λv H1 J Y=>⟨v,rfl,Y,J⟩⟩) λus s1 ⟨vs,H1,I1,Y,v,ev,rv,J⟩=>?_) (by rw[c7 hs];rfl) (lV (by simp[hs]));subst ev;refine bL (JN (nm:=some "default") (kpos:=kp) hd N8 pos pins s1 σ H1 (λvs H2=>∃w,vs=[w]/\Rep A H2 y w/\Ext A H1 H2) I1 ⟨H0,A0,A,E,ρ,y,st.mono J,ey,λw H2 F U=>⟨w,rfl,U,F⟩⟩) λws s2 ⟨zs,H2,I2,U,w,ew,W,F⟩=>?_
 subst ew;unfold BC at B;split at B
 ·obtain⟨ns,e1,rfl⟩:=map_some B
  obtain⟨a,aj,rfl,h1,r3⟩:=(rv.ext F).lst_inv;rw[eY e1 r3]at h1;cases W;obtain⟨u,rfl,ru⟩:=vals1 Y;cases ru;obtain⟨u2,rfl,N⟩:=vals1 U;obtain⟨t,rfl⟩:=N;exact My.yG hc I2 (.inl h1) (q _ H2 (J.trans F) (.int _))
 ·cases B
end
end P
namespace My
open PySem PySem.Spec PyProof.Rows L2 PySem.SeqAt
section
variable {prog:YK}{w:World}{A:YM}{E:Value->YE->Prop}{s:YE}
end
section
variable {X:Cx}{pins:List (Addr×Obj)}{σ:L2.St}{H:Hp}{s:YE}{a:Addr}{y v:V}{u r:Value}{A:YM}{E:Value->YE->Prop}
end
section
variable {X:Cx}{pins:List (Addr×Obj)}{σ:L2.St}{A:YM}{R:Result->YE->Prop}{it d:Addr}{fp:List Addr}{n:Nat}{P:Nat->Value->Prop}{St:Nat->Heap->Prop}{H2:Hp}
end
section
variable {X:Cx}
end
section
variable {X:Cx}
end
end My
namespace P
open PySem PySem.Spec PyProof.Rows L2
section
variable {X:Cx}{A:Av}{H:Hp}
end
end P
namespace My
open PySem PySem.Spec PyProof.Rows L2 PySem.SeqAt
section
variable {X:Cx}
end
end My
namespace P
open PySem PySem.Spec PyProof.Rows L2
section
variable {X:Cx}{O:List Nat}
end
section
variable {X:Cx}{O:List Nat}{e:Expr}{es:List Expr}
theorem xS(ha:PD X O e f)(q:mE X O es g)(hs:isStar e=false:=by rfl):mE X O (e::es) (aH f g):=wV ha q (c7 hs)
theorem RE(ha:PB X O e f)(q:vF X O es g)(hs:isStar e=false:=by rfl):vF X O (e::es) (aH f g):=qJ ha q (c7 hs)
theorem lc(h:Len g n):Len (aH f g) (n+1):=DW h
theorem l0:Len aY 0:=JI
variable {x:Str}{id T:String}{g:List D->Option D}{f:Lv}{p pos:Pos}
theorem cB(J:fU X (.builtin id) g)(F:X.mg x=none)(N:ZA x=some (.builtin id))(ha:vF X O (e::es) f)(U:Gl X x:=by rfl)(W:x ≠ "__name__" := by decide)(q:(x == ("__debug__" : Str))=false:=by decide)(hs:isStar e=false:=by rfl)(B:(es.all λe=>!isStar e)=true:=by rfl) :
  PD X O (.Call (.Name x p) (e::es) [] pos) (aT g f):=EB J U F N ha W q (c7 hs) (lV B)
theorem UW(J:fU X (.type T) g)(F:X.mg x=none)(N:ZA x=some (.type T))(ha:vF X O (e::es) f)(U:Gl X x:=by rfl)(W:x ≠ "__name__" := by decide)(q:(x == ("__debug__" : Str))=false:=by decide)(hs:isStar e=false:=by rfl)(B:(es.all λe=>!isStar e)=true:=by rfl) :
  PD X O (.Call (.Name x p) (e::es) [] pos) (aT g f):=CS J U F N ha W q (c7 hs) (lV B)
theorem cD(O':Fn X.prog X.w X.K X.mg X.base x k ps F)(U:Room k X.A)(ha:mE X O (e::es) f)(J:Len f ps.length)(N:Gl X x:=by rfl)(q:(x == ("__debug__" : Str))=false:=by decide)(hs:isStar e=false:=by rfl)(B:(es.all λe=>!isStar e)=true:=by rfl) :
  PD X O (.Call (.Name x p) (e::es) [] pos) (aT F f):=JJ O' U N ha J q (c7 hs) (lV B)
theorem cn{L:Lp}{B O2 O3:List Nat}{st:Stmt}{q:List Stmt}{f g:Sv}(h:gI X L B st f O2)(k:cQ X L O2 q g O3):cQ X L B (st::q) (eK f g) O3:=D2 h k
end
def XZ(P:YK)(w:World)(K:YH)(mg:Str->Option Value)(base:Heap)(N:List Str)(x:Str)(st:Stmt)(k:Nat)(b:Sv):Prop:=
 ∀(fa:Addr) (cdv:Value) (A:YM) (outer:List Env) (s:YE) (H:Hp) (E:XK),Room k (A.deeper (Y2 x (aF st) s.heap.objs.size fa cdv))->∃g,cQ (eN mW P w K mg base N x (aF st) fa cdv A outer s H E).nox ⟨[],[]⟩ [] (aX st) g []/\g=b
end P
namespace My
open PySem PySem.Spec PyProof.Rows L2 PySem.SeqAt
section
variable {prog:YK}{w:World}{A:YM}{R:Result->YE->Prop}{I S:Addr}{fp wr:List Addr}{n:Nat}{P:Nat->Value->Prop}{St:Nat->Heap->Prop}
end
section
variable {X:Cx}
theorem NU(F:∀v s,¬ X.xe v s)(J:PSs X body t):PS X (.Try body (h₀::hs) [] [] pos) t:=λpins s σ H D I hw=>
 wpAny_Try_except (ZR (J pins s σ H D I hw) (λf B q=>by
  cases f with
  | next=>exact YL q
  | _=>exact q) λv B z=>absurd z (F v B))
end
end My
namespace P
open PySem PySem.Spec PyProof.Rows L2
section
variable {X:Cx}{O O':List Nat}{L:Lp}
theorem zW(q:∀v s,¬ X.xe v s)(B:cQ X L O body f O'):gI X L O (.Try body (h₀::hs) [] [] pos) f O':=My.NU q B
end
end P
namespace My
open PySem PySem.Spec PyProof.Rows L2
end My
namespace P
open PySem PySem.Spec PyProof.Rows L2
section
variable {X:Cx}{O:List Nat}
end
end P
namespace My
open PySem PySem.Spec PyProof.Rows L2
def QR(i j:Int):Prop:=(-(10^250*10^250)<i/\i<10^250*10^250)/\-(10^250*10^250)<j/\j<10^250*10^250
theorem v3(h1:-(10^250*10^250)<i)(h2:i<10^250*10^250):Builtin.Int.intBits i<=2^20:=by
 have h:i.natAbs<10^250*10^250:=by lia
 have e:(10:Nat)^250*10^250<=2^(4*250+4*250):=by
  rw[Nat.pow_add,Nat.pow_mul];have:(10:Nat)^250<=(2^4)^250:=Nat.pow_le_pow_left (by decide) 250;exact Nat.mul_le_mul this this
 exact ZF (PyProof.Rows.intBits_le (ZN h e)) (by decide)
end My
namespace P
open PySem PySem.Spec PyProof.Rows L2
instance:∀i j,Decidable (My.QR i j):=λi j=>by unfold My.QR;infer_instance
section
variable {X:Cx}{L:Lp}{O O' O2:List Nat}
end
section
variable {X:Cx}{L:Lp}{O O' O2:List Nat}{Z:List Nat}
end
end P
namespace My
open PySem PySem.Spec PyProof.Rows L2
section
variable {X:Cx}
end
end My
namespace P
open PySem PySem.Spec PyProof.Rows L2
section
variable {X:Cx}
end
section
variable {X:Cx}{L:Lp}{O O':List Nat}{Z:List Nat}
mutual
def noL:D->Bool
 | .non=>true | .bl _=>true | .int _=>true | .str _=>true
 | .tup l=>LM l
 | _=>false
def LM:List D->Bool
 | []=>true
 | d::l=>noL d && LM l
end
mutual
theorem Rep.noL{A A':Av}{H H':Hp}(tp:∀b xs,H b=some (.tup xs)->H' b=some (.tup xs)){d:D}{v:V}:Rep A H d v->noL d=true->Rep A' H' d v
 | .non,_=>.non
 | .bl b,_=>.bl b
 | .int i,_=>.int i
 | .str s,_=>.str s
 | .tup h r,n=>.tup (tp _ _ h) (RepL.noL tp r (by rw[P.noL]at n;exact n))
 | .lst _ _ _,n=>by rw[P.noL]at n <;> first|cases n|simp
 | .dK _ _ _ _,n=>by rw[P.noL]at n <;> first|cases n|simp
 | .dT _ _ _ _,n=>by rw[P.noL]at n <;> first|cases n|simp
theorem RepL.noL{A A':Av}{H H':Hp}(tp:∀b xs,H b=some (.tup xs)->H' b=some (.tup xs)){ds:List D}{vs:List V}:RepL A H ds vs->LM ds=true->RepL A' H' ds vs
 | .nil,_=>.nil
 | .cons h t,n=>by
  rw[P.LM,ZK]at n;exact .cons (Rep.noL tp h n.1) (RepL.noL tp t n.2)
end
end
end P
namespace My
open PySem PySem.Spec PyProof.Rows L2
def DH(i j:Int):Prop:=QR i j\/(-(2^64)<i/\i<2^64)\/(-(2^64)<j/\j<2^64)
theorem IH{X:Cx}:OpR X (ZC .Mult) (rI DH λi j=>.int (i*j)):=U4 λ_ _ _ _ _ _ _ B q=>mul_int q (by
 rcases B with h|h|h
 ·exact IntMulOk.of_bits (v3 h.1.1 h.1.2) (v3 h.2.1 h.2.2)
 ·exact .of_left (intBits_le_64 h.1 h.2)
 ·exact .of_right (intBits_le_64 h.1 h.2))
end My
namespace P
open PySem PySem.Spec PyProof.Rows L2
instance:∀i j,Decidable (My.DH i j):=λi j=>by unfold My.DH;infer_instance
def G4:D->D->Option D:=DO λi j=>if My.DH i j then some (.int (i*j))else none
open Classical in
def bK:D->D->Option D:=DO λi j=>if My.DH i j then some (.int (i*j))else none
theorem AI:bK=G4:=by
 unfold bK G4;congr 1
theorem bW{X:Cx}:iK X (ZC .Mult) bK:=by rw[AI];exact uT My.IH
theorem GS{i j:Int}(h:My.DH i j):bK (.int i) (.int j)=some (.int (i*j)):=by
 rw[AI];exact if_pos h
theorem oO{i j:Int}(h:-(2^64)<i)(h2:i<2^64):bK (.int i) (.int j)=some (.int (i*j)):=GS (.inr (.inl ⟨h,h2⟩))
theorem HS{i j:Int}(h:-(2^64)<j)(h2:j<2^64):bK (.int i) (.int j)=some (.int (i*j)):=GS (.inr (.inr ⟨h,h2⟩))
section
variable {X:Cx}{z:Nat}{A:Av}{a:Addr}{l:List D}{σ:L2.St}{H H':Hp}{ρ:bI}
end
end P
namespace My
open PySem PySem.Spec PyProof.Rows L2
inductive Ents(w:World)(mg:Str->Option Value):List zaF->List (Str×Str)->Prop
 | nil:Ents w mg [] []
 | cons {key fn:Str} {t:Tok} {f:Addr} {es:List zaF} {l:List (Str×Str)} (hm:mg fn=some (.ref f)) (h:Ents w mg es l):Ents w mg (⟨ZP w key,.str key t,.ref f⟩::es) ((key,fn)::l)
structure DictAt(w:World)(K:YH)(mg:Str->Option Value)(x:Str)(l:List (Str×Str)):Prop where
 ex:∃(a:Addr) (o:Obj) (es:List zaF) (ep:Nat),mg x=some (.ref a)/\K.lookup a=some o/\o.ExactDict/\o.data=.dict es.toArray ep/\Ents w mg es l/\(l.map (·.1)).Nodup
def oN(mg:Str->Option Value)(l:List (Str×Str)):List (Key×Value):=l.map λp=>(.inr p.1,(mg p.2).getD .none)
theorem Ents.keys(h:Ents w mg es l):∀e∈es,∃k,(bQ P w).is k e.key=true/\e.hash=(bQ P w).hash k:=by
 induction h with
 | nil=>exact λe q=>nomatch q
 | @cons key fn t f es l hm h ih=>
  intro e q;rcases List.mem_cons.mp q with z|z
  ·subst z;exact⟨.inr key,mI key t,rfl⟩
  ·exact ih e z
theorem Ents.pairs(h:Ents w mg es l):Pairs (bQ P w) es (oN mg l):=by
 induction h with
 | nil=>exact .nil
 | @cons key fn t f es l hm h ih=>exact .cons (mI key t) (by show Y5 f=(mg fn).getD .none;rw[hm];rfl) ih
theorem t7:∀ {l:List (Str×Str)},(l.find? λp=>decide (p.1=s))=some (s,fn)->mg fn=some (.ref f)->Z4 (oN mg l) (.inr s:Key)=some (.ref f)
 | [],h,_=>nomatch h
 | p::l,h,hm=>by
  unfold Z4 oN;rw[Y4,zad];rw[zad]at h;by_cases e:p.1=s
  ·have q:decide ((ZM p.1:Key)=ZM s)=true:=decide_eq_true (by rw[e])
   rw[decide_eq_true e]at h;cases h;simp[hm]
  ·have q:decide ((ZM p.1:Key)=ZM s)=false:=decide_eq_false (λz=>e (zbm z))
   rw[decide_eq_false e]at h;have:=t7 (l:=l) h hm;unfold Z4 oN at this;simp only[q];exact this
end My
namespace P
open PySem PySem.Spec PyProof.Rows L2
section
variable {X:Cx}{O:List Nat}
noncomputable def MI(Fs:List (Str×(List D->Option D)))(k:D)(ds:List D):Option D:=match k with
 | .str s=>(Fs.find? λp=>decide (p.1=s)).bind λp=>p.2 ds
 | _=>none
def uU(q:List (Str×(List D->Option D)))(F:Ev)(B:Lv):Ev:=λρ=>(F ρ).bind λk=>(B ρ).bind λds=>MI q k ds
@[simp] theorem q_callD:uU Fs fk fa ρ=(fk ρ).bind λk=>(fa ρ).bind λds=>MI Fs k ds:=rfl
inductive Fam(X:Cx)(k n:Nat):List (Str×Str)->List (Str×(List D->Option D))->Prop
 | nil:Fam X k n [] []
 | cons {key fn:Str} {ps:List Str} {F:List D->Option D} {l:List (Str×Str)} {Fs:List (Str×(List D->Option D))} (h:Fn X.prog X.w X.K X.mg X.base fn k ps F) (hn:ps.length=n) (t:Fam X k n l Fs):Fam X k n ((key,fn)::l) ((key,F)::Fs)
theorem Fam.find(h:Fam X k n l Fs)(e:(Fs.find? λp=>decide (p.1=s))=some p):∃fn ps,(l.find? λp=>decide (p.1=s))=some (s,fn)/\Fn X.prog X.w X.K X.mg X.base fn k ps p.2/\ps.length=n:=by
 induction h with
 | nil=>cases e
 | @cons key fn ps F l Fs h hn t ih=>
  rw[zad]at e ⊢;by_cases z:key=s
  ·subst z
   have q:decide (key=key)=true:=decide_eq_true rfl;simp only[q]at e ⊢;cases e;exact⟨fn,ps,rfl,h,hn⟩
  ·have q:decide (key=s)=false:=decide_eq_false z
   simp only[q]at e ⊢;exact ih e
theorem ED(hD:My.DictAt X.w X.K X.mg x l)(hF:Fam X k n l Fs)(hr:Room k X.A)(hg:Gl X x)(hk:PB X O ke fk)(ha:mE X O (e::es) fa)(hl:∀ρ ds,fa ρ=some ds->ds.length=n)(hs:DE ke)
  (U:(x == ("__debug__" : Str))=false:=by decide) (he:YG (e::es) X.env=(false,eval e X.env)::YG es X.env:=by rfl) (aa:(YO pos (YG es X.env)).any (·.1)=false:=by rfl)
  (hc:eval (.Call (.Subscript (.Name x p) ke sp) (e::es) [] pos) X.env=(do callWith pos (<- eval (.Subscript (.Name x p) ke sp) X.env) [] (YO pos (YG (e::es) X.env)) (ZZ pos (Z0 [] X.env))):=by rfl) :
  PD X O (.Call (.Subscript (.Name x p) ke sp) (e::es) [] pos) (uU Fs fk fa):=by
 intro pins s σ H Q I ⟨H0,A0,A,E,ρ,d,st,J,q⟩;obtain⟨kd,ek,J⟩:=bind_some J;obtain⟨ds,ed,J⟩:=bind_some J;cases kd with
 | str ks=>
  obtain⟨p0,hf,eF⟩:=bind_some (show(Fs.find? λp=>decide (p.1=ks)).bind (λp=>p.2 ds)=some d from J);obtain⟨fn,ps,Y,FF,hn⟩:=hF.find hf;obtain⟨a,o,W,ep,hm,hK,hx,hd,hE,ae⟩:=hD.ex;obtain⟨f,fd,B,hb,ab,FO⟩:=My.Ok.ex FF;rw[hc];refine YF (t6 PySem.F.slot_dict_getitem.lookup hs (jT I hg hm ?_ U));refine bL (hk pins s σ H (λv H1=>v=.str ks/\Ext A H H1) I ⟨H0,A0,A,E,ρ,_,st,ek,λv H1 N r1=>⟨r1.str_inv,N⟩⟩) λiv s2 ⟨y,H1,I1,ry,ey,N⟩=>?_
  subst ey;have dd:s2.heap.DictOf (bQ X.prog X.w) a (My.oN X.mg l):=⟨o,W.toArray,ep,I1.kIn a o hK,hx,hd,λe he=>hE.keys e (by simpa using he),hE.pairs,by
   unfold My.oN;rw[ZS];have:(l.map (·.1)).map (ZM:Str->Key)=l.map ((λx=>x.1) ∘ λp=>((ZM p.1:Key),(X.mg p.2).getD .none)):=by rw[ZS];rfl
   rw[<- this];exact List.pairwise_map.mpr (List.Pairwise.imp (λh z=>h (zbm z)) ae)⟩
  refine⟨dd.typeIs,zcE (rA (k:=.inr ks) ry) dd.mapOf (My.t7 Y ab) ?_⟩;have I3:=λtk=>I1.tok tk
  refine zbS (h₀:=X.base) I.ok.mod.kin B (bL (ha pos pins _ σ H1 _ (I1.tok _) ⟨H0,A0,A,E,ρ,ds,st.mono N,ed,λvs H2 x2 r2=>(?_:(λvs H2=>W5 ps.length p0.2 (vs++[]) H2 Q E0) vs H2)⟩) λus s4 ⟨vs,H2,I4,r,qq⟩=>⟨I4.kIn,?_⟩) he aa
  ·show W5 ps.length p0.2 (vs++[]) H2 Q E0
   rw[zam];exact⟨A,ds,d,((st.mono N).mono x2).live,r2.toL,by rw[r2.length,hl ρ ds ed,hn],eF,λv H3 x3 r3=>q v H3 ((N.trans x2).trans x3) r3⟩
  ·exact y9 FO hr hb .nil BD I4 r qq
 | _=>cases J
end
end P
namespace My
open PySem PySem.Spec PyProof.Rows L2
section
variable {X:Cx}
end
end My
namespace P
open PySem PySem.Spec PyProof.Rows L2
section
variable {X:Cx}{O:List Nat}
end
variable {X:Cx}{O:List Nat}{e:Expr}
end P
namespace My
open PySem PySem.Spec PyProof.Rows L2
section
variable {prog:YK}{w:World}{A:YM}{E:Value->YE->Prop}{s:YE}
end
end My
namespace P
open PySem PySem.Spec PyProof.Rows L2
def Fe(K:YH)(x:Str)(st:Stmt)(f:Addr):Prop:=∃fd,Fun K x x st f fd
theorem Fe.mk{K:YH}{x:Str}{st:Stmt}{f:Addr}{N:Value}{od J:Option Addr}{F:Array (Option Value)}{kV B U q ct:Value}(l:K.lookup f=some ⟨N,od,.func (Z2 x x (cU st) (aX st) (aF st) .none kV B U J q ct),F⟩)(c:za6 K q x=true)(k:zaw K (.ref f)=true):Fe K x st f:=⟨_,yV l c k⟩
theorem Fe.d{K:YH}{mg:Str->Option Value}{x:Str}{st:Stmt}{f:Addr}{ps:List Str}(h:Fe K x st f)(a:mg x=some (.ref f))(q:∀(kV doc pm:Value) (an:Option Addr) (cdv ct:Value) (us:List Value),us.length=ps.length->bindArgs (Z2 x x (cU st) (aX st) (aF st) .none kV doc pm an cdv ct) ⟨us,[]⟩=pure (ps.zip us)):My.DefAt K mg x st ps:=let ⟨fd,F⟩:=h;⟨⟨f,fd,F,F.binds q,a⟩⟩
section
variable {X:Cx}{L:Lp}{O O':List Nat}
theorem c0{B O3:List Nat}{st:Stmt}{q:List Stmt}{f g:Sv}(h:gI X L B st f [])(k:cQ X L [] q g O3):cQ X L B (st::q) (eK f g) O3:=cn h k
theorem ss(i:Nat)(J:X.N.Nodup)(q:PD X O e f)(hi:X.N[i]?=some x:=by rfl)(B:Loc X.env.scope x:=by exact ZL rfl)(h:Sub O' (O.filter (· != i))=true:=by rfl)(hs:Y3 e (some (.Name x pos')) pos.line X.env=pure false:=by rfl)(F:X.fn x=true\/X.env.scope.names.lookup x=some .local:=by first|exact .inl rfl|exact .inr rfl):gI X L O (.Assign [.Name x pos'] e pos) (eL i f) O':=AF J hi B q h hs F
theorem gc(h1:BL X O e g)(h2:zM X O es k)(a:(zav (e::es) X.env).map (·.2)=zau e X.env::(zav es X.env).map (·.2):=by rfl):zM X O (e::es) (cG g k):=BP (λx y=>DP x y a) h1 h2
theorem gu(n:Nat)(h:zM X O es k)(q:X.calm=true:=by rfl)(a:(zav es X.env).length=n:=by rfl)(b:List.findIdx? (λx=>x.fst) (zav es X.env)=none:=by rfl):BL X O (.Tuple es j pos) (iI n k):=J8 (P0 q h a b)
theorem tc(q:iK X (YR op) g)(ha:PB X O a fa)(B:PB X O b fb)(h1:op≠CmpOp.In:=by decide)(h2:op≠CmpOp.NotIn:=by decide):k3 X O (.Compare a [op] [b] pos) (c9 (aR g fa fb)):=uH q ha B (GT _ h1 h2)
theorem ib{j}:PB X O (.Constant (.int n) j p) (eC (.int n)):=PD.b FU
end
end P
namespace My
open PySem PySem.Spec PyProof.Rows L2
section
variable {X:Cx}
end
end My
namespace P
open PySem PySem.Spec PyProof.Rows L2
section
variable {X:Cx}
end
end P
namespace HT
open PySem PySem.Spec PyProof.Rows
section
open PySem.SeqAt
open PySem.AutoSeq1 (wpAny_loadPart')
open PySem.MeetsSeq PySem.MeetsSeq2 PySem.MeetsSeq3
end
section
variable {prog:YK}{w:World}{A:YM}{E:Value->YE->Prop}{s:YE}
end
end HT
namespace P
open PySem PySem.Spec PyProof.Rows L2
section
variable {X:Cx}
end
section
variable {X:Cx}
end
noncomputable def mon:List Int->List Int->Int
 | e::es,v::vs=>v^e.toNat*mon es vs
 | _,_=>1
def ev(vs:List Int)(F:List My.Tm):Int:=(F.map λt=>t.2*mon t.1 vs).sum
noncomputable def pw(S:Nat->Int)(a:Int):Nat->Int
 | 0=>0
 | n+1=>pw S a n+a^n*S n
noncomputable def la(k:List Int):Int:=(k.getLast?).getD 0
section
variable {X:Cx}{L:Lp}{O O':List Nat}
theorem cO(O2:List Nat){B O3:List Nat}{st:Stmt}{q:List Stmt}{f g:Sv}(h:gI X L B st f O2)(k:cQ X L O2 q g O3):cQ X L B (st::q) (eK f g) O3:=cn h k
theorem gN(i:Nat){x:Str}{pos:Pos}(F:X.N.Nodup:=by assumption)(hi:X.N[i]?=some x:=by eq_refl)(q:Loc X.env.scope x:=by first|exact ZL rfl|exact Z5 rfl)(B:X.fn x=true\/X.env.scope.names.lookup x=some .local:=by first|exact .inl rfl|exact .inr rfl|assumption)(n:O.contains i=false:=by rfl):BL X O (.Name x pos) (a7 i):=v5 (uA F hi q B) n
theorem wt{x1}(h:mE X O es g)(q:Len g es.length)(B:Nat.ble es.length 100=true:=by rfl):PD X O (.Tuple es x1 pos) (vC g):=FY h (λρ ds k=>by rw[q ρ ds k];exact zch B)
theorem wl(h:mE X O es g)(q:Len g es.length)(B:Nat.ble es.length 100=true:=by rfl):PF X O (.List es pos) (mD g):=NG h (λρ ds k=>by rw[q ρ ds k];exact zch B)
theorem wE(O':Fn X.prog X.w X.K X.mg X.base x k ps F)(U:Room j X.A)(ha:mE X O (e::es) f)(J:Len f ps.length)(hk:k<=j)(N:Gl X x:=by rfl)(q:(x == ("__debug__" : Str))=false:=by decide)(hs:isStar e=false:=by rfl)(B:(es.all λe=>!isStar e)=true:=by rfl):PD X O (.Call (.Name x p) (e::es) [] pos) (aT F f):=cD O' (U.mono hk) ha J N q hs B
theorem VC{e:Expr}{es:List Expr}{f:Lv}{p pos:Pos}(F:X.mg "len" = none)(ha:vF X O (e::es) f)(B:Gl X "len")(hs:isStar e=false)(q:((es:List Expr).all λe=>!isStar e)=true):PD X O (.Call (.Name "len" p) (e::es) [] pos) (aT b4 f):=cB QI F My.boot_len ha B (by decide) (by decide) hs q
theorem VN{e:Expr}{es:List Expr}{f:Lv}{p pos:Pos}(F:X.mg "tuple" = none)(ha:vF X O (e::es) f)(B:Gl X "tuple")(hs:isStar e=false)(q:((es:List Expr).all λe=>!isStar e)=true):PD X O (.Call (.Name "tuple" p) (e::es) [] pos) (aT qX f):=UW wR F My.boot_tuple ha B (by decide) (by decide) hs q
theorem TJ{q:Expr}{e:Expr}{es:List Expr}{f:Lv}{p pos:Pos}(J:X.calm=true)(F:X.mg "min" = none)(ha:vF X O [e,q] f)(N:Gl X "min")(hs:isStar e=false)(B:(([q]:List Expr).all λe=>!isStar e)=true):PD X O (.Call (.Name "min" p) [e,q] [] pos) (aT xH f):=cB (KB J) F My.boot_min ha N (by decide) (by decide) hs B
theorem TU{q:Expr}{e:Expr}{es:List Expr}{f:Lv}{p pos:Pos}(J:X.calm=true)(F:X.mg "max" = none)(ha:vF X O [e,q] f)(N:Gl X "max")(hs:isStar e=false)(B:(([q]:List Expr).all λe=>!isStar e)=true):PD X O (.Call (.Name "max" p) [e,q] [] pos) (aT xA f):=cB (JV J) F My.boot_max ha N (by decide) (by decide) hs B
theorem SR{e:Expr}{f:Ev}{p p2 pos:Pos}(F:PB X O e f)(N:X.mg "isinstance" = none)(B:X.mg "int" = none)(U:Gl X "isinstance")(q:Gl X "int")(h1:YG [e,.Name "int" p2] X.env=(false,eval e X.env)::YG [.Name "int" p2] X.env)(h2:(YO pos (YG [.Name "int" p2] X.env)).any (·.1)=false)(J:YG [.Name "int" p2] X.env=(false,eval (.Name "int" p2) X.env)::YG [] X.env):PD X O (.Call (.Name "isinstance" p) [e,.Name "int" p2] [] pos) (xR "int" f):=uZ JG U N q B My.boot_int F (by decide) (by decide) h1 h2 J
theorem OM{e:Expr}{f:Ev}{p p2 pos:Pos}(F:PB X O e f)(N:X.mg "isinstance" = none)(B:X.mg "bool" = none)(U:Gl X "isinstance")(q:Gl X "bool")(h1:YG [e,.Name "bool" p2] X.env=(false,eval e X.env)::YG [.Name "bool" p2] X.env)(h2:(YO pos (YG [.Name "bool" p2] X.env)).any (·.1)=false)(J:YG [.Name "bool" p2] X.env=(false,eval (.Name "bool" p2) X.env)::YG [] X.env):PD X O (.Call (.Name "isinstance" p) [e,.Name "bool" p2] [] pos) (xR "bool" f):=uZ E2 U N q B My.boot_bool F (by decide) (by decide) h1 h2 J
theorem IP{e:Expr}{f:Ev}{p p2 pos:Pos}(F:PB X O e f)(N:X.mg "isinstance" = none)(B:X.mg "tuple" = none)(U:Gl X "isinstance")(q:Gl X "tuple")(h1:YG [e,.Name "tuple" p2] X.env=(false,eval e X.env)::YG [.Name "tuple" p2] X.env)(h2:(YO pos (YG [.Name "tuple" p2] X.env)).any (·.1)=false)(J:YG [.Name "tuple" p2] X.env=(false,eval (.Name "tuple" p2) X.env)::YG [] X.env):PD X O (.Call (.Name "isinstance" p) [e,.Name "tuple" p2] [] pos) (xR "tuple" f):=uZ kit_tuple U N q B My.boot_tuple F (by decide) (by decide) h1 h2 J
theorem S8{e:Expr}{f:Ev}{p p2 pos:Pos}(F:PB X O e f)(N:X.mg "isinstance" = none)(B:X.mg "str" = none)(U:Gl X "isinstance")(q:Gl X "str")(h1:YG [e,.Name "str" p2] X.env=(false,eval e X.env)::YG [.Name "str" p2] X.env)(h2:(YO pos (YG [.Name "str" p2] X.env)).any (·.1)=false)(J:YG [.Name "str" p2] X.env=(false,eval (.Name "str" p2) X.env)::YG [] X.env):PD X O (.Call (.Name "isinstance" p) [e,.Name "str" p2] [] pos) (xR "str" f):=uZ I0 U N q B My.boot_str F (by decide) (by decide) h1 h2 J
theorem YC{e:Expr}{lo hi:Option Expr}{p2 pos:Pos}{f:Ev}{a b:Ov}(q:PB X O e f)(F:IA X O lo a)(B:IA X O hi b):PD X O (.Subscript e (.Slice lo hi none p2) pos) (LW DB f a b):=EU V9 q F B
theorem X4{a b:Expr}{pos:Pos}{B q:Ev}(F:X.A.units+1<cLine)(ha:PB X O a B)(J:PB X O b q)(hs:uC b:=by exact λ_ _=>rfl):PD X O (.Subscript a b pos) (aR aO B q):=z6 F ha J hs
theorem VO{a b:Expr}{pos:Pos}{B q:Ev}{j:Nat}(N:Room j X.A)(ha:PB X O a B)(F:PB X O b q)(J:zae .In b=false):k3 X O (.Compare a [.In] [b] pos) (c9 (aR jN B q)):=uH (FW N.units) ha F J
theorem VB{a b:Expr}{pos:Pos}{B q:Ev}{j:Nat}(N:Room j X.A)(ha:PB X O a B)(F:PB X O b q)(J:zae .NotIn b=false):k3 X O (.Compare a [.NotIn] [b] pos) (c9 (aR lT B q)):=uH (BX N.units) ha F J
theorem X5{a b:Expr}{op:CmpOp}{pos:Pos}{g:D->D->Option D}{B q:Ev}(F:iK X (YR op) g)(ha:PB X O a B)(J:PB X O b q)(h1:op≠CmpOp.In)(h2:op≠CmpOp.NotIn):PD X O (.Compare a [op] [b] pos) (aR g B q):=FR F ha J (GT _ h1 h2)
theorem X0{o e:Expr}{apos cpos:Pos}{q F:Ev}(Y:PB X O o q)(J:PB X O e F)(U:ZX o "join" X.env (eval o X.env)=eval o X.env)(N:((((YO cpos (YG [e] X.env)).all λx=>!x.fst) && (ZZ cpos (Z0 [] X.env)).all λx=>x.fst.isSome) && decide (([e].length+([]:List ZO).length+if([]:List ZO).isEmpty=true then 0 else 1)<30))=true)(W:(apos.endLine == cpos.line)=true)(B:YG [e] X.env=(false,eval e X.env)::YG [] X.env)(a5:((YO cpos (YG [] X.env)).any λx=>x.fst)=false):PD X O (.Call (.Attribute o "join" apos) [e] [] cpos) (aR iH q F):=pH Y J (λa b=>l8 zbj zci zcj My.oZ a b U N W B a5) B
theorem XY{j:Nat}(q:Room j X.A):iK X (YR .Eq) rN:=TN q.units
theorem XS{j:Nat}(q:Room j X.A):iK X (YR .NotEq) DM:=TB q.units
theorem XW{j:Nat}(q:Room j X.A):iK X (YR .Lt) DJ:=OQ q.units0
def At(l:List Str)(x:Str)(i:Nat):Prop:=l[i]?=some x
theorem at_(i:Nat){l:List Str}{x:Str}(h:l[i]?=some x:=by eq_refl):At l x i:=h
theorem vB{i:Nat}{x:Str}{p:Pos}(h:At X.N x i)(F:RB X.env.scope x)(B:(x == ("__debug__" : Str))=false)(q:(x == ("__classdict__" : Str))=false):PB X O (.Name x p) (aE i):=QL i (pv i h F B q)
theorem vD{i:Nat}{x:Str}{p:Pos}(h:At X.N x i)(n:O.contains i=false)(F:RB X.env.scope x)(B:(x == ("__debug__" : Str))=false)(q:(x == ("__classdict__" : Str))=false):PD X O (.Name x p) (aE i):=QF i (pv i h F B q) (by simpa using n)
theorem gV{i:Nat}{x:Str}{pos:Pos}(h:At X.N x i)(n:O.contains i=false)(F:X.N.Nodup)(q:Loc X.env.scope x)(B:X.fn x=true\/X.env.scope.names.lookup x=some .local):BL X O (.Name x pos) (a7 i):=v5 (uA F h q B) n
theorem bA(i:Nat)(q:PD X O e f:=by trivial)(J:X.N.Nodup:=by assumption)(hi:X.N[i]?=some x:=by rfl)(B:Loc X.env.scope x:=by first|exact ZL rfl|exact Z5 rfl)(h:Sub O' (O.filter (· != i))=true:=by rfl)(hs:Y3 e (some (.Name x pos')) pos.line X.env=pure false:=by rfl)(F:X.fn x=true\/X.env.scope.names.lookup x=some .local:=by first|exact .inl rfl|exact .inr rfl):gI X L O (.Assign [.Name x pos'] e pos) (eL i f) O':=AF J hi B q h hs F
theorem u5(i:Nat)(q:PF X O e f:=by trivial)(B:X.N.Nodup:=by assumption)(hi:X.N[i]?=some x:=by rfl)(F:Loc X.env.scope x:=by first|exact ZL rfl|exact Z5 rfl)(h:Sub O' (i::O)=true:=by rfl)(U:O.contains i=false:=by rfl)(hs:Y3 e (some (.Name x pos')) pos.line X.env=pure false:=by rfl)(J:X.fn x=true\/X.env.scope.names.lookup x=some .local:=by first|exact .inl rfl|exact .inr rfl):gI X L O (.Assign [.Name x pos'] e pos) (eL i f) O':=FJ B hi F q h U hs J
theorem G5(i:Nat)(q:PD X O e f:=by trivial)(J:PE X o (d6 i):=by exact pv _)(U:mem O i=true:=by rfl)(W:ZX o "append" X.env (eval o X.env)=eval o X.env:=by rfl)(N:((((YO cpos (YG [e] X.env)).all λx=>!x.fst) && (ZZ cpos (Z0 [] X.env)).all λx=>x.fst.isSome) && decide (([e].length+([]:List ZO).length+if([]:List ZO).isEmpty=true then 0 else 1)<30))=true:=by rfl)(Y:(apos.endLine == cpos.line)=true:=by rfl)(B:YG [e] X.env=(false,eval e X.env)::YG [] X.env:=by rfl)(a5:((YO cpos (YG [] X.env)).any λx=>x.fst)=false:=by rfl)(hs:Y3 (.Call (.Attribute o "append" apos) [e] [] cpos) none pos.line X.env=pure false:=by rfl)(h:Sub O' O=true:=by rfl):gI X L O (.Expr (.Call (.Attribute o "append" apos) [e] [] cpos) pos) (zI i f) O':=yB J q U (l8 zcN PySem.F.slot_list_append PySem.F.type_list_append mL J (bP (PD.pe q) gH (hs:=B)) W N Y B a5) hs h
theorem aV(q:PD X O e f:=by trivial):cQ X L O [.Return (some e) pos] (HY f) O':=aW (KL q)
theorem WN(ha:cQ X L O a f O')(B:cQ X L O b k O')(q:k3 X O c g:=by trivial):gI X L O (.If c a b pos) (pL g f k) O':=y4 q ha B
theorem cH(ha:cQ X L O a f O')(q:k3 X O c g:=by trivial)(h:Sub O' O=true:=by rfl):gI X L O (.If c a [] pos) (pL g f BK) O':=y4 q ha (A3 h)
theorem UJ{st:Stmt}:cQ X L O [st] xQ O':=aW CQ
theorem cR{c:Expr}{st:Stmt}{pos:Pos}{g:Bv}(q:k3 X O c g:=by trivial)(h:Sub O' O=true:=by rfl):gI X L O (.If c [st] [] pos) (pL g xQ BK) O':=y4 q UJ (A3 h)
theorem l7(q B:List Nat)(J:cQ X ⟨B,q⟩ q body b q)(hi:PDI X O tg iter f:=by trivial)(W:BL X q tg g:=by trivial)(F:zba (model X.prog X.w) X.A X.env X.xe:=by exact PassesOwn.never)(U:X.calm=true:=by rfl)(h1:Sub q O=true:=by rfl)(h2:Sub O' q=true:=by rfl)(N:Sub O' B=true:=by rfl)(hs:∀x,zaj iter X.env x=pure x:=by intro _;rfl):gI X L O (.For tg iter body [] pos) (DG f g b) O':=JA F U hi W J h1 h2 N hs
theorem HE(q B:List Nat)(J:cQ X ⟨B,q⟩ q body b q)(U:k3 X q c g:=by trivial)(F:zba (model X.prog X.w) X.A X.env X.xe:=by exact PassesOwn.never)(h1:Sub q O=true:=by rfl)(h2:Sub O' q=true:=by rfl)(N:Sub O' B=true:=by rfl):gI X L O (.While c body [] pos) (uM g b) O':=CP F U J h1 h2 N
theorem fB(q:PB X O e f:=by trivial)(hs:Y3 e none pos.line X.env=pure false:=by rfl)(h:Sub O' O=true:=by rfl):gI X L O (.Expr e pos) (rG f) O':=DQ q hs h
theorem d5(σ:YE)(N:List Str)(ms:List (Option Nat))(hi:PDI X O tg iter it:=by trivial)(Y:∀C s H fp,N.Nodup->BL (My.a6 X N scope (h9 X.env.cells scope.names []) C s H fp) [] tg g:=by intros;trivial)(W:∀C s H fp,My.ID (My.a6 X N scope (h9 X.env.cells scope.names []) C s H fp) ifs (tDT [] c):=by intros;trivial)(B:∀C s H fp,PD (My.a6 X N scope (h9 X.env.cells scope.names []) C s H fp) [] elt f:=by intros;trivial)
  (U:X.env.cells=za3 (σ.heap.objs.size+1) X.env.scope.names []:=by rfl) (q:cI X scope N ms:=by repeat' first|exact zag|exact rfl|exact ZL rfl|constructor) (F:N.Nodup:=by decide)
  (J:X.calm=true:=by rfl) (hk:scope.kind=.function:=by rfl) (h:A9 scope.names X.env.scope.names=true:=by rfl) (hn:(ms.all λo=>match o with|some i=>!O.contains i|none=>true)=true:=by rfl) (hs:∀x,zaj iter X.env x=pure x:=by intro _;rfl):PF X O (.ListComp elt [⟨tg,iter,ifs,0⟩] scope pos) (dU ms it g c f):=KH J (yU hk h U) q hn hi (λC s H fp=>Y C s H fp F) W B hs
theorem NK(i:Nat)(σ:YE)(N:List Str)(ms:List (Option Nat))(hi:PDI X O tg iter it:=by trivial)(hg:∀C s H fp,N.Nodup->BL (My.a6 X N scope (h9 X.env.cells scope.names []) C s H fp) [] tg g:=by intros;trivial)(ht:∀C s H fp,My.ID (My.a6 X N scope (h9 X.env.cells scope.names []) C s H fp) ifs (tDT [] c):=by intros;trivial)(U:∀C s H fp,PD (My.a6 X N scope (h9 X.env.cells scope.names []) C s H fp) [] elt f:=by intros;trivial)
  (hx:X.env.cells=za3 (σ.heap.objs.size+1) X.env.scope.names []:=by rfl) (J:cI X scope N ms:=by repeat' first|exact zag|exact rfl|exact ZL rfl|constructor) (Y:N.Nodup:=by decide)
  (hc:X.calm=true:=by rfl) (hk:scope.kind=.function:=by rfl) (h:A9 scope.names X.env.scope.names=true:=by rfl) (hn:(ms.all λo=>match o with|some i=>!O.contains i|none=>true)=true:=by rfl) (hs:∀x,zaj iter X.env x=pure x:=by intro _;rfl)
  (W:X.N.Nodup:=by assumption) (F:X.N[i]?=some x:=by rfl) (hl:Loc X.env.scope x:=by first|exact ZL rfl|exact Z5 rfl) (q:Sub O' (O.filter (· != i))=true:=by rfl) (B:Y3 (.ListComp elt [⟨tg,iter,ifs,0⟩] scope pos) (some (.Name x pos')) spos.line X.env=pure true:=by rfl) (hf:X.fn x=true\/X.env.scope.names.lookup x=some .local:=by first|exact .inl rfl|exact .inr rfl) :
  gI X L O (.Assign [.Name x pos'] (.ListComp elt [⟨tg,iter,ifs,0⟩] scope pos) spos) (eL i (dU ms it g c f)) O':=EC W F hl hc (yU hk h hx) J hn hi (λC s H fp=>hg C s H fp Y) ht U q hs B hf
end
theorem fx{Q:YK}{w:World}{K:YH}{mg:Str->Option Value}{base:Heap}{x:Str}{k:Nat}{ps:List Str}{F:List D->Option D}(B:List D->Option D)(h:Fn Q w K mg base x k ps F)(e:F=B:=by rfl):Fn Q w K mg base x k ps B:=e ▸ h
noncomputable def QW:List Str->(List Value->Prop)->Prop
 | [],Q=>Q []
 | _::ps,Q=>∀u,QW ps λus=>Q (u::us)
theorem LI{ps:List Str}{Q:List Value->Prop}(h:QW ps Q){q:List Value}(e:q.length=ps.length):Q q:=by
 induction ps generalizing q Q with
 | nil=>rw[List.length_eq_zero_iff.mp e];exact h
 | cons a ps ih=>
  cases q with
  | nil=>cases e
  | cons u q=>exact ih (h u) (Nat.succ.inj e)
def Bd(st:Stmt)(x:Str)(ps:List Str):Prop:=∀(kV doc pm:Value) (an:Option Addr) (cdv ct:Value),QW ps λq=>bindArgs (Z2 x x (cU st) (aX st) (aF st) .none kV doc pm an cdv ct) ⟨q,[]⟩=pure (ps.zip q)
def De(K:YH)(x:Str)(st:Stmt):Prop:=∃f,Y6 K YU x=some (some (.ref f))/\Fe K x st f
def Des(K:YH)(tp:Nat->Stmt)(t:List (Str×Nat×List Str)):Prop:=∀p∈t,De K p.1 (tp p.2.1)
theorem Des.nil{K:YH}{tp:Nat->Stmt}:Des K tp []:=λ_ h=>nomatch h
theorem Des.cons{K:YH}{tp:Nat->Stmt}{x:Str}{i:Nat}{ps:List Str}{t:List (Str×Nat×List Str)}{f:Addr}{N:Value}{od J:Option Addr}{F:Array (Option Value)}{kV B U q ct:Value}(a:Y6 K YU x=some (some (.ref f)))(l:K.lookup f=some ⟨N,od,.func (Z2 x x (cU (tp i)) (aX (tp i)) (aF (tp i)) .none kV B U J q ct),F⟩)(c:za6 K q x=true)(k:zaw K (.ref f)=true)(r:Des K tp t):Des K tp ((x,i,ps)::t):=
 zbC.2 ⟨⟨f,a,Fe.mk l c k⟩,r⟩
def Bds(tp:Nat->Stmt)(t:List (Str×Nat×List Str)):Prop:=∀p∈t,Bd (tp p.2.1) p.1 p.2.2
theorem Bds.nil:Bds tp []:=λ_ h=>nomatch h
theorem Bds.cons(a:Bd (tp i) x ps)(r:Bds tp t):Bds tp ((x,i,ps)::t):=zbC.2 ⟨a,r⟩
theorem Des.d{K:YH}{h:Heap}{mg:Str->Option Value}{tp:Nat->Stmt}{t:List (Str×Nat×List Str)}(X:K.In h)(G:h.Ns YU mg)(D:Des K tp t)(B:Bds tp t):∀p∈t,My.DefAt K mg p.1 (tp p.2.1) p.2.2:=λp J=>let ⟨_,a,e⟩:=D p J;e.d (Y9 X G a) λkV F U N q ct W=>LI (B p J kV F U N q ct)
def Nos(K:YH)(t:List Str):Prop:=∀x∈t,Y6 K YU x=some none
theorem Nos.nil{K:YH}:Nos K []:=λ_ h=>nomatch h
theorem Nos.cons{K:YH}{x:Str}{t:List Str}(a:Y6 K YU x=some none)(r:Nos K t):Nos K (x::t):=zbC.2 ⟨a,r⟩
def Gis(K:YH)(t:List (Str×Int)):Prop:=∀p∈t,∃k,Y6 K YU p.1=some (some (.int p.2 k))
theorem Gis.nil{K:YH}:Gis K []:=λ_ h=>nomatch h
theorem Gis.cons{K:YH}{x:Str}{n:Int}{k:Tok}{t:List (Str×Int)}(a:Y6 K YU x=some (some (.int n k)))(r:Gis K t):Gis K ((x,n)::t):=zbC.2 ⟨⟨k,a⟩,r⟩
theorem Gis.d{K:YH}{h:Heap}{mg:Str->Option Value}{t:List (Str×Int)}(X:K.In h)(G:h.Ns YU mg)(D:Gis K t):∀p∈t,GInt mg p.1 p.2:=λp q=>let ⟨_,a⟩:=D p q;⟨⟨_,Y9 X G a⟩⟩
theorem y2{w:List D}{c:Int}(N:0<=c)(h1:c<=(w.length:Int)):cutD w none (some c)=w.take c.toNat/\cutD w (some c) none=w.drop c.toNat:=by
 have B:HT.sIx w.length w.length (some c)=c.toNat:=by
  show(if c<0 then _ else min c.toNat w.length)=_;rw[if_neg (by lia)];lia
 have J:HT.sIx w.length 0 (some c)=c.toNat:=by
  show(if c<0 then _ else min c.toNat w.length)=_;rw[if_neg (by lia)];lia
 have q:HT.sIx w.length 0 none=0:=rfl;have F:HT.sIx w.length w.length none=w.length:=rfl;unfold cutD;rw[B,J,q,F];constructor
 ·simp
 ·rw[List.take_of_length_le (by simp)]
section
variable {ρ ρ':bI}{f g:Ev}{a b:Bv}{l:Lv}{x y d r:D}{xs:List D}{i j:Int}{k:Nat}{s t:Sv}{o:Option Out}
theorem NA(h:ρ[k]?=some (some x)):aE k ρ=some x:=by unfold aE;rw[h];rfl
theorem WG:eC x ρ=some x:=rfl
theorem aC{w:D->D->Option D}(F:f ρ=some x)(B:g ρ=some y)(q:w x y=some r):aR w f g ρ=some r:=by unfold aR;rw[F,aB,B,aB,q]
theorem aD{F:List D->Option D}(h:l ρ=some xs)(k:F xs=some r):aT F l ρ=some r:=by unfold aT;rw[h,aB,k]
theorem aA(h:f ρ=some x)(k:l ρ=some xs):aH f l ρ=some (x::xs):=by unfold aH;rw[h,aB,k,aB]
theorem cM(h:l ρ=some xs):vC l ρ=some (.tup xs):=by unfold vC;rw[h,aG]
theorem dE(h:l ρ=some xs):mD l ρ=some (.lst xs):=by unfold mD;rw[h,aG]
theorem G7(h:f ρ=some (.int i)):kF f ρ=some (some i):=by unfold kF;rw[h,aB];rfl
theorem G6{w:D->Option Int->Option Int->Option D}{u v:Ov}{p q:Option Int}(J:f ρ=some x)(B:u ρ=some p)(N:v ρ=some q)(F:w x p q=some r):LW w f u v ρ=some r:=by unfold LW;rw[J,aB,B,aB,N,aB,F]
theorem P2(h:f ρ=some (.int i)):QX f ρ=some (.int (-i)):=by unfold QX;rw[h,aB];rfl
theorem aI{c:Bool}(h:f ρ=some (.bl c)):c9 f ρ=some c:=by unfold c9;rw[h,aB];rfl
theorem e9{c:Bool}(h:a ρ=some c):xO a ρ=some (!c):=by unfold xO;rw[h,aG]
noncomputable def Q7{α:Type}(c:Bool)(u v:α):α:=if c=true then u else v
theorem mS{q:Type}{c:Bool}{u v w:q}(h:c=true)(k:u=w):Q7 c u v=w:=(if_pos h).trans k
theorem kU{q:Type}{c:Bool}{u v w:q}(h:c=false)(k:v=w):Q7 c u v=w:=(if_neg (by rw[h];exact nofun)).trans k
theorem dY{c:Bool}{z:Option Bool}(h:a ρ=some c)(k:Q7 c (b ρ) (some false)=z):mC a b ρ=z:=by unfold mC;rw[h,aB];exact k
theorem l9{c:Bool}{z:Option Bool}(h:a ρ=some c)(k:Q7 c (some true) (b ρ)=z):LZ a b ρ=z:=by unfold LZ;rw[h,aB];exact k
theorem S3{c:Bool}(h:a ρ=some c)(k:Q7 c (s ρ) (t ρ)=o):pL a s t ρ=o:=by unfold pL;rw[h,aB];exact k
def sq(p:Out)(t:Sv):Option Out:=match p with
 | .nx ρ=>t ρ
 | p=>some p
theorem aJ{p:Out}(h:s ρ=some p)(k:sq p t=o):eK s t ρ=o:=by unfold eK;rw[h,aB];exact k
theorem TR(k:t ρ=o):sq (.nx ρ) t=o:=k
theorem aN(h:f ρ=some x):HY f ρ=some (.rt x):=VS h
theorem s_ift(h:a ρ=some true)(k:s ρ=o):pL a s t ρ=o:=(WI h).trans k
theorem s_iff(h:a ρ=some false)(k:t ρ=o):pL a s t ρ=o:=(WO h).trans k
theorem PU{w:Gv}(h:f ρ=some x)(k:w x ρ=some ρ'):QS f w ρ=some (.nx ρ'):=by unfold QS;rw[h,aB,k,aG]
theorem y8(h:aE k ρ=some (.lst xs))(e:f ρ=some x)(z:xs.length<=1000000):zI k f ρ=some (.nx (ρ.set k (some (.lst (xs++[x]))))):=by
 unfold zI;rw[h,aB];show(f ρ).bind _=_;rw[e,aB];exact if_pos (decide_eq_true z)
theorem mP{u v:List D}(z:u.length+v.length<=1000000):bD (.lst u) (.lst v)=some (.lst (u++v)):=if_pos (decide_eq_true z)
theorem JC{u:List D}(z:u.length+1<=1000000):bD (.lst u) (.lst [x])=some (.lst (u++[x])):=mP z
theorem tM(h:rP xs i=some x):aO (.lst xs) (.int i)=some x:=h
theorem uX(h:rP xs i=some x):aO (.tup xs) (.int i)=some x:=h
theorem cV{ms:List (Option Nat)}{w:Gv}{ds:List D}(h:l ρ=some xs)(z:xs.length<=1000000)(e:dF w a f xs (k4 ms ρ)=some ds):dU ms l w a f ρ=some (.lst ds):=by unfold dU;rw[h,aB];exact(if_pos (decide_eq_true z)).trans (by rw[e,aG])
theorem NR{w:Gv}:dF w a f [] ρ=some []:=rfl
theorem pF{w:Gv}{ds:List D}(h:w x ρ=some ρ')(k:a ρ'=some true)(e:f ρ'=some y)(r:dF w a f xs ρ'=some ds):dF w a f (x::xs) ρ=some (y::ds):=by rw[dF,h,aB,k,aB,if_pos rfl,e,aB,r,aB]
theorem uQ{R:D->Prop}(h:s ρ=some (.nx ρ'))(k:∃d,t ρ'=some (.rt d)/\R d):∃d,eK s t ρ=some (.rt d)/\R d:=by rw[aL h];exact k
theorem L4{w:Gv}(h:w x ρ=some ρ')(k:s ρ'=o):turn w s x ρ=o:=by unfold turn;rw[h,aB,k]
theorem mN{w:Gv}(h:l ρ=some xs)(k:dI w s xs ρ=o):DG l w s ρ=o:=by unfold DG;rw[h,aB,k]
theorem NY{w:Gv}:dI w s [] ρ=some (.nx ρ):=rfl
theorem K7{w:Gv}(h:turn w s x ρ=some (.nx ρ'))(k:dI w s xs ρ'=o):dI w s (x::xs) ρ=o:=by
 unfold turn at h;obtain⟨ρ1,B,q⟩:=bind_some h;unfold dI;rw[B,aB,q,aB];exact k
theorem AQ{ys:List D}(h:l ρ=some [x])(e:(tJ x).map (iJ 0)=some ys):BH l ρ=some ys:=by unfold BH;rw[h,aB];exact e
theorem y6(h:f ρ=some (.lst xs)):fF f ρ=some xs:=by unfold fF;rw[h,aB]
theorem G9{w:List D->Option (List D)}{ys:List D}(h:l ρ=some xs)(k:w xs=some ys):lR w l ρ=some ys:=by unfold lR;rw[h,aB,k]
theorem OS{u:Ev}{w:List D}(B:f ρ=some (.lst w))(ha:g ρ=some (.int i))(F:u ρ=some (.lst [x]))(q:0<=i)(h1:i<w.length)(J:w.length<=1000) :
  aR bD (aR bD (LW DB f BI (kF g)) u) (LW DB f (kF (aR bD g (eC (.int 1)))) BI) ρ=some (.lst (w.take i.toNat++x::w.drop (i.toNat+1))):=by
 obtain⟨n,rfl⟩:=zaP q;refine(aC (aC (G6 B rfl (G7 ha) rfl) F (mP ?_)) (G6 B (G7 (aC ha rfl rfl)) rfl rfl) (mP ?_)).trans ?_
 all_goals rw[(y2 q (by lia)).1]
 ·simp;lia
 ·rw[(y2 (by lia) (by lia)).2];simp;lia
 ·rw[(y2 (by lia) (by lia)).2];simp
end
def hide(p:Addr)(H:Hp):Hp:=λb=>if b=p then none else H b
section
variable {A A0:Av}{H H0 H':Hp}{p:Addr}
theorem hide_ne{b:Addr}(n:b≠p):hide p H b=H b:=if_neg n
theorem sI:hide p H p=none:=if_pos rfl
theorem cA{b:Addr}{u:HO}(h:hide p H b=some u):b≠p/\H b=some u:=by
 unfold hide at h;split at h
 ·cases h
 ·next n=>exact⟨n,h⟩
theorem hV{b:Addr}{u:HO}(n:b≠p)(h:Rd H b u):Rd (hide p H) b u:=by
 rcases h with h|⟨o,h⟩
 ·exact .inl (by rw[hide_ne n];exact h)
 ·exact .inr ⟨o,by rw[hide_ne n];exact h⟩
theorem AU{b:Addr}{u:HO}(h:Rd (hide p H) b u):b≠p/\Rd H b u:=by
 rcases h with h|⟨o,h⟩
 ·exact⟨(cA h).1,.inl (cA h).2⟩
 ·exact⟨(cA h).1,.inr ⟨o,(cA h).2⟩⟩
theorem gT:Ext A (hide p H) H:=⟨λ_ _ h=>(AU h).2,λ_ _ _ h=>(cA h).2,λ_ _ _ h=>(cA h).2,λ_ _ _ h=>(cA h).2⟩
mutual
theorem Rep.hide(ha:A p)(q:∀xs,H p≠some (.tup xs)){d:D}{v:V}:Rep A H d v->Rep A (hide p H) d v
 | .non=>.non
 | .bl b=>.bl b
 | .int i=>.int i
 | .str s=>.str s
 | .tup h r=>.tup (by rw[hide_ne (λz=>by subst z;exact q _ h)];exact h) (RepL.hide ha q r)
 | .lst n h r=>.lst n (hV (λz=>n (z ▸ ha)) h) (RepL.hide ha q r)
 | .dK n h e r=>.dK n (hV (λz=>n (z ▸ ha)) h) e (RepL.hide ha q r)
 | .dT n h e r=>.dT n (hV (λz=>n (z ▸ ha)) h) e (RepL.hide ha q r)
 | .ob (dx:=dx) n h e r=>.ob (dx:=dx) n ((hide_ne (λz=>n (by rw[z];exact ha))).trans h) e (RepL.hide ha q r)
theorem RepL.hide(ha:A p)(q:∀xs,H p≠some (.tup xs)){ds:List D}{vs:List V}:RepL A H ds vs->RepL A (hide p H) ds vs
 | .nil=>.nil
 | .cons h t=>.cons (Rep.hide ha q h) (RepL.hide ha q t)
end
abbrev MX(A:Av)(p:Addr):Av:=λb=>A b/\b≠p
abbrev Pour(A:Av)(p:Addr)(H H':Hp):Prop:=Ext (MX A p) (hide p H) H'
theorem Own.notTup{l:D}(o:Own A H l p)(xs:List V):H p≠some (.tup xs):=by
 cases o with
 | lst h r=>rw[h];exact nofun
 | dK h e r=>rw[h];exact nofun
 | dT h e r=>rw[h];exact nofun
 | ob h e r=>rw[h];exact nofun
theorem wD(x:Pour A p H H'):Ext A (hide p H) H':=⟨x.rd,x.kp,λb u a h=>x.ow b u ⟨a,(cA h).1⟩ h,x.fz⟩
theorem Rep.pour(x:Pour A p H H')(ha:A p)(q:∀xs,H p≠some (.tup xs)){d:D}{v:V}(r:Rep A H d v):Rep A H' d v:=(r.hide ha q).ext (wD x)
theorem RepL.pour(x:Pour A p H H')(ha:A p)(q:∀xs,H p≠some (.tup xs)){d:List D}{v:List V}(r:RepL A H d v):RepL A H' d v:=(r.hide ha q).ext (wD x)
theorem hJ{H2:Hp}(x:Pour A p H H')(y:Pour A p H' H2):Pour A p H H2:=by
 have q:∀ {b u},hide p H b=some u->b≠p:=λh=>(cA h).1
 refine⟨λb u h=>?_,λb u k h=>?_,λb u a h=>?_,λb o u h=>?_⟩
 ·exact y.rd b u (hV (AU h).1 (x.rd b u h))
 ·exact y.kp b u k (by rw[hide_ne (q h)];exact x.kp b u k h)
 ·exact y.ow b u a (by rw[hide_ne (q h)];exact x.ow b u a h)
 ·exact y.fz b o u (by rw[hide_ne (q h)];exact x.fz b o u h)
theorem Own.pour{b:Addr}(x:Pour A p H H')(ha:A p)(q:∀xs,H p≠some (.tup xs))(B:A b)(n:b≠p){d:D}(o:Own A H d b):Own A H' d b:=by
 have w:∀ {u},H b=some u->H' b=some u:=λh=>x.ow b _ ⟨B,n⟩ (by rw[hide_ne n];exact h)
 cases o with
 | lst h r=>exact .lst (w h) (r.pour x ha q)
 | dK h e r=>exact .dK (w h) e (r.pour x ha q)
 | dT h e r=>exact .dT (w h) e (r.pour x ha q)
 | ob h e r=>exact .ob (w h) e (r.pour x ha q)
theorem ST.pour{E:List Fact}{O:List Nat}{z:Nat}{σ:L2.St}{ρ:bI}{l l':D}(s:ST H0 A0 A E O σ H ρ)(Y:σ[z]?=some (some (.ref p)))(J:ρ[z]?=some (some l))(x:Pour A p H H')(o:Own A H' l' p)(W:z∈O:=by exact List.mem_singleton.mpr rfl):ST H0 A0 A E O σ H' (ρ.set z (some l')):=by
 obtain⟨a,e1,N,e3,e4⟩:=s.own z l J W;rw[Y]at e1;cases e1;have U:=e4.notTup;have F:∀ {b},H0 b≠none->b≠p:=λh q=>h (q ▸ e3)
 have lt:z<ρ.length:=(List.getElem?_eq_some_iff.mp J).1;have B:∀ {i:Nat} {d:D},(ρ.set z (some l'))[i]?=some (some d)->∃d0,ρ[i]?=some (some d0):=λ{i d} h=>by
  rcases cK h with⟨q,_⟩|⟨_,h⟩
  ·exact⟨l,q ▸ J⟩
  ·exact⟨d,h⟩
 refine⟨⟨λb u h=>?_,λb u k h=>?_,λb u a h=>?_,λb q u h=>?_⟩,s.sub,s.l0,λb hb=>?_,by rw[List.length_set];exact s.len,λi d h n=>?_,λi d h n=>?_,λi j d d' b hi hj h1 h2 h3 h4=>?_,λq hq=>?_⟩
 ·refine x.rd b u (hV (F ?_) (s.ex.rd b u h))
  rcases h with h|⟨_,h⟩ <;> (rw[h];exact nofun)
 ·exact x.kp b u k (by rw[hide_ne (F (by rw[h];exact nofun))];exact s.ex.kp b u k h)
 ·exact x.ow b u ⟨s.sub b a,F (by rw[h];exact nofun)⟩ (by rw[hide_ne (F (by rw[h];exact nofun))];exact s.ex.ow b u a h)
 ·exact x.fz b q u (by rw[hide_ne (F (by rw[h];exact nofun))];exact s.ex.fz b q u h)
 ·by_cases q:b=p
  ·subst q;exact o.there
  ·cases e:H b with
   | none=>exact absurd e (s.live b hb)
   | some u=>rw[x.ow b u ⟨hb,q⟩ (by rw[hide_ne q];exact e)];exact nofun
 ·rcases cK h with⟨q,_⟩|⟨q,h⟩
  ·exact absurd (q ▸ W) n
  ·obtain⟨v,e,r⟩:=s.val i d h n
   exact⟨v,e,r.pour x N U⟩
 ·rcases cK h with⟨q,e,_⟩|⟨q,h⟩
  ·cases e;exact⟨p,q ▸ Y,N,e3,o⟩
  ·obtain⟨b,w1,w2,w3,w4⟩:=s.own i d h n
   exact⟨b,w1,w2,w3,w4.pour x N U w2 λc=>q (s.inj i z d l p n W h J (c ▸ w1) Y)⟩
 ·obtain⟨_,h1⟩:=B h1
  obtain⟨_,h2⟩:=B h2;exact s.inj i j _ _ b hi hj h1 h2 h3 h4
 ·have:=s.ext q hq
  cases q with
  | rep d v=>exact Rep.pour x N U this
  | fz b o u=>
   have this:H b=some (.frz o u):=this;have nb:b≠p:=λq=>by
    subst q;cases e4 with
    | lst h r=>rw[h]at this;cases this
    | dK h e r=>rw[h]at this;cases this
    | dT h e r=>rw[h]at this;cases this
    | ob h e r=>rw[h]at this;cases this
   exact x.fz b o u (by rw[hide_ne nb];exact this)
end
inductive OutQ where
 | nx (ρ:bI)|rt (d l:D)
abbrev Qv:=bI->Option OutQ
def SV(z:Nat)(p:Addr)(H0:Hp)(A0:Av)(E:List Fact)(T:Ends):OutQ->Prop
 | .nx ρ=>∀A σ H,ST H0 A0 A E [z] σ H ρ->σ[z]?=some (some (.ref p))->T.nx σ H
 | .rt d l=>∀A v H,(∀a,A0 a->A a)->A p->Ext A0 H0 H->Rep A H d v->Own A H l p->T.rt v H
inductive tQ(z:Nat)(f:Qv)(T:Ends)(σ:L2.St)(H:Hp):Prop
 | mk (H0:Hp) (A0 A:Av) (E:List Fact) (ρ:bI) (p:Addr) (out:OutQ) (st:ST H0 A0 A E [z] σ H ρ) (hz:σ[z]?=some (some (.ref p))) (e:f ρ=some out) (q:SV z p H0 A0 E T out):tQ z f T σ H
def PQ(X:Cx)(z:Nat)(st:Stmt)(f:Qv):Prop:=PS X st (tQ z f)
def IB(X:Cx)(z:Nat)(st:List Stmt)(f:Qv):Prop:=PSs X st (tQ z f)
section
variable {X:Cx}{z:Nat}
def UQ:Qv:=λρ=>some (.nx ρ)
def rW(f g:Qv):Qv:=λρ=>(f ρ).bind λo=>match o with
 | .nx ρ'=>g ρ'
 | o=>some o
theorem QJ:IB X z [] UQ:=PSs.mono uJ <| by
 rintro T σ H ⟨H0,A0,A,E,ρ,p,F,st,B,e,q⟩;cases e;exact q A σ H st B
theorem aZ{st:Stmt}{rest:List Stmt}{f g:Qv}(h1:PQ X z st f)(h2:IB X z rest g):IB X z (st::rest) (rW f g):=PSs.mono (lP h1 h2) <| by
 rintro T σ H ⟨H0,A0,A,E,ρ,p,F,st,N,e,q⟩;obtain⟨o,U,e⟩:=bind_some e;refine⟨H0,A0,A,E,ρ,p,o,st,N,U,?_⟩;cases o with
 | nx ρ'=>exact λA' W H' J B=>⟨H0,A0,A',E,ρ',p,F,J,B,e,q⟩
 | rt d l=>cases e;exact q
theorem dZ{st:Stmt}{f:Qv}(h:PQ X z st f):IB X z [st] f:=o7 h
def Q6(c:Bv)(f g:Qv):Qv:=λρ=>(c ρ).bind λb=>if b=true then f ρ else g ρ
theorem R9{c:Expr}{a b:List Stmt}{pos:Pos}{g:Bv}{f k:Qv}(ha:IB X z a f)(U:IB X z b k)(W:k3 X [z] c g:=by trivial):PQ X z (.If c a b pos) (Q6 g f k):=PS.mono (HF W ha U) <| by
 rintro T σ H ⟨H0,A0,A,E,ρ,p,B,st,F,e,q⟩;obtain⟨b,N,e⟩:=bind_some e;refine⟨H0,A0,A,E,ρ,b,st,N,λH1 J=>?_⟩;cases b with
 | true=>rw[if_pos rfl]at e ⊢;exact⟨H0,A0,A,E,ρ,p,B,st.mono J,F,e,q⟩
 | false=>rw[if_neg YX]at e ⊢;exact⟨H0,A0,A,E,ρ,p,B,st.mono J,F,e,q⟩
def W6(z:Nat)(f:Ev):Qv:=λρ=>(f ρ).bind λd=>(aE z ρ).map λl=>.rt d l
theorem jI{e:Expr}{pos:Pos}{f:Ev}(F:PD X [z] e f:=by trivial):PQ X z (.Return (some e) pos) (W6 z f):=PS.mono (qU F) <| by
 rintro T σ H ⟨H0,A0,A,E,ρ,p,W,st,N,e,q⟩;obtain⟨d,Y,e⟩:=bind_some e;obtain⟨l,e2,rfl⟩:=map_some e;refine⟨H0,A0,A,E,ρ,d,st,Y,λv H' x r=>?_⟩;obtain⟨a,B,J,o3,U⟩:=(st.mono x).own z l (aQ e2) (List.mem_singleton.mpr rfl);rw[N]at B;cases B;exact q A v H' st.sub J (st.mono x).ex r U
def zH(i:Nat)(f:Ev):Qv:=λρ=>(f ρ).map λd=>.nx (ρ.set i (some d))
theorem CI{i:Nat}{st:Stmt}{f:Ev}(B:PS X st (zL (tD Rep [z] f) (kG i)))(n:i≠z):PQ X z st (zH i f):=PS.mono B <| by
 rintro T σ H ⟨H0,A0,A,E,ρ,p,J,st,F,e,q⟩;obtain⟨d,N,rfl⟩:=map_some e;exact⟨H0,A0,A,E,ρ,d,st,N,λv H' x r=>q A _ H' ((st.mono x).put r λh=>n (List.mem_singleton.mp h)) (by rw[eZ (ZH n)];exact F)⟩
theorem NI{i:Nat}{x:Str}{e:Expr}{pos pos':Pos}{f:Ev}(J:X.N.Nodup)(hi:X.N[i]?=some x)(B:Loc X.env.scope x)(q:PD X [z] e f)(n:i≠z)
  (hs:Y3 e (some (.Name x pos')) pos.line X.env=pure false:=by rfl) (F:X.fn x=true\/X.env.scope.names.lookup x=some .local:=by first|exact .inl rfl|exact .inr rfl):PQ X z (.Assign [.Name x pos'] e pos) (zH i f):=CI (jF J hi B q hs F) n
inductive tGz(z:Nat)(g:Gv)(v:V)(σ:L2.St)(H:Hp)(Q:L2.St->Hp->Prop):Prop
 | mk (H0:Hp) (A0 A:Av) (E:List Fact) (ρ:bI) (d:D) (ρ':bI) (p:V) (st:ST H0 A0 A E [z] σ H ρ) (hz:σ[z]?=some (some p)) (r:Rep A H d v) (e:g d ρ=some ρ') (q:∀σ',ST H0 A0 A E [z] σ' H ρ'->σ'[z]?=some (some p)->Q σ' H):tGz z g v σ H Q
def UX(X:Cx)(z:Nat)(tg:Expr)(g:Gv):Prop:=PG X tg (tGz z g)
theorem EM{i:Nat}{tg:Expr}(h:PG X tg (kG i))(n:i≠z):UX X z tg (a7 i):=PG.mono h <| by
 rintro v σ H Q ⟨H0,A0,A,E,ρ,d,ρ',p,st,B,r,e,q⟩;cases e;exact q _ (st.put r λh=>n (List.mem_singleton.mp h)) (by rw[eZ (ZH n)];exact B)
def T2(f:Ev)(g:Gv):Qv:=λρ=>(f ρ).bind λd=>(g d ρ).map .nx
def xM(z:Nat)(fk fe:Ev):Qv:=λρ=>(fe ρ).bind λe=>(fk ρ).bind λk=>(MV k).bind λk=>(aE z ρ).bind λx=>match x with
 | .lst l=>(IC l.length k).map λj=>.nx (ρ.set z (some (.lst (l.set j e))))
 | _=>none
theorem NF{o k value:Expr}{pos pos':Pos}{W fe:Ev}(ho:PE X o (d6 z))(hk:PB X [z] k W)(hv:PD X [z] value fe)(J:swapsWithSole [.Subscript o k pos'] value pos.line X.env=pure false:=by rfl)(hw:swappedStores [.Subscript o k pos'] value X.env=pure none:=by rfl)
  (hg:∀ {to ti:TE} {t:HP},PE X o to->PE X k ti->LJ X t->PG X (.Subscript o k pos') (QO to ti t):=by intro _ _ _ a b c;exact FX a b c):PQ X z (.Assign [.Subscript o k pos'] value pos) (xM z W fe):=
 PS.mono (P7 hv (hg ho hk set_list) J hw) <| by
  rintro T σ H ⟨H0,A0,A,E,ρ,p,aj,st,hz,e,q⟩;obtain⟨w,ew,e⟩:=bind_some e;obtain⟨y,ey,e⟩:=bind_some e;obtain⟨kk,e5,e⟩:=bind_some e;obtain⟨x,ex,e⟩:=bind_some e;obtain⟨a,e1,F,e3,e4⟩:=st.own z _ (aQ ex) (List.mem_singleton.mpr rfl);cases x with
  | lst l=>
   obtain⟨j,e7,rfl⟩:=map_some e;refine⟨H0,A0,A,E,ρ,w,st,ew,λv H1 x1 r1=>⟨_,e1,H0,A0,A,E,ρ,y,st.mono x1,ey,λu H2 Y U=>?_⟩⟩;have B:=x1.trans Y;cases e4 with
   | @lst _ _ xs h4 r4=>
    have N:=B.ow _ _ F h4;rw[wJ e5]at U;have:=U.int_inv;subst this;refine⟨a,xs,kk,j,rfl,rfl,N,by rw[r4.length];exact e7,?_⟩;exact q A σ _ ((st.mono B).write (o:=.lst _) (aQ ex) (List.mem_singleton.mpr rfl) e1 F e3 N trivial (.lst aM (((r4.ext B).set j (r1.ext Y)).put F N trivial))) hz
  | _=>cases e
abbrev Qe:=bI->Option (D×D)
def XQ(n:Nat)(F:List D->Option (D×D)):Sp:=λvs H Q _=>∃(A:Av) (p:Addr) (v0:V) (us:List V) (d0:D) (es:List D) (l d l':D),vs=v0::.ref p::us/\us.length+2=n/\Live A H/\A p/\Rep A H d0 v0/\RepL A H es us/\Own A H l p/\F (d0::l::es)=some (d,l') /\
 ∀v H',Pour A p H H'->Own A H' l' p->Rep A H' d v->Q v H'
def FnQ(P:YK)(w:World)(K:YH)(mg:Str->Option Value)(base:Heap)(x:Str)(k:Nat)(ps:List Str)(F:List D->Option (D×D)):Prop:=My.Ok P w K mg base x k ps (XQ ps.length F)
theorem FnQ.mono{P:YK}{w:World}{K:YH}{mg:Str->Option Value}{base:Heap}{x:Str}{j k:Nat}{ps:List Str}{F:List D->Option (D×D)}(h:FnQ P w K mg base x j ps F)(l:j<=k):FnQ P w K mg base x k ps F:=My.Ok.mono h l
inductive tQE(z:Nat)(f:Qe)(σ:L2.St)(H:Hp)(Q:VK):Prop
 | mk (H0:Hp) (A0 A:Av) (E:List Fact) (ρ:bI) (p:Addr) (l d l':D) (st:ST H0 A0 A E [z] σ H ρ) (hz:σ[z]?=some (some (.ref p))) (hl:ρ[z]?=some (some l)) (e:f ρ=some (d,l')) (q:∀v H',Pour A p H H'->Own A H' l' p->Rep A H' d v->Q v H'):tQE z f σ H Q
def IE(X:Cx)(z:Nat)(e:Expr)(f:Qe):Prop:=PE X e (tQE z f)
def cS(z:Nat)(F:List D->Option (D×D))(f0:Ev)(fs:Lv):Qe:=λρ=>(f0 ρ).bind λd0=>(fs ρ).bind λes=>(aE z ρ).bind λl=>F (d0::l::es)
theorem E4{x:Str}{k:Nat}{ps:List Str}{F:List D->Option (D×D)}{J ep:Expr}{es:List Expr}{f0:Ev}{fs:Lv}{p pos:Pos}(O':FnQ X.prog X.w X.K X.mg X.base x k ps F)(hr:Room k X.A)(hg:Gl X x)(h0:PD X [z] J f0)(hp:PE X ep (d6 z))(ha:mE X [z] es fs)(hl:∀ρ ds,fs ρ=some ds->ds.length+2=ps.length)(ac:(x == ("__debug__" : Str))=false:=by decide)
  (he:YG (J::ep::es) X.env=(false,eval J X.env)::YG (ep::es) X.env:=by rfl) (ab:YG (ep::es) X.env=(false,eval ep X.env)::YG es X.env:=by rfl) (Y:(YO pos (YG (ep::es) X.env)).any (·.1)=false:=by rfl) :
  IE X z (.Call (.Name x p) (J::ep::es) [] pos) (cS z F f0 fs):=PE.mono (My.gU O' hr hg (bP h0 (bP hp ha ab) he) ac he Y) λσ H Q ⟨H0,A0,A,E,ρ,p,l,d,l',st,hz,B,e,q⟩=>by
 obtain⟨d0,J,e⟩:=bind_some e;obtain⟨ds,e1,e⟩:=bind_some e;obtain⟨N,e2,e⟩:=bind_some e;have:N=l:=by have:=aQ e2;rw[B]at this;cases this;rfl
 subst this;refine⟨H0,A0,A,E,ρ,d0,st,J,λv0 H1 W r1=>⟨.ref p,hz,H0,A0,A,E,ρ,ds,st.mono W,e1,λus H2 U r2=>?_⟩⟩;obtain⟨a,o1,o2,o3,o4⟩:=(st.mono (W.trans U)).own z N B (List.mem_singleton.mpr rfl);rw[hz]at o1;cases o1;obtain⟨a,w1,w2,w3,w4⟩:=st.own z N B (List.mem_singleton.mpr rfl);rw[hz]at w1;cases w1;have px:Pour A p H H2:=Ext.trans gT ((W.trans U).mono λ_ h=>h.1);exact⟨A,p,v0,us,d0,ds,N,d,l',rfl,by rw[r2.length];exact hl ρ ds e1,(st.mono (W.trans U)).live,o2,r1.ext U,r2.toL,o4,e,λv H' x o r=>q v H' (hJ px x) o r⟩
def oJ(i z:Nat)(f:Qe):Qv:=λρ=>(f ρ).map λp=>.nx ((ρ.set z (some p.2)).set i (some p.1))
theorem pZ{i:Nat}{st:Stmt}{f:Qe}(W:∀ρ p,f ρ=some p->∃l,ρ[z]?=some (some l))(N:PS X st (zL (tQE z f) (kG i)))(n:i≠z):PQ X z st (oJ i z f):=PS.mono N <| by
 rintro T σ H ⟨H0,A0,A,E,ρ,p,U,st,B,e,q⟩;obtain⟨⟨d,l'⟩,J,rfl⟩:=map_some e;obtain⟨l,F⟩:=W ρ _ J;exact⟨H0,A0,A,E,ρ,p,l,d,l',st,B,F,J,λv H' x o r=>q A _ H' ((st.pour B F x o).put r λh=>n (List.mem_singleton.mp h)) (by rw[eZ (ZH n)];exact B)⟩
theorem oU{F:List D->Option (D×D)}{f0:Ev}{fs:Lv}(ρ:bI)(p:D×D)(h:cS z F f0 fs ρ=some p):∃l,ρ[z]?=some (some l):=by
 obtain⟨d0,B,h⟩:=bind_some h;obtain⟨ds,J,h⟩:=bind_some h;obtain⟨l,q,h⟩:=bind_some h;exact⟨l,aQ q⟩
theorem KF{i:Nat}{x:Str}{e:Expr}{pos pos':Pos}{F:List D->Option (D×D)}{f0:Ev}{fs:Lv}(U:X.N.Nodup)(hi:X.N[i]?=some x)(B:Loc X.env.scope x)(q:IE X z e (cS z F f0 fs))(n:i≠z)
  (hs:Y3 e (some (.Name x pos')) pos.line X.env=pure false:=by rfl) (J:X.fn x=true\/X.env.scope.names.lookup x=some .local:=by first|exact .inl rfl|exact .inr rfl):PQ X z (.Assign [.Name x pos'] e pos) (oJ i z (cS z F f0 fs)):=pZ oU (jF U hi B q hs J) n
def QT(f:Qe):Qv:=λρ=>(f ρ).map λp=>.rt p.1 p.2
theorem pK{e:Expr}{pos:Pos}{F:List D->Option (D×D)}{f0:Ev}{fs:Lv}(W:IE X z e (cS z F f0 fs)):PQ X z (.Return (some e) pos) (QT (cS z F f0 fs)):=PS.mono (qU W) <| by
 rintro T σ H ⟨H0,A0,A,E,ρ,p,aa,st,B,e,q⟩;obtain⟨⟨d,l'⟩,N,rfl⟩:=map_some e;obtain⟨l,J⟩:=oU ρ _ N;obtain⟨a,U,Y,o3,o4⟩:=st.own z l J (List.mem_singleton.mpr rfl);rw[B]at U;cases U;exact⟨H0,A0,A,E,ρ,p,l,d,l',st,B,J,N,λv H' x o r=>q A v H' st.sub Y (st.pour B J x o).ex r o⟩
def kY(n:Nat)(f:Qv)(ds:List D):Option (D×D):=(f (a8 n ds)).bind λo=>match o with
 | .rt d l=>some (d,l)
 | .nx _=>none
theorem ST.begunQ{A:Av}{H:Hp}{N:List Str}{d0 l:D}{es:List D}{q:V}{p:Addr}{B:List V}(F:Live A H)(ha:A p)(U:Rep A H d0 q)(r:RepL A H es B)(o:Own A H l p):ST (P.hide p H) (MX A p) A [] [1] (L2.start N (q::.ref p::B)) H (a8 N.length (d0::l::es)) where
 ex:=gT
 sub:=λ_ h=>h.1
 l0:=λa h=>by rw[hide_ne h.2];exact F a h.1
 live:=F
 len:=by unfold L2.start a8;simp[r.length]
 val:=λi d h n=>by
  unfold a8 at h;unfold L2.start
  match i with
  | 0=>cases h;exact⟨q,rfl,U⟩
  | 1=>exact absurd (List.mem_singleton.mpr rfl) n
  | i+2=>
   have h:(es.map some++zaS (N.length-(es.length+2)) none)[i]?=some (some d):=h;by_cases hi:i<es.length
   ·rw[za5 (by simpa using hi),ZJ]at h
    obtain⟨d',e1,e2⟩:=map_some h;cases e2;obtain⟨v,Y,r3⟩:=r.get' e1;refine⟨v,?_,r3⟩;show(B.map some++_)[i]?=_;rw[za5 (by rw[YV,r.length];exact hi),ZJ,Y];rfl
   ·rw[zbT (by simpa using hi),zbU]at h
    split at h <;> cases h
 own:=λi d h n=>by
  rw[List.mem_singleton.mp n]at h ⊢;cases h;exact⟨p,rfl,ha,sI,o⟩
 inj:=λi j d d' a hi W _ _ _ _=>by rw[List.mem_singleton.mp hi,List.mem_singleton.mp W]
 ext:=λp J=>nomatch J
theorem GE{P:YK}{w:World}{K:YH}{mg:Str->Option Value}{base:Heap}{x:Str}{st:Stmt}{N ps:List Str}{k:Nat}{f:Qv}(Df:My.DefAt K mg x st ps)(S:FnScope N ps (aF st))
  (h:∀(W:Addr) (F:Value) (A:YM) (B:List Env) (s:YE) (H:Hp) (E:XK),Room k (A.deeper (Y2 x (aF st) s.heap.objs.size W F))->∃g,IB (eN mW P w K mg base N x (aF st) W F A B s H E).nox 1 (aX st) g/\g=f) :
  FnQ P w K mg base x (k+1) ps (kY N.length f):=by
 refine My.BodyOk.ok (λW F A B s H vs Q E hr J=>?_) Df S (λvs H Q E J=>by obtain⟨A,p,v0,us,d0,es,l,d,l',rfl,e,_⟩:=J;exact e);obtain⟨Y,p,v0,us,d0,es,l,d,l',rfl,hl,lv,ha,r0,r,o,eF,q⟩:=J;obtain⟨U,eo,e2⟩:=bind_some eF;obtain⟨g,hg,rfl⟩:=h W F A B s H E hr;refine⟨_,hg,_root_.P.hide p H,MX Y p,Y,[],_,p,U,ST.begunQ lv ha r0 r o,rfl,eo,?_⟩;cases U with
 | nx ρ=>cases e2
 | rt d' l2=>
  cases e2;intro A v H' aa ap x rv ol;have le:∀a,Y a->A a\/H' a=none:=λa h=>by
   by_cases z:a=p
   ·exact .inl (z ▸ ap)
   ·exact .inl (aa a ⟨h,z⟩)
  exact q v H' x (ol.av le) (rv.av le)
end
section
variable {A A0:Av}{H H0 H':Hp}{p D':Addr}{E:List Fact}{z zc:Nat}{σ:L2.St}{ρ:bI}
theorem ST.innerQ{l:D}(s:ST H0 A0 A E [z] σ H ρ)(hz:σ[z]?=some (some (.ref p)))(hl:ρ[z]?=some (some l))(ms:List (Option Nat))(h1:ms[zc]?=some (some z))(h2:∀j:Nat,ms[j]?=some (some z)->j=zc) :
  ST H0 A0 A E [zc] (k4 ms σ) H (k4 ms ρ)/\(k4 ms σ)[zc]?=some (some (.ref p)):=by
 have N:∀ {U:Type} {F:List (Option U)} {j i:Nat} {v:U},ms[j]?=some (some i)->F[i]?=some (some v)->(k4 ms F)[j]?=some (some v):=λ{U F j i v} B J=>by
  unfold k4;rw[ZJ,B];show some ((F[i]?).join)=_;rw[J];rfl
 refine⟨⟨s.ex,s.sub,s.l0,s.live,by simp[k4],λj d h n=>?_,λj d h n=>?_,λi j d d' a hi Y _ _ _ _=>by rw[List.mem_singleton.mp hi,List.mem_singleton.mp Y],s.ext⟩,N h1 hz⟩
 ·obtain⟨i,B,W⟩:=oV h
  obtain⟨v,J,r⟩:=s.val i d W λq=>n (List.mem_singleton.mpr (h2 j (List.mem_singleton.mp q ▸ B)))
  exact⟨v,N B J,r⟩
 ·have n:=List.mem_singleton.mp n
  subst n;obtain⟨i,B,W⟩:=oV h;rw[h1]at B;cases B;obtain⟨a,o1,o2,o3,o4⟩:=s.own z d W (List.mem_singleton.mpr rfl);exact⟨a,N h1 o1,o2,o3,o4⟩
theorem ST.side{u o:HO}(s:ST H0 A0 A E [z] σ H ρ)(hz:σ[z]?=some (some (.ref p)))(ha:A D')(h0:H0 D'=none)(N:H D'=some u)(F:RC u)(np:D'≠p):ST H0 A0 A E [z] σ (upd H D' o) ρ:=by
 have B:∀b,H0 b≠none->b≠D':=λb W z=>W (by rw[z];exact h0)
 refine⟨⟨λb w r=>kR (B b (by rcases r with r|⟨_,r⟩ <;> (rw[r];exact nofun))) (s.ex.rd b w r),λb xs k r=>?_,λb w n r=>?_,λb q w r=>?_⟩,s.sub,s.l0,λa ha=>?_,s.len,λi d h n=>?_,λi d h n=>?_,λi j d d' a hi hj _ _ _ _=>by rw[List.mem_singleton.mp hi,List.mem_singleton.mp hj],λp U=>Fact.put ha N F (s.ext p U)⟩
 ·rw[aK (B b (by rw[r];exact nofun))];exact s.ex.kp b xs k r
 ·rw[aK (B b (by rw[r];exact nofun))];exact s.ex.ow b w n r
 ·rw[aK (B b (by rw[r];exact nofun))];exact s.ex.fz b q w r
 ·by_cases z:a=D'
  ·subst z;rw[aM];exact nofun
  ·rw[aK z];exact s.live a ha
 ·obtain⟨v,h1,h2⟩:=s.val i d h n
  exact⟨v,h1,h2.put ha N F⟩
 ·obtain⟨a,J,Y,o3,o4⟩:=s.own i d h n
  have n:=List.mem_singleton.mp n;subst n;have q:a=p:=by rw[hz]at J;cases J;rfl
  exact⟨a,J,Y,o3,o4.put ha N F (λz=>np (by rw[<- z,q]))⟩
theorem wG{o:HO}(x:Pour A p H H')(n:H D'=none):Pour A p H (upd H' D' o):=by
 have B:∀b u,hide p H b=some u->b≠D':=λb u h z=>by have:=(cA h).2;rw[z,n]at this;cases this
 refine⟨λb w r=>kR ?_ (x.rd b w r),λb xs k r=>?_,λb w m r=>?_,λb q w r=>?_⟩
 ·rcases r with r|⟨_,r⟩ <;> exact B _ _ r
 ·rw[aK (B _ _ r)];exact x.kp b xs k r
 ·rw[aK (B _ _ r)];exact x.ow b w m r
 ·rw[aK (B _ _ r)];exact x.fz b q w r
theorem Pour.less{A':Av}(x:Pour A' p H H')(s:∀a,A a->A' a):Pour A p H H':=Ext.mono x λ_ h=>⟨s _ h.1,h.2⟩
end
def rJ(zc:Nat)(g:Gv)(f:Qe):List D->bI->Option (List D×bI)
 | [],ρ=>some ([],ρ)
 | x::xs,ρ=>(g x ρ).bind λρ1=>(f ρ1).bind λp=>(rJ zc g f xs (ρ1.set zc (some p.2))).map λr=>(p.1::r.1,r.2)
def BF(zc:Nat)(ms:List (Option Nat))(it:Lv)(g:Gv)(f:Qe):Qe:=λρ=>(it ρ).bind λitems=>if bO items.length then(rJ zc g f items (k4 ms ρ)).bind λr=>(aE zc r.2).map λl=>(.lst r.1,l)else none
section
variable {X:Cx}{z:Nat}
theorem CU{zc:Nat}{scope:Scope}{N:List Str}{ms:List (Option Nat)}{it:Lv}{g:Gv}{f:Qe}(bo:cI X scope N ms)(h1:ms[zc]?=some (some z))(h2:∀j:Nat,ms[j]?=some (some z)->j=zc)(hf:∀ρ p,f ρ=some p->∃l,ρ[zc]?=some (some l))(σ:L2.St)(H:Hp)(Q:VK) :
  tQE z (BF zc ms it g f) σ H Q->My.w6 (tDI [z] it) (tGz zc g) (tDT [zc] jX) (tQE zc f) (My.Start X N scope) σ H Q:=λ⟨H0,A0,A,E,ρ,p,l,d,l',st,hz,hl,e,q⟩=>by
 obtain⟨items,e1,e⟩:=bind_some e;by_cases hs:bO items.length=true
 case neg=>rw[if_neg hs]at e;cases e
 rw[if_pos hs]at e;obtain⟨⟨ds,ρe⟩,e2,e⟩:=bind_some e;obtain⟨l1,e3,e⟩:=map_some e;cases e;have e3:=aQ e3;obtain⟨pa,o1,o2,o3,o4⟩:=st.own z l hl (List.mem_singleton.mpr rfl);rw[hz]at o1;cases o1;refine⟨k4 ms σ,v8 bo σ,H0,A0,A,E,ρ,items,st,e1,λJ H1 E1 x1 bb J1 D' hD=>?_⟩;have a1:=(st.mono x1).live;have nA:¬ A D':=λz=>a1 D' z hD
 have n0:H D'=none:=x1.free hD;have bd:H0 D'=none:=st.ex.free n0;have np:D'≠p:=λq=>nA (q ▸ o2)
 refine⟨λi m ai us H2=>m=items.length-i/\i<=items.length/\∃B done rest l2,ST H0 A0 (λb=>A b\/b=D') (E1++E) [zc] ai H2 B/\ai[zc]?=some (some (.ref p))/\B[zc]?=some (some l2)/\H2 D'=some (.lst us)/\Pour A p H H2/\RepL (λb=>A b\/b=D') H2 done us/\rJ zc g f (items.drop i) B=some (rest,ρe)/\done++rest=ds/\done.length<=i,⟨items.length,by simp,zaa _,k4 ms ρ,[],ds,l,?_⟩,?_⟩
 ·obtain⟨s1,a3⟩:=((st.mono x1).both bb).innerQ hz hl ms h1 h2
  have up:∀a,(A a\/a=D')->A a\/H1 a=none:=λa ha=>ha.imp id λz=>by rw[z];exact hD
  refine⟨⟨s1.ex.trans (Ext.new hD),λa ha=>.inl (s1.sub a ha),s1.l0,λa ha=>?_,s1.len,λi d h n=>?_,λi d h n=>?_,λi j d d' a hi hj _ _ _ _=>by rw[List.mem_singleton.mp hi,List.mem_singleton.mp hj],λp hp=>Fact.ext (Ext.new hD) (Fact.av up (s1.ext p hp))⟩,a3,?_,aM,wG (Ext.trans gT (x1.mono λ_ h=>h.1)) n0,.nil,e2,rfl,YS _⟩
  ·rcases ha with ha|ha
   ·rw[aK (λz=>by subst z;exact nA ha)];exact s1.live a ha
   ·subst ha;rw[aM];exact nofun
  ·obtain⟨v,h1,h2⟩:=s1.val i d h n
   exact⟨v,h1,(h2.av up).ext (Ext.new hD)⟩
  ·obtain⟨a,w1,w2,w3,w4⟩:=s1.own i d h n
   exact⟨a,w1,.inl w2,w3,(w4.av up).ext (Ext.new hD) (.inl w2)⟩
  ·unfold k4
   rw[ZJ,h1];show some ((ρ[z]?).join)=_;rw[hl];rfl
 ·rintro i m ai us H2 ⟨rfl,ct,B,done,rest,l2,s2,an,ao,ar,x2,aj,W,ed,ba⟩
  obtain⟨aq,go⟩:=J1 _ H2 s2.live (λp hp=>s2.ext p (zbo _ hp)) i;by_cases Y:i<items.length
  ·have eg:items[i]?=some items[i]:=by simp[Y]
   obtain⟨bh,hy⟩:=go _ eg;rw[zbx Y]at W;obtain⟨U,e4,W⟩:=bind_some W;obtain⟨⟨d,l4⟩,e6,W⟩:=bind_some W;obtain⟨⟨af,bz⟩,e7,W⟩:=map_some W;cases W;have ap:us.length<YN:=by
    rw[aj.length];exact zb1 ba (ZN Y (fR hs))
   refine .inr ⟨bh,ap,λx H3 y=>?_⟩;obtain⟨x3,r3⟩:=hy x H3 y;refine⟨H0,A0,_,E1++E,B,_,U,_,s2.mono x3,an,r3,e4,λcd s3 F=>⟨H0,A0,_,E1++E,U,true,s3,rfl,λH5 x5=>UK ?_⟩⟩;obtain⟨l3,aa⟩:=hf U _ e6;have ac:=x3.trans x5;have bc:H5 D'=some (.lst us):=ac.ow D' _ (.inr rfl) ar;refine⟨H0,A0,_,E1++E,U,p,l3,d,l4,s3.mono x5,F,aa,e6,λv H6 px o6 r6=>?_⟩;have ah:H6 D'=some (.lst us):=px.ow D' _ ⟨.inr rfl,np⟩ (by rw[hide_ne np];exact bc);have s6:=(s3.mono x5).pour F aa px o6;obtain⟨a5,w1,w2,w3,w4⟩:=(s3.mono x5).own zc l3 aa (List.mem_singleton.mpr rfl);rw[F]at w1;cases w1;have r5:=(aj.ext ac).pour px w2 w4.notTup;have pp:Pour A p H H6:=hJ (hJ x2 (Ext.trans gT (ac.mono λ_ h=>.inl h.1))) (Pour.less px λ_ h=>.inl h);exact⟨ah,items.length-(i+1),by lia,rfl,Y,U.set zc (some l4),done++[d],af,l4,s6.side F (.inr rfl) bd ah trivial np,F,by rw[zco (List.getElem?_eq_some_iff.mp aa).1],aM,wG pp n0,(r5.append (.cons r6 .nil)).put (.inr rfl) ah trivial,e7,by rw[<- ed];simp,by rw[ZG];show done.length+1<=i+1;lia⟩
  ·have bl:i=items.length:=by lia
   subst bl;rw[zcL]at W;cases W;rw[zam]at ed;subst ed;rw[ao]at e3;cases e3;obtain⟨a5,w1,w2,w3,w4⟩:=s2.own zc _ ao (List.mem_singleton.mpr rfl);rw[an]at w1;cases w1;have le:∀a,A a->(A a\/a=D')\/H2 a=none:=λa h=>.inl (.inl h)
   exact .inl ⟨aq (YS _),q (.ref D') H2 x2 (w4.av le) (.lst nA (.inl ar) (aj.av le))⟩
def A4(i z zc:Nat)(ms:List (Option Nat))(it:Lv)(g:Gv)(f:Qe):Qv:=λρ=>(aE z ρ).bind λ_=>oJ i z (BF zc ms it g f) ρ
theorem IK{zc i:Nat}{x:Str}{U tg B:Expr}{scope:Scope}{pos pos' J:Pos}{N:List Str}{Y:List (Str×Addr)}{ms:List (Option Nat)}{it:Lv}{g:Gv}{F:List D->Option (D×D)}{f0:Ev}{fs:Lv}(hN:X.N.Nodup)(W:X.N[i]?=some x)(hx:Loc X.env.scope x)
  (hc:X.calm=true) (cc:My.Clo X N scope Y) (aa:cI X scope N ms) (h1:ms[zc]?=some (some z)) (h2:∀j:Nat,ms[j]?=some (some z)->j=zc) (hi:PDI X [z] tg B it) (hg:∀C s H fp,UX (My.a6 X N scope Y C s H fp) zc tg g)
  (he:∀C s H fp,IE (My.a6 X N scope Y C s H fp) zc U (cS zc F f0 fs)) (n:i≠z) (hs:∀x,zaj B X.env x=pure x:=by intro _;rfl)
  (ab:Y3 (.ListComp U [⟨tg,B,[],0⟩] scope pos) (some (.Name x pos')) J.line X.env=pure true:=by rfl) (hf:X.fn x=true\/X.env.scope.names.lookup x=some .local:=by first|exact .inl rfl|exact .inr rfl) :
  PQ X z (.Assign [.Name x pos'] (.ListComp U [⟨tg,B,[],0⟩] scope pos) J) (A4 i z zc ms it g (cS zc F f0 fs)):=by
 have hp:PS X (.Assign [.Name x pos'] (.ListComp U [⟨tg,B,[],0⟩] scope pos) J) (zL (tQE z (BF zc ms it g (cS zc F f0 fs))) (kG i)):=
  PS.mono (My.AX hN W hx hc cc hi hg (λ_ _ _ _=>wU) he hs ab hf) λT σ H w=>CU aa h1 h2 oU _ _ _ w
 refine PS.mono hp λT σ H ⟨H0,A0,A,E,ρ,p,am,st,hz,e,q⟩=>?_
 obtain⟨l,el,e⟩:=bind_some e;obtain⟨⟨d,l'⟩,e1,rfl⟩:=map_some e;have hl:=aQ el;exact⟨H0,A0,A,E,ρ,p,l,d,l',st,hz,hl,e1,λv H' x o r=>q A _ H' ((st.pour hz hl x o).put r λh=>n (List.mem_singleton.mp h)) (by rw[eZ (ZH n)];exact hz)⟩
end
section
variable {X:Cx}{L:Lp}{O:List Nat}
def UB(i j:Nat)(g:Lv):Sv:=λρ=>(g ρ).bind λds=>match ds with
 | [d,e]=>some (.nx ((ρ.set i (some d)).set j (some e)))
 | _=>none
end
section
variable {X:Cx}{O:List Nat}
theorem ST.add{H0:Hp}{A0 A:Av}{E:List Fact}{σ:L2.St}{H H':Hp}{ρ:bI}{a:Addr}(s:ST H0 A0 A E O σ H ρ)(x:Ext A H H')(n:H a=none)(h:H' a≠none):ST H0 A0 (λb=>A b\/b=a) E O σ H' ρ:=by
 have B:∀b,(A b\/b=a)->A b\/H b=none:=λb q=>q.imp id λz=>by rw[z];exact n
 have F:Ext (λb=>A b\/b=a) H H':=⟨x.rd,x.kp,λb u m e=>m.elim (λm=>x.ow b u m e) (λm=>by subst m;rw[n]at e;cases e),x.fz⟩;have s':=s.mono x;refine⟨s'.ex,λb q=>.inl (s.sub b q),s.l0,λb q=>?_,s.len,λi d e k=>?_,λi d e k=>?_,s.inj,λp J=>Fact.ext F (Fact.av B (s.ext p J))⟩
 ·rcases q with q|q
  ·exact s'.live b q
  ·rw[q];exact h
 ·obtain⟨v,h1,h2⟩:=s.val i d e k
  exact⟨v,h1,(h2.av B).ext F⟩
 ·obtain⟨b,h1,h2,N,U⟩:=s.own i d e k
  exact⟨b,h1,.inl h2,N,(U.av B).ext F (.inl h2)⟩
def uR(F:List D->Option (D×D))(f0 fl:Ev)(fs:Lv):Ev:=λρ=>(f0 ρ).bind λd0=>(fl ρ).bind λl=>(fs ρ).bind λes=>match l with
 | .lst _=>(F (d0::l::es)).map (·.1)
 | _=>none
theorem FN{x:Str}{k:Nat}{ps:List Str}{F:List D->Option (D×D)}{J B:Expr}{es:List Expr}{f0 fl:Ev}{fs:Lv}{p pos:Pos}(O':FnQ X.prog X.w X.K X.mg X.base x k ps F)(hr:Room k X.A)(hg:Gl X x)(h0:PD X O J f0)(hp:PF X O B fl)(ha:mE X O es fs)(hl:∀ρ ds,fs ρ=some ds->ds.length+2=ps.length)(ag:(x == ("__debug__" : Str))=false:=by decide)
  (he:YG (J::B::es) X.env=(false,eval J X.env)::YG (B::es) X.env:=by rfl) (af:YG (B::es) X.env=(false,eval B X.env)::YG es X.env:=by rfl) (ac:(YO pos (YG (B::es) X.env)).any (·.1)=false:=by rfl) :
  PD X O (.Call (.Name x p) (J::B::es) [] pos) (uR F f0 fl fs):=PE.mono (My.gU O' hr hg (bP h0 (bP hp ha af) he) ag he ac) λσ H Q ⟨H0,A0,A,E,ρ,d,st,e,q⟩=>by
 obtain⟨d0,J,e⟩:=bind_some e;obtain⟨l,e1,e⟩:=bind_some e;obtain⟨ds,e2,e⟩:=bind_some e;cases l with
 | lst l=>
  obtain⟨⟨d',l'⟩,e3,rfl⟩:=map_some e;refine⟨H0,A0,A,E,ρ,d0,st,J,λv0 H1 x1 r1=>⟨H0,A0,A,E,ρ,.lst l,st.mono x1,e1,λa H2 N n na o=>?_⟩⟩;cases o with
  | @lst _ _ xs h r=>
   have s2:=(st.mono x1).add N n (by rw[h];exact nofun);refine⟨H0,A0,_,E,ρ,ds,s2,e2,λus H3 U r3=>?_⟩;have n0:H a=none:=x1.free n;have ab:Ext (λb=>A b\/b=a) H1 H2:=⟨N.rd,N.kp,λb u m e=>m.elim (λm=>N.ow b u m e) (λm=>by subst m;rw[n]at e;cases e),N.fz⟩;have r0:Rep (λb=>A b\/b=a) H3 d0 v0:=((r1.av λb hb=>hb.imp id λz=>by rw[z];exact n).ext ab).ext U;have h3:H3 a=some (.lst xs):=U.ow a _ (.inr rfl) h;refine⟨λb=>A b\/b=a,a,v0,us,d0,ds,.lst l,d',l',rfl,by rw[r3.length];exact hl ρ ds e2,(s2.mono U).live,.inr rfl,r0,r3.toL,.lst h3 (r.ext U),e3,λv H' x o r=>?_⟩
   ·have Y:=(x1.trans N).trans (U.mono λ_ h=>.inl h)
    have W:∀ {b u},H b=some u->b≠a:=λh z=>by rw[z,n0]at h;cases h
    refine q v H' ⟨λb u h=>?_,λb u k h=>?_,λb u m h=>?_,λb o u h=>?_⟩ (r.av λb hb=>.inl (.inl hb))
    ·exact x.rd b u (hV (by rcases h with h|⟨_,h⟩ <;> exact W h) (Y.rd b u h))
    ·exact x.kp b u k (by rw[hide_ne (W h)];exact Y.kp b u k h)
    ·exact x.ow b u ⟨.inl m,W h⟩ (by rw[hide_ne (W h)];exact Y.ow b u m h)
    ·exact x.fz b o u (by rw[hide_ne (W h)];exact Y.fz b o u h)
 | _=>cases e
end
section
variable {X:Cx}{z:Nat}
theorem gD(i:Nat){x:Str}{e:Expr}{pos pos':Pos}{f:Ev}(q:PD X [z] e f:=by trivial)(J:X.N.Nodup:=by assumption)(hi:X.N[i]?=some x:=by rfl)(B:Loc X.env.scope x:=by first|exact ZL rfl|exact Z5 rfl)(n:i≠z:=by decide)(hs:Y3 e (some (.Name x pos')) pos.line X.env=pure false:=by rfl)(F:X.fn x=true\/X.env.scope.names.lookup x=some .local:=by first|exact .inl rfl|exact .inr rfl):PQ X z (.Assign [.Name x pos'] e pos) (zH i f):=NI J hi B q n hs F
theorem GJ{o k value:Expr}{pos pos':Pos}{B F:Ev}(J:PD X [z] value F:=by trivial)(hk:PB X [z] k B:=by trivial)(U:PE X o (d6 z):=by exact pv _)(q:swapsWithSole [.Subscript o k pos'] value pos.line X.env=pure false:=by rfl)(hw:swappedStores [.Subscript o k pos'] value X.env=pure none:=by rfl)
  (N:∀ {to ti:TE} {t:HP},PE X o to->PE X k ti->LJ X t->PG X (.Subscript o k pos') (QO to ti t):=by intro _ _ _ a b c;exact FX a b c):PQ X z (.Assign [.Subscript o k pos'] value pos) (xM z B F):=NF U hk J q hw N
theorem rF{c:Expr}{a:List Stmt}{pos:Pos}{g:Bv}{f:Qv}(ha:IB X z a f)(q:k3 X [z] c g:=by trivial):PQ X z (.If c a [] pos) (Q6 g f UQ):=R9 ha QJ q
theorem gz(i:Nat){x:Str}{pos:Pos}(F:X.N.Nodup:=by assumption)(hi:X.N[i]?=some x:=by rfl)(q:Loc X.env.scope x:=by first|exact ZL rfl|exact Z5 rfl)(B:X.fn x=true\/X.env.scope.names.lookup x=some .local:=by first|exact .inl rfl|exact .inr rfl|assumption)(n:i≠z:=by decide):UX X z (.Name x pos) (a7 i):=EM (uA F hi q B) n
theorem kZ{x:Str}{k j m:Nat}{ps:List Str}{F:List D->Option (D×D)}{q ep:Expr}{es:List Expr}{f0:Ev}{fs:Lv}{p pos:Pos}(O':FnQ X.prog X.w X.K X.mg X.base x k ps F:=by assumption)(hr:Room j X.A:=by assumption)(h0:PD X [z] q f0:=by trivial)(W:PE X ep (d6 z):=by exact pv _)(ha:mE X [z] es fs:=by trivial)(hl:Len fs m:=by trivial)(Y:m+2=ps.length:=by rfl)(hk:k<=j:=by trivial)(hg:Gl X x:=by rfl)(N:(x == ("__debug__" : Str))=false:=by decide)
  (U:YG (q::ep::es) X.env=(false,eval q X.env)::YG (ep::es) X.env:=by rfl) (J:YG (ep::es) X.env=(false,eval ep X.env)::YG es X.env:=by rfl) (B:(YO pos (YG (ep::es) X.env)).any (·.1)=false:=by rfl) :
  IE X z (.Call (.Name x p) (q::ep::es) [] pos) (cS z F f0 fs):=E4 (O'.mono hk) hr hg h0 W ha (λρ ds h=>by rw[hl ρ ds h];exact Y) N U J B
theorem eJ(i:Nat){x:Str}{e:Expr}{pos pos':Pos}{F:List D->Option (D×D)}{f0:Ev}{fs:Lv}(q:IE X z e (cS z F f0 fs))(U:X.N.Nodup:=by assumption)(hi:X.N[i]?=some x:=by rfl)(B:Loc X.env.scope x:=by first|exact ZL rfl|exact Z5 rfl)(n:i≠z:=by decide)
  (hs:Y3 e (some (.Name x pos')) pos.line X.env=pure false:=by rfl) (J:X.fn x=true\/X.env.scope.names.lookup x=some .local:=by first|exact .inl rfl|exact .inr rfl):PQ X z (.Assign [.Name x pos'] e pos) (oJ i z (cS z F f0 fs)):=KF U hi B q n hs J
theorem IY(i:Nat)(σ:YE)(N:List Str)(ms:List (Option Nat))(zc:Nat){x:Str}{J tg q:Expr}{scope:Scope}{pos pos' B:Pos}{it:Lv}{g:Gv}{F:List D->Option (D×D)}{f0:Ev}{fs:Lv}(he:∀C s H fp,IE (My.a6 X N scope (h9 X.env.cells scope.names []) C s H fp) zc J (cS zc F f0 fs))(hg:∀C s H fp,N.Nodup->UX (My.a6 X N scope (h9 X.env.cells scope.names []) C s H fp) zc tg g)(h1:ms[zc]?=some (some z))(h2:∀j:Nat,ms[j]?=some (some z)->j=zc)(hi:PDI X [z] tg q it:=by trivial)
  (hx:X.env.cells=za3 (σ.heap.objs.size+1) X.env.scope.names []:=by rfl) (Y:cI X scope N ms:=by repeat' first|exact zag|exact rfl|exact ZL rfl|constructor) (hN:N.Nodup:=by decide)
  (hc:X.calm=true:=by rfl) (hk:scope.kind=.function:=by rfl) (h:A9 scope.names X.env.scope.names=true:=by rfl) (hs:∀x,zaj q X.env x=pure x:=by intro _;rfl)
  (hX:X.N.Nodup:=by assumption) (W:X.N[i]?=some x:=by rfl) (hl:Loc X.env.scope x:=by first|exact ZL rfl|exact Z5 rfl) (n:i≠z:=by decide) (U:Y3 (.ListComp J [⟨tg,q,[],0⟩] scope pos) (some (.Name x pos')) B.line X.env=pure true:=by rfl) (hf:X.fn x=true\/X.env.scope.names.lookup x=some .local:=by first|exact .inl rfl|exact .inr rfl) :
  PQ X z (.Assign [.Name x pos'] (.ListComp J [⟨tg,q,[],0⟩] scope pos) B) (A4 i z zc ms it g (cS zc F f0 fs)):=IK hX W hl hc (yU hk h hx) Y h1 h2 hi (λC s H fp=>hg C s H fp hN) he n hs U hf
theorem wN{O:List Nat}{x:Str}{k j m:Nat}{ps:List Str}{F:List D->Option (D×D)}{B q:Expr}{es:List Expr}{f0 fl:Ev}{fs:Lv}{p pos:Pos}(O':FnQ X.prog X.w X.K X.mg X.base x k ps F)(hr:Room j X.A)(h0:PD X O B f0)(Y:PF X O q fl)(ha:mE X O es fs)(hl:Len fs m)(hm:m+2=ps.length)(hk:k<=j)(hg:Gl X x:=by rfl)(U:(x == ("__debug__" : Str))=false:=by decide)
  (W:YG (B::q::es) X.env=(false,eval B X.env)::YG (q::es) X.env:=by rfl) (N:YG (q::es) X.env=(false,eval q X.env)::YG es X.env:=by rfl) (J:(YO pos (YG (q::es) X.env)).any (·.1)=false:=by rfl) :
  PD X O (.Call (.Name x p) (B::q::es) [] pos) (uR F f0 fl fs):=FN (O'.mono hk) hr hg h0 Y ha (λρ ds h=>by rw[hl ρ ds h];exact hm) U W N J
end
theorem EQ{P:YK}{w:World}{K:YH}{mg:Str->Option Value}{base:Heap}{x:Str}{st:Stmt}{N ps:List Str}{k:Nat}(F:My.DefAt K mg x st ps)(S:FnScope N ps (aF st)):FnQ P w K mg base x (k+1) ps (λ_=>none):=
 My.BodyOk.ok (k:=k) (N:=N) (λU J A q s H vs Q E W ⟨_,_,_,_,_,_,_,_,_,_,_,_,_,_,_,_,B,_⟩=>nomatch B) F S (λvs H Q E ⟨_,_,_,_,_,_,_,_,_,_,_,_,_,_,_,_,B,_⟩=>nomatch B)
variable {X:Cx}{O:List Nat}
theorem XA{x:Str}{l:List (Str×Str)}{N:List (Str×(List D->Option D))}{k n:Nat}{q e:Expr}{es:List Expr}{U:Ev}{J:Lv}{p sp pos:Pos}(hD:My.DictAt X.w X.K X.mg x l)(hF:Fam X k n l N)(hr:Room k X.A)(hk:PB X O q U:=by trivial)(ha:mE X O (e::es) J:=by trivial)(hl:Len J n:=by trivial)(hs:DE q:=by exact λ_ _=>rfl)(hg:Gl X x:=by rfl)
  (B:(x == ("__debug__" : Str))=false:=by decide) (W:YG (e::es) X.env=(false,eval e X.env)::YG es X.env:=by rfl) (F:(YO pos (YG es X.env)).any (·.1)=false:=by rfl)
  (Y:eval (.Call (.Subscript (.Name x p) q sp) (e::es) [] pos) X.env=(do callWith pos (<- eval (.Subscript (.Name x p) q sp) X.env) [] (YO pos (YG (e::es) X.env)) (ZZ pos (Z0 [] X.env))):=by rfl) :
  PD X O (.Call (.Subscript (.Name x p) q sp) (e::es) [] pos) (uU N U J):=ED hD hF hr hg hk ha hl hs B W F Y
section
variable {ρ ρ':bI}{f f0:Ev}{a:Bv}{l fs:Lv}{x y d e:D}{xs es:List D}{i j z:Nat}{s t:Qv}{o:Option OutQ}
theorem NH(h:l ρ=some [x,y]):UB i j l ρ=some (.nx ((ρ.set i (some x)).set j (some y))):=by unfold UB;rw[h,aB]
theorem zD{d:D}(h:f ρ=some d)(e:ρ.set i (some d)=ρ'):eL i f ρ=some (.nx ρ'):=e ▸ aU h
def XG(p:OutQ)(t:Qv):Option OutQ:=match p with
 | .nx ρ=>t ρ
 | p=>some p
theorem gF{p:OutQ}(h:s ρ=some p)(k:XG p t=o):rW s t ρ=o:=by unfold rW;rw[h,aB];exact k
theorem oE(k:t ρ=o):XG (.nx ρ) t=o:=k
theorem xC{c:Bool}(h:a ρ=some c)(k:Q7 c (s ρ) (t ρ)=o):Q6 a s t ρ=o:=by unfold Q6;rw[h,aB];exact k
theorem dP(h:f ρ=some d)(e:ρ.set i (some d)=ρ'):zH i f ρ=some (.nx ρ'):=by unfold zH;rw[h,aG,e]
theorem NB{w:Gv}(h:f ρ=some d)(k:w d ρ=some ρ'):T2 f w ρ=some (.nx ρ'):=by unfold T2;rw[h,aB,k,aG]
theorem jU{k:Int}{n:Nat}(h:f ρ=some e)(hk:f0 ρ=some (.int k))(B:aE z ρ=some (.lst xs))(q:IC xs.length k=some n):xM z f0 f ρ=some (.nx (ρ.set z (some (.lst (xs.set n e))))):=by
 unfold xM;rw[h,aB,hk,aB,show MV (.int k)=some k from rfl,aB,B,aB];show Option.map _ (IC xs.length k)=_;rw[q,aG]
theorem JM{J B F q:D}(h:f ρ=some e)(N:aE z ρ=some (.lst [J,B,F,q]))(hs:ρ.set z (some (.lst [e,B,F,q]))=ρ'):xM z (eC (.int 0)) f ρ=some (.nx ρ'):=by rw[<- hs];exact jU (k:=0) (n:=0) h rfl N rfl
theorem KC{B N F q:D}(h:f ρ=some e)(J:aE z ρ=some (.lst [B,N,F,q]))(hs:ρ.set z (some (.lst [B,e,F,q]))=ρ'):xM z (eC (.int 1)) f ρ=some (.nx ρ'):=by rw[<- hs];exact jU (k:=1) (n:=1) h rfl J rfl
theorem LA{B F N q:D}(h:f ρ=some e)(J:aE z ρ=some (.lst [B,F,N,q]))(hs:ρ.set z (some (.lst [B,F,e,q]))=ρ'):xM z (eC (.int 2)) f ρ=some (.nx ρ'):=by rw[<- hs];exact jU (k:=2) (n:=2) h rfl J rfl
theorem KQ{q B F J:D}(h:f ρ=some e)(N:aE z ρ=some (.lst [q,B,F,J]))(hs:ρ.set z (some (.lst [q,B,F,e]))=ρ'):xM z (eC (.int 3)) f ρ=some (.nx ρ'):=by rw[<- hs];exact jU (k:=3) (n:=3) h rfl N rfl
theorem l6(h:f ρ=some d)(k:aE z ρ=some e):W6 z f ρ=some (.rt d e):=by unfold W6;rw[h,aB,k,aG]
theorem qV{q:Qe}(h:q ρ=some (d,e)):QT q ρ=some (.rt d e):=by unfold QT;rw[h,aG]
theorem cL{q:Qe}(h:q ρ=some (d,e))(k:(ρ.set z (some e)).set i (some d)=ρ'):oJ i z q ρ=some (.nx ρ'):=by unfold oJ;rw[h,aG,k]
theorem bS{F:List D->Option (D×D)}{r:D×D}(q:f0 ρ=some d)(hs:fs ρ=some es)(B:aE z ρ=some e)(k:F (d::e::es)=some r):cS z F f0 fs ρ=some r:=by unfold cS;rw[q,aB,hs,aB,B,aB,k]
theorem cX{n:Nat}{q:Qv}{ds:List D}(h:q (a8 n ds)=some (.rt d e)):kY n q ds=some (d,e):=by unfold kY;rw[h,aB]
end
end P
namespace My
open PySem PySem.Spec PyProof.Rows L2 PySem.Builtin PySem.Builtin.Str
section
variable {X:Cx}
theorem sM:∀l:List (Str×Tok),Vals ((l.map (·.1)).map V.str) (strValues l)
 | []=>.nil
 | p::l=>.cons ⟨_,rfl⟩ (sM l)
def GL:V->List V->Hp->VK->Prop:=λx vs H Q=>∃s y:Str,x=.str s/\vs=[.str y]/\(y.length == 0)=false/\s.length<=YN/\(zaH s y).length<=YN/\∀a,H a=none->Q (.ref a) (upd H a (.lst ((zaH s y).map V.str)))
theorem DY:U6 X "str.split" GL:=by
 intro pins s σ H x vs v us Q I Y U h;obtain⟨x,y,rfl,rfl,J,N,F,q⟩:=h;obtain⟨t,rfl⟩:=Y;obtain⟨u,rfl,W⟩:=U.one;obtain⟨u,rfl⟩:=W;have fin:∀(l:List (Str×Tok)) (k:Nat),l.map (·.1)=zaH x y->EP X pins σ Q (.ref s.heap.objs.size) {s with heap:=s.heap.push {cls:=.type "list",data:=.seq (strValues l).toArray},toks:=k}:=λl k e=>by
  have B:H s.heap.objs.size=none:=I.hok.fresh (YS _);refine⟨.ref s.heap.objs.size,upd H s.heap.objs.size (.lst ((zaH x y).map V.str)),I.laid (t':=k) (λb u e=>YY _ e) (YS _) ?_,rfl,q _ B⟩;exact⟨by rw[YV];exact F,strValues l,0,e ▸ sM l,Y8 _ rfl⟩
 cases h1:(decide (x.length<y.length) || decide (strKind x<strKind y))with
 | false=>
  cases B:(occurrences x y 0 x.length (x.length+1)).isEmpty with
  | false=>
   have e:zaH x y=partsBetween x (occurrences x y 0 x.length (x.length+1)) y.length:=(if_neg (ne_true_of_eq_false h1)).trans (if_neg (ne_true_of_eq_false B));refine zbw zcO (zbt _ _ _) zcP (zcQ _ _) (meets_str_split_sep x y t u h1 J B N (e ▸ F)) ?_;show EP X pins σ Q (.ref s.heap.objs.size) {s with toks:=_,heap:=s.heap.push {cls:=.type "list",data:=.seq (strsFrom s.toks (partsBetween x (occurrences x y 0 x.length (x.length+1)) y.length)).toArray} };rw[strsFrom_eq];exact fin _ _ ((numbered_texts _ _).trans e.symm)
  | true=>
   exact zbw zcO (zbt _ _ _) zcP (zcQ _ _) (meets_str_split_not_found x y t u h1 J B) (fin [(x,t)] s.toks ((if_neg (ne_true_of_eq_false h1)).trans (if_pos B)).symm)
 | true=>
  exact zbw zcO (zbt _ _ _) zcP (zcQ _ _) (meets_str_split_cannot_occur x y t u h1) (fin [(x,t)] s.toks (if_pos h1).symm)
end
end My
namespace P
open PySem PySem.Spec PyProof.Rows L2
section
variable {X:Cx}{O:List Nat}
structure GStr(mg:Str->Option Value)(x s:Str):Prop where
 ex:∃t,mg x=some (.str s t)
theorem AV{x s:Str}{p:Pos}(g:GStr X.mg x s)(F:Gl X x)(B:(x == ("__debug__" : Str))=false:=by decide):PD X O (.Name x p) (eC (.str s)):=by
 obtain⟨t,e⟩:=g.ex;exact PE.mono (uF (v:=.str s) F e ⟨t,rfl⟩ B) λσ H Q ⟨H0,A0,A,E,ρ,d,st,e,q⟩=>by cases e;exact q _ H (Ext.refl _ _) (.str _)
noncomputable def QN:List D->Option D
 | [.int n]=>if n.natAbs.log2<1900 then some (.str (ZQ (zaG n)))else none
 | _=>none
theorem OZ:fU X (.type "str") QN:=λpins s σ H xs W Q I F h=>by
 obtain⟨A,ds,d,U,r,e,q⟩:=h
 match ds,e,r with
 | [.int n],e,r=>
  by_cases B:n.natAbs.log2<1900
  ·have e:(if n.natAbs.log2<1900 then some (D.str (ZQ (zaG n)))else none)=some d:=e
   rw[if_pos B]at e;cases e;obtain⟨v,rfl,J⟩:=r.one;have:=J.int_inv;subst this;obtain⟨u,rfl,N⟩:=F.one;obtain⟨t,rfl⟩:=N;exact PySem.P.str_of_int (ZN B (by decide)) ⟨.str _,H,I.tok _,⟨_,rfl⟩,q _ H (Ext.refl _ _) (.str _)⟩
  ·have e:(if n.natAbs.log2<1900 then some (D.str (ZQ (zaG n)))else none)=some d:=e
   rw[if_neg B]at e;cases e
def BG:List D->Option D
 | [.str x]=>if x.length<=640 then(intText? x).map .int else none
 | ds=>HV ds
theorem K4:fU X (.type "int") BG:=λpins s σ H xs N Q I F h=>by
 obtain⟨A,ds,d,J,r,e,q⟩:=h;unfold BG at e;split at e
 ·rename_i x
  by_cases B:x.length<=640
  ·rw[if_pos B]at e
   obtain⟨n,hn,rfl⟩:=map_some e;obtain⟨v,rfl,U⟩:=r.one;cases U.str_inv;obtain⟨u,rfl,Y⟩:=F.one;obtain⟨t,rfl⟩:=Y;exact PySem.W.KIN.call_text hn B ⟨.int n,H,I.tok _,⟨_,rfl⟩,q _ H (Ext.refl _ _) (.int _)⟩
  ·rw[if_neg B]at e;cases e
 ·exact QC pins s σ H xs N Q I F ⟨A,_,d,J,r,e,q⟩
noncomputable def mQ:D->D->Option D
 | .str x,.str y=>if(y.length == 0)=false/\x.length<=1000000/\(zaH x y).length<=1000000 then some (.lst ((zaH x y).map .str))else none
 | _,_=>none
theorem RepL.strs{A:Av}{H:Hp}:∀l:List Str,RepL A H (l.map D.str) (l.map V.str)
 | []=>.nil
 | x::l=>.cons (.str x) (RepL.strs l)
theorem EG{o e:Expr}{apos cpos:Pos}{W fe:Ev}(ho:PB X O o W)(he:PB X O e fe)(B:∀ {to:TE} {t:TA},PE X o to->PA X [e] t->PE X (.Call (.Attribute o "split" apos) [e] [] cpos) (RH X.K "str" My.GL to t))(hs:YG [e] X.env=(false,eval e X.env)::YG [] X.env:=by rfl):PF X O (.Call (.Attribute o "split" apos) [e] [] cpos) (aR mQ W fe):=
 PE.mono (B ho (qJ he t8 hs)) <| by
  rintro σ H Q ⟨H0,A0,A,E,ρ,d,st,e,q⟩;obtain⟨x,ex,e⟩:=bind_some e;obtain⟨y,ey,e⟩:=bind_some e;refine⟨H0,A0,A,E,ρ,x,st,ex,λv H1 J r1=>?_⟩;unfold mQ at e;split at e
  ·rename_i x y _
   by_cases F:(y.length == 0)=false/\x.length<=1000000/\(zaH x y).length<=1000000
   ·rw[if_pos F]at e
    cases e;cases r1.str_inv;refine⟨rfl,H0,A0,A,E,ρ,[.str y],st.mono J,by unfold aH aY;rw[ey];rfl,λvs H2 U r2=>?_⟩;obtain⟨w,rfl,N⟩:=r2.one;cases N.str_inv;have s2:=(st.mono J).mono U;have Y:(1000000:Nat)<=YN:=by decide
    exact⟨x,y,rfl,rfl,F.1,ZF F.2.1 Y,ZF F.2.2 Y,λp B=>q p _ ((J.trans U).trans (Ext.new B)) ((J.trans U).free B) (λz=>s2.live p z B) (.lst aM ((RepL.strs _).fresh B))⟩
   ·rw[if_neg F]at e;cases e
  ·cases e
theorem WD{e:Expr}{es:List Expr}{f:Lv}{p pos:Pos}(F:X.mg "str" = none)(ha:vF X O (e::es) f)(B:Gl X "str")(hs:isStar e=false)(q:((es:List Expr).all λe=>!isStar e)=true):PD X O (.Call (.Name "str" p) (e::es) [] pos) (aT QN f):=UW OZ F My.boot_str ha B (by decide) (by decide) hs q
theorem SU{e:Expr}{es:List Expr}{f:Lv}{p pos:Pos}(F:X.mg "int" = none)(ha:vF X O (e::es) f)(B:Gl X "int")(hs:isStar e=false)(q:((es:List Expr).all λe=>!isStar e)=true):PD X O (.Call (.Name "int" p) (e::es) [] pos) (aT BG f):=UW K4 F My.boot_int ha B (by decide) (by decide) hs q
theorem XO{o e:Expr}{apos cpos:Pos}{q J:Ev}(ho:PB X O o q)(N:PB X O e J)(W:ZX o "split" X.env (eval o X.env)=eval o X.env)(U:((((YO cpos (YG [e] X.env)).all λx=>!x.fst) && (ZZ cpos (Z0 [] X.env)).all λx=>x.fst.isSome) && decide (([e].length+([]:List ZO).length+if([]:List ZO).isEmpty=true then 0 else 1)<30))=true)(Y:(apos.endLine == cpos.line)=true)(B:YG [e] X.env=(false,eval e X.env)::YG [] X.env)(a5:((YO cpos (YG [] X.env)).any λx=>x.fst)=false):PF X O (.Call (.Attribute o "split" apos) [e] [] cpos) (aR mQ q J):=EG ho N (λa b=>l8 zbj PySem.F.slot_str_split PySem.F.type_str_split My.DY a b W U Y B a5) B
theorem V7{a b:Expr}{pos:Pos}{B q:Ev}{j:Nat}(N:Room j X.A)(ha:PB X O a B)(F:PB X O b q)(J:zae .In b=false):PD X O (.Compare a [.In] [b] pos) (aR jN B q):=FR (FW N.units) ha F J
end
def XM(C:Addr)(x:Str):D->Option D
 | .ob _ C' fs=>if C'=C then fs.lookup x else none
 | _=>none
def bN(C:Addr)(x:Str)(f:Ev):Ev:=λρ=>(f ρ).bind (XM C x)
theorem AS:∀ {fs:List (Str×D)} {vs:List (Str×V)} {d:D},vs.map (·.1)=fs.map (·.1)->RepL A H (fs.map (·.2)) (vs.map (·.2))->fs.lookup x=some d->∃v,vs.lookup x=some v/\Rep A H d v
 | [],[],_,_,_,h=>nomatch h
 | [],_::_,_,e,_,_=>nomatch e
 | _::_,[],_,e,_,_=>nomatch e
 | (a,d0)::fs,(b,v0)::vs,d,e,r,h=>by
  injection e with B e2
  have B:b=a:=B;subst B;cases r with
  | cons r1 r2=>
   by_cases q:(x == b)=true
   ·rw[zaO,q]at h
    cases h;exact⟨v0,by rw[zaO,q],r1⟩
   ·rw[zaO,Bool.eq_false_iff.mpr q]at h
    obtain⟨v,J,F⟩:=AS e2 r2 h;exact⟨v,by rw[zaO,Bool.eq_false_iff.mpr q];exact J,F⟩
noncomputable def HN(f:Str)(d:D):List (Str×D)->List (Str×D)
 | []=>[(f,d)]
 | (g,x)::r=>if g=f then(g,d)::r else(g,x)::HN f d r
theorem v6{A:Av}{H:Hp}{f:Str}{d:D}{v:V}(h:Rep A H d v):∀ {fs:List (Str×D)} {vs:List (Str×V)},vs.map (·.1)=fs.map (·.1)->RepL A H (fs.map (·.2)) (vs.map (·.2))->(gZ f v vs).map (·.1)=(HN f d fs).map (·.1)/\RepL A H ((HN f d fs).map (·.2)) ((gZ f v vs).map (·.2))
 | [],[],_,_=>⟨rfl,.cons h .nil⟩
 | [],_::_,e,_=>nomatch e
 | _::_,[],e,_=>nomatch e
 | (a,d0)::fs,(b,v0)::vs,e,r=>by
  injection e with B e2
  have B:b=a:=B;subst B;cases r with
  | cons r1 r2=>
   unfold gZ HN;by_cases q:b=f
   ·rw[if_pos q,if_pos q]
    exact⟨congrArg (b::·) e2,.cons h r2⟩
   ·rw[if_neg q,if_neg q]
    obtain⟨m,r⟩:=v6 h e2 r2;exact⟨congrArg (b::·) m,.cons r1 r⟩
theorem EJ{B q:Type}{vs:List (Str×B)}{fs:List (Str×q)}(e:vs.map (·.1)=fs.map (·.1)):vs.length=fs.length:=by
 have:=congrArg zay e;simpa using this
section
variable {X:Cx}{O O':List Nat}{L:Lp}
theorem t9(c:Cls X.K C)(n:NoAttr X.K C x)(N:PB X O e f)(U:ZX e x X.env (eval e X.env)=eval e X.env:=by rfl):PD X O (.Attribute e x pos) (bN C x f):=
 PE.mono (NE N U) <| by
  rintro σ H Q ⟨H0,A0,A,E,ρ,d,st,e,q⟩;obtain⟨y,W,B⟩:=bind_some e;cases y with
  | ob a C' fs=>
   unfold XM at B;by_cases F:C'=C
   case neg=>simp only[if_neg F]at B;cases B
   simp only[if_pos F]at B;subst F;refine⟨H0,A0,A,E,ρ,_,st,W,λv H1 x1 Y=>?_⟩;obtain⟨dx,vs,rfl,h,m,r⟩:=Y.ob_inv;obtain⟨w,hw,J⟩:=AS m r B;exact⟨a,C',dx,vs,w,rfl,h,c,n,hw,q w H1 x1 J⟩
  | _=>cases B
def xF(C:Addr)(z:Nat)(f:Str)(fe:Ev):Sv:=λρ=>(fe ρ).bind λd=>(aE z ρ).bind λo=>match o with
 | .ob a C' fs=>if C'=C/\fs.length<1000 then some (.nx (ρ.set z (some (.ob a C' (HN f d fs)))))else none
 | _=>none
theorem LD{C:Addr}{z:Nat}{f:Str}{o e:Expr}{Y:Ev}{pos pos':Pos}(c:Cls X.K C)(n:NoAttr X.K C f)(ho:PE X o (d6 z))(hO:mem O z=true)(he:PD X O e Y)(hs:Y3 e (some (.Attribute o f pos')) pos.line X.env=pure false:=by rfl)(h:Sub O' O=true:=by rfl):gI X L O (.Assign [.Attribute o f pos'] e pos) (xF C z f Y) O':=
 PS.mono (OJ ho he hs) <| by
  rintro T σ H ⟨H0,A0,A,E,ρ,ai,st,e,p⟩;obtain⟨d,e1,e⟩:=bind_some e;obtain⟨o,W,e⟩:=bind_some e;cases o with
  | ob a C' fs=>
   by_cases N:C'=C/\fs.length<1000
   case neg=>simp only[if_neg N]at e;cases e
   simp only[if_pos N]at e;cases e;obtain⟨rfl,q⟩:=N;obtain⟨b,U,B,o3,o4⟩:=st.own z _ (aQ W) (cN hO);cases o4 with
   | @ob _ _ dx _ vs hh m r=>
    refine⟨H0,A0,A,E,ρ,d,st,e1,λv H1 F r1=>⟨_,U,a,C',dx,vs,rfl,F.ow _ _ B hh,c,n,by rw[EJ m];exact q,?_⟩⟩;have hu:=F.ow _ _ B hh;obtain⟨m',r'⟩:=v6 (f:=f) r1 m (r.ext F);obtain⟨A',J⟩:=((st.mono F).write (o:=.ins C' dx (gZ f v vs)) (aQ W) (cN hO) U B o3 hu trivial (.ob aM m' (r'.put B hu trivial))).shut (Sub.mem h);exact p A' σ _ J
  | _=>cases e
abbrev Rv:=bI->Option (D×bI)
abbrev Rl:=bI->Option (List D×bI)
inductive tR(O:List Nat)(f:Rv)(σ:L2.St)(H:Hp)(Q:VK):Prop
 | mk (H0:Hp) (A0 A:Av) (E:List Fact) (ρ:bI) (d:D) (ρ':bI) (st:ST H0 A0 A E O σ H ρ) (e:f ρ=some (d,ρ')) (q:∀v H',ST H0 A0 A E O σ H' ρ'->Rep A H' d v->Q v H'):tR O f σ H Q
inductive tRA(O:List Nat)(f:Rl)(σ:L2.St)(H:Hp)(Q:List V->Hp->Prop):Prop
 | mk (H0:Hp) (A0 A:Av) (E:List Fact) (ρ:bI) (ds:List D) (ρ':bI) (st:ST H0 A0 A E O σ H ρ) (e:f ρ=some (ds,ρ')) (q:∀vs H',ST H0 A0 A E O σ H' ρ'->RepL A H' ds vs->Q vs H'):tRA O f σ H Q
def PR(X:Cx)(O:List Nat)(e:Expr)(f:Rv):Prop:=PE X e (tR O f)
def RG(X:Cx)(O:List Nat)(es:List Expr)(f:Rl):Prop:=PA X es (tRA O f)
theorem PA.mon{es:List Expr}{t t':TA}(h:PA X es t)(x:∀σ H Q,t' σ H Q->t σ H Q):PA X es t':=λpos pins s σ H Q I w=>h pos pins s σ H Q I (x σ H Q w)
def U8(f:Ev):Rv:=λρ=>(f ρ).map λd=>(d,ρ)
theorem TL{e:Expr}{f:Ev}(h:PD X O e f):PR X O e (U8 f):=PE.mono h <| by
 rintro σ H Q ⟨H0,A0,A,E,ρ,d,ρ',st,e,q⟩;obtain⟨d',F,B⟩:=map_some e;cases B;exact⟨H0,A0,A,E,ρ,d,st,F,λv H' x r=>q v H' (st.mono x) r⟩
def W3:Rl:=λρ=>some ([],ρ)
def U0(f:Rv)(g:Rl):Rl:=λρ=>(f ρ).bind λp=>(g p.2).map λl=>(p.1::l.1,l.2)
theorem lS:RG X O [] W3:=PA.mon gH <| by
 rintro σ H Q ⟨H0,A0,A,E,ρ,ds,ρ',st,e,q⟩;cases e;exact q [] H st .nil
theorem b0{e:Expr}{es:List Expr}{f:Rv}{g:Rl}(h:PR X O e f)(t:RG X O es g)(hs:YG (e::es) X.env=(false,eval e X.env)::YG es X.env:=by rfl):RG X O (e::es) (U0 f g):=
 PA.mon (bP h t hs) <| by
  rintro σ H Q ⟨H0,A0,A,E,ρ,ds,ρ',st,e,q⟩;obtain⟨⟨x,ρ1⟩,ex,e⟩:=bind_some e;obtain⟨⟨l,J⟩,U,e⟩:=map_some e;cases e;exact⟨H0,A0,A,E,ρ,x,ρ1,st,ex,λv H1 W Y=>⟨H0,A0,A,.rep x v::E,ρ1,l,_,W.more Y,U,λvs H2 B N=>q _ H2 (B.less λp F=>YW _ F) (.cons (B.ext _ (YQ ..)) N)⟩⟩
def LO(g:Rl):Rv:=λρ=>(g ρ).map λp=>(.tup p.1,p.2)
theorem PV{es:List Expr}{x1}{pos:Pos}{g:Rl}(h:RG X O es g)(U:∀ρ p,g ρ=some p->p.1.length<=100):PR X O (.Tuple es x1 pos) (LO g):=PE.mono (FT h) <| by
 rintro σ H Q ⟨H0,A0,A,E,ρ,d,ρ',st,e,q⟩;obtain⟨⟨ds,ρ1⟩,J,e⟩:=map_some e;cases e;exact⟨H0,A0,A,E,ρ,ds,_,st,J,λvs H1 N F=>⟨by rw[F.length];exact ZF (U ρ _ J) (by decide),λp B=>q _ _ (N.mono (Ext.new B)) (.tup aM (F.ext (Ext.new B)))⟩⟩
def U1(F:List D->Option D)(g:Rl):Rv:=λρ=>(g ρ).bind λp=>(F p.1).map λd=>(d,p.2)
theorem R5{x:Str}{k:Nat}{ps:List Str}{F:List D->Option D}{e:Expr}{es:List Expr}{g:Rl}{p pos:Pos}(O':Fn X.prog X.w X.K X.mg X.base x k ps F)(hr:Room k X.A)(hg:Gl X x)(ha:RG X O (e::es) g)(hl:∀ρ p,g ρ=some p->p.1.length=ps.length)(J:(x == ("__debug__" : Str))=false:=by decide)
  (Y:YG (e::es) X.env=(false,eval e X.env)::YG es X.env:=by rfl) (B:(YO pos (YG es X.env)).any (·.1)=false:=by rfl):PR X O (.Call (.Name x p) (e::es) [] pos) (U1 F g):=
 PE.mono (My.gU O' hr hg ha J Y B) <| by
  rintro σ H Q ⟨H0,A0,A,E,ρ,d,ρ',st,e,q⟩;obtain⟨⟨ds,ρ1⟩,W,e⟩:=bind_some e;obtain⟨d',e2,e⟩:=map_some e;cases e;exact⟨H0,A0,A,E,ρ,ds,_,st,W,λvs H1 N U=>⟨A,ds,d,N.live,U,by rw[U.length];exact hl ρ _ W,e2,λv H2 x2 r2=>q v H2 (N.mono x2) r2⟩⟩
def W4(g:D->D->Option D)(B:Ev)(q:Rv):Rv:=λρ=>(B ρ).bind λx=>(q ρ).bind λp=>(g x p.1).map λd=>(d,p.2)
theorem MH{a b:Expr}{op:Operator}{pos:Pos}{g:D->D->Option D}{J:Ev}{F:Rv}(ho:iK X (ZC op) g)(ha:PD X O a J)(hb:PR X O b F):PR X O (.BinOp a op b pos) (W4 g J F):=
 PE.mono (HA ho ha hb) <| by
  rintro σ H Q ⟨H0,A0,A,E,ρ,d,ρ',st,e,q⟩;obtain⟨x,ex,e⟩:=bind_some e;obtain⟨⟨y,ρ1⟩,ey,e⟩:=bind_some e;obtain⟨d',ed,e⟩:=map_some e;cases e;exact⟨H0,A0,A,E,ρ,x,st,ex,λv H1 W r1=>⟨H0,A0,A,.rep x v::E,ρ,y,_,(st.mono W).more r1,ey,λw H2 B r2=>⟨A,x,y,d,B.live,.of (B.ext _ (YQ ..)),.of r2,ed,λz Y U r3=>q z Y ((B.less λp N=>YW _ N).mono U) r3⟩⟩⟩
def US(n:Nat)(F:List D->Option (D×D)):Sp:=λvs H Q _=>∃(A:Av) (p:Addr) (us:List V) (es:List D) (l d l':D),vs=.ref p::us/\us.length+1=n/\Live A H/\A p/\RepL A H es us/\Own A H l p/\F (l::es)=some (d,l') /\
 ∀v H',Pour A p H H'->Own A H' l' p->Rep A H' d v->Q v H'
def FnR(P:YK)(w:World)(K:YH)(mg:Str->Option Value)(base:Heap)(x:Str)(k:Nat)(ps:List Str)(F:List D->Option (D×D)):Prop:=My.Ok P w K mg base x k ps (US ps.length F)
theorem FnR.mono{P:YK}{w:World}{K:YH}{mg:Str->Option Value}{base:Heap}{x:Str}{j k:Nat}{ps:List Str}{F:List D->Option (D×D)}(h:FnR P w K mg base x j ps F)(l:j<=k):FnR P w K mg base x k ps F:=My.Ok.mono h l
def d7(z:Nat)(F:List D->Option (D×D))(fs:Lv):Rv:=λρ=>(fs ρ).bind λes=>(aE z ρ).bind λl=>(F (l::es)).map λr=>(r.1,ρ.set z (some r.2))
theorem sG{z n:Nat}{F:List D->Option (D×D)}{fs:Lv}(B:mem O z=true)(hl:∀ρ ds,fs ρ=some ds->ds.length+1=n){σ:L2.St}{H:Hp}{Q:VK}{E:XK}(h:tR O (d7 z F fs) σ H Q):rH (d6 z) (tDA Rep O fs) σ H λvs H'=>US n F vs H' Q E:=by
 obtain⟨H0,A0,A,E,ρ,d,ρ',st,e,q⟩:=h;obtain⟨es,e1,e⟩:=bind_some e;obtain⟨l,U,e⟩:=bind_some e;obtain⟨⟨d1,l'⟩,e3,e⟩:=map_some e;cases e;obtain⟨p,N,o2,o3,o4⟩:=st.own z l (aQ U) (cN B);refine⟨_,N,H0,A0,A,E,ρ,es,st,e1,λus H1 x1 Y=>?_⟩;have J:=st.mono x1;obtain⟨p',W,w2,w3,w4⟩:=J.own z l (aQ U) (cN B);rw[N]at W;cases W;exact⟨A,p,us,es,l,_,l',rfl,by rw[Y.length];exact hl ρ es e1,J.live,o2,Y.toL,w4,e3,λv H' x o r=>q v H' (J.pour N (aQ U) x o (cN B)) r⟩
theorem K5{x:Str}{z k:Nat}{ps:List Str}{F:List D->Option (D×D)}{ep:Expr}{es:List Expr}{fs:Lv}{p pos:Pos}(O':FnR X.prog X.w X.K X.mg X.base x k ps F)(hr:Room k X.A)(Y:Gl X x)(N:PE X ep (d6 z))(U:mem O z=true)(ha:mE X O es fs)(W:∀ρ ds,fs ρ=some ds->ds.length+1=ps.length)(B:(x == ("__debug__" : Str))=false:=by decide)
  (J:YG (ep::es) X.env=(false,eval ep X.env)::YG es X.env:=by rfl) (q:(YO pos (YG es X.env)).any (·.1)=false:=by rfl):PR X O (.Call (.Name x p) (ep::es) [] pos) (d7 z F fs):=
 PE.mono (My.gU O' hr Y (bP N ha J) B J q) λσ H Q h=>sG U W h
def X6(n:Nat)(F:List D->Option D):Sp:=λvs H Q _=>∃(A:Av) (p:Addr) (us:List V) (es:List D) (l d:D),vs=.ref p::us/\us.length+1=n/\Live A H/\A p/\RepL A H es us/\Own A H l p/\F (l::es)=some d /\
 ∀v H',Ext A H H'->Rep A H' d v->Q v H'
def RF(P:YK)(w:World)(K:YH)(mg:Str->Option Value)(base:Heap)(x:Str)(k:Nat)(ps:List Str)(F:List D->Option D):Prop:=My.Ok P w K mg base x k ps (X6 ps.length F)
def rE(z:Nat)(F:List D->Option D)(fs:Lv):Ev:=λρ=>(fs ρ).bind λes=>(aE z ρ).bind λl=>F (l::es)
theorem JW{x:Str}{z k:Nat}{ps:List Str}{F:List D->Option D}{ep:Expr}{es:List Expr}{fs:Lv}{p pos:Pos}(O':RF X.prog X.w X.K X.mg X.base x k ps F)(hr:Room k X.A)(hg:Gl X x)(hp:PE X ep (d6 z))(hO:mem O z=true)(ha:mE X O es fs)(hl:∀ρ ds,fs ρ=some ds->ds.length+1=ps.length)(J:(x == ("__debug__" : Str))=false:=by decide)
  (Y:YG (ep::es) X.env=(false,eval ep X.env)::YG es X.env:=by rfl) (B:(YO pos (YG es X.env)).any (·.1)=false:=by rfl):PD X O (.Call (.Name x p) (ep::es) [] pos) (rE z F fs):=
 PE.mono (My.gU O' hr hg (bP hp ha Y) J Y B) <| by
  rintro σ H Q ⟨H0,A0,A,E,ρ,d,st,e,q⟩;obtain⟨es,W,e⟩:=bind_some e;obtain⟨l,U,e⟩:=bind_some e;obtain⟨p,N,o2,o3,o4⟩:=st.own z l (aQ U) (cN hO);refine⟨_,N,H0,A0,A,E,ρ,es,st,W,λus H1 x1 r1=>?_⟩;have s1:=st.mono x1;obtain⟨p',w1,w2,w3,w4⟩:=s1.own z l (aQ U) (cN hO);rw[N]at w1;cases w1;exact⟨A,p,us,es,l,d,rfl,by rw[r1.length];exact hl ρ es W,s1.live,o2,r1.toL,w4,e,λv H' x r=>q v H' (x1.trans x) r⟩
theorem y3{i:Nat}(h:O.contains i=false):i∉O:=λz=>by
 have:O.contains i=true:=by simpa using z
 rw[h]at this;cases this
def tO(i:Nat)(f:Rv):Sv:=λρ=>(f ρ).map λp=>.nx (p.2.set i (some p.1))
theorem DV{i:Nat}{x:Str}{e:Expr}{pos pos':Pos}{f:Rv}(F:X.N.Nodup)(hi:X.N[i]?=some x)(J:Loc X.env.scope x)(B:PR X O e f)(n:O.contains i=false:=by rfl)(h:Sub O' O=true:=by rfl)
  (hs:Y3 e (some (.Name x pos')) pos.line X.env=pure false:=by rfl) (U:X.fn x=true\/X.env.scope.names.lookup x=some .local:=by first|exact .inl rfl|exact .inr rfl):gI X L O (.Assign [.Name x pos'] e pos) (tO i f) O':=
 PS.mono (jF F hi J B hs U) <| by
  rintro T σ H ⟨H0,A0,A,E,ρ,W,st,e,p⟩;obtain⟨⟨d,ρ1⟩,Y,rfl⟩:=map_some e;refine⟨H0,A0,A,E,ρ,d,ρ1,st,Y,λv H' s r=>?_⟩;obtain⟨A',q⟩:=(s.put r (y3 n)).shut (Sub.mem h);exact p A' _ H' q
def xJ(f:Rv):Sv:=λρ=>(f ρ).map λp=>.nx p.2
theorem KP{e:Expr}{pos:Pos}{f:Rv}(B:PR X O e f)(hs:Y3 e none pos.line X.env=pure false:=by rfl)(h:Sub O' O=true:=by rfl):gI X L O (.Expr e pos) (xJ f) O':=
 PS.mono (lU B hs) <| by
  rintro T σ H ⟨H0,A0,A,E,ρ,F,st,e,p⟩;obtain⟨⟨d,ρ1⟩,J,rfl⟩:=map_some e;refine⟨H0,A0,A,E,ρ,d,ρ1,st,J,λv H' s r=>?_⟩;obtain⟨A',q⟩:=s.shut (Sub.mem h);exact p A' σ H' q
def A7(i:Nat)(f:Rv):Sv:=λρ=>(f ρ).map λp=>.nx (p.2.set i (some (.lst [p.1])))
theorem E6{i:Nat}{x:Str}{e:Expr}{pos pos' B:Pos}{f:Rv}(J:X.N.Nodup)(hi:X.N[i]?=some x)(U:Loc X.env.scope x)(F:PR X O e f)(n:O.contains i=false:=by rfl)(h:Sub O' (i::O)=true:=by rfl)(h1:YG [e] X.env=(false,eval e X.env)::YG [] X.env:=by rfl)
  (hs:Y3 (.List [e] B) (some (.Name x pos')) pos.line X.env=pure false:=by rfl) (W:X.fn x=true\/X.env.scope.names.lookup x=some .local:=by first|exact .inl rfl|exact .inr rfl):gI X L O (.Assign [.Name x pos'] (.List [e] B) pos) (A7 i f) O':=
 PS.mono (jF J hi U (G0 (bP F gH h1)) hs W) <| by
  rintro T σ H ⟨H0,A0,A,E,ρ,Y,st,e,p⟩;obtain⟨⟨d,ρ1⟩,e1,rfl⟩:=map_some e;refine⟨H0,A0,A,E,ρ,d,ρ1,st,e1,λv H' s r=>⟨(show 1<=YN by decide),λa ha=>?_⟩⟩;obtain⟨A',q⟩:=(s.own_put (i:=i) (Ext.new ha) ha (λz=>s.live a z ha) (.lst aM ((RepL.cons r .nil).fresh ha)) (y3 n)).shut (Sub.mem h);exact p A' _ _ q
def tK(i:Nat)(f:Rv):Sv:=λρ=>(aE i ρ).bind λx=>match x with
 | .lst _=>(f ρ).bind λp=>(aE i p.2).bind λy=>match y with
  | .lst l=>if bO l.length=true then some (.nx (p.2.set i (some (.lst (l++[p.1])))))else none
  | _=>none
 | _=>none
theorem D8{o e:Expr}{i:Nat}{apos cpos pos:Pos}{f:Rv}(q:mem O i=true)(Y:PE X (.Call (.Attribute o "append" apos) [e] [] cpos) (RH X.K "list" uE (d6 i) (rH (tR O f) HL)))
  (hs:Y3 (.Call (.Attribute o "append" apos) [e] [] cpos) none pos.line X.env=pure false:=by rfl) (h:Sub O' O=true:=by rfl):gI X L O (.Expr (.Call (.Attribute o "append" apos) [e] [] cpos) pos) (tK i f) O':=
 PS.mono (lU Y hs) <| by
  rintro T σ H ⟨H0,A0,A,E,ρ,ae,st,e,p⟩;obtain⟨x,ex,e⟩:=bind_some e;cases x with
  | lst l0=>
   obtain⟨⟨d,ρ1⟩,ed,e⟩:=bind_some e;obtain⟨y,U,e⟩:=bind_some e;cases y with
   | lst l=>
    by_cases B:bO l.length=true
    case neg=>simp only[if_neg B]at e;cases e
    simp only[if_pos B]at e;cases e;obtain⟨a,F,e2,e3,e4⟩:=st.own i _ (aQ ex) (cN q);cases e4 with
    | lst h4 r4=>
     refine⟨_,F,.inl ⟨rfl,_,SqL.of h4⟩,H0,A0,A,E,ρ,d,ρ1,st,ed,λv H' s r=>?_⟩;obtain⟨b,W,N,w3,w4⟩:=s.own i _ (aQ U) (cN q);rw[F]at W;cases W;cases w4 with
     | lst h5 r5=>
      refine⟨a,_,v,rfl,rfl,h5,by rw[r5.length];exact AB B,?_⟩;obtain⟨A',J⟩:=(s.write (o:=.lst _) (aQ U) (cN q) F N w3 h5 trivial (.lst aM ((r5.append (.cons r .nil)).put N h5 trivial))).shut (Sub.mem h);exact p A' σ _ J
   | _=>cases e
  | _=>cases e
inductive OutR where
 | nx (ρ:bI)|rt (d l:D)
abbrev gJ:=bI->Option OutR
def TF(H0:Hp)(A0:Av)(E:List Fact)(O':List Nat)(T:Ends):OutR->Prop
 | .nx ρ=>∀A σ H,ST H0 A0 A E O' σ H ρ->T.nx σ H
 | .rt d l=>∀A v H p,(∀a,A0 a->A a)->A p->Ext A0 H0 H->Rep A H d v->Own A H l p->T.rt v H
inductive tZ(O:List Nat)(f:gJ)(O':List Nat)(T:Ends)(σ:L2.St)(H:Hp):Prop
 | mk (H0:Hp) (A0 A:Av) (E:List Fact) (ρ:bI) (out:OutR) (st:ST H0 A0 A E O σ H ρ) (e:f ρ=some out) (q:TF H0 A0 E O' T out):tZ O f O' T σ H
def PZ(X:Cx)(O:List Nat)(st:Stmt)(f:gJ)(O':List Nat):Prop:=PS X st (tZ O f O')
def BN(X:Cx)(O:List Nat)(st:List Stmt)(f:gJ)(O':List Nat):Prop:=PSs X st (tZ O f O')
variable {O2:List Nat}
def BJ(f:Sv):gJ:=λρ=>(f ρ).bind λo=>match o with
 | .nx ρ'=>some (.nx ρ')
 | _=>none
theorem R0{st:Stmt}{f:Sv}(h:gI X ⟨[],[]⟩ O st f O'):PZ X O st (BJ f) O':=PS.mono h <| by
 rintro T σ H ⟨H0,A0,A,E,ρ,F,st,e,q⟩;obtain⟨o,B,e⟩:=bind_some e;cases o with
 | nx ρ'=>cases e;exact⟨H0,A0,A,E,ρ,.nx ρ',st,B,q⟩
 | _=>cases e
def UP:gJ:=λρ=>some (.nx ρ)
def iL(f g:gJ):gJ:=λρ=>(f ρ).bind λo=>match o with
 | .nx ρ'=>g ρ'
 | o=>some o
theorem yZ:BN X O [] UP O:=PSs.mono uJ <| by
 rintro T σ H ⟨H0,A0,A,E,ρ,B,st,e,q⟩;cases e;exact q A σ H st
theorem pJ{st:Stmt}{rest:List Stmt}{f g:gJ}(h1:PZ X O st f O2)(h2:BN X O2 rest g O'):BN X O (st::rest) (iL f g) O':=PSs.mono (lP h1 h2) <| by
 rintro T σ H ⟨H0,A0,A,E,ρ,F,st,e,q⟩;obtain⟨o,J,e⟩:=bind_some e;refine⟨H0,A0,A,E,ρ,o,st,J,?_⟩;cases o with
 | nx ρ'=>exact λA' N H' B=>⟨H0,A0,A',E,ρ',F,B,e,q⟩
 | rt d l=>cases e;exact q
theorem N1{st:Stmt}{f:gJ}(h:PZ X O st f O'):BN X O [st] f O':=o7 h
def RM(c:Bv)(f g:gJ):gJ:=λρ=>(c ρ).bind λb=>if b=true then f ρ else g ρ
theorem S1{c:Expr}{a:List Stmt}{pos:Pos}{g:Bv}{f:gJ}(ha:BN X O a f O)(N:k3 X O c g):PZ X O (.If c a [] pos) (RM g f UP) O:=PS.mono (HF N ha yZ) <| by
 rintro T σ H ⟨H0,A0,A,E,ρ,B,st,e,q⟩;obtain⟨b,J,e⟩:=bind_some e;refine⟨H0,A0,A,E,ρ,b,st,J,λH1 F=>?_⟩;cases b with
 | true=>rw[if_pos rfl]at e ⊢;exact⟨H0,A0,A,E,ρ,B,st.mono F,e,q⟩
 | false=>rw[if_neg YX]at e ⊢;exact⟨H0,A0,A,E,ρ,B,st.mono F,e,q⟩
def U3(z:Nat)(f:Rv):gJ:=λρ=>(f ρ).bind λr=>(aE z r.2).map λl=>.rt r.1 l
theorem ND{z:Nat}{e:Expr}{pos:Pos}{f:Rv}(B:PR X O e f)(F:mem O z=true):PZ X O (.Return (some e) pos) (U3 z f) O':=PS.mono (qU B) <| by
 rintro T σ H ⟨H0,A0,A,E,ρ,U,st,e,q⟩;obtain⟨⟨d,ρ1⟩,W,e⟩:=bind_some e;obtain⟨l,Y,rfl⟩:=map_some e;refine⟨H0,A0,A,E,ρ,d,ρ1,st,W,λv H' s r=>?_⟩;obtain⟨a,o1,J,o3,N⟩:=s.own z l (aQ Y) (cN F);exact q A v H' a s.sub J s.ex r N
end
noncomputable def adr:D->Option Addr
 | .ob a _ _=>some a
 | _=>none
theorem IG{A:Av}{H:Hp}{l:D}{p a:Addr}(o:Own A H l p)(h:adr l=some a):p=a:=by
 cases o with
 | ob _ _ _=>cases h;rfl
 | _=>cases h
def dW(n:Nat)(f:gJ)(ds:List D):Option (D×D):=match ds with
 | .ob a C fs::es=>(f (a8 n (.ob a C fs::es))).bind λo=>match o with
  | .rt d l=>if adr l=some a then some (d,l)else none
  | .nx ρ=>(aE 0 ρ).bind λl=>if adr l=some a then some (.non,l)else none
 | _=>none
theorem ST.begunR{A:Av}{H:Hp}{N:List Str}{l:D}{es:List D}{p:Addr}{q:List V}(B:Live A H)(ha:A p)(r:RepL A H es q)(o:Own A H l p):ST (P.hide p H) (MX A p) A [] [0] (L2.start N (.ref p::q)) H (a8 N.length (l::es)) where
 ex:=gT
 sub:=λ_ h=>h.1
 l0:=λa h=>by rw[hide_ne h.2];exact B a h.1
 live:=B
 len:=by unfold L2.start a8;simp[r.length]
 val:=λi d h n=>by
  unfold a8 at h;unfold L2.start
  match i with
  | 0=>exact absurd (List.mem_singleton.mpr rfl) n
  | i+1=>
   have h:(es.map some++zaS (N.length-(es.length+1)) none)[i]?=some (some d):=h;by_cases hi:i<es.length
   ·rw[za5 (by simpa using hi),ZJ]at h
    obtain⟨d',Y,e2⟩:=map_some h;cases e2;obtain⟨v,W,U⟩:=r.get' Y;refine⟨v,?_,U⟩;show(q.map some++_)[i]?=_;rw[za5 (by rw[YV,r.length];exact hi),ZJ,W];rfl
   ·rw[zbT (by simpa using hi),zbU]at h
    split at h <;> cases h
 own:=λi d h n=>by
  rw[List.mem_singleton.mp n]at h ⊢;cases h;exact⟨p,rfl,ha,sI,o⟩
 inj:=λi j d d' a hi J _ _ _ _=>by rw[List.mem_singleton.mp hi,List.mem_singleton.mp J]
 ext:=λp F=>nomatch F
section
variable {P:YK}{w:World}{K:YH}{mg:Str->Option Value}{base:Heap}
theorem L1{X:Cx}{N:List Str}{O':List Nat}{n:Nat}{f:gJ}{U:List Stmt}(h:BN X [0] U f O')(hO:mem O' 0=true){vs:List V}{H:Hp}{Q:VK}{E:XK}(ae:US n (dW N.length f) vs H Q E):∃t,PSs X U t/\t {nx:=λ_ H'=>Q .non H',rt:=Q} (L2.start N vs) H:=by
 obtain⟨J,p,us,es,l,d,l',rfl,hl,lv,ha,r,o,eF,q⟩:=ae;cases o with
 | @ob _ _ dx fs ws hh m rr=>
  have o:Own J H (.ob p _ fs) p:=.ob hh m rr;obtain⟨aa,eo,B⟩:=bind_some eF;have fin:∀ {A v H' Y d l},(∀a,MX J p a->A a)->A Y->Ext (MX J p) (hide p H) H'->Rep A H' d v->Own A H' l Y->adr l=some p->(∀v H',Pour J p H H'->Own J H' l p->Rep J H' d v->Q v H')->Q v H':=λ{A v H' Y d l} W ap x rv ol F q=>by
   have:=IG ol F;subst this;have le:∀a,J a->A a\/H' a=none:=λa h=>by
    by_cases z:a=Y
    ·exact .inl (z ▸ ap)
    ·exact .inl (W a ⟨h,z⟩)
   exact q v H' x (ol.av le) (rv.av le)
  refine⟨_,h,_root_.P.hide p H,MX J p,J,[],_,aa,ST.begunR lv ha r o,eo,?_⟩;cases aa with
  | nx ρ=>
   obtain⟨l2,e3,B⟩:=bind_some B;by_cases F:adr l2=some p
   case neg=>simp only[if_neg F]at B;cases B
   simp only[if_pos F]at B;cases B;intro A σ H' st;obtain⟨a,o1,o2,o3,o4⟩:=st.own 0 _ (aQ e3) (cN hO);exact fin st.sub o2 st.ex .non o4 F q
  | rt d' l2=>
   by_cases F:adr l2=some p
   case neg=>simp only[if_neg F]at B;cases B
   simp only[if_pos F]at B;cases B;exact λA v H' Y W ap x rv ol=>fin W ap x rv ol F q
 | _=>cases eF
theorem GN{x:Str}{st:Stmt}{N ps:List Str}{k:Nat}{f:gJ}{O':List Nat}(U:My.DefAt K mg x st ps)(S:FnScope N ps (aF st))(W:mem O' 0=true)
  (h:∀(J:Addr) (B:Value) (A:YM) (q:List Env) (s:YE) (H:Hp) (E:XK),Room k (A.deeper (Y2 x (aF st) s.heap.objs.size J B))->∃g,BN (eN mW P w K mg base N x (aF st) J B A q s H E).nox [0] (aX st) g O'/\g=f) :
  FnR P w K mg base x (k+1) ps (dW N.length f):=by
 refine My.BodyOk.ok (λJ B A q s H vs Q E hr F=>?_) U S (λvs H Q E F=>by obtain⟨A,p,us,es,l,d,l',rfl,e,_⟩:=F;exact e);obtain⟨g,Y,rfl⟩:=h J B A q s H E hr;exact L1 Y W F
theorem N7{x:Str}{st:Stmt}{N ps:List Str}{k:Nat}{f:Ev}(Df:My.DefAt K mg x st ps)(S:FnScope N ps (aF st))
  (h:∀(U:Addr) (F:Value) (A:YM) (B:List Env) (s:YE) (H:Hp) (E:XK),Room k (A.deeper (Y2 x (aF st) s.heap.objs.size U F))->∃e pos g,aX st=[.Return (some e) pos]/\PD (eN mW P w K mg base N x (aF st) U F A B s H E).nox [0] e g/\g=f) :
  RF P w K mg base x (k+1) ps (λds=>f (a8 N.length ds)):=by
 refine My.BodyOk.ok (λU F A B s H vs Q E hr J=>?_) Df S (λvs H Q E J=>by obtain⟨A,p,us,es,l,d,rfl,e,_⟩:=J;exact e);obtain⟨e,pos,g,Y,hg,rfl⟩:=h U F A B s H E hr;obtain⟨W,p,us,es,l,d,rfl,hl,lv,ha,r,o,eF,q⟩:=J;rw[Y];exact⟨_,o7 (qU hg),_root_.P.hide p H,MX W p,W,[],_,d,ST.begunR lv ha r o,eF,λv H' x r=>q v H' x r⟩
theorem EO{x:Str}{st:Stmt}{N ps:List Str}{k:Nat}(F:My.DefAt K mg x st ps)(S:FnScope N ps (aF st)):FnR P w K mg base x (k+1) ps (λ_=>none):=
 My.BodyOk.ok (k:=k) (N:=N) (λU J A q s H vs Q E W ⟨_,_,_,_,_,_,_,_,_,_,_,_,_,B,_⟩=>nomatch B) F S (λvs H Q E ⟨_,_,_,_,_,_,_,_,_,_,_,_,_,B,_⟩=>nomatch B)
end
end P
namespace My
open PySem PySem.Spec PyProof.Rows L2
theorem AH{mg:Str->Option Value}{s:Str}:∀ {l:List (Str×Str)},(Z4 (oN mg l) (.inr s:Key)).isSome=l.any λp=>decide (p.1=s)
 | []=>rfl
 | p::l=>by
  unfold Z4 oN;rw[Y4,zad,zao];by_cases e:p.1=s
  ·have q:decide ((ZM p.1:Key)=ZM s)=true:=decide_eq_true (by rw[e])
   rw[decide_eq_true e];simp only[q];rfl
  ·have q:decide ((ZM p.1:Key)=ZM s)=false:=decide_eq_false (λz=>e (zbm z))
   rw[decide_eq_false e,Bool.false_or];have:=AH (mg:=mg) (s:=s) (l:=l);unfold Z4 oN at this;simp only[q];exact this
theorem DictAt.heap{w:World}{K:YH}{mg:Str->Option Value}{x:Str}{l:List (Str×Str)}(D:DictAt w K mg x l):∃a,mg x=some (.ref a)/\∀ {P:YK} {h:Heap},(∀a o,K.lookup a=some o->h.get? a=some o)->h.DictOf (bQ P w) a (oN mg l):=by
 obtain⟨a,o,B,ep,W,U,Y,hd,J,q⟩:=D.ex;refine⟨a,W,λ{P h} F=>⟨o,B.toArray,ep,F a o U,Y,hd,λe N=>J.keys e (by simpa using N),J.pairs,?_⟩⟩;unfold My.oN;rw[ZS];have:(l.map (·.1)).map (ZM:Str->Key)=l.map ((λx=>x.1) ∘ λp=>((ZM p.1:Key),(mg p.2).getD .none)):=by rw[ZS];rfl
 rw[<- this];exact List.pairwise_map.mpr (List.Pairwise.imp (λh z=>h (zbm z)) q)
end My
namespace P
open PySem PySem.Spec PyProof.Rows L2
section
variable {X:Cx}{O O':List Nat}{L:Lp}
inductive FamR(X:Cx)(k n:Nat):List (Str×Str)->List (Str×(List D->Option (D×D)))->Prop
 | nil:FamR X k n [] []
 | cons {key fn:Str} {ps:List Str} {F:List D->Option (D×D)} {l:List (Str×Str)} {Fs:List (Str×(List D->Option (D×D)))} (h:FnR X.prog X.w X.K X.mg X.base fn k ps F) (hn:ps.length=n) (t:FamR X k n l Fs):FamR X k n ((key,fn)::l) ((key,F)::Fs)
theorem FamR.find{k n:Nat}{s:Str}{p:Str×(List D->Option (D×D))}{l:List (Str×Str)}{q:List (Str×(List D->Option (D×D)))}(h:FamR X k n l q)(e:(q.find? λp=>decide (p.1=s))=some p):∃fn ps,(l.find? λp=>decide (p.1=s))=some (s,fn)/\FnR X.prog X.w X.K X.mg X.base fn k ps p.2/\ps.length=n:=by
 induction h with
 | nil=>cases e
 | @cons key fn ps F l q h hn t ih=>
  rw[zad]at e ⊢;by_cases z:key=s
  ·subst z
   have B:decide (key=key)=true:=decide_eq_true rfl;simp only[B]at e ⊢;cases e;exact⟨fn,ps,rfl,h,hn⟩
  ·have B:decide (key=s)=false:=decide_eq_false z
   simp only[B]at e ⊢;exact ih e
noncomputable def MG(Fs:List (Str×(List D->Option (D×D))))(k:D)(ds:List D):Option (D×D):=match k with
 | .str s=>(Fs.find? λp=>decide (p.1=s)).bind λp=>p.2 ds
 | _=>none
def u7(z:Nat)(q:List (Str×(List D->Option (D×D))))(F:Ev)(B:Lv):Rv:=λρ=>(F ρ).bind λk=>d7 z (MG q k) B ρ
theorem DZ{x:Str}{z:Nat}{l:List (Str×Str)}{Fs:List (Str×(List D->Option (D×D)))}{k n:Nat}{N ep:Expr}{es:List Expr}{fk:Ev}{W:Lv}{p sp pos:Pos}(hD:My.DictAt X.w X.K X.mg x l)(hF:FamR X k n l Fs)(hr:Room k X.A)(hg:Gl X x)(hk:PB X O N fk)(hp:PE X ep (d6 z))(hO:mem O z=true)(ha:mE X O es W)(hl:∀ρ ds,W ρ=some ds->ds.length+1=n)(hs:DE N)
  (Y:(x == ("__debug__" : Str))=false:=by decide) (he:YG (ep::es) X.env=(false,eval ep X.env)::YG es X.env:=by rfl) (ac:(YO pos (YG es X.env)).any (·.1)=false:=by rfl)
  (hc:eval (.Call (.Subscript (.Name x p) N sp) (ep::es) [] pos) X.env=(do callWith pos (<- eval (.Subscript (.Name x p) N sp) X.env) [] (YO pos (YG (ep::es) X.env)) (ZZ pos (Z0 [] X.env))):=by rfl) :
  PR X O (.Call (.Subscript (.Name x p) N sp) (ep::es) [] pos) (u7 z Fs fk W):=by
 intro pins s σ H Q I ⟨H0,A0,A,E,ρ,d,ρ',st,B,q⟩;obtain⟨kd,ek,B⟩:=bind_some B;cases kd with
 | str ks=>
  have a4:=B;obtain⟨ds,ed,B⟩:=bind_some B;obtain⟨l1,el,B⟩:=bind_some B;obtain⟨U,er,B⟩:=map_some B;obtain⟨p0,hf,eF⟩:=bind_some (show(Fs.find? λp=>decide (p.1=ks)).bind (λp=>p.2 (l1::ds))=some U from er);obtain⟨fn,ps,ab,FF,hn⟩:=hF.find hf;obtain⟨a,hm,dh⟩:=hD.heap;obtain⟨f,fd,J,hb,ae,FO⟩:=My.Ok.ex FF;rw[hc];refine YF (t6 PySem.F.slot_dict_getitem.lookup hs (jT I hg hm ?_ Y));refine bL (hk pins s σ H (λv H1=>v=.str ks/\Ext A H H1) I ⟨H0,A0,A,E,ρ,_,st,ek,λv H1 x1 U=>⟨U.str_inv,x1⟩⟩) λiv s2 ⟨y,H1,I1,ry,ey,x1⟩=>?_
  subst ey;have dd:=dh (P:=X.prog) I1.kIn;refine⟨dd.typeIs,zcE (rA (k:=.inr ks) ry) dd.mapOf (My.t7 ab ae) ?_⟩;have eR:d7 z p0.2 W ρ=some (d,ρ'):=by
   unfold d7;rw[ed,YI,el,YI,eF];exact congrArg some B
  refine zbS (h₀:=X.base) I.ok.mod.kin J (bL (bP hp ha he pos pins _ σ H1 (λvs H2=>US ps.length p0.2 (vs++[]) H2 Q E0) (I1.tok _) ?_) λus s4 ⟨vs,H2,I4,r,qq⟩=>⟨I4.kIn,?_⟩) he ac
  ·simp only[zam]
   exact sG hO (λρ ds h=>by rw[hl ρ ds h,hn]) ⟨H0,A0,A,E,ρ,d,ρ',st.mono x1,eR,q⟩
  ·exact y9 FO hr hb .nil BD I4 r qq
 | _=>
  obtain⟨ds,ed,B⟩:=bind_some B;obtain⟨l1,el,B⟩:=bind_some B;obtain⟨U,er,B⟩:=map_some B;cases er
def HM(ks:List Str)(f:Ev):Ev:=λρ=>(f ρ).bind λd=>match d with
 | .str s=>some (.bl (ks.any λk=>decide (k=s)))
 | _=>none
theorem IU{x:Str}{l:List (Str×Str)}{e:Expr}{f:Ev}{p pos:Pos}(hD:My.DictAt X.w X.K X.mg x l)(hs:∀a,X.mg x=some (.ref a)->(a == zas)=false)(hg:Gl X x)(U:PB X O e f)(N:(x == ("__debug__" : Str))=false:=by decide)(hm:zae .In (.Name x p)=false:=by rfl) :
  k3 X O (.Compare e [.In] [.Name x p] pos) (c9 (HM (l.map (·.1)) f)):=by
 refine PT.mono (M1 (t:=tD Rep O (HM (l.map (·.1)) f)) (λpins s σ H Q I ⟨H0,A0,A,E,ρ,d,st,B,q⟩=>?_) hm) λσ H Q h=>jB h
 obtain⟨kd,Y,B⟩:=bind_some B;cases kd with
 | str ks=>
  cases B;obtain⟨a,ha,W⟩:=hD.heap;refine bL (U pins s σ H (λv H1=>v=.str ks/\Ext A H H1) I ⟨H0,A0,A,E,ρ,_,st,Y,λv H1 J r1=>⟨r1.str_inv,J⟩⟩) λiv s2 ⟨y,H1,F,ry,ey,J⟩=>?_
  subst ey;refine jT F hg ha ?_ N;refine wpAny_in_of (rA (k:=.inr ks) ry) (hs a ha) (W (P:=X.prog) F.kIn).mapOf ?_;refine⟨.bl _,H1,F.tok _,rfl,?_⟩;have e2:(Z4 (My.oN X.mg l) (.inr ks:Key)).isSome=(l.map (·.1)).any λk=>decide (k=ks):=by rw[My.AH,List.any_map];rfl
  have:=q (.bl _) H1 J (.bl _);rw[<- e2]at this;exact this
 | _=>cases B
def XX:V->List V->Hp->VK->Prop:=λx vs H Q=>∃(s y:Str) (i:Int),x=.str s/\vs=[.str y,.int i]/\Q (.bl (zaW s y i)) H
theorem SA:MtR X "str.startswith" XX:=by
 intro pins s σ H x vs v J Q I F B h;obtain⟨x,y,i,rfl,rfl,q⟩:=h;obtain⟨t,rfl⟩:=F;cases B with
 | cons r1 B=>cases B with
  | cons r2 B=>
   cases B;obtain⟨U,rfl⟩:=r1;obtain⟨N,rfl⟩:=r2;exact PySem.SC.startswith3 ⟨.bl _,H,I,rfl,q⟩
noncomputable def X9:List D->Option D
 | [.str s,.str y,.int i]=>some (.bl (zaW s y i))
 | _=>none
def WZ(q:Ev)(fs:Lv):Ev:=λρ=>(q ρ).bind λx=>(fs ρ).bind λds=>X9 (x::ds)
theorem SN{o e:Expr}{es:List Expr}{apos cpos:Pos}{fo:Ev}{fs:Lv}(ho:PB X O o fo)(he:mE X O (e::es) fs)(J:ZX o "startswith" X.env (eval o X.env)=eval o X.env:=by rfl)
  (U:((YO cpos (YG (e::es) X.env)).all (λx => !x.1) && (ZZ cpos (Z0 [] X.env)).all (λx => x.1.isSome)
   && decide ((e::es).length+([]:List ZO).length+(if([]:List ZO).isEmpty then 0 else 1)<30))=true:=by rfl)
  (N:(apos.endLine == cpos.line)=true:=by rfl) (hs:YG (e::es) X.env=(false,eval e X.env)::YG es X.env:=by rfl) (B:(YO cpos (YG es X.env)).any (·.1)=false:=by rfl):PD X O (.Call (.Attribute o "startswith" apos) (e::es) [] cpos) (WZ fo fs):=
 PE.mono (l8 zbj PySem.F.slot_str_startswith PySem.F.type_str_startswith SA ho he J U N hs B) <| by
  rintro σ H Q ⟨H0,A0,A,E,ρ,d,st,e,q⟩;obtain⟨x,ex,e⟩:=bind_some e;obtain⟨ds,W,e⟩:=bind_some e;refine⟨H0,A0,A,E,ρ,x,st,ex,λv H1 x1 Y=>?_⟩
  match x,ds,e,W,Y with
  | .str s,[.str y,.int i],e,W,Y=>
   cases e;cases Y.str_inv;refine⟨rfl,H0,A0,A,E,ρ,_,st.mono x1,W,λvs H2 x2 r2=>?_⟩;have r3:=r2.toL;cases r3 with
   | cons ra rs=>cases rs with
    | cons rb rt=>cases rt with
     | nil=>
      cases ra;cases rb;exact⟨s,y,i,rfl,rfl,q _ H2 (x1.trans x2) (.bl _)⟩
def WB(te:TE)(tl th:TO):TE:=λσ H Q=>te σ H λx H1=>tl σ H1 λl H2=>th σ H2 λu q=>∃(s:Str) (i j:Int),x=.str s/\l=some i/\u=some j/\s.length<=YN/\Q (.str (Txt.slice s (some i) (some j))) q
theorem CW{e:Expr}{lo hi:Option Expr}{p2 pos:Pos}{te:TE}{tl th:TO}(he:PE X e te)(Y:PO X lo tl)(hu:PO X hi th):PE X (.Subscript e (.Slice lo hi none p2) pos) (WB te tl th):=by
 intro pins s σ H Q I h;refine Subscript_ (bL (he pins s σ H _ I h) λv s1 ⟨x,H1,I1,r1,q1⟩=>?_);refine wpAny_Slice (bL (Y pins s1 σ H1 _ I1 q1) λvl U ⟨l,H2,I2,pl,q2⟩=>bL (hu pins U σ H2 _ I2 q2) λvu B ⟨u,F,I3,W,y,i,j,ex,J,N,hz,q3⟩=>?_);rw[evalPart_none];refine YL ?_;subst ex J N;obtain⟨t,rfl⟩:=r1;cases pl with
 | int _ ti=>cases W with
  | int _ tj=>
   obtain⟨T,id,hT,ht,hg⟩:=PySem.SBH.sliceItem_ss (prog:=X.prog) (w:=X.w) (A:=X.A) (E:=X.xe) (P:=λh=>∀k,Inv X pins σ F {B with heap:=h,toks:=k}) (s:=B) (x:=y) (t:=t) (Q:=EP X pins σ Q) (i:=i) (j:=j) (ui:=ti) (uj:=tj) (λh ob a k=>(a k).kept (t':=k) λb u q=>YY _ q) (λk=>I3.tok k) (λh' t' k a=>⟨.str _,F,a k,⟨_,rfl⟩,q3⟩) hz;exact tail_any (ops:=[.ref B.heap.objs.size,.str y t]) ht hT hg (by with_unfolding_all rfl)
noncomputable def LK:D->Option Int->Option Int->Option D
 | .str x,some i,some j=>if 0<=i/\i<=j/\j<=(x.length:Int)/\x.length<=1000000 then some (.str ⟨((x.cps.toList.drop i.toNat).take (j-i).toNat).toArray⟩)else none
 | _,_,_=>none
theorem CY{e:Expr}{lo hi:Option Expr}{p2 pos:Pos}{f:Ev}{a b:Ov}(W:PB X O e f)(hl:IA X O lo a)(hu:IA X O hi b):PD X O (.Subscript e (.Slice lo hi none p2) pos) (LW LK f a b):=PE.mono (CW W hl hu) <| by
 rintro σ H Q ⟨H0,A0,A,E,ρ,d,st,e,q⟩;obtain⟨x,ex,e⟩:=bind_some e;obtain⟨l,F,e⟩:=bind_some e;obtain⟨u,J,e⟩:=bind_some e
 match x,l,u,e,ex,F,J with
 | .str x,some i,some j,e,ex,F,J=>
  by_cases B:0<=i/\i<=j/\j<=(x.length:Int)/\x.length<=1000000
  case neg=>simp only[LK,if_neg B]at e;cases e
  simp only[LK,if_pos B]at e;cases e;obtain⟨h1,h2,h3,h4⟩:=B;have es:Txt.slice x (some i) (some j)=⟨((x.cps.toList.drop i.toNat).take (j-i).toNat).toArray⟩:=eq_of_beq (PyProof.Rows.slice_closesL h1 h2 h3);refine⟨H0,A0,A,E,ρ,_,st,ex,λv H1 N r1=>⟨H0,A0,A,E,ρ,_,st.mono N,F,λH2 U=>⟨H0,A0,A,E,ρ,_,(st.mono N).mono U,J,λH3 Y=>⟨x,i,j,r1.str_inv,rfl,rfl,ZF h4 (by decide),?_⟩⟩⟩⟩;rw[es];exact q _ H3 ((N.trans U).trans Y) (.str _)
open Classical in
noncomputable def xG(h:Addr->Option Out):Option Out:=if e:∃o,∀x,h x=some o then some e.choose else none
theorem EE{h:Addr->Option Out}{o:Out}(e:∀x,h x=some o):xG h=some o:=by
 have ex:∃o,∀x,h x=some o:=⟨o,e⟩;unfold xG;rw[dif_pos ex];have:=ex.choose_spec 0;rw[e 0]at this;exact this.symm
theorem BS{h:Addr->Option Out}{o:Out}(e:xG h=some o)(x:Addr):h x=some o:=by
 unfold xG at e;split at e
 ·rename_i ex
  cases e;exact ex.choose_spec x
 ·cases e
structure MkR(P:YK)(w:World)(K:YH)(mg:Str->Option Value)(base:Heap)(k:Nat)(x:Str)(C:Addr)(ps:List Str)(F:List D->Option (D×D)):Prop where
 ex:∃f fd,mg x=some (.ref C)/\Mk K C f/\Binds K fd ps []/\FnOk P w K mg base mW k f fd ps (US ps.length F)
def Q4(i:Nat)(C:Addr)(F:List D->Option (D×D))(fa:Lv)(g:Sv):Sv:=λρ=>(fa ρ).bind λds=>xG λx=>(F (.ob x C []::ds)).bind λr=>match r with
 | (.non,l)=>g (ρ.set i (some l))
 | _=>none
theorem LF{k i:Nat}{x y:Str}{C:Addr}{ps:List Str}{F:List D->Option (D×D)}{e:Expr}{es:List Expr}{rest:List Stmt}{fa:Lv}{g:Sv}{p pos pos' W:Pos}(M:MkR X.prog X.w X.K X.mg X.base k x C ps F)(hr:Room (k+1) X.A)(hg:Gl X x)(ha:mE X O (e::es) fa)(hl:∀ρ ds,fa ρ=some ds->ds.length+1=ps.length)(hN:X.N.Nodup)(hi:X.N[i]?=some y)(hx:Loc X.env.scope y)(Y:cQ X L (i::O) rest g O')(n:O.contains i=false:=by rfl)(ag:(x == ("__debug__" : Str))=false:=by decide)
  (h1:YG (e::es) X.env=(false,eval e X.env)::YG es X.env:=by rfl) (h2:(YO pos (YG es X.env)).any (·.1)=false:=by rfl) (hs:Y3 (.Call (.Name x p) (e::es) [] pos) (some (.Name y pos')) W.line X.env=pure false:=by rfl) (hf:X.fn y=true\/X.env.scope.names.lookup y=some .local:=by first|exact .inl rfl|exact .inr rfl) :
  cQ X L O (.Assign [.Name y pos'] (.Call (.Name x p) (e::es) [] pos) W::rest) (Q4 i C F fa g) O':=by
 obtain⟨f,fd,hm,mk,hb,FO⟩:=M.ex;refine PSs.mono (lP (jF hN hi hx (JS mk FO hr hg hm hb .nil BD ha ag h1 h2) hs hf) Y) λT σ H ⟨H0,A0,A,E,ρ,ai,st,e,ac⟩=>?_
 obtain⟨ds,ed,e⟩:=bind_some e;refine⟨H0,A0,A,E,ρ,ds,st,ed,λvs H1 x1 r1=>λJ dx n1 n2 ne=>?_⟩;have e':=BS e J;obtain⟨⟨d,l'⟩,eF,e'⟩:=bind_some e';cases d with
 | non=>
  have s1:=st.mono x1;have na:¬ A J:=λz=>s1.live J z n1
  have nx:upd H1 dx (.own J) J=none:=by rw[aK ne.symm];exact n1
  have e1:∀B:Av,Ext B H1 (upd (upd H1 dx (.own J)) J (.ins C dx [])):=λB=>(Ext.new n2).trans (Ext.new nx)
  have up:∀a,(A a\/a=J)->A a\/H1 a=none:=λa ha=>ha.imp id λz=>by rw[z];exact n1
  rw[zam];refine⟨λb=>A b\/b=J,J,vs,ds,.ob J C [],.non,l',rfl,by rw[r1.length];exact hl ρ ds ed,λa ha z=>?_,.inr rfl,(r1.toL.av up).ext (e1 _),.ob aM rfl .nil,eF,λv H3 x3 o3 r3=>⟨RepB.non_inv (.of r3),?_⟩⟩
  ·rcases ha with ha|rfl
   ·have h0:=s1.live a ha
    have a1:a≠J:=λq=>h0 (by rw[q];exact n1)
    have a2:a≠dx:=λq=>h0 (by rw[q];exact n2)
    rw[aK a1,aK a2]at z;exact h0 z
   ·rw[aM]at z;cases z
  ·have U:∀ {b u},H1 b=some u->b≠J:=λh z=>by rw[z,n1]at h;cases h
   have ah:Ext A H1 H3:=⟨λb u h=>x3.rd b u (hV (by rcases h with h|⟨_,h⟩ <;> exact U h) ((e1 A).rd b u h)),λb u k h=>x3.kp b u k (by rw[hide_ne (U h)];exact(e1 A).kp b u k h),λb u m h=>x3.ow b u ⟨.inl m,U h⟩ (by rw[hide_ne (U h)];exact(e1 A).ow b u m h),λb o u h=>x3.fz b o u (by rw[hide_ne (U h)];exact(e1 A).fz b o u h)⟩;exact⟨H0,A0,_,E,_,ai,s1.own_put ah n1 na o3 (y3 n),e',ac⟩
 | _=>cases e'
structure RdT(K:YH)(mg:Str->Option Value)(x q:Str)(ps:List Str)(st:Stmt)(C:Addr)(fs:List Str):Prop where
 cls:Cls K C
 na:∀a∈fs,NoAttr K C a
 ex:∃f fd,mg x=some (.ref C)/\Mk K C f/\Binds K fd ps []/\Fun K "__init__" q st f fd
end
section
variable {P:YK}{w:World}{K:YH}{mg:Str->Option Value}{base:Heap}
theorem RdT.mkr{x q:Str}{ps:List Str}{st:Stmt}{C:Addr}{fs N:List Str}{k:Nat}{f:gJ}{O':List Nat}(T:RdT K mg x q ps st C fs)(S:FnScope N ps (aF st))(hO:mem O' 0=true)
  (h:∀(W:Addr) (J:Value) (A:YM) (B:List Env) (s:YE) (H:Hp) (E:XK),Room k (A.deeper (Y2 q (aF st) s.heap.objs.size W J))->∃g,BN (eN mW P w K mg base N q (aF st) W J A B s H E).nox [0] (aX st) g O'/\g=f) :
  MkR P w K mg base (k+1) x C ps (dW N.length f):=by
 obtain⟨W,fd,hm,M,Y,F⟩:=T.ex;refine⟨W,fd,hm,M,Y,F.ok S (λvs H Q E U=>by obtain⟨A,p,us,es,l,d,l',rfl,e,_⟩:=U;exact e) λJ A B s H vs Q E hr U=>?_⟩;obtain⟨g,hg,rfl⟩:=h W J A B s H E hr;exact L1 hg hO U
end
section
variable {X:Cx}{z:Nat}
def UV(z:Nat)(g:D->D->Option D)(f:Qe)(q:Ev):Qe:=λρ=>(f ρ).bind λp=>(q (ρ.set z (some p.2))).bind λy=>(g p.1 y).map λd=>(d,p.2)
theorem N5{a b:Expr}{op:Operator}{pos:Pos}{g:D->D->Option D}{fa:Qe}{Y:Ev}(ho:iK X (ZC op) g)(ha:IE X z a fa)(hb:PB X [z] b Y):IE X z (.BinOp a op b pos) (UV z g fa Y):=
 PE.mono (HA ho ha hb) <| by
  rintro σ H Q ⟨H0,A0,A,E,ρ,p,l,d,l',st,N,J,e,q⟩;obtain⟨⟨x,l1⟩,ex,e⟩:=bind_some e;obtain⟨y,ey,e⟩:=bind_some e;obtain⟨d',ed,e⟩:=map_some e;cases e;obtain⟨a,B,o2,o3,o4⟩:=st.own z l J (List.mem_singleton.mpr rfl);rw[N]at B;cases B;refine⟨H0,A0,A,E,ρ,p,l,x,_,st,N,J,ex,λv H1 U B r1=>?_⟩;have s1:=st.pour N J U B;exact⟨H0,A0,A,E,_,y,s1,ey,λw H2 F r2=>⟨A,x,y,d,(s1.mono F).live,.of (r1.ext F),r2,ed,λz H3 W r3=>q z H3 (hJ U (Ext.trans gT ((F.trans W).mono λ_ h=>h.1))) (B.ext (F.trans W) o2) r3⟩⟩
theorem BY(i:Nat){x:Str}{a b:Expr}{op:Operator}{pos pos' q:Pos}{F:List D->Option (D×D)}{f0 B:Ev}{fs:Lv}{g:D->D->Option D}(J:IE X z a (cS z F f0 fs))(ho:iK X (ZC op) g:=by trivial)(U:PB X [z] b B:=by trivial)(W:X.N.Nodup:=by assumption)(hi:X.N[i]?=some x:=by rfl)(Y:Loc X.env.scope x:=by first|exact ZL rfl|exact Z5 rfl)(n:i≠z:=by decide)
  (hs:Y3 (.BinOp a op b q) (some (.Name x pos')) pos.line X.env=pure false:=by rfl) (hf:X.fn x=true\/X.env.scope.names.lookup x=some .local:=by first|exact .inl rfl|exact .inr rfl):PQ X z (.Assign [.Name x pos'] (.BinOp a op b q) pos) (oJ i z (UV z g (cS z F f0 fs) B)):=
 pZ (λρ p h=>by obtain⟨r,e,_⟩:=bind_some h;exact oU ρ r e) (jF W hi Y (N5 ho J U) hs hf) n
end
section
variable {X:Cx}{O O':List Nat}{L:Lp}
theorem cP(z:Nat:=0){x:Str}{k j m:Nat}{ps:List Str}{F:List D->Option (D×D)}{ep:Expr}{es:List Expr}{fs:Lv}{p pos:Pos}(F':FnR X.prog X.w X.K X.mg X.base x k ps F:=by assumption)(hr:Room j X.A:=by assumption)(N:PE X ep (d6 z):=by exact pv _)(W:mem O z=true:=by rfl)(ha:mE X O es fs:=by trivial)(Y:Len fs m:=by trivial)(U:m+1=ps.length:=by rfl)(hk:k<=j:=by trivial)(hg:Gl X x:=by rfl)(q:(x == ("__debug__" : Str))=false:=by decide)
  (J:YG (ep::es) X.env=(false,eval ep X.env)::YG es X.env:=by rfl) (B:(YO pos (YG es X.env)).any (·.1)=false:=by rfl):PR X O (.Call (.Name x p) (ep::es) [] pos) (d7 z F fs):=K5 (F'.mono hk) hr hg N W ha (λρ ds h=>by rw[Y ρ ds h];exact U) q J B
theorem WK{x:Str}{j m n:Nat}{l:List (Str×Str)}{N:List (Str×(List D->Option (D×D)))}{q ep:Expr}{es:List Expr}{U:Ev}{J:Lv}{p sp pos:Pos}(hD:My.DictAt X.w X.K X.mg x l)(hF:FamR X j n l N)(z:Nat:=0)(hr:Room j X.A:=by assumption)(hk:PB X O q U:=by trivial)(Y:PE X ep (d6 z):=by exact pv _)(hO:mem O z=true:=by rfl)(ha:mE X O es J:=by trivial)(hl:Len J m:=by trivial)(hm:m+1=n:=by rfl)(hs:DE q:=by exact λ_ _=>rfl)(hg:Gl X x:=by rfl)
  (B:(x == ("__debug__" : Str))=false:=by decide) (W:YG (ep::es) X.env=(false,eval ep X.env)::YG es X.env:=by rfl) (F:(YO pos (YG es X.env)).any (·.1)=false:=by rfl)
  (hc:eval (.Call (.Subscript (.Name x p) q sp) (ep::es) [] pos) X.env=(do callWith pos (<- eval (.Subscript (.Name x p) q sp) X.env) [] (YO pos (YG (ep::es) X.env)) (ZZ pos (Z0 [] X.env))):=by rfl) :
  PR X O (.Call (.Subscript (.Name x p) q sp) (ep::es) [] pos) (u7 z N U J):=DZ hD hF hr hg hk Y hO ha (λρ ds h=>by rw[hl ρ ds h];exact hm) hs B W F hc
theorem iF{e:Expr}{f:Ev}(h:PD X O e f:=by trivial):PR X O e (U8 f):=TL h
theorem T9{x:Str}{k j m:Nat}{ps:List Str}{F:List D->Option D}{e:Expr}{es:List Expr}{g:Rl}{p pos:Pos}(ha:RG X O (e::es) g)(U:∀ρ p,g ρ=some p->p.1.length=m)(Y:Fn X.prog X.w X.K X.mg X.base x k ps F:=by assumption)(hr:Room j X.A:=by assumption)(N:m=ps.length:=by rfl)(hk:k<=j:=by trivial)(W:Gl X x:=by rfl)(q:(x == ("__debug__" : Str))=false:=by decide)
  (J:YG (e::es) X.env=(false,eval e X.env)::YG es X.env:=by rfl) (B:(YO pos (YG es X.env)).any (·.1)=false:=by rfl):PR X O (.Call (.Name x p) (e::es) [] pos) (U1 F g):=R5 (Y.mono hk) hr W ha (λρ p h=>by rw[U ρ p h];exact N) q J B
theorem UO:∀ρ p,W3 ρ=some p->p.1.length=0:=λρ p h=>by cases h;rfl
theorem DL{f:Rv}{g:Rl}{n:Nat}(h:∀ρ p,g ρ=some p->p.1.length=n):∀ρ p,U0 f g ρ=some p->p.1.length=n+1:=λρ p e=>by
 obtain⟨x,_,e⟩:=bind_some e;obtain⟨l,q,rfl⟩:=map_some e;show(x.1::l.1).length=_;rw[Y7,h _ _ q]
theorem QM{es:List Expr}{x1}{pos:Pos}{g:Rl}{n:Nat}(h:RG X O es g)(q:∀ρ p,g ρ=some p->p.1.length=n)(B:Nat.ble n 100=true:=by rfl):PR X O (.Tuple es x1 pos) (LO g):=PV h λρ p e=>by rw[q ρ p e];exact zch B
theorem fA(i:Nat){x:Str}{e:Expr}{pos pos':Pos}{f:Rv}(q:PR X O e f)(J:X.N.Nodup:=by assumption)(hi:X.N[i]?=some x:=by rfl)(B:Loc X.env.scope x:=by first|exact ZL rfl|exact Z5 rfl)(n:O.contains i=false:=by rfl)(h:Sub O' O=true:=by rfl)
  (hs:Y3 e (some (.Name x pos')) pos.line X.env=pure false:=by rfl) (F:X.fn x=true\/X.env.scope.names.lookup x=some .local:=by first|exact .inl rfl|exact .inr rfl):gI X L O (.Assign [.Name x pos'] e pos) (tO i f) O':=DV J hi B q n h hs F
theorem gY{e:Expr}{pos:Pos}{f:Rv}(q:PR X O e f)(hs:Y3 e none pos.line X.env=pure false:=by rfl)(h:Sub O' O=true:=by rfl):gI X L O (.Expr e pos) (xJ f) O':=KP q hs h
theorem PM(i:Nat){x:Str}{e:Expr}{pos pos' q:Pos}{f:Rv}(B:PR X O e f)(F:X.N.Nodup:=by assumption)(hi:X.N[i]?=some x:=by rfl)(J:Loc X.env.scope x:=by first|exact ZL rfl|exact Z5 rfl)(n:O.contains i=false:=by rfl)(h:Sub O' (i::O)=true:=by rfl)(h1:YG [e] X.env=(false,eval e X.env)::YG [] X.env:=by rfl)
  (hs:Y3 (.List [e] q) (some (.Name x pos')) pos.line X.env=pure false:=by rfl) (U:X.fn x=true\/X.env.scope.names.lookup x=some .local:=by first|exact .inl rfl|exact .inr rfl):gI X L O (.Assign [.Name x pos'] (.List [e] q) pos) (A7 i f) O':=E6 F hi J B n h h1 hs U
theorem O0(i:Nat){o e:Expr}{apos cpos pos:Pos}{f:Rv}(B:PR X O e f)(Y:PE X o (d6 i):=by exact pv _)(N:mem O i=true:=by rfl)(U:ZX o "append" X.env (eval o X.env)=eval o X.env:=by rfl)(J:((((YO cpos (YG [e] X.env)).all λx=>!x.fst) && (ZZ cpos (Z0 [] X.env)).all λx=>x.fst.isSome) && decide (([e].length+([]:List ZO).length+if([]:List ZO).isEmpty=true then 0 else 1)<30))=true:=by rfl)(W:(apos.endLine == cpos.line)=true:=by rfl)(q:YG [e] X.env=(false,eval e X.env)::YG [] X.env:=by rfl)(a5:((YO cpos (YG [] X.env)).any λx=>x.fst)=false:=by rfl)(hs:Y3 (.Call (.Attribute o "append" apos) [e] [] cpos) none pos.line X.env=pure false:=by rfl)(h:Sub O' O=true:=by rfl):gI X L O (.Expr (.Call (.Attribute o "append" apos) [e] [] cpos) pos) (tK i f) O':=
 D8 N (l8 zcN PySem.F.slot_list_append PySem.F.type_list_append mL Y (bP B gH (hs:=q)) U J W q a5) hs h
theorem qP{C:Addr}{f:Str}{o e:Expr}{q:Ev}{pos pos':Pos}(c:Cls X.K C)(n:NoAttr X.K C f)(z:Nat:=0)(B:PD X O e q:=by trivial)(F:PE X o (d6 z):=by exact pv _)(J:mem O z=true:=by rfl)(hs:Y3 e (some (.Attribute o f pos')) pos.line X.env=pure false:=by rfl)(h:Sub O' O=true:=by rfl):gI X L O (.Assign [.Attribute o f pos'] e pos) (xF C z f q) O':=LD c n F J B hs h
theorem HC{c:Expr}{a:List Stmt}{pos:Pos}{g:Bv}{f:gJ}(ha:BN X O a f O)(q:k3 X O c g:=by trivial):PZ X O (.If c a [] pos) (RM g f UP) O:=S1 ha q
theorem dX{e:Expr}{pos:Pos}{f:Rv}(q:PR X O e f)(B:mem O 0=true:=by rfl):BN X O [.Return (some e) pos] (U3 0 f) O':=N1 (ND q B)
theorem zc(O2:List Nat){st:Stmt}{rest:List Stmt}{f:Sv}{g:gJ}(h1:gI X ⟨[],[]⟩ O st f O2)(h2:BN X O2 rest g O'):BN X O (st::rest) (iL (BJ f) g) O':=pJ (R0 h1) h2
end
end P
namespace My
open PySem PySem.Spec PyProof.Rows L2
theorem mF{prog:YK}{w:World}{A:YM}{E:Value->YE->Prop}{s:YE}{t:Addr}{items:Array Value}{x:Value}{f:Value->Bool}{j:Nat}{Q:Value->YE->Prop}(U:IsTup s.heap t items)(h1:∀y∈items.toList,zaT A.in1 s y x (f y))(hj:j<items.size)(h2:f items[j]=true)(W:∀m (N:m<items.size),m<j->f items[m]=false)(q:Q (.int j s.toks) {s with toks:=s.toks+1}):wpAny (model prog w) A (call (.builtin "tuple.index") [.ref t,x]) Q E s:=by
 refine zaC F.slot_tuple_index U.typeIs F.entry_tuple_index ?_ (F.args_tuple_index_2 _ _);show wpAny _ _ (zcA (.ref t) >>= _) _ _ s;refine YF (tupleItemsOf_ U ?_);refine YF (m:=(pure 0:Sem Nat)) (YL ?_);refine YF (m:=(pure items.size:Sem Nat)) (YL ?_);refine YF ?_;rw[Std.Legacy.Range.forIn_eq_forIn_range'];refine wpAny_forIn_list _ (λl b s'=>b=(none,())/\s'=s/\∃i,l=List.range' i (items.size-i)/\i<=j) _ ?_ ?_ _ _ ⟨rfl,rfl,0,?_,zaa _⟩
 ·rintro i rest b s' ⟨rfl,rfl,k,J,hk⟩
  have B:k<items.size:=by lia
  obtain⟨m,N⟩:∃m,items.size-k=m+1:=⟨items.size-k-1,by lia⟩;rw[N,List.range'_succ]at J;injection J with e1 e2
  subst e1;have Y:items[i]?=some items[i]:=by simp[B]
  simp only[Y];refine YF (h1 items[i] (by simp) _ _ _ _ ?_);by_cases z:i=j
  ·subst z
   rw[h2,if_pos rfl];exact YF (YF (m:=mkInt _) (wpAny_mkInt (YL (YL (YL ⟨_,rfl,q⟩)))))
  ·rw[W i B (by lia),if_neg (by decide)]
   exact YL ⟨rfl,rfl,i+1,by rw[e2];congr 1;lia,by lia⟩
 ·rintro b s' ⟨_,_,i,J,hi⟩
  exfalso;have:=congrArg zay J;simp at this
  lia
 ·simp[Std.Legacy.Range.size]
end My
namespace P
open PySem PySem.Spec PyProof.Rows L2
section
variable {X:Cx}{O:List Nat}
def UF(r:V->List V->Hp->VK->Prop)(to:TE)(t:TA):TE:=λσ H Q=>to σ H λx H1=>(∃a xs,x=.ref a/\H1 a=some (.tup xs))/\t σ H1 λxs H2=>r x xs H2 Q
theorem NZ{o e:Expr}{es:List Expr}{to:TE}{t:TA}{name:Str}{apos cpos:Pos}{id:String}{r:V->List V->Hp->VK->Prop}(U:Slot "tuple" name id)(W:typeOf (.builtin id)=pure (.type "method_descriptor"))(hm:MtR X id r)(ho:PE X o to)(ha:PA X (e::es) t)
  (J:ZX o name X.env (eval o X.env)=eval o X.env:=by rfl)
  (N:((YO cpos (YG (e::es) X.env)).all (λx => !x.1) && (ZZ cpos (Z0 [] X.env)).all (λx => x.1.isSome)
   && decide ((e::es).length+([]:List ZO).length+(if([]:List ZO).isEmpty then 0 else 1)<30))=true:=by rfl)
  (B:(apos.endLine == cpos.line)=true:=by rfl) (hs:YG (e::es) X.env=(false,eval e X.env)::YG es X.env:=by rfl) (q:(YO cpos (YG es X.env)).any (·.1)=false:=by rfl) :
  PE X (.Call (.Attribute o name apos) (e::es) [] cpos) (UF r to t):=by
 intro pins s σ H Q I h;refine wpAny_Call_method_late J N B rfl (bL (ho pins s σ H _ I h) λv s1 ⟨x,H1,I1,r1,⟨a,xs,ex,hx⟩,q1⟩=>?_);subst ex;cases r1;obtain⟨_,ag,_,ob,Y,ec,n,ed,en⟩:=(show ObjOk X.prog X.w H1 s1.heap a (.tup xs)from I1.hok a _ hx);refine⟨"tuple",id,PySem.F.plainAttrs_tuple,U,W,⟨ob,Y,ec⟩,(λb e=>by cases e;exact⟨ob,Y,en⟩),?_⟩;have hA:=ha cpos pins s1 σ H1 _ I1 q1;rw[hs]at hA ⊢;refine Calls.callWith_builtin (by show(false || (YO cpos (YG es X.env)).any (·.1))=false;rw[q] <;> rfl) (Calls.evalArgs_plain ?_);exact bL hA λus s2 ⟨vs,H2,I2,r2,q2⟩=>hm pins s2 σ H2 (V.ref a) vs (.ref a) us Q I2 rfl r2 q2
open Classical in
def lX(d x:D):Option D:=match d with
 | .tup l=>if fG x=true/\l.all fG=true then(l.findIdx? λy=>decide (y=x)).map λ(j:Nat)=>.int (j:Int)else none
 | _=>none
open Classical in
theorem CM(hu:X.A.units+64<cLine):MtR X "tuple.index" (λv vs H Q=>∃A d x y d',vs=[y]/\Live A H/\RepB A H d v/\RepB A H x y/\lX d x=some d'/\∀v H',Ext A H H'->Rep A H' d' v->Q v H'):=by
 intro pins s σ H v vs u us Q I rv ru h;obtain⟨A,d,x,y,d',rfl,lv,rd,rx,e,q⟩:=h;obtain⟨w,rfl,aa⟩:=ru.one;cases d with
 | tup l=>
  simp only[lX]at e;split at e
  case isFalse=>cases e
  rename_i hc;obtain⟨j,ej,rfl⟩:=map_some e;obtain⟨a,xs,rfl,h1,r1⟩:=rd.tup_inv;cases rv;obtain⟨B,r,ht,hz⟩:=I.tuple (.inl (.inl h1));obtain⟨f,f1,f2⟩:=KR (Ar:=X.A.in1) I (by show X.A.units+1+60<cLine;lia) hc.1 rx aa hc.2 r1 r;obtain⟨hj,N,Y⟩:=List.findIdx?_eq_some_iff_getElem.mp ej;have F:j<B.length:=by rw[<- r.length,r1.length];exact hj
  refine My.mF (f:=f) (j:=j) ht (λy hy=>f1 y (by simpa using hy)) (by simpa using F) ?_ ?_ ⟨.int j,H,I.tok _,⟨_,rfl⟩,q _ H (Ext.refl _ _) (.int _)⟩
  ·rw[f2 j _ _ (zap hj) (by simp[F])]
   exact N
  ·intro m hm J
   have W:m<l.length:=by lia
   have U:m<B.length:=by simpa using hm
   rw[f2 m _ _ (zap W) (by simp[U])];have:=Y m J;simpa using this
 | _=>exact nn e
theorem CD{o e:Expr}{apos cpos:Pos}{f g:Ev}(hu:X.A.units+64<cLine)(ho:PB X O o f)(W:PB X O e g)
  (N:∀ {r:V->List V->Hp->VK->Prop} {to:TE} {t:TA},MtR X "tuple.index" r->PE X o to->PA X [e] t->PE X (.Call (.Attribute o "index" apos) [e] [] cpos) (UF r to t)) (hs:YG [e] X.env=(false,eval e X.env)::YG [] X.env:=by rfl) :
  PD X O (.Call (.Attribute o "index" apos) [e] [] cpos) (aR lX f g):=PE.mono (N (CM hu) ho (bP W gH hs)) λσ H Q ⟨H0,A0,A,E,ρ,d,st,e,q⟩=>by
 obtain⟨x,ex,e⟩:=bind_some e;obtain⟨y,ey,e⟩:=bind_some e;refine⟨H0,A0,A,E,ρ,x,st,ex,λv H1 B J=>⟨?_,H0,A0,A,E,ρ,y,st.mono B,ey,λw H2 F r2=>⟨A,x,y,w,d,rfl,(st.mono (B.trans F)).live,J.ext F,r2,e,λv Y U r3=>q v Y ((B.trans F).trans U) r3⟩⟩⟩;cases x with
 | tup l=>obtain⟨a,xs,rfl,h1,_⟩:=J.tup_inv;exact⟨a,xs,rfl,h1⟩
 | _=>exact nn e
end
end P
namespace My
open PySem PySem.Spec PyProof.Rows L2
theorem S0{l:zcG}{q:YK}{B:List Str}{Y:(Str->Option Value)->Heap->Prop}{N:World->Heap->Prop}{d:DefRec}{K:Params->YH}{k:Nat}(hk:k<=150)(hn:l.most=some 63)(J:d.params.defaults=[])
  (hY:∀(w:World) (h:Heap),N w h->(K w.params).In h)
  (F:∀(w:World) (mg:Str -> Option Value) (fa:Addr) (h:Heap), (K w.params).In h -> h.Ns YU mg -> mg d.name = some (.ref fa) ->
   ∃fd:ZY,(∀(s:YE) (u:Value),BindsTo s fd ⟨[u],[]⟩ [("script",u)])/\∀base:Heap,(K w.params).In base->base.Ns YU mg->FnOk l.prog w (K w.params) mg base mW k fa fd ["script"] (xD (K w.params))) :
  PySem.W.WalkO q B Y N l.row.toRowW d [] (λf vs=>PySem.call f vs):=
 L2.IS (n:=63) (k:=k) (x := "script") (CX:=λ_=>mW) (sp:=λw=>xD (K w.params)) hn (by decide) J (Room.mono (k:=150) ⟨rfl,by decide,by decide⟩ hk) hY F (λ_ _ a ns hl _ U=>⟨a,ns,rfl,U,hl,λ_=>rfl⟩) λ_ _ _ _ _ z=>z
end My
namespace P
open PySem PySem.Spec PyProof.Rows L2 My
def Fas(K:YH)(C:Addr)(fs:List Str):Prop:=∀a∈fs,NoAttr K C a
theorem Fas.nil{K:YH}{C:Addr}:Fas K C []:=λ_ h=>nomatch h
theorem Fas.cons{K:YH}{C:Addr}{x:Str}{fs:List Str}(a:zak K (.ref C) x=some none)(r:Fas K C fs):Fas K C (x::fs):=zbC.2 ⟨a,r⟩
structure ObQ(K:YH)(x q:Str)(st:Stmt)(C:Addr)(fs:List Str):Prop where
 cls:Cls K C
 na:Fas K C fs
 ex:∃f fd,Y6 K YU x=some (some (.ref C))/\Mk K C f/\Fun K "__init__" q st f fd
theorem X1{K:YH}{x q:Str}{st:Stmt}{C f:Addr}{fs:List Str}{oc:Value}{od an:Option Addr}{J:Array (Option Value)}{kV F pm B ct:Value}(a:Y6 K YU x=some (some (.ref C)))(m1:zcs K C=true)(m2:zak K (.ref C) "__init__" = some (some (.ref f)))(N:PySem.W.isFn K (.ref f)=true)(m4:zaw K (.ref C)=true)(Y:zbM K C Str.empty=true)(m6:zbN K C=true)(m7:zcq K C=true)(U:zak K (.ref C) "__setattr__" = some (some (.builtin "object.__setattr__")))
  (l:K.lookup f=some ⟨oc,od,.func (Z2 "__init__" q (cU st) (aX st) (aF st) .none kV F pm an B ct),J⟩) (c:za6 K B q=true) (k:zaw K (.ref f)=true) (n:Fas K C fs):ObQ K x q st C fs:=⟨⟨Y,m6,m7,U⟩,n,f,_,a,⟨m1,m2,N,m4⟩,yV l c k⟩
theorem ObQ.r{K:YH}{h:Heap}{mg:Str->Option Value}{x q:Str}{ps:List Str}{st:Stmt}{C:Addr}{fs:List Str}(Q:ObQ K x q st C fs)(X:K.In h)(G:h.Ns YU mg)(b:∀(kV doc pm:Value) (an:Option Addr) (cdv ct:Value) (us:List Value),us.length=ps.length->bindArgs (Z2 "__init__" q (cU st) (aX st) (aF st) .none kV doc pm an cdv ct) ⟨us,[]⟩=pure (ps.zip us)):RdT K mg x q ps st C fs:=by
 obtain⟨f,fd,a,m,F⟩:=Q.ex;exact⟨Q.cls,Q.na,f,fd,Y9 X G a,m,F.binds b,F⟩
end P
namespace Law
open PySem PySem.Spec PyProof.Rows L2 P
local macro_rules | `(tactic|contradiction) => `(tactic|with_reducible first|apply TR|apply aJ|apply OS|apply aC|apply aA|apply aD|apply zD|apply cM|apply dE|apply G6|apply G7|apply PU|apply aN|apply S3|apply aI|apply P2|apply cV|apply pF|apply mN|apply K7|apply L4|apply AQ|apply y6|apply G9|apply e9|apply dY|apply l9|apply y8|apply NH|apply oE|apply gF|apply xC|apply dP|apply NB|apply JM|apply KC|apply LA|apply KQ|apply l6|apply qV|apply cL|apply bS|apply mS)
local macro_rules | `(tactic|ac_rfl) => `(tactic|first
 | (with_reducible first|exact WG|exact NR|exact NY|exact rfl|assumption)
 | ((with_reducible apply NA);exact rfl)
 | ((with_reducible show Q7 _ _ _=_);(first|((with_reducible apply mS);(with_reducible first|exact rfl|(apply decide_eq_true;assumption)))|((with_reducible apply kU);(with_reducible first|exact rfl|(apply decide_eq_false;assumption)))|((with_reducible apply mS);ac_rfl)|((with_reducible apply kU);ac_rfl));ac_rfl)
 | ((with_reducible show List.set _ _ _=_);dsimp only[List.set])
 | ((fail_if_success contradiction);first|((with_reducible first|apply bF|apply dG|apply q_eqI|apply tM|apply uX|apply JC|apply mP|apply decide_eq_true|apply decide_eq_false) <;> ac_rfl)|((with_reducible show dF _ _ _ _ _=_);assumption)|exact rfl|exact zch rfl|decide|lia)
 | (contradiction <;> ac_rfl))
local macro_rules | `(tactic|simp_all[$xs,*]) => `(tactic|simp[-YI, -YJ, aB, aG, $xs,*])
abbrev CR:Addr:=282
noncomputable def top(i:Nat):Stmt:=PySem.Challenge.pw_chiefway_k82_a_programs_text.main.body.getD i (.Pass ⟨0,0,0,0⟩)
abbrev s_law:Stmt:=top 89
abbrev tb(x:Str)(i:Nat)(ps:List Str):=(x,i,ps)
def tab:List (Str×Nat×List Str):=[tb "_law_wheel" 74 ["cell"],tb "_law_names" 76 ["cell", "more", "many"],tb "_law_mixed" 73 ["script", "k"],tb "_law_volume" 78 ["script"],tb "_law_heads" 79 ["script", "pool", "many"],tb "_law_next" 80 ["script", "state"],tb "_law_leaf" 81 ["script", "state", "volume", "known"],tb "_law_fresh" 82 ["pool", "known", "at"],tb "_law_grown" 85 ["script", "state", "volume", "known", "size", "deep", "rounds"],tb "_law_bound" 83 ["script", "state", "volume", "known", "size", "deep", "rounds", "cell"],tb "_law_picked" 84 ["script", "state", "volume", "known", "size", "deep", "rounds", "cell"],tb "show_part" 62 ["kinds", "part"],tb "show_parts" 63 ["kinds", "parts"],tb "show_name" 64 ["kinds", "part"],tb "show_number" 65 ["kinds", "part"],tb "show_use" 66 ["kinds", "part"],tb "show_let" 67 ["kinds", "part"],tb "show_pick" 68 ["kinds", "part"],tb "show_again" 69 ["kinds", "part"],tb "show_program" 61 ["book", "program"],tb "_law_said" 86 ["kinds", "part"],tb "_law_whole" 75 ["found"],tb "_law_alike" 77 ["found", "due"],tb "_law_first_row" 87 ["kinds", "heads"],tb "kind_of_word" 43 ["kinds", "word"],tb "heads_of_row" 45 ["kinds", "row"],tb "read_word" 50 ["reader", "signs"],tb "sees" 48 ["reader", "signs"],tb "number_of_word" 42 ["word"],tb "read_number" 52 ["reader"],tb "skip" 49 ["reader", "signs"],tb "read_kind" 51 ["reader"],tb "read_part" 53 ["reader", "depth"],tb "read_bracket" 54 ["reader", "depth"],tb "read_many" 55 ["reader", "depth", "many"],tb "read_let" 56 ["reader", "depth"],tb "read_pick" 57 ["reader", "depth"],tb "read_again" 58 ["reader", "depth"],tb "body_of_row" 47 ["kinds", "row"],tb "is_kind" 24 ["book", "k"],tb "is_name" 11 ["text"],tb "check_heads" 25 ["book", "heads"],tb "inner" 18 ["part"],tb "too_round" 27 ["part", "rounds"],tb "parts_in" 19 ["part"],tb "lets_in" 20 ["part"],tb "depth_of" 21 ["part"],tb "check_size" 26 ["body"],tb "name_within" 22 ["part", "number"],tb "check_kind" 31 ["book", "k"],tb "check_new_name" 34 ["known", "x"],tb "check_part" 28 ["book", "known", "part"],tb "check_name" 29 ["book", "known", "part"],tb "check_number" 30 ["book", "known", "part"],tb "check_use" 32 ["book", "known", "part"],tb "check_let" 33 ["book", "known", "part"],tb "check_pick" 35 ["book", "known", "part"],tb "check_again" 36 ["book", "known", "part"],tb "program" 23 ["book", "heads", "body"],tb "program_of_text" 44 ["known_book", "text"],tb "read_program" 71 ["book", "text"],tb "_law_read" 88 ["volume", "signs"]]
noncomputable def blt:List Str:=["all", "any", "bool", "enumerate", "int", "isinstance", "len", "max", "min", "range", "str", "sum", "tuple"]
noncomputable def W2:List (Str×Int):=[("MOST_DEPTH",24),("MOST_FIGURES",60),("MOST_HEADS",6),("MOST_LETS",2),("MOST_PARTS",60),("MOST_ROUNDS",9)]
theorem sc_law:FnScope ["script", "volume", "pool", "heads", "size", "known", "body", "due", "found"] ["script"] (aF s_law):=⟨rfl,rfl,rfl,by decide +kernel,rfl,by decide +kernel,by decide +kernel⟩
structure Txt(w:World)(K:YH)(mg:Str->Option Value):Prop where
 d:∀p∈tab,My.DefAt K mg p.1 (top p.2.1) p.2.2
 b:∀x∈blt,mg x=none
 g:∀p∈W2,GInt mg p.1 p.2
 g_WORDS:GTup K mg "WORDS" ["let", "in", "pick", "again"]
 s_FIGURES:GStr mg "FIGURES" "0123456789"
 s_LETTERS:GStr mg "LETTERS" "abcdefghijklmnopqrstuvwxyz"
 k_CHECKS:My.DictAt w K mg "CHECKS" [("name", "check_name"),("number", "check_number"),("use", "check_use"),("let", "check_let"),("pick", "check_pick"),("again", "check_again")]
 k_PHRASES:My.DictAt w K mg "PHRASES" [("let", "read_let"),("pick", "read_pick"),("again", "read_again")]
 k_SHOWN:My.DictAt w K mg "SHOWN" [("name", "show_name"),("number", "show_number"),("use", "show_use"),("let", "show_let"),("pick", "show_pick"),("again", "show_again")]
 o_Reader:RdT K mg "Reader" "Reader.__init__" ["self", "kinds", "text"] (inClass (top 46) 0) CR ["kinds", "text", "at"]
 n_PHRASES:∀a,mg "PHRASES" = some (.ref a)->(a == zas)=false
theorem Txt.n{w:World}{K:YH}{mg:Str->Option Value}(T:Txt w K mg){x:Str}(h:x∈blt:=by decide +kernel):mg x=none:=T.b x h
abbrev Tx(P:YK)(w:World)(K:YH)(mg:Str->Option Value)(base:Heap):Prop:=Txt w K mg
abbrev Zt(x:Str)(ps:List Str)(k n:Nat):Type:={b:Sv // ∀ {P:YK} {w:World} {K:YH} {mg:Str->Option Value} {base:Heap},Tx P w K mg base->Fn P w K mg base x k ps (bC n b)}
def oT(N:List Str)(i:Nat){x:Str}{ps:List Str}{k:Nat}{b:Sv}(h:∀ {P:YK} {w:World} {K:YH} {mg:Str->Option Value} {base:Heap} {F:Addr} {B:Value} {A:YM} {q:List Env} {H:Hp} {E:XK} (T:Tx P w K mg base) (s:YE) (nd:N.Nodup) (J:Room k (A.deeper (Y2 x (aF (top i)) s.heap.objs.size F B))) (hu:(A.deeper (Y2 x (aF (top i)) s.heap.objs.size F B)).units+1<cLine),∃g,cQ (eN mW P w K mg base N x (aF (top i)) F B A q s H E).nox ⟨[],[]⟩ [] (aX (top i)) g []/\g=b)(m:(x,i,ps)∈tab:=by decide +kernel)(sc:FnScope N ps (aF (top i)):=by exact⟨rfl,rfl,rfl,by decide +kernel,rfl,by decide +kernel,by decide +kernel⟩):Zt x ps (k+1) N.length:=⟨b,λT=>w9 (T.d _ m) sc λF B A q s H E J=>h T s sc.nd J (jL J)⟩
abbrev Zr(x:Str)(ps:List Str)(k n m:Nat):Type:={b:(List D->Option D)->Sv // ∀ {P:YK} {w:World} {K:YH} {mg:Str->Option Value} {base:Heap},Tx P w K mg base->Fn P w K mg base x (k+m+1) ps (b9 n b m)}
def rM(N:List Str)(i:Nat){x:Str}{ps:List Str}{k m:Nat}{b:(List D->Option D)->Sv}(h:∀ {P:YK} {w:World} {K:YH} {mg:Str->Option Value} {base:Heap} {fa:Addr} {cdv:Value} {A:YM} {outer:List Env} {H:Hp} {E:XK} (T:Tx P w K mg base) (R:List D->Option D) (j:Nat) (hj:k<=j) (ih:Fn P w K mg base x j ps R) (s:YE) (nd:N.Nodup) (hr:Room j (A.deeper (Y2 x (aF (top i)) s.heap.objs.size fa cdv))) (hu:(A.deeper (Y2 x (aF (top i)) s.heap.objs.size fa cdv)).units+1<cLine),∃g,cQ (eN mW P w K mg base N x (aF (top i)) fa cdv A outer s H E).nox ⟨[],[]⟩ [] (aX (top i)) g []/\g=b R)(me:(x,i,ps)∈tab:=by decide +kernel)(sc:FnScope N ps (aF (top i)):=by exact⟨rfl,rfl,rfl,by decide +kernel,rfl,by decide +kernel,by decide +kernel⟩):Zr x ps k N.length m:=⟨b,λT=>by
 induction m with
 | zero=>exact uB (T.d _ me) sc
 | succ m ih=>exact w9 (T.d _ me) sc λfa cdv A outer s H E hr=>h T _ (k+m+1) (by lia) ih s sc.nd hr (jL hr)⟩
local macro_rules | `(tactic|exists $x:ident) => `(tactic|(refine' (?f:∀y:(List D -> Option D) -> Sv, zaI $x = y -> (List D -> Option D) -> Sv) _ ?h;(case h => unfold $x;(try unfold rM);(try dsimp only);try exact rfl);(case f => exact λy _ => y)))
local macro_rules | `(tactic|exists $x:ident) => `(tactic|(refine' (?f:∀y:Sv, zaI $x = y -> Sv) _ ?h;(case h => unfold $x;(try unfold oT);(try dsimp only);try exact rfl);(case f => exact λy _ => y)))
theorem VW{X:Cx}{O:List Nat}{p:Pos}(T:Txt X.w X.K X.mg)(q:Gl X "MOST_DEPTH"):PD X O (.Name "MOST_DEPTH" p) (eC (.int 24)):=jQ (T.g ("MOST_DEPTH",24) (by decide +kernel)) q
theorem VQ{X:Cx}{O:List Nat}{p:Pos}(T:Txt X.w X.K X.mg)(q:Gl X "MOST_FIGURES"):PD X O (.Name "MOST_FIGURES" p) (eC (.int 60)):=jQ (T.g ("MOST_FIGURES",60) (by decide +kernel)) q
theorem V5{X:Cx}{O:List Nat}{p:Pos}(T:Txt X.w X.K X.mg)(q:Gl X "MOST_HEADS"):PD X O (.Name "MOST_HEADS" p) (eC (.int 6)):=jQ (T.g ("MOST_HEADS",6) (by decide +kernel)) q
theorem V8{X:Cx}{O:List Nat}{p:Pos}(T:Txt X.w X.K X.mg)(q:Gl X "MOST_LETS"):PD X O (.Name "MOST_LETS" p) (eC (.int 2)):=jQ (T.g ("MOST_LETS",2) (by decide +kernel)) q
theorem WS{X:Cx}{O:List Nat}{p:Pos}(T:Txt X.w X.K X.mg)(q:Gl X "MOST_PARTS"):PD X O (.Name "MOST_PARTS" p) (eC (.int 60)):=jQ (T.g ("MOST_PARTS",60) (by decide +kernel)) q
theorem WW{X:Cx}{O:List Nat}{p:Pos}(T:Txt X.w X.K X.mg)(q:Gl X "MOST_ROUNDS"):PD X O (.Name "MOST_ROUNDS" p) (eC (.int 9)):=jQ (T.g ("MOST_ROUNDS",9) (by decide +kernel)) q
theorem VE{X:Cx}{O:List Nat}{p:Pos}(T:Txt X.w X.K X.mg)(q:Gl X "FIGURES"):PD X O (.Name "FIGURES" p) (eC (.str "0123456789")):=AV T.s_FIGURES q
theorem WA{X:Cx}{O:List Nat}{p:Pos}(T:Txt X.w X.K X.mg)(q:Gl X "LETTERS"):PD X O (.Name "LETTERS" p) (eC (.str "abcdefghijklmnopqrstuvwxyz")):=AV T.s_LETTERS q
theorem gt_0{X:Cx}{O:List Nat}{e:Expr}{f:Ev}{p pos:Pos}(T:Txt X.w X.K X.mg)(B:Gl X "WORDS")(q:PB X O e f):k3 X O (.Compare e [.In] [.Name "WORDS" p] pos) (c9 (A8 (LR false ["let", "in", "pick", "again"]) f)):=JH T.g_WORDS B q
local macro_rules | `(tactic|trivial) => `(tactic|first
 | exact rfl
 | assumption
 | (show PD _ _ _ _;first|(apply vD <;> trivial)|(apply wE <;> trivial)|((first|apply FU|apply bE|apply YC|apply X4|apply VC|apply wt|apply S5|apply OV|apply NN|apply VN|apply SU|apply WD|apply TJ|apply TU|apply VW|apply VQ|apply V5|apply V8|apply WS|apply WW|apply SR|apply OM|apply IP|apply S8|apply VE|apply WA|apply V7|apply X5|apply M8|apply N9|apply S6|apply O6|apply SW|apply DX|apply X0|apply PF.d) <;> trivial))
 | (show PB _ _ _ _;first|(apply vB <;> trivial)|(apply PD.b <;> trivial))
 | (show mE _ _ _ _;((first|apply oW|apply xS) <;> trivial))
 | (show vF _ _ _ _;((first|apply t8|apply RE) <;> trivial))
 | (show Len _ _;((first|apply l0|apply lc) <;> trivial))
 | (show iK _ _ _;((first|apply bH|apply qY|apply OW|apply GY|apply RS|apply TC|apply PJ|apply NQ|apply M9|apply XY|apply XS|apply XW|apply xGt) <;> trivial))
 | (show At _ _ _;first|exact at_ 0|exact at_ 1|exact at_ 2|exact at_ 3|exact at_ 4|exact at_ 5|exact at_ 6|exact at_ 7|exact at_ 8|exact at_ 9|exact at_ 10|exact at_ 11|exact at_ 12)
 | (show k3 _ _ _ _;first|((first|apply gt_0|apply VO|apply VB|apply tc|apply BV|apply AC) <;> trivial)|(apply PDW.pt <;> trivial)|(apply AM <;> trivial))
 | (show PDW _ _ _ _;((first|apply zQ|apply zB|apply ER|apply IW) <;> trivial))
 | (show IA _ _ _ _;((first|apply FG|apply D5) <;> trivial))
 | (show PDI _ _ _ _ _;((first|apply xU|apply xT|apply EL|apply D7) <;> trivial))
 | (show BL _ _ _ _;first|(apply gV <;> trivial)|(apply gu 2 <;> trivial))
 | (show zM _ _ _ _;((first|apply EX|apply gc) <;> trivial))
 | (show My.ID _ _ _;(apply wU <;> trivial))
 | (show PF _ _ _ _;((first|apply wl|apply XO) <;> trivial))
 | rfl
 | exact Txt.n (by assumption)
 | exact .inl rfl
 | exact .inr rfl
 | exact .inr (.inl rfl)
 | exact .inr (.inr rfl)
 | exact λ_=>rfl
 | exact λ_ _=>rfl
 | (with_unfolding_all rfl)
 | (constructor <;> rfl)
 | exact YS _
 | (refine ZF ?_ (by assumption);decide))
seal PD PB PF mE vF k3 PDW PDI IA gI cQ Fn iK YR ZC
def nI:Zt "_law_wheel" ["cell"] 1 1:=oT ["cell"] 74 λT s nd B q=>by exact⟨_,(c0 (cH (aV (bE bH (by trivial) (PD.b (bE bW (by trivial) (by trivial)))))) (aV (bE bH (by trivial) (PD.b (bE bW (by trivial) (PD.b (bE qY (by trivial) (PD.b (bE GY (PD.b (bE bW (by trivial) (by trivial))) (by trivial)))))))))),rfl⟩
def i7:Sv:=by exists nI
def nR:=bC 1 i7
def iY:Zt "_law_names" ["cell", "more", "many"] 1 12:=oT ["cell", "more", "many", "letters", "size", "spot", "stride", "some", "k", "word", "p", "number"] 76 λT s nd B q=>by exact⟨_,(c0 (bA 3) (c0 (bA 4) (c0 (bA 5) (c0 (bA 6) (cO [7] (u5 7) (c0 (l7 [7] [] (cO [7] (bA 9) (cO [7] (l7 [7] [7] (cO [7] (bA 11 (bE bH (PD.b (bE bH (PD.b (bE bW (by trivial) (PD.b (bE bH (PD.b (bE bW (by trivial) (by trivial))) (by trivial))))) (PD.b (bE bW (by trivial) (by trivial))))) (PD.b (bE bW (PD.b (bE bW (by trivial) (by trivial))) (by trivial))))) (cO [7] (cH (aW (bA 11 (bE bH (by trivial) (PD.b (bE bW (by trivial) (by trivial))))))) (aW (bA 9))))) (cO [7] (cH (aW (bA 9))) (aW (G5 7)))))) aV)))))),rfl⟩
def nY:Sv:=by exists iY
def fO:=bC 12 nY
def dR:Zt "_law_mixed" ["script", "k"] 1 3:=oT ["script", "k", "number"] 73 λT s nd B q=>by exact⟨_,(c0 (cH aV) (c0 (bA 2 (bE bH (PD.b (bE bW (PD.b (bE bW (by trivial) (by trivial))) (by trivial))) (by trivial))) (c0 (cH (aW (bA 2 (bE bH (by trivial) (PD.b (bE bW (PD.b (bE qY (PD.b (z6 q (by trivial) (PD.b (bE qY (PD.b (bE bW (by trivial) (by trivial))) (by trivial))) (λ_ _=>rfl))) (by trivial))) (by trivial))))))) (aV (bE qY (PD.b (bE bW (by trivial) (by trivial))) (by trivial)))))),rfl⟩
def fL:Sv:=by exists dR
def b6:=bC 3 fL
def k8:Zt "_law_volume" ["script"] 2 7:=oT ["script", "M", "many", "last", "kinds", "deeds", "makes"] 78 λT s nd B q=>by have:=fx b6 (dR.2 T);have:=fx fO (iY.2 T);have:=fx nR (nI.2 T);exact⟨_,(c0 (bA 1) (c0 (bA 2) (c0 (bA 3) (c0 (bA 4) (c0 (bA 5) (c0 (bA 6) (c0 (bA 6) aV))))))),rfl⟩
def lD:Sv:=by exists k8
def lH:=bC 7 lD
def mY:Zt "_law_heads" ["script", "pool", "many"] 2 6:=oT ["script", "pool", "many", "cell", "heads", "k"] 79 λT s nd B q=>by have:=fx b6 (dR.2 T);exact⟨_,(c0 (bA 3) (cO [4] (u5 4) (c0 (l7 [4] [] (cO [4] (bA 3) (aW (G5 4)))) aV))),rfl⟩
def iX:Sv:=by exists mY
def nZ:=bC 6 iX
def mZ:Zt "_law_fresh" ["pool", "known", "at"] 1 4:=oT ["pool", "known", "at", "k"] 82 λT s nd B q=>by exact⟨_,(c0 (bA 3) (c0 (HE [] [] (aW (bA 3))) aV)),rfl⟩
def i8:Sv:=by exists mZ
def nM:=bC 4 i8
abbrev Fq:=List D->Option (D×D)
abbrev RJ:List Str:=["script", "state", "volume", "known", "size", "deep", "rounds"]
def QP(N:List Str)(i:Nat){x:Str}{ps:List Str}{k:Nat}{b:Qv}(h:∀ {P:YK} {w:World} {K:YH} {mg:Str->Option Value} {base:Heap} {F:Addr} {B:Value} {A:YM} {q:List Env} {H:Hp} {E:XK} (T:Tx P w K mg base) (s:YE) (nd:N.Nodup) (J:Room (k) (A.deeper (Y2 x (aF (top i)) s.heap.objs.size F B))) (hu:(A.deeper (Y2 x (aF (top i)) s.heap.objs.size F B)).units+1<cLine),∃g,IB (eN mW P w K mg base N x (aF (top i)) F B A q s H E).nox 1 (aX (top i)) g/\g=b)(m:(x,i,ps)∈tab:=by decide +kernel)(sc:FnScope N ps (aF (top i)):=by exact⟨rfl,rfl,rfl,by decide +kernel,rfl,by decide +kernel,by decide +kernel⟩):{b:Qv // ∀ {P:YK} {w:World} {K:YH} {mg:Str->Option Value} {base:Heap},Tx P w K mg base->FnQ P w K mg base x (k+1) ps (kY N.length b)}:=⟨b,λT=>GE (T.d _ m) sc λF B A q s H E J=>h T s sc.nd J (jL J)⟩
def U9(N:List Str)(i o:Nat){x:Str}{ps:List Str}{k:Nat}{b:Fq->Qv}(h:∀ {P:YK} {w:World} {K:YH} {mg:Str->Option Value} {base:Heap} {F:Addr} {B:Value} {A:YM} {q:List Env} {H:Hp} {E:XK} (T:Tx P w K mg base) (G:Fq) (j:Nat) (U:k<=j) (ih:FnQ P w K mg base "_law_grown" j RJ G) (s:YE) (nd:N.Nodup) (J:Room (j+o) (A.deeper (Y2 x (aF (top i)) s.heap.objs.size F B))) (hu:(A.deeper (Y2 x (aF (top i)) s.heap.objs.size F B)).units+1<cLine),∃g,IB (eN mW P w K mg base N x (aF (top i)) F B A q s H E).nox 1 (aX (top i)) g/\g=b G)(m:(x,i,ps)∈tab:=by decide +kernel)(sc:FnScope N ps (aF (top i)):=by exact⟨rfl,rfl,rfl,by decide +kernel,rfl,by decide +kernel,by decide +kernel⟩):{b:Fq->Qv // ∀ {P:YK} {w:World} {K:YH} {mg:Str->Option Value} {base:Heap},Tx P w K mg base->∀(G:Fq) (j:Nat),k<=j->FnQ P w K mg base "_law_grown" j RJ G->FnQ P w K mg base x (j+o+1) ps (kY N.length (b G))}:=⟨b,λT G j U ih=>GE (T.d _ m) sc λF B A q s H E J=>h T G j U ih s sc.nd J (jL J)⟩
local macro_rules | `(tactic|exists $x:ident) => `(tactic|(refine' (?f:∀y:Qv, zaI $x = y -> Qv) _ ?h;(case h => unfold $x;(try unfold QP);(try dsimp only);try exact rfl);(case f => exact λy _ => y)))
local macro_rules | `(tactic|exists $x:ident) => `(tactic|(refine' (?f:∀y:Fq -> Qv, zaI $x = y -> Fq -> Qv) _ ?h;(case h => unfold $x;(try unfold U9);(try dsimp only);try exact rfl);(case f => exact λy _ => y)))
def kK:=QP (x := "_law_next") (ps:=["script", "state"]) (k:=1) ["script", "state"] 80 λT s nd B q=>by have:=fx b6 (dR.2 T);exact⟨_,(aZ GJ (dZ jI)),rfl⟩
def p7:Qv:=by exists kK
def eW:Fq:=kY 2 p7
def pV:=QP (x := "_law_leaf") (ps:=["script", "state", "volume", "known"]) (k:=2) ["script", "state", "volume", "known", "cell", "n"] 81 λT s nd B q=>by have:FnQ _ _ _ _ _ "_law_next" 2 ["script", "state"] eW:=kK.2 T;exact⟨_,(aZ (eJ 4 kZ)
 (aZ (rF (dZ jI))
 (aZ (BY 5 kZ)
 (dZ jI)))),rfl⟩
def kP:Qv:=by exists pV
def kN:Fq:=kY 6 kP
def oB:=U9 (x := "_law_bound") (ps:=["script", "state", "volume", "known", "size", "deep", "rounds", "cell"]) (k:=3) ["script", "state", "volume", "known", "size", "deep", "rounds", "cell", "first", "name", "one", "two", "kind"] 83 0 λT G j q ih s nd F B=>by have:=fx nM (mZ.2 T);exact⟨_,(aZ (gD 8)
 (aZ (gD 9)
 (aZ (rF (aZ GJ
 (aZ (eJ 10 kZ)
 (aZ (eJ 11 kZ)
 (dZ jI)))))
 (aZ (gD 12)
 (aZ (eJ 10 kZ)
 (aZ (eJ 11 kZ)
 (dZ jI))))))),rfl⟩
def fK:Fq->Qv:=by exists oB
theorem XR:∀j:Nat,([none,some 0,some 1,some 2,some 3,some 5,some 6]:List (Option Nat))[j]?=some (some 1)->j=2
 | 0,h=>by cases h
 | 1,h=>by cases h
 | 2,_=>rfl
 | 3,h=>by cases h
 | 4,h=>by cases h
 | 5,h=>by cases h
 | 6,h=>by cases h
 | _+7,h=>by cases h
def lB:=U9 (x := "_law_picked") (ps:=["script", "state", "volume", "known", "size", "deep", "rounds", "cell"]) (k:=3) ["script", "state", "volume", "known", "size", "deep", "rounds", "cell", "first", "second", "sizes", "sides", "many"] 84 0 λT G j q ih s nd F B=>by exact⟨_,(aZ (gD 8)
 (aZ (gD 9)
 (aZ (gD 10)
 (aZ (IY 11 s ["one", "script", "state", "volume", "known", "deep", "rounds"] [none,some 0,some 1,some 2,some 3,some 5,some 6] 2 (λ_ _ _ _=>kZ) (λ_ _ _ _ _=>gz 0) rfl (λj h=>XR j h))
 (aZ (gD 12)
 (dZ jI)))))),rfl⟩
def g7:Fq->Qv:=by exists lB
def nF:=U9 (x := "_law_grown") (ps:=RJ) (k:=3) ["script", "state", "volume", "known", "size", "deep", "rounds", "cell", "way", "rest", "one", "first", "two"] 85 1 λT G j q ih s nd N J=>by have B:3<=j+1:=Nat.le_succ_of_le q;have ib:FnQ _ _ _ _ _ "_law_bound" (j+1) ["script", "state", "volume", "known", "size", "deep", "rounds", "cell"] (kY 13 (fK G)):=oB.2 T G j q ih;have F:FnQ _ _ _ _ _ "_law_picked" (j+1) ["script", "state", "volume", "known", "size", "deep", "rounds", "cell"] (kY 13 (g7 G)):=lB.2 T G j q ih;have:FnQ _ _ _ _ _ "_law_next" 2 ["script", "state"] eW:=kK.2 T;have:FnQ _ _ _ _ _ "_law_leaf" 3 ["script", "state", "volume", "known"] kN:=pV.2 T;replace ih:=FnQ.mono ih (zan j);exact⟨_,(aZ (rF (dZ (pK kZ)))
 (aZ (eJ 7 kZ)
 (aZ (gD 8)
 (aZ (gD 9)
 (aZ (rF (aZ (eJ 10 kZ) (dZ jI)))
 (aZ (rF (dZ (pK (kZ (ha:=xS (by trivial) (xS (by trivial) (xS (by trivial) (xS (by trivial) (xS (by trivial) (xS (bE bW (by trivial) (by trivial)) oW))))))))))
 (aZ (rF (dZ (pK (kZ (ha:=xS (by trivial) (xS (by trivial) (xS (by trivial) (xS (by trivial) (xS (by trivial) (xS (bE bH (PD.b (bE bW (by trivial) (by trivial))) (by trivial)) oW))))))))))
 (aZ (rF (dZ (pK kZ)))
 (aZ (gD 11)
 (aZ (eJ 10 kZ)
 (aZ (eJ 12 kZ)
 (dZ jI)))))))))))),rfl⟩
def bM:Fq->Qv:=by exists nF
def GB:Nat->Fq
 | 0=>λ_=>none
 | m+1=>kY 13 (bM (GB m))
theorem GM{P:YK}{w:World}{K:YH}{mg:Str->Option Value}{base:Heap}(T:Tx P w K mg base):∀m,FnQ P w K mg base "_law_grown" (3+2*m+1) RJ (GB m)
 | 0=>EQ (T.d ("_law_grown",85,RJ) (by decide +kernel)) (N:=["script", "state", "volume", "known", "size", "deep", "rounds", "cell", "way", "rest", "one", "first", "two"]) ⟨rfl,rfl,rfl,by decide +kernel,rfl,by decide +kernel,by decide +kernel⟩
 | m+1=>nF.2 T _ _ (show 3<=3+2*m+1 by lia) (GM T m)
def nB:Fq:=GB 25
theorem tX{P:YK}{w:World}{K:YH}{mg:Str->Option Value}{base:Heap}(T:Tx P w K mg base):FnQ P w K mg base "_law_grown" 54 RJ nB:=GM T 25
abbrev Fd:=List D->Option D
abbrev vG:List Str:=["kinds", "part"]
def LY(N:List Str)(i o:Nat){x:Str}{ps:List Str}{b:Fd->Sv}(h:∀ {P:YK} {w:World} {K:YH} {mg:Str->Option Value} {base:Heap} {F:Addr} {B:Value} {A:YM} {q:List Env} {H:Hp} {E:XK} (T:Tx P w K mg base) (G:Fd) (j:Nat) (ih:Fn P w K mg base "show_part" j vG G) (s:YE) (nd:N.Nodup) (J:Room (j+o) (A.deeper (Y2 x (aF (top i)) s.heap.objs.size F B))) (hu:(A.deeper (Y2 x (aF (top i)) s.heap.objs.size F B)).units+1<cLine),∃g,cQ (eN mW P w K mg base N x (aF (top i)) F B A q s H E).nox ⟨[],[]⟩ [] (aX (top i)) g []/\g=b G)(m:(x,i,ps)∈tab:=by decide +kernel)(sc:FnScope N ps (aF (top i)):=by exact⟨rfl,rfl,rfl,by decide +kernel,rfl,by decide +kernel,by decide +kernel⟩):{b:Fd->Sv // ∀ {P:YK} {w:World} {K:YH} {mg:Str->Option Value} {base:Heap},Tx P w K mg base->∀(G:Fd) (j:Nat),Fn P w K mg base "show_part" j vG G->Fn P w K mg base x (j+o+1) ps (bC N.length (b G))}:=⟨b,λT G j ih=>w9 (T.d _ m) sc λF B A q s H E J=>h T G j ih s sc.nd J (jL J)⟩
local macro_rules | `(tactic|exists $x:ident) => `(tactic|(refine' (?f:∀y:Fd -> Sv, zaI $x = y -> Fd -> Sv) _ ?h;(case h => unfold $x;(try unfold LY);(try unfold rM);(try dsimp only);try exact rfl);(case f => exact λy _ => y)))
def eB:=LY (x := "show_parts") (ps:=["kinds", "parts"]) ["kinds", "parts"] 63 0 λT G j ih s nd B q=>by exact⟨_,(aV (bE bH (PD.b (bE bH (by trivial) (PD.b (pH (by trivial) (PD.b (PF.d (d5 s ["part", "kinds"] [none,some 0]))) (λa b=>(l8 zbj zci zcj My.oZ a b)))))) (by trivial))),rfl⟩
def dB:Fd->Sv:=by exists eB
def nO:=LY (x := "show_name") (ps:=vG) ["kinds", "part"] 64 0 λT G j ih s nd B q=>by exact⟨_,aV,rfl⟩
def i6:Fd->Sv:=by exists nO
def jZ:=LY (x := "show_number") (ps:=vG) ["kinds", "part"] 65 0 λT G j ih s nd B q=>by exact⟨_,aV,rfl⟩
def j6:Fd->Sv:=by exists jZ
def p6:=LY (x := "show_let") (ps:=vG) ["kinds", "part"] 67 0 λT G j ih s nd B q=>by exact⟨_,aV,rfl⟩
def pO:Fd->Sv:=by exists p6
def pP:=LY (x := "show_use") (ps:=vG) ["kinds", "part"] 66 1 λT G j ih s nd B q=>by have:Fn _ _ _ _ _ "show_parts" (j+1) ["kinds", "parts"] (bC 2 (dB G)):=eB.2 T G j ih;exact⟨_,aV,rfl⟩
def kO:Fd->Sv:=by exists pP
def nD:=LY (x := "show_pick") (ps:=vG) ["kinds", "part"] 68 1 λT G j ih s nd B q=>by have:Fn _ _ _ _ _ "show_parts" (j+1) ["kinds", "parts"] (bC 2 (dB G)):=eB.2 T G j ih;exact⟨_,aV,rfl⟩
def nQ:Fd->Sv:=by exists nD
def lI:=LY (x := "show_again") (ps:=vG) ["kinds", "part"] 69 1 λT G j ih s nd B q=>by have:Fn _ _ _ _ _ "show_parts" (j+1) ["kinds", "parts"] (bC 2 (dB G)):=eB.2 T G j ih;exact⟨_,aV,rfl⟩
def lK:Fd->Sv:=by exists lI
def nH:=LY (x := "show_part") (ps:=vG) ["kinds", "part"] 62 2 λT G j ih s nd W Y=>by have F:Fn _ _ _ _ _ "show_name" (j+2) vG (bC 2 (i6 G)):=Fn.mono (nO.2 T G j ih) (by lia);have q:Fn _ _ _ _ _ "show_number" (j+2) vG (bC 2 (j6 G)):=Fn.mono (jZ.2 T G j ih) (by lia);have J:Fn _ _ _ _ _ "show_use" (j+2) vG (bC 2 (kO G)):=Fn.mono (pP.2 T G j ih) (by lia);have N:Fn _ _ _ _ _ "show_let" (j+2) vG (bC 2 (pO G)):=Fn.mono (p6.2 T G j ih) (by lia);have U:Fn _ _ _ _ _ "show_pick" (j+2) vG (bC 2 (nQ G)):=Fn.mono (nD.2 T G j ih) (by lia);have B:Fn _ _ _ _ _ "show_again" (j+2) vG (bC 2 (lK G)):=Fn.mono (lI.2 T G j ih) (by lia);exact⟨_,(aV (XA T.k_SHOWN (.cons F rfl (.cons q rfl (.cons J rfl (.cons N rfl (.cons U rfl (.cons B rfl .nil)))))) W)),rfl⟩
def nT:Fd->Sv:=by exists nH
def SP:Nat->Fd
 | 0=>λ_=>none
 | m+1=>bC 2 (nT (SP m))
theorem G2{P:YK}{w:World}{K:YH}{mg:Str->Option Value}{base:Heap}(T:Tx P w K mg base):∀m,Fn P w K mg base "show_part" (3*m+1) vG (SP m)
 | 0=>uB (T.d ("show_part",62,vG) (by decide +kernel)) (N:=vG) ⟨rfl,rfl,rfl,by decide +kernel,rfl,by decide +kernel,by decide +kernel⟩
 | m+1=>nH.2 T _ _ (G2 T m)
def n8:Fd:=SP 25
def vJ:{B:Fd // ∀ {P:YK} {w:World} {K:YH} {mg:Str->Option Value} {base:Heap},Tx P w K mg base->Fn P w K mg base "show_part" 76 vG B}:=⟨n8,λT=>G2 T 25⟩
def eP:Zt "show_program" ["book", "program"] 82 5:=oT ["book", "program", "words", "x", "k"] 61 λT s nd B q=>by have:=fx n8 (vJ.2 T);exact⟨_,(cO [2] (u5 2) (c0 (l7 [2] [] (aW (yI (i:=2) (pv 2) (by trivial) rfl (l8 zcN PySem.F.slot_list_extend PySem.F.type_list_extend My.yP (pv 2) (bP (PD.pe (by trivial)) gH))))) aV)),rfl⟩
def iP:Sv:=by exists eP
def eQ:=bC 5 iP
def pW:Zr "_law_said" ["kinds", "part"] 0 4 30:=rM ["kinds", "part", "words", "sides"] 86 λT R j q ih s nd F B=>by exact⟨_,(c0 (cH aV) (c0 (cH aV) (c0 (cH aV) (c0 (cH (aV (bE bH (PD.b (bE bH (by trivial) (PD.b (pH (by trivial) (PD.b (PF.d (d5 s ["one", "kinds"] [none,some 0]))) (λa b=>(l8 zbj zci zcj My.oZ a b)))))) (by trivial)))) (c0 (WN (c0 (bA 2) (aW (bA 3))) (c0 (bA 2) (aW (bA 3)))) (aV (bE bH (PD.b (bE bH (by trivial) (PD.b (pH (by trivial) (PD.b (PF.d (d5 s ["one", "kinds"] [none,some 0]))) (λa b=>(l8 zbj zci zcj My.oZ a b)))))) (by trivial)))))))),rfl⟩
def kM:(List D->Option D)->Sv:=by exists pW
def yK:=b9 4 kM 30
def nE:Zt "_law_whole" ["found"] 1 1:=oT ["found"] 75 λT s nd B q=>by exact⟨_,aV,rfl⟩
def nP:Sv:=by exists nE
def nX:=bC 1 nP
def nN:Zr "_law_alike" ["found", "due"] 1 3 60:=rM ["found", "due", "k"] 77 λT R j q ih s nd F B=>by have:=fx nX (nE.2 T);exact⟨_,(c0 (cH (c0 (cH aV) (c0 (l7 [] [] (aW (cH aV))) aV))) (c0 (cH aV) aV)),rfl⟩
def c6:(List D->Option D)->Sv:=by exists nN
def vI:=b9 3 c6 60
def iC:Zt "_law_first_row" ["kinds", "heads"] 1 5:=oT ["kinds", "heads", "words", "name", "kind"] 87 λT s nd B q=>by exact⟨_,(c0 (bA 2) (c0 (l7 [] [] (aW (bA 2))) aV)),rfl⟩
def iD:Sv:=by exists iC
def iE:=bC 5 iD
def eS:Zt "kind_of_word" ["kinds", "word"] 1 2:=oT ["kinds", "word"] 43 λT s nd q B=>by exact⟨_,(c0 cR (aV (CD q.units (by trivial) (by trivial) (λm h k=>(NZ PySem.F.slot_tuple_index PySem.F.type_tuple_index m h k))))),rfl⟩
def iT:Sv:=by exists eS
def cE:=bC 2 iT
def iS:Zt "heads_of_row" ["kinds", "row"] 2 3:=oT ["kinds", "row", "words"] 45 λT s nd B q=>by have:=fx cE (eS.2 T);exact⟨_,(c0 (bA 2) (c0 cR (aV (PF.d (d5 s ["place", "words", "kinds"] [none,some 2,some 0]))))),rfl⟩
def iR:Sv:=by exists iS
def iU:=bC 3 iR
def gL:Zt "number_of_word" ["word"] 1 1:=oT ["word"] 42 λT s nd B q=>by exact⟨_,(c0 (cR (PDW.pt (zB (by trivial) (zB (by trivial) (zQ (AC (AM (cB (GV rfl) T.n My.boot_all (RE (PD.b (PF.d (d5 s ["sign"] [none]))) (by trivial)))))))))) aV),rfl⟩
def gK:Sv:=by exists gL
def gM:=bC 1 gK
abbrev zO:List Str:=["reader", "depth"]
theorem TQ{X:Cx}{O:List Nat}{e:Expr}{f:Ev}{pos:Pos}(T:Txt X.w X.K X.mg)(q:PB X O e f)(B:ZX e "at" X.env (eval e X.env)=eval e X.env):PD X O (.Attribute e "at" pos) (bN CR "at" f):=t9 T.o_Reader.cls (T.o_Reader.na _ (by decide)) q B
theorem KG{X:Cx}{O:List Nat}{e:Expr}{f:Ev}{pos:Pos}(T:Txt X.w X.K X.mg)(q:PB X O e f)(B:ZX e "text" X.env (eval e X.env)=eval e X.env):PD X O (.Attribute e "text" pos) (bN CR "text" f):=t9 T.o_Reader.cls (T.o_Reader.na _ (by decide)) q B
theorem D4{X:Cx}{O:List Nat}{e:Expr}{f:Ev}{pos:Pos}(T:Txt X.w X.K X.mg)(q:PB X O e f)(B:ZX e "kinds" X.env (eval e X.env)=eval e X.env):PD X O (.Attribute e "kinds" pos) (bN CR "kinds" f):=t9 T.o_Reader.cls (T.o_Reader.na _ (by decide)) q B
theorem V6{X:Cx}{O:List Nat}{o e:Expr}{es:List Expr}{apos cpos:Pos}{N:Ev}{fs:Lv}(W:PB X O o N)(U:mE X O (e::es) fs)(B:ZX o "startswith" X.env (eval o X.env)=eval o X.env)(J:((YO cpos (YG (e::es) X.env)).all (λx=>!x.1) && (ZZ cpos (Z0 [] X.env)).all (λx=>x.1.isSome) && decide ((e::es).length+([]:List ZO).length+(if([]:List ZO).isEmpty then 0 else 1)<30))=true)(F:(apos.endLine == cpos.line)=true)(hs:YG (e::es) X.env=(false,eval e X.env)::YG es X.env)(q:(YO cpos (YG es X.env)).any (·.1)=false):PD X O (.Call (.Attribute o "startswith" apos) (e::es) [] cpos) (WZ N fs):=SN W U B J F hs q
local macro_rules | `(tactic|trivial) => `(tactic|((first|apply TQ|apply KG|apply D4|apply V6) <;> trivial))
def XC(N:List Str)(i:Nat){x:Str}{ps:List Str}{k:Nat}{f:Ev}(h:∀ {P:YK} {w:World} {K:YH} {mg:Str->Option Value} {base:Heap} {F:Addr} {B:Value} {A:YM} {q:List Env} {H:Hp} {E:XK} (T:Tx P w K mg base) (s:YE) (nd:N.Nodup) (J:Room (k) (A.deeper (Y2 x (aF (top i)) s.heap.objs.size F B))) (hu:(A.deeper (Y2 x (aF (top i)) s.heap.objs.size F B)).units+1<cLine),∃e pos g,aX (top i)=[.Return (some e) pos]/\PD (eN mW P w K mg base N x (aF (top i)) F B A q s H E).nox [0] e g/\g=f)(m:(x,i,ps)∈tab:=by decide +kernel)(sc:FnScope N ps (aF (top i)):=by exact⟨rfl,rfl,rfl,by decide +kernel,rfl,by decide +kernel,by decide +kernel⟩):{f:Ev // ∀ {P:YK} {w:World} {K:YH} {mg:Str->Option Value} {base:Heap},Tx P w K mg base->RF P w K mg base x (k+1) ps (λds=>f (a8 N.length ds))}:=⟨f,λT=>N7 (T.d _ m) sc λF B A q s H E J=>h T s sc.nd J (jL J)⟩
def HK(N:List Str)(i:Nat){x:Str}{ps:List Str}{k:Nat}{b:gJ}(h:∀ {P:YK} {w:World} {K:YH} {mg:Str->Option Value} {base:Heap} {F:Addr} {B:Value} {A:YM} {q:List Env} {H:Hp} {E:XK} (T:Tx P w K mg base) (s:YE) (nd:N.Nodup) (J:Room (k) (A.deeper (Y2 x (aF (top i)) s.heap.objs.size F B))) (hu:(A.deeper (Y2 x (aF (top i)) s.heap.objs.size F B)).units+1<cLine),∃g,BN (eN mW P w K mg base N x (aF (top i)) F B A q s H E).nox [0] (aX (top i)) g [0]/\g=b)(m:(x,i,ps)∈tab:=by decide +kernel)(sc:FnScope N ps (aF (top i)):=by exact⟨rfl,rfl,rfl,by decide +kernel,rfl,by decide +kernel,by decide +kernel⟩):{b:gJ // ∀ {P:YK} {w:World} {K:YH} {mg:Str->Option Value} {base:Heap},Tx P w K mg base->FnR P w K mg base x (k+1) ps (dW N.length b)}:=⟨b,λT=>GN (T.d _ m) sc rfl λF B A q s H E J=>h T s sc.nd J (jL J)⟩
def mkr(N:List Str)(i o:Nat){x:Str}{ps:List Str}{k:Nat}{b:Fq->gJ}(h:∀ {P:YK} {w:World} {K:YH} {mg:Str->Option Value} {base:Heap} {F:Addr} {B:Value} {A:YM} {q:List Env} {H:Hp} {E:XK} (T:Tx P w K mg base) (G:Fq) (j:Nat) (J:k<=j) (hj1:k<=j+o) (ih:FnR P w K mg base "read_part" j zO G) (s:YE) (nd:N.Nodup) (U:Room (j+o) (A.deeper (Y2 x (aF (top i)) s.heap.objs.size F B))) (hu:(A.deeper (Y2 x (aF (top i)) s.heap.objs.size F B)).units+1<cLine),∃g,BN (eN mW P w K mg base N x (aF (top i)) F B A q s H E).nox [0] (aX (top i)) g [0]/\g=b G)(m:(x,i,ps)∈tab:=by decide +kernel)(sc:FnScope N ps (aF (top i)):=by exact⟨rfl,rfl,rfl,by decide +kernel,rfl,by decide +kernel,by decide +kernel⟩):{b:Fq->gJ // ∀ {P:YK} {w:World} {K:YH} {mg:Str->Option Value} {base:Heap},Tx P w K mg base->∀(G:Fq) (j:Nat),k<=j->FnR P w K mg base "read_part" j zO G->FnR P w K mg base x (j+o+1) ps (dW N.length (b G))}:=⟨b,λT G j J ih=>GN (T.d _ m) sc rfl λF B A q s H E U=>h T G j J (ZF J (Nat.le_add_right _ _)) ih s sc.nd U (jL U)⟩
local macro_rules | `(tactic|exists $x:ident) => `(tactic|(refine' (?f:∀y:Ev, zaI $x = y -> Ev) _ ?h;(case h => unfold $x;(try unfold XC);(try dsimp only);try exact rfl);(case f => exact λy _ => y)))
local macro_rules | `(tactic|exists $x:ident) => `(tactic|(refine' (?f:∀y:gJ, zaI $x = y -> gJ) _ ?h;(case h => unfold $x;(try unfold HK);(try dsimp only);try exact rfl);(case f => exact λy _ => y)))
local macro_rules | `(tactic|exists $x:ident) => `(tactic|(refine' (?f:∀y:Fq -> gJ, zaI $x = y -> Fq -> gJ) _ ?h;(case h => unfold $x;(try unfold mkr);(try dsimp only);try exact rfl);(case f => exact λy _ => y)))
def uP:=XC (x := "sees") (ps:=["reader", "signs"]) (k:=0) ["reader", "signs"] 48 λT s nd B q=>by exact⟨_,_,_,rfl,(by trivial),rfl⟩
def GR:Ev:=by exists uP
def fD:List D->Option D:=λds=>GR (a8 2 ds)
theorem P5{X:Cx}{O:List Nat}{ep e:Expr}{f:Ev}{j:Nat}{p pos:Pos}(h:RF X.prog X.w X.K X.mg X.base "sees" 1 ["reader", "signs"] fD)(W:Room j X.A)(N:1<=j)(F:PE X ep (d6 0))(J:mem O 0=true)(B:PD X O e f)(U:Gl X "sees")(q1:YG [ep,e] X.env=(false,eval ep X.env)::YG [e] X.env)(q2:YG [e] X.env=(false,eval e X.env)::YG [] X.env)(q:(YO pos (YG [e] X.env)).any (·.1)=false):PD X O (.Call (.Name "sees" p) [ep,e] [] pos) (rE 0 fD (aH f aY)):=JW h (W.mono N) U F J (wV B oW q2) (λρ ds h=>by rw[lc l0 ρ ds h];rfl) (by decide) q1 q
local macro_rules | `(tactic|trivial) => `(tactic|(apply P5 <;> trivial))
local macro_rules | `(tactic|trivial) => `(tactic|(show PE _ _ (d6 _);exact pv _))
def kS:=HK (x := "skip") (ps:=["reader", "signs"]) (k:=1) ["reader", "signs"] 49 λT s nd B q=>by have:RF _ _ _ _ _ "sees" 1 ["reader", "signs"] fD:=uP.2 T;exact⟨_,(zc [0] cR (zc [0] (qP T.o_Reader.cls (T.o_Reader.na _ (by decide))) yZ)),rfl⟩
def GC:gJ:=by exists kS
def gC:Fq:=dW 2 GC
def cZ:=HK (x := "read_word") (ps:=["reader", "signs"]) (k:=0) ["reader", "signs", "start"] 50 λT s nd B q=>by exact⟨_,(zc [0] (bA 2) (zc [0] (HE [0] [0] (aW (qP T.o_Reader.cls (T.o_Reader.na _ (by decide))))) (dX (iF (CY (by trivial) (by trivial) (by trivial)))))),rfl⟩
def nU:gJ:=by exists cZ
def b7:Fq:=dW 3 nU
def fN:=HK (x := "read_kind") (ps:=["reader"]) (k:=1) ["reader"] 51 λT s nd B q=>by have:=fx cE (eS.2 T);have:FnR _ _ _ _ _ "read_word" 1 ["reader", "signs"] b7:=cZ.2 T;exact⟨_,(dX (T9 (b0 iF (b0 cP lS)) (DL (DL UO)))),rfl⟩
def n6:gJ:=by exists fN
def fP:Fq:=dW 1 n6
def fY:=HK (x := "read_number") (ps:=["reader"]) (k:=1) ["reader"] 52 λT s nd B q=>by have:=fx gM (gL.2 T);have:FnR _ _ _ _ _ "read_word" 1 ["reader", "signs"] b7:=cZ.2 T;exact⟨_,(dX (T9 (b0 cP lS) (DL UO))),rfl⟩
def j5:gJ:=by exists fY
def fZ:Fq:=dW 1 j5
def eO:=mkr (x := "read_bracket") (ps:=zO) (k:=3) ["reader", "depth", "parts"] 54 0 λT G j B q ih s nd J F=>by have:RF _ _ _ _ _ "sees" 1 ["reader", "signs"] fD:=uP.2 T;have:FnR _ _ _ _ _ "skip" 2 ["reader", "signs"] gC:=kS.2 T;exact⟨_,(zc [0] (gY cP) (zc [2,0] (PM 2 cP) (zc [2,0] (HE [2,0] [2,0] (cO [2,0] (gY cP) (aW (O0 2 cP)))) (zc [2,0] (gY cP) (dX iF))))),rfl⟩
def dA:Fq->gJ:=by exists eO
def p5:=mkr (x := "read_let") (ps:=zO) (k:=3) ["reader", "depth", "x", "one"] 56 0 λT G j B q ih s nd J F=>by have:FnR _ _ _ _ _ "skip" 2 ["reader", "signs"] gC:=kS.2 T;have:FnR _ _ _ _ _ "read_word" 1 ["reader", "signs"] b7:=cZ.2 T;exact⟨_,(zc [0] (gY cP) (zc [0] (fA 2 cP) (zc [0] (gY cP) (zc [0] (fA 3 cP) (zc [0] (gY cP) (dX (QM (b0 iF (b0 iF (b0 iF (b0 cP lS)))) (DL (DL (DL (DL UO))))))))))),rfl⟩
def kJ:Fq->gJ:=by exists p5
def i4:=mkr (x := "read_many") (ps:=["reader", "depth", "many"]) (k:=3) ["reader", "depth", "many", "parts"] 55 1 λT G j q B ih s nd J F=>by have:FnR _ _ _ _ _ "skip" 2 ["reader", "signs"] gC:=kS.2 T;have:FnR _ _ _ _ _ "read_bracket" (j+1) zO (dW 3 (dA G)):=eO.2 T G j q ih;exact⟨_,(zc [0] (gY cP) (zc [0] (fA 3 cP) (zc [0] cR (dX iF)))),rfl⟩
def fM:Fq->gJ:=by exists i4
def mX:=mkr (x := "read_pick") (ps:=zO) (k:=3) ["reader", "depth", "c", "k"] 57 2 λT G j q B ih s nd J F=>by have:FnR _ _ _ _ _ "skip" 2 ["reader", "signs"] gC:=kS.2 T;have:FnR _ _ _ _ _ "read_kind" 2 ["reader"] fP:=fN.2 T;have:FnR _ _ _ _ _ "read_many" (j+2) ["reader", "depth", "many"] (dW 4 (fM G)):=i4.2 T G j q ih;exact⟨_,(zc [0] (gY cP) (zc [0] (fA 2 cP) (zc [0] (gY cP) (zc [0] (fA 3 cP) (dX (MH bH (by trivial) cP)))))),rfl⟩
def i9:Fq->gJ:=by exists mX
def lJ:=mkr (x := "read_again") (ps:=zO) (k:=3) ["reader", "depth", "n", "k", "x"] 58 2 λT G j q B ih s nd J F=>by have:FnR _ _ _ _ _ "skip" 2 ["reader", "signs"] gC:=kS.2 T;have:FnR _ _ _ _ _ "read_kind" 2 ["reader"] fP:=fN.2 T;have:FnR _ _ _ _ _ "read_number" 2 ["reader"] fZ:=fY.2 T;have:FnR _ _ _ _ _ "read_word" 1 ["reader", "signs"] b7:=cZ.2 T;have:FnR _ _ _ _ _ "read_many" (j+2) ["reader", "depth", "many"] (dW 4 (fM G)):=i4.2 T G j q ih;exact⟨_,(zc [0] (gY cP) (zc [0] (fA 2 cP) (zc [0] (gY cP) (zc [0] (fA 3 cP) (zc [0] (gY cP) (zc [0] (fA 4 cP) (dX (MH bH (by trivial) cP)))))))),rfl⟩
def g6:Fq->gJ:=by exists lJ
theorem WU{X:Cx}{O:List Nat}{e:Expr}{f:Ev}{p pos:Pos}(T:Txt X.w X.K X.mg)(q:PB X O e f)(B:Gl X "PHRASES"):k3 X O (.Compare e [.In] [.Name "PHRASES" p] pos) (c9 (HM ["let", "pick", "again"] f)):=IU T.k_PHRASES T.n_PHRASES B q
def oA:=mkr (x := "read_part") (ps:=zO) (k:=3) ["reader", "depth", "word", "n"] 53 3 λT G j q J ih s nd W U=>by have:RF _ _ _ _ _ "sees" 1 ["reader", "signs"] fD:=uP.2 T;have:FnR _ _ _ _ _ "skip" 2 ["reader", "signs"] gC:=kS.2 T;have:FnR _ _ _ _ _ "read_kind" 2 ["reader"] fP:=fN.2 T;have:FnR _ _ _ _ _ "read_number" 2 ["reader"] fZ:=fY.2 T;have:FnR _ _ _ _ _ "read_word" 1 ["reader", "signs"] b7:=cZ.2 T;have:FnR _ _ _ _ _ "read_bracket" (j+3) zO (dW 3 (dA G)):=FnR.mono (eO.2 T G j q ih) (by lia);have N:FnR _ _ _ _ _ "read_let" (j+3) zO (dW 4 (kJ G)):=FnR.mono (p5.2 T G j q ih) (by lia);have F:FnR _ _ _ _ _ "read_pick" (j+3) zO (dW 4 (i9 G)):=mX.2 T G j q ih;have B:FnR _ _ _ _ _ "read_again" (j+3) zO (dW 5 (g6 G)):=lJ.2 T G j q ih;exact⟨_,(zc [0] cR (zc [0] (fA 2 cP)
 (pJ (HC (dX (WK T.k_PHRASES (.cons N rfl (.cons F rfl (.cons B rfl .nil))))) (WU T (by trivial) rfl))
 (pJ (HC (zc [0] (fA 3 cP) (zc [0] (gY cP) (dX (QM (b0 iF (b0 iF (b0 cP lS))) (DL (DL (DL UO))))))))
 (pJ (HC (dX (QM (b0 iF (b0 iF (b0 cP lS))) (DL (DL (DL UO))))))
 (dX iF)))))),rfl⟩
def nK:Fq->gJ:=by exists oA
def RP:Nat->Fq
 | 0=>λ_=>none
 | m+1=>dW 4 (nK (RP m))
theorem F6{P:YK}{w:World}{K:YH}{mg:Str->Option Value}{base:Heap}(T:Tx P w K mg base):∀m,FnR P w K mg base "read_part" (3+4*m+1) zO (RP m)
 | 0=>EO (T.d ("read_part",53,zO) (by decide +kernel)) (N:=["reader", "depth", "word", "n"]) ⟨rfl,rfl,rfl,by decide +kernel,rfl,by decide +kernel,by decide +kernel⟩
 | m+1=>oA.2 T _ _ (show 3<=3+4*m+1 by lia) (F6 T m)
def GZ:{b:gJ // ∀ {P:YK} {w:World} {K:YH} {mg:Str->Option Value} {base:Heap},Tx P w K mg base->MkR P w K mg base 1 "Reader" CR ["self", "kinds", "text"] (dW 3 b)}:=⟨_,λT=>T.o_Reader.mkr (N:=["self", "kinds", "text"]) ⟨rfl,rfl,rfl,by decide +kernel,rfl,by decide +kernel,by decide +kernel⟩ rfl λF B A q s H E J=>by exact⟨_,(zc [0] (qP T.o_Reader.cls (T.o_Reader.na _ (by decide))) (zc [0] (qP T.o_Reader.cls (T.o_Reader.na _ (by decide))) (zc [0] (qP T.o_Reader.cls (T.o_Reader.na _ (by decide))) yZ))),rfl⟩⟩
def GP:gJ:=by exists GZ
def GD:Fq:=dW 3 GP
def j7:Zt "body_of_row" ["kinds", "row"] 109 4:=oT ["kinds", "row", "reader", "body"] 47 λT s nd B F=>by have q:MkR _ _ _ _ _ 1 "Reader" CR ["self", "kinds", "text"] GD:=GZ.2 T;have:FnR _ _ _ _ _ "read_part" 104 zO (RP 25):=F6 T 25;exact⟨_,(LF (i:=2) q (B.mono (by decide)) rfl (by trivial) (λρ ds h=>by rw[lc (lc l0) ρ ds h];rfl) nd rfl (ZL rfl) (cO [2] (fA 3 (cP 2)) (c0 cR aV))),rfl⟩
def j8:Sv:=by exists j7
def kC:=bC 4 j8
def mJ:Zt "is_kind" ["book", "k"] 1 2:=oT ["book", "k"] 24 λT s nd B q=>by exact⟨_,aV,rfl⟩
def sA:Sv:=by exists mJ
def jP:=bC 2 sA
def mK:Zt "is_name" ["text"] 1 1:=oT ["text"] 11 λT s nd B q=>by exact⟨_,(c0 (cH aV) (aV (cB (GV rfl) T.n My.boot_all (RE (PD.b (PF.d (d5 s ["sign"] [none]))) (by trivial))))),rfl⟩
def tE:Sv:=by exists mK
def jO:=bC 1 tE
def kB:Zt "check_heads" ["book", "heads"] 2 5:=oT ["book", "heads", "known", "x", "k"] 25 λT s nd B q=>by have:=fx jP (mJ.2 T);have:=fx jO (mK.2 T);exact⟨_,(c0 cR (cO [2] (u5 2) (aW (l7 [2] [] (cO [2] cR (cO [2] cR (aW (G5 2)))))))),rfl⟩
def j4:Sv:=by exists kB
def kA:=bC 5 j4
def jS:Zt "inner" ["part"] 1 1:=oT ["part"] 18 λT s nd B q=>by exact⟨_,(c0 (cH aV) (c0 (cH aV) (c0 (cH aV) (c0 (cH aV) aV)))),rfl⟩
def zT:Sv:=by exists jS
def eI:=bC 1 zT
def n4:Zr "too_round" ["part", "rounds"] 1 2 30:=rM ["part", "rounds"] 27 λT R j q ih s nd F B=>by have:=fx eI (jS.2 T);exact⟨_,(c0 (cH (aV (cB (O8 rfl) T.n My.boot_any (RE (PD.b (PF.d (d5 s ["one", "rounds"] [none,some 1]))) (by trivial))))) aV),rfl⟩
def b5:(List D->Option D)->Sv:=by exists n4
def vO:=b9 2 b5 30
def p8:Zr "parts_in" ["part"] 1 1 30:=rM ["part"] 19 λT R j q ih s nd F B=>by have:=fx eI (jS.2 T);exact⟨_,(aV (bE bH (by trivial) (PD.b (cB (F1 rfl) T.n My.boot_sum (RE (PD.b (PF.d (d5 s ["one"] [none]))) (by trivial)))))),rfl⟩
def g9:(List D->Option D)->Sv:=by exists p8
def x9:=b9 1 g9 30
def sW:Zr "lets_in" ["part"] 1 1 30:=rM ["part"] 20 λT R j q ih s nd F B=>by have:=fx eI (jS.2 T);exact⟨_,(aV (bE bH (by trivial) (PD.b (cB (F1 rfl) T.n My.boot_sum (RE (PD.b (PF.d (d5 s ["one"] [none]))) (by trivial)))))),rfl⟩
def gQ:(List D->Option D)->Sv:=by exists sW
def BO:=b9 1 gQ 30
def p4:Zr "depth_of" ["part"] 1 1 30:=rM ["part"] 21 λT R j q ih s nd F B=>by have:=fx eI (jS.2 T);exact⟨_,(aV (bE bH (by trivial) (PD.b (IV rfl (by rfl) T.n (PD.b (PF.d (d5 s ["one"] [none]))) (by trivial) rfl)))),rfl⟩
def hC:(List D->Option D)->Sv:=by exists p4
def xX:=b9 1 hC 30
def k7:Zt "check_size" ["body"] 33 1:=oT ["body"] 26 λT s nd B q=>by have:=fx xX (p4.2 T);have:=fx BO (sW.2 T);have:=fx x9 (p8.2 T);have:=fx vO (n4.2 T);exact⟨_,(c0 cR (c0 cR (c0 cR (aW cR)))),rfl⟩
def k9:Sv:=by exists k7
def lF:=bC 1 k9
def kD:Zr "name_within" ["part", "number"] 0 2 30:=rM ["part", "number"] 22 λT R j q ih s nd F B=>by exact⟨_,(c0 (cH aV) (c0 (cH aV) (c0 (cH aV) aV))),rfl⟩
def fX:(List D->Option D)->Sv:=by exists kD
def bT:=b9 2 fX 30
def eA:Zt "check_kind" ["book", "k"] 2 2:=oT ["book", "k"] 31 λT s nd B q=>by have:=fx jP (mJ.2 T);exact⟨_,(aW cR),rfl⟩
def k6:Sv:=by exists eA
def eD:=bC 2 k6
def dM:Zt "check_new_name" ["known", "x"] 2 2:=oT ["known", "x"] 34 λT s nd B q=>by have:=fx jO (mK.2 T);exact⟨_,(aW cR),rfl⟩
def gO:Sv:=by exists dM
def dJ:=bC 2 gO
abbrev Zv(x:Str)(ps:List Str)(k n:Nat):Type:={b:(List D->Option D)->Sv // ∀ {P:YK} {w:World} {K:YH} {mg:Str->Option Value} {base:Heap},Tx P w K mg base->∀(R:List D->Option D) (j:Nat),k<=j->Fn P w K mg base "check_part" j ["book", "known", "part"] R->Fn P w K mg base x (j+1) ps (bC n (b R))}
def zG(N:List Str)(i:Nat){x:Str}{ps:List Str}{k:Nat}{b:(List D->Option D)->Sv}(h:∀ {P:YK} {w:World} {K:YH} {mg:Str->Option Value} {base:Heap} {F:Addr} {B:Value} {A:YM} {q:List Env} {H:Hp} {E:XK} (T:Tx P w K mg base) (R:List D->Option D) (j:Nat) (U:k<=j) (ih:Fn P w K mg base "check_part" j ["book", "known", "part"] R) (s:YE) (nd:N.Nodup) (J:Room (j) (A.deeper (Y2 x (aF (top i)) s.heap.objs.size F B))) (hu:(A.deeper (Y2 x (aF (top i)) s.heap.objs.size F B)).units+1<cLine),∃g,cQ (eN mW P w K mg base N x (aF (top i)) F B A q s H E).nox ⟨[],[]⟩ [] (aX (top i)) g []/\g=b R)(W:(x,i,ps)∈tab:=by decide +kernel)(sc:FnScope N ps (aF (top i)):=by exact⟨rfl,rfl,rfl,by decide +kernel,rfl,by decide +kernel,by decide +kernel⟩):Zv x ps k N.length:=⟨b,λT R j U ih=>w9 (T.d _ W) sc λF B A q s H E J=>h T R j U ih s sc.nd J (jL J)⟩
local macro_rules | `(tactic|exists $x:ident) => `(tactic|(refine' (?f:∀y:(List D -> Option D) -> Sv, zaI $x = y -> (List D -> Option D) -> Sv) _ ?h;(case h => unfold $x;(try unfold zG);(try unfold rM);(try dsimp only);try exact rfl);(case f => exact λy _ => y)))
def lG:Zv "check_name" ["book", "known", "part"] 31 3:=zG ["book", "known", "part"] 29 λT R j q ih s nd F B=>by exact⟨_,(aW cR),rfl⟩
def g4:(List D->Option D)->Sv:=by exists lG
def iV:Zv "check_number" ["book", "known", "part"] 31 3:=zG ["book", "known", "part"] 30 λT R j q ih s nd F B=>by have:=fx eD (eA.2 T);exact⟨_,(c0 cR (aW fB)),rfl⟩
def eU:(List D->Option D)->Sv:=by exists iV
def nG:Zv "check_use" ["book", "known", "part"] 31 4:=zG ["book", "known", "part", "make"] 32 λT R j q ih s nd F B=>by exact⟨_,(c0 (l7 [] [] (aW (cH (aW EK)))) UJ),rfl⟩
def fQ:(List D->Option D)->Sv:=by exists nG
def m9:Zv "check_let" ["book", "known", "part"] 31 3:=zG ["book", "known", "part"] 33 λT R j q ih s nd F B=>by have:=fx dJ (dM.2 T);exact⟨_,(aW fB),rfl⟩
def iZ:(List D->Option D)->Sv:=by exists m9
def lE:Zv "check_pick" ["book", "known", "part"] 31 3:=zG ["book", "known", "part"] 35 λT R j q ih s nd F B=>by have:=fx eD (eA.2 T);exact⟨_,(c0 fB (aW fB)),rfl⟩
def g8:(List D->Option D)->Sv:=by exists lE
def j9:Zv "check_again" ["book", "known", "part"] 31 3:=zG ["book", "known", "part"] 36 λT R j q ih s nd F B=>by have:=fx eD (eA.2 T);have:=fx dJ (dM.2 T);exact⟨_,(c0 cR (c0 fB (aW fB))),rfl⟩
def gA:(List D->Option D)->Sv:=by exists j9
abbrev Zw(x:Str)(ps:List Str)(k n m:Nat):Type:={b:(List D->Option D)->Sv // ∀ {P:YK} {w:World} {K:YH} {mg:Str->Option Value} {base:Heap},Tx P w K mg base->Fn P w K mg base x (k+2*m+1) ps (b9 n b m)}
def T7(N:List Str)(i:Nat){x:Str}{ps:List Str}{k m:Nat}{b:(List D->Option D)->Sv}(h:∀ {P:YK} {w:World} {K:YH} {mg:Str->Option Value} {base:Heap} {fa:Addr} {cdv:Value} {A:YM} {outer:List Env} {H:Hp} {E:XK} (T:Tx P w K mg base) (R:List D->Option D) (j:Nat) (hj:k<=j) (hj1:k<=j+1) (ih:Fn P w K mg base x j ps R) (s:YE) (nd:N.Nodup) (hr:Room (j+1) (A.deeper (Y2 x (aF (top i)) s.heap.objs.size fa cdv))) (hu:(A.deeper (Y2 x (aF (top i)) s.heap.objs.size fa cdv)).units+1<cLine),∃g,cQ (eN mW P w K mg base N x (aF (top i)) fa cdv A outer s H E).nox ⟨[],[]⟩ [] (aX (top i)) g []/\g=b R)(me:(x,i,ps)∈tab:=by decide +kernel)(sc:FnScope N ps (aF (top i)):=by exact⟨rfl,rfl,rfl,by decide +kernel,rfl,by decide +kernel,by decide +kernel⟩):Zw x ps k N.length m:=⟨b,λT=>by
 induction m with
 | zero=>exact uB (T.d _ me) sc
 | succ m ih=>exact w9 (T.d _ me) sc λfa cdv A outer s H E hr=>h T _ (k+2*m+1) (by lia) (by lia) ih s sc.nd hr (jL hr)⟩
local macro_rules | `(tactic|exists $x:ident) => `(tactic|(refine' (?f:∀y:(List D -> Option D) -> Sv, zaI $x = y -> (List D -> Option D) -> Sv) _ ?h;(case h => unfold $x;(try unfold T7);(try unfold rM);(try dsimp only);try exact rfl);(case f => exact λy _ => y)))
def g5:Zw "check_part" ["book", "known", "part"] 31 6 30:=T7 ["book", "known", "part", "number", "one", "x"] 28 λT R j W Y ih s nd hr hu=>by have:=fx eI (jS.2 T);have:=fx bT (kD.2 T);have F:=fx (bC 3 (g4 R)) (lG.2 T R j W ih);have q:=fx (bC 3 (eU R)) (iV.2 T R j W ih);have N:=fx (bC 4 (fQ R)) (nG.2 T R j W ih);have U:=fx (bC 3 (iZ R)) (m9.2 T R j W ih);have J:=fx (bC 3 (g8 R)) (lE.2 T R j W ih);have B:=fx (bC 3 (gA R)) (j9.2 T R j W ih);replace ih:=Fn.mono ih (zan j);exact⟨_,(c0 (fB (PD.b (XA T.k_CHECKS (.cons F rfl (.cons q rfl (.cons N rfl (.cons U rfl (.cons J rfl (.cons B rfl .nil)))))) hr))) (aW (l7 [] [] (c0 (bA 5) (aW fB))))),rfl⟩
def a9:(List D->Option D)->Sv:=by exists g5
def lC:=b9 6 a9 30
def sX:Zt "program" ["book", "heads", "body"] 93 3:=oT ["book", "heads", "body"] 23 λT s nd q B=>by have:=fx kA (kB.2 T);have:=fx lC (g5.2 T);have:=fx lF (k7.2 T);exact⟨_,(c0 fB (c0 fB (c0 (fB (PD.b (cD (fx lC (g5.2 T)) (q.mono (by decide)) (xS (by trivial) (xS (PF.d (d5 s ["x", "k"] [none,none])) (by trivial))) (lc (lc (lc l0)))))) (aV (FY (xS (UW wR T.n My.boot_tuple (RE (PD.b (PF.d (d5 s ["x", "k"] [none,none]))) (by trivial))) (by trivial)) (λρ ds h=>(by have:=(lc (lc l0)) ρ ds h;lia))))))),rfl⟩
def rZ:Sv:=by exists sX
def sP:=bC 3 rZ
def fJ:Zt "program_of_text" ["known_book", "text"] 110 6:=oT ["known_book", "text", "rows", "heads", "body", "e"] 44 λT s nd B q=>by have:=fx kC (j7.2 T);have:=fx iU (iS.2 T);have:=fx sP (sX.2 T);exact⟨_,(c0 (bA 2) (c0 cR (c0 (bA 3) (c0 (bA 4) (aW (zW (λ_ _ z=>z) aV)))))),rfl⟩
def fI:Sv:=by exists fJ
def fH:=bC 6 fI
def iO:Zt "read_program" ["book", "text"] 111 3:=oT ["book", "text", "told"] 71 λT s nd B q=>by have:=fx fH (fJ.2 T);have:=fx eQ (eP.2 T);exact⟨_,(c0 (bA 2) (c0 cR aV)),rfl⟩
def iQ:Sv:=by exists iO
def iW:=bC 3 iQ
def qA:Zt "_law_read" ["volume", "signs"] 112 3:=oT ["volume", "signs", "found"] 88 λT s nd B q=>by have:=fx iW (iO.2 T);exact⟨_,(c0 (bA 2) (c0 (zW (λ_ _ z=>z) (aW (bA 2))) aV)),rfl⟩
def pQ:Sv:=by exists qA
def pY:=bC 3 pQ
def L0:{b:Sv // ∀ {P:YK} {w:World} {K:YH} {mg:Str->Option Value} {base:Heap},Tx P w K mg base->XZ P w K mg base ["script", "volume", "pool", "heads", "size", "known", "body", "due", "found"] "law" s_law 112 b}:=⟨_,λT N B A q s H E F=>by have J:=jL F;have nd:=sc_law.nd;have:=fx vI (nN.2 T);have:=fx iE (iC.2 T);have:=fx nZ (mY.2 T);have:=fx b6 (dR.2 T);have:=fx fO (iY.2 T);have:=fx pY (qA.2 T);have:=fx yK (pW.2 T);have:=fx lH (k8.2 T);have:=fx eQ (eP.2 T);exact⟨_,(c0 (bA 1) (c0 (bA 2) (c0 (bA 3) (c0 (bA 4) (c0 (NK 5 s ["name", "kind"] [none,none]) (c0 (bA 6 (wN (tX T) (by assumption) (by trivial) (by trivial) (by trivial) (by trivial) rfl (by trivial))) (c0 (bA 7) (c0 (bA 8) aV)))))))),rfl⟩⟩
def HD:Sv:=by exists L0
theorem KZ(ns:List Int):∃f:Int->Int,∀k:Int,0<=k->k<=1000->b6 [.lst (ns.map .int),.int k]=some (.int (f k)):=by
 have h:∀k:Int,∃c:Int,0<=k->k<=1000->b6 [.lst (ns.map .int),.int k]=some (.int c):=λk=>by
  by_cases B:0<=k
  ·by_cases h1:k<=1000
   ·by_cases hk:k<(ns.length:Int)
    ·obtain⟨c,F,_⟩:=wH B hk
     exact⟨c,λ_ _=>aS (by simp_all[fL,a8,hk,F])⟩
    ·have Y:bK (.int 91) (.int k)=some (.int (91*k)):=oO (by decide) (by decide)
     have J:bK (.int (91*k)) (.int k)=some (.int (91*k*k)):=HS (by lia) (by lia);have m5:bK (.int k) (.int 5)=some (.int (k*5)):=oO (by lia) (by lia);have kk:91*k*k<=91000*1000:=Int.mul_le_mul (by lia) h1 B (by decide);have k0:0<=91*k*k:=Int.mul_nonneg (by lia) B;generalize 91*k*k=y at J kk k0;by_cases N:(0:Int)<(ns.length:Int)
     ·have q:0<ns.length:=by lia
      obtain⟨c,F,_⟩:=wH (ns:=ns) (k:=k*5%(ns.length:Int)) (ZU _ (Int.ne_of_gt N)) (ZV _ N);have c0:=ZU c (show(999999937:Int)≠0 by decide);have c1:=ZV c (show(0:Int)<999999937 by decide);have W:bK (.int (c%999999937)) (.int (k+3))=some (.int (c%999999937*(k+3))):=HS (by lia) (by lia);have cm:c%999999937*(k+3)<=999999937*1003:=Int.mul_le_mul (by lia) (by lia) (by lia) (by decide);have cn:0<=c%999999937*(k+3):=Int.mul_nonneg c0 (by lia);generalize c%999999937*(k+3)=z at W cm cn;have U:bK (.int (y+17+z)) (.int (y+17+z))=some (.int ((y+17+z)*(y+17+z))):=oO (by lia) (by lia);exact⟨_,λ_ _=>aS (by simp_all[fL,a8,hk,Y,J,m5,q,bF N,F,bF,W,U];rfl)⟩
     ·have q:¬ 0<ns.length:=by lia
      have U:bK (.int (y+17)) (.int (y+17))=some (.int ((y+17)*(y+17))):=oO (by lia) (by lia);exact⟨_,λ_ _=>aS (by simp_all[fL,a8,hk,Y,J,q,bF,U];rfl)⟩
   ·exact⟨0,λ_ z=>absurd z h1⟩
  ·exact⟨0,λz=>absurd z B⟩
 exact⟨λk=>(h k).choose,λk=>(h k).choose_spec⟩
abbrev Fx(ns:List Int)(f:Int->Int):Prop:=∀k:Int,0<=k->k<=1000->b6 [.lst (ns.map .int),.int k]=some (.int (f k))
theorem FM{c:Int}:∃M,nR [.int c]=some (.int M)/\3<=M/\M<10^60/\M%2=1:=by
 have pw:LP (.int 10) (.int 59)=some (.int (10^59)):=MA (by decide) (by decide) (by decide +kernel);have F:bK (.int 5) (.int (10^59))=some (.int (5*10^59)):=oO (by decide) (by decide);have Y:=ZU (c/4) (show(4:Int)≠0 by decide);have W:=ZV (c/4) (show(0:Int)<4 by decide);have J:=ZU (c/4) (show(5*10^59-1:Int)≠0 by decide +kernel);have U:=ZV (c/4) (show(0:Int)<5*10^59-1 by decide +kernel);have N:bK (.int 2) (.int (c/4%4))=some (.int (2*(c/4%4))):=oO (by decide) (by decide);have B:bK (.int 2) (.int (c/4%(5*10^59-1)))=some (.int (2*(c/4%(5*10^59-1)))):=oO (by decide) (by decide);have q:iA (.int (c/4)) (.int (5*10^59-1))=some (.int (c/4%(5*10^59-1))):=bF (by decide +kernel);generalize hx:c/4%(5*10^59-1)=x at J U B q;by_cases h:c%4=0
 ·exact⟨3+2*(c/4%4),aS (by simp_all[i7,a8,bF,dG,h,N]),by lia,by lia,by lia⟩
 ·refine⟨3+2*x,aS ?_,by lia,by lia,by lia⟩
  simp only[Int.reducePow,Int.reduceMul,Int.reduceSub]at pw F q;simp_all[i7,a8,bF,dG,h,pw,F,q,B]
noncomputable def sg(S:Str)(i:Int):Nat:=S.cps.toList.getD i.toNat 0
theorem JU(J:z.length<=1000)(F:0<=i)(h:i<(z.length:Int)):aO (.str z) (.int i)=some (.str ⟨#[sg z i]⟩):=by
 obtain⟨j,rfl⟩:∃j:Nat,i=(j:Int):=⟨i.toNat,by lia⟩;have q:j<z.cps.toList.length:=by rw[zaK];show j<z.length;lia
 have e:rP z.cps.toList (j:Int)=some z.cps.toList[j]:=cW (by simp_all[q]);have B:sg z (j:Int)=z.cps.toList[j]:=by
  unfold sg;rw[zaq,zcR,zap q];rfl
 rw[B];show(if bO z.length then(rP z.cps.toList (j:Int)).map (λc=>D.str ⟨#[c]⟩)else none)=_;rw[if_pos (show bO z.length=true from decide_eq_true (by lia)),e];rfl
noncomputable def low(c:Nat):Bool:=decide (97<=c) && decide (c<=122)
def aP(x:Str):Bool:=decide (1<=x.length) && decide (x.length<=8) && (x.cps.toList.all low) && !((["let", "in", "pick", "again"]:List Str).contains x)
theorem ON(c:Nat):(!decide ((⟨#[c]⟩:Str).cps.toList<("a" : Str).cps.toList))=decide (97<=c)/\(!decide (("z" : Str).cps.toList<(⟨#[c]⟩:Str).cps.toList))=decide (c<=122):=by
 have q:("a" : Str).cps.toList=[97]:=by decide
 have B:("z" : Str).cps.toList=[122]:=by decide
 have F:(⟨#[c]⟩:Str).cps.toList=[c]:=rfl;rw[q,B,F];have h1:([c]<[97])↔c<97:=by simp_all[List.cons_lt_cons_iff]
 have h2:([122]<[c])↔122<c:=by simp_all[List.cons_lt_cons_iff]
 constructor
 ·by_cases h:c<97
  ·rw[decide_eq_true (h1.mpr h),decide_eq_false (by lia)];rfl
  ·rw[decide_eq_false (λz=>h (h1.mp z)),decide_eq_true (by lia)];rfl
 ·by_cases h:122<c
  ·rw[decide_eq_true (h2.mpr h),decide_eq_false (by lia)];rfl
  ·rw[decide_eq_false (λz=>h (h2.mp z)),decide_eq_true (by lia)];rfl
theorem v4:∀(cs:List Nat) (o:Option D),dF (a7 0) jX (hZ u9 u9 (eC (.str "a")) (aE 0) (eC (.str "z"))) (cs.map λc=>.str ⟨#[c]⟩) [o]=some ((cs.map low).map .bl)
 | [],o=>rfl
 | c::cs,o=>by
  have ih:=v4 cs (some (.str ⟨#[c]⟩));obtain⟨B,F⟩:=ON c;have q:u9 (.str "a") (.str ⟨#[c]⟩)=some (.bl (decide (97<=c))):=by rw[q_leAS,B]
  have J:u9 (.str ⟨#[c]⟩) (.str "z")=some (.bl (decide (c<=122))):=by rw[q_leAS,F]
  by_cases h:97<=c
  ·simp_all[-ZS,-q_leAS,dF,hZ,q,J,h,ih,low]
  ·simp_all[-ZS,-q_leAS,dF,hZ,q,h,ih,low]
theorem sU(hl:x.length<=1000):jO [.str x]=some (.bl (aP x)):=by
 refine aS ?_;have Y:bO x.length=true:=decide_eq_true (by lia);have F:b4 [.str x]=some (.int (x.length:Int)):=if_pos Y;have cm:=v4 x.cps.toList none;have W:bO (P.signs x).length=true:=by
  have:(P.signs x).length=x.length:=by unfold P.signs;rw[YV,zaK];rfl
  rw[this];exact Y
 have al:(List.map low x.cps.toList).all id=x.cps.toList.all low:=by rw[zck];rfl
 unfold tE aP;by_cases h1:x.length<1
 ·have q:(x.length:Int)<1:=by lia
  have h2:decide (1<=x.length)=false:=decide_eq_false (by lia);rw[h2];simp_all[a8,F,q]
 ·have q:¬ (x.length:Int)<1:=by lia
  have h2:decide (1<=x.length)=true:=decide_eq_true (by lia);rw[h2];by_cases h8:8<x.length
  ·have B:(8:Int)<(x.length:Int):=by lia
   have N:decide (x.length<=8)=false:=decide_eq_false (by lia);rw[N];simp_all[a8,F,q,B]
  ·have B:¬ (8:Int)<(x.length:Int):=by lia
   have N:decide (x.length<=8)=true:=decide_eq_true (by lia);rw[N];unfold P.signs at W;by_cases J:x = "let" \/ x = "in" \/ x = "pick" \/ x = "again"
   ·have U:(["let", "in", "pick", "again"]:List Str).contains x=true:=by simpa using J
    rw[U];simp_all[-ZS,a8,F,q,B,J]
   ·have U:(["let", "in", "pick", "again"]:List Str).contains x=false:=by simpa using J
    rw[U];have sg:P.signs x=x.cps.toList.map λc=>D.str ⟨#[c]⟩:=rfl
    have dl:DA [.lst ((x.cps.toList.map low).map .bl)]=some (.bl (x.cps.toList.all low)):=by rw[q_all,al]
    have aa:bO x.cps.size=true:=Y;simp[-YI,-YJ,aB,aG,-ZS,-q_all,a8,F,q,B,J,sg,aa,k4,cm]at dl ⊢;simp_all[-ZS,-q_all,dl]
theorem SQ(q:0<=i)(h:i<26):aO (.str "abcdefghijklmnopqrstuvwxyz") (.int i)=some (.str ⟨#[97+i.toNat]⟩):=by
 have l:("abcdefghijklmnopqrstuvwxyz" : Str).length=26:=by decide +kernel
 rw[JU (by rw[l];decide) q (by rw[l];exact h)];have:∀j:Fin 26,sg "abcdefghijklmnopqrstuvwxyz" (j.val:Int)=97+j.val:=by decide +kernel
 have e:=this ⟨i.toNat,by lia⟩;have B:((i.toNat:Nat):Int)=i:=by lia
 rw[B]at e;rw[e]
theorem in_str{w:Str}{l:List Str}:jN (.str w) (.tup (l.map .str))=some (.bl (decide (w∈l))):=by
 have h1:(l.map D.str).all fG=true:=by
  rw[zck];exact List.all_eq_true.mpr λx _=>rfl
 show RN (.str w) (.tup (l.map .str))=_;unfold RN vA;dsimp only;rw[if_pos ⟨rfl,h1⟩];simp only[aG];congr 2;rw[List.any_map];by_cases h:w∈l
 ·rw[decide_eq_true h]
  exact List.any_eq_true.mpr ⟨w,h,by simp[-YI,-YJ,aB,aG]⟩
 ·rw[decide_eq_false h]
  refine List.any_eq_false.mpr λx q=>?_
  simp[-YI,-YJ,aB,aG];rintro rfl;exact h q
noncomputable def zN(c:Int):Nat:=(1+c%8).toNat
noncomputable def sN(c:Int):Int:=c/8%(1+c%8)
noncomputable def tN(m:Int):Int:=1+2*(m%6)
def gN(c m k p:Int):Int:=(c/64*(2*p+1)+m/6*p+5*p*p+if p=sN c then tN m*k else 0)%26
def wL(c m k:Int):List Nat:=(Z6 (zN c)).map λp:Nat=>97+(gN c m k p).toNat
def w0(c m k:Int):Str:=⟨(wL c m k).toArray⟩
def wN(c m k:Int):Str:=if w0 c m k∈(["let", "in", "pick", "again"]:List Str)then w0 c m k ++ "x" else w0 c m k
theorem Q1(c:Int):1<=zN c/\zN c<=8/\((zN c:Nat):Int)=1+c%8:=by
 unfold zN;have:=ZU c (show(8:Int)≠0 by decide);have:=ZV c (show(0:Int)<8 by decide)
 lia
theorem UD(c:Int):0<=sN c/\sN c<(zN c:Int):=by
 have z:=Q1 c;unfold sN;have:=ZU (c/8) (show 1+c%8≠0 by lia);have:=ZV (c/8) (show 0<1+c%8 by lia)
 lia
theorem qS(c m k:Int):(wL c m k).length=zN c:=by unfold wL;simp[-YI,-YJ,aB,aG]
theorem GX(c m k:Int):(w0 c m k).length=zN c:=by
 show(wL c m k).toArray.size=_;rw[Y1,qS]
theorem AO(a b:Str):(a++b).cps.toList=a.cps.toList++b.cps.toList:=by
 have e:(a++b).cps=a.cps++b.cps:=rfl;rw[e,Array.toList_append]
theorem GG{a b:Str}(h:a.cps.toList=b.cps.toList):a=b:=by
 cases a;cases b;congr 1;exact Array.toList_inj.mp h
theorem xN(c m k:Int):(w0 c m k).cps.toList=wL c m k:=by simp_all[w0]
theorem L5(c m k:Int):aP (wN c m k)=true/\(wN c m k).length<=8:=by
 unfold wN;by_cases h:w0 c m k∈(["let", "in", "pick", "again"]:List Str)
 ·rw[if_pos h]
  simp only[YZ,Y0,or_false]at h;rcases h with h|h|h|h <;> rw[h] <;> exact⟨by decide +kernel,by decide +kernel⟩
 ·rw[if_neg h]
  have z:=Q1 c;have J:=GX c m k;refine⟨?_,by lia⟩;unfold aP;have B:(w0 c m k).cps.toList.all low=true:=by
   rw[xN,zb2];intro x F;obtain⟨p,_,rfl⟩:=List.mem_map.mp F;have a:=ZU (c/64*(2*(p:Int)+1)+m/6*(p:Int)+5*(p:Int)*(p:Int)+if(p:Int)=sN c then tN m*k else 0) (show(26:Int)≠0 by decide);have b:=ZV (c/64*(2*(p:Int)+1)+m/6*(p:Int)+5*(p:Int)*(p:Int)+if(p:Int)=sN c then tN m*k else 0) (show(0:Int)<26 by decide);unfold low gN;have:97<=97+((c/64*(2*(p:Int)+1)+m/6*(p:Int)+5*(p:Int)*(p:Int)+if(p:Int)=sN c then tN m*k else 0)%26).toNat/\97+((c/64*(2*(p:Int)+1)+m/6*(p:Int)+5*(p:Int)*(p:Int)+if(p:Int)=sN c then tN m*k else 0)%26).toNat<=122:=by lia
   rw[decide_eq_true this.1,decide_eq_true this.2];rfl
  have q:(["let", "in", "pick", "again"]:List Str).contains (w0 c m k)=false:=by
   rw[<- zby,List.contains_iff_mem];exact h
  rw[q,B,decide_eq_true (show 1<=(w0 c m k).length by lia),decide_eq_true (show(w0 c m k).length<=8 by lia)];rfl
theorem FV{c m k j:Int}(k0:0<=k)(N:k<12)(J:0<=j)(Y:j<12)(e:w0 c m k=w0 c m j):k=j:=by
 have e:wL c m k=wL c m j:=by rw[<- xN,<- xN,e]
 obtain⟨U,F⟩:=UD c;have hs:((sN c).toNat:Int)=sN c:=by lia
 have q:=congrArg (λl:List Nat=>l[(sN c).toNat]?) e;unfold wL at q;simp only[ZJ,zcK (show(sN c).toNat<zN c by lia),YJ,Option.some.injEq]at q;rw[hs]at q;unfold gN at q;rw[if_pos rfl,if_pos rfl]at q;generalize c/64*(2*sN c+1)+m/6*sN c+5*sN c*sN c=A at q;have B:=ZU m (show(6:Int)≠0 by decide);have W:=ZV m (show(0:Int)<6 by decide);unfold tN at q;have:m%6=0\/m%6=1\/m%6=2\/m%6=3\/m%6=4\/m%6=5:=by lia
 rcases this with h|h|h|h|h|h <;> rw[h]at q <;> omega
theorem NM{c m k j:Int}(k0:0<=k)(J:k<12)(F:0<=j)(N:j<12)(e:wN c m k=wN c m j):k=j:=by
 have U:("x" : Str).cps.toList=[120]:=by decide
 have B:∀i,(w0 c m i ++ "x").cps.toList=wL c m i++[120]:=λi=>by rw[AO,xN,U]
 unfold wN at e;by_cases h:w0 c m k∈(["let", "in", "pick", "again"]:List Str)
 ·rw[if_pos h]at e
  by_cases g:w0 c m j∈(["let", "in", "pick", "again"]:List Str)
  ·rw[if_pos g]at e
   have q:=congrArg (λs:Str=>s.cps.toList) e;simp only[B]at q;have W:=List.append_cancel_right q;exact FV k0 J F N (GG (by rw[xN,xN,W]))
  ·rw[if_neg g]at e
   have q:=congrArg (λs:Str=>s.cps.toList.length) e;simp only[B,xN,ZG,qS,zcC]at q
   lia
 ·rw[if_neg h]at e
  by_cases g:w0 c m j∈(["let", "in", "pick", "again"]:List Str)
  ·rw[if_pos g]at e
   have q:=congrArg (λs:Str=>s.cps.toList.length) e;simp only[B,xN,ZG,qS,zcC]at q
   lia
  ·rw[if_neg g]at e
   exact FV k0 J F N e
def mV(c m:Int)(n:Nat):List Str:=(Z6 n).map λk:Nat=>wN c m k
theorem R1{b:Sv}{x:D}{ρ:bI}{i:Nat}:turn (a7 i) b x ρ=b (ρ.set i (some x)):=by simp_all[turn]
theorem tY{c m many:Int}(h0:0<=many)(h:many<=12):fO [.int c,.int m,.int many]=some (.lst ((mV c m many.toNat).map .str)):=by
 obtain⟨z1,z2,z3⟩:=Q1 c;obtain⟨s0,s1⟩:=UD c;have t0:=ZU m (show(6:Int)≠0 by decide);have t1:=ZV m (show(0:Int)<6 by decide);refine aS ?_;unfold nY;rw[aL (aU (d:=.str "abcdefghijklmnopqrstuvwxyz") (by simp[-YI,-YJ,aB,aG]))];rw[aL (aU (d:=.int (zN c:Int)) (by simp_all[a8,bF,z3]))];rw[aL (aU (d:=.int (sN c)) (by simp_all[a8,dG,bF (show 0<1+c%8 by lia),sN,z3]))];have et:rP [D.int 1,.int 3,.int 5,.int 7,.int 9,.int 11] (m%6)=some (.int (tN m)):=by
  unfold tN;have:m%6=0\/m%6=1\/m%6=2\/m%6=3\/m%6=4\/m%6=5:=by lia
  rcases this with h|h|h|h|h|h <;> rw[h] <;> rfl
 rw[aL (aU (d:=.int (tN m)) (by simp_all[a8,bF,et]))];rw[aL (aU (d:=.lst []) (by simp[-YI,-YJ,aB,aG]))];have hT:1<=tN m/\tN m<=11:=by unfold tN;lia
 refine IF (items:=bU 0 1 many.toNat) (by simp_all[a8,kL h0 (show many<=1000000 by lia)]) (λi ρ=>∃o8 o9 B F,ρ=[some (.int c),some (.int m),some (.int many),some (.str "abcdefghijklmnopqrstuvwxyz"),some (.int (zN c:Int)),some (.int (sN c)),some (.int (tN m)),some (.lst ((mV c m i).map .str)),o8,o9,B,F]) ⟨none,none,none,none,by simp_all[a8,mV]⟩ ?_ ?_
 ·rintro i x ρ hx ⟨o8,o9,B,F,rfl⟩
  obtain⟨ap,rfl⟩:=eX hx;have hI:(0:Int)+(i:Int)*1=(i:Int):=by lia
  rw[hI];have inner:∀B F,∃N J,dI (a7 10) (eK (eL 11 (aR bD (aR bD (aR bK (aR oQ (aE 0) (eC (.int 64))) (aR bD (aR bK (eC (.int 2)) (aE 10)) (eC (.int 1)))) (aR bK (aR oQ (aE 1) (eC (.int 6))) (aE 10))) (aR bK (aR bK (eC (.int 5)) (aE 10)) (aE 10))))
   (eK (pL (c9 (aR rN (aE 10) (aE 5))) (eL 11 (aR bD (aE 11) (aR bK (aE 6) (aE 8)))) BK)
   (eL 9 (aR bD (aE 9) (aR aO (aE 3) (aR iA (aE 11) (eC (.int 26)))))))) (bU 0 1 (zN c)) [some (.int c),some (.int m),some (.int many),some (.str "abcdefghijklmnopqrstuvwxyz"),some (.int (zN c:Int)),some (.int (sN c)),some (.int (tN m)),some (.lst ((mV c m i).map .str)),some (.int (i:Int)),some (.str ""),B,F]=some (.nx [some (.int c),some (.int m),some (.int many),some (.str "abcdefghijklmnopqrstuvwxyz"),some (.int (zN c:Int)),some (.int (sN c)),some (.int (tN m)),some (.lst ((mV c m i).map .str)),some (.int (i:Int)),some (.str (w0 c m i)),N,J]):=by
   intro B F;obtain⟨ρ',e1,N,J,e2⟩:=y1 (items:=bU 0 1 (zN c)) (g:=a7 10) (b:=eK (eL 11 (aR bD (aR bD (aR bK (aR oQ (aE 0) (eC (.int 64))) (aR bD (aR bK (eC (.int 2)) (aE 10)) (eC (.int 1)))) (aR bK (aR oQ (aE 1) (eC (.int 6))) (aE 10))) (aR bK (aR bK (eC (.int 5)) (aE 10)) (aE 10))))
    (eK (pL (c9 (aR rN (aE 10) (aE 5))) (eL 11 (aR bD (aE 11) (aR bK (aE 6) (aE 8)))) BK)
    (eL 9 (aR bD (aE 9) (aR aO (aE 3) (aR iA (aE 11) (eC (.int 26)))))))) (ρ:=[some (.int c),some (.int m),some (.int many),some (.str "abcdefghijklmnopqrstuvwxyz"),some (.int (zN c:Int)),some (.int (sN c)),some (.int (tN m)),some (.lst ((mV c m i).map .str)),some (.int (i:Int)),some (.str ""),B,F])
    (λq ρ => ∃N J, ρ = [some (.int c), some (.int m), some (.int many), some (.str "abcdefghijklmnopqrstuvwxyz"), some (.int (zN c:Int)), some (.int (sN c)), some (.int (tN m)), some (.lst ((mV c m i).map .str)), some (.int (i:Int)), some (.str ⟨((wL c m i).take q).toArray⟩), N, J]) ⟨B, F, rfl⟩ (by
     rintro p y ρ hy ⟨N,J,rfl⟩;obtain⟨hp,rfl⟩:=eX hy;have hP:(0:Int)+(p:Int)*1=(p:Int):=by lia
     rw[hP];have m1:bK (.int 2) (.int (p:Int))=some (.int (2*(p:Int))):=oO (by decide) (by decide);have m2:bK (.int (c/64)) (.int (2*(p:Int)+1))=some (.int (c/64*(2*(p:Int)+1))):=HS (by lia) (by lia);have m3:bK (.int (m/6)) (.int (p:Int))=some (.int (m/6*(p:Int))):=HS (by lia) (by lia);have m4:bK (.int 5) (.int (p:Int))=some (.int (5*(p:Int))):=oO (by decide) (by decide);have m5:bK (.int (5*(p:Int))) (.int (p:Int))=some (.int (5*(p:Int)*(p:Int))):=HS (by lia) (by lia);have m6:bK (.int (tN m)) (.int (i:Int))=some (.int (tN m*(i:Int))):=oO (by lia) (by lia);have eg:(wL c m i)[p]?=some (97+(gN c m i p).toNat):=by
      unfold wL;rw[ZJ,zcK hp];rfl
     have g0:0<=gN c m i p:=ZU _ (by decide);have g1:gN c m i p<26:=ZV _ (by decide);have Y:=SQ g0 g1;have sa:(⟨((wL c m i).take p).toArray⟩:Str)++(⟨#[97+(gN c m i p).toNat]⟩:Str)=⟨((wL c m i).take (p+1)).toArray⟩:=by
      refine GG ?_;rw[AO,List.take_add_one,eg];simp[-YI,-YJ,aB,aG]
     have sz:bO ((⟨((wL c m i).take p).toArray⟩:Str).length+(⟨#[97+(gN c m i p).toNat]⟩:Str).length)=true:=by
      refine decide_eq_true ?_;show((wL c m i).take p).toArray.size+1<=_;rw[Y1,za4,qS]
      lia
     by_cases hs:(p:Int)=sN c
     ·refine⟨[some (.int c),some (.int m),some (.int many),some (.str "abcdefghijklmnopqrstuvwxyz"),some (.int (zN c:Int)),some (.int (sN c)),some (.int (tN m)),some (.lst ((mV c m i).map .str)),some (.int (i:Int)),some (.str ⟨((wL c m i).take (p+1)).toArray⟩),some (.int (p:Int)),some (.int (c/64*(2*(p:Int)+1)+m/6*(p:Int)+5*(p:Int)*(p:Int)+tN m*(i:Int)))],?_,_,_,rfl⟩
      have U:gN c m i p=(c/64*(2*(p:Int)+1)+m/6*(p:Int)+5*(p:Int)*(p:Int)+tN m*(i:Int))%26:=by unfold gN;rw[if_pos hs]
      rw[<- sa];rw[U]at Y sz ⊢;have ac:=eq_true hs;clear hs;simp_all[turn,dG,m1,m2,m3,m4,m5,m6,ac,bF,Y,sz]
     ·refine⟨[some (.int c),some (.int m),some (.int many),some (.str "abcdefghijklmnopqrstuvwxyz"),some (.int (zN c:Int)),some (.int (sN c)),some (.int (tN m)),some (.lst ((mV c m i).map .str)),some (.int (i:Int)),some (.str ⟨((wL c m i).take (p+1)).toArray⟩),some (.int (p:Int)),some (.int (c/64*(2*(p:Int)+1)+m/6*(p:Int)+5*(p:Int)*(p:Int)))],?_,_,_,rfl⟩
      have U:gN c m i p=(c/64*(2*(p:Int)+1)+m/6*(p:Int)+5*(p:Int)*(p:Int))%26:=by unfold gN;rw[if_neg hs,Int.add_zero]
      rw[<- sa];rw[U]at Y sz ⊢;simp_all[turn,dG,m1,m2,m3,m4,m5,m6,hs,bF,Y,sz])
   refine⟨N,J,?_⟩;rw[e1,e2,dN];have:(⟨((wL c m i).take (zN c)).toArray⟩:Str)=w0 c m i:=by
    unfold w0;rw[<- qS c m i,List.take_length]
   rw[this]
  obtain⟨N,J,ae⟩:=inner B F;have rz:=B6 (n:=zN c) (by lia);have ag:(mV c m (i+1)).map D.str=(mV c m i).map D.str++[.str (wN c m i)]:=by
   unfold mV;rw[List.range_succ,zcS,zcS];rfl
  have W:bO (mV c m i).length=true:=decide_eq_true (by unfold mV;rw[YV,List.length_range];lia);have hw:=in_str (w:=w0 c m i) (l:=["let", "in", "pick", "again"]);refine⟨[some (.int c),some (.int m),some (.int many),some (.str "abcdefghijklmnopqrstuvwxyz"),some (.int (zN c:Int)),some (.int (sN c)),some (.int (tN m)),some (.lst ((mV c m (i+1)).map .str)),some (.int (i:Int)),some (.str (wN c m i)),N,J],?_,_,_,_,_,rfl⟩;rw[R1];simp only[List.set_cons_succ,List.set_cons_zero];rw[aL (aU (d:=.str "") (by simp[-YI,-YJ,aB,aG]))];simp only[List.set_cons_succ,List.set_cons_zero];have ef:lR fS (aH (aE 4) aY) [some (.int c),some (.int m),some (.int many),some (.str "abcdefghijklmnopqrstuvwxyz"),some (.int (zN c:Int)),some (.int (sN c)),some (.int (tN m)),some (.lst ((mV c m i).map .str)),some (.int (i:Int)),some (.str ""),B,F]=some (bU 0 1 (zN c)):=rz;rw[aL (by rw[q_for,ef];exact ae)];rw[ag];simp only[List.map]at hw;unfold wN;by_cases hc:w0 c m i∈(["let", "in", "pick", "again"]:List Str)
  ·have sz:bO ((w0 c m i).length+("x" : Str).length)=true:=by
    refine decide_eq_true ?_;rw[GX];show zN c+1<=_
    lia
   rw[decide_eq_true hc]at hw;rw[if_pos hc];simp_all[hw,sz,W]
  ·rw[decide_eq_false hc]at hw
   rw[if_neg hc];simp_all[hw,W]
 ·rintro ρ ⟨o8,o9,B,F,rfl⟩
  rw[dN];simp[-YI,-YJ,aB,aG]
theorem cT(a b:Str):(a++b).cps.toList=a.cps.toList++b.cps.toList:=by
 show(a.cps++b.cps).toList=_;rw[Array.toList_append]
theorem rK{a b:Str}(h:a.cps.toList=b.cps.toList):a=b:=by
 cases a with|mk a=>cases b with|mk b=>
 simp only at h;rw[Array.toList_inj.mp h]
noncomputable def jn(c:Nat):List (List Nat)->List Nat
 | []=>[]
 | [x]=>x
 | x::y::l=>x++c::jn c (y::l)
theorem h7(c:Nat):∀l:List Str,(ZD ⟨#[c]⟩ l).cps.toList=jn c (l.map (·.cps.toList))
 | []=>rfl
 | [x]=>rfl
 | x::y::l=>by
  show((x++⟨#[c]⟩)++ZD ⟨#[c]⟩ (y::l)).cps.toList=_;rw[cT,cT,h7 c (y::l)];simp_all[jn]
theorem z9{c:Nat}:∀ {a b s t:List Nat},c∉a->c∉b->a++c::s=b++c::t->a=b/\s=t
 | [],[],s,t,_,_,e=>⟨rfl,by simpa using e⟩
 | [],x::b,s,t,_,hb,e=>by
  simp only[List.nil_append,zcT,zcl]at e;exact absurd (e.1 ▸ YQ ..) hb
 | x::a,[],s,t,ha,_,e=>by
  simp only[List.nil_append,zcT,zcl]at e;exact absurd (e.1 ▸ YQ ..) ha
 | x::a,y::b,s,t,ha,hb,e=>by
  simp only[zcT,zcl]at e;obtain⟨h1,h2⟩:=z9 (λz=>ha (YW _ z)) (λz=>hb (YW _ z)) e.2;exact⟨by rw[e.1,h1],h2⟩
theorem GQ{c:Nat}:∀ {l m:List (List Nat)},l≠[]->m≠[]->(∀x∈l,c∉x)->(∀x∈m,c∉x)->jn c l=jn c m->l=m
 | [],_,h,_,_,_,_=>absurd rfl h
 | _::_,[],_,h,_,_,_=>absurd rfl h
 | [x],[y],_,_,_,_,e=>by have e:x=y:=e;rw[e]
 | [x],y::z::m,_,_,hl,_,e=>by
  have e:x=y++c::jn c (z::m):=e;exact absurd (e ▸ Z9 _ (YQ ..)) (hl x (YQ ..))
 | x::y::l,[z],_,_,_,hm,e=>by
  have e:x++c::jn c (y::l)=z:=e;exact absurd (e ▸ Z9 _ (YQ ..)) (hm z (YQ ..))
 | x::y::l,z::u::m,_,_,hl,hm,e=>by
  have e:x++c::jn c (y::l)=z++c::jn c (u::m):=e;obtain⟨h1,h2⟩:=z9 (hl x (YQ ..)) (hm z (YQ ..)) e;rw[h1,GQ (by simp[-YI,-YJ,aB,aG]) (by simp[-YI,-YJ,aB,aG]) (λx q=>hl x (YW _ q)) (λx q=>hm x (YW _ q)) h2]
theorem yQ{c:Nat}{l:List Str}(h:l≠[])(B:∀x∈l,c∉x.cps.toList):zaH (ZD ⟨#[c]⟩ l) ⟨#[c]⟩=l:=by
 have e:=congrArg (λs:Str=>s.cps.toList) (StrLaws.join_split (ZD ⟨#[c]⟩ l) ⟨#[c]⟩);simp only[h7]at e;have p:=PyProof.Rows.split_pos (ZD ⟨#[c]⟩ l) ⟨#[c]⟩;have F:=StrLaws.split_free (ZD ⟨#[c]⟩ l) c;generalize zaH (ZD ⟨#[c]⟩ l) ⟨#[c]⟩=m at *;have:=GQ (c:=c) (l:=m.map (·.cps.toList)) (m:=l.map (·.cps.toList)) (by intro z;rw[List.map_eq_nil_iff.mp z]at p;exact absurd p (by decide)) (by simpa using h) (λx q=>by obtain⟨s,hs,rfl⟩:=List.mem_map.mp q;exact F s hs) (λx q=>by obtain⟨s,hs,rfl⟩:=List.mem_map.mp q;exact B s hs) e;have inj:∀ {a b:List Str},a.map (·.cps.toList)=b.map (·.cps.toList)->a=b:=by
  intro a;induction a with
  | nil=>intro b e;cases b with
   | nil=>rfl
   | cons _ _=>cases e
  | cons x a ih=>intro b e;cases b with
   | nil=>cases e
   | cons y b=>
    simp only[Y4,zcl]at e;rw[rK e.1,ih e.2]
 exact inj this
noncomputable def d8(n:Int):Str:=ZQ (zaG n)
theorem gR{n:Int}(F:0<=n):∀c∈(d8 n).cps.toList,48<=c/\c<=57:=by
 obtain⟨m,rfl⟩:=zaP F;intro c q;unfold d8 at q;rw[zcU]at q;obtain⟨ch,B,e⟩:=List.mem_map.mp q;have r:=digit_range (Nat.isDigit_of_mem_toDigits (by decide) (by decide) B);rw[<- e];exact r
theorem AD:∀(k n:Nat),n<10^(k+1)->(zaX 10 n).length<=k+1
 | 0,n,h=>by rw[zbD (by simpa using h)];simp[-YI,-YJ,aB,aG]
 | k+1,n,h=>by
  by_cases z:n<10
  ·rw[zbD z];simp[-YI,-YJ,aB,aG]
  ·have q:n%10<10:=Nat.mod_lt n (by decide)
   have t:zaX 10 (n/10)++zaX 10 (n%10)=zaX 10 (10*(n/10)+n%10):=zc3 (by decide) (by lia) q;rw[Nat.div_add_mod]at t;rw[<- t,ZG,zbD q];have:=AD k (n/10) (by rw[Nat.pow_succ]at h;lia);simp[-YI,-YJ,aB,aG]
   lia
theorem gB{n:Int}(B:0<=n)(h:n<10^60):1<=(d8 n).length/\(d8 n).length<=60:=by
 obtain⟨m,rfl⟩:=zaP B;have e:(d8 (m:Int)).length=(zaX 10 m).length:=by
  show(d8 (m:Int)).cps.size=_;rw[<- zaK];unfold d8;rw[zcU,YV]
 rw[e];refine⟨?_,AD 59 m (by exact_mod_cast h)⟩;by_cases z:m<10
 ·rw[zbD z];simp[-YI,-YJ,aB,aG]
 ·have q:m%10<10:=Nat.mod_lt m (by decide)
  have t:zaX 10 (m/10)++zaX 10 (m%10)=zaX 10 (10*(m/10)+m%10):=zc3 (by decide) (by lia) q;rw[Nat.div_add_mod]at t;rw[<- t,ZG,zbD q];simp[-YI,-YJ,aB,aG]
theorem DT{n:Int}(q:0<=n)(h:n<10^60):intText? (d8 n)=some n:=by
 have J:=gB q h;have F:NumText.AllDigits (d8 n).cps.toList:=gR q;have B:(d8 n).cps.toList≠[]:=λz=>by
  have:(d8 n).cps.toList.length=0:=by rw[z];rfl
  rw[zaK]at this;have l:(d8 n).length=(d8 n).cps.size:=rfl
  lia
 have e:=intText_digits F B (ZF J.2 (by decide));obtain⟨m,rfl⟩:=zaP q;unfold d8 at e ⊢;rw[zcU,PySem.W.KIN.val_back]at e;exact e
theorem NT{n:Int}(q:0<=n)(h:n<10^60):n.natAbs.log2<1900:=by
 have:n.natAbs<2^1900:=by
  have e:(10:Nat)^60<2^1900:=by decide +kernel
  have:n.natAbs<10^60:=by lia
  lia
 by_cases z:n.natAbs=0
 ·rw[z];decide
 ·exact(Nat.log2_lt z).mpr this
theorem A6{n:Int}(q:0<=n)(h:n<10^60):QN [.int n]=some (.str (d8 n)):=if_pos (NT q h)
structure Wd(w:Str):Prop where
 l:w.length<=80
 sp:32∉w.cps.toList
 nl:10∉w.cps.toList
theorem cC(w:Str):w.cps.toList.length=w.length:=by rw[zaK];rfl
theorem GO{c B:Nat}:∀ {l:List (List Nat)},(∀x∈l,x.length<=B)->(jn c l).length<=l.length*(B+1)
 | [],_=>by simp_all[jn]
 | [x],h=>by have:=h x (YQ ..);simp_all[jn];lia
 | x::y::l,h=>by
  have a:=h x (YQ ..);have b:=GO (c:=c) (l:=y::l) λz q=>h z (YW _ q)
  rw[jn,ZG,Y7,Y7,Nat.add_mul,Nat.one_mul]
  lia
theorem qI{c B:Nat}{l:List Str}(h:∀w∈l,w.length<=B):(ZD ⟨#[c]⟩ l).length<=l.length*(B+1):=by
 rw[<- cC,h7];have:=GO (c:=c) (B:=B) (l:=l.map (·.cps.toList)) λx q=>by obtain⟨s,hs,rfl⟩:=List.mem_map.mp q;rw[cC];exact h s hs
 rwa [YV]at this
theorem MT{c d:Nat}(q:d≠c):∀ {l:List (List Nat)},(∀x∈l,d∉x)->d∉jn c l
 | [],_,z=>nomatch z
 | [x],h,z=>h x (YQ ..) z
 | x::y::l,h,z=>by
  rw[jn]at z;rcases List.mem_append.mp z with z|z
  ·exact h x (YQ ..) z
  ·rcases List.mem_cons.mp z with z|z
   ·exact q z
   ·exact MT q (λz B=>h z (YW _ B)) z
theorem LH{c d:Nat}(B:d≠c){l:List Str}(h:∀w∈l,d∉w.cps.toList):d∉(ZD ⟨#[c]⟩ l).cps.toList:=by
 rw[h7];exact MT B λx q=>by obtain⟨s,hs,rfl⟩:=List.mem_map.mp q;exact h s hs
theorem F2{B:Nat}:∀ {l:List Str},(∀w∈l,w.length<=B)->(l.map (·.length)).sum<=l.length*B
 | [],_=>by simp[-YI,-YJ,aB,aG]
 | x::l,h=>by
  have a:=h x (YQ ..);have b:=F2 (l:=l) λz q=>h z (YW _ q)
  rw[Y4,List.sum_cons,Y7,Nat.add_mul,Nat.one_mul]
  lia
theorem tj{sep:Str}{ys:List Str}:Txt.join sep ys=ZD sep ys:=by
 have:=join_closes (sep:=sep) (sep':=sep) (ys:=ys) rfl;simpa using this
theorem zE{c B:Nat}{l:List Str}(h:∀w∈l,w.length<=B)(q:l.length*(B+1)<=1000000):iH (.str ⟨#[c]⟩) (.lst (l.map .str))=some (.str (ZD ⟨#[c]⟩ l)):=by
 have s:=F2 h;rw[Nat.mul_add,Nat.mul_one]at q;rw[N3 (show _+l.length*1<=_ by lia),tj]
theorem AN{c B:Nat}{l:List Str}(h:∀w∈l,w.length<=B)(q:l.length*(B+1)<=1000000)(J:l≠[])(F:∀w∈l,c∉w.cps.toList):mQ (.str (ZD ⟨#[c]⟩ l)) (.str ⟨#[c]⟩)=some (.lst (l.map .str)):=by
 have a:=qI (c:=c) h;have e:=yQ J F;rw[Nat.mul_add,Nat.mul_one]at a q;show(if((⟨#[c]⟩:Str).length == 0)=false/\_/\_ then _ else none)=_;rw[if_pos ⟨rfl,by lia,by rw[e];lia⟩,e]
theorem ME{n:Int}(q:0<=n)(h:n<10^60):Wd (d8 n):=⟨by have:=gB q h;lia,λz=>by have:=gR q _ z;lia,λz=>by have:=gR q _ z;lia⟩
theorem dS{x:Str}(h:aP x=true):∀c∈x.cps.toList,97<=c/\c<=122:=λc q=>by
 unfold aP at h;simp only[ZK]at h;have:=List.all_eq_true.mp h.1.2 c q;unfold low at this;simpa using this
theorem cJ{x:Str}(h:aP x=true):Wd x:=⟨by
  unfold aP at h;simp only[ZK,decide_eq_true_eq]at h
  lia,λz=>by have:=dS h _ z;lia,λz=>by have:=dS h _ z;lia⟩
theorem vZ:∀(cs:List Nat) (o:Option D),(∀c∈cs,48<=c/\c<=57)->dF (a7 0) jX (aR jN (aE 0) (eC (.str "0123456789"))) (cs.map λc=>.str ⟨#[c]⟩) [o]=some ((cs.map λ_=>true).map .bl)
 | [],_,_=>rfl
 | c::cs,o,h=>by
  have B:=h c (YQ ..);have e:jN (.str ⟨#[c]⟩) (.str "0123456789")=some (.bl true):=by
   show some (D.bl (!(zbd ("0123456789" : Str) ⟨#[c]⟩ 0 ("0123456789" : Str).length 1).isEmpty))=_;rw[StrLaws.found_one];have m:("0123456789" : Str).cps.toList=[48,49,50,51,52,53,54,55,56,57]:=rfl;rw[m,decide_eq_true];have:c=48\/c=49\/c=50\/c=51\/c=52\/c=53\/c=54\/c=55\/c=56\/c=57:=by lia
   rcases this with rfl|rfl|rfl|rfl|rfl|rfl|rfl|rfl|rfl|rfl <;> simp[-YI,-YJ,aB,aG]
  exact pF (ρ':=[some (.str ⟨#[c]⟩)]) rfl rfl (aC rfl rfl e) (vZ cs _ λx q=>h x (YW _ q))
theorem FI{q:Type}(l:List q):DA [.lst ((l.map λ_=>true).map .bl)]=some (.bl true):=by
 rw[q_all];congr 2;induction l with
 | nil=>rfl
 | cons _ _ ih=>rw[Y4,zbf,ih];rfl
theorem FL{n:Int}(q:0<=n)(h:n<10^60):gM [.str (d8 n)]=some (.int n):=by
 obtain⟨l1,l2⟩:=gB q h;have U:bO (d8 n).length=true:=decide_eq_true (by lia);have B:b4 [.str (d8 n)]=some (.int ((d8 n).length:Int)):=if_pos U;have Y:=vZ (d8 n).cps.toList none (gR q);have J:=FI (d8 n).cps.toList;have rd:BG [.str (d8 n)]=some (.int n):=by
  show(if(d8 n).length<=640 then(intText? (d8 n)).map D.int else none)=_;rw[if_pos (by lia),DT q h];rfl
 have N:¬ ((d8 n).length:Int)<1:=by lia
 have F:¬ (60:Int)<((d8 n).length:Int):=by lia
 have zz:((d8 n).cps.toList.map λc=>D.str ⟨#[c]⟩).length<=1000000:=by rw[YV,cC];lia
 generalize d8 n=w at *;have W:dU [none] (fF (aE 0)) (a7 0) jX (aR jN (aE 0) (eC (.str "0123456789"))) [some (.str w)]=some (.lst ((w.cps.toList.map λ_=>true).map .bl)):=cV rfl zz Y;refine aS ?_;unfold gK;refine(aL (ρ':=[some (.str w)]) (s_iff (l9 (c:=false) (aI (aC (aD (aA rfl rfl) B) rfl (by show some (D.bl (decide _))=_;rw[decide_eq_false N]))) (kU rfl (l9 (c:=false) (aI (aC (aD (aA rfl rfl) B) rfl (by show some (D.bl (decide _))=_;rw[decide_eq_false F]))) (kU rfl (e9 (c:=true) (aI (aD (aA W rfl) J))))))) rfl)).trans ?_;exact aN (aD (aA rfl rfl) rd)
def Seen(t:Str)(i:Nat)(l:List Nat):Prop:=i<=t.length/\t.cps.toList.drop i=l
theorem Seen.len{t:Str}{i:Nat}{l:List Nat}(h:Seen t i l):i+l.length=t.length:=by
 have:=congrArg zay h.2;rw[zcz,cC]at this;have:=h.1
 lia
theorem Seen.go{t:Str}{i:Nat}{w r:List Nat}(h:Seen t i (w++r)):Seen t (i+w.length) r:=by
 have e:=h.len;rw[ZG]at e;refine⟨by lia,?_⟩;rw[<- List.drop_drop,h.2,List.drop_left]
theorem Seen.to{t:Str}{i j:Nat}{l:List Nat}(h:Seen t i l)(e:i=j):Seen t j l:=e ▸ h
theorem N6{a b:Array Nat}(h:a.toList=b.toList):a=b:=Array.toList_inj.mp h
theorem QB{t y:Str}{i:Nat}:Builtin.Str.subAt t y i=decide ((t.cps.toList.drop i).take y.length=y.cps.toList):=by
 unfold Builtin.Str.subAt;have e:(t.cps.extract i (i+y.length)).toList=(t.cps.toList.drop i).take y.length:=by
  rw[Array.toList_extract,List.extract_eq_take_drop];congr 1
  lia
 rw[<- e];by_cases h:t.cps.extract i (i+y.length)=y.cps
 ·rw[h,decide_eq_true rfl];exact beq_self_eq_true _
 ·rw[decide_eq_false λz=>h (N6 z)]
  exact beq_false_of_ne h
theorem MD{t y:Str}{i:Nat}{l:List Nat}(h:Seen t i l):zaW t y (i:Int)=decide (l.take y.length=y.cps.toList):=by
 have f:fromIndex t.length (i:Int)=i:=by unfold fromIndex;rw[if_neg (by lia)];lia
 unfold zaW;rw[f,QB,h.2];by_cases z:l.take y.length=y.cps.toList
 ·have:=congrArg zay z
  rw[za4,cC]at this;have:=h.len;rw[decide_eq_true z,decide_eq_true (by lia)];rfl
 ·rw[decide_eq_false z,Bool.and_false]
theorem uN{t y:Str}{i:Nat}{r:List Nat}(h:Seen t i (y.cps.toList++r)):zaW t y (i:Int)=true:=by
 rw[MD h,decide_eq_true];rw[<- cC y,List.take_left]
theorem MK{t:Str}{i c:Nat}{r:List Nat}(h:Seen t i r)(n:r.head?≠some c):zaW t ⟨#[c]⟩ (i:Int)=false:=by
 rw[MD h,decide_eq_false];intro z;cases r with
 | nil=>cases z
 | cons x r=>
  have z:[x]=[c]:=z;exact n (by rw[List.head?_cons,List.cons.inj z |>.1])
abbrev Rr(a:Addr)(K:D)(t:Str)(i:Nat):D:=.ob a CR [("kinds",K),("text",.str t),("at",.int (i:Int))]
section
variable {ρ ρ':bI}{f:Rv}{g:gJ}{d l:D}{X:Option OutR}
theorem bG{z:Nat}{F:List D->Option (D×D)}{fs:Lv}{es:List D}{l':D}(h1:fs ρ=some es)(h2:aE z ρ=some l)(q:F (l::es)=some (d,l')):d7 z F fs ρ=some (d,ρ.set z (some l')):=by
 unfold d7;rw[h1,aB,h2,aB,q];rfl
theorem iG(h:f ρ=some (d,ρ'))(h2:g ρ'=X):iL (BJ (xJ f)) g ρ=X:=by
 unfold iL BJ xJ;rw[h];exact h2
theorem gE{i:Nat}(h:f ρ=some (d,ρ'))(h2:g (ρ'.set i (some d))=X):iL (BJ (tO i f)) g ρ=X:=by
 unfold iL BJ tO;rw[h];exact h2
theorem RV{i:Nat}{e:Ev}(h:e ρ=some d)(h2:g (ρ.set i (some d))=X):iL (BJ (eL i e)) g ρ=X:=by
 unfold iL BJ eL;rw[h];exact h2
theorem qZ{s:Sv}(h:s ρ=some (.nx ρ'))(h2:g ρ'=X):iL (BJ s) g ρ=X:=by
 unfold iL BJ;rw[h];exact h2
theorem HH{c:Bv}(h:c ρ=some false)(h2:g ρ=X):iL (BJ (pL c xQ BK)) g ρ=X:=by
 unfold iL BJ pL;rw[h];exact h2
theorem jH{c:Bv}{k:gJ}(h:c ρ=some false)(h2:g ρ=X):iL (RM c k UP) g ρ=X:=by
 unfold iL RM;rw[h];exact h2
theorem mO{c:Bv}{k:gJ}(h:c ρ=some true)(h2:k ρ=some (.rt d l)):iL (RM c k UP) g ρ=some (.rt d l):=by
 unfold iL RM;rw[h,aB,if_pos rfl,h2];rfl
theorem fE{z:Nat}(h:f ρ=some (d,ρ'))(h2:aE z ρ'=some l):U3 z f ρ=some (.rt d l):=by
 unfold U3;rw[h,aB,h2];rfl
theorem fV{e:Ev}(h:e ρ=some d):U8 e ρ=some (d,ρ):=by unfold U8;rw[h];rfl
theorem mR:W3 ρ=some ([],ρ):=rfl
theorem bX{k:Rl}{ds:List D}{q:bI}(h:f ρ=some (d,ρ'))(h2:k ρ'=some (ds,q)):U0 f k ρ=some (d::ds,q):=by
 unfold U0;rw[h,aB,h2];rfl
theorem u6{k:Rl}{ds:List D}(h:k ρ=some (ds,ρ')):LO k ρ=some (.tup ds,ρ'):=by unfold LO;rw[h];rfl
theorem MB{F:List D->Option D}{k:Rl}{ds:List D}(h:k ρ=some (ds,ρ'))(h2:F ds=some d):U1 F k ρ=some (d,ρ'):=by
 unfold U1;rw[h,aB,h2];rfl
theorem MQ{o:D->D->Option D}{e:Ev}{x y:D}(h:e ρ=some x)(h2:f ρ=some (y,ρ'))(q:o x y=some d):W4 o e f ρ=some (d,ρ'):=by
 unfold W4;rw[h,aB,h2,aB,q];rfl
theorem mB{n:Nat}{a a' C:Addr}{fs fs':List (Str×D)}{es:List D}(h:g (a8 n (.ob a C fs::es))=some (.rt d (.ob a C fs'))):dW n g (.ob a C fs::es)=some (d,.ob a C fs'):=by
 show(g _).bind _=_;rw[h,aB];exact if_pos rfl
theorem MM{n:Nat}{a C:Addr}{fs fs':List (Str×D)}{es:List D}(h:g (a8 n (.ob a C fs::es))=some (.nx ρ))(h2:aE 0 ρ=some (.ob a C fs')):dW n g (.ob a C fs::es)=some (.non,.ob a C fs'):=by
 show(g _).bind _=_;rw[h,aB];show(aE 0 ρ).bind _=_;rw[h2,aB];exact if_pos rfl
end
section
variable {a:Addr}{K:D}{t:Str}{i:Nat}{r:List Nat}
theorem oG{e:Ev}{ρ:bI}(h:e ρ=some (Rr a K t i)):bN CR "at" e ρ=some (.int (i:Int)):=by unfold bN;rw[h];rfl
theorem pG{e:Ev}{ρ:bI}(h:e ρ=some (Rr a K t i)):bN CR "text" e ρ=some (.str t):=by unfold bN;rw[h];rfl
theorem FP{e:Ev}{ρ:bI}(h:e ρ=some (Rr a K t i)):bN CR "kinds" e ρ=some K:=by unfold bN;rw[h];rfl
theorem GW{ρ:bI}{e:Ev}{z j:Nat}(h:e ρ=some (.int (j:Int)))(h2:aE z ρ=some (Rr a K t i)):xF CR z "at" e ρ=some (.nx (ρ.set z (some (Rr a K t j)))):=by
 unfold xF;rw[h,aB,h2];rfl
theorem OC{y:Str}:fD [Rr a K t i,.str y]=some (.bl (zaW t y (i:Int))):=by
 unfold fD GR WZ;rw[pG (i:=i) (a:=a) (K:=K) (t:=t) rfl,aB,aA (x:=.str y) (xs:=[.int (i:Int)]) rfl (aA (oG (a:=a) (K:=K) (t:=t) rfl) rfl),aB];rfl
theorem jV{ρ:bI}{y:Str}{e:Ev}(h:aE 0 ρ=some (Rr a K t i))(h2:e ρ=some (.str y)):rE 0 fD (aH e aY) ρ=some (.bl (zaW t y (i:Int))):=by
 unfold rE;rw[aA h2 rfl,aB,h,aB];exact OC
theorem OB{y:Str}(h:Seen t i (y.cps.toList++r))(B:y.length<=1000):gC [Rr a K t i,.str y]=some (.non,Rr a K t (i+y.length)):=by
 have q:b4 [.str y]=some (.int (y.length:Int)):=if_pos (show bO y.length=true from decide_eq_true (by lia));refine MM (ρ:=[some (Rr a K t (i+y.length)),some (.str y)]) ?_ rfl;unfold GC;refine HH (e9 (c:=true) (aI ((jV (a:=a) (K:=K) (t:=t) (i:=i) rfl rfl).trans (by rw[uN h])))) ?_;exact qZ (GW (a:=a) (K:=K) (t:=t) (i:=i) (aC (oG (a:=a) (K:=K) (t:=t) rfl) (aD (aA rfl rfl) q) rfl) rfl) rfl
theorem M4{S:Str}{c:Nat}:jN (.str ⟨#[c]⟩) (.str S)=some (.bl (decide (c∈S.cps.toList))):=by
 show some (D.bl (!(zbd S ⟨#[c]⟩ 0 S.length 1).isEmpty))=_;rw[StrLaws.found_one]
theorem item_at{c:Nat}(h:Seen t i (c::r))(q:t.length<=100000):aO (.str t) (.int (i:Int))=some (.str ⟨#[c]⟩):=by
 have hi:t.cps.toList[i]?=some c:=by
  have:=congrArg (λl:List Nat=>l[0]?) h.2;simpa using this
 show(if bO t.length then(rP t.cps.toList (i:Int)).map (λc=>D.str ⟨#[c]⟩)else none)=_;rw[if_pos (show bO t.length=true from decide_eq_true (by lia)),cW hi];rfl
theorem sQ{S:Str}{st:Option D}(N:t.length<=100000)(U:∀c,r.head?=some c->c∉S.cps.toList):∀(w:List Nat) (i n:Nat),w.length<n->(∀c∈w,c∈S.cps.toList)->Seen t i (w++r)->
  cY (mC (c9 (aR DJ (bN CR "at" (aE 0)) (aT b4 (aH (bN CR "text" (aE 0)) aY)))) (c9 (aR jN (aR aO (bN CR "text" (aE 0)) (bN CR "at" (aE 0))) (aE 1)))) (xF CR 0 "at" (aR bD (bN CR "at" (aE 0)) (eC (.int 1)))) n [some (Rr a K t i),some (.str S),st]=some (.nx [some (Rr a K t (i+w.length)),some (.str S),st])
 | w,i,0,h,_,_=>absurd h (Nat.not_lt_zero _)
 | w,i,n+1,hn,hw,h=>by
  have W:b4 [.str t]=some (.int (t.length:Int)):=if_pos (show bO t.length=true from decide_eq_true (by lia));have F:aR DJ (bN CR "at" (aE 0)) (aT b4 (aH (bN CR "text" (aE 0)) aY)) [some (Rr a K t i),some (.str S),st]=some (.bl (decide ((i:Int)<(t.length:Int)))):=aC (oG (a:=a) (K:=K) (t:=t) rfl) (aD (aA (pG (a:=a) (K:=K) (i:=i) rfl) rfl) W) rfl;have J:∀ {c l},Seen t i (c::l)->aR jN (aR aO (bN CR "text" (aE 0)) (bN CR "at" (aE 0))) (aE 1) [some (Rr a K t i),some (.str S),st]=some (.bl (decide (c∈S.cps.toList))):=λh=>aC (aC (pG (a:=a) (K:=K) (i:=i) rfl) (oG (a:=a) (K:=K) (t:=t) rfl) (item_at h N)) rfl M4
  have q:=h.len;have B:∀b,mC (c9 (aR DJ (bN CR "at" (aE 0)) (aT b4 (aH (bN CR "text" (aE 0)) aY)))) (c9 (aR jN (aR aO (bN CR "text" (aE 0)) (bN CR "at" (aE 0))) (aE 1))) [some (Rr a K t i),some (.str S),st]=some false->cY (mC (c9 (aR DJ (bN CR "at" (aE 0)) (aT b4 (aH (bN CR "text" (aE 0)) aY)))) (c9 (aR jN (aR aO (bN CR "text" (aE 0)) (bN CR "at" (aE 0))) (aE 1)))) b (n+1) [some (Rr a K t i),some (.str S),st]=some (.nx [some (Rr a K t i),some (.str S),st]):=λb e=>by
   rw[cY,e,aB,if_neg (by decide)]
  cases w with
  | nil=>
   refine B _ ?_;cases r with
   | nil=>
    rw[zam,zaz]at q;exact dY (aI (F.trans (by rw[decide_eq_false (by lia)]))) (kU rfl rfl)
   | cons c r=>
    have q:i+(r.length+1)=t.length:=q;exact dY (aI (F.trans (by rw[decide_eq_true (by lia)]))) (mS rfl (aI ((J h).trans (by rw[decide_eq_false (U c rfl)]))))
  | cons c w=>
   have q:i+((w++r).length+1)=t.length:=q;have cn:mC (c9 (aR DJ (bN CR "at" (aE 0)) (aT b4 (aH (bN CR "text" (aE 0)) aY)))) (c9 (aR jN (aR aO (bN CR "text" (aE 0)) (bN CR "at" (aE 0))) (aE 1))) [some (Rr a K t i),some (.str S),st]=some true:=dY (aI (F.trans (by rw[decide_eq_true (by lia)]))) (mS rfl (aI ((J (c:=c) (l:=w++r) h).trans (by rw[decide_eq_true (hw c (YQ ..))]))));have ih:=sQ (st:=st) N U w (i+1) n (by simpa using hn) (λc Y=>hw c (YW _ Y)) (Seen.go (w:=[c]) h);rw[cY,cn,aB,if_pos rfl,GW (a:=a) (K:=K) (t:=t) (i:=i) (j:=i+1) (aC (oG (a:=a) (K:=K) (t:=t) rfl) rfl rfl) rfl,aB];refine ih.trans ?_;rw[Y7,show i+1+w.length=i+(w.length+1) by lia]
theorem GA{S:Str}{w:List Nat}(U:t.length<=90000)(N:∀c,r.head?=some c->c∉S.cps.toList)(hw:∀c∈w,c∈S.cps.toList)(h:Seen t i (w++r)):b7 [Rr a K t i,.str S]=some (.str ⟨w.toArray⟩,Rr a K t (i+w.length)):=by
 have B:=h.len;rw[ZG]at B;refine mB (a':=a) ?_;unfold nU;refine RV (d:=.int (i:Int)) (oG (a:=a) (K:=K) (t:=t) rfl) ?_;refine qZ (ρ':=[some (Rr a K t (i+w.length)),some (.str S),some (.int (i:Int))]) (sQ (by lia) N w i 100000 (by lia) hw h) ?_;refine fE (ρ':=[some (Rr a K t (i+w.length)),some (.str S),some (.int (i:Int))]) (fV ?_) rfl;have F:LK (.str t) (some (i:Int)) (some ((i+w.length:Nat):Int))=some (.str ⟨w.toArray⟩):=by
  show(if _ then _ else none)=_;rw[if_pos ⟨by lia,by lia,by lia,by lia⟩];have:((i+w.length:Nat):Int)-(i:Int)=(w.length:Int):=by lia
  rw[this,zaq,zaq,h.2,List.take_left]
 unfold LW;rw[pG (a:=a) (K:=K) (i:=i+w.length) rfl,aB];show(kF (aE 2) _).bind _=_;have J:kF (aE 2) [some (Rr a K t (i+w.length)),some (.str S),some (.int (i:Int))]=some (some (i:Int)):=rfl;have q:kF (bN CR "at" (aE 0)) [some (Rr a K t (i+w.length)),some (.str S),some (.int (i:Int))]=some (some ((i+w.length:Nat):Int)):=by
  unfold kF;rw[oG (a:=a) (K:=K) (t:=t) (i:=i+w.length) rfl];rfl
 rw[J,aB,q,aB];exact F
end
theorem AG{w:Str}{l:List Str}:lT (.str w) (.tup (l.map .str))=some (.bl (!decide (w∈l))):=by
 have e:=in_str (w:=w) (l:=l);have h1:(l.map D.str).all fG=true:=by
  rw[zck];exact List.all_eq_true.mpr λx _=>rfl
 have e:RN (.str w) (.tup (l.map .str))=_:=e;show u4 (.str w) (.tup (l.map .str))=_;unfold RN vA at e;unfold u4 vA;dsimp only at e ⊢;rw[if_pos ⟨rfl,h1⟩]at e ⊢;simp only[aG,Option.some.injEq,D.bl.injEq]at e ⊢;rw[e]
open Classical in
theorem K9{x:Str}{l:List Str}{i:Nat}(h:l.findIdx? (λy=>decide (y=x))=some i):lX (.tup (l.map .str)) (.str x)=some (.int (i:Int)):=by
 have e:∀l:List Str,(l.map D.str).findIdx? (λy=>decide (y=D.str x))=l.findIdx? (λy=>decide (y=x)):=by
  intro l;induction l with
  | nil=>rfl
  | cons a l ih=>
   rw[Y4,List.findIdx?_cons,List.findIdx?_cons,ih];simp[-YI,-YJ,aB,aG]
 have h1:(l.map D.str).all fG=true:=by
  rw[zck];exact List.all_eq_true.mpr λx _=>rfl
 unfold lX;dsimp only;rw[if_pos ⟨rfl,h1⟩,e,h];rfl
structure Ks(ks:List Str):Prop where
 nd:ks.Nodup
 ok:∀x∈ks,aP x=true
 ln:ks.length<=6
abbrev bV(ks:List Str):D:=.tup (ks.map .str)
noncomputable def kw(ks:List Str)(k:Int):Str:=ks.getD k.toNat ""
section
variable {ks:List Str}{k:Int}
theorem yR(q:0<=k)(h:k<(ks.length:Int)):ks[k.toNat]?=some (kw ks k):=by
 unfold kw;rw[zcR,zap (by lia)];rfl
theorem jD(q:0<=k)(h:k<(ks.length:Int)):kw ks k∈ks:=zbe (yR q h)
theorem kH(q:0<=k)(h:k<(ks.length:Int)):aO (bV ks) (.int k)=some (.str (kw ks k)):=by
 have e:=yR q h;obtain⟨j,rfl⟩:=zaP q;exact cW (by rw[ZJ];rw[zaq]at e;rw[e];rfl)
theorem AZ(g:Ks ks)(B:0<=k)(h:k<(ks.length:Int)):cE [bV ks,.str (kw ks k)]=some (.int k):=by
 have N:=yR B h;have q:=AG (w:=kw ks k) (l:=ks);rw[decide_eq_true (jD B h)]at q;have J:ks.findIdx? (λy=>decide (y=kw ks k))=some k.toNat:=by
  rw[List.findIdx?_eq_some_iff_getElem];obtain⟨lt,e⟩:=List.getElem?_eq_some_iff.mp N;refine⟨lt,decide_eq_true e,λi hi=>?_⟩;simp only[decide_eq_true_eq];intro z;have:=(List.getElem_inj (h₀:=by lia) (h₁:=lt) g.nd).mp (z.trans e.symm)
  lia
 have F:=K9 J;rw[show((k.toNat:Nat):Int)=k by lia]at F;refine aS ?_;unfold iT;exact(aL (ρ':=[some (bV ks),some (.str (kw ks k))]) (s_iff (aI (aC rfl rfl q)) rfl)).trans (aN (aC rfl rfl F))
end
abbrev LET:Str := "abcdefghijklmnopqrstuvwxyz"
theorem F7(c:Nat):c∈LET.cps.toList↔97<=c/\c<=122:=by
 have m:LET.cps.toList=[97,98,99,100,101,102,103,104,105,106,107,108,109,110,111,112,113,114,115,116,117,118,119,120,121,122]:=rfl;rw[m];simp only[YZ,Y0,or_false]
 omega
theorem F9(c:Nat):c∈("0123456789" : Str).cps.toList↔48<=c/\c<=57:=by
 have m:("0123456789" : Str).cps.toList=[48,49,50,51,52,53,54,55,56,57]:=rfl;rw[m];simp only[YZ,Y0,or_false]
 omega
def Off(r:List Nat):Prop:=∀c,r.head?=some c->¬ (97<=c/\c<=122)
theorem uV(x:Str):(⟨x.cps.toList.toArray⟩:Str)=x:=by cases x;rfl
section
variable {a:Addr}{K:D}{t:Str}{i:Nat}{r:List Nat}{ks:List Str}
theorem uO{x:Str}(F:t.length<=90000)(B:∀c∈x.cps.toList,97<=c/\c<=122)(J:Off r)(h:Seen t i (x.cps.toList++r)):b7 [Rr a K t i,.str LET]=some (.str x,Rr a K t (i+x.length)):=by
 have:=GA (a:=a) (K:=K) (S:=LET) F (λc e z=>J c e ((F7 c).mp z)) (λc q=>(F7 c).mpr (B c q)) h;rw[uV,cC]at this;exact this
theorem oX{k:Int}(g:Ks ks)(q:0<=k)(hk:k<(ks.length:Int))(B:t.length<=90000)(F:Off r)(h:Seen t i ((kw ks k).cps.toList++r)):fP [Rr a (bV ks) t i]=some (.int k,Rr a (bV ks) t (i+(kw ks k).length)):=by
 refine mB (a':=a) ?_;unfold n6;exact fE (ρ':=[some (Rr a (bV ks) t (i+(kw ks k).length))]) (MB (bX (fV (FP (a:=a) (t:=t) (i:=i) rfl)) (bX (bG rfl rfl (uO B (dS (g.ok _ (jD q hk))) F h)) mR)) (AZ g q hk)) rfl
theorem GF{n:Int}(q:0<=n)(J:n<10^60)(F:t.length<=90000)(N:∀c,r.head?=some c->¬ (48<=c/\c<=57))(h:Seen t i ((d8 n).cps.toList++r)):fZ [Rr a K t i]=some (.int n,Rr a K t (i+(d8 n).length)):=by
 refine mB (a':=a) ?_;have e:=GA (a:=a) (K:=K) (S := "0123456789") F (λc e z=>N c e ((F9 c).mp z)) (λc B=>(F9 c).mpr (gR q c B)) h;rw[uV,cC]at e;unfold j5;exact fE (ρ':=[some (Rr a K t (i+(d8 n).length))]) (MB (bX (bG rfl rfl e) mR) (FL q J)) rfl
end
inductive Pt where
 | nm (x:Str)|nu (n k:Int)|u1 (f:Str) (a:Pt)|u2 (f:Str) (a b:Pt)|lt (x:Str) (a b:Pt)|pk (c k:Int) (a b d:Pt)|ag (n k:Int) (x:Str) (a b:Pt)
def pD:Pt->D
 | .nm x=>.tup [.str "name",.str x]
 | .nu n k=>.tup [.str "number",.int n,.int k]
 | .u1 f a=>.tup [.str "use",.str f,.tup [pD a]]
 | .u2 f a b=>.tup [.str "use",.str f,.tup [pD a,pD b]]
 | .lt x a b=>.tup [.str "let",.str x,pD a,pD b]
 | .pk c k a b d=>.tup [.str "pick",.int c,.int k,pD a,pD b,pD d]
 | .ag n k x a b=>.tup [.str "again",.int n,.int k,.str x,pD a,pD b]
noncomputable def dep:Pt->Nat
 | .nm _=>1
 | .nu _ _=>1
 | .u1 _ a=>dep a+1
 | .u2 _ a b=>max (dep a) (dep b)+1
 | .lt _ a b=>max (dep a) (dep b)+1
 | .pk _ _ a b d=>max (dep a) (max (dep b) (dep d))+1
 | .ag _ _ _ a b=>max (dep a) (dep b)+1
def tx(ks:List Str):Pt->List Nat
 | .nm x=>x.cps.toList
 | .nu n k=>(d8 n).cps.toList++([58]++(kw ks k).cps.toList)
 | .u1 f a=>f.cps.toList++([40]++(tx ks a++[41]))
 | .u2 f a b=>f.cps.toList++([40]++(tx ks a++([32]++(tx ks b++[41]))))
 | .lt x a b=>[108,101,116]++([32]++(x.cps.toList++([32,61,32]++(tx ks a++([32,105,110,32]++tx ks b)))))
 | .pk c k a b d=>[112,105,99,107]++([32]++((kw ks c).cps.toList++([32]++((kw ks k).cps.toList++([32]++([40]++(tx ks a++([32]++(tx ks b++([32]++(tx ks d++[41])))))))))))
 | .ag n k x a b=>[97,103,97,105,110]++([32]++((d8 n).cps.toList++([32]++((kw ks k).cps.toList++([32]++(x.cps.toList++([32]++([40]++(tx ks a++([32]++(tx ks b++[41])))))))))))
def Wf(ks:List Str):Pt->Prop
 | .nm x=>aP x=true
 | .nu n k=>(0<=n/\n<10^60)/\0<=k/\k<(ks.length:Int)
 | .u1 f a=>aP f=true/\Wf ks a
 | .u2 f a b=>aP f=true/\Wf ks a/\Wf ks b
 | .lt x a b=>aP x=true/\Wf ks a/\Wf ks b
 | .pk c k a b d=>(0<=c/\c<(ks.length:Int))/\(0<=k/\k<(ks.length:Int))/\Wf ks a/\Wf ks b/\Wf ks d
 | .ag n k x a b=>(0<=n/\n<=9)/\(0<=k/\k<(ks.length:Int))/\aP x=true/\Wf ks a/\Wf ks b
structure Stop(r:List Nat):Prop where
 off:Off r
 br:r.head?≠some 40
theorem yY{c:Nat}{r:List Nat}(h:c<97)(n:c≠40):Stop (c::r):=⟨λx e=>by cases e;lia,λe=>n (by cases e;rfl)⟩
theorem kE{c:Nat}{r:List Nat}(h:c<97):Off (c::r):=λx e=>by cases e;lia
def DK(ks:List Str)(G:Fq)(p:Pt):Prop:=∀(ad:Addr) (t:Str) (i d:Nat) (r:List Nat),Seen t i (tx ks p++r)->Stop r->d+dep p<=25->t.length<=90000->G [Rr ad (bV ks) t i,.int (d:Int)]=some (pD p,Rr ad (bV ks) t (i+(tx ks p).length))
theorem mU{ad:Addr}{K:D}{t:Str}{i:Nat}{r w:List Nat}{y:Str}(B:y.cps.toList=w)(h:Seen t i (w++r))(q:w.length<=1000):gC [Rr ad K t i,.str y]=some (.non,Rr ad K t (i+w.length)):=by
 subst B;rw[cC]at q ⊢;exact OB h q
theorem jY{d:Nat}:bD (.int (d:Int)) (.int 1)=some (.int ((d+1:Nat):Int)):=by rw[q_addAI];rfl
def bt(ks:List Str)(l:List Pt):List Nat:=l.flatMap λp=>32::tx ks p
theorem SH{i:Nat}{f:Rv}{ρ ρ':bI}{l0 l:List D}{d:D}(q:aE i ρ=some (.lst l0))(h:f ρ=some (d,ρ'))(h2:aE i ρ'=some (.lst l))(B:l.length<=1000):tK i f ρ=some (.nx (ρ'.set i (some (.lst (l++[d]))))):=by
 unfold tK;rw[q,aB];dsimp only;rw[h,aB,h2,aB];dsimp only;rw[if_pos (show bO l.length=true from decide_eq_true (by lia))]
theorem R6{f:Rv}{ρ ρ':bI}{d:D}(h:f ρ=some (d,ρ')):xJ f ρ=some (.nx ρ'):=by unfold xJ;rw[h];rfl
section
variable {ks:List Str}{G:Fq}{ad:Addr}{t:Str}{d:Nat}{r:List Nat}
theorem zV{l:List Pt}:Stop (bt ks l++41::r):=by
 cases l with
 | nil=>exact yY (by decide) (by decide)
 | cons p l=>exact yY (by decide) (by decide)
theorem wW(B:t.length<=90000):∀(l:List Pt) (i n:Nat) (done:List D),l.length<n->done.length+l.length<=1000->(∀p∈l,DK ks G p/\d+1+dep p<=25)->Seen t i (bt ks l++41::r)->
  cY (c9 (rE 0 fD (aH (eC (.str " ")) aY))) (eK (xJ (d7 0 gC (aH (eC (.str " ")) aY))) (tK 2 (d7 0 G (aH (aR bD (aE 1) (eC (.int 1))) aY)))) n [some (Rr ad (bV ks) t i),some (.int (d:Int)),some (.lst done)]=some (.nx [some (Rr ad (bV ks) t (i+(bt ks l).length)),some (.int (d:Int)),some (.lst (done++l.map pD))])
 | l,i,0,_,h,_,_,_=>absurd h (by lia)
 | [],i,n+1,done,_,_,_,h=>by
  have e:c9 (rE 0 fD (aH (eC (.str " ")) aY)) [some (Rr ad (bV ks) t i),some (.int (d:Int)),some (.lst done)]=some false:=aI ((jV (a:=ad) (K:=bV ks) (t:=t) (i:=i) rfl rfl).trans (congrArg (λb=>some (D.bl b)) (MK (c:=32) h (show some 41≠some 32 by decide))));rw[cY,e,aB,if_neg (by decide)];simp_all[bt]
 | p::l,i,n+1,done,hn,hs,hp,h=>by
  have h1:Seen t i ([32]++(tx ks p++(bt ks l++41::r))):=by simpa[bt]using h
  have h2:=h1.go;obtain⟨rd,U⟩:=hp p (YQ ..);have e:c9 (rE 0 fD (aH (eC (.str " ")) aY)) [some (Rr ad (bV ks) t i),some (.int (d:Int)),some (.lst done)]=some true:=aI ((jV (a:=ad) (K:=bV ks) (t:=t) (i:=i) rfl rfl).trans (by rw[uN (y := " ") h1]));have J:xJ (d7 0 gC (aH (eC (.str " ")) aY)) [some (Rr ad (bV ks) t i),some (.int (d:Int)),some (.lst done)]=some (.nx [some (Rr ad (bV ks) t (i+1)),some (.int (d:Int)),some (.lst done)]):=R6 (bG rfl rfl (mU rfl h1 (by decide)));have N:tK 2 (d7 0 G (aH (aR bD (aE 1) (eC (.int 1))) aY)) [some (Rr ad (bV ks) t (i+1)),some (.int (d:Int)),some (.lst done)]=some (.nx [some (Rr ad (bV ks) t (i+1+(tx ks p).length)),some (.int (d:Int)),some (.lst (done++[pD p]))]):=SH (l0:=done) (l:=done) rfl (bG (aA (aC rfl rfl jY) rfl) rfl (rd ad t (i+1) (d+1) _ h2 zV (by lia) B)) rfl (by lia);have ih:=wW B l (i+1+(tx ks p).length) n (done++[pD p]) (by simpa using hn) (by simp[-YI,-YJ,aB,aG]at hs ⊢;lia) (λq F=>hp q (YW _ F)) h2.go;rw[cY,e,aB,if_pos rfl,aL J,N,aB];refine ih.trans ?_;have:i+1+(tx ks p).length+(bt ks l).length=i+(bt ks (p::l)).length:=by simp_all[bt];lia
  rw[this];simp[-YI,-YJ,aB,aG]
theorem mG{p:Pt}{l:List Pt}{i:Nat}(J:t.length<=90000)(hn:l.length<=10)(B:∀q∈p::l,DK ks G q/\d+1+dep q<=25)(h:Seen t i ([40]++(tx ks p++(bt ks l++([41]++r))))) :
  dW 3 (dA G) [Rr ad (bV ks) t i,.int (d:Int)]=some (.tup (pD p::l.map pD),Rr ad (bV ks) t (i+1+(tx ks p).length+(bt ks l).length+1)):=by
 obtain⟨rd,Y⟩:=B p (YQ ..);refine mB (a':=ad) ?_;unfold dA;refine iG (bG rfl rfl (mU (w:=[40]) rfl h (by decide))) ?_;have h1:=h.go;have W:A7 2 (d7 0 G (aH (aR bD (aE 1) (eC (.int 1))) aY)) [some (Rr ad (bV ks) t (i+1)),some (.int (d:Int)),none]=some (.nx [some (Rr ad (bV ks) t (i+1+(tx ks p).length)),some (.int (d:Int)),some (.lst [pD p])]):=by
  unfold A7;rw[bG (z:=0) (F:=G) (d:=pD p) (l':=Rr ad (bV ks) t (i+1+(tx ks p).length)) (aA (aC rfl rfl jY) rfl) rfl (rd ad t (i+1) (d+1) _ h1 zV (by lia) J)];rfl
 refine qZ W ?_;refine qZ (wW (done:=[pD p]) (ks:=ks) (ad:=ad) J l _ 100000 (by lia) (by simp[-YI,-YJ,aB,aG];lia) (λq U=>B q (YW _ U)) h1.go) ?_;refine iG (bG rfl rfl (mU (w:=[41]) rfl (h1.go.go) (by decide))) ?_;refine fE (d:=.tup ([pD p]++l.map pD)) (fV (aD (aA rfl rfl) ?_)) rfl;have N:bO ([pD p]++l.map pD).length=true:=decide_eq_true (by simp[-YI,-YJ,aB,aG];lia)
 first|exact if_pos N|(simp_all[qX];done)|rfl
end
theorem yX{z:Nat}{q:List (Str×(List D->Option (D×D)))}{B:Ev}{F:Lv}{ρ:bI}{s:Str}{p:Str×(List D->Option (D×D))}{x:D×bI}(h1:B ρ=some (.str s))(h2:(q.find? λp=>decide (p.1=s))=some p)(J:d7 z p.2 F ρ=some x):u7 z q B F ρ=some x:=by
 unfold u7;rw[h1,aB];rw[<- J];unfold d7;have e:MG q (.str s)=p.2:=by
  funext ds;show(q.find? λp=>decide (p.1=s)).bind _=_;rw[h2,aB]
 rw[e]
theorem t5{x:Str}(h:aP x=true):((["let", "pick", "again"]:List Str).any λk=>decide (k=x))=false/\x ≠ "" := by
 unfold aP at h;simp only[ZK,decide_eq_true_eq,Bool.not_eq_true']at h;obtain⟨⟨⟨h1,_⟩,_⟩,h2⟩:=h;refine⟨?_,λz=>?_⟩
 ·simp only[zao,List.any_nil,Bool.or_false,Bool.or_eq_false_iff,decide_eq_false_iff_not]
  simp[-YI,-YJ,aB,aG]at h2;exact⟨λz=>h2.1 z.symm,λz=>h2.2.2.1 z.symm,λz=>h2.2.2.2 z.symm⟩
 ·subst z
  exact absurd h1 (by decide)
theorem IM:∀c∈("let" : Str).cps.toList,97<=c/\c<=122:=by decide
theorem EH:∀c∈("pick" : Str).cps.toList,97<=c/\c<=122:=by decide
theorem CH:∀c∈("again" : Str).cps.toList,97<=c/\c<=122:=by decide
section
variable {ks:List Str}{G:Fq}{ad:Addr}{t:Str}{d i:Nat}{r:List Nat}
theorem S7{x:Str}{a b:Pt}(q:t.length<=90000)(N:aP x=true)(J:DK ks G a)(U:DK ks G b)(Y:d+1+max (dep a) (dep b)<=25)(st:Stop r)(h:Seen t i ([32]++(x.cps.toList++([32,61,32]++(tx ks a++([32,105,110,32]++(tx ks b++r))))))) :
  dW 4 (kJ G) [Rr ad (bV ks) t i,.int (d:Int)]=some (pD (.lt x a b),Rr ad (bV ks) t (i+1+x.cps.toList.length+3+(tx ks a).length+4+(tx ks b).length)):=by
 have h1:=h.go;have h2:=h1.go;have B:=h2.go;have F:=B.go;have W:=F.go;refine mB (a':=ad) ?_;unfold kJ;refine iG (bG rfl rfl (mU rfl h (by decide))) ?_;refine gE (bG rfl rfl (by have:=uO (a:=ad) (K:=bV ks) q (dS N) (kE (by decide)) h1;rw[<- cC]at this;exact this)) ?_;refine iG (bG rfl rfl (mU rfl h2 (by decide))) ?_;refine gE (bG (aA (aC rfl rfl jY) rfl) rfl (J ad t _ (d+1) _ B (yY (by decide) (by decide)) (by lia) q)) ?_;refine iG (bG rfl rfl (mU rfl F (by decide))) ?_;exact fE (u6 (bX (fV rfl) (bX (fV rfl) (bX (fV rfl) (bX (bG (aA (aC rfl rfl jY) rfl) rfl (U ad t _ (d+1) _ W st (by lia) q)) mR))))) rfl
theorem F4{p:Pt}{l:List Pt}{n:Int}(F:t.length<=90000)(N:l.length<=10)(B:∀q∈p::l,DK ks G q/\d+1+dep q<=25)(e:n=(l.length:Int)+1)(h:Seen t i ([32]++([40]++(tx ks p++(bt ks l++([41]++r)))))) :
  dW 4 (fM G) [Rr ad (bV ks) t i,.int (d:Int),.int n]=some (.tup (pD p::l.map pD),Rr ad (bV ks) t (i+1+1+(tx ks p).length+(bt ks l).length+1)):=by
 have J:b4 [.tup (pD p::l.map pD)]=some (.int n):=by
  rw[e];simp_all[b4]
 refine mB (a':=ad) ?_;unfold fM;refine iG (bG rfl rfl (mU rfl h (by decide))) ?_;refine gE (bG rfl rfl (mG F N B h.go)) ?_;refine HH (aI (aC (aD (aA rfl rfl) J) rfl ?_)) ?_
 ·exact(q_neI ..).trans (by simp[-YI,-YJ,aB,aG])
 ·exact fE (fV rfl) rfl
theorem NX{c k:Int}{a b s:Pt}(g:Ks ks)(F:t.length<=90000)(N:0<=c/\c<(ks.length:Int))(hk:0<=k/\k<(ks.length:Int))(U:DK ks G a)(rb:DK ks G b)(W:DK ks G s)(hd:d+1+max (dep a) (max (dep b) (dep s))<=25)(h:Seen t i ([32]++((kw ks c).cps.toList++([32]++((kw ks k).cps.toList++([32]++([40]++(tx ks a++(bt ks [b,s]++([41]++r)))))))))) :
  dW 4 (i9 G) [Rr ad (bV ks) t i,.int (d:Int)]=some (pD (.pk c k a b s),Rr ad (bV ks) t (i+1+(kw ks c).cps.toList.length+1+(kw ks k).cps.toList.length+1+1+(tx ks a).length+(bt ks [b,s]).length+1)):=by
 have h1:=h.go;have h2:=h1.go;have J:=h2.go;have Y:=J.go;have B:∀q∈[a,b,s],DK ks G q/\d+1+dep q<=25:=λq B=>by
  simp only[YZ,Y0,or_false]at B;rcases B with rfl|rfl|rfl
  ·exact⟨U,by lia⟩
  ·exact⟨rb,by lia⟩
  ·exact⟨W,by lia⟩
 refine mB (a':=ad) ?_;unfold i9;refine iG (bG rfl rfl (mU rfl h (by decide))) ?_;refine gE (bG rfl rfl (by have:=oX (a:=ad) g N.1 N.2 F (kE (by decide)) h1;rw[<- cC]at this;exact this)) ?_;refine iG (bG rfl rfl (mU rfl h2 (by decide))) ?_;refine gE (bG rfl rfl (by have:=oX (a:=ad) g hk.1 hk.2 F (kE (by decide)) J;rw[<- cC]at this;exact this)) ?_;exact fE (MQ rfl (bG rfl rfl (F4 (n:=3) F (by simp[-YI,-YJ,aB,aG]) B rfl Y)) rfl) rfl
theorem J6{n k:Int}{x:Str}{a b:Pt}(g:Ks ks)(B:t.length<=90000)(hn:0<=n/\n<=9)(hk:0<=k/\k<(ks.length:Int))(hx:aP x=true)(W:DK ks G a)(rb:DK ks G b)(hd:d+1+max (dep a) (dep b)<=25)(h:Seen t i ([32]++((d8 n).cps.toList++([32]++((kw ks k).cps.toList++([32]++(x.cps.toList++([32]++([40]++(tx ks a++(bt ks [b]++([41]++r)))))))))))) :
  dW 5 (g6 G) [Rr ad (bV ks) t i,.int (d:Int)]=some (pD (.ag n k x a b),Rr ad (bV ks) t (i+1+(d8 n).cps.toList.length+1+(kw ks k).cps.toList.length+1+x.cps.toList.length+1+1+(tx ks a).length+(bt ks [b]).length+1)):=by
 have h1:=h.go;have h2:=h1.go;have J:=h2.go;have N:=J.go;have U:=N.go;have Y:=U.go;have F:∀q∈[a,b],DK ks G q/\d+1+dep q<=25:=λq F=>by
  simp only[YZ,Y0,or_false]at F;rcases F with rfl|rfl
  ·exact⟨W,by lia⟩
  ·exact⟨rb,by lia⟩
 refine mB (a':=ad) ?_;unfold g6;refine iG (bG rfl rfl (mU rfl h (by decide))) ?_;refine gE (bG rfl rfl (by have:=GF (a:=ad) (K:=bV ks) hn.1 (by lia) B (λc e=>by cases e;lia) h1;rw[<- cC]at this;exact this)) ?_;refine iG (bG rfl rfl (mU rfl h2 (by decide))) ?_;refine gE (bG rfl rfl (by have:=oX (a:=ad) g hk.1 hk.2 B (kE (by decide)) J;rw[<- cC]at this;exact this)) ?_;refine iG (bG rfl rfl (mU rfl N (by decide))) ?_;refine gE (bG rfl rfl (by have:=uO (a:=ad) (K:=bV ks) B (dS hx) (kE (by decide)) U;rw[<- cC]at this;exact this)) ?_;exact fE (MQ rfl (bG rfl rfl (F4 (n:=2) B (by simp[-YI,-YJ,aB,aG]) F rfl Y)) rfl) rfl
end
theorem eE:∀p:Pt,1<=dep p
 | .nm _=>YS _
 | .nu _ _=>YS _
 | .u1 _ _=>zbE ..
 | .u2 _ _ _=>zbE ..
 | .lt _ _ _=>zbE ..
 | .pk _ _ _ _ _=>zbE ..
 | .ag _ _ _ _ _=>zbE ..
section
variable {ks:List Str}{G:Fq}{ad:Addr}{t:Str}{d i:Nat}{r:List Nat}
theorem dO{X:Option OutR}{w:Str}(J:d<=24)(B:t.length<=90000)(hw:∀c∈w.cps.toList,97<=c/\c<=122)(F:Off r)(h:Seen t i (w.cps.toList++r)){g:gJ}(q:g [some (Rr ad (bV ks) t (i+w.length)),some (.int (d:Int)),some (.str w),none]=X) :
  iL (BJ (pL (c9 (aR DC (aE 1) (eC (.int 24)))) xQ BK)) (iL (BJ (tO 2 (d7 0 b7 (aH (eC (.str LET)) aY)))) g) [some (Rr ad (bV ks) t i),some (.int (d:Int)),none,none]=X:=by
 refine HH (aI (aC rfl rfl ?_)) ?_
 ·show some (D.bl (decide _))=_
  rw[decide_eq_false (by lia)]
 ·exact gE (bG rfl rfl (uO B hw F h)) q
theorem rB{w:Str}{ρ:bI}{b:Bool}(h:aE 2 ρ=some (.str w))(e:((["let", "pick", "again"]:List Str).any λk=>decide (k=w))=b):c9 (HM ["let", "pick", "again"] (aE 2)) ρ=some b:=by
 refine aI ?_;unfold HM;rw[h,aB];exact congrArg (λb=>some (D.bl b)) e
theorem QZ{w:Str}{ρ:bI}(h:aE 2 ρ=some (.str w))(n:w ≠ ""):c9 (aR rN (aE 2) (eC (.str ""))) ρ=some false:=aI (aC h rfl ((q_eqS ..).trans (by rw[decide_eq_false n])))
theorem bY(g:Ks ks):∀(m:Nat) (p:Pt),Wf ks p->dep p<=m->DK ks (RP m) p
 | 0,p,_,h=>absurd h (by have:=eE p;lia)
 | m+1,p,wf,J=>by
  intro ad t i d r h st N F;have dp:=eE p;have B:d<=24:=by lia
  refine mB (a':=ad) ?_;unfold nK;cases p with
  | nm x=>
   have h:Seen t i (x.cps.toList++r):=h;have wf:aP x=true:=wf;obtain⟨W,n2⟩:=t5 wf;have e:(tx ks (.nm x)).length=x.length:=cC x;rw[e];refine dO B F (dS wf) st.off h ?_;refine jH (rB rfl W) (jH (QZ rfl n2) (jH ?_ (fE (fV rfl) rfl)));refine aI ((jV (a:=ad) (K:=bV ks) (t:=t) (i:=i+x.length) rfl rfl).trans (congrArg (λb=>some (D.bl b)) (MK (c:=40) ?_ st.br)));have:=h.go
   rwa [cC]at this
  | nu n k=>
   obtain⟨⟨n0,W⟩,k0,k1⟩:(0<=n/\n<10^60)/\0<=k/\k<(ks.length:Int):=wf;have h1:Seen t i ((d8 n).cps.toList++([58]++((kw ks k).cps.toList++r))):=by simpa[tx]using h
   have ln:=gB n0 W;have hr:Off ((d8 n).cps.toList++([58]++((kw ks k).cps.toList++r))):=λc e=>by
    cases q:(d8 n).cps.toList with
    | nil=>rw[<- cC,q]at ln;exact absurd ln.1 (by decide)
    | cons x l=>
     rw[q]at e;have:=gR n0 x (by rw[q];exact YQ ..);cases e
     lia
   refine dO (w := "") B F (λc hc=>nomatch hc) hr (h1.to (Nat.add_zero _)) ?_;refine jH (rB rfl (by decide)) (mO (aI (aC rfl rfl ((q_eqS ..).trans (by rw[decide_eq_true rfl])))) ?_);refine gE (bG rfl rfl (by have:=GF (a:=ad) (K:=bV ks) n0 W F (λc e=>by cases e;lia) h1;rw[<- cC]at this;exact this)) ?_;refine iG (bG rfl rfl (mU rfl h1.go (by decide))) ?_;refine(fE (u6 (bX (fV rfl) (bX (fV rfl) (bX (bG rfl rfl (by have:=oX (a:=ad) g k0 k1 F st.off h1.go.go;rw[<- cC]at this;exact this)) mR)))) rfl).trans ?_;have:i+(d8 n).cps.toList.length+[58].length+(kw ks k).cps.toList.length=i+(tx ks (.nu n k)).length:=by simp_all[tx];lia
   rw[this];rfl
  | u1 f a=>
   obtain⟨hf,U⟩:aP f=true/\Wf ks a:=wf;have h1:Seen t i (f.cps.toList++([40]++(tx ks a++(bt ks []++([41]++r))))):=by simpa[tx,bt]using h
   have J:dep a+1<=m+1:=J;have N:d+(dep a+1)<=25:=N;have ra:=bY g m a U (by lia);have h2:=h1.go;rw[cC]at h2;obtain⟨W,n2⟩:=t5 hf;refine dO B F (dS hf) (kE (by decide)) h1 ?_;refine jH (rB rfl W) (jH (QZ rfl n2) (mO (aI ((jV (a:=ad) (K:=bV ks) (t:=t) (i:=i+f.length) rfl rfl).trans (congrArg (λb=>some (D.bl b)) (uN (y := "(") h2)))) ?_));refine(fE (u6 (bX (fV rfl) (bX (fV rfl) (bX (bG rfl rfl (mG (ad:=ad) (d:=d) (l:=[]) F (by simp[-YI,-YJ,aB,aG]) (λq hq=>by cases List.mem_singleton.mp hq;exact⟨ra,by lia⟩) h2)) mR)))) rfl).trans ?_;have:i+f.length+1+(tx ks a).length+(bt ks []).length+1=i+(tx ks (.u1 f a)).length:=by simp_all[tx,bt];rw[<- cC f];simp[-YI,-YJ,aB,aG];lia
   rw[this];rfl
  | u2 f a b=>
   obtain⟨hf,U,Y⟩:aP f=true/\Wf ks a/\Wf ks b:=wf;have h1:Seen t i (f.cps.toList++([40]++(tx ks a++(bt ks [b]++([41]++r))))):=by simpa[tx,bt]using h
   have J:max (dep a) (dep b)+1<=m+1:=J;have N:d+(max (dep a) (dep b)+1)<=25:=N;have ra:=bY g m a U (by lia);have rb:=bY g m b Y (by lia);have h2:=h1.go;rw[cC]at h2;obtain⟨W,n2⟩:=t5 hf;refine dO B F (dS hf) (kE (by decide)) h1 ?_;refine jH (rB rfl W) (jH (QZ rfl n2) (mO (aI ((jV (a:=ad) (K:=bV ks) (t:=t) (i:=i+f.length) rfl rfl).trans (congrArg (λb=>some (D.bl b)) (uN (y := "(") h2)))) ?_));refine(fE (u6 (bX (fV rfl) (bX (fV rfl) (bX (bG rfl rfl (mG (ad:=ad) (d:=d) (l:=[b]) F (by simp[-YI,-YJ,aB,aG]) (λq hq=>by
    simp only[YZ,Y0,or_false]at hq;rcases hq with rfl|rfl
    ·exact⟨ra,by lia⟩
    ·exact⟨rb,by lia⟩) h2)) mR)))) rfl).trans ?_
   have:i+f.length+1+(tx ks a).length+(bt ks [b]).length+1=i+(tx ks (.u2 f a b)).length:=by simp_all[tx,bt];rw[<- cC f];simp[-YI,-YJ,aB,aG];lia
   rw[this];rfl
  | lt x a b=>
   obtain⟨hx,U,Y⟩:aP x=true/\Wf ks a/\Wf ks b:=wf;have J:max (dep a) (dep b)+1<=m+1:=J;have N:d+(max (dep a) (dep b)+1)<=25:=N;have h1:Seen t i (("let" : Str).cps.toList++([32]++(x.cps.toList++([32,61,32]++(tx ks a++([32,105,110,32]++(tx ks b++r))))))):=by
    have:Seen t i ([108,101,116]++([32]++(x.cps.toList++([32,61,32]++(tx ks a++([32,105,110,32]++(tx ks b++r))))))):=by simpa[tx]using h
    exact this
   refine dO (w := "let") B F IM (kE (by decide)) h1 ?_;refine mO (rB rfl (by decide)) ?_;refine(fE (yX (s := "let") rfl rfl (bG rfl rfl (S7 (ad:=ad) (d:=d) F hx (bY g m a U (by lia)) (bY g m b Y (by lia)) (by lia) st h1.go))) rfl).trans ?_;have:i+("let" : Str).cps.toList.length+1+x.cps.toList.length+3+(tx ks a).length+4+(tx ks b).length=i+(tx ks (.lt x a b)).length:=by
    have e:("let" : Str).cps.toList.length=3:=rfl;rw[e];simp_all[tx];lia
   rw[this]
  | pk c k a b s=>
   obtain⟨hc,hk,U,Y,ws⟩:(0<=c/\c<(ks.length:Int))/\(0<=k/\k<(ks.length:Int))/\Wf ks a/\Wf ks b/\Wf ks s:=wf;have J:max (dep a) (max (dep b) (dep s))+1<=m+1:=J;have N:d+(max (dep a) (max (dep b) (dep s))+1)<=25:=N;have h1:Seen t i (("pick" : Str).cps.toList++([32]++((kw ks c).cps.toList++([32]++((kw ks k).cps.toList++([32]++([40]++(tx ks a++(bt ks [b,s]++([41]++r)))))))))):=by
    have:Seen t i ([112,105,99,107]++([32]++((kw ks c).cps.toList++([32]++((kw ks k).cps.toList++([32]++([40]++(tx ks a++(bt ks [b,s]++([41]++r)))))))))):=by simpa[tx,bt]using h
    exact this
   refine dO (w := "pick") B F EH (kE (by decide)) h1 ?_;refine mO (rB rfl (by decide)) ?_;refine(fE (yX (s := "pick") rfl rfl (bG rfl rfl (NX (ad:=ad) (d:=d) g F hc hk (bY g m a U (by lia)) (bY g m b Y (by lia)) (bY g m s ws (by lia)) (by lia) h1.go))) rfl).trans ?_;have:i+("pick" : Str).cps.toList.length+1+(kw ks c).cps.toList.length+1+(kw ks k).cps.toList.length+1+1+(tx ks a).length+(bt ks [b,s]).length+1=i+(tx ks (.pk c k a b s)).length:=by
    have e:("pick" : Str).cps.toList.length=4:=rfl;rw[e];simp_all[tx,bt];lia
   rw[this]
  | ag n k x a b=>
   obtain⟨hn,hk,hx,U,Y⟩:(0<=n/\n<=9)/\(0<=k/\k<(ks.length:Int))/\aP x=true/\Wf ks a/\Wf ks b:=wf;have J:max (dep a) (dep b)+1<=m+1:=J;have N:d+(max (dep a) (dep b)+1)<=25:=N;have h1:Seen t i (("again" : Str).cps.toList++([32]++((d8 n).cps.toList++([32]++((kw ks k).cps.toList++([32]++(x.cps.toList++([32]++([40]++(tx ks a++(bt ks [b]++([41]++r)))))))))))):=by
    have:Seen t i ([97,103,97,105,110]++([32]++((d8 n).cps.toList++([32]++((kw ks k).cps.toList++([32]++(x.cps.toList++([32]++([40]++(tx ks a++(bt ks [b]++([41]++r)))))))))))):=by simpa[tx,bt]using h
    exact this
   refine dO (w := "again") B F CH (kE (by decide)) h1 ?_;refine mO (rB rfl (by decide)) ?_;refine(fE (yX (s := "again") rfl rfl (bG rfl rfl (J6 (ad:=ad) (d:=d) g F hn hk hx (bY g m a U (by lia)) (bY g m b Y (by lia)) (by lia) h1.go))) rfl).trans ?_;have:i+("again" : Str).cps.toList.length+1+(d8 n).cps.toList.length+1+(kw ks k).cps.toList.length+1+x.cps.toList.length+1+1+(tx ks a).length+(bt ks [b]).length+1=i+(tx ks (.ag n k x a b)).length:=by
    have e:("again" : Str).cps.toList.length=5:=rfl;rw[e];simp_all[tx,bt];lia
   rw[this]
end
def fW(ks:List Str)(p:Pt):Str:=⟨(tx ks p).toArray⟩
theorem fT(ks:List Str)(p:Pt):(fW ks p).cps.toList=tx ks p:=by simp_all[fW]
theorem P6{x:Addr}{K:D}{t:Str}:GD [.ob x CR [],K,.str t]=some (.non,Rr x K t 0):=by
 refine MM (ρ:=[some (Rr x K t 0),some K,some (.str t)]) ?_ rfl;unfold GP;refine qZ (ρ':=[some (.ob x CR [("kinds",K)]),some K,some (.str t)]) rfl ?_;refine qZ (ρ':=[some (.ob x CR [("kinds",K),("text",.str t)]),some K,some (.str t)]) rfl ?_;exact qZ (ρ':=[some (Rr x K t 0),some K,some (.str t)]) rfl rfl
theorem SL{i:Nat}{C:Addr}{F:List D->Option (D×D)}{q:Lv}{g:Sv}{ρ:bI}{ds:List D}{l:Addr->D}{o:Out}(h:q ρ=some ds)(h2:∀x,F (.ob x C []::ds)=some (.non,l x))(B:∀x,g (ρ.set i (some (l x)))=some o):Q4 i C F q g ρ=some o:=by
 unfold Q4;rw[h,aB];refine EE λx=>?_
 rw[h2,aB];exact B x
theorem N4{ks:List Str}{p:Pt}(g:Ks ks)(wf:Wf ks p)(U:dep p<=24)(N:(fW ks p).length<=90000):kC [bV ks,.str (fW ks p)]=some (pD p):=by
 refine aS ?_;unfold j8;refine SL (l:=λx=>Rr x (bV ks) (fW ks p) 0) rfl (λx=>P6) λx=>?_
 have q:Seen (fW ks p) 0 (tx ks p++[]):=⟨zaa _,by rw[List.drop_zero,fT,zam]⟩;have e:=bY g 25 p wf (by lia) x (fW ks p) 0 1 [] q ⟨(λc e=>nomatch e),(λe=>nomatch e)⟩ (by lia) N;have B:=q.len;rw[zam]at B;have J:b4 [.str (fW ks p)]=some (.int ((fW ks p).length:Int)):=if_pos (show bO (fW ks p).length=true from decide_eq_true (by lia));refine(aL (ρ':=[some (bV ks),some (.str (fW ks p)),some (Rr x (bV ks) (fW ks p) (0+(tx ks p).length)),some (pD p)]) ?_).trans ?_
 ·unfold tO
  rw[bG (z:=2) (F:=RP 25) rfl rfl e];rfl
 ·refine(aL (ρ':=[some (bV ks),some (.str (fW ks p)),some (Rr x (bV ks) (fW ks p) (0+(tx ks p).length)),some (pD p)]) (s_iff (aI (aC (oG (a:=x) (K:=bV ks) (t:=fW ks p) rfl) (aD (aA rfl rfl) J) ((q_neI ..).trans ?_))) rfl)).trans (aN rfl)
  rw[B];simp[-YI,-YJ,aB,aG]
theorem cat{a b:Str}(h:a.length+b.length<=1000000):bD (.str a) (.str b)=some (.str (a++b)):=by
 rw[q_addAS];exact if_pos (show bO _=true from decide_eq_true h)
theorem dH(a b:Str):(a++b).length=a.length+b.length:=by rw[<- cC,cT,ZG,cC,cC]
theorem zJ(ks:List Str)(p:Pt):(fW ks p).length=(tx ks p).length:=by rw[<- cC,fT]
theorem oK{q:List (Str×(List D->Option D))}{B:Ev}{F:Lv}{ρ:bI}{s:Str}{ds:List D}{p:Str×(List D->Option D)}{d:D}(h1:B ρ=some (.str s))(h2:F ρ=some ds)(J:(q.find? λp=>decide (p.1=s))=some p)(N:p.2 ds=some d):uU q B F ρ=some d:=by
 rw[q_callD,h1,aB,h2,aB];show(q.find? _).bind _=_;rw[J,aB,N]
def Sh(ks:List Str)(G:Fd)(p:Pt):Prop:=G [bV ks,pD p]=some (.str (fW ks p))
section
variable {ks:List Str}{G:Fd}
theorem qE:∀(l:List Pt) (o:Option D),(∀p∈l,Sh ks G p)->dF (a7 0) jX (aT G (aH (aE 1) (aH (aE 0) aY))) (l.map pD) [o,some (bV ks)]=some ((l.map (fW ks)).map .str)
 | [],_,_=>rfl
 | p::l,o,h=>pF (ρ':=[some (pD p),some (bV ks)]) rfl rfl (aD (aA rfl (aA rfl rfl)) (h p (YQ ..))) (qE l _ λq B=>h q (YW _ B))
def vH(ks:List Str)(l:List Pt):Str:=ZD " " (l.map (fW ks))
theorem oH(l:List Pt):(vH ks l).cps.toList=jn 32 (l.map (tx ks)):=by
 unfold vH;rw[show(" " : Str)=⟨#[32]⟩from rfl,h7,ZS];exact congrArg _ (List.map_congr_left λp _=>fT ks p)
theorem vT{l:List Pt}(J:l.length<=3)(F:∀p∈l,(tx ks p).length<=90000):iH (.str " ") (.lst ((l.map (fW ks)).map .str))=some (.str (vH ks l)):=by
 refine zE (c:=32) (B:=90000) (l:=l.map (fW ks)) (λw hw=>?_) (by rw[YV];lia);obtain⟨p,q,rfl⟩:=List.mem_map.mp hw;rw[zJ];exact F p q
theorem pI{l:List Pt}(J:l.length<=3)(h:∀p∈l,Sh ks G p/\(tx ks p).length<=90000)(N:(vH ks l).length<=900000):bC 2 (dB G) [bV ks,.tup (l.map pD)]=some (.str (("(" ++ vH ks l) ++ ")")):=by
 refine aS ?_;unfold dB;have F:=qE (ks:=ks) (G:=G) l none λp q=>(h p q).1
 have U:("(" : Str).length=1:=rfl;have W:(")" : Str).length=1:=rfl;have B:dU [none,some 0] (fF (aE 1)) (a7 0) jX (aT G (aH (aE 1) (aH (aE 0) aY))) [some (bV ks),some (.tup (l.map pD))]=some (.lst ((l.map (fW ks)).map .str)):=cV (by unfold fF;rfl) (by rw[YV];lia) F;exact aN (aC (aC rfl (aC rfl B (vT J λp q=>(h p q).2)) (cat (by lia))) rfl (cat (by rw[dH];lia)))
end
theorem BE{ks:List Str}{l:List Pt}(F:l.length<=3)(h:∀p∈l,(tx ks p).length<=90000):(vH ks l).length<=900000:=by
 have:=qI (c:=32) (B:=90000) (l:=l.map (fW ks)) λw hw=>by
  obtain⟨p,q,rfl⟩:=List.mem_map.mp hw;rw[zJ];exact h p q
 rw[YV]at this;show(ZD ⟨#[32]⟩ _).length<=_
 lia
theorem lits:("let " : Str).cps.toList=[108,101,116,32]/\(" = " : Str).cps.toList=[32,61,32]/\(" in " : Str).cps.toList=[32,105,110,32]/\(":" : Str).cps.toList=[58]/\("(" : Str).cps.toList=[40]/\(")" : Str).cps.toList=[41]/\(" (" : Str).cps.toList=[32,40]/\("pick" : Str).cps.toList=[112,105,99,107]/\("again" : Str).cps.toList=[97,103,97,105,110]:=⟨rfl,rfl,rfl,rfl,rfl,rfl,rfl,rfl,rfl⟩
theorem oY{l:List Str}(q:l.length<=6)(h:∀w∈l,w.length<=95000):iH (.str " ") (.lst (l.map .str))=some (.str (ZD " " l)):=zE (c:=32) (B:=95000) h (by lia)
theorem oS{ks:List Str}(g:Ks ks){k:Int}(q:0<=k)(h:k<(ks.length:Int)):(kw ks k).length<=80:=(cJ (g.ok _ (jD q h))).l
theorem G8{ks:List Str}{G:Fd}{a:Pt}(h:Sh ks G a)(l:(tx ks a).length<=90000):∀p∈[a],Sh ks G p/\(tx ks p).length<=90000:=λp q=>by cases List.mem_singleton.mp q;exact⟨h,l⟩
theorem w8{ks:List Str}{G:Fd}{a b:Pt}(h:Sh ks G a)(l:(tx ks a).length<=90000)(h2:Sh ks G b)(B:(tx ks b).length<=90000):∀p∈[a,b],Sh ks G p/\(tx ks p).length<=90000:=λp q=>by
 rcases List.mem_cons.mp q with rfl|q
 ·exact⟨h,l⟩
 ·exact G8 h2 B p q
theorem AY{ks:List Str}{G:Fd}{a b c:Pt}(h:Sh ks G a)(l:(tx ks a).length<=90000)(h2:Sh ks G b)(J:(tx ks b).length<=90000)(B:Sh ks G c)(F:(tx ks c).length<=90000):∀p∈[a,b,c],Sh ks G p/\(tx ks p).length<=90000:=λp q=>by
 rcases List.mem_cons.mp q with rfl|q
 ·exact⟨h,l⟩
 ·exact w8 h2 J B F p q
section
variable {ks:List Str}
theorem QV{f:Str}{a:Pt}:f++(("(" ++ vH ks [a]) ++ ")")=fW ks (.u1 f a):=rK (by
 obtain⟨_,_,_,_,B,q,_⟩:=lits;rw[fT,cT,cT,cT,oH,B,q];simp_all[jn,tx])
theorem QU{f:Str}{a b:Pt}:f++(("(" ++ vH ks [a,b]) ++ ")")=fW ks (.u2 f a b):=rK (by
 obtain⟨_,_,_,_,B,q,_⟩:=lits;rw[fT,cT,cT,cT,oH,B,q];simp_all[jn,tx])
theorem T8{n k:Int}:(d8 n ++ ":")++kw ks k=fW ks (.nu n k):=rK (by
 obtain⟨_,_,_,q,_⟩:=lits;rw[fT,cT,cT,q];simp_all[tx])
theorem LQ{x:Str}{a b:Pt}:(((("let " ++ x) ++ " = ")++fW ks a) ++ " in ")++fW ks b=fW ks (.lt x a b):=rK (by
 obtain⟨F,q,B,_⟩:=lits;rw[fT,cT,cT,cT,cT,cT,F,q,B,fT,fT];simp_all[tx])
theorem V4{c k:Int}{a b s:Pt}:ZD " " ["pick",kw ks c,kw ks k,("(" ++ vH ks [a,b,s]) ++ ")"]=fW ks (.pk c k a b s):=rK (by
 obtain⟨_,_,_,_,F,q,_,B,_⟩:=lits;rw[fT,show(" " : Str)=⟨#[32]⟩from rfl,h7];simp only[Y4,za7,jn];rw[cT,cT,oH,F,q,B];simp_all[jn,tx])
theorem WL{n k:Int}{x:Str}{a b:Pt}:ZD " " ["again",d8 n,kw ks k,x,("(" ++ vH ks [a,b]) ++ ")"]=fW ks (.ag n k x a b):=rK (by
 obtain⟨_,_,_,_,F,q,_,_,B⟩:=lits;rw[fT,show(" " : Str)=⟨#[32]⟩from rfl,h7];simp only[Y4,za7,jn];rw[cT,cT,oH,F,q,B];simp_all[jn,tx])
theorem oC(p:Pt){s:Str}(e:s=fW ks p)(h:(tx ks p).length<=90000):s.length<=90000:=by rw[e,zJ];exact h
theorem dQ{x:Str}(h:aP x=true):x.length<=80:=(cJ h).l
theorem bZ(g:Ks ks):∀(m:Nat) (p:Pt),Wf ks p->dep p<=m->(tx ks p).length<=90000->Sh ks (SP m) p
 | 0,p,_,h,_=>absurd h (by have:=eE p;lia)
 | m+1,p,wf,B,hl=>by
  refine aS ?_;unfold nT;cases p with
  | nm x=>
   have e:bC 2 (i6 (SP m)) [bV ks,pD (.nm x)]=some (.str x):=aS (by unfold i6;exact aN rfl);rw[show fW ks (.nm x)=x from uV x];exact aN (oK (s := "name") rfl rfl rfl e)
  | nu n k=>
   obtain⟨⟨n0,W⟩,k0,k1⟩:(0<=n/\n<10^60)/\0<=k/\k<(ks.length:Int):=wf;have l1:=gB n0 W;have l2:=oS g k0 k1;have l3:(":" : Str).length=1:=rfl;refine aN (oK (s := "number") rfl rfl rfl (aS ?_));unfold j6;rw[<- T8];exact aN (aC (aC (aD (aA rfl rfl) (A6 n0 W)) rfl (cat (by lia))) (aC rfl rfl (kH k0 k1)) (cat (by rw[dH];lia)))
  | u1 f a=>
   obtain⟨hf,J⟩:aP f=true/\Wf ks a:=wf;have B:dep a+1<=m+1:=B;have la:(tx ks a).length<=90000:=by simp[-YI,-YJ,aB,aG,tx]at hl;lia
   have q:=G8 (bZ g m a J (by lia) la) la;have lt:=oC _ QV hl;have lf:=dQ hf;rw[dH]at lt;refine aN (oK (s := "use") rfl rfl rfl (aS ?_));unfold kO;rw[<- QV];exact aN (aC rfl (aD (aA rfl (aA rfl rfl)) (pI (l:=[a]) (by simp[-YI,-YJ,aB,aG]) q (BE (by simp[-YI,-YJ,aB,aG]) λp U=>(q p U).2))) (cat (by lia)))
  | u2 f a b=>
   obtain⟨hf,J,N⟩:aP f=true/\Wf ks a/\Wf ks b:=wf;have B:max (dep a) (dep b)+1<=m+1:=B;have la:(tx ks a).length<=90000:=by simp[-YI,-YJ,aB,aG,tx]at hl;lia
   have F:(tx ks b).length<=90000:=by simp[-YI,-YJ,aB,aG,tx]at hl;lia
   have q:=w8 (bZ g m a J (by lia) la) la (bZ g m b N (by lia) F) F;have lt:=oC _ QU hl;rw[dH]at lt;refine aN (oK (s := "use") rfl rfl rfl (aS ?_));unfold kO;rw[<- QU];exact aN (aC rfl (aD (aA rfl (aA rfl rfl)) (pI (l:=[a,b]) (by simp[-YI,-YJ,aB,aG]) q (BE (by simp[-YI,-YJ,aB,aG]) λp U=>(q p U).2))) (cat (by lia)))
  | lt x a b=>
   obtain⟨hx,J,N⟩:aP x=true/\Wf ks a/\Wf ks b:=wf;have B:max (dep a) (dep b)+1<=m+1:=B;have la:(tx ks a).length<=90000:=by simp[-YI,-YJ,aB,aG,tx]at hl;lia
   have F:(tx ks b).length<=90000:=by simp[-YI,-YJ,aB,aG,tx]at hl;lia
   have q:=bZ g m a J (by lia) la;have sb:=bZ g m b N (by lia) F;have lt:=oC _ LQ hl;simp only[dH]at lt;refine aN (oK (s := "let") rfl rfl rfl (aS ?_));unfold pO;rw[<- LQ];exact aN (aC (aC (aC (aC (aC rfl rfl (cat (by lia))) rfl (cat (by simp only[dH];lia))) (aD (aA rfl (aA rfl rfl)) q) (cat (by simp only[dH];lia))) rfl (cat (by simp only[dH];lia))) (aD (aA rfl (aA rfl rfl)) sb) (cat (by simp only[dH];lia)))
  | pk c k a b s=>
   obtain⟨Y,hk,J,N,ws⟩:(0<=c/\c<(ks.length:Int))/\(0<=k/\k<(ks.length:Int))/\Wf ks a/\Wf ks b/\Wf ks s:=wf;have B:max (dep a) (max (dep b) (dep s))+1<=m+1:=B;have la:(tx ks a).length<=90000:=by simp[-YI,-YJ,aB,aG,tx]at hl;lia
   have F:(tx ks b).length<=90000:=by simp[-YI,-YJ,aB,aG,tx]at hl;lia
   have ls:(tx ks s).length<=90000:=by simp[-YI,-YJ,aB,aG,tx]at hl;lia
   have q:=AY (bZ g m a J (by lia) la) la (bZ g m b N (by lia) F) F (bZ g m s ws (by lia) ls) ls;have l1:=oS g Y.1 Y.2;have l2:=oS g hk.1 hk.2;have lj:(("(" ++ vH ks [a,b,s]) ++ ")").length<=95000:=by
    rw[<- cC,cT,cT,oH];obtain⟨_,_,_,_,e1,e2,_⟩:=lits;rw[e1,e2];simp_all[jn];simp[-YI,-YJ,aB,aG,tx]at hl
    lia
   refine aN (oK (s := "pick") rfl rfl rfl (aS ?_));unfold nQ;rw[<- V4];refine aN (aC rfl (dE (aA rfl (aA (aC rfl rfl (kH Y.1 Y.2)) (aA (aC rfl rfl (kH hk.1 hk.2)) (aA (aD (aA rfl (aA rfl rfl)) (pI (l:=[a,b,s]) (by simp[-YI,-YJ,aB,aG]) q (BE (by simp[-YI,-YJ,aB,aG]) λp U=>(q p U).2))) rfl))))) (oY (l:=["pick",kw ks c,kw ks k,("(" ++ vH ks [a,b,s]) ++ ")"]) (by simp[-YI,-YJ,aB,aG]) λw hw=>?_));simp only[YZ,Y0,or_false]at hw;rcases hw with rfl|rfl|rfl|rfl
   ·decide
   ·lia
   ·lia
   ·exact lj
  | ag n k x a b=>
   obtain⟨hn,hk,hx,J,N⟩:(0<=n/\n<=9)/\(0<=k/\k<(ks.length:Int))/\aP x=true/\Wf ks a/\Wf ks b:=wf;have B:max (dep a) (dep b)+1<=m+1:=B;have W:n<10^60:=by lia
   have la:(tx ks a).length<=90000:=by simp[-YI,-YJ,aB,aG,tx]at hl;lia
   have F:(tx ks b).length<=90000:=by simp[-YI,-YJ,aB,aG,tx]at hl;lia
   have q:=w8 (bZ g m a J (by lia) la) la (bZ g m b N (by lia) F) F;have l1:=gB hn.1 W;have l2:=oS g hk.1 hk.2;have l3:=dQ hx;have lj:(("(" ++ vH ks [a,b]) ++ ")").length<=95000:=by
    rw[<- cC,cT,cT,oH];obtain⟨_,_,_,_,e1,e2,_⟩:=lits;rw[e1,e2];simp_all[jn];simp[-YI,-YJ,aB,aG,tx]at hl
    lia
   refine aN (oK (s := "again") rfl rfl rfl (aS ?_));unfold lK;rw[<- WL];refine aN (aC rfl (dE (aA rfl (aA (aD (aA rfl rfl) (A6 hn.1 W)) (aA (aC rfl rfl (kH hk.1 hk.2)) (aA rfl (aA (aD (aA rfl (aA rfl rfl)) (pI (l:=[a,b]) (by simp[-YI,-YJ,aB,aG]) q (BE (by simp[-YI,-YJ,aB,aG]) λp U=>(q p U).2))) rfl)))))) (oY (l:=["again",d8 n,kw ks k,x,("(" ++ vH ks [a,b]) ++ ")"]) (by simp[-YI,-YJ,aB,aG]) λw hw=>?_));simp only[YZ,Y0,or_false]at hw;rcases hw with rfl|rfl|rfl|rfl|rfl
   ·decide
   ·lia
   ·lia
   ·lia
   ·exact lj
theorem eqs{a b:Str}{ρ:bI}{f:Ev}(h:f ρ=some (.str a)){c:Bool}(e:decide (a=b)=c):c9 (aR rN f (eC (.str b))) ρ=some c:=aI (aC h rfl ((q_eqS ..).trans (by rw[e])))
theorem MJ{f:Str}{a:Pt}:((f ++ "(")++vH ks [a]) ++ ")" = fW ks (.u1 f a):=by rw[<- QV];exact rK (by simp_all[cT])
theorem L9{f:Str}{a b:Pt}:((f ++ "(")++vH ks [a,b]) ++ ")" = fW ks (.u2 f a b):=by rw[<- QU];exact rK (by simp_all[cT])
theorem MO{c k:Int}{a b s:Pt}:((ZD " " ["pick",kw ks c,kw ks k] ++ " (")++vH ks [a,b,s]) ++ ")" = fW ks (.pk c k a b s):=rK (by
 obtain⟨_,_,_,_,_,q,F,B,_⟩:=lits;rw[fT,cT,cT,cT,show(" " : Str)=⟨#[32]⟩from rfl,h7,oH,F,q];simp only[Y4,za7,jn];rw[B];simp_all[jn,tx])
theorem MS{n k:Int}{x:Str}{a b:Pt}:((ZD " " ["again",d8 n,kw ks k,x] ++ " (")++vH ks [a,b]) ++ ")" = fW ks (.ag n k x a b):=rK (by
 obtain⟨_,_,_,_,_,q,F,_,B⟩:=lits;rw[fT,cT,cT,cT,show(" " : Str)=⟨#[32]⟩from rfl,h7,oH,F,q];simp only[Y4,za7,jn];rw[B];simp_all[jn,tx])
theorem pA{G:Fd}{l:List Pt}{it:Lv}{ρ:bI}(hi:it ρ=some (l.map pD))(B:ρ[0]?=some (some (bV ks)))(F:l.length<=3)(h:∀p∈l,Sh ks G p/\(tx ks p).length<=90000):aR iH (eC (.str " ")) (dU [none,some 0] it (a7 0) jX (aT G (aH (aE 1) (aH (aE 0) aY)))) ρ=some (.str (vH ks l)):=by
 refine aC rfl (cV hi (by rw[YV];lia) ?_) (vT F λp q=>(h p q).2);have e:k4 [none,some 0] ρ=[none,some (bV ks)]:=by
  unfold k4;show [none,(ρ[0]?).join]=_;rw[B];rfl
 rw[e];exact qE l none λp q=>(h p q).1
theorem cF(g:Ks ks):∀(m:Nat) (p:Pt),Wf ks p->dep p<=m->(tx ks p).length<=90000->Sh ks (b9 4 kM m) p
 | 0,p,_,h,_=>absurd h (by have:=eE p;lia)
 | m+1,p,wf,q,hl=>by
  refine aS ?_;unfold kM;cases p with
  | nm x=>
   rw[show fW ks (.nm x)=x from uV x];exact aJ (s_ift (eqs (a := "name") rfl rfl) (aN rfl)) rfl
  | nu n k=>
   obtain⟨⟨n0,U⟩,k0,k1⟩:(0<=n/\n<10^60)/\0<=k/\k<(ks.length:Int):=wf;have l1:=gB n0 U;have l2:=oS g k0 k1;have l3:(":" : Str).length=1:=rfl;rw[<- T8];exact aJ (s_iff (eqs (a := "number") rfl rfl) rfl) (aJ (s_ift (eqs (a := "number") rfl rfl) (aN (aC (aC (aD (aA rfl rfl) (A6 n0 U)) rfl (cat (by lia))) (aC rfl rfl (kH k0 k1)) (cat (by rw[dH];lia))))) rfl)
  | u1 f a=>
   obtain⟨hf,J⟩:aP f=true/\Wf ks a:=wf;have q:dep a+1<=m+1:=q;have la:(tx ks a).length<=90000:=by simp[-YI,-YJ,aB,aG,tx]at hl;lia
   have F:=G8 (cF g m a J (by lia) la) la;have lt:=oC _ MJ hl;simp only[dH]at lt;rw[<- MJ];exact aJ (s_iff (eqs (a := "use") rfl rfl) rfl) (aJ (s_iff (eqs (a := "use") rfl rfl) rfl) (aJ (s_iff (eqs (a := "use") rfl rfl) rfl) (aJ (s_ift (eqs (a := "use") rfl rfl) (aN (aC (aC (aC rfl rfl (cat (by lia))) (pA (l:=[a]) rfl rfl (by simp[-YI,-YJ,aB,aG]) F) (cat (by simp only[dH];lia))) rfl (cat (by simp only[dH];lia))))) rfl)))
  | u2 f a b=>
   obtain⟨hf,J,N⟩:aP f=true/\Wf ks a/\Wf ks b:=wf;have q:max (dep a) (dep b)+1<=m+1:=q;have la:(tx ks a).length<=90000:=by simp[-YI,-YJ,aB,aG,tx]at hl;lia
   have B:(tx ks b).length<=90000:=by simp[-YI,-YJ,aB,aG,tx]at hl;lia
   have F:=w8 (cF g m a J (by lia) la) la (cF g m b N (by lia) B) B;have lt:=oC _ L9 hl;simp only[dH]at lt;rw[<- L9];exact aJ (s_iff (eqs (a := "use") rfl rfl) rfl) (aJ (s_iff (eqs (a := "use") rfl rfl) rfl) (aJ (s_iff (eqs (a := "use") rfl rfl) rfl) (aJ (s_ift (eqs (a := "use") rfl rfl) (aN (aC (aC (aC rfl rfl (cat (by lia))) (pA (l:=[a,b]) rfl rfl (by simp[-YI,-YJ,aB,aG]) F) (cat (by simp only[dH];lia))) rfl (cat (by simp only[dH];lia))))) rfl)))
  | lt x a b=>
   obtain⟨hx,J,N⟩:aP x=true/\Wf ks a/\Wf ks b:=wf;have q:max (dep a) (dep b)+1<=m+1:=q;have la:(tx ks a).length<=90000:=by simp[-YI,-YJ,aB,aG,tx]at hl;lia
   have B:(tx ks b).length<=90000:=by simp[-YI,-YJ,aB,aG,tx]at hl;lia
   have F:=cF g m a J (by lia) la;have sb:=cF g m b N (by lia) B;have lt:=oC _ LQ hl;simp only[dH]at lt;rw[<- LQ];exact aJ (s_iff (eqs (a := "let") rfl rfl) rfl) (aJ (s_iff (eqs (a := "let") rfl rfl) rfl) (aJ (s_ift (eqs (a := "let") rfl rfl) (aN (aC (aC (aC (aC (aC rfl rfl (cat (by lia))) rfl (cat (by simp only[dH];lia))) (aD (aA rfl (aA rfl rfl)) F) (cat (by simp only[dH];lia))) rfl (cat (by simp only[dH];lia))) (aD (aA rfl (aA rfl rfl)) sb) (cat (by simp only[dH];lia))))) rfl))
  | pk c k a b s=>
   obtain⟨W,hk,J,N,ws⟩:(0<=c/\c<(ks.length:Int))/\(0<=k/\k<(ks.length:Int))/\Wf ks a/\Wf ks b/\Wf ks s:=wf;have q:max (dep a) (max (dep b) (dep s))+1<=m+1:=q;have la:(tx ks a).length<=90000:=by simp[-YI,-YJ,aB,aG,tx]at hl;lia
   have B:(tx ks b).length<=90000:=by simp[-YI,-YJ,aB,aG,tx]at hl;lia
   have ls:(tx ks s).length<=90000:=by simp[-YI,-YJ,aB,aG,tx]at hl;lia
   have F:=AY (cF g m a J (by lia) la) la (cF g m b N (by lia) B) B (cF g m s ws (by lia) ls) ls;have l1:=oS g W.1 W.2;have l2:=oS g hk.1 hk.2;have lt:=oC _ MO hl;simp only[dH]at lt;have Y:iH (.str " ") (.lst ((["pick",kw ks c,kw ks k]:List Str).map .str))=some (.str (ZD " " ["pick",kw ks c,kw ks k])):=oY (by simp[-YI,-YJ,aB,aG]) λw hw=>by
    simp only[YZ,Y0,or_false]at hw;rcases hw with rfl|rfl|rfl
    ·decide
    ·lia
    ·lia
   rw[<- MO];refine aJ (s_iff (eqs (a := "pick") rfl rfl) rfl) (aJ (s_iff (eqs (a := "pick") rfl rfl) rfl) (aJ (s_iff (eqs (a := "pick") rfl rfl) rfl) (aJ (s_iff (eqs (a := "pick") rfl rfl) rfl) (aJ (p:=.nx [some (bV ks),some (pD (.pk c k a b s)),some (.lst ((["pick",kw ks c,kw ks k]:List Str).map .str)),some (.tup [pD a,pD b,pD s])]) (s_ift (eqs (a := "pick") rfl rfl) ?_) ?_))))
   ·exact aJ (aU (dE (aA rfl (aA (aC rfl rfl (kH W.1 W.2)) (aA (aC rfl rfl (kH hk.1 hk.2)) rfl))))) (aU rfl)
   ·exact aN (aC (aC (aC (aC rfl rfl Y) rfl (cat (by lia))) (pA (l:=[a,b,s]) rfl rfl (by simp[-YI,-YJ,aB,aG]) F) (cat (by simp only[dH];lia))) rfl (cat (by simp only[dH];lia)))
  | ag n k x a b=>
   obtain⟨hn,hk,hx,J,N⟩:(0<=n/\n<=9)/\(0<=k/\k<(ks.length:Int))/\aP x=true/\Wf ks a/\Wf ks b:=wf;have q:max (dep a) (dep b)+1<=m+1:=q;have U:n<10^60:=by lia
   have la:(tx ks a).length<=90000:=by simp[-YI,-YJ,aB,aG,tx]at hl;lia
   have B:(tx ks b).length<=90000:=by simp[-YI,-YJ,aB,aG,tx]at hl;lia
   have F:=w8 (cF g m a J (by lia) la) la (cF g m b N (by lia) B) B;have l1:=gB hn.1 U;have l2:=oS g hk.1 hk.2;have l3:=dQ hx;have lt:=oC _ MS hl;simp only[dH]at lt;have Y:iH (.str " ") (.lst ((["again",d8 n,kw ks k,x]:List Str).map .str))=some (.str (ZD " " ["again",d8 n,kw ks k,x])):=oY (by simp[-YI,-YJ,aB,aG]) λw hw=>by
    simp only[YZ,Y0,or_false]at hw;rcases hw with rfl|rfl|rfl|rfl
    ·decide
    ·lia
    ·lia
    ·lia
   rw[<- MS];refine aJ (s_iff (eqs (a := "again") rfl rfl) rfl) (aJ (s_iff (eqs (a := "again") rfl rfl) rfl) (aJ (s_iff (eqs (a := "again") rfl rfl) rfl) (aJ (s_iff (eqs (a := "again") rfl rfl) rfl) (aJ (p:=.nx [some (bV ks),some (pD (.ag n k x a b)),some (.lst ((["again",d8 n,kw ks k,x]:List Str).map .str)),some (.tup [pD a,pD b])]) (s_iff (eqs (a := "again") rfl rfl) ?_) ?_))))
   ·exact aJ (aU (dE (aA rfl (aA (aD (aA rfl rfl) (A6 hn.1 U)) (aA (aC rfl rfl (kH hk.1 hk.2)) (aA rfl rfl)))))) (aU rfl)
   ·exact aN (aC (aC (aC (aC rfl rfl Y) rfl (cat (by lia))) (pA (l:=[a,b]) rfl rfl (by simp[-YI,-YJ,aB,aG]) F) (cat (by simp only[dH];lia))) rfl (cat (by simp only[dH];lia)))
end
theorem RA{g:Gv}{b:Sv}{x:D}{xs:List D}{ρ ρ1 ρ':bI}(h:g x ρ=some ρ1)(k:b ρ1=some (.nx ρ')):dI g b (x::xs) ρ=dI g b xs ρ':=by
 rw[dI,h,aB,k,aB]
abbrev hdD(h:Str×Int):D:=.tup [.str h.1,.int h.2]
structure Hds(ks:List Str)(hs:List (Str×Int)):Prop where
 ok:∀h∈hs,aP h.1=true/\0<=h.2/\h.2<(ks.length:Int)
 nd:(hs.map (·.1)).Nodup
 ln:hs.length<=6
def hw(ks:List Str)(hs:List (Str×Int)):List Str:=hs.flatMap λh=>[h.1,kw ks h.2]
def fw(ks:List Str)(hs:List (Str×Int)):List Str := "in" :: hw ks hs
theorem F5(ks:List Str):∀hs:List (Str×Int),(hw ks hs).length=2*hs.length
 | []=>rfl
 | h::hs=>by
  have:=F5 ks hs;unfold hw at this ⊢;rw[List.flatMap_cons,ZG,this];simp[-YI,-YJ,aB,aG];lia
section
variable {ks:List Str}
theorem pX:∀(hs:List (Str×Int)) (done:List Str) (X:D) (a b:Option D),(∀h∈hs,0<=h.2/\h.2<(ks.length:Int))->done.length+2*hs.length<=1000->
  ∃a' q,dI (iI 2 (cG (a7 3) (cG (a7 4) l5))) (eL 2 (aR bD (aE 2) (mD (aH (aE 3) (aH (aR aO (aE 0) (aE 4)) aY))))) (hs.map hdD) [some (bV ks),some X,some (.lst (done.map .str)),a,b]=some (.nx [some (bV ks),some X,some (.lst ((done++hw ks hs).map .str)),a',q])
 | [],done,X,a,b,_,_=>⟨a,b,by simp_all[hw,dI]⟩
 | h::hs,done,X,a,b,ok,B=>by
  obtain⟨k0,J⟩:=ok h (YQ ..);have B:done.length+2*(hs.length+1)<=1000:=B;obtain⟨a',q,ih⟩:=pX hs (done++[h.1,kw ks h.2]) X (some (.str h.1)) (some (.int h.2)) (λx F=>ok x (YW _ F)) (by simp[-YI,-YJ,aB,aG];lia);refine⟨a',q,?_⟩;rw[Y4,RA (ρ1:=[some (bV ks),some X,some (.lst (done.map .str)),some (.str h.1),some (.int h.2)]) (ρ':=[some (bV ks),some X,some (.lst ((done++[h.1,kw ks h.2]).map .str)),some (.str h.1),some (.int h.2)]) rfl ?_,ih]
  ·simp_all[hw]
  ·refine zD (aC rfl (dE (aA rfl (aA (aC rfl rfl (kH k0 J)) rfl))) ?_) rfl
   rw[q_addAL,if_pos (show bO _=true from decide_eq_true (by simp[-YI,-YJ,aB,aG];lia))];simp[-YI,-YJ,aB,aG]
theorem sF:∀(hs:List (Str×Int)) (done:List Str) (V X:D) (a b:Option D),aO V (.int 1)=some (bV ks)->(∀h∈hs,0<=h.2/\h.2<(ks.length:Int))->done.length+2*hs.length<=1000->
  ∃a' q,dI (iI 2 (cG (a7 3) (cG (a7 4) l5))) (T5 2 (mD (aH (aE 3) (aH (aR aO (aR aO (aE 0) (eC (.int 1))) (aE 4)) aY)))) (hs.map hdD) [some V,some X,some (.lst (done.map .str)),a,b]=some (.nx [some V,some X,some (.lst ((done++hw ks hs).map .str)),a',q])
 | [],done,V,X,a,b,_,_,_=>⟨a,b,by simp_all[hw,dI]⟩
 | h::hs,done,V,X,a,b,v1,ok,B=>by
  obtain⟨k0,J⟩:=ok h (YQ ..);have B:done.length+2*(hs.length+1)<=1000:=B;obtain⟨a',q,ih⟩:=sF hs (done++[h.1,kw ks h.2]) V X (some (.str h.1)) (some (.int h.2)) v1 (λx F=>ok x (YW _ F)) (by simp[-YI,-YJ,aB,aG];lia);refine⟨a',q,?_⟩;rw[Y4,RA (ρ1:=[some V,some X,some (.lst (done.map .str)),some (.str h.1),some (.int h.2)]) (ρ':=[some V,some X,some (.lst ((done++[h.1,kw ks h.2]).map .str)),some (.str h.1),some (.int h.2)]) rfl ?_,ih]
  ·simp_all[hw]
  ·have e:mD (aH (aE 3) (aH (aR aO (aR aO (aE 0) (eC (.int 1))) (aE 4)) aY)) [some V,some X,some (.lst (done.map .str)),some (.str h.1),some (.int h.2)]=some (.lst [.str h.1,.str (kw ks h.2)]):=dE (aA rfl (aA (aC (aC rfl rfl v1) rfl (kH k0 J)) rfl))
   show(aE 2 _).bind _=_;rw[show aE 2 [some V,some X,some (.lst (done.map .str)),some (.str h.1),some (.int h.2)]=some (.lst (done.map .str))from rfl,aB];dsimp only;rw[e,aB];dsimp only;rw[if_pos (show bO _=true from decide_eq_true (by simp[-YI,-YJ,aB,aG];lia))];simp[-YI,-YJ,aB,aG]
variable {hs:List (Str×Int)}
theorem xE(g:Ks ks)(H:Hds ks hs):∀w∈fw ks hs,w.length<=80/\32∉w.cps.toList/\10∉w.cps.toList:=λw q=>by
 rcases List.mem_cons.mp q with rfl|F
 ·exact⟨by decide,by decide,by decide⟩
 ·obtain⟨h,U,B⟩:=List.mem_flatMap.mp F
  obtain⟨J,k0,N⟩:=H.ok h U;have:Wd w:=by
   rcases List.mem_cons.mp B with rfl|z
   ·exact cJ J
   ·rw[List.mem_singleton.mp z];exact cJ (g.ok _ (jD k0 N))
  exact⟨this.l,this.sp,this.nl⟩
theorem uW(ks:List Str)(hs:List (Str×Int)):(fw ks hs).length=2*hs.length+1:=by rw[fw,Y7,F5]
def kW(ks:List Str)(hs:List (Str×Int)):Str:=ZD " " (fw ks hs)
theorem MF(g:Ks ks)(H:Hds ks hs):iH (.str " ") (.lst ((fw ks hs).map .str))=some (.str (kW ks hs)):=zE (c:=32) (B:=80) (λw hw=>(xE g H w hw).1) (by rw[uW];have:=H.ln;lia)
theorem vP(g:Ks ks)(H:Hds ks hs):iE [bV ks,.tup (hs.map hdD)]=some (.str (kW ks hs)):=by
 refine aS ?_;unfold iD;obtain⟨a,b,e⟩:=pX (ks:=ks) hs ["in"] (.tup (hs.map hdD)) none none (λh q=>(H.ok h q).2) (by have:=H.ln;simp[-YI,-YJ,aB,aG];lia);refine aJ (aU rfl) ?_;refine aJ (p:=.nx [some (bV ks),some (.tup (hs.map hdD)),some (.lst ((fw ks hs).map .str)),a,b]) ?_ ?_
 ·show(fF (aE 1) _).bind _=_
  exact e
 ·exact aN (aC rfl rfl (MF g H))
theorem uD(g:Ks ks)(H:Hds ks hs):(kW ks hs).length<=2000:=by
 have:=qI (c:=32) (B:=80) (l:=fw ks hs) λw hw=>(xE g H w hw).1
 rw[uW]at this;have:=H.ln;show(ZD ⟨#[32]⟩ _).length<=_
 lia
def MZ(ks:List Str)(hs:List (Str×Int))(p:Pt):Str:=(kW ks hs ++ "\n")++fW ks p
theorem iN{V:D}{p:Pt}(g:Ks ks)(H:Hds ks hs)(q:aO V (.int 1)=some (bV ks))(wf:Wf ks p)(B:dep p<=25)(F:(tx ks p).length<=90000):eQ [V,.tup [.tup (hs.map hdD),pD p]]=some (.str (MZ ks hs p)):=by
 refine aS ?_;unfold iP;obtain⟨a,b,e⟩:=sF (ks:=ks) hs ["in"] V (.tup [.tup (hs.map hdD),pD p]) none none q (λh J=>(H.ok h J).2) (by have:=H.ln;simp[-YI,-YJ,aB,aG];lia);have N:=uD g H;have nl:("\n" : Str).length=1:=rfl;refine aJ (aU rfl) ?_;refine aJ (p:=.nx [some V,some (.tup [.tup (hs.map hdD),pD p]),some (.lst ((fw ks hs).map .str)),a,b]) ?_ ?_
 ·show(fF (aR aO (aE 1) (eC (.int 0))) _).bind _=_
  exact e
 ·exact aN (aC (aC (aC rfl rfl (MF g H)) rfl (cat (by lia))) (aD (aA (aC rfl rfl q) (aA rfl rfl)) (bZ g 25 p wf B F)) (cat (by rw[dH,zJ];lia)))
end
theorem VZ{n:Nat}(h:n<=6):jR [.int 1,.int ((2*n+1:Nat):Int),.int 2]=some (bU 1 2 n):=by
 have:n=0\/n=1\/n=2\/n=3\/n=4\/n=5\/n=6:=by lia
 rcases this with rfl|rfl|rfl|rfl|rfl|rfl|rfl <;> rfl
theorem MP{ks:List Str}:∀ {hs:List (Str×Int)} {i:Nat} {h:Str×Int},hs[i]?=some h->(hw ks hs)[2*i]?=some h.1/\(hw ks hs)[2*i+1]?=some (kw ks h.2)
 | [],i,h,e=>by simp[-YI,-YJ,aB,aG]at e
 | x::hs,0,h,e=>by
  simp[-YI,-YJ,aB,aG]at e;subst e;exact⟨rfl,rfl⟩
 | x::hs,i+1,h,e=>by
  have e:hs[i]?=some h:=by simpa using e
  obtain⟨h1,h2⟩:=MP (ks:=ks) e;have c:∀j,(hw ks (x::hs))[j+2]?=(hw ks hs)[j]?:=λj=>rfl
  rw[show 2*(i+1)=2*i+2 by lia,show 2*i+2+1=2*i+1+2 by lia,c,c];exact⟨h1,h2⟩
section
variable {ks:List Str}{hs:List (Str×Int)}
theorem JZ(g:Ks ks)(H:Hds ks hs):iU [bV ks,.str (kW ks hs)]=some (.lst (hs.map hdD)):=by
 have Y:=H.ln;have sp:mQ (.str (kW ks hs)) (.str " ")=some (.lst ((fw ks hs).map .str)):=AN (c:=32) (B:=80) (λw hw=>(xE g H w hw).1) (by rw[uW];lia) (by unfold fw;simp[-YI,-YJ,aB,aG]) λw hw=>(xE g H w hw).2.1
 have q:b4 [.lst ((fw ks hs).map .str)]=some (.int ((2*hs.length+1:Nat):Int)):=by
  rw[q_lenL,YV,uW]
 have at_:∀ {j:Nat} {w:Str},(hw ks hs)[j]?=some w->aO (.lst ((fw ks hs).map .str)) (.int ((j+1:Nat):Int))=some (.str w):=λ{j w} e=>tM (cW (by
  rw[ZJ];show Option.map _ ((("in" : Str)::hw ks hs)[j+1]?)=_;rw[List.getElem?_cons_succ,e];rfl))
 have i0:aO (.lst ((fw ks hs).map .str)) (.int 0)=some (.str "in"):=tM (cW (j:=0) rfl);refine aS ?_;unfold iR;refine(aL (aU (aC rfl rfl sp))).trans ?_;refine(aL (ρ':=[some (bV ks),some (.str (kW ks hs)),some (.lst ((fw ks hs).map .str))]) (s_iff (l9 (c:=false) (aI (aC (aC rfl rfl i0) rfl ((q_neS ..).trans (by simp[-YI,-YJ,aB,aG])))) (kU rfl (aI (aC (aC (aD (aA rfl rfl) q) rfl (bF (by decide))) rfl ((q_eqI ..).trans (by rw[decide_eq_false];lia)))))) rfl)).trans ?_;have it:lR jR (aH (eC (.int 1)) (aH (aT b4 (aH (aE 2) aY)) (aH (eC (.int 2)) aY))) [some (bV ks),some (.str (kW ks hs)),some (.lst ((fw ks hs).map .str))]=some (bU 1 2 hs.length):=by
  show((aH _ _) _).bind _=_;rw[aA (x:=.int 1) (xs:=[.int ((2*hs.length+1:Nat):Int),.int 2]) rfl (aA (aD (aA rfl rfl) q) rfl),aB];exact VZ Y
 have U:=gW (f:=vC (aH (aR aO (aE 1) (aE 0)) (aH (aT cE (aH (aE 2) (aH (aR aO (aE 1) (aR bD (aE 0) (eC (.int 1)))) aY))) aY))) (rest:=[some (.lst ((fw ks hs).map .str)),some (bV ks)]) (g:=λi:Nat=>D.int (1+(i:Int)*2)) (h:=λi:Nat=>hdD (hs.getD i ("",0))) (Z6 hs.length) none λi hi=>by
  have hi:i<hs.length:=by simpa using hi
  have N:hs[i]?=some hs[i]:=by simp_all[hi]
  have e1:hs.getD i ("",0)=hs[i]:=by rw[zcR,N];rfl
  obtain⟨k0,k1⟩:=(H.ok hs[i] (zbh hi)).2;obtain⟨w1,W⟩:=MP (ks:=ks) N;have J:=at_ w1;have F:=at_ W;rw[show((2*i+1:Nat):Int)=1+(i:Int)*2 by lia]at J;rw[show((2*i+1+1:Nat):Int)=1+(i:Int)*2+1 by lia]at F;show _=some (hdD (hs.getD i ("",0)));rw[e1];exact cM (aA (aC rfl rfl J) (aA (aD (aA rfl (aA (aC rfl (aC rfl rfl (q_addAI ..)) F) rfl)) (AZ g k0 k1)) rfl))
 have fin:(Z6 hs.length).map (λi:Nat=>hdD (hs.getD i ("",0)))=hs.map hdD:=by
  apply List.ext_getElem (by simp[-YI,-YJ,aB,aG]);intro i h1 h2;have hi:i<hs.length:=by simpa using h2
  simp_all[hi]
 rw[fin]at U;have is:k4 [none,some 2,some 0] [some (bV ks),some (.str (kW ks hs)),some (.lst ((fw ks hs).map .str))]=[none,some (.lst ((fw ks hs).map .str)),some (bV ks)]:=rfl;have cp:dU [none,some 2,some 0] (lR jR (aH (eC (.int 1)) (aH (aT b4 (aH (aE 2) aY)) (aH (eC (.int 2)) aY)))) (a7 0) jX (vC (aH (aR aO (aE 1) (aE 0)) (aH (aT cE (aH (aE 2) (aH (aR aO (aE 1) (aR bD (aE 0) (eC (.int 1)))) aY))) aY))) [some (bV ks),some (.str (kW ks hs)),some (.lst ((fw ks hs).map .str))]=some (.lst (hs.map hdD)):=cV it (by rw[dN];lia) (by rw[is];exact U);exact aN cp
theorem jM(g:Ks ks):∀p:Pt,Wf ks p->10∉tx ks p
 | .nm x,h=>(cJ h).nl
 | .nu n k,h=>by
  have a:=(ME h.1.1 h.1.2).nl;have b:=(cJ (g.ok _ (jD h.2.1 h.2.2))).nl;simp_all[tx,a,b]
 | .u1 f a,h=>by
  have x:=(cJ h.1).nl;have y:=jM g a h.2;simp_all[tx,x,y]
 | .u2 f a b,h=>by
  have x:=(cJ h.1).nl;have y:=jM g a h.2.1;have z:=jM g b h.2.2;simp_all[tx,x,y,z]
 | .lt w a b,h=>by
  have x:=(cJ h.1).nl;have y:=jM g a h.2.1;have z:=jM g b h.2.2;simp_all[tx,x,y,z]
 | .pk c k a b s,h=>by
  have x:=(cJ (g.ok _ (jD h.1.1 h.1.2))).nl;have q:=(cJ (g.ok _ (jD h.2.1.1 h.2.1.2))).nl;have y:=jM g a h.2.2.1;have z:=jM g b h.2.2.2.1;have u:=jM g s h.2.2.2.2;simp_all[tx,x,q,y,z,u]
 | .ag n k w a b,h=>by
  have x:=(ME h.1.1 (by have:=h.1.2;lia)).nl;have q:=(cJ (g.ok _ (jD h.2.1.1 h.2.1.2))).nl;have B:=(cJ h.2.2.1).nl;have y:=jM g a h.2.2.2.1;have z:=jM g b h.2.2.2.2;simp_all[tx,x,q,B,y,z]
theorem NC(g:Ks ks)(H:Hds ks hs):10∉(kW ks hs).cps.toList:=LH (c:=32) (by decide) λw hw=>(xE g H w hw).2.2
theorem M2{p:Pt}(g:Ks ks)(H:Hds ks hs)(wf:Wf ks p)(q:(tx ks p).length<=90000):mQ (.str (MZ ks hs p)) (.str "\n")=some (.lst [.str (kW ks hs),.str (fW ks p)]):=by
 have e:MZ ks hs p=ZD ⟨#[10]⟩ [kW ks hs,fW ks p]:=rfl;have F:=uD g H;rw[e];refine AN (c:=10) (B:=90000) (l:=[kW ks hs,fW ks p]) (λw hw=>?_) (by simp[-YI,-YJ,aB,aG]) (by simp[-YI,-YJ,aB,aG]) λw hw=>?_
 ·simp only[YZ,Y0,or_false]at hw
  rcases hw with rfl|rfl
  ·lia
  ·rw[zJ];exact q
 ·simp only[YZ,Y0,or_false]at hw
  rcases hw with rfl|rfl
  ·exact NC g H
  ·rw[fT];exact jM g p wf
end
noncomputable def subs:Pt->List Pt
 | .nm _=>[]
 | .nu _ _=>[]
 | .u1 _ a=>[a]
 | .u2 _ a b=>[a,b]
 | .lt _ a b=>[a,b]
 | .pk _ _ a b d=>[a,b,d]
 | .ag _ _ _ a b=>[a,b]
noncomputable def sz:Pt->Nat
 | .nm _=>1
 | .nu _ _=>1
 | .u1 _ a=>sz a+1
 | .u2 _ a b=>sz a+sz b+1
 | .lt _ a b=>sz a+sz b+1
 | .pk _ _ a b d=>sz a+sz b+sz d+1
 | .ag _ _ _ a b=>sz a+sz b+1
noncomputable def lets:Pt->Nat
 | .nm _=>0
 | .nu _ _=>0
 | .u1 _ a=>lets a
 | .u2 _ a b=>lets a+lets b
 | .lt _ a b=>lets a+lets b+1
 | .pk _ _ a b d=>lets a+lets b+lets d
 | .ag _ _ _ a b=>lets a+lets b
theorem dC{p q:Pt}(h:q∈subs p):dep q+1<=dep p:=by
 cases p <;> simp only[subs,YZ,Y0,or_false]at h <;> simp only[dep]
 ·subst h;lia
 ·rcases h with rfl|rfl <;> lia
 ·rcases h with rfl|rfl <;> lia
 ·rcases h with rfl|rfl|rfl <;> lia
 ·rcases h with rfl|rfl <;> lia
theorem zX(p:Pt):eI [pD p]=some (.tup ((subs p).map pD)):=by
 refine aS ?_;unfold zT;cases p with
 | nm x=>exact aJ (s_iff (eqs (a := "name") rfl rfl) rfl) (aJ (s_iff (eqs (a := "name") rfl rfl) rfl) (aJ (s_iff (eqs (a := "name") rfl rfl) rfl) (aJ (s_iff (eqs (a := "name") rfl rfl) rfl) (aN rfl))))
 | nu n k=>exact aJ (s_iff (eqs (a := "number") rfl rfl) rfl) (aJ (s_iff (eqs (a := "number") rfl rfl) rfl) (aJ (s_iff (eqs (a := "number") rfl rfl) rfl) (aJ (s_iff (eqs (a := "number") rfl rfl) rfl) (aN rfl))))
 | u1 f a=>exact aJ (s_ift (eqs (a := "use") rfl rfl) (aN rfl)) rfl
 | u2 f a b=>exact aJ (s_ift (eqs (a := "use") rfl rfl) (aN rfl)) rfl
 | lt x a b=>exact aJ (s_iff (eqs (a := "let") rfl rfl) rfl) (aJ (s_ift (eqs (a := "let") rfl rfl) (aN rfl)) rfl)
 | pk c k a b d=>exact aJ (s_iff (eqs (a := "pick") rfl rfl) rfl) (aJ (s_iff (eqs (a := "pick") rfl rfl) rfl) (aJ (s_ift (eqs (a := "pick") rfl rfl) (aN rfl)) rfl))
 | ag n k x a b=>exact aJ (s_iff (eqs (a := "again") rfl rfl) rfl) (aJ (s_iff (eqs (a := "again") rfl rfl) rfl) (aJ (s_iff (eqs (a := "again") rfl rfl) rfl) (aJ (s_ift (eqs (a := "again") rfl rfl) (aN rfl)) rfl)))
theorem sub_len(p:Pt):(subs p).length<=3:=by cases p <;> simp_all[subs]
theorem uY{p:Pt}{ρ:bI}(h:aE 0 ρ=some (pD p)):fF (aT eI (aH (aE 0) aY)) ρ=some ((subs p).map pD):=by
 unfold fF;rw[aD (aA h rfl) (zX p),aB]
theorem p9:∀(m:Nat) (p:Pt),dep p<=m->b9 1 g9 m [pD p]=some (.int (sz p:Int))
 | 0,p,h=>absurd h (by have:=eE p;lia)
 | m+1,p,h=>by
  refine aS ?_;unfold g9;have B:=gW (f:=aT (b9 1 g9 m) (aH (aE 0) aY)) (rest:=[]) (g:=pD) (h:=λq=>D.int (sz q:Int)) (subs p) none λq F=>aD (aA rfl rfl) (p9 m q (by have:=dC F;lia))
  have e:(subs p).map (λq=>D.int (sz q:Int))=((subs p).map λq=>(sz q:Int)).map .int:=by rw[ZS];rfl
  rw[e]at B;refine aN (aC rfl (aD (aA (cV (uY rfl) (by rw[YV];have:=sub_len p;lia) B) rfl) q_sum) ?_);rw[q_addAI];congr 2;cases p <;> simp_all[subs,sz] <;> lia
theorem rX:∀(m:Nat) (p:Pt),dep p<=m->b9 1 gQ m [pD p]=some (.int (lets p:Int))
 | 0,p,h=>absurd h (by have:=eE p;lia)
 | m+1,p,h=>by
  refine aS ?_;unfold gQ;have J:=gW (f:=aT (b9 1 gQ m) (aH (aE 0) aY)) (rest:=[]) (g:=pD) (h:=λq=>D.int (lets q:Int)) (subs p) none λq N=>aD (aA rfl rfl) (rX m q (by have:=dC N;lia))
  have e:(subs p).map (λq=>D.int (lets q:Int))=((subs p).map λq=>(lets q:Int)).map .int:=by rw[ZS];rfl
  rw[e]at J;have F:aT HU (aH (dU [none] (fF (aT eI (aH (aE 0) aY))) (a7 0) jX (aT (b9 1 gQ m) (aH (aE 0) aY))) aY) [some (pD p)]=some (.int ((subs p).map λq=>(lets q:Int)).sum):=aD (aA (cV (uY rfl) (by rw[YV];have:=sub_len p;lia) J) rfl) q_sum;have B:∀ {s:Str} {b:Bool},aO (pD p) (.int 0)=some (.str s)->decide (s = "let")=b->M0 (c9 (aR rN (aR aO (aE 0) (eC (.int 0))) (eC (.str "let")))) (eC (.int 1)) (eC (.int 0)) [some (pD p)]=some (.int (if b=true then 1 else 0)):=λ{s b} h1 h2=>by
   unfold M0;rw[eqs (a:=s) (aC rfl rfl h1) h2,aB];cases b <;> rfl
  cases p with
  | lt x a b=>exact aN (aC (B (s := "let") (b:=true) rfl rfl) F (by rw[q_addAI];congr 2;simp_all[subs,lets];lia))
  | nm x=>exact aN (aC (B (s := "name") (b:=false) rfl rfl) F (by rw[q_addAI];congr 2))
  | nu n k=>exact aN (aC (B (s := "number") (b:=false) rfl rfl) F (by rw[q_addAI];congr 2))
  | u1 f a=>exact aN (aC (B (s := "use") (b:=false) rfl rfl) F (by rw[q_addAI];congr 2;simp_all[subs,lets]))
  | u2 f a b=>exact aN (aC (B (s := "use") (b:=false) rfl rfl) F (by rw[q_addAI];congr 2;simp_all[subs,lets]))
  | pk c k a b d=>exact aN (aC (B (s := "pick") (b:=false) rfl rfl) F (by rw[q_addAI];congr 2;simp_all[subs,lets];lia))
  | ag n k x a b=>exact aN (aC (B (s := "again") (b:=false) rfl rfl) F (by rw[q_addAI];congr 2;simp_all[subs,lets]))
theorem pT:∀(m:Nat) (p:Pt),dep p<=m->b9 1 hC m [pD p]=some (.int (dep p:Int))
 | 0,p,h=>absurd h (by have:=eE p;lia)
 | m+1,p,h=>by
  refine aS ?_;unfold hC;have B:=gW (f:=aT (b9 1 hC m) (aH (aE 0) aY)) (rest:=[]) (g:=pD) (h:=λq=>D.int (dep q:Int)) (subs p) none λq F=>aD (aA rfl rfl) (pT m q (by have:=dC F;lia))
  have e:(subs p).map (λq=>D.int (dep q:Int))=((subs p).map λq=>(dep q:Int)).map .int:=by rw[ZS];rfl
  rw[e]at B;refine aN (aC rfl (aC (cV (uY rfl) (by rw[YV];have:=sub_len p;lia) B) rfl q_maxD) ?_);rw[q_addAI];congr 2;cases p <;> simp_all[subs,dep,My.HR] <;> lia
abbrev rO(m:Str×List D×List D):D:=.tup (.str m.1::.tup m.2.1::m.2.2)
abbrev c8(M:Int)(ks:List Str)(mk:List (Str×List D×List D)):D:=.tup [.int M,bV ks,.tup [],.tup (mk.map rO)]
def Tk(mk:List (Str×List D×List D))(n:Nat)(f:Str):Prop:=∃m∈mk,m.1=f/\m.2.1.length=n
def MY(ks:List Str)(k:Int):Prop:=0<=k/\k<(ks.length:Int)
def UR(kn:List Str)(x:Str):Prop:=aP x=true/\x∉kn
def Gp(M:Int)(ks:List Str)(mk:List (Str×List D×List D)):Pt->List Str->Nat->Prop
 | .nm x,kn,_=>x∈kn
 | .nu n k,_,_=>(0<=n/\n<M)/\MY ks k
 | .u1 f a,kn,rd=>Tk mk 1 f/\Gp M ks mk a kn rd
 | .u2 f a b,kn,rd=>Tk mk 2 f/\Gp M ks mk a kn rd/\Gp M ks mk b kn rd
 | .lt x a b,kn,rd=>UR kn x/\Gp M ks mk a kn rd/\Gp M ks mk b (kn++[x]) rd
 | .pk c k a b d,kn,rd=>MY ks c/\MY ks k/\Gp M ks mk a kn rd/\Gp M ks mk b kn rd/\Gp M ks mk d kn rd
 | .ag n k x a b,kn,rd=>(0<=n/\n<=9)/\MY ks k/\UR kn x/\rd<2/\Gp M ks mk a kn rd/\Gp M ks mk b (kn++[x]) (rd+1)
section
variable {M:Int}{ks:List Str}{mk:List (Str×List D×List D)}
theorem Gp.wf(F:M<=10^60)(B:∀m∈mk,aP m.1=true):∀(p:Pt) {kn:List Str} {rd:Nat},(∀x∈kn,aP x=true)->Gp M ks mk p kn rd->Wf ks p:=by
 have tk:∀ {n f},Tk mk n f->aP f=true:=λ⟨m,h,e,_⟩=>e ▸ B m h
 have q:∀ {kn:List Str} {x:Str},(∀x∈kn,aP x=true)->UR kn x->∀y∈kn++[x],aP y=true:=λhk J y N=>by
  rcases List.mem_append.mp N with h|h
  ·exact hk y h
  ·rw[List.mem_singleton.mp h];exact J.1
 intro p;induction p with
 | nm x=>exact λhk h=>hk x h
 | nu n k=>exact λhk h=>⟨⟨h.1.1,Int.lt_of_lt_of_le h.1.2 F⟩,h.2⟩
 | u1 f a ia=>exact λhk h=>⟨tk h.1,ia hk h.2⟩
 | u2 f a b ia ib=>exact λhk h=>⟨tk h.1,ia hk h.2.1,ib hk h.2.2⟩
 | lt x a b ia ib=>exact λhk h=>⟨h.1.1,ia hk h.2.1,ib (q hk h.1) h.2.2⟩
 | pk c k a b d ia ib id=>exact λhk h=>⟨h.1,h.2.1,ia hk h.2.2.1,ib hk h.2.2.2.1,id hk h.2.2.2.2⟩
 | ag n k x a b ia ib=>exact λhk h=>⟨h.1,h.2.1,h.2.2.1.1,ia hk h.2.2.2.2.1,ib (q hk h.2.2.1) h.2.2.2.2.2⟩
theorem oI:∀(m:Nat) (p:Pt) (kn:List Str) (rd:Nat),dep p<=m->Gp M ks mk p kn rd->b9 2 b5 m [pD p,.int (rd:Int)]=some (.bl false)
 | 0,p,_,_,h,_=>absurd h (by have:=eE p;lia)
 | m+1,p,kn,rd,h,g=>by
  refine aS ?_;unfold b5;have F:∀ {s:Str},aO (pD p) (.int 0)=some (.str s)->s ≠ "again" -> (∀q∈subs p,b9 2 b5 m [pD q,.int (rd:Int)]=some (.bl false))->eK (pL (c9 (aR DM (aR aO (aE 0) (eC (.int 0))) (eC (.str "again")))) (HY (aT HI (aH (dU [none,some 1] (fF (aT eI (aH (aE 0) aY))) (a7 0) jX (aT (b9 2 b5 m) (aH (aE 0) (aH (aE 1) aY)))) aY))) BK) (HY (RK (aR Q3 (aE 1) (eC (.int 2))) (RK (aT (b9 2 b5 m) (aH (aR aO (aE 0) (eC (.int 4))) (aH (aE 1) aY))) (aT (b9 2 b5 m) (aH (aR aO (aE 0) (eC (.int 5))) (aH (aR bD (aE 1) (eC (.int 1))) aY)))))) [some (pD p),some (.int (rd:Int))]=some (.rt (.bl false)):=λ{s} h0 hs B=>by
   have N:=gW (f:=aT (b9 2 b5 m) (aH (aE 0) (aH (aE 1) aY))) (rest:=[some (.int (rd:Int))]) (g:=pD) (h:=λ_=>D.bl false) (subs p) none λq h=>aD (aA rfl (aA rfl rfl)) (B q h)
   have e:(subs p).map (λ_=>D.bl false)=((subs p).map λ_=>false).map .bl:=by rw[ZS];rfl
   rw[e]at N;have an:((subs p).map λ_=>false).any id=false:=by simp[-YI,-YJ,aB,aG]
   have U:=q_any (bs:=(subs p).map λ_=>false);rw[an]at U;exact aJ (s_ift (aI (aC (aC rfl rfl h0) rfl ((q_neS ..).trans (by simp_all[hs])))) (aN (aD (aA (cV (uY rfl) (by rw[YV];have:=sub_len p;lia) N) rfl) U))) rfl
  cases p with
  | nm x=>exact F (s := "name") rfl (by decide) (λq B=>nomatch B)
  | nu n k=>exact F (s := "number") rfl (by decide) (λq B=>nomatch B)
  | u1 f a=>
   refine F (s := "use") rfl (by decide) λq B=>oI m q kn rd (by have:=dC B;lia) ?_
   cases List.mem_singleton.mp B;exact g.2
  | u2 f a b=>
   refine F (s := "use") rfl (by decide) λq B=>oI m q kn rd (by have:=dC B;lia) ?_
   simp only[subs,YZ,Y0,or_false]at B;rcases B with rfl|rfl
   ·exact g.2.1
   ·exact g.2.2
  | lt x a b=>
   refine F (s := "let") rfl (by decide) λq B=>?_
   have:=dC B;simp only[subs,YZ,Y0,or_false]at B;rcases B with rfl|rfl
   ·exact oI m q kn rd (by lia) g.2.1
   ·exact oI m q (kn++[x]) rd (by lia) g.2.2
  | pk c k a b d=>
   refine F (s := "pick") rfl (by decide) λq B=>oI m q kn rd (by have:=dC B;lia) ?_
   simp only[subs,YZ,Y0,or_false]at B;rcases B with rfl|rfl|rfl
   ·exact g.2.2.1
   ·exact g.2.2.2.1
   ·exact g.2.2.2.2
  | ag n k x a b=>
   obtain⟨_,_,_,r2,ga,W⟩:=g;have da:dep a+1<=dep (.ag n k x a b):=dC (YQ ..);have db:dep b+1<=dep (.ag n k x a b):=dC (YW _ (YQ ..));have Y:=oI m a kn rd (by lia) ga;have rb:=oI m b (kn++[x]) (rd+1) (by lia) W;have J:∀ {f h:Ev} {ρ:bI} {d:D},f ρ=some (.bl false)->h ρ=some d->RK f h ρ=some d:=λh1 h2=>by
    unfold RK;rw[h1,aB];exact h2
   refine aJ (p:=.nx [some (pD (.ag n k x a b)),some (.int (rd:Int))]) (s_iff (aI (aC (aC (x:=pD (.ag n k x a b)) (y:=.int 0) (r:=.str "again") rfl rfl rfl) rfl ((q_neS ..).trans (by simp[-YI,-YJ,aB,aG])))) rfl) ?_;refine aN (J (aC rfl rfl ?_) (J (aD (aA (x:=pD a) rfl (aA rfl rfl)) Y) (aD (aA (x:=pD b) rfl (aA (aC rfl rfl (q_addAI ..)) rfl)) rb)));show some (D.bl (decide _))=_;rw[decide_eq_false (by lia)]
end
theorem zC{w:Str}{l:List Str}:jN (.str w) (.lst (l.map .str))=some (.bl (decide (w∈l))):=by
 have e:=in_str (w:=w) (l:=l);exact e
theorem IT{w:Str}{l:List Str}:lT (.str w) (.lst (l.map .str))=some (.bl (!decide (w∈l))):=by
 have e:=AG (w:=w) (l:=l);exact e
theorem YA{g:Gv}{b:Sv}{x d:D}{xs:List D}{ρ ρ1:bI}(h:g x ρ=some ρ1)(k:b ρ1=some (.rt d)):dI g b (x::xs) ρ=some (.rt d):=by rw[dI,h,aB,k,aB]
theorem HG{g g':D->D->Option D}{F q B:Ev}{ρ:bI}{x y w d:D}(h1:F ρ=some x)(h2:q ρ=some y)(J:g x y=some (.bl true))(N:B ρ=some w)(U:g' y w=some d):hZ g g' F q B ρ=some d:=by
 unfold hZ;rw[h1,aB,h2,aB,J,aB,show BM (.bl true)=some true from rfl,aB,if_pos rfl,N,aB,U]
theorem jK{f:Ev}{ρ:bI}{d:D}(h:f ρ=some d):rG f ρ=some (.nx ρ):=by unfold rG;rw[h];rfl
theorem UZ{i j:Int}(h:i<=j):u9 (.int i) (.int j)=some (.bl true):=by
 show some (D.bl (decide _))=_;rw[decide_eq_true h]
theorem XF{i j:Int}(h:i<j):DJ (.int i) (.int j)=some (.bl true):=by
 show some (D.bl (decide _))=_;rw[decide_eq_true h]
section
variable {M:Int}{ks:List Str}{mk:List (Str×List D×List D)}
theorem tG{k:Int}(h:MY ks k):jP [c8 M ks mk,.int k]=some (.bl true):=by
 refine aS ?_;unfold sA;have q:b4 [bV ks]=some (.int (ks.length:Int)):=by simp_all[b4]
 exact aN (HG (x:=.int 0) (y:=.int k) (w:=.int (ks.length:Int)) rfl rfl (UZ h.1) (aD (aA rfl rfl) q) (XF h.2))
theorem d9{k:Int}(h:MY ks k):eD [c8 M ks mk,.int k]=some .non:=by
 refine P.gG (ρ:=[some (c8 M ks mk),some (.int k)]) ?_;unfold k6;exact s_iff (e9 (c:=true) (aI (aD (aA rfl (aA rfl rfl)) (tG h)))) rfl
theorem n5{kn:List Str}{x:Str}(h:UR kn x):dJ [.lst (kn.map .str),.str x]=some .non:=by
 refine P.gG (ρ:=[some (.lst (kn.map .str)),some (.str x)]) ?_;unfold gO;have q:=sU (x:=x) (by have:=dQ h.1;lia);rw[h.1]at q;have B:=zC (w:=x) (l:=kn);rw[decide_eq_false h.2]at B;exact s_iff (l9 (c:=false) (e9 (c:=true) (aI (aD (aA rfl rfl) q))) (kU rfl (aI (aC rfl rfl B)))) rfl
theorem qD{f:Str}{args:List D}{V K:D}{o:Option D}:∀(l:List (Str×List D×List D)) (o:Option D),(∃m∈l,m.1=f/\m.2.1.length=args.length)->
  dI (a7 3) (pL (mC (c9 (aR rN (aR aO (aE 3) (eC (.int 0))) (aR aO (aE 2) (eC (.int 1))))) (c9 (aR rN (aT b4 (aH (aR aO (aE 3) (eC (.int 1))) aY)) (aT b4 (aH (aR aO (aE 2) (eC (.int 2))) aY))))) UI BK) (l.map rO) [some V,some K,some (.tup [.str "use",.str f,.tup args]),o]=some (.rt .non)
 | [],_,h=>by obtain⟨m,q,_⟩:=h;cases q
 | m::l,o,h=>by
  have J:c9 (aR rN (aR aO (aE 3) (eC (.int 0))) (aR aO (aE 2) (eC (.int 1)))) [some V,some K,some (.tup [.str "use",.str f,.tup args]),some (rO m)]=some (decide (m.1=f)):=aI (aC (aC (r:=.str m.1) rfl rfl (uX (cW (j:=0) rfl))) (aC (r:=.str f) rfl rfl rfl) (q_eqS ..));have W:b4 [.tup m.2.1]=some (.int (m.2.1.length:Int)):=rfl;have Y:b4 [.tup args]=some (.int (args.length:Int)):=rfl;have U:c9 (aR rN (aT b4 (aH (aR aO (aE 3) (eC (.int 1))) aY)) (aT b4 (aH (aR aO (aE 2) (eC (.int 2))) aY))) [some V,some K,some (.tup [.str "use",.str f,.tup args]),some (rO m)]=some (decide ((m.2.1.length:Int)=(args.length:Int))):=aI (aC (aD (aA (x:=.tup m.2.1) (aC rfl rfl (uX (cW (j:=1) rfl))) rfl) W) (aD (aA (x:=.tup args) rfl rfl) Y) (q_eqI ..));by_cases h1:m.1=f
  ·by_cases h2:m.2.1.length=args.length
   ·exact YA (ρ1:=[some V,some K,some (.tup [.str "use",.str f,.tup args]),some (rO m)]) rfl (s_ift (dY (J.trans (by rw[decide_eq_true h1])) (mS rfl (U.trans (by rw[decide_eq_true (by lia)])))) rfl)
   ·rw[Y4,RA (ρ1:=[some V,some K,some (.tup [.str "use",.str f,.tup args]),some (rO m)]) rfl (s_iff (dY (J.trans (by rw[decide_eq_true h1])) (mS rfl (U.trans (by rw[decide_eq_false (by lia)])))) rfl)]
    refine qD (o:=o) l _ ?_;obtain⟨N,q,B,F⟩:=h;rcases List.mem_cons.mp q with rfl|q
    ·exact absurd F h2
    ·exact⟨N,q,B,F⟩
  ·rw[Y4,RA (ρ1:=[some V,some K,some (.tup [.str "use",.str f,.tup args]),some (rO m)]) rfl (s_iff (dY (J.trans (by rw[decide_eq_false h1])) (kU rfl rfl)) rfl)]
   refine qD (o:=o) l _ ?_;obtain⟨N,q,B,F⟩:=h;rcases List.mem_cons.mp q with rfl|q
   ·exact absurd B h1
   ·exact⟨N,q,B,F⟩
theorem nW{R:Fd}{f:Str}{args:List D}{K:D}(h:Tk mk args.length f):bC 4 (fQ R) [c8 M ks mk,K,.tup [.str "use",.str f,.tup args]]=some .non:=by
 refine aS ?_;unfold fQ;exact aJ (mN (xs:=mk.map rO) rfl (qD (o:=none) mk none h)) rfl
theorem qO(p:Pt)(i:Int):bT [pD p,.int i]=some (if i=1 then(match p with | .lt x _ _=>D.str x | .ag _ _ x _ _=>.str x|_=>.non)else .non):=by
 show bC 2 (fX _) _=_;refine aS ?_;unfold fX;by_cases h:i=1
 ·subst h
  rw[if_pos rfl];have q:pL (c9 (aR DM (aE 1) (eC (.int 1)))) (HY (eC .non)) BK [some (pD p),some (.int 1)]=some (.nx [some (pD p),some (.int 1)]):=s_iff (aI (aC rfl rfl ((q_neI ..).trans (by simp[-YI,-YJ,aB,aG])))) rfl;refine aJ q ?_;cases p with
  | lt x a b=>exact aJ (s_ift (eqs (a := "let") rfl rfl) (aN rfl)) rfl
  | ag n k x a b=>exact aJ (s_iff (eqs (a := "again") rfl rfl) rfl) (aJ (s_ift (eqs (a := "again") rfl rfl) (aN rfl)) rfl)
  | nm x=>exact aJ (s_iff (eqs (a := "name") rfl rfl) rfl) (aJ (s_iff (eqs (a := "name") rfl rfl) rfl) (aN rfl))
  | nu n k=>exact aJ (s_iff (eqs (a := "number") rfl rfl) rfl) (aJ (s_iff (eqs (a := "number") rfl rfl) rfl) (aN rfl))
  | u1 f a=>exact aJ (s_iff (eqs (a := "use") rfl rfl) rfl) (aJ (s_iff (eqs (a := "use") rfl rfl) rfl) (aN rfl))
  | u2 f a b=>exact aJ (s_iff (eqs (a := "use") rfl rfl) rfl) (aJ (s_iff (eqs (a := "use") rfl rfl) rfl) (aN rfl))
  | pk c k a b d=>exact aJ (s_iff (eqs (a := "pick") rfl rfl) rfl) (aJ (s_iff (eqs (a := "pick") rfl rfl) rfl) (aN rfl))
 ·rw[if_neg h]
  exact aJ (s_ift (aI (aC rfl rfl ((q_neI ..).trans (by simp_all[h])))) (aN rfl)) rfl
theorem FQ{R:Fd}{V P q:D}{kn:List Str}{i:Int}{o:Option D}{w:D}{B:List Str}(hw:bT [P,.int i]=some w)(hk:w=.non/\B=kn\/∃x,w=.str x/\B=kn++[x])(J:kn.length<=1000)(F:R [V,.lst (B.map .str),q]=some .non) :
  eK (eL 5 (aT bT (aH (aE 2) (aH (aE 3) aY)))) (rG (aT R (aH (aE 0) (aH (M0 (c9 (aR C9 (aE 5) (eC .non))) (aE 1) (aR bD (aE 1) (mD (aH (aE 5) aY)))) (aH (aE 4) aY))))) [some V,some (.lst (kn.map .str)),some P,some (.int i),some q,o]=some (.nx [some V,some (.lst (kn.map .str)),some P,some (.int i),some q,some w]):=by
 refine(aL (aU (aD (aA rfl (aA rfl rfl)) hw))).trans ?_;refine jK (aD (aA rfl (aA (x:=.lst (B.map .str)) ?_ (aA rfl rfl))) F);rcases hk with⟨rfl,rfl⟩|⟨x,rfl,rfl⟩
 ·rfl
 ·have c:c9 (aR C9 (aE 5) (eC .non)) [some V,some (.lst (kn.map .str)),some P,some (.int i),some q,some (.str x)]=some false:=rfl
  show M0 _ _ _ [some V,some (.lst (kn.map .str)),some P,some (.int i),some q,some (.str x)]=_;unfold M0;rw[c,aB,if_neg (by decide)];refine aC rfl (dE (aA rfl rfl)) ((mP (by simp[-YI,-YJ,aB,aG];lia)).trans ?_);simp[-YI,-YJ,aB,aG]
end
abbrev WV(R:Fd):Sv:=eK (eL 5 (aT bT (aH (aE 2) (aH (aE 3) aY)))) (rG (aT R (aH (aE 0) (aH (M0 (c9 (aR C9 (aE 5) (eC .non))) (aE 1) (aR bD (aE 1) (mD (aH (aE 5) aY)))) (aH (aE 4) aY)))))
theorem z8{R:Fd}{V P:D}{kn:List Str}(q:kn.length<=1000):∀(l:List (Int×D×D×List Str)) (a b c:Option D),(∀e∈l,bT [P,.int e.1]=some e.2.2.1/\(e.2.2.1=.non/\e.2.2.2=kn\/∃x,e.2.2.1=.str x/\e.2.2.2=kn++[x])/\R [V,.lst (e.2.2.2.map .str),e.2.1]=some .non)->
  ∃ρ',dI (iI 2 (cG (a7 3) (cG (a7 4) l5))) (WV R) (l.map λe=>.tup [.int e.1,e.2.1]) [some V,some (.lst (kn.map .str)),some P,a,b,c]=some (.nx ρ')
 | [],a,b,c,_=>⟨_,rfl⟩
 | e::l,a,b,c,h=>by
  obtain⟨h1,h2,F⟩:=h e (YQ ..);obtain⟨ρ',ih⟩:=z8 q l (some (.int e.1)) (some e.2.1) (some e.2.2.1) λx B=>h x (YW _ B)
  exact⟨ρ',(RA (ρ1:=[some V,some (.lst (kn.map .str)),some P,some (.int e.1),some e.2.1,c]) rfl (FQ h1 h2 q F)).trans ih⟩
section
variable {M:Int}{ks:List Str}{mk:List (Str×List D×List D)}
theorem hW{m:Nat}{s:Str}{p:Pt}{kn:List Str}{F:Str×Fd}{l:List (Int×D×D×List Str)}(N:kn.length<=1000)(W:aO (pD p) (.int 0)=some (.str s))(U:([("name",bC 3 (g4 (b9 6 a9 m))),("number",bC 3 (eU (b9 6 a9 m))),("use",bC 4 (fQ (b9 6 a9 m))),("let",bC 3 (iZ (b9 6 a9 m))),("pick",bC 3 (g8 (b9 6 a9 m))),("again",bC 3 (gA (b9 6 a9 m)))]:List (Str×Fd)).find? (λq=>decide (q.1=s))=some F)(J:F.2 [c8 M ks mk,.lst (kn.map .str),pD p]=some .non)
  (B:iJ 0 ((subs p).map pD)=l.map λe=>.tup [.int e.1,e.2.1]) (h:∀e∈l,bT [pD p,.int e.1]=some e.2.2.1/\(e.2.2.1=.non/\e.2.2.2=kn\/∃x,e.2.2.1=.str x/\e.2.2.2=kn++[x])/\b9 6 a9 m [c8 M ks mk,.lst (e.2.2.2.map .str),e.2.1]=some .non):b9 6 a9 (m+1) [c8 M ks mk,.lst (kn.map .str),pD p]=some .non:=by
 obtain⟨ρ',e⟩:=z8 (R:=b9 6 a9 m) (V:=c8 M ks mk) (P:=pD p) N l none none none h;refine P.gG (ρ:=ρ') ?_;unfold a9;refine(aL (jK (oK (s:=s) (aC rfl rfl W) rfl U J))).trans ?_;refine mN (AQ (aA (aD (aA rfl rfl) (zX p)) rfl) ?_) e;show some (iJ 0 ((subs p).map pD))=_;rw[B]
theorem lA:∀(m:Nat) (p:Pt) (kn:List Str) (rd:Nat),dep p<=m->kn.length+dep p<=500->Gp M ks mk p kn rd->b9 6 a9 m [c8 M ks mk,.lst (kn.map .str),pD p]=some .non
 | 0,p,_,_,h,_,_=>absurd h (by have:=eE p;lia)
 | m+1,p,kn,rd,h,hk,g=>by
  have J:kn.length<=1000:=by lia
  have w0:=qO p 0;have W:=qO p 1;have w2:=qO p 2;rw[if_neg (by decide)]at w0 w2;rw[if_pos rfl]at W;have st:∀ {q:Pt} {F:List Str} {N:Nat},q∈subs p->F.length<=kn.length+1->Gp M ks mk q F N->b9 6 a9 m [c8 M ks mk,.lst (F.map .str),pD q]=some .non:=λ{q F N} hq U gq=>lA m q F N (by have:=dC hq;lia) (by have:=dC hq;lia) gq
  cases p with
  | nm x=>
   refine hW (l:=[]) J (s := "name") rfl rfl (P.gG (ρ:=[some (c8 M ks mk),some (.lst (kn.map .str)),some (pD (.nm x))]) ?_) rfl (λe B=>nomatch B);unfold g4;have e:=IT (w:=x) (l:=kn);rw[decide_eq_true (show x∈kn from g)]at e;exact s_iff (aI (aC (aC (r:=.str x) rfl rfl rfl) rfl e)) rfl
  | nu n k=>
   obtain⟨U,hk⟩:=g;refine hW (l:=[]) J (s := "number") rfl rfl (P.gG (ρ:=[some (c8 M ks mk),some (.lst (kn.map .str)),some (pD (.nu n k))]) ?_) rfl (λe B=>nomatch B);unfold eU;refine(aL (s_iff (e9 (c:=true) (aI (HG (x:=.int 0) (y:=.int n) (w:=.int M) rfl rfl (UZ U.1) rfl (XF U.2)))) rfl)).trans ?_;exact jK (aD (aA rfl (aA (x:=.int k) rfl rfl)) (d9 hk))
  | u1 f a=>
   refine hW (l:=[(0,pD a,.non,kn)]) J (s := "use") rfl rfl (nW (args:=[pD a]) g.1) rfl λe B=>?_
   cases List.mem_singleton.mp B;exact⟨w0,.inl ⟨rfl,rfl⟩,st (YQ ..) (zan kn.length) g.2⟩
  | u2 f a b=>
   refine hW (l:=[(0,pD a,.non,kn),(1,pD b,.non,kn)]) J (s := "use") rfl rfl (nW (args:=[pD a,pD b]) g.1) rfl λe B=>?_
   simp only[YZ,Y0,or_false]at B;rcases B with rfl|rfl
   ·exact⟨w0,.inl ⟨rfl,rfl⟩,st (YQ ..) (zan kn.length) g.2.1⟩
   ·exact⟨W,.inl ⟨rfl,rfl⟩,st (YW _ (YQ ..)) (zan kn.length) g.2.2⟩
  | lt x a b=>
   refine hW (l:=[(0,pD a,.non,kn),(1,pD b,.str x,kn++[x])]) J (s := "let") rfl rfl (P.gG (ρ:=[some (c8 M ks mk),some (.lst (kn.map .str)),some (pD (.lt x a b))]) ?_) rfl λe B=>?_
   ·unfold iZ
    exact jK (aD (aA rfl (aA (x:=.str x) rfl rfl)) (n5 g.1))
   ·simp only[YZ,Y0,or_false]at B
    rcases B with rfl|rfl
    ·exact⟨w0,.inl ⟨rfl,rfl⟩,st (YQ ..) (zan kn.length) g.2.1⟩
    ·exact⟨W,.inr ⟨x,rfl,rfl⟩,st (YW _ (YQ ..)) (by simp[-YI,-YJ,aB,aG]) g.2.2⟩
  | pk c k a b d=>
   refine hW (l:=[(0,pD a,.non,kn),(1,pD b,.non,kn),(2,pD d,.non,kn)]) J (s := "pick") rfl rfl (P.gG (ρ:=[some (c8 M ks mk),some (.lst (kn.map .str)),some (pD (.pk c k a b d))]) ?_) rfl λe B=>?_
   ·unfold g8
    exact(aL (jK (aD (aA rfl (aA (x:=.int c) rfl rfl)) (d9 g.1)))).trans (jK (aD (aA rfl (aA (x:=.int k) rfl rfl)) (d9 g.2.1)))
   ·simp only[YZ,Y0,or_false]at B
    rcases B with rfl|rfl|rfl
    ·exact⟨w0,.inl ⟨rfl,rfl⟩,st (YQ ..) (zan kn.length) g.2.2.1⟩
    ·exact⟨W,.inl ⟨rfl,rfl⟩,st (YW _ (YQ ..)) (zan kn.length) g.2.2.2.1⟩
    ·exact⟨w2,.inl ⟨rfl,rfl⟩,st (YW _ (YW _ (YQ ..))) (zan kn.length) g.2.2.2.2⟩
  | ag n k x a b=>
   obtain⟨U,Y,hx,_,ga,gb⟩:=g;refine hW (l:=[(0,pD a,.non,kn),(1,pD b,.str x,kn++[x])]) J (s := "again") rfl rfl (P.gG (ρ:=[some (c8 M ks mk),some (.lst (kn.map .str)),some (pD (.ag n k x a b))]) ?_) rfl λe B=>?_
   ·unfold gA
    refine(aL (s_iff (e9 (c:=true) (aI (HG (x:=.int 0) (y:=.int n) (w:=.int 9) rfl rfl (UZ U.1) rfl (UZ U.2)))) rfl)).trans ?_;exact(aL (jK (aD (aA rfl (aA (x:=.int k) rfl rfl)) (d9 Y)))).trans (jK (aD (aA rfl (aA (x:=.str x) rfl rfl)) (n5 hx)))
   ·simp only[YZ,Y0,or_false]at B
    rcases B with rfl|rfl
    ·exact⟨w0,.inl ⟨rfl,rfl⟩,st (YQ ..) (zan kn.length) ga⟩
    ·exact⟨W,.inr ⟨x,rfl,rfl⟩,st (YW _ (YQ ..)) (by simp[-YI,-YJ,aB,aG]) gb⟩
theorem p3{hs0:D}:∀(hs:List (Str×Int)) (done:List Str) (a b:Option D),(∀h∈hs,aP h.1=true/\MY ks h.2)->(done++hs.map (·.1)).Nodup->done.length+hs.length<=1000->
  ∃ρ',dI (iI 2 (cG (a7 3) (cG (a7 4) l5))) (eK (pL (LZ (xO (c9 (aT jO (aH (aE 3) aY)))) (c9 (aR jN (aE 3) (aE 2)))) xQ BK) (eK (pL (xO (c9 (aT jP (aH (aE 0) (aH (aE 4) aY))))) xQ BK) (zI 2 (aE 3)))) (hs.map hdD) [some (c8 M ks mk),some hs0,some (.lst (done.map .str)),a,b]=some (.nx ρ')
 | [],done,a,b,_,_,_=>⟨_,rfl⟩
 | h::hs,done,a,b,ok,nd,B=>by
  obtain⟨q,U⟩:=ok h (YQ ..);have B:done.length+(hs.length+1)<=1000:=B;have W:h.1∉done:=λz=>(List.nodup_append.mp nd).2.2 _ z _ (YQ ..) rfl
  obtain⟨ρ',ih⟩:=p3 (hs0:=hs0) hs (done++[h.1]) (some (.str h.1)) (some (.int h.2)) (λx N=>ok x (YW _ N)) (by rw[List.append_assoc];exact nd) (by simp[-YI,-YJ,aB,aG];lia);have F:=sU (x:=h.1) (by have:=dQ q;lia);rw[q]at F;have J:=zC (w:=h.1) (l:=done);rw[decide_eq_false W]at J;refine⟨ρ',?_⟩;rw[Y4,RA (ρ1:=[some (c8 M ks mk),some hs0,some (.lst (done.map .str)),some (.str h.1),some (.int h.2)]) (ρ':=[some (c8 M ks mk),some hs0,some (.lst ((done++[h.1]).map .str)),some (.str h.1),some (.int h.2)]) rfl ?_]
  ·exact ih
  ·refine(aL (s_iff (l9 (c:=false) (e9 (c:=true) (aI (aD (aA rfl rfl) F))) (kU rfl (aI (aC rfl rfl J)))) rfl)).trans ?_
   refine(aL (s_iff (e9 (c:=true) (aI (aD (aA rfl (aA rfl rfl)) (tG U)))) rfl)).trans ?_;refine(y8 (xs:=done.map .str) rfl rfl (by rw[YV];lia)).trans ?_;simp[-YI,-YJ,aB,aG]
variable {hs:List (Str×Int)}{p:Pt}
theorem pB{y:Str×Int->D}{f:Ev}:∀(hs:List (Str×Int)) (a b:Option D),(∀h∈hs,f [some (.str h.1),some (.int h.2)]=some (y h))->dF (iI 2 (cG (a7 0) (cG (a7 1) l5))) jX f (hs.map hdD) [a,b]=some (hs.map y)
 | [],_,_,_=>rfl
 | h::hs,a,b,k=>pF (ρ':=[some (.str h.1),some (.int h.2)]) rfl rfl (k h (YQ ..)) (pB hs _ _ λx q=>k x (YW _ q))
theorem CF(H:Hds ks hs)(q:sz p<=60)(F:lets p<=2)(hd:dep p<=24)(g:Gp M ks mk p (hs.map (·.1)) 0):sP [c8 M ks mk,.lst (hs.map hdD),pD p]=some (.tup [.tup (hs.map hdD),pD p]):=by
 have Y:=H.ln;have ch:kA [c8 M ks mk,.lst (hs.map hdD)]=some .non:=by
  obtain⟨ρ',e⟩:=p3 (M:=M) (mk:=mk) (hs0:=.lst (hs.map hdD)) hs [] none none (λh W=>H.ok h W) H.nd (by simp[-YI,-YJ,aB,aG];lia);refine P.gG (ρ:=ρ') ?_;unfold j4;refine(aL (s_iff (aI (aC (aD (aA rfl rfl) q_lenL) rfl ?_)) rfl)).trans ?_
  ·show some (D.bl (decide _))=_
   rw[YV,decide_eq_false (by lia)]
  ·exact(aL (aU rfl)).trans (mN rfl e)
 have J:lF [pD p]=some .non:=by
  refine P.gG (ρ:=[some (pD p)]) ?_;unfold k9;refine(aL (s_iff (aI (aC (aD (aA rfl rfl) (p9 30 p (by lia))) rfl ?_)) rfl)).trans ?_
  ·show some (D.bl (decide _))=_
   rw[decide_eq_false (by lia)]
  refine(aL (s_iff (aI (aC (aD (aA rfl rfl) (rX 30 p (by lia))) rfl ?_)) rfl)).trans ?_
  ·show some (D.bl (decide _))=_
   rw[decide_eq_false (by lia)]
  refine(aL (s_iff (aI (aC (aD (aA rfl rfl) (pT 30 p (by lia))) rfl ?_)) rfl)).trans ?_
  ·show some (D.bl (decide _))=_
   rw[decide_eq_false (by lia)]
  exact s_iff (aI (aD (aA rfl (aA rfl rfl)) (oI 30 p _ 0 (by lia) g))) rfl
 have N:=lA 30 p (hs.map (·.1)) 0 (by lia) (by rw[YV];lia) g;have B:dU [none,none] (fF (aE 1)) (iI 2 (cG (a7 0) (cG (a7 1) l5))) jX (aE 0) [some (c8 M ks mk),some (.lst (hs.map hdD)),some (pD p)]=some (.lst ((hs.map (·.1)).map .str)):=by
  refine cV (y6 rfl) (by rw[YV];lia) ((pB (y:=λh=>.str h.1) hs none none λh _=>rfl).trans ?_);rw[ZS];rfl
 have U:dU [none,none] (fF (aE 1)) (iI 2 (cG (a7 0) (cG (a7 1) l5))) jX (vC (aH (aE 0) (aH (aE 1) aY))) [some (c8 M ks mk),some (.lst (hs.map hdD)),some (pD p)]=some (.lst (hs.map hdD)):=cV (y6 rfl) (by rw[YV];lia) (pB (y:=hdD) hs none none λh _=>rfl);refine aS ?_;unfold rZ;refine(aL (jK (aD (aA rfl (aA rfl rfl)) ch))).trans ?_;refine(aL (jK (aD (aA rfl rfl) J))).trans ?_;refine(aL (jK (aD (aA rfl (aA B (aA rfl rfl))) N))).trans ?_;exact aN (cM (aA (aD (aA U rfl) rfl) (aA rfl rfl)))
end
def AL(m:Nat)(d:D):Prop:=b9 3 c6 m [d,d]=some (.bl true)
theorem jG{n:String}{f:Ev}{ρ:bI}{d:D}{b:Bool}(h:f ρ=some d)(q:oR d=true)(e:xI n d=b):xR n f ρ=some (.bl b):=by
 unfold xR;rw[h,aB,if_pos q,e]
theorem uS{f h:Ev}{ρ:bI}{d:D}(h1:f ρ=some (.bl true))(h2:h ρ=some d):LN f h ρ=some d:=by
 unfold LN;rw[h1,aB];exact h2
theorem d3{m:Nat}{x:Str}:AL (m+1) (.str x):=by
 refine aS ?_;unfold c6;refine(aL (s_iff (aI (jG (d:=.str x) rfl rfl rfl)) rfl)).trans ?_;exact aJ (s_ift (aI (jG (d:=.str x) rfl rfl rfl)) (aN (uS (jG (d:=.str x) rfl rfl rfl) (aC rfl rfl ((q_eqS ..).trans (by rw[decide_eq_true rfl])))))) rfl
theorem KO{n:Int}:nX [.int n]=some (.bl true):=by
 refine aS ?_;unfold nP;exact aN rfl
theorem kT{m:Nat}{n:Int}:AL (m+1) (.int n):=by
 refine aS ?_;unfold c6;refine(aL (s_iff (aI (jG (d:=.int n) rfl rfl rfl)) rfl)).trans ?_;refine(aL (s_iff (aI (jG (d:=.int n) rfl rfl rfl)) rfl)).trans ?_;exact aN (uS (aD (aA rfl rfl) KO) (aC rfl rfl ((q_eqI ..).trans (by rw[decide_eq_true rfl]))))
theorem AA{R:Fd}{l:List D}(h:∀x∈l,R [x,x]=some (.bl true)):∀(is:List Nat) (o:Option D),(∀i∈is,i<l.length)->∃o',dI (a7 2) (pL (xO (c9 (aT R (aH (aR aO (aE 0) (aE 2)) (aH (aR aO (aE 1) (aE 2)) aY))))) (HY (eC (.bl false))) BK) (is.map λi:Nat=>D.int (0+(i:Int)*1)) [some (.tup l),some (.tup l),o]=some (.nx [some (.tup l),some (.tup l),o'])
 | [],o,_=>⟨o,rfl⟩
 | i::is,o,hi=>by
  have lt:=hi i (YQ ..);obtain⟨o',ih⟩:=AA h is (some (.int (0+(i:Int)*1))) λj q=>hi j (YW _ q)
  have e:aO (.tup l) (.int (0+(i:Int)*1))=some l[i]:=by
   rw[show(0:Int)+(i:Int)*1=(i:Int) by lia];exact uX (cW (by simp_all[lt]))
  refine⟨o',?_⟩;rw[Y4,RA (ρ1:=[some (.tup l),some (.tup l),some (.int (0+(i:Int)*1))]) rfl (s_iff (e9 (c:=true) (aI (aD (aA (aC rfl rfl e) (aA (aC rfl rfl e) rfl)) (h l[i] (zbh lt))))) rfl)];exact ih
theorem d4{m:Nat}{l:List D}(F:l.length<=100)(h:∀x∈l,AL m x):AL (m+1) (.tup l):=by
 refine aS ?_;unfold c6;have q:b4 [.tup l]=some (.int (l.length:Int)):=rfl;have B:fS [.int (l.length:Int)]=some (bU 0 1 l.length):=by
  have:=kL (show(0:Int)<=(l.length:Int) by lia) (show(l.length:Int)<=1000000 by lia)
  rwa [zaq]at this
 obtain⟨o',e⟩:=AA (R:=b9 3 c6 m) h (Z6 l.length) none λi hi=>by simpa using hi
 refine aJ (p:=.rt (.bl true)) (s_ift (aI (jG (d:=.tup l) rfl rfl rfl)) ?_) rfl;refine(aL (s_iff (l9 (c:=false) (e9 (c:=true) (aI (jG (d:=.tup l) rfl rfl rfl))) (kU rfl (aI (aC (aD (aA rfl rfl) q) (aD (aA rfl rfl) q) ((q_neI ..).trans (by simp[-YI,-YJ,aB,aG])))))) rfl)).trans ?_;exact(aL (mN (G9 (aA (aD (aA rfl rfl) q) rfl) B) e)).trans (aN rfl)
theorem dD:∀(p:Pt) (m:Nat),2*dep p<=m->AL m (pD p)
 | .nm x,m,h=>by
  obtain⟨k,rfl⟩:∃k,m=k+1+1:=⟨m-2,by simp only[dep]at h;lia⟩;exact d4 (by simp[-YI,-YJ,aB,aG]) λd q=>by
   simp only[YZ,Y0,or_false]at q;rcases q with rfl|rfl <;> exact d3
 | .nu n k,m,h=>by
  obtain⟨k,rfl⟩:∃k,m=k+1+1:=⟨m-2,by simp only[dep]at h;lia⟩;exact d4 (by simp[-YI,-YJ,aB,aG]) λd q=>by
   simp only[YZ,Y0,or_false]at q;rcases q with rfl|rfl|rfl
   ·exact d3
   ·exact kT
   ·exact kT
 | .u1 f a,m,h=>by
  simp only[dep]at h;obtain⟨k,rfl⟩:∃k,m=k+1+1:=⟨m-2,by lia⟩;exact d4 (by simp[-YI,-YJ,aB,aG]) λd q=>by
   simp only[YZ,Y0,or_false]at q;rcases q with rfl|rfl|rfl
   ·exact d3
   ·exact d3
   ·exact d4 (by simp[-YI,-YJ,aB,aG]) λd q=>by
     cases List.mem_singleton.mp q;exact dD a k (by lia)
 | .u2 f a b,m,h=>by
  simp only[dep]at h;obtain⟨k,rfl⟩:∃k,m=k+1+1:=⟨m-2,by lia⟩;exact d4 (by simp[-YI,-YJ,aB,aG]) λd q=>by
   simp only[YZ,Y0,or_false]at q;rcases q with rfl|rfl|rfl
   ·exact d3
   ·exact d3
   ·exact d4 (by simp[-YI,-YJ,aB,aG]) λd q=>by
     simp only[YZ,Y0,or_false]at q;rcases q with rfl|rfl
     ·exact dD a k (by lia)
     ·exact dD b k (by lia)
 | .lt x a b,m,h=>by
  simp only[dep]at h;obtain⟨k,rfl⟩:∃k,m=k+1+1:=⟨m-2,by lia⟩;exact d4 (by simp[-YI,-YJ,aB,aG]) λd q=>by
   simp only[YZ,Y0,or_false]at q;rcases q with rfl|rfl|rfl|rfl
   ·exact d3
   ·exact d3
   ·exact dD a _ (by lia)
   ·exact dD b _ (by lia)
 | .pk c k a b s,m,h=>by
  simp only[dep]at h;obtain⟨k,rfl⟩:∃k,m=k+1+1:=⟨m-2,by lia⟩;exact d4 (by simp[-YI,-YJ,aB,aG]) λd q=>by
   simp only[YZ,Y0,or_false]at q;rcases q with rfl|rfl|rfl|rfl|rfl|rfl
   ·exact d3
   ·exact kT
   ·exact kT
   ·exact dD a _ (by lia)
   ·exact dD b _ (by lia)
   ·exact dD s _ (by lia)
 | .ag n k x a b,m,h=>by
  simp only[dep]at h;obtain⟨k,rfl⟩:∃k,m=k+1+1:=⟨m-2,by lia⟩;exact d4 (by simp[-YI,-YJ,aB,aG]) λd q=>by
   simp only[YZ,Y0,or_false]at q;rcases q with rfl|rfl|rfl|rfl|rfl|rfl
   ·exact d3
   ·exact kT
   ·exact kT
   ·exact d3
   ·exact dD a _ (by lia)
   ·exact dD b _ (by lia)
section
variable {M:Int}{ks:List Str}{mk:List (Str×List D×List D)}{hs:List (Str×Int)}{p:Pt}
theorem JO(B:hs.length<=6)(q:dep p<=24):AL 60 (.tup [.tup (hs.map hdD),pD p]):=d4 (m:=59) (by simp[-YI,-YJ,aB,aG]) λd h=>by
 simp only[YZ,Y0,or_false]at h;rcases h with rfl|rfl
 ·refine d4 (m:=58) (by rw[YV];lia) λd h=>?_
  obtain⟨x,_,rfl⟩:=List.mem_map.mp h;exact d4 (m:=57) (by simp[-YI,-YJ,aB,aG]) λd h=>by
   simp only[YZ,Y0,or_false]at h;rcases h with rfl|rfl
   ·exact d3
   ·exact kT
 ·exact dD p 59 (by lia)
theorem O4(K:Ks ks)(H:Hds ks hs)(W:M<=10^60)(N:∀m∈mk,aP m.1=true)(q:sz p<=60)(B:lets p<=2)(J:dep p<=24)(g:Gp M ks mk p (hs.map (·.1)) 0)(F:(tx ks p).length<=90000):pY [c8 M ks mk,.str (MZ ks hs p)]=some (.tup [.tup (hs.map hdD),pD p]):=by
 have wf:Wf ks p:=Gp.wf W N p (λx Y=>by
  obtain⟨h,hh,rfl⟩:=List.mem_map.mp Y;exact(H.ok h hh).1) g
 have lt:(fW ks p).length<=90000:=by rw[zJ];exact F
 have pt:fH [c8 M ks mk,.str (MZ ks hs p)]=some (.tup [.tup (hs.map hdD),pD p]):=by
  refine aS ?_;unfold fI;refine(aL (aU (aC rfl rfl (M2 K H wf F)))).trans ?_;refine(aL (s_iff (aI (aC (aD (aA rfl rfl) q_lenL) rfl ((q_neI ..).trans (by simp[-YI,-YJ,aB,aG])))) rfl)).trans ?_;refine(aL (aU (aD (aA (x:=bV ks) rfl (aA (x:=.str (kW ks hs)) rfl rfl)) (JZ K H)))).trans ?_;refine(aL (aU (aD (aA (x:=bV ks) rfl (aA (x:=.str (fW ks p)) rfl rfl)) (N4 K wf J lt)))).trans ?_;exact aN (aD (aA rfl (aA rfl (aA rfl rfl))) (CF H q B J g))
 have U:iW [c8 M ks mk,.str (MZ ks hs p)]=some (.tup [.tup (hs.map hdD),pD p]):=by
  refine aS ?_;unfold iQ;refine(aL (aU (aD (aA rfl (aA rfl rfl)) pt))).trans ?_;refine(aL (s_iff (aI (aC (aD (aA rfl (aA rfl rfl)) (iN K H rfl wf (by lia) F)) rfl ((q_neS ..).trans (by simp[-YI,-YJ,aB,aG])))) rfl)).trans ?_;exact aN rfl
 refine aS ?_;unfold pQ;refine(aL (aU rfl)).trans ?_;exact(aL (aU (aD (aA rfl (aA rfl rfl)) U))).trans (aN rfl)
end
abbrev iB(i l:Nat)(P:List Str):D:=.lst [.int (i:Int),.int (l:Int),.lst (P.map .str)]
theorem QG{n:Nat}{l:List D}(h:∀d∈l,eqN n d):eqN (n+1) (.lst l):=by
 obtain⟨xs,e,a,b⟩:=eqN.list h;refine⟨.lst xs,?_,a,?_⟩
 ·rw[iM,e];rfl
 ·show My.rL xs+1<=n+1
  lia
theorem vR(l:List Str):fG (.lst (l.map .str))=true:=(QG (n:=0) λd q=>by
 obtain⟨x,_,rfl⟩:=List.mem_map.mp q;exact eqN.str).ok (by decide)
theorem FZ(l:List Str):DM (.lst (l.map .str)) (.lst [])=some (.bl (!decide (l=[]))):=by
 unfold DM HW;rw[if_pos (.inr ⟨rfl,rfl,vR l,vR []⟩)];simp[-YI,-YJ,aB,aG]
section
variable {ns:List Int}{f:Int->Int}{P:List Str}{l:Nat}
theorem yW(q:Fx ns f){i:Nat}(hi:i<=900):eW [.lst (ns.map .int),iB i l P]=some (.int (f (i:Int)),iB (i+1) l P):=by
 refine cX ?_;unfold p7;refine gF (jU (k:=0) (n:=0) (xs:=[.int (i:Int),.int (l:Int),.lst (P.map .str)]) (e:=.int ((i+1:Nat):Int)) (aC (x:=.int (i:Int)) rfl rfl jY) rfl rfl rfl) (oE ?_);refine l6 (aD (aA rfl (aA (x:=.int (i:Int)) (aC (x:=.int ((i+1:Nat):Int)) (y:=.int 1) rfl rfl ?_) rfl)) (q i (by lia) (by lia))) rfl;show some (D.int _)=_;congr 2
 lia
variable {M:Int}{ks:List Str}{mk:List (Str×List D×List D)}
def RO(M:Int)(ks:List Str)(mk:List (Str×List D×List D))(P:List Str)(kn:List Str)(rd i l s e:Nat)(r:Option (D×D)):Prop:=∃(p:Pt) (i':Nat),r=some (pD p,iB i' (l+lets p) P)/\Gp M ks mk p kn rd/\sz p<=s/\dep p+e<=25/\l+lets p<=2/\i<=i'/\i'<=i+2*sz p
theorem O5(W:Fx ns f)(N:0<M)(hk:0<ks.length){kn:List Str}{rd i s e:Nat}(hi:i<=800)(hs:1<=s)(he:e<=24)(hl:l<=2)(hn:kn.length<=1000):RO M ks mk P kn rd i l s e (kN [.lst (ns.map .int),iB i l P,c8 M ks mk,.lst (kn.map .str)]):=by
 have F:=yW (l:=l) (P:=P) W (i:=i) (by lia);have e2:=yW (l:=l) (P:=P) W (i:=i+1) (by lia);generalize f (i:Int)=c at F;generalize f ((i+1:Nat):Int)=c2 at e2;have le:b4 [bV ks]=some (.int (ks.length:Int)):=by simp_all[b4]
 have q2:iA (.int c) (.int 2)=some (.int (c%2)):=bF (by decide);have U:oQ (.int c) (.int 2)=some (.int (c/2)):=dG (by decide) (by decide);have q:kN [.lst (ns.map .int),iB i l P,c8 M ks mk,.lst (kn.map .str)]=some (pD (.nu (c2%M) (c/2%(ks.length:Int))),iB (i+2) l P)\/(c%2=0/\kn≠[]):=by
  by_cases h:c%2=0/\kn≠[]
  ·exact .inr h
  ·refine .inl (cX ?_)
   unfold kP;refine gF (cL (bS rfl rfl rfl F) rfl) (oE ?_);have B:mC (c9 (aR rN (aR iA (aE 4) (eC (.int 2))) (eC (.int 0)))) (c9 (aR DM (aE 3) (mD aY))) [some (.lst (ns.map .int)),some (iB (i+1) l P),some (c8 M ks mk),some (.lst (kn.map .str)),some (.int c),none]=some false:=by
    have a:=aI (aC (ρ:=[some (.lst (ns.map .int)),some (iB (i+1) l P),some (c8 M ks mk),some (.lst (kn.map .str)),some (.int c),none]) (f:=aR iA (aE 4) (eC (.int 2))) (g:=eC (.int 0)) (aC rfl rfl q2) rfl (q_eqI (i:=c%2) (j:=0)));by_cases z:c%2=0
    ·have zn:kn=[]:=by
      by_cases y:kn=[]
      ·exact y
      ·exact absurd ⟨z,y⟩ h
     subst zn;exact dY (a.trans (by rw[decide_eq_true z])) (mS rfl (aI (aC rfl rfl (FZ []))))
    ·exact dY (a.trans (by rw[decide_eq_false z])) (kU rfl rfl)
   refine gF (xC B (kU rfl rfl)) (oE ?_);have qo:UV 1 iA (cS 1 eW (aE 0) aY) (aR aO (aE 2) (eC (.int 0))) [some (.lst (ns.map .int)),some (iB (i+1) l P),some (c8 M ks mk),some (.lst (kn.map .str)),some (.int c),none]=some (.int (c2%M),iB (i+2) l P):=by
    unfold UV;rw[bS (r:=(.int c2,iB (i+1+1) l P)) rfl rfl rfl e2,aB];show(aR aO (aE 2) (eC (.int 0)) [some (.lst (ns.map .int)),some (iB (i+1+1) l P),some (c8 M ks mk),some (.lst (kn.map .str)),some (.int c),none]).bind _=_;rw[aC (r:=.int M) rfl rfl rfl,aB,bF N];rfl
   refine gF (cL qo rfl) (oE ?_);exact l6 (cM (aA rfl (aA rfl (aA (aC (aC rfl rfl U) (aD (aA (x:=bV ks) rfl rfl) le) (bF (by lia))) rfl)))) rfl
 rcases q with e|⟨h1,h2⟩
 ·refine⟨_,i+2,e,⟨⟨ZU _ (by lia),ZV _ N⟩,ZU _ (by lia),ZV _ (by lia)⟩,hs,by simp only[dep];lia,by simp only[lets];lia,by lia,by simp only[sz];lia⟩
 ·have J:0<(kn.length:Int):=by have:=List.length_pos_iff.mpr h2;lia
  have m0:=ZU (c/2) (show(kn.length:Int)≠0 by lia);have m1:=ZV (c/2) J;obtain⟨j,hj⟩:=zaP m0;have Y:j<kn.length:=by lia
  have at_:aO (.lst (kn.map .str)) (.int (c/2%(kn.length:Int)))=some (.str kn[j]):=by
   rw[hj];exact tM (cW (by simp_all[Y]))
  refine⟨.nm kn[j],i+1,cX ?_,zbh Y,hs,by simp only[dep];lia,by simp only[lets];lia,by lia,by simp only[sz];lia⟩;unfold kP;refine gF (cL (bS rfl rfl rfl F) rfl) (oE ?_);refine gF (p:=.rt (pD (.nm kn[j])) (iB (i+1) l P)) (xC (c:=true) (dY (aI (aC (aC rfl rfl q2) rfl ((q_eqI ..).trans (by rw[decide_eq_true h1])))) (mS rfl (aI (aC rfl rfl ((FZ kn).trans (by rw[decide_eq_false h2];rfl)))))) (mS rfl ?_)) rfl;exact l6 (cM (aA rfl (aA (aC rfl (aC (aC rfl rfl U) (aD (aA rfl rfl) (q_lenL.trans (by rw[YV]))) (bF J)) at_) rfl))) rfl
end
theorem XI{B:Type}[DecidableEq B]:∀ {P K:List B},P.Nodup->(∀x∈P,x∈K)->P.length<=K.length
 | [],_,_,_=>zaa _
 | x::P,K,nd,h=>by
  obtain⟨N,J⟩:=List.nodup_cons.mp nd;have q:=h x (YQ ..);have:=XI (K:=K.erase x) J λy F=>(List.mem_erase_of_ne (λz:y=x=>N (z ▸ F))).mpr (h y (YW _ F))
  rw[List.length_erase_of_mem q]at this;have:=List.length_pos_of_mem q;simp only[Y7]
  lia
theorem IL{P kn:List Str}(hP:P.length=12)(nd:P.Nodup)(hk:kn.length<12){at_:Int}:∃x,nM [.lst (P.map .str),.lst (kn.map .str),.int at_]=some (.str x)/\x∈P/\x∉kn:=by
 have Y:=ZU at_ (show(12:Int)≠0 by decide);have m1:=ZV at_ (show(0:Int)<12 by decide);obtain⟨k0,F⟩:=zaP Y;have B:∀k:Nat,∃h:k%12<P.length,aO (.lst (P.map .str)) (.int (((k:Nat):Int)%12))=some (.str P[k%12]):=λk=>by
  have lt:k%12<P.length:=by rw[hP];exact Nat.mod_lt _ (by decide)
  refine⟨lt,?_⟩;rw[show((k:Nat):Int)%12=((k%12:Nat):Int) by lia];exact tM (cW (by simp_all[lt]))
 have U:∀k:Nat,iA (.int (k:Int)) (.int 12)=some (.int ((k:Int)%12)):=λk=>bF (by decide)
 suffices h:∃d,i8 (a8 4 [.lst (P.map .str),.lst (kn.map .str),.int at_])=some (.rt d)/\∃x,d=.str x/\x∈P/\x∉kn by
  obtain⟨d,e,x,rfl,h1,h2⟩:=h;exact⟨x,aS e,h1,h2⟩
 unfold i8;refine uQ (aU (d:=.int (k0:Int)) (aC rfl rfl ((bF (by decide)).trans (by rw[F])))) ?_;refine CK (I:=λn ρ=>∃k:Nat,ρ=[some (.lst (P.map .str)),some (.lst (kn.map .str)),some (.int at_),some (.int (k:Int))]/\k0<=k/\k+n=k0+12/\∀j,k0<=j->j<k->∀h:j%12<P.length,P[j%12]∈kn) (J:=λρ=>∃k:Nat,ρ=[some (.lst (P.map .str)),some (.lst (kn.map .str)),some (.int at_),some (.int (k:Int))]/\∀h:k%12<P.length,P[k%12]∉kn) 12 (by decide) ⟨k0,rfl,YS _,rfl,λj a b=>absurd b (by lia)⟩ ?_ ?_
 ·rintro n ρ ⟨k,rfl,h1,h2,N⟩
  obtain⟨lt,e⟩:=B k;have c:c9 (aR jN (aR aO (aE 0) (aR iA (aE 3) (eC (.int 12)))) (aE 1)) [some (.lst (P.map .str)),some (.lst (kn.map .str)),some (.int at_),some (.int (k:Int))]=some (decide (P[k%12]∈kn)):=aI (aC (aC rfl (aC rfl rfl (U k)) e) rfl zC);by_cases z:P[k%12]∈kn
  ·refine .inl ⟨c.trans (by rw[decide_eq_true z]),?_⟩
   have np:0<n:=by
    rcases Nat.eq_zero_or_pos n with rfl|h
    ·exfalso
     have:=XI nd (K:=kn) λx hx=>by
      obtain⟨i,hi,rfl⟩:=List.mem_iff_getElem.mp hx;rw[hP]at hi;obtain⟨j,j1,j2,W⟩:∃j,k0<=j/\j<k0+12/\j%12=i:=⟨if k0%12<=i then k0-k0%12+i else k0-k0%12+12+i,by split <;> lia,by split <;> lia,by split <;> lia⟩;subst W;exact N j j1 (by lia) _
     lia
    ·exact h
   refine⟨n-1,[some (.lst (P.map .str)),some (.lst (kn.map .str)),some (.int at_),some (.int ((k+1:Nat):Int))],by lia,zD (aC rfl rfl jY) rfl,k+1,rfl,by lia,by lia,λj a b h=>?_⟩;by_cases q:j<k
   ·exact N j a q h
   ·have:j=k:=by lia
    subst this;exact z
  ·exact .inr ⟨c.trans (by rw[decide_eq_false z]),k,rfl,λ_=>z⟩
 ·rintro ρ ⟨k,rfl,h⟩
  obtain⟨lt,e⟩:=B k;exact⟨_,aN (aC rfl (aC rfl rfl (U k)) e),_,rfl,zbh lt,h lt⟩
theorem GI{a b:Bv}{ρ:bI}{p q:Prop}[Decidable p][Decidable q](h1:a ρ=some (decide p))(h2:b ρ=some (decide q)):LZ a b ρ=some (decide (p\/q)):=by
 by_cases h:p
 ·exact l9 (h1.trans (by rw[decide_eq_true h])) (mS rfl (by rw[decide_eq_true (ZL h)]))
 ·refine l9 (h1.trans (by rw[decide_eq_false h])) (kU rfl (h2.trans ?_))
  congr 1;exact decide_eq_decide.mpr (by simp_all[h])
theorem uI{a b:Bv}{ρ:bI}{p q:Prop}[Decidable p][Decidable q](h1:a ρ=some (decide p))(h2:b ρ=some (decide q)):mC a b ρ=some (decide (p/\q)):=by
 by_cases h:p
 ·refine dY (h1.trans (by rw[decide_eq_true h])) (mS rfl (h2.trans ?_))
  congr 1;exact decide_eq_decide.mpr (by simp_all[h])
 ·exact dY (h1.trans (by rw[decide_eq_false h])) (kU rfl (by rw[decide_eq_false λz=>h z.1]))
theorem yT{a:Bv}{s t:Qv}{ρ:bI}{p:Prop}[Decidable p]{d l:D}(h:a ρ=some (decide p))(q:p)(k:s ρ=some (.rt d l)):rW (Q6 a s UQ) t ρ=some (.rt d l):=gF (xC h (mS (decide_eq_true q) k)) rfl
theorem yF{a:Bv}{s t:Qv}{ρ:bI}{p:Prop}[Decidable p]{o:Option OutQ}(h:a ρ=some (decide p))(q:¬ p)(k:t ρ=o):rW (Q6 a s UQ) t ρ=o:=gF (xC h (kU (decide_eq_false q) rfl)) (oE k)
theorem yS{s t:Qv}{ρ ρ':bI}{o:Option OutQ}(h:s ρ=some (.nx ρ'))(k:t ρ'=o):rW s t ρ=o:=gF h (oE k)
theorem uK{zc:Nat}{g:Gv}{f:Qe}{x d l:D}{xs ds:List D}{ρ ρ1 q:bI}(h:g x ρ=some ρ1)(h2:f ρ1=some (d,l))(B:rJ zc g f xs (ρ1.set zc (some l))=some (ds,q)):rJ zc g f (x::xs) ρ=some (d::ds,q):=by
 rw[rJ,h,aB,h2,aB,B];rfl
theorem KY{i z zc:Nat}{ms:List (Option Nat)}{it:Lv}{g:Gv}{f:Qe}{ρ ρe ρ':bI}{y l:D}{xs ds:List D}(F:aE z ρ=some y)(hi:it ρ=some xs)(zs:xs.length<=1000000)(B:rJ zc g f xs (k4 ms ρ)=some (ds,ρe))(q:aE zc ρe=some l)(k:(ρ.set z (some l)).set i (some (.lst ds))=ρ'):A4 i z zc ms it g f ρ=some (.nx ρ'):=by
 unfold A4;rw[F,aB];refine cL ?_ k;unfold BF;rw[hi,aB];refine(if_pos (decide_eq_true zs)).trans ?_;rw[B,aB,q,aG]
section
variable {ns:List Int}{M:Int}{ks:List Str}{mk:List (Str×List D×List D)}{P:List Str}
def Gr1(M:Int)(ks:List Str)(mk:List (Str×List D×List D))(P:List Str)(kn:List Str)(rd i l s e:Nat)(r:Option (D×D)):Prop:=∃(p:Pt) (i':Nat),r=some (pD p,iB i' (l+lets p) P)/\Gp M ks mk p kn rd/\sz p<=s/\dep p+e<=25/\l+lets p<=2/\i<=i'/\i'+2<=i+2*sz p
def GH(ns:List Int)(M:Int)(ks:List Str)(mk:List (Str×List D×List D))(P:List Str)(G:Fq)(e:Nat):Prop:=∀(kn:List Str) (rd i l s:Nat),(∀x∈kn,x∈P)->kn.length<=6+l+rd->1<=s->i+2*s<=800->l<=2->rd<=2->RO M ks mk P kn rd i l s e (G [.lst (ns.map .int),iB i l P,c8 M ks mk,.lst (kn.map .str),.int (s:Int),.int (e:Int),.int (rd:Int)])
theorem b8{c:Int}{n:Nat}(h:0<n):∃j:Nat,c%(n:Int)=(j:Int)/\j<n:=by
 obtain⟨j,q⟩:=zaP (ZU c (show(n:Int)≠0 by lia));have:=ZV c (show 0<(n:Int) by lia);exact⟨j,q,by lia⟩
variable (hP:P.length=12)(nd:P.Nodup)(ok:∀x∈P,aP x=true)(hk:0<ks.length)
include hP nd ok hk
theorem zR{G:Fq}{e:Nat}(H:GH ns M ks mk P G (e+1)){kn:List Str}{rd i l s:Nat}{cell:Int}(F:∀x∈kn,x∈P)(kl:kn.length<=6+l+rd)(hs:3<=s)(hi:i+2*s<=801)(hl:l<=2)(hr:rd<=2)(c0:cell%2=0->l<2)(c1:cell%2≠0->rd<2) :
  Gr1 M ks mk P kn rd i l s e (kY 13 (fK G) [.lst (ns.map .int),iB i l P,c8 M ks mk,.lst (kn.map .str),.int (s:Int),.int (e:Int),.int (rd:Int),.int cell]):=by
 obtain⟨j,ej,hj⟩:=b8 (c:=cell/2) (n:=s-2) (by lia);have es:((s-2:Nat):Int)=(s:Int)-2:=by lia
 rw[es]at ej;have J:kn.length<12:=by
  by_cases h:cell%2=0
  ·have:=c0 h;lia
  ·have:=c1 h;lia
 obtain⟨x,ex,xP,xk⟩:=IL hP nd J (at_:=cell/60);have nx:UR kn x:=⟨ok x xP,xk⟩;have le:b4 [bV ks]=some (.int (ks.length:Int)):=by simp_all[b4]
 have r8:aR bD (eC (.int 1)) (aR iA (aR oQ (aE 7) (eC (.int 2))) (aR mT (aE 4) (eC (.int 2)))) [some (.lst (ns.map .int)),some (iB i l P),some (c8 M ks mk),some (.lst (kn.map .str)),some (.int (s:Int)),some (.int (e:Int)),some (.int (rd:Int)),some (.int cell),none,none,none,none,none]=some (.int ((j+1:Nat):Int)):=aC rfl (aC (aC rfl rfl (dG (by decide) (by decide))) (aC rfl rfl rfl) (bF (by lia))) (by rw[ej,q_addAI];congr 2;lia);have q:bD (.lst (kn.map .str)) (.lst [.str x])=some (.lst ((kn++[x]).map .str)):=(mP (by simp[-YI,-YJ,aB,aG];lia)).trans (by simp[-YI,-YJ,aB,aG]);have B:mT (.int ((s:Int)-1)) (.int ((j+1:Nat):Int))=some (.int ((s-1-(j+1):Nat):Int)):=by
  show some (D.int _)=_;congr 2
  lia
 have N:∀y∈kn++[x],y∈P:=λy hy=>by
  rcases List.mem_append.mp hy with h|h
  ·exact F y h
  ·rw[List.mem_singleton.mp h];exact xP
 by_cases h:cell%2=0
 ·have l2:=c0 h
  obtain⟨a,Y,W,ga,sa,da,la,ia,ja⟩:=H kn rd i (l+1) (j+1) F (by lia) (by lia) (by lia) (by lia) hr;obtain⟨b,i2,eb,U,sb,db,lb,ib,jb⟩:=H (kn++[x]) rd Y (l+1+lets a) (s-1-(j+1)) N (by simp[-YI,-YJ,aB,aG];lia) (by lia) (by lia) (by lia) hr;refine⟨.lt x a b,i2,cX ?_,⟨nx,ga,U⟩,by simp only[sz];lia,by simp only[dep];lia,by simp only[lets];lia,by lia,by simp only[sz];lia⟩;unfold fK;rw[show l+lets (.lt x a b)=l+1+lets a+lets b by simp only[lets];lia];refine yS (dP r8 rfl) ?_;refine yS (dP (aD (aA (x:=.lst (P.map .str)) rfl (aA rfl (aA (aC rfl rfl (dG (by decide) (by decide))) rfl))) ex) rfl) ?_;refine yT (p:=cell%2=0) (aI (aC (aC rfl rfl (bF (by decide))) rfl (q_eqI ..))) h ?_;refine yS (jU (k:=1) (n:=1) (xs:=[.int (i:Int),.int (l:Int),.lst (P.map .str)]) (e:=.int ((l+1:Nat):Int)) (aC (x:=.int (l:Int)) rfl rfl jY) rfl rfl rfl) ?_;refine yS (cL (bS rfl (aA rfl (aA rfl (aA rfl (aA (aC rfl rfl jY) (aA rfl rfl))))) rfl W) rfl) ?_;refine yS (cL (bS rfl (aA rfl (aA (aC rfl (dE (aA rfl rfl)) q) (aA (aC (aC rfl rfl rfl) rfl B) (aA (aC rfl rfl jY) (aA rfl rfl))))) rfl eb) rfl) ?_;exact l6 rfl rfl
 ·have r2:=c1 h
  obtain⟨a,Y,W,ga,sa,da,la,ia,ja⟩:=H kn rd i l (j+1) F (by lia) (by lia) (by lia) (by lia) hr;obtain⟨b,i2,eb,U,sb,db,lb,ib,jb⟩:=H (kn++[x]) (rd+1) Y (l+lets a) (s-1-(j+1)) N (by simp[-YI,-YJ,aB,aG];lia) (by lia) (by lia) (by lia) (by lia);obtain⟨u,eu,hu⟩:=b8 (c:=cell/720) (n:=ks.length) hk;obtain⟨v,ev,hv⟩:=b8 (c:=cell/4320) (n:=10) (by decide);refine⟨.ag (v:Int) (u:Int) x a b,i2,cX ?_,⟨⟨by lia,by lia⟩,⟨by lia,by lia⟩,nx,r2,ga,U⟩,by simp only[sz];lia,by simp only[dep];lia,by simp only[lets];lia,by lia,by simp only[sz];lia⟩;unfold fK;rw[show l+lets (.ag (v:Int) (u:Int) x a b)=l+lets a+lets b by simp only[lets];lia];refine yS (dP r8 rfl) ?_;refine yS (dP (aD (aA (x:=.lst (P.map .str)) rfl (aA rfl (aA (aC rfl rfl (dG (by decide) (by decide))) rfl))) ex) rfl) ?_;refine yF (p:=cell%2=0) (aI (aC (aC rfl rfl (bF (by decide))) rfl (q_eqI ..))) h ?_;refine yS (dP (d:=.int (u:Int)) (aC (aC rfl rfl (dG (by decide) (by decide))) (aD (aA (x:=bV ks) rfl rfl) le) ((bF (by lia)).trans (by rw[eu]))) rfl) ?_;refine yS (cL (bS rfl (aA rfl (aA rfl (aA rfl (aA (aC rfl rfl jY) (aA rfl rfl))))) rfl W) rfl) ?_;refine yS (cL (bS rfl (aA rfl (aA (aC rfl (dE (aA rfl rfl)) q) (aA (aC (aC rfl rfl rfl) rfl B) (aA (aC rfl rfl jY) (aA (aC rfl rfl jY) rfl))))) rfl eb) rfl) ?_;exact l6 (cM (aA rfl (aA (x:=.int (v:Int)) (aC (aC rfl rfl (dG (by decide) (by decide))) rfl ((bF (by decide)).trans (by rw[<- ev];rfl))) (aA rfl (aA rfl (aA rfl (aA rfl rfl))))))) rfl
end
section
variable {ns:List Int}{f:Int->Int}{M:Int}{ks:List Str}{mk:List (Str×List D×List D)}{P:List Str}
theorem EA(hk:0<ks.length){G:Fq}{e:Nat}(H:GH ns M ks mk P G (e+1)){kn:List Str}{rd i l s:Nat}{cell:Int}(q:∀x∈kn,x∈P)(kl:kn.length<=6+l+rd)(hs:4<=s)(hi:i+2*s<=801)(hl:l<=2)(F:rd<=2) :
  Gr1 M ks mk P kn rd i l s e (kY 13 (g7 G) [.lst (ns.map .int),iB i l P,c8 M ks mk,.lst (kn.map .str),.int (s:Int),.int (e:Int),.int (rd:Int),.int cell]):=by
 obtain⟨j,ej,hj⟩:=b8 (c:=cell) (n:=s-3) (by lia);have es:((s-3:Nat):Int)=(s:Int)-3:=by lia
 rw[es]at ej;obtain⟨k,Y,al⟩:=b8 (c:=cell/7) (n:=s-2-(j+1)) (by lia);have N:((s-2-(j+1):Nat):Int)=(s:Int)-2-((j+1:Nat):Int):=by lia
 rw[N]at Y;have le:b4 [bV ks]=some (.int (ks.length:Int)):=by simp_all[b4]
 obtain⟨u,eu,hu⟩:=b8 (c:=cell/49) (n:=ks.length) hk;obtain⟨v,ev,hv⟩:=b8 (c:=cell/294) (n:=ks.length) hk;obtain⟨a,W,ea,ga,sa,da,la,ia,ja⟩:=H kn rd i l (j+1) q kl (by lia) (by lia) hl F;obtain⟨b,i2,eb,gb,sb,db,lb,ib,jb⟩:=H kn rd W (l+lets a) (k+1) q (by lia) (by lia) (by lia) (by lia) F;obtain⟨c,U,ec,gc,sc,dc,lc,ic,jc⟩:=H kn rd i2 (l+lets a+lets b) (s-1-(j+1)-(k+1)) q (by lia) (by lia) (by lia) (by lia) F;refine⟨.pk (u:Int) (v:Int) a b c,U,cX ?_,⟨⟨by lia,by lia⟩,⟨by lia,by lia⟩,ga,gb,gc⟩,by simp only[sz];lia,by simp only[dep];lia,by simp only[lets];lia,by lia,by simp only[sz];lia⟩;unfold g7;rw[show l+lets (.pk (u:Int) (v:Int) a b c)=l+lets a+lets b+lets c by simp only[lets];lia];have r8:aR bD (eC (.int 1)) (aR iA (aE 7) (aR mT (aE 4) (eC (.int 3)))) [some (.lst (ns.map .int)),some (iB i l P),some (c8 M ks mk),some (.lst (kn.map .str)),some (.int (s:Int)),some (.int (e:Int)),some (.int (rd:Int)),some (.int cell),none,none,none,none,none]=some (.int ((j+1:Nat):Int)):=aC rfl (aC rfl (aC rfl rfl rfl) (bF (by lia))) (by rw[ej,q_addAI];congr 2;lia);have r9:aR bD (eC (.int 1)) (aR iA (aR oQ (aE 7) (eC (.int 7))) (aR mT (aR mT (aE 4) (eC (.int 2))) (aE 8))) [some (.lst (ns.map .int)),some (iB i l P),some (c8 M ks mk),some (.lst (kn.map .str)),some (.int (s:Int)),some (.int (e:Int)),some (.int (rd:Int)),some (.int cell),some (.int ((j+1:Nat):Int)),none,none,none,none]=some (.int ((k+1:Nat):Int)):=aC rfl (aC (aC rfl rfl (dG (by decide) (by decide))) (aC (aC rfl rfl rfl) rfl rfl) (bF (by lia))) (by rw[Y,q_addAI];congr 2;lia);have B:mD (aH (aE 8) (aH (aE 9) (aH (aR mT (aR mT (aR mT (aE 4) (eC (.int 1))) (aE 8)) (aE 9)) aY))) [some (.lst (ns.map .int)),some (iB i l P),some (c8 M ks mk),some (.lst (kn.map .str)),some (.int (s:Int)),some (.int (e:Int)),some (.int (rd:Int)),some (.int cell),some (.int ((j+1:Nat):Int)),some (.int ((k+1:Nat):Int)),none,none,none]=some (.lst [.int ((j+1:Nat):Int),.int ((k+1:Nat):Int),.int ((s-1-(j+1)-(k+1):Nat):Int)]):=dE (aA rfl (aA rfl (aA (aC (aC (aC rfl rfl rfl) rfl rfl) rfl (by show some (D.int _)=_;congr 2;lia)) rfl)));refine yS (dP r8 rfl) (yS (dP r9 rfl) (yS (dP B rfl) ?_));have J:∀ {i' l' n:Nat} {r:D×D} {o:Option D},G [.lst (ns.map .int),iB i' l' P,c8 M ks mk,.lst (kn.map .str),.int (n:Int),.int ((e+1:Nat):Int),.int (rd:Int)]=some r->cS 2 G (aE 1) (aH (aE 3) (aH (aE 4) (aH (aE 0) (aH (aR bD (aE 5) (eC (.int 1))) (aH (aE 6) aY))))) [some (.int (n:Int)),some (.lst (ns.map .int)),some (iB i' l' P),some (c8 M ks mk),some (.lst (kn.map .str)),some (.int (e:Int)),some (.int (rd:Int))]=some r:=λh=>bS rfl (aA rfl (aA rfl (aA rfl (aA (aC rfl rfl jY) (aA rfl rfl))))) rfl h
 refine yS (KY (xs:=[.int ((j+1:Nat):Int),.int ((k+1:Nat):Int),.int ((s-1-(j+1)-(k+1):Nat):Int)]) (ds:=[pD a,pD b,pD c]) (l:=iB U (l+lets a+lets b+lets c) P) (ρe:=[some (.int ((s-1-(j+1)-(k+1):Nat):Int)),some (.lst (ns.map .int)),some (iB U (l+lets a+lets b+lets c) P),some (c8 M ks mk),some (.lst (kn.map .str)),some (.int (e:Int)),some (.int (rd:Int))]) rfl rfl (by simp[-YI,-YJ,aB,aG]) (uK (ρ1:=[some (.int ((j+1:Nat):Int)),some (.lst (ns.map .int)),some (iB i l P),some (c8 M ks mk),some (.lst (kn.map .str)),some (.int (e:Int)),some (.int (rd:Int))]) rfl (J (o:=none) ea) (uK (ρ1:=[some (.int ((k+1:Nat):Int)),some (.lst (ns.map .int)),some (iB W (l+lets a) P),some (c8 M ks mk),some (.lst (kn.map .str)),some (.int (e:Int)),some (.int (rd:Int))]) rfl (J (o:=none) eb) (uK (ρ1:=[some (.int ((s-1-(j+1)-(k+1):Nat):Int)),some (.lst (ns.map .int)),some (iB i2 (l+lets a+lets b) P),some (c8 M ks mk),some (.lst (kn.map .str)),some (.int (e:Int)),some (.int (rd:Int))]) rfl (J (o:=none) ec) rfl))) rfl rfl) ?_;refine yS (dP (d:=.int (ks.length:Int)) (aD (aA (x:=bV ks) rfl rfl) le) rfl) ?_;exact l6 (cM (aA rfl (aA (x:=.int (u:Int)) (aC (aC rfl rfl (dG (by decide) (by decide))) rfl ((bF (by lia)).trans (by rw[<- eu]))) (aA (x:=.int (v:Int)) (aC (aC rfl rfl (dG (by decide) (by decide))) rfl ((bF (by lia)).trans (by rw[<- ev]))) (aA (x:=pD a) rfl (aA (x:=pD b) rfl (aA (x:=pD c) rfl rfl))))))) rfl
end
abbrev kI(d0 d1 d2:Str)(z:Int):List (Str×List D×List D):=[(d0,[.int 0],[.int 0,.tup [],.int 0]),(d1,[.int 0,.int z],[.int z,.tup [.tup [.tup [.int 0,.int 0],.int 1]],.int 5]),(d0,[.int z,.int 0],[.int 0,.tup [],.int 7]),(d2,[.int z],[.int 0,.tup [.tup [.tup [.int 1],.int 2]],.int (10^30)])]
theorem Gr1.gr{M:Int}{ks:List Str}{mk:List (Str×List D×List D)}{P kn:List Str}{rd i l s e:Nat}{r:Option (D×D)}(h:Gr1 M ks mk P kn rd (i+1) l s e r):RO M ks mk P kn rd i l s e r:=by
 obtain⟨p,q,e,g,a,b,c,d,j⟩:=h;exact⟨p,q,e,g,a,b,c,by lia,by lia⟩
section
variable {ns:List Int}{f:Int->Int}{M:Int}{ks:List Str}{P:List Str}{d0 d1 d2:Str}{z:Int}
theorem J3(hf:Fx ns f)(hM:0<M)(hP:P.length=12)(nd:P.Nodup)(ok:∀x∈P,aP x=true)(hk:0<ks.length){m e:Nat}(H:e<=23->GH ns M ks (kI d0 d1 d2 z) P (GB m) (e+1))(he:e<=24):GH ns M ks (kI d0 d1 d2 z) P (GB (m+1)) e:=by
 intro kn rd i l s q Y hs hi N U;show RO M ks (kI d0 d1 d2 z) P kn rd i l s e (kY 13 (bM (GB m)) _);have c1:LZ (c9 (aR DJ (aE 4) (eC (.int 2)))) (c9 (aR DC (aE 5) (eC (.int 23)))) [some (.lst (ns.map .int)),some (iB i l P),some (c8 M ks (kI d0 d1 d2 z)),some (.lst (kn.map .str)),some (.int (s:Int)),some (.int (e:Int)),some (.int (rd:Int)),none,none,none,none,none,none]=some (decide ((s:Int)<2\/(23:Int)<(e:Int))):=GI (aI (aC rfl rfl rfl)) (aI (aC rfl rfl rfl));by_cases h1:(s:Int)<2\/(23:Int)<(e:Int)
 ·obtain⟨p,F,J,r⟩:=O5 (mk:=kI d0 d1 d2 z) (P:=P) (l:=l) hf hM hk (kn:=kn) (rd:=rd) (i:=i) (s:=s) (e:=e) (by lia) hs he N (by lia)
  refine⟨p,F,cX ?_,r⟩;unfold bM;exact yT c1 h1 (qV (bS rfl (aA rfl (aA rfl rfl)) rfl J))
 ·have s2:2<=s:=by lia
  have al:e<=23:=by lia
  have H:=H al;have en:=yW (l:=l) (P:=P) hf (i:=i) (by lia);generalize f (i:Int)=c at en;have B:∀ {g:Qv} {o:Option OutQ},g [some (.lst (ns.map .int)),some (iB (i+1) l P),some (c8 M ks (kI d0 d1 d2 z)),some (.lst (kn.map .str)),some (.int (s:Int)),some (.int (e:Int)),some (.int (rd:Int)),some (.int c),some (.int (c%6)),some (.int (c/6)),none,none,none]=o->∀ {lf:Qv},rW (Q6 (LZ (c9 (aR DJ (aE 4) (eC (.int 2)))) (c9 (aR DC (aE 5) (eC (.int 23))))) lf UQ) (rW (oJ 7 1 (cS 1 eW (aE 0) aY)) (rW (zH 8 (aR iA (aE 7) (eC (.int 6)))) (rW (zH 9 (aR oQ (aE 7) (eC (.int 6)))) g))) [some (.lst (ns.map .int)),some (iB i l P),some (c8 M ks (kI d0 d1 d2 z)),some (.lst (kn.map .str)),some (.int (s:Int)),some (.int (e:Int)),some (.int (rd:Int)),none,none,none,none,none,none]=o:=by
   intro g o k lf;exact yF c1 h1 (yS (cL (bS rfl rfl rfl en) rfl) (yS (dP (aC rfl rfl (bF (by decide))) rfl) (yS (dP (aC rfl rfl (dG (by decide) (by decide))) rfl) k)))
  have c2:LZ (c9 (aR rN (aE 4) (eC (.int 2)))) (c9 (aR rN (aE 8) (eC (.int 0)))) [some (.lst (ns.map .int)),some (iB (i+1) l P),some (c8 M ks (kI d0 d1 d2 z)),some (.lst (kn.map .str)),some (.int (s:Int)),some (.int (e:Int)),some (.int (rd:Int)),some (.int c),some (.int (c%6)),some (.int (c/6)),none,none,none]=some (decide ((s:Int)=2\/c%6=0)):=GI (aI (aC rfl rfl (q_eqI ..))) (aI (aC rfl rfl (q_eqI ..)));have c3:mC (c9 (aR rN (aE 8) (eC (.int 1)))) (c9 (aR DJ (aR aO (aE 1) (eC (.int 1))) (eC (.int 2)))) [some (.lst (ns.map .int)),some (iB (i+1) l P),some (c8 M ks (kI d0 d1 d2 z)),some (.lst (kn.map .str)),some (.int (s:Int)),some (.int (e:Int)),some (.int (rd:Int)),some (.int c),some (.int (c%6)),some (.int (c/6)),none,none,none]=some (decide (c%6=1/\(l:Int)<2)):=uI (aI (aC rfl rfl (q_eqI ..))) (aI (aC (aC (r:=.int (l:Int)) rfl rfl rfl) rfl rfl));have c4:mC (c9 (aR rN (aE 8) (eC (.int 2)))) (c9 (aR DJ (aE 6) (eC (.int 2)))) [some (.lst (ns.map .int)),some (iB (i+1) l P),some (c8 M ks (kI d0 d1 d2 z)),some (.lst (kn.map .str)),some (.int (s:Int)),some (.int (e:Int)),some (.int (rd:Int)),some (.int c),some (.int (c%6)),some (.int (c/6)),none,none,none]=some (decide (c%6=2/\(rd:Int)<2)):=uI (aI (aC rfl rfl (q_eqI ..))) (aI (aC rfl rfl rfl));have c5:mC (c9 (aR rN (aE 8) (eC (.int 3)))) (c9 (aR DC (aE 4) (eC (.int 3)))) [some (.lst (ns.map .int)),some (iB (i+1) l P),some (c8 M ks (kI d0 d1 d2 z)),some (.lst (kn.map .str)),some (.int (s:Int)),some (.int (e:Int)),some (.int (rd:Int)),some (.int c),some (.int (c%6)),some (.int (c/6)),none,none,none]=some (decide (c%6=3/\(3:Int)<(s:Int))):=uI (aI (aC rfl rfl (q_eqI ..))) (aI (aC rfl rfl rfl));have m2:c/6%2=0\/c/6%2=1:=by lia
  by_cases h2:(s:Int)=2\/c%6=0
  ·obtain⟨a,i1,ea,ga,sa,da,la,ia,ja⟩:=H kn rd (i+1) l (s-1) q Y (by lia) (by lia) N U
   have W:mT (.int (s:Int)) (.int 1)=some (.int ((s-1:Nat):Int)):=by
    show some (D.int _)=_;congr 2
    lia
   have fin:∀g:Str,Tk (kI d0 d1 d2 z) 1 g->aR aO (aR aO (aR aO (aE 2) (eC (.int 3))) (aR aO (mD (aH (eC (.int 0)) (aH (eC (.int 3)) aY))) (aR iA (aE 9) (eC (.int 2))))) (eC (.int 0)) [some (.lst (ns.map .int)),some (iB i1 (l+lets a) P),some (c8 M ks (kI d0 d1 d2 z)),some (.lst (kn.map .str)),some (.int (s:Int)),some (.int (e:Int)),some (.int (rd:Int)),some (.int c),some (.int (c%6)),some (.int (c/6)),some (pD a),none,none]=some (.str g)->RO M ks (kI d0 d1 d2 z) P kn rd i l s e (kY 13 (bM (GB m)) [.lst (ns.map .int),iB i l P,c8 M ks (kI d0 d1 d2 z),.lst (kn.map .str),.int (s:Int),.int (e:Int),.int (rd:Int)]):=λg tk eg=>by
    refine⟨.u1 g a,i1,cX ?_,⟨tk,ga⟩,by simp only[sz];lia,by simp only[dep];lia,by simp only[lets];lia,by lia,by simp only[sz];lia⟩;unfold bM;refine B (yT c2 h2 (yS (cL (bS rfl (aA rfl (aA rfl (aA (aC rfl rfl W) (aA (aC rfl rfl jY) (aA rfl rfl))))) rfl ea) rfl) ?_));exact l6 (cM (aA rfl (aA eg (aA (cM (aA rfl rfl)) rfl)))) rfl
   rcases m2 with h|h
   ·exact fin d0 ⟨_,YQ ..,rfl,rfl⟩ (aC (x:=rO (d0,[.int 0],[.int 0,.tup [],.int 0])) (aC (x:=.tup ((kI d0 d1 d2 z).map rO)) (y:=.int 0) rfl (aC (dE (xs:=[.int 0,.int 3]) rfl) (aC rfl rfl ((bF (by decide)).trans (by rw[h]))) rfl) rfl) rfl rfl)
   ·exact fin d2 ⟨(d2,[.int z],[.int 0,.tup [.tup [.tup [.int 1],.int 2]],.int (10^30)]),by simp[-YI,-YJ,aB,aG],rfl,rfl⟩ (aC (x:=rO (d2,[.int z],[.int 0,.tup [.tup [.tup [.int 1],.int 2]],.int (10^30)])) (aC (x:=.tup ((kI d0 d1 d2 z).map rO)) (y:=.int 3) rfl (aC (dE (xs:=[.int 0,.int 3]) rfl) (aC rfl rfl ((bF (by decide)).trans (by rw[h]))) rfl) rfl) rfl rfl)
  ·have s3:3<=s:=by lia
   by_cases h3:c%6=1/\(l:Int)<2
   ·refine Gr1.gr ?_
    obtain⟨p,F,J,r⟩:=zR hP nd ok hk H (cell:=2*(c/6)) (kn:=kn) (rd:=rd) (i:=i+1) (l:=l) (s:=s) q Y s3 (by lia) N U (λ_=>by lia) (λh=>absurd (by lia) h);refine⟨p,F,cX ?_,r⟩;unfold bM;exact B (yF c2 h2 (yT c3 h3 (qV (bS rfl (aA rfl (aA rfl (aA rfl (aA rfl (aA rfl (aA (aC rfl rfl (oO (by decide) (by decide))) rfl)))))) rfl J))))
   by_cases h4:c%6=2/\(rd:Int)<2
   ·refine Gr1.gr ?_
    obtain⟨p,F,J,r⟩:=zR hP nd ok hk H (cell:=2*(c/6)+1) (kn:=kn) (rd:=rd) (i:=i+1) (l:=l) (s:=s) q Y s3 (by lia) N U (λh=>absurd h (by lia)) (λ_=>by lia);refine⟨p,F,cX ?_,r⟩;unfold bM;exact B (yF c2 h2 (yF c3 h3 (yT c4 h4 (qV (bS rfl (aA rfl (aA rfl (aA rfl (aA rfl (aA rfl (aA (aC (aC rfl rfl (oO (by decide) (by decide))) rfl (q_addAI ..)) rfl)))))) rfl J)))))
   by_cases h5:c%6=3/\(3:Int)<(s:Int)
   ·refine Gr1.gr ?_
    obtain⟨p,F,J,r⟩:=EA hk H (cell:=c/6) (kn:=kn) (rd:=rd) (i:=i+1) (l:=l) (s:=s) q Y (by lia) (by lia) N U;refine⟨p,F,cX ?_,r⟩;unfold bM;exact B (yF c2 h2 (yF c3 h3 (yF c4 h4 (yT c5 h5 (qV (bS rfl (aA rfl (aA rfl (aA rfl (aA rfl (aA rfl (aA rfl rfl)))))) rfl J))))))
   ·obtain⟨j,ej,hj⟩:=b8 (c:=c/6/2) (n:=s-2) (by lia)
    have es:((s-2:Nat):Int)=(s:Int)-2:=by lia
    rw[es]at ej;obtain⟨a,i1,ea,ga,sa,da,la,ia,ja⟩:=H kn rd (i+1) l (j+1) q Y (by lia) (by lia) N U;obtain⟨b,i2,eb,gb,sb,db,lb,ib,jb⟩:=H kn rd i1 (l+lets a) (s-1-(j+1)) q (by lia) (by lia) (by lia) (by lia) U;have ab:mT (.int ((s:Int)-1)) (.int ((j+1:Nat):Int))=some (.int ((s-1-(j+1):Nat):Int)):=by
     show some (D.int _)=_;congr 2
     lia
    have fin:∀g:Str,Tk (kI d0 d1 d2 z) 2 g->aR aO (aR aO (aR aO (aE 2) (eC (.int 3))) (aR bD (eC (.int 1)) (aR iA (aE 9) (eC (.int 2))))) (eC (.int 0)) [some (.lst (ns.map .int)),some (iB i2 (l+lets a+lets b) P),some (c8 M ks (kI d0 d1 d2 z)),some (.lst (kn.map .str)),some (.int (s:Int)),some (.int (e:Int)),some (.int (rd:Int)),some (.int c),some (.int (c%6)),some (.int (c/6)),some (pD a),some (.int ((j+1:Nat):Int)),some (pD b)]=some (.str g)->RO M ks (kI d0 d1 d2 z) P kn rd i l s e (kY 13 (bM (GB m)) [.lst (ns.map .int),iB i l P,c8 M ks (kI d0 d1 d2 z),.lst (kn.map .str),.int (s:Int),.int (e:Int),.int (rd:Int)]):=λg tk eg=>by
     refine⟨.u2 g a b,i2,cX ?_,⟨tk,ga,gb⟩,by simp only[sz];lia,by simp only[dep];lia,by simp only[lets];lia,by lia,by simp only[sz];lia⟩;unfold bM;rw[show l+lets (.u2 g a b)=l+lets a+lets b by simp only[lets];lia];refine B (yF c2 h2 (yF c3 h3 (yF c4 h4 (yF c5 h5 ?_))));refine yS (dP (d:=.int ((j+1:Nat):Int)) (aC rfl (aC (aC rfl rfl (dG (by decide) (by decide))) (aC rfl rfl rfl) (bF (by lia))) (by rw[ej,q_addAI];congr 2;lia)) rfl) ?_;refine yS (cL (bS rfl (aA rfl (aA rfl (aA rfl (aA (aC rfl rfl jY) (aA rfl rfl))))) rfl ea) rfl) ?_;refine yS (cL (bS rfl (aA rfl (aA rfl (aA (aC (aC rfl rfl rfl) rfl ab) (aA (aC rfl rfl jY) (aA rfl rfl))))) rfl eb) rfl) ?_;exact l6 (cM (aA rfl (aA eg (aA (cM (aA rfl (aA rfl rfl))) rfl)))) rfl
    rcases m2 with h|h
    ·exact fin d1 ⟨(d1,[.int 0,.int z],[.int z,.tup [.tup [.tup [.int 0,.int 0],.int 1]],.int 5]),by simp[-YI,-YJ,aB,aG],rfl,rfl⟩ (aC (x:=rO (d1,[.int 0,.int z],[.int z,.tup [.tup [.tup [.int 0,.int 0],.int 1]],.int 5])) (aC (x:=.tup ((kI d0 d1 d2 z).map rO)) (y:=.int 1) rfl (aC rfl (aC rfl rfl ((bF (by decide)).trans (by rw[h]))) rfl) rfl) rfl rfl)
    ·exact fin d0 ⟨(d0,[.int z,.int 0],[.int 0,.tup [],.int 7]),by simp[-YI,-YJ,aB,aG],rfl,rfl⟩ (aC (x:=rO (d0,[.int z,.int 0],[.int 0,.tup [],.int 7])) (aC (x:=.tup ((kI d0 d1 d2 z).map rO)) (y:=.int 2) rfl (aC rfl (aC rfl rfl ((bF (by decide)).trans (by rw[h]))) rfl) rfl) rfl rfl)
theorem nJ(B:Fx ns f)(q:0<M)(hP:P.length=12)(nd:P.Nodup)(ok:∀x∈P,aP x=true)(hk:0<ks.length):∀(m e:Nat),25<=m+e->e<=24->GH ns M ks (kI d0 d1 d2 z) P (GB m) e
 | 0,e,h,he=>absurd h (by lia)
 | m+1,e,h,he=>J3 B q hP nd ok hk (λh'=>nJ B q hP nd ok hk m (e+1) (by lia) (by lia)) he
end
theorem G1(c m:Int)(n:Nat):(mV c m n).length=n:=by unfold mV;simp[-YI,-YJ,aB,aG]
theorem MR{c m:Int}{n:Nat}(h:n<=12):(mV c m n).Nodup:=by
 unfold mV;refine List.pairwise_map.mpr (List.Pairwise.imp_of_mem ?_ List.nodup_range);intro a b ha q B e;have ha:a<n:=by simpa using ha
 have q:b<n:=by simpa using q
 have:=NM (by lia) (by lia) (by lia) (by lia) e;exact B (by lia)
theorem MN:∀x∈mV c m n,aP x=true:=λx q=>by
 unfold mV at q;obtain⟨k,_,rfl⟩:=List.mem_map.mp q;exact(L5 c m k).1
theorem e8{ks:List Str}(K:Ks ks):∀p:Pt,Wf ks p->(tx ks p).length<=400*sz p
 | .nm x,h=>by
  have:=dQ h;simp only[tx,sz,cC];lia
 | .nu n k,h=>by
  have a:=gB h.1.1 h.1.2;have b:=oS K h.2.1 h.2.2;simp only[tx,sz,ZG,cC,Y7,zaz];lia
 | .u1 f a,h=>by
  have x:=dQ h.1;have y:=e8 K a h.2;simp only[tx,sz,ZG,cC,Y7,zaz];lia
 | .u2 f a b,h=>by
  have x:=dQ h.1;have y:=e8 K a h.2.1;have z:=e8 K b h.2.2;simp only[tx,sz,ZG,cC,Y7,zaz];lia
 | .lt w a b,h=>by
  have x:=dQ h.1;have y:=e8 K a h.2.1;have z:=e8 K b h.2.2;simp only[tx,sz,ZG,cC,Y7,zaz];lia
 | .pk c k a b s,h=>by
  have x:=oS K h.1.1 h.1.2;have q:=oS K h.2.1.1 h.2.1.2;have y:=e8 K a h.2.2.1;have z:=e8 K b h.2.2.2.1;have u:=e8 K s h.2.2.2.2;simp only[tx,sz,ZG,cC,Y7,zaz];lia
 | .ag n k w a b,h=>by
  have x:=gB h.1.1 (show n<10^60 by have:=h.1.2;lia);have q:=oS K h.2.1.1 h.2.1.2;have B:=dQ h.2.2.1;have y:=e8 K a h.2.2.2.1;have z:=e8 K b h.2.2.2.2;simp only[tx,sz,ZG,cC,Y7,zaz];lia
section
variable {ns:List Int}{f:Int->Int}
theorem E5(q:Fx ns f):∃(M:Int) (ks:List Str) (d0 d1 d2:Str),lH [.lst (ns.map .int)]=some (c8 M ks (kI d0 d1 d2 ((ks.length:Int)-1)))/\(3<=M/\M<=10^60)/\Ks ks/\0<ks.length/\∀m∈kI d0 d1 d2 ((ks.length:Int)-1),aP m.1=true:=by
 obtain⟨M,eM,W,ae,_⟩:=FM (c:=f 0);obtain⟨j,ej,hj⟩:=b8 (c:=f 1) (n:=6) (by decide);have f0:=q 0 (by decide) (by decide);have f1:=q 1 (by decide) (by decide);have f2:=q 2 (by decide) (by decide);have U:=q 3 (by decide) (by decide);have Y:=q 4 (by decide) (by decide);have f5:=q 5 (by decide) (by decide);have N:=tY (c:=f 2) (m:=f 3) (many:=((j+1:Nat):Int)) (by lia) (by lia);rw[zaq]at N;have F:=tY (c:=f 4) (m:=f 5) (many:=3) (by decide) (by decide);have pw:LP (.int 10) (.int 30)=some (.int (10^30)):=MA (by decide) (by decide) (by decide +kernel);have B:=G1 (f 2) (f 3) (j+1);have z:(((mV (f 2) (f 3) (j+1)).length:Int)-1)=(j:Int):=by rw[B];lia
 refine⟨M,mV (f 2) (f 3) (j+1),wN (f 4) (f 5) 0,wN (f 4) (f 5) 1,wN (f 4) (f 5) 2,aS ?_,⟨W,by lia⟩,⟨MR (by lia),MN,by rw[B];lia⟩,by rw[B];lia,λm J=>?_⟩
 ·rw[z]
  unfold lD;refine(aL (aU (aD (aA (aD (aA rfl (aA rfl rfl)) f0) rfl) eM))).trans ?_;refine(aL (aU (d:=.int ((j+1:Nat):Int)) (aC rfl (aC (aD (aA rfl (aA rfl rfl)) f1) rfl (bF (by decide))) (by rw[q_addAI];congr 2;have:f 1%6=(j:Int):=ej;lia)))).trans ?_;refine(aL (aU (d:=.int (j:Int)) (aC rfl rfl (by show some (D.int _)=_;congr 2;lia)))).trans ?_;refine(aL (aU (d:=bV (mV (f 2) (f 3) (j+1))) (aD (aA (aD (aA (aD (aA rfl (aA rfl rfl)) f2) (aA (aD (aA rfl (aA rfl rfl)) U) (aA rfl rfl))) N) rfl) rfl))).trans ?_;refine(aL (aU (aD (aA (aD (aA rfl (aA rfl rfl)) Y) (aA (aD (aA rfl (aA rfl rfl)) f5) (aA rfl rfl))) F))).trans ?_;refine(aL (aU (d:=.tup [rO (wN (f 4) (f 5) 0,[.int 0],[.int 0,.tup [],.int 0]),rO (wN (f 4) (f 5) 1,[.int 0,.int (j:Int)],[.int (j:Int),.tup [.tup [.tup [.int 0,.int 0],.int 1]],.int 5])]) rfl)).trans ?_;refine(aL (aU (d:=.tup ((kI (wN (f 4) (f 5) 0) (wN (f 4) (f 5) 1) (wN (f 4) (f 5) 2) (j:Int)).map rO)) (aC (x:=.tup [rO (wN (f 4) (f 5) 0,[.int 0],[.int 0,.tup [],.int 0]),rO (wN (f 4) (f 5) 1,[.int 0,.int (j:Int)],[.int (j:Int),.tup [.tup [.tup [.int 0,.int 0],.int 1]],.int 5])]) (y:=.tup [rO (wN (f 4) (f 5) 0,[.int (j:Int),.int 0],[.int 0,.tup [],.int 7]),rO (wN (f 4) (f 5) 2,[.int (j:Int)],[.int 0,.tup [.tup [.tup [.int 1],.int 2]],.int (10^30)])]) rfl (cM (aA rfl (aA (cM (aA rfl (aA rfl (aA rfl (aA rfl (aA (aC rfl rfl pw) rfl)))))) rfl))) rfl))).trans ?_;exact aN rfl
 ·simp only[YZ,Y0,or_false]at J
  rcases J with rfl|rfl|rfl|rfl <;> exact(L5 _ _ _).1
theorem FE(hf:Fx ns f){ks P:List Str}(hk:0<ks.length)(hP:P.length=12)(nd:P.Nodup)(ok:∀x∈P,aP x=true):∃hs:List (Str×Int),nZ [.lst (ns.map .int),.lst (P.map .str),.int (ks.length:Int)]=some (.tup (hs.map hdD))/\Hds ks hs/\∀h∈hs,h.1∈P:=by
 have N:=hf 8 (by decide) (by decide);generalize f 8=c at N;obtain⟨n,J,hn⟩:=b8 (c:=c) (n:=7) (by decide);have J:c%7=(n:Int):=J;have W:fS [.int (n:Int)]=some (bU 0 1 n):=by
  have:=kL (show(0:Int)<=(n:Int) by lia) (show(n:Int)<=1000000 by lia)
  rwa [zaq]at this
 suffices h:∃d,iX (a8 6 [.lst (ns.map .int),.lst (P.map .str),.int (ks.length:Int)])=some (.rt d)/\∃hs:List (Str×Int),d=.tup (hs.map hdD)/\Hds ks hs/\∀h∈hs,h.1∈P by
  obtain⟨d,e,hs,rfl,h1,h2⟩:=h;exact⟨hs,aS e,h1,h2⟩
 unfold iX;refine uQ (aU (aD (aA rfl (aA rfl rfl)) N)) ?_;refine uQ (aU rfl) ?_;obtain⟨ρ',e,B,F,hs,rfl,h1,h2⟩:=y1 (g:=a7 5) (b:=eK (eL 3 (aR oQ (aE 3) (eC (.int 7)))) (zI 4 (vC (aH (aR aO (aE 1) (aE 5)) (aH (aR iA (aE 3) (aE 2)) aY))))) (items:=bU 0 1 n) (ρ:=[some (.lst (ns.map .int)),some (.lst (P.map .str)),some (.int (ks.length:Int)),some (.int c),some (.lst []),none]) (λi ρ=>∃(B:Int) (F:Option D) (hs:List (Str×Int)),ρ=[some (.lst (ns.map .int)),some (.lst (P.map .str)),some (.int (ks.length:Int)),some (.int B),some (.lst (hs.map hdD)),F]/\hs.map (·.1)=P.take i/\∀h∈hs,MY ks h.2) ⟨c,none,[],rfl,by simp[-YI,-YJ,aB,aG],λh q=>nomatch q⟩ <| by
  rintro i x ρ Y ⟨B,F,hs,e,h1,h2⟩;subst e;obtain⟨lt,rfl⟩:=eX Y;have U:i<P.length:=by lia
  have hl:hs.length=i:=by
   have:=congrArg zay h1;rw[YV,za4]at this
   lia
  have ei:(0:Int)+(i:Int)*1=(i:Int):=by lia
  rw[ei];obtain⟨u,eu,hu⟩:=b8 (c:=B/7) (n:=ks.length) hk;have at_:aO (.lst (P.map .str)) (.int (i:Int))=some (.str P[i]):=tM (cW (by simp_all[U]));refine⟨[some (.lst (ns.map .int)),some (.lst (P.map .str)),some (.int (ks.length:Int)),some (.int (B/7)),some (.lst ((hs++[(P[i],(u:Int))]).map hdD)),some (.int (i:Int))],?_,B/7,some (.int (i:Int)),hs++[(P[i],(u:Int))],rfl,?_,λh q=>?_⟩
  ·refine L4 (ρ':=[some (.lst (ns.map .int)),some (.lst (P.map .str)),some (.int (ks.length:Int)),some (.int B),some (.lst (hs.map hdD)),some (.int (i:Int))]) rfl ?_
   refine(aL (aU (aC rfl rfl (dG (by decide) (by decide))))).trans ?_;refine(y8 (xs:=hs.map hdD) (x:=hdD (P[i],(u:Int))) rfl (cM (aA (aC rfl rfl at_) (aA (aC rfl rfl ((bF (by lia)).trans (by rw[eu]))) rfl))) (by rw[YV];lia)).trans ?_;simp[-YI,-YJ,aB,aG]
  ·rw[zcS,h1,List.take_succ,zap U];rfl
  ·rcases List.mem_append.mp q with z|z
   ·exact h2 h z
   ·rw[List.mem_singleton.mp z];exact⟨by show 0<=(u:Int);lia,by show(u:Int)<_;lia⟩
 rw[dN]at h1;have hl:hs.length=n:=by
  have:=congrArg zay h1;rw[YV,za4]at this
  lia
 have mem:∀h∈hs,h.1∈P:=λh q=>List.mem_of_mem_take (h1 ▸ List.mem_map.mpr ⟨h,q,rfl⟩:h.1∈P.take n)
 refine uQ (mN (G9 (aA (aC rfl rfl ((bF (by decide)).trans (by rw[J]))) rfl) W) e) ?_;exact⟨_,aN (aD (aA rfl rfl) rfl),hs,rfl,⟨λh q=>⟨ok _ (mem h q),h2 h q⟩,by rw[h1];exact List.Nodup.sublist (List.take_sublist _ _) nd,by lia⟩,mem⟩
end
theorem R8(ns:List Int)(hn:ns.length<=63):bC 9 HD [.lst (ns.map .int)]=some (.bl true):=by
 obtain⟨f,F⟩:=KZ ns;obtain⟨M,ks,d0,d1,d2,eV,⟨M3,N⟩,K,hk,U⟩:=E5 F;have f6:=F 6 (by decide) (by decide);have f7:=F 7 (by decide) (by decide);have f9:=F 9 (by decide) (by decide);have W:=tY (c:=f 6) (m:=f 7) (many:=12) (by decide) (by decide);have hP:=G1 (f 6) (f 7) 12;have nd:=MR (c:=f 6) (m:=f 7) (n:=12) (YS _);have ok:=MN (c:=f 6) (m:=f 7) (n:=12);have W:fO [.int (f 6),.int (f 7),.int 12]=some (.lst ((mV (f 6) (f 7) 12).map .str)):=W;generalize mV (f 6) (f 7) 12=P at W hP nd ok;obtain⟨hs,eH,H,hm⟩:=FE F hk hP nd ok;have ln:=H.ln;obtain⟨w,ew,hw⟩:=b8 (c:=f 9) (n:=60) (by decide);have ew:f 9%60=(w:Int):=ew;obtain⟨s,es,s1,af⟩:∃s:Nat,aR bD (eC (.int 1)) (aT xA (aH (aR iA (aT b6 (aH (aE 0) (aH (eC (.int 9)) aY))) (eC (.int 60))) (aH (aT xH (aH (eC (.int 59)) (aH (aR oQ (aR mT (aT b4 (aH (aE 0) aY)) (eC (.int 10))) (eC (.int 2))) aY))) aY))) [some (.lst (ns.map .int)),some (c8 M ks (kI d0 d1 d2 ((ks.length:Int)-1))),some (.lst (P.map .str)),some (.tup (hs.map hdD)),none,none,none,none,none]=some (.int (s:Int))/\1<=s/\s<=60:=by
  have mn:∃q:Int,xH [.int 59,.int (((ns.length:Int)-10)/2)]=some (.int q)/\q<=59:=⟨_,rfl,by split <;> lia⟩;obtain⟨q,eq,ah⟩:=mn;have mx:∃t:Int,xA [.int (w:Int),.int q]=some (.int t)/\0<=t/\t<=59:=⟨_,rfl,by split <;> lia,by split <;> lia⟩;obtain⟨t,et,t0,ag⟩:=mx;obtain⟨s,rfl⟩:=zaP t0;have l1:b4 [.lst (ns.map .int)]=some (.int (ns.length:Int)):=q_lenL.trans (by rw[YV]);refine⟨s+1,aC rfl (aD (aA (aC (aD (aA rfl (aA rfl rfl)) f9) rfl ((bF (by decide)).trans (by rw[ew]))) (aA (aD (aA rfl (aA (aC (aC (aD (aA rfl rfl) l1) rfl rfl) rfl (dG (by decide) (by decide))) rfl)) eq) rfl)) et) (by rw[q_addAI];congr 2;lia),by lia,by lia⟩
 have J:∀x∈hs.map (·.1),x∈P:=λx Y=>by
  obtain⟨h,hh,rfl⟩:=List.mem_map.mp Y;exact hm h hh
 obtain⟨p,i',eG,g,sp,dp,lp,_,_⟩:=nJ (d0:=d0) (d1:=d1) (d2:=d2) (z:=(ks.length:Int)-1) F (show 0<M by lia) hP nd ok hk 25 1 (by lia) (by lia) (hs.map (·.1)) 0 10 0 s J (by rw[YV];lia) s1 (by lia) (by lia) (by lia);have wf:Wf ks p:=Gp.wf N U p (λx Y=>ok x (J x Y)) g;have tl:=e8 K p wf;have B:(tx ks p).length<=90000:=by lia
 have rl:=uD K H;have nl:("\n" : Str).length=1:=rfl;have lk:b4 [bV ks]=some (.int (ks.length:Int)):=by simp_all[b4]
 refine aS ?_;unfold HD;refine(aL (aU (aD (aA rfl rfl) eV))).trans ?_;refine(aL (aU (aD (aA (aD (aA rfl (aA rfl rfl)) f6) (aA (aD (aA rfl (aA rfl rfl)) f7) (aA rfl rfl))) W))).trans ?_;refine(aL (aU (aD (aA rfl (aA rfl (aA (aD (aA (x:=bV ks) rfl rfl) lk) rfl))) eH))).trans ?_;refine(aL (aU es)).trans ?_;refine(aL (aU (d:=.lst ((hs.map (·.1)).map .str)) (cV (xs:=hs.map hdD) rfl (by rw[YV];lia) ((pB (y:=λh=>.str h.1) hs none none λh _=>rfl).trans (by rw[ZS];rfl))))).trans ?_;have cn:uR nB (aE 0) (mD (aH (eC (.int 10)) (aH (eC (.int 0)) (aH (aE 2) aY)))) (aH (aE 1) (aH (aE 5) (aH (aE 4) (aH (eC (.int 1)) (aH (eC (.int 0)) aY))))) [some (.lst (ns.map .int)),some (c8 M ks (kI d0 d1 d2 ((ks.length:Int)-1))),some (.lst (P.map .str)),some (.tup (hs.map hdD)),some (.int (s:Int)),some (.lst ((hs.map (·.1)).map .str)),none,none,none]=some (pD p):=by
  unfold uR;rw[show aE 0 [some (.lst (ns.map .int)),some (c8 M ks (kI d0 d1 d2 ((ks.length:Int)-1))),some (.lst (P.map .str)),some (.tup (hs.map hdD)),some (.int (s:Int)),some (.lst ((hs.map (·.1)).map .str)),none,none,none]=some (.lst (ns.map .int))from rfl,aB,dE (xs:=[.int 10,.int 0,.lst (P.map .str)]) rfl,aB,aA (x:=c8 M ks (kI d0 d1 d2 ((ks.length:Int)-1))) (xs:=[.lst ((hs.map (·.1)).map .str),.int (s:Int),.int 1,.int 0]) rfl rfl,aB];show(GB 25 _).map _=_;have eG:GB 25 [.lst (ns.map .int),.lst [.int 10,.int 0,.lst (P.map .str)],c8 M ks (kI d0 d1 d2 ((ks.length:Int)-1)),.lst ((hs.map (·.1)).map .str),.int (s:Int),.int 1,.int 0]=_:=eG;rw[eG];rfl
 refine(aL (aU cn)).trans ?_;refine(aL (aU (d:=.str (MZ ks hs p)) (aC (aC (aD (aA (x:=bV ks) rfl (aA rfl rfl)) (vP K H)) rfl (cat (by lia))) (aD (aA (x:=bV ks) rfl (aA rfl rfl)) (cF K 30 p wf (by lia) B)) (cat (by rw[dH,zJ];lia))))).trans ?_;refine(aL (aU (aD (aA rfl (aA (cM (aA rfl (aA rfl rfl))) rfl)) (iN K H rfl wf (by lia) B)))).trans ?_;have rd:=O4 K H N U (by lia) (by lia) (by lia) g B;exact aN (uS (jG (d:=.str (MZ ks hs p)) rfl rfl rfl) (uS (aC rfl rfl ((q_eqS ..).trans (by rw[decide_eq_true rfl]))) (aD (aA (aD (aA rfl (aA rfl rfl)) rd) (aA (cM (aA rfl (aA rfl rfl))) rfl)) (JO ln (by lia)))))
theorem WP:Bds top tab:=by
 unfold tab
 repeat (refine Bds.cons ?_ ?_;· (repeat intro _);rfl)
 exact Bds.nil
theorem NL{l:zcG}{w:World}{K:YH}{h:Heap}{mg:Str->Option Value}{fa:Addr}{k:Nat}(X:K.In h)(G:h.Ns YU mg)(bw:mg "law" = some (.ref fa))(D:Des K top tab)(B:Nos K blt)(J:Gis K W2)
  {f0:Addr} {bx bq:Option Addr} {bz:Array (Option Value)} {b1 br bp bv bo bu:Value} (a0:Y6 K YU "law" = some (some (.ref f0))) (l0:K.lookup f0=some ⟨b1,bx,.func (Z2 "law" "law" (cU s_law) (aX s_law) (aF s_law) .none br bp bv bq bo bu),bz⟩) (c0:za6 K bo "law" = true) (k0:zaw K (.ref f0)=true)
  {as:Addr} {bm:Option Addr} {bl:Nat} {bj:Array (Option Value)} {ba a4 a5 bb:Tok} (gaWORDS:Y6 K YU "WORDS" = some (some (.ref as))) (glWORDS:K.lookup as=some ⟨.type "tuple",bm,.seq #[.str "let" ba,.str "in" a4,.str "pick" a5,.str "again" bb] bl,bj⟩)
  {an:Tok} (gsFIGURES:Y6 K YU "FIGURES" = some (some (.str "0123456789" an)))
  {aq:Tok} (gsLETTERS:Y6 K YU "LETTERS" = some (some (.str "abcdefghijklmnopqrstuvwxyz" aq)))
  {am:Addr} {bc:Nat} {aw ay a3 ax a2 a1:Tok} {ac Y ae ab aa af:Addr} (kfCHECKS0:Y6 K YU "check_name" = some (some (.ref ac))) (kfCHECKS1:Y6 K YU "check_number" = some (some (.ref Y))) (kfCHECKS2:Y6 K YU "check_use" = some (some (.ref ae))) (kfCHECKS3:Y6 K YU "check_let" = some (some (.ref ab))) (kfCHECKS4:Y6 K YU "check_pick" = some (some (.ref aa))) (kfCHECKS5:Y6 K YU "check_again" = some (some (.ref af))) (kaCHECKS:Y6 K YU "CHECKS" = some (some (.ref am))) (klCHECKS:K.lookup am=some ⟨.type "dict",none,.dict #[⟨ZP w "name",.str "name" aw,.ref ac⟩,⟨ZP w "number",.str "number" ay,.ref Y⟩,⟨ZP w "use",.str "use" a3,.ref ae⟩,⟨ZP w "let",.str "let" ax,.ref ab⟩,⟨ZP w "pick",.str "pick" a2,.ref aa⟩,⟨ZP w "again",.str "again" a1,.ref af⟩] bc,#[]⟩)
  {q:Addr} {az:Nat} {ao ar ap:Tok} {U N F:Addr} (kfPHRASES0:Y6 K YU "read_let" = some (some (.ref U))) (kfPHRASES1:Y6 K YU "read_pick" = some (some (.ref N))) (kfPHRASES2:Y6 K YU "read_again" = some (some (.ref F))) (kaPHRASES:Y6 K YU "PHRASES" = some (some (.ref q))) (klPHRASES:K.lookup q=some ⟨.type "dict",none,.dict #[⟨ZP w "let",.str "let" ao,.ref U⟩,⟨ZP w "pick",.str "pick" ar,.ref N⟩,⟨ZP w "again",.str "again" ap,.ref F⟩] az,#[]⟩)
  {au:Addr} {bn:Nat} {bf bg bd be bi bh:Tok} {aj ah ak ai al ag:Addr} (kfSHOWN0:Y6 K YU "show_name" = some (some (.ref aj))) (kfSHOWN1:Y6 K YU "show_number" = some (some (.ref ah))) (kfSHOWN2:Y6 K YU "show_use" = some (some (.ref ak))) (kfSHOWN3:Y6 K YU "show_let" = some (some (.ref ai))) (kfSHOWN4:Y6 K YU "show_pick" = some (some (.ref al))) (kfSHOWN5:Y6 K YU "show_again" = some (some (.ref ag))) (kaSHOWN:Y6 K YU "SHOWN" = some (some (.ref au))) (klSHOWN:K.lookup au=some ⟨.type "dict",none,.dict #[⟨ZP w "name",.str "name" bf,.ref aj⟩,⟨ZP w "number",.str "number" bg,.ref ah⟩,⟨ZP w "use",.str "use" bd,.ref ak⟩,⟨ZP w "let",.str "let" be,.ref ai⟩,⟨ZP w "pick",.str "pick" bi,.ref al⟩,⟨ZP w "again",.str "again" bh,.ref ag⟩] bn,#[]⟩)
  (oqReader:ObQ K "Reader" "Reader.__init__" (inClass (top 46) 0) CR ["kinds", "text", "at"]) (knPHRASES:(q == zas)=false)
  (ok:∀base:Heap,K.In base->base.Ns YU mg->Txt w K mg->My.BodyOk l.prog w K mg base "law" s_law ["script", "volume", "pool", "heads", "size", "known", "body", "due", "found"] k (My.xD K)) :
  ∃fd:ZY,(∀(s:YE) (v:Value),BindsTo s fd ⟨[v],[]⟩ [("script",v)])/\∀base:Heap,K.In base->base.Ns YU mg->FnOk l.prog w K mg base mW (k+1) fa fd ["script"] (My.xD K):=by
 have e:=bw.symm.trans (Y9 X G a0);cases e;have F0:=yV (st:=s_law) l0 c0 k0;have T:Txt w K mg:=⟨Des.d X G D WP,λx hx=>PySem.W.mg_none_of X G (B x hx),Gis.d X G J,⟨⟨_,Y9 X G gaWORDS,_,_,_,glWORDS,rfl,rfl,by show 4<=YN;decide,.cons ⟨_,rfl⟩ (.cons ⟨_,rfl⟩ (.cons ⟨_,rfl⟩ (.cons ⟨_,rfl⟩ (.nil))))⟩⟩,⟨⟨_,Y9 X G gsFIGURES⟩⟩,⟨⟨_,Y9 X G gsLETTERS⟩⟩,⟨⟨_,_,_,_,Y9 X G kaCHECKS,klCHECKS,⟨rfl,rfl,rfl⟩,rfl,(.cons (Y9 X G kfCHECKS0) (.cons (Y9 X G kfCHECKS1) (.cons (Y9 X G kfCHECKS2) (.cons (Y9 X G kfCHECKS3) (.cons (Y9 X G kfCHECKS4) (.cons (Y9 X G kfCHECKS5) .nil)))))),by decide +kernel⟩⟩,⟨⟨_,_,_,_,Y9 X G kaPHRASES,klPHRASES,⟨rfl,rfl,rfl⟩,rfl,(.cons (Y9 X G kfPHRASES0) (.cons (Y9 X G kfPHRASES1) (.cons (Y9 X G kfPHRASES2) .nil))),by decide +kernel⟩⟩,⟨⟨_,_,_,_,Y9 X G kaSHOWN,klSHOWN,⟨rfl,rfl,rfl⟩,rfl,(.cons (Y9 X G kfSHOWN0) (.cons (Y9 X G kfSHOWN1) (.cons (Y9 X G kfSHOWN2) (.cons (Y9 X G kfSHOWN3) (.cons (Y9 X G kfSHOWN4) (.cons (Y9 X G kfSHOWN5) .nil)))))),by decide +kernel⟩⟩,oqReader.r X G λ_ _ _ _ _ _ us hl=>match us,hl with|[_,_,_],_=>rfl,λa e=>by cases(Y9 X G kaPHRASES).symm.trans e;exact knPHRASES⟩;refine⟨Z2 "law" "law" (cU s_law) (aX s_law) (aF s_law) .none br bp bv bq bo bu,λs v=>.of_eq rfl,λbase kb nb=>?_⟩;exact(ok base kb nb T).fn F0 sc_law (λvs H Q E h=>by obtain⟨a,ns,e,_⟩:=h;rw[e];rfl)
end Law
namespace PySem.W.Fast
theorem tw15583056053813574787:0=0:=rfl
theorem tw1819334155237444077:0=0:=rfl
theorem tw3323837959622449213:0=0:=rfl
theorem tw9859030460607399712:0=0:=rfl
theorem tw6491127893670750069:0=0:=rfl
theorem tw16195668949257710591:0=0:=rfl
theorem tw6542071294930184815:0=0:=rfl
theorem tw15052447951087754059:0=0:=rfl
theorem tw9233261007398895521:0=0:=rfl
theorem tw16054306263845887711:0=0:=rfl
theorem tw2772859794377671340:0=0:=rfl
theorem tw5765232022080416293:0=0:=rfl
theorem tw16617388818015348720:0=0:=rfl
theorem tw8760854098848316057:0=0:=rfl
theorem tw8776132378123670312:0=0:=rfl
theorem tw1711807922783711570:0=0:=rfl
theorem tw5183216465802568264:0=0:=rfl
theorem tw11911486472161415920:0=0:=rfl
theorem tw15249058800382725209:0=0:=rfl
theorem tw13771107342667361053:0=0:=rfl
theorem tw5901852510362402329:0=0:=rfl
theorem tw672361112229046704:0=0:=rfl
theorem tw515373422800160632:0=0:=rfl
theorem tw12485738818130400364:0=0:=rfl
theorem tw11734084838911120715:0=0:=rfl
theorem tw6266530619047068771:0=0:=rfl
theorem tw2642656011553889569:0=0:=rfl
theorem tw14980632472452644027:0=0:=rfl
theorem tw6476189181236312384:0=0:=rfl
theorem tw1725464397502357012:0=0:=rfl
theorem tw4356832229892435579:0=0:=rfl
theorem tw10704008386689024653:0=0:=rfl
theorem tw286888409737718025:0=0:=rfl
theorem tw1501636616375485155:0=0:=rfl
theorem tw7187776626086683422:0=0:=rfl
theorem tw15567884313082896217:0=0:=rfl
theorem tw7669508817579253777:0=0:=rfl
theorem tw14454361106385476072:0=0:=rfl
theorem tw8376147157080379010:0=0:=rfl
theorem tw6709041708756318342:0=0:=rfl
theorem tw2986754130042041810:0=0:=rfl
theorem tw12648017680519951969:0=0:=rfl
theorem tw1045868528699649283:0=0:=rfl
theorem tw8874203656755714256:0=0:=rfl
theorem tw1694854367926307460:0=0:=rfl
theorem tw11122920236413590285:0=0:=rfl
theorem tw2581163751929023628:0=0:=rfl
theorem tw15832650201996426314:0=0:=rfl
theorem tw9524040873126733221:0=0:=rfl
theorem tw13211354362876178252:0=0:=rfl
theorem tw14015199874180767737:0=0:=rfl
theorem tw13757592694603459044:0=0:=rfl
theorem tw2751111553119730432:0=0:=rfl
theorem tw15159560592226592745:0=0:=rfl
theorem tw8572511022144865867:0=0:=rfl
theorem tw18084050282733841301:0=0:=rfl
theorem tw15361523990515167185:0=0:=rfl
theorem tw15341483068226345187:0=0:=rfl
theorem tw15040631672970811894:0=0:=rfl
theorem tw5548202680732184842:0=0:=rfl
theorem tw451494189205732196:0=0:=rfl
theorem tw10262508506287769755:0=0:=rfl
theorem tw11675848579700079246:0=0:=rfl
theorem tw17376910011057246945:0=0:=rfl
theorem tw17944477671785512648:0=0:=rfl
theorem tw10783989628620336420:0=0:=rfl
theorem tw7530193986522228038:0=0:=rfl
theorem tw17682486213819951646:0=0:=rfl
theorem tw7005432449848517564:0=0:=rfl
theorem tw14516028702522205658:0=0:=rfl
theorem tw9345440328601701078:0=0:=rfl
theorem tw16725917227364707980:0=0:=rfl
theorem tw3587013817343938151:0=0:=rfl
theorem tw5649277906899592371:0=0:=rfl
theorem tw9694976965280586248:0=0:=rfl
theorem tw2621776988159242437:0=0:=rfl
theorem tw16379879711748145807:0=0:=rfl
theorem tw17783520782159887114:0=0:=rfl
theorem tw17977326611624333205:0=0:=rfl
theorem tw17017035636351054814:0=0:=rfl
theorem tw17667218520976484018:0=0:=rfl
theorem tw7475772782779573810:0=0:=rfl
theorem tw5433349210178543889:0=0:=rfl
theorem tw1111415443609925746:0=0:=rfl
theorem tw18435828153313786988:0=0:=rfl
theorem tw8946212118951476726:0=0:=rfl
theorem tw7723442567630566246:0=0:=rfl
theorem tw9514126993238724016:0=0:=rfl
theorem tw12880601819298033534:0=0:=rfl
theorem tw11366915039155861097:0=0:=rfl
theorem tw15476635948467263762:0=0:=rfl
theorem tw7857152655592568477:0=0:=rfl
theorem tw5333632204443024927:0=0:=rfl
theorem tw6354462987400181592:0=0:=rfl
theorem tw12551652233873426119:0=0:=rfl
theorem tw959166629264710682:0=0:=rfl
theorem tw18059800994044841439:0=0:=rfl
theorem tw6403571556478613651:0=0:=rfl
theorem tw273627923008734232:0=0:=rfl
theorem tw4906896280378439530:0=0:=rfl
theorem tw11082064696597733449:0=0:=rfl
theorem tw6827632635455381886:0=0:=rfl
theorem tw8300090398735128864:0=0:=rfl
theorem tw7793043159508732533:0=0:=rfl
theorem tw15086185822197011381:0=0:=rfl
theorem tw5948404229428432387:0=0:=rfl
theorem tw11435159854771845730:0=0:=rfl
theorem tw12218153828319585752:0=0:=rfl
theorem tw17163215298394524880:0=0:=rfl
theorem tw3177159757855820287:0=0:=rfl
theorem tw2468624578302013161:0=0:=rfl
theorem tw571443096254320702:0=0:=rfl
theorem tw14995478418224568455:0=0:=rfl
theorem tw7459342869720470884:0=0:=rfl
theorem tw4460183537552759256:0=0:=rfl
theorem tw17725546875254700202:0=0:=rfl
theorem tw10854641690783691084:0=0:=rfl
theorem tw17898893296234167721:0=0:=rfl
theorem tw15395169869245691133:0=0:=rfl
theorem tw5578705609611338190:0=0:=rfl
theorem tw10620831793839056257:0=0:=rfl
theorem tw11566120460659548773:0=0:=rfl
theorem tw15137654961910280413:0=0:=rfl
theorem tw170981039010333906:0=0:=rfl
theorem tw2147098132171183612:0=0:=rfl
theorem tw15748158071364601832:0=0:=rfl
theorem tw7128196682314312363:0=0:=rfl
theorem tw4882471996446966256:0=0:=rfl
theorem tw17522633358692118237:0=0:=rfl
theorem tw2288986331714869416:0=0:=rfl
theorem tw3932436781648720860:0=0:=rfl
theorem tw1289649265714773910:0=0:=rfl
theorem tw7824996318410180120:0=0:=rfl
theorem tw4073559849559435428:0=0:=rfl
theorem tw4007891946851127528:0=0:=rfl
theorem tw12612954334682084926:0=0:=rfl
theorem tw15961982941830748683:0=0:=rfl
theorem tw5076171037115214577:0=0:=rfl
theorem tw18317292536481385184:0=0:=rfl
theorem tw13734091422616179936:0=0:=rfl
theorem tw8204292376364835431:0=0:=rfl
theorem tw11572687024265838658:0=0:=rfl
theorem tw3627894556527405414:0=0:=rfl
theorem tw10422512261753725337:0=0:=rfl
theorem tw17639946362051192115:0=0:=rfl
theorem tw11967116948337074053:0=0:=rfl
theorem tw10677643203741045772:0=0:=rfl
theorem tw10226114418820603903:0=0:=rfl
theorem tw3403610322733272723:0=0:=rfl
theorem tw2820183127104343108:0=0:=rfl
theorem tw3053698974610886423:0=0:=rfl
theorem tw10507095306616111586:0=0:=rfl
theorem tw16688182618591381596:0=0:=rfl
theorem tw3173982843411902224:0=0:=rfl
theorem tw6472709916243528949:0=0:=rfl
theorem tw7529877970840438555:0=0:=rfl
theorem tw14161232713285563698:0=0:=rfl
theorem tw2998521224304021353:0=0:=rfl
theorem tw9574768164574158421:0=0:=rfl
theorem tw15810907399888389597:0=0:=rfl
theorem tw365993674509783486:0=0:=rfl
theorem tw12237816140512634776:0=0:=rfl
theorem tw3483045273645083758:0=0:=rfl
theorem tw15047911823940988346:0=0:=rfl
theorem tw16385199718054008511:0=0:=rfl
theorem tw5516581602702797460:0=0:=rfl
theorem tw5228573052737482849:0=0:=rfl
theorem tw4238265374811218616:0=0:=rfl
theorem tw4467909120630225376:0=0:=rfl
theorem tw14169120814410711670:0=0:=rfl
theorem tw1687321858125973483:0=0:=rfl
theorem tw17204597931757795235:0=0:=rfl
theorem tw6704149078061393608:0=0:=rfl
theorem tw16020777275618940400:0=0:=rfl
theorem tw2422257514038236571:0=0:=rfl
theorem tw18325597521307575793:0=0:=rfl
theorem tw15646388479419896641:0=0:=rfl
theorem tw8977173576118923265:0=0:=rfl
theorem tw7753587978416957926:0=0:=rfl
theorem tw11071656173074077654:0=0:=rfl
theorem tw10706540511382361638:0=0:=rfl
theorem tw4811408244431149411:0=0:=rfl
theorem tw17607847681239069029:0=0:=rfl
theorem tw6969231835686719431:0=0:=rfl
theorem tw18313071067249498525:0=0:=rfl
theorem tw4459639547613776870:0=0:=rfl
theorem tw18068584315672771876:0=0:=rfl
theorem tw4714588712335732901:0=0:=rfl
theorem tw11558739436981268324:0=0:=rfl
theorem tw16098351697390604221:0=0:=rfl
theorem tw16599205848574096729:0=0:=rfl
theorem tw14690382620116624180:0=0:=rfl
theorem tw9460441836974931009:0=0:=rfl
theorem tw13006459103507373550:0=0:=rfl
theorem tw18272780953414180756:0=0:=rfl
theorem tw15210520607721271555:0=0:=rfl
theorem tw3014039173823138417:0=0:=rfl
theorem tw3100429872211299162:0=0:=rfl
theorem tw17433884972755739696:0=0:=rfl
theorem tw983199112699155112:0=0:=rfl
theorem tw4964403028492693245:0=0:=rfl
theorem tw5786880212526118065:0=0:=rfl
theorem tw2315153404270009854:0=0:=rfl
theorem tw16127168595735183799:0=0:=rfl
theorem tw13678398918273607467:0=0:=rfl
theorem tw848947931904119578:0=0:=rfl
theorem tw2624671117941453842:0=0:=rfl
theorem tw2723779831216570869:0=0:=rfl
theorem tw10993987806680900535:0=0:=rfl
theorem tw15174966169729673040:0=0:=rfl
theorem tw1372704207955132208:0=0:=rfl
theorem tw9829600876537253992:0=0:=rfl
theorem tw6092968954099321698:0=0:=rfl
theorem tw7603800745451378236:0=0:=rfl
theorem tw13936414070708771955:0=0:=rfl
theorem tw18283375016681812452:0=0:=rfl
theorem tw14453827801324794175:0=0:=rfl
theorem tw18437175216672589016:0=0:=rfl
theorem tw10627920461383220066:0=0:=rfl
theorem tw8108620351512452231:0=0:=rfl
theorem tw12705539535425301162:0=0:=rfl
theorem tw10491754659796998906:0=0:=rfl
theorem tw14584716371137801747:0=0:=rfl
theorem tw8915831130006130366:0=0:=rfl
theorem tw11813083943497530618:0=0:=rfl
theorem tw9583850199317521472:0=0:=rfl
theorem tw14117845331688181374:0=0:=rfl
theorem tw6619897948243404397:0=0:=rfl
theorem tw7849999422473586899:0=0:=rfl
theorem tw12454079161539989731:0=0:=rfl
theorem tw14063511862903856673:0=0:=rfl
theorem tw12466032555712976702:0=0:=rfl
theorem tw3858519468163623070:0=0:=rfl
theorem tw11618607279007091099:0=0:=rfl
theorem tw15344839496661128441:0=0:=rfl
theorem tw8475146112080223120:0=0:=rfl
theorem tw10788839317677761216:0=0:=rfl
theorem tw960815191319739355:0=0:=rfl
theorem tw7108398791591393842:0=0:=rfl
theorem tw13901229631460790408:0=0:=rfl
theorem tw3557091119374202882:0=0:=rfl
theorem tw15816465123557964848:0=0:=rfl
theorem tw17329512788584999710:0=0:=rfl
theorem tw7898107746271222269:0=0:=rfl
theorem tw15044340262679010903:0=0:=rfl
theorem tw15936386070265298478:0=0:=rfl
theorem tw5130422319612265004:0=0:=rfl
theorem tw11764154943533275503:0=0:=rfl
theorem tw12144463404468170284:0=0:=rfl
theorem tw10390870378196659698:0=0:=rfl
theorem tw16346966302510145328:0=0:=rfl
theorem tw9051420577988287662:0=0:=rfl
theorem tw9933354439545138407:0=0:=rfl
theorem tw17178457210480367495:0=0:=rfl
theorem tw11557481370737748361:0=0:=rfl
theorem tw4572857847041032336:0=0:=rfl
theorem tw6955846185381048472:0=0:=rfl
theorem tw10076034491557564340:0=0:=rfl
theorem tw913906800219778544:0=0:=rfl
theorem tw7098805375176047016:0=0:=rfl
theorem tw13126561723112159575:0=0:=rfl
theorem tw4366025564277749125:0=0:=rfl
theorem tw2144236118303963593:0=0:=rfl
theorem tw6978138775251105247:0=0:=rfl
theorem tw16066698193221233744:0=0:=rfl
theorem tw17356202639836246831:0=0:=rfl
theorem tw12399181474853946406:0=0:=rfl
theorem tw15535018133256338543:0=0:=rfl
theorem tw17838797464638366971:0=0:=rfl
theorem tw12795599752759271639:0=0:=rfl
theorem tw562104633313869758:0=0:=rfl
theorem tw3467520785486164210:0=0:=rfl
theorem tw3686474485060855524:0=0:=rfl
theorem tw15730269914619384228:0=0:=rfl
theorem tw1667791053638878366:0=0:=rfl
theorem tw10912195575424406782:0=0:=rfl
theorem tw12919219699868169275:0=0:=rfl
theorem tw4935623237642734169:0=0:=rfl
theorem tw8858937812595459313:0=0:=rfl
theorem tw13267206920967127538:0=0:=rfl
theorem tw10192609377152760757:0=0:=rfl
theorem tw16015228504269942888:0=0:=rfl
theorem tw13612218754066438376:0=0:=rfl
theorem tw14585591172618299986:0=0:=rfl
theorem tw16090738793545200745:0=0:=rfl
theorem tw11930589578664466298:0=0:=rfl
theorem tw3618827580434368981:0=0:=rfl
theorem tw3385360110769916965:0=0:=rfl
theorem tw17870838931996749018:0=0:=rfl
theorem tw15121882013663640878:0=0:=rfl
theorem tw7326474628518062681:0=0:=rfl
theorem tw17333943180595651430:0=0:=rfl
theorem tw746321123712245353:0=0:=rfl
theorem tw7567428774919577034:0=0:=rfl
theorem tw10791083551448513602:0=0:=rfl
theorem tw11522734293878700176:0=0:=rfl
theorem tw7897032151326770928:0=0:=rfl
theorem tw18173702796753110752:0=0:=rfl
theorem tw8355768989724869651:0=0:=rfl
theorem tw956289496482593167:0=0:=rfl
theorem tw14844491331789398076:0=0:=rfl
theorem tw2209032641881168483:0=0:=rfl
theorem tw9817859833308711094:0=0:=rfl
theorem tw15658233128896805507:0=0:=rfl
theorem tw10995512241556562742:0=0:=rfl
theorem tw13293184063469492721:0=0:=rfl
theorem tw6772152627008522243:0=0:=rfl
theorem tw2531896335878857915:0=0:=rfl
theorem tw5827150314295135616:0=0:=rfl
theorem tw14033204583328769003:0=0:=rfl
theorem tw14967012514878613512:0=0:=rfl
theorem tw7927659007958237413:0=0:=rfl
theorem tw16854181133855675210:0=0:=rfl
theorem tw10358481948953743685:0=0:=rfl
theorem tw4170073273795327108:0=0:=rfl
theorem tw3458320892866113976:0=0:=rfl
theorem tw11488456855436834842:0=0:=rfl
theorem tw17199369402809986477:0=0:=rfl
theorem tw17350308226023039406:0=0:=rfl
theorem tw5591037689953420881:0=0:=rfl
theorem tw6470473001705153901:0=0:=rfl
theorem tw12791990417904615149:0=0:=rfl
theorem tw350549863470918034:0=0:=rfl
theorem tw9861113435434673347:0=0:=rfl
theorem tw9758857721008268540:0=0:=rfl
theorem tw10497843515485480280:0=0:=rfl
theorem tw7913540593599129247:0=0:=rfl
theorem tw15436561978106185965:0=0:=rfl
theorem tw15543543008205395058:0=0:=rfl
theorem tw17955977362529768162:0=0:=rfl
theorem tw9131100732417198774:0=0:=rfl
theorem tw17505689695358177753:0=0:=rfl
theorem tw12738948896533701629:0=0:=rfl
theorem tw16928731573610650739:0=0:=rfl
theorem tw7099736251767729333:0=0:=rfl
theorem tw1509276503411952497:0=0:=rfl
theorem tw11175958493232074530:0=0:=rfl
theorem tw13484613359303367932:0=0:=rfl
theorem tw8388374898851128247:0=0:=rfl
theorem tw14441869707435817303:0=0:=rfl
theorem tw2434048654977043009:0=0:=rfl
theorem tw6674697323270292519:0=0:=rfl
theorem tw8681225978024085984:0=0:=rfl
theorem tw12878247068491592489:0=0:=rfl
theorem tw17866990006557206517:0=0:=rfl
theorem tw5991797607467066159:0=0:=rfl
theorem tw7887905375163725751:0=0:=rfl
theorem tw9480533280935171674:0=0:=rfl
theorem tw1362003876838068611:0=0:=rfl
theorem tw16122639699930287701:0=0:=rfl
theorem tw15104974149682492691:0=0:=rfl
theorem tw13997566628641035433:0=0:=rfl
theorem tw14048352734757646286:0=0:=rfl
theorem tw16766687031334264039:0=0:=rfl
theorem tw11156139533273125058:0=0:=rfl
theorem tw9536780159881385848:0=0:=rfl
theorem tw17630575263861701689:0=0:=rfl
theorem tw9125724968140119571:0=0:=rfl
theorem tw10268053513237995845:0=0:=rfl
theorem tw8891931638568983861:0=0:=rfl
theorem tw6101005396354409332:0=0:=rfl
theorem tw14233110598586087503:0=0:=rfl
theorem tw12635564343465255035:0=0:=rfl
theorem tw10635592659759538907:0=0:=rfl
theorem tw7107907940632549171:0=0:=rfl
theorem tw14621932829979884247:0=0:=rfl
theorem tw13448814457965087868:0=0:=rfl
theorem tw11018493637028759950:0=0:=rfl
theorem tw5178810664446410071:0=0:=rfl
theorem tw10701979392059602009:0=0:=rfl
theorem tw9803462027297806494:0=0:=rfl
theorem tw3762317361677375090:0=0:=rfl
theorem tw6822614393372052166:0=0:=rfl
theorem tw16873820236173228300:0=0:=rfl
theorem tw2015631978291284315:0=0:=rfl
theorem tw14238094931747615089:0=0:=rfl
end PySem.W.Fast
open PySem PySem.W PyProof.Rows
set_option maxRecDepth 100000 in
set_option maxHeartbeats 0 in
theorem PySem.Challenge.cw_chiefway_k82_a_programs_text_holds : PySem.Challenge.rw_chiefway_k82_a_programs_text.Holds := by
 w_on;o_law;k_head;(case hw=>w_witness2)
 k_fill
 refine My.S0 (l:=PySem.Challenge.rw_chiefway_k82_a_programs_text) (k:=113) (by decide) rfl rfl (λw h Y=>PySem.W.kIn_of Y) ?F
 case F=>
  intro w mg fa h KX G U;refine' Law.NL (k:=112) KX G U ?D ?B ?J ?a0 ?l0 ?c0 ?k0 ?gaWORDS ?glWORDS ?gsFIGURES ?gsLETTERS ?kfCHECKS0 ?kfCHECKS1 ?kfCHECKS2 ?kfCHECKS3 ?kfCHECKS4 ?kfCHECKS5 ?kaCHECKS ?klCHECKS ?kfPHRASES0 ?kfPHRASES1 ?kfPHRASES2 ?kaPHRASES ?klPHRASES ?kfSHOWN0 ?kfSHOWN1 ?kfSHOWN2 ?kfSHOWN3 ?kfSHOWN4 ?kfSHOWN5 ?kaSHOWN ?klSHOWN ?oqReader ?knPHRASES ?ok
  (case D=>unfold Law.tab;(repeat (apply P.Des.cons;(case a=>k_is);(case l=>k_is);(case c=>k_is);(case k=>k_is)));exact P.Des.nil)
  (case B=>unfold Law.blt;(repeat (apply P.Nos.cons;(case a=>k_is)));exact P.Nos.nil)
  (case J=>unfold Law.W2;(repeat (apply P.Gis.cons;(case a=>k_is)));exact P.Gis.nil)
  (case oqReader=>refine' P.X1 ?qa ?q1 ?q2 ?q3 ?q4 ?q5 ?q6 ?q7 ?q8 ?ql ?qc ?qk ?qn;(case qa=>k_is);(case q1=>k_is);(case q2=>k_is);(case q3=>k_is);(case q4=>k_is);(case q5=>k_is);(case q6=>k_is);(case q7=>k_is);(case q8=>k_is);(case ql=>k_is);(case qc=>k_is);(case qk=>k_is);(case qn=>(repeat (apply P.Fas.cons;(case a=>k_is)));exact P.Fas.nil))
  (case a0=>k_is)
  (case l0=>k_is)
  (case c0=>k_is)
  (case k0=>k_is)
  (case gaWORDS=>k_is)
  (case glWORDS=>k_is)
  (case gsFIGURES=>k_is)
  (case gsLETTERS=>k_is)
  (case kfCHECKS0=>k_is)
  (case kfCHECKS1=>k_is)
  (case kfCHECKS2=>k_is)
  (case kfCHECKS3=>k_is)
  (case kfCHECKS4=>k_is)
  (case kfCHECKS5=>k_is)
  (case kaCHECKS=>k_is)
  (case klCHECKS=>k_is)
  (case kfPHRASES0=>k_is)
  (case kfPHRASES1=>k_is)
  (case kfPHRASES2=>k_is)
  (case kaPHRASES=>k_is)
  (case klPHRASES=>k_is)
  (case kfSHOWN0=>k_is)
  (case kfSHOWN1=>k_is)
  (case kfSHOWN2=>k_is)
  (case kfSHOWN3=>k_is)
  (case kfSHOWN4=>k_is)
  (case kfSHOWN5=>k_is)
  (case kaSHOWN=>k_is)
  (case klSHOWN=>k_is)
  (case knPHRASES=>rfl)
  (case ok=>exact λbase kb nb T=>P.PL (f:=Law.HD) (O':=[]) rfl (λfa N A q s H E hr=>Law.L0.2 T fa N A q s H E hr) Law.R8)
