import PyProof.Rows.All
import Wide.All
import OpenK.AllK
import Wide.FinOn
import Lean
import PyProof.EqAt
import PyProof.EqKinds
import PyProof.TupleCall
import KE.KEqDict
import KE.KRevIter
import PySem.Challenge.RW_chiefway_k47_whole_order_of_readings
set_option autoImplicit true
set_option relaxedAutoImplicit true
set_option Elab.async false
set_option linter.all false
set_option maxRecDepth 100000
open PySem renaming wpAny_bind → zaa, Shared → zad, wpAny_pure → zaf, starEach → zag, Program → zah, sizeLine → zaj, Around → zam, compareOp → zaA, swapsWith → zaD, backTo → zaG, bootBuiltins → zaH, mainGlobals → zaK, binaryOp → zaM, attributeBase → zaO, wpAny_field → zaR, assignEach → za1, pyNext → za2, IsPair → za3, sysModules → za6, wpAny_mono → za7, rawInt → za9, foldedSetIterable → zba, relabel → zbd, assign → zbe, FuncData → zbf, wpAny_call_entry → zbl, wpAny_loadPart' → zbp, wpAny_seqItems → zbu, NameKind → zby, getItem → zbz, wpAny_setField_rec → zbC, IsEnum → zbD, wpAny_holding → zbE, codeAny → zbF, IsPart → zbH, wpAny_callSpecial?_slot → zbI, wpAny_newObj_type → zbJ, sliceBounds → zbK, wpAny_rule → zbM, Builtin → zbN, behindInMarks → zbQ, wpAny_pyIter_tuple → zbS, tupleKind → zb1, PassesOwn → zb4, wpAny_pyIter_list → zb5, cellsFrom → zb6, tupleKeyHash → zce, entryOfKey → zcf, holding → zcg, wpAny_passesOwn → zch, Keyword → zcj, valueAt → zcn, callerA → zco, DictEntry → zcp, wpAny_forIn_list → zcv, wpAny_isInstance → zcw, mem_of_lookup → zcy, wpAny_typeOf → zcz, wpAny_attempt → zcE, wpAny_specialOf → zcM, wpAny_truthy_bool → zcO, sizeLine_eq → zcQ, call_meets → zcT, wpAny_execs_nil → zc5, wpAny_standAt → zc6, swapsWithSole → zc7, swappedStores → zc8, letOwnedTupleGo → zc9, codeAny_mono → zdf, wpAny_Call_Name_kw → zdg, subscripted → zdm, wpAny_typeNameOfWhole_keyiter → zdr, wpAny_typeNameOf_keyiter → zds, wpAny_setField → zdt, firstArgMember → zdw, wpAny_onRaise → zdz, wpAny_letGo → zdA, getattributeRaised → zdH, wpAny_tupleItemsOf → zdT, isSubtype_tuple_tuple → zdV, noFill_tuple_add → zd4, tupleKind_room_in1 → zed, wpAny_dictEntries → zeg, wpAny_dictEpoch → zeh, wpAny_updateSeq_pair → zek
open Option renaming map_some → zab, bind_some → zac, bind → zcG
open PySem.W renaming Frag → zae, fnOf → zbh, kia_one → zbm, findIn → zbx, keepIn → zbG, emptyDict → zbT, nsIn → zbY, instObj → zb2, codeIn → zcl, plainGet → zda, hasDictIn → zdb, kitOne → zdd, kitx_dict → zde, mg_of → zdJ, methodObj → zdW, plainOver → zdZ, takerIn → zd0, makesIn → zd1, OpenLaw → zee
open Nat renaming le_refl → zai, ne_of_lt → zaF, zero_le → zaI, le_trans → zaL, zero_add → zaP, lt_of_lt_of_le → zaX, ne_of_gt → zbw, lt_irrefl → zb3, le_of_ble_eq_true → zcq, lt_of_le_of_lt → zcC, lt_succ_self → zdc, add_le_add_left → zef
open List renaming map_cons → zak, length_map → zal, mem_cons_of_mem → zap, range → zar, mem_cons_self → zat, map_map → zav, length_cons → zaw, mem_of_getElem? → zax, size_toArray → zay, getElem?_map → zaC, map_append → zaJ, getElem?_eq_getElem → zaT, mem_append_right → zaV, mem_cons → zaW, not_mem_nil → za0, append_nil → zbb, length_append → zbc, length_nil → zbn, length → zbo, sum_cons → zbr, mem_append_left → zbv, find?_cons → zbA, getElem?_set_ne → zbP, lookup_cons → zbW, take_length → zbX, take_of_length_le → zbZ, length_take → zb7, any_cons → zb8, getElem?_of_mem → zcb, lookup → zci, replicate → zck, zip_cons_cons → zcm, take_succ_cons → zcr, append_cancel_left → zcs, getElem?_set_self → zcx, map_nil → zcA, filter_cons → zcB, length_range → zcH, foldl_cons → zcJ, length_set → zcS, getElem?_range → zcV, drop_eq_getElem_cons → zcW, take_add_one → zcY, forall_mem_cons → zcZ, length_filter_le → zc0, getD_eq_getElem?_getD → zc2, take_succ → zc4, getElem?_append_right → zdh, take_sublist → zdi, replicate_succ → zdn, flatten_cons → zdo, drop_length → zdD, cons_append → zdK, idxOf_lt_length_of_mem → zdO, foldl_nil → zdQ, filterMap_cons → zdX, getElem_inj → zdY, of_mem_zip → zd2, getElem?_append_left → zd3, length_drop → zd9, reverse_cons → zeb, forIn_cons → zej, pairwise_map → zel, nodup_append → zeo, getElem_idxOf → zer, take_sublist_take_left → zez
open PySem.Heap renaming get?_push_of_some → zan, lt_size → zao, get?_push_size → zaE, SameBut → za4, size_push → zbU, IsTuple → zcU, IsList → zdC, get?_update_self → zea
open PySem.Value renaming ref → zaq, none → za5, int → zct, bool → zcu, str → zcK
open Int renaming emod_nonneg → zas, emod_lt_of_pos → zau, ne_of_gt → zaS, zero_add → zbk, toNat_natCast → zbB, mul_nonneg → zcX, add_assoc → zc3, mul_assoc → zdL, le_trans → zdM, add_mul → zdN, le_refl → zdP, zero_mul → zdR, mul_le_mul_of_nonneg_right → zep, lt_of_lt_of_le → zeq
open Option.some renaming inj → zaz
open Bool renaming false_ne_true → zaB, and_eq_true → zaQ, false_eq_true → zbt, not_true → zb0, eq_iff_iff → zcN, not_eq_true → zdE, or_eq_true → zdF
open PyProof.Rows renaming envOfC → zaN, kindOf → zbg, IntsAre → zbi, AllBare → zbO, callWith_type1 → zcP, slot_tuple_getitem → zdk
open Ne renaming symm → zaU
open True renaming intro → zaY
open Or renaming inl → zaZ, inr → zbL
open False renaming elim → za8
open PySem.Str renaming ofString → zbj, join → zcI
open PySem.NameKind renaming free → zbq
open Sum renaming inl → zbs, inr → zcc
open Array renaming length_toList → zbR, forIn_toList → zdU, getElem?_toList → zei
open PySem.Shared renaming heap → zbV
open PySem.Builtin.SmallTypes renaming nextOf → zb9, ownedTupleIsFree → zcF, ownedTupleHandOut → zdB
open Classical renaming propDecidable → zca
open PySem.Builtin.Tuple renaming tupleHashOf → zcd, tupleExact → zdl, tupleItemsOf → zdS, tupleCompareSizes → zes
open ForInStep renaming yield → zcD
open PySem.Paired renaming length → zcL
open PySem.Obj renaming mapSeq → zcR, data_mapFields → zdu
open Subtype renaming val → zc1
open PySem.Builtin.Slice renaming slicePlaces → zdj, sliceAdjust → zd8
open List.Pairwise renaming nil → zdp
open PySem.F renaming slot_dict_keyiterator_next → zdq, slot_tuple_iterator_next → zdx, slot_zip_next → zdy, slot_enumerate_next → zdG, plainAttrs_list → zdI, slot_tuple_add → zd5, entry_tuple_add → zd6, args_tuple_add_2 → zd7, entry_dict_keyiterator_next → zet, args_dict_keyiterator_next_1 → zeu, entry_tuple_iterator_next → zex, args_tuple_iterator_next_1 → zey
open PySem.Heap.SameBut renaming update → zdv
open PySem.Builtin.List renaming listTooLong → zec
open PySem.PassesOwn renaming never → zem
open List.cons renaming injEq → zen
open PySem.Builtin.Dict_items renaming ownsTuple → zew
noncomputable section
namespace L2
open PySem PySem.Spec PyProof.Rows
abbrev Key:=Sum Int Str
def vX:Key->Value->Bool
 | .inl k,v=>Value.isInt k v
 | .inr x,v=>Value.isStrOf x v
def qal(w:World):Key->Int
 | .inl k=>hashInt k
 | .inr x=>hashStr w x
theorem cL:∀ {k:Key} {v:Value},vX k v=true->(∃i t,k=zbs i/\v=zct i t)\/(∃x t,k=zcc x/\v=zcK x t)
 | .inl i,v,h=>by
  obtain⟨t,e⟩:=Value.isInt_shape (k:=i) (v:=v) h;exact .inl ⟨i,t,rfl,e⟩
 | .inr x,v,h=>by
  obtain⟨t,e⟩:=Value.isStrOf_shape (x:=x) (v:=v) h;exact .inr ⟨x,t,rfl,e⟩
theorem HX(i:Int)(t:Tok):vX (.inl i) (.int i t)=true:=by simp[vX,Value.isInt]
theorem HM(x:Str)(t:Tok):vX (.inr x) (.str x t)=true:=by simp[vX,Value.isStrOf]
theorem U1(a b:Int):decide ((zbs a:Key)=zbs b)=(a == b):=by
 by_cases e:a=b
 ·subst e;simp
 ·have h:¬ (zbs a:Key)=zbs b:=λq=>e (Sum.inl.inj q)
  rw[decide_eq_false h];exact(beq_eq_false_iff_ne.mpr e).symm
theorem U5(a b:Str):decide ((zcc a:Key)=zcc b)=decide (a=b):=by
 by_cases e:a=b
 ·subst e;simp
 ·have h:¬ (zcc a:Key)=zcc b:=λq=>e (Sum.inr.inj q)
  rw[decide_eq_false h,decide_eq_false e]
theorem UC(a:Int)(b:Str):decide ((zbs a:Key)=zcc b)=false:=decide_eq_false (λq=>nomatch q)
theorem UQ(a:Str)(b:Int):decide ((zcc a:Key)=zbs b)=false:=decide_eq_false (λq=>nomatch q)
def bB(prog:zah)(w:World):PySem.KeyKind prog w Key where
 is:=vX
 hash:=qal w
 inj:=λv a b F z=>by
  rcases cL F with⟨i,t,rfl,rfl⟩|⟨x,t,rfl,rfl⟩
  ·rcases cL z with⟨j,u,rfl,e⟩|⟨y,u,rfl,e⟩
   ·injection e with e1 _;rw[e1]
   ·exact nomatch e
  ·rcases cL z with⟨j,u,rfl,e⟩|⟨y,u,rfl,e⟩
   ·exact nomatch e
   ·injection e with e1 _;rw[e1]
 byValue:=λk v h=>by
  rcases cL h with⟨i,t,rfl,rfl⟩|⟨x,t,rfl,rfl⟩ <;> rfl
 pyHash:=λq h=>by
  rcases cL q with⟨i,t,rfl,rfl⟩|⟨x,t,rfl,rfl⟩
  ·exact wpAny_pyHash_int h
  ·exact wpAny_pyHash_str h
 eqBool:=λB q h=>by
  rcases cL B with⟨i,t,rfl,rfl⟩|⟨x,t,rfl,rfl⟩
  ·rcases cL q with⟨j,u,rfl,rfl⟩|⟨y,u,rfl,rfl⟩
   ·rw[U1]at h;exact wpAny_eqBool_int h
   ·rw[UC]at h;exact SeqAt.EqAt.int_str i t y u _ _ _ _ h
  ·rcases cL q with⟨j,u,rfl,rfl⟩|⟨y,u,rfl,rfl⟩
   ·rw[UQ]at h;exact SeqAt.EqAt.str_int x t j u _ _ _ _ h
   ·rw[U5]at h;exact wpAny_eqBool_str h
 «strs»:=λk x t v h=>by
  rcases cL h with⟨i,u,rfl,e⟩|⟨y,u,rfl,e⟩
  ·exact nomatch e
  ·injection e with e1 _
   subst e1;cases v <;> rfl
theorem yJ(prog:zah)(w:World)(i:Int)(t:Tok):(bB prog w).is (.inl i) (.int i t)=true:=HX i t
theorem yM(prog:zah)(w:World)(x:Str)(t:Tok):(bB prog w).is (.inr x) (.str x t)=true:=HM x t
inductive V where
 | non|bl (b:Bool)|int (i:Int)|str (x:Str)|byt (b:Array UInt8)|flt (b:UInt64)|ref (a:Addr)|ty (n:String)
 deriving DecidableEq
noncomputable def RelV:V->Value->Prop
 | .non,u=>u=za5
 | .bl b,u=>u=zcu b
 | .int i,u=>∃t,u=zct i t
 | .str x,u=>∃t,u=zcK x t
 | .byt b,u=>∃t,u=Value.bytes b t
 | .flt b,u=>∃t,u=Value.float b t
 | .ref a,u=>u=zaq a
 | .ty n,u=>u=Value.type n
abbrev Vals:List V->List Value->Prop:=Paired RelV
theorem Vals.length(r:Vals xs us):xs.length=us.length:=zcL r
theorem Vals.get:∀ {xs:List V} {us:List Value} {i:Nat} {x:V},Vals xs us->xs[i]?=some x->∃u,us[i]?=some u/\RelV x u
 | _,_,_,_,.nil,e=>by simp at e
 | _,_,0,_,.cons r _,e=>by simp at e;subst e;exact⟨_,rfl,r⟩
 | _,_,i+1,x,.cons _ t,e=>by
  obtain⟨u,h1,h2⟩:=Vals.get (i:=i) (x:=x) t (by simpa using e);exact⟨u,by simpa using h1,h2⟩
theorem Vals.set(r:RelV x u):∀ {xs:List V} {us:List Value} (i:Nat),Vals xs us->Vals (xs.set i x) (us.set i u)
 | _,_,_,.nil=>.nil
 | _,_,0,.cons _ t=>.cons r t
 | _,_,i+1,.cons q t=>.cons q (Vals.set r i t)
theorem Vals.append:∀ {xs ys:List V} {us ws:List Value},Vals xs us->Vals ys ws->Vals (xs++ys) (us++ws)
 | _,_,_,_,.nil,s=>s
 | _,_,_,_,.cons r t,s=>.cons r (Vals.append t s)
theorem Vals.take:∀ {xs:List V} {us:List Value} (n:Nat),Vals xs us->Vals (xs.take n) (us.take n)
 | _,_,0,_=>.nil
 | _,_,_+1,.nil=>.nil
 | _,_,n+1,.cons r t=>.cons r (Vals.take n t)
theorem Vals.drop:∀ {xs:List V} {us:List Value} (n:Nat),Vals xs us->Vals (xs.drop n) (us.drop n)
 | _,_,0,r=>r
 | _,_,_+1,.nil=>.nil
 | _,_,n+1,.cons _ t=>Vals.drop n t
def RelO:Option V->Option Value->Prop
 | some v,some u=>RelV v u
 | none,none=>True
 | _,_=>False
def KV{κ:Type}:List (κ×V)->List (κ×Value)->Prop:=Paired λ(p:κ×V) (q:κ×Value)=>p.1=q.1/\RelV p.2 q.2
def kV:Key->V
 | .inl i=>.int i
 | .inr x=>.str x
section
variable {prog:zah}{w:World}{K:Type}[DecidableEq K](knd:KeyKind prog w K)
def NestIs(h:Heap)(k:K×List K)(a:Addr):Prop:=∃o n v b,h.get? a=some o/\o.cls=.type "tuple" /\ o.data=.seq #[v,.ref b] n/\knd.is k.1 v=true/\IsTupleKey knd h k.2 b
noncomputable def sI(k:K×List K):Int:=reduceHash (zcd [knd.hash k.1,zce knd k.2])
variable {knd}{A:zam}{E:Value->zad->Prop}{s:zad}
theorem NestIs.typeIs{k:K×List K}{a:Addr}(x:NestIs knd s.heap k a):s.TypeIs (.ref a) "tuple" := let ⟨o,_,_,_,ho,hc,_⟩:=x;⟨o,ho,hc⟩
theorem NestIs.inj{h:Heap}{a:Addr}{x y:K×List K}(hx:NestIs knd h x a)(M:NestIs knd h y a):x=y:=by
 obtain⟨o,n,v,b,J,_,hd,hi,G⟩:=hx;obtain⟨o',W,U,N,B,_,q,F,z⟩:=M;obtain rfl:o=o':=zaz (J.symm.trans B);rw[hd]at q;injection q with h1 _
 simp at h1;obtain⟨rfl,rfl⟩:=h1;exact Prod.ext (knd.inj _ _ _ hi F) (G.inj z)
theorem NestIs.keeps{h h':Heap}{k:K×List K}{a d:Addr}{o:Obj}{es ep}(x:NestIs knd h k a)(F:h.get? d=some o)(hd:o.data=.dict es ep)(hs:za4 d h h'):NestIs knd h' k a:=by
 obtain⟨o',n,v,b,z,J,q,hi,G⟩:=x;have B:a≠d:=by
  rintro rfl;obtain rfl:o'=o:=zaz (z.symm.trans F);rw[hd]at q;exact nomatch q
 exact⟨o',n,v,b,(hs.2 a B).trans z,J,q,hi,G.keeps F hd hs⟩
theorem GO{k:K×List K}{a:Addr}{Q:Int->zad->Prop}(J:A.units+1<cLine)(z:NestIs knd s.heap k a)(h:Q (sI knd k) {s with toks:=s.toks+(k.2.length+3)}) :
  wpAny (model prog w) A (pyHash (.ref a)) Q E s:=by
 have hT:=z.typeIs;obtain⟨o,n,v,b,G,_,hd,hi,B⟩:=z;unfold pyHash
 first|unfold pyHashByItsType|skip
 first|refine zaa (wpAny_cRoomFor_or (.inr (by lia)) ?_)|skip
 refine zaa (zcM hT F.slot_tuple_hash.lookup ?_);show wpAny _ _ (if(some (Value.builtin "tuple.__hash__") == some za5)=true then _ else _) Q E s;rw[if_neg (by rw[beq_builtin_none];exact zaB)];refine zaa (zcM hT F.slot_tuple_hash.lookup ?_);show wpAny _ _ (callSpecialIfBoundUnlessNone? (.ref a) "__hash__" _ >>= _) Q E s;refine zaa (wpAny_callSpecialIfBoundUnlessNone?_slot hT F.slot_tuple_hash (zbl F.slot_tuple_hash hT F.entry_tuple_hash ?_ (F.args_tuple_hash_1 _)));show wpAny _ _ (zdS (.ref a) >>= _) _ _ s;refine zaa (zdT G hd ?_);refine zaa ?_;rw[<- zdU];refine zcv _
  (λrest (c:Array Int) s'=>(rest=[v,.ref b]/\c=#[]/\s'=s)\/(rest=[.ref b]/\c=#[knd.hash k.1]/\s'={s with toks:=s.toks+1})\/(rest=[]/\c=#[knd.hash k.1,zce knd k.2]/\s'={s with toks:=s.toks+(k.2.length+2)}))
  _ ?_ ?_ _ _ (.inl ⟨rfl,rfl,rfl⟩)
 ·rintro x rest c s' (⟨e,rfl,rfl⟩|⟨e,rfl,rfl⟩|⟨e,_⟩)
  ·cases e
   refine zaa (knd.pyHash hi ?_)
   first
    | exact zaf (.inr (.inl ⟨rfl,rfl,rfl⟩))
    | exact zaa (zaf (zaf (.inr (.inl ⟨rfl,rfl,rfl⟩))))
  ·cases e
   refine zaa (wpAny_pyHash_tuple (knd:=knd) (ks:=k.2) ?_ B ?_)
   ·exact J
   ·have e:({s with toks:=s.toks+1+(k.2.length+1)}:zad)={s with toks:=s.toks+(k.2.length+2)}:=by congr 1;lia
    show wpAny _ _ _ _ _ {s with toks:=s.toks+1+(k.2.length+1)};rw[e]
    first
     | exact zaf (.inr (.inr ⟨rfl,rfl,rfl⟩))
     | exact zaa (zaf (zaf (.inr (.inr ⟨rfl,rfl,rfl⟩))))
  ·cases e
 ·rintro c s' (⟨e,_⟩|⟨e,_⟩|⟨e,rfl,rfl⟩)
  ·cases e
  ·cases e
  show wpAny _ _ (retInt (zcd [knd.hash k.1,zce knd k.2])) _ _ _;refine wpAny_ret_mkInt ?_;show wpAny _ _ (if(decide (-(2:Int)^63<=zcd [knd.hash k.1,zce knd k.2]) && decide (zcd [knd.hash k.1,zce knd k.2]<2^63))=true then _ else _) Q E _;unfold sI reduceHash at h;by_cases q:(decide (-(2:Int)^63<=zcd [knd.hash k.1,zce knd k.2]) && decide (zcd [knd.hash k.1,zce knd k.2]<2^63))=true
  ·rw[if_pos q]
   rw[if_pos q]at h;exact zaf (by simpa[Nat.add_assoc]using h)
  ·rw[if_neg q]
   rw[if_neg q]at h;exact zaa (zbM (zaf (by simpa[Nat.add_assoc]using h)))
theorem v7{x y:K×List K}{a b:Addr}{P:Fin->zad->Prop}(hu:A.units<cLine)(hx:NestIs knd s.heap x a)(hy:NestIs knd s.heap y b)(h:P (.done (.ret (.bool (decide (x=y))))) s) :
  wpAny (model prog w) A (zbN.«tuple.__eq__» ⟨[.ref a,.ref b],[]⟩) P E s:=by
 have N:=hy.typeIs;obtain⟨oa,na,va,ba,B,_,Y,G,z⟩:=hx;obtain⟨ob,nb,vb,bb,aa,_,J,W,F⟩:=hy;show wpAny _ _ (isInstance (.ref b) (.type "tuple") >>= _) _ _ s;refine zaa (zcw N zdV ?_);simp only[zb0,zbt,if_false];refine zaa (zdT B Y ?_);refine zaa (zdT aa J ?_);refine zaa ?_;have ex:decide (x=y)=(decide (x.1=y.1) && decide (x.2=y.2)):=by
  rw[zcN,decide_eq_true_iff,zaQ,decide_eq_true_iff,decide_eq_true_iff];exact⟨λe=>by rw[e];exact⟨rfl,rfl⟩,λe=>Prod.ext e.1 e.2⟩
 rw[ex]at h;refine zcv _
  (λrest r s'=>r.1=none/\s'=s/\(rest=[(va,vb),(.ref ba,.ref bb)]\/(rest=[(.ref ba,.ref bb)]/\x.1=y.1)\/(rest=[]/\x.1=y.1/\x.2=y.2)))
  _ ?_ ?_ _ _ ⟨rfl,rfl,.inl rfl⟩
 ·rintro⟨u,v⟩ rest r s' ⟨U,rfl,e|⟨e,M⟩|⟨e,_⟩⟩
  ·cases e
   refine zaa (knd.eqBool (a:=x.1) (b:=y.1) G W ?_);by_cases q:x.1=y.1
   ·rw[decide_eq_true q]
    simp only[zb0,zbt,if_false];exact zaf ⟨rfl,rfl,.inr (.inl ⟨trivial,q⟩)⟩
   ·rw[decide_eq_false q]at h ⊢
    simp only[Bool.not_false,if_true];exact zaa (zaf (zaf (zaf h)))
  ·cases e
   refine zaa (wpAny_eqBool_tuple (knd:=knd) hu z F ?_);by_cases q:x.2=y.2
   ·rw[decide_eq_true q]
    simp only[zb0,zbt,if_false];exact zaf ⟨rfl,rfl,.inr (.inr ⟨trivial,M,q⟩)⟩
   ·rw[decide_eq_false q,Bool.and_false]at h
    rw[decide_eq_false q];simp only[Bool.not_false,if_true];exact zaa (zaf (zaf (zaf h)))
  ·cases e
 ·rintro⟨r1,r2⟩ s' ⟨U,rfl,e|⟨e,_⟩|⟨_,M,e2⟩⟩
  ·cases e
  ·cases e
  simp only at U;subst U;refine zaf ?_;rw[decide_eq_true M,decide_eq_true e2]at h;exact h
theorem RE{x y:K×List K}{a b:Addr}{Q:Bool->zad->Prop}(B:A.units+1<cLine)(hx:NestIs knd s.heap x a)(z:NestIs knd s.heap y b)(h:Q (decide (x=y)) s) :
  wpAny (model prog w) A (eqBool (.ref a) (.ref b)) Q E s:=by
 unfold eqBool
 try with_reducible refine zbE ?_
 show wpAny _ _ (if(zaq a == zaq b)=true then _ else _) Q E s;by_cases q:(zaq a == zaq b)=true
 ·rw[if_pos q]
  have e:a=b:=by have:=eq_of_beq q;injection this
  subst e;obtain rfl:=hx.inj z;exact zaa (zbM (zaf (by simpa using h)))
 ·rw[if_neg q]
  exact zaa (wpAny_richCompare_same_room (op:=.Eq) hx.typeIs z.typeIs F.slot_tuple_eq
   (zbl F.slot_tuple_eq hx.typeIs F.entry_tuple_eq (v7 (show A.in1.units<cLine from B) hx z ⟨_,rfl,(λe=>nomatch e),zcO h⟩) (F.args_tuple_eq_2 _ _)) (by lia))
theorem HI(n:Nat){ks:List K}{a:Addr}{Q:Bool->zad->Prop}(G:IsTupleKey knd s.heap ks a)(h:Q true s):wpAny (model prog w) A (eqIsQuiet (n+1) (.ref a)) Q E s:=by
 have hT:=G.typeIs;obtain⟨o,items,m,J,_,hd,hi⟩:=G;unfold eqIsQuiet;refine zaa (zcM hT F.slot_tuple_eq.lookup ?_);show wpAny _ _ (isInstance (.ref a) (.type "tuple") >>= _) _ _ s;refine zaa (zcw hT zdV ?_);simp only[zb0,zbt,if_false];refine zaa (zbu J hd ?_);refine zaa ?_;show wpAny _ _ (forIn items _ _) _ _ s;rw[<- zdU];refine zcv _ (λrest r s'=>r.1=none/\s'=s/\∀v∈rest,carriedByValue v=true) _ ?_ ?_ _ _ ⟨rfl,rfl,hi.byValue⟩
 ·rintro v rest r s' ⟨z,rfl,q⟩
  rw[eqIsQuiet_byValue _ (q v zat)];refine zaa (zaf ?_);simp only[zb0,zbt,if_false];exact zaf ⟨rfl,rfl,λu B=>q u (zap _ B)⟩
 ·rintro⟨r1,r2⟩ s' ⟨z,rfl,_⟩
  simp only at z;subst z;exact zaf h
theorem B5{k:K×List K}{a:Addr}{Q:Bool->zad->Prop}(z:NestIs knd s.heap k a)(h:Q true s):wpAny (model prog w) A (eqIsQuiet 8 (.ref a)) Q E s:=by
 have hT:=z.typeIs;obtain⟨o,m,v,b,G,_,hd,hi,B⟩:=z;unfold eqIsQuiet;refine zaa (zcM hT F.slot_tuple_eq.lookup ?_);show wpAny _ _ (isInstance (.ref a) (.type "tuple") >>= _) _ _ s;refine zaa (zcw hT zdV ?_);simp only[zb0,zbt,if_false];refine zaa (zbu G hd ?_);refine zaa ?_;show wpAny _ _ (forIn _ _ _) _ _ s;rw[<- zdU];refine zcv _ (λrest r s'=>r.1=none/\s'=s/\(rest=[v,.ref b]\/rest=[.ref b]\/rest=[])) _ ?_ ?_ _ _ ⟨rfl,rfl,.inl rfl⟩
 ·rintro u rest r s' ⟨q,rfl,e|e|e⟩
  ·cases e
   rw[eqIsQuiet_byValue _ (knd.byValue _ _ hi)];refine zaa (zaf ?_);simp only[zb0,zbt,if_false];exact zaf ⟨rfl,rfl,.inr (.inl trivial)⟩
  ·cases e
   refine zaa (HI _ B ?_);simp only[zb0,zbt,if_false];exact zaf ⟨rfl,rfl,.inr (.inr trivial)⟩
  ·cases e
 ·rintro⟨r1,r2⟩ s' ⟨q,rfl,_⟩
  simp only at q;subst q;exact zaf h
end
def cX{prog:zah}{w:World}{K:Type}[DecidableEq K](knd:KeyKind prog w K):HeapKind prog w (K×List K) where
 is:=NestIs knd
 hash:=sI knd
 draws:=λk=>k.2.length+3
 room:=λA=>A.units+1<cLine
 inj:=λhx z=>hx.inj z
 keeps:=λx F hd hs=>x.keeps F hd hs
 pyHash:=λq B h=>GO q B h
 eqBool:=λq hx z h=>RE q hx z h
 quiet:=λB h=>B5 B h
inductive HO where
 | memo (dom:List (Key×List Key)) (f:Key×List Key->Option (Int×Int)) (p:Option (Key×List Key))
 /-- a list -/
 | lst (xs:List V)
 /-- a tuple (never changes) -/
 | tup (xs:List V)
 /-- a dict whose keys are ints and texts;one whose keys are tuples of ints and texts (the empty one is both) -/
 | dK (kvs:List (Key×V))|dT (kvs:List (List Key×V))
 /-- a set of ints: its members, its size -/
 | set (S:Int->Bool) (n:Nat)
 /-- an instance of the class at C, its dict at dx, its attributes -/
 | ins (C dx:Addr) (fs:List (Str×V))
 /-- the dict of the instance at x -/
 | own (x:Addr)
 /-- the dict of an exception -/
 | xd (fs:List (Str×V))
 /-- a bound method, f of x -/
 | met (f x:Addr)
 /-- a range object lo, lo+1, .. below hi -/
 | rng (lo hi:Int)
 /-- a thing that is known to the object (the script;a dict while a loop walks it): read, never written while it is so -/
 | frz (o:Obj) (u:HO)
 /-- a code object's table -/
 | tbl (ps:Array Value)
 /-- any other thing, by what is true of its one object (a def of one's own: SetO a S n:=HO.ext λh => ..) -/
 | ext (φ:Heap->Prop)
abbrev Hp:=Addr->Option HO
def upd(H:Hp)(a:Addr)(o:HO):Hp:=λb=>if b=a then some o else H b
def MemV(H:Hp):Option (Int×Int)->Value->Prop
 | none,v=>v=.none
 | some p,v=>∃b,v=.ref b/\H b=some (.tup [.int p.1,.int p.2])
theorem aG:upd H a o a=some o:=by unfold upd;rw[if_pos rfl]
theorem aE(h:b≠a):upd H a o b=H b:=by unfold upd;rw[if_neg h]
theorem Q5:upd (upd H a o) a u=upd H a u:=by
 funext b;unfold upd;split <;> rfl
theorem t4{H:Hp}{a b:Addr}{o u:HO}(h:H a=some o)(h':H b=some u)(d:o≠u):a≠b:=by
 intro e;subst e;rw[h]at h';exact d (zaz h')
theorem bH{H:Hp}{a b:Addr}{o:HO}(h:H a=some o)(h':H b=none):a≠b:=by
 intro e;subst e;rw[h]at h';cases h'
section
variable (P:zah)(w:World)
def IsTupN(h:Heap)(a:Addr)(items:Array Value):Prop:=∃o,h.get? a=some o/\o.cls=.type "tuple" /\ ∃n,o.data=.seq items n/\o.dict=none
theorem IsTupN.tup{h:Heap}{a:Addr}{items:Array Value}(x:IsTupN h a items):IsTup h a items:=let ⟨o,e,c,n,d,_⟩:=x;⟨o,e,c,n,d⟩
theorem IsTupN.lt(x:IsTupN h a items):a<h.objs.size:=x.tup.lt
theorem IsTupN.new(h:Heap)(items:Array Value):IsTupN (h.push {cls:=.type "tuple",data:=.seq items}) h.objs.size items:=⟨_,zaE _ rfl,rfl,_,rfl,rfl⟩
def ObjOk(H:Hp)(h:Heap)(a:Addr):HO->Prop
 | .lst xs=>xs.length<=zaj/\∃(its:List Value) (n:Nat),Vals xs its/\h.get? a=some {cls:=.type "list",data:=.seq its.toArray n}
 | .tup xs=>xs.length<=zaj/\∃its:List Value,Vals xs its/\IsTupN h a its.toArray
 | .dK kvs=>kvs.length<=zaj/\(a == za6)=false/\∃vs,KV kvs vs/\h.DictOf (bB P w) a vs
 | .dT kvs=>kvs.length<=zaj/\(a == za6)=false/\∃xs:List (List Key×Addr×Value),
   Paired (λ(p:List Key×V) (q:List Key×Addr×Value)=>p.1=q.1/\H q.2.1=some (.tup (p.1.map kV))/\RelV p.2 q.2.2) kvs xs /\
   ∃o es ep,h.get? a=some o/\o.ExactDict/\o.data=.dict es ep/\es.toList=xs.map (zcf (zb1 (bB P w)))/\(xs.map (·.1)).Nodup
 | .set S n=>h.SetOf (intKind P w) a S n
 | .memo dom f p=>(a == za6)=false/\∃xs:List ((Key×List Key)×Addr×Value),(∀x∈xs,x.1∈dom/\(∃b,H x.2.1=some (.tup [kV x.1.1,.ref b])/\H b=some (.tup (x.1.2.map kV)))/\MemV H (f x.1) x.2.2)/\(∀k,p=some k->∃q,atKey xs k=some q) /\
   ∃o es ep,h.get? a=some o/\o.ExactDict/\o.data=.dict es ep/\es.toList=xs.map (zcf (cX (bB P w)))/\(xs.map (·.1)).Nodup
 | .ins C dx fs=>H dx=some (.own a)/\fs.length<=1000/\dx≠a/\h.get? a=some (zb2 C dx) /\
   ∃mA,h.Ns1 dx mA/\(∀f,RelO (fs.lookup f) (mA f))/\PySem.Within mA (fs.map (·.1))
 | .own _=>∃o,h.get? a=some o
 | .xd fs=>∃mA,h.Ns1 a mA/\∀f,RelO (fs.lookup f) (mA f)
 | .rng lo hi=>∃t u v,h.get? a=some {cls:=.type "range",data:=.fields #[.int lo t,.int hi u,.int 1 v]}
 | .frz o u=>h.get? a=some o/\ObjOk H h a u
 | .tbl ps=>h.get? a=some {cls:=.none,data:=.fields ps}
 | .met f x=>h.get? a=some (zdW (.ref f) (.ref x))
 | .ext φ=>φ h/\(∃o,h.get? a=some o)/\∀h1 h2:Heap,φ h1->(∀o,h1.get? a=some o->h2.get? a=some o)->φ h2
def HOk(H:Hp)(h:Heap):Prop:=∀a o,H a=some o->ObjOk P w H h a o
end
section
variable {P:zah}{w:World}{H H':Hp}{h h':Heap}{a:Addr}{o:HO}
theorem ObjOk.lt(x:ObjOk P w H h a o):a<h.objs.size:=by
 cases o with
 | lst xs=>obtain⟨_,_,_,_,e⟩:=x;exact zao e
 | tup xs=>obtain⟨_,_,_,p⟩:=x;exact p.lt
 | dK kvs=>obtain⟨_,_,_,_,o,_,_,e,_⟩:=x;exact zao e
 | dT kvs=>obtain⟨_,_,_,_,o,_,_,e,_⟩:=x;exact zao e
 | set S n=>obtain⟨o,_,_,_,e,_⟩:=x;exact zao e
 | memo dom f p=>obtain⟨_,_,_,_,o,_,_,e,_⟩:=x;exact zao e
 | ins C dx fs=>obtain⟨_,_,_,e,_⟩:=x;exact zao e
 | own y=>obtain⟨_,e⟩:=x;exact zao e
 | xd fs=>obtain⟨_,⟨_,_,_,e,_⟩,_⟩:=x;exact zao e
 | rng lo hi=>obtain⟨_,_,_,e⟩:=x;exact zao e
 | frz ob u=>obtain⟨e,_⟩:=x;exact zao e
 | tbl ps=>exact zao (show h.get? a=some _ from x)
 | met f y=>exact zao (show h.get? a=some _ from x)
 | ext φ=>obtain⟨_,⟨_,e⟩,_⟩:=x;exact zao e
theorem Paired.mapP{q β:Type}{F G:q->β->Prop}:∀ {l₁:List q} {l₂:List β},Paired F l₁ l₂->(∀a b,F a b->G a b)->Paired G l₁ l₂
 | _,_,.nil,_=>.nil
 | _,_,.cons r t,f=>.cons (f _ _ r) (Paired.mapP t f)
theorem ObjOk.stay(x:ObjOk P w H h a o)(k:∀b u,(b=a\/H b=some (.own a))->h.get? b=some u->h'.get? b=some u)
  (U:∀b,H b=some (.own a)->H' b=some (.own a)) (F:∀b xs,H b=some (.tup xs)->H' b=some (.tup xs)):ObjOk P w H' h' a o:=by
 induction o with
 | lst xs=>obtain⟨z,its,n,r,e⟩:=x;exact⟨z,its,n,r,k _ _ (.inl rfl) e⟩
 | tup xs=>obtain⟨z,its,r,B,e,c⟩:=x;exact⟨z,its,r,B,k _ _ (.inl rfl) e,c⟩
 | dK kvs=>obtain⟨z,y,vs,r,B,es,ep,e,c⟩:=x;exact⟨z,y,vs,r,B,es,ep,k _ _ (.inl rfl) e,c⟩
 | dT kvs=>
  obtain⟨z,y,xs,r,B,es,ep,e,c⟩:=x;exact⟨z,y,xs,Paired.mapP r λp q z=>⟨z.1,F _ _ z.2.1,z.2.2⟩,B,es,ep,k _ _ (.inl rfl) e,c⟩
 | set S n=>obtain⟨B,es,ep,t,e,c⟩:=x;exact⟨B,es,ep,t,k _ _ (.inl rfl) e,c⟩
 | memo dom f p=>
  obtain⟨y,xs,r,W,B,es,ep,e,c⟩:=x;refine⟨y,xs,λx hx=>?_,W,B,es,ep,k _ _ (.inl rfl) e,c⟩;obtain⟨d,⟨b,M,N⟩,m⟩:=r x hx;refine⟨d,⟨b,F _ _ M,F _ _ N⟩,?_⟩;revert m;cases f x.1 with
  | none=>exact id
  | some p=>exact λ⟨c,J,G⟩=>⟨c,J,F _ _ G⟩
 | ins C dx fs=>
  obtain⟨d,z,Y,e,mA,⟨od,es,ep,G,c⟩,r⟩:=x;exact⟨U _ d,z,Y,k _ _ (.inl rfl) e,mA,⟨od,es,ep,k _ _ (.inr d) G,c⟩,r⟩
 | own y=>obtain⟨B,e⟩:=x;exact⟨B,k _ _ (.inl rfl) e⟩
 | xd fs=>obtain⟨mA,⟨od,es,ep,e,c⟩,r⟩:=x;exact⟨mA,⟨od,es,ep,k _ _ (.inl rfl) e,c⟩,r⟩
 | rng lo hi=>obtain⟨t,u,v,e⟩:=x;exact⟨t,u,v,k _ _ (.inl rfl) e⟩
 | frz B u ih=>obtain⟨e,q⟩:=x;exact⟨k _ _ (.inl rfl) e,ih q⟩
 | tbl ps=>
  have e:h.get? a=some {cls:=.none,data:=.fields ps}:=x;show h'.get? a=some {cls:=.none,data:=.fields ps};exact k a _ (.inl rfl) e
 | met f y=>
  have e:h.get? a=some (zdW (.ref f) (.ref y)):=x;show h'.get? a=some (zdW (.ref f) (.ref y));exact k a _ (.inl rfl) e
 | ext φ=>obtain⟨p,⟨o,e⟩,st⟩:=x;exact⟨st _ _ p λo q=>k _ _ (.inl rfl) q,⟨o,k _ _ (.inl rfl) e⟩,st⟩
theorem HOk.lt(x:HOk P w H h)(e:H a=some o):a<h.objs.size:=(x a o e).lt
theorem HOk.fresh(x:HOk P w H h)(e:h.objs.size<=a):H a=none:=by
 cases q:H a with
 | none=>rfl
 | some u=>exact absurd (zaX (x.lt q) e) (zb3 _)
theorem HOk.kept(x:HOk P w H h)(k:∀b u,h.get? b=some u->h'.get? b=some u):HOk P w H h':=λa o e=>
 (x a o e).stay (λb u _ q=>k b u q) (λ_ q=>q) λ_ _ q=>q
theorem HOk.laid(x:HOk P w H h)(k:∀b u,h.get? b=some u->h'.get? b=some u)(F:h.objs.size<=a)(new:ObjOk P w (upd H a o) h' a o):HOk P w (upd H a o) h':=λb u e=>by
 have z:=x.fresh F;by_cases B:b=a
 ·subst B;rw[aG]at e;cases e;exact new
 ·rw[aE B]at e
  exact(x b u e).stay (λc v _ q=>k c v q) (λc q=>by rw[aE (bH q z)];exact q) λc xs q=>by rw[aE (bH q z)];exact q
end
def Rd(H:Hp)(a:Addr)(u:HO):Prop:=H a=some u\/∃o,H a=some (.frz o u)
theorem Rd.of(h:H a=some u):Rd H a u:=.inl h
theorem Rd.ok(r:Rd H a u)(x:HOk P w H h):ObjOk P w H h a u:=by
 rcases r with r|⟨o,r⟩
 ·exact x a u r
 ·obtain⟨_,q⟩:=x a _ r
  exact q
def Z5:Option HO->Prop
 | some (.lst _)=>True
 | some (.dK _)=>True
 | some (.dT _)=>True
 | some (.set _ _)=>True
 | some (.memo _ _ _)=>True
 | some (.ins _ _ _)=>True
 | some (.ext _)=>True
 | _=>False
section
variable {P:zah}{w:World}{H:Hp}{h h':Heap}{x e:Addr}{o':HO}
theorem HOk.write(ok:HOk P w H h)(J:Z5 (H x))(W:e=x\/H e=some (.own x))(k:∀b u,b≠e->h.get? b=some u->h'.get? b=some u)(U:∃u,h'.get? e=some u)
  (new:ObjOk P w (upd H x o') h' x o'):HOk P w (upd H x o') h':=λb u q=>by
 have F:∀c y,H c=some (.own y)->c≠x:=λc y r z=>by subst z;rw[r]at J;exact J
 have G:∀c xs,H c=some (.tup xs)->c≠x:=λc xs r z=>by subst z;rw[r]at J;exact J
 by_cases N:b=x
 ·subst N;rw[aG]at q;cases q;exact new
 ·rw[aE N]at q
  by_cases B:b=e
  ·have Y:H b=some (.own x):=by
    rcases W with z|z
    ·exact absurd (B.trans z) N
    ·rw[B];exact z
   rw[q]at Y;cases Y;obtain⟨v,hv⟩:=U;exact⟨v,by rw[B];exact hv⟩
  ·refine(ok b u q).stay (λc v M r=>k c v ?_ r) (λc r=>by rw[aE (F c b r)];exact r) λc xs r=>by rw[aE (G c xs r)];exact r
   rcases M with rfl|M
   ·exact B
   ·rintro rfl
    rcases W with z|z
    ·exact F c b M z
    ·rw[M]at z;cases z;exact N rfl
end
structure Un(fs ex:List Addr)(H H':Hp)(h h':Heap):Prop where
 keep:∀b o,h.get? b=some o->H b=none->b∉fs->b∉ex->h'.get? b=some o
 slot:∀b o,h.get? b=some o->H b=none->b∈fs->b∉ex->∃sl,h'.get? b=some {o with slots:=sl}
 free:∀b o,h.get? b=some o->H b=none->b∉ex->H' b=none
 there:∀b o,h.get? b=some o->b∉ex->∃o',h'.get? b=some o'
 tups:∀b xs,H b=some (.tup xs)->H' b=some (.tup xs)
 frzs:∀b o u,H b=some (.frz o u)->H' b=some (.frz o u)
 tbls:∀b ps,H b=some (.tbl ps)->∃more,H' b=some (.tbl (ps++more))
section
variable {fs fs' ex ex':List Addr}{H H1 H2:Hp}{h h1 h2 h':Heap}{a x e:Addr}{o:HO}
theorem Un.any(u:Un fs ex H H1 h h1)(q:h.get? b=some ob)(n:H b=none)(hx:b∉ex):∃B,h1.get? b=some {ob with slots:=B}:=by
 by_cases z:b∈fs
 ·exact u.slot b ob q n z hx
 ·exact⟨ob.slots,u.keep b ob q n z hx⟩
theorem Un.trans(a:Un fs ex H H1 h h1)(b:Un fs ex H1 H2 h1 h2):Un fs ex H H2 h h2 where
 keep:=λc z q n F hx=>b.keep c z (a.keep c z q n F hx) (a.free c z q n hx) F hx
 slot:=λc z q n F hx=>by
  obtain⟨M,B⟩:=a.slot c z q n F hx;obtain⟨J,G⟩:=b.slot c _ B (a.free c z q n hx) F hx;exact⟨J,G⟩
 free:=λc z q n hx=>by
  obtain⟨o',B⟩:=a.there c z q hx;exact b.free c o' B (a.free c z q n hx) hx
 there:=λc z q hx=>by
  obtain⟨o',B⟩:=a.there c z q hx;exact b.there c o' B hx
 tups:=λc xs q=>b.tups c xs (a.tups c xs q)
 frzs:=λc z xs q=>b.frzs c z xs (a.frzs c z xs q)
 tbls:=λc ps q=>by
  obtain⟨m1,B⟩:=a.tbls c ps q;obtain⟨m2,G⟩:=b.tbls c _ B;exact⟨m1++m2,by rw[G,Array.append_assoc]⟩
theorem Un.kept(k:∀b u,h.get? b=some u->h'.get? b=some u):Un fs ex H H h h':=
 ⟨λb z q _ _ _=>k b z q,λb z q _ _ _=>⟨z.slots,k b z q⟩,λ_ _ _ n _=>n,λb z q _=>⟨z,k b z q⟩,λ_ _ q=>q,λ_ _ _ q=>q,λ_ ps q=>⟨#[],by rw[q];simp⟩⟩
theorem Un.refl:Un fs ex H H h h:=Un.kept λ_ _ q=>q
theorem Un.laid(k:∀b u,h.get? b=some u->h'.get? b=some u)(B:h.objs.size<=a)(z:H a=none):Un fs ex H (upd H a o) h h' where
 keep:=λb u q _ _ _=>k b u q
 slot:=λb u q _ _ _=>⟨u.slots,k b u q⟩
 free:=λb u q n _=>by rw[aE (zaF (zaX (zao q) B))];exact n
 there:=λb u q _=>⟨u,k b u q⟩
 tups:=λb xs q=>by rw[aE (bH q z)];exact q
 frzs:=λb u xs q=>by rw[aE (bH q z)];exact q
 tbls:=λb ps q=>⟨#[],by rw[aE (bH q z),q];simp⟩
theorem Un.write(F:Z5 (H x))(N:e=x\/H e=some (.own x))(k:∀b u,b≠e->h.get? b=some u->h'.get? b=some u)(J:∃u,h'.get? e=some u):Un fs ex H (upd H x o) h h':=by
 have hx:∀b,H b=none->b≠x:=λb n z=>by subst z;rw[n]at F;exact F
 have M:∀b,H b=none->b≠e:=λb n z=>by
  subst z;rcases N with r|r
  ·exact hx b n r
  ·rw[n]at r;cases r
 have G:∀b u,H b=some u->¬ Z5 (some u)->b≠x:=λb u q nm z=>by subst z;rw[q]at F;exact nm F
 refine⟨λb u q n _ _=>k b u (M b n) q,λb u q n _ _=>⟨u.slots,k b u (M b n) q⟩,λb u q n _=>by rw[aE (hx b n)];exact n,λb u q _=>?_,
  λb xs q=>by rw[aE (G b _ q λz=>z)];exact q,λb u xs q=>by rw[aE (G b _ q λz=>z)];exact q,λb ps q=>⟨#[],by rw[aE (G b _ q λz=>z),q];simp⟩⟩
 by_cases B:b=e
 ·subst B;exact J
 ·exact⟨u,k b u B q⟩
theorem Un.mono(u:Un fs ex H H1 h h1)(hs:∀b∈fs,b∈fs')(hx:∀b∈ex,b∈ex'):Un fs' ex' H H1 h h1:=
 ⟨λb F q n G B=>u.keep b F q n (λz=>G (hs b z)) λz=>B (hx b z),λ_ _ q n _ B=>u.any q n λz=>B (hx _ z),λb F q n B=>u.free b F q n λz=>B (hx b z),λb F q B=>u.there b F q λz=>B (hx b z),u.tups,u.frzs,u.tbls⟩
end
def qj(h:Heap)(H:Hp):List Addr:=(zar h.objs.size).filter λa=>(H a).isSome
def xZ(h:Heap)(H:Hp):Heap:=PySem.W.hideAll h (qj h H)
theorem IJ(h:Heap)(H:Hp):(xZ h H).objs.size=h.objs.size:=PySem.W.hideAll_size _ _
theorem LU(e:h.get? b=some o)(n:H b=none):(xZ h H).get? b=some o:=
 PySem.W.hideAll_get _ e λz=>by
  have q:(H b).isSome=true:=(List.mem_filter.mp z).2;rw[n]at q;simp at q
theorem QR(e:(xZ h H).get? b=some o):h.get? b=some o/\H b=none:=by
 have B:h.get? b=some o:=PySem.W.of_hideAll (qj h H) e;refine⟨B,?_⟩;cases q:H b with
 | none=>rfl
 | some x=>
  have F:b∈qj h H:=List.mem_filter.mpr ⟨List.mem_range.mpr (zao B),by simp[q]⟩;have z:(xZ h H).get? b=none:=PySem.W.hideAll_none (qj h H) F;rw[z]at e;cases e
def P4(g h:Heap)(L:Addr):List (Addr×Obj):=(zar h.objs.size).filterMap λa=>if a=L\/(g.get? a).isSome=true then none else(h.get? a).map λo=>(a,o)
def rest(g h:Heap)(L d:Addr):List (Addr×Obj):=(P4 g h L).filter λp=>decide (p.1≠d)
structure Mod(K:zae)(mg:Str->Option Value)(base:Heap):Prop where
 kin:K.In base
 glob:base.Ns zaK mg
 blt:∃mb,base.Ns builtinsNs mb/\∀x:Str,x ≠ "__name__" -> mb x=zaH x
 nolimit:base.NoLimit
structure Cx where
 prog:zah
 w:World
 K:zae
 mg:Str->Option Value
 base:Heap
 A:zam
 N:List Str
 s₀:zad
 H₀:Hp
 env:Env
 outer:List Env
 stack:List Env
 ex:List Addr
 fn:Str->Bool
 calm:Bool
 pn:List (Addr×Obj)
 xe:Value->zad->Prop
noncomputable def frs(l:List Env):List Addr:=l.filterMap (·.frame)
abbrev Cx.fs(X:Cx):List Addr:=frs X.outer
def W2(sc:Scope)(x:Str):Prop:=sc.names.lookup x=some .local\/sc.names.lookup x=some .cell\/sc.names.lookup x=some .free
def Loc(sc:Scope)(x:Str):Prop:=sc.names.lookup x=some .local\/sc.names.lookup x=some .cell
def Look(env:Env)(h:Heap)(m:Str->Option Value)(x:Str)(u:Value):Prop:=
 (env.kindOf x=some .local/\m x=some u)\/((env.kindOf x=some .cell\/env.kindOf x=some .free)/\∃c,env.cells.lookup x=some c/\h.IsCell c (some u))
structure Cx.Ok(X:Cx):Prop where
 mod:Mod X.K X.mg X.base
 kind:X.env.scope.kind=.function
 glob:X.env.globals=zaK
 blt:X.env.builtins=builtinsNs
 above:X.s₀.heap.objs.size<=X.env.locals
 inj:∀x y c,X.env.cells.lookup x=some c->X.env.cells.lookup y=some c->x=y
 has:∀x,(X.env.kindOf x=some .cell\/X.env.kindOf x=some .free)->∃c,X.env.cells.lookup x=some c
 cab:∀x c,X.fn x=true->X.env.cells.lookup x=some c->X.s₀.heap.objs.size<=c
 hd:X.calm=true->X.A.handled=none
 frames:X.A.frames=some X.stack
 stk:X.stack=X.outer\/(X.stack=X.env::X.outer/\X.env.frame=some X.env.locals)
 exf:∀b∈X.ex,b≠X.env.locals/\∀x c,X.env.cells.lookup x=some c->c≠b
 bs:∀b o,X.base.get? b=some o->X.s₀.heap.get? b=some o/\X.H₀ b=none
 bsz:X.base.objs.size<=X.s₀.heap.objs.size
 noex:∀b o,X.base.get? b=some o->b∉X.ex
 exfs:∀b∈X.ex,b∉X.fs
 funs:X.s₀.heap.FunFrames X.base X.outer
 frf:∀b∈X.fs,X.H₀ b=none
structure Inv(X:Cx)(pins:List (Addr×Obj))(σ:List (Option V))(H:Hp)(s:zad):Prop where
 ok:X.Ok
 os:s.os=X.s₀.os
 bare:zbO s.gens
 base:Un X.fs X.ex X.H₀ H X.s₀.heap s.heap
 loc:∃m,s.heap.Ns X.env.locals m/\∀(i:Nat) (x:Str) (v:V),X.N[i]?=some x->σ[i]?=some (some v)->W2 X.env.scope x->∃u,RelV v u/\Look X.env s.heap m x u
 cell:∀x c,X.env.cells.lookup x=some c->∃v,s.heap.IsCell c v
 free:H X.env.locals=none
 freeC:∀x c,X.env.cells.lookup x=some c->H c=none
 pin:∀p∈X.pn++pins,s.heap.get? p.1=some p.2/\H p.1=none/\p.1≠X.env.locals/\p.1∉X.fs/\∀v,p.2.data≠.cell v
 hok:HOk X.prog X.w H s.heap
 len:σ.length=X.N.length
section
variable {X:Cx}{pins:List (Addr×Obj)}{σ:List (Option V)}{H H':Hp}{s:zad}{h':Heap}
theorem Cx.Ok.nofr(ok:X.Ok)(e:X.base.get? b=some o):b∉X.fs:=λq=>by
 have:=(ok.funs.mem q).1;rw[e]at this;cases this
theorem Inv.bs(I:Inv X pins σ H s):∀b o,X.base.get? b=some o->s.heap.get? b=some o/\H b=none:=λb o e=>
 ⟨I.base.keep b o (I.ok.bs b o e).1 (I.ok.bs b o e).2 (I.ok.nofr e) (I.ok.noex b o e),I.base.free b o (I.ok.bs b o e).1 (I.ok.bs b o e).2 (I.ok.noex b o e)⟩
theorem Inv.bk(I:Inv X pins σ H s):∀b o,X.base.get? b=some o->s.heap.get? b=some o:=λb o e=>(I.bs b o e).1
theorem Inv.mod(I:Inv X pins σ H s):Mod X.K X.mg X.base:=I.ok.mod
theorem Inv.kIn(I:Inv X pins σ H s):X.K.In s.heap:=I.ok.mod.kin.keeps I.bk
theorem Inv.lt(I:Inv X pins σ H s):X.env.locals<s.heap.objs.size:=let ⟨_,hn,_⟩:=I.loc;hn.lt
theorem Inv.sz(I:Inv X pins σ H s):X.s₀.heap.objs.size<=s.heap.objs.size:=zaL I.ok.above (Nat.le_of_lt I.lt)
theorem Inv.nofs(I:Inv X pins σ H s)(h:s.heap.objs.size<=a):a∉X.fs:=λq=>by
 obtain⟨_,o,z,_⟩:=I.ok.funs.mem q;exact absurd (zaX (zao z) (zaL I.sz h)) (zb3 _)
theorem Inv.cne(I:Inv X pins σ H s):∀x c,X.env.cells.lookup x=some c->c≠X.env.locals:=λx c e z=>by
 obtain⟨v,o,F,hd⟩:=I.cell x c e;obtain⟨m,⟨o',es,ep,q,B,_⟩,_⟩:=I.loc;rw[z,q]at F;cases F;rw[B]at hd;cases hd
theorem Inv.funs(I:Inv X pins σ H s):s.heap.FunFrames X.base X.outer:=by
 have all:∀(l:List Env),(∀b∈frs l,b∈X.fs)->X.s₀.heap.FunFrames X.base l->s.heap.FunFrames X.base l:=by
  intro l;induction l with
  | nil=>intro _ _;trivial
  | cons env r ih=>
   intro hs G;obtain⟨N,⟨L,o,q,M,U,hd⟩,J⟩:=G;have B:L∈X.fs:=hs L (by unfold frs;rw[zdX,q];exact zat);obtain⟨W,e⟩:=I.base.slot L o U (I.ok.frf L B) B λz=>I.ok.exfs L z B
   exact⟨N,⟨L,_,q,M,e,hd⟩,ih (λb F=>hs b (by unfold frs;rw[zdX,q];exact zap _ F)) J⟩
 exact all X.outer (λ_ F=>F) I.ok.funs
theorem Inv.stack(I:Inv X pins σ H s):s.heap.FunFrames X.base X.stack:=by
 rcases I.ok.stk with e|⟨e,z⟩
 ·rw[e];exact I.funs
 ·rw[e]
  obtain⟨m,q,_⟩:=I.loc;refine .cons (by rw[I.ok.kind];decide) z q ?_ I.funs;exact Heap.get?_none_of_le (zaL I.ok.bsz I.ok.above)
theorem Inv.stkSub(I:Inv X pins σ H s):∀b∈frs X.stack,b∈X.env.locals::X.fs:=λb q=>by
 rcases I.ok.stk with e|⟨e,z⟩
 ·rw[e]at q;exact zap _ q
 ·rw[e]at q
  unfold frs at q;rw[zdX,z]at q;exact q
theorem Inv.stkFree(I:Inv X pins σ H s):∀b∈frs X.stack,H b=none:=λb q=>by
 rcases List.mem_cons.mp (I.stkSub b q)with e|q
 ·rw[e];exact I.free
 ·obtain⟨_,o,B,_⟩:=I.ok.funs.mem q
  exact I.base.free b o B (I.ok.frf b q) λz=>I.ok.exfs b z q
theorem Inv.step{g':Array GenState}{t':Nat}{d':Drawn}{ch:List Addr}(I:Inv X pins σ H s)
  (G:∀b∈ch,(b∈X.ex\/X.s₀.heap.objs.size<=b)/\b≠X.env.locals/\(∀x c,X.env.cells.lookup x=some c->c≠b)/\∀p∈X.pn++pins,p.1≠b)
  (B:∀b o,b≠X.env.locals->b∉X.fs->b∉ch->s.heap.get? b=some o->H b=none->h'.get? b=some o)
  (U:∀b o,b≠X.env.locals->b∈X.fs->b∉ch->s.heap.get? b=some o->H b=none->∃sl,h'.get? b=some {o with slots:=sl}) (free:∀b o,b∉ch->s.heap.get? b=some o->H b=none->H' b=none)
  (there:∀b o,b∉ch->s.heap.get? b=some o->∃o',h'.get? b=some o')
  (tups:∀b xs,H b=some (.tup xs)->H' b=some (.tup xs)) (aa:∀b o u,H b=some (.frz o u)->H' b=some (.frz o u)) (ab:∀b ps,H b=some (.tbl ps)->∃more,H' b=some (.tbl (ps++more)))
  (ns:∀m,s.heap.Ns X.env.locals m->h'.Ns X.env.locals m) (ag:HOk X.prog X.w H' h') (hg:zbO g') :
  Inv X pins σ H' {s with heap:=h',gens:=g',drawn:=d',toks:=t'}:=by
 have ad:∀b o,X.s₀.heap.get? b=some o->b≠X.env.locals:=λb o e=>zaF (zaX (zao e) I.ok.above)
 have N:∀b o,X.s₀.heap.get? b=some o->b∉X.ex->b∉ch:=λb o e hx W=>by
  rcases(G b W).1 with z|z
  ·exact hx z
  ·exact absurd (zaX (zao e) z) (zb3 _)
 have J:∀x c,X.env.cells.lookup x=some c->∀v,s.heap.IsCell c v->h'.IsCell c v:=by
  rintro x c e v ⟨o,Y,hd⟩;have F:c∉ch:=λz=>(G c z).2.2.1 x c e rfl
  by_cases hc:c∈X.fs
  ·obtain⟨sl,q⟩:=U c o (I.cne x c e) hc F Y (I.freeC x c e)
   exact⟨_,q,hd⟩
  ·exact⟨o,B c o (I.cne x c e) hc F Y (I.freeC x c e),hd⟩
 refine⟨I.ok,I.os,hg,⟨λb o e n W hx=>?_,λb o e n W hx=>?_,λb o e n hx=>?_,λb o e hx=>?_,λb xs e=>tups b xs (I.base.tups b xs e),λb o xs e=>aa b o xs (I.base.frzs b o xs e),λb ps e=>?_⟩,?_,λx c e=>?_,?_,λx c e=>?_,λp hp=>?_,ag,I.len⟩
 ·exact B b o (ad b o e) W (N b o e hx) (I.base.keep b o e n W hx) (I.base.free b o e n hx)
 ·obtain⟨sl,M⟩:=I.base.slot b o e n W hx
  obtain⟨af,e2⟩:=U b _ (ad b o e) W (N b o e hx) M (I.base.free b o e n hx);exact⟨af,e2⟩
 ·obtain⟨o',M⟩:=I.base.there b o e hx
  exact free b o' (N b o e hx) M (I.base.free b o e n hx)
 ·obtain⟨o',M⟩:=I.base.there b o e hx
  exact there b o' (N b o e hx) M
 ·obtain⟨m1,M⟩:=I.base.tbls b ps e
  obtain⟨m2,e2⟩:=ab b _ M;exact⟨m1++m2,by rw[e2,Array.append_assoc]⟩
 ·obtain⟨m,hn,hl⟩:=I.loc
  refine⟨m,ns m hn,λi x v M e2 e3=>?_⟩;obtain⟨u,r,l⟩:=hl i x v M e2 e3;refine⟨u,r,?_⟩;rcases l with l|⟨k,c,e,z⟩
  ·exact .inl l
  ·exact .inr ⟨k,c,e,J x c e _ z⟩
 ·obtain⟨v,z⟩:=I.cell x c e
  exact⟨v,J x c e v z⟩
 ·obtain⟨m,⟨o,_,_,Y,_⟩,_⟩:=I.loc
  exact free _ o (λz=>(G _ z).2.1 rfl) Y I.free
 ·obtain⟨v,o,Y,hd⟩:=I.cell x c e
  exact free c o (λz=>(G c z).2.2.1 x c e rfl) Y (I.freeC x c e)
 ·obtain⟨e,n,ne,nf,d⟩:=I.pin p hp
  have F:p.1∉ch:=λz=>(G p.1 z).2.2.2 p hp rfl
  exact⟨B p.1 p.2 ne nf F e n,free p.1 p.2 F e n,ne,nf,d⟩
theorem Inv.un{t':Nat}(I:Inv X pins σ H s)(u:Un X.fs [] H H' s.heap h')(G:HOk X.prog X.w H' h'):Inv X pins σ H' {s with heap:=h',toks:=t'}:=by
 obtain⟨m,⟨o,es,ep,M,r⟩,_⟩:=id I.loc;obtain⟨sl,W⟩:=u.any M I.free (by simp);exact I.step (g':=s.gens) (d':=s.drawn) (ch:=[]) (λ_ z=>nomatch z) (λb o _ J _ e n=>u.keep b o e n J (by simp)) (λb o _ J _ e n=>u.slot b o e n J (by simp)) (λb o _ e n=>u.free b o e n (by simp)) (λb o _ e=>u.there b o e (by simp)) u.tups u.frzs u.tbls (λY U=>by
  obtain⟨o',F,B,q,N⟩:=U;rw[M]at q;cases q;exact⟨_,F,B,W,N⟩) G I.bare
theorem Inv.call{g':Array GenState}{t':Nat}{d':Drawn}{ch:List Addr}(I:Inv X pins σ H s)(u:Un (frs X.stack) ch H H' s.heap h')(N:HOk X.prog X.w H' h')(hg:zbO g')
  (F:∀b∈ch,(b∈X.ex\/X.s₀.heap.objs.size<=b)/\b≠X.env.locals/\(∀x c,X.env.cells.lookup x=some c->c≠b)/\∀p∈X.pn++pins,p.1≠b) :
  Inv X pins σ H' {s with heap:=h',gens:=g',drawn:=d',toks:=t'}:=by
 obtain⟨m,⟨o,es,ep,U,r⟩,_⟩:=id I.loc;obtain⟨sl,J⟩:=u.any U I.free λz=>(F _ z).2.1 rfl
 exact I.step (ch:=ch) F (λb o J hb q e n=>u.keep b o e n (λz=>(List.mem_cons.mp (I.stkSub b z)).elim J hb) q) (λb o _ _ q e n=>u.any e n q) (λb o q e n=>u.free b o e n q) (λb o q e=>u.there b o e q) u.tups u.frzs u.tbls (λm' Y=>by
  obtain⟨o',M,G,B,W⟩:=Y;rw[U]at B;cases B;exact⟨_,M,G,J,W⟩) N hg
theorem Inv.turned{t':Nat}{it:Addr}(I:Inv X pins σ H s)(k:∀b o,b≠it->s.heap.get? b=some o->h'.get? b=some o)(J:H it=none)(G:it≠X.env.locals)
  (h1:it∈X.ex\/X.s₀.heap.objs.size<=it) (h2:∀x c,X.env.cells.lookup x=some c->c≠it) (U:∀p∈X.pn++pins,p.1≠it):Inv X pins σ H {s with heap:=h',toks:=t'}:=by
 have F:∀b u,H b=some u->b≠it:=λb u e z=>by rw[z,J]at e;cases e
 refine I.step (g':=s.gens) (d':=s.drawn) (ch:=[it]) (λb W=>?_) (λb o _ _ B e _=>k b o (λz=>B (by simp[z])) e) (λb o _ _ B e _=>⟨o.slots,k b o (λz=>B (by simp[z])) e⟩) (λ_ _ _ _ n=>n)
  (λb o B e=>⟨o,k b o (λz=>B (by simp[z])) e⟩) (λ_ _ e=>e) (λ_ _ _ e=>e) (λb ps e=>⟨#[],by rw[e];simp⟩) (λm M=>?_) (λb u e=>?_) I.bare
 ·have e:b=it:=by simpa using W
  subst e;exact⟨h1,G,h2,U⟩
 ·obtain⟨o,es,ep,N,r⟩:=M
  exact⟨o,es,ep,k _ o (zaU G) N,r⟩
 ·refine(I.hok b u e).stay (λc v B q=>k c v ?_ q) (λ_ q=>q) λ_ _ q=>q
  rcases B with z|z
  ·rw[z];exact F b u e
  ·exact F c _ z
theorem Inv.tok(I:Inv X pins σ H s)(t:Nat):Inv X pins σ H {s with toks:=t}:=I.un (h':=s.heap) (t':=t) Un.refl I.hok
theorem Inv.kept(I:Inv X pins σ H s)(k:∀b u,s.heap.get? b=some u->h'.get? b=some u):Inv X pins σ H {s with heap:=h',toks:=t'}:=I.un (Un.kept k) (I.hok.kept k)
theorem Inv.laid(I:Inv X pins σ H s)(k:∀b u,s.heap.get? b=some u->h'.get? b=some u)(q:s.heap.objs.size<=a)(new:ObjOk X.prog X.w (upd H a o) h' a o) :
  Inv X pins σ (upd H a o) {s with heap:=h',toks:=t'}:=I.un (Un.laid k q (I.hok.fresh q)) (I.hok.laid k q new)
theorem Inv.write(I:Inv X pins σ H s)(B:Z5 (H x))(z:e=x\/H e=some (.own x))(k:∀b u,b≠e->s.heap.get? b=some u->h'.get? b=some u)(q:∃u,h'.get? e=some u)
  (new:ObjOk X.prog X.w (upd H x o) h' x o):Inv X pins σ (upd H x o) {s with heap:=h',toks:=t'}:=I.un (Un.write B z k q) (I.hok.write B z k q new)
theorem Inv.pins_of(I:Inv X pins σ H s)(h:∀p∈pins',s.heap.get? p.1=some p.2/\H p.1=none/\p.1≠X.env.locals/\p.1∉X.fs/\∀v,p.2.data≠.cell v):Inv X pins' σ H s:=
 ⟨I.ok,I.os,I.bare,I.base,I.loc,I.cell,I.free,I.freeC,λp q=>(List.mem_append.mp q).elim (λz=>I.pin p (zbv _ z)) (h p),I.hok,I.len⟩
theorem AF{N:List Str}(q:N.Nodup){i j:Nat}{x:Str}(a:N[i]?=some x)(b:N[j]?=some x):i=j:=by
 obtain⟨h1,B⟩:=List.getElem?_eq_some_iff.mp a;obtain⟨h2,z⟩:=List.getElem?_eq_some_iff.mp b;exact(zdY q).mp (B.trans z.symm)
theorem uO{M:Model}{A:zam}{E:Value->zad->Prop}{i:Nat}{x:Str}{v:V}{u:Value}{Q:Unit->zad->Prop}(I:Inv X pins σ H s)(hN:X.N.Nodup)(hi:X.N[i]?=some x)(hx:Loc X.env.scope x)(r:RelV v u)
  (h:∀s',Inv X pins (σ.set i (some v)) H s'->(∃a,za4 a s.heap s'.heap/\(a=X.env.locals\/X.env.cells.lookup x=some a))->Q () s') (hf:X.fn x=true\/X.env.scope.names.lookup x=some .local:=by first|exact .inl rfl|exact .inr rfl|assumption):wpAny M A (storeName X.env x u) Q E s:=by
 obtain⟨m,hn,hl⟩:=id I.loc;have ae:(X.env.scope.kind == .class || (X.env.scope.kind == .module && X.env.locals != X.env.globals))=false:=by rw[I.ok.kind];rfl
 have Y:i<σ.length:=by rw[I.len];exact(List.getElem?_eq_some_iff.mp hi).1
 have cne:=I.cne;have B:∀ {a:Addr} {h':Heap},(∃o,s.heap.get? a=some o/\H a=none)->za4 a s.heap h'->HOk X.prog X.w H h':=λ{a h'} ha hs b ob e=>by
  obtain⟨_,_,J⟩:=ha;refine(I.hok b ob e).stay (λc w' G q=>(hs.2 c ?_).trans q) (λ_ q=>q) λ_ _ q=>q
  rintro rfl;rcases G with rfl|G
  ·rw[J]at e;cases e
  ·rw[J]at G;cases G
 rcases hx with W|W
 ·refine wpAny_storeName_local W hn (λh' au hs=>?_) ae
  obtain⟨oL,_,_,an,_⟩:=id hn;refine h _ ⟨I.ok,I.os,I.bare,⟨λb o e n hb hx=>?_,λb o e n hb hx=>?_,I.base.free,λb o e hx=>?_,I.base.tups,I.base.frzs,I.base.tbls⟩,⟨_,au,λj y v' F U e3=>?_⟩,λy c e=>?_,I.free,I.freeC,λp hp=>?_,B ⟨oL,an,I.free⟩ hs,by simpa using I.len⟩ ⟨_,hs,.inl rfl⟩
  ·exact(hs.2 b (zaF (zaX (zao e) I.ok.above))).trans (I.base.keep b o e n hb hx)
  ·obtain⟨sl,F⟩:=I.base.slot b o e n hb hx
   exact⟨sl,(hs.2 b (zaF (zaX (zao e) I.ok.above))).trans F⟩
  ·obtain⟨o',F⟩:=I.base.there b o e hx
   exact⟨o',(hs.2 b (zaF (zaX (zao e) I.ok.above))).trans F⟩
  ·by_cases hj:j=i
   ·subst hj
    rw[hi]at F;cases F;rw[zcx Y]at U;cases U;exact⟨u,r,.inl ⟨W,by simp⟩⟩
   ·rw[zbP (zaU hj)]at U
    obtain⟨u',r',q⟩:=hl j y v' F U e3;refine⟨u',r',?_⟩;rcases q with⟨k,e⟩|⟨k,c,e,z⟩
    ·refine .inl ⟨k,?_⟩
     have:y≠x:=λe=>hj (AF hN F (e ▸ hi))
     simp[this,e]
    ·exact .inr ⟨k,c,e,z.sameBut hs (cne y c e)⟩
  ·obtain⟨w',z⟩:=I.cell y c e
   exact⟨w',z.sameBut hs (cne y c e)⟩
  ·obtain⟨e,n,ne,nf,d⟩:=I.pin p hp
   exact⟨(hs.2 p.1 ne).trans e,n,ne,nf,d⟩
 ·have ac:X.fn x=true:=by
   rcases hf with z|z
   ·exact z
   ·rw[z]at W;cases W
  obtain⟨c,G⟩:=I.ok.has x (.inl W);obtain⟨w',z⟩:=I.cell x c G;refine wpAny_storeName_cell I.ok.kind W G z (λh' ad hs=>?_);obtain⟨oc,af,ah⟩:=id z;refine h {s with heap:=h'} ⟨I.ok,I.os,I.bare,⟨λb o e n hb hx=>?_,λb o e n hb hx=>?_,I.base.free,λb o e hx=>?_,I.base.tups,I.base.frzs,I.base.tbls⟩,⟨m,hn.sameBut hs (zaU (cne x c G)),λj y v' F U e3=>?_⟩,λy c' e=>?_,I.free,I.freeC,λp hp=>?_,B ⟨oc,af,I.freeC x c G⟩ hs,by simpa using I.len⟩ ⟨c,hs,.inr G⟩
  ·exact(hs.2 b (zaF (zaX (zao e) (I.ok.cab x c ac G)))).trans (I.base.keep b o e n hb hx)
  ·obtain⟨sl,F⟩:=I.base.slot b o e n hb hx
   exact⟨sl,(hs.2 b (zaF (zaX (zao e) (I.ok.cab x c ac G)))).trans F⟩
  ·obtain⟨o',F⟩:=I.base.there b o e hx
   exact⟨o',(hs.2 b (zaF (zaX (zao e) (I.ok.cab x c ac G)))).trans F⟩
  ·by_cases hj:j=i
   ·subst hj
    rw[hi]at F;cases F;rw[zcx Y]at U;cases U;exact⟨u,r,.inr ⟨.inl W,c,G,ad⟩⟩
   ·rw[zbP (zaU hj)]at U
    obtain⟨u',r',q⟩:=hl j y v' F U e3;refine⟨u',r',?_⟩;rcases q with q|⟨k,c',e,z'⟩
    ·exact .inl q
    ·refine .inr ⟨k,c',e,z'.sameBut hs ?_⟩
     rintro rfl;exact hj (AF hN F (I.ok.inj _ _ _ e G ▸ hi))
  ·by_cases ag:c'=c
   ·subst ag;exact⟨_,ad⟩
   ·obtain⟨w2,z2⟩:=I.cell y c' e
    exact⟨w2,z2.sameBut hs ag⟩
  ·obtain⟨e,n,ne,nf,d⟩:=I.pin p hp
   refine⟨(hs.2 p.1 ?_).trans e,n,ne,nf,d⟩;intro q;rw[q,af]at e;have q':oc=p.2:=zaz e;exact d w' (by rw[<- q'];exact ah)
theorem AN(I:Inv X pins σ H s)(q:X.N.Nodup)(hi:X.N[i]?=some x)(hx:Loc X.env.scope x)(r:RelV v u)
  (h:∀s',Inv X pins (σ.set i (some v)) H s'->Q () s') (z:X.fn x=true\/X.env.scope.names.lookup x=some .local:=by first|exact .inl rfl|exact .inr rfl|assumption):wpAny M A (storeName X.env x u) Q E s:=
 uO I q hi hx r (λs' B _=>h s' B) z
theorem Inv.call'(I:Inv X pins σ H s)(F:s'.os=s.os)(u:Un (frs X.stack) ch H H' s.heap s'.heap)(q:HOk X.prog X.w H' s'.heap)(B:zbO s'.gens)
  (z:∀b∈ch,(b∈X.ex\/X.s₀.heap.objs.size<=b)/\b≠X.env.locals/\(∀x c,X.env.cells.lookup x=some c->c≠b)/\∀p∈X.pn++pins,p.1≠b):Inv X pins σ H' s':=by
 obtain⟨h',g',d',t',o'⟩:=s';have e:o'=s.os:=F;subst e;exact I.call (g':=g') (t':=t') (d':=d') u q B z
end
abbrev XK:=Value->Option Addr->Hp->Prop
abbrev St:=List (Option V)
abbrev VK:=V->Hp->Prop
abbrev TE:=St->Hp->VK->Prop
abbrev TT:=St->Hp->(Bool->Hp->Prop)->Prop
abbrev TA:=St->Hp->(List V->Hp->Prop)->Prop
structure Ends where
 nx:St->Hp->Prop
 rt:VK
 bk:St->Hp->Prop:=λ_ _=>False
 ct:St->Hp->Prop:=λ_ _=>False
abbrev TS:=Ends->St->Hp->Prop
inductive EP(X:Cx)(pins:List (Addr×Obj))(σ:St)(Q:VK)(u:Value)(s':zad):Prop
 | mk (v:V) (H':Hp) (i:Inv X pins σ H' s') (r:RelV v u) (q:Q v H'):EP X pins σ Q u s'
inductive TP(X:Cx)(pins:List (Addr×Obj))(σ:St)(Q:Bool->Hp->Prop)(b:Bool)(s':zad):Prop
 | mk (H':Hp) (i:Inv X pins σ H' s') (q:Q b H'):TP X pins σ Q b s'
inductive AP(X:Cx)(pins:List (Addr×Obj))(σ:St)(Q:List V->Hp->Prop)(us:List Value)(s':zad):Prop
 | mk (vs:List V) (H':Hp) (i:Inv X pins σ H' s') (r:Vals vs us) (q:Q vs H'):AP X pins σ Q us s'
def SP(X:Cx)(pins:List (Addr×Obj))(D:Ends)(f:Flow)(s':zad):Prop:=
 match f with
 | .next=>∃σ' H',Inv X pins σ' H' s'/\D.nx σ' H'
 | .brk=>∃σ' H',Inv X pins σ' H' s'/\D.bk σ' H'
 | .cont=>∃σ' H',Inv X pins σ' H' s'/\D.ct σ' H'
 | .ret u=>∃v σ' H',Inv X pins σ' H' s'/\RelV v u/\D.rt v H'
def PE(X:Cx)(e:Expr)(t:TE):Prop:=
 ∀(pins:List (Addr×Obj)) (s:zad) (σ:St) (H:Hp) (Q:VK),Inv X pins σ H s->t σ H Q->wpAny (model X.prog X.w) X.A (eval e X.env) (EP X pins σ Q) X.xe s
def PT(X:Cx)(e:Expr)(t:TT):Prop:=
 ∀(pins:List (Addr×Obj)) (s:zad) (σ:St) (H:Hp) (Q:Bool->Hp->Prop),Inv X pins σ H s->t σ H Q->wpAny (model X.prog X.w) X.A (isTrue e X.env (eval e X.env)) (TP X pins σ Q) X.xe s
def PW(X:Cx)(e:Expr)(t:TT):Prop:=
 ∀(whole:Sem Value) (pins:List (Addr×Obj)) (s:zad) (σ:St) (H:Hp) (Q:Bool->Hp->Prop),Inv X pins σ H s->t σ H Q->wpAny (model X.prog X.w) X.A (isTrue e X.env whole) (TP X pins σ Q) X.xe s
theorem PW.pt{X:Cx}{e:Expr}{t:TT}(h:PW X e t):PT X e t:=h _
def PA(X:Cx)(es:List Expr)(t:TA):Prop:=
 ∀(pos:Pos) (pins:List (Addr×Obj)) (s:zad) (σ:St) (H:Hp) (Q:List V->Hp->Prop),Inv X pins σ H s->t σ H Q->wpAny (model X.prog X.w) X.A (spliced (zaG pos (zag es X.env))) (AP X pins σ Q) X.xe s
def PS(X:Cx)(st:Stmt)(t:TS):Prop:=
 ∀(pins:List (Addr×Obj)) (s:zad) (σ:St) (H:Hp) (D:Ends),Inv X pins σ H s->t D σ H->wpAny (model X.prog X.w) X.A (exec st X.env) (SP X pins D) X.xe s
def PSs(X:Cx)(st:List Stmt)(t:TS):Prop:=
 ∀(pins:List (Addr×Obj)) (s:zad) (σ:St) (H:Hp) (D:Ends),Inv X pins σ H s->t D σ H->wpAny (model X.prog X.w) X.A (execs st X.env) (SP X pins D) X.xe s
theorem cS{z:Type}{t:Sem z}{Q q:z->zad->Prop}{M:Model}{A:zam}{E:Value->zad->Prop}{s:zad}(h:wpAny M A t Q E s)(B:∀a s,Q a s->q a s):wpAny M A t q E s:=za7 h B λ_ _ x=>x
section
variable {X:Cx}
def cZ(i:Nat):TE:=λσ H Q=>∃v,σ[i]?=some (some v)/\Q v H
def tC(v:V):TE:=λ_ H Q=>Q v H
theorem VS(U:X.N[i]?=some x)(J:W2 X.env.scope x)(hd:(x == ("__debug__" : Str))=false:=by decide)(B:(x == ("__classdict__" : Str))=false:=by decide):PE X (.Name x pos) (cZ i):=by
 intro pins s σ H Q I h;obtain⟨v,e,h⟩:=h;obtain⟨m,G,M⟩:=I.loc;obtain⟨u,r,l⟩:=M i x v U e J;have fin:EP X pins σ Q u s:=⟨v,H,I,r,h⟩;rcases l with⟨z,W⟩|⟨z,c,F,q⟩
 ·exact wpAny_Name (wpAny_loadName_local I.ok.kind z G W fin) hd
 ·rcases z with z|z
  ·exact wpAny_Name (wpAny_loadName_cell I.ok.kind z F q fin) hd
  ·exact wpAny_Name (wpAny_loadName_free I.ok.kind z F q fin B) hd
theorem VY{i j pos}:PE X (.Constant (.int i) j pos) (tC (.int i)):=λ_ _ _ H _ I h=>wpAny_Constant_int ⟨.int i,H,I.tok _,⟨_,rfl⟩,h⟩
theorem XJ{b j pos}:PE X (.Constant (.bool b) j pos) (tC (.bl b)):=λ_ _ _ H _ I h=>Constant_bool ⟨.bl b,H,I,rfl,h⟩
theorem UX{j pos}:PE X (.Constant .none j pos) (tC .non):=λ_ _ _ H _ I h=>Constant_none ⟨.non,H,I,rfl,h⟩
theorem UV{x j pos}:PE X (.Constant (.str x) j pos) (tC (.str x)):=λ_ _ _ H _ I h=>Calls.Constant_str ⟨.str x,H,I.tok _,⟨_,rfl⟩,h⟩
def Gl(X:Cx)(x:Str):Prop:=X.env.kindOf x=some .globalImplicit
theorem EB(I:Inv X pins σ H s)(z:Gl X x)(q:X.mg x=some u)(h:Q u s)
  (hd:(x == ("__debug__" : Str))=false:=by decide):wpAny (model X.prog X.w) X.A (eval (.Name x pos) X.env) Q E s:=
 Calls.Name_function_global I.ok.kind z (Calls.loadGlobal_global (by rw[I.ok.glob];exact I.mod.glob.keeps I.bk) q h) hd
theorem lI{E:Value->zad->Prop}{pins:List (Addr×Obj)}{s:zad}{σ:St}{H:Hp}{x:Str}{u:Value}{pos:Pos}{Q:Value->zad->Prop}(I:Inv X pins σ H s)(F:Gl X x)(B:X.mg x=none)(z:zaH x=some u)(h:Q u s)
  (q:x ≠ "__name__" := by decide) (hd:(x == ("__debug__" : Str))=false:=by decide):wpAny (model X.prog X.w) X.A (eval (.Name x pos) X.env) Q E s:=by
 obtain⟨G,h1,h2⟩:=I.mod.blt;exact Calls.Name_function_global I.ok.kind F (Calls.loadGlobal_builtin (by rw[I.ok.glob];exact I.mod.glob.keeps I.bk) B (by rw[I.ok.blt];exact h1.keeps I.bk) ((h2 x q).trans z) h) hd
theorem OG(F:Gl X x)(B:X.mg x=none)(z:zaH x=some u)(r:RelV v u)(q:x ≠ "__name__" := by decide)(hd:(x == ("__debug__" : Str))=false:=by decide):PE X (.Name x pos) (tC v):=
 λ_ _ _ H _ I h=>lI I F B z ⟨v,H,I,r,h⟩ q hd
variable {a b:Expr}{ta tb:TE}{pos:Pos}
def PC(X:Cx)(op:CmpOp)(a b:Expr)(t:TE):Prop:=
 ∀(pins:List (Addr×Obj)) (s:zad) (σ:St) (H:Hp) (Q:VK),Inv X pins σ H s->t σ H Q->
  wpAny (model X.prog X.w) X.A (eval a X.env) (λv q=>wpAny (model X.prog X.w) X.A (eval b X.env) (λu z=>wpAny (model X.prog X.w) X.A (zaA op v u) (EP X pins σ Q) X.xe z) X.xe q) X.xe s
def tB(t:TE):TT:=λσ H Q=>t σ H λx H1=>∃c,x=.bl c/\Q c H1
theorem T2{op:CmpOp}{t:TE}(h:PC X op a b t)(h1:zbQ op b=false:=by first|exact nobehind _ (by decide) (by decide)|rfl):PT X (.Compare a [op] [b] pos) (tB t):=by
 intro pins s σ H Q I hw;refine wpAny_isTrue_Compare1 (cS (h pins s σ H _ I hw) λv G h1=>cS h1 λu F h2=>cS h2 λc J ⟨x,H1,B,r1,z⟩=>?_) h1;obtain⟨d,rfl,q⟩:=z;cases r1;exact zcO ⟨H1,B,q⟩
theorem TR{e:Expr}{t:TE}(h:PE X e t)(G:∀z,isTrue e X.env z=(do let v <- z;standAt e.pos;zcg [v] (truthy v)):=by intro _;rfl):PT X e (tB t):=by
 intro pins s σ H Q I hw;refine isTrue_plain (cS (h pins s σ H _ I hw) λv J ⟨x,H1,F,r1,B⟩=>?_) (G _);obtain⟨d,rfl,q⟩:=B;cases r1;exact zcO ⟨H1,F,q⟩
variable {tA tB':TT}{rest:List Expr}
def qaA(t u:TT):TT:=λσ H Q=>t σ H λc H1=>if c=true then u σ H1 Q else Q false H1
def tOr(t u:TT):TT:=λσ H Q=>t σ H λc H1=>if c=true then Q true H1 else u σ H1 Q
def qaI(t:TT):TT:=λσ H Q=>t σ H λc H1=>Q (!c) H1
theorem QP(q:PT X a tA):PW X (.BoolOp .And [a] pos) tA:=by
 intro B pins s σ H Q I h;refine isTrue_and (cS (q pins s σ H Q I h) λc z e=>?_);cases c with
 | true=>exact isTrue_and_nil e
 | false=>exact e
theorem VT(q:PT X a tA):PW X (.BoolOp .Or [a] pos) tA:=by
 intro B pins s σ H Q I h;refine isTrue_or (cS (q pins s σ H Q I h) λc z e=>?_);cases c with
 | false=>exact isTrue_or_nil e
 | true=>exact e
theorem WG(F:PT X a tA)(J:PW X (.BoolOp .And (b::rest) pos) tB'):PW X (.BoolOp .And (a::b::rest) pos) (qaA tA tB'):=by
 intro B pins s σ H Q I h;refine isTrue_and (cS (F pins s σ H _ I h) λc G ⟨H1,z,q⟩=>?_);cases c with
 | true=>exact J B pins G σ H1 Q z q
 | false=>exact⟨H1,z,q⟩
theorem XH(F:PT X a tA)(J:PW X (.BoolOp .Or (b::rest) pos) tB'):PW X (.BoolOp .Or (a::b::rest) pos) (tOr tA tB'):=by
 intro B pins s σ H Q I h;refine isTrue_or (cS (F pins s σ H _ I h) λc G ⟨H1,z,q⟩=>?_);cases c with
 | true=>exact⟨H1,z,q⟩
 | false=>exact J B pins G σ H1 Q z q
theorem UB(z:PT X a tA):PT X (.UnaryOp .Not a pos) (qaI tA):=by
 intro pins s σ H Q I h;exact isTrue_not (cS (z pins s σ H (λc H1=>Q (!c) H1) I h) λ_ _ ⟨H',i,q⟩=>⟨H',i,q⟩)
def XI(ta tb:TE):TE:=λσ H Q=>ta σ H λx H1=>∃c,x=.bl c/\if c=true then tb σ H1 Q else Q (.bl false) H1
theorem UH{op}(h:PE X a t):PE X (.BoolOp op [a] pos) t:=λpins s σ H Q I hw=>BoolOp_one (h pins s σ H Q I hw)
theorem TY(B:PE X a ta)(G:PE X (.BoolOp .And (b::rest) pos) tb):PE X (.BoolOp .And (a::b::rest) pos) (XI ta tb):=by
 intro pins s σ H Q I h;refine BoolOp_and (cS (B pins s σ H _ I h) λv F ⟨x,H1,z,r1,q⟩=>?_);obtain⟨c,rfl,q⟩:=q;cases r1;refine zcO ?_;cases c with
 | true=>exact G pins F σ H1 Q z q
 | false=>exact⟨.bl false,H1,z,rfl,q⟩
def tIf(t:TT)(ta tb:TE):TE:=λσ H Q=>t σ H λc H1=>if c=true then ta σ H1 Q else tb σ H1 Q
theorem LA{c:Expr}(G:PT X c tA)(F:PE X a ta)(J:PE X b tb):PE X (.IfExp c a b pos) (tIf tA ta tb):=by
 intro pins s σ H Q I h;refine wpAny_IfExp (cS (G pins s σ H _ I h) λd q ⟨H1,B,z⟩=>?_);cases d with
 | true=>exact F pins q σ H1 Q B z
 | false=>exact J pins q σ H1 Q B z
end
def SqL(K:zae)(H:Hp)(a:Addr)(xs:List V):Prop:=
 Rd H a (.lst xs) \/
  ∃(o:Obj) (its:Array Value) (n:Nat),K.lookup a=some o/\o.cls=.type "list" /\ o.dict=none/\o.data=.seq its n/\its.size<=zaj/\Vals xs its.toList
def SqT(K:zae)(H:Hp)(a:Addr)(xs:List V):Prop:=
 Rd H a (.tup xs) \/
  ∃(o:Obj) (its:Array Value) (n:Nat),K.lookup a=some o/\o.cls=.type "tuple" /\ o.data=.seq its n/\its.size<=zaj/\Vals xs its.toList
noncomputable def qad:Value->Option V
 | .none=>some .non
 | .bool b=>some (.bl b)
 | .int i _=>some (.int i)
 | .str x _=>some (.str x)
 | .bytes b _=>some (.byt b)
 | .float b _=>some (.flt b)
 | .ref a=>some (.ref a)
 | .type n=>some (.ty n)
 | _=>none
theorem RelV.abs(r:RelV x u):qad u=some x:=by
 cases x with
 | non=>cases r;rfl
 | bl _=>cases r;rfl
 | int _=>obtain⟨t,rfl⟩:=r;rfl
 | str _=>obtain⟨t,rfl⟩:=r;rfl
 | byt _=>obtain⟨t,rfl⟩:=r;rfl
 | flt _=>obtain⟨t,rfl⟩:=r;rfl
 | ref _=>cases r;rfl
 | ty _=>cases r;rfl
theorem RelV.inj(r:RelV x u)(q:RelV y u):x=y:=zaz (r.abs.symm.trans q.abs)
theorem Vals.inj:∀ {xs ys:List V} {us:List Value},Vals xs us->Vals ys us->xs=ys
 | _,_,_,.nil,.nil=>rfl
 | _,_,_,.cons r t,.cons r' t'=>by rw[r.inj r',Vals.inj t t']
section
variable {X:Cx}{pins:List (Addr×Obj)}{σ:St}{H:Hp}{s:zad}{a:Addr}{xs ys:List V}
theorem SqL.of{K:zae}(h:H a=some (.lst xs)):SqL K H a xs:=.inl (.inl h)
theorem SqT.of{K:zae}(h:H a=some (.tup xs)):SqT K H a xs:=.inl (.inl h)
theorem Inv.list(I:Inv X pins σ H s)(h:SqL X.K H a xs):∃its:List Value,Vals xs its/\PlainL s.heap a its.toArray/\xs.length<=zaj:=by
 rcases h with h|⟨o,its,n,q,B,hd,hs,F,r⟩
 ·obtain⟨z,its,n,r,e⟩:=h.ok I.hok
  exact⟨its,r,⟨_,n,e,rfl,rfl,rfl⟩,z⟩
 ·refine⟨its.toList,r,⟨o,n,I.kIn a o q,B,hd,by simpa using hs⟩,?_⟩
  have e:=r.length;simp only[zbR]at e
  lia
theorem Inv.tuple(I:Inv X pins σ H s)(h:SqT X.K H a xs):∃its:List Value,Vals xs its/\IsTup s.heap a its.toArray/\xs.length<=zaj:=by
 rcases h with h|⟨o,its,n,q,B,hs,F,r⟩
 ·obtain⟨z,its,r,p⟩:=h.ok I.hok
  exact⟨its,r,p.tup,z⟩
 ·refine⟨its.toList,r,⟨o,I.kIn a o q,B,n,by simpa using hs⟩,?_⟩
  have e:=r.length;simp only[zbR]at e
  lia
theorem Inv.list_inj(I:Inv X pins σ H s)(h:SqL X.K H a xs)(h':SqL X.K H a ys):xs=ys:=by
 obtain⟨its,r,⟨o,n,e,_,_,d⟩,_⟩:=I.list h;obtain⟨its',z,⟨o',B,q,_,_,d'⟩,_⟩:=I.list h';rw[e]at q;cases q;rw[d]at d';injection d' with d1 _
 have:its=its':=by simpa using congrArg Array.toList d1
 subst this;exact r.inj z
theorem Inv.tuple_inj(I:Inv X pins σ H s)(h:SqT X.K H a xs)(h':SqT X.K H a ys):xs=ys:=by
 obtain⟨its,r,⟨o,e,_,n,d⟩,_⟩:=I.tuple h;obtain⟨its',z,⟨o',q,_,B,d'⟩,_⟩:=I.tuple h';rw[e]at q;cases q;rw[d]at d';injection d' with d1 _
 have:its=its':=by simpa using congrArg Array.toList d1
 subst this;exact r.inj z
end
abbrev Cx.wish(X:Cx)(E:Value->zad->Prop):Cx:={X with xe:=E}
abbrev Cx.nox(X:Cx):Cx:=X.wish λ_ _=>False
theorem Cx.Ok.wish{X:Cx}(ok:X.Ok)(E:Value->zad->Prop):(X.wish E).Ok:=
 ⟨ok.mod,ok.kind,ok.glob,ok.blt,ok.above,ok.inj,ok.has,ok.cab,ok.hd,ok.frames,ok.stk,ok.exf,ok.bs,ok.bsz,ok.noex,ok.exfs,ok.funs,ok.frf⟩
theorem Cx.Ok.unwish{X:Cx}{E:Value->zad->Prop}(ok:(X.wish E).Ok):X.Ok:=
 ⟨ok.mod,ok.kind,ok.glob,ok.blt,ok.above,ok.inj,ok.has,ok.cab,ok.hd,ok.frames,ok.stk,ok.exf,ok.bs,ok.bsz,ok.noex,ok.exfs,ok.funs,ok.frf⟩
section
variable {X:Cx}{pins:List (Addr×Obj)}{σ:St}{H:Hp}{s:zad}{E:Value->zad->Prop}
theorem Inv.wish(I:Inv X pins σ H s)(E:Value->zad->Prop):Inv (X.wish E) pins σ H s:=⟨I.ok.wish E,I.os,I.bare,I.base,I.loc,I.cell,I.free,I.freeC,I.pin,I.hok,I.len⟩
theorem Inv.unwish(I:Inv (X.wish E) pins σ H s):Inv X pins σ H s:=⟨I.ok.unwish,I.os,I.bare,I.base,I.loc,I.cell,I.free,I.freeC,I.pin,I.hok,I.len⟩
theorem SP.unwish(h:SP (X.wish E) pins D f s'):SP X pins D f s':=by
 cases f with
 | next=>obtain⟨z,H',I,q⟩:=h;exact⟨z,H',I.unwish,q⟩
 | brk=>obtain⟨z,H',I,q⟩:=h;exact⟨z,H',I.unwish,q⟩
 | cont=>obtain⟨z,H',I,q⟩:=h;exact⟨z,H',I.unwish,q⟩
 | ret u=>obtain⟨v,z,H',I,r,q⟩:=h;exact⟨v,z,H',I.unwish,r,q⟩
theorem PE.nox(h:PE X.nox e t):PE X e t:=λpins s σ H Q I hw=>
 za7 (h pins s σ H Q (I.wish _) hw) (λ_ _ ⟨v,H',B,r,q⟩=>⟨v,H',B.unwish,r,q⟩) λ_ _ z=>za8 z
theorem PT.nox(h:PT X.nox e t):PT X e t:=λpins s σ H Q I hw=>
 za7 (h pins s σ H Q (I.wish _) hw) (λ_ _ ⟨H',B,q⟩=>⟨H',B.unwish,q⟩) λ_ _ z=>za8 z
theorem PSs.nox{st:List Stmt}{t:TS}(h:PSs X.nox st t):PSs X st t:=λpins s σ H D I hw=>
 za7 (h pins s σ H D (I.wish _) hw) (λ_ _ q=>q.unwish) λ_ _ z=>za8 z
end
section
variable {X:Cx}{st:Stmt}{rest:List Stmt}{t u:TS}{e:Expr}{te:TE}{pos:Pos}
def X6:TS:=λD σ H=>D.nx σ H
def ZI(t u:TS):TS:=λD σ H=>t {D with nx:=u D} σ H
theorem ER:PSs X [] X6:=λ_ _ σ H _ I h=>zc5 ⟨σ,H,I,h⟩
theorem dN(h1:PS X st t)(h2:PSs X rest u):PSs X (st::rest) (ZI t u):=by
 intro pins s σ H D I h;refine wpAny_execs_cons (cS (h1 pins s σ H {D with nx:=u D} I h) λf B q=>?_);cases f with
 | next=>
  obtain⟨z,H',F,q⟩:=q;exact h2 pins B z H' D F q
 | ret v=>exact q
 | brk=>exact q
 | cont=>exact q
theorem iS(h1:PS X st t):PSs X [st] t:=by
 intro pins s σ H D I h;refine wpAny_execs_cons (cS (h1 pins s σ H D I h) λf z q=>?_);cases f with
 | next=>exact zc5 q
 | ret v=>exact q
 | brk=>exact q
 | cont=>exact q
theorem Inv.quiet(I:Inv X pins σ H s):interactive X.env=false:=by simp[interactive,I.ok.kind]
def XU(te:TE):TS:=λD σ H=>te σ H λ_ H1=>D.nx σ H1
theorem wK(q:PE X e te)(hs:zaD e none pos.line X.env=pure false:=by rfl):PS X (.Expr e pos) (XU te):=by
 intro pins s σ H D I h;exact wpAny_Expr_any (cS (q pins s σ H _ I h) λv F ⟨x,H1,z,r1,B⟩=>⟨σ,H1,z,B⟩) I.quiet hs
def ZK(te:TE):TS:=λD σ H=>te σ H D.rt
theorem MI(q:PE X e te):PS X (.Return (some e) pos) (ZK te):=by
 intro pins s σ H D I h;exact wpAny_Return_some (cS (q pins s σ H _ I h) λv F ⟨x,H1,z,r1,B⟩=>⟨x,σ,H1,z,r1,B⟩)
def qw(c:TT)(t u:TS):TS:=λD σ H=>c σ H λb H1=>if b=true then t D σ H1 else u D σ H1
theorem SE{c:Expr}{a b:List Stmt}{tc:TT}(G:PT X c tc)(F:PSs X a t)(J:PSs X b u):PS X (.If c a b pos) (qw tc t u):=by
 intro pins s σ H D I h;refine wpAny_If (cS (G pins s σ H _ I h) λd q ⟨H1,B,z⟩=>?_);cases d with
 | true=>exact F pins q σ H1 D B z
 | false=>exact J pins q σ H1 D B z
end
abbrev TG:=V->St->Hp->(St->Hp->Prop)->Prop
abbrev TJ:=List V->St->Hp->(St->Hp->Prop)->Prop
def PG(X:Cx)(q:Expr)(t:TG):Prop:=
 ∀(pins:List (Addr×Obj)) (s:zad) (σ:St) (H:Hp) (v:V) (u:Value) (Q:St->Hp->Prop),Inv X pins σ H s->RelV v u->t v σ H Q->
  wpAny (model X.prog X.w) X.A (zbe q X.env u) (λ_ s'=>∃z H',Inv X pins z H' s'/\Q z H') X.xe s
def PGs(X:Cx)(z:List Expr)(t:TJ):Prop:=
 ∀(pins:List (Addr×Obj)) (s:zad) (σ:St) (H:Hp) (vs:List V) (us:List Value) (Q:St->Hp->Prop),Inv X pins σ H s->Vals vs us->t vs σ H Q->
  wpAny (model X.prog X.w) X.A (assignInOrder ((za1 z X.env).map (·.2)) us) (λ_ s'=>∃q H',Inv X pins q H' s'/\Q q H') X.xe s
abbrev NG:=V->V->V->Hp->(Hp->Prop)->Prop
def RO(X:Cx)(t:NG):Prop:=
 ∀(pins:List (Addr×Obj)) (s:zad) (σ:St) (H:Hp) (o i v:V) (ov iv u:Value) (Q:Hp->Prop),Inv X pins σ H s->RelV o ov->RelV i iv->RelV v u->t o i v H Q->
  wpAny (model X.prog X.w) X.A (setItem ov iv u) (λ_ s'=>∃H',Inv X pins σ H' s'/\Q H') X.xe s
section
variable {X:Cx}{pos:Pos}
def i5(i:Nat):TG:=λv σ H Q=>Q (σ.set i (some v)) H
theorem gM(q:X.N.Nodup)(hi:X.N[i]?=some x)(hx:Loc X.env.scope x)(z:X.fn x=true\/X.env.scope.names.lookup x=some .local:=by first|exact .inl rfl|exact .inr rfl|assumption):PG X (.Name x pos) (i5 i):=by
 intro pins s σ H v u Q I r h;exact wpAny_assign_Name (AN I q hi hx r (λs' B=>⟨_,H,B,h⟩) z)
def qau:TJ:=λvs σ H Q=>vs=[]/\Q σ H
def SF(t:TG)(u:TJ):TJ:=λvs σ H Q=>∃v r,vs=v::r/\t v σ H λq H'=>u r q H' Q
theorem QL:PGs X [] qau:=by
 intro pins s σ H vs q Q I r h;obtain⟨e,h⟩:=h;subst e;cases r;exact assignInOrder_nil ⟨σ,H,I,h⟩
theorem jX{e:Expr}{es:List Expr}{t:TG}{u:TJ}(h1:PG X e t)(h2:PGs X es u)
  (hs:(za1 (e::es) X.env).map (·.2)=zbe e X.env::(za1 es X.env).map (·.2):=by rfl):PGs X (e::es) (SF t u):=by
 intro pins s σ H vs M Q I r h;obtain⟨v,J,z,h⟩:=h;subst z;cases r with
 | cons r rr=>
  rw[hs];refine assignInOrder_cons (cS (h1 pins s σ H _ _ _ I r h) λ_ B ⟨q,H1,G,F⟩=>?_);exact h2 pins B q H1 _ _ Q G rr F
def ZN(K:zae)(n:Nat)(t:TJ):TG:=λv σ H Q=>∃a xs,v=.ref a/\SqT K H a xs/\xs.length=n/\t xs σ H Q
theorem C6(N:X.calm=true)(h:PGs X es t)
  (B:(za1 es X.env).length=n:=by rfl) (q:(za1 es X.env).findIdx? (·.1)=none:=by rfl):PG X (.Tuple es k pos) (ZN X.K n t):=by
 intro pins s σ H v u Q I r hw;obtain⟨a,xs,J,U,F,hw⟩:=hw;subst J;cases r;obtain⟨its,z,G,W⟩:=I.tuple U;refine assign_Tuple_tuple (I.ok.hd N) G (by simp[B,<- F,z.length]) q λh' hx=>?_
 have M:Inv X pins σ H {s with heap:=h'}:=I.kept (t':=s.toks) λb o e=>hx b o (zaF (zao e)) e
 exact h pins _ σ H xs _ Q M (by simpa using z) hw
def WO(to z:TE)(t:NG):TG:=λv σ H Q=>to σ H λo H1=>z σ H1 λi H2=>t o i v H2 λq=>Q σ q
theorem MA{o i:Expr}{to B:TE}{t:NG}(ho:PE X o to)(hi:PE X i B)(hs:RO X t)
  (N:∀v, zbe (.Subscript o i pos) X.env v = (do
   let q <- zcg [v] (eval o X.env);let z <- zcg [v,q] (eval i X.env)
   standAt pos
   zcg [v,q,z] (setItem q z v)
   release [v,q,z] []):=by intro _;rfl):PG X (.Subscript o i pos) (WO to B t):=by
 intro pins s σ H v u Q I r h;rw[N];refine zaa (zbE (cS (ho pins s σ H _ I h) λq W ⟨x,H1,Y,r1,U⟩=>?_));refine zaa (zbE (cS (hi pins W σ H1 _ Y U) λz J ⟨y,H2,M,r2,q2⟩=>?_));refine zaa (zc6 (zaa (zbE (cS (hs pins J σ H2 x y v q z u _ M r1 r2 r q2) λ_ s3 ⟨F,I3,G⟩=>?_))));exact wpAny_release ⟨σ,F,I3,G⟩
def NH(te:TE)(g:TG):TS:=λD σ H=>te σ H λx H1=>g x σ H1 D.nx
theorem LW{tg e:Expr}{te:TE}{g:TG}(J:PE X e te)(F:PG X tg g)(hs:zc7 [tg] e pos.line X.env=pure false:=by rfl)(hw:zc8 [tg] e X.env=pure none:=by rfl)
  (h1:(za1 [tg] X.env).map (·.2)=[zbe tg X.env]:=by rfl):PS X (.Assign [tg] e pos) (NH te g):=by
 intro pins s σ H D I h;refine wpAny_Assign_stores (cS (J pins s σ H _ I h) λv z ⟨x,H1,G,r1,B⟩=>?_) hs hw;rw[h1];exact cS (F pins z σ H1 x v _ G r1 B) λ_ M q=>q
theorem M4{i:Nat}{x:Str}{e:Expr}{te:TE}{pos':Pos}(z:X.N.Nodup)(hi:X.N[i]?=some x)(hx:Loc X.env.scope x)(J:PE X e te)(hs:zaD e (some (.Name x pos')) pos.line X.env=pure false:=by rfl)(G:X.fn x=true\/X.env.scope.names.lookup x=some .local:=by first|exact .inl rfl|exact .inr rfl|assumption) :
  PS X (.Assign [.Name x pos'] e pos) (NH te (i5 i)):=by
 intro pins s σ H D I h;refine wpAny_Assign_Name (cS (J pins s σ H _ I h) λv U ⟨y,H1,F,r1,B⟩=>?_) hs;exact AN F z hi hx r1 (λM q=>⟨_,H1,q,B⟩) G
end
section
variable {X:Cx}{pos:Pos}
def UL(c:TT)(tb:TS):TS:=λD σ H=>∃W:Nat->St->Hp->Prop,(∃m,W m σ H)/\∀m σ H,W m σ H->
 c σ H λb H1=>if b=true then ∃N:St->Hp->Prop,(∀q H',N q H'->∃z,z<m/\W z q H')/\tb {D with nx:=N,ct:=N,bk:=D.nx} σ H1 else D.nx σ H1
theorem LQ{c:Expr}{B:List Stmt}{tc:TT}{tb:TS}(hp:zb4 (model X.prog X.w) X.A X.env X.xe)(hc:PT X c tc)(hb:PSs X B tb):PS X (.While c B [] pos) (UL tc tb):=by
 intro pins s σ H D I h;obtain⟨W,⟨m0,w0⟩,turn⟩:=h;refine wpAny_While (codeAny_whileLoop (λn s'=>∃G H',Inv X pins G H' s'/\W n G H') ?_ m0 ⟨σ,H,I,w0⟩);rintro n s1 ⟨z,H1,I1,w1⟩;refine zch hp (cS (hc pins s1 z H1 _ I1 (turn n z H1 w1)) λb s2 ⟨H2,I2,M⟩=>?_);cases b with
 | true=>
  obtain⟨N,hN,M⟩:=M;rw[if_pos rfl];refine zch hp (cS (hb pins s2 z H2 _ I2 M) λf s3 J=>?_);cases f with
  | next=>
   obtain⟨q,F,Y,U⟩:=J;obtain⟨m',hm,w3⟩:=hN q F U;exact⟨m',hm,q,F,Y,w3⟩
  | cont=>
   obtain⟨q,F,Y,U⟩:=J;obtain⟨m',hm,w3⟩:=hN q F U;exact⟨m',hm,q,F,Y,w3⟩
  | brk=>exact J
  | ret v=>exact J
 | false=>
  rw[if_neg zaB];exact zc5 ⟨z,H2,I2,M⟩
end
structure It where
 go:Nat->Hp->Prop
 yld:Nat->Hp->V->Hp->Prop
 stop:Nat->Hp->Prop
def kF(X:Cx)(pins:List (Addr×Obj))(H:Hp)(b:Addr):Prop:=
 H b=none/\b≠X.env.locals/\b∉X.fs/\(b∈X.ex\/X.s₀.heap.objs.size<=b)/\(∀x c,X.env.cells.lookup x=some c->c≠b)/\∀p∈X.pn++pins,p.1≠b
theorem Inv.fpOk(I:Inv X pins σ H s)(B:s.heap.objs.size<=b)(F:H' b=none):kF X pins H' b:=by
 refine⟨F,zbw (zaX I.lt B),I.nofs B,.inr (zaL I.sz B),λx c e z=>?_,λp G z=>?_⟩
 ·obtain⟨v,q⟩:=I.cell x c e
  exact absurd (zaX q.lt (by rw[z];exact B)) (zb3 _)
 ·exact absurd (zaX (zao (I.pin p G).1) (by rw[z];exact B)) (zb3 _)
structure Turn(P:zah)(w:World)(K:zae)(tg:Expr)(J:It)(fp:List Addr)(it:Addr)(tn:Nat->Heap->Prop):Prop where
 mem:it∈fp
 obj:∀i h,tn i h->∀b∈fp,∃o,h.get? b=some o/\∀v,o.data≠.cell v
 keep:∀i h h',tn i h->(∀b∈fp,∀o,h.get? b=some o->h'.get? b=some o)->tn i h'
 item:∀(X:Cx),X.prog=P->X.w=w->X.K=K->X.calm=true->∀(i:Nat) (pins:List (Addr×Obj)) (s:zad) (σ:St) (H:Hp) (E:Value->zad->Prop),Inv X pins σ H s->(∀b∈fp,kF X pins H b)->tn i s.heap->J.go i H->
  wpAny (model P w) X.A (za2 (.ref it)) (λr s1=>∃u,r=some u /\
   wpAny (model P w) X.A (zc9 tg (.ref it) u) (λ_ s2=>∃x H',Inv X pins σ H' s2/\RelV x u/\J.yld i H x H'/\tn (i+1) s2.heap/\∀b∈fp,H' b=none) E s1) E s
 done:∀(X:Cx),X.prog=P->X.w=w->X.K=K->X.calm=true->∀(i:Nat) (pins:List (Addr×Obj)) (s:zad) (σ:St) (H:Hp) (E:Value->zad->Prop),Inv X pins σ H s->(∀b∈fp,kF X pins H b)->tn i s.heap->J.stop i H->
  wpAny (model P w) X.A (za2 (.ref it)) (λr s1=>r=none/\Inv X pins σ H s1) E s
 self:∀(A:zam) (i:Nat) (s:zad) (Q:Value->zad->Prop) (E:Value->zad->Prop),tn i s.heap->Q (.ref it) s->wpAny (model P w) A (pyIter (.ref it)) Q E s
abbrev TI:=St->Hp->(It->Hp->Prop)->Prop
def PIE(X:Cx)(pins:List (Addr×Obj))(σ:St)(tg:Expr)(R:It->Hp->Prop)(q:Value)(z:zad):Prop:=
 ∃(it:Addr) (fp:List Addr) (tn:Nat->Heap->Prop) (J:It) (H':Hp),q=.ref it/\Inv X pins σ H' z/\Turn X.prog X.w X.K tg J fp it tn/\tn 0 z.heap/\(∀b∈fp,kF X pins H' b)/\R J H'
def PI(X:Cx)(tg q:Expr)(wi:TI):Prop:=
 ∀(pins:List (Addr×Obj)) (s:zad) (σ:St) (H:Hp) (R:It->Hp->Prop),Inv X pins σ H s->wi σ H R->
  wpAny (model X.prog X.w) X.A (eval q X.env) (λv z=>wpAny (model X.prog X.w) X.A (pyIter v) (PIE X pins σ tg R) X.xe z) X.xe s
theorem tZ(F:s.heap.get? it=some o)(B:o.cls=.type n)(hd:o.data=.fields vs)
    (z:["enumerate", "zip", "dict_itemiterator", "dict_reverseitemiterator", "odict_iterator", "itertools.zip_longest", "itertools.pairwise"].contains n=false) (q:Q () s):wpAny M A (zc9 tg (.ref it) u) Q E s:=by
  unfold zc9;cases tg <;> first
    | exact zaf q
    | (cases u <;> first
        | exact zaf q
        | (refine zaa (wpAny_load F ?_)
           rw[B,hd];show wpAny M A (if(["enumerate", "zip", "dict_itemiterator", "dict_reverseitemiterator", "odict_iterator", "itertools.zip_longest", "itertools.pairwise"].contains n && vs[0]? == some (za9 _))=true then _ else _) Q E s;rw[if_neg (by intro h;rw[z,Bool.false_and]at h;cases h)];exact zaf q))
def Itl(K:zae)(a:Addr):It:=
 ⟨λi H=>∃xs x,SqL K H a xs/\xs[i]?=some x,λi H x H'=>H'=H/\∀xs,SqL K H a xs->xs[i]?=some x,λi H=>∃xs,SqL K H a xs/\xs.length<=i⟩
def Itt(K:zae)(a:Addr):It:=
 ⟨λi H=>∃xs x,SqT K H a xs/\xs[i]?=some x,λi H x H'=>H'=H/\∀xs,SqT K H a xs->xs[i]?=some x,λi H=>∃xs,SqT K H a xs/\xs.length<=i⟩
noncomputable def qi(lo:Int)(n:Nat):It:=⟨λi _=>i<n,λi H x H'=>H'=H/\x=.int (lo+i),λi _=>n<=i⟩
theorem IP{P:zah}{w:World}{K:zae}{tg:Expr}(a it:Addr):Turn P w K tg (Itl K a) [it] it (λi h=>h.IsListIter it a i) where
 mem:=by simp
 obj:=λi h st b q=>by
  have e:b=it:=by simpa using q
  subst e;obtain⟨o,e,c,d⟩:=st;exact⟨o,e,λv z=>by rw[d]at z;cases z⟩
 keep:=λi h h' st k=>st.at λo e=>k it (by simp) o e
 item:=by
  intro X J hw W hc i pins s σ H E I G st hg;subst J hw W;obtain⟨xs,x,F,hx⟩:=hg;obtain⟨its,Y,p,hz⟩:=I.list F;obtain⟨u,hu,ru⟩:=Y.get hx;obtain⟨U,f1,f2,M,f4,N⟩:=G it (by simp);refine wpAny_pyNext_list_item st p.isList (x:=u) (by simpa using hu) λh' B sb=>?_
  have I1:Inv X pins σ H {s with heap:=h'}:=I.turned (t':=s.toks) (λb o q e=>(sb.2 b q).trans e) U f1 M f4 N;obtain⟨o,e,c,d⟩:=id B;exact⟨u,rfl,tZ (s:={s with heap:=h'}) e c d (by decide) ⟨x,H,I1,ru,⟨rfl,λys hy=>by rw[I.list_inj hy F];exact hx⟩,B,λb q=>(G b q).1⟩⟩
 done:=by
  intro X J hw W hc i pins s σ H E I G st hg;subst J hw W;obtain⟨xs,F,hx⟩:=hg;obtain⟨its,Y,p,hz⟩:=I.list F;obtain⟨U,f1,f2,M,f4,N⟩:=G it (by simp);have hl:=Y.length;exact wpAny_pyNext_list_end (I.ok.hd hc) st p.isList (by simp;lia) λh' eb=>⟨rfl,I.turned (t':=s.toks) (λb o q e=>eb b o q e) U f1 M f4 N⟩
 self:=λ_ _ _ _ _ st h=>wpAny_pyIter_listiter st h
theorem B0{P:zah}{w:World}{K:zae}{tg:Expr}(a it:Addr):Turn P w K tg (Itt K a) [it] it (λi h=>h.IsTupleIter it a i) where
 mem:=by simp
 obj:=λi h st b q=>by
  have e:b=it:=by simpa using q
  subst e;obtain⟨o,e,c,d⟩:=st;exact⟨o,e,λv z=>by rw[d]at z;cases z⟩
 keep:=λi h h' st k=>st.at λo e=>k it (by simp) o e
 item:=by
  intro X J hw W hc i pins s σ H E I G st hg;subst J hw W;obtain⟨xs,x,F,hx⟩:=hg;obtain⟨its,Y,p,hz⟩:=I.tuple F;obtain⟨u,hu,ru⟩:=Y.get hx;obtain⟨U,f1,f2,M,f4,N⟩:=G it (by simp);refine wpAny_pyNext_tuple_item st (show s.heap.IsTuple a its.toArray from p) (x:=u) (by simpa using hu) λh' B sb=>?_
  have I1:Inv X pins σ H {s with heap:=h'}:=I.turned (t':=s.toks) (λb o q e=>(sb.2 b q).trans e) U f1 M f4 N;obtain⟨o,e,c,d⟩:=id B;exact⟨u,rfl,tZ (s:={s with heap:=h'}) e c d (by decide) ⟨x,H,I1,ru,⟨rfl,λys hy=>by rw[I.tuple_inj hy F];exact hx⟩,B,λb q=>(G b q).1⟩⟩
 done:=by
  intro X J hw W hc i pins s σ H E I G st hg;subst J hw W;obtain⟨xs,F,hx⟩:=hg;obtain⟨its,Y,p,hz⟩:=I.tuple F;obtain⟨U,f1,f2,M,f4,N⟩:=G it (by simp);have hl:=Y.length;exact wpAny_pyNext_tuple_end (I.ok.hd hc) st (show s.heap.IsTuple a its.toArray from p) (by simp;lia) λh' eb=>⟨rfl,I.turned (t':=s.toks) (λb o q e=>eb b o q e) U f1 M f4 N⟩
 self:=λ_ _ _ _ _ st h=>wpAny_pyIter_tupleiter st h
theorem BM{P:zah}{w:World}{K:zae}{tg:Expr}(it:Addr)(lo:Int)(n:Nat):Turn P w K tg (qi lo n) [it] it (λi h=>IsRangeIter h it (lo+(i:Nat)*1) ((n:Int)-(i:Nat)) 1) where
 mem:=by simp
 obj:=λi h st b q=>by
  have e:b=it:=by simpa using q
  subst e;exact⟨_,st,λv z=>by
   have z':Data.fields _=Data.cell v:=z;cases z'⟩
 keep:=λi h h' st k=>k it (by simp) _ st
 item:=by
  intro X J hw G U i pins s σ H E I F st M;subst J hw G;obtain⟨Y,f1,f2,f3,N,f5⟩:=F it (by simp);have W:=Walks.range (prog:=X.prog) (w:=X.w) (I.ok.hd U) it lo 1 n;refine W.item i s _ _ M st λv h' tk hv B kk=>?_
  obtain⟨t,rfl⟩:=hv;have I1:Inv X pins σ H {s with heap:=h',toks:=tk}:=I.turned (λb o q e=>kk b o (by simpa using q) e) Y f1 f3 N f5;refine⟨_,rfl,tZ (s:={s with heap:=h',toks:=tk}) (n := "range_iterator") B rfl rfl (by decide) ⟨.int (lo+i),H,I1,⟨t,?_⟩,⟨rfl,rfl⟩,B,λb q=>(F b q).1⟩⟩;rw[Int.mul_one]
 done:=by
  intro X J hw G U i pins s σ H E I F st M;subst J hw G;obtain⟨Y,f1,f2,f3,N,f5⟩:=F it (by simp);exact wpAny_pyNext_range_end (I.ok.hd U) st (by have:n<=i:=M;lia) λh' eb=>⟨rfl,I.turned (t':=s.toks) (λb o q e=>eb b o q e) Y f1 f3 N f5⟩
 self:=λ_ _ _ _ _ st h=>wpAny_pyIter_rangeiter st h
section
variable {X:Cx}{tg:Expr}
def XS(K:zae)(tl:TE):TI:=λσ H R=>tl σ H λx H1=>∃a,x=.ref a/\(∃xs,SqL K H1 a xs)/\R (Itl K a) H1
def qaq(K:zae)(tl:TE):TI:=λσ H R=>tl σ H λx H1=>∃a,x=.ref a/\(∃xs,SqT K H1 a xs)/\R (Itt K a) H1
theorem N9{l:Expr}{tl:TE}(F:PE X l tl):PI X tg l (XS X.K tl):=by
 intro pins s σ H R I h;refine cS (F pins s σ H _ I h) λv z ⟨x,H1,B,r1,J⟩=>?_
 obtain⟨a,e,⟨xs,M⟩,q⟩:=J;subst e;cases r1;obtain⟨its,N,p,U⟩:=B.list M;refine zb5 p.isList ?_;refine⟨z.heap.objs.size,[z.heap.objs.size],_,_,H1,rfl,B.kept (t':=z.toks) λb o e=>zan _ e,IP a _,⟨_,zaE _ rfl,rfl,rfl⟩,λb G=>?_,q⟩;have e:b=z.heap.objs.size:=by simpa using G
 subst e;exact B.fpOk (zai _) (B.hok.fresh (zai _))
theorem UP{l:Expr}{tl:TE}(F:PE X l tl):PI X tg l (qaq X.K tl):=by
 intro pins s σ H R I h;refine cS (F pins s σ H _ I h) λv z ⟨x,H1,B,r1,J⟩=>?_
 obtain⟨a,e,⟨xs,M⟩,q⟩:=J;subst e;cases r1;obtain⟨its,N,p,U⟩:=B.tuple M;refine zbS (show z.heap.IsTuple a its.toArray from p) ?_;refine⟨z.heap.objs.size,[z.heap.objs.size],_,_,H1,rfl,B.kept (t':=z.toks) λb o e=>zan _ e,B0 a _,⟨_,zaE _ rfl,rfl,rfl⟩,λb G=>?_,q⟩;have e:b=z.heap.objs.size:=by simpa using G
 subst e;exact B.fpOk (zai _) (B.hok.fresh (zai _))
theorem LL{pins:List (Addr×Obj)}{σ:St}{H:Hp}{s:zad}{R:It->Hp->Prop}{E:Value->zad->Prop}{lo hi:Int}{t u v:Tok}{tk:Nat}(I:Inv X pins σ H s)(h1:-(2^62)<=lo)(h2:lo<2^62)(J:-(2^62)<=hi)(G:hi<2^62)
  (q:R (qi lo (hi-lo).toNat) H):wpAny (model X.prog X.w) X.A (pyIter (.ref s.heap.objs.size)) (PIE X pins σ tg R) E {s with heap:=s.heap.push {cls:=.type "range",data:=.fields #[.int lo t,.int hi u,.int 1 v]},toks:=tk}:=by
 refine wpAny_pyIter_range (IsRange.new ..) (small_one h1 h2 J G) ?_;have z:Inv X pins σ H {s with heap:=s.heap.push {cls:=.type "range",data:=.fields #[.int lo t,.int hi u,.int 1 v]},toks:=tk}:=I.kept λb o e=>zan _ e
 refine⟨(s.heap.push {cls:=.type "range",data:=.fields #[.int lo t,.int hi u,.int 1 v]}).objs.size,[(s.heap.push {cls:=.type "range",data:=.fields #[.int lo t,.int hi u,.int 1 v]}).objs.size],_,_,H,rfl,
  z.kept (t':=tk) λb o e=>zan _ e,BM _ lo (hi-lo).toNat,?_,λb M=>?_,q⟩
 ·have B:lo+((0:Nat):Int)*1=lo:=by simp
  have F:(((hi-lo).toNat:Nat):Int)-((0:Nat):Int)=Builtin.Range.rangeSize lo hi 1:=by rw[rangeSize_one];split <;> lia
  show IsRangeIter _ _ (lo+((0:Nat):Int)*1) ((((hi-lo).toNat:Nat):Int)-((0:Nat):Int)) 1;rw[B,F];exact zaE _ rfl
 ·have e:b=(s.heap.push {cls:=.type "range",data:=.fields #[.int lo t,.int hi u,.int 1 v]}).objs.size:=by simpa using M
  subst e;exact z.fpOk (zai _) (z.hok.fresh (zai _))
def XM(ta:TA):TI:=λσ H R=>ta σ H λvs H1=>∃j:Int,vs=[.int j]/\-(2^62)<=j/\j<2^62/\R (qi 0 j.toNat) H1
theorem HD{a:Expr}{ta:TA}{p pos:Pos}(J:Gl X "range")(F:X.mg "range" = none)(B:PA X [a] ta)(hs:zag [a] X.env=[(false,eval a X.env)]:=by rfl):PI X tg (.Call (.Name "range" p) [a] [] pos) (XM ta):=by
 intro pins s σ H R I h;refine Call_ (lI I J F boot_range (zcP (cS (B pos pins s σ H _ I h) λU N ⟨vs,H1,G,r1,z⟩=>?_) hs rfl));obtain⟨j,e,z,M,q⟩:=z;subst e;cases r1 with
 | cons r rr=>
  cases rr;obtain⟨t,rfl⟩:=r;exact call_range_1 (LL G (by lia) (by lia) z M (by simpa using q))
def qaD(wi:TI)(g:TG)(tb:TS):TS:=λD σ H=>wi σ H λJ H1=>∃W:Nat->Nat->St->Hp->Prop,(∃m,W 0 m σ H1)/\∀i m σ H,W i m σ H->
 (J.stop i H/\D.nx σ H)\/(J.go i H/\∃N:St->Hp->Prop,(∀q H',N q H'->∃B,B<m/\W (i+1) B q H')/\∀x H',J.yld i H x H'->g x σ H' λz H2=>tb {D with nx:=N,ct:=N,bk:=D.nx} z H2)
noncomputable def sZ(fp:List Addr)(h:Heap):List (Addr×Obj):=fp.filterMap λb=>(h.get? b).map λo=>(b,o)
theorem iK(q:b∈fp)(e:h.get? b=some o):(b,o)∈sZ fp h:=List.mem_filterMap.mpr ⟨b,q,by rw[e];rfl⟩
theorem HE(F:p∈sZ fp h):p.1∈fp/\h.get? p.1=some p.2:=by
 obtain⟨b,B,e⟩:=List.mem_filterMap.mp F;cases q:h.get? b with
 | none=>rw[q]at e;cases e
 | some o=>
  rw[q]at e;have z:(b,o)=p:=zaz e;subst z;exact⟨B,q⟩
theorem Inv.pinned(I:Inv X pins σ H s)(F:∀b∈fp,kF X pins H b)(G:∀b∈fp,∃o,s.heap.get? b=some o/\∀v,o.data≠.cell v):Inv X (pins++sZ fp s.heap) σ H s:=
 I.pins_of λp J=>(List.mem_append.mp J).elim (λz=>I.pin p (zaV _ z)) λz=>by
  obtain⟨B,e⟩:=HE z;obtain⟨M,f1,f2,_⟩:=F p.1 B;obtain⟨o,q,d⟩:=G p.1 B;rw[e]at q;cases q;exact⟨e,M,f1,f2,d⟩
theorem Inv.unpinned(I:Inv X (pins++pl) σ H s):Inv X pins σ H s:=I.pins_of λp q=>I.pin p (zaV _ (zbv _ q))
theorem L8{z:Expr}{ab:List Stmt}{wi:TI}{g:TG}{tb:TS}{pos:Pos}(hp:zb4 (model X.prog X.w) X.A X.env X.xe)(hc:X.calm=true)(hi:PI X tg z wi)(hg:PG X tg g)(B:PSs X ab tb)
  (hs:∀x,zba z X.env x=pure x:=by intro _;rfl):PS X (.For tg z ab [] pos) (qaD wi g tb):=by
 intro pins s σ H D I h;refine wpAny_For (cS (hi pins s σ H _ I h) λv s1 h1=>cS h1 λa2 s2 h2=>?_) hs;obtain⟨it,fp,tn,J,H2,e,I2,T,al,f2,W,⟨m0,w0⟩,turn⟩:=h2;subst e
 -- what stays true of the iterator's objects through the loop
 have F:∀ {H':Hp},(∀b∈fp,H' b=none)->∀b∈fp,kF X pins H' b:=λhn b B=>⟨hn b B,(f2 b B).2⟩
 refine codeAny_forLoop_any (λn s'=>∃i Y H',Inv X pins Y H' s'/\tn i s'.heap/\(∀b∈fp,H' b=none)/\W i n Y H') ?_ m0 ⟨0,σ,H2,I2,al,λb B=>(f2 b B).1,w0⟩;rintro n s3 ⟨i,M,H3,I3,af,ae,w3⟩;rcases turn i n M H3 w3 with⟨ah,qn⟩|⟨go,N,hN,step⟩
 ·refine zch hp (cS (T.done X rfl rfl rfl hc i pins s3 M H3 X.xe I3 (F ae) af ah) λr s4 ⟨hr,I4⟩=>?_)
  subst hr;exact zc5 ⟨M,H3,I4,qn⟩
 ·refine zch hp (cS (T.item X rfl rfl rfl hc i pins s3 M H3 X.xe I3 (F ae) af go) λr s4 ⟨u,hr,h4⟩=>?_)
  subst hr;refine zch hp (cS h4 λ_ s5 ⟨x,H5,I5,r5,y5,ad,ak⟩=>?_);have ap:=I5.pinned (F ak) (T.obj _ _ ad);refine zch hp (cS (hg _ s5 M H5 x u _ ap r5 (step x H5 y5)) λ_ s6 ⟨ao,H6,I6,q6⟩=>?_);refine zch hp (cS (B _ s6 ao H6 _ I6 q6) λf s7 q7=>?_);have U:∀ {q:St} {H7:Hp},Inv X (pins++sZ fp s5.heap) q H7 s7->N q H7->∃m,m<n/\∃i Y H',Inv X pins Y H' s7/\tn i s7.heap/\(∀b∈fp,H' b=none)/\W i m Y H':=λ{q H7} G n7=>by
   obtain⟨m',hm,w7⟩:=hN q H7 n7;refine⟨m',hm,i+1,q,H7,G.unpinned,T.keep _ _ _ ad λb B o e=>(G.pin (b,o) (zaV _ (zaV _ (iK B e)))).1,λb B=>?_,w7⟩;obtain⟨o,e,d⟩:=T.obj _ _ ad b B;exact(G.pin (b,o) (zaV _ (zaV _ (iK B e)))).2.1
  cases f with
  | next=>obtain⟨q,H7,G,n7⟩:=q7;exact U G n7
  | cont=>obtain⟨q,H7,G,n7⟩:=q7;exact U G n7
  | brk=>obtain⟨q,H7,G,q7⟩:=q7;exact⟨q,H7,G.unpinned,q7⟩
  | ret v=>obtain⟨x7,q,H7,G,r7,q7⟩:=q7;exact⟨x7,q,H7,G.unpinned,r7,q7⟩
end
abbrev R2:=V->V->Hp->VK->Prop
def OpR(X:Cx)(f:Value->Value->Sem Value)(r:R2):Prop:=
 ∀(pins:List (Addr×Obj)) (s:zad) (σ:St) (H:Hp) (x y:V) (v u:Value) (Q:VK),Inv X pins σ H s->RelV x v->RelV y u->r x y H Q->
  wpAny (model X.prog X.w) X.A (f v u) (EP X pins σ Q) X.xe s
def CallR(X:Cx)(f:Value)(r:List V->Hp->VK->Prop):Prop:=
 ∀(pins:List (Addr×Obj)) (s:zad) (σ:St) (H:Hp) (xs:List V) (us:List Value) (Q:VK),Inv X pins σ H s->Vals xs us->r xs H Q->
  wpAny (model X.prog X.w) X.A (call f us) (EP X pins σ Q) X.xe s
def qe(r:R2)(ta tb:TE):TE:=λσ H Q=>ta σ H λx H1=>tb σ H1 λy H2=>r x y H2 Q
def rI(C:Int->Int->Prop)(g:Int->Int->V):R2:=λx y H Q=>∃i j,x=.int i/\y=.int j/\C i j/\Q (g i j) H
def R6(g:Int->Int->V):R2:=λx y H Q=>∃i j,x=.int i/\y=.int j/\Q (g i j) H
section
variable {X:Cx}{a b c:Expr}{ta tb tc:TE}{pos:Pos}
theorem WU(G:PE X a ta)(Y:PE X b tb){pins:List (Addr×Obj)}{s:zad}{σ:St}{H:Hp}{R:V->V->Hp->Prop}(I:Inv X pins σ H s)
  (h:ta σ H λx H1=>tb σ H1 λy H2=>R x y H2) {Q:Value->zad->Prop} {f:Value->Value->Sem Value}
  (W:∀v u B x y H2,Inv X pins σ H2 B->RelV x v->RelV y u->R x y H2->wpAny (model X.prog X.w) X.A (f v u) Q X.xe B) :
  wpAny (model X.prog X.w) X.A (eval a X.env) (λv z=>wpAny (model X.prog X.w) X.A (eval b X.env) (λu q=>wpAny (model X.prog X.w) X.A (f v u) Q X.xe q) X.xe z) X.xe s:=by
 refine cS (G pins s σ H _ I h) λv J ⟨x,H1,U,r1,M⟩=>?_
 refine cS (Y pins J σ H1 _ U M) λu B ⟨y,H2,F,r2,N⟩=>?_
 exact W v u B x y H2 F r1 r2 N
theorem XN{op:Operator}{r:R2}(M:OpR X (zaM op) r)(G:PE X a ta)(N:PE X b tb):PE X (.BinOp a op b pos) (qe r ta tb):=by
 intro pins s σ H Q I h;exact wpAny_BinOp (WU G N I h λv u z x y H2 F J B q=>M pins z σ H2 x y v u Q F J B q)
theorem Z6{f:Value->Value->Sem Value}{C:Int->Int->Prop}{g:Int->Int->Int}
  (z:∀(i j:Int) (t u:Tok) (s:zad) (Q:Value->zad->Prop) (E:Value->zad->Prop),C i j->Q (.int (g i j) s.toks) {s with toks:=s.toks+1}->wpAny (model X.prog X.w) X.A (f (.int i t) (.int j u)) Q E s) :
  OpR X f (rI C λi j=>.int (g i j)):=by
 intro pins s σ H x y v u Q I B F h;obtain⟨i,j,rfl,rfl,G,q⟩:=h;obtain⟨t,rfl⟩:=B;obtain⟨t',rfl⟩:=F;exact z i j t t' s _ _ G ⟨.int (g i j),H,I.tok _,⟨_,rfl⟩,q⟩
theorem ZJ{f:Value->Value->Sem Value}{g:Int->Int->Int}
  (z:∀(i j:Int) (t u:Tok) (s:zad) (Q:Value->zad->Prop) (E:Value->zad->Prop),Q (.int (g i j) s.toks) {s with toks:=s.toks+1}->wpAny (model X.prog X.w) X.A (f (.int i t) (.int j u)) Q E s) :
  OpR X f (R6 λi j=>.int (g i j)):=by
 intro pins s σ H x y v u Q I B F h;obtain⟨i,j,rfl,rfl,q⟩:=h;obtain⟨t,rfl⟩:=B;obtain⟨t',rfl⟩:=F;exact z i j t t' s _ _ ⟨.int (g i j),H,I.tok _,⟨_,rfl⟩,q⟩
theorem WP{f:Value->Value->Sem Value}{g:Int->Int->Bool}
  (z:∀(i j:Int) (t u:Tok) (s:zad) (Q:Value->zad->Prop) (E:Value->zad->Prop),Q (.bool (g i j)) s->wpAny (model X.prog X.w) X.A (f (.int i t) (.int j u)) Q E s) :
  OpR X f (R6 λi j=>.bl (g i j)):=by
 intro pins s σ H x y v u Q I B F h;obtain⟨i,j,rfl,rfl,q⟩:=h;obtain⟨t,rfl⟩:=B;obtain⟨t',rfl⟩:=F;exact z i j t t' s _ _ ⟨.bl (g i j),H,I,rfl,q⟩
def RY(i j:Int):Prop:=0<j/\j<1073741824
def RQ(i j:Int):Prop:=0<=j/\j<=1000000/\i.natAbs<2^64
theorem WA:OpR X (zaM .Add) (R6 λi j=>.int (i+j)):=ZJ λ_ _ _ _ _ _ _ q=>add_int q
theorem VJ:OpR X (zaM .Sub) (R6 λi j=>.int (i-j)):=ZJ λ_ _ _ _ _ _ _ q=>sub_int q
theorem N6:OpR X (zaM .FloorDiv) (rI RY λi j=>.int (i/j)):=Z6 λi j _ _ _ _ _ z q=>by
 have h1:(0:Int)<j:=z.1;have h2:j<1073741824:=z.2;exact floordiv_int (by lia) (by rw[Int.fdiv_eq_ediv_of_nonneg i (by lia)];exact q) (.inl (PyProof.noPylong_small (by lia)))
theorem V0:OpR X (zaM .Mod) (rI (λ_ j=>0<j) λi j=>.int (i%j)):=Z6 λi j _ _ _ _ _ z q=>by
 have h1:(0:Int)<j:=z;exact mod_int' (by lia) (by rw[Int.fmod_eq_emod_of_nonneg i (by lia)];exact q)
theorem V5:OpR X (zaM .Pow) (rI RQ λi j=>.int (i^j.toNat)):=Z6 λ_ _ _ _ _ _ _ z q=>pow_int_small z.1 z.2.1 z.2.2 q
end
noncomputable def WV:V->V->Bool
 | .non,.non=>true | .non,.int _=>true | .int _,.non=>true | .non,.bl _=>true | .bl _,.non=>true | .non,.str _=>true | .str _,.non=>true
 | .int _,.int _=>true | .bl _,.bl _=>true | .str _,.str _=>true | .byt _,.byt _=>true
 | .int _,.str _=>true | .str _,.int _=>true | .bl _,.str _=>true | .str _,.bl _=>true
 | _,_=>false
def rEq:R2:=λx y H Q=>WV x y=true/\Q (.bl (decide (x=y))) H
def rNe:R2:=λx y H Q=>WV x y=true/\Q (.bl (!decide (x=y))) H
theorem E8:decide (V.int i=V.int j)=(i == j):=by
 rw[zcN];simp
theorem L9:decide (V.bl i=V.bl j)=(i == j):=by
 rw[zcN];simp
theorem DU:decide (V.str i=V.str j)=(i == j):=by
 rw[zcN];simp
theorem D9:decide (V.byt i=V.byt j)=(i.toList == j.toList):=by
 rw[zcN];cases i;cases j;simp
section
variable {X:Cx}{a b c:Expr}{ta tb tc:TE}{pos:Pos}
theorem bM(I:Inv X pins σ H s)(q:Q (.bl k) H)(e:k=k'):EP X pins σ Q (.bool k') s:=by
 subst e;exact⟨.bl k,H,I,rfl,q⟩
theorem X3:OpR X (zaA .Eq) rEq:=by
 intro pins s σ H x y v u Q I B z h;obtain⟨hs,q⟩:=h;cases x with
 | non=>
  cases B;cases y with
  | non=>cases z;exact PySem.EqNone.eq_none_none (bM I q (by simp))
  | bl j=>cases z;exact PySem.EqNone.eq_none_bool (bM I q (by simp))
  | int j=>obtain⟨t',rfl⟩:=z;exact PySem.EqNone.eq_none_int (bM I q (by simp))
  | str j=>obtain⟨t',rfl⟩:=z;exact PySem.EqNone.eq_none_str (bM I q (by simp))
  | _=>exact absurd (show false=true from hs) zaB
 | bl i=>
  cases B;cases y with
  | non=>cases z;exact PySem.EqNone.eq_bool_none (bM I q (by simp))
  | bl j=>cases z;exact eq_bool (bM I q L9)
  | str j=>obtain⟨t',rfl⟩:=z;exact PySem.EqMixed.eq_bool_str (bM I q (by simp))
  | _=>exact absurd (show false=true from hs) zaB
 | int i=>
  obtain⟨t,rfl⟩:=B;cases y with
  | non=>cases z;exact PySem.EqNone.eq_int_none (bM I q (by simp))
  | int j=>obtain⟨t',rfl⟩:=z;exact eq_int (bM I q E8)
  | str j=>obtain⟨t',rfl⟩:=z;exact PySem.EqMixed.eq_int_str (bM I q (by simp))
  | _=>exact absurd (show false=true from hs) zaB
 | str i=>
  obtain⟨t,rfl⟩:=B;cases y with
  | non=>cases z;exact PySem.EqNone.eq_str_none (bM I q (by simp))
  | bl j=>cases z;exact PySem.EqMixed.eq_str_bool (bM I q (by simp))
  | int j=>obtain⟨t',rfl⟩:=z;exact PySem.EqMixed.eq_str_int (bM I q (by simp))
  | str j=>obtain⟨t',rfl⟩:=z;exact eq_str (bM I q DU)
  | _=>exact absurd (show false=true from hs) zaB
 | byt i=>
  obtain⟨t,rfl⟩:=B;cases y with
  | byt j=>obtain⟨t',rfl⟩:=z;exact PySem.W.eq_bytes (bM I q D9)
  | _=>exact absurd (show false=true from hs) zaB
 | _=>cases y <;> exact absurd (show false=true from hs) zaB
theorem X0:OpR X (zaA .NotEq) rNe:=by
 intro pins s σ H x y v u Q I B z h;obtain⟨hs,q⟩:=h;cases x with
 | non=>
  cases B;cases y with
  | non=>cases z;exact PySem.EqNone.ne_none_none (bM I q (by simp))
  | bl j=>cases z;exact PySem.EqNone.ne_none_bool (bM I q (by simp))
  | int j=>obtain⟨t',rfl⟩:=z;exact PySem.EqNone.ne_none_int (bM I q (by simp))
  | str j=>obtain⟨t',rfl⟩:=z;exact PySem.EqNone.ne_none_str (bM I q (by simp))
  | _=>exact absurd (show false=true from hs) zaB
 | bl i=>
  cases B;cases y with
  | non=>cases z;exact PySem.EqNone.ne_bool_none (bM I q (by simp))
  | bl j=>cases z;exact ne_bool (bM I q (congrArg not L9))
  | str j=>obtain⟨t',rfl⟩:=z;exact PySem.EqMixed.ne_bool_str (bM I q (by simp))
  | _=>exact absurd (show false=true from hs) zaB
 | int i=>
  obtain⟨t,rfl⟩:=B;cases y with
  | non=>cases z;exact PySem.EqNone.ne_int_none (bM I q (by simp))
  | int j=>obtain⟨t',rfl⟩:=z;exact ne_int (bM I q (congrArg not E8))
  | str j=>obtain⟨t',rfl⟩:=z;exact PySem.EqMixed.ne_int_str (bM I q (by simp))
  | _=>exact absurd (show false=true from hs) zaB
 | str i=>
  obtain⟨t,rfl⟩:=B;cases y with
  | non=>cases z;exact PySem.EqNone.ne_str_none (bM I q (by simp))
  | bl j=>cases z;exact PySem.EqMixed.ne_str_bool (bM I q (by simp))
  | int j=>obtain⟨t',rfl⟩:=z;exact PySem.EqMixed.ne_str_int (bM I q (by simp))
  | str j=>obtain⟨t',rfl⟩:=z;exact ne_str (bM I q (congrArg not DU))
  | _=>exact absurd (show false=true from hs) zaB
 | byt i=>
  obtain⟨t,rfl⟩:=B;cases y with
  | byt j=>obtain⟨t',rfl⟩:=z;exact PySem.W.ne_bytes (bM I q (congrArg not D9))
  | _=>exact absurd (show false=true from hs) zaB
 | _=>cases y <;> exact absurd (show false=true from hs) zaB
theorem YT:OpR X (zaA .Lt) (R6 λi j=>.bl (decide (i<j))):=WP λ_ _ _ _ _ _ _ q=>lt_int q
theorem XQ:OpR X (zaA .LtE) (R6 λi j=>.bl (decide (i<=j))):=WP λ_ _ _ _ _ _ _ q=>le_int q
theorem XR:OpR X (zaA .Gt) (R6 λi j=>.bl (decide (j<i))):=WP λ_ _ _ _ _ _ _ q=>gt_int q
theorem T1:OpR X (zaA .Is) (λx y H Q=>y=.non/\Q (.bl (decide (x=.non))) H):=by
 intro pins s σ H x y v u Q I z B h;obtain⟨rfl,q⟩:=h;cases B;refine is_none_gen (bM I q ?_);cases x <;> first
  | (cases z;rfl)
  | (obtain⟨t,rfl⟩:=z;rfl)
theorem QM:OpR X (zaA .IsNot) (λx y H Q=>y=.non/\Q (.bl (!decide (x=.non))) H):=by
 intro pins s σ H x y v u Q I z B h;obtain⟨rfl,q⟩:=h;cases B;refine isnot_none_gen (bM I q ?_);cases x <;> first
  | (cases z;rfl)
  | (obtain⟨t,rfl⟩:=z;rfl)
theorem OpR.or(h:OpR X f r)(h':OpR X f r'):OpR X f (λx y H Q=>r x y H Q\/r' x y H Q):=by
 intro pins s σ H x y v u Q I z B q;rcases q with q|q
 ·exact h pins s σ H x y v u Q I z B q
 ·exact h' pins s σ H x y v u Q I z B q
theorem tE(b:Expr)(h:op≠.In:=by decide)(h2:op≠.NotIn:=by decide):zbQ op b=false:=by
 have z:(op == CmpOp.In)=false:=by cases op <;> first|rfl|exact absurd rfl h
 have q:(op == CmpOp.NotIn)=false:=by cases op <;> first|rfl|exact absurd rfl h2
 cases b <;> simp[zbQ,z,q]
theorem OI(N:OpR X (zaA op) r)(G:PE X a ta)(U:PE X b tb)(J:zbQ op b=false):PE X (.Compare a [op] [b] pos) (qe r ta tb):=by
 intro pins s σ H Q I h;exact wpAny_Compare1 (WU G U I h λv u z x y H2 F M B q=>N pins z σ H2 x y v u Q F M B q) J
def YC(t:TE):TT:=λσ H Q=>t σ H λx H'=>∃k,x=.bl k/\Q k H'
theorem N0{op:CmpOp}{r:R2}(ho:OpR X (zaA op) r)(J:PE X a ta)(hb:PE X b tb)(N:zbQ op b=false):PT X (.Compare a [op] [b] pos) (YC (qe r ta tb)):=by
 intro pins s σ H Q I h;refine wpAny_isTrue_Compare1 (cS (J pins s σ H _ I h) λv M ⟨x,H1,W,r1,U⟩=>cS (hb pins M σ H1 _ W U) λu F ⟨y,H2,G,r2,Y⟩=>
  cS (ho pins F σ H2 x y v u _ G r1 r2 Y) λc s3 ⟨z,q,I3,r3,k,e,B⟩=>?_) N
 subst e;cases r3;exact zcO ⟨q,I3,B⟩
theorem tN:(zaj:Nat)<2^63:=by rw[zcQ];decide
theorem CC:OpR X (zaM .Add) (λx y H Q=>∃i j,x=.str i/\y=.str j/\i.length+j.length<=zaj/\Q (.str (i++j)) H):=by
 intro pins s σ H x y v u Q I B F h;obtain⟨i,j,rfl,rfl,z,q⟩:=h;obtain⟨t,rfl⟩:=B;obtain⟨t',rfl⟩:=F;exact add_str (λt' tk=>⟨.str (i++j),H,I.tok _,⟨_,rfl⟩,q⟩) z
theorem vals1(r:Vals [x] us):∃u,us=[u]/\RelV x u:=by
 cases r with
 | cons r1 r2=>cases r2;exact⟨_,rfl,r1⟩
theorem vals2(r:Vals [x,y] us):∃u q,us=[u,q]/\RelV x u/\RelV y q:=by
 cases r with
 | cons r1 r2=>
  cases r2 with
  | cons r3 r4=>cases r4;exact⟨_,_,rfl,r1,r3⟩
theorem G9(B:X.calm=true):CallR X (.builtin "max") (λxs H Q=>∃i j,xs=[.int i,.int j]/\Q (.int (if j>i then j else i)) H):=by
 intro pins s σ H xs G Q I r h;obtain⟨i,j,rfl,q⟩:=h;obtain⟨u,F,rfl,⟨t,rfl⟩,⟨t',rfl⟩⟩:=vals2 r;refine max_two_ints (I.ok.hd B) λh' tk k=>⟨_,H,I.kept k,?_,q⟩
 by_cases z:j>i
 ·rw[if_pos z,if_pos z];exact⟨_,rfl⟩
 ·rw[if_neg z,if_neg z];exact⟨_,rfl⟩
theorem GN(B:X.calm=true):CallR X (.builtin "min") (λxs H Q=>∃i j,xs=[.int i,.int j]/\Q (.int (if j<i then j else i)) H):=by
 intro pins s σ H xs G Q I r h;obtain⟨i,j,rfl,q⟩:=h;obtain⟨u,F,rfl,⟨t,rfl⟩,⟨t',rfl⟩⟩:=vals2 r;refine min_two_ints (I.ok.hd B) λh' tk k=>⟨_,H,I.kept k,?_,q⟩
 by_cases z:j<i
 ·rw[if_pos z,if_pos z];exact⟨_,rfl⟩
 ·rw[if_neg z,if_neg z];exact⟨_,rfl⟩
theorem GZ:CallR X (.type "int") (λxs H Q=>(∃i,xs=[.int i]/\Q (.int i) H)\/∃k,xs=[.bl k]/\Q (.int (if k then 1 else 0)) H):=by
 intro pins s σ H xs z Q I r h;rcases h with⟨i,rfl,q⟩|⟨k,rfl,q⟩
 ·obtain⟨u,rfl,t,rfl⟩:=vals1 r
  exact call_int_int ⟨.int i,H,I,⟨_,rfl⟩,q⟩
 ·obtain⟨u,rfl,r1⟩:=vals1 r
  cases r1;exact call_int_bool ⟨.int (if k then 1 else 0),H,I.tok _,⟨_,rfl⟩,q⟩
def qam(K:zae)(x:V)(H:Hp)(n:Nat):Prop:=
 match x with
 | .str y=>y.length<=zaj/\n=y.length
 | .byt y=>y.size<=zaj/\n=y.size
 | .ref p=>(∃xs,SqL K H p xs/\n=xs.length)\/∃xs,SqT K H p xs/\n=xs.length
 | _=>False
theorem sV:CallR X (.builtin "len") (λxs H Q=>∃x n,xs=[x]/\qam X.K x H n/\Q (.int n) H):=by
 intro pins s σ H xs Y Q I r h;obtain⟨x,n,rfl,e,q⟩:=h;obtain⟨u,rfl,J⟩:=vals1 r;have U:=tN;have hs:zaj=16777216:=zcQ;cases x with
 | str y=>
  obtain⟨t,rfl⟩:=J;obtain⟨N,B⟩:y.length<=zaj/\n=y.length:=e;subst B;exact len_str (by lia) ⟨.int _,H,I.tok _,⟨_,rfl⟩,q⟩
 | byt y=>
  obtain⟨t,rfl⟩:=J;obtain⟨N,B⟩:y.size<=zaj/\n=y.size:=e;subst B;exact PySem.W.len_bytes (by lia) ⟨.int _,H,I.tok _,⟨_,rfl⟩,q⟩
 | ref p=>
  cases J;have B:(∃xs,SqL X.K H p xs/\n=xs.length)\/∃xs,SqT X.K H p xs/\n=xs.length:=e;rcases B with⟨xs,hx,B⟩|⟨xs,hx,B⟩
  ·subst B
   obtain⟨its,F,G,M⟩:=I.list hx;have z:=F.length;exact Calls.call_len_list G.isList (by simp only[zay];lia) ⟨.int xs.length,H,I.tok _,⟨_,by simp only[zay];rw[z]⟩,q⟩
  ·subst B
   obtain⟨its,F,G,M⟩:=I.tuple hx;have z:=F.length;exact len_tuple G (by simp only[zay];lia) ⟨.int xs.length,H,I.tok _,⟨_,by simp only[zay];rw[z]⟩,q⟩
 | _=>exact(show False from e).elim
end
structure ObjM(h:Heap)(x dx C:Addr)(mA:Str->Option Value):Prop where
 obj:h.get? x=some (zb2 C dx)
 ns:h.Ns1 dx mA
 ne:dx≠x
theorem G6{h:Heap}{dx:Addr}{mA:Str->Option Value}(n:h.Ns1 dx mA):∃od,h.get? dx=some od/\∀name,PySem.W.lookIn name od=some (mA name):=by
 obtain⟨o,es,ep,M,hd,G,_,J⟩:=n;refine⟨o,M,λname=>?_⟩;have e:=J name;unfold nsFind findBy at e;rw[<- Array.find?_toList]at e;unfold PySem.W.lookIn;rw[hd];dsimp only;split
 ·rename_i y q
  rw[q]at e;exact congrArg some e
 ·rename_i q
  rw[q]at e;have a:es.toList.any (·.refKey)=false:=by
   rw[List.any_eq_false];intro y N;obtain⟨z,t,B⟩:=G y (Array.mem_toList_iff.mp N);simp[DictEntry.refKey,B]
  have F:¬ es.toList.any (·.refKey)=true:=by rw[a];exact zaB
  rw[if_neg F];exact congrArg some e
theorem ObjM.look(I:ObjM h x dx C mA):∃od,PySem.W.InstAt h x (zb2 C dx) C (some od)/\∀name,PySem.W.lookIn name od=some (mA name):=
 let ⟨od,ho,hl⟩:=G6 I.ns
 ⟨od,⟨I.obj,rfl,rfl,ho⟩,hl⟩
section
variable {prog:zah}{w:World}{A:zam}{E:Value->zad->Prop}{s:zad}{K:zae}{x dx C f:Addr}{mA:Str->Option Value}{name:Str}{v:Value}
theorem Q0(X:K.In s.heap)(I:ObjM s.heap x dx C mA)(G:zda K C name=true)(M:zdb K C=true)
  (F:zbx K (.ref C) name=some none) (B:mA name=some v) (q:PySem.W.handedIn v=true) (h:Q v {s with toks:=s.toks+1}) :
  wpAny (model prog w) A (getAttr (.ref x) name expr) Q E s:=by
 obtain⟨od,J,z⟩:=I.look;exact PySem.W.get_value X J (PySem.W.plainGet_of G).1 (PySem.W.findObj_own M F rfl (by rw[z,B])) q h
theorem OZ(X:K.In s.heap)(I:ObjM s.heap x dx C mA)
  (hs:zbx K (.ref C) "__setattr__" = some (some (.builtin "object.__setattr__"))) (hp:zdZ K C=true) (N:zd0 K C name=some none) (hh:zdb K C=true)
  (hw:PySem.Within mA ns) (hsz:ns.length<=zaj)
  (h:∀h',ObjM h' x dx C (λy=>if y=name then some v else mA y)->za4 dx s.heap h'->Q () {s with heap:=h',toks:=s.toks+2}) :
  wpAny (model prog w) A (setAttr (.ref x) name v) Q E s:=by
 obtain⟨od,J,hl⟩:=I.look;refine PySem.W.set_plain X J hs (PySem.W.osa_open (s:={s with toks:=s.toks+1}) (r:=none) X J hp N λb=>?_);obtain⟨cd,hc,F⟩:=PySem.W.any_some hh;have hx:s.heap.get? x=some ⟨.ref C,some dx,.plain,#[]⟩:=I.obj;refine zaa (zaf (zaa (zaa (wpAny_loadPart hx (zaa (PySem.W.Looks.here (s:={s with toks:=s.toks+1}) (PySem.W.looks_clsIn X hc) ?_))))));rw[F];refine zaf (a:=some dx) (zaa (zaf (zaa ?_)));refine wpAny_nsSet1 (s:={s with toks:=s.toks+1}) I.ns λh' z q=>?_
 obtain⟨oD,Y,U,M,B,G⟩:=z.count (PySem.Within.cons name v hw);refine zaa (wpAny_lookBehind M (by rw[B];exact pastItsLine_dict (zaL G (by rw[zaw];lia))) ?_);exact zaf (h _ ⟨(q.2 _ (zaU I.ne)).trans I.obj,z,I.ne⟩ q)
theorem LM(X:K.In s.heap)(z:zd1 K C=true)
  (hi:zbx K (.ref C) "__init__" = some (some (.ref f))) (B:PySem.W.typeIn K (.ref f)=some (.type "function"))
  (h:zbF (model prog w) (A.under (.builtin "type.__call__" ⟨.ref C::vs, kw⟩)) (.call (.ref f) ⟨.ref (s.heap.objs.size+1)::vs, kw⟩) (PySem.W.InitBack (s.heap.objs.size+1) R)
   {s with heap:=(s.heap.push zbT).push (zb2 C s.heap.objs.size)}) :
  zbF (model prog w) A (.call (.ref C) ⟨vs,kw⟩) R s:=by
 obtain⟨G,g,d,t,F⟩:=s;exact PySem.W.make_core (PySem.W.makes_of X z) (PySem.W.looks_findIn X hi) (λq=>PySem.W.bind_fn X q B) (.inl rfl) h
end
noncomputable def i4(f:Str)(v:V):List (Str×V)->List (Str×V)
 | []=>[(f,v)]
 | (g,x)::r=>if g=f then(g,v)::r else(g,x)::i4 f v r
theorem oI(f g:Str)(v:V):∀fs:List (Str×V),(i4 f v fs).lookup g=if g=f then some v else fs.lookup g
 | []=>by
  show zci g [(f,v)]=_;by_cases h:g=f
  ·have q:(g == f)=true:=beq_iff_eq.mpr h
   simp only[zci,q,if_pos h]
  ·have q:(g == f)=false:=beq_eq_false_iff_ne.mpr h
   simp only[zci,q,if_neg h]
 | (k,x)::r=>by
  have ih:=oI f g v r;rw[show i4 f v ((k,x)::r)=(if k=f then(k,v)::r else(k,x)::i4 f v r)from rfl];by_cases z:k=f
  ·rw[if_pos z]
   by_cases h:g=k
   ·have q:(g == k)=true:=beq_iff_eq.mpr h
    simp only[zci,q,if_pos (h.trans z)]
   ·have q:(g == k)=false:=beq_eq_false_iff_ne.mpr h
    simp only[zci,q,if_neg (λe:g=f=>h (e.trans z.symm))]
  ·rw[if_neg z]
   by_cases h:g=k
   ·have q:(g == k)=true:=beq_iff_eq.mpr h
    simp only[zci,q,if_neg (λe:g=f=>z (h.symm.trans e))]
   ·have q:(g == k)=false:=beq_eq_false_iff_ne.mpr h
    simp only[zci,q];exact ih
theorem nR(f:Str)(v:V):∀fs:List (Str×V),f∈(i4 f v fs).map (·.1)/\∀g,g∈fs.map (·.1)->g∈(i4 f v fs).map (·.1)
 | []=>⟨by simp[i4],λg h=>by simp at h⟩
 | (k,x)::r=>by
  obtain⟨B,z⟩:=nR f v r;rw[show i4 f v ((k,x)::r)=(if k=f then(k,v)::r else(k,x)::i4 f v r)from rfl];by_cases q:k=f
  ·rw[if_pos q]
   subst q;exact⟨by simp,λg h=>by simpa using h⟩
  ·rw[if_neg q]
   refine⟨?_,λg h=>?_⟩
   ·rw[zak]
    exact zap _ B
   ·rw[zak]at h ⊢
    rcases List.mem_cons.mp h with e|e
    ·exact List.mem_cons.mpr (.inl e)
    ·exact zap _ (z g e)
theorem oW(f:Str)(v:V):∀fs:List (Str×V),(i4 f v fs).length<=fs.length+1
 | []=>by simp[i4]
 | (k,x)::r=>by
  have ih:=oW f v r;rw[show i4 f v ((k,x)::r)=(if k=f then(k,v)::r else(k,x)::i4 f v r)from rfl];by_cases q:k=f
  ·rw[if_pos q,zaw,zaw];lia
  ·rw[if_neg q,zaw,zaw];lia
theorem RelO.some_of(r:RelO (some v) o):∃u,o=some u/\RelV v u:=by
 cases o with
 | none=>exact(show False from r).elim
 | some u=>exact⟨u,rfl,r⟩
theorem ID(r:RelV v u):PySem.W.handedIn u=true:=by
 cases v with
 | non=>cases(show u=za5 from r);rfl
 | bl b=>cases(show u=zcu b from r);rfl
 | int i=>obtain⟨t,e⟩:=(show ∃t,u=zct i t from r);cases e;rfl
 | str x=>obtain⟨t,e⟩:=(show ∃t,u=zcK x t from r);cases e;rfl
 | byt b=>obtain⟨t,e⟩:=(show ∃t,u=Value.bytes b t from r);cases e;rfl
 | flt b=>obtain⟨t,e⟩:=(show ∃t,u=Value.float b t from r);cases e;rfl
 | ref a=>cases(show u=zaq a from r);rfl
 | ty n=>cases(show u=Value.type n from r);rfl
section
variable {P:zah}{w:World}{H H':Hp}{h h':Heap}{a C dx:Addr}{fs fs':List (Str×V)}
theorem wM(B:HOk P w H h)(e:H a=some (.ins C dx fs)):∃mA,ObjM h a dx C mA/\(∀f,RelO (fs.lookup f) (mA f))/\PySem.Within mA (fs.map (·.1))/\fs.length<=1000/\H dx=some (.own a):=by
 obtain⟨d,z,F,G,mA,n,r,q⟩:=(show ObjOk P w H h a (.ins C dx fs)from B a _ e);exact⟨mA,⟨G,n,F⟩,r,q,z,d⟩
end
structure Cls(K:zae)(C:Addr):Prop where
 pg:zda K C Str.empty=true
 hd:zdb K C=true
 po:zdZ K C=true
 sa:zbx K (.ref C) "__setattr__" = some (some (.builtin "object.__setattr__"))
theorem Cls.get{K:zae}{C:Addr}(c:Cls K C)(f:Str):zda K C f=true:=c.pg
def NoAttr(K:zae)(C:Addr)(f:Str):Prop:=zbx K (.ref C) f=some none
theorem NoAttr.taker{K:zae}{C:Addr}{f:Str}(n:NoAttr K C f):zd0 K C f=some none:=by
 unfold zd0;rw[show zbx K (.ref C) f=some none from n];rfl
section
variable {X:Cx}{pins:List (Addr×Obj)}{σ:St}{H:Hp}{s:zad}{a C dx:Addr}{fs:List (Str×V)}{f:Str}{v:V}{A:zam}{E:Value->zad->Prop}
theorem CB(I:Inv X pins σ H s)(e:H a=some (.ins C dx fs))(c:Cls X.K C)(n:NoAttr X.K C f)(l:fs.lookup f=some v)
  (h:∀u s',Inv X pins σ H s'->RelV v u->Q u s'):wpAny (model X.prog X.w) A (getAttr (.ref a) f b) Q E s:=by
 obtain⟨mA,O,r,_,_,_⟩:=wM I.hok e;obtain⟨u,z,q⟩:=RelO.some_of (v:=v) (o:=mA f) (by rw[<- l];exact r f);exact Q0 I.kIn O (c.get f) c.hd n z (ID q) (h u _ (I.tok _) q)
theorem BO(I:Inv X pins σ H s)(e:H a=some (.ins C dx fs))(c:Cls X.K C)(n:NoAttr X.K C f)(N:fs.length<1000)(F:RelV y u)
  (h:∀s',Inv X pins σ (upd H a (.ins C dx (i4 f y fs))) s'->Q () s'):wpAny (model X.prog X.w) A (setAttr (.ref a) f u) Q E s:=by
 obtain⟨mA,O,r,wi,_,B⟩:=wM I.hok e;have J:(fs.map (·.1)).length<=zaj:=by rw[zal,zcQ];lia
 refine OZ I.kIn O c.sa c.po n.taker c.hd wi J λh' O' sb=>h _ ?_
 have hd:∃o,h'.get? dx=some o:=let ⟨o,_,_,e',_⟩:=O'.ns;⟨o,e'⟩;refine I.write (x:=a) (e:=dx) (by rw[e];exact zaY) (.inr B) (λb q M z=>(sb.2 b M).trans z) hd ?_;refine⟨by rw[aE O.ne];exact B,?_,O.ne,O'.obj,_,O'.ns,λg=>?_,λg G=>?_⟩
 ·have:=oW f y fs;lia
 ·show RelO ((i4 f y fs).lookup g) (if g=f then some u else mA g)
  rw[oI];by_cases q:g=f
  ·rw[if_pos q,if_pos q];exact F
  ·rw[if_neg q,if_neg q];exact r g
 ·by_cases q:g=f
  ·rw[q];exact(nR f y fs).1
  ·refine(nR f y fs).2 g (wi g λz=>G ?_)
   show(if g=f then some u else mA g)=none;rw[if_neg q];exact z
theorem Inv.made(I:Inv X pins σ H s):Inv X pins σ (upd (upd H s.heap.objs.size (.own (s.heap.objs.size+1))) (s.heap.objs.size+1) (.ins C s.heap.objs.size []))
  {s with heap:=(s.heap.push zbT).push (zb2 C s.heap.objs.size)}:=by
 have z:(s.heap.push zbT).get? s.heap.objs.size=some zbT:=zaE s.heap rfl;have F:((s.heap.push zbT).push (zb2 C s.heap.objs.size)).get? (s.heap.objs.size+1)=some (zb2 C s.heap.objs.size):=by
  have:=zaE (s.heap.push zbT) (o:=zb2 C s.heap.objs.size) rfl
  rwa [zbU]at this
 have M:(s.heap.push zbT).Ns s.heap.objs.size (λ_=>none):=⟨zbT,#[],_,z,rfl,(λe J=>absurd J (by simp)),λ_=>rfl⟩;have G:=I.laid (a:=s.heap.objs.size) (o:=.own (s.heap.objs.size+1)) (h':=s.heap.push zbT) (t':=s.toks) (λb u q=>zan _ q) (zai _) ⟨_,z⟩;refine G.laid (a:=s.heap.objs.size+1) (o:=.ins C s.heap.objs.size []) (t':=s.toks) (λb u q=>zan _ q) (Nat.le_of_eq (zbU _ _)) ?_;have B:s.heap.objs.size≠s.heap.objs.size+1:=zaF (zdc _);refine⟨by rw[aE B,aG],zaI _,B,F,λ_=>none,(Heap.Ns1.of_empty M).at λo q=>zan _ q,λ_=>zaY,λy N=>absurd rfl N⟩
theorem O4{prog:zah}{w:World}{env:Env}{e:Expr}{f:Str}{pos:Pos}{s:zad}{Q:Value->zad->Prop}(z:zaO e f env (eval e env)=eval e env)
  (h:wpAny (model prog w) A (eval e env) (λo q=>wpAny (model prog w) A (getAttr o f true) Q E q) E s):wpAny (model prog w) A (eval (.Attribute e f pos) env) Q E s:=
 Attribute_any_ h (by rw[arm_eval_Attribute,z])
end
def ZD(K:zae)(ta:TE)(f:Str):TE:=λσ H Q=>ta σ H λx H1=>∃a C dx fs v,x=.ref a/\H1 a=some (.ins C dx fs)/\Cls K C/\NoAttr K C f/\fs.lookup f=some v/\Q v H1
def qay(K:zae)(ta tv:TE)(f:Str):TS:=λD σ H=>tv σ H λy H1=>ta σ H1 λx H2=>∃a C dx fs,x=.ref a/\H2 a=some (.ins C dx fs)/\Cls K C/\NoAttr K C f/\fs.length<1000 /\
 D.nx σ (upd H2 a (.ins C dx (i4 f y fs)))
section
variable {X:Cx}{o e value:Expr}{f:Str}{pos pos' tpos:Pos}{ta tv:TE}
theorem kB(M:PE X e ta)(N:zaO e f X.env (eval e X.env)=eval e X.env):PE X (.Attribute e f pos) (ZD X.K ta f):=by
 intro pins s σ H Q I h;refine O4 N (cS (M pins s σ H _ I h) λu Y ⟨x,H1,G,F,a,C,dx,fs,v,ex,J,c,n,l,q⟩=>?_);subst ex;obtain rfl:u=zaq a:=F;exact CB G J c n l λU W B z=>⟨v,H1,B,z,q⟩
theorem sY(G:PE X o ta)(z:PE X value tv)(hs:zaD value (some (.Attribute o f pos')) pos.line X.env=pure false):PS X (.Assign [.Attribute o f pos'] value pos) (qay X.K ta tv f):=by
 intro pins s σ H D I h;refine plainObj_wpAny_Assign_Attribute (cS (z pins s σ H _ I h) λu J ⟨y,H1,N,B,q⟩=>cS (G pins J σ H1 _ N q) λU s2 ⟨x,H2,F,M,a,C,dx,fs,ex,Y,c,n,l,W⟩=>?_) hs;subst ex;obtain rfl:U=zaq a:=M;exact BO F Y c n l B λs3 I3=>⟨σ,_,I3,W⟩
end
section
variable {X:Cx}{pins:List (Addr×Obj)}{σ:St}{H:Hp}{s:zad}{A:zam}{E:Value->zad->Prop}{Q:Value->zad->Prop}{c:Value}{b:Bool}
inductive TyOf(K:zae)(H:Hp):V->Value->Prop where
 | non:TyOf K H .non (.type "NoneType")
 | bl (x:Bool):TyOf K H (.bl x) (.type "bool")
 | int (i:Int):TyOf K H (.int i) (.type "int")
 | str (x:Str):TyOf K H (.str x) (.type "str")
 | flt (x:UInt64):TyOf K H (.flt x) (.type "float")
 | lst {a:Addr} {xs:List V} (e:H a=some (.lst xs)):TyOf K H (.ref a) (.type "list")
 | frz {a:Addr} {o:Obj} {xs:List V} (e:H a=some (.frz o (.lst xs))):TyOf K H (.ref a) (.type "list")
 | tup {a:Addr} {xs:List V} (e:H a=some (.tup xs)):TyOf K H (.ref a) (.type "tuple")
 | dK {a:Addr} {kvs:List (Key×V)} (e:H a=some (.dK kvs)):TyOf K H (.ref a) (.type "dict")
 | dT {a:Addr} {kvs:List (List Key×V)} (e:H a=some (.dT kvs)):TyOf K H (.ref a) (.type "dict")
 | ins {a C dx:Addr} {fs:List (Str×V)} (e:H a=some (.ins C dx fs)) (cl:Cls K C) (ha:zbx K (.ref C) "__class__" = some (some (.builtin "object.__class__")))
   (hn:PySem.W.specialIn K (.builtin "object.__class__") "__get__" = some (some (.builtin "getset_descriptor.__get__"))) (htk:PySem.W.takesIn K (.builtin "object.__class__")=some true)
   (hm:PySem.W.mroIn K C (.type "object")=some true):TyOf K H (.ref a) (.ref C)
theorem HU(I:Inv X pins σ H s)(B:RelV x u)(ty:TyOf X.K H x t)(e:zdd X.K t c=some b)(h:∀tk,Q (.bool b) {s with toks:=tk}) :
  wpAny (model X.prog X.w) A (call (.builtin "isinstance") [u,c]) Q E s:=by
 cases ty with
 | non=>cases(show u=za5 from B);exact zbm PySem.W.kitx_none I.kIn zaY e (λz=>nomatch z) h
 | bl y=>cases(show u=zcu y from B);exact zbm PySem.W.kitx_bool I.kIn zaY e (λz=>nomatch z) h
 | int i=>obtain⟨t,q⟩:=(show ∃t,u=zct i t from B);cases q;exact zbm PySem.W.kitx_int I.kIn zaY e (λz=>nomatch z) h
 | str y=>obtain⟨t,q⟩:=(show ∃t,u=zcK y t from B);cases q;exact zbm PySem.W.kitx_str I.kIn zaY e (λz=>nomatch z) h
 | flt y=>obtain⟨t,q⟩:=(show ∃t,u=Value.float y t from B);cases q;exact zbm PySem.W.kitx_float I.kIn zaY e (λz=>nomatch z) h
 | @lst a xs ea=>
  cases(show u=zaq a from B);obtain⟨_,_,n,_,h1⟩:=(show ObjOk X.prog X.w H s.heap a (.lst xs)from I.hok a _ ea);exact zbm PySem.W.kitx_list I.kIn ⟨_,h1,rfl⟩ e (λz=>nomatch z) h
 | @frz a ob xs ea=>
  cases(show u=zaq a from B);obtain⟨_,_,_,n,_,h1⟩:=(show ObjOk X.prog X.w H s.heap a (.frz ob (.lst xs))from I.hok a _ ea);exact zbm PySem.W.kitx_list I.kIn ⟨_,h1,rfl⟩ e (λz=>nomatch z) h
 | @tup a xs ea=>
  cases(show u=zaq a from B);obtain⟨_,_,_,p⟩:=(show ObjOk X.prog X.w H s.heap a (.tup xs)from I.hok a _ ea);obtain⟨o,h1,h2,_⟩:=p;exact zbm PySem.W.kitx_tuple I.kIn ⟨o,h1,h2⟩ e (λz=>nomatch z) h
 | @dK a kvs ea=>
  cases(show u=zaq a from B);obtain⟨_,_,vs,_,p⟩:=(show ObjOk X.prog X.w H s.heap a (.dK kvs)from I.hok a _ ea);obtain⟨o,es,ep,h1,h2,_⟩:=p;exact zbm zde I.kIn ⟨o,h1,h2.1⟩ e (λz=>nomatch z) h
 | @dT a kvs ea=>
  cases(show u=zaq a from B);obtain⟨_,_,xs,_,o,es,ep,h1,h2,_⟩:=(show ObjOk X.prog X.w H s.heap a (.dT kvs)from I.hok a _ ea);exact zbm zde I.kIn ⟨o,h1,h2.1⟩ e (λz=>nomatch z) h
 | @ins a C dx fs ea cl ha hn htk hm=>
  cases(show u=zaq a from B);obtain⟨mA,O,_⟩:=wM I.hok ea;obtain⟨od,J,_⟩:=O.look;exact zbm (PySem.W.kitx_own (cl.get _) cl.hd ha hn htk hm) I.kIn J e (λz=>nomatch z) h
end
structure Room(k:Nat)(A:zam):Prop where
 hd:A.handled=none
 dp:A.depth+3*k+5<recursionLimit
 un:A.units+16*k+200<cLine
theorem Room.mono(r:Room k A)(h:j<=k):Room j A:=⟨r.hd,by have:=r.dp;lia,by have:=r.un;lia⟩
theorem Room.deeper(r:Room (k+1) A)(env:Env):Room k (A.deeper env):=
 ⟨r.hd,by have:=r.dp;show A.depth+1+3*k+5<_;lia,by have:=r.un;show A.units+3+16*k+200<_;lia⟩
theorem CH{A:zam}{C:Addr}{q:List Value}{kw:List (Str×Value)}:(A.under (.builtin "type.__call__" ⟨.ref C::q,kw⟩)).depth=A.depth+1:=by
 first|rfl|simp[Around.under,Code.weight,Code.isCreation,Code.isGuard,Code.isCaller,Code.frames,Code.isFrame,guardIds]
theorem B2{A:zam}{C:Addr}{q:List Value}{kw:List (Str×Value)}:(A.under (.builtin "type.__call__" ⟨.ref C::q,kw⟩)).units=A.units+1:=by
 first|rfl|simp[Around.under,Code.cUnits,Code.frames,Code.isFrame]
theorem Room.make(r:Room (k+1) A)(C:Addr)(q:List Value)(kw:List (Str×Value)):Room k (A.under (.builtin "type.__call__" ⟨.ref C::q,kw⟩)):=
 ⟨r.hd,by have:=r.dp;rw[CH];lia,by have:=r.un;rw[B2];lia⟩
theorem Room.depth(r:Room k A):A.depth<recursionLimit:=by have:=r.dp;lia
theorem Room.units(r:Room k A):A.units+64<cLine:=by have:=r.un;lia
theorem Room.units0(r:Room k A):A.units<cLine:=by have:=r.un;lia
def RV:TA:=λ_ H Q=>Q [] H
def vV(ta:TE)(q:TA):TA:=λσ H Q=>ta σ H λx H1=>q σ H1 λxs H2=>Q (x::xs) H2
section
variable {X:Cx}{e:Expr}{es:List Expr}{te:TE}{t:TA}{pos:Pos}
theorem fM:PA X [] RV:=λ_ _ _ _ H Q I h=>Calls.spliced_nil ⟨[],H,I,.nil,h⟩
theorem cT(B:PE X e te)(q:PA X es t)(hs:zag (e::es) X.env=(false,eval e X.env)::zag es X.env:=by rfl):PA X (e::es) (vV te t):=by
 intro pos pins s σ H Q I h;rw[hs];show wpAny _ _ (spliced ((false,eval e X.env)::zaG pos (zag es X.env))) _ _ s;refine Calls.spliced_cons (cS (B pins s σ H _ I h) λu F ⟨x,H1,M,r1,G⟩=>?_);exact cS (q pos pins F σ H1 _ M G) λU N ⟨xs,H2,z,r2,J⟩=>⟨x::xs,H2,z,.cons r1 r2,J⟩
def qar(t:TA):TE:=λσ H Q=>t σ H λxs H1=>xs.length<=zaj/\∀p,H1 p=none->Q (.ref p) (upd H1 p (.tup xs))
def qaz(t:TA):TE:=λσ H Q=>t σ H λxs H1=>xs.length<=zaj/\∀p,H1 p=none->Q (.ref p) (upd H1 p (.lst xs))
theorem TZ{x1}(h:PA X es t):PE X (.Tuple es x1 pos) (qar t):=by
 intro pins s σ H Q I M;refine wpAny_Tuple_spliced (cS (h pos pins s σ H _ I M) λJ B ⟨xs,H1,F,r,z,q⟩=>⟨by rw[<- r.length];exact z,?_⟩);have G:H1 B.heap.objs.size=none:=F.hok.fresh (zai _);refine⟨.ref B.heap.objs.size,upd H1 B.heap.objs.size (.tup xs),F.laid (t':=B.toks) (λb u e=>zan _ e) (zai _) ?_,rfl,q _ G⟩;exact⟨z,J,r,⟨_,zaE _ rfl,rfl,_,rfl,rfl⟩⟩
theorem VU(h:PA X es t):PE X (.List es pos) (qaz t):=by
 intro pins s σ H Q I M;refine wpAny_List_spliced (cS (h pos pins s σ H _ I M) λJ B ⟨xs,H1,F,r,z,q⟩=>⟨by rw[<- r.length];exact z,?_⟩);have G:H1 B.heap.objs.size=none:=F.hok.fresh (zai _);refine⟨.ref B.heap.objs.size,upd H1 B.heap.objs.size (.lst xs),F.laid (t':=B.toks) (λb u e=>zan _ e) (zai _) ?_,rfl,q _ G⟩;exact⟨z,J,0,r,zaE _ rfl⟩
end
abbrev Sp:=List V->Hp->VK->XK->Prop
abbrev JE:=List Env->Hp->zad->XK->Value->zad->Prop
structure Env0(P:zah)(w:World)(K:zae)(mg:Str->Option Value)(base:Heap)(A:zam)(outer:List Env)(s:zad)(H:Hp):Prop where
 frames:A.frames=some outer
 mod:Mod K mg base
 bs:∀b o,base.get? b=some o->s.heap.get? b=some o/\H b=none
 bsz:base.objs.size<=s.heap.objs.size
 funs:s.heap.FunFrames base outer
 frf:∀b∈frs outer,H b=none
 hok:HOk P w H s.heap
 bare:zbO s.gens
def CE(q:List Env)(P:zah)(w:World)(H:Hp)(s:zad)(Q:VK)(u:Value)(s':zad):Prop:=
 ∃v H',s'.os=s.os/\zbO s'.gens/\Un (frs q) [] H H' s.heap s'.heap/\HOk P w H' s'.heap/\RelV v u/\Q v H'
def CR(CX:JE)(outer:List Env)(P:zah)(w:World)(H:Hp)(s:zad)(Q:VK)(E:XK)(r:Result)(s':zad):Prop:=
 match r with
 | .ok (.ret u)=>CE outer P w H s Q u s'
 | .ok _=>False
 | .error e=>CX outer H s E e s'
structure FnOk(P:zah)(w:World)(K:zae)(mg:Str->Option Value)(base:Heap)(CX:JE)(k:Nat)(f:Addr)(fd:zbf)(ps:List Str)(sp:Sp):Prop where
 len:∀vs H Q E,sp vs H Q E->vs.length=ps.length
 run:∀(A:zam) (outer:List Env) (s:zad) (H:Hp) (args:Args) (us:List Value) (vs:List V) (Q:VK) (E:XK),Room k A->Env0 P w K mg base A outer s H->BindsTo s fd args (ps.zip us)->Vals vs us->sp vs H Q E->
  zbF (model P w) A (.call (.ref f) args) (CR CX outer P w H s Q E) s
theorem FnOk.mono{P:zah}{w:World}{K:zae}{mg:Str->Option Value}{base:Heap}{CX:JE}{j k:Nat}{f:Addr}{fd:zbf}{ps:List Str}{sp:Sp}(F:FnOk P w K mg base CX j f fd ps sp)(h:j<=k) :
  FnOk P w K mg base CX k f fd ps sp:=⟨F.len,λA q s H args z vs Q E B=>F.run A q s H args z vs Q E (B.mono h)⟩
theorem Env0.make{P:zah}{w:World}{K:zae}{mg:Str->Option Value}{base:Heap}{A:zam}{q:List Env}{s:zad}{H:Hp}(e:Env0 P w K mg base A q s H)(C:Addr)(z:List Value)(kw:List (Str×Value)) :
  Env0 P w K mg base (A.under (.builtin "type.__call__" ⟨.ref C::z,kw⟩)) q s H:=⟨by first|exact e.frames|(simpa[Around.under,Code.envs,Code.isFrame,pushEnvs]using e.frames),e.mod,e.bs,e.bsz,e.funs,e.frf,e.hok,e.bare⟩
section
variable {X:Cx}{pins:List (Addr×Obj)}{σ:St}{H:Hp}{s s':zad}
theorem Inv.env0(I:Inv X pins σ H s):Env0 X.prog X.w X.K X.mg X.base X.A X.stack s H:=
 ⟨I.ok.frames,I.ok.mod,I.bs,zaL I.ok.bsz I.sz,I.stack,I.stkFree,I.hok,I.bare⟩
theorem Inv.after(I:Inv X pins σ H s)(h:CE X.stack X.prog X.w H s Q u s'):EP X pins σ Q u s':=by
 obtain⟨v,H',J,B,un,G,r,q⟩:=h;obtain⟨M,g,d,t,F⟩:=s';obtain rfl:F=s.os:=J;exact⟨v,H',I.call (h':=M) (g':=g) (d':=d) (t':=t) (ch:=[]) un G B (λb z=>absurd z (by simp)),r,q⟩
end
def XX(sp:Sp)(dvs:List V)(E:XK)(t:TA):TE:=λσ H Q=>t σ H λvs H1=>sp (vs++dvs) H1 Q E
def YX(C:Addr)(sp:Sp)(dvs:List V)(E:XK)(t:TA):TE:=λσ H Q=>t σ H λvs H1=>∀x dx,H1 x=none->H1 dx=none->dx≠x->
 sp (.ref x::(vs++dvs)) (upd (upd H1 dx (.own x)) x (.ins C dx [])) (λv H2=>v=.non/\Q (.ref x) H2) E
def Binds(K:zae)(fd:zbf)(ps:List Str)(ds:List Value):Prop:=
 ∀(s:zad) (us:List Value),K.In s.heap->(us++ds).length=ps.length->BindsTo s fd ⟨us,[]⟩ (ps.zip (us++ds))
theorem Binds.all{K:zae}{fd:zbf}{ps:List Str}(h:∀q:List Value,q.length=ps.length->bindArgs fd ⟨q,[]⟩=pure (ps.zip q)):Binds K fd ps []:=λs q _ z=>by
 rw[zbb]at z ⊢;exact .of_eq (h q z)
def tH(CX:JE)(X:Cx)(E:XK):Prop:=∀(pins:List (Addr×Obj)) (σ:St) (H:Hp) (s:zad) (e:Value) (s':zad),Inv X pins σ H s->CX X.stack H s E e s'->X.xe e s'
section
variable {X:Cx}{CX:JE}{k:Nat}{f C:Addr}{fd:zbf}{ps:List Str}{sp:Sp}{dvs:List V}{ds:List Value}{E:XK}{x m:Str}{p pos apos:Pos}{e o:Expr}{es:List Expr}{ta:TE}{t:TA}
theorem VA(F:FnOk X.prog X.w X.K X.mg X.base CX k f fd ps sp)(B:Room k X.A)(G:Binds X.K fd ps ds)(hd:Vals dvs ds)(hx:tH CX X E)
  (I:Inv X pins σ H s) (r:Vals vs us) (h:sp (vs++dvs) H Q E):wpAny (model X.prog X.w) X.A (call (.ref f) us) (EP X pins σ Q) X.xe s:=by
 have r2:Vals (vs++dvs) (us++ds):=r.append hd;have z:(us++ds).length=ps.length:=by rw[<- r2.length];exact F.len _ _ _ _ h
 refine wpAny_call (zdf (F.run X.A X.stack s H ⟨us,[]⟩ (us++ds) (vs++dvs) Q E B I.env0 (G s us I.kIn z) r2 h) λr s' q=>?_);cases r with
 | error e=>exact hx pins σ H s e s' I q
 | ok fl=>
  cases fl with
  | ret u=>exact I.after q
  | next=>exact za8 q
  | brk=>exact za8 q
  | cont=>exact za8 q
theorem wQ(F:FnOk X.prog X.w X.K X.mg X.base CX k f fd ps sp)(J:Room k X.A)(Y:Gl X x)(N:X.mg x=some (.ref f))(M:zbG X.K (.ref f)=true)(hb:Binds X.K fd ps ds)(hd:Vals dvs ds)(hx:tH CX X E)
  (U:PA X (e::es) t) (z:(x == ("__debug__" : Str))=false:=by decide) (he:zag (e::es) X.env=(false,eval e X.env)::zag es X.env:=by rfl) (B:(zaG pos (zag es X.env)).any (·.1)=false:=by rfl) :
  PE X (.Call (.Name x p) (e::es) [] pos) (XX sp dvs E t):=by
 intro pins s σ H Q I h;refine zdg (EB I Y N ?_ z);refine PySem.W.callWith_K (h₀:=X.base) I.ok.mod.kin M (cS (U pos pins s σ H _ I h) λus s1 ⟨vs,H1,G,r,q⟩=>⟨G.kIn,?_⟩) he B;exact VA F J hb hd hx G r q
structure Mk(K:zae)(C f:Addr):Prop where
 makes:zd1 K C=true
 init:zbx K (.ref C) "__init__" = some (some (.ref f))
 fn:PySem.W.isFn K (.ref f)=true
 kp:zbG K (.ref C)=true
theorem LP(M:Mk X.K C f)(F:FnOk X.prog X.w X.K X.mg X.base CX k f fd ps sp)(J:Room (k+1) X.A)(U:Binds X.K fd ps ds)(hd:Vals dvs ds)
  (hx:tH CX X E) (I:Inv X pins σ H s) (r:Vals vs us)
  (h:∀x dx,H x=none->H dx=none->dx≠x->sp (.ref x::(vs++dvs)) (upd (upd H dx (.own x)) x (.ins C dx [])) (λv H2=>v=.non/\Q (.ref x) H2) E) :
  wpAny (model X.prog X.w) X.A (call (.ref C) us) (EP X pins σ Q) X.xe s:=by
 have B:=h (s.heap.objs.size+1) s.heap.objs.size (I.hok.fresh (Nat.le_succ _)) (I.hok.fresh (zai _)) (zaF (zdc _));have z:=Inv.made (C:=C) I;have r2:Vals (V.ref (s.heap.objs.size+1)::(vs++dvs)) (zaq (s.heap.objs.size+1)::(us++ds)):=.cons rfl (r.append hd);have G:(zaq (s.heap.objs.size+1)::us++ds).length=ps.length:=by
  have e:=r2.length;rw[F.len _ _ _ _ B]at e;exact e.symm
 refine wpAny_call (LM (f:=f) I.kIn M.makes M.init (beq_iff_eq.mp M.fn) (zdf (F.run _ X.stack _ _ ⟨zaq (s.heap.objs.size+1)::us,[]⟩ (zaq (s.heap.objs.size+1)::(us++ds)) _ _ E (J.make C us [])
  (z.env0.make C us []) (U _ (zaq (s.heap.objs.size+1)::us) z.kIn G) r2 B) λr s' q=>?_))
 cases r with
 | error e=>exact hx pins σ _ _ e s' z q
 | ok fl=>
  cases fl with
  | ret u=>
   obtain⟨v,H',Y,W,ev,N⟩:=z.after q;subst ev;exact⟨W,⟨V.ref (s.heap.objs.size+1),H',Y,rfl,N⟩⟩
  | next=>exact za8 q
  | brk=>exact za8 q
  | cont=>exact za8 q
theorem RH(M:Mk X.K C f)(F:FnOk X.prog X.w X.K X.mg X.base CX k f fd ps sp)(J:Room (k+1) X.A)(Y:Gl X x)(N:X.mg x=some (.ref C))(hb:Binds X.K fd ps ds)(hd:Vals dvs ds)(hx:tH CX X E)
  (U:PA X (e::es) t) (z:(x == ("__debug__" : Str))=false:=by decide) (he:zag (e::es) X.env=(false,eval e X.env)::zag es X.env:=by rfl) (B:(zaG pos (zag es X.env)).any (·.1)=false:=by rfl) :
  PE X (.Call (.Name x p) (e::es) [] pos) (YX C sp dvs E t):=by
 intro pins s σ H Q I h;refine zdg (EB I Y N ?_ z);refine PySem.W.callWith_K (h₀:=X.base) I.ok.mod.kin M.kp (cS (U pos pins s σ H _ I h) λus s1 ⟨vs,H1,G,r,q⟩=>⟨G.kIn,?_⟩) he B;exact LP M F J hb hd hx G r q
end
section
variable {X:Cx}{CX:JE}{k:Nat}{f C:Addr}{fd:zbf}{ps ks:List Str}{sp:Sp}{E:XK}{x m:Str}{p pos apos kpos:Pos}{e o:Expr}{es:List Expr}{kws:List zcj}{te ta:TE}{t tk:TA}{nm:Option Str}
variable {g:List Value->List Value->List Value}{gV:List V->List V->List V}
end
structure FnScope(N P:List Str)(sc:Scope):Prop where
 kind:sc.kind=.function
 co:sc.isCoroutine=false
 gen:sc.isGenerator=false
 nd:N.Nodup
 pre:N.take P.length=P
 par:∀x∈P,sc.names.lookup x=some .local\/sc.names.lookup x=some .cell
 nofree:∀y∈sc.names,y.2≠.free
theorem uT{zbg:Str->Option zby}:∀ {binds:List (Str×Value)} {m:Str->Option Value},(∀v,(x,v)∉binds)->bindL zbg binds m x=m x
 | [],_,_=>rfl
 | (n,v)::r,m,h=>by
  unfold bindL;rw[uT λw hw=>h w (zap _ hw)];split
  ·have:x≠n:=by rintro rfl;exact h v zat
   simp[this]
  ·rfl
theorem uX{zbg:Str->Option zby}:∀ {binds:List (Str×Value)} {m:Str->Option Value},(∀v,(x,v)∉binds)->bindC zbg binds m x=m x
 | [],_,_=>rfl
 | (n,v)::r,m,h=>by
  unfold bindC;rw[uX λw hw=>h w (zap _ hw)];split
  ·rfl
  ·have:x≠n:=by rintro rfl;exact h v zat
   simp[this]
theorem vC{zbg:Str->Option zby}{x:Str}{v:Value}:∀ {P:List Str} {vs:List Value} {i:Nat} {m:Str->Option Value},P.Nodup->P[i]?=some x->vs[i]?=some v->zbg x=some .local->
  bindL zbg (P.zip vs) m x=some v
 | [],_,_,_,_,h,_,_=>by simp at h
 | _::_,[],_,_,_,_,h,_=>by simp at h
 | p::P,w::vs,0,m,nd,h1,h2,hk=>by
  simp at h1 h2;subst h1;subst h2;show bindL zbg ((p,w)::P.zip vs) m p=_;unfold bindL;rw[uT λv q=>(List.nodup_cons.mp nd).1 (zd2 q).1,if_pos hk];simp
 | p::P,w::vs,i+1,m,nd,h1,h2,hk=>by
  show bindL zbg ((p,w)::P.zip vs) m x=_;unfold bindL;exact vC (i:=i) (List.nodup_cons.mp nd).2 (by simpa using h1) (by simpa using h2) hk
theorem vH{zbg:Str->Option zby}{x:Str}{v:Value}:∀ {P:List Str} {vs:List Value} {i:Nat} {m:Str->Option Value},P.Nodup->P[i]?=some x->vs[i]?=some v->zbg x≠some .local->
  bindC zbg (P.zip vs) m x=some v
 | [],_,_,_,_,h,_,_=>by simp at h
 | _::_,[],_,_,_,_,h,_=>by simp at h
 | p::P,w::vs,0,m,nd,h1,h2,hk=>by
  simp at h1 h2;subst h1;subst h2;show bindC zbg ((p,w)::P.zip vs) m p=_;unfold bindC;rw[uX λv q=>(List.nodup_cons.mp nd).1 (zd2 q).1,if_neg hk];simp
 | p::P,w::vs,i+1,m,nd,h1,h2,hk=>by
  show bindC zbg ((p,w)::P.zip vs) m x=_;unfold bindC;exact vH (i:=i) (List.nodup_cons.mp nd).2 (by simpa using h1) (by simpa using h2) hk
def start(N:List Str)(vs:List V):St:=vs.map some++zck (N.length-vs.length) none
def i7(CX:JE)(P:zah)(w:World)(K:zae)(mg:Str->Option Value)(base:Heap)(N:List Str)(q:Str)(scope:Scope)(f:Addr)(B:Value)(A:zam)(outer:List Env)(s:zad)(H:Hp)(E:XK):Cx where
 prog:=P
 w:=w
 K:=K
 mg:=mg
 base:=base
 A:=A.deeper (zaN q scope s.heap.objs.size f B)
 N:=N
 s₀:=s
 H₀:=H
 env:=zaN q scope s.heap.objs.size f B
 outer:=outer
 stack:=zaN q scope s.heap.objs.size f B::outer
 ex:=[]
 calm:=true
 fn:=λ_=>true
 pn:=[]
 xe:=λe s'=>wpAny (model P w) (A.deeper (zaN q scope s.heap.objs.size f B)) (leaving (zaN q scope s.heap.objs.size f B) e) (λ_ z=>CX outer H s E e z) (λF z=>CX outer H s E F z) s'
theorem mR{sc:Scope}{n:Nat}{x:Str}(h:sc.names.lookup x=some .cell):∃c,(zb6 n sc.names []).lookup x=some c:=by
 have q:=PySem.W.cellsFrom_some sc.names n [] (.inl h);exact Option.isSome_iff_exists.mp q
theorem HG{CX:JE}{P:zah}{w:World}{K:zae}{mg:Str->Option Value}{base:Heap}{N ps:List Str}{F:Str}{scope:Scope}{f:Addr}{Y:Value}{A:zam}{B:List Env}{s s1:zad}{H:Hp}{E:XK}{us:List Value}{vs:List V}
  (S:FnScope N ps scope) (hd:A.handled=none) (G:Env0 P w K mg base A B s H) (hl:vs.length=ps.length) (r:Vals vs us)
  (x:InCallC s s.heap.objs.size (bindL (zaN F scope s.heap.objs.size f Y).kindOf (ps.zip us) λ_=>none) (zb6 (s.heap.objs.size+1) scope.names []) (bindC (zaN F scope s.heap.objs.size f Y).kindOf (ps.zip us) λ_=>none) s1) :
  Inv (i7 CX P w K mg base N F scope f Y A B s H E) [] (start N vs) H s1:=by
 have ae:ps.length<=N.length:=by have:=congrArg zbo S.pre;rw[zb7]at this;lia
 obtain⟨h1,tk,rfl,hk⟩:=x.done;have J:∀b:Addr,b∉(i7 CX P w K mg base N F scope f Y A B s H E).ex:=λb z=>absurd (show b∈([]:List Addr)from z) (by simp)
 refine⟨⟨G.mod,S.kind,rfl,rfl,zai _,λy z c h1 h2=>?_,λy M=>?_,λy c _ h=>?_,λ_=>hd,Around.frames_deeper G.frames,.inr ⟨rfl,rfl⟩,λb z=>absurd z (J b),G.bs,G.bsz,λb _ _=>J b,λb z=>absurd z (J b),G.funs,G.frf⟩,
  rfl,G.bare,Un.kept hk,⟨_,x.toInCall.ns,λi y v h1 h2 h3=>?_⟩,λy c h=>⟨_,x.cell y c h⟩,G.hok.fresh (zai _),λy c h=>?_,λp W=>absurd (show p∈([]:List (Addr×Obj))from W) (by simp),G.hok.kept hk,?_⟩
 ·exact name_of_addr x.apart (zcy h1) (zcy h2)
 ·have M:scope.names.lookup y=some .cell\/scope.names.lookup y=some .free:=M
  rcases M with M|M
  ·exact mR M
  ·exact absurd rfl (S.nofree _ (zcy M))
 ·exact Nat.le_of_lt (x.above y c (zcy h))
 ·have hi:i<vs.length:=by
   unfold start at h2;by_cases hi:i<vs.length
   ·exact hi
   ·rw[zdh (by simpa using hi)]at h2
    rw[List.getElem?_replicate]at h2;split at h2 <;> cases h2
  have ha:vs[i]?=some v:=by
   unfold start at h2;rw[zd3 (by simpa using hi),zaC]at h2;cases e:vs[i]? with
   | none=>rw[e]at h2;cases h2
   | some a=>rw[e]at h2;cases h2;rfl
  obtain⟨u,hu,rv⟩:=r.get ha;have W:ps[i]?=some y:=by
   rw[<- S.pre,List.getElem?_take_of_lt (by lia)];exact h1
  have U:ps.Nodup:=by rw[<- S.pre];exact S.nd.sublist (zdi _ _)
  refine⟨u,rv,?_⟩;rcases S.par y (zax W)with k|k
  ·exact .inl ⟨k,vC U W hu k⟩
  ·obtain⟨c,e⟩:=mR (n:=s.heap.objs.size+1) k
   refine .inr ⟨.inl k,c,e,?_⟩;have q:=x.cell y c e;rw[vH U W hu (by show scope.names.lookup y≠_;rw[k];decide)]at q;exact q
 ·exact G.hok.fresh (Nat.le_of_lt (x.above y c (zcy h)))
 ·unfold start
  show _=N.length;rw[zbc,zal,List.length_replicate]
  lia
theorem XE{CX:JE}{P:zah}{w:World}{K:zae}{mg:Str->Option Value}{base:Heap}{k:Nat}{f:Addr}{name B:Str}{G:Arguments}{M:List Stmt}{scope:Scope}{dV kV ab pm F ct oc:Value}{an od:Option Addr}
  {ag:Array (Option Value)} {N ps:List Str} {sp:Sp} (lk:K.lookup f=some ⟨oc,od,.func (zbh name B G M scope dV kV ab pm an F ct),ag⟩) (ai:zcl K F B=true) (S:FnScope N ps scope)
  (ad:∀vs H Q E,sp vs H Q E->vs.length=ps.length)
  (Y:∀(A:zam) (z:List Env) (s:zad) (H:Hp) (vs:List V) (Q:VK) (E:XK), Room k (A.deeper (zaN B scope s.heap.objs.size f F)) -> sp vs H Q E ->
   ∃t,PSs (i7 CX P w K mg base N B scope f F A z s H E) M t/\t {nx:=λ_ H'=>Q .non H',rt:=Q} (start N vs) H) :
  FnOk P w K mg base CX (k+1) f (zbh name B G M scope dV kV ab pm an F ct) ps sp:=by
 refine⟨ad,λA z s H args us vs Q E hr e0 hb r hsp=>?_⟩;have hl:=ad _ _ _ _ hsp;have KX:K.In s.heap:=e0.mod.kin.keeps λb o e=>(e0.bs b o e).1
 have ae:s.heap.NoLimit:=e0.mod.nolimit.keeps λb o e=>(e0.bs b o e).1
 have aa:∀y∈ps.zip us,scope.names.lookup y.1=some .local\/(scope.names.lookup y.1=some .cell/\((zb6 (s.heap.objs.size+1) scope.names []).lookup y.1).isSome=true):=by
  rintro⟨n,v⟩ hy;rcases S.par n (zd2 hy).1 with q|q
  ·exact .inl q
  ·exact .inr ⟨q,PySem.W.cellsFrom_some _ _ _ (.inl q)⟩
 refine codeAny_call_function hr.depth (KX _ _ lk) rfl S.co S.gen rfl (PySem.W.codeRec_of KX ai) (hb _ _ _ _ ?_);refine wpAny_newFunctionEnv_cells S.kind aa λenv he s1 x=>?_
 subst he;refine⟨ae.keeps x.toInCall.keep,codeAny_func ?_⟩;obtain⟨t,ht,hq⟩:=Y A z s H vs Q E (hr.deeper _) hsp;have I:Inv (i7 CX P w K mg base N B scope f F A z s H E) [] (start N vs) H s1:=HG S hr.hd e0 hl r x;refine za7 (ht [] s1 (start N vs) H _ I hq) (λfl s' hs=>?_) λe s' hs=>hs
 have fin:∀ {U:St} {H':Hp} {v:V} {u:Value},Inv (i7 CX P w K mg base N B scope f F A z s H E) [] U H' s'->RelV v u->Q v H'->CE z P w H s Q u s':=
  λ{U H' v u} J rv q=>⟨v,H',J.os,J.bare,J.base,J.hok,rv,q⟩
 cases fl with
 | ret u=>
  obtain⟨v,U,H',J,rv,q⟩:=hs;exact fin J rv q
 | next=>
  obtain⟨U,H',J,q⟩:=hs;exact fin (v:=V.non) (u:=za5) J rfl q
 | brk=>
  obtain⟨_,_,_,q⟩:=hs;exact za8 q
 | cont=>
  obtain⟨_,_,_,q⟩:=hs;exact za8 q
section
variable {X:Cx}{x:Str}{p pos:Pos}{e:Expr}{es:List Expr}{t:TA}{id T:String}{r:List V->Hp->VK->Prop}
def qq(r:List V->Hp->VK->Prop)(t:TA):TE:=λσ H Q=>t σ H λvs H1=>r vs H1 Q
theorem yS(hc:CallR X (.builtin id) r)(W:Gl X x)(J:X.mg x=none)(F:zaH x=some (.builtin id))(U:PA X (e::es) t)(B:x ≠ "__name__" := by decide)(q:(x == ("__debug__" : Str))=false:=by decide)
  (Y:zag (e::es) X.env=(false,eval e X.env)::zag es X.env:=by rfl) (z:(zaG pos (zag es X.env)).any (·.1)=false:=by rfl):PE X (.Call (.Name x p) (e::es) [] pos) (qq r t):=by
 intro pins s σ H Q I h;refine zdg (lI I W J F ?_ B q);exact PyProof.Rows.callWith_builtin1 (cS (U pos pins s σ H _ I h) λus G ⟨vs,H1,N,r1,M⟩=>hc pins G σ H1 vs us Q N r1 M) Y z
theorem kJ(hc:CallR X (.type T) r)(W:Gl X x)(J:X.mg x=none)(F:zaH x=some (.type T))(U:PA X (e::es) t)(B:x ≠ "__name__" := by decide)(q:(x == ("__debug__" : Str))=false:=by decide)
  (Y:zag (e::es) X.env=(false,eval e X.env)::zag es X.env:=by rfl) (z:(zaG pos (zag es X.env)).any (·.1)=false:=by rfl):PE X (.Call (.Name x p) (e::es) [] pos) (qq r t):=by
 intro pins s σ H Q I h;refine zdg (lI I W J F ?_ B q);exact zcP (cS (U pos pins s σ H _ I h) λus G ⟨vs,H1,N,r1,M⟩=>hc pins G σ H1 vs us Q N r1 M) Y z
end
end L2
namespace HT
open PySem PyProof.Rows
noncomputable def lexLt:List Int->List Int->Bool
 | [],[]=>false
 | [],_::_=>true
 | _::_,[]=>false
 | x::xs,y::ys=>if x=y then lexLt xs ys else decide (x<y)
theorem k9(x y:Int)(xs ys:List Int):lexLt (x::xs) (y::ys)=if x=y then lexLt xs ys else decide (x<y):=rfl
theorem uA:lexLt [] []=false:=rfl
theorem qI(y:Int)(ys:List Int):lexLt [] (y::ys)=true:=rfl
theorem qK(x:Int)(xs:List Int):lexLt (x::xs) []=false:=rfl
theorem LK(A:zam)(s:zad)(a:Int)(t:Tok)(c:Int)(u:Tok):∃e,SeqAt.EqAt A s (.int a t) (.int c u) e/\(e=true↔a=c):=
 ⟨(a == c),SeqAt.EqAt.int_int a t c u,by simp⟩
theorem zU(A:zam)(s:zad)(a:Int)(t:Tok)(c:Int)(u:Tok)(prog:zah)(w:World)(E:Value->zad->Prop)(Q:Value->zad->Prop)(h:Q (.bool (decide (a<c))) s) :
  wpAny (model prog w) A (richCompare .Lt (.int a t) (.int c u)) Q E s:=
 (PyProof.Rows.lt_int h:wpAny (model prog w) A (zaA .Lt (.int a t) (.int c u)) Q E s)
section
open PySem.SeqAt
open PySem.AutoSeq1 (wpAny_loadPart')
open PySem.MeetsSeq PySem.MeetsSeq2 PySem.MeetsSeq3
theorem uD(l b:Addr)(items z:Array Value)(n n2:Nat)(dd ad:Option Addr)(sl ae:Array (Option Value))(ns ms:List Int)(hi:zbi items.toList ns)(hj:zbi z.toList ms) :
  Meets (zbN.«tuple.__lt__» ⟨[.ref l,.ref b],[]⟩)
   (λ_ R s => s.heap.get? l = some {cls := .type "tuple", dict:=dd, data := .seq items n, slots:=sl} /\ s.heap.get? b = some {cls := .type "tuple", dict:=ad, data := .seq z n2, slots:=ae} /\
    R (.ok (.ret (.bool (lexLt ns ms)))) s):=
 .of_wp λprog w A R s h=>by
  obtain⟨hp,g,d,tk,os⟩:=s;obtain⟨hl,hb,h⟩:=h;have f2:=AutoSeq1.sub_tuple_tuple;have z1:items.size=ns.length:=by rw[<- hi.length];simp
  have z2:z.size=ms.length:=by rw[<- hj.length];simp
  wp_walk using zbp hl,zbp hb,zcv _ (λrest b s'=>b.1=none/\s'=⟨hp,g,d,tk,os⟩/\∃(vs ws:List Value) (G F:List Int),rest=vs.zip ws /\
   zbi vs G/\zbi ws F/\G.length+z.size=F.length+items.size/\R (.ok (.ret (.bool (lexLt G F)))) ⟨hp,g,d,tk,os⟩) _
  case turn=>
   rintro⟨y,x⟩ rest b s' ⟨W,rfl,vs,ws,G,F,J,Y,M,B,U⟩;cases Y with
   | nil=>rw[List.zip_nil_left]at J;cases J
   | cons a t hvi'=>
    cases M with
    | nil=>rw[List.zip_nil_right]at J;cases J
    | cons c u hwi'=>
     rw[zcm]at J;injection J with hyx hrest
     injection hyx with hy hx
     subst hy hx;rw[k9]at U;simp only[zaw]at B;obtain⟨e,he,N⟩:=LK A.in1 ⟨hp,g,d,tk,os⟩ a t c u;refine zaa (he prog w _ _ ?_);cases e with
     | true=>
      rw[if_pos (N.mp rfl)]at U
      wp_walk
      exact⟨rfl,rfl,_,_,_,_,hrest,hvi',hwi',by lia,U⟩
     | false=>
      rw[if_neg (λq=>absurd (N.mpr q) zaB)]at U;have af:=zU A.in1 ⟨hp,g,d,tk,os⟩ a t c u prog w
      wp_walk using af
      exact⟨_,rfl,by simpa using U⟩
  case fin=>
   rintro⟨b1,b2⟩ s' ⟨W,rfl,vs,ws,G,F,J,Y,M,B,U⟩;simp only at W;subst W;have hv:lexLt G F=decide (items.size<z.size):=by
    cases Y with
    | nil=>
     cases M with
     | nil=>
      simp only[zbn]at B;rw[uA];exact(decide_eq_false (by lia)).symm
     | cons c u hw=>
      simp only[zbn,zaw]at B;rw[qI];exact(decide_eq_true (by lia)).symm
    | cons a t hv=>
     cases M with
     | nil=>
      simp only[zbn,zaw]at B;rw[qK];exact(decide_eq_false (by lia)).symm
     | cons c u hw=>
      rw[zcm]at J;cases J
   rw[hv]at U
   wp_walk
   exact⟨_,rfl,by simpa[zes]using U⟩
  case h=>
   exact⟨rfl,rfl,items.toList,z.toList,ns,ms,rfl,hi,hj,by lia,h⟩
end
section
variable {prog:zah}{w:World}{A:zam}{E:Value->zad->Prop}{s:zad}
theorem B1(Y:IsTup s.heap l items)(hb:IsTup s.heap b items2)(hi:zbi items.toList ns)(hj:zbi items2.toList ms)
  (hu:A.units<cLine) (h:Q (.bool (lexLt ns ms)) s):wpAny (model prog w) A (zaA .Lt (.ref l) (.ref b)) Q E s:=by
 obtain⟨⟨cls,dd,data,sl⟩,N,U,n,hd⟩:=id Y;obtain⟨⟨W,M,J,G⟩,B,z,n2,q⟩:=id hb;simp only at U hd z q;subst U hd z q;exact richCompare_meets_room (op:=.Lt) ⟨_,N,rfl⟩ ⟨_,B,rfl⟩ PySem.F.slot_tuple_lt PySem.F.entry_tuple_lt (PySem.F.args_tuple_lt_2 _ _) (uD l b items items2 n n2 dd M sl G ns ms hi hj)
  ⟨N,B,show zcu (lexLt ns ms)≠Value.notImplemented/\Q (.bool (lexLt ns ms)) s from⟨(λx=>nomatch x),h⟩⟩ hu
theorem OM(ht:IsTup s.heap t vs.toArray)(hb:IsTup s.heap b ws.toArray)(N:vs≠[])
  (h1:ws=[]->Q (.ref t) s) (h2:ws≠[]->Q (.ref s.heap.objs.size) {s with heap:=s.heap.push {cls:=.type "tuple",data:=.seq (vs++ws).toArray} })
  (hsz:vs.length+ws.length<=zaj):wpAny (model prog w) A (zaM .Add (.ref t) (.ref b)) Q E s:=by
 obtain⟨⟨cls,U,data,W⟩,J,hc,n,hd⟩:=id ht;obtain⟨⟨ab,F,M,z⟩,q,G,Y,B⟩:=id hb;simp only at hc hd G B;subst hc hd G B;have e:vs.toArray++ws.toArray=(vs++ws).toArray:=by simp
 by_cases hw:ws=[]
 ·exact concat_meets ⟨_,J,rfl⟩ ⟨_,q,rfl⟩ zd4 seq_tuple_add zd5 zd6 (zd7 _ _)
   (tuple_addW1 t b vs.toArray ws.toArray n Y U F W z (by simpa using N) (by simp[hw])) ⟨J,q,h1 hw⟩
 ·refine concat_meets ⟨_,J,rfl⟩ ⟨_,q,rfl⟩ zd4 seq_tuple_add zd5 zd6 (zd7 _ _)
   (tuple_addW2 t b vs.toArray ws.toArray n Y U F W z (by simpa using N) (by simpa using hw) (by rw[zay,zay];exact hsz)) ⟨J,q,?_⟩
  rw[e];exact h2 hw
noncomputable def sIx(n d:Nat):Option Int->Nat
 | none=>d
 | some v=>if v<0 then(v+(n:Int)).toNat else min v.toNat n
theorem VD(n d:Nat)(hd:d<=n)(o:Option Int):sIx n d o<=n:=by
 cases o with
 | none=>exact hd
 | some v=>
  show(if v<0 then(v+(n:Int)).toNat else min v.toNat n)<=n;by_cases q:v<0
  ·rw[if_pos q];lia
  ·rw[if_neg q];exact Nat.min_le_right _ _
theorem DY(v:Int)(n d:Nat):(if v<0 then max (v+(n:Int)) 0 else min v (n:Int))=((sIx n d (some v):Nat):Int):=by
 show(if v<0 then max (v+(n:Int)) 0 else min v (n:Int))=(((if v<0 then(v+(n:Int)).toNat else min v.toNat n):Nat):Int);by_cases q:v<0
 ·simp only[if_pos q];lia
 ·simp only[if_neg q];lia
theorem BQ(lo hi:Option Int)(n:Nat):zd8 lo hi 1 (n:Int)=(((sIx n 0 lo:Nat):Int),((sIx n n hi:Nat):Int)):=by
 have h1:¬ ((1:Int)<0):=by lia
 unfold zd8;simp only[h1,if_false];refine Prod.ext ?_ ?_
 ·cases lo with
  | none=>rfl
  | some v=>exact DY v n 0
 ·cases hi with
  | none=>rfl
  | some v=>exact DY v n n
theorem BS(i j:Nat):zdj (i:Int) (j:Int) 1=j-i:=by
 unfold zdj;have h1:(1:Int)>0:=by lia
 simp only[h1,if_true,Int.ediv_one];split <;> lia
theorem rB(p:zbH v o)(h:Q o s):wpAny (model prog w) A (Builtin.Slice.slicePartIndex v) Q E s:=by
 cases p with
 | none=>exact slicePart_none h
 | int i t=>exact slicePart_int h
theorem g7{G:Addr}{B F:Value}{lo hi:Option Int}{n:Nat}{Q:Int×Int×Nat->zad->Prop}(hs:s.heap.IsSliceOf G B F .none)(M:zbH B lo)(J:zbH F hi)
  (h:Q (((sIx n 0 lo:Nat):Int),1,sIx n n hi-sIx n 0 lo) s):wpAny (model prog w) A (Builtin.Slice.sliceApplied (.ref G) (pure (n:Int))) Q E s:=by
 obtain⟨U,q,N,z⟩:=id hs;unfold Builtin.Slice.sliceApplied Builtin.Slice.sliceFields;refine zaa (zaa (zaR q z (x:=B) rfl (zaa (zaR q z (x:=F) rfl (zaa (zaR q z (x:=.none) rfl (zaf ?_)))))));refine zaa (slicePart_none ?_);show wpAny _ _ (if((1:Int) == 0)=true then _ else _) _ _ s;rw[if_neg (by decide)];refine zaa (rB M (zaa (rB J (zaa (zaf ?_)))));show wpAny _ _ (match zd8 lo hi 1 (n:Int)with|(lo,hi)=>pure (lo,(1:Int),zdj lo hi 1)) _ _ s;rw[BQ lo hi n];show wpAny _ _ (pure (((sIx n 0 lo:Nat):Int),(1:Int),zdj ((sIx n 0 lo:Nat):Int) ((sIx n n hi:Nat):Int) 1)) _ _ s;rw[BS];exact zaf h
theorem LD(xs:Array Value)(i k:Nat):((zar k).filterMap λ(m:Nat)=>xs[((i:Int)+(m:Int)*1).toNat]?).toArray=((xs.toList.drop i).take k).toArray:=by
 have e:(λ(m:Nat)=>xs[((i:Int)+(m:Int)*1).toNat]?)=λm=>xs[i+m]?:=by
  funext m;have:((i:Int)+(m:Int)*1).toNat=i+m:=by lia
  rw[this]
 rw[e];have:=pick_run xs i k;rw[List.filterMap_map]at this;have q:((λx=>xs[x]?) ∘ λx=>i+x)=λm=>xs[i+m]?:=rfl
 rw[q]at this;rw[this]
theorem lV{t G:Addr}{items:Array Value}{U W:Value}{lo hi:Option Int}{Q:Value->zad->Prop}(B:IsTup s.heap t items)(hs:s.heap.IsSliceOf G U W .none)(pl:zbH U lo)(Y:zbH W hi)
  (hw:¬ (sIx items.size 0 lo=0/\sIx items.size items.size hi=items.size))
  (h:Q (.ref s.heap.objs.size) {s with heap:=s.heap.push {cls:=.type "tuple",data:=.seq ((items.toList.drop (sIx items.size 0 lo)).take (sIx items.size items.size hi-sIx items.size 0 lo)).toArray} })
  (hsz:items.size<=zaj):wpAny (model prog w) A (zbz (.ref t) (.ref G)) Q E s:=by
 have z:sizeOk (.seq ((items.toList.drop (sIx items.size 0 lo)).take (sIx items.size items.size hi-sIx items.size 0 lo)).toArray):=by
  show((items.toList.drop (sIx items.size 0 lo)).take (sIx items.size items.size hi-sIx items.size 0 lo)).toArray.size<=zaj;rw[zay,zb7,zd9,zbR]
  lia
 have hj:sIx items.size items.size hi<=items.size:=VD _ _ (zai _) hi;obtain⟨os,F,M,ac⟩:=id hs;have N:s.TypeIs (.ref G) "slice" := ⟨os,F,M⟩;unfold zbz
 try with_reducible refine zbE ?_
 first|refine zaa (zaf ?_)|skip
 refine zaa (wpAny_sequenceKey B.typeIs (by decide) ?_);refine zaa (zbI (name:=zbj "__getitem__") B.typeIs zdk
  (zbl zdk B.typeIs entry_tuple_getitem ?_ (args_tuple_getitem _ _)))
 show wpAny _ _ (zdS (.ref t) >>= _) _ _ s;refine zaa (tupleItemsOf_ B ?_);refine zaa (zcz N ?_);rw[if_pos (by decide)];refine zaa (g7 hs pl Y ?_);have J:¬ ((((sIx items.size 0 lo:Nat):Int) == 0 && (1:Int) == 1 && (sIx items.size items.size hi-sIx items.size 0 lo) == items.size)=true):=by
  intro q;rw[zaQ,zaQ]at q;have q1:((sIx items.size 0 lo:Nat):Int)=0:=eq_of_beq q.1.1;have q2:sIx items.size items.size hi-sIx items.size 0 lo=items.size:=eq_of_beq q.2;exact hw ⟨by lia,by lia⟩
 show wpAny _ _ (if(((sIx items.size 0 lo:Nat):Int) == 0 && (1:Int) == 1 && (sIx items.size items.size hi-sIx items.size 0 lo) == items.size)=true then _ else _) _ _ s;rw[if_neg J,LD]
 first
  | exact zaa (m:=zdl _) (zbJ (zaf ⟨_,rfl,zaf h⟩) z)
  | exact zaa (m:=zdl _) (zbJ (zaa (zaf (zaf ⟨_,rfl,zaf h⟩))) z)
  | exact zaa (zaa (m:=zdl _) (zbJ (zaf (zaf ⟨_,rfl,zaf h⟩)) z))
  | exact zaa (zaa (m:=zdl _) (zbJ (zaf ⟨_,rfl,zaf h⟩) z))
end
end HT
namespace L2
open PySem PySem.Spec PyProof.Rows
abbrev TO:=St->Hp->(Option Int->Hp->Prop)->Prop
def PO(X:Cx)(e:Option Expr)(t:TO):Prop:=
 ∀(pins:List (Addr×Obj)) (s:zad) (σ:St) (H:Hp) (Q:Option Int->Hp->Prop),Inv X pins σ H s->t σ H Q->
  wpAny (model X.prog X.w) X.A (evalPart e X.env) (λu s'=>∃o H',Inv X pins σ H' s'/\zbH u o/\Q o H') X.xe s
def QV:TO:=λ_ H Q=>Q none H
def X8(t:TE):TO:=λσ H Q=>t σ H λx H1=>∃i,x=.int i/\Q (some i) H1
theorem intsAre_of:∀ {q:List Value},Vals (ns.map V.int) q->zbi q ns:=by
 induction ns with
 | nil=>intro q r;rw[zcA]at r;cases r;exact .nil
 | cons n ns ih=>
  intro q r;rw[zak]at r;cases r with
  | cons r1 r2=>
   obtain⟨t,e⟩:=r1;subst e;exact .cons n t (ih r2)
section
variable {X:Cx}{e:Expr}{te:TE}{lo hi:Option Expr}{tl th:TO}{pos p2:Pos}
theorem QF:PO X none QV:=by
 intro pins s σ H Q I h;rw[evalPart_none];exact zaf ⟨none,H,I,.none,h⟩
theorem Q8(h:PE X e te):PO X (some e) (X8 te):=by
 intro pins s σ H Q I hw;rw[evalPart_some];refine cS (h pins s σ H _ I hw) λu F ⟨x,H1,z,r1,B⟩=>?_
 obtain⟨i,rfl,q⟩:=B;obtain⟨t,rfl⟩:=r1;exact⟨some i,H1,z,.int i t,q⟩
def SlR(X:Cx)(r:V->Option Int->Option Int->Hp->VK->Prop):Prop:=
 ∀(pins:List (Addr×Obj)) (s:zad) (σ:St) (H:Hp) (x:V) (v vl vu:Value) (lo hi:Option Int) (sl:Addr) (Q:VK),Inv X pins σ H s->RelV x v->s.heap.IsSliceOf sl vl vu .none->zbH vl lo->zbH vu hi->r x lo hi H Q->
  ∃T id,typeLookup (.type T) "__getitem__" = pure (some (.builtin id))/\s.TypeIs v T/\wpAny (model X.prog X.w) X.A (zbz v (.ref sl)) (EP X pins σ Q) X.xe s
theorem SlR.or(h:SlR X r)(h':SlR X r'):SlR X (λx lo hi H Q=>r x lo hi H Q\/r' x lo hi H Q):=by
 intro pins s σ H x v J M lo hi G Q I F hs B z q;rcases q with q|q
 ·exact h pins s σ H x v J M lo hi G Q I F hs B z q
 ·exact h' pins s σ H x v J M lo hi G Q I F hs B z q
def tSl(r:V->Option Int->Option Int->Hp->VK->Prop)(te:TE)(tl th:TO):TE:=λσ H Q=>te σ H λx H1=>tl σ H1 λl H2=>th σ H2 λu q=>r x l u q Q
theorem K2(hr:SlR X r)(U:PE X e te)(hl:PO X lo tl)(hu:PO X hi th):PE X (.Subscript e (.Slice lo hi none p2) pos) (tSl r te tl th):=by
 intro pins s σ H Q I h;refine Subscript_ (cS (U pins s σ H _ I h) λv s1 ⟨x,H1,I1,r1,N⟩=>?_);refine wpAny_Slice (cS (hl pins s1 σ H1 _ I1 N) λF s2 ⟨l,H2,I2,M,q2⟩=>cS (hu pins s2 σ H2 _ I2 q2) λB z ⟨u,G,W,pu,q3⟩=>?_);rw[evalPart_none];refine zaf ?_;have Y:Inv X pins σ G {z with heap:=z.heap.push {cls:=.type "slice",data:=.fields #[F,B,.none]} }:=W.kept (t':=z.toks) λb ob q=>zan _ q
 obtain⟨T,id,hT,J,hg⟩:=hr pins {z with heap:=z.heap.push {cls:=.type "slice",data:=.fields #[F,B,.none]} } σ G x v F B l u z.heap.objs.size Q Y r1 (Heap.IsSliceOf.new ..) M pu q3;show wpAny (model X.prog X.w) X.A (subscriptTail e (.Slice lo hi none p2) v (.ref z.heap.objs.size)) (EP X pins σ Q) X.xe {z with heap:=z.heap.push {cls:=.type "slice",data:=.fields #[F,B,.none]} };exact tail_any (ops:=[.ref z.heap.objs.size,v]) J hT hg (by with_unfolding_all rfl)
def uG(xs:List V)(lo hi:Option Int):List V:=(xs.drop (HT.sIx xs.length 0 lo)).take (HT.sIx xs.length xs.length hi-HT.sIx xs.length 0 lo)
theorem oQ(xs:List V)(lo hi:Option Int):(uG xs lo hi).length<=xs.length:=by
 unfold uG;rw[zb7,zd9]
 lia
def ZH(K:zae):V->Option Int->Option Int->Hp->VK->Prop:=λx lo hi H Q=>∃a xs,x=.ref a/\SqT K H a xs /\
 ¬ (HT.sIx xs.length 0 lo=0/\HT.sIx xs.length xs.length hi=xs.length)/\∀p,H p=none->Q (.ref p) (upd H p (.tup (uG xs lo hi)))
theorem VM:SlR X (ZH X.K):=by
 intro pins s σ H x v N Y lo hi U Q I M hs J G h;obtain⟨a,xs,rfl,hx,hw,q⟩:=h;cases M;obtain⟨its,r,B,F⟩:=I.tuple hx;have z:its.toArray.size=xs.length:=by rw[zay];exact r.length.symm
 refine⟨"tuple",_,PyProof.Rows.slot_tuple_getitem.lookup,B.typeIs,?_⟩;refine HT.lV B hs J G (by rw[z];exact hw) ?_ (by rw[z];exact F);rw[z];refine⟨.ref s.heap.objs.size,_,I.laid (t':=s.toks) (o:=.tup (uG xs lo hi)) (λb W q=>zan _ q) (zai _) ?_,rfl,q _ (I.hok.fresh (zai _))⟩;exact⟨zaL (oQ xs lo hi) F,_,(r.drop (HT.sIx xs.length 0 lo)).take (HT.sIx xs.length xs.length hi-HT.sIx xs.length 0 lo),IsTupN.new _ _⟩
def qaF(K:zae):R2:=λx y H Q=>∃a b ns ms,x=.ref a/\y=.ref b/\SqT K H a (ns.map V.int)/\SqT K H b (ms.map V.int)/\Q (.bl (HT.lexLt ns ms)) H
theorem WK(N:X.A.units<cLine):OpR X (zaA .Lt) (qaF X.K):=by
 intro pins s σ H x y v u Q I G B h;obtain⟨a,b,ns,ms,rfl,rfl,F,U,q⟩:=h;cases G;cases B;obtain⟨its,r1,W,_⟩:=I.tuple F;obtain⟨z,r2,p2,_⟩:=I.tuple U;have M:zbi its.toArray.toList ns:=intsAre_of r1;have J:zbi z.toArray.toList ms:=intsAre_of r2;exact HT.B1 W p2 M J N ⟨.bl (HT.lexLt ns ms),H,I,rfl,q⟩
def YU(K:zae):R2:=λx y H Q=>∃a b xs ys,x=.ref a/\y=.ref b/\SqT K H a xs/\SqT K H b ys/\xs≠[]/\xs.length+ys.length<=zaj /\
 (ys=[]->Q (.ref a) H)/\(ys≠[]->∀p,H p=none->Q (.ref p) (upd H p (.tup (xs++ys))))
theorem Vals.nil_iff(r:Vals xs us):us=[]↔xs=[]:=by
 cases r with
 | nil=>simp
 | cons _ _=>simp
theorem OS:OpR X (zaM .Add) (YU X.K):=by
 intro pins s σ H x y v u Q I N G h;obtain⟨a,b,xs,ys,rfl,rfl,J,W,hx,F,M,U⟩:=h;cases N;cases G;obtain⟨its,r1,Y,_⟩:=I.tuple J;obtain⟨B,r2,p2,_⟩:=I.tuple W;refine HT.OM Y p2 (λz=>hx (r1.nil_iff.mp z)) (λz=>⟨.ref a,H,I,rfl,M (r2.nil_iff.mp z)⟩) (λz=>?_) (by rw[<- r1.length,<- r2.length];exact F);refine⟨.ref s.heap.objs.size,_,I.laid (t':=s.toks) (o:=.tup (xs++ys)) (λb ob q=>zan _ q) (zai _) ?_,rfl,U (λw=>z (r2.nil_iff.mpr w)) _ (I.hok.fresh (zai _))⟩;exact⟨by rw[zbc];exact F,_,r1.append r2,IsTupN.new _ _⟩
end
noncomputable def NY(n:Nat)(i:Int):Option Nat:=if 0<=i then(if i<n then some i.toNat else none)else if -(n:Int)<=i then some (i+n).toNat else none
def gD{α:Type}(xs:List α)(i:Int):Option α:=(NY xs.length i).bind λj=>xs[j]?
theorem EG(h:NY n i=some j):seqIndex? i n=some j/\j<n/\-(n:Int)<=i/\i<n:=by
 unfold NY at h;by_cases q:0<=i
 ·rw[if_pos q]at h
  by_cases h1:i<n
  ·rw[if_pos h1]at h
   have e:i.toNat=j:=zaz h;exact⟨by rw[seqIndex_of q h1,e],by lia,by lia,h1⟩
  ·rw[if_neg h1]at h;cases h
 ·rw[if_neg q]at h
  by_cases h1:-(n:Int)<=i
  ·rw[if_pos h1]at h
   have e:(i+n).toNat=j:=zaz h;exact⟨by rw[seqIndex_neg (by lia) h1,e],by lia,h1,by lia⟩
  ·rw[if_neg h1]at h;cases h
theorem w8{q:Type}{xs:List q}{i:Int}{v:q}(h:gD xs i=some v):∃j,seqIndex? i xs.length=some j/\xs[j]?=some v/\j<xs.length/\-(xs.length:Int)<=i/\i<xs.length:=by
 unfold gD at h;cases e:NY xs.length i with
 | none=>rw[e]at h;cases h
 | some j=>
  rw[e]at h;obtain⟨h1,h2,B,z⟩:=EG e;exact⟨j,h1,h,h2,B,z⟩
theorem bV{q:Type}{xs:List q}{j:Nat}{v:q}(h:xs[j]?=some v):gD xs (j:Int)=some v:=by
 have z:j<xs.length:=(List.getElem?_eq_some_iff.mp h).1;have e:NY xs.length (j:Int)=some j:=by
  unfold NY;rw[if_pos (by lia),if_pos (by lia)];simp
 unfold gD;rw[e];exact h
def xB(b:Expr):Prop:=∀o i,zdm b false o i=operate [o,i] (zbz o i)
def IxR(X:Cx)(r:R2):Prop:=
 ∀(value slice:Expr) (pins:List (Addr×Obj)) (s:zad) (σ:St) (H:Hp) (x y:V) (v u:Value) (Q:VK),Inv X pins σ H s->RelV x v->RelV y u->r x y H Q->
  zdm slice false v u=operate [v,u] (zbz v u)->wpAny (model X.prog X.w) X.A (subscriptTail value slice v u) (EP X pins σ Q) X.xe s
def MtR(X:Cx)(id:String)(r:V->List V->Hp->VK->Prop):Prop:=
 ∀(pins:List (Addr×Obj)) (s:zad) (σ:St) (H:Hp) (x:V) (xs:List V) (v:Value) (us:List Value) (Q:VK),Inv X pins σ H s->RelV x v->Vals xs us->r x xs H Q->
  wpAny (model X.prog X.w) X.A (call (.builtin id) (v::us)) (EP X pins σ Q) X.xe s
section
variable {X:Cx}{a b:Expr}{ta tb:TE}{pos:Pos}
theorem IxR.or(h:IxR X r)(h':IxR X r'):IxR X (λx y H Q=>r x y H Q\/r' x y H Q):=by
 intro value z pins s σ H x y v u Q I F B q hs;rcases q with q|q
 ·exact h value z pins s σ H x y v u Q I F B q hs
 ·exact h' value z pins s σ H x y v u Q I F B q hs
theorem MtR.or{id:String}{r z:V->List V->Hp->VK->Prop}(h:MtR X id r)(h':MtR X id z):MtR X id (λx xs H Q=>r x xs H Q\/z x xs H Q):=by
 intro pins s σ H x xs v B Q I F rs q;rcases q with q|q
 ·exact h pins s σ H x xs v B Q I F rs q
 ·exact h' pins s σ H x xs v B Q I F rs q
theorem X7(z:IxR X r)(J:PE X a ta)(N:PE X b tb)(hs:xB b):PE X (.Subscript a b pos) (qe r ta tb):=by
 intro pins s σ H Q I h;exact Subscript_ (WU J N I h λv u B x y H2 G M F q=>z a b pins B σ H2 x y v u Q G M F q (hs _ _))
def ZX(K:zae):R2:=λx y H Q=>∃p xs i v,x=.ref p/\y=.int i/\SqL K H p xs/\gD xs i=some v/\Q v H
def ZR(K:zae):R2:=λx y H Q=>∃p xs i v,x=.ref p/\y=.int i/\SqT K H p xs/\gD xs i=some v/\Q v H
def ZG:R2:=λx y H Q=>∃z i c,x=.str z/\y=.int i/\z.length<=zaj/\gD z.cps.toList i=some c/\Q (.str ⟨#[c]⟩) H
theorem QU:IxR X (ZX X.K):=by
 intro value J pins s σ H x y v u Q I rx W h hs;obtain⟨p,xs,i,z,rfl,rfl,hq,he,q⟩:=h;cases rx;obtain⟨t,rfl⟩:=W;obtain⟨its,r,B,hz⟩:=I.list hq;obtain⟨j,h1,h2,h3,h4,Y⟩:=w8 he;obtain⟨w,M,G⟩:=r.get h2;have U:=r.length;have hn:=tN;have fin:EP X pins σ Q w s:=⟨z,H,I,G,q⟩;by_cases N:0<=i
 ·have F:i.toNat=j:=by
   rw[seqIndex_of N Y]at h1;exact zaz h1
  exact item_listR B.isList N (by lia) (by rw[F];simpa using M) fin hs
 ·have F:(i+(its.toArray.size:Int)).toNat=j:=by
   rw[seqIndex_neg (by lia) h4]at h1;rw[zay,<- U];exact zaz h1
  exact subscriptTail_builtinR (x:=w) B.isList.typeIs slot_list_getitem.lookup
   (wpAny_getItem_list_neg (Q:=λr s'=>r=w/\EP X pins σ Q r s') B.isList (by lia) (by rw[zay] <;> lia) (by lia) (by rw[F];simpa using M) ⟨rfl,fin⟩) hs
theorem UM:IxR X (ZR X.K):=by
 intro value F pins s σ H x y v u Q I U N h hs;obtain⟨p,xs,i,z,rfl,rfl,Y,W,q⟩:=h;cases U;obtain⟨t,rfl⟩:=N;obtain⟨its,r,G,hz⟩:=I.tuple Y;obtain⟨j,h1,h2,h3,h4,h5⟩:=w8 W;obtain⟨w,M,B⟩:=r.get h2;have J:=r.length;have hn:=tN;have fin:EP X pins σ Q w s:=⟨z,H,I,B,q⟩;exact subscriptTail_builtinR (x:=w) G.typeIs slot_tuple_getitem.lookup
  (getItem_tuple (j:=j) (Q:=λr s'=>r=w/\EP X pins σ Q r s') G (by lia) (by lia) (by rw[zay,<- J];exact h1) (by simpa using M) ⟨rfl,fin⟩) hs
theorem UA:IxR X ZG:=by
 intro value B pins s σ H x y v u Q I N J h hs;obtain⟨z,i,c,rfl,rfl,hz,W,q⟩:=h;obtain⟨t,rfl⟩:=N;obtain⟨t',rfl⟩:=J;obtain⟨j,h1,h2,h3,M,Y⟩:=w8 W;have F:z.cps.toList.length=z.length:=by simp[Str.length]
 rw[F]at h1 M Y;have hn:=tN;exact tail_any (typeIs_str s z t) slot_str_getitem.lookup (getItem_str (c:=c) (by
  have G:decide (i < -(2^63:Int))=false:=decide_eq_false (by lia);have U:decide (i ≥ 2^63)=false:=decide_eq_false (by lia);rw[G,U,Bool.or_false]) (by rw[h1];simpa using h2) ⟨.str ⟨#[c]⟩,H,I.tok _,⟨_,rfl⟩,q⟩) hs
def rIx(K:zae):R2:=λx y H Q=>ZX K x y H Q\/ZR K x y H Q\/ZG x y H Q
theorem VX:IxR X (rIx X.K):=QU.or (UM.or UA)
theorem BJ(its:List Value)(n j:Nat)(u:Value):zcR (·.setIfInBounds j u) {cls:=.type "list",data:=.seq its.toArray n}={cls:=.type "list",data:=.seq (its.set j u).toArray n}:=by
 simp[zcR]
theorem Inv.lst{pins:List (Addr×Obj)}{σ:St}{H:Hp}{s:zad}{p:Addr}{xs:List V}(I:Inv X pins σ H s)(h:H p=some (.lst xs)) :
  ∃(its:List Value) (n:Nat),Vals xs its/\s.heap.get? p=some {cls:=.type "list",data:=.seq its.toArray n}/\xs.length<=zaj:=by
 obtain⟨z,its,n,r,e⟩:=I.hok p _ h;exact⟨its,n,r,e,z⟩
theorem Inv.lstUpd{pins:List (Addr×Obj)}{xs ys:List V}{its its':List Value}{n z:Nat}{f:Obj->Obj}(I:Inv X pins σ H s)(h:H p=some (.lst xs))
  (F:s.heap.get? p=some {cls:=.type "list",data:=.seq its.toArray n}) (B:f {cls:=.type "list",data:=.seq its.toArray n}={cls:=.type "list",data:=.seq its'.toArray z}) (r:Vals ys its') (G:ys.length<=zaj) (t:Nat) :
  Inv X pins σ (upd H p (.lst ys)) {s with heap:=s.heap.update p f,toks:=t}:=by
 have e:(s.heap.update p f).get? p=some {cls:=.type "list",data:=.seq its'.toArray z}:=by
  rw[zea f F (by rw[B] <;> rfl),B]
 refine I.write (x:=p) (e:=p) (by rw[h];trivial) (.inl rfl) (λb u J q=>(Heap.get?_update_other _ _ (zaU J)).trans q) ⟨_,e⟩ ?_;exact⟨G,its',z,r,e⟩
def YH:V->V->V->Hp->(Hp->Prop)->Prop:=λo i v H Q=>∃p xs k j,o=.ref p/\i=.int k/\H p=some (.lst xs)/\NY xs.length k=some j/\Q (upd H p (.lst (xs.set j v)))
theorem set_list:RO X YH:=by
 intro pins s σ H o i v ov iv u Q I ro Y rv h;obtain⟨p,xs,k,j,rfl,rfl,J,hj,q⟩:=h;cases ro;obtain⟨t,rfl⟩:=Y;obtain⟨its,n,r,F,hz⟩:=I.lst J;obtain⟨h1,h2,N,M⟩:=EG hj;have z:=r.length;have hn:=tN;have U:Inv X pins σ (upd H p (.lst (xs.set j v))) {s with heap:=s.heap.update p (zcR (·.setIfInBounds j u))}:=
  I.lstUpd J F (BJ its n j u) (r.set rv j) (by rw[zcS];exact hz) s.toks
 by_cases G:0<=k
 ·have B:k.toNat=j:=by
   rw[seqIndex_of G M]at h1;exact zaz h1
  exact PySem.W.ki_setAt F G (by lia) (by rw[zay,<- z];exact M) (by rw[B];exact⟨_,U,q⟩)
 ·have B:(k+(its.toArray.size:Int)).toNat=j:=by
   rw[seqIndex_neg (by lia) N]at h1;rw[zay,<- z];exact zaz h1
  exact PySem.W.ki_setBack F (by lia) (by rw[zay,<- z];exact N) (by lia) (by rw[B];exact⟨_,U,q⟩)
theorem wF(lo hi:Option Int)(n:Nat):(zbK lo hi none n).1=((HT.sIx n 0 lo:Nat):Int)/\(zbK lo hi none n).2.1=((HT.sIx n n hi:Nat):Int)/\(zbK lo hi none n).2.2=1:=by
 refine⟨?_,?_,rfl⟩
 ·cases lo with
  | none=>simp[zbK,HT.sIx]
  | some i=>
   simp only[zbK,HT.sIx,Option.getD_none,show(1:Int)>0 by decide,if_true];by_cases h:i<0
   ·simp only[h,if_true] <;> lia
   ·simp only[h,if_false] <;> lia
 ·cases hi with
  | none=>simp[zbK,HT.sIx]
  | some i=>
   simp only[zbK,HT.sIx,Option.getD_none,show(1:Int)>0 by decide,if_true];by_cases h:i<0
   ·simp only[h,if_true] <;> lia
   ·simp only[h,if_false] <;> lia
theorem uE(its:List Value)(lo hi:Option Int):slicePick its.toArray lo hi none=((its.drop (HT.sIx its.length 0 lo)).take (HT.sIx its.length its.length hi-HT.sIx its.length 0 lo)).toArray:=by
 obtain⟨h1,h2,q⟩:=wF lo hi its.toArray.size;unfold slicePick;rw[h1,h2,q];simp only[sliceRange_one,pick_run,zay] <;> rfl
def qai(K:zae):V->Option Int->Option Int->Hp->VK->Prop:=λx lo hi H Q=>∃a xs,x=.ref a/\SqL K H a xs/\∀p,H p=none->Q (.ref p) (upd H p (.lst (uG xs lo hi)))
theorem P0:SlR X (qai X.K):=by
 intro pins s σ H x v N Y lo hi U Q I J hs G F h;obtain⟨a,xs,rfl,hx,q⟩:=h;cases J;obtain⟨its,r,B,M⟩:=I.list hx;have z:=r.length;refine⟨"list",_,slot_list_getitem.lookup,B.isList.typeIs,?_⟩;refine wpAny_getItem_list_slice B.isList hs G F .none (by simp) ?_ (by rw[zay] <;> lia);rw[uE,<- z];refine⟨.ref s.heap.objs.size,_,I.laid (t':=s.toks) (o:=.lst (uG xs lo hi)) (λb W q=>zan _ q) (zai _) ?_,rfl,q _ (I.hok.fresh (zai _))⟩;exact⟨zaL (oQ xs lo hi) M,_,0,(r.drop (HT.sIx xs.length 0 lo)).take (HT.sIx xs.length xs.length hi-HT.sIx xs.length 0 lo),zaE _ rfl⟩
theorem v8:OpR X (zaA .NotIn) (λx y H Q=>∃i j,x=.str i/\y=.str j/\Q (.bl (!(!(Builtin.Str.occurrences j i 0 j.length 1).isEmpty))) H):=by
 intro pins s σ H x y v u Q I z B h;obtain⟨i,j,rfl,rfl,q⟩:=h;obtain⟨t,rfl⟩:=z;obtain⟨t',rfl⟩:=B;exact notIn_str ⟨.bl _,H,I,rfl,q⟩
theorem CallR.or(h:CallR X f r)(h':CallR X f r'):CallR X f (λxs H Q=>r xs H Q\/r' xs H Q):=by
 intro pins s σ H xs z Q I rs q;rcases q with q|q
 ·exact h pins s σ H xs z Q I rs q
 ·exact h' pins s σ H xs z Q I rs q
theorem wB:CallR X (.type "list") (λxs H Q=>∃p ys,xs=[.ref p]/\(SqL X.K H p ys\/SqT X.K H p ys)/\∀l,H l=none->Q (.ref l) (upd H l (.lst ys))):=by
 intro pins s σ H xs us Q I r h;obtain⟨p,ys,rfl,M,q⟩:=h;obtain⟨u,rfl,Y⟩:=vals1 r;cases Y;have fin:∀(its:List Value),Vals ys its->ys.length<=zaj->∀(h':Heap) (B:Nat),(∀b o',s.heap.get? b=some o'->h'.get? b=some o')->
   h'.get? s.heap.objs.size=some {cls:=.type "list",dict:=none,data:=.seq its.toArray B,slots:=#[]}->EP X pins σ Q (.ref s.heap.objs.size) {s with heap:=h'}:=λits z G h' B F e=>
  ⟨.ref s.heap.objs.size,_,I.laid (t':=s.toks) F (zai _) (show ObjOk X.prog X.w _ h' _ (.lst ys)from⟨G,its,B,z,e⟩),rfl,q _ (I.hok.fresh (zai _))⟩
 rcases M with M|M
 ·obtain⟨its,z,N,G⟩:=I.list M
  have J:=z.length;obtain⟨o,U,W,n,hd⟩:=N.isList;exact call_list_seq p (.inl rfl) U W hd (λh' B F e=>fin its z G h' B F e) (by simp only[zay] <;> lia)
 ·obtain⟨its,z,N,G⟩:=I.tuple M
  have J:=z.length;obtain⟨o,U,W,n,hd⟩:=N;exact call_list_seq p (.inr rfl) U W hd (λh' B F e=>fin its z G h' B F e) (by simp only[zay] <;> lia)
theorem uF:CallR X (.type "tuple") (λxs H Q=>∃p ys,xs=[.ref p]/\((SqL X.K H p ys/\∀l,H l=none->Q (.ref l) (upd H l (.tup ys)))\/(SqT X.K H p ys/\Q (.ref p) H))):=by
 intro pins s σ H xs Y Q I r h;obtain⟨p,ys,rfl,h⟩:=h;obtain⟨u,rfl,U⟩:=vals1 r;cases U;rcases h with⟨F,q⟩|⟨F,q⟩
 ·obtain⟨its,z,B,J⟩:=I.list F
  have M:=z.length;refine call_tuple_list B.isList (λh' W=>?_) (by simp only[zay] <;> lia);have G:Inv X pins σ H {s with heap:=h'}:=I.kept (t':=s.toks) W;have N:Inv X pins σ (upd H h'.objs.size (.tup ys)) {s with heap:=h'.push {cls:=.type "tuple",data:=.seq its.toArray} }:=
   G.laid (t':=s.toks) (λb o e=>zan _ e) (zai _) (show ObjOk X.prog X.w _ _ _ (.tup ys)from⟨J,its,z,IsTupN.new _ _⟩)
  exact⟨.ref h'.objs.size,_,N,rfl,q _ (G.hok.fresh (zai _))⟩
 ·obtain⟨its,z,B,J⟩:=I.tuple F
  exact call_tuple_same B ⟨.ref p,H,I,rfl,q⟩
def tyV(K:zae)(T:String)(x:V)(H:Hp):Prop:=match x with
 | .str _=>T = "str"
 | .int _=>T = "int"
 | .ref p=>(T = "list" /\ ∃xs,SqL K H p xs)\/(T = "tuple" /\ ∃o,K.lookup p=some o/\o.cls=.type "tuple" /\ o.dict=none) \/
   (T = "dict" /\ ((∃kvs,H p=some (.dK kvs))\/∃kvs,H p=some (.dT kvs)))\/(T = "set" /\ ∃S n,H p=some (.set S n))
 | _=>False
theorem TQ(I:Inv X pins σ H s)(r:RelV x v)(ty:tyV X.K T x H) :
  s.TypeIs v T/\∀a,v=.ref a->∃G,s.heap.get? a=some G/\G.dict=none:=by
 cases x with
 | str z=>
  obtain⟨t,rfl⟩:=r;cases(show T = "str" from ty);exact⟨typeIs_str s z t,λ_ e=>nomatch e⟩
 | int i=>
  obtain⟨t,rfl⟩:=r;cases(show T = "int" from ty);exact⟨typeIs_int s i t,λ_ e=>nomatch e⟩
 | ref p=>
  cases r;rcases ty with⟨rfl,xs,M⟩|⟨rfl,o,q,J,hd⟩|⟨rfl,q⟩|⟨rfl,S,n,q⟩
  ·obtain⟨its,_,F,_⟩:=I.list M
   refine⟨F.isList.typeIs,λa e=>?_⟩;cases e;obtain⟨o,n,e,c,hd,_⟩:=F;exact⟨o,e,hd⟩
  ·refine⟨⟨o,I.kIn p o q,J⟩,λa e=>?_⟩
   cases e;exact⟨o,I.kIn _ o q,hd⟩
  ·have z:∃o,s.heap.get? p=some o/\o.ExactDict:=by
    rcases q with⟨kvs,q⟩|⟨kvs,q⟩
    ·obtain⟨_,_,_,_,o,_,_,e,ex,_⟩:=I.hok p _ q
     exact⟨o,e,ex⟩
    ·obtain⟨_,_,_,_,o,_,_,e,ex,_⟩:=I.hok p _ q
     exact⟨o,e,ex⟩
   obtain⟨o,e,ex⟩:=z;refine⟨⟨o,e,ex.1⟩,λa B=>?_⟩;cases B;exact⟨o,e,ex.2.1⟩
  ·obtain⟨o,_,_,_,e,ex,_⟩:=I.hok p _ q
   refine⟨⟨o,e,ex.1⟩,λa B=>?_⟩;cases B;exact⟨o,e,ex.2.1⟩
 | _=>exact za8 ty
def Z7(K:zae)(T:String)(r:V->List V->Hp->VK->Prop)(to:TE)(t:TA):TE:=λσ H Q=>to σ H λx H1=>tyV K T x H1/\t σ H1 λxs H2=>r x xs H2 Q
variable {o e:Expr}{es:List Expr}{to:TE}{t:TA}{name:Str}{apos cpos:Pos}{T id:String}{r:V->List V->Hp->VK->Prop}
theorem vW(pa:PlainAttrs T)(G:Slot T name id)(J:typeOf (.builtin id)=pure (.type "method_descriptor"))(hm:MtR X id r)(ho:PE X o to)(ha:PA X (e::es) t)
  (z:zaO o name X.env (eval o X.env)=eval o X.env:=by rfl)
  (F:((zaG cpos (zag (e::es) X.env)).all (λx => !x.1) && (backToKw cpos (keywordEach [] X.env)).all (λx => x.1.isSome)
   && decide ((e::es).length+([]:List zcj).length+(if([]:List zcj).isEmpty then 0 else 1)<30))=true:=by rfl)
  (B:(apos.endLine == cpos.line)=true:=by rfl) (hs:zag (e::es) X.env=(false,eval e X.env)::zag es X.env:=by rfl) (q:(zaG cpos (zag es X.env)).any (·.1)=false:=by rfl) :
  PE X (.Call (.Attribute o name apos) (e::es) [] cpos) (Z7 X.K T r to t):=by
 intro pins s σ H Q I h;refine wpAny_Call_method_late z F B rfl (cS (ho pins s σ H _ I h) λv s1 ⟨x,H1,N,r1,ty,q1⟩=>?_);obtain⟨h1,h2⟩:=TQ N r1 ty;refine⟨T,id,pa,G,J,h1,h2,?_⟩;have M:=ha cpos pins s1 σ H1 _ N q1;rw[hs]at M ⊢;refine Calls.callWith_builtin (by show(false || (zaG cpos (zag es X.env)).any (·.1))=false;rw[q] <;> rfl) (Calls.evalArgs_plain ?_);exact cS M λY U ⟨vs,H2,W,r2,q2⟩=>hm pins U σ H2 x vs v Y Q W r1 r2 q2
end
def ql(X:Cx)(id:String)(r:V->List V->Hp->VK->Prop):Prop:=
 ∀(pins:List (Addr×Obj)) (s:zad) (σ:St) (H:Hp) (x:V) (xs:List V) (v:Value) (us:List Value) (Q:VK),Inv X pins σ H s->RelV x v->Vals xs us->r x xs H Q->
  wpAny (model X.prog X.w) X.A (call (.builtin id) (v::us)) (EP X pins σ Q) X.xe s
theorem Vals.one:∀ {x:V} {us:List Value},Vals [x] us->∃u,us=[u]/\RelV x u
 | _,_,.cons r .nil=>⟨_,rfl,r⟩
theorem Vals.reverse(h:Vals xs us):Vals xs.reverse us.reverse:=by
 induction h with
 | nil=>exact .nil
 | cons r t ih=>rw[zeb,zeb];exact Vals.append ih (.cons r .nil)
theorem Vals.rep(h:Vals xs us):∀k:Nat,Vals (zck k xs).flatten (zck k us).flatten
 | 0=>.nil
 | k+1=>by
  rw[zdn,zdn,zdo,zdo];exact Vals.append h (Vals.rep h k)
section
variable {X:Cx}{pins:List (Addr×Obj)}{σ:St}{H:Hp}{s:zad}{l b:Addr}{xs ys zs:List V}
theorem Inv.lset{its its':List Value}{n:Nat}{f:Array Value->Array Value}{t':Nat}(I:Inv X pins σ H s)(M:H l=some (.lst xs))
  (e:s.heap.get? l=some {cls:=.type "list",data:=.seq its.toArray n}) (B:f its.toArray=its'.toArray) (z:Vals ys its') (G:ys.length<=zaj) :
  Inv X pins σ (upd H l (.lst ys)) {s with heap:=s.heap.update l (zcR f),toks:=t'}:=by
 have q:=PySem.IsL.update e f;rw[B]at q;refine I.write (x:=l) (e:=l) (by rw[M];exact trivial) (.inl rfl) (λN u J F=>(Heap.get?_update_other s.heap (zcR f) (zaU J)).trans F) ⟨_,q⟩ ?_;exact⟨G,its',_,z,q⟩
theorem Inv.lnew(I:Inv X pins σ H s)(z:Vals ys its)(B:ys.length<=zaj) :
  Inv X pins σ (upd H s.heap.objs.size (.lst ys)) {s with heap:=s.heap.push {cls:=.type "list",data:=.seq its.toArray},toks:=t'}:=
 I.laid (λ_ _ q=>zan _ q) (zai _) ⟨B,its,0,z,zaE _ rfl⟩
theorem Inv.fresh(I:Inv X pins σ H s):H s.heap.objs.size=none:=I.hok.fresh (zai _)
theorem Inv.lstM(I:Inv X pins σ H s)(q:H l=some (.lst xs)):xs.length<=zaj/\∃(its:List Value) (n:Nat),Vals xs its/\xs.length=its.length/\s.heap.get? l=some {cls:=.type "list",data:=.seq its.toArray n}:=by
 obtain⟨z,its,n,r,e⟩:=I.hok l _ q;exact⟨z,its,n,r,r.length,e⟩
theorem KQ(h:n<=zaj):zec n=false:=by
 unfold zec;exact decide_eq_false (by lia)
end
section
variable {X:Cx}
def DZ:V->List V->Hp->VK->Prop:=λx vs H Q=>∃l xs y,x=.ref l/\vs=[y]/\H l=some (.lst xs)/\xs.length<zaj/\Q .non (upd H l (.lst (xs++[y])))
theorem vM:ql X "list.append" DZ:=by
 intro pins s σ H x vs v W Q I M J h;obtain⟨l,xs,y,rfl,rfl,B,U,q⟩:=h;cases M;obtain⟨u,rfl,G⟩:=J.one;obtain⟨z,its,n,r,N,e⟩:=I.lstM B;refine zcT F.slot_list_append ⟨_,e,rfl⟩ F.entry_list_append (F.args_list_append_2 _ _) (PySem.list_append l its.toArray n u (by rw[zay];lia)) ⟨e,?_⟩;refine⟨.non,_,I.lset (its':=its++[u]) B e (by simp) (r.append (.cons G .nil)) ?_,rfl,q⟩;rw[zbc,List.length_singleton]
 lia
end
section
variable {prog:zah}{w:World}{A:zam}{E:Value->zad->Prop}{s:zad}
end
section
variable {X:Cx}
end
section
variable {κ:Type}[DecidableEq κ]
noncomputable def nH(kvs:List (κ×V))(k:κ):Option V:=(kvs.find? λq=>decide (q.1=k)).map (·.2)
noncomputable def putK(kvs:List (κ×V))(k:κ)(v:V):List (κ×V):=
 if(kvs.any λq=>decide (q.1=k))=true then kvs.map (λq=>if q.1=k then(q.1,v)else q)else kvs++[(k,v)]
noncomputable def S3(kvs:List (κ×V))(k:κ):List (κ×V):=kvs.filter λq=>decide (q.1≠k)
theorem mU{p:κ×V}{r:List (κ×V)}{k:κ}(e:p.1=k):nH (p::r) k=some p.2:=by simp[nH,zbA,e]
theorem mV{p:κ×V}{r:List (κ×V)}{k:κ}(e:¬ p.1=k):nH (p::r) k=nH r k:=by simp[nH,zbA,e]
theorem zL(k:κ):∀kvs:List (κ×V),(kvs.any λq=>decide (q.1=k))=(nH kvs k).isSome
 | []=>rfl
 | p::r=>by
  rw[zb8];by_cases e:p.1=k
  ·simp only[mU e,decide_eq_true e,Bool.true_or,Option.isSome_some]
  ·rw[mV e,decide_eq_false e,Bool.false_or];exact zL k r
theorem fH(kvs:List (κ×V))(k:κ)(v:V):(putK kvs k v).length<=kvs.length+1:=by
 unfold putK;split
 ·rw[zal];lia
 ·rw[zbc,zaw,zbn];lia
theorem RelO.isSome_eq(r:RelO o u):o.isSome=u.isSome:=by
 cases o with
 | none=>cases u with
  | none=>rfl
  | some _=>exact(show False from r).elim
 | some _=>cases u with
  | none=>exact(show False from r).elim
  | some _=>rfl
theorem RelO.getD(r:RelO o u)(rd:RelV d d'):RelV (o.getD d) (u.getD d'):=by
 cases o with
 | none=>cases u with
  | none=>exact rd
  | some _=>exact(show False from r).elim
 | some _=>cases u with
  | none=>exact(show False from r).elim
  | some _=>exact r
theorem KV.val(r:KV kvs vs)(k:κ):RelO (nH kvs k) (zcn vs k):=by
 unfold KV at r;induction r with
 | nil=>exact zaY
 | @cons p q ps qs h t ih=>
  obtain⟨h1,h2⟩:=h;by_cases e:p.1=k
  ·have B:q.1=k:=h1.symm.trans e
   have b:zcn (q::qs) k=some q.2:=by simp[zcn,zbA,B]
   rw[mU e,b];exact h2
  ·have B:¬ q.1=k:=λz=>e (h1.trans z)
   have b:zcn (q::qs) k=zcn qs k:=by simp[zcn,zbA,B]
   rw[mV e,b];exact ih
theorem KV.any(r:KV kvs vs)(k:κ):(kvs.any λq=>decide (q.1=k))=vs.any λq=>decide (q.1=k):=by
 unfold KV at r;induction r with
 | nil=>rfl
 | cons h t ih=>rw[zb8,zb8,ih,h.1]
theorem KV.repl(r:KV kvs vs)(k:κ)(F:RelV y u) :
  KV (kvs.map λB=>if B.1=k then(B.1,y)else B) (vs.map λB=>if B.1=k then(B.1,u)else B):=by
 unfold KV at r ⊢;induction r with
 | nil=>exact .nil
 | @cons p q ps qs h t ih=>
  rw[zak,zak];refine .cons ?_ ih;obtain⟨h1,h2⟩:=h;by_cases e:p.1=k
  ·rw[if_pos e,if_pos (h1.symm.trans e)];exact⟨h1,F⟩
  ·rw[if_neg e,if_neg (λz=>e (h1.trans z))];exact⟨h1,h2⟩
theorem KV.put(r:KV kvs vs)(k:κ)(q:RelV y u):KV (putK kvs k y) (stored vs k u):=by
 unfold putK stored;rw[r.any k];by_cases e:(vs.any λz=>decide (z.1=k))=true
 ·rw[if_pos e,if_pos e];exact r.repl k q
 ·rw[if_neg e,if_neg e];exact Paired.snoc r ⟨rfl,q⟩
theorem KV.drop(r:KV kvs vs)(k:κ):KV (S3 kvs k) (without vs k):=by
 unfold KV at r ⊢;unfold S3 without;induction r with
 | nil=>exact .nil
 | @cons p q ps qs h t ih=>
  obtain⟨h1,h2⟩:=h;rw[zcB,zcB];by_cases e:p.1=k
  ·have a:¬ decide (p.1≠k)=true:=by simp[e]
   have b:¬ decide (q.1≠k)=true:=by simp[h1.symm.trans e]
   rw[if_neg a,if_neg b];exact ih
  ·have B:¬ q.1=k:=λz=>e (h1.trans z)
   have a:decide (p.1≠k)=true:=by simp[e]
   have b:decide (q.1≠k)=true:=by simp[B]
   rw[if_pos a,if_pos b];exact .cons ⟨h1,h2⟩ ih
theorem KV.length(r:KV kvs vs):kvs.length=vs.length:=zcL r
end
theorem vR(r:RelV (kV k) u):(bB P w).is k u=true:=by
 cases k with
 | inl i=>obtain⟨t,e⟩:=(show ∃t,u=zct i t from r);subst e;exact yJ P w i t
 | inr x=>obtain⟨t,e⟩:=(show ∃t,u=zcK x t from r);subst e;exact yM P w x t
theorem vJ:∀ {ks:List Key} {us:List Value},Vals (ks.map kV) us->ItemsAre (bB P w) ks us
 | [],_,r=>by rw[zcA]at r;cases r;exact .nil
 | k::ks,_,r=>by
  rw[zak]at r;cases r with
  | cons h t=>exact .cons (vR h) (vJ t)
abbrev KT(H:Hp):List (List Key×V)->List (List Key×Addr×Value)->Prop:=Paired λp q=>p.1=q.1/\H q.2.1=some (.tup (p.1.map kV))/\RelV p.2 q.2.2
theorem KT.val(r:KT H kvs xs)(k:List Key):RelO (nH kvs k) ((atKey xs k).map (·.2)):=by
 induction r with
 | nil=>exact zaY
 | @cons p q ps qs h t ih=>
  obtain⟨h1,_,h2⟩:=h;by_cases e:p.1=k
  ·have B:q.1=k:=h1.symm.trans e
   have b:atKey (q::qs) k=some q.2:=by simp[atKey,zbA,B]
   rw[mU e,b];exact h2
  ·have B:¬ q.1=k:=λz=>e (h1.trans z)
   have b:atKey (q::qs) k=atKey qs k:=by simp[atKey,zbA,B]
   rw[mV e,b];exact ih
theorem KT.repl(r:KT H kvs xs)(k:List Key)(G:RelV y u) :
  KT H (kvs.map λB=>if B.1=k then(B.1,y)else B) (xs.map (putAt k u)):=by
 induction r with
 | nil=>exact .nil
 | @cons p q ps qs h t ih=>
  rw[zak,zak];refine .cons ?_ ih;obtain⟨h1,h2,F⟩:=h;unfold putAt;by_cases e:p.1=k
  ·rw[if_pos e,if_pos (h1.symm.trans e)];exact⟨h1,h2,G⟩
  ·rw[if_neg e,if_neg (λz=>e (h1.trans z))];exact⟨h1,h2,F⟩
theorem KT.put(r:KT H kvs xs)(k:List Key)(F:H b=some (.tup (k.map kV)))(z:RelV y u) :
  KT H (putK kvs k y) (storedH xs k b u):=by
 have e:(kvs.any λB=>decide (B.1=k))=(atKey xs k).isSome:=by
  rw[zL,(r.val k).isSome_eq,Option.isSome_map]
 unfold putK storedH;rw[e];by_cases q:(atKey xs k).isSome=true
 ·rw[if_pos q,if_pos q];exact r.repl k z
 ·rw[if_neg q,if_neg q];exact Paired.snoc r ⟨rfl,F,z⟩
theorem KT.keeps(r:KT H kvs xs)(q:∀b ys,H b=some (.tup ys)->H' b=some (.tup ys)):KT H' kvs xs:=
 Paired.mapP r λ_ _ z=>⟨z.1,q _ _ z.2.1,z.2.2⟩
section
variable {P:zah}{w:World}{H:Hp}{h:Heap}{a:Addr}
theorem S9(ok:HOk P w H h)(e:Rd H a u):ObjOk P w H h a u:=e.ok ok
theorem vS(ok:HOk P w H h)(e:Rd H a (.dK kvs)):kvs.length<=zaj/\(a == za6)=false/\∃vs,KV kvs vs/\h.DictOf (bB P w) a vs:=
 show ObjOk P w H h a (.dK kvs)from S9 ok e
theorem SW(ok:HOk P w H h)(e:H a=some (.dK kvs)):kvs.length<=zaj/\(a == za6)=false/\∃vs,KV kvs vs/\h.DictOf (bB P w) a vs:=vS ok (.inl e)
theorem nY(ok:HOk P w H h)(e:H a=some (.tup (ks.map kV))):(zb1 (bB P w)).is h ks a:=by
 obtain⟨_,its,r,o,h1,h2,n,q⟩:=(show ObjOk P w H h a (.tup (ks.map kV))from ok a _ e);exact⟨o,its.toArray,n,h1,h2,q.1,by simpa using vJ r⟩
theorem GB(ok:HOk P w H h)(e:Rd H a (.dT kvs)):kvs.length<=zaj/\(a == za6)=false /\
  ∃xs,KT H kvs xs/\h.DictOfH (zb1 (bB P w)) a xs:=by
 obtain⟨z,y,xs,r,o,es,ep,h1,h2,F,B,G⟩:=(show ObjOk P w H h a (.dT kvs)from S9 ok e);refine⟨z,y,xs,r,o,es,ep,h1,h2,F,B,λx hx=>?_,G⟩;have all:∀ {l:List (List Key×V)} {m:List (List Key×Addr×Value)},KT H l m->∀x∈m,(zb1 (bB P w)).is h x.1 x.2.1:=by
  intro l m q;induction q with
  | nil=>intro x hx;exact nomatch hx
  | @cons p q ps qs hq t ih=>
   intro x hx;rcases List.mem_cons.mp hx with e|hx
   ·subst e
    exact nY ok (by rw[<- hq.1];exact hq.2.1)
   ·exact ih x hx
 exact all r x hx
theorem SK(ok:HOk P w H h)(e:H a=some (.dT kvs)):kvs.length<=zaj/\(a == za6)=false /\
  ∃xs,KT H kvs xs/\h.DictOfH (zb1 (bB P w)) a xs:=GB ok (.inl e)
end
def DGet(H:Hp)(a:Addr)(y:V)(r:Option V):Prop:=
 (∃kvs k,Rd H a (.dK kvs)/\y=kV k/\r=nH kvs k)\/∃kvs k b,Rd H a (.dT kvs)/\y=.ref b/\H b=some (.tup (k.map kV))/\r=nH kvs k
def DPut(H:Hp)(a:Addr)(y v:V)(H':Hp):Prop:=
 (∃kvs k,H a=some (.dK kvs)/\y=kV k/\kvs.length<zaj/\H'=upd H a (.dK (putK kvs k v))) \/
 ∃kvs k b,H a=some (.dT kvs)/\y=.ref b/\H b=some (.tup (k.map kV))/\kvs.length<zaj/\H'=upd H a (.dT (putK kvs k v))
theorem DGet.k{H:Hp}{a:Addr}{kvs:List (Key×V)}{k:Key}(e:H a=some (.dK kvs)):DGet H a (kV k) (nH kvs k):=.inl ⟨kvs,k,.inl e,rfl,rfl⟩
theorem DGet.t{H:Hp}{a b:Addr}{kvs:List (List Key×V)}{k:List Key}(e:H a=some (.dT kvs))(q:H b=some (.tup (k.map kV))):DGet H a (.ref b) (nH kvs k):=.inr ⟨kvs,k,b,.inl e,rfl,q,rfl⟩
theorem DPut.k{H:Hp}{a:Addr}{kvs:List (Key×V)}{k:Key}{v:V}(e:H a=some (.dK kvs))(q:kvs.length<zaj):DPut H a (kV k) v (upd H a (.dK (putK kvs k v))):=.inl ⟨kvs,k,e,rfl,q,rfl⟩
theorem DPut.t{H:Hp}{a b:Addr}{kvs:List (List Key×V)}{k:List Key}{v:V}(e:H a=some (.dT kvs))(z:H b=some (.tup (k.map kV)))(q:kvs.length<zaj) :
  DPut H a (.ref b) v (upd H a (.dT (putK kvs k v))):=.inr ⟨kvs,k,b,e,rfl,z,q,rfl⟩
section
variable {X:Cx}{pins:List (Addr×Obj)}{σ:St}{H:Hp}{s:zad}{a:Addr}{y v:V}{u r:Value}{o:Option V}{A:zam}{E:Value->zad->Prop}
theorem Inv.big(I:Inv X pins σ H s):za6<s.heap.objs.size:=by
 have h:zaK<s.heap.objs.size:=(I.mod.glob.keeps I.bk).lt;exact Nat.lt_trans (by decide) h
theorem IN(U:A.units+1<cLine)(I:Inv X pins σ H s)(g:DGet H a y (some v))(N:RelV y u)(h:∀F s',Inv X pins σ H s'->RelV v F->Q F s') :
  wpAny (model X.prog X.w) A (zbz (.ref a) u) Q E s:=by
 rcases g with⟨kvs,k,e,J,l⟩|⟨kvs,k,b,e,J,W,l⟩
 ·subst J
  obtain⟨z,hd,vs,q,M⟩:=vS I.hok e;obtain⟨F,hw,B⟩:=RelO.some_of (v:=v) (o:=zcn vs k) (by rw[l];exact q.val k);exact wpAny_getItem_of (vR N) M.mapOf hw (h F _ (I.tok _) B)
 ·subst J
  cases(show u=zaq b from N);obtain⟨z,hd,xs,q,M⟩:=GB I.hok e;obtain⟨F,hw,B⟩:=RelO.some_of (v:=v) (o:=(atKey xs k).map (·.2)) (by rw[l];exact q.val k);obtain⟨p,Y,G⟩:=Option.map_eq_some_iff.mp hw;refine wpAny_getItem_heap (zed U) (nY I.hok W) M Y ?_;rw[G];exact h F _ (I.tok _) B
theorem OO(M:A.units+1<cLine)(I:Inv X pins σ H s)(g:DGet H a y o)(J:RelV y u)(h:∀s',Inv X pins σ H s'->Q (.bool (!o.isSome)) s') :
  wpAny (model X.prog X.w) A (zaA .NotIn u (.ref a)) Q E s:=by
 rcases g with⟨kvs,k,e,F,l⟩|⟨kvs,k,b,e,F,N,l⟩
 ·subst F
  obtain⟨z,hd,vs,B,G⟩:=vS I.hok e;refine wpAny_notIn_of (vR J) hd G.mapOf ?_;rw[<- (B.val k).isSome_eq,<- l];exact h _ (I.tok _)
 ·subst F
  cases(show u=zaq b from J);obtain⟨z,hd,xs,B,G⟩:=GB I.hok e;refine wpAny_notIn_heap (zed M) (nY I.hok N) hd G ?_;have q:=(B.val k).isSome_eq;rw[Option.isSome_map]at q;rw[<- q,<- l];exact h _ (I.tok _)
theorem nD(I:Inv X pins σ H s)(G:Z5 (H a))(hs:za4 a s.heap h')(B:∃q,h'.get? a=some q)(new:ObjOk X.prog X.w (upd H a ob) h' a ob) :
  Inv X pins σ (upd H a ob) {s with heap:=h',toks:=t'}:=
 I.write (x:=a) (e:=a) G (.inl rfl) (λb q F z=>(hs.2 b F).trans z) B new
theorem MZ(z:kvs.length<=zaj)(hd:(a == za6)=false)(q:KV kvs vs)(B:h'.DictOf (bB P w) a vs) :
  ObjOk P w H' h' a (.dK kvs):=⟨z,hd,vs,q,B⟩
theorem HP(hu:A.units+1<cLine)(I:Inv X pins σ H s)(g:DPut H a y v H')(Y:RelV y u)(rv:RelV v r)(h:∀s',Inv X pins σ H' s'->Q () s') :
  wpAny (model X.prog X.w) A (setItem (.ref a) u r) Q E s:=by
 rcases g with⟨kvs,k,e,M,l,N⟩|⟨kvs,k,b,e,M,eb,l,N⟩
 ·subst M N
  obtain⟨z,hd,vs,B,U⟩:=SW I.hok e;have W:vs.length<=zaj:=by rw[<- B.length];exact z
  have J:(putK kvs k v).length<=zaj:=by have:=fH kvs k v;lia
  refine wpAny_setItem_pairs (hsz:=W) (vR Y) U λh' F hs=>h _ ?_
  have he:∃q,h'.get? a=some q:=let ⟨q,_,_,G,_⟩:=F;⟨q,G⟩;exact nD I (by rw[e];exact zaY) hs he (MZ J hd (B.put k rv) F)
 ·subst M N
  cases(show u=zaq b from Y);obtain⟨z,hd,xs,B,U⟩:=SK I.hok e;have W:xs.length<=zaj:=by rw[<- zcL B];exact z
  have J:(putK kvs k v).length<=zaj:=by have:=fH kvs k v;lia
  refine wpAny_setItem_heap (hsz:=W) (zed hu) (nY I.hok eb) U λh' F hs=>h _ ?_
  obtain⟨q,es,ep,G,h2,h3,h4,_,h5⟩:=F;refine nD I (by rw[e];exact zaY) hs ⟨q,G⟩ ⟨J,hd,_,(B.put k eb rv).keeps λc ys ec=>?_,q,es,ep,G,h2,h3,h4,h5⟩;rw[aE (t4 ec e (λz=>nomatch z))];exact ec
end
section
variable {X:Cx}{pins:List (Addr×Obj)}{σ:St}{H:Hp}{s:zad}{a:Addr}{kvs:List (Key×V)}{k:Key}{u:Value}{A:zam}{E:Value->zad->Prop}
theorem YJ(I:Inv X pins σ H s)(e:Rd H a (.dK kvs))(h:∀t s',Inv X pins σ H s'->Q (.int kvs.length t) s'):wpAny (model X.prog X.w) A (call (.builtin "len") [.ref a]) Q E s:=by
 obtain⟨z,hd,vs,q,B⟩:=vS I.hok e;refine call_len_dict hd B (by rw[<- q.length];rw[zcQ]at z;lia) ?_;rw[<- q.length];exact h _ _ (I.tok _)
end
def IU(i:Expr):Prop:=∀z q,zdm i false z q=operate [z,q] (zbz z q)
theorem ES{E:Value->zad->Prop}{T id:String}{Q:Value->zad->Prop}
  (M:typeLookup (.type T) "__getitem__" = pure (some (.builtin id))) (hs:IU slice)
  (h:wpAny (model prog w) A (eval value env) (λo F=>wpAny (model prog w) A (eval slice env) (λi q=>q.TypeIs o T/\wpAny (model prog w) A (zbz o i) Q E q) E F) E s) :
  wpAny (model prog w) A (eval (.Subscript value slice pos) env) Q E s:=by
 refine Subscript_ (za7 h (λo F G=>za7 G (λi q z=>?_) λ_ _ x=>x) λ_ _ x=>x);obtain⟨hT,z⟩:=z;unfold subscriptTail;refine zaa ?_;rw[getitemInPython_of_ne hT.not_modules];refine zaa (zcM hT M ?_);have fin:wpAny (model prog w) A (zdm slice false o i) (λr B=>wpAny (model prog w) A (letTemporaryGo value o r >>= λ_=>pure r) Q E B) E q:=by
  rw[hs o i];exact wpAny_operating (za7 z (λr B J=>zaa (wpAny_letTemporaryGo (zaf J))) λ_ _ x=>x)
 first
  | exact zaf (zaa fin)
  | exact zaa (zaf (zaa fin))
  | exact zaa fin
theorem yB(I:Inv X pins σ H s)(g:DGet H a y o):s.TypeIs (.ref a) "dict" := by
 rcases g with⟨kvs,k,e,_,_⟩|⟨kvs,k,b,e,_,_,_⟩
 ·obtain⟨_,_,vs,_,q⟩:=vS I.hok e
  exact q.typeIs
 ·obtain⟨_,_,xs,_,q⟩:=GB I.hok e
  exact q.typeIs
def SM(td ty:TE):TE:=λσ H Q=>td σ H λx H1=>ty σ H1 λy H2=>∃a v,x=.ref a/\DGet H2 a y (some v)/\Q v H2
def Y2(td ty tv:TE):TS:=λD σ H=>tv σ H λv H1=>td σ H1 λx H2=>ty σ H2 λy z=>∃a q,x=.ref a/\DPut z a y v q/\D.nx σ q
section
variable {X:Cx}{o i e value:Expr}{pos pos' tpos:Pos}{td ty tv:TE}
theorem FP(Y:X.A.units+1<cLine)(W:PE X o td)(hi:PE X i ty)(hs:IU i):PE X (.Subscript o i pos) (SM td ty):=by
 intro pins s σ H Q I h;refine ES PySem.F.slot_dict_getitem.lookup hs (cS (W pins s σ H _ I h) λu G ⟨x,H1,M,N,J⟩=>cS (hi pins G σ H1 _ M J) λiv s2 ⟨y,H2,z,B,a,v,ex,g,U⟩=>?_);subst ex;obtain rfl:u=zaq a:=N;exact⟨yB z g,IN Y z g B λw' s3 I3 q=>⟨v,H2,I3,q,U⟩⟩
theorem wJ(hu:X.A.units+1<cLine)(ho:PE X o td)(hi:PE X i ty)(q:PE X value tv)(hs:zaD value (some (.Subscript o i pos')) pos.line X.env=pure false) :
  PS X (.Assign [.Subscript o i pos'] value pos) (Y2 td ty tv):=by
 intro pins s σ H D I h;refine wpAny_Assign_Subscript (cS (q pins s σ H _ I h) λr M ⟨v,H1,N,Y,z⟩=>cS (ho pins M σ H1 _ N z) λu J ⟨x,H2,W,rx,q2⟩=>cS (hi pins J σ H2 _ W q2) λiv s3 ⟨y,H3,B,U,a,H4,ex,g,G⟩=>?_) hs;subst ex;obtain rfl:u=zaq a:=rx;exact HP hu B g U Y λs4 F=>⟨σ,H4,F,G⟩
end
theorem LV(h:Heap)(q:za6<h.objs.size):ObjOk P w H (h.push {cls:=.type "dict",data:=.dict #[]}) h.objs.size (.dK []):=
 ⟨zaI _,beq_eq_false_iff_ne.mpr (zaU (zaF q)),[],.nil,Heap.DictOf.new h⟩
theorem zO(h:Heap)(q:za6<h.objs.size):ObjOk P w H (h.push {cls:=.type "dict",data:=.dict #[]}) h.objs.size (.dT []):=
 ⟨zaI _,beq_eq_false_iff_ne.mpr (zaU (zaF q)),[],.nil,_,#[],0,zaE _ rfl,⟨rfl,rfl,rfl⟩,rfl,rfl,List.nodup_nil⟩
def VO:TE:=λ_ H Q=>∀p,H p=none->Q (.ref p) (upd H p (.dT []))
section
variable {X:Cx}{pos:Pos}
theorem zJ:PE X (.Dict [] [] pos) VO:=λpins s σ H Q I h=>
 wpAny_Dict_empty ⟨.ref s.heap.objs.size,_,I.laid (a:=s.heap.objs.size) (o:=.dT []) (t':=s.toks) (λ_ _ q=>zan _ q) (zai _) (zO s.heap I.big),rfl,h _ (I.hok.fresh (zai _))⟩
end
def IsD(H:Hp)(a:Addr):Prop:=(∃kvs,Rd H a (.dK kvs))\/∃kvs,Rd H a (.dT kvs)
section
variable {X:Cx}{pins:List (Addr×Obj)}{σ:St}{H:Hp}{s:zad}{a:Addr}{y d:V}{u r:Value}{o:Option V}{A:zam}{E:Value->zad->Prop}
end
section
variable {X:Cx}{o e f:Expr}{apos cpos:Pos}{td ty tx:TE}
end
section
variable {X:Cx}{pins:List (Addr×Obj)}{σ:St}{H:Hp}{s:zad}{a:Addr}{kvs:List (Key×V)}{A:zam}{E:Value->zad->Prop}
end
section
variable {X:Cx}{pins:List (Addr×Obj)}{σ:St}{H:Hp}{s:zad}{a:Addr}{y:V}{u:Value}{A:zam}{E:Value->zad->Prop}
end
end L2
namespace Att
open PySem PySem.W PySem.Calls PyProof.Rows
theorem pO:∀(ns:List Int) (vs:List Value),WellAll P h vs (ns.map WData.int)->zbi vs ns:=by
 intro ns;induction ns with
 | nil=>
  intro vs w;rw[zcA]at w;cases w;exact .nil
 | cons n ns ih=>
  intro vs w;rw[zak]at w;cases w with
  | cons a b=>
   cases a;exact .cons _ _ (ih _ b)
theorem GL{l:OpenLaw}{n:Nat}(W:l.most=some n){P:Params}{h:Heap}{args:List WData}{z:List Value}
  (B:l.row.toRowW.claim.pre args=true) (M:WellAll P h z args) :
  ∃a vs ns,z=[zaq a]/\args=[WData.list (ns.map WData.int)]/\h.get? a=some {cls:=.type "list",data:=.seq vs.toArray}/\zbi vs ns/\ns.length<=n:=by
 have N:WShape.hasAll [] args [.list .int]=true:=(pre_splitW B).1;have U:l.pre.holds [] {args:=args}=true:=(pre_splitW B).2;obtain⟨d,r,rfl,h1,h2⟩:=hasAllW_cons N;obtain rfl:=hasAllW_nil h2;obtain⟨xs,rfl,h3⟩:=hasW_list h1;obtain⟨ns,rfl⟩:=items_int h3;have F:ns.length<=n:=by
  unfold OpenLaw.pre at U;have G:(WTm.not (.lt (.lit (.int (n:Int))) (.len (.arg 0)))).holds [] {args:=[.list (ns.map .int)]}=true:=by
   have G:=(holds_andW U).1;rw[W]at G;exact G
  have J:=condW_of G (w_not (w_lt w_lit (w_len_list (w_arg rfl))));rw[zal]at J;refine Nat.le_of_not_lt λq=>?_
  have Y:(n:Int)<((ns.length:Nat):Int):=by lia
  first
   | (rw[decide_eq_true Y]at J;exact absurd J (by decide))
   | (simp at J;lia)
 cases M with
 | cons w1 w2=>
  cases w2;cases w1 with
  | list ho hall=>exact⟨_,_,ns,rfl,rfl,ho,pO ns _ hall,F⟩
theorem GS(l:OpenLaw)(args:List WData):l.row.toRowW.claim.post args (.bool true) args=true:=
 postW_of (r:=l.row.toRowW) (X:=(true == true))
  (show WShape.has [] (.bool true) .bool=true by first|rfl|decide|simp[WShape.has,WShape.arms,WShape.armsAll])
  (show(WTm.eq .res (.lit (.bool true))).value [] {args:=args,res:=some (.bool true),after:=args}=some (.bool (true == true))from w_eq_bool (w_res rfl) w_lit) rfl
theorem yO{l:OpenLaw}{n:Nat}{q:zah}{B:List Str}{XP:(Str->Option Value)->Heap->Prop}{YP:World->Heap->Prop}{d:DefRec}
  (hn:l.most=some n) (ae:d.params.defaults=[])
  (call:∀(w:World) (F z:zad) (mg mb:Str -> Option Value) (W:Addr) (o:Obj) (pm cd M:Value) (a:Addr) (vs:List Value) (ns:List Int),
   Ground q B [] XP w F mg mb z.heap->YP w z.heap->
   z.heap.get? W=some o->o.data=.func (docDef d.name d.params d.body d.scope pm cd M)->z.heap.CodeRec cd d.name->mg d.name=some (.ref W)->
   z.heap.get? a=some {cls:=.type "list",data:=.seq vs.toArray}->zbi vs ns->ns.length<=n->z.gens=#[]->
   zbF (model l.prog w) zco (.call (.ref W) ⟨[.ref a],[]⟩) (λr s'=>r=.ok (.ret (.bool true))/\OldK z.heap s'.heap/\s'.os=z.os/\zbO s'.gens) z) :
  WalkO q B XP YP l.row.toRowW d [] (λf vs=>PySem.call f vs):=by
 intro w F z mg mb G Y W o pm cd M dV kV ho hd ah hD af hg args aj as U ai ax ac aq;obtain rfl:dV=.none:=Dflts.none hD ae;obtain rfl:kV=.none:=Dflts.noKw hD;obtain⟨a,vs,ns,rfl,rfl,N,J,aa⟩:=GL hn U ac;refine enter_call (zdf (call w F z mg mb W o pm cd M a vs ns G Y ho (fd_plain hd) ah af N J aa hg) λr s' hq=>?_);obtain⟨rfl,h2,h3,h4⟩:=hq;exact⟨.inl ⟨.bool true,.bool true,[],rfl,λ_=>rfl,.bool true,GS l _,λ_=>⟨zdp,λ_ hm=>(nomatch hm)⟩⟩,h2,h3,h4⟩
section
variable {prog:zah}{w:World}{A:zam}{E:Value->zad->Prop}{s:zad}{K:Frag}
end
end Att
namespace L2
open PySem PySem.Spec PyProof.Rows
theorem vL:∀ {vs:List Value} {ns:List Int},zbi vs ns->Vals (ns.map V.int) vs
 | _,_,.nil=>.nil
 | _,_,.cons n t h=>.cons ⟨t,rfl⟩ (vL h)
def Only(H:Hp):Prop:=∀b,H b=none\/∃o xs,H b=some (.frz o (.lst xs))
theorem JL{P:zah}{w:World}{K:zae}{mg mb:Str->Option Value}{CX:JE}{k:Nat}{fa a:Addr}{fd:zbf}{x:Str}{sp:Sp}{B:zad}{vs:List Value}{ns:List Int}
  (KX:K.In B.heap) (ad:B.heap.Ns zaK mg) (J:B.heap.Ns builtinsNs mb) (aj:∀x:Str,x ≠ "__name__" -> mb x=zaH x) (aa:B.heap.NoLimit) (hg:B.gens=#[])
  (ha:B.heap.get? a=some {cls:=.type "list",data:=.seq vs.toArray}) (hi:zbi vs ns) (hl:ns.length<=zaj) (hr:Room k zco)
  (F:∀base:Heap,K.In base->base.Ns zaK mg->FnOk P w K mg base CX k fa fd [x] sp) (U:∀(s:zad) (u:Value),BindsTo s fd ⟨[u],[]⟩ [(x,u)])
  (hsp:∀H:Hp,Only H->SqL K H a (ns.map V.int)->sp [.ref a] H (λv _=>v=.bl true) λ_ _ _=>False)
  (ah:∀H e s',CX [] H B (λ_ _ _=>False) e s'->False) :
  zbF (model P w) zco (.call (.ref fa) ⟨[.ref a],[]⟩) (λr s'=>r=.ok (.ret (.bool true))/\OldK B.heap s'.heap/\s'.os=B.os/\zbO s'.gens) B:=by
 have rv:=vL hi;have ac:=hi.length
 -- from an abstract heap in which nothing but the script may be tracked
 have N:∀H:Hp,Only H->SqL K H a (ns.map V.int)->HOk P w H B.heap->(∀b,H b≠none->b=a)->(H a≠none->K.lookup a=none)->
   zbF (model P w) zco (.call (.ref fa) ⟨[.ref a],[]⟩) (λr s'=>r=.ok (.ret (.bool true))/\OldK B.heap s'.heap/\s'.os=B.os/\zbO s'.gens) B:=by
  intro H hO hS af hA hK;have G:∀ {b:Addr} {o:Obj},B.heap.get? b=some o->H b=none->(xZ B.heap H).get? b=some o:=λe n=>LU e n
  have al:∀ {b:Addr} {o:Obj} {es:Array zcp} {ep:Nat},B.heap.get? b=some o->o.data=.dict es ep->H b=none:=λ{b o es ep} e d=>by
   cases q:H b with
   | none=>rfl
   | some u=>
    have e':b=a:=hA b (by rw[q];simp);subst e';rw[ha]at e;cases e;have d':Data.seq vs.toArray _=Data.dict es ep:=d;cases d'
  have M:∀ {b:Addr} {m:Str->Option Value},B.heap.Ns b m->(xZ B.heap H).Ns b m:=λ{b m} ⟨o,es,ep,e,d,r⟩=>⟨o,es,ep,G e (al e d),d,r⟩
  have W:K.In (xZ B.heap H):=λb o e=>G (KX b o e) (by
   cases q:H b with
   | none=>rfl
   | some u=>
    have e':b=a:=hA b (by rw[q];simp);subst e';rw[hK (by rw[q];simp)]at e;cases e)
  have hM:Mod K mg (xZ B.heap H):=⟨W,M ad,⟨mb,M J,aj⟩,let ⟨mc,h1,h2⟩:=aa;⟨mc,M h1,h2⟩⟩;have e0:Env0 P w K mg (xZ B.heap H) zco [] B H:=⟨rfl,hM,λb o e=>QR e,Nat.le_of_eq (IJ _ _),trivial,λb J=>absurd (show b∈([]:List Addr)from J) (by simp),af,.of_eq hg⟩;refine zdf ((F _ W (M ad)).run zco [] B H ⟨[.ref a],[]⟩ [.ref a] [.ref a] _ _ hr e0 (U B (.ref a)) (.cons rfl .nil) (hsp H hO hS)) λr s' h=>?_
  cases r with
  | error e=>exact(ah H e s' h).elim
  | ok fl=>
   cases fl with
   | next=>exact za8 h
   | brk=>exact za8 h
   | cont=>exact za8 h
   | ret u=>
    obtain⟨v,H',os,ae,un,Y,r',q⟩:=h;have q':v=.bl true:=q;subst q';obtain rfl:u=zcu true:=r';refine⟨rfl,OldK.of_keep λb o e=>?_,os,ae⟩;cases q:H b with
    | none=>exact un.keep b o e q (by intro z;exact absurd (show b∈([]:List Addr)from z) (by simp)) (by simp)
    | some u=>
     rcases hO b with z|⟨ob,xs,z⟩
     ·rw[q]at z;cases z
     ·have z2:=un.frzs b ob _ z
      obtain⟨e1,_⟩:=af b _ z;obtain⟨e2,_⟩:=Y b _ z2;rw[e]at e1;cases e1;exact e2
 cases hk:K.lookup a with
 | some o=>
  -- the script is one of the module's own objects
  have e:=KX a o hk;rw[ha]at e;cases e;refine N (λ_=>none) (λ_=>.inl rfl) (.inr ⟨_,vs.toArray,_,hk,rfl,rfl,rfl,by rw[zay,ac];exact hl,by simpa using rv⟩) (λb u z=>by have z':(none:Option HO)=some u:=z;cases z') (λb z=>absurd rfl z) λz=>absurd rfl z
 | none=>
  refine N (λb=>if b=a then some (.frz {cls:=.type "list",data:=.seq vs.toArray} (.lst (ns.map V.int)))else none) (λb=>?_) (.inl (.inr ⟨{cls:=.type "list",data:=.seq vs.toArray},if_pos rfl⟩)) (λb u z=>?_) (λb z=>?_) λ_=>hk
  ·by_cases J:b=a
   ·exact .inr ⟨_,_,if_pos J⟩
   ·exact .inl (if_neg J)
  ·by_cases J:b=a
   ·have z':=(if_pos J).symm.trans z
    cases z';subst J;exact⟨ha,by rw[zal];exact hl,vs,_,rv,ha⟩
   ·have z':=(if_neg J).symm.trans z
    cases z'
  ·by_cases J:b=a
   ·exact J
   ·exact absurd (if_neg J) z
theorem P7{l:zee}{n k:Nat}{q:zah}{B:List Str}{XP:(Str->Option Value)->Heap->Prop}{YP:World->Heap->Prop}{d:DefRec}{K:Params->zae}{CX:World->JE}{sp:World->Sp}{x:Str}
  (hn:l.most=some n) (ad:n<=zaj) (ab:d.params.defaults=[]) (hr:Room k zco)
  (hY:∀(w:World) (h:Heap),YP w h->(K w.params).In h)
  (F:∀(w:World) (mg:Str -> Option Value) (U:Addr) (h:Heap), (K w.params).In h -> h.Ns zaK mg -> mg d.name = some (.ref U) ->
   ∃fd:zbf,(∀(s:zad) (u:Value),BindsTo s fd ⟨[u],[]⟩ [(x,u)]) /\
    ∀base:Heap,(K w.params).In base->base.Ns zaK mg->FnOk l.prog w (K w.params) mg base (CX w) k U fd [x] (sp w))
  (hsp:∀(w:World) (H:Hp) (a:Addr) (ns:List Int),ns.length<=n->Only H->SqL (K w.params) H a (ns.map V.int)->sp w [.ref a] H (λv _=>v=.bl true) λ_ _ _=>False)
  (aa:∀(w:World) (H:Hp) (s:zad) (e:Value) (s':zad),CX w [] H s (λ_ _ _=>False) e s'->False) :
  PySem.W.WalkO q B XP YP l.row.toRowW d [] (λf vs=>PySem.call f vs):=by
 refine Att.yO hn ab λw ae N mg mb U o pm cd ak a vs ns G Y ho hd ar ac M J z hg=>?_
 have KX:=hY w _ Y;obtain⟨fd,hb,hF⟩:=F w mg U _ KX G.T.g ac;exact JL KX G.T.g G.T.b G.T.builtins G.T.nolimit hg M J (zaL z ad) hr hF hb (λH hO hS=>hsp w H a ns z hO hS) λH e s'=>aa w H N e s'
noncomputable def inClass(s:Stmt)(j:Nat):Stmt:=match s with
 | .ClassDef _ _ _ body _ _ _ _ _ _ _=>body.getD j (.Pass ⟨0,0,0,0⟩)
 | _=>.Pass ⟨0,0,0,0⟩
noncomputable def d6(s:Stmt):Arguments:=match s with
 | .FunctionDef _ a _ _ _ _ _ _ _ _=>a
 | _=>{posonlyargs:=[],args:=[],vararg:=none,kwonlyargs:=[],kw_defaults:=[],kwarg:=none,defaults:=[]}
noncomputable def bU(s:Stmt):List Stmt:=match s with
 | .FunctionDef _ _ b _ _ _ _ _ _ _=>b
 | _=>[]
noncomputable def aL(s:Stmt):Scope:=match s with
 | .FunctionDef _ _ _ _ _ _ sc _ _ _=>sc
 | _=>{kind:=.function,names:=[],isGenerator:=false,isCoroutine:=false}
abbrev uL:JE:=λ_ _ _ _ _ _=>False
abbrev E0:XK:=λ_ _ _=>False
theorem F6:tH uL X E0:=λ_ _ _ _ _ _ _ h=>h.elim
structure Fun(K:zae)(x qual:Str)(st:Stmt)(f:Addr)(fd:zbf):Prop where
 ex:∃(oc:Value) (od:Option Addr) (kV doc pm:Value) (an:Option Addr) (cdv ct:Value) (osl:Array (Option Value)),
  fd=zbh x qual (d6 st) (bU st) (aL st) .none kV doc pm an cdv ct/\K.lookup f=some ⟨oc,od,.func fd,osl⟩/\zcl K cdv qual=true
 kp:zbG K (.ref f)=true
section
variable {P:zah}{w:World}{K:zae}{mg:Str->Option Value}{base:Heap}
theorem Fun.ok{x B:Str}{st:Stmt}{f:Addr}{fd:zbf}{N ps:List Str}{k:Nat}{sp:Sp}(F:Fun K x B st f fd)(S:FnScope N ps (aL st))(M:∀vs H Q E,sp vs H Q E->vs.length=ps.length)
  (J:∀(G:Value) (A:zam) (z:List Env) (s:zad) (H:Hp) (vs:List V) (Q:VK) (E:XK), Room k (A.deeper (zaN B (aL st) s.heap.objs.size f G)) -> sp vs H Q E ->
   ∃t,PSs (i7 uL P w K mg base N B (aL st) f G A z s H E).nox (bU st) t/\t {nx:=λ_ H'=>Q .non H',rt:=Q} (start N vs) H):FnOk P w K mg base uL (k+1) f fd ps sp:=by
 obtain⟨oc,od,kV,ab,pm,an,G,ct,Y,rfl,lk,U⟩:=F.ex;refine XE lk U S M λA z s H vs Q E W hsp=>?_
 obtain⟨t,h,q⟩:=J G A z s H vs Q E W hsp;exact⟨t,h.nox,q⟩
theorem Fun.binds{x q:Str}{st:Stmt}{f:Addr}{fd:zbf}{ps:List Str}(F:Fun K x q st f fd)
  (h:∀(kV B J:Value) (G:Option Addr) (z ct:Value) (us:List Value),us.length=ps.length->bindArgs (zbh x q (d6 st) (bU st) (aL st) .none kV B J G z ct) ⟨us,[]⟩=pure (ps.zip us)):Binds K fd ps []:=by
 obtain⟨U,od,kV,B,J,G,z,ct,M,rfl,W,N⟩:=F.ex;exact .all (h kV B J G z ct)
theorem DB{x q:Str}{st:Stmt}{f:Addr}{M:Value}{od G:Option Addr}{F:Array (Option Value)}{kV B J z ct:Value}(l:K.lookup f=some ⟨M,od,.func (zbh x q (d6 st) (bU st) (aL st) .none kV B J G z ct),F⟩)
  (c:zcl K z q=true) (k:zbG K (.ref f)=true):Fun K x q st f (zbh x q (d6 st) (bU st) (aL st) .none kV B J G z ct):=⟨⟨M,od,kV,B,J,G,z,ct,F,rfl,l,c⟩,k⟩
end
theorem pK(q:Room k A):A.units+1<cLine:=zcC (zef (by decide:1<=64) _) q.units
section
variable {X:Cx}
theorem pv(i:Nat)(z:X.N[i]?=some x:=by rfl)(B:W2 X.env.scope x:=by first|exact zaZ rfl|exact zbL (zaZ rfl)|exact zbL (zbL rfl))(hd:(x == ("__debug__" : Str))=false:=by decide)
  (q:(x == ("__classdict__" : Str))=false:=by decide):PE X (.Name x pos) (cZ i):=VS z B hd q
end
theorem Y8{A B:Prop}(h:B):if false=true then A else B:=by
 rw[if_neg zaB];exact h
theorem ZC{A B:Prop}(h:A):if true=true then A else B:=by
 rw[if_pos rfl];exact h
def Same(H H':Hp):Prop:=∀b o,H b=some o->H' b=some o
theorem Same.trans(a:Same H H1)(b:Same H1 H2):Same H H2:=λc o h=>b c o (a c o h)
theorem Same.free(e:Same H H')(h:H' l=Option.none):H l=Option.none:=by
 cases q:H l with
 | none=>rfl
 | some o=>
  rw[e l o q]at h;cases h
theorem Same.seq{K:zae}{H H':Hp}{a:Addr}{xs:List V}(e:Same H H')(h:SqL K H a xs):SqL K H' a xs:=by
 rcases h with(h|⟨o,h⟩)|h
 ·exact .inl (.inl (e _ _ h))
 ·exact .inl (.inr ⟨o,e _ _ h⟩)
 ·exact .inr h
section
variable {X:Cx}
end
section
variable {κ:Type}[DecidableEq κ]
end
end L2
set_option maxHeartbeats 4000000
namespace My
open PySem PySem.Spec PyProof.Rows L2
def DK(i j:Int):Prop:=(-(10^250)<i/\i<10^250)/\-(10^250)<j/\j<10^250
theorem zG(h1:-(10^250)<i)(h2:i<10^250):Builtin.Int.intBits i<=2^20:=by
 have h:i.natAbs<10^250:=by lia
 have e:(10:Nat)^250<=2^(4*250):=by
  rw[Nat.pow_mul];exact Nat.pow_le_pow_left (by decide) 250
 exact zaL (PyProof.Rows.intBits_le (zaX h e)) (by decide)
section
variable {X:Cx}
theorem RG:OpR X (zaM .Mult) (rI DK λi j=>.int (i*j)):=Z6 λ_ _ _ _ _ _ _ z q=>mul_int q (IntMulOk.of_bits (zG z.1.1 z.1.2) (zG z.2.1 z.2.2))
def qaj(K:zae):List V->Hp->VK->Prop:=λxs H Q=>∃x n t b,xs=[x,.ty n]/\TyOf K H x t/\zdd K t (.type n)=some b/\Q (.bl b) H
theorem JR:CallR X (.builtin "isinstance") (qaj X.K):=by
 intro pins s σ H xs z Q I r h;obtain⟨x,n,t,b,rfl,ty,e,q⟩:=h;obtain⟨u,B,rfl,r1,r2⟩:=vals2 r;cases r2;exact HU I r1 ty e λtk=>⟨.bl b,H,I.tok tk,rfl,q⟩
end
structure Ok(P:zah)(w:World)(K:zae)(mg:Str->Option Value)(base:Heap)(x:Str)(k:Nat)(ps:List Str)(sp:Sp):Prop where
 ex:∃f fd,zbG K (.ref f)=true/\Binds K fd ps []/\mg x=some (.ref f)/\FnOk P w K mg base uL k f fd ps sp
structure DefAt(K:zae)(mg:Str->Option Value)(x:Str)(st:Stmt)(ps:List Str):Prop where
 ex:∃f fd,Fun K x x st f fd/\Binds K fd ps []/\mg x=some (.ref f)
def UD(sp:Sp)(t:TA):TE:=λσ H Q=>t σ H λvs H1=>sp vs H1 Q E0
section
variable {X:Cx}{x:Str}{k:Nat}{ps:List Str}{sp:Sp}{e:Expr}{es:List Expr}{t:TA}{p pos:Pos}
theorem JW(O:Ok X.prog X.w X.K X.mg X.base x k ps sp)(B:Room k X.A)(N:Gl X x)(J:PA X (e::es) t)(q:(x == ("__debug__" : Str))=false:=by decide)
  (U:zag (e::es) X.env=(false,eval e X.env)::zag es X.env:=by rfl) (z:(zaG pos (zag es X.env)).any (·.1)=false:=by rfl) :
  PE X (.Call (.Name x p) (e::es) [] pos) (UD sp t):=by
 obtain⟨f,fd,G,W,M,F⟩:=O.ex;have h:=wQ (p:=p) (pos:=pos) F B N M G W .nil F6 J q U z;intro pins s σ H Q I hw;refine h pins s σ H Q I ?_;have e:(λ(vs:List V) (H1:Hp)=>sp (vs++[]) H1 Q E0)=λvs H1=>sp vs H1 Q E0:=by
  funext vs H1;rw[zbb]
 show t σ H λvs H1=>sp (vs++[]) H1 Q E0
 rw[e];exact hw
end
section
variable {P:zah}{w:World}{K:zae}{mg:Str->Option Value}{base:Heap}
def BodyOk(P:zah)(w:World)(K:zae)(mg:Str->Option Value)(base:Heap)(x:Str)(st:Stmt)(N:List Str)(k:Nat)(sp:Sp):Prop:=
 ∀(f:Addr) (cdv:Value) (A:zam) (outer:List Env) (s:zad) (H:Hp) (vs:List V) (Q:VK) (E:XK),Room k (A.deeper (zaN x (aL st) s.heap.objs.size f cdv))->sp vs H Q E->
   ∃t,PSs (i7 uL P w K mg base N x (aL st) f cdv A outer s H E).nox (bU st) t/\t {nx:=λ_ H'=>Q .non H',rt:=Q} (start N vs) H
theorem BodyOk.fn{x:Str}{st:Stmt}{N ps:List Str}{k:Nat}{sp:Sp}{f:Addr}{fd:zbf}(z:BodyOk P w K mg base x st N k sp)(F:Fun K x x st f fd)(S:FnScope N ps (aL st))(G:∀vs H Q E,sp vs H Q E->vs.length=ps.length) :
  FnOk P w K mg base uL (k+1) f fd ps sp:=F.ok S G λB A q s H vs Q E J h=>z f B A q s H vs Q E J h
theorem BodyOk.ok{x:Str}{st:Stmt}{N ps:List Str}{k:Nat}{sp:Sp}(q:BodyOk P w K mg base x st N k sp)(D:DefAt K mg x st ps)(S:FnScope N ps (aL st))(z:∀vs H Q E,sp vs H Q E->vs.length=ps.length) :
  Ok P w K mg base x (k+1) ps sp:=by
 obtain⟨f,fd,F,B,G⟩:=D.ex;exact⟨f,fd,F.kp,B,G,q.fn F S z⟩
theorem Ok.mono(O:Ok P w K mg base x j ps sp)(h:j<=k):Ok P w K mg base x k ps sp:=by
 obtain⟨f,fd,B,z,q,F⟩:=O.ex;exact⟨f,fd,B,z,q,F.mono h⟩
end
def AY(K:zae):Sp:=λvs H Q _=>∃(a:Addr) (ns:List Int),vs=[.ref a]/\SqL K H a (ns.map V.int)/\ns.length<=63/\∀H',Q (.bl true) H'
theorem walk{l:zee}{q:zah}{B:List Str}{Y:(Str->Option Value)->Heap->Prop}{J:World->Heap->Prop}{d:DefRec}{K:Params->zae}{k:Nat}(hk:k<=100)(M:l.most=some 63)(G:d.params.defaults=[])
  (hY:∀(w:World) (h:Heap),J w h->(K w.params).In h)
  (F:∀(w:World) (mg:Str -> Option Value) (fa:Addr) (h:Heap), (K w.params).In h -> h.Ns zaK mg -> mg d.name = some (.ref fa) ->
   ∃fd:zbf,(∀(s:zad) (u:Value),BindsTo s fd ⟨[u],[]⟩ [("script",u)])/\∀base:Heap,(K w.params).In base->base.Ns zaK mg->FnOk l.prog w (K w.params) mg base uL k fa fd ["script"] (AY (K w.params))) :
  PySem.W.WalkO q B Y J l.row.toRowW d [] (λf vs=>PySem.call f vs):=
 L2.P7 (n:=63) (k:=k) (x := "script") (CX:=λ_=>uL) (sp:=λw=>AY (K w.params)) M (by decide) G (Room.mono (k:=100) ⟨rfl,by decide,by decide⟩ hk) hY F (λ_ _ a ns U _ N=>⟨a,ns,rfl,N,U,λ_=>rfl⟩) λ_ _ _ _ _ z=>z
theorem K6(h:H p=none):Same H (upd H p o):=λb u e=>by
 rw[aE (bH e h)];exact e
theorem Same.tupR{K:zae}{H H':Hp}{a:Addr}{xs:List V}(e:Same H H')(h:SqT K H a xs):SqT K H' a xs:=by
 rcases h with(h|⟨o,h⟩)|h
 ·exact .inl (.inl (e _ _ h))
 ·exact .inl (.inr ⟨o,e _ _ h⟩)
 ·exact .inr h
noncomputable def num(c:Int):Int:=if c%3=0 then c/3%21-10 else c/3%(2*10^60-1)-(10^60-1)
theorem boot_len:zaH "len" = some (.builtin "len"):=by decide +kernel
theorem boot_max:zaH "max" = some (.builtin "max"):=by decide +kernel
theorem boot_min:zaH "min" = some (.builtin "min"):=by decide +kernel
theorem boot_isinstance:zaH "isinstance" = some (.builtin "isinstance"):=by decide +kernel
theorem boot_int:zaH "int" = some (.type "int"):=by decide +kernel
theorem boot_tuple:zaH "tuple" = some (.type "tuple"):=by decide +kernel
theorem boot_list:zaH "list" = some (.type "list"):=by decide +kernel
theorem boot_dict:zaH "dict" = some (.type "dict"):=by decide +kernel
theorem boot_range:zaH "range" = some (.type "range"):=by decide +kernel
theorem boot_zip:zaH "zip" = some (.type "zip"):=by decide +kernel
theorem boot_sum:zaH "sum" = some (.builtin "sum"):=by decide +kernel
end My
namespace My
open PySem PySem.Spec PyProof.Rows L2 PySem.SeqAt
inductive Dx where
 | non|bl (b:Bool)|int (i:Int)|str (x:Str)|tup (l:List Dx)|lst (l:List Dx)
mutual
def Rep(K:zae)(H:Hp):Dx->V->Prop
 | .non,v=>v=.non
 | .bl b,v=>v=.bl b
 | .int i,v=>v=.int i
 | .str x,v=>v=.str x
 | .tup l,v=>∃a xs,v=.ref a/\SqT K H a xs/\RepL K H l xs
 | .lst l,v=>∃a xs,v=.ref a/\SqL K H a xs/\RepL K H l xs
def RepL(K:zae)(H:Hp):List Dx->List V->Prop
 | [],vs=>vs=[]
 | d::ds,vs=>∃x xs,vs=x::xs/\Rep K H d x/\RepL K H ds xs
end
section
variable {K:zae}{H H':Hp}
mutual
theorem Rep.same(e:Same H H'):∀(d:Dx) (v:V),Rep K H d v->Rep K H' d v
 | .non,v,h=>by rw[Rep]at h ⊢;exact h
 | .bl b,v,h=>by rw[Rep]at h ⊢;exact h
 | .int i,v,h=>by rw[Rep]at h ⊢;exact h
 | .str x,v,h=>by rw[Rep]at h ⊢;exact h
 | .tup l,v,h=>by
  rw[Rep]at h ⊢;obtain⟨a,xs,q,h1,h2⟩:=h;exact⟨a,xs,q,Same.tupR e h1,RepL.same e l xs h2⟩
 | .lst l,v,h=>by
  rw[Rep]at h ⊢;obtain⟨a,xs,q,h1,h2⟩:=h;exact⟨a,xs,q,e.seq h1,RepL.same e l xs h2⟩
theorem RepL.same(e:Same H H'):∀(ds:List Dx) (vs:List V),RepL K H ds vs->RepL K H' ds vs
 | [],vs,h=>by rw[RepL]at h ⊢;exact h
 | d::ds,vs,h=>by
  rw[RepL]at h ⊢;obtain⟨x,xs,q,h1,h2⟩:=h;exact⟨x,xs,q,Rep.same e d x h1,RepL.same e ds xs h2⟩
end
theorem RepL.nil:RepL K H [] []:=by rw[RepL]
theorem RepL.cons(h1:Rep K H d v)(h2:RepL K H ds vs):RepL K H (d::ds) (v::vs):=by
 rw[RepL];exact⟨v,vs,rfl,h1,h2⟩
theorem RepL.length:∀ {ds:List Dx} {vs:List V},RepL K H ds vs->vs.length=ds.length
 | [],vs,h=>by rw[RepL]at h;rw[h];rfl
 | d::ds,vs,h=>by
  rw[RepL]at h;obtain⟨x,xs,rfl,_,h2⟩:=h;rw[zaw,zaw,RepL.length h2]
theorem RepL.get':∀ {ds:List Dx} {vs:List V} {i:Nat} {d:Dx},RepL K H ds vs->ds[i]?=some d->∃v,vs[i]?=some v/\Rep K H d v
 | [],vs,i,d,h,e=>by simp at e
 | d'::ds,vs,i,d,h,e=>by
  rw[RepL]at h;obtain⟨x,xs,rfl,h1,h2⟩:=h;cases i with
  | zero=>simp at e;subst e;exact⟨x,rfl,h1⟩
  | succ i=>exact RepL.get' (i:=i) (ds:=ds) h2 (by simpa using e)
theorem RepL.append:∀ {ds es:List Dx} {vs us:List V},RepL K H ds vs->RepL K H es us->RepL K H (ds++es) (vs++us)
 | [],es,vs,us,h,h'=>by rw[RepL]at h;rw[h];exact h'
 | d::ds,es,vs,us,h,h'=>by
  rw[RepL]at h;obtain⟨x,xs,rfl,h1,h2⟩:=h;exact RepL.cons h1 (RepL.append h2 h')
mutual
def Dx.dep:Dx->Nat
 | .tup l=>oB l+1
 | .lst l=>oB l+1
 | .non=>0
 | .bl _=>0
 | .int _=>0
 | .str _=>0
def oB:List Dx->Nat
 | []=>0
 | d::ds=>max d.dep (oB ds)
end
mutual
def Dx.nb:Dx->Bool
 | .bl _=>false
 | .tup l=>JB l
 | .lst l=>JB l
 | .non=>true
 | .int _=>true
 | .str _=>true
def JB:List Dx->Bool
 | []=>true
 | d::ds=>d.nb && JB ds
end
theorem EN:∀ {ds:List Dx} {i:Nat} {d:Dx},ds[i]?=some d->d.dep<=oB ds
 | [],i,d,e=>by simp at e
 | d'::ds,0,d,e=>by simp at e;subst e;rw[oB];lia
 | d'::ds,i+1,d,e=>by
  have:=EN (ds:=ds) (i:=i) (by simpa using e);rw[oB];lia
theorem CZ:∀ {ds:List Dx} {i:Nat} {d:Dx},JB ds=true->ds[i]?=some d->d.nb=true
 | [],i,d,_,e=>by simp at e
 | d'::ds,0,d,h,e=>by simp at e;subst e;rw[JB,zaQ]at h;exact h.1
 | d'::ds,i+1,d,h,e=>by
  rw[JB,zaQ]at h;exact CZ h.2 (by simpa using e)
end
section
variable {X:Cx}{pins:List (Addr×Obj)}{σ:L2.St}{H:Hp}{s:zad}
theorem EY(I:Inv X pins σ H s)(h1:SqL X.K H a xs)(h2:SqT X.K H a ys):False:=by
 obtain⟨its,_,⟨o,n,e,c,_⟩,_⟩:=I.list h1;obtain⟨its',_,⟨o',z,q,_⟩,_⟩:=I.tuple h2;rw[e]at z;cases z;rw[c]at q;exact absurd q (by decide)
mutual
theorem Rep.inj(I:Inv X pins σ H s):∀(d e:Dx) (v:V),Rep X.K H d v->Rep X.K H e v->d=e
 | .non,e,v,h,h'=>by
  rw[Rep]at h;subst h;cases e <;> (rw[Rep]at h') <;> first|rfl|(cases h';done)|(obtain⟨_,_,z,_⟩:=h';cases z)
 | .bl b,e,v,h,h'=>by
  rw[Rep]at h;subst h;cases e <;> (rw[Rep]at h') <;> first|(cases h';rfl)|(cases h';done)|(obtain⟨_,_,z,_⟩:=h';cases z)
 | .int i,e,v,h,h'=>by
  rw[Rep]at h;subst h;cases e <;> (rw[Rep]at h') <;> first|(cases h';rfl)|(cases h';done)|(obtain⟨_,_,z,_⟩:=h';cases z)
 | .str x,e,v,h,h'=>by
  rw[Rep]at h;subst h;cases e <;> (rw[Rep]at h') <;> first|(cases h';rfl)|(cases h';done)|(obtain⟨_,_,z,_⟩:=h';cases z)
 | .tup l,e,v,h,h'=>by
  rw[Rep]at h;obtain⟨a,xs,rfl,h1,h2⟩:=h;cases e with
  | tup m=>
   rw[Rep]at h';obtain⟨b,ys,B,q,F⟩:=h';cases B;have G:=I.tuple_inj h1 q;subst G;rw[RepL.inj I l m xs h2 F]
  | lst m=>
   rw[Rep]at h';obtain⟨b,ys,B,q,F⟩:=h';cases B;exact(EY I q h1).elim
  | non=>rw[Rep]at h';cases h'
  | bl b=>rw[Rep]at h';cases h'
  | int i=>rw[Rep]at h';cases h'
  | str x=>rw[Rep]at h';cases h'
 | .lst l,e,v,h,h'=>by
  rw[Rep]at h;obtain⟨a,xs,rfl,h1,h2⟩:=h;cases e with
  | lst m=>
   rw[Rep]at h';obtain⟨b,ys,B,q,F⟩:=h';cases B;have G:=I.list_inj h1 q;subst G;rw[RepL.inj I l m xs h2 F]
  | tup m=>
   rw[Rep]at h';obtain⟨b,ys,B,q,F⟩:=h';cases B;exact(EY I h1 q).elim
  | non=>rw[Rep]at h';cases h'
  | bl b=>rw[Rep]at h';cases h'
  | int i=>rw[Rep]at h';cases h'
  | str x=>rw[Rep]at h';cases h'
theorem RepL.inj(I:Inv X pins σ H s):∀(ds es:List Dx) (vs:List V),RepL X.K H ds vs->RepL X.K H es vs->ds=es
 | [],es,vs,h,h'=>by
  rw[RepL]at h;subst h;cases es with
  | nil=>rfl
  | cons e es=>rw[RepL]at h';obtain⟨_,_,z,_⟩:=h';cases z
 | d::ds,es,vs,h,h'=>by
  rw[RepL]at h;obtain⟨x,xs,rfl,h1,h2⟩:=h;cases es with
  | nil=>rw[RepL]at h';cases h'
  | cons e es=>
   rw[RepL]at h';obtain⟨_,_,z,B,q⟩:=h';cases z;rw[Rep.inj I d e x h1 B,RepL.inj I ds es xs h2 q]
end
end
open Classical in
theorem xD:∀(ds es:List Dx),((zar (min ds.length es.length)).all (λj=>decide (ds.getD j .non=es.getD j .non)) && ds.length == es.length)=decide (ds=es):=by
 intro ds es;by_cases h:ds=es
 ·subst h
  simp
 ·rw[decide_eq_false h]
  by_cases q:ds.length=es.length
  ·simp only[q,Nat.min_self,beq_self_eq_true,Bool.and_true]
   rw[Bool.eq_false_iff];intro z;rw[List.all_eq_true]at z;refine h (List.ext_getElem q λi h1 h2=>?_);have:=of_decide_eq_true (z i (List.mem_range.mpr h2));simpa[List.getD,h1,h2]using this
  ·have:(ds.length == es.length)=false:=by simpa using q
   rw[this,Bool.and_false]
open Classical in
theorem AU(ds es:List Dx)(h:ds.length=es.length):((zar ds.length).all (λj=>decide (ds.getD j .non=es.getD j .non)))=decide (ds=es):=by
 have:=xD ds es;rw[h,Nat.min_self,beq_self_eq_true,Bool.and_true]at this;rw[h];exact this
section
variable {X:Cx}{pins:List (Addr×Obj)}{σ:L2.St}{H:Hp}{s:zad}
theorem EqAt.to(h:EqAt A s u v b)(e:b=c):EqAt A s u v c:=e ▸ h
open Classical in
theorem mT(I:Inv X pins σ H s){n:Nat}(ih:∀(A:zam) (d e:Dx) (x y:V) (u v:Value),d.dep<=n->A.units+n<cLine->d.nb=true->e.nb=true->Rep X.K H d x->Rep X.K H e y->RelV x u->RelV y v->EqAt A s u v (decide (d=e)))
  {A:zam} {ds es:List Dx} {xs ys:List V} {q vs:List Value} (hd:oB ds<=n) (hu:A.units+(n+1)<cLine) (h1:JB ds=true) (h2:JB es=true) (r1:RepL X.K H ds xs) (r2:RepL X.K H es ys) (J:Vals xs q) (B:Vals ys vs) :
  ∀j (h1:j<q.toArray.size) (h2:j<vs.toArray.size),EqAt A.in1 s q.toArray[j] vs.toArray[j] (decide (ds.getD j .non=es.getD j .non)):=by
 intro j U W;have l1:=r1.length;have l2:=r2.length;have l3:=J.length;have l4:=B.length;have k1:j<q.length:=by simpa using U
 have k2:j<vs.length:=by simpa using W
 have z:ds[j]?=some (ds.getD j .non):=by simp[List.getD,show j<ds.length by lia]
 have F:es[j]?=some (es.getD j .non):=by simp[List.getD,show j<es.length by lia]
 obtain⟨x,ex,rx⟩:=r1.get' z;obtain⟨y,M,ry⟩:=r2.get' F;obtain⟨u,G,ru⟩:=J.get ex;obtain⟨v,ev,rv⟩:=B.get M;have N:q.toArray[j]=u:=by
  rw[zaT k1]at G;simpa using zaz G
 have Y:vs.toArray[j]=v:=by
  rw[zaT k2]at ev;simpa using zaz ev
 rw[N,Y];exact ih A.in1 _ _ x y u v (zaL (EN z) hd) (by show A.units+1+n<cLine;lia) (CZ h1 z) (CZ h2 F) rx ry ru rv
end
section
variable {X:Cx}{pins:List (Addr×Obj)}{σ:L2.St}{H:Hp}{s:zad}
theorem PlainL.isList(p:PlainL h a its):h.IsList a its:=by
 obtain⟨o,n,e,c,_,d⟩:=p;exact⟨o,e,c,n,d⟩
open Classical in
theorem pT(I:Inv X pins σ H s) :
  ∀(n:Nat) (A:zam) (d e:Dx) (x y:V) (u v:Value),d.dep<=n->A.units+n<cLine->d.nb=true->e.nb=true->Rep X.K H d x->Rep X.K H e y->RelV x u->RelV y v->EqAt A s u v (decide (d=e)):=by
 intro n;induction n with
 | zero=>
  intro A d e x y u v hd hu N G r1 r2 U B;have q:A.units<cLine:=by lia
  cases d with
  | bl b=>rw[Dx.nb]at N;cases N
  | tup l=>rw[Dx.dep]at hd;lia
  | lst l=>rw[Dx.dep]at hd;lia
  | non=>
   rw[Rep]at r1;subst r1;cases U;cases e with
   | bl b=>rw[Dx.nb]at G;cases G
   | non=>rw[Rep]at r2;subst r2;cases B;exact EqAt.to (EqAt.same _) (by simp)
   | int i=>rw[Rep]at r2;subst r2;obtain⟨t,rfl⟩:=B;exact EqAt.to (EqAt.none_int _ _) (by simp)
   | str i=>rw[Rep]at r2;subst r2;obtain⟨t,rfl⟩:=B;exact EqAt.to (EqAt.none_str _ _) (by simp)
   | tup l=>
    rw[Rep]at r2;obtain⟨a,xs,rfl,h1,_⟩:=r2;cases B;obtain⟨its,_,F,_⟩:=I.tuple h1;exact EqAt.to (EqAt.none_tuple F q) (by simp)
   | lst l=>
    rw[Rep]at r2;obtain⟨a,xs,rfl,h1,_⟩:=r2;cases B;obtain⟨its,_,F,_⟩:=I.list h1;exact EqAt.to (EqAt.none_list F.isList q) (by simp)
  | int i=>
   rw[Rep]at r1;subst r1;obtain⟨t,rfl⟩:=U;cases e with
   | bl b=>rw[Dx.nb]at G;cases G
   | non=>rw[Rep]at r2;subst r2;cases B;exact EqAt.to (EqAt.int_none _ _) (by simp)
   | int j=>rw[Rep]at r2;subst r2;obtain⟨t',rfl⟩:=B;exact EqAt.to (EqAt.int_int _ _ _ _) (by simp[Bool.beq_eq_decide_eq])
   | str j=>rw[Rep]at r2;subst r2;obtain⟨t',rfl⟩:=B;exact EqAt.to (EqAt.int_str _ _ _ _) (by simp)
   | tup l=>
    rw[Rep]at r2;obtain⟨a,xs,rfl,h1,_⟩:=r2;cases B;obtain⟨its,_,F,_⟩:=I.tuple h1;exact EqAt.to (EqAt.int_tuple _ _ F q) (by simp)
   | lst l=>
    rw[Rep]at r2;obtain⟨a,xs,rfl,h1,_⟩:=r2;cases B;obtain⟨its,_,F,_⟩:=I.list h1;exact EqAt.to (EqAt.int_list _ _ F.isList q) (by simp)
  | str i=>
   rw[Rep]at r1;subst r1;obtain⟨t,rfl⟩:=U;cases e with
   | bl b=>rw[Dx.nb]at G;cases G
   | non=>rw[Rep]at r2;subst r2;cases B;exact EqAt.to (EqAt.str_none _ _) (by simp)
   | int j=>rw[Rep]at r2;subst r2;obtain⟨t',rfl⟩:=B;exact EqAt.to (EqAt.str_int _ _ _ _) (by simp)
   | str j=>rw[Rep]at r2;subst r2;obtain⟨t',rfl⟩:=B;exact EqAt.to (EqAt.str_str _ _ _ _) (by simp[Bool.beq_eq_decide_eq])
   | tup l=>
    rw[Rep]at r2;obtain⟨a,xs,rfl,h1,_⟩:=r2;cases B;obtain⟨its,_,F,_⟩:=I.tuple h1;exact EqAt.to (EqAt.str_tuple _ _ F q) (by simp)
   | lst l=>
    rw[Rep]at r2;obtain⟨a,xs,rfl,h1,_⟩:=r2;cases B;obtain⟨its,_,F,_⟩:=I.list h1;exact EqAt.to (EqAt.str_list _ _ F.isList q) (by simp)
 | succ n ih=>
  intro A d e x y u v hd hu N G r1 r2 U B;have q:A.units<cLine:=by lia
  cases d with
  | bl b=>rw[Dx.nb]at N;cases N
  | non=>exact ih A _ e x y u v (by rw[Dx.dep];lia) (by lia) N G r1 r2 U B
  | int i=>exact ih A _ e x y u v (by rw[Dx.dep];lia) (by lia) N G r1 r2 U B
  | str i=>exact ih A _ e x y u v (by rw[Dx.dep];lia) (by lia) N G r1 r2 U B
  | tup l=>
   have Y:=r1;rw[Rep]at r1;obtain⟨a,xs,rfl,h1,q1⟩:=r1;cases U;obtain⟨its,v1,F,_⟩:=I.tuple h1;cases e with
   | bl b=>rw[Dx.nb]at G;cases G
   | non=>rw[Rep]at r2;subst r2;cases B;exact EqAt.to (EqAt.tuple_none F q) (by simp)
   | int j=>rw[Rep]at r2;subst r2;obtain⟨t',rfl⟩:=B;exact EqAt.to (EqAt.tuple_int _ _ F q) (by simp)
   | str j=>rw[Rep]at r2;subst r2;obtain⟨t',rfl⟩:=B;exact EqAt.to (EqAt.tuple_str _ _ F q) (by simp)
   | lst m=>
    rw[Rep]at r2;obtain⟨b,ys,rfl,h2,q2⟩:=r2;cases B;obtain⟨M,W,J,_⟩:=I.list h2;exact EqAt.to (EqAt.tuple_list F J.isList q) (by simp)
   | tup m=>
    by_cases hv:v=zaq a
    ·subst hv
     obtain rfl:y=V.ref a:=RelV.inj B rfl;have:=Rep.inj I _ _ _ Y r2;rw[this];exact EqAt.to (EqAt.same _) (by simp)
    ·rw[Rep]at r2;obtain⟨b,ys,rfl,h2,q2⟩:=r2;cases B
     obtain⟨M,W,J,_⟩:=I.tuple h2;rw[Dx.dep]at hd;rw[Dx.nb]at N G;refine EqAt.to (EqAt.of_refs (λz=>hv (by rw[z])) (RcAt.tuples F J q (mT I ih (by lia) hu N G q1 q2 v1 W))) ?_;have e1:its.toArray.size=l.length:=by rw[zay,<- v1.length,q1.length]
     have e2:M.toArray.size=m.length:=by rw[zay,<- W.length,q2.length]
     rw[e1,e2,xD];simp
  | lst l=>
   have Y:=r1;rw[Rep]at r1;obtain⟨a,xs,rfl,h1,q1⟩:=r1;cases U;obtain⟨its,v1,F,_⟩:=I.list h1;cases e with
   | bl b=>rw[Dx.nb]at G;cases G
   | non=>rw[Rep]at r2;subst r2;cases B;exact EqAt.to (EqAt.list_none F.isList q) (by simp)
   | int j=>rw[Rep]at r2;subst r2;obtain⟨t',rfl⟩:=B;exact EqAt.to (EqAt.list_int _ _ F.isList q) (by simp)
   | str j=>rw[Rep]at r2;subst r2;obtain⟨t',rfl⟩:=B;exact EqAt.to (EqAt.list_str _ _ F.isList q) (by simp)
   | tup m=>
    rw[Rep]at r2;obtain⟨b,ys,rfl,h2,q2⟩:=r2;cases B;obtain⟨M,W,J,_⟩:=I.tuple h2;exact EqAt.to (EqAt.list_tuple F.isList J q) (by simp)
   | lst m=>
    by_cases hv:v=zaq a
    ·subst hv
     obtain rfl:y=V.ref a:=RelV.inj B rfl;have:=Rep.inj I _ _ _ Y r2;rw[this];exact EqAt.to (EqAt.same _) (by simp)
    ·rw[Rep]at r2;obtain⟨b,ys,rfl,h2,q2⟩:=r2;cases B
     obtain⟨M,W,J,_⟩:=I.list h2;rw[Dx.dep]at hd;rw[Dx.nb]at N G;have e1:its.toArray.size=l.length:=by rw[zay,<- v1.length,q1.length]
     have e2:M.toArray.size=m.length:=by rw[zay,<- W.length,q2.length]
     by_cases hl:l.length=m.length
     ·refine EqAt.to (EqAt.of_refs (λz=>hv (by rw[z])) (RcAt.lists F.isList J.isList (by rw[e1,e2,hl]) q (mT I ih (by lia) hu N G q1 q2 v1 W))) ?_
      rw[e1,AU _ _ hl];simp
     ·refine EqAt.to (EqAt.of_refs (λz=>hv (by rw[z])) (RcAt.lists_lengths F.isList J.isList (by rw[e1,e2];simpa using hl) q)) ?_
      rw[decide_eq_false];intro z;cases z;exact hl rfl
end
noncomputable def Dx.seq:Dx->Bool
 | .tup _=>true | .lst _=>true | .non=>false | .bl _=>false | .int _=>false | .str _=>false
open Classical in
def ZS(K:zae)(neg:Bool):R2:=λx y H Q=>∃d e,Rep K H d x/\Rep K H e y/\d.seq=true/\e.seq=true/\d.nb=true/\e.nb=true/\d.dep<=60/\Q (.bl (if neg then !decide (d=e)else decide (d=e))) H
section
variable {X:Cx}{pins:List (Addr×Obj)}{σ:L2.St}{H:Hp}{s:zad}
open Classical in
theorem S0(I:Inv X pins σ H s)(hu:X.A.units+64<cLine)(r1:Rep X.K H d x)(r2:Rep X.K H e y)(q1:d.seq=true)(J:e.seq=true)(n1:d.nb=true)(n2:e.nb=true)(hd:d.dep<=60)(ru:RelV x u)(rv:RelV y v) :
  RcAt X.A s u v (decide (d=e))/\RcNeAt X.A s u v (!decide (d=e)):=by
 have B:X.A.units<cLine:=by lia
 cases d with
 | bl b=>cases q1
 | non=>cases q1
 | int b=>cases q1
 | str b=>cases q1
 | tup l=>
  rw[Rep]at r1;obtain⟨a,xs,rfl,h1,k1⟩:=r1;cases ru;obtain⟨its,v1,G,_⟩:=I.tuple h1;have N:its.toArray.size=l.length:=by rw[zay,<- v1.length,k1.length]
  cases e with
  | bl b=>cases J
  | non=>cases J
  | int b=>cases J
  | str b=>cases J
  | tup m=>
   rw[Rep]at r2;obtain⟨b,ys,rfl,h2,k2⟩:=r2;cases rv;obtain⟨F,M,q,_⟩:=I.tuple h2;have W:F.toArray.size=m.length:=by rw[zay,<- M.length,k2.length]
   rw[Dx.dep]at hd;rw[Dx.nb]at n1 n2;have Y:=mT I (pT I 60) (A:=X.A) (by lia) (by lia) n1 n2 k1 k2 v1 M;have a1:=RcAt.tuples G q B Y;have a2:=RcNeAt.tuples G q B Y;rw[N,W,xD]at a1 a2;have z:decide (Dx.tup l=Dx.tup m)=decide (l=m):=by simp
   rw[z];exact⟨a1,a2⟩
  | lst m=>
   rw[Rep]at r2;obtain⟨b,ys,rfl,h2,k2⟩:=r2;cases rv;obtain⟨F,M,q,_⟩:=I.list h2;have z:decide (Dx.tup l=Dx.lst m)=false:=by simp
   rw[z];exact⟨RcAt.tuple_list G q.isList B,RcNeAt.tuple_list G q.isList B⟩
 | lst l=>
  rw[Rep]at r1;obtain⟨a,xs,rfl,h1,k1⟩:=r1;cases ru;obtain⟨its,v1,G,_⟩:=I.list h1;have N:its.toArray.size=l.length:=by rw[zay,<- v1.length,k1.length]
  cases e with
  | bl b=>cases J
  | non=>cases J
  | int b=>cases J
  | str b=>cases J
  | tup m=>
   rw[Rep]at r2;obtain⟨b,ys,rfl,h2,k2⟩:=r2;cases rv;obtain⟨F,M,q,_⟩:=I.tuple h2;have z:decide (Dx.lst l=Dx.tup m)=false:=by simp
   rw[z];exact⟨RcAt.list_tuple G.isList q B,RcNeAt.list_tuple G.isList q B⟩
  | lst m=>
   rw[Rep]at r2;obtain⟨b,ys,rfl,h2,k2⟩:=r2;cases rv;obtain⟨F,M,q,_⟩:=I.list h2;have W:F.toArray.size=m.length:=by rw[zay,<- M.length,k2.length]
   rw[Dx.dep]at hd;rw[Dx.nb]at n1 n2;have z:decide (Dx.lst l=Dx.lst m)=decide (l=m):=by simp
   rw[z];by_cases U:l.length=m.length
   ·have Y:=mT I (pT I 60) (A:=X.A) (by lia) (by lia) n1 n2 k1 k2 v1 M
    have a1:=RcAt.lists G.isList q.isList (by rw[N,W,U]) B Y;have a2:=RcNeAt.lists G.isList q.isList (by rw[N,W,U]) B Y;rw[N,AU _ _ U]at a1 a2;exact⟨a1,a2⟩
   ·have z2:decide (l=m)=false:=decide_eq_false λz=>U (by rw[z])
    rw[z2];exact⟨RcAt.lists_lengths G.isList q.isList (by rw[N,W];simpa using U) B,RcNeAt.lists_lengths G.isList q.isList (by rw[N,W];simpa using U) B⟩
end
section
variable {X:Cx}
theorem VZ(J:X.A.units+64<cLine):OpR X (zaA .Eq) (ZS X.K false):=by
 intro pins s σ H x y v u Q I F z h;obtain⟨d,e,r1,r2,B,G,N,M,hd,q⟩:=h;exact(S0 I J r1 r2 B G N M hd F z).1 X.prog X.w X.xe _ ⟨.bl _,H,I,rfl,q⟩
theorem U6(J:X.A.units+64<cLine):OpR X (zaA .NotEq) (ZS X.K true):=by
 intro pins s σ H x y v u Q I F z h;obtain⟨d,e,r1,r2,B,G,N,M,hd,q⟩:=h;exact(S0 I J r1 r2 B G N M hd F z).2 X.prog X.w X.xe _ ⟨.bl _,H,I,rfl,q⟩
end
def TSame(H H':Hp):Prop:=∀b xs,Rd H b (.tup xs)->Rd H' b (.tup xs)
theorem Same.t(e:Same H H'):TSame H H':=λb xs h=>by
 rcases h with h|⟨o,h⟩
 ·exact .inl (e _ _ h)
 ·exact .inr ⟨o,e _ _ h⟩
theorem TSame.trans(a:TSame H H1)(b:TSame H1 H2):TSame H H2:=λc o h=>b c o (a c o h)
theorem TSame.put(h:H l=some (.lst us)):TSame H (upd H l o):=λb xs q=>by
 have B:b≠l:=λz=>by
  subst z;rcases q with q|⟨F,q⟩ <;> (rw[h]at q;cases q)
 rcases q with q|⟨F,q⟩
 ·exact .inl (by rw[aE B];exact q)
 ·exact .inr ⟨F,by rw[aE B];exact q⟩
theorem TSame.sq{K:zae}{H H':Hp}{a:Addr}{xs:List V}(e:TSame H H')(h:SqT K H a xs):SqT K H' a xs:=by
 rcases h with h|h
 ·exact .inl (e _ _ h)
 ·exact .inr h
mutual
def Dx.nl:Dx->Bool
 | .lst _=>false
 | .tup l=>qf l
 | .non=>true
 | .bl _=>true
 | .int _=>true
 | .str _=>true
def qf:List Dx->Bool
 | []=>true
 | d::ds=>d.nl && qf ds
end
section
variable {K:zae}{H H':Hp}
mutual
theorem Rep.tsame(e:TSame H H'):∀(d:Dx) (v:V),d.nl=true->Rep K H d v->Rep K H' d v
 | .non,v,_,h=>by rw[Rep]at h ⊢;exact h
 | .bl b,v,_,h=>by rw[Rep]at h ⊢;exact h
 | .int i,v,_,h=>by rw[Rep]at h ⊢;exact h
 | .str x,v,_,h=>by rw[Rep]at h ⊢;exact h
 | .tup l,v,n,h=>by
  rw[Rep]at h ⊢;rw[Dx.nl]at n;obtain⟨a,xs,q,h1,h2⟩:=h;exact⟨a,xs,q,e.sq h1,RepL.tsame e l xs n h2⟩
 | .lst l,v,n,h=>by rw[Dx.nl]at n;cases n
theorem RepL.tsame(e:TSame H H'):∀(ds:List Dx) (vs:List V),qf ds=true->RepL K H ds vs->RepL K H' ds vs
 | [],vs,_,h=>by rw[RepL]at h ⊢;exact h
 | d::ds,vs,n,h=>by
  rw[RepL]at h ⊢;rw[qf,zaQ]at n;obtain⟨x,xs,q,h1,h2⟩:=h;exact⟨x,xs,q,Rep.tsame e d x n.1 h1,RepL.tsame e ds xs n.2 h2⟩
end
end
theorem Same.put(e:Same H H')(h:H l=none):Same H (upd H' l o):=λb u q=>by
 rw[aE (bH q h)];exact e b u q
def aY(X:Cx)(N:List Str)(scope:Scope)(q:List (Str×Addr))(C:Addr)(s:zad)(H:Hp)(fp:List Addr):Cx where
 prog:=X.prog
 w:=X.w
 K:=X.K
 mg:=X.mg
 base:=X.base
 A:=X.A
 N:=N
 s₀:=s
 H₀:=H
 env:=compEnvC scope q C X.env
 outer:=X.stack
 stack:=X.stack
 ex:=fp
 fn:=λ_=>false
 calm:=X.calm
 pn:=[]
 xe:=λ_ _=>False
def DQ(X:Cx)(q:List Expr)(t:TT):Prop:=
 ∀(pins:List (Addr×Obj)) (s:zad) (σ:L2.St) (H:Hp) (Q:Bool->Hp->Prop),Inv X pins σ H s->t σ H Q->
  wpAny (model X.prog X.w) X.A (forIn q true λc r=>if r=true then do let ok <- isTrue c X.env (eval c X.env);pure (zcD ok)else pure (zcD r)) (TP X pins σ Q) X.xe s
def qaG:TT:=λ_ H Q=>Q true H
theorem PV:DQ X [] qaG:=λpins s σ H Q I h=>wpAny_tests_nil ⟨H,I,h⟩
theorem O8(h:PT X c t):DQ X [c] t:=λpins s σ H Q I hw=>wpAny_tests_one (h pins s σ H Q I hw)
structure Clo(X:Cx)(N:List Str)(scope:Scope)(cl:List (Str×Addr)):Prop where
 clos:closureFor scope X.env=pure cl
 kind:scope.kind=.function
 nocell:∀y∈scope.names,y.2≠.cell
 names:∀y∈scope.names,y.2=.local->scope.names.lookup y.1=some .local
 sub:∀x c,cl.lookup x=some c->X.env.cells.lookup x=some c
 has:∀x,((zbd scope X.env).names.lookup x=some .cell\/(zbd scope X.env).names.lookup x=some .free)->∃c,cl.lookup x=some c
def Start(X:Cx)(N:List Str)(scope:Scope)(σ q:L2.St):Prop:=
 q.length=N.length/\∀(j:Nat) (x:Str) (v:V),N[j]?=some x->q[j]?=some (some v)->W2 (zbd scope X.env) x->¬ (zbd scope X.env).names.lookup x=some .local/\∃i:Nat,X.N[i]?=some x/\σ[i]?=some (some v)/\(X.env.kindOf x=some .cell\/X.env.kindOf x=some .free)
def GA(wi:TI)(g:TG)(Y:TT)(te:TE)(S:L2.St->L2.St->Prop):TE:=λσ H Q=>∃G,S σ G/\wi σ H λJ H1=>∀D,H1 D=none->∃W:Nat->Nat->L2.St->List V->Hp->Prop,(∃m,W 0 m G [] (upd H1 D (.lst []))) /\
 ∀i m B z H2,W i m B z H2->(J.stop i H2/\Q (.ref D) H2)\/(J.go i H2/\z.length<zaj/\∀x N,J.yld i H2 x N->g x B N λq H4=>Y q H4 λok M=>
  if ok=true then te q M λv U=>U D=some (.lst z)/\∃F,F<m/\W (i+1) F q (z++[v]) (upd U D (.lst (z++[v])))else M D=some (.lst z)/\∃F,F<m/\W (i+1) F q z M)
section
variable {X:Cx}
theorem QJ(B:Inv X pins σ H3 s3)(G:Clo X N scope cl)(ff:∀b∈fp,kF X pins H3 b)(fe:∀b∈fp,∃o,s3.heap.get? b=some o) :
  (aY X N scope cl s3.heap.objs.size s3 H3 fp).Ok where
 mod:=B.ok.mod
 kind:=G.kind
 glob:=B.ok.glob
 blt:=B.ok.blt
 above:=zai _
 inj:=λx y c h1 h2=>B.ok.inj x y c (G.sub x c h1) (G.sub y c h2)
 has:=λx h=>G.has x h
 cab:=λx c h _=>nomatch h
 hd:=B.ok.hd
 frames:=B.ok.frames
 stk:=.inl rfl
 exf:=λb F=>by
  obtain⟨o,e⟩:=fe b F;exact⟨zaF (zao e),λx c h=>(ff b F).2.2.2.2.1 x c (G.sub x c h)⟩
 bs:=B.bs
 bsz:=zaL B.ok.bsz B.sz
 noex:=λb o e F=>by
  rcases(ff b F).2.2.2.1 with z|z
  ·exact B.ok.noex b o e z
  ·exact absurd (zaX (zao e) B.ok.bsz) (Nat.not_lt.mpr z)
 exfs:=λb F z=>by
  rcases List.mem_cons.mp (B.stkSub b z)with q|q
  ·exact(ff b F).2.1 q
  ·exact(ff b F).2.2.1 q
 funs:=B.stack
 frf:=B.stkFree
theorem J3(B:Inv X pins σ H3 s3)(J:Clo X N scope cl)(ff:∀b∈fp,kF X pins H3 b)(fe:∀b∈fp,∃o,s3.heap.get? b=some o)
  (st:Start X N scope σ σ') (ho:s4.os=s3.os) (hg:s4.gens=s3.gens) (M:∀b o,s3.heap.get? b=some o->s4.heap.get? b=some o) (hn:s4.heap.Ns s3.heap.objs.size m) :
  Inv (aY X N scope cl s3.heap.objs.size s3 H3 fp) [] σ' H3 s4 where
 ok:=QJ B J ff fe
 os:=ho
 bare:=by rw[hg];exact B.bare
 base:=Un.kept M
 loc:=by
  refine⟨m,hn,λj x v h1 h2 z=>?_⟩;obtain⟨nl,i,W,e2,q⟩:=st.2 j x v h1 h2 z;obtain⟨m0,af,Y⟩:=B.loc;have U:W2 X.env.scope x:=by
   rcases q with q|q
   ·exact .inr (.inl q)
   ·exact .inr (.inr q)
  obtain⟨u,ru,l⟩:=Y i x v W e2 U;refine⟨u,ru,?_⟩;rcases l with⟨lk,_⟩|⟨_,c,hc,F⟩
  ·rcases q with q|q <;> (rw[lk]at q;cases q)
  ·have kk:(zbd scope X.env).names.lookup x=some .cell\/(zbd scope X.env).names.lookup x=some .free:=by
    rcases z with z|z|z
    ·exact absurd z nl
    ·exact .inl z
    ·exact .inr z
   obtain⟨c',G⟩:=J.has x kk;have ec:=J.sub x c' G;rw[hc]at ec;cases ec;obtain⟨o,ab,aa⟩:=F;exact .inr ⟨kk,c,G,o,M c o ab,aa⟩
 cell:=λx c e=>by
  obtain⟨v,o,W,d1⟩:=B.cell x c (J.sub x c e);exact⟨v,o,M c o W,d1⟩
 free:=B.hok.fresh (zai _)
 freeC:=λx c e=>B.freeC x c (J.sub x c e)
 pin:=λp hp=>nomatch hp
 hok:=B.hok.kept M
 len:=st.1
theorem comp_back(W:Inv X pins σ H3 s3)(ff:∀b∈fp,kF X pins H3 b)
  (B:Inv (aY X N scope cl s3.heap.objs.size s3 H3 fp) [] σ5 H5 s5) (hs:za4 s3.heap.objs.size s5.heap h'):Inv X pins σ H5 {s5 with heap:=h'}:=by
 have G:∀b o,s3.heap.get? b=some o->b≠s3.heap.objs.size:=λb o e=>zaF (zao e)
 have u:=B.base;refine W.call' (s':={s5 with heap:=h'}) (ch:=fp) B.os ⟨λb o e n F hx=>?_,λb o e n F hx=>?_,u.free,λb o e hx=>?_,u.tups,u.frzs,u.tbls⟩ ?_ B.bare λb F=>?_
 ·exact(hs.2 b (G b o e)).trans (u.keep b o e n F hx)
 ·obtain⟨U,q⟩:=u.slot b o e n F hx
  exact⟨U,(hs.2 b (G b o e)).trans q⟩
 ·obtain⟨o',q⟩:=u.there b o e hx
  exact⟨o',(hs.2 b (G b o e)).trans q⟩
 ·intro b ob e
  have J:H5 s3.heap.objs.size=none:=B.free;refine(B.hok b ob e).stay (λc w' Y q=>(hs.2 c ?_).trans q) (λ_ q=>q) λ_ _ q=>q
  rintro rfl;rcases Y with z|z
  ·subst z;rw[J]at e;cases e
  ·rw[J]at z;cases z
 ·obtain⟨_,f1,_,f3,M,f5⟩:=ff b F
  exact⟨f3,f1,M,f5⟩
theorem IL(I:Nat->zad->Prop)
  (turn:∀n s, I n s -> wpAny (model prog w) A (za2 it) (λr B => match r with
   | none=>R (.ok .next) B
   | some v=>wpAny (model prog w) A (zc9 target it v) (λ_ q=>wpAny (model prog w) A (zbe target env v) (λ_ J=>
     wpAny (model prog w) A (forIn ifs true λc r=>if r=true then do let ok <- isTrue c env (eval c env);pure (zcD ok)else pure (zcD r)) (λok z=>
      if ok=true then wpAny (model prog w) A (eval elt env) (λx N=>
       wpAny (model prog w) A (call (.builtin "list.append") [acc,x]) (λ_ G=>∃m,m<n/\I m G) (λ_ _=>False) N) (λ_ _=>False) z
      else ∃m,m<n/\I m z) (λ_ _=>False) J) (λ_ _=>False) q) (λ_ _=>False) B) (λ_ _=>False) s)
  (n:Nat) (h:I n s) :
  zbF (model prog w) A (.compLoop (.ListComp elt [⟨target,iter,ifs,0⟩] scope pos) 0 it acc env) R s:=by
 refine codeAny_loop rfl I (λn s hI=>?_) n h;show wpAny _ A ((compTurn (.ListComp elt [⟨target,iter,ifs,0⟩] scope pos) 0 it acc env).onRaise (λx=>do noteFrame x env;theTreesLotGoes x)) _ _ s;refine wpAny_noted ?_;rw[compTurn_list];have ff:∀(e:Value) (s':zad),False->notedBy (model prog w) A env (λe s'=>R (.error e) s') e s':=λ_ _ h=>h.elim
 refine zaa (zc6 (zaa (za7 (turn n s hI) (λr B F=>?_) ff)));cases r with
 | none=>exact zaf F
 | some v=>
  refine zaa (za7 F (λ_ q U=>?_) ff);refine zaa (za7 U (λ_ J aa=>zaa (za7 aa (λok z M=>?_) ff)) ff);cases ok with
  | false=>exact zaf ⟨rfl,M⟩
  | true=>
   exact zaa (zaa (za7 M (λx N Y=>zaa (za7 Y (λ_ G W=>zaf (zaf ⟨rfl,W⟩)) ff)) ff))
theorem uY{an tg am:Expr}{as:List Expr}{scope:Scope}{pos:Pos}{N:List Str}{cl:List (Str×Addr)}{wi:TI}{g:TG}{tt:TT}{te:TE}{RR:Value->Addr->Result->zad->Prop}{pins:List (Addr×Obj)}{σ ai:L2.St}{Q:VK}{J:It}{H2:Hp}{B:zad}{it:Addr}{fp:List Addr}{tn:Nat->Heap->Prop}{E:Value->zad->Prop}
  (hc:X.calm=true) (cc:Clo X N scope cl) (hg:∀C s H fp,PG (aY X N scope cl C s H fp) tg g) (ht:∀C s H fp,DQ (aY X N scope cl C s H fp) as tt) (he:∀C s H fp,PE (aY X N scope cl C s H fp) an te)
  (I2:Inv X pins σ H2 B) (T:Turn X.prog X.w X.K tg J fp it tn) (aq:tn 0 B.heap) (f2:∀b∈fp,kF X pins H2 b) (sS:Start X N scope σ ai)
  (q2:∀D, H2 D = none -> ∃W:Nat -> Nat -> L2.St -> List V -> Hp -> Prop, (∃m, W 0 m ai [] (upd H2 D (.lst []))) /\
   ∀i m M G H2,W i m M G H2->(J.stop i H2/\Q (.ref D) H2)\/(J.go i H2/\G.length<zaj/\∀x F,J.yld i H2 x F->g x M F λaj H4=>tt aj H4 λok H5=>
    if ok=true then te aj H5 λv H6=>H6 D=some (.lst G)/\∃m',m'<m/\W (i+1) m' aj (G++[v]) (upd H6 D (.lst (G++[v])))else H5 D=some (.lst G)/\∃m',m'<m/\W (i+1) m' aj G H5))
  (bl:∀(s3 s5:zad) (F H5:Hp) (Y:L2.St) (D:Addr),Inv X pins σ F s3->(∀b∈fp,kF X pins F b)->Inv (aY X N scope cl s3.heap.objs.size s3 F fp) [] Y H5 s5->Q (.ref D) H5->RR (.ref D) s3.heap.objs.size (.ok .next) s5) :
  wpAny (model X.prog X.w) X.A (newList []) (λacc a1=>wpAny (model X.prog X.w) X.A (newFunctionEnv scope X.env.globals cl [] X.env.qual none .none (some X.env)) (λal ay=>
   zbF (model X.prog X.w) X.A (.compStart (.ListComp an [⟨tg,am,as,0⟩] scope pos) 0 (.ref it) acc {al with scope:=zbd scope X.env}) (RR acc al.locals) ay) E a1) E B:=by
 refine zbJ (wpAny_newFunctionEnv cc.nocell (by intro y hy;simp at hy) (λh1 af ah=>?_) cc.kind);dsimp only at af ah ⊢;have I3:Inv X pins σ (upd H2 B.heap.objs.size (.lst [])) {B with heap:=B.heap.push {cls:=.type "list",dict:=none,data:=.seq ([]:List Value).toArray} }:=I2.lnew (t':=B.toks) .nil (zaI _);have hD:H2 B.heap.objs.size=none:=I2.fresh;have bg:∀b∈fp,b≠B.heap.objs.size:=λb q=>by
  obtain⟨o,e,_⟩:=T.obj 0 _ aq b q;exact zaF (zao e)
 have fe:∀b∈fp,∃o,(B.heap.push {cls:=.type "list",dict:=none,data:=.seq ([]:List Value).toArray}).get? b=some o:=λb q=>by
  obtain⟨o,e,_⟩:=T.obj 0 _ aq b q;exact⟨o,zan _ e⟩
 have f3:∀b∈fp,kF X pins (upd H2 B.heap.objs.size (.lst [])) b:=λb q=>⟨by rw[aE (bg b q)];exact(f2 b q).1,(f2 b q).2⟩
 obtain⟨W,⟨m0,w0⟩,turn⟩:=q2 B.heap.objs.size hD;have bj:(upd H2 B.heap.objs.size (.lst [])) B.heap.objs.size=some (.lst []):=aG;generalize hs3:({B with heap:=B.heap.push {cls:=.type "list",dict:=none,data:=.seq ([]:List Value).toArray} }:zad)=s3 at I3;have e3:B.heap.push {cls:=.type "list",dict:=none,data:=.seq ([]:List Value).toArray}=s3.heap:=by rw[<- hs3]
 rw[e3]at af ah fe ⊢;generalize B.heap.objs.size=D at *;generalize upd H2 D (.lst [])=F at *;have au:∀b o,s3.heap.get? b=some o->h1.get? b=some o:=λb o e=>(ah.2 b (zaF (zao e))).trans (zan _ e)
 have aw:tn 0 s3.heap:=by
  refine T.keep 0 _ _ aq λb q o e=>?_
  rw[<- e3];exact zan _ e
 have ak:∀s4:zad,s4={B with heap:=h1,toks:=B.toks+([]:List (Str×Value)).length}->
   zbF (model X.prog X.w) X.A (.compLoop (.ListComp an [⟨tg,am,as,0⟩] scope pos) 0 (.ref it) (.ref D) (compEnvC scope cl s3.heap.objs.size X.env)) (RR (.ref D) s3.heap.objs.size) s4:=by
  rintro s4 rfl;have I4:Inv (aY X N scope cl s3.heap.objs.size s3 F fp) [] ai F {B with heap:=h1,toks:=B.toks+([]:List (Str×Value)).length}:=
   J3 (m:=λx=>([]:List (Str×Value)).reverse.lookup x) I3 cc f3 fe sS (by rw[<- hs3]) (by rw[<- hs3]) au af
  have ap:∀ {H':Hp},(∀b∈fp,H' b=none)->∀b∈fp,kF (aY X N scope cl s3.heap.objs.size s3 F fp) [] H' b:=λhn b q=>by
   have ok:=I4.ok;exact⟨hn b q,(ok.exf b q).1,ok.exfs b q,.inl q,(ok.exf b q).2,λp hp=>nomatch hp⟩
  refine IL (λn s'=>∃i M G H',Inv (aY X N scope cl s3.heap.objs.size s3 F fp) [] M H' s'/\tn i s'.heap/\(∀b∈fp,H' b=none)/\H' D=some (.lst G)/\W i n M G H') ?_ m0 ⟨0,ai,[],F,I4,T.keep 0 _ _ aw λb q o e=>au b o e,λb q=>(f3 b q).1,bj,w0⟩;rintro n s5 ⟨i,Y,G,H5,I5,a0,a6,ce,w5⟩;rcases turn i n Y G H5 w5 with⟨az,qn⟩|⟨go,a3,step⟩
  ·refine cS (T.done (aY X N scope cl s3.heap.objs.size s3 F fp) rfl rfl rfl hc i [] s5 Y H5 _ I5 (ap a6) a0 az) λr s6 ⟨hr,I6⟩=>?_
   subst hr;exact bl s3 s6 F H5 Y D I3 f3 I6 qn
  ·refine cS (T.item (aY X N scope cl s3.heap.objs.size s3 F fp) rfl rfl rfl hc i [] s5 Y H5 _ I5 (ap a6) a0 go) λr s6 ⟨u,hr,h6⟩=>?_
   subst hr;refine cS h6 λ_ s7 ⟨x,H7,I7,r7,y7,ao,bf⟩=>?_
   have bb:=I7.pinned (ap bf) (T.obj _ _ ao);refine cS (hg _ _ _ _ _ s7 Y H7 x u _ bb r7 (step x H7 y7)) λ_ s8 ⟨aa,H8,I8,q8⟩=>?_
   refine cS (ht _ _ _ _ _ s8 aa H8 _ I8 q8) λok s9 ⟨H9,I9,q9⟩=>?_
   have fin:∀ {ac:zad} {U:Hp} {vs:List V},Inv (aY X N scope cl s3.heap.objs.size s3 F fp) ([]++sZ fp s7.heap) aa U ac->U D=some (.lst vs)->(∃m',m'<n/\W (i+1) m' aa vs U)->
     ∃m,m<n/\∃i M G H',Inv (aY X N scope cl s3.heap.objs.size s3 F fp) [] M H' ac/\tn i ac.heap/\(∀b∈fp,H' b=none)/\H' D=some (.lst G)/\W i m M G H':=λ{ac U vs} ae hd ⟨m',hm,bh⟩=>by
    refine⟨m',hm,i+1,aa,vs,U,ae.unpinned,T.keep _ _ _ ao λb q o e=>(ae.pin (b,o) (zaV _ (zaV _ (iK q e)))).1,λb q=>?_,hd,bh⟩;obtain⟨o,e,d⟩:=T.obj _ _ ao b q;exact(ae.pin (b,o) (zaV _ (zaV _ (iK q e)))).2.1
   cases ok with
   | false=>
    rw[if_neg zaB]at q9 ⊢;exact fin I9 q9.1 q9.2
   | true=>
    rw[if_pos rfl]at q9 ⊢;refine cS (he _ _ _ _ _ s9 aa H9 _ I9 q9) λy ac ⟨v,U,ae,bm,ax,bo⟩=>?_
    refine cS (vM (X:=aY X N scope cl s3.heap.objs.size s3 F fp) _ ac aa U (.ref D) [v] (.ref D) [y] (λ_ ar=>ar D=some (.lst (G++[v]))/\∃m',m'<n/\W (i+1) m' aa (G++[v]) ar) ae rfl (.cons bm .nil) ⟨D,G,v,rfl,rfl,ax,a3,aG,bo⟩) λ_ c1 ⟨z,ar,be,_,a2,bi⟩=>?_
    exact fin be a2 bi
 exact codeAny_compStart_list (ak _ rfl) (T.self X.A 0 _ _ _ (T.keep 0 _ _ aw λb q o e=>au b o e) (ak _ rfl))
theorem FV{F tg z:Expr}{B:List Expr}{scope:Scope}{pos:Pos}{N:List Str}{M:List (Str×Addr)}{wi:TI}{g:TG}{tt:TT}{te:TE}
  (hc:X.calm=true) (G:Clo X N scope M) (hi:PI X tg z wi) (hg:∀C s H fp,PG (aY X N scope M C s H fp) tg g) (ht:∀C s H fp,DQ (aY X N scope M C s H fp) B tt) (he:∀C s H fp,PE (aY X N scope M C s H fp) F te)
  (hs:∀x,zba z X.env x=pure x:=by intro _;rfl) :
  PE X (.ListComp F [⟨tg,z,B,0⟩] scope pos) (GA wi g tt te (Start X N scope)):=by
 intro pins s σ H Q I h;obtain⟨al,sS,hw⟩:=h;rw[eval_ListComp];refine wpAny_comprehension_free (use:=none) rfl hs G.clos G.kind G.names (cS (hi pins s σ H _ I hw) λv s1 h1=>cS h1 λah s2 h2=>?_);obtain⟨it,fp,tn,J,H2,e,I2,T,U,f2,q2⟩:=h2;subst e;refine uY (wi:=wi) (Q:=Q) (RR:=λacc C=>compPost (model X.prog X.w) X.A X.xe none (EP X pins σ Q) acc C) hc G hg ht he I2 T U f2 sS q2 ?_;intro s3 s5 H3 H5 ai D I3 f3 Y q;obtain⟨m,hn,_⟩:=id Y.loc;exact⟨m,hn,λh' W=>⟨.ref D,H5,comp_back I3 f3 Y W,rfl,q⟩⟩
end
end My
namespace My
open PySem PySem.W PyProof.Rows
structure Ord(n:Nat)(lt:Nat->Nat->Bool):Prop where
 irr:∀i,i<n->lt i i=false
 tr:∀i j k,i<n->j<n->k<n->lt i j=true->lt j k=true->lt i k=true
 tot:∀i j,i<n->j<n->i≠j->lt i j=true\/lt j i=true
section
variable {n:Nat}{lt:Nat->Nat->Bool}(O:Ord n lt)
include O
end
end My
namespace My
open PySem PySem.Spec PyProof.Rows PySem.W
section
variable {prog:zah}{w:World}{A:zam}{E:Value->zad->Prop}{s:zad}{it d:Addr}{i ep:Nat}{od:Obj}{es:Array zcp}
def RawD(h:Heap)(d:Addr)(es:Array zcp)(ep:Nat):Prop:=∃o,h.get? d=some o/\o.ExactDict/\o.data=.dict es ep
theorem RawD.typ(x:RawD s.heap d es ep):s.TypeIs (.ref d) "dict" := let ⟨o,a,b,_⟩:=x;⟨o,a,b.1⟩
theorem JH(hd:(d == za6)=false)(z:RawD s.heap d es ep)
  (B:Q (.ref s.heap.objs.size) {s with heap:=s.heap.push {cls:=.type "dict_keyiterator",data:=.fields #[.ref d,.int 0 0,.int es.size 0,.int ep 0]} }):wpAny (model prog w) A (pyIter (.ref d)) Q E s:=by
 have q:=z.typ;obtain⟨o,g1,g2,g3⟩:=z;refine wpAny_pyIter_slot q PySem.F.slot_dict_iter (zbl PySem.F.slot_dict_iter q PySem.F.entry_dict_iter ?_ (PySem.F.args_dict_iter_1 _));unfold zbN.«dict.__iter__»;refine zaa ?_;unfold Builtin.Dict.dictSlotNone;refine zaa (wpAny_notOrdered_dict q ?_);show wpAny _ _ (pure (zaq d)) _ _ s;refine zaf ?_;show wpAny _ _ (Builtin.Dict.showsAll d >>= _) _ _ s;unfold Builtin.Dict.showsAll;rw[if_neg (by rw[hd];exact zaB)];refine zaa (zaf (zaa (zeg g1 g3 (zaa (zeh g1 g3 ?_)))));refine zaa (zbJ (zaf ⟨_,rfl, "dict_keyiterator",_,⟨_,zaE _ rfl,rfl⟩,PySem.F.slot_dict_keyiterator_next.lookup,?_⟩));simpa[za9]using B
theorem J6(z:s.heap.IsKeyIter it d i es.size ep)(F:RawD s.heap d es ep)(hx:i<es.size)
  (J:∀h',h'.IsKeyIter it d (i+1) es.size ep->za4 it s.heap h'->Q (some es[i].key) {s with heap:=h'}):wpAny (model prog w) A (za2 (.ref it)) Q E s:=by
 have q:=z.typeIs;obtain⟨o,B,G,hd⟩:=id z;obtain⟨od,g1,g2,g3⟩:=F;unfold za2;refine zaa (zcE (zbI (name:=zbj "__next__") q zdq (zbl zdq q zet ?_ (zeu _))));refine zaa (zaf (zaa (zaa ?_)))
 first|refine zaa (zdr q (zaf ?_))|refine zaa (zds q (zaf ?_))
 refine zaa (wpAny_fieldsOf B hd ?_);simp only[show zew "dict_keyiterator" = false by decide,zbt,if_false];show wpAny _ _ (if(zaq d == za5)=true then _ else _) _ _ s;rw[if_neg (show ¬ ((zaq d == za5)=true)from zaB)];refine zaa (zaf (zaa (zeg g1 g3 ?_)));rw[if_neg (by simp)];refine zaa (zaf (zaa (zeh g1 g3 ?_)));rw[if_neg (by simp)];refine zaf ?_;simp only[show ¬ ((i:Int)<0)from by lia,if_false,zbB,Array.getElem?_eq_getElem hx];refine zaa ?_;first|refine zaa (zdr q (zaf ?_))|refine zaa (zds q (zaf ?_))
 refine zaa (wpAny_isOneOf_keyiter q ?_);show wpAny _ _ (setField (.ref it) 1 (za9 ((i:Int)+1)) >>= _) _ _ s;refine zaa (zdt B hd (by simp) ?_);have nx:(s.heap.update it (Obj.mapFields (·.setIfInBounds 1 (za9 ((i:Int)+1))))).IsKeyIter it d (i+1) es.size ep:=⟨_,zea _ B (Obj.isFreed_of_fields (zdu hd _)),(Obj.cls_mapFields ..).trans G,by rw[zdu hd];simp[za9]⟩;refine zaa (zbE (zaa (wpAny_isOneOf_keyiter (s:={s with heap:=s.heap.update it (Obj.mapFields (·.setIfInBounds 1 (za9 ((i:Int)+1))))}) nx.typeIs ?_)));show wpAny _ _ (pure es[i].key) _ _ _;exact zaf (zaf ⟨_,rfl,zaf (J _ nx (zdv ..))⟩)
theorem P5(J:A.handled=none)(z:s.heap.IsKeyIter it d i es.size ep)(F:RawD s.heap d es ep)(hx:es.size<=i)
  (G:∀h',Heap.ExtBut it s.heap h'->Q none {s with heap:=h'}):wpAny (model prog w) A (za2 (.ref it)) Q E s:=by
 have q:=z.typeIs;obtain⟨o,B,M,hd⟩:=id z;obtain⟨od,g1,g2,g3⟩:=F;unfold za2;refine zaa (zcE (zbI (name:=zbj "__next__") q zdq (zbl zdq q zet ?_ (zeu _))));refine zaa (zaf (zaa (zaa ?_)))
 first|refine zaa (zdr q (zaf ?_))|refine zaa (zds q (zaf ?_))
 refine zaa (wpAny_fieldsOf B hd ?_);simp only[show zew "dict_keyiterator" = false by decide,zbt,if_false];show wpAny _ _ (if(zaq d == za5)=true then _ else _) _ _ s;rw[if_neg (show ¬ ((zaq d == za5)=true)from zaB)];refine zaa (zaf (zaa (zeg g1 g3 ?_)));rw[if_neg (by simp)];refine zaa (zaf (zaa (zeh g1 g3 ?_)));rw[if_neg (by simp)];refine zaf ?_;simp only[show ¬ ((i:Int)<0)from by lia,if_false,zbB,Array.getElem?_eq_none hx];refine zaa ?_;first|refine zaa (zdr q (zaf ?_))|refine zaa (zds q (zaf ?_))
 show wpAny _ _ (setField (.ref it) 0 .none >>= _) _ _ s;refine zaa (zdt B hd (by simp) ?_);show wpAny _ _ (newExc (.type "StopIteration") [] >>= _) _ _ _;refine zaa ?_;simp only[newExc,newTuple];refine zaa (zbJ ?_ (by size_fits));refine zaa (m:=zdw _ _) (wpAny_of_eq (a:=za5) (by first|rfl|(simp only[zdw];rfl)) ?_)
 refine zbJ ?_ (by size_fits);simp only[raiseNew];refine zaa (wpAny_handled ?_);rw[show A.in1.handled=none from J];refine zaa (zaf (wpAny_throw ?_));refine zaa (zcw (T := "StopIteration") (b:=true) ⟨_,zaE _ rfl,rfl⟩ isSubtype_stop ?_);exact zaf (G _ (((zdv ..).extBut.push _).push _))
end
section
variable {prog:zah}{w:World}{A:zam}{s:zad}{R:Result->zad->Prop}{es:Array zcp}{ep:Nat}
end
section
variable {prog:zah}{w:World}{A:zam}{E:Value->zad->Prop}{s:zad}{r d:Addr}{es:Array zcp}{ep:Nat}
end
section
variable {prog:zah}{w:World}{A:zam}{E:Value->zad->Prop}{s:zad}{a L:Addr}{vs:List Value}{m:Str->Option Value}
end
end My
namespace My
open PySem PySem.Spec PyProof.Rows PySem.W PySem.SeqAt
section
variable {prog:zah}{w:World}{A:zam}{E:Value->zad->Prop}{s:zad}
end
end My
namespace My
open PySem PySem.Spec PyProof.Rows L2 PySem.SeqAt
end My
namespace My
open PySem PySem.Spec PyProof.Rows L2 PySem.SeqAt PySem.W
section
variable {X:Cx}
end
theorem IF{prog:zah}{w:World}{A:zam}{E:Value->zad->Prop}{s:zad}{t F:Addr}{items:Array Value}{J M:Value}{lo hi:Option Int}{Q:Value->zad->Prop}(q:IsTup s.heap t items)(hs:s.heap.IsSliceOf F J M .none)(W:zbH J lo)(N:zbH M hi)
  (hw:HT.sIx items.size 0 lo=0/\HT.sIx items.size items.size hi=items.size) (h:Q (.ref t) s):wpAny (model prog w) A (zbz (.ref t) (.ref F)) Q E s:=by
 obtain⟨Y,B,G,aa⟩:=id hs;have U:s.TypeIs (.ref F) "slice" := ⟨Y,B,G⟩;unfold zbz;try with_reducible refine zbE ?_
 first|refine zaa (zaf ?_)|skip
 refine zaa (wpAny_sequenceKey q.typeIs (by decide) ?_);refine zaa (zbI (name:=zbj "__getitem__") q.typeIs zdk (zbl zdk q.typeIs entry_tuple_getitem ?_ (args_tuple_getitem _ _)));show wpAny _ _ (zdS (.ref t) >>= _) _ _ s;refine zaa (tupleItemsOf_ q (zaa (zcz U ?_)));rw[if_pos (by decide)];refine zaa (HT.g7 hs W N ?_);have z:(((HT.sIx items.size 0 lo:Nat):Int) == 0 && (1:Int) == 1 && (HT.sIx items.size items.size hi-HT.sIx items.size 0 lo) == items.size)=true:=by
  rw[hw.1,hw.2];simp
 show wpAny _ _ (if(((HT.sIx items.size 0 lo:Nat):Int) == 0 && (1:Int) == 1 && (HT.sIx items.size items.size hi-HT.sIx items.size 0 lo) == items.size)=true then _ else _) _ _ s;rw[if_pos z];refine zaa (m:=Builtin.Tuple.tupleIsExact _) ?_;unfold Builtin.Tuple.tupleIsExact;refine zaa (zcz q.typeIs (zaf ?_));rw[if_pos (by decide)];exact zaa (zbM (zaf ⟨_,rfl,zaf h⟩))
section
variable {X:Cx}
def ZW(K:zae):V->Option Int->Option Int->Hp->VK->Prop:=λx lo hi H Q=>∃a xs,x=.ref a/\SqT K H a xs/\(HT.sIx xs.length 0 lo=0/\HT.sIx xs.length xs.length hi=xs.length)/\Q (.ref a) H
theorem RD:SlR X (ZW X.K):=by
 intro pins s σ H x v M W lo hi N Q I J hs G F h;obtain⟨a,xs,rfl,hx,hw,q⟩:=h;cases J;obtain⟨its,r,B,U⟩:=I.tuple hx;have z:its.toArray.size=xs.length:=by rw[zay];exact r.length.symm
 exact⟨"tuple",_,PyProof.Rows.slot_tuple_getitem.lookup,B.typeIs,IF B hs G F (by rw[z];exact hw) ⟨.ref a,H,I,rfl,q⟩⟩
theorem QA:SlR X (λx lo hi H Q=>ZH X.K x lo hi H Q\/ZW X.K x lo hi H Q):=VM.or RD
end
theorem tO(x:ObjOk P w H h d (.dT kvs)):(d == za6)=false/\kvs.length<=zaj/\∃es ep,RawD h d es ep/\es.size=kvs.length /\
  ∀(j:Nat) (p:List Key×V),kvs[j]?=some p->∃(e:zcp) (b:Addr),es[j]?=some e/\e.key=.ref b/\H b=some (.tup (p.1.map kV))/\RelV p.2 e.val/\e.hash=(zb1 (bB P w)).hash p.1:=by
 obtain⟨z,y,xs,r,o,es,ep,h1,h2,W,F,h5⟩:=x;have Y:xs.length=kvs.length:=(zcL r).symm;have B:es.size=kvs.length:=by
  have:=congrArg zbo F;rw[zbR,zal]at this
  lia
 have get:∀ {kvs:List (List Key×V)} {xs:List (List Key×Addr×Value)},Paired (λ(p:List Key×V) (q:List Key×Addr×Value)=>p.1=q.1/\H q.2.1=some (.tup (p.1.map kV))/\RelV p.2 q.2.2) kvs xs->
   ∀(j:Nat) (p:List Key×V),kvs[j]?=some p->∃q,xs[j]?=some q/\p.1=q.1/\H q.2.1=some (.tup (p.1.map kV))/\RelV p.2 q.2.2:=by
  intro kvs xs r;induction r with
  | nil=>intro j p e;simp at e
  | cons h t ih=>
   intro j p e;cases j with
   | zero=>simp at e;subst e;exact⟨_,rfl,h⟩
   | succ j=>exact ih j p (by simpa using e)
 refine⟨y,z,es,ep,⟨o,h1,h2,W⟩,B,λj p e=>?_⟩;obtain⟨q,G,J,U,M⟩:=get r j p e;have N:es[j]?=some (zcf (zb1 (bB P w)) q):=by
  rw[<- zei,F,zaC,G];rfl
 exact⟨_,q.2.1,N,rfl,U,M,by show(zb1 (bB P w)).hash q.1=_;rw[J]⟩
def Z4(d:Addr)(o:Obj)(kvs:List (List Key×V)):It:=
 ⟨λi H=>H d=some (.frz o (.dT kvs))/\i<kvs.length,λi H x H'=>H'=H/\∃k v b,kvs[i]?=some (k,v)/\x=.ref b/\H b=some (.tup (k.map kV)),λi H=>H d=some (.frz o (.dT kvs))/\kvs.length<=i⟩
theorem GV{P:zah}{w:World}{K:zae}{tg:Expr}(d it:Addr)(o:Obj)(kvs:List (List Key×V))(es:Array zcp)(ep:Nat)(hd:o.data=.dict es ep)(ai:es.size=kvs.length):Turn P w K tg (Z4 d o kvs) [it] it (λi h=>h.IsKeyIter it d i es.size ep) where
 mem:=by simp
 obj:=λi h st b B=>by
  have e:b=it:=by simpa using B
  subst e;obtain⟨o,J,e2,e3⟩:=st;exact⟨o,J,λv z=>by rw[e3]at z;cases z⟩
 keep:=λi h h' st k=>st.at λo e=>k it (by simp) o e
 item:=by
  intro X N hw hK hc i pins s σ H E I M st hg;subst N hw hK;obtain⟨h1,h2⟩:=hg;obtain⟨g1,g2⟩:=(show ObjOk X.prog X.w H s.heap d (.frz o (.dT kvs))from I.hok d _ h1);obtain⟨_,_,Y,ab,⟨o',r1,r2,r3⟩,F,q⟩:=tO g2;rw[g1]at r1;cases r1;rw[hd]at r3;injection r3 with r4 r5
  subst r4 r5;obtain⟨f0,f1,f2,U,f4,W⟩:=M it (by simp);have hi:i<es.size:=by lia
  refine J6 st ⟨o,g1,r2,hd⟩ hi λh' G sb=>?_
  have I1:Inv X pins σ H {s with heap:=h'}:=I.turned (t':=s.toks) (λb o B e=>(sb.2 b B).trans e) f0 f1 U f4 W;obtain⟨e,b,J,e2,e3,_⟩:=q i _ (zaT h2);have ee:es[i]=e:=by
   rw[Array.getElem?_eq_getElem hi]at J;exact zaz J
  obtain⟨o2,q1,q2,q3⟩:=id G;refine⟨_,rfl,tZ (s:={s with heap:=h'}) (n := "dict_keyiterator") q1 q2 q3 (by decide) ⟨.ref b,H,I1,?_,⟨rfl,kvs[i].1,kvs[i].2,b,zaT h2,rfl,e3⟩,G,λc B=>(M c B).1⟩⟩;rw[ee,e2];rfl
 done:=by
  intro X N hw hK hc i pins s σ H E I M st hg;subst N hw hK;obtain⟨h1,h2⟩:=hg;obtain⟨g1,g2⟩:=(show ObjOk X.prog X.w H s.heap d (.frz o (.dT kvs))from I.hok d _ h1);obtain⟨_,_,Y,ab,⟨o',r1,r2,r3⟩,F,q⟩:=tO g2;rw[g1]at r1;cases r1;obtain⟨f0,f1,f2,U,f4,W⟩:=M it (by simp);exact P5 (I.ok.hd hc) st ⟨o,g1,r2,hd⟩ (by lia) λh' eb=>⟨rfl,I.turned (t':=s.toks) (λb o B e=>eb b o B e) f0 f1 U f4 W⟩
 self:=λ_ _ _ _ _ st h=>wpAny_pyIter_keyiter st h
theorem BG(I:Inv X pins σ H s)(hd:H d=some (.dT kvs))(G:s.heap.get? d=some o):Inv X pins σ (upd H d (.frz o (.dT kvs))) s:=by
 have B:∀b u,H b=some u->(∀z,u≠.dT z)->b≠d:=λb u e n z=>by
  subst z;rw[hd]at e;exact n kvs (zaz e).symm
 have J:=I.un (h':=s.heap) (t':=s.toks) (H':=upd H d (.frz o (.dT kvs))) ⟨λb u q _ _ _=>q,λb u q _ _ _=>⟨u.slots,q⟩,λb u q n _=>by rw[aE (λz=>by rw[z,hd]at n;cases n)];exact n,λb u q _=>⟨u,q⟩,
  λb xs q=>by rw[aE (B b _ q (λz h=>by cases h))];exact q,λb u xs q=>by rw[aE (B b _ q (λz h=>by cases h))];exact q,λb ps q=>⟨#[],by rw[aE (B b _ q (λz h=>by cases h)),q];simp⟩⟩ (λb u e=>?_)
 ·exact J
 ·have st:∀ {b:Addr} {u:HO},ObjOk X.prog X.w H s.heap b u->ObjOk X.prog X.w (upd H d (.frz o (.dT kvs))) s.heap b u:=λx=>x.stay (λ_ _ _ q=>q) (λc q=>by rw[aE (B c _ q (λz h=>by cases h))];exact q) λc xs q=>by rw[aE (B c _ q (λz h=>by cases h))];exact q
  by_cases F:b=d
  ·subst F
   rw[aG]at e;cases e;exact⟨G,st (I.hok b _ hd)⟩
  ·rw[aE F]at e
   exact st (I.hok b u e)
section
variable {X:Cx}{tg:Expr}
end
section
variable {X:Cx}
end
end My
namespace My
open PySem PySem.Spec PyProof.Rows L2 PySem.SeqAt
abbrev Tm:=List Int×Int
def look(q:List Tm)(k:List Int):Option Int:=(q.find? λt=>decide (t.1=k)).map (·.2)
def put(q:List Tm)(k:List Int)(c:Int):List Tm:=if(q.any λt=>decide (t.1=k))=true then q.map (λt=>if t.1=k then(t.1,c)else t)else q++[(k,c)]
def ZF(q:List Tm)(t:Tm):List Tm:=put q t.1 ((look q t.1).getD 0+t.2)
def VI(q:List Tm):List Tm:=q.foldl ZF []
def YR(M:Int)(q:List Tm):List Tm:=(q.filter λt=>decide (t.2%M≠0)).map λt=>(t.1,t.2%M)
def TS(H H':Hp):Prop:=∀b xs,H b=some (.tup xs)->H' b=some (.tup xs)
theorem TS.trans(a:TS H H1)(b:TS H1 H2):TS H H2:=λc xs h=>b c xs (a c xs h)
theorem TS.put(h:H l=some u)(n:∀xs,u≠.tup xs):TS H (upd H l o):=λb xs q=>by
 rw[aE (λz=>by subst z;rw[h]at q;exact n xs (zaz q))];exact q
noncomputable def hT(ns:List Int):Int:=reduceHash (zcd (ns.map hashInt))
end My
namespace My
open PySem PySem.Spec PyProof.Rows L2
noncomputable def itN(t:Bool):String:=if t=true then "tuple_iterator" else "list_iterator"
noncomputable def sqN(t:Bool):String:=if t=true then "tuple" else "list"
def SIt(t:Bool)(h:Heap)(i l:Addr)(k:Nat):Prop:=∃o,h.get? i=some o/\o.cls=.type (itN t)/\o.data=.fields #[.ref l,.int k 0]
def SSq(t:Bool)(h:Heap)(l:Addr)(xs:Array Value):Prop:=∃o,h.get? l=some o/\o.cls=.type (sqN t)/\∃n,o.data=.seq xs n
theorem SIt.to(x:SIt t h i l k)(e:∀o,h.get? i=some o->h'.get? i=some o):SIt t h' i l k:=let ⟨o,ho,r⟩:=x;⟨o,e o ho,r⟩
theorem SSq.to(x:SSq t h l xs)(e:∀o,h.get? l=some o->h'.get? l=some o):SSq t h' l xs:=let ⟨o,ho,r⟩:=x;⟨o,e o ho,r⟩
section
variable {prog:zah}{w:World}{A:zam}{E:Value->zad->Prop}{s:zad}
theorem next_item(z:SIt t s.heap it l i)(J:SSq t s.heap l xs)(hx:xs[i]?=some x)
  (M:∀h',SIt t h' it l (i+1)->za4 it s.heap h'->Q x {s with heap:=h'}):wpAny (model prog w) A (zb9 (.ref it)) Q E s:=by
 cases t with
 | false=>exact wpAny_nextOf_list_item (it:=it) (l:=l) (items:=xs) z J hx M
 | true=>
  have q:s.heap.IsTupleIter it l i:=z;obtain⟨o,B,N,hd⟩:=z;obtain⟨U,F,_,nl,G⟩:=J;unfold zb9;refine zaa (zbI (name:=zbj "__next__") q.typeIs zdx (zbl zdx q.typeIs zex ?_ (zey _)));show wpAny _ _ (field (.ref it) 0 >>= _) _ _ _;refine zaa (zaR B hd (x:=.ref l) rfl ?_);show wpAny _ _ (if(zaq l == za5)=true then _ else _) _ _ _;rw[if_neg (show ¬ ((zaq l == za5)=true)from zaB)];show wpAny _ _ (field (.ref it) 1 >>= _) _ _ _;refine zaa (zaR B hd (x:=.int i 0) rfl ?_);show wpAny _ _ (seqItems? (.ref l) >>= _) _ _ _;refine zaa (zbu F G ?_);simp only[zbB,hx];refine zaa (zdt B hd (by simp) (zaf ⟨x,rfl,zaf (M _ ⟨_,zea _ B (Obj.isFreed_of_fields (zdu hd _)),(Obj.cls_mapFields ..).trans N,by rw[zdu hd];simp[za9]⟩ (zdv ..))⟩))
theorem next_end(J:A.handled=none)(z:SIt t s.heap it l i)(M:SSq t s.heap l xs)(hx:xs[i]?=none)
  (N:∀h' e,Heap.ExtBut it s.heap h'->(∃o,h'.get? e=some o/\o.cls=.type "StopIteration")->E (.ref e) {s with heap:=h'}):wpAny (model prog w) A (zb9 (.ref it)) Q E s:=by
 cases t with
 | false=>exact wpAny_nextOf_list_end (it:=it) (l:=l) (items:=xs) J z M hx N
 | true=>
  have q:s.heap.IsTupleIter it l i:=z;obtain⟨o,G,U,hd⟩:=z;obtain⟨W,B,_,nl,F⟩:=M;unfold zb9;refine zaa (zbI (name:=zbj "__next__") q.typeIs zdx (zbl zdx q.typeIs zex ?_ (zey _)));show wpAny _ _ (field (.ref it) 0 >>= _) _ _ _;refine zaa (zaR G hd (x:=.ref l) rfl ?_);show wpAny _ _ (if(zaq l == za5)=true then _ else _) _ _ _;rw[if_neg (show ¬ ((zaq l == za5)=true)from zaB)];show wpAny _ _ (field (.ref it) 1 >>= _) _ _ _;refine zaa (zaR G hd (x:=.int i 0) rfl ?_);show wpAny _ _ (seqItems? (.ref l) >>= _) _ _ _;refine zaa (zbu B F ?_);simp only[zbB,hx];refine zaa (zbM (zaa (zdt G hd (by simp) ?_)));show wpAny _ _ (newExc (.type "StopIteration") [] >>= _) _ _ _;refine zaa ?_;simp only[newExc,newTuple];refine zaa (zbJ ?_ (by size_fits));refine zaa (m:=zdw _ _) (wpAny_of_eq (a:=za5) (by first|rfl|(simp only[zdw];rfl)) ?_);refine zbJ ?_ (by size_fits);simp only[raiseNew]
  refine zaa (wpAny_handled ?_);first|rw[show A.in1.handled=none from J]|rw[J]
  refine zaa (zaf (wpAny_throw ?_));exact N _ _ (((zdv ..).extBut.push _).push _) ⟨_,zaE _ rfl,rfl⟩
structure ZA(z TI TO i1 i2 l1 l2:Addr):Prop where
 z1:TI≠z
 z2:TO≠z
 z3:i1≠z
 z4:i2≠z
 z5:TI≠TO
 z6:TI≠i1
 z7:TI≠i2
 z8:TO≠i1
 z9:TO≠i2
 za:i1≠i2
 zb:l1≠z/\l1≠TO/\l1≠i1/\l1≠i2
 zc:l2≠z/\l2≠TO/\l2≠i1/\l2≠i2
theorem K4{t1 t2:Bool}{z TI TO M U l1 l2:Addr}{k1 k2:Nat}{xs ys:Array Value}{x y a b:Value}{Q:Option Value->zad->Prop}(D:ZA z TI TO M U l1 l2)
  (hz:IsZip s.heap z TI TO .none) (au:za3 s.heap TI (.ref M) (.ref U)) (a0:za3 s.heap TO a b) (h1:SIt t1 s.heap M l1 k1) (h2:SIt t2 s.heap U l2 k2) (a5:SSq t1 s.heap l1 xs) (as:SSq t2 s.heap l2 ys) (hx:xs[k1]?=some x) (hy:ys[k2]?=some y)
  (hQ:∀h',IsZip h' z TI TO (za9 s.heap.objs.size)->za3 h' TO x y->SIt t1 h' M l1 (k1+1)->SIt t2 h' U l2 (k2+1)->za3 h' s.heap.objs.size x y->h'.objs.size=s.heap.objs.size+1->(∀c o,c≠z->c≠TO->c≠M->c≠U->s.heap.get? c=some o->h'.get? c=some o)->Q (some (.ref s.heap.objs.size)) {s with heap:=h'}) :
  wpAny (model prog w) A (za2 (.ref z)) Q E s:=by
 have hT:s.TypeIs (.ref z) "zip" := ⟨_,hz,rfl⟩;unfold za2;refine zaa (zcE (zbI (name:=zbj "__next__") hT zdy (zbl zdy hT F.entry_zip_next ?_ (F.args_zip_next_1 _))));show wpAny _ _ (field (.ref z) 2 >>= _) _ _ s;refine zaa (zaR hz rfl (x:=.bool false) rfl ?_);show wpAny _ _ (field (.ref z) 3 >>= _) _ _ s;refine zaa (zaR hz rfl (x:=.ref TI) rfl (zaa (zbu au rfl ?_)));show wpAny _ _ (zcF (.ref z) >>= _) _ _ s;refine zaa ?_;unfold zcF;refine zaa (zaR hz rfl (x:=.none) rfl (zaf ?_));simp only[if_true];refine zaa (zbM (zaa (zaR hz rfl (x:=.ref TO) rfl (zaa (zbC hz (by simp) λha ab sa=>?_)))));replace ab:IsZip ha z TI TO .ellipsis:=ab;refine zaa ?_;simp only[List.zipIdx_cons,List.zipIdx_nil,zej,List.forIn_nil];refine zaa (zaa (zdz ?_));show wpAny _ _ (zb9 (.ref M) >>= _) _ _ {s with heap:=ha};have ea:=sa.extBut;refine zaa (next_item (t:=t1) (xs:=xs) (h1.to λo e=>ea _ _ D.z3 e) (a5.to λo e=>ea _ _ D.zb.1 e) hx λhb az sb=>zaf ?_);have eb:=sb.extBut;have W:za3 hb TO a b:=eb _ _ D.z8 (ea _ _ D.z2 a0);refine zaa (zbu W rfl (zaa (zek W λhc G sc=>?_)));replace G:za3 hc TO x b:=G;have ec:=sc.extBut;refine zaa (zdA (zaf ?_));refine zaa (zaa (zdz ?_));show wpAny _ _ (zb9 (.ref U) >>= _) _ _ {s with heap:=hc};refine zaa (next_item (t:=t2) (xs:=ys) (h2.to λo e=>ec _ _ D.z9.symm (eb _ _ D.za.symm (ea _ _ D.z4 e))) (as.to λo e=>ec _ _ D.zc.2.1 (eb _ _ D.zc.2.2.1 (ea _ _ D.zc.1 e))) hy λhd aw sd=>zaf ?_);have ed:=sd.extBut;have N:za3 hd TO x b:=ed _ _ D.z9 G;refine zaa (zbu N rfl (zaa (zek N λq B se=>?_)));replace B:za3 q TO x y:=B;have ee:=se.extBut;refine zaa (zdA (zaf (zaf ?_)));refine zaa (zbu B rfl (zaa (wpAny_newTuple ?_)));have hsz:q.objs.size=s.heap.objs.size:=by rw[se.1,sd.1,sc.1,sb.1,sa.1]
 have ak:IsZip q z TI TO .ellipsis:=ee _ _ D.z2.symm (ed _ _ D.z4.symm (ec _ _ D.z2.symm (eb _ _ D.z3.symm ab)));have a3:∀c o,c≠z->c≠TO->c≠M->c≠U->s.heap.get? c=some o->q.get? c=some o:=λc o Y c2 c3 c4 e=>ee _ _ c2 (ed _ _ c4 (ec _ _ c2 (eb _ _ c3 (ea _ _ Y e))))
 have ax:SIt t1 q M l1 (k1+1):=az.to λo e=>ee _ _ D.z8.symm (ed _ _ D.za (ec _ _ D.z8.symm e))
 have a4:SIt t2 q U l2 (k2+1):=aw.to λo e=>ee _ _ D.z9.symm e
 have ag:z<q.objs.size:=zao ak;show wpAny _ _ (zdB (.ref z) (.ref q.objs.size) >>= _) _ _ _;refine zaa ?_;unfold zdB;have a2:IsZip (q.push {cls:=.type "tuple",data:=.seq #[x,y]}) z TI TO .ellipsis:=zan _ ak;refine zaa (zbC a2 (by simp) λhg aa sg=>?_);replace aa:IsZip hg z TI TO (za9 q.objs.size):=aa;refine zbC aa (by simp) λhi J si=>?_;replace J:IsZip hi z TI TO (za9 q.objs.size):=J
 have up:∀c o,c≠z->q.get? c=some o->hi.get? c=some o:=λc o Y e=>si.extBut _ _ Y (sg.extBut _ _ Y (zan _ e))
 have ae:za3 hi q.objs.size x y:=si.extBut _ _ (zbw ag) (sg.extBut _ _ (zbw ag) (zaE _ rfl));have ah:hi.objs.size=q.objs.size+1:=by rw[si.1,sg.1,zbU]
 rw[hsz]at J ae ah;refine zaf ⟨_,rfl,zaf ?_⟩;show Q (some (.ref q.objs.size)) _;rw[hsz];exact hQ hi J (up _ _ D.z2 B) (ax.to λo e=>up _ o D.z3 e) (a4.to λo e=>up _ o D.z4 e) ae ah λc o Y c2 c3 c4 e=>up c o Y (a3 c o Y c2 c3 c4 e)
theorem KD{t1 t2:Bool}{z TI TO W Y l1 l2:Addr}{k1 k2:Nat}{xs ys:Array Value}{a b:Value}{Q:Option Value->zad->Prop}(hh:A.handled=none)(D:ZA z TI TO W Y l1 l2)
  (hz:IsZip s.heap z TI TO .none) (an:za3 s.heap TI (.ref W) (.ref Y)) (ar:za3 s.heap TO a b) (h1:SIt t1 s.heap W l1 k1) (h2:SIt t2 s.heap Y l2 k2) (ai:SSq t1 s.heap l1 xs) (am:SSq t2 s.heap l2 ys) (ad:xs[k1]?=none\/ys[k2]?=none)
  (hQ:∀h',(∀c o,c≠z->c≠TO->c≠W->c≠Y->s.heap.get? c=some o->h'.get? c=some o)->Q none {s with heap:=h'}):wpAny (model prog w) A (za2 (.ref z)) Q E s:=by
 have hT:s.TypeIs (.ref z) "zip" := ⟨_,hz,rfl⟩;have fin:∀(h':Heap) (e:Addr),(∀c o,c≠z->c≠TO->c≠W->c≠Y->s.heap.get? c=some o->h'.get? c=some o)->(∃o,h'.get? e=some o/\o.cls=.type "StopIteration")->wpAny (model prog w) A (do if <- isInstance (.ref e) (.type "StopIteration")then pure none else throw (.ref e)) Q E {s with heap:=h'}:=λh' e hk he=>by
  obtain⟨o,ho,hc⟩:=he;refine zaa (zcw (T := "StopIteration") (b:=true) ⟨o,ho,hc⟩ isSubtype_stop ?_);exact zaf (hQ _ hk)
 unfold za2;refine zaa (zcE (zbI (name:=zbj "__next__") hT zdy (zbl zdy hT F.entry_zip_next ?_ (F.args_zip_next_1 _))));show wpAny _ _ (field (.ref z) 2 >>= _) _ _ s;refine zaa (zaR hz rfl (x:=.bool false) rfl ?_);show wpAny _ _ (field (.ref z) 3 >>= _) _ _ s;refine zaa (zaR hz rfl (x:=.ref TI) rfl (zaa (zbu an rfl ?_)));show wpAny _ _ (zcF (.ref z) >>= _) _ _ s;refine zaa ?_;unfold zcF;refine zaa (zaR hz rfl (x:=.none) rfl (zaf ?_));simp only[if_true];refine zaa (zbM (zaa (zaR hz rfl (x:=.ref TO) rfl (zaa (zbC hz (by simp) λha M sa=>?_)))));replace M:IsZip ha z TI TO .ellipsis:=M;refine zaa ?_;simp only[List.zipIdx_cons,List.zipIdx_nil,zej,List.forIn_nil];refine zaa (zaa (zdz ?_));show wpAny _ _ (zb9 (.ref W) >>= _) _ _ {s with heap:=ha};have J:=sa.extBut;cases hx:xs[k1]? with
 | none=>
  refine zaa (next_end (t:=t1) (xs:=xs) hh (h1.to λo e=>J _ _ D.z3 e) (ai.to λo e=>J _ _ D.zb.1 e) hx λhb e sb he=>?_);obtain⟨oe,B,G⟩:=he;have ag:IsZip hb z TI TO .ellipsis:=sb _ _ D.z3.symm M;have U:e≠z:=λq=>by subst q;rw[ag]at B;cases B;simp at G
  exact zbC ag (by simp) λhc _ sc=>fin hc e (λc o c1 _ c3 _ q=>sc.extBut _ _ c1 (sb _ _ c3 (J _ _ c1 q))) ⟨oe,sc.extBut _ _ U B,G⟩
 | some x=>
  have hy:ys[k2]?=none:=by rcases ad with h|h;rw[hx]at h;cases h;exact h
  refine zaa (next_item (t:=t1) (xs:=xs) (h1.to λo e=>J _ _ D.z3 e) (ai.to λo e=>J _ _ D.zb.1 e) hx λhb a6 sb=>zaf ?_);have eb:=sb.extBut;have N:za3 hb TO a b:=eb _ _ D.z8 (J _ _ D.z2 ar);refine zaa (zbu N rfl (zaa (zek N λhc ax sc=>?_)));have ec:=sc.extBut;refine zaa (zdA (zaf ?_));refine zaa (zaa (zdz ?_));show wpAny _ _ (zb9 (.ref Y) >>= _) _ _ {s with heap:=hc};refine zaa (next_end (t:=t2) (xs:=ys) hh (h2.to λo e=>ec _ _ D.z9.symm (eb _ _ D.za.symm (J _ _ D.z4 e))) (am.to λo e=>ec _ _ D.zc.2.1 (eb _ _ D.zc.2.2.1 (J _ _ D.zc.1 e))) hy λhd e sd he=>?_);obtain⟨oe,B,G⟩:=he;have af:IsZip hd z TI TO .ellipsis:=sd _ _ D.z4.symm (ec _ _ D.z2.symm (eb _ _ D.z3.symm M));have U:e≠z:=λq=>by subst q;rw[af]at B;cases B;simp at G
  exact zbC af (by simp) λhf _ sf=>fin hf e (λc o c1 c2 c3 c4 q=>sf.extBut _ _ c1 (sd _ _ c4 (ec _ _ c2 (eb _ _ c3 (J _ _ c1 q))))) ⟨oe,sf.extBut _ _ U B,G⟩
abbrev GI(t:Bool)(l:Addr):Obj:={cls:=.type (itN t),data:=.fields #[.ref l,.int 0 0]}
abbrev W0(t1 t2:Bool)(h:Heap)(l1 l2:Addr):Heap:=(h.push (GI t1 l1)).push (GI t2 l2)
abbrev qk(t1 t2:Bool)(h:Heap)(l1 l2:Addr):Heap:=((W0 t1 t2 h l1 l2).push {cls:=.type "tuple",data:=.seq #[.ref h.objs.size,.ref (h.push (GI t1 l1)).objs.size]}).push {cls:=.type "tuple",data:=.seq #[.none,.none]}
abbrev XA(t1 t2:Bool)(h:Heap)(l1 l2:Addr):Heap:=(qk t1 t2 h l1 l2).push {cls:=.type "zip",data:=.fields #[.none,.bool false,.bool false,.ref (W0 t1 t2 h l1 l2).objs.size,.ref ((W0 t1 t2 h l1 l2).push {cls:=.type "tuple",data:=.seq #[.ref h.objs.size,.ref (h.push (GI t1 l1)).objs.size]}).objs.size]}
theorem PR(W U:Bool)(F G:Addr)(xs ys:Array Value):Meets (zbN.«zip.__new__» ⟨[.type "zip",.ref F,.ref G],[]⟩) (λ_ R s=>SSq W s.heap F xs/\SSq U s.heap G ys/\R (.ok (.ret (.ref (qk W U s.heap F G).objs.size))) {s with heap:=XA W U s.heap F G}):=
 .of_wp λprog w A R s h=>by
  obtain⟨J,g,d,tk,N⟩:=s;obtain⟨M,Y,h⟩:=h;have aa:=sub_zip;have B:SSq U (J.push (GI W F)) G ys:=Y.to λo e=>zan _ e
  cases W <;> cases U
  ·have q:zdC (zbV ⟨J,g,d,tk,N⟩) F xs:=M
   have z:zdC (zbV ⟨J.push {cls:=.type "list_iterator",data:=.fields #[.ref F,.int 0 0]},g,d,tk,N⟩) G ys:=B
   wp_walk using zb5 q,zb5 z
   exact⟨_,rfl,h⟩
  ·have q:zdC (zbV ⟨J,g,d,tk,N⟩) F xs:=M
   have z:zcU (zbV ⟨J.push {cls:=.type "list_iterator",data:=.fields #[.ref F,.int 0 0]},g,d,tk,N⟩) G ys:=B
   wp_walk using zb5 q,zbS z
   exact⟨_,rfl,h⟩
  ·have q:zcU (zbV ⟨J,g,d,tk,N⟩) F xs:=M
   have z:zdC (zbV ⟨J.push {cls:=.type "tuple_iterator",data:=.fields #[.ref F,.int 0 0]},g,d,tk,N⟩) G ys:=B
   wp_walk using zbS q,zb5 z
   exact⟨_,rfl,h⟩
  ·have q:zcU (zbV ⟨J,g,d,tk,N⟩) F xs:=M
   have z:zcU (zbV ⟨J.push {cls:=.type "tuple_iterator",data:=.fields #[.ref F,.int 0 0]},g,d,tk,N⟩) G ys:=B
   wp_walk using zbS q,zbS z
   exact⟨_,rfl,h⟩
theorem LO(M:SSq t1 s.heap l1 xs)(z:SSq t2 s.heap l2 ys)
  (h:∀h', IsZip h' (s.heap.objs.size+4) (s.heap.objs.size+2) (s.heap.objs.size+3) .none -> za3 h' (s.heap.objs.size+2) (.ref s.heap.objs.size) (.ref (s.heap.objs.size+1)) -> za3 h' (s.heap.objs.size+3) .none .none ->
   SIt t1 h' s.heap.objs.size l1 0->SIt t2 h' (s.heap.objs.size+1) l2 0->(∀c o,s.heap.get? c=some o->h'.get? c=some o)->Q (.ref (s.heap.objs.size+4)) {s with heap:=h'}):wpAny (model prog w) A (call (.type "zip") [.ref l1,.ref l2]) Q E s:=by
 refine callType_new F.called_zip (by decide) (F.typeCall_zip_2 _ _) (F.newCall_zip_2 _ _) (λq=>F.args_object_init_3 q _ _) F.entry_zip_new (PR t1 t2 l1 l2 xs ys) ⟨M,z,?_⟩;have N:(s.heap.push (GI t1 l1)).objs.size=s.heap.objs.size+1:=zbU ..;have J:(W0 t1 t2 s.heap l1 l2).objs.size=s.heap.objs.size+2:=by rw[zbU,N]
 have G:((W0 t1 t2 s.heap l1 l2).push {cls:=.type "tuple",data:=.seq #[.ref s.heap.objs.size,.ref (s.heap.push (GI t1 l1)).objs.size]}).objs.size=s.heap.objs.size+3:=by rw[zbU,J]
 have W:(qk t1 t2 s.heap l1 l2).objs.size=s.heap.objs.size+4:=by rw[zbU,G]
 have B:(XA t1 t2 s.heap l1 l2).get? (qk t1 t2 s.heap l1 l2).objs.size=some _:=zaE _ rfl;have U:(XA t1 t2 s.heap l1 l2).get? ((W0 t1 t2 s.heap l1 l2).push {cls:=.type "tuple",data:=.seq #[.ref s.heap.objs.size,.ref (s.heap.push (GI t1 l1)).objs.size]}).objs.size=some _:=zan _ (zaE _ rfl);have g3:(XA t1 t2 s.heap l1 l2).get? (W0 t1 t2 s.heap l1 l2).objs.size=some _:=zan _ (zan _ (zaE _ rfl));have g2:(XA t1 t2 s.heap l1 l2).get? (s.heap.push (GI t1 l1)).objs.size=some (GI t2 l2):=zan _ (zan _ (zan _ (zaE _ rfl)));have g1:(XA t1 t2 s.heap l1 l2).get? s.heap.objs.size=some (GI t1 l1):=zan _ (zan _ (zan _ (zan _ (zaE _ rfl))));show _/\_;rw[J,G,W]at B;rw[N,J]at g3;rw[G]at U;rw[N]at g2;rw[W];exact⟨⟨_,B,rfl⟩,h _ B g3 U ⟨_,g1,rfl,rfl⟩ ⟨_,g2,rfl,rfl⟩ λc o x=>zan _ (zan _ (zan _ (zan _ (zan _ x))))⟩
end
def BC(K:zae)(t:Bool)(H:Hp)(a:Addr)(xs:List V):Prop:=if t=true then SqT K H a xs else SqL K H a xs
def ItZ(K:zae)(q F:Bool)(B z:Addr):It:=
 ⟨λi H => ∃xs ys, BC K q H B xs /\ BC K F H z ys /\ i<xs.length /\ i<ys.length, λi H x H' => ∃p u v, x = .ref p /\ H p = none /\ H' = upd H p (.tup [u, v]) /\ ∀xs ys, BC K q H B xs -> BC K F H z ys -> xs[i]? = some u /\ ys[i]? = some v,
  λi H=>∃xs ys,BC K q H B xs/\BC K F H z ys/\(xs.length<=i\/ys.length<=i)⟩
theorem iY(I:Inv X pins σ H s)(h:BC X.K t H a xs):∃its:List Value,Vals xs its/\SSq t s.heap a its.toArray:=by
 cases t with
 | true=>
  obtain⟨its,r,p,_⟩:=I.tuple (show SqT X.K H a xs from h);exact⟨its,r,p⟩
 | false=>
  obtain⟨its,r,p,_⟩:=I.list (show SqL X.K H a xs from h);exact⟨its,r,PlainL.isList p⟩
theorem wX(I:Inv X pins σ H s)(h:BC X.K t H a xs)(h':BC X.K t H a ys):xs=ys:=by
 cases t with
 | true=>exact I.tuple_inj (show SqT X.K H a xs from h) h'
 | false=>exact I.list_inj (show SqL X.K H a xs from h) h'
theorem iN{pins:List (Addr×Obj)}{t':Nat}{fp:List Addr}(I:Inv X pins σ H s)(F:∀b∈fp,kF X pins H b)(k:∀b o,b∉fp->s.heap.get? b=some o->h'.get? b=some o):Inv X pins σ H {s with heap:=h',toks:=t'}:=by
 have B:∀b u,H b=some u->b∉fp:=λb u e z=>by rw[(F b z).1]at e;cases e
 refine I.call' (s':={s with heap:=h',toks:=t'}) (ch:=fp) rfl ⟨λb o e _ _ hx=>k b o hx e,λb o e _ _ hx=>⟨o.slots,k b o hx e⟩,λ_ _ _ n _=>n,λb o e hx=>⟨o,k b o hx e⟩,λ_ _ q=>q,λ_ _ _ q=>q,λb ps q=>⟨#[],by rw[q];simp⟩⟩ (λb u e=>?_) I.bare λb N=>?_
 ·refine(I.hok b u e).stay (λc v J q=>k c v ?_ q) (λ_ q=>q) λ_ _ q=>q
  rcases J with z|z
  ·rw[z];exact B b u e
  ·exact B c _ z
 ·obtain⟨_,f1,_,M,G,U⟩:=F b N
  exact⟨M,f1,G,U⟩
theorem KJ{P:zah}{w:World}{K:zae}{ae:List Expr}{x1}{tp:Pos}(t1 t2:Bool){z TI TO W Y l1 l2:Addr}(D:ZA z TI TO W Y l1 l2) :
  Turn P w K (.Tuple ae x1 tp) (ItZ K t1 t2 l1 l2) [z,TI,TO,W,Y] z (λi h=>IsZip h z TI TO .none/\za3 h TI (.ref W) (.ref Y)/\(∃a b,za3 h TO a b)/\SIt t1 h W l1 i/\SIt t2 h Y l2 i) where
 mem:=by simp
 obj:=by
  rintro i h ⟨N,G,⟨a,b,J⟩,⟨o1,e1,_,d1⟩,⟨o2,e2,_,d2⟩⟩ c B;simp only[zaW,za0,or_false]at B;rcases B with rfl|rfl|rfl|rfl|rfl
  ·exact⟨_,N,λv q=>by cases q⟩
  ·exact⟨_,G,λv q=>by cases q⟩
  ·exact⟨_,J,λv q=>by cases q⟩
  ·exact⟨o1,e1,λv q=>by rw[d1]at q;cases q⟩
  ·exact⟨o2,e2,λv q=>by rw[d2]at q;cases q⟩
 keep:=λi h h' ⟨N,G,⟨a,b,J⟩,s1,s2⟩ k=>⟨k z (by simp) _ N,k TI (by simp) _ G,⟨a,b,k TO (by simp) _ J⟩,s1.to λo e=>k W (by simp) o e,s2.to λo e=>k Y (by simp) o e⟩
 item:=by
  intro X hP hw hK B i pins s σ H E I hf st hg;subst hP hw hK;obtain⟨N,G,⟨a,b,J⟩,s1,s2⟩:=st;obtain⟨xs,ys,q1,q2,x8,ao⟩:=hg;obtain⟨af,r1,p1⟩:=iY I q1;obtain⟨ac,r2,p2⟩:=iY I q2;have e1:xs[i]?=some xs[i]:=by simp[x8]
  have e2:ys[i]?=some ys[i]:=by simp[ao]
  obtain⟨u,eu,ru⟩:=r1.get e1;obtain⟨v,ev,rv⟩:=r2.get e2;refine K4 D N G J s1 s2 p1 p2 (x:=u) (y:=v) (by simpa using eu) (by simpa using ev) λh' a1 a2 a3 a4 a5 a6 U=>⟨_,rfl,?_⟩
  refine wpAny_letOwnedTupleGo_zip (s:={s with heap:=h'}) a1 λh2 ap sb=>?_
  have zz:∀c,c∈[z,TI,TO,W,Y]->c<s.heap.objs.size:=λc B=>by
   simp only[zaW,za0,or_false]at B;rcases B with rfl|rfl|rfl|rfl|rfl
   ·exact zao N
   ·exact zao G
   ·exact zao J
   ·obtain⟨o,e,_⟩:=s1;exact zao e
   ·obtain⟨o,e,_⟩:=s2;exact zao e
  have M:∀c o,c≠z->h'.get? c=some o->h2.get? c=some o:=λc o B e=>sb.extBut _ _ B e
  have I1:Inv X pins σ H {s with heap:=h2,toks:=s.toks}:=iN I hf λc o B e=>by
   simp only[zaW,za0,or_false,not_or]at B;exact M c o B.1 (U c o B.1 B.2.2.1 B.2.2.2.1 B.2.2.2.2 e)
  have F:H s.heap.objs.size=none:=I.fresh;have ar:za3 h2 s.heap.objs.size u v:=M _ _ (zbw (zz z (by simp))) a5;have I2:Inv X pins σ (upd H s.heap.objs.size (.tup [xs[i],ys[i]])) {s with heap:=h2}:=by
   have as:HOk X.prog X.w (upd H s.heap.objs.size (.tup [xs[i],ys[i]])) h2:=λc ob e=>by
    by_cases B:c=s.heap.objs.size
    ·subst B;rw[aG]at e;cases e
     exact⟨by show 2<=zaj;decide,[u,v],.cons ru (.cons rv .nil),_,ar,rfl,0,rfl,rfl⟩
    ·rw[aE B]at e
     exact(I1.hok c ob e).stay (λ_ _ _ q=>q) (λd q=>by rw[aE (bH q F)];exact q) λd ah q=>by rw[aE (bH q F)];exact q
   refine I.call' (s':={s with heap:=h2}) (ch:=[z,TI,TO,W,Y]) rfl ⟨λc o e _ _ hx=>?_,λc o e _ _ hx=>⟨o.slots,?_⟩,λc o e n hx=>by rw[aE (zaF (zao e))];exact n,λc o e hx=>⟨o,?_⟩,λc ah q=>by rw[aE (bH q F)];exact q,λc o' u' q=>by rw[aE (bH q F)];exact q,λc ps q=>⟨#[],by rw[aE (bH q F),q];simp⟩⟩ as I.bare λb hb=>?_
   ·simp only[zaW,za0,or_false,not_or]at hx
    exact M c o hx.1 (U c o hx.1 hx.2.2.1 hx.2.2.2.1 hx.2.2.2.2 e)
   ·simp only[zaW,za0,or_false,not_or]at hx
    exact M c o hx.1 (U c o hx.1 hx.2.2.1 hx.2.2.2.1 hx.2.2.2.2 e)
   ·simp only[zaW,za0,or_false,not_or]at hx
    exact M c o hx.1 (U c o hx.1 hx.2.2.1 hx.2.2.2.1 hx.2.2.2.2 e)
   ·obtain⟨_,f1,_,f3,f4,f5⟩:=hf b hb
    exact⟨f3,f1,f4,f5⟩
  refine⟨.ref s.heap.objs.size,_,I2,rfl,⟨_,_,_,rfl,F,rfl,λbd ah g1 g2=>by rw[<- wX I q1 g1,<- wX I q2 g2];exact⟨e1,e2⟩⟩,⟨ap,M _ _ D.z1 (U _ _ D.z1 D.z5 D.z6 D.z7 G),⟨_,_,M _ _ D.z2 a2⟩,a3.to λo e=>M _ o D.z3 e,a4.to λo e=>M _ o D.z4 e⟩,λc B=>?_⟩;rw[aE (zaF (zz c B))];exact(hf c B).1
 done:=by
  intro X hP hw hK B i pins s σ H E I hf st hg;subst hP hw hK;obtain⟨N,G,⟨a,b,J⟩,s1,s2⟩:=st;obtain⟨xs,ys,q1,q2,ad⟩:=hg;obtain⟨af,r1,p1⟩:=iY I q1;obtain⟨ac,r2,p2⟩:=iY I q2;have n1:=r1.length;have n2:=r2.length;refine KD (I.ok.hd B) D N G J s1 s2 p1 p2 (ad.imp (λh=>by simp;lia) λh=>by simp;lia) λh' U=>⟨rfl,iN (t':=s.toks) I hf λc o B e=>?_⟩
  simp only[zaW,za0,or_false,not_or]at B;exact U c o B.1 B.2.2.1 B.2.2.2.1 B.2.2.2.2 e
 self:=λ_ _ _ _ _ st h=>wpAny_pyIter_zip st.1 h
theorem XW(n z q:Nat)(h1:z<n)(h2:q<n):ZA (n+4) (n+2) (n+3) n (n+1) z q:=⟨(show(n+2:Nat)≠n+4 by lia),(show(n+3:Nat)≠n+4 by lia),(show(n:Nat)≠n+4 by lia),(show(n+1:Nat)≠n+4 by lia),(show(n+2:Nat)≠n+3 by lia),(show(n+2:Nat)≠n by lia),(show(n+2:Nat)≠n+1 by lia),(show(n+3:Nat)≠n by lia),(show(n+3:Nat)≠n+1 by lia),(show(n:Nat)≠n+1 by lia),⟨(show(z:Nat)≠n+4 by lia),(show(z:Nat)≠n+3 by lia),(show(z:Nat)≠n by lia),(show(z:Nat)≠n+1 by lia)⟩,⟨(show(q:Nat)≠n+4 by lia),(show(q:Nat)≠n+3 by lia),(show(q:Nat)≠n by lia),(show(q:Nat)≠n+1 by lia)⟩⟩
def qap(K:zae)(ta:TA):TI:=λσ H R=>ta σ H λvs H1=>∃B F z q xs ys,vs=[.ref z,.ref q]/\BC K B H1 z xs/\BC K F H1 q ys/\R (ItZ K B F z q) H1
theorem UJ{B:List Expr}{x1}(hg:Gl X "zip")(hm:X.mg "zip" = none)(ha:PA X [a,b] ta)(hs:zag [a,b] X.env=[(false,eval a X.env),(false,eval b X.env)]:=by rfl)(G:zag [b] X.env=[(false,eval b X.env)]:=by rfl) :
  PI X (.Tuple B x1 tp) (.Call (.Name "zip" p) [a,b] [] pos) (qap X.K ta):=by
 intro pins s σ H R I h;refine Call_ (lI I hg hm My.boot_zip (zcP (cS (ha pos pins s σ H _ I h) λus z ⟨vs,H1,F,r1,M⟩=>?_) (by rw[hs,G]) (by rw[G];rfl)));obtain⟨t1,t2,l1,l2,xs,ys,rfl,M,q2,q⟩:=M;obtain⟨u,v,rfl,ru,rv⟩:=vals2 r1;cases ru;cases rv;obtain⟨af,_,p1⟩:=iY F M;obtain⟨ab,_,p2⟩:=iY F q2;have b1:l1<z.heap.objs.size:=by obtain⟨o,e,_⟩:=p1;exact zao e
 have b2:l2<z.heap.objs.size:=by obtain⟨o,e,_⟩:=p2;exact zao e
 refine LO p1 p2 λh' hz N U W Y k=>?_
 refine wpAny_pyIter_zip hz ?_;have D:ZA (z.heap.objs.size+4) (z.heap.objs.size+2) (z.heap.objs.size+3) z.heap.objs.size (z.heap.objs.size+1) l1 l2:=XW _ _ _ b1 b2;refine⟨_,[_,_,_,_,_],_,_,H1,rfl,F.kept (t':=z.toks) k,KJ t1 t2 D,⟨hz,N,⟨_,_,U⟩,W,Y⟩,λc J=>F.fpOk ?_ (F.hok.fresh ?_),q⟩
 ·simp only[zaW,za0,or_false]at J
  rcases J with rfl|rfl|rfl|rfl|rfl <;> lia
 ·simp only[zaW,za0,or_false]at J
  rcases J with rfl|rfl|rfl|rfl|rfl <;> lia
end My
namespace P
open PySem PySem.Spec PyProof.Rows L2
inductive D where
 | non|bl (b:Bool)|int (i:Int)|str (x:Str)|tup (l:List D)|lst (l:List D)
 | dK (l:List (Key×D))|dT (l:List (List Key×D))
 | ob (C:Addr) (fs:List (Str×D))|mem (dom:List (Key×List Key)) (f:Key×List Key->Option (Int×Int))
abbrev Av:=Addr->Prop
section
variable (A:Av)(H:Hp)
mutual
/-- a heap bears a value that stays (the things that may still be written are in A) -/
inductive Rep:D->V->Prop where
 | non:Rep .non .non
 | bl (b:Bool):Rep (.bl b) (.bl b)
 | int (i:Int):Rep (.int i) (.int i)
 | str (x:Str):Rep (.str x) (.str x)
 | tup {l:List D} {a:Addr} {xs:List V} (h:H a=some (.tup xs)) (r:RepL l xs):Rep (.tup l) (.ref a)
 | lst {l:List D} {a:Addr} {xs:List V} (n:¬ A a) (h:Rd H a (.lst xs)) (r:RepL l xs):Rep (.lst l) (.ref a)
 | dK {l:List (Key×D)} {a:Addr} {xs:List (Key×V)} (n:¬ A a) (h:Rd H a (.dK xs)) (e:xs.map (·.1)=l.map (·.1)) (r:RepL (l.map (·.2)) (xs.map (·.2))):Rep (.dK l) (.ref a)
 | dT {l:List (List Key×D)} {a:Addr} {xs:List (List Key×V)} (n:¬ A a) (h:Rd H a (.dT xs)) (e:xs.map (·.1)=l.map (·.1)) (r:RepL (l.map (·.2)) (xs.map (·.2))):Rep (.dT l) (.ref a)
 | ob {C a dx:Addr} {fs:List (Str×D)} {vs:List (Str×V)} (n:¬ A a) (h:H a=some (.ins C dx vs)) (e:vs.map (·.1)=fs.map (·.1)) (r:RepL (fs.map (·.2)) (vs.map (·.2))):Rep (.ob C fs) (.ref a)
 | mem {dom:List (Key×List Key)} {f:Key×List Key->Option (Int×Int)} {a:Addr} (h:H a=some (.memo dom f none)):Rep (.mem dom f) (.ref a)
inductive RepL:List D->List V->Prop where
 | nil:RepL [] []
 | cons {d:D} {v:V} {ds:List D} {vs:List V} (h:Rep d v) (t:RepL ds vs):RepL (d::ds) (v::vs)
end
inductive RepB:D->V->Prop where
 | of {d:D} {v:V} (h:Rep A H d v):RepB d v
 | lst {l:List D} {a:Addr} {xs:List V} (h:Rd H a (.lst xs)) (r:RepL A H l xs):RepB (.lst l) (.ref a)
 | dK {l:List (Key×D)} {a:Addr} {xs:List (Key×V)} (h:Rd H a (.dK xs)) (e:xs.map (·.1)=l.map (·.1)) (r:RepL A H (l.map (·.2)) (xs.map (·.2))):RepB (.dK l) (.ref a)
 | dT {l:List (List Key×D)} {a:Addr} {xs:List (List Key×V)} (h:Rd H a (.dT xs)) (e:xs.map (·.1)=l.map (·.1)) (r:RepL A H (l.map (·.2)) (xs.map (·.2))):RepB (.dT l) (.ref a)
inductive Own:D->Addr->Prop where
 | lst {l:List D} {a:Addr} {xs:List V} (h:H a=some (.lst xs)) (r:RepL A H l xs):Own (.lst l) a
 | dK {l:List (Key×D)} {a:Addr} {xs:List (Key×V)} (h:H a=some (.dK xs)) (e:xs.map (·.1)=l.map (·.1)) (r:RepL A H (l.map (·.2)) (xs.map (·.2))):Own (.dK l) a
 | dT {l:List (List Key×D)} {a:Addr} {xs:List (List Key×V)} (h:H a=some (.dT xs)) (e:xs.map (·.1)=l.map (·.1)) (r:RepL A H (l.map (·.2)) (xs.map (·.2))):Own (.dT l) a
end
def Kp:HO->Prop
 | .tup _=>True | .lst _=>True | .ins _ _ _=>True | .memo _ _ _=>True|_=>False
structure Ext(A:Av)(H H':Hp):Prop where
 rd:∀b u,Rd H b u->Rd H' b u
 kp:∀b u,Kp u->H b=some u->H' b=some u
 ow:∀b u,A b->H b=some u->H' b=some u
 fz:∀b o u,H b=some (.frz o u)->H' b=some (.frz o u)
theorem Ext.refl(A:Av)(H:Hp):Ext A H H:=⟨λ_ _ h=>h,λ_ _ _ h=>h,λ_ _ _ h=>h,λ_ _ _ h=>h⟩
theorem Ext.trans(a:Ext A H H1)(b:Ext A H1 H2):Ext A H H2:=
 ⟨λc u h=>b.rd c u (a.rd c u h),λc u k h=>b.kp c u k (a.kp c u k h),λc u n h=>b.ow c u n (a.ow c u n h),λc o u h=>b.fz c o u (a.fz c o u h)⟩
theorem Ext.mono(h:Ext A H H')(s:∀a,A' a->A a):Ext A' H H':=⟨h.rd,h.kp,λb u n e=>h.ow b u (s b n) e,h.fz⟩
theorem Ext.same(h:Same H H'):Ext A H H':=
 ⟨λb u r=>by rcases r with r|⟨o,r⟩;exact .inl (h _ _ r);exact .inr ⟨o,h _ _ r⟩,λb u _ r=>h _ _ r,λb u _ r=>h _ _ r,λb o u r=>h _ _ r⟩
theorem Ext.tp(x:Ext A H H')(b:Addr)(xs:List V)(h:H b=some (.tup xs)):H' b=some (.tup xs):=x.kp b _ trivial h
theorem Ext.new(h:H p=none):Ext A H (upd H p o):=Ext.same (My.K6 h)
mutual
theorem Rep.ext(x:Ext A H H'):Rep A H d v->Rep A H' d v
 | .non=>.non
 | .bl b=>.bl b
 | .int i=>.int i
 | .str s=>.str s
 | .tup h r=>.tup (x.tp _ _ h) (RepL.ext x r)
 | .lst n h r=>.lst n (x.rd _ _ h) (RepL.ext x r)
 | .dK n h e r=>.dK n (x.rd _ _ h) e (RepL.ext x r)
 | .dT n h e r=>.dT n (x.rd _ _ h) e (RepL.ext x r)
 | .ob n h e r=>.ob n (x.kp _ _ trivial h) e (RepL.ext x r)
 | .mem h=>.mem (x.kp _ _ trivial h)
theorem RepL.ext(x:Ext A H H'):RepL A H ds vs->RepL A H' ds vs
 | .nil=>.nil
 | .cons h t=>.cons (Rep.ext x h) (RepL.ext x t)
end
theorem RepB.ext(x:Ext A H H'):RepB A H d v->RepB A H' d v
 | .of h=>.of (h.ext x)
 | .lst h r=>.lst (x.rd _ _ h) (r.ext x)
 | .dK h e r=>.dK (x.rd _ _ h) e (r.ext x)
 | .dT h e r=>.dT (x.rd _ _ h) e (r.ext x)
theorem Own.ext(x:Ext A H H')(q:A a):Own A H d a->Own A H' d a
 | .lst h r=>.lst (x.ow _ _ q h) (r.ext x)
 | .dK h e r=>.dK (x.ow _ _ q h) e (r.ext x)
 | .dT h e r=>.dT (x.ow _ _ q h) e (r.ext x)
theorem Own.b:Own A H d a->RepB A H d (.ref a)
 | .lst h r=>.lst (.inl h) r
 | .dK h e r=>.dK (.inl h) e r
 | .dT h e r=>.dT (.inl h) e r
mutual
/-- avoid other things: those that were not there, or fewer -/
theorem Rep.av(x:∀a,A' a->A a\/H a=none):Rep A H d v->Rep A' H d v
 | .non=>.non
 | .bl b=>.bl b
 | .int i=>.int i
 | .str s=>.str s
 | .tup h r=>.tup h (RepL.av x r)
 | .lst n h r=>.lst (λz=>(x _ z).elim n λz=>by rcases h with h|⟨o,h⟩ <;> (rw[z]at h;cases h)) h (RepL.av x r)
 | .dK n h e r=>.dK (λz=>(x _ z).elim n λz=>by rcases h with h|⟨o,h⟩ <;> (rw[z]at h;cases h)) h e (RepL.av x r)
 | .dT n h e r=>.dT (λz=>(x _ z).elim n λz=>by rcases h with h|⟨o,h⟩ <;> (rw[z]at h;cases h)) h e (RepL.av x r)
 | .ob n h e r=>.ob (λz=>(x _ z).elim n λz=>by rw[z]at h;cases h) h e (RepL.av x r)
 | .mem h=>.mem h
theorem RepL.av(x:∀a,A' a->A a\/H a=none):RepL A H ds vs->RepL A' H ds vs
 | .nil=>.nil
 | .cons h t=>.cons (Rep.av x h) (RepL.av x t)
end
noncomputable def W6:HO->Prop
 | .lst _=>True | .dK _=>True | .dT _=>True|_=>False
theorem eP(n:b≠a)(h:Rd H b u):Rd (upd H a o) b u:=by
 rcases h with h|⟨x,h⟩
 ·exact .inl (by rw[aE n];exact h)
 ·exact .inr ⟨x,by rw[aE n];exact h⟩
mutual
theorem Rep.put(B:A a)(q:H a=some u)(F:W6 u):Rep A H d v->Rep A (upd H a o) d v
 | .non=>.non
 | .bl b=>.bl b
 | .int i=>.int i
 | .str s=>.str s
 | .tup (a:=b) h r=>.tup (by rw[aE (λz=>by subst z;rw[q]at h;cases h;exact F)];exact h) (RepL.put B q F r)
 | .lst (a:=b) n h r=>.lst n (eP (λz=>n (by rw[z];exact B)) h) (RepL.put B q F r)
 | .dK (a:=b) n h e r=>.dK n (eP (λz=>n (by rw[z];exact B)) h) e (RepL.put B q F r)
 | .dT (a:=b) n h e r=>.dT n (eP (λz=>n (by rw[z];exact B)) h) e (RepL.put B q F r)
 | .ob (a:=b) n h e r=>.ob n (by rw[aE (λz=>by subst z;rw[q]at h;cases h;exact F)];exact h) e (RepL.put B q F r)
 | .mem (a:=b) h=>.mem (by rw[aE (λz=>by subst z;rw[q]at h;cases h;exact F)];exact h)
theorem RepL.put(q:A a)(z:H a=some u)(B:W6 u):RepL A H ds vs->RepL A (upd H a o) ds vs
 | .nil=>.nil
 | .cons h t=>.cons (Rep.put q z B h) (RepL.put q z B t)
end
theorem Own.put{A:Av}{H:Hp}{a b:Addr}{o u:HO}(F:A a)(z:H a=some u)(q:W6 u)(B:b≠a){d:D}:Own A H d b->Own A (upd H a o) d b
 | .lst h r=>.lst (by rw[aE B];exact h) (r.put F z q)
 | .dK h e r=>.dK (by rw[aE B];exact h) e (r.put F z q)
 | .dT h e r=>.dT (by rw[aE B];exact h) e (r.put F z q)
theorem Own.av(x:∀a,A' a->A a\/H a=none):Own A H d a->Own A' H d a
 | .lst h r=>.lst h (r.av x)
 | .dK h e r=>.dK h e (r.av x)
 | .dT h e r=>.dT h e (r.av x)
theorem Own.rep(n:¬ A a):Own A H d a->Rep A H d (.ref a)
 | .lst h r=>.lst n (.inl h) r
 | .dK h e r=>.dK n (.inl h) e r
 | .dT h e r=>.dT n (.inl h) e r
section
variable {A:Av}{H:Hp}
theorem RepL.length:∀ {ds:List D} {vs:List V},RepL A H ds vs->vs.length=ds.length
 | _,_,.nil=>rfl
 | _,_,.cons _ t=>by rw[zaw,zaw,RepL.length t]
theorem RepL.get:∀ {ds:List D} {vs:List V} {i:Nat} {v:V},RepL A H ds vs->vs[i]?=some v->∃d,ds[i]?=some d/\Rep A H d v
 | _,_,i,v,.nil,e=>by simp at e
 | _,_,0,v,.cons h t,e=>by simp at e;subst e;exact⟨_,rfl,h⟩
 | _,_,i+1,v,.cons h t,e=>RepL.get (i:=i) t (by simpa using e)
theorem RepL.get':∀ {ds:List D} {vs:List V} {i:Nat} {d:D},RepL A H ds vs->ds[i]?=some d->∃v,vs[i]?=some v/\Rep A H d v
 | _,_,i,v,.nil,e=>by simp at e
 | _,_,0,v,.cons h t,e=>by simp at e;subst e;exact⟨_,rfl,h⟩
 | _,_,i+1,v,.cons h t,e=>RepL.get' (i:=i) t (by simpa using e)
theorem RepL.append:∀ {ds es:List D} {vs us:List V},RepL A H ds vs->RepL A H es us->RepL A H (ds++es) (vs++us)
 | _,_,_,_,.nil,s=>s
 | _,_,_,_,.cons h t,s=>.cons h (RepL.append t s)
theorem RepL.take:∀ {ds:List D} {vs:List V} (n:Nat),RepL A H ds vs->RepL A H (ds.take n) (vs.take n)
 | _,_,0,_=>by simp;exact .nil
 | _,_,n+1,.nil=>.nil
 | _,_,n+1,.cons h t=>.cons h (RepL.take n t)
theorem RepL.drop:∀ {ds:List D} {vs:List V} (n:Nat),RepL A H ds vs->RepL A H (ds.drop n) (vs.drop n)
 | _,_,0,r=>r
 | _,_,n+1,.nil=>.nil
 | _,_,n+1,.cons h t=>RepL.drop n t
theorem RepL.set:∀ {ds:List D} {vs:List V} {d:D} {v:V} (n:Nat),Rep A H d v->RepL A H ds vs->RepL A H (ds.set n d) (vs.set n v)
 | _,_,_,_,_,_,.nil=>.nil
 | _,_,_,_,0,r,.cons h t=>.cons r t
 | _,_,_,_,n+1,r,.cons h t=>.cons h (RepL.set n r t)
theorem Rep.b(h:Rep A H d v):RepB A H d v:=.of h
theorem RepB.int_inv(h:RepB A H (.int i) v):v=.int i:=by cases h with|of h=>cases h;rfl
theorem RepB.bl_inv(h:RepB A H (.bl i) v):v=.bl i:=by cases h with|of h=>cases h;rfl
theorem RepB.str_inv(h:RepB A H (.str i) v):v=.str i:=by cases h with|of h=>cases h;rfl
theorem RepB.non_inv(h:RepB A H .non v):v=.non:=by cases h with|of h=>cases h;rfl
theorem RepB.tup_inv(h:RepB A H (.tup l) v):∃a xs,v=.ref a/\H a=some (.tup xs)/\RepL A H l xs:=by
 cases h with|of h=>cases h with|tup h r=>exact⟨_,_,rfl,h,r⟩
theorem RepB.ob_inv{C:Addr}{fs:List (Str×D)}{v:V}(h:RepB A H (.ob C fs) v):∃a dx vs,v=.ref a/\H a=some (.ins C dx vs)/\vs.map (·.1)=fs.map (·.1)/\RepL A H (fs.map (·.2)) (vs.map (·.2)):=by
 cases h with
 | of h=>cases h with
  | ob n h e r=>exact⟨_,_,_,rfl,h,e,r⟩
theorem RepB.mem_inv{dom:List (Key×List Key)}{f:Key×List Key->Option (Int×Int)}{v:V}(h:RepB A H (.mem dom f) v):∃a,v=.ref a/\H a=some (.memo dom f none):=by
 cases h with
 | of h=>cases h with
  | mem h=>exact⟨_,rfl,h⟩
theorem RepB.lst_inv(h:RepB A H (.lst l) v):∃a xs,v=.ref a/\Rd H a (.lst xs)/\RepL A H l xs:=by
 cases h with
 | of h=>cases h with|lst n h r=>exact⟨_,_,rfl,h,r⟩
 | lst h r=>exact⟨_,_,rfl,h,r⟩
theorem RepB.dK_inv(h:RepB A H (.dK l) v):∃a xs,v=.ref a/\Rd H a (.dK xs)/\xs.map (·.1)=l.map (·.1)/\RepL A H (l.map (·.2)) (xs.map (·.2)):=by
 cases h with
 | of h=>cases h with|dK n h e r=>exact⟨_,_,rfl,h,e,r⟩
 | dK h e r=>exact⟨_,_,rfl,h,e,r⟩
theorem RepB.dT_inv(h:RepB A H (.dT l) v):∃a xs,v=.ref a/\Rd H a (.dT xs)/\xs.map (·.1)=l.map (·.1)/\RepL A H (l.map (·.2)) (xs.map (·.2)):=by
 cases h with
 | of h=>cases h with|dT n h e r=>exact⟨_,_,rfl,h,e,r⟩
 | dT h e r=>exact⟨_,_,rfl,h,e,r⟩
end
abbrev cU:=List (Option D)
inductive Fact where
 | rep (d:D) (v:V)|fz (a:Addr) (o:Obj) (u:HO)
def Fact.Holds(A:Av)(H:Hp):Fact->Prop
 | .rep d v=>Rep A H d v
 | .fz a o u=>H a=some (.frz o u)
theorem Fact.ext(x:Ext A H H'):∀ {p:Fact},p.Holds A H->p.Holds A H'
 | .rep _ _,h=>Rep.ext x h
 | .fz _ _ _,h=>x.fz _ _ _ h
theorem Fact.av(x:∀a,A' a->A a\/H a=none):∀ {p:Fact},p.Holds A H->p.Holds A' H
 | .rep _ _,h=>Rep.av x h
 | .fz _ _ _,h=>h
theorem Fact.put(G:A a)(B:H a=some u)(F:W6 u):∀ {p:Fact},p.Holds A H->p.Holds A (upd H a o)
 | .rep _ _,h=>Rep.put G B F h
 | .fz b q w,h=>by
  have h:H b=some (.frz q w):=h;show upd H a o b=some (.frz q w);rw[aE (λz=>by subst z;rw[B]at h;cases h;exact F)];exact h
structure ST(H0:Hp)(A0 A:Av)(E:List Fact)(O:List Nat)(σ:L2.St)(H:Hp)(ρ:cU):Prop where
 ex:Ext A0 H0 H
 sub:∀a,A0 a->A a
 l0:∀a,A0 a->H0 a≠none
 live:∀a,A a->H a≠none
 len:σ.length=ρ.length
 val:∀i d,ρ[i]?=some (some d)->i∉O->∃v,σ[i]?=some (some v)/\Rep A H d v
 own:∀i d,ρ[i]?=some (some d)->i∈O->∃a,σ[i]?=some (some (.ref a))/\A a/\H0 a=none/\Own A H d a
 inj:∀i j d d' a,i∈O->j∈O->ρ[i]?=some (some d)->ρ[j]?=some (some d')->σ[i]?=some (some (.ref a))->σ[j]?=some (some (.ref a))->i=j
 ext:∀p∈E,p.Holds A H
section
variable {H0:Hp}{A0 A:Av}{E:List Fact}{O:List Nat}{σ:L2.St}{H H':Hp}{ρ:cU}
theorem ST.mono(s:ST H0 A0 A E O σ H ρ)(x:Ext A H H'):ST H0 A0 A E O σ H' ρ where
 ex:=s.ex.trans (x.mono s.sub)
 sub:=s.sub
 l0:=s.l0
 live:=λa q=>by
  have:=s.live a q;cases e:H a with
  | none=>exact absurd e this
  | some u=>rw[x.ow a u q e];exact λz=>nomatch z
 len:=s.len
 val:=λi d h n=>by obtain⟨v,h1,h2⟩:=s.val i d h n;exact⟨v,h1,h2.ext x⟩
 own:=λi d h n=>by obtain⟨a,h1,h2,B,G⟩:=s.own i d h n;exact⟨a,h1,h2,B,G.ext x h2⟩
 inj:=s.inj
 ext:=λp F=>Fact.ext x (s.ext p F)
theorem ST.more(s:ST H0 A0 A E O σ H ρ)(h:Rep A H d v):ST H0 A0 A (.rep d v::E) O σ H ρ:=
 {s with ext:=λp q=>by rcases List.mem_cons.mp q with e|e;rw[e];exact h;exact s.ext p e}
theorem ST.less(s:ST H0 A0 A E O σ H ρ)(h:∀p∈E',p∈E):ST H0 A0 A E' O σ H ρ:=
 {s with ext:=λp q=>s.ext p (h p q)}
theorem eM(h:(ρ.set i o)[j]?=some (some d)):(j=i/\o=some d/\i<ρ.length)\/(j≠i/\ρ[j]?=some (some d)):=by
 rw[List.getElem?_set]at h;by_cases e:i=j
 ·rw[if_pos e]at h
  by_cases l:i<ρ.length
  ·rw[if_pos l]at h
   exact .inl ⟨e.symm,zaz h,l⟩
  ·rw[if_neg l]at h;cases h
 ·rw[if_neg e]at h
  exact .inr ⟨λz=>e z.symm,h⟩
theorem sig_set(h:i<σ.length):(σ.set i (some v))[i]?=some (some v):=by simp[h]
theorem lK(h:j≠i):(σ.set i (some v))[j]?=σ[j]?:=by rw[zbP (zaU h)]
theorem ST.put(s:ST H0 A0 A E O σ H ρ)(h:Rep A H d v)(n:i∉O):ST H0 A0 A E O (σ.set i (some v)) H (ρ.set i (some d)) where
 ex:=s.ex
 sub:=s.sub
 l0:=s.l0
 live:=s.live
 len:=by simp[s.len]
 val:=λj d' h' B=>by
  rcases eM h' with⟨e,q,l⟩|⟨e,q⟩
  ·subst e;cases q;exact⟨v,sig_set (by rw[s.len];exact l),h⟩
  ·obtain⟨w,h1,h2⟩:=s.val j d' q B;exact⟨w,by rw[lK e];exact h1,h2⟩
 own:=λj d' h' B=>by
  rcases eM h' with⟨e,q,l⟩|⟨e,q⟩
  ·subst e;exact absurd B n
  ·obtain⟨w,h1,h2⟩:=s.own j d' q B;exact⟨w,by rw[lK e];exact h1,h2⟩
 inj:=λj k Y W a J F h1 h2 M N=>by
  have G:j≠i:=λz=>n (z ▸ J)
  have U:k≠i:=λz=>n (z ▸ F)
  rcases eM h1 with⟨e,_⟩|⟨_,h1⟩
  ·exact absurd e G
  rcases eM h2 with⟨e,_⟩|⟨_,h2⟩
  ·exact absurd e U
  exact s.inj j k Y W a J F h1 h2 (by rw[lK G]at M;exact M) (by rw[lK U]at N;exact N)
 ext:=s.ext
theorem ST.shut(s:ST H0 A0 A E O σ H ρ)(h:∀i,i∈O'->i∈O):∃A',ST H0 A0 A' E O' σ H ρ:=by
 let F:Av:=λa=>∃i d,i∈O/\i∉O'/\ρ[i]?=some (some d)/\σ[i]?=some (some (.ref a))
 have cut:∀a,(A a/\¬ F a)->A a\/H a=none:=λa z=>.inl z.1
 refine⟨λa=>A a/\¬ F a,s.ex,λa G=>⟨s.sub a G,?_⟩,s.l0,λa G=>s.live a G.1,s.len,λi d hi n=>?_,λi d hi n=>?_,λi j d d' a hi Y=>s.inj i j d d' a (h i hi) (h j Y),λp hp=>Fact.av cut (s.ext p hp)⟩
 ·rintro⟨i,d,h1,h2,U,N⟩
  obtain⟨b,q,B,M,J⟩:=s.own i d U h1;rw[N]at q;cases q;exact s.l0 a G M
 ·by_cases W:i∈O
  ·obtain⟨a,q,B,M,J⟩:=s.own i d hi W
   exact⟨.ref a,q,(J.av cut).rep λz=>z.2 ⟨i,d,W,n,hi,q⟩⟩
  ·obtain⟨v,q,B⟩:=s.val i d hi W
   exact⟨v,q,B.av cut⟩
 ·obtain⟨a,q,B,M,J⟩:=s.own i d hi (h i n)
  refine⟨a,q,⟨B,?_⟩,M,J.av cut⟩;rintro⟨j,d',h1,h2,U,N⟩;have:=s.inj i j d d' a (h i n) h1 hi U q N;subst this;exact h2 n
end
abbrev Ev:=cU->Option D
abbrev Bv:=cU->Option Bool
abbrev Lv:=cU->Option (List D)
abbrev RR:=Av->Hp->D->V->Prop
inductive tD(R:RR)(O:List Nat)(f:Ev)(σ:L2.St)(H:Hp)(Q:VK):Prop
 | mk (H0:Hp) (A0 A:Av) (E:List Fact) (ρ:cU) (d:D) (st:ST H0 A0 A E O σ H ρ) (e:f ρ=some d) (q:∀v H',Ext A H H'->R A H' d v->Q v H'):tD R O f σ H Q
inductive tDT(O:List Nat)(g:Bv)(σ:L2.St)(H:Hp)(Q:Bool->Hp->Prop):Prop
 | mk (H0:Hp) (A0 A:Av) (E:List Fact) (ρ:cU) (b:Bool) (st:ST H0 A0 A E O σ H ρ) (e:g ρ=some b) (q:∀H',Ext A H H'->Q b H'):tDT O g σ H Q
def PD(X:Cx)(O:List Nat)(e:Expr)(f:Ev):Prop:=PE X e (tD Rep O f)
def PB(X:Cx)(O:List Nat)(e:Expr)(f:Ev):Prop:=PE X e (tD RepB O f)
def uM(X:Cx)(O:List Nat)(e:Expr)(g:Bv):Prop:=PT X e (tDT O g)
def PDW(X:Cx)(O:List Nat)(e:Expr)(g:Bv):Prop:=PW X e (tDT O g)
theorem PDW.pt(h:PDW X O e g):uM X O e g:=PW.pt h
inductive RL(R:RR)(A:Av)(H:Hp):List D->List V->Prop where
 | nil:RL R A H [] []
 | cons {d v ds vs} (h:R A H d v) (t:RL R A H ds vs):RL R A H (d::ds) (v::vs)
inductive tDA(R:RR)(O:List Nat)(f:Lv)(σ:L2.St)(H:Hp)(Q:List V->Hp->Prop):Prop
 | mk (H0:Hp) (A0 A:Av) (E:List Fact) (ρ:cU) (ds:List D) (st:ST H0 A0 A E O σ H ρ) (e:f ρ=some ds) (q:∀vs H',Ext A H H'->RL R A H' ds vs->Q vs H'):tDA R O f σ H Q
def A9(X:Cx)(O:List Nat)(es:List Expr)(f:Lv):Prop:=PA X es (tDA Rep O f)
def vZ(X:Cx)(O:List Nat)(es:List Expr)(f:Lv):Prop:=PA X es (tDA RepB O f)
section
variable {X:Cx}{O:List Nat}
theorem PE.mono(h:PE X e t)(x:∀σ H Q,t' σ H Q->t σ H Q):PE X e t':=λpins s σ H Q I w=>h pins s σ H Q I (x σ H Q w)
theorem PT.mono(h:PT X e t)(x:∀σ H Q,t' σ H Q->t σ H Q):PT X e t':=λpins s σ H Q I w=>h pins s σ H Q I (x σ H Q w)
theorem PW.mono(h:PW X e t)(x:∀σ H Q,t' σ H Q->t σ H Q):PW X e t':=λq pins s σ H Q I w=>h q pins s σ H Q I (x σ H Q w)
theorem PA.mono(h:PA X es t)(x:∀σ H Q,t' σ H Q->t σ H Q):PA X es t':=λpos pins s σ H Q I w=>h pos pins s σ H Q I (x σ H Q w)
theorem PD.b{e:Expr}{f:Ev}(h:PD X O e f):PB X O e f:=PE.mono h λσ H Q ⟨H0,A0,A,E,ρ,d,st,e,q⟩=>⟨H0,A0,A,E,ρ,d,st,e,λv H' x r=>q v H' x (.of r)⟩
theorem RL.toL:∀ {ds:List D} {vs:List V},RL Rep A H ds vs->RepL A H ds vs
 | _,_,.nil=>.nil
 | _,_,.cons h t=>.cons h (RL.toL t)
def aD(i:Nat):Ev:=λρ=>(ρ[i]?).join
def eC(d:D):Ev:=λ_=>some d
theorem bW{ρ:cU}{i:Nat}{d:D}(h:(ρ[i]?).join=some d):ρ[i]?=some (some d):=by
 cases e:ρ[i]? with
 | none=>rw[e]at h;cases h
 | some o=>rw[e]at h;cases o with
  | none=>cases h
  | some x=>cases h;rfl
theorem tJ{e:Expr}(i:Nat)(h:PE X e (cZ i))(n:i∉O):PD X O e (aD i):=PE.mono h <| by
 rintro σ H Q ⟨H0,A0,A,E,ρ,d,st,e,q⟩;obtain⟨v,z,r⟩:=st.val i d (bW e) n;exact⟨v,z,q v H (Ext.refl _ _) r⟩
theorem VL{e:Expr}(i:Nat)(h:PE X e (cZ i)):PB X O e (aD i):=PE.mono h <| by
 rintro σ H Q ⟨H0,A0,A,E,ρ,d,st,e,q⟩;by_cases n:i∈O
 ·obtain⟨a,z,_,_,r⟩:=st.own i d (bW e) n
  exact⟨_,z,q _ H (Ext.refl _ _) r.b⟩
 ·obtain⟨v,z,r⟩:=st.val i d (bW e) n
  exact⟨v,z,q v H (Ext.refl _ _) (.of r)⟩
theorem UI{i j pos}:PD X O (.Constant (.int i) j pos) (eC (.int i)):=PE.mono VY λσ H Q ⟨H0,A0,A,E,ρ,d,st,e,q⟩=>by cases e;exact q _ H (Ext.refl _ _) (.int _)
theorem YA{i j pos}:PD X O (.Constant (.bool i) j pos) (eC (.bl i)):=PE.mono XJ λσ H Q ⟨H0,A0,A,E,ρ,d,st,e,q⟩=>by cases e;exact q _ H (Ext.refl _ _) (.bl _)
theorem UZ{i j pos}:PD X O (.Constant (.str i) j pos) (eC (.str i)):=PE.mono UV λσ H Q ⟨H0,A0,A,E,ρ,d,st,e,q⟩=>by cases e;exact q _ H (Ext.refl _ _) (.str _)
theorem V3{j pos}:PD X O (.Constant .none j pos) (eC .non):=PE.mono UX λσ H Q ⟨H0,A0,A,E,ρ,d,st,e,q⟩=>by cases e;exact q _ H (Ext.refl _ _) .non
def Live(A:Av)(H:Hp):Prop:=∀a,A a->H a≠none
theorem Live.ext(l:Live A H)(x:Ext A H H'):Live A H':=λa q=>by
 cases e:H a with
 | none=>exact absurd e (l a q)
 | some u=>rw[x.ow a u q e];exact λz=>nomatch z
inductive rD(g:D->D->Option D)(x y:V)(H:Hp)(Q:VK):Prop
 | mk (A:Av) (dx dy d:D) (lv:Live A H) (rx:RepB A H dx x) (ry:RepB A H dy y) (e:g dx dy=some d) (q:∀v H',Ext A H H'->Rep A H' d v->Q v H'):rD g x y H Q
def kO(X:Cx)(f:Value->Value->Sem Value)(g:D->D->Option D):Prop:=OpR X f (rD g)
theorem OpR.mono(h:OpR X f r)(x:∀a b H Q,r' a b H Q->r a b H Q):OpR X f r':=λpins s σ H a b v u Q I z q w=>h pins s σ H a b v u Q I z q (x a b H Q w)
def bC(g:D->D->Option D)(q fb:Ev):Ev:=λρ=>(q ρ).bind λx=>(fb ρ).bind λy=>g x y
theorem bind_some{q β:Type}{o:Option q}{f:q->Option β}{b:β}(h:o.bind f=some b):∃a,o=some a/\f a=some b:=by
 cases o with
 | none=>cases h
 | some a=>exact⟨a,rfl,h⟩
theorem xP{g:D->D->Option D}{G fb:Ev}{σ:L2.St}{H:Hp}{Q:VK}(h:tD Rep O (bC g G fb) σ H Q):qe (rD g) (tD RepB O G) (tD RepB O fb) σ H Q:=by
 obtain⟨H0,A0,A,E,ρ,d,st,e,q⟩:=h;obtain⟨x,ex,e⟩:=bind_some e;obtain⟨y,M,e⟩:=bind_some e;exact⟨H0,A0,A,E,ρ,x,st,ex,λv H1 B r1=>⟨H0,A0,A,E,ρ,y,st.mono B,M,λw H2 F r2=>⟨A,x,y,d,(st.mono (B.trans F)).live,r1.ext F,r2,e,λz J N r3=>q z J ((B.trans F).trans N) r3⟩⟩⟩
theorem bO(B:kO X (zaM op) g)(q:PB X O a fa)(z:PB X O b fb):PD X O (.BinOp a op b pos) (bC g fa fb):=
 PE.mono (XN B q z) λσ H Q h=>xP h
theorem xN(F:kO X (zaA op) g)(q:PB X O a fa)(B:PB X O b fb)(z:zbQ op b=false):PD X O (.Compare a [op] [b] pos) (bC g fa fb):=
 PE.mono (OI F q B z) λσ H Q h=>xP h
noncomputable def XD:D->Option Bool
 | .bl b=>some b
 | _=>none
theorem yR(h:XD d=some b):d=.bl b:=by
 cases d <;> cases h;rfl
def pN(f:Ev):Bv:=λρ=>(f ρ).bind XD
theorem AC{f:Ev}{σ:L2.St}{H:Hp}{Q:Bool->Hp->Prop}(h:tDT O (pN f) σ H Q):tD Rep O f σ H λx H'=>∃k,x=.bl k/\Q k H':=by
 obtain⟨H0,A0,A,E,ρ,b,st,e,q⟩:=h;obtain⟨x,ex,e⟩:=bind_some e;rw[yR e]at ex;exact⟨H0,A0,A,E,ρ,_,st,ex,λv H1 z r1=>⟨b,RepB.bl_inv (.of r1),q H1 z⟩⟩
theorem D7(F:kO X (zaA op) g)(q:PB X O a fa)(B:PB X O b fb)(z:zbQ op b=false):uM X O (.Compare a [op] [b] pos) (pN (bC g fa fb)):=
 PT.mono (N0 F q B z) λσ H Q h=>xP (AC h)
theorem OU(h:PD X O e f)(z:∀q,isTrue e X.env q=(do let v <- q;standAt e.pos;zcg [v] (truthy v)):=by intro _;rfl):uM X O e (pN f):=
 PT.mono (TR h z) λσ H Q h=>AC h
def NT(g:Bv):Bv:=λρ=>(g ρ).map (!·)
def IT(g h:Bv):Bv:=λρ=>(g ρ).bind λb=>if b=true then h ρ else some false
def TF(g h:Bv):Bv:=λρ=>(g ρ).bind λb=>if b=true then some true else h ρ
theorem RC(h:uM X O a g):uM X O (.UnaryOp .Not a pos) (NT g):=PT.mono (UB h) <| by
 rintro σ H Q ⟨H0,A0,A,E,ρ,b,st,e,q⟩;unfold NT at e;cases z:g ρ with
 | none=>rw[z]at e;cases e
 | some c=>rw[z]at e;cases e;exact⟨H0,A0,A,E,ρ,c,st,z,q⟩
theorem K1(h:uM X O a g):PDW X O (.BoolOp .And [a] pos) g:=QP h
theorem OB(h:uM X O a g):PDW X O (.BoolOp .Or [a] pos) g:=VT h
theorem O9{a b:Expr}{rest:List Expr}{pos:Pos}{g k:Bv}(B:uM X O a g)(F:PDW X O (.BoolOp .And (b::rest) pos) k):PDW X O (.BoolOp .And (a::b::rest) pos) (IT g k):=
 PW.mono (WG B F) <| by
  rintro σ H Q ⟨H0,A0,A,E,ρ,b,st,e,q⟩;obtain⟨x,ex,e⟩:=bind_some e;refine⟨H0,A0,A,E,ρ,x,st,ex,λH1 z=>?_⟩;cases x with
  | false=>rw[if_neg zaB]at e ⊢;cases e;exact q H1 z
  | true=>rw[if_pos rfl]at e ⊢;exact⟨H0,A0,A,E,ρ,b,st.mono z,e,λH2 G=>q H2 (z.trans G)⟩
theorem VV{a b:Expr}{rest:List Expr}{pos:Pos}{g k:Bv}(B:uM X O a g)(F:PDW X O (.BoolOp .Or (b::rest) pos) k):PDW X O (.BoolOp .Or (a::b::rest) pos) (TF g k):=
 PW.mono (XH B F) <| by
  rintro σ H Q ⟨H0,A0,A,E,ρ,b,st,e,q⟩;obtain⟨x,ex,e⟩:=bind_some e;refine⟨H0,A0,A,E,ρ,x,st,ex,λH1 z=>?_⟩;cases x with
  | true=>rw[if_pos rfl]at e ⊢;cases e;exact q H1 z
  | false=>rw[if_neg zaB]at e ⊢;exact⟨H0,A0,A,E,ρ,b,st.mono z,e,λH2 G=>q H2 (z.trans G)⟩
def NP(f g:Ev):Ev:=λρ=>(f ρ).bind λx=>(XD x).bind λb=>if b=true then g ρ else some (.bl false)
def qc(c:Bv)(f g:Ev):Ev:=λρ=>(c ρ).bind λb=>if b=true then f ρ else g ρ
theorem V9{op}(h:PD X O a f):PD X O (.BoolOp op [a] pos) f:=UH h
theorem MQ{a b:Expr}{rest:List Expr}{pos:Pos}{f g:Ev}(B:PD X O a f)(J:PD X O (.BoolOp .And (b::rest) pos) g):PD X O (.BoolOp .And (a::b::rest) pos) (NP f g):=
 PE.mono (TY B J) <| by
  rintro σ H Q ⟨H0,A0,A,E,ρ,d,st,e,q⟩;obtain⟨x,ex,e⟩:=bind_some e;obtain⟨b,F,e⟩:=bind_some e;rw[yR F]at ex;refine⟨H0,A0,A,E,ρ,_,st,ex,λv H1 z r1=>⟨b,RepB.bl_inv (.of r1),?_⟩⟩;cases b with
  | false=>rw[if_neg zaB]at e ⊢;cases e;exact q _ H1 z (.bl _)
  | true=>rw[if_pos rfl]at e ⊢;exact⟨H0,A0,A,E,ρ,d,st.mono z,e,λw H2 G=>q w H2 (z.trans G)⟩
theorem SQ{c a b:Expr}{pos:Pos}{g:Bv}{f k:Ev}(J:uM X O c g)(F:PD X O a f)(M:PD X O b k):PD X O (.IfExp c a b pos) (qc g f k):=
 PE.mono (LA J F M) <| by
  rintro σ H Q ⟨H0,A0,A,E,ρ,d,st,e,q⟩;obtain⟨b,G,e⟩:=bind_some e;refine⟨H0,A0,A,E,ρ,b,st,G,λH1 z=>?_⟩;cases b with
  | true=>rw[if_pos rfl]at e ⊢;exact⟨H0,A0,A,E,ρ,d,st.mono z,e,λw H2 B=>q w H2 (z.trans B)⟩
  | false=>rw[if_neg zaB]at e ⊢;exact⟨H0,A0,A,E,ρ,d,st.mono z,e,λw H2 B=>q w H2 (z.trans B)⟩
end
section
variable {X:Cx}{O:List Nat}
def aZ:Lv:=λ_=>some []
def aC(f:Ev)(g:Lv):Lv:=λρ=>(f ρ).bind λx=>(g ρ).bind λxs=>some (x::xs)
theorem RM:A9 X O [] aZ:=PA.mono fM λσ H Q ⟨H0,A0,A,E,ρ,d,st,e,q⟩=>by cases e;exact q [] H (Ext.refl _ _) .nil
theorem D6:vZ X O [] aZ:=PA.mono fM λσ H Q ⟨H0,A0,A,E,ρ,d,st,e,q⟩=>by cases e;exact q [] H (Ext.refl _ _) .nil
theorem AR(G:∀A H H' d v,Ext A H H'->R A H d v->R A H' d v)(h:tDA R O (aC f g) σ H Q):vV (tD R O f) (tDA R O g) σ H Q:=by
 obtain⟨H0,A0,A,E,ρ,d,st,e,q⟩:=h;obtain⟨x,ex,e⟩:=bind_some e;obtain⟨xs,z,e⟩:=bind_some e;cases e;exact⟨H0,A0,A,E,ρ,x,st,ex,λv H1 F r1=>⟨H0,A0,A,E,ρ,xs,st.mono F,z,λvs H2 B r2=>q (v::vs) H2 (F.trans B) (.cons (G _ _ _ _ _ B r1) r2)⟩⟩
theorem KM(q:PD X O e f)(z:A9 X O es g)(hs:zag (e::es) X.env=(false,eval e X.env)::zag es X.env:=by rfl):A9 X O (e::es) (aC f g):=
 PA.mono (cT q z hs) λσ H Q h=>AR (λ_ _ _ _ _ x r=>r.ext x) h
theorem yT(q:PB X O e f)(z:vZ X O es g)(hs:zag (e::es) X.env=(false,eval e X.env)::zag es X.env:=by rfl):vZ X O (e::es) (aC f g):=
 PA.mono (cT q z hs) λσ H Q h=>AR (λ_ _ _ _ _ x r=>r.ext x) h
inductive tF(O:List Nat)(f:Ev)(σ:L2.St)(H:Hp)(Q:VK):Prop
 | mk (H0:Hp) (A0 A:Av) (E:List Fact) (ρ:cU) (d:D) (st:ST H0 A0 A E O σ H ρ) (e:f ρ=some d) (q:∀a H',Ext A H H'->H a=none->¬ A a->Own (λb=>A b\/b=a) H' d a->Q (.ref a) H'):tF O f σ H Q
def PF(X:Cx)(O:List Nat)(e:Expr)(f:Ev):Prop:=PE X e (tF O f)
theorem PF.d(h:PF X O e f):PD X O e f:=PE.mono h λσ H Q ⟨H0,A0,A,E,ρ,d,st,e,q⟩=>
 ⟨H0,A0,A,E,ρ,d,st,e,λa H' x n B o=>q _ H' x ((o.av (A':=A) λb z=>.inl (.inl z)).rep B)⟩
theorem RepL.fresh(n:H p=none)(r:RepL A H ds vs):RepL (λb=>A b\/b=p) (upd H p o) ds vs:=by
 have r1:RepL (λb=>A b\/b=p) H ds vs:=r.av λb q=>by
  rcases q with q|q
  ·exact .inl q
  ·exact .inr (q ▸ n)
 exact r1.ext (Ext.new n)
theorem Ext.free(x:Ext A H H')(n:H' p=none):H p=none:=by
 cases e:H p with
 | none=>rfl
 | some u=>rcases x.rd p u (.inl e)with h|⟨o,h⟩ <;> (rw[n]at h;cases h)
def eV(g:Lv):Ev:=λρ=>(g ρ).map .tup
def NM(g:Lv):Ev:=λρ=>(g ρ).map .lst
theorem RL.length:∀ {ds:List D} {vs:List V},RL R A H ds vs->vs.length=ds.length
 | _,_,.nil=>rfl
 | _,_,.cons _ t=>by rw[zaw,zaw,RL.length t]
noncomputable def a7(n:Nat):Bool:=decide (n<=1000000)
theorem gL(h:a7 n=true):n<=zaj:=zaL (of_decide_eq_true h) (by decide)
theorem iQ(h:a7 n=true):n<zaj:=zcC (of_decide_eq_true h) (by decide)
theorem map_some{q β:Type}{o:Option q}{f:q->β}{b:β}(h:o.map f=some b):∃a,o=some a/\f a=b:=by
 cases o with
 | none=>cases h
 | some a=>exact⟨a,rfl,zaz h⟩
def Len(g:Lv)(n:Nat):Prop:=∀ρ ds,g ρ=some ds->ds.length=n
theorem N4:Len aZ 0:=λρ ds h=>by cases h;rfl
theorem J2(h:Len g n):Len (aC f g) (n+1):=λρ ds e=>by
 obtain⟨x,ex,e⟩:=bind_some e;obtain⟨xs,q,e⟩:=bind_some e;cases e;rw[zaw,h ρ xs q]
theorem nV{es:List Expr}{z}{pos:Pos}{g:Lv}(h:A9 X O es g)(G:∀ρ ds,g ρ=some ds->ds.length<=100):PD X O (.Tuple es z pos) (eV g):=PE.mono (TZ h) <| by
 rintro σ H Q ⟨H0,A0,A,E,ρ,d,st,e,q⟩;obtain⟨ds,F,rfl⟩:=map_some e;refine⟨H0,A0,A,E,ρ,ds,st,F,λvs H1 z r1=>⟨by rw[r1.length];exact zaL (G ρ ds F) (by decide),λp B=>?_⟩⟩;exact q _ _ (z.trans (Ext.new B)) (.tup aG (r1.toL.ext (Ext.new B)))
theorem L6{es:List Expr}{pos:Pos}{g:Lv}(h:A9 X O es g)(J:∀ρ ds,g ρ=some ds->ds.length<=100):PF X O (.List es pos) (NM g):=PE.mono (VU h) <| by
 rintro σ H Q ⟨H0,A0,A,E,ρ,d,st,e,q⟩;obtain⟨ds,G,rfl⟩:=map_some e;refine⟨H0,A0,A,E,ρ,ds,st,G,λvs H1 F r1=>⟨by rw[r1.length];exact zaL (J ρ ds G) (by decide),λp B=>?_⟩⟩;exact q p _ (F.trans (Ext.new B)) (F.free B) (λz=>(st.mono F).live p z B) (.lst aG (r1.toL.fresh B))
inductive rC(g:List D->Option D)(xs:List V)(H:Hp)(Q:VK):Prop
 | mk (A:Av) (ds:List D) (d:D) (lv:Live A H) (r:RL RepB A H ds xs) (e:g ds=some d) (q:∀v H',Ext A H H'->Rep A H' d v->Q v H'):rC g xs H Q
inductive rCF(g:List D->Option D)(xs:List V)(H:Hp)(Q:VK):Prop
 | mk (A:Av) (ds:List D) (d:D) (lv:Live A H) (r:RL RepB A H ds xs) (e:g ds=some d) (q:∀a H',Ext A H H'->H a=none->¬ A a->Own (λb=>A b\/b=a) H' d a->Q (.ref a) H'):rCF g xs H Q
def kE(X:Cx)(f:Value)(g:List D->Option D):Prop:=CallR X f (rC g)
def F4(X:Cx)(f:Value)(g:List D->Option D):Prop:=CallR X f (rCF g)
theorem CallR.mono(h:CallR X f r)(x:∀a H Q,r' a H Q->r a H Q):CallR X f r':=λpins s σ H a v Q I q w=>h pins s σ H a v Q I q (x a H Q w)
def aS(g:List D->Option D)(f:Lv):Ev:=λρ=>(f ρ).bind g
theorem vE(h:tD Rep O (aS g f) σ H Q):qq (rC g) (tDA RepB O f) σ H Q:=by
 obtain⟨H0,A0,A,E,ρ,d,st,e,q⟩:=h;obtain⟨ds,F,e⟩:=bind_some e;exact⟨H0,A0,A,E,ρ,ds,st,F,λvs H1 z r1=>⟨A,ds,d,(st.mono z).live,r1,e,λv H2 B r2=>q v H2 (z.trans B) r2⟩⟩
theorem IE(h:tF O (aS g f) σ H Q):qq (rCF g) (tDA RepB O f) σ H Q:=by
 obtain⟨H0,A0,A,E,ρ,d,st,e,q⟩:=h;obtain⟨ds,G,e⟩:=bind_some e;exact⟨H0,A0,A,E,ρ,ds,st,G,λvs H1 z r1=>⟨A,ds,d,(st.mono z).live,r1,e,λa H2 F n B o=>q a H2 (z.trans F) (z.free n) B o⟩⟩
section
variable {x:Str}{id T:String}{g:List D->Option D}{e:Expr}{es:List Expr}{f:Lv}{p pos:Pos}
theorem JQ(U:kE X (.builtin id) g)(M:Gl X x)(J:X.mg x=none)(F:zaH x=some (.builtin id))(G:vZ X O (e::es) f)(B:x ≠ "__name__" := by decide)(q:(x == ("__debug__" : Str))=false:=by decide)
  (N:zag (e::es) X.env=(false,eval e X.env)::zag es X.env:=by rfl) (z:(zaG pos (zag es X.env)).any (·.1)=false:=by rfl) :
  PD X O (.Call (.Name x p) (e::es) [] pos) (aS g f):=PE.mono (yS U M J F G B q N z) λσ H Q h=>vE h
theorem IM(U:kE X (.type T) g)(M:Gl X x)(J:X.mg x=none)(F:zaH x=some (.type T))(G:vZ X O (e::es) f)(B:x ≠ "__name__" := by decide)(q:(x == ("__debug__" : Str))=false:=by decide)
  (N:zag (e::es) X.env=(false,eval e X.env)::zag es X.env:=by rfl) (z:(zaG pos (zag es X.env)).any (·.1)=false:=by rfl) :
  PD X O (.Call (.Name x p) (e::es) [] pos) (aS g f):=PE.mono (kJ U M J F G B q N z) λσ H Q h=>vE h
theorem GX(U:F4 X (.type T) g)(M:Gl X x)(J:X.mg x=none)(F:zaH x=some (.type T))(G:vZ X O (e::es) f)(B:x ≠ "__name__" := by decide)(q:(x == ("__debug__" : Str))=false:=by decide)
  (N:zag (e::es) X.env=(false,eval e X.env)::zag es X.env:=by rfl) (z:(zaG pos (zag es X.env)).any (·.1)=false:=by rfl) :
  PF X O (.Call (.Name x p) (e::es) [] pos) (aS g f):=PE.mono (kJ U M J F G B q N z) λσ H Q h=>IE h
end
def spD(n:Nat)(F:List D->Option D):Sp:=λvs H Q _=>∃A ds d,Live A H/\RepL A H ds vs/\vs.length=n/\F ds=some d/\∀v H',Ext A H H'->Rep A H' d v->Q v H'
def Fn(P:zah)(w:World)(K:zae)(mg:Str->Option Value)(base:Heap)(x:Str)(k:Nat)(ps:List Str)(F:List D->Option D):Prop:=My.Ok P w K mg base x k ps (spD ps.length F)
theorem Fn.mono{P:zah}{w:World}{K:zae}{mg:Str->Option Value}{base:Heap}{x:Str}{j k:Nat}{ps:List Str}{F:List D->Option D}(h:Fn P w K mg base x j ps F)(l:j<=k):Fn P w K mg base x k ps F:=My.Ok.mono h l
theorem PL(O':Fn X.prog X.w X.K X.mg X.base x k ps F)(N:Room k X.A)(W:Gl X x)(U:A9 X O (e::es) f)(M:∀ρ ds,f ρ=some ds->ds.length=ps.length)(z:(x == ("__debug__" : Str))=false:=by decide)
  (Y:zag (e::es) X.env=(false,eval e X.env)::zag es X.env:=by rfl) (B:(zaG pos (zag es X.env)).any (·.1)=false:=by rfl) :
  PD X O (.Call (.Name x p) (e::es) [] pos) (aS F f):=PE.mono (My.JW O' N W U z Y B) λσ H Q ⟨H0,A0,A,E,ρ,d,st,e,q⟩=>by
 obtain⟨ds,G,e⟩:=bind_some e;exact⟨H0,A0,A,E,ρ,ds,st,G,λvs H1 J r1=>⟨A,ds,d,(st.mono J).live,r1.toL,by rw[r1.length];exact M ρ ds G,e,λv H2 x2 r2=>q v H2 (J.trans x2) r2⟩⟩
theorem IxR.mono(h:IxR X r)(x:∀a b H Q,r' a b H Q->r a b H Q):IxR X r':=λF B pins s σ H a b v u Q I z q w=>h F B pins s σ H a b v u Q I z q (x a b H Q w)
def qo:D->D->Option D
 | .lst l,.int i=>gD l i
 | .tup l,.int i=>gD l i
 | .str z,.int i=>if a7 z.length then(gD z.cps.toList i).map λc=>.str ⟨#[c]⟩else none
 | _,_=>none
theorem RepL.at(r:RepL A H ds vs)(h:gD ds i=some d):∃v,gD vs i=some v/\Rep A H d v:=by
 obtain⟨j,F,B⟩:=bind_some h;obtain⟨v,z,q⟩:=r.get' B;refine⟨v,?_,q⟩;unfold gD;rw[r.length,F];exact z
theorem nn{q:Type}{a:q}{P:Prop}(h:(none:Option q)=some a):P:=nomatch h
theorem ff{P:Prop}(h:false=true):P:=nomatch h
theorem qr:IxR X (rD qo):=IxR.mono VX <| by
 rintro x y H Q ⟨A,dx,M,d,U,G,F,e,q⟩;cases dx with
 | lst l=>
  cases M with
  | int i=>
   have:=F.int_inv;subst this;obtain⟨a,xs,rfl,h,r⟩:=G.lst_inv;obtain⟨v,B,J⟩:=r.at e;exact .inl ⟨a,xs,i,v,rfl,rfl,.inl h,B,q v H (Ext.refl _ _) J⟩
  | _=>exact nn e
 | tup l=>
  cases M with
  | int i=>
   have:=F.int_inv;subst this;obtain⟨a,xs,rfl,h,r⟩:=G.tup_inv;obtain⟨v,B,J⟩:=r.at e;exact .inr (.inl ⟨a,xs,i,v,rfl,rfl,.inl (.inl h),B,q v H (Ext.refl _ _) J⟩)
  | _=>exact nn e
 | str z=>
  cases M with
  | int i=>
   have:=F.int_inv;subst this;have:=G.str_inv;subst this;simp only[qo]at e;by_cases N:a7 z.length=true
   ·rw[if_pos N]at e
    obtain⟨c,B,rfl⟩:=map_some e;exact .inr (.inr ⟨z,i,c,rfl,rfl,gL N,B,q _ H (Ext.refl _ _) (.str _)⟩)
   ·rw[if_neg N]at e;exact nn e
  | _=>exact nn e
 | _=>exact nn e
abbrev Ov:=cU->Option (Option Int)
inductive tDO(O:List Nat)(g:Ov)(σ:L2.St)(H:Hp)(Q:Option Int->Hp->Prop):Prop
 | mk (H0:Hp) (A0 A:Av) (E:List Fact) (ρ:cU) (o:Option Int) (st:ST H0 A0 A E O σ H ρ) (e:g ρ=some o) (q:∀H',Ext A H H'->Q o H'):tDO O g σ H Q
def TB(X:Cx)(O:List Nat)(e:Option Expr)(g:Ov):Prop:=PO X e (tDO O g)
theorem PO.mono(h:PO X e t)(x:∀σ H Q,t' σ H Q->t σ H Q):PO X e t':=λpins s σ H Q I w=>h pins s σ H Q I (x σ H Q w)
def FY:Ov:=λ_=>some none
noncomputable def W5:D->Option Int
 | .int i=>some i
 | _=>none
theorem AL(h:W5 d=some i):d=.int i:=by cases d <;> cases h;rfl
def vO(f:Ev):Ov:=λρ=>(f ρ).bind λd=>(W5 d).map some
theorem KN:TB X O none FY:=PO.mono QF λσ H Q ⟨H0,A0,A,E,ρ,d,st,e,q⟩=>by cases e;exact q H (Ext.refl _ _)
theorem KA{e:Expr}{f:Ev}(h:PD X O e f):TB X O (some e) (vO f):=PO.mono (Q8 h) <| by
 rintro σ H Q ⟨H0,A0,A,E,ρ,d,st,e,q⟩;obtain⟨x,ex,e⟩:=bind_some e;obtain⟨i,z,rfl⟩:=map_some e;rw[AL z]at ex;exact⟨H0,A0,A,E,ρ,_,st,ex,λv H1 B r1=>⟨i,RepB.int_inv (.of r1),q H1 B⟩⟩
def cutD(xs:List D)(lo hi:Option Int):List D:=(xs.drop (HT.sIx xs.length 0 lo)).take (HT.sIx xs.length xs.length hi-HT.sIx xs.length 0 lo)
theorem RepL.cut{ds:List D}{vs:List V}{lo hi:Option Int}(r:RepL A H ds vs):RepL A H (cutD ds lo hi) (uG vs lo hi):=by
 unfold cutD uG;rw[r.length];exact(r.drop _).take _
def W4(g:D->Option Int->Option Int->Option D)(f:Ev)(a b:Ov):Ev:=λρ=>(f ρ).bind λx=>(a ρ).bind λlo=>(b ρ).bind λhi=>g x lo hi
inductive rS(g:D->Option Int->Option Int->Option D)(x:V)(lo hi:Option Int)(H:Hp)(Q:VK):Prop
 | mk (A:Av) (dx d:D) (lv:Live A H) (r:RepB A H dx x) (e:g dx lo hi=some d) (q:∀v H',Ext A H H'->Rep A H' d v->Q v H'):rS g x lo hi H Q
inductive rSF(g:D->Option Int->Option Int->Option D)(x:V)(lo hi:Option Int)(H:Hp)(Q:VK):Prop
 | mk (A:Av) (dx d:D) (lv:Live A H) (r:RepB A H dx x) (e:g dx lo hi=some d) (q:∀a H',Ext A H H'->H a=none->¬ A a->Own (λb=>A b\/b=a) H' d a->Q (.ref a) H'):rSF g x lo hi H Q
theorem SlR.mono(h:SlR X r)(x:∀a b c H Q,r' a b c H Q->r a b c H Q):SlR X r':=λpins s σ H a v G J lo hi F Q I B hs z q w=>h pins s σ H a v G J lo hi F Q I B hs z q (x a lo hi H Q w)
def qao:D->Option Int->Option Int->Option D
 | .tup l,lo,hi=>some (.tup (cutD l lo hi))
 | _,_,_=>none
def Z3:D->Option Int->Option Int->Option D
 | .lst l,lo,hi=>some (.lst (cutD l lo hi))
 | _,_,_=>none
theorem K3{lo hi:Option Expr}{g:D->Option Int->Option Int->Option D}{a b:Ov}(M:SlR X (rS g))(U:PB X O e f)(G:TB X O lo a)(W:TB X O hi b):PD X O (.Subscript e (.Slice lo hi none p2) pos) (W4 g f a b):=
 PE.mono (K2 M U G W) <| by
  rintro σ H Q ⟨H0,A0,A,E,ρ,d,st,e,q⟩;obtain⟨x,ex,e⟩:=bind_some e;obtain⟨l,N,e⟩:=bind_some e;obtain⟨h,eh,e⟩:=bind_some e;exact⟨H0,A0,A,E,ρ,x,st,ex,λv H1 z r1=>⟨H0,A0,A,E,ρ,l,st.mono z,N,λH2 B=>⟨H0,A0,A,E,ρ,h,st.mono (z.trans B),eh,λH3 F=>⟨A,x,d,(st.mono ((z.trans B).trans F)).live,r1.ext (B.trans F),e,λv H4 Y J=>q v H4 (((z.trans B).trans F).trans Y) J⟩⟩⟩⟩
theorem qat:SlR X (rS qao):=SlR.mono My.QA <| by
 rintro x lo hi H Q ⟨A,dx,d,G,B,e,q⟩;cases dx with
 | tup l=>
  obtain⟨a,xs,rfl,h,r⟩:=B.tup_inv;cases e;by_cases w:HT.sIx xs.length 0 lo=0/\HT.sIx xs.length xs.length hi=xs.length
  ·refine .inr ⟨a,xs,rfl,.inl (.inl h),w,q _ H (Ext.refl _ _) (.tup h ?_)⟩
   have F:uG xs lo hi=xs:=by unfold uG;rw[w.1,w.2];simp
   rw[<- F];exact r.cut
  ·exact .inl ⟨a,xs,rfl,.inl (.inl h),w,λp z=>q _ _ (Ext.new z) (.tup aG (r.cut.ext (Ext.new z)))⟩
 | _=>exact nn e
theorem qah:SlR X (rSF Z3):=SlR.mono P0 <| by
 rintro x lo hi H Q ⟨A,dx,d,F,G,e,q⟩;cases dx with
 | lst l=>
  obtain⟨a,xs,rfl,h,r⟩:=G.lst_inv;cases e;exact⟨a,xs,rfl,.inl h,λp B=>q p _ (Ext.new B) B (λz=>F p z B) (.lst aG (r.cut.fresh B))⟩
 | _=>exact nn e
end
inductive Out where
 | nx (ρ:cU)|rt (d:D)|bk (ρ:cU)|ct (ρ:cU)
abbrev Sv:=cU->Option Out
structure Lp where
 ob:List Nat
 oc:List Nat
def qaE(L:Lp)(H0:Hp)(A0:Av)(E:List Fact)(O':List Nat)(T:Ends):Out->Prop
 | .nx ρ=>∀A σ H,ST H0 A0 A E O' σ H ρ->T.nx σ H
 | .rt d=>∀v H,Ext A0 H0 H->Rep A0 H d v->T.rt v H
 | .bk ρ=>∀A σ H,ST H0 A0 A E L.ob σ H ρ->T.bk σ H
 | .ct ρ=>∀A σ H,ST H0 A0 A E L.oc σ H ρ->T.ct σ H
inductive tS(L:Lp)(O:List Nat)(f:Sv)(O':List Nat)(T:Ends)(σ:L2.St)(H:Hp):Prop
 | mk (H0:Hp) (A0 A:Av) (E:List Fact) (ρ:cU) (out:Out) (st:ST H0 A0 A E O σ H ρ) (e:f ρ=some out) (p:qaE L H0 A0 E O' T out):tS L O f O' T σ H
def jA(X:Cx)(L:Lp)(O:List Nat)(st:Stmt)(f:Sv)(O':List Nat):Prop:=PS X st (tS L O f O')
def eB(X:Cx)(L:Lp)(O:List Nat)(st:List Stmt)(f:Sv)(O':List Nat):Prop:=PSs X st (tS L O f O')
section
variable {X:Cx}{L:Lp}{O O' O2:List Nat}
theorem PS.mono{st:Stmt}{t t':TS}(h:PS X st t)(x:∀T σ H,t' T σ H->t T σ H):PS X st t':=λpins s σ H T I w=>h pins s σ H T I (x T σ H w)
theorem PSs.mono{st:List Stmt}{t t':TS}(h:PSs X st t)(x:∀T σ H,t' T σ H->t T σ H):PSs X st t':=λpins s σ H T I w=>h pins s σ H T I (x T σ H w)
noncomputable def Sub(a b:List Nat):Bool:=a.all λi=>b.contains i
theorem Sub.mem(h:Sub a b=true)(i:Nat)(hi:i∈a):i∈b:=by
 have:=(List.all_eq_true.mp h) i hi;simpa using this
def R7:Sv:=λρ=>some (.nx ρ)
def dB(f g:Sv):Sv:=λρ=>(f ρ).bind λo=>match o with
 | .nx ρ'=>g ρ'
 | o=>some o
theorem FE(h:Sub O' O=true:=by rfl):eB X L O [] R7 O':=PSs.mono ER <| by
 rintro T σ H ⟨H0,A0,A,E,ρ,out,st,e,p⟩;cases e;obtain⟨A',q⟩:=st.shut (Sub.mem h);exact p A' σ H q
theorem QN(h:tS L O (dB f g) O' T σ H):ZI (tS L O f O2) (tS L O2 g O') T σ H:=by
 obtain⟨H0,A0,A,E,ρ,out,st,e,p⟩:=h;obtain⟨o,z,e⟩:=bind_some e;refine⟨H0,A0,A,E,ρ,o,st,z,?_⟩;cases o with
 | nx ρ'=>exact λA' B H' q=>⟨H0,A0,A',E,ρ',out,q,e,p⟩
 | rt d=>cases e;exact p
 | bk d=>cases e;exact p
 | ct d=>cases e;exact p
theorem JX{st:Stmt}{rest:List Stmt}{f g:Sv}(h1:jA X L O st f O2)(h2:eB X L O2 rest g O'):eB X L O (st::rest) (dB f g) O':=PSs.mono (dN h1 h2) λT σ H h=>QN h
theorem aN{st:Stmt}{f:Sv}(h1:jA X L O st f O'):eB X L O [st] f O':=iS h1
def JD(f:Ev):Sv:=λρ=>(f ρ).map .rt
theorem OV{e:Expr}{pos:Pos}{f:Ev}(q:PD X O e f):jA X L O (.Return (some e) pos) (JD f) O':=PS.mono (MI q) <| by
 rintro T σ H ⟨H0,A0,A,E,ρ,out,st,e,p⟩;obtain⟨d,z,rfl⟩:=map_some e;exact⟨H0,A0,A,E,ρ,d,st,z,λv H' x r=>p v H' (st.mono x).ex (r.av λa B=>.inl (st.sub a B))⟩
def BD(c:Bv)(f g:Sv):Sv:=λρ=>(c ρ).bind λb=>if b=true then f ρ else g ρ
theorem CS{c:Expr}{a b:List Stmt}{pos:Pos}{g:Bv}{f k:Sv}(F:uM X O c g)(z:eB X L O a f O')(G:eB X L O b k O'):jA X L O (.If c a b pos) (BD g f k) O':=PS.mono (SE F z G) <| by
 rintro T σ H ⟨H0,A0,A,E,ρ,out,st,e,p⟩;obtain⟨b,B,e⟩:=bind_some e;refine⟨H0,A0,A,E,ρ,b,st,B,λH1 q=>?_⟩;cases b with
 | true=>rw[if_pos rfl]at e ⊢;exact⟨H0,A0,A,E,ρ,out,st.mono q,e,p⟩
 | false=>rw[if_neg zaB]at e ⊢;exact⟨H0,A0,A,E,ρ,out,st.mono q,e,p⟩
def dZ(i:Nat)(f:Ev):Sv:=λρ=>(f ρ).map λd=>.nx (ρ.set i (some d))
theorem Sub.er{a b:List Nat}{i j:Nat}(h:Sub a (b.filter (· != i))=true)(q:j∈a):j∈b/\j≠i:=by
 have:=Sub.mem h j q;rw[List.mem_filter]at this;exact⟨this.1,by simpa using this.2⟩
theorem FN{i:Nat}{x:Str}{e:Expr}{pos pos':Pos}{f:Ev}(J:X.N.Nodup)(hi:X.N[i]?=some x)(hx:Loc X.env.scope x)(U:PD X O e f)(h:Sub O' (O.filter (· != i))=true:=by rfl)
  (hs:zaD e (some (.Name x pos')) pos.line X.env=pure false:=by rfl) (M:X.fn x=true\/X.env.scope.names.lookup x=some .local:=by first|exact .inl rfl|exact .inr rfl):jA X L O (.Assign [.Name x pos'] e pos) (dZ i f) O':=
 PS.mono (M4 J hi hx U hs M) <| by
  rintro T σ H ⟨H0,A0,A,E,ρ,out,st,e,p⟩;obtain⟨d,G,rfl⟩:=map_some e;refine⟨H0,A0,A,E,ρ,d,st,G,λv H' x r=>?_⟩
  -- i leaves what may be written ahead of the store: the value is borne by fewer too
  have F:=(st.mono x).more r;obtain⟨A',B⟩:=F.shut (O':=O') λj W=>(Sub.er h W).1
  exact p A' _ H' ((B.put (B.ext _ (zat ..)) λz=>(Sub.er h z).2 rfl).less λq Y=>zap _ Y)
theorem Own.there:Own A H d a->H a≠none
 | .lst h _=>by rw[h];exact λz=>nomatch z
 | .dK h _ _=>by rw[h];exact λz=>nomatch z
 | .dT h _ _=>by rw[h];exact λz=>nomatch z
theorem ST.own_put(s:ST H0 A0 A E O σ H ρ)(x:Ext A H H')(n:H a=none)(na:¬ A a)(o:Own (λb=>A b\/b=a) H' d a)(ni:i∉O) :
  ST H0 A0 (λb=>A b\/b=a) E (i::O) (σ.set i (some (.ref a))) H' (ρ.set i (some d)):=by
 have s':=s.mono x;have n0:H0 a=none:=s.ex.free n
 -- whatever was borne ahead avoids a
 have G:Ext (λb=>A b\/b=a) H H':=⟨x.rd,x.kp,λb u q e=>q.elim (λq=>x.ow b u q e) λq=>(by subst q;rw[n]at e;exact nomatch e),x.fz⟩;have aa:∀ {p:Fact},p.Holds A H->p.Holds (λb=>A b\/b=a) H':=λr=>Fact.ext G (Fact.av (A':=λb=>A b\/b=a) (λb q=>by
   rcases q with q|q
   ·exact .inl q
   ·exact .inr (q ▸ n)) r)
 have up:∀ {d:D} {v:V},Rep A H d v->Rep (λb=>A b\/b=a) H' d v:=λr=>by
  have r1:Rep (λb=>A b\/b=a) H _ _:=r.av λb q=>by
   rcases q with q|q
   ·exact .inl q
   ·exact .inr (q ▸ n)
  exact r1.ext G
 have Y:∀ {d:D} {b:Addr},A b->Own A H d b->Own (λc=>A c\/c=a) H' d b:=λq r=>by
  have r1:Own (λc=>A c\/c=a) H _ _:=r.av λb q=>by
   rcases q with q|q
   ·exact .inl q
   ·exact .inr (q ▸ n)
  exact r1.ext G (.inl q)
 have ha:H' a≠none:=o.there;refine⟨s'.ex,λb q=>.inl (s.sub b q),s.l0,λb q=>?_,by simp[s.len],λj d' h' N=>?_,λj d' h' N=>?_,λj k M d2 b W hk h1 h2 F U=>?_,λp hp=>aa (s.ext p hp)⟩
 ·rcases q with q|q
  ·exact s'.live b q
  ·subst q;exact ha
 ·rcases eM h' with⟨e,B,l⟩|⟨e,B⟩
  ·exact absurd (List.mem_cons.mpr (.inl e)) N
  ·obtain⟨w,h1,h2⟩:=s.val j d' B λz=>N (zap _ z)
   exact⟨w,by rw[lK e];exact h1,up h2⟩
 ·rcases eM h' with⟨e,B,l⟩|⟨e,B⟩
  ·subst e;cases B
   exact⟨a,sig_set (by rw[s.len];exact l),.inr rfl,n0,o⟩
  ·rcases List.mem_cons.mp N with z|z
   ·exact absurd z e
   ·obtain⟨w,h1,h2,F,U⟩:=s.own j d' B z
    exact⟨w,by rw[lK e];exact h1,.inl h2,F,Y h2 U⟩
 ·have J:∀ {j:Nat} {M:D},j∈i::O->(ρ.set i (some d))[j]?=some (some M)->(σ.set i (some (.ref a)))[j]?=some (some (.ref b))->(j=i/\b=a)\/(j≠i/\j∈O/\ρ[j]?=some (some M)/\σ[j]?=some (some (.ref b))/\b≠a):=by
   intro j M W h1 F;rcases eM h1 with⟨e,B,l⟩|⟨e,B⟩
   ·subst e
    rw[sig_set (by rw[s.len];exact l)]at F;cases F;exact .inl ⟨rfl,rfl⟩
   ·rcases List.mem_cons.mp W with z|z
    ·exact absurd z e
    ·rw[lK e]at F
     obtain⟨w,q1,q2,_⟩:=s.own j M B z;rw[F]at q1;cases q1;exact .inr ⟨e,z,B,F,λz=>na (z ▸ q2)⟩
  rcases J W h1 F with⟨e1,B⟩|⟨e1,B,e3,e4,e5⟩
  ·rcases J hk h2 U with⟨f1,f2⟩|⟨f1,f2,f3,f4,f5⟩
   ·rw[e1,f1]
   ·exact absurd B f5
  ·rcases J hk h2 U with⟨f1,f2⟩|⟨f1,f2,f3,f4,f5⟩
   ·exact absurd f2 e5
   ·exact s.inj j k M d2 b B f2 e3 f3 e4 f4
theorem KY{i:Nat}{x:Str}{e:Expr}{pos pos':Pos}{f:Ev}(J:X.N.Nodup)(hi:X.N[i]?=some x)(hx:Loc X.env.scope x)(U:PF X O e f)(h:Sub O' (i::O)=true:=by rfl)(B:O.contains i=false:=by rfl)
  (hs:zaD e (some (.Name x pos')) pos.line X.env=pure false:=by rfl) (M:X.fn x=true\/X.env.scope.names.lookup x=some .local:=by first|exact .inl rfl|exact .inr rfl):jA X L O (.Assign [.Name x pos'] e pos) (dZ i f) O':=
 PS.mono (M4 J hi hx U hs M) <| by
  rintro T σ H ⟨H0,A0,A,E,ρ,out,st,e,p⟩;obtain⟨d,G,rfl⟩:=map_some e;refine⟨H0,A0,A,E,ρ,d,st,G,λa H' x n Y o=>?_⟩;have W:i∉O:=λz=>by
   have:O.contains i=true:=by simpa using z
   rw[B]at this;cases this
  obtain⟨F,q⟩:=(st.own_put x n Y o W).shut (Sub.mem h);exact p F _ H' q
theorem ST.write(s:ST H0 A0 A E O σ H ρ)(hi:ρ[i]?=some (some d))(hO:i∈O)(hs:σ[i]?=some (some (.ref a)))(U:A a)(h0:H0 a=none)(hu:H a=some u)(W:W6 u)(hn:Own A (upd H a o) d' a) :
  ST H0 A0 A E O σ (upd H a o) (ρ.set i (some d')):=by
 have B:∀b,H0 b≠none->b≠a:=λb hb z=>hb (z ▸ h0)
 refine⟨⟨λb w r=>?_,λb xs k r=>?_,λb w n r=>?_,λb q w r=>?_⟩,s.sub,s.l0,λb hb=>?_,by simp[s.len],λj J h' G=>?_,λj J h' G=>?_,λj k N J b hj hk h1 h2 Y h4=>?_,λp hp=>Fact.put U hu W (s.ext p hp)⟩
 ·refine eP (B b ?_) (s.ex.rd b w r)
  rcases r with r|⟨_,r⟩ <;> (rw[r];exact λz=>nomatch z)
 ·rw[aE (B b (by rw[r];exact λz=>nomatch z))];exact s.ex.kp b xs k r
 ·rw[aE (B b (by rw[r];exact λz=>nomatch z))];exact s.ex.ow b w n r
 ·rw[aE (B b (by rw[r];exact λz=>nomatch z))];exact s.ex.fz b q w r
 ·by_cases e:b=a
  ·subst e;rw[aG];exact λz=>nomatch z
  ·rw[aE e];exact s.live b hb
 ·rcases eM h' with⟨e,F,l⟩|⟨e,F⟩
  ·subst e;exact absurd hO G
  ·obtain⟨w,h1,h2⟩:=s.val j J F G
   exact⟨w,h1,h2.put U hu W⟩
 ·rcases eM h' with⟨e,F,l⟩|⟨e,F⟩
  ·subst e;cases F;exact⟨a,hs,U,h0,hn⟩
  ·obtain⟨b,h1,h2,Y,h4⟩:=s.own j J F G
   refine⟨b,h1,h2,Y,h4.put U hu W λz=>?_⟩;subst z;exact e (s.inj j i J d b G hO F hi h1 hs)
 ·have M:∀ {j:Nat} {N:D},(ρ.set i (some d'))[j]?=some (some N)->∃d0,ρ[j]?=some (some d0):=by
   intro j N h;rcases eM h with⟨e,_,_⟩|⟨_,e⟩
   ·subst e;exact⟨d,hi⟩
   ·exact⟨N,e⟩
  obtain⟨x,hx⟩:=M h1;obtain⟨y,hy⟩:=M h2;exact s.inj j k x y b hj hk hx hy Y h4
noncomputable def mem(O:List Nat)(i:Nat):Bool:=O.contains i
theorem gR(h:mem O i=true):i∈O:=by simpa[mem]using h
def IR(i:Nat)(f:Ev):Sv:=λρ=>(aD i ρ).bind λx=>match x with
 | .lst l=>(f ρ).bind λd=>if a7 l.length then some (.nx (ρ.set i (some (.lst (l++[d])))))else none
 | _=>none
theorem BR{o e:Expr}{i:Nat}{apos cpos pos:Pos}{f:Ev}(Y:PE X o (cZ i))(he:PD X O e f)(J:mem O i=true)(U:PE X (.Call (.Attribute o "append" apos) [e] [] cpos) (Z7 X.K "list" DZ (cZ i) (vV (tD Rep O f) RV)))
  (hs:zaD (.Call (.Attribute o "append" apos) [e] [] cpos) none pos.line X.env=pure false:=by rfl) (h:Sub O' O=true:=by rfl):jA X L O (.Expr (.Call (.Attribute o "append" apos) [e] [] cpos) pos) (IR i f) O':=
 PS.mono (wK U hs) <| by
  rintro T σ H ⟨H0,A0,A,E,ρ,out,st,e,p⟩;obtain⟨x,ex,e⟩:=bind_some e;cases x with
  | lst l=>
   obtain⟨d,M,e⟩:=bind_some e;by_cases z:a7 l.length=true
   ·rw[if_pos z]at e
    cases e;obtain⟨a,F,q,W,N⟩:=st.own i _ (bW ex) (gR J);cases N with
    | lst h4 r4=>
     refine⟨_,F,.inl ⟨rfl,_,SqL.of h4⟩,H0,A0,A,E,ρ,d,st,M,λv H' x r=>⟨a,_,v,rfl,rfl,x.ow _ _ q h4,by rw[r4.length];exact iQ z,?_⟩⟩;have G:=x.ow _ _ q h4;obtain⟨A',B⟩:=((st.mono x).write (o:=.lst _) (bW ex) (gR J) F q W G trivial (.lst aG (((r4.ext x).append (.cons r .nil)).put q G trivial))).shut (Sub.mem h);exact p A' σ _ B
   ·rw[if_neg z]at e;cases e
  | _=>exact nn e
def W1:D->Option Key
 | .int i=>some (.inl i)
 | .str x=>some (.inr x)
 | _=>none
def NQ:List D->Option (List Key)
 | []=>some []
 | d::ds=>(W1 d).bind λk=>(NQ ds).bind λks=>some (k::ks)
def TC:D->Option (List Key)
 | .tup l=>NQ l
 | _=>none
noncomputable def eX{κ:Type}[DecidableEq κ](l:List (κ×D))(k:κ):Option D:=(l.find? λp=>decide (p.1=k)).map (·.2)
noncomputable def putD{κ:Type}[DecidableEq κ](l:List (κ×D))(k:κ)(d:D):List (κ×D):=if l.any (λp=>decide (p.1=k))then l.map (λp=>if p.1=k then(p.1,d)else p)else l++[(k,d)]
end
section
variable {A:Av}{H:Hp}
section
variable {κ:Type}[DecidableEq κ]
abbrev PP(A:Av)(H:Hp):List (κ×D)->List (κ×V)->Prop:=Paired λ(p:κ×D) (q:κ×V)=>p.1=q.1/\Rep A H p.2 q.2
theorem tX:∀ {l:List (κ×D)} {xs:List (κ×V)},xs.map (·.1)=l.map (·.1)->RepL A H (l.map (·.2)) (xs.map (·.2))->PP A H l xs
 | [],[],_,_=>.nil
 | [],_::_,e,_=>by cases e
 | _::_,[],e,_=>by cases e
 | p::l,q::xs,e,r=>by
  rw[zak,zak]at e r;injection e with e1 e2
  cases r with
  | cons h t=>exact .cons ⟨e1.symm,h⟩ (tX e2 t)
theorem vP:∀ {l:List (κ×D)} {xs:List (κ×V)},PP A H l xs->xs.map (·.1)=l.map (·.1)/\RepL A H (l.map (·.2)) (xs.map (·.2))
 | _,_,.nil=>⟨rfl,.nil⟩
 | _,_,.cons h t=>by
  obtain⟨e,r⟩:=vP t;exact⟨by rw[zak,zak,h.1,e],.cons h.2 r⟩
theorem MK(k:κ)(h:PP A H l xs):(eX l k=none/\nH xs k=none)\/∃d v,eX l k=some d/\nH xs k=some v/\Rep A H d v:=by
 induction h with
 | nil=>exact .inl ⟨rfl,rfl⟩
 | @cons p q l xs h t ih=>
  by_cases e:p.1=k
  ·refine .inr ⟨p.2,q.2,?_,mU (h.1 ▸ e),h.2⟩
   simp[eX,zbA,e]
  ·have B:¬ q.1=k:=λz=>e (h.1.trans z)
   have a:eX (p::l) k=eX l k:=by simp[eX,zbA,e]
   rw[a,mV B];exact ih
theorem UE(k:κ)(h:PP A H l xs):(l.any λp=>decide (p.1=k))=xs.any λp=>decide (p.1=k):=by
 induction h with
 | nil=>rfl
 | cons h t ih=>rw[zb8,zb8,ih,h.1]
theorem WB(k:κ)(r:Rep A H d v)(h:PP A H l xs):PP A H (l.map λp=>if p.1=k then(p.1,d)else p) (xs.map λp=>if p.1=k then(p.1,v)else p):=by
 induction h with
 | nil=>exact .nil
 | @cons p q l xs h t ih=>
  rw[zak,zak];refine .cons ?_ ih;by_cases e:p.1=k
  ·rw[if_pos e,if_pos (h.1 ▸ e)];exact⟨h.1,r⟩
  ·rw[if_neg e,if_neg (λz=>e (h.1.trans z))];exact h
theorem V2(h:PP A H l xs)(h':PP A H m ys):PP A H (l++m) (xs++ys):=by
 induction h with
 | nil=>exact h'
 | cons h t ih=>exact .cons h ih
theorem tP(k:κ)(r:Rep A H d v)(h:PP A H l xs):PP A H (putD l k d) (putK xs k v):=by
 unfold putD putK;rw[UE k h];by_cases e:(xs.any λp=>decide (p.1=k))=true
 ·rw[if_pos e,if_pos e];exact WB k r h
 ·rw[if_neg e,if_neg e];exact V2 h (.cons ⟨rfl,r⟩ .nil)
end
theorem qA(h:W1 d=some k)(r:RepB A H d v):v=kV k:=by
 cases d <;> cases h
 ·exact r.int_inv
 ·exact r.str_inv
theorem y6:∀ {ds:List D} {ks:List Key} {vs:List V},NQ ds=some ks->RepL A H ds vs->vs=ks.map kV
 | _,_,_,h,.nil=>by cases h;rfl
 | _,_,_,h,.cons r t=>by
  obtain⟨k,z,h⟩:=bind_some h;obtain⟨ks,q,h⟩:=bind_some h;cases h;rw[zak,qA z (.of r),y6 q t]
theorem pX(h:TC d=some k)(r:RepB A H d v):∃b,v=.ref b/\H b=some (.tup (k.map kV)):=by
 cases d <;> try cases h
 rename_i l;obtain⟨a,xs,rfl,h1,h2⟩:=r.tup_inv;exact⟨a,rfl,by rw[h1,y6 h h2]⟩
def nF:D->D->Option (Option D)
 | .dK l,k=>(W1 k).map λk=>eX l k
 | .dT l,k=>(TC k).map λk=>eX l k
 | _,_=>none
theorem sN{d k:D}{x y:V}{o:Option D}(h:nF d k=some o)(J:RepB A H d x)(G:RepB A H k y):∃a F,x=.ref a/\IsD H a/\DGet H a y F/\((o=none/\F=none)\/∃z v,o=some z/\F=some v/\Rep A H z v):=by
 cases d with
 | dK l=>
  obtain⟨q,B,rfl⟩:=map_some h;obtain⟨a,xs,rfl,h1,e,r⟩:=J.dK_inv;have:=qA B G;subst this;refine⟨a,_,rfl,.inl ⟨xs,h1⟩,.inl ⟨xs,q,h1,rfl,rfl⟩,MK q (tX e r)⟩
 | dT l=>
  obtain⟨q,B,rfl⟩:=map_some h;obtain⟨a,xs,rfl,h1,e,r⟩:=J.dT_inv;obtain⟨b,rfl,M⟩:=pX B G;exact⟨a,_,rfl,.inr ⟨xs,h1⟩,.inr ⟨xs,q,b,h1,rfl,M,rfl⟩,MK q (tX e r)⟩
 | _=>exact nn h
end
section
variable {X:Cx}{O O':List Nat}{L:Lp}
theorem PE.or(h:PE X e t)(k:PE X e u):PE X e (λσ H Q=>t σ H Q\/u σ H Q):=λpins s σ H Q I w=>w.elim (h pins s σ H Q I) (k pins s σ H Q I)
def aI(d k:D):Option D:=match d with
 | .dK _=>(nF d k).join
 | .dT _=>(nF d k).join
 | _=>qo d k
theorem qT{q:Type}{o:Option (Option q)}{d:q}(h:o.join=some d):o=some (some d):=by
 cases o with
 | none=>cases h
 | some o=>cases o with
  | none=>cases h
  | some x=>cases h;rfl
theorem yQ{G fb:Ev}{σ:L2.St}{H:Hp}{Q:VK}(h:tD Rep O (bC (λd k=>(nF d k).join) G fb) σ H Q):SM (tD RepB O G) (tD RepB O fb) σ H Q:=by
 obtain⟨H0,A0,A,E,ρ,d,st,e,q⟩:=h;obtain⟨x,ex,e⟩:=bind_some e;obtain⟨y,N,e⟩:=bind_some e;refine⟨H0,A0,A,E,ρ,x,st,ex,λv H1 F r1=>⟨H0,A0,A,E,ρ,y,st.mono F,N,λw H2 M r2=>?_⟩⟩;obtain⟨a,Y,U,_,g,B⟩:=sN (qT e) (r1.ext M) r2;rcases B with⟨B,_⟩|⟨z,J,B,W,r3⟩
 ·cases B
 ·cases B;subst W
  exact⟨a,J,U,g,q J H2 (F.trans M) r3⟩
theorem O7(M:X.A.units+1<cLine)(F:PB X O a fa)(G:PB X O b fb)(hs:xB b):PD X O (.Subscript a b pos) (bC aI fa fb):=
 PE.mono (PE.or (X7 qr F G hs) (FP M F G hs)) <| by
  rintro σ H Q ⟨H0,A0,A,E,ρ,d,st,e,q⟩;obtain⟨x,ex,B⟩:=bind_some e;obtain⟨y,J,B⟩:=bind_some B;have z:∀g:D->D->Option D,g x y=some d->tD Rep O (bC g fa fb) σ H Q:=λg h=>⟨H0,A0,A,E,ρ,d,st,by unfold bC;rw[ex,J];exact h,q⟩
  cases x with
  | dK l=>exact .inr (yQ (z _ B))
  | dT l=>exact .inr (yQ (z _ B))
  | _=>exact .inl (xP (z qo B))
def lS(d k e:D):Option D:=match d with
 | .dK l=>(W1 k).bind λk=>if a7 l.length then some (.dK (putD l k e))else none
 | .dT l=>(TC k).bind λk=>if a7 l.length then some (.dT (putD l k e))else none
 | .lst l=>(W5 k).bind λk=>(NY l.length k).map λj=>.lst (l.set j e)
 | _=>none
def DF(i:Nat)(fk fe:Ev):Sv:=λρ=>(fe ρ).bind λe=>(aD i ρ).bind λx=>(fk ρ).bind λk=>(lS x k e).map λd=>.nx (ρ.set i (some d))
theorem PS.or{st:Stmt}{t u:TS}(h:PS X st t)(k:PS X st u):PS X st (λT σ H=>t T σ H\/u T σ H):=λpins s σ H T I w=>w.elim (h pins s σ H T I) (k pins s σ H T I)
theorem OT{o k value:Expr}{i:Nat}{pos pos':Pos}{fk fe:Ev}(B:X.A.units+1<cLine)(ho:PE X o (cZ i))(hk:PB X O k fk)(hv:PD X O value fe)(hO:mem O i=true)(h:Sub O' O=true:=by rfl)
  (hs:zaD value (some (.Subscript o k pos')) pos.line X.env=pure false:=by rfl) (ai:zc7 [.Subscript o k pos'] value pos.line X.env=pure false:=by rfl) (hw:zc8 [.Subscript o k pos'] value X.env=pure none:=by rfl)
  (hg:∀ {to ti:TE} {t:NG},PE X o to->PE X k ti->RO X t->PG X (.Subscript o k pos') (WO to ti t):=by intro _ _ _ a b c;exact MA a b c) :
  jA X L O (.Assign [.Subscript o k pos'] value pos) (DF i fk fe) O':=
 PS.mono (PS.or (wJ B ho hk hv hs) (LW hv (hg ho hk set_list) ai hw)) <| by
  rintro T σ H ⟨H0,A0,A,E,ρ,out,st,e,p⟩;obtain⟨z,ez,e⟩:=bind_some e;obtain⟨x,ex,e⟩:=bind_some e;obtain⟨y,ey,e⟩:=bind_some e;obtain⟨d,ed,rfl⟩:=map_some e;obtain⟨a,W,J,e3,e4⟩:=st.own i _ (bW ex) (gR hO);cases x with
  | dK l=>
   obtain⟨Y,e5,G⟩:=bind_some ed;by_cases U:a7 l.length=true
   ·rw[if_pos U]at G;cases G
    refine .inl ⟨H0,A0,A,E,ρ,z,st,ez,λv H1 M r1=>⟨_,W,H0,A0,A,E,ρ,y,st.mono M,ey,λw H2 N r2=>?_⟩⟩;have q:=M.trans N;cases e4 with
    | @dK _ _ xs h4 ee r4=>
     have B:=q.ow _ _ J h4;have hl:xs.length=l.length:=by have:=congrArg zbo ee;simpa using this
     have:=qA e5 r2;subst this;refine⟨a,_,rfl,DPut.k B (by rw[hl];exact iQ U),?_⟩;obtain⟨e7,r7⟩:=vP (tP Y (r1.ext N) (tX ee (r4.ext q)));obtain⟨A',F⟩:=((st.mono q).write (o:=.dK _) (bW ex) (gR hO) W J e3 B trivial (.dK aG e7 (r7.put J B trivial))).shut (Sub.mem h);exact p A' σ _ F
   ·rw[if_neg U]at G;cases G
  | dT l=>
   obtain⟨Y,e5,G⟩:=bind_some ed;by_cases U:a7 l.length=true
   ·rw[if_pos U]at G;cases G
    refine .inl ⟨H0,A0,A,E,ρ,z,st,ez,λv H1 M r1=>⟨_,W,H0,A0,A,E,ρ,y,st.mono M,ey,λw H2 N r2=>?_⟩⟩;have q:=M.trans N;cases e4 with
    | @dT _ _ xs h4 ee r4=>
     have B:=q.ow _ _ J h4;have hl:xs.length=l.length:=by have:=congrArg zbo ee;simpa using this
     obtain⟨b,rfl,hb⟩:=pX e5 r2;refine⟨a,_,rfl,DPut.t B hb (by rw[hl];exact iQ U),?_⟩;obtain⟨e7,r7⟩:=vP (tP Y (r1.ext N) (tX ee (r4.ext q)));obtain⟨A',F⟩:=((st.mono q).write (o:=.dT _) (bW ex) (gR hO) W J e3 B trivial (.dT aG e7 (r7.put J B trivial))).shut (Sub.mem h);exact p A' σ _ F
   ·rw[if_neg U]at G;cases G
  | lst l=>
   obtain⟨Y,e5,G⟩:=bind_some ed;obtain⟨j,e7,rfl⟩:=map_some G;refine .inr ⟨H0,A0,A,E,ρ,z,st,ez,λv H1 M r1=>⟨_,W,H0,A0,A,E,ρ,y,st.mono M,ey,λw H2 N r2=>?_⟩⟩;have q:=M.trans N;cases e4 with
   | @lst _ _ xs h4 r4=>
    have B:=q.ow _ _ J h4;rw[AL e5]at r2;have:=r2.int_inv;subst this;refine⟨a,xs,Y,j,rfl,rfl,B,by rw[r4.length];exact e7,?_⟩;obtain⟨A',F⟩:=((st.mono q).write (o:=.lst _) (bW ex) (gR hO) W J e3 B trivial (.lst aG (((r4.ext q).set j (r1.ext N)).put J B trivial))).shut (Sub.mem h);exact p A' σ _ F
  | _=>cases ed
noncomputable def JF(g:Int->Int->Option D):D->D->Option D
 | .int i,.int j=>g i j
 | _,_=>none
theorem sW(h:JF g x y=some d):∃i j,x=.int i/\y=.int j/\g i j=some d:=by
 cases x with
 | int i=>
  cases y with
  | int j=>exact⟨_,_,rfl,rfl,h⟩
  | _=>exact nn h
 | _=>exact nn h
theorem tR{f:Value->Value->Sem Value}{C:Int->Int->Prop}[∀i j,Decidable (C i j)]{g:Int->Int->Int}(h:OpR X f (rI C λi j=>.int (g i j))):kO X f (JF λi j=>if C i j then some (.int (g i j))else none):=
 OpR.mono h <| by
  rintro x y H Q ⟨A,dx,J,d,M,G,F,e,q⟩;obtain⟨i,j,rfl,rfl,z⟩:=sW e;have:=G.int_inv;subst this;have:=F.int_inv;subst this;by_cases B:C i j
  ·rw[if_pos B]at z;cases z
   exact⟨i,j,rfl,rfl,B,q _ H (Ext.refl _ _) (.int _)⟩
  ·rw[if_neg B]at z;cases z
theorem QY{f:Value->Value->Sem Value}{g:Int->Int->Int}(h:OpR X f (R6 λi j=>.int (g i j))):kO X f (JF λi j=>some (.int (g i j))):=
 OpR.mono h <| by
  rintro x y H Q ⟨A,dx,F,d,G,z,B,e,q⟩;obtain⟨i,j,rfl,rfl,e⟩:=sW e;have:=z.int_inv;subst this;have:=B.int_inv;subst this;cases e;exact⟨i,j,rfl,rfl,q _ H (Ext.refl _ _) (.int _)⟩
theorem LN{f:Value->Value->Sem Value}{g:Int->Int->Bool}(h:OpR X f (R6 λi j=>.bl (g i j))):kO X f (JF λi j=>some (.bl (g i j))):=
 OpR.mono h <| by
  rintro x y H Q ⟨A,dx,F,d,G,z,B,e,q⟩;obtain⟨i,j,rfl,rfl,e⟩:=sW e;have:=z.int_inv;subst this;have:=B.int_inv;subst this;cases e;exact⟨i,j,rfl,rfl,q _ H (Ext.refl _ _) (.bl _)⟩
instance:∀i j,Decidable (My.DK i j):=λi j=>by unfold My.DK;infer_instance
instance:∀i j,Decidable (RY i j):=λi j=>by unfold RY;infer_instance
instance:∀i j,Decidable (RQ i j):=λi j=>by unfold RQ;infer_instance
def ZZ:D->D->Option D:=JF λi j=>some (.int (i-j))
def F7:D->D->Option D:=JF λi j=>if My.DK i j then some (.int (i*j))else none
def dE:D->D->Option D:=JF λi j=>if 0<j then some (.int (i%j))else none
def hW:D->D->Option D:=JF λi j=>if RY i j then some (.int (i/j))else none
def NJ:D->D->Option D:=JF λi j=>if RQ i j then some (.int (i^j.toNat))else none
def A8:D->D->Option D:=JF λi j=>some (.bl (decide (j<i)))
theorem VG:kO X (zaM .Sub) ZZ:=QY VJ
theorem U2:kO X (zaM .Mult) F7:=tR My.RG
theorem gS:kO X (zaM .Mod) dE:=tR V0
theorem CW:kO X (zaM .FloorDiv) hW:=tR N6
theorem UU:kO X (zaM .Pow) NJ:=tR V5
theorem XZ:kO X (zaA .Gt) A8:=LN XR
def WS(f:Ev):Ev:=λρ=>(f ρ).bind λd=>(W5 d).map λi=>.int (-i)
end
section
variable {X:Cx}{L:Lp}{O O':List Nat}
def R0:Sv:=λ_=>none
theorem HN{st:Stmt}:jA X L O st R0 O':=λ_ _ _ _ _ _ ⟨_,_,_,_,_,_,_,e,_⟩=>nomatch e
abbrev Gv:=D->cU->Option cU
inductive tDG(O:List Nat)(g:Gv)(v:V)(σ:L2.St)(H:Hp)(Q:L2.St->Hp->Prop):Prop
 | mk (H0:Hp) (A0 A:Av) (E:List Fact) (ρ:cU) (d:D) (ρ':cU) (st:ST H0 A0 A E O σ H ρ) (r:Rep A H d v) (e:g d ρ=some ρ') (q:∀σ',ST H0 A0 A E O σ' H ρ'->Q σ' H):tDG O g v σ H Q
def BA(X:Cx)(O:List Nat)(tg:Expr)(g:Gv):Prop:=PG X tg (tDG O g)
abbrev TH:=List D->cU->Option cU
inductive tDGs(O:List Nat)(g:TH)(vs:List V)(σ:L2.St)(H:Hp)(Q:L2.St->Hp->Prop):Prop
 | mk (H0:Hp) (A0 A:Av) (E:List Fact) (ρ:cU) (ds:List D) (ρ':cU) (st:ST H0 A0 A E O σ H ρ) (r:RepL A H ds vs) (e:g ds ρ=some ρ') (q:∀σ',ST H0 A0 A E O σ' H ρ'->Q σ' H):tDGs O g vs σ H Q
def DD(X:Cx)(O:List Nat)(q:List Expr)(g:TH):Prop:=PGs X q (tDGs O g)
theorem PG.mono(h:PG X tg t)(x:∀v σ H Q,t' v σ H Q->t v σ H Q):PG X tg t':=λpins s σ H v u Q I r w=>h pins s σ H v u Q I r (x v σ H Q w)
theorem PGs.mono(h:PGs X ts t)(x:∀v σ H Q,t' v σ H Q->t v σ H Q):PGs X ts t':=λpins s σ H v u Q I r w=>h pins s σ H v u Q I r (x v σ H Q w)
def aQ(i:Nat):Gv:=λd ρ=>some (ρ.set i (some d))
theorem mP(h:PG X tg (i5 i))(n:O.contains i=false:=by rfl):BA X O tg (aQ i):=PG.mono h <| by
 rintro v σ H Q ⟨H0,A0,A,E,ρ,d,ρ',st,r,e,q⟩;cases e;exact q _ (st.put r λz=>by
  have:O.contains i=true:=by simpa using z
  rw[n]at this;cases this)
def tW:TH:=λds ρ=>match ds with
 | []=>some ρ
 | _=>none
def eA(g:Gv)(k:TH):TH:=λds ρ=>match ds with
 | d::ds=>(g d ρ).bind λρ'=>k ds ρ'
 | _=>none
theorem LJ:DD X O [] tW:=PGs.mono QL <| by
 rintro v σ H Q ⟨H0,A0,A,E,ρ,ds,ρ',st,r,e,q⟩;cases r with
 | nil=>cases e;exact⟨rfl,q _ st⟩
 | cons _ _=>cases e
theorem g8(G:∀ {t:TG} {u:TJ},PG X e t->PGs X es u->PGs X (e::es) (SF t u))(h1:BA X O e g)(h2:DD X O es k):DD X O (e::es) (eA g k):=
 PGs.mono (G h1 h2) <| by
  rintro v σ H Q ⟨H0,A0,A,E,ρ,ds,ρ',st,r,e,q⟩;cases r with
  | nil=>cases e
  | cons h t=>
   obtain⟨z,F,e⟩:=bind_some e;exact⟨_,_,rfl,H0,A0,A,E,ρ,_,z,st,h,F,λJ B=>⟨H0,A0,A,E,z,_,ρ',B,t,e,q⟩⟩
def kS(n:Nat)(k:TH):Gv:=λd ρ=>match d with
 | .tup l=>if l.length=n then k l ρ else none
 | _=>none
theorem FC(F:PG X tg (ZN X.K n (tDGs O k))):BA X O tg (kS n k):=PG.mono F <| by
 rintro v σ H Q ⟨H0,A0,A,E,ρ,d,ρ',st,r,e,q⟩;cases d with
 | tup l=>
  obtain⟨a,xs,rfl,h,B⟩:=RepB.tup_inv (.of r);by_cases z:l.length=n
  ·simp only[kS,if_pos z]at e
   exact⟨a,xs,rfl,.inl (.inl h),by rw[B.length];exact z,H0,A0,A,E,ρ,l,ρ',st,B,e,q⟩
  ·simp only[kS,if_neg z]at e;cases e
 | _=>exact nn e
def RS(f:Ev)(g:Gv):Sv:=λρ=>(f ρ).bind λd=>(g d ρ).map .nx
theorem mW(M:PD X O e f)(G:BA X O tg g)(hs:zc7 [tg] e pos.line X.env=pure false:=by rfl)(hw:zc8 [tg] e X.env=pure none:=by rfl)(h:Sub O' O=true:=by rfl)(h1:(za1 [tg] X.env).map (·.2)=[zbe tg X.env]:=by rfl)(h1:(za1 [tg] X.env).map (·.2)=[zbe tg X.env]:=by rfl)(h1:(za1 [tg] X.env).map (·.2)=[zbe tg X.env]:=by rfl)(h1:(za1 [tg] X.env).map (·.2)=[zbe tg X.env]:=by rfl):jA X L O (.Assign [tg] e pos) (RS f g) O':=
 PS.mono (LW M G hs hw h1) <| by
  rintro T σ H ⟨H0,A0,A,E,ρ,out,st,e,p⟩;obtain⟨d,F,e⟩:=bind_some e;obtain⟨ρ',J,rfl⟩:=map_some e;refine⟨H0,A0,A,E,ρ,d,st,F,λv H' x r=>⟨H0,A0,A,E,ρ,d,ρ',st.mono x,r,J,λz B=>?_⟩⟩;obtain⟨A',q⟩:=B.shut (Sub.mem h);exact p A' z H' q
def IY(J:It)(q:List Fact)(items:List D):Prop:=
 ∀(A:Av) (H:Hp),Live A H->(∀p∈q,p.Holds A H)->∀i,(items.length<=i->J.stop i H)/\∀d,items[i]?=some d->J.go i H/\∀x H',J.yld i H x H'->Ext A H H'/\Rep A H' d x
inductive tDI(O:List Nat)(f:Lv)(σ:L2.St)(H:Hp)(R:It->Hp->Prop):Prop
 | mk (H0:Hp) (A0 A:Av) (E:List Fact) (ρ:cU) (items:List D) (st:ST H0 A0 A E O σ H ρ) (e:f ρ=some items) (q:∀J H' E1,Ext A H H'->(∀p∈E1,p.Holds A H')->IY J E1 items->R J H'):tDI O f σ H R
def PDI(X:Cx)(O:List Nat)(tg e:Expr)(f:Lv):Prop:=PI X tg e (tDI O f)
theorem PI.mono(h:PI X tg e t)(x:∀σ H Q,t' σ H Q->t σ H Q):PI X tg e t':=λpins s σ H Q I w=>h pins s σ H Q I (x σ H Q w)
theorem PI.or(h:PI X tg e t)(k:PI X tg e u):PI X tg e (λσ H Q=>t σ H Q\/u σ H Q):=λpins s σ H Q I w=>w.elim (h pins s σ H Q I) (k pins s σ H Q I)
theorem Q6{a:Addr}{l:List D}{K:zae}:IY (Itl K a) [.rep (.lst l) (.ref a)] l:=by
 intro A H B h i;have r:Rep A H (.lst l) (.ref a):=h _ (List.mem_singleton.mpr rfl);obtain⟨F,xs,e,h1,q⟩:=RepB.lst_inv (.of r);cases e;refine⟨λhi=>⟨xs,.inl h1,by rw[q.length];exact hi⟩,λd hd=>?_⟩;obtain⟨v,z,r1⟩:=q.get' hd;refine⟨⟨xs,v,.inl h1,z⟩,λx H' y=>?_⟩;obtain⟨rfl,y⟩:=y;have:=y xs (.inl h1);rw[z]at this;cases this;exact⟨Ext.refl _ _,r1⟩
theorem V7{a:Addr}{l:List D}{K:zae}:IY (Itt K a) [.rep (.tup l) (.ref a)] l:=by
 intro A H B h i;have r:Rep A H (.tup l) (.ref a):=h _ (List.mem_singleton.mpr rfl);obtain⟨F,xs,e,h1,q⟩:=RepB.tup_inv (.of r);cases e;refine⟨λhi=>⟨xs,.inl (.inl h1),by rw[q.length];exact hi⟩,λd hd=>?_⟩;obtain⟨v,z,r1⟩:=q.get' hd;refine⟨⟨xs,v,.inl (.inl h1),z⟩,λx H' y=>?_⟩;obtain⟨rfl,y⟩:=y;have:=y xs (.inl (.inl h1));rw[z]at this;cases this;exact⟨Ext.refl _ _,r1⟩
noncomputable def aR(lo c:Int)(n:Nat):List D:=(zar n).map λ(i:Nat)=>.int (lo+(i:Int)*c)
theorem bI(lo c:Int)(n:Nat):(aR lo c n).length=n:=by simp[aR]
theorem bZ{lo c:Int}{n i:Nat}(h:(aR lo c n)[i]?=some d):i<n/\d=.int (lo+(i:Int)*c):=by
 unfold aR at h;rw[zaC]at h;by_cases hi:i<n
 ·rw[zcV hi]at h;cases h;exact⟨hi,rfl⟩
 ·rw[List.getElem?_eq_none (by simpa using hi)]at h;cases h
theorem KG{lo:Int}{n:Nat}:IY (qi lo n) [] (aR lo 1 n):=by
 intro A H q h i;refine⟨λhi=>by rw[bI]at hi;exact hi,λd hd=>?_⟩;obtain⟨hi,rfl⟩:=bZ hd;exact⟨hi,λx H' ⟨e,y⟩=>by subst e y;rw[Int.mul_one];exact⟨Ext.refl _ _,.int _⟩⟩
noncomputable def pJ(i:Int):Bool:=decide (-1000000<=i) && decide (i<=1000000)
def b7:List D->Option (List D)
 | [.int j]=>if pJ j then some (aR 0 1 j.toNat)else none
 | _=>none
theorem AG(h:pJ i=true):-(2^62)<=i/\i<2^62:=by
 simp only[pJ,zaQ,decide_eq_true_eq]at h
 lia
def lR(g:List D->Option (List D))(f:Lv):Lv:=λρ=>(f ρ).bind g
theorem RL.one(r:RL R A H [d] vs):∃v,vs=[v]/\R A H d v:=by
 cases r with|cons h t=>cases t;exact⟨_,rfl,h⟩
theorem RL.two(r:RL R A H [d,e] vs):∃v w,vs=[v,w]/\R A H d v/\R A H e w:=by
 cases r with|cons h t=>obtain⟨w,rfl,h2⟩:=RL.one t;exact⟨_,w,rfl,h,h2⟩
theorem v5(h:b7 ds=some l):∃j,ds=[.int j]/\pJ j=true/\l=aR 0 1 j.toNat:=by
 unfold b7 at h;split at h
 ·split at h
  ·cases h;exact⟨_,rfl,by assumption,rfl⟩
  ·cases h
 ·cases h
section
variable {tg a b c:Expr}{f:Lv}{p pos:Pos}
theorem BU(J:Gl X "range")(G:X.mg "range" = none)(F:vZ X O [a] f)(hs:zag [a] X.env=[(false,eval a X.env)]:=by rfl):PDI X O tg (.Call (.Name "range" p) [a] [] pos) (lR b7 f):=PI.mono (HD J G F hs) <| by
 rintro σ H R ⟨H0,A0,A,E,ρ,items,st,e,q⟩;obtain⟨ds,z,e⟩:=bind_some e;refine⟨H0,A0,A,E,ρ,ds,st,z,λvs H1 B r1=>?_⟩;obtain⟨j,rfl,h,rfl⟩:=v5 e;obtain⟨v,rfl,h1⟩:=r1.one;have:=h1.int_inv;subst this;exact⟨j,rfl,(AG h).1,(AG h).2,q _ H1 [] B (λ_ h=>nomatch h) KG⟩
end
def IZ:Key->D
 | .inl i=>.int i
 | .inr x=>.str x
def NE(f:Ev):Lv:=λρ=>(f ρ).bind λd=>match d with
 | .lst l=>some l
 | .tup l=>some l
 | .dT l=>some (l.map λp=>.tup (p.1.map IZ))
 | _=>none
theorem sM:∀k:List Key,RepL A H (k.map IZ) (k.map kV)
 | []=>.nil
 | .inl i::k=>.cons (.int i) (sM k)
 | .inr x::k=>.cons (.str x) (sM k)
def UG(tl:TE):TI:=λσ H R=>tl σ H λx H1=>∃d kvs,x=.ref d/\((H1 d=some (.dT kvs)/\∀o,R (My.Z4 d o kvs) (upd H1 d (.frz o (.dT kvs))))\/∃o,H1 d=some (.frz o (.dT kvs))/\R (My.Z4 d o kvs) H1)
theorem KF(U:PE X l tl):PI X tg l (UG tl):=by
 intro pins s σ H R I h;refine cS (U pins s σ H _ I h) λv z ⟨x,H1,J,r1,W⟩=>?_
 obtain⟨d,kvs,rfl,q⟩:=W;cases r1;have G:∀(o:Obj) (H2:Hp),(d == za6)=false->Inv X pins σ H2 z->z.heap.get? d=some o->ObjOk X.prog X.w H2 z.heap d (.dT kvs)->R (My.Z4 d o kvs) H2->wpAny (model X.prog X.w) X.A (pyIter (.ref d)) (PIE X pins σ tg R) X.xe z:=λo H2 lo B N ok q=>by
  obtain⟨_,_,es,ep,⟨o',r1,r2,r3⟩,F,_⟩:=My.tO ok;rw[N]at r1;cases r1;refine My.JH lo ⟨o,N,r2,r3⟩ ?_;refine⟨z.heap.objs.size,[z.heap.objs.size],_,_,_,rfl,B.kept (t':=z.toks) λb o e=>zan _ e,My.GV d _ o kvs es ep r3 F,⟨_,zaE _ rfl,rfl,rfl⟩,λb Y=>?_,q⟩;have e:b=z.heap.objs.size:=by simpa using Y
  subst e;exact B.fpOk (zai _) (B.hok.fresh (zai _))
 rcases q with⟨hd,q⟩|⟨o,hd,q⟩
 ·have ok:=(show ObjOk X.prog X.w H1 z.heap d (.dT kvs)from J.hok d _ hd)
  obtain⟨lo,_,es,ep,⟨o,r1,r2,r3⟩,F,_⟩:=My.tO ok;have B:=My.BG J hd r1;have M:=(show ObjOk X.prog X.w _ z.heap d (.frz o (.dT kvs))from B.hok d _ aG);exact G o _ lo B r1 M.2 (q o)
 ·have ok:=(show ObjOk X.prog X.w H1 z.heap d (.frz o (.dT kvs))from J.hok d _ hd)
  obtain⟨lo,_⟩:=My.tO ok.2;exact G o H1 lo J ok.1 ok.2 q
theorem FS{a:Addr}{o:Obj}{xs:List (List Key×V)}{l:List (List Key×D)}(e:xs.map (·.1)=l.map (·.1)):IY (My.Z4 a o xs) [.fz a o (.dT xs)] (l.map λp=>.tup (p.1.map IZ)):=by
 intro A H N h i;have z:H a=some (.frz o (.dT xs)):=h _ (List.mem_singleton.mpr rfl);have M:xs.length=l.length:=by have:=congrArg zbo e;simpa using this
 refine⟨λhi=>⟨z,by rw[zal]at hi;lia⟩,λd hd=>?_⟩;rw[zaC]at hd;obtain⟨p,q,rfl⟩:=map_some hd;have hi:i<l.length:=(List.getElem?_eq_some_iff.mp q).1;refine⟨⟨z,by lia⟩,λx H' ⟨B,k,v,b,J,F,G⟩=>?_⟩;subst B F;have:k=p.1:=by
  have h1:(xs.map (·.1))[i]?=some k:=by rw[zaC,J];rfl
  rw[e,zaC,q]at h1;exact(zaz h1).symm
 subst this;exact⟨Ext.refl _ _,.tup G (sM _)⟩
theorem PX(n:¬ A d)(hd:H d=some u)(B:W6 u)(F:¬ Kp u):Ext A H (upd H d (.frz o u)) where
 rd:=λb w r=>by
  by_cases e:b=d
  ·subst e
   rcases r with r|⟨q,r⟩
   ·rw[hd]at r;cases r;exact .inr ⟨o,aG⟩
   ·rw[hd]at r;cases r;exact B.elim
  ·exact eP e r
 kp:=λb w k r=>by rw[aE (λz=>by subst z;rw[hd]at r;cases r;exact F k)];exact r
 ow:=λb w G r=>by rw[aE (λz=>n (by rw[<- z];exact G))];exact r
 fz:=λb q w r=>by rw[aE (λz=>by subst z;rw[hd]at r;cases r;exact B)];exact r
theorem Q9(h:PD X O e f):PDI X O tg e (NE f):=PI.mono (PI.or (PI.or (N9 h) (UP h)) (KF h)) <| by
 rintro σ H R ⟨H0,A0,A,E,ρ,items,st,e,q⟩;obtain⟨d,G,e⟩:=bind_some e;cases d with
 | lst l=>
  cases e;refine .inl (.inl ⟨H0,A0,A,E,ρ,_,st,G,λv H1 F r1=>?_⟩);obtain⟨a,xs,rfl,h1,J⟩:=RepB.lst_inv (.of r1);exact⟨a,rfl,⟨xs,.inl h1⟩,q _ H1 [.rep (.lst items) (.ref a)] F (λp B=>by rw[List.mem_singleton.mp B];exact r1) Q6⟩
 | tup l=>
  cases e;refine .inl (.inr ⟨H0,A0,A,E,ρ,_,st,G,λv H1 F r1=>?_⟩);obtain⟨a,xs,rfl,h1,J⟩:=RepB.tup_inv (.of r1);exact⟨a,rfl,⟨xs,.inl (.inl h1)⟩,q _ H1 [.rep (.tup items) (.ref a)] F (λp B=>by rw[List.mem_singleton.mp B];exact r1) V7⟩
 | dT l=>
  cases e;refine .inr ⟨H0,A0,A,E,ρ,_,st,G,λv H1 F r1=>?_⟩;cases r1 with
  | @dT _ a xs n h ee J=>
   refine⟨a,xs,rfl,?_⟩;rcases h with h|⟨o,h⟩
   ·refine .inl ⟨h,λo=>q _ _ [.fz a o (.dT xs)] (F.trans (PX n h trivial λz=>z)) (λp B=>by rw[List.mem_singleton.mp B];exact aG) (FS ee)⟩
   ·exact .inr ⟨o,h,q _ H1 [.fz a o (.dT xs)] F (λp B=>by rw[List.mem_singleton.mp B];exact h) (FS ee)⟩
 | _=>exact nn e
def kG(g:Gv)(body:Sv):List D->cU->Option Out
 | [],ρ=>some (.nx ρ)
 | x::xs,ρ=>(g x ρ).bind λρ1=>(body ρ1).bind λo=>match o with
  | .nx ρ2=>kG g body xs ρ2
  | .ct ρ2=>kG g body xs ρ2
  | .bk ρ2=>some (.nx ρ2)
  | .rt d=>some (.rt d)
def A7(f:Lv)(g:Gv)(q:Sv):Sv:=λρ=>(f ρ).bind λitems=>kG g q items ρ
theorem ST.both(s:ST H0 A0 A E O σ H ρ)(h:∀p∈E1,p.Holds A H):ST H0 A0 A (E1++E) O σ H ρ:=
 {s with ext:=λp q=>by rcases List.mem_append.mp q with e|e;exact h p e;exact s.ext p e}
theorem QI(hp:zb4 (model X.prog X.w) X.A X.env X.xe)(hc:X.calm=true)(hi:PDI X O tg iter f)(hg:BA X O1 tg g)(hb:eB X ⟨Ob,O1⟩ O1 body b O1)(h1:Sub O1 O=true)(h2:Sub O' O1=true)(h3:Sub O' Ob=true)
  (hs:∀x,zba iter X.env x=pure x:=by intro _;rfl):jA X L O (.For tg iter body [] pos) (A7 f g b) O':=PS.mono (L8 hp hc hi hg hb hs) λT σ H ⟨H0,A0,A,E,ρ,out,st,e,p⟩=>by
 obtain⟨items,e1,e⟩:=bind_some e;refine⟨H0,A0,A,E,ρ,items,st,e1,λJ H1 M x1 ad J1=>?_⟩;obtain⟨A1,aa⟩:=((st.mono x1).both ad).shut (Sub.mem h1);refine⟨λi m σ H=>m=items.length-i/\i<=items.length/\∃ρ A,ST H0 A0 A (M++E) O1 σ H ρ/\kG g b (items.drop i) ρ=some out,⟨items.length,by simp,zaI _,ρ,A1,aa,e⟩,?_⟩;rintro i m σ H ⟨rfl,ag,ρ,A,st,e⟩;have hE:∀p∈M,p.Holds A H:=λp hp=>st.ext p (zbv _ hp)
 obtain⟨W,go⟩:=J1 A H st.live hE i;have fin:∀ {O2:List Nat} {A:Av} {σ:L2.St} {H:Hp} {ρ:cU},Sub O' O2=true->ST H0 A0 A (M++E) O2 σ H ρ->(∀A σ H,ST H0 A0 A E O' σ H ρ->T.nx σ H)->T.nx σ H:=λhs st k=>by
  obtain⟨B,ab⟩:=(st.less (E':=E) λq hq=>zaV _ hq).shut (Sub.mem hs);exact k B _ _ ab
 by_cases F:i<items.length
 ·have ed:items[i]?=some items[i]:=by simp[F]
  obtain⟨ac,hy⟩:=go _ ed;rw[zcW F]at e;obtain⟨N,eg,e⟩:=bind_some e;obtain⟨o,eo,e⟩:=bind_some e;refine .inr ⟨ac,λY H'=>∃z B,ST H0 A0 B (M++E) O1 Y H' z/\kG g b (items.drop (i+1)) z=some out,λY H' ⟨z,B,G,e2⟩=>⟨items.length-(i+1),by lia,rfl,F,z,B,G,e2⟩,λx H' y=>?_⟩;obtain⟨x2,r2⟩:=hy x H' y;refine⟨H0,A0,A,M++E,ρ,_,N,st.mono x2,r2,eg,λai s1=>⟨H0,A0,A,M++E,N,o,s1,eo,?_⟩⟩;cases o with
  | nx z=>exact λB U H2 G=>⟨z,B,G,e⟩
  | ct z=>exact λB U H2 G=>⟨z,B,G,e⟩
  | bk z=>cases e;exact λB U H2 G=>fin h3 G p
  | rt d=>cases e;exact p
 ·have ae:i=items.length:=by lia
  subst ae;rw[zdD]at e;cases e;exact .inl ⟨W (zai _),fin h2 st p⟩
end
noncomputable def gY(cells:List (Str×Addr)):List (Str×zby)->List (Str×Addr)->List (Str×Addr)
 | [],cs=>cs
 | (x,k)::r,cs=>gY cells r (if k == .free then(x,(cells.lookup x).getD 0)::cs else cs)
theorem uS:∀(names:List (Str×zby)) (q:List (Str×Addr)),(∀y∈names,y.2=.free->∃c,env.cells.lookup y.1=some c)->
  (forIn names q (λ(p:Str×zby) (r:List (Str×Addr))=>if(p.2 == .free)=true then(do let c <- cellOf env p.1;pure (zcD ((p.1,c)::r)))else(pure (zcD r):Sem _)))=(pure (gY env.cells names q):Sem _)
 | [],q,_=>by simp[gY]
 | (x,k)::r,q,h=>by
  have ih:=λq=>uS r q λy G=>h y (zap _ G)
  rw[zej];by_cases e:(k == zbq)=true
  ·have B:k=.free:=by simpa using e
   obtain⟨c,F⟩:=h (x,k) (zat ..) B;have z:env.cells.lookup x=some c:=F;simp only[e,if_true,gY];have:cellOf env x=pure c:=by unfold cellOf;rw[z]
   rw[this];simp only[pure_bind,z,Option.getD_some];exact ih _
  ·simp only[e,gY]
   simp only[zbt,if_false,pure_bind];exact ih _
theorem FH(h:∀y∈scope.names,y.2=.free->∃c,env.cells.lookup y.1=some c):closureFor scope env=pure (gY env.cells scope.names []):=by
 have:=uS scope.names [] h;unfold closureFor;simp only[bind_pure];exact this
theorem sQ:∀ {names:List (Str×zby)} {cs:List (Str×Addr)} {c:Addr},(gY cells names cs).lookup x=some c->(∃q,cs.lookup x=some q/\c=q)\/((x,zbq)∈names/\c=(cells.lookup x).getD 0)
 | [],cs,c,h=>.inl ⟨c,h,rfl⟩
 | (y,k)::r,cs,c,h=>by
  rw[gY]at h;rcases sQ h with⟨q,h1,h2⟩|⟨h1,h2⟩
  ·by_cases e:(k == zbq)=true
   ·rw[if_pos e,zbW]at h1
    by_cases ex:(x == y)=true
    ·rw[ex]at h1
     have z:x=y:=by simpa using ex
     have B:k=.free:=by simpa using e
     subst z B;cases h1;exact .inr ⟨zat ..,h2⟩
    ·rw[zdE]at ex
     rw[ex]at h1;exact .inl ⟨q,h1,h2⟩
   ·rw[if_neg e]at h1
    exact .inl ⟨q,h1,h2⟩
  ·exact .inr ⟨zap _ h1,h2⟩
theorem sE:∀ {names:List (Str×zby)} {cs:List (Str×Addr)},((x,zbq)∈names\/∃c,cs.lookup x=some c)->∃c,(gY cells names cs).lookup x=some c
 | [],cs,h=>h.elim (λh=>nomatch h) id
 | (y,k)::r,cs,h=>by
  rw[gY];apply sE;rcases h with h|⟨c,h⟩
  ·rcases List.mem_cons.mp h with e|e
   ·cases e
    refine .inr ⟨(cells.lookup x).getD 0,?_⟩;simp[zbW]
   ·exact .inl e
  ·right
   by_cases e:(k == zbq)=true
   ·rw[if_pos e,zbW]
    by_cases ex:(x == y)=true
    ·rw[ex];exact⟨_,rfl⟩
    ·rw[zdE]at ex;rw[ex];exact⟨c,h⟩
   ·rw[if_neg e];exact⟨c,h⟩
theorem fV{q:Type}{v:q}:∀ {l:List (Str×q)},l.lookup x=some v->(x,v)∈l
 | (y,w)::r,h=>by
  rw[zbW]at h;by_cases ex:(x == y)=true
  ·rw[ex]at h;cases h;rw[show x=y by simpa using ex];exact zat ..
  ·rw[zdE]at ex;rw[ex]at h;exact zap _ (fV h)
noncomputable def AX(names q:List (Str×zby)):Bool:=
 names.all λy=>y.2 != .cell && (y.2 != .local || names.lookup y.1 == some .local) && (y.2 != .free || q.lookup y.1 == some .cell)
theorem CU{X:Cx}{N:List Str}{scope:Scope}{n:Nat}(hk:scope.kind=.function)(h:AX scope.names X.env.scope.names=true)(hc:X.env.cells=zb6 n X.env.scope.names []):My.Clo X N scope (gY X.env.cells scope.names []):=by
 have h':=List.all_eq_true.mp h;have W:∀y∈scope.names,y.2≠.cell:=λy F=>by
  have:=h' y F;simp only[zaQ]at this;simpa using this.1.1
 have c2:∀y∈scope.names,y.2=.local->scope.names.lookup y.1=some .local:=λy F e=>by
  have:=h' y F;simp only[zaQ,zdF]at this;rcases this.1.2 with z|z
  ·rw[e]at z;exact absurd z (by decide)
  ·simpa using z
 have Y:∀y∈scope.names,y.2=.free->∃c,X.env.cells.lookup y.1=some c:=λy F e=>by
  have:=h' y F;simp only[zaQ,zdF]at this;rcases this.2 with z|z
  ·rw[e]at z;exact absurd z (by decide)
  ·rw[hc];exact mR (sc:=X.env.scope) (by simpa using z)
 have B:∀x,((zbd scope X.env).names.lookup x=some .cell\/(zbd scope X.env).names.lookup x=some .free)->(x,zbq)∈scope.names:=λx hx=>by
  have J:∀M,(M=NameKind.cell\/M=zbq)->(x,M)∈(zbd scope X.env).names->(x,zbq)∈scope.names:=λM U hm=>by
   obtain⟨⟨y,k⟩,F,e⟩:=List.mem_map.mp hm;dsimp only at e;by_cases q:(k == zbq && X.env.scope.kind == .function && X.env.kindOf y == some .cell)=true
   ·rw[if_pos q]at e
    have:k=.free:=by simp only[zaQ]at q;simpa using q.1.1
    cases e;subst this;exact F
   ·rw[if_neg q]at e
    cases e;rcases U with z|z
    ·exact absurd z (W _ F)
    ·subst z;exact F
  rcases hx with hx|hx
  ·exact J _ (.inl rfl) (fV hx)
  ·exact J _ (.inr rfl) (fV hx)
 refine⟨FH Y,hk,W,c2,λx c e=>?_,λx hx=>sE (.inl (B x hx))⟩;rcases sQ e with⟨c',z,_⟩|⟨z1,z2⟩
 ·cases z
 ·obtain⟨c0,G⟩:=Y _ z1 rfl
  have G:X.env.cells.lookup x=some c0:=G;rw[z2,G];rfl
noncomputable def dR(X:Cx)(scope:Scope):List Str->List (Option Nat)->Prop
 | [],[]=>True
 | _::N,none::ms=>dR X scope N ms
 | x::N,some i::ms=>(X.N[i]?=some x/\((zbd scope X.env).names.lookup x == some NameKind.local)=false/\(X.env.kindOf x=some .cell\/X.env.kindOf x=some .free))/\dR X scope N ms
 | _,_=>False
noncomputable def i6{q:Type}(ms:List (Option Nat))(σ:List (Option q)):List (Option q):=ms.map λo=>o.bind λi=>(σ[i]?).join
theorem jF:∀ {N:List Str} {ms:List (Option Nat)},dR X scope N ms->ms.length=N.length/\∀(j:Nat) (x:Str) (i:Nat),N[j]?=some x->ms[j]?=some (some i)->X.N[i]?=some x/\(zbd scope X.env).names.lookup x≠some .local/\(X.env.kindOf x=some .cell\/X.env.kindOf x=some .free)
 | [],[],_=>⟨rfl,λj x i h _=>by simp at h⟩
 | y::N,none::ms,h=>by
  obtain⟨l,g⟩:=jF (N:=N) (ms:=ms) h;refine⟨by simp[l],λj x i h1 h2=>?_⟩;cases j with
  | zero=>simp at h2
  | succ j=>exact g j x i (by simpa using h1) (by simpa using h2)
 | y::N,some k::ms,h=>by
  obtain⟨l,g⟩:=jF (N:=N) (ms:=ms) h.2;refine⟨by simp[l],λj x i h1 h2=>?_⟩;cases j with
  | zero=>simp at h1 h2;subst h1 h2;exact⟨h.1.1,λz=>by have:=h.1.2.1;rw[z]at this;exact absurd this (by decide),h.1.2.2⟩
  | succ j=>exact g j x i (by simpa using h1) (by simpa using h2)
 | [],_::_,h=>h.elim
 | _::_,[],h=>h.elim
theorem gJ{z:Type}{ms:List (Option Nat)}{σ:List (Option z)}{j:Nat}{v:z}(h:(i6 ms σ)[j]?=some (some v)):∃i:Nat,ms[j]?=some (some i)/\σ[i]?=some (some v):=by
 unfold i6 at h;rw[zaC]at h;obtain⟨o,B,q⟩:=map_some h;cases o with
 | none=>cases q
 | some i=>exact⟨i,B,qT q⟩
theorem AI{N:List Str}{ms:List (Option Nat)}(h:dR X scope N ms)(σ:L2.St):My.Start X N scope σ (i6 ms σ):=by
 obtain⟨l,g⟩:=jF h;refine⟨by unfold i6;rw[zal];exact l,λj x v h1 h2 _=>?_⟩;obtain⟨i,z,q⟩:=gJ h2;obtain⟨a,b,c⟩:=g j x i h1 z;exact⟨b,i,a,q,c⟩
theorem ST.inner{E:List Fact}{O:List Nat}(s:ST H0 A0 A E O σ H ρ)(ms:List (Option Nat))(n:∀i,some i∈ms->i∉O):ST H0 A0 A E [] (i6 ms σ) H (i6 ms ρ) where
 ex:=s.ex
 sub:=s.sub
 l0:=s.l0
 live:=s.live
 len:=by simp[i6]
 val:=λj d h _=>by
  obtain⟨i,q,B⟩:=gJ h;obtain⟨v,z,r⟩:=s.val i d B (n i (zax q));refine⟨v,?_,r⟩;unfold i6;rw[zaC,q];show some ((σ[i]?).join)=_;rw[z];rfl
 own:=λj d _ h=>nomatch h
 inj:=λi j d d' a hi=>nomatch hi
 ext:=s.ext
def bD(g:Gv)(c:Bv)(f:Ev):List D->cU->Option (List D)
 | [],_=>some []
 | x::xs,ρ=>(g x ρ).bind λρ1=>(c ρ1).bind λb=>if b=true then(f ρ1).bind λd=>(bD g c f xs ρ1).bind λds=>some (d::ds)else bD g c f xs ρ1
def dY(ms:List (Option Nat))(it:Lv)(g:Gv)(c:Bv)(f:Ev):Ev:=λρ=>(it ρ).bind λitems=>if a7 items.length then(bD g c f items (i6 ms ρ)).map .lst else none
def fJ:Bv:=λ_=>some true
theorem LG:My.DQ X [] (tDT O fJ):=λpins s σ H Q I ⟨H0,A0,A,E,ρ,b,st,e,q⟩=>My.PV pins s σ H Q I (by cases e;exact q H (Ext.refl _ _))
theorem JY(h:uM X O c g):My.DQ X [c] (tDT O g):=My.O8 h
section
variable {X:Cx}{O:List Nat}
theorem sO(a0:dR X scope N ms)(hn:(ms.all λo=>match o with|some i=>!O.contains i|none=>true)=true)(σ:L2.St)(H:Hp)(Q:VK) :
  tF O (dY ms it g c f) σ H Q->My.GA (tDI O it) (tDG [] g) (tDT [] c) (tD Rep [] f) (My.Start X N scope) σ H Q:=λ⟨H0,A0,A,E,ρ,d,st,e,q⟩=>by
 obtain⟨items,e1,e⟩:=bind_some e;by_cases hz:a7 items.length=true
 case neg=>rw[if_neg hz]at e;cases e
 rw[if_pos hz]at e;obtain⟨ds,e2,rfl⟩:=map_some e;have a4:∀i,some i∈ms->i∉O:=λi hi z=>by
  have:=List.all_eq_true.mp hn _ hi;simp only[Bool.not_eq_true']at this;have z':O.contains i=true:=by simpa using z
  rw[z']at this;cases this
 refine⟨i6 ms σ,AI a0 σ,H0,A0,A,E,ρ,items,st,e1,λJ H1 E1 x1 a5 J1 D hD=>?_⟩;have a2:=(st.mono x1).live;have nA:¬ A D:=λz=>a2 D z hD
 have n0:H D=none:=x1.free hD
 -- the state of the block: the list that grows stands outside all that is borne
 refine⟨λi m aj us H2=>m=items.length-i/\i<=items.length/\∃Y done rest,ST H0 A0 (λb=>A b\/b=D) (E1++E) [] aj H2 Y/\H2 D=some (.lst us)/\Ext A H H2/\RepL (λb=>A b\/b=D) H2 done us/\bD g c f (items.drop i) Y=some rest/\done++rest=ds/\done.length<=i,⟨items.length,by simp,zaI _,i6 ms ρ,[],ds,?_,aG,x1.trans (Ext.new hD),.nil,e2,rfl,zai _⟩,?_⟩
 ·have s1:=((st.mono x1).both a5).inner ms a4
  have up:∀a,(A a\/a=D)->A a\/H1 a=none:=λa F=>F.imp id λz=>by rw[z];exact hD
  refine⟨s1.ex.trans (Ext.new hD),λa F=>.inl (s1.sub a F),s1.l0,λa F=>?_,s1.len,λi d h n=>?_,(λi d _ h=>nomatch h),(λi j d d' a hi=>nomatch hi),λp hp=>Fact.ext (Ext.new hD) (Fact.av up (s1.ext p hp))⟩
  ·rcases F with F|F
   ·rw[aE (λz=>by subst z;exact nA F)];exact s1.live a F
   ·subst F;rw[aG];exact λz=>nomatch z
  ·obtain⟨v,h1,h2⟩:=s1.val i d h n
   exact⟨v,h1,(h2.av up).ext (Ext.new hD)⟩
 ·rintro i m aj us H2 ⟨rfl,bj,Y,done,rest,s2,ae,x2,ad,G,ed,bb⟩
  obtain⟨ak,go⟩:=J1 _ H2 s2.live (λp hp=>s2.ext p (zbv _ hp)) i;by_cases M:i<items.length
  ·have eg:items[i]?=some items[i]:=by simp[M]
   obtain⟨az,hy⟩:=go _ eg;rw[zcW M]at G;obtain⟨U,e3,G⟩:=bind_some G;obtain⟨b,e4,G⟩:=bind_some G;have am:us.length<zaj:=by
    rw[ad.length];exact zcC bb (zaX M (gL hz))
   refine .inr ⟨az,am,λx H3 y=>?_⟩;obtain⟨x3,r3⟩:=hy x H3 y;refine⟨H0,A0,_,E1++E,Y,_,U,s2.mono x3,r3,e3,λbq s3=>⟨H0,A0,_,E1++E,U,b,s3,e4,λH5 x5=>?_⟩⟩;have ab:=x3.trans x5;have an:H5 D=some (.lst us):=ab.ow D _ (.inr rfl) ae;have ao:Ext A H H5:=x2.trans (ab.mono λa F=>.inl F);cases b with
   | false=>
    rw[if_neg zaB]at G;exact Y8 ⟨an,items.length-(i+1),by lia,rfl,M,U,done,rest,s3.mono x5,an,ao,ad.ext ab,G,ed,by lia⟩
   | true=>
    rw[if_pos rfl]at G;refine ZC ?_;obtain⟨d,e6,G⟩:=bind_some G;obtain⟨ag,e7,G⟩:=bind_some G;cases G;refine⟨H0,A0,_,E1++E,U,d,s3.mono x5,e6,λv H6 x6 r6=>?_⟩;have ap:=ab.trans x6;have aa:H6 D=some (.lst us):=ap.ow D _ (.inr rfl) ae;refine⟨aa,items.length-(i+1),by lia,rfl,M,U,done++[d],ag,?_,aG,?_,((ad.ext ap).append (.cons r6 .nil)).put (.inr rfl) aa trivial,e7,by rw[<- ed];simp,by rw[zbc];show done.length+1<=i+1;lia⟩
    ·have W:=s3.mono (x5.trans x6)
     have ax:H0 D=none:=st.ex.free n0;have B:∀b,H0 b≠none->b≠D:=λb hb z=>hb (by rw[z];exact ax)
     refine⟨⟨λb w r=>eP (B b (by rcases r with r|⟨_,r⟩ <;> (rw[r];exact λz=>nomatch z))) (W.ex.rd b w r),λb xs k r=>?_,λb w n r=>?_,λb q w r=>?_⟩,W.sub,W.l0,λa F=>?_,W.len,λi d h n=>?_,(λi d _ h=>nomatch h),(λi j d d' a hi=>nomatch hi),λp hp=>Fact.put (.inr rfl) aa trivial (W.ext p hp)⟩
     ·rw[aE (B b (by rw[r];exact λz=>nomatch z))];exact W.ex.kp b xs k r
     ·rw[aE (B b (by rw[r];exact λz=>nomatch z))];exact W.ex.ow b w n r
     ·rw[aE (B b (by rw[r];exact λz=>nomatch z))];exact W.ex.fz b q w r
     ·by_cases z:a=D
      ·subst z;rw[aG];exact λz=>nomatch z
      ·rw[aE z];exact W.live a F
     ·obtain⟨v,h1,h2⟩:=W.val i d h n
      exact⟨v,h1,h2.put (.inr rfl) aa trivial⟩
    ·have ac:Ext A H H6:=ao.trans (x6.mono λa F=>.inl F)
     have B:∀b,H b≠none->b≠D:=λb hb z=>hb (by rw[z];exact n0)
     exact⟨λb w r=>eP (B b (by rcases r with r|⟨_,r⟩ <;> (rw[r];exact λz=>nomatch z))) (ac.rd b w r),
      λb xs k r=>by rw[aE (B b (by rw[r];exact λz=>nomatch z))];exact ac.kp b xs k r,
      λb w n r=>by rw[aE (B b (by rw[r];exact λz=>nomatch z))];exact ac.ow b w n r,
      λb q w r=>by rw[aE (B b (by rw[r];exact λz=>nomatch z))];exact ac.fz b q w r⟩
  ·have a6:i=items.length:=by lia
   subst a6;rw[zdD]at G;cases G;rw[zbb]at ed;subst ed;exact .inl ⟨ak (zai _),q D H2 x2 n0 nA (.lst ae ad)⟩
theorem QO
  (J:X.calm=true) (M:My.Clo X N scope cl) (q:dR X scope N ms) (z:(ms.all λo=>match o with|some i=>!O.contains i|none=>true)=true) (hi:PDI X O tg iter it) (F:∀C s H fp,BA (My.aY X N scope cl C s H fp) [] tg g)
  (B:∀C s H fp,My.DQ (My.aY X N scope cl C s H fp) ifs (tDT [] c)) (G:∀C s H fp,PD (My.aY X N scope cl C s H fp) [] elt f) (hs:∀x,zba iter X.env x=pure x:=by intro _;rfl) :
  PF X O (.ListComp elt [⟨tg,iter,ifs,0⟩] scope pos) (dY ms it g c f):=PE.mono (My.FV J M hi F B G hs) (sO q z)
def aH(n:Nat)(ds:List D):cU:=ds.map some++zck (n-ds.length) none
def bJ(n:Nat)(f:Sv)(ds:List D):Option D:=(f (aH n ds)).bind λo=>match o with
 | .rt d=>some d
 | .nx _=>some .non
 | _=>none
theorem ST.begun(q:Live A H)(r:RepL A H ds vs):ST H A A [] [] (L2.start N vs) H (aH N.length ds) where
 ex:=Ext.refl _ _
 sub:=λ_ h=>h
 l0:=q
 live:=q
 len:=by unfold L2.start aH;simp[r.length]
 val:=λi d h _=>by
  unfold aH at h;by_cases hi:i<ds.length
  ·rw[zd3 (by simpa using hi),zaC]at h
   obtain⟨d',z,B⟩:=map_some h;cases B;obtain⟨v,F,r3⟩:=r.get' z;refine⟨v,?_,r3⟩;unfold L2.start;rw[zd3 (by rw[zal,r.length];exact hi),zaC,F];rfl
  ·rw[zdh (by simpa using hi),List.getElem?_replicate]at h
   split at h <;> cases h
 own:=λi d _ h=>nomatch h
 inj:=λi j d d' a hi=>nomatch hi
 ext:=λp G=>nomatch G
theorem A3{P:zah}{w:World}{K:zae}{mg:Str->Option Value}{base:Heap}{x:Str}{st:Stmt}{N ps:List Str}{k:Nat}{f:Sv}{O':List Nat}(W:My.DefAt K mg x st ps)(S:FnScope N ps (aL st))
  (h:∀(F:Addr) (B:Value) (A:zam) (z:List Env) (s:zad) (H:Hp) (E:XK),Room k (A.deeper (zaN x (aL st) s.heap.objs.size F B))->∃g,eB (i7 uL P w K mg base N x (aL st) F B A z s H E).nox ⟨[],[]⟩ [] (bU st) g O'/\g=f) :
  Fn P w K mg base x (k+1) ps (bJ N.length f):=by
 refine My.BodyOk.ok (λF B A z s H vs Q E M hsp=>?_) W S (λvs H Q E hsp=>by obtain⟨A,ds,d,_,_,e,_⟩:=hsp;exact e);obtain⟨J,ds,d,lv,r,e,eF,q⟩:=hsp;obtain⟨o,U,G⟩:=bind_some eF;obtain⟨g,hg,rfl⟩:=h F B A z s H E M;refine⟨_,hg,H,J,J,[],_,o,ST.begun lv r,U,?_⟩;cases o with
 | nx ρ=>cases G;exact λA2 ab H2 Y=>q .non H2 Y.ex .non
 | rt d'=>cases G;exact λv H2 x2 r2=>q v H2 x2 r2
 | bk _=>cases G
 | ct _=>cases G
noncomputable def MT(K:zae):Bool:=K.all λp=>match p.2.cls with
 | .type "list" => false
 | _=>true
theorem GQ{K:zae}(h:MT K=true){a:Addr}{o:Obj}(e:K.lookup a=some o):o.cls≠.type "list" := λz=>by
 have m:∀ {K:zae},K.lookup a=some o->(a,o)∈K:=by
  intro K;induction K with
  | nil=>intro e;cases e
  | cons p r ih=>
   intro e;rw[zbW]at e;by_cases q:(a == p.1)=true
   ·rw[q]at e;cases e;rw[show a=p.1 by simpa using q];exact zat ..
   ·rw[zdE]at q;rw[q]at e;exact zap _ (ih e)
 have:=List.all_eq_true.mp h _ (m e);dsimp only at this;rw[z]at this;exact absurd this (by decide)
theorem VH{P:zah}{w:World}{K:zae}{mg:Str->Option Value}{base:Heap}{st:Stmt}{N:List Str}{k:Nat}{f:Sv}{O':List Nat}(hK:MT K=true)
  (h:∀(J:Addr) (F:Value) (A:zam) (B:List Env) (s:zad) (H:Hp) (E:XK),Room k (A.deeper (zaN "law" (aL st) s.heap.objs.size J F))->∃g,eB (i7 uL P w K mg base N "law" (aL st) J F A B s H E).nox ⟨[],[]⟩ [] (bU st) g O'/\g=f)
  (W:∀ns:List Int,ns.length<=63->bJ N.length f [.lst (ns.map .int)]=some (.bl true)):My.BodyOk P w K mg base "law" st N k (My.AY K):=by
 refine λJ F A B s H vs Q E hr hsp=>?_
 obtain⟨a,ns,rfl,U,Y,q⟩:=hsp;have hR:Rd H a (.lst (ns.map V.int)):=by
  rcases U with U|⟨o,_,_,e,c,_⟩
  ·exact U
  ·exact absurd c (GQ hK e)
 have lv:Live (λ_=>False) H:=λa h=>h.elim
 have G:∀ns:List Int,RepL (λ_=>False) H (ns.map .int) (ns.map V.int):=λns=>by
  induction ns with
  | nil=>exact .nil
  | cons n ns ih=>exact .cons (.int n) ih
 obtain⟨o,eo,M⟩:=bind_some (W ns Y);obtain⟨g,hg,rfl⟩:=h J F A B s H E hr;refine⟨_,hg,H,λ_=>False,λ_=>False,[],_,o,ST.begun lv (.cons (.lst (λz=>z) hR (G ns)) .nil),eo,?_⟩;cases o with
 | nx ρ=>cases M
 | rt d'=>cases M;exact λv H2 x2 r2=>by cases r2;exact q _
 | bk _=>cases M
 | ct _=>cases M
end
mutual
def gZ:D->Option My.Dx
 | .non=>some .non
 | .bl b=>some (.bl b)
 | .int i=>some (.int i)
 | .str x=>some (.str x)
 | .tup l=>(fN l).map .tup
 | .lst l=>(fN l).map .lst
 | .dK _=>none
 | .dT _=>none
 | .ob _ _=>none
 | .mem _ _=>none
def fN:List D->Option (List My.Dx)
 | []=>some []
 | d::ds=>(gZ d).bind λx=>(fN ds).bind λxs=>some (x::xs)
end
mutual
theorem pZ:∀ {d e:D} {x:My.Dx},gZ d=some x->gZ e=some x->d=e
 | .non,e,x,h,k=>by cases h;cases e <;> simp[gZ]at k <;> first|rfl|(obtain⟨_,_,z⟩:=k;cases z)
 | .bl b,e,x,h,k=>by cases h;cases e <;> simp[gZ]at k <;> first|(rw[k])|(obtain⟨_,_,z⟩:=k;cases z)
 | .int b,e,x,h,k=>by cases h;cases e <;> simp[gZ]at k <;> first|(rw[k])|(obtain⟨_,_,z⟩:=k;cases z)
 | .str b,e,x,h,k=>by cases h;cases e <;> simp[gZ]at k <;> first|(rw[k])|(obtain⟨_,_,z⟩:=k;cases z)
 | .tup l,e,x,h,k=>by
  rw[gZ]at h;obtain⟨xs,h1,rfl⟩:=map_some h;cases e with
  | tup m=>
   rw[gZ]at k;obtain⟨ys,k1,k2⟩:=map_some k;cases k2;rw[mK h1 k1]
  | lst m=>rw[gZ]at k;obtain⟨ys,k1,k2⟩:=map_some k;cases k2
  | _=>simp[gZ]at k
 | .lst l,e,x,h,k=>by
  rw[gZ]at h;obtain⟨xs,h1,rfl⟩:=map_some h;cases e with
  | lst m=>
   rw[gZ]at k;obtain⟨ys,k1,k2⟩:=map_some k;cases k2;rw[mK h1 k1]
  | tup m=>rw[gZ]at k;obtain⟨ys,k1,k2⟩:=map_some k;cases k2
  | _=>simp[gZ]at k
 | .dK _,e,x,h,k=>by rw[gZ]at h;cases h
 | .dT _,e,x,h,k=>by rw[gZ]at h;cases h
 | .ob _ _,e,x,h,k=>by rw[gZ]at h;cases h
 | .mem _ _,e,x,h,k=>by rw[gZ]at h;cases h
theorem mK:∀ {d e:List D} {x:List My.Dx},fN d=some x->fN e=some x->d=e
 | [],e,x,h,k=>by
  rw[fN]at h;cases h;cases e with
  | nil=>rfl
  | cons e es=>
   rw[fN]at k;obtain⟨_,_,k⟩:=bind_some k;obtain⟨_,_,k⟩:=bind_some k;cases k
 | d::ds,e,x,h,k=>by
  rw[fN]at h;obtain⟨y,h1,h⟩:=bind_some h;obtain⟨ys,h2,h⟩:=bind_some h;cases h;cases e with
  | nil=>rw[fN]at k;cases k
  | cons e es=>
   rw[fN]at k;obtain⟨z,k1,k⟩:=bind_some k;obtain⟨zs,k2,k⟩:=bind_some k;cases k;rw[pZ h1 k1,mK h2 k2]
end
mutual
theorem wN{K:zae}{A:Av}{H:Hp}:∀ {d:D} {x:My.Dx} {v:V},gZ d=some x->Rep A H d v->My.Rep K H x v
 | .non,x,v,h,r=>by cases h;cases r;rw[My.Rep]
 | .bl b,x,v,h,r=>by cases h;cases r;rw[My.Rep]
 | .int b,x,v,h,r=>by cases h;cases r;rw[My.Rep]
 | .str b,x,v,h,r=>by cases h;cases r;rw[My.Rep]
 | .tup l,x,v,h,r=>by
  rw[gZ]at h;obtain⟨xs,h1,rfl⟩:=map_some h;cases r with
  | tup hh rl=>rw[My.Rep];exact⟨_,_,rfl,.inl (.inl hh),mS h1 rl⟩
 | .lst l,x,v,h,r=>by
  rw[gZ]at h;obtain⟨xs,h1,rfl⟩:=map_some h;cases r with
  | lst n hh rl=>rw[My.Rep];exact⟨_,_,rfl,.inl hh,mS h1 rl⟩
 | .dK _,x,v,h,r=>by rw[gZ]at h;cases h
 | .dT _,x,v,h,r=>by rw[gZ]at h;cases h
theorem mS{K:zae}{A:Av}{H:Hp}:∀ {d:List D} {x:List My.Dx} {v:List V},fN d=some x->RepL A H d v->My.RepL K H x v
 | [],x,v,h,r=>by rw[fN]at h;cases h;cases r;rw[My.RepL]
 | d::ds,x,v,h,r=>by
  rw[fN]at h;obtain⟨y,h1,h⟩:=bind_some h;obtain⟨ys,h2,h⟩:=bind_some h;cases h;cases r with
  | cons r rs=>rw[My.RepL];exact⟨_,_,rfl,wN h1 r,mS h2 rs⟩
end
theorem fX{K:zae}{A:Av}{H:Hp}{d:D}{x:My.Dx}{v:V}(h:gZ d=some x)(r:RepB A H d v):My.Rep K H x v:=by
 cases r with
 | of r=>exact wN h r
 | lst hh rl=>
  rw[gZ]at h;obtain⟨xs,h1,rfl⟩:=map_some h;rw[My.Rep];exact⟨_,_,rfl,.inl hh,mS h1 rl⟩
 | dK=>rw[gZ]at h;cases h
 | dT=>rw[gZ]at h;cases h
def fR(d:D):Bool:=match gZ d with
 | some x=>x.nb && decide (x.dep<=60)
 | none=>false
noncomputable def WM:D->Bool
 | .tup _=>true | .lst _=>true|_=>false
noncomputable def SY:D->D->Bool
 | .non,.non=>true | .non,.int _=>true | .int _,.non=>true | .non,.bl _=>true | .bl _,.non=>true | .non,.str _=>true | .str _,.non=>true
 | .int _,.int _=>true | .bl _,.bl _=>true | .str _,.str _=>true
 | .int _,.str _=>true | .str _,.int _=>true | .bl _,.str _=>true | .str _,.bl _=>true
 | _,_=>false
open Classical in
def JC(d e:D):Option Bool:=if SY d e=true\/(WM d=true/\WM e=true/\fR d=true/\fR e=true)then some (decide (d=e))else none
def kN(d e:D):Option D:=(JC d e).map .bl
def BB(d e:D):Option D:=(JC d e).map λb=>.bl (!b)
theorem MX(h:SY d e=true)(r:RepB A H d v)(s:RepB A H e w):WV v w=true/\(v=w↔d=e):=by
 cases d with
 | non=>have:=r.non_inv;subst this;cases e <;> first|exact ff h|(have:=s.non_inv;subst this;exact⟨rfl,by simp⟩)|(have:=s.int_inv;subst this;exact⟨rfl,by simp⟩)|(have:=s.bl_inv;subst this;exact⟨rfl,by simp⟩)|(have:=s.str_inv;subst this;exact⟨rfl,by simp⟩)
 | int i=>have:=r.int_inv;subst this;cases e <;> first|exact ff h|(have:=s.non_inv;subst this;exact⟨rfl,by simp⟩)|(have:=s.int_inv;subst this;exact⟨rfl,by simp⟩)|(have:=s.bl_inv;subst this;exact⟨rfl,by simp⟩)|(have:=s.str_inv;subst this;exact⟨rfl,by simp⟩)
 | bl b=>have:=r.bl_inv;subst this;cases e <;> first|exact ff h|(have:=s.non_inv;subst this;exact⟨rfl,by simp⟩)|(have:=s.int_inv;subst this;exact⟨rfl,by simp⟩)|(have:=s.bl_inv;subst this;exact⟨rfl,by simp⟩)|(have:=s.str_inv;subst this;exact⟨rfl,by simp⟩)
 | str x=>have:=r.str_inv;subst this;cases e <;> first|exact ff h|(have:=s.non_inv;subst this;exact⟨rfl,by simp⟩)|(have:=s.int_inv;subst this;exact⟨rfl,by simp⟩)|(have:=s.bl_inv;subst this;exact⟨rfl,by simp⟩)|(have:=s.str_inv;subst this;exact⟨rfl,by simp⟩)
 | _=>exact ff h
section
variable {X:Cx}{O:List Nat}
theorem OpR.orM(h:OpR X f r)(h':OpR X f r')(x:∀a b H Q,r2 a b H Q->r a b H Q\/r' a b H Q):OpR X f r2:=OpR.mono (OpR.or h h') x
theorem gW(h:fR d=true):∃x,gZ d=some x/\x.nb=true/\x.dep<=60:=by
 unfold fR at h;cases e:gZ d with
 | none=>rw[e]at h;cases h
 | some x=>rw[e]at h;simp only[zaQ,decide_eq_true_eq]at h;exact⟨x,rfl,h.1,h.2⟩
theorem F3(h:WM d=true)(e:gZ d=some x):x.seq=true:=by
 cases d with
 | tup l=>rw[gZ]at e;obtain⟨xs,_,rfl⟩:=map_some e;rfl
 | lst l=>rw[gZ]at e;obtain⟨xs,_,rfl⟩:=map_some e;rfl
 | _=>exact ff h
theorem SG(hu:X.A.units+64<cLine):kO X (zaA .Eq) kN:=OpR.orM X3 (My.VZ hu) <| by
 rintro x y H Q ⟨A,dx,W,d,lv,U,N,e,q⟩;obtain⟨b,F,rfl⟩:=map_some e;unfold JC at F;split at F
 case isFalse=>cases F
 rename_i hc;cases F;rcases hc with hs|⟨s1,s2,k1,k2⟩
 ·left
  obtain⟨h1,h2⟩:=MX hs U N;refine⟨h1,?_⟩;have:decide (x=y)=@decide (dx=W) (zca _):=decide_eq_decide.mpr h2;rw[this];exact q _ H (Ext.refl _ _) (.bl _)
 ·right
  obtain⟨J,G,Y,a3⟩:=gW k1;obtain⟨M,B,b2,b3⟩:=gW k2;refine⟨J,M,fX G U,fX B N,F3 s1 G,F3 s2 B,Y,b2,a3,?_⟩;have:@decide (J=M) (zca _)=@decide (dx=W) (zca _):=decide_eq_decide.mpr ⟨λz=>pZ G (z ▸ B),λz=>by subst z;rw[G]at B;exact zaz B⟩;show Q (.bl (@decide (J=M) (zca _))) H;rw[this];exact q _ H (Ext.refl _ _) (.bl _)
theorem Y0(hu:X.A.units+64<cLine):kO X (zaA .NotEq) BB:=OpR.orM X0 (My.U6 hu) <| by
 rintro x y H Q ⟨A,dx,W,d,lv,U,N,e,q⟩;obtain⟨b,F,rfl⟩:=map_some e;unfold JC at F;split at F
 case isFalse=>cases F
 rename_i hc;cases F;rcases hc with hs|⟨s1,s2,k1,k2⟩
 ·left
  obtain⟨h1,h2⟩:=MX hs U N;refine⟨h1,?_⟩;have:decide (x=y)=@decide (dx=W) (zca _):=decide_eq_decide.mpr h2;rw[this];exact q _ H (Ext.refl _ _) (.bl _)
 ·right
  obtain⟨J,G,Y,a3⟩:=gW k1;obtain⟨M,B,b2,b3⟩:=gW k2;refine⟨J,M,fX G U,fX B N,F3 s1 G,F3 s2 B,Y,b2,a3,?_⟩;have:@decide (J=M) (zca _)=@decide (dx=W) (zca _):=decide_eq_decide.mpr ⟨λz=>pZ G (z ▸ B),λz=>by subst z;rw[G]at B;exact zaz B⟩;show Q (.bl (!@decide (J=M) (zca _))) H;rw[this];exact q _ H (Ext.refl _ _) (.bl _)
noncomputable def gN:D->Bool
 | .non=>true|_=>false
def WR(d e:D):Option D:=if gN e then some (.bl (gN d))else none
def GG(d e:D):Option D:=if gN e then some (.bl (!gN d))else none
theorem D3(r:RepB A H d v):decide (v=.non)=gN d:=by
 cases d with
 | non=>have:=r.non_inv;subst this;rfl
 | bl b=>have:=r.bl_inv;subst this;rfl
 | int b=>have:=r.int_inv;subst this;rfl
 | str b=>have:=r.str_inv;subst this;rfl
 | tup l=>obtain⟨_,_,rfl,_⟩:=r.tup_inv;rfl
 | lst l=>obtain⟨_,_,rfl,_⟩:=r.lst_inv;rfl
 | dK l=>obtain⟨_,_,rfl,_⟩:=r.dK_inv;rfl
 | dT l=>obtain⟨_,_,rfl,_⟩:=r.dT_inv;rfl
 | ob C l=>obtain⟨_,_,_,rfl,_⟩:=r.ob_inv;rfl
 | mem d f=>obtain⟨_,rfl,_⟩:=r.mem_inv;rfl
theorem WJ:kO X (zaA .Is) WR:=OpR.mono T1 <| by
 rintro x y H Q ⟨A,dx,z,d,G,B,F,e,q⟩;unfold WR at e;cases z with
 | non=>cases e;have:=F.non_inv;subst this;exact⟨rfl,by rw[D3 B];exact q _ H (Ext.refl _ _) (.bl _)⟩
 | _=>exact nn e
theorem O5:kO X (zaA .IsNot) GG:=OpR.mono QM <| by
 rintro x y H Q ⟨A,dx,z,d,G,B,F,e,q⟩;unfold GG at e;cases z with
 | non=>cases e;have:=F.non_inv;subst this;exact⟨rfl,by rw[D3 B];exact q _ H (Ext.refl _ _) (.bl _)⟩
 | _=>exact nn e
theorem Inv.lstR(I:Inv X pins σ H s)(q:Rd H l (.lst xs)):xs.length<=zaj/\∃(its:List Value) (n:Nat),Vals xs its/\xs.length=its.length/\s.heap.get? l=some {cls:=.type "list",data:=.seq its.toArray n}:=by
 obtain⟨z,its,n,r,e⟩:=(show ObjOk X.prog X.w H s.heap l (.lst xs)from q.ok I.hok);exact⟨z,its,n,r,r.length,e⟩
def YQ:R2:=λx y H Q=>∃l b xs zs,x=.ref l/\y=.ref b/\Rd H l (.lst xs)/\Rd H b (.lst zs)/\xs.length+zs.length<=zaj/\∀p,H p=none->Q (.ref p) (upd H p (.lst (xs++zs)))
theorem N8:OpR X (zaM .Add) YQ:=by
 intro pins s σ H x y v u Q I J F h;obtain⟨l,b,xs,zs,rfl,rfl,W,M,hz,q⟩:=h;cases J;cases F;obtain⟨z,its,n,r,Y,e⟩:=Inv.lstR I W;obtain⟨z2,B,n2,r2,G,N⟩:=Inv.lstR I M;refine PySem.P.add_list e N ?_ (by rw[zay,zay];lia);have U:its.toArray++B.toArray=(its++B).toArray:=by simp
 rw[U];exact⟨.ref _,_,I.lnew (t':=s.toks) (r.append r2) (by rw[zbc];lia),rfl,q _ I.fresh⟩
end
section
variable {X:Cx}{O:List Nat}
theorem RepL.nil_iff(r:RepL A H ds vs):vs=[]↔ds=[]:=by cases r <;> simp
def vU:D->D->Option D
 | .int i,.int j=>some (.int (i+j))
 | .str i,.str j=>if a7 (i.length+j.length)then some (.str (i++j))else none
 | .lst l,.lst m=>if a7 (l.length+m.length)then some (.lst (l++m))else none
 | .tup (a::l),.tup m=>if a7 (l.length+1+m.length)then some (.tup (a::l++m))else none
 | _,_=>none
theorem UO:kO X (zaM .Add) vU:=OpR.mono (OpR.or (OpR.or WA CC) (OpR.or N8 OS)) <| by
 rintro x y H Q ⟨A,dx,G,d,N,M,J,e,q⟩;cases dx with
 | int i=>
  cases G with
  | int j=>cases e;have:=M.int_inv;subst this;have:=J.int_inv;subst this;exact .inl (.inl ⟨i,j,rfl,rfl,q _ H (Ext.refl _ _) (.int _)⟩)
  | _=>exact nn e
 | str i=>
  cases G with
  | str j=>
   simp only[vU]at e;by_cases B:a7 (i.length+j.length)=true
   ·rw[if_pos B]at e;cases e;have:=M.str_inv;subst this;have:=J.str_inv;subst this
    exact .inl (.inr ⟨i,j,rfl,rfl,gL B,q _ H (Ext.refl _ _) (.str _)⟩)
   ·rw[if_neg B]at e;cases e
  | _=>exact nn e
 | lst l=>
  cases G with
  | lst m=>
   simp only[vU]at e;by_cases B:a7 (l.length+m.length)=true
   ·rw[if_pos B]at e;cases e
    obtain⟨a,xs,rfl,h1,r1⟩:=M.lst_inv;obtain⟨b,ys,rfl,h2,r2⟩:=J.lst_inv;exact .inr (.inl ⟨a,b,xs,ys,rfl,rfl,h1,h2,by rw[r1.length,r2.length];exact gL B,λp F=>q _ _ (Ext.new F) (.lst (λz=>N p z F) (.inl aG) ((r1.append r2).ext (Ext.new F)))⟩)
   ·rw[if_neg B]at e;cases e
  | _=>exact nn e
 | tup l=>
  cases l with
  | nil=>cases G <;> exact nn e
  | cons a0 l=>
   cases G with
   | tup m=>
    simp only[vU]at e;by_cases B:a7 (l.length+1+m.length)=true
    ·rw[if_pos B]at e;cases e
     obtain⟨a,xs,rfl,h1,r1⟩:=M.tup_inv;obtain⟨b,ys,rfl,h2,r2⟩:=J.tup_inv;refine .inr (.inr ⟨a,b,xs,ys,rfl,rfl,.inl (.inl h1),.inl (.inl h2),λz=>(by have:=r1.nil_iff.mp z;cases this),by rw[r1.length,r2.length];exact gL B,λz=>?_,λ_ p F=>q _ _ (Ext.new F) (.tup aG ((r1.append r2).ext (Ext.new F)))⟩);refine q _ H (Ext.refl _ _) (.tup h1 ?_);have:=r2.nil_iff.mp z;subst this;rw[zbb];exact r1
    ·rw[if_neg B]at e;cases e
   | _=>exact nn e
 | _=>exact nn e
noncomputable def iV:List D->Option (List Int)
 | []=>some []
 | .int i::ds=>(iV ds).map (i::·)
 | _=>none
theorem fW:∀ {ds:List D} {ns:List Int} {vs:List V},iV ds=some ns->RepL A H ds vs->vs=ns.map V.int
 | [],ns,vs,h,r=>by cases h;cases r;rfl
 | .int i::ds,ns,vs,h,r=>by
  obtain⟨ms,h1,rfl⟩:=map_some h;cases r with
  | cons r rs=>cases r;rw[fW h1 rs];rfl
def qm:D->D->Option D
 | .int i,.int j=>some (.bl (decide (i<j)))
 | .tup l,.tup m=>(iV l).bind λns=>(iV m).map λms=>.bl (HT.lexLt ns ms)
 | _,_=>none
theorem T8(M:X.A.units<cLine):kO X (zaA .Lt) qm:=OpR.mono (OpR.or YT (WK M)) <| by
 rintro x y H Q ⟨A,dx,F,d,N,B,z,e,q⟩;cases dx with
 | int i=>
  cases F with
  | int j=>cases e;have:=B.int_inv;subst this;have:=z.int_inv;subst this;exact .inl ⟨i,j,rfl,rfl,q _ H (Ext.refl _ _) (.bl _)⟩
  | _=>exact nn e
 | tup l=>
  cases F with
  | tup m=>
   obtain⟨ns,G,e⟩:=bind_some e;obtain⟨ms,J,rfl⟩:=map_some e;obtain⟨a,xs,rfl,h1,r1⟩:=B.tup_inv;obtain⟨b,ys,rfl,h2,r2⟩:=z.tup_inv;have:=fW G r1;subst this;have:=fW J r2;subst this;exact .inr ⟨a,b,ns,ms,rfl,rfl,.inl (.inl h1),.inl (.inl h2),q _ H (Ext.refl _ _) (.bl _)⟩
  | _=>exact nn e
 | _=>exact nn e
open Classical in
def RU(x y:D):Option Bool:=match y with
 | .dK _=>(nF y x).map (·.isSome)
 | .dT _=>(nF y x).map (·.isSome)
 | .lst l=>if fR x=true/\l.all fR=true then some (l.any λd=>decide (d=x))else none
 | .tup l=>if fR x=true/\l.all fR=true then some (l.any λd=>decide (d=x))else none
 | _=>none
def xO(x y:D):Option D:=(RU x y).map λb=>.bl (!b)
open Classical in
theorem zI(I:Inv X pins σ H s)(hu:Ar.units+60<cLine)(kx:fR x=true)(rx:RepB A H x v)(ru:RelV v u)(Y:l.all fR=true)(rl:RepL A H l xs)(U:Vals xs its) :
  ∃f:Value->Bool,(∀y∈its,SeqAt.EqAt Ar s y u (f y))/\its.any f=l.any λd=>decide (d=x):=by
 obtain⟨B,F,a2,a3⟩:=gW kx;have J:My.Rep X.K H B v:=fX F rx;let g:Value->Bool:=λy=>decide (∃w z,RelV w y/\My.Rep X.K H z w/\z=B)
 have one:∀ {d:D} {w:V} {y:Value},fR d=true->Rep A H d w->RelV w y->g y=decide (d=x)/\SeqAt.EqAt Ar s y u (g y):=by
  intro d w y kd rd N;obtain⟨z,G,b2,b3⟩:=gW kd;have M:My.Rep X.K H z w:=wN G rd;have e:g y=decide (z=B):=by
   refine decide_eq_decide.mpr ⟨λ⟨w',z',q1,q2,q3⟩=>?_,λe=>⟨w,z,N,M,e⟩⟩;have:=RelV.inj N q1;subst this;rw[My.Rep.inj I _ _ _ M q2,q3]
  have W:decide (z=B)=decide (d=x):=decide_eq_decide.mpr ⟨λq=>pZ G (q ▸ F),λq=>by subst q;rw[G]at F;exact zaz F⟩;refine⟨e.trans W,?_⟩;rw[e];exact My.pT I 60 Ar z B w v y u b3 hu b2 a2 M J N ru
 refine⟨g,?_,?_⟩
 ·intro y hy
  obtain⟨j,hj⟩:=List.mem_iff_getElem?.mp hy;have ad:=U.length;have al:j<its.length:=(List.getElem?_eq_some_iff.mp hj).1;have hx:xs[j]?=some (xs[j]'(by lia)):=zaT (by lia);obtain⟨u',e1,r1⟩:=U.get hx;rw[hj]at e1;cases e1;obtain⟨d,W,r2⟩:=rl.get hx;exact(one (List.all_eq_true.mp Y _ (zax W)) r2 r1).2
 ·have all:∀(l:List D) (xs:List V) (its:List Value),l.all fR=true->RepL A H l xs->Vals xs its->its.any g=l.any λd=>decide (d=x):=by
   intro l;induction l with
   | nil=>intro xs its _ r v;cases r;cases v;rfl
   | cons d l ih=>
    intro xs its k r v;cases r with
    | cons h t=>
     cases v with
     | cons r rs=>
      rw[List.all_cons,zaQ]at k;rw[zb8,zb8,(one k.1 h r).1,ih _ _ k.2 t rs]
  exact all l xs its Y rl U
theorem LC(hu:X.A.units+64<cLine):kO X (zaA .NotIn) xO:=by
 intro pins s σ H x y v u Q I N G h;obtain⟨A,dx,Y,d,lv,U,J,e,q⟩:=h;obtain⟨b,z,rfl⟩:=map_some e;have fin:∀k,k=(!b)->EP X pins σ Q (.bool k) s:=λk hk=>⟨.bl (!b),H,I,by rw[hk];rfl,q _ H (Ext.refl _ _) (.bl _)⟩
 have W:X.A.units+1<cLine:=by lia
 have dict:∀o,nF Y dx=some o->o.isSome=b->wpAny (model X.prog X.w) X.A (zaA .NotIn v u) (EP X pins σ Q) X.xe s:=λo B F=>by
  obtain⟨a,ov,rfl,_,g,e3⟩:=sN B J U;cases G;refine OO W I g N λs' I'=>⟨.bl (!b),H,I',?_,q _ H (Ext.refl _ _) (.bl _)⟩
  have:ov.isSome=b:=by rw[<- F];rcases e3 with⟨rfl,rfl⟩|⟨_,_,rfl,rfl,_⟩ <;> rfl
  rw[this];rfl
 cases Y with
 | dK l=>obtain⟨o,B,F⟩:=map_some z;exact dict o B F
 | dT l=>obtain⟨o,B,F⟩:=map_some z;exact dict o B F
 | lst l=>
  simp only[RU]at z;split at z
  case isFalse=>cases z
  rename_i hc;cases z;obtain⟨a,xs,rfl,h1,r1⟩:=J.lst_inv;cases G;obtain⟨its,r,M,hz⟩:=I.list (.inl h1);obtain⟨f,f1,f2⟩:=zI (Ar:=X.A.in1) I (by show X.A.units+1+60<cLine;lia) hc.1 U N hc.2 r1 r;refine SeqAt.notIn_listAt f (My.PlainL.isList M) (λw hw=>f1 w (by simpa using hw)) (fin _ ?_);rw[<- f2];simp
 | tup l=>
  simp only[RU]at z;split at z
  case isFalse=>cases z
  rename_i hc;cases z;obtain⟨a,xs,rfl,h1,r1⟩:=J.tup_inv;cases G;obtain⟨its,r,M,hz⟩:=I.tuple (.inl (.inl h1));obtain⟨f,f1,f2⟩:=zI (Ar:=X.A.in1) I (by show X.A.units+1+60<cLine;lia) hc.1 U N hc.2 r1 r;refine SeqAt.notIn_tupleAt f M (λw hw=>f1 w (by simpa using hw)) (fin _ ?_);rw[<- f2];simp
 | _=>cases z
def gE:List D->Option D
 | [.lst l]=>some (.int l.length)
 | [.tup l]=>some (.int l.length)
 | [.str z]=>if a7 z.length then some (.int z.length)else none
 | [.dK l]=>some (.int l.length)
 | _=>none
theorem UW:kE X (.builtin "len") gE:=by
 intro pins s σ H xs G Q I r h;obtain⟨A,ds,d,W,B,e,q⟩:=h
 match ds,B,e with
 | [.lst l],B,e=>
  cases e;obtain⟨v,rfl,h1⟩:=B.one;obtain⟨a,xs,rfl,h2,r2⟩:=h1.lst_inv;exact sV pins s σ H _ G Q I r ⟨_,_,rfl,.inl ⟨xs,.inl h2,rfl⟩,by rw[r2.length];exact q _ H (Ext.refl _ _) (.int _)⟩
 | [.tup l],B,e=>
  cases e;obtain⟨v,rfl,h1⟩:=B.one;obtain⟨a,xs,rfl,h2,r2⟩:=h1.tup_inv;exact sV pins s σ H _ G Q I r ⟨_,_,rfl,.inr ⟨xs,.inl (.inl h2),rfl⟩,by rw[r2.length];exact q _ H (Ext.refl _ _) (.int _)⟩
 | [.str z],B,e=>
  simp only[gE]at e;by_cases F:a7 z.length=true
  ·rw[if_pos F]at e;cases e
   obtain⟨v,rfl,h1⟩:=B.one;have:=h1.str_inv;subst this;exact sV pins s σ H _ G Q I r ⟨_,_,rfl,⟨gL F,rfl⟩,q _ H (Ext.refl _ _) (.int _)⟩
  ·rw[if_neg F]at e;cases e
 | [.dK l],B,e=>
  cases e;obtain⟨v,rfl,h1⟩:=B.one;obtain⟨a,xs,rfl,h2,N,r2⟩:=h1.dK_inv;obtain⟨u,rfl,J⟩:=vals1 r;cases J;have M:xs.length=l.length:=by have:=congrArg zbo N;simpa using this
  exact YJ I h2 λt s' U=>⟨.int xs.length,H,U,⟨t,rfl⟩,by rw[M];exact q _ H (Ext.refl _ _) (.int _)⟩
 | [],_,e=>cases e
 | [.non],_,e=>cases e
 | [.bl _],_,e=>cases e
 | [.int _],_,e=>cases e
 | [.dT _],_,e=>cases e
 | _::_::_,_,e=>simp[gE]at e
noncomputable def AZ:List D->Option D
 | [.int i,.int j]=>some (.int (if j<i then j else i))
 | _=>none
noncomputable def GH:List D->Option D
 | [.int i,.int j]=>some (.int (if j>i then j else i))
 | _=>none
theorem zC{ds:List D}{g:Int->Int->D}(h:(match ds with|[.int i,.int j]=>some (g i j)|_=>none)=some d):∃i j,ds=[.int i,.int j]/\d=g i j:=by
 split at h
 ·cases h;exact⟨_,_,rfl,rfl⟩
 ·cases h
theorem OL(z:X.calm=true):kE X (.builtin "min") AZ:=CallR.mono (GN z) <| by
 rintro xs H Q ⟨A,ds,d,B,r,e,q⟩;obtain⟨i,j,rfl,rfl⟩:=zC (g:=λi j=>.int (if j<i then j else i)) e;obtain⟨v,w,rfl,h1,h2⟩:=r.two;have:=h1.int_inv;subst this;have:=h2.int_inv;subst this;exact⟨i,j,rfl,q _ H (Ext.refl _ _) (.int _)⟩
theorem QQ(z:X.calm=true):kE X (.builtin "max") GH:=CallR.mono (G9 z) <| by
 rintro xs H Q ⟨A,ds,d,B,r,e,q⟩;obtain⟨i,j,rfl,rfl⟩:=zC (g:=λi j=>.int (if j>i then j else i)) e;obtain⟨v,w,rfl,h1,h2⟩:=r.two;have:=h1.int_inv;subst this;have:=h2.int_inv;subst this;exact⟨i,j,rfl,q _ H (Ext.refl _ _) (.int _)⟩
noncomputable def kA:List D->Option D
 | [.lst l]=>some (.tup l)
 | [.tup l]=>some (.tup l)
 | _=>none
noncomputable def GF:List D->Option D
 | [.lst l]=>some (.lst l)
 | [.tup l]=>some (.lst l)
 | _=>none
theorem FG{ds:List D}{g:List D->D}(h:(match ds with|[.lst l]=>some (g l)|[.tup l]=>some (g l)|_=>none)=some d):∃l,(ds=[.lst l]\/ds=[.tup l])/\d=g l:=by
 split at h
 ·cases h;exact⟨_,.inl rfl,rfl⟩
 ·cases h;exact⟨_,.inr rfl,rfl⟩
 ·cases h
theorem jW:kE X (.type "tuple") kA:=CallR.mono uF <| by
 rintro xs H Q ⟨A,ds,d,F,r,e,q⟩;obtain⟨l,B,rfl⟩:=FG (g:=.tup) e;rcases B with rfl|rfl
 ·obtain⟨v,rfl,h1⟩:=r.one
  obtain⟨a,xs,rfl,h2,r2⟩:=h1.lst_inv;exact⟨a,xs,rfl,.inl ⟨.inl h2,λp z=>q _ _ (Ext.new z) (.tup aG (r2.ext (Ext.new z)))⟩⟩
 ·obtain⟨v,rfl,h1⟩:=r.one
  obtain⟨a,xs,rfl,h2,r2⟩:=h1.tup_inv;exact⟨a,xs,rfl,.inr ⟨.inl (.inl h2),q _ H (Ext.refl _ _) (.tup h2 r2)⟩⟩
theorem PY:F4 X (.type "list") GF:=CallR.mono wB <| by
 rintro xs H Q ⟨A,ds,d,F,r,e,q⟩;obtain⟨l,G,rfl⟩:=FG (g:=.lst) e;rcases G with rfl|rfl
 ·obtain⟨v,rfl,h1⟩:=r.one
  obtain⟨a,xs,rfl,h2,r2⟩:=h1.lst_inv;exact⟨a,xs,rfl,.inl (.inl h2),λp B=>q p _ (Ext.new B) B (λz=>F p z B) (.lst aG (r2.fresh B))⟩
 ·obtain⟨v,rfl,h1⟩:=r.one
  obtain⟨a,xs,rfl,h2,r2⟩:=h1.tup_inv;exact⟨a,xs,rfl,.inr (.inl (.inl h2)),λp B=>q p _ (Ext.new B) B (λz=>F p z B) (.lst aG (r2.fresh B))⟩
end
section
variable {X:Cx}{O:List Nat}
def tyN:D->String
 | .non => "NoneType" | .bl _ => "bool" | .int _ => "int" | .str _ => "str" | .tup _ => "tuple" | .lst _ => "list" | .dK _ => "dict" | .dT _ => "dict" | .ob _ _ => "" | .mem _ _ => ""
def oA:D->Bool
 | .ob _ _=>false | .mem _ _=>false|_=>true
def qz(K:zae):List V->Hp->VK->Prop:=λxs H Q=>∃A d x n b,xs=[x,.ty n]/\oA d=true/\RepB A H d x/\zdd K (.type (tyN d)) (.type n)=some b/\Q (.bl b) H
theorem KW:CallR X (.builtin "isinstance") (qz X.K):=by
 intro pins s σ H xs J Q I r h;obtain⟨A,d,x,n,b,rfl,G,B,e,q⟩:=h;have F:∀t,TyOf X.K H x t->t=.type (tyN d)->wpAny (model X.prog X.w) X.A (call (.builtin "isinstance") J) (EP X pins σ Q) X.xe s:=λt N U=>by
  subst U;exact My.JR pins s σ H _ J Q I r ⟨x,n,_,b,rfl,N,e,q⟩
 cases d with
 | non=>have:=B.non_inv;subst this;exact F _ .non rfl
 | bl c=>have:=B.bl_inv;subst this;exact F _ (.bl c) rfl
 | int c=>have:=B.int_inv;subst this;exact F _ (.int c) rfl
 | str c=>have:=B.str_inv;subst this;exact F _ (.str c) rfl
 | tup l=>obtain⟨a,xs,rfl,h1,_⟩:=B.tup_inv;exact F _ (.tup h1) rfl
 | lst l=>
  obtain⟨a,xs,rfl,h1,_⟩:=B.lst_inv;rcases h1 with h1|⟨o,h1⟩
  ·exact F _ (.lst h1) rfl
  ·exact F _ (.frz h1) rfl
 | dK l=>
  obtain⟨a,xs,rfl,h1,_⟩:=B.dK_inv;obtain⟨u,M,rfl,r1,r2⟩:=vals2 r;cases r1;cases r2;obtain⟨_,_,vs,_,p⟩:=(show ObjOk X.prog X.w H s.heap a (.dK xs)from h1.ok I.hok);obtain⟨o,es,ep,h1,h2,_⟩:=p;exact zbm zde I.kIn ⟨o,h1,h2.1⟩ e (λz=>nomatch z) λtk=>⟨.bl b,H,I.tok tk,rfl,q⟩
 | dT l=>
  obtain⟨a,xs,rfl,h1,_⟩:=B.dT_inv;obtain⟨u,M,rfl,r1,r2⟩:=vals2 r;cases r1;cases r2;obtain⟨_,_,xs,_,o,es,ep,h1,h2,_⟩:=(show ObjOk X.prog X.w H s.heap a (.dT xs)from h1.ok I.hok);exact zbm zde I.kIn ⟨o,h1,h2.1⟩ e (λz=>nomatch z) λtk=>⟨.bl b,H,I.tok tk,rfl,q⟩
 | ob _ _=>cases G
 | mem _ _=>cases G
noncomputable def xX(n:String)(d:D):Bool:=match d with
 | .non=>false
 | .bl _=>n == "bool" || n == "int"
 | .int _=>n == "int"
 | .str _=>n == "str"
 | .tup _=>n == "tuple"
 | .lst _=>n == "list"
 | .dK _=>n == "dict"
 | .dT _=>n == "dict"
 | _=>false
def Kit(n:String):Prop:=∀(K:zae) (d:D),oA d=true->zdd K (.type (tyN d)) (.type n)=some (xX n d)
theorem kit_tuple:Kit "tuple" := λK d h=>by cases d <;> first|rfl|cases h
def WX(n:String)(f:Ev):Ev:=λρ=>(f ρ).bind λd=>if oA d=true then some (.bl (xX n d))else none
theorem T9(F:Kit n)(N:Gl X "isinstance")(M:X.mg "isinstance" = none)(G:Gl X x)(B:X.mg x=none)(Y:zaH x=some (.type n))(U:PB X O e f)(z:x ≠ "__name__" := by decide)(hd:(x == ("__debug__" : Str))=false:=by decide)
  (h1:zag [e,.Name x p2] X.env=(false,eval e X.env)::zag [.Name x p2] X.env:=by rfl) (h2:(zaG pos (zag [.Name x p2] X.env)).any (·.1)=false:=by rfl) (W:zag [.Name x p2] X.env=(false,eval (.Name x p2) X.env)::zag [] X.env:=by rfl) :
  PD X O (.Call (.Name "isinstance" p) [e,.Name x p2] [] pos) (WX n f):=
 PE.mono (yS KW N M My.boot_isinstance (cT U (cT (OG (v:=.ty n) G B Y rfl z hd) fM W) h1) (by decide) (by decide) h1 h2) <| by
  rintro σ H Q ⟨H0,A0,A,E,ρ,d,st,e,q⟩;obtain⟨x,ex,e⟩:=bind_some e;by_cases z:oA x=true
  ·rw[if_pos z]at e
   cases e;exact⟨H0,A0,A,E,ρ,x,st,ex,λv H1 J r1=>⟨A,x,v,n,_,rfl,z,r1,F _ _ z,q _ H1 J (.bl _)⟩⟩
  ·rw[if_neg z]at e;cases e
def ins{α:Type}(p:List Int×α):List (List Int×α)->List (List Int×α)
 | []=>[p]
 | q::r=>if HT.lexLt p.1 q.1=true then p::q::r else q::ins p r
def SL(g:D->Option D)(f:Ev):Ev:=λρ=>(f ρ).bind g
end
def xW:D->Option Int->Option Int->Option D
 | .tup l,lo,hi=>some (.tup (cutD l lo hi))
 | .lst l,lo,hi=>some (.lst (cutD l lo hi))
 | _,_,_=>none
theorem qav:SlR X (rS xW):=SlR.mono (SlR.or qat (SlR.mono qah λx lo hi H Q (h:rS Z3 x lo hi H Q)=>by
  obtain⟨A,dx,d,z,B,e,q⟩:=h;exact⟨A,dx,d,z,B,e,λa H' x n G o=>q _ H' x ((o.av (A':=A) λb F=>.inl (.inl F)).rep G)⟩)) λx lo hi H Q ⟨A,dx,d,z,B,e,q⟩=>by
 cases dx with
 | tup l=>exact .inl ⟨A,_,d,z,B,e,q⟩
 | lst l=>exact .inr ⟨A,_,d,z,B,e,q⟩
 | _=>exact nn e
section
variable {ρ:cU}{f g:Ev}{d x y:D}{i j:Int}{k:Nat}
@[simp] theorem q_seq{f g:Sv}:dB f g ρ=(f ρ).bind λo=>match o with | .nx ρ'=>g ρ'|o=>some o:=rfl
@[simp] theorem q_set:dZ k f ρ=(f ρ).map λd=>.nx (ρ.set k (some d)):=rfl
@[simp] theorem q_if{c:Bv}{f g:Sv}:BD c f g ρ=(c ρ).bind λb=>if b=true then f ρ else g ρ:=rfl
@[simp] theorem q_rt:JD f ρ=(f ρ).map .rt:=rfl
@[simp] theorem q_nx:R7 ρ=some (.nx ρ):=rfl
@[simp] theorem q_bad:R0 ρ=none:=rfl
@[simp] theorem q_asg{g:Gv}:RS f g ρ=(f ρ).bind λd=>(g d ρ).map .nx:=rfl
@[simp] theorem q_for{f:Lv}{g:Gv}{b:Sv}:A7 f g b ρ=(f ρ).bind λitems=>kG g b items ρ:=rfl
@[simp] theorem q_app:IR k f ρ=(aD k ρ).bind λx=>match x with
 | .lst l=>(f ρ).bind λd=>if a7 l.length then some (.nx (ρ.set k (some (.lst (l++[d])))))else none
 | _=>none:=rfl
@[simp] theorem q_put:DF k f g ρ=(g ρ).bind λe=>(aD k ρ).bind λx=>(f ρ).bind λq=>(lS x q e).map λd=>.nx (ρ.set k (some d)):=rfl
@[simp] theorem q_var:aD k ρ=(ρ[k]?).join:=rfl
@[simp] theorem q_c:eC d ρ=some d:=rfl
@[simp] theorem q_op:bC o f g ρ=(f ρ).bind λx=>(g ρ).bind λy=>o x y:=rfl
@[simp] theorem q_call:aS F l ρ=(l ρ).bind F:=rfl
@[simp] theorem q_lnil:aZ ρ=some []:=rfl
@[simp] theorem q_lcons:aC f l ρ=(f ρ).bind λx=>(l ρ).bind λxs=>some (x::xs):=rfl
@[simp] theorem q_tup:eV l ρ=(l ρ).map .tup:=rfl
@[simp] theorem q_lst:NM l ρ=(l ρ).map .lst:=rfl
@[simp] theorem q_bind:SL o f ρ=(f ρ).bind o:=rfl
@[simp] theorem q_bof:pN f ρ=(f ρ).bind XD:=rfl
@[simp] theorem q_asB:XD (.bl b)=some b:=rfl
@[simp] theorem q_asI:W5 (.int i)=some i:=rfl
@[simp] theorem q_bnot:NT c ρ=(c ρ).map (!·):=rfl
@[simp] theorem q_band:IT a b ρ=(a ρ).bind λx=>if x=true then b ρ else some false:=rfl
@[simp] theorem q_bor:TF a b ρ=(a ρ).bind λx=>if x=true then some true else b ρ:=rfl
@[simp] theorem q_and:NP f g ρ=(f ρ).bind λx=>(XD x).bind λb=>if b=true then g ρ else some (.bl false):=rfl
@[simp] theorem q_neg:WS f ρ=(f ρ).bind λd=>(W5 d).map λi=>.int (-i):=rfl
@[simp] theorem q_ifx:qc c f g ρ=(c ρ).bind λb=>if b=true then f ρ else g ρ:=rfl
@[simp] theorem q_isi:WX n f ρ=(f ρ).bind λd=>if oA d=true then some (.bl (xX n d))else none:=rfl
@[simp] theorem no_int:oA (.int i)=true:=rfl
@[simp] theorem no_tup{l:List D}:oA (.tup l)=true:=rfl
@[simp] theorem no_lst{l:List D}:oA (.lst l)=true:=rfl
@[simp] theorem no_bl{b:Bool}:oA (.bl b)=true:=rfl
@[simp] theorem no_str{x:Str}:oA (.str x)=true:=rfl
@[simp] theorem no_non:oA .non=true:=rfl
@[simp] theorem q_sl:W4 o f a b ρ=(f ρ).bind λx=>(a ρ).bind λlo=>(b ρ).bind λhi=>o x lo hi:=rfl
@[simp] theorem q_oN:FY ρ=some none:=rfl
@[simp] theorem q_oS:vO f ρ=(f ρ).bind λd=>(W5 d).map some:=rfl
@[simp] theorem q_lR:lR o l ρ=(l ρ).bind o:=rfl
@[simp] theorem q_lSeq:NE f ρ=(f ρ).bind λd=>match d with
 | .lst l=>some l
 | .tup l=>some l
 | .dT l=>some (l.map λp=>.tup (p.1.map IZ))
 | _=>none:=rfl
@[simp] theorem q_comp{ms:List (Option Nat)}{it:Lv}{g:Gv}{c:Bv}:dY ms it g c f ρ=(it ρ).bind λitems=>if a7 items.length then(bD g c f items (i6 ms ρ)).map .lst else none:=rfl
@[simp] theorem q_yes:fJ ρ=some true:=rfl
@[simp] theorem q_name:aQ k d ρ=some (ρ.set k (some d)):=rfl
@[simp] theorem q_gnil:tW [] ρ=some ρ:=rfl
@[simp] theorem q_gcons{g:Gv}{h:TH}{ds:List D}:eA g h (d::ds) ρ=(g d ρ).bind λρ'=>h ds ρ':=rfl
@[simp] theorem q_gtup:kS n h (.tup l) ρ=if l.length=n then h l ρ else none:=rfl
@[simp] theorem q_sub:ZZ (.int i) (.int j)=some (.int (i-j)):=rfl
@[simp] theorem q_addI:vU (.int i) (.int j)=some (.int (i+j)):=rfl
@[simp] theorem q_ltI:qm (.int i) (.int j)=some (.bl (decide (i<j))):=rfl
@[simp] theorem q_gtI:A8 (.int i) (.int j)=some (.bl (decide (j<i))):=rfl
@[simp] theorem q_eqI:kN (.int i) (.int j)=some (.bl (decide (i=j))):=by
 unfold kN JC;rw[if_pos (.inl rfl)];simp
@[simp] theorem q_neI:BB (.int i) (.int j)=some (.bl (!decide (i=j))):=by
 unfold BB JC;rw[if_pos (.inl rfl)];simp
@[simp] theorem q_eqB:kN (.bl a) (.bl b)=some (.bl (decide (a=b))):=by
 unfold kN JC;rw[if_pos (.inl rfl)];simp
@[simp] theorem q_neB:BB (.bl a) (.bl b)=some (.bl (!decide (a=b))):=by
 unfold BB JC;rw[if_pos (.inl rfl)];simp
theorem bQ(h:0<j):dE (.int i) (.int j)=some (.int (i%j)):=if_pos h
theorem hV(h:0<j)(h2:j<1073741824):hW (.int i) (.int j)=some (.int (i/j)):=if_pos ⟨h,h2⟩
theorem X4(h:My.DK i j):F7 (.int i) (.int j)=some (.int (i*j)):=if_pos h
theorem F5(h:0<=j)(h2:j<=1000000)(q:i.natAbs<2^64):NJ (.int i) (.int j)=some (.int (i^j.toNat)):=if_pos ⟨h,h2,q⟩
@[simp] theorem q_isN:WR d .non=some (.bl (gN d)):=rfl
@[simp] theorem q_notN:GG d .non=some (.bl (!gN d)):=rfl
@[simp] theorem q_lenL:gE [.lst l]=some (.int l.length):=rfl
@[simp] theorem q_lenT:gE [.tup l]=some (.int l.length):=rfl
@[simp] theorem q_min:AZ [.int i,.int j]=some (.int (if j<i then j else i)):=rfl
@[simp] theorem q_max:GH [.int i,.int j]=some (.int (if j>i then j else i)):=rfl
@[simp] theorem q_tuL:kA [.lst l]=some (.tup l):=rfl
@[simp] theorem q_tuT:kA [.tup l]=some (.tup l):=rfl
@[simp] theorem q_liL:GF [.lst l]=some (.lst l):=rfl
@[simp] theorem q_liT:GF [.tup l]=some (.lst l):=rfl
@[simp] theorem q_slT{l:List D}{lo hi:Option Int}:xW (.tup l) lo hi=some (.tup (cutD l lo hi)):=rfl
@[simp] theorem q_slL{l:List D}{lo hi:Option Int}:xW (.lst l) lo hi=some (.lst (cutD l lo hi)):=rfl
@[simp] theorem q_itL:aI (.lst l) (.int i)=gD l i:=rfl
@[simp] theorem q_itT:aI (.tup l) (.int i)=gD l i:=rfl
@[simp] theorem q_itD:aI (.dT l) d=(nF (.dT l) d).join:=rfl
@[simp] theorem isi_int_int:xX "int" (.int i)=true:=rfl
@[simp] theorem isi_bool_int:xX "bool" (.int i)=false:=rfl
@[simp] theorem isi_tuple_tup:xX "tuple" (.tup l)=true:=rfl
@[simp] theorem isi_list_lst:xX "list" (.lst l)=true:=rfl
end
def turn(g:Gv)(b:Sv)(x:D):Sv:=λρ=>(g x ρ).bind b
theorem xH(I:Nat->cU->Prop)(N:I 0 ρ)(hs:∀i x ρ,items[i]?=some x->I i ρ->∃ρ',turn g b x ρ=some (.nx ρ')/\I (i+1) ρ'):∃ρ',kG g b items ρ=some (.nx ρ')/\I items.length ρ':=by
 have B:∀(m:List D) (k:Nat) (ρ:cU),items.drop k=m->k<=items.length->I k ρ->∃ρ',kG g b m ρ=some (.nx ρ')/\I items.length ρ':=by
  intro m;induction m with
  | nil=>
   intro k ρ e J h;have:items.length<=k:=by rw[List.drop_eq_nil_iff]at e;exact e
   have:k=items.length:=by lia
   subst this;exact⟨ρ,rfl,h⟩
  | cons x m ih=>
   intro k ρ e J h;have q:k<items.length:=by
    rcases Nat.lt_or_ge k items.length with z|z
    ·exact z
    ·rw[List.drop_eq_nil_iff.mpr z]at e;cases e
   rw[zcW q]at e;injection e with e1 e2
   obtain⟨ρ',h1,h2⟩:=hs k x ρ (by rw[<- e1];simp[q]) h;obtain⟨G,Y,W⟩:=ih (k+1) ρ' e2 q h2;refine⟨G,?_,W⟩;unfold turn at h1;obtain⟨F,M,U⟩:=bind_some h1;unfold kG;rw[M];show(b F).bind _=_;rw[U];exact Y
 exact B items 0 ρ rfl (zaI _) N
theorem aK(h:f (aH n ds)=some (.rt d)):bJ n f ds=some d:=by
 unfold bJ;rw[h];rfl
theorem aF(h:f ρ=some (.nx ρ')):dB f g ρ=g ρ':=by
 unfold dB;rw[h];rfl
theorem tL(h:f ρ=some (.rt d)):dB f g ρ=some (.rt d):=by
 unfold dB;rw[h];rfl
theorem qae(h:c ρ=some true):BD c f g ρ=f ρ:=by
 unfold BD;rw[h];rfl
theorem Y6(h:c ρ=some false):BD c f g ρ=g ρ:=by
 unfold BD;rw[h];rfl
theorem aM(h:f ρ=some d):dZ k f ρ=some (.nx (ρ.set k (some d))):=by
 unfold dZ;rw[h];rfl
theorem qv(h:f ρ=some d):JD f ρ=some (.rt d):=by
 unfold JD;rw[h];rfl
theorem kL{f:Lv}{g:Gv}{b rest:Sv}{ρ:cU}{items:List D}{out:Option Out}(z:f ρ=some items)(I:Nat->cU->Prop)(q:I 0 ρ)(hs:∀i x ρ,items[i]?=some x->I i ρ->∃ρ',turn g b x ρ=some (.nx ρ')/\I (i+1) ρ')(k:∀ρ',I items.length ρ'->rest ρ'=out):dB (A7 f g b) rest ρ=out:=by
 obtain⟨ρ',e,h⟩:=xH (g:=g) (b:=b) I q hs;rw[aF (by rw[q_for,z];exact e)];exact k ρ' h
open My (look put VI ZF YR)
noncomputable def tupI(k:List Int):D:=.tup (k.map .int)
theorem u9:∀k:List Int,NQ (k.map .int)=some (k.map zbs)
 | []=>rfl
 | i::k=>by rw[zak,NQ,u9 k];rfl
@[simp] theorem asT_tupI(k:List Int):TC (tupI k)=some (k.map zbs):=u9 k
theorem fY{ns:List Int}{k:Int}(z:0<=k)(h:k<(ns.length:Int)):∃c,gD (ns.map D.int) k=some (.int c)/\ns[k.toNat]?=some c:=by
 obtain⟨j,rfl⟩:∃j:Nat,k=(j:Int):=⟨k.toNat,by lia⟩;have q:j<ns.length:=by lia
 exact⟨ns[j],bV (by simp[q]),by simp[q]⟩
noncomputable def gO:D->Option (List D)
 | .lst l=>some l
 | .tup l=>some l
 | _=>none
noncomputable def lT:List D->List D->List D
 | x::xs,y::ys=>.tup [x,y]::lT xs ys
 | _,_=>[]
def RP(f:Lv):Lv:=λρ=>(f ρ).bind λds=>match ds with
 | [a,b]=>(gO a).bind λxs=>(gO b).map λys=>lT xs ys
 | _=>none
theorem zM:∀ {xs ys:List D} {i:Nat} {d:D},(lT xs ys)[i]?=some d->∃x y,xs[i]?=some x/\ys[i]?=some y/\d=.tup [x,y]
 | [],_,i,d,h=>by simp[lT]at h
 | _::_,[],i,d,h=>by simp[lT]at h
 | x::xs,y::ys,0,d,h=>by simp[lT]at h;exact⟨x,y,rfl,rfl,h.symm⟩
 | x::xs,y::ys,i+1,d,h=>zM (xs:=xs) (ys:=ys) (i:=i) (by simpa[lT]using h)
theorem zT:∀ {xs ys:List D} {i:Nat},(lT xs ys).length<=i->xs.length<=i\/ys.length<=i
 | [],_,i,_=>.inl (zaI _)
 | _::_,[],i,_=>.inr (zaI _)
 | x::xs,y::ys,0,h=>by simp[lT]at h
 | x::xs,y::ys,i+1,h=>(zT (xs:=xs) (ys:=ys) (i:=i) (by simpa[lT]using h)).imp (λz=>by simpa using z) λz=>by simpa using z
theorem xE{A:Av}{H:Hp}{K:zae}{d:D}{l:List D}{v:V}(h:gO d=some l)(r:Rep A H d v):∃t a xs,v=.ref a/\My.BC K t H a xs/\RepL A H l xs/\∀A' H',Rep A' H' d v->∃ys,My.BC K t H' a ys/\RepL A' H' l ys:=by
 cases d with
 | lst m=>
  cases h;obtain⟨a,xs,rfl,h1,r1⟩:=RepB.lst_inv (.of r);refine⟨false,a,xs,rfl,.inl h1,r1,λA' H' q=>?_⟩;obtain⟨z,ys,e,h2,r2⟩:=RepB.lst_inv (.of q);cases e;exact⟨ys,.inl h2,r2⟩
 | tup m=>
  cases h;obtain⟨a,xs,rfl,h1,r1⟩:=RepB.tup_inv (.of r);refine⟨true,a,xs,rfl,.inl (.inl h1),r1,λA' H' q=>?_⟩;obtain⟨z,ys,e,h2,r2⟩:=RepB.tup_inv (.of q);cases e;exact⟨ys,.inl (.inl h2),r2⟩
 | _=>exact nn h
theorem OQ{X:Cx}{O:List Nat}{J:List Expr}{W}{tp:Pos}{a b:Expr}{f:Lv}{p pos:Pos}(hg:Gl X "zip")(hm:X.mg "zip" = none)(ha:A9 X O [a,b] f)(hs:zag [a,b] X.env=[(false,eval a X.env),(false,eval b X.env)]:=by rfl)(aa:zag [b] X.env=[(false,eval b X.env)]:=by rfl) :
  PDI X O (.Tuple J W tp) (.Call (.Name "zip" p) [a,b] [] pos) (RP f):=PI.mono (My.UJ hg hm ha hs aa) λσ H R ⟨H0,A0,A,E,ρ,items,st,e,q⟩=>by
 obtain⟨ds,e1,e⟩:=bind_some e;refine⟨H0,A0,A,E,ρ,ds,st,e1,λvs H1 W r1=>?_⟩;split at e
 case h_2=>cases e
 rename_i da db;obtain⟨xs,e2,e⟩:=bind_some e;obtain⟨ys,e3,rfl⟩:=map_some e;obtain⟨v,w,rfl,r2,r3⟩:=r1.two;obtain⟨t1,U,us,rfl,q1,_,k1⟩:=xE (K:=X.K) e2 r2;obtain⟨t2,N,ws,rfl,q2,_,k2⟩:=xE (K:=X.K) e3 r3;refine⟨t1,t2,U,N,us,ws,rfl,q1,q2,q _ H1 [.rep da (.ref U),.rep db (.ref N)] W (λp hp=>?_) ?_⟩
 ·rcases List.mem_cons.mp hp with z|z
  ·rw[z];exact r2
  ·rw[List.mem_singleton.mp z];exact r3
 ·intro A' H' lv hE i
  have a1:Rep A' H' da (.ref U):=hE (.rep da (.ref U)) (zat ..);have a2:Rep A' H' db (.ref N):=hE (.rep db (.ref N)) (zap _ (zat ..));obtain⟨F,g1,G⟩:=k1 A' H' a1;obtain⟨B,g2,M⟩:=k2 A' H' a2;refine⟨λhi=>⟨F,B,g1,g2,(zT hi).imp (λz=>by rw[G.length];exact z) λz=>by rw[M.length];exact z⟩,λd hd=>?_⟩;obtain⟨x,y,ex,ey,rfl⟩:=zM hd;obtain⟨u,eu,ru⟩:=G.get' ex;obtain⟨w,ew,Y⟩:=M.get' ey;refine⟨⟨F,B,g1,g2,(List.getElem?_eq_some_iff.mp eu).1,(List.getElem?_eq_some_iff.mp ew).1⟩,λx' H2 ⟨p,u',w',e4,n,e5,e6⟩=>?_⟩;subst e4 e5;obtain⟨z1,z2⟩:=e6 F B g1 g2;rw[eu]at z1;cases z1;rw[ew]at z2;cases z2;exact⟨Ext.new n,.tup aG (.cons (ru.ext (Ext.new n)) (.cons (Y.ext (Ext.new n)) .nil))⟩
@[simp] theorem q_zip:RP f ρ=(f ρ).bind λds=>match ds with
 | [a,b]=>(gO a).bind λxs=>(gO b).map λys=>lT xs ys
 | _=>none:=rfl
@[simp] theorem q_seqL:gO (.lst l)=some l:=rfl
@[simp] theorem q_seqT:gO (.tup l)=some l:=rfl
theorem CV(h1:-A<a)(h2:a<A)(z:-B<b)(q:b<B):-(A*B)<a*b/\a*b<A*B:=by
 have e:(a*b).natAbs<(A*B).natAbs:=by
  rw[Int.natAbs_mul,Int.natAbs_mul];exact Nat.mul_lt_mul_of_lt_of_le (by lia) (by lia) (by lia)
 have F:0<=A*B:=zcX (by lia) (by lia)
 lia
end P
namespace P
end P
namespace P
open PySem PySem.Spec PyProof.Rows L2
noncomputable def pick{α:Type}(l:List α)(lo hi st:Option Int):List α:=(sliceRange (zbK lo hi st l.length).1 (zbK lo hi st l.length).2.1 (zbK lo hi st l.length).2.2).filterMap (l[·]?)
section
variable {X:Cx}{O:List Nat}
end
end P
namespace My
open PySem PySem.Spec PyProof.Rows L2 PySem.SeqAt
section
variable {X:Cx}
theorem Inv.gone(I:Inv X pins σ H s)(f:kF X pins H C)(hs:za4 C s.heap h'):Inv X pins σ H {s with heap:=h'}:=by
 obtain⟨F,f1,f2,N,G,U⟩:=f;refine I.call' (s':={s with heap:=h'}) (ch:=[C]) rfl ⟨λb o e n B hx=>?_,λb o e n B hx=>?_,λ_ _ _ n _=>n,λb o e hx=>?_,λ_ _ q=>q,λ_ _ _ q=>q,λ_ ps q=>⟨#[],by simpa using q⟩⟩ ?_ I.bare λb B=>?_
 ·exact(hs.2 b (λz=>hx (z ▸ List.mem_singleton.mpr rfl))).trans e
 ·exact⟨o.slots,(hs.2 b (λz=>hx (z ▸ List.mem_singleton.mpr rfl))).trans e⟩
 ·exact⟨o,(hs.2 b (λz=>hx (z ▸ List.mem_singleton.mpr rfl))).trans e⟩
 ·intro b M e
  refine(I.hok b M e).stay (λc W J q=>(hs.2 c ?_).trans q) (λ_ q=>q) λ_ _ q=>q
  rintro rfl;rcases J with z|z
  ·subst z;rw[F]at e;cases e
  ·rw[F]at z;cases z
 ·rw[List.mem_singleton.mp B]
  exact⟨N,f1,G,U⟩
theorem E3(hN:X.N.Nodup)(G:X.N[i]?=some x)(hx:Loc X.env.scope x)
  (hc:X.calm=true) (F:Clo X N scope cl) (hi:PI X tg iter wi) (hg:∀C s H fp,PG (aY X N scope cl C s H fp) tg g) (ht:∀C s H fp,DQ (aY X N scope cl C s H fp) ifs tt) (he:∀C s H fp,PE (aY X N scope cl C s H fp) elt te)
  (hs:∀x,zba iter X.env x=pure x:=by intro _;rfl) (ac:zaD (.ListComp elt [⟨tg,iter,ifs,0⟩] scope pos) (some (.Name x pos')) spos.line X.env=pure true:=by rfl)
  (hf:X.fn x=true\/X.env.scope.names.lookup x=some .local:=by first|exact .inl rfl|exact .inr rfl) :
  PS X (.Assign [.Name x pos'] (.ListComp elt [⟨tg,iter,ifs,0⟩] scope pos) spos) (NH (GA wi g tt te (Start X N scope)) (i5 i)):=by
 intro pins s σ H D I h;obtain⟨as,sS,hw⟩:=h;rw[exec_Assign_Name_used _ _ _ _ ac];refine zaa (zc6 (zaa ?_));show wpAny _ X.A (do let _ <- comprehension (.ListComp elt [⟨tg,iter,ifs,0⟩] scope pos) scope X.env _ (newList []) false (eval iter X.env) (some (zbe (.Name x pos') X.env))) _ _ s;refine zaa (za7 (wpAny_comprehension_free (use:=some (zbe (.Name x pos') X.env)) (Q:=λ_ s'=>SP X pins D .next s') rfl hs F.clos F.kind F.names
  (cS (hi pins s σ H _ I hw) λv s1 h1=>cS h1 λan s2 h2=>?_)) (λ_ s' hq=>zaf (zaf hq)) λ_ _ e=>e)
 obtain⟨it,fp,tn,J,H2,e,I2,T,Y,f2,q2⟩:=h2;subst e;refine uY (wi:=wi) (Q:=λv H1=>i5 i v σ H1 D.nx) (RR:=λacc C=>compPost (model X.prog X.w) X.A X.xe (some (zbe (.Name x pos') X.env)) (λ_ s'=>SP X pins D .next s') acc C) hc F hg ht he I2 T Y f2 sS q2 ?_
 intro s3 s5 H3 W ao D1 I3 f3 I5 q;obtain⟨m,hn,_⟩:=id I5.loc;have I6:Inv X pins σ W s5:=comp_back I3 f3 I5 (Heap.SameBut.refl _ _);have M:kF X pins W s3.heap.objs.size:=I3.fpOk (zai _) I5.free;show wpAny _ X.A (zbe (.Name x pos') X.env (.ref D1)) _ _ s5;refine wpAny_assign_Name (uO (v:=.ref D1) I6 hN G hx rfl (λs7 I7 ⟨a,U,B⟩=>?_) hf);have ne:s3.heap.objs.size≠a:=λz=>by
  rcases B with B|B
  ·exact M.2.1 (z.trans B)
  ·exact M.2.2.2.2.1 x a B z.symm
 exact⟨m,Heap.Ns.sameBut hn U ne,λh' ab=>⟨_,W,Inv.gone I7 M ab,q⟩⟩
end
end My
namespace P
open PySem PySem.Spec PyProof.Rows L2 PySem.SeqAt
section
variable {X:Cx}{O O':List Nat}{L:Lp}
theorem BY(M:PS X (.Assign [.Name x pos'] e pos) (NH (tD Rep O f) (i5 i)))(h:Sub O' (O.filter (· != i))=true):jA X L O (.Assign [.Name x pos'] e pos) (dZ i f) O':=
 PS.mono M <| by
  rintro T σ H ⟨H0,A0,A,E,ρ,out,st,e,p⟩;obtain⟨d,G,rfl⟩:=map_some e;refine⟨H0,A0,A,E,ρ,d,st,G,λv H' x r=>?_⟩;have F:=(st.mono x).more r;obtain⟨A',B⟩:=F.shut (O':=O') λj J=>(Sub.er h J).1
  exact p A' _ H' ((B.put (B.ext _ (zat ..)) λz=>(Sub.er h z).2 rfl).less λq N=>zap _ N)
theorem yA(J:PS X (.Assign [.Name x pos'] e pos) (NH (tF O f) (i5 i)))(h:Sub O' (i::O)=true)(B:O.contains i=false):jA X L O (.Assign [.Name x pos'] e pos) (dZ i f) O':=
 PS.mono J <| by
  rintro T σ H ⟨H0,A0,A,E,ρ,out,st,e,p⟩;obtain⟨d,G,rfl⟩:=map_some e;refine⟨H0,A0,A,E,ρ,d,st,G,λa H' x n N o=>?_⟩;have M:i∉O:=λz=>by
   have:O.contains i=true:=by simpa using z
   rw[B]at this;cases this
  obtain⟨F,q⟩:=(st.own_put x n N o M).shut (Sub.mem h);exact p F _ H' q
theorem YV:tD Rep O f σ H Q->tF O f σ H Q:=λ⟨H0,A0,A,E,ρ,d,st,e,q⟩=>
 ⟨H0,A0,A,E,ρ,d,st,e,λa H' x n B o=>q _ H' x ((o.av (A':=A) λb z=>.inl (.inl z)).rep B)⟩
theorem J0(J:X.N.Nodup)(q:X.N[i]?=some x)(hx:Loc X.env.scope x)
  (Y:X.calm=true) (cc:My.Clo X N scope cl) (z:dR X scope N ms) (F:(ms.all λo=>match o with|some i=>!O.contains i|none=>true)=true) (hi:PDI X O tg iter it) (M:∀C s H fp,BA (My.aY X N scope cl C s H fp) [] tg g)
  (G:∀C s H fp,My.DQ (My.aY X N scope cl C s H fp) ifs (tDT [] c)) (W:∀C s H fp,PD (My.aY X N scope cl C s H fp) [] elt f) (h:Sub O' (O.filter (· != i))=true:=by rfl) (hs:∀x,zba iter X.env x=pure x:=by intro _;rfl)
  (B:zaD (.ListComp elt [⟨tg,iter,ifs,0⟩] scope pos) (some (.Name x pos')) spos.line X.env=pure true:=by rfl) (U:X.fn x=true\/X.env.scope.names.lookup x=some .local:=by first|exact .inl rfl|exact .inr rfl) :
  jA X L O (.Assign [.Name x pos'] (.ListComp elt [⟨tg,iter,ifs,0⟩] scope pos) spos) (dZ i (dY ms it g c f)) O':=
 BY (PS.mono (My.E3 J q hx Y cc hi M G W hs B U) λT σ H w=>sO z F _ _ _ (YV w)) h
theorem G4(M:X.N.Nodup)(q:X.N[i]?=some x)(hx:Loc X.env.scope x)
  (hc:X.calm=true) (cc:My.Clo X N scope cl) (z:dR X scope N ms) (G:(ms.all λo=>match o with|some i=>!O.contains i|none=>true)=true) (hi:PDI X O tg iter it) (U:∀C s H fp,BA (My.aY X N scope cl C s H fp) [] tg g)
  (J:∀C s H fp,My.DQ (My.aY X N scope cl C s H fp) ifs (tDT [] c)) (Y:∀C s H fp,PD (My.aY X N scope cl C s H fp) [] elt f) (h:Sub O' (i::O)=true:=by rfl) (B:O.contains i=false:=by rfl) (hs:∀x,zba iter X.env x=pure x:=by intro _;rfl)
  (F:zaD (.ListComp elt [⟨tg,iter,ifs,0⟩] scope pos) (some (.Name x pos')) spos.line X.env=pure true:=by rfl) (W:X.fn x=true\/X.env.scope.names.lookup x=some .local:=by first|exact .inl rfl|exact .inr rfl) :
  jA X L O (.Assign [.Name x pos'] (.ListComp elt [⟨tg,iter,ifs,0⟩] scope pos) spos) (dZ i (dY ms it g c f)) O':=
 yA (PS.mono (My.E3 M q hx hc cc hi U J Y hs F W) λT σ H w=>sO z G _ _ _ w) h B
end
end P
namespace My
open PySem PySem.Spec PyProof.Rows L2 PySem.SeqAt
def Y9(K:zae)(n:Nat)(t:TJ):TG:=λv σ H Q=>∃a xs,v=.ref a/\(SqT K H a xs\/SqL K H a xs)/\xs.length=n/\t xs σ H Q
theorem tQ(J:X.calm=true)(h:PGs X es t)
  (B:(za1 es X.env).length=n:=by rfl) (q:(za1 es X.env).findIdx? (·.1)=none:=by rfl):PG X (.Tuple es k pos) (Y9 X.K n t):=by
 intro pins s σ H v u Q I r hw;obtain⟨a,xs,N,z,F,hw⟩:=hw;subst N;rcases z with z|z
 ·exact C6 J h B q pins s σ H _ u Q I r ⟨a,xs,rfl,z,F,hw⟩
 ·cases r
  obtain⟨its,G,M,Y⟩:=I.list z;have hsz:(za1 es X.env).length=its.toArray.size:=by simp[B,<- F,G.length]
  rw[assign_Tuple];refine zaa (zc6 ?_);unfold unpack;rw[hsz,q];refine zaa (zbE (PySem.W.kun_itemsOf (I.ok.hd J) (My.PlainL.isList M) λh' hx=>?_));have U:Inv X pins σ H {s with heap:=h'}:=I.kept (t':=s.toks) λb o e=>hx b o (zaF (zao e)) e
  exact h pins _ σ H xs _ Q U (by simpa using G) hw
end My
namespace P
open PySem PySem.Spec PyProof.Rows L2 PySem.SeqAt
def tV(n:Nat)(k:TH):Gv:=λd ρ=>match d with
 | .tup l=>if l.length=n then k l ρ else none
 | .lst l=>if l.length=n then k l ρ else none
 | _=>none
theorem nC(F:PG X tg (My.Y9 X.K n (tDGs O k))):BA X O tg (tV n k):=PG.mono F <| by
 rintro v σ H Q ⟨H0,A0,A,E,ρ,d,ρ',st,r,e,q⟩;cases d with
 | tup l=>
  obtain⟨a,xs,rfl,h,B⟩:=RepB.tup_inv (.of r);by_cases z:l.length=n
  ·simp only[tV,if_pos z]at e
   exact⟨a,xs,rfl,.inl (.inl (.inl h)),by rw[B.length];exact z,H0,A0,A,E,ρ,l,ρ',st,B,e,q⟩
  ·simp only[tV,if_neg z]at e;cases e
 | lst l=>
  obtain⟨a,xs,rfl,h,B⟩:=RepB.lst_inv (.of r);by_cases z:l.length=n
  ·simp only[tV,if_pos z]at e
   exact⟨a,xs,rfl,.inr (.inl h),by rw[B.length];exact z,H0,A0,A,E,ρ,l,ρ',st,B,e,q⟩
  ·simp only[tV,if_neg z]at e;cases e
 | _=>exact nn e
@[simp] theorem q_gseqT:tV n h (.tup l) ρ=if l.length=n then h l ρ else none:=rfl
@[simp] theorem q_gseqL:tV n h (.lst l) ρ=if l.length=n then h l ρ else none:=rfl
end P
namespace P
open PySem PySem.Spec PyProof.Rows L2
theorem iX{f:Lv}{g:Gv}{b rest:Sv}{ρ:cU}{items:List D}{R:D->Prop}(z:f ρ=some items)(I:Nat->cU->Prop)(q:I 0 ρ)(hs:∀i x ρ,items[i]?=some x->I i ρ->∃ρ',turn g b x ρ=some (.nx ρ')/\I (i+1) ρ')(k:∀ρ',I items.length ρ'->∃d,rest ρ'=some (.rt d)/\R d):∃d,dB (A7 f g b) rest ρ=some (.rt d)/\R d:=by
 obtain⟨ρ',e,h⟩:=xH (g:=g) (b:=b) I q hs;rw[aF (by rw[q_for,z];exact e)];exact k ρ' h
theorem dO{n:Nat}{ds:List D}{R:D->Prop}(h:∃d,f (aH n ds)=some (.rt d)/\R d):∃d,bJ n f ds=some d/\R d:=by
 obtain⟨d,e,r⟩:=h;exact⟨d,aK e,r⟩
theorem rZ(h:tupI a=tupI b):a=b:=by
 have g:∀ {a b:List Int},a.map D.int=b.map D.int->a=b:=by
  intro a;induction a with
  | nil=>intro b h;cases b with
   | nil=>rfl
   | cons _ _=>cases h
  | cons x a ih=>intro b h;cases b with
   | nil=>cases h
   | cons y b=>
    rw[zak,zak]at h;injection h with h1 h2
    rw[D.int.inj h1,ih h2]
 exact g (D.tup.inj h)
theorem HY:cutD (as++bs) none (some (as.length:Int))=as:=by
 have e:HT.sIx (as++bs).length (as++bs).length (some (as.length:Int))=as.length:=by
  unfold HT.sIx;simp
  try lia
 unfold cutD;rw[e];show((as++bs).drop 0).take (as.length-0)=as;simp
end P
namespace My
open PySem PySem.Spec PyProof.Rows L2 PySem.SeqAt
end My
namespace P
open PySem PySem.Spec PyProof.Rows L2 PySem.SeqAt
section
variable {X:Cx}
end
end P
namespace My
open PySem PySem.Spec PyProof.Rows L2 PySem.SeqAt
end My
namespace P
open PySem PySem.Spec PyProof.Rows L2 PySem.SeqAt
end P
namespace My
open PySem PySem.Spec PyProof.Rows L2
section
variable {X:Cx}
theorem oC(ns:List Int):∀n,n<=ns.length->preSum (λi=>(ns[i]?).getD 0) n=(ns.take n).sum
 | 0,_=>by simp[preSum]
 | n+1,h=>by
  have e:ns[n]?=some (ns[n]'(by lia)):=by simp
  rw[preSum,oC ns n (by lia),zcY,List.sum_append_int,e];simp
theorem yX{ns:List Int}{its:List Value}(r:Vals (ns.map V.int) its){i:Nat}(h:its[i]?=some v):∃t,v=.int ((ns[i]?).getD 0) t:=by
 have q:=r.length;rw[zal]at q;have hi:i<ns.length:=by rw[q];exact(List.getElem?_eq_some_iff.mp h).1
 have e:(ns.map V.int)[i]?=some (.int ns[i]):=by simp[hi]
 obtain⟨u,z,B⟩:=r.get e;rw[h]at z;cases z;obtain⟨t,rfl⟩:=B;exact⟨t,by simp[hi]⟩
theorem HH(hc:X.calm=true):CallR X (.builtin "sum") (λxs H Q=>∃(p:Addr) (ns:List Int),xs=[.ref p]/\SqL X.K H p (ns.map V.int)/\Q (.int ns.sum) H):=by
 intro pins s σ H xs us Q I r h;obtain⟨p,ns,rfl,hq,q⟩:=h;obtain⟨u,rfl,rx⟩:=vals1 r;cases rx;obtain⟨its,U,pl,hz⟩:=I.list hq;have M:s.heap.IsList p its.toArray:=pl.isList;obtain⟨o,Y,ac,n,hd⟩:=id M;have G:p≠s.heap.objs.size:=zaF (zao Y);have W:=(Walks.list (prog:=X.prog) (w:=X.w) (A:=X.A.in1) (I.ok.hd hc) s.heap.objs.size p G its.toArray).toS;refine call_sum_walkAnyS (zb5 M ?_);refine⟨s.heap.objs.size,_,_,_,_,_,_,(λi=>(ns[i]?).getD 0),rfl,W,⟨⟨_,zaE _ rfl,rfl,rfl⟩,M.at λo e=>zan _ e⟩,λb B=>?_,λi v hP=>yX U (by simpa using hP),λs' t' F=>?_⟩
 ·rcases List.mem_cons.mp B with rfl|B
  ·exact zao (zaE _ rfl)
  ·obtain rfl:=List.mem_singleton.mp B
   exact zao (zan _ Y)
 ·obtain⟨h',g',d',J,N⟩:=s'
  have e1:g'=s.gens:=F.gens;have e2:d'=s.drawn:=F.drawn;have e3:N=s.os:=F.os;subst e1 e2 e3;have hk:∀b o,s.heap.get? b=some o->h'.get? b=some o:=λb o e=>F.heap b o (λB=>absurd (zao e) ((List.mem_singleton.mp B) ▸ zb3 _)) (zan _ e)
  refine⟨.int ns.sum,H,I.kept (t':=J) hk,⟨t',?_⟩,q⟩;have z:=U.length;rw[zal]at z;rw[zay,<- z,oC ns ns.length (zai _),zbX]
theorem QW:OpR X (zaM .Add) (λx y H Q=>∃a b ys,x=.ref a/\y=.ref b/\SqT X.K H a []/\SqT X.K H b ys/\Q (.ref b) H):=by
 intro pins s σ H x y v u Q I rx ry h;obtain⟨a,b,ys,rfl,rfl,ha,hb,q⟩:=h;cases rx;cases ry;obtain⟨its,r1,p1,_⟩:=I.tuple ha;obtain⟨z,r2,p2,_⟩:=I.tuple hb;have e1:its=[]:=r1.nil_iff.mpr rfl;subst e1;obtain⟨⟨cls,dd,data,sl⟩,ho,hc,n,hd⟩:=p1;obtain⟨⟨G,W,B,ab⟩,J,aa,n2,N⟩:=p2;have Y:cls=.type "tuple" := hc;have U:data=.seq #[] n:=hd;have M:G=.type "tuple" := aa;have F:B=.seq z.toArray n2:=N;subst Y U M F;exact concat_meets ⟨_,ho,rfl⟩ ⟨_,J,rfl⟩ zd4 seq_tuple_add zd5 zd6 (zd7 _ _)
  (tuple_addW0 a b #[] z.toArray n n2 dd W sl ab rfl) ⟨ho,J,.ref b,H,I,rfl,q⟩
def zP:V->List V->Hp->VK->Prop:=λx vs H Q=>∃l b xs zs,x=.ref l/\vs=[.ref b]/\H l=some (.lst xs)/\Rd H b (.lst zs)/\xs.length+zs.length<=zaj/\Q .non (upd H l (.lst (xs++zs)))
theorem qU:ql X "list.extend" zP:=by
 intro pins s σ H x vs v us Q I W U h;obtain⟨l,b,xs,zs,rfl,rfl,J,hB,hz,q⟩:=h;cases W;obtain⟨u,rfl,M⟩:=U.one;cases M;obtain⟨z,its,n,r,hl,e⟩:=I.lstM J;obtain⟨z2,B,n2,r2,N,Y⟩:=P.Inv.lstR I hB;have hsz:its.toArray.size+B.toArray.size<=zaj:=by rw[zay,zay];lia
 have G:¬ (!its.toArray.isEmpty && zec (its.toArray.size+B.toArray.size))=true:=by
  rw[KQ hsz,Bool.and_false];exact zaB
 refine zcT F.slot_list_extend ⟨_,e,rfl⟩ F.entry_list_extend (F.args_list_extend_2 _ _)
  (AutoSeq1.list_extend_list_list_0 l its.toArray n b B.toArray n2 G (by rw[zay];lia) (by lia)) ⟨e,Y,?_⟩
 refine⟨.non,_,I.lset (its':=its++B) J e (by simp) (r.append r2) ?_,rfl,q⟩;rw[zbc]
 lia
end
end My
namespace P
open PySem PySem.Spec PyProof.Rows L2
theorem aA{q β:Type}(a:q)(f:q->Option β):(some a).bind f=f a:=by rw[zac]
theorem aB{q β:Type}(a:q)(f:q->β):(some a).map f=some (f a):=by rw[zab]
section
variable {X:Cx}{O O':List Nat}{L:Lp}
noncomputable def DJ:List D->Option D
 | [.int i]=>some (.int i)
 | [.bl b]=>some (.int (if b then 1 else 0))
 | _=>none
theorem T4:kE X (.type "int") DJ:=CallR.mono GZ <| by
 rintro xs H Q ⟨A,ds,d,B,r,e,q⟩;unfold DJ at e;split at e
 ·cases e
  obtain⟨v,rfl,z⟩:=r.one;cases z.int_inv;exact .inl ⟨_,rfl,q _ H (Ext.refl _ _) (.int _)⟩
 ·cases e
  obtain⟨v,rfl,z⟩:=r.one;cases z.bl_inv;exact .inr ⟨_,rfl,q _ H (Ext.refl _ _) (.int _)⟩
 ·cases e
@[simp] theorem q_intB:DJ [.bl b]=some (.int (if b then 1 else 0)):=rfl
@[simp] theorem q_intI:DJ [.int i]=some (.int i):=rfl
open Classical in
def cR:D->D->Option D:=JF λi j=>if My.DK i j then some (.int (i*j))else none
theorem D8:cR=F7:=by
 unfold cR F7;congr 1
theorem cM:kO X (zaM .Mult) cR:=by rw[D8];exact U2
theorem U7(h:My.DK i j):cR (.int i) (.int j)=some (.int (i*j)):=by rw[D8];exact X4 h
theorem cF(h:-(10^250)<i)(h1:i<10^250)(h2:-(10^250)<j)(q:j<10^250):cR (.int i) (.int j)=some (.int (i*j)):=U7 ⟨⟨h,h1⟩,h2,q⟩
def RT:List D->Option D
 | [.lst l]=>(iV l).map λns=>.int ns.sum
 | _=>none
theorem MD(F:X.calm=true):kE X (.builtin "sum") RT:=CallR.mono (My.HH F) <| by
 rintro xs H Q ⟨A,ds,d,G,r,e,q⟩;unfold RT at e;split at e
 ·obtain⟨ns,z,rfl⟩:=map_some e
  obtain⟨v,rfl,B⟩:=r.one;obtain⟨a,J,rfl,h1,r1⟩:=B.lst_inv;rw[fW z r1]at h1;exact⟨a,ns,rfl,.inl h1,q _ H (Ext.refl _ _) (.int _)⟩
 ·cases e
theorem jM:∀ns:List Int,iV (ns.map .int)=some ns
 | []=>rfl
 | n::ns=>by rw[zak,iV,jM ns];rfl
@[simp] theorem q_sum{ns:List Int}:RT [.lst (ns.map .int)]=some (.int ns.sum):=by unfold RT;simp only[jM];rfl
theorem RepL.rep(r:RepL A H ds vs):∀k:Nat,RepL A H (zck k ds).flatten (zck k vs).flatten
 | 0=>.nil
 | k+1=>by rw[zdn,zdn,zdo,zdo];exact r.append (RepL.rep r k)
def dP(x y:D):Option D:=match x,y with
 | .tup l,.tup m=>if a7 (l.length+m.length)then some (.tup (l++m))else none
 | x,y=>vU x y
theorem d5:kO X (zaM .Add) dP:=OpR.mono (OpR.or UO My.QW) <| by
 rintro x y H Q ⟨A,dx,J,d,F,B,z,e,q⟩;unfold dP at e;split at e
 ·rename_i l m
  cases l with
  | nil=>
   by_cases G:a7 (([]:List D).length+m.length)=true
   ·rw[if_pos G]at e
    cases e;obtain⟨a,xs,rfl,h1,r1⟩:=B.tup_inv;obtain⟨b,ys,rfl,h2,r2⟩:=z.tup_inv;cases r1;exact .inr ⟨a,b,ys,rfl,rfl,.inl (.inl h1),.inl (.inl h2),q _ H (Ext.refl _ _) (.tup h2 r2)⟩
   ·rw[if_neg G]at e;cases e
  | cons a l=>
   refine .inl ⟨A,_,_,d,F,B,z,?_,q⟩;rw[<- e];rfl
 ·exact .inl ⟨A,_,_,d,F,B,z,e,q⟩
@[simp] theorem q_addAI:dP (.int i) (.int j)=some (.int (i+j)):=rfl
@[simp] theorem q_addAT:dP (.tup l) (.tup m)=if a7 (l.length+m.length)then some (.tup (l++m))else none:=rfl
@[simp] theorem q_addAL:dP (.lst l) (.lst m)=if a7 (l.length+m.length)then some (.lst (l++m))else none:=rfl
@[simp] theorem q_addAS:dP (.str l) (.str m)=if a7 (l.length+m.length)then some (.str (l++m))else none:=rfl
def RZ(i:Nat)(f:Ev):Sv:=λρ=>(aD i ρ).bind λx=>match x with
 | .lst l=>(f ρ).bind λd=>match d with
  | .lst m=>if a7 (l.length+m.length)then some (.nx (ρ.set i (some (.lst (l++m)))))else none
  | _=>none
 | _=>none
theorem qR(ho:PE X o (cZ i))(he:PD X O e f)(M:mem O i=true)(W:PE X (.Call (.Attribute o "extend" apos) [e] [] cpos) (Z7 X.K "list" My.zP (cZ i) (vV (tD Rep O f) RV)))
  (hs:zaD (.Call (.Attribute o "extend" apos) [e] [] cpos) none pos.line X.env=pure false:=by rfl) (h:Sub O' O=true:=by rfl):jA X L O (.Expr (.Call (.Attribute o "extend" apos) [e] [] cpos) pos) (RZ i f) O':=
 PS.mono (wK W hs) <| by
  rintro T σ H ⟨H0,A0,A,E,ρ,out,st,e,p⟩;obtain⟨x,ex,e⟩:=bind_some e;cases x with
  | lst l=>
   obtain⟨d,N,e⟩:=bind_some e;cases d with
   | lst m=>
    dsimp only at e;by_cases z:a7 (l.length+m.length)=true
    ·rw[if_pos z]at e
     cases e;obtain⟨a,F,q,Y,U⟩:=st.own i _ (bW ex) (gR M);cases U with
     | lst h4 r4=>
      refine⟨_,F,.inl ⟨rfl,_,SqL.of h4⟩,H0,A0,A,E,ρ,_,st,N,λv H' x r=>?_⟩;obtain⟨b,zs,rfl,hb,J⟩:=RepB.lst_inv (.of r);refine⟨a,b,_,zs,rfl,rfl,x.ow _ _ q h4,hb,by rw[r4.length,J.length];exact gL z,?_⟩;have G:=x.ow _ _ q h4;obtain⟨A',B⟩:=((st.mono x).write (o:=.lst _) (bW ex) (gR M) F q Y G trivial (.lst aG (((r4.ext x).append J).put q G trivial))).shut (Sub.mem h);exact p A' σ _ B
    ·rw[if_neg z]at e;cases e
   | _=>exact nn e
  | _=>exact nn e
def eS(c:Bv)(b:Sv):Nat->cU->Option Out
 | 0,_=>none
 | n+1,ρ=>(c ρ).bind λt=>if t=true then(b ρ).bind λo=>match o with
   | .nx ρ'=>eS c b n ρ'
   | .ct ρ'=>eS c b n ρ'
   | .bk ρ'=>some (.nx ρ')
   | .rt d=>some (.rt d)
  else some (.nx ρ)
def lN(c:Bv)(b:Sv):Sv:=λρ=>eS c b 100000 ρ
theorem HB(hp:zb4 (model X.prog X.w) X.A X.env X.xe)(hc:uM X O1 c g)(hb:eB X ⟨Ob,O1⟩ O1 body b O1)(h1:Sub O1 O=true)(h2:Sub O' O1=true)(h3:Sub O' Ob=true) :
  jA X L O (.While c body [] pos) (lN g b) O':=PS.mono (LQ hp hc hb) λT σ H ⟨H0,A0,A,E,ρ,out,st,e,p⟩=>by
 obtain⟨W,J⟩:=st.shut (Sub.mem h1);refine⟨λm σ H=>∃ρ A,ST H0 A0 A E O1 σ H ρ/\eS g b m ρ=some out,⟨100000,ρ,W,J,e⟩,?_⟩;rintro m σ H ⟨ρ,A,st,e⟩;cases m with
 | zero=>cases e
 | succ m=>
  obtain⟨t,et,e⟩:=bind_some e;refine⟨H0,A0,A,E,ρ,t,st,et,λH1 N=>?_⟩;have fin:∀ {O2:List Nat} {A:Av} {σ:L2.St} {H:Hp} {ρ:cU},Sub O' O2=true->ST H0 A0 A E O2 σ H ρ->(∀A σ H,ST H0 A0 A E O' σ H ρ->T.nx σ H)->T.nx σ H:=λhs st k=>by
   obtain⟨z,M⟩:=st.shut (Sub.mem hs);exact k z _ _ M
  cases t with
  | true=>
   rw[if_pos rfl]at e;dsimp only;rw[if_pos rfl];obtain⟨o,U,e⟩:=bind_some e;refine⟨λG H'=>∃q z,ST H0 A0 z E O1 G H' q/\eS g b m q=some out,λG H' ⟨q,z,B,Y⟩=>⟨m,zdc m,q,z,B,Y⟩,H0,A0,A,E,ρ,o,st.mono N,U,?_⟩;cases o with
   | nx q=>exact λz F H2 B=>⟨q,z,B,e⟩
   | ct q=>exact λz F H2 B=>⟨q,z,B,e⟩
   | bk q=>cases e;exact λz F H2 B=>fin h3 B p
   | rt d=>cases e;exact p
  | false=>
   rw[if_neg zaB]at e;dsimp only;rw[if_neg zaB];cases e;exact fin h2 (st.mono N) p
end
theorem FD{P:zah}{w:World}{K:zae}{mg:Str->Option Value}{base:Heap}{x:Str}{st:Stmt}{N ps:List Str}{k:Nat}(G:My.DefAt K mg x st ps)(S:FnScope N ps (aL st)):Fn P w K mg base x (k+1) ps (λ_=>none):=
 My.BodyOk.ok (k:=k) (N:=N) (λU F A B s H vs Q E M ⟨J,ds,d,W,r,e,z,q⟩=>nomatch z) G S (λvs H Q E ⟨J,ds,d,_,_,e,z,_⟩=>nomatch z)
def i8(n:Nat)(b:(List D->Option D)->Sv):Nat->List D->Option D
 | 0=>λ_=>none
 | m+1=>bJ n (b (i8 n b m))
end P
namespace My
open PySem PySem.Spec PyProof.Rows L2
open AutoSeq1 (wpAny_loadPart')
theorem GW(l:Addr)(items:Array Value)(n:Nat)(B:Option Addr)(G:Array (Option Value)) :
  Meets (zbN.«enumerate.__new__» ⟨[.type "enumerate",.ref l],[]⟩) (λ_ R s=>s.heap.get? l=some {cls:=.type "tuple",dict:=B,data:=.seq items n,slots:=G} /\
   R (.ok (.ret (.ref (s.heap.push {cls:=.type "tuple_iterator",data:=.fields #[.ref l,.int 0 0]}).objs.size)))
    {s with heap:=(s.heap.push {cls:=.type "tuple_iterator",data:=.fields #[.ref l,.int 0 0]}).push {cls:=.type "enumerate",data:=.fields #[.none,.bool false,.ref s.heap.objs.size,za9 0,.none,.none]} }):=
 .of_wp λprog w A R s h=>by
  obtain⟨M,g,d,tk,J⟩:=s;obtain⟨q,h⟩:=h;have F:=sub_enumerate;have z:zcU (zbV ⟨M,g,d,tk,J⟩) l items:=⟨_,q,rfl,n,rfl⟩
  wp_walk using zbp q
  refine wpAny_stack_any λst=>zaf ?_
  split
  ·rename_i c _ _ _ _ _
   cases(c == Value.type "enumerate")
   ·wp_walk using zbp q,zbS z
    exact⟨_,rfl,h⟩
   ·wp_walk using zbp q,zbS z
    exact⟨_,rfl,h⟩
  ·wp_walk using zbp q,zbS z
   exact⟨_,rfl,h⟩
section
variable {prog:zah}{w:World}{A:zam}{E:Value->zad->Prop}{s:zad}
theorem HQ(Y:SSq t s.heap l xs)
  (h:∀h',zbD h' (s.heap.objs.size+1) s.heap.objs.size 0 .none->SIt t h' s.heap.objs.size l 0->(∀b o,s.heap.get? b=some o->h'.get? b=some o)->Q (.ref (s.heap.objs.size+1)) {s with heap:=h'}) :
  wpAny (model prog w) A (call (.type "enumerate") [.ref l]) Q E s:=by
 obtain⟨⟨cls,G,data,W⟩,U,hc,n,hd⟩:=Y;have M:cls=.type (sqN t):=hc;have J:data=.seq xs n:=hd;subst M J;have N:(s.heap.push (GI t l)).objs.size=s.heap.objs.size+1:=zbU ..;have fin:zbD ((s.heap.push (GI t l)).push {cls:=.type "enumerate",data:=.fields #[.none,.bool false,.ref s.heap.objs.size,za9 0,.none,.none]}) (s.heap.objs.size+1) s.heap.objs.size 0 .none:=by
  have:=zaE (s.heap.push (GI t l)) (o:={cls:=.type "enumerate",data:=.fields #[.none,.bool false,.ref s.heap.objs.size,za9 0,.none,.none]}) rfl;rw[N]at this;exact this
 have q:=h _ fin ⟨_,zan _ (zaE _ rfl),rfl,rfl⟩ λb o x=>zan _ (zan _ x)
 cases t with
 | false=>
  refine callType_new F.called_enumerate (by decide) (F.typeCall_enumerate_1 _) (F.newCall_enumerate_1 _) (λz=>F.args_object_init_2 z _) F.entry_enumerate_new (meets_enumerate_newL l xs n G W) ⟨U,?_⟩;have B:(s.heap.push {cls:=.type "list_iterator",data:=.fields #[.ref l,.int 0 0]}).objs.size=s.heap.objs.size+1:=N;show _/\_;rw[B];exact⟨⟨_,fin,rfl⟩,q⟩
 | true=>
  refine callType_new F.called_enumerate (by decide) (F.typeCall_enumerate_1 _) (F.newCall_enumerate_1 _) (λz=>F.args_object_init_2 z _) F.entry_enumerate_new (GW l xs n G W) ⟨U,?_⟩;have B:(s.heap.push {cls:=.type "tuple_iterator",data:=.fields #[.ref l,.int 0 0]}).objs.size=s.heap.objs.size+1:=N;show _/\_;rw[B];exact⟨⟨_,fin,rfl⟩,q⟩
theorem HR{t:Bool}{e it l:Addr}{i:Nat}{items:Array Value}{x aj:Value}{Q:Value->zad->Prop}
  (he:zbD s.heap e it i aj) (az:SIt t s.heap it l i) (hl:SSq t s.heap l items) (hx:items[i]?=some x) (ak:e≠it)
  (hQ:∀h', IsEnumOut h' e it ((i:Int)+1) x s.heap.objs.size -> SIt t h' it l (i+1) ->
   h'.get? s.heap.objs.size=some {cls:=.type "tuple",data:=.seq #[.int i s.toks,x]}->h'.objs.size=s.heap.objs.size+1->
   (∀b o,b≠e->b≠it->s.heap.get? b=some o->h'.get? b=some o)->Q (.ref s.heap.objs.size) {s with heap:=h',toks:=s.toks+1}) :
  wpAny (model prog w) A (zbN.«enumerate.__next__» ⟨[.ref e],[]⟩) (λfin s'=>∃v,fin=.done (.ret v)/\Q v s') E s:=by
 obtain⟨hp,g,d,tk,os⟩:=s;show wpAny _ _ (field (.ref e) 2 >>= _) _ _ _;refine zaa (zaR he rfl (x:=.ref it) rfl ?_);refine zaa (next_item az hl hx λN ai B=>?_);replace B:za4 it hp N:=B;have ab:zbD N e it i aj:=(B.2 e ak).trans he;show wpAny _ _ (field (.ref e) 3 >>= _) _ _ ⟨N,g,d,tk,os⟩;refine zaa (zaR ab rfl (x:=za9 i) rfl ?_);show wpAny _ _ (field (.ref e) 4 >>= _) _ _ ⟨N,g,d,tk,os⟩;refine zaa (zaR ab rfl (x:=.none) rfl ?_);show wpAny _ _ (mkInt i >>= _) _ _ ⟨N,g,d,tk,os⟩;refine zaa (wpAny_mkInt ?_);show wpAny _ _ (setField (.ref e) 3 (za9 ((i:Int)+1)) >>= _) _ _ ⟨N,g,d,tk+1,os⟩;refine zaa (zbC ab (by simp) λac W J=>?_);replace J:za4 e N ac:=J;replace W:zbD ac e it ((i:Int)+1) aj:=W;show wpAny _ _ (setField (.ref e) 4 .none >>= _) _ _ ⟨ac,g,d,tk+1,os⟩;refine zaa (zbC W (by simp) λU Y G=>?_);replace G:za4 e ac U:=G;replace Y:zbD U e it ((i:Int)+1) aj:=Y;show wpAny _ _ (newTuple [.int i tk,x] >>= _) _ _ ⟨U,g,d,tk+1,os⟩;refine zaa (wpAny_newTuple ?_);have aa:zbD (U.push {cls:=.type "tuple",data:=.seq #[.int i tk,x]}) e it ((i:Int)+1) aj:=zan _ Y;generalize hh₄:U.push {cls:=.type "tuple",data:=.seq #[.int i tk,x]}=h₄ at aa;have hsz:U.objs.size=hp.objs.size:=by rw[G.1,J.1,B.1]
 have as:e<hp.objs.size:=zao he;have ar:h₄.get? hp.objs.size=some {cls:=.type "tuple",data:=.seq #[.int i tk,x]}:=by rw[<- hh₄,<- hsz];exact zaE _ rfl
 have au:h₄.objs.size=hp.objs.size+1:=by rw[<- hh₄,zbU,hsz]
 have aw:∀b o,b≠e->b≠it->hp.get? b=some o->h₄.get? b=some o:=λb o ad aq hb=>by
  rw[<- hh₄];exact zan _ (G.extBut b o ad (J.extBut b o ad (B.extBut b o aq hb)))
 have an:SIt t h₄ it l (i+1):=by
  rw[<- hh₄];exact ai.to λo q=>zan _ (G.extBut it o (zaU ak) (J.extBut it o (zaU ak) q))
 show wpAny _ _ (zcF (.ref e) >>= _) _ _ ⟨h₄,g,d,tk+1,os⟩;rw[hsz];clear hh₄ Y G W J ab B ai hsz U ac N;refine zaa ?_
 ·unfold zcF
  refine zaa (zaR aa rfl (x:=.none) rfl (zaf ?_));simp only[if_true];refine zaa (zbM ?_);refine zaa (zaR aa rfl (x:=aj) rfl ?_);refine zaa (zbC aa (by simp) λah ag M=>?_);replace M:za4 e h₄ ah:=M;replace ag:zbD ah e it ((i:Int)+1) x:=ag;show wpAny _ _ (zdB (.ref e) (.ref hp.objs.size) >>= _) _ _ ⟨ah,g,d,tk+1,os⟩;refine zaa ?_
  ·unfold zdB
   refine zaa (zbC ag (by simp) λam ae F=>?_);replace F:za4 e ah am:=F;replace ae:IsEnumOut am e it ((i:Int)+1) x hp.objs.size:=ae;refine zbC ae (by simp) λal af z=>?_
   replace z:za4 e am al:=z;replace af:IsEnumOut al e it ((i:Int)+1) x hp.objs.size:=af;refine zaa (zdA (zaf ⟨_,rfl,hQ al af ?_ ?_ ?_ ?_⟩))
   ·exact an.to λo q=>z.extBut it o (zaU ak) (F.extBut it o (zaU ak) (M.extBut it o (zaU ak) q))
   ·exact z.extBut _ _ (zbw as) (F.extBut _ _ (zbw as) (M.extBut _ _ (zbw as) ar))
   ·rw[z.1,F.1,M.1,au]
   ·exact λb o ad aq hb=>z.extBut b o ad (F.extBut b o ad (M.extBut b o ad (aw b o ad aq hb)))
theorem HF{t:Bool}{e it l:Addr}{i:Nat}{items:Array Value}{x q:Value}{Q:Option Value->zad->Prop}
  (G:zbD s.heap e it i q) (z:SIt t s.heap it l i) (J:SSq t s.heap l items) (hx:items[i]?=some x) (B:e≠it)
  (M:∀h', IsEnumOut h' e it ((i:Int)+1) x s.heap.objs.size -> SIt t h' it l (i+1) ->
   h'.get? s.heap.objs.size=some {cls:=.type "tuple",data:=.seq #[.int i s.toks,x]}->h'.objs.size=s.heap.objs.size+1->
   (∀b o,b≠e->b≠it->s.heap.get? b=some o->h'.get? b=some o)->Q (some (.ref s.heap.objs.size)) {s with heap:=h',toks:=s.toks+1}) :
  wpAny (model prog w) A (za2 (.ref e)) Q E s:=by
 have hT:s.TypeIs (.ref e) "enumerate" := ⟨_,G,rfl⟩;unfold za2;exact zaa (zcE (zbI (name:=zbj "__next__") hT zdG
  (zbl zdG hT F.entry_enumerate_next
   (HR G z J hx B λh' a b c d k=>zaf (M h' a b c d k)) (F.args_enumerate_next_1 _))))
theorem KR{t:Bool}{i:Nat}{items:Array Value}{Q:Option Value->zad->Prop}(W:A.handled=none)
  (G:zbD s.heap e it i old) (B:SIt t s.heap it l i) (J:SSq t s.heap l items) (hx:items[i]?=none)
  (U:∀h',Heap.ExtBut it s.heap h'->Q none {s with heap:=h'}):wpAny (model prog w) A (za2 (.ref e)) Q E s:=by
 have hT:s.TypeIs (.ref e) "enumerate" := ⟨_,G,rfl⟩;unfold za2;refine zaa (zcE (zbI (name:=zbj "__next__") hT zdG
  (zbl zdG hT F.entry_enumerate_next ?_ (F.args_enumerate_next_1 _))))
 show wpAny _ _ (field (.ref e) 2 >>= _) _ _ _;refine zaa (zaR G rfl (x:=.ref it) rfl ?_);refine zaa (next_end W B J hx λh' x q z=>?_);obtain⟨o,M,N⟩:=z;refine zaa (zcw (T := "StopIteration") (b:=true) ⟨o,M,N⟩ isSubtype_stop ?_);exact zaf (U _ q)
end
def ItE(K:zae)(t:Bool)(l:Addr):It:=
 ⟨λi H => ∃xs, BC K t H l xs /\ i<xs.length, λi H x H' => ∃p u, x = .ref p /\ H p = none /\ H' = upd H p (.tup [.int (i:Int), u]) /\ ∀xs, BC K t H l xs -> xs[i]? = some u,
  λi H=>∃xs,BC K t H l xs/\xs.length<=i⟩
theorem IB{P:zah}{w:World}{K:zae}{W:List Expr}{x1}{tp:Pos}(t:Bool){e it l:Addr}(U:e≠it) :
  Turn P w K (.Tuple W x1 tp) (ItE K t l) [e,it] e (λi h=>(∃F,zbD h e it (i:Nat) F)/\SIt t h it l i) where
 mem:=by simp
 obj:=by
  rintro i h ⟨⟨F,G⟩,⟨o1,e1,_,d1⟩⟩ c z;simp only[zaW,za0,or_false]at z;rcases z with rfl|rfl
  ·exact⟨_,G,λv q=>by cases q⟩
  ·exact⟨o1,e1,λv q=>by rw[d1]at q;cases q⟩
 keep:=λi h h' ⟨⟨F,G⟩,N⟩ k=>⟨⟨F,k e (by simp) _ G⟩,N.to λo q=>k it (by simp) o q⟩
 item:=by
  intro X hP hw hK z i pins s σ H E I hf st hg;subst hP hw hK;obtain⟨⟨F,G⟩,N⟩:=st;obtain⟨xs,q1,x8⟩:=hg;obtain⟨Y,r1,p1⟩:=iY I q1;have e1:xs[i]?=some xs[i]:=by simp[x8]
  obtain⟨u,eu,ru⟩:=r1.get e1;refine HF G N p1 (x:=u) (by simpa using eu) U λh' a1 a2 a3 a4 M=>⟨_,rfl,?_⟩
  refine wpAny_letOwnedTupleGo_enum (s:={s with heap:=h',toks:=s.toks+1}) a1 λh2 ae sb=>?_
  have zz:∀c,c∈[e,it]->c<s.heap.objs.size:=λc z=>by
   simp only[zaW,za0,or_false]at z;rcases z with rfl|rfl
   ·exact zao G
   ·obtain⟨o,q,_⟩:=N;exact zao q
  have J:∀c o,c≠e->h'.get? c=some o->h2.get? c=some o:=λc o z q=>sb.extBut _ _ z q
  have I1:Inv X pins σ H {s with heap:=h2,toks:=s.toks+1}:=iN I hf λc o z q=>by
   simp only[zaW,za0,or_false,not_or]at z;exact J c o z.1 (M c o z.1 z.2 q)
  have B:H s.heap.objs.size=none:=I.fresh;have ag:h2.get? s.heap.objs.size=some {cls:=.type "tuple",data:=.seq #[.int i s.toks,u]}:=J _ _ (zbw (zz e (by simp))) a3;have I2:Inv X pins σ (upd H s.heap.objs.size (.tup [.int (i:Int),xs[i]])) {s with heap:=h2,toks:=s.toks+1}:=by
   have ah:HOk X.prog X.w (upd H s.heap.objs.size (.tup [.int (i:Int),xs[i]])) h2:=λc ob q=>by
    by_cases z:c=s.heap.objs.size
    ·subst z;rw[aG]at q;cases q
     exact⟨by show 2<=zaj;decide,[.int i s.toks,u],.cons ⟨_,rfl⟩ (.cons ru .nil),_,ag,rfl,0,rfl,rfl⟩
    ·rw[aE z]at q
     exact(I1.hok c ob q).stay (λ_ _ _ q=>q) (λd q=>by rw[aE (bH q B)];exact q) λd ak q=>by rw[aE (bH q B)];exact q
   refine I.call' (s':={s with heap:=h2,toks:=s.toks+1}) (ch:=[e,it]) rfl ⟨λc o q _ _ hx=>?_,λc o q _ _ hx=>⟨o.slots,?_⟩,λc o q n hx=>by rw[aE (zaF (zao q))];exact n,λc o q hx=>⟨o,?_⟩,λc ak q=>by rw[aE (bH q B)];exact q,λc o' u' q=>by rw[aE (bH q B)];exact q,λc ps q=>⟨#[],by rw[aE (bH q B),q];simp⟩⟩ ah I.bare λb hb=>?_
   ·simp only[zaW,za0,or_false,not_or]at hx
    exact J c o hx.1 (M c o hx.1 hx.2 q)
   ·simp only[zaW,za0,or_false,not_or]at hx
    exact J c o hx.1 (M c o hx.1 hx.2 q)
   ·simp only[zaW,za0,or_false,not_or]at hx
    exact J c o hx.1 (M c o hx.1 hx.2 q)
   ·obtain⟨_,f1,_,f3,f4,f5⟩:=hf b hb
    exact⟨f3,f1,f4,f5⟩
  refine⟨.ref s.heap.objs.size,_,I2,rfl,⟨_,_,rfl,B,rfl,λaq g1=>by rw[<- wX I q1 g1];exact e1⟩,⟨⟨_,ae⟩,a2.to λo q=>J _ o (zaU U) q⟩,λc z=>?_⟩;rw[aE (zaF (zz c z))];exact(hf c z).1
 done:=by
  intro X hP hw hK z i pins s σ H E I hf st hg;subst hP hw hK;obtain⟨⟨F,G⟩,N⟩:=st;obtain⟨xs,q1,am⟩:=hg;obtain⟨Y,r1,p1⟩:=iY I q1;have n1:=r1.length;refine KR (I.ok.hd z) G N p1 (by simp;lia) λh' M=>⟨rfl,iN (t':=s.toks) I hf λc o z q=>?_⟩
  simp only[zaW,za0,or_false,not_or]at z;exact M c o z.2 q
 self:=λ_ _ _ _ _ st h=>let ⟨⟨_,G⟩,_⟩:=st;wpAny_pyIter_enum G h
theorem boot_enumerate:zaH "enumerate" = some (.type "enumerate"):=by first|rfl|decide +kernel
def YW(K:zae)(ta:TA):TI:=λσ H R=>ta σ H λvs H1=>∃t l xs,vs=[.ref l]/\BC K t H1 l xs/\R (ItE K t l) H1
theorem OP{X:Cx}{z:List Expr}{x1}{tp:Pos}{a:Expr}{ta:TA}{p pos:Pos}(hg:Gl X "enumerate")(hm:X.mg "enumerate" = none)(Y:PA X [a] ta)(hs:zag [a] X.env=[(false,eval a X.env)]:=by rfl) :
  PI X (.Tuple z x1 tp) (.Call (.Name "enumerate" p) [a] [] pos) (YW X.K ta):=by
 intro pins s σ H R I h;refine Call_ (lI I hg hm boot_enumerate (zcP (cS (Y pos pins s σ H _ I h) λus J ⟨vs,H1,B,r1,G⟩=>?_) (by rw[hs];rfl) rfl));obtain⟨t,l,xs,rfl,G,q⟩:=G;obtain⟨u,rfl,W⟩:=vals1 r1;cases W;obtain⟨U,_,p1⟩:=iY B G;refine HQ p1 λh' N M k=>?_
 refine wpAny_pyIter_enum N ?_;have D:J.heap.objs.size+1≠J.heap.objs.size:=by lia
 refine⟨_,[_,_],_,_,H1,rfl,B.kept (t':=J.toks) k,IB t D,⟨⟨_,N⟩,M⟩,λc F=>B.fpOk ?_ (B.hok.fresh ?_),q⟩
 ·simp only[zaW,za0,or_false]at F
  rcases F with rfl|rfl <;> lia
 ·simp only[zaW,za0,or_false]at F
  rcases F with rfl|rfl <;> lia
end My
namespace P
open PySem PySem.Spec PyProof.Rows L2
noncomputable def gB:Nat->List D->List D
 | _,[]=>[]
 | k,x::xs=>.tup [.int (k:Int),x]::gB (k+1) xs
def FZ(f:Lv):Lv:=λρ=>(f ρ).bind λds=>match ds with
 | [a]=>(gO a).map (gB 0)
 | _=>none
theorem g9:∀ {xs:List D} {k i:Nat} {d:D},(gB k xs)[i]?=some d->∃x,xs[i]?=some x/\d=.tup [.int ((k+i:Nat):Int),x]
 | [],k,i,d,h=>by simp[gB]at h
 | x::xs,k,0,d,h=>by simp[gB]at h;exact⟨x,rfl,h.symm⟩
 | x::xs,k,i+1,d,h=>by
  obtain⟨y,z,q⟩:=g9 (xs:=xs) (k:=k+1) (i:=i) (by simpa[gB]using h);exact⟨y,by simpa using z,by rw[q];congr 4;lia⟩
theorem eZ:∀(xs:List D) (k:Nat),(gB k xs).length=xs.length
 | [],_=>rfl
 | x::xs,k=>by simp[gB,eZ xs]
theorem KO{G}(hg:Gl X "enumerate")(hm:X.mg "enumerate" = none)(Y:A9 X O [a] f)(hs:zag [a] X.env=[(false,eval a X.env)]:=by rfl) :
  PDI X O (.Tuple elts G tp) (.Call (.Name "enumerate" p) [a] [] pos) (FZ f):=PI.mono (My.OP hg hm Y hs) λσ H R ⟨H0,A0,A,E,ρ,items,st,e,q⟩=>by
 obtain⟨ds,W,e⟩:=bind_some e;refine⟨H0,A0,A,E,ρ,ds,st,W,λvs H1 G r1=>?_⟩;split at e
 case h_2=>cases e
 rename_i da;obtain⟨xs,e2,rfl⟩:=map_some e;obtain⟨v,rfl,r2⟩:=r1.one;obtain⟨t1,F,us,rfl,N,_,k1⟩:=xE (K:=X.K) e2 r2;refine⟨t1,F,us,rfl,N,q _ H1 [.rep da (.ref F)] G (λp hp=>?_) ?_⟩
 ·rw[List.mem_singleton.mp hp];exact r2
 ·intro A' H' lv U i
  have a1:Rep A' H' da (.ref F):=U (.rep da (.ref F)) (zat ..);obtain⟨z,g1,B⟩:=k1 A' H' a1;refine⟨λhi=>⟨z,g1,by rw[B.length];rw[eZ]at hi;exact hi⟩,λd hd=>?_⟩;obtain⟨x,ex,rfl⟩:=g9 hd;obtain⟨u,J,ru⟩:=B.get' ex;refine⟨⟨z,g1,(List.getElem?_eq_some_iff.mp J).1⟩,λx' H2 ⟨p,u',e4,n,e5,e6⟩=>?_⟩;subst e4 e5;have M:=e6 z g1;rw[J]at M;cases M;rw[zaP];exact⟨Ext.new n,.tup aG (.cons (.int _) (.cons (ru.ext (Ext.new n)) .nil))⟩
@[simp] theorem q_enum:FZ f ρ=(f ρ).bind λds=>match ds with
 | [a]=>(gO a).map (gB 0)
 | _=>none:=rfl
end P
namespace P
open L2
structure Ro where
 j:Int
 k:Int
 a:Int
 b:Int
 p:Int
structure GR(M many:Int)(rs:List Ro):Prop where
 len:rs.length<=12
 jk:∀r∈rs,0<=r.j/\r.j<r.k/\r.k<many
 ab:∀r∈rs,(0<=r.a/\r.a<M)/\0<=r.b/\r.b<M
 pr:∀r∈rs,0<=r.p/\r.p<=10^30
noncomputable def lU(rs:List Ro)(n:Int):Option Ro:=if 0<=n then rs[n.toNat]? else none
theorem qF(h:lU rs n=some r):r∈rs:=by
 unfold lU at h;split at h
 ·exact zax h
 ·cases h
theorem M7(h:lU rs n=some r):0<=n/\n<(rs.length:Int):=by
 unfold lU at h;split at h
 ·rename_i h0
  have:=(List.getElem?_eq_some_iff.mp h).1
  lia
 ·cases h
theorem TN(q:0<=n)(h:n<(rs.length:Int)):∃r,lU rs n=some r:=by
 unfold lU;rw[if_pos q];have:n.toNat<rs.length:=by lia
 exact⟨rs[n.toNat],by simp[this]⟩
def gw(rs:List Ro):Int->List Int->Option Int
 | at_,[]=>some at_
 | at_,n::w=>(lU rs n).bind λr=>if r.j=at_ then gw rs r.k w else none
theorem nL:∀ {at_:Int} {v w:List Int},gw rs at_ (v++w)=(gw rs at_ v).bind λe=>gw rs e w
 | at_,[],w=>rfl
 | at_,n::v,w=>by
  show((lU rs n).bind λr=>if r.j=at_ then gw rs r.k (v++w)else none)=_;cases e:lU rs n with
  | none=>simp[gw,e]
  | some r=>
   by_cases h:r.j=at_
   ·simp[gw,e,h,nL (v:=v) (w:=w)]
   ·simp[gw,e,h]
theorem RF(h:gw rs at_ w=some e)(q:lU rs n=some r)(z:r.j=e):gw rs at_ (w++[n])=some r.k:=by
 rw[nL,h];simp[gw,q,z]
theorem xT:∀ {at_ e:Int} {w:List Int},gw rs at_ w=some e->∀n∈w,∃r,lU rs n=some r
 | at_,e,[],_,n,h=>nomatch h
 | at_,e,m::w,h,n,hn=>by
  unfold gw at h;cases er:lU rs m with
  | none=>rw[er]at h;cases h
  | some r=>
   rw[er]at h;simp only[zcG]at h;split at h
   ·rcases List.mem_cons.mp hn with z|z
    ·rw[z];exact⟨r,er⟩
    ·exact xT h n z
   ·cases h
theorem j7(g:GR M many rs):∀ {at_ e:Int} {w:List Int},gw rs at_ w=some e->at_+(w.length:Int)<=e
 | at_,e,[],h=>by cases h;simp
 | at_,e,m::w,h=>by
  unfold gw at h;cases er:lU rs m with
  | none=>rw[er]at h;cases h
  | some r=>
   rw[er]at h;simp only[zcG]at h;split at h
   ·have:=j7 g h
    have:=(g.jk r (qF er)).2.1;simp only[zaw];lia
   ·cases h
def gC(rs:List Ro)(w:List Int):Int:=(w.map λn=>match lU rs n with|some r=>r.p|none=>0).sum
theorem eD:gC rs (v++w)=gC rs v+gC rs w:=by
 unfold gC;rw[zaJ,List.sum_append]
theorem SU(g:GR M many rs):∀ {at_ e:Int} {w:List Int},gw rs at_ w=some e->at_<many->e<many
 | at_,e,[],h,hl=>by cases h;exact hl
 | at_,e,m::w,h,hl=>by
  unfold gw at h;cases er:lU rs m with
  | none=>rw[er]at h;cases h
  | some r=>
   rw[er]at h;simp only[zcG]at h;split at h
   ·exact SU g h (g.jk r (qF er)).2.2
   ·cases h
noncomputable def fl{α:Type}(h:Nat->Ro->List α):Nat->List Ro->List α
 | _,[]=>[]
 | m,r::rs=>h m r++fl h (m+1) rs
noncomputable def sg(q:Nat->Ro->Int):Nat->List Ro->Int
 | _,[]=>0
 | m,r::rs=>q m r+sg q (m+1) rs
theorem xU{B:Type}{h:Nat->Ro->List B}{a:B}:∀ {rs:List Ro} {m:Nat},a∈fl h m rs↔∃i r,rs[i]?=some r/\a∈h (m+i) r
 | [],m=>by simp[fl]
 | r::rs,m=>by
  unfold fl;rw[List.mem_append,xU (rs:=rs) (m:=m+1)];constructor
  ·rintro(z|⟨i,q,e,z⟩)
   ·exact⟨0,r,rfl,z⟩
   ·exact⟨i+1,q,by simpa using e,by rw[show m+(i+1)=m+1+i by lia];exact z⟩
  ·rintro⟨i,q,e,z⟩
   cases i with
   | zero=>simp at e;subst e;exact .inl z
   | succ i=>exact .inr ⟨i,q,by simpa using e,by rw[show m+1+i=m+(i+1) by lia];exact z⟩
theorem u3{q:Type}{h:Nat->Ro->List q}:∀ {a b:List Ro} {m:Nat},fl h m (a++b)=fl h m a++fl h (m+a.length) b
 | [],b,m=>by simp[fl]
 | r::a,b,m=>by
  show h m r++fl h (m+1) (a++b)=(h m r++fl h (m+1) a)++_;rw[u3,List.append_assoc,zaw,show m+1+a.length=m+(a.length+1) by lia]
theorem N7{q:Type}{h:Nat->Ro->List q}{rs:List Ro}{i:Nat}{r:Ro}(e:rs[i]?=some r):fl h 0 (rs.take (i+1))=fl h 0 (rs.take i)++h i r:=by
 have hi:i<rs.length:=(List.getElem?_eq_some_iff.mp e).1;rw[zcY,e,u3];have:(rs.take i).length=i:=by simp;lia
 simp[this,fl]
theorem DW{G:Type}{R:G->G->Prop}{h:Nat->Ro->List G}:∀ {rs:List Ro} {m:Nat},(∀i r,rs[i]?=some r->(h (m+i) r).Pairwise R)->(∀i j r q,i<j->rs[i]?=some r->rs[j]?=some q->∀a∈h (m+i) r,∀b∈h (m+j) q,R a b)->(fl h m rs).Pairwise R
 | [],m,_,_=>zdp
 | r::rs,m,h1,h2=>by
  unfold fl;rw[List.pairwise_append];refine⟨h1 0 r rfl,DW (rs:=rs) (m:=m+1) (λi q e=>?_) (λi j q F M e J a B b z=>?_),λa B b z=>?_⟩
  ·have:=h1 (i+1) q (by simpa using e)
   rw[show m+1+i=m+(i+1) by lia];exact this
  ·rw[show m+1+i=m+(i+1) by lia]at B
   rw[show m+1+j=m+(j+1) by lia]at z;exact h2 (i+1) (j+1) q F (by lia) (by simpa using e) (by simpa using J) a B b z
  ·obtain⟨j,q,e,z⟩:=xU.mp z
   rw[show m+1+j=m+(j+1) by lia]at z;exact h2 0 (j+1) r q (by lia) rfl (by simpa using e) a B b z
def bG(rs:List Ro)(k:Int):Nat->Int->List (List Int)
 | 0,_=>[]
 | n+1,x=>if x=k then [[]]else fl (λi r=>if r.j=x/\r.k<=k then(bG rs k n r.k).map λw=>(i:Int)::w else []) 0 rs
theorem FI{rs:List Ro}{i:Nat}:lU rs (i:Int)=rs[i]?:=by unfold lU;rw[if_pos (by lia)];simp
theorem iJ{rs:List Ro}{k:Int}:∀ {n:Nat} {x:Int} {w:List Int},w∈bG rs k n x->gw rs x w=some k
 | 0,x,w,h=>nomatch h
 | n+1,x,w,h=>by
  unfold bG at h;split at h
  ·rename_i e
   rw[List.mem_singleton.mp h,e];rfl
  ·obtain⟨i,r,e,hw⟩:=xU.mp h
   rw[zaP]at hw;split at hw
   ·rename_i hc
    obtain⟨v,q,rfl⟩:=List.mem_map.mp hw;have:=iJ q;simp[gw,FI,e,hc.1,this]
   ·cases hw
theorem jY(g:GR M many rs):∀ {n:Nat} {x:Int} {w:List Int},k-x<(n:Int)->gw rs x w=some k->w∈bG rs k n x
 | 0,x,w,hn,h=>by have:=j7 g h;simp at hn;lia
 | n+1,x,w,hn,h=>by
  unfold bG;cases w with
  | nil=>cases h;rw[if_pos rfl];exact List.mem_singleton.mpr rfl
  | cons m v=>
   have q:=j7 g h;simp only[zaw]at q;rw[if_neg (by lia)];unfold gw at h;cases er:lU rs m with
   | none=>rw[er]at h;cases h
   | some r=>
    rw[er]at h;simp only[zcG]at h;split at h
    ·rename_i hj
     have F:=M7 er;obtain⟨i,rfl⟩:∃i:Nat,m=(i:Int):=⟨m.toNat,by lia⟩;rw[FI]at er;have z:=(g.jk r (zax er)).2.1;have B:=j7 g h;refine xU.mpr ⟨i,r,er,?_⟩;rw[zaP,if_pos ⟨hj,by lia⟩];exact List.mem_map.mpr ⟨v,jY g (by simp at hn;lia) h,rfl⟩
    ·cases h
theorem jN{rs:List Ro}{k:Int}:∀(n:Nat) (x:Int),(bG rs k n x).Pairwise λa b=>HT.lexLt a b=true
 | 0,x=>zdp
 | n+1,x=>by
  unfold bG;split
  ·exact List.pairwise_singleton _ _
  ·refine DW (λi r _=>?_) (λi j r F B _ _ a q b z=>?_)
   ·split
    ·rw[zel]
     refine(jN n r.k).imp λ{a b} h=>?_
     show(if _=_ then HT.lexLt a b else _)=true;rw[if_pos rfl];exact h
    ·exact zdp
   ·split at q
    ·split at z
     ·obtain⟨u,_,rfl⟩:=List.mem_map.mp q
      obtain⟨v,_,rfl⟩:=List.mem_map.mp z;show(if _=_ then HT.lexLt u v else _)=true;rw[if_neg (by lia)];exact decide_eq_true (by lia)
     ·cases z
    ·cases q
theorem uU:∀a:List Int,HT.lexLt a a=false
 | []=>rfl
 | x::a=>by show(if x=x then HT.lexLt a a else _)=false;rw[if_pos rfl];exact uU a
theorem BK(n:Nat)(x:Int):(bG rs k n x).Nodup:=
 (jN n x).imp λ{a b} h e=>by rw[e,uU]at h;cases h
theorem rJ{z:Type}[DecidableEq z]:∀ {l K:List z},l.Nodup->(∀x∈l,x∈K)->l.length<=K.length
 | [],K,_,_=>zaI _
 | a::l,K,h,hs=>by
  have q:=hs a (zat ..);have h2:=List.nodup_cons.mp h;have:=rJ (l:=l) (K:=K.erase a) h2.2 λx hx=>(List.mem_erase_of_ne λe=>h2.1 (by rw[<- e];exact hx)).mpr (hs x (zap _ hx))
  rw[List.length_erase_of_mem q]at this;have:=List.length_pos_of_mem q;simp only[zaw];lia
theorem jS{z:Type}{h:Nat->Ro->List z}{B:Nat}:∀ {rs:List Ro} {m:Nat},(∀i r,rs[i]?=some r->(h (m+i) r).length<=B)->(fl h m rs).length<=rs.length*B
 | [],m,_=>by simp[fl]
 | r::rs,m,hb=>by
  unfold fl;rw[zbc,zaw,Nat.succ_mul];have h1:=hb 0 r rfl;have h2:=jS (h:=h) (B:=B) (rs:=rs) (m:=m+1) λi q e=>by
   have:=hb (i+1) q (by simpa using e);rw[show m+1+i=m+(i+1) by lia];exact this
  simp only[Nat.add_zero]at h1
  lia
theorem mO{M many:Int}{rs:List Ro}(g:GR M many rs){k:Int}:∀(n:Nat) (x:Int) (d:Nat),k-x<=(d:Int)->(bG rs k n x).length<=12^d
 | 0,x,d,_=>zaI _
 | n+1,x,d,hd=>by
  unfold bG;split
  ·exact Nat.one_le_pow _ _ (by decide)
  ·by_cases hx:x<k
   ·obtain⟨e,rfl⟩:∃e,d=e+1:=⟨d-1,by lia⟩
    refine zaL (jS (B:=12^e) λi r er=>?_) ?_
    ·split
     ·rename_i hc
      rw[zal];have q:=g.jk r (zax er);exact mO g n r.k e (by lia)
     ·exact zaI _
    ·rw[Nat.pow_succ,Nat.mul_comm]
     exact Nat.mul_le_mul_left _ g.len
   ·refine zaL (jS (B:=0) λi r er=>?_) (by simp)
    split
    ·rename_i hc
     have q:=g.jk r (zax er)
     lia
    ·exact zaI _
end P
namespace P
open PySem PySem.Spec PyProof.Rows L2
theorem cH{n:Nat}(h:n<=1000000):b7 [.int (n:Int)]=some (aR 0 1 n):=by
 show(if pJ (n:Int)then _ else _)=_;rw[if_pos (by simp only[pJ,zaQ,decide_eq_true_eq];lia)];simp
theorem d8(q:0<=y)(h:y<=1000000):b7 [.int y]=some (aR 0 1 y.toNat):=by
 show(if pJ y then _ else _)=_;rw[if_pos (by simp only[pJ,zaQ,decide_eq_true_eq];lia)]
theorem J9(h:v.length+w.length<=1000000):dP (tupI v) (tupI w)=some (tupI (v++w)):=by
 unfold tupI;rw[q_addAT,if_pos (by simp only[a7,zal];exact decide_eq_true h),zaJ]
noncomputable def kW(r:Ro):D:=.tup [.int r.j,.int r.k,.int r.a,.int r.b,.int r.p]
theorem xG(h:lU rs n=some r):gD (rs.map kW) n=some (kW r):=by
 have q:=M7 h;obtain⟨j,rfl⟩:∃j:Nat,n=(j:Int):=⟨n.toNat,by lia⟩;unfold lU at h;rw[if_pos (by lia)]at h;refine bV ?_;rw[zaC];simp at h;rw[h];rfl
theorem at0:gD (a::l) 0=some a:=bV (j:=0) rfl
theorem at1:gD (a::b::l) 1=some b:=bV (j:=1) rfl
theorem at2:gD (a::b::c::l) 2=some c:=bV (j:=2) rfl
theorem W9:gD (a::b::c::d::l) 3=some d:=bV (j:=3) rfl
theorem qd:gD (a::b::c::d::e::l) 4=some e:=bV (j:=4) rfl
theorem ZT:aI (kW r) (.int 0)=some (.int r.j):=by simp[kW,at0]
theorem ZM:aI (kW r) (.int 1)=some (.int r.k):=by simp[kW,at1]
theorem qx:aI (kW r) (.int 4)=some (.int r.p):=by simp[kW,qd]
theorem jZ{K:Nat}{f:Ev}{rest:List (Option D)}{F:Int->D}(h:∀k:Int,0<=k->k<(K:Int)->f (some (.int k)::rest)=some (F k)):∀(l:List Nat) (o:Option D),(∀k∈l,k<K)->bD (aQ 0) fJ f (l.map λ(k:Nat)=>D.int (k:Int)) (o::rest)=some (l.map λ(k:Nat)=>F (k:Int))
 | [],o,_=>rfl
 | k::l,o,hl=>by
  have ih:=jZ h l (some (.int (k:Int))) λm q=>hl m (zap _ q)
  have z:=h (k:Int) (by lia) (by have:=hl k (zat ..);lia);simp[bD,z,ih]
theorem qS:∀(ws:List (List Int)) (o:Option D),(∀w∈ws,w.length<=1000)->bD (aQ 0) fJ (bC dP (eV (aC (aD 1) aZ)) (aD 0)) (ws.map tupI) [o,some (.int t)]=some ((ws.map λw=>t::w).map tupI)
 | [],o,_=>rfl
 | w::ws,o,h=>by
  have ih:=qS (t:=t) ws (some (tupI w)) λv z=>h v (zap _ z)
  have q:=J9 (v:=[t]) (w:=w) (by have:=h w (zat ..);simp;lia);have B:D.tup [.int t]=tupI [t]:=rfl;simp only[List.singleton_append]at q;simp[-zav,bD,B,q,ih]
end P
namespace My
open PySem PySem.Spec PyProof.Rows L2
noncomputable def ZP(a:Bool):String:=if a=true then "str_ascii_iterator" else "str_iterator"
def ItS(x:Str):It:=⟨λi H=>i<x.cps.size,λi H y H'=>H'=H/\∃c,x.cps[i]?=some c/\y=.str ⟨#[c]⟩,λi H=>x.cps.size<=i⟩
theorem LB{P:zah}{w:World}{K:zae}{tg:Expr}(a:Bool)(x:Str)(t:Tok)(it:Addr):Turn P w K tg (ItS x) [it] it (λi h=>h.IsStrIter it (ZP a) x t i) where
 mem:=by simp
 obj:=λi h st b q=>by
  have e:b=it:=by simpa using q
  subst e;obtain⟨o,e,c,d⟩:=st;exact⟨o,e,λv z=>by rw[d]at z;cases z⟩
 keep:=λi h h' st k=>let ⟨o,ho,r⟩:=st;⟨o,k it (by simp) o ho,r⟩
 item:=by
  intro X W hw U hc i pins s σ H E I F st Y;subst W hw U;obtain⟨J,f1,f2,M,G,N⟩:=F it (by simp);have hi:i<x.cps.size:=Y;have hx:x.cps[i]?=some x.cps[i]:=by simp[hi]
  cases a with
  | true=>
   refine wpAny_pyNext_ascii_item st hx λh' B sb=>?_
   have I1:Inv X pins σ H {s with heap:=h',toks:=s.toks+1}:=I.turned (t':=s.toks+1) (λb o q e=>(sb.2 b q).trans e) J f1 M G N;obtain⟨o,e,c,d⟩:=id B;exact⟨_,rfl,tZ (s:={s with heap:=h',toks:=s.toks+1}) e c d (by decide) ⟨.str ⟨#[x.cps[i]]⟩,H,I1,⟨_,rfl⟩,⟨rfl,_,hx,rfl⟩,B,λb q=>(F b q).1⟩⟩
  | false=>
   refine wpAny_pyNext_wide_item st hx λh' B sb=>?_
   have I1:Inv X pins σ H {s with heap:=h',toks:=s.toks+1}:=I.turned (t':=s.toks+1) (λb o q e=>(sb.2 b q).trans e) J f1 M G N;obtain⟨o,e,c,d⟩:=id B;exact⟨_,rfl,tZ (s:={s with heap:=h',toks:=s.toks+1}) e c d (by decide) ⟨.str ⟨#[x.cps[i]]⟩,H,I1,⟨_,rfl⟩,⟨rfl,_,hx,rfl⟩,B,λb q=>(F b q).1⟩⟩
 done:=by
  intro X W hw U hc i pins s σ H E I F st Y;subst W hw U;obtain⟨J,f1,f2,M,G,N⟩:=F it (by simp);have hi:x.cps.size<=i:=Y;have hx:x.cps[i]?=none:=by simp[hi]
  cases a with
  | true=>exact wpAny_pyNext_ascii_end (I.ok.hd hc) st hx λh' eb=>⟨rfl,I.turned (t':=s.toks) (λb o q e=>eb b o q e) J f1 M G N⟩
  | false=>exact wpAny_pyNext_wide_end (I.ok.hd hc) st hx λh' eb=>⟨rfl,I.turned (t':=s.toks) (λb o q e=>eb b o q e) J f1 M G N⟩
 self:=λ_ _ _ _ _ st h=>by
  cases a with
  | true=>exact wpAny_pyIter_striter_ascii st h
  | false=>exact wpAny_pyIter_striter_wide st h
def qas(tl:TE):TI:=λσ H R=>tl σ H λx H1=>∃y,x=.str y/\R (ItS y) H1
section
variable {X:Cx}{tg:Expr}
theorem VR{l:Expr}{tl:TE}(F:PE X l tl):PI X tg l (qas tl):=by
 intro pins s σ H R I h;refine cS (F pins s σ H _ I h) λv z ⟨x,H1,B,r1,G⟩=>?_
 obtain⟨y,rfl,q⟩:=G;obtain⟨t,rfl⟩:=r1;have fin:∀a:Bool,PIE X pins σ tg R (.ref z.heap.objs.size) {z with heap:=z.heap.push {cls:=.type (ZP a),data:=.fields #[.str y t,.int 0 0]} }:=λa=>by
  refine⟨z.heap.objs.size,[z.heap.objs.size],_,_,H1,rfl,B.kept (t':=z.toks) λb o e=>zan _ e,LB a y t _,⟨_,zaE _ rfl,rfl,rfl⟩,λb J=>?_,q⟩;have e:b=z.heap.objs.size:=by simpa using J
  subst e;exact B.fpOk (zai _) (B.hok.fresh (zai _))
 cases ha:y.cps.all (·<128)
 ·exact wpAny_pyIter_wide ha (fin false)
 ·exact wpAny_pyIter_ascii ha (fin true)
theorem GP:OpR X (zaA .LtE) (λx y H Q=>∃i j,x=.str i/\y=.str j/\Q (.bl (!decide (j.cps.toList<i.cps.toList))) H):=by
 intro pins s σ H x y v u Q I z B h;obtain⟨i,j,rfl,rfl,q⟩:=h;obtain⟨t,rfl⟩:=z;obtain⟨t',rfl⟩:=B;exact PySem.P.le_str ⟨.bl _,H,I,rfl,q⟩
theorem zK:∀ {ss:List Str} {its:List Value},Vals (ss.map V.str) its->StrsAre its ss
 | [],_,.nil=>.nil
 | x::ss,_,.cons r t=>by
  obtain⟨k,rfl⟩:=r;exact .cons x k (zK t)
def rJoin(K:zae):V->List V->Hp->VK->Prop:=λx vs H Q=>∃(sep:Str) (p:Addr) (ss:List Str),x=.str sep/\vs=[.ref p]/\SqL K H p (ss.map V.str)/\(ss.map (·.length)).sum+ss.length*sep.length<=16777216/\Q (.str (Txt.join sep ss)) H
theorem EQ:ql X "str.join" (rJoin X.K):=by
 intro pins s σ H x vs v U Q I J G h;obtain⟨sep,p,ss,rfl,rfl,N,M,q⟩:=h;obtain⟨t,rfl⟩:=J;obtain⟨u,rfl,z⟩:=G.one;cases z;obtain⟨its,B,F,_⟩:=I.list N;exact join_list (items:=its.toArray) F.isList (by simpa using zK B) M λt' k=>⟨.str (Txt.join sep ss),H,I.kept (t':=k) λ_ _ e=>e,⟨_,rfl⟩,q⟩
end
end My
namespace P
open PySem PySem.Spec PyProof.Rows L2
section
variable {X:Cx}{O O':List Nat}{L:Lp}
noncomputable def NV:List D->Option (List Str)
 | []=>some []
 | .str b::l=>(NV l).map (b::·)
 | _=>none
theorem AA:∀ {ds:List D} {ns:List Str} {vs:List V},NV ds=some ns->RepL A H ds vs->vs=ns.map V.str
 | [],_,_,e,.nil=>by cases e;rfl
 | d::ds,ns,_,e,.cons h t=>by
  cases d with
  | str b=>
   obtain⟨m,q,rfl⟩:=map_some e;cases RepB.str_inv (.of h);rw[AA q t];rfl
  | _=>exact nn e
theorem uZ:∀bs:List Str,NV (bs.map .str)=some bs
 | []=>rfl
 | b::bs=>by rw[zak,NV,uZ bs];rfl
def AW:D->D->Option D
 | .str sep,.lst l=>(NV l).bind λss=>if(ss.map (·.length)).sum+ss.length*sep.length<=16777216 then some (.str (Txt.join sep ss))else none
 | _,_=>none
theorem EU(J:PB X O o fo)(M:PB X O e fe)(N:∀ {to:TE} {t:TA},PE X o to->PA X [e] t->PE X (.Call (.Attribute o "join" apos) [e] [] cpos) (Z7 X.K "str" (My.rJoin X.K) to t))(hs:zag [e] X.env=(false,eval e X.env)::zag [] X.env:=by rfl):PD X O (.Call (.Attribute o "join" apos) [e] [] cpos) (bC AW fo fe):=
 PE.mono (N J (yT M D6 hs)) <| by
  rintro σ H Q ⟨H0,A0,A,E,ρ,d,st,e,q⟩;obtain⟨x,ex,e⟩:=bind_some e;obtain⟨y,G,e⟩:=bind_some e;refine⟨H0,A0,A,E,ρ,x,st,ex,λv H1 F r1=>?_⟩;unfold AW at e;split at e
  ·rename_i sep l _
   obtain⟨ss,es,e⟩:=bind_some e;by_cases B:(ss.map (·.length)).sum+ss.length*sep.length<=16777216
   ·rw[if_pos B]at e
    cases e;cases r1.str_inv;refine⟨rfl,H0,A0,A,E,ρ,[.lst l],st.mono F,by unfold aC aZ;rw[G];rfl,λvs H2 U r2=>?_⟩;obtain⟨w,rfl,z⟩:=r2.one;obtain⟨p,W,rfl,h1,r3⟩:=z.lst_inv;rw[AA es r3]at h1;exact⟨sep,p,ss,rfl,rfl,.inl h1,B,q _ H2 (F.trans U) (.str _)⟩
   ·rw[if_neg B]at e;cases e
  ·cases e
theorem VF(h:(ss.map (·.length)).sum+ss.length*sep.length<=16777216):AW (.str sep) (.lst (ss.map .str))=some (.str (Txt.join sep ss)):=by
 unfold AW;simp only[uZ,zcG];rw[if_pos h]
noncomputable def R4:D->D->Option D
 | .int i,.int j=>some (.bl (decide (i<=j)))
 | .str i,.str j=>some (.bl (!decide (j.cps.toList<i.cps.toList)))
 | _,_=>none
theorem TV:kO X (zaA .LtE) R4:=OpR.mono (OpR.or XQ My.GP) <| by
 rintro x y H Q ⟨A,dx,F,d,G,z,B,e,q⟩;unfold R4 at e;split at e
 ·cases e
  cases z.int_inv;cases B.int_inv;exact .inl ⟨_,_,rfl,rfl,q _ H (Ext.refl _ _) (.bl _)⟩
 ·cases e
  cases z.str_inv;cases B.str_inv;exact .inr ⟨_,_,rfl,rfl,q _ H (Ext.refl _ _) (.bl _)⟩
 ·cases e
@[simp] theorem q_leAI:R4 (.int i) (.int j)=some (.bl (decide (i<=j))):=rfl
@[simp] theorem q_leAS:R4 (.str i) (.str j)=some (.bl (!decide (j.cps.toList<i.cps.toList))):=rfl
def m9(x y:D):Option D:=match x,y with
 | .str i,.str j=>some (.bl (!(!(Builtin.Str.occurrences j i 0 j.length 1).isEmpty)))
 | x,y=>xO x y
theorem HJ(F:X.A.units+64<cLine):kO X (zaA .NotIn) m9:=OpR.mono (OpR.or (LC F) v8) <| by
 rintro x y H Q ⟨A,dx,J,d,G,B,z,e,q⟩;unfold m9 at e;split at e
 ·cases e
  cases B.str_inv;cases z.str_inv;exact .inr ⟨_,_,rfl,rfl,q _ H (Ext.refl _ _) (.bl _)⟩
 ·exact .inl ⟨A,_,_,d,G,B,z,e,q⟩
noncomputable def signs(x:Str):List D:=x.cps.toList.map λc=>.str ⟨#[c]⟩
theorem US:IY (My.ItS x) [] (signs x):=by
 intro A H M J i;have q:(signs x).length=x.cps.size:=by simp[signs]
 refine⟨λhi=>by rw[q]at hi;exact hi,λd hd=>?_⟩;have hi:i<x.cps.size:=by rw[<- q];exact(List.getElem?_eq_some_iff.mp hd).1
 refine⟨hi,λy H' ⟨e,c,G,B⟩=>?_⟩;subst e B;have:d=.str ⟨#[c]⟩:=by
  unfold signs at hd;rw[zaC]at hd;obtain⟨z,F,rfl⟩:=map_some hd;have:x.cps[i]?=some z:=by rw[<- zei];exact F
  rw[G]at this;cases this;rfl
 subst this;exact⟨Ext.refl _ _,.str _⟩
def fO(f:Ev):Lv:=λρ=>(f ρ).bind λd=>match d with
 | .lst l=>some l
 | .tup l=>some l
 | .dT l=>some (l.map λp=>.tup (p.1.map IZ))
 | .str x=>some (signs x)
 | _=>none
@[simp] theorem q_lSeqA:fO f ρ=(f ρ).bind λd=>match d with
 | .lst l=>some l
 | .tup l=>some l
 | .dT l=>some (l.map λp=>.tup (p.1.map IZ))
 | .str x=>some (signs x)
 | _=>none:=rfl
theorem K7(h:PD X O e f):PDI X O tg e (fO f):=PI.mono (PI.or (Q9 h) (My.VR h)) <| by
 rintro σ H R ⟨H0,A0,A,E,ρ,items,st,e,q⟩;obtain⟨d,z,e⟩:=bind_some e;cases d with
 | str x=>
  cases e;refine .inr ⟨H0,A0,A,E,ρ,_,st,z,λv H1 F r1=>?_⟩;cases RepB.str_inv (.of r1);exact⟨x,rfl,q _ H1 [] F (λp B=>nomatch B) US⟩
 | lst l=>exact .inl ⟨H0,A0,A,E,ρ,items,st,by unfold NE;rw[z];exact e,q⟩
 | tup l=>exact .inl ⟨H0,A0,A,E,ρ,items,st,by unfold NE;rw[z];exact e,q⟩
 | dT l=>exact .inl ⟨H0,A0,A,E,ρ,items,st,by unfold NE;rw[z];exact e,q⟩
 | _=>exact nn e
end
structure GInt(mg:Str->Option Value)(x:Str)(i:Int):Prop where
 ex:∃t,mg x=some (.int i t)
section
variable {X:Cx}{O:List Nat}
end
@[simp] theorem q_eqS:kN (.str a) (.str b)=some (.bl (decide (a=b))):=by
 unfold kN JC;rw[if_pos (.inl rfl)];by_cases h:a=b
 ·subst h;simp
 ·have h2:¬ D.str a=D.str b:=λz=>h (by injection z)
  simp[h]
@[simp] theorem q_neS:BB (.str a) (.str b)=some (.bl (!decide (a=b))):=by
 unfold BB JC;rw[if_pos (.inl rfl)];by_cases h:a=b
 ·subst h;simp
 ·have h2:¬ D.str a=D.str b:=λz=>h (by injection z)
  simp[h]
theorem fQ{f rest:Sv}{ρ:cU}{R:D->Prop}(W:cU->Prop)(h:∃ρ',f ρ=some (.nx ρ')/\W ρ')(k:∀ρ',W ρ'->∃d,rest ρ'=some (.rt d)/\R d):∃d,dB f rest ρ=some (.rt d)/\R d:=by
 obtain⟨ρ',e,w⟩:=h;rw[aF e];exact k ρ' w
theorem FQ{c:Bv}{f rest:Sv}{ρ:cU}{R:D->Prop}(b:Bool)(q:c ρ=some b)(z:b=true->∃d,f ρ=some (.rt d)/\R d)(B:b=false->∃d,rest ρ=some (.rt d)/\R d):∃d,dB (BD c f R7) rest ρ=some (.rt d)/\R d:=by
 cases b with
 | true=>
  obtain⟨d,e,r⟩:=z rfl;exact⟨d,tL (by rw[qae q];exact e),r⟩
 | false=>
  rw[aF (ρ':=ρ) (by rw[Y6 q];rfl)];exact B rfl
def eqN(n:Nat)(d:D):Prop:=∃x,gZ d=some x/\x.nb=true/\x.dep<=n
theorem eqN.ok(h:eqN n d)(q:n<=60):fR d=true:=by
 obtain⟨x,e,a,b⟩:=h;unfold fR;rw[e];show(x.nb && decide (x.dep<=60))=true;rw[a,decide_eq_true (by lia)];rfl
theorem eqN.mono(h:eqN n d)(q:n<=m):eqN m d:=by
 obtain⟨x,e,a,b⟩:=h;exact⟨x,e,a,by lia⟩
theorem eqN.int:eqN n (.int i):=⟨.int i,rfl,rfl,zaI _⟩
theorem eqN.str:eqN n (.str s):=⟨.str s,rfl,rfl,zaI _⟩
theorem eqN.list:∀ {l:List D},(∀d∈l,eqN n d)->∃xs,fN l=some xs/\My.JB xs=true/\My.oB xs<=n
 | [],_=>⟨[],rfl,rfl,zaI _⟩
 | d::l,h=>by
  obtain⟨x,e,a,b⟩:=h d (zat ..);obtain⟨xs,F,z,G⟩:=eqN.list (l:=l) λq B=>h q (zap _ B)
  refine⟨x::xs,?_,?_,?_⟩
  ·rw[fN,e,F];rfl
  ·show(x.nb && My.JB xs)=true
   rw[a,z];rfl
  ·show max x.dep (My.oB xs)<=n
   lia
theorem eqN.tup(h:∀d∈l,eqN n d):eqN (n+1) (.tup l):=by
 obtain⟨xs,e,a,b⟩:=eqN.list h;refine⟨.tup xs,?_,a,?_⟩
 ·rw[gZ,e];rfl
 ·show My.oB xs+1<=n+1
  lia
theorem AJ{q:Type}{rest:List (Option D)}{g h:q->D}:∀(l:List q) (o:Option D),(∀a∈l,f (some (g a)::rest)=some (h a))->bD (aQ 0) fJ f (l.map g) (o::rest)=some (l.map h)
 | [],o,_=>rfl
 | a::l,o,hf=>by
  have ih:=AJ (f:=f) (rest:=rest) (g:=g) (h:=h) l (some (g a)) λb B=>hf b (zap _ B)
  have z:=hf a (zat ..);simp[-zac,-zab,aA,aB,bD,z,ih]
theorem w9{f:Ev}{rest:List (Option D)}{R:D->Prop}:∀(l:List D) (o:Option D),(∀a∈l,∃d,f (some a::rest)=some d/\R d)->∃ds,bD (aQ 0) fJ f l (o::rest)=some ds/\ds.length=l.length/\∀d∈ds,R d
 | [],o,_=>⟨[],rfl,rfl,λ_ h=>nomatch h⟩
 | a::l,o,hf=>by
  obtain⟨ds,e,G,B⟩:=w9 (f:=f) (rest:=rest) (R:=R) l (some a) λb M=>hf b (zap _ M)
  obtain⟨d,F,rd⟩:=hf a (zat ..);refine⟨d::ds,by simp[-zac,-zab,aA,aB,bD,F,e],by simp[G],λq J=>?_⟩;rcases List.mem_cons.mp J with z|z
  ·rw[z];exact rd
  ·exact B q z
theorem lM(q:0<=k)(h:k<(l.length:Int)):lS (.lst l) (.int k) e=some (.lst (l.set k.toNat e)):=by
 show(NY l.length k).map _=_;unfold NY;rw[if_pos q,if_pos h];rfl
theorem at_of(q:0<=k)(h:l[k.toNat]?=some d):gD l k=some d:=by
 obtain⟨j,rfl⟩:∃j:Nat,k=(j:Int):=⟨k.toNat,by lia⟩;exact bV (by simpa using h)
theorem tU(z:0<=k)(h:k<(l.length:Int)):∃d,d∈l/\l[k.toNat]?=some d/\gD l k=some d:=by
 have q:k.toNat<l.length:=by lia
 have e:l[k.toNat]?=some l[k.toNat]:=zaT q;exact⟨l[k.toNat],List.getElem_mem q,e,at_of z e⟩
theorem uN(hd:d∈aR 0 1 n):∃i:Int,d=.int i/\0<=i/\i<(n:Int):=by
 unfold aR at hd;obtain⟨j,q,rfl⟩:=List.mem_map.mp hd;have:=List.mem_range.mp q;exact⟨0+(j:Int)*1,rfl,by lia,by lia⟩
theorem E6:∀ {l:List D},(∀d∈l,∃s:Str,d=.str s)->∃ss:List Str,l=ss.map .str
 | [],_=>⟨[],rfl⟩
 | d::l,h=>by
  obtain⟨s,rfl⟩:=h d (zat ..);obtain⟨ss,e⟩:=E6 (l:=l) λq z=>h q (zap _ z)
  exact⟨s::ss,by rw[e];rfl⟩
theorem FJ(I:Nat->cU->Prop)(J:cU->Prop)(h:∀n ρ,I n ρ->(c ρ=some true/\∃m ρ',m<n/\b ρ=some (.nx ρ')/\I m ρ')\/(c ρ=some false/\J ρ)):∀(fuel n:Nat) (ρ:cU),n<fuel->I n ρ->∃ρ',eS c b fuel ρ=some (.nx ρ')/\J ρ'
 | 0,n,ρ,hn,_=>absurd hn (Nat.not_lt_zero n)
 | fuel+1,n,ρ,hn,hi=>by
  rcases h n ρ hi with⟨B,m,ρ',M,G,q⟩|⟨B,z⟩
  ·obtain⟨F,e,z⟩:=FJ I J h fuel m ρ' (by lia) q
   refine⟨F,?_,z⟩;unfold eS;rw[B,aA,if_pos rfl,G,aA];exact e
  ·refine⟨ρ,?_,z⟩
   unfold eS;rw[B,aA,if_neg zaB]
theorem HC{c:Bv}{b rest:Sv}{ρ:cU}{R:D->Prop}(I:Nat->cU->Prop)(J:cU->Prop)(n:Nat)(q:n<100000)(z:I n ρ)(h:∀n ρ,I n ρ->(c ρ=some true/\∃m ρ',m<n/\b ρ=some (.nx ρ')/\I m ρ')\/(c ρ=some false/\J ρ))(k:∀ρ',J ρ'->∃d,rest ρ'=some (.rt d)/\R d):∃d,dB (lN c b) rest ρ=some (.rt d)/\R d:=by
 obtain⟨ρ',e,B⟩:=FJ I J h 100000 n ρ q z;have F:lN c b ρ=some (.nx ρ'):=e;rw[aF F];exact k ρ' B
theorem PD.pe(h:PD X O e f):PE X e (tD Rep O f):=h
noncomputable def isStar:Expr->Bool
 | .Starred ..=>true
 | _=>false
theorem cV(h:isStar e=false):zag (e::es) env=(false,eval e env)::zag es env:=by
 cases e <;> first|rfl|cases h
theorem iR:∀ {es:List Expr},(es.all λe=>!isStar e)=true->(zaG pos (zag es env)).any (·.1)=false
 | [],_=>by simp[zag,zaG]
 | e::es,h=>by
  rw[List.all_cons,zaQ]at h;have q:isStar e=false:=by cases z:isStar e;rfl;rw[z]at h;exact absurd h.1 (by decide)
  have ih:=iR (pos:=pos) (env:=env) (es:=es) h.2;rw[cV q];simp only[zaG,zak,zb8,Bool.false_or]at ih ⊢;exact ih
end P
namespace My
open PySem PySem.Spec PyProof.Rows L2 PySem.SeqAt
section
variable {prog:zah}{w:World}{A:zam}{R:Result->zad->Prop}{I S:Addr}{fp wr:List Addr}{n:Nat}{P:Nat->Value->Prop}{St:Nat->Heap->Prop}{kw:List (Str×Value)}
end
section
variable {X:Cx}
end
end My
namespace P
open PySem PySem.Spec PyProof.Rows L2
section
variable {X:Cx}{O:List Nat}
end
end P
namespace My
open PySem PySem.Spec PyProof.Rows L2 PySem.SeqAt
theorem jD:entryFor table "dict.update.loop" = some zbN.«dict.update.loop»:=entryFor_of_tree (by kernel_rfl)
theorem dF:plainId "dict.update.loop" = true:=by decide +kernel
theorem qJ:typeLookup (.type "list") (zbj "keys")=pure none:=by rw[typeLookup_type,builtinLookup_eq_fast];kernel_rfl
theorem pQ:typeLookup (.type "tuple") (zbj "keys")=pure none:=by rw[typeLookup_type,builtinLookup_eq_fast];kernel_rfl
section
variable {prog:zah}{w:World}{A:zam}{E:Value->zad->Prop}{s:zad}
theorem qH(hx:s.heap.get? a=some o)(G:o.cls=.type "list")(q:o.data=.seq xs k)(hd:o.dict=none)(J:A.handled=none)
  (h:∀h' tk,(∀b o,s.heap.get? b=some o->h'.get? b=some o)->Q none {s with heap:=h',toks:=tk}):wpAny (model prog w) A (getAttr? (.ref a) "keys") Q E s:=by
 obtain⟨c,W,Y,M⟩:=o;simp only at G q hd;subst G q hd;obtain⟨U,g,d,tk,N⟩:=s;have hT:∀B,(⟨U,g,d,B,N⟩:zad).TypeIs (.ref a) "list" := λ_=>⟨_,hx,rfl⟩
 have f1:=sub_AttributeError;have f3:=PySem.F.slot_list_getattribute.lookup;have f4:=PySem.F.slot_list_getattribute.bind (.ref a);have f5:=am_list_getattr_none;unfold getAttr? getAttrBy? getAttrBy
 repeat (any_goals (first|assumption|exact hT _|((with_reducible show wpAny _ _ (call (Value.builtin "list.__getattribute__") _ _) _ _ _);refine zcT PySem.F.slot_list_getattribute (hT _) am_entry_list_getattribute (PySem.F.args_list_getattribute_2 _ _) (meets_getattribute_miss_list a xs k M (zbj "keys") _ qJ (by decide) (by size_fits)) ⟨hx,J,λh' B e z=>?_⟩)|wp_step))
 obtain⟨t',u',he⟩:=z.there;show wpAny _ _ (zdH _ _ _ _ _ _ _) _ _ _;unfold zdH
 repeat (any_goals (first|assumption|wp_step))
 exact h _ _ z.keeps
theorem pP(hx:s.heap.get? a=some o)(G:o.cls=.type "tuple")(q:o.data=.seq xs k)(hd:o.dict=none)(J:A.handled=none)
  (h:∀h' tk,(∀b o,s.heap.get? b=some o->h'.get? b=some o)->Q none {s with heap:=h',toks:=tk}):wpAny (model prog w) A (getAttr? (.ref a) "keys") Q E s:=by
 obtain⟨c,W,Y,M⟩:=o;simp only at G q hd;subst G q hd;obtain⟨U,g,d,tk,N⟩:=s;have hT:∀B,(⟨U,g,d,B,N⟩:zad).TypeIs (.ref a) "tuple" := λ_=>⟨_,hx,rfl⟩
 have f1:=sub_AttributeError;have f3:=PySem.F.slot_tuple_getattribute.lookup;have f4:=PySem.F.slot_tuple_getattribute.bind (.ref a);have f5:=am_tuple_getattr_none;unfold getAttr? getAttrBy? getAttrBy
 repeat (any_goals (first|assumption|exact hT _|((with_reducible show wpAny _ _ (call (Value.builtin "tuple.__getattribute__") _ _) _ _ _);refine zcT PySem.F.slot_tuple_getattribute (hT _) am_entry_tuple_getattribute (PySem.F.args_tuple_getattribute_2 _ _) (meets_getattribute_miss_tuple a xs k M (zbj "keys") _ pQ (by decide) (by size_fits)) ⟨hx,J,λh' B e z=>?_⟩)|wp_step))
 obtain⟨t',u',he⟩:=z.there;show wpAny _ _ (zdH _ _ _ _ _ _ _) _ _ _;unfold zdH
 repeat (any_goals (first|assumption|wp_step))
 exact h _ _ z.keeps
end
section
variable {X:Cx}{pins:List (Addr×Obj)}{σ:L2.St}{H:Hp}{s:zad}{a:Addr}{y v:V}{u r:Value}{A:zam}{E:Value->zad->Prop}
theorem IQ(hu:A.units+1<cLine)(I:Inv X pins σ H s)(g:DPut H a y v H')(Y:RelV y u)(rv:RelV v r)(h:∀h' t',Inv X pins σ H' {s with heap:=h',toks:=t'}->za4 a s.heap h'->Q () {s with heap:=h',toks:=t'}) :
  wpAny (model X.prog X.w) A (dictSet a u r) Q E s:=by
 rcases g with⟨kvs,k,e,M,l,N⟩|⟨kvs,k,b,e,M,eb,l,N⟩
 ·subst M N
  obtain⟨z,hd,vs,B,U⟩:=SW I.hok e;have W:vs.length<=zaj:=by rw[<- B.length];exact z
  have J:(putK kvs k v).length<=zaj:=by have:=fH kvs k v;lia
  refine wpAny_dictSet_pairs (hsz:=W) (vR Y) U λh' F hs=>h _ _ ?_ hs
  have he:∃q,h'.get? a=some q:=let ⟨q,_,_,G,_⟩:=F;⟨q,G⟩;exact nD I (by rw[e];exact zaY) hs he (MZ J hd (B.put k rv) F)
 ·subst M N
  cases(show u=zaq b from Y);obtain⟨z,hd,xs,B,U⟩:=SK I.hok e;have W:xs.length<=zaj:=by rw[<- zcL B];exact z
  have J:(putK kvs k v).length<=zaj:=by have:=fH kvs k v;lia
  refine wpAny_dictSet_heap (hsz:=W) (show A.units<cLine by lia) (nY I.hok eb) U λh' F hs=>h _ _ ?_ hs
  obtain⟨q,es,ep,G,h2,h3,h4,_,h5⟩:=F;refine nD I (by rw[e];exact zaY) hs ⟨q,G⟩ ⟨J,hd,_,(B.put k eb rv).keeps λc ys ec=>?_,q,es,ep,G,h2,h3,h4,h5⟩;rw[aE (t4 ec e (λz=>nomatch z))];exact ec
end
inductive Puts(d:Addr):Hp->List (V×V)->Hp->Prop where
 | nil {H:Hp}:Puts d H [] H
 | cons {H H1 H2:Hp} {y v:V} {l:List (V×V)} (h:DPut H d y v H1) (t:Puts d H1 l H2):Puts d H ((y,v)::l) H2
theorem yY(g:DPut H a y v H'):(∃u,H a=some u/\(∀xs,u≠.tup xs)/\∀o w,u≠.frz o w)/\∀b,b≠a->H' b=H b:=by
 rcases g with⟨kvs,k,e,F,l,B⟩|⟨kvs,k,b,e,F,G,l,B⟩
 ·subst B;exact⟨⟨_,e,(λ_ z=>nomatch z),(λ_ _ z=>nomatch z)⟩,λb q=>aE q⟩
 ·subst B;exact⟨⟨_,e,(λ_ z=>nomatch z),(λ_ _ z=>nomatch z)⟩,λb q=>aE q⟩
theorem KS{K:zae}{H H':Hp}{a:Addr}{y v:V}(g:DPut H a y v H'){b:Addr}{xs:List V}(h:SqT K H b xs):SqT K H' b xs:=by
 obtain⟨⟨u,e,q,B⟩,same⟩:=yY g;rcases h with(h|⟨o,h⟩)|h
 ·exact .inl (.inl (by rw[same b (λz=>by rw[z,e]at h;exact q _ (zaz h))];exact h))
 ·exact .inl (.inr ⟨o,by rw[same b (λz=>by rw[z,e]at h;exact B _ _ (zaz h))];exact h⟩)
 ·exact .inr h
section
variable {X:Cx}{pins:List (Addr×Obj)}{σ:L2.St}{A:zam}{R:Result->zad->Prop}{it d:Addr}{fp:List Addr}{n:Nat}{P:Nat->Value->Prop}{St:Nat->Heap->Prop}{H2:Hp}
theorem lC(W:Walks X.prog X.w A.in1 it fp [it] n P St)(hd:d∉fp)(hu:A.in1.units+1<cLine)(fin:∀s',Inv X pins σ H2 s'->R (.ok (.ret .none)) s'):∀(l:List (V×V)) (j:Nat) (s:zad) (H:Hp) (t:Tok) (i:Int),n-j=l.length->j<=n->St j s.heap->Inv X pins σ H s->kF X pins H it->
  (∀(m:Nat) (p:V×V) (v:Value),l[m]?=some p->P (j+m) v->∃b,v=.ref b/\SqT X.K H b [p.1,p.2])->Puts d H l H2->
  zbF (model X.prog X.w) A (.builtin "dict.update.loop" ⟨[.ref d,.ref it,.int i t,.none],[]⟩) R s
 | [],j,s,H,t,i,hn,hj,st,I,fo,facts,pu=>by
  cases pu;obtain⟨B,f1,f2,F,J,G⟩:=fo;have e:j=n:=by simp at hn;lia
  subst e;refine codeAny_builtin jD ?_;rw[Around.under_plainId dF _];show wpAny _ A.in1 (za2 (.ref it) >>= λ_=>_) _ _ s;refine zaa (W.done s _ _ st λh1 tk same=>?_);show wpAny _ _ (Builtin.Dict.addKeywords d [] >>= _) _ _ _;exact zaa (zaf (zaf (fin _ (I.turned (t':=tk) (λb o U e=>same b o (by simpa using U) e) B f1 F J G))))
 | (y,v)::l,j,s,H,t,i,hn,hj,st,I,fo,facts,pu=>by
  obtain⟨B,f1,f2,F,J,G⟩:=id fo;cases pu with
  | @cons _ H1 _ _ _ _ dp pu=>
  have lt:j<n:=by rw[zaw]at hn;lia
  refine codeAny_builtin jD ?_;rw[Around.under_plainId dF _];show wpAny _ A.in1 (za2 (.ref it) >>= λ_=>_) _ _ s;refine zaa (W.item j s _ _ lt st λv1 h1 tk pv M same=>?_);obtain⟨b,rfl,sq⟩:=facts 0 (y,v) v1 rfl pv;have I1:Inv X pins σ H {s with heap:=h1,toks:=tk}:=I.turned (t':=tk) (λb o U e=>same b o (by simpa using U) e) B f1 F J G;obtain⟨its,rv,Y,hz⟩:=I1.tuple sq;cases rv with
  | @cons _ u _ us ru rt=>
  cases rt with
  | @cons _ r _ us2 rr rt2=>
  cases rt2;obtain⟨o,ho,hc,nn,N⟩:=id Y;show wpAny _ A.in1 (zcg [zaq b] _ >>= λ_=>_) _ _ _;refine zaa (zbE ?_);refine zaa (wpAny_tryCatch ?_);unfold Builtin.Dict.pairItems;refine zaa (zcz Y.typeIs ?_);rw[if_pos (by decide)];refine zaa (zbu ho N (zaf ?_));show wpAny _ A.in1 (zcg [u,r] (dictSet d u r)) _ _ _;refine zbE (IQ hu I1 dp ru rr λh2 t2 I2 sb=>?_);obtain⟨⟨uo,eu,_,_⟩,q⟩:=yY dp;have nd:it≠d:=λz=>by rw[<- z,B]at eu;cases eu
  refine zaf ⟨plainId_quiet dF _,lC W hd hu fin l (j+1) _ H1 _ _ (by rw[zaw]at hn;lia) lt (W.frame _ _ _ M λb bf o eb=>?_) I2 ⟨by rw[q it nd];exact B,f1,f2,F,J,G⟩ (λm p v2 hm hp=>?_) pu⟩
  ·exact(sb.2 b (λz=>hd (z ▸ bf))).trans eb
  ·obtain⟨c,e,sq⟩:=facts (m+1) p v2 (by simpa using hm) (by rw[show j+(m+1)=j+1+m by lia];exact hp)
   exact⟨c,e,KS dp sq⟩
end
section
variable {X:Cx}
def Src(X:Cx)(H:Hp)(p:Addr)(ys:List V):Prop:=SqL X.K H p ys\/Rd H p (.tup ys)
theorem B9(hc:X.calm=true)(hu:X.A.units+64<cLine):CallR X (.type "dict") (λxs H Q=>∃p ys l,xs=[.ref p]/\Src X H p ys/\l.length=ys.length/\(∀(m:Nat) (pr:V×V),l[m]?=some pr->∃b,ys[m]?=some (.ref b)/\SqT X.K H b [pr.1,pr.2]) /\
  ∀q,H q=none->∃H2,(Puts q (upd H q (.dK [])) l H2\/Puts q (upd H q (.dT [])) l H2)/\Q (.ref q) H2):=by
 intro pins s σ H xs us Q I r h;obtain⟨p,ys,l,rfl,ay,hl,al,q⟩:=h;obtain⟨u,rfl,rx⟩:=vals1 r;cases rx;obtain⟨H2,pu,q⟩:=q s.heap.objs.size (I.hok.fresh (zai _));refine callType_codes (Q₁:=λah aa=>ah=.ref s.heap.objs.size/\aa={s with heap:=s.heap.push {cls:=.type "dict",data:=.dict #[]} }) PySem.F.kt_called_dict (PySem.F.kt_typeCall_dict_1 _) PySem.F.entry_dict_init (kt_code_dict_new _ ⟨rfl,rfl⟩) ?_;rintro ah aa ⟨rfl,rfl⟩;have n1:(s.heap.push {cls:=.type "dict",data:=.dict #[]}).get? s.heap.objs.size=some {cls:=.type "dict",data:=.dict #[]}:=zaE _ rfl;have t1:Shared.TypeIs {s with heap:=s.heap.push {cls:=.type "dict",data:=.dict #[]} } (.ref s.heap.objs.size) "dict" := ⟨_,n1,rfl⟩;refine⟨t1,PySem.F.args_dict_init_2 _ _,?_⟩;unfold zbN.«dict.__init__»;refine zaa ?_;unfold Builtin.Dict.selfAndRest;refine zaa (wpAny_notOrdered_dict t1 ?_);show wpAny _ _ (pure (s.heap.objs.size,[zaq p])) _ _ _;refine zaf ?_;show wpAny _ _ (Builtin.Dict.updateFrom "dict.__init__" s.heap.objs.size (.ref p) [] .none) _ _ _;unfold Builtin.Dict.updateFrom;obtain⟨Y,a4,IK,pu⟩:∃Y:HO,(Y=.dK []\/Y=.dT [])/\Inv X pins σ (upd H s.heap.objs.size Y) {s with heap:=s.heap.push {cls:=.type "dict",data:=.dict #[]} }/\Puts s.heap.objs.size (upd H s.heap.objs.size Y) l H2:=by
  rcases pu with pu|pu
  ·exact⟨_,.inl rfl,I.laid (a:=s.heap.objs.size) (o:=.dK []) (h':=s.heap.push {cls:=.type "dict",data:=.dict #[]}) (t':=s.toks) (λ_ _ q=>zan _ q) (zai _) (LV s.heap I.big),pu⟩
  ·exact⟨_,.inr rfl,I.laid (a:=s.heap.objs.size) (o:=.dT []) (h':=s.heap.push {cls:=.type "dict",data:=.dict #[]}) (t':=s.toks) (λ_ _ q=>zan _ q) (zai _) (zO s.heap I.big),pu⟩
 have ai:∀b u,H b=some u->b≠s.heap.objs.size:=λb u e z=>zb3 _ (by have:=(I.hok b u e).lt;rw[z]at this;exact this)
 have ak:∀ {b:Addr} {zs:List V},SqT X.K H b zs->SqT X.K (upd H s.heap.objs.size Y) b zs:=λ{b zs} h=>by
  rcases h with(h|⟨o,h⟩)|h
  ·exact .inl (.inl (by rw[aE (ai _ _ h)];exact h))
  ·exact .inl (.inr ⟨o,by rw[aE (ai _ _ h)];exact h⟩)
  ·exact .inr h
 have aj:∀ {o:Obj},s.heap.get? p=some o->p<s.heap.objs.size:=λe=>zao e
 rcases ay with sq|sq
 ·obtain⟨its,rv,pl,hz⟩:=I.list sq
  obtain⟨o,n,ho,J,ad,N⟩:=id pl;have U:=rv.length;have G:(s.heap.push {cls:=.type "dict",data:=.dict #[]}).get? p=some o:=zan _ ho;refine zaa (zcz (s:={s with heap:=s.heap.push {cls:=.type "dict",data:=.dict #[]} }) ⟨o,G,J⟩ ?_);rw[if_pos (by decide)];refine zaa (qH (s:={s with heap:=s.heap.push {cls:=.type "dict",data:=.dict #[]} }) G J N ad (I.ok.hd hc) λh' tk B=>?_);simp only[Option.isNone_none,if_true];refine zaa (zbM (zaa (zb5 (s:={s with heap:=h',toks:=tk}) (items:=its.toArray) ⟨o,B _ _ G,J,n,N⟩ ?_)));have M:Inv X pins σ (upd H s.heap.objs.size Y) {s with heap:=h',toks:=tk}:=IK.kept (t':=tk) B;have af:Inv X pins σ (upd H s.heap.objs.size Y) {s with heap:=h'.push {cls:=.type "list_iterator",data:=.fields #[.ref p,.int 0 0]},toks:=tk}:=M.kept (t':=tk) λb o e=>zan _ e
  have lp:p<h'.objs.size:=zao (B _ _ G);have ld:s.heap.objs.size<h'.objs.size:=zao (B _ _ n1);have W:=Walks.list (prog:=X.prog) (w:=X.w) (A:=X.A.in1.in1) (I.ok.hd hc) h'.objs.size p (zaF lp) its.toArray;refine zaf ⟨plainId_quiet dF _,lC (X:=X) (pins:=pins) (σ:=σ) (H2:=H2) W (d:=s.heap.objs.size) ?_ (by show X.A.units+1+1+1<cLine;lia) ?_ l 0 _ _ _ _ ?_ (zaI _) ?_ af ?_ ?_ pu⟩
  ·intro z
   rcases List.mem_cons.mp z with z|z
   ·exact zaF ld z
   ·exact zbw (aj ho) (List.mem_singleton.mp z)
  ·exact λs' I'=>⟨rfl,.ref s.heap.objs.size,H2,I',rfl,q⟩
  ·rw[zay,<- U,hl];lia
  ·exact⟨⟨_,zaE _ rfl,rfl,rfl⟩,⟨o,zan _ (B _ _ G),J,n,N⟩⟩
  ·exact M.fpOk (zai _) (M.hok.fresh (zai _))
  ·intro m pr v hm hv
   obtain⟨b,e1,e2⟩:=al m pr hm;rw[zaP]at hv;refine⟨b,?_,ak e2⟩;obtain⟨w',hw,ae⟩:=rv.get e1;rw[List.getElem?_toArray,hw]at hv;cases(show w'=zaq b from ae);exact(zaz hv).symm
 ·obtain⟨hz,its,rv,o,ho,J,n,N,ad⟩:=(show ObjOk X.prog X.w H s.heap p (.tup ys)from sq.ok I.hok)
  have U:=rv.length;have G:(s.heap.push {cls:=.type "dict",data:=.dict #[]}).get? p=some o:=zan _ ho;refine zaa (zcz (s:={s with heap:=s.heap.push {cls:=.type "dict",data:=.dict #[]} }) ⟨o,G,J⟩ ?_);rw[if_pos (by decide)];refine zaa (pP (s:={s with heap:=s.heap.push {cls:=.type "dict",data:=.dict #[]} }) G J N ad (I.ok.hd hc) λh' tk B=>?_);simp only[Option.isNone_none,if_true];refine zaa (zbM (zaa (zbS (s:={s with heap:=h',toks:=tk}) (items:=its.toArray) ⟨o,B _ _ G,J,n,N⟩ ?_)));have M:Inv X pins σ (upd H s.heap.objs.size Y) {s with heap:=h',toks:=tk}:=IK.kept (t':=tk) B;have af:Inv X pins σ (upd H s.heap.objs.size Y) {s with heap:=h'.push {cls:=.type "tuple_iterator",data:=.fields #[.ref p,.int 0 0]},toks:=tk}:=M.kept (t':=tk) λb o e=>zan _ e
  have lp:p<h'.objs.size:=zao (B _ _ G);have ld:s.heap.objs.size<h'.objs.size:=zao (B _ _ n1);have W:=Walks.tuple (prog:=X.prog) (w:=X.w) (A:=X.A.in1.in1) (I.ok.hd hc) h'.objs.size p (zaF lp) its.toArray;refine zaf ⟨plainId_quiet dF _,lC (X:=X) (pins:=pins) (σ:=σ) (H2:=H2) W (d:=s.heap.objs.size) ?_ (by show X.A.units+1+1+1<cLine;lia) ?_ l 0 _ _ _ _ ?_ (zaI _) ?_ af ?_ ?_ pu⟩
  ·intro z
   rcases List.mem_cons.mp z with z|z
   ·exact zaF ld z
   ·exact zbw (aj ho) (List.mem_singleton.mp z)
  ·exact λs' I'=>⟨rfl,.ref s.heap.objs.size,H2,I',rfl,q⟩
  ·rw[zay,<- U,hl];lia
  ·exact⟨⟨_,zaE _ rfl,rfl,rfl⟩,⟨o,zan _ (B _ _ G),J,n,N⟩⟩
  ·exact M.fpOk (zai _) (M.hok.fresh (zai _))
  ·intro m pr v hm hv
   obtain⟨b,e1,e2⟩:=al m pr hm;rw[zaP]at hv;refine⟨b,?_,ak e2⟩;obtain⟨w',hw,ae⟩:=rv.get e1;rw[List.getElem?_toArray,hw]at hv;cases(show w'=zaq b from ae);exact(zaz hv).symm
end
section
variable {X:Cx}
theorem CM:CallR X (.type "dict") (λxs H Q=>∃d kvs,xs=[.ref d]/\Rd H d (.dK kvs)/\∀p,H p=none->Q (.ref p) (upd H p (.dK kvs))):=by
 intro pins s σ H xs U Q I r h;obtain⟨d,kvs,rfl,hd,q⟩:=h;obtain⟨u,rfl,G⟩:=vals1 r;cases G;obtain⟨z,y,vs,B,J⟩:=vS I.hok hd;have M:vs.length<=zaj:=by rw[<- B.length];exact z
 refine kt_call_dict (knd:=bB X.prog X.w) y J M λh' F sb=>?_
 refine⟨.ref s.heap.objs.size,_,I.laid (t':=s.toks) (o:=.dK kvs) (λb N q=>(sb.2 b (zaF (zao q))).trans (zan _ q)) (zai _) ⟨z,beq_eq_false_iff_ne.mpr (zaU (zaF I.big)),vs,B,F⟩,rfl,q _ (I.hok.fresh (zai _))⟩
theorem U0(h:H2 q=some u)(k:∀b,b≠q->H2 b=H b):H2=upd H q u:=funext λb=>by
 by_cases e:b=q
 ·subst e;rw[aG];exact h
 ·rw[aE e];exact k b e
def tI{κ:Type}[DecidableEq κ](kvs more:List (κ×V)):List (κ×V):=more.foldl (λacc q=>putK acc q.1 q.2) kvs
theorem L3:∀(prs:List (Key×V)) (H:Hp) (xs:List (Key×V)),H q=some (.dK xs)->xs.length+prs.length<zaj->∃H2,Puts q H (prs.map λp=>(kV p.1,p.2)) H2/\H2 q=some (.dK (tI xs prs))/\∀b,b≠q->H2 b=H b
 | [],H,xs,e,hl=>⟨H,.nil,e,λ_ _=>rfl⟩
 | p::prs,H,xs,e,hl=>by
  have G:=fH xs p.1 p.2;rw[zaw]at hl;obtain⟨H2,B,F,k⟩:=L3 prs (upd H q (.dK (putK xs p.1 p.2))) (putK xs p.1 p.2) aG (by lia);exact⟨H2,.cons (DPut.k e (by lia)) B,F,λb z=>(k b z).trans (aE z)⟩
end
end My
namespace P
open PySem PySem.Spec PyProof.Rows L2
section
variable {X:Cx}{A:Av}{H:Hp}
def DL:List D->Option (List (Key×D))
 | []=>some []
 | .tup [k,v]::l=>(W1 k).bind λkk=>(DL l).map λr=>(kk,v)::r
 | _=>none
def kU{κ:Type}[DecidableEq κ](l more:List (κ×D)):List (κ×D):=more.foldl (λm p=>putD m p.1 p.2) l
theorem OD{κ:Type}[DecidableEq κ]{more:List (κ×D)}{ys:List (κ×V)}(h:PP A H more ys):∀ {l:List (κ×D)} {xs:List (κ×V)},PP A H l xs->PP A H (kU l more) (My.tI xs ys):=by
 induction h with
 | nil=>intro l xs q;exact q
 | @cons p q ps qs h t ih=>
  intro l xs z;have:=ih (tP p.1 h.2 z);rw[show kU l (p::ps)=kU (putD l p.1 p.2) ps from rfl,show My.tI xs (q::qs)=My.tI (putK xs q.1 q.2) qs from rfl,<- h.1];exact this
theorem AS:∀ {l:List D} {kvs:List (Key×D)} {xs:List V},DL l=some kvs->RepL A H l xs->∃q:List (Key×V),PP A H kvs q/\q.length=xs.length/\∀(m:Nat) (z:V×V),(q.map λp=>(kV p.1,p.2))[m]?=some z->∃b,xs[m]?=some (.ref b)/\H b=some (.tup [z.1,z.2])
 | _,kvs,_,e,.nil=>by cases e;exact⟨[],.nil,rfl,λm z h=>by simp at h⟩
 | d::l,kvs,v::xs,e,.cons h t=>by
  unfold DL at e;split at e
  ·cases ‹_::_=[]›
  ·rename_i k w l' heq
   injection heq with h1 h2
   subst h1 h2;obtain⟨M,G,e⟩:=bind_some e;obtain⟨r,W,rfl⟩:=map_some e;obtain⟨q,J,F,U⟩:=AS W t;obtain⟨a,zs,rfl,N,B⟩:=RepB.tup_inv (.of h);cases B with
   | @cons _ z1 _ zs1 q1 B=>
   cases B with
   | @cons _ z2 _ zs2 q2 B=>
   cases B;have Y:=qA G (.of q1);subst Y;refine⟨(M,z2)::q,.cons ⟨rfl,q2⟩ J,by simp[F],λm z h=>?_⟩;cases m with
   | zero=>simp at h;subst h;exact⟨a,rfl,N⟩
   | succ m=>exact U m z (by simpa using h)
  ·cases e
noncomputable def SV:D->Option (List D)
 | .lst l=>some l
 | .tup l=>some l
 | _=>none
def gX:List D->Option D
 | [.dK l]=>some (.dK l)
 | [d]=>(SV d).bind λl=>if a7 l.length then(DL l).map λkvs=>.dK (kU [] kvs)else none
 | _=>none
theorem LS(h:SV d=some l)(r:RepB A H d v):∃p ys,v=.ref p/\My.Src X H p ys/\RepL A H l ys:=by
 cases d with
 | lst m=>cases h;obtain⟨a,xs,rfl,h1,h2⟩:=r.lst_inv;exact⟨a,xs,rfl,.inl (.inl h1),h2⟩
 | tup m=>cases h;obtain⟨a,xs,rfl,h1,h2⟩:=r.tup_inv;exact⟨a,xs,rfl,.inr (.inl h1),h2⟩
 | _=>exact nn h
theorem szL(h:a7 n=true):0+n<zaj:=by rw[zaP];exact iQ h
theorem sP(hc:X.calm=true)(hu:X.A.units+64<cLine):F4 X (.type "dict") gX:=by
 intro pins s σ H xs us Q I r h;obtain⟨A,ds,d,lv,Y,e,q⟩:=h;unfold gX at e;split at e
 ·cases e
  obtain⟨v,rfl,h1⟩:=Y.one;obtain⟨a,ys,rfl,h2,U,r3⟩:=h1.dK_inv;exact My.CM pins s σ H _ us Q I r ⟨a,ys,rfl,h2,λp M=>q p _ (Ext.new M) M (λz=>lv p z M) (.dK aG U (r3.fresh M))⟩
 ·obtain⟨l,e1,e⟩:=bind_some e
  split at e
  ·rename_i hz
   obtain⟨kvs,e2,rfl⟩:=map_some e;obtain⟨v,rfl,h1⟩:=Y.one;obtain⟨p,ys,rfl,N,F⟩:=LS (X:=X) e1 h1;obtain⟨B,pp,hl,hm⟩:=AS e2 F;have G:=F.length;refine My.B9 hc hu pins s σ H _ us Q I r ⟨p,ys,B.map λp=>(kV p.1,p.2),rfl,N,by rw[zal];exact hl,λm pr h=>?_,λa J=>?_⟩
   ·obtain⟨b,x1,x2⟩:=hm m pr h
    exact⟨b,x1,.inl (.inl x2)⟩
   ·obtain⟨H2,pu,U,k⟩:=My.L3 B (upd H a (.dK [])) [] aG (by rw[hl,G];exact szL hz)
    have eH:H2=upd H a (.dK (My.tI [] B)):=My.U0 U λb W=>(k b W).trans (aE W)
    obtain⟨f1,f2⟩:=vP (OD pp (Paired.nil));refine⟨H2,.inl pu,?_⟩;rw[eH];exact q a _ (Ext.new J) J (λz=>lv a z J) (.dK aG f1 (f2.fresh J))
  ·cases e
 ·cases e
end
end P
namespace My
open PySem PySem.Spec PyProof.Rows L2 PySem.SeqAt
theorem EE:∀ {xs:List V} {us:List Value},xs.length=us.length->(∀(j:Nat) (x:V) (u:Value),xs[j]?=some x->us[j]?=some u->RelV x u)->Vals xs us
 | [],[],_,_=>.nil
 | [],_::_,h,_=>by simp at h
 | _::_,[],h,_=>by simp at h
 | x::xs,u::us,h,k=>.cons (k 0 x u rfl rfl) (EE (by simpa using h) λj y v z q=>k (j+1) y v (by simpa using z) (by simpa using q))
section
variable {X:Cx}
theorem JS:CallR X (.type "range") (λxs H Q=>∃i,xs=[.int i]/\∀p,H p=none->Q (.ref p) (upd H p (.rng 0 i))):=by
 intro pins s σ H xs z Q I r h;obtain⟨i,rfl,q⟩:=h;obtain⟨u,rfl,t,rfl⟩:=vals1 r;exact call_range_1 ⟨.ref s.heap.objs.size,_,I.laid (t':=s.toks+1+1) (o:=.rng 0 i) (λb B q=>zan _ q) (zai _) ⟨_,_,_,zaE _ rfl⟩,rfl,q _ (I.hok.fresh (zai _))⟩
theorem CG(W:X.calm=true):CallR X (.type "list") (λxs H Q=>∃p i,xs=[.ref p]/\H p=some (.rng 0 i)/\0<=i/\i<=1000000/\∀l,H l=none->Q (.ref l) (upd H l (.lst ((zar i.toNat).map λ(j:Nat)=>V.int (j:Int))))):=by
 intro pins s σ H xs us Q I r h;obtain⟨p,i,rfl,U,i0,Y,q⟩:=h;obtain⟨u,rfl,N⟩:=vals1 r;cases N;obtain⟨t,u,v,M⟩:=(show ObjOk X.prog X.w H s.heap p (.rng 0 i)from I.hok p _ U);refine call_list_range (n:=i.toNat) (I.ok.hd W) M (small_one (by lia) (by lia) (by lia) (by lia)) (by rw[rangeSize_one];split <;> lia) (by lia) λh' tk acc c z J items=>?_
 refine⟨.ref s.heap.objs.size,_,I.laid (t':=tk) (o:=.lst ((zar i.toNat).map λ(j:Nat)=>V.int (j:Int))) z (zai _) ⟨by rw[zal,zcH,zcQ];lia,acc.toList,c,EE ?_ λj x u F G=>?_,by simpa using J⟩,rfl,q _ (I.hok.fresh (zai _))⟩
 ·rw[zal,zcH,zbR,items.1]
 ·rw[zei]at G
  obtain⟨t,rfl⟩:=items.2 j u G;rw[zaC]at F;obtain⟨k,B,rfl⟩:=P.map_some F;have:k=j:=by
   rw[zcV]at B
   ·exact(zaz B).symm
   ·have:=(List.getElem?_eq_some_iff.mp B).1;rwa [zcH]at this
  subst this;exact⟨t,by rw[show(0:Int)+(k:Int)*1=(k:Int) by lia]⟩
end
end My
namespace P
open PySem PySem.Spec PyProof.Rows L2
section
variable {X:Cx}{O:List Nat}
def xQ(d:D):Option D:=match d with
 | .int i=>if 0<=i/\i<=1000000 then some (.lst (aR 0 1 i.toNat))else none
 | _=>none
theorem RA(q:0<=i)(h1:i<=1000000):xQ (.int i)=some (.lst (aR 0 1 i.toNat)):=if_pos ⟨q,h1⟩
theorem CP(n:Nat):RepL A H (aR 0 1 n) ((zar n).map λ(j:Nat)=>V.int (j:Int)):=by
 unfold aR;have:∀l:List Nat,RepL A H (l.map λ(j:Nat)=>D.int (0+(j:Int)*1)) (l.map λ(j:Nat)=>V.int (j:Int)):=λl=>by
  induction l with
  | nil=>exact .nil
  | cons j l ih=>
   rw[zak,zak,show(0:Int)+(j:Int)*1=(j:Int) by lia];exact .cons (.int _) ih
 exact this _
theorem J4(hc:X.calm=true)(G:Gl X "list")(M:X.mg "list" = none)(F:Gl X "range")(N:X.mg "range" = none)(he:PB X O e f)(hs:isStar e=false) :
  PF X O (.Call (.Name "list" p) [.Call (.Name "range" p2) [e] [] pos2] [] pos) (SL xQ f):=
 PE.mono (kJ (My.CG hc) G M My.boot_list (cT (kJ My.JS F N My.boot_range (cT he fM (cV hs)) (by decide) (by decide) (cV hs) (iR rfl)) fM (cV rfl)) (by decide) (by decide) (cV rfl) (iR rfl)) <| by
  rintro σ H Q ⟨H0,A0,A,E,ρ,d,st,B,q⟩;obtain⟨x,ex,B⟩:=bind_some B;refine⟨H0,A0,A,E,ρ,x,st,ex,λv H1 J r1=>?_⟩;unfold xQ at B;split at B
  ·rename_i i
   split at B
   ·rename_i hi
    cases B;have:=r1.int_inv;subst this;refine⟨i,rfl,λa Y=>⟨a,i,rfl,aG,hi.1,hi.2,λl U=>?_⟩⟩;have W:H1 l=none:=(Ext.new (A:=A) (o:=HO.rng 0 i) Y).free U;exact q l _ (J.trans ((Ext.new Y).trans (Ext.new U))) (J.free W) (λz=>(st.mono J).live l z W) (.lst aG (CP _))
   ·cases B
  ·cases B
end
section
variable {X:Cx}{O:List Nat}{e:Expr}{es:List Expr}
theorem pM(q:PD X O e f)(z:A9 X O es g)(hs:isStar e=false:=by rfl):A9 X O (e::es) (aC f g):=KM q z (cV hs)
theorem WZ(q:PB X O e f)(z:vZ X O es g)(hs:isStar e=false:=by rfl):vZ X O (e::es) (aC f g):=yT q z (cV hs)
theorem lc(h:Len g n):Len (aC f g) (n+1):=J2 h
theorem l0:Len aZ 0:=N4
variable {x:Str}{id T:String}{g:List D->Option D}{f:Lv}{p pos:Pos}
theorem cB(N:kE X (.builtin id) g)(G:X.mg x=none)(B:zaH x=some (.builtin id))(F:vZ X O (e::es) f)(J:Gl X x:=by rfl)(z:x ≠ "__name__" := by decide)(q:(x == ("__debug__" : Str))=false:=by decide)(hs:isStar e=false:=by rfl)(M:(es.all λe=>!isStar e)=true:=by rfl) :
  PD X O (.Call (.Name x p) (e::es) [] pos) (aS g f):=JQ N J G B F z q (cV hs) (iR M)
theorem W8(N:kE X (.type T) g)(G:X.mg x=none)(B:zaH x=some (.type T))(F:vZ X O (e::es) f)(J:Gl X x:=by rfl)(z:x ≠ "__name__" := by decide)(q:(x == ("__debug__" : Str))=false:=by decide)(hs:isStar e=false:=by rfl)(M:(es.all λe=>!isStar e)=true:=by rfl) :
  PD X O (.Call (.Name x p) (e::es) [] pos) (aS g f):=IM N J G B F z q (cV hs) (iR M)
theorem qh(N:F4 X (.type T) g)(G:X.mg x=none)(B:zaH x=some (.type T))(F:vZ X O (e::es) f)(J:Gl X x:=by rfl)(z:x ≠ "__name__" := by decide)(q:(x == ("__debug__" : Str))=false:=by decide)(hs:isStar e=false:=by rfl)(M:(es.all λe=>!isStar e)=true:=by rfl) :
  PF X O (.Call (.Name x p) (e::es) [] pos) (aS g f):=GX N J G B F z q (cV hs) (iR M)
theorem cD(O':Fn X.prog X.w X.K X.mg X.base x k ps F)(B:Room k X.A)(G:A9 X O (e::es) f)(z:Len f ps.length)(J:Gl X x:=by rfl)(q:(x == ("__debug__" : Str))=false:=by decide)(hs:isStar e=false:=by rfl)(M:(es.all λe=>!isStar e)=true:=by rfl) :
  PD X O (.Call (.Name x p) (e::es) [] pos) (aS F f):=PL O' B J G z q (cV hs) (iR M)
theorem cn{L:Lp}{z O2 O3:List Nat}{st:Stmt}{q:List Stmt}{f g:Sv}(h:jA X L z st f O2)(k:eB X L O2 q g O3):eB X L z (st::q) (dB f g) O3:=JX h k
end
def ZOk(P:zah)(w:World)(K:zae)(mg:Str->Option Value)(base:Heap)(N:List Str)(x:Str)(st:Stmt)(k:Nat)(b:Sv):Prop:=
 ∀(fa:Addr) (cdv:Value) (A:zam) (outer:List Env) (s:zad) (H:Hp) (E:XK),Room k (A.deeper (zaN x (aL st) s.heap.objs.size fa cdv))->∃g,eB (i7 uL P w K mg base N x (aL st) fa cdv A outer s H E).nox ⟨[],[]⟩ [] (bU st) g []/\g=b
end P
namespace My
open PySem PySem.Spec PyProof.Rows L2 PySem.SeqAt
section
variable {prog:zah}{w:World}{A:zam}{R:Result->zad->Prop}{I S:Addr}{fp wr:List Addr}{n:Nat}{P:Nat->Value->Prop}{St:Nat->Heap->Prop}
end
section
variable {X:Cx}
end
end My
namespace P
open PySem PySem.Spec PyProof.Rows L2
section
variable {X:Cx}{O O':List Nat}{L:Lp}
end
end P
namespace My
open PySem PySem.Spec PyProof.Rows L2
end My
namespace P
open PySem PySem.Spec PyProof.Rows L2
section
variable {X:Cx}{O:List Nat}
end
end P
namespace My
open PySem PySem.Spec PyProof.Rows L2
def Z0(i j:Int):Prop:=(-(10^250*10^250)<i/\i<10^250*10^250)/\-(10^250*10^250)<j/\j<10^250*10^250
end My
namespace P
open PySem PySem.Spec PyProof.Rows L2
instance:∀i j,Decidable (My.Z0 i j):=λi j=>by unfold My.Z0;infer_instance
end P
namespace My
open PySem PySem.Spec PyProof.Rows L2 PySem.SeqAt
theorem SO{scope:Scope}{env:Env}{x:Str}{z:zby}(h:(zbd scope env).names.lookup x=some z):(x,z)∈scope.names\/(z=.cell/\(x,zbq)∈scope.names):=by
 obtain⟨⟨y,k⟩,B,e⟩:=List.mem_map.mp (zcy h);dsimp only at e;by_cases q:(k == zbq && env.scope.kind == .function && env.kindOf y == some .cell)=true
 ·rw[if_pos q]at e
  have:k=.free:=by simp only[zaQ]at q;simpa using q.1.1
  cases e;subst this;exact .inr ⟨rfl,B⟩
 ·rw[if_neg q]at e
  cases e;exact .inl B
section
variable {X:Cx}
end
end My
namespace P
open PySem PySem.Spec PyProof.Rows L2
noncomputable def Z9(O:List Nat)(ms:List (Option Nat)):List Nat:=(zar ms.length).filter λj=>(((ms[j]?).join).map O.contains).getD false
theorem qG{O:List Nat}{ms:List (Option Nat)}{j:Nat}:j∈Z9 O ms↔∃i,ms[j]?=some (some i)/\i∈O:=by
 unfold Z9;rw[List.mem_filter];constructor
 ·rintro⟨_,h⟩
  cases e:ms[j]? with
  | none=>rw[e]at h;cases h
  | some o=>
   cases o with
   | none=>rw[e]at h;cases h
   | some i=>rw[e]at h;exact⟨i,rfl,by simpa using h⟩
 ·rintro⟨i,h,hi⟩
  refine⟨List.mem_range.mpr ?_,by rw[h];simpa using hi⟩;obtain⟨l,_⟩:=List.getElem?_eq_some_iff.mp h;exact l
theorem LZ{q:Type}{ms:List (Option Nat)}{σ:List (Option q)}{j i:Nat}{v:q}(h:ms[j]?=some (some i))(e:σ[i]?=some (some v)):(i6 ms σ)[j]?=some (some v):=by
 unfold i6;rw[zaC,h];show some ((σ[i]?).join)=_;rw[e];rfl
theorem ST.innerO{H0:Hp}{A0 A:Av}{E:List Fact}{O Oi:List Nat}{σ:L2.St}{H:Hp}{ρ:cU}(s:ST H0 A0 A E O σ H ρ)(ms:List (Option Nat))(N:Z9 O ms=Oi)(hj:∀j∈Oi,∀k∈Oi,ms[j]?=ms[k]?->j=k):ST H0 A0 A E Oi (i6 ms σ) H (i6 ms ρ) where
 ex:=s.ex
 sub:=s.sub
 l0:=s.l0
 live:=s.live
 len:=by simp[i6]
 val:=λj d h n=>by
  obtain⟨i,B,J⟩:=gJ h;obtain⟨v,e3,r⟩:=s.val i d J λz=>n (N ▸ qG.mpr ⟨i,B,z⟩)
  exact⟨v,LZ B e3,r⟩
 own:=λj d h n=>by
  obtain⟨i,B,J⟩:=gJ h;obtain⟨W,q,U⟩:=qG.mp (N.symm ▸ n);rw[B]at q;cases q;obtain⟨a,h1,h2⟩:=s.own i d J U;exact⟨a,LZ B h1,h2⟩
 inj:=λj k d d' a F M h1 h2 h3 h4=>by
  obtain⟨i,B,J⟩:=gJ h1;obtain⟨l,f1,f2⟩:=gJ h2;obtain⟨i2,g1,g2⟩:=gJ h3;rw[B]at g1;cases g1;obtain⟨l2,k1,k2⟩:=gJ h4;rw[f1]at k1;cases k1;obtain⟨W,q,U⟩:=qG.mp (N.symm ▸ F);rw[B]at q;cases q;obtain⟨l',G,Y⟩:=qG.mp (N.symm ▸ M);rw[f1]at G;cases G;have:=s.inj i l d d' a U Y J f2 g2 k2;subst this;exact hj j F k M (B.trans f1.symm)
 ext:=s.ext
section
variable {X:Cx}{O Oi:List Nat}
theorem GT{scope:Scope}{N:List Str}{ms:List (Option Nat)}{t:Nat}{it:Lv}{c:Bv}{f:Ev}(a3:dR X scope N ms)(hO:Z9 O ms=Oi)(hj:∀j∈Oi,∀k∈Oi,ms[j]?=ms[k]?->j=k)(au:t∉Oi)(σ:L2.St)(H:Hp)(Q:VK) :
  tF O (dY ms it (aQ t) c f) σ H Q->My.GA (tDI O it) (i5 t) (tDT Oi c) (tD Rep Oi f) (My.Start X N scope) σ H Q:=λ⟨H0,A0,A,E,ρ,d,st,e,q⟩=>by
 obtain⟨items,e1,e⟩:=bind_some e;by_cases hz:a7 items.length=true
 case neg=>rw[if_neg hz]at e;cases e
 rw[if_pos hz]at e;obtain⟨ds,e2,rfl⟩:=map_some e;refine⟨i6 ms σ,AI a3 σ,H0,A0,A,E,ρ,items,st,e1,λJ H1 E1 x1 am J1 D hD=>?_⟩;have a8:=(st.mono x1).live;have nA:¬ A D:=λz=>a8 D z hD
 have n0:H D=none:=x1.free hD;refine⟨λi m ac us H2=>m=items.length-i/\i<=items.length/\∃U done rest,ST H0 A0 (λb=>A b\/b=D) (E1++E) Oi ac H2 U/\H2 D=some (.lst us)/\Ext A H H2/\RepL (λb=>A b\/b=D) H2 done us/\bD (aQ t) c f (items.drop i) U=some rest/\done++rest=ds/\done.length<=i/\∀j∈Oi,∀d a,U[j]?=some (some d)->ac[j]?=some (some (.ref a))->a≠D,⟨items.length,by simp,zaI _,i6 ms ρ,[],ds,?_,aG,x1.trans (Ext.new hD),.nil,e2,rfl,zai _,?_⟩,?_⟩
 ·have s1:=((st.mono x1).both am).innerO ms hO hj
  have up:∀a,(A a\/a=D)->A a\/H1 a=none:=λa F=>F.imp id λz=>by rw[z];exact hD
  refine⟨s1.ex.trans (Ext.new hD),λa F=>.inl (s1.sub a F),s1.l0,λa F=>?_,s1.len,λi d h n=>?_,λi d h n=>?_,s1.inj,λp hp=>Fact.ext (Ext.new hD) (Fact.av up (s1.ext p hp))⟩
  ·rcases F with F|F
   ·rw[aE (λz=>by subst z;exact nA F)];exact s1.live a F
   ·subst F;rw[aG];exact λz=>nomatch z
  ·obtain⟨v,h1,h2⟩:=s1.val i d h n
   exact⟨v,h1,(h2.av up).ext (Ext.new hD)⟩
  ·obtain⟨a,h1,h2,h3,h4⟩:=s1.own i d h n
   exact⟨a,h1,.inl h2,h3,(h4.av up).ext (Ext.new hD) (.inl h2)⟩
 ·intro j ae d a h1 h2 z
  have s1:=((st.mono x1).both am).innerO ms hO hj;obtain⟨a',g1,g2,_⟩:=s1.own j d h1 ae;rw[h2]at g1;cases g1;exact nA (z ▸ g2)
 ·rintro i m ac us H2 ⟨rfl,bp,U,done,rest,s2,ai,x2,ag,G,ed,bf,a4⟩
  obtain⟨an,go⟩:=J1 _ H2 s2.live (λp hp=>s2.ext p (zbv _ hp)) i;by_cases aa:i<items.length
  ·have eg:items[i]?=some items[i]:=by simp[aa]
   obtain⟨a2,hy⟩:=go _ eg;rw[zcW aa]at G;obtain⟨b2,e3,G⟩:=bind_some G;cases e3;obtain⟨b,e4,G⟩:=bind_some G;have ap:us.length<zaj:=by
    rw[ag.length];exact zcC bf (zaX aa (gL hz))
   refine .inr ⟨a2,ap,λx H3 y=>?_⟩;obtain⟨x3,r3⟩:=hy x H3 y;have s3:=(s2.mono x3).put r3 au;have W:∀j∈Oi,∀d a,(U.set t (some items[i]))[j]?=some (some d)->(ac.set t (some x))[j]?=some (some (.ref a))->a≠D:=λj ae d a h1 h2=>by
    have nt:t≠j:=λz=>au (z ▸ ae)
    rw[zbP nt]at h1 h2;exact a4 j ae d a h1 h2
   refine⟨H0,A0,_,E1++E,_,b,s3,e4,λH5 x5=>?_⟩;have ad:=x3.trans x5;have aq:H5 D=some (.lst us):=ad.ow D _ (.inr rfl) ai;have ar:Ext A H H5:=x2.trans (ad.mono λa F=>.inl F);cases b with
   | false=>
    rw[if_neg zaB]at G;exact Y8 ⟨aq,items.length-(i+1),by lia,rfl,aa,_,done,rest,s3.mono x5,aq,ar,ag.ext ad,G,ed,by lia,W⟩
   | true=>
    rw[if_pos rfl]at G;refine ZC ?_;obtain⟨d,e6,G⟩:=bind_some G;obtain⟨aj,e7,G⟩:=bind_some G;cases G;refine⟨H0,A0,_,E1++E,_,d,s3.mono x5,e6,λv H6 x6 r6=>?_⟩;have as:=ad.trans x6;have Y:H6 D=some (.lst us):=as.ow D _ (.inr rfl) ai;refine⟨Y,items.length-(i+1),by lia,rfl,aa,_,done++[d],aj,?_,aG,?_,((ag.ext as).append (.cons r6 .nil)).put (.inr rfl) Y trivial,e7,by rw[<- ed];simp,by rw[zbc];show done.length+1<=i+1;lia,W⟩
    ·have M:=s3.mono (x5.trans x6)
     have a1:H0 D=none:=st.ex.free n0;have B:∀b,H0 b≠none->b≠D:=λb hb z=>hb (by rw[z];exact a1)
     refine⟨⟨λb w r=>eP (B b (by rcases r with r|⟨_,r⟩ <;> (rw[r];exact λz=>nomatch z))) (M.ex.rd b w r),λb xs k r=>?_,λb w n r=>?_,λb q w r=>?_⟩,M.sub,M.l0,λa F=>?_,M.len,λi d h n=>?_,λi d h n=>?_,M.inj,λp hp=>Fact.put (.inr rfl) Y trivial (M.ext p hp)⟩
     ·rw[aE (B b (by rw[r];exact λz=>nomatch z))];exact M.ex.kp b xs k r
     ·rw[aE (B b (by rw[r];exact λz=>nomatch z))];exact M.ex.ow b w n r
     ·rw[aE (B b (by rw[r];exact λz=>nomatch z))];exact M.ex.fz b q w r
     ·by_cases z:a=D
      ·subst z;rw[aG];exact λz=>nomatch z
      ·rw[aE z];exact M.live a F
     ·obtain⟨v,h1,h2⟩:=M.val i d h n
      exact⟨v,h1,h2.put (.inr rfl) Y trivial⟩
     ·obtain⟨a,h1,h2,h3,h4⟩:=M.own i d h n
      exact⟨a,h1,h2,h3,h4.put (.inr rfl) Y trivial (W i n d a h h1)⟩
    ·have af:Ext A H H6:=ar.trans (x6.mono λa F=>.inl F)
     have B:∀b,H b≠none->b≠D:=λb hb z=>hb (by rw[z];exact n0)
     exact⟨λb w r=>eP (B b (by rcases r with r|⟨_,r⟩ <;> (rw[r];exact λz=>nomatch z))) (af.rd b w r),
      λb xs k r=>by rw[aE (B b (by rw[r];exact λz=>nomatch z))];exact af.kp b xs k r,
      λb w n r=>by rw[aE (B b (by rw[r];exact λz=>nomatch z))];exact af.ow b w n r,
      λb q w r=>by rw[aE (B b (by rw[r];exact λz=>nomatch z))];exact af.fz b q w r⟩
  ·have bc:i=items.length:=by lia
   subst bc;rw[zdD]at G;cases G;rw[zbb]at ed;subst ed;exact .inl ⟨an (zai _),q D H2 x2 n0 nA (.lst ai ag)⟩
theorem zA{B tg q:Expr}{z:List Expr}{scope:Scope}{pos:Pos}{N:List Str}{F:List (Str×Addr)}{ms:List (Option Nat)}{t:Nat}{it:Lv}{c:Bv}{f:Ev}
  (hc:X.calm=true) (cc:My.Clo X N scope F) (J:dR X scope N ms) (hO:Z9 O ms=Oi) (Y:∀j∈Oi,∀k∈Oi,ms[j]?=ms[k]?->j=k) (G:t∉Oi) (hi:PDI X O tg q it) (U:∀C s H fp,PG (My.aY X N scope F C s H fp) tg (i5 t))
  (M:∀C s H fp,My.DQ (My.aY X N scope F C s H fp) z (tDT Oi c)) (W:∀C s H fp,PD (My.aY X N scope F C s H fp) Oi B f) (hs:∀x,zba q X.env x=pure x:=by intro _;rfl) :
  PF X O (.ListComp B [⟨tg,q,z,0⟩] scope pos) (dY ms it (aQ t) c f):=PE.mono (My.FV hc cc hi U M W hs) (GT J hO Y G)
theorem DS{N:List Str}{scope:Scope}(M:scope.kind=.function)(h:AX scope.names X.env.scope.names=true)(hh:∀x,X.env.scope.names.lookup x=some .cell->∃c,X.env.cells.lookup x=some c):My.Clo X N scope (gY X.env.cells scope.names []):=by
 have h':=List.all_eq_true.mp h;have G:∀y∈scope.names,y.2≠.cell:=λy F=>by
  have:=h' y F;simp only[zaQ]at this;simpa using this.1.1
 have W:∀y∈scope.names,y.2=.local->scope.names.lookup y.1=some .local:=λy F e=>by
  have:=h' y F;simp only[zaQ,zdF]at this;rcases this.1.2 with z|z
  ·rw[e]at z;exact absurd z (by decide)
  ·simpa using z
 have J:∀y∈scope.names,y.2=.free->∃c,X.env.cells.lookup y.1=some c:=λy F e=>by
  have:=h' y F;simp only[zaQ,zdF]at this;rcases this.2 with z|z
  ·rw[e]at z;exact absurd z (by decide)
  ·exact hh _ (by simpa using z)
 have q:∀x,((zbd scope X.env).names.lookup x=some .cell\/(zbd scope X.env).names.lookup x=some .free)->(x,zbq)∈scope.names:=λx hx=>by
  rcases hx with hx|hx
  ·rcases My.SO hx with z|⟨_,z⟩
   ·exact absurd rfl (G _ z)
   ·exact z
  ·rcases My.SO hx with z|⟨z,_⟩
   ·exact z
   ·cases z
 refine⟨FH J,M,G,W,λx c e=>?_,λx hx=>sE (.inl (q x hx))⟩;rcases sQ e with⟨c',z,_⟩|⟨U,Y⟩
 ·cases z
 ·obtain⟨c0,B⟩:=J _ U rfl
  have B:X.env.cells.lookup x=some c0:=B;rw[Y,B];rfl
theorem EL{n:Nat}(q:X.env.cells=zb6 n X.env.scope.names []):∀x,X.env.scope.names.lookup x=some .cell->∃c,X.env.cells.lookup x=some c:=λx h=>by
 rw[q];exact mR (sc:=X.env.scope) h
end
section
variable {X:Cx}{L:Lp}{O O' O2:List Nat}
end
section
variable {X:Cx}{L:Lp}{O O' O2:List Nat}{Z:List Nat}
end
end P
namespace My
open PySem PySem.Spec PyProof.Rows L2
section
variable {X:Cx}
end
end My
namespace P
open PySem PySem.Spec PyProof.Rows L2
section
variable {X:Cx}
end
end P
namespace My
open PySem PySem.Spec PyProof.Rows L2
end My
namespace P
open PySem PySem.Spec PyProof.Rows L2
section
variable {X:Cx}{O:List Nat}
end
end P
namespace My
open PySem PySem.Spec PyProof.Rows L2
section
variable {X:Cx}
end
end My
namespace P
open PySem PySem.Spec PyProof.Rows L2
section
variable {X:Cx}{O:List Nat}
end
def Fe(K:zae)(x:Str)(st:Stmt)(f:Addr):Prop:=∃fd,Fun K x x st f fd
theorem Fe.mk{K:zae}{x:Str}{st:Stmt}{f:Addr}{F:Value}{od G:Option Addr}{z:Array (Option Value)}{kV B J q ct:Value}(l:K.lookup f=some ⟨F,od,.func (zbh x x (d6 st) (bU st) (aL st) .none kV B J G q ct),z⟩)(c:zcl K q x=true)(k:zbG K (.ref f)=true):Fe K x st f:=⟨_,DB l c k⟩
theorem Fe.d{K:zae}{mg:Str->Option Value}{x:Str}{st:Stmt}{f:Addr}{ps:List Str}(h:Fe K x st f)(a:mg x=some (.ref f))(q:∀(kV doc pm:Value) (an:Option Addr) (cdv ct:Value) (us:List Value),us.length=ps.length->bindArgs (zbh x x (d6 st) (bU st) (aL st) .none kV doc pm an cdv ct) ⟨us,[]⟩=pure (ps.zip us)):My.DefAt K mg x st ps:=let ⟨fd,F⟩:=h;⟨⟨f,fd,F,F.binds q,a⟩⟩
end P
namespace My
open PySem PySem.Spec PyProof.Rows L2
noncomputable def NR(ns:List Int):Int:=(ns[argBest (λi j=>decide ((ns[i]?).getD 0<(ns[j]?).getD 0)) (ns.length-1)]?).getD 0
section
variable {X:Cx}
end
end My
namespace P
open PySem PySem.Spec PyProof.Rows L2
section
variable {X:Cx}
end
section
variable {X:Cx}{L:Lp}{O O':List Nat}
theorem c0{z O3:List Nat}{st:Stmt}{q:List Stmt}{f g:Sv}(h:jA X L z st f [])(k:eB X L [] q g O3):eB X L z (st::q) (dB f g) O3:=cn h k
theorem ss(i:Nat)(q:X.N.Nodup)(z:PD X O e f)(hi:X.N[i]?=some x:=by rfl)(hx:Loc X.env.scope x:=by exact zaZ rfl)(h:Sub O' (O.filter (· != i))=true:=by rfl)(hs:zaD e (some (.Name x pos')) pos.line X.env=pure false:=by rfl)(B:X.fn x=true\/X.env.scope.names.lookup x=some .local:=by first|exact .inl rfl|exact .inr rfl):jA X L O (.Assign [.Name x pos'] e pos) (dZ i f) O':=FN q hi hx z h hs B
theorem gc(h1:BA X O e g)(h2:DD X O es k)(a:(za1 (e::es) X.env).map (·.2)=zbe e X.env::(za1 es X.env).map (·.2):=by rfl):DD X O (e::es) (eA g k):=g8 (λx y=>jX x y a) h1 h2
theorem gu(n:Nat)(h:DD X O es k)(q:X.calm=true:=by rfl)(a:(za1 es X.env).length=n:=by rfl)(b:List.findIdx? (λx=>x.fst) (za1 es X.env)=none:=by rfl):BA X O (.Tuple es j pos) (kS n k):=FC (C6 q h a b)
theorem tc(B:kO X (zaA op) g)(q:PB X O a fa)(z:PB X O b fb)(h1:op≠CmpOp.In:=by decide)(h2:op≠CmpOp.NotIn:=by decide):uM X O (.Compare a [op] [b] pos) (pN (bC g fa fb)):=D7 B q z (tE _ h1 h2)
end
variable {X:Cx}{O:List Nat}{e:Expr}
end P
namespace My
open PySem PySem.Spec PyProof.Rows L2
section
variable {prog:zah}{w:World}{A:zam}{E:Value->zad->Prop}{s:zad}
end
end My
namespace P
open PySem PySem.Spec PyProof.Rows L2
end P
namespace HT
open PySem PySem.Spec PyProof.Rows
section
open PySem.SeqAt
open PySem.AutoSeq1 (wpAny_loadPart')
open PySem.MeetsSeq PySem.MeetsSeq2 PySem.MeetsSeq3
end
section
variable {prog:zah}{w:World}{A:zam}{E:Value->zad->Prop}{s:zad}
end
end HT
namespace P
open PySem PySem.Spec PyProof.Rows L2
section
variable {X:Cx}
end
section
variable {X:Cx}
end
section
variable {X:Cx}{L:Lp}{O O':List Nat}
theorem cO(O2:List Nat){z O3:List Nat}{st:Stmt}{q:List Stmt}{f g:Sv}(h:jA X L z st f O2)(k:eB X L O2 q g O3):eB X L z (st::q) (dB f g) O3:=cn h k
theorem wt{x1}(h:A9 X O es g)(q:Len g es.length)(z:Nat.ble es.length 100=true:=by rfl):PD X O (.Tuple es x1 pos) (eV g):=nV h (λρ ds k=>by rw[q ρ ds k];exact zcq z)
theorem wl(h:A9 X O es g)(q:Len g es.length)(z:Nat.ble es.length 100=true:=by rfl):PF X O (.List es pos) (NM g):=L6 h (λρ ds k=>by rw[q ρ ds k];exact zcq z)
theorem wE(O':Fn X.prog X.w X.K X.mg X.base x k ps F)(B:Room j X.A)(J:A9 X O (e::es) f)(z:Len f ps.length)(G:k<=j)(M:Gl X x:=by rfl)(q:(x == ("__debug__" : Str))=false:=by decide)(hs:isStar e=false:=by rfl)(N:(es.all λe=>!isStar e)=true:=by rfl):PD X O (.Call (.Name x p) (e::es) [] pos) (aS F f):=cD O' (B.mono G) J z M q hs N
theorem qy{e:Expr}{es:List Expr}{f:Lv}{p pos:Pos}(z:X.mg "len" = none)(q:vZ X O (e::es) f)(B:Gl X "len")(hs:isStar e=false)(F:((es:List Expr).all λe=>!isStar e)=true):PD X O (.Call (.Name "len" p) (e::es) [] pos) (aS gE f):=cB UW z My.boot_len q B (by decide) (by decide) hs F
theorem qu{e:Expr}{es:List Expr}{f:Lv}{p pos:Pos}(z:X.mg "tuple" = none)(q:vZ X O (e::es) f)(B:Gl X "tuple")(hs:isStar e=false)(F:((es:List Expr).all λe=>!isStar e)=true):PD X O (.Call (.Name "tuple" p) (e::es) [] pos) (aS kA f):=W8 jW z My.boot_tuple q B (by decide) (by decide) hs F
theorem qac{e:Expr}{es:List Expr}{f:Lv}{p pos:Pos}(z:X.mg "int" = none)(q:vZ X O (e::es) f)(B:Gl X "int")(hs:isStar e=false)(F:((es:List Expr).all λe=>!isStar e)=true):PD X O (.Call (.Name "int" p) (e::es) [] pos) (aS DJ f):=W8 T4 z My.boot_int q B (by decide) (by decide) hs F
theorem qag{e:Expr}{es:List Expr}{f:Lv}{p pos:Pos}(z:X.mg "list" = none)(q:vZ X O (e::es) f)(B:Gl X "list")(hs:isStar e=false)(F:((es:List Expr).all λe=>!isStar e)=true):PF X O (.Call (.Name "list" p) (e::es) [] pos) (aS GF f):=qh PY z My.boot_list q B (by decide) (by decide) hs F
theorem XG{q:Expr}{e:Expr}{es:List Expr}{f:Lv}{p pos:Pos}(J:X.calm=true)(B:X.mg "min" = none)(z:vZ X O [e,q] f)(F:Gl X "min")(hs:isStar e=false)(G:(([q]:List Expr).all λe=>!isStar e)=true):PD X O (.Call (.Name "min" p) [e,q] [] pos) (aS AZ f):=cB (OL J) B My.boot_min z F (by decide) (by decide) hs G
theorem Y4{q:Expr}{e:Expr}{es:List Expr}{f:Lv}{p pos:Pos}(J:X.calm=true)(B:X.mg "max" = none)(z:vZ X O [e,q] f)(F:Gl X "max")(hs:isStar e=false)(G:(([q]:List Expr).all λe=>!isStar e)=true):PD X O (.Call (.Name "max" p) [e,q] [] pos) (aS GH f):=cB (QQ J) B My.boot_max z F (by decide) (by decide) hs G
theorem OW{e:Expr}{f:Ev}{p p2 pos:Pos}(G:PB X O e f)(B:X.mg "isinstance" = none)(q:X.mg "tuple" = none)(F:Gl X "isinstance")(z:Gl X "tuple")(h1:zag [e,.Name "tuple" p2] X.env=(false,eval e X.env)::zag [.Name "tuple" p2] X.env)(h2:(zaG pos (zag [.Name "tuple" p2] X.env)).any (·.1)=false)(J:zag [.Name "tuple" p2] X.env=(false,eval (.Name "tuple" p2) X.env)::zag [] X.env):PD X O (.Call (.Name "isinstance" p) [e,.Name "tuple" p2] [] pos) (WX "tuple" f):=T9 kit_tuple F B z q My.boot_tuple G (by decide) (by decide) h1 h2 J
theorem rSl{e:Expr}{lo hi:Option Expr}{p2 pos:Pos}{f:Ev}{a b:Ov}(z:PB X O e f)(B:TB X O lo a)(q:TB X O hi b):PD X O (.Subscript e (.Slice lo hi none p2) pos) (W4 xW f a b):=K3 qav z B q
theorem rIt{a b:Expr}{pos:Pos}{q fb:Ev}(B:X.A.units+1<cLine)(z:PB X O a q)(F:PB X O b fb)(hs:xB b:=by exact λ_ _=>rfl):PD X O (.Subscript a b pos) (bC aI q fb):=O7 B z F hs
theorem qaH{a b:Expr}{pos:Pos}{q fb:Ev}{j:Nat}(z:Room j X.A)(B:PB X O a q)(G:PB X O b fb)(F:zbQ .NotIn b=false):uM X O (.Compare a [.NotIn] [b] pos) (pN (bC m9 q fb)):=D7 (HJ z.units) B G F
theorem rCm{a b:Expr}{op:CmpOp}{pos:Pos}{g:D->D->Option D}{q fb:Ev}(F:kO X (zaA op) g)(z:PB X O a q)(B:PB X O b fb)(h1:op≠CmpOp.In)(h2:op≠CmpOp.NotIn):PD X O (.Compare a [op] [b] pos) (bC g q fb):=xN F z B (tE _ h1 h2)
theorem rJn{o e:Expr}{apos cpos:Pos}{z fe:Ev}(G:PB X O o z)(J:PB X O e fe)(N:zaO o "join" X.env (eval o X.env)=eval o X.env)(B:((((zaG cpos (zag [e] X.env)).all λx=>!x.fst) && (backToKw cpos (keywordEach [] X.env)).all λx=>x.fst.isSome) && decide (([e].length+([]:List zcj).length+if([]:List zcj).isEmpty=true then 0 else 1)<30))=true)(U:(apos.endLine == cpos.line)=true)(q:zag [e] X.env=(false,eval e X.env)::zag [] X.env)(M:((zaG cpos (zag [] X.env)).any λx=>x.fst)=false):PD X O (.Call (.Attribute o "join" apos) [e] [] cpos) (bC AW z fe):=EU G J (λa b=>vW PySem.F.plainAttrs_str PySem.F.slot_str_join PySem.F.type_str_join My.EQ a b N B U q M) q
theorem xEq{j:Nat}(q:Room j X.A):kO X (zaA .Eq) kN:=SG q.units
theorem xNe{j:Nat}(q:Room j X.A):kO X (zaA .NotEq) BB:=Y0 q.units
theorem xLt{j:Nat}(q:Room j X.A):kO X (zaA .Lt) qm:=T8 q.units0
def At(l:List Str)(x:Str)(i:Nat):Prop:=l[i]?=some x
theorem at_(i:Nat){l:List Str}{x:Str}(h:l[i]?=some x:=by eq_refl):At l x i:=h
theorem vB{i:Nat}{x:Str}{p:Pos}(h:At X.N x i)(q:W2 X.env.scope x)(hd:(x == ("__debug__" : Str))=false)(z:(x == ("__classdict__" : Str))=false):PB X O (.Name x p) (aD i):=VL i (pv i h q hd z)
theorem vD{i:Nat}{x:Str}{p:Pos}(h:At X.N x i)(n:O.contains i=false)(q:W2 X.env.scope x)(hd:(x == ("__debug__" : Str))=false)(z:(x == ("__classdict__" : Str))=false):PD X O (.Name x p) (aD i):=tJ i (pv i h q hd z) (by simpa using n)
theorem gV{i:Nat}{x:Str}{pos:Pos}(h:At X.N x i)(n:O.contains i=false)(q:X.N.Nodup)(hx:Loc X.env.scope x)(z:X.fn x=true\/X.env.scope.names.lookup x=some .local):BA X O (.Name x pos) (aQ i):=mP (gM q h hx z) n
theorem aJ(i:Nat)(z:PD X O e f:=by trivial)(q:X.N.Nodup:=by assumption)(hi:X.N[i]?=some x:=by rfl)(hx:Loc X.env.scope x:=by first|exact zaZ rfl|exact zbL rfl)(h:Sub O' (O.filter (· != i))=true:=by rfl)(hs:zaD e (some (.Name x pos')) pos.line X.env=pure false:=by rfl)(B:X.fn x=true\/X.env.scope.names.lookup x=some .local:=by first|exact .inl rfl|exact .inr rfl):jA X L O (.Assign [.Name x pos'] e pos) (dZ i f) O':=FN q hi hx z h hs B
theorem eQ(i:Nat)(B:PF X O e f:=by trivial)(q:X.N.Nodup:=by assumption)(hi:X.N[i]?=some x:=by rfl)(hx:Loc X.env.scope x:=by first|exact zaZ rfl|exact zbL rfl)(h:Sub O' (i::O)=true:=by rfl)(z:O.contains i=false:=by rfl)(hs:zaD e (some (.Name x pos')) pos.line X.env=pure false:=by rfl)(F:X.fn x=true\/X.env.scope.names.lookup x=some .local:=by first|exact .inl rfl|exact .inr rfl):jA X L O (.Assign [.Name x pos'] e pos) (dZ i f) O':=KY q hi hx B h z hs F
theorem nG(i:Nat)(B:PD X O e f:=by trivial)(z:PE X o (cZ i):=by exact pv _)(U:mem O i=true:=by rfl)(M:zaO o "append" X.env (eval o X.env)=eval o X.env:=by rfl)(G:((((zaG cpos (zag [e] X.env)).all λx=>!x.fst) && (backToKw cpos (keywordEach [] X.env)).all λx=>x.fst.isSome) && decide (([e].length+([]:List zcj).length+if([]:List zcj).isEmpty=true then 0 else 1)<30))=true:=by rfl)(N:(apos.endLine == cpos.line)=true:=by rfl)(q:zag [e] X.env=(false,eval e X.env)::zag [] X.env:=by rfl)(J:((zaG cpos (zag [] X.env)).any λx=>x.fst)=false:=by rfl)(hs:zaD (.Call (.Attribute o "append" apos) [e] [] cpos) none pos.line X.env=pure false:=by rfl)(h:Sub O' O=true:=by rfl):jA X L O (.Expr (.Call (.Attribute o "append" apos) [e] [] cpos) pos) (IR i f) O':=BR z B U (vW zdI PySem.F.slot_list_append PySem.F.type_list_append vM z (cT (PD.pe B) fM (hs:=q)) M G N q J) hs h
theorem aO(q:PD X O e f:=by trivial):eB X L O [.Return (some e) pos] (JD f) O':=aN (OV q)
theorem NO(q:eB X L O a f O')(z:eB X L O b k O')(B:uM X O c g:=by trivial):jA X L O (.If c a b pos) (BD g f k) O':=CS B q z
theorem a9(q:eB X L O a f O')(z:uM X O c g:=by trivial)(h:Sub O' O=true:=by rfl):jA X L O (.If c a [] pos) (BD g f R7) O':=CS z q (FE h)
theorem ZQ{st:Stmt}:eB X L O [st] R0 O':=aN HN
theorem YZ{c:Expr}{st:Stmt}{pos:Pos}{g:Bv}(q:uM X O c g:=by trivial)(h:Sub O' O=true:=by rfl):jA X L O (.If c [st] [] pos) (BD g R0 R7) O':=CS q ZQ (FE h)
theorem eT(q z:List Nat)(M:eB X ⟨z,q⟩ q body b q)(hi:PDI X O tg iter f:=by trivial)(B:BA X q tg g:=by trivial)(F:zb4 (model X.prog X.w) X.A X.env X.xe:=by exact zem)(G:X.calm=true:=by rfl)(h1:Sub q O=true:=by rfl)(h2:Sub O' q=true:=by rfl)(J:Sub O' z=true:=by rfl)(hs:∀x,zba iter X.env x=pure x:=by intro _;rfl):jA X L O (.For tg iter body [] pos) (A7 f g b) O':=QI F G hi B M h1 h2 J hs
theorem ND(q z:List Nat)(J:eB X ⟨z,q⟩ q body b q)(F:uM X q c g:=by trivial)(B:zb4 (model X.prog X.w) X.A X.env X.xe:=by exact zem)(h1:Sub q O=true:=by rfl)(h2:Sub O' q=true:=by rfl)(G:Sub O' z=true:=by rfl):jA X L O (.While c body [] pos) (lN g b) O':=HB B F J h1 h2 G
theorem AV(i:Nat)(z:PD X O value fe:=by trivial)(B:PB X O k fk:=by trivial)(J:X.A.units+1<cLine:=by assumption)(G:PE X o (cZ i):=by exact pv _)(M:mem O i=true:=by rfl)(h:Sub O' O=true:=by rfl)(hs:zaD value (some (.Subscript o k pos')) pos.line X.env=pure false:=by rfl)(q:zc7 [.Subscript o k pos'] value pos.line X.env=pure false:=by rfl)(hw:zc8 [.Subscript o k pos'] value X.env=pure none:=by rfl)
  (F:∀ {to ti:TE} {t:NG},PE X o to->PE X k ti->RO X t->PG X (.Subscript o k pos') (WO to ti t):=by intro _ _ _ a b c;exact MA a b c):jA X L O (.Assign [.Subscript o k pos'] value pos) (DF i fk fe) O':=OT J G B z M h hs q hw F
theorem eR(σ:zad)(N:List Str)(ms:List (Option Nat))(hi:PDI X O tg iter it:=by trivial)(J:∀C s H fp,N.Nodup->BA (My.aY X N scope (gY X.env.cells scope.names []) C s H fp) [] tg g:=by intros;trivial)(B:∀C s H fp,My.DQ (My.aY X N scope (gY X.env.cells scope.names []) C s H fp) ifs (tDT [] c):=by intros;trivial)(M:∀C s H fp,PD (My.aY X N scope (gY X.env.cells scope.names []) C s H fp) [] elt f:=by intros;trivial)
  (hx:X.env.cells=zb6 (σ.heap.objs.size+1) X.env.scope.names []:=by rfl) (q:dR X scope N ms:=by repeat' first|exact zaY|exact rfl|exact zaZ rfl|constructor) (G:N.Nodup:=by decide)
  (U:X.calm=true:=by rfl) (F:scope.kind=.function:=by rfl) (h:AX scope.names X.env.scope.names=true:=by rfl) (z:(ms.all λo=>match o with|some i=>!O.contains i|none=>true)=true:=by rfl) (hs:∀x,zba iter X.env x=pure x:=by intro _;rfl):PF X O (.ListComp elt [⟨tg,iter,ifs,0⟩] scope pos) (dY ms it g c f):=QO U (CU F h hx) q z hi (λC s H fp=>J C s H fp G) B M hs
theorem iZ(i:Nat)(σ:zad)(N:List Str)(ms:List (Option Nat))(hi:PDI X O tg iter it:=by trivial)(hg:∀C s H fp,N.Nodup->BA (My.aY X N scope (gY X.env.cells scope.names []) C s H fp) [] tg g:=by intros;trivial)(U:∀C s H fp,My.DQ (My.aY X N scope (gY X.env.cells scope.names []) C s H fp) ifs (tDT [] c):=by intros;trivial)(he:∀C s H fp,PD (My.aY X N scope (gY X.env.cells scope.names []) C s H fp) [] elt f:=by intros;trivial)
  (hx:X.env.cells=zb6 (σ.heap.objs.size+1) X.env.scope.names []:=by rfl) (B:dR X scope N ms:=by repeat' first|exact zaY|exact rfl|exact zaZ rfl|constructor) (Y:N.Nodup:=by decide)
  (hc:X.calm=true:=by rfl) (W:scope.kind=.function:=by rfl) (h:AX scope.names X.env.scope.names=true:=by rfl) (J:(ms.all λo=>match o with|some i=>!O.contains i|none=>true)=true:=by rfl) (hs:∀x,zba iter X.env x=pure x:=by intro _;rfl)
  (G:X.N.Nodup:=by assumption) (z:X.N[i]?=some x:=by rfl) (M:Loc X.env.scope x:=by first|exact zaZ rfl|exact zbL rfl) (q:Sub O' (O.filter (· != i))=true:=by rfl) (F:zaD (.ListComp elt [⟨tg,iter,ifs,0⟩] scope pos) (some (.Name x pos')) spos.line X.env=pure true:=by rfl) (hf:X.fn x=true\/X.env.scope.names.lookup x=some .local:=by first|exact .inl rfl|exact .inr rfl) :
  jA X L O (.Assign [.Name x pos'] (.ListComp elt [⟨tg,iter,ifs,0⟩] scope pos) spos) (dZ i (dY ms it g c f)) O':=J0 G z M hc (CU W h hx) B J hi (λC s H fp=>hg C s H fp Y) U he q hs F hf
theorem PH(i:Nat)(σ:zad)(N:List Str)(ms:List (Option Nat))(hi:PDI X O tg iter it:=by trivial)(hg:∀C s H fp,N.Nodup->BA (My.aY X N scope (gY X.env.cells scope.names []) C s H fp) [] tg g:=by intros;trivial)(W:∀C s H fp,My.DQ (My.aY X N scope (gY X.env.cells scope.names []) C s H fp) ifs (tDT [] c):=by intros;trivial)(he:∀C s H fp,PD (My.aY X N scope (gY X.env.cells scope.names []) C s H fp) [] elt f:=by intros;trivial)
  (hx:X.env.cells=zb6 (σ.heap.objs.size+1) X.env.scope.names []:=by rfl) (B:dR X scope N ms:=by repeat' first|exact zaY|exact rfl|exact zaZ rfl|constructor) (hN:N.Nodup:=by decide)
  (hc:X.calm=true:=by rfl) (Y:scope.kind=.function:=by rfl) (h:AX scope.names X.env.scope.names=true:=by rfl) (M:(ms.all λo=>match o with|some i=>!O.contains i|none=>true)=true:=by rfl) (hs:∀x,zba iter X.env x=pure x:=by intro _;rfl)
  (J:X.N.Nodup:=by assumption) (z:X.N[i]?=some x:=by rfl) (U:Loc X.env.scope x:=by first|exact zaZ rfl|exact zbL rfl) (q:Sub O' (i::O)=true:=by rfl) (F:O.contains i=false:=by rfl) (G:zaD (.ListComp elt [⟨tg,iter,ifs,0⟩] scope pos) (some (.Name x pos')) spos.line X.env=pure true:=by rfl) (hf:X.fn x=true\/X.env.scope.names.lookup x=some .local:=by first|exact .inl rfl|exact .inr rfl) :
  jA X L O (.Assign [.Name x pos'] (.ListComp elt [⟨tg,iter,ifs,0⟩] scope pos) spos) (dZ i (dY ms it g c f)) O':=G4 J z U hc (CU Y h hx) B M hi (λC s H fp=>hg C s H fp hN) W he q F hs G hf
end
theorem fx{Q:zah}{w:World}{K:zae}{mg:Str->Option Value}{base:Heap}{x:Str}{k:Nat}{ps:List Str}{F:List D->Option D}(B:List D->Option D)(h:Fn Q w K mg base x k ps F)(e:F=B:=by rfl):Fn Q w K mg base x k ps B:=e ▸ h
noncomputable def WQ:List Str->(List Value->Prop)->Prop
 | [],Q=>Q []
 | _::ps,Q=>∀u,WQ ps λus=>Q (u::us)
theorem OX{ps:List Str}{Q:List Value->Prop}(h:WQ ps Q){q:List Value}(e:q.length=ps.length):Q q:=by
 induction ps generalizing q Q with
 | nil=>rw[List.length_eq_zero_iff.mp e];exact h
 | cons a ps ih=>
  cases q with
  | nil=>cases e
  | cons u q=>exact ih (h u) (Nat.succ.inj e)
def Bd(st:Stmt)(x:Str)(ps:List Str):Prop:=∀(kV doc pm:Value) (an:Option Addr) (cdv ct:Value),WQ ps λq=>bindArgs (zbh x x (d6 st) (bU st) (aL st) .none kV doc pm an cdv ct) ⟨q,[]⟩=pure (ps.zip q)
def De(K:zae)(x:Str)(st:Stmt):Prop:=∃f,zbY K zaK x=some (some (.ref f))/\Fe K x st f
def Des(K:zae)(tp:Nat->Stmt)(t:List (Str×Nat×List Str)):Prop:=∀p∈t,De K p.1 (tp p.2.1)
theorem Des.nil{K:zae}{tp:Nat->Stmt}:Des K tp []:=λ_ h=>nomatch h
theorem Des.cons{K:zae}{tp:Nat->Stmt}{x:Str}{i:Nat}{ps:List Str}{t:List (Str×Nat×List Str)}{f:Addr}{F:Value}{od G:Option Addr}{z:Array (Option Value)}{kV B J q ct:Value}(a:zbY K zaK x=some (some (.ref f)))(l:K.lookup f=some ⟨F,od,.func (zbh x x (d6 (tp i)) (bU (tp i)) (aL (tp i)) .none kV B J G q ct),z⟩)(c:zcl K q x=true)(k:zbG K (.ref f)=true)(r:Des K tp t):Des K tp ((x,i,ps)::t):=
 zcZ.2 ⟨⟨f,a,Fe.mk l c k⟩,r⟩
def Bds(tp:Nat->Stmt)(t:List (Str×Nat×List Str)):Prop:=∀p∈t,Bd (tp p.2.1) p.1 p.2.2
theorem Bds.nil:Bds tp []:=λ_ h=>nomatch h
theorem Bds.cons(a:Bd (tp i) x ps)(r:Bds tp t):Bds tp ((x,i,ps)::t):=zcZ.2 ⟨a,r⟩
theorem Des.d{K:zae}{h:Heap}{mg:Str->Option Value}{tp:Nat->Stmt}{t:List (Str×Nat×List Str)}(X:K.In h)(G:h.Ns zaK mg)(D:Des K tp t)(B:Bds tp t):∀p∈t,My.DefAt K mg p.1 (tp p.2.1) p.2.2:=λp F=>let ⟨_,a,e⟩:=D p F;e.d (zdJ X G a) λkV z M J q ct N=>OX (B p F kV z M J q ct)
def Nos(K:zae)(t:List Str):Prop:=∀x∈t,zbY K zaK x=some none
theorem Nos.nil{K:zae}:Nos K []:=λ_ h=>nomatch h
theorem Nos.cons{K:zae}{x:Str}{t:List Str}(a:zbY K zaK x=some none)(r:Nos K t):Nos K (x::t):=zcZ.2 ⟨a,r⟩
def Gis(K:zae)(t:List (Str×Int)):Prop:=∀p∈t,∃k,zbY K zaK p.1=some (some (.int p.2 k))
theorem Gis.nil{K:zae}:Gis K []:=λ_ h=>nomatch h
theorem Gis.cons{K:zae}{x:Str}{n:Int}{k:Tok}{t:List (Str×Int)}(a:zbY K zaK x=some (some (.int n k)))(r:Gis K t):Gis K ((x,n)::t):=zcZ.2 ⟨⟨k,a⟩,r⟩
theorem Gis.d{K:zae}{h:Heap}{mg:Str->Option Value}{t:List (Str×Int)}(X:K.In h)(G:h.Ns zaK mg)(D:Gis K t):∀p∈t,GInt mg p.1 p.2:=λp q=>let ⟨_,a⟩:=D p q;⟨⟨_,zdJ X G a⟩⟩
noncomputable def mon:List Int->List Int->Int
 | e::es,v::vs=>v^e.toNat*mon es vs
 | _,_=>1
def ev(vs:List Int)(F:List My.Tm):Int:=(F.map λt=>t.2*mon t.1 vs).sum
noncomputable def pw(S:Nat->Int)(a:Int):Nat->Int
 | 0=>0
 | n+1=>pw S a n+a^n*S n
noncomputable def la(k:List Int):Int:=(k.getLast?).getD 0
theorem C7{w:List D}{c:Int}(G:0<=c)(h1:c<=(w.length:Int)):cutD w none (some c)=w.take c.toNat/\cutD w (some c) none=w.drop c.toNat:=by
 have q:HT.sIx w.length w.length (some c)=c.toNat:=by
  show(if c<0 then _ else min c.toNat w.length)=_;rw[if_neg (by lia)];lia
 have z:HT.sIx w.length 0 (some c)=c.toNat:=by
  show(if c<0 then _ else min c.toNat w.length)=_;rw[if_neg (by lia)];lia
 have F:HT.sIx w.length 0 none=0:=rfl;have B:HT.sIx w.length w.length none=w.length:=rfl;unfold cutD;rw[q,z,F,B];constructor
 ·simp
 ·rw[zbZ (by simp)]
section
variable {ρ ρ':cU}{f g:Ev}{a b:Bv}{l:Lv}{x y d r:D}{xs:List D}{i j:Int}{k:Nat}{s t:Sv}{o:Option Out}
theorem WH(h:ρ[k]?=some (some x)):aD k ρ=some x:=by unfold aD;rw[h];rfl
theorem qax:eC x ρ=some x:=rfl
theorem F9{w:D->D->Option D}(z:f ρ=some x)(q:g ρ=some y)(B:w x y=some r):bC w f g ρ=some r:=by unfold bC;rw[z,aA,q,aA,B]
theorem P9{F:List D->Option D}(h:l ρ=some xs)(k:F xs=some r):aS F l ρ=some r:=by unfold aS;rw[h,aA,k]
theorem O0(h:f ρ=some x)(k:l ρ=some xs):aC f l ρ=some (x::xs):=by unfold aC;rw[h,aA,k,aA]
theorem UY(h:l ρ=some xs):eV l ρ=some (.tup xs):=by unfold eV;rw[h,aB]
theorem V1(h:l ρ=some xs):NM l ρ=some (.lst xs):=by unfold NM;rw[h,aB]
theorem NC(h:f ρ=some (.int i)):vO f ρ=some (some i):=by unfold vO;rw[h,aA];rfl
theorem NA{w:D->Option Int->Option Int->Option D}{u v:Ov}{p q:Option Int}(F:f ρ=some x)(z:u ρ=some p)(B:v ρ=some q)(G:w x p q=some r):W4 w f u v ρ=some r:=by unfold W4;rw[F,aA,z,aA,B,aA,G]
theorem V4(h:f ρ=some (.int i)):WS f ρ=some (.int (-i)):=by unfold WS;rw[h,aA];rfl
theorem U4{c:Bool}(h:f ρ=some (.bl c)):pN f ρ=some c:=by unfold pN;rw[h,aA];rfl
theorem VB{c:Bool}(h:a ρ=some c):NT a ρ=some (!c):=by unfold NT;rw[h,aB]
noncomputable def W3{α:Type}(c:Bool)(u v:α):α:=if c=true then u else v
theorem ZE{q:Type}{c:Bool}{u v w:q}(h:c=true)(k:u=w):W3 c u v=w:=(if_pos h).trans k
theorem Z1{q:Type}{c:Bool}{u v w:q}(h:c=false)(k:v=w):W3 c u v=w:=(if_neg (by rw[h];exact nofun)).trans k
theorem V8{c:Bool}{z:Option Bool}(h:a ρ=some c)(k:W3 c (b ρ) (some false)=z):IT a b ρ=z:=by unfold IT;rw[h,aA];exact k
theorem YE{c:Bool}{z:Option Bool}(h:a ρ=some c)(k:W3 c (some true) (b ρ)=z):TF a b ρ=z:=by unfold TF;rw[h,aA];exact k
theorem YN{c:Bool}(h:a ρ=some c)(k:W3 c (s ρ) (t ρ)=o):BD a s t ρ=o:=by unfold BD;rw[h,aA];exact k
def sq(p:Out)(t:Sv):Option Out:=match p with
 | .nx ρ=>t ρ
 | p=>some p
theorem VC{p:Out}(h:s ρ=some p)(k:sq p t=o):dB s t ρ=o:=by unfold dB;rw[h,aA];exact k
theorem X9(k:t ρ=o):sq (.nx ρ) t=o:=k
theorem X2(h:f ρ=some x):JD f ρ=some (.rt x):=qv h
theorem VN{w:Gv}(h:f ρ=some x)(k:w x ρ=some ρ'):RS f w ρ=some (.nx ρ'):=by unfold RS;rw[h,aA,k,aB]
theorem M2(h:aD k ρ=some (.lst xs))(e:f ρ=some x)(z:xs.length<=1000000):IR k f ρ=some (.nx (ρ.set k (some (.lst (xs++[x]))))):=by
 unfold IR;rw[h,aA];show(f ρ).bind _=_;rw[e,aA];exact if_pos (decide_eq_true z)
theorem xI{u v:List D}(z:u.length+v.length<=1000000):dP (.lst u) (.lst v)=some (.lst (u++v)):=if_pos (decide_eq_true z)
theorem RN{u:List D}(z:u.length+1<=1000000):dP (.lst u) (.lst [x])=some (.lst (u++[x])):=xI z
theorem Y3(h:gD xs i=some x):aI (.lst xs) (.int i)=some x:=h
theorem UR(h:gD xs i=some x):aI (.tup xs) (.int i)=some x:=h
theorem Q1{ms:List (Option Nat)}{w:Gv}{ds:List D}(h:l ρ=some xs)(z:xs.length<=1000000)(e:bD w a f xs (i6 ms ρ)=some ds):dY ms l w a f ρ=some (.lst ds):=by unfold dY;rw[h,aA];exact(if_pos (decide_eq_true z)).trans (by rw[e,aB])
theorem WE{w:Gv}:bD w a f [] ρ=some []:=rfl
theorem QB{w:Gv}{ds:List D}(h:w x ρ=some ρ')(k:a ρ'=some true)(e:f ρ'=some y)(r:bD w a f xs ρ'=some ds):bD w a f (x::xs) ρ=some (y::ds):=by rw[bD,h,aA,k,aA,if_pos rfl,e,aA,r,aA]
theorem F8{w:Gv}(h:w x ρ=some ρ')(k:s ρ'=o):turn w s x ρ=o:=by unfold turn;rw[h,aA,k]
theorem xC{w:Gv}{Q:cU->Prop}(h:turn w s x ρ=some (.nx ρ'))(k:Q ρ'):∃ρ',turn w s x ρ=some (.nx ρ')/\Q ρ':=⟨_,h,k⟩
theorem WL{w:Gv}(h:l ρ=some xs)(k:kG w s xs ρ=o):A7 l w s ρ=o:=by unfold A7;rw[h,aA,k]
theorem T7{w:Gv}:kG w s [] ρ=some (.nx ρ):=rfl
theorem QE{w:Gv}(h:turn w s x ρ=some (.nx ρ'))(k:kG w s xs ρ'=o):kG w s (x::xs) ρ=o:=by
 unfold turn at h;obtain⟨B,z,q⟩:=bind_some h;unfold kG;rw[z,aA,q,aA];exact k
theorem N2{ys:List D}(h:l ρ=some [x])(e:(gO x).map (gB 0)=some ys):FZ l ρ=some ys:=by unfold FZ;rw[h,aA];exact e
theorem YG{w:List D->Option (List D)}{ys:List D}(h:l ρ=some xs)(k:w xs=some ys):lR w l ρ=some ys:=by unfold lR;rw[h,aA,k]
theorem WC{u:Ev}{w:List D}(q:f ρ=some (.lst w))(B:g ρ=some (.int i))(hx:u ρ=some (.lst [x]))(z:0<=i)(h1:i<w.length)(F:w.length<=1000) :
  bC dP (bC dP (W4 xW f FY (vO g)) u) (W4 xW f (vO (bC dP g (eC (.int 1)))) FY) ρ=some (.lst (w.take i.toNat++x::w.drop (i.toNat+1))):=by
 obtain⟨n,rfl⟩:=Int.eq_ofNat_of_zero_le z;refine(F9 (F9 (NA q rfl (NC B) rfl) hx (xI ?_)) (NA q (NC (F9 B rfl rfl)) rfl rfl) (xI ?_)).trans ?_
 all_goals rw[(C7 z (by lia)).1]
 ·simp;lia
 ·rw[(C7 (by lia) (by lia)).2];simp;lia
 ·rw[(C7 (by lia) (by lia)).2];simp
end
end P
namespace My
open PySem PySem.Spec PyProof.Rows L2 PySem.SeqAt
def EA:V->List V->Hp->VK->Prop:=λx vs H Q=>∃l xs i y,x=.ref l/\vs=[.int i,y]/\H l=some (.lst xs)/\0<=i/\i<=(xs.length:Int)/\xs.length<zaj/\Q .non (upd H l (.lst (xs.take i.toNat++y::xs.drop i.toNat)))
theorem u6:∀ {xs:List V} {us:List Value} (n:Nat),Vals xs us->Vals (xs.take n) (us.take n)
 | _,_,0,_=>by simp;exact .nil
 | _,_,n+1,.nil=>.nil
 | _,_,n+1,.cons h t=>.cons h (u6 n t)
theorem u4:∀ {xs:List V} {us:List Value} (n:Nat),Vals xs us->Vals (xs.drop n) (us.drop n)
 | _,_,0,r=>r
 | _,_,n+1,.nil=>.nil
 | _,_,n+1,.cons h t=>u4 n t
theorem HL{X:Cx}:ql X "list.insert" EA:=by
 intro pins s σ H x vs v us Q I U N h;obtain⟨l,xs,i,y,rfl,rfl,G,h0,h1,hz,q⟩:=h;cases U;obtain⟨Y,J,rfl,r1,r2⟩:=vals2 N;obtain⟨t,rfl⟩:=r1;obtain⟨z,its,n,r,W,e⟩:=I.lstM G;have B:¬ (!Builtin.List.listFitsIndex i)=true:=by
  have hs:zaj<=2^40:=by decide
  rw[fitsIndex_both (by lia) (by lia)];decide
 refine zcT F.slot_list_insert ⟨_,e,rfl⟩ F.entry_list_insert (F.args_list_insert_3 _ _ _) (AutoListH.list_insert_list_int_val_1 l its.toArray n i t J B (by rw[zay];lia)) ⟨e,?_⟩;refine⟨.non,_,I.lset (its':=its.take i.toNat++J::its.drop i.toNat) G e ?_ ((u6 _ r).append (.cons r2 (u4 _ r))) ?_,rfl,q⟩
 ·have M:min i.toNat its.length=i.toNat:=by lia
  simp only[zay,if_neg (show ¬ i<0 by lia),M];apply Array.ext';simp;exact zbZ (by simp)
 ·simp only[zbc,zaw,zb7,zd9]
  lia
end My
namespace P
open PySem PySem.Spec PyProof.Rows L2
section
variable {X:Cx}{L:Lp}{O O':List Nat}
def WY(i:Nat)(fk fe:Ev):Sv:=λρ=>(aD i ρ).bind λx=>(fk ρ).bind λk=>(fe ρ).bind λd=>match x,k with
 | .lst l,.int j=>if a7 l.length=true/\0<=j/\j<=(l.length:Int)then some (.nx (ρ.set i (some (.lst (l.take j.toNat++d::l.drop j.toNat)))))else none
 | _,_=>none
theorem BL{o B z:Expr}{i:Nat}{apos cpos pos:Pos}{fk fe:Ev}(ho:PE X o (cZ i))(h1:PD X O B fk)(h2:PD X O z fe)(N:mem O i=true)(hp:PE X (.Call (.Attribute o "insert" apos) [B,z] [] cpos) (Z7 X.K "list" My.EA (cZ i) (vV (tD Rep O fk) (vV (tD Rep O fe) RV))))
  (hs:zaD (.Call (.Attribute o "insert" apos) [B,z] [] cpos) none pos.line X.env=pure false:=by rfl) (h:Sub O' O=true:=by rfl):jA X L O (.Expr (.Call (.Attribute o "insert" apos) [B,z] [] cpos) pos) (WY i fk fe) O':=
 PS.mono (wK hp hs) <| by
  rintro T σ H ⟨H0,A0,A,E,ρ,out,st,e,p⟩;obtain⟨x,ex,e⟩:=bind_some e;obtain⟨k,ek,e⟩:=bind_some e;obtain⟨d,W,e⟩:=bind_some e;cases x with
  | lst l=>
   cases k with
   | int j=>
    by_cases F:a7 l.length=true/\0<=j/\j<=(l.length:Int)
    ·replace e:(if a7 l.length=true/\0<=j/\j<=(l.length:Int)then some (Out.nx (ρ.set i (some (.lst (l.take j.toNat++d::l.drop j.toNat)))))else none)=some out:=e
     rw[if_pos F]at e;cases e;obtain⟨a,B,z,e3,Y⟩:=st.own i _ (bW ex) (gR N);cases Y with
     | lst h4 r4=>
      refine⟨_,B,.inl ⟨rfl,_,SqL.of h4⟩,H0,A0,A,E,ρ,_,st,ek,λv H1 M r1=>⟨H0,A0,A,E,ρ,d,st.mono M,W,λU H2 x2 r2=>?_⟩⟩;have:=RepB.int_inv (.of r1);subst this;have q:=M.trans x2;have G:=q.ow _ _ z h4;refine⟨a,_,j,U,rfl,rfl,G,F.2.1,by rw[r4.length];exact F.2.2,by rw[r4.length];exact iQ F.1,?_⟩;obtain⟨A',J⟩:=((st.mono q).write (o:=.lst _) (bW ex) (gR N) B z e3 G trivial (.lst aG ((((r4.ext q).take j.toNat).append (.cons r2 ((r4.ext q).drop j.toNat))).put z G trivial))).shut (Sub.mem h);exact p A' σ _ J
    ·replace e:(if a7 l.length=true/\0<=j/\j<=(l.length:Int)then some (Out.nx (ρ.set i (some (.lst (l.take j.toNat++d::l.drop j.toNat)))))else none)=some out:=e
     rw[if_neg F]at e;cases e
   | _=>exact nn e
  | _=>exact nn e
end
end P
namespace My
open PySem PySem.Spec PyProof.Rows L2
abbrev NK:=Key×List Key
abbrev Mf:=NK->Option (Int×Int)
section
variable {P:zah}{w:World}{H:Hp}{h:Heap}{a b:Addr}{dom:List NK}{f:Mf}{p:Option NK}
theorem qD{k:NK}(ok:HOk P w H h)(e:H a=some (.tup [kV k.1,.ref b]))(q:H b=some (.tup (k.2.map kV))):(cX (bB P w)).is h k a:=by
 obtain⟨_,its,r,o,h1,h2,n,z⟩:=(show ObjOk P w H h a (.tup [kV k.1,.ref b])from ok a _ e);cases r with
 | cons r1 r=>
  cases r with
  | cons r2 r=>
   cases r;cases(show _=zaq b from r2);exact⟨o,n,_,b,h1,h2,z.1,vR r1,nY ok q⟩
def Ent(H:Hp)(dom:List NK)(f:Mf)(x:NK×Addr×Value):Prop:=x.1∈dom/\(∃b,H x.2.1=some (.tup [kV x.1.1,.ref b])/\H b=some (.tup (x.1.2.map kV)))/\MemV H (f x.1) x.2.2
theorem A4(ok:HOk P w H h)(e:H a=some (.memo dom f p)):(a == za6)=false/\∃xs,(∀x∈xs,Ent H dom f x)/\(∀k,p=some k->∃q,atKey xs k=some q)/\h.DictOfH (cX (bB P w)) a xs:=by
 obtain⟨y,xs,r,G,o,es,ep,h1,h2,M,J,B⟩:=(show ObjOk P w H h a (.memo dom f p)from ok a _ e);refine⟨y,xs,r,G,o,es,ep,h1,h2,M,J,λx hx=>?_,B⟩;obtain⟨_,⟨b,z,F⟩,_⟩:=r x hx;exact qD ok z F
theorem tU{xs:List (NK×Addr×Value)}{k:NK}{q:Addr×Value}(h:atKey xs k=some q):(k,q)∈xs:=by
 unfold atKey at h;obtain⟨x,hx,e⟩:=Option.map_eq_some_iff.mp h;have:=List.mem_of_find?_eq_some hx;have z:x.1=k:=by simpa using List.find?_some hx
 rw[<- z,<- e];exact this
end
def MemW(H:Hp):Option (Int×Int)->V->Prop
 | none,v=>v=.non
 | some p,v=>∃b,v=.ref b/\H b=some (.tup [.int p.1,.int p.2])
theorem MemV.of{H:Hp}{r:Option (Int×Int)}{u:Value}(h:MemV H r u):∃v,RelV v u/\MemW H r v:=by
 cases r with
 | none=>exact⟨.non,h,rfl⟩
 | some p=>obtain⟨b,z,q⟩:=h;exact⟨.ref b,z,b,rfl,q⟩
theorem MemW.to{H:Hp}{r:Option (Int×Int)}{v:V}{u:Value}(h:MemW H r v)(q:RelV v u):MemV H r u:=by
 cases r with
 | none=>cases(show v=.non from h);exact q
 | some p=>obtain⟨b,B,z⟩:=h;subst B;exact⟨b,q,z⟩
def kC(H:Hp)(k:NK)(y:V):Prop:=∃c b,y=.ref c/\H c=some (.tup [kV k.1,.ref b])/\H b=some (.tup (k.2.map kV))
section
variable {X:Cx}{pins:List (Addr×Obj)}{σ:L2.St}{H:Hp}{s:zad}{a:Addr}{y v:V}{u r:Value}{A:zam}{E:Value->zad->Prop}{dom:List NK}{f:Mf}{p:Option NK}{k:NK}
theorem U8(I:Inv X pins σ H s)(e:H a=some (.memo dom f p)):s.TypeIs (.ref a) "dict" := by
 obtain⟨_,_,_,_,o,es,ep,h1,h2,_⟩:=A4 I.hok e;exact⟨o,h1,h2.1⟩
theorem xF(I:Inv X pins σ H s)(e:H a=some (.memo dom f p)){p':Option NK}(h:∀xs:List (NK×Addr×Value),(∀k,p=some k->∃q,atKey xs k=some q)->s.heap.DictOfH (cX (bB X.prog X.w)) a xs->∀k,p'=some k->∃q,atKey xs k=some q){t':Nat}:Inv X pins σ (upd H a (.memo dom f p')) {s with toks:=t'}:=by
 obtain⟨y,xs,r,hp,o,es,ep,h1,h2,h3,h4,h5⟩:=(show ObjOk X.prog X.w H s.heap a (.memo dom f p)from I.hok a _ e);obtain⟨_,B,U,M,N⟩:=A4 I.hok e;have J:∀b ys,H b=some (.tup ys)->upd H a (.memo dom f p') b=some (.tup ys):=λb ys z=>by rw[aE (t4 z e (λq=>nomatch q))];exact z
 obtain⟨o',G,F,g1,g2,g3,W,_,g5⟩:=id N;refine I.write (x:=a) (e:=a) (h':=s.heap) (t':=t') (by rw[e];exact zaY) (.inl rfl) (λ_ _ _ z=>z) ⟨o',g1⟩ ⟨y,B,λx hx=>?_,h B M N,o',G,F,g1,g2,g3,W,g5⟩;obtain⟨d,⟨b,q1,q2⟩,m⟩:=U x hx;refine⟨d,⟨b,J _ _ q1,J _ _ q2⟩,?_⟩;revert m;cases f x.1 with
 | none=>exact id
 | some p=>exact λ⟨c,Y,e2⟩=>⟨c,Y,J _ _ e2⟩
theorem RB{Q:Value->zad->Prop}(hu:A.units+2<cLine)(I:Inv X pins σ H s)(e:H a=some (.memo dom f p))(ky:kC H k y)(ry:RelV y u)(h1:∀s',Inv X pins σ (upd H a (.memo dom f none)) s'->Q (.bool true) s')(h2:∀s',Inv X pins σ (upd H a (.memo dom f (some k))) s'->Q (.bool false) s') :
  wpAny (model X.prog X.w) A (zaA .NotIn u (.ref a)) Q E s:=by
 obtain⟨c,b,rfl,e1,e2⟩:=ky;cases(show u=zaq c from ry);obtain⟨hd,xs,rr,hp,dd⟩:=A4 I.hok e;refine wpAny_notIn_heap (knd:=cX (bB X.prog X.w)) (show A.in1.units+1<cLine from hu) (qD I.hok e1 e2) hd dd ?_;have B:∀ys,s.heap.DictOfH (cX (bB X.prog X.w)) a ys->∀q,atKey xs k=some q->∃q,atKey ys k=some q:=λys J q F=>by
  obtain⟨o,es,ep,g1,g2,g3,g4,g5,g6⟩:=dd;obtain⟨o',aj,an,M,j2,U,j4,j5,j6⟩:=J;rw[g1]at M;cases M;rw[g3]at U;cases U;have he:xs.map (zcf (cX (bB X.prog X.w)))=ys.map (zcf (cX (bB X.prog X.w))):=g4.symm.trans j4;have W:=tU F;obtain⟨i,hi⟩:=List.mem_iff_getElem?.mp W;have N:(ys.map (zcf (cX (bB X.prog X.w))))[i]?=some (zcf (cX (bB X.prog X.w)) (k,q)):=by rw[<- he,zaC,hi];rfl
  rw[zaC]at N;obtain⟨z,Y,ez⟩:=Option.map_eq_some_iff.mp N;have ka:z.2.1=q.1:=by
   have:=congrArg DictEntry.key ez;injection this
  have kk:z.1=k:=(cX (bB X.prog X.w)).inj (h:=s.heap) (a:=q.1) (ka ▸ j5 z (zax Y)) (g5 _ W);exact⟨z.2,atKey_of_get j6 (i:=i) (by rw[Y,<- kk])⟩
 cases F:atKey xs k with
 | none=>exact h1 _ (xF (p':=none) I e λ_ _ _ k G=>by cases G)
 | some q=>exact h2 _ (xF I e λys _ J k' G=>by cases G;exact B ys J q F)
theorem GM{Q:Value->zad->Prop}(Y:A.units+2<cLine)(I:Inv X pins σ H s)(e:H a=some (.memo dom f (some k)))(ky:kC H k y)(F:RelV y u)(h:∀v z s',Inv X pins σ H s'->RelV v z->MemW H (f k) v->Q z s') :
  wpAny (model X.prog X.w) A (zbz (.ref a) u) Q E s:=by
 obtain⟨c,b,rfl,G,W⟩:=ky;cases(show u=zaq c from F);obtain⟨hd,xs,M,hp,U⟩:=A4 I.hok e;obtain⟨q,B⟩:=hp k rfl;refine wpAny_getItem_heap (knd:=cX (bB X.prog X.w)) (show A.in1.units+1<cLine from Y) (qD I.hok G W) U B ?_;obtain⟨_,_,m⟩:=M _ (tU B);obtain⟨v,N,J⟩:=MemV.of m;exact h v _ _ (I.tok _) N J
theorem E9{x:NK}:∀ {l:List NK},x∈l->(l.filter λy=>decide (y≠x)).length<l.length
 | [],h=>nomatch h
 | y::l,h=>by
  by_cases e:y=x
  ·rw[List.filter_cons_of_neg (by simp[e])]
   exact Nat.lt_succ_of_le (zc0 _ _)
  ·rw[List.filter_cons_of_pos (by simp[e]),zaw,zaw]
   exact Nat.succ_lt_succ (E9 ((List.mem_cons.mp h).resolve_left λz=>e z.symm))
theorem few:∀ {xs dom:List NK},xs.Nodup->(∀x∈xs,x∈dom)->xs.length<=dom.length
 | [],_,_,_=>zaI _
 | x::xs,dom,q,h=>by
  have q:=List.nodup_cons.mp q;have i:=few (xs:=xs) (dom:=dom.filter λy=>decide (y≠x)) q.2 λy B=>List.mem_filter.mpr ⟨h y (zap _ B),decide_eq_true λz=>q.1 (by rw[<- z];exact B)⟩
  have:=E9 (h x (zat ..));rw[zaw];lia
theorem G5{Q:Unit->zad->Prop}(hu:A.units+2<cLine)(I:Inv X pins σ H s)(e:H a=some (.memo dom f p))(ky:kC H k y)(hk:k∈dom)(hl:dom.length<zaj)(mv:MemW H (f k) v)(ry:RelV y u)(rv:RelV v r)(h:∀s',Inv X pins σ (upd H a (.memo dom f (some k))) s'->Q () s') :
  wpAny (model X.prog X.w) A (setItem (.ref a) u r) Q E s:=by
 obtain⟨c,b,rfl,F,M⟩:=ky;cases(show u=zaq c from ry);obtain⟨hd,xs,J,hp,dd⟩:=A4 I.hok e;have nd:(xs.map (·.1)).Nodup:=by obtain⟨_,_,_,_,_,_,_,_,z⟩:=dd;exact z
 have B:xs.length<=zaj:=by
  have:=few nd (λx hx=>by obtain⟨y,G,rfl⟩:=List.mem_map.mp hx;exact(J y G).1);rw[zal]at this
  lia
 refine wpAny_setItem_heap (knd:=cX (bB X.prog X.w)) (hsz:=B) (show A.in1.units+1<cLine from hu) (qD I.hok F M) dd λh' W hs=>h _ ?_
 obtain⟨q,es,ep,Y,h2,h3,h4,_,h5⟩:=W;have U:∀b ys,H b=some (.tup ys)->upd H a (.memo dom f (some k)) b=some (.tup ys):=λb ys z=>by rw[aE (t4 z e (λq=>nomatch q))];exact z
 have all:∀x∈storedH xs k c r,Ent H dom f x:=λx hx=>by
  unfold storedH at hx;split at hx
  ·obtain⟨y,G,rfl⟩:=List.mem_map.mp hx
   unfold putAt;split
   ·rename_i _ hyk
    obtain⟨a1,a2,a3⟩:=J y G;exact⟨a1,a2,by rw[hyk];exact mv.to rv⟩
   ·exact J y G
  ·rcases List.mem_append.mp hx with z|z
   ·exact J x z
   ·rw[List.mem_singleton.mp z];exact⟨hk,⟨b,F,M⟩,mv.to rv⟩
 refine nD I (by rw[e];exact zaY) hs ⟨q,Y⟩ ⟨hd,_,λx hx=>?_,λk' N=>?_,q,es,ep,Y,h2,h3,h4,h5⟩
 ·obtain⟨d,⟨b,q1,q2⟩,m⟩:=all x hx
  refine⟨d,⟨b,U _ _ q1,U _ _ q2⟩,?_⟩;revert m;cases f x.1 with
  | none=>exact id
  | some p=>exact λ⟨c,F,M⟩=>⟨c,F,U _ _ M⟩
 ·cases N
  have:∃q,(k,q)∈storedH xs k c r:=by
   unfold storedH;split
   ·rename_i hh
    obtain⟨z,B⟩:=Option.isSome_iff_exists.mp hh;exact⟨(z.1,r),List.mem_map.mpr ⟨(k,z),tU B,by unfold putAt;rw[if_pos rfl]⟩⟩
   ·exact⟨(c,r),zaV _ (List.mem_singleton.mpr rfl)⟩
  obtain⟨z,B⟩:=this;obtain⟨i,hi⟩:=List.mem_iff_getElem?.mp B;exact⟨z,atKey_of_get h5 hi⟩
end
end My
namespace P
open PySem PySem.Spec PyProof.Rows L2 My
def x9(C:Addr)(x:Str):D->Option D
 | .ob C' fs=>if C'=C then fs.lookup x else none
 | _=>none
def dS(C:Addr)(x:Str)(f:Ev):Ev:=λρ=>(f ρ).bind (x9 C x)
theorem qB{A:Av}{H:Hp}{x:Str}:∀ {fs:List (Str×D)} {vs:List (Str×V)} {d:D},vs.map (·.1)=fs.map (·.1)->RepL A H (fs.map (·.2)) (vs.map (·.2))->fs.lookup x=some d->∃v,vs.lookup x=some v/\Rep A H d v
 | [],[],_,_,_,h=>nomatch h
 | [],_::_,_,e,_,_=>nomatch e
 | _::_,[],_,e,_,_=>nomatch e
 | (a,d0)::fs,(b,v0)::vs,d,e,r,h=>by
  injection e with z e2
  have z:b=a:=z;subst z;cases r with
  | cons r1 r2=>
   by_cases q:(x == b)=true
   ·rw[zbW,q]at h
    cases h;exact⟨v0,by rw[zbW,q],r1⟩
   ·rw[zbW,Bool.eq_false_iff.mpr q]at h
    obtain⟨v,B,F⟩:=qB e2 r2 h;exact⟨v,by rw[zbW,Bool.eq_false_iff.mpr q];exact B,F⟩
section
variable {X:Cx}{O:List Nat}
theorem kM{C:Addr}{e:Expr}{x:Str}{f:Ev}{pos:Pos}(c:Cls X.K C)(n:NoAttr X.K C x)(N:PB X O e f)(U:zaO e x X.env (eval e X.env)=eval e X.env:=by rfl):PD X O (.Attribute e x pos) (dS C x f):=
 PE.mono (kB N U) <| by
  rintro σ H Q ⟨H0,A0,A,E,ρ,d,st,e,q⟩;obtain⟨y,G,z⟩:=bind_some e;cases y with
  | ob C' fs=>
   unfold x9 at z;dsimp only at z;split at z
   ·rename_i hC
    subst hC;refine⟨H0,A0,A,E,ρ,_,st,G,λv H1 J r1=>?_⟩;obtain⟨a,dx,vs,rfl,h,F,r⟩:=r1.ob_inv;obtain⟨v,B,M⟩:=qB F r z;exact⟨a,_,dx,vs,v,rfl,h,c,n,B,q v H1 J M⟩
   ·cases z
  | _=>cases z
end
def Q7(ty td:TE):TE:=λσ H Q=>ty σ H λy H1=>td σ H1 λx H2=>∃a dom f p k,x=.ref a/\H2 a=some (.memo dom f p)/\kC H2 k y/\Q (.bl true) (upd H2 a (.memo dom f none))/\Q (.bl false) (upd H2 a (.memo dom f (some k)))
def YM(td ty tv:TE):TS:=λD σ H=>tv σ H λv H1=>td σ H1 λx H2=>ty σ H2 λy q=>∃a dom f p k,x=.ref a/\q a=some (.memo dom f p)/\kC q k y/\k∈dom/\dom.length<zaj/\MemW q (f k) v/\D.nx σ (upd q a (.memo dom f (some k)))
def SX(td ty:TE):TE:=λσ H Q=>td σ H λx H1=>ty σ H1 λy H2=>∃a dom f k,x=.ref a/\H2 a=some (.memo dom f (some k))/\kC H2 k y/\∀v,MemW H2 (f k) v->Q v (upd H2 a (.memo dom f none))
section
variable {X:Cx}{o i e value:Expr}{pos pos' tpos:Pos}{td ty tv:TE}
theorem II(Y:X.A.units+2<cLine)(hi:PE X i ty)(W:PE X o td):PC X .NotIn i o (Q7 ty td):=by
 intro pins s σ H Q I h;refine cS (hi pins s σ H _ I h) λiv G ⟨y,H1,M,z,J⟩=>cS (W pins G σ H1 _ M J) λu s2 ⟨x,H2,B,U,a,dom,f,p,k,ex,g,ky,F,qb⟩=>?_
 subst ex;obtain rfl:u=zaq a:=U;exact RB Y B g ky z (λN q=>⟨.bl true,_,q,rfl,F⟩) λN q=>⟨.bl false,_,q,rfl,qb⟩
theorem PJ(hu:X.A.units+2<cLine)(ho:PE X o td)(hi:PE X i ty)(q:PE X value tv)(hs:zaD value (some (.Subscript o i pos')) pos.line X.env=pure false) :
  PS X (.Assign [.Subscript o i pos'] value pos) (YM td ty tv):=by
 intro pins s σ H D I h;refine wpAny_Assign_Subscript (cS (q pins s σ H _ I h) λr W ⟨v,H1,Y,rv,z⟩=>cS (ho pins W σ H1 _ Y z) λu U ⟨x,H2,I2,rx,q2⟩=>cS (hi pins U σ H2 _ I2 q2) λiv s3 ⟨y,H3,B,ry,a,dom,f,p,k,ex,g,M,kd,F,G,N⟩=>?_) hs;subst ex;obtain rfl:u=zaq a:=rx;exact G5 hu B g M kd F G ry rv λs4 J=>⟨σ,_,J,N⟩
theorem P8(hu:X.A.units+2<cLine)(ho:PE X o td)(hi:PE X i ty)(hs:IU i):PE X (.Subscript o i pos) (SX td ty):=by
 intro pins s σ H Q I h;refine ES PySem.F.slot_dict_getitem.lookup hs (cS (ho pins s σ H _ I h) λu U ⟨x,H1,W,Y,M⟩=>cS (hi pins U σ H1 _ W M) λiv s2 ⟨y,H2,z,B,a,dom,f,k,ex,g,ky,q2⟩=>?_);subst ex;obtain rfl:u=zaq a:=Y;exact⟨U8 z g,GM hu z g ky B λv w' N I3 q J=>⟨v,_,xF (p':=none) (t':=N.toks) I3 g (λ_ _ _ k G=>by cases G),q,q2 v J⟩⟩
end
noncomputable def intsOf:List D->Option (List Int)
 | []=>some []
 | .int i::l=>(intsOf l).map (i::·)
 | _=>none
def qp:D->Option NK
 | .tup [.int i,.tup l]=>(intsOf l).map λns=>(.inl i,ns.map .inl)
 | _=>none
noncomputable def memD:Option (Int×Int)->D
 | none=>.non
 | some p=>.tup [.int p.1,.int p.2]
open Classical in
def SD(C:Addr)(nz kz tz:Nat)(f1 f2:Sv):Sv:=λρ=>(aD nz ρ).bind λnd=>(x9 C "found" nd).bind λm=>match m with
 | .mem dom f=>(aD kz ρ).bind λkd=>(qp kd).bind λk=>(f1 ρ).bind λo=>match o with
  | .nx ρ1=>(f2 ρ1).bind λo=>match o with
   | .nx ρ2=>(aD tz ρ2).bind λt=>if k∈dom/\dom.length<zaj/\t=memD (f k)/\ρ2[nz]?=ρ[nz]?/\ρ2[kz]?=ρ[kz]? then some (.rt t)else none
   | _=>none
  | _=>none
 | _=>none
theorem ints_rep{A:Av}{H:Hp}:∀ {l:List D} {vs:List V} {ns:List Int},intsOf l=some ns->RepL A H l vs->vs=(ns.map zbs:List Key).map kV
 | [],vs,ns,h,r=>by cases h;cases r;rfl
 | .int i::l,vs,ns,h,r=>by
  obtain⟨ms,e,rfl⟩:=map_some (show(intsOf l).map (i::·)=some ns from h);cases r with
  | cons r1 r2=>cases r1;rw[ints_rep e r2];rfl
theorem PU(h:qp d=some k)(r:Rep A H d v):kC H k v:=by
 unfold qp at h;split at h
 ·rename_i i l
  obtain⟨ns,e,rfl⟩:=map_some h;cases r with
  | tup h1 r1=>
   cases r1 with
   | cons a1 r1=>
    cases a1;cases r1 with
    | cons a2 r1=>
     cases r1;cases a2 with
     | tup h2 r2=>exact⟨_,_,rfl,h1,by rw[h2,ints_rep e r2]⟩
 ·cases h
theorem RI{A:Av}{H:Hp}{r:Option (Int×Int)}{v:V}(h:Rep A H (memD r) v):MemW H r v:=by
 cases r with
 | none=>cases h;rfl
 | some p=>
  cases h with
  | tup h1 r1=>
   cases r1 with
   | cons a1 r1=>
    cases a1;cases r1 with
    | cons a2 r1=>cases a2;cases r1;exact⟨_,rfl,h1⟩
theorem N1{A:Av}{H:Hp}{r:Option (Int×Int)}{v:V}(h:MemW H r v):Rep A H (memD r) v:=by
 cases r with
 | none=>cases(show v=.non from h);exact .non
 | some p=>obtain⟨b,rfl,e⟩:=h;exact .tup e (.cons (.int _) (.cons (.int _) .nil))
theorem MM{H:Hp}{a:Addr}{o:HO}(h:H a=some o):upd H a o=H:=by
 funext b;unfold upd;split
 ·rename_i q;rw[q,h]
 ·rfl
theorem UN{H:Hp}{a:Addr}{o o':HO}{k:NK}{v:V}(h:kC H k v)(e:H a=some o)(n:∀xs,o≠.tup xs):kC (upd H a o') k v:=by
 obtain⟨c,b,rfl,B,q⟩:=h;exact⟨c,b,rfl,by rw[aE (t4 B e (λz=>n _ z.symm))];exact B,by rw[aE (t4 q e (λz=>n _ z.symm))];exact q⟩
section
variable {X:Cx}{L:Lp}{O':List Nat}
theorem JV{C:Addr}(G J tz:Nat){Y n2 n3 k1 k2 k3 te:Expr}{M B:Stmt}{f1 f2:Sv}{p1 p2 p3 p4 p5 p6 p7 p8 p9:Pos}(c:Cls X.K C)(n:NoAttr X.K C "found")(hu:X.A.units+2<cLine)(h1:jA X ⟨[],[]⟩ [] M f1 [])(h2:jA X ⟨[],[]⟩ [] B f2 [])
  (ax:PE X Y (cZ G)) (az:PE X n2 (cZ G)) (aw:PE X n3 (cZ G)) (al:PE X k1 (cZ J)) (a2:PE X k2 (cZ J)) (an:PE X k3 (cZ J)) (ht:PE X te (cZ tz)) (hs:IU k3)
  (b1:zaO Y "found" X.env (eval Y X.env)=eval Y X.env:=by rfl) (b2:zaO n2 "found" X.env (eval n2 X.env)=eval n2 X.env:=by rfl) (b3:zaO n3 "found" X.env (eval n3 X.env)=eval n3 X.env:=by rfl)
  (hm:zbQ .NotIn (.Attribute Y "found" p1)=false:=by rfl) (hw:zaD te (some (.Subscript (.Attribute n2 "found" p2) k2 p3)) p4.line X.env=pure false:=by rfl) :
  eB X L [] [.If (.Compare k1 [.NotIn] [.Attribute Y "found" p1] p5) [M,B,.Assign [.Subscript (.Attribute n2 "found" p2) k2 p3] te p4] [] p6,.Return (some (.Subscript (.Attribute n3 "found" p7) k3 p8)) p9] (SD C G J tz f1 f2) O':=
 PSs.mono (dN (SE (T2 (II hu al (kB ax b1)) hm) (dN h1 (dN h2 (iS (PJ hu (kB az b2) a2 ht hw)))) ER) (iS (MI (P8 hu (kB aw b3) an hs)))) <| by
  rintro T σ H ⟨H0,A0,A,E,ρ,out,st,e,ae⟩;obtain⟨nd,en,e⟩:=bind_some e;obtain⟨m,em,e⟩:=bind_some e;cases m with
  | mem dom f=>
   obtain⟨kd,ek,e⟩:=bind_some e;obtain⟨k,kk,e⟩:=bind_some e;obtain⟨o1,a0,e⟩:=bind_some e;cases o1 with
   | nx ρ1=>
    obtain⟨o2,a3,e⟩:=bind_some e;cases o2 with
    | nx ρ2=>
     obtain⟨t,et,e⟩:=bind_some e;split at e
     ·rename_i hh
      obtain⟨hd,hl,tm,r1,r2⟩:=hh;cases e;subst tm;cases nd with
      | ob C' fs=>
       unfold x9 at em;dsimp only at em;split at em
       ·rename_i hC
        subst hC
        -- what is true wherever the node and the key stand
        have N:∀ {A:Av} {σ:L2.St} {H:Hp} {ρ':cU},ST H0 A0 A E [] σ H ρ'->ρ'[G]?=ρ[G]?->ρ'[J]?=ρ[J]?->∃a dx vs q F,σ[G]?=some (some (.ref a))/\σ[J]?=some (some F)/\H a=some (.ins C' dx vs)/\vs.lookup ("found" : Str)=some (V.ref q)/\H q=some (.memo dom f none)/\kC H k F:=λ{A σ H ρ'} st q1 q2=>by
         obtain⟨v,ev,rv⟩:=st.val G _ (q1.trans (bW en)) (λz=>nomatch z);obtain⟨F,am,rk⟩:=st.val J _ (q2.trans (bW ek)) (λz=>nomatch z);obtain⟨a,dx,vs,rfl,h,a6,r⟩:=RepB.ob_inv (.of rv);obtain⟨w,hw,ay⟩:=qB a6 r em;obtain⟨q,rfl,ao⟩:=RepB.mem_inv (.of ay);exact⟨a,dx,vs,q,F,ev,am,h,hw,ao,PU kk rk⟩
        have U:∀ {A:Av} {σ:L2.St} {H:Hp} {ρ':cU},ST H0 A0 A E [] σ H ρ'->∀ {a dx:Addr} {vs:List (Str×V)} {q:Addr} {F:V},σ[G]?=some (some (.ref a))->σ[J]?=some (some F)->H a=some (.ins C' dx vs)->vs.lookup ("found" : Str)=some (V.ref q)->H q=some (.memo dom f none)->kC H k F->ZK (SX (ZD X.K (cZ G) "found") (cZ J)) T σ (upd H q (.memo dom f (some k))):=λ{A σ H ρ'} st {a dx vs q F} e1 e2 e3 e4 W e6=>by
         refine⟨_,e1,a,C',dx,vs,_,rfl,by rw[aE (t4 e3 W (λz=>nomatch z))];exact e3,c,n,e4,F,e2,q,dom,f,k,rfl,aG,UN e6 W (λ_ z=>nomatch z),λv mw=>?_⟩;rw[Q5,MM W];have aq:MemW H (f k) v:=by
          revert mw;cases f k with
          | none=>exact id
          | some p=>exact λ⟨b,q1,q2⟩=>⟨b,q1,by
            by_cases z:b=q
            ·subst z;rw[aG]at q2;cases q2
            ·rw[aE z]at q2;exact q2⟩
         exact ae v H st.ex (N1 aq)
        obtain⟨a,dx,vs,q,F,e1,e2,e3,e4,W,e6⟩:=N st rfl rfl;refine⟨F,e2,_,e1,a,C',dx,vs,_,rfl,e3,c,n,e4,q,dom,f,none,k,rfl,W,e6,⟨true,rfl,?_⟩,⟨false,rfl,?_⟩⟩
        ·rw[MM W]
         dsimp only;rw[if_pos rfl];refine⟨H0,A0,A,E,ρ,_,st,a0,λA1 bm H1 M=>⟨H0,A0,A1,E,ρ1,_,M,a3,λA2 bp H2 B=>?_⟩⟩;obtain⟨tv,a4,rt⟩:=B.val tz _ (bW et) (λz=>nomatch z);obtain⟨a',a1,au,ar,as,g1,g2,g3,g4,g5,g6⟩:=N B r1 r2;exact⟨tv,a4,_,g1,a',C',a1,au,_,rfl,g3,c,n,g4,as,g2,ar,dom,f,none,k,rfl,g5,g6,hd,hl,RI rt,U B g1 g2 g3 g4 g5 g6⟩
        ·dsimp only
         rw[if_neg zaB];exact U st e1 e2 e3 e4 W e6
       ·cases em
      | _=>cases em
     ·cases e
    | _=>exact nn e
   | _=>exact nn e
  | _=>exact nn e
end
structure Exx(x:Addr)(A:Av)(H H':Hp):Prop where
 rd:∀b u,b≠x->Rd H b u->Rd H' b u
 kp:∀b u,b≠x->Kp u->H b=some u->H' b=some u
 ow:∀b u,b≠x->A b->H b=some u->H' b=some u
 fz:∀b o u,b≠x->H b=some (.frz o u)->H' b=some (.frz o u)
section
variable {x:Addr}{A A':Av}{H H' H2:Hp}
theorem Exx.trans(a:Exx x A H H')(b:Exx x A H' H2):Exx x A H H2:=
 ⟨λc u n h=>b.rd c u n (a.rd c u n h),λc u n k h=>b.kp c u n k (a.kp c u n k h),λc u n k h=>b.ow c u n k (a.ow c u n k h),λc o u n h=>b.fz c o u n (a.fz c o u n h)⟩
theorem Exx.of(a:Ext A H H'):Exx x A H H':=⟨λc u _ h=>a.rd c u h,λc u _ k h=>a.kp c u k h,λc u _ k h=>a.ow c u k h,λc o u _ h=>a.fz c o u h⟩
theorem Exx.put{o:HO}:Exx x A H (upd H x o):=⟨λb u n h=>eP n h,λb u n _ h=>by rw[aE n];exact h,λb u n _ h=>by rw[aE n];exact h,λb o u n h=>by rw[aE n];exact h⟩
theorem Exx.ext(a:Exx x A H H')(n:H x=none):Ext A H H':=
 have q:∀b,H b≠none->b≠x:=λb B z=>B (by rw[z];exact n)
 ⟨λb u r => a.rd b u (q b (by rcases r with r|⟨_, r⟩ <;> (rw[r];exact λz => nomatch z))) r, λb u k r => a.kp b u (q b (by rw[r];exact λz => nomatch z)) k r,
  λb u k r=>a.ow b u (q b (by rw[r];exact λz=>nomatch z)) k r,λb o u r=>a.fz b o u (q b (by rw[r];exact λz=>nomatch z)) r⟩
theorem Exx.mono(a:Exx x A H H')(s:∀b,A' b->A b):Exx x A' H H':=⟨a.rd,a.kp,λb u n k h=>a.ow b u n (s b k) h,a.fz⟩
mutual
/-- an object that is under way is written -/
theorem Rep.putI{a C dx:Addr}{fs:List (Str×V)}{o:HO}(q:A a)(B:H a=some (.ins C dx fs)){d:D}{v:V}:Rep A H d v->Rep A (upd H a o) d v
 | .non=>.non
 | .bl b=>.bl b
 | .int i=>.int i
 | .str s=>.str s
 | .tup (a:=b) h r=>.tup (by rw[aE (λz=>by subst z;rw[B]at h;cases h)];exact h) (RepL.putI q B r)
 | .lst (a:=b) n h r=>.lst n (eP (λz=>n (by rw[z];exact q)) h) (RepL.putI q B r)
 | .dK (a:=b) n h e r=>.dK n (eP (λz=>n (by rw[z];exact q)) h) e (RepL.putI q B r)
 | .dT (a:=b) n h e r=>.dT n (eP (λz=>n (by rw[z];exact q)) h) e (RepL.putI q B r)
 | .ob (a:=b) n h e r=>.ob n (by rw[aE (λz=>n (by rw[z];exact q))];exact h) e (RepL.putI q B r)
 | .mem (a:=b) h=>.mem (by rw[aE (λz=>by subst z;rw[B]at h;cases h)];exact h)
theorem RepL.putI{a C dx:Addr}{fs:List (Str×V)}{o:HO}(z:A a)(q:H a=some (.ins C dx fs)){ds:List D}{vs:List V}:RepL A H ds vs->RepL A (upd H a o) ds vs
 | .nil=>.nil
 | .cons h t=>.cons (Rep.putI z q h) (RepL.putI z q t)
end
end
structure IO(K:zae)(H0:Hp)(A:Av)(x C dx:Addr)(ds:List (Str×D))(σ:L2.St)(H:Hp)(ρ:cU):Prop where
 cls:Cls K C
 ax:A x
 live:Live A H
 hx:∃fs:List (Str×V),H x=some (.ins C dx fs)/\fs.map (·.1)=ds.map (·.1)/\RepL A H (ds.map (·.2)) (fs.map (·.2))
 s0:σ[0]?=some (some (.ref x))
 len:σ.length=ρ.length
 val:∀(i:Nat) (d:D),ρ[i]?=some (some d)->∃v,σ[i]?=some (some v)/\Rep A H d v
 ke:Exx x A H0 H
section
variable {K:zae}{H0:Hp}{A:Av}{x C dx:Addr}{ds:List (Str×D)}{σ:L2.St}{H H':Hp}{ρ:cU}
theorem IO.st(s:IO K H0 A x C dx ds σ H ρ):ST H A A [] [] σ H ρ:=
 ⟨Ext.refl _ _,λ_ z=>z,s.live,s.live,s.len,λi d h _=>s.val i d h,(λj d _ h=>nomatch h),(λj k d d' a h=>nomatch h),(λq B=>nomatch B)⟩
theorem IO.ext(s:IO K H0 A x C dx ds σ H ρ)(e:Ext A H H'):IO K H0 A x C dx ds σ H' ρ:=
 ⟨s.cls,s.ax,(s.st.mono e).live,by obtain⟨fs,h,m,r⟩:=s.hx;exact⟨fs,e.ow _ _ s.ax h,m,r.ext e⟩,s.s0,s.len,λi d h=>(s.st.mono e).val i d h (λz=>nomatch z),s.ke.trans (.of e)⟩
theorem sA{f:Str}{v:V}:∀ {fs:List (Str×V)},f∉fs.map (·.1)->i4 f v fs=fs++[(f,v)]
 | [],_=>rfl
 | (g,y)::fs,h=>by
  have h1:¬ g=f:=λz=>h (by rw[zak,z];exact zat ..)
  have h2:f∉fs.map (·.1):=λz=>h (zap _ z)
  rw[i4,if_neg h1,sA h2];rfl
theorem RepL.snoc{A:Av}{H:Hp}{ds:List D}{vs:List V}{d:D}{v:V}(r:RepL A H ds vs)(h:Rep A H d v):RepL A H (ds++[d]) (vs++[v]):=r.append (.cons h .nil)
theorem IO.put(s:IO K H0 A x C dx ds σ H ρ){f:Str}{d:D}{v:V}(B:f∉ds.map (·.1))(r:Rep A H d v):∃fs,H x=some (.ins C dx fs)/\fs.length=ds.length/\IO K H0 A x C dx (ds++[(f,d)]) σ (upd H x (.ins C dx (i4 f v fs))) ρ:=by
 obtain⟨fs,h,m,F⟩:=s.hx;refine⟨fs,h,by have:=congrArg zbo m;simpa using this,s.cls,s.ax,λa G z=>?_,⟨_,aG,?_,?_⟩,s.s0,s.len,λi d h'=>?_,s.ke.trans .put⟩
 ·by_cases q:a=x
  ·subst q;rw[aG]at z;cases z
  ·rw[aE q]at z;exact s.live a G z
 ·rw[sA (by rw[m];exact B),zaJ,zaJ,m];rfl
 ·rw[sA (by rw[m];exact B),zaJ,zaJ]
  exact RepL.putI s.ax h (F.snoc r)
 ·obtain⟨v,e,q⟩:=s.val i d h'
  exact⟨v,e,q.putI s.ax h⟩
end
inductive tIO(K:zae)(f:Str)(fe:Ev)(T:Ends)(σ:L2.St)(H:Hp):Prop
 | mk (H0:Hp) (A:Av) (x C dx:Addr) (ds:List (Str×D)) (ρ:cU) (d:D) (st:IO K H0 A x C dx ds σ H ρ) (e:fe ρ=some d) (nf:NoAttr K C f) (lf:ds.length<1000) (hf:f∉ds.map (·.1))
  (n:∀H',IO K H0 A x C dx (ds++[(f,d)]) σ H' ρ->T.nx σ H'):tIO K f fe T σ H
inductive tIC(K:zae)(f h:Str)(F:List D->Option D)(fe:Ev)(T:Ends)(σ:L2.St)(H:Hp):Prop
 | mk (H0:Hp) (A:Av) (x C dx:Addr) (ds:List (Str×D)) (ρ:cU) (d1 d2 d:D) (st:IO K H0 A x C dx ds σ H ρ) (e1:fe ρ=some d1) (e2:ds.lookup h=some d2) (e:F [d1,d2]=some d) (nf:NoAttr K C f) (nh:NoAttr K C h) (lf:ds.length<1000) (hf:f∉ds.map (·.1))
  (n:∀H',IO K H0 A x C dx (ds++[(f,d)]) σ H' ρ->T.nx σ H'):tIC K f h F fe T σ H
inductive tIM(K:zae)(f:Str)(dom:List NK)(g:Mf)(T:Ends)(σ:L2.St)(H:Hp):Prop
 | mk (H0:Hp) (A:Av) (x C dx:Addr) (ds:List (Str×D)) (ρ:cU) (st:IO K H0 A x C dx ds σ H ρ) (nf:NoAttr K C f) (lf:ds.length<1000) (hf:f∉ds.map (·.1))
  (n:∀H',IO K H0 A x C dx (ds++[(f,.mem dom g)]) σ H' ρ->T.nx σ H'):tIM K f dom g T σ H
def XY(dom:List NK)(g:Mf):TE:=λ_ H Q=>∀p,H p=none->Q (.ref p) (upd H p (.memo dom g none))
section
variable {X:Cx}
theorem QS{dom:List NK}{g:Mf}{pos:Pos}:PE X (.Dict [] [] pos) (XY dom g):=λpins s σ H Q I h=>
 wpAny_Dict_empty ⟨.ref s.heap.objs.size,_,I.laid (a:=s.heap.objs.size) (o:=.memo dom g none) (t':=s.toks) (λ_ _ q=>zan _ q) (zai _)
  ⟨beq_eq_false_iff_ne.mpr (zaU (zaF I.big)),[],(λ_ z=>nomatch z),(λ_ z=>nomatch z),_,#[],0,zaE _ rfl,⟨rfl,rfl,rfl⟩,rfl,rfl,List.nodup_nil⟩,rfl,h _ (I.hok.fresh (zai _))⟩
theorem CY{o e:Expr}{f:Str}{fe:Ev}{pos pos':Pos}(F:PE X o (cZ 0))(G:PD X [] e fe)(hs:zaD e (some (.Attribute o f pos')) pos.line X.env=pure false:=by rfl):PS X (.Assign [.Attribute o f pos'] e pos) (tIO X.K f fe):=
 PS.mono (sY F G hs) λT σ H ⟨H0,A,x,C,dx,ds,ρ,d,st,e,nf,J,B,n⟩=>
  ⟨H, A, A, [], ρ, d, st.st, e, λv H1 z r1 => by
   obtain⟨fs,h,M,q⟩:=(st.ext z).put B r1;exact⟨_,st.s0,x,C,dx,fs,rfl,h,st.cls,nf,by lia,n _ q⟩⟩
theorem P2{o:Expr}{f:Str}{dom:List NK}{g:Mf}{pos pos' p:Pos}(F:PE X o (cZ 0))(hs:zaD (.Dict [] [] p) (some (.Attribute o f pos')) pos.line X.env=pure false:=by rfl):PS X (.Assign [.Attribute o f pos'] (.Dict [] [] p) pos) (tIM X.K f dom g):=
 PS.mono (sY F (QS (dom:=dom) (g:=g)) hs) <| by
  rintro T σ H ⟨H0,A,x,C,dx,ds,ρ,st,nf,J,B,n⟩ q G;obtain⟨fs,h,M,z⟩:=(st.ext (Ext.new (o:=.memo dom g none) G)).put B (.mem (aG (H:=H) (a:=q)));exact⟨_,st.s0,x,C,dx,fs,rfl,h,st.cls,nf,by lia,n _ z⟩
theorem RK{o o2 e:Expr}{f h g:Str}{k:Nat}{ps:List Str}{F:List D->Option D}{fe:Ev}{pos pos' p p2 cpos:Pos}(FF:Fn X.prog X.w X.K X.mg X.base g k ps F)(hp:ps.length=2)(hr:Room k X.A)(hg:Gl X g)(ho:PE X o (cZ 0))(M:PE X o2 (cZ 0))(Y:PD X [] e fe)
  (hb:zaO o2 h X.env (eval o2 X.env)=eval o2 X.env:=by rfl) (B:(g == ("__debug__" : Str))=false:=by decide) (h1:zag [e,.Attribute o2 h p2] X.env=(false,eval e X.env)::zag [.Attribute o2 h p2] X.env:=by rfl) (h2:(zaG cpos (zag [.Attribute o2 h p2] X.env)).any (·.1)=false:=by rfl) (h3:zag [.Attribute o2 h p2] X.env=(false,eval (.Attribute o2 h p2) X.env)::zag [] X.env:=by rfl)
  (hs:zaD (.Call (.Name g p) [e,.Attribute o2 h p2] [] cpos) (some (.Attribute o f pos')) pos.line X.env=pure false:=by rfl):PS X (.Assign [.Attribute o f pos'] (.Call (.Name g p) [e,.Attribute o2 h p2] [] cpos) pos) (tIC X.K f h F fe):=by
 obtain⟨fa,fd,hk,G,hm,W⟩:=My.Ok.ex FF;refine PS.mono (sY ho (wQ W hr hg hm hk G .nil F6 (cT Y (cT (kB M hb) fM h3) h1) B h1 h2) hs) λT σ H ⟨H0,A,x,C,dx,ds,ρ,N,d2,d,st,e1,e2,e,nf,nh,lf,hf,n⟩=>?_
 refine⟨H,A,A,[],ρ,N,st.st,e1,λv H1 x1 r1=>?_⟩;have q:=st.ext x1;obtain⟨fs,hx,m,rr⟩:=q.hx;obtain⟨U,z,J⟩:=qB m rr e2;refine⟨_,q.s0,x,C,dx,fs,U,rfl,hx,q.cls,nh,z,?_⟩;refine⟨A,[N,d2],d,q.live,.cons r1 (.cons J .nil),hp.symm,e,λv3 H3 x3 r3=>?_⟩;obtain⟨fs',h',hl,s2⟩:=(q.ext x3).put hf r3;exact⟨_,q.s0,x,C,dx,fs',rfl,h',q.cls,nf,by lia,n _ s2⟩
end
def XC(C:Addr)(G:D->D->Option D):Sp:=λvs H Q _=>∃(A:Av) (H1:Hp) (x dx:Addr) (v:V) (b d0 d:D),vs=[.ref x,v]/\H=upd (upd H1 dx (.own x)) x (.ins C dx [])/\H1 x=none/\H1 dx=none/\dx≠x/\Live A H1/\Rep A H1 d0 v/\G b d0=some d/\∀H2,Ext A H1 H2->Rep A H2 d (.ref x)->Q .non H2
structure MkO(P:zah)(w:World)(K:zae)(mg:Str->Option Value)(base:Heap)(k:Nat)(x:Str)(C:Addr)(p:Str)(G:D->D->Option D):Prop where
 ex:∃f fd,mg x=some (.ref C)/\Mk K C f/\Binds K fd ["self",p] []/\FnOk P w K mg base uL k f fd ["self",p] (XC C G)
def eNew(G:D->D->Option D)(β f:Ev):Ev:=λρ=>(β ρ).bind λb=>(f ρ).bind (G b)
section
variable {X:Cx}{O:List Nat}
theorem tG{k:Nat}{x p:Str}{C:Addr}{G:D->D->Option D}{β:Ev}{e:Expr}{fe:Ev}{U pos:Pos}(M:MkO X.prog X.w X.K X.mg X.base k x C p G)(J:Room (k+1) X.A)(hg:Gl X x)(he:PD X O e fe)(z:(x == ("__debug__" : Str))=false:=by decide)
  (h1:zag [e] X.env=(false,eval e X.env)::zag [] X.env:=by rfl) (h2:(zaG pos (zag [] X.env)).any (·.1)=false:=by rfl):PD X O (.Call (.Name x U) [e] [] pos) (eNew G β fe):=by
 obtain⟨f,fd,Y,mk,hb,N⟩:=M.ex;refine PE.mono (RH mk N J hg Y hb .nil F6 (cT he fM h1) z h1 h2) λσ H Q ⟨H0,A0,A,E,ρ,d,st,e,q⟩=>?_
 obtain⟨b,eb,e⟩:=bind_some e;obtain⟨F,e0,W⟩:=bind_some e;refine⟨H0,A0,A,E,ρ,F,st,e0,λv H1 B r1=>λxa dx n1 n2 ne=>?_⟩;exact⟨A,H1,xa,dx,v,b,F,d,rfl,rfl,n1,n2,ne,(st.mono B).live,r1,W,λH2 x2 r2=>⟨rfl,q _ H2 (B.trans x2) r2⟩⟩
end
structure ObT(K:zae)(mg:Str->Option Value)(x q p:Str)(st:Stmt)(C:Addr)(fs:List Str):Prop where
 cls:Cls K C
 na:∀a∈fs,NoAttr K C a
 ex:∃f fd,mg x=some (.ref C)/\Mk K C f/\Binds K fd ["self",p] []/\Fun K "__init__" q st f fd
section
variable {P:zah}{w:World}{K:zae}{mg:Str->Option Value}{base:Heap}
theorem ObT.mko{x q p:Str}{st:Stmt}{C:Addr}{fs N:List Str}{k:Nat}{G:D->D->Option D}(T:ObT K mg x q p st C fs)(S:FnScope N ["self",p] (aL st))
  (h:∀(fa:Addr) (B:Value) (A:zam) (z:List Env) (s:zad) (H:Hp) (E:XK),Room k (A.deeper (zaN q (aL st) s.heap.objs.size fa B))->∀(vs:List V) (Q:VK),XC C G vs H Q E->∃t,PSs (i7 uL P w K mg base N q (aL st) fa B A z s H E).nox (bU st) t/\t {nx:=λ_ H'=>Q .non H',rt:=Q} (start N vs) H) :
  MkO P w K mg base (k+1) x C p G:=by
 obtain⟨f,fd,U,M,W,F⟩:=T.ex;exact⟨f,fd,U,M,W,F.ok S (λvs H Q E hsp=>by obtain⟨_,_,_,_,_,_,_,_,rfl,_⟩:=hsp;rfl) λB A z s H vs Q E J hsp=>h f B A z s H E J vs Q hsp⟩
end
theorem IO.begun{K:zae}{C x dx:Addr}{A:Av}{H1:Hp}{v:V}{F:D}(cls:Cls K C)(J:H1 x=none)(N:H1 dx=none)(ne:dx≠x)(Y:Live A H1)(r:Rep A H1 F v)(m:List (Option V))(hm:∀o∈m,o=none):IO K H1 (λb=>A b\/b=x) x C dx [] (some (.ref x)::some v::m) (upd (upd H1 dx (.own x)) x (.ins C dx [])) (none::some F::m.map λ_=>none):=by
 have nx:upd H1 dx (.own x) x=none:=by rw[aE ne.symm];exact J
 have M:Ext (λb=>A b\/b=x) H1 (upd (upd H1 dx (.own x)) x (.ins C dx [])):=(Ext.new N).trans (Ext.new nx);have U:Rep (λb=>A b\/b=x) (upd (upd H1 dx (.own x)) x (.ins C dx [])) F v:=(r.av (A':=λb=>A b\/b=x) λa B=>B.imp id λz=>by rw[z];exact J).ext M;refine⟨cls,.inr rfl,λa B z=>?_,⟨[],aG,rfl,.nil⟩,rfl,by simp,λi d h=>?_,.of M⟩
 ·rcases B with B|rfl
  ·have G:=Y a B
   have a1:a≠x:=λq=>G (by rw[q];exact J)
   have W:a≠dx:=λq=>G (by rw[q];exact N)
   rw[aE a1,aE W]at z;exact G z
  ·rw[aG]at z;cases z
 ·match i,h with
  | 1,h=>cases h;exact⟨v,rfl,U⟩
  | i+2,h=>
   have:(m.map λ_=>(none:Option D))[i]?=some (some d):=h;rw[zaC]at this;obtain⟨_,_,q⟩:=Option.map_eq_some_iff.mp this;cases q
theorem IO.done{K:zae}{C x dx:Addr}{A:Av}{H1 H2:Hp}{ds:List (Str×D)}{σ:L2.St}{ρ:cU}(s:IO K H1 (λb=>A b\/b=x) x C dx ds σ H2 ρ)(B:H1 x=none)(F:Live A H1):Ext A H1 H2/\Rep A H2 (.ob C ds) (.ref x):=by
 refine⟨(s.ke.ext B).mono λa q=>.inl q,?_⟩;obtain⟨fs,h,m,r⟩:=s.hx;exact .ob (λz=>F x z B) h m (r.av λa q=>.inl (.inl q))
def FW(C:Addr)(fb:Ev)(B:List D->Option D)(z:D->List NK)(ff:D->Mf)(q:D):Option D:=(fb [none,some q]).bind λb=>(B [q,b]).bind λns=>some (.ob C [("part",q),("below",b),("names",ns),("found",.mem (z q) (ff q))])
section
variable {X:Cx}
theorem GY{C:Addr}{k:Nat}{gp:List Str}{o1 o2 o3 F U e1 e2 N:Expr}{g:Str}{fb:D->Ev}{Nm:List D->Option D}{dm:D->D->List NK}{ff:D->D->Mf}{a1 a2 a3 a4 p1 p2 p3 p4 q2 G c3 d4:Pos}(cls:Cls X.K C)(J:∀a∈(["part", "below", "names", "found"]:List Str),NoAttr X.K C a)(FF:Fn X.prog X.w X.K X.mg X.base g k gp Nm)(hp:gp.length=2)(hr:Room k X.A)(hg:Gl X g)
  (ah:PE X o1 (cZ 0)) (aj:PE X o2 (cZ 0)) (Y:PE X o3 (cZ 0)) (af:PE X F (cZ 0)) (W:PE X U (cZ 0)) (al:PD X [] e1 (aD 1)) (ae:∀b,PD X [] e2 (fb b)) (ac:PD X [] N (aD 1))
  (hb:zaO F "below" X.env (eval F X.env)=eval F X.env:=by rfl) (aa:(g == ("__debug__" : Str))=false:=by decide) (h1:zag [N,.Attribute F "below" G] X.env=(false,eval N X.env)::zag [.Attribute F "below" G] X.env:=by rfl) (h2:(zaG c3 (zag [.Attribute F "below" G] X.env)).any (·.1)=false:=by rfl) (h3:zag [.Attribute F "below" G] X.env=(false,eval (.Attribute F "below" G) X.env)::zag [] X.env:=by rfl)
  (s1:zaD e1 (some (.Attribute o1 "part" a1)) p1.line X.env=pure false:=by rfl) (s2:zaD e2 (some (.Attribute o2 "below" a2)) p2.line X.env=pure false:=by rfl) (s3:zaD (.Call (.Name g q2) [N,.Attribute F "below" G] [] c3) (some (.Attribute o3 "names" a3)) p3.line X.env=pure false:=by rfl) (s4:zaD (.Dict [] [] d4) (some (.Attribute U "found" a4)) p4.line X.env=pure false:=by rfl)
  {vs:List V} {H:Hp} {Q:VK} {E:XK} (hsp:XC C (λb=>FW C (fb b) Nm (dm b) (ff b)) vs H Q E) {R:VK}:∃t,PSs X [.Assign [.Attribute o1 "part" a1] e1 p1,.Assign [.Attribute o2 "below" a2] e2 p2,.Assign [.Attribute o3 "names" a3] (.Call (.Name g q2) [N,.Attribute F "below" G] [] c3) p3,.Assign [.Attribute U "found" a4] (.Dict [] [] d4) p4] t/\t {nx:=λ_ H'=>Q .non H',rt:=R} (vs.map some) H:=by
 obtain⟨A,H1,x,dx,v,bb,B,d,rfl,rfl,n1,n2,ne,lv,rp,M,q⟩:=hsp;obtain⟨b,eb,M⟩:=bind_some M;obtain⟨ns,en,M⟩:=bind_some M;cases M;refine⟨_,dN (CY ah al s1) (dN (CY aj (ae bb) s2) (dN (RK FF hp hr hg Y af ac hb aa h1 h2 h3 s3) (iS (P2 (dom:=dm bb B) (g:=ff bb B) W s4)))),?_⟩;have I0:=IO.begun cls n1 n2 ne lv rp [] (λ_ z=>nomatch z);refine⟨H1,_,x,C,dx,[],_,B,I0,rfl,J _ (by simp),by simp,by simp,λH2 I2=>?_⟩;refine⟨H1,_,x,C,dx,_,_,b,I2,eb,J _ (by simp),by simp,(show("below" : Str)∉(["part"]:List Str) by decide),λH3 I3=>?_⟩;refine⟨H1,_,x,C,dx,_,_,B,b,ns,I3,rfl,rfl,en,J _ (by simp),J _ (by simp),by simp,(show("names" : Str)∉(["part", "below"]:List Str) by decide),λH4 I4=>?_⟩;refine⟨H1,_,x,C,dx,_,_,I4,J _ (by simp),by simp,(show("found" : Str)∉(["part", "below", "names"]:List Str) by decide),λH5 I5=>?_⟩;obtain⟨x5,r5⟩:=I5.done n1 lv;exact q H5 x5 r5
end
noncomputable def kT{α:Type}(f:D->α->Option α):List D->α->Option α
 | [],a=>some a
 | x::l,a=>(f x a).bind (kT f l)
abbrev LT:=List (List Key×D)
theorem jV{A:Av}{Hs H1:Hp}{r:Addr}(e:Ext A Hs H1)(n:H1 r=none)(H:Hp)(o:HO)(x:Ext A Hs H):Ext A Hs (upd H r o) where
 rd:=λb u h=>by
  by_cases q:b=r
  ·subst q;rcases e.rd _ _ h with z|⟨_,z⟩ <;> (rw[n]at z;cases z)
  ·exact eP q (x.rd _ _ h)
 kp:=λb u k h=>by
  by_cases q:b=r
  ·subst q;have z:=e.kp _ _ k h;rw[n]at z;cases z
  ·rw[aE q];exact x.kp _ _ k h
 ow:=λb u k h=>by
  by_cases q:b=r
  ·subst q;have z:=e.ow _ _ k h;rw[n]at z;cases z
  ·rw[aE q];exact x.ow _ _ k h
 fz:=λb o u h=>by
  by_cases q:b=r
  ·subst q;have z:=e.fz _ _ _ h;rw[n]at z;cases z
  ·rw[aE q];exact x.fz _ _ _ h
structure IA(K:zae)(Hs:Hp)(A0 A:Av)(x C dx r s:Addr)(bk:D)(E:List Fact)(p:LT×LT)(σ:L2.St)(H:Hp)(ρ:cU):Prop where
 cls:Cls K C
 nr:NoAttr K C "routes"
 ns:NoAttr K C "spans"
 av:∀b,A b->A0 b\/b=x\/b=r\/b=s
 a0:∀b,A0 b->A b
 ax:A x
 ar:A r
 at':A s
 ne:r≠s
 fr:∀H o,Ext A0 Hs H->Ext A0 Hs (upd H r o)
 fs:∀H o,Ext A0 Hs H->Ext A0 Hs (upd H s o)
 live:Live A H
 hx:∃vb,H x=some (.ins C dx [("book",vb),("routes",.ref r),("spans",.ref s)])/\Rep A H bk vb
 o1:Own A H (.dT p.1) r
 o2:Own A H (.dT p.2) s
 s0:σ[0]?=some (some (.ref x))
 len:σ.length=ρ.length
 val:∀(i:Nat) (d:D),ρ[i]?=some (some d)->∃v,σ[i]?=some (some v)/\Rep A H d v
 fx:∀q∈E,q.Holds A H
 ke:Ext A0 Hs H
section
variable {K:zae}{Hs:Hp}{A0 A:Av}{x C dx r s:Addr}{bk:D}{E:List Fact}{p:LT×LT}{σ:L2.St}{H H':Hp}{ρ:cU}
theorem IA.st(t:IA K Hs A0 A x C dx r s bk E p σ H ρ):ST H A A E [] σ H ρ:=
 ⟨Ext.refl _ _,λ_ z=>z,t.live,t.live,t.len,λi d h _=>t.val i d h,(λj d _ h=>nomatch h),(λj k d d' a h=>nomatch h),t.fx⟩
theorem IA.ext(t:IA K Hs A0 A x C dx r s bk E p σ H ρ)(e:Ext A H H'):IA K Hs A0 A x C dx r s bk E p σ H' ρ:=
 {t with live:=(t.st.mono e).live,hx:=by obtain⟨B,h,q⟩:=t.hx;exact⟨B,e.ow _ _ t.ax h,q.ext e⟩,o1:=t.o1.ext e t.ar,o2:=t.o2.ext e t.at',val:=λi d h=>(t.st.mono e).val i d h (λz=>nomatch z),fx:=(t.st.mono e).ext,ke:=t.ke.trans (e.mono t.a0)}
theorem IA.more(t:IA K Hs A0 A x C dx r s bk E p σ H ρ){z:List Fact}(h:∀q∈z,q.Holds A H):IA K Hs A0 A x C dx r s bk (z++E) p σ H ρ:=
 {t with fx:=λq B=>(List.mem_append.mp B).elim (h q) (t.fx q)}
theorem IA.less(t:IA K Hs A0 A x C dx r s bk E p σ H ρ){z:List Fact}(h:∀q∈z,q∈E):IA K Hs A0 A x C dx r s bk z p σ H ρ:=
 {t with fx:=λq B=>t.fx q (h q B)}
theorem IA.set(t:IA K Hs A0 A x C dx r s bk E p σ H ρ){i:Nat}{d:D}{v:V}(h:Rep A H d v)(n:i≠0):IA K Hs A0 A x C dx r s bk E p (σ.set i (some v)) H (ρ.set i (some d)):=
 {t with
  s0:=by rw[zbP n];exact t.s0
  len:=by rw[zcS,zcS];exact t.len
  val:=λj e h'=>by
   rcases eM h' with⟨rfl,q,l⟩|⟨z,q⟩
   ·cases q
    exact⟨v,by rw[zcx (by rw[t.len];exact l)],h⟩
   ·rw[zbP z.symm];exact t.val j e q}
theorem AE{a:Addr}{o:HO}(B:Live A H):Live A (upd H a o):=λb F z=>by
 by_cases q:b=a
 ·subst q;rw[aG]at z;cases z
 ·rw[aE q]at z;exact B b F z
theorem IA.put1(t:IA K Hs A0 A x C dx r s bk E p σ H ρ):∃xs,H r=some (.dT xs)/\xs.length=p.1.length/\∀B w v,Rep A H w v->IA K Hs A0 A x C dx r s bk E (putD p.1 B w,p.2) σ (upd H r (.dT (putK xs B v))) ρ:=by
 cases t.o1 with
 | @dT _ _ xs h e rl=>
  refine⟨xs,h,by have:=congrArg zbo e;simpa using this,λB w v F=>?_⟩;obtain⟨J,M⟩:=vP (tP B F (tX e rl));obtain⟨U,hx,N⟩:=t.hx;exact {t with
   live:=AE t.live
   hx:=⟨U,by rw[aE (λz=>by rw[z,h]at hx;cases hx)];exact hx,N.put t.ar h trivial⟩
   o1:=.dT aG J (M.put t.ar h trivial)
   o2:=t.o2.put t.ar h trivial t.ne.symm
   val:=λi d hi=>by obtain⟨v,G,q⟩:=t.val i d hi;exact⟨v,G,q.put t.ar h trivial⟩
   fx:=λq W=>Fact.put t.ar h trivial (t.fx q W)
   ke:=t.fr _ _ t.ke}
theorem IA.put2(t:IA K Hs A0 A x C dx r s bk E p σ H ρ):∃xs,H s=some (.dT xs)/\xs.length=p.2.length/\∀B w v,Rep A H w v->IA K Hs A0 A x C dx r s bk E (p.1,putD p.2 B w) σ (upd H s (.dT (putK xs B v))) ρ:=by
 cases t.o2 with
 | @dT _ _ xs h e rl=>
  refine⟨xs,h,by have:=congrArg zbo e;simpa using this,λB w v F=>?_⟩;obtain⟨J,M⟩:=vP (tP B F (tX e rl));obtain⟨U,hx,N⟩:=t.hx;exact {t with
   live:=AE t.live
   hx:=⟨U,by rw[aE (λz=>by rw[z,h]at hx;cases hx)];exact hx,N.put t.at' h trivial⟩
   o1:=t.o1.put t.at' h trivial t.ne
   o2:=.dT aG J (M.put t.at' h trivial)
   val:=λi d hi=>by obtain⟨v,G,q⟩:=t.val i d hi;exact⟨v,G,q.put t.at' h trivial⟩
   fx:=λq W=>Fact.put t.at' h trivial (t.fx q W)
   ke:=t.fs _ _ t.ke}
theorem IA.done(t:IA K Hs A0 A x C dx r s bk E p σ H ρ)(M:Live A0 Hs)(F:¬ A0 x)(B:¬ A0 r)(z:¬ A0 s):Ext A0 Hs H/\Rep A0 H (.ob C [("book",bk),("routes",.dT p.1),("spans",.dT p.2)]) (.ref x):=by
 obtain⟨N,h,G⟩:=t.hx;have q:∀b,A0 b->A b\/H b=none:=λb J=>.inl (t.a0 b J)
 exact⟨t.ke,.ob F h rfl (.cons (G.av q) (.cons ((t.o1.av q).rep B) (.cons ((t.o2.av q).rep z) .nil)))⟩
inductive tA1(K:zae)(fk fv:Ev)(T:Ends)(σ:L2.St)(H:Hp):Prop
 | mk (Hs:Hp) (A0 A:Av) (x C dx r s:Addr) (bk:D) (E:List Fact) (p:LT×LT) (ρ:cU) (kd w:D) (kk:List Key) (st:IA K Hs A0 A x C dx r s bk E p σ H ρ) (ek:fk ρ=some kd) (et:TC kd=some kk) (ew:fv ρ=some w) (sz:a7 p.1.length=true)
  (n:∀H',IA K Hs A0 A x C dx r s bk E (putD p.1 kk w,p.2) σ H' ρ->T.nx σ H'):tA1 K fk fv T σ H
inductive tA2(K:zae)(fk fe:Ev)(F:List D->Option D)(T:Ends)(σ:L2.St)(H:Hp):Prop
 | mk (Hs:Hp) (A0 A:Av) (x C dx r s:Addr) (bk:D) (E:List Fact) (p:LT×LT) (ρ:cU) (kd w d z:D) (kk:List Key) (st:IA K Hs A0 A x C dx r s bk E p σ H ρ) (ek:fk ρ=some kd) (et:TC kd=some kk) (ev:eX p.1 kk=some w) (ed:fe ρ=some d) (ez:F [d,w]=some z) (sz:a7 p.2.length=true)
  (n:∀H',IA K Hs A0 A x C dx r s bk E (p.1,putD p.2 kk z) σ H' ρ->T.nx σ H'):tA2 K fk fe F T σ H
end
section
variable {X:Cx}
theorem OJ{o k value:Expr}{fk fv:Ev}{B p2 pos:Pos}(hu:X.A.units+1<cLine)(ho:PE X o (cZ 0))(U:PB X [] k fk)(J:PD X [] value fv)(z:zaO o "routes" X.env (eval o X.env)=eval o X.env:=by rfl)
  (hs:zaD value (some (.Subscript (.Attribute o "routes" B) k p2)) pos.line X.env=pure false:=by rfl):PS X (.Assign [.Subscript (.Attribute o "routes" B) k p2] value pos) (tA1 X.K fk fv):=
 PS.mono (wJ hu (kB ho z) U J hs) <| by
  rintro T σ H ⟨Hs,A0,A,x,C,dx,r,s,bk,E,p,ρ,kd,w,Y,st,ek,et,M,sz,n⟩;refine⟨_,A,A,E,ρ,w,st.st,M,λv H1 W r1=>?_⟩;have q:=st.ext W;obtain⟨vb,hx,_⟩:=q.hx;refine⟨_,q.s0,x,C,dx,_,.ref r,rfl,hx,q.cls,q.nr,rfl,_,A,A,E,ρ,kd,q.st,ek,λy H2 F r2=>?_⟩;have N:=q.ext F;obtain⟨xs,h,G,go⟩:=N.put1;obtain⟨b,rfl,z⟩:=pX et r2;exact⟨r,_,rfl,DPut.t h z (by rw[G];exact iQ sz),n _ (go Y w v (r1.ext F))⟩
theorem PN{o o2 k k2 e:Expr}{g:Str}{kn:Nat}{ps:List Str}{F:List D->Option D}{fk fe:Ev}{p1 p2 q B gp cp pos:Pos}(FF:Fn X.prog X.w X.K X.mg X.base g kn ps F)(hp:ps.length=2)(hr:Room kn X.A)(hg:Gl X g)(hu:X.A.units+1<cLine)(ho:PE X o (cZ 0))(af:PE X o2 (cZ 0))(hk:PB X [] k fk)(ad:PB X [] k2 fk)(he:PD X [] e fe)(hn:IU k2)
  (N:zaO o "spans" X.env (eval o X.env)=eval o X.env:=by rfl) (ag:zaO o2 "routes" X.env (eval o2 X.env)=eval o2 X.env:=by rfl) (U:(g == ("__debug__" : Str))=false:=by decide)
  (h1:zag [e,.Subscript (.Attribute o2 "routes" q) k2 B] X.env=(false,eval e X.env)::zag [.Subscript (.Attribute o2 "routes" q) k2 B] X.env:=by rfl) (h2:(zaG cp (zag [.Subscript (.Attribute o2 "routes" q) k2 B] X.env)).any (·.1)=false:=by rfl) (h3:zag [.Subscript (.Attribute o2 "routes" q) k2 B] X.env=(false,eval (.Subscript (.Attribute o2 "routes" q) k2 B) X.env)::zag [] X.env:=by rfl)
  (hs:zaD (.Call (.Name g gp) [e,.Subscript (.Attribute o2 "routes" q) k2 B] [] cp) (some (.Subscript (.Attribute o "spans" p1) k p2)) pos.line X.env=pure false:=by rfl) :
  PS X (.Assign [.Subscript (.Attribute o "spans" p1) k p2] (.Call (.Name g gp) [e,.Subscript (.Attribute o2 "routes" q) k2 B] [] cp) pos) (tA2 X.K fk fe F):=by
 obtain⟨fa,fd,Y,W,hm,FO⟩:=My.Ok.ex FF;refine PS.mono (wJ hu (kB ho N) hk (wQ FO hr hg hm Y W .nil F6 (cT he (cT (FP hu (kB af ag) ad hn) fM h3) h1) U h1 h2) hs) λT σ H ⟨Hs,A0,A,x,C,dx,r,s,bk,E,p,ρ,kd,w,d,z,kk,st,ek,et,ev,ed,ez,sz,n⟩=>?_
 refine⟨_,A,A,E,ρ,d,st.st,ed,λv1 H1 x1 r1=>?_⟩;have J:=st.ext x1;obtain⟨vb,hx,_⟩:=J.hx;refine⟨_,J.s0,x,C,dx,_,.ref r,rfl,hx,J.cls,J.nr,rfl,_,A,A,E,ρ,kd,J.st,ek,λy H2 x2 r2=>?_⟩;have s2:=J.ext x2;obtain⟨a,ov,e1,_,dg,M⟩:=sN (d:=.dT p.1) (k:=kd) (o:=some w) (by simp only[nF,et,zab,ev]) s2.o1.b r2;rcases M with⟨M,_⟩|⟨w',v2,M,e3,r3⟩
 ·cases M
 ·cases M;subst e3;cases e1
  refine⟨r,v2,rfl,dg,?_⟩;refine⟨A,[d,w],z,s2.live,.cons (r1.ext x2) (.cons r3 .nil),hp.symm,ez,λv3 H3 x3 r4=>?_⟩;have G:=s2.ext x3;obtain⟨ba,aa,_⟩:=G.hx;refine⟨_,G.s0,x,C,dx,_,.ref s,rfl,aa,G.cls,G.ns,rfl,_,A,A,E,ρ,kd,G.st,ek,λy4 H4 x4 r5=>?_⟩;have s4:=G.ext x4;obtain⟨xs,h,hl,go⟩:=s4.put2;obtain⟨b,rfl,N⟩:=pX et r5;exact⟨s,_,rfl,DPut.t h N (by rw[hl];exact iQ sz),n _ (go kk z v3 (r4.ext x4))⟩
inductive tAF(K:zae)(f:Lv)(i:Nat)(tb:TS)(T:Ends)(σ:L2.St)(H:Hp):Prop
 | mk (Hs:Hp) (A0 A:Av) (x C dx r s:Addr) (bk:D) (E:List Fact) (p out:LT×LT) (ρ:cU) (items:List D) (step:D->LT×LT->Option (LT×LT)) (R:cU->Prop) (st:IA K Hs A0 A x C dx r s bk E p σ H ρ) (h0:R ρ) (e:f ρ=some items) (fo:kT step items p=some out)
  (turn:∀E' σ H ρ d p p' T',R ρ->step d p=some p'->IA K Hs A0 A x C dx r s bk E' p σ H (ρ.set i (some d))->(∀σ H ρ,R ρ->IA K Hs A0 A x C dx r s bk E' p' σ H ρ->T'.nx σ H)->tb T' σ H)
  (n:∀σ H ρ,R ρ->IA K Hs A0 A x C dx r s bk E out σ H ρ->T.nx σ H):tAF K f i tb T σ H
theorem MJ{tg z:Expr}{F:List Stmt}{pos:Pos}{f:Lv}{i:Nat}{tb:TS}(hp:zb4 (model X.prog X.w) X.A X.env X.xe)(hc:X.calm=true)(hi:PDI X [] tg z f)(hg:PG X tg (i5 i))(hb:PSs X F tb)(hn:i≠0:=by decide)
  (hs:∀x,zba z X.env x=pure x:=by intro _;rfl):PS X (.For tg z F [] pos) (tAF X.K f i tb):=
 PS.mono (L8 hp hc hi hg hb hs) <| by
  rintro T σ H ⟨Hs,A0,A,x,C,dx,r,s,bk,E,p,out,ρ,items,step,R,st,h0,e,fo,turn,n⟩;refine⟨_,A,A,E,ρ,items,st.st,e,λJ H1 E1 x1 aa J1=>?_⟩;have U:=(st.ext x1).more aa;refine⟨λi m σ H=>m=items.length-i/\i<=items.length/\∃ρ p,R ρ/\IA X.K Hs A0 A x C dx r s bk (E1++E) p σ H ρ/\kT step (items.drop i) p=some out,⟨items.length,by simp,zaI _,ρ,p,h0,U,fo⟩,?_⟩;rintro i m σ H ⟨rfl,ai,ρ,p,hR,st,e⟩;obtain⟨M,go⟩:=J1 A H st.live (λq Y=>st.fx q (zbv _ Y)) i;by_cases G:i<items.length
  ·have ed:items[i]?=some items[i]:=by simp[G]
   obtain⟨W,hy⟩:=go _ ed;rw[zcW G]at e;obtain⟨p1,es,e⟩:=bind_some e;refine .inr ⟨W,λN H'=>∃B p2,R B/\IA X.K Hs A0 A x C dx r s bk (E1++E) p2 N H' B/\kT step (items.drop (i+1)) p2=some out,λN H' ⟨B,p2,r2,s2,e2⟩=>⟨items.length-(i+1),by lia,rfl,G,B,p2,r2,s2,e2⟩,λy H' ac=>?_⟩;obtain⟨x2,r2⟩:=hy y H' ac;exact turn _ _ _ ρ _ p p1 _ hR es ((st.ext x2).set r2 hn) λas H3 ad R3 i3=>⟨ad,p1,R3,i3,e⟩
  ·have ab:i=items.length:=by lia
   subst ab;rw[zdD]at e;cases e;exact .inl ⟨M (zai _),n _ _ ρ hR (st.less λq Y=>zaV _ Y)⟩
end
def lJ(G F:List D->Option D)(bk j k:D)(p:LT×LT):Option (LT×LT):=(G [bk,j,k]).bind λw=>(TC (.tup [j,k])).bind λq=>if a7 p.1.length=true/\a7 p.2.length=true then(eX (putD p.1 q w) q).bind λB=>(F [bk,B]).map λz=>(putD p.1 q w,putD p.2 q z)else none
def tM(C:Addr)(g:D->Option (List D))(q z:List D->Option D)(bk:D):Option D:=(g bk).bind λB=>(kT (λj p=>(g bk).bind λks=>kT (lJ q z bk j) ks p) B ([],[])).map λp=>.ob C [("book",bk),("routes",.dT p.1),("spans",.dT p.2)]
theorem LR{K:zae}{Hs:Hp}{A0:Av}{x C dx r s:Addr}{bk:D}{G:V}{σ:L2.St}{H:Hp}{ρ:cU}(nr:NoAttr K C "routes")(ns:NoAttr K C "spans")(t:IO K Hs (λb=>A0 b\/b=x) x C dx [("book",bk)] σ H ρ)(n1:Hs x=none)(nx:¬ A0 x)(hx:H x=some (.ins C dx [("book",G)]))(rb:Rep (λb=>A0 b\/b=x) H bk G)
  (M:H r=none) (hs:upd (upd H r (.dT [])) x (.ins C dx [("book",G),("routes",.ref r)]) s=none):IA K Hs A0 (λb=>A0 b\/b=x\/b=r\/b=s) x C dx r s bk [] ([],[]) σ (upd (upd (upd (upd H r (.dT [])) x (.ins C dx [("book",G),("routes",.ref r)])) s (.dT [])) x (.ins C dx [("book",G),("routes",.ref r),("spans",.ref s)])) ρ/\¬ A0 r/\¬ A0 s:=by
 have sx:s≠x:=λz=>by rw[z,aG]at hs;cases hs
 have F:upd H r (.dT []) s=none:=by rw[aE sx]at hs;exact hs
 have sr:s≠r:=λz=>by rw[z,aG]at F;cases F
 have B:H s=none:=by rw[aE sr]at F;exact F
 have rx:r≠x:=λz=>by rw[z,hx]at M;cases M
 have U:Ext A0 Hs H:=(t.ke.ext n1).mono λb J=>.inl J
 have ar:¬ A0 r:=λz=>t.live r (.inl z) M
 have Y:¬ A0 s:=λz=>t.live s (.inl z) B
 have up:∀a,(A0 a\/a=x\/a=r\/a=s)->(A0 a\/a=x)\/H a=none:=λa ha=>by
  rcases ha with h|h|h|h
  ·exact .inl (.inl h)
  ·exact .inl (.inr h)
  ·exact .inr (by rw[h];exact M)
  ·exact .inr (by rw[h];exact B)
 have N:∀d v,Rep (λb=>A0 b\/b=x) H d v->Rep (λb=>A0 b\/b=x\/b=r\/b=s) (upd (upd (upd (upd H r (.dT [])) x (.ins C dx [("book",G),("routes",.ref r)])) s (.dT [])) x (.ins C dx [("book",G),("routes",.ref r),("spans",.ref s)])) d v:=λd v h=>by
  have h1:=(h.av up).ext (Ext.new (o:=.dT []) M);have h2:=h1.putI (a:=x) (o:=.ins C dx [("book",G),("routes",.ref r)]) (.inr (.inl rfl)) (by rw[aE rx.symm];exact hx);have h3:=h2.ext (Ext.new (o:=.dT []) hs);exact h3.putI (a:=x) (.inr (.inl rfl)) (by rw[aE sx.symm];exact aG)
 refine⟨⟨t.cls,nr,ns,λb J=>J,λb J=>.inl J,.inr (.inl rfl),.inr (.inr (.inl rfl)),.inr (.inr (.inr rfl)),sr.symm,jV U M,jV U B,λb J z=>?_,⟨G,aG,N _ _ rb⟩,.dT (xs:=[]) ?_ rfl .nil,.dT (xs:=[]) ?_ rfl .nil,t.s0,t.len,λi d h=>?_,(λ_ z=>nomatch z),?_⟩,ar,Y⟩
 ·by_cases W:b=x
  ·rw[W,aG]at z;cases z
  ·rw[aE W]at z
   by_cases q2:b=s
   ·rw[q2,aG]at z;cases z
   ·rw[aE q2,aE W]at z
    by_cases q3:b=r
    ·rw[q3,aG]at z;cases z
    ·rw[aE q3]at z
     rcases J with h|h|h|h
     ·exact t.live b (.inl h) z
     ·exact W h
     ·exact q3 h
     ·exact q2 h
 ·rw[aE rx,aE sr.symm,aE rx,aG]
 ·rw[aE sx,aG]
 ·obtain⟨v,e,q⟩:=t.val i d h
  exact⟨v,e,N _ _ q⟩
 ·have fx:=jV (Ext.refl A0 Hs) n1
  exact fx _ _ (jV U B _ _ (fx _ _ (jV U M _ _ U)))
section
variable {X:Cx}
theorem CF{C:Addr}{kn:Nat}{gp:List Str}{g2:Str}{o0 o1 o2 o3 o4 G e0 e5 k3 k4 N value ab ae U W:Expr}{g:D->Option (List D)}{f1 f2:Lv}{fk fv fe:Ev}{F1 F2:List D->Option D}{a0 a1 a2 a3 a4 Y b3 b4 b5 p0 p1 p2 p3 p4 p5 p6 d1 d2 c5 q5:Pos}(cls:Cls X.K C)(na:∀a∈(["book", "routes", "spans"]:List Str),NoAttr X.K C a)(FF:Fn X.prog X.w X.K X.mg X.base g2 kn gp F2)(a8:gp.length=2)(hr:Room kn X.A)(bv:Gl X g2)(hu:X.A.units+1<cLine)
  (hp:zb4 (model X.prog X.w) X.A X.env X.xe) (hc:X.calm=true)
  (h0:PE X o0 (cZ 0)) (h1:PE X o1 (cZ 0)) (h2:PE X o2 (cZ 0)) (h3:PE X o3 (cZ 0)) (h4:PE X o4 (cZ 0)) (h5:PE X G (cZ 0)) (bd:PD X [] e0 (aD 1)) (br:PDI X [] U ab f1) (bb:PDI X [] W ae f2) (bp:PG X U (i5 2)) (bt:PG X W (i5 3)) (bo:PB X [] k3 fk) (bx:PB X [] k4 fk) (b0:PB X [] N fk) (hv:PD X [] value fv) (bz:PD X [] e5 fe) (hn:IU N)
  (bj:∀ {ρ:cU} {bk:D},ρ[1]?=some (some bk)->f1 ρ=g bk) (ax:∀ {ρ:cU} {bk:D},ρ[1]?=some (some bk)->f2 ρ=g bk) (ai:∀ {ρ:cU} {j k:D},ρ[2]?=some (some j)->ρ[3]?=some (some k)->fk ρ=some (.tup [j,k])) (bm:∀ {ρ:cU} {bk j k:D},ρ[1]?=some (some bk)->ρ[2]?=some (some j)->ρ[3]?=some (some k)->fv ρ=F1 [bk,j,k]) (bn:∀ {ρ:cU} {bk:D},ρ[1]?=some (some bk)->fe ρ=some bk)
  (bg:zaO o3 "routes" X.env (eval o3 X.env)=eval o3 X.env:=by rfl) (a6:zaO o4 "spans" X.env (eval o4 X.env)=eval o4 X.env:=by rfl) (bu:zaO G "routes" X.env (eval G X.env)=eval G X.env:=by rfl) (as:(g2 == ("__debug__" : Str))=false:=by decide)
  (z1:zag [e5,.Subscript (.Attribute G "routes" Y) N b5] X.env=(false,eval e5 X.env)::zag [.Subscript (.Attribute G "routes" Y) N b5] X.env:=by rfl) (z2:(zaG c5 (zag [.Subscript (.Attribute G "routes" Y) N b5] X.env)).any (·.1)=false:=by rfl) (z3:zag [.Subscript (.Attribute G "routes" Y) N b5] X.env=(false,eval (.Subscript (.Attribute G "routes" Y) N b5) X.env)::zag [] X.env:=by rfl)
  (s0:zaD e0 (some (.Attribute o0 "book" a0)) p0.line X.env=pure false:=by rfl) (s1:zaD (.Dict [] [] d1) (some (.Attribute o1 "routes" a1)) p1.line X.env=pure false:=by rfl) (s2:zaD (.Dict [] [] d2) (some (.Attribute o2 "spans" a2)) p2.line X.env=pure false:=by rfl)
  (s3:zaD value (some (.Subscript (.Attribute o3 "routes" a3) k3 b3)) p3.line X.env=pure false:=by rfl) (s4:zaD (.Call (.Name g2 q5) [e5,.Subscript (.Attribute G "routes" Y) N b5] [] c5) (some (.Subscript (.Attribute o4 "spans" a4) k4 b4)) p4.line X.env=pure false:=by rfl)
  (y1:∀x,zba ab X.env x=pure x:=by intro _;rfl) (y2:∀x,zba ae X.env x=pure x:=by intro _;rfl)
  {vs:List V} {H:Hp} {Q:VK} {E:XK} (hsp:XC C (λ_=>tM C g F1 F2) vs H Q E) {R:VK} :
  ∃t,PSs X [.Assign [.Attribute o0 "book" a0] e0 p0,.Assign [.Attribute o1 "routes" a1] (.Dict [] [] d1) p1,.Assign [.Attribute o2 "spans" a2] (.Dict [] [] d2) p2,
   .For U ab [.For W ae [.Assign [.Subscript (.Attribute o3 "routes" a3) k3 b3] value p3,.Assign [.Subscript (.Attribute o4 "spans" a4) k4 b4] (.Call (.Name g2 q5) [e5,.Subscript (.Attribute G "routes" Y) N b5] [] c5) p4] [] p5] [] p6] t /\
   t {nx:=λ_ H'=>Q .non H',rt:=R} (vs.map some++[none,none]) H:=by
 obtain⟨A,H1,x,dx,v,_,bk,d,rfl,rfl,n1,n2,ne,lv,rp,ed,q⟩:=hsp;obtain⟨js,ej,ed⟩:=bind_some ed;obtain⟨out,eo,ed⟩:=map_some ed;subst ed;refine⟨_,dN (CY h0 bd s0) (dN (sY h1 zJ s1) (dN (sY h2 zJ s2) (iS (MJ hp hc br bp (iS (MJ hp hc bb bt (dN (OJ hu h3 bo hv bg s3) (iS (PN FF a8 hr bv hu h4 h5 bx b0 bz hn a6 bu as z1 z2 z3 s4))) (by decide) y2)) (by decide) y1)))),?_⟩;have nx:¬ A x:=λz=>lv x z n1
 have I0:=IO.begun cls n1 n2 ne lv rp [none,none] (λo ho=>by simpa using ho);refine⟨H1,_,x,C,dx,[],_,bk,I0,rfl,na _ (by simp),by simp,by simp,λH2 I2=>λr af=>?_⟩;obtain⟨fs,hx,em,rr⟩:=I2.hx;obtain⟨vb,rfl,rb⟩:∃vb,fs=[(("book" : Str),vb)]/\Rep (λb=>A b\/b=x) H2 bk vb:=by
  match fs,em,rr with
  | [(f,vb)],em,rr=>
   have:f = "book" := by simpa using em
   subst this;cases rr with
   | cons h _=>exact⟨vb,rfl,h⟩
  | [],em,_=>exact nomatch em
  | _::_::_,em,_=>simp at em
 have rx:r≠x:=λz=>by rw[z,hx]at af;cases af
 refine⟨_,I2.s0,x,C,dx,_,rfl,by rw[aE rx.symm];exact hx,cls,na _ (by simp),by simp,λs bl=>?_⟩;have F:upd (upd H2 r (.dT [])) x (.ins C dx [("book",vb),("routes",.ref r)]) s=none:=bl;have sx:s≠x:=λz=>by rw[z,aG]at F;cases F
 refine⟨_,I2.s0,x,C,dx,[("book",vb),("routes",.ref r)],rfl,by rw[aE sx.symm];exact aG,cls,na _ (by simp),by simp,?_⟩;obtain⟨J,ar,aq⟩:=LR (na _ (by simp)) (na _ (by simp)) I2 n1 nx hx rb af F;refine⟨H1,A,_,x,C,dx,r,s,bk,[],([],[]),out,_,js,_,λρ=>ρ.length=4/\ρ[1]?=some (some bk),J,⟨rfl,rfl⟩,by rw[bj (bk:=bk) rfl];exact ej,eo,λE' σ H ρ j p p' T' M B I n=>?_,λσ H ρ M I=>?_⟩
 ·obtain⟨ks,ek,hf⟩:=bind_some B
  have b1:(ρ.set 2 (some j))[1]?=some (some bk):=by rw[zbP (by decide)];exact M.2
  refine⟨H1,A,_,x,C,dx,r,s,bk,E',p,p',_,ks,lJ F1 F2 bk j,λρ=>ρ.length=4/\ρ[1]?=some (some bk)/\ρ[2]?=some (some j),I,⟨by rw[zcS];exact M.1,b1,by rw[zcx (by lia)]⟩,by rw[ax b1];exact ek,hf,λE2 σ H ρ k p p' T' M B I n=>?_,λσ H ρ M I=>n σ H ρ ⟨M.1,M.2.1⟩ I⟩;have c1:(ρ.set 3 (some k))[1]?=some (some bk):=by rw[zbP (by decide)];exact M.2.1
  have c2:(ρ.set 3 (some k))[2]?=some (some j):=by rw[zbP (by decide)];exact M.2.2
  have c3:(ρ.set 3 (some k))[3]?=some (some k):=by rw[zcx (by lia)]
  obtain⟨w,ew,B⟩:=bind_some B;obtain⟨kk,ak,B⟩:=bind_some B;split at B
  ·rename_i sz
   obtain⟨w',bf,B⟩:=bind_some B;obtain⟨z,ez,rfl⟩:=map_some B;refine⟨H1,A,_,x,C,dx,r,s,bk,E2,p,_,_,w,kk,I,ai c2 c3,ak,by rw[bm c1 c2 c3];exact ew,sz.1,λH' I'=>?_⟩;exact⟨H1,A,_,x,C,dx,r,s,bk,E2,_,_,_,w',bk,z,kk,I',ai c2 c3,ak,bf,bn c1,ez,sz.2,λH' I'=>n _ _ _ ⟨by rw[zcS];exact M.1,c1,c2⟩ I'⟩
  ·cases B
 ·obtain⟨x5,r5⟩:=I.done lv nx ar aq
  exact q _ x5 r5
end
def Fas(K:zae)(C:Addr)(fs:List Str):Prop:=∀a∈fs,NoAttr K C a
theorem Fas.nil{K:zae}{C:Addr}:Fas K C []:=λ_ h=>nomatch h
theorem Fas.cons{K:zae}{C:Addr}{x:Str}{fs:List Str}(a:zbx K (.ref C) x=some none)(r:Fas K C fs):Fas K C (x::fs):=zcZ.2 ⟨a,r⟩
structure ObQ(K:zae)(x q:Str)(st:Stmt)(C:Addr)(fs:List Str):Prop where
 cls:Cls K C
 na:Fas K C fs
 ex:∃f fd,zbY K zaK x=some (some (.ref C))/\Mk K C f/\Fun K "__init__" q st f fd
theorem obq{K:zae}{x q:Str}{st:Stmt}{C f:Addr}{fs:List Str}{G:Value}{od J:Option Addr}{B:Array (Option Value)}{kV F M z ct:Value}(a:zbY K zaK x=some (some (.ref C)))(m1:zd1 K C=true)(m2:zbx K (.ref C) "__init__" = some (some (.ref f)))(m3:PySem.W.isFn K (.ref f)=true)(m4:zbG K (.ref C)=true)(m5:zda K C Str.empty=true)(m6:zdb K C=true)(m7:zdZ K C=true)(m8:zbx K (.ref C) "__setattr__" = some (some (.builtin "object.__setattr__")))
  (l:K.lookup f=some ⟨G,od,.func (zbh "__init__" q (d6 st) (bU st) (aL st) .none kV F M J z ct),B⟩) (c:zcl K z q=true) (k:zbG K (.ref f)=true) (n:Fas K C fs):ObQ K x q st C fs:=⟨⟨m5,m6,m7,m8⟩,n,f,_,a,⟨m1,m2,m3,m4⟩,DB l c k⟩
theorem ObQ.t{K:zae}{h:Heap}{mg:Str->Option Value}{x q p:Str}{st:Stmt}{C:Addr}{fs:List Str}(Q:ObQ K x q st C fs)(X:K.In h)(G:h.Ns zaK mg)(b:∀(kV B M:Value) (J:Option Addr) (z ct:Value) (u v:Value),bindArgs (zbh "__init__" q (d6 st) (bU st) (aL st) .none kV B M J z ct) ⟨[u,v],[]⟩=pure ((["self",p]:List Str).zip [u,v])):ObT K mg x q p st C fs:=by
 obtain⟨f,fd,a,m,F⟩:=Q.ex;exact⟨Q.cls,Q.na,f,fd,zdJ X G a,m,F.binds (ps:=["self",p]) λkV B M J z ct U N=>match U,N with|[u,v],_=>b kV B M J z ct u v,F⟩
theorem MH{C:Addr}{G:D->D->Option D}{N:List Str}{vs:List V}{H:Hp}{Q:VK}{E:XK}(h:XC C G vs H Q E):start N vs=vs.map some++zck (N.length-2) none:=by
 obtain⟨_,_,_,_,_,_,_,_,rfl,_⟩:=h;rfl
theorem OC{C:Addr}{G:D->D->Option D}{N:List Str}{vs:List V}{H:Hp}{Q:VK}{E:XK}(h:XC C G vs H Q E)(n:N.length=2):start N vs=vs.map some:=by
 rw[MH h,n];exact zbb _
theorem pL{ρ:cU}{i:Nat}{d:D}(h:ρ[i]?=some (some d)):aD i ρ=some d:=by unfold aD;rw[h];rfl
theorem hu2{A:zam}{k:Nat}(q:Room k A):A.units+2<cLine:=zcC (zef (by decide:2<=64) _) q.units
end P
namespace My
open PySem PySem.Spec PyProof.Rows L2
def ZL(K:zae)(a:Addr)(n:Nat):It:=
 ⟨λi H=>∃xs x,SqL K H a xs/\i<n/\xs[n-1-i]?=some x,λi H x H'=>H'=H/\∀xs,SqL K H a xs->xs[n-1-i]?=some x,λi H=>n<=i⟩
theorem JU{P:zah}{w:World}{K:zae}{tg:Expr}(a it:Addr)(n:Nat):Turn P w K tg (ZL K a n) [it] it (λi h=>i<=n/\h.IsRevIter it a ((n:Int)-1-(i:Int))) where
 mem:=by simp
 obj:=λi h st b q=>by
  have e:b=it:=by simpa using q
  subst e;obtain⟨_,o,e,c,d⟩:=st;exact⟨o,e,λv z=>by rw[d]at z;cases z⟩
 keep:=λi h h' st k=>⟨st.1,st.2.at λo e=>k it (by simp) o e⟩
 item:=by
  intro X M hw Y hc i pins s σ H E I G st hg;subst M hw Y;obtain⟨xs,x,hq,hi,hx⟩:=hg;obtain⟨its,rv,p,hz⟩:=I.list hq;obtain⟨u,hu,ru⟩:=rv.get hx;obtain⟨W,f1,f2,N,f4,U⟩:=G it (by simp);have J:s.heap.IsRevIter it a ((n-1-i:Nat):Int):=by
   have e:((n-1-i:Nat):Int)=(n:Int)-1-(i:Int):=by lia
   rw[e];exact st.2
  refine wpAny_pyNext_rev_item J p.isList (x:=u) (by simpa using hu) λh' F sb=>?_
  have I1:Inv X pins σ H {s with heap:=h'}:=I.turned (t':=s.toks) (λb o q e=>(sb.2 b q).trans e) W f1 N f4 U;obtain⟨o,e,c,d⟩:=id F;refine⟨u,rfl,tZ (s:={s with heap:=h'}) e c d (by decide) ⟨x,H,I1,ru,⟨rfl,λys hy=>by rw[I.list_inj hy hq];exact hx⟩,⟨hi,?_⟩,λb q=>(G b q).1⟩⟩;have e:(n:Int)-1-((i+1:Nat):Int)=((n-1-i:Nat):Int)-1:=by lia
  rw[e];exact F
 done:=by
  intro X M hw Y hc i pins s σ H E I G st hg;subst M hw Y;obtain⟨W,f1,f2,N,f4,U⟩:=G it (by simp);have hn:n<=i:=hg;have e:(n:Int)-1-(i:Int)=-1:=by have:=st.1;lia
  have B:=st.2;rw[e]at B;exact wpAny_pyNext_rev_end (I.ok.hd hc) B λh' eb=>⟨rfl,I.turned (t':=s.toks) (λb o q e=>eb b o q e) W f1 N f4 U⟩
 self:=λ_ _ _ _ _ st h=>wpAny_pyIter_revIter st.2 h
theorem boot_reversed:zaH "reversed" = some (.type "reversed"):=by first|rfl|decide +kernel
def qaa(K:zae)(ta:TA):TI:=λσ H R=>ta σ H λvs H1=>∃l xs,vs=[.ref l]/\SqL K H1 l xs/\R (ZL K l xs.length) H1
theorem TX{X:Cx}{tg:Expr}{a:Expr}{ta:TA}{p pos:Pos}(W:Gl X "reversed")(N:X.mg "reversed" = none)(M:PA X [a] ta)(hs:zag [a] X.env=[(false,eval a X.env)]:=by rfl) :
  PI X tg (.Call (.Name "reversed" p) [a] [] pos) (qaa X.K ta):=by
 intro pins s σ H R I h;refine Call_ (lI I W N boot_reversed (zcP (cS (M pos pins s σ H _ I h) λus B ⟨vs,H1,F,r1,G⟩=>?_) (by rw[hs];rfl) rfl));obtain⟨l,xs,rfl,G,q⟩:=G;obtain⟨u,rfl,J⟩:=vals1 r1;cases J;obtain⟨its,U,p1,hz⟩:=F.list G;have hl:=U.length;refine call_reversed_list p1.isList ?_;have z:(B.heap.push (revObj l ((its.toArray.size:Int)-1))).IsRevIter B.heap.objs.size l ((xs.length:Int)-1-((0:Nat):Int)):=by
  refine⟨_,zaE _ rfl,rfl,?_⟩;have e:(its.toArray.size:Int)-1=(xs.length:Int)-1-((0:Nat):Int):=by simp;lia
  rw[<- e];rfl
 refine wpAny_pyIter_revIter z ?_;refine⟨_,[_],_,_,H1,rfl,F.kept (t':=B.toks) λb o e=>zan _ e,JU l _ xs.length,⟨zaI _,z⟩,λb Y=>?_,q⟩;have e:b=B.heap.objs.size:=by simpa using Y
 subst e;exact F.fpOk (zai _) (F.hok.fresh (zai _))
end My
namespace P
open PySem PySem.Spec PyProof.Rows L2
def Y7(f:Lv):Lv:=λρ=>(f ρ).bind λds=>match ds with
 | [.lst l]=>some l.reverse
 | _=>none
theorem QD{X:Cx}{O:List Nat}{tg a:Expr}{f:Lv}{p pos:Pos}(hg:Gl X "reversed")(Y:X.mg "reversed" = none)(W:A9 X O [a] f)(hs:zag [a] X.env=[(false,eval a X.env)]:=by rfl) :
  PDI X O tg (.Call (.Name "reversed" p) [a] [] pos) (Y7 f):=PI.mono (My.TX hg Y W hs) λσ H R ⟨H0,A0,A,E,ρ,items,st,e,q⟩=>by
 obtain⟨ds,B,e⟩:=bind_some e;refine⟨H0,A0,A,E,ρ,ds,st,B,λvs H1 N r1=>?_⟩;split at e
 case h_2=>cases e
 rename_i l;cases e;obtain⟨v,rfl,r2⟩:=r1.one;obtain⟨a,xs,rfl,h1,rl⟩:=RepB.lst_inv (.of r2);have J:=rl.length;refine⟨a,xs,rfl,.inl h1,q _ H1 [.rep (.lst l) (.ref a)] N (λp hp=>by rw[List.mem_singleton.mp hp];exact r2) ?_⟩;intro A' H' lv M i;have a1:Rep A' H' (.lst l) (.ref a):=M _ (List.mem_singleton.mpr rfl);obtain⟨a',ys,e,h2,z⟩:=RepB.lst_inv (.of a1);cases e;have U:=z.length;refine⟨λhi=>(show xs.length<=i by rw[List.length_reverse]at hi;lia),λd hd=>?_⟩;have hi:i<l.length:=by have:=(List.getElem?_eq_some_iff.mp hd).1;simpa using this
 have F:l[xs.length-1-i]?=some d:=by rw[List.getElem?_reverse hi]at hd;rw[J];exact hd
 obtain⟨v,B,r1⟩:=z.get' F;refine⟨⟨ys,v,.inl h2,by lia,B⟩,λx G y=>?_⟩;obtain⟨rfl,y⟩:=y;have:=y ys (.inl h2);rw[B]at this;cases this;exact⟨Ext.refl _ _,r1⟩
def GD(i j:Int):Prop:=0<j/\j<10^500
instance:∀i j,Decidable (GD i j):=λi j=>by unfold GD;infer_instance
theorem KC{j:Int}(q:0<j)(h:j<10^500):j.natAbs.log2<9000:=by
 have a:j.natAbs≠0:=by lia
 refine(Nat.log2_lt a).mpr ?_;have b:(10:Nat)^500<2^9000:=by decide +kernel
 have c:(j.natAbs:Int)<((10^500:Nat):Int):=by
  rw[Int.natAbs_of_nonneg (Int.le_of_lt q),show((10^500:Nat):Int)=(10:Int)^500 from by decide +kernel];exact h
 exact Nat.lt_trans (Int.ofNat_lt.mp c) b
section
variable {X:Cx}
theorem JT:OpR X (zaM .FloorDiv) (rI GD λi j=>.int (i/j)):=Z6 λi j _ _ _ _ _ z q=>floordiv_int (zaS z.1) (by rw[Int.fdiv_eq_ediv_of_nonneg i (Int.le_of_lt z.1)];exact q) (.inl (PyProof.noPylong_of_log2 (KC z.1 z.2)))
def NB:D->D->Option D:=JF λi j=>if GD i j then some (.int (i/j))else none
theorem FM:kO X (zaM .FloorDiv) NB:=tR JT
theorem MS{i j:Int}(h:0<j)(h2:j<10^500):NB (.int i) (.int j)=some (.int (i/j)):=if_pos ⟨h,h2⟩
end
end P
namespace My
open PySem PySem.Spec PyProof.Rows L2
section
variable {X:Cx}
theorem BI(hc:X.calm=true){pins:List (Addr×Obj)}{s:zad}{σ:L2.St}{H:Hp}{p:Addr}{ns:List Int}{Q:VK}(I:Inv X pins σ H s)(hq:SqL X.K H p (ns.map V.int))(U:ns≠[])(q:Q (.int (NR ns)) H) :
  wpAny (model X.prog X.w) X.A (call (.builtin "min") [.ref p]) (EP X pins σ Q) X.xe s:=by
 obtain⟨its,J,Y,hz⟩:=I.list hq;have F:s.heap.IsList p its.toArray:=Y.isList;obtain⟨o,ho,aa,n,hd⟩:=id F;have lt:=zao ho;have W:=(Walks.list (prog:=X.prog) (w:=X.w) (A:=X.A.in1) (I.ok.hd hc) s.heap.objs.size p (zaF lt) its.toArray).toS;have B:=J.length;rw[zal]at B;have sz:its.toArray.size=ns.length:=by rw[zay];exact B.symm
 have M:∀(i:Nat) (v:Value),its.toArray[i]?=some v->∃t,v=zct ((ns[i]?).getD 0) t:=λi v G=>yX J (by simpa using G)
 refine call_min_walkS (zb5 F ⟨s.heap.objs.size,_,_,_,_,_,_,_,rfl,W,⟨⟨_,zaE _ rfl,rfl,rfl⟩,F.at λo e=>zan _ e⟩,λb hb=>?_,by rw[sz];exact List.length_pos_iff.mpr U,CmpOf.ints_lt (λi=>(ns[i]?).getD 0) M,λv s' G N=>?_⟩)
 ·rw[size_push']
  rcases List.mem_cons.mp hb with z|z
  ·rw[z];exact zdc _
  ·rw[List.mem_singleton.mp z];exact Nat.lt_succ_of_lt lt
 ·obtain⟨t,rfl⟩:=M _ v G
  rw[Moved.eq_with N];refine⟨.int (NR ns),H,I.kept (t':=s'.toks) λb o e=>N.heap b o (λz=>zaF (zao e) (List.mem_singleton.mp z)) (zan _ e),⟨t,?_⟩,q⟩;rw[sz];rfl
end
end My
namespace P
open PySem PySem.Spec PyProof.Rows L2
section
variable {X:Cx}
def CT:List D->Option D
 | [.lst l]=>(iV l).bind λns=>if ns=[]then none else some (.int (My.NR ns))
 | _=>none
theorem JI(F:X.calm=true):kE X (.builtin "min") CT:=by
 intro pins s σ H xs M Q I r h;obtain⟨A,ds,d,J,G,e,q⟩:=h;unfold CT at e;split at e
 ·rename_i l
  obtain⟨ns,B,e⟩:=bind_some e;split at e
  ·cases e
  ·rename_i hn
   cases e;obtain⟨v,rfl,h1⟩:=G.one;obtain⟨a,ys,rfl,h2,r3⟩:=h1.lst_inv;rw[fW B r3]at h2;obtain⟨u,rfl,z⟩:=vals1 r;cases z;exact My.BI F I (.inl h2) hn (q _ H (Ext.refl _ _) (.int _))
 ·cases e
theorem QX{ns:List Int}(h:ns≠[]):CT [.lst (ns.map .int)]=some (.int (My.NR ns)):=by
 show(iV (ns.map .int)).bind _=_;rw[jM,aA,if_neg h]
end
section
variable {ρ ρ':cU}{f g:Ev}{a b:Bv}{l:Lv}{x y d r:D}{xs ys zs:List D}{i j:Int}{k:Nat}{s t:Sv}{o:Option Out}
theorem XT{C:Addr}{n:Str}(h:f ρ=some x)(k:x9 C n x=some r):dS C n f ρ=some r:=by unfold dS;rw[h,aA,k]
theorem YI(h:f ρ=some x)(k:gO x=some xs):fO f ρ=some xs:=by
 unfold fO;rw[h,aA];cases x <;> first|exact k|cases k
theorem T3(h:l ρ=some [x,y])(k:gO x=some xs)(k2:gO y=some ys)(e:lT xs ys=zs):RP l ρ=some zs:=by
 unfold RP;rw[h,aA];show(gO x).bind _=_;rw[k,aA,k2,aB,e]
theorem XO{c:Bool}{z:Option D}(h:a ρ=some c)(k:W3 c (f ρ) (g ρ)=z):qc a f g ρ=z:=by unfold qc;rw[h,aA];exact k
theorem MY(q:g ρ=some d)(hx:aD k ρ=some x)(z:f ρ=some y)(h:lS x y d=some r):DF k f g ρ=some (.nx (ρ.set k (some r))):=by unfold DF;rw[q,aA,hx,aA,z,aA,h,aB]
theorem WD{G:D->D->Option D}(h:f ρ=some x)(h2:g ρ=some y)(k:G x y=some r):eNew G f g ρ=some r:=by unfold eNew;rw[h,aA,h2,aA,k]
theorem VQ{c:Bool}{z:Option D}(h:f ρ=some (.bl c))(k:W3 c (g ρ) (some (.bl false))=z):NP f g ρ=z:=by unfold NP;rw[h,aA];exact k
theorem XF{i j:Nat}:kS 2 (eA (aQ i) (eA (aQ j) tW)) (.tup [x,y]) ρ=some ((ρ.set i (some x)).set j (some y)):=rfl
theorem X5{i j k:Nat}{z:D}:kS 3 (eA (aQ i) (eA (aQ j) (eA (aQ k) tW))) (.tup [x,y,z]) ρ=some (((ρ.set i (some x)).set j (some y)).set k (some z)):=rfl
theorem qan:aQ k x ρ=some (ρ.set k (some x)):=rfl
end
end P
namespace My
open PySem PySem.Spec PyProof.Rows L2 PySem.SeqAt
def LtAt(A:zam)(s:zad)(u v:Value)(b:Bool):Prop:=
 ∀(prog:zah) (w:World) (E:Value->zad->Prop) (Q:Value->zad->Prop),Q (.bool b) s->wpAny (model prog w) A (richCompare .Lt u v) Q E s
inductive LtsAt(A:zam)(s:zad):List Value->List Value->Bool->Prop
 | nil:LtsAt A s [] [] false
 | less {w:Value} {ws:List Value}:LtsAt A s [] (w::ws) true
 | more {v:Value} {vs:List Value}:LtsAt A s (v::vs) [] false
 | eq {v w:Value} {vs ws:List Value} {b:Bool}:EqAt A s v w true->LtsAt A s vs ws b->LtsAt A s (v::vs) (w::ws) b
 | ne {v w:Value} {vs ws:List Value} {b:Bool}:EqAt A s v w false->LtAt A s v w b->LtsAt A s (v::vs) (w::ws) b
section
open PySem.AutoSeq1 (wpAny_loadPart')
open PySem.MeetsSeq PySem.MeetsSeq2 PySem.MeetsSeq3
theorem uC(l b:Addr)(items q:Array Value)(n n2:Nat)(dd M:Option Addr)(sl N:Array (Option Value))(r:Bool) :
  Meets (zbN.«tuple.__lt__» ⟨[.ref l,.ref b],[]⟩)
   (λA R s => s.heap.get? l = some {cls := .type "tuple", dict:=dd, data := .seq items n, slots:=sl} /\ s.heap.get? b = some {cls := .type "tuple", dict:=M, data := .seq q n2, slots:=N} /\
    LtsAt A.in1 s items.toList q.toList r/\R (.ok (.ret (.bool r))) s):=
 .of_wp λprog w A R s h=>by
  obtain⟨Y,g,d,tk,W⟩:=s;obtain⟨hl,hb,hi,h⟩:=h;have f2:=AutoSeq1.sub_tuple_tuple
  wp_walk using zbp hl,zbp hb,zcv _ (λrest b s'=>b.1=none/\s'=⟨Y,g,d,tk,W⟩/\∃(vs J:List Value),rest=vs.zip J /\
   LtsAt A.in1 ⟨Y,g,d,tk,W⟩ vs J r/\vs.length+q.size=J.length+items.size) _
  case turn=>
   rintro⟨y,x⟩ rest b s' ⟨F,rfl,vs,J,B,G,z⟩;cases G with
   | nil=>cases B
   | less=>cases B
   | more=>cases B
   | eq he hr=>
    rw[zcm]at B;injection B with hyx hrest
    injection hyx with hy hx
    subst hy hx;simp only[zaw]at z;refine zaa (he prog w _ _ ?_)
    wp_walk
    exact⟨rfl,rfl,_,_,hrest,hr,by lia⟩
   | ne he hr=>
    rw[zcm]at B;injection B with hyx hrest
    injection hyx with hy hx
    subst hy hx;refine zaa (he prog w _ _ ?_);have U:=hr prog w
    wp_walk using U
    exact⟨_,rfl,by simpa using h⟩
  case fin=>
   rintro⟨b1,b2⟩ s' ⟨F,rfl,vs,J,B,G,z⟩;simp only at F;subst F;have hv:r=decide (items.size<q.size):=by
    cases G with
    | nil=>
     simp only[zbn]at z;exact(decide_eq_false (by lia)).symm
    | less=>
     simp only[zbn,zaw]at z;exact(decide_eq_true (by lia)).symm
    | more=>
     simp only[zbn,zaw]at z;exact(decide_eq_false (by lia)).symm
    | eq _ _=>rw[zcm]at B;cases B
    | ne _ _=>rw[zcm]at B;cases B
   rw[hv]at h
   wp_walk
   exact⟨_,rfl,by simpa[zes]using h⟩
  case h=>
   exact⟨rfl,rfl,items.toList,q.toList,rfl,hi,by simp;lia⟩
end
theorem LtAt.tups{A:zam}{s:zad}{l b:Addr}{items q:Array Value}{r:Bool}(hl:IsTup s.heap l items)(hb:IsTup s.heap b q)(hi:LtsAt A.in1 s items.toList q.toList r)(hu:A.units<cLine):LtAt A s (.ref l) (.ref b) r:=λprog w E Q h=>by
 obtain⟨⟨cls,dd,data,sl⟩,U,W,n,hd⟩:=id hl;obtain⟨⟨Y,N,M,J⟩,G,B,n2,z⟩:=id hb;simp only at W hd B z;subst W hd B z;exact richCompare_meets_room (op:=.Lt) ⟨_,U,rfl⟩ ⟨_,G,rfl⟩ PySem.F.slot_tuple_lt PySem.F.entry_tuple_lt (PySem.F.args_tuple_lt_2 _ _) (uC l b items q n n2 dd N sl J r)
  ⟨U,G,hi,show zcu r≠Value.notImplemented/\Q (.bool r) s from⟨(λx=>nomatch x),h⟩⟩ hu
open Classical in
mutual
def DN:Dx->Dx->Option Bool
 | .int i,.int j=>some (decide (i<j))
 | .tup l,.tup m=>nJ l m
 | _,_=>none
def nJ:List Dx->List Dx->Option Bool
 | [],[]=>some false
 | [],_::_=>some true
 | _::_,[]=>some false
 | x::xs,y::ys=>if x=y then nJ xs ys else DN x y
end
section
variable {X:Cx}{pins:List (Addr×Obj)}{σ:L2.St}{H:Hp}{s:zad}
open Classical in
theorem FL(I:Inv X pins σ H s) :
  ∀(n:Nat) (A:zam) (d e:Dx) (x y:V) (u v:Value) (b:Bool),d.dep<=n->A.units+n<cLine->d.nb=true->e.nb=true->Rep X.K H d x->Rep X.K H e y->RelV x u->RelV y v->DN d e=some b->LtAt A s u v b
 | n,A,.int i,e,x,y,u,v,b,hd,hu,M,N,r1,r2,ru,rv,q=>by
  cases e with
  | int j=>
   rw[Rep]at r1 r2;subst r1 r2;obtain⟨t,rfl⟩:=ru;obtain⟨t',rfl⟩:=rv;rw[DN]at q;cases q;exact λprog w E Q h=>HT.zU A s i t j t' prog w E Q (by simpa using h)
  | _=>simp[DN]at q
 | 0,A,.tup l,e,x,y,u,v,b,hd,_,_,_,_,_,_,_,_=>by rw[Dx.dep]at hd;lia
 | n+1,A,.tup l,e,x,y,u,v,b,hd,hu,M,N,r1,r2,ru,rv,q=>by
  cases e with
  | tup m=>
   rw[Rep]at r1 r2;obtain⟨a,xs,rfl,h1,J⟩:=r1;cases ru;obtain⟨c,ys,rfl,h2,F⟩:=r2;cases rv;obtain⟨its,U,ht,_⟩:=I.tuple h1;obtain⟨B,G,aa,_⟩:=I.tuple h2;rw[DN]at q;rw[Dx.dep]at hd;rw[Dx.nb]at M N;have ha:A.in1.units+n<cLine:=by show A.units+1+n<cLine;lia
   refine LtAt.tups ht aa ?_ (by lia);have ac:∀(l m:List Dx) (xs ys:List V) (its B:List Value),oB l<=n->JB l=true->JB m=true->RepL X.K H l xs->RepL X.K H m ys->Vals xs its->Vals ys B->nJ l m=some b->LtsAt A.in1 s its B b:=by
    intro l;induction l with
    | nil=>
     intro m xs ys its B _ _ _ J F U G q;rw[RepL]at J;subst J;cases U;cases m with
     | nil=>rw[RepL]at F;subst F;cases G;rw[nJ]at q;cases q;exact .nil
     | cons y m=>rw[RepL]at F;obtain⟨y1,ab,rfl,_,_⟩:=F;cases G;rw[nJ]at q;cases q;exact .less
    | cons z l il=>
     intro m xs ys its B hd M N J F U G q;rw[RepL]at J;obtain⟨x1,ah,rfl,p1,J⟩:=J;cases U with
     | cons w1 U=>
      cases m with
      | nil=>rw[RepL]at F;subst F;cases G;rw[nJ]at q;cases q;exact .more
      | cons z2 m=>
       rw[RepL]at F;obtain⟨y1,ab,rfl,p2,F⟩:=F;cases G with
       | cons w2 G=>
        rw[oB]at hd;rw[JB,zaQ]at M N;have W:=pT I n A.in1 z z2 _ _ _ _ (by lia) ha M.1 N.1 p1 p2 w1 w2;rw[nJ]at q;by_cases Y:z=z2
        ·rw[if_pos Y]at q
         rw[decide_eq_true Y]at W;exact .eq W (il m _ _ _ _ (by lia) M.2 N.2 J F U G q)
        ·rw[if_neg Y]at q
         rw[decide_eq_false Y]at W;exact .ne W (FL I n A.in1 z z2 _ _ _ _ b (by lia) ha M.1 N.1 p1 p2 w1 w2 q)
   exact ac l m xs ys its B (by lia) M N J F U G q
  | _=>simp[DN]at q
 | n,A,.non,e,x,y,u,v,b,_,_,_,_,_,_,_,_,q=>by cases e <;> simp[DN]at q
 | n,A,.bl c,e,x,y,u,v,b,_,_,_,_,_,_,_,_,q=>by cases e <;> simp[DN]at q
 | n,A,.str c,e,x,y,u,v,b,_,_,_,_,_,_,_,_,q=>by cases e <;> simp[DN]at q
 | n,A,.lst c,e,x,y,u,v,b,_,_,_,_,_,_,_,_,q=>by cases e <;> simp[DN]at q
end
end My
namespace P
open PySem PySem.Spec PyProof.Rows L2
section
variable {X:Cx}
def A5(x y:D):Option D:=if fR x=true/\fR y=true then(gZ x).bind λa=>(gZ y).bind λb=>(My.DN a b).map .bl else none
theorem TK(U:X.A.units+60<cLine):kO X (zaA .Lt) A5:=by
 rintro pins s σ H x y v u Q I N M ⟨A,dx,W,d,lv,r1,r2,e,q⟩;unfold A5 at e;by_cases h:fR dx=true/\fR W=true
 ·rw[if_pos h]at e
  obtain⟨a,z,e⟩:=bind_some e;obtain⟨b,F,e⟩:=bind_some e;obtain⟨c,Y,rfl⟩:=map_some e;obtain⟨a',G,J,a3⟩:=gW h.1;obtain⟨b',B,b2,b3⟩:=gW h.2;rw[z]at G;cases G;rw[F]at B;cases B;exact My.FL I 60 X.A a b x y v u c a3 U J b2 (fX z r1) (fX F r2) N M Y _ _ _ _ ⟨.bl c,H,I,rfl,q _ H (Ext.refl _ _) (.bl _)⟩
 ·rw[if_neg h]at e;cases e
theorem ZU{j:Nat}(q:Room j X.A):kO X (zaA .Lt) A5:=TK (zcC (zef (by decide:60<=64) _) q.units)
end
end P
namespace Law
open PySem PySem.Spec PyProof.Rows L2 P
local macro_rules | `(tactic|ac_rfl) => `(tactic|first
 | (with_reducible first|exact qax|exact qan|exact XF|exact X5|exact at0|exact at1|exact at2|exact W9|exact WE|exact T7|exact rfl|assumption)
 | ((with_reducible apply WH);exact rfl)
 | (with_reducible first|apply X9|apply VC|apply WC|apply F9|apply O0|apply P9|apply aM|apply UY|apply V1|apply NA|apply NC|apply VN|apply X2|apply YN|apply U4|apply V4|apply Q1|apply QB|apply WL|apply QE|apply F8|apply N2|apply YI|apply XT|apply T3|apply XO|apply VQ|apply MY|apply WD|apply YG|apply VB|apply V8|apply YE|apply M2) <;> ac_rfl
 | ((with_reducible apply ZE);(with_reducible first|exact rfl|(apply decide_eq_true;assumption));ac_rfl)
 | ((with_reducible apply Z1);(with_reducible first|exact rfl|(apply decide_eq_false;assumption));ac_rfl)
 | (with_reducible apply ZE) <;> ac_rfl
 | (with_reducible apply Z1) <;> ac_rfl
 | (with_reducible first|apply bQ|apply hV|apply q_eqI|apply Y3|apply UR|apply RN|apply xI|apply decide_eq_true|apply decide_eq_false) <;> ac_rfl
 | (show bD _ _ _ _ _=_;assumption)
 | (apply aM <;> ac_rfl)
 | (apply M2 <;> ac_rfl)
 | (apply MY <;> ac_rfl)
 | exact rfl
 | exact zcq rfl
 | decide
 | lia)
local macro_rules | `(tactic|simp_all[$xs,*]) => `(tactic|simp[-zac, -zab, aA, aB, $xs,*])
abbrev CN:Addr:=111
abbrev CA:Addr:=137
theorem at5{a b c d e f:D}{l:List D}:gD (a::b::c::d::e::f::l) 5=some f:=bV (j:=5) rfl
theorem at6{a b c d e f g:D}{l:List D}:gD (a::b::c::d::e::f::g::l) 6=some g:=bV (j:=6) rfl
structure Mk where
 nm:Str
 takes:List Int
 g:Int
 f:D
 pr:Int
def kI(m:Mk):D:=.tup [.str m.nm,tupI m.takes,.int m.g,m.f,.int m.pr]
structure Bk where
 M:Int
 kinds:List Str
 rs:List Ro
 makes:List Mk
def bF(C:Bk):D:=.tup [.int C.M,.tup (C.kinds.map .str),.tup (C.rs.map kW),.tup (C.makes.map kI)]
structure OkB(C:Bk):Prop where
 M3:3<=C.M
 M60:C.M<10^60
 k1:1<=C.kinds.length
 k6:C.kinds.length<=6
 gr:GR C.M (C.kinds.length:Int) C.rs
 tk:∀m∈C.makes,(∃t,m.takes=[t])\/∃t u,m.takes=[t,u]
 tb:∀m∈C.makes,∀t∈m.takes,0<=t/\t<(C.kinds.length:Int)
 gb:∀m∈C.makes,0<=m.g/\m.g<(C.kinds.length:Int)
 ml:C.makes.length<=6
inductive Rg where
 | name (x:Str) (j:Int) (w:List Int)
 | num (n j:Int) (w:List Int)
 | use1 (v:Nat) (nm:Str) (p:Rg) (w:List Int)
 | use2 (v:Nat) (nm:Str) (p q:Rg) (w:List Int)
 | lett (x:Str) (j:Int) (p q:Rg)
 | pick (c k:Int) (p q r:Rg) (w:List Int)
 | again (n k:Int) (x:Str) (p q:Rg) (w:List Int)
def pt:Rg->D
 | .name x _ _=>.tup [.str "name",.str x]
 | .num n j _=>.tup [.str "number",.int n,.int j]
 | .use1 _ nm p _=>.tup [.str "use",.str nm,.tup [pt p]]
 | .use2 _ nm p q _=>.tup [.str "use",.str nm,.tup [pt p,pt q]]
 | .lett x _ p q=>.tup [.str "let",.str x,pt p,pt q]
 | .pick c k p q r _=>.tup [.str "pick",.int c,.int k,pt p,pt q,pt r]
 | .again n k x p q _=>.tup [.str "again",.int n,.int k,.str x,pt p,pt q]
def rd:Rg->D
 | .name x _ w=>.tup [.str "name",.str x,tupI w]
 | .num n j w=>.tup [.str "number",.int n,.int j,tupI w]
 | .use1 v _ p w=>.tup [.str "use",.int (v:Int),.tup [rd p],tupI w]
 | .use2 v _ p q w=>.tup [.str "use",.int (v:Int),.tup [rd p,rd q],tupI w]
 | .lett x j p q=>.tup [.str "let",.str x,.int j,rd p,rd q]
 | .pick c k p q r w=>.tup [.str "pick",.int c,.int k,rd p,rd q,rd r,tupI w]
 | .again n k x p q w=>.tup [.str "again",.int n,.int k,.str x,rd p,rd q,tupI w]
def beh:Rg->List Int->Rg
 | .name x j w,v=>.name x j (w++v)
 | .num n j w,v=>.num n j (w++v)
 | .use1 u nm p w,v=>.use1 u nm p (w++v)
 | .use2 u nm p q w,v=>.use2 u nm p q (w++v)
 | .lett x j p q,v=>.lett x j p (beh q v)
 | .pick c k p q r w,v=>.pick c k p q r (w++v)
 | .again n k x p q w,v=>.again n k x p q (w++v)
def size:Rg->Nat
 | .name _ _ _=>1
 | .num _ _ _=>1
 | .use1 _ _ p _=>1+size p
 | .use2 _ _ p q _=>1+(size p+size q)
 | .lett _ _ p q=>1+(size p+size q)
 | .pick _ _ p q r _=>1+(size p+(size q+size r))
 | .again _ _ _ p q _=>1+(size p+size q)
def lets:Rg->Int
 | .name _ _ _=>0
 | .num _ _ _=>0
 | .use1 _ _ p _=>lets p
 | .use2 _ _ p q _=>lets p+lets q
 | .lett _ _ p q=>1+(lets p+lets q)
 | .pick _ _ p q r _=>lets p+(lets q+lets r)
 | .again _ _ _ p q _=>lets p+lets q
noncomputable def mpr(C:Bk)(v:Nat):Int:=((C.makes[v]?).map Mk.pr).getD 0
def cost(C:Bk):Rg->Int
 | .name _ _ w=>gC C.rs w
 | .num _ _ w=>gC C.rs w
 | .use1 v _ p w=>mpr C v+gC C.rs w+cost C p
 | .use2 v _ p q w=>mpr C v+gC C.rs w+(cost C p+cost C q)
 | .lett _ _ p q=>cost C p+cost C q
 | .pick _ _ p q r w=>gC C.rs w+(cost C p+(cost C q+cost C r))
 | .again _ _ _ p q w=>gC C.rs w+(cost C p+cost C q)
def WF(C:Bk):List (Str×Int)->Rg->Int->Prop
 | kn,.name x j w,e=>(x,j)∈kn/\gw C.rs j w=some e
 | kn,.num n j w,e=>(0<=n/\n<C.M)/\(0<=j/\j<(C.kinds.length:Int))/\gw C.rs j w=some e
 | kn,.use1 v nm p w,e=>∃m t,C.makes[v]?=some m/\m.nm=nm/\m.takes=[t]/\WF C kn p t/\gw C.rs m.g w=some e
 | kn,.use2 v nm p q w,e=>∃m t u,C.makes[v]?=some m/\m.nm=nm/\m.takes=[t,u]/\WF C kn p t/\WF C kn q u/\gw C.rs m.g w=some e
 | kn,.lett x j p q,e=>WF C kn p j/\WF C ((x,j)::kn) q e
 | kn,.pick c k p q r w,e=>(0<=c/\c<(C.kinds.length:Int))/\(0<=k/\k<(C.kinds.length:Int))/\WF C kn p c/\WF C kn q k/\WF C kn r k/\gw C.rs k w=some e
 | kn,.again n k x p q w,e=>(0<=n/\n<4)/\(0<=k/\k<(C.kinds.length:Int))/\WF C kn p k/\WF C ((x,k)::kn) q k/\gw C.rs k w=some e
theorem WF.mono{C:Bk}:∀ {g:Rg} {kn kn':List (Str×Int)} {e:Int},WF C kn g e->(∀p∈kn,p∈kn')->WF C kn' g e
 | .name x j w,kn,kn',e,⟨a,b⟩,h=>⟨h _ a,b⟩
 | .num n j w,kn,kn',e,a,h=>a
 | .use1 v nm p w,kn,kn',e,⟨m,t,a,b,c,d,f⟩,h=>⟨m,t,a,b,c,d.mono h,f⟩
 | .use2 v nm p q w,kn,kn',e,⟨m,t,u,a,b,c,d,d2,f⟩,h=>⟨m,t,u,a,b,c,d.mono h,d2.mono h,f⟩
 | .lett x j p q,kn,kn',e,⟨a,b⟩,h=>⟨a.mono h,b.mono λy B=>(List.mem_cons.mp B).elim (λz=>z ▸ zat ..) λz=>zap _ (h y z)⟩
 | .pick c k p q r w,kn,kn',e,⟨a,b,c1,c2,c3,d⟩,h=>⟨a,b,c1.mono h,c2.mono h,c3.mono h,d⟩
 | .again n k x p q w,kn,kn',e,⟨a,b,c1,c2,d⟩,h=>⟨a,b,c1.mono h,c2.mono λy B=>(List.mem_cons.mp B).elim (λz=>z ▸ zat ..) λz=>zap _ (h y z),d⟩
theorem vT{rs:List Ro}{j e f:Int}{v w:List Int}(h:gw rs j v=some e)(k:gw rs e w=some f):gw rs j (v++w)=some f:=by
 rw[nL,h];exact k
theorem WF.beh{C:Bk}{v:List Int}{f:Int}:∀ {g:Rg} {kn:List (Str×Int)} {e:Int},WF C kn g e->gw C.rs e v=some f->WF C kn (beh g v) f
 | .name x j w,kn,e,⟨a,b⟩,h=>⟨a,vT b h⟩
 | .num n j w,kn,e,⟨a,b,c⟩,h=>⟨a,b,vT c h⟩
 | .use1 u nm p w,kn,e,⟨m,t,a,b,c,d,f⟩,h=>⟨m,t,a,b,c,d,vT f h⟩
 | .use2 u nm p q w,kn,e,⟨m,t,u',a,b,c,d,d2,f⟩,h=>⟨m,t,u',a,b,c,d,d2,vT f h⟩
 | .lett x j p q,kn,e,⟨a,b⟩,h=>⟨a,b.beh h⟩
 | .pick c k p q r w,kn,e,⟨a,b,c1,c2,c3,d⟩,h=>⟨a,b,c1,c2,c3,vT d h⟩
 | .again n k x p q w,kn,e,⟨a,b,c1,c2,d⟩,h=>⟨a,b,c1,c2,vT d h⟩
theorem mL:∀(g:Rg) (v:List Int),size (beh g v)=size g
 | .name ..,_=>rfl
 | .num ..,_=>rfl
 | .use1 ..,_=>rfl
 | .use2 ..,_=>rfl
 | .lett x j p q,v=>by rw[beh,size,size,mL q v]
 | .pick ..,_=>rfl
 | .again ..,_=>rfl
theorem sF:∀(g:Rg) (v:List Int),lets (beh g v)=lets g
 | .name ..,_=>rfl
 | .num ..,_=>rfl
 | .use1 ..,_=>rfl
 | .use2 ..,_=>rfl
 | .lett x j p q,v=>by rw[beh,lets,lets,sF q v]
 | .pick ..,_=>rfl
 | .again ..,_=>rfl
theorem MG:∀(g:Rg) (v:List Int),pt (beh g v)=pt g
 | .name ..,_=>rfl
 | .num ..,_=>rfl
 | .use1 ..,_=>rfl
 | .use2 ..,_=>rfl
 | .lett x j p q,v=>by rw[beh,pt,pt,MG q v]
 | .pick ..,_=>rfl
 | .again ..,_=>rfl
theorem zS{C:Bk}:∀(g:Rg) (v:List Int),cost C (beh g v)=cost C g+gC C.rs v
 | .name ..,_=>by simp only[beh,cost,eD]
 | .num ..,_=>by simp only[beh,cost,eD]
 | .use1 ..,_=>by simp only[beh,cost,eD];lia
 | .use2 ..,_=>by simp only[beh,cost,eD];lia
 | .lett x j p q,v=>by simp only[beh,cost,zS q v];lia
 | .pick ..,_=>by simp only[beh,cost,eD];lia
 | .again ..,_=>by simp only[beh,cost,eD];lia
def Short:Rg->Prop
 | .name _ _ w=>w.length<=6
 | .num _ _ w=>w.length<=6
 | .use1 _ _ p w=>Short p/\w.length<=6
 | .use2 _ _ p q w=>Short p/\Short q/\w.length<=6
 | .lett _ _ p q=>Short p/\Short q
 | .pick _ _ p q r w=>Short p/\Short q/\Short r/\w.length<=6
 | .again _ _ _ p q w=>Short p/\Short q/\w.length<=6
theorem dU{C:Bk}(B:OkB C){j e:Int}{w:List Int}(h:gw C.rs j w=some e)(z:0<=j)(q:j<(C.kinds.length:Int)):w.length<=6/\0<=e/\e<(C.kinds.length:Int):=by
 have a:=j7 B.gr h;have b:=SU B.gr h q;have:=B.k6;exact⟨by lia,by lia,b⟩
def OkN(C:Bk)(kn:List (Str×Int)):Prop:=∀p∈kn,0<=p.2/\p.2<(C.kinds.length:Int)
theorem OkN.cons{C:Bk}{kn:List (Str×Int)}{x:Str}{j:Int}(h:OkN C kn)(a:0<=j)(b:j<(C.kinds.length:Int)):OkN C ((x,j)::kn):=λp q=>by
 rcases List.mem_cons.mp q with z|z
 ·rw[z];exact⟨a,b⟩
 ·exact h p z
theorem WF.short{C:Bk}(B:OkB C):∀ {g:Rg} {kn:List (Str×Int)} {e:Int},OkN C kn->WF C kn g e->Short g/\0<=e/\e<(C.kinds.length:Int)
 | .name x j w,kn,e,K,⟨a,b⟩=>dU B b (K _ a).1 (K _ a).2
 | .num n j w,kn,e,K,⟨a,b,c⟩=>dU B c b.1 b.2
 | .use1 v nm p w,kn,e,K,⟨m,t,a,b,c,d,f⟩=>by
  have z:=zax a;have s:=dU B f (B.gb m z).1 (B.gb m z).2;exact⟨⟨(d.short B K).1,s.1⟩,s.2⟩
 | .use2 v nm p q w,kn,e,K,⟨m,t,u,a,b,c,d,d2,f⟩=>by
  have z:=zax a;have s:=dU B f (B.gb m z).1 (B.gb m z).2;exact⟨⟨(d.short B K).1,(d2.short B K).1,s.1⟩,s.2⟩
 | .lett x j p q,kn,e,K,⟨a,b⟩=>by
  have F:=a.short B K;have G:=b.short B (K.cons F.2.1 F.2.2);exact⟨⟨F.1,G.1⟩,G.2⟩
 | .pick c k p q r w,kn,e,K,⟨a,b,c1,c2,c3,d⟩=>by
  have s:=dU B d b.1 b.2;exact⟨⟨(c1.short B K).1,(c2.short B K).1,(c3.short B K).1,s.1⟩,s.2⟩
 | .again n k x p q w,kn,e,K,⟨a,b,c1,c2,d⟩=>by
  have s:=dU B d b.1 b.2;exact⟨⟨(c1.short B K).1,(c2.short B (K.cons b.1 b.2)).1,s.1⟩,s.2⟩
def NF(U:List Str):List Str->Rg->Prop
 | _,.name _ _ _=>True
 | _,.num _ _ _=>True
 | N,.use1 _ _ p _=>NF U N p
 | N,.use2 _ _ p q _=>NF U N p/\NF U N q
 | N,.lett x _ p q=>NF U N p/\(x∉N/\x∈U)/\NF U (x::N) q
 | N,.pick _ _ p q r _=>NF U N p/\NF U N q/\NF U N r
 | N,.again _ _ x p q _=>NF U N p/\(x∉N/\x∈U)/\NF U (x::N) q
theorem NF.anti{U:List Str}:∀ {g:Rg} {N N':List Str},NF U N g->(∀y∈N',y∈N)->NF U N' g
 | .name ..,_,_,_,_=>trivial
 | .num ..,_,_,_,_=>trivial
 | .use1 u nm p w,N,N',h,k=>NF.anti (g:=p) (N:=N) h k
 | .use2 ..,N,N',⟨a,b⟩,k=>⟨NF.anti a k,NF.anti b k⟩
 | .lett x j p q,N,N',⟨a,b,c⟩,k=>⟨NF.anti a k,⟨λz=>b.1 (k _ z),b.2⟩,NF.anti c λy B=>(List.mem_cons.mp B).elim (λz=>z ▸ zat ..) λz=>zap _ (k y z)⟩
 | .pick ..,N,N',⟨a,b,c⟩,k=>⟨NF.anti a k,NF.anti b k,NF.anti c k⟩
 | .again n k' x p q w,N,N',⟨a,b,c⟩,k=>⟨NF.anti a k,⟨λz=>b.1 (k _ z),b.2⟩,NF.anti c λy B=>(List.mem_cons.mp B).elim (λz=>z ▸ zat ..) λz=>zap _ (k y z)⟩
theorem NF.beh{U:List Str}{v:List Int}:∀ {g:Rg} {N:List Str},NF U N g->NF U N (beh g v)
 | .name ..,_,_=>trivial
 | .num ..,_,_=>trivial
 | .use1 ..,N,h=>h
 | .use2 ..,N,h=>h
 | .lett x j p q,N,⟨a,b,c⟩=>⟨a,b,c.beh⟩
 | .pick ..,N,h=>h
 | .again ..,N,h=>h
inductive Pa where
 | name (x:Str)
 | num (n j:Int)
 | use1 (nm:Str) (p:Pa)
 | use2 (nm:Str) (p q:Pa)
 | lett (x:Str) (p q:Pa)
 | pick (c k:Int) (p q r:Pa)
 | again (n k:Int) (x:Str) (p q:Pa)
def pa:Rg->Pa
 | .name x _ _=>.name x
 | .num n j _=>.num n j
 | .use1 _ nm p _=>.use1 nm (pa p)
 | .use2 _ nm p q _=>.use2 nm (pa p) (pa q)
 | .lett x _ p q=>.lett x (pa p) (pa q)
 | .pick c k p q r _=>.pick c k (pa p) (pa q) (pa r)
 | .again n k x p q _=>.again n k x (pa p) (pa q)
def bK:Pa->D
 | .name x=>.tup [.str "name",.str x]
 | .num n j=>.tup [.str "number",.int n,.int j]
 | .use1 nm p=>.tup [.str "use",.str nm,.tup [bK p]]
 | .use2 nm p q=>.tup [.str "use",.str nm,.tup [bK p,bK q]]
 | .lett x p q=>.tup [.str "let",.str x,bK p,bK q]
 | .pick c k p q r=>.tup [.str "pick",.int c,.int k,bK p,bK q,bK r]
 | .again n k x p q=>.tup [.str "again",.int n,.int k,.str x,bK p,bK q]
def psz:Pa->Nat
 | .name _=>1
 | .num _ _=>1
 | .use1 _ p=>1+psz p
 | .use2 _ p q=>1+(psz p+psz q)
 | .lett _ p q=>1+(psz p+psz q)
 | .pick _ _ p q r=>1+(psz p+(psz q+psz r))
 | .again _ _ _ p q=>1+(psz p+psz q)
theorem cC:∀g:Rg,psz (pa g)=size g
 | .name ..=>rfl
 | .num ..=>rfl
 | .use1 _ _ p _=>by simp only[pa,psz,size,cC p]
 | .use2 _ _ p q _=>by simp only[pa,psz,size,cC p,cC q]
 | .lett _ _ p q=>by simp only[pa,psz,size,cC p,cC q]
 | .pick _ _ p q r _=>by simp only[pa,psz,size,cC p,cC q,cC r]
 | .again _ _ _ p q _=>by simp only[pa,psz,size,cC p,cC q]
theorem gP:∀g:Rg,pt g=bK (pa g)
 | .name ..=>rfl
 | .num ..=>rfl
 | .use1 _ _ p _=>by simp only[pa,bK,pt,gP p]
 | .use2 _ _ p q _=>by simp only[pa,bK,pt,gP p,gP q]
 | .lett _ _ p q=>by simp only[pa,bK,pt,gP p,gP q]
 | .pick _ _ p q r _=>by simp only[pa,bK,pt,gP p,gP q,gP r]
 | .again _ _ _ p q _=>by simp only[pa,bK,pt,gP p,gP q]
theorem wI:∀ {p q:Pa},bK p=bK q->p=q:=by
 intro p;induction p with
 | name x=>intro q h;cases q <;> simp[-zac,-zab,aA,aB,bK]at h ⊢ <;> exact h
 | num n j=>intro q h;cases q <;> simp[-zac,-zab,aA,aB,bK]at h ⊢ <;> exact h
 | use1 nm p ih=>intro q h;cases q <;> simp[-zac,-zab,aA,aB,bK]at h ⊢ <;> exact⟨h.1,ih h.2⟩
 | use2 nm p q ih1 ih2=>intro q h;cases q <;> simp[-zac,-zab,aA,aB,bK]at h ⊢ <;> exact⟨h.1,ih1 h.2.1,ih2 h.2.2⟩
 | lett x p q ih1 ih2=>intro q h;cases q <;> simp[-zac,-zab,aA,aB,bK]at h ⊢ <;> exact⟨h.1,ih1 h.2.1,ih2 h.2.2⟩
 | pick c k p q r ih1 ih2 ih3=>intro q h;cases q <;> simp[-zac,-zab,aA,aB,bK]at h ⊢ <;> first|exact⟨h.1,h.2.1,ih1 h.2.2.1,ih2 h.2.2.2.1,ih3 h.2.2.2.2⟩|exact absurd h.1 (by decide)
 | again n k x p q ih1 ih2=>intro q h;cases q <;> simp[-zac,-zab,aA,aB,bK]at h ⊢ <;> first|exact⟨h.1,h.2.1,h.2.2.1,ih1 h.2.2.2.1,ih2 h.2.2.2.2⟩|exact absurd h.1 (by decide)
theorem nE{q:Type}{f:q->D}(h:∀a b,f a=f b->a=b):∀ {l m:List q},l.map f=m.map f->l=m
 | [],[],_=>rfl
 | [],_::_,e=>nomatch e
 | _::_,[],e=>nomatch e
 | a::l,b::m,e=>by injection e with e1 e2;rw[h _ _ e1,nE h e2]
theorem OH(a b:Mk)(h:kI a=kI b):a=b:=by
 unfold kI tupI at h;simp only[D.tup.injEq,zen,D.str.injEq,D.int.injEq,and_true]at h;obtain⟨h1,h2,z,q,B⟩:=h;have:=nE (f:=D.int) (λ_ _ e=>by injection e) h2;cases a;cases b;simp only at *;subst h1 z q B this;rfl
theorem OA(a b:Ro)(h:kW a=kW b):a=b:=by
 unfold kW at h;simp only[D.tup.injEq,zen,D.int.injEq,and_true]at h;obtain⟨h1,h2,z,q,B⟩:=h;cases a;cases b;simp only at *;subst h1 h2 z q B;rfl
theorem wH{a b:Bk}(h:bF a=bF b):a=b:=by
 unfold bF at h;simp only[D.tup.injEq,zen,D.int.injEq,and_true]at h;obtain⟨h1,h2,G,F⟩:=h;have q:=nE (f:=D.str) (λ_ _ e=>by injection e) h2;have B:=nE OA G;have z:=nE OH F;cases a;cases b;simp only at *;subst h1 q B z;rfl
noncomputable def fB(h:Option Str)(acc l:List Str):List Str:=acc++l.filter λx=>!decide (some x=h) && !decide (x∈acc)
def aP:Pa->List Str
 | .name x=>[x]
 | .num _ _=>[]
 | .use1 _ p=>fB none [] (aP p)
 | .use2 _ p q=>fB none (fB none [] (aP p)) (aP q)
 | .lett x p q=>fB (some x) (fB none [] (aP p)) (aP q)
 | .pick _ _ p q r=>fB none (fB none (fB none [] (aP p)) (aP q)) (aP r)
 | .again _ _ x p q=>fB (some x) (fB none [] (aP p)) (aP q)
abbrev Sm:=Option (Int×Int)
def pH:Sm->Sm->Sm
 | some a,some b=>some (a.1*b.1,a.2+b.2)
 | _,_=>none
def c8:Sm->Sm->Sm
 | some a,some b=>some (a.1+b.1,min a.2 b.2)
 | none,b=>b
 | a,none=>a
def NX(C:Bk)(j k:Int):Sm:=
 if(bG C.rs k 8 j).length=0 then none else some (((bG C.rs k 8 j).length:Int),My.NR ((bG C.rs k 8 j).map (gC C.rs)))
def csum(C:Bk)(own j k:Int)(q:List Sm):Sm:=q.foldl pH (pH (some (1,own)) (NX C j k))
abbrev eI:=Str->Int
def eU(e:eI)(x:Str)(j:Int):eI:=λy=>if y=x then j else e y
noncomputable def aT(C:Bk)(v i:Nat):Int:=(((C.makes[v]?).map Mk.takes).getD [])[i]?.getD 0
noncomputable def dD(C:Bk)(v:Nat):Int:=((C.makes[v]?).map Mk.g).getD 0
noncomputable def nK(C:Bk)(nm:Str)(n:Nat):List Nat:=(zar C.makes.length).filter λv=>match C.makes[v]? with
 | some m=>decide (m.nm=nm) && decide (m.takes.length=n)
 | none=>false
def aU(C:Bk):Pa->eI->Int->Sm
 | .name x,e,k=>csum C 0 (e x) k []
 | .num _ j,_,k=>csum C 0 j k []
 | .use1 nm p,e,k=>(nK C nm 1).foldl (λt v=>c8 t (csum C (mpr C v) (dD C v) k [aU C p e (aT C v 0)])) none
 | .use2 nm p q,e,k=>(nK C nm 2).foldl (λt v=>c8 t (csum C (mpr C v) (dD C v) k [aU C p e (aT C v 0),aU C q e (aT C v 1)])) none
 | .lett x p q,e,k=>(zar C.kinds.length).foldl (λt (j:Nat)=>c8 t (csum C 0 k k [aU C p e (j:Int),aU C q (eU e x (j:Int)) k])) none
 | .pick c k' p q r,e,k=>csum C 0 k' k [aU C p e c,aU C q e k',aU C r e k']
 | .again _ k' x p q,e,k=>csum C 0 k' k [aU C p e k',aU C q (eU e x k') k']
theorem bA{h:Option Str}{acc l:List Str}{x:Str}:x∈fB h acc l↔x∈acc\/(x∈l/\some x≠h):=by
 unfold fB;by_cases hx:x∈acc <;> simp_all[hx]
theorem b9(C:Bk):∀(p:Pa) (e f:eI) (k:Int),(∀x∈aP p,e x=f x)->aU C p e k=aU C p f k
 | .name x,e,f,k,h=>by simp only[aU,h x (by simp_all[aP])]
 | .num _ j,e,f,k,h=>rfl
 | .use1 nm p,e,f,k,h=>by
  have a:=λk=>b9 C p e f k λx hx=>h x (by simp only[aP,bA];exact .inr ⟨hx,by simp[-zac,-zab,aA,aB]⟩)
  simp only[aU,a]
 | .use2 nm p q,e,f,k,h=>by
  have a:=λk=>b9 C p e f k λx hx=>h x (by simp only[aP,bA];exact .inl (.inr ⟨hx,by simp[-zac,-zab,aA,aB]⟩))
  have b:=λk=>b9 C q e f k λx hx=>h x (by simp only[aP,bA];exact .inr ⟨hx,by simp[-zac,-zab,aA,aB]⟩)
  simp only[aU,a,b]
 | .lett y p q,e,f,k,h=>by
  have a:=λk=>b9 C p e f k λx hx=>h x (by simp only[aP,bA];exact .inl (.inr ⟨hx,by simp[-zac,-zab,aA,aB]⟩))
  have b:=λj k=>b9 C q (eU e y j) (eU f y j) k λx hx=>by
   unfold eU;by_cases z:x=y
   ·rw[if_pos z,if_pos z]
   ·rw[if_neg z,if_neg z];exact h x (by simp only[aP,bA];exact .inr ⟨hx,by simpa using z⟩)
  simp only[aU,a,b]
 | .pick c k' p q r,e,f,k,h=>by
  have a:=λk=>b9 C p e f k λx hx=>h x (by simp only[aP,bA];exact .inl (.inl (.inr ⟨hx,by simp[-zac,-zab,aA,aB]⟩)))
  have b:=λk=>b9 C q e f k λx hx=>h x (by simp only[aP,bA];exact .inl (.inr ⟨hx,by simp[-zac,-zab,aA,aB]⟩))
  have c:=λk=>b9 C r e f k λx hx=>h x (by simp only[aP,bA];exact .inr ⟨hx,by simp[-zac,-zab,aA,aB]⟩)
  simp only[aU,a,b,c]
 | .again n k' y p q,e,f,k,h=>by
  have a:=λk=>b9 C p e f k λx hx=>h x (by simp only[aP,bA];exact .inl (.inr ⟨hx,by simp[-zac,-zab,aA,aB]⟩))
  have b:=λj k=>b9 C q (eU e y j) (eU f y j) k λx hx=>by
   unfold eU;by_cases z:x=y
   ·rw[if_pos z,if_pos z]
   ·rw[if_neg z,if_neg z];exact h x (by simp only[aP,bA];exact .inr ⟨hx,by simpa using z⟩)
  simp only[aU,a,b]
def IS:List Str->List Int->eI
 | x::xs,j::js=>eU (IS xs js) x j
 | _,_=>λ_=>0
theorem yZ(e:eI):∀ {xs:List Str} {x:Str},x∈xs->IS xs (xs.map e) x=e x
 | [],_,h=>nomatch h
 | y::ys,x,h=>by
  show eU (IS ys (ys.map e)) y (e y) x=e x;unfold eU;by_cases z:x=y
  ·rw[if_pos z,z]
  ·rw[if_neg z];exact yZ e ((List.mem_cons.mp h).resolve_left z)
def WT:Key->Int
 | .inl i=>i
 | .inr _=>0
noncomputable def vQ(m:Nat):Nat->List (List Int)
 | 0=>[[]]
 | n+1=>(vQ m n).flatMap λl=>(zar m).map λ(j:Nat)=>(j:Int)::l
theorem uQ(m:Nat):∀n,(vQ m n).length=m^n
 | 0=>rfl
 | n+1=>by
  have h:∀L:List (List Int),(L.flatMap λl=>(zar m).map λ(j:Nat)=>(j:Int)::l).length=L.length*m:=λL=>by
   induction L with
   | nil=>simp[-zac,-zab,aA,aB]
   | cons a L ih=>rw[List.flatMap_cons,zbc,ih,zal,zcH,zaw,Nat.succ_mul,Nat.add_comm]
  rw[vQ,h,uQ m n,Nat.pow_succ]
theorem u5(m:Nat):∀ {n:Nat} {l:List Int},l.length=n->(∀j∈l,0<=j/\j<(m:Int))->l∈vQ m n
 | 0,[],_,_=>by simp_all[vQ]
 | n+1,j::l,hl,h=>by
  have a:=u5 m (n:=n) (l:=l) (by simpa using hl) λi hi=>h i (zap _ hi)
  have b:=h j (zat ..);refine List.mem_flatMap.mpr ⟨l,a,List.mem_map.mpr ⟨j.toNat,List.mem_range.mpr (by lia),?_⟩⟩;rw[show((j.toNat:Nat):Int)=j by lia]
open Classical in
def FF(b p:D):My.Mf:=λk=>if h:∃q:Bk×Pa,b=bF q.1/\p=bK q.2 then aU h.choose.1 h.choose.2 (IS (aP h.choose.2) (k.2.map WT)) (WT k.1)else none
open Classical in
def DM(b p:D):List My.NK:=if h:∃q:Bk×Pa,b=bF q.1/\p=bK q.2 then(vQ h.choose.1.kinds.length ((aP h.choose.2).length+1)).map λl=>match l with
 | j::l=>(.inl j,l.map .inl)
 | []=>(.inl 0,[])else []
theorem YB(C:Bk)(p:Pa)(k:Int)(l:List Int):FF (bF C) (bK p) (.inl k,l.map .inl)=aU C p (IS (aP p) l) k:=by
 have h:∃q:Bk×Pa,bF C=bF q.1/\bK p=bK q.2:=⟨(C,p),rfl,rfl⟩;unfold FF;rw[dif_pos h];have B:=wH h.choose_spec.1;have z:=wI h.choose_spec.2;rw[<- B,<- z,zav];have e:(WT ∘ zbs:Int->Int)=id:=rfl;rw[e,List.map_id];rfl
theorem YO{C:Bk}{p:Pa}{k:Int}{l:List Int}(M:0<=k/\k<(C.kinds.length:Int))(F:l.length=(aP p).length)(h:∀j∈l,0<=j/\j<(C.kinds.length:Int)):((.inl k,l.map .inl):My.NK)∈DM (bF C) (bK p):=by
 have B:∃q:Bk×Pa,bF C=bF q.1/\bK p=bK q.2:=⟨(C,p),rfl,rfl⟩;unfold DM;rw[dif_pos B];have G:=wH B.choose_spec.1;have J:=wI B.choose_spec.2;rw[<- G,<- J];refine List.mem_map.mpr ⟨k::l,u5 _ (by rw[zaw,F]) (λj N=>?_),rfl⟩;rcases List.mem_cons.mp N with z|z
 ·rw[z];exact M
 ·exact h j z
theorem V6{C:Bk}{p:Pa}(B:C.kinds.length<=6)(J:(aP p).length<=8):(DM (bF C) (bK p)).length<zaj:=by
 have z:∃q:Bk×Pa,bF C=bF q.1/\bK p=bK q.2:=⟨(C,p),rfl,rfl⟩;unfold DM;rw[dif_pos z];have F:=wH z.choose_spec.1;have G:=wI z.choose_spec.2;rw[<- F,<- G,zal,uQ];have a:C.kinds.length^((aP p).length+1)<=6^((aP p).length+1):=Nat.pow_le_pow_left B _;have b:(6:Nat)^((aP p).length+1)<=6^9:=Nat.pow_le_pow_right (by decide) (by lia);have c:(6:Nat)^9<zaj:=by decide
 lia
noncomputable def top(i:Nat):Stmt:=PySem.Challenge.pw_chiefway_k47_whole_order_of_readings.main.body.getD i (.Pass ⟨0,0,0,0⟩)
abbrev s_law:Stmt:=top 60
abbrev tb(x:Str)(i:Nat)(ps:List Str):=(x,i,ps)
def tab:List (Str×Nat×List Str):=[tb "_law_cell" 33 ["script", "k"],tb "_law_price" 35 ["cell"],tb "_law_road" 36 ["cell", "M", "j", "k"],tb "_law_roads" 37 ["script", "M", "many"],tb "_law_name" 34 ["cell", "n"],tb "_law_shape" 38 ["cell", "M", "n"],tb "_law_makes" 39 ["script", "M", "many"],tb "_law_book" 40 ["script"],tb "_law_heads" 54 ["script", "tome", "names"],tb "_law_back" 42 ["tome", "k", "cell"],tb "_law_cost" 43 ["tome", "way"],tb "_law_leaf" 45 ["tome", "known", "kind", "cell"],tb "_law_begun" 55 ["script", "tome", "names", "pairs"],tb "_law_walk" 41 ["tome", "j", "cell"],tb "_law_behind" 44 ["reading", "way"],tb "_law_walked" 52 ["tome", "state", "cell"],tb "_law_many" 56 ["script"],tb "_law_over" 46 ["part", "reading", "kind", "states", "cost"],tb "_law_used" 47 ["tome", "known", "state", "cell"],tb "_law_closed" 51 ["tome", "known", "state", "pair", "cell"],tb "_law_picked" 48 ["tome", "known", "state", "cell"],tb "_law_around" 49 ["tome", "known", "state", "name", "cell"],tb "_law_named" 50 ["tome", "known", "state", "name", "cell"],tb "_law_step" 53 ["tome", "names", "now", "cell"],tb "_law_grown" 57 ["script", "tome", "names", "pairs"],tb "_law_number" 58 ["script"],tb "ways" 7 ["book", "j", "k"],tb "way_price" 8 ["book", "way"],tb "ways_sum" 19 ["book", "routes"],tb "name_within" 5 ["part", "number"],tb "names_used" 17 ["part", "below"],tb "inner" 4 ["part"],tb "number_in" 25 ["total"],tb "choices" 10 ["book", "part"],tb "either" 21 ["one", "other"],tb "both" 20 ["one", "other"],tb "inner_kinds" 11 ["book", "part", "kind", "choice"],tb "inner_heads" 12 ["heads", "part", "number", "choice"],tb "spots" 24 ["atlas", "node", "heads", "kind", "choice"],tb "way_begins" 13 ["book", "heads", "part", "kind", "choice"],tb "sum_at" 22 ["atlas", "node", "heads", "kind"],tb "choice_sum" 23 ["atlas", "node", "heads", "kind", "choice"],tb "counts" 26 ["book", "heads", "part"],tb "parted" 31 ["n", "many"],tb "assembled" 14 ["part", "choice", "readings", "way"],tb "sizes" 30 ["atlas", "places", "routes"],tb "told_at" 28 ["atlas", "node", "heads", "kind", "n"],tb "told_choice" 29 ["atlas", "node", "heads", "kind", "choice", "n"],tb "told" 27 ["book", "heads", "part", "kind", "n"],tb "_law_in_order" 59 ["n", "one", "m", "other"]]
noncomputable def blt:List Str:=["dict", "enumerate", "int", "isinstance", "len", "list", "max", "min", "range", "reversed", "sum", "tuple", "zip"]
noncomputable def gis:List (Str×Int):=[]
theorem sc_law:FnScope ["script", "tome", "names", "pairs", "state", "part", "kind", "size", "n", "some", "found", "k"] ["script"] (aL s_law):=⟨rfl,rfl,rfl,by decide +kernel,rfl,by decide +kernel,by decide +kernel⟩
structure Txt(K:zae)(mg:Str->Option Value):Prop where
 d:∀p∈tab,My.DefAt K mg p.1 (top p.2.1) p.2.2
 b:∀x∈blt,mg x=none
 g:∀p∈gis,GInt mg p.1 p.2
 o_Node:ObT K mg "Node" "Node.__init__" "part" (inClass (top 16) 0) CN ["part", "below", "names", "found"]
 o_Atlas:ObT K mg "Atlas" "Atlas.__init__" "book" (inClass (top 18) 0) CA ["book", "routes", "spans"]
theorem Txt.n{K:zae}{mg:Str->Option Value}(T:Txt K mg){x:Str}(h:x∈blt:=by decide +kernel):mg x=none:=T.b x h
abbrev Tx(P:zah)(w:World)(K:zae)(mg:Str->Option Value)(base:Heap):Prop:=Txt K mg
abbrev Zt(x:Str)(ps:List Str)(k n:Nat):Type:={b:Sv // ∀ {P:zah} {w:World} {K:zae} {mg:Str->Option Value} {base:Heap},Tx P w K mg base->Fn P w K mg base x k ps (bJ n b)}
def gF(N:List Str)(i:Nat){x:Str}{ps:List Str}{k:Nat}{b:Sv}(h:∀ {P:zah} {w:World} {K:zae} {mg:Str->Option Value} {base:Heap} {B:Addr} {z:Value} {A:zam} {q:List Env} {H:Hp} {E:XK} (T:Tx P w K mg base) (s:zad) (nd:N.Nodup) (F:Room k (A.deeper (zaN x (aL (top i)) s.heap.objs.size B z))) (hu:(A.deeper (zaN x (aL (top i)) s.heap.objs.size B z)).units+1<cLine),∃g,eB (i7 uL P w K mg base N x (aL (top i)) B z A q s H E).nox ⟨[],[]⟩ [] (bU (top i)) g []/\g=b)(m:(x,i,ps)∈tab:=by decide +kernel)(sc:FnScope N ps (aL (top i)):=by exact⟨rfl,rfl,rfl,by decide +kernel,rfl,by decide +kernel,by decide +kernel⟩):Zt x ps (k+1) N.length:=⟨b,λT=>A3 (T.d _ m) sc λB z A q s H E F=>h T s sc.nd F (pK F)⟩
abbrev Zr(x:Str)(ps:List Str)(k n m:Nat):Type:={b:(List D->Option D)->Sv // ∀ {P:zah} {w:World} {K:zae} {mg:Str->Option Value} {base:Heap},Tx P w K mg base->Fn P w K mg base x (k+m+1) ps (i8 n b m)}
def JA(N:List Str)(i:Nat){x:Str}{ps:List Str}{k m:Nat}{b:(List D->Option D)->Sv}(h:∀ {P:zah} {w:World} {K:zae} {mg:Str->Option Value} {base:Heap} {fa:Addr} {cdv:Value} {A:zam} {outer:List Env} {H:Hp} {E:XK} (T:Tx P w K mg base) (R:List D->Option D) (j:Nat) (hj:k<=j) (ih:Fn P w K mg base x j ps R) (s:zad) (nd:N.Nodup) (hr:Room j (A.deeper (zaN x (aL (top i)) s.heap.objs.size fa cdv))) (hu:(A.deeper (zaN x (aL (top i)) s.heap.objs.size fa cdv)).units+1<cLine),∃g,eB (i7 uL P w K mg base N x (aL (top i)) fa cdv A outer s H E).nox ⟨[],[]⟩ [] (bU (top i)) g []/\g=b R)(me:(x,i,ps)∈tab:=by decide +kernel)(sc:FnScope N ps (aL (top i)):=by exact⟨rfl,rfl,rfl,by decide +kernel,rfl,by decide +kernel,by decide +kernel⟩):Zr x ps k N.length m:=⟨b,λT=>by
 induction m with
 | zero=>exact FD (T.d _ me) sc
 | succ m ih=>exact A3 (T.d _ me) sc λfa cdv A outer s H E hr=>h T _ (k+m+1) (by lia) ih s sc.nd hr (pK hr)⟩
local macro_rules | `(tactic|exists $x:ident) => `(tactic|(refine' (?f:∀y:(List D -> Option D) -> Sv, zc1 $x = y -> (List D -> Option D) -> Sv) _ ?h;(case h => unfold $x;(try unfold JA);(try dsimp only);try exact rfl);(case f => exact λy _ => y)))
local macro_rules | `(tactic|exists $x:ident) => `(tactic|(refine' (?f:∀y:Sv, zc1 $x = y -> Sv) _ ?h;(case h => unfold $x;(try unfold gF);(try dsimp only);try exact rfl);(case f => exact λy _ => y)))
theorem QC{X:Cx}{O:List Nat}{e:Expr}{f:Ev}{pos:Pos}(T:Txt X.K X.mg)(q:PB X O e f)(z:zaO e "part" X.env (eval e X.env)=eval e X.env):PD X O (.Attribute e "part" pos) (dS CN "part" f):=kM T.o_Node.cls (T.o_Node.na _ (by decide)) q z
theorem K8{X:Cx}{O:List Nat}{e:Expr}{f:Ev}{pos:Pos}(T:Txt X.K X.mg)(q:PB X O e f)(z:zaO e "below" X.env (eval e X.env)=eval e X.env):PD X O (.Attribute e "below" pos) (dS CN "below" f):=kM T.o_Node.cls (T.o_Node.na _ (by decide)) q z
theorem KP{X:Cx}{O:List Nat}{e:Expr}{f:Ev}{pos:Pos}(T:Txt X.K X.mg)(q:PB X O e f)(z:zaO e "names" X.env (eval e X.env)=eval e X.env):PD X O (.Attribute e "names" pos) (dS CN "names" f):=kM T.o_Node.cls (T.o_Node.na _ (by decide)) q z
theorem QZ{X:Cx}{O:List Nat}{e:Expr}{f:Ev}{pos:Pos}(T:Txt X.K X.mg)(q:PB X O e f)(z:zaO e "book" X.env (eval e X.env)=eval e X.env):PD X O (.Attribute e "book" pos) (dS CA "book" f):=kM T.o_Atlas.cls (T.o_Atlas.na _ (by decide)) q z
theorem IG{X:Cx}{O:List Nat}{e:Expr}{f:Ev}{pos:Pos}(T:Txt X.K X.mg)(q:PB X O e f)(z:zaO e "routes" X.env (eval e X.env)=eval e X.env):PD X O (.Attribute e "routes" pos) (dS CA "routes" f):=kM T.o_Atlas.cls (T.o_Atlas.na _ (by decide)) q z
theorem KB{X:Cx}{O:List Nat}{e:Expr}{f:Ev}{pos:Pos}(T:Txt X.K X.mg)(q:PB X O e f)(z:zaO e "spans" X.env (eval e X.env)=eval e X.env):PD X O (.Attribute e "spans" pos) (dS CA "spans" f):=kM T.o_Atlas.cls (T.o_Atlas.na _ (by decide)) q z
local macro_rules | `(tactic|trivial) => `(tactic|first
 | (show PB _ _ _ _;first|(apply vB <;> trivial)|(apply PD.b <;> trivial))
 | (show PD _ _ _ _;first|(apply vD <;> trivial)|(apply wE <;> trivial)|((first|apply UI|apply bO|apply rSl|apply rIt|apply qy|apply wt|apply YA|apply UZ|apply V3|apply qu|apply qac|apply XG|apply Y4|apply OW|apply QC|apply K8|apply KP|apply QZ|apply IG|apply KB|apply rCm|apply V9|apply MQ|apply SQ|apply rJn|apply PF.d) <;> trivial))
 | (show A9 _ _ _ _;((first|apply RM|apply pM) <;> trivial))
 | (show vZ _ _ _ _;((first|apply D6|apply WZ) <;> trivial))
 | (show Len _ _;((first|apply l0|apply lc) <;> trivial))
 | (show kO _ _ _;((first|apply d5|apply gS|apply CW|apply VG|apply XZ|apply TV|apply UU|apply WJ|apply O5|apply xEq|apply xNe|apply xLt) <;> trivial))
 | (show At _ _ _;first|exact at_ 0|exact at_ 1|exact at_ 2|exact at_ 3|exact at_ 4|exact at_ 5|exact at_ 6|exact at_ 7|exact at_ 8|exact at_ 9|exact at_ 10|exact at_ 11)
 | (show uM _ _ _ _;first|((first|apply qaH|apply tc|apply RC) <;> trivial)|(apply PDW.pt <;> trivial)|(apply OU <;> trivial))
 | (show PDW _ _ _ _;((first|apply OB|apply VV|apply K1|apply O9) <;> trivial))
 | (show TB _ _ _ _;((first|apply KN|apply KA) <;> trivial))
 | (show PDI _ _ _ _ _;((first|apply BU|apply OQ|apply KO|apply QD|apply K7) <;> trivial))
 | (show BA _ _ _ _;first|(apply gV <;> trivial)|(apply gu 2 <;> trivial)|(apply gu 3 <;> trivial))
 | (show DD _ _ _ _;((first|apply LJ|apply gc) <;> trivial))
 | (show My.DQ _ _ _;((first|apply LG|apply JY) <;> trivial))
 | (show PF _ _ _ _;((first|apply wl|apply qag) <;> trivial))
 | rfl
 | assumption
 | exact Txt.n (by assumption)
 | exact .inl rfl
 | exact .inr rfl
 | exact .inr (.inl rfl)
 | exact .inr (.inr rfl)
 | exact λ_=>rfl
 | exact λ_ _=>rfl
 | (with_unfolding_all rfl)
 | (constructor <;> rfl)
 | exact zai _
 | (refine zaL ?_ (by assumption);decide))
seal PD PB PF A9 vZ uM PDW PDI TB jA eB Fn kO zaA zaM
def c7:Zt "_law_cell" ["script", "k"] 1 3:=gF ["script", "k", "near"] 33 λT s B z q=>by exact⟨_,(c0 (a9 aO) (c0 (aJ 2 (bO d5 (by trivial) (PD.b (bO cM (by trivial) (by trivial))))) (c0 (a9 (aN (aJ 2 (bO d5 (by trivial) (PD.b (bO cM (PD.b (bO cM (by trivial) (by trivial))) (by trivial))))))) (aO (bO CW (PD.b (bO gS (PD.b (bO cM (by trivial) (by trivial))) (by trivial))) (by trivial)))))),rfl⟩
def iL:Sv:=by exists c7
def bX:=bJ 3 iL
def jH:Zt "_law_price" ["cell"] 1 1:=gF ["cell"] 35 λT s B z q=>by exact⟨_,(c0 (a9 aO) (aO (bO gS (PD.b (bO cM (by trivial) (by trivial))) (by trivial)))),rfl⟩
def jO:Sv:=by exists jH
def jI:=bJ 1 jO
def rP:Zt "_law_road" ["cell", "M", "j", "k"] 2 6:=gF ["cell", "M", "j", "k", "a", "b"] 36 λT s B z q=>by have:=fx jI (jH.2 T);exact⟨_,(c0 (aJ 4 (bO gS (PD.b (bO cM (by trivial) (by trivial))) (by trivial))) (c0 (aJ 5 (bO gS (PD.b (bO d5 (by trivial) (PD.b (bO cM (by trivial) (by trivial))))) (by trivial))) (c0 (a9 (aN (aJ 4))) (c0 (a9 (aN (aJ 5))) aO)))),rfl⟩
def rQ:Sv:=by exists rP
def lD:=bJ 6 rQ
def pC:Zt "_law_roads" ["script", "M", "many"] 3 9:=gF ["script", "M", "many", "cell", "roads", "n", "near", "j", "k"] 37 λT s B z q=>by have:=fx bX (c7.2 T);have:=fx lD (rP.2 T);exact⟨_,(c0 (aJ 3) (cO [4] (eQ 4) (c0 (eT [4] [] (cO [4] (aJ 6) (aN (a9 (cO [4] (aJ 7) (cO [4] (aJ 8) (cO [4] (a9 (cO [4] (aJ 7) (aN (aJ 8)))) (aN (nG 4))))))))) aO))),rfl⟩
def oY:Sv:=by exists pC
def jJ:=bJ 9 oY
def iM:Zt "_law_name" ["cell", "n"] 1 6:=gF ["cell", "n", "many", "some", "letters", "at"] 34 λT s B z q=>by exact⟨_,(c0 (aJ 0) (c0 (aJ 2) (c0 (aJ 3) (c0 (a9 (aN (aJ 3))) (cO [4] (eQ 4 (eR s ["k", "cell", "some"] [none,some 0,some 3] (by trivial) (by intros;trivial) (by intros;trivial) (λ_ _ _ _=>(bO gS (PD.b (bO d5 (PD.b (bO CW (by trivial) (PD.b (bO d5 (by trivial) (PD.b (bO cM (by trivial) (by trivial))))))) (PD.b (bO cM (by trivial) (by trivial))))) (by trivial))))) (c0 (NO (cO [4] (aJ 2) (aN (AV 4))) (cO [4] (aJ 5) (aN (AV 4)))) (aO (EU (by trivial) (PD.b (PF.d (eR s ["k", "some", "letters"] [none,some 3,some 4]))) (λa b=>(vW PySem.F.plainAttrs_str PySem.F.slot_str_join PySem.F.type_str_join My.EQ a b)))))))))),rfl⟩
def rH:Sv:=by exists iM
def cA:=bJ 6 rH
def oR:Zt "_law_shape" ["cell", "M", "n"] 1 8:=gF ["cell", "M", "n", "some", "terms", "k", "near", "c"] 38 λT s B z q=>by exact⟨_,(c0 (iZ 3 s ["k"] [none]) (c0 (a9 (aN (iZ 3 s ["k"] [none]))) (cO [4] (eQ 4) (c0 (eT [4] [] (cO [4] (aJ 6 (bO d5 (by trivial) (PD.b (bO cM (by trivial) (by trivial))))) (cO [4] (aJ 7 (bO gS (PD.b (bO cM (by trivial) (by trivial))) (by trivial))) (aN (a9 (aN (nG 4))))))) aO)))),rfl⟩
def oN:Sv:=by exists oR
def jP:=bJ 8 oN
def pA:Zt "_law_makes" ["script", "M", "many"] 2 10:=gF ["script", "M", "many", "cell", "makes", "n", "near", "takes", "name", "shape"] 39 λT s B z q=>by have:=fx bX (c7.2 T);have:=fx cA (iM.2 T);have:=fx jI (jH.2 T);have:=fx jP (oR.2 T);exact⟨_,(c0 (aJ 3) (cO [4] (eQ 4) (c0 (eT [4] [] (cO [4] (aJ 6) (cO [4] (aJ 7) (cO [4] (a9 (aN (aJ 7))) (cO [4] (a9 (aN (aJ 7))) (cO [4] (aJ 8) (cO [4] (aJ 9) (aN (nG 4))))))))) aO))),rfl⟩
def oM:Sv:=by exists pA
def jL:=bJ 10 oM
def qN:Zt "_law_book" ["script"] 4 5:=gF ["script", "cell", "M", "many", "kinds"] 40 λT s B z q=>by have:=fx bX (c7.2 T);have:=fx jL (pA.2 T);have:=fx cA (iM.2 T);have:=fx jJ (pC.2 T);exact⟨_,(c0 (aJ 1) (c0 (aJ 2 (bO d5 (by trivial) (PD.b (bO cM (by trivial) (by trivial))))) (c0 (a9 (aN (aJ 2 (bO d5 (by trivial) (PD.b (bO cM (by trivial) (by trivial))))))) (c0 (aJ 3) (c0 (a9 (aN (aJ 3))) (c0 (aJ 4 (W8 jW T.n My.boot_tuple (WZ (PD.b (PF.d (eR s ["k", "script"] [none,some 0]))) (by trivial)))) aO)))))),rfl⟩
def rU:Sv:=by exists qN
def lA:=bJ 5 rU
def pE:Zt "_law_heads" ["script", "tome", "names"] 2 5:=gF ["script", "tome", "names", "pairs", "k"] 54 λT s B z q=>by have:=fx bX (c7.2 T);exact⟨_,(cO [3] (eQ 3) (c0 (eT [3] [] (aN (nG 3))) aO)),rfl⟩
def oH:Sv:=by exists pE
def jG:=bJ 5 oH
def rK:Zt "_law_back" ["tome", "k", "cell"] 1 5:=gF ["tome", "k", "cell", "way", "some"] 42 λT s B z q=>by exact⟨_,(c0 (aJ 3) (c0 (ND [] [] (c0 (iZ 4 s ["n", "tome", "k"] [none,some 0,some 1]) (c0 (a9 aO) (c0 (aJ 3) (c0 (aJ 1) (aN (aJ 2))))))) aO)),rfl⟩
def rT:Sv:=by exists rK
def lB:=bJ 5 rT
def kY:Zt "_law_cost" ["tome", "way"] 1 2:=gF ["tome", "way"] 43 λT s B z q=>by exact⟨_,(aO (cB (MD rfl) T.n My.boot_sum (WZ (PD.b (PF.d (eR s ["n", "tome"] [none,some 0]))) (by trivial)))),rfl⟩
def rE:Sv:=by exists kY
def lH:=bJ 2 rE
def d9:Zt "_law_leaf" ["tome", "known", "kind", "cell"] 2 10:=gF ["tome", "known", "kind", "cell", "j", "way", "some", "cost", "name", "n"] 45 λT s q B z=>by have:=fx lB (rK.2 T);have:=fx lH (kY.2 T);exact⟨_,(c0 (mW (by trivial) (nC (My.tQ (n:=2) rfl (g8 (λa b=>(jX a b)) (mP (gM (i:=4) q rfl (zbL rfl))) (by trivial))))) (c0 (iZ 6 s ["name", "at", "j"] [none,none,some 4]) (c0 (aJ 7) (c0 (a9 (c0 (aJ 8) aO)) (c0 (aJ 9 (bO gS (PD.b (bO cM (by trivial) (by trivial))) (by trivial))) aO))))),rfl⟩
def rA:Sv:=by exists d9
def bP:=bJ 10 rA
def oO:Zt "_law_begun" ["script", "tome", "names", "pairs"] 3 8:=gF ["script", "tome", "names", "pairs", "left", "k", "known", "kind"] 55 λT s B z q=>by have:=fx bX (c7.2 T);have:=fx bP (d9.2 T);exact⟨_,(cO [4] (eQ 4) (c0 (eT [4] [] (aN (nG 4))) (c0 (aJ 6) (c0 (aJ 7) aO)))),rfl⟩
def oE:Sv:=by exists oO
def jR:=bJ 8 oE
def rM:Zt "_law_walk" ["tome", "j", "cell"] 1 5:=gF ["tome", "j", "cell", "way", "some"] 41 λT s B z q=>by exact⟨_,(c0 (aJ 3) (c0 (ND [] [] (c0 (iZ 4 s ["n", "tome", "j"] [none,some 0,some 1]) (c0 (a9 aO) (c0 (aJ 3) (c0 (aJ 1) (aN (aJ 2))))))) aO)),rfl⟩
def qW:Sv:=by exists rM
def lG:=bJ 5 qW
def mG:Zr "_law_behind" ["reading", "way"] 0 3 24:=JA ["reading", "way", "last"] 44 λT R j F ih s B z q=>by exact⟨_,(c0 (aJ 2) (c0 (a9 aO) aO)),rfl⟩
def eJ:(List D->Option D)->Sv:=by exists mG
def l9:=i8 3 eJ 24
def iE:Zt "_law_walked" ["tome", "state", "cell"] 26 5:=gF ["tome", "state", "cell", "kind", "way"] 52 λT s B z q=>by have:=fx l9 (mG.2 T);have:=fx lH (kY.2 T);have:=fx lG (rM.2 T);exact⟨_,(c0 (mW (by trivial) (nC (My.tQ (n:=2) rfl (by trivial)))) aO),rfl⟩
def lX:Sv:=by exists iE
def iD:=bJ 5 lX
def rF:Zt "_law_many" ["script"] 2 1:=gF ["script"] 56 λT s B z q=>by have:=fx bX (c7.2 T);exact⟨_,aO,rfl⟩
def qV:Sv:=by exists rF
def qP:=bJ 1 qV
def eY:Zt "_law_over" ["part", "reading", "kind", "states", "cost"] 1 10:=gF ["part", "reading", "kind", "states", "cost", "parts", "lets", "rounds", "k", "one"] 46 λT s B z q=>by exact⟨_,(c0 (aJ 5) (c0 (aJ 6) (c0 (aJ 7) (c0 (eT [] [] (c0 (aJ 9) (c0 (aJ 5) (c0 (aJ 6) (c0 (aJ 7) (aN (aJ 4))))))) aO)))),rfl⟩
def rV:Sv:=by exists eY
def aV:=bJ 10 rV
def rY:Zt "_law_used" ["tome", "known", "state", "cell"] 3 11:=gF ["tome", "known", "state", "cell", "some", "v", "at", "make", "row", "part", "reading"] 47 λT s B z q=>by have:=fx bP (d9.2 T);have:=fx aV (eY.2 T);exact⟨_,(cO [4] (eQ 4) (c0 (eT [4] [] (aN (eT [4] [4] (aN (a9 (aN (nG 4))))))) (c0 (a9 aO) (c0 (mW (by trivial) (nC (My.tQ (n:=2) rfl (by trivial)))) (c0 (aJ 7) (cO [8] (PH 8 s ["kind", "tome", "known", "cell"] [none,some 0,some 1,some 3]) (c0 (AV 8) (c0 (aJ 9 (nV (pM (by trivial) (pM (by trivial) (pM (W8 jW T.n My.boot_tuple (WZ (PD.b (PF.d (eR s ["one"] [none]))) (by trivial))) (by trivial)))) (λρ ds h=>(by have:=(lc (lc (lc l0))) ρ ds h;lia)))) (c0 (aJ 10 (nV (pM (by trivial) (pM (by trivial) (pM (W8 jW T.n My.boot_tuple (WZ (PD.b (PF.d (eR s ["one"] [none]))) (by trivial))) (by trivial)))) (λρ ds h=>(by have:=(lc (lc (lc (lc l0)))) ρ ds h;lia)))) aO))))))))),rfl⟩
def rN:Sv:=by exists rY
def lE:=bJ 11 rN
def mI:Zt "_law_closed" ["tome", "known", "state", "pair", "cell"] 3 12:=gF ["tome", "known", "state", "pair", "cell", "name", "j", "one", "row", "reading", "n", "part"] 51 λT s B z q=>by have:=fx bP (d9.2 T);have:=fx aV (eY.2 T);exact⟨_,(c0 (mW (by trivial) (nC (My.tQ (n:=2) rfl (by trivial)))) (c0 (aJ 7) (c0 (aJ 8) (c0 (a9 (c0 (aJ 9) aO)) (c0 (aJ 10) (c0 (aJ 11) aO)))))),rfl⟩
def mD:Sv:=by exists mI
def hZ:=bJ 12 mD
def mF:Zt "_law_picked" ["tome", "known", "state", "cell"] 3 9:=gF ["tome", "known", "state", "cell", "at", "c", "k", "row", "part"] 48 λT s B z q=>by have:=fx bP (d9.2 T);have:=fx aV (eY.2 T);exact⟨_,(c0 (aJ 4) (c0 (aJ 5) (c0 (aJ 6) (c0 (NO (aN (aJ 6)) (aN (aJ 5))) (cO [7] (eQ 7) (cO [7] (nG 7) (c0 (AV 7) (c0 (aJ 8) aO)))))))),rfl⟩
def mC:Sv:=by exists mF
def h7:=bJ 9 mC
def lW:Zt "_law_around" ["tome", "known", "state", "name", "cell"] 3 9:=gF ["tome", "known", "state", "name", "cell", "k", "n", "two", "part"] 49 λT s B z q=>by have:=fx bP (d9.2 T);have:=fx aV (eY.2 T);exact⟨_,(c0 (aJ 5) (c0 (aJ 6) (c0 (aJ 7) (c0 (aJ 8) aO)))),rfl⟩
def lZ:Sv:=by exists lW
def l7:=bJ 9 lZ
def oX:Zt "_law_named" ["tome", "known", "state", "name", "cell"] 3 8:=gF ["tome", "known", "state", "name", "cell", "k", "two", "reading"] 50 λT s B z q=>by have:=fx bP (d9.2 T);have:=fx aV (eY.2 T);exact⟨_,(c0 (aJ 5) (c0 (aJ 6) (c0 (aJ 7) aO))),rfl⟩
def oZ:Sv:=by exists oX
def oU:=bJ 8 oZ
def k7:Zt "_law_step" ["tome", "names", "now", "cell"] 27 9:=gF ["tome", "names", "now", "cell", "state", "left", "known", "rest", "most"] 53 λT s q B z=>by have:=fx l7 (lW.2 T);have:=fx hZ (mI.2 T);have:=fx oU (oX.2 T);have:=fx h7 (mF.2 T);have:=fx lE (rY.2 T);have:=fx iD (iE.2 T);exact⟨_,(c0 (mW (by trivial) (nC (My.tQ (n:=3) rfl (g8 (λa b=>(jX a b)) (by trivial) (g8 (λa b=>(jX a b)) (mP (gM (i:=5) q rfl (zbL rfl))) (by trivial)))))) (c0 (a9 (c0 (iZ 7 s ["pair", "left"] [none,some 5]) aO)) (c0 (aJ 4) (c0 (aJ 8) (c0 (a9 (aN (aJ 8))) (c0 (NO (aN (aJ 4)) (aN (NO (aN (aJ 4)) (aN (NO (aN (aJ 4)) (aN (a9 (aN (aJ 4))))))))) aO)))))),rfl⟩
def rL:Sv:=by exists k7
def iI:=bJ 9 rL
def oT:Zt "_law_grown" ["script", "tome", "names", "pairs"] 28 6:=gF ["script", "tome", "names", "pairs", "now", "k"] 57 λT s B q z=>by have:=fx jR (oO.2 T);have:=fx bX (c7.2 T);have:=fx qP (rF.2 T);have:=fx iI (k7.2 T);have:=fx iD (iE.2 T);exact⟨_,(c0 (aJ 4) (c0 (eT [] [] (aN (aJ 4))) (c0 (ND [] [] (aN (aJ 4 (cD (fx iI (k7.2 T)) (q.mono (by decide)) (pM (by trivial) (pM (by trivial) (pM (by trivial) (pM (bO d5 (by trivial) (PD.b (bO cM (by trivial) (by trivial)))) (by trivial))))) (lc (lc (lc (lc l0)))))))) aO))),rfl⟩
def oF:Sv:=by exists oT
def jK:=bJ 6 oF
def lY:Zt "_law_number" ["script"] 1 3:=gF ["script", "n", "cell"] 58 λT s B z q=>by exact⟨_,(c0 (aJ 1) (c0 (eT [] [] (aN (aJ 1 (bO gS (PD.b (bO d5 (PD.b (bO cM (by trivial) (by trivial))) (by trivial))) (by trivial))))) aO)),rfl⟩
def mE:Sv:=by exists lY
def iC:=bJ 3 mE
def M0:Zr "ways" ["book", "j", "k"] 0 6 8:=JA ["book", "j", "k", "told", "number", "road"] 7 λT R j G ih s q B z=>by exact⟨_,(c0 (a9 aO) (cO [3] (eQ 3) (c0 (eT [3] [] (aN (a9 (aN (qR (i:=3) (pv 3) (PF.d (eR s ["way", "number"] [none,some 4])) rfl (vW zdI PySem.F.slot_list_extend PySem.F.type_list_extend My.qU (pv 3) (cT (PD.pe (PF.d (eR s ["way", "number"] [none,some 4]))) fM)))))) (by trivial) (FC (C6 (n:=2) rfl (g8 (λa b=>(jX a b)) (mP (gM (i:=4) q rfl (zbL rfl))) (by trivial))))) aO))),rfl⟩
def lL:(List D->Option D)->Sv:=by exists M0
def gT:=i8 6 lL 8
def pF:Zt "way_price" ["book", "way"] 1 2:=gF ["book", "way"] 8 λT s B z q=>by exact⟨_,(aO (cB (MD rfl) T.n My.boot_sum (WZ (PD.b (PF.d (eR s ["number", "book"] [none,some 0]))) (by trivial)))),rfl⟩
def oK:Sv:=by exists pF
def jE:=bJ 2 oK
def kX:Zt "ways_sum" ["book", "routes"] 2 3:=gF ["book", "routes", "prices"] 19 λT s B z q=>by have:=fx jE (pF.2 T);exact⟨_,(c0 (iZ 2 s ["way", "book"] [none,some 0]) (aO (SQ (by trivial) (nV (pM (by trivial) (pM (cB (JI rfl) T.n My.boot_min (by trivial)) (by trivial))) (λρ ds h=>(by have:=(lc (lc l0)) ρ ds h;lia))) (by trivial)))),rfl⟩
def qX:Sv:=by exists kX
def cQ:=bJ 3 qX
theorem sc_Atlas:FnScope ["self", "book", "j", "k"] ["self", "book"] (aL (inClass (top 18) 0)):=⟨rfl,rfl,rfl,by decide +kernel,rfl,by decide +kernel,by decide +kernel⟩
def gA(bk:D):Option (List D):=(lR b7 (aC (aS gE (aC (bC aI (aD 1) (eC (.int 1))) aZ)) aZ)) [none,some bk]
theorem zE{P:zah}{w:World}{K:zae}{mg:Str->Option Value}{base:Heap}(T:Tx P w K mg base):MkO P w K mg base 10 "Atlas" CA "book" (λ_=>tM CA gA gT cQ):=T.o_Atlas.mko sc_Atlas λM B A q s H E G vs Q hsp=>by
  have N:=pK G;have J:=sc_Atlas.nd;have:=fx gT (M0.2 T);have:=fx cQ (kX.2 T);rw[MH hsp];exact CF (X:=(i7 uL P w K mg base ["self", "book", "j", "k"] "Atlas.__init__" (aL (inClass (top 18) 0)) M B A q s H E).nox) (f1:=(lR b7 (aC (aS gE (aC (bC aI (aD 1) (eC (.int 1))) aZ)) aZ))) (f2:=(lR b7 (aC (aS gE (aC (bC aI (aD 1) (eC (.int 1))) aZ)) aZ))) (fk:=(eV (aC (aD 2) (aC (aD 3) aZ)))) (fv:=(aS gT (aC (aD 1) (aC (aD 2) (aC (aD 3) aZ))))) (fe:=aD 1) T.o_Atlas.cls T.o_Atlas.na (fx cQ (kX.2 T)) rfl (G.mono (by decide)) rfl N zem rfl (pv 0) (pv 0) (pv 0) (pv 0) (pv 0) (pv 0) (tJ 1 (pv 1) (by decide)) (by trivial) (by trivial) (gM (i:=2) J rfl (zaZ rfl)) (gM (i:=3) J rfl (zaZ rfl)) (by trivial) (by trivial) (by trivial) (by trivial) (tJ 1 (pv 1) (by decide)) (λ_ _=>rfl)
   (λh=>by have e:=pL h;have z:∀bk:D,aD 1 [none,some bk]=some bk:=λ_=>rfl;simp only[gA,lR,aS,aC,bC,e,z];rfl) (λh=>by have e:=pL h;have z:∀bk:D,aD 1 [none,some bk]=some bk:=λ_=>rfl;simp only[gA,lR,aS,aC,bC,e,z];rfl) (λh h'=>by have e:=pL h;have F:=pL h';simp only[eV,aC,aZ,e,F];rfl) (λh h' h2=>by have e:=pL h;have F:=pL h';have z:=pL h2;simp only[aS,aC,aZ,e,F,z];rfl) (λh=>pL h) (hsp:=hsp)
def gQ:Zt "name_within" ["part", "number"] 1 2:=gF ["part", "number"] 5 λT s B z q=>by exact⟨_,(c0 (a9 aO) (c0 (a9 aO) (c0 (a9 aO) aO))),rfl⟩
def bL:Sv:=by exists gQ
def cN:=bJ 2 bL
def iF:Zt "names_used" ["part", "below"] 2 6:=gF ["part", "below", "names", "number", "node", "hidden"] 17 λT s J G M=>by have:=fx cN (gQ.2 T);exact⟨_,(c0 (a9 aO) (cO [2] (eQ 2) (c0 (eT [2] [] (cO [2] (aJ 5) (aN (qR (i:=2) (pv 2) (PF.d (zA (N:=["x", "hidden", "names"]) (ms:=[none,some 5,some 2]) (t:=0) (Oi:=[2]) rfl (DS rfl rfl (EL (n:=s.heap.objs.size+1) rfl)) ⟨⟨rfl,rfl,zaZ rfl⟩,⟨⟨rfl,rfl,zaZ rfl⟩,trivial⟩⟩ rfl (by decide) (by decide) (by trivial) (λ_ _ _ _=>(gM (i:=0) (show(["x", "hidden", "names"]:List Str).Nodup from by decide) rfl (zaZ rfl))) (λz B H1 q=>(by trivial)) (λz B H1 q=>(by trivial)))) rfl (vW zdI PySem.F.slot_list_extend PySem.F.type_list_extend My.qU (pv 2) (cT (PD.pe (PF.d (zA (N:=["x", "hidden", "names"]) (ms:=[none,some 5,some 2]) (t:=0) (Oi:=[2]) rfl (DS rfl rfl (EL (n:=s.heap.objs.size+1) rfl)) ⟨⟨rfl,rfl,zaZ rfl⟩,⟨⟨rfl,rfl,zaZ rfl⟩,trivial⟩⟩ rfl (by decide) (by decide) (by trivial) (λ_ _ _ _=>(gM (i:=0) (show(["x", "hidden", "names"]:List Str).Nodup from by decide) rfl (zaZ rfl))) (λz B H1 q=>(by trivial)) (λz B H1 q=>(by trivial))))) fM)))))) aO))),rfl⟩
def iH:Sv:=by exists iF
def eK:=bJ 6 iH
def wR:Zt "inner" ["part"] 1 1:=gF ["part"] 4 λT s B z q=>by exact⟨_,(c0 (a9 aO) (c0 (a9 aO) (c0 (a9 aO) (c0 (a9 aO) aO)))),rfl⟩
def gK:Sv:=by exists wR
def iP:=bJ 1 gK
theorem sc_Node:FnScope ["self", "part"] ["self", "part"] (aL (inClass (top 16) 0)):=⟨rfl,rfl,rfl,by decide +kernel,rfl,by decide +kernel,by decide +kernel⟩
def pG:Nat->D->D->Option D
 | 0,_=>λ_=>none
 | m+1,b=>FW CN (dY [none] (fO (aS iP (aC (aD 1) aZ))) (aQ 0) fJ (eNew (pG m) (λ_=>some b) (aD 0))) eK (DM b) (FF b)
theorem wY{P:zah}{w:World}{K:zae}{mg:Str->Option Value}{base:Heap}(T:Tx P w K mg base):∀m,MkO P w K mg base (3+2*m) "Node" CN "part" (pG m)
 | 0=>T.o_Node.mko sc_Node λF z A q s H E B vs Q hsp=>by
  obtain⟨_,_,_,_,_,_,_,_,_,_,_,_,_,_,_,h,_⟩:=hsp;cases h
 | m+1=>T.o_Node.mko (k:=3+2*m+1) sc_Node λF z A q s H E B vs Q hsp=>by
  have J:=pK B;have G:=sc_Node.nd;have M:3<=3+2*m+1:=(by lia);have:=fx iP (wR.2 T);have:=fx eK (iF.2 T);rw[OC hsp rfl];exact GY (X:=(i7 uL P w K mg base ["self", "part"] "Node.__init__" (aL (inClass (top 16) 0)) F z A q s H E).nox) (fb:=λb=>(dY [none] (fO (aS iP (aC (aD 1) aZ))) (aQ 0) fJ (eNew (pG m) (λ_=>some b) (aD 0)))) T.o_Node.cls T.o_Node.na (fx eK (iF.2 T)) rfl (B.mono (by lia)) rfl (pv 0) (pv 0) (pv 0) (pv 0) (pv 0) (tJ 1 (pv 1) (by decide)) (λb=>by exact(PF.d (eR s ["one"] [none] (by trivial) (by intros;trivial) (by intros;trivial) (λ_ _ _ _=>(tG (β:=λ_=>some b) (wY T m) (B.mono (by lia)) rfl (by trivial)))))) (tJ 1 (pv 1) (by decide)) (hsp:=hsp)
def fG:Zt "number_in" ["total"] 1 1:=gF ["total"] 25 λT s B z q=>by exact⟨_,aO,rfl⟩
def yI:Sv:=by exists fG
def dG:=bJ 1 yI
def nP:Zt "choices" ["book", "part"] 1 2:=gF ["book", "part"] 10 λT s B z q=>by exact⟨_,(c0 (a9 (aO (PF.d (eR s ["v", "make", "part"] [none,none,some 1])))) (c0 (a9 (aO (PF.d (J4 rfl (by rfl) T.n (by rfl) T.n (by trivial) rfl)))) aO)),rfl⟩
def eG:Sv:=by exists nP
def fT:=bJ 2 eG
def zB:Zt "either" ["one", "other"] 1 2:=gF ["one", "other"] 21 λT s B z q=>by exact⟨_,(c0 (a9 aO) aO),rfl⟩
def AQ:Sv:=by exists zB
def mJ:=bJ 2 AQ
def ME:Zt "both" ["one", "other"] 1 2:=gF ["one", "other"] 20 λT s B z q=>by exact⟨_,(c0 (a9 aO) (aO (nV (pM (bO cM (by trivial) (by trivial)) (by trivial)) (λρ ds h=>(by have:=(lc (lc l0)) ρ ds h;lia))))),rfl⟩
def L7:Sv:=by exists ME
def MV:=bJ 2 L7
def kR:Zt "inner_kinds" ["book", "part", "kind", "choice"] 1 4:=gF ["book", "part", "kind", "choice"] 11 λT s B z q=>by exact⟨_,(c0 (a9 aO) (c0 (a9 aO) (c0 (a9 aO) (c0 (a9 aO) aO)))),rfl⟩
def b8:Sv:=by exists kR
def bS:=bJ 4 b8
def kQ:Zt "inner_heads" ["heads", "part", "number", "choice"] 2 6:=gF ["heads", "part", "number", "choice", "x", "more"] 12 λT s B q z=>by have:=fx cN (gQ.2 T);exact⟨_,(c0 (aJ 4) (c0 (a9 aO) (cO [5] (eQ 5 (qh (sP rfl q.units) T.n My.boot_dict (by trivial))) (c0 (AV 5) aO)))),rfl⟩
def fD:Sv:=by exists kQ
def dC:=bJ 6 fD
def wL:Zt "spots" ["atlas", "node", "heads", "kind", "choice"] 3 9:=gF ["atlas", "node", "heads", "kind", "choice", "kinds", "places", "number", "one"] 24 λT s B z q=>by have:=fx dC (kQ.2 T);have:=fx bS (kR.2 T);exact⟨_,(c0 (aJ 5) (cO [6] (eQ 6) (c0 (eT [6] [] (aN (nG 6))) aO))),rfl⟩
def D4:Sv:=by exists wL
def kK:=bJ 9 D4
def iG:Zt "way_begins" ["book", "heads", "part", "kind", "choice"] 1 5:=gF ["book", "heads", "part", "kind", "choice"] 13 λT s B z q=>by exact⟨_,(c0 (a9 aO) (c0 (a9 aO) (c0 (a9 aO) aO))),rfl⟩
def cK:Sv:=by exists iG
def bN:=bJ 5 cK
abbrev Zv(x:Str)(ps:List Str)(k n:Nat):Type:={b:(List D->Option D)->Sv // ∀ {P:zah} {w:World} {K:zae} {mg:Str->Option Value} {base:Heap},Tx P w K mg base->∀(R:List D->Option D) (j:Nat),k<=j->Fn P w K mg base "sum_at" j ["atlas", "node", "heads", "kind"] R->Fn P w K mg base x (j+1) ps (bJ n (b R))}
def ZV(N:List Str)(i:Nat){x:Str}{ps:List Str}{k:Nat}{b:(List D->Option D)->Sv}(h:∀ {P:zah} {w:World} {K:zae} {mg:Str->Option Value} {base:Heap} {B:Addr} {z:Value} {A:zam} {q:List Env} {H:Hp} {E:XK} (T:Tx P w K mg base) (R:List D->Option D) (j:Nat) (G:k<=j) (ih:Fn P w K mg base "sum_at" j ["atlas", "node", "heads", "kind"] R) (s:zad) (nd:N.Nodup) (F:Room (j) (A.deeper (zaN x (aL (top i)) s.heap.objs.size B z))) (hu:(A.deeper (zaN x (aL (top i)) s.heap.objs.size B z)).units+1<cLine),∃g,eB (i7 uL P w K mg base N x (aL (top i)) B z A q s H E).nox ⟨[],[]⟩ [] (bU (top i)) g []/\g=b R)(J:(x,i,ps)∈tab:=by decide +kernel)(sc:FnScope N ps (aL (top i)):=by exact⟨rfl,rfl,rfl,by decide +kernel,rfl,by decide +kernel,by decide +kernel⟩):Zv x ps k N.length:=⟨b,λT R j G ih=>A3 (T.d _ J) sc λB z A q s H E F=>h T R j G ih s sc.nd F (pK F)⟩
local macro_rules | `(tactic|exists $x:ident) => `(tactic|(refine' (?f:∀y:(List D -> Option D) -> Sv, zc1 $x = y -> (List D -> Option D) -> Sv) _ ?h;(case h => unfold $x;(try unfold ZV);(try unfold JA);(try dsimp only);try exact rfl);(case f => exact λy _ => y)))
def iA:Zv "choice_sum" ["atlas", "node", "heads", "kind", "choice"] 3 10:=ZV ["atlas", "node", "heads", "kind", "choice", "own_price", "total", "one", "known", "at"] 23 λT R j F ih s B z q=>by have:=fx MV (ME.2 T);have:=fx kK (wL.2 T);have:=fx bN (iG.2 T);exact⟨_,(c0 (aJ 5) (c0 (aJ 6) (c0 (eT [] [] (aN (a9 (aN (aJ 6))))) aO))),rfl⟩
def cJ:(List D->Option D)->Sv:=by exists iA
abbrev Zw(x:Str)(ps:List Str)(k n m:Nat):Type:={b:(List D->Option D)->Sv // ∀ {P:zah} {w:World} {K:zae} {mg:Str->Option Value} {base:Heap},Tx P w K mg base->Fn P w K mg base x (k+2*m+1) ps (i8 n b m)}
def R5(N:List Str)(i:Nat){x:Str}{ps:List Str}{k m:Nat}{b:(List D->Option D)->Sv}(h:∀ {P:zah} {w:World} {K:zae} {mg:Str->Option Value} {base:Heap} {fa:Addr} {cdv:Value} {A:zam} {outer:List Env} {H:Hp} {E:XK} (T:Tx P w K mg base) (R:List D->Option D) (j:Nat) (hj:k<=j) (hj1:k<=j+1) (ih:Fn P w K mg base x j ps R) (s:zad) (nd:N.Nodup) (hr:Room (j+1) (A.deeper (zaN x (aL (top i)) s.heap.objs.size fa cdv))) (hu:(A.deeper (zaN x (aL (top i)) s.heap.objs.size fa cdv)).units+1<cLine),∃g,eB (i7 uL P w K mg base N x (aL (top i)) fa cdv A outer s H E).nox ⟨[],[]⟩ [] (bU (top i)) g []/\g=b R)(me:(x,i,ps)∈tab:=by decide +kernel)(sc:FnScope N ps (aL (top i)):=by exact⟨rfl,rfl,rfl,by decide +kernel,rfl,by decide +kernel,by decide +kernel⟩):Zw x ps k N.length m:=⟨b,λT=>by
 induction m with
 | zero=>exact FD (T.d _ me) sc
 | succ m ih=>exact A3 (T.d _ me) sc λfa cdv A outer s H E hr=>h T _ (k+2*m+1) (by lia) (by lia) ih s sc.nd hr (pK hr)⟩
local macro_rules | `(tactic|exists $x:ident) => `(tactic|(refine' (?f:∀y:(List D -> Option D) -> Sv, zc1 $x = y -> (List D -> Option D) -> Sv) _ ?h;(case h => unfold $x;(try unfold R5);(try unfold JA);(try dsimp only);try exact rfl);(case f => exact λy _ => y)))
def jU:Zw "sum_at" ["atlas", "node", "heads", "kind"] 3 7 16:=R5 ["atlas", "node", "heads", "kind", "key", "total", "choice"] 22 λT R j B F ih s G z J=>by have:=fx fT (nP.2 T);have:=fx mJ (zB.2 T);have q:=fx (bJ 10 (cJ R)) (iA.2 T R j B ih);exact⟨_,(c0 (aJ 4 (nV (pM (by trivial) (pM (W8 jW T.n My.boot_tuple (WZ (PD.b (PF.d (eR s ["x", "heads"] [none,some 2]))) (by trivial))) (by trivial))) (λρ ds h=>(by have:=(lc (lc l0)) ρ ds h;lia)))) (JV 1 4 5 T.o_Node.cls (T.o_Node.na _ (by decide)) (hu2 z) (aJ 5) (eT [] [] (aN (aJ 5))) (pv 1) (pv 1) (pv 1) (pv 4) (pv 4) (pv 4) (pv 5) (λ_ _=>rfl))),rfl⟩
def hJ:(List D->Option D)->Sv:=by exists jU
def dM:=i8 7 hJ 16
def mH:=bJ 10 (cJ dM)
def zF:Zt "counts" ["book", "heads", "part"] 37 5:=gF ["book", "heads", "part", "atlas", "node"] 26 λT s B q z=>by have:=fx dG (fG.2 T);have:=fx dM (jU.2 T);exact⟨_,(c0 (aJ 3 (tG (β:=eC .non) (zE T) (q.mono (by decide)) rfl (by trivial))) (c0 (aJ 4 (tG (β:=aD 0) (wY T 16) (q.mono (by decide)) rfl (by trivial))) (aO (PF.d (eR s ["kind", "atlas", "node", "heads"] [none,some 3,some 4,some 1] (by trivial) (by intros;trivial) (by intros;trivial) (λ_ _ _ _=>(cD (fx dG (fG.2 T)) (q.mono (by decide)) (pM (cD (fx dM (jU.2 T)) (q.mono (by decide)) (pM (by trivial) (pM (by trivial) (pM (PF.d (qh (sP rfl q.units) T.n My.boot_dict (by trivial))) (by trivial)))) (lc (lc (lc (lc l0))))) (by trivial)) (lc l0)))))))),rfl⟩
def AK:Sv:=by exists zF
def yW:=bJ 5 AK
def zW:Zt "parted" ["n", "many"] 1 5:=gF ["n", "many", "numbers", "rest", "size"] 31 λT s B z q=>by exact⟨_,(cO [2] (eQ 2) (cO [2] (aJ 3) (c0 (eT [2] [] (cO [2] (BL (i:=2) (pv 2) (by trivial) (by trivial) rfl (vW zdI PySem.F.slot_list_insert PySem.F.type_list_insert My.HL (pv 2) (cT (PD.pe (by trivial)) (cT (PD.pe (by trivial)) fM)))) (aN (aJ 3 (bO FM (by trivial) (by trivial)))))) aO))),rfl⟩
def zN:Sv:=by exists zW
def sR:=bJ 5 zN
def oV:Zt "assembled" ["part", "choice", "readings", "way"] 2 4:=gF ["part", "choice", "readings", "way"] 14 λT s B z q=>by have:=fx iP (wR.2 T);exact⟨_,(c0 (a9 aO) (c0 (a9 aO) aO)),rfl⟩
def fF:Sv:=by exists oV
def gH:=bJ 4 fF
def EV:Zt "sizes" ["atlas", "places", "routes"] 37 3:=gF ["atlas", "places", "routes"] 30 λT s B z q=>by have:=fx dG (fG.2 T);have:=fx dM (jU.2 T);exact⟨_,(aO (bO d5 (PD.b (PF.d (eR s ["one", "known", "at", "atlas"] [none,none,none,some 0]))) (by trivial))),rfl⟩
def EM:Sv:=by exists EV
def wV:=bJ 3 EM
abbrev Zv1(x:Str)(ps:List Str)(k n:Nat):Type:={b:(List D->Option D)->Sv // ∀ {P:zah} {w:World} {K:zae} {mg:Str->Option Value} {base:Heap},Tx P w K mg base->∀(R:List D->Option D) (j:Nat),k<=j->Fn P w K mg base "told_at" j ["atlas", "node", "heads", "kind", "n"] R->Fn P w K mg base x (j+1) ps (bJ n (b R))}
def R9(N:List Str)(i:Nat){x:Str}{ps:List Str}{k:Nat}{b:(List D->Option D)->Sv}(h:∀ {P:zah} {w:World} {K:zae} {mg:Str->Option Value} {base:Heap} {B:Addr} {z:Value} {A:zam} {q:List Env} {H:Hp} {E:XK} (T:Tx P w K mg base) (R:List D->Option D) (j:Nat) (G:k<=j) (ih:Fn P w K mg base "told_at" j ["atlas", "node", "heads", "kind", "n"] R) (s:zad) (nd:N.Nodup) (F:Room (j) (A.deeper (zaN x (aL (top i)) s.heap.objs.size B z))) (hu:(A.deeper (zaN x (aL (top i)) s.heap.objs.size B z)).units+1<cLine),∃g,eB (i7 uL P w K mg base N x (aL (top i)) B z A q s H E).nox ⟨[],[]⟩ [] (bU (top i)) g []/\g=b R)(J:(x,i,ps)∈tab:=by decide +kernel)(sc:FnScope N ps (aL (top i)):=by exact⟨rfl,rfl,rfl,by decide +kernel,rfl,by decide +kernel,by decide +kernel⟩):Zv1 x ps k N.length:=⟨b,λT R j G ih=>A3 (T.d _ J) sc λB z A q s H E F=>h T R j G ih s sc.nd F (pK F)⟩
local macro_rules | `(tactic|exists $x:ident) => `(tactic|(refine' (?f:∀y:(List D -> Option D) -> Sv, zc1 $x = y -> (List D -> Option D) -> Sv) _ ?h;(case h => unfold $x;(try unfold R9);(try unfold JA);(try unfold R5);(try dsimp only);try exact rfl);(case f => exact λy _ => y)))
def kP:Zv1 "told_choice" ["atlas", "node", "heads", "kind", "choice", "n"] 37 12:=R9 ["atlas", "node", "heads", "kind", "choice", "n", "places", "routes", "numbers", "readings", "number", "spot"] 29 λT R j F ih s B z q=>by have:=fx gH (oV.2 T);have:=fx sR (zW.2 T);have:=fx wV (EV.2 T);have:=fx kK (wL.2 T);have:=fx bN (iG.2 T);exact⟨_,(c0 (aJ 6) (c0 (aJ 7) (c0 (aJ 8) (cO [9] (eQ 9) (c0 (eT [9] [] (aN (nG 9))) aO))))),rfl⟩
def fE:(List D->Option D)->Sv:=by exists kP
def nQ:Zw "told_at" ["atlas", "node", "heads", "kind", "n"] 37 8 16:=R5 ["atlas", "node", "heads", "kind", "n", "rest", "choice", "many"] 28 λT R j z B ih s G F J=>by have:=fx mH (iA.2 T dM _ (by decide) (fx dM (jU.2 T)));have:=fx fT (nP.2 T);have:=fx dG (fG.2 T);have q:=fx (bJ 12 (fE R)) (kP.2 T R j z ih);exact⟨_,(c0 (aJ 5) (c0 (eT [] [] (c0 (aJ 7) (c0 (a9 aO) (aN (aJ 5))))) ZQ)),rfl⟩
def e8:(List D->Option D)->Sv:=by exists nQ
def nN:=i8 8 e8 16
def MC:Zt "told" ["book", "heads", "part", "kind", "n"] 71 5:=gF ["book", "heads", "part", "kind", "n"] 27 λT s B q z=>by have:=fx nN (nQ.2 T);exact⟨_,(c0 YZ (aO (cD (fx nN (nQ.2 T)) (q.mono (by decide)) (pM (tG (β:=eC .non) (zE T) (q.mono (by decide)) rfl (by trivial)) (pM (tG (β:=aD 0) (wY T 16) (q.mono (by decide)) rfl (by trivial)) (pM (PF.d (qh (sP rfl q.units) T.n My.boot_dict (by trivial))) (by trivial)))) (lc (lc (lc (lc (lc l0)))))))),rfl⟩
def MF:Sv:=by exists MC
def C0:=bJ 5 MF
def jC:Zt "_law_in_order" ["n", "one", "m", "other"] 1 4:=gF ["n", "one", "m", "other"] 59 λT s B q z=>by exact⟨_,(c0 (a9 aO) (aO (MQ (xN (SG q.units) (PD.b (xN (ZU q) (by trivial) (by trivial) (tE _))) (PD.b (xN (ZU q) (by trivial) (by trivial) (tE _))) (tE _)) (by trivial)))),rfl⟩
def jB:Sv:=by exists jC
def fU:=bJ 4 jB
def SH:{b:Sv // ∀ {P:zah} {w:World} {K:zae} {mg:Str->Option Value} {base:Heap},Tx P w K mg base->ZOk P w K mg base ["script", "tome", "names", "pairs", "state", "part", "kind", "size", "n", "some", "found", "k"] "law" s_law 71 b}:=⟨_,λT F z A q s H E B=>by have J:=pK B;have G:=sc_law.nd;have:=fx yW (zF.2 T);have:=fx lA (qN.2 T);have:=fx bX (c7.2 T);have:=fx jK (oT.2 T);have:=fx jG (pE.2 T);have:=fx fU (jC.2 T);have:=fx cA (iM.2 T);have:=fx iC (lY.2 T);have:=fx C0 (MC.2 T);exact⟨_,(c0 (aJ 1) (c0 (iZ 2 s ["k", "script"] [none,some 0]) (c0 (aJ 3) (c0 (aJ 4) (c0 (aJ 5) (c0 (aJ 6) (c0 (aJ 7) (c0 (a9 aO) (c0 (aJ 8) (c0 (aJ 9 (PF.d (L6 (pM (by trivial) (pM (by trivial) (pM (bO gS (PD.b (bO FM (by trivial) (by trivial))) (by trivial)) (by trivial)))) (λρ ds h=>(by have:=(lc (lc (lc l0))) ρ ds h;lia))))) (c0 (iZ 10 s ["one", "tome", "pairs", "part", "kind"] [none,some 1,some 3,some 5,some 6]) (c0 (eT [] [] (aN (a9 aO))) aO)))))))))))),rfl⟩⟩
def M8:Sv:=by exists SH
theorem dI(ns:List Int):∃f:Int->Int,∀k:Int,0<=k->k<=1000->bX [.lst (ns.map .int),.int k]=some (.int (f k))/\0<=f k/\f k<10^60:=by
 have h:∀k:Int,∃c:Int,0<=k->k<=1000->bX [.lst (ns.map .int),.int k]=some (.int c)/\0<=c/\c<10^60:=λk=>by
  by_cases M:0<=k
  ·by_cases h1:k<=1000
   ·by_cases B:k<(ns.length:Int)
    ·obtain⟨c,J,_⟩:=fY M B
     have c0:=zas c (show(10^60:Int)≠0 by decide +kernel);have G:=zau c (show(0:Int)<10^60 by decide +kernel);refine⟨c%10^60,λ_ _=>⟨aK ?_,c0,G⟩⟩;simp_all[iL,aH,B,J,F5,bQ]
    ·have fin:∀y:Int,(0<=y%2147483647/11)/\y%2147483647/11<10^60:=λy=>by
      have a:=zas y (show(2147483647:Int)≠0 by decide);have b:=zau y (show(0:Int)<2147483647 by decide);generalize y%2147483647=z at a b;have:(10:Int)^60=1000000000000000000000000000000000000000000000000000000000000:=by decide +kernel
      lia
     have m1:cR (.int k) (.int k)=some (.int (k*k)):=cF (by lia) (by lia) (by lia) (by lia);have Y:=CV (show -(10000:Int)<k by lia) (show k<10000 by lia) (show -(10000:Int)<k by lia) (show k<10000 by lia);generalize k*k=p at m1 Y;by_cases F:(0:Int)<(ns.length:Int)
     ·have q:0<ns.length:=by lia
      have m5:cR (.int 5) (.int k)=some (.int (5*k)):=cF (by decide +kernel) (by decide +kernel) (by lia) (by lia);have W:=zas k (zaS F);have U:=zau k F;obtain⟨c,J,_⟩:=fY W U;have c0:=zas c (show(1000003:Int)≠0 by decide);have G:=zau c (show(0:Int)<1000003 by decide);generalize hx:c%1000003=x at c0 G;have m3:cR (.int (5*k)) (.int x)=some (.int (5*k*x)):=cF (by lia) (by lia) (by lia) (by lia);have N:=CV (show -(100000:Int)<5*k by lia) (show 5*k<100000 by lia) (show -(1000000000:Int)<x by lia) (show x<1000000000 by lia);generalize 5*k*x=y at m3 N;have m4:cR (.int (3+p+y)) (.int 69621)=some (.int ((3+p+y)*69621)):=cF (by lia) (by lia) (by decide +kernel) (by decide +kernel);refine⟨(3+p+y)*69621%2147483647/11,λ_ _=>⟨aK ?_,(fin _).1,(fin _).2⟩⟩;simp_all[iL,aH,B,m1,q,m5,J,bQ F,bQ,hV,hx,m3,m4]
     ·have q:¬ 0<ns.length:=by lia
      have m4:cR (.int (3+p)) (.int 69621)=some (.int ((3+p)*69621)):=cF (by lia) (by lia) (by decide +kernel) (by decide +kernel);refine⟨(3+p)*69621%2147483647/11,λ_ _=>⟨aK ?_,(fin _).1,(fin _).2⟩⟩;simp_all[iL,aH,B,m1,q,bQ,hV,m4]
   ·exact⟨0,λ_ z=>absurd z h1⟩
  ·exact⟨0,λz=>absurd z M⟩
 exact⟨λk=>(h k).choose,λk=>(h k).choose_spec⟩
theorem QG{ss:List Str}(h:∀s∈ss,∃n,s=⟨#[n]⟩):(ss.map (·.length)).sum=ss.length:=by
 induction ss with
 | nil=>rfl
 | cons s ss ih=>
  obtain⟨n,rfl⟩:=h s (zat ..);rw[zak,zbr,ih λt q=>h t (zap _ q),zaw];show 1+ss.length=ss.length+1
  lia
theorem fP(n:Nat):aR 0 1 n=((zar n).map λ(j:Nat)=>(j:Int)).map D.int:=by
 unfold aR;rw[zav];refine List.map_congr_left λa _=>?_
 show D.int _=D.int _;have:(0:Int)+(a:Int)*1=(a:Int):=by lia
 rw[this]
noncomputable def sg(S:Str)(i:Int):Nat:=S.cps.toList.getD i.toNat 0
theorem P3(G:z.length<=1000)(F:0<=i)(h:i<(z.length:Int)):aI (.str z) (.int i)=some (.str ⟨#[sg z i]⟩):=by
 obtain⟨j,rfl⟩:∃j:Nat,i=(j:Int):=⟨i.toNat,by lia⟩;have q:j<z.cps.toList.length:=by rw[zbR];show j<z.length;lia
 have e:gD z.cps.toList (j:Int)=some z.cps.toList[j]:=bV (by simp_all[q]);have B:sg z (j:Int)=z.cps.toList[j]:=by
  unfold sg;rw[zbB,zc2,zaT q];rfl
 rw[B];show(if a7 z.length then(gD z.cps.toList (j:Int)).map (λc=>D.str ⟨#[c]⟩)else none)=_;rw[if_pos (show a7 z.length=true from decide_eq_true (by lia)),e];rfl
theorem join_ones:∀l:List Nat,(zcI "" (l.map λg=>(⟨#[g]⟩:Str))).cps.toList=l
 | []=>rfl
 | [g]=>rfl
 | g::g'::l=>by
  have ih:=join_ones (g'::l);show((⟨#[g]⟩:Str) ++ "" ++ zcI "" ((g'::l).map λg=>(⟨#[g]⟩:Str))).cps.toList=_;have e:∀a b:Str,(a++b).cps=a.cps++b.cps:=λ_ _=>rfl
  rw[e,e,Array.toList_append,Array.toList_append,ih];rfl
theorem JJ:Txt.join sep ys=zcI sep ys:=by
 have:=join_closes (sep:=sep) (sep':=sep) (ys:=ys) rfl;simpa using this
theorem K9(l:List Nat):((l.map λg=>(⟨#[g]⟩:Str)).map (·.length)).sum=l.length:=by
 rw[QG (ss:=l.map λg=>(⟨#[g]⟩:Str)) λs hs=>by obtain⟨g,_,rfl⟩:=List.mem_map.mp hs;exact⟨g,rfl⟩,zal]
noncomputable def S1:Str := "abcdfghjklmnopqrstuvwxyz"
noncomputable def S2:Str := "abcdfghjklmnopqrstuvwxyz" ++ "ei"
theorem DA:S1.length=24:=by decide +kernel
theorem MU:S2.length=26:=by decide +kernel
theorem YD:S1.cps.toList.Nodup:=by decide +kernel
theorem X1:S2.cps.toList.Nodup:=by decide +kernel
theorem MP{S:Str}(h:S.cps.toList.Nodup){i j:Int}(J:0<=i)(G:i<(S.length:Int))(F:0<=j)(M:j<(S.length:Int))(e:sg S i=sg S j):i=j:=by
 have z:i.toNat<S.cps.toList.length:=by rw[zbR];show i.toNat<S.length;lia
 have B:j.toNat<S.cps.toList.length:=by rw[zbR];show j.toNat<S.length;lia
 unfold sg at e;rw[zc2,zaT z,zc2,zaT B]at e;have q:S.cps.toList[i.toNat]=S.cps.toList[j.toNat]:=e;have:=(zdY h).mp q
 lia
def Z8(x n:Int)(s:Str):Prop:=(x%3=0->(s.length:Int)=1+n%8)/\(¬ x%3=0->∃(S:Str) (L a b:Int),((S=S1/\L=24/\¬ 5<1+x/3%8)\/(S=S2/\L=26/\5<1+x/3%8))/\a=x/24%(1+x/3%8)/\b=(x/(31+7*a)+a*a)%L/\s.cps.toList[a.toNat]?=some (sg S ((b+n)%L)))
theorem VW(U:0<=n/\n<=7)(W:0<=m/\m<=7)(a:Z8 x n s)(b:Z8 x m s):n=m:=by
 by_cases h:x%3=0
 ·have:=a.1 h
  have:=b.1 h
  lia
 ·obtain⟨S,L,p,q,M,rfl,rfl,e⟩:=a.2 h
  obtain⟨S',N,p',Y,B,rfl,rfl,J⟩:=b.2 h;rw[e]at J;have G:=zaz J;rcases M with⟨rfl,rfl,z⟩|⟨rfl,rfl,z⟩
  ·rcases B with⟨rfl,rfl,F⟩|⟨rfl,rfl,F⟩
   ·generalize (x/(31+7*(x/24%(1+x/3%8)))+x/24%(1+x/3%8)*(x/24%(1+x/3%8)))%24=q at G
    have l:=DA;have:=MP YD (zas _ (by decide)) (by rw[l];exact zau _ (by decide)) (zas _ (by decide)) (by rw[l];exact zau _ (by decide)) G
    lia
   ·exact absurd F z
  ·rcases B with⟨rfl,rfl,F⟩|⟨rfl,rfl,F⟩
   ·exact absurd z F
   ·generalize (x/(31+7*(x/24%(1+x/3%8)))+x/24%(1+x/3%8)*(x/24%(1+x/3%8)))%26=q at G
    have l:=MU;have:=MP X1 (zas _ (by decide)) (by rw[l];exact zau _ (by decide)) (zas _ (by decide)) (by rw[l];exact zau _ (by decide)) G
    lia
theorem oJ{c n:Int}(h0:0<=n)(h1:n<=1000):∃s:Str,cA [.int c,.int n]=some (.str s)/\Z8 (c%10^9) n s:=by
 suffices h:∃d,cA [.int c,.int n]=some d/\∃s:Str,d=.str s/\Z8 (c%10^9) n s by
  obtain⟨d,e,s,rfl,h⟩:=h;exact⟨s,e,h⟩
 refine dO ?_;unfold rH;have c0:=zas c (show(10^9:Int)≠0 by decide);have c1:=zau c (show(0:Int)<10^9 by decide);rw[aF (aM (d:=.int (c%10^9)) (by ac_rfl))];generalize c%10^9=x at c0 c1;have m0:=zas (x/3) (show(8:Int)≠0 by decide);have m1:=zau (x/3) (show(0:Int)<8 by decide);rw[aF (aM (d:=.int (1+x/3%8)) (by ac_rfl))];generalize hm:1+x/3%8=many;rw[aF (aM (d:=.str "abcdfghjklmnopqrstuvwxyz") (by simp[-zac,-zab,aA,aB]))];refine fQ (λρ=>∃(S:Str) (L:Int),(S.length:Int)=L/\24<=L/\L<=26/\(x%3=0\/(S=S1/\L=24/\¬ 5<many)\/(S=S2/\L=26/\5<many))/\ρ=[some (.int x),some (.int n),some (.int many),some (.str S),none,none]) ?_ ?_
 ·have x0:=zas x (show(3:Int)≠0 by decide)
  by_cases J:0<x%3
  ·by_cases h5:5<many
   ·refine⟨_,?_,S2,26,by rw[MU];rfl,by decide,by decide,.inr (.inr ⟨rfl,rfl,h5⟩),rfl⟩
    have z:a7 (("abcdfghjklmnopqrstuvwxyz" : Str).length+("ei" : Str).length)=true:=by decide
    ac_rfl
   ·exact⟨_,by ac_rfl,S1,24,by rw[DA];rfl,by decide,by decide,.inr (.inl ⟨rfl,rfl,h5⟩),rfl⟩
  ·exact⟨_,by ac_rfl,S1,24,by rw[DA];rfl,by decide,by decide,.inl (by lia),rfl⟩
 ·rintro ρ ⟨S,L,ab,s1,s2,hS,rfl⟩
  have sL:gE [.str S]=some (.int L):=by rw[<- ab];exact if_pos (decide_eq_true (by lia))
  have sp:(0:Int)<L:=by lia
  have sl:(S.length:Int)=L:=ab;have r8:b7 [.int 8]=some (aR 0 1 8):=cH (n:=8) (by decide);have el:bD (aQ 0) fJ (bC dE (bC dP (bC hW (aD 1) (bC dP (eC (.int 31)) (bC cR (eC (.int 7)) (aD 0)))) (bC cR (aD 0) (aD 0))) (aS gE (aC (aD 2) aZ))) (aR 0 1 8) [none,some (.int x),some (.str S)]=some (((zar 8).map λ(k:Nat)=>(x/(31+7*(k:Int))+(k:Int)*(k:Int))%L).map .int):=by
   have:=jZ (K:=8) (f:=bC dE (bC dP (bC hW (aD 1) (bC dP (eC (.int 31)) (bC cR (eC (.int 7)) (aD 0)))) (bC cR (aD 0) (aD 0))) (aS gE (aC (aD 2) aZ))) (rest:=[some (.int x),some (.str S)]) (F:=λi=>.int ((x/(31+7*i)+i*i)%L)) (λi i0 i1=>by
    have q1:cR (.int 7) (.int i)=some (.int (7*i)):=cF (by decide +kernel) (by decide +kernel) (by lia) (by lia);have q2:cR (.int i) (.int i)=some (.int (i*i)):=cF (by lia) (by lia) (by lia) (by lia);have q3:hW (.int x) (.int (31+7*i))=some (.int (x/(31+7*i))):=hV (by lia) (by lia)
    ac_rfl) (zar 8) none λk hk=>List.mem_range.mp hk
   rw[zav];have er:aR 0 1 8=(zar 8).map λ(k:Nat)=>D.int (k:Int):=by
    rw[fP,zav];rfl
   rw[er];exact this
  have ac:∀i∈(zar 8).map λ(k:Nat)=>(x/(31+7*(k:Int))+(k:Int)*(k:Int))%L,0<=i/\i<L:=λi hi=>by
   obtain⟨k,_,rfl⟩:=List.mem_map.mp hi;exact⟨zas _ (zaS sp),zau _ sp⟩
  have aa:∀a:Int,0<=a->a<8->((zar 8).map λ(k:Nat)=>(x/(31+7*(k:Int))+(k:Int)*(k:Int))%L)[a.toNat]?=some ((x/(31+7*a)+a*a)%L):=λa a0 a8=>by
   obtain⟨j,rfl⟩:∃j:Nat,a=(j:Int):=⟨a.toNat,by lia⟩;rw[zbB,zaC,zcV (by lia)];rfl
  have N:((zar 8).map λ(k:Nat)=>(x/(31+7*(k:Int))+(k:Int)*(k:Int))%L).length=8:=by simp[-zac,-zab,aA,aB]
  rw[aF (aM (d:=.lst (((zar 8).map λ(k:Nat)=>(x/(31+7*(k:Int))+(k:Int)*(k:Int))%L).map .int)) (by
   simp only[q_comp,q_lR,q_lcons,q_lnil,q_c,aA,r8,bI,a7,i6];exact congrArg (Option.map D.lst) el))]
  generalize ((zar 8).map λ(k:Nat)=>(x/(31+7*(k:Int))+(k:Int)*(k:Int))%L)=is at ac aa N;refine fQ (λρ=>∃(q:List Int) (m:Int) (o:Option D),0<=m/\m<=8/\q.length=8/\(∀j∈q,0<=j/\j<L)/\(x%3=0->m=1+n%8)/\(¬ x%3=0->m=many/\q[(x/24%many).toNat]?=some (((x/(31+7*(x/24%many))+(x/24%many)*(x/24%many))%L+n)%L))/\ρ=[some (.int x),some (.int n),some (.int m),some (.str S),some (.lst (q.map .int)),o]) ?_ ?_
  ·have put:∀k y:Int,0<=k->k<8->(is.set k.toNat (y%L)).length=8/\(∀j∈is.set k.toNat (y%L),0<=j/\j<L)/\lS (.lst (is.map .int)) (.int k) (.int (y%L))=some (.lst ((is.set k.toNat (y%L)).map .int)):=λk y k0 k8=>by
    refine⟨by simp_all[N],λj M=>?_,?_⟩
    ·rcases List.mem_or_eq_of_mem_set M with z|z
     ·exact ac j z
     ·rw[z];exact⟨zas _ (zaS sp),zau _ sp⟩
    ·rw[lM k0 (by simp_all[N];lia),List.map_set]
   by_cases J:x%3=0
   ·have n0:=zas n (show(8:Int)≠0 by decide)
    have n1:=zau n (show(0:Int)<8 by decide);obtain⟨v,hv,_⟩:=fY (ns:=is) (k:=1+n%8-1) (by lia) (by rw[N];lia);obtain⟨W,M,ej⟩:=put (1+n%8-1) (v+n/8) (by lia) (by lia);refine⟨_,?_,is.set (1+n%8-1).toNat ((v+n/8)%L),1+n%8,none,by lia,by lia,W,M,λ_=>rfl,λz=>absurd J z,rfl⟩
    ac_rfl
   ·have Y:0<many:=by lia
    have a0:=zas (x/24) (zaS Y);have a1:=zau (x/24) Y;have ha:=aa (x/24%many) a0 (by lia);obtain⟨v,hv,B⟩:=fY (ns:=is) (k:=x/24%many) a0 (by rw[N];lia);rw[ha]at B;have ag:=zaz B;obtain⟨W,M,ej⟩:=put (x/24%many) (v+n) a0 (by lia);refine⟨_,?_,is.set (x/24%many).toNat ((v+n)%L),many,some (.int (x/24%many)),by lia,by lia,W,M,λz=>absurd z J,λ_=>⟨rfl,?_⟩,rfl⟩
    ·ac_rfl
    ·rw[zcx (by rw[N];lia),ag]
  ·rintro ρ ⟨q,m,o,m0,m8,W,M,hA,hB,rfl⟩
   have rm:b7 [.int m]=some (aR 0 1 m.toNat):=d8 m0 (by lia);have ed:=jZ (K:=m.toNat) (f:=bC aI (aD 1) (bC aI (aD 2) (aD 0))) (rest:=[some (.str S),some (.lst (q.map .int))]) (F:=λi=>.str ⟨#[sg S (q.getD i.toNat 0)]⟩) (λi i0 i1=>by
    obtain⟨v,hv,B⟩:=fY (ns:=q) (k:=i) i0 (by rw[W];lia);have b:=M v (zax B);have e:q.getD i.toNat 0=v:=by rw[zc2,B];rfl
    have a5:=P3 (z:=S) (by lia) b.1 (by rw[sl];exact b.2);rw[e]
    ac_rfl) (zar m.toNat) none λk hk=>List.mem_range.mp hk
   have er:aR 0 1 m.toNat=(zar m.toNat).map λ(k:Nat)=>D.int (k:Int):=by
    rw[fP,zav];rfl
   have es:((zar m.toNat).map λ(k:Nat)=>D.str ⟨#[sg S (q.getD ((k:Int)).toNat 0)]⟩)=(((zar m.toNat).map λ(k:Nat)=>sg S (q.getD k 0)).map λg=>(⟨#[g]⟩:Str)).map .str:=by
    rw[zav,zav];rfl
   rw[<- er,es]at ed;have hl:((zar m.toNat).map λ(k:Nat)=>sg S (q.getD k 0)).length=m.toNat:=by simp[-zac,-zab,aA,aB]
   have G:∀a:Int,0<=a->a<m->((zar m.toNat).map λ(k:Nat)=>sg S (q.getD k 0))[a.toNat]?=some (sg S (q.getD a.toNat 0)):=λa a0 am=>by
    rw[zaC,zcV (by lia)];rfl
   generalize ((zar m.toNat).map λ(k:Nat)=>sg S (q.getD k 0))=gs at ed hl G;have jn:=VF (sep := "") (ss:=gs.map λg=>(⟨#[g]⟩:Str)) (by
    rw[K9,zal];show gs.length+gs.length*0<=_
    lia)
   rw[JJ]at jn;have zz:a7 m.toNat=true:=decide_eq_true (by lia);have jo:=join_ones gs;generalize (gs.map λg=>(⟨#[g]⟩:Str))=ss at ed jn jo;refine⟨.str (zcI "" ss),?_,_,rfl,λJ=>?_,λJ=>?_⟩
   ·simp_all[rm,bI,zz,i6,ed,jn]
   ·have e1:=hA J
    have:(zcI "" ss).length=m.toNat:=by
     show(zcI "" ss).cps.size=_;rw[<- zbR,jo,hl]
    lia
   ·obtain⟨em,ej⟩:=hB J
    have U:(S=S1/\L=24/\¬ 5<many)\/(S=S2/\L=26/\5<many):=hS.resolve_left J;have Y:0<many:=by lia
    have a0:=zas (x/24) (zaS Y);have a1:=zau (x/24) Y;rw[<- hm]at U em ej a0 a1;refine⟨S,L,_,_,U,rfl,rfl,?_⟩;rw[jo,G _ a0 (by lia),zc2,ej];rfl
theorem qL{c n:Int}(q:0<=n)(h1:n<=1000):∃s:Str,cA [.int c,.int n]=some (.str s):=by
 obtain⟨s,h,_⟩:=oJ (c:=c) q h1;exact⟨s,h⟩
theorem Q4(c:Int):∃f:Int->Str,(∀n,0<=n->n<=7->cA [.int c,.int n]=some (.str (f n)))/\∀n m,(0<=n/\n<=7)->(0<=m/\m<=7)->f n=f m->n=m:=by
 have h:∀n:Int,∃s:Str,0<=n->n<=7->cA [.int c,.int n]=some (.str s)/\Z8 (c%10^9) n s:=λn=>by
  by_cases F:0<=n/\n<=7
  ·obtain⟨s,e,p⟩:=oJ (c:=c) (n:=n) F.1 (by lia)
   exact⟨s,λ_ _=>⟨e,p⟩⟩
  ·exact⟨"",λa b=>absurd ⟨a,b⟩ F⟩
 refine⟨λn=>(h n).choose,λn a b=>((h n).choose_spec a b).1,λn m z B e=>?_⟩;have p:=((h n).choose_spec z.1 z.2).2;have q:=((h m).choose_spec B.1 B.2).2;have G:(h n).choose=(h m).choose:=e;rw[G]at p;exact VW z B p q
theorem pB{c:Int}(F:0<=c)(h1:c<10^61):∃p:Int,jI [.int c]=some (.int p)/\0<=p/\p<=10^30:=by
 have q:(10:Int)^30=1000000000000000000000000000000:=by decide +kernel
 by_cases h:c%2=0
 ·have a:=zas (c/2) (show(3:Int)≠0 by decide)
  have b:=zau (c/2) (show(0:Int)<3 by decide);exact⟨c/2%3,aK (by simp_all[jO,aH,bQ,hV,h]),a,by lia⟩
 ·have z:cR (.int (c/2)) (.int 982451653)=some (.int (c/2*982451653)):=cF (by lia) (by lia) (by decide +kernel) (by decide +kernel)
  have a:=zas (c/2*982451653) (show(1000000000000000000000000000000:Int)≠0 by decide);have b:=zau (c/2*982451653) (show(0:Int)<1000000000000000000000000000000 by decide);have pw:NJ (.int 10) (.int 30)=some (.int 1000000000000000000000000000000):=F5 (by decide) (by decide) (by decide);have B:dE (.int (c/2*982451653)) (.int 1000000000000000000000000000000)=some (.int (c/2*982451653%1000000000000000000000000000000)):=bQ (by decide);exact⟨_,aK (by simp_all[jO,aH,bQ,hV,h,z,pw,B]),a,by lia⟩
theorem rO{c M j k:Int}(Y:3<=M)(h0:0<=c)(h1:c<10^60):∃r:Ro,lD [.int c,.int M,.int j,.int k]=some (kW r)/\r.j=j/\r.k=k/\((0<=r.a/\r.a<M)/\0<=r.b/\r.b<M)/\0<=r.p/\r.p<=10^30:=by
 suffices h:∃d,lD [.int c,.int M,.int j,.int k]=some d/\∃r:Ro,d=kW r/\r.j=j/\r.k=k/\((0<=r.a/\r.a<M)/\0<=r.b/\r.b<M)/\0<=r.p/\r.p<=10^30 by
  obtain⟨d,e,r,rfl,h⟩:=h;exact⟨r,e,h⟩
 have G:(10:Int)^60=1000000000000000000000000000000000000000000000000000000000000:=by decide +kernel
 have q:0<M:=by lia
 refine dO ?_;unfold rQ;have m1:cR (.int (c/40+1)) (.int 48271)=some (.int ((c/40+1)*48271)):=cF (by lia) (by lia) (by decide +kernel) (by decide +kernel);have m2:cR (.int (c/640)) (.int 69621)=some (.int (c/640*69621)):=cF (by lia) (by lia) (by decide +kernel) (by decide +kernel);have a0:=zas ((c/40+1)*48271) (zaS q);have F:=zau ((c/40+1)*48271) q;have z:=zas (c/9+c/640*69621) (zaS q);have B:=zau (c/9+c/640*69621) q;rw[aF (aM (d:=.int ((c/40+1)*48271%M)) (by ac_rfl))];rw[aF (aM (d:=.int ((c/9+c/640*69621)%M)) (by ac_rfl))];generalize (c/40+1)*48271%M=a at a0 F;generalize (c/9+c/640*69621)%M=b at z B;refine fQ (λρ=>∃a:Int,(0<=a/\a<M)/\ρ=[some (.int c),some (.int M),some (.int j),some (.int k),some (.int a),some (.int b)]) ?_ ?_
 ·by_cases h:c%5=0
  ·exact⟨_,by ac_rfl,1,⟨by decide,by lia⟩,rfl⟩
  ·exact⟨_,by ac_rfl,a,⟨a0,F⟩,rfl⟩
 ·rintro ρ ⟨a,N,rfl⟩
  refine fQ (λρ=>∃b:Int,(0<=b/\b<M)/\ρ=[some (.int c),some (.int M),some (.int j),some (.int k),some (.int a),some (.int b)]) ?_ ?_
  ·by_cases h:c%3=0
   ·exact⟨_,by ac_rfl,0,⟨by decide,by lia⟩,rfl⟩
   ·exact⟨_,by ac_rfl,b,⟨z,B⟩,rfl⟩
  ·rintro ρ ⟨b,U,rfl⟩
   obtain⟨p,ep,J,W⟩:=pB (c:=c/16) (by lia) (by lia);exact⟨kW ⟨j,k,a,b,p⟩,by simp_all[hV,ep,kW],_,rfl,rfl,rfl,⟨N,U⟩,J,W⟩
theorem yL{ns:List Int}{M many:Int}(hM:3<=M)(hm:1<=many/\many<=6):∃rs:List Ro,jJ [.lst (ns.map .int),.int M,.int many]=some (.tup (rs.map kW))/\GR M many rs:=by
 suffices h:∃d,jJ [.lst (ns.map .int),.int M,.int many]=some d/\∃rs:List Ro,d=.tup (rs.map kW)/\GR M many rs by
  obtain⟨d,e,r,rfl,h⟩:=h;exact⟨r,e,h⟩
 obtain⟨f,hf⟩:=dI ns;have f2:=(hf 2 (by decide) (by decide)).1;refine dO ?_;unfold oY;rw[aF (aM (d:=.int (f 2)) (by ac_rfl))];generalize f 2=c2;rw[aF (aM (d:=.lst []) (by simp[-zac,-zab,aA,aB]))];have z0:=zas c2 (show(7:Int)≠0 by decide);have z1:=zau c2 (show(0:Int)<7 by decide);refine iX (items:=aR 0 1 (c2%7).toNat) (by simp_all[aH,bQ,d8 z0 (show c2%7<=1000000 by lia)]) (λi ρ=>∃(rs:List Ro) (N U J G:Option D),ρ=[some (.lst (ns.map .int)),some (.int M),some (.int many),some (.int c2),some (.lst (rs.map kW)),N,U,J,G]/\rs.length<=i/\i<=6/\GR M many rs) ⟨[],none,none,none,none,by ac_rfl,by simp[-zac,-zab,aA,aB],by decide,⟨by simp[-zac,-zab,aA,aB],λ_ h=>(nomatch h),λ_ h=>(nomatch h),λ_ h=>(nomatch h)⟩⟩ ?_ ?_
 ·rintro i x ρ hx ⟨rs,N,U,J,G,rfl,hl,hi,g⟩
  obtain⟨an,rfl⟩:=bZ hx;have hI:0<=(0:Int)+(i:Int)*1/\(0:Int)+(i:Int)*1<=6:=by lia
  generalize (0:Int)+(i:Int)*1=I at hI;have F:=hf (3+I) (by lia) (by lia);generalize f (3+I)=near at F;have f1:=F.1;by_cases h1:1<many
  ·have B:0<many-1:=by lia
   have j0:=zas near (zaS B);have j1:=zau near B;have dj:dE (.int near) (.int (many-1))=some (.int (near%(many-1))):=bQ B;generalize near%(many-1)=j at j0 j1 dj;have Y:0<many-1-j:=by lia
   have k0:=zas (near/8) (zaS Y);have k1:=zau (near/8) Y;have dk:dE (.int (near/8)) (.int (many-1-j))=some (.int (near/8%(many-1-j))):=bQ Y;generalize near/8%(many-1-j)=k at k0 k1 dk;have u0:=zas I (zaS B);have u1:=zau I B;have du:dE (.int I) (.int (many-1))=some (.int (I%(many-1))):=bQ B;generalize I%(many-1)=u at u0 u1 du;have hz:(rs.map kW).length<=1000000:=by rw[zal];lia
   have dg:A8 (.int many) (.int 1)=some (.bl true):=by simp_all[h1]
   have me:∀r,(rs++[r]).map kW=rs.map kW++[kW r]:=λr=>by simp[-zac,-zab,aA,aB]
   have fin:∀r:Ro,(0<=r.j/\r.j<r.k/\r.k<many)->((0<=r.a/\r.a<M)/\0<=r.b/\r.b<M)->(0<=r.p/\r.p<=10^30)->GR M many (rs++[r]):=λr a b c=>by
    have app:∀ {P:Ro->Prop},(∀r∈rs,P r)->P r->∀y∈rs++[r],P y:=λh1 h2 y hy=>by
     rcases List.mem_append.mp hy with z|z
     ·exact h1 y z
     ·rw[List.mem_singleton.mp z];exact h2
    exact⟨by simp[-zac,-zab,aA,aB];lia,app g.jk a,app g.ab b,app g.pr c⟩
   by_cases h2:c2/7%2=1
   ·obtain⟨r,er,rj,rk,q,W⟩:=rO (c:=near) (M:=M) (j:=u) (k:=u+1) hM F.2.1 F.2.2
    refine⟨[some (.lst (ns.map .int)),some (.int M),some (.int many),some (.int c2),some (.lst ((rs++[r]).map kW)),some (.int I),some (.int near),some (.int u),some (.int (u+1))],?_,_,_,_,_,_,rfl,by simp[-zac,-zab,aA,aB];lia,by lia,fin r (by lia) q W⟩;have de:kN (.int (c2/7%2)) (.int 1)=some (.bl true):=by simp_all[h2]
    rw[me]
    ac_rfl
   ·obtain⟨r,er,rj,rk,q,W⟩:=rO (c:=near) (M:=M) (j:=j) (k:=j+1+k) hM F.2.1 F.2.2
    refine⟨[some (.lst (ns.map .int)),some (.int M),some (.int many),some (.int c2),some (.lst ((rs++[r]).map kW)),some (.int I),some (.int near),some (.int j),some (.int (j+1+k))],?_,_,_,_,_,_,rfl,by simp[-zac,-zab,aA,aB];lia,by lia,fin r (by lia) q W⟩;have de:kN (.int (c2/7%2)) (.int 1)=some (.bl false):=by simp_all[h2]
    rw[me]
    ac_rfl
  ·refine⟨[some (.lst (ns.map .int)),some (.int M),some (.int many),some (.int c2),some (.lst (rs.map kW)),some (.int I),some (.int near),J,G],?_,rs,_,_,_,_,rfl,by lia,by lia,g⟩
   have dg:A8 (.int many) (.int 1)=some (.bl false):=by simp_all[h1]
   ac_rfl
 ·rintro ρ ⟨rs,N,U,J,G,rfl,hl,hi,g⟩
  exact⟨_,by simp[-zac,-zab,aA,aB],rs,rfl,g⟩
theorem pD{c M n:Int}(hM:3<=M)(J:0<=c)(h1:c<10^60):∃l,jP [.int c,.int M,.int n]=some (.tup l):=by
 suffices h:∃d,jP [.int c,.int M,.int n]=some d/\∃l,d=.tup l by
  obtain⟨d,e,l,rfl⟩:=h;exact⟨l,e⟩
 have ah:(10:Int)^60=1000000000000000000000000000000000000000000000000000000000000:=by decide +kernel
 have Mp:0<M:=by lia
 refine dO ?_;unfold oN;have r3:b7 [.int 3]=some [.int 0,.int 1,.int 2]:=rfl;have s3:a7 3=true:=rfl;have Y:a7 9=true:=rfl;rw[aF (aM (d:=.lst [.tup [.int 0],.tup [.int 1],.tup [.int 2]]) (by ac_rfl))];refine fQ (λρ=>∃es:List D,1<=es.length/\es.length<=9/\ρ=[some (.int c),some (.int M),some (.int n),some (.lst es),none,none,none,none]) ?_ ?_
 ·by_cases h:n=2
  ·subst h
   obtain⟨es,ee,le,_⟩:=w9 (f:=eV (aC (bC hW (aD 0) (eC (.int 3))) (aC (bC dE (aD 0) (eC (.int 3))) aZ))) (rest:=[]) (R:=λ_=>True) (aR 0 1 9) none λa ha=>by
    obtain⟨i,rfl,i0,i1⟩:=uN ha;exact⟨.tup [.int (i/3),.int (i%3)],by ac_rfl,trivial⟩
   have r9:b7 [.int 9]=some (aR 0 1 9):=cH (n:=9) (by decide);rw[bI]at le;exact⟨[some (.int c),some (.int M),some (.int 2),some (.lst es),none,none,none,none],by simp_all[aH,r9,Y,i6,bI,ee],es,by lia,by lia,rfl⟩
  ·exact⟨_,by ac_rfl,[.tup [.int 0],.tup [.int 1],.tup [.int 2]],by simp[-zac,-zab,aA,aB],by simp[-zac,-zab,aA,aB],rfl⟩
 ·rintro ρ ⟨es,e1,e9,rfl⟩
  rw[aF (aM (d:=.lst []) (by simp[-zac,-zab,aA,aB]))];refine iX (items:=aR 0 1 es.length) (by simp_all[cH (show es.length<=1000000 by lia)]) (λi ρ=>∃(l:List D) (q B G:Option D),ρ=[some (.int c),some (.int M),some (.int n),some (.lst es),some (.lst l),q,B,G]/\l.length<=i) ⟨[],none,none,none,by simp[-zac,-zab,aA,aB],by simp[-zac,-zab,aA,aB]⟩ ?_ ?_
  ·rintro i x ρ hx ⟨l,q,B,G,rfl,hl⟩
   obtain⟨af,rfl⟩:=bZ hx;have e0:(0:Int)+(i:Int)*1=(i:Int):=by lia
   rw[e0];have N:(i:Int)<=9:=by lia
   obtain⟨d,_,_,ed⟩:=tU (l:=es) (k:=(i:Int)) (by lia) (by lia);have F:(0:Int)<=(i:Int):=by lia
   generalize (i:Int)=I at N ed F;have m1:cR (.int I) (.int I)=some (.int (I*I)):=cF (by lia) (by lia) (by lia) (by lia);have W:=CV (show -(100:Int)<I by lia) (show I<100 by lia) (show -(100:Int)<I by lia) (show I<100 by lia);have d1:hW (.int c) (.int (I+2))=some (.int (c/(I+2))):=hV (by lia) (by lia);have c0:0<=c/(I+2):=Int.ediv_nonneg J (by lia);have U:c/(I+2)<=c:=Int.ediv_le_self _ J;generalize c/(I+2)=y at d1 c0 U;generalize I*I=z at m1 W;have m2:cR (.int ((y+z)/3+1)) (.int 48271)=some (.int (((y+z)/3+1)*48271)):=cF (by lia) (by lia) (by decide +kernel) (by decide +kernel);have hz:a7 l.length=true:=decide_eq_true (by lia);by_cases a1:0<(y+z)%3
   ·by_cases a2:0<((y+z)/3+1)*48271%M
    ·refine⟨[some (.int c),some (.int M),some (.int n),some (.lst es),some (.lst (l++[.tup [d,.int (((y+z)/3+1)*48271%M)]])),some (.int I),some (.int (y+z)),some (.int (((y+z)/3+1)*48271%M))],?_,_,_,_,_,rfl,by simp[-zac,-zab,aA,aB];lia⟩
     ac_rfl
    ·refine⟨[some (.int c),some (.int M),some (.int n),some (.lst es),some (.lst l),some (.int I),some (.int (y+z)),some (.int (((y+z)/3+1)*48271%M))],?_,_,_,_,_,rfl,by lia⟩
     ac_rfl
   ·refine⟨[some (.int c),some (.int M),some (.int n),some (.lst es),some (.lst l),some (.int I),some (.int (y+z)),some (.int (((y+z)/3+1)*48271%M))],?_,_,_,_,_,rfl,by lia⟩
    ac_rfl
  ·rintro ρ ⟨l,q,B,G,rfl,hl⟩
   exact⟨_,by simp[-zac,-zab,aA,aB],l,rfl⟩
structure OkMs(many:Int)(ms:List Mk):Prop where
 tk:∀m∈ms,(∃t,m.takes=[t])\/∃t u,m.takes=[t,u]
 tb:∀m∈ms,∀t∈m.takes,0<=t/\t<many
 gb:∀m∈ms,0<=m.g/\m.g<many
theorem yN{ns:List Int}{M many:Int}(hM:3<=M)(hm:1<=many/\many<=6):∃ms:List Mk,jL [.lst (ns.map .int),.int M,.int many]=some (.tup (ms.map kI))/\OkMs many ms/\ms.length<=6:=by
 suffices h:∃d,jL [.lst (ns.map .int),.int M,.int many]=some d/\∃ms:List Mk,d=.tup (ms.map kI)/\OkMs many ms/\ms.length<=6 by
  obtain⟨d,e,r,rfl,h⟩:=h;exact⟨r,e,h⟩
 have am:(10:Int)^60=1000000000000000000000000000000000000000000000000000000000000:=by decide +kernel
 have ai:(10:Int)^61=10000000000000000000000000000000000000000000000000000000000000:=by decide +kernel
 obtain⟨f,Y⟩:=dI ns;have f9:=(Y 9 (by decide) (by decide)).1;have an:=(Y 15 (by decide) (by decide)).1;have U:0<many:=by lia
 refine dO ?_;unfold oM;rw[aF (aM (d:=.int (f 9)) (by ac_rfl))];generalize f 9=c9;rw[aF (aM (d:=.lst []) (by simp[-zac,-zab,aA,aB]))];have z0:=zas c9 (show(6:Int)≠0 by decide);have z1:=zau c9 (show(0:Int)<6 by decide);refine iX (items:=aR 0 1 (c9%6).toNat) (by simp_all[aH,bQ,d8 z0 (show c9%6<=1000000 by lia)]) (λi ρ=>∃(ms:List Mk) (J N G F B:Option D),ρ=[some (.lst (ns.map .int)),some (.int M),some (.int many),some (.int c9),some (.lst (ms.map kI)),J,N,G,F,B]/\ms.length=i/\i<=6/\OkMs many ms) ⟨[],none,none,none,none,none,by ac_rfl,rfl,by decide,⟨λ_ h=>(nomatch h),λ_ h=>(nomatch h),λ_ h=>(nomatch h)⟩⟩ ?_ ?_
 ·rintro i x ρ hx ⟨ms,J,N,G,F,B,rfl,W,hi,K⟩
  obtain⟨aj,rfl⟩:=bZ hx;have hI:0<=(0:Int)+(i:Int)*1/\(0:Int)+(i:Int)*1<=6:=by lia
  generalize (0:Int)+(i:Int)*1=I at hI;have fI:=Y (10+I) (by lia) (by lia);generalize f (10+I)=near at fI;have hz:(ms.map kI).length<=1000000:=by rw[zal];lia
  have n0:=zas (near/2) (show(3:Int)≠0 by decide);have n1:=zau (near/2) (show(0:Int)<3 by decide);obtain⟨nm,ah⟩:=qL (c:=f 15) (n:=near/2%3/2) (by lia) (by lia);obtain⟨p,ep,p0,p1⟩:=pB (c:=near/17) (by lia) (by lia);have q:∀y:Int,0<=y%many/\y%many<many:=λy=>⟨zas _ (zaS U),zau _ U⟩
  have fin:∀m:Mk,((∃t,m.takes=[t])\/∃t u,m.takes=[t,u])->(∀t∈m.takes,0<=t/\t<many)->(0<=m.g/\m.g<many)->OkMs many (ms++[m]):=λm a b c=>by
   have app:∀ {P:Mk->Prop},(∀r∈ms,P r)->P m->∀y∈ms++[m],P y:=λh1 h2 y hy=>by
    rcases List.mem_append.mp hy with z|z
    ·exact h1 y z
    ·rw[List.mem_singleton.mp z];exact h2
   exact⟨app K.tk a,app K.tb b,app K.gb c⟩
  have ht:∃t u:Int,(0<=t/\t<many)/\(0<=u/\u<many)/\dB (dZ 7 (eV (aC (bC dE (bC dP (aD 5) (bC hW (aD 3) (eC (.int 6)))) (aD 2)) (aC (bC dE (bC hW (aD 6) (eC (.int 6))) (aD 2)) aZ)))) (BD (pN (bC kN (bC dE (bC hW (aD 6) (eC (.int 36))) (eC (.int 3))) (eC (.int 0)))) (dZ 7 (eV (aC (bC dE (bC hW (aD 6) (eC (.int 7))) (aD 2)) (aC (bC dE (bC hW (aD 6) (eC (.int 6))) (aD 2)) aZ)))) R7) [some (.lst (ns.map .int)),some (.int M),some (.int many),some (.int c9),some (.lst (ms.map kI)),some (.int I),some (.int near),G,F,B]=some (.nx [some (.lst (ns.map .int)),some (.int M),some (.int many),some (.int c9),some (.lst (ms.map kI)),some (.int I),some (.int near),some (.tup [.int t,.int u]),F,B]):=by
   by_cases h3:near/36%3=0
   ·exact⟨near/7%many,near/6%many,q _,q _,by ac_rfl⟩
   ·exact⟨(I+c9/6)%many,near/6%many,q _,q _,by ac_rfl⟩
  obtain⟨t,u,tb,ub,et⟩:=ht;have es:∀ {g h k:Sv} {ρ:cU},dB g (dB h k) ρ=dB (dB g h) k ρ:=by
   intro g h k ρ;unfold dB;cases g ρ with
   | none=>rfl
   | some o=>cases o <;> rfl
  have f1:=fI.1;have dm:dE (.int (near/12)) (.int many)=some (.int (near/12%many)):=bQ U;by_cases h2:near%2=0
  ·obtain⟨l,el⟩:=pD (c:=near/5) (M:=M) (n:=1) hM (by lia) (by lia)
   refine⟨[some (.lst (ns.map .int)),some (.int M),some (.int many),some (.int c9),some (.lst ((ms++[(⟨nm,[t],near/12%many,.tup l,p⟩:Mk)]).map kI)),some (.int I),some (.int near),some (.tup [.int t]),some (.str nm),some (.tup l)],?_,_,_,_,_,_,_,rfl,by simp_all[W],by lia,fin _ (.inl ⟨t,rfl⟩) (by simpa using tb) (q _)⟩;show(aQ 5 _ _).bind _=_;rw[q_name,aA,aF (aM (d:=.int near) (by ac_rfl)),es,aF (by exact et)];have de:kN (.int (near%2)) (.int 0)=some (.bl true):=by simp_all[h2]
   have cs:xW (.tup [.int t,.int u]) none (some 1)=some (.tup [.int t]):=rfl;have dl:gE [.tup [.int t]]=some (.int 1):=rfl;rw[show(ms++[(⟨nm,[t],near/12%many,.tup l,p⟩:Mk)]).map kI=ms.map kI++[.tup [.str nm,.tup [.int t],.int (near/12%many),.tup l,.int p]] by simp_all[kI,tupI]]
   ac_rfl
  ·obtain⟨l,el⟩:=pD (c:=near/5) (M:=M) (n:=2) hM (by lia) (by lia)
   refine⟨[some (.lst (ns.map .int)),some (.int M),some (.int many),some (.int c9),some (.lst ((ms++[(⟨nm,[t,u],near/12%many,.tup l,p⟩:Mk)]).map kI)),some (.int I),some (.int near),some (.tup [.int t,.int u]),some (.str nm),some (.tup l)],?_,_,_,_,_,_,_,rfl,by simp_all[W],by lia,fin _ (.inr ⟨t,u,rfl⟩) (by simp[-zac,-zab,aA,aB];exact⟨tb,ub⟩) (q _)⟩;show(aQ 5 _ _).bind _=_;rw[q_name,aA,aF (aM (d:=.int near) (by ac_rfl)),es,aF (by exact et)];have de:kN (.int (near%2)) (.int 0)=some (.bl false):=by simp_all[h2]
   have dl:gE [.tup [.int t,.int u]]=some (.int 2):=rfl;rw[show(ms++[(⟨nm,[t,u],near/12%many,.tup l,p⟩:Mk)]).map kI=ms.map kI++[.tup [.str nm,.tup [.int t,.int u],.int (near/12%many),.tup l,.int p]] by simp_all[kI,tupI]]
   ac_rfl
 ·rintro ρ ⟨ms,J,N,G,F,B,rfl,W,hi,K⟩
  exact⟨_,by simp[-zac,-zab,aA,aB],ms,rfl,K,by lia⟩
theorem B8(ns:List Int):∃C:Bk,lA [.lst (ns.map .int)]=some (bF C)/\OkB C:=by
 suffices h:∃d,lA [.lst (ns.map .int)]=some d/\∃C:Bk,d=bF C/\OkB C by
  obtain⟨d,e,C,rfl,h⟩:=h;exact⟨C,e,h⟩
 obtain⟨f,J⟩:=dI ns;have f0:=(J 0 (by decide) (by decide)).1;have f1:=(J 1 (by decide) (by decide)).1;have am:=(J 16 (by decide) (by decide)).1;refine dO ?_;unfold rU;generalize f 0=c at f0;rw[aF (aM (d:=.int c) (by ac_rfl))];have B:(10:Int)^59=100000000000000000000000000000000000000000000000000000000000:=by decide +kernel
 have af:(10:Int)^60=1000000000000000000000000000000000000000000000000000000000000:=by decide +kernel
 have w0:=zas (c/4) (show(10^59:Int)≠0 by decide +kernel);have w1:=zau (c/4) (show(0:Int)<10^59 by decide +kernel);have W:dE (.int (c/4)) (.int (10^59))=some (.int (c/4%10^59)):=bQ (by decide +kernel);generalize c/4%10^59=w at w0 w1 W;have mw:cR (.int 2) (.int w)=some (.int (2*w)):=cF (by decide +kernel) (by decide +kernel) (by lia) (by lia);have pw:NJ (.int 10) (.int 59)=some (.int (10^59)):=F5 (by decide) (by decide) (by decide);rw[B]at W pw;rw[aF (aM (d:=.int (3+2*w)) (by ac_rfl))];refine fQ (λρ=>∃M:Int,3<=M/\M<10^60/\ρ=[some (.lst (ns.map .int)),some (.int c),some (.int M),none,none]) ?_ ?_
 ·by_cases hc:c%4=0
  ·have v0:=zas (c/4) (show(4:Int)≠0 by decide)
   have v1:=zau (c/4) (show(0:Int)<4 by decide);have mv:cR (.int 2) (.int (c/4%4))=some (.int (2*(c/4%4))):=cF (by decide +kernel) (by decide +kernel) (by lia) (by lia);exact⟨_,by ac_rfl,3+2*(c/4%4),by lia,by lia,rfl⟩
  ·exact⟨_,by ac_rfl,3+2*w,by lia,by lia,rfl⟩
 ·rintro ρ ⟨M,N,F,rfl⟩
  have n0:=zas (f 1) (show(4:Int)≠0 by decide);have n1:=zau (f 1) (show(0:Int)<4 by decide);rw[aF (aM (d:=.int (1+f 1%4)) (by ac_rfl))];refine fQ (λρ=>∃many:Int,(1<=many/\many<=6)/\ρ=[some (.lst (ns.map .int)),some (.int c),some (.int M),some (.int many),none]) ?_ ?_
  ·by_cases h5:f 1/4%8=5
   ·exact⟨_,by ac_rfl,6,by decide,rfl⟩
   ·exact⟨_,by ac_rfl,1+f 1%4,by lia,rfl⟩
  ·rintro ρ ⟨many,U,rfl⟩
   have rm:b7 [.int many]=some (aR 0 1 many.toNat):=d8 (by lia) (by lia);obtain⟨ks,ek,Y,G⟩:=w9 (f:=aS cA (aC (aS bX (aC (aD 1) (aC (eC (.int 16)) aZ))) (aC (aD 0) aZ))) (rest:=[some (.lst (ns.map .int))]) (R:=λd=>∃s:Str,d=.str s) (aR 0 1 many.toNat) none λa ha=>by
    obtain⟨i,rfl,i0,i1⟩:=uN ha;obtain⟨s,hs⟩:=qL (c:=f 16) (n:=i) i0 (by lia);exact⟨_,by ac_rfl,s,rfl⟩
   obtain⟨q,rfl⟩:=E6 G;have ak:q.length=many.toNat:=by rw[zal,bI]at Y;exact Y
   have zz:a7 many.toNat=true:=decide_eq_true (by lia);rw[aF (aM (d:=.tup (q.map .str)) (by simp_all[rm,bI,zz,i6,ek]))];obtain⟨rs,er,gr⟩:=yL (ns:=ns) (M:=M) (many:=many) N U;obtain⟨ms,em,K,ml⟩:=yN (ns:=ns) (M:=M) (many:=many) N U;have z:(q.length:Int)=many:=by lia
   refine⟨bF ⟨M,q,rs,ms⟩,by simp_all[er,em,bF],_,rfl,⟨N,F,by show 1<=q.length;lia,by show q.length<=6;lia,?_,K.tk,?_,?_,ml⟩⟩
   ·show GR M (q.length:Int) rs
    rw[z];exact gr
   ·show ∀m∈ms,∀t∈m.takes,0<=t/\t<(q.length:Int)
    rw[z];exact K.tb
   ·show ∀m∈ms,0<=m.g/\m.g<(q.length:Int)
    rw[z];exact K.gb
theorem tT:¬ ("name" : Str) = "use" := by decide
theorem nS:¬ ("name" : Str) = "let" := by decide
theorem D2:¬ ("name" : Str) = "pick" := by decide
theorem sU:¬ ("name" : Str) = "again" := by decide
theorem nT:¬ ("number" : Str) = "use" := by decide
theorem lP:¬ ("number" : Str) = "let" := by decide
theorem ED:¬ ("number" : Str) = "pick" := by decide
theorem sJ:¬ ("number" : Str) = "again" := by decide
theorem xM:¬ ("use" : Str) = "let" := by decide
theorem nU:¬ ("let" : Str) = "use" := by decide
theorem nZ:¬ ("pick" : Str) = "use" := by decide
theorem lQ:¬ ("pick" : Str) = "let" := by decide
theorem nW:¬ ("again" : Str) = "use" := by decide
theorem iW:¬ ("again" : Str) = "let" := by decide
theorem FB:¬ ("again" : Str) = "pick" := by decide
theorem DT{c:Bv}{b:Sv}{R:D->Prop}(I:Nat->cU->Prop)(J:cU->Prop)(h:∀n ρ,I n ρ->(c ρ=some true/\((∃m ρ',m<n/\b ρ=some (.nx ρ')/\I m ρ')\/∃d,b ρ=some (.rt d)/\R d))\/(c ρ=some false/\J ρ)):∀(fuel n:Nat) (ρ:cU),n<fuel->I n ρ->(∃ρ',eS c b fuel ρ=some (.nx ρ')/\J ρ')\/∃d,eS c b fuel ρ=some (.rt d)/\R d
 | 0,n,ρ,hn,_=>absurd hn (Nat.not_lt_zero n)
 | fuel+1,n,ρ,hn,hi=>by
  rcases h n ρ hi with⟨q,⟨m,ρ',N,z,F⟩|⟨d,z,B⟩⟩|⟨q,G⟩
  ·rcases DT I J h fuel m ρ' (by lia) F with⟨M,e,G⟩|⟨d,e,B⟩
   ·refine .inl ⟨M,?_,G⟩
    unfold eS;rw[q,aA,if_pos rfl,z,aA];exact e
   ·refine .inr ⟨d,?_,B⟩
    unfold eS;rw[q,aA,if_pos rfl,z,aA];exact e
  ·refine .inr ⟨d,?_,B⟩
   unfold eS;rw[q,aA,if_pos rfl,z,aA]
  ·refine .inl ⟨ρ,?_,G⟩
   unfold eS;rw[q,aA,if_neg zaB]
theorem qZ{c:Bv}{b rest:Sv}{ρ:cU}{R:D->Prop}(I:Nat->cU->Prop)(J:cU->Prop)(n:Nat)(z:n<100000)(F:I n ρ)(h:∀n ρ,I n ρ->(c ρ=some true/\((∃m ρ',m<n/\b ρ=some (.nx ρ')/\I m ρ')\/∃d,b ρ=some (.rt d)/\R d))\/(c ρ=some false/\J ρ))(k:∀ρ',J ρ'->∃d,rest ρ'=some (.rt d)/\R d):∃d,dB (lN c b) rest ρ=some (.rt d)/\R d:=by
 rcases DT I J h 100000 n ρ z F with⟨ρ',e,G⟩|⟨d,e,B⟩
 ·have q:lN c b ρ=some (.nx ρ'):=e
  rw[aF q];exact k ρ' G
 ·have q:lN c b ρ=some (.rt d):=e
  exact⟨d,tL q,B⟩
theorem DG{C:Bk}:aI (bF C) (.int 1)=some (.tup (C.kinds.map .str)):=by unfold bF;rw[q_itT];exact at1
theorem NL:aI (bF C) (.int 2)=some (.tup (C.rs.map kW)):=by unfold bF;rw[q_itT];exact at2
theorem uJ:aI (bF C) (.int 3)=some (.tup (C.makes.map kI)):=by unfold bF;rw[q_itT];exact W9
theorem DC:aI (kI m) (.int 0)=some (.str m.nm):=by unfold kI;rw[q_itT];exact at0
theorem xY:aI (kI m) (.int 1)=some (tupI m.takes):=by unfold kI;rw[q_itT];exact at1
theorem IX:aI (kI m) (.int 2)=some (.int m.g):=by unfold kI;rw[q_itT];exact at2
theorem RX{m:Mk}:aI (kI m) (.int 4)=some (.int m.pr):=by unfold kI;rw[q_itT];exact qd
theorem oG(n:Nat):aR 0 1 n=((zar n).map λ(j:Nat)=>(j:Int)).map D.int:=by
 unfold aR;rw[zav];refine List.map_congr_left λa _=>?_
 show D.int _=D.int _;have:(0:Int)+(a:Int)*1=(a:Int):=by lia
 rw[this]
theorem AO{c:Bv}{rest:List (Option D)}{p:Int->Bool}:∀(l:List Int) (o:Option D),(∀n∈l,c (some (.int n)::rest)=some (p n))->bD (aQ 0) c (aD 0) (l.map .int) (o::rest)=some ((l.filter p).map .int)
 | [],o,_=>rfl
 | n::l,o,h=>by
  have ih:=AO (c:=c) (rest:=rest) (p:=p) l (some (.int n)) λm z=>h m (zap _ z)
  have q:=h n (zat ..);cases hp:p n with
  | true=>simp_all[bD,q,hp,ih]
  | false=>simp_all[bD,q,hp,ih]
theorem rR{C:Bk}{i:Int}{get:Ro->Int}{e:Int}(J:∀r,aI (kW r) (.int i)=some (.int (get r)))(o:Option D):∃F:List Int,bD (aQ 0) (pN (bC kN (bC aI (bC aI (bC aI (aD 1) (eC (.int 2))) (aD 0)) (eC (.int i))) (aD 2))) (aD 0) (aR 0 1 C.rs.length) [o,some (bF C),some (.int e)]=some (F.map .int)/\F.length<=C.rs.length/\∀n∈F,∃r,lU C.rs n=some r/\get r=e:=by
 have z:=AO (c:=pN (bC kN (bC aI (bC aI (bC aI (aD 1) (eC (.int 2))) (aD 0)) (eC (.int i))) (aD 2))) (rest:=[some (bF C),some (.int e)]) (p:=λn=>match lU C.rs n with|some r=>decide (get r=e)|none=>false) ((zar C.rs.length).map λ(j:Nat)=>(j:Int)) o λn B=>by
  obtain⟨k,G,rfl⟩:=List.mem_map.mp B;have:=List.mem_range.mp G;obtain⟨r,q⟩:=TN (rs:=C.rs) (n:=(k:Int)) (by lia) (by lia);simp_all[NL,xG q,J,q]
 rw[<- oG]at z;refine⟨_,z,?_,λn B=>?_⟩
 ·refine zaL (zc0 ..) ?_
  rw[zal,zcH];exact zai _
 ·have:=(List.mem_filter.mp B).2
  cases q:lU C.rs n with
  | none=>simp[-zac,-zab,aA,aB,q]at this
  | some r=>simp[-zac,-zab,aA,aB,q]at this;exact⟨r,rfl,this⟩
theorem BW{C:Bk}(B:OkB C){j c:Int}(N:0<=j)(U:j<(C.kinds.length:Int)):∃(e:Int) (w:List Int),lG [bF C,.int j,.int c]=some (.tup [.int e,tupI w])/\gw C.rs j w=some e:=by
 suffices h:∃d,lG [bF C,.int j,.int c]=some d/\∃(e:Int) (w:List Int),d=.tup [.int e,tupI w]/\gw C.rs j w=some e by
  obtain⟨d,h1,e,w,rfl,h2⟩:=h;exact⟨e,w,h1,h2⟩
 have k6:=B.k6;refine dO ?_;unfold qW;rw[aF (aM (d:=tupI []) (by ac_rfl))];refine qZ (λn ρ=>∃(e c:Int) (w:List Int) (o:Option D),ρ=[some (bF C),some (.int e),some (.int c),some (tupI w),o]/\gw C.rs j w=some e/\n=(6-e).toNat) (λρ=>∃(e c:Int) (w:List Int) (o:Option D),ρ=[some (bF C),some (.int e),some (.int c),some (tupI w),o]/\gw C.rs j w=some e) (6-j).toNat (by lia) ⟨j,c,[],none,by ac_rfl,rfl,rfl⟩ ?_ ?_
 ·rintro n ρ ⟨e,c,w,o,rfl,g,hn⟩
  by_cases M:0<c%3
  ·refine .inl ⟨by simp_all[bQ,M],?_⟩
   have s:=dU B g N U;obtain⟨q,el,ll,Y⟩:=rR (C:=C) (i:=0) (get:=(·.j)) (e:=e) (λr=>ZT) none;have ab:=B.gr.len;have b2:=@NL C;have rm:b7 [.int ((C.rs.map kW).length:Int)]=some (aR 0 1 C.rs.length):=by rw[zal];exact cH (by lia)
   have zz:(aR 0 1 C.rs.length).length<=1000000:=by rw[bI];lia
   rw[aF (aM (d:=.lst (q.map .int)) (by ac_rfl))];by_cases G:q.length=0
   ·exact .inr ⟨.tup [.int e,tupI w],by simp_all[G],e,w,rfl,g⟩
   ·have z:(0:Int)<(q.length:Int):=by lia
    obtain⟨v,hv,hm⟩:=fY (ns:=q) (k:=c/3%(q.length:Int)) (zas _ (zaS z)) (zau _ z);obtain⟨r,F,J⟩:=Y v (zax hm);have up:=(B.gr.jk r (qF F)).2.1;refine .inl ⟨(6-r.k).toNat,[some (bF C),some (.int r.k),some (.int (c/7)),some (tupI (w++[v])),some (.lst (q.map .int))],?_,?_,r.k,c/7,w++[v],_,rfl,RF g F J,rfl⟩
    ·have W:r.j=e:=J
     lia
    ·have ad:dP (tupI w) (.tup [.int v])=some (tupI (w++[v])):=by
      unfold tupI;rw[zaJ];exact if_pos (decide_eq_true (show(w.map D.int).length+1<=1000000 by rw[zal];lia))
     have ea:aI (tupI (w++[v])) (.int ((w.length+1:Nat)-1:Int))=some (.int v):=by
      unfold tupI;rw[show((w.length+1:Nat)-1:Int)=(w.length:Int) by lia];exact bV (by simp[-zac,-zab,aA,aB])
     have dl:gE [tupI (w++[v])]=some (.int ((w.length+1:Nat):Int)):=by simp_all[tupI]
     have de:kN (.int ((q.map D.int).length:Int)) (.int 0)=some (.bl false):=by simp_all[G]
     have md:dE (.int (c/3)) (.int ((q.map D.int).length:Int))=some (.int (c/3%(q.length:Int))):=by rw[zal];exact bQ z
     have ar:=xG F;have rk:=@ZM r;rw[aF (ρ':=[some (bF C),some (.int e),some (.int c),some (tupI w),some (.lst (q.map .int))]) (by ac_rfl)];rw[aF (aM (d:=tupI (w++[v])) (by ac_rfl))];rw[aF (aM (d:=.int r.k) (by ac_rfl))]
     ac_rfl
  ·exact .inr ⟨by simp_all[bQ,M],e,c,w,o,rfl,g⟩
 ·rintro ρ ⟨e,c,w,o,rfl,g⟩
  exact⟨_,by simp[-zac,-zab,aA,aB],e,w,rfl,g⟩
theorem J8{rs:List Ro}{n f:Int}{w:List Int}{r:Ro}(q:lU rs n=some r)(h:gw rs r.k w=some f):gw rs r.j (n::w)=some f:=by
 show((lU rs n).bind λs=>if s.j=r.j then gw rs s.k w else none)=_;rw[q];show(if r.j=r.j then gw rs r.k w else none)=_;rw[if_pos rfl];exact h
theorem BZ{C:Bk}(B:OkB C){k c:Int}(k0:0<=k)(k1:k<(C.kinds.length:Int)):∃(j:Int) (w:List Int),lB [bF C,.int k,.int c]=some (.tup [.int j,tupI w])/\gw C.rs j w=some k/\0<=j/\j<(C.kinds.length:Int):=by
 suffices h:∃d,lB [bF C,.int k,.int c]=some d/\∃(j:Int) (w:List Int),d=.tup [.int j,tupI w]/\gw C.rs j w=some k/\0<=j/\j<(C.kinds.length:Int) by
  obtain⟨d,h1,e,w,rfl,h2⟩:=h;exact⟨e,w,h1,h2⟩
 have k6:=B.k6;refine dO ?_;unfold rT;rw[aF (aM (d:=tupI []) (by ac_rfl))];refine qZ (λn ρ=>∃(e c:Int) (w:List Int) (o:Option D),ρ=[some (bF C),some (.int e),some (.int c),some (tupI w),o]/\gw C.rs e w=some k/\0<=e/\e<(C.kinds.length:Int)/\n=e.toNat) (λρ=>∃(e c:Int) (w:List Int) (o:Option D),ρ=[some (bF C),some (.int e),some (.int c),some (tupI w),o]/\gw C.rs e w=some k/\0<=e/\e<(C.kinds.length:Int)) k.toNat (by lia) ⟨k,c,[],none,by ac_rfl,rfl,k0,k1,rfl⟩ ?_ ?_
 ·rintro n ρ ⟨e,c,w,o,rfl,g,M,F,hn⟩
  by_cases U:0<c%3
  ·refine .inl ⟨by simp_all[bQ,U],?_⟩
   have s:=dU B g M F;obtain⟨q,el,ll,hl⟩:=rR (C:=C) (i:=1) (get:=(·.k)) (e:=e) (λr=>ZM) none;have ac:=B.gr.len;have b2:=@NL C;have rm:b7 [.int ((C.rs.map kW).length:Int)]=some (aR 0 1 C.rs.length):=by rw[zal];exact cH (by lia)
   have zz:(aR 0 1 C.rs.length).length<=1000000:=by rw[bI];lia
   rw[aF (aM (d:=.lst (q.map .int)) (by ac_rfl))];by_cases N:q.length=0
   ·exact .inr ⟨.tup [.int e,tupI w],by simp_all[N],e,w,rfl,g,M,F⟩
   ·have z:(0:Int)<(q.length:Int):=by lia
    obtain⟨v,hv,hm⟩:=fY (ns:=q) (k:=c/3%(q.length:Int)) (zas _ (zaS z)) (zau _ z);obtain⟨r,J,Y⟩:=hl v (zax hm);have W:=B.gr.jk r (qF J);have G:r.k=e:=Y;refine .inl ⟨r.j.toNat,[some (bF C),some (.int r.j),some (.int (c/7)),some (tupI (v::w)),some (.lst (q.map .int))],by lia,?_,r.j,c/7,v::w,_,rfl,J8 J (by rw[G];exact g),W.1,by lia,rfl⟩;have ad:dP (.tup [.int v]) (tupI w)=some (tupI (v::w)):=if_pos (decide_eq_true (show 1+(w.map D.int).length<=1000000 by rw[zal];lia));have ea:aI (tupI (v::w)) (.int 0)=some (.int v):=at0;have de:kN (.int ((q.map D.int).length:Int)) (.int 0)=some (.bl false):=by simp_all[N]
    have md:dE (.int (c/3)) (.int ((q.map D.int).length:Int))=some (.int (c/3%(q.length:Int))):=by rw[zal];exact bQ z
    have ar:=xG J;have rk:=@ZT r;rw[aF (ρ':=[some (bF C),some (.int e),some (.int c),some (tupI w),some (.lst (q.map .int))]) (by ac_rfl)];rw[aF (aM (d:=tupI (v::w)) (by ac_rfl))];rw[aF (aM (d:=.int r.j) (by ac_rfl))]
    ac_rfl
  ·exact .inr ⟨by simp_all[bQ,U],e,c,w,o,rfl,g,M,F⟩
 ·rintro ρ ⟨e,c,w,o,rfl,g⟩
  exact⟨_,by simp[-zac,-zab,aA,aB],e,w,rfl,g⟩
theorem uR{C:Bk}{w:List Int}(h:∀n∈w,∃r,lU C.rs n=some r):∃ns:List Int,bD (aQ 0) fJ (bC aI (bC aI (bC aI (aD 1) (eC (.int 2))) (aD 0)) (eC (.int 4))) (w.map .int) [none,some (bF C)]=some (ns.map .int)/\ns.sum=gC C.rs w:=by
 refine⟨w.map λn=>match lU C.rs n with|some r=>r.p|none=>0,?_,rfl⟩;rw[zav];refine AJ w none λn z=>?_
 obtain⟨r,q⟩:=h n z;simp_all[NL,xG q,qx,q]
theorem qM{C:Bk}{w:List Int}(h:∀n∈w,∃r,lU C.rs n=some r)(z:w.length<=100):lH [bF C,tupI w]=some (.int (gC C.rs w)):=by
 obtain⟨ns,e,hs⟩:=uR h;have q:a7 w.length=true:=decide_eq_true (by lia);refine aK ?_;simp_all[rE,aH,tupI,i6,q,e,hs]
theorem eE{R:List D->Option D}{q:Str}{pre:List D}{v w:List Int}(G:gD (pre++[tupI w]) 0=some (.str q))(M:¬ q = "let")(N:pre.length<=10)(hw:w.length+v.length<=100):bJ 3 (eJ R) [.tup (pre++[tupI w]),tupI v]=some (.tup (pre++[tupI (w++v)])):=by
 have a:gD (pre++[tupI w]) (pre.length:Int)=some (tupI w):=bV (by rw[zdh (zai _),Nat.sub_self];rfl);have z:a7 (pre.length+1)=true:=decide_eq_true (by lia);have J:=HY (as:=pre) (bs:=[tupI w]);have B:dP (tupI w) (tupI v)=some (tupI (w++v)):=by
  have F:a7 (w.length+v.length)=true:=decide_eq_true (by lia);simp_all[tupI,F]
 have e:((pre++[tupI w]).length:Int)-1=(pre.length:Int):=by simp[-zac,-zab,aA,aB]
 refine aK ?_;unfold eJ;rw[aF (aM (d:=.int (pre.length:Int)) (by rw[<- e];rfl))];simp_all[aH,G,M,J,a,B,z]
theorem uW{v:List Int}(B:v.length<=6):∀(n:Nat) (g:Rg),size g<=n->Short g->i8 3 eJ n [rd g,tupI v]=some (rd (beh g v))
 | 0,g,h,_=>by cases g <;> simp[-zac,-zab,aA,aB,size]at h
 | n+1,.name x j w,h,s=>eE (pre:=[.str "name",.str x]) at0 nS (by simp[-zac,-zab,aA,aB]) (by have:w.length<=6:=s;lia)
 | n+1,.num m j w,h,s=>eE (pre:=[.str "number",.int m,.int j]) at0 lP (by simp[-zac,-zab,aA,aB]) (by have:w.length<=6:=s;lia)
 | n+1,.use1 u nm p w,h,s=>eE (pre:=[.str "use",.int (u:Int),.tup [rd p]]) at0 xM (by simp[-zac,-zab,aA,aB]) (by have:w.length<=6:=s.2;lia)
 | n+1,.use2 u nm p q w,h,s=>eE (pre:=[.str "use",.int (u:Int),.tup [rd p,rd q]]) at0 xM (by simp[-zac,-zab,aA,aB]) (by have:w.length<=6:=s.2.2;lia)
 | n+1,.lett x j p q,h,s=>by
  have ih:=uW B n q (by simp only[size]at h;lia) s.2;have F:cutD [.str "let",.str x,.int j,rd p,rd q] none (some 4)=[.str "let",.str x,.int j,rd p]:=rfl;have z:a7 5=true:=rfl;refine aK ?_;simp_all[eJ,aH,rd,beh,at0,qd,F,ih,z]
 | n+1,.pick c k p q r w,h,s=>eE (pre:=[.str "pick",.int c,.int k,rd p,rd q,rd r]) at0 lQ (by simp[-zac,-zab,aA,aB]) (by have:w.length<=6:=s.2.2.2;lia)
 | n+1,.again c k x p q w,h,s=>eE (pre:=[.str "again",.int c,.int k,.str x,rd p,rd q]) at0 iW (by simp[-zac,-zab,aA,aB]) (by have:w.length<=6:=s.2.2;lia)
theorem wC{g:Rg}{v:List Int}(z:size g<=24)(s:Short g)(q:v.length<=6):l9 [rd g,tupI v]=some (rd (beh g v)):=uW q 24 g z s
noncomputable def bT(p:Str×Int):D:=.tup [.str p.1,.int p.2]
def bE(C:Bk)(g:Rg)(k r:Int):D:=.tup [pt g,rd g,.int k,.int (size g:Int),.int (lets g),.int r,.int (cost C g)]
theorem t6{C:Bk}{g:Rg}{k r:Int}:aI (bE C g k r) (.int 0)=some (pt g):=by unfold bE;rw[q_itT];exact at0
theorem t8{C:Bk}{g:Rg}{k r:Int}:aI (bE C g k r) (.int 1)=some (rd g):=by unfold bE;rw[q_itT];exact at1
theorem DI{C:Bk}{g:Rg}{k r:Int}:aI (bE C g k r) (.int 2)=some (.int k):=by unfold bE;rw[q_itT];exact at2
theorem qaw{C:Bk}{g:Rg}{k r:Int}:aI (bE C g k r) (.int 3)=some (.int (size g:Int)):=by unfold bE;rw[q_itT];exact W9
theorem qab{C:Bk}{g:Rg}{k r:Int}:aI (bE C g k r) (.int 4)=some (.int (lets g)):=by unfold bE;rw[q_itT];exact qd
theorem qak{C:Bk}{g:Rg}{k r:Int}:aI (bE C g k r) (.int 5)=some (.int r):=by unfold bE;rw[q_itT];exact at5
theorem qaB{C:Bk}{g:Rg}{k r:Int}:aI (bE C g k r) (.int 6)=some (.int (cost C g)):=by unfold bE;rw[q_itT];exact at6
theorem qO{j:Int}:∀(kn:List (Str×Int)) (o p:Option D),∃ss:List Str,bD (kS 2 (eA (aQ 0) (eA (aQ 1) tW))) (pN (bC kN (aD 1) (aD 2))) (aD 0) (kn.map bT) [o,p,some (.int j)]=some (ss.map .str)/\∀s∈ss,(s,j)∈kn
 | [],o,p=>⟨[],rfl,λ_ h=>nomatch h⟩
 | (x,i)::kn,o,p=>by
  obtain⟨ss,e,hs⟩:=qO (j:=j) kn (some (.str x)) (some (.int i));by_cases h:i=j
  ·refine⟨x::ss,by simp[-zac,-zab,aA,aB,bD,bT,h]at e ⊢;simp_all[e],λs q=>?_⟩
   rcases List.mem_cons.mp q with z|z
   ·rw[z,h];exact zat ..
   ·exact zap _ (hs s z)
  ·exact⟨ss,by simp[-zac,-zab,aA,aB,bD,bT,h]at e ⊢;simp_all[e],λs q=>zap _ (hs s q)⟩
theorem dH{C:Bk}(B:OkB C){kn:List (Str×Int)}{k c:Int}(hl:kn.length<=100)(k0:0<=k)(k1:k<(C.kinds.length:Int))(c0:0<=c)(c1:c<10^60):∃g,bP [bF C,.lst (kn.map bT),.int k,.int c]=some (bE C g k 0)/\WF C kn g k/\size g=1/\lets g=0/\∀U N,NF U N g:=by
 suffices h:∃d,bP [bF C,.lst (kn.map bT),.int k,.int c]=some d/\∃g,d=bE C g k 0/\WF C kn g k/\size g=1/\lets g=0/\∀U N,NF U N g by
  obtain⟨d,h1,g,rfl,h2⟩:=h;exact⟨g,h1,h2⟩
 have ab:(10:Int)^60=1000000000000000000000000000000000000000000000000000000000000:=by decide +kernel
 obtain⟨j,w,eb,q,J,W⟩:=BZ B (k:=k) (c:=c/5) k0 k1;have sh:=dU B q J W;obtain⟨ss,es,hs⟩:=qO (j:=j) kn none none;have zk:a7 kn.length=true:=decide_eq_true (by lia);have ec:=qM (C:=C) (xT q) (by lia);have Y:0<C.M:=by have:=B.M3;lia
 refine dO ?_;unfold rA;rw[aF (ρ':=[some (bF C),some (.lst (kn.map bT)),some (.int k),some (.int c),some (.int j),some (tupI w),none,none,none,none]) (by ac_rfl)];rw[aF (aM (d:=.lst (ss.map .str)) (by simp_all[zk,i6,es]))];rw[aF (aM (d:=.int (gC C.rs w)) (by ac_rfl))];have num:∃d,dB (dZ 9 (bC dE (bC cR (bC hW (aD 3) (eC (.int 11))) (eC (.int 982451653))) (bC aI (aD 0) (eC (.int 0)))))
   (JD (eV (aC (eV (aC (eC (.str "number")) (aC (aD 9) (aC (aD 4) aZ)))) (aC (eV (aC (eC (.str "number")) (aC (aD 9) (aC (aD 4) (aC (aD 5) aZ))))) (aC (aD 2) (aC (eC (.int 1)) (aC (eC (.int 0)) (aC (eC (.int 0)) (aC (aD 7) aZ)))))))))
   [some (bF C),some (.lst (kn.map bT)),some (.int k),some (.int c),some (.int j),some (tupI w),some (.lst (ss.map .str)),some (.int (gC C.rs w)),none,none]=some (.rt d)/\∃g,d=bE C g k 0/\WF C kn g k/\size g=1/\lets g=0/\∀U N,NF U N g:=by
  have mu:cR (.int (c/11)) (.int 982451653)=some (.int (c/11*982451653)):=cF (by lia) (by lia) (by decide +kernel) (by decide +kernel);have n0:=zas (c/11*982451653) (zaS Y);have n1:=zau (c/11*982451653) Y;rw[aF (aM (d:=.int (c/11*982451653%C.M)) (by ac_rfl))];exact⟨_,by simp[-zac,-zab,aA,aB];rfl,.num (c/11*982451653%C.M) j w,by ac_rfl,⟨⟨n0,n1⟩,⟨J,W⟩,q⟩,rfl,rfl,λ_ _=>trivial⟩
 by_cases h1:1<c%5
 ·by_cases h2:ss.length=0
  ·rw[aF (ρ':=[some (bF C),some (.lst (kn.map bT)),some (.int k),some (.int c),some (.int j),some (tupI w),some (.lst (ss.map .str)),some (.int (gC C.rs w)),none,none]) (by simp_all[bQ,h1,h2])]
   exact num
  ·have F:(0:Int)<(ss.length:Int):=by lia
   have G:0<ss.length:=by lia
   obtain⟨d,hm,_,hd⟩:=tU (l:=ss.map D.str) (k:=c/7%(ss.length:Int)) (zas _ (zaS F)) (by rw[zal];exact zau _ F);obtain⟨s,z,rfl⟩:=List.mem_map.mp hm;refine⟨bE C (.name s j w) k 0,tL ?_,.name s j w,rfl,⟨hs s z,q⟩,rfl,rfl,λ_ _=>trivial⟩;simp_all[bQ,h1,G,hV,bQ F,hd,bE,pt,rd,size,lets,cost]
 ·rw[aF (ρ':=[some (bF C),some (.lst (kn.map bT)),some (.int k),some (.int c),some (.int j),some (tupI w),some (.lst (ss.map .str)),some (.int (gC C.rs w)),none,none]) (by ac_rfl)]
  exact num
local macro_rules | `(tactic|ac_rfl) => `(tactic|(with_reducible first|exact t6|exact t8|exact DI|exact qaw|exact qab|exact DG|exact NL|exact uJ|exact DC|exact xY|exact IX|exact RX|exact at5|exact at6))
structure S7 where
 p:D
 q:D
 k:D
 a:Int
 b:Int
 r:Int
 c:Int
noncomputable def sD(s:S7):D:=.tup [s.p,s.q,s.k,.int s.a,.int s.b,.int s.r,.int s.c]
theorem s_3{s:S7}:aI (sD s) (.int 3)=some (.int s.a):=by unfold sD;rw[q_itT];exact W9
theorem s_4{s:S7}:aI (sD s) (.int 4)=some (.int s.b):=by unfold sD;rw[q_itT];exact qd
theorem s_5{s:S7}:aI (sD s) (.int 5)=some (.int s.r):=by unfold sD;rw[q_itT];exact at5
theorem s_6{s:S7}:aI (sD s) (.int 6)=some (.int s.c):=by unfold sD;rw[q_itT];exact at6
noncomputable def x8(w:Str):Int:=if w = "let" then 1 else 0
theorem kZ{w0:Str}{l:List D}{q k:D}{ss:List S7}{own:Int}(Y:ss.length<=10):∃r:Int,aV [.tup (.str w0::l),q,k,.lst (ss.map sD),.int own]=some (.tup [.tup (.str w0::l),q,k,.int (1+(ss.map (·.a)).sum),.int (x8 w0+(ss.map (·.b)).sum),.int r,.int (own+(ss.map (·.c)).sum)]):=by
 suffices h:∃d,aV [.tup (.str w0::l),q,k,.lst (ss.map sD),.int own]=some d/\∃r:Int,d=.tup [.tup (.str w0::l),q,k,.int (1+(ss.map (·.a)).sum),.int (x8 w0+(ss.map (·.b)).sum),.int r,.int (own+(ss.map (·.c)).sum)] by
  obtain⟨d,e,r,rfl⟩:=h;exact⟨r,e⟩
 refine dO ?_;unfold rV;rw[aF (aM (d:=.int 1) (by simp[-zac,-zab,aA,aB]))];rw[aF (aM (d:=.int (x8 w0)) (by by_cases h:w0 = "let" <;> simp_all[aH,at0,x8,h]))];rw[aF (aM (d:=.int 0) (by simp[-zac,-zab,aA,aB]))];refine iX (items:=aR 0 1 ss.length) (by simp_all[aH,cH (show ss.length<=1000000 by lia)]) (λi ρ=>∃(r:Int) (F J:Option D),ρ=[some (.tup (.str w0::l)),some q,some k,some (.lst (ss.map sD)),some (.int (own+((ss.take i).map (·.c)).sum)),some (.int (1+((ss.take i).map (·.a)).sum)),some (.int (x8 w0+((ss.take i).map (·.b)).sum)),some (.int r),F,J]) ⟨0,none,none,by simp_all[aH]⟩ ?_ ?_
 ·rintro i x ρ hx ⟨r,F,J,rfl⟩
  obtain⟨G,rfl⟩:=bZ hx;have N:(0:Int)+(i:Int)*1=(i:Int):=by lia
  rw[N];obtain⟨s,hs⟩:∃s,ss[i]?=some s:=⟨ss[i],zaT G⟩;have M:gD (ss.map sD) (i:Int)=some (sD s):=bV (by rw[zaC,hs];rfl);have U:(ss.take (i+1))=ss.take i++[s]:=by rw[zcY,hs];rfl
  rw[U];simp only[zaJ,zak,zcA,List.sum_append_int,zbr,List.sum_nil,Int.add_zero];generalize ((ss.take i).map (·.a)).sum=A;generalize ((ss.take i).map (·.b)).sum=Bb;generalize ((ss.take i).map (·.c)).sum=Cc;have q3:=s_3 (s:=s);have q4:=s_4 (s:=s);have q5:=s_5 (s:=s);have q6:=s_6 (s:=s);have B:∃z:Int,aS GH (aC (aD 7) (aC (bC dP (bC aI (aD 9) (eC (.int 5))) (aS DJ (aC (NP (bC kN (bC aI (aD 0) (eC (.int 0))) (eC (.str "again"))) (bC kN (aD 8) (eC (.int 1)))) aZ))) aZ)) [some (.tup (.str w0::l)),some q,some k,some (.lst (ss.map sD)),some (.int (own+Cc)),some (.int (1+A+s.a)),some (.int (x8 w0+Bb+s.b)),some (.int r),some (.int (i:Int)),some (sD s)]=some (.int z):=by
   obtain⟨b,hb⟩:∃b,kN (.str w0) (.str "again")=some (.bl b):=⟨_,by simp[-zac,-zab,aA,aB];rfl⟩;obtain⟨b2,W⟩:∃b,kN (.int (i:Int)) (.int 1)=some (.bl b):=⟨_,by simp[-zac,-zab,aA,aB];rfl⟩;cases b <;> exact⟨_,by ac_rfl⟩
  obtain⟨z,B⟩:=B;refine⟨[some (.tup (.str w0::l)),some q,some k,some (.lst (ss.map sD)),some (.int (own+(Cc+s.c))),some (.int (1+(A+s.a))),some (.int (x8 w0+(Bb+s.b))),some (.int z),some (.int (i:Int)),some (sD s)],?_,z,_,_,rfl⟩;show(aQ 8 _ _).bind _=_;rw[q_name,aA,<- zc3,<- zc3,<- zc3];rw[aF (aM (d:=sD s) (by ac_rfl))];rw[aF (aM (d:=.int (1+A+s.a)) (by ac_rfl))];rw[aF (aM (d:=.int (x8 w0+Bb+s.b)) (by ac_rfl))];rw[aF (aM (d:=.int z) (by exact B))]
  ac_rfl
 ·rintro ρ ⟨r,F,J,rfl⟩
  rw[bI,zbX];exact⟨_,by simp[-zac,-zab,aA,aB],r,rfl⟩
def sG(C:Bk)(g:Rg)(k r:Int):S7:=⟨pt g,rd g,.int k,size g,lets g,r,cost C g⟩
structure Gs(U:List Str)(C:Bk)(kn:List (Str×Int))(g:Rg)(k:Int)(n:Nat):Prop where
 wf:WF C kn g k
 k0:0<=k
 k1:k<(C.kinds.length:Int)
 sz:size g<=n
 nf:NF U (kn.map (·.1)) g
theorem YL{C:Bk}{w0:Str}{l:List D}{q k:D}{g1:Rg}{k1 r1 own:Int}:∃r:Int,aV [.tup (.str w0::l),q,k,.lst [bE C g1 k1 r1],.int own]=some (.tup [.tup (.str w0::l),q,k,.int (1+(size g1:Int)),.int (x8 w0+lets g1),.int r,.int (own+cost C g1)]):=by
 obtain⟨r,h⟩:=kZ (w0:=w0) (l:=l) (q:=q) (k:=k) (ss:=[sG C g1 k1 r1]) (own:=own) (by simp[-zac,-zab,aA,aB]);exact⟨r,by simpa[sG,sD,bE]using h⟩
theorem M9{C:Bk}{w0:Str}{l:List D}{q k:D}{g1 g2:Rg}{k1 r1 k2 r2 own:Int}:∃r:Int,aV [.tup (.str w0::l),q,k,.lst [bE C g1 k1 r1,bE C g2 k2 r2],.int own]=some (.tup [.tup (.str w0::l),q,k,.int (1+((size g1:Int)+(size g2:Int))),.int (x8 w0+(lets g1+lets g2)),.int r,.int (own+(cost C g1+cost C g2))]):=by
 obtain⟨r,h⟩:=kZ (w0:=w0) (l:=l) (q:=q) (k:=k) (ss:=[sG C g1 k1 r1,sG C g2 k2 r2]) (own:=own) (by simp[-zac,-zab,aA,aB]);exact⟨r,by simpa[sG,sD,bE]using h⟩
theorem YK{C:Bk}{w0:Str}{l:List D}{q k:D}{g1 g2 g3:Rg}{k1 r1 k2 r2 k3 r3 own:Int}:∃r:Int,aV [.tup (.str w0::l),q,k,.lst [bE C g1 k1 r1,bE C g2 k2 r2,bE C g3 k3 r3],.int own]=some (.tup [.tup (.str w0::l),q,k,.int (1+((size g1:Int)+((size g2:Int)+(size g3:Int)))),.int (x8 w0+(lets g1+(lets g2+lets g3))),.int r,.int (own+(cost C g1+(cost C g2+cost C g3)))]):=by
 obtain⟨r,h⟩:=kZ (w0:=w0) (l:=l) (q:=q) (k:=k) (ss:=[sG C g1 k1 r1,sG C g2 k2 r2,sG C g3 k3 r3]) (own:=own) (by simp[-zac,-zab,aA,aB]);exact⟨r,by simpa[sG,sD,bE]using h⟩
theorem FK:x8 "use" = 0:=by decide
theorem J5:x8 "pick" = 0:=by decide
theorem HZ:x8 "again" = 0:=by decide
theorem QT:x8 "let" = 1:=by decide
theorem pY{rs:List Ro}:gC rs []=0:=rfl
theorem LY{C:Bk}{v:Nat}{m:Mk}(h:C.makes[v]?=some m):mpr C v=m.pr:=by unfold mpr;rw[h];rfl
theorem mB{U:List Str}{C:Bk}(B:OkB C){kn:List (Str×Int)}(K:OkN C kn){g:Rg}{k r c:Int}{n:Nat}(G:Gs U C kn g k n)(hn:n<=24):∃g' z,iD [bF C,bE C g k r,.int c]=some (bE C g' z r)/\Gs U C kn g' z n/\size g'=size g/\lets g'=lets g:=by
 obtain⟨e,w,F,q⟩:=BW B (j:=k) (c:=c) G.k0 G.k1;have s:=dU B q G.k0 G.k1;have M:=G.wf.short B K;have N:=wC (g:=g) (v:=w) (by have:=G.sz;lia) M.1 s.1;have W:=qM (C:=C) (xT q) (by lia);refine⟨beh g w,e,aK ?_,⟨G.wf.beh q,s.2.1,s.2.2,by rw[mL];exact G.sz,G.nf.beh⟩,mL g w,sF g w⟩;unfold lX;rw[aF (ρ':=[some (bF C),some (bE C g k r),some (.int c),some (.int e),some (tupI w)]) (by simp_all[aH,DI,F])];have Y:xW (bE C g k r) (some 3) (some 6)=some (.tup [.int (size g:Int),.int (lets g),.int r]):=rfl;have z6:a7 6=true:=rfl;have J:a7 7=true:=rfl;simp_all[t6,t8,qaB,N,W,Y,z6,J];simp_all[bE,MG,mL,sF,zS]
theorem pI{C:Bk}{v:Nat}{m:Mk}(h:C.makes[v]?=some m):gD (C.makes.map kI) (v:Int)=some (kI m):=bV (by rw[zaC,h];rfl)
noncomputable def DP(p:Nat×Nat):D:=.tup [.int (p.1:Int),.int (p.2:Int)]
theorem P6{C:Bk}{v:Nat}{m:Mk}(z:C.makes[v]?=some m){g:Rg}{k1 r1:Int}:∃r,aV [.tup [.str "use",.str m.nm,.tup [pt g]],.tup [.str "use",.int (v:Int),.tup [rd g],.tup []],.int m.g,.lst [bE C g k1 r1],.int m.pr]=some (bE C (.use1 v m.nm g []) m.g r):=by
 obtain⟨r,h⟩:=YL (C:=C) (w0 := "use") (l:=[.str m.nm,.tup [pt g]]) (q:=.tup [.str "use",.int (v:Int),.tup [rd g],.tup []]) (k:=.int m.g) (g1:=g) (k1:=k1) (r1:=r1) (own:=m.pr);exact⟨r,h.trans (by simp_all[bE,pt,rd,size,lets,cost,tupI,LY z,pY,FK])⟩
theorem D0{C:Bk}{v:Nat}{m:Mk}(z:C.makes[v]?=some m){g g':Rg}{k1 r1 k2 r2:Int}:∃r,aV [.tup [.str "use",.str m.nm,.tup [pt g,pt g']],.tup [.str "use",.int (v:Int),.tup [rd g,rd g'],.tup []],.int m.g,.lst [bE C g k1 r1,bE C g' k2 r2],.int m.pr]=some (bE C (.use2 v m.nm g g' []) m.g r):=by
 obtain⟨r,h⟩:=M9 (C:=C) (w0 := "use") (l:=[.str m.nm,.tup [pt g,pt g']]) (q:=.tup [.str "use",.int (v:Int),.tup [rd g,rd g'],.tup []]) (k:=.int m.g) (g1:=g) (k1:=k1) (r1:=r1) (g2:=g') (k2:=k2) (r2:=r2) (own:=m.pr);exact⟨r,h.trans (by simp_all[bE,pt,rd,size,lets,cost,tupI,LY z,pY,FK])⟩
theorem MR{C:Bk}{x:Str}{j k:Int}{g g':Rg}{k1 r1 k2 r2:Int}:∃r,aV [.tup [.str "let",.str x,pt g,pt g'],.tup [.str "let",.str x,.int j,rd g,rd g'],.int k,.lst [bE C g k1 r1,bE C g' k2 r2],.int 0]=some (bE C (.lett x j g g') k r):=by
 obtain⟨r,h⟩:=M9 (C:=C) (w0 := "let") (l:=[.str x,pt g,pt g']) (q:=.tup [.str "let",.str x,.int j,rd g,rd g']) (k:=.int k) (g1:=g) (k1:=k1) (r1:=r1) (g2:=g') (k2:=k2) (r2:=r2) (own:=0);exact⟨r,h.trans (by simp_all[bE,pt,rd,size,lets,cost,QT])⟩
theorem zD{C:Bk}{x:Str}{n j k:Int}{g g':Rg}{k1 r1 k2 r2:Int}:∃r,aV [.tup [.str "again",.int n,.int j,.str x,pt g,pt g'],.tup [.str "again",.int n,.int j,.str x,rd g,rd g',.tup []],.int k,.lst [bE C g k1 r1,bE C g' k2 r2],.int 0]=some (bE C (.again n j x g g' []) k r):=by
 obtain⟨r,h⟩:=M9 (C:=C) (w0 := "again") (l:=[.int n,.int j,.str x,pt g,pt g']) (q:=.tup [.str "again",.int n,.int j,.str x,rd g,rd g',.tup []]) (k:=.int k) (g1:=g) (k1:=k1) (r1:=r1) (g2:=g') (k2:=k2) (r2:=r2) (own:=0);exact⟨r,h.trans (by simp_all[bE,pt,rd,size,lets,cost,tupI,pY,HZ])⟩
theorem wZ{C:Bk}{c j k:Int}{g g' g2:Rg}{k1 r1 k2 r2 k3 r3:Int}:∃r,aV [.tup [.str "pick",.int c,.int j,pt g,pt g',pt g2],.tup [.str "pick",.int c,.int j,rd g,rd g',rd g2,.tup []],.int k,.lst [bE C g k1 r1,bE C g' k2 r2,bE C g2 k3 r3],.int 0]=some (bE C (.pick c j g g' g2 []) k r):=by
 obtain⟨r,h⟩:=YK (C:=C) (w0 := "pick") (l:=[.int c,.int j,pt g,pt g',pt g2]) (q:=.tup [.str "pick",.int c,.int j,rd g,rd g',rd g2,.tup []]) (k:=.int k) (g1:=g) (k1:=k1) (r1:=r1) (g2:=g') (k2:=k2) (r2:=r2) (g3:=g2) (k3:=k3) (r3:=r3) (own:=0);exact⟨r,h.trans (by simp_all[bE,pt,rd,size,lets,cost,tupI,pY,J5])⟩
theorem w4{bk K s c B F q R nm J pd:D}{o:Option D}{z G zs ps rs:List D}(h1:aI q (.int 1)=some (.tup z))(h0:aI q (.int 0)=some nm)(h2:aI q (.int 2)=some J)(h4:aI q (.int 4)=some pd)(tl:z.length<=2)(zl:zs.length<=2)(M:bD (aQ 0) fJ (aS bP (aC (aD 1) (aC (aD 2) (aC (aD 0) (aC (bC hW (aD 3) (eC (.int 6))) aZ))))) z [none,some bk,some K,some c]=some G)(W:lS (.lst G) F s=some (.lst zs))
  (c0:bD (aQ 0) fJ (bC aI (aD 0) (eC (.int 0))) zs [none]=some ps) (Y:bD (aQ 0) fJ (bC aI (aD 0) (eC (.int 1))) zs [none]=some rs) (U:aV [.tup [.str "use",nm,.tup ps],.tup [.str "use",B,.tup rs,.tup []],J,.lst zs,pd]=some R) :
  dB (dZ 8 (dY [none,some 0,some 1,some 3] (fO (bC aI (aD 7) (eC (.int 1)))) (aQ 0) fJ (aS bP (aC (aD 1) (aC (aD 2) (aC (aD 0) (aC (bC hW (aD 3) (eC (.int 6))) aZ)))))))
   (dB (DF 8 (aD 6) (aD 2))
   (dB (dZ 9 (eV (aC (eC (.str "use")) (aC (bC aI (aD 7) (eC (.int 0))) (aC (aS kA (aC (dY [none] (fO (aD 8)) (aQ 0) fJ (bC aI (aD 0) (eC (.int 0)))) aZ)) aZ)))))
   (dB (dZ 10 (eV (aC (eC (.str "use")) (aC (aD 5) (aC (aS kA (aC (dY [none] (fO (aD 8)) (aQ 0) fJ (bC aI (aD 0) (eC (.int 1)))) aZ)) (aC (eV aZ) aZ))))))
   (JD (aS aV (aC (aD 9) (aC (aD 10) (aC (bC aI (aD 7) (eC (.int 2))) (aC (aD 8) (aC (bC aI (aD 7) (eC (.int 4))) aZ)))))))))) [some bk,some K,some s,some c,o,some B,some F,some q,none,none,none]=some (.rt R):=by
 have N:bD (aQ 0) fJ (aS bP (aC (aD 1) (aC (aD 2) (aC (aD 0) (aC (bC hW (aD 3) (eC (.int 6))) aZ))))) z (i6 [none,some 0,some 1,some 3] [some bk,some K,some s,some c,o,some B,some F,some q,none,none,none])=some G:=M
 ac_rfl
theorem K5{U:List Str}{C:Bk}(B:OkB C){kn:List (Str×Int)}(hk:kn.length<=100){g:Rg}{k r c:Int}{n:Nat}(G:Gs U C kn g k n)(c0:0<=c)(c1:c<10^60){v a:Nat}{m:Mk}(N:C.makes[v]?=some m)(q:m.takes[a]?=some k)(o:Option D) :
  ∃g' k' W,dB (dZ 8 (dY [none,some 0,some 1,some 3] (fO (bC aI (aD 7) (eC (.int 1)))) (aQ 0) fJ (aS bP (aC (aD 1) (aC (aD 2) (aC (aD 0) (aC (bC hW (aD 3) (eC (.int 6))) aZ)))))))
   (dB (DF 8 (aD 6) (aD 2))
   (dB (dZ 9 (eV (aC (eC (.str "use")) (aC (bC aI (aD 7) (eC (.int 0))) (aC (aS kA (aC (dY [none] (fO (aD 8)) (aQ 0) fJ (bC aI (aD 0) (eC (.int 0)))) aZ)) aZ)))))
   (dB (dZ 10 (eV (aC (eC (.str "use")) (aC (aD 5) (aC (aS kA (aC (dY [none] (fO (aD 8)) (aQ 0) fJ (bC aI (aD 0) (eC (.int 1)))) aZ)) (aC (eV aZ) aZ))))))
   (JD (aS aV (aC (aD 9) (aC (aD 10) (aC (bC aI (aD 7) (eC (.int 2))) (aC (aD 8) (aC (bC aI (aD 7) (eC (.int 4))) aZ)))))))))) [some (bF C),some (.lst (kn.map bT)),some (bE C g k r),some (.int c),o,some (.int (v:Int)),some (.int (a:Int)),some (kI m),none,none,none]=some (.rt (bE C g' k' W))/\Gs U C kn g' k' (n+2):=by
 have M:=zax N;have ak:(10:Int)^60=1000000000000000000000000000000000000000000000000000000000000:=by decide +kernel
 have Y:=B.gb m M;have tb:=B.tb m M;have sz:=G.sz;rcases B.tk m M with⟨t,J⟩|⟨t,u,J⟩
 ·rw[J]at q tb
  have m1:aI (kI m) (.int 1)=some (.tup [.int t]):=by rw[xY,J];rfl
  have z:=tb t (by simp[-zac,-zab,aA,aB]);obtain⟨g2,e2,w2,s2,l2,n2⟩:=dH B (kn:=kn) (k:=t) (c:=c/6) hk z.1 z.2 (by lia) (by lia)
  match a,q with
  | 0,q=>
   have F:t=k:=by simpa using q
   subst F;obtain⟨W,eo⟩:=P6 N (g:=g) (k1:=t) (r1:=r);have pu:lS (.lst [bE C g2 t 0]) (.int 0) (bE C g t r)=some (.lst [bE C g t r]):=lM (by decide) (by simp[-zac,-zab,aA,aB]);exact⟨.use1 v m.nm g [],m.g,W,w4 (bk:=bF C) (K:=.lst (kn.map bT)) (c:=.int c) m1 DC IX RX (by simp[-zac,-zab,aA,aB]) (by simp[-zac,-zab,aA,aB]) (by ac_rfl) pu (by ac_rfl) (by ac_rfl) eo,⟨⟨m,t,N,rfl,J,G.wf,rfl⟩,Y.1,Y.2,by simp only[size];lia,G.nf⟩⟩
  | a+1,q=>simp[-zac,-zab,aA,aB]at q
 ·rw[J]at q tb
  have m1:aI (kI m) (.int 1)=some (.tup [.int t,.int u]):=by rw[xY,J];rfl
  have z:=tb t (by simp[-zac,-zab,aA,aB]);have ac:=tb u (by simp[-zac,-zab,aA,aB]);obtain⟨g2,e2,w2,s2,l2,n2⟩:=dH B (kn:=kn) (k:=t) (c:=c/6) hk z.1 z.2 (by lia) (by lia);obtain⟨g3,e3,w3,s3,l3,n3⟩:=dH B (kn:=kn) (k:=u) (c:=c/6) hk ac.1 ac.2 (by lia) (by lia)
  match a,q with
  | 0,q=>
   have F:t=k:=by simpa using q
   subst F;obtain⟨W,eo⟩:=D0 N (g:=g) (k1:=t) (r1:=r) (g':=g3) (k2:=u) (r2:=0);have pu:lS (.lst [bE C g2 t 0,bE C g3 u 0]) (.int 0) (bE C g t r)=some (.lst [bE C g t r,bE C g3 u 0]):=lM (by decide) (by simp[-zac,-zab,aA,aB]);exact⟨.use2 v m.nm g g3 [],m.g,W,w4 (bk:=bF C) (K:=.lst (kn.map bT)) (c:=.int c) m1 DC IX RX (by simp[-zac,-zab,aA,aB]) (by simp[-zac,-zab,aA,aB]) (by ac_rfl) pu (by ac_rfl) (by ac_rfl) eo,⟨⟨m,t,u,N,rfl,J,G.wf,w3,rfl⟩,Y.1,Y.2,by simp only[size];lia,⟨G.nf,n3 _ _⟩⟩⟩
  | 1,q=>
   have F:u=k:=by simpa using q
   subst F;obtain⟨W,eo⟩:=D0 N (g:=g2) (k1:=t) (r1:=0) (g':=g) (k2:=u) (r2:=r);have pu:lS (.lst [bE C g2 t 0,bE C g3 u 0]) (.int 1) (bE C g u r)=some (.lst [bE C g2 t 0,bE C g u r]):=lM (by decide) (by simp[-zac,-zab,aA,aB]);exact⟨.use2 v m.nm g2 g [],m.g,W,w4 (bk:=bF C) (K:=.lst (kn.map bT)) (c:=.int c) m1 DC IX RX (by simp[-zac,-zab,aA,aB]) (by simp[-zac,-zab,aA,aB]) (by ac_rfl) pu (by ac_rfl) (by ac_rfl) eo,⟨⟨m,t,u,N,rfl,J,w2,G.wf,rfl⟩,Y.1,Y.2,by simp only[size];lia,⟨n2 _ _,G.nf⟩⟩⟩
  | a+2,q=>simp[-zac,-zab,aA,aB]at q
theorem Gs.mono{U:List Str}{C:Bk}{kn:List (Str×Int)}{g:Rg}{k:Int}{n n':Nat}(G:Gs U C kn g k n)(h:n<=n'):Gs U C kn g k n':=⟨G.wf,G.k0,G.k1,zaL G.sz h,G.nf⟩
theorem BP{U:List Str}{C:Bk}(B:OkB C){kn:List (Str×Int)}(hk:kn.length<=100){g:Rg}{k r c:Int}{n:Nat}(G:Gs U C kn g k n)(c0:0<=c)(c1:c<10^60):∃g' F M,lE [bF C,.lst (kn.map bT),bE C g k r,.int c]=some (bE C g' F M)/\Gs U C kn g' F (n+2):=by
 suffices h:∃d,lE [bF C,.lst (kn.map bT),bE C g k r,.int c]=some d/\∃g' F M,d=bE C g' F M/\Gs U C kn g' F (n+2) by
  obtain⟨d,h1,g',F,M,rfl,h2⟩:=h;exact⟨g',F,M,h1,h2⟩
 have ml:=B.ml;refine dO ?_;unfold rN;rw[aF (aM (d:=.lst []) (by simp[-zac,-zab,aA,aB]))];refine iX (items:=aR 0 1 C.makes.length) (by simp_all[aH,uJ,cH (show C.makes.length<=1000000 by lia)]) (λi ρ=>∃(ps:List (Nat×Nat)) (o5 q:Option D),ρ=[some (bF C),some (.lst (kn.map bT)),some (bE C g k r),some (.int c),some (.lst (ps.map DP)),o5,q,none,none,none,none]/\(∀p∈ps,∃m,C.makes[p.1]?=some m/\m.takes[p.2]?=some k)/\ps.length<=2*i) ⟨[],none,none,by simp_all[aH],(λ_ h=>nomatch h),by simp[-zac,-zab,aA,aB]⟩ ?_ ?_
 ·rintro i x ρ hx ⟨ps,o5,q,rfl,N,hl⟩
  obtain⟨J,rfl⟩:=bZ hx;have e0:(0:Int)+(i:Int)*1=(i:Int):=by lia
  rw[e0];obtain⟨m,W⟩:∃m,C.makes[i]?=some m:=⟨C.makes[i],zaT J⟩;have ai:=zax W;have tl:m.takes.length<=2:=by rcases B.tk m ai with⟨t,et⟩|⟨t,u,et⟩ <;> rw[et] <;> simp[-zac,-zab,aA,aB]
  obtain⟨ρ',e,ae,ac,rfl,ah,ag⟩:=xH (g:=aQ 6) (b:=BD (pN (bC kN (bC aI (bC aI (bC aI (bC aI (aD 0) (eC (.int 3))) (aD 5)) (eC (.int 1))) (aD 6)) (bC aI (aD 2) (eC (.int 2))))) (IR 4 (eV (aC (aD 5) (aC (aD 6) aZ)))) R7) (items:=aR 0 1 m.takes.length) (ρ:=[some (bF C),some (.lst (kn.map bT)),some (bE C g k r),some (.int c),some (.lst (ps.map DP)),some (.int (i:Int)),q,none,none,none,none]) (λj ρ=>∃(ps:List (Nat×Nat)) (q:Option D),ρ=[some (bF C),some (.lst (kn.map bT)),some (bE C g k r),some (.int c),some (.lst (ps.map DP)),some (.int (i:Int)),q,none,none,none,none]/\(∀p∈ps,∃m,C.makes[p.1]?=some m/\m.takes[p.2]?=some k)/\ps.length<=2*i+j) ⟨ps,q,rfl,N,hl⟩ (by
   rintro j x ρ hx ⟨ps,q,rfl,N,hl⟩;obtain⟨J,rfl⟩:=bZ hx;have e0:(0:Int)+(j:Int)*1=(j:Int):=by lia
   rw[e0];obtain⟨t,ht⟩:∃t,m.takes[j]?=some t:=⟨m.takes[j],zaT J⟩;have aj:gD (m.takes.map D.int) (j:Int)=some (.int t):=bV (by rw[zaC,ht];rfl);have hz:(ps.map DP).length<=1000000:=by rw[zal];lia
   have e3:=pI W;have ap:aI (tupI m.takes) (.int (j:Int))=some (.int t):=aj;by_cases h:t=k
   ·refine⟨[some (bF C),some (.lst (kn.map bT)),some (bE C g k r),some (.int c),some (.lst ((ps++[(i,j)]).map DP)),some (.int (i:Int)),some (.int (j:Int)),none,none,none,none],?_,ps++[(i,j)],_,rfl,λp af=>?_,by simp[-zac,-zab,aA,aB];lia⟩
    ·have de:kN (.int t) (.int k)=some (.bl true):=by simp_all[h]
     rw[show(ps++[(i,j)]).map DP=ps.map DP++[.tup [.int (i:Int),.int (j:Int)]] by simp_all[DP]]
     ac_rfl
    ·rcases List.mem_append.mp af with z|z
     ·exact N p z
     ·rw[List.mem_singleton.mp z];exact⟨m,W,by rw[<- h];exact ht⟩
   ·refine⟨[some (bF C),some (.lst (kn.map bT)),some (bE C g k r),some (.int c),some (.lst (ps.map DP)),some (.int (i:Int)),some (.int (j:Int)),none,none,none,none],?_,ps,_,rfl,N,by lia⟩
    have de:kN (.int t) (.int k)=some (.bl false):=by simp_all[h]
    ac_rfl)
  rw[bI]at ag;refine⟨_,?_,ae,some (.int (i:Int)),ac,rfl,ah,by lia⟩;show(aQ 5 _ _).bind _=_;rw[q_name,aA,q_for];have hf:lR b7 (aC (aS gE (aC (bC aI (bC aI (bC aI (aD 0) (eC (.int 3))) (aD 5)) (eC (.int 1))) aZ)) aZ) [some (bF C),some (.lst (kn.map bT)),some (bE C g k r),some (.int c),some (.lst (ps.map DP)),some (.int (i:Int)),q,none,none,none,none]=some (aR 0 1 m.takes.length):=by
   simp_all[uJ,pI W,xY,tupI,cH (show m.takes.length<=1000000 by lia)]
  exact(congrArg (λz=>zcG z _) hf).trans e
 ·rintro ρ ⟨ps,o5,q,rfl,N,hl⟩
  rw[bI]at hl;by_cases h0:ps.length=0
  ·exact⟨bE C g k r,tL (by simp_all[h0]),g,k,r,rfl,G.mono (by lia)⟩
  ·have lp:(0:Int)<(ps.length:Int):=by lia
   obtain⟨d,W,_,hd⟩:=tU (l:=ps.map DP) (k:=c%(ps.length:Int)) (zas _ (zaS lp)) (by rw[zal];exact zau _ lp);obtain⟨⟨v,a⟩,al,rfl⟩:=List.mem_map.mp W;obtain⟨m,Y,ha⟩:=N _ al;obtain⟨g',F,M,e,G'⟩:=K5 B hk (r:=r) G c0 c1 Y ha (some (.lst (ps.map DP)));rw[aF (ρ':=[some (bF C),some (.lst (kn.map bT)),some (bE C g k r),some (.int c),some (.lst (ps.map DP)),o5,q,none,none,none,none]) (by simp_all[h0])];rw[aF (ρ':=[some (bF C),some (.lst (kn.map bT)),some (bE C g k r),some (.int c),some (.lst (ps.map DP)),some (.int (v:Int)),some (.int (a:Int)),none,none,none,none]) (by simp_all[bQ lp,hd];simp_all[DP])];rw[aF (aM (d:=kI m) (by simp_all[uJ,pI Y]))];exact⟨_,e,g',F,M,rfl,G'⟩
theorem lF{bk K s R J W p2 U r1 r2 x0 N x2 B F G:D}{y a k c z:Int}{L:List D}(ha:dE (.int y) (.int 3)=some (.int a))(hs:aI s (.int 2)=some (.int k))(M:aI bk (.int 1)=some (.tup L))(hq:∃q:Int,dE (.int (y/3)) (.int (L.length:Int))=some (.int q)/\((a=0/\c=k/\z=q)\/(¬ a=0/\c=q/\z=k)))(e0:bP [bk,K,.int c,.int (y/5)]=some x0)(e1:bP [bk,K,.int z,.int (y/7)]=some N)(e2:bP [bk,K,.int z,.int (y/11)]=some x2)(pu:lS (.lst ([x0,N]++[x2])) (.int a) s=some (.lst [B,F,G]))
  (a0:aI B (.int 0)=some J) (a1:aI F (.int 0)=some W) (a2:aI G (.int 0)=some p2) (b0:aI B (.int 1)=some U) (b1:aI F (.int 1)=some r1) (b2:aI G (.int 1)=some r2) (eo:aV [.tup [.str "pick",.int c,.int z,J,W,p2],.tup [.str "pick",.int c,.int z,U,r1,r2,.tup []],.int z,.lst [B,F,G],.int 0]=some R):h7 [bk,K,s,.int y]=some R:=by
 refine aK ?_;unfold mC;rw[aF (aM (d:=.int a) (by ac_rfl)),aF (aM (d:=.int k) (by ac_rfl)),aF (aM (d:=.int k) (by ac_rfl))];have ei:BD (pN (bC kN (aD 4) (eC (.int 0)))) (dZ 6 (bC dE (bC hW (aD 3) (eC (.int 3))) (aS gE (aC (bC aI (aD 0) (eC (.int 1))) aZ)))) (dZ 5 (bC dE (bC hW (aD 3) (eC (.int 3))) (aS gE (aC (bC aI (aD 0) (eC (.int 1))) aZ)))) [some bk,some K,some s,some (.int y),some (.int a),some (.int k),some (.int k),none,none]=some (.nx [some bk,some K,some s,some (.int y),some (.int a),some (.int c),some (.int z),none,none]):=by
  obtain⟨q,Y,⟨h,rfl,rfl⟩|⟨h,rfl,rfl⟩⟩:=hq
  ·simp_all[h,M,hV,Y]
  ·simp_all[h,M,hV,Y]
 refine Eq.trans (aF ei) ?_
 ac_rfl
theorem v9{U:List Str}{C:Bk}(B:OkB C){kn:List (Str×Int)}(hk:kn.length<=100){g:Rg}{k r y:Int}{n:Nat}(G:Gs U C kn g k n)(y0:0<=y)(y1:y<10^60):∃g' k' M,h7 [bF C,.lst (kn.map bT),bE C g k r,.int y]=some (bE C g' k' M)/\Gs U C kn g' k' (n+3):=by
 have aq:(10:Int)^60=1000000000000000000000000000000000000000000000000000000000000:=by decide +kernel
 have mp:(0:Int)<(C.kinds.length:Int):=by have:=B.k1;lia
 have J:=zas (y/3) (zaS mp);have F:=zau (y/3) mp;have sz:=G.sz;have dm:∀ {a:Int},y%3=a->dE (.int y) (.int 3)=some (.int a):=λ{a} h=>by rw[bQ (by decide),h]
 have dq:dE (.int (y/3)) (.int ((C.kinds.map D.str).length:Int))=some (.int (y/3%(C.kinds.length:Int))):=by rw[zal];exact bQ mp
 have N:∀(k:Int),0<=k->k<(C.kinds.length:Int)->∀c:Int,0<=c->c<10^60->_:=λk h0 h1 c c0 c1=>dH B (kn:=kn) (k:=k) (c:=c) hk h0 h1 c0 c1
 generalize y/3%(C.kinds.length:Int)=q at J F dq;by_cases h:y%3=0
 ·obtain⟨z,e0,w0,s0,l0,o0⟩:=N k G.k0 G.k1 (y/5) (by lia) (by lia)
  obtain⟨g1,e1,w1,s1,l1,o1⟩:=N q J F (y/7) (by lia) (by lia);obtain⟨g2,e2,w2,s2,l2,o2⟩:=N q J F (y/11) (by lia) (by lia);obtain⟨M,Y⟩:=wZ (C:=C) (c:=k) (j:=q) (k:=q) (g:=g) (k1:=k) (r1:=r) (g':=g1) (k2:=q) (r2:=0) (g2:=g2) (k3:=q) (r3:=0);have W:lS (.lst [bE C z k 0,bE C g1 q 0,bE C g2 q 0]) (.int 0) (bE C g k r)=some (.lst [bE C g k r,bE C g1 q 0,bE C g2 q 0]):=lM (by decide) (by simp[-zac,-zab,aA,aB]);exact⟨.pick k q g g1 g2 [],q,M,lF (dm h) DI DG ⟨q,dq,.inl ⟨rfl,rfl,rfl⟩⟩ e0 e1 e2 W t6 t6 t6 t8 t8 t8 Y,⟨⟨⟨G.k0,G.k1⟩,⟨J,F⟩,G.wf,w1,w2,rfl⟩,J,F,by simp only[size];lia,⟨G.nf,o1 _ _,o2 _ _⟩⟩⟩
 ·obtain⟨z,e0,w0,s0,l0,o0⟩:=N q J F (y/5) (by lia) (by lia)
  obtain⟨g1,e1,w1,s1,l1,o1⟩:=N k G.k0 G.k1 (y/7) (by lia) (by lia);obtain⟨g2,e2,w2,s2,l2,o2⟩:=N k G.k0 G.k1 (y/11) (by lia) (by lia);rcases(by lia:y%3=1\/y%3=2)with h|h
  ·obtain⟨M,Y⟩:=wZ (C:=C) (c:=q) (j:=k) (k:=k) (g:=z) (k1:=q) (r1:=0) (g':=g) (k2:=k) (r2:=r) (g2:=g2) (k3:=k) (r3:=0)
   have W:lS (.lst [bE C z q 0,bE C g1 k 0,bE C g2 k 0]) (.int 1) (bE C g k r)=some (.lst [bE C z q 0,bE C g k r,bE C g2 k 0]):=lM (by decide) (by simp[-zac,-zab,aA,aB]);exact⟨.pick q k z g g2 [],k,M,lF (dm h) DI DG ⟨q,dq,.inr ⟨by decide,rfl,rfl⟩⟩ e0 e1 e2 W t6 t6 t6 t8 t8 t8 Y,⟨⟨⟨J,F⟩,⟨G.k0,G.k1⟩,w0,G.wf,w2,rfl⟩,G.k0,G.k1,by simp only[size];lia,⟨o0 _ _,G.nf,o2 _ _⟩⟩⟩
  ·obtain⟨M,Y⟩:=wZ (C:=C) (c:=q) (j:=k) (k:=k) (g:=z) (k1:=q) (r1:=0) (g':=g1) (k2:=k) (r2:=0) (g2:=g) (k3:=k) (r3:=r)
   have W:lS (.lst [bE C z q 0,bE C g1 k 0,bE C g2 k 0]) (.int 2) (bE C g k r)=some (.lst [bE C z q 0,bE C g1 k 0,bE C g k r]):=lM (by decide) (by simp[-zac,-zab,aA,aB]);exact⟨.pick q k z g1 g [],k,M,lF (dm h) DI DG ⟨q,dq,.inr ⟨by decide,rfl,rfl⟩⟩ e0 e1 e2 W t6 t6 t6 t8 t8 t8 Y,⟨⟨⟨J,F⟩,⟨G.k0,G.k1⟩,w0,w1,G.wf,rfl⟩,G.k0,G.k1,by simp only[size];lia,⟨o0 _ _,o1 _ _,G.nf⟩⟩⟩
theorem EO{kn:List (Str×Int)}{x:Str}{k:Int}(z:kn.length<=99):dP (.lst (kn.map bT)) (.lst [.tup [.str x,.int k]])=some (.lst ((kn++[(x,k)]).map bT)):=by
 have q:a7 (kn.length+1)=true:=decide_eq_true (by lia);simp_all[q,bT]
theorem uV{kn:List (Str×Int)}{x:Str×Int}:∀p∈kn++[x],p∈x::kn:=λp q=>by
 rcases List.mem_append.mp q with z|z
 ·exact zap _ z
 ·rw[List.mem_singleton.mp z];exact zat ..
theorem wD{U:List Str}{C:Bk}(B:OkB C){kn:List (Str×Int)}(M:kn.length<=99){g:Rg}{k r y:Int}{x:Str}{n:Nat}(hx:x∉kn.map (·.1))(W:x∈U)(G:Gs U C kn g k n)(y0:0<=y)(y1:y<10^60):∃g' F q,l7 [bF C,.lst (kn.map bT),bE C g k r,.str x,.int y]=some (bE C g' F q)/\Gs U C kn g' F (n+2):=by
 have J:(10:Int)^60=1000000000000000000000000000000000000000000000000000000000000:=by decide +kernel
 have a0:=zas y (show(4:Int)≠0 by decide);have Y:=zau y (show(0:Int)<4 by decide);have sz:=G.sz;obtain⟨z,e0,w0,s0,l0,N⟩:=dH B (kn:=kn++[(x,k)]) (k:=k) (c:=y/4) (by simp[-zac,-zab,aA,aB];lia) G.k0 G.k1 (by lia) (by lia);obtain⟨q,eo⟩:=zD (C:=C) (x:=x) (n:=y%4) (j:=k) (k:=k) (g:=g) (k1:=k) (r1:=r) (g':=z) (k2:=k) (r2:=0);refine⟨.again (y%4) k x g z [],k,q,aK ?_,⟨⟨⟨a0,Y⟩,⟨G.k0,G.k1⟩,G.wf,w0.mono uV,rfl⟩,G.k0,G.k1,by simp only[size];lia,⟨G.nf,⟨hx,W⟩,N _ _⟩⟩⟩;have ks:=EO (x:=x) (k:=k) M;generalize D.lst ((kn++[(x,k)]).map bT)=K at ks e0;generalize D.lst (kn.map bT)=K0 at ks;unfold lZ
 ac_rfl
theorem yE{U:List Str}{C:Bk}(B:OkB C){kn:List (Str×Int)}(Y:kn.length<=99){g:Rg}{k r y:Int}{x:Str}{n:Nat}(hx:x∉kn.map (·.1))(hU:x∈U)(G:Gs U C kn g k n)(y0:0<=y)(y1:y<10^60):∃g' N q,oU [bF C,.lst (kn.map bT),bE C g k r,.str x,.int y]=some (bE C g' N q)/\Gs U C kn g' N (n+2):=by
 have W:(10:Int)^60=1000000000000000000000000000000000000000000000000000000000000:=by decide +kernel
 have z:(0:Int)<(C.kinds.length:Int):=by have:=B.k1;lia
 have F:=zas y (zaS z);have J:=zau y z;have sz:=G.sz;obtain⟨M,e0,w0,s0,l0,o0⟩:=dH B (kn:=kn++[(x,k)]) (k:=y%(C.kinds.length:Int)) (c:=y/4) (by simp[-zac,-zab,aA,aB];lia) F J (by lia) (by lia);obtain⟨q,eo⟩:=MR (C:=C) (x:=x) (j:=k) (k:=y%(C.kinds.length:Int)) (g:=g) (k1:=k) (r1:=r) (g':=M) (k2:=y%(C.kinds.length:Int)) (r2:=0);have dk:dE (.int y) (.int ((C.kinds.map D.str).length:Int))=some (.int (y%(C.kinds.length:Int))):=by rw[zal];exact bQ z
 refine⟨.lett x k g M,y%(C.kinds.length:Int),q,aK ?_,⟨⟨G.wf,w0.mono uV⟩,F,J,by simp only[size];lia,⟨G.nf,⟨hx,hU⟩,o0 _ _⟩⟩⟩;have ks:=EO (x:=x) (k:=k) Y;generalize D.lst ((kn++[(x,k)]).map bT)=K at ks e0;generalize D.lst (kn.map bT)=K0 at ks;unfold oZ
 ac_rfl
theorem v6{U:List Str}{C:Bk}(B:OkB C){kn:List (Str×Int)}(hk:kn.length<=99){g:Rg}{j k r y:Int}{x:Str}{n:Nat}(hx:x∉kn.map (·.1))(hU:x∈U)(G:Gs U C ((x,j)::kn) g k n)(M:0<=j)(N:j<(C.kinds.length:Int))(y0:0<=y)(y1:y<10^60):∃g' J q,hZ [bF C,.lst (kn.map bT),bE C g k r,bT (x,j),.int y]=some (bE C g' J q)/\Gs U C kn g' J (n+2):=by
 suffices h:∃d,hZ [bF C,.lst (kn.map bT),bE C g k r,bT (x,j),.int y]=some d/\∃g' J q,d=bE C g' J q/\Gs U C kn g' J (n+2) by
  obtain⟨d,h1,g',J,q,rfl,h2⟩:=h;exact⟨g',J,q,h1,h2⟩
 have af:(10:Int)^60=1000000000000000000000000000000000000000000000000000000000000:=by decide +kernel
 have sz:=G.sz;obtain⟨F,e0,w0,s0,l0,Y⟩:=dH B (kn:=kn) (k:=j) (c:=y/8) (by lia) M N (by lia) (by lia);refine dO ?_;unfold mD;rw[aF (ρ':=[some (bF C),some (.lst (kn.map bT)),some (bE C g k r),some (bT (x,j)),some (.int y),some (.str x),some (.int j),none,none,none,none,none]) (by simp_all[aH];simp_all[bT])];rw[aF (aM (d:=bE C F j 0) (by simp_all[hV,e0]))];rw[aF (aM (d:=.lst [bE C F j 0,bE C g k r]) (by simp[-zac,-zab,aA,aB]))];have hl:∃d,dB (dZ 9 (eV (aC (eC (.str "let")) (aC (aD 5) (aC (aD 6) (aC (bC aI (aD 7) (eC (.int 1))) (aC (bC aI (aD 2) (eC (.int 1))) aZ)))))))
   (JD (aS aV (aC (eV (aC (eC (.str "let")) (aC (aD 5) (aC (bC aI (aD 7) (eC (.int 0))) (aC (bC aI (aD 2) (eC (.int 0))) aZ))))) (aC (aD 9) (aC (bC aI (aD 2) (eC (.int 2))) (aC (aD 8) (aC (eC (.int 0)) aZ))))))) [some (bF C),some (.lst (kn.map bT)),some (bE C g k r),some (bT (x,j)),some (.int y),some (.str x),some (.int j),some (bE C F j 0),some (.lst [bE C F j 0,bE C g k r]),none,none,none]=some (.rt d)/\∃g' J q,d=bE C g' J q/\Gs U C kn g' J (n+2):=by
  obtain⟨q,eo⟩:=MR (C:=C) (x:=x) (j:=j) (k:=k) (g:=F) (k1:=j) (r1:=0) (g':=g) (k2:=k) (r2:=r);refine⟨bE C (.lett x j F g) k q,?_,.lett x j F g,k,q,rfl,⟨⟨w0,G.wf⟩,G.k0,G.k1,by simp only[size];lia,⟨Y _ _,⟨hx,hU⟩,G.nf⟩⟩⟩
  ac_rfl
 have done:∀b:Bool,TF (pN (bC kN (bC dE (aD 4) (eC (.int 2))) (eC (.int 0)))) (TF (pN (bC BB (aD 6) (bC aI (aD 2) (eC (.int 2))))) (pN (bC A8 (bC aI (aD 2) (eC (.int 5))) (eC (.int 1))))) [some (bF C),some (.lst (kn.map bT)),some (bE C g k r),some (bT (x,j)),some (.int y),some (.str x),some (.int j),some (bE C F j 0),some (.lst [bE C F j 0,bE C g k r]),none,none,none]=some b->(b=false->j=k)->∃d,dB (BD (TF (pN (bC kN (bC dE (aD 4) (eC (.int 2))) (eC (.int 0)))) (TF (pN (bC BB (aD 6) (bC aI (aD 2) (eC (.int 2))))) (pN (bC A8 (bC aI (aD 2) (eC (.int 5))) (eC (.int 1)))))) (dB (dZ 9 (eV (aC (eC (.str "let")) (aC (aD 5) (aC (aD 6) (aC (bC aI (aD 7) (eC (.int 1))) (aC (bC aI (aD 2) (eC (.int 1))) aZ)))))))
   (JD (aS aV (aC (eV (aC (eC (.str "let")) (aC (aD 5) (aC (bC aI (aD 7) (eC (.int 0))) (aC (bC aI (aD 2) (eC (.int 0))) aZ))))) (aC (aD 9) (aC (bC aI (aD 2) (eC (.int 2))) (aC (aD 8) (aC (eC (.int 0)) aZ)))))))) R7)
   (dB (dZ 10 (bC dE (bC hW (aD 4) (eC (.int 2))) (eC (.int 4))))
   (dB (dZ 11 (eV (aC (eC (.str "again")) (aC (aD 10) (aC (aD 6) (aC (aD 5) (aC (bC aI (aD 7) (eC (.int 0))) (aC (bC aI (aD 2) (eC (.int 0))) aZ))))))))
   (JD (aS aV (aC (aD 11) (aC (eV (aC (eC (.str "again")) (aC (aD 10) (aC (aD 6) (aC (aD 5) (aC (bC aI (aD 7) (eC (.int 1))) (aC (bC aI (aD 2) (eC (.int 1))) (aC (eV aZ) aZ)))))))) (aC (aD 6) (aC (aD 8) (aC (eC (.int 0)) aZ))))))))) [some (bF C),some (.lst (kn.map bT)),some (bE C g k r),some (bT (x,j)),some (.int y),some (.str x),some (.int j),some (bE C F j 0),some (.lst [bE C F j 0,bE C g k r]),none,none,none]=some (.rt d)/\∃g' J q,d=bE C g' J q/\Gs U C kn g' J (n+2):=by
  intro b hb hj;refine FQ b hb (λ_=>hl) λhf=>?_
  have W:=hj hf;subst W;have a0:=zas (y/2) (show(4:Int)≠0 by decide);have a1:=zau (y/2) (show(0:Int)<4 by decide);obtain⟨q,eo⟩:=zD (C:=C) (x:=x) (n:=y/2%4) (j:=j) (k:=j) (g:=F) (k1:=j) (r1:=0) (g':=g) (k2:=j) (r2:=r);refine⟨bE C (.again (y/2%4) j x F g []) j q,?_,.again (y/2%4) j x F g [],j,q,rfl,⟨⟨⟨a0,a1⟩,⟨M,N⟩,w0,G.wf,rfl⟩,M,N,by simp only[size];lia,⟨Y _ _,⟨hx,hU⟩,G.nf⟩⟩⟩
  ac_rfl
 by_cases h1:y%2=0
 ·exact done true (by simp_all[bQ,h1]) (λz=>nomatch z)
 ·by_cases h2:j=k
  ·exact done (decide (1<r)) (by simp_all[bQ,h1,DI,h2,qak]) λ_=>h2
  ·exact done true (by simp_all[bQ,h1,DI,h2]) (λz=>nomatch z)
theorem PQ{p q:Str×Int}(h:bT p=bT q):p=q:=by
 unfold bT at h;injection h with h
 injection h with h1 h2
 injection h2 with h2 _
 injection h1 with h1
 injection h2 with h2
 exact Prod.ext h1 h2
theorem S4{p q:Str×Int}:BB (bT p) (bT q)=some (.bl (decide (p≠q))):=by
 have o:∀p:Str×Int,fR (bT p)=true:=λp=>(eqN.tup (n:=0) (l:=[.str p.1,.int p.2]) (by
  intro d hd;rcases List.mem_cons.mp hd with z|z
  ·rw[z];exact eqN.str
  ·rw[List.mem_singleton.mp z];exact eqN.int)).ok (by decide)
 unfold BB JC;rw[if_pos (.inr ⟨rfl,rfl,o p,o q⟩)];by_cases h:p=q
 ·subst h;simp[-zac,-zab,aA,aB]
 ·have h2:¬ bT p=bT q:=λz=>h (PQ z)
  simp_all[h,h2]
theorem vF{q:Str×Int}{left:List (Str×Int)}:∀(kn:List (Str×Int)) (o:Option D),bD (aQ 0) (pN (bC BB (aD 0) (bC aI (aD 1) (eC (.int 0))))) (aD 0) (kn.map bT) [o,some (.lst ((q::left).map bT))]=some ((kn.filter λp=>decide (p≠q)).map bT)
 | [],o=>rfl
 | p::kn,o=>by
  have ih:=vF (q:=q) (left:=left) kn (some (bT p));by_cases h:p=q
  ·simp[-zac,-zab,aA,aB,bD,at0,S4,h]at ih ⊢;simp_all[ih]
  ·simp[-zac,-zab,aA,aB,bD,at0,S4,h]at ih ⊢;simp_all[ih]
theorem BX{B:Type}[DecidableEq B]{q:B}{P L:List B}(J:q∉P)(G:q∉L):(P++q::L).filter (λp=>decide (p≠q))=P++L:=by
 have f:∀ {l:List B},q∉l->l.filter (λp=>decide (p≠q))=l:=λ{l} h=>List.filter_eq_self.mpr λa F=>decide_eq_true λz=>h (z ▸ F)
 rw[List.filter_append,zcB,if_neg (by simp[-zac,-zab,aA,aB]),f J,f G]
structure Sc(nms:List Str)(kn:List (Str×Int)):Prop where
 nd:(kn.map (·.1)).Nodup
 sub:∀p∈kn,p.1∈nms.take 5
theorem Sc.out{nms:List Str}(B:nms.Nodup){kn:List (Str×Int)}(S:Sc nms kn){i:Nat}(hi:5<=i){x:Str}(hx:nms[i]?=some x):x∉kn.map (·.1):=λz=>by
 obtain⟨p,G,e⟩:=List.mem_map.mp z;have h1:=S.sub p G;rw[e]at h1;obtain⟨j,q⟩:=List.mem_iff_getElem?.mp h1;have M:=(List.getElem?_eq_some_iff.mp q).1;rw[zb7]at M;rw[List.getElem?_take_of_lt (by lia)]at q;obtain⟨U,F⟩:=List.getElem?_eq_some_iff.mp q;obtain⟨N,J⟩:=List.getElem?_eq_some_iff.mp hx;have:=(zdY B).mp (F.trans J.symm)
 lia
def Now(C:Bk)(nms:List Str)(P:List (Str×Int))(m:Nat)(q:D):Prop:=∃g k r left,q=.tup [bE C g k r,.lst (left.map bT),.lst ((P++left).map bT)]/\Gs nms C (P++left) g k (15-2*m)/\OkN C (P++left)/\left.length=m/\m<=2/\P.length<=3/\Sc nms (P++left)
theorem qQ{C:Bk}(B:OkB C){nms:List Str}(h8:nms.length=8)(ag:nms.Nodup){P:List (Str×Int)}{m:Nat}{ac:D}{y:Int}(y0:0<=y)(y1:y<10^60)(N:Now C nms P m ac):∃Y U,iI [bF C,.lst (nms.map .str),ac,.int y]=some Y/\Now C nms P U Y/\U<=m/\(4<y%7->0<m->U<m):=by
 suffices h:∃d,iI [bF C,.lst (nms.map .str),ac,.int y]=some d/\∃U,Now C nms P U d/\U<=m/\(4<y%7->0<m->U<m) by
  obtain⟨d,h1,U,h2⟩:=h;exact⟨d,U,h1,h2⟩
 have be:(10:Int)^60=1000000000000000000000000000000000000000000000000000000000000:=by decide +kernel
 obtain⟨g,k,r,left,rfl,G,K,M,as,ah,S⟩:=N;have ab:(P++left).length<=10:=by rw[zbc];lia
 have zk:a7 (P++left).length=true:=decide_eq_true (by lia);refine dO ?_;unfold rL;rw[aF (ρ':=[some (bF C),some (.lst (nms.map .str)),some (.tup [bE C g k r,.lst (left.map bT),.lst ((P++left).map bT)]),some (.int y),some (bE C g k r),some (.lst (left.map bT)),some (.lst ((P++left).map bT)),none,none]) (by ac_rfl)];refine FQ (decide (4<y%7) && decide (0<left.length)) ?_ ?_ ?_
 ·by_cases h1:4<y%7 <;> simp_all[bQ,h1]
 ·intro W
  rw[zaQ]at W;have h1:4<y%7:=of_decide_eq_true W.1;have h2:0<left.length:=of_decide_eq_true W.2
  match left,h2,M,K,S,G,zk,ab with
  | (x,j)::left,h2,M,K,S,G,zk,ab=>
   have es:=vF (q:=(x,j)) (left:=left) (P++(x,j)::left) none;have nd:=S.nd;rw[zaJ,zak,zeo]at nd;have ai:=List.nodup_cons.mp nd.2.1;have x1:x∉P.map (·.1):=λz=>nd.2.2 _ z _ (zat ..) rfl
   have x2:x∉left.map (·.1):=ai.1;have q1:(x,j)∉P:=λz=>x1 (List.mem_map.mpr ⟨_,z,rfl⟩)
   have q2:(x,j)∉left:=λz=>x2 (List.mem_map.mpr ⟨_,z,rfl⟩)
   rw[BX q1 q2]at es;have lj:=K (x,j) (by simp[-zac,-zab,aA,aB]);have hx:x∉(P++left).map (·.1):=by
    rw[zaJ];intro z;rcases List.mem_append.mp z with z|z
    ·exact x1 z
    ·exact x2 z
   have ap:∀p∈P++(x,j)::left,p∈(x,j)::(P++left):=λp hp=>by
    rcases List.mem_append.mp hp with z|z
    ·exact zap _ (zbv _ z)
    ·rcases List.mem_cons.mp z with z|z
     ·rw[z];exact zat ..
     ·exact zap _ (zaV _ z)
   have af:∀y∈((x,j)::(P++left)).map (·.1),y∈(P++(x,j)::left).map (·.1):=λy hy=>by
    simp only[zak,zaJ,zaW,List.mem_append]at hy ⊢;rcases hy with z|z|z
    ·exact .inr (.inl z)
    ·exact .inl z
    ·exact .inr (.inr z)
   rw[zbc,zaw]at ab;obtain⟨g',k',r',ec,G'⟩:=v6 B (kn:=P++left) (by rw[zbc];lia) (g:=g) (j:=j) (k:=k) (r:=r) (y:=y/7) (x:=x) (n:=15-2*m) hx (List.mem_of_mem_take (S.sub (x,j) (by simp[-zac,-zab,aA,aB]))) ⟨G.wf.mono ap,G.k0,G.k1,G.sz,G.nf.anti af⟩ lj.1 lj.2 (by lia) (by lia);have ms:∀p∈P++left,p∈P++(x,j)::left:=λp hp=>by
    rcases List.mem_append.mp hp with z|z
    ·exact zbv _ z
    ·exact zaV _ (zap _ z)
   rw[aF (aM (d:=.lst ((P++left).map bT)) (by
    generalize (P++(x,j)::left)=kn at es zk;simp_all[zk,i6];simp[-zac,-zab,aA,aB]at es;simp_all[es]))]
   have ay:left.length+1=m:=M;have cc:cutD (((x,j)::left).map bT) (some 1) none=left.map bT:=by
    rw[zak];unfold _root_.P.cutD;have s1:HT.sIx (bT (x,j)::left.map bT).length 0 (some 1)=1:=by
     unfold HT.sIx;simp[-zac,-zab,aA,aB]
    have s2:HT.sIx (bT (x,j)::left.map bT).length (bT (x,j)::left.map bT).length none=left.length+1:=by
     unfold HT.sIx;simp[-zac,-zab,aA,aB]
    rw[s1,s2];show(left.map bT).take (left.length+1-1)=_;rw[Nat.add_sub_cancel,zbZ (by simp[-zac,-zab,aA,aB])]
   refine⟨.tup [bE C g' k' r',.lst (left.map bT),.lst ((P++left).map bT)],?_,left.length,⟨g',k',r',left,rfl,G'.mono (by lia),λp hp=>K p (ms p hp),rfl,by lia,ah,⟨by rw[zaJ,zeo];exact⟨nd.1,ai.2,λa ha b W=>nd.2.2 a ha b (zap _ W)⟩,λp hp=>S.sub p (ms p hp)⟩⟩,by lia,λ_ _=>by lia⟩;rw[zak]at cc;have cs:xW (.lst (bT (x,j)::left.map bT)) (some 1) none=some (.lst (left.map bT)):=by
    show some (D.lst _)=_;rw[cc]
   rw[zak]
   ac_rfl
 ·intro W
  obtain⟨g1,k1,ew,G1,sg,lg⟩:=mB B K (r:=r) (c:=y/50) G (by lia);rw[aF (aM (d:=bE C g1 k1 r) (by ac_rfl))];rw[aF (aM (d:=.int 2) (by simp[-zac,-zab,aA,aB]))];refine fQ (λρ=>∃F:Int,ρ=[some (bF C),some (.lst (nms.map .str)),some (.tup [bE C g k r,.lst (left.map bT),.lst ((P++left).map bT)]),some (.int y),some (bE C g1 k1 r),some (.lst (left.map bT)),some (.lst ((P++left).map bT)),none,some (.int F)]) ?_ ?_
  ·by_cases h:(4:Int)<(C.kinds.length:Int)
   ·have dg:A8 (.int ((C.kinds.map D.str).length:Int)) (.int 4)=some (.bl true):=by simp_all[h]
    exact⟨_,by ac_rfl,1,rfl⟩
   ·have dg:A8 (.int ((C.kinds.map D.str).length:Int)) (.int 4)=some (.bl false):=by simp_all[h]
    exact⟨_,by ac_rfl,2,rfl⟩
  ·rintro ρ ⟨F,rfl⟩
   have n5:∃s:Str,gD (nms.map D.str) 5=some (.str s)/\s∉(P++left).map (·.1)/\s∈nms:=by
    obtain⟨s,hs⟩:∃s,nms[5]?=some s:=⟨nms[5],zaT (by lia)⟩;exact⟨s,bV (j:=5) (by rw[zaC,hs];rfl),S.out ag (i:=5) (by decide) hs,zax hs⟩
   have n6:∃s:Str,gD (nms.map D.str) 6=some (.str s)/\s∉(P++left).map (·.1)/\s∈nms:=by
    obtain⟨s,hs⟩:∃s,nms[6]?=some s:=⟨nms[6],zaT (by lia)⟩;exact⟨s,bV (j:=6) (by rw[zaC,hs];rfl),S.out ag (i:=6) (by decide) hs,zax hs⟩
   obtain⟨x5,n5,am,ao⟩:=n5;obtain⟨x6,n6,aq,an⟩:=n6;have dl:gE [.lst (left.map bT)]=some (.int (left.length:Int)):=by simp[-zac,-zab,aA,aB]
   have nh:¬ (4<y%7/\0<left.length):=λ⟨a,b⟩=>by rw[decide_eq_true a,decide_eq_true b]at W;cases W
   refine fQ (λρ=>∃g2 k2 r2,ρ=[some (bF C),some (.lst (nms.map .str)),some (.tup [bE C g k r,.lst (left.map bT),.lst ((P++left).map bT)]),some (.int y),some (bE C g2 k2 r2),some (.lst (left.map bT)),some (.lst ((P++left).map bT)),none,some (.int F)]/\Gs nms C (P++left) g2 k2 (15-2*m)) ?_ ?_
   ·by_cases h9:size g1<9
    ·have G8:Gs nms C (P++left) g1 k1 8:=⟨G1.wf,G1.k0,G1.k1,by lia,G1.nf⟩
     have al:(size g1:Int)<9:=by lia
     by_cases h3:y%7<3
     ·obtain⟨g2,k2,r2,e2,J⟩:=BP B (by lia) (r:=r) (c:=y/7) G8 (by lia) (by lia)
      exact⟨_,by ac_rfl,g2,k2,r2,rfl,J.mono (by lia)⟩
     ·by_cases h4:y%7=3
      ·obtain⟨g2,k2,r2,e2,J⟩:=v9 B (by lia) (r:=r) (y:=y/7) G8 (by lia) (by lia)
       exact⟨_,by ac_rfl,g2,k2,r2,rfl,J.mono (by lia)⟩
      ·by_cases h5:y%7=4
       ·obtain⟨g2,k2,r2,e2,J⟩:=wD B (by lia) (r:=r) (y:=y/7) (x:=x5) am ao G8 (by lia) (by lia)
        exact⟨_,by ac_rfl,g2,k2,r2,rfl,J.mono (by lia)⟩
       ·by_cases h6:lets g1+(left.length:Int)<F
        ·obtain⟨g2,k2,r2,e2,J⟩:=yE B (by lia) (r:=r) (y:=y/7) (x:=x6) aq an G8 (by lia) (by lia)
         exact⟨_,by ac_rfl,g2,k2,r2,rfl,J.mono (by lia)⟩
        ·exact⟨_,by ac_rfl,g1,k1,r,rfl,G1⟩
    ·have al:¬ (size g1:Int)<9:=by lia
     exact⟨_,by ac_rfl,g1,k1,r,rfl,G1⟩
   ·rintro ρ ⟨g2,k2,r2,rfl,J⟩
    exact⟨_,by simp[-zac,-zab,aA,aB],m,⟨g2,k2,r2,left,rfl,J,K,M,as,ah,S⟩,zai _,λa b=>absurd ⟨a,by lia⟩ nh⟩
theorem OkN.snoc{C:Bk}{kn:List (Str×Int)}{p:Str×Int}(h:OkN C kn)(a:0<=p.2/\p.2<(C.kinds.length:Int)):OkN C (kn++[p]):=λq B=>by
 rcases List.mem_append.mp B with z|z
 ·exact h q z
 ·rw[List.mem_singleton.mp z];exact a
theorem OkN.app{C:Bk}{kn B:List (Str×Int)}(h:OkN C kn)(h':OkN C B):OkN C (kn++B):=λq F=>by
 rcases List.mem_append.mp F with z|z
 ·exact h q z
 ·exact h' q z
theorem SA{nms:List Str}{i:Int}(z:0<=i)(h:i<(nms.length:Int)):∃s:Str,gD (nms.map D.str) i=some (.str s)/\nms[i.toNat]?=some s:=by
 obtain⟨j,rfl⟩:∃j:Nat,i=(j:Int):=⟨i.toNat,by lia⟩;have q:j<nms.length:=by lia
 exact⟨nms[j],bV (by rw[zaC,zaT q];rfl),by rw[zbB];exact zaT q⟩
theorem yG{ns:List Int}{C:Bk}(B:OkB C){nms:List Str}(N:nms.length=8):∃ps,jG [.lst (ns.map .int),bF C,.lst (nms.map .str)]=some (.lst (ps.map bT))/\OkN C ps/\ps.length<=3/\ps.map (·.1)=nms.take ps.length:=by
 suffices h:∃d,jG [.lst (ns.map .int),bF C,.lst (nms.map .str)]=some d/\∃ps,d=.lst (ps.map bT)/\OkN C ps/\ps.length<=3/\ps.map (·.1)=nms.take ps.length by
  obtain⟨d,h1,ps,rfl,h2⟩:=h;exact⟨ps,h1,h2⟩
 obtain⟨f,M⟩:=dI ns;have W:=(M 17 (by decide) (by decide)).1;have G:(0:Int)<(C.kinds.length:Int):=by have:=B.k1;lia
 have a0:=zas (f 17) (show(4:Int)≠0 by decide);have a1:=zau (f 17) (show(0:Int)<4 by decide);refine dO ?_;unfold oH;rw[aF (aM (d:=.lst []) (by simp[-zac,-zab,aA,aB]))];refine iX (items:=aR 0 1 (f 17%4).toNat) (by have r:=d8 a0 (show f 17%4<=1000000 by lia);ac_rfl) (λi ρ=>∃(ps:List (Str×Int)) (o:Option D),ρ=[some (.lst (ns.map .int)),some (bF C),some (.lst (nms.map .str)),some (.lst (ps.map bT)),o]/\OkN C ps/\ps.length=i/\ps.map (·.1)=nms.take i) ⟨[],none,by ac_rfl,(λ_ h=>nomatch h),rfl,by simp[-zac,-zab,aA,aB]⟩ ?_ ?_
 ·rintro i x ρ hx ⟨ps,o,rfl,K,F,q⟩
  obtain⟨U,rfl⟩:=bZ hx;have J:0<=(0:Int)+(i:Int)*1/\(0:Int)+(i:Int)*1<=3:=by lia
  have z:((0:Int)+(i:Int)*1).toNat=i:=by lia
  generalize (0:Int)+(i:Int)*1=I at J z;have fI:=(M (18+I) (by lia) (by lia)).1;obtain⟨s,es,hs⟩:=SA (nms:=nms) (i:=I) J.1 (by rw[N];lia);rw[z]at hs;have hz:(ps.map bT).length<=1000000:=by rw[zal];lia
  have Y:dE (.int (f (18+I))) (.int ((C.kinds.map D.str).length:Int))=some (.int (f (18+I)%(C.kinds.length:Int))):=by rw[zal];exact bQ G
  apply xC
  ·exact F8 rfl (by ac_rfl)
  refine⟨ps++[(s,f (18+I)%(C.kinds.length:Int))],_,by rw[zaJ];rfl,K.snoc ⟨zas _ (zaS G),zau _ G⟩,by simp_all[F],by rw[zaJ,q,zcY,hs];rfl⟩
 ·rintro ρ ⟨ps,o,rfl,K,F,q⟩
  rw[bI]at F q;exact⟨_,by simp[-zac,-zab,aA,aB],ps,rfl,K,by lia,by rw[q,F]⟩
theorem yF{ns:List Int}{C:Bk}(B:OkB C){nms:List Str}(h8:nms.length=8){ps:List (Str×Int)}(ab:nms.Nodup)(P:OkN C ps)(U:ps.length<=3)(W:ps.map (·.1)=nms.take ps.length):∃M m,jR [.lst (ns.map .int),bF C,.lst (nms.map .str),.lst (ps.map bT)]=some M/\Now C nms ps m M:=by
 suffices h:∃d,jR [.lst (ns.map .int),bF C,.lst (nms.map .str),.lst (ps.map bT)]=some d/\∃m,Now C nms ps m d by
  obtain⟨d,h1,m,h2⟩:=h;exact⟨d,m,h1,h2⟩
 obtain⟨f,hf⟩:=dI ns;have ap:=(hf 17 (by decide) (by decide)).1;have Y:=hf 24 (by decide) (by decide);have N:(0:Int)<(C.kinds.length:Int):=by have:=B.k1;lia
 have am:(10:Int)^60=1000000000000000000000000000000000000000000000000000000000000:=by decide +kernel
 have G:∀y:Int,0<=y%(C.kinds.length:Int)/\y%(C.kinds.length:Int)<(C.kinds.length:Int):=λy=>⟨zas _ (zaS N),zau _ N⟩
 have a0:=zas (f 17/4) (show(3:Int)≠0 by decide);have a1:=zau (f 17/4) (show(0:Int)<3 by decide);obtain⟨b,hb⟩:∃b,qm (.int ((C.kinds.map D.str).length:Int)) (.int 5)=some (.bl b):=⟨_,rfl⟩;obtain⟨e,he,e0,e1⟩:∃e:Int,DJ [.bl b]=some (.int e)/\0<=e/\e<=1:=by cases b <;> exact⟨_,rfl,by decide,by decide⟩
 obtain⟨q,eq,q0,q2⟩:∃q:Int,AZ [.int (f 17/4%3),.int (1+e)]=some (.int q)/\0<=q/\q<=2:=⟨_,q_min,by split <;> lia,by split <;> lia⟩;refine dO ?_;unfold oE;rw[aF (aM (d:=.lst []) (by simp[-zac,-zab,aA,aB]))];refine iX (items:=aR 0 1 q.toNat) (by have r:=d8 q0 (show q<=1000000 by lia);ac_rfl) (λi ρ=>∃(z:List (Str×Int)) (o:Option D),ρ=[some (.lst (ns.map .int)),some (bF C),some (.lst (nms.map .str)),some (.lst (ps.map bT)),some (.lst (z.map bT)),o,none,none]/\OkN C z/\z.length=i/\z.map (·.1)=(nms.drop 3).take i) ⟨[],none,by ac_rfl,(λ_ h=>nomatch h),rfl,by simp[-zac,-zab,aA,aB]⟩ ?_ ?_
 ·rintro i x ρ hx ⟨z,o,rfl,K,hl,F⟩
  obtain⟨al,rfl⟩:=bZ hx;have hI:0<=(0:Int)+(i:Int)*1/\(0:Int)+(i:Int)*1<=3:=by lia
  have J:(3+((0:Int)+(i:Int)*1)).toNat=3+i:=by lia
  generalize (0:Int)+(i:Int)*1=I at hI J;have fI:=(hf (21+I) (by lia) (by lia)).1;obtain⟨s,es,hs⟩:=SA (nms:=nms) (i:=3+I) (by lia) (by rw[h8];lia);rw[J]at hs;have hz:(z.map bT).length<=1000000:=by rw[zal];lia
  have md:dE (.int (f (21+I))) (.int ((C.kinds.map D.str).length:Int))=some (.int (f (21+I)%(C.kinds.length:Int))):=by rw[zal];exact bQ N
  apply xC
  ·exact F8 rfl (by ac_rfl)
  refine⟨z++[(s,f (21+I)%(C.kinds.length:Int))],_,by rw[zaJ];rfl,K.snoc (G _),by simp_all[hl],by rw[zaJ,F,zcY,List.getElem?_drop,hs];rfl⟩
 ·rintro ρ ⟨z,o,rfl,K,hl,F⟩
  rw[bI]at hl F;have hz:a7 (ps.length+z.length)=true:=decide_eq_true (by lia);have sb:((ps++z).map (·.1)).Sublist (nms.take 5):=by
   rw[zaJ,W,F];have e5:nms.take 5=nms.take 3++(nms.drop 3).take 2:=by rw[<- List.take_add]
   rw[e5];exact(zez U).append (zez (by lia))
  have Sk:Sc nms (ps++z):=⟨sb.nodup ((zdi ..).nodup ab),λp U=>sb.subset (List.mem_map.mpr ⟨p,U,rfl⟩)⟩;rw[aF (aM (d:=.lst ((ps++z).map bT)) (by simp_all[hz]))];have md:dE (.int (f 24)) (.int ((C.kinds.map D.str).length:Int))=some (.int (f 24%(C.kinds.length:Int))):=by rw[zal];exact bQ N
  have aj:=Y.1;rw[aF (aM (d:=.int (f 24%(C.kinds.length:Int))) (by ac_rfl))];obtain⟨g,eg,wg,sg,lg,ng⟩:=dH B (kn:=ps++z) (k:=f 24%(C.kinds.length:Int)) (c:=f 24/6) (by simp[-zac,-zab,aA,aB];lia) (G _).1 (G _).2 (by lia) (by lia);refine⟨.tup [bE C g (f 24%(C.kinds.length:Int)) 0,.lst (z.map bT),.lst ((ps++z).map bT)],?_,z.length,g,_,0,z,rfl,⟨wg,(G _).1,(G _).2,by lia,ng _ _⟩,P.app K,rfl,by lia,U,Sk⟩
  ac_rfl
theorem CO{ns:List Int}(B:ns.length<=63):∃v:Int,qP [.lst (ns.map .int)]=some (.int v)/\0<=v/\v<=37:=by
 obtain⟨f,z⟩:=dI ns;have q:=(z 17 (by decide) (by decide)).1;have a0:=zas (f 17/12) (show(8:Int)≠0 by decide);have F:=zau (f 17/12) (show(0:Int)<8 by decide);refine⟨if f 17/12%8>(ns.length:Int)-26 then f 17/12%8 else(ns.length:Int)-26,aK ?_,?_,?_⟩
 ·simp_all[qV,aH,q,hV,bQ]
 ·split <;> lia
 ·split <;> lia
theorem yP{ns:List Int}(hn:ns.length<=63){C:Bk}(B:OkB C){nms:List Str}(h8:nms.length=8){ps:List (Str×Int)}(M:nms.Nodup)(P:OkN C ps)(hp:ps.length<=3)(Y:ps.map (·.1)=nms.take ps.length):∃g k r,jK [.lst (ns.map .int),bF C,.lst (nms.map .str),.lst (ps.map bT)]=some (bE C g k r)/\Gs nms C ps g k 15:=by
 suffices h:∃d,jK [.lst (ns.map .int),bF C,.lst (nms.map .str),.lst (ps.map bT)]=some d/\∃g k r,d=bE C g k r/\Gs nms C ps g k 15 by
  obtain⟨d,h1,g,k,r,rfl,h2⟩:=h;exact⟨g,k,r,h1,h2⟩
 obtain⟨f,hf⟩:=dI ns;have ao:=(hf 25 (by decide) (by decide)).1;obtain⟨q,m,eb,N⟩:=yF (ns:=ns) B h8 M P hp Y;obtain⟨v,ev,v0,v1⟩:=CO hn;have an:(10:Int)^60=1000000000000000000000000000000000000000000000000000000000000:=by decide +kernel
 refine dO ?_;unfold oF;rw[aF (aM (d:=q) (by ac_rfl))];refine iX (items:=aR 0 1 v.toNat) (by have r:=d8 v0 (show v<=1000000 by lia);ac_rfl) (λi ρ=>∃(q:D) (m:Nat) (o:Option D),ρ=[some (.lst (ns.map .int)),some (bF C),some (.lst (nms.map .str)),some (.lst (ps.map bT)),some q,o]/\Now C nms ps m q) ⟨q,m,none,by ac_rfl,N⟩ ?_ ?_
 ·rintro i x ρ hx ⟨q,m,o,rfl,N⟩
  obtain⟨U,rfl⟩:=bZ hx;have hI:0<=(0:Int)+(i:Int)*1/\(0:Int)+(i:Int)*1<=37:=by lia
  generalize (0:Int)+(i:Int)*1=I at hI;have fI:=hf (26+I) (by lia) (by lia);obtain⟨z,m',es,N',_⟩:=qQ B h8 M fI.2.1 fI.2.2 N;have:=fI.1;apply xC
  ·exact F8 rfl (by ac_rfl)
  exact⟨z,m',_,rfl,N'⟩
 ·rintro ρ ⟨q,m,o,rfl,N⟩
  have J:m<=2:=by obtain⟨g,k,r,left,rfl,G,K,F,J,_⟩:=N;exact J
  have b0:=zas (f 25/3) (show(16:Int)≠0 by decide);have b1:=zau (f 25/3) (show(0:Int)<16 by decide);have mu:cR (.int 7) (.int (f 25/3%16))=some (.int (7*(f 25/3%16))):=cF (by decide +kernel) (by decide +kernel) (by lia) (by lia);refine HC (λm ρ=>∃(q:D) (o:Option D),ρ=[some (.lst (ns.map .int)),some (bF C),some (.lst (nms.map .str)),some (.lst (ps.map bT)),some q,o]/\Now C nms ps m q) (λρ=>∃(q:D) (o:Option D),ρ=[some (.lst (ns.map .int)),some (bF C),some (.lst (nms.map .str)),some (.lst (ps.map bT)),some q,o]/\Now C nms ps 0 q) m (by lia) ⟨q,o,rfl,N⟩ ?_ ?_
  ·rintro m ρ ⟨q,o,rfl,N⟩
   obtain⟨g,k,r,left,en,G,K,F,J,rest⟩:=N;have N:Now C nms ps m q:=⟨g,k,r,left,en,G,K,F,J,rest⟩;have el:aI q (.int 1)=some (.lst (left.map bT)):=by rw[en,q_itT];exact at1
   by_cases h0:0<m
   ·refine .inl ⟨by simp_all[el,F,h0],?_⟩
    obtain⟨z,m',es,N',_,U⟩:=qQ B h8 M (y:=6+7*(f 25/3%16)) (by lia) (by lia) N;exact⟨m',[some (.lst (ns.map .int)),some (bF C),some (.lst (nms.map .str)),some (.lst (ps.map bT)),some z,o],U (by lia) h0,by ac_rfl,z,o,rfl,N'⟩
   ·have W:m=0:=by lia
    refine .inr ⟨by simp_all[el,F,W],q,o,rfl,W ▸ N⟩
  ·rintro ρ ⟨q,o,rfl,g,k,r,left,rfl,G,K,F,_,_,S⟩
   have ad:left=[]:=List.length_eq_zero_iff.mp F;subst ad;rw[zbb]at G;obtain⟨g1,k1,ew,G1,_,_⟩:=mB B P (r:=r) (c:=f 25) (G.mono (show 15-2*0<=15 by lia)) (by lia);exact⟨bE C g1 k1 r,by ac_rfl,g1,k1,r,rfl,G1⟩
theorem all1{P:D->Prop}{a:D}(h:P a):∀d∈[a],P d:=λd hd=>by rw[List.mem_singleton.mp hd];exact h
theorem eW{P:D->Prop}{a:D}{l:List D}(h:P a)(t:∀d∈l,P d):∀d∈a::l,P d:=λd hd=>by
 rcases List.mem_cons.mp hd with z|z
 ·rw[z];exact h
 ·exact t d z
theorem hG{w:List Int}{n:Nat}:eqN (n+1) (tupI w):=(eqN.tup (n:=0) λd hd=>by obtain⟨i,_,rfl⟩:=List.mem_map.mp hd;exact eqN.int).mono (by lia)
theorem fZ:∀g:Rg,eqN (2*size g+2) (rd g)
 | .name x j w=>(eqN.tup (n:=1) (eW .str (eW .str (all1 hG)))).mono (by simp only[size];lia)
 | .num m j w=>(eqN.tup (n:=1) (eW .str (eW .int (eW .int (all1 hG))))).mono (by simp only[size];lia)
 | .use1 v nm p w=>(eqN.tup (n:=2*size p+3) (eW .str (eW .int (eW (eqN.tup (n:=2*size p+2) (all1 (fZ p))) (all1 hG))))).mono (by simp only[size];lia)
 | .use2 v nm p q w=>(eqN.tup (n:=2*(size p+size q)+3) (eW .str (eW .int (eW (eqN.tup (n:=2*(size p+size q)+2) (eW ((fZ p).mono (by lia)) (all1 ((fZ q).mono (by lia))))) (all1 hG))))).mono (by simp only[size];lia)
 | .lett x j p q=>(eqN.tup (n:=2*(size p+size q)+2) (eW .str (eW .str (eW .int (eW ((fZ p).mono (by lia)) (all1 ((fZ q).mono (by lia)))))))).mono (by simp only[size];lia)
 | .pick c k p q r w=>(eqN.tup (n:=2*(size p+(size q+size r))+2) (eW .str (eW .int (eW .int (eW ((fZ p).mono (by lia)) (eW ((fZ q).mono (by lia)) (eW ((fZ r).mono (by lia)) (all1 hG)))))))).mono (by simp only[size];lia)
 | .again n k x p q w=>(eqN.tup (n:=2*(size p+size q)+2) (eW .str (eW .int (eW .int (eW .str (eW ((fZ p).mono (by lia)) (eW ((fZ q).mono (by lia)) (all1 hG)))))))).mono (by simp only[size];lia)
noncomputable def ch:Rg->D
 | .use1 v _ _ _=>.int (v:Int)
 | .use2 v _ _ _ _=>.int (v:Int)
 | .lett _ j _ _=>.int j
 | _=>.non
def ir:Rg->List D
 | .use1 _ _ p _=>[rd p]
 | .use2 _ _ p q _=>[rd p,rd q]
 | .lett _ _ p q=>[rd p,rd q]
 | .pick _ _ p q r _=>[rd p,rd q,rd r]
 | .again _ _ _ p q _=>[rd p,rd q]
 | _=>[]
def wy:Rg->List Int
 | .name _ _ w=>w
 | .num _ _ w=>w
 | .use1 _ _ _ w=>w
 | .use2 _ _ _ _ w=>w
 | .lett _ _ _ _=>[]
 | .pick _ _ _ _ _ w=>w
 | .again _ _ _ _ _ w=>w
theorem VP{a b c d:D}:cutD [a,b,c,d] (some 2) (some 4)=[c,d]:=rfl
theorem UF{a b c d e f:D}:cutD [a,b,c,d,e,f] (some 3) (some 6)=[d,e,f]:=rfl
theorem TL{a b c d e f:D}:cutD [a,b,c,d,e,f] (some 4) (some 6)=[e,f]:=rfl
theorem sz5:a7 5=true:=rfl
def Cons(d:List (Key×D))(kn:List (Str×Int)):Prop:=∀p∈kn,eX d (.inr p.1:Key)=some (.int p.2)
theorem pS{κ:Type}[DecidableEq κ](l:List (κ×D))(k j:κ)(e:D):eX (putD l k e) j=if j=k then some e else eX l j:=by
 unfold putD;by_cases h:(l.any λp=>decide (p.1=k))=true
 ·rw[if_pos h]
  unfold eX;by_cases B:j=k
  ·subst B
   rw[if_pos rfl];induction l with
   | nil=>simp[-zac,-zab,aA,aB]at h
   | cons p l ih=>
    rw[zak,zbA];by_cases q:p.1=j
    ·simp_all[q]
    ·have:(l.any λp=>decide (p.1=j))=true:=by simpa[q]using h
     simp_all[q];simpa using ih this
  ·rw[if_neg B]
   clear h;induction l with
   | nil=>rfl
   | cons p l ih=>
    rw[zak,zbA,zbA];by_cases q:p.1=k
    ·have:¬ k=j:=λz=>B z.symm
     simp_all[q,this];simpa using ih
    ·by_cases F:p.1=j
     ·simp_all[q,F,B]
     ·simp_all[q,F]
      simpa using ih
 ·rw[if_neg h]
  unfold eX;rw[List.find?_append];by_cases B:j=k
  ·subst B
   rw[if_pos rfl];have:l.find? (λp=>decide (p.1=j))=none:=by
    rw[List.find?_eq_none];intro p q G;exact h (List.any_eq_true.mpr ⟨p,q,G⟩)
   rw[this];simp[-zac,-zab,aA,aB]
  ·rw[if_neg B]
   cases e2:l.find? (λp=>decide (p.1=j))with
   | some u=>simp[-zac,-zab,aA,aB]
   | none=>simp_all[zaU B]
theorem Cons.put{d:List (Key×D)}{kn:List (Str×Int)}(h:Cons d kn){x:Str}{j:Int}(hx:x∉kn.map (·.1)):Cons (putD d (.inr x) (.int j)) ((x,j)::kn):=λp q=>by
 rw[pS];rcases List.mem_cons.mp q with z|z
 ·rw[z,if_pos rfl]
 ·rw[if_neg,h p z]
  intro e;injection e with e
  exact hx (List.mem_map.mpr ⟨p,z,e⟩)
theorem SJ{d:List (Key×D)}{x:Str}{e:D}(h:eX d (.inr x:Key)=some e):aI (.dK d) (.str x)=some e:=by
 show((W1 (.str x)).map λk=>eX d k).join=_;show(some (eX d (.inr x:Key))).join=_;rw[h];rfl
theorem L4{d:List (Key×D)}{x:Str}{e:D}(h:d.length<=1000):lS (.dK d) (.str x) e=some (.dK (putD d (.inr x) e)):=by
 have q:lS (.dK d) (.str x) e=(if a7 d.length=true then some (.dK (putD d (.inr x) e))else none):=rfl;rw[q,if_pos (show a7 d.length=true from decide_eq_true (by lia))]
theorem sC{d:List (Key×D)}{k:Key}{e:D}:(putD d k e).length<=d.length+1:=by
 unfold putD;split <;> simp[-zac,-zab,aA,aB]
theorem FR{d:List (Key×D)}:gX [.dK d]=some (.dK d):=rfl
theorem B4{d:List (Key×D)}{p c:D}{i:Int}(h:cN [p,.int i]=some .non):dC [.dK d,p,.int i,c]=some (.dK d):=aK (by simp_all[fD,aH,h,gN])
theorem HW{d:List (Key×D)}{x:Str}{j:Int}{p q:D}(z:d.length<=1000):dC [.dK d,.tup [.str "let",.str x,p,q],.int 1,.int j]=some (.dK (putD d (.inr x) (.int j))):=by
 have h:cN [.tup [.str "let",.str x,p,q],.int 1]=some (.str x):=aK (by simp_all[bL,aH,at0,at1]);exact aK (by simp_all[fD,aH,h,gN,FR,at0,L4 z])
theorem yD{d:List (Key×D)}{x:Str}{n k:Int}{p q c:D}(z:d.length<=1000):dC [.dK d,.tup [.str "again",.int n,.int k,.str x,p,q],.int 1,c]=some (.dK (putD d (.inr x) (.int k))):=by
 have h:cN [.tup [.str "again",.int n,.int k,.str x,p,q],.int 1]=some (.str x):=aK (by simp_all[bL,aH,at0,W9,iW]);exact aK (by simp_all[fD,aH,h,gN,FR,at0,at2,iW,L4 z])
def nI:Sm->Int
 | none=>0
 | some p=>p.1
theorem FA(a b:Sm):nI (pH a b)=nI a*nI b:=by
 cases a <;> cases b <;> simp_all[pH,nI]
theorem G3(a b:Sm):nI (c8 a b)=nI a+nI b:=by
 cases a <;> cases b <;> simp_all[c8,nI]
noncomputable def i9:List Int->Int
 | []=>1
 | x::l=>x*i9 l
theorem DV(l m:List Int):i9 (l++m)=i9 l*i9 m:=by
 induction l with
 | nil=>simp_all[i9]
 | cons x l ih=>rw[zdK,i9,i9,ih,zdL]
theorem EI:∀(l:List Sm) (t:Sm),nI (l.foldl pH t)=nI t*i9 (l.map nI)
 | [],t=>by simp_all[i9]
 | a::l,t=>by rw[zcJ,EI l,FA,zak,i9,zdL]
theorem C5(C:Bk)(j k:Int):nI (NX C j k)=((bG C.rs k 8 j).length:Int):=by
 unfold NX;split
 ·rename_i h;rw[h];rfl
 ·rfl
theorem eO(C:Bk)(own j k:Int)(l:List Sm):nI (csum C own j k l)=i9 (l.map nI++[((bG C.rs k 8 j).length:Int)]):=by
 unfold csum;rw[EI,FA,C5,DV];simp only[nI,i9,Int.one_mul,Int.mul_one];exact Int.mul_comm _ _
def NN(l:List Int):Prop:=∀x∈l,0<=x
theorem xJ:∀ {l:List Int},NN l->0<=i9 l
 | [],_=>by decide
 | x::l,h=>zcX (h x (zat ..)) (xJ λy q=>h y (zap _ q))
theorem iT{q:Type}(f:q->Sm):∀(l:List q) (t:Sm),nI (l.foldl (λt v=>c8 t (f v)) t)=nI t+(l.map λv=>nI (f v)).sum
 | [],t=>by simp[-zac,-zab,aA,aB]
 | a::l,t=>by rw[zcJ,iT f l,G3,zak,zbr,zc3]
theorem n9{q:Type}{f:q->Int}:∀ {l:List q},(∀v∈l,0<=f v)->0<=(l.map f).sum
 | [],_=>by simp[-zac,-zab,aA,aB]
 | a::l,h=>by
  rw[zak,zbr];have:=h a (zat ..);have:=n9 (l:=l) λv z=>h v (zap _ z)
  lia
theorem eN(C:Bk)(own j k:Int){l:List Sm}(h:NN (l.map nI)):0<=nI (csum C own j k l):=by
 rw[eO];refine xJ λx hx=>?_
 rcases List.mem_append.mp hx with z|z
 ·exact h x z
 ·rw[List.mem_singleton.mp z];lia
theorem NN1{a:Int}(h:0<=a):NN [a]:=λx hx=>by rw[List.mem_singleton.mp hx];exact h
theorem XB{a b:Int}(h:0<=a)(h':0<=b):NN [a,b]:=λx hx=>by
 rcases List.mem_cons.mp hx with z|z
 ·rw[z];exact h
 ·exact NN1 h' x z
theorem NN3{a b c:Int}(h:0<=a)(h':0<=b)(h2:0<=c):NN [a,b,c]:=λx hx=>by
 rcases List.mem_cons.mp hx with z|z
 ·rw[z];exact h
 ·exact XB h' h2 x z
theorem cG(C:Bk):∀(p:Pa) (e:eI) (k:Int),0<=nI (aU C p e k)
 | .name x,e,k=>eN C _ _ _ (l:=[]) λ_ h=>nomatch h
 | .num _ j,e,k=>eN C _ _ _ (l:=[]) λ_ h=>nomatch h
 | .use1 nm p,e,k=>by
  rw[aU,iT];have:=n9 (l:=nK C nm 1) (f:=λv=>nI (csum C (mpr C v) (dD C v) k [aU C p e (aT C v 0)])) λv _=>eN _ _ _ _ (NN1 (cG C p e _))
  simp only[nI,zbk]at *;exact this
 | .use2 nm p q,e,k=>by
  rw[aU,iT];have:=n9 (l:=nK C nm 2) (f:=λv=>nI (csum C (mpr C v) (dD C v) k [aU C p e (aT C v 0),aU C q e (aT C v 1)])) λv _=>eN _ _ _ _ (XB (cG C p e _) (cG C q e _))
  simp only[nI,zbk]at *;exact this
 | .lett x p q,e,k=>by
  rw[aU,iT];have:=n9 (l:=zar C.kinds.length) (f:=λ(j:Nat)=>nI (csum C 0 k k [aU C p e (j:Int),aU C q (eU e x (j:Int)) k])) λv _=>eN _ _ _ _ (XB (cG C p e _) (cG C q _ _))
  simp only[nI,zbk]at *;exact this
 | .pick c k' p q r,e,k=>eN _ _ _ _ (NN3 (cG C p e _) (cG C q e _) (cG C r e _))
 | .again n k' x p q,e,k=>eN _ _ _ _ (XB (cG C p e _) (cG C q _ _))
noncomputable def aX:Int->List (Int×Int)->Int
 | n,[]=>n
 | n,p::l=>aX (n*p.2+p.1) l
noncomputable def f7:Int->List Int->List Int->List Int
 | _,[],acc=>acc
 | n,s::l,acc=>f7 (n/s) l (n%s::acc)
def GJ(l:List (Int×Int)):Prop:=∀p∈l,0<=p.1/\p.1<p.2
theorem vG:∀(l:List (Int×Int)) (n:Int) (t acc:List Int),GJ l->f7 (aX n l) ((l.map (·.2)).reverse++t) acc=f7 n t (l.map (·.1)++acc)
 | [],n,t,acc,_=>rfl
 | (a,s)::l,n,t,acc,h=>by
  have q:=h (a,s) (zat ..);simp only at q;rw[aX,zak,zeb,List.append_assoc];have ih:=vG l (n*s+a) ([s]++t) acc λp q=>h p (zap _ q)
  rw[ih];show f7 ((n*s+a)/s) t ((n*s+a)%s::(l.map (·.1)++acc))=_;have B:(n*s+a)/s=n:=by
   rw[Int.add_comm,Int.add_mul_ediv_right _ _ (by lia),Int.ediv_eq_zero_of_lt q.1 q.2,zbk]
  have z:(n*s+a)%s=a:=by
   rw[Int.add_comm,Int.add_mul_emod_self_right,Int.emod_eq_of_lt q.1 q.2]
  rw[B,z];rfl
theorem zY:∀(l:List (Int×Int)) (n:Int),0<=n->GJ l->0<=aX n l/\aX n l+1<=(n+1)*i9 (l.map (·.2))
 | [],n,h0,_=>by simp_all[aX,i9,h0]
 | (a,s)::l,n,h0,h=>by
  have q:=h (a,s) (zat ..);simp only at q;have G:0<=n*s+a:=Int.add_nonneg (zcX h0 (by lia)) q.1;obtain⟨F,z⟩:=zY l (n*s+a) G λp q=>h p (zap _ q)
  refine⟨F,zdM z ?_⟩;have B:0<=i9 (l.map (·.2)):=xJ λx hx=>by
   obtain⟨p,q,rfl⟩:=List.mem_map.mp hx;have:=h p (zap _ q);lia
  rw[zak,i9,<- zdL];refine zep ?_ B;rw[zdN];simp only;lia
def fS(C:Bk)(j k:Int)(w:List Int):Int×Int:=(((bG C.rs k 8 j).idxOf w:Nat),((bG C.rs k 8 j).length:Int))
def uI(l:List Nat)(v:Nat)(f:Nat->Sm):Int:=((l.filter λu=>decide (u<v)).map λu=>nI (f u)).sum
def aW(C:Bk):Rg->eI->Int->Int
 | .name x _ w,e,k=>aX 0 [fS C (e x) k w]
 | .num _ j w,_,k=>aX 0 [fS C j k w]
 | .use1 v nm p w,e,k=>uI (nK C nm 1) v (λv=>csum C (mpr C v) (dD C v) k [aU C (pa p) e (aT C v 0)])+aX 0 [(aW C p e (aT C v 0),nI (aU C (pa p) e (aT C v 0))),fS C (dD C v) k w]
 | .use2 v nm p q w,e,k=>uI (nK C nm 2) v (λv=>csum C (mpr C v) (dD C v) k [aU C (pa p) e (aT C v 0),aU C (pa q) e (aT C v 1)])+aX 0 [(aW C p e (aT C v 0),nI (aU C (pa p) e (aT C v 0))),(aW C q e (aT C v 1),nI (aU C (pa q) e (aT C v 1))),fS C (dD C v) k w]
 | .lett x j p q,e,k=>uI (zar C.kinds.length) j.toNat (λ(j:Nat)=>csum C 0 k k [aU C (pa p) e (j:Int),aU C (pa q) (eU e x (j:Int)) k])+aX 0 [(aW C p e j,nI (aU C (pa p) e j)),(aW C q (eU e x j) k,nI (aU C (pa q) (eU e x j) k)),fS C k k []]
 | .pick c k' p q r w,e,k=>aX 0 [(aW C p e c,nI (aU C (pa p) e c)),(aW C q e k',nI (aU C (pa q) e k')),(aW C r e k',nI (aU C (pa r) e k')),fS C k' k w]
 | .again _ k' x p q w,e,k=>aX 0 [(aW C p e k',nI (aU C (pa p) e k')),(aW C q (eU e x k') k',nI (aU C (pa q) (eU e x k') k')),fS C k' k w]
def EC(e:eI)(kn:List (Str×Int)):Prop:=∀p∈kn,e p.1=p.2
theorem EC.put{e:eI}{kn:List (Str×Int)}(h:EC e kn){x:Str}{j:Int}(hx:x∉kn.map (·.1)):EC (eU e x j) ((x,j)::kn):=λp B=>by
 unfold eU;rcases List.mem_cons.mp B with z|z
 ·rw[z,if_pos rfl]
 ·rw[if_neg λq=>hx (List.mem_map.mpr ⟨p,z,q⟩)];exact h p z
theorem j9{C:Bk}(B:OkB C){j k:Int}{w:List Int}(z:0<=j)(k1:k<(C.kinds.length:Int))(h:gw C.rs j w=some k):0<=(fS C j k w).1/\(fS C j k w).1<(fS C j k w).2:=by
 have q:=B.k6;have m:=jY B.gr (n:=8) (by lia) h;have:=zdO m;exact⟨by unfold fS;simp only;lia,by unfold fS;simp only;lia⟩
theorem kD{l:List (Int×Int)}(h:GJ l):0<=aX 0 l/\aX 0 l<i9 (l.map (·.2)):=by
 have:=zY l 0 (by decide) h;rw[zbk,Int.one_mul]at this;exact⟨this.1,by lia⟩
theorem DE{a:Int×Int}(h:0<=a.1/\a.1<a.2):GJ [a]:=λp q=>by rw[List.mem_singleton.mp q];exact h
theorem t5{a:Int×Int}{l:List (Int×Int)}(h:0<=a.1/\a.1<a.2)(t:GJ l):GJ (a::l):=λp q=>by
 rcases List.mem_cons.mp q with z|z
 ·rw[z];exact h
 ·exact t p z
theorem C8{l:List Nat}(F:l.Pairwise (·<·)){v:Nat}(G:v∈l){f:Nat->Sm}(J:∀u,0<=nI (f u)){x:Int}(U:0<=x)(hx:x<nI (f v)):0<=uI l v f+x/\uI l v f+x<nI (l.foldl (λt v=>c8 t (f v)) none):=by
 rw[iT];have M:0<=uI l v f:=n9 λu _=>J u
 refine⟨by lia,?_⟩;have:uI l v f+nI (f v)<=(l.map λv=>nI (f v)).sum:=by
  clear hx M;unfold uI;induction l with
  | nil=>cases G
  | cons a l ih=>
   rw[List.pairwise_cons]at F;rw[zak,zbr];by_cases e:v=a
   ·subst e
    have z:((v::l).filter λu=>decide (u<v))=[]:=by
     rw[List.filter_eq_nil_iff];intro u N;rcases List.mem_cons.mp N with q|q
     ·rw[q];simp[-zac,-zab,aA,aB]
     ·have:=F.1 u q;simp[-zac,-zab,aA,aB];lia
    rw[z];have:=n9 (l:=l) (f:=λv=>nI (f v)) λu _=>J u
    simp[-zac,-zab,aA,aB];lia
   ·have B:=(List.mem_cons.mp G).resolve_left e
    have la:=F.1 v B;rw[zcB,if_pos (by simpa using la),zak,zbr];have:=ih F.2 B
    lia
 simp only[nI,zbk]at *;lia
theorem iB(n:Nat):(zar n).Pairwise (·<·):=List.pairwise_lt_range
theorem gG(C:Bk)(nm:Str)(n:Nat):(nK C nm n).Pairwise (·<·):=(iB _).filter _
theorem mM{C:Bk}{v:Nat}{m:Mk}{n:Nat}(h:C.makes[v]?=some m)(q:m.takes.length=n):v∈nK C m.nm n:=by
 refine List.mem_filter.mpr ⟨List.mem_range.mpr (List.getElem?_eq_some_iff.mp h).1,?_⟩;rw[h];simp_all[q]
theorem eL{C:Bk}{v:Nat}{m:Mk}(h:C.makes[v]?=some m)(i:Nat):aT C v i=(m.takes[i]?).getD 0:=by unfold aT;rw[h];rfl
theorem dX{C:Bk}{v:Nat}{m:Mk}(h:C.makes[v]?=some m):dD C v=m.g:=by unfold dD;rw[h];rfl
theorem f6{U:List Str}{C:Bk}(B:OkB C):∀ {g:Rg} {kn:List (Str×Int)} {e:eI} {k:Int},OkN C kn->WF C kn g k->NF U (kn.map (·.1)) g->EC e kn->0<=aW C g e k/\aW C g e k<nI (aU C (pa g) e k)
 | .name x j w,kn,e,k,K,W,_,c=>by
  have s:=WF.short B K W;obtain⟨a,b⟩:=W;have ex:e x=j:=c _ a;have h:=kD (DE (j9 B (K _ a).1 s.2.2 b));simp only[aW,pa,aU,eO,ex];exact h
 | .num n j w,kn,e,k,K,W,_,c=>by
  have s:=WF.short B K W;obtain⟨a,b,d⟩:=W;have h:=kD (DE (j9 B b.1 s.2.2 d));simp only[aW,pa,aU,eO];exact h
 | .use1 v nm p w,kn,e,k,K,W,F,c=>by
  have s:=WF.short B K W;obtain⟨m,t,a,b,d,G,f⟩:=W;subst b;have Y:aT C v 0=t:=by rw[eL a,d];rfl
  have eg:=dX a;have N:=zax a;have z:=f6 B (g:=p) K G F c;rw[<- Y]at z;have h:=kD (t5 (a:=(aW C p e (aT C v 0),nI (aU C (pa p) e (aT C v 0)))) z (DE (j9 B (B.gb m N).1 s.2.2 f)));rw[<- eg]at h;refine C8 (gG C m.nm 1) (mM a (by rw[d];rfl)) (f:=λv=>csum C (mpr C v) (dD C v) k [aU C (pa p) e (aT C v 0)]) (λu=>eN _ _ _ _ (NN1 (cG ..))) h.1 ?_;simp only[eO];exact h.2
 | .use2 v nm p q w,kn,e,k,K,W,F,c=>by
  have s:=WF.short B K W;obtain⟨m,t,u,a,b,d,G,M,f⟩:=W;subst b;have Y:aT C v 0=t:=by rw[eL a,d];rfl
  have eu:aT C v 1=u:=by rw[eL a,d];rfl
  have eg:=dX a;have N:=zax a;have z:=f6 B (g:=p) K G F.1 c;have J:=f6 B (g:=q) K M F.2 c;rw[<- Y]at z;rw[<- eu]at J;have h:=kD (t5 (a:=(aW C p e (aT C v 0),nI (aU C (pa p) e (aT C v 0)))) z (t5 (a:=(aW C q e (aT C v 1),nI (aU C (pa q) e (aT C v 1)))) J (DE (j9 B (B.gb m N).1 s.2.2 f))));rw[<- eg]at h;refine C8 (gG C m.nm 2) (mM a (by rw[d];rfl)) (f:=λv=>csum C (mpr C v) (dD C v) k [aU C (pa p) e (aT C v 0),aU C (pa q) e (aT C v 1)]) (λu=>eN _ _ _ _ (XB (cG ..) (cG ..))) h.1 ?_;simp only[eO];exact h.2
 | .lett x j p q,kn,e,k,K,W,F,c=>by
  have s:=WF.short B K W;obtain⟨G,M⟩:=W;have sp:=WF.short B K G;have z:=f6 B (g:=p) K G F.1 c;have J:=f6 B (g:=q) (K.cons sp.2.1 sp.2.2) M F.2.2 (c.put F.2.1.1);have ej:((j.toNat:Nat):Int)=j:=by lia
  have h:=kD (t5 (a:=(aW C p e j,nI (aU C (pa p) e j))) z (t5 (a:=(aW C q (eU e x j) k,nI (aU C (pa q) (eU e x j) k))) J (DE (j9 B s.2.1 s.2.2 (w:=[]) rfl))));refine C8 (iB C.kinds.length) (List.mem_range.mpr (by lia)) (f:=λ(j:Nat)=>csum C 0 k k [aU C (pa p) e (j:Int),aU C (pa q) (eU e x (j:Int)) k]) (λu=>eN _ _ _ _ (XB (cG ..) (cG ..))) h.1 ?_;simp only[eO,ej];exact h.2
 | .pick c' k' p q r w,kn,e,k,K,W,F,c=>by
  have s:=WF.short B K W;obtain⟨a,b,G,M,wr,f⟩:=W;have z:=f6 B (g:=p) K G F.1 c;have J:=f6 B (g:=q) K M F.2.1 c;have i3:=f6 B (g:=r) K wr F.2.2 c;have h:=kD (t5 (a:=(aW C p e c',nI (aU C (pa p) e c'))) z (t5 (a:=(aW C q e k',nI (aU C (pa q) e k'))) J (t5 (a:=(aW C r e k',nI (aU C (pa r) e k'))) i3 (DE (j9 B b.1 s.2.2 f)))));simp only[aW,pa,aU,eO];exact h
 | .again n k' x p q w,kn,e,k,K,W,F,c=>by
  have s:=WF.short B K W;obtain⟨a,b,G,M,f⟩:=W;have z:=f6 B (g:=p) K G F.1 c;have J:=f6 B (g:=q) (K.cons b.1 b.2) M F.2.2 (c.put F.2.1.1);have h:=kD (t5 (a:=(aW C p e k',nI (aU C (pa p) e k'))) z (t5 (a:=(aW C q (eU e x k') k',nI (aU C (pa q) (eU e x k') k'))) J (DE (j9 B b.1 s.2.2 f))));simp only[aW,pa,aU,eO];exact h
def kids:Pa->List Pa
 | .use1 _ p=>[p]
 | .use2 _ p q=>[p,q]
 | .lett _ p q=>[p,q]
 | .pick _ _ p q r=>[p,q,r]
 | .again _ _ _ p q=>[p,q]
 | _=>[]
def R8(C:Bk)(p:Pa)(l:List D):D:=.ob CN [("part",bK p),("below",.lst l),("names",.lst ((aP p).map .str)),("found",.mem (DM (bF C) (bK p)) (FF (bF C) (bK p)))]
def d3(C:Bk):Pa->D
 | .name x=>R8 C (.name x) []
 | .num n j=>R8 C (.num n j) []
 | .use1 nm p=>R8 C (.use1 nm p) [d3 C p]
 | .use2 nm p q=>R8 C (.use2 nm p q) [d3 C p,d3 C q]
 | .lett x p q=>R8 C (.lett x p q) [d3 C p,d3 C q]
 | .pick c k p q r=>R8 C (.pick c k p q r) [d3 C p,d3 C q,d3 C r]
 | .again n k x p q=>R8 C (.again n k x p q) [d3 C p,d3 C q]
theorem tK(C:Bk)(p:Pa):d3 C p=R8 C p ((kids p).map (d3 C)):=by cases p <;> rfl
noncomputable def hid:Pa->Nat->Option Str
 | .lett x _ _,1=>some x
 | .again _ _ x _ _,1=>some x
 | _,_=>none
noncomputable def oS:Option Str->D
 | none=>.non
 | some x=>.str x
theorem mZ:∀p:Pa,iP [bK p]=some (.tup ((kids p).map bK))
 | .name ..=>aK (by simp_all[gK,aH,bK,kids,at0,tT,nS,D2,sU])
 | .num ..=>aK (by simp_all[gK,aH,bK,kids,at0,nT,lP,ED,sJ])
 | .use1 ..=>aK (by simp_all[gK,aH,bK,kids,at0,at2])
 | .use2 ..=>aK (by simp_all[gK,aH,bK,kids,at0,at2])
 | .lett ..=>aK (by simp_all[gK,aH,bK,kids,at0,nU,VP])
 | .pick ..=>aK (by simp_all[gK,aH,bK,kids,at0,nZ,lQ,UF])
 | .again ..=>aK (by simp_all[gK,aH,bK,kids,at0,nW,iW,FB,TL])
theorem AM:¬ ("use" : Str) = "again" := by decide
theorem KI:¬ ("pick" : Str) = "again" := by decide
theorem G7{p:D}{i:Nat}(h:¬ i=1):cN [p,.int (i:Int)]=some .non:=aK (by
 have h':¬ ((i:Int)=1):=λz=>h (by lia)
 simp_all[bL,aH,h'])
theorem yV(p:Pa)(i:Nat):cN [bK p,.int (i:Int)]=some (oS (hid p i)):=by
 by_cases h:i=1
 ·subst h
  cases p with
  | name x=>exact aK (by simp_all[bL,aH,bK,hid,oS,at0,nS,sU])
  | num n j=>exact aK (by simp_all[bL,aH,bK,hid,oS,at0,lP,sJ])
  | use1 nm p=>exact aK (by simp_all[bL,aH,bK,hid,oS,at0,xM,AM])
  | use2 nm p q=>exact aK (by simp_all[bL,aH,bK,hid,oS,at0,xM,AM])
  | lett x p q=>exact aK (by simp_all[bL,aH,bK,hid,oS,at0,at1])
  | pick c k p q r=>exact aK (by simp_all[bL,aH,bK,hid,oS,at0,lQ,KI])
  | again n k x p q=>exact aK (by simp_all[bL,aH,bK,hid,oS,at0,W9,iW])
 ·rw[G7 h]
  have:hid p i=none:=by
   unfold hid;split
   ·exact absurd rfl h
   ·exact absurd rfl h
   ·rfl
  rw[this];rfl
theorem B6{x:Str}{l:List Str}:m9 (.str x) (.lst (l.map .str))=some (.bl (!decide (x∈l))):=by
 have h1:(l.map D.str).all fR=true:=by
  rw[List.all_map];exact List.all_eq_true.mpr λx _=>rfl
 show xO (.str x) (.lst (l.map .str))=_;unfold xO RU;dsimp only;rw[if_pos ⟨rfl,h1⟩];simp only[aB];congr 3;rw[List.any_map];by_cases h:x∈l
 ·rw[decide_eq_true h]
  exact List.any_eq_true.mpr ⟨x,h,by simp[-zac,-zab,aA,aB]⟩
 ·rw[decide_eq_false h]
  refine List.any_eq_false.mpr λy q=>?_
  simp[-zac,-zab,aA,aB];rintro rfl;exact h q
theorem ne_sn{x:Str}:BB (.str x) .non=some (.bl true):=by
 unfold BB JC;rw[if_pos (.inl rfl)];simp[-zac,-zab,aA,aB]
theorem YF{x:Str}{h:Option Str}:BB (.str x) (oS h)=some (.bl (!decide (some x=h))):=by
 cases h with
 | none=>rw[show oS none=D.non from rfl,ne_sn];simp[-zac,-zab,aA,aB]
 | some y=>rw[show oS (some y)=D.str y from rfl,q_neS];simp[-zac,-zab,aA,aB]
theorem rW{h:Option Str}{acc:List Str}:∀(l:List Str) (o:Option D),bD (aQ 0) (IT (pN (bC BB (aD 0) (aD 1))) (pN (bC m9 (aD 0) (aD 2)))) (aD 0) (l.map .str) [o,some (oS h),some (.lst (acc.map .str))]=some ((l.filter λx=>!decide (some x=h) && !decide (x∈acc)).map .str)
 | [],o=>rfl
 | x::l,o=>by
  have ih:=rW (h:=h) (acc:=acc) l (some (.str x));have e:=YF (x:=x) (h:=h);have q:=B6 (x:=x) (l:=acc);generalize oS h=dh at *;rw[zak,bD];by_cases h1:some x=h
  ·simp_all[e,q,h1,ih]
  ·by_cases h2:x∈acc
   ·simp_all[e,q,h1,h2,ih]
   ·simp_all[e,q,h1,h2,ih]
def accN(p:Pa):Nat->List Pa->List Str->List Str
 | _,[],acc=>acc
 | i,q::l,acc=>accN p (i+1) l (fB (hid p i) acc (aP q))
theorem QK(p:Pa)(h:∀x,p≠.name x):aP p=accN p 0 (kids p) []:=by
 cases p with
 | name x=>exact absurd rfl (h x)
 | _=>rfl
theorem dJ{h:Option Str}{acc l:List Str}:(fB h acc l).length<=acc.length+l.length:=by
 unfold fB;rw[zbc];have:=zc0 (λx=>!decide (some x=h) && !decide (x∈acc)) l
 lia
theorem d7:∀p:Pa,(aP p).length<=psz p
 | .name x=>zai 1
 | .num _ _=>by simp_all[aP,psz]
 | .use1 _ p=>by
  have:=d7 p;have:=dJ (h:=none) (acc:=[]) (l:=aP p);simp only[aP,psz,zbn]at *;lia
 | .use2 _ p q=>by
  have:=d7 p;have:=d7 q;have:=dJ (h:=none) (acc:=[]) (l:=aP p);have:=dJ (h:=none) (acc:=fB none [] (aP p)) (l:=aP q);simp only[aP,psz,zbn]at *;lia
 | .lett x p q=>by
  have:=d7 p;have:=d7 q;have:=dJ (h:=none) (acc:=[]) (l:=aP p);have:=dJ (h:=some x) (acc:=fB none [] (aP p)) (l:=aP q);simp only[aP,psz,zbn]at *;lia
 | .pick _ _ p q r=>by
  have:=d7 p;have:=d7 q;have:=d7 r;have:=dJ (h:=none) (acc:=[]) (l:=aP p);have:=dJ (h:=none) (acc:=fB none [] (aP p)) (l:=aP q);have:=dJ (h:=none) (acc:=fB none (fB none [] (aP p)) (aP q)) (l:=aP r);simp only[aP,psz,zbn]at *;lia
 | .again _ _ x p q=>by
  have:=d7 p;have:=d7 q;have:=dJ (h:=none) (acc:=[]) (l:=aP p);have:=dJ (h:=some x) (acc:=fB none [] (aP p)) (l:=aP q);simp only[aP,psz,zbn]at *;lia
def R1:Pa->Str
 | .name _ => "name"
 | .num _ _ => "number"
 | .use1 _ _ => "use"
 | .use2 _ _ _ => "use"
 | .lett _ _ _ => "let"
 | .pick _ _ _ _ _ => "pick"
 | .again _ _ _ _ _ => "again"
theorem MW(p:Pa):aI (bK p) (.int 0)=some (.str (R1 p)):=by
 cases p <;> (unfold bK;rw[q_itT];exact at0)
theorem KL(p:Pa)(h:∀x,p≠.name x):¬ R1 p = "name" := by
 cases p with
 | name x=>exact absurd rfl (h x)
 | num _ _=>exact(by decide:¬ ("number" : Str) = "name")
 | use1 _ _=>exact(by decide:¬ ("use" : Str) = "name")
 | use2 _ _ _=>exact(by decide:¬ ("use" : Str) = "name")
 | lett _ _ _=>exact(by decide:¬ ("let" : Str) = "name")
 | pick _ _ _ _ _=>exact(by decide:¬ ("pick" : Str) = "name")
 | again _ _ _ _ _=>exact(by decide:¬ ("again" : Str) = "name")
theorem nB(C:Bk)(p:Pa):x9 CN "part" (d3 C p)=some (bK p):=by rw[tK];rfl
theorem LF(C:Bk)(p:Pa):x9 CN "below" (d3 C p)=some (.lst ((kids p).map (d3 C))):=by rw[tK];rfl
theorem zR(C:Bk)(p:Pa):x9 CN "names" (d3 C p)=some (.lst ((aP p).map .str)):=by rw[tK];rfl
theorem J7(C:Bk)(p:Pa):x9 CN "found" (d3 C p)=some (.mem (DM (bF C) (bK p)) (FF (bF C) (bK p))):=by rw[tK];rfl
theorem zH(p:Pa):∀(l:List Pa) (j i:Nat) (acc:List Str) (q:Pa),l[i]?=some q->accN p j (l.take (i+1)) acc=fB (hid p (j+i)) (accN p j (l.take i) acc) (aP q)
 | [],j,i,acc,q,h=>by simp[-zac,-zab,aA,aB]at h
 | a::l,j,0,acc,q,h=>by
  have:a=q:=by simpa using h
  subst this;rfl
 | a::l,j,i+1,acc,q,h=>by
  have ih:=zH p l (j+1) i (fB (hid p j) acc (aP a)) q (by simpa using h);rw[zcr,zcr,accN,accN,ih,show j+1+i=j+(i+1) by lia]
theorem EZ(p:Pa):∀(l:List Pa) (j:Nat) (acc:List Str),(accN p j l acc).length<=acc.length+(l.map psz).sum
 | [],j,acc=>by simp_all[accN]
 | a::l,j,acc=>by
  have:=EZ p l (j+1) (fB (hid p j) acc (aP a));have:=dJ (h:=hid p j) (acc:=acc) (l:=aP a);have:=d7 a;rw[accN,zak,zbr];lia
theorem dW(p:Pa):((kids p).map psz).sum+1=psz p:=by
 cases p <;> simp_all[kids,psz] <;> lia
theorem DX{q:Pa}:∀ {l:List Pa},q∈l->psz q<=(l.map psz).sum
 | [],h=>nomatch h
 | a::l,h=>by
  rw[zak,zbr];rcases List.mem_cons.mp h with z|z
  ·rw[z];lia
  ·have:=DX z;lia
theorem gU{p q:Pa}(h:q∈kids p):psz q<psz p:=by
 have:=DX h;have:=dW p;lia
theorem LI(l:List Pa)(i:Nat):((l.take i).map psz).sum<=(l.map psz).sum:=by
 induction l generalizing i with
 | nil=>simp[-zac,-zab,aA,aB]
 | cons a l ih=>
  cases i with
  | zero=>simp[-zac,-zab,aA,aB]
  | succ i=>have:=ih i;simp only[zcr,zak,zbr];lia
theorem OK(C:Bk)(p:Pa)(hs:psz p<=100):eK [bK p,.lst ((kids p).map (d3 C))]=some (.lst ((aP p).map .str)):=by
 by_cases N:∃x,p=.name x
 ·obtain⟨x,rfl⟩:=N
  exact aK (by simp_all[iH,aH,bK,aP,at0,at1])
 have B:∀x,p≠.name x:=λx e=>N ⟨x,e⟩
 have tg:=KL p B;refine aK ?_;unfold iH;have w:=yV p;have ta:=MW p;have sm:=dW p;have Y:=EZ p;rw[QK p B];have ek:=@zH p (kids p) 0;have sz:∀q∈kids p,psz q<psz p:=λq F=>gU F
 have tk:=LI (kids p);generalize kids p=ks at *;generalize bK p=pd at *;rw[aF (ρ':=aH 6 [pd,.lst (ks.map (d3 C))]) (by simp_all[aH,ta,tg])];rw[aF (aM (d:=.lst []) (by simp[-zac,-zab,aA,aB]))];refine kL (items:=gB 0 (ks.map (d3 C))) (by simp_all[aH]) (λi ρ=>∃M J G,ρ=[some pd,some (.lst (ks.map (d3 C))),some (.lst ((accN p 0 (ks.take i) []).map .str)),M,J,G]) ⟨none,none,none,by simp_all[aH,accN]⟩ ?_ ?_
 ·rintro i y ρ hy ⟨M,J,G,rfl⟩
  obtain⟨z,W,rfl⟩:=g9 hy;rw[zaC]at W;obtain⟨q,F,rfl⟩:=map_some W;rw[zaP];have U:=ek i [] q F;rw[zaP]at U;have wi:=w i;have cn:=rW (h:=hid p i) (acc:=accN p 0 (ks.take i) []) (aP q) none;have nn:=zR C q;have l1:=Y (ks.take i) 0 [];have l2:=tk i;have l3:=d7 q;have l4:=sz q (zax F);have l5:=zc0 (λx=>!decide (some x=hid p i) && !decide (x∈accN p 0 (ks.take i) [])) (aP q);have z1:a7 (aP q).length=true:=decide_eq_true (by lia);refine⟨[some pd,some (.lst (ks.map (d3 C))),some (.lst ((accN p 0 (ks.take (i+1)) []).map .str)),some (.int (i:Int)),some (d3 C q),some (oS (hid p i))],?_,_,_,_,rfl⟩;rw[U];unfold fB;have z2:a7 ((accN p 0 (ks.take i) []).length+((aP q).filter λx=>!decide (some x=hid p i) && !decide (x∈accN p 0 (ks.take i) [])).length)=true:=decide_eq_true (by simp only[zbn]at l1;lia);generalize (aP q).filter (λx=>!decide (some x=hid p i) && !decide (x∈accN p 0 (ks.take i) []))=fl' at *;simp_all[-zav,turn,wi,dS,nn,RZ,i6,z1,cn,z2]
 ·rintro ρ' ⟨M,J,G,rfl⟩
  rw[eZ,zal,zbX];simp[-zac,-zab,aA,aB]
theorem C4(C:Bk):∀(m:Nat) (p:Pa),psz p<=m->psz p<=100->pG m (bF C) (bK p)=some (d3 C p)
 | 0,p,h,_=>by have:=dW p;lia
 | m+1,p,h,h1=>by
  have ih:∀q∈kids p,pG m (bF C) (bK q)=some (d3 C q):=λq B=>C4 C m q (by have:=gU B;lia) (by have:=gU B;lia)
  have wi:=mZ p;have F:=OK C p h1;have M:(kids p).length<=3:=by cases p <;> simp_all[kids]
  have J:∀(l:List Pa) (o:Option D),(∀q∈l,pG m (bF C) (bK q)=some (d3 C q))->bD (aQ 0) fJ (eNew (pG m) (λ_=>some (bF C)) (aD 0)) (l.map bK) [o]=some (l.map (d3 C)):=λl=>by
   induction l with
   | nil=>exact λ_ _=>rfl
   | cons a l il=>
    intro o B;have e:=il (some (bK a)) λq h=>B q (zap _ h)
    have G:=B a (zat ..);rw[zak,bD];simp_all[eNew,G,e]
  have z:a7 (kids p).length=true:=decide_eq_true (by lia);have c:=J (kids p) none ih;rw[tK];show FW CN _ eK (DM (bF C)) (FF (bF C)) (bK p)=_;unfold FW R8;have fb:dY [none] (fO (aS iP (aC (aD 1) aZ))) (aQ 0) fJ (eNew (pG m) (λ_=>some (bF C)) (aD 0)) [none,some (bK p)]=some (.lst ((kids p).map (d3 C))):=by
   simp_all[wi,i6,z,c]
  rw[fb,aA,F,aA]
theorem gI(a:Sm):dG [memD a]=some (.int (nI a)):=by
 cases a with
 | none=>exact aK (by ac_rfl)
 | some p=>exact aK (by ac_rfl)
theorem KZ(a b:Sm):mJ [memD a,memD b]=some (memD (c8 a b)):=by
 cases a with
 | none=>
  cases b with
  | none=>exact aK (by ac_rfl)
  | some q=>exact aK (by ac_rfl)
 | some p=>
  cases b with
  | none=>exact aK (by ac_rfl)
  | some q=>
   have e:(if q.2<p.2 then q.2 else p.2)=min p.2 q.2:=by split <;> lia
   exact aK (by simp_all[AQ,aH,memD,c8,gN,at0,at1,AZ,e])
theorem M6{a b:Sm}(z:∀p,a=some p->0<=p.1/\p.1<10^250)(B:∀p,b=some p->0<=p.1/\p.1<10^250):MV [memD a,memD b]=some (memD (pH a b)):=by
 cases a with
 | none=>
  cases b with
  | none=>exact aK (by ac_rfl)
  | some q=>exact aK (by ac_rfl)
 | some p=>
  cases b with
  | none=>exact aK (by ac_rfl)
  | some q=>
   have h1:=z p rfl;have h2:=B q rfl;have m:cR (.int p.1) (.int q.1)=some (.int (p.1*q.1)):=cF (zeq (by decide) h1.1) h1.2 (zeq (by decide) h2.1) h2.2;exact aK (by simp_all[L7,aH,memD,pH,gN,at0,at1,m])
def bR(C:Bk):Pa->List D
 | .use1 nm _=>(nK C nm 1).map λ(v:Nat)=>.int (v:Int)
 | .use2 nm _ _=>(nK C nm 2).map λ(v:Nat)=>.int (v:Int)
 | .lett _ _ _=>(zar C.kinds.length).map λ(v:Nat)=>.int (v:Int)
 | _=>[.non]
noncomputable def A6(p:Mk->Bool):Nat->List Mk->List Nat
 | _,[]=>[]
 | k,m::ms=>if p m then k::A6 p (k+1) ms else A6 p (k+1) ms
theorem ET(p:Mk->Bool):∀(ms:List Mk) (k:Nat),A6 p k ms=((zar ms.length).filter λv=>match ms[v]? with
 | some m=>p m
 | none=>false).map (·+k)
 | [],k=>rfl
 | m::ms,k=>by
  rw[A6,ET p ms (k+1),zaw,List.range_succ_eq_map,zcB,List.filter_map];have e:(λv=>match (m::ms)[v]? with
   | some m=>p m
   | none=>false) ∘ Nat.succ=λv=>match ms[v]? with
   | some m=>p m
   | none=>false:=by funext v;rfl
  rw[e];have q:∀L:List Nat,((L.map Nat.succ).map (·+k))=L.map (·+(k+1)):=λL=>by
   rw[zav];congr 1;funext v;show v.succ+k=v+(k+1);lia
  show _=List.map (·+k) (if p m=true then _ else _);cases hp:p m with
  | true=>rw[if_pos rfl,if_pos rfl,zak,q,zaP]
  | false=>rw[if_neg zaB,if_neg zaB,q]
theorem nM{nm:Str}{l:List D}{pd:D}(h1:aI pd (.int 1)=some (.str nm))(h2:aI pd (.int 2)=some (.tup l)):∀(ms:List Mk) (k:Nat) (o o1:Option D),bD (kS 2 (eA (aQ 0) (eA (aQ 1) tW))) (IT (pN (bC kN (bC aI (aD 1) (eC (.int 0))) (bC aI (aD 2) (eC (.int 1))))) (pN (bC kN (aS gE (aC (bC aI (aD 1) (eC (.int 1))) aZ)) (aS gE (aC (bC aI (aD 2) (eC (.int 2))) aZ))))) (aD 0) (gB k (ms.map kI)) [o,o1,some pd]=some ((A6 (λm=>decide (m.nm=nm) && decide (m.takes.length=l.length)) k ms).map λ(v:Nat)=>.int (v:Int))
 | [],k,o,o1=>rfl
 | m::ms,k,o,o1=>by
  have ih:=nM h1 h2 ms (k+1) (some (.int (k:Int))) (some (kI m));have q:gE [tupI m.takes]=some (.int (m.takes.length:Int)):=by simp_all[tupI]
  rw[zak,gB,bD,A6];generalize (A6 (λm=>decide (m.nm=nm) && decide (m.takes.length=l.length)) (k+1) ms)=R at *;by_cases B:m.nm=nm
  ·by_cases F:m.takes.length=l.length
   ·simp_all[-zav,turn,DC,xY,h1,h2,q,B,F,ih]
   ·have z:¬ (m.takes.length:Int)=(l.length:Int):=by lia
    simp_all[-zav,turn,DC,xY,h1,h2,q,B,F,z,ih]
  ·simp_all[-zav,turn,DC,xY,h1,h2,q,B,ih]
theorem AH(C:Bk)(nm:Str)(n:Nat):A6 (λm=>decide (m.nm=nm) && decide (m.takes.length=n)) 0 C.makes=nK C nm n:=by
 rw[ET,show(λx:Nat=>x+0)=id from rfl,List.map_id];rfl
theorem vK{C:Bk}(B:OkB C)(p:Pa):fT [bF C,bK p]=some (.lst (bR C p)):=by
 have G:=B.k6;have J:=B.ml;have F:a7 C.makes.length=true:=decide_eq_true (by lia);have z:xQ (.int (C.kinds.length:Int))=some (.lst (aR 0 1 C.kinds.length)):=by
  have:=RA (i:=(C.kinds.length:Int)) (by lia) (by lia)
  rwa [zbB]at this
 cases p with
 | name x=>exact aK (by simp_all[eG,aH,bK,bR,at0,tT,nS])
 | num n j=>exact aK (by simp_all[eG,aH,bK,bR,at0,nT,lP])
 | use1 nm p=>
  have c:=nM (pd:=bK (.use1 nm p)) (nm:=nm) (l:=[bK p]) (by rw[bK,q_itT];exact at1) (by rw[bK,q_itT];exact at2) C.makes 0 none none;rw[List.length_singleton,AH]at c;simp only[bK]at c;exact aK (by simp_all[-zav,eG,aH,bK,bR,at0,uJ,i6,F,eZ,c])
 | use2 nm p q=>
  have c:=nM (pd:=bK (.use2 nm p q)) (nm:=nm) (l:=[bK p,bK q]) (by rw[bK,q_itT];exact at1) (by rw[bK,q_itT];exact at2) C.makes 0 none none;rw[show([bK p,bK q]:List D).length=2 from rfl,AH]at c;simp only[bK]at c;exact aK (by simp_all[-zav,eG,aH,bK,bR,at0,uJ,i6,F,eZ,c])
 | lett x p q=>
  have er:aR 0 1 C.kinds.length=(zar C.kinds.length).map λ(v:Nat)=>D.int (v:Int):=by
   rw[oG,zav];rfl
  rw[er]at z;exact aK (by simp_all[-zav,eG,aH,bK,bR,at0,nU,DG,z])
 | pick c k p q r=>exact aK (by simp_all[eG,aH,bK,bR,at0,nZ,lQ])
 | again n k x p q=>exact aK (by simp_all[eG,aH,bK,bR,at0,nW,iW])
theorem BV{C:Bk}{d:List (Key×D)}{x:Str}{j:Int}{k c:D}(h:eX d (.inr x:Key)=some (.int j)):bN [bF C,.dK d,bK (.name x),k,c]=some (.int j):=by
 have e:=SJ h;exact aK (by simp_all[cK,aH,bK,at0,at1,e])
theorem GK{C:Bk}{d:List (Key×D)}{n j:Int}{k c:D}:bN [bF C,.dK d,bK (.num n j),k,c]=some (.int j):=
 aK (by simp_all[cK,aH,bK,at0,at2,nT,lP,(by decide:¬ ("number" : Str) = "name")])
theorem EW:¬ ("use" : Str) = "name" := by decide
theorem CK{C:Bk}{d:List (Key×D)}{nm:Str}{p:Pa}{k:D}{v:Nat}{m:Mk}(h:C.makes[v]?=some m):bN [bF C,.dK d,bK (.use1 nm p),k,.int (v:Int)]=some (.int m.g):=by
 have e:=pI h;exact aK (by simp_all[-zav,cK,aH,bK,at0,EW,uJ,e,IX])
theorem BH{C:Bk}{d:List (Key×D)}{nm:Str}{p q:Pa}{k:D}{v:Nat}{m:Mk}(h:C.makes[v]?=some m):bN [bF C,.dK d,bK (.use2 nm p q),k,.int (v:Int)]=some (.int m.g):=by
 have e:=pI h;exact aK (by simp_all[-zav,cK,aH,bK,at0,EW,uJ,e,IX])
theorem G0{C:Bk}{d:List (Key×D)}{x:Str}{p q:Pa}{k c:D}:bN [bF C,.dK d,bK (.lett x p q),k,c]=some k:=
 aK (by simp_all[cK,aH,bK,at0,nU,(by decide:¬ ("let" : Str) = "name")])
theorem BF{C:Bk}{d:List (Key×D)}{B z:Int}{p q r:Pa}{k c:D}:bN [bF C,.dK d,bK (.pick B z p q r),k,c]=some (.int z):=
 aK (by simp_all[cK,aH,bK,at0,at2,nZ,lQ,(by decide:¬ ("pick" : Str) = "name")])
theorem yC{C:Bk}{d:List (Key×D)}{n z:Int}{x:Str}{p q:Pa}{k c:D}:bN [bF C,.dK d,bK (.again n z x p q),k,c]=some (.int z):=
 aK (by simp_all[cK,aH,bK,at0,at2,nW,iW,(by decide:¬ ("again" : Str) = "name")])
theorem HK{C:Bk}{x:Str}{k c:D}:bS [bF C,bK (.name x),k,c]=some (tupI []):=aK (by simp_all[b8,aH,bK,at0,tT,nS,D2,sU,tupI])
theorem JP{C:Bk}{n j:Int}{k c:D}:bS [bF C,bK (.num n j),k,c]=some (tupI []):=aK (by simp_all[b8,aH,bK,at0,nT,lP,ED,sJ,tupI])
theorem GU{C:Bk}{nm:Str}{p:Pa}{k:D}{v:Nat}{m:Mk}(h:C.makes[v]?=some m):bS [bF C,bK (.use1 nm p),k,.int (v:Int)]=some (tupI m.takes):=by
 have e:=pI h;exact aK (by simp_all[-zav,b8,aH,bK,at0,uJ,e,xY])
theorem IC{C:Bk}{nm:Str}{p q:Pa}{k:D}{v:Nat}{m:Mk}(h:C.makes[v]?=some m):bS [bF C,bK (.use2 nm p q),k,.int (v:Int)]=some (tupI m.takes):=by
 have e:=pI h;exact aK (by simp_all[-zav,b8,aH,bK,at0,uJ,e,xY])
theorem JM{C:Bk}{x:Str}{p q:Pa}{k j:Int}:bS [bF C,bK (.lett x p q),.int k,.int j]=some (tupI [j,k]):=aK (by simp_all[b8,aH,bK,at0,nU,tupI])
theorem HS{C:Bk}{B z:Int}{p q r:Pa}{k c:D}:bS [bF C,bK (.pick B z p q r),k,c]=some (tupI [B,z,z]):=aK (by simp_all[b8,aH,bK,at0,at1,at2,nZ,lQ,tupI])
theorem CI{C:Bk}{n z:Int}{x:Str}{p q:Pa}{k c:D}:bS [bF C,bK (.again n z x p q),k,c]=some (tupI [z,z]):=aK (by simp_all[b8,aH,bK,at0,at2,nW,iW,FB,tupI])
def DO(C:Bk)(hd:Nat->D):Nat->List Pa->List Int->List D
 | i,q::l,k::ks=>.tup [d3 C q,hd i,.int k]::DO C hd (i+1) l ks
 | _,_,_=>[]
theorem zV{C:Bk}{hd:Nat->D}:∀(l:List Pa) (ks:List Int) (j i:Nat) (q:Pa) (k:Int),l[i]?=some q->ks[i]?=some k->DO C hd j (l.take (i+1)) ks=DO C hd j (l.take i) ks++[.tup [d3 C q,hd (j+i),.int k]]
 | [],ks,j,i,q,k,h,_=>by simp[-zac,-zab,aA,aB]at h
 | a::l,[],j,i,q,k,_,h=>by simp[-zac,-zab,aA,aB]at h
 | a::l,b::ks,j,0,q,k,h,h'=>by
  have B:a=q:=by simpa using h
  have z:b=k:=by simpa using h'
  subst B z;rfl
 | a::l,b::ks,j,i+1,q,k,h,h'=>by
  have ih:=zV (C:=C) (hd:=hd) l ks (j+1) i q k (by simpa using h) (by simpa using h');rw[zcr,zcr,DO,DO,ih,show j+1+i=j+(i+1) by lia];rfl
theorem E5{C:Bk}{hd:Nat->D}:∀(l:List Pa) (ks:List Int) (j:Nat),(DO C hd j l ks).length<=l.length
 | [],ks,j=>by cases ks <;> simp_all[DO]
 | a::l,[],j=>by ac_rfl
 | a::l,b::ks,j=>by have:=E5 (C:=C) (hd:=hd) l ks (j+1);simp only[DO,zaw];lia
theorem Q2{C:Bk}{at_:D}{p:Pa}{d:List (Key×D)}{k c:D}{ks:List Int}{hd:Nat->D}(hb:x9 CA "book" at_=some (bF C))(hk:bS [bF C,bK p,k,c]=some (tupI ks))(hl:(kids p).length<=ks.length)(hh:∀i,i<(kids p).length->dC [.dK d,bK p,.int (i:Int),c]=some (hd i)):kK [at_,d3 C p,.dK d,k,c]=some (.lst (DO C hd 0 (kids p) ks)):=by
 refine aK ?_;unfold D4;have Y:=nB C p;have nb:=LF C p;have h3:(kids p).length<=3:=by cases p <;> simp_all[kids]
 generalize kids p=l at *;generalize d3 C p=nd at *;generalize bK p=pd at *;rw[aF (aM (d:=tupI ks) (by ac_rfl))];rw[aF (aM (d:=.lst []) (by simp[-zac,-zab,aA,aB]))];refine kL (items:=gB 0 (l.map (d3 C))) (by ac_rfl) (λi ρ=>∃J G,ρ=[some at_,some nd,some (.dK d),some k,some c,some (tupI ks),some (.lst (DO C hd 0 (l.take i) ks)),J,G]) ⟨none,none,by ac_rfl⟩ ?_ ?_
 ·rintro i y ρ hy ⟨J,G,rfl⟩
  obtain⟨z,M,rfl⟩:=g9 hy;rw[zaC]at M;obtain⟨q,N,rfl⟩:=map_some M;rw[zaP];have hi:=(List.getElem?_eq_some_iff.mp N).1;obtain⟨F,B⟩:∃F,ks[i]?=some F:=⟨ks[i],zaT (by lia)⟩;have e:=zV (C:=C) (hd:=hd) l ks 0 i q F N B;rw[zaP]at e;have hx:=hh i hi;have W:gD (ks.map D.int) (i:Int)=some (.int F):=bV (by rw[zaC,B];rfl);have ln:=E5 (C:=C) (hd:=hd) (l.take i) ks 0;have U:a7 (DO C hd 0 (l.take i) ks).length=true:=decide_eq_true (by rw[zb7]at ln;lia);refine⟨[some at_,some nd,some (.dK d),some k,some c,some (tupI ks),some (.lst (DO C hd 0 (l.take (i+1)) ks)),some (.int (i:Int)),some (d3 C q)],?_,_,_,rfl⟩;rw[e];generalize DO C hd 0 (l.take i) ks=sp at *;simp_all[-zav,turn,dS,Y,hx,tupI,W,U]
 ·rintro ρ' ⟨J,G,rfl⟩
  rw[eZ,zal,zbX];simp[-zac,-zab,aA,aB]
def Small(a:Sm):Prop:=∀p,a=some p->0<=p.1/\p.1<10^250
def S6(C:Bk)(p:Pa)(c:D)(own:Int):Prop:=(R1 p = "use" /\ ∃(v:Nat) (m:Mk),c=.int (v:Int)/\C.makes[v]?=some m/\own=m.pr)\/(¬ R1 p = "use" /\ own=0)
theorem JO(a:Sm):GG (memD a) .non=some (.bl a.isSome):=by cases a <;> rfl
theorem S8{L:LT}{j k:Int}{e:D}(h:eX L ([.inl j,.inl k]:List Key)=some e):aI (.dT L) (.tup [.int j,.int k])=some e:=by
 show(some (eX L ([.inl j,.inl k]:List Key))).join=_;rw[h];rfl
theorem wA{C:Bk}{at_:D}{L2:LT}{p:Pa}{d:List (Key×D)}{k j own:Int}{c:D}{R:List D->Option D}{Rs:List (D×D×D×Sm)}(hb:x9 CA "book" at_=some (bF C))(hs:x9 CA "spans" at_=some (.dT L2))(U:eX L2 ([.inl j,.inl k]:List Key)=some (memD (NX C j k)))(ho:S6 C p c own)
  (hg:bN [bF C,.dK d,bK p,.int k,c]=some (.int j)) (G:kK [at_,d3 C p,.dK d,.int k,c]=some (.lst (Rs.map λr=>.tup [r.1,r.2.1,r.2.2.1]))) (hR:∀r∈Rs,R [at_,r.1,r.2.1,r.2.2.1]=some (memD r.2.2.2)) (h0:Small (NX C j k)) (h1:∀r∈Rs,Small r.2.2.2) (h2:∀i,Small (csum C own j k ((Rs.map (·.2.2.2)).take i))) :
  bJ 10 (cJ R) [at_,d3 C p,.dK d,.int k,c]=some (memD (csum C own j k (Rs.map (·.2.2.2)))):=by
 refine aK ?_;unfold cJ;have W:=nB C p;have tg:=MW p;generalize d3 C p=nd at *;have e1:(qc (pN (bC kN (bC aI (dS CN "part" (aD 1)) (eC (.int 0))) (eC (.str "use")))) (bC aI (bC aI (bC aI (dS CA "book" (aD 0)) (eC (.int 3))) (aD 4)) (eC (.int 4))) (eC (.int 0))) (aH 10 [at_,nd,.dK d,.int k,c])=some (.int own):=by
  rcases ho with⟨t,v,m,rfl,q,rfl⟩|⟨t,rfl⟩
  ·have e:=pI q
   ac_rfl
  ·ac_rfl
 rw[aF (aM (d:=.int own) e1)];have N:=M6 (a:=some (1,own)) (b:=NX C j k) (λp G=>by cases G;exact⟨(by decide:(0:Int)<=1),(by decide:(1:Int)<10^250)⟩) h0;have e0:memD (some (1,own))=.tup [.int 1,.int own]:=rfl;rw[e0]at N;have es:=S8 U;rw[aF (aM (d:=memD (csum C own j k [])) (by simp_all[aH,dS,W,hb,hs,hg,es,N,csum]))];refine kL (items:=Rs.map λr=>.tup [r.1,r.2.1,r.2.2.1]) (by ac_rfl) (λi ρ=>∃F B z,ρ=[some at_,some nd,some (.dK d),some (.int k),some c,some (.int own),some (memD (csum C own j k ((Rs.map (·.2.2.2)).take i))),F,B,z]) ⟨none,none,none,by ac_rfl⟩ ?_ ?_
 ·rintro i y ρ J ⟨F,B,z,rfl⟩
  rw[zaC]at J;obtain⟨r,M,rfl⟩:=map_some J;have q:=zax M;have er:=hR r q;have Y:(Rs.map (·.2.2.2)).take (i+1)=(Rs.map (·.2.2.2)).take i++[r.2.2.2]:=by
   rw[zc4,zaC,M];rfl
  have ec:csum C own j k ((Rs.map (·.2.2.2)).take (i+1))=pH (csum C own j k ((Rs.map (·.2.2.2)).take i)) r.2.2.2:=by
   rw[Y];unfold csum;rw[List.foldl_append];rfl
  have bb:=M6 (h2 i) (h1 r q);have nn:=JO (csum C own j k ((Rs.map (·.2.2.2)).take i));refine⟨[some at_,some nd,some (.dK d),some (.int k),some c,some (.int own),some (memD (csum C own j k ((Rs.map (·.2.2.2)).take (i+1)))),some r.1,some r.2.1,some r.2.2.1],?_,_,_,_,rfl⟩;rw[ec];generalize csum C own j k ((Rs.map (·.2.2.2)).take i)=t at *;cases t with
  | none=>
   have i0:gN (memD none)=true:=rfl
   ac_rfl
  | some t=>
   have i0:gN (memD (some t))=false:=rfl
   ac_rfl
 ·rintro ρ' ⟨F,B,z,rfl⟩
  rw[zal,zbZ (by rw[zal];exact zai _)];simp[-zac,-zab,aA,aB]
theorem B7(l:List Int):intsOf (l.map .int)=some l:=by
 induction l with
 | nil=>rfl
 | cons i l ih=>show(intsOf (l.map .int)).map (i::·)=_;rw[ih];rfl
theorem rG{d:List (Key×D)}{e:eI}:∀(l:List Str) (o:Option D),(∀x∈l,eX d (.inr x:Key)=some (.int (e x)))->bD (aQ 0) fJ (bC aI (aD 1) (aD 0)) (l.map .str) [o,some (.dK d)]=some ((l.map e).map .int)
 | [],o,_=>rfl
 | x::l,o,h=>by
  have ih:=rG l (some (.str x)) λy q=>h y (zap _ q)
  have z:=SJ (h x (zat ..));rw[zak,bD];simp_all[-zav,z,ih]
theorem BN{C:Bk}(B:OkB C){at_:D}{p:Pa}{d:List (Key×D)}{k:Int}{e:eI}{R:List D->Option D}{f:D->Sm}(N:x9 CA "book" at_=some (bF C))(W:0<=k/\k<(C.kinds.length:Int))(hd:∀x∈aP p,eX d (.inr x:Key)=some (.int (e x)))(M:∀x∈aP p,0<=e x/\e x<(C.kinds.length:Int))(h8:(aP p).length<=8)
  (hc:∀c∈bR C p,bJ 10 (cJ R) [at_,d3 C p,.dK d,.int k,c]=some (memD (f c))) (hf:(bR C p).foldl (λt c=>c8 t (f c)) none=aU C p e k):bJ 7 (hJ R) [at_,d3 C p,.dK d,.int k]=some (memD (aU C p e k)):=by
 refine aK ?_;unfold hJ;have F:=nB C p;have nn:=zR C p;have nf:=J7 C p;have wc:=vK B p;have cm:=rG (d:=d) (e:=e) (aP p) none hd;have z1:a7 (aP p).length=true:=decide_eq_true (by lia);have Y:qp (.tup [.int k,.tup (((aP p).map e).map .int)])=some (.inl k,((aP p).map e).map .inl):=by
  show(intsOf _).map _=_;rw[B7];rfl
 have fk:=YB C p k ((aP p).map e);have dm:=YO (C:=C) (p:=p) (k:=k) (l:=(aP p).map e) W (by rw[zal]) λj hj=>by
  obtain⟨x,hx,rfl⟩:=List.mem_map.mp hj;exact M x hx
 have dl:=V6 (C:=C) (p:=p) B.k6 h8;have cg:=b9 C p (IS (aP p) ((aP p).map e)) e k λx hx=>yZ e hx
 rw[cg]at fk;generalize d3 C p=nd at *;rw[aF (aM (d:=.tup [.int k,.tup (((aP p).map e).map .int)]) (by simp_all[-zav,aH,dS,nn,i6,z1,cm]))];rw[show(aH 7 [at_,nd,.dK d,.int k]).set 4 (some (.tup [.int k,.tup (((aP p).map e).map .int)]))=[some at_,some nd,some (.dK d),some (.int k),some (.tup [.int k,.tup (((aP p).map e).map .int)]),none,none]from rfl];have G:=xH (g:=aQ 6) (b:=dZ 5 (aS mJ (aC (aD 5) (aC (aS (bJ 10 (cJ R)) (aC (aD 0) (aC (aD 1) (aC (aD 2) (aC (aD 3) (aC (aD 6) aZ)))))) aZ)))) (items:=bR C p) (ρ:=[some at_,some nd,some (.dK d),some (.int k),some (.tup [.int k,.tup (((aP p).map e).map .int)]),some .non,none])
  (λi ρ => ∃q, ρ = [some at_, some nd, some (.dK d), some (.int k), some (.tup [.int k, .tup (((aP p).map e).map .int)]), some (memD (((bR C p).take i).foldl (λt c => c8 t (f c)) none)), q]) ⟨none, rfl⟩ (by
   rintro i c ρ hi ⟨q,rfl⟩;have ec:=hc c (zax hi);have J:(bR C p).take (i+1)=(bR C p).take i++[c]:=by rw[zc4,hi];rfl
   have U:=KZ (((bR C p).take i).foldl (λt c=>c8 t (f c)) none) (f c);refine⟨[some at_,some nd,some (.dK d),some (.int k),some (.tup [.int k,.tup (((aP p).map e).map .int)]),some (memD (((bR C p).take (i+1)).foldl (λt c=>c8 t (f c)) none)),some c],?_,_,rfl⟩;rw[J,List.foldl_append];generalize ((bR C p).take i).foldl (λt c=>c8 t (f c)) none=t at *;simp_all[-zav,turn,ec,U])
 obtain⟨ρ',z,q,rfl⟩:=G;rw[zbX,hf]at z;unfold SD;have f2:(A7 (fO (aS fT (aC (dS CA "book" (aD 0)) (aC (dS CN "part" (aD 1)) aZ)))) (aQ 6) (dZ 5 (aS mJ (aC (aD 5) (aC (aS (bJ 10 (cJ R)) (aC (aD 0) (aC (aD 1) (aC (aD 2) (aC (aD 3) (aC (aD 6) aZ)))))) aZ))))) [some at_,some nd,some (.dK d),some (.int k),some (.tup [.int k,.tup (((aP p).map e).map .int)]),some .non,none]=some (.nx [some at_,some nd,some (.dK d),some (.int k),some (.tup [.int k,.tup (((aP p).map e).map .int)]),some (memD (aU C p e k)),q]):=by
  rw[q_for];have:fO (aS fT (aC (dS CA "book" (aD 0)) (aC (dS CN "part" (aD 1)) aZ))) [some at_,some nd,some (.dK d),some (.int k),some (.tup [.int k,.tup (((aP p).map e).map .int)]),some .non,none]=some (bR C p):=by simp_all[dS,N,F,wc]
  rw[this];exact z
 have f1:(dZ 5 (eC .non)) [some at_,some nd,some (.dK d),some (.int k),some (.tup [.int k,.tup (((aP p).map e).map .int)]),none,none]=some (.nx [some at_,some nd,some (.dK d),some (.int k),some (.tup [.int k,.tup (((aP p).map e).map .int)]),some .non,none]):=rfl;show(aD 1 [some at_,some nd,some (.dK d),some (.int k),some (.tup [.int k,.tup (((aP p).map e).map .int)]),none,none]).bind _=_;rw[show aD 1 [some at_,some nd,some (.dK d),some (.int k),some (.tup [.int k,.tup (((aP p).map e).map .int)]),none,none]=some nd from rfl,aA,nf,aA];dsimp only;rw[show aD 4 [some at_,some nd,some (.dK d),some (.int k),some (.tup [.int k,.tup (((aP p).map e).map .int)]),none,none]=some (.tup [.int k,.tup (((aP p).map e).map .int)])from rfl,aA,Y,aA,f1,aA];dsimp only;rw[f2,aA];dsimp only;rw[show aD 5 [some at_,some nd,some (.dK d),some (.int k),some (.tup [.int k,.tup (((aP p).map e).map .int)]),some (memD (aU C p e k)),q]=some (memD (aU C p e k))from rfl,aA,if_pos ⟨dm,dl,by rw[fk],rfl,rfl⟩]
theorem YY{s:Sv}{w:Gv}{x:D}{ρ q z:cU}(h:turn w s x ρ=some (.nx q))(k:q=z):turn w s x ρ=some (.nx z):=k ▸ h
theorem U9{k:Nat}{f:Ev}{ρ:cU}{xs ys:List D}(h:aD k ρ=some (.lst xs))(e:f ρ=some (.lst ys))(z:xs.length+ys.length<=1000000):RZ k f ρ=some (.nx (ρ.set k (some (.lst (xs++ys))))):=by
 unfold RZ;rw[h,aA];show(f ρ).bind _=_;rw[e,aA];exact if_pos (decide_eq_true z)
local macro_rules | `(tactic|ac_rfl) => `(tactic|(with_reducible apply U9) <;> ac_rfl)
theorem M1{C:Bk}{M many k:Int}(g:GR M many C.rs):∀(n:Nat) (x:Int),k-x<(n:Int)->0<n->k-x<=5->i8 6 lL n [bF C,.int x,.int k]=some (.lst ((bG C.rs k n x).map tupI))
 | 0,x,_,h,_=>absurd h (zb3 0)
 | n+1,x,hn,_,h5=>by
  have Y:∀y:Int,k-y<(n:Int)->0<n->k-y<=5->i8 6 lL n [bF C,.int y,.int k]=some (.lst ((bG C.rs k n y).map tupI)):=λy=>M1 g n y
  show bJ 6 (lL (i8 6 lL n)) _=_;generalize i8 6 lL n=R at Y ⊢;refine aK ?_;unfold lL bG;by_cases e:x=k
  ·rw[if_pos e]
   ac_rfl
  rw[if_neg e];rw[aF (ρ':=aH 6 [bF C,.int x,.int k]) (by ac_rfl)];rw[aF (aM (d:=.lst []) (by simp[-zac,-zab,aA,aB]))];refine kL (items:=gB 0 (C.rs.map kW)) (by ac_rfl) (λi ρ=>∃J F,ρ=[some (bF C),some (.int x),some (.int k),some (.lst ((fl (λi r=>if r.j=x/\r.k<=k then(bG C.rs k n r.k).map λw=>(i:Int)::w else []) 0 (C.rs.take i)).map tupI)),J,F]) ⟨none,none,by ac_rfl⟩ ?_ ?_
  ·rintro i y ρ hy ⟨J,F,rfl⟩
   obtain⟨z,hz,rfl⟩:=g9 hy;rw[zaC]at hz;obtain⟨r,N,rfl⟩:=map_some hz;rw[zaP];have gr:=g.jk r (zax N);have hi:i<C.rs.length:=(List.getElem?_eq_some_iff.mp N).1;have gl:=g.len;refine⟨[some (bF C),some (.int x),some (.int k),some (.lst ((fl (λi r=>if r.j=x/\r.k<=k then(bG C.rs k n r.k).map λw=>(i:Int)::w else []) 0 (C.rs.take (i+1))).map tupI)),some (.int (i:Int)),some (kW r)],?_,_,_,rfl⟩;rw[N7 N];by_cases q:r.j=x/\r.k<=k
   ·have G:(fl (λi r=>if r.j=x/\r.k<=k then(bG C.rs k n r.k).map λw=>(i:Int)::w else []) 0 (C.rs.take i)).length<=12*12^4:=by
     refine zaL (jS (B:=12^4) λt U er=>?_) (Nat.mul_le_mul_right _ (by simp[-zac,-zab,aA,aB];lia));split
     ·rw[zal]
      have W:C.rs[t]?=some U:=by rw[List.getElem?_take]at er;split at er;exact er;cases er
      have ac:=g.jk U (zax W);exact mO g n U.k 4 (by lia)
     ·exact zaI _
    rw[if_pos q];generalize fl (λi r=>if r.j=x/\r.k<=k then(bG C.rs k n r.k).map λw=>(i:Int)::w else []) 0 (C.rs.take i)=told at G;have ih:=Y r.k (by lia) (by lia) (by lia);have al:=mO g n r.k 4 (k:=k) (by lia);have cm:=qS (t:=(i:Int)) (bG C.rs k n r.k) none λw hw=>by
     have:=j7 g (iJ hw);lia
    have z1:((bG C.rs k n r.k).map tupI).length<=1000000:=by rw[zal];lia
    have z2:(told.map tupI).length+(((bG C.rs k n r.k).map λw=>(i:Int)::w).map tupI).length<=1000000:=by rw[zal,zal,zal];lia
    obtain⟨c1,c2⟩:=q;rw[zaJ];apply YY
    ·ac_rfl
    ·rfl
   ·rw[if_neg q,zbb]
    by_cases h1:r.j=x
    ·have h2:¬ r.k<=k:=λz=>q ⟨h1,z⟩
     ac_rfl
    ·ac_rfl
  ·rintro ρ' ⟨J,F,rfl⟩
   rw[eZ,zal,zbX];simp[-zac,-zab,aA,aB]
theorem yH{C:Bk}{w:List Int}(h:∀n∈w,∃r,lU C.rs n=some r)(z:w.length<=100):jE [bF C,tupI w]=some (.int (gC C.rs w)):=by
 obtain⟨ns,e,hs⟩:=uR h;have q:a7 w.length=true:=decide_eq_true (by lia);refine aK ?_;simp_all[oK,aH,tupI,i6,q,e,hs]
theorem oP{C:Bk}:∀(ws:List (List Int)) (o:Option D),(∀w∈ws,(∀n∈w,∃r,lU C.rs n=some r)/\w.length<=100)->bD (aQ 0) fJ (aS jE (aC (aD 1) (aC (aD 0) aZ))) (ws.map tupI) [o,some (bF C)]=some ((ws.map (gC C.rs)).map .int)
 | [],o,_=>rfl
 | w::ws,o,h=>by
  have ih:=oP ws (some (tupI w)) λv q=>h v (zap _ q)
  have e:=yH (h w (zat ..)).1 (h w (zat ..)).2;rw[zak,bD];simp_all[-zav,e,ih]
theorem CD{C:Bk}(B:OkB C){j k:Int}(M:0<=j)(k1:k<(C.kinds.length:Int)):cQ [bF C,.lst ((bG C.rs k 8 j).map tupI)]=some (memD (NX C j k)):=by
 have G:=B.k6;have J:=mO B.gr (k:=k) 8 j 5 (by lia);have hw:∀w∈bG C.rs k 8 j,(∀n∈w,∃r,lU C.rs n=some r)/\w.length<=100:=λw hw=>by
  have g:=iJ hw;have:=j7 B.gr g;exact⟨xT g,by lia⟩
 have c:=oP (bG C.rs k 8 j) none hw;have z:a7 (bG C.rs k 8 j).length=true:=decide_eq_true (by lia);refine aK ?_;unfold qX NX;generalize bG C.rs k 8 j=ws at *;rw[aF (aM (d:=.lst ((ws.map (gC C.rs)).map .int)) (by simp_all[-zav,aH,i6,z,c]))];by_cases h:ws.length=0
 ·rw[if_pos h]
  have:ws=[]:=List.length_eq_zero_iff.mp h;subst this
  ac_rfl
 ·rw[if_neg h]
  have e:=QX (ns:=ws.map (gC C.rs)) (λz=>h (by rw[List.map_eq_nil_iff]at z;rw[z];rfl));have q:(0:Int)<(ws.length:Int):=by lia
  have F:¬ ws=[]:=λz=>h (by rw[z];rfl)
  simp_all[-zav,aH,e,q,F,memD]
theorem nO{z:Type}{f:D->z->Option z}(I:Nat->z->Prop):∀(l:List D) (k:Nat) (a:z),I k a->(∀i x a,l[i]?=some x->I (k+i) a->∃q,f x a=some q/\I (k+i+1) q)->∃q,kT f l a=some q/\I (k+l.length) q
 | [],k,a,h,_=>⟨a,rfl,h⟩
 | x::l,k,a,h,s=>by
  obtain⟨J,F,h1⟩:=s 0 x a rfl h;obtain⟨B,G,h2⟩:=nO I l (k+1) J h1 λi y b N M=>by
   have:=s (i+1) y b (by simpa using N) (by rw[show k+(i+1)=k+1+i by lia];exact M);rw[show k+(i+1)+1=k+1+i+1 by lia]at this;exact this
  refine⟨B,?_,by rw[zaw,show k+(l.length+1)=k+1+l.length by lia];exact h2⟩;show(f x a).bind (kT f l)=some B;rw[F];exact G
theorem y8{l:LT}{k:List Key}{e:D}:(putD l k e).length<=l.length+1:=by
 unfold putD;split <;> simp[-zac,-zab,aA,aB]
def IV(C:Bk)(P:Int->Int->Prop)(p:LT×LT):Prop:=∀j k,P j k->eX p.1 ([.inl j,.inl k]:List Key)=some (.lst ((bG C.rs k 8 j).map tupI))/\eX p.2 ([.inl j,.inl k]:List Key)=some (memD (NX C j k))
theorem PM{C:Bk}(B:OkB C):∃U L2,tM CA gA gT cQ (bF C)=some (.ob CA [("book",bF C),("routes",.dT U),("spans",.dT L2)])/\IV C (λj k=>(0<=j/\j<(C.kinds.length:Int))/\0<=k/\k<(C.kinds.length:Int)) (U,L2):=by
 have k6:=B.k6;have g:gA (bF C)=some (aR 0 1 C.kinds.length):=by
  unfold gA;simp_all[DG,cH (show C.kinds.length<=1000000 by lia)]
 have step:∀(j k:Int) (p:LT×LT),(0<=j/\j<(C.kinds.length:Int))->(0<=k/\k<(C.kinds.length:Int))->p.1.length<=100->p.2.length<=100->lJ gT cQ (bF C) (.int j) (.int k) p=some (putD p.1 ([.inl j,.inl k]:List Key) (.lst ((bG C.rs k 8 j).map tupI)),putD p.2 ([.inl j,.inl k]:List Key) (memD (NX C j k))):=λj k p W hk l1 J=>by
  have w:gT [bF C,.int j,.int k]=some (.lst ((bG C.rs k 8 j).map tupI)):=M1 B.gr 8 j (by lia) (by decide) (by lia);have ws:=CD B W.1 hk.2;unfold lJ;rw[w,aA,show TC (.tup [.int j,.int k])=some ([.inl j,.inl k]:List Key)from rfl,aA,if_pos ⟨decide_eq_true (by lia),decide_eq_true (by lia)⟩,pS,if_pos rfl,aA,ws];rfl
 have inner:∀(j:Nat) (p:LT×LT),j<C.kinds.length->p.1.length<=6*j->p.2.length<=6*j->IV C (λa b=>(0<=a/\a<(j:Int))/\0<=b/\b<(C.kinds.length:Int)) p->∃p',kT (lJ gT cQ (bF C) (.int (j:Int))) (aR 0 1 C.kinds.length) p=some p'/\p'.1.length<=6*(j+1)/\p'.2.length<=6*(j+1)/\IV C (λa b=>(0<=a/\a<((j+1:Nat):Int))/\0<=b/\b<(C.kinds.length:Int)) p':=λj p W l1 J ok=>by
  obtain⟨p',e,a1,a2,N⟩:=nO (f:=lJ gT cQ (bF C) (.int (j:Int))) (λi q=>q.1.length<=6*j+i/\q.2.length<=6*j+i/\IV C (λa b=>((0<=a/\a<(j:Int))/\0<=b/\b<(C.kinds.length:Int))\/(a=(j:Int)/\0<=b/\b<(i:Int))) q) (aR 0 1 C.kinds.length) 0 p ⟨l1,J,λa b h=>by rcases h with h|h;exact ok a b h;lia⟩ (by
   intro i x q hx ⟨M,Y,G⟩;obtain⟨F,rfl⟩:=bZ hx;rw[zaP]at *;rw[show(0:Int)+(i:Int)*1=(i:Int) by lia];have ah:=y8 (l:=q.1) (k:=([.inl (j:Int),.inl (i:Int)]:List Key)) (e:=.lst ((bG C.rs (i:Int) 8 (j:Int)).map tupI));have ad:=y8 (l:=q.2) (k:=([.inl (j:Int),.inl (i:Int)]:List Key)) (e:=memD (NX C (j:Int) (i:Int)));refine⟨_,step (j:Int) (i:Int) q ⟨by lia,by lia⟩ ⟨by lia,by lia⟩ (by lia) (by lia),by simp only;lia,by simp only;lia,λa b h=>?_⟩;simp only[pS];by_cases z:a=(j:Int)/\b=(i:Int)
   ·rw[z.1,z.2,if_pos rfl,if_pos rfl];exact⟨rfl,rfl⟩
   ·have ne:¬ ([.inl a,.inl b]:List Key)=[.inl (j:Int),.inl (i:Int)]:=λq=>z (by simpa using q)
    rw[if_neg ne,if_neg ne];refine G a b ?_;rcases h with h|h
    ·exact .inl h
    ·exact .inr ⟨h.1,h.2.1,by lia⟩)
  rw[bI,zaP]at a1 a2 N;refine⟨p',e,by lia,by lia,λa b h=>N a b ?_⟩;by_cases z:a=(j:Int)
  ·exact .inr ⟨z,h.2⟩
  ·exact .inl ⟨⟨h.1.1,by lia⟩,h.2⟩
 obtain⟨p',e,_,_,ok⟩:=nO (f:=λj p=>(gA (bF C)).bind λks=>kT (lJ gT cQ (bF C) j) ks p) (λi q=>q.1.length<=6*i/\q.2.length<=6*i/\IV C (λa b=>(0<=a/\a<(i:Int))/\0<=b/\b<(C.kinds.length:Int)) q) (aR 0 1 C.kinds.length) 0 ([],[]) ⟨zai _,zai _,λa b h=>by lia⟩ (by
  intro i x q hx ⟨M,Y,G⟩;obtain⟨F,rfl⟩:=bZ hx;rw[zaP]at *;rw[show(0:Int)+(i:Int)*1=(i:Int) by lia];obtain⟨p',e,c1,c2,c3⟩:=inner i q F M Y G;exact⟨p',by rw[g];exact e,c1,c2,c3⟩)
 rw[bI,zaP]at ok;refine⟨p'.1,p'.2,?_,ok⟩;unfold tM;rw[g,aA,<- g,e];rfl
theorem vA{M many:Int}{rs:List Ro}(g:GR M many rs){k:Int}:∀(n:Nat) (x:Int),(bG rs k n x).length<=12^n
 | 0,x=>zaI _
 | n+1,x=>by
  unfold bG;split
  ·exact Nat.pos_of_ne_zero (zbw (Nat.pow_pos (by decide)))
  ·refine zaL (jS (B:=12^n) λi r q=>?_) ?_
   ·split
    ·rw[zal];exact vA g n r.k
    ·exact zaI _
   ·rw[Nat.pow_succ,Nat.mul_comm];exact Nat.mul_le_mul_left _ g.len
noncomputable def TT(m:Nat):Int:=((10000000000^m:Nat):Int)
theorem L5(m n:Nat):TT (m+n)=TT m*TT n:=by unfold TT;rw[Nat.pow_add,Int.natCast_mul]
theorem ON{m n:Nat}(h:m<=n):TT m<=TT n:=Int.ofNat_le.mpr (Nat.pow_le_pow_right (by decide) h)
theorem FX(m:Nat):0<=TT m:=Int.natCast_nonneg _
def LeT(m:Nat)(a:Int):Prop:=0<=a/\a<=TT m
theorem LeT.mul{m n:Nat}{a b:Int}(h:LeT m a)(k:LeT n b):LeT (m+n) (a*b):=⟨zcX h.1 k.1,by rw[L5];exact Int.mul_le_mul h.2 k.2 k.1 (FX m)⟩
theorem LeT.mono{m n:Nat}{a:Int}(h:LeT m a)(k:m<=n):LeT n a:=⟨h.1,zdM h.2 (ON k)⟩
theorem LeT.one:LeT 0 1:=⟨by decide,by unfold TT;exact zdP _⟩
theorem sT{a:Sm}{m:Nat}(h:LeT m (nI a))(q:m<=16):Small a:=λp z=>by
 subst z;have b:=(h.mono q).2;have c:TT 16<10^250:=by decide +kernel
 exact⟨h.1,Int.lt_of_le_of_lt b c⟩
noncomputable def cI:D->Int
 | .int v=>v
 | _=>0
def NI(C:Bk):Pa->D->Int
 | .use1 ..,c=>mpr C (cI c).toNat
 | .use2 ..,c=>mpr C (cI c).toNat
 | _,_=>0
def cE(C:Bk):Pa->eI->Int->D->Int
 | .name x,e,_,_=>e x
 | .num _ j,_,_,_=>j
 | .use1 ..,_,_,c=>dD C (cI c).toNat
 | .use2 ..,_,_,c=>dD C (cI c).toNat
 | .lett ..,_,k,_=>k
 | .pick _ k' ..,_,_,_=>k'
 | .again _ k' ..,_,_,_=>k'
def BE(C:Bk):Pa->Int->D->List Int
 | .use1 ..,_,c=>[aT C (cI c).toNat 0]
 | .use2 ..,_,c=>[aT C (cI c).toNat 0,aT C (cI c).toNat 1]
 | .lett ..,k,c=>[cI c,k]
 | .pick c' k' ..,_,_=>[c',k',k']
 | .again _ k' ..,_,_=>[k',k']
 | _,_,_=>[]
def DH:Pa->D->Int
 | .lett ..,c=>cI c
 | .again _ k' ..,_=>k'
 | _,_=>0
def NZ(p:Pa)(e:eI)(c:D)(i:Nat):eI:=match hid p i with
 | none=>e
 | some x=>eU e x (DH p c)
def JG(p:Pa)(d:List (Key×D))(c:D)(i:Nat):List (Key×D):=match hid p i with
 | none=>d
 | some x=>putD d (.inr x) (.int (DH p c))
abbrev Sb:=Pa×List (Key×D)×eI×Int
def DR(hd:Nat->List (Key×D))(ev:Nat->eI):Nat->List Pa->List Int->List Sb
 | i,q::l,k::ks=>(q,hd i,ev i,k)::DR hd ev (i+1) l ks
 | _,_,_=>[]
def kH(C:Bk)(s:Sb):Sm:=aU C s.1 s.2.2.1 s.2.2.2
def sb(C:Bk)(p:Pa)(d:List (Key×D))(e:eI)(k:Int)(c:D):List Sb:=DR (JG p d c) (NZ p e c) 0 (kids p) (BE C p k c)
def uK(C:Bk)(p:Pa)(d:List (Key×D))(e:eI)(k:Int)(c:D):Sm:=csum C (NI C p c) (cE C p e k c) k ((sb C p d e k c).map (kH C))
theorem wG(C:Bk)(p:Pa)(d:List (Key×D))(e:eI)(k:Int):(bR C p).foldl (λt c=>c8 t (uK C p d e k c)) none=aU C p e k:=by
 cases p with
 | name x=>simp only[bR,aU,zcJ,zdQ];cases h:uK C (.name x) d e k .non <;> exact h.symm
 | num n j=>simp only[bR,aU,zcJ,zdQ];cases h:uK C (.num n j) d e k .non <;> exact h.symm
 | use1 nm p=>simp only[bR,aU,List.foldl_map];rfl
 | use2 nm p q=>simp only[bR,aU,List.foldl_map];rfl
 | lett x p q=>simp only[bR,aU,List.foldl_map];rfl
 | pick c' k' p q r=>simp only[bR,aU,zcJ,zdQ];cases h:uK C (.pick c' k' p q r) d e k .non <;> exact h.symm
 | again n k' x p q=>simp only[bR,aU,zcJ,zdQ];cases h:uK C (.again n k' x p q) d e k .non <;> exact h.symm
theorem iU{hd:Nat->List (Key×D)}{ev:Nat->eI}:∀ {l:List Pa} {ks:List Int} {j i:Nat} {s:Sb},(DR hd ev j l ks)[i]?=some s->∃q k,l[i]?=some q/\ks[i]?=some k/\s=(q,hd (j+i),ev (j+i),k)
 | [],ks,j,i,s,h=>by cases ks <;> simp[-zac,-zab,aA,aB,DR]at h
 | q::l,[],j,i,s,h=>by simp[-zac,-zab,aA,aB,DR]at h
 | q::l,k::ks,j,0,s,h=>by
  have:(q,hd j,ev j,k)=s:=by simpa[DR]using h
  exact⟨q,k,rfl,rfl,this.symm⟩
 | q::l,k::ks,j,i+1,s,h=>by
  obtain⟨z,F,h1,h2,B⟩:=iU (l:=l) (ks:=ks) (j:=j+1) (i:=i) (s:=s) (by simpa[DR]using h);exact⟨z,F,by simpa using h1,by simpa using h2,by rw[B,show j+1+i=j+(i+1) by lia]⟩
theorem wU{hd:Nat->List (Key×D)}{ev:Nat->eI}:∀ {l:List Pa} {ks:List Int} {j:Nat},l.length=ks.length->(DR hd ev j l ks).length=l.length
 | [],ks,j,h=>by cases ks <;> rfl
 | q::l,[],j,h=>by simp[-zac,-zab,aA,aB]at h
 | q::l,k::ks,j,h=>by rw[DR,zaw,zaw,wU (by simpa using h)]
theorem wO{hd:Nat->List (Key×D)}{ev:Nat->eI}:∀(l:List Pa) (ks:List Int) (j:Nat),((DR hd ev j l ks).map λs=>psz s.1).sum<=(l.map psz).sum
 | [],ks,j=>by cases ks <;> simp_all[DR]
 | q::l,[],j=>by simp_all[DR]
 | q::l,k::ks,j=>by
  have:=wO (hd:=hd) (ev:=ev) l ks (j+1);simp only[DR,zak,zbr];lia
theorem E7{C:Bk}{hd:Nat->List (Key×D)}{ev:Nat->eI}:∀(l:List Pa) (ks:List Int) (j:Nat),DO C (λi=>.dK (hd i)) j l ks=(DR hd ev j l ks).map λs=>.tup [d3 C s.1,.dK s.2.1,.int s.2.2.2]
 | [],ks,j=>by cases ks <;> rfl
 | q::l,[],j=>rfl
 | q::l,k::ks,j=>by rw[DO,DR,zak,E7 l ks (j+1)]
theorem xR{C:Bk}{p:Pa}{d:List (Key×D)}{e:eI}{k:Int}{c:D}{s:Sb}(h:s∈sb C p d e k c):s.1∈kids p:=by
 obtain⟨i,hi⟩:=zcb h;obtain⟨q,z,h1,h2,rfl⟩:=iU hi;exact zax h1
theorem sH{C:Bk}:∀(l:List Sb) (i:Nat),(∀s∈l,LeT (psz s.1) (nI (kH C s)))->LeT (l.map λs=>psz s.1).sum (i9 (((l.map (kH C)).take i).map nI))
 | [],i,_=>by simp only[zcA,List.take_nil,i9,List.sum_nil];exact .one
 | s::l,0,h=>by simp only[List.take_zero,zcA,i9];exact LeT.one.mono (zaI _)
 | s::l,i+1,h=>by
  simp only[zak,zcr,i9,zbr];exact(h s (zat ..)).mul (sH l i λt q=>h t (zap _ q))
theorem QH{C:Bk}(B:OkB C)(p:Pa):(bR C p).length<=6:=by
 have z:=B.k6;have q:=B.ml;have u:∀nm n,(nK C nm n).length<=6:=λnm n=>by
  unfold nK;refine zaL (zc0 ..) ?_;rw[zcH];exact q
 cases p <;> simp_all[bR] <;> first|exact u _ _|lia
theorem WN{C:Bk}(B:OkB C)(j k:Int):((bG C.rs k 8 j).length:Int)<=429981696:=Int.ofNat_le.mpr (vA B.gr 8 j)
theorem S5{C:Bk}(B:OkB C){own j k:Int}{l:List Sm}{m:Nat}(h:LeT m (i9 (l.map nI))):0<=nI (csum C own j k l)/\nI (csum C own j k l)<=TT m*429981696:=by
 rw[eO,DV];have e:i9 [((bG C.rs k 8 j).length:Int)]=((bG C.rs k 8 j).length:Int):=by simp_all[i9]
 rw[e];have a:=WN B j k;exact⟨zcX h.1 (by lia),Int.mul_le_mul h.2 a (by lia) (FX m)⟩
theorem MN{q:Type}{f:q->Int}{c:Int}:∀ {l:List q},(∀v∈l,f v<=c)->(l.map f).sum<=(l.length:Int)*c
 | [],_=>by simp[-zac,-zab,aA,aB]
 | a::l,h=>by
  have h1:=h a (zat ..);have h2:=MN (l:=l) λv z=>h v (zap _ z)
  rw[zak,zbr,zaw,Int.natCast_succ,zdN];lia
theorem LX(m:Nat):TT (m+1)=TT m*10000000000:=by rw[L5];rfl
theorem mY{C:Bk}(B:OkB C):∀(n:Nat) (p:Pa),psz p<=n->∀(e:eI) (k:Int),LeT (psz p) (nI (aU C p e k))
 | 0,p,h,_,_=>by have:=dW p;lia
 | n+1,p,h,e,k=>by
  refine⟨cG C p e k,?_⟩;rw[<- wG C p [] e k,iT];have ks:=dW p;have G:=QH B p;have q:∀c∈bR C p,nI (uK C p [] e k c)<=TT ((kids p).map psz).sum*429981696:=λc _=>by
   have a:=sH (C:=C) (sb C p [] e k c) (sb C p [] e k c).length λs hs=>mY B n s.1 (by have:=gU (xR hs);lia) _ _
   rw[zbZ (by rw[zal];exact zai _)]at a;exact(S5 B (a.mono (wO ..))).2
  have:=MN q;rw[<- ks,LX];have z:=FX ((kids p).map psz).sum;generalize TT ((kids p).map psz).sum=T at *;have F:((bR C p).length:Int)*(T*429981696)<=6*(T*429981696):=zep (by lia) (by lia);rw[show nI (none:Sm)=0 from rfl];lia
theorem JN{C:Bk}(B:OkB C){own j k:Int}{l:List Sb}{m:Nat}(z:(l.map λs=>psz s.1).sum+1<=m)(q:m<=16)(i:Nat):LeT m (nI (csum C own j k ((l.map (kH C)).take i)))/\Small (csum C own j k ((l.map (kH C)).take i)):=by
 have a:=S5 B (own:=own) (j:=j) (k:=k) (sH (C:=C) l i λs _=>mY B _ s.1 (zai _) _ _);have b:LeT ((l.map λs=>psz s.1).sum+1) (nI (csum C own j k ((l.map (kH C)).take i))):=⟨a.1,by
  rw[LX];have F:=FX (l.map λs=>psz s.1).sum
  lia⟩
 exact⟨b.mono z,sT (b.mono z) q⟩
def PaOk(C:Bk)(U:List Str):Pa->Prop
 | .name x=>x∈U
 | .num _ j=>0<=j/\j<(C.kinds.length:Int)
 | .use1 _ p=>PaOk C U p
 | .use2 _ p q=>PaOk C U p/\PaOk C U q
 | .lett x p q=>x∈U/\PaOk C U p/\PaOk C U q
 | .pick c k p q r=>(0<=c/\c<(C.kinds.length:Int))/\(0<=k/\k<(C.kinds.length:Int))/\PaOk C U p/\PaOk C U q/\PaOk C U r
 | .again _ k x p q=>(0<=k/\k<(C.kinds.length:Int))/\x∈U/\PaOk C U p/\PaOk C U q
theorem NS{z:Type}{a q:z}{i:Nat}(h:[a][i]?=some q):i=0/\q=a:=by
 cases i with
 | zero=>exact⟨rfl,by simpa using h.symm⟩
 | succ i=>simp[-zac,-zab,aA,aB]at h
theorem uH{z:Type}{a b q:z}{i:Nat}(h:[a,b][i]?=some q):(i=0/\q=a)\/(i=1/\q=b):=by
 cases i with
 | zero=>exact .inl ⟨rfl,by simpa using h.symm⟩
 | succ i=>have:=NS (a:=b) (q:=q) (i:=i) (by simpa using h);exact .inr ⟨by lia,this.2⟩
theorem get3{B:Type}{a b c q:B}{i:Nat}(h:[a,b,c][i]?=some q):(i=0/\q=a)\/(i=1/\q=b)\/(i=2/\q=c):=by
 cases i with
 | zero=>exact .inl ⟨rfl,by simpa using h.symm⟩
 | succ i=>
  rcases uH (a:=b) (b:=c) (q:=q) (i:=i) (by simpa using h)with z|z
  ·exact .inr (.inl ⟨by lia,z.2⟩)
  ·exact .inr (.inr ⟨by lia,z.2⟩)
theorem qC{p q:Pa}{i:Nat}{x:Str}(z:(kids p)[i]?=some q)(hx:x∈aP q)(B:some x≠hid p i):x∈aP p:=by
 cases p with
 | name y=>simp[-zac,-zab,aA,aB,kids]at z
 | num n j=>simp[-zac,-zab,aA,aB,kids]at z
 | use1 nm p=>obtain⟨rfl,rfl⟩:=NS z;simp only[aP,bA];exact .inr ⟨hx,by simp[-zac,-zab,aA,aB]⟩
 | use2 nm p q=>
  simp only[aP,bA];rcases uH z with⟨rfl,rfl⟩|⟨rfl,rfl⟩
  ·exact .inl (.inr ⟨hx,by simp[-zac,-zab,aA,aB]⟩)
  ·exact .inr ⟨hx,by simp[-zac,-zab,aA,aB]⟩
 | lett y p q=>
  simp only[aP,bA];rcases uH z with⟨rfl,rfl⟩|⟨rfl,rfl⟩
  ·exact .inl (.inr ⟨hx,by simp[-zac,-zab,aA,aB]⟩)
  ·exact .inr ⟨hx,B⟩
 | pick c k p q r=>
  simp only[aP,bA];rcases get3 z with⟨rfl,rfl⟩|⟨rfl,rfl⟩|⟨rfl,rfl⟩
  ·exact .inl (.inl (.inr ⟨hx,by simp[-zac,-zab,aA,aB]⟩))
  ·exact .inl (.inr ⟨hx,by simp[-zac,-zab,aA,aB]⟩)
  ·exact .inr ⟨hx,by simp[-zac,-zab,aA,aB]⟩
 | again n k y p q=>
  simp only[aP,bA];rcases uH z with⟨rfl,rfl⟩|⟨rfl,rfl⟩
  ·exact .inl (.inr ⟨hx,by simp[-zac,-zab,aA,aB]⟩)
  ·exact .inr ⟨hx,B⟩
theorem PaOk.kid{C:Bk}{U:List Str}{p q:Pa}(h:PaOk C U p)(z:q∈kids p):PaOk C U q:=by
 cases p with
 | name y=>cases z
 | num n j=>cases z
 | use1 nm p=>rw[List.mem_singleton.mp z];exact h
 | use2 nm p q=>simp[-zac,-zab,aA,aB,kids]at z;rcases z with rfl|rfl;exact h.1;exact h.2
 | lett y p q=>simp[-zac,-zab,aA,aB,kids]at z;rcases z with rfl|rfl;exact h.2.1;exact h.2.2
 | pick c k p q r=>simp[-zac,-zab,aA,aB,kids]at z;rcases z with rfl|rfl|rfl;exact h.2.2.1;exact h.2.2.2.1;exact h.2.2.2.2
 | again n k y p q=>simp[-zac,-zab,aA,aB,kids]at z;rcases z with rfl|rfl;exact h.2.2.1;exact h.2.2.2
theorem PaOk.nms{C:Bk}{U:List Str}:∀ {p:Pa},PaOk C U p->∀x∈aP p,x∈U
 | .name y,h,x,hx=>by rw[List.mem_singleton.mp hx];exact h
 | .num _ _,h,x,hx=>by cases hx
 | .use1 _ p,h,x,hx=>by
  simp[-zac,-zab,aA,aB,aP,bA]at hx;exact PaOk.nms (p:=p) h x hx
 | .use2 _ p q,h,x,hx=>by
  simp[-zac,-zab,aA,aB,aP,bA]at hx;rcases hx with z|z
  ·exact PaOk.nms h.1 x z
  ·exact PaOk.nms h.2 x z
 | .lett _ p q,h,x,hx=>by
  simp[-zac,-zab,aA,aB,aP,bA]at hx;rcases hx with z|z
  ·exact PaOk.nms h.2.1 x z
  ·exact PaOk.nms h.2.2 x z.1
 | .pick _ _ p q r,h,x,hx=>by
  simp[-zac,-zab,aA,aB,aP,bA]at hx;rcases hx with(z|z)|z
  ·exact PaOk.nms h.2.2.1 x z
  ·exact PaOk.nms h.2.2.2.1 x z
  ·exact PaOk.nms h.2.2.2.2 x z
 | .again _ _ _ p q,h,x,hx=>by
  simp[-zac,-zab,aA,aB,aP,bA]at hx;rcases hx with z|z
  ·exact PaOk.nms h.2.2.1 x z
  ·exact PaOk.nms h.2.2.2 x z.1
theorem cP{h:Option Str}{a l:List Str}(B:a.Nodup)(q:l.Nodup):(fB h a l).Nodup:=by
 unfold fB;refine List.nodup_append.mpr ⟨B,q.filter _,λx hx y z e=>?_⟩;have:=(List.mem_filter.mp z).2;subst e;simp[-zac,-zab,aA,aB,hx]at this
theorem cW:∀p:Pa,(aP p).Nodup
 | .name y=>by simp_all[aP]
 | .num _ _=>by simp_all[aP]
 | .use1 _ p=>cP .nil (cW p)
 | .use2 _ p q=>cP (cP .nil (cW p)) (cW q)
 | .lett _ p q=>cP (cP .nil (cW p)) (cW q)
 | .pick _ _ p q r=>cP (cP (cP .nil (cW p)) (cW q)) (cW r)
 | .again _ _ _ p q=>cP (cP .nil (cW p)) (cW q)
theorem PaOk.n8{C:Bk}{U:List Str}{p:Pa}(h:PaOk C U p)(q:U.length<=8):(aP p).length<=8:=zaL (rJ (cW p) h.nms) q
theorem fL{C:Bk}{nm:Str}{n:Nat}{c:D}(h:c∈(nK C nm n).map λ(v:Nat)=>D.int (v:Int)):∃(v:Nat) (m:Mk),c=.int (v:Int)/\C.makes[v]?=some m/\m.nm=nm/\m.takes.length=n:=by
 obtain⟨v,q,rfl⟩:=List.mem_map.mp h;have:=(List.mem_filter.mp q).2;cases e:C.makes[v]? with
 | none=>rw[e]at this;cases this
 | some m=>
  rw[e]at this;simp[-zac,-zab,aA,aB]at this;exact⟨v,m,rfl,e,this.1,this.2⟩
theorem sX{C:Bk}{c:D}(h:c∈(zar C.kinds.length).map λ(v:Nat)=>D.int (v:Int)):∃v:Nat,c=.int (v:Int)/\v<C.kinds.length:=by
 obtain⟨v,q,rfl⟩:=List.mem_map.mp h;exact⟨v,rfl,List.mem_range.mp q⟩
theorem dA(v:Nat):(cI (.int (v:Int))).toNat=v:=zbB v
structure PI'(C:Bk)(U:List Str)(p:Pa)(d:List (Key×D))(e:eI)(k:Int):Prop where
 ok:PaOk C U p
 k0:0<=k
 k1:k<(C.kinds.length:Int)
 hd:∀x∈aP p,eX d (.inr x:Key)=some (.int (e x))
 he:∀x∈aP p,0<=e x/\e x<(C.kinds.length:Int)
 dl:d.length+psz p<=1000
theorem C3{C:Bk}{v:Nat}{m:Mk}(h:C.makes[v]?=some m)(l:m.takes.length=1):m.takes=[aT C v 0]:=by
 rw[eL h];obtain⟨a,e⟩:∃a,m.takes=[a]:=List.length_eq_one_iff.mp l;rw[e];rfl
theorem C2{C:Bk}{v:Nat}{m:Mk}(h:C.makes[v]?=some m)(l:m.takes.length=2):m.takes=[aT C v 0,aT C v 1]:=by
 rw[eL h,eL h]
 match e:m.takes,l with
 | [a,b],_=>rfl
theorem GE{C:Bk}(B:OkB C){U:List Str}{p:Pa}{k:Int}{c:D}(h:PaOk C U p)(k0:0<=k)(k1:k<(C.kinds.length:Int))(J:c∈bR C p):(BE C p k c).length=(kids p).length/\∀j∈BE C p k c,0<=j/\j<(C.kinds.length:Int):=by
 cases p with
 | name y=>exact⟨rfl,λ_ h=>nomatch h⟩
 | num n j=>exact⟨rfl,λ_ h=>nomatch h⟩
 | use1 nm p=>
  obtain⟨v,m,rfl,F,_,G⟩:=fL J;refine⟨rfl,?_⟩;have t:=C3 F G;simp only[BE,dA];rw[<- t];exact B.tb m (zax F)
 | use2 nm p q=>
  obtain⟨v,m,rfl,F,_,G⟩:=fL J;refine⟨rfl,?_⟩;have t:=C2 F G;simp only[BE,dA];rw[<- t];exact B.tb m (zax F)
 | lett y p q=>
  obtain⟨v,rfl,M⟩:=sX J;refine⟨rfl,λj z=>?_⟩;simp[-zac,-zab,aA,aB,BE,cI]at z
  lia
 | pick c' k' p q r=>
  refine⟨rfl,λj z=>?_⟩;simp[-zac,-zab,aA,aB,BE]at z;rcases z with rfl|rfl
  ·exact h.1
  ·exact h.2.1
 | again n k' y p q=>
  refine⟨rfl,λj z=>?_⟩;simp[-zac,-zab,aA,aB,BE]at z;rw[z];exact h.1
theorem T5{C:Bk}{U:List Str}{p:Pa}{c:D}{i:Nat}{x:Str}(h:PaOk C U p)(z:c∈bR C p)(q:hid p i=some x):0<=DH p c/\DH p c<(C.kinds.length:Int):=by
 unfold hid at q;split at q
 ·obtain⟨v,rfl,B⟩:=sX z
  simp only[DH,cI];lia
 ·exact h.1
 ·cases q
theorem PI'.kid{C:Bk}(B:OkB C){U:List Str}{p:Pa}{d:List (Key×D)}{e:eI}{k:Int}{c:D}(h:PI' C U p d e k)(W:c∈bR C p){i:Nat}{q:Pa}{J:Int}(N:(kids p)[i]?=some q)(Y:(BE C p k c)[i]?=some J):PI' C U q (JG p d c i) (NZ p e c i) J:=by
 have M:=zax N;have sz:=gU M;have G:=(GE B h.ok h.k0 h.k1 W).2 J (zax Y);have dl:=h.dl;unfold JG NZ;cases e1:hid p i with
 | none=>
  have F:∀x∈aP q,x∈aP p:=λx hx=>qC N hx (by rw[e1];simp[-zac,-zab,aA,aB])
  exact⟨h.ok.kid M,G.1,G.2,λx hx=>h.hd x (F x hx),λx hx=>h.he x (F x hx),by simp only;lia⟩
 | some y=>
  have F:∀x∈aP q,¬ x=y->x∈aP p:=λx hx n=>qC N hx (by rw[e1];intro z;injection z with z;exact n z)
  have br:=T5 h.ok W e1;refine⟨h.ok.kid M,G.1,G.2,λx hx=>?_,λx hx=>?_,?_⟩
  ·simp only[pS,eU]
   by_cases z:x=y
   ·rw[if_pos (by rw[z]),if_pos z]
   ·rw[if_neg (λw=>z (by injection w)),if_neg z];exact h.hd x (F x hx z)
  ·simp only[eU]
   by_cases z:x=y
   ·rw[if_pos z];exact br
   ·rw[if_neg z];exact h.he x (F x hx z)
  ·have:=sC (d:=d) (k:=.inr y) (e:=.int (DH p c))
   simp only;lia
theorem OE{C:Bk}{p:Pa}{d:List (Key×D)}{c:D}(q:d.length<=1000)(z:c∈bR C p)(i:Nat):dC [.dK d,bK p,.int (i:Int),c]=some (.dK (JG p d c i)):=by
 have w:=yV p i;cases e1:hid p i with
 | none=>
  rw[e1]at w;rw[B4 w];unfold JG;rw[e1]
 | some y=>
  unfold JG;rw[e1];unfold hid at e1;split at e1
  ·cases e1
   obtain⟨v,rfl,B⟩:=sX z;exact HW q
  ·cases e1
   exact yD q
  ·cases e1
theorem SN{C:Bk}{U:List Str}{p:Pa}{d:List (Key×D)}{e:eI}{k:Int}{c:D}(h:PI' C U p d e k)(B:c∈bR C p):bN [bF C,.dK d,bK p,.int k,c]=some (.int (cE C p e k c)):=by
 cases p with
 | name x=>exact BV (h.hd x (List.mem_singleton.mpr rfl))
 | num n j=>exact GK
 | use1 nm p=>
  obtain⟨v,m,rfl,z,_,_⟩:=fL B;rw[CK z];simp only[cE,dA,dX z]
 | use2 nm p q=>
  obtain⟨v,m,rfl,z,_,_⟩:=fL B;rw[BH z];simp only[cE,dA,dX z]
 | lett y p q=>exact G0
 | pick c' k' p q r=>exact BF
 | again n k' y p q=>exact yC
theorem qaf{C:Bk}{p:Pa}{k:Int}{c:D}(F:c∈bR C p):bS [bF C,bK p,.int k,c]=some (tupI (BE C p k c)):=by
 cases p with
 | name x=>exact HK
 | num n j=>exact JP
 | use1 nm p=>
  obtain⟨v,m,rfl,z,_,B⟩:=fL F;rw[GU z,C3 z B];simp only[BE,dA]
 | use2 nm p q=>
  obtain⟨v,m,rfl,z,_,B⟩:=fL F;rw[IC z,C2 z B];simp only[BE,dA]
 | lett y p q=>
  obtain⟨v,rfl,G⟩:=sX F;exact JM
 | pick c' k' p q r=>exact HS
 | again n k' y p q=>exact CI
theorem xK{C:Bk}(B:OkB C){U:List Str}{p:Pa}{d:List (Key×D)}{e:eI}{k:Int}{c:D}(h:PI' C U p d e k)(F:c∈bR C p):0<=cE C p e k c/\cE C p e k c<(C.kinds.length:Int):=by
 cases p with
 | name x=>exact h.he x (List.mem_singleton.mpr rfl)
 | num n j=>exact h.ok
 | use1 nm p=>
  obtain⟨v,m,rfl,z,_,_⟩:=fL F;simp only[cE,dA,dX z];exact B.gb m (zax z)
 | use2 nm p q=>
  obtain⟨v,m,rfl,z,_,_⟩:=fL F;simp only[cE,dA,dX z];exact B.gb m (zax z)
 | lett y p q=>exact⟨h.k0,h.k1⟩
 | pick c' k' p q r=>exact h.ok.2.1
 | again n k' y p q=>exact h.ok.1
def AtD(C:Bk)(at_:D):Prop:=∃q L2,at_=.ob CA [("book",bF C),("routes",.dT q),("spans",.dT L2)]/\IV C (λj k=>(0<=j/\j<(C.kinds.length:Int))/\0<=k/\k<(C.kinds.length:Int)) (q,L2)
theorem AtD.book{C:Bk}{at_:D}(h:AtD C at_):x9 CA "book" at_=some (bF C):=by
 obtain⟨q,L2,rfl,_⟩:=h;rfl
theorem SR{C:Bk}(B:OkB C){U:List Str}{at_:D}(A:AtD C at_){p:Pa}{d:List (Key×D)}{e:eI}{k:Int}{c:D}(h:PI' C U p d e k)(q:c∈bR C p):kK [at_,d3 C p,.dK d,.int k,c]=some (.lst ((sb C p d e k c).map λs=>.tup [d3 C s.1,.dK s.2.1,.int s.2.2.2])):=by
 have z:=h.dl;rw[Q2 (hd:=λi=>.dK (JG p d c i)) A.book (qaf q) (by rw[(GE B h.ok h.k0 h.k1 q).1];exact zai _) λi _=>OE (by lia) q i];rw[E7 (ev:=NZ p e c)];rfl
theorem VE{C:Bk}{p:Pa}{c:D}(B:c∈bR C p):S6 C p c (NI C p c):=by
 cases p with
 | name x=>exact .inr ⟨tT,rfl⟩
 | num n j=>exact .inr ⟨nT,rfl⟩
 | use1 nm p=>
  obtain⟨v,m,rfl,z,_,_⟩:=fL B;exact .inl ⟨rfl,v,m,rfl,z,by simp only[NI,dA,mpr,z];rfl⟩
 | use2 nm p q=>
  obtain⟨v,m,rfl,z,_,_⟩:=fL B;exact .inl ⟨rfl,v,m,rfl,z,by simp only[NI,dA,mpr,z];rfl⟩
 | lett y p q=>exact .inr ⟨nU,rfl⟩
 | pick c' k' p q r=>exact .inr ⟨nZ,rfl⟩
 | again n k' y p q=>exact .inr ⟨nW,rfl⟩
theorem TU{C:Bk}{p:Pa}{d:List (Key×D)}{e:eI}{k:Int}{c:D}:((sb C p d e k c).map λs=>psz s.1).sum+1<=psz p:=by
 have a:=wO (hd:=JG p d c) (ev:=NZ p e c) (kids p) (BE C p k c) 0;have b:=dW p;unfold sb;lia
theorem M5{C:Bk}(B:OkB C){U:List Str}{at_:D}(A:AtD C at_){p:Pa}{d:List (Key×D)}{e:eI}{k:Int}{c:D}{R:List D->Option D}(h:PI' C U p d e k)(z:c∈bR C p)(sz:psz p<=16)(M:∀s∈sb C p d e k c,PI' C U s.1 s.2.1 s.2.2.1 s.2.2.2->psz s.1<psz p->R [at_,d3 C s.1,.dK s.2.1,.int s.2.2.2]=some (memD (kH C s))) :
  bJ 10 (cJ R) [at_,d3 C p,.dK d,.int k,c]=some (memD (uK C p d e k c)):=by
 have N:=xK B h z;have hs:=SR B A h z;have bk:=A.book;have ss:=TU (C:=C) (p:=p) (d:=d) (e:=e) (k:=k) (c:=c);obtain⟨W,L2,rfl,ok⟩:=A;have G:∀s∈sb C p d e k c,PI' C U s.1 s.2.1 s.2.2.1 s.2.2.2/\psz s.1<psz p:=λs hs=>by
  obtain⟨i,hi⟩:=zcb hs;have J:=gU (xR hs);obtain⟨q,Y,h1,h2,rfl⟩:=iU hi;rw[zaP];exact⟨h.kid B z h1 h2,J⟩
 have:=wA (C:=C) (p:=p) (d:=d) (k:=k) (j:=cE C p e k c) (own:=NI C p c) (c:=c) (R:=R) (L2:=L2) (Rs:=(sb C p d e k c).map λs=>(d3 C s.1,.dK s.2.1,.int s.2.2.2,kH C s)) bk rfl (ok _ _ ⟨N,h.k0,h.k1⟩).2 (VE z) (SN h z) (by rw[hs,zav];rfl)
  (λr F => by
   obtain⟨s,hs,rfl⟩:=List.mem_map.mp F;exact M s hs (G s hs).1 (G s hs).2) (sT (m:=1) ⟨by rw[C5];lia,by rw[C5];exact zdM (WN B _ _) (by decide)⟩ (by decide)) (λr F=>by
   obtain⟨s,hs,rfl⟩:=List.mem_map.mp F;exact sT (mY B _ s.1 (zai _) _ _) (by have:=(G s hs).2;lia)) λi=>by
   rw[zav];exact(JN B ss sz i).2
 rw[this,zav];rfl
theorem GC{C:Bk}(B:OkB C){U:List Str}(q:U.length<=8){at_:D}(A:AtD C at_):∀(n:Nat) (p:Pa) (d:List (Key×D)) (e:eI) (k:Int),psz p<=n->psz p<=16->PI' C U p d e k->i8 7 hJ n [at_,d3 C p,.dK d,.int k]=some (memD (aU C p e k))
 | 0,p,d,e,k,h,_,_=>by have:=dW p;lia
 | n+1,p,d,e,k,h,h16,I=>by
  show bJ 7 (hJ (i8 7 hJ n)) _=_;exact BN B A.book ⟨I.k0,I.k1⟩ I.hd I.he (I.ok.n8 q) (f:=uK C p d e k) (λc F=>M5 B A I F h16 λs _ z G=>GC B q A n s.1 s.2.1 s.2.2.1 s.2.2.2 (by lia) (by lia) z) (wG C p d e k)
def bY:Rg->List Rg
 | .use1 _ _ p _=>[p]
 | .use2 _ _ p q _=>[p,q]
 | .lett _ _ p q=>[p,q]
 | .pick _ _ p q r _=>[p,q,r]
 | .again _ _ _ p q _=>[p,q]
 | _=>[]
theorem wW(g:Rg):kids (pa g)=(bY g).map pa:=by cases g <;> rfl
theorem RJ(g:Rg):ir g=(bY g).map rd:=by cases g <;> rfl
theorem w6{g q:Rg}(h:q∈bY g):size q<size g:=by
 rw[<- cC,<- cC];exact gU (by rw[wW];exact List.mem_map.mpr ⟨q,h,rfl⟩)
def IW(l:List D)(c:D)(f:D->Sm):Int:=((l.filter λu=>decide (cI u<cI c)).map λu=>nI (f u)).sum
def fK(C:Bk):List Rg->List Sb->List (Int×Int)
 | g::l,s::m=>(aW C g s.2.2.1 s.2.2.2,nI (kH C s))::fK C l m
 | _,_=>[]
theorem xA(l:List Nat)(v:Nat){j:Int}(q:j.toNat=v)(f:D->Sm):IW (l.map λ(v:Nat)=>D.int (v:Int)) (.int j) f=uI l v λu=>f (.int (u:Int)):=by
 unfold IW uI;rw[List.filter_map,zav];have:((λu=>decide (cI u<cI (.int j))) ∘ λ(v:Nat)=>D.int (v:Int))=λu:Nat=>decide (u<v):=by
  funext u;show decide ((u:Int)<j)=decide (u<v);congr 1;exact propext ⟨λh=>by lia,λh=>by lia⟩
 rw[this];rfl
theorem pV(f:D->Sm):IW [.non] .non f=0:=rfl
theorem pW(C:Bk)(g:Rg)(d:List (Key×D))(e:eI)(k:Int):aW C g e k=IW (bR C (pa g)) (ch g) (uK C (pa g) d e k)+aX 0 (fK C (bY g) (sb C (pa g) d e k (ch g))++[fS C (cE C (pa g) e k (ch g)) k (wy g)]):=by
 cases g with
 | name x j w=>simp only[bR,pa,ch,pV,zbk];rfl
 | num n j w=>simp only[bR,pa,ch,pV,zbk];rfl
 | use1 v nm p w=>simp only[bR,pa,ch,xA _ v (zbB v)];rfl
 | use2 v nm p q w=>simp only[bR,pa,ch,xA _ v (zbB v)];rfl
 | lett x j p q=>simp only[bR,pa,ch,xA _ j.toNat rfl];rfl
 | pick c k' p q r w=>simp only[bR,pa,ch,pV,zbk];rfl
 | again n k' x p q w=>simp only[bR,pa,ch,pV,zbk];rfl
structure WI(C:Bk)(U:List Str)(kn:List (Str×Int))(g:Rg)(d:List (Key×D))(e:eI)(k:Int):Prop where
 wf:WF C kn g k
 nf:NF U (kn.map (·.1)) g
 ok:OkN C kn
 ec:EC e kn
 cd:Cons d kn
 un:∀p∈kn,p.1∈U
 dl:d.length+size g<=1000
theorem t7{C:Bk}(B:OkB C){U:List Str}:∀ {g:Rg} {kn:List (Str×Int)} {N:List Str} {k:Int},WF C kn g k->NF U N g->OkN C kn->(∀p∈kn,p.1∈U)->PaOk C U (pa g)
 | .name x j w,kn,N,k,W,_,_,hu=>hu _ W.1
 | .num n j w,kn,N,k,W,_,_,_=>W.2.1
 | .use1 v nm p w,kn,N,k,⟨m,t,a,b,c,d,f⟩,F,K,hu=>t7 B (g:=p) d F K hu
 | .use2 v nm p q w,kn,N,k,⟨m,t,u,a,b,c,d,d2,f⟩,F,K,hu=>⟨t7 B (g:=p) d F.1 K hu,t7 B (g:=q) d2 F.2 K hu⟩
 | .lett x j p q,kn,N,k,⟨a,b⟩,F,K,hu=>⟨F.2.1.2,t7 B (g:=p) a F.1 K hu,t7 B (g:=q) b F.2.2 (K.cons (a.short B K).2.1 (a.short B K).2.2) λp G=>by
   rcases List.mem_cons.mp G with z|z
   ·rw[z];exact F.2.1.2
   ·exact hu p z⟩
 | .pick c k' p q r w,kn,N,k,⟨a,b,c1,c2,c3,d⟩,F,K,hu=>⟨a,b,t7 B (g:=p) c1 F.1 K hu,t7 B (g:=q) c2 F.2.1 K hu,t7 B (g:=r) c3 F.2.2 K hu⟩
 | .again n k' x p q w,kn,N,k,⟨a,b,c1,c2,d⟩,F,K,hu=>⟨b,F.2.1.2,t7 B (g:=p) c1 F.1 K hu,t7 B (g:=q) c2 F.2.2 (K.cons b.1 b.2) λp G=>by
   rcases List.mem_cons.mp G with z|z
   ·rw[z];exact F.2.1.2
   ·exact hu p z⟩
theorem fA{C:Bk}:∀ {g:Rg} {kn:List (Str×Int)} {k:Int},WF C kn g k->∀x∈aP (pa g),∃j,(x,j)∈kn
 | .name x j w,kn,k,W,y,hy=>⟨j,by rw[List.mem_singleton.mp hy];exact W.1⟩
 | .num n j w,kn,k,W,y,hy=>by cases hy
 | .use1 v nm p w,kn,k,⟨m,t,a,b,c,d,f⟩,y,hy=>by
  simp[-zac,-zab,aA,aB,pa,aP,bA]at hy;exact fA (g:=p) d y hy
 | .use2 v nm p q w,kn,k,⟨m,t,u,a,b,c,d,d2,f⟩,y,hy=>by
  simp[-zac,-zab,aA,aB,pa,aP,bA]at hy;rcases hy with z|z
  ·exact fA d y z
  ·exact fA d2 y z
 | .lett x j p q,kn,k,⟨a,b⟩,y,hy=>by
  simp[-zac,-zab,aA,aB,pa,aP,bA]at hy;rcases hy with z|z
  ·exact fA a y z
  ·obtain⟨i,hi⟩:=fA b y z.1
   rcases List.mem_cons.mp hi with w|w
   ·injection w with w1 w2;exact absurd w1 z.2
   ·exact⟨i,w⟩
 | .pick c k' p q r w,kn,k,⟨a,b,c1,c2,c3,d⟩,y,hy=>by
  simp[-zac,-zab,aA,aB,pa,aP,bA]at hy;rcases hy with(z|z)|z
  ·exact fA c1 y z
  ·exact fA c2 y z
  ·exact fA c3 y z
 | .again n k' x p q w,kn,k,⟨a,b,c1,c2,d⟩,y,hy=>by
  simp[-zac,-zab,aA,aB,pa,aP,bA]at hy;rcases hy with z|z
  ·exact fA c1 y z
  ·obtain⟨i,hi⟩:=fA c2 y z.1
   rcases List.mem_cons.mp hi with w|w
   ·injection w with w1 w2;exact absurd w1 z.2
   ·exact⟨i,w⟩
theorem WI.pi{C:Bk}(B:OkB C){U:List Str}{kn:List (Str×Int)}{g:Rg}{d:List (Key×D)}{e:eI}{k:Int}(h:WI C U kn g d e k):PI' C U (pa g) d e k:=by
 have s:=WF.short B h.ok h.wf;refine⟨t7 B h.wf h.nf h.ok h.un,s.2.1,s.2.2,λx hx=>?_,λx hx=>?_,by rw[cC];exact h.dl⟩
 ·obtain⟨j,q⟩:=fA h.wf x hx
  rw[show e x=j from h.ec _ q];exact h.cd _ q
 ·obtain⟨j,q⟩:=fA h.wf x hx
  rw[show e x=j from h.ec _ q];exact h.ok _ q
theorem nX{C:Bk}(B:OkB C){kn:List (Str×Int)}{g:Rg}{k:Int}(K:OkN C kn)(W:WF C kn g k):ch g∈bR C (pa g):=by
 cases g with
 | name x j w=>exact List.mem_singleton.mpr rfl
 | num n j w=>exact List.mem_singleton.mpr rfl
 | use1 v nm p w=>
  obtain⟨m,t,a,rfl,c,d,f⟩:=W;exact List.mem_map.mpr ⟨v,mM a (by rw[c];rfl),rfl⟩
 | use2 v nm p q w=>
  obtain⟨m,t,u,a,rfl,c,d,f⟩:=W;exact List.mem_map.mpr ⟨v,mM a (by rw[c];rfl),rfl⟩
 | lett x j p q=>
  have s:=WF.short B K W.1;refine List.mem_map.mpr ⟨j.toNat,List.mem_range.mpr (by lia),?_⟩;show D.int ((j.toNat:Nat):Int)=.int j;congr 1;lia
 | pick c k' p q r w=>exact List.mem_singleton.mpr rfl
 | again n k' x p q w=>exact List.mem_singleton.mpr rfl
theorem xV{C:Bk}{kn:List (Str×Int)}{g:Rg}{e:eI}{k:Int}(E:EC e kn)(W:WF C kn g k):gw C.rs (cE C (pa g) e k (ch g)) (wy g)=some k:=by
 cases g with
 | name x j w=>show gw C.rs (e x) w=_;rw[E _ W.1];exact W.2
 | num n j w=>exact W.2.2
 | use1 v nm p w=>
  obtain⟨m,t,a,rfl,c,d,f⟩:=W;simp only[pa,ch,cE,dA,dX a];exact f
 | use2 v nm p q w=>
  obtain⟨m,t,u,a,rfl,c,d,z,f⟩:=W;simp only[pa,ch,cE,dA,dX a];exact f
 | lett x j p q=>rfl
 | pick c k' p q r w=>exact W.2.2.2.2.2
 | again n k' x p q w=>exact W.2.2.2.2
theorem WI.kid{C:Bk}(B:OkB C){U:List Str}{kn:List (Str×Int)}{g:Rg}{d:List (Key×D)}{e:eI}{k:Int}(h:WI C U kn g d e k){i:Nat}{q:Rg}{G:Int}(Y:(bY g)[i]?=some q)(M:(BE C (pa g) k (ch g))[i]?=some G):∃ac,WI C U ac q (JG (pa g) d (ch g) i) (NZ (pa g) e (ch g) i) G:=by
 have sz:=w6 (zax Y);obtain⟨W,F,K,E,N,un,dl⟩:=h;have put:∀ {x:Str} {j:Int} {q:Rg} {G:Int},size q<size g->WF C ((x,j)::kn) q G->0<=j/\j<(C.kinds.length:Int)->x∉kn.map (·.1)/\x∈U->NF U (x::kn.map (·.1)) q->WI C U ((x,j)::kn) q (putD d (.inr x) (.int j)) (eU e x j) G:=λ{x j q G} sz w hj hx f=>⟨w,f,K.cons hj.1 hj.2,E.put hx.1,N.put hx.1,λp hp=>by
   rcases List.mem_cons.mp hp with z|z
   ·rw[z];exact hx.2
   ·exact un p z,by have:=sC (d:=d) (k:=.inr x) (e:=.int j);lia⟩
 cases g with
 | name x j w=>simp[-zac,-zab,aA,aB,bY]at Y
 | num n j w=>simp[-zac,-zab,aA,aB,bY]at Y
 | use1 v nm p w=>
  obtain⟨m,t,a,rfl,c,wp,f⟩:=W;obtain⟨rfl,rfl⟩:=NS Y;have J:G=aT C (cI (.int (v:Int))).toNat 0:=(NS M).2;rw[dA,eL a,c]at J;subst J;exact⟨kn,wp,F,K,E,N,un,by show d.length+_<=_;lia⟩
 | use2 v nm p q w=>
  obtain⟨m,t,u,a,rfl,c,wp,wq,f⟩:=W;rcases uH Y with⟨rfl,rfl⟩|⟨rfl,rfl⟩
  ·have J:G=aT C (cI (.int (v:Int))).toNat 0:=(zaz (show some (aT C (cI (.int (v:Int))).toNat 0)=some G from M)).symm
   rw[dA,eL a,c]at J;subst J;exact⟨kn,wp,F.1,K,E,N,un,by show d.length+_<=_;lia⟩
  ·have J:G=aT C (cI (.int (v:Int))).toNat 1:=(zaz (show some (aT C (cI (.int (v:Int))).toNat 1)=some G from M)).symm
   rw[dA,eL a,c]at J;subst J;exact⟨kn,wq,F.2,K,E,N,un,by show d.length+_<=_;lia⟩
 | lett x j p q=>
  have s:=WF.short B K W.1;rcases uH Y with⟨rfl,rfl⟩|⟨rfl,rfl⟩
  ·have J:G=j:=(zaz (show some (j)=some G from M)).symm
   subst J;exact⟨kn,W.1,F.1,K,E,N,un,by show d.length+_<=_;lia⟩
  ·have J:G=k:=(zaz (show some (k)=some G from M)).symm
   subst J;exact⟨_,put sz W.2 s.2 F.2.1 F.2.2⟩
 | pick c k' p q r w=>
  obtain⟨a,b,wp,wq,wr,f⟩:=W;rcases get3 Y with⟨rfl,rfl⟩|⟨rfl,rfl⟩|⟨rfl,rfl⟩
  ·have J:G=c:=(zaz (show some (c)=some G from M)).symm
   subst J;exact⟨kn,wp,F.1,K,E,N,un,by show d.length+_<=_;lia⟩
  ·have J:G=k':=(zaz (show some (k')=some G from M)).symm
   subst J;exact⟨kn,wq,F.2.1,K,E,N,un,by show d.length+_<=_;lia⟩
  ·have J:G=k':=(zaz (show some (k')=some G from M)).symm
   subst J;exact⟨kn,wr,F.2.2,K,E,N,un,by show d.length+_<=_;lia⟩
 | again n k' x p q w=>
  obtain⟨a,b,wp,wq,f⟩:=W;rcases uH Y with⟨rfl,rfl⟩|⟨rfl,rfl⟩
  ·have J:G=k':=(zaz (show some (k')=some G from M)).symm
   subst J;exact⟨kn,wp,F.1,K,E,N,un,by show d.length+_<=_;lia⟩
  ·have J:G=k':=(zaz (show some (k')=some G from M)).symm
   subst J;exact⟨_,put sz wq b F.2.1 F.2.2⟩
theorem EJ{g:Gv}{b:Sv}{d:D}:∀ {items:List D} {ρ:cU} (t:Nat) (I:Nat->cU->Prop),I 0 ρ->t<items.length->(∀i x ρ,i<t->items[i]?=some x->I i ρ->∃ρ',turn g b x ρ=some (.nx ρ')/\I (i+1) ρ')->(∀x ρ,items[t]?=some x->I t ρ->turn g b x ρ=some (.rt d))->kG g b items ρ=some (.rt d)
 | [],ρ,t,I,_,h,_,_=>by simp[-zac,-zab,aA,aB]at h
 | x::l,ρ,0,I,h0,_,_,h2=>by
  have B:=h2 x ρ rfl h0;unfold turn at B;obtain⟨q,F,G⟩:=bind_some B;unfold kG;rw[F];show(b q).bind _=_;rw[G];rfl
 | x::l,ρ,t+1,I,h0,hl,h1,h2=>by
  obtain⟨ρ',B,z⟩:=h1 0 x ρ (by lia) rfl h0;have ih:=EJ (items:=l) (ρ:=ρ') t (λi=>I (i+1)) z (by simpa using hl) (λi y ρ hi J z=>h1 (i+1) y ρ (by lia) (by simpa using J) z) λy ρ J z=>h2 y ρ (by simpa using J) z
  unfold turn at B;obtain⟨q,F,G⟩:=bind_some B;unfold kG;rw[F];show(b q).bind _=_;rw[G];exact ih
theorem u7:∀ {l:List D} {t:Nat} {c:D},l.Pairwise (λa b=>cI a<cI b)->l[t]?=some c->l.filter (λu=>decide (cI u<cI c))=l.take t
 | [],t,c,_,h=>by simp[-zac,-zab,aA,aB]at h
 | a::l,0,c,hl,h=>by
  have:a=c:=by simpa using h
  subst this;rw[List.take_zero,List.filter_eq_nil_iff];intro u B;rcases List.mem_cons.mp B with z|z
  ·rw[z];simp[-zac,-zab,aA,aB]
  ·have:=(List.pairwise_cons.mp hl).1 u z;simp[-zac,-zab,aA,aB];lia
 | a::l,t+1,c,hl,h=>by
  have q:l[t]?=some c:=by simpa using h
  have:=(List.pairwise_cons.mp hl).1 c (zax q);rw[zcB,if_pos (by simpa using this),zcr,u7 (List.pairwise_cons.mp hl).2 q]
theorem jQ{l:List Nat}(h:l.Pairwise (·<·)):(l.map λ(v:Nat)=>D.int (v:Int)).Pairwise λa b=>cI a<cI b:=by
 rw[zel];exact h.imp λ{a b} h=>by show(a:Int)<(b:Int);lia
theorem rX(C:Bk)(p:Pa):(bR C p).Pairwise λa b=>cI a<cI b:=by
 cases p with
 | use1 nm p=>exact jQ (gG ..)
 | use2 nm p q=>exact jQ (gG ..)
 | lett x p q=>exact jQ (iB _)
 | _=>exact List.pairwise_singleton ..
def cY(l:List D)(f:D->Sm)(i:Nat):Int:=((l.take i).map λu=>nI (f u)).sum
theorem jT{l:List D}{f:D->Sm}{i:Nat}{c:D}(h:l[i]?=some c):cY l f (i+1)=cY l f i+nI (f c):=by
 unfold cY;rw[zc4,h,zaJ,List.sum_append];simp[-zac,-zab,aA,aB]
theorem mQ{l:List D}{f:D->Sm}(q:∀c,0<=nI (f c)){i:Nat}:∀ {j:Nat},i<=j->cY l f i<=cY l f j
 | 0,h=>by rw[show i=0 by lia];exact zdP _
 | j+1,h=>by
  by_cases e:i=j+1
  ·rw[e];exact zdP _
  ·have ih:=mQ q (l:=l) (i:=i) (j:=j) (by lia)
   cases hc:l[j]? with
   | some c=>have:=jT (f:=f) hc;have:=q c;lia
   | none=>
    have:l.length<=j:=List.getElem?_eq_none_iff.mp hc;have e:cY l f (j+1)=cY l f j:=by unfold cY;rw[zbZ (by lia),zbZ this]
    lia
theorem CQ(C:Bk)(p:Pa)(d:List (Key×D))(e:eI)(k:Int)(c:D):0<=nI (uK C p d e k c):=eN _ _ _ _ λx hx=>by
 rw[zav]at hx;obtain⟨s,_,rfl⟩:=List.mem_map.mp hx;exact cG ..
theorem qE{C:Bk}{p:Pa}{t:Nat}{c:D}{f:D->Sm}(h:(bR C p)[t]?=some c):IW (bR C p) c f=cY (bR C p) f t:=by
 unfold IW cY;rw[u7 (rX C p) h]
theorem PZ(C:Bk)(p:Pa)(d:List (Key×D))(e:eI)(k:Int):cY (bR C p) (uK C p d e k) (bR C p).length=nI (aU C p e k):=by
 rw[<- wG C p d e k,iT];unfold cY;rw[zbX];simp_all[nI]
theorem WI.num{C:Bk}(B:OkB C){U:List Str}{kn:List (Str×Int)}{g:Rg}{d:List (Key×D)}{e:eI}{k:Int}(h:WI C U kn g d e k):0<=aW C g e k/\aW C g e k<nI (aU C (pa g) e k):=f6 B h.ok h.wf h.nf h.ec
theorem E4{C:Bk}:∀ {gs:List Rg} {m:List Sb} {i:Nat} {x:Int×Int},(fK C gs m)[i]?=some x->∃g s,gs[i]?=some g/\m[i]?=some s/\x=(aW C g s.2.2.1 s.2.2.2,nI (kH C s))
 | [],m,i,x,h=>by cases m <;> simp[-zac,-zab,aA,aB,fK]at h
 | g::gs,[],i,x,h=>by simp[-zac,-zab,aA,aB,fK]at h
 | g::gs,s::m,0,x,h=>⟨g,s,rfl,rfl,by simpa[fK]using h.symm⟩
 | g::gs,s::m,i+1,x,h=>by
  obtain⟨g',s',a,b,c⟩:=E4 (C:=C) (gs:=gs) (m:=m) (i:=i) (x:=x) (by simpa[fK]using h);exact⟨g',s',by simpa using a,by simpa using b,c⟩
theorem WI.at{C:Bk}(B:OkB C){U:List Str}{kn:List (Str×Int)}{g:Rg}{d:List (Key×D)}{e:eI}{k:Int}(h:WI C U kn g d e k){i:Nat}{q:Rg}{s:Sb}(F:(bY g)[i]?=some q)(hs:(sb C (pa g) d e k (ch g))[i]?=some s):s.1=pa q/\∃z,WI C U z q s.2.1 s.2.2.1 s.2.2.2:=by
 obtain⟨p,G,h1,h2,rfl⟩:=iU hs;rw[wW,zaC,F]at h1;rw[zaP];exact⟨by simpa using h1.symm,h.kid B F h2⟩
theorem xS{C:Bk}(B:OkB C){U:List Str}{kn:List (Str×Int)}{g:Rg}{d:List (Key×D)}{e:eI}{k:Int}(h:WI C U kn g d e k):(sb C (pa g) d e k (ch g)).length=(bY g).length:=by
 have I:=h.pi B;have:=(GE B I.ok I.k0 I.k1 (nX B h.ok h.wf)).1;unfold sb;rw[wU this.symm,wW,zal]
theorem mX{C:Bk}:∀ {gs:List Rg} {m:List Sb},m.length=gs.length->(fK C gs m).map (·.2)=m.map λs=>nI (kH C s)
 | [],m,h=>by rw[List.length_eq_zero_iff.mp h];rfl
 | g::gs,[],h=>by simp[-zac,-zab,aA,aB]at h
 | g::gs,s::m,h=>by rw[fK,zak,zak,mX (by simpa using h)]
def vY(C:Bk)(g:Rg)(d:List (Key×D))(e:eI)(k:Int):List (Int×Int):=fK C (bY g) (sb C (pa g) d e k (ch g))++[fS C (cE C (pa g) e k (ch g)) k (wy g)]
theorem WI.inr{C:Bk}(B:OkB C){U:List Str}{kn:List (Str×Int)}{g:Rg}{d:List (Key×D)}{e:eI}{k:Int}(h:WI C U kn g d e k):GJ (vY C g d e k):=λx hx=>by
 rcases List.mem_append.mp hx with z|z
 ·obtain⟨i,hi⟩:=zcb z
  obtain⟨q,s,h1,h2,rfl⟩:=E4 hi;obtain⟨F,G,w⟩:=h.at B h1 h2;have:=w.num B;unfold kH;rw[F];exact this
 ·have I:=h.pi B
  have b:=xK B I (nX B h.ok h.wf);rw[List.mem_singleton.mp z];exact j9 B b.1 I.k1 (xV h.ec h.wf)
theorem WI.join{C:Bk}(B:OkB C){U:List Str}{kn:List (Str×Int)}{g:Rg}{d:List (Key×D)}{e:eI}{k:Int}(h:WI C U kn g d e k):0<=aX 0 (vY C g d e k)/\aX 0 (vY C g d e k)<nI (uK C (pa g) d e k (ch g)):=by
 have:=kD (h.inr B);refine⟨this.1,zeq this.2 ?_⟩;unfold vY uK;rw[eO,zaJ,mX (xS B h),zav];exact zdP _
noncomputable def tY:Int->List Int->Int
 | n,[]=>n
 | n,s::l=>tY (n/s) l
theorem uP:∀(l:List Int) (s n:Int) (acc:List Int),f7 n (l++[s]) acc=tY n l%s::f7 n l acc
 | [],s,n,acc=>rfl
 | a::l,s,n,acc=>uP l s (n/a) (n%a::acc)
theorem vN:∀(l:List Int) (s n:Int),tY n (l++[s])=tY n l/s
 | [],s,n=>rfl
 | a::l,s,n=>vN l s (n/a)
theorem y9:∀(l:List Int) (n:Int) (acc:List Int),(f7 n l acc).length=l.length+acc.length
 | [],n,acc=>by simp_all[f7]
 | a::l,n,acc=>by rw[f7,y9 l];simp[-zac,-zab,aA,aB];lia
theorem KH{l:List Int}(N:l.length<=100)(hs:∀s∈l,0<s/\s<10^500)(n:Int):sR [.int n,.lst (l.map .int)]=some (.lst ((f7 n l.reverse []).map .int)):=by
 refine aK ?_;unfold zN;have U:(aH 5 [.int n,.lst (l.map .int)]).set 2 (some (.lst []))=[some (.int n),some (.lst (l.map .int)),some (.lst []),none,none]:=rfl;rw[aF (aM (d:=.lst []) rfl),U,aF (aM (d:=.int n) rfl)];have er:(l.map D.int).reverse=l.reverse.map D.int:=by rw[List.map_reverse]
 have B:∀s∈l.reverse,0<s/\s<10^500:=λs h=>hs s (List.mem_reverse.mp h)
 have z:l.reverse.length<=100:=by rw[List.length_reverse];exact N
 generalize l.reverse=m at er B z ⊢;generalize l.map D.int=X at er ⊢;refine kL (items:=m.map .int) (by simp_all[Y7,er]) (λi ρ=>∃q,ρ=[some (.int n),some (.lst X),some (.lst ((f7 n (m.take i) []).map .int)),some (.int (tY n (m.take i))),q]) ⟨none,rfl⟩ ?_ ?_
 ·rintro i y ρ J ⟨q,rfl⟩
  rw[zaC]at J;obtain⟨s,G,rfl⟩:=map_some J;have h:=B s (zax G);have Y:m.take (i+1)=m.take i++[s]:=by rw[zc4,G];rfl
  have W:=y9 (m.take i) n [];have F:a7 (f7 n (m.take i) []).length=true:=decide_eq_true (by rw[W,zb7];simp[-zac,-zab,aA,aB];lia);refine⟨[some (.int n),some (.lst X),some (.lst ((f7 n (m.take (i+1)) []).map .int)),some (.int (tY n (m.take (i+1)))),some (.int s)],?_,_,rfl⟩;rw[Y,uP,vN];generalize f7 n (m.take i) []=P1 at F ⊢;generalize tY n (m.take i)=r;have M:WY 2 (eC (D.int 0)) (bC dE (aD 3) (aD 4)) [some (.int n),some (.lst X),some (.lst (P1.map .int)),some (.int r),some (.int s)]=some (.nx [some (.int n),some (.lst X),some (.lst (.int (r%s)::P1.map .int)),some (.int r),some (.int s)]):=by
   unfold WY;simp_all[bQ h.1,F]
  have eg:aQ 4 (.int s) [some (.int n),some (.lst X),some (.lst (P1.map .int)),some (.int r),q]=some [some (.int n),some (.lst X),some (.lst (P1.map .int)),some (.int r),some (.int s)]:=rfl;unfold turn;rw[eg,aA,aF M,aM (d:=.int (r/s)) (by simp_all[MS h.1 h.2])];rfl
 ·rintro ρ' ⟨q,rfl⟩
  rw[zal,zbX];simp[-zac,-zab,aA,aB]
theorem qY{C:Bk}{at_:D}:∀(l:List Sb) (o1 o2 o3:Option D),(∀s∈l,dM [at_,d3 C s.1,.dK s.2.1,.int s.2.2.2]=some (memD (kH C s)))->bD (kS 3 (eA (aQ 0) (eA (aQ 1) (eA (aQ 2) tW)))) fJ (aS dG (aC (aS dM (aC (aD 3) (aC (aD 0) (aC (aD 1) (aC (aD 2) aZ))))) aZ)) (l.map λs=>.tup [d3 C s.1,.dK s.2.1,.int s.2.2.2]) [o1,o2,o3,some at_]=some ((l.map λs=>nI (kH C s)).map .int)
 | [],o1,o2,o3,_=>rfl
 | s::l,o1,o2,o3,h=>by
  have ih:=qY l (some (d3 C s.1)) (some (.dK s.2.1)) (some (.int s.2.2.2)) λt q=>h t (zap _ q)
  have e:=h s (zat ..);have n:=gI (kH C s);rw[zak,bD];simp_all[-zav,e,n,ih]
theorem N3{C:Bk}{at_:D}{l:List Sb}{rs:List D}(B:l.length<=100)(h:∀s∈l,dM [at_,d3 C s.1,.dK s.2.1,.int s.2.2.2]=some (memD (kH C s))):wV [at_,.lst (l.map λs=>.tup [d3 C s.1,.dK s.2.1,.int s.2.2.2]),.lst rs]=some (.lst (((l.map λs=>nI (kH C s))++[(rs.length:Int)]).map .int)):=by
 have c:=qY l none none none h;have z:a7 l.length=true:=decide_eq_true (by lia);have q:a7 (l.length+1)=true:=decide_eq_true (by lia);refine aK ?_;unfold EM;simp_all[-zav,aH,i6,z,q,c]
theorem PK{C:Bk}{at_:D}(A:AtD C at_){j k:Int}(z:0<=j/\j<(C.kinds.length:Int))(q:0<=k/\k<(C.kinds.length:Int)):∃r,x9 CA "routes" at_=some r/\aI r (.tup [.int j,.int k])=some (.lst ((bG C.rs k 8 j).map tupI)):=by
 obtain⟨B,L2,rfl,ok⟩:=A;exact⟨.dT B,rfl,S8 (ok j k ⟨z,q⟩).1⟩
theorem C9{m:Nat}{a:Int}(h:LeT m a)(q:m<=16):a<10^250:=Int.lt_of_le_of_lt (h.mono q).2 (by decide +kernel)
theorem FU{C:Bk}:∀(gs:List Rg) (m:List Sb),fK C gs m=(gs.zip m).map λz=>(aW C z.1 z.2.2.2.1 z.2.2.2.2,nI (kH C z.2))
 | [],m=>by cases m <;> rfl
 | g::gs,[]=>rfl
 | g::gs,s::m=>by rw[fK,FU gs m];rfl
theorem zip_get{g:Rg}{l:List Sb}{i:Nat}{z:Rg×Sb}(h:((bY g).zip l)[i]?=some z):(bY g)[i]?=some z.1/\l[i]?=some z.2:=by
 rw[List.getElem?_zip_eq_some]at h;exact h
abbrev Y5:=D×D×D×D×D
theorem mN{q:Str}{l ks pre rs:List D}{c w:D}(G:gD l 0=some (.str q))(U:¬ q = "use")(J:¬ q = "let")(B:iP [.tup l]=some (.tup ks))(M:cutD l none (some ((l.length:Int)-(ks.length:Int)))=pre)(z:pre.length+rs.length<=1000):gH [.tup l,c,.lst rs,w]=some (.tup (pre++rs++[w])):=by
 have F:a7 (pre.length+rs.length)=true:=decide_eq_true (by lia);have N:a7 (pre.length+rs.length+1)=true:=decide_eq_true (by lia);exact aK (by simp_all[fF,aH,G,U,J,B,M,F,N])
theorem yK:∀g:Rg,gH [bK (pa g),ch g,.lst (ir g),tupI (wy g)]=some (rd g)
 | .name x j w=>mN (ks:=[]) (pre:=[_,_]) (rs:=[]) at0 tT nS (mZ (.name x)) rfl (zcq rfl)
 | .num n j w=>mN (ks:=[]) (pre:=[_,_,_]) (rs:=[]) at0 nT lP (mZ (.num n j)) rfl (zcq rfl)
 | .use1 ..=>aK (by simp_all[fF,aH,pa,bK,ch,ir,wy,rd,at0])
 | .use2 ..=>aK (by simp_all[fF,aH,pa,bK,ch,ir,wy,rd,at0])
 | .lett ..=>aK (by simp_all[fF,aH,pa,bK,ch,ir,wy,rd,at0,at1,nU,sz5])
 | .pick c k p q r w=>mN (ks:=[_,_,_]) (pre:=[_,_,_]) (rs:=[rd p,rd q,rd r]) at0 nZ lQ (mZ (.pick c k (pa p) (pa q) (pa r))) rfl (zcq rfl)
 | .again c k x p q w=>mN (ks:=[_,_]) (pre:=[_,_,_,_]) (rs:=[rd p,rd q]) at0 nW iW (mZ (.again c k x (pa p) (pa q))) rfl (zcq rfl)
theorem zQ{C:Bk}:∀(gs:List Rg) (m:List Sb) (x:D),m.length=gs.length->lT (((fK C gs m).map λp=>.int p.1)++[x]) (m.map λs=>.tup [d3 C s.1,.dK s.2.1,.int s.2.2.2])=(gs.zip m).map λz=>.tup [.int (aW C z.1 z.2.2.2.1 z.2.2.2.2),.tup [d3 C z.2.1,.dK z.2.2.1,.int z.2.2.2.2]]
 | [],m,x,h=>by rw[List.length_eq_zero_iff.mp h];rfl
 | g::gs,[],x,h=>by simp[-zac,-zab,aA,aB]at h
 | g::gs,s::m,x,h=>by rw[fK,zak,zak,zdK,lT,zQ gs m x (by simpa using h)];rfl
theorem OY{C:Bk}{gs:List Rg}{m:List Sb}(h:m.length=gs.length):(fK C gs m).length=gs.length:=by
 rw[FU,zal,List.length_zip];lia
theorem MO:∀(gs:List Rg) (m:List Sb),m.length=gs.length->(gs.zip m).map (λz=>rd z.1)=gs.map rd
 | [],m,h=>rfl
 | g::gs,[],h=>by simp[-zac,-zab,aA,aB]at h
 | g::gs,s::m,h=>by rw[zcm,zak,zak,MO gs m (by simpa using h)]
theorem JK{R:List D->Option D}{at_ M U G F Jd bk pd r bd N rg:D}{wi:Int}{SP SZ J wl W:List D}{Y:List Y5}(hb:x9 CA "book" at_=some bk)(np:x9 CN "part" M=some pd)(sp:kK [at_,M,U,G,F]=some (.lst SP))(er:x9 CA "routes" at_=some r)(bg:bN [bk,U,pd,G,F]=some bd)(ew:aI r (.tup [bd,G])=some (.lst wl))(zs:wV [at_,.lst SP,.lst wl]=some (.lst SZ))(ak:sR [Jd,.lst SZ]=some (.lst J))(zn:lT J SP=Y.map λy=>.tup [y.1,.tup [y.2.1,y.2.2.1,y.2.2.2.1]])(zl:Y.length<=3)(kf:∀y∈Y,R [at_,y.2.1,y.2.2.1,y.2.2.2.1,y.1]=some y.2.2.2.2)(zr:Y.map (·.2.2.2.2)=W)(aj:gD J (SP.length:Int)=some (.int wi))(ix:gD wl wi=some N)(ag:gH [pd,F,.lst W,N]=some rg) :
  fE R (aH 12 [at_,M,U,G,F,Jd])=some (.rt rg):=by
 unfold fE;rw[aF (aM (d:=.lst SP) (by ac_rfl))];rw[aF (aM (d:=.lst wl) (by ac_rfl))];rw[aF (aM (d:=.lst J) (by ac_rfl))];rw[aF (aM (d:=.lst []) rfl)];refine kL (items:=Y.map λy=>.tup [y.1,.tup [y.2.1,y.2.2.1,y.2.2.2.1]]) (by ac_rfl) (λi ρ=>∃q B,ρ=[some at_,some M,some U,some G,some F,some Jd,some (.lst SP),some (.lst wl),some (.lst J),some (.lst ((Y.take i).map (·.2.2.2.2))),q,B]) ⟨none,none,rfl⟩ ?_ ?_
 ·rintro i y ρ hy ⟨q,B,rfl⟩
  rw[zaC]at hy;obtain⟨z,hz,rfl⟩:=map_some hy;have et:Y.take (i+1)=Y.take i++[z]:=by rw[zc4,hz];rfl
  have ek:=kf z (zax hz);refine⟨[some at_,some M,some U,some G,some F,some Jd,some (.lst SP),some (.lst wl),some (.lst J),some (.lst ((Y.take (i+1)).map (·.2.2.2.2))),some z.1,some (.tup [z.2.1,z.2.2.1,z.2.2.2.1])],?_,_,_,rfl⟩;rw[et,zaJ];have z2:((Y.take i).map (·.2.2.2.2)).length<=1000000:=by rw[zal,zb7];lia
  ac_rfl
 ·rintro ρ' ⟨q,B,rfl⟩
  rw[zal,zbX,zr]
  ac_rfl
theorem uB{C:Bk}(B:OkB C){U:List Str}(hU:U.length<=8){at_:D}(A:AtD C at_){g:Rg}{kn:List (Str×Int)}{d:List (Key×D)}{e:eI}{k:Int}{R:List D->Option D}(ab:size g<=16)(w:WI C U kn g d e k)(IH:∀q,size q<size g->∀G d' e' k',WI C U G q d' e' k'->R [at_,d3 C (pa q),.dK d',.int k',.int (aW C q e' k')]=some (rd q)) :
  bJ 12 (fE R) [at_,d3 C (pa g),.dK d,.int k,ch g,.int (aX 0 (vY C g d e k))]=some (rd g):=by
 refine aK ?_;have I:=w.pi B;have W:=nX B w.ok w.wf;have sp:=SR B A I W;have bg:=SN I W;have bo:=xK B I W;have wk:=xV w.ec w.wf;have hb:=A.book;have np:=nB C (pa g);obtain⟨r,er,ew⟩:=PK A bo ⟨I.k0,I.k1⟩;have J:=xS B w;have k3:(bY g).length<=3:=by cases g <;> simp_all[bY]
 have ps:psz (pa g)<=16:=by rw[cC];exact ab
 have zs:=N3 (C:=C) (at_:=at_) (l:=sb C (pa g) d e k (ch g)) (rs:=(bG C.rs k 8 (cE C (pa g) e k (ch g))).map tupI) (by lia) λs hs=>by
  obtain⟨i,hi⟩:=zcb hs;have sk:=gU (xR hs);obtain⟨q,kk,h1,h2,rfl⟩:=iU hi;exact GC B hU A 16 _ _ _ _ (by simp only at sk ⊢;lia) (by simp only at sk ⊢;lia) (by rw[zaP];exact I.kid B W h1 h2)
 have l8:=WN B (cE C (pa g) e k (ch g)) k;have F:(vY C g d e k).map (·.2)=(sb C (pa g) d e k (ch g)).map (λs=>nI (kH C s))++[((bG C.rs k 8 (cE C (pa g) e k (ch g))).length:Int)]:=by
  unfold vY;rw[zaJ,mX J];rfl
 have nl:(vY C g d e k).length=(bY g).length+1:=by
  have:=congrArg zbo F;simp[-zac,-zab,aA,aB]at this;lia
 have inr:=w.inr B;have pd:=KH (l:=(vY C g d e k).map (·.2)) (by rw[zal];lia) (λs hs=>by
  obtain⟨p,hp,N⟩:=List.mem_map.mp hs;have a:=inr p hp;refine⟨by lia,?_⟩;rw[F]at hs;refine Int.lt_trans ?_ (show(10:Int)^250<10^500 by decide +kernel);rcases List.mem_append.mp hs with z|z
  ·obtain⟨s,hs,N⟩:=List.mem_map.mp z
   rw[<- N];exact C9 (mY B _ s.1 (zai _) _ _) (by have:=gU (xR hs);lia)
  ·rw[List.mem_singleton.mp z]
   exact C9 (m:=1) ⟨by lia,zdM l8 (by decide)⟩ (by decide)) (aX 0 (vY C g d e k))
 have pj:=vG (vY C g d e k) 0 [] [] inr;rw[zbb,zbb]at pj;rw[pj,show f7 0 [] ((vY C g d e k).map (·.1))=(vY C g d e k).map (·.1)from rfl,F]at pd;rw[zal]at zs;have k6:=B.k6;have wm:=jY B.gr (n:=8) (by have:=I.k1;lia) wk;have ix:gD ((bG C.rs k 8 (cE C (pa g) e k (ch g))).map tupI) (((bG C.rs k 8 (cE C (pa g) e k (ch g))).idxOf (wy g):Nat):Int)=some (tupI (wy g)):=bV (by
  rw[zaC,zaT (zdO wm),zer];rfl)
 have zn:=zQ (C:=C) (bY g) (sb C (pa g) d e k (ch g)) (.int ((bG C.rs k 8 (cE C (pa g) e k (ch g))).idxOf (wy g):Nat)) J;have ac:((vY C g d e k).map (·.1)).map D.int=(((fK C (bY g) (sb C (pa g) d e k (ch g))).map λp=>D.int p.1)++[.int ((bG C.rs k 8 (cE C (pa g) e k (ch g))).idxOf (wy g):Nat)]):=by
  unfold vY;rw[zav,zaJ];rfl
 rw[ac]at pd;have M:((fK C (bY g) (sb C (pa g) d e k (ch g))).map λp=>D.int p.1).length=(sb C (pa g) d e k (ch g)).length:=by rw[zal,OY J,J]
 have aa:gD (((fK C (bY g) (sb C (pa g) d e k (ch g))).map λp=>D.int p.1)++[.int ((bG C.rs k 8 (cE C (pa g) e k (ch g))).idxOf (wy g):Nat)]) ((sb C (pa g) d e k (ch g)).length:Int)=some (.int ((bG C.rs k 8 (cE C (pa g) e k (ch g))).idxOf (wy g):Nat)):=bV (by
  rw[zdh (by lia),M,Nat.sub_self];rfl)
 refine JK (Y:=((bY g).zip (sb C (pa g) d e k (ch g))).map λz=>(.int (aW C z.1 z.2.2.2.1 z.2.2.2.2),d3 C z.2.1,.dK z.2.2.1,.int z.2.2.2.2,rd z.1)) hb np sp er bg ew zs pd (by rw[zn,zav];rfl) (by rw[zal,List.length_zip];lia) (λy hy=>?_) (by rw[zav];exact(MO (bY g) (sb C (pa g) d e k (ch g)) J).trans (RJ g).symm) (by rw[zal];exact aa) ix (yK g);obtain⟨z,hz,rfl⟩:=List.mem_map.mp hy;obtain⟨i,hi⟩:=zcb hz;obtain⟨a,b⟩:=zip_get hi;obtain⟨N,G,w'⟩:=w.at B a b;show R [at_,d3 C z.2.1,.dK z.2.2.1,.int z.2.2.2.2,.int _]=_;rw[N];exact IH z.1 (w6 (zax a)) G _ _ _ w'
theorem ML{C:Bk}(B:OkB C){U:List Str}(M:U.length<=8){at_:D}(A:AtD C at_):∀(n:Nat) (g:Rg) (kn:List (Str×Int)) (d:List (Key×D)) (e:eI) (k:Int),size g<=n->size g<=16->WI C U kn g d e k->i8 8 e8 n [at_,d3 C (pa g),.dK d,.int k,.int (aW C g e k)]=some (rd g)
 | 0,g,kn,d,e,k,h,_,_=>by have:=dW (pa g);rw[cC]at this;lia
 | n+1,g,kn,d,e,k,h,h16,w=>by
  show bJ 8 (e8 (i8 8 e8 n)) _=_;have tc:=uB B M A (R:=i8 8 e8 n) h16 w λq hq W d' e' k' w'=>ML B M A n q W d' e' k' (by lia) (by lia) w'
  generalize i8 8 e8 n=R at tc ⊢;refine aK ?_;have I:=w.pi B;have cm:=nX B w.ok w.wf;have wc:=vK B (pa g);have hb:=A.book;have np:=nB C (pa g);have ps:psz (pa g)<=16:=by rw[cC];exact h16
  have Y:∀c∈bR C (pa g),mH [at_,d3 C (pa g),.dK d,.int k,c]=some (memD (uK C (pa g) d e k c)):=λc z=>M5 B A I z ps λs _ hI hz=>GC B M A 16 s.1 s.2.1 s.2.2.1 s.2.2.2 (by lia) (by lia) hI
  obtain⟨t,F⟩:=zcb cm;have bp:=qE (f:=uK C (pa g) d e k) F;have jn:=w.join B;have nn:=CQ C (pa g) d e k;rw[pW C g d e k,bp,show(fK C (bY g) (sb C (pa g) d e k (ch g))++[fS C (cE C (pa g) e k (ch g)) k (wy g)])=vY C g d e k from rfl];generalize aX 0 (vY C g d e k)=J at *;generalize uK C (pa g) d e k=f at *;generalize bR C (pa g)=chs at *;generalize ch g=cg at *;generalize d3 C (pa g)=nd at *;generalize rd g=rg at *;unfold e8;rw[aF (aM (d:=.int (cY chs f t+J)) rfl)];refine tL ?_;rw[q_for];have ei:fO (aS fT (aC (dS CA "book" (aD 0)) (aC (dS CN "part" (aD 1)) aZ))) ((aH 8 [at_,nd,.dK d,.int k,.int (cY chs f t+J)]).set 5 (some (.int (cY chs f t+J))))=some chs:=by ac_rfl
  rw[ei];refine EJ t (λi ρ=>∃G N,ρ=[some at_,some nd,some (.dK d),some (.int k),some (.int (cY chs f t+J)),some (.int (cY chs f t+J-cY chs f i)),G,N]) ⟨none,none,by rw[show cY chs f 0=0 from rfl,Int.sub_zero];rfl⟩ (List.getElem?_eq_some_iff.mp F).1 ?_ ?_
  ·rintro i c ρ hi z ⟨G,N,rfl⟩
   have ec:=Y c (zax z);have en:=gI (f c);have s:=jT (f:=f) z;have m:=mQ nn (l:=chs) (i:=i+1) (j:=t) (by lia);have lt:¬ cY chs f t+J-cY chs f i<nI (f c):=by lia
   refine⟨[some at_,some nd,some (.dK d),some (.int k),some (.int (cY chs f t+J)),some (.int (cY chs f t+J-cY chs f (i+1))),some c,some (.int (nI (f c)))],?_,_,_,rfl⟩;rw[s,show cY chs f t+J-(cY chs f i+nI (f c))=cY chs f t+J-cY chs f i-nI (f c) by lia];generalize cY chs f t+J-cY chs f i=x at lt ⊢
   ac_rfl
  ·rintro c ρ z ⟨G,N,rfl⟩
   have:c=cg:=by rw[F]at z;injection z with z;exact z.symm
   subst this;have ec:=Y c (zax F);have en:=gI (f c);rw[show cY chs f t+J-cY chs f t=J by lia];have lt:=jn.2
   ac_rfl
theorem dQ:∀(l:List (Int×Int)) (n:Int),aX n l=n*i9 (l.map (·.2))+aX 0 l
 | [],n=>by simp_all[aX,i9]
 | (a,s)::l,n=>by
  rw[aX,dQ l,aX,dQ l (0*s+a),zak,i9,zdR,zbk,zdN,zdL,zc3]
theorem digits:∀(l:List Int) (r:Int),NN l->0<=r->r<i9 l->∃zs:List (Int×Int),zs.map (·.2)=l/\GJ zs/\aX 0 zs=r
 | [],r,_,h0,h1=>⟨[],rfl,(λ_ h=>by cases h),by simp[-zac,-zab,aA,aB,i9]at h1;show(0:Int)=r;lia⟩
 | s::l,r,hn,h0,h1=>by
  have q:NN l:=λx hx=>hn x (zap _ hx)
  have G:=xJ q;have N:=hn s (zat ..);rw[i9]at h1;have F:0<i9 l:=by
   rcases Int.lt_or_eq_of_le G with z|z
   ·exact z
   ·rw[<- z,Int.mul_zero]at h1;lia
  obtain⟨zs,B,J,M⟩:=digits l (r%i9 l) q (zas _ (by lia)) (zau _ F);refine⟨(r/i9 l,s)::zs,by rw[zak,B],t5 ⟨Int.ediv_nonneg h0 G,Int.ediv_lt_of_lt_mul F h1⟩ J,?_⟩;rw[aX,dQ,B,M,zdR,zbk];have:=Int.mul_ediv_add_emod r (i9 l);rw[Int.mul_comm]at this;exact this
theorem zX{l:List D}{f:D->Sm}(F:∀c,0<=nI (f c)){n:Int}(B:0<=n):∀m,n<cY l f m->∃t c,l[t]?=some c/\cY l f t<=n/\n<cY l f t+nI (f c)
 | 0,h=>by simp[-zac,-zab,aA,aB,cY]at h;lia
 | m+1,h=>by
  by_cases z:n<cY l f m
  ·exact zX F B m z
  ·cases hc:l[m]? with
   | some c=>rw[jT hc]at h;exact⟨m,c,hc,by lia,h⟩
   | none=>
    have q:l.length<=m:=List.getElem?_eq_none_iff.mp hc;have e:cY l f (m+1)=cY l f m:=by unfold cY;rw[zbZ (by lia),zbZ q]
    lia
def PaW(C:Bk)(U:List Str):List Str->Pa->Prop
 | _,.name _=>True
 | _,.num n _=>0<=n/\n<C.M
 | N,.use1 _ p=>PaW C U N p
 | N,.use2 _ p q=>PaW C U N p/\PaW C U N q
 | N,.lett x p q=>PaW C U N p/\(x∉N/\x∈U)/\PaW C U (x::N) q
 | N,.pick _ _ p q r=>PaW C U N p/\PaW C U N q/\PaW C U N r
 | N,.again n _ x p q=>(0<=n/\n<4)/\PaW C U N p/\(x∉N/\x∈U)/\PaW C U (x::N) q
theorem NW{C:Bk}{U:List Str}:∀ {g:Rg} {kn:List (Str×Int)} {N:List Str} {k:Int},WF C kn g k->NF U N g->PaW C U N (pa g)
 | .name x j w,kn,N,k,W,F=>trivial
 | .num n j w,kn,N,k,W,F=>W.1
 | .use1 v nm p w,kn,N,k,⟨m,t,a,b,c,d,f⟩,F=>NW (g:=p) d F
 | .use2 v nm p q w,kn,N,k,⟨m,t,u,a,b,c,d,d2,f⟩,F=>⟨NW d F.1,NW d2 F.2⟩
 | .lett x j p q,kn,N,k,⟨a,b⟩,F=>⟨NW a F.1,F.2.1,NW b F.2.2⟩
 | .pick c k' p q r w,kn,N,k,⟨a,b,c1,c2,c3,d⟩,F=>⟨NW c1 F.1,NW c2 F.2.1,NW c3 F.2.2⟩
 | .again n k' x p q w,kn,N,k,⟨a,b,c1,c2,d⟩,F=>⟨a,NW c1 F.1,F.2.1,NW c2 F.2.2⟩
theorem PaW.nf{C:Bk}{U:List Str}:∀ {g:Rg} {N:List Str},PaW C U N (pa g)->NF U N g
 | .name x j w,N,h=>trivial
 | .num n j w,N,h=>trivial
 | .use1 v nm p w,N,h=>PaW.nf (g:=p) h
 | .use2 v nm p q w,N,h=>⟨PaW.nf h.1,PaW.nf h.2⟩
 | .lett x j p q,N,h=>⟨PaW.nf h.1,h.2.1,PaW.nf h.2.2⟩
 | .pick c k' p q r w,N,h=>⟨PaW.nf h.1,PaW.nf h.2.1,PaW.nf h.2.2⟩
 | .again n k' x p q w,N,h=>⟨PaW.nf h.2.1,h.2.2.1,PaW.nf h.2.2.2⟩
def W7(kn:List (Str×Int))(p:Pa)(c:D)(i:Nat):List (Str×Int):=match hid p i with
 | none=>kn
 | some x=>(x,DH p c)::kn
structure SI(C:Bk)(U:List Str)(kn:List (Str×Int))(p:Pa)(d:List (Key×D))(e:eI)(k:Int):Prop where
 pi:PI' C U p d e k
 pw:PaW C U (kn.map (·.1)) p
 nk:∀x∈aP p,(x,e x)∈kn
theorem PaW.kid{C:Bk}{U:List Str}{kn:List (Str×Int)}{p q:Pa}{c:D}{i:Nat}(h:PaW C U (kn.map (·.1)) p)(z:(kids p)[i]?=some q):PaW C U ((W7 kn p c i).map (·.1)) q:=by
 cases p with
 | name y=>simp[-zac,-zab,aA,aB,kids]at z
 | num n j=>simp[-zac,-zab,aA,aB,kids]at z
 | use1 nm p=>obtain⟨rfl,rfl⟩:=NS z;exact h
 | use2 nm p q=>rcases uH z with⟨rfl,rfl⟩|⟨rfl,rfl⟩;exact h.1;exact h.2
 | lett y p q=>rcases uH z with⟨rfl,rfl⟩|⟨rfl,rfl⟩;exact h.1;exact h.2.2
 | pick c k p q r=>rcases get3 z with⟨rfl,rfl⟩|⟨rfl,rfl⟩|⟨rfl,rfl⟩;exact h.1;exact h.2.1;exact h.2.2
 | again n k y p q=>rcases uH z with⟨rfl,rfl⟩|⟨rfl,rfl⟩;exact h.2.1;exact h.2.2.2
theorem SI.kid{C:Bk}(B:OkB C){U:List Str}{kn:List (Str×Int)}{p:Pa}{d:List (Key×D)}{e:eI}{k:Int}(h:SI C U kn p d e k){c:D}(J:c∈bR C p){i:Nat}{q:Pa}{G:Int}(F:(kids p)[i]?=some q)(M:(BE C p k c)[i]?=some G):SI C U (W7 kn p c i) q (JG p d c i) (NZ p e c i) G:=by
 refine⟨h.pi.kid B J F M,h.pw.kid F,λx hx=>?_⟩;unfold NZ W7;cases e1:hid p i with
 | none=>exact h.nk x (qC F hx (by rw[e1];simp[-zac,-zab,aA,aB]))
 | some y=>
  simp only[eU];by_cases z:x=y
  ·rw[if_pos z,z];exact zat ..
  ·rw[if_neg z]
   exact zap _ (h.nk x (qC F hx (by rw[e1];intro w;injection w with w;exact z w)))
theorem ZO{q:Type}{l:List q}(h:l.length=1):∃a,l=[a]:=List.length_eq_one_iff.mp h
theorem WW{q:Type}{l:List q}(h:l.length=2):∃a b,l=[a,b]:=by
 match l,h with
 | [a,b],_=>exact⟨a,b,rfl⟩
theorem qaC{q:Type}{l:List q}(h:l.length=3):∃a b c,l=[a,b,c]:=by
 match l,h with
 | [a,b,c],_=>exact⟨a,b,c,rfl⟩
theorem N5{C:Bk}(B:OkB C){k:Int}{w:List Int}(h:gw C.rs k w=some k):w=[]:=by
 have:=j7 B.gr h;exact List.length_eq_zero_iff.mp (by lia)
theorem build{C:Bk}(B:OkB C){U:List Str}{kn:List (Str×Int)}{p:Pa}{d:List (Key×D)}{e:eI}{k:Int}(h:SI C U kn p d e k){c:D}(W:c∈bR C p){gs:List Rg}(N:gs.length=(kids p).length)(F:∀(i:Nat) (q:Rg) (kk:Int),gs[i]?=some q->(BE C p k c)[i]?=some kk->(kids p)[i]?=some (pa q)/\WF C (W7 kn p c i) q kk){w:List Int}(hw:gw C.rs (cE C p e k c) w=some k) :
  ∃g,pa g=p/\ch g=c/\bY g=gs/\wy g=w/\WF C kn g k:=by
 cases p with
 | name x=>
  refine⟨.name x (e x) w,rfl,(List.mem_singleton.mp W).symm,(List.length_eq_zero_iff.mp N).symm,rfl,h.nk x (List.mem_singleton.mpr rfl),hw⟩
 | num n j=>exact⟨.num n j w,rfl,(List.mem_singleton.mp W).symm,(List.length_eq_zero_iff.mp N).symm,rfl,h.pw,h.pi.ok,hw⟩
 | use1 nm p=>
  obtain⟨v,m,rfl,M,en,Y⟩:=fL W;obtain⟨a,rfl⟩:=ZO N;have z:=F 0 a _ rfl rfl;have t:=C3 M Y;simp only[cE,dA,dX M]at hw;have G:p=pa a:=by simpa[kids]using z.1
  rw[dA]at z;exact⟨.use1 v nm a w,by rw[G];rfl,rfl,rfl,rfl,m,_,M,en,t,z.2,hw⟩
 | use2 nm p q=>
  obtain⟨v,m,rfl,M,en,Y⟩:=fL W;obtain⟨a,b,rfl⟩:=WW N;have z:=F 0 a _ rfl rfl;have h1:=F 1 b _ rfl rfl;have t:=C2 M Y;simp only[cE,dA,dX M]at hw;have G:p=pa a:=by simpa[kids]using z.1
  have J:q=pa b:=by simpa[kids]using h1.1
  rw[dA]at z h1;exact⟨.use2 v nm a b w,by rw[G,J];rfl,rfl,rfl,rfl,m,_,_,M,en,t,z.2,h1.2,hw⟩
 | lett x p q=>
  obtain⟨v,rfl,hv⟩:=sX W;obtain⟨a,b,rfl⟩:=WW N;have z:=F 0 a _ rfl rfl;have h1:=F 1 b _ rfl rfl;have G:p=pa a:=by simpa[kids]using z.1
  have J:q=pa b:=by simpa[kids]using h1.1
  exact⟨.lett x (v:Int) a b,by rw[G,J];rfl,rfl,rfl,(N5 B hw).symm,z.2,h1.2⟩
 | pick c' k' p q r=>
  obtain⟨a,b,c1,rfl⟩:=qaC N;have z:=F 0 a _ rfl rfl;have h1:=F 1 b _ rfl rfl;have h2:=F 2 c1 _ rfl rfl;have G:p=pa a:=by simpa[kids]using z.1
  have J:q=pa b:=by simpa[kids]using h1.1
  have e2:r=pa c1:=by simpa[kids]using h2.1
  exact⟨.pick c' k' a b c1 w,by rw[G,J,e2];rfl,(List.mem_singleton.mp W).symm,rfl,rfl,h.pi.ok.1,h.pi.ok.2.1,z.2,h1.2,h2.2,hw⟩
 | again n k' x p q=>
  obtain⟨a,b,rfl⟩:=WW N;have z:=F 0 a _ rfl rfl;have h1:=F 1 b _ rfl rfl;have G:p=pa a:=by simpa[kids]using z.1
  have J:q=pa b:=by simpa[kids]using h1.1
  exact⟨.again n k' x a b w,by rw[G,J];rfl,(List.mem_singleton.mp W).symm,rfl,rfl,h.pw.1,h.pi.ok.1,z.2,h1.2,hw⟩
theorem AD{C:Bk}:∀ {gs:List Rg} {l:List Sb} {zs:List (Int×Int)},gs.length=l.length->zs.length=l.length->(∀(i:Nat) (q:Rg) (s:Sb) (z:Int×Int),gs[i]?=some q->l[i]?=some s->zs[i]?=some z->z=(aW C q s.2.2.1 s.2.2.2,nI (kH C s)))->fK C gs l=zs
 | [],l,zs,h1,h2,_=>by
  have:l=[]:=List.length_eq_zero_iff.mp h1.symm;subst this;rw[List.length_eq_zero_iff.mp h2];rfl
 | g::gs,[],zs,h1,_,_=>by simp[-zac,-zab,aA,aB]at h1
 | g::gs,s::l,[],_,h2,_=>by simp[-zac,-zab,aA,aB]at h2
 | g::gs,s::l,z::zs,h1,h2,h=>by
  rw[fK,h 0 g s z rfl rfl rfl,AD (by simpa using h1) (by simpa using h2) λi q s z a b c=>h (i+1) q s z (by simpa using a) (by simpa using b) (by simpa using c)]
theorem EF{B β:Type}(P:Nat->β->B->Prop):∀(l:List β) (j:Nat),(∀i b,l[i]?=some b->∃a,P (j+i) b a)->∃as:List B,as.length=l.length/\∀(i:Nat) (b:β) (a:B),l[i]?=some b->as[i]?=some a->P (j+i) b a
 | [],j,_=>⟨[],rfl,λi b a h=>by simp[-zac,-zab,aA,aB]at h⟩
 | b::l,j,h=>by
  obtain⟨a,J⟩:=h 0 b rfl;obtain⟨as,h1,h2⟩:=EF P l (j+1) λi b z=>by
   have:=h (i+1) b (by simpa using z)
   rwa [show j+(i+1)=j+1+i by lia]at this
  refine⟨a::as,by simp_all[h1],λi G F z q=>?_⟩;cases i with
  | zero=>cases z;cases q;exact J
  | succ i=>have:=h2 i G F (by simpa using z) (by simpa using q);rwa [show j+1+i=j+(i+1) by lia]at this
theorem ZY{C:Bk}(B:OkB C){U:List Str}:∀(m:Nat) (p:Pa) (kn:List (Str×Int)) (d:List (Key×D)) (e:eI) (k n:Int),psz p<=m->SI C U kn p d e k->0<=n->n<nI (aU C p e k)->∃g,pa g=p/\WF C kn g k/\aW C g e k=n
 | 0,p,kn,d,e,k,n,h,_,_,_=>by have:=dW p;lia
 | m+1,p,kn,d,e,k,n,h,S,n0,n1=>by
  rw[<- PZ C p d e k]at n1;obtain⟨t,c,ht,a1,a2⟩:=zX (CQ C p d e k) n0 _ n1;have hc:=zax ht;have kl:=GE B S.pi.ok S.pi.k0 S.pi.k1 hc;have sl:(sb C p d e k c).length=(kids p).length:=wU kl.1.symm;have e1:nI (uK C p d e k c)=i9 ((sb C p d e k c).map (λs=>nI (kH C s))++[((bG C.rs k 8 (cE C p e k c)).length:Int)]):=by
   unfold uK;rw[eO,zav];rfl
  rw[e1]at a2;obtain⟨zs,z1,z2,z3⟩:=digits ((sb C p d e k c).map (λs=>nI (kH C s))++[((bG C.rs k 8 (cE C p e k c)).length:Int)]) (n-cY (bR C p) (uK C p d e k) t) (λx hx=>by
   rcases List.mem_append.mp hx with z|z
   ·obtain⟨s,_,rfl⟩:=List.mem_map.mp z;exact cG ..
   ·rw[List.mem_singleton.mp z];lia) (by lia) (by lia)
  obtain⟨ys,w,rfl,y1,y2⟩:=List.map_eq_append_iff.mp z1;obtain⟨F,rfl⟩:∃x,w=[x]:=by
   have:=congrArg zbo y2;simp[-zac,-zab,aA,aB]at this;exact ZO this
  have Y:F.2=((bG C.rs k 8 (cE C p e k c)).length:Int):=by simpa using y2
  have wr:=z2 F (zaV _ (List.mem_singleton.mpr rfl));have yl:ys.length=(sb C p d e k c).length:=by have:=congrArg zbo y1;simpa using this
  -- the kids
  obtain⟨gs,g1,g2⟩:=EF (λi (s:Sb) q=>pa q=s.1/\WF C (W7 kn p c i) q s.2.2.2/\∀z,ys[i]?=some z->z=(aW C q s.2.2.1 s.2.2.2,nI (kH C s))) (sb C p d e k c) 0 λi s hs=>by
   obtain⟨q,W,h1,h2,rfl⟩:=iU hs;rw[zaP];have hi:=(List.getElem?_eq_some_iff.mp hs).1;have M:ys[i]?=some ys[i]:=zaT (by lia);have zi:=z2 ys[i] (zbv _ (zax M));have G:(ys[i]).2=nI (kH C (q,JG p d c (0+i),NZ p e c (0+i),W)):=by
    have a:=congrArg (λl=>l[i]?) y1;simp only[zaC,M,hs,zab]at a;injection a
   rw[zaP]at G;obtain⟨g,b1,b2,b3⟩:=ZY B m q (W7 kn p c i) (JG p d c i) (NZ p e c i) W (ys[i]).1 (by have:=gU (zax h1);lia) (S.kid B hc h1 h2) zi.1 (by rw[G]at zi;exact zi.2);refine⟨g,b1,b2,λz J=>?_⟩;rw[M]at J;cases J;rw[b3,<- G]
  -- the way
  have wi:F.1.toNat<(bG C.rs k 8 (cE C p e k c)).length:=by lia
  have wm:=List.getElem_mem wi;have wg:=iJ wm;have ix:(bG C.rs k 8 (cE C p e k c)).idxOf (bG C.rs k 8 (cE C p e k c))[F.1.toNat]=F.1.toNat:=List.Nodup.idxOf_getElem (BK 8 _) F.1.toNat wi;obtain⟨g,q1,q2,q3,q4,q5⟩:=build B S hc (gs:=gs) (by rw[g1,sl]) (λi q W N hk=>by
   have hi:=(List.getElem?_eq_some_iff.mp N).1;have hs:(sb C p d e k c)[i]?=some (sb C p d e k c)[i]:=zaT (by lia);have:=g2 i _ q hs N;rw[zaP]at this;obtain⟨q',ay,h1,h2,h3⟩:=iU hs;rw[h3]at this;rw[hk]at h2;cases h2;exact⟨by rw[h1,this.1],this.2.1⟩) wg
  refine⟨g,q1,q5,?_⟩;rw[pW C g d e k,q1,q2,q3,q4,qE ht];have nz:fK C gs (sb C p d e k c)=ys:=AD g1 yl λi q s z N hs M=>by
   have:=(g2 i s q hs N).2.2;rw[zaP]at this;exact this z M
  rw[nz];have ww:fS C (cE C p e k c) k (bG C.rs k 8 (cE C p e k c))[F.1.toNat]=F:=by
   unfold fS;rw[ix];exact Prod.ext (by simp only;lia) Y.symm
  rw[ww,z3];lia
inductive LtDs:List D->List D->Bool->Prop
 | nil:LtDs [] [] false
 | less {d:D} {m:List D}:LtDs [] (d::m) true
 | more {d:D} {m:List D}:LtDs (d::m) [] false
 | eq {d:D} {l m:List D} {b:Bool}:LtDs l m b->LtDs (d::l) (d::m) b
 | int {i j:Int} {l m:List D}:¬ i=j->LtDs (.int i::l) (.int j::m) (decide (i<j))
 | tup {l m l' m':List D} {b:Bool}:¬ l=m->LtDs l m b->LtDs (.tup l::l') (.tup m::m') b
theorem LtDs.refl:∀l:List D,LtDs l l false
 | []=>.nil
 | d::l=>.eq (LtDs.refl l)
theorem LtDs.pre{l m:List D}{b:Bool}(h:LtDs l m b):∀p:List D,LtDs (p++l) (p++m) b
 | []=>h
 | d::p=>.eq (LtDs.pre h p)
theorem U3{l m:List D}{b:Bool}(h:LtDs l m b):∀ {xs ys:List My.Dx},fN l=some xs->fN m=some ys->My.nJ xs ys=some b:=by
 induction h with
 | nil=>intro xs ys h1 h2;rw[fN]at h1 h2;cases h1;cases h2;rw[My.nJ]
 | less=>
  intro xs ys h1 h2;rw[fN]at h1;rw[fN]at h2;cases h1;obtain⟨y,_,h2⟩:=bind_some h2;obtain⟨zs,_,h2⟩:=bind_some h2;cases h2;rw[My.nJ]
 | more=>
  intro xs ys h1 h2;rw[fN]at h1;rw[fN]at h2;cases h2;obtain⟨y,_,h1⟩:=bind_some h1;obtain⟨zs,_,h1⟩:=bind_some h1;cases h1;rw[My.nJ]
 | eq h ih=>
  intro xs ys h1 h2;rw[fN]at h1 h2;obtain⟨x,B,h1⟩:=bind_some h1;obtain⟨G,J,h1⟩:=bind_some h1;obtain⟨y,q,h2⟩:=bind_some h2;obtain⟨F,M,h2⟩:=bind_some h2;cases h1;cases h2;rw[B]at q;cases q;rw[My.nJ,if_pos rfl];exact ih J M
 | int hij=>
  intro xs ys h1 h2;rw[fN]at h1 h2;obtain⟨x,B,h1⟩:=bind_some h1;obtain⟨G,J,h1⟩:=bind_some h1;obtain⟨y,q,h2⟩:=bind_some h2;obtain⟨F,M,h2⟩:=bind_some h2;cases h1;cases h2;cases B;cases q;rw[My.nJ,if_neg (λz=>hij (by injection z)),My.DN]
 | tup hlm h ih=>
  intro xs ys h1 h2;rw[fN]at h1 h2;obtain⟨x,B,h1⟩:=bind_some h1;obtain⟨G,J,h1⟩:=bind_some h1;obtain⟨y,q,h2⟩:=bind_some h2;obtain⟨F,M,h2⟩:=bind_some h2;cases h1;cases h2;rw[gZ]at B q;obtain⟨W,U,rfl⟩:=map_some B;obtain⟨Y,N,rfl⟩:=map_some q;rw[My.nJ,if_neg (λz=>hlm (mK U (by injection z with z;rw[z];exact N))),My.DN];exact ih U N
theorem D5{l m:List D}{b:Bool}(h:LtDs l m b)(B:fR (.tup l)=true)(F:fR (.tup m)=true):A5 (.tup l) (.tup m)=some (.bl b):=by
 unfold A5;rw[if_pos ⟨B,F⟩];obtain⟨x,z,_,_⟩:=gW B;obtain⟨y,q,_,_⟩:=gW F;rw[z,q,aA,aA];rw[gZ]at z q;obtain⟨xs,G,rfl⟩:=map_some z;obtain⟨ys,J,rfl⟩:=map_some q;rw[My.DN,U3 h G J];rfl
theorem EK:∀ {ns ms:List Int},LtDs (ns.map .int) (ms.map .int) (HT.lexLt ns ms)
 | [],[]=>.nil
 | [],_::_=>.less
 | _::_,[]=>.more
 | n::ns,m::ms=>by
  rw[HT.k9];by_cases h:n=m
  ·rw[if_pos h,h];exact .eq EK
  ·rw[if_neg h];exact .int h
theorem pU{a z s:Int}{l q:List (Int×Int)}(e:l.map (·.2)=q.map (·.2))(h:GJ l)(h':GJ q)(B:a<z):aX 0 ((a,s)::l)<aX 0 ((z,s)::q):=by
 rw[aX,aX,dQ l,dQ q,<- e,zdR,zbk,zbk];dsimp only;have b:=(kD h).2;have c:=(kD h').1;have p:0<=i9 (l.map (·.2)):=by have:=(kD h).1;lia
 have:=zep (show a+1<=z by lia) p;rw[zdN,Int.one_mul]at this
 lia
theorem FT{a s:Int}{l q:List (Int×Int)}(e:l.map (·.2)=q.map (·.2)):aX 0 ((a,s)::l)<aX 0 ((a,s)::q)↔aX 0 l<aX 0 q:=by
 rw[aX,aX,dQ l,dQ q,<- e];lia
def its:Rg->List D
 | .name x _ w=>[.str "name",.str x,tupI w]
 | .num n j w=>[.str "number",.int n,.int j,tupI w]
 | .use1 v _ p w=>[.str "use",.int (v:Int),.tup [rd p],tupI w]
 | .use2 v _ p q w=>[.str "use",.int (v:Int),.tup [rd p,rd q],tupI w]
 | .lett x j p q=>[.str "let",.str x,.int j,rd p,rd q]
 | .pick c k p q r w=>[.str "pick",.int c,.int k,rd p,rd q,rd r,tupI w]
 | .again n k x p q w=>[.str "again",.int n,.int k,.str x,rd p,rd q,tupI w]
theorem b6(g:Rg):rd g=.tup (its g):=by cases g <;> rfl
structure Ord(C:Bk)(g g':Rg)(e:eI)(k:Int):Prop where
 eq:aW C g e k=aW C g' e k->rd g=rd g'
 ne:¬ aW C g e k=aW C g' e k->¬ rd g=rd g'
 lt:¬ aW C g e k=aW C g' e k->LtDs (its g) (its g') (decide (aW C g e k<aW C g' e k))
theorem zZ{C:Bk}:∀(gs gs':List Rg) (l:List Sb) (t t':Int×Int),gs.length=l.length->gs'.length=l.length->(∀(i:Nat) (q G:Rg) (s:Sb),gs[i]?=some q->gs'[i]?=some G->l[i]?=some s->Ord C q G s.2.2.1 s.2.2.2)->GJ (fK C gs l++[t])->GJ (fK C gs' l++[t'])->t.2=t'.2->
  (gs.map rd=gs'.map rd/\(aX 0 (fK C gs l++[t])<aX 0 (fK C gs' l++[t'])↔t.1<t'.1)/\(aX 0 (fK C gs l++[t])=aX 0 (fK C gs' l++[t'])↔t.1=t'.1)) \/
  (¬ gs.map rd=gs'.map rd/\¬ aX 0 (fK C gs l++[t])=aX 0 (fK C gs' l++[t'])/\∀x y,LtDs (gs.map rd++x) (gs'.map rd++y) (decide (aX 0 (fK C gs l++[t])<aX 0 (fK C gs' l++[t']))))
 | [],gs',l,t,t',h1,h2,_,_,_,e=>by
  have:l=[]:=List.length_eq_zero_iff.mp h1.symm;subst this;have:gs'=[]:=List.length_eq_zero_iff.mp h2;subst this;refine .inl ⟨rfl,?_,?_⟩ <;> simp_all[fK,aX,zdR]
 | g::gs,[],l,t,t',h1,h2,_,_,_,_=>by simp[-zac,-zab,aA,aB]at h1 h2;lia
 | g::gs,g'::gs',[],t,t',h1,_,_,_,_,_=>by simp[-zac,-zab,aA,aB]at h1
 | g::gs,g'::gs',s::l,t,t',h1,h2,h,r,r',e=>by
  have o:=h 0 g g' s rfl rfl rfl;have F:GJ (fK C gs l++[t]):=λp N=>r p (zap _ N)
  have B:GJ (fK C gs' l++[t']):=λp N=>r' p (zap _ N)
  have sz:(fK C gs l++[t]).map (·.2)=(fK C gs' l++[t']).map (·.2):=by
   rw[zaJ,zaJ,mX (by simpa using h1.symm),mX (by simpa using h2.symm)];simp_all[e]
  have n1:fK C (g::gs) (s::l)++[t]=(aW C g s.2.2.1 s.2.2.2,nI (kH C s))::(fK C gs l++[t]):=rfl;have n2:fK C (g'::gs') (s::l)++[t']=(aW C g' s.2.2.1 s.2.2.2,nI (kH C s))::(fK C gs' l++[t']):=rfl;rw[n1,n2];by_cases z:aW C g s.2.2.1 s.2.2.2=aW C g' s.2.2.1 s.2.2.2
  ·have er:=o.eq z
   rw[<- z];have a:=FT (a:=aW C g s.2.2.1 s.2.2.2) (s:=nI (kH C s)) sz;have a':=FT (a:=aW C g s.2.2.1 s.2.2.2) (s:=nI (kH C s)) sz.symm;have W:(aX 0 ((aW C g s.2.2.1 s.2.2.2,nI (kH C s))::(fK C gs l++[t]))=aX 0 ((aW C g s.2.2.1 s.2.2.2,nI (kH C s))::(fK C gs' l++[t'])))↔aX 0 (fK C gs l++[t])=aX 0 (fK C gs' l++[t']):=by
    rw[aX,aX,dQ (fK C gs l++[t]),dQ (fK C gs' l++[t']),<- sz];lia
   rcases zZ gs gs' l t t' (by simpa using h1) (by simpa using h2) (λi q G s a b c=>h (i+1) q G s (by simpa using a) (by simpa using b) (by simpa using c)) F B e with⟨M,U,J⟩|⟨M,U,J⟩
   ·exact .inl ⟨by rw[zak,zak,er,M],a.trans U,W.trans J⟩
   ·refine .inr ⟨λq=>M (by rw[zak,zak]at q;injection q),λq=>U (W.mp q),λx y=>?_⟩
    rw[zak,zak,er,decide_eq_decide.mpr a];exact .eq (J x y)
  ·have Y:=o.ne z
   have lt:=o.lt z;refine .inr ⟨λq=>Y (by rw[zak,zak]at q;injection q),?_,λx y=>?_⟩
   ·rcases Int.lt_or_gt_of_ne z with q|q
    ·have:=pU (s:=nI (kH C s)) sz F B q;lia
    ·have:=pU (s:=nI (kH C s)) sz.symm B F q;lia
   ·have eb:decide (aX 0 ((aW C g s.2.2.1 s.2.2.2,nI (kH C s))::(fK C gs l++[t]))<aX 0 ((aW C g' s.2.2.1 s.2.2.2,nI (kH C s))::(fK C gs' l++[t'])))=decide (aW C g s.2.2.1 s.2.2.2<aW C g' s.2.2.1 s.2.2.2):=by
     refine decide_eq_decide.mpr ⟨λq=>?_,λq=>pU sz F B q⟩;rcases Int.lt_or_gt_of_ne z with w|w
     ·exact w
     ·have:=pU (s:=nI (kH C s)) sz.symm B F w;lia
    rw[eb,zak,zak,b6 g,b6 g'];refine .tup (λq=>Y (by rw[b6 g,b6 g',q])) lt
theorem AB:∀ {a b:List Int},HT.lexLt a b=true->HT.lexLt b a=false
 | [],[],h=>by simp[-zac,-zab,aA,aB,HT.lexLt]at h
 | [],_::_,_=>rfl
 | _::_,[],h=>by simp[-zac,-zab,aA,aB,HT.lexLt]at h
 | x::a,y::b,h=>by
  rw[HT.k9]at h ⊢;by_cases e:x=y
  ·rw[if_pos e]at h
   rw[if_pos e.symm];exact AB h
  ·rw[if_neg e]at h
   rw[if_neg (λz=>e z.symm)];have:=of_decide_eq_true h;exact decide_eq_false (by lia)
theorem O6{rs:List Ro}{j k:Int}{w B:List Int}(h:w∈bG rs k 8 j)(h':B∈bG rs k 8 j):((bG rs k 8 j).idxOf w=(bG rs k 8 j).idxOf B->w=B)/\(¬ (bG rs k 8 j).idxOf w=(bG rs k 8 j).idxOf B->¬ w=B/\HT.lexLt w B=decide ((bG rs k 8 j).idxOf w<(bG rs k 8 j).idxOf B)):=by
 have G:=zdO h;have F:=zdO h';have g1:=zer G;have g2:=zer F;have J:=List.pairwise_iff_getElem.mp (jN (rs:=rs) (k:=k) 8 j);refine⟨λe=>?_,λe=>⟨λz=>e (by rw[z]),?_⟩⟩
 ·rw[<- g1,<- g2];congr 1
 ·by_cases q:(bG rs k 8 j).idxOf w<(bG rs k 8 j).idxOf B
  ·have:=J _ _ G F q
   rw[g1,g2]at this;rw[this,decide_eq_true q]
  ·have:=J _ _ F G (by lia)
   rw[g1,g2]at this;rw[AB this,decide_eq_false q]
def Z2:Pa->D->List D
 | .name x,_=>[.str "name",.str x]
 | .num n j,_=>[.str "number",.int n,.int j]
 | .use1 ..,c=>[.str "use",c]
 | .use2 ..,c=>[.str "use",c]
 | .lett x ..,c=>[.str "let",.str x,c]
 | .pick c k ..,_=>[.str "pick",.int c,.int k]
 | .again n k x ..,_=>[.str "again",.int n,.int k,.str x]
def RW:Pa->List D->List Int->List D
 | .use1 ..,ks,w=>[.tup ks,tupI w]
 | .use2 ..,ks,w=>[.tup ks,tupI w]
 | .lett ..,ks,_=>ks++[]
 | _,ks,w=>ks++[tupI w]
noncomputable def ltP:Pa->Bool
 | .lett ..=>true
 | _=>false
noncomputable def isC:Pa->Bool
 | .use1 ..=>true
 | .use2 ..=>true
 | .lett ..=>true
 | _=>false
noncomputable def pr1:Pa->List D
 | .lett x ..=>[.str "let",.str x]
 | _=>[.str "use"]
theorem L0(g:Rg):its g=Z2 (pa g) (ch g)++RW (pa g) ((bY g).map rd) (wy g):=by cases g <;> rfl
theorem MB(g:Rg)(h:ltP (pa g)=true):wy g=[]:=by cases g <;> first|rfl|cases h
theorem SC(g:Rg)(h:isC (pa g)=false):ch g=.non:=by cases g <;> first|rfl|cases h
theorem SS(g:Rg)(h:isC (pa g)=true):∃(v:Int) (r:List D),its g=pr1 (pa g)++.int v::r/\ch g=.int v:=by cases g <;> first|exact⟨_,_,rfl,rfl⟩|cases h
theorem HV(p:Pa):(∀ks w,RW p ks w=ks++[tupI w])\/(∀ks w,RW p ks w=[.tup ks,tupI w])\/((∀ks w,RW p ks w=ks++[])/\ltP p=true):=by
 cases p <;> first|exact .inl λ_ _=>rfl|exact .inr (.inl λ_ _=>rfl)|exact .inr (.inr ⟨λ_ _=>rfl,rfl⟩)
theorem JZ{g g':Rg}(B:pa g=pa g')(J:¬ ch g=ch g'):∃(pre:List D) (v q:Int) (r z:List D),its g=pre++.int v::r/\its g'=pre++.int q::z/\ch g=.int v/\ch g'=.int q:=by
 by_cases h:isC (pa g)=true
 ·obtain⟨v,r,a,b⟩:=SS g h
  obtain⟨q,z,F,G⟩:=SS g' (B ▸ h);exact⟨pr1 (pa g),v,q,r,z,a,B ▸ F,b,G⟩
 ·have h:=Bool.eq_false_iff.mpr h
  exact absurd ((SC g h).trans (SC g' (B ▸ h)).symm) J
theorem HA{g g':Rg}(q:pa g=pa g')(z:ch g=ch g'):∃pre:List D,(its g=pre++((bY g).map rd++[tupI (wy g)])/\its g'=pre++((bY g').map rd++[tupI (wy g')]))\/(its g=pre++[.tup ((bY g).map rd),tupI (wy g)]/\its g'=pre++[.tup ((bY g').map rd),tupI (wy g')])\/(its g=pre++((bY g).map rd++[])/\its g'=pre++((bY g').map rd++[])/\wy g=wy g'):=by
 refine⟨Z2 (pa g) (ch g),?_⟩;have a:=L0 g;have b:=L0 g';rw[<- q,<- z]at b;rw[a,b];rcases HV (pa g)with h|h|⟨h,t⟩
 ·exact .inl ⟨by rw[h],by rw[h]⟩
 ·exact .inr (.inl ⟨by rw[h],by rw[h]⟩)
 ·exact .inr (.inr ⟨by rw[h],by rw[h],by rw[MB g t,MB g' (q ▸ t)]⟩)
theorem ord{C:Bk}(B:OkB C){U:List Str}:∀(n:Nat) (g g':Rg) (kn kn':List (Str×Int)) (d:List (Key×D)) (e:eI) (k:Int),size g<=n->pa g=pa g'->WI C U kn g d e k->WI C U kn' g' d e k->Ord C g g' e k
 | 0,g,g',kn,kn',d,e,k,h,_,_,_=>by have:=dW (pa g);rw[cC]at this;lia
 | n+1,g,g',kn,kn',d,e,k,h,hp,w,w'=>by
  have cm:=nX B w.ok w.wf;have am:=nX B w'.ok w'.wf;obtain⟨t,ht⟩:=zcb cm;obtain⟨t',F⟩:=zcb am;have n1:=pW C g d e k;have n2:=pW C g' d e k;rw[qE ht]at n1;rw[qE F]at n2;have j1:=w.join B;have j2:=w'.join B;have z1:(fK C (bY g) (sb C (pa g) d e k (ch g))++[fS C (cE C (pa g) e k (ch g)) k (wy g)])=vY C g d e k:=rfl;have z2:(fK C (bY g') (sb C (pa g') d e k (ch g'))++[fS C (cE C (pa g') e k (ch g')) k (wy g')])=vY C g' d e k:=rfl;rw[z1]at n1;rw[z2]at n2;have nn:=CQ C (pa g) d e k;have so:=List.pairwise_iff_getElem.mp (rX C (pa g));have s1:=jT (f:=uK C (pa g) d e k) ht;rw[<- hp]at F n2 j2;have s2:=jT (f:=uK C (pa g) d e k) F;have M:=List.getElem?_eq_some_iff.mp ht;have W:=List.getElem?_eq_some_iff.mp F;by_cases N:ch g=ch g'
  ·-- the same choice
   have tt:t=t':=by
    rcases Nat.lt_trichotomy t t' with q|q|q
    ·have:=so t t' M.1 W.1 q;rw[M.2,W.2,N]at this;lia
    ·exact q
    ·have:=so t' t W.1 M.1 q;rw[M.2,W.2,N]at this;lia
   subst tt;have I:=w.pi B;have sl:=xS B w;have ac:=xS B w';have r1:=w.inr B;have r2:=w'.inr B;have wk:=xV w.ec w.wf;have aa:=xV w'.ec w'.wf;unfold vY at r1 r2 n1 n2;rw[<- hp,<- N]at r2 ac aa n2;have k6:=B.k6;have bo:=xK B I cm;have m1:=jY B.gr (n:=8) (by have:=I.k1;lia) wk;have m2:=jY B.gr (n:=8) (by have:=I.k1;lia) aa;have wo:=O6 m1 m2;have ko:=zZ (bY g) (bY g') (sb C (pa g) d e k (ch g)) (fS C (cE C (pa g) e k (ch g)) k (wy g)) (fS C (cE C (pa g) e k (ch g)) k (wy g')) sl.symm ac.symm (λi q q' s a b c=>by
    obtain⟨e1,al,w1⟩:=w.at B a c;obtain⟨e2,aq,w2⟩:=w'.at B b (by rw[<- hp,<- N];exact c);exact ord B n q q' al aq _ _ _ (by have:=w6 (zax a);lia) (by rw[<- e1,<- e2]) w1 w2) r1 r2 rfl
   generalize aX 0 (fK C (bY g) (sb C (pa g) d e k (ch g))++[fS C (cE C (pa g) e k (ch g)) k (wy g)])=J at *;generalize aX 0 (fK C (bY g') (sb C (pa g) d e k (ch g))++[fS C (cE C (pa g) e k (ch g)) k (wy g')])=J' at *;have en:aW C g e k=aW C g' e k↔J=J':=by lia
   have el:decide (aW C g e k<aW C g' e k)=decide (J<J'):=decide_eq_decide.mpr (by lia);obtain⟨pre,Y⟩:=HA hp N;unfold fS at ko;simp only at ko;rcases ko with⟨k1,k2,k3⟩|⟨k1,k2,k3⟩
   ·have ri:∀ {a b:List D},its g=a->its g'=b->a=b->rd g=rd g':=λh1 h2 h3=>by rw[b6,b6,h1,h2,h3]
    refine⟨λq=>?_,λq z=>?_,λq=>?_⟩
    ·have i1:=k3.mp (en.mp q)
     have G:=wo.1 (by lia);rcases Y with⟨a,b⟩|⟨a,b⟩|⟨a,b,_⟩
     ·exact ri a b (by rw[k1,G])
     ·exact ri a b (by rw[k1,G])
     ·exact ri a b (by rw[k1])
    ·have i1:¬ (bG C.rs k 8 (cE C (pa g) e k (ch g))).idxOf (wy g)=(bG C.rs k 8 (cE C (pa g) e k (ch g))).idxOf (wy g'):=λy=>q (en.mpr (k3.mpr (by lia)))
     have G:=(wo.2 i1).1;rw[b6,b6]at z;injection z with z
     rcases Y with⟨a,b⟩|⟨a,b⟩|⟨a,b,c⟩
     ·rw[a,b,k1]at z
      have:=zcs (zcs z);exact G (rZ (by simpa using this))
     ·rw[a,b,k1]at z
      have:=zcs z;exact G (rZ (by simpa using this))
     ·exact G c
    ·have i1:¬ (bG C.rs k 8 (cE C (pa g) e k (ch g))).idxOf (wy g)=(bG C.rs k 8 (cE C (pa g) e k (ch g))).idxOf (wy g'):=λy=>q (en.mpr (k3.mpr (by lia)))
     obtain⟨G,lw⟩:=wo.2 i1;have ne:¬ (wy g).map D.int=(wy g').map D.int:=λz=>G (rZ (by unfold tupI;rw[z]))
     have lt:=EK (ns:=wy g) (ms:=wy g');rw[el,decide_eq_decide.mpr (k2.trans (by lia:_↔(bG C.rs k 8 (cE C (pa g) e k (ch g))).idxOf (wy g)<(bG C.rs k 8 (cE C (pa g) e k (ch g))).idxOf (wy g'))),<- lw];rcases Y with⟨a,b⟩|⟨a,b⟩|⟨a,b,c⟩
     ·rw[a,b,k1]
      exact LtDs.pre (LtDs.pre (.tup ne lt) _) _
     ·rw[a,b,k1]
      exact LtDs.pre (.eq (.tup ne lt)) _
     ·exact absurd c G
   ·refine⟨λq=>absurd (en.mp q) k2,λq z=>?_,λq=>?_⟩
    ·rw[b6,b6]at z
     injection z with z
     rcases Y with⟨a,b⟩|⟨a,b⟩|⟨a,b,c⟩
     ·rw[a,b]at z
      have:=zcs z;exact k1 (List.append_inj_left' this rfl)
     ·rw[a,b]at z
      have:=zcs z;exact k1 (by simpa using(List.cons.inj this).1)
     ·rw[a,b,zbb,zbb]at z
      exact k1 (zcs z)
    ·rw[el]
     rcases Y with⟨a,b⟩|⟨a,b⟩|⟨a,b,c⟩
     ·rw[a,b];exact LtDs.pre (k3 _ _) _
     ·rw[a,b]
      have:=k3 [] [];rw[zbb,zbb]at this;exact LtDs.pre (.tup k1 this) _
     ·rw[a,b];exact LtDs.pre (k3 _ _) _
  ·-- another choice
   obtain⟨pre,v,v',r,r',a1,a2,c1,c2⟩:=JZ hp N;have hv:¬ v=v':=λz=>N (by rw[c1,c2,z])
   have lv:(v<v'/\aW C g e k<aW C g' e k)\/(v'<v/\aW C g' e k<aW C g e k):=by
    rcases Nat.lt_trichotomy t t' with q|q|q
    ·have o:=so t t' M.1 W.1 q
     rw[M.2,W.2,c1,c2]at o;have m:=mQ nn (l:=bR C (pa g)) (i:=t+1) (j:=t') (by lia);exact .inl ⟨o,by lia⟩
    ·subst q;rw[ht]at F;injection F with z;exact absurd z N
    ·have o:=so t' t W.1 M.1 q
     rw[M.2,W.2,c1,c2]at o;have m:=mQ nn (l:=bR C (pa g)) (i:=t'+1) (j:=t) (by lia);exact .inr ⟨o,by lia⟩
   refine⟨λq=>by lia,λq z=>?_,λq=>?_⟩
   ·rw[b6,b6,a1,a2]at z
    injection z with z
    have:=(List.cons.inj (zcs z)).1;injection this with this
    exact hv this
   ·rw[a1,a2,decide_eq_decide.mpr (by lia:aW C g e k<aW C g' e k↔v<v')]
    exact LtDs.pre (.int hv) _
theorem v4(ns:List Int):∃v:Int,iC [.lst (ns.map .int)]=some (.int v)/\0<=v:=by
 suffices h:∃d,iC [.lst (ns.map .int)]=some d/\∃v:Int,d=.int v/\0<=v by
  obtain⟨d,h1,v,rfl,h2⟩:=h;exact⟨v,h1,h2⟩
 have q:(10:Int)^60=1000000000000000000000000000000000000000000000000000000000000:=by decide +kernel
 have pw:NJ (.int 10) (.int 60)=some (.int 1000000000000000000000000000000000000000000000000000000000000):=by
  rw[F5 (by decide) (by decide) (by decide)];exact congrArg (λx=>some (D.int x)) q
 refine dO ?_;unfold mE;rw[aF (aM (d:=.int 7) (by simp[-zac,-zab,aA,aB]))];refine iX (items:=ns.map .int) (by simp_all[aH]) (λi ρ=>∃(v:Int) (o:Option D),ρ=[some (.lst (ns.map .int)),some (.int v),o]/\0<=v/\v<10^60) ⟨7,none,by simp_all[aH],by decide,by decide +kernel⟩ ?_ ?_
 ·rintro i x ρ hx ⟨v,o,rfl,z,F⟩
  rw[zaC]at hx;obtain⟨c,_,rfl⟩:=Option.map_eq_some_iff.mp hx;have b:(10:Int)^60<10^250:=by decide +kernel
  have B:cR (.int v) (.int 1000003)=some (.int (v*1000003)):=cF (by lia) (by lia) (by decide +kernel) (by decide +kernel);refine⟨[some (.lst (ns.map .int)),some (.int ((v*1000003+c)%1000000000000000000000000000000000000000000000000000000000000)),some (.int c)],?_,_,_,rfl,zas _ (by decide),?_⟩
  ·simp_all[turn,B,pw,bQ]
  ·rw[q];exact zau _ (by decide)
 ·rintro ρ ⟨v,o,rfl,z,F⟩
  exact⟨_,by simp[-zac,-zab,aA,aB],v,rfl,z⟩
def qg(p:Str×Int):Key×D:=(.inr p.1,.int p.2)
theorem EX:∀l:List (Str×Int),DL (l.map bT)=some (l.map qg)
 | []=>rfl
 | p::l=>by
  show(W1 (.str p.1)).bind _=_;show(some (.inr p.1:Key)).bind _=_;rw[aA,EX l];rfl
theorem vI:∀(l kn:List (Str×Int)) (acc:List (Key×D)),Cons acc kn->(l.map (·.1)++kn.map (·.1)).Nodup->Cons (kU acc (l.map qg)) (l++kn)
 | [],kn,acc,h,_=>h
 | p::l,kn,acc,h,nd=>by
  rw[zak,zdK,List.nodup_cons]at nd;have F:p.1∉kn.map (·.1):=λz=>nd.1 (zaV _ z)
  have h2:=h.put (j:=p.2) F;have B:(l.map (·.1)++((p.1,p.2)::kn).map (·.1)).Nodup:=by
   have a:=List.nodup_append.mp nd.2;rw[zak,zeo];refine⟨a.1,List.nodup_cons.mpr ⟨F,a.2.1⟩,λy J z M=>?_⟩;rcases List.mem_cons.mp M with e|e
   ·intro w;exact nd.1 (zbv _ (by rw[<- e,<- w];exact J))
   ·exact a.2.2 y J z e
  have ih:=vI l ((p.1,p.2)::kn) (putD acc (.inr p.1) (.int p.2)) h2 B;show Cons (kU (putD acc (.inr p.1) (.int p.2)) (l.map qg)) _;intro q G;refine ih q ?_;rw[zdK]at G;rcases List.mem_cons.mp G with z|z
  ·rw[z];exact zaV _ (zat ..)
  ·rcases List.mem_append.mp z with z|z
   ·exact zbv _ z
   ·exact zaV _ (zap _ z)
theorem yU:∀(l:List (Key×D)) (acc:List (Key×D)),(kU acc l).length<=acc.length+l.length
 | [],acc=>by show acc.length<=_;simp[-zac,-zab,aA,aB]
 | p::l,acc=>by
  have:=yU l (putD acc p.1 p.2);have:=sC (d:=acc) (k:=p.1) (e:=p.2);show(kU (putD acc p.1 p.2) l).length<=_;rw[zaw];lia
theorem CJ{l:List (Str×Int)}(B:(l.map (·.1)).Nodup)(G:l.length<=100):∃d,gX [.lst (l.map bT)]=some (.dK d)/\gX [.tup (l.map bT)]=some (.dK d)/\Cons d l/\d.length<=100:=by
 have F:a7 (l.map bT).length=true:=decide_eq_true (by rw[zal];lia);have q:gX [.lst (l.map bT)]=(if a7 (l.map bT).length=true then(DL (l.map bT)).map λkvs=>D.dK (kU [] kvs)else none):=rfl;have z:gX [.tup (l.map bT)]=(if a7 (l.map bT).length=true then(DL (l.map bT)).map λkvs=>D.dK (kU [] kvs)else none):=rfl;rw[if_pos F,EX,aB]at q z;have c:=vI l [] [] (λ_ h=>nomatch h) (by simpa using B);rw[zbb]at c;have:=yU (l.map qg) [];simp[-zac,-zab,aA,aB]at this;exact⟨_,q,z,c,by lia⟩
theorem eqN.lst{n:Nat}{l:List D}(h:∀d∈l,eqN n d):eqN (n+1) (.lst l):=by
 obtain⟨xs,e,a,b⟩:=eqN.list h;refine⟨.lst xs,?_,a,?_⟩
 ·rw[gZ,e];rfl
 ·show My.oB xs+1<=n+1
  lia
theorem names8(ns:List Int):∃nms:List Str,nms.length=8/\nms.Nodup/\bD (aQ 0) fJ (aS cA (aC (aS bX (aC (aD 1) (aC (eC (.int 23)) aZ))) (aC (aD 0) aZ))) (aR 0 1 8) [none,some (.lst (ns.map .int))]=some (nms.map .str):=by
 obtain⟨f,N⟩:=dI ns;have q:=(N 23 (by decide) (by decide)).1;obtain⟨nm,e,inj⟩:=Q4 (f 23);have G:=jZ (K:=8) (f:=aS cA (aC (aS bX (aC (aD 1) (aC (eC (.int 23)) aZ))) (aC (aD 0) aZ))) (rest:=[some (.lst (ns.map .int))]) (F:=λi=>.str (nm i)) (λi U i1=>by simp_all[q,e i U (by lia)]) (zar 8) none λk J=>List.mem_range.mp J
 have er:aR 0 1 8=(zar 8).map λ(k:Nat)=>D.int (k:Int):=by
  rw[fP,zav];rfl
 refine⟨(zar 8).map λ(k:Nat)=>nm (k:Int),by simp[-zac,-zab,aA,aB],?_,?_⟩
 ·refine List.nodup_iff_pairwise_ne.mpr ?_
  rw[zel];refine List.Pairwise.imp_of_mem ?_ (List.nodup_range (n:=8));intro a b M W B z;have a1:=List.mem_range.mp M;have Y:=List.mem_range.mp W;have:=inj (a:Int) (b:Int) (by lia) (by lia) z;exact B (by lia)
 ·rw[er,zav]
  exact G
def t9(d:List (Key×D)):eI:=λx=>match eX d (.inr x:Key)with
 | some (.int j)=>j
 | _=>0
theorem YS{d:List (Key×D)}{kn:List (Str×Int)}(h:Cons d kn):EC (t9 d) kn:=λp q=>by unfold t9;rw[h p q]
theorem EH{C:Bk}(B:OkB C):∃at_,tM CA gA gT cQ (bF C)=some at_/\AtD C at_:=by
 obtain⟨q,L2,e,ok⟩:=PM B;exact⟨_,e,q,L2,rfl,ok⟩
theorem UK{C:Bk}(B:OkB C){U:List Str}(J:U.length<=8){z:D}{d:List (Key×D)}(hd:gX [z]=some (.dK d)){kn:List (Str×Int)}{g:Rg}{k:Int}(q:size g<=16)(w:WI C U kn g d (t9 d) k):C0 [bF C,z,pt g,.int k,.int (aW C g (t9 d) k)]=some (rd g):=by
 obtain⟨at_,F,A⟩:=EH B;have G:=C4 C 16 (pa g) (by rw[cC];exact q) (by rw[cC];lia);have N:nN [at_,d3 C (pa g),.dK d,.int k,.int (aW C g (t9 d) k)]=some (rd g):=ML B J A 16 g kn d (t9 d) k q q w;have W:=(w.num B).1;rw[gP];refine aK ?_;unfold MF;generalize d3 C (pa g)=nd at *;generalize rd g=rg at *;generalize aW C g (t9 d) k=n at *;have M:¬ n<0:=by lia
 simp_all[aH,eNew,F,G,N,hd,M]
theorem KU{C:Bk}(B:OkB C){U:List Str}(hU:U.length<=8){M:D}{d:List (Key×D)}(hd:gX [M]=some (.dK d)){p:Pa}{e:eI}{k:Int}(q:psz p<=16)(w:PI' C U p d e k):yW [bF C,M,bK p]=some (.lst ((zar C.kinds.length).map λ(j:Nat)=>.int (nI (aU C p e (j:Int))))):=by
 obtain⟨at_,Y,A⟩:=EH B;have k6:=B.k6;have e2:=C4 C 16 p q (by lia);have e3:∀i:Int,0<=i->i<(C.kinds.length:Int)->dM [at_,d3 C p,.dK d,.int i]=some (memD (aU C p e i)):=λi J G=>GC B hU A 16 p d e i q q ⟨w.ok,J,G,w.hd,w.he,w.dl⟩
 generalize d3 C p=nd at *;have W:=jZ (K:=C.kinds.length) (f:=aS dG (aC (aS dM (aC (aD 1) (aC (aD 2) (aC (aS gX (aC (aD 3) aZ)) (aC (aD 0) aZ))))) aZ)) (rest:=[some at_,some nd,some M]) (F:=λi=>.int (nI (aU C p e i))) (λi J G=>by
  have n:=gI (aU C p e i);simp_all[hd,e3 i J G,n]) (zar C.kinds.length) none λk hk=>List.mem_range.mp hk
 have er:aR 0 1 C.kinds.length=(zar C.kinds.length).map λ(k:Nat)=>D.int (k:Int):=by
  rw[fP,zav];rfl
 have N:b7 [.int (C.kinds.length:Int)]=some (aR 0 1 C.kinds.length):=cH (by lia);have z:a7 C.kinds.length=true:=decide_eq_true (by lia);rw[er]at N;refine aK ?_;unfold AK;rw[aF (aM (d:=at_) (by simp_all[aH,eNew,Y]))];rw[aF (aM (d:=nd) (by simp_all[aH,eNew,e2]))];simp_all[-zav,aH,DG,N,i6,z,W]
theorem WI.si{C:Bk}(B:OkB C){U:List Str}{kn:List (Str×Int)}{g:Rg}{d:List (Key×D)}{e:eI}{k:Int}(w:WI C U kn g d e k):SI C U kn (pa g) d e k:=⟨w.pi B,NW w.wf w.nf,λx hx=>by
 obtain⟨j,q⟩:=fA w.wf x hx;rw[w.ec _ q];exact q⟩
theorem LH{C:Bk}(B:OkB C){U:List Str}{kn:List (Str×Int)}{g:Rg}{d:List (Key×D)}{e:eI}{k0 k:Int}(w:WI C U kn g d e k0)(q:0<=k/\k<(C.kinds.length:Int)){n:Int}(G:0<=n)(F:n<nI (aU C (pa g) e k)):∃g',pa g'=pa g/\size g'=size g/\WI C U kn g' d e k/\aW C g' e k=n:=by
 have s:=w.si B;obtain⟨g',h1,h2,z⟩:=ZY B (psz (pa g)) (pa g) kn d e k n (zai _) ⟨⟨s.pi.ok,q.1,q.2,s.pi.hd,s.pi.he,s.pi.dl⟩,s.pw,s.nk⟩ G F;have sz:size g'=size g:=by rw[<- cC,h1,cC]
 exact⟨g',h1,sz,⟨h2,PaW.nf (by rw[h1];exact s.pw),w.ok,w.ec,w.cd,w.un,by rw[sz];exact w.dl⟩,z⟩
theorem pR{g:Rg}(h:size g<=24):fR (rd g)=true:=(fZ g).ok (by lia)
open Classical in
theorem UT{g g':Rg}(h:size g<=24)(h':size g'<=24):kN (rd g) (rd g')=some (.bl (decide (rd g=rd g'))):=by
 have o:=pR h;have o':=pR h';rw[b6]at o;rw[b6]at o';rw[b6 g,b6 g'];unfold kN JC;rw[if_pos (.inr ⟨rfl,rfl,o,o'⟩)];simp[-zac,-zab,aA,aB]
theorem Q3{i j:Int}:A5 (.int i) (.int j)=some (.bl (decide (i<j))):=by
 have e:∀i:Int,fR (.int i)=true:=λi=>(eqN.int (n:=0) (i:=i)).ok (by decide)
 unfold A5;rw[if_pos ⟨e i,e j⟩,gZ,gZ,aA,aA,My.DN];rfl
open Classical in
theorem B3{C:Bk}(B:OkB C){U:List Str}{kn G:List (Str×Int)}{g g':Rg}{d:List (Key×D)}{e:eI}{k:Int}(hs:size g<=24)(F:size g'<=24)(Y:pa g=pa g')(w:WI C U kn g d e k)(M:WI C U G g' d e k):fU [.int (aW C g e k),rd g,.int (aW C g' e k),rd g']=some (.bl true):=by
 have o:=ord B (size g) g g' kn G d e k (zai _) Y w M;have J:=UT hs F;have W:xX "tuple" (rd g)=true:=by rw[b6];rfl
 have N:xX "tuple" (rd g')=true:=by rw[b6];rfl
 have o1:oA (rd g)=true:=by rw[b6];rfl
 have o2:oA (rd g')=true:=by rw[b6];rfl
 have l1:=Q3 (i:=aW C g e k) (j:=aW C g' e k);have er:decide (rd g=rd g')=decide (aW C g e k=aW C g' e k):=decide_eq_decide.mpr ⟨λz=>Classical.byContradiction λq=>o.ne q z,o.eq⟩;have lt:A5 (rd g) (rd g')=some (.bl (decide (aW C g e k<aW C g' e k))):=by
  have k1:=pR hs;have k2:=pR F;by_cases z:aW C g e k=aW C g' e k
  ·rw[o.eq z,decide_eq_false (by lia)]
   rw[b6]at k2;rw[b6 g'];exact D5 (LtDs.refl _) k2 k2
  ·rw[b6]at k1 k2
   rw[b6 g,b6 g'];exact D5 (o.lt z) k1 k2
 refine aK ?_;unfold jB;rw[er]at J;generalize rd g=rg at *;generalize rd g'=rg' at *;generalize aW C g e k=n at *;generalize aW C g' e k=m at *;simp_all[aH,W,N,o1,o2,lt,l1,J]
theorem Y1(ns:List Int)(hn:ns.length<=63):bJ 12 M8 [.lst (ns.map .int)]=some (.bl true):=by
 obtain⟨C,hC,B⟩:=B8 ns;obtain⟨nms,h8,F,en⟩:=names8 ns;obtain⟨ps,ep,P,W,q⟩:=yG (ns:=ns) B h8;obtain⟨g,k,r,eg,G⟩:=yP hn B h8 F P W q;obtain⟨v,ev,v0⟩:=v4 ns;have k6:=B.k6;have gs:=G.sz;have r8:b7 [.int 8]=some (aR 0 1 8):=cH (n:=8) (by decide);have z8:a7 8=true:=rfl;have Y:(ps.map (·.1)).Nodup:=by rw[q];exact(zdi ..).nodup F
 obtain⟨d,dl,dt,cd,ld⟩:=CJ Y (by lia);have w:WI C nms ps g d (t9 d) k:=⟨G.wf,G.nf,P,YS cd,cd,λp W=>(zdi ..).subset (q ▸ List.mem_map.mpr ⟨p,W,rfl⟩),by lia⟩;have hU:nms.length<=8:=by lia
 have ct:=KU B hU dl (by rw[cC];lia) (w.pi B);rw[<- gP]at ct;have nn:=w.num B;have ah:gD ((zar C.kinds.length).map λ(j:Nat)=>D.int (nI (aU C (pa g) (t9 d) (j:Int)))) k=some (.int (nI (aU C (pa g) (t9 d) k))):=by
  have k0:=G.k0;have k1:=G.k1;have e1:((k.toNat:Nat):Int)=k:=by lia
  have:((zar C.kinds.length).map λ(j:Nat)=>D.int (nI (aU C (pa g) (t9 d) (j:Int))))[k.toNat]?=some (.int (nI (aU C (pa g) (t9 d) k))):=by
   rw[zaC,zcV (by lia),zab,e1]
  have:=bV this
  rwa [e1]at this
 have big:nI (aU C (pa g) (t9 d) k)<10^500:=Int.lt_trans (C9 (mY B _ (pa g) (zai _) _ _) (by rw[cC];lia)) (by decide +kernel);have tk:∀n,0<=n->n<nI (aU C (pa g) (t9 d) k)->∃g',pa g=pa g'/\size g'=size g/\WI C nms ps g' d (t9 d) k/\aW C g' (t9 d) k=n/\C0 [bF C,.lst (ps.map bT),pt g,.int k,.int n]=some (rd g'):=λn n0 J=>by
  obtain⟨g',a,b,c,e⟩:=LH B w ⟨G.k0,G.k1⟩ n0 J;refine⟨g',a.symm,b,c,e,?_⟩;have:=UK B hU dl (by lia) c;rw[e,gP,a,<- gP]at this;exact this
 generalize ((zar C.kinds.length).map λ(j:Nat)=>D.int (nI (aU C (pa g) (t9 d) (j:Int))))=CL at *;have M:∀g1 g2,pa g=pa g1->pa g=pa g2->size g1=size g->size g2=size g->WI C nms ps g1 d (t9 d) k->WI C nms ps g2 d (t9 d) k->fU [.int (aW C g1 (t9 d) k),rd g1,.int (aW C g2 (t9 d) k),rd g2]=some (.bl true):=λg1 g2 a b c e U N=>B3 B (by lia) (by lia) (a.symm.trans b) U N
 generalize nI (aU C (pa g) (t9 d) k)=sz at *;have sp:0<sz:=by lia
 have sn:¬ sz=0:=by lia
 have z:∀y:Int,0<=y%sz/\y%sz<sz:=λy=>⟨zas _ (by lia),zau _ sp⟩
 obtain⟨g1,a1,b1,U,J,t1⟩:=tk (v%sz) (z _).1 (z _).2;obtain⟨g2,a2,b2,N,n2,t2⟩:=tk ((v+1)%sz) (z _).1 (z _).2;obtain⟨g3,a3,b3,w3,n3,t3⟩:=tk (v/sz%sz) (z _).1 (z _).2;have i1:=M g1 g3 a1 a3 b1 b3 U w3;have i2:=M g2 g1 a2 a1 b2 b1 N U;have i3:=M g3 g2 a3 a2 b3 b2 w3 N;rw[J,n3]at i1;rw[n2,J]at i2;rw[n3,n2]at i3;clear M tk nn;generalize rd g1=x1 at *;generalize rd g2=x2 at *;generalize rd g3=x3 at *;have az:dE (.int v) (.int sz)=some (.int (v%sz)):=bQ sp;have ax:dE (.int (v+1)) (.int sz)=some (.int ((v+1)%sz)):=bQ sp;have a5:dE (.int (v/sz)) (.int sz)=some (.int (v/sz%sz)):=bQ sp;have dd:NB (.int v) (.int sz)=some (.int (v/sz)):=MS sp big;refine aK ?_;unfold M8;rw[aF (aM (d:=bF C) (by ac_rfl))];rw[aF (aM (d:=.lst (nms.map .str)) (by simp_all[aH,r8,bI,z8,i6,en]))];rw[aF (aM (d:=.lst (ps.map bT)) (by ac_rfl))];rw[aF (aM (d:=bE C g k r) (by ac_rfl))];generalize ps.map bT=pl at *;rw[aF (aM (d:=pt g) (by ac_rfl))];rw[aF (aM (d:=.int k) (by ac_rfl))];generalize pt g=pg at *;rw[aF (aM (d:=.int sz) (by ac_rfl))];have de:kN (.int sz) (.int 0)=some (.bl false):=by simp_all[sn]
 rw[aF (Y6 (f:=JD (eC (.bl false))) (g:=R7) (c:=_) (by ac_rfl))];rw[aF (ρ':=[some (.lst (ns.map .int)),some (bF C),some (.lst (nms.map .str)),some (.lst pl),some (bE C g k r),some pg,some (.int k),some (.int sz),some (.int v),none,none,none]) (by ac_rfl)];generalize v%sz=y1 at *;generalize (v+1)%sz=y2 at *;generalize v/sz%sz=y3 at *;rw[aF (aM (d:=.lst [.int y1,.int y2,.int y3]) (by ac_rfl))];rw[aF (ρ':=[some (.lst (ns.map .int)),some (bF C),some (.lst (nms.map .str)),some (.lst pl),some (bE C g k r),some pg,some (.int k),some (.int sz),some (.int v),some (.lst [.int y1,.int y2,.int y3]),some (.lst [x1,x2,x3]),none]) (by ac_rfl)];have r3:b7 [.int 3]=some [.int 0,.int 1,.int 2]:=cH (n:=3) (by decide);have am:∀ {a b c:D},gD [a,b,c] (-1)=some c:=rfl;have e0:((0:Int)-1)=-1:=rfl;rw[aF (ρ':=[some (.lst (ns.map .int)),some (bF C),some (.lst (nms.map .str)),some (.lst pl),some (bE C g k r),some pg,some (.int k),some (.int sz),some (.int v),some (.lst [.int y1,.int y2,.int y3]),some (.lst [x1,x2,x3]),some (.int 2)]) (by ac_rfl)];simp[-zac,-zab,aA,aB]
theorem qt:Bds top tab:=by
 unfold tab
 repeat (refine Bds.cons ?_ ?_;· (repeat intro _);rfl)
 exact Bds.nil
theorem T6{l:zee}{w:World}{K:zae}{h:Heap}{mg:Str->Option Value}{fa:Addr}{k:Nat}(X:K.In h)(G:h.Ns zaK mg)(ac:mg "law" = some (.ref fa))(D:Des K top tab)(B:Nos K blt)(J:Gis K gis)
  {f0:Addr} {aa U:Option Addr} {Y:Array (Option Value)} {ab F z N q M:Value} (a0:zbY K zaK "law" = some (some (.ref f0))) (l0:K.lookup f0=some ⟨ab,aa,.func (zbh "law" "law" (d6 s_law) (bU s_law) (aL s_law) .none F z N U q M),Y⟩) (c0:zcl K q "law" = true) (k0:zbG K (.ref f0)=true)
  (oqNode:ObQ K "Node" "Node.__init__" (inClass (top 16) 0) CN ["part", "below", "names", "found"])
  (oqAtlas:ObQ K "Atlas" "Atlas.__init__" (inClass (top 18) 0) CA ["book", "routes", "spans"])
  (ok:∀base:Heap,K.In base->base.Ns zaK mg->Txt K mg->My.BodyOk l.prog w K mg base "law" s_law ["script", "tome", "names", "pairs", "state", "part", "kind", "size", "n", "some", "found", "k"] k (My.AY K)) :
  ∃fd:zbf,(∀(s:zad) (v:Value),BindsTo s fd ⟨[v],[]⟩ [("script",v)])/\∀base:Heap,K.In base->base.Ns zaK mg->FnOk l.prog w K mg base uL (k+1) fa fd ["script"] (My.AY K):=by
 have e:=ac.symm.trans (zdJ X G a0);cases e;have F0:=DB (st:=s_law) l0 c0 k0;have T:Txt K mg:=⟨Des.d X G D qt,λx hx=>PySem.W.mg_none_of X G (B x hx),Gis.d X G J,oqNode.t X G λ_ _ _ _ _ _ _ _=>rfl,oqAtlas.t X G λ_ _ _ _ _ _ _ _=>rfl⟩;refine⟨zbh "law" "law" (d6 s_law) (bU s_law) (aL s_law) .none F z N U q M,λs v=>.of_eq rfl,λbase kb nb=>?_⟩;exact(ok base kb nb T).fn F0 sc_law (λvs H Q E h=>by obtain⟨a,ns,e,_⟩:=h;rw[e];rfl)
end Law
namespace PySem.W.Fast
theorem tw16947360322631298980:0=0:=rfl
theorem tw1977165149075366262:0=0:=rfl
theorem tw6424753156594779248:0=0:=rfl
theorem tw18124375057177482330:0=0:=rfl
theorem tw3771480450331617850:0=0:=rfl
theorem tw2337527292673913096:0=0:=rfl
theorem tw2969689646543717533:0=0:=rfl
theorem tw325571007692824711:0=0:=rfl
theorem tw5873469729990946662:0=0:=rfl
theorem tw17965933090091259349:0=0:=rfl
theorem tw18319048370855212230:0=0:=rfl
theorem tw9838829229121803977:0=0:=rfl
theorem tw18014463350866242997:0=0:=rfl
theorem tw7287814994261158879:0=0:=rfl
theorem tw4990890884294552444:0=0:=rfl
theorem tw7531700543646919774:0=0:=rfl
theorem tw6979048060613456844:0=0:=rfl
theorem tw415608747295006424:0=0:=rfl
theorem tw2650468088050103730:0=0:=rfl
theorem tw13396459190119451939:0=0:=rfl
theorem tw17536469744981131076:0=0:=rfl
theorem tw1070995060673828329:0=0:=rfl
theorem tw7961726798809852764:0=0:=rfl
theorem tw6675157017313718480:0=0:=rfl
theorem tw2031402594965669197:0=0:=rfl
theorem tw1161249703240560076:0=0:=rfl
theorem tw5264470592466943619:0=0:=rfl
theorem tw13181700422301658885:0=0:=rfl
theorem tw11378273172075811997:0=0:=rfl
theorem tw9055887292237634362:0=0:=rfl
theorem tw6724361576433153411:0=0:=rfl
theorem tw9079514427643080223:0=0:=rfl
theorem tw9240353073138643532:0=0:=rfl
theorem tw1285395348291414736:0=0:=rfl
theorem tw8005701055354140736:0=0:=rfl
theorem tw4725399730922747345:0=0:=rfl
theorem tw1761519674035987173:0=0:=rfl
theorem tw13105944283952640822:0=0:=rfl
theorem tw4017115972021257299:0=0:=rfl
theorem tw10881409651888902723:0=0:=rfl
theorem tw6996564438737940995:0=0:=rfl
theorem tw7718619024028784921:0=0:=rfl
theorem tw12421119743598214054:0=0:=rfl
theorem tw11012781820666828823:0=0:=rfl
theorem tw13266614759195110139:0=0:=rfl
theorem tw7551787004246466620:0=0:=rfl
theorem tw586240086066545374:0=0:=rfl
theorem tw1090645841232707444:0=0:=rfl
theorem tw2309616285628051010:0=0:=rfl
theorem tw17913386097120473427:0=0:=rfl
theorem tw7983854459657157090:0=0:=rfl
theorem tw15037090378669799424:0=0:=rfl
theorem tw5884366827606785534:0=0:=rfl
theorem tw4284564928455604054:0=0:=rfl
theorem tw8698174469539350084:0=0:=rfl
theorem tw10091685801359771932:0=0:=rfl
theorem tw4503351627977179790:0=0:=rfl
theorem tw15566827445122011156:0=0:=rfl
theorem tw8530476081034968231:0=0:=rfl
theorem tw2944762914196509724:0=0:=rfl
theorem tw14134972207809179843:0=0:=rfl
theorem tw2128460992876986973:0=0:=rfl
theorem tw7172477600799820958:0=0:=rfl
theorem tw14380341581957072049:0=0:=rfl
theorem tw18123153547754850303:0=0:=rfl
theorem tw3408318638288958214:0=0:=rfl
theorem tw2846872531268843046:0=0:=rfl
theorem tw3171896944833324752:0=0:=rfl
theorem tw8435803430293809324:0=0:=rfl
theorem tw1998766998910951327:0=0:=rfl
theorem tw2100779693876343570:0=0:=rfl
theorem tw2113541612783933978:0=0:=rfl
theorem tw6533540636547279860:0=0:=rfl
theorem tw18409545843307543769:0=0:=rfl
theorem tw8923218884233774189:0=0:=rfl
theorem tw3569145950776298557:0=0:=rfl
theorem tw9917839363678221963:0=0:=rfl
theorem tw18119862610785559214:0=0:=rfl
theorem tw7829760988462089957:0=0:=rfl
theorem tw3169177790168986836:0=0:=rfl
theorem tw949465177788560874:0=0:=rfl
theorem tw5091350750812405367:0=0:=rfl
theorem tw16451962905652445237:0=0:=rfl
theorem tw9209018802920890128:0=0:=rfl
theorem tw13570641561569239319:0=0:=rfl
theorem tw9857673991772078631:0=0:=rfl
theorem tw12559426698653536217:0=0:=rfl
theorem tw6005533600148624128:0=0:=rfl
theorem tw2655563568685984188:0=0:=rfl
theorem tw6909271119142062594:0=0:=rfl
theorem tw6790683907662188186:0=0:=rfl
theorem tw4515072128941510293:0=0:=rfl
theorem tw5767226082094096612:0=0:=rfl
theorem tw8493657798545605909:0=0:=rfl
theorem tw8857231575503477717:0=0:=rfl
theorem tw13468937032743560016:0=0:=rfl
theorem tw1598349440589902141:0=0:=rfl
theorem tw15626648917672274653:0=0:=rfl
theorem tw8679948561083819927:0=0:=rfl
theorem tw6509675130061730352:0=0:=rfl
theorem tw15677525236594403829:0=0:=rfl
theorem tw7530743060225844600:0=0:=rfl
theorem tw10187279039035881662:0=0:=rfl
theorem tw2589771254015781881:0=0:=rfl
theorem tw7398914344450557121:0=0:=rfl
theorem tw7298540262065893382:0=0:=rfl
theorem tw17927236179181169888:0=0:=rfl
theorem tw16799428489096241097:0=0:=rfl
theorem tw2998262297082640965:0=0:=rfl
theorem tw6347249215249192075:0=0:=rfl
theorem tw5358174236181651488:0=0:=rfl
theorem tw10901207407393969065:0=0:=rfl
theorem tw1853584508973257289:0=0:=rfl
theorem tw10657950789601185956:0=0:=rfl
theorem tw5641651944232308547:0=0:=rfl
theorem tw2964915405018993683:0=0:=rfl
theorem tw4385590836582180648:0=0:=rfl
theorem tw14922174988163414437:0=0:=rfl
theorem tw10148507113151140628:0=0:=rfl
theorem tw4023272969464808232:0=0:=rfl
theorem tw7223612470037721853:0=0:=rfl
theorem tw14571824928568193161:0=0:=rfl
theorem tw8081255146959579162:0=0:=rfl
theorem tw14043044369663030176:0=0:=rfl
theorem tw17875807262878671413:0=0:=rfl
theorem tw790171847764350602:0=0:=rfl
theorem tw3784130299630007429:0=0:=rfl
theorem tw4126933976610305935:0=0:=rfl
theorem tw1492764882025310387:0=0:=rfl
theorem tw59609149137532461:0=0:=rfl
theorem tw15736096307021281591:0=0:=rfl
theorem tw12263680154207545883:0=0:=rfl
theorem tw18252793159382043252:0=0:=rfl
theorem tw5438339883450417395:0=0:=rfl
theorem tw10252226973658870217:0=0:=rfl
theorem tw2918992814410740562:0=0:=rfl
theorem tw16333148450046461611:0=0:=rfl
theorem tw16365922295565261878:0=0:=rfl
theorem tw2759868598178207029:0=0:=rfl
theorem tw2058605315940208402:0=0:=rfl
theorem tw6456204757814182891:0=0:=rfl
theorem tw14111912933629853736:0=0:=rfl
theorem tw1130339879700562336:0=0:=rfl
theorem tw6466968981840998476:0=0:=rfl
theorem tw14546786090450087134:0=0:=rfl
theorem tw876480225660312840:0=0:=rfl
theorem tw10448565443076987198:0=0:=rfl
theorem tw15876690722748814209:0=0:=rfl
theorem tw18245532822052117711:0=0:=rfl
theorem tw1321244882179217776:0=0:=rfl
theorem tw9792275684028204391:0=0:=rfl
theorem tw8793331290729951189:0=0:=rfl
theorem tw10378218416097999556:0=0:=rfl
theorem tw2306593799454251579:0=0:=rfl
theorem tw6125983221612347211:0=0:=rfl
theorem tw11877845666005444511:0=0:=rfl
theorem tw13854818268038455392:0=0:=rfl
theorem tw6340247937328122645:0=0:=rfl
theorem tw16915044775873398774:0=0:=rfl
theorem tw8713886753463807867:0=0:=rfl
theorem tw2630882093303658711:0=0:=rfl
theorem tw2480672762501158230:0=0:=rfl
theorem tw18097504329573156624:0=0:=rfl
theorem tw4025752910197037013:0=0:=rfl
theorem tw5062977711446113225:0=0:=rfl
theorem tw775839830770633852:0=0:=rfl
theorem tw9897481861477968818:0=0:=rfl
theorem tw16494964463678037101:0=0:=rfl
theorem tw7938407813181206019:0=0:=rfl
theorem tw8779610197388619753:0=0:=rfl
theorem tw10947562758751460618:0=0:=rfl
theorem tw6064446426184714409:0=0:=rfl
theorem tw15990928094586615945:0=0:=rfl
theorem tw4882319856052077827:0=0:=rfl
theorem tw4908466976718091023:0=0:=rfl
theorem tw4929276110061153941:0=0:=rfl
theorem tw8160450213721571972:0=0:=rfl
theorem tw2802661273626628477:0=0:=rfl
theorem tw17992396554036712989:0=0:=rfl
theorem tw4314922912045720003:0=0:=rfl
theorem tw8190033379344352589:0=0:=rfl
theorem tw18058121687941639587:0=0:=rfl
theorem tw7984631161561887551:0=0:=rfl
theorem tw6514598912105068021:0=0:=rfl
theorem tw11541035167194076711:0=0:=rfl
theorem tw15233619354261146720:0=0:=rfl
theorem tw5180069761575748410:0=0:=rfl
theorem tw2926033101827569103:0=0:=rfl
theorem tw6989188394039948674:0=0:=rfl
theorem tw12464420429842919213:0=0:=rfl
theorem tw13691771278713680472:0=0:=rfl
theorem tw5745643321198972702:0=0:=rfl
theorem tw17409817562517980140:0=0:=rfl
theorem tw14670356087871727260:0=0:=rfl
theorem tw3971734145641634521:0=0:=rfl
theorem tw13964588327062860796:0=0:=rfl
theorem tw15389957958555940331:0=0:=rfl
theorem tw386327947200263795:0=0:=rfl
theorem tw5641918634175660405:0=0:=rfl
theorem tw15287649093038121078:0=0:=rfl
theorem tw12194061118506034101:0=0:=rfl
theorem tw3330714995932864631:0=0:=rfl
theorem tw1640734880219487987:0=0:=rfl
theorem tw6073757996597839454:0=0:=rfl
theorem tw17957402535487843462:0=0:=rfl
theorem tw17267272520056011831:0=0:=rfl
theorem tw5747742586114819157:0=0:=rfl
theorem tw17757610460481783955:0=0:=rfl
theorem tw14220928605858022435:0=0:=rfl
theorem tw17664655184651418317:0=0:=rfl
theorem tw15958082991327575341:0=0:=rfl
theorem tw1504239671246443212:0=0:=rfl
theorem tw470377670691391676:0=0:=rfl
theorem tw7803729993609694000:0=0:=rfl
theorem tw2800353219193937384:0=0:=rfl
theorem tw7856791186671126679:0=0:=rfl
theorem tw5106933219997552199:0=0:=rfl
theorem tw2551343847194385696:0=0:=rfl
theorem tw4880443272309690887:0=0:=rfl
theorem tw3196296722722940126:0=0:=rfl
theorem tw9041386254304387676:0=0:=rfl
theorem tw11734427752760555221:0=0:=rfl
theorem tw13731411023531279203:0=0:=rfl
theorem tw16182730813471766805:0=0:=rfl
theorem tw15718591447827181331:0=0:=rfl
theorem tw1850754325992449971:0=0:=rfl
theorem tw1509091707202008573:0=0:=rfl
theorem tw11322642760242419937:0=0:=rfl
theorem tw16705764011602933815:0=0:=rfl
theorem tw1716773418026522764:0=0:=rfl
theorem tw298546980518511111:0=0:=rfl
theorem tw3623075734843255756:0=0:=rfl
theorem tw3156730960794206390:0=0:=rfl
theorem tw15431782487532978761:0=0:=rfl
theorem tw5677613964265466689:0=0:=rfl
theorem tw11566652792521325199:0=0:=rfl
theorem tw229428576625128384:0=0:=rfl
theorem tw5533870541517668972:0=0:=rfl
theorem tw8064517746967309400:0=0:=rfl
theorem tw2028651882608351518:0=0:=rfl
theorem tw12104290998097524675:0=0:=rfl
theorem tw5996165019384635030:0=0:=rfl
theorem tw4241729677732001527:0=0:=rfl
theorem tw16572243825964570228:0=0:=rfl
theorem tw10511521268432268683:0=0:=rfl
end PySem.W.Fast
open PySem PySem.W PyProof.Rows
set_option maxRecDepth 100000 in
set_option maxHeartbeats 0 in
theorem PySem.Challenge.cw_chiefway_k47_whole_order_of_readings_holds : PySem.Challenge.rw_chiefway_k47_whole_order_of_readings.Holds := by
 w_on;o_law;k_head;(case hw=>w_witness2)
 k_fill
 refine My.walk (l:=PySem.Challenge.rw_chiefway_k47_whole_order_of_readings) (k:=72) (by decide) rfl rfl (λw h Y=>PySem.W.kIn_of Y) ?F
 case F=>
  intro w mg N h KX G M;refine' Law.T6 (k:=71) KX G M ?D ?B ?J ?a0 ?l0 ?c0 ?k0 ?oqNode ?oqAtlas ?ok
  (case D=>unfold Law.tab;(repeat (apply P.Des.cons;(case a=>k_is);(case l=>k_is);(case c=>k_is);(case k=>k_is)));exact P.Des.nil)
  (case B=>unfold Law.blt;(repeat (apply P.Nos.cons;(case a=>k_is)));exact P.Nos.nil)
  (case J=>unfold Law.gis;(repeat (apply P.Gis.cons;(case a=>k_is)));exact P.Gis.nil)
  (case a0=>k_is)
  (case l0=>k_is)
  (case c0=>k_is)
  (case k0=>k_is)
  (case oqNode=>refine' P.obq ?a ?m1 ?m2 ?m3 ?m4 ?m5 ?m6 ?m7 ?m8 ?l ?c ?k ?n;(case a=>k_is);(case m1=>k_is);(case m2=>k_is);(case m3=>k_is);(case m4=>k_is);(case m5=>k_is);(case m6=>k_is);(case m7=>k_is);(case m8=>k_is);(case l=>k_is);(case c=>k_is);(case k=>k_is);(case n=>(repeat (apply P.Fas.cons;(case a=>k_is)));exact P.Fas.nil))
  (case oqAtlas=>refine' P.obq ?a ?m1 ?m2 ?m3 ?m4 ?m5 ?m6 ?m7 ?m8 ?l ?c ?k ?n;(case a=>k_is);(case m1=>k_is);(case m2=>k_is);(case m3=>k_is);(case m4=>k_is);(case m5=>k_is);(case m6=>k_is);(case m7=>k_is);(case m8=>k_is);(case l=>k_is);(case c=>k_is);(case k=>k_is);(case n=>(repeat (apply P.Fas.cons;(case a=>k_is)));exact P.Fas.nil))
  (case ok=>exact λbase kb nb T=>P.VH (f:=Law.M8) (O':=[]) rfl (λN z A q s H E U=>Law.SH.2 T N z A q s H E U) Law.Y1)
