import PyProof.Rows.All
import OpenK.KLine
import OpenK.KWalk
import OpenK.KMake
import OpenK.KGet
import OpenK.KCall
import OpenK.KDescr
import OpenK.Peek
import Wide.Line
import Wide.BytesRules
import Wide.ObjOpen
import KE.KDictOf
import KE.KIsAll
import KE.KItem
import KE.KRevIter
import KE.KUnpack
import KE.KEqDict
import PyProof.EqAt
import PyProof.EqKinds
import PyProof.TupleCall
import PySem.Challenge.RW_chiefway_k45_told_and_numbered
set_option compiler.extract_closed false
set_option bootstrap.genMatcherCode false
set_option genSizeOf false
set_option tactic.hygienic false
set_option autoImplicit true
set_option relaxedAutoImplicit true
set_option Elab.async false
set_option linter.all false
set_option maxRecDepth 100000
open PySem renaming wpAny_bind → zaa, Shared → zad, wpAny_pure → zaf, starEach → zag, Program → zai, sizeLine → zal, Around → zao, compareOp → zaB, swapsWith → zaD, bootBuiltins → zaG, backTo → zaH, mainGlobals → zaL, binaryOp → zaN, attributeBase → zaR, wpAny_field → zaT, assignEach → za1, pyNext → za2, IsPair → za3, sysModules → za6, wpAny_mono → za7, rawInt → za9, foldedSetIterable → zba, relabel → zbc, assign → zbd, FuncData → zbe, wpAny_call_entry → zbj, wpAny_seqItems → zbs, getItem → zby, wpAny_setField_rec → zbB, IsEnum → zbC, wpAny_holding → zbD, codeAny → zbF, NameKind → zbH, IsPart → zbI, wpAny_callSpecial?_slot → zbJ, wpAny_newObj_type → zbK, sliceBounds → zbL, Paired → zbO, wpAny_rule → zbP, behindInMarks → zbS, wpAny_pyIter_list → zbU, wpAny_pyIter_tuple → zbV, wpAny_loadPart' → zbZ, Builtin → zb5, wpAny_truthy_bool → zb7, tupleKind → zb8, PassesOwn → zca, cellsFrom → zcb, tupleKeyHash → zck, entryOfKey → zcl, holding → zcm, wpAny_passesOwn → zcn, valueAt → zcr, callerA → zcs, DictEntry → zct, wpAny_isInstance → zcx, sizeLine_eq → zcA, mem_of_lookup → zcB, wpAny_typeOf → zcC, call_meets → zcD, wpAny_attempt → zcF, wpAny_specialOf → zcO, wpAny_forIn_list → zcP, wpAny_execs_nil → zc6, wpAny_standAt → zc7, swapsWithSole → zc8, swappedStores → zc9, letOwnedTupleGo → zda, codeAny_mono → zdg, wpAny_Call_Name_kw → zdh, subscripted → zdn, wpAny_typeNameOfWhole_keyiter → zdt, wpAny_typeNameOf_keyiter → zdu, wpAny_setField → zdv, firstArgMember → zdy, wpAny_onRaise → zdB, wpAny_letGo → zdC, getattributeRaised → zdJ, wpAny_tupleItemsOf → zdQ, isSubtype_tuple_tuple → zdS, noFill_tuple_add → zd2, tupleKind_room_in1 → zeb, wpAny_dictEntries → zee, wpAny_dictEpoch → zef, wpAny_updateSeq_pair → zei
open Option renaming map_some → zab, bind_some → zac, bind → zcH
open PySem.W renaming Frag → zae, fnOf → zbg, kia_one → zbk, findIn → zbv, keepIn → zbG, emptyDict → zbW, nsIn → zb4, instObj → zb9, codeIn → zcq, plainGet → zdb, hasDictIn → zdc, kitOne → zde, kitx_dict → zdf, mg_of → zdK, methodObj → zdT, plainOver → zdW, takerIn → zdX, makesIn → zdY, OpenLaw → zec
open List renaming length_map → zah, map_cons → zak, mem_cons_of_mem → zap, map_map → zaq, mem_cons_self → zar, range → zas, mem_of_getElem? → zaw, size_toArray → zax, length_cons → zaz, getElem?_map → zaA, map_append → zaI, getElem?_eq_getElem → zaP, mem_append_right → zaU, mem_cons → zaX, not_mem_nil → zaZ, length_append → zbb, length → zbl, take_length → zbn, sum_cons → zbo, mem_append_left → zbt, append_nil → zbw, length_nil → zbx, find?_cons → zbz, getElem?_set_ne → zbE, take_of_length_le → zbN, length_take → zbY, map_nil → zb0, lookup_cons → zb2, any_cons → zcc, filter_cons → zcd, take_succ → zcg, getElem?_of_mem → zch, lookup → zco, replicate → zcp, take_succ_cons → zcv, getElem?_set_self → zcz, length_range → zcI, foldl_cons → zcK, length_set → zcT, getElem?_range → zcV, cons_append → zcX, take_add_one → zcY, forall_mem_cons → zc0, length_filter_le → zc1, getD_eq_getElem?_getD → zc3, getElem?_append_right → zdi, take_sublist → zdj, replicate_succ → zdo, flatten_cons → zdp, drop_eq_getElem_cons → zdF, nodup_append → zdL, foldl_nil → zdO, filterMap_cons → zdU, getElem_inj → zdV, of_mem_zip → zdZ, getElem?_append_left → zd0, zip_cons_cons → zd1, length_drop → zd7, reverse_cons → zd9, all_eq_true → zed, forIn_cons → zeh, drop_length → zej, sum_append → zek, append_assoc → zel, pairwise_map → zem, getElem_mem → zen, length_zip → zeq, take_sublist_take_left → zex, idxOf_lt_length_of_mem → zez
open Nat renaming le_refl → zaj, ne_of_lt → zaF, zero_le → zaJ, zero_add → zaK, le_trans → zaM, lt_of_lt_of_le → za0, ne_of_gt → zbu, lt_irrefl → zbQ, le_of_ble_eq_true → zb3, lt_succ_self → zdd, lt_of_le_of_lt → zdr
open PySem.Heap renaming get?_push_of_some → zam, lt_size → zan, get?_push_size → zaE, SameBut → za4, size_push → zbX, IsTuple → zcU, IsList → zdE, get?_update_self → zd8
open Int renaming emod_nonneg → zat, emod_lt_of_pos → zav, ne_of_gt → zaQ, zero_add → zbp, toNat_natCast → zbA, le_trans → zcu, mul_nonneg → zcW, add_assoc → zc4, lt_of_lt_of_le → zc5, mul_assoc → zdM, le_refl → zdN, mul_le_mul_of_nonneg_right → zey
open PySem.Value renaming ref → zau, none → za5, int → zcw, str → zcL, bool → zcM
open Option.some renaming inj → zay
open Bool renaming false_ne_true → zaC, and_eq_true → zaS, false_eq_true → zbr, not_true → zb6, eq_iff_iff → zcy, not_eq_true → zdG, or_eq_true → zdH
open PyProof.Rows renaming envOfC → zaO, kindOf → zbf, IntsAre → zbh, AllBare → zbR, callWith_type1 → zcQ, slot_tuple_getitem → zdl
open True renaming intro → zaV
open Ne renaming symm → zaW
open Or renaming inl → zaY, inr → zbM
open False renaming elim → za8
open PySem.Str renaming ofString → zbi, join → zcJ
open PySem.NameKind renaming free → zbm
open Sum renaming inl → zbq, inr → zci
open Array renaming length_toList → zbT, forIn_toList → zdR, getElem?_toList → zeg
open PySem.Shared renaming heap → zb1
open PySem.Builtin.SmallTypes renaming nextOf → zce, ownedTupleIsFree → zcG, ownedTupleHandOut → zdD
open Classical renaming propDecidable → zcf
open PySem.Builtin.Tuple renaming tupleHashOf → zcj, tupleExact → zdm, tupleItemsOf → zdP
open ForInStep renaming yield → zcE
open PySem.Paired renaming length → zcN
open PySem.SeqAt renaming EqAt → zcR
open PySem.Obj renaming mapSeq → zcS, data_mapFields → zdw
open PySem.F renaming plainAttrs_list → zcZ, slot_dict_keyiterator_next → zds, slot_tuple_iterator_next → zdz, slot_zip_next → zdA, slot_enumerate_next → zdI, slot_tuple_add → zd3, entry_tuple_add → zd4, args_tuple_add_2 → zd5, entry_dict_keyiterator_next → zer, args_dict_keyiterator_next_1 → zes, entry_tuple_iterator_next → zeu, args_tuple_iterator_next_1 → zew
open Subtype renaming val → zc2
open PySem.Builtin.Slice renaming slicePlaces → zdk, sliceAdjust → zd6
open List.Pairwise renaming nil → zdq
open PySem.Heap.SameBut renaming update → zdx
open PySem.Builtin.List renaming listTooLong → zea
open PySem.PassesOwn renaming never → zeo
open List.cons renaming injEq → zep
open PySem.Builtin.Dict_items renaming ownsTuple → zet
noncomputable section
namespace L2
open PySem PySem.Spec PyProof.Rows
abbrev Key:=Sum Int Str
def xR:Key->Value->Bool
 | .inl k,v=>Value.isInt k v
 | .inr x,v=>Value.isStrOf x v
def qbB(w:World):Key->Int
 | .inl k=>hashInt k
 | .inr x=>hashStr w x
theorem cN:∀ {k:Key} {v:Value},xR k v=true->(∃i t,k=zbq i/\v=zcw i t)\/(∃x t,k=zci x/\v=zcL x t)
 | .inl i,v,h=>by
  obtain⟨t,e⟩:=Value.isInt_shape (k:=i) (v:=v) h;exact .inl ⟨i,t,rfl,e⟩
 | .inr x,v,h=>by
  obtain⟨t,e⟩:=Value.isStrOf_shape (x:=x) (v:=v) h;exact .inr ⟨x,t,rfl,e⟩
theorem KH(i:Int)(t:Tok):xR (.inl i) (.int i t)=true:=by simp[xR,Value.isInt]
theorem JL(x:Str)(t:Tok):xR (.inr x) (.str x t)=true:=by simp[xR,Value.isStrOf]
theorem WZ(a b:Int):decide ((zbq a:Key)=zbq b)=(a == b):=by
 by_cases e:a=b
 ·subst e;simp
 ·have h:¬ (zbq a:Key)=zbq b:=λq=>e (Sum.inl.inj q)
  rw[decide_eq_false h];exact(beq_eq_false_iff_ne.mpr e).symm
theorem YX(a b:Str):decide ((zci a:Key)=zci b)=decide (a=b):=by
 by_cases e:a=b
 ·subst e;simp
 ·have h:¬ (zci a:Key)=zci b:=λq=>e (Sum.inr.inj q)
  rw[decide_eq_false h,decide_eq_false e]
theorem X3(a:Int)(b:Str):decide ((zbq a:Key)=zci b)=false:=decide_eq_false (λq=>nomatch q)
theorem YR(a:Str)(b:Int):decide ((zci a:Key)=zbq b)=false:=decide_eq_false (λq=>nomatch q)
def bA(prog:zai)(w:World):PySem.KeyKind prog w Key where
 is:=xR
 hash:=qbB w
 inj:=λv a b B z=>by
  rcases cN B with⟨i,t,rfl,rfl⟩|⟨x,t,rfl,rfl⟩
  ·rcases cN z with⟨j,u,rfl,e⟩|⟨y,u,rfl,e⟩
   ·injection e with e1 _;rw[e1]
   ·exact nomatch e
  ·rcases cN z with⟨j,u,rfl,e⟩|⟨y,u,rfl,e⟩
   ·exact nomatch e
   ·injection e with e1 _;rw[e1]
 byValue:=λk v h=>by
  rcases cN h with⟨i,t,rfl,rfl⟩|⟨x,t,rfl,rfl⟩ <;> rfl
 pyHash:=λq h=>by
  rcases cN q with⟨i,t,rfl,rfl⟩|⟨x,t,rfl,rfl⟩
  ·exact wpAny_pyHash_int h
  ·exact wpAny_pyHash_str h
 eqBool:=λF q h=>by
  rcases cN F with⟨i,t,rfl,rfl⟩|⟨x,t,rfl,rfl⟩
  ·rcases cN q with⟨j,u,rfl,rfl⟩|⟨y,u,rfl,rfl⟩
   ·rw[WZ]at h;exact wpAny_eqBool_int h
   ·rw[X3]at h;exact SeqAt.EqAt.int_str i t y u _ _ _ _ h
  ·rcases cN q with⟨j,u,rfl,rfl⟩|⟨y,u,rfl,rfl⟩
   ·rw[YR]at h;exact SeqAt.EqAt.str_int x t j u _ _ _ _ h
   ·rw[YX]at h;exact wpAny_eqBool_str h
 «strs»:=λk x t v h=>by
  rcases cN h with⟨i,u,rfl,e⟩|⟨y,u,rfl,e⟩
  ·exact nomatch e
  ·injection e with e1 _
   subst e1;cases v <;> rfl
theorem AK(prog:zai)(w:World)(i:Int)(t:Tok):(bA prog w).is (.inl i) (.int i t)=true:=KH i t
theorem AC(prog:zai)(w:World)(x:Str)(t:Tok):(bA prog w).is (.inr x) (.str x t)=true:=JL x t
inductive V where
 | non|bl (b:Bool)|int (i:Int)|str (x:Str)|byt (b:Array UInt8)|flt (b:UInt64)|ref (a:Addr)|ty (n:String)
 deriving DecidableEq
noncomputable def RelV:V->Value->Prop
 | .non,u=>u=za5
 | .bl b,u=>u=zcM b
 | .int i,u=>∃t,u=zcw i t
 | .str x,u=>∃t,u=zcL x t
 | .byt b,u=>∃t,u=Value.bytes b t
 | .flt b,u=>∃t,u=Value.float b t
 | .ref a,u=>u=zau a
 | .ty n,u=>u=Value.type n
abbrev Vals:List V->List Value->Prop:=zbO RelV
theorem Vals.length(r:Vals xs us):xs.length=us.length:=zcN r
theorem Vals.get:∀ {xs:List V} {us:List Value} {i:Nat} {x:V},Vals xs us->xs[i]?=some x->∃u,us[i]?=some u/\RelV x u
 | _,_,_,_,.nil,e=>by simp at e
 | _,_,0,_,.cons r _,e=>by simp at e;subst e;exact⟨_,rfl,r⟩
 | _,_,i+1,x,.cons _ t,e=>by
  obtain⟨u,h1,h2⟩:=Vals.get (i:=i) (x:=x) t (by simpa using e);exact⟨u,by simpa using h1,h2⟩
theorem Vals.set(r:RelV x u):∀ {xs:List V} {us:List Value} (i:Nat),Vals xs us->Vals (xs.set i x) (us.set i u)
 | _,_,_,.nil=>.nil
 | _,_,0,.cons _ t=>.cons r t
 | _,_,i+1,.cons q t=>.cons q (Vals.set r i t)
theorem Vals.append:∀ {xs ys:List V} {us ws:List Value},Vals xs us->Vals ys ws->Vals (xs++ys) (us++ws)
 | _,_,_,_,.nil,s=>s
 | _,_,_,_,.cons r t,s=>.cons r (Vals.append t s)
theorem Vals.take:∀ {xs:List V} {us:List Value} (n:Nat),Vals xs us->Vals (xs.take n) (us.take n)
 | _,_,0,_=>.nil
 | _,_,_+1,.nil=>.nil
 | _,_,n+1,.cons r t=>.cons r (Vals.take n t)
theorem Vals.drop:∀ {xs:List V} {us:List Value} (n:Nat),Vals xs us->Vals (xs.drop n) (us.drop n)
 | _,_,0,r=>r
 | _,_,_+1,.nil=>.nil
 | _,_,n+1,.cons _ t=>Vals.drop n t
def RelO:Option V->Option Value->Prop
 | some v,some u=>RelV v u
 | none,none=>True
 | _,_=>False
def KV{κ:Type}:List (κ×V)->List (κ×Value)->Prop:=zbO λ(p:κ×V) (q:κ×Value)=>p.1=q.1/\RelV p.2 q.2
def kV:Key->V
 | .inl i=>.int i
 | .inr x=>.str x
section
variable {prog:zai}{w:World}{K:Type}[DecidableEq K](knd:KeyKind prog w K)
def NestIs(h:Heap)(k:K×List K)(a:Addr):Prop:=∃o n v b,h.get? a=some o/\o.cls=.type "tuple" /\ o.data=.seq #[v,.ref b] n/\knd.is k.1 v=true/\IsTupleKey knd h k.2 b
noncomputable def uU(k:K×List K):Int:=reduceHash (zcj [knd.hash k.1,zck knd k.2])
variable {knd}{A:zao}{E:Value->zad->Prop}{s:zad}
theorem NestIs.typeIs{k:K×List K}{a:Addr}(x:NestIs knd s.heap k a):s.TypeIs (.ref a) "tuple" := let ⟨o,_,_,_,ho,hc,_⟩:=x;⟨o,ho,hc⟩
theorem NestIs.inj{h:Heap}{a:Addr}{x y:K×List K}(hx:NestIs knd h x a)(M:NestIs knd h y a):x=y:=by
 obtain⟨o,n,v,b,G,_,hd,hi,J⟩:=hx;obtain⟨o',U,W,N,B,_,q,z,F⟩:=M;obtain rfl:o=o':=zay (G.symm.trans B);rw[hd]at q;injection q with h1 _
 simp at h1;obtain⟨rfl,rfl⟩:=h1;exact Prod.ext (knd.inj _ _ _ hi z) (J.inj F)
theorem NestIs.keeps{h h':Heap}{k:K×List K}{a d:Addr}{o:Obj}{es ep}(x:NestIs knd h k a)(F:h.get? d=some o)(hd:o.data=.dict es ep)(hs:za4 d h h'):NestIs knd h' k a:=by
 obtain⟨o',n,v,b,z,J,q,hi,G⟩:=x;have B:a≠d:=by
  rintro rfl;obtain rfl:o'=o:=zay (z.symm.trans F);rw[hd]at q;exact nomatch q
 exact⟨o',n,v,b,(hs.2 a B).trans z,J,q,hi,G.keeps F hd hs⟩
theorem JD{k:K×List K}{a:Addr}{Q:Int->zad->Prop}(G:A.units+1<cLine)(z:NestIs knd s.heap k a)(h:Q (uU knd k) {s with toks:=s.toks+(k.2.length+3)}) :
  wpAny (model prog w) A (pyHash (.ref a)) Q E s:=by
 have hT:=z.typeIs;obtain⟨o,n,v,b,B,_,hd,hi,J⟩:=z;unfold pyHash
 first|unfold pyHashByItsType|skip
 first|refine zaa (wpAny_cRoomFor_or (.inr (by lia)) ?_)|skip
 refine zaa (zcO hT F.slot_tuple_hash.lookup ?_);show wpAny _ _ (if(some (Value.builtin "tuple.__hash__") == some za5)=true then _ else _) Q E s;rw[if_neg (by rw[beq_builtin_none];exact zaC)];refine zaa (zcO hT F.slot_tuple_hash.lookup ?_);show wpAny _ _ (callSpecialIfBoundUnlessNone? (.ref a) "__hash__" _ >>= _) Q E s;refine zaa (wpAny_callSpecialIfBoundUnlessNone?_slot hT F.slot_tuple_hash (zbj F.slot_tuple_hash hT F.entry_tuple_hash ?_ (F.args_tuple_hash_1 _)));show wpAny _ _ (zdP (.ref a) >>= _) _ _ s;refine zaa (zdQ B hd ?_);refine zaa ?_;rw[<- zdR];refine zcP _
  (λrest (c:Array Int) s'=>(rest=[v,.ref b]/\c=#[]/\s'=s)\/(rest=[.ref b]/\c=#[knd.hash k.1]/\s'={s with toks:=s.toks+1})\/(rest=[]/\c=#[knd.hash k.1,zck knd k.2]/\s'={s with toks:=s.toks+(k.2.length+2)}))
  _ ?_ ?_ _ _ (.inl ⟨rfl,rfl,rfl⟩)
 ·rintro x rest c s' (⟨e,rfl,rfl⟩|⟨e,rfl,rfl⟩|⟨e,_⟩)
  ·cases e
   refine zaa (knd.pyHash hi ?_)
   first
    | exact zaf (.inr (.inl ⟨rfl,rfl,rfl⟩))
    | exact zaa (zaf (zaf (.inr (.inl ⟨rfl,rfl,rfl⟩))))
  ·cases e
   refine zaa (wpAny_pyHash_tuple (knd:=knd) (ks:=k.2) ?_ J ?_)
   ·exact G
   ·have e:({s with toks:=s.toks+1+(k.2.length+1)}:zad)={s with toks:=s.toks+(k.2.length+2)}:=by congr 1;lia
    show wpAny _ _ _ _ _ {s with toks:=s.toks+1+(k.2.length+1)};rw[e]
    first
     | exact zaf (.inr (.inr ⟨rfl,rfl,rfl⟩))
     | exact zaa (zaf (zaf (.inr (.inr ⟨rfl,rfl,rfl⟩))))
  ·cases e
 ·rintro c s' (⟨e,_⟩|⟨e,_⟩|⟨e,rfl,rfl⟩)
  ·cases e
  ·cases e
  show wpAny _ _ (retInt (zcj [knd.hash k.1,zck knd k.2])) _ _ _;refine wpAny_ret_mkInt ?_;show wpAny _ _ (if(decide (-(2:Int)^63<=zcj [knd.hash k.1,zck knd k.2]) && decide (zcj [knd.hash k.1,zck knd k.2]<2^63))=true then _ else _) Q E _;unfold uU reduceHash at h;by_cases q:(decide (-(2:Int)^63<=zcj [knd.hash k.1,zck knd k.2]) && decide (zcj [knd.hash k.1,zck knd k.2]<2^63))=true
  ·rw[if_pos q]
   rw[if_pos q]at h;exact zaf (by simpa[Nat.add_assoc]using h)
  ·rw[if_neg q]
   rw[if_neg q]at h;exact zaa (zbP (zaf (by simpa[Nat.add_assoc]using h)))
theorem xY{x y:K×List K}{a b:Addr}{P:Fin->zad->Prop}(hu:A.units<cLine)(hx:NestIs knd s.heap x a)(hy:NestIs knd s.heap y b)(h:P (.done (.ret (.bool (decide (x=y))))) s) :
  wpAny (model prog w) A (zb5.«tuple.__eq__» ⟨[.ref a,.ref b],[]⟩) P E s:=by
 have Y:=hy.typeIs;obtain⟨oa,na,va,ba,F,_,G,N,aa⟩:=hx;obtain⟨ob,nb,vb,bb,B,_,W,z,J⟩:=hy;show wpAny _ _ (isInstance (.ref b) (.type "tuple") >>= _) _ _ s;refine zaa (zcx Y zdS ?_);simp only[zb6,zbr,if_false];refine zaa (zdQ F G ?_);refine zaa (zdQ B W ?_);refine zaa ?_;have ex:decide (x=y)=(decide (x.1=y.1) && decide (x.2=y.2)):=by
  rw[zcy,decide_eq_true_iff,zaS,decide_eq_true_iff,decide_eq_true_iff];exact⟨λe=>by rw[e];exact⟨rfl,rfl⟩,λe=>Prod.ext e.1 e.2⟩
 rw[ex]at h;refine zcP _
  (λrest r s'=>r.1=none/\s'=s/\(rest=[(va,vb),(.ref ba,.ref bb)]\/(rest=[(.ref ba,.ref bb)]/\x.1=y.1)\/(rest=[]/\x.1=y.1/\x.2=y.2)))
  _ ?_ ?_ _ _ ⟨rfl,rfl,.inl rfl⟩
 ·rintro⟨u,v⟩ rest r s' ⟨U,rfl,e|⟨e,M⟩|⟨e,_⟩⟩
  ·cases e
   refine zaa (knd.eqBool (a:=x.1) (b:=y.1) N z ?_);by_cases q:x.1=y.1
   ·rw[decide_eq_true q]
    simp only[zb6,zbr,if_false];exact zaf ⟨rfl,rfl,.inr (.inl ⟨trivial,q⟩)⟩
   ·rw[decide_eq_false q]at h ⊢
    simp only[Bool.not_false,if_true];exact zaa (zaf (zaf (zaf h)))
  ·cases e
   refine zaa (wpAny_eqBool_tuple (knd:=knd) hu aa J ?_);by_cases q:x.2=y.2
   ·rw[decide_eq_true q]
    simp only[zb6,zbr,if_false];exact zaf ⟨rfl,rfl,.inr (.inr ⟨trivial,M,q⟩)⟩
   ·rw[decide_eq_false q,Bool.and_false]at h
    rw[decide_eq_false q];simp only[Bool.not_false,if_true];exact zaa (zaf (zaf (zaf h)))
  ·cases e
 ·rintro⟨r1,r2⟩ s' ⟨U,rfl,e|⟨e,_⟩|⟨_,M,e2⟩⟩
  ·cases e
  ·cases e
  simp only at U;subst U;refine zaf ?_;rw[decide_eq_true M,decide_eq_true e2]at h;exact h
theorem SA{x y:K×List K}{a b:Addr}{Q:Bool->zad->Prop}(B:A.units+1<cLine)(hx:NestIs knd s.heap x a)(z:NestIs knd s.heap y b)(h:Q (decide (x=y)) s) :
  wpAny (model prog w) A (eqBool (.ref a) (.ref b)) Q E s:=by
 unfold eqBool
 try with_reducible refine zbD ?_
 show wpAny _ _ (if(zau a == zau b)=true then _ else _) Q E s;by_cases q:(zau a == zau b)=true
 ·rw[if_pos q]
  have e:a=b:=by have:=eq_of_beq q;injection this
  subst e;obtain rfl:=hx.inj z;exact zaa (zbP (zaf (by simpa using h)))
 ·rw[if_neg q]
  exact zaa (wpAny_richCompare_same_room (op:=.Eq) hx.typeIs z.typeIs F.slot_tuple_eq
   (zbj F.slot_tuple_eq hx.typeIs F.entry_tuple_eq (xY (show A.in1.units<cLine from B) hx z ⟨_,rfl,(λe=>nomatch e),zb7 h⟩) (F.args_tuple_eq_2 _ _)) (by lia))
theorem KM(n:Nat){ks:List K}{a:Addr}{Q:Bool->zad->Prop}(G:IsTupleKey knd s.heap ks a)(h:Q true s):wpAny (model prog w) A (eqIsQuiet (n+1) (.ref a)) Q E s:=by
 have hT:=G.typeIs;obtain⟨o,items,m,J,_,hd,hi⟩:=G;unfold eqIsQuiet;refine zaa (zcO hT F.slot_tuple_eq.lookup ?_);show wpAny _ _ (isInstance (.ref a) (.type "tuple") >>= _) _ _ s;refine zaa (zcx hT zdS ?_);simp only[zb6,zbr,if_false];refine zaa (zbs J hd ?_);refine zaa ?_;show wpAny _ _ (forIn items _ _) _ _ s;rw[<- zdR];refine zcP _ (λrest r s'=>r.1=none/\s'=s/\∀v∈rest,carriedByValue v=true) _ ?_ ?_ _ _ ⟨rfl,rfl,hi.byValue⟩
 ·rintro v rest r s' ⟨z,rfl,q⟩
  rw[eqIsQuiet_byValue _ (q v zar)];refine zaa (zaf ?_);simp only[zb6,zbr,if_false];exact zaf ⟨rfl,rfl,λu B=>q u (zap _ B)⟩
 ·rintro⟨r1,r2⟩ s' ⟨z,rfl,_⟩
  simp only at z;subst z;exact zaf h
theorem DP{k:K×List K}{a:Addr}{Q:Bool->zad->Prop}(z:NestIs knd s.heap k a)(h:Q true s):wpAny (model prog w) A (eqIsQuiet 8 (.ref a)) Q E s:=by
 have hT:=z.typeIs;obtain⟨o,m,v,b,B,_,hd,hi,G⟩:=z;unfold eqIsQuiet;refine zaa (zcO hT F.slot_tuple_eq.lookup ?_);show wpAny _ _ (isInstance (.ref a) (.type "tuple") >>= _) _ _ s;refine zaa (zcx hT zdS ?_);simp only[zb6,zbr,if_false];refine zaa (zbs B hd ?_);refine zaa ?_;show wpAny _ _ (forIn _ _ _) _ _ s;rw[<- zdR];refine zcP _ (λrest r s'=>r.1=none/\s'=s/\(rest=[v,.ref b]\/rest=[.ref b]\/rest=[])) _ ?_ ?_ _ _ ⟨rfl,rfl,.inl rfl⟩
 ·rintro u rest r s' ⟨q,rfl,e|e|e⟩
  ·cases e
   rw[eqIsQuiet_byValue _ (knd.byValue _ _ hi)];refine zaa (zaf ?_);simp only[zb6,zbr,if_false];exact zaf ⟨rfl,rfl,.inr (.inl trivial)⟩
  ·cases e
   refine zaa (KM _ G ?_);simp only[zb6,zbr,if_false];exact zaf ⟨rfl,rfl,.inr (.inr trivial)⟩
  ·cases e
 ·rintro⟨r1,r2⟩ s' ⟨q,rfl,_⟩
  simp only at q;subst q;exact zaf h
end
def c7{prog:zai}{w:World}{K:Type}[DecidableEq K](knd:KeyKind prog w K):HeapKind prog w (K×List K) where
 is:=NestIs knd
 hash:=uU knd
 draws:=λk=>k.2.length+3
 room:=λA=>A.units+1<cLine
 inj:=λhx z=>hx.inj z
 keeps:=λx F hd hs=>x.keeps F hd hs
 pyHash:=λq B h=>JD q B h
 eqBool:=λq hx z h=>SA q hx z h
 quiet:=λB h=>DP B h
inductive HO where
 | memo (dom:List (Key×List Key)) (f:Key×List Key->Option (Int×Int)) (p:Option (Key×List Key))
 /-- a list -/
 | lst (xs:List V)
 /-- a tuple (never changes) -/
 | tup (xs:List V)
 /-- a dict whose keys are ints and texts;one whose keys are tuples of ints and texts (the empty one is both) -/
 | dK (kvs:List (Key×V))|dT (kvs:List (List Key×V))
 /-- a set of ints: its members, its size -/
 | set (S:Int->Bool) (n:Nat)
 /-- an instance of the class at C, its dict at dx, its attributes -/
 | ins (C dx:Addr) (fs:List (Str×V))
 /-- the dict of the instance at x -/
 | own (x:Addr)
 /-- the dict of an exception -/
 | xd (fs:List (Str×V))
 /-- a bound method, f of x -/
 | met (f x:Addr)
 /-- a range object lo, lo+1, .. below hi -/
 | rng (lo hi:Int)
 /-- a thing that is known to the object (the script;a dict while a loop walks it): read, never written while it is so -/
 | frz (o:Obj) (u:HO)
 /-- a code object's table -/
 | tbl (ps:Array Value)
 /-- any other thing, by what is true of its one object (a def of one's own: SetO a S n:=HO.ext λh => ..) -/
 | ext (φ:Heap->Prop)
abbrev Hp:=Addr->Option HO
def upd(H:Hp)(a:Addr)(o:HO):Hp:=λb=>if b=a then some o else H b
def MemV(H:Hp):Option (Int×Int)->Value->Prop
 | none,v=>v=.none
 | some p,v=>∃b,v=.ref b/\H b=some (.tup [.int p.1,.int p.2])
theorem aL:upd H a o a=some o:=by unfold upd;rw[if_pos rfl]
theorem aG(h:b≠a):upd H a o b=H b:=by unfold upd;rw[if_neg h]
theorem Q8:upd (upd H a o) a u=upd H a u:=by
 funext b;unfold upd;split <;> rfl
theorem vL{H:Hp}{a b:Addr}{o u:HO}(h:H a=some o)(h':H b=some u)(d:o≠u):a≠b:=by
 intro e;subst e;rw[h]at h';exact d (zay h')
theorem bJ{H:Hp}{a b:Addr}{o:HO}(h:H a=some o)(h':H b=none):a≠b:=by
 intro e;subst e;rw[h]at h';cases h'
section
variable (P:zai)(w:World)
def IsTupN(h:Heap)(a:Addr)(items:Array Value):Prop:=∃o,h.get? a=some o/\o.cls=.type "tuple" /\ ∃n,o.data=.seq items n/\o.dict=none
theorem IsTupN.tup{h:Heap}{a:Addr}{items:Array Value}(x:IsTupN h a items):IsTup h a items:=let ⟨o,e,c,n,d,_⟩:=x;⟨o,e,c,n,d⟩
theorem IsTupN.lt(x:IsTupN h a items):a<h.objs.size:=x.tup.lt
theorem IsTupN.new(h:Heap)(items:Array Value):IsTupN (h.push {cls:=.type "tuple",data:=.seq items}) h.objs.size items:=⟨_,zaE _ rfl,rfl,_,rfl,rfl⟩
def ObjOk(H:Hp)(h:Heap)(a:Addr):HO->Prop
 | .lst xs=>xs.length<=zal/\∃(its:List Value) (n:Nat),Vals xs its/\h.get? a=some {cls:=.type "list",data:=.seq its.toArray n}
 | .tup xs=>xs.length<=zal/\∃its:List Value,Vals xs its/\IsTupN h a its.toArray
 | .dK kvs=>kvs.length<=zal/\(a == za6)=false/\∃vs,KV kvs vs/\h.DictOf (bA P w) a vs
 | .dT kvs=>kvs.length<=zal/\(a == za6)=false/\∃xs:List (List Key×Addr×Value),
   zbO (λ(p:List Key×V) (q:List Key×Addr×Value)=>p.1=q.1/\H q.2.1=some (.tup (p.1.map kV))/\RelV p.2 q.2.2) kvs xs /\
   ∃o es ep,h.get? a=some o/\o.ExactDict/\o.data=.dict es ep/\es.toList=xs.map (zcl (zb8 (bA P w)))/\(xs.map (·.1)).Nodup
 | .set S n=>h.SetOf (intKind P w) a S n
 | .memo dom f p=>(a == za6)=false/\∃xs:List ((Key×List Key)×Addr×Value),(∀x∈xs,x.1∈dom/\(∃b,H x.2.1=some (.tup [kV x.1.1,.ref b])/\H b=some (.tup (x.1.2.map kV)))/\MemV H (f x.1) x.2.2)/\(∀k,p=some k->∃q,atKey xs k=some q) /\
   ∃o es ep,h.get? a=some o/\o.ExactDict/\o.data=.dict es ep/\es.toList=xs.map (zcl (c7 (bA P w)))/\(xs.map (·.1)).Nodup
 | .ins C dx fs=>H dx=some (.own a)/\fs.length<=1000/\dx≠a/\h.get? a=some (zb9 C dx) /\
   ∃mA,h.Ns1 dx mA/\(∀f,RelO (fs.lookup f) (mA f))/\PySem.Within mA (fs.map (·.1))
 | .own _=>∃o,h.get? a=some o
 | .xd fs=>∃mA,h.Ns1 a mA/\∀f,RelO (fs.lookup f) (mA f)
 | .rng lo hi=>∃t u v,h.get? a=some {cls:=.type "range",data:=.fields #[.int lo t,.int hi u,.int 1 v]}
 | .frz o u=>h.get? a=some o/\ObjOk H h a u
 | .tbl ps=>h.get? a=some {cls:=.none,data:=.fields ps}
 | .met f x=>h.get? a=some (zdT (.ref f) (.ref x))
 | .ext φ=>φ h/\(∃o,h.get? a=some o)/\∀h1 h2:Heap,φ h1->(∀o,h1.get? a=some o->h2.get? a=some o)->φ h2
def HOk(H:Hp)(h:Heap):Prop:=∀a o,H a=some o->ObjOk P w H h a o
end
section
variable {P:zai}{w:World}{H H':Hp}{h h':Heap}{a:Addr}{o:HO}
theorem ObjOk.lt(x:ObjOk P w H h a o):a<h.objs.size:=by
 cases o with
 | lst xs=>obtain⟨_,_,_,_,e⟩:=x;exact zan e
 | tup xs=>obtain⟨_,_,_,p⟩:=x;exact p.lt
 | dK kvs=>obtain⟨_,_,_,_,o,_,_,e,_⟩:=x;exact zan e
 | dT kvs=>obtain⟨_,_,_,_,o,_,_,e,_⟩:=x;exact zan e
 | set S n=>obtain⟨o,_,_,_,e,_⟩:=x;exact zan e
 | memo dom f p=>obtain⟨_,_,_,_,o,_,_,e,_⟩:=x;exact zan e
 | ins C dx fs=>obtain⟨_,_,_,e,_⟩:=x;exact zan e
 | own y=>obtain⟨_,e⟩:=x;exact zan e
 | xd fs=>obtain⟨_,⟨_,_,_,e,_⟩,_⟩:=x;exact zan e
 | rng lo hi=>obtain⟨_,_,_,e⟩:=x;exact zan e
 | frz ob u=>obtain⟨e,_⟩:=x;exact zan e
 | tbl ps=>exact zan (show h.get? a=some _ from x)
 | met f y=>exact zan (show h.get? a=some _ from x)
 | ext φ=>obtain⟨_,⟨_,e⟩,_⟩:=x;exact zan e
theorem Paired.mapP{q β:Type}{F G:q->β->Prop}:∀ {l₁:List q} {l₂:List β},zbO F l₁ l₂->(∀a b,F a b->G a b)->zbO G l₁ l₂
 | _,_,.nil,_=>.nil
 | _,_,.cons r t,f=>.cons (f _ _ r) (Paired.mapP t f)
theorem ObjOk.stay(x:ObjOk P w H h a o)(k:∀b u,(b=a\/H b=some (.own a))->h.get? b=some u->h'.get? b=some u)
  (M:∀b,H b=some (.own a)->H' b=some (.own a)) (G:∀b xs,H b=some (.tup xs)->H' b=some (.tup xs)):ObjOk P w H' h' a o:=by
 induction o with
 | lst xs=>obtain⟨z,F,n,r,e⟩:=x;exact⟨z,F,n,r,k _ _ (.inl rfl) e⟩
 | tup xs=>obtain⟨z,F,r,B,e,c⟩:=x;exact⟨z,F,r,B,k _ _ (.inl rfl) e,c⟩
 | dK kvs=>obtain⟨z,y,vs,r,B,es,ep,e,c⟩:=x;exact⟨z,y,vs,r,B,es,ep,k _ _ (.inl rfl) e,c⟩
 | dT kvs=>
  obtain⟨z,y,xs,r,B,es,ep,e,c⟩:=x;exact⟨z,y,xs,Paired.mapP r λp q z=>⟨z.1,G _ _ z.2.1,z.2.2⟩,B,es,ep,k _ _ (.inl rfl) e,c⟩
 | set S n=>obtain⟨B,es,ep,t,e,c⟩:=x;exact⟨B,es,ep,t,k _ _ (.inl rfl) e,c⟩
 | memo dom f p=>
  obtain⟨y,xs,r,U,B,es,ep,e,c⟩:=x;refine⟨y,xs,λx hx=>?_,U,B,es,ep,k _ _ (.inl rfl) e,c⟩;obtain⟨d,⟨b,q1,Y⟩,m⟩:=r x hx;refine⟨d,⟨b,G _ _ q1,G _ _ Y⟩,?_⟩;revert m;cases f x.1 with
  | none=>exact id
  | some p=>exact λ⟨c,N,J⟩=>⟨c,N,G _ _ J⟩
 | ins C dx fs=>
  obtain⟨d,z,W,e,mA,⟨od,es,ep,J,c⟩,r⟩:=x;exact⟨M _ d,z,W,k _ _ (.inl rfl) e,mA,⟨od,es,ep,k _ _ (.inr d) J,c⟩,r⟩
 | own y=>obtain⟨B,e⟩:=x;exact⟨B,k _ _ (.inl rfl) e⟩
 | xd fs=>obtain⟨mA,⟨od,es,ep,e,c⟩,r⟩:=x;exact⟨mA,⟨od,es,ep,k _ _ (.inl rfl) e,c⟩,r⟩
 | rng lo hi=>obtain⟨t,u,v,e⟩:=x;exact⟨t,u,v,k _ _ (.inl rfl) e⟩
 | frz B u ih=>obtain⟨e,q⟩:=x;exact⟨k _ _ (.inl rfl) e,ih q⟩
 | tbl ps=>
  have e:h.get? a=some {cls:=.none,data:=.fields ps}:=x;show h'.get? a=some {cls:=.none,data:=.fields ps};exact k a _ (.inl rfl) e
 | met f y=>
  have e:h.get? a=some (zdT (.ref f) (.ref y)):=x;show h'.get? a=some (zdT (.ref f) (.ref y));exact k a _ (.inl rfl) e
 | ext φ=>obtain⟨p,⟨o,e⟩,st⟩:=x;exact⟨st _ _ p λo q=>k _ _ (.inl rfl) q,⟨o,k _ _ (.inl rfl) e⟩,st⟩
theorem HOk.lt(x:HOk P w H h)(e:H a=some o):a<h.objs.size:=(x a o e).lt
theorem HOk.fresh(x:HOk P w H h)(e:h.objs.size<=a):H a=none:=by
 cases q:H a with
 | none=>rfl
 | some u=>exact absurd (za0 (x.lt q) e) (zbQ _)
theorem HOk.kept(x:HOk P w H h)(k:∀b u,h.get? b=some u->h'.get? b=some u):HOk P w H h':=λa o e=>
 (x a o e).stay (λb u _ q=>k b u q) (λ_ q=>q) λ_ _ q=>q
theorem HOk.laid(x:HOk P w H h)(k:∀b u,h.get? b=some u->h'.get? b=some u)(F:h.objs.size<=a)(new:ObjOk P w (upd H a o) h' a o):HOk P w (upd H a o) h':=λb u e=>by
 have B:=x.fresh F;by_cases z:b=a
 ·subst z;rw[aL]at e;cases e;exact new
 ·rw[aG z]at e
  exact(x b u e).stay (λc v _ q=>k c v q) (λc q=>by rw[aG (bJ q B)];exact q) λc xs q=>by rw[aG (bJ q B)];exact q
end
def Rd(H:Hp)(a:Addr)(u:HO):Prop:=H a=some u\/∃o,H a=some (.frz o u)
theorem Rd.of(h:H a=some u):Rd H a u:=.inl h
theorem Rd.ok(r:Rd H a u)(x:HOk P w H h):ObjOk P w H h a u:=by
 rcases r with r|⟨o,r⟩
 ·exact x a u r
 ·obtain⟨_,q⟩:=x a _ r
  exact q
def Mut:Option HO->Prop
 | some (.lst _)=>True
 | some (.dK _)=>True
 | some (.dT _)=>True
 | some (.set _ _)=>True
 | some (.memo _ _ _)=>True
 | some (.ins _ _ _)=>True
 | some (.ext _)=>True
 | _=>False
section
variable {P:zai}{w:World}{H:Hp}{h h':Heap}{x e:Addr}{o':HO}
theorem HOk.write(ok:HOk P w H h)(N:Mut (H x))(W:e=x\/H e=some (.own x))(k:∀b u,b≠e->h.get? b=some u->h'.get? b=some u)(U:∃u,h'.get? e=some u)
  (new:ObjOk P w (upd H x o') h' x o'):HOk P w (upd H x o') h':=λb u q=>by
 have F:∀c y,H c=some (.own y)->c≠x:=λc y r z=>by subst z;rw[r]at N;exact N
 have G:∀c xs,H c=some (.tup xs)->c≠x:=λc xs r z=>by subst z;rw[r]at N;exact N
 by_cases J:b=x
 ·subst J;rw[aL]at q;cases q;exact new
 ·rw[aG J]at q
  by_cases B:b=e
  ·have Y:H b=some (.own x):=by
    rcases W with z|z
    ·exact absurd (B.trans z) J
    ·rw[B];exact z
   rw[q]at Y;cases Y;obtain⟨v,hv⟩:=U;exact⟨v,by rw[B];exact hv⟩
  ·refine(ok b u q).stay (λc v M r=>k c v ?_ r) (λc r=>by rw[aG (F c b r)];exact r) λc xs r=>by rw[aG (G c xs r)];exact r
   rcases M with rfl|M
   ·exact B
   ·rintro rfl
    rcases W with z|z
    ·exact F c b M z
    ·rw[M]at z;cases z;exact J rfl
end
structure Un(fs ex:List Addr)(H H':Hp)(h h':Heap):Prop where
 keep:∀b o,h.get? b=some o->H b=none->b∉fs->b∉ex->h'.get? b=some o
 slot:∀b o,h.get? b=some o->H b=none->b∈fs->b∉ex->∃sl,h'.get? b=some {o with slots:=sl}
 free:∀b o,h.get? b=some o->H b=none->b∉ex->H' b=none
 there:∀b o,h.get? b=some o->b∉ex->∃o',h'.get? b=some o'
 tups:∀b xs,H b=some (.tup xs)->H' b=some (.tup xs)
 frzs:∀b o u,H b=some (.frz o u)->H' b=some (.frz o u)
 tbls:∀b ps,H b=some (.tbl ps)->∃more,H' b=some (.tbl (ps++more))
section
variable {fs fs' ex ex':List Addr}{H H1 H2:Hp}{h h1 h2 h':Heap}{a x e:Addr}{o:HO}
theorem Un.any(u:Un fs ex H H1 h h1)(q:h.get? b=some ob)(n:H b=none)(hx:b∉ex):∃B,h1.get? b=some {ob with slots:=B}:=by
 by_cases z:b∈fs
 ·exact u.slot b ob q n z hx
 ·exact⟨ob.slots,u.keep b ob q n z hx⟩
theorem Un.trans(a:Un fs ex H H1 h h1)(b:Un fs ex H1 H2 h1 h2):Un fs ex H H2 h h2 where
 keep:=λc z q n F hx=>b.keep c z (a.keep c z q n F hx) (a.free c z q n hx) F hx
 slot:=λc z q n F hx=>by
  obtain⟨M,B⟩:=a.slot c z q n F hx;obtain⟨G,J⟩:=b.slot c _ B (a.free c z q n hx) F hx;exact⟨G,J⟩
 free:=λc z q n hx=>by
  obtain⟨o',B⟩:=a.there c z q hx;exact b.free c o' B (a.free c z q n hx) hx
 there:=λc z q hx=>by
  obtain⟨o',B⟩:=a.there c z q hx;exact b.there c o' B hx
 tups:=λc xs q=>b.tups c xs (a.tups c xs q)
 frzs:=λc z xs q=>b.frzs c z xs (a.frzs c z xs q)
 tbls:=λc ps q=>by
  obtain⟨m1,B⟩:=a.tbls c ps q;obtain⟨m2,J⟩:=b.tbls c _ B;exact⟨m1++m2,by rw[J,Array.append_assoc]⟩
theorem Un.kept(k:∀b u,h.get? b=some u->h'.get? b=some u):Un fs ex H H h h':=
 ⟨λb z q _ _ _=>k b z q,λb z q _ _ _=>⟨z.slots,k b z q⟩,λ_ _ _ n _=>n,λb z q _=>⟨z,k b z q⟩,λ_ _ q=>q,λ_ _ _ q=>q,λ_ ps q=>⟨#[],by rw[q];simp⟩⟩
theorem Un.refl:Un fs ex H H h h:=Un.kept λ_ _ q=>q
theorem Un.laid(k:∀b u,h.get? b=some u->h'.get? b=some u)(B:h.objs.size<=a)(z:H a=none):Un fs ex H (upd H a o) h h' where
 keep:=λb u q _ _ _=>k b u q
 slot:=λb u q _ _ _=>⟨u.slots,k b u q⟩
 free:=λb u q n _=>by rw[aG (zaF (za0 (zan q) B))];exact n
 there:=λb u q _=>⟨u,k b u q⟩
 tups:=λb xs q=>by rw[aG (bJ q z)];exact q
 frzs:=λb u xs q=>by rw[aG (bJ q z)];exact q
 tbls:=λb ps q=>⟨#[],by rw[aG (bJ q z),q];simp⟩
theorem Un.write(F:Mut (H x))(N:e=x\/H e=some (.own x))(k:∀b u,b≠e->h.get? b=some u->h'.get? b=some u)(G:∃u,h'.get? e=some u):Un fs ex H (upd H x o) h h':=by
 have hx:∀b,H b=none->b≠x:=λb n z=>by subst z;rw[n]at F;exact F
 have M:∀b,H b=none->b≠e:=λb n z=>by
  subst z;rcases N with r|r
  ·exact hx b n r
  ·rw[n]at r;cases r
 have J:∀b u,H b=some u->¬ Mut (some u)->b≠x:=λb u q nm z=>by subst z;rw[q]at F;exact nm F
 refine⟨λb u q n _ _=>k b u (M b n) q,λb u q n _ _=>⟨u.slots,k b u (M b n) q⟩,λb u q n _=>by rw[aG (hx b n)];exact n,λb u q _=>?_,
  λb xs q=>by rw[aG (J b _ q λz=>z)];exact q,λb u xs q=>by rw[aG (J b _ q λz=>z)];exact q,λb ps q=>⟨#[],by rw[aG (J b _ q λz=>z),q];simp⟩⟩
 by_cases B:b=e
 ·subst B;exact G
 ·exact⟨u,k b u B q⟩
theorem Un.mono(u:Un fs ex H H1 h h1)(hs:∀b∈fs,b∈fs')(hx:∀b∈ex,b∈ex'):Un fs' ex' H H1 h h1:=
 ⟨λb F q n G B=>u.keep b F q n (λz=>G (hs b z)) λz=>B (hx b z),λ_ _ q n _ B=>u.any q n λz=>B (hx _ z),λb F q n B=>u.free b F q n λz=>B (hx b z),λb F q B=>u.there b F q λz=>B (hx b z),u.tups,u.frzs,u.tbls⟩
end
def trk(h:Heap)(H:Hp):List Addr:=(zas h.objs.size).filter λa=>(H a).isSome
def zU(h:Heap)(H:Hp):Heap:=PySem.W.hideAll h (trk h H)
theorem JG(h:Heap)(H:Hp):(zU h H).objs.size=h.objs.size:=PySem.W.hideAll_size _ _
theorem MC(e:h.get? b=some o)(n:H b=none):(zU h H).get? b=some o:=
 PySem.W.hideAll_get _ e λz=>by
  have q:(H b).isSome=true:=(List.mem_filter.mp z).2;rw[n]at q;simp at q
theorem S9(e:(zU h H).get? b=some o):h.get? b=some o/\H b=none:=by
 have B:h.get? b=some o:=PySem.W.of_hideAll (trk h H) e;refine⟨B,?_⟩;cases q:H b with
 | none=>rfl
 | some x=>
  have F:b∈trk h H:=List.mem_filter.mpr ⟨List.mem_range.mpr (zan B),by simp[q]⟩;have z:(zU h H).get? b=none:=PySem.W.hideAll_none (trk h H) F;rw[z]at e;cases e
def RW(g h:Heap)(L:Addr):List (Addr×Obj):=(zas h.objs.size).filterMap λa=>if a=L\/(g.get? a).isSome=true then none else(h.get? a).map λo=>(a,o)
def rest(g h:Heap)(L d:Addr):List (Addr×Obj):=(RW g h L).filter λp=>decide (p.1≠d)
structure Mod(K:zae)(mg:Str->Option Value)(base:Heap):Prop where
 kin:K.In base
 glob:base.Ns zaL mg
 blt:∃mb,base.Ns builtinsNs mb/\∀x:Str,x ≠ "__name__" -> mb x=zaG x
 nolimit:base.NoLimit
structure Cx where
 prog:zai
 w:World
 K:zae
 mg:Str->Option Value
 base:Heap
 A:zao
 N:List Str
 s₀:zad
 H₀:Hp
 env:Env
 outer:List Env
 stack:List Env
 ex:List Addr
 fn:Str->Bool
 calm:Bool
 pn:List (Addr×Obj)
 xe:Value->zad->Prop
noncomputable def frs(l:List Env):List Addr:=l.filterMap (·.frame)
abbrev Cx.fs(X:Cx):List Addr:=frs X.outer
def ZN(sc:Scope)(x:Str):Prop:=sc.names.lookup x=some .local\/sc.names.lookup x=some .cell\/sc.names.lookup x=some .free
def Loc(sc:Scope)(x:Str):Prop:=sc.names.lookup x=some .local\/sc.names.lookup x=some .cell
def Look(env:Env)(h:Heap)(m:Str->Option Value)(x:Str)(u:Value):Prop:=
 (env.kindOf x=some .local/\m x=some u)\/((env.kindOf x=some .cell\/env.kindOf x=some .free)/\∃c,env.cells.lookup x=some c/\h.IsCell c (some u))
structure Cx.Ok(X:Cx):Prop where
 mod:Mod X.K X.mg X.base
 kind:X.env.scope.kind=.function
 glob:X.env.globals=zaL
 blt:X.env.builtins=builtinsNs
 above:X.s₀.heap.objs.size<=X.env.locals
 inj:∀x y c,X.env.cells.lookup x=some c->X.env.cells.lookup y=some c->x=y
 has:∀x,(X.env.kindOf x=some .cell\/X.env.kindOf x=some .free)->∃c,X.env.cells.lookup x=some c
 cab:∀x c,X.fn x=true->X.env.cells.lookup x=some c->X.s₀.heap.objs.size<=c
 hd:X.calm=true->X.A.handled=none
 frames:X.A.frames=some X.stack
 stk:X.stack=X.outer\/(X.stack=X.env::X.outer/\X.env.frame=some X.env.locals)
 exf:∀b∈X.ex,b≠X.env.locals/\∀x c,X.env.cells.lookup x=some c->c≠b
 bs:∀b o,X.base.get? b=some o->X.s₀.heap.get? b=some o/\X.H₀ b=none
 bsz:X.base.objs.size<=X.s₀.heap.objs.size
 noex:∀b o,X.base.get? b=some o->b∉X.ex
 exfs:∀b∈X.ex,b∉X.fs
 funs:X.s₀.heap.FunFrames X.base X.outer
 frf:∀b∈X.fs,X.H₀ b=none
structure Inv(X:Cx)(pins:List (Addr×Obj))(σ:List (Option V))(H:Hp)(s:zad):Prop where
 ok:X.Ok
 os:s.os=X.s₀.os
 bare:zbR s.gens
 base:Un X.fs X.ex X.H₀ H X.s₀.heap s.heap
 loc:∃m,s.heap.Ns X.env.locals m/\∀(i:Nat) (x:Str) (v:V),X.N[i]?=some x->σ[i]?=some (some v)->ZN X.env.scope x->∃u,RelV v u/\Look X.env s.heap m x u
 cell:∀x c,X.env.cells.lookup x=some c->∃v,s.heap.IsCell c v
 free:H X.env.locals=none
 freeC:∀x c,X.env.cells.lookup x=some c->H c=none
 pin:∀p∈X.pn++pins,s.heap.get? p.1=some p.2/\H p.1=none/\p.1≠X.env.locals/\p.1∉X.fs/\∀v,p.2.data≠.cell v
 hok:HOk X.prog X.w H s.heap
 len:σ.length=X.N.length
section
variable {X:Cx}{pins:List (Addr×Obj)}{σ:List (Option V)}{H H':Hp}{s:zad}{h':Heap}
theorem Cx.Ok.nofr(ok:X.Ok)(e:X.base.get? b=some o):b∉X.fs:=λq=>by
 have:=(ok.funs.mem q).1;rw[e]at this;cases this
theorem Inv.bs(I:Inv X pins σ H s):∀b o,X.base.get? b=some o->s.heap.get? b=some o/\H b=none:=λb o e=>
 ⟨I.base.keep b o (I.ok.bs b o e).1 (I.ok.bs b o e).2 (I.ok.nofr e) (I.ok.noex b o e),I.base.free b o (I.ok.bs b o e).1 (I.ok.bs b o e).2 (I.ok.noex b o e)⟩
theorem Inv.bk(I:Inv X pins σ H s):∀b o,X.base.get? b=some o->s.heap.get? b=some o:=λb o e=>(I.bs b o e).1
theorem Inv.mod(I:Inv X pins σ H s):Mod X.K X.mg X.base:=I.ok.mod
theorem Inv.kIn(I:Inv X pins σ H s):X.K.In s.heap:=I.ok.mod.kin.keeps I.bk
theorem Inv.lt(I:Inv X pins σ H s):X.env.locals<s.heap.objs.size:=let ⟨_,hn,_⟩:=I.loc;hn.lt
theorem Inv.sz(I:Inv X pins σ H s):X.s₀.heap.objs.size<=s.heap.objs.size:=zaM I.ok.above (Nat.le_of_lt I.lt)
theorem Inv.nofs(I:Inv X pins σ H s)(h:s.heap.objs.size<=a):a∉X.fs:=λz=>by
 obtain⟨_,o,q,_⟩:=I.ok.funs.mem z;exact absurd (za0 (zan q) (zaM I.sz h)) (zbQ _)
theorem Inv.cne(I:Inv X pins σ H s):∀x c,X.env.cells.lookup x=some c->c≠X.env.locals:=λx c e z=>by
 obtain⟨v,o,F,hd⟩:=I.cell x c e;obtain⟨m,⟨o',es,ep,q,B,_⟩,_⟩:=I.loc;rw[z,q]at F;cases F;rw[B]at hd;cases hd
theorem Inv.funs(I:Inv X pins σ H s):s.heap.FunFrames X.base X.outer:=by
 have all:∀(l:List Env),(∀b∈frs l,b∈X.fs)->X.s₀.heap.FunFrames X.base l->s.heap.FunFrames X.base l:=by
  intro l;induction l with
  | nil=>intro _ _;trivial
  | cons env r ih=>
   intro hs J;obtain⟨U,⟨L,o,q,G,N,hd⟩,M⟩:=J;have F:L∈X.fs:=hs L (by unfold frs;rw[zdU,q];exact zar);obtain⟨W,e⟩:=I.base.slot L o N (I.ok.frf L F) F λz=>I.ok.exfs L z F
   exact⟨U,⟨L,_,q,G,e,hd⟩,ih (λb B=>hs b (by unfold frs;rw[zdU,q];exact zap _ B)) M⟩
 exact all X.outer (λ_ B=>B) I.ok.funs
theorem Inv.stack(I:Inv X pins σ H s):s.heap.FunFrames X.base X.stack:=by
 rcases I.ok.stk with e|⟨e,q⟩
 ·rw[e];exact I.funs
 ·rw[e]
  obtain⟨m,z,_⟩:=I.loc;refine .cons (by rw[I.ok.kind];decide) q z ?_ I.funs;exact Heap.get?_none_of_le (zaM I.ok.bsz I.ok.above)
theorem Inv.stkSub(I:Inv X pins σ H s):∀b∈frs X.stack,b∈X.env.locals::X.fs:=λb q=>by
 rcases I.ok.stk with e|⟨e,z⟩
 ·rw[e]at q;exact zap _ q
 ·rw[e]at q
  unfold frs at q;rw[zdU,z]at q;exact q
theorem Inv.stkFree(I:Inv X pins σ H s):∀b∈frs X.stack,H b=none:=λb q=>by
 rcases List.mem_cons.mp (I.stkSub b q)with e|q
 ·rw[e];exact I.free
 ·obtain⟨_,o,B,_⟩:=I.ok.funs.mem q
  exact I.base.free b o B (I.ok.frf b q) λz=>I.ok.exfs b z q
theorem Inv.step{g':Array GenState}{t':Nat}{d':Drawn}{ch:List Addr}(I:Inv X pins σ H s)
  (G:∀b∈ch,(b∈X.ex\/X.s₀.heap.objs.size<=b)/\b≠X.env.locals/\(∀x c,X.env.cells.lookup x=some c->c≠b)/\∀p∈X.pn++pins,p.1≠b)
  (F:∀b o,b≠X.env.locals->b∉X.fs->b∉ch->s.heap.get? b=some o->H b=none->h'.get? b=some o)
  (U:∀b o,b≠X.env.locals->b∈X.fs->b∉ch->s.heap.get? b=some o->H b=none->∃sl,h'.get? b=some {o with slots:=sl}) (free:∀b o,b∉ch->s.heap.get? b=some o->H b=none->H' b=none)
  (there:∀b o,b∉ch->s.heap.get? b=some o->∃o',h'.get? b=some o')
  (ad:∀b xs,H b=some (.tup xs)->H' b=some (.tup xs)) (ae:∀b o u,H b=some (.frz o u)->H' b=some (.frz o u)) (ac:∀b ps,H b=some (.tbl ps)->∃more,H' b=some (.tbl (ps++more)))
  (ns:∀m,s.heap.Ns X.env.locals m->h'.Ns X.env.locals m) (ag:HOk X.prog X.w H' h') (hg:zbR g') :
  Inv X pins σ H' {s with heap:=h',gens:=g',drawn:=d',toks:=t'}:=by
 have aa:∀b o,X.s₀.heap.get? b=some o->b≠X.env.locals:=λb o e=>zaF (za0 (zan e) I.ok.above)
 have M:∀b o,X.s₀.heap.get? b=some o->b∉X.ex->b∉ch:=λb o e hx W=>by
  rcases(G b W).1 with z|z
  ·exact hx z
  ·exact absurd (za0 (zan e) z) (zbQ _)
 have J:∀x c,X.env.cells.lookup x=some c->∀v,s.heap.IsCell c v->h'.IsCell c v:=by
  rintro x c e v ⟨o,Y,hd⟩;have B:c∉ch:=λz=>(G c z).2.2.1 x c e rfl
  by_cases hc:c∈X.fs
  ·obtain⟨sl,q⟩:=U c o (I.cne x c e) hc B Y (I.freeC x c e)
   exact⟨_,q,hd⟩
  ·exact⟨o,F c o (I.cne x c e) hc B Y (I.freeC x c e),hd⟩
 refine⟨I.ok,I.os,hg,⟨λb o e n W hx=>?_,λb o e n W hx=>?_,λb o e n hx=>?_,λb o e hx=>?_,λb xs e=>ad b xs (I.base.tups b xs e),λb o xs e=>ae b o xs (I.base.frzs b o xs e),λb ps e=>?_⟩,?_,λx c e=>?_,?_,λx c e=>?_,λp hp=>?_,ag,I.len⟩
 ·exact F b o (aa b o e) W (M b o e hx) (I.base.keep b o e n W hx) (I.base.free b o e n hx)
 ·obtain⟨sl,N⟩:=I.base.slot b o e n W hx
  obtain⟨af,e2⟩:=U b _ (aa b o e) W (M b o e hx) N (I.base.free b o e n hx);exact⟨af,e2⟩
 ·obtain⟨o',N⟩:=I.base.there b o e hx
  exact free b o' (M b o e hx) N (I.base.free b o e n hx)
 ·obtain⟨o',N⟩:=I.base.there b o e hx
  exact there b o' (M b o e hx) N
 ·obtain⟨m1,N⟩:=I.base.tbls b ps e
  obtain⟨m2,e2⟩:=ac b _ N;exact⟨m1++m2,by rw[e2,Array.append_assoc]⟩
 ·obtain⟨m,hn,hl⟩:=I.loc
  refine⟨m,ns m hn,λi x v N e2 e3=>?_⟩;obtain⟨u,r,l⟩:=hl i x v N e2 e3;refine⟨u,r,?_⟩;rcases l with l|⟨k,c,e,z⟩
  ·exact .inl l
  ·exact .inr ⟨k,c,e,J x c e _ z⟩
 ·obtain⟨v,z⟩:=I.cell x c e
  exact⟨v,J x c e v z⟩
 ·obtain⟨m,⟨o,_,_,Y,_⟩,_⟩:=I.loc
  exact free _ o (λz=>(G _ z).2.1 rfl) Y I.free
 ·obtain⟨v,o,Y,hd⟩:=I.cell x c e
  exact free c o (λz=>(G c z).2.2.1 x c e rfl) Y (I.freeC x c e)
 ·obtain⟨e,n,ne,nf,d⟩:=I.pin p hp
  have B:p.1∉ch:=λz=>(G p.1 z).2.2.2 p hp rfl
  exact⟨F p.1 p.2 ne nf B e n,free p.1 p.2 B e n,ne,nf,d⟩
theorem Inv.un{t':Nat}(I:Inv X pins σ H s)(u:Un X.fs [] H H' s.heap h')(J:HOk X.prog X.w H' h'):Inv X pins σ H' {s with heap:=h',toks:=t'}:=by
 obtain⟨m,⟨o,es,ep,M,r⟩,_⟩:=id I.loc;obtain⟨Y,N⟩:=u.any M I.free (by simp);exact I.step (g':=s.gens) (d':=s.drawn) (ch:=[]) (λ_ z=>nomatch z) (λb o _ B _ e n=>u.keep b o e n B (by simp)) (λb o _ B _ e n=>u.slot b o e n B (by simp)) (λb o _ e n=>u.free b o e n (by simp)) (λb o _ e=>u.there b o e (by simp)) u.tups u.frzs u.tbls (λm' W=>by
  obtain⟨o',G,F,q,U⟩:=W;rw[M]at q;cases q;exact⟨_,G,F,N,U⟩) J I.bare
theorem Inv.call{g':Array GenState}{t':Nat}{d':Drawn}{ch:List Addr}(I:Inv X pins σ H s)(u:Un (frs X.stack) ch H H' s.heap h')(M:HOk X.prog X.w H' h')(hg:zbR g')
  (F:∀b∈ch,(b∈X.ex\/X.s₀.heap.objs.size<=b)/\b≠X.env.locals/\(∀x c,X.env.cells.lookup x=some c->c≠b)/\∀p∈X.pn++pins,p.1≠b) :
  Inv X pins σ H' {s with heap:=h',gens:=g',drawn:=d',toks:=t'}:=by
 obtain⟨m,⟨o,es,ep,U,r⟩,_⟩:=id I.loc;obtain⟨sl,N⟩:=u.any U I.free λz=>(F _ z).2.1 rfl
 exact I.step (ch:=ch) F (λb o N W q e n=>u.keep b o e n (λz=>(List.mem_cons.mp (I.stkSub b z)).elim N W) q) (λb o _ _ q e n=>u.any e n q) (λb o q e n=>u.free b o e n q) (λb o q e=>u.there b o e q) u.tups u.frzs u.tbls (λm' hm=>by
  obtain⟨o',J,G,B,Y⟩:=hm;rw[U]at B;cases B;exact⟨_,J,G,N,Y⟩) M hg
theorem Inv.turned{t':Nat}{it:Addr}(I:Inv X pins σ H s)(k:∀b o,b≠it->s.heap.get? b=some o->h'.get? b=some o)(M:H it=none)(G:it≠X.env.locals)
  (h1:it∈X.ex\/X.s₀.heap.objs.size<=it) (h2:∀x c,X.env.cells.lookup x=some c->c≠it) (N:∀p∈X.pn++pins,p.1≠it):Inv X pins σ H {s with heap:=h',toks:=t'}:=by
 have F:∀b u,H b=some u->b≠it:=λb u e z=>by rw[z,M]at e;cases e
 refine I.step (g':=s.gens) (d':=s.drawn) (ch:=[it]) (λb J=>?_) (λb o _ _ B e _=>k b o (λz=>B (by simp[z])) e) (λb o _ _ B e _=>⟨o.slots,k b o (λz=>B (by simp[z])) e⟩) (λ_ _ _ _ n=>n)
  (λb o B e=>⟨o,k b o (λz=>B (by simp[z])) e⟩) (λ_ _ e=>e) (λ_ _ _ e=>e) (λb ps e=>⟨#[],by rw[e];simp⟩) (λm W=>?_) (λb u e=>?_) I.bare
 ·have e:b=it:=by simpa using J
  subst e;exact⟨h1,G,h2,N⟩
 ·obtain⟨o,es,ep,U,r⟩:=W
  exact⟨o,es,ep,k _ o (zaW G) U,r⟩
 ·refine(I.hok b u e).stay (λc v B q=>k c v ?_ q) (λ_ q=>q) λ_ _ q=>q
  rcases B with z|z
  ·rw[z];exact F b u e
  ·exact F c _ z
theorem Inv.tok(I:Inv X pins σ H s)(t:Nat):Inv X pins σ H {s with toks:=t}:=I.un (h':=s.heap) (t':=t) Un.refl I.hok
theorem Inv.kept(I:Inv X pins σ H s)(k:∀b u,s.heap.get? b=some u->h'.get? b=some u):Inv X pins σ H {s with heap:=h',toks:=t'}:=I.un (Un.kept k) (I.hok.kept k)
theorem Inv.laid(I:Inv X pins σ H s)(k:∀b u,s.heap.get? b=some u->h'.get? b=some u)(q:s.heap.objs.size<=a)(new:ObjOk X.prog X.w (upd H a o) h' a o) :
  Inv X pins σ (upd H a o) {s with heap:=h',toks:=t'}:=I.un (Un.laid k q (I.hok.fresh q)) (I.hok.laid k q new)
theorem Inv.write(I:Inv X pins σ H s)(B:Mut (H x))(z:e=x\/H e=some (.own x))(k:∀b u,b≠e->s.heap.get? b=some u->h'.get? b=some u)(q:∃u,h'.get? e=some u)
  (new:ObjOk X.prog X.w (upd H x o) h' x o):Inv X pins σ (upd H x o) {s with heap:=h',toks:=t'}:=I.un (Un.write B z k q) (I.hok.write B z k q new)
theorem Inv.pins_of(I:Inv X pins σ H s)(h:∀p∈pins',s.heap.get? p.1=some p.2/\H p.1=none/\p.1≠X.env.locals/\p.1∉X.fs/\∀v,p.2.data≠.cell v):Inv X pins' σ H s:=
 ⟨I.ok,I.os,I.bare,I.base,I.loc,I.cell,I.free,I.freeC,λp q=>(List.mem_append.mp q).elim (λz=>I.pin p (zbt _ z)) (h p),I.hok,I.len⟩
theorem CP{N:List Str}(z:N.Nodup){i j:Nat}{x:Str}(a:N[i]?=some x)(b:N[j]?=some x):i=j:=by
 obtain⟨h1,B⟩:=List.getElem?_eq_some_iff.mp a;obtain⟨h2,q⟩:=List.getElem?_eq_some_iff.mp b;exact(zdV z).mp (B.trans q.symm)
theorem wO{M:Model}{A:zao}{E:Value->zad->Prop}{i:Nat}{x:Str}{v:V}{u:Value}{Q:Unit->zad->Prop}(I:Inv X pins σ H s)(hN:X.N.Nodup)(hi:X.N[i]?=some x)(hx:Loc X.env.scope x)(r:RelV v u)
  (h:∀s',Inv X pins (σ.set i (some v)) H s'->(∃a,za4 a s.heap s'.heap/\(a=X.env.locals\/X.env.cells.lookup x=some a))->Q () s') (hf:X.fn x=true\/X.env.scope.names.lookup x=some .local:=by first|exact .inl rfl|exact .inr rfl|assumption):wpAny M A (storeName X.env x u) Q E s:=by
 obtain⟨m,hn,hl⟩:=id I.loc;have af:(X.env.scope.kind == .class || (X.env.scope.kind == .module && X.env.locals != X.env.globals))=false:=by rw[I.ok.kind];rfl
 have Y:i<σ.length:=by rw[I.len];exact(List.getElem?_eq_some_iff.mp hi).1
 have cne:=I.cne;have B:∀ {a:Addr} {h':Heap},(∃o,s.heap.get? a=some o/\H a=none)->za4 a s.heap h'->HOk X.prog X.w H h':=λ{a h'} ha hs b ob e=>by
  obtain⟨_,_,J⟩:=ha;refine(I.hok b ob e).stay (λc w' G q=>(hs.2 c ?_).trans q) (λ_ q=>q) λ_ _ q=>q
  rintro rfl;rcases G with rfl|G
  ·rw[J]at e;cases e
  ·rw[J]at G;cases G
 rcases hx with W|W
 ·refine wpAny_storeName_local W hn (λh' am hs=>?_) af
  obtain⟨oL,_,_,aq,_⟩:=id hn;refine h _ ⟨I.ok,I.os,I.bare,⟨λb o e n hb hx=>?_,λb o e n hb hx=>?_,I.base.free,λb o e hx=>?_,I.base.tups,I.base.frzs,I.base.tbls⟩,⟨_,am,λj y v' F U e3=>?_⟩,λy c e=>?_,I.free,I.freeC,λp hp=>?_,B ⟨oL,aq,I.free⟩ hs,by simpa using I.len⟩ ⟨_,hs,.inl rfl⟩
  ·exact(hs.2 b (zaF (za0 (zan e) I.ok.above))).trans (I.base.keep b o e n hb hx)
  ·obtain⟨sl,F⟩:=I.base.slot b o e n hb hx
   exact⟨sl,(hs.2 b (zaF (za0 (zan e) I.ok.above))).trans F⟩
  ·obtain⟨o',F⟩:=I.base.there b o e hx
   exact⟨o',(hs.2 b (zaF (za0 (zan e) I.ok.above))).trans F⟩
  ·by_cases hj:j=i
   ·subst hj
    rw[hi]at F;cases F;rw[zcz Y]at U;cases U;exact⟨u,r,.inl ⟨W,by simp⟩⟩
   ·rw[zbE (zaW hj)]at U
    obtain⟨u',r',q⟩:=hl j y v' F U e3;refine⟨u',r',?_⟩;rcases q with⟨k,e⟩|⟨k,c,e,z⟩
    ·refine .inl ⟨k,?_⟩
     have:y≠x:=λe=>hj (CP hN F (e ▸ hi))
     simp[this,e]
    ·exact .inr ⟨k,c,e,z.sameBut hs (cne y c e)⟩
  ·obtain⟨w',z⟩:=I.cell y c e
   exact⟨w',z.sameBut hs (cne y c e)⟩
  ·obtain⟨e,n,ne,nf,d⟩:=I.pin p hp
   exact⟨(hs.2 p.1 ne).trans e,n,ne,nf,d⟩
 ·have ac:X.fn x=true:=by
   rcases hf with z|z
   ·exact z
   ·rw[z]at W;cases W
  obtain⟨c,G⟩:=I.ok.has x (.inl W);obtain⟨w',z⟩:=I.cell x c G;refine wpAny_storeName_cell I.ok.kind W G z (λh' ag hs=>?_);obtain⟨oc,ah,ae⟩:=id z;refine h {s with heap:=h'} ⟨I.ok,I.os,I.bare,⟨λb o e n hb hx=>?_,λb o e n hb hx=>?_,I.base.free,λb o e hx=>?_,I.base.tups,I.base.frzs,I.base.tbls⟩,⟨m,hn.sameBut hs (zaW (cne x c G)),λj y v' F U e3=>?_⟩,λy c' e=>?_,I.free,I.freeC,λp hp=>?_,B ⟨oc,ah,I.freeC x c G⟩ hs,by simpa using I.len⟩ ⟨c,hs,.inr G⟩
  ·exact(hs.2 b (zaF (za0 (zan e) (I.ok.cab x c ac G)))).trans (I.base.keep b o e n hb hx)
  ·obtain⟨sl,F⟩:=I.base.slot b o e n hb hx
   exact⟨sl,(hs.2 b (zaF (za0 (zan e) (I.ok.cab x c ac G)))).trans F⟩
  ·obtain⟨o',F⟩:=I.base.there b o e hx
   exact⟨o',(hs.2 b (zaF (za0 (zan e) (I.ok.cab x c ac G)))).trans F⟩
  ·by_cases hj:j=i
   ·subst hj
    rw[hi]at F;cases F;rw[zcz Y]at U;cases U;exact⟨u,r,.inr ⟨.inl W,c,G,ag⟩⟩
   ·rw[zbE (zaW hj)]at U
    obtain⟨u',r',q⟩:=hl j y v' F U e3;refine⟨u',r',?_⟩;rcases q with q|⟨k,c',e,z'⟩
    ·exact .inl q
    ·refine .inr ⟨k,c',e,z'.sameBut hs ?_⟩
     rintro rfl;exact hj (CP hN F (I.ok.inj _ _ _ e G ▸ hi))
  ·by_cases ad:c'=c
   ·subst ad;exact⟨_,ag⟩
   ·obtain⟨w2,z2⟩:=I.cell y c' e
    exact⟨w2,z2.sameBut hs ad⟩
  ·obtain⟨e,n,ne,nf,d⟩:=I.pin p hp
   refine⟨(hs.2 p.1 ?_).trans e,n,ne,nf,d⟩;intro q;rw[q,ah]at e;have q':oc=p.2:=zay e;exact d w' (by rw[<- q'];exact ae)
theorem A4(I:Inv X pins σ H s)(B:X.N.Nodup)(hi:X.N[i]?=some x)(hx:Loc X.env.scope x)(r:RelV v u)
  (h:∀s',Inv X pins (σ.set i (some v)) H s'->Q () s') (q:X.fn x=true\/X.env.scope.names.lookup x=some .local:=by first|exact .inl rfl|exact .inr rfl|assumption):wpAny M A (storeName X.env x u) Q E s:=
 wO I B hi hx r (λs' z _=>h s' z) q
theorem Inv.call'(I:Inv X pins σ H s)(B:s'.os=s.os)(u:Un (frs X.stack) ch H H' s.heap s'.heap)(q:HOk X.prog X.w H' s'.heap)(F:zbR s'.gens)
  (z:∀b∈ch,(b∈X.ex\/X.s₀.heap.objs.size<=b)/\b≠X.env.locals/\(∀x c,X.env.cells.lookup x=some c->c≠b)/\∀p∈X.pn++pins,p.1≠b):Inv X pins σ H' s':=by
 obtain⟨h',g',d',t',o'⟩:=s';have e:o'=s.os:=B;subst e;exact I.call (g':=g') (t':=t') (d':=d') u q F z
end
abbrev XK:=Value->Option Addr->Hp->Prop
abbrev St:=List (Option V)
abbrev VK:=V->Hp->Prop
abbrev TE:=St->Hp->VK->Prop
abbrev TT:=St->Hp->(Bool->Hp->Prop)->Prop
abbrev TA:=St->Hp->(List V->Hp->Prop)->Prop
structure Ends where
 nx:St->Hp->Prop
 rt:VK
 bk:St->Hp->Prop:=λ_ _=>False
 ct:St->Hp->Prop:=λ_ _=>False
abbrev TS:=Ends->St->Hp->Prop
inductive EP(X:Cx)(pins:List (Addr×Obj))(σ:St)(Q:VK)(u:Value)(s':zad):Prop
 | mk (v:V) (H':Hp) (i:Inv X pins σ H' s') (r:RelV v u) (q:Q v H'):EP X pins σ Q u s'
inductive TP(X:Cx)(pins:List (Addr×Obj))(σ:St)(Q:Bool->Hp->Prop)(b:Bool)(s':zad):Prop
 | mk (H':Hp) (i:Inv X pins σ H' s') (q:Q b H'):TP X pins σ Q b s'
inductive AP(X:Cx)(pins:List (Addr×Obj))(σ:St)(Q:List V->Hp->Prop)(us:List Value)(s':zad):Prop
 | mk (vs:List V) (H':Hp) (i:Inv X pins σ H' s') (r:Vals vs us) (q:Q vs H'):AP X pins σ Q us s'
def SP(X:Cx)(pins:List (Addr×Obj))(D:Ends)(f:Flow)(s':zad):Prop:=
 match f with
 | .next=>∃σ' H',Inv X pins σ' H' s'/\D.nx σ' H'
 | .brk=>∃σ' H',Inv X pins σ' H' s'/\D.bk σ' H'
 | .cont=>∃σ' H',Inv X pins σ' H' s'/\D.ct σ' H'
 | .ret u=>∃v σ' H',Inv X pins σ' H' s'/\RelV v u/\D.rt v H'
def PE(X:Cx)(e:Expr)(t:TE):Prop:=
 ∀(pins:List (Addr×Obj)) (s:zad) (σ:St) (H:Hp) (Q:VK),Inv X pins σ H s->t σ H Q->wpAny (model X.prog X.w) X.A (eval e X.env) (EP X pins σ Q) X.xe s
def PT(X:Cx)(e:Expr)(t:TT):Prop:=
 ∀(pins:List (Addr×Obj)) (s:zad) (σ:St) (H:Hp) (Q:Bool->Hp->Prop),Inv X pins σ H s->t σ H Q->wpAny (model X.prog X.w) X.A (isTrue e X.env (eval e X.env)) (TP X pins σ Q) X.xe s
def PW(X:Cx)(e:Expr)(t:TT):Prop:=
 ∀(whole:Sem Value) (pins:List (Addr×Obj)) (s:zad) (σ:St) (H:Hp) (Q:Bool->Hp->Prop),Inv X pins σ H s->t σ H Q->wpAny (model X.prog X.w) X.A (isTrue e X.env whole) (TP X pins σ Q) X.xe s
theorem PW.pt{X:Cx}{e:Expr}{t:TT}(h:PW X e t):PT X e t:=h _
def PA(X:Cx)(es:List Expr)(t:TA):Prop:=
 ∀(pos:Pos) (pins:List (Addr×Obj)) (s:zad) (σ:St) (H:Hp) (Q:List V->Hp->Prop),Inv X pins σ H s->t σ H Q->wpAny (model X.prog X.w) X.A (spliced (zaH pos (zag es X.env))) (AP X pins σ Q) X.xe s
def PS(X:Cx)(st:Stmt)(t:TS):Prop:=
 ∀(pins:List (Addr×Obj)) (s:zad) (σ:St) (H:Hp) (D:Ends),Inv X pins σ H s->t D σ H->wpAny (model X.prog X.w) X.A (exec st X.env) (SP X pins D) X.xe s
def PSs(X:Cx)(st:List Stmt)(t:TS):Prop:=
 ∀(pins:List (Addr×Obj)) (s:zad) (σ:St) (H:Hp) (D:Ends),Inv X pins σ H s->t D σ H->wpAny (model X.prog X.w) X.A (execs st X.env) (SP X pins D) X.xe s
theorem cK{q:Type}{t:Sem q}{Q z:q->zad->Prop}{M:Model}{A:zao}{E:Value->zad->Prop}{s:zad}(h:wpAny M A t Q E s)(B:∀a s,Q a s->z a s):wpAny M A t z E s:=za7 h B λ_ _ x=>x
section
variable {X:Cx}
def dB(i:Nat):TE:=λσ H Q=>∃v,σ[i]?=some (some v)/\Q v H
def tC(v:V):TE:=λ_ H Q=>Q v H
theorem YW(U:X.N[i]?=some x)(J:ZN X.env.scope x)(hd:(x == ("__debug__" : Str))=false:=by decide)(B:(x == ("__classdict__" : Str))=false:=by decide):PE X (.Name x pos) (dB i):=by
 intro pins s σ H Q I h;obtain⟨v,e,h⟩:=h;obtain⟨m,G,M⟩:=I.loc;obtain⟨u,r,l⟩:=M i x v U e J;have fin:EP X pins σ Q u s:=⟨v,H,I,r,h⟩;rcases l with⟨z,W⟩|⟨z,c,F,q⟩
 ·exact wpAny_Name (wpAny_loadName_local I.ok.kind z G W fin) hd
 ·rcases z with z|z
  ·exact wpAny_Name (wpAny_loadName_cell I.ok.kind z F q fin) hd
  ·exact wpAny_Name (wpAny_loadName_free I.ok.kind z F q fin B) hd
theorem mT{i j pos}:PE X (.Constant (.int i) j pos) (tC (.int i)):=λ_ _ _ H _ I h=>wpAny_Constant_int ⟨.int i,H,I.tok _,⟨_,rfl⟩,h⟩
theorem qh{b j pos}:PE X (.Constant (.bool b) j pos) (tC (.bl b)):=λ_ _ _ H _ I h=>Constant_bool ⟨.bl b,H,I,rfl,h⟩
theorem XE{j pos}:PE X (.Constant .none j pos) (tC .non):=λ_ _ _ H _ I h=>Constant_none ⟨.non,H,I,rfl,h⟩
theorem mV{x j pos}:PE X (.Constant (.str x) j pos) (tC (.str x)):=λ_ _ _ H _ I h=>Calls.Constant_str ⟨.str x,H,I.tok _,⟨_,rfl⟩,h⟩
def Gl(X:Cx)(x:Str):Prop:=X.env.kindOf x=some .globalImplicit
theorem HG(I:Inv X pins σ H s)(z:Gl X x)(q:X.mg x=some u)(h:Q u s)
  (hd:(x == ("__debug__" : Str))=false:=by decide):wpAny (model X.prog X.w) X.A (eval (.Name x pos) X.env) Q E s:=
 Calls.Name_function_global I.ok.kind z (Calls.loadGlobal_global (by rw[I.ok.glob];exact I.mod.glob.keeps I.bk) q h) hd
theorem mX{E:Value->zad->Prop}{pins:List (Addr×Obj)}{s:zad}{σ:St}{H:Hp}{x:Str}{u:Value}{pos:Pos}{Q:Value->zad->Prop}(I:Inv X pins σ H s)(F:Gl X x)(B:X.mg x=none)(z:zaG x=some u)(h:Q u s)
  (q:x ≠ "__name__" := by decide) (hd:(x == ("__debug__" : Str))=false:=by decide):wpAny (model X.prog X.w) X.A (eval (.Name x pos) X.env) Q E s:=by
 obtain⟨G,h1,h2⟩:=I.mod.blt;exact Calls.Name_function_global I.ok.kind F (Calls.loadGlobal_builtin (by rw[I.ok.glob];exact I.mod.glob.keeps I.bk) B (by rw[I.ok.blt];exact h1.keeps I.bk) ((h2 x q).trans z) h) hd
theorem RQ(F:Gl X x)(q:X.mg x=none)(B:zaG x=some u)(r:RelV v u)(z:x ≠ "__name__" := by decide)(hd:(x == ("__debug__" : Str))=false:=by decide):PE X (.Name x pos) (tC v):=
 λ_ _ _ H _ I h=>mX I F q B ⟨v,H,I,r,h⟩ z hd
variable {a b:Expr}{ta tb:TE}{pos:Pos}
def PC(X:Cx)(op:CmpOp)(a b:Expr)(t:TE):Prop:=
 ∀(pins:List (Addr×Obj)) (s:zad) (σ:St) (H:Hp) (Q:VK),Inv X pins σ H s->t σ H Q->
  wpAny (model X.prog X.w) X.A (eval a X.env) (λv z=>wpAny (model X.prog X.w) X.A (eval b X.env) (λu q=>wpAny (model X.prog X.w) X.A (zaB op v u) (EP X pins σ Q) X.xe q) X.xe z) X.xe s
def tB(t:TE):TT:=λσ H Q=>t σ H λx H1=>∃c,x=.bl c/\Q c H1
theorem W7{op:CmpOp}{t:TE}(h:PC X op a b t)(h1:zbS op b=false:=by first|exact nobehind _ (by decide) (by decide)|rfl):PT X (.Compare a [op] [b] pos) (tB t):=by
 intro pins s σ H Q I hw;refine wpAny_isTrue_Compare1 (cK (h pins s σ H _ I hw) λv F h1=>cK h1 λu G h2=>cK h2 λc J ⟨x,H1,z,r1,B⟩=>?_) h1;obtain⟨d,rfl,q⟩:=B;cases r1;exact zb7 ⟨H1,z,q⟩
theorem XO{e:Expr}{t:TE}(h:PE X e t)(F:∀z,isTrue e X.env z=(do let v <- z;standAt e.pos;zcm [v] (truthy v)):=by intro _;rfl):PT X e (tB t):=by
 intro pins s σ H Q I hw;refine isTrue_plain (cK (h pins s σ H _ I hw) λv J ⟨x,H1,B,r1,G⟩=>?_) (F _);obtain⟨d,rfl,q⟩:=G;cases r1;exact zb7 ⟨H1,B,q⟩
variable {tA tB':TT}{rest:List Expr}
def qb8(t u:TT):TT:=λσ H Q=>t σ H λc H1=>if c=true then u σ H1 Q else Q false H1
def tOr(t u:TT):TT:=λσ H Q=>t σ H λc H1=>if c=true then Q true H1 else u σ H1 Q
def qbv(t:TT):TT:=λσ H Q=>t σ H λc H1=>Q (!c) H1
theorem UT(q:PT X a tA):PW X (.BoolOp .And [a] pos) tA:=by
 intro B pins s σ H Q I h;refine isTrue_and (cK (q pins s σ H Q I h) λc z e=>?_);cases c with
 | true=>exact isTrue_and_nil e
 | false=>exact e
theorem Y6(q:PT X a tA):PW X (.BoolOp .Or [a] pos) tA:=by
 intro B pins s σ H Q I h;refine isTrue_or (cK (q pins s σ H Q I h) λc z e=>?_);cases c with
 | false=>exact isTrue_or_nil e
 | true=>exact e
theorem Y3(J:PT X a tA)(B:PW X (.BoolOp .And (b::rest) pos) tB'):PW X (.BoolOp .And (a::b::rest) pos) (qb8 tA tB'):=by
 intro G pins s σ H Q I h;refine isTrue_and (cK (J pins s σ H _ I h) λc F ⟨H1,q,z⟩=>?_);cases c with
 | true=>exact B G pins F σ H1 Q q z
 | false=>exact⟨H1,q,z⟩
theorem qq(J:PT X a tA)(B:PW X (.BoolOp .Or (b::rest) pos) tB'):PW X (.BoolOp .Or (a::b::rest) pos) (tOr tA tB'):=by
 intro G pins s σ H Q I h;refine isTrue_or (cK (J pins s σ H _ I h) λc F ⟨H1,q,z⟩=>?_);cases c with
 | true=>exact⟨H1,q,z⟩
 | false=>exact B G pins F σ H1 Q q z
theorem YY(z:PT X a tA):PT X (.UnaryOp .Not a pos) (qbv tA):=by
 intro pins s σ H Q I h;exact isTrue_not (cK (z pins s σ H (λc H1=>Q (!c) H1) I h) λ_ _ ⟨H',i,q⟩=>⟨H',i,q⟩)
def qah(ta tb:TE):TE:=λσ H Q=>ta σ H λx H1=>∃c,x=.bl c/\if c=true then tb σ H1 Q else Q (.bl false) H1
def qbZ(ta tb:TE):TE:=λσ H Q=>ta σ H λx H1=>∃c,x=.bl c/\if c=true then Q (.bl true) H1 else tb σ H1 Q
def qao(ta:TE):TE:=λσ H Q=>ta σ H λx H1=>∃c,x=.bl c/\Q (.bl (!c)) H1
theorem WJ{op}(h:PE X a t):PE X (.BoolOp op [a] pos) t:=λpins s σ H Q I hw=>BoolOp_one (h pins s σ H Q I hw)
theorem X6(G:PE X a ta)(B:PE X (.BoolOp .And (b::rest) pos) tb):PE X (.BoolOp .And (a::b::rest) pos) (qah ta tb):=by
 intro pins s σ H Q I h;refine BoolOp_and (cK (G pins s σ H _ I h) λv F ⟨x,H1,z,r1,q⟩=>?_);obtain⟨c,rfl,q⟩:=q;cases r1;refine zb7 ?_;cases c with
 | true=>exact B pins F σ H1 Q z q
 | false=>exact⟨.bl false,H1,z,rfl,q⟩
theorem ZY(G:PE X a ta)(B:PE X (.BoolOp .Or (b::rest) pos) tb):PE X (.BoolOp .Or (a::b::rest) pos) (qbZ ta tb):=by
 intro pins s σ H Q I h;refine BoolOp_or (cK (G pins s σ H _ I h) λv F ⟨x,H1,z,r1,q⟩=>?_);obtain⟨c,rfl,q⟩:=q;cases r1;refine zb7 ?_;cases c with
 | false=>exact B pins F σ H1 Q z q
 | true=>exact⟨.bl true,H1,z,rfl,q⟩
theorem XG(z:PE X a ta):PE X (.UnaryOp .Not a pos) (qao ta):=by
 intro pins s σ H Q I h;refine UnaryOp_ (cK (z pins s σ H _ I h) λv F ⟨x,H1,B,r1,q⟩=>?_);obtain⟨c,rfl,q⟩:=q;cases r1;exact not_of (zb7 ⟨.bl (!c),H1,B,rfl,q⟩)
def tIf(t:TT)(ta tb:TE):TE:=λσ H Q=>t σ H λc H1=>if c=true then ta σ H1 Q else tb σ H1 Q
theorem LU{c:Expr}(J:PT X c tA)(G:PE X a ta)(F:PE X b tb):PE X (.IfExp c a b pos) (tIf tA ta tb):=by
 intro pins s σ H Q I h;refine wpAny_IfExp (cK (J pins s σ H _ I h) λd z ⟨H1,q,B⟩=>?_);cases d with
 | true=>exact G pins z σ H1 Q q B
 | false=>exact F pins z σ H1 Q q B
end
def SqL(K:zae)(H:Hp)(a:Addr)(xs:List V):Prop:=
 Rd H a (.lst xs) \/
  ∃(o:Obj) (its:Array Value) (n:Nat),K.lookup a=some o/\o.cls=.type "list" /\ o.dict=none/\o.data=.seq its n/\its.size<=zal/\Vals xs its.toList
def SqT(K:zae)(H:Hp)(a:Addr)(xs:List V):Prop:=
 Rd H a (.tup xs) \/
  ∃(o:Obj) (its:Array Value) (n:Nat),K.lookup a=some o/\o.cls=.type "tuple" /\ o.data=.seq its n/\its.size<=zal/\Vals xs its.toList
noncomputable def qbw:Value->Option V
 | .none=>some .non
 | .bool b=>some (.bl b)
 | .int i _=>some (.int i)
 | .str x _=>some (.str x)
 | .bytes b _=>some (.byt b)
 | .float b _=>some (.flt b)
 | .ref a=>some (.ref a)
 | .type n=>some (.ty n)
 | _=>none
theorem RelV.abs(r:RelV x u):qbw u=some x:=by
 cases x with
 | non=>cases r;rfl
 | bl _=>cases r;rfl
 | int _=>obtain⟨t,rfl⟩:=r;rfl
 | str _=>obtain⟨t,rfl⟩:=r;rfl
 | byt _=>obtain⟨t,rfl⟩:=r;rfl
 | flt _=>obtain⟨t,rfl⟩:=r;rfl
 | ref _=>cases r;rfl
 | ty _=>cases r;rfl
theorem RelV.inj(r:RelV x u)(q:RelV y u):x=y:=zay (r.abs.symm.trans q.abs)
theorem Vals.inj:∀ {xs ys:List V} {us:List Value},Vals xs us->Vals ys us->xs=ys
 | _,_,_,.nil,.nil=>rfl
 | _,_,_,.cons r t,.cons r' t'=>by rw[r.inj r',Vals.inj t t']
section
variable {X:Cx}{pins:List (Addr×Obj)}{σ:St}{H:Hp}{s:zad}{a:Addr}{xs ys:List V}
theorem SqL.of{K:zae}(h:H a=some (.lst xs)):SqL K H a xs:=.inl (.inl h)
theorem SqT.of{K:zae}(h:H a=some (.tup xs)):SqT K H a xs:=.inl (.inl h)
theorem Inv.list(I:Inv X pins σ H s)(h:SqL X.K H a xs):∃q:List Value,Vals xs q/\PlainL s.heap a q.toArray/\xs.length<=zal:=by
 rcases h with h|⟨o,q,n,B,F,hd,hs,G,r⟩
 ·obtain⟨z,q,n,r,e⟩:=h.ok I.hok
  exact⟨q,r,⟨_,n,e,rfl,rfl,rfl⟩,z⟩
 ·refine⟨q.toList,r,⟨o,n,I.kIn a o B,F,hd,by simpa using hs⟩,?_⟩
  have e:=r.length;simp only[zbT]at e
  lia
theorem Inv.tuple(I:Inv X pins σ H s)(h:SqT X.K H a xs):∃q:List Value,Vals xs q/\IsTup s.heap a q.toArray/\xs.length<=zal:=by
 rcases h with h|⟨o,q,n,B,F,hs,G,r⟩
 ·obtain⟨z,q,r,p⟩:=h.ok I.hok
  exact⟨q,r,p.tup,z⟩
 ·refine⟨q.toList,r,⟨o,I.kIn a o B,F,n,by simpa using hs⟩,?_⟩
  have e:=r.length;simp only[zbT]at e
  lia
theorem Inv.list_inj(I:Inv X pins σ H s)(h:SqL X.K H a xs)(h':SqL X.K H a ys):xs=ys:=by
 obtain⟨q,r,⟨o,n,e,_,_,d⟩,_⟩:=I.list h;obtain⟨its',B,⟨o',F,z,_,_,d'⟩,_⟩:=I.list h';rw[e]at z;cases z;rw[d]at d';injection d' with d1 _
 have:q=its':=by simpa using congrArg Array.toList d1
 subst this;exact r.inj B
theorem Inv.tuple_inj(I:Inv X pins σ H s)(h:SqT X.K H a xs)(h':SqT X.K H a ys):xs=ys:=by
 obtain⟨q,r,⟨o,e,_,n,d⟩,_⟩:=I.tuple h;obtain⟨its',B,⟨o',z,_,F,d'⟩,_⟩:=I.tuple h';rw[e]at z;cases z;rw[d]at d';injection d' with d1 _
 have:q=its':=by simpa using congrArg Array.toList d1
 subst this;exact r.inj B
end
abbrev Cx.wish(X:Cx)(E:Value->zad->Prop):Cx:={X with xe:=E}
abbrev Cx.nox(X:Cx):Cx:=X.wish λ_ _=>False
theorem Cx.Ok.wish{X:Cx}(ok:X.Ok)(E:Value->zad->Prop):(X.wish E).Ok:=
 ⟨ok.mod,ok.kind,ok.glob,ok.blt,ok.above,ok.inj,ok.has,ok.cab,ok.hd,ok.frames,ok.stk,ok.exf,ok.bs,ok.bsz,ok.noex,ok.exfs,ok.funs,ok.frf⟩
theorem Cx.Ok.unwish{X:Cx}{E:Value->zad->Prop}(ok:(X.wish E).Ok):X.Ok:=
 ⟨ok.mod,ok.kind,ok.glob,ok.blt,ok.above,ok.inj,ok.has,ok.cab,ok.hd,ok.frames,ok.stk,ok.exf,ok.bs,ok.bsz,ok.noex,ok.exfs,ok.funs,ok.frf⟩
section
variable {X:Cx}{pins:List (Addr×Obj)}{σ:St}{H:Hp}{s:zad}{E:Value->zad->Prop}
theorem Inv.wish(I:Inv X pins σ H s)(E:Value->zad->Prop):Inv (X.wish E) pins σ H s:=⟨I.ok.wish E,I.os,I.bare,I.base,I.loc,I.cell,I.free,I.freeC,I.pin,I.hok,I.len⟩
theorem Inv.unwish(I:Inv (X.wish E) pins σ H s):Inv X pins σ H s:=⟨I.ok.unwish,I.os,I.bare,I.base,I.loc,I.cell,I.free,I.freeC,I.pin,I.hok,I.len⟩
theorem SP.unwish(h:SP (X.wish E) pins D f s'):SP X pins D f s':=by
 cases f with
 | next=>obtain⟨z,H',I,q⟩:=h;exact⟨z,H',I.unwish,q⟩
 | brk=>obtain⟨z,H',I,q⟩:=h;exact⟨z,H',I.unwish,q⟩
 | cont=>obtain⟨z,H',I,q⟩:=h;exact⟨z,H',I.unwish,q⟩
 | ret u=>obtain⟨v,z,H',I,r,q⟩:=h;exact⟨v,z,H',I.unwish,r,q⟩
theorem PE.nox(h:PE X.nox e t):PE X e t:=λpins s σ H Q I hw=>
 za7 (h pins s σ H Q (I.wish _) hw) (λ_ _ ⟨v,H',B,r,q⟩=>⟨v,H',B.unwish,r,q⟩) λ_ _ z=>za8 z
theorem PT.nox(h:PT X.nox e t):PT X e t:=λpins s σ H Q I hw=>
 za7 (h pins s σ H Q (I.wish _) hw) (λ_ _ ⟨H',B,q⟩=>⟨H',B.unwish,q⟩) λ_ _ z=>za8 z
theorem PSs.nox{st:List Stmt}{t:TS}(h:PSs X.nox st t):PSs X st t:=λpins s σ H D I hw=>
 za7 (h pins s σ H D (I.wish _) hw) (λ_ _ q=>q.unwish) λ_ _ z=>za8 z
end
section
variable {X:Cx}{st:Stmt}{rest:List Stmt}{t u:TS}{e:Expr}{te:TE}{pos:Pos}
def qaj:TS:=λD σ H=>D.nx σ H
def qaX(t u:TS):TS:=λD σ H=>t {D with nx:=u D} σ H
theorem HA:PSs X [] qaj:=λ_ _ σ H _ I h=>zc6 ⟨σ,H,I,h⟩
theorem dW(h1:PS X st t)(h2:PSs X rest u):PSs X (st::rest) (qaX t u):=by
 intro pins s σ H D I h;refine wpAny_execs_cons (cK (h1 pins s σ H {D with nx:=u D} I h) λf B q=>?_);cases f with
 | next=>
  obtain⟨z,H',F,q⟩:=q;exact h2 pins B z H' D F q
 | ret v=>exact q
 | brk=>exact q
 | cont=>exact q
theorem jI(h1:PS X st t):PSs X [st] t:=by
 intro pins s σ H D I h;refine wpAny_execs_cons (cK (h1 pins s σ H D I h) λf z q=>?_);cases f with
 | next=>exact zc6 q
 | ret v=>exact q
 | brk=>exact q
 | cont=>exact q
theorem Inv.quiet(I:Inv X pins σ H s):interactive X.env=false:=by simp[interactive,I.ok.kind]
def qam(te:TE):TS:=λD σ H=>te σ H λ_ H1=>D.nx σ H1
theorem yG(q:PE X e te)(hs:zaD e none pos.line X.env=pure false:=by rfl):PS X (.Expr e pos) (qam te):=by
 intro pins s σ H D I h;exact wpAny_Expr_any (cK (q pins s σ H _ I h) λv F ⟨x,H1,B,r1,z⟩=>⟨σ,H1,B,z⟩) I.quiet hs
def qaO(te:TE):TS:=λD σ H=>te σ H D.rt
theorem OW(q:PE X e te):PS X (.Return (some e) pos) (qaO te):=by
 intro pins s σ H D I h;exact wpAny_Return_some (cK (q pins s σ H _ I h) λv F ⟨x,H1,B,r1,z⟩=>⟨x,σ,H1,B,r1,z⟩)
def qb7(c:TT)(t u:TS):TS:=λD σ H=>c σ H λb H1=>if b=true then t D σ H1 else u D σ H1
theorem V3{c:Expr}{a b:List Stmt}{tc:TT}(J:PT X c tc)(G:PSs X a t)(F:PSs X b u):PS X (.If c a b pos) (qb7 tc t u):=by
 intro pins s σ H D I h;refine wpAny_If (cK (J pins s σ H _ I h) λd z ⟨H1,q,B⟩=>?_);cases d with
 | true=>exact G pins z σ H1 D q B
 | false=>exact F pins z σ H1 D q B
end
abbrev TG:=V->St->Hp->(St->Hp->Prop)->Prop
abbrev WC:=List V->St->Hp->(St->Hp->Prop)->Prop
def PG(X:Cx)(q:Expr)(t:TG):Prop:=
 ∀(pins:List (Addr×Obj)) (s:zad) (σ:St) (H:Hp) (v:V) (u:Value) (Q:St->Hp->Prop),Inv X pins σ H s->RelV v u->t v σ H Q->
  wpAny (model X.prog X.w) X.A (zbd q X.env u) (λ_ s'=>∃z H',Inv X pins z H' s'/\Q z H') X.xe s
def PGs(X:Cx)(ts:List Expr)(t:WC):Prop:=
 ∀(pins:List (Addr×Obj)) (s:zad) (σ:St) (H:Hp) (vs:List V) (us:List Value) (Q:St->Hp->Prop),Inv X pins σ H s->Vals vs us->t vs σ H Q->
  wpAny (model X.prog X.w) X.A (assignInOrder ((za1 ts X.env).map (·.2)) us) (λ_ s'=>∃q H',Inv X pins q H' s'/\Q q H') X.xe s
abbrev QP:=V->V->V->Hp->(Hp->Prop)->Prop
def U1(X:Cx)(t:QP):Prop:=
 ∀(pins:List (Addr×Obj)) (s:zad) (σ:St) (H:Hp) (o i v:V) (ov iv u:Value) (Q:Hp->Prop),Inv X pins σ H s->RelV o ov->RelV i iv->RelV v u->t o i v H Q->
  wpAny (model X.prog X.w) X.A (setItem ov iv u) (λ_ s'=>∃H',Inv X pins σ H' s'/\Q H') X.xe s
section
variable {X:Cx}{pos:Pos}
def jV(i:Nat):TG:=λv σ H Q=>Q (σ.set i (some v)) H
theorem g9(B:X.N.Nodup)(hi:X.N[i]?=some x)(hx:Loc X.env.scope x)(q:X.fn x=true\/X.env.scope.names.lookup x=some .local:=by first|exact .inl rfl|exact .inr rfl|assumption):PG X (.Name x pos) (jV i):=by
 intro pins s σ H v u Q I r h;exact wpAny_assign_Name (A4 I B hi hx r (λs' z=>⟨_,H,z,h⟩) q)
def qb6:WC:=λvs σ H Q=>vs=[]/\Q σ H
def VT(t:TG)(u:WC):WC:=λvs σ H Q=>∃v r,vs=v::r/\t v σ H λq H'=>u r q H' Q
theorem S4:PGs X [] qb6:=by
 intro pins s σ H vs q Q I r h;obtain⟨e,h⟩:=h;subst e;cases r;exact assignInOrder_nil ⟨σ,H,I,h⟩
theorem lC{e:Expr}{es:List Expr}{t:TG}{u:WC}(h1:PG X e t)(h2:PGs X es u)
  (hs:(za1 (e::es) X.env).map (·.2)=zbd e X.env::(za1 es X.env).map (·.2):=by rfl):PGs X (e::es) (VT t u):=by
 intro pins s σ H vs M Q I r h;obtain⟨v,J,F,h⟩:=h;subst F;cases r with
 | cons r rr=>
  rw[hs];refine assignInOrder_cons (cK (h1 pins s σ H _ _ _ I r h) λ_ B ⟨q,H1,z,G⟩=>?_);exact h2 pins B q H1 _ _ Q z rr G
def qaV(K:zae)(n:Nat)(t:WC):TG:=λv σ H Q=>∃a xs,v=.ref a/\SqT K H a xs/\xs.length=n/\t xs σ H Q
theorem FG(W:X.calm=true)(h:PGs X es t)
  (G:(za1 es X.env).length=n:=by rfl) (q:(za1 es X.env).findIdx? (·.1)=none:=by rfl):PG X (.Tuple es k pos) (qaV X.K n t):=by
 intro pins s σ H v u Q I r hw;obtain⟨a,xs,U,F,J,hw⟩:=hw;subst U;cases r;obtain⟨B,z,N,Y⟩:=I.tuple F;refine assign_Tuple_tuple (I.ok.hd W) N (by simp[G,<- J,z.length]) q λh' hx=>?_
 have M:Inv X pins σ H {s with heap:=h'}:=I.kept (t':=s.toks) λb o e=>hx b o (zaF (zan e)) e
 exact h pins _ σ H xs _ Q M (by simpa using z) hw
def ZG(to q:TE)(t:QP):TG:=λv σ H Q=>to σ H λo H1=>q σ H1 λi H2=>t o i v H2 λz=>Q σ z
theorem O9{o i:Expr}{to B:TE}{t:QP}(G:PE X o to)(hi:PE X i B)(hs:U1 X t)
  (U:∀v, zbd (.Subscript o i pos) X.env v = (do
   let q <- zcm [v] (eval o X.env);let z <- zcm [v,q] (eval i X.env)
   standAt pos
   zcm [v,q,z] (setItem q z v)
   release [v,q,z] []):=by intro _;rfl):PG X (.Subscript o i pos) (ZG to B t):=by
 intro pins s σ H v u Q I r h;rw[U];refine zaa (zbD (cK (G pins s σ H _ I h) λq J ⟨x,H1,F,r1,q1⟩=>?_));refine zaa (zbD (cK (hi pins J σ H1 _ F q1) λz N ⟨y,H2,Y,r2,q2⟩=>?_));refine zaa (zc7 (zaa (zbD (cK (hs pins N σ H2 x y v q z u _ Y r1 r2 r q2) λ_ s3 ⟨M,I3,W⟩=>?_))));exact wpAny_release ⟨σ,M,I3,W⟩
def QI(te:TE)(g:TG):TS:=λD σ H=>te σ H λx H1=>g x σ H1 D.nx
theorem P3{tg e:Expr}{te:TE}{g:TG}(F:PE X e te)(J:PG X tg g)(hs:zc8 [tg] e pos.line X.env=pure false:=by rfl)(hw:zc9 [tg] e X.env=pure none:=by rfl)
  (h1:(za1 [tg] X.env).map (·.2)=[zbd tg X.env]:=by rfl):PS X (.Assign [tg] e pos) (QI te g):=by
 intro pins s σ H D I h;refine wpAny_Assign_stores (cK (F pins s σ H _ I h) λv B ⟨x,H1,z,r1,G⟩=>?_) hs hw;rw[h1];exact cK (J pins B σ H1 x v _ z r1 G) λ_ M q=>q
theorem OH{i:Nat}{x:Str}{e:Expr}{te:TE}{pos':Pos}(F:X.N.Nodup)(hi:X.N[i]?=some x)(hx:Loc X.env.scope x)(B:PE X e te)(hs:zaD e (some (.Name x pos')) pos.line X.env=pure false:=by rfl)(q:X.fn x=true\/X.env.scope.names.lookup x=some .local:=by first|exact .inl rfl|exact .inr rfl|assumption) :
  PS X (.Assign [.Name x pos'] e pos) (QI te (jV i)):=by
 intro pins s σ H D I h;refine wpAny_Assign_Name (cK (B pins s σ H _ I h) λv M ⟨y,H1,z,r1,J⟩=>?_) hs;exact A4 z F hi hx r1 (λU G=>⟨_,H1,G,J⟩) q
end
section
variable {X:Cx}{pos:Pos}
def YF(c:TT)(tb:TS):TS:=λD σ H=>∃W:Nat->St->Hp->Prop,(∃m,W m σ H)/\∀m σ H,W m σ H->
 c σ H λb H1=>if b=true then ∃N:St->Hp->Prop,(∀q H',N q H'->∃z,z<m/\W z q H')/\tb {D with nx:=N,ct:=N,bk:=D.nx} σ H1 else D.nx σ H1
theorem N7{c:Expr}{B:List Stmt}{tc:TT}{tb:TS}(hp:zca (model X.prog X.w) X.A X.env X.xe)(hc:PT X c tc)(hb:PSs X B tb):PS X (.While c B [] pos) (YF tc tb):=by
 intro pins s σ H D I h;obtain⟨W,⟨m0,w0⟩,turn⟩:=h;refine wpAny_While (codeAny_whileLoop (λn s'=>∃F H',Inv X pins F H' s'/\W n F H') ?_ m0 ⟨σ,H,I,w0⟩);rintro n s1 ⟨z,H1,I1,w1⟩;refine zcn hp (cK (hc pins s1 z H1 _ I1 (turn n z H1 w1)) λb s2 ⟨H2,I2,M⟩=>?_);cases b with
 | true=>
  obtain⟨N,hN,M⟩:=M;rw[if_pos rfl];refine zcn hp (cK (hb pins s2 z H2 _ I2 M) λf s3 J=>?_);cases f with
  | next=>
   obtain⟨q,G,I3,n3⟩:=J;obtain⟨m',Y,U⟩:=hN q G n3;exact⟨m',Y,q,G,I3,U⟩
  | cont=>
   obtain⟨q,G,I3,n3⟩:=J;obtain⟨m',Y,U⟩:=hN q G n3;exact⟨m',Y,q,G,I3,U⟩
  | brk=>exact J
  | ret v=>exact J
 | false=>
  rw[if_neg zaC];exact zc6 ⟨z,H2,I2,M⟩
end
structure It where
 go:Nat->Hp->Prop
 yld:Nat->Hp->V->Hp->Prop
 stop:Nat->Hp->Prop
def lN(X:Cx)(pins:List (Addr×Obj))(H:Hp)(b:Addr):Prop:=
 H b=none/\b≠X.env.locals/\b∉X.fs/\(b∈X.ex\/X.s₀.heap.objs.size<=b)/\(∀x c,X.env.cells.lookup x=some c->c≠b)/\∀p∈X.pn++pins,p.1≠b
theorem Inv.fpOk(I:Inv X pins σ H s)(B:s.heap.objs.size<=b)(F:H' b=none):lN X pins H' b:=by
 refine⟨F,zbu (za0 I.lt B),I.nofs B,.inr (zaM I.sz B),λx c e z=>?_,λp G z=>?_⟩
 ·obtain⟨v,q⟩:=I.cell x c e
  exact absurd (za0 q.lt (by rw[z];exact B)) (zbQ _)
 ·exact absurd (za0 (zan (I.pin p G).1) (by rw[z];exact B)) (zbQ _)
structure Turn(P:zai)(w:World)(K:zae)(tg:Expr)(J:It)(fp:List Addr)(it:Addr)(tn:Nat->Heap->Prop):Prop where
 mem:it∈fp
 obj:∀i h,tn i h->∀b∈fp,∃o,h.get? b=some o/\∀v,o.data≠.cell v
 keep:∀i h h',tn i h->(∀b∈fp,∀o,h.get? b=some o->h'.get? b=some o)->tn i h'
 item:∀(X:Cx),X.prog=P->X.w=w->X.K=K->X.calm=true->∀(i:Nat) (pins:List (Addr×Obj)) (s:zad) (σ:St) (H:Hp) (E:Value->zad->Prop),Inv X pins σ H s->(∀b∈fp,lN X pins H b)->tn i s.heap->J.go i H->
  wpAny (model P w) X.A (za2 (.ref it)) (λr s1=>∃u,r=some u /\
   wpAny (model P w) X.A (zda tg (.ref it) u) (λ_ s2=>∃x H',Inv X pins σ H' s2/\RelV x u/\J.yld i H x H'/\tn (i+1) s2.heap/\∀b∈fp,H' b=none) E s1) E s
 done:∀(X:Cx),X.prog=P->X.w=w->X.K=K->X.calm=true->∀(i:Nat) (pins:List (Addr×Obj)) (s:zad) (σ:St) (H:Hp) (E:Value->zad->Prop),Inv X pins σ H s->(∀b∈fp,lN X pins H b)->tn i s.heap->J.stop i H->
  wpAny (model P w) X.A (za2 (.ref it)) (λr s1=>r=none/\Inv X pins σ H s1) E s
 self:∀(A:zao) (i:Nat) (s:zad) (Q:Value->zad->Prop) (E:Value->zad->Prop),tn i s.heap->Q (.ref it) s->wpAny (model P w) A (pyIter (.ref it)) Q E s
abbrev TI:=St->Hp->(It->Hp->Prop)->Prop
def PIE(X:Cx)(pins:List (Addr×Obj))(σ:St)(tg:Expr)(R:It->Hp->Prop)(q:Value)(z:zad):Prop:=
 ∃(it:Addr) (fp:List Addr) (tn:Nat->Heap->Prop) (J:It) (H':Hp),q=.ref it/\Inv X pins σ H' z/\Turn X.prog X.w X.K tg J fp it tn/\tn 0 z.heap/\(∀b∈fp,lN X pins H' b)/\R J H'
def PI(X:Cx)(tg q:Expr)(wi:TI):Prop:=
 ∀(pins:List (Addr×Obj)) (s:zad) (σ:St) (H:Hp) (R:It->Hp->Prop),Inv X pins σ H s->wi σ H R->
  wpAny (model X.prog X.w) X.A (eval q X.env) (λv z=>wpAny (model X.prog X.w) X.A (pyIter v) (PIE X pins σ tg R) X.xe z) X.xe s
theorem vQ(z:s.heap.get? it=some o)(B:o.cls=.type n)(hd:o.data=.fields vs)
    (F:["enumerate", "zip", "dict_itemiterator", "dict_reverseitemiterator", "odict_iterator", "itertools.zip_longest", "itertools.pairwise"].contains n=false) (q:Q () s):wpAny M A (zda tg (.ref it) u) Q E s:=by
  unfold zda;cases tg <;> first
    | exact zaf q
    | (cases u <;> first
        | exact zaf q
        | (refine zaa (wpAny_load z ?_)
           rw[B,hd];show wpAny M A (if(["enumerate", "zip", "dict_itemiterator", "dict_reverseitemiterator", "odict_iterator", "itertools.zip_longest", "itertools.pairwise"].contains n && vs[0]? == some (za9 _))=true then _ else _) Q E s;rw[if_neg (by intro h;rw[F,Bool.false_and]at h;cases h)];exact zaf q))
def Itl(K:zae)(a:Addr):It:=
 ⟨λi H=>∃xs x,SqL K H a xs/\xs[i]?=some x,λi H x H'=>H'=H/\∀xs,SqL K H a xs->xs[i]?=some x,λi H=>∃xs,SqL K H a xs/\xs.length<=i⟩
def Itt(K:zae)(a:Addr):It:=
 ⟨λi H=>∃xs x,SqT K H a xs/\xs[i]?=some x,λi H x H'=>H'=H/\∀xs,SqT K H a xs->xs[i]?=some x,λi H=>∃xs,SqT K H a xs/\xs.length<=i⟩
noncomputable def Itr(lo:Int)(n:Nat):It:=⟨λi _=>i<n,λi H x H'=>H'=H/\x=.int (lo+i),λi _=>n<=i⟩
theorem JY{P:zai}{w:World}{K:zae}{tg:Expr}(a it:Addr):Turn P w K tg (Itl K a) [it] it (λi h=>h.IsListIter it a i) where
 mem:=by simp
 obj:=λi h st b q=>by
  have e:b=it:=by simpa using q
  subst e;obtain⟨o,e,c,d⟩:=st;exact⟨o,e,λv z=>by rw[d]at z;cases z⟩
 keep:=λi h h' st k=>st.at λo e=>k it (by simp) o e
 item:=by
  intro X hP hw hK hc i pins s σ H E I G st W;subst hP hw hK;obtain⟨xs,x,F,hx⟩:=W;obtain⟨N,rv,p,hz⟩:=I.list F;obtain⟨u,hu,ru⟩:=rv.get hx;obtain⟨U,f1,f2,M,J,Y⟩:=G it (by simp);refine wpAny_pyNext_list_item st p.isList (x:=u) (by simpa using hu) λh' B sb=>?_
  have I1:Inv X pins σ H {s with heap:=h'}:=I.turned (t':=s.toks) (λb o q e=>(sb.2 b q).trans e) U f1 M J Y;obtain⟨o,e,c,d⟩:=id B;exact⟨u,rfl,vQ (s:={s with heap:=h'}) e c d (by decide) ⟨x,H,I1,ru,⟨rfl,λys hy=>by rw[I.list_inj hy F];exact hx⟩,B,λb q=>(G b q).1⟩⟩
 done:=by
  intro X hP hw hK hc i pins s σ H E I G st W;subst hP hw hK;obtain⟨xs,F,hx⟩:=W;obtain⟨N,rv,p,hz⟩:=I.list F;obtain⟨U,f1,f2,M,J,Y⟩:=G it (by simp);have hl:=rv.length;exact wpAny_pyNext_list_end (I.ok.hd hc) st p.isList (by simp;lia) λh' eb=>⟨rfl,I.turned (t':=s.toks) (λb o q e=>eb b o q e) U f1 M J Y⟩
 self:=λ_ _ _ _ _ st h=>wpAny_pyIter_listiter st h
theorem EH{P:zai}{w:World}{K:zae}{tg:Expr}(a it:Addr):Turn P w K tg (Itt K a) [it] it (λi h=>h.IsTupleIter it a i) where
 mem:=by simp
 obj:=λi h st b q=>by
  have e:b=it:=by simpa using q
  subst e;obtain⟨o,e,c,d⟩:=st;exact⟨o,e,λv z=>by rw[d]at z;cases z⟩
 keep:=λi h h' st k=>st.at λo e=>k it (by simp) o e
 item:=by
  intro X hP hw hK hc i pins s σ H E I J st W;subst hP hw hK;obtain⟨xs,x,G,hx⟩:=W;obtain⟨B,rv,p,hz⟩:=I.tuple G;obtain⟨u,hu,ru⟩:=rv.get hx;obtain⟨U,f1,f2,N,M,Y⟩:=J it (by simp);refine wpAny_pyNext_tuple_item st (show s.heap.IsTuple a B.toArray from p) (x:=u) (by simpa using hu) λh' F sb=>?_
  have I1:Inv X pins σ H {s with heap:=h'}:=I.turned (t':=s.toks) (λb o q e=>(sb.2 b q).trans e) U f1 N M Y;obtain⟨o,e,c,d⟩:=id F;exact⟨u,rfl,vQ (s:={s with heap:=h'}) e c d (by decide) ⟨x,H,I1,ru,⟨rfl,λys hy=>by rw[I.tuple_inj hy G];exact hx⟩,F,λb q=>(J b q).1⟩⟩
 done:=by
  intro X hP hw hK hc i pins s σ H E I J st W;subst hP hw hK;obtain⟨xs,G,hx⟩:=W;obtain⟨B,rv,p,hz⟩:=I.tuple G;obtain⟨U,f1,f2,N,M,Y⟩:=J it (by simp);have hl:=rv.length;exact wpAny_pyNext_tuple_end (I.ok.hd hc) st (show s.heap.IsTuple a B.toArray from p) (by simp;lia) λh' eb=>⟨rfl,I.turned (t':=s.toks) (λb o q e=>eb b o q e) U f1 N M Y⟩
 self:=λ_ _ _ _ _ st h=>wpAny_pyIter_tupleiter st h
theorem D8{P:zai}{w:World}{K:zae}{tg:Expr}(it:Addr)(lo:Int)(n:Nat):Turn P w K tg (Itr lo n) [it] it (λi h=>IsRangeIter h it (lo+(i:Nat)*1) ((n:Int)-(i:Nat)) 1) where
 mem:=by simp
 obj:=λi h st b q=>by
  have e:b=it:=by simpa using q
  subst e;exact⟨_,st,λv z=>by
   have z':Data.fields _=Data.cell v:=z;cases z'⟩
 keep:=λi h h' st k=>k it (by simp) _ st
 item:=by
  intro X U hw Y N i pins s σ H E I F st hg;subst U hw Y;obtain⟨M,f1,f2,f3,J,G⟩:=F it (by simp);have W:=Walks.range (prog:=X.prog) (w:=X.w) (I.ok.hd N) it lo 1 n;refine W.item i s _ _ hg st λv h' tk hv B kk=>?_
  obtain⟨t,rfl⟩:=hv;have I1:Inv X pins σ H {s with heap:=h',toks:=tk}:=I.turned (λb o q e=>kk b o (by simpa using q) e) M f1 f3 J G;refine⟨_,rfl,vQ (s:={s with heap:=h',toks:=tk}) (n := "range_iterator") B rfl rfl (by decide) ⟨.int (lo+i),H,I1,⟨t,?_⟩,⟨rfl,rfl⟩,B,λb q=>(F b q).1⟩⟩;rw[Int.mul_one]
 done:=by
  intro X U hw Y N i pins s σ H E I F st hg;subst U hw Y;obtain⟨M,f1,f2,f3,J,G⟩:=F it (by simp);exact wpAny_pyNext_range_end (I.ok.hd N) st (by have:n<=i:=hg;lia) λh' eb=>⟨rfl,I.turned (t':=s.toks) (λb o q e=>eb b o q e) M f1 f3 J G⟩
 self:=λ_ _ _ _ _ st h=>wpAny_pyIter_rangeiter st h
section
variable {X:Cx}{tg:Expr}
def qf(K:zae)(tl:TE):TI:=λσ H R=>tl σ H λx H1=>∃a,x=.ref a/\(∃xs,SqL K H1 a xs)/\R (Itl K a) H1
def qb5(K:zae)(tl:TE):TI:=λσ H R=>tl σ H λx H1=>∃a,x=.ref a/\(∃xs,SqT K H1 a xs)/\R (Itt K a) H1
theorem RY{l:Expr}{tl:TE}(M:PE X l tl):PI X tg l (qf X.K tl):=by
 intro pins s σ H R I h;refine cK (M pins s σ H _ I h) λv B ⟨x,H1,z,r1,N⟩=>?_
 obtain⟨a,e,⟨xs,J⟩,q⟩:=N;subst e;cases r1;obtain⟨F,U,p,W⟩:=z.list J;refine zbU p.isList ?_;refine⟨B.heap.objs.size,[B.heap.objs.size],_,_,H1,rfl,z.kept (t':=B.toks) λb o e=>zam _ e,JY a _,⟨_,zaE _ rfl,rfl,rfl⟩,λb G=>?_,q⟩;have e:b=B.heap.objs.size:=by simpa using G
 subst e;exact z.fpOk (zaj _) (z.hok.fresh (zaj _))
theorem XF{l:Expr}{tl:TE}(M:PE X l tl):PI X tg l (qb5 X.K tl):=by
 intro pins s σ H R I h;refine cK (M pins s σ H _ I h) λv z ⟨x,H1,B,r1,N⟩=>?_
 obtain⟨a,e,⟨xs,J⟩,q⟩:=N;subst e;cases r1;obtain⟨F,U,p,W⟩:=B.tuple J;refine zbV (show z.heap.IsTuple a F.toArray from p) ?_;refine⟨z.heap.objs.size,[z.heap.objs.size],_,_,H1,rfl,B.kept (t':=z.toks) λb o e=>zam _ e,EH a _,⟨_,zaE _ rfl,rfl,rfl⟩,λb G=>?_,q⟩;have e:b=z.heap.objs.size:=by simpa using G
 subst e;exact B.fpOk (zaj _) (B.hok.fresh (zaj _))
theorem NY{pins:List (Addr×Obj)}{σ:St}{H:Hp}{s:zad}{R:It->Hp->Prop}{E:Value->zad->Prop}{lo hi:Int}{t u v:Tok}{tk:Nat}(I:Inv X pins σ H s)(h1:-(2^62)<=lo)(h2:lo<2^62)(F:-(2^62)<=hi)(M:hi<2^62)
  (q:R (Itr lo (hi-lo).toNat) H):wpAny (model X.prog X.w) X.A (pyIter (.ref s.heap.objs.size)) (PIE X pins σ tg R) E {s with heap:=s.heap.push {cls:=.type "range",data:=.fields #[.int lo t,.int hi u,.int 1 v]},toks:=tk}:=by
 refine wpAny_pyIter_range (IsRange.new ..) (small_one h1 h2 F M) ?_;have z:Inv X pins σ H {s with heap:=s.heap.push {cls:=.type "range",data:=.fields #[.int lo t,.int hi u,.int 1 v]},toks:=tk}:=I.kept λb o e=>zam _ e
 refine⟨(s.heap.push {cls:=.type "range",data:=.fields #[.int lo t,.int hi u,.int 1 v]}).objs.size,[(s.heap.push {cls:=.type "range",data:=.fields #[.int lo t,.int hi u,.int 1 v]}).objs.size],_,_,H,rfl,
  z.kept (t':=tk) λb o e=>zam _ e,D8 _ lo (hi-lo).toNat,?_,λb B=>?_,q⟩
 ·have G:lo+((0:Nat):Int)*1=lo:=by simp
  have J:(((hi-lo).toNat:Nat):Int)-((0:Nat):Int)=Builtin.Range.rangeSize lo hi 1:=by rw[rangeSize_one];split <;> lia
  show IsRangeIter _ _ (lo+((0:Nat):Int)*1) ((((hi-lo).toNat:Nat):Int)-((0:Nat):Int)) 1;rw[G,J];exact zaE _ rfl
 ·have e:b=(s.heap.push {cls:=.type "range",data:=.fields #[.int lo t,.int hi u,.int 1 v]}).objs.size:=by simpa using B
  subst e;exact z.fpOk (zaj _) (z.hok.fresh (zaj _))
def Z6(ta:TA):TI:=λσ H R=>ta σ H λvs H1=>∃j:Int,vs=[.int j]/\-(2^62)<=j/\j<2^62/\R (Itr 0 j.toNat) H1
theorem J7{a:Expr}{ta:TA}{p pos:Pos}(M:Gl X "range")(J:X.mg "range" = none)(F:PA X [a] ta)(hs:zag [a] X.env=[(false,eval a X.env)]:=by rfl):PI X tg (.Call (.Name "range" p) [a] [] pos) (Z6 ta):=by
 intro pins s σ H R I h;refine Call_ (mX I M J boot_range (zcQ (cK (F pos pins s σ H _ I h) λU N ⟨vs,H1,B,r1,z⟩=>?_) hs rfl));obtain⟨j,e,z,G,q⟩:=z;subst e;cases r1 with
 | cons r rr=>
  cases rr;obtain⟨t,rfl⟩:=r;exact call_range_1 (NY B (by lia) (by lia) z G (by simpa using q))
def qbC(wi:TI)(g:TG)(tb:TS):TS:=λD σ H=>wi σ H λJ H1=>∃W:Nat->Nat->St->Hp->Prop,(∃m,W 0 m σ H1)/\∀i m σ H,W i m σ H->
 (J.stop i H/\D.nx σ H)\/(J.go i H/\∃N:St->Hp->Prop,(∀q H',N q H'->∃B,B<m/\W (i+1) B q H')/\∀x H',J.yld i H x H'->g x σ H' λz H2=>tb {D with nx:=N,ct:=N,bk:=D.nx} z H2)
noncomputable def u5(fp:List Addr)(h:Heap):List (Addr×Obj):=fp.filterMap λb=>(h.get? b).map λo=>(b,o)
theorem jB(q:b∈fp)(e:h.get? b=some o):(b,o)∈u5 fp h:=List.mem_filterMap.mpr ⟨b,q,by rw[e];rfl⟩
theorem JB(F:p∈u5 fp h):p.1∈fp/\h.get? p.1=some p.2:=by
 obtain⟨b,z,e⟩:=List.mem_filterMap.mp F;cases q:h.get? b with
 | none=>rw[q]at e;cases e
 | some o=>
  rw[q]at e;have B:(b,o)=p:=zay e;subst B;exact⟨z,q⟩
theorem Inv.pinned(I:Inv X pins σ H s)(F:∀b∈fp,lN X pins H b)(G:∀b∈fp,∃o,s.heap.get? b=some o/\∀v,o.data≠.cell v):Inv X (pins++u5 fp s.heap) σ H s:=
 I.pins_of λp M=>(List.mem_append.mp M).elim (λz=>I.pin p (zaU _ z)) λz=>by
  obtain⟨q,e⟩:=JB z;obtain⟨J,f1,f2,_⟩:=F p.1 q;obtain⟨o,B,d⟩:=G p.1 q;rw[e]at B;cases B;exact⟨e,J,f1,f2,d⟩
theorem Inv.unpinned(I:Inv X (pins++pl) σ H s):Inv X pins σ H s:=I.pins_of λp q=>I.pin p (zaU _ (zbt _ q))
theorem OV{aa:Expr}{ac:List Stmt}{wi:TI}{g:TG}{tb:TS}{pos:Pos}(hp:zca (model X.prog X.w) X.A X.env X.xe)(hc:X.calm=true)(hi:PI X tg aa wi)(hg:PG X tg g)(z:PSs X ac tb)
  (hs:∀x,zba aa X.env x=pure x:=by intro _;rfl):PS X (.For tg aa ac [] pos) (qbC wi g tb):=by
 intro pins s σ H D I h;refine wpAny_For (cK (hi pins s σ H _ I h) λv s1 h1=>cK h1 λbn s2 h2=>?_) hs;obtain⟨it,fp,tn,J,H2,e,I2,T,ak,f2,W,⟨m0,w0⟩,turn⟩:=h2;subst e
 -- what stays true of the iterator's objects through the loop
 have F:∀ {H':Hp},(∀b∈fp,H' b=none)->∀b∈fp,lN X pins H' b:=λhn b z=>⟨hn b z,(f2 b z).2⟩
 refine codeAny_forLoop_any (λn s'=>∃i U H',Inv X pins U H' s'/\tn i s'.heap/\(∀b∈fp,H' b=none)/\W i n U H') ?_ m0 ⟨0,σ,H2,I2,ak,λb z=>(f2 b z).1,w0⟩;rintro n s3 ⟨i,M,H3,I3,ah,ai,w3⟩;rcases turn i n M H3 w3 with⟨ae,qn⟩|⟨go,N,hN,step⟩
 ·refine zcn hp (cK (T.done X rfl rfl rfl hc i pins s3 M H3 X.xe I3 (F ai) ah ae) λr s4 ⟨hr,I4⟩=>?_)
  subst hr;exact zc6 ⟨M,H3,I4,qn⟩
 ·refine zcn hp (cK (T.item X rfl rfl rfl hc i pins s3 M H3 X.xe I3 (F ai) ah go) λr s4 ⟨u,hr,h4⟩=>?_)
  subst hr;refine zcn hp (cK h4 λ_ s5 ⟨x,H5,I5,r5,y5,ad,ap⟩=>?_);have al:=I5.pinned (F ap) (T.obj _ _ ad);refine zcn hp (cK (hg _ s5 M H5 x u _ al r5 (step x H5 y5)) λ_ s6 ⟨an,H6,I6,q6⟩=>?_);refine zcn hp (cK (z _ s6 an H6 _ I6 q6) λf s7 q7=>?_);have B:∀ {q:St} {G:Hp},Inv X (pins++u5 fp s5.heap) q G s7->N q G->∃m,m<n/\∃i U H',Inv X pins U H' s7/\tn i s7.heap/\(∀b∈fp,H' b=none)/\W i m U H':=λ{q G} Y n7=>by
   obtain⟨m',hm,w7⟩:=hN q G n7;refine⟨m',hm,i+1,q,G,Y.unpinned,T.keep _ _ _ ad λb z o e=>(Y.pin (b,o) (zaU _ (zaU _ (jB z e)))).1,λb z=>?_,w7⟩;obtain⟨o,e,d⟩:=T.obj _ _ ad b z;exact(Y.pin (b,o) (zaU _ (zaU _ (jB z e)))).2.1
  cases f with
  | next=>obtain⟨q,G,Y,n7⟩:=q7;exact B Y n7
  | cont=>obtain⟨q,G,Y,n7⟩:=q7;exact B Y n7
  | brk=>obtain⟨q,G,Y,q7⟩:=q7;exact⟨q,G,Y.unpinned,q7⟩
  | ret v=>obtain⟨x7,q,G,Y,r7,q7⟩:=q7;exact⟨x7,q,G,Y.unpinned,r7,q7⟩
end
abbrev R2:=V->V->Hp->VK->Prop
def OpR(X:Cx)(f:Value->Value->Sem Value)(r:R2):Prop:=
 ∀(pins:List (Addr×Obj)) (s:zad) (σ:St) (H:Hp) (x y:V) (v u:Value) (Q:VK),Inv X pins σ H s->RelV x v->RelV y u->r x y H Q->
  wpAny (model X.prog X.w) X.A (f v u) (EP X pins σ Q) X.xe s
def CallR(X:Cx)(f:Value)(r:List V->Hp->VK->Prop):Prop:=
 ∀(pins:List (Addr×Obj)) (s:zad) (σ:St) (H:Hp) (xs:List V) (us:List Value) (Q:VK),Inv X pins σ H s->Vals xs us->r xs H Q->
  wpAny (model X.prog X.w) X.A (call f us) (EP X pins σ Q) X.xe s
def tOp(r:R2)(ta tb:TE):TE:=λσ H Q=>ta σ H λx H1=>tb σ H1 λy H2=>r x y H2 Q
def rI(C:Int->Int->Prop)(g:Int->Int->V):R2:=λx y H Q=>∃i j,x=.int i/\y=.int j/\C i j/\Q (g i j) H
def Q2(g:Int->Int->V):R2:=λx y H Q=>∃i j,x=.int i/\y=.int j/\Q (g i j) H
section
variable {X:Cx}{a b c:Expr}{ta tb tc:TE}{pos:Pos}
theorem ZD(N:PE X a ta)(G:PE X b tb){pins:List (Addr×Obj)}{s:zad}{σ:St}{H:Hp}{R:V->V->Hp->Prop}(I:Inv X pins σ H s)
  (h:ta σ H λx H1=>tb σ H1 λy H2=>R x y H2) {Q:Value->zad->Prop} {f:Value->Value->Sem Value}
  (F:∀v u B x y H2,Inv X pins σ H2 B->RelV x v->RelV y u->R x y H2->wpAny (model X.prog X.w) X.A (f v u) Q X.xe B) :
  wpAny (model X.prog X.w) X.A (eval a X.env) (λv z=>wpAny (model X.prog X.w) X.A (eval b X.env) (λu q=>wpAny (model X.prog X.w) X.A (f v u) Q X.xe q) X.xe z) X.xe s:=by
 refine cK (N pins s σ H _ I h) λv M ⟨x,H1,J,r1,Y⟩=>?_
 refine cK (G pins M σ H1 _ J Y) λu B ⟨y,H2,U,r2,W⟩=>?_
 exact F v u B x y H2 U r1 r2 W
theorem qd{op:Operator}{r:R2}(B:OpR X (zaN op) r)(G:PE X a ta)(z:PE X b tb):PE X (.BinOp a op b pos) (tOp r ta tb):=by
 intro pins s σ H Q I h;exact wpAny_BinOp (ZD G z I h λv u F x y H2 J M N q=>B pins F σ H2 x y v u Q J M N q)
theorem opI{f:Value->Value->Sem Value}{C:Int->Int->Prop}{g:Int->Int->Int}
  (z:∀(i j:Int) (t u:Tok) (s:zad) (Q:Value->zad->Prop) (E:Value->zad->Prop),C i j->Q (.int (g i j) s.toks) {s with toks:=s.toks+1}->wpAny (model X.prog X.w) X.A (f (.int i t) (.int j u)) Q E s) :
  OpR X f (rI C λi j=>.int (g i j)):=by
 intro pins s σ H x y v u Q I B G h;obtain⟨i,j,rfl,rfl,F,q⟩:=h;obtain⟨t,rfl⟩:=B;obtain⟨t',rfl⟩:=G;exact z i j t t' s _ _ F ⟨.int (g i j),H,I.tok _,⟨_,rfl⟩,q⟩
theorem qaK{f:Value->Value->Sem Value}{g:Int->Int->Int}
  (z:∀(i j:Int) (t u:Tok) (s:zad) (Q:Value->zad->Prop) (E:Value->zad->Prop),Q (.int (g i j) s.toks) {s with toks:=s.toks+1}->wpAny (model X.prog X.w) X.A (f (.int i t) (.int j u)) Q E s) :
  OpR X f (Q2 λi j=>.int (g i j)):=by
 intro pins s σ H x y v u Q I B F h;obtain⟨i,j,rfl,rfl,q⟩:=h;obtain⟨t,rfl⟩:=B;obtain⟨t',rfl⟩:=F;exact z i j t t' s _ _ ⟨.int (g i j),H,I.tok _,⟨_,rfl⟩,q⟩
theorem U0{f:Value->Value->Sem Value}{g:Int->Int->Bool}
  (z:∀(i j:Int) (t u:Tok) (s:zad) (Q:Value->zad->Prop) (E:Value->zad->Prop),Q (.bool (g i j)) s->wpAny (model X.prog X.w) X.A (f (.int i t) (.int j u)) Q E s) :
  OpR X f (Q2 λi j=>.bl (g i j)):=by
 intro pins s σ H x y v u Q I B F h;obtain⟨i,j,rfl,rfl,q⟩:=h;obtain⟨t,rfl⟩:=B;obtain⟨t',rfl⟩:=F;exact z i j t t' s _ _ ⟨.bl (g i j),H,I,rfl,q⟩
def U5(i j:Int):Prop:=0<j/\j<1073741824
def U4(i j:Int):Prop:=0<=j/\j<=1000000/\i.natAbs<2^64
theorem WQ:OpR X (zaN .Add) (Q2 λi j=>.int (i+j)):=qaK λ_ _ _ _ _ _ _ q=>add_int q
theorem YQ:OpR X (zaN .Sub) (Q2 λi j=>.int (i-j)):=qaK λ_ _ _ _ _ _ _ q=>sub_int q
theorem UI:OpR X (zaN .FloorDiv) (rI U5 λi j=>.int (i/j)):=opI λi j _ _ _ _ _ z q=>by
 have h1:(0:Int)<j:=z.1;have h2:j<1073741824:=z.2;exact floordiv_int (by lia) (by rw[Int.fdiv_eq_ediv_of_nonneg i (by lia)];exact q) (.inl (PyProof.noPylong_small (by lia)))
theorem WK:OpR X (zaN .Mod) (rI (λ_ j=>0<j) λi j=>.int (i%j)):=opI λi j _ _ _ _ _ z q=>by
 have h1:(0:Int)<j:=z;exact mod_int' (by lia) (by rw[Int.fmod_eq_emod_of_nonneg i (by lia)];exact q)
theorem XD:OpR X (zaN .Pow) (rI U4 λi j=>.int (i^j.toNat)):=opI λ_ _ _ _ _ _ _ z q=>pow_int_small z.1 z.2.1 z.2.2 q
end
noncomputable def Y9:V->V->Bool
 | .non,.non=>true | .non,.int _=>true | .int _,.non=>true | .non,.bl _=>true | .bl _,.non=>true | .non,.str _=>true | .str _,.non=>true
 | .int _,.int _=>true | .bl _,.bl _=>true | .str _,.str _=>true | .byt _,.byt _=>true
 | .int _,.str _=>true | .str _,.int _=>true | .bl _,.str _=>true | .str _,.bl _=>true
 | _,_=>false
def rEq:R2:=λx y H Q=>Y9 x y=true/\Q (.bl (decide (x=y))) H
def rNe:R2:=λx y H Q=>Y9 x y=true/\Q (.bl (!decide (x=y))) H
theorem GO:decide (V.int i=V.int j)=(i == j):=by
 rw[zcy];simp
theorem PN:decide (V.bl i=V.bl j)=(i == j):=by
 rw[zcy];simp
theorem GU:decide (V.str i=V.str j)=(i == j):=by
 rw[zcy];simp
theorem GC:decide (V.byt i=V.byt j)=(i.toList == j.toList):=by
 rw[zcy];cases i;cases j;simp
section
variable {X:Cx}{a b c:Expr}{ta tb tc:TE}{pos:Pos}
theorem bN(I:Inv X pins σ H s)(q:Q (.bl k) H)(e:k=k'):EP X pins σ Q (.bool k') s:=by
 subst e;exact⟨.bl k,H,I,rfl,q⟩
theorem qaC:OpR X (zaB .Eq) rEq:=by
 intro pins s σ H x y v u Q I B z h;obtain⟨hs,q⟩:=h;cases x with
 | non=>
  cases B;cases y with
  | non=>cases z;exact PySem.EqNone.eq_none_none (bN I q (by simp))
  | bl j=>cases z;exact PySem.EqNone.eq_none_bool (bN I q (by simp))
  | int j=>obtain⟨t',rfl⟩:=z;exact PySem.EqNone.eq_none_int (bN I q (by simp))
  | str j=>obtain⟨t',rfl⟩:=z;exact PySem.EqNone.eq_none_str (bN I q (by simp))
  | _=>exact absurd (show false=true from hs) zaC
 | bl i=>
  cases B;cases y with
  | non=>cases z;exact PySem.EqNone.eq_bool_none (bN I q (by simp))
  | bl j=>cases z;exact eq_bool (bN I q PN)
  | str j=>obtain⟨t',rfl⟩:=z;exact PySem.EqMixed.eq_bool_str (bN I q (by simp))
  | _=>exact absurd (show false=true from hs) zaC
 | int i=>
  obtain⟨t,rfl⟩:=B;cases y with
  | non=>cases z;exact PySem.EqNone.eq_int_none (bN I q (by simp))
  | int j=>obtain⟨t',rfl⟩:=z;exact eq_int (bN I q GO)
  | str j=>obtain⟨t',rfl⟩:=z;exact PySem.EqMixed.eq_int_str (bN I q (by simp))
  | _=>exact absurd (show false=true from hs) zaC
 | str i=>
  obtain⟨t,rfl⟩:=B;cases y with
  | non=>cases z;exact PySem.EqNone.eq_str_none (bN I q (by simp))
  | bl j=>cases z;exact PySem.EqMixed.eq_str_bool (bN I q (by simp))
  | int j=>obtain⟨t',rfl⟩:=z;exact PySem.EqMixed.eq_str_int (bN I q (by simp))
  | str j=>obtain⟨t',rfl⟩:=z;exact eq_str (bN I q GU)
  | _=>exact absurd (show false=true from hs) zaC
 | byt i=>
  obtain⟨t,rfl⟩:=B;cases y with
  | byt j=>obtain⟨t',rfl⟩:=z;exact PySem.W.eq_bytes (bN I q GC)
  | _=>exact absurd (show false=true from hs) zaC
 | _=>cases y <;> exact absurd (show false=true from hs) zaC
theorem ZZ:OpR X (zaB .NotEq) rNe:=by
 intro pins s σ H x y v u Q I B z h;obtain⟨hs,q⟩:=h;cases x with
 | non=>
  cases B;cases y with
  | non=>cases z;exact PySem.EqNone.ne_none_none (bN I q (by simp))
  | bl j=>cases z;exact PySem.EqNone.ne_none_bool (bN I q (by simp))
  | int j=>obtain⟨t',rfl⟩:=z;exact PySem.EqNone.ne_none_int (bN I q (by simp))
  | str j=>obtain⟨t',rfl⟩:=z;exact PySem.EqNone.ne_none_str (bN I q (by simp))
  | _=>exact absurd (show false=true from hs) zaC
 | bl i=>
  cases B;cases y with
  | non=>cases z;exact PySem.EqNone.ne_bool_none (bN I q (by simp))
  | bl j=>cases z;exact ne_bool (bN I q (congrArg not PN))
  | str j=>obtain⟨t',rfl⟩:=z;exact PySem.EqMixed.ne_bool_str (bN I q (by simp))
  | _=>exact absurd (show false=true from hs) zaC
 | int i=>
  obtain⟨t,rfl⟩:=B;cases y with
  | non=>cases z;exact PySem.EqNone.ne_int_none (bN I q (by simp))
  | int j=>obtain⟨t',rfl⟩:=z;exact ne_int (bN I q (congrArg not GO))
  | str j=>obtain⟨t',rfl⟩:=z;exact PySem.EqMixed.ne_int_str (bN I q (by simp))
  | _=>exact absurd (show false=true from hs) zaC
 | str i=>
  obtain⟨t,rfl⟩:=B;cases y with
  | non=>cases z;exact PySem.EqNone.ne_str_none (bN I q (by simp))
  | bl j=>cases z;exact PySem.EqMixed.ne_str_bool (bN I q (by simp))
  | int j=>obtain⟨t',rfl⟩:=z;exact PySem.EqMixed.ne_str_int (bN I q (by simp))
  | str j=>obtain⟨t',rfl⟩:=z;exact ne_str (bN I q (congrArg not GU))
  | _=>exact absurd (show false=true from hs) zaC
 | byt i=>
  obtain⟨t,rfl⟩:=B;cases y with
  | byt j=>obtain⟨t',rfl⟩:=z;exact PySem.W.ne_bytes (bN I q (congrArg not GC))
  | _=>exact absurd (show false=true from hs) zaC
 | _=>cases y <;> exact absurd (show false=true from hs) zaC
theorem ql:OpR X (zaB .Lt) (Q2 λi j=>.bl (decide (i<j))):=U0 λ_ _ _ _ _ _ _ q=>lt_int q
theorem qaz:OpR X (zaB .LtE) (Q2 λi j=>.bl (decide (i<=j))):=U0 λ_ _ _ _ _ _ _ q=>le_int q
theorem qg:OpR X (zaB .Gt) (Q2 λi j=>.bl (decide (j<i))):=U0 λ_ _ _ _ _ _ _ q=>gt_int q
theorem Z7:OpR X (zaB .GtE) (Q2 λi j=>.bl (decide (j<=i))):=U0 λ_ _ _ _ _ _ _ q=>ge_int q
theorem YI:OpR X (zaB .Is) (λx y H Q=>y=.non/\Q (.bl (decide (x=.non))) H):=by
 intro pins s σ H x y v u Q I z B h;obtain⟨rfl,q⟩:=h;cases B;refine is_none_gen (bN I q ?_);cases x <;> first
  | (cases z;rfl)
  | (obtain⟨t,rfl⟩:=z;rfl)
theorem R5:OpR X (zaB .IsNot) (λx y H Q=>y=.non/\Q (.bl (!decide (x=.non))) H):=by
 intro pins s σ H x y v u Q I z B h;obtain⟨rfl,q⟩:=h;cases B;refine isnot_none_gen (bN I q ?_);cases x <;> first
  | (cases z;rfl)
  | (obtain⟨t,rfl⟩:=z;rfl)
theorem OpR.or(h:OpR X f r)(h':OpR X f r'):OpR X f (λx y H Q=>r x y H Q\/r' x y H Q):=by
 intro pins s σ H x y v u Q I z B q;rcases q with q|q
 ·exact h pins s σ H x y v u Q I z B q
 ·exact h' pins s σ H x y v u Q I z B q
theorem E9(b:Expr)(h:op≠.In:=by decide)(h2:op≠.NotIn:=by decide):zbS op b=false:=by
 have z:(op == CmpOp.In)=false:=by cases op <;> first|rfl|exact absurd rfl h
 have q:(op == CmpOp.NotIn)=false:=by cases op <;> first|rfl|exact absurd rfl h2
 cases b <;> simp[zbS,z,q]
theorem UF(B:OpR X (zaB op) r)(G:PE X a ta)(z:PE X b tb)(N:zbS op b=false):PE X (.Compare a [op] [b] pos) (tOp r ta tb):=by
 intro pins s σ H Q I h;exact wpAny_Compare1 (ZD G z I h λv u F x y H2 J M U q=>B pins F σ H2 x y v u Q J M U q) N
def qal(t:TE):TT:=λσ H Q=>t σ H λx H'=>∃k,x=.bl k/\Q k H'
theorem T1{op:CmpOp}{r:R2}(F:OpR X (zaB op) r)(U:PE X a ta)(q:PE X b tb)(hm:zbS op b=false):PT X (.Compare a [op] [b] pos) (qal (tOp r ta tb)):=by
 intro pins s σ H Q I h;refine wpAny_isTrue_Compare1 (cK (U pins s σ H _ I h) λv G ⟨x,H1,B,r1,q1⟩=>cK (q pins G σ H1 _ B q1) λu N ⟨y,H2,Y,r2,q2⟩=>
  cK (F pins N σ H2 x y v u _ Y r1 r2 q2) λc s3 ⟨z,M,J,r3,k,e,W⟩=>?_) hm
 subst e;cases r3;exact zb7 ⟨M,J,W⟩
theorem u9:(zal:Nat)<2^63:=by rw[zcA];decide
theorem DR:OpR X (zaN .Add) (λx y H Q=>∃i j,x=.str i/\y=.str j/\i.length+j.length<=zal/\Q (.str (i++j)) H):=by
 intro pins s σ H x y v u Q I z B h;obtain⟨i,j,rfl,rfl,F,q⟩:=h;obtain⟨t,rfl⟩:=z;obtain⟨t',rfl⟩:=B;exact add_str (λt' tk=>⟨.str (i++j),H,I.tok _,⟨_,rfl⟩,q⟩) F
theorem vals1(r:Vals [x] us):∃u,us=[u]/\RelV x u:=by
 cases r with
 | cons r1 r2=>cases r2;exact⟨_,rfl,r1⟩
theorem vals2(r:Vals [x,y] us):∃u q,us=[u,q]/\RelV x u/\RelV y q:=by
 cases r with
 | cons r1 r2=>
  cases r2 with
  | cons r3 r4=>cases r4;exact⟨_,_,rfl,r1,r3⟩
theorem KD(B:X.calm=true):CallR X (.builtin "max") (λxs H Q=>∃i j,xs=[.int i,.int j]/\Q (.int (if j>i then j else i)) H):=by
 intro pins s σ H xs G Q I r h;obtain⟨i,j,rfl,q⟩:=h;obtain⟨u,F,rfl,⟨t,rfl⟩,⟨t',rfl⟩⟩:=vals2 r;refine max_two_ints (I.ok.hd B) λh' tk k=>⟨_,H,I.kept k,?_,q⟩
 by_cases z:j>i
 ·rw[if_pos z,if_pos z];exact⟨_,rfl⟩
 ·rw[if_neg z,if_neg z];exact⟨_,rfl⟩
theorem KY(B:X.calm=true):CallR X (.builtin "min") (λxs H Q=>∃i j,xs=[.int i,.int j]/\Q (.int (if j<i then j else i)) H):=by
 intro pins s σ H xs G Q I r h;obtain⟨i,j,rfl,q⟩:=h;obtain⟨u,F,rfl,⟨t,rfl⟩,⟨t',rfl⟩⟩:=vals2 r;refine min_two_ints (I.ok.hd B) λh' tk k=>⟨_,H,I.kept k,?_,q⟩
 by_cases z:j<i
 ·rw[if_pos z,if_pos z];exact⟨_,rfl⟩
 ·rw[if_neg z,if_neg z];exact⟨_,rfl⟩
theorem J9:CallR X (.type "int") (λxs H Q=>(∃i,xs=[.int i]/\Q (.int i) H)\/∃k,xs=[.bl k]/\Q (.int (if k then 1 else 0)) H):=by
 intro pins s σ H xs z Q I r h;rcases h with⟨i,rfl,q⟩|⟨k,rfl,q⟩
 ·obtain⟨u,rfl,t,rfl⟩:=vals1 r
  exact call_int_int ⟨.int i,H,I,⟨_,rfl⟩,q⟩
 ·obtain⟨u,rfl,r1⟩:=vals1 r
  cases r1;exact call_int_bool ⟨.int (if k then 1 else 0),H,I.tok _,⟨_,rfl⟩,q⟩
def qbK(K:zae)(x:V)(H:Hp)(n:Nat):Prop:=
 match x with
 | .str y=>y.length<=zal/\n=y.length
 | .byt y=>y.size<=zal/\n=y.size
 | .ref p=>(∃xs,SqL K H p xs/\n=xs.length)\/∃xs,SqT K H p xs/\n=xs.length
 | _=>False
theorem uN:CallR X (.builtin "len") (λxs H Q=>∃x n,xs=[x]/\qbK X.K x H n/\Q (.int n) H):=by
 intro pins s σ H xs us Q I r h;obtain⟨x,n,rfl,e,q⟩:=h;obtain⟨u,rfl,M⟩:=vals1 r;have Y:=u9;have hs:zal=16777216:=zcA;cases x with
 | str y=>
  obtain⟨t,rfl⟩:=M;obtain⟨N,B⟩:y.length<=zal/\n=y.length:=e;subst B;exact len_str (by lia) ⟨.int _,H,I.tok _,⟨_,rfl⟩,q⟩
 | byt y=>
  obtain⟨t,rfl⟩:=M;obtain⟨N,B⟩:y.size<=zal/\n=y.size:=e;subst B;exact PySem.W.len_bytes (by lia) ⟨.int _,H,I.tok _,⟨_,rfl⟩,q⟩
 | ref p=>
  cases M;have B:(∃xs,SqL X.K H p xs/\n=xs.length)\/∃xs,SqT X.K H p xs/\n=xs.length:=e;rcases B with⟨xs,hx,B⟩|⟨xs,hx,B⟩
  ·subst B
   obtain⟨F,J,G,U⟩:=I.list hx;have z:=J.length;exact Calls.call_len_list G.isList (by simp only[zax];lia) ⟨.int xs.length,H,I.tok _,⟨_,by simp only[zax];rw[z]⟩,q⟩
  ·subst B
   obtain⟨F,J,G,U⟩:=I.tuple hx;have z:=J.length;exact len_tuple G (by simp only[zax];lia) ⟨.int xs.length,H,I.tok _,⟨_,by simp only[zax];rw[z]⟩,q⟩
 | _=>exact(show False from e).elim
end
structure ObjM(h:Heap)(x dx C:Addr)(mA:Str->Option Value):Prop where
 obj:h.get? x=some (zb9 C dx)
 ns:h.Ns1 dx mA
 ne:dx≠x
set_option tactic.hygienic true in
theorem J5{h:Heap}{dx:Addr}{mA:Str->Option Value}(n:h.Ns1 dx mA):∃od,h.get? dx=some od/\∀name,PySem.W.lookIn name od=some (mA name):=by
 obtain⟨o,es,ep,F,hd,J,_,N⟩:=n;refine⟨o,F,λname=>?_⟩;have e:=N name;unfold nsFind findBy at e;rw[<- Array.find?_toList]at e;unfold PySem.W.lookIn;rw[hd];dsimp only;split
 ·rename_i y q
  rw[q]at e;exact congrArg some e
 ·rename_i q
  rw[q]at e;have a:es.toList.any (·.refKey)=false:=by
   rw[List.any_eq_false];intro y M;obtain⟨z,t,B⟩:=J y (Array.mem_toList_iff.mp M);simp[DictEntry.refKey,B]
  have G:¬ es.toList.any (·.refKey)=true:=by rw[a];exact zaC
  rw[if_neg G];exact congrArg some e
theorem ObjM.look(I:ObjM h x dx C mA):∃od,PySem.W.InstAt h x (zb9 C dx) C (some od)/\∀name,PySem.W.lookIn name od=some (mA name):=
 let ⟨od,ho,hl⟩:=J5 I.ns
 ⟨od,⟨I.obj,rfl,rfl,ho⟩,hl⟩
section
variable {prog:zai}{w:World}{A:zao}{E:Value->zad->Prop}{s:zad}{K:zae}{x dx C f:Addr}{mA:Str->Option Value}{name:Str}{v:Value}
theorem UA(X:K.In s.heap)(I:ObjM s.heap x dx C mA)(M:zdb K C name=true)(F:zdc K C=true)
  (G:zbv K (.ref C) name=some none) (z:mA name=some v) (q:PySem.W.handedIn v=true) (h:Q v {s with toks:=s.toks+1}) :
  wpAny (model prog w) A (getAttr (.ref x) name expr) Q E s:=by
 obtain⟨od,J,B⟩:=I.look;exact PySem.W.get_value X J (PySem.W.plainGet_of M).1 (PySem.W.findObj_own F G rfl (by rw[B,z])) q h
theorem Q6(X:K.In s.heap)(I:ObjM s.heap x dx C mA)
  (hs:zbv K (.ref C) "__setattr__" = some (some (.builtin "object.__setattr__"))) (Y:zdW K C=true) (U:zdX K C name=some none) (N:zdc K C=true)
  (hw:PySem.Within mA ns) (hsz:ns.length<=zal)
  (h:∀h',ObjM h' x dx C (λy=>if y=name then some v else mA y)->za4 dx s.heap h'->Q () {s with heap:=h',toks:=s.toks+2}) :
  wpAny (model prog w) A (setAttr (.ref x) name v) Q E s:=by
 obtain⟨od,J,hl⟩:=I.look;refine PySem.W.set_plain X J hs (PySem.W.osa_open (s:={s with toks:=s.toks+1}) (r:=none) X J Y U λb=>?_);obtain⟨cd,hc,B⟩:=PySem.W.any_some N;have hx:s.heap.get? x=some ⟨.ref C,some dx,.plain,#[]⟩:=I.obj;refine zaa (zaf (zaa (zaa (wpAny_loadPart hx (zaa (PySem.W.Looks.here (s:={s with toks:=s.toks+1}) (PySem.W.looks_clsIn X hc) ?_))))));rw[B];refine zaf (a:=some dx) (zaa (zaf (zaa ?_)));refine wpAny_nsSet1 (s:={s with toks:=s.toks+1}) I.ns λh' z q=>?_
 obtain⟨oD,ac,ab,M,F,G⟩:=z.count (PySem.Within.cons name v hw);refine zaa (wpAny_lookBehind M (by rw[F];exact pastItsLine_dict (zaM G (by rw[zaz];lia))) ?_);exact zaf (h _ ⟨(q.2 _ (zaW I.ne)).trans I.obj,z,I.ne⟩ q)
theorem MX(X:K.In s.heap)(B:zdY K C=true)
  (hi:zbv K (.ref C) "__init__" = some (some (.ref f))) (z:PySem.W.typeIn K (.ref f)=some (.type "function"))
  (h:zbF (model prog w) (A.under (.builtin "type.__call__" ⟨.ref C::vs, kw⟩)) (.call (.ref f) ⟨.ref (s.heap.objs.size+1)::vs, kw⟩) (PySem.W.InitBack (s.heap.objs.size+1) R)
   {s with heap:=(s.heap.push zbW).push (zb9 C s.heap.objs.size)}) :
  zbF (model prog w) A (.call (.ref C) ⟨vs,kw⟩) R s:=by
 obtain⟨F,g,d,t,G⟩:=s;exact PySem.W.make_core (PySem.W.makes_of X B) (PySem.W.looks_findIn X hi) (λq=>PySem.W.bind_fn X q z) (.inl rfl) h
end
noncomputable def jS(f:Str)(v:V):List (Str×V)->List (Str×V)
 | []=>[(f,v)]
 | (g,x)::r=>if g=f then(g,v)::r else(g,x)::jS f v r
theorem qQ(f g:Str)(v:V):∀fs:List (Str×V),(jS f v fs).lookup g=if g=f then some v else fs.lookup g
 | []=>by
  show zco g [(f,v)]=_;by_cases h:g=f
  ·have q:(g == f)=true:=beq_iff_eq.mpr h
   simp only[zco,q,if_pos h]
  ·have q:(g == f)=false:=beq_eq_false_iff_ne.mpr h
   simp only[zco,q,if_neg h]
 | (k,x)::r=>by
  have ih:=qQ f g v r;rw[show jS f v ((k,x)::r)=(if k=f then(k,v)::r else(k,x)::jS f v r)from rfl];by_cases z:k=f
  ·rw[if_pos z]
   by_cases h:g=k
   ·have q:(g == k)=true:=beq_iff_eq.mpr h
    simp only[zco,q,if_pos (h.trans z)]
   ·have q:(g == k)=false:=beq_eq_false_iff_ne.mpr h
    simp only[zco,q,if_neg (λe:g=f=>h (e.trans z.symm))]
  ·rw[if_neg z]
   by_cases h:g=k
   ·have q:(g == k)=true:=beq_iff_eq.mpr h
    simp only[zco,q,if_neg (λe:g=f=>z (h.symm.trans e))]
   ·have q:(g == k)=false:=beq_eq_false_iff_ne.mpr h
    simp only[zco,q];exact ih
theorem pD(f:Str)(v:V):∀fs:List (Str×V),f∈(jS f v fs).map (·.1)/\∀g,g∈fs.map (·.1)->g∈(jS f v fs).map (·.1)
 | []=>⟨by simp[jS],λg h=>by simp at h⟩
 | (k,x)::r=>by
  obtain⟨B,z⟩:=pD f v r;rw[show jS f v ((k,x)::r)=(if k=f then(k,v)::r else(k,x)::jS f v r)from rfl];by_cases q:k=f
  ·rw[if_pos q]
   subst q;exact⟨by simp,λg h=>by simpa using h⟩
  ·rw[if_neg q]
   refine⟨?_,λg h=>?_⟩
   ·rw[zak]
    exact zap _ B
   ·rw[zak]at h ⊢
    rcases List.mem_cons.mp h with e|e
    ·exact List.mem_cons.mpr (.inl e)
    ·exact zap _ (z g e)
theorem qD(f:Str)(v:V):∀fs:List (Str×V),(jS f v fs).length<=fs.length+1
 | []=>by simp[jS]
 | (k,x)::r=>by
  have ih:=qD f v r;rw[show jS f v ((k,x)::r)=(if k=f then(k,v)::r else(k,x)::jS f v r)from rfl];by_cases q:k=f
  ·rw[if_pos q,zaz,zaz];lia
  ·rw[if_neg q,zaz,zaz];lia
theorem RelO.some_of(r:RelO (some v) o):∃u,o=some u/\RelV v u:=by
 cases o with
 | none=>exact(show False from r).elim
 | some u=>exact⟨u,rfl,r⟩
theorem K7(r:RelV v u):PySem.W.handedIn u=true:=by
 cases v with
 | non=>cases(show u=za5 from r);rfl
 | bl b=>cases(show u=zcM b from r);rfl
 | int i=>obtain⟨t,e⟩:=(show ∃t,u=zcw i t from r);cases e;rfl
 | str x=>obtain⟨t,e⟩:=(show ∃t,u=zcL x t from r);cases e;rfl
 | byt b=>obtain⟨t,e⟩:=(show ∃t,u=Value.bytes b t from r);cases e;rfl
 | flt b=>obtain⟨t,e⟩:=(show ∃t,u=Value.float b t from r);cases e;rfl
 | ref a=>cases(show u=zau a from r);rfl
 | ty n=>cases(show u=Value.type n from r);rfl
section
variable {P:zai}{w:World}{H H':Hp}{h h':Heap}{a C dx:Addr}{fs fs':List (Str×V)}
theorem yC(B:HOk P w H h)(e:H a=some (.ins C dx fs)):∃mA,ObjM h a dx C mA/\(∀f,RelO (fs.lookup f) (mA f))/\PySem.Within mA (fs.map (·.1))/\fs.length<=1000/\H dx=some (.own a):=by
 obtain⟨d,z,F,G,mA,n,r,q⟩:=(show ObjOk P w H h a (.ins C dx fs)from B a _ e);exact⟨mA,⟨G,n,F⟩,r,q,z,d⟩
end
structure Cls(K:zae)(C:Addr):Prop where
 pg:zdb K C Str.empty=true
 hd:zdc K C=true
 po:zdW K C=true
 sa:zbv K (.ref C) "__setattr__" = some (some (.builtin "object.__setattr__"))
theorem Cls.get{K:zae}{C:Addr}(c:Cls K C)(f:Str):zdb K C f=true:=c.pg
def NoAttr(K:zae)(C:Addr)(f:Str):Prop:=zbv K (.ref C) f=some none
theorem NoAttr.taker{K:zae}{C:Addr}{f:Str}(n:NoAttr K C f):zdX K C f=some none:=by
 unfold zdX;rw[show zbv K (.ref C) f=some none from n];rfl
section
variable {X:Cx}{pins:List (Addr×Obj)}{σ:St}{H:Hp}{s:zad}{a C dx:Addr}{fs:List (Str×V)}{f:Str}{v:V}{A:zao}{E:Value->zad->Prop}
theorem EJ(I:Inv X pins σ H s)(e:H a=some (.ins C dx fs))(c:Cls X.K C)(n:NoAttr X.K C f)(l:fs.lookup f=some v)
  (h:∀u s',Inv X pins σ H s'->RelV v u->Q u s'):wpAny (model X.prog X.w) A (getAttr (.ref a) f b) Q E s:=by
 obtain⟨mA,O,r,_,_,_⟩:=yC I.hok e;obtain⟨u,z,q⟩:=RelO.some_of (v:=v) (o:=mA f) (by rw[<- l];exact r f);exact UA I.kIn O (c.get f) c.hd n z (K7 q) (h u _ (I.tok _) q)
theorem EQ(I:Inv X pins σ H s)(e:H a=some (.ins C dx fs))(c:Cls X.K C)(n:NoAttr X.K C f)(N:fs.length<1000)(G:RelV y u)
  (h:∀s',Inv X pins σ (upd H a (.ins C dx (jS f y fs))) s'->Q () s'):wpAny (model X.prog X.w) A (setAttr (.ref a) f u) Q E s:=by
 obtain⟨mA,O,r,wi,_,B⟩:=yC I.hok e;have J:(fs.map (·.1)).length<=zal:=by rw[zah,zcA];lia
 refine Q6 I.kIn O c.sa c.po n.taker c.hd wi J λh' O' sb=>h _ ?_
 have hd:∃o,h'.get? dx=some o:=let ⟨o,_,_,e',_⟩:=O'.ns;⟨o,e'⟩;refine I.write (x:=a) (e:=dx) (by rw[e];exact zaV) (.inr B) (λb q F z=>(sb.2 b F).trans z) hd ?_;refine⟨by rw[aG O.ne];exact B,?_,O.ne,O'.obj,_,O'.ns,λg=>?_,λg M=>?_⟩
 ·have:=qD f y fs;lia
 ·show RelO ((jS f y fs).lookup g) (if g=f then some u else mA g)
  rw[qQ];by_cases q:g=f
  ·rw[if_pos q,if_pos q];exact G
  ·rw[if_neg q,if_neg q];exact r g
 ·by_cases q:g=f
  ·rw[q];exact(pD f y fs).1
  ·refine(pD f y fs).2 g (wi g λz=>M ?_)
   show(if g=f then some u else mA g)=none;rw[if_neg q];exact z
theorem Inv.made(I:Inv X pins σ H s):Inv X pins σ (upd (upd H s.heap.objs.size (.own (s.heap.objs.size+1))) (s.heap.objs.size+1) (.ins C s.heap.objs.size []))
  {s with heap:=(s.heap.push zbW).push (zb9 C s.heap.objs.size)}:=by
 have z:(s.heap.push zbW).get? s.heap.objs.size=some zbW:=zaE s.heap rfl;have N:((s.heap.push zbW).push (zb9 C s.heap.objs.size)).get? (s.heap.objs.size+1)=some (zb9 C s.heap.objs.size):=by
  have:=zaE (s.heap.push zbW) (o:=zb9 C s.heap.objs.size) rfl
  rwa [zbX]at this
 have F:(s.heap.push zbW).Ns s.heap.objs.size (λ_=>none):=⟨zbW,#[],_,z,rfl,(λe J=>absurd J (by simp)),λ_=>rfl⟩;have G:=I.laid (a:=s.heap.objs.size) (o:=.own (s.heap.objs.size+1)) (h':=s.heap.push zbW) (t':=s.toks) (λb u q=>zam _ q) (zaj _) ⟨_,z⟩;refine G.laid (a:=s.heap.objs.size+1) (o:=.ins C s.heap.objs.size []) (t':=s.toks) (λb u q=>zam _ q) (Nat.le_of_eq (zbX _ _)) ?_;have B:s.heap.objs.size≠s.heap.objs.size+1:=zaF (zdd _);refine⟨by rw[aG B,aL],zaJ _,B,N,λ_=>none,(Heap.Ns1.of_empty F).at λo q=>zam _ q,λ_=>zaV,λy M=>absurd rfl M⟩
theorem TH{prog:zai}{w:World}{env:Env}{e:Expr}{f:Str}{pos:Pos}{s:zad}{Q:Value->zad->Prop}(z:zaR e f env (eval e env)=eval e env)
  (h:wpAny (model prog w) A (eval e env) (λo q=>wpAny (model prog w) A (getAttr o f true) Q E q) E s):wpAny (model prog w) A (eval (.Attribute e f pos) env) Q E s:=
 Attribute_any_ h (by rw[arm_eval_Attribute,z])
end
def qaI(K:zae)(ta:TE)(f:Str):TE:=λσ H Q=>ta σ H λx H1=>∃a C dx fs v,x=.ref a/\H1 a=some (.ins C dx fs)/\Cls K C/\NoAttr K C f/\fs.lookup f=some v/\Q v H1
def qbL(K:zae)(ta tv:TE)(f:Str):TS:=λD σ H=>tv σ H λy H1=>ta σ H1 λx H2=>∃a C dx fs,x=.ref a/\H2 a=some (.ins C dx fs)/\Cls K C/\NoAttr K C f/\fs.length<1000 /\
 D.nx σ (upd H2 a (.ins C dx (jS f y fs)))
section
variable {X:Cx}{o e value:Expr}{f:Str}{pos pos' tpos:Pos}{ta tv:TE}
theorem lE(G:PE X e ta)(z:zaR e f X.env (eval e X.env)=eval e X.env):PE X (.Attribute e f pos) (qaI X.K ta f):=by
 intro pins s σ H Q I h;refine TH z (cK (G pins s σ H _ I h) λu U ⟨x,H1,B,M,a,C,dx,fs,v,ex,J,c,n,l,q⟩=>?_);subst ex;obtain rfl:u=zau a:=M;exact EJ B J c n l λY W N F=>⟨v,H1,N,F,q⟩
theorem u4(M:PE X o ta)(z:PE X value tv)(hs:zaD value (some (.Attribute o f pos')) pos.line X.env=pure false):PS X (.Assign [.Attribute o f pos'] value pos) (qbL X.K ta tv f):=by
 intro pins s σ H D I h;refine plainObj_wpAny_Assign_Attribute (cK (z pins s σ H _ I h) λu F ⟨y,H1,B,Y,q⟩=>cK (M pins F σ H1 _ B q) λJ s2 ⟨x,H2,G,U,a,C,dx,fs,ex,N,c,n,l,W⟩=>?_) hs;subst ex;obtain rfl:J=zau a:=U;exact EQ G N c n l Y λs3 I3=>⟨σ,_,I3,W⟩
end
section
variable {X:Cx}{pins:List (Addr×Obj)}{σ:St}{H:Hp}{s:zad}{A:zao}{E:Value->zad->Prop}{Q:Value->zad->Prop}{c:Value}{b:Bool}
inductive TyOf(K:zae)(H:Hp):V->Value->Prop where
 | non:TyOf K H .non (.type "NoneType")
 | bl (x:Bool):TyOf K H (.bl x) (.type "bool")
 | int (i:Int):TyOf K H (.int i) (.type "int")
 | str (x:Str):TyOf K H (.str x) (.type "str")
 | flt (x:UInt64):TyOf K H (.flt x) (.type "float")
 | lst {a:Addr} {xs:List V} (e:H a=some (.lst xs)):TyOf K H (.ref a) (.type "list")
 | frz {a:Addr} {o:Obj} {xs:List V} (e:H a=some (.frz o (.lst xs))):TyOf K H (.ref a) (.type "list")
 | tup {a:Addr} {xs:List V} (e:H a=some (.tup xs)):TyOf K H (.ref a) (.type "tuple")
 | dK {a:Addr} {kvs:List (Key×V)} (e:H a=some (.dK kvs)):TyOf K H (.ref a) (.type "dict")
 | dT {a:Addr} {kvs:List (List Key×V)} (e:H a=some (.dT kvs)):TyOf K H (.ref a) (.type "dict")
 | ins {a C dx:Addr} {fs:List (Str×V)} (e:H a=some (.ins C dx fs)) (cl:Cls K C) (ha:zbv K (.ref C) "__class__" = some (some (.builtin "object.__class__")))
   (hn:PySem.W.specialIn K (.builtin "object.__class__") "__get__" = some (some (.builtin "getset_descriptor.__get__"))) (htk:PySem.W.takesIn K (.builtin "object.__class__")=some true)
   (hm:PySem.W.mroIn K C (.type "object")=some true):TyOf K H (.ref a) (.ref C)
theorem KR(I:Inv X pins σ H s)(B:RelV x u)(ty:TyOf X.K H x t)(e:zde X.K t c=some b)(h:∀tk,Q (.bool b) {s with toks:=tk}) :
  wpAny (model X.prog X.w) A (call (.builtin "isinstance") [u,c]) Q E s:=by
 cases ty with
 | non=>cases(show u=za5 from B);exact zbk PySem.W.kitx_none I.kIn zaV e (λz=>nomatch z) h
 | bl y=>cases(show u=zcM y from B);exact zbk PySem.W.kitx_bool I.kIn zaV e (λz=>nomatch z) h
 | int i=>obtain⟨t,q⟩:=(show ∃t,u=zcw i t from B);cases q;exact zbk PySem.W.kitx_int I.kIn zaV e (λz=>nomatch z) h
 | str y=>obtain⟨t,q⟩:=(show ∃t,u=zcL y t from B);cases q;exact zbk PySem.W.kitx_str I.kIn zaV e (λz=>nomatch z) h
 | flt y=>obtain⟨t,q⟩:=(show ∃t,u=Value.float y t from B);cases q;exact zbk PySem.W.kitx_float I.kIn zaV e (λz=>nomatch z) h
 | @lst a xs ea=>
  cases(show u=zau a from B);obtain⟨_,_,n,_,h1⟩:=(show ObjOk X.prog X.w H s.heap a (.lst xs)from I.hok a _ ea);exact zbk PySem.W.kitx_list I.kIn ⟨_,h1,rfl⟩ e (λz=>nomatch z) h
 | @frz a ob xs ea=>
  cases(show u=zau a from B);obtain⟨_,_,_,n,_,h1⟩:=(show ObjOk X.prog X.w H s.heap a (.frz ob (.lst xs))from I.hok a _ ea);exact zbk PySem.W.kitx_list I.kIn ⟨_,h1,rfl⟩ e (λz=>nomatch z) h
 | @tup a xs ea=>
  cases(show u=zau a from B);obtain⟨_,_,_,p⟩:=(show ObjOk X.prog X.w H s.heap a (.tup xs)from I.hok a _ ea);obtain⟨o,h1,h2,_⟩:=p;exact zbk PySem.W.kitx_tuple I.kIn ⟨o,h1,h2⟩ e (λz=>nomatch z) h
 | @dK a kvs ea=>
  cases(show u=zau a from B);obtain⟨_,_,vs,_,p⟩:=(show ObjOk X.prog X.w H s.heap a (.dK kvs)from I.hok a _ ea);obtain⟨o,es,ep,h1,h2,_⟩:=p;exact zbk zdf I.kIn ⟨o,h1,h2.1⟩ e (λz=>nomatch z) h
 | @dT a kvs ea=>
  cases(show u=zau a from B);obtain⟨_,_,xs,_,o,es,ep,h1,h2,_⟩:=(show ObjOk X.prog X.w H s.heap a (.dT kvs)from I.hok a _ ea);exact zbk zdf I.kIn ⟨o,h1,h2.1⟩ e (λz=>nomatch z) h
 | @ins a C dx fs ea cl ha hn htk hm=>
  cases(show u=zau a from B);obtain⟨mA,O,_⟩:=yC I.hok ea;obtain⟨od,J,_⟩:=O.look;exact zbk (PySem.W.kitx_own (cl.get _) cl.hd ha hn htk hm) I.kIn J e (λz=>nomatch z) h
end
structure Room(k:Nat)(A:zao):Prop where
 hd:A.handled=none
 dp:A.depth+3*k+5<recursionLimit
 un:A.units+16*k+200<cLine
theorem Room.mono(r:Room k A)(h:j<=k):Room j A:=⟨r.hd,by have:=r.dp;lia,by have:=r.un;lia⟩
theorem Room.deeper(r:Room (k+1) A)(env:Env):Room k (A.deeper env):=
 ⟨r.hd,by have:=r.dp;show A.depth+1+3*k+5<_;lia,by have:=r.un;show A.units+3+16*k+200<_;lia⟩
theorem DW{A:zao}{C:Addr}{q:List Value}{kw:List (Str×Value)}:(A.under (.builtin "type.__call__" ⟨.ref C::q,kw⟩)).depth=A.depth+1:=by
 first|rfl|simp[Around.under,Code.weight,Code.isCreation,Code.isGuard,Code.isCaller,Code.frames,Code.isFrame,guardIds]
theorem EO{A:zao}{C:Addr}{q:List Value}{kw:List (Str×Value)}:(A.under (.builtin "type.__call__" ⟨.ref C::q,kw⟩)).units=A.units+1:=by
 first|rfl|simp[Around.under,Code.cUnits,Code.frames,Code.isFrame]
theorem Room.make(r:Room (k+1) A)(C:Addr)(q:List Value)(kw:List (Str×Value)):Room k (A.under (.builtin "type.__call__" ⟨.ref C::q,kw⟩)):=
 ⟨r.hd,by have:=r.dp;rw[DW];lia,by have:=r.un;rw[EO];lia⟩
theorem Room.depth(r:Room k A):A.depth<recursionLimit:=by have:=r.dp;lia
theorem Room.units(r:Room k A):A.units+64<cLine:=by have:=r.un;lia
theorem Room.units0(r:Room k A):A.units<cLine:=by have:=r.un;lia
def U7:TA:=λ_ H Q=>Q [] H
def xM(ta:TE)(q:TA):TA:=λσ H Q=>ta σ H λx H1=>q σ H1 λxs H2=>Q (x::xs) H2
section
variable {X:Cx}{e:Expr}{es:List Expr}{te:TE}{t:TA}{pos:Pos}
theorem fT:PA X [] U7:=λ_ _ _ _ H Q I h=>Calls.spliced_nil ⟨[],H,I,.nil,h⟩
theorem cR(F:PE X e te)(q:PA X es t)(hs:zag (e::es) X.env=(false,eval e X.env)::zag es X.env:=by rfl):PA X (e::es) (xM te t):=by
 intro pos pins s σ H Q I h;rw[hs];show wpAny _ _ (spliced ((false,eval e X.env)::zaH pos (zag es X.env))) _ _ s;refine Calls.spliced_cons (cK (F pins s σ H _ I h) λu B ⟨x,H1,z,r1,M⟩=>?_);exact cK (q pos pins B σ H1 _ z M) λU N ⟨xs,H2,G,r2,J⟩=>⟨x::xs,H2,G,.cons r1 r2,J⟩
def qbW(t:TA):TE:=λσ H Q=>t σ H λxs H1=>xs.length<=zal/\∀p,H1 p=none->Q (.ref p) (upd H1 p (.tup xs))
def qbF(t:TA):TE:=λσ H Q=>t σ H λxs H1=>xs.length<=zal/\∀p,H1 p=none->Q (.ref p) (upd H1 p (.lst xs))
theorem W8{x1}(h:PA X es t):PE X (.Tuple es x1 pos) (qbW t):=by
 intro pins s σ H Q I J;refine wpAny_Tuple_spliced (cK (h pos pins s σ H _ I J) λM B ⟨xs,H1,F,r,z,q⟩=>⟨by rw[<- r.length];exact z,?_⟩);have G:H1 B.heap.objs.size=none:=F.hok.fresh (zaj _);refine⟨.ref B.heap.objs.size,upd H1 B.heap.objs.size (.tup xs),F.laid (t':=B.toks) (λb u e=>zam _ e) (zaj _) ?_,rfl,q _ G⟩;exact⟨z,M,r,⟨_,zaE _ rfl,rfl,_,rfl,rfl⟩⟩
theorem WX(h:PA X es t):PE X (.List es pos) (qbF t):=by
 intro pins s σ H Q I J;refine wpAny_List_spliced (cK (h pos pins s σ H _ I J) λM B ⟨xs,H1,F,r,z,q⟩=>⟨by rw[<- r.length];exact z,?_⟩);have G:H1 B.heap.objs.size=none:=F.hok.fresh (zaj _);refine⟨.ref B.heap.objs.size,upd H1 B.heap.objs.size (.lst xs),F.laid (t':=B.toks) (λb u e=>zam _ e) (zaj _) ?_,rfl,q _ G⟩;exact⟨z,M,0,r,zaE _ rfl⟩
end
abbrev Sp:=List V->Hp->VK->XK->Prop
abbrev LO:=List Env->Hp->zad->XK->Value->zad->Prop
structure Env0(P:zai)(w:World)(K:zae)(mg:Str->Option Value)(base:Heap)(A:zao)(outer:List Env)(s:zad)(H:Hp):Prop where
 frames:A.frames=some outer
 mod:Mod K mg base
 bs:∀b o,base.get? b=some o->s.heap.get? b=some o/\H b=none
 bsz:base.objs.size<=s.heap.objs.size
 funs:s.heap.FunFrames base outer
 frf:∀b∈frs outer,H b=none
 hok:HOk P w H s.heap
 bare:zbR s.gens
def CE(q:List Env)(P:zai)(w:World)(H:Hp)(s:zad)(Q:VK)(u:Value)(s':zad):Prop:=
 ∃v H',s'.os=s.os/\zbR s'.gens/\Un (frs q) [] H H' s.heap s'.heap/\HOk P w H' s'.heap/\RelV v u/\Q v H'
def CR(CX:LO)(outer:List Env)(P:zai)(w:World)(H:Hp)(s:zad)(Q:VK)(E:XK)(r:Result)(s':zad):Prop:=
 match r with
 | .ok (.ret u)=>CE outer P w H s Q u s'
 | .ok _=>False
 | .error e=>CX outer H s E e s'
structure FnOk(P:zai)(w:World)(K:zae)(mg:Str->Option Value)(base:Heap)(CX:LO)(k:Nat)(f:Addr)(fd:zbe)(ps:List Str)(sp:Sp):Prop where
 len:∀vs H Q E,sp vs H Q E->vs.length=ps.length
 run:∀(A:zao) (outer:List Env) (s:zad) (H:Hp) (args:Args) (us:List Value) (vs:List V) (Q:VK) (E:XK),Room k A->Env0 P w K mg base A outer s H->BindsTo s fd args (ps.zip us)->Vals vs us->sp vs H Q E->
  zbF (model P w) A (.call (.ref f) args) (CR CX outer P w H s Q E) s
theorem FnOk.mono{P:zai}{w:World}{K:zae}{mg:Str->Option Value}{base:Heap}{CX:LO}{j k:Nat}{f:Addr}{fd:zbe}{ps:List Str}{sp:Sp}(F:FnOk P w K mg base CX j f fd ps sp)(h:j<=k) :
  FnOk P w K mg base CX k f fd ps sp:=⟨F.len,λA q s H args B vs Q E z=>F.run A q s H args B vs Q E (z.mono h)⟩
theorem Env0.make{P:zai}{w:World}{K:zae}{mg:Str->Option Value}{base:Heap}{A:zao}{q:List Env}{s:zad}{H:Hp}(e:Env0 P w K mg base A q s H)(C:Addr)(z:List Value)(kw:List (Str×Value)) :
  Env0 P w K mg base (A.under (.builtin "type.__call__" ⟨.ref C::z,kw⟩)) q s H:=⟨by first|exact e.frames|(simpa[Around.under,Code.envs,Code.isFrame,pushEnvs]using e.frames),e.mod,e.bs,e.bsz,e.funs,e.frf,e.hok,e.bare⟩
section
variable {X:Cx}{pins:List (Addr×Obj)}{σ:St}{H:Hp}{s s':zad}
theorem Inv.env0(I:Inv X pins σ H s):Env0 X.prog X.w X.K X.mg X.base X.A X.stack s H:=
 ⟨I.ok.frames,I.ok.mod,I.bs,zaM I.ok.bsz I.sz,I.stack,I.stkFree,I.hok,I.bare⟩
theorem Inv.after(I:Inv X pins σ H s)(h:CE X.stack X.prog X.w H s Q u s'):EP X pins σ Q u s':=by
 obtain⟨v,H',M,B,un,G,r,q⟩:=h;obtain⟨J,g,d,t,F⟩:=s';obtain rfl:F=s.os:=M;exact⟨v,H',I.call (h':=J) (g':=g) (d':=d) (t':=t) (ch:=[]) un G B (λb z=>absurd z (by simp)),r,q⟩
end
def qar(sp:Sp)(dvs:List V)(E:XK)(t:TA):TE:=λσ H Q=>t σ H λvs H1=>sp (vs++dvs) H1 Q E
def qap(C:Addr)(sp:Sp)(dvs:List V)(E:XK)(t:TA):TE:=λσ H Q=>t σ H λvs H1=>∀x dx,H1 x=none->H1 dx=none->dx≠x->
 sp (.ref x::(vs++dvs)) (upd (upd H1 dx (.own x)) x (.ins C dx [])) (λv H2=>v=.non/\Q (.ref x) H2) E
def Binds(K:zae)(fd:zbe)(ps:List Str)(ds:List Value):Prop:=
 ∀(s:zad) (us:List Value),K.In s.heap->(us++ds).length=ps.length->BindsTo s fd ⟨us,[]⟩ (ps.zip (us++ds))
theorem Binds.all{K:zae}{fd:zbe}{ps:List Str}(h:∀q:List Value,q.length=ps.length->bindArgs fd ⟨q,[]⟩=pure (ps.zip q)):Binds K fd ps []:=λs q _ z=>by
 rw[zbw]at z ⊢;exact .of_eq (h q z)
def vF(CX:LO)(X:Cx)(E:XK):Prop:=∀(pins:List (Addr×Obj)) (σ:St) (H:Hp) (s:zad) (e:Value) (s':zad),Inv X pins σ H s->CX X.stack H s E e s'->X.xe e s'
section
variable {X:Cx}{CX:LO}{k:Nat}{f C:Addr}{fd:zbe}{ps:List Str}{sp:Sp}{dvs:List V}{ds:List Value}{E:XK}{x m:Str}{p pos apos:Pos}{e o:Expr}{es:List Expr}{ta:TE}{t:TA}
theorem XW(F:FnOk X.prog X.w X.K X.mg X.base CX k f fd ps sp)(G:Room k X.A)(B:Binds X.K fd ps ds)(hd:Vals dvs ds)(hx:vF CX X E)
  (I:Inv X pins σ H s) (r:Vals vs us) (h:sp (vs++dvs) H Q E):wpAny (model X.prog X.w) X.A (call (.ref f) us) (EP X pins σ Q) X.xe s:=by
 have r2:Vals (vs++dvs) (us++ds):=r.append hd;have z:(us++ds).length=ps.length:=by rw[<- r2.length];exact F.len _ _ _ _ h
 refine wpAny_call (zdg (F.run X.A X.stack s H ⟨us,[]⟩ (us++ds) (vs++dvs) Q E G I.env0 (B s us I.kIn z) r2 h) λr s' q=>?_);cases r with
 | error e=>exact hx pins σ H s e s' I q
 | ok fl=>
  cases fl with
  | ret u=>exact I.after q
  | next=>exact za8 q
  | brk=>exact za8 q
  | cont=>exact za8 q
theorem y9(F:FnOk X.prog X.w X.K X.mg X.base CX k f fd ps sp)(M:Room k X.A)(hg:Gl X x)(hm:X.mg x=some (.ref f))(N:zbG X.K (.ref f)=true)(J:Binds X.K fd ps ds)(hd:Vals dvs ds)(hx:vF CX X E)
  (Y:PA X (e::es) t) (z:(x == ("__debug__" : Str))=false:=by decide) (U:zag (e::es) X.env=(false,eval e X.env)::zag es X.env:=by rfl) (B:(zaH pos (zag es X.env)).any (·.1)=false:=by rfl) :
  PE X (.Call (.Name x p) (e::es) [] pos) (qar sp dvs E t):=by
 intro pins s σ H Q I h;refine zdh (HG I hg hm ?_ z);refine PySem.W.callWith_K (h₀:=X.base) I.ok.mod.kin N (cK (Y pos pins s σ H _ I h) λus s1 ⟨vs,H1,G,r,q⟩=>⟨G.kIn,?_⟩) U B;exact XW F M J hd hx G r q
structure Mk(K:zae)(C f:Addr):Prop where
 makes:zdY K C=true
 init:zbv K (.ref C) "__init__" = some (some (.ref f))
 fn:PySem.W.isFn K (.ref f)=true
 kp:zbG K (.ref C)=true
theorem L6(M:Mk X.K C f)(F:FnOk X.prog X.w X.K X.mg X.base CX k f fd ps sp)(N:Room (k+1) X.A)(G:Binds X.K fd ps ds)(hd:Vals dvs ds)
  (hx:vF CX X E) (I:Inv X pins σ H s) (r:Vals vs us)
  (h:∀x dx,H x=none->H dx=none->dx≠x->sp (.ref x::(vs++dvs)) (upd (upd H dx (.own x)) x (.ins C dx [])) (λv H2=>v=.non/\Q (.ref x) H2) E) :
  wpAny (model X.prog X.w) X.A (call (.ref C) us) (EP X pins σ Q) X.xe s:=by
 have B:=h (s.heap.objs.size+1) s.heap.objs.size (I.hok.fresh (Nat.le_succ _)) (I.hok.fresh (zaj _)) (zaF (zdd _));have z:=Inv.made (C:=C) I;have r2:Vals (V.ref (s.heap.objs.size+1)::(vs++dvs)) (zau (s.heap.objs.size+1)::(us++ds)):=.cons rfl (r.append hd);have J:(zau (s.heap.objs.size+1)::us++ds).length=ps.length:=by
  have e:=r2.length;rw[F.len _ _ _ _ B]at e;exact e.symm
 refine wpAny_call (MX (f:=f) I.kIn M.makes M.init (beq_iff_eq.mp M.fn) (zdg (F.run _ X.stack _ _ ⟨zau (s.heap.objs.size+1)::us,[]⟩ (zau (s.heap.objs.size+1)::(us++ds)) _ _ E (N.make C us [])
  (z.env0.make C us []) (G _ (zau (s.heap.objs.size+1)::us) z.kIn J) r2 B) λr s' q=>?_))
 cases r with
 | error e=>exact hx pins σ _ _ e s' z q
 | ok fl=>
  cases fl with
  | ret u=>
   obtain⟨v,H',Y,U,ev,W⟩:=z.after q;subst ev;exact⟨U,⟨V.ref (s.heap.objs.size+1),H',Y,rfl,W⟩⟩
  | next=>exact za8 q
  | brk=>exact za8 q
  | cont=>exact za8 q
theorem SK(M:Mk X.K C f)(F:FnOk X.prog X.w X.K X.mg X.base CX k f fd ps sp)(N:Room (k+1) X.A)(hg:Gl X x)(hm:X.mg x=some (.ref C))(J:Binds X.K fd ps ds)(hd:Vals dvs ds)(hx:vF CX X E)
  (Y:PA X (e::es) t) (z:(x == ("__debug__" : Str))=false:=by decide) (U:zag (e::es) X.env=(false,eval e X.env)::zag es X.env:=by rfl) (B:(zaH pos (zag es X.env)).any (·.1)=false:=by rfl) :
  PE X (.Call (.Name x p) (e::es) [] pos) (qap C sp dvs E t):=by
 intro pins s σ H Q I h;refine zdh (HG I hg hm ?_ z);refine PySem.W.callWith_K (h₀:=X.base) I.ok.mod.kin M.kp (cK (Y pos pins s σ H _ I h) λus s1 ⟨vs,H1,G,r,q⟩=>⟨G.kIn,?_⟩) U B;exact L6 M F N J hd hx G r q
end
structure FnScope(N P:List Str)(sc:Scope):Prop where
 kind:sc.kind=.function
 co:sc.isCoroutine=false
 gen:sc.isGenerator=false
 nd:N.Nodup
 pre:N.take P.length=P
 par:∀x∈P,sc.names.lookup x=some .local\/sc.names.lookup x=some .cell
 nofree:∀y∈sc.names,y.2≠.free
theorem wW{zbf:Str->Option zbH}:∀ {binds:List (Str×Value)} {m:Str->Option Value},(∀v,(x,v)∉binds)->bindL zbf binds m x=m x
 | [],_,_=>rfl
 | (n,v)::r,m,h=>by
  unfold bindL;rw[wW λw hw=>h w (zap _ hw)];split
  ·have:x≠n:=by rintro rfl;exact h v zar
   simp[this]
  ·rfl
theorem xH{zbf:Str->Option zbH}:∀ {binds:List (Str×Value)} {m:Str->Option Value},(∀v,(x,v)∉binds)->bindC zbf binds m x=m x
 | [],_,_=>rfl
 | (n,v)::r,m,h=>by
  unfold bindC;rw[xH λw hw=>h w (zap _ hw)];split
  ·rfl
  ·have:x≠n:=by rintro rfl;exact h v zar
   simp[this]
theorem xB{zbf:Str->Option zbH}{x:Str}{v:Value}:∀ {P:List Str} {vs:List Value} {i:Nat} {m:Str->Option Value},P.Nodup->P[i]?=some x->vs[i]?=some v->zbf x=some .local->
  bindL zbf (P.zip vs) m x=some v
 | [],_,_,_,_,h,_,_=>by simp at h
 | _::_,[],_,_,_,_,h,_=>by simp at h
 | p::P,w::vs,0,m,nd,h1,h2,hk=>by
  simp at h1 h2;subst h1;subst h2;show bindL zbf ((p,w)::P.zip vs) m p=_;unfold bindL;rw[wW λv q=>(List.nodup_cons.mp nd).1 (zdZ q).1,if_pos hk];simp
 | p::P,w::vs,i+1,m,nd,h1,h2,hk=>by
  show bindL zbf ((p,w)::P.zip vs) m x=_;unfold bindL;exact xB (i:=i) (List.nodup_cons.mp nd).2 (by simpa using h1) (by simpa using h2) hk
theorem wU{zbf:Str->Option zbH}{x:Str}{v:Value}:∀ {P:List Str} {vs:List Value} {i:Nat} {m:Str->Option Value},P.Nodup->P[i]?=some x->vs[i]?=some v->zbf x≠some .local->
  bindC zbf (P.zip vs) m x=some v
 | [],_,_,_,_,h,_,_=>by simp at h
 | _::_,[],_,_,_,_,h,_=>by simp at h
 | p::P,w::vs,0,m,nd,h1,h2,hk=>by
  simp at h1 h2;subst h1;subst h2;show bindC zbf ((p,w)::P.zip vs) m p=_;unfold bindC;rw[xH λv q=>(List.nodup_cons.mp nd).1 (zdZ q).1,if_neg hk];simp
 | p::P,w::vs,i+1,m,nd,h1,h2,hk=>by
  show bindC zbf ((p,w)::P.zip vs) m x=_;unfold bindC;exact wU (i:=i) (List.nodup_cons.mp nd).2 (by simpa using h1) (by simpa using h2) hk
def start(N:List Str)(vs:List V):St:=vs.map some++zcp (N.length-vs.length) none
def jZ(CX:LO)(P:zai)(w:World)(K:zae)(mg:Str->Option Value)(base:Heap)(N:List Str)(q:Str)(scope:Scope)(f:Addr)(B:Value)(A:zao)(outer:List Env)(s:zad)(H:Hp)(E:XK):Cx where
 prog:=P
 w:=w
 K:=K
 mg:=mg
 base:=base
 A:=A.deeper (zaO q scope s.heap.objs.size f B)
 N:=N
 s₀:=s
 H₀:=H
 env:=zaO q scope s.heap.objs.size f B
 outer:=outer
 stack:=zaO q scope s.heap.objs.size f B::outer
 ex:=[]
 calm:=true
 fn:=λ_=>true
 pn:=[]
 xe:=λe s'=>wpAny (model P w) (A.deeper (zaO q scope s.heap.objs.size f B)) (leaving (zaO q scope s.heap.objs.size f B) e) (λ_ z=>CX outer H s E e z) (λF z=>CX outer H s E F z) s'
theorem oF{sc:Scope}{n:Nat}{x:Str}(h:sc.names.lookup x=some .cell):∃c,(zcb n sc.names []).lookup x=some c:=by
 have q:=PySem.W.cellsFrom_some sc.names n [] (.inl h);exact Option.isSome_iff_exists.mp q
theorem K8{CX:LO}{P:zai}{w:World}{K:zae}{mg:Str->Option Value}{base:Heap}{N ps:List Str}{F:Str}{scope:Scope}{f:Addr}{Y:Value}{A:zao}{B:List Env}{s s1:zad}{H:Hp}{E:XK}{us:List Value}{vs:List V}
  (S:FnScope N ps scope) (hd:A.handled=none) (G:Env0 P w K mg base A B s H) (hl:vs.length=ps.length) (r:Vals vs us)
  (x:InCallC s s.heap.objs.size (bindL (zaO F scope s.heap.objs.size f Y).kindOf (ps.zip us) λ_=>none) (zcb (s.heap.objs.size+1) scope.names []) (bindC (zaO F scope s.heap.objs.size f Y).kindOf (ps.zip us) λ_=>none) s1) :
  Inv (jZ CX P w K mg base N F scope f Y A B s H E) [] (start N vs) H s1:=by
 have ag:ps.length<=N.length:=by have:=congrArg zbl S.pre;rw[zbY]at this;lia
 obtain⟨h1,tk,rfl,hk⟩:=x.done;have J:∀b:Addr,b∉(jZ CX P w K mg base N F scope f Y A B s H E).ex:=λb z=>absurd (show b∈([]:List Addr)from z) (by simp)
 refine⟨⟨G.mod,S.kind,rfl,rfl,zaj _,λy z c h1 h2=>?_,λy M=>?_,λy c _ h=>?_,λ_=>hd,Around.frames_deeper G.frames,.inr ⟨rfl,rfl⟩,λb z=>absurd z (J b),G.bs,G.bsz,λb _ _=>J b,λb z=>absurd z (J b),G.funs,G.frf⟩,
  rfl,G.bare,Un.kept hk,⟨_,x.toInCall.ns,λi y v h1 h2 h3=>?_⟩,λy c h=>⟨_,x.cell y c h⟩,G.hok.fresh (zaj _),λy c h=>?_,λp U=>absurd (show p∈([]:List (Addr×Obj))from U) (by simp),G.hok.kept hk,?_⟩
 ·exact name_of_addr x.apart (zcB h1) (zcB h2)
 ·have M:scope.names.lookup y=some .cell\/scope.names.lookup y=some .free:=M
  rcases M with M|M
  ·exact oF M
  ·exact absurd rfl (S.nofree _ (zcB M))
 ·exact Nat.le_of_lt (x.above y c (zcB h))
 ·have hi:i<vs.length:=by
   unfold start at h2;by_cases hi:i<vs.length
   ·exact hi
   ·rw[zdi (by simpa using hi)]at h2
    rw[List.getElem?_replicate]at h2;split at h2 <;> cases h2
  have ha:vs[i]?=some v:=by
   unfold start at h2;rw[zd0 (by simpa using hi),zaA]at h2;cases e:vs[i]? with
   | none=>rw[e]at h2;cases h2
   | some a=>rw[e]at h2;cases h2;rfl
  obtain⟨u,hu,rv⟩:=r.get ha;have U:ps[i]?=some y:=by
   rw[<- S.pre,List.getElem?_take_of_lt (by lia)];exact h1
  have W:ps.Nodup:=by rw[<- S.pre];exact S.nd.sublist (zdj _ _)
  refine⟨u,rv,?_⟩;rcases S.par y (zaw U)with k|k
  ·exact .inl ⟨k,xB W U hu k⟩
  ·obtain⟨c,e⟩:=oF (n:=s.heap.objs.size+1) k
   refine .inr ⟨.inl k,c,e,?_⟩;have q:=x.cell y c e;rw[wU W U hu (by show scope.names.lookup y≠_;rw[k];decide)]at q;exact q
 ·exact G.hok.fresh (Nat.le_of_lt (x.above y c (zcB h)))
 ·unfold start
  show _=N.length;rw[zbb,zah,List.length_replicate]
  lia
theorem Z1{CX:LO}{P:zai}{w:World}{K:zae}{mg:Str->Option Value}{base:Heap}{k:Nat}{f:Addr}{name B:Str}{G:Arguments}{M:List Stmt}{scope:Scope}{dV kV ab pm F ct oc:Value}{an od:Option Addr}
  {af:Array (Option Value)} {N ps:List Str} {sp:Sp} (lk:K.lookup f=some ⟨oc,od,.func (zbg name B G M scope dV kV ab pm an F ct),af⟩) (ae:zcq K F B=true) (S:FnScope N ps scope)
  (ac:∀vs H Q E,sp vs H Q E->vs.length=ps.length)
  (Y:∀(A:zao) (z:List Env) (s:zad) (H:Hp) (vs:List V) (Q:VK) (E:XK), Room k (A.deeper (zaO B scope s.heap.objs.size f F)) -> sp vs H Q E ->
   ∃t,PSs (jZ CX P w K mg base N B scope f F A z s H E) M t/\t {nx:=λ_ H'=>Q .non H',rt:=Q} (start N vs) H) :
  FnOk P w K mg base CX (k+1) f (zbg name B G M scope dV kV ab pm an F ct) ps sp:=by
 refine⟨ac,λA z s H args us vs Q E hr e0 hb r hsp=>?_⟩;have hl:=ac _ _ _ _ hsp;have KX:K.In s.heap:=e0.mod.kin.keeps λb o e=>(e0.bs b o e).1
 have ai:s.heap.NoLimit:=e0.mod.nolimit.keeps λb o e=>(e0.bs b o e).1
 have aa:∀y∈ps.zip us,scope.names.lookup y.1=some .local\/(scope.names.lookup y.1=some .cell/\((zcb (s.heap.objs.size+1) scope.names []).lookup y.1).isSome=true):=by
  rintro⟨n,v⟩ hy;rcases S.par n (zdZ hy).1 with q|q
  ·exact .inl q
  ·exact .inr ⟨q,PySem.W.cellsFrom_some _ _ _ (.inl q)⟩
 refine codeAny_call_function hr.depth (KX _ _ lk) rfl S.co S.gen rfl (PySem.W.codeRec_of KX ae) (hb _ _ _ _ ?_);refine wpAny_newFunctionEnv_cells S.kind aa λenv he s1 x=>?_
 subst he;refine⟨ai.keeps x.toInCall.keep,codeAny_func ?_⟩;obtain⟨t,ht,hq⟩:=Y A z s H vs Q E (hr.deeper _) hsp;have I:Inv (jZ CX P w K mg base N B scope f F A z s H E) [] (start N vs) H s1:=K8 S hr.hd e0 hl r x;refine za7 (ht [] s1 (start N vs) H _ I hq) (λfl s' hs=>?_) λe s' hs=>hs
 have fin:∀ {U:St} {H':Hp} {v:V} {u:Value},Inv (jZ CX P w K mg base N B scope f F A z s H E) [] U H' s'->RelV v u->Q v H'->CE z P w H s Q u s':=
  λ{U H' v u} J rv q=>⟨v,H',J.os,J.bare,J.base,J.hok,rv,q⟩
 cases fl with
 | ret u=>
  obtain⟨v,U,H',J,rv,q⟩:=hs;exact fin J rv q
 | next=>
  obtain⟨U,H',J,q⟩:=hs;exact fin (v:=V.non) (u:=za5) J rfl q
 | brk=>
  obtain⟨_,_,_,q⟩:=hs;exact za8 q
 | cont=>
  obtain⟨_,_,_,q⟩:=hs;exact za8 q
section
variable {X:Cx}{x:Str}{p pos:Pos}{e:Expr}{es:List Expr}{t:TA}{id T:String}{r:List V->Hp->VK->Prop}
def tCB(r:List V->Hp->VK->Prop)(t:TA):TE:=λσ H Q=>t σ H λvs H1=>r vs H1 Q
theorem BJ(U:CallR X (.builtin id) r)(hg:Gl X x)(Y:X.mg x=none)(F:zaG x=some (.builtin id))(N:PA X (e::es) t)(B:x ≠ "__name__" := by decide)(q:(x == ("__debug__" : Str))=false:=by decide)
  (M:zag (e::es) X.env=(false,eval e X.env)::zag es X.env:=by rfl) (z:(zaH pos (zag es X.env)).any (·.1)=false:=by rfl):PE X (.Call (.Name x p) (e::es) [] pos) (tCB r t):=by
 intro pins s σ H Q I h;refine zdh (mX I hg Y F ?_ B q);exact PyProof.Rows.callWith_builtin1 (cK (N pos pins s σ H _ I h) λW J ⟨vs,H1,G,r1,q1⟩=>U pins J σ H1 vs W Q G r1 q1) M z
theorem lP(U:CallR X (.type T) r)(hg:Gl X x)(Y:X.mg x=none)(F:zaG x=some (.type T))(N:PA X (e::es) t)(B:x ≠ "__name__" := by decide)(q:(x == ("__debug__" : Str))=false:=by decide)
  (M:zag (e::es) X.env=(false,eval e X.env)::zag es X.env:=by rfl) (z:(zaH pos (zag es X.env)).any (·.1)=false:=by rfl):PE X (.Call (.Name x p) (e::es) [] pos) (tCB r t):=by
 intro pins s σ H Q I h;refine zdh (mX I hg Y F ?_ B q);exact zcQ (cK (N pos pins s σ H _ I h) λW J ⟨vs,H1,G,r1,q1⟩=>U pins J σ H1 vs W Q G r1 q1) M z
end
end L2
namespace HT
open PySem PyProof.Rows
noncomputable def lexLt:List Int->List Int->Bool
 | [],[]=>false
 | [],_::_=>true
 | _::_,[]=>false
 | x::xs,y::ys=>if x=y then lexLt xs ys else decide (x<y)
theorem ER(x y:Int)(xs ys:List Int):lexLt (x::xs) (y::ys)=if x=y then lexLt xs ys else decide (x<y):=rfl
theorem vX:lexLt [] []=false:=rfl
theorem sN(y:Int)(ys:List Int):lexLt [] (y::ys)=true:=rfl
theorem sO(x:Int)(xs:List Int):lexLt (x::xs) []=false:=rfl
theorem NG(A:zao)(s:zad)(a:Int)(t:Tok)(c:Int)(u:Tok):∃e,zcR A s (.int a t) (.int c u) e/\(e=true↔a=c):=
 ⟨(a == c),SeqAt.EqAt.int_int a t c u,by simp⟩
theorem MK(A:zao)(s:zad)(a:Int)(t:Tok)(c:Int)(u:Tok)(prog:zai)(w:World)(E:Value->zad->Prop)(Q:Value->zad->Prop)(h:Q (.bool (decide (a<c))) s) :
  wpAny (model prog w) A (richCompare .Lt (.int a t) (.int c u)) Q E s:=
 (PyProof.Rows.lt_int h:wpAny (model prog w) A (zaB .Lt (.int a t) (.int c u)) Q E s)
section
open PySem.SeqAt
open PySem.AutoSeq1 (wpAny_loadPart')
open PySem.MeetsSeq PySem.MeetsSeq2 PySem.MeetsSeq3
theorem vW(l b:Addr)(items z:Array Value)(n n2:Nat)(dd ad:Option Addr)(sl ae:Array (Option Value))(ns ms:List Int)(hi:zbh items.toList ns)(hj:zbh z.toList ms) :
  Meets (zb5.«tuple.__lt__» ⟨[.ref l,.ref b],[]⟩)
   (λ_ R s => s.heap.get? l = some {cls := .type "tuple", dict:=dd, data := .seq items n, slots:=sl} /\ s.heap.get? b = some {cls := .type "tuple", dict:=ad, data := .seq z n2, slots:=ae} /\
    R (.ok (.ret (.bool (lexLt ns ms)))) s):=
 .of_wp λprog w A R s h=>by
  obtain⟨hp,g,d,tk,os⟩:=s;obtain⟨hl,hb,h⟩:=h;have f2:=AutoSeq1.sub_tuple_tuple;have z1:items.size=ns.length:=by rw[<- hi.length];simp
  have z2:z.size=ms.length:=by rw[<- hj.length];simp
  wp_walk using zbZ hl,zbZ hb,zcP _ (λrest b s'=>b.1=none/\s'=⟨hp,g,d,tk,os⟩/\∃(vs ws:List Value) (G F:List Int),rest=vs.zip ws /\
   zbh vs G/\zbh ws F/\G.length+z.size=F.length+items.size/\R (.ok (.ret (.bool (lexLt G F)))) ⟨hp,g,d,tk,os⟩) _
  case turn=>
   rintro⟨y,x⟩ rest b s' ⟨Y,rfl,vs,ws,G,F,M,W,J,B,U⟩;cases W with
   | nil=>rw[List.zip_nil_left]at M;cases M
   | cons a t hvi'=>
    cases J with
    | nil=>rw[List.zip_nil_right]at M;cases M
    | cons c u hwi'=>
     rw[zd1]at M;injection M with hyx hrest
     injection hyx with hy hx
     subst hy hx;rw[ER]at U;simp only[zaz]at B;obtain⟨e,he,N⟩:=NG A.in1 ⟨hp,g,d,tk,os⟩ a t c u;refine zaa (he prog w _ _ ?_);cases e with
     | true=>
      rw[if_pos (N.mp rfl)]at U
      wp_walk
      exact⟨rfl,rfl,_,_,_,_,hrest,hvi',hwi',by lia,U⟩
     | false=>
      rw[if_neg (λq=>absurd (N.mpr q) zaC)]at U;have af:=MK A.in1 ⟨hp,g,d,tk,os⟩ a t c u prog w
      wp_walk using af
      exact⟨_,rfl,by simpa using U⟩
  case fin=>
   rintro⟨b1,b2⟩ s' ⟨Y,rfl,vs,ws,G,F,M,W,J,B,U⟩;simp only at Y;subst Y;have hv:lexLt G F=decide (items.size<z.size):=by
    cases W with
    | nil=>
     cases J with
     | nil=>
      simp only[zbx]at B;rw[vX];exact(decide_eq_false (by lia)).symm
     | cons c u hw=>
      simp only[zbx,zaz]at B;rw[sN];exact(decide_eq_true (by lia)).symm
    | cons a t hv=>
     cases J with
     | nil=>
      simp only[zbx,zaz]at B;rw[sO];exact(decide_eq_false (by lia)).symm
     | cons c u hw=>
      rw[zd1]at M;cases M
   rw[hv]at U
   wp_walk
   exact⟨_,rfl,by simpa[Builtin.Tuple.tupleCompareSizes]using U⟩
  case h=>
   exact⟨rfl,rfl,items.toList,z.toList,ns,ms,rfl,hi,hj,by lia,h⟩
end
section
variable {prog:zai}{w:World}{A:zao}{E:Value->zad->Prop}{s:zad}
theorem DX(hl:IsTup s.heap l items)(hb:IsTup s.heap b items2)(hi:zbh items.toList ns)(hj:zbh items2.toList ms)
  (hu:A.units<cLine) (h:Q (.bool (lexLt ns ms)) s):wpAny (model prog w) A (zaB .Lt (.ref l) (.ref b)) Q E s:=by
 obtain⟨⟨cls,dd,data,sl⟩,N,W,n,hd⟩:=id hl;obtain⟨⟨U,M,J,G⟩,z,B,Y,q⟩:=id hb;simp only at W hd B q;subst W hd B q;exact richCompare_meets_room (op:=.Lt) ⟨_,N,rfl⟩ ⟨_,z,rfl⟩ PySem.F.slot_tuple_lt PySem.F.entry_tuple_lt (PySem.F.args_tuple_lt_2 _ _) (vW l b items items2 n Y dd M sl G ns ms hi hj)
  ⟨N,z,show zcM (lexLt ns ms)≠Value.notImplemented/\Q (.bool (lexLt ns ms)) s from⟨(λx=>nomatch x),h⟩⟩ hu
theorem UU(ht:IsTup s.heap t vs.toArray)(hb:IsTup s.heap b ws.toArray)(U:vs≠[])
  (h1:ws=[]->Q (.ref t) s) (h2:ws≠[]->Q (.ref s.heap.objs.size) {s with heap:=s.heap.push {cls:=.type "tuple",data:=.seq (vs++ws).toArray} })
  (hsz:vs.length+ws.length<=zal):wpAny (model prog w) A (zaN .Add (.ref t) (.ref b)) Q E s:=by
 obtain⟨⟨cls,dd,data,sl⟩,J,Y,n,hd⟩:=id ht;obtain⟨⟨W,G,M,F⟩,q,z,N,B⟩:=id hb;simp only at Y hd z B;subst Y hd z B;have e:vs.toArray++ws.toArray=(vs++ws).toArray:=by simp
 by_cases hw:ws=[]
 ·exact concat_meets ⟨_,J,rfl⟩ ⟨_,q,rfl⟩ zd2 seq_tuple_add zd3 zd4 (zd5 _ _)
   (tuple_addW1 t b vs.toArray ws.toArray n N dd G sl F (by simpa using U) (by simp[hw])) ⟨J,q,h1 hw⟩
 ·refine concat_meets ⟨_,J,rfl⟩ ⟨_,q,rfl⟩ zd2 seq_tuple_add zd3 zd4 (zd5 _ _)
   (tuple_addW2 t b vs.toArray ws.toArray n N dd G sl F (by simpa using U) (by simpa using hw) (by rw[zax,zax];exact hsz)) ⟨J,q,?_⟩
  rw[e];exact h2 hw
noncomputable def sIx(n d:Nat):Option Int->Nat
 | none=>d
 | some v=>if v<0 then(v+(n:Int)).toNat else min v.toNat n
theorem XB(n d:Nat)(hd:d<=n)(o:Option Int):sIx n d o<=n:=by
 cases o with
 | none=>exact hd
 | some v=>
  show(if v<0 then(v+(n:Int)).toNat else min v.toNat n)<=n;by_cases q:v<0
  ·rw[if_pos q];lia
  ·rw[if_neg q];exact Nat.min_le_right _ _
theorem GP(v:Int)(n d:Nat):(if v<0 then max (v+(n:Int)) 0 else min v (n:Int))=((sIx n d (some v):Nat):Int):=by
 show(if v<0 then max (v+(n:Int)) 0 else min v (n:Int))=(((if v<0 then(v+(n:Int)).toNat else min v.toNat n):Nat):Int);by_cases q:v<0
 ·simp only[if_pos q];lia
 ·simp only[if_neg q];lia
theorem EF(lo hi:Option Int)(n:Nat):zd6 lo hi 1 (n:Int)=(((sIx n 0 lo:Nat):Int),((sIx n n hi:Nat):Int)):=by
 have h1:¬ ((1:Int)<0):=by lia
 unfold zd6;simp only[h1,if_false];refine Prod.ext ?_ ?_
 ·cases lo with
  | none=>rfl
  | some v=>exact GP v n 0
 ·cases hi with
  | none=>rfl
  | some v=>exact GP v n n
theorem D6(i j:Nat):zdk (i:Int) (j:Int) 1=j-i:=by
 unfold zdk;have h1:(1:Int)>0:=by lia
 simp only[h1,if_true,Int.ediv_one];split <;> lia
theorem sY(p:zbI v o)(h:Q o s):wpAny (model prog w) A (Builtin.Slice.slicePartIndex v) Q E s:=by
 cases p with
 | none=>exact slicePart_none h
 | int i t=>exact slicePart_int h
theorem iH{G:Addr}{B F:Value}{lo hi:Option Int}{n:Nat}{Q:Int×Int×Nat->zad->Prop}(hs:s.heap.IsSliceOf G B F .none)(J:zbI B lo)(N:zbI F hi)
  (h:Q (((sIx n 0 lo:Nat):Int),1,sIx n n hi-sIx n 0 lo) s):wpAny (model prog w) A (Builtin.Slice.sliceApplied (.ref G) (pure (n:Int))) Q E s:=by
 obtain⟨U,q,M,z⟩:=id hs;unfold Builtin.Slice.sliceApplied Builtin.Slice.sliceFields;refine zaa (zaa (zaT q z (x:=B) rfl (zaa (zaT q z (x:=F) rfl (zaa (zaT q z (x:=.none) rfl (zaf ?_)))))));refine zaa (slicePart_none ?_);show wpAny _ _ (if((1:Int) == 0)=true then _ else _) _ _ s;rw[if_neg (by decide)];refine zaa (sY J (zaa (sY N (zaa (zaf ?_)))));show wpAny _ _ (match zd6 lo hi 1 (n:Int)with|(lo,hi)=>pure (lo,(1:Int),zdk lo hi 1)) _ _ s;rw[EF lo hi n];show wpAny _ _ (pure (((sIx n 0 lo:Nat):Int),(1:Int),zdk ((sIx n 0 lo:Nat):Int) ((sIx n n hi:Nat):Int) 1)) _ _ s;rw[D6];exact zaf h
theorem L8(xs:Array Value)(i k:Nat):((zas k).filterMap λ(m:Nat)=>xs[((i:Int)+(m:Int)*1).toNat]?).toArray=((xs.toList.drop i).take k).toArray:=by
 have e:(λ(m:Nat)=>xs[((i:Int)+(m:Int)*1).toNat]?)=λm=>xs[i+m]?:=by
  funext m;have:((i:Int)+(m:Int)*1).toNat=i+m:=by lia
  rw[this]
 rw[e];have:=pick_run xs i k;rw[List.filterMap_map]at this;have q:((λx=>xs[x]?) ∘ λx=>i+x)=λm=>xs[i+m]?:=rfl
 rw[q]at this;rw[this]
theorem nG{t N:Addr}{items:Array Value}{U W:Value}{lo hi:Option Int}{Q:Value->zad->Prop}(B:IsTup s.heap t items)(hs:s.heap.IsSliceOf N U W .none)(Y:zbI U lo)(pu:zbI W hi)
  (hw:¬ (sIx items.size 0 lo=0/\sIx items.size items.size hi=items.size))
  (h:Q (.ref s.heap.objs.size) {s with heap:=s.heap.push {cls:=.type "tuple",data:=.seq ((items.toList.drop (sIx items.size 0 lo)).take (sIx items.size items.size hi-sIx items.size 0 lo)).toArray} })
  (hsz:items.size<=zal):wpAny (model prog w) A (zby (.ref t) (.ref N)) Q E s:=by
 have z:sizeOk (.seq ((items.toList.drop (sIx items.size 0 lo)).take (sIx items.size items.size hi-sIx items.size 0 lo)).toArray):=by
  show((items.toList.drop (sIx items.size 0 lo)).take (sIx items.size items.size hi-sIx items.size 0 lo)).toArray.size<=zal;rw[zax,zbY,zd7,zbT]
  lia
 have hj:sIx items.size items.size hi<=items.size:=XB _ _ (zaj _) hi;obtain⟨os,G,J,ac⟩:=id hs;have F:s.TypeIs (.ref N) "slice" := ⟨os,G,J⟩;unfold zby
 try with_reducible refine zbD ?_
 first|refine zaa (zaf ?_)|skip
 refine zaa (wpAny_sequenceKey B.typeIs (by decide) ?_);refine zaa (zbJ (name:=zbi "__getitem__") B.typeIs zdl
  (zbj zdl B.typeIs entry_tuple_getitem ?_ (args_tuple_getitem _ _)))
 show wpAny _ _ (zdP (.ref t) >>= _) _ _ s;refine zaa (tupleItemsOf_ B ?_);refine zaa (zcC F ?_);rw[if_pos (by decide)];refine zaa (iH hs Y pu ?_);have M:¬ ((((sIx items.size 0 lo:Nat):Int) == 0 && (1:Int) == 1 && (sIx items.size items.size hi-sIx items.size 0 lo) == items.size)=true):=by
  intro q;rw[zaS,zaS]at q;have q1:((sIx items.size 0 lo:Nat):Int)=0:=eq_of_beq q.1.1;have q2:sIx items.size items.size hi-sIx items.size 0 lo=items.size:=eq_of_beq q.2;exact hw ⟨by lia,by lia⟩
 show wpAny _ _ (if(((sIx items.size 0 lo:Nat):Int) == 0 && (1:Int) == 1 && (sIx items.size items.size hi-sIx items.size 0 lo) == items.size)=true then _ else _) _ _ s;rw[if_neg M,L8]
 first
  | exact zaa (m:=zdm _) (zbK (zaf ⟨_,rfl,zaf h⟩) z)
  | exact zaa (m:=zdm _) (zbK (zaa (zaf (zaf ⟨_,rfl,zaf h⟩))) z)
  | exact zaa (zaa (m:=zdm _) (zbK (zaf (zaf ⟨_,rfl,zaf h⟩)) z))
  | exact zaa (zaa (m:=zdm _) (zbK (zaf ⟨_,rfl,zaf h⟩) z))
end
end HT
namespace L2
open PySem PySem.Spec PyProof.Rows
abbrev TO:=St->Hp->(Option Int->Hp->Prop)->Prop
def PO(X:Cx)(e:Option Expr)(t:TO):Prop:=
 ∀(pins:List (Addr×Obj)) (s:zad) (σ:St) (H:Hp) (Q:Option Int->Hp->Prop),Inv X pins σ H s->t σ H Q->
  wpAny (model X.prog X.w) X.A (evalPart e X.env) (λu s'=>∃o H',Inv X pins σ H' s'/\zbI u o/\Q o H') X.xe s
def TV:TO:=λ_ H Q=>Q none H
def qav(t:TE):TO:=λσ H Q=>t σ H λx H1=>∃i,x=.int i/\Q (some i) H1
theorem intsAre_of:∀ {q:List Value},Vals (ns.map V.int) q->zbh q ns:=by
 induction ns with
 | nil=>intro q r;rw[zb0]at r;cases r;exact .nil
 | cons n ns ih=>
  intro q r;rw[zak]at r;cases r with
  | cons r1 r2=>
   obtain⟨t,e⟩:=r1;subst e;exact .cons n t (ih r2)
section
variable {X:Cx}{e:Expr}{te:TE}{lo hi:Option Expr}{tl th:TO}{pos p2:Pos}
theorem SE:PO X none TV:=by
 intro pins s σ H Q I h;rw[evalPart_none];exact zaf ⟨none,H,I,.none,h⟩
theorem Q7(h:PE X e te):PO X (some e) (qav te):=by
 intro pins s σ H Q I hw;rw[evalPart_some];refine cK (h pins s σ H _ I hw) λu F ⟨x,H1,B,r1,z⟩=>?_
 obtain⟨i,rfl,q⟩:=z;obtain⟨t,rfl⟩:=r1;exact⟨some i,H1,B,.int i t,q⟩
def SlR(X:Cx)(r:V->Option Int->Option Int->Hp->VK->Prop):Prop:=
 ∀(pins:List (Addr×Obj)) (s:zad) (σ:St) (H:Hp) (x:V) (v vl vu:Value) (lo hi:Option Int) (sl:Addr) (Q:VK),Inv X pins σ H s->RelV x v->s.heap.IsSliceOf sl vl vu .none->zbI vl lo->zbI vu hi->r x lo hi H Q->
  ∃T id,typeLookup (.type T) "__getitem__" = pure (some (.builtin id))/\s.TypeIs v T/\wpAny (model X.prog X.w) X.A (zby v (.ref sl)) (EP X pins σ Q) X.xe s
theorem SlR.or(h:SlR X r)(h':SlR X r'):SlR X (λx lo hi H Q=>r x lo hi H Q\/r' x lo hi H Q):=by
 intro pins s σ H x v z F lo hi J Q I G hs B M q;rcases q with q|q
 ·exact h pins s σ H x v z F lo hi J Q I G hs B M q
 ·exact h' pins s σ H x v z F lo hi J Q I G hs B M q
def tSl(r:V->Option Int->Option Int->Hp->VK->Prop)(te:TE)(tl th:TO):TE:=λσ H Q=>te σ H λx H1=>tl σ H1 λl H2=>th σ H2 λu q=>r x l u q Q
theorem LY(hr:SlR X r)(W:PE X e te)(J:PO X lo tl)(N:PO X hi th):PE X (.Subscript e (.Slice lo hi none p2) pos) (tSl r te tl th):=by
 intro pins s σ H Q I h;refine Subscript_ (cK (W pins s σ H _ I h) λv s1 ⟨x,H1,M,r1,q1⟩=>?_);refine wpAny_Slice (cK (J pins s1 σ H1 _ M q1) λB s2 ⟨l,H2,I2,pl,q2⟩=>cK (N pins s2 σ H2 _ I2 q2) λF z ⟨u,G,I3,Y,q3⟩=>?_);rw[evalPart_none];refine zaf ?_;have I4:Inv X pins σ G {z with heap:=z.heap.push {cls:=.type "slice",data:=.fields #[B,F,.none]} }:=I3.kept (t':=z.toks) λb ob q=>zam _ q
 obtain⟨T,id,hT,U,hg⟩:=hr pins {z with heap:=z.heap.push {cls:=.type "slice",data:=.fields #[B,F,.none]} } σ G x v B F l u z.heap.objs.size Q I4 r1 (Heap.IsSliceOf.new ..) pl Y q3;show wpAny (model X.prog X.w) X.A (subscriptTail e (.Slice lo hi none p2) v (.ref z.heap.objs.size)) (EP X pins σ Q) X.xe {z with heap:=z.heap.push {cls:=.type "slice",data:=.fields #[B,F,.none]} };exact tail_any (ops:=[.ref z.heap.objs.size,v]) U hT hg (by with_unfolding_all rfl)
def v5(xs:List V)(lo hi:Option Int):List V:=(xs.drop (HT.sIx xs.length 0 lo)).take (HT.sIx xs.length xs.length hi-HT.sIx xs.length 0 lo)
theorem pT(xs:List V)(lo hi:Option Int):(v5 xs lo hi).length<=xs.length:=by
 unfold v5;rw[zbY,zd7]
 lia
def qaR(K:zae):V->Option Int->Option Int->Hp->VK->Prop:=λx lo hi H Q=>∃a xs,x=.ref a/\SqT K H a xs /\
 ¬ (HT.sIx xs.length 0 lo=0/\HT.sIx xs.length xs.length hi=xs.length)/\∀p,H p=none->Q (.ref p) (upd H p (.tup (v5 xs lo hi)))
theorem WV:SlR X (qaR X.K):=by
 intro pins s σ H x v U W lo hi Y Q I M hs J N h;obtain⟨a,xs,rfl,hx,hw,q⟩:=h;cases M;obtain⟨B,r,F,G⟩:=I.tuple hx;have z:B.toArray.size=xs.length:=by rw[zax];exact r.length.symm
 refine⟨"tuple",_,PyProof.Rows.slot_tuple_getitem.lookup,F.typeIs,?_⟩;refine HT.nG F hs J N (by rw[z];exact hw) ?_ (by rw[z];exact G);rw[z];refine⟨.ref s.heap.objs.size,_,I.laid (t':=s.toks) (o:=.tup (v5 xs lo hi)) (λb ob q=>zam _ q) (zaj _) ?_,rfl,q _ (I.hok.fresh (zaj _))⟩;exact⟨zaM (pT xs lo hi) G,_,(r.drop (HT.sIx xs.length 0 lo)).take (HT.sIx xs.length xs.length hi-HT.sIx xs.length 0 lo),IsTupN.new _ _⟩
def qbI(K:zae):R2:=λx y H Q=>∃a b ns ms,x=.ref a/\y=.ref b/\SqT K H a (ns.map V.int)/\SqT K H b (ms.map V.int)/\Q (.bl (HT.lexLt ns ms)) H
theorem YZ(J:X.A.units<cLine):OpR X (zaB .Lt) (qbI X.K):=by
 intro pins s σ H x y v u Q I U Y h;obtain⟨a,b,ns,ms,rfl,rfl,M,F,q⟩:=h;cases U;cases Y;obtain⟨B,r1,N,_⟩:=I.tuple M;obtain⟨z,r2,p2,_⟩:=I.tuple F;have G:zbh B.toArray.toList ns:=intsAre_of r1;have W:zbh z.toArray.toList ms:=intsAre_of r2;exact HT.DX N p2 G W J ⟨.bl (HT.lexLt ns ms),H,I,rfl,q⟩
def qaA(K:zae):R2:=λx y H Q=>∃a b xs ys,x=.ref a/\y=.ref b/\SqT K H a xs/\SqT K H b ys/\xs≠[]/\xs.length+ys.length<=zal /\
 (ys=[]->Q (.ref a) H)/\(ys≠[]->∀p,H p=none->Q (.ref p) (upd H p (.tup (xs++ys))))
theorem Vals.nil_iff(r:Vals xs us):us=[]↔xs=[]:=by
 cases r with
 | nil=>simp
 | cons _ _=>simp
theorem SQ:OpR X (zaN .Add) (qaA X.K):=by
 intro pins s σ H x y v u Q I U Y h;obtain⟨a,b,xs,ys,rfl,rfl,M,J,hx,B,q1,W⟩:=h;cases U;cases Y;obtain⟨G,r1,N,_⟩:=I.tuple M;obtain⟨F,r2,p2,_⟩:=I.tuple J;refine HT.UU N p2 (λz=>hx (r1.nil_iff.mp z)) (λz=>⟨.ref a,H,I,rfl,q1 (r2.nil_iff.mp z)⟩) (λz=>?_) (by rw[<- r1.length,<- r2.length];exact B);refine⟨.ref s.heap.objs.size,_,I.laid (t':=s.toks) (o:=.tup (xs++ys)) (λb ob q=>zam _ q) (zaj _) ?_,rfl,W (λw=>z (r2.nil_iff.mpr w)) _ (I.hok.fresh (zaj _))⟩;exact⟨by rw[zbb];exact B,_,r1.append r2,IsTupN.new _ _⟩
end
noncomputable def Q1(n:Nat)(i:Int):Option Nat:=if 0<=i then(if i<n then some i.toNat else none)else if -(n:Int)<=i then some (i+n).toNat else none
def gE{α:Type}(xs:List α)(i:Int):Option α:=(Q1 xs.length i).bind λj=>xs[j]?
theorem GH(h:Q1 n i=some j):seqIndex? i n=some j/\j<n/\-(n:Int)<=i/\i<n:=by
 unfold Q1 at h;by_cases q:0<=i
 ·rw[if_pos q]at h
  by_cases h1:i<n
  ·rw[if_pos h1]at h
   have e:i.toNat=j:=zay h;exact⟨by rw[seqIndex_of q h1,e],by lia,by lia,h1⟩
  ·rw[if_neg h1]at h;cases h
 ·rw[if_neg q]at h
  by_cases h1:-(n:Int)<=i
  ·rw[if_pos h1]at h
   have e:(i+n).toNat=j:=zay h;exact⟨by rw[seqIndex_neg (by lia) h1,e],by lia,h1,by lia⟩
  ·rw[if_neg h1]at h;cases h
theorem yX{q:Type}{xs:List q}{i:Int}{v:q}(h:gE xs i=some v):∃j,seqIndex? i xs.length=some j/\xs[j]?=some v/\j<xs.length/\-(xs.length:Int)<=i/\i<xs.length:=by
 unfold gE at h;cases e:Q1 xs.length i with
 | none=>rw[e]at h;cases h
 | some j=>
  rw[e]at h;obtain⟨h1,h2,B,z⟩:=GH e;exact⟨j,h1,h,h2,B,z⟩
theorem bV{q:Type}{xs:List q}{j:Nat}{v:q}(h:xs[j]?=some v):gE xs (j:Int)=some v:=by
 have z:j<xs.length:=(List.getElem?_eq_some_iff.mp h).1;have e:Q1 xs.length (j:Int)=some j:=by
  unfold Q1;rw[if_pos (by lia),if_pos (by lia)];simp
 unfold gE;rw[e];exact h
def yQ(b:Expr):Prop:=∀o i,zdn b false o i=operate [o,i] (zby o i)
def IxR(X:Cx)(r:R2):Prop:=
 ∀(value slice:Expr) (pins:List (Addr×Obj)) (s:zad) (σ:St) (H:Hp) (x y:V) (v u:Value) (Q:VK),Inv X pins σ H s->RelV x v->RelV y u->r x y H Q->
  zdn slice false v u=operate [v,u] (zby v u)->wpAny (model X.prog X.w) X.A (subscriptTail value slice v u) (EP X pins σ Q) X.xe s
def MtR(X:Cx)(id:String)(r:V->List V->Hp->VK->Prop):Prop:=
 ∀(pins:List (Addr×Obj)) (s:zad) (σ:St) (H:Hp) (x:V) (xs:List V) (v:Value) (us:List Value) (Q:VK),Inv X pins σ H s->RelV x v->Vals xs us->r x xs H Q->
  wpAny (model X.prog X.w) X.A (call (.builtin id) (v::us)) (EP X pins σ Q) X.xe s
section
variable {X:Cx}{a b:Expr}{ta tb:TE}{pos:Pos}
theorem IxR.or(h:IxR X r)(h':IxR X r'):IxR X (λx y H Q=>r x y H Q\/r' x y H Q):=by
 intro value z pins s σ H x y v u Q I B F q hs;rcases q with q|q
 ·exact h value z pins s σ H x y v u Q I B F q hs
 ·exact h' value z pins s σ H x y v u Q I B F q hs
theorem MtR.or{id:String}{r B:V->List V->Hp->VK->Prop}(h:MtR X id r)(h':MtR X id B):MtR X id (λx xs H Q=>r x xs H Q\/B x xs H Q):=by
 intro pins s σ H x xs v F Q I z rs q;rcases q with q|q
 ·exact h pins s σ H x xs v F Q I z rs q
 ·exact h' pins s σ H x xs v F Q I z rs q
theorem qv(B:IxR X r)(G:PE X a ta)(z:PE X b tb)(hs:yQ b):PE X (.Subscript a b pos) (tOp r ta tb):=by
 intro pins s σ H Q I h;exact Subscript_ (ZD G z I h λv u F x y H2 J M N q=>B a b pins F σ H2 x y v u Q J M N q (hs _ _))
def qa1(K:zae):R2:=λx y H Q=>∃p xs i v,x=.ref p/\y=.int i/\SqL K H p xs/\gE xs i=some v/\Q v H
def qaG(K:zae):R2:=λx y H Q=>∃p xs i v,x=.ref p/\y=.int i/\SqT K H p xs/\gE xs i=some v/\Q v H
def qaZ:R2:=λx y H Q=>∃z i c,x=.str z/\y=.int i/\z.length<=zal/\gE z.cps.toList i=some c/\Q (.str ⟨#[c]⟩) H
theorem SG:IxR X (qa1 X.K):=by
 intro value J pins s σ H x y v u Q I rx ry h hs;obtain⟨p,xs,i,z,rfl,rfl,W,he,q⟩:=h;cases rx;obtain⟨t,rfl⟩:=ry;obtain⟨B,r,M,hz⟩:=I.list W;obtain⟨j,h1,h2,h3,h4,h5⟩:=yX he;obtain⟨w,N,F⟩:=r.get h2;have Y:=r.length;have hn:=u9;have fin:EP X pins σ Q w s:=⟨z,H,I,F,q⟩;by_cases U:0<=i
 ·have G:i.toNat=j:=by
   rw[seqIndex_of U h5]at h1;exact zay h1
  exact item_listR M.isList U (by lia) (by rw[G];simpa using N) fin hs
 ·have G:(i+(B.toArray.size:Int)).toNat=j:=by
   rw[seqIndex_neg (by lia) h4]at h1;rw[zax,<- Y];exact zay h1
  exact subscriptTail_builtinR (x:=w) M.isList.typeIs slot_list_getitem.lookup
   (wpAny_getItem_list_neg (Q:=λr s'=>r=w/\EP X pins σ Q r s') M.isList (by lia) (by rw[zax] <;> lia) (by lia) (by rw[G];simpa using N) ⟨rfl,fin⟩) hs
theorem YV:IxR X (qaG X.K):=by
 intro value F pins s σ H x y v u Q I Y ry h hs;obtain⟨p,xs,i,z,rfl,rfl,N,W,q⟩:=h;cases Y;obtain⟨t,rfl⟩:=ry;obtain⟨J,r,G,hz⟩:=I.tuple N;obtain⟨j,h1,h2,h3,h4,h5⟩:=yX W;obtain⟨w,M,B⟩:=r.get h2;have U:=r.length;have hn:=u9;have fin:EP X pins σ Q w s:=⟨z,H,I,B,q⟩;exact subscriptTail_builtinR (x:=w) G.typeIs slot_tuple_getitem.lookup
  (getItem_tuple (j:=j) (Q:=λr s'=>r=w/\EP X pins σ Q r s') G (by lia) (by lia) (by rw[zax,<- U];exact h1) (by simpa using M) ⟨rfl,fin⟩) hs
theorem XJ:IxR X qaZ:=by
 intro value B pins s σ H x y v u Q I U M h hs;obtain⟨z,i,c,rfl,rfl,hz,G,q⟩:=h;obtain⟨t,rfl⟩:=U;obtain⟨t',rfl⟩:=M;obtain⟨j,h1,h2,h3,Y,W⟩:=yX G;have F:z.cps.toList.length=z.length:=by simp[Str.length]
 rw[F]at h1 Y W;have hn:=u9;exact tail_any (typeIs_str s z t) slot_str_getitem.lookup (getItem_str (c:=c) (by
  have J:decide (i < -(2^63:Int))=false:=decide_eq_false (by lia);have N:decide (i ≥ 2^63)=false:=decide_eq_false (by lia);rw[J,N,Bool.or_false]) (by rw[h1];simpa using h2) ⟨.str ⟨#[c]⟩,H,I.tok _,⟨_,rfl⟩,q⟩) hs
def rIx(K:zae):R2:=λx y H Q=>qa1 K x y H Q\/qaG K x y H Q\/qaZ x y H Q
theorem YG:IxR X (rIx X.K):=SG.or (YV.or XJ)
theorem D0(q:List Value)(n j:Nat)(u:Value):zcS (·.setIfInBounds j u) {cls:=.type "list",data:=.seq q.toArray n}={cls:=.type "list",data:=.seq (q.set j u).toArray n}:=by
 simp[zcS]
theorem Inv.lst{pins:List (Addr×Obj)}{σ:St}{H:Hp}{s:zad}{p:Addr}{xs:List V}(I:Inv X pins σ H s)(h:H p=some (.lst xs)) :
  ∃(q:List Value) (n:Nat),Vals xs q/\s.heap.get? p=some {cls:=.type "list",data:=.seq q.toArray n}/\xs.length<=zal:=by
 obtain⟨z,q,n,r,e⟩:=I.hok p _ h;exact⟨q,n,r,e,z⟩
theorem Inv.lstUpd{pins:List (Addr×Obj)}{xs ys:List V}{z its':List Value}{n B:Nat}{f:Obj->Obj}(I:Inv X pins σ H s)(h:H p=some (.lst xs))
  (J:s.heap.get? p=some {cls:=.type "list",data:=.seq z.toArray n}) (F:f {cls:=.type "list",data:=.seq z.toArray n}={cls:=.type "list",data:=.seq its'.toArray B}) (r:Vals ys its') (M:ys.length<=zal) (t:Nat) :
  Inv X pins σ (upd H p (.lst ys)) {s with heap:=s.heap.update p f,toks:=t}:=by
 have e:(s.heap.update p f).get? p=some {cls:=.type "list",data:=.seq its'.toArray B}:=by
  rw[zd8 f J (by rw[F] <;> rfl),F]
 refine I.write (x:=p) (e:=p) (by rw[h];trivial) (.inl rfl) (λb u G q=>(Heap.get?_update_other _ _ (zaW G)).trans q) ⟨_,e⟩ ?_;exact⟨M,its',B,r,e⟩
def qaf:V->V->V->Hp->(Hp->Prop)->Prop:=λo i v H Q=>∃p xs k j,o=.ref p/\i=.int k/\H p=some (.lst xs)/\Q1 xs.length k=some j/\Q (upd H p (.lst (xs.set j v)))
theorem set_list:U1 X qaf:=by
 intro pins s σ H o i v ov iv u Q I ro ri rv h;obtain⟨p,xs,k,j,rfl,rfl,N,hj,q⟩:=h;cases ro;obtain⟨t,rfl⟩:=ri;obtain⟨z,n,r,G,hz⟩:=I.lst N;obtain⟨h1,h2,J,U⟩:=GH hj;have B:=r.length;have hn:=u9;have Y:Inv X pins σ (upd H p (.lst (xs.set j v))) {s with heap:=s.heap.update p (zcS (·.setIfInBounds j u))}:=
  I.lstUpd N G (D0 z n j u) (r.set rv j) (by rw[zcT];exact hz) s.toks
 by_cases M:0<=k
 ·have F:k.toNat=j:=by
   rw[seqIndex_of M U]at h1;exact zay h1
  exact PySem.W.ki_setAt G M (by lia) (by rw[zax,<- B];exact U) (by rw[F];exact⟨_,Y,q⟩)
 ·have F:(k+(z.toArray.size:Int)).toNat=j:=by
   rw[seqIndex_neg (by lia) J]at h1;rw[zax,<- B];exact zay h1
  exact PySem.W.ki_setBack G (by lia) (by rw[zax,<- B];exact J) (by lia) (by rw[F];exact⟨_,Y,q⟩)
theorem xU(lo hi:Option Int)(n:Nat):(zbL lo hi none n).1=((HT.sIx n 0 lo:Nat):Int)/\(zbL lo hi none n).2.1=((HT.sIx n n hi:Nat):Int)/\(zbL lo hi none n).2.2=1:=by
 refine⟨?_,?_,rfl⟩
 ·cases lo with
  | none=>simp[zbL,HT.sIx]
  | some i=>
   simp only[zbL,HT.sIx,Option.getD_none,show(1:Int)>0 by decide,if_true];by_cases h:i<0
   ·simp only[h,if_true] <;> lia
   ·simp only[h,if_false] <;> lia
 ·cases hi with
  | none=>simp[zbL,HT.sIx]
  | some i=>
   simp only[zbL,HT.sIx,Option.getD_none,show(1:Int)>0 by decide,if_true];by_cases h:i<0
   ·simp only[h,if_true] <;> lia
   ·simp only[h,if_false] <;> lia
theorem vY(q:List Value)(lo hi:Option Int):slicePick q.toArray lo hi none=((q.drop (HT.sIx q.length 0 lo)).take (HT.sIx q.length q.length hi-HT.sIx q.length 0 lo)).toArray:=by
 obtain⟨h1,h2,z⟩:=xU lo hi q.toArray.size;unfold slicePick;rw[h1,h2,z];simp only[sliceRange_one,pick_run,zax] <;> rfl
def qb1(K:zae):V->Option Int->Option Int->Hp->VK->Prop:=λx lo hi H Q=>∃a xs,x=.ref a/\SqL K H a xs/\∀p,H p=none->Q (.ref p) (upd H p (.lst (v5 xs lo hi)))
theorem TZ:SlR X (qb1 X.K):=by
 intro pins s σ H x v U W lo hi Y Q I J hs G M h;obtain⟨a,xs,rfl,hx,q⟩:=h;cases J;obtain⟨F,r,B,N⟩:=I.list hx;have z:=r.length;refine⟨"list",_,slot_list_getitem.lookup,B.isList.typeIs,?_⟩;refine wpAny_getItem_list_slice B.isList hs G M .none (by simp) ?_ (by rw[zax] <;> lia);rw[vY,<- z];refine⟨.ref s.heap.objs.size,_,I.laid (t':=s.toks) (o:=.lst (v5 xs lo hi)) (λb ob q=>zam _ q) (zaj _) ?_,rfl,q _ (I.hok.fresh (zaj _))⟩;exact⟨zaM (pT xs lo hi) N,_,0,(r.drop (HT.sIx xs.length 0 lo)).take (HT.sIx xs.length xs.length hi-HT.sIx xs.length 0 lo),zaE _ rfl⟩
theorem x8:OpR X (zaB .NotIn) (λx y H Q=>∃i j,x=.str i/\y=.str j/\Q (.bl (!(!(Builtin.Str.occurrences j i 0 j.length 1).isEmpty))) H):=by
 intro pins s σ H x y v u Q I z B h;obtain⟨i,j,rfl,rfl,q⟩:=h;obtain⟨t,rfl⟩:=z;obtain⟨t',rfl⟩:=B;exact notIn_str ⟨.bl _,H,I,rfl,q⟩
theorem CallR.or(h:CallR X f r)(h':CallR X f r'):CallR X f (λxs H Q=>r xs H Q\/r' xs H Q):=by
 intro pins s σ H xs z Q I rs q;rcases q with q|q
 ·exact h pins s σ H xs z Q I rs q
 ·exact h' pins s σ H xs z Q I rs q
theorem yB:CallR X (.type "list") (λxs H Q=>∃p ys,xs=[.ref p]/\(SqL X.K H p ys\/SqT X.K H p ys)/\∀l,H l=none->Q (.ref l) (upd H l (.lst ys))):=by
 intro pins s σ H xs us Q I r h;obtain⟨p,ys,rfl,G,q⟩:=h;obtain⟨u,rfl,rx⟩:=vals1 r;cases rx;have fin:∀(z:List Value),Vals ys z->ys.length<=zal->∀(h':Heap) (F:Nat),(∀b o',s.heap.get? b=some o'->h'.get? b=some o')->
   h'.get? s.heap.objs.size=some {cls:=.type "list",dict:=none,data:=.seq z.toArray F,slots:=#[]}->EP X pins σ Q (.ref s.heap.objs.size) {s with heap:=h'}:=λz B N h' F J e=>
  ⟨.ref s.heap.objs.size,_,I.laid (t':=s.toks) J (zaj _) (show ObjOk X.prog X.w _ h' _ (.lst ys)from⟨N,z,F,B,e⟩),rfl,q _ (I.hok.fresh (zaj _))⟩
 rcases G with G|G
 ·obtain⟨z,B,W,N⟩:=I.list G
  have M:=B.length;obtain⟨o,U,Y,n,hd⟩:=W.isList;exact call_list_seq p (.inl rfl) U Y hd (λh' F J e=>fin z B N h' F J e) (by simp only[zax] <;> lia)
 ·obtain⟨z,B,W,N⟩:=I.tuple G
  have M:=B.length;obtain⟨o,U,Y,n,hd⟩:=W;exact call_list_seq p (.inr rfl) U Y hd (λh' F J e=>fin z B N h' F J e) (by simp only[zax] <;> lia)
theorem vZ:CallR X (.type "tuple") (λxs H Q=>∃p ys,xs=[.ref p]/\((SqL X.K H p ys/\∀l,H l=none->Q (.ref l) (upd H l (.tup ys)))\/(SqT X.K H p ys/\Q (.ref p) H))):=by
 intro pins s σ H xs us Q I r h;obtain⟨p,ys,rfl,h⟩:=h;obtain⟨u,rfl,W⟩:=vals1 r;cases W;rcases h with⟨B,q⟩|⟨B,q⟩
 ·obtain⟨z,G,F,N⟩:=I.list B
  have M:=G.length;refine call_tuple_list F.isList (λh' U=>?_) (by simp only[zax] <;> lia);have J:Inv X pins σ H {s with heap:=h'}:=I.kept (t':=s.toks) U;have Y:Inv X pins σ (upd H h'.objs.size (.tup ys)) {s with heap:=h'.push {cls:=.type "tuple",data:=.seq z.toArray} }:=
   J.laid (t':=s.toks) (λb o e=>zam _ e) (zaj _) (show ObjOk X.prog X.w _ _ _ (.tup ys)from⟨N,z,G,IsTupN.new _ _⟩)
  exact⟨.ref h'.objs.size,_,Y,rfl,q _ (J.hok.fresh (zaj _))⟩
 ·obtain⟨z,G,F,N⟩:=I.tuple B
  exact call_tuple_same F ⟨.ref p,H,I,rfl,q⟩
def tyV(K:zae)(T:String)(x:V)(H:Hp):Prop:=match x with
 | .str _=>T = "str"
 | .int _=>T = "int"
 | .ref p=>(T = "list" /\ ∃xs,SqL K H p xs)\/(T = "tuple" /\ ∃o,K.lookup p=some o/\o.cls=.type "tuple" /\ o.dict=none) \/
   (T = "dict" /\ ((∃kvs,H p=some (.dK kvs))\/∃kvs,H p=some (.dT kvs)))\/(T = "set" /\ ∃S n,H p=some (.set S n))
 | _=>False
theorem W1(I:Inv X pins σ H s)(r:RelV x v)(ty:tyV X.K T x H) :
  s.TypeIs v T/\∀a,v=.ref a->∃G,s.heap.get? a=some G/\G.dict=none:=by
 cases x with
 | str z=>
  obtain⟨t,rfl⟩:=r;cases(show T = "str" from ty);exact⟨typeIs_str s z t,λ_ e=>nomatch e⟩
 | int i=>
  obtain⟨t,rfl⟩:=r;cases(show T = "int" from ty);exact⟨typeIs_int s i t,λ_ e=>nomatch e⟩
 | ref p=>
  cases r;rcases ty with⟨rfl,xs,M⟩|⟨rfl,o,q,N,hd⟩|⟨rfl,q⟩|⟨rfl,S,n,q⟩
  ·obtain⟨J,_,F,_⟩:=I.list M
   refine⟨F.isList.typeIs,λa e=>?_⟩;cases e;obtain⟨o,n,e,c,hd,_⟩:=F;exact⟨o,e,hd⟩
  ·refine⟨⟨o,I.kIn p o q,N⟩,λa e=>?_⟩
   cases e;exact⟨o,I.kIn _ o q,hd⟩
  ·have z:∃o,s.heap.get? p=some o/\o.ExactDict:=by
    rcases q with⟨kvs,q⟩|⟨kvs,q⟩
    ·obtain⟨_,_,_,_,o,_,_,e,ex,_⟩:=I.hok p _ q
     exact⟨o,e,ex⟩
    ·obtain⟨_,_,_,_,o,_,_,e,ex,_⟩:=I.hok p _ q
     exact⟨o,e,ex⟩
   obtain⟨o,e,ex⟩:=z;refine⟨⟨o,e,ex.1⟩,λa B=>?_⟩;cases B;exact⟨o,e,ex.2.1⟩
  ·obtain⟨o,_,_,_,e,ex,_⟩:=I.hok p _ q
   refine⟨⟨o,e,ex.1⟩,λa B=>?_⟩;cases B;exact⟨o,e,ex.2.1⟩
 | _=>exact za8 ty
def ZP(K:zae)(T:String)(r:V->List V->Hp->VK->Prop)(to:TE)(t:TA):TE:=λσ H Q=>to σ H λx H1=>tyV K T x H1/\t σ H1 λxs H2=>r x xs H2 Q
variable {o e:Expr}{es:List Expr}{to:TE}{t:TA}{name:Str}{apos cpos:Pos}{T id:String}{r:V->List V->Hp->VK->Prop}
theorem xQ(pa:PlainAttrs T)(G:Slot T name id)(J:typeOf (.builtin id)=pure (.type "method_descriptor"))(hm:MtR X id r)(U:PE X o to)(ha:PA X (e::es) t)
  (B:zaR o name X.env (eval o X.env)=eval o X.env:=by rfl)
  (F:((zaH cpos (zag (e::es) X.env)).all (λx => !x.1) && (backToKw cpos (keywordEach [] X.env)).all (λx => x.1.isSome)
   && decide ((e::es).length+([]:List Keyword).length+(if([]:List Keyword).isEmpty then 0 else 1)<30))=true:=by rfl)
  (z:(apos.endLine == cpos.line)=true:=by rfl) (hs:zag (e::es) X.env=(false,eval e X.env)::zag es X.env:=by rfl) (q:(zaH cpos (zag es X.env)).any (·.1)=false:=by rfl) :
  PE X (.Call (.Attribute o name apos) (e::es) [] cpos) (ZP X.K T r to t):=by
 intro pins s σ H Q I h;refine wpAny_Call_method_late B F z rfl (cK (U pins s σ H _ I h) λv W ⟨x,H1,M,r1,ty,q1⟩=>?_);obtain⟨h1,h2⟩:=W1 M r1 ty;refine⟨T,id,pa,G,J,h1,h2,?_⟩;have N:=ha cpos pins W σ H1 _ M q1;rw[hs]at N ⊢;refine Calls.callWith_builtin (by show(false || (zaH cpos (zag es X.env)).any (·.1))=false;rw[q] <;> rfl) (Calls.evalArgs_plain ?_);exact cK N λus Y ⟨vs,H2,I2,r2,q2⟩=>hm pins Y σ H2 x vs v us Q I2 r1 r2 q2
end
def MtM(X:Cx)(id:String)(r:V->List V->Hp->VK->Prop):Prop:=
 ∀(pins:List (Addr×Obj)) (s:zad) (σ:St) (H:Hp) (x:V) (xs:List V) (v:Value) (us:List Value) (Q:VK),Inv X pins σ H s->RelV x v->Vals xs us->r x xs H Q->
  wpAny (model X.prog X.w) X.A (call (.builtin id) (v::us)) (EP X pins σ Q) X.xe s
theorem Vals.one:∀ {x:V} {us:List Value},Vals [x] us->∃u,us=[u]/\RelV x u
 | _,_,.cons r .nil=>⟨_,rfl,r⟩
theorem Vals.reverse(h:Vals xs us):Vals xs.reverse us.reverse:=by
 induction h with
 | nil=>exact .nil
 | cons r t ih=>rw[zd9,zd9];exact Vals.append ih (.cons r .nil)
theorem Vals.rep(h:Vals xs us):∀k:Nat,Vals (zcp k xs).flatten (zcp k us).flatten
 | 0=>.nil
 | k+1=>by
  rw[zdo,zdo,zdp,zdp];exact Vals.append h (Vals.rep h k)
section
variable {X:Cx}{pins:List (Addr×Obj)}{σ:St}{H:Hp}{s:zad}{l b:Addr}{xs ys zs:List V}
theorem Inv.lset{z its':List Value}{n:Nat}{f:Array Value->Array Value}{t':Nat}(I:Inv X pins σ H s)(M:H l=some (.lst xs))
  (e:s.heap.get? l=some {cls:=.type "list",data:=.seq z.toArray n}) (B:f z.toArray=its'.toArray) (G:Vals ys its') (N:ys.length<=zal) :
  Inv X pins σ (upd H l (.lst ys)) {s with heap:=s.heap.update l (zcS f),toks:=t'}:=by
 have q:=PySem.IsL.update e f;rw[B]at q;refine I.write (x:=l) (e:=l) (by rw[M];exact trivial) (.inl rfl) (λU u F J=>(Heap.get?_update_other s.heap (zcS f) (zaW F)).trans J) ⟨_,q⟩ ?_;exact⟨N,its',_,G,q⟩
theorem Inv.lnew(I:Inv X pins σ H s)(B:Vals ys its)(z:ys.length<=zal) :
  Inv X pins σ (upd H s.heap.objs.size (.lst ys)) {s with heap:=s.heap.push {cls:=.type "list",data:=.seq its.toArray},toks:=t'}:=
 I.laid (λ_ _ q=>zam _ q) (zaj _) ⟨z,its,0,B,zaE _ rfl⟩
theorem Inv.fresh(I:Inv X pins σ H s):H s.heap.objs.size=none:=I.hok.fresh (zaj _)
theorem Inv.lstM(I:Inv X pins σ H s)(B:H l=some (.lst xs)):xs.length<=zal/\∃(q:List Value) (n:Nat),Vals xs q/\xs.length=q.length/\s.heap.get? l=some {cls:=.type "list",data:=.seq q.toArray n}:=by
 obtain⟨z,q,n,r,e⟩:=I.hok l _ B;exact⟨z,q,n,r,r.length,e⟩
theorem LS(h:n<=zal):zea n=false:=by
 unfold zea;exact decide_eq_false (by lia)
end
section
variable {X:Cx}
def HJ:V->List V->Hp->VK->Prop:=λx vs H Q=>∃l xs y,x=.ref l/\vs=[y]/\H l=some (.lst xs)/\xs.length<zal/\Q .non (upd H l (.lst (xs++[y])))
theorem xF:MtM X "list.append" HJ:=by
 intro pins s σ H x vs v W Q I N J h;obtain⟨l,xs,y,rfl,rfl,G,Y,q⟩:=h;cases N;obtain⟨u,rfl,M⟩:=J.one;obtain⟨z,B,n,r,U,e⟩:=I.lstM G;refine zcD F.slot_list_append ⟨_,e,rfl⟩ F.entry_list_append (F.args_list_append_2 _ _) (PySem.list_append l B.toArray n u (by rw[zax];lia)) ⟨e,?_⟩;refine⟨.non,_,I.lset (its':=B++[u]) G e (by simp) (r.append (.cons M .nil)) ?_,rfl,q⟩;rw[zbb,List.length_singleton]
 lia
end
section
variable {κ:Type}[DecidableEq κ]
noncomputable def oZ(kvs:List (κ×V))(k:κ):Option V:=(kvs.find? λq=>decide (q.1=k)).map (·.2)
noncomputable def putK(kvs:List (κ×V))(k:κ)(v:V):List (κ×V):=
 if(kvs.any λq=>decide (q.1=k))=true then kvs.map (λq=>if q.1=k then(q.1,v)else q)else kvs++[(k,v)]
noncomputable def VR(kvs:List (κ×V))(k:κ):List (κ×V):=kvs.filter λq=>decide (q.1≠k)
theorem oI{p:κ×V}{r:List (κ×V)}{k:κ}(e:p.1=k):oZ (p::r) k=some p.2:=by simp[oZ,zbz,e]
theorem oB{p:κ×V}{r:List (κ×V)}{k:κ}(e:¬ p.1=k):oZ (p::r) k=oZ r k:=by simp[oZ,zbz,e]
theorem B2(k:κ):∀kvs:List (κ×V),(kvs.any λq=>decide (q.1=k))=(oZ kvs k).isSome
 | []=>rfl
 | p::r=>by
  rw[zcc];by_cases e:p.1=k
  ·simp only[oI e,decide_eq_true e,Bool.true_or,Option.isSome_some]
  ·rw[oB e,decide_eq_false e,Bool.false_or];exact B2 k r
theorem eT(kvs:List (κ×V))(k:κ)(v:V):(putK kvs k v).length<=kvs.length+1:=by
 unfold putK;split
 ·rw[zah];lia
 ·rw[zbb,zaz,zbx];lia
theorem RelO.isSome_eq(r:RelO o u):o.isSome=u.isSome:=by
 cases o with
 | none=>cases u with
  | none=>rfl
  | some _=>exact(show False from r).elim
 | some _=>cases u with
  | none=>exact(show False from r).elim
  | some _=>rfl
theorem RelO.getD(r:RelO o u)(rd:RelV d d'):RelV (o.getD d) (u.getD d'):=by
 cases o with
 | none=>cases u with
  | none=>exact rd
  | some _=>exact(show False from r).elim
 | some _=>cases u with
  | none=>exact(show False from r).elim
  | some _=>exact r
theorem KV.val(r:KV kvs vs)(k:κ):RelO (oZ kvs k) (zcr vs k):=by
 unfold KV at r;induction r with
 | nil=>exact zaV
 | @cons p q ps qs h t ih=>
  obtain⟨h1,h2⟩:=h;by_cases e:p.1=k
  ·have B:q.1=k:=h1.symm.trans e
   have b:zcr (q::qs) k=some q.2:=by simp[zcr,zbz,B]
   rw[oI e,b];exact h2
  ·have B:¬ q.1=k:=λz=>e (h1.trans z)
   have b:zcr (q::qs) k=zcr qs k:=by simp[zcr,zbz,B]
   rw[oB e,b];exact ih
theorem KV.any(r:KV kvs vs)(k:κ):(kvs.any λq=>decide (q.1=k))=vs.any λq=>decide (q.1=k):=by
 unfold KV at r;induction r with
 | nil=>rfl
 | cons h t ih=>rw[zcc,zcc,ih,h.1]
theorem KV.repl(r:KV kvs vs)(k:κ)(F:RelV y u) :
  KV (kvs.map λB=>if B.1=k then(B.1,y)else B) (vs.map λB=>if B.1=k then(B.1,u)else B):=by
 unfold KV at r ⊢;induction r with
 | nil=>exact .nil
 | @cons p q ps qs h t ih=>
  rw[zak,zak];refine .cons ?_ ih;obtain⟨h1,h2⟩:=h;by_cases e:p.1=k
  ·rw[if_pos e,if_pos (h1.symm.trans e)];exact⟨h1,F⟩
  ·rw[if_neg e,if_neg (λz=>e (h1.trans z))];exact⟨h1,h2⟩
theorem KV.put(r:KV kvs vs)(k:κ)(q:RelV y u):KV (putK kvs k y) (stored vs k u):=by
 unfold putK stored;rw[r.any k];by_cases e:(vs.any λz=>decide (z.1=k))=true
 ·rw[if_pos e,if_pos e];exact r.repl k q
 ·rw[if_neg e,if_neg e];exact Paired.snoc r ⟨rfl,q⟩
theorem KV.drop(r:KV kvs vs)(k:κ):KV (VR kvs k) (without vs k):=by
 unfold KV at r ⊢;unfold VR without;induction r with
 | nil=>exact .nil
 | @cons p q ps qs h t ih=>
  obtain⟨h1,h2⟩:=h;rw[zcd,zcd];by_cases e:p.1=k
  ·have a:¬ decide (p.1≠k)=true:=by simp[e]
   have b:¬ decide (q.1≠k)=true:=by simp[h1.symm.trans e]
   rw[if_neg a,if_neg b];exact ih
  ·have B:¬ q.1=k:=λz=>e (h1.trans z)
   have a:decide (p.1≠k)=true:=by simp[e]
   have b:decide (q.1≠k)=true:=by simp[B]
   rw[if_pos a,if_pos b];exact .cons ⟨h1,h2⟩ ih
theorem KV.length(r:KV kvs vs):kvs.length=vs.length:=zcN r
end
theorem vM(r:RelV (kV k) u):(bA P w).is k u=true:=by
 cases k with
 | inl i=>obtain⟨t,e⟩:=(show ∃t,u=zcw i t from r);subst e;exact AK P w i t
 | inr x=>obtain⟨t,e⟩:=(show ∃t,u=zcL x t from r);subst e;exact AC P w x t
theorem wZ:∀ {ks:List Key} {us:List Value},Vals (ks.map kV) us->ItemsAre (bA P w) ks us
 | [],_,r=>by rw[zb0]at r;cases r;exact .nil
 | k::ks,_,r=>by
  rw[zak]at r;cases r with
  | cons h t=>exact .cons (vM h) (wZ t)
abbrev KT(H:Hp):List (List Key×V)->List (List Key×Addr×Value)->Prop:=zbO λp q=>p.1=q.1/\H q.2.1=some (.tup (p.1.map kV))/\RelV p.2 q.2.2
theorem KT.val(r:KT H kvs xs)(k:List Key):RelO (oZ kvs k) ((atKey xs k).map (·.2)):=by
 induction r with
 | nil=>exact zaV
 | @cons p q ps qs h t ih=>
  obtain⟨h1,_,h2⟩:=h;by_cases e:p.1=k
  ·have B:q.1=k:=h1.symm.trans e
   have b:atKey (q::qs) k=some q.2:=by simp[atKey,zbz,B]
   rw[oI e,b];exact h2
  ·have B:¬ q.1=k:=λz=>e (h1.trans z)
   have b:atKey (q::qs) k=atKey qs k:=by simp[atKey,zbz,B]
   rw[oB e,b];exact ih
theorem KT.repl(r:KT H kvs xs)(k:List Key)(F:RelV y u) :
  KT H (kvs.map λB=>if B.1=k then(B.1,y)else B) (xs.map (putAt k u)):=by
 induction r with
 | nil=>exact .nil
 | @cons p q ps qs h t ih=>
  rw[zak,zak];refine .cons ?_ ih;obtain⟨h1,h2,G⟩:=h;unfold putAt;by_cases e:p.1=k
  ·rw[if_pos e,if_pos (h1.symm.trans e)];exact⟨h1,h2,F⟩
  ·rw[if_neg e,if_neg (λz=>e (h1.trans z))];exact⟨h1,h2,G⟩
theorem KT.put(r:KT H kvs xs)(k:List Key)(B:H b=some (.tup (k.map kV)))(z:RelV y u) :
  KT H (putK kvs k y) (storedH xs k b u):=by
 have e:(kvs.any λF=>decide (F.1=k))=(atKey xs k).isSome:=by
  rw[B2,(r.val k).isSome_eq,Option.isSome_map]
 unfold putK storedH;rw[e];by_cases q:(atKey xs k).isSome=true
 ·rw[if_pos q,if_pos q];exact r.repl k z
 ·rw[if_neg q,if_neg q];exact Paired.snoc r ⟨rfl,B,z⟩
theorem KT.keeps(r:KT H kvs xs)(q:∀b ys,H b=some (.tup ys)->H' b=some (.tup ys)):KT H' kvs xs:=
 Paired.mapP r λ_ _ z=>⟨z.1,q _ _ z.2.1,z.2.2⟩
section
variable {P:zai}{w:World}{H:Hp}{h:Heap}{a:Addr}
theorem VJ(ok:HOk P w H h)(e:Rd H a u):ObjOk P w H h a u:=e.ok ok
theorem xN(ok:HOk P w H h)(e:Rd H a (.dK kvs)):kvs.length<=zal/\(a == za6)=false/\∃vs,KV kvs vs/\h.DictOf (bA P w) a vs:=
 show ObjOk P w H h a (.dK kvs)from VJ ok e
theorem QD(ok:HOk P w H h)(e:H a=some (.dK kvs)):kvs.length<=zal/\(a == za6)=false/\∃vs,KV kvs vs/\h.DictOf (bA P w) a vs:=xN ok (.inl e)
theorem pP(ok:HOk P w H h)(e:H a=some (.tup (ks.map kV))):(zb8 (bA P w)).is h ks a:=by
 obtain⟨_,q,r,o,h1,h2,n,z⟩:=(show ObjOk P w H h a (.tup (ks.map kV))from ok a _ e);exact⟨o,q.toArray,n,h1,h2,z.1,by simpa using wZ r⟩
theorem IX(ok:HOk P w H h)(e:Rd H a (.dT kvs)):kvs.length<=zal/\(a == za6)=false /\
  ∃xs,KT H kvs xs/\h.DictOfH (zb8 (bA P w)) a xs:=by
 obtain⟨z,y,xs,r,o,es,ep,h1,h2,G,F,B⟩:=(show ObjOk P w H h a (.dT kvs)from VJ ok e);refine⟨z,y,xs,r,o,es,ep,h1,h2,G,F,λx hx=>?_,B⟩;have all:∀ {l:List (List Key×V)} {m:List (List Key×Addr×Value)},KT H l m->∀x∈m,(zb8 (bA P w)).is h x.1 x.2.1:=by
  intro l m q;induction q with
  | nil=>intro x hx;exact nomatch hx
  | @cons p q ps qs hq t ih=>
   intro x hx;rcases List.mem_cons.mp hx with e|hx
   ·subst e
    exact pP ok (by rw[<- hq.1];exact hq.2.1)
   ·exact ih x hx
 exact all r x hx
theorem V8(ok:HOk P w H h)(e:H a=some (.dT kvs)):kvs.length<=zal/\(a == za6)=false /\
  ∃xs,KT H kvs xs/\h.DictOfH (zb8 (bA P w)) a xs:=IX ok (.inl e)
end
def DGet(H:Hp)(a:Addr)(y:V)(r:Option V):Prop:=
 (∃kvs k,Rd H a (.dK kvs)/\y=kV k/\r=oZ kvs k)\/∃kvs k b,Rd H a (.dT kvs)/\y=.ref b/\H b=some (.tup (k.map kV))/\r=oZ kvs k
def DPut(H:Hp)(a:Addr)(y v:V)(H':Hp):Prop:=
 (∃kvs k,H a=some (.dK kvs)/\y=kV k/\kvs.length<zal/\H'=upd H a (.dK (putK kvs k v))) \/
 ∃kvs k b,H a=some (.dT kvs)/\y=.ref b/\H b=some (.tup (k.map kV))/\kvs.length<zal/\H'=upd H a (.dT (putK kvs k v))
theorem DGet.k{H:Hp}{a:Addr}{kvs:List (Key×V)}{k:Key}(e:H a=some (.dK kvs)):DGet H a (kV k) (oZ kvs k):=.inl ⟨kvs,k,.inl e,rfl,rfl⟩
theorem DGet.t{H:Hp}{a b:Addr}{kvs:List (List Key×V)}{k:List Key}(e:H a=some (.dT kvs))(q:H b=some (.tup (k.map kV))):DGet H a (.ref b) (oZ kvs k):=.inr ⟨kvs,k,b,.inl e,rfl,q,rfl⟩
theorem DPut.k{H:Hp}{a:Addr}{kvs:List (Key×V)}{k:Key}{v:V}(e:H a=some (.dK kvs))(q:kvs.length<zal):DPut H a (kV k) v (upd H a (.dK (putK kvs k v))):=.inl ⟨kvs,k,e,rfl,q,rfl⟩
theorem DPut.t{H:Hp}{a b:Addr}{kvs:List (List Key×V)}{k:List Key}{v:V}(e:H a=some (.dT kvs))(q:H b=some (.tup (k.map kV)))(z:kvs.length<zal) :
  DPut H a (.ref b) v (upd H a (.dT (putK kvs k v))):=.inr ⟨kvs,k,b,e,rfl,q,z,rfl⟩
section
variable {X:Cx}{pins:List (Addr×Obj)}{σ:St}{H:Hp}{s:zad}{a:Addr}{y v:V}{u r:Value}{o:Option V}{A:zao}{E:Value->zad->Prop}
theorem Inv.big(I:Inv X pins σ H s):za6<s.heap.objs.size:=by
 have h:zaL<s.heap.objs.size:=(I.mod.glob.keeps I.bk).lt;exact Nat.lt_trans (by decide) h
theorem JN(W:A.units+1<cLine)(I:Inv X pins σ H s)(g:DGet H a y (some v))(N:RelV y u)(h:∀F s',Inv X pins σ H s'->RelV v F->Q F s') :
  wpAny (model X.prog X.w) A (zby (.ref a) u) Q E s:=by
 rcases g with⟨kvs,k,e,J,l⟩|⟨kvs,k,b,e,J,U,l⟩
 ·subst J
  obtain⟨z,hd,vs,B,M⟩:=xN I.hok e;obtain⟨F,hw,q⟩:=RelO.some_of (v:=v) (o:=zcr vs k) (by rw[l];exact B.val k);exact wpAny_getItem_of (vM N) M.mapOf hw (h F _ (I.tok _) q)
 ·subst J
  cases(show u=zau b from N);obtain⟨z,hd,xs,B,M⟩:=IX I.hok e;obtain⟨F,hw,q⟩:=RelO.some_of (v:=v) (o:=(atKey xs k).map (·.2)) (by rw[l];exact B.val k);obtain⟨p,Y,G⟩:=Option.map_eq_some_iff.mp hw;refine wpAny_getItem_heap (zeb W) (pP I.hok U) M Y ?_;rw[G];exact h F _ (I.tok _) q
theorem UQ(N:A.units+1<cLine)(I:Inv X pins σ H s)(g:DGet H a y o)(J:RelV y u)(h:∀s',Inv X pins σ H s'->Q (.bool (!o.isSome)) s') :
  wpAny (model X.prog X.w) A (zaB .NotIn u (.ref a)) Q E s:=by
 rcases g with⟨kvs,k,e,F,l⟩|⟨kvs,k,b,e,F,M,l⟩
 ·subst F
  obtain⟨z,hd,vs,B,G⟩:=xN I.hok e;refine wpAny_notIn_of (vM J) hd G.mapOf ?_;rw[<- (B.val k).isSome_eq,<- l];exact h _ (I.tok _)
 ·subst F
  cases(show u=zau b from J);obtain⟨z,hd,xs,B,G⟩:=IX I.hok e;refine wpAny_notIn_heap (zeb N) (pP I.hok M) hd G ?_;have q:=(B.val k).isSome_eq;rw[Option.isSome_map]at q;rw[<- q,<- l];exact h _ (I.tok _)
theorem lU(I:Inv X pins σ H s)(F:Mut (H a))(hs:za4 a s.heap h')(B:∃q,h'.get? a=some q)(new:ObjOk X.prog X.w (upd H a ob) h' a ob) :
  Inv X pins σ (upd H a ob) {s with heap:=h',toks:=t'}:=
 I.write (x:=a) (e:=a) F (.inl rfl) (λb q G z=>(hs.2 b G).trans z) B new
theorem EV(z:kvs.length<=zal)(hd:(a == za6)=false)(q:KV kvs vs)(B:h'.DictOf (bA P w) a vs) :
  ObjOk P w H' h' a (.dK kvs):=⟨z,hd,vs,q,B⟩
theorem K2(hu:A.units+1<cLine)(I:Inv X pins σ H s)(g:DPut H a y v H')(ry:RelV y u)(rv:RelV v r)(h:∀s',Inv X pins σ H' s'->Q () s') :
  wpAny (model X.prog X.w) A (setItem (.ref a) u r) Q E s:=by
 rcases g with⟨kvs,k,e,J,l,N⟩|⟨kvs,k,b,e,J,Y,l,N⟩
 ·subst J N
  obtain⟨z,hd,vs,B,W⟩:=QD I.hok e;have U:vs.length<=zal:=by rw[<- B.length];exact z
  have M:(putK kvs k v).length<=zal:=by have:=eT kvs k v;lia
  refine wpAny_setItem_pairs (hsz:=U) (vM ry) W λh' F hs=>h _ ?_
  have he:∃q,h'.get? a=some q:=let ⟨q,_,_,G,_⟩:=F;⟨q,G⟩;exact lU I (by rw[e];exact zaV) hs he (EV M hd (B.put k rv) F)
 ·subst J N
  cases(show u=zau b from ry);obtain⟨z,hd,xs,B,W⟩:=V8 I.hok e;have U:xs.length<=zal:=by rw[<- zcN B];exact z
  have M:(putK kvs k v).length<=zal:=by have:=eT kvs k v;lia
  refine wpAny_setItem_heap (hsz:=U) (zeb hu) (pP I.hok Y) W λh' F hs=>h _ ?_
  obtain⟨q,es,ep,G,h2,h3,h4,_,h5⟩:=F;refine lU I (by rw[e];exact zaV) hs ⟨q,G⟩ ⟨M,hd,_,(B.put k Y rv).keeps λc ys ec=>?_,q,es,ep,G,h2,h3,h4,h5⟩;rw[aG (vL ec e (λz=>nomatch z))];exact ec
end
section
variable {X:Cx}{pins:List (Addr×Obj)}{σ:St}{H:Hp}{s:zad}{a:Addr}{kvs:List (Key×V)}{k:Key}{u:Value}{A:zao}{E:Value->zad->Prop}
theorem qad(I:Inv X pins σ H s)(e:Rd H a (.dK kvs))(h:∀t s',Inv X pins σ H s'->Q (.int kvs.length t) s'):wpAny (model X.prog X.w) A (call (.builtin "len") [.ref a]) Q E s:=by
 obtain⟨z,hd,vs,q,B⟩:=xN I.hok e;refine call_len_dict hd B (by rw[<- q.length];rw[zcA]at z;lia) ?_;rw[<- q.length];exact h _ _ (I.tok _)
end
def LD(i:Expr):Prop:=∀q z,zdn i false q z=operate [q,z] (zby q z)
theorem GF{E:Value->zad->Prop}{T id:String}{Q:Value->zad->Prop}
  (M:typeLookup (.type T) "__getitem__" = pure (some (.builtin id))) (hs:LD slice)
  (h:wpAny (model prog w) A (eval value env) (λo B=>wpAny (model prog w) A (eval slice env) (λi q=>q.TypeIs o T/\wpAny (model prog w) A (zby o i) Q E q) E B) E s) :
  wpAny (model prog w) A (eval (.Subscript value slice pos) env) Q E s:=by
 refine Subscript_ (za7 h (λo B J=>za7 J (λi q z=>?_) λ_ _ x=>x) λ_ _ x=>x);obtain⟨hT,z⟩:=z;unfold subscriptTail;refine zaa ?_;rw[getitemInPython_of_ne hT.not_modules];refine zaa (zcO hT M ?_);have fin:wpAny (model prog w) A (zdn slice false o i) (λr F=>wpAny (model prog w) A (letTemporaryGo value o r >>= λ_=>pure r) Q E F) E q:=by
  rw[hs o i];exact wpAny_operating (za7 z (λr F G=>zaa (wpAny_letTemporaryGo (zaf G))) λ_ _ x=>x)
 first
  | exact zaf (zaa fin)
  | exact zaa (zaf (zaa fin))
  | exact zaa fin
theorem AN(I:Inv X pins σ H s)(g:DGet H a y o):s.TypeIs (.ref a) "dict" := by
 rcases g with⟨kvs,k,e,_,_⟩|⟨kvs,k,b,e,_,_,_⟩
 ·obtain⟨_,_,vs,_,q⟩:=xN I.hok e
  exact q.typeIs
 ·obtain⟨_,_,xs,_,q⟩:=IX I.hok e
  exact q.typeIs
def VS(td ty:TE):TE:=λσ H Q=>td σ H λx H1=>ty σ H1 λy H2=>∃a v,x=.ref a/\DGet H2 a y (some v)/\Q v H2
def Z9(td ty tv:TE):TS:=λD σ H=>tv σ H λv H1=>td σ H1 λx H2=>ty σ H2 λy z=>∃a q,x=.ref a/\DPut z a y v q/\D.nx σ q
section
variable {X:Cx}{o i e value:Expr}{pos pos' tpos:Pos}{td ty tv:TE}
theorem G7(M:X.A.units+1<cLine)(G:PE X o td)(hi:PE X i ty)(hs:LD i):PE X (.Subscript o i pos) (VS td ty):=by
 intro pins s σ H Q I h;refine GF PySem.F.slot_dict_getitem.lookup hs (cK (G pins s σ H _ I h) λu J ⟨x,H1,B,N,Y⟩=>cK (hi pins J σ H1 _ B Y) λiv s2 ⟨y,H2,z,W,a,v,ex,g,U⟩=>?_);subst ex;obtain rfl:u=zau a:=N;exact⟨AN z g,JN M z g W λw' s3 I3 q=>⟨v,H2,I3,q,U⟩⟩
theorem yM(B:X.A.units+1<cLine)(G:PE X o td)(hi:PE X i ty)(q:PE X value tv)(hs:zaD value (some (.Subscript o i pos')) pos.line X.env=pure false) :
  PS X (.Assign [.Subscript o i pos'] value pos) (Z9 td ty tv):=by
 intro pins s σ H D I h;refine wpAny_Assign_Subscript (cK (q pins s σ H _ I h) λr Y ⟨v,H1,z,W,q1⟩=>cK (G pins Y σ H1 _ z q1) λu s2 ⟨x,H2,I2,N,q2⟩=>cK (hi pins s2 σ H2 _ I2 q2) λiv s3 ⟨y,H3,I3,U,a,F,ex,g,M⟩=>?_) hs;subst ex;obtain rfl:u=zau a:=N;exact K2 B I3 g U W λs4 J=>⟨σ,F,J,M⟩
end
theorem BR(h:Heap)(q:za6<h.objs.size):ObjOk P w H (h.push {cls:=.type "dict",data:=.dict #[]}) h.objs.size (.dK []):=
 ⟨zaJ _,beq_eq_false_iff_ne.mpr (zaW (zaF q)),[],.nil,Heap.DictOf.new h⟩
theorem CI(h:Heap)(q:za6<h.objs.size):ObjOk P w H (h.push {cls:=.type "dict",data:=.dict #[]}) h.objs.size (.dT []):=
 ⟨zaJ _,beq_eq_false_iff_ne.mpr (zaW (zaF q)),[],.nil,_,#[],0,zaE _ rfl,⟨rfl,rfl,rfl⟩,rfl,rfl,List.nodup_nil⟩
def W2:TE:=λ_ H Q=>∀p,H p=none->Q (.ref p) (upd H p (.dT []))
section
variable {X:Cx}{pos:Pos}
theorem BM:PE X (.Dict [] [] pos) W2:=λpins s σ H Q I h=>
 wpAny_Dict_empty ⟨.ref s.heap.objs.size,_,I.laid (a:=s.heap.objs.size) (o:=.dT []) (t':=s.toks) (λ_ _ q=>zam _ q) (zaj _) (CI s.heap I.big),rfl,h _ (I.hok.fresh (zaj _))⟩
end
def zS:List (TE×TE)->St->Hp->(List (V×V)->Hp->Prop)->Prop
 | [],_,H,Q=>Q [] H
 | (tk,tv)::r,σ,H,Q=>tk σ H λx H1=>tv σ H1 λy H2=>zS r σ H2 λps H3=>Q ((x,y)::ps) H3
abbrev VV:List (V×V)->List (Value×Value)->Prop:=zbO λp q=>RelV p.1 q.1/\RelV p.2 q.2
def PPs(X:Cx)(pos:Pos)(z:List (Option Expr))(q:List Expr)(B:List (TE×TE)):Prop:=
 ∀(pins:List (Addr×Obj)) (s:zad) (σ:St) (H:Hp) (Q:List (V×V)->Hp->Prop),Inv X pins σ H s->zS B σ H Q->
  wpAny (model X.prog X.w) X.A (evalPairs (pairTrees z q X.env pos)) (λvs s'=>∃ps H',Inv X pins σ H' s'/\VV ps vs/\Q ps H') X.xe s
theorem Q5:PPs X pos [] [] []:=λpins s σ H Q I h=>pairTrees_nil_walk ⟨[],H,I,.nil,h⟩
theorem iN(M:PE X k tk)(B:PE X v tv)(F:PPs X pos ks vs trs) :
  PPs X pos (some k::ks) (v::vs) ((tk,tv)::trs):=λpins s σ H Q I h=>
 pairTrees_cons_walk (cK (M pins s σ H _ I h) λu J ⟨x,H1,G,z,q1⟩=>cK (B pins J σ H1 _ G q1) λw2 W ⟨y,H2,I2,ry,q2⟩=>
  cK (F pins W σ H2 _ I2 q2) λws s3 ⟨ps,N,U,q,Y⟩=>⟨(x,y)::ps,N,U,.cons ⟨z,ry⟩ q,Y⟩)
def nD(kvs more:List (Key×V)):List (Key×V):=more.foldl (λacc q=>putK acc q.1 q.2) kvs
theorem KV.merge:∀ {more:List (Key×V)} {rs:List (Key×Value)} {kvs:List (Key×V)} {vs:List (Key×Value)},KV more rs->KV kvs vs->KV (nD kvs more) (merged vs rs):=by
 intro more rs kvs vs r;unfold KV at r;induction r generalizing kvs vs with
 | nil=>intro q;exact q
 | @cons p q ps qs h t ih=>
  intro z;have e:KV (putK kvs p.1 p.2) (stored vs q.1 q.2):=by
   have:=z.put p.1 h.2;rw[<- h.1];exact this
  exact ih e
theorem lZ:∀(more kvs:List (Key×V)),(nD kvs more).length<=kvs.length+more.length
 | [],kvs=>by show kvs.length<=kvs.length+0;lia
 | p::r,kvs=>by
  have h1:=lZ r (putK kvs p.1 p.2);have h2:=eT kvs p.1 p.2;show(nD (putK kvs p.1 p.2) r).length<=_;rw[zaz];lia
theorem uC:∀ {kvs:List (Key×V)} {ws:List (Value×Value)},VV (kvs.map λz=>(kV z.1,z.2)) ws->∃rs,Carries (bA P w) ws rs/\KV kvs rs
 | [],_,r=>by rw[zb0]at r;cases r;exact⟨[],zaV,.nil⟩
 | p::kvs,_,r=>by
  rw[zak]at r;cases r with
  | @cons a b as bs h t=>
   obtain⟨rs,c,q⟩:=uC (P:=P) (w:=w) t;obtain⟨F,B⟩:=b;exact⟨(p.1,B)::rs,⟨vM h.1,rfl,c⟩,.cons ⟨rfl,h.2⟩ q⟩
def qo(q:List (TE×TE)):TE:=λσ H Q=>∀p,H p=none->zS q σ (upd H p (.dK [])) λps H2=>H2 p=some (.dK [])/\∃kvs:List (Key×V),ps=kvs.map (λz=>(kV z.1,z.2))/\kvs.length<=15/\Q (.ref p) (upd H2 p (.dK (nD [] kvs)))
theorem R6(h:PPs X pos keys values trs)(F:keys.all (·.isSome)=true)(N:keys.length=values.length)(h0:keys≠[])
  (G:keys.length<=15):PE X (.Dict keys values pos) (qo trs):=by
 intro pins s σ H Q I q;have hn:=I.hok.fresh (zaj s.heap.objs.size);have U:=I.laid (a:=s.heap.objs.size) (o:=.dK []) (h':=s.heap.push {cls:=.type "dict",data:=.dict #[]}) (t':=s.toks) (λ_ _ q=>zam _ q) (zaj _) (BR s.heap I.big);refine wpAny_Dict_walk (knd:=bA X.prog X.w) F N h0 G (cK (h pins _ σ _ _ U (q _ hn)) λws s2 ⟨ps,H2,M,J,e,kvs,ep,lk,q2⟩=>?_);subst ep;obtain⟨rs,c,rk⟩:=uC (P:=X.prog) (w:=X.w) J;obtain⟨z,hd,Y,W,dd⟩:=QD M.hok e;cases W;refine⟨rs,c,dd,λh' B hs=>⟨.ref s.heap.objs.size,_,?_,rfl,q2⟩⟩;have hz:(nD [] kvs).length<=zal:=by
  have h1:=lZ kvs [];rw[zbx]at h1;rw[zcA];lia
 have he:∃q,h'.get? s.heap.objs.size=some q:=let ⟨q,_,_,hq,_⟩:=B;⟨q,hq⟩;exact lU M (by rw[e];exact zaV) hs he (EV hz hd (rk.merge .nil) B)
def IsD(H:Hp)(a:Addr):Prop:=(∃kvs,Rd H a (.dK kvs))\/∃kvs,Rd H a (.dT kvs)
end L2
namespace Att
open PySem PySem.W PySem.Calls PyProof.Rows
theorem rN:∀(ns:List Int) (vs:List Value),WellAll P h vs (ns.map WData.int)->zbh vs ns:=by
 intro ns;induction ns with
 | nil=>
  intro vs w;rw[zb0]at w;cases w;exact .nil
 | cons n ns ih=>
  intro vs w;rw[zak]at w;cases w with
  | cons a b=>
   cases a;exact .cons _ _ (ih _ b)
theorem KQ{l:OpenLaw}{n:Nat}(W:l.most=some n){P:Params}{h:Heap}{args:List WData}{z:List Value}
  (B:l.row.toRowW.claim.pre args=true) (N:WellAll P h z args) :
  ∃a vs ns,z=[zau a]/\args=[WData.list (ns.map WData.int)]/\h.get? a=some {cls:=.type "list",data:=.seq vs.toArray}/\zbh vs ns/\ns.length<=n:=by
 have M:WShape.hasAll [] args [.list .int]=true:=(pre_splitW B).1;have U:l.pre.holds [] {args:=args}=true:=(pre_splitW B).2;obtain⟨d,r,rfl,h1,h2⟩:=hasAllW_cons M;obtain rfl:=hasAllW_nil h2;obtain⟨xs,rfl,Y⟩:=hasW_list h1;obtain⟨ns,rfl⟩:=items_int Y;have F:ns.length<=n:=by
  unfold OpenLaw.pre at U;have J:(WTm.not (.lt (.lit (.int (n:Int))) (.len (.arg 0)))).holds [] {args:=[.list (ns.map .int)]}=true:=by
   have J:=(holds_andW U).1;rw[W]at J;exact J
  have G:=condW_of J (w_not (w_lt w_lit (w_len_list (w_arg rfl))));rw[zah]at G;refine Nat.le_of_not_lt λq=>?_
  have q':(n:Int)<((ns.length:Nat):Int):=by lia
  first
   | (rw[decide_eq_true q']at G;exact absurd G (by decide))
   | (simp at G;lia)
 cases N with
 | cons w1 w2=>
  cases w2;cases w1 with
  | list ho hall=>exact⟨_,_,ns,rfl,rfl,ho,rN ns _ hall,F⟩
theorem JK(l:OpenLaw)(args:List WData):l.row.toRowW.claim.post args (.bool true) args=true:=
 postW_of (r:=l.row.toRowW) (X:=(true == true))
  (show WShape.has [] (.bool true) .bool=true by first|rfl|decide|simp[WShape.has,WShape.arms,WShape.armsAll])
  (show(WTm.eq .res (.lit (.bool true))).value [] {args:=args,res:=some (.bool true),after:=args}=some (.bool (true == true))from w_eq_bool (w_res rfl) w_lit) rfl
theorem AD{l:OpenLaw}{n:Nat}{q:zai}{B:List Str}{XP:(Str->Option Value)->Heap->Prop}{YP:World->Heap->Prop}{d:DefRec}
  (hn:l.most=some n) (ah:d.params.defaults=[])
  (call:∀(w:World) (F z:zad) (mg mb:Str -> Option Value) (W:Addr) (o:Obj) (pm cd J:Value) (a:Addr) (vs:List Value) (ns:List Int),
   Ground q B [] XP w F mg mb z.heap->YP w z.heap->
   z.heap.get? W=some o->o.data=.func (docDef d.name d.params d.body d.scope pm cd J)->z.heap.CodeRec cd d.name->mg d.name=some (.ref W)->
   z.heap.get? a=some {cls:=.type "list",data:=.seq vs.toArray}->zbh vs ns->ns.length<=n->z.gens=#[]->
   zbF (model l.prog w) zcs (.call (.ref W) ⟨[.ref a],[]⟩) (λr s'=>r=.ok (.ret (.bool true))/\OldK z.heap s'.heap/\s'.os=z.os/\zbR s'.gens) z) :
  WalkO q B XP YP l.row.toRowW d [] (λf vs=>PySem.call f vs):=by
 intro w F z mg mb G Y W o pm cd J dV kV ho hd ad hD ae hg args ai as aa aj au ac az;obtain rfl:dV=.none:=Dflts.none hD ah;obtain rfl:kV=.none:=Dflts.noKw hD;obtain⟨a,vs,ns,rfl,rfl,N,M,U⟩:=KQ hn aa ac;refine enter_call (zdg (call w F z mg mb W o pm cd J a vs ns G Y ho (fd_plain hd) ad ae N M U hg) λr s' hq=>?_);obtain⟨rfl,h2,h3,h4⟩:=hq;exact⟨.inl ⟨.bool true,.bool true,[],rfl,λ_=>rfl,.bool true,JK l _,λ_=>⟨zdq,λ_ hm=>(nomatch hm)⟩⟩,h2,h3,h4⟩
end Att
namespace L2
open PySem PySem.Spec PyProof.Rows
theorem xD:∀ {vs:List Value} {ns:List Int},zbh vs ns->Vals (ns.map V.int) vs
 | _,_,.nil=>.nil
 | _,_,.cons n t h=>.cons ⟨t,rfl⟩ (xD h)
def Only(H:Hp):Prop:=∀b,H b=none\/∃o xs,H b=some (.frz o (.lst xs))
theorem N8{P:zai}{w:World}{K:zae}{mg mb:Str->Option Value}{CX:LO}{k:Nat}{fa a:Addr}{fd:zbe}{x:Str}{sp:Sp}{B:zad}{vs:List Value}{ns:List Int}
  (KX:K.In B.heap) (aa:B.heap.Ns zaL mg) (J:B.heap.Ns builtinsNs mb) (am:∀x:Str,x ≠ "__name__" -> mb x=zaG x) (af:B.heap.NoLimit) (hg:B.gens=#[])
  (ha:B.heap.get? a=some {cls:=.type "list",data:=.seq vs.toArray}) (hi:zbh vs ns) (hl:ns.length<=zal) (hr:Room k zcs)
  (F:∀base:Heap,K.In base->base.Ns zaL mg->FnOk P w K mg base CX k fa fd [x] sp) (U:∀(s:zad) (u:Value),BindsTo s fd ⟨[u],[]⟩ [(x,u)])
  (hsp:∀H:Hp,Only H->SqL K H a (ns.map V.int)->sp [.ref a] H (λv _=>v=.bl true) λ_ _ _=>False)
  (ai:∀H e s',CX [] H B (λ_ _ _=>False) e s'->False) :
  zbF (model P w) zcs (.call (.ref fa) ⟨[.ref a],[]⟩) (λr s'=>r=.ok (.ret (.bool true))/\OldK B.heap s'.heap/\s'.os=B.os/\zbR s'.gens) B:=by
 have rv:=xD hi;have Y:=hi.length
 -- from an abstract heap in which nothing but the script may be tracked
 have N:∀H:Hp,Only H->SqL K H a (ns.map V.int)->HOk P w H B.heap->(∀b,H b≠none->b=a)->(H a≠none->K.lookup a=none)->
   zbF (model P w) zcs (.call (.ref fa) ⟨[.ref a],[]⟩) (λr s'=>r=.ok (.ret (.bool true))/\OldK B.heap s'.heap/\s'.os=B.os/\zbR s'.gens) B:=by
  intro H hO hS ae hA hK;have G:∀ {b:Addr} {o:Obj},B.heap.get? b=some o->H b=none->(zU B.heap H).get? b=some o:=λe n=>MC e n
  have ah:∀ {b:Addr} {o:Obj} {es:Array zct} {ep:Nat},B.heap.get? b=some o->o.data=.dict es ep->H b=none:=λ{b o es ep} e d=>by
   cases q:H b with
   | none=>rfl
   | some u=>
    have e':b=a:=hA b (by rw[q];simp);subst e';rw[ha]at e;cases e;have d':Data.seq vs.toArray _=Data.dict es ep:=d;cases d'
  have M:∀ {b:Addr} {m:Str->Option Value},B.heap.Ns b m->(zU B.heap H).Ns b m:=λ{b m} ⟨o,es,ep,e,d,r⟩=>⟨o,es,ep,G e (ah e d),d,r⟩
  have ac:K.In (zU B.heap H):=λb o e=>G (KX b o e) (by
   cases q:H b with
   | none=>rfl
   | some u=>
    have e':b=a:=hA b (by rw[q];simp);subst e';rw[hK (by rw[q];simp)]at e;cases e)
  have hM:Mod K mg (zU B.heap H):=⟨ac,M aa,⟨mb,M J,am⟩,let ⟨mc,h1,h2⟩:=af;⟨mc,M h1,h2⟩⟩;have e0:Env0 P w K mg (zU B.heap H) zcs [] B H:=⟨rfl,hM,λb o e=>S9 e,Nat.le_of_eq (JG _ _),trivial,λb J=>absurd (show b∈([]:List Addr)from J) (by simp),ae,.of_eq hg⟩;refine zdg ((F _ ac (M aa)).run zcs [] B H ⟨[.ref a],[]⟩ [.ref a] [.ref a] _ _ hr e0 (U B (.ref a)) (.cons rfl .nil) (hsp H hO hS)) λr s' h=>?_
  cases r with
  | error e=>exact(ai H e s' h).elim
  | ok fl=>
   cases fl with
   | next=>exact za8 h
   | brk=>exact za8 h
   | cont=>exact za8 h
   | ret u=>
    obtain⟨v,H',os,ab,un,W,r',q⟩:=h;have q':v=.bl true:=q;subst q';obtain rfl:u=zcM true:=r';refine⟨rfl,OldK.of_keep λb o e=>?_,os,ab⟩;cases q:H b with
    | none=>exact un.keep b o e q (by intro z;exact absurd (show b∈([]:List Addr)from z) (by simp)) (by simp)
    | some u=>
     rcases hO b with z|⟨ob,xs,z⟩
     ·rw[q]at z;cases z
     ·have z2:=un.frzs b ob _ z
      obtain⟨e1,_⟩:=ae b _ z;obtain⟨e2,_⟩:=W b _ z2;rw[e]at e1;cases e1;exact e2
 cases hk:K.lookup a with
 | some o=>
  -- the script is one of the module's own objects
  have e:=KX a o hk;rw[ha]at e;cases e;refine N (λ_=>none) (λ_=>.inl rfl) (.inr ⟨_,vs.toArray,_,hk,rfl,rfl,rfl,by rw[zax,Y];exact hl,by simpa using rv⟩) (λb u z=>by have z':(none:Option HO)=some u:=z;cases z') (λb z=>absurd rfl z) λz=>absurd rfl z
 | none=>
  refine N (λb=>if b=a then some (.frz {cls:=.type "list",data:=.seq vs.toArray} (.lst (ns.map V.int)))else none) (λb=>?_) (.inl (.inr ⟨{cls:=.type "list",data:=.seq vs.toArray},if_pos rfl⟩)) (λb u z=>?_) (λb z=>?_) λ_=>hk
  ·by_cases J:b=a
   ·exact .inr ⟨_,_,if_pos J⟩
   ·exact .inl (if_neg J)
  ·by_cases J:b=a
   ·have z':=(if_pos J).symm.trans z
    cases z';subst J;exact⟨ha,by rw[zah];exact hl,vs,_,rv,ha⟩
   ·have z':=(if_neg J).symm.trans z
    cases z'
  ·by_cases J:b=a
   ·exact J
   ·exact absurd (if_neg J) z
theorem TN{l:zec}{n k:Nat}{q:zai}{B:List Str}{XP:(Str->Option Value)->Heap->Prop}{YP:World->Heap->Prop}{d:DefRec}{K:Params->zae}{CX:World->LO}{sp:World->Sp}{x:Str}
  (hn:l.most=some n) (ac:n<=zal) (ad:d.params.defaults=[]) (hr:Room k zcs)
  (hY:∀(w:World) (h:Heap),YP w h->(K w.params).In h)
  (F:∀(w:World) (mg:Str -> Option Value) (U:Addr) (h:Heap), (K w.params).In h -> h.Ns zaL mg -> mg d.name = some (.ref U) ->
   ∃fd:zbe,(∀(s:zad) (u:Value),BindsTo s fd ⟨[u],[]⟩ [(x,u)]) /\
    ∀base:Heap,(K w.params).In base->base.Ns zaL mg->FnOk l.prog w (K w.params) mg base (CX w) k U fd [x] (sp w))
  (hsp:∀(w:World) (H:Hp) (a:Addr) (ns:List Int),ns.length<=n->Only H->SqL (K w.params) H a (ns.map V.int)->sp w [.ref a] H (λv _=>v=.bl true) λ_ _ _=>False)
  (aa:∀(w:World) (H:Hp) (s:zad) (e:Value) (s':zad),CX w [] H s (λ_ _ _=>False) e s'->False) :
  PySem.W.WalkO q B XP YP l.row.toRowW d [] (λf vs=>PySem.call f vs):=by
 refine Att.AD hn ad λw af M mg mb U o pm cd aj a vs ns G Y ho hd ak ab N J z hg=>?_
 have KX:=hY w _ Y;obtain⟨fd,hb,hF⟩:=F w mg U _ KX G.T.g ab;exact N8 KX G.T.g G.T.b G.T.builtins G.T.nolimit hg N J (zaM z ac) hr hF hb (λH hO hS=>hsp w H a ns z hO hS) λH e s'=>aa w H M e s'
noncomputable def inClass(s:Stmt)(j:Nat):Stmt:=match s with
 | .ClassDef _ _ _ body _ _ _ _ _ _ _=>body.getD j (.Pass ⟨0,0,0,0⟩)
 | _=>.Pass ⟨0,0,0,0⟩
noncomputable def eJ(s:Stmt):Arguments:=match s with
 | .FunctionDef _ a _ _ _ _ _ _ _ _=>a
 | _=>{posonlyargs:=[],args:=[],vararg:=none,kwonlyargs:=[],kw_defaults:=[],kwarg:=none,defaults:=[]}
noncomputable def bU(s:Stmt):List Stmt:=match s with
 | .FunctionDef _ _ b _ _ _ _ _ _ _=>b
 | _=>[]
noncomputable def aO(s:Stmt):Scope:=match s with
 | .FunctionDef _ _ _ _ _ _ sc _ _ _=>sc
 | _=>{kind:=.function,names:=[],isGenerator:=false,isCoroutine:=false}
abbrev wC:LO:=λ_ _ _ _ _ _=>False
abbrev E0:XK:=λ_ _ _=>False
theorem IP:vF wC X E0:=λ_ _ _ _ _ _ _ h=>h.elim
structure Fun(K:zae)(x qual:Str)(st:Stmt)(f:Addr)(fd:zbe):Prop where
 ex:∃(oc:Value) (od:Option Addr) (kV doc pm:Value) (an:Option Addr) (cdv ct:Value) (osl:Array (Option Value)),
  fd=zbg x qual (eJ st) (bU st) (aO st) .none kV doc pm an cdv ct/\K.lookup f=some ⟨oc,od,.func fd,osl⟩/\zcq K cdv qual=true
 kp:zbG K (.ref f)=true
section
variable {P:zai}{w:World}{K:zae}{mg:Str->Option Value}{base:Heap}
theorem Fun.ok{x B:Str}{st:Stmt}{f:Addr}{fd:zbe}{N ps:List Str}{k:Nat}{sp:Sp}(F:Fun K x B st f fd)(S:FnScope N ps (aO st))(U:∀vs H Q E,sp vs H Q E->vs.length=ps.length)
  (J:∀(G:Value) (A:zao) (z:List Env) (s:zad) (H:Hp) (vs:List V) (Q:VK) (E:XK), Room k (A.deeper (zaO B (aO st) s.heap.objs.size f G)) -> sp vs H Q E ->
   ∃t,PSs (jZ wC P w K mg base N B (aO st) f G A z s H E).nox (bU st) t/\t {nx:=λ_ H'=>Q .non H',rt:=Q} (start N vs) H):FnOk P w K mg base wC (k+1) f fd ps sp:=by
 obtain⟨oc,od,kV,Y,pm,an,G,ct,ab,rfl,W,M⟩:=F.ex;refine Z1 W M S U λA z s H vs Q E hr hsp=>?_
 obtain⟨t,h,q⟩:=J G A z s H vs Q E hr hsp;exact⟨t,h.nox,q⟩
theorem Fun.binds{x q:Str}{st:Stmt}{f:Addr}{fd:zbe}{ps:List Str}(F:Fun K x q st f fd)
  (h:∀(kV z J:Value) (G:Option Addr) (B ct:Value) (us:List Value),us.length=ps.length->bindArgs (zbg x q (eJ st) (bU st) (aO st) .none kV z J G B ct) ⟨us,[]⟩=pure (ps.zip us)):Binds K fd ps []:=by
 obtain⟨U,od,kV,z,J,G,B,ct,N,rfl,W,M⟩:=F.ex;exact .all (h kV z J G B ct)
theorem FD{x q:Str}{st:Stmt}{f:Addr}{M:Value}{od G:Option Addr}{F:Array (Option Value)}{kV B J z ct:Value}(l:K.lookup f=some ⟨M,od,.func (zbg x q (eJ st) (bU st) (aO st) .none kV B J G z ct),F⟩)
  (c:zcq K z q=true) (k:zbG K (.ref f)=true):Fun K x q st f (zbg x q (eJ st) (bU st) (aO st) .none kV B J G z ct):=⟨⟨M,od,kV,B,J,G,z,ct,F,rfl,l,c⟩,k⟩
end
theorem rE(q:Room k A):A.units+1<cLine:=zdr (Nat.add_le_add_left (by decide:1<=64) _) q.units
section
variable {X:Cx}
theorem pv(i:Nat)(B:X.N[i]?=some x:=by rfl)(z:ZN X.env.scope x:=by first|exact zaY rfl|exact zbM (zaY rfl)|exact zbM (zbM rfl))(hd:(x == ("__debug__" : Str))=false:=by decide)
  (q:(x == ("__classdict__" : Str))=false:=by decide):PE X (.Name x pos) (dB i):=YW B z hd q
end
theorem qbG{A B:Prop}(h:B):if false=true then A else B:=by
 rw[if_neg zaC];exact h
theorem qby{A B:Prop}(h:A):if true=true then A else B:=by
 rw[if_pos rfl];exact h
def Same(H H':Hp):Prop:=∀b o,H b=some o->H' b=some o
theorem Same.trans(a:Same H H1)(b:Same H1 H2):Same H H2:=λc o h=>b c o (a c o h)
theorem Same.free(e:Same H H')(h:H' l=Option.none):H l=Option.none:=by
 cases q:H l with
 | none=>rfl
 | some o=>
  rw[e l o q]at h;cases h
theorem Same.seq{K:zae}{H H':Hp}{a:Addr}{xs:List V}(e:Same H H')(h:SqL K H a xs):SqL K H' a xs:=by
 rcases h with(h|⟨o,h⟩)|h
 ·exact .inl (.inl (e _ _ h))
 ·exact .inl (.inr ⟨o,e _ _ h⟩)
 ·exact .inr h
end L2
set_option maxHeartbeats 4000000
open PySem PySem.Spec PyProof.Rows L2
namespace My
def FV(i j:Int):Prop:=(-(10^250)<i/\i<10^250)/\-(10^250)<j/\j<10^250
theorem BB(h1:-(10^250)<i)(h2:i<10^250):Builtin.Int.intBits i<=2^20:=by
 have h:i.natAbs<10^250:=by lia
 have e:(10:Nat)^250<=2^(4*250):=by
  rw[Nat.pow_mul];exact Nat.pow_le_pow_left (by decide) 250
 exact zaM (PyProof.Rows.intBits_le (za0 h e)) (by decide)
section
variable {X:Cx}
theorem TL:OpR X (zaN .Mult) (rI FV λi j=>.int (i*j)):=opI λ_ _ _ _ _ _ _ z q=>mul_int q (IntMulOk.of_bits (BB z.1.1 z.1.2) (BB z.2.1 z.2.2))
def qbM(K:zae):List V->Hp->VK->Prop:=λxs H Q=>∃x n t b,xs=[x,.ty n]/\TyOf K H x t/\zde K t (.type n)=some b/\Q (.bl b) H
theorem N5:CallR X (.builtin "isinstance") (qbM X.K):=by
 intro pins s σ H xs B Q I r h;obtain⟨x,n,t,b,rfl,ty,e,q⟩:=h;obtain⟨u,z,rfl,r1,r2⟩:=vals2 r;cases r2;exact KR I r1 ty e λtk=>⟨.bl b,H,I.tok tk,rfl,q⟩
end
structure Ok(P:zai)(w:World)(K:zae)(mg:Str->Option Value)(base:Heap)(x:Str)(k:Nat)(ps:List Str)(sp:Sp):Prop where
 ex:∃f fd,zbG K (.ref f)=true/\Binds K fd ps []/\mg x=some (.ref f)/\FnOk P w K mg base wC k f fd ps sp
structure DefAt(K:zae)(mg:Str->Option Value)(x:Str)(st:Stmt)(ps:List Str):Prop where
 ex:∃f fd,Fun K x x st f fd/\Binds K fd ps []/\mg x=some (.ref f)
def XS(sp:Sp)(t:TA):TE:=λσ H Q=>t σ H λvs H1=>sp vs H1 Q E0
section
variable {X:Cx}{x:Str}{k:Nat}{ps:List Str}{sp:Sp}{e:Expr}{es:List Expr}{t:TA}{p pos:Pos}
theorem MH(O:Ok X.prog X.w X.K X.mg X.base x k ps sp)(G:Room k X.A)(W:Gl X x)(N:PA X (e::es) t)(q:(x == ("__debug__" : Str))=false:=by decide)
  (M:zag (e::es) X.env=(false,eval e X.env)::zag es X.env:=by rfl) (z:(zaH pos (zag es X.env)).any (·.1)=false:=by rfl) :
  PE X (.Call (.Name x p) (e::es) [] pos) (XS sp t):=by
 obtain⟨f,fd,J,B,U,F⟩:=O.ex;have h:=y9 (p:=p) (pos:=pos) F G W U J B .nil IP N q M z;intro pins s σ H Q I hw;refine h pins s σ H Q I ?_;have e:(λ(vs:List V) (H1:Hp)=>sp (vs++[]) H1 Q E0)=λvs H1=>sp vs H1 Q E0:=by
  funext vs H1;rw[zbw]
 show t σ H λvs H1=>sp (vs++[]) H1 Q E0
 rw[e];exact hw
end
section
variable {P:zai}{w:World}{K:zae}{mg:Str->Option Value}{base:Heap}
def BodyOk(P:zai)(w:World)(K:zae)(mg:Str->Option Value)(base:Heap)(x:Str)(st:Stmt)(N:List Str)(k:Nat)(sp:Sp):Prop:=
 ∀(f:Addr) (cdv:Value) (A:zao) (outer:List Env) (s:zad) (H:Hp) (vs:List V) (Q:VK) (E:XK),Room k (A.deeper (zaO x (aO st) s.heap.objs.size f cdv))->sp vs H Q E->
   ∃t,PSs (jZ wC P w K mg base N x (aO st) f cdv A outer s H E).nox (bU st) t/\t {nx:=λ_ H'=>Q .non H',rt:=Q} (start N vs) H
theorem BodyOk.fn{x:Str}{st:Stmt}{N ps:List Str}{k:Nat}{sp:Sp}{f:Addr}{fd:zbe}(z:BodyOk P w K mg base x st N k sp)(F:Fun K x x st f fd)(S:FnScope N ps (aO st))(G:∀vs H Q E,sp vs H Q E->vs.length=ps.length) :
  FnOk P w K mg base wC (k+1) f fd ps sp:=F.ok S G λB A q s H vs Q E J h=>z f B A q s H vs Q E J h
theorem BodyOk.ok{x:Str}{st:Stmt}{N ps:List Str}{k:Nat}{sp:Sp}(q:BodyOk P w K mg base x st N k sp)(D:DefAt K mg x st ps)(S:FnScope N ps (aO st))(z:∀vs H Q E,sp vs H Q E->vs.length=ps.length) :
  Ok P w K mg base x (k+1) ps sp:=by
 obtain⟨f,fd,F,B,G⟩:=D.ex;exact⟨f,fd,F.kp,B,G,q.fn F S z⟩
theorem Ok.mono(O:Ok P w K mg base x j ps sp)(h:j<=k):Ok P w K mg base x k ps sp:=by
 obtain⟨f,fd,q,z,B,F⟩:=O.ex;exact⟨f,fd,q,z,B,F.mono h⟩
end
def C3(K:zae):Sp:=λvs H Q _=>∃(a:Addr) (ns:List Int),vs=[.ref a]/\SqL K H a (ns.map V.int)/\ns.length<=63/\∀H',Q (.bl true) H'
theorem walk{l:zec}{q:zai}{B:List Str}{Y:(Str->Option Value)->Heap->Prop}{J:World->Heap->Prop}{d:DefRec}{K:Params->zae}{k:Nat}(U:k<=100)(M:l.most=some 63)(G:d.params.defaults=[])
  (hY:∀(w:World) (h:Heap),J w h->(K w.params).In h)
  (F:∀(w:World) (mg:Str -> Option Value) (fa:Addr) (h:Heap), (K w.params).In h -> h.Ns zaL mg -> mg d.name = some (.ref fa) ->
   ∃fd:zbe,(∀(s:zad) (u:Value),BindsTo s fd ⟨[u],[]⟩ [("script",u)])/\∀base:Heap,(K w.params).In base->base.Ns zaL mg->FnOk l.prog w (K w.params) mg base wC k fa fd ["script"] (C3 (K w.params))) :
  PySem.W.WalkO q B Y J l.row.toRowW d [] (λf vs=>PySem.call f vs):=
 L2.TN (n:=63) (k:=k) (x := "script") (CX:=λ_=>wC) (sp:=λw=>C3 (K w.params)) M (by decide) G (Room.mono (k:=100) ⟨rfl,by decide,by decide⟩ U) hY F (λ_ _ a ns N _ hS=>⟨a,ns,rfl,hS,N,λ_=>rfl⟩) λ_ _ _ _ _ z=>z
theorem NE(h:H p=none):Same H (upd H p o):=λb u e=>by
 rw[aG (bJ e h)];exact e
theorem Same.tupR{K:zae}{H H':Hp}{a:Addr}{xs:List V}(e:Same H H')(h:SqT K H a xs):SqT K H' a xs:=by
 rcases h with(h|⟨o,h⟩)|h
 ·exact .inl (.inl (e _ _ h))
 ·exact .inl (.inr ⟨o,e _ _ h⟩)
 ·exact .inr h
noncomputable def num(c:Int):Int:=if c%3=0 then c/3%21-10 else c/3%(2*10^60-1)-(10^60-1)
theorem boot_len:zaG "len" = some (.builtin "len"):=by decide +kernel
theorem boot_max:zaG "max" = some (.builtin "max"):=by decide +kernel
theorem boot_min:zaG "min" = some (.builtin "min"):=by decide +kernel
theorem boot_isinstance:zaG "isinstance" = some (.builtin "isinstance"):=by decide +kernel
theorem boot_int:zaG "int" = some (.type "int"):=by decide +kernel
theorem boot_bool:zaG "bool" = some (.type "bool"):=by decide +kernel
theorem boot_tuple:zaG "tuple" = some (.type "tuple"):=by decide +kernel
theorem boot_list:zaG "list" = some (.type "list"):=by decide +kernel
theorem boot_dict:zaG "dict" = some (.type "dict"):=by decide +kernel
theorem boot_str:zaG "str" = some (.type "str"):=by decide +kernel
theorem boot_range:zaG "range" = some (.type "range"):=by decide +kernel
theorem boot_zip:zaG "zip" = some (.type "zip"):=by decide +kernel
theorem boot_sum:zaG "sum" = some (.builtin "sum"):=by decide +kernel
theorem boot_all:zaG "all" = some (.builtin "all"):=by decide +kernel
end My
namespace My
open PySem.SeqAt
inductive Dx where
 | non|bl (b:Bool)|int (i:Int)|str (x:Str)|tup (l:List Dx)|lst (l:List Dx)
mutual
def Rep(K:zae)(H:Hp):Dx->V->Prop
 | .non,v=>v=.non
 | .bl b,v=>v=.bl b
 | .int i,v=>v=.int i
 | .str x,v=>v=.str x
 | .tup l,v=>∃a xs,v=.ref a/\SqT K H a xs/\RepL K H l xs
 | .lst l,v=>∃a xs,v=.ref a/\SqL K H a xs/\RepL K H l xs
def RepL(K:zae)(H:Hp):List Dx->List V->Prop
 | [],vs=>vs=[]
 | d::ds,vs=>∃x xs,vs=x::xs/\Rep K H d x/\RepL K H ds xs
end
section
variable {K:zae}{H H':Hp}
mutual
theorem Rep.same(e:Same H H'):∀(d:Dx) (v:V),Rep K H d v->Rep K H' d v
 | .non,v,h=>by rw[Rep]at h ⊢;exact h
 | .bl b,v,h=>by rw[Rep]at h ⊢;exact h
 | .int i,v,h=>by rw[Rep]at h ⊢;exact h
 | .str x,v,h=>by rw[Rep]at h ⊢;exact h
 | .tup l,v,h=>by
  rw[Rep]at h ⊢;obtain⟨a,xs,q,h1,h2⟩:=h;exact⟨a,xs,q,Same.tupR e h1,RepL.same e l xs h2⟩
 | .lst l,v,h=>by
  rw[Rep]at h ⊢;obtain⟨a,xs,q,h1,h2⟩:=h;exact⟨a,xs,q,e.seq h1,RepL.same e l xs h2⟩
theorem RepL.same(e:Same H H'):∀(ds:List Dx) (vs:List V),RepL K H ds vs->RepL K H' ds vs
 | [],vs,h=>by rw[RepL]at h ⊢;exact h
 | d::ds,vs,h=>by
  rw[RepL]at h ⊢;obtain⟨x,xs,q,h1,h2⟩:=h;exact⟨x,xs,q,Rep.same e d x h1,RepL.same e ds xs h2⟩
end
theorem RepL.nil:RepL K H [] []:=by rw[RepL]
theorem RepL.cons(h1:Rep K H d v)(h2:RepL K H ds vs):RepL K H (d::ds) (v::vs):=by
 rw[RepL];exact⟨v,vs,rfl,h1,h2⟩
theorem RepL.length:∀ {ds:List Dx} {vs:List V},RepL K H ds vs->vs.length=ds.length
 | [],vs,h=>by rw[RepL]at h;rw[h];rfl
 | d::ds,vs,h=>by
  rw[RepL]at h;obtain⟨x,xs,rfl,_,h2⟩:=h;rw[zaz,zaz,RepL.length h2]
theorem RepL.get':∀ {ds:List Dx} {vs:List V} {i:Nat} {d:Dx},RepL K H ds vs->ds[i]?=some d->∃v,vs[i]?=some v/\Rep K H d v
 | [],vs,i,d,h,e=>by simp at e
 | d'::ds,vs,i,d,h,e=>by
  rw[RepL]at h;obtain⟨x,xs,rfl,h1,h2⟩:=h;cases i with
  | zero=>simp at e;subst e;exact⟨x,rfl,h1⟩
  | succ i=>exact RepL.get' (i:=i) (ds:=ds) h2 (by simpa using e)
theorem RepL.append:∀ {ds es:List Dx} {vs us:List V},RepL K H ds vs->RepL K H es us->RepL K H (ds++es) (vs++us)
 | [],es,vs,us,h,h'=>by rw[RepL]at h;rw[h];exact h'
 | d::ds,es,vs,us,h,h'=>by
  rw[RepL]at h;obtain⟨x,xs,rfl,h1,h2⟩:=h;exact RepL.cons h1 (RepL.append h2 h')
mutual
def Dx.dep:Dx->Nat
 | .tup l=>pA l+1
 | .lst l=>pA l+1
 | .non=>0
 | .bl _=>0
 | .int _=>0
 | .str _=>0
def pA:List Dx->Nat
 | []=>0
 | d::ds=>max d.dep (pA ds)
end
mutual
def Dx.nb:Dx->Bool
 | .bl _=>false
 | .tup l=>IZ l
 | .lst l=>IZ l
 | .non=>true
 | .int _=>true
 | .str _=>true
def IZ:List Dx->Bool
 | []=>true
 | d::ds=>d.nb && IZ ds
end
theorem F5:∀ {ds:List Dx} {i:Nat} {d:Dx},ds[i]?=some d->d.dep<=pA ds
 | [],i,d,e=>by simp at e
 | d'::ds,0,d,e=>by simp at e;subst e;rw[pA];lia
 | d'::ds,i+1,d,e=>by
  have:=F5 (ds:=ds) (i:=i) (by simpa using e);rw[pA];lia
theorem EY:∀ {ds:List Dx} {i:Nat} {d:Dx},IZ ds=true->ds[i]?=some d->d.nb=true
 | [],i,d,_,e=>by simp at e
 | d'::ds,0,d,h,e=>by simp at e;subst e;rw[IZ,zaS]at h;exact h.1
 | d'::ds,i+1,d,h,e=>by
  rw[IZ,zaS]at h;exact EY h.2 (by simpa using e)
end
section
variable {X:Cx}{pins:List (Addr×Obj)}{σ:L2.St}{H:Hp}{s:zad}
theorem GX(I:Inv X pins σ H s)(h1:SqL X.K H a xs)(h2:SqT X.K H a ys):False:=by
 obtain⟨B,_,⟨o,n,e,c,_⟩,_⟩:=I.list h1;obtain⟨its',_,⟨o',z,q,_⟩,_⟩:=I.tuple h2;rw[e]at z;cases z;rw[c]at q;exact absurd q (by decide)
mutual
theorem Rep.inj(I:Inv X pins σ H s):∀(d e:Dx) (v:V),Rep X.K H d v->Rep X.K H e v->d=e
 | .non,e,v,h,h'=>by
  rw[Rep]at h;subst h;cases e <;> (rw[Rep]at h') <;> first|rfl|(cases h';done)|(obtain⟨_,_,z,_⟩:=h';cases z)
 | .bl b,e,v,h,h'=>by
  rw[Rep]at h;subst h;cases e <;> (rw[Rep]at h') <;> first|(cases h';rfl)|(cases h';done)|(obtain⟨_,_,z,_⟩:=h';cases z)
 | .int i,e,v,h,h'=>by
  rw[Rep]at h;subst h;cases e <;> (rw[Rep]at h') <;> first|(cases h';rfl)|(cases h';done)|(obtain⟨_,_,z,_⟩:=h';cases z)
 | .str x,e,v,h,h'=>by
  rw[Rep]at h;subst h;cases e <;> (rw[Rep]at h') <;> first|(cases h';rfl)|(cases h';done)|(obtain⟨_,_,z,_⟩:=h';cases z)
 | .tup l,e,v,h,h'=>by
  rw[Rep]at h;obtain⟨a,xs,rfl,h1,h2⟩:=h;cases e with
  | tup m=>
   rw[Rep]at h';obtain⟨b,ys,q,B,F⟩:=h';cases q;have G:=I.tuple_inj h1 B;subst G;rw[RepL.inj I l m xs h2 F]
  | lst m=>
   rw[Rep]at h';obtain⟨b,ys,q,B,F⟩:=h';cases q;exact(GX I B h1).elim
  | non=>rw[Rep]at h';cases h'
  | bl b=>rw[Rep]at h';cases h'
  | int i=>rw[Rep]at h';cases h'
  | str x=>rw[Rep]at h';cases h'
 | .lst l,e,v,h,h'=>by
  rw[Rep]at h;obtain⟨a,xs,rfl,h1,h2⟩:=h;cases e with
  | lst m=>
   rw[Rep]at h';obtain⟨b,ys,q,B,F⟩:=h';cases q;have G:=I.list_inj h1 B;subst G;rw[RepL.inj I l m xs h2 F]
  | tup m=>
   rw[Rep]at h';obtain⟨b,ys,q,B,F⟩:=h';cases q;exact(GX I h1 B).elim
  | non=>rw[Rep]at h';cases h'
  | bl b=>rw[Rep]at h';cases h'
  | int i=>rw[Rep]at h';cases h'
  | str x=>rw[Rep]at h';cases h'
theorem RepL.inj(I:Inv X pins σ H s):∀(ds es:List Dx) (vs:List V),RepL X.K H ds vs->RepL X.K H es vs->ds=es
 | [],es,vs,h,h'=>by
  rw[RepL]at h;subst h;cases es with
  | nil=>rfl
  | cons e es=>rw[RepL]at h';obtain⟨_,_,z,_⟩:=h';cases z
 | d::ds,es,vs,h,h'=>by
  rw[RepL]at h;obtain⟨x,xs,rfl,h1,h2⟩:=h;cases es with
  | nil=>rw[RepL]at h';cases h'
  | cons e es=>
   rw[RepL]at h';obtain⟨_,_,z,B,q⟩:=h';cases z;rw[Rep.inj I d e x h1 B,RepL.inj I ds es xs h2 q]
end
end
open Classical in
theorem yF:∀(ds es:List Dx),((zas (min ds.length es.length)).all (λj=>decide (ds.getD j .non=es.getD j .non)) && ds.length == es.length)=decide (ds=es):=by
 intro ds es;by_cases h:ds=es
 ·subst h
  simp
 ·rw[decide_eq_false h]
  by_cases q:ds.length=es.length
  ·simp only[q,Nat.min_self,beq_self_eq_true,Bool.and_true]
   rw[Bool.eq_false_iff];intro z;rw[zed]at z;refine h (List.ext_getElem q λi h1 h2=>?_);have:=of_decide_eq_true (z i (List.mem_range.mpr h2));simpa[List.getD,h1,h2]using this
  ·have:(ds.length == es.length)=false:=by simpa using q
   rw[this,Bool.and_false]
open Classical in
theorem CQ(ds es:List Dx)(h:ds.length=es.length):((zas ds.length).all (λj=>decide (ds.getD j .non=es.getD j .non)))=decide (ds=es):=by
 have:=yF ds es;rw[h,Nat.min_self,beq_self_eq_true,Bool.and_true]at this;rw[h];exact this
section
variable {X:Cx}{pins:List (Addr×Obj)}{σ:L2.St}{H:Hp}{s:zad}
theorem EqAt.to(h:EqAt A s u v b)(e:b=c):EqAt A s u v c:=e ▸ h
open Classical in
theorem nZ(I:Inv X pins σ H s){n:Nat}(ih:∀(A:zao) (d e:Dx) (x y:V) (u v:Value),d.dep<=n->A.units+n<cLine->d.nb=true->e.nb=true->Rep X.K H d x->Rep X.K H e y->RelV x u->RelV y v->EqAt A s u v (decide (d=e)))
  {A:zao} {ds es:List Dx} {xs ys:List V} {q vs:List Value} (hd:pA ds<=n) (hu:A.units+(n+1)<cLine) (h1:IZ ds=true) (h2:IZ es=true) (r1:RepL X.K H ds xs) (r2:RepL X.K H es ys) (F:Vals xs q) (G:Vals ys vs) :
  ∀j (h1:j<q.toArray.size) (h2:j<vs.toArray.size),EqAt A.in1 s q.toArray[j] vs.toArray[j] (decide (ds.getD j .non=es.getD j .non)):=by
 intro j j1 N;have l1:=r1.length;have l2:=r2.length;have l3:=F.length;have l4:=G.length;have k1:j<q.length:=by simpa using j1
 have k2:j<vs.length:=by simpa using N
 have z:ds[j]?=some (ds.getD j .non):=by simp[List.getD,show j<ds.length by lia]
 have B:es[j]?=some (es.getD j .non):=by simp[List.getD,show j<es.length by lia]
 obtain⟨x,ex,rx⟩:=r1.get' z;obtain⟨y,M,ry⟩:=r2.get' B;obtain⟨u,J,Y⟩:=F.get ex;obtain⟨v,ev,rv⟩:=G.get M;have W:q.toArray[j]=u:=by
  rw[zaP k1]at J;simpa using zay J
 have U:vs.toArray[j]=v:=by
  rw[zaP k2]at ev;simpa using zay ev
 rw[W,U];exact ih A.in1 _ _ x y u v (zaM (F5 z) hd) (by show A.units+1+n<cLine;lia) (EY h1 z) (EY h2 B) rx ry Y rv
end
section
variable {X:Cx}{pins:List (Addr×Obj)}{σ:L2.St}{H:Hp}{s:zad}
theorem PlainL.isList(p:PlainL h a its):h.IsList a its:=by
 obtain⟨o,n,e,c,_,d⟩:=p;exact⟨o,e,c,n,d⟩
open Classical in
theorem rQ(I:Inv X pins σ H s) :
  ∀(n:Nat) (A:zao) (d e:Dx) (x y:V) (u v:Value),d.dep<=n->A.units+n<cLine->d.nb=true->e.nb=true->Rep X.K H d x->Rep X.K H e y->RelV x u->RelV y v->EqAt A s u v (decide (d=e)):=by
 intro n;induction n with
 | zero=>
  intro A d e x y u v hd hu U J r1 r2 W B;have q:A.units<cLine:=by lia
  cases d with
  | bl b=>rw[Dx.nb]at U;cases U
  | tup l=>rw[Dx.dep]at hd;lia
  | lst l=>rw[Dx.dep]at hd;lia
  | non=>
   rw[Rep]at r1;subst r1;cases W;cases e with
   | bl b=>rw[Dx.nb]at J;cases J
   | non=>rw[Rep]at r2;subst r2;cases B;exact EqAt.to (EqAt.same _) (by simp)
   | int i=>rw[Rep]at r2;subst r2;obtain⟨t,rfl⟩:=B;exact EqAt.to (EqAt.none_int _ _) (by simp)
   | str i=>rw[Rep]at r2;subst r2;obtain⟨t,rfl⟩:=B;exact EqAt.to (EqAt.none_str _ _) (by simp)
   | tup l=>
    rw[Rep]at r2;obtain⟨a,xs,rfl,h1,_⟩:=r2;cases B;obtain⟨G,_,F,_⟩:=I.tuple h1;exact EqAt.to (EqAt.none_tuple F q) (by simp)
   | lst l=>
    rw[Rep]at r2;obtain⟨a,xs,rfl,h1,_⟩:=r2;cases B;obtain⟨G,_,F,_⟩:=I.list h1;exact EqAt.to (EqAt.none_list F.isList q) (by simp)
  | int i=>
   rw[Rep]at r1;subst r1;obtain⟨t,rfl⟩:=W;cases e with
   | bl b=>rw[Dx.nb]at J;cases J
   | non=>rw[Rep]at r2;subst r2;cases B;exact EqAt.to (EqAt.int_none _ _) (by simp)
   | int j=>rw[Rep]at r2;subst r2;obtain⟨t',rfl⟩:=B;exact EqAt.to (EqAt.int_int _ _ _ _) (by simp[Bool.beq_eq_decide_eq])
   | str j=>rw[Rep]at r2;subst r2;obtain⟨t',rfl⟩:=B;exact EqAt.to (EqAt.int_str _ _ _ _) (by simp)
   | tup l=>
    rw[Rep]at r2;obtain⟨a,xs,rfl,h1,_⟩:=r2;cases B;obtain⟨G,_,F,_⟩:=I.tuple h1;exact EqAt.to (EqAt.int_tuple _ _ F q) (by simp)
   | lst l=>
    rw[Rep]at r2;obtain⟨a,xs,rfl,h1,_⟩:=r2;cases B;obtain⟨G,_,F,_⟩:=I.list h1;exact EqAt.to (EqAt.int_list _ _ F.isList q) (by simp)
  | str i=>
   rw[Rep]at r1;subst r1;obtain⟨t,rfl⟩:=W;cases e with
   | bl b=>rw[Dx.nb]at J;cases J
   | non=>rw[Rep]at r2;subst r2;cases B;exact EqAt.to (EqAt.str_none _ _) (by simp)
   | int j=>rw[Rep]at r2;subst r2;obtain⟨t',rfl⟩:=B;exact EqAt.to (EqAt.str_int _ _ _ _) (by simp)
   | str j=>rw[Rep]at r2;subst r2;obtain⟨t',rfl⟩:=B;exact EqAt.to (EqAt.str_str _ _ _ _) (by simp[Bool.beq_eq_decide_eq])
   | tup l=>
    rw[Rep]at r2;obtain⟨a,xs,rfl,h1,_⟩:=r2;cases B;obtain⟨G,_,F,_⟩:=I.tuple h1;exact EqAt.to (EqAt.str_tuple _ _ F q) (by simp)
   | lst l=>
    rw[Rep]at r2;obtain⟨a,xs,rfl,h1,_⟩:=r2;cases B;obtain⟨G,_,F,_⟩:=I.list h1;exact EqAt.to (EqAt.str_list _ _ F.isList q) (by simp)
 | succ n ih=>
  intro A d e x y u v hd hu U J r1 r2 W B;have q:A.units<cLine:=by lia
  cases d with
  | bl b=>rw[Dx.nb]at U;cases U
  | non=>exact ih A _ e x y u v (by rw[Dx.dep];lia) (by lia) U J r1 r2 W B
  | int i=>exact ih A _ e x y u v (by rw[Dx.dep];lia) (by lia) U J r1 r2 W B
  | str i=>exact ih A _ e x y u v (by rw[Dx.dep];lia) (by lia) U J r1 r2 W B
  | tup l=>
   have aa:=r1;rw[Rep]at r1;obtain⟨a,xs,rfl,h1,q1⟩:=r1;cases W;obtain⟨G,v1,F,_⟩:=I.tuple h1;cases e with
   | bl b=>rw[Dx.nb]at J;cases J
   | non=>rw[Rep]at r2;subst r2;cases B;exact EqAt.to (EqAt.tuple_none F q) (by simp)
   | int j=>rw[Rep]at r2;subst r2;obtain⟨t',rfl⟩:=B;exact EqAt.to (EqAt.tuple_int _ _ F q) (by simp)
   | str j=>rw[Rep]at r2;subst r2;obtain⟨t',rfl⟩:=B;exact EqAt.to (EqAt.tuple_str _ _ F q) (by simp)
   | lst m=>
    rw[Rep]at r2;obtain⟨b,ys,rfl,h2,q2⟩:=r2;cases B;obtain⟨N,Y,M,_⟩:=I.list h2;exact EqAt.to (EqAt.tuple_list F M.isList q) (by simp)
   | tup m=>
    by_cases hv:v=zau a
    ·subst hv
     obtain rfl:y=V.ref a:=RelV.inj B rfl;have:=Rep.inj I _ _ _ aa r2;rw[this];exact EqAt.to (EqAt.same _) (by simp)
    ·rw[Rep]at r2;obtain⟨b,ys,rfl,h2,q2⟩:=r2;cases B
     obtain⟨N,Y,M,_⟩:=I.tuple h2;rw[Dx.dep]at hd;rw[Dx.nb]at U J;refine EqAt.to (EqAt.of_refs (λz=>hv (by rw[z])) (RcAt.tuples F M q (nZ I ih (by lia) hu U J q1 q2 v1 Y))) ?_;have e1:G.toArray.size=l.length:=by rw[zax,<- v1.length,q1.length]
     have e2:N.toArray.size=m.length:=by rw[zax,<- Y.length,q2.length]
     rw[e1,e2,yF];simp
  | lst l=>
   have aa:=r1;rw[Rep]at r1;obtain⟨a,xs,rfl,h1,q1⟩:=r1;cases W;obtain⟨G,v1,F,_⟩:=I.list h1;cases e with
   | bl b=>rw[Dx.nb]at J;cases J
   | non=>rw[Rep]at r2;subst r2;cases B;exact EqAt.to (EqAt.list_none F.isList q) (by simp)
   | int j=>rw[Rep]at r2;subst r2;obtain⟨t',rfl⟩:=B;exact EqAt.to (EqAt.list_int _ _ F.isList q) (by simp)
   | str j=>rw[Rep]at r2;subst r2;obtain⟨t',rfl⟩:=B;exact EqAt.to (EqAt.list_str _ _ F.isList q) (by simp)
   | tup m=>
    rw[Rep]at r2;obtain⟨b,ys,rfl,h2,q2⟩:=r2;cases B;obtain⟨N,Y,M,_⟩:=I.tuple h2;exact EqAt.to (EqAt.list_tuple F.isList M q) (by simp)
   | lst m=>
    by_cases hv:v=zau a
    ·subst hv
     obtain rfl:y=V.ref a:=RelV.inj B rfl;have:=Rep.inj I _ _ _ aa r2;rw[this];exact EqAt.to (EqAt.same _) (by simp)
    ·rw[Rep]at r2;obtain⟨b,ys,rfl,h2,q2⟩:=r2;cases B
     obtain⟨N,Y,M,_⟩:=I.list h2;rw[Dx.dep]at hd;rw[Dx.nb]at U J;have e1:G.toArray.size=l.length:=by rw[zax,<- v1.length,q1.length]
     have e2:N.toArray.size=m.length:=by rw[zax,<- Y.length,q2.length]
     by_cases hl:l.length=m.length
     ·refine EqAt.to (EqAt.of_refs (λz=>hv (by rw[z])) (RcAt.lists F.isList M.isList (by rw[e1,e2,hl]) q (nZ I ih (by lia) hu U J q1 q2 v1 Y))) ?_
      rw[e1,CQ _ _ hl];simp
     ·refine EqAt.to (EqAt.of_refs (λz=>hv (by rw[z])) (RcAt.lists_lengths F.isList M.isList (by rw[e1,e2];simpa using hl) q)) ?_
      rw[decide_eq_false];intro z;cases z;exact hl rfl
end
noncomputable def Dx.seq:Dx->Bool
 | .tup _=>true | .lst _=>true | .non=>false | .bl _=>false | .int _=>false | .str _=>false
open Classical in
def qaF(K:zae)(neg:Bool):R2:=λx y H Q=>∃d e,Rep K H d x/\Rep K H e y/\d.seq=true/\e.seq=true/\d.nb=true/\e.nb=true/\d.dep<=60/\Q (.bl (if neg then !decide (d=e)else decide (d=e))) H
section
variable {X:Cx}{pins:List (Addr×Obj)}{σ:L2.St}{H:Hp}{s:zad}
open Classical in
theorem VO(I:Inv X pins σ H s)(hu:X.A.units+64<cLine)(r1:Rep X.K H d x)(r2:Rep X.K H e y)(q1:d.seq=true)(J:e.seq=true)(n1:d.nb=true)(n2:e.nb=true)(hd:d.dep<=60)(ru:RelV x u)(rv:RelV y v) :
  RcAt X.A s u v (decide (d=e))/\RcNeAt X.A s u v (!decide (d=e)):=by
 have B:X.A.units<cLine:=by lia
 cases d with
 | bl b=>cases q1
 | non=>cases q1
 | int b=>cases q1
 | str b=>cases q1
 | tup l=>
  rw[Rep]at r1;obtain⟨a,xs,rfl,h1,k1⟩:=r1;cases ru;obtain⟨M,v1,G,_⟩:=I.tuple h1;have U:M.toArray.size=l.length:=by rw[zax,<- v1.length,k1.length]
  cases e with
  | bl b=>cases J
  | non=>cases J
  | int b=>cases J
  | str b=>cases J
  | tup m=>
   rw[Rep]at r2;obtain⟨b,ys,rfl,h2,k2⟩:=r2;cases rv;obtain⟨F,N,q,_⟩:=I.tuple h2;have Y:F.toArray.size=m.length:=by rw[zax,<- N.length,k2.length]
   rw[Dx.dep]at hd;rw[Dx.nb]at n1 n2;have he:=nZ I (rQ I 60) (A:=X.A) (by lia) (by lia) n1 n2 k1 k2 v1 N;have a1:=RcAt.tuples G q B he;have a2:=RcNeAt.tuples G q B he;rw[U,Y,yF]at a1 a2;have z:decide (Dx.tup l=Dx.tup m)=decide (l=m):=by simp
   rw[z];exact⟨a1,a2⟩
  | lst m=>
   rw[Rep]at r2;obtain⟨b,ys,rfl,h2,k2⟩:=r2;cases rv;obtain⟨F,N,q,_⟩:=I.list h2;have z:decide (Dx.tup l=Dx.lst m)=false:=by simp
   rw[z];exact⟨RcAt.tuple_list G q.isList B,RcNeAt.tuple_list G q.isList B⟩
 | lst l=>
  rw[Rep]at r1;obtain⟨a,xs,rfl,h1,k1⟩:=r1;cases ru;obtain⟨M,v1,G,_⟩:=I.list h1;have U:M.toArray.size=l.length:=by rw[zax,<- v1.length,k1.length]
  cases e with
  | bl b=>cases J
  | non=>cases J
  | int b=>cases J
  | str b=>cases J
  | tup m=>
   rw[Rep]at r2;obtain⟨b,ys,rfl,h2,k2⟩:=r2;cases rv;obtain⟨F,N,q,_⟩:=I.tuple h2;have z:decide (Dx.lst l=Dx.tup m)=false:=by simp
   rw[z];exact⟨RcAt.list_tuple G.isList q B,RcNeAt.list_tuple G.isList q B⟩
  | lst m=>
   rw[Rep]at r2;obtain⟨b,ys,rfl,h2,k2⟩:=r2;cases rv;obtain⟨F,N,q,_⟩:=I.list h2;have Y:F.toArray.size=m.length:=by rw[zax,<- N.length,k2.length]
   rw[Dx.dep]at hd;rw[Dx.nb]at n1 n2;have z:decide (Dx.lst l=Dx.lst m)=decide (l=m):=by simp
   rw[z];by_cases W:l.length=m.length
   ·have he:=nZ I (rQ I 60) (A:=X.A) (by lia) (by lia) n1 n2 k1 k2 v1 N
    have a1:=RcAt.lists G.isList q.isList (by rw[U,Y,W]) B he;have a2:=RcNeAt.lists G.isList q.isList (by rw[U,Y,W]) B he;rw[U,CQ _ _ W]at a1 a2;exact⟨a1,a2⟩
   ·have z2:decide (l=m)=false:=decide_eq_false λz=>W (by rw[z])
    rw[z2];exact⟨RcAt.lists_lengths G.isList q.isList (by rw[U,Y];simpa using W) B,RcNeAt.lists_lengths G.isList q.isList (by rw[U,Y];simpa using W) B⟩
end
section
variable {X:Cx}
theorem XU(B:X.A.units+64<cLine):OpR X (zaB .Eq) (qaF X.K false):=by
 intro pins s σ H x y v u Q I G M h;obtain⟨d,e,r1,r2,N,J,F,z,hd,q⟩:=h;exact(VO I B r1 r2 N J F z hd G M).1 X.prog X.w X.xe _ ⟨.bl _,H,I,rfl,q⟩
theorem W0(B:X.A.units+64<cLine):OpR X (zaB .NotEq) (qaF X.K true):=by
 intro pins s σ H x y v u Q I G M h;obtain⟨d,e,r1,r2,N,J,F,z,hd,q⟩:=h;exact(VO I B r1 r2 N J F z hd G M).2 X.prog X.w X.xe _ ⟨.bl _,H,I,rfl,q⟩
end
def TSame(H H':Hp):Prop:=∀b xs,Rd H b (.tup xs)->Rd H' b (.tup xs)
theorem Same.t(e:Same H H'):TSame H H':=λb xs h=>by
 rcases h with h|⟨o,h⟩
 ·exact .inl (e _ _ h)
 ·exact .inr ⟨o,e _ _ h⟩
theorem TSame.trans(a:TSame H H1)(b:TSame H1 H2):TSame H H2:=λc o h=>b c o (a c o h)
theorem TSame.put(h:H l=some (.lst us)):TSame H (upd H l o):=λb xs q=>by
 have B:b≠l:=λz=>by
  subst z;rcases q with q|⟨F,q⟩ <;> (rw[h]at q;cases q)
 rcases q with q|⟨F,q⟩
 ·exact .inl (by rw[aG B];exact q)
 ·exact .inr ⟨F,by rw[aG B];exact q⟩
theorem TSame.sq{K:zae}{H H':Hp}{a:Addr}{xs:List V}(e:TSame H H')(h:SqT K H a xs):SqT K H' a xs:=by
 rcases h with h|h
 ·exact .inl (e _ _ h)
 ·exact .inr h
mutual
def Dx.nl:Dx->Bool
 | .lst _=>false
 | .tup l=>nlL l
 | .non=>true
 | .bl _=>true
 | .int _=>true
 | .str _=>true
def nlL:List Dx->Bool
 | []=>true
 | d::ds=>d.nl && nlL ds
end
section
variable {K:zae}{H H':Hp}
mutual
theorem Rep.tsame(e:TSame H H'):∀(d:Dx) (v:V),d.nl=true->Rep K H d v->Rep K H' d v
 | .non,v,_,h=>by rw[Rep]at h ⊢;exact h
 | .bl b,v,_,h=>by rw[Rep]at h ⊢;exact h
 | .int i,v,_,h=>by rw[Rep]at h ⊢;exact h
 | .str x,v,_,h=>by rw[Rep]at h ⊢;exact h
 | .tup l,v,n,h=>by
  rw[Rep]at h ⊢;rw[Dx.nl]at n;obtain⟨a,xs,q,h1,h2⟩:=h;exact⟨a,xs,q,e.sq h1,RepL.tsame e l xs n h2⟩
 | .lst l,v,n,h=>by rw[Dx.nl]at n;cases n
theorem RepL.tsame(e:TSame H H'):∀(ds:List Dx) (vs:List V),nlL ds=true->RepL K H ds vs->RepL K H' ds vs
 | [],vs,_,h=>by rw[RepL]at h ⊢;exact h
 | d::ds,vs,n,h=>by
  rw[RepL]at h ⊢;rw[nlL,zaS]at n;obtain⟨x,xs,q,h1,h2⟩:=h;exact⟨x,xs,q,Rep.tsame e d x n.1 h1,RepL.tsame e ds xs n.2 h2⟩
end
theorem HW{q:Type}{f:q->Dx}(h:∀x,(f x).nb=true):∀l:List q,IZ (l.map f)=true
 | []=>by rw[zb0,IZ]
 | x::l=>by rw[zak,IZ,h x,HW h l];rfl
theorem BQ{q:Type}{f:q->Dx}{n:Nat}(h:∀x,(f x).dep<=n):∀l:List q,pA (l.map f)<=n
 | []=>by rw[zb0,pA];lia
 | x::l=>by
  have a:=h x;have b:=BQ h l;rw[zak,pA]
  lia
end
theorem Same.put(e:Same H H')(h:H l=none):Same H (upd H' l o):=λb u q=>by
 rw[aG (bJ q h)];exact e b u q
def aY(X:Cx)(N:List Str)(scope:Scope)(q:List (Str×Addr))(C:Addr)(s:zad)(H:Hp)(fp:List Addr):Cx where
 prog:=X.prog
 w:=X.w
 K:=X.K
 mg:=X.mg
 base:=X.base
 A:=X.A
 N:=N
 s₀:=s
 H₀:=H
 env:=compEnvC scope q C X.env
 outer:=X.stack
 stack:=X.stack
 ex:=fp
 fn:=λ_=>false
 calm:=X.calm
 pn:=[]
 xe:=λ_ _=>False
def FZ(X:Cx)(q:List Expr)(t:TT):Prop:=
 ∀(pins:List (Addr×Obj)) (s:zad) (σ:L2.St) (H:Hp) (Q:Bool->Hp->Prop),Inv X pins σ H s->t σ H Q->
  wpAny (model X.prog X.w) X.A (forIn q true λc r=>if r=true then do let ok <- isTrue c X.env (eval c X.env);pure (zcE ok)else pure (zcE r)) (TP X pins σ Q) X.xe s
def qcc:TT:=λ_ H Q=>Q true H
theorem RA:FZ X [] qcc:=λpins s σ H Q I h=>wpAny_tests_nil ⟨H,I,h⟩
theorem RU(h:PT X c t):FZ X [c] t:=λpins s σ H Q I hw=>wpAny_tests_one (h pins s σ H Q I hw)
structure Clo(X:Cx)(N:List Str)(scope:Scope)(cl:List (Str×Addr)):Prop where
 clos:closureFor scope X.env=pure cl
 kind:scope.kind=.function
 nocell:∀y∈scope.names,y.2≠.cell
 names:∀y∈scope.names,y.2=.local->scope.names.lookup y.1=some .local
 sub:∀x c,cl.lookup x=some c->X.env.cells.lookup x=some c
 has:∀x,((zbc scope X.env).names.lookup x=some .cell\/(zbc scope X.env).names.lookup x=some .free)->∃c,cl.lookup x=some c
def Start(X:Cx)(N:List Str)(scope:Scope)(σ q:L2.St):Prop:=
 q.length=N.length/\∀(j:Nat) (x:Str) (v:V),N[j]?=some x->q[j]?=some (some v)->ZN (zbc scope X.env) x->¬ (zbc scope X.env).names.lookup x=some .local/\∃i:Nat,X.N[i]?=some x/\σ[i]?=some (some v)/\(X.env.kindOf x=some .cell\/X.env.kindOf x=some .free)
def DA(wi:TI)(g:TG)(tt:TT)(te:TE)(S:L2.St->L2.St->Prop):TE:=λσ H Q=>∃B,S σ B/\wi σ H λJ H1=>∀D,H1 D=none->∃W:Nat->Nat->L2.St->List V->Hp->Prop,(∃m,W 0 m B [] (upd H1 D (.lst []))) /\
 ∀i m F z H2,W i m F z H2->(J.stop i H2/\Q (.ref D) H2)\/(J.go i H2/\z.length<zal/\∀x U,J.yld i H2 x U->g x F U λq Y=>tt q Y λok M=>
  if ok=true then te q M λv N=>N D=some (.lst z)/\∃G,G<m/\W (i+1) G q (z++[v]) (upd N D (.lst (z++[v])))else M D=some (.lst z)/\∃G,G<m/\W (i+1) G q z M)
section
variable {X:Cx}
theorem R4(B:Inv X pins σ H3 s3)(G:Clo X N scope cl)(ff:∀b∈fp,lN X pins H3 b)(fe:∀b∈fp,∃o,s3.heap.get? b=some o) :
  (aY X N scope cl s3.heap.objs.size s3 H3 fp).Ok where
 mod:=B.ok.mod
 kind:=G.kind
 glob:=B.ok.glob
 blt:=B.ok.blt
 above:=zaj _
 inj:=λx y c h1 h2=>B.ok.inj x y c (G.sub x c h1) (G.sub y c h2)
 has:=λx h=>G.has x h
 cab:=λx c h _=>nomatch h
 hd:=B.ok.hd
 frames:=B.ok.frames
 stk:=.inl rfl
 exf:=λb F=>by
  obtain⟨o,e⟩:=fe b F;exact⟨zaF (zan e),λx c h=>(ff b F).2.2.2.2.1 x c (G.sub x c h)⟩
 bs:=B.bs
 bsz:=zaM B.ok.bsz B.sz
 noex:=λb o e F=>by
  rcases(ff b F).2.2.2.1 with z|z
  ·exact B.ok.noex b o e z
  ·exact absurd (za0 (zan e) B.ok.bsz) (Nat.not_lt.mpr z)
 exfs:=λb F z=>by
  rcases List.mem_cons.mp (B.stkSub b z)with q|q
  ·exact(ff b F).2.1 q
  ·exact(ff b F).2.2.1 q
 funs:=B.stack
 frf:=B.stkFree
theorem NH(F:Inv X pins σ H3 s3)(G:Clo X N scope cl)(ff:∀b∈fp,lN X pins H3 b)(fe:∀b∈fp,∃o,s3.heap.get? b=some o)
  (st:Start X N scope σ σ') (ho:s4.os=s3.os) (hg:s4.gens=s3.gens) (M:∀b o,s3.heap.get? b=some o->s4.heap.get? b=some o) (hn:s4.heap.Ns s3.heap.objs.size m) :
  Inv (aY X N scope cl s3.heap.objs.size s3 H3 fp) [] σ' H3 s4 where
 ok:=R4 F G ff fe
 os:=ho
 bare:=by rw[hg];exact F.bare
 base:=Un.kept M
 loc:=by
  refine⟨m,hn,λj x v h1 h2 z=>?_⟩;obtain⟨nl,i,Y,e2,q⟩:=st.2 j x v h1 h2 z;obtain⟨m0,aj,ab⟩:=F.loc;have W:ZN X.env.scope x:=by
   rcases q with q|q
   ·exact .inr (.inl q)
   ·exact .inr (.inr q)
  obtain⟨u,ru,l⟩:=ab i x v Y e2 W;refine⟨u,ru,?_⟩;rcases l with⟨lk,_⟩|⟨_,c,hc,B⟩
  ·rcases q with q|q <;> (rw[lk]at q;cases q)
  ·have kk:(zbc scope X.env).names.lookup x=some .cell\/(zbc scope X.env).names.lookup x=some .free:=by
    rcases z with z|z|z
    ·exact absurd z nl
    ·exact .inl z
    ·exact .inr z
   obtain⟨c',J⟩:=G.has x kk;have ec:=G.sub x c' J;rw[hc]at ec;cases ec;obtain⟨o,aa,U⟩:=B;exact .inr ⟨kk,c,J,o,M c o aa,U⟩
 cell:=λx c e=>by
  obtain⟨v,o,Y,d1⟩:=F.cell x c (G.sub x c e);exact⟨v,o,M c o Y,d1⟩
 free:=F.hok.fresh (zaj _)
 freeC:=λx c e=>F.freeC x c (G.sub x c e)
 pin:=λp hp=>nomatch hp
 hok:=F.hok.kept M
 len:=st.1
theorem comp_back(I3:Inv X pins σ H3 s3)(ff:∀b∈fp,lN X pins H3 b)
  (F:Inv (aY X N scope cl s3.heap.objs.size s3 H3 fp) [] σ5 H5 s5) (hs:za4 s3.heap.objs.size s5.heap h'):Inv X pins σ H5 {s5 with heap:=h'}:=by
 have G:∀b o,s3.heap.get? b=some o->b≠s3.heap.objs.size:=λb o e=>zaF (zan e)
 have u:=F.base;refine I3.call' (s':={s5 with heap:=h'}) (ch:=fp) F.os ⟨λb o e n B hx=>?_,λb o e n B hx=>?_,u.free,λb o e hx=>?_,u.tups,u.frzs,u.tbls⟩ ?_ F.bare λb B=>?_
 ·exact(hs.2 b (G b o e)).trans (u.keep b o e n B hx)
 ·obtain⟨Y,q⟩:=u.slot b o e n B hx
  exact⟨Y,(hs.2 b (G b o e)).trans q⟩
 ·obtain⟨o',q⟩:=u.there b o e hx
  exact⟨o',(hs.2 b (G b o e)).trans q⟩
 ·intro b ob e
  have J:H5 s3.heap.objs.size=none:=F.free;refine(F.hok b ob e).stay (λc w' W q=>(hs.2 c ?_).trans q) (λ_ q=>q) λ_ _ q=>q
  rintro rfl;rcases W with z|z
  ·subst z;rw[J]at e;cases e
  ·rw[J]at z;cases z
 ·obtain⟨_,f1,_,f3,U,M⟩:=ff b B
  exact⟨f3,f1,U,M⟩
theorem JW(I:Nat->zad->Prop)
  (turn:∀n s, I n s -> wpAny (model prog w) A (za2 it) (λr z => match r with
   | none=>R (.ok .next) z
   | some v=>wpAny (model prog w) A (zda target it v) (λ_ q=>wpAny (model prog w) A (zbd target env v) (λ_ J=>
     wpAny (model prog w) A (forIn ifs true λc r=>if r=true then do let ok <- isTrue c env (eval c env);pure (zcE ok)else pure (zcE r)) (λok B=>
      if ok=true then wpAny (model prog w) A (eval elt env) (λx N=>
       wpAny (model prog w) A (call (.builtin "list.append") [acc,x]) (λ_ G=>∃m,m<n/\I m G) (λ_ _=>False) N) (λ_ _=>False) B
      else ∃m,m<n/\I m B) (λ_ _=>False) J) (λ_ _=>False) q) (λ_ _=>False) z) (λ_ _=>False) s)
  (n:Nat) (h:I n s) :
  zbF (model prog w) A (.compLoop (.ListComp elt [⟨target,iter,ifs,0⟩] scope pos) 0 it acc env) R s:=by
 refine codeAny_loop rfl I (λn s hI=>?_) n h;show wpAny _ A ((compTurn (.ListComp elt [⟨target,iter,ifs,0⟩] scope pos) 0 it acc env).onRaise (λx=>do noteFrame x env;theTreesLotGoes x)) _ _ s;refine wpAny_noted ?_;rw[compTurn_list];have ff:∀(e:Value) (s':zad),False->notedBy (model prog w) A env (λe s'=>R (.error e) s') e s':=λ_ _ h=>h.elim
 refine zaa (zc7 (zaa (za7 (turn n s hI) (λr z M=>?_) ff)));cases r with
 | none=>exact zaf M
 | some v=>
  refine zaa (za7 M (λ_ q U=>?_) ff);refine zaa (za7 U (λ_ J aa=>zaa (za7 aa (λok B F=>?_) ff)) ff);cases ok with
  | false=>exact zaf ⟨rfl,F⟩
  | true=>
   exact zaa (zaa (za7 F (λx N Y=>zaa (za7 Y (λ_ G W=>zaf (zaf ⟨rfl,W⟩)) ff)) ff))
theorem wG{au tg ak:Expr}{aq:List Expr}{scope:Scope}{pos:Pos}{N:List Str}{Y:List (Str×Addr)}{wi:TI}{g:TG}{tt:TT}{te:TE}{RR:Value->Addr->Result->zad->Prop}{pins:List (Addr×Obj)}{σ aj:L2.St}{Q:VK}{J:It}{H2:Hp}{B:zad}{it:Addr}{fp:List Addr}{tn:Nat->Heap->Prop}{E:Value->zad->Prop}
  (hc:X.calm=true) (cc:Clo X N scope Y) (hg:∀C s H fp,PG (aY X N scope Y C s H fp) tg g) (ht:∀C s H fp,FZ (aY X N scope Y C s H fp) aq tt) (he:∀C s H fp,PE (aY X N scope Y C s H fp) au te)
  (I2:Inv X pins σ H2 B) (T:Turn X.prog X.w X.K tg J fp it tn) (an:tn 0 B.heap) (f2:∀b∈fp,lN X pins H2 b) (sS:Start X N scope σ aj)
  (q2:∀D, H2 D = none -> ∃W:Nat -> Nat -> L2.St -> List V -> Hp -> Prop, (∃m, W 0 m aj [] (upd H2 D (.lst []))) /\
   ∀i m M F H2,W i m M F H2->(J.stop i H2/\Q (.ref D) H2)\/(J.go i H2/\F.length<zal/\∀x G,J.yld i H2 x G->g x M G λai H4=>tt ai H4 λok H5=>
    if ok=true then te ai H5 λv H6=>H6 D=some (.lst F)/\∃m',m'<m/\W (i+1) m' ai (F++[v]) (upd H6 D (.lst (F++[v])))else H5 D=some (.lst F)/\∃m',m'<m/\W (i+1) m' ai F H5))
  (bh:∀(s3 s5:zad) (G H5:Hp) (aa:L2.St) (D:Addr),Inv X pins σ G s3->(∀b∈fp,lN X pins G b)->Inv (aY X N scope Y s3.heap.objs.size s3 G fp) [] aa H5 s5->Q (.ref D) H5->RR (.ref D) s3.heap.objs.size (.ok .next) s5) :
  wpAny (model X.prog X.w) X.A (newList []) (λacc a5=>wpAny (model X.prog X.w) X.A (newFunctionEnv scope X.env.globals Y [] X.env.qual none .none (some X.env)) (λam a1=>
   zbF (model X.prog X.w) X.A (.compStart (.ListComp au [⟨tg,ak,aq,0⟩] scope pos) 0 (.ref it) acc {am with scope:=zbc scope X.env}) (RR acc am.locals) a1) E a5) E B:=by
 refine zbK (wpAny_newFunctionEnv cc.nocell (by intro y hy;simp at hy) (λh1 ag ae=>?_) cc.kind);dsimp only at ag ae ⊢;have I3:Inv X pins σ (upd H2 B.heap.objs.size (.lst [])) {B with heap:=B.heap.push {cls:=.type "list",dict:=none,data:=.seq ([]:List Value).toArray} }:=I2.lnew (t':=B.toks) .nil (zaJ _);have hD:H2 B.heap.objs.size=none:=I2.fresh;have bl:∀b∈fp,b≠B.heap.objs.size:=λb q=>by
  obtain⟨o,e,_⟩:=T.obj 0 _ an b q;exact zaF (zan e)
 have fe:∀b∈fp,∃o,(B.heap.push {cls:=.type "list",dict:=none,data:=.seq ([]:List Value).toArray}).get? b=some o:=λb q=>by
  obtain⟨o,e,_⟩:=T.obj 0 _ an b q;exact⟨o,zam _ e⟩
 have f3:∀b∈fp,lN X pins (upd H2 B.heap.objs.size (.lst [])) b:=λb q=>⟨by rw[aG (bl b q)];exact(f2 b q).1,(f2 b q).2⟩
 obtain⟨W,⟨m0,w0⟩,turn⟩:=q2 B.heap.objs.size hD;have a8:(upd H2 B.heap.objs.size (.lst [])) B.heap.objs.size=some (.lst []):=aL;generalize hs3:({B with heap:=B.heap.push {cls:=.type "list",dict:=none,data:=.seq ([]:List Value).toArray} }:zad)=s3 at I3;have e3:B.heap.push {cls:=.type "list",dict:=none,data:=.seq ([]:List Value).toArray}=s3.heap:=by rw[<- hs3]
 rw[e3]at ag ae fe ⊢;generalize B.heap.objs.size=D at *;generalize upd H2 D (.lst [])=G at *;have as:∀b o,s3.heap.get? b=some o->h1.get? b=some o:=λb o e=>(ae.2 b (zaF (zan e))).trans (zam _ e)
 have ax:tn 0 s3.heap:=by
  refine T.keep 0 _ _ an λb q o e=>?_
  rw[<- e3];exact zam _ e
 have al:∀s4:zad,s4={B with heap:=h1,toks:=B.toks+([]:List (Str×Value)).length}->
   zbF (model X.prog X.w) X.A (.compLoop (.ListComp au [⟨tg,ak,aq,0⟩] scope pos) 0 (.ref it) (.ref D) (compEnvC scope Y s3.heap.objs.size X.env)) (RR (.ref D) s3.heap.objs.size) s4:=by
  rintro s4 rfl;have I4:Inv (aY X N scope Y s3.heap.objs.size s3 G fp) [] aj G {B with heap:=h1,toks:=B.toks+([]:List (Str×Value)).length}:=
   NH (m:=λx=>([]:List (Str×Value)).reverse.lookup x) I3 cc f3 fe sS (by rw[<- hs3]) (by rw[<- hs3]) as ag
  have ap:∀ {H':Hp},(∀b∈fp,H' b=none)->∀b∈fp,lN (aY X N scope Y s3.heap.objs.size s3 G fp) [] H' b:=λhn b q=>by
   have ok:=I4.ok;exact⟨hn b q,(ok.exf b q).1,ok.exfs b q,.inl q,(ok.exf b q).2,λp hp=>nomatch hp⟩
  refine JW (λn s'=>∃i M F H',Inv (aY X N scope Y s3.heap.objs.size s3 G fp) [] M H' s'/\tn i s'.heap/\(∀b∈fp,H' b=none)/\H' D=some (.lst F)/\W i n M F H') ?_ m0 ⟨0,aj,[],G,I4,T.keep 0 _ _ ax λb q o e=>as b o e,λb q=>(f3 b q).1,a8,w0⟩;rintro n s5 ⟨i,aa,F,H5,I5,aw,az,b4,w5⟩;rcases turn i n aa F H5 w5 with⟨a2,qn⟩|⟨go,a4,step⟩
  ·refine cK (T.done (aY X N scope Y s3.heap.objs.size s3 G fp) rfl rfl rfl hc i [] s5 aa H5 _ I5 (ap az) aw a2) λr s6 ⟨hr,I6⟩=>?_
   subst hr;exact bh s3 s6 G H5 aa D I3 f3 I6 qn
  ·refine cK (T.item (aY X N scope Y s3.heap.objs.size s3 G fp) rfl rfl rfl hc i [] s5 aa H5 _ I5 (ap az) aw go) λr s6 ⟨u,hr,h6⟩=>?_
   subst hr;refine cK h6 λ_ s7 ⟨x,H7,I7,r7,y7,ar,bj⟩=>?_
   have ba:=I7.pinned (ap bj) (T.obj _ _ ar);refine cK (hg _ _ _ _ _ s7 aa H7 x u _ ba r7 (step x H7 y7)) λ_ s8 ⟨ab,H8,I8,q8⟩=>?_
   refine cK (ht _ _ _ _ _ s8 ab H8 _ I8 q8) λok s9 ⟨H9,I9,q9⟩=>?_
   have fin:∀ {ac:zad} {U:Hp} {vs:List V},Inv (aY X N scope Y s3.heap.objs.size s3 G fp) ([]++u5 fp s7.heap) ab U ac->U D=some (.lst vs)->(∃m',m'<n/\W (i+1) m' ab vs U)->
     ∃m,m<n/\∃i M F H',Inv (aY X N scope Y s3.heap.objs.size s3 G fp) [] M H' ac/\tn i ac.heap/\(∀b∈fp,H' b=none)/\H' D=some (.lst F)/\W i m M F H':=λ{ac U vs} af hd ⟨m',hm,bo⟩=>by
    refine⟨m',hm,i+1,ab,vs,U,af.unpinned,T.keep _ _ _ ar λb q o e=>(af.pin (b,o) (zaU _ (zaU _ (jB q e)))).1,λb q=>?_,hd,bo⟩;obtain⟨o,e,d⟩:=T.obj _ _ ar b q;exact(af.pin (b,o) (zaU _ (zaU _ (jB q e)))).2.1
   cases ok with
   | false=>
    rw[if_neg zaC]at q9 ⊢;exact fin I9 q9.1 q9.2
   | true=>
    rw[if_pos rfl]at q9 ⊢;refine cK (he _ _ _ _ _ s9 ab H9 _ I9 q9) λy ac ⟨v,U,af,bm,a6,bb⟩=>?_
    refine cK (xF (X:=aY X N scope Y s3.heap.objs.size s3 G fp) _ ac ab U (.ref D) [v] (.ref D) [y] (λ_ ao=>ao D=some (.lst (F++[v]))/\∃m',m'<n/\W (i+1) m' ab (F++[v]) ao) af rfl (.cons bm .nil) ⟨D,F,v,rfl,rfl,a6,a4,aL,bb⟩) λ_ cm ⟨z,ao,bn,_,a0,be⟩=>?_
    exact fin bn a0 be
 exact codeAny_compStart_list (al _ rfl) (T.self X.A 0 _ _ _ (T.keep 0 _ _ ax λb q o e=>as b o e) (al _ rfl))
theorem HR{F tg z:Expr}{B:List Expr}{scope:Scope}{pos:Pos}{N:List Str}{M:List (Str×Addr)}{wi:TI}{g:TG}{tt:TT}{te:TE}
  (hc:X.calm=true) (G:Clo X N scope M) (hi:PI X tg z wi) (hg:∀C s H fp,PG (aY X N scope M C s H fp) tg g) (ht:∀C s H fp,FZ (aY X N scope M C s H fp) B tt) (he:∀C s H fp,PE (aY X N scope M C s H fp) F te)
  (hs:∀x,zba z X.env x=pure x:=by intro _;rfl) :
  PE X (.ListComp F [⟨tg,z,B,0⟩] scope pos) (DA wi g tt te (Start X N scope)):=by
 intro pins s σ H Q I h;obtain⟨ag,sS,hw⟩:=h;rw[eval_ListComp];refine wpAny_comprehension_free (use:=none) rfl hs G.clos G.kind G.names (cK (hi pins s σ H _ I hw) λv s1 h1=>cK h1 λam s2 h2=>?_);obtain⟨it,fp,tn,J,H2,e,I2,T,W,f2,q2⟩:=h2;subst e;refine wG (wi:=wi) (Q:=Q) (RR:=λacc C=>compPost (model X.prog X.w) X.A X.xe none (EP X pins σ Q) acc C) hc G hg ht he I2 T W f2 sS q2 ?_;intro s3 s5 H3 H5 ad D I3 f3 Y q;obtain⟨m,hn,_⟩:=id Y.loc;exact⟨m,hn,λh' U=>⟨.ref D,H5,comp_back I3 f3 Y U,rfl,q⟩⟩
end
end My
namespace My
open PySem PySem.W PyProof.Rows
structure Ord(n:Nat)(lt:Nat->Nat->Bool):Prop where
 irr:∀i,i<n->lt i i=false
 tr:∀i j k,i<n->j<n->k<n->lt i j=true->lt j k=true->lt i k=true
 tot:∀i j,i<n->j<n->i≠j->lt i j=true\/lt j i=true
section
variable {n:Nat}{lt:Nat->Nat->Bool}(O:Ord n lt)
include O
end
end My
namespace My
open PySem.W
section
variable {prog:zai}{w:World}{A:zao}{E:Value->zad->Prop}{s:zad}{it d:Addr}{i ep:Nat}{od:Obj}{es:Array zct}
def RawD(h:Heap)(d:Addr)(es:Array zct)(ep:Nat):Prop:=∃o,h.get? d=some o/\o.ExactDict/\o.data=.dict es ep
theorem RawD.typ(x:RawD s.heap d es ep):s.TypeIs (.ref d) "dict" := let ⟨o,a,b,_⟩:=x;⟨o,a,b.1⟩
theorem OB(hd:(d == za6)=false)(q:RawD s.heap d es ep)
  (z:Q (.ref s.heap.objs.size) {s with heap:=s.heap.push {cls:=.type "dict_keyiterator",data:=.fields #[.ref d,.int 0 0,.int es.size 0,.int ep 0]} }):wpAny (model prog w) A (pyIter (.ref d)) Q E s:=by
 have tt:=q.typ;obtain⟨o,g1,g2,g3⟩:=q;refine wpAny_pyIter_slot tt PySem.F.slot_dict_iter (zbj PySem.F.slot_dict_iter tt PySem.F.entry_dict_iter ?_ (PySem.F.args_dict_iter_1 _));unfold zb5.«dict.__iter__»;refine zaa ?_;unfold Builtin.Dict.dictSlotNone;refine zaa (wpAny_notOrdered_dict tt ?_);show wpAny _ _ (pure (zau d)) _ _ s;refine zaf ?_;show wpAny _ _ (Builtin.Dict.showsAll d >>= _) _ _ s;unfold Builtin.Dict.showsAll;rw[if_neg (by rw[hd];exact zaC)];refine zaa (zaf (zaa (zee g1 g3 (zaa (zef g1 g3 ?_)))));refine zaa (zbK (zaf ⟨_,rfl, "dict_keyiterator",_,⟨_,zaE _ rfl,rfl⟩,PySem.F.slot_dict_keyiterator_next.lookup,?_⟩));simpa[za9]using z
theorem M5(q:s.heap.IsKeyIter it d i es.size ep)(G:RawD s.heap d es ep)(hx:i<es.size)
  (B:∀h',h'.IsKeyIter it d (i+1) es.size ep->za4 it s.heap h'->Q (some es[i].key) {s with heap:=h'}):wpAny (model prog w) A (za2 (.ref it)) Q E s:=by
 have tt:=q.typeIs;obtain⟨o,z,F,hd⟩:=id q;obtain⟨od,g1,g2,g3⟩:=G;unfold za2;refine zaa (zcF (zbJ (name:=zbi "__next__") tt zds (zbj zds tt zer ?_ (zes _))));refine zaa (zaf (zaa (zaa ?_)))
 first|refine zaa (zdt tt (zaf ?_))|refine zaa (zdu tt (zaf ?_))
 refine zaa (wpAny_fieldsOf z hd ?_);simp only[show zet "dict_keyiterator" = false by decide,zbr,if_false];show wpAny _ _ (if(zau d == za5)=true then _ else _) _ _ s;rw[if_neg (show ¬ ((zau d == za5)=true)from zaC)];refine zaa (zaf (zaa (zee g1 g3 ?_)));rw[if_neg (by simp)];refine zaa (zaf (zaa (zef g1 g3 ?_)));rw[if_neg (by simp)];refine zaf ?_;simp only[show ¬ ((i:Int)<0)from by lia,if_false,zbA,Array.getElem?_eq_getElem hx];refine zaa ?_;first|refine zaa (zdt tt (zaf ?_))|refine zaa (zdu tt (zaf ?_))
 refine zaa (wpAny_isOneOf_keyiter tt ?_);show wpAny _ _ (setField (.ref it) 1 (za9 ((i:Int)+1)) >>= _) _ _ s;refine zaa (zdv z hd (by simp) ?_);have nx:(s.heap.update it (Obj.mapFields (·.setIfInBounds 1 (za9 ((i:Int)+1))))).IsKeyIter it d (i+1) es.size ep:=⟨_,zd8 _ z (Obj.isFreed_of_fields (zdw hd _)),(Obj.cls_mapFields ..).trans F,by rw[zdw hd];simp[za9]⟩;refine zaa (zbD (zaa (wpAny_isOneOf_keyiter (s:={s with heap:=s.heap.update it (Obj.mapFields (·.setIfInBounds 1 (za9 ((i:Int)+1))))}) nx.typeIs ?_)));show wpAny _ _ (pure es[i].key) _ _ _;exact zaf (zaf ⟨_,rfl,zaf (B _ nx (zdx ..))⟩)
theorem RZ(B:A.handled=none)(q:s.heap.IsKeyIter it d i es.size ep)(G:RawD s.heap d es ep)(hx:es.size<=i)
  (F:∀h',Heap.ExtBut it s.heap h'->Q none {s with heap:=h'}):wpAny (model prog w) A (za2 (.ref it)) Q E s:=by
 have tt:=q.typeIs;obtain⟨o,z,J,hd⟩:=id q;obtain⟨od,g1,g2,g3⟩:=G;unfold za2;refine zaa (zcF (zbJ (name:=zbi "__next__") tt zds (zbj zds tt zer ?_ (zes _))));refine zaa (zaf (zaa (zaa ?_)))
 first|refine zaa (zdt tt (zaf ?_))|refine zaa (zdu tt (zaf ?_))
 refine zaa (wpAny_fieldsOf z hd ?_);simp only[show zet "dict_keyiterator" = false by decide,zbr,if_false];show wpAny _ _ (if(zau d == za5)=true then _ else _) _ _ s;rw[if_neg (show ¬ ((zau d == za5)=true)from zaC)];refine zaa (zaf (zaa (zee g1 g3 ?_)));rw[if_neg (by simp)];refine zaa (zaf (zaa (zef g1 g3 ?_)));rw[if_neg (by simp)];refine zaf ?_;simp only[show ¬ ((i:Int)<0)from by lia,if_false,zbA,Array.getElem?_eq_none hx];refine zaa ?_;first|refine zaa (zdt tt (zaf ?_))|refine zaa (zdu tt (zaf ?_))
 show wpAny _ _ (setField (.ref it) 0 .none >>= _) _ _ s;refine zaa (zdv z hd (by simp) ?_);show wpAny _ _ (newExc (.type "StopIteration") [] >>= _) _ _ _;refine zaa ?_;simp only[newExc,newTuple];refine zaa (zbK ?_ (by size_fits));refine zaa (m:=zdy _ _) (wpAny_of_eq (a:=za5) (by first|rfl|(simp only[zdy];rfl)) ?_)
 refine zbK ?_ (by size_fits);simp only[raiseNew];refine zaa (wpAny_handled ?_);rw[show A.in1.handled=none from B];refine zaa (zaf (wpAny_throw ?_));refine zaa (zcx (T := "StopIteration") (b:=true) ⟨_,zaE _ rfl,rfl⟩ isSubtype_stop ?_);exact zaf (F _ (((zdx ..).extBut.push _).push _))
end
end My
namespace My
open PySem.SeqAt PySem.W
theorem KZ{prog:zai}{w:World}{A:zao}{E:Value->zad->Prop}{s:zad}{t G:Addr}{items:Array Value}{J M:Value}{lo hi:Option Int}{Q:Value->zad->Prop}(q:IsTup s.heap t items)(hs:s.heap.IsSliceOf G J M .none)(N:zbI J lo)(U:zbI M hi)
  (hw:HT.sIx items.size 0 lo=0/\HT.sIx items.size items.size hi=items.size) (h:Q (.ref t) s):wpAny (model prog w) A (zby (.ref t) (.ref G)) Q E s:=by
 obtain⟨W,B,F,Y⟩:=id hs;have tt:s.TypeIs (.ref G) "slice" := ⟨W,B,F⟩;unfold zby;try with_reducible refine zbD ?_
 first|refine zaa (zaf ?_)|skip
 refine zaa (wpAny_sequenceKey q.typeIs (by decide) ?_);refine zaa (zbJ (name:=zbi "__getitem__") q.typeIs zdl (zbj zdl q.typeIs entry_tuple_getitem ?_ (args_tuple_getitem _ _)));show wpAny _ _ (zdP (.ref t) >>= _) _ _ s;refine zaa (tupleItemsOf_ q (zaa (zcC tt ?_)));rw[if_pos (by decide)];refine zaa (HT.iH hs N U ?_);have z:(((HT.sIx items.size 0 lo:Nat):Int) == 0 && (1:Int) == 1 && (HT.sIx items.size items.size hi-HT.sIx items.size 0 lo) == items.size)=true:=by
  rw[hw.1,hw.2];simp
 show wpAny _ _ (if(((HT.sIx items.size 0 lo:Nat):Int) == 0 && (1:Int) == 1 && (HT.sIx items.size items.size hi-HT.sIx items.size 0 lo) == items.size)=true then _ else _) _ _ s;rw[if_pos z];refine zaa (m:=Builtin.Tuple.tupleIsExact _) ?_;unfold Builtin.Tuple.tupleIsExact;refine zaa (zcC q.typeIs (zaf ?_));rw[if_pos (by decide)];exact zaa (zbP (zaf ⟨_,rfl,zaf h⟩))
section
variable {X:Cx}
def qaM(K:zae):V->Option Int->Option Int->Hp->VK->Prop:=λx lo hi H Q=>∃a xs,x=.ref a/\SqT K H a xs/\(HT.sIx xs.length 0 lo=0/\HT.sIx xs.length xs.length hi=xs.length)/\Q (.ref a) H
theorem T8:SlR X (qaM X.K):=by
 intro pins s σ H x v N U lo hi W Q I J hs G M h;obtain⟨a,xs,rfl,hx,hw,q⟩:=h;cases J;obtain⟨B,r,F,Y⟩:=I.tuple hx;have z:B.toArray.size=xs.length:=by rw[zax];exact r.length.symm
 exact⟨"tuple",_,PyProof.Rows.slot_tuple_getitem.lookup,F.typeIs,KZ F hs G M (by rw[z];exact hw) ⟨.ref a,H,I,rfl,q⟩⟩
theorem TQ:SlR X (λx lo hi H Q=>qaR X.K x lo hi H Q\/qaM X.K x lo hi H Q):=WV.or T8
end
theorem u3(x:ObjOk P w H h d (.dT kvs)):(d == za6)=false/\kvs.length<=zal/\∃es ep,RawD h d es ep/\es.size=kvs.length /\
  ∀(j:Nat) (p:List Key×V),kvs[j]?=some p->∃(e:zct) (b:Addr),es[j]?=some e/\e.key=.ref b/\H b=some (.tup (p.1.map kV))/\RelV p.2 e.val/\e.hash=(zb8 (bA P w)).hash p.1:=by
 obtain⟨z,y,xs,r,o,es,ep,h1,h2,M,F,h5⟩:=x;have Y:xs.length=kvs.length:=(zcN r).symm;have B:es.size=kvs.length:=by
  have:=congrArg zbl F;rw[zbT,zah]at this
  lia
 have get:∀ {kvs:List (List Key×V)} {xs:List (List Key×Addr×Value)},zbO (λ(p:List Key×V) (q:List Key×Addr×Value)=>p.1=q.1/\H q.2.1=some (.tup (p.1.map kV))/\RelV p.2 q.2.2) kvs xs->
   ∀(j:Nat) (p:List Key×V),kvs[j]?=some p->∃q,xs[j]?=some q/\p.1=q.1/\H q.2.1=some (.tup (p.1.map kV))/\RelV p.2 q.2.2:=by
  intro kvs xs r;induction r with
  | nil=>intro j p e;simp at e
  | cons h t ih=>
   intro j p e;cases j with
   | zero=>simp at e;subst e;exact⟨_,rfl,h⟩
   | succ j=>exact ih j p (by simpa using e)
 refine⟨y,z,es,ep,⟨o,h1,h2,M⟩,B,λj p e=>?_⟩;obtain⟨q,N,U,J,G⟩:=get r j p e;have W:es[j]?=some (zcl (zb8 (bA P w)) q):=by
  rw[<- zeg,F,zaA,N];rfl
 exact⟨_,q.2.1,W,rfl,J,G,by show(zb8 (bA P w)).hash q.1=_;rw[U]⟩
def ItD(d:Addr)(o:Obj)(kvs:List (List Key×V)):It:=
 ⟨λi H=>H d=some (.frz o (.dT kvs))/\i<kvs.length,λi H x H'=>H'=H/\∃k v b,kvs[i]?=some (k,v)/\x=.ref b/\H b=some (.tup (k.map kV)),λi H=>H d=some (.frz o (.dT kvs))/\kvs.length<=i⟩
theorem K5{P:zai}{w:World}{K:zae}{tg:Expr}(d it:Addr)(o:Obj)(kvs:List (List Key×V))(es:Array zct)(ep:Nat)(hd:o.data=.dict es ep)(ak:es.size=kvs.length):Turn P w K tg (ItD d o kvs) [it] it (λi h=>h.IsKeyIter it d i es.size ep) where
 mem:=by simp
 obj:=λi h st b B=>by
  have e:b=it:=by simpa using B
  subst e;obtain⟨o,M,e2,W⟩:=st;exact⟨o,M,λv z=>by rw[W]at z;cases z⟩
 keep:=λi h h' st k=>st.at λo e=>k it (by simp) o e
 item:=by
  intro X hP hw hK hc i pins s σ H E I J st hg;subst hP hw hK;obtain⟨h1,h2⟩:=hg;obtain⟨g1,g2⟩:=(show ObjOk X.prog X.w H s.heap d (.frz o (.dT kvs))from I.hok d _ h1);obtain⟨_,_,aa,Y,⟨o',r1,r2,r3⟩,F,q⟩:=u3 g2;rw[g1]at r1;cases r1;rw[hd]at r3;injection r3 with r4 r5
  subst r4 r5;obtain⟨f0,f1,f2,U,N,f5⟩:=J it (by simp);have hi:i<es.size:=by lia
  refine M5 st ⟨o,g1,r2,hd⟩ hi λh' G sb=>?_
  have I1:Inv X pins σ H {s with heap:=h'}:=I.turned (t':=s.toks) (λb o B e=>(sb.2 b B).trans e) f0 f1 U N f5;obtain⟨e,b,M,e2,W,_⟩:=q i _ (zaP h2);have ee:es[i]=e:=by
   rw[Array.getElem?_eq_getElem hi]at M;exact zay M
  obtain⟨o2,q1,q2,q3⟩:=id G;refine⟨_,rfl,vQ (s:={s with heap:=h'}) (n := "dict_keyiterator") q1 q2 q3 (by decide) ⟨.ref b,H,I1,?_,⟨rfl,kvs[i].1,kvs[i].2,b,zaP h2,rfl,W⟩,G,λc B=>(J c B).1⟩⟩;rw[ee,e2];rfl
 done:=by
  intro X hP hw hK hc i pins s σ H E I J st hg;subst hP hw hK;obtain⟨h1,h2⟩:=hg;obtain⟨g1,g2⟩:=(show ObjOk X.prog X.w H s.heap d (.frz o (.dT kvs))from I.hok d _ h1);obtain⟨_,_,aa,Y,⟨o',r1,r2,r3⟩,F,q⟩:=u3 g2;rw[g1]at r1;cases r1;obtain⟨f0,f1,f2,U,N,f5⟩:=J it (by simp);exact RZ (I.ok.hd hc) st ⟨o,g1,r2,hd⟩ (by lia) λh' eb=>⟨rfl,I.turned (t':=s.toks) (λb o B e=>eb b o B e) f0 f1 U N f5⟩
 self:=λ_ _ _ _ _ st h=>wpAny_pyIter_keyiter st h
theorem EK(I:Inv X pins σ H s)(hd:H d=some (.dT kvs))(G:s.heap.get? d=some o):Inv X pins σ (upd H d (.frz o (.dT kvs))) s:=by
 have B:∀b u,H b=some u->(∀z,u≠.dT z)->b≠d:=λb u e n z=>by
  subst z;rw[hd]at e;exact n kvs (zay e).symm
 have J:=I.un (h':=s.heap) (t':=s.toks) (H':=upd H d (.frz o (.dT kvs))) ⟨λb u q _ _ _=>q,λb u q _ _ _=>⟨u.slots,q⟩,λb u q n _=>by rw[aG (λz=>by rw[z,hd]at n;cases n)];exact n,λb u q _=>⟨u,q⟩,
  λb xs q=>by rw[aG (B b _ q (λz h=>by cases h))];exact q,λb u xs q=>by rw[aG (B b _ q (λz h=>by cases h))];exact q,λb ps q=>⟨#[],by rw[aG (B b _ q (λz h=>by cases h)),q];simp⟩⟩ (λb u e=>?_)
 ·exact J
 ·have st:∀ {b:Addr} {u:HO},ObjOk X.prog X.w H s.heap b u->ObjOk X.prog X.w (upd H d (.frz o (.dT kvs))) s.heap b u:=λx=>x.stay (λ_ _ _ q=>q) (λc q=>by rw[aG (B c _ q (λz h=>by cases h))];exact q) λc xs q=>by rw[aG (B c _ q (λz h=>by cases h))];exact q
  by_cases F:b=d
  ·subst F
   rw[aL]at e;cases e;exact⟨G,st (I.hok b _ hd)⟩
  ·rw[aG F]at e
   exact st (I.hok b u e)
end My
namespace My
open PySem.SeqAt
abbrev Tm:=List Int×Int
def look(q:List Tm)(k:List Int):Option Int:=(q.find? λt=>decide (t.1=k)).map (·.2)
def put(q:List Tm)(k:List Int)(c:Int):List Tm:=if(q.any λt=>decide (t.1=k))=true then q.map (λt=>if t.1=k then(t.1,c)else t)else q++[(k,c)]
def qa4(q:List Tm)(t:Tm):List Tm:=put q t.1 ((look q t.1).getD 0+t.2)
def X7(ts:List Tm):List Tm:=ts.foldl qa4 []
def qat(M:Int)(q:List Tm):List Tm:=(q.filter λt=>decide (t.2%M≠0)).map λt=>(t.1,t.2%M)
def TS(H H':Hp):Prop:=∀b xs,H b=some (.tup xs)->H' b=some (.tup xs)
theorem TS.trans(a:TS H H1)(b:TS H1 H2):TS H H2:=λc xs h=>b c xs (a c xs h)
theorem TS.put(h:H l=some u)(n:∀xs,u≠.tup xs):TS H (upd H l o):=λb xs q=>by
 rw[aG (λz=>by subst z;rw[h]at q;exact n xs (zay q))];exact q
theorem S5:∀ns:List Int,IZ (ns.map Dx.int)=true:=λns=>HW (f:=Dx.int) (λ_=>by rw[Dx.nb]) ns
theorem ND:∀ns:List Int,pA (ns.map Dx.int)<=0:=λns=>BQ (f:=Dx.int) (λ_=>by rw[Dx.dep];exact zaj _) ns
noncomputable def hT(ns:List Int):Int:=reduceHash (zcj (ns.map hashInt))
end My
namespace My
noncomputable def itN(t:Bool):String:=if t=true then "tuple_iterator" else "list_iterator"
noncomputable def sqN(t:Bool):String:=if t=true then "tuple" else "list"
def SIt(t:Bool)(h:Heap)(i l:Addr)(k:Nat):Prop:=∃o,h.get? i=some o/\o.cls=.type (itN t)/\o.data=.fields #[.ref l,.int k 0]
def SSq(t:Bool)(h:Heap)(l:Addr)(xs:Array Value):Prop:=∃o,h.get? l=some o/\o.cls=.type (sqN t)/\∃n,o.data=.seq xs n
theorem SIt.to(x:SIt t h i l k)(e:∀o,h.get? i=some o->h'.get? i=some o):SIt t h' i l k:=let ⟨o,ho,r⟩:=x;⟨o,e o ho,r⟩
theorem SSq.to(x:SSq t h l xs)(e:∀o,h.get? l=some o->h'.get? l=some o):SSq t h' l xs:=let ⟨o,ho,r⟩:=x;⟨o,e o ho,r⟩
section
variable {prog:zai}{w:World}{A:zao}{E:Value->zad->Prop}{s:zad}
theorem next_item(z:SIt t s.heap it l i)(J:SSq t s.heap l xs)(hx:xs[i]?=some x)
  (M:∀h',SIt t h' it l (i+1)->za4 it s.heap h'->Q x {s with heap:=h'}):wpAny (model prog w) A (zce (.ref it)) Q E s:=by
 cases t with
 | false=>exact wpAny_nextOf_list_item (it:=it) (l:=l) (items:=xs) z J hx M
 | true=>
  have q:s.heap.IsTupleIter it l i:=z;obtain⟨o,B,N,hd⟩:=z;obtain⟨U,F,_,nl,G⟩:=J;unfold zce;refine zaa (zbJ (name:=zbi "__next__") q.typeIs zdz (zbj zdz q.typeIs zeu ?_ (zew _)));show wpAny _ _ (field (.ref it) 0 >>= _) _ _ _;refine zaa (zaT B hd (x:=.ref l) rfl ?_);show wpAny _ _ (if(zau l == za5)=true then _ else _) _ _ _;rw[if_neg (show ¬ ((zau l == za5)=true)from zaC)];show wpAny _ _ (field (.ref it) 1 >>= _) _ _ _;refine zaa (zaT B hd (x:=.int i 0) rfl ?_);show wpAny _ _ (seqItems? (.ref l) >>= _) _ _ _;refine zaa (zbs F G ?_);simp only[zbA,hx];refine zaa (zdv B hd (by simp) (zaf ⟨x,rfl,zaf (M _ ⟨_,zd8 _ B (Obj.isFreed_of_fields (zdw hd _)),(Obj.cls_mapFields ..).trans N,by rw[zdw hd];simp[za9]⟩ (zdx ..))⟩))
theorem next_end(F:A.handled=none)(z:SIt t s.heap it l i)(M:SSq t s.heap l xs)(hx:xs[i]?=none)
  (N:∀h' e,Heap.ExtBut it s.heap h'->(∃o,h'.get? e=some o/\o.cls=.type "StopIteration")->E (.ref e) {s with heap:=h'}):wpAny (model prog w) A (zce (.ref it)) Q E s:=by
 cases t with
 | false=>exact wpAny_nextOf_list_end (it:=it) (l:=l) (items:=xs) F z M hx N
 | true=>
  have q:s.heap.IsTupleIter it l i:=z;obtain⟨o,B,U,hd⟩:=z;obtain⟨W,G,_,nl,J⟩:=M;unfold zce;refine zaa (zbJ (name:=zbi "__next__") q.typeIs zdz (zbj zdz q.typeIs zeu ?_ (zew _)));show wpAny _ _ (field (.ref it) 0 >>= _) _ _ _;refine zaa (zaT B hd (x:=.ref l) rfl ?_);show wpAny _ _ (if(zau l == za5)=true then _ else _) _ _ _;rw[if_neg (show ¬ ((zau l == za5)=true)from zaC)];show wpAny _ _ (field (.ref it) 1 >>= _) _ _ _;refine zaa (zaT B hd (x:=.int i 0) rfl ?_);show wpAny _ _ (seqItems? (.ref l) >>= _) _ _ _;refine zaa (zbs G J ?_);simp only[zbA,hx];refine zaa (zbP (zaa (zdv B hd (by simp) ?_)));show wpAny _ _ (newExc (.type "StopIteration") [] >>= _) _ _ _;refine zaa ?_;simp only[newExc,newTuple];refine zaa (zbK ?_ (by size_fits));refine zaa (m:=zdy _ _) (wpAny_of_eq (a:=za5) (by first|rfl|(simp only[zdy];rfl)) ?_);refine zbK ?_ (by size_fits);simp only[raiseNew]
  refine zaa (wpAny_handled ?_);first|rw[show A.in1.handled=none from F]|rw[F]
  refine zaa (zaf (wpAny_throw ?_));exact N _ _ (((zdx ..).extBut.push _).push _) ⟨_,zaE _ rfl,rfl⟩
structure ZA(z TI TO i1 i2 l1 l2:Addr):Prop where
 z1:TI≠z
 z2:TO≠z
 z3:i1≠z
 z4:i2≠z
 z5:TI≠TO
 z6:TI≠i1
 z7:TI≠i2
 z8:TO≠i1
 z9:TO≠i2
 za:i1≠i2
 zb:l1≠z/\l1≠TO/\l1≠i1/\l1≠i2
 zc:l2≠z/\l2≠TO/\l2≠i1/\l2≠i2
theorem MD{t1 t2:Bool}{z TI TO U M l1 l2:Addr}{k1 k2:Nat}{xs ys:Array Value}{x y a b:Value}{Q:Option Value->zad->Prop}(D:ZA z TI TO U M l1 l2)
  (hz:IsZip s.heap z TI TO .none) (au:za3 s.heap TI (.ref U) (.ref M)) (ay:za3 s.heap TO a b) (h1:SIt t1 s.heap U l1 k1) (h2:SIt t2 s.heap M l2 k2) (a4:SSq t1 s.heap l1 xs) (aw:SSq t2 s.heap l2 ys) (hx:xs[k1]?=some x) (hy:ys[k2]?=some y)
  (hQ:∀h',IsZip h' z TI TO (za9 s.heap.objs.size)->za3 h' TO x y->SIt t1 h' U l1 (k1+1)->SIt t2 h' M l2 (k2+1)->za3 h' s.heap.objs.size x y->h'.objs.size=s.heap.objs.size+1->(∀c o,c≠z->c≠TO->c≠U->c≠M->s.heap.get? c=some o->h'.get? c=some o)->Q (some (.ref s.heap.objs.size)) {s with heap:=h'}) :
  wpAny (model prog w) A (za2 (.ref z)) Q E s:=by
 have hT:s.TypeIs (.ref z) "zip" := ⟨_,hz,rfl⟩;unfold za2;refine zaa (zcF (zbJ (name:=zbi "__next__") hT zdA (zbj zdA hT F.entry_zip_next ?_ (F.args_zip_next_1 _))));show wpAny _ _ (field (.ref z) 2 >>= _) _ _ s;refine zaa (zaT hz rfl (x:=.bool false) rfl ?_);show wpAny _ _ (field (.ref z) 3 >>= _) _ _ s;refine zaa (zaT hz rfl (x:=.ref TI) rfl (zaa (zbs au rfl ?_)));show wpAny _ _ (zcG (.ref z) >>= _) _ _ s;refine zaa ?_;unfold zcG;refine zaa (zaT hz rfl (x:=.none) rfl (zaf ?_));simp only[if_true];refine zaa (zbP (zaa (zaT hz rfl (x:=.ref TO) rfl (zaa (zbB hz (by simp) λha aa sa=>?_)))));replace aa:IsZip ha z TI TO .ellipsis:=aa;refine zaa ?_;simp only[List.zipIdx_cons,List.zipIdx_nil,zeh,List.forIn_nil];refine zaa (zaa (zdB ?_));show wpAny _ _ (zce (.ref U) >>= _) _ _ {s with heap:=ha};have ea:=sa.extBut;refine zaa (next_item (t:=t1) (xs:=xs) (h1.to λo e=>ea _ _ D.z3 e) (a4.to λo e=>ea _ _ D.zb.1 e) hx λhb as sb=>zaf ?_);have eb:=sb.extBut;have W:za3 hb TO a b:=eb _ _ D.z8 (ea _ _ D.z2 ay);refine zaa (zbs W rfl (zaa (zei W λhc G sc=>?_)));replace G:za3 hc TO x b:=G;have ec:=sc.extBut;refine zaa (zdC (zaf ?_));refine zaa (zaa (zdB ?_));show wpAny _ _ (zce (.ref M) >>= _) _ _ {s with heap:=hc};refine zaa (next_item (t:=t2) (xs:=ys) (h2.to λo e=>ec _ _ D.z9.symm (eb _ _ D.za.symm (ea _ _ D.z4 e))) (aw.to λo e=>ec _ _ D.zc.2.1 (eb _ _ D.zc.2.2.1 (ea _ _ D.zc.1 e))) hy λhd a3 sd=>zaf ?_);have ed:=sd.extBut;have N:za3 hd TO x b:=ed _ _ D.z9 G;refine zaa (zbs N rfl (zaa (zei N λq B se=>?_)));replace B:za3 q TO x y:=B;have ee:=se.extBut;refine zaa (zdC (zaf (zaf ?_)));refine zaa (zbs B rfl (zaa (wpAny_newTuple ?_)));have hsz:q.objs.size=s.heap.objs.size:=by rw[se.1,sd.1,sc.1,sb.1,sa.1]
 have am:IsZip q z TI TO .ellipsis:=ee _ _ D.z2.symm (ed _ _ D.z4.symm (ec _ _ D.z2.symm (eb _ _ D.z3.symm aa)));have aK:∀c o,c≠z->c≠TO->c≠U->c≠M->s.heap.get? c=some o->q.get? c=some o:=λc o Y c2 c3 c4 e=>ee _ _ c2 (ed _ _ c4 (ec _ _ c2 (eb _ _ c3 (ea _ _ Y e))))
 have a2:SIt t1 q U l1 (k1+1):=as.to λo e=>ee _ _ D.z8.symm (ed _ _ D.za (ec _ _ D.z8.symm e))
 have a1:SIt t2 q M l2 (k2+1):=a3.to λo e=>ee _ _ D.z9.symm e
 have aj:z<q.objs.size:=zan am;show wpAny _ _ (zdD (.ref z) (.ref q.objs.size) >>= _) _ _ _;refine zaa ?_;unfold zdD;have az:IsZip (q.push {cls:=.type "tuple",data:=.seq #[x,y]}) z TI TO .ellipsis:=zam _ am;refine zaa (zbB az (by simp) λhg ab sg=>?_);replace ab:IsZip hg z TI TO (za9 q.objs.size):=ab;refine zbB ab (by simp) λhi J si=>?_;replace J:IsZip hi z TI TO (za9 q.objs.size):=J
 have up:∀c o,c≠z->q.get? c=some o->hi.get? c=some o:=λc o Y e=>si.extBut _ _ Y (sg.extBut _ _ Y (zam _ e))
 have ak:za3 hi q.objs.size x y:=si.extBut _ _ (zbu aj) (sg.extBut _ _ (zbu aj) (zaE _ rfl));have af:hi.objs.size=q.objs.size+1:=by rw[si.1,sg.1,zbX]
 rw[hsz]at J ak af;refine zaf ⟨_,rfl,zaf ?_⟩;show Q (some (.ref q.objs.size)) _;rw[hsz];exact hQ hi J (up _ _ D.z2 B) (a2.to λo e=>up _ o D.z3 e) (a1.to λo e=>up _ o D.z4 e) ak af λc o Y c2 c3 c4 e=>up c o Y (aK c o Y c2 c3 c4 e)
theorem MF{t1 t2:Bool}{z TI TO Y W l1 l2:Addr}{k1 k2:Nat}{xs ys:Array Value}{a b:Value}{Q:Option Value->zad->Prop}(hh:A.handled=none)(D:ZA z TI TO Y W l1 l2)
  (hz:IsZip s.heap z TI TO .none) (ap:za3 s.heap TI (.ref Y) (.ref W)) (as:za3 s.heap TO a b) (h1:SIt t1 s.heap Y l1 k1) (h2:SIt t2 s.heap W l2 k2) (ai:SSq t1 s.heap l1 xs) (aq:SSq t2 s.heap l2 ys) (ah:xs[k1]?=none\/ys[k2]?=none)
  (hQ:∀h',(∀c o,c≠z->c≠TO->c≠Y->c≠W->s.heap.get? c=some o->h'.get? c=some o)->Q none {s with heap:=h'}):wpAny (model prog w) A (za2 (.ref z)) Q E s:=by
 have hT:s.TypeIs (.ref z) "zip" := ⟨_,hz,rfl⟩;have fin:∀(h':Heap) (e:Addr),(∀c o,c≠z->c≠TO->c≠Y->c≠W->s.heap.get? c=some o->h'.get? c=some o)->(∃o,h'.get? e=some o/\o.cls=.type "StopIteration")->wpAny (model prog w) A (do if <- isInstance (.ref e) (.type "StopIteration")then pure none else throw (.ref e)) Q E {s with heap:=h'}:=λh' e hk he=>by
  obtain⟨o,ho,hc⟩:=he;refine zaa (zcx (T := "StopIteration") (b:=true) ⟨o,ho,hc⟩ isSubtype_stop ?_);exact zaf (hQ _ hk)
 unfold za2;refine zaa (zcF (zbJ (name:=zbi "__next__") hT zdA (zbj zdA hT F.entry_zip_next ?_ (F.args_zip_next_1 _))));show wpAny _ _ (field (.ref z) 2 >>= _) _ _ s;refine zaa (zaT hz rfl (x:=.bool false) rfl ?_);show wpAny _ _ (field (.ref z) 3 >>= _) _ _ s;refine zaa (zaT hz rfl (x:=.ref TI) rfl (zaa (zbs ap rfl ?_)));show wpAny _ _ (zcG (.ref z) >>= _) _ _ s;refine zaa ?_;unfold zcG;refine zaa (zaT hz rfl (x:=.none) rfl (zaf ?_));simp only[if_true];refine zaa (zbP (zaa (zaT hz rfl (x:=.ref TO) rfl (zaa (zbB hz (by simp) λha J sa=>?_)))));replace J:IsZip ha z TI TO .ellipsis:=J;refine zaa ?_;simp only[List.zipIdx_cons,List.zipIdx_nil,zeh,List.forIn_nil];refine zaa (zaa (zdB ?_));show wpAny _ _ (zce (.ref Y) >>= _) _ _ {s with heap:=ha};have M:=sa.extBut;cases hx:xs[k1]? with
 | none=>
  refine zaa (next_end (t:=t1) (xs:=xs) hh (h1.to λo e=>M _ _ D.z3 e) (ai.to λo e=>M _ _ D.zb.1 e) hx λhb e sb he=>?_);obtain⟨oe,B,G⟩:=he;have af:IsZip hb z TI TO .ellipsis:=sb _ _ D.z3.symm J;have U:e≠z:=λq=>by subst q;rw[af]at B;cases B;simp at G
  exact zbB af (by simp) λhc _ sc=>fin hc e (λc o c1 _ c3 _ q=>sc.extBut _ _ c1 (sb _ _ c3 (M _ _ c1 q))) ⟨oe,sc.extBut _ _ U B,G⟩
 | some x=>
  have hy:ys[k2]?=none:=by rcases ah with h|h;rw[hx]at h;cases h;exact h
  refine zaa (next_item (t:=t1) (xs:=xs) (h1.to λo e=>M _ _ D.z3 e) (ai.to λo e=>M _ _ D.zb.1 e) hx λhb a0 sb=>zaf ?_);have eb:=sb.extBut;have N:za3 hb TO a b:=eb _ _ D.z8 (M _ _ D.z2 as);refine zaa (zbs N rfl (zaa (zei N λhc ax sc=>?_)));have ec:=sc.extBut;refine zaa (zdC (zaf ?_));refine zaa (zaa (zdB ?_));show wpAny _ _ (zce (.ref W) >>= _) _ _ {s with heap:=hc};refine zaa (next_end (t:=t2) (xs:=ys) hh (h2.to λo e=>ec _ _ D.z9.symm (eb _ _ D.za.symm (M _ _ D.z4 e))) (aq.to λo e=>ec _ _ D.zc.2.1 (eb _ _ D.zc.2.2.1 (M _ _ D.zc.1 e))) hy λhd e sd he=>?_);obtain⟨oe,B,G⟩:=he;have ac:IsZip hd z TI TO .ellipsis:=sd _ _ D.z4.symm (ec _ _ D.z2.symm (eb _ _ D.z3.symm J));have U:e≠z:=λq=>by subst q;rw[ac]at B;cases B;simp at G
  exact zbB ac (by simp) λhf _ sf=>fin hf e (λc o c1 c2 c3 c4 q=>sf.extBut _ _ c1 (sd _ _ c4 (ec _ _ c2 (eb _ _ c3 (M _ _ c1 q))))) ⟨oe,sf.extBut _ _ U B,G⟩
abbrev JA(t:Bool)(l:Addr):Obj:={cls:=.type (itN t),data:=.fields #[.ref l,.int 0 0]}
abbrev ZM(t1 t2:Bool)(h:Heap)(l1 l2:Addr):Heap:=(h.push (JA t1 l1)).push (JA t2 l2)
abbrev zh4(t1 t2:Bool)(h:Heap)(l1 l2:Addr):Heap:=((ZM t1 t2 h l1 l2).push {cls:=.type "tuple",data:=.seq #[.ref h.objs.size,.ref (h.push (JA t1 l1)).objs.size]}).push {cls:=.type "tuple",data:=.seq #[.none,.none]}
abbrev ZS(t1 t2:Bool)(h:Heap)(l1 l2:Addr):Heap:=(zh4 t1 t2 h l1 l2).push {cls:=.type "zip",data:=.fields #[.none,.bool false,.bool false,.ref (ZM t1 t2 h l1 l2).objs.size,.ref ((ZM t1 t2 h l1 l2).push {cls:=.type "tuple",data:=.seq #[.ref h.objs.size,.ref (h.push (JA t1 l1)).objs.size]}).objs.size]}
theorem RP(U W:Bool)(F J:Addr)(xs ys:Array Value):Meets (zb5.«zip.__new__» ⟨[.type "zip",.ref F,.ref J],[]⟩) (λ_ R s=>SSq U s.heap F xs/\SSq W s.heap J ys/\R (.ok (.ret (.ref (zh4 U W s.heap F J).objs.size))) {s with heap:=ZS U W s.heap F J}):=
 .of_wp λprog w A R s h=>by
  obtain⟨G,g,d,tk,N⟩:=s;obtain⟨M,Y,h⟩:=h;have aa:=sub_zip;have B:SSq W (G.push (JA U F)) J ys:=Y.to λo e=>zam _ e
  cases U <;> cases W
  ·have q:zdE (zb1 ⟨G,g,d,tk,N⟩) F xs:=M
   have z:zdE (zb1 ⟨G.push {cls:=.type "list_iterator",data:=.fields #[.ref F,.int 0 0]},g,d,tk,N⟩) J ys:=B
   wp_walk using zbU q,zbU z
   exact⟨_,rfl,h⟩
  ·have q:zdE (zb1 ⟨G,g,d,tk,N⟩) F xs:=M
   have z:zcU (zb1 ⟨G.push {cls:=.type "list_iterator",data:=.fields #[.ref F,.int 0 0]},g,d,tk,N⟩) J ys:=B
   wp_walk using zbU q,zbV z
   exact⟨_,rfl,h⟩
  ·have q:zcU (zb1 ⟨G,g,d,tk,N⟩) F xs:=M
   have z:zdE (zb1 ⟨G.push {cls:=.type "tuple_iterator",data:=.fields #[.ref F,.int 0 0]},g,d,tk,N⟩) J ys:=B
   wp_walk using zbV q,zbU z
   exact⟨_,rfl,h⟩
  ·have q:zcU (zb1 ⟨G,g,d,tk,N⟩) F xs:=M
   have z:zcU (zb1 ⟨G.push {cls:=.type "tuple_iterator",data:=.fields #[.ref F,.int 0 0]},g,d,tk,N⟩) J ys:=B
   wp_walk using zbV q,zbV z
   exact⟨_,rfl,h⟩
theorem NZ(M:SSq t1 s.heap l1 xs)(B:SSq t2 s.heap l2 ys)
  (h:∀h', IsZip h' (s.heap.objs.size+4) (s.heap.objs.size+2) (s.heap.objs.size+3) .none -> za3 h' (s.heap.objs.size+2) (.ref s.heap.objs.size) (.ref (s.heap.objs.size+1)) -> za3 h' (s.heap.objs.size+3) .none .none ->
   SIt t1 h' s.heap.objs.size l1 0->SIt t2 h' (s.heap.objs.size+1) l2 0->(∀c o,s.heap.get? c=some o->h'.get? c=some o)->Q (.ref (s.heap.objs.size+4)) {s with heap:=h'}):wpAny (model prog w) A (call (.type "zip") [.ref l1,.ref l2]) Q E s:=by
 refine callType_new F.called_zip (by decide) (F.typeCall_zip_2 _ _) (F.newCall_zip_2 _ _) (λG=>F.args_object_init_3 G _ _) F.entry_zip_new (RP t1 t2 l1 l2 xs ys) ⟨M,B,?_⟩;have z:(s.heap.push (JA t1 l1)).objs.size=s.heap.objs.size+1:=zbX ..;have q:(ZM t1 t2 s.heap l1 l2).objs.size=s.heap.objs.size+2:=by rw[zbX,z]
 have N:((ZM t1 t2 s.heap l1 l2).push {cls:=.type "tuple",data:=.seq #[.ref s.heap.objs.size,.ref (s.heap.push (JA t1 l1)).objs.size]}).objs.size=s.heap.objs.size+3:=by rw[zbX,q]
 have U:(zh4 t1 t2 s.heap l1 l2).objs.size=s.heap.objs.size+4:=by rw[zbX,N]
 have J:(ZS t1 t2 s.heap l1 l2).get? (zh4 t1 t2 s.heap l1 l2).objs.size=some _:=zaE _ rfl;have W:(ZS t1 t2 s.heap l1 l2).get? ((ZM t1 t2 s.heap l1 l2).push {cls:=.type "tuple",data:=.seq #[.ref s.heap.objs.size,.ref (s.heap.push (JA t1 l1)).objs.size]}).objs.size=some _:=zam _ (zaE _ rfl);have g3:(ZS t1 t2 s.heap l1 l2).get? (ZM t1 t2 s.heap l1 l2).objs.size=some _:=zam _ (zam _ (zaE _ rfl));have g2:(ZS t1 t2 s.heap l1 l2).get? (s.heap.push (JA t1 l1)).objs.size=some (JA t2 l2):=zam _ (zam _ (zam _ (zaE _ rfl)));have g1:(ZS t1 t2 s.heap l1 l2).get? s.heap.objs.size=some (JA t1 l1):=zam _ (zam _ (zam _ (zam _ (zaE _ rfl))));show _/\_;rw[q,N,U]at J;rw[z,q]at g3;rw[N]at W;rw[z]at g2;rw[U];exact⟨⟨_,J,rfl⟩,h _ J g3 W ⟨_,g1,rfl,rfl⟩ ⟨_,g2,rfl,rfl⟩ λc o x=>zam _ (zam _ (zam _ (zam _ (zam _ x))))⟩
end
def DG(K:zae)(t:Bool)(H:Hp)(a:Addr)(xs:List V):Prop:=if t=true then SqT K H a xs else SqL K H a xs
def ItZ(K:zae)(z B:Bool)(F q:Addr):It:=
 ⟨λi H => ∃xs ys, DG K z H F xs /\ DG K B H q ys /\ i<xs.length /\ i<ys.length, λi H x H' => ∃p u v, x = .ref p /\ H p = none /\ H' = upd H p (.tup [u, v]) /\ ∀xs ys, DG K z H F xs -> DG K B H q ys -> xs[i]? = some u /\ ys[i]? = some v,
  λi H=>∃xs ys,DG K z H F xs/\DG K B H q ys/\(xs.length<=i\/ys.length<=i)⟩
theorem jR(I:Inv X pins σ H s)(h:DG X.K t H a xs):∃q:List Value,Vals xs q/\SSq t s.heap a q.toArray:=by
 cases t with
 | true=>
  obtain⟨q,r,p,_⟩:=I.tuple (show SqT X.K H a xs from h);exact⟨q,r,p⟩
 | false=>
  obtain⟨q,r,p,_⟩:=I.list (show SqL X.K H a xs from h);exact⟨q,r,PlainL.isList p⟩
theorem yJ(I:Inv X pins σ H s)(h:DG X.K t H a xs)(h':DG X.K t H a ys):xs=ys:=by
 cases t with
 | true=>exact I.tuple_inj (show SqT X.K H a xs from h) h'
 | false=>exact I.list_inj (show SqL X.K H a xs from h) h'
theorem i8{pins:List (Addr×Obj)}{t':Nat}{fp:List Addr}(I:Inv X pins σ H s)(F:∀b∈fp,lN X pins H b)(k:∀b o,b∉fp->s.heap.get? b=some o->h'.get? b=some o):Inv X pins σ H {s with heap:=h',toks:=t'}:=by
 have B:∀b u,H b=some u->b∉fp:=λb u e z=>by rw[(F b z).1]at e;cases e
 refine I.call' (s':={s with heap:=h',toks:=t'}) (ch:=fp) rfl ⟨λb o e _ _ hx=>k b o hx e,λb o e _ _ hx=>⟨o.slots,k b o hx e⟩,λ_ _ _ n _=>n,λb o e hx=>⟨o,k b o hx e⟩,λ_ _ q=>q,λ_ _ _ q=>q,λb ps q=>⟨#[],by rw[q];simp⟩⟩ (λb u e=>?_) I.bare λb J=>?_
 ·refine(I.hok b u e).stay (λc v N q=>k c v ?_ q) (λ_ q=>q) λ_ _ q=>q
  rcases N with z|z
  ·rw[z];exact B b u e
  ·exact B c _ z
 ·obtain⟨_,f1,_,U,M,G⟩:=F b J
  exact⟨U,f1,M,G⟩
theorem MW{P:zai}{w:World}{K:zae}{ac:List Expr}{x1}{tp:Pos}(t1 t2:Bool){z TI TO Y W l1 l2:Addr}(D:ZA z TI TO Y W l1 l2) :
  Turn P w K (.Tuple ac x1 tp) (ItZ K t1 t2 l1 l2) [z,TI,TO,Y,W] z (λi h=>IsZip h z TI TO .none/\za3 h TI (.ref Y) (.ref W)/\(∃a b,za3 h TO a b)/\SIt t1 h Y l1 i/\SIt t2 h W l2 i) where
 mem:=by simp
 obj:=by
  rintro i h ⟨N,G,⟨a,b,J⟩,⟨o1,e1,_,d1⟩,⟨o2,e2,_,d2⟩⟩ c B;simp only[zaX,zaZ,or_false]at B;rcases B with rfl|rfl|rfl|rfl|rfl
  ·exact⟨_,N,λv q=>by cases q⟩
  ·exact⟨_,G,λv q=>by cases q⟩
  ·exact⟨_,J,λv q=>by cases q⟩
  ·exact⟨o1,e1,λv q=>by rw[d1]at q;cases q⟩
  ·exact⟨o2,e2,λv q=>by rw[d2]at q;cases q⟩
 keep:=λi h h' ⟨N,G,⟨a,b,J⟩,s1,s2⟩ k=>⟨k z (by simp) _ N,k TI (by simp) _ G,⟨a,b,k TO (by simp) _ J⟩,s1.to λo e=>k Y (by simp) o e,s2.to λo e=>k W (by simp) o e⟩
 item:=by
  intro X hP hw hK B i pins s σ H E I hf st hg;subst hP hw hK;obtain⟨N,G,⟨a,b,J⟩,s1,s2⟩:=st;obtain⟨xs,ys,q1,q2,zY,ar⟩:=hg;obtain⟨ad,r1,p1⟩:=jR I q1;obtain⟨ah,r2,p2⟩:=jR I q2;have e1:xs[i]?=some xs[i]:=by simp[zY]
  have e2:ys[i]?=some ys[i]:=by simp[ar]
  obtain⟨u,eu,ru⟩:=r1.get e1;obtain⟨v,ev,rv⟩:=r2.get e2;refine MD D N G J s1 s2 p1 p2 (x:=u) (y:=v) (by simpa using eu) (by simpa using ev) λh' a1 a2 a3 a4 a5 a6 U=>⟨_,rfl,?_⟩
  refine wpAny_letOwnedTupleGo_zip (s:={s with heap:=h'}) a1 λh2 ax sb=>?_
  have zz:∀c,c∈[z,TI,TO,Y,W]->c<s.heap.objs.size:=λc B=>by
   simp only[zaX,zaZ,or_false]at B;rcases B with rfl|rfl|rfl|rfl|rfl
   ·exact zan N
   ·exact zan G
   ·exact zan J
   ·obtain⟨o,e,_⟩:=s1;exact zan e
   ·obtain⟨o,e,_⟩:=s2;exact zan e
  have M:∀c o,c≠z->h'.get? c=some o->h2.get? c=some o:=λc o B e=>sb.extBut _ _ B e
  have I1:Inv X pins σ H {s with heap:=h2,toks:=s.toks}:=i8 I hf λc o B e=>by
   simp only[zaX,zaZ,or_false,not_or]at B;exact M c o B.1 (U c o B.1 B.2.2.1 B.2.2.2.1 B.2.2.2.2 e)
  have F:H s.heap.objs.size=none:=I.fresh;have ao:za3 h2 s.heap.objs.size u v:=M _ _ (zbu (zz z (by simp))) a5;have I2:Inv X pins σ (upd H s.heap.objs.size (.tup [xs[i],ys[i]])) {s with heap:=h2}:=by
   have an:HOk X.prog X.w (upd H s.heap.objs.size (.tup [xs[i],ys[i]])) h2:=λc ob e=>by
    by_cases B:c=s.heap.objs.size
    ·subst B;rw[aL]at e;cases e
     exact⟨by show 2<=zal;decide,[u,v],.cons ru (.cons rv .nil),_,ao,rfl,0,rfl,rfl⟩
    ·rw[aG B]at e
     exact(I1.hok c ob e).stay (λ_ _ _ q=>q) (λd q=>by rw[aG (bJ q F)];exact q) λd af q=>by rw[aG (bJ q F)];exact q
   refine I.call' (s':={s with heap:=h2}) (ch:=[z,TI,TO,Y,W]) rfl ⟨λc o e _ _ hx=>?_,λc o e _ _ hx=>⟨o.slots,?_⟩,λc o e n hx=>by rw[aG (zaF (zan e))];exact n,λc o e hx=>⟨o,?_⟩,λc af q=>by rw[aG (bJ q F)];exact q,λc o' u' q=>by rw[aG (bJ q F)];exact q,λc ps q=>⟨#[],by rw[aG (bJ q F),q];simp⟩⟩ an I.bare λb hb=>?_
   ·simp only[zaX,zaZ,or_false,not_or]at hx
    exact M c o hx.1 (U c o hx.1 hx.2.2.1 hx.2.2.2.1 hx.2.2.2.2 e)
   ·simp only[zaX,zaZ,or_false,not_or]at hx
    exact M c o hx.1 (U c o hx.1 hx.2.2.1 hx.2.2.2.1 hx.2.2.2.2 e)
   ·simp only[zaX,zaZ,or_false,not_or]at hx
    exact M c o hx.1 (U c o hx.1 hx.2.2.1 hx.2.2.2.1 hx.2.2.2.2 e)
   ·obtain⟨_,f1,_,f3,f4,f5⟩:=hf b hb
    exact⟨f3,f1,f4,f5⟩
  refine⟨.ref s.heap.objs.size,_,I2,rfl,⟨_,_,_,rfl,F,rfl,λbf af g1 g2=>by rw[<- yJ I q1 g1,<- yJ I q2 g2];exact⟨e1,e2⟩⟩,⟨ax,M _ _ D.z1 (U _ _ D.z1 D.z5 D.z6 D.z7 G),⟨_,_,M _ _ D.z2 a2⟩,a3.to λo e=>M _ o D.z3 e,a4.to λo e=>M _ o D.z4 e⟩,λc B=>?_⟩;rw[aG (zaF (zz c B))];exact(hf c B).1
 done:=by
  intro X hP hw hK B i pins s σ H E I hf st hg;subst hP hw hK;obtain⟨N,G,⟨a,b,J⟩,s1,s2⟩:=st;obtain⟨xs,ys,q1,q2,ag⟩:=hg;obtain⟨ad,r1,p1⟩:=jR I q1;obtain⟨ah,r2,p2⟩:=jR I q2;have n1:=r1.length;have n2:=r2.length;refine MF (I.ok.hd B) D N G J s1 s2 p1 p2 (ag.imp (λh=>by simp;lia) λh=>by simp;lia) λh' U=>⟨rfl,i8 (t':=s.toks) I hf λc o B e=>?_⟩
  simp only[zaX,zaZ,or_false,not_or]at B;exact U c o B.1 B.2.2.1 B.2.2.2.1 B.2.2.2.2 e
 self:=λ_ _ _ _ _ st h=>wpAny_pyIter_zip st.1 h
theorem qy(n z q:Nat)(h1:z<n)(h2:q<n):ZA (n+4) (n+2) (n+3) n (n+1) z q:=⟨(show(n+2:Nat)≠n+4 by lia),(show(n+3:Nat)≠n+4 by lia),(show(n:Nat)≠n+4 by lia),(show(n+1:Nat)≠n+4 by lia),(show(n+2:Nat)≠n+3 by lia),(show(n+2:Nat)≠n by lia),(show(n+2:Nat)≠n+1 by lia),(show(n+3:Nat)≠n by lia),(show(n+3:Nat)≠n+1 by lia),(show(n:Nat)≠n+1 by lia),⟨(show(z:Nat)≠n+4 by lia),(show(z:Nat)≠n+3 by lia),(show(z:Nat)≠n by lia),(show(z:Nat)≠n+1 by lia)⟩,⟨(show(q:Nat)≠n+4 by lia),(show(q:Nat)≠n+3 by lia),(show(q:Nat)≠n by lia),(show(q:Nat)≠n+1 by lia)⟩⟩
def qcb(K:zae)(ta:TA):TI:=λσ H R=>ta σ H λvs H1=>∃B F z q xs ys,vs=[.ref z,.ref q]/\DG K B H1 z xs/\DG K F H1 q ys/\R (ItZ K B F z q) H1
theorem X9{F:List Expr}{x1}(hg:Gl X "zip")(hm:X.mg "zip" = none)(ha:PA X [a,b] ta)(hs:zag [a,b] X.env=[(false,eval a X.env),(false,eval b X.env)]:=by rfl)(G:zag [b] X.env=[(false,eval b X.env)]:=by rfl) :
  PI X (.Tuple F x1 tp) (.Call (.Name "zip" p) [a,b] [] pos) (qcb X.K ta):=by
 intro pins s σ H R I h;refine Call_ (mX I hg hm My.boot_zip (zcQ (cK (ha pos pins s σ H _ I h) λus z ⟨vs,H1,B,r1,M⟩=>?_) (by rw[hs,G]) (by rw[G];rfl)));obtain⟨t1,t2,l1,l2,xs,ys,rfl,M,q2,q⟩:=M;obtain⟨u,v,rfl,ru,rv⟩:=vals2 r1;cases ru;cases rv;obtain⟨ab,_,p1⟩:=jR B M;obtain⟨ae,_,p2⟩:=jR B q2;have b1:l1<z.heap.objs.size:=by obtain⟨o,e,_⟩:=p1;exact zan e
 have b2:l2<z.heap.objs.size:=by obtain⟨o,e,_⟩:=p2;exact zan e
 refine NZ p1 p2 λh' hz U W N Y k=>?_
 refine wpAny_pyIter_zip hz ?_;have D:ZA (z.heap.objs.size+4) (z.heap.objs.size+2) (z.heap.objs.size+3) z.heap.objs.size (z.heap.objs.size+1) l1 l2:=qy _ _ _ b1 b2;refine⟨_,[_,_,_,_,_],_,_,H1,rfl,B.kept (t':=z.toks) k,MW t1 t2 D,⟨hz,U,⟨_,_,W⟩,N,Y⟩,λc J=>B.fpOk ?_ (B.hok.fresh ?_),q⟩
 ·simp only[zaX,zaZ,or_false]at J
  rcases J with rfl|rfl|rfl|rfl|rfl <;> lia
 ·simp only[zaX,zaZ,or_false]at J
  rcases J with rfl|rfl|rfl|rfl|rfl <;> lia
end My
namespace P
inductive D where
 | non|bl (b:Bool)|int (i:Int)|str (x:Str)|tup (l:List D)|lst (l:List D)
 | dK (l:List (Key×D))|dT (l:List (List Key×D))
 | ob (C:Addr) (fs:List (Str×D))|mem (dom:List (Key×List Key)) (f:Key×List Key->Option (Int×Int))
abbrev Av:=Addr->Prop
section
variable (A:Av)(H:Hp)
mutual
/-- a heap bears a value that stays (the things that may still be written are in A) -/
inductive Rep:D->V->Prop where
 | non:Rep .non .non
 | bl (b:Bool):Rep (.bl b) (.bl b)
 | int (i:Int):Rep (.int i) (.int i)
 | str (x:Str):Rep (.str x) (.str x)
 | tup {l:List D} {a:Addr} {xs:List V} (h:H a=some (.tup xs)) (r:RepL l xs):Rep (.tup l) (.ref a)
 | lst {l:List D} {a:Addr} {xs:List V} (n:¬ A a) (h:Rd H a (.lst xs)) (r:RepL l xs):Rep (.lst l) (.ref a)
 | dK {l:List (Key×D)} {a:Addr} {xs:List (Key×V)} (n:¬ A a) (h:Rd H a (.dK xs)) (e:xs.map (·.1)=l.map (·.1)) (r:RepL (l.map (·.2)) (xs.map (·.2))):Rep (.dK l) (.ref a)
 | dT {l:List (List Key×D)} {a:Addr} {xs:List (List Key×V)} (n:¬ A a) (h:Rd H a (.dT xs)) (e:xs.map (·.1)=l.map (·.1)) (r:RepL (l.map (·.2)) (xs.map (·.2))):Rep (.dT l) (.ref a)
 | ob {C a dx:Addr} {fs:List (Str×D)} {vs:List (Str×V)} (n:¬ A a) (h:H a=some (.ins C dx vs)) (e:vs.map (·.1)=fs.map (·.1)) (r:RepL (fs.map (·.2)) (vs.map (·.2))):Rep (.ob C fs) (.ref a)
 | mem {dom:List (Key×List Key)} {f:Key×List Key->Option (Int×Int)} {a:Addr} (h:H a=some (.memo dom f none)):Rep (.mem dom f) (.ref a)
inductive RepL:List D->List V->Prop where
 | nil:RepL [] []
 | cons {d:D} {v:V} {ds:List D} {vs:List V} (h:Rep d v) (t:RepL ds vs):RepL (d::ds) (v::vs)
end
inductive RepB:D->V->Prop where
 | of {d:D} {v:V} (h:Rep A H d v):RepB d v
 | lst {l:List D} {a:Addr} {xs:List V} (h:Rd H a (.lst xs)) (r:RepL A H l xs):RepB (.lst l) (.ref a)
 | dK {l:List (Key×D)} {a:Addr} {xs:List (Key×V)} (h:Rd H a (.dK xs)) (e:xs.map (·.1)=l.map (·.1)) (r:RepL A H (l.map (·.2)) (xs.map (·.2))):RepB (.dK l) (.ref a)
 | dT {l:List (List Key×D)} {a:Addr} {xs:List (List Key×V)} (h:Rd H a (.dT xs)) (e:xs.map (·.1)=l.map (·.1)) (r:RepL A H (l.map (·.2)) (xs.map (·.2))):RepB (.dT l) (.ref a)
inductive Own:D->Addr->Prop where
 | lst {l:List D} {a:Addr} {xs:List V} (h:H a=some (.lst xs)) (r:RepL A H l xs):Own (.lst l) a
 | dK {l:List (Key×D)} {a:Addr} {xs:List (Key×V)} (h:H a=some (.dK xs)) (e:xs.map (·.1)=l.map (·.1)) (r:RepL A H (l.map (·.2)) (xs.map (·.2))):Own (.dK l) a
 | dT {l:List (List Key×D)} {a:Addr} {xs:List (List Key×V)} (h:H a=some (.dT xs)) (e:xs.map (·.1)=l.map (·.1)) (r:RepL A H (l.map (·.2)) (xs.map (·.2))):Own (.dT l) a
end
def Kp:HO->Prop
 | .tup _=>True | .lst _=>True | .ins _ _ _=>True | .memo _ _ _=>True|_=>False
structure Ext(A:Av)(H H':Hp):Prop where
 rd:∀b u,Rd H b u->Rd H' b u
 kp:∀b u,Kp u->H b=some u->H' b=some u
 ow:∀b u,A b->H b=some u->H' b=some u
 fz:∀b o u,H b=some (.frz o u)->H' b=some (.frz o u)
theorem Ext.refl(A:Av)(H:Hp):Ext A H H:=⟨λ_ _ h=>h,λ_ _ _ h=>h,λ_ _ _ h=>h,λ_ _ _ h=>h⟩
theorem Ext.trans(a:Ext A H H1)(b:Ext A H1 H2):Ext A H H2:=
 ⟨λc u h=>b.rd c u (a.rd c u h),λc u k h=>b.kp c u k (a.kp c u k h),λc u n h=>b.ow c u n (a.ow c u n h),λc o u h=>b.fz c o u (a.fz c o u h)⟩
theorem Ext.mono(h:Ext A H H')(s:∀a,A' a->A a):Ext A' H H':=⟨h.rd,h.kp,λb u n e=>h.ow b u (s b n) e,h.fz⟩
theorem Ext.same(h:Same H H'):Ext A H H':=
 ⟨λb u r=>by rcases r with r|⟨o,r⟩;exact .inl (h _ _ r);exact .inr ⟨o,h _ _ r⟩,λb u _ r=>h _ _ r,λb u _ r=>h _ _ r,λb o u r=>h _ _ r⟩
theorem Ext.tp(x:Ext A H H')(b:Addr)(xs:List V)(h:H b=some (.tup xs)):H' b=some (.tup xs):=x.kp b _ trivial h
theorem Ext.new(h:H p=none):Ext A H (upd H p o):=Ext.same (My.NE h)
mutual
theorem Rep.ext(x:Ext A H H'):Rep A H d v->Rep A H' d v
 | .non=>.non
 | .bl b=>.bl b
 | .int i=>.int i
 | .str s=>.str s
 | .tup h r=>.tup (x.tp _ _ h) (RepL.ext x r)
 | .lst n h r=>.lst n (x.rd _ _ h) (RepL.ext x r)
 | .dK n h e r=>.dK n (x.rd _ _ h) e (RepL.ext x r)
 | .dT n h e r=>.dT n (x.rd _ _ h) e (RepL.ext x r)
 | .ob n h e r=>.ob n (x.kp _ _ trivial h) e (RepL.ext x r)
 | .mem h=>.mem (x.kp _ _ trivial h)
theorem RepL.ext(x:Ext A H H'):RepL A H ds vs->RepL A H' ds vs
 | .nil=>.nil
 | .cons h t=>.cons (Rep.ext x h) (RepL.ext x t)
end
theorem RepB.ext(x:Ext A H H'):RepB A H d v->RepB A H' d v
 | .of h=>.of (h.ext x)
 | .lst h r=>.lst (x.rd _ _ h) (r.ext x)
 | .dK h e r=>.dK (x.rd _ _ h) e (r.ext x)
 | .dT h e r=>.dT (x.rd _ _ h) e (r.ext x)
theorem Own.ext(x:Ext A H H')(q:A a):Own A H d a->Own A H' d a
 | .lst h r=>.lst (x.ow _ _ q h) (r.ext x)
 | .dK h e r=>.dK (x.ow _ _ q h) e (r.ext x)
 | .dT h e r=>.dT (x.ow _ _ q h) e (r.ext x)
theorem Own.b:Own A H d a->RepB A H d (.ref a)
 | .lst h r=>.lst (.inl h) r
 | .dK h e r=>.dK (.inl h) e r
 | .dT h e r=>.dT (.inl h) e r
mutual
/-- avoid other things: those that were not there, or fewer -/
theorem Rep.av(x:∀a,A' a->A a\/H a=none):Rep A H d v->Rep A' H d v
 | .non=>.non
 | .bl b=>.bl b
 | .int i=>.int i
 | .str s=>.str s
 | .tup h r=>.tup h (RepL.av x r)
 | .lst n h r=>.lst (λz=>(x _ z).elim n λz=>by rcases h with h|⟨o,h⟩ <;> (rw[z]at h;cases h)) h (RepL.av x r)
 | .dK n h e r=>.dK (λz=>(x _ z).elim n λz=>by rcases h with h|⟨o,h⟩ <;> (rw[z]at h;cases h)) h e (RepL.av x r)
 | .dT n h e r=>.dT (λz=>(x _ z).elim n λz=>by rcases h with h|⟨o,h⟩ <;> (rw[z]at h;cases h)) h e (RepL.av x r)
 | .ob n h e r=>.ob (λz=>(x _ z).elim n λz=>by rw[z]at h;cases h) h e (RepL.av x r)
 | .mem h=>.mem h
theorem RepL.av(x:∀a,A' a->A a\/H a=none):RepL A H ds vs->RepL A' H ds vs
 | .nil=>.nil
 | .cons h t=>.cons (Rep.av x h) (RepL.av x t)
end
noncomputable def ZR:HO->Prop
 | .lst _=>True | .dK _=>True | .dT _=>True|_=>False
theorem iD(n:b≠a)(h:Rd H b u):Rd (upd H a o) b u:=by
 rcases h with h|⟨x,h⟩
 ·exact .inl (by rw[aG n];exact h)
 ·exact .inr ⟨x,by rw[aG n];exact h⟩
mutual
theorem Rep.put(q:A a)(B:H a=some u)(F:ZR u):Rep A H d v->Rep A (upd H a o) d v
 | .non=>.non
 | .bl b=>.bl b
 | .int i=>.int i
 | .str s=>.str s
 | .tup (a:=b) h r=>.tup (by rw[aG (λz=>by subst z;rw[B]at h;cases h;exact F)];exact h) (RepL.put q B F r)
 | .lst (a:=b) n h r=>.lst n (iD (λz=>n (by rw[z];exact q)) h) (RepL.put q B F r)
 | .dK (a:=b) n h e r=>.dK n (iD (λz=>n (by rw[z];exact q)) h) e (RepL.put q B F r)
 | .dT (a:=b) n h e r=>.dT n (iD (λz=>n (by rw[z];exact q)) h) e (RepL.put q B F r)
 | .ob (a:=b) n h e r=>.ob n (by rw[aG (λz=>by subst z;rw[B]at h;cases h;exact F)];exact h) e (RepL.put q B F r)
 | .mem (a:=b) h=>.mem (by rw[aG (λz=>by subst z;rw[B]at h;cases h;exact F)];exact h)
theorem RepL.put(q:A a)(z:H a=some u)(B:ZR u):RepL A H ds vs->RepL A (upd H a o) ds vs
 | .nil=>.nil
 | .cons h t=>.cons (Rep.put q z B h) (RepL.put q z B t)
end
theorem Own.put{A:Av}{H:Hp}{a b:Addr}{o u:HO}(q:A a)(z:H a=some u)(F:ZR u)(B:b≠a){d:D}:Own A H d b->Own A (upd H a o) d b
 | .lst h r=>.lst (by rw[aG B];exact h) (r.put q z F)
 | .dK h e r=>.dK (by rw[aG B];exact h) e (r.put q z F)
 | .dT h e r=>.dT (by rw[aG B];exact h) e (r.put q z F)
theorem Own.av(x:∀a,A' a->A a\/H a=none):Own A H d a->Own A' H d a
 | .lst h r=>.lst h (r.av x)
 | .dK h e r=>.dK h e (r.av x)
 | .dT h e r=>.dT h e (r.av x)
theorem Own.rep(n:¬ A a):Own A H d a->Rep A H d (.ref a)
 | .lst h r=>.lst n (.inl h) r
 | .dK h e r=>.dK n (.inl h) e r
 | .dT h e r=>.dT n (.inl h) e r
section
variable {A:Av}{H:Hp}
theorem RepL.length:∀ {ds:List D} {vs:List V},RepL A H ds vs->vs.length=ds.length
 | _,_,.nil=>rfl
 | _,_,.cons _ t=>by rw[zaz,zaz,RepL.length t]
theorem RepL.get:∀ {ds:List D} {vs:List V} {i:Nat} {v:V},RepL A H ds vs->vs[i]?=some v->∃d,ds[i]?=some d/\Rep A H d v
 | _,_,i,v,.nil,e=>by simp at e
 | _,_,0,v,.cons h t,e=>by simp at e;subst e;exact⟨_,rfl,h⟩
 | _,_,i+1,v,.cons h t,e=>RepL.get (i:=i) t (by simpa using e)
theorem RepL.get':∀ {ds:List D} {vs:List V} {i:Nat} {d:D},RepL A H ds vs->ds[i]?=some d->∃v,vs[i]?=some v/\Rep A H d v
 | _,_,i,v,.nil,e=>by simp at e
 | _,_,0,v,.cons h t,e=>by simp at e;subst e;exact⟨_,rfl,h⟩
 | _,_,i+1,v,.cons h t,e=>RepL.get' (i:=i) t (by simpa using e)
theorem RepL.append:∀ {ds es:List D} {vs us:List V},RepL A H ds vs->RepL A H es us->RepL A H (ds++es) (vs++us)
 | _,_,_,_,.nil,s=>s
 | _,_,_,_,.cons h t,s=>.cons h (RepL.append t s)
theorem RepL.take:∀ {ds:List D} {vs:List V} (n:Nat),RepL A H ds vs->RepL A H (ds.take n) (vs.take n)
 | _,_,0,_=>by simp;exact .nil
 | _,_,n+1,.nil=>.nil
 | _,_,n+1,.cons h t=>.cons h (RepL.take n t)
theorem RepL.drop:∀ {ds:List D} {vs:List V} (n:Nat),RepL A H ds vs->RepL A H (ds.drop n) (vs.drop n)
 | _,_,0,r=>r
 | _,_,n+1,.nil=>.nil
 | _,_,n+1,.cons h t=>RepL.drop n t
theorem RepL.set:∀ {ds:List D} {vs:List V} {d:D} {v:V} (n:Nat),Rep A H d v->RepL A H ds vs->RepL A H (ds.set n d) (vs.set n v)
 | _,_,_,_,_,_,.nil=>.nil
 | _,_,_,_,0,r,.cons h t=>.cons r t
 | _,_,_,_,n+1,r,.cons h t=>.cons h (RepL.set n r t)
theorem Rep.b(h:Rep A H d v):RepB A H d v:=.of h
theorem RepB.int_inv(h:RepB A H (.int i) v):v=.int i:=by cases h with|of h=>cases h;rfl
theorem RepB.bl_inv(h:RepB A H (.bl i) v):v=.bl i:=by cases h with|of h=>cases h;rfl
theorem RepB.str_inv(h:RepB A H (.str i) v):v=.str i:=by cases h with|of h=>cases h;rfl
theorem RepB.non_inv(h:RepB A H .non v):v=.non:=by cases h with|of h=>cases h;rfl
theorem RepB.tup_inv(h:RepB A H (.tup l) v):∃a xs,v=.ref a/\H a=some (.tup xs)/\RepL A H l xs:=by
 cases h with|of h=>cases h with|tup h r=>exact⟨_,_,rfl,h,r⟩
theorem RepB.ob_inv{C:Addr}{fs:List (Str×D)}{v:V}(h:RepB A H (.ob C fs) v):∃a dx vs,v=.ref a/\H a=some (.ins C dx vs)/\vs.map (·.1)=fs.map (·.1)/\RepL A H (fs.map (·.2)) (vs.map (·.2)):=by
 cases h with
 | of h=>cases h with
  | ob n h e r=>exact⟨_,_,_,rfl,h,e,r⟩
theorem RepB.mem_inv{dom:List (Key×List Key)}{f:Key×List Key->Option (Int×Int)}{v:V}(h:RepB A H (.mem dom f) v):∃a,v=.ref a/\H a=some (.memo dom f none):=by
 cases h with
 | of h=>cases h with
  | mem h=>exact⟨_,rfl,h⟩
theorem RepB.lst_inv(h:RepB A H (.lst l) v):∃a xs,v=.ref a/\Rd H a (.lst xs)/\RepL A H l xs:=by
 cases h with
 | of h=>cases h with|lst n h r=>exact⟨_,_,rfl,h,r⟩
 | lst h r=>exact⟨_,_,rfl,h,r⟩
theorem RepB.dK_inv(h:RepB A H (.dK l) v):∃a xs,v=.ref a/\Rd H a (.dK xs)/\xs.map (·.1)=l.map (·.1)/\RepL A H (l.map (·.2)) (xs.map (·.2)):=by
 cases h with
 | of h=>cases h with|dK n h e r=>exact⟨_,_,rfl,h,e,r⟩
 | dK h e r=>exact⟨_,_,rfl,h,e,r⟩
theorem RepB.dT_inv(h:RepB A H (.dT l) v):∃a xs,v=.ref a/\Rd H a (.dT xs)/\xs.map (·.1)=l.map (·.1)/\RepL A H (l.map (·.2)) (xs.map (·.2)):=by
 cases h with
 | of h=>cases h with|dT n h e r=>exact⟨_,_,rfl,h,e,r⟩
 | dT h e r=>exact⟨_,_,rfl,h,e,r⟩
end
abbrev cX:=List (Option D)
inductive Fact where
 | rep (d:D) (v:V)|fz (a:Addr) (o:Obj) (u:HO)
def Fact.Holds(A:Av)(H:Hp):Fact->Prop
 | .rep d v=>Rep A H d v
 | .fz a o u=>H a=some (.frz o u)
theorem Fact.ext(x:Ext A H H'):∀ {p:Fact},p.Holds A H->p.Holds A H'
 | .rep _ _,h=>Rep.ext x h
 | .fz _ _ _,h=>x.fz _ _ _ h
theorem Fact.av(x:∀a,A' a->A a\/H a=none):∀ {p:Fact},p.Holds A H->p.Holds A' H
 | .rep _ _,h=>Rep.av x h
 | .fz _ _ _,h=>h
theorem Fact.put(G:A a)(B:H a=some u)(F:ZR u):∀ {p:Fact},p.Holds A H->p.Holds A (upd H a o)
 | .rep _ _,h=>Rep.put G B F h
 | .fz b q w,h=>by
  have h:H b=some (.frz q w):=h;show upd H a o b=some (.frz q w);rw[aG (λz=>by subst z;rw[B]at h;cases h;exact F)];exact h
structure ST(H0:Hp)(A0 A:Av)(E:List Fact)(O:List Nat)(σ:L2.St)(H:Hp)(ρ:cX):Prop where
 ex:Ext A0 H0 H
 sub:∀a,A0 a->A a
 l0:∀a,A0 a->H0 a≠none
 live:∀a,A a->H a≠none
 len:σ.length=ρ.length
 val:∀i d,ρ[i]?=some (some d)->i∉O->∃v,σ[i]?=some (some v)/\Rep A H d v
 own:∀i d,ρ[i]?=some (some d)->i∈O->∃a,σ[i]?=some (some (.ref a))/\A a/\H0 a=none/\Own A H d a
 inj:∀i j d d' a,i∈O->j∈O->ρ[i]?=some (some d)->ρ[j]?=some (some d')->σ[i]?=some (some (.ref a))->σ[j]?=some (some (.ref a))->i=j
 ext:∀p∈E,p.Holds A H
section
variable {H0:Hp}{A0 A:Av}{E:List Fact}{O:List Nat}{σ:L2.St}{H H':Hp}{ρ:cX}
theorem ST.mono(s:ST H0 A0 A E O σ H ρ)(x:Ext A H H'):ST H0 A0 A E O σ H' ρ where
 ex:=s.ex.trans (x.mono s.sub)
 sub:=s.sub
 l0:=s.l0
 live:=λa q=>by
  have:=s.live a q;cases e:H a with
  | none=>exact absurd e this
  | some u=>rw[x.ow a u q e];exact λz=>nomatch z
 len:=s.len
 val:=λi d h n=>by obtain⟨v,h1,h2⟩:=s.val i d h n;exact⟨v,h1,h2.ext x⟩
 own:=λi d h n=>by obtain⟨a,h1,h2,G,B⟩:=s.own i d h n;exact⟨a,h1,h2,G,B.ext x h2⟩
 inj:=s.inj
 ext:=λp F=>Fact.ext x (s.ext p F)
theorem ST.more(s:ST H0 A0 A E O σ H ρ)(h:Rep A H d v):ST H0 A0 A (.rep d v::E) O σ H ρ:=
 {s with ext:=λp q=>by rcases List.mem_cons.mp q with e|e;rw[e];exact h;exact s.ext p e}
theorem ST.less(s:ST H0 A0 A E O σ H ρ)(h:∀p∈E',p∈E):ST H0 A0 A E' O σ H ρ:=
 {s with ext:=λp q=>s.ext p (h p q)}
theorem fF(h:(ρ.set i o)[j]?=some (some d)):(j=i/\o=some d/\i<ρ.length)\/(j≠i/\ρ[j]?=some (some d)):=by
 rw[List.getElem?_set]at h;by_cases e:i=j
 ·rw[if_pos e]at h
  by_cases l:i<ρ.length
  ·rw[if_pos l]at h
   exact .inl ⟨e.symm,zay h,l⟩
  ·rw[if_neg l]at h;cases h
 ·rw[if_neg e]at h
  exact .inr ⟨λz=>e z.symm,h⟩
theorem sig_set(h:i<σ.length):(σ.set i (some v))[i]?=some (some v):=by simp[h]
theorem nC(h:j≠i):(σ.set i (some v))[j]?=σ[j]?:=by rw[zbE (zaW h)]
theorem ST.put(s:ST H0 A0 A E O σ H ρ)(h:Rep A H d v)(n:i∉O):ST H0 A0 A E O (σ.set i (some v)) H (ρ.set i (some d)) where
 ex:=s.ex
 sub:=s.sub
 l0:=s.l0
 live:=s.live
 len:=by simp[s.len]
 val:=λj d' h' B=>by
  rcases fF h' with⟨e,q,l⟩|⟨e,q⟩
  ·subst e;cases q;exact⟨v,sig_set (by rw[s.len];exact l),h⟩
  ·obtain⟨w,h1,h2⟩:=s.val j d' q B;exact⟨w,by rw[nC e];exact h1,h2⟩
 own:=λj d' h' B=>by
  rcases fF h' with⟨e,q,l⟩|⟨e,q⟩
  ·subst e;exact absurd B n
  ·obtain⟨w,h1,h2⟩:=s.own j d' q B;exact⟨w,by rw[nC e];exact h1,h2⟩
 inj:=λj k W Y a G J h1 h2 F N=>by
  have M:j≠i:=λz=>n (z ▸ G)
  have U:k≠i:=λz=>n (z ▸ J)
  rcases fF h1 with⟨e,_⟩|⟨_,h1⟩
  ·exact absurd e M
  rcases fF h2 with⟨e,_⟩|⟨_,h2⟩
  ·exact absurd e U
  exact s.inj j k W Y a G J h1 h2 (by rw[nC M]at F;exact F) (by rw[nC U]at N;exact N)
 ext:=s.ext
theorem ST.shut(s:ST H0 A0 A E O σ H ρ)(h:∀i,i∈O'->i∈O):∃A',ST H0 A0 A' E O' σ H ρ:=by
 let F:Av:=λa=>∃i d,i∈O/\i∉O'/\ρ[i]?=some (some d)/\σ[i]?=some (some (.ref a))
 have cut:∀a,(A a/\¬ F a)->A a\/H a=none:=λa z=>.inl z.1
 refine⟨λa=>A a/\¬ F a,s.ex,λa M=>⟨s.sub a M,?_⟩,s.l0,λa M=>s.live a M.1,s.len,λi d hi n=>?_,λi d hi n=>?_,λi j d d' a hi Y=>s.inj i j d d' a (h i hi) (h j Y),λp hp=>Fact.av cut (s.ext p hp)⟩
 ·rintro⟨i,d,h1,h2,U,W⟩
  obtain⟨b,q,B,J,G⟩:=s.own i d U h1;rw[W]at q;cases q;exact s.l0 a M J
 ·by_cases N:i∈O
  ·obtain⟨a,q,B,J,G⟩:=s.own i d hi N
   exact⟨.ref a,q,(G.av cut).rep λz=>z.2 ⟨i,d,N,n,hi,q⟩⟩
  ·obtain⟨v,q,B⟩:=s.val i d hi N
   exact⟨v,q,B.av cut⟩
 ·obtain⟨a,q,B,J,G⟩:=s.own i d hi (h i n)
  refine⟨a,q,⟨B,?_⟩,J,G.av cut⟩;rintro⟨j,d',h1,h2,U,W⟩;have:=s.inj i j d d' a (h i n) h1 hi U q W;subst this;exact h2 n
end
abbrev Ev:=cX->Option D
abbrev Bv:=cX->Option Bool
abbrev Lv:=cX->Option (List D)
abbrev RR:=Av->Hp->D->V->Prop
inductive tD(R:RR)(O:List Nat)(f:Ev)(σ:L2.St)(H:Hp)(Q:VK):Prop
 | mk (H0:Hp) (A0 A:Av) (E:List Fact) (ρ:cX) (d:D) (st:ST H0 A0 A E O σ H ρ) (e:f ρ=some d) (q:∀v H',Ext A H H'->R A H' d v->Q v H'):tD R O f σ H Q
inductive tDT(O:List Nat)(g:Bv)(σ:L2.St)(H:Hp)(Q:Bool->Hp->Prop):Prop
 | mk (H0:Hp) (A0 A:Av) (E:List Fact) (ρ:cX) (b:Bool) (st:ST H0 A0 A E O σ H ρ) (e:g ρ=some b) (q:∀H',Ext A H H'->Q b H'):tDT O g σ H Q
def PD(X:Cx)(O:List Nat)(e:Expr)(f:Ev):Prop:=PE X e (tD Rep O f)
def PB(X:Cx)(O:List Nat)(e:Expr)(f:Ev):Prop:=PE X e (tD RepB O f)
def wB(X:Cx)(O:List Nat)(e:Expr)(g:Bv):Prop:=PT X e (tDT O g)
def PDW(X:Cx)(O:List Nat)(e:Expr)(g:Bv):Prop:=PW X e (tDT O g)
theorem PDW.pt(h:PDW X O e g):wB X O e g:=PW.pt h
inductive RL(R:RR)(A:Av)(H:Hp):List D->List V->Prop where
 | nil:RL R A H [] []
 | cons {d v ds vs} (h:R A H d v) (t:RL R A H ds vs):RL R A H (d::ds) (v::vs)
inductive tDA(R:RR)(O:List Nat)(f:Lv)(σ:L2.St)(H:Hp)(Q:List V->Hp->Prop):Prop
 | mk (H0:Hp) (A0 A:Av) (E:List Fact) (ρ:cX) (ds:List D) (st:ST H0 A0 A E O σ H ρ) (e:f ρ=some ds) (q:∀vs H',Ext A H H'->RL R A H' ds vs->Q vs H'):tDA R O f σ H Q
def DE(X:Cx)(O:List Nat)(es:List Expr)(f:Lv):Prop:=PA X es (tDA Rep O f)
def xS(X:Cx)(O:List Nat)(es:List Expr)(f:Lv):Prop:=PA X es (tDA RepB O f)
section
variable {X:Cx}{O:List Nat}
theorem PE.mono(h:PE X e t)(x:∀σ H Q,t' σ H Q->t σ H Q):PE X e t':=λpins s σ H Q I w=>h pins s σ H Q I (x σ H Q w)
theorem PT.mono(h:PT X e t)(x:∀σ H Q,t' σ H Q->t σ H Q):PT X e t':=λpins s σ H Q I w=>h pins s σ H Q I (x σ H Q w)
theorem PW.mono(h:PW X e t)(x:∀σ H Q,t' σ H Q->t σ H Q):PW X e t':=λq pins s σ H Q I w=>h q pins s σ H Q I (x σ H Q w)
theorem PA.mono(h:PA X es t)(x:∀σ H Q,t' σ H Q->t σ H Q):PA X es t':=λpos pins s σ H Q I w=>h pos pins s σ H Q I (x σ H Q w)
theorem PD.b{e:Expr}{f:Ev}(h:PD X O e f):PB X O e f:=PE.mono h λσ H Q ⟨H0,A0,A,E,ρ,d,st,e,q⟩=>⟨H0,A0,A,E,ρ,d,st,e,λv H' x r=>q v H' x (.of r)⟩
theorem RL.toL:∀ {ds:List D} {vs:List V},RL Rep A H ds vs->RepL A H ds vs
 | _,_,.nil=>.nil
 | _,_,.cons h t=>.cons h (RL.toL t)
def aD(i:Nat):Ev:=λρ=>(ρ[i]?).join
def eC(d:D):Ev:=λ_=>some d
theorem bW{ρ:cX}{i:Nat}{d:D}(h:(ρ[i]?).join=some d):ρ[i]?=some (some d):=by
 cases e:ρ[i]? with
 | none=>rw[e]at h;cases h
 | some o=>rw[e]at h;cases o with
  | none=>cases h
  | some x=>cases h;rfl
theorem vE{e:Expr}(i:Nat)(h:PE X e (dB i))(n:i∉O):PD X O e (aD i):=PE.mono h <| by
 rintro σ H Q ⟨H0,A0,A,E,ρ,d,st,e,q⟩;obtain⟨v,z,r⟩:=st.val i d (bW e) n;exact⟨v,z,q v H (Ext.refl _ _) r⟩
theorem Y2{e:Expr}(i:Nat)(h:PE X e (dB i)):PB X O e (aD i):=PE.mono h <| by
 rintro σ H Q ⟨H0,A0,A,E,ρ,d,st,e,q⟩;by_cases n:i∈O
 ·obtain⟨a,z,_,_,r⟩:=st.own i d (bW e) n
  exact⟨_,z,q _ H (Ext.refl _ _) r.b⟩
 ·obtain⟨v,z,r⟩:=st.val i d (bW e) n
  exact⟨v,z,q v H (Ext.refl _ _) (.of r)⟩
theorem YC{i j pos}:PD X O (.Constant (.int i) j pos) (eC (.int i)):=PE.mono mT λσ H Q ⟨H0,A0,A,E,ρ,d,st,e,q⟩=>by cases e;exact q _ H (Ext.refl _ _) (.int _)
theorem qay{i j pos}:PD X O (.Constant (.bool i) j pos) (eC (.bl i)):=PE.mono qh λσ H Q ⟨H0,A0,A,E,ρ,d,st,e,q⟩=>by cases e;exact q _ H (Ext.refl _ _) (.bl _)
theorem YJ{i j pos}:PD X O (.Constant (.str i) j pos) (eC (.str i)):=PE.mono mV λσ H Q ⟨H0,A0,A,E,ρ,d,st,e,q⟩=>by cases e;exact q _ H (Ext.refl _ _) (.str _)
theorem Y1{j pos}:PD X O (.Constant .none j pos) (eC .non):=PE.mono XE λσ H Q ⟨H0,A0,A,E,ρ,d,st,e,q⟩=>by cases e;exact q _ H (Ext.refl _ _) .non
def Live(A:Av)(H:Hp):Prop:=∀a,A a->H a≠none
theorem Live.ext(l:Live A H)(x:Ext A H H'):Live A H':=λa q=>by
 cases e:H a with
 | none=>exact absurd e (l a q)
 | some u=>rw[x.ow a u q e];exact λz=>nomatch z
inductive rD(g:D->D->Option D)(x y:V)(H:Hp)(Q:VK):Prop
 | mk (A:Av) (dx dy d:D) (lv:Live A H) (rx:RepB A H dx x) (ry:RepB A H dy y) (e:g dx dy=some d) (q:∀v H',Ext A H H'->Rep A H' d v->Q v H'):rD g x y H Q
def mE(X:Cx)(f:Value->Value->Sem Value)(g:D->D->Option D):Prop:=OpR X f (rD g)
theorem OpR.mono(h:OpR X f r)(x:∀a b H Q,r' a b H Q->r a b H Q):OpR X f r':=λpins s σ H a b v u Q I z q w=>h pins s σ H a b v u Q I z q (x a b H Q w)
def bC(g:D->D->Option D)(q fb:Ev):Ev:=λρ=>(q ρ).bind λx=>(fb ρ).bind λy=>g x y
theorem bind_some{q β:Type}{o:Option q}{f:q->Option β}{b:β}(h:o.bind f=some b):∃a,o=some a/\f a=some b:=by
 cases o with
 | none=>cases h
 | some a=>exact⟨a,rfl,h⟩
theorem zM{g:D->D->Option D}{G fb:Ev}{σ:L2.St}{H:Hp}{Q:VK}(h:tD Rep O (bC g G fb) σ H Q):tOp (rD g) (tD RepB O G) (tD RepB O fb) σ H Q:=by
 obtain⟨H0,A0,A,E,ρ,d,st,e,q⟩:=h;obtain⟨x,ex,e⟩:=bind_some e;obtain⟨y,J,e⟩:=bind_some e;exact⟨H0,A0,A,E,ρ,x,st,ex,λv H1 F r1=>⟨H0,A0,A,E,ρ,y,st.mono F,J,λw H2 B r2=>⟨A,x,y,d,(st.mono (F.trans B)).live,r1.ext B,r2,e,λz M N r3=>q z M ((F.trans B).trans N) r3⟩⟩⟩
theorem bG(q:mE X (zaN op) g)(z:PB X O a fa)(B:PB X O b fb):PD X O (.BinOp a op b pos) (bC g fa fb):=
 PE.mono (qd q z B) λσ H Q h=>zM h
theorem WP(q:mE X (zaB op) g)(z:PB X O a fa)(F:PB X O b fb)(B:zbS op b=false):PD X O (.Compare a [op] [b] pos) (bC g fa fb):=
 PE.mono (UF q z F B) λσ H Q h=>zM h
noncomputable def QY:D->Option Bool
 | .bl b=>some b
 | _=>none
theorem oJ(h:QY d=some b):d=.bl b:=by
 cases d <;> cases h;rfl
def rK(f:Ev):Bv:=λρ=>(f ρ).bind QY
theorem B8{f:Ev}{σ:L2.St}{H:Hp}{Q:Bool->Hp->Prop}(h:tDT O (rK f) σ H Q):tD Rep O f σ H λx H'=>∃k,x=.bl k/\Q k H':=by
 obtain⟨H0,A0,A,E,ρ,b,st,e,q⟩:=h;obtain⟨x,ex,e⟩:=bind_some e;rw[oJ e]at ex;exact⟨H0,A0,A,E,ρ,_,st,ex,λv H1 z r1=>⟨b,RepB.bl_inv (.of r1),q H1 z⟩⟩
theorem yD(q:mE X (zaB op) g)(z:PB X O a fa)(F:PB X O b fb)(B:zbS op b=false):wB X O (.Compare a [op] [b] pos) (rK (bC g fa fb)):=
 PT.mono (T1 q z F B) λσ H Q h=>zM (B8 h)
theorem UP(h:PD X O e f)(z:∀q,isTrue e X.env q=(do let v <- q;standAt e.pos;zcm [v] (truthy v)):=by intro _;rfl):wB X O e (rK f):=
 PT.mono (XO h z) λσ H Q h=>B8 h
def QL(g:Bv):Bv:=λρ=>(g ρ).map (!·)
def LB(g h:Bv):Bv:=λρ=>(g ρ).bind λb=>if b=true then h ρ else some false
def VI(g h:Bv):Bv:=λρ=>(g ρ).bind λb=>if b=true then some true else h ρ
theorem RS(h:wB X O a g):wB X O (.UnaryOp .Not a pos) (QL g):=PT.mono (YY h) <| by
 rintro σ H Q ⟨H0,A0,A,E,ρ,b,st,e,q⟩;unfold QL at e;cases z:g ρ with
 | none=>rw[z]at e;cases e
 | some c=>rw[z]at e;cases e;exact⟨H0,A0,A,E,ρ,c,st,z,q⟩
theorem NP(h:wB X O a g):PDW X O (.BoolOp .And [a] pos) g:=UT h
theorem HB(h:wB X O a g):PDW X O (.BoolOp .Or [a] pos) g:=Y6 h
theorem SX{a b:Expr}{rest:List Expr}{pos:Pos}{g k:Bv}(B:wB X O a g)(F:PDW X O (.BoolOp .And (b::rest) pos) k):PDW X O (.BoolOp .And (a::b::rest) pos) (LB g k):=
 PW.mono (Y3 B F) <| by
  rintro σ H Q ⟨H0,A0,A,E,ρ,b,st,e,q⟩;obtain⟨x,ex,e⟩:=bind_some e;refine⟨H0,A0,A,E,ρ,x,st,ex,λH1 z=>?_⟩;cases x with
  | false=>rw[if_neg zaC]at e ⊢;cases e;exact q H1 z
  | true=>rw[if_pos rfl]at e ⊢;exact⟨H0,A0,A,E,ρ,b,st.mono z,e,λH2 G=>q H2 (z.trans G)⟩
theorem OZ{a b:Expr}{rest:List Expr}{pos:Pos}{g k:Bv}(B:wB X O a g)(F:PDW X O (.BoolOp .Or (b::rest) pos) k):PDW X O (.BoolOp .Or (a::b::rest) pos) (VI g k):=
 PW.mono (qq B F) <| by
  rintro σ H Q ⟨H0,A0,A,E,ρ,b,st,e,q⟩;obtain⟨x,ex,e⟩:=bind_some e;refine⟨H0,A0,A,E,ρ,x,st,ex,λH1 z=>?_⟩;cases x with
  | true=>rw[if_pos rfl]at e ⊢;cases e;exact q H1 z
  | false=>rw[if_neg zaC]at e ⊢;exact⟨H0,A0,A,E,ρ,b,st.mono z,e,λH2 G=>q H2 (z.trans G)⟩
def QO(f g:Ev):Ev:=λρ=>(f ρ).bind λx=>(QY x).bind λb=>if b=true then g ρ else some (.bl false)
def eOr(f g:Ev):Ev:=λρ=>(f ρ).bind λx=>(QY x).bind λb=>if b=true then some (.bl true)else g ρ
def qa7(f:Ev):Ev:=λρ=>(f ρ).bind λx=>(QY x).map λb=>.bl (!b)
def eIf(c:Bv)(f g:Ev):Ev:=λρ=>(c ρ).bind λb=>if b=true then f ρ else g ρ
theorem PX{op}(h:PD X O a f):PD X O (.BoolOp op [a] pos) f:=WJ h
theorem PR{a b:Expr}{rest:List Expr}{pos:Pos}{f g:Ev}(J:PD X O a f)(F:PD X O (.BoolOp .And (b::rest) pos) g):PD X O (.BoolOp .And (a::b::rest) pos) (QO f g):=
 PE.mono (X6 J F) <| by
  rintro σ H Q ⟨H0,A0,A,E,ρ,d,st,e,q⟩;obtain⟨x,ex,e⟩:=bind_some e;obtain⟨b,B,e⟩:=bind_some e;rw[oJ B]at ex;refine⟨H0,A0,A,E,ρ,_,st,ex,λv H1 z r1=>⟨b,RepB.bl_inv (.of r1),?_⟩⟩;cases b with
  | false=>rw[if_neg zaC]at e ⊢;cases e;exact q _ H1 z (.bl _)
  | true=>rw[if_pos rfl]at e ⊢;exact⟨H0,A0,A,E,ρ,d,st.mono z,e,λw H2 G=>q w H2 (z.trans G)⟩
theorem qz{a b:Expr}{rest:List Expr}{pos:Pos}{f g:Ev}(J:PD X O a f)(F:PD X O (.BoolOp .Or (b::rest) pos) g):PD X O (.BoolOp .Or (a::b::rest) pos) (eOr f g):=
 PE.mono (ZY J F) <| by
  rintro σ H Q ⟨H0,A0,A,E,ρ,d,st,e,q⟩;obtain⟨x,ex,e⟩:=bind_some e;obtain⟨b,B,e⟩:=bind_some e;rw[oJ B]at ex;refine⟨H0,A0,A,E,ρ,_,st,ex,λv H1 z r1=>⟨b,RepB.bl_inv (.of r1),?_⟩⟩;cases b with
  | true=>rw[if_pos rfl]at e ⊢;cases e;exact q _ H1 z (.bl _)
  | false=>rw[if_neg zaC]at e ⊢;exact⟨H0,A0,A,E,ρ,d,st.mono z,e,λw H2 G=>q w H2 (z.trans G)⟩
theorem XZ{a:Expr}{pos:Pos}{f:Ev}(B:PD X O a f):PD X O (.UnaryOp .Not a pos) (qa7 f):=
 PE.mono (XG B) <| by
  rintro σ H Q ⟨H0,A0,A,E,ρ,d,st,e,q⟩;obtain⟨x,ex,e⟩:=bind_some e;cases z:QY x with
  | none=>rw[z]at e;cases e
  | some b=>
   rw[z]at e;cases e;rw[oJ z]at ex;exact⟨H0,A0,A,E,ρ,_,st,ex,λv H1 F r1=>⟨b,RepB.bl_inv (.of r1),q _ H1 F (.bl _)⟩⟩
theorem VL{c a b:Expr}{pos:Pos}{g:Bv}{f k:Ev}(M:wB X O c g)(J:PD X O a f)(G:PD X O b k):PD X O (.IfExp c a b pos) (eIf g f k):=
 PE.mono (LU M J G) <| by
  rintro σ H Q ⟨H0,A0,A,E,ρ,d,st,e,q⟩;obtain⟨b,F,e⟩:=bind_some e;refine⟨H0,A0,A,E,ρ,b,st,F,λH1 z=>?_⟩;cases b with
  | true=>rw[if_pos rfl]at e ⊢;exact⟨H0,A0,A,E,ρ,d,st.mono z,e,λw H2 B=>q w H2 (z.trans B)⟩
  | false=>rw[if_neg zaC]at e ⊢;exact⟨H0,A0,A,E,ρ,d,st.mono z,e,λw H2 B=>q w H2 (z.trans B)⟩
end
section
variable {X:Cx}{O:List Nat}
def aZ:Lv:=λ_=>some []
def aC(f:Ev)(g:Lv):Lv:=λρ=>(f ρ).bind λx=>(g ρ).bind λxs=>some (x::xs)
theorem UD:DE X O [] aZ:=PA.mono fT λσ H Q ⟨H0,A0,A,E,ρ,d,st,e,q⟩=>by cases e;exact q [] H (Ext.refl _ _) .nil
theorem GI:xS X O [] aZ:=PA.mono fT λσ H Q ⟨H0,A0,A,E,ρ,d,st,e,q⟩=>by cases e;exact q [] H (Ext.refl _ _) .nil
theorem BX(G:∀A H H' d v,Ext A H H'->R A H d v->R A H' d v)(h:tDA R O (aC f g) σ H Q):xM (tD R O f) (tDA R O g) σ H Q:=by
 obtain⟨H0,A0,A,E,ρ,d,st,e,q⟩:=h;obtain⟨x,ex,e⟩:=bind_some e;obtain⟨xs,z,e⟩:=bind_some e;cases e;exact⟨H0,A0,A,E,ρ,x,st,ex,λv H1 F r1=>⟨H0,A0,A,E,ρ,xs,st.mono F,z,λvs H2 B r2=>q (v::vs) H2 (F.trans B) (.cons (G _ _ _ _ _ B r1) r2)⟩⟩
theorem OA(q:PD X O e f)(z:DE X O es g)(hs:zag (e::es) X.env=(false,eval e X.env)::zag es X.env:=by rfl):DE X O (e::es) (aC f g):=
 PA.mono (cR q z hs) λσ H Q h=>BX (λ_ _ _ _ _ x r=>r.ext x) h
theorem CB(q:PB X O e f)(z:xS X O es g)(hs:zag (e::es) X.env=(false,eval e X.env)::zag es X.env:=by rfl):xS X O (e::es) (aC f g):=
 PA.mono (cR q z hs) λσ H Q h=>BX (λ_ _ _ _ _ x r=>r.ext x) h
inductive tF(O:List Nat)(f:Ev)(σ:L2.St)(H:Hp)(Q:VK):Prop
 | mk (H0:Hp) (A0 A:Av) (E:List Fact) (ρ:cX) (d:D) (st:ST H0 A0 A E O σ H ρ) (e:f ρ=some d) (q:∀a H',Ext A H H'->H a=none->¬ A a->Own (λb=>A b\/b=a) H' d a->Q (.ref a) H'):tF O f σ H Q
def PF(X:Cx)(O:List Nat)(e:Expr)(f:Ev):Prop:=PE X e (tF O f)
theorem PF.d(h:PF X O e f):PD X O e f:=PE.mono h λσ H Q ⟨H0,A0,A,E,ρ,d,st,e,q⟩=>
 ⟨H0,A0,A,E,ρ,d,st,e,λa H' x n B o=>q _ H' x ((o.av (A':=A) λb z=>.inl (.inl z)).rep B)⟩
theorem RepL.fresh(n:H p=none)(r:RepL A H ds vs):RepL (λb=>A b\/b=p) (upd H p o) ds vs:=by
 have r1:RepL (λb=>A b\/b=p) H ds vs:=r.av λb q=>by
  rcases q with q|q
  ·exact .inl q
  ·exact .inr (q ▸ n)
 exact r1.ext (Ext.new n)
theorem Ext.free(x:Ext A H H')(n:H' p=none):H p=none:=by
 cases e:H p with
 | none=>rfl
 | some u=>rcases x.rd p u (.inl e)with h|⟨o,h⟩ <;> (rw[n]at h;cases h)
def fK(g:Lv):Ev:=λρ=>(g ρ).map .tup
def QK(g:Lv):Ev:=λρ=>(g ρ).map .lst
theorem RL.length:∀ {ds:List D} {vs:List V},RL R A H ds vs->vs.length=ds.length
 | _,_,.nil=>rfl
 | _,_,.cons _ t=>by rw[zaz,zaz,RL.length t]
noncomputable def a7(n:Nat):Bool:=decide (n<=1000000)
theorem hV(h:a7 n=true):n<=zal:=zaM (of_decide_eq_true h) (by decide)
theorem jH(h:a7 n=true):n<zal:=zdr (of_decide_eq_true h) (by decide)
theorem map_some{q β:Type}{o:Option q}{f:q->β}{b:β}(h:o.map f=some b):∃a,o=some a/\f a=b:=by
 cases o with
 | none=>cases h
 | some a=>exact⟨a,rfl,zay h⟩
def Len(g:Lv)(n:Nat):Prop:=∀ρ ds,g ρ=some ds->ds.length=n
theorem SR:Len aZ 0:=λρ ds h=>by cases h;rfl
theorem N9(h:Len g n):Len (aC f g) (n+1):=λρ ds e=>by
 obtain⟨x,ex,e⟩:=bind_some e;obtain⟨xs,q,e⟩:=bind_some e;cases e;rw[zaz,h ρ xs q]
theorem pL{es:List Expr}{z}{pos:Pos}{g:Lv}(h:DE X O es g)(G:∀ρ ds,g ρ=some ds->ds.length<=100):PD X O (.Tuple es z pos) (fK g):=PE.mono (W8 h) <| by
 rintro σ H Q ⟨H0,A0,A,E,ρ,d,st,e,q⟩;obtain⟨ds,B,rfl⟩:=map_some e;refine⟨H0,A0,A,E,ρ,ds,st,B,λvs H1 z r1=>⟨by rw[r1.length];exact zaM (G ρ ds B) (by decide),λp F=>?_⟩⟩;exact q _ _ (z.trans (Ext.new F)) (.tup aL (r1.toL.ext (Ext.new F)))
theorem P7{es:List Expr}{pos:Pos}{g:Lv}(h:DE X O es g)(J:∀ρ ds,g ρ=some ds->ds.length<=100):PF X O (.List es pos) (QK g):=PE.mono (WX h) <| by
 rintro σ H Q ⟨H0,A0,A,E,ρ,d,st,e,q⟩;obtain⟨ds,G,rfl⟩:=map_some e;refine⟨H0,A0,A,E,ρ,ds,st,G,λvs H1 F r1=>⟨by rw[r1.length];exact zaM (J ρ ds G) (by decide),λp B=>?_⟩⟩;exact q p _ (F.trans (Ext.new B)) (F.free B) (λz=>(st.mono F).live p z B) (.lst aL (r1.toL.fresh B))
inductive rC(g:List D->Option D)(xs:List V)(H:Hp)(Q:VK):Prop
 | mk (A:Av) (ds:List D) (d:D) (lv:Live A H) (r:RL RepB A H ds xs) (e:g ds=some d) (q:∀v H',Ext A H H'->Rep A H' d v->Q v H'):rC g xs H Q
inductive rCF(g:List D->Option D)(xs:List V)(H:Hp)(Q:VK):Prop
 | mk (A:Av) (ds:List D) (d:D) (lv:Live A H) (r:RL RepB A H ds xs) (e:g ds=some d) (q:∀a H',Ext A H H'->H a=none->¬ A a->Own (λb=>A b\/b=a) H' d a->Q (.ref a) H'):rCF g xs H Q
def jU(X:Cx)(f:Value)(g:List D->Option D):Prop:=CallR X f (rC g)
def II(X:Cx)(f:Value)(g:List D->Option D):Prop:=CallR X f (rCF g)
theorem CallR.mono(h:CallR X f r)(x:∀a H Q,r' a H Q->r a H Q):CallR X f r':=λpins s σ H a v Q I q w=>h pins s σ H a v Q I q (x a H Q w)
def aT(g:List D->Option D)(f:Lv):Ev:=λρ=>(f ρ).bind g
theorem xG(h:tD Rep O (aT g f) σ H Q):tCB (rC g) (tDA RepB O f) σ H Q:=by
 obtain⟨H0,A0,A,E,ρ,d,st,e,q⟩:=h;obtain⟨ds,F,e⟩:=bind_some e;exact⟨H0,A0,A,E,ρ,ds,st,F,λvs H1 z r1=>⟨A,ds,d,(st.mono z).live,r1,e,λv H2 B r2=>q v H2 (z.trans B) r2⟩⟩
theorem JI(h:tF O (aT g f) σ H Q):tCB (rCF g) (tDA RepB O f) σ H Q:=by
 obtain⟨H0,A0,A,E,ρ,d,st,e,q⟩:=h;obtain⟨ds,G,e⟩:=bind_some e;exact⟨H0,A0,A,E,ρ,ds,st,G,λvs H1 z r1=>⟨A,ds,d,(st.mono z).live,r1,e,λa H2 F n B o=>q a H2 (z.trans F) (z.free n) B o⟩⟩
section
variable {x:Str}{id T:String}{g:List D->Option D}{e:Expr}{es:List Expr}{f:Lv}{p pos:Pos}
theorem M7(M:jU X (.builtin id) g)(U:Gl X x)(N:X.mg x=none)(F:zaG x=some (.builtin id))(J:xS X O (e::es) f)(B:x ≠ "__name__" := by decide)(q:(x == ("__debug__" : Str))=false:=by decide)
  (G:zag (e::es) X.env=(false,eval e X.env)::zag es X.env:=by rfl) (z:(zaH pos (zag es X.env)).any (·.1)=false:=by rfl) :
  PD X O (.Call (.Name x p) (e::es) [] pos) (aT g f):=PE.mono (BJ M U N F J B q G z) λσ H Q h=>xG h
theorem JS(M:jU X (.type T) g)(U:Gl X x)(N:X.mg x=none)(F:zaG x=some (.type T))(J:xS X O (e::es) f)(B:x ≠ "__name__" := by decide)(q:(x == ("__debug__" : Str))=false:=by decide)
  (G:zag (e::es) X.env=(false,eval e X.env)::zag es X.env:=by rfl) (z:(zaH pos (zag es X.env)).any (·.1)=false:=by rfl) :
  PD X O (.Call (.Name x p) (e::es) [] pos) (aT g f):=PE.mono (lP M U N F J B q G z) λσ H Q h=>xG h
theorem K9(M:II X (.type T) g)(U:Gl X x)(N:X.mg x=none)(F:zaG x=some (.type T))(J:xS X O (e::es) f)(B:x ≠ "__name__" := by decide)(q:(x == ("__debug__" : Str))=false:=by decide)
  (G:zag (e::es) X.env=(false,eval e X.env)::zag es X.env:=by rfl) (z:(zaH pos (zag es X.env)).any (·.1)=false:=by rfl) :
  PF X O (.Call (.Name x p) (e::es) [] pos) (aT g f):=PE.mono (lP M U N F J B q G z) λσ H Q h=>JI h
end
def spD(n:Nat)(F:List D->Option D):Sp:=λvs H Q _=>∃A ds d,Live A H/\RepL A H ds vs/\vs.length=n/\F ds=some d/\∀v H',Ext A H H'->Rep A H' d v->Q v H'
def Fn(P:zai)(w:World)(K:zae)(mg:Str->Option Value)(base:Heap)(x:Str)(k:Nat)(ps:List Str)(F:List D->Option D):Prop:=My.Ok P w K mg base x k ps (spD ps.length F)
theorem Fn.mono{P:zai}{w:World}{K:zae}{mg:Str->Option Value}{base:Heap}{x:Str}{j k:Nat}{ps:List Str}{F:List D->Option D}(h:Fn P w K mg base x j ps F)(l:j<=k):Fn P w K mg base x k ps F:=My.Ok.mono h l
theorem RG(O':Fn X.prog X.w X.K X.mg X.base x k ps F)(N:Room k X.A)(hg:Gl X x)(Y:DE X O (e::es) f)(U:∀ρ ds,f ρ=some ds->ds.length=ps.length)(z:(x == ("__debug__" : Str))=false:=by decide)
  (W:zag (e::es) X.env=(false,eval e X.env)::zag es X.env:=by rfl) (B:(zaH pos (zag es X.env)).any (·.1)=false:=by rfl) :
  PD X O (.Call (.Name x p) (e::es) [] pos) (aT F f):=PE.mono (My.MH O' N hg Y z W B) λσ H Q ⟨H0,A0,A,E,ρ,d,st,e,q⟩=>by
 obtain⟨ds,J,e⟩:=bind_some e;exact⟨H0,A0,A,E,ρ,ds,st,J,λvs H1 G r1=>⟨A,ds,d,(st.mono G).live,r1.toL,by rw[r1.length];exact U ρ ds J,e,λv H2 M r2=>q v H2 (G.trans M) r2⟩⟩
theorem IxR.mono(h:IxR X r)(x:∀a b H Q,r' a b H Q->r a b H Q):IxR X r':=λz q pins s σ H a b v u Q I F B w=>h z q pins s σ H a b v u Q I F B (x a b H Q w)
def dIx:D->D->Option D
 | .lst l,.int i=>gE l i
 | .tup l,.int i=>gE l i
 | .str z,.int i=>if a7 z.length then(gE z.cps.toList i).map λc=>.str ⟨#[c]⟩else none
 | _,_=>none
theorem RepL.at(r:RepL A H ds vs)(h:gE ds i=some d):∃v,gE vs i=some v/\Rep A H d v:=by
 obtain⟨j,F,B⟩:=bind_some h;obtain⟨v,z,q⟩:=r.get' B;refine⟨v,?_,q⟩;unfold gE;rw[r.length,F];exact z
theorem nn{q:Type}{a:q}{P:Prop}(h:(none:Option q)=some a):P:=nomatch h
theorem ff{P:Prop}(h:false=true):P:=nomatch h
theorem qbu:IxR X (rD dIx):=IxR.mono YG <| by
 rintro x y H Q ⟨A,dx,G,d,U,J,M,e,q⟩;cases dx with
 | lst l=>
  cases G with
  | int i=>
   have:=M.int_inv;subst this;obtain⟨a,xs,rfl,h,r⟩:=J.lst_inv;obtain⟨v,B,F⟩:=r.at e;exact .inl ⟨a,xs,i,v,rfl,rfl,.inl h,B,q v H (Ext.refl _ _) F⟩
  | _=>exact nn e
 | tup l=>
  cases G with
  | int i=>
   have:=M.int_inv;subst this;obtain⟨a,xs,rfl,h,r⟩:=J.tup_inv;obtain⟨v,B,F⟩:=r.at e;exact .inr (.inl ⟨a,xs,i,v,rfl,rfl,.inl (.inl h),B,q v H (Ext.refl _ _) F⟩)
  | _=>exact nn e
 | str z=>
  cases G with
  | int i=>
   have:=M.int_inv;subst this;have:=J.str_inv;subst this;simp only[dIx]at e;by_cases N:a7 z.length=true
   ·rw[if_pos N]at e
    obtain⟨c,B,rfl⟩:=map_some e;exact .inr (.inr ⟨z,i,c,rfl,rfl,hV N,B,q _ H (Ext.refl _ _) (.str _)⟩)
   ·rw[if_neg N]at e;exact nn e
  | _=>exact nn e
 | _=>exact nn e
abbrev Ov:=cX->Option (Option Int)
inductive tDO(O:List Nat)(g:Ov)(σ:L2.St)(H:Hp)(Q:Option Int->Hp->Prop):Prop
 | mk (H0:Hp) (A0 A:Av) (E:List Fact) (ρ:cX) (o:Option Int) (st:ST H0 A0 A E O σ H ρ) (e:g ρ=some o) (q:∀H',Ext A H H'->Q o H'):tDO O g σ H Q
def WD(X:Cx)(O:List Nat)(e:Option Expr)(g:Ov):Prop:=PO X e (tDO O g)
theorem PO.mono(h:PO X e t)(x:∀σ H Q,t' σ H Q->t σ H Q):PO X e t':=λpins s σ H Q I w=>h pins s σ H Q I (x σ H Q w)
def VW:Ov:=λ_=>some none
noncomputable def asI:D->Option Int
 | .int i=>some i
 | _=>none
theorem AX(h:asI d=some i):d=.int i:=by cases d <;> cases h;rfl
def IQ(f:Ev):Ov:=λρ=>(f ρ).bind λd=>(asI d).map some
theorem NA:WD X O none VW:=PO.mono SE λσ H Q ⟨H0,A0,A,E,ρ,d,st,e,q⟩=>by cases e;exact q H (Ext.refl _ _)
theorem L0{e:Expr}{f:Ev}(h:PD X O e f):WD X O (some e) (IQ f):=PO.mono (Q7 h) <| by
 rintro σ H Q ⟨H0,A0,A,E,ρ,d,st,e,q⟩;obtain⟨x,ex,e⟩:=bind_some e;obtain⟨i,z,rfl⟩:=map_some e;rw[AX z]at ex;exact⟨H0,A0,A,E,ρ,_,st,ex,λv H1 B r1=>⟨i,RepB.int_inv (.of r1),q H1 B⟩⟩
def cutD(xs:List D)(lo hi:Option Int):List D:=(xs.drop (HT.sIx xs.length 0 lo)).take (HT.sIx xs.length xs.length hi-HT.sIx xs.length 0 lo)
theorem RepL.cut{ds:List D}{vs:List V}{lo hi:Option Int}(r:RepL A H ds vs):RepL A H (cutD ds lo hi) (v5 vs lo hi):=by
 unfold cutD v5;rw[r.length];exact(r.drop _).take _
def eSl(g:D->Option Int->Option Int->Option D)(f:Ev)(a b:Ov):Ev:=λρ=>(f ρ).bind λx=>(a ρ).bind λlo=>(b ρ).bind λhi=>g x lo hi
inductive rS(g:D->Option Int->Option Int->Option D)(x:V)(lo hi:Option Int)(H:Hp)(Q:VK):Prop
 | mk (A:Av) (dx d:D) (lv:Live A H) (r:RepB A H dx x) (e:g dx lo hi=some d) (q:∀v H',Ext A H H'->Rep A H' d v->Q v H'):rS g x lo hi H Q
inductive rSF(g:D->Option Int->Option Int->Option D)(x:V)(lo hi:Option Int)(H:Hp)(Q:VK):Prop
 | mk (A:Av) (dx d:D) (lv:Live A H) (r:RepB A H dx x) (e:g dx lo hi=some d) (q:∀a H',Ext A H H'->H a=none->¬ A a->Own (λb=>A b\/b=a) H' d a->Q (.ref a) H'):rSF g x lo hi H Q
theorem SlR.mono(h:SlR X r)(x:∀a b c H Q,r' a b c H Q->r a b c H Q):SlR X r':=λpins s σ H a v z F lo hi G Q I q hs B J w=>h pins s σ H a v z F lo hi G Q I q hs B J (x a lo hi H Q w)
def qbV:D->Option Int->Option Int->Option D
 | .tup l,lo,hi=>some (.tup (cutD l lo hi))
 | _,_,_=>none
def qaT:D->Option Int->Option Int->Option D
 | .lst l,lo,hi=>some (.lst (cutD l lo hi))
 | _,_,_=>none
theorem MM{lo hi:Option Expr}{g:D->Option Int->Option Int->Option D}{a b:Ov}(G:SlR X (rS g))(N:PB X O e f)(J:WD X O lo a)(M:WD X O hi b):PD X O (.Subscript e (.Slice lo hi none p2) pos) (eSl g f a b):=
 PE.mono (LY G N J M) <| by
  rintro σ H Q ⟨H0,A0,A,E,ρ,d,st,e,q⟩;obtain⟨x,ex,e⟩:=bind_some e;obtain⟨l,el,e⟩:=bind_some e;obtain⟨h,eh,e⟩:=bind_some e;exact⟨H0,A0,A,E,ρ,x,st,ex,λv H1 B r1=>⟨H0,A0,A,E,ρ,l,st.mono B,el,λH2 z=>⟨H0,A0,A,E,ρ,h,st.mono (B.trans z),eh,λH3 F=>⟨A,x,d,(st.mono ((B.trans z).trans F)).live,r1.ext (z.trans F),e,λv U Y W=>q v U (((B.trans z).trans F).trans Y) W⟩⟩⟩⟩
theorem qb0:SlR X (rS qbV):=SlR.mono My.TQ <| by
 rintro x lo hi H Q ⟨A,dx,d,G,B,e,q⟩;cases dx with
 | tup l=>
  obtain⟨a,xs,rfl,h,r⟩:=B.tup_inv;cases e;by_cases w:HT.sIx xs.length 0 lo=0/\HT.sIx xs.length xs.length hi=xs.length
  ·refine .inr ⟨a,xs,rfl,.inl (.inl h),w,q _ H (Ext.refl _ _) (.tup h ?_)⟩
   have F:v5 xs lo hi=xs:=by unfold v5;rw[w.1,w.2];simp
   rw[<- F];exact r.cut
  ·exact .inl ⟨a,xs,rfl,.inl (.inl h),w,λp z=>q _ _ (Ext.new z) (.tup aL (r.cut.ext (Ext.new z)))⟩
 | _=>exact nn e
theorem qbR:SlR X (rSF qaT):=SlR.mono TZ <| by
 rintro x lo hi H Q ⟨A,dx,d,G,F,e,q⟩;cases dx with
 | lst l=>
  obtain⟨a,xs,rfl,h,r⟩:=F.lst_inv;cases e;exact⟨a,xs,rfl,.inl h,λp B=>q p _ (Ext.new B) B (λz=>G p z B) (.lst aL (r.cut.fresh B))⟩
 | _=>exact nn e
end
inductive Out where
 | nx (ρ:cX)|rt (d:D)|bk (ρ:cX)|ct (ρ:cX)
abbrev Sv:=cX->Option Out
structure Lp where
 ob:List Nat
 oc:List Nat
def qbQ(L:Lp)(H0:Hp)(A0:Av)(E:List Fact)(O':List Nat)(T:Ends):Out->Prop
 | .nx ρ=>∀A σ H,ST H0 A0 A E O' σ H ρ->T.nx σ H
 | .rt d=>∀v H,Ext A0 H0 H->Rep A0 H d v->T.rt v H
 | .bk ρ=>∀A σ H,ST H0 A0 A E L.ob σ H ρ->T.bk σ H
 | .ct ρ=>∀A σ H,ST H0 A0 A E L.oc σ H ρ->T.ct σ H
inductive tS(L:Lp)(O:List Nat)(f:Sv)(O':List Nat)(T:Ends)(σ:L2.St)(H:Hp):Prop
 | mk (H0:Hp) (A0 A:Av) (E:List Fact) (ρ:cX) (out:Out) (st:ST H0 A0 A E O σ H ρ) (e:f ρ=some out) (p:qbQ L H0 A0 E O' T out):tS L O f O' T σ H
def j9(X:Cx)(L:Lp)(O:List Nat)(st:Stmt)(f:Sv)(O':List Nat):Prop:=PS X st (tS L O f O')
def eO(X:Cx)(L:Lp)(O:List Nat)(st:List Stmt)(f:Sv)(O':List Nat):Prop:=PSs X st (tS L O f O')
section
variable {X:Cx}{L:Lp}{O O' O2:List Nat}
theorem PS.mono{st:Stmt}{t t':TS}(h:PS X st t)(x:∀T σ H,t' T σ H->t T σ H):PS X st t':=λpins s σ H T I w=>h pins s σ H T I (x T σ H w)
theorem PSs.mono{st:List Stmt}{t t':TS}(h:PSs X st t)(x:∀T σ H,t' T σ H->t T σ H):PSs X st t':=λpins s σ H T I w=>h pins s σ H T I (x T σ H w)
noncomputable def Sub(a b:List Nat):Bool:=a.all λi=>b.contains i
theorem Sub.mem(h:Sub a b=true)(i:Nat)(hi:i∈a):i∈b:=by
 have:=(List.all_eq_true.mp h) i hi;simpa using this
def VF:Sv:=λρ=>some (.nx ρ)
def dA(f g:Sv):Sv:=λρ=>(f ρ).bind λo=>match o with
 | .nx ρ'=>g ρ'
 | o=>some o
theorem HL(h:Sub O' O=true:=by rfl):eO X L O [] VF O':=PSs.mono HA <| by
 rintro T σ H ⟨H0,A0,A,E,ρ,out,st,e,p⟩;cases e;obtain⟨A',q⟩:=st.shut (Sub.mem h);exact p A' σ H q
theorem TK(h:tS L O (dA f g) O' T σ H):qaX (tS L O f O2) (tS L O2 g O') T σ H:=by
 obtain⟨H0,A0,A,E,ρ,out,st,e,p⟩:=h;obtain⟨o,z,e⟩:=bind_some e;refine⟨H0,A0,A,E,ρ,o,st,z,?_⟩;cases o with
 | nx ρ'=>exact λA' B H' q=>⟨H0,A0,A',E,ρ',out,q,e,p⟩
 | rt d=>cases e;exact p
 | bk d=>cases e;exact p
 | ct d=>cases e;exact p
theorem M2{st:Stmt}{rest:List Stmt}{f g:Sv}(h1:j9 X L O st f O2)(h2:eO X L O2 rest g O'):eO X L O (st::rest) (dA f g) O':=PSs.mono (dW h1 h2) λT σ H h=>TK h
theorem aP{st:Stmt}{f:Sv}(h1:j9 X L O st f O'):eO X L O [st] f O':=jI h1
def LM(f:Ev):Sv:=λρ=>(f ρ).map .rt
theorem T3{e:Expr}{pos:Pos}{f:Ev}(z:PD X O e f):j9 X L O (.Return (some e) pos) (LM f) O':=PS.mono (OW z) <| by
 rintro T σ H ⟨H0,A0,A,E,ρ,out,st,e,p⟩;obtain⟨d,B,rfl⟩:=map_some e;exact⟨H0,A0,A,E,ρ,d,st,B,λv H' x r=>p v H' (st.mono x).ex (r.av λa q=>.inl (st.sub a q))⟩
def zX(c:Bv)(f g:Sv):Sv:=λρ=>(c ρ).bind λb=>if b=true then f ρ else g ρ
theorem EU{c:Expr}{a b:List Stmt}{pos:Pos}{g:Bv}{f k:Sv}(G:wB X O c g)(F:eO X L O a f O')(B:eO X L O b k O'):j9 X L O (.If c a b pos) (zX g f k) O':=PS.mono (V3 G F B) <| by
 rintro T σ H ⟨H0,A0,A,E,ρ,out,st,e,p⟩;obtain⟨b,z,e⟩:=bind_some e;refine⟨H0,A0,A,E,ρ,b,st,z,λH1 q=>?_⟩;cases b with
 | true=>rw[if_pos rfl]at e ⊢;exact⟨H0,A0,A,E,ρ,out,st.mono q,e,p⟩
 | false=>rw[if_neg zaC]at e ⊢;exact⟨H0,A0,A,E,ρ,out,st.mono q,e,p⟩
def eE(i:Nat)(f:Ev):Sv:=λρ=>(f ρ).map λd=>.nx (ρ.set i (some d))
theorem Sub.er{a b:List Nat}{i j:Nat}(h:Sub a (b.filter (· != i))=true)(q:j∈a):j∈b/\j≠i:=by
 have:=Sub.mem h j q;rw[List.mem_filter]at this;exact⟨this.1,by simpa using this.2⟩
theorem IB{i:Nat}{x:Str}{e:Expr}{pos pos':Pos}{f:Ev}(W:X.N.Nodup)(hi:X.N[i]?=some x)(hx:Loc X.env.scope x)(U:PD X O e f)(h:Sub O' (O.filter (· != i))=true:=by rfl)
  (hs:zaD e (some (.Name x pos')) pos.line X.env=pure false:=by rfl) (G:X.fn x=true\/X.env.scope.names.lookup x=some .local:=by first|exact .inl rfl|exact .inr rfl):j9 X L O (.Assign [.Name x pos'] e pos) (eE i f) O':=
 PS.mono (OH W hi hx U hs G) <| by
  rintro T σ H ⟨H0,A0,A,E,ρ,out,st,e,p⟩;obtain⟨d,Y,rfl⟩:=map_some e;refine⟨H0,A0,A,E,ρ,d,st,Y,λv H' x r=>?_⟩
  -- i leaves what may be written ahead of the store: the value is borne by fewer too
  have F:=(st.mono x).more r;obtain⟨A',B⟩:=F.shut (O':=O') λj M=>(Sub.er h M).1
  exact p A' _ H' ((B.put (B.ext _ (zar ..)) λz=>(Sub.er h z).2 rfl).less λq J=>zap _ J)
theorem Own.there:Own A H d a->H a≠none
 | .lst h _=>by rw[h];exact λz=>nomatch z
 | .dK h _ _=>by rw[h];exact λz=>nomatch z
 | .dT h _ _=>by rw[h];exact λz=>nomatch z
theorem ST.own_put(s:ST H0 A0 A E O σ H ρ)(x:Ext A H H')(n:H a=none)(na:¬ A a)(o:Own (λb=>A b\/b=a) H' d a)(ni:i∉O) :
  ST H0 A0 (λb=>A b\/b=a) E (i::O) (σ.set i (some (.ref a))) H' (ρ.set i (some d)):=by
 have s':=s.mono x;have n0:H0 a=none:=s.ex.free n
 -- whatever was borne ahead avoids a
 have G:Ext (λb=>A b\/b=a) H H':=⟨x.rd,x.kp,λb u q e=>q.elim (λq=>x.ow b u q e) λq=>(by subst q;rw[n]at e;exact nomatch e),x.fz⟩;have Y:∀ {p:Fact},p.Holds A H->p.Holds (λb=>A b\/b=a) H':=λr=>Fact.ext G (Fact.av (A':=λb=>A b\/b=a) (λb q=>by
   rcases q with q|q
   ·exact .inl q
   ·exact .inr (q ▸ n)) r)
 have up:∀ {d:D} {v:V},Rep A H d v->Rep (λb=>A b\/b=a) H' d v:=λr=>by
  have r1:Rep (λb=>A b\/b=a) H _ _:=r.av λb q=>by
   rcases q with q|q
   ·exact .inl q
   ·exact .inr (q ▸ n)
  exact r1.ext G
 have aa:∀ {d:D} {b:Addr},A b->Own A H d b->Own (λc=>A c\/c=a) H' d b:=λq r=>by
  have r1:Own (λc=>A c\/c=a) H _ _:=r.av λb q=>by
   rcases q with q|q
   ·exact .inl q
   ·exact .inr (q ▸ n)
  exact r1.ext G (.inl q)
 have ha:H' a≠none:=o.there;refine⟨s'.ex,λb q=>.inl (s.sub b q),s.l0,λb q=>?_,by simp[s.len],λj d' h' N=>?_,λj d' h' N=>?_,λj k M d2 b W hk h1 h2 F U=>?_,λp hp=>Y (s.ext p hp)⟩
 ·rcases q with q|q
  ·exact s'.live b q
  ·subst q;exact ha
 ·rcases fF h' with⟨e,B,l⟩|⟨e,B⟩
  ·exact absurd (List.mem_cons.mpr (.inl e)) N
  ·obtain⟨w,h1,h2⟩:=s.val j d' B λz=>N (zap _ z)
   exact⟨w,by rw[nC e];exact h1,up h2⟩
 ·rcases fF h' with⟨e,B,l⟩|⟨e,B⟩
  ·subst e;cases B
   exact⟨a,sig_set (by rw[s.len];exact l),.inr rfl,n0,o⟩
  ·rcases List.mem_cons.mp N with z|z
   ·exact absurd z e
   ·obtain⟨w,h1,h2,F,U⟩:=s.own j d' B z
    exact⟨w,by rw[nC e];exact h1,.inl h2,F,aa h2 U⟩
 ·have J:∀ {j:Nat} {M:D},j∈i::O->(ρ.set i (some d))[j]?=some (some M)->(σ.set i (some (.ref a)))[j]?=some (some (.ref b))->(j=i/\b=a)\/(j≠i/\j∈O/\ρ[j]?=some (some M)/\σ[j]?=some (some (.ref b))/\b≠a):=by
   intro j M W h1 F;rcases fF h1 with⟨e,B,l⟩|⟨e,B⟩
   ·subst e
    rw[sig_set (by rw[s.len];exact l)]at F;cases F;exact .inl ⟨rfl,rfl⟩
   ·rcases List.mem_cons.mp W with z|z
    ·exact absurd z e
    ·rw[nC e]at F
     obtain⟨w,q1,q2,_⟩:=s.own j M B z;rw[F]at q1;cases q1;exact .inr ⟨e,z,B,F,λz=>na (z ▸ q2)⟩
  rcases J W h1 F with⟨e1,B⟩|⟨e1,B,e3,e4,e5⟩
  ·rcases J hk h2 U with⟨f1,f2⟩|⟨f1,f2,f3,f4,f5⟩
   ·rw[e1,f1]
   ·exact absurd B f5
  ·rcases J hk h2 U with⟨f1,f2⟩|⟨f1,f2,f3,f4,f5⟩
   ·exact absurd f2 e5
   ·exact s.inj j k M d2 b B f2 e3 f3 e4 f4
theorem NR{i:Nat}{x:Str}{e:Expr}{pos pos':Pos}{f:Ev}(W:X.N.Nodup)(hi:X.N[i]?=some x)(hx:Loc X.env.scope x)(M:PF X O e f)(h:Sub O' (i::O)=true:=by rfl)(F:O.contains i=false:=by rfl)
  (hs:zaD e (some (.Name x pos')) pos.line X.env=pure false:=by rfl) (B:X.fn x=true\/X.env.scope.names.lookup x=some .local:=by first|exact .inl rfl|exact .inr rfl):j9 X L O (.Assign [.Name x pos'] e pos) (eE i f) O':=
 PS.mono (OH W hi hx M hs B) <| by
  rintro T σ H ⟨H0,A0,A,E,ρ,out,st,e,p⟩;obtain⟨d,U,rfl⟩:=map_some e;refine⟨H0,A0,A,E,ρ,d,st,U,λa H' x n Y o=>?_⟩;have G:i∉O:=λz=>by
   have:O.contains i=true:=by simpa using z
   rw[F]at this;cases this
  obtain⟨J,q⟩:=(st.own_put x n Y o G).shut (Sub.mem h);exact p J _ H' q
theorem Ext.upN{A:Av}{H H':Hp}{D:Addr}{o:HO}(x:Ext A H H')(n:H D=none):Ext A H (upd H' D o):=by
 have B:∀b,H b≠none->b≠D:=λb F z=>F (by rw[z];exact n)
 exact⟨λb w r=>iD (B b (by rcases r with r|⟨_,r⟩ <;> (rw[r];exact λz=>nomatch z))) (x.rd b w r),
  λb xs k r=>by rw[aG (B b (by rw[r];exact λz=>nomatch z))];exact x.kp b xs k r,
  λb w n r=>by rw[aG (B b (by rw[r];exact λz=>nomatch z))];exact x.ow b w n r,
  λb q w r=>by rw[aG (B b (by rw[r];exact λz=>nomatch z))];exact x.fz b q w r⟩
theorem ST.write(s:ST H0 A0 A E O σ H ρ)(hi:ρ[i]?=some (some d))(hO:i∈O)(hs:σ[i]?=some (some (.ref a)))(M:A a)(h0:H0 a=none)(N:H a=some u)(Y:ZR u)(hn:Own A (upd H a o) d' a) :
  ST H0 A0 A E O σ (upd H a o) (ρ.set i (some d')):=by
 refine⟨s.ex.upN h0,s.sub,s.l0,λb hb=>?_,by simp[s.len],λj F h' B=>?_,λj F h' B=>?_,λj k J F b hj hk h1 h2 W U=>?_,λp hp=>Fact.put M N Y (s.ext p hp)⟩
 ·by_cases e:b=a
  ·subst e;rw[aL];exact λz=>nomatch z
  ·rw[aG e];exact s.live b hb
 ·rcases fF h' with⟨e,q,l⟩|⟨e,q⟩
  ·subst e;exact absurd hO B
  ·obtain⟨w,h1,h2⟩:=s.val j F q B
   exact⟨w,h1,h2.put M N Y⟩
 ·rcases fF h' with⟨e,q,l⟩|⟨e,q⟩
  ·subst e;cases q;exact⟨a,hs,M,h0,hn⟩
  ·obtain⟨b,h1,h2,W,U⟩:=s.own j F q B
   refine⟨b,h1,h2,W,U.put M N Y λz=>?_⟩;subst z;exact e (s.inj j i F d b B hO q hi h1 hs)
 ·have G:∀ {j:Nat} {J:D},(ρ.set i (some d'))[j]?=some (some J)->∃d0,ρ[j]?=some (some d0):=by
   intro j J h;rcases fF h with⟨e,_,_⟩|⟨_,e⟩
   ·subst e;exact⟨d,hi⟩
   ·exact⟨J,e⟩
  obtain⟨x,hx⟩:=G h1;obtain⟨y,hy⟩:=G h2;exact s.inj j k x y b hj hk hx hy W U
noncomputable def mem(O:List Nat)(i:Nat):Bool:=O.contains i
theorem iB(h:mem O i=true):i∈O:=by simpa[mem]using h
def LC(i:Nat)(f:Ev):Sv:=λρ=>(aD i ρ).bind λx=>match x with
 | .lst l=>(f ρ).bind λd=>if a7 l.length then some (.nx (ρ.set i (some (.lst (l++[d])))))else none
 | _=>none
theorem DV{o e:Expr}{i:Nat}{apos cpos pos:Pos}{f:Ev}(Y:PE X o (dB i))(he:PD X O e f)(F:mem O i=true)(U:PE X (.Call (.Attribute o "append" apos) [e] [] cpos) (ZP X.K "list" HJ (dB i) (xM (tD Rep O f) U7)))
  (hs:zaD (.Call (.Attribute o "append" apos) [e] [] cpos) none pos.line X.env=pure false:=by rfl) (h:Sub O' O=true:=by rfl):j9 X L O (.Expr (.Call (.Attribute o "append" apos) [e] [] cpos) pos) (LC i f) O':=
 PS.mono (yG U hs) <| by
  rintro T σ H ⟨H0,A0,A,E,ρ,out,st,e,p⟩;obtain⟨x,ex,e⟩:=bind_some e;cases x with
  | lst l=>
   obtain⟨d,W,e⟩:=bind_some e;by_cases B:a7 l.length=true
   ·rw[if_pos B]at e
    cases e;obtain⟨a,J,q,N,M⟩:=st.own i _ (bW ex) (iB F);cases M with
    | lst h4 r4=>
     refine⟨_,J,.inl ⟨rfl,_,SqL.of h4⟩,H0,A0,A,E,ρ,d,st,W,λv H' x r=>⟨a,_,v,rfl,rfl,x.ow _ _ q h4,by rw[r4.length];exact jH B,?_⟩⟩;have G:=x.ow _ _ q h4;obtain⟨A',z⟩:=((st.mono x).write (o:=.lst _) (bW ex) (iB F) J q N G trivial (.lst aL (((r4.ext x).append (.cons r .nil)).put q G trivial))).shut (Sub.mem h);exact p A' σ _ z
   ·rw[if_neg B]at e;cases e
  | _=>exact nn e
def ZL:D->Option Key
 | .int i=>some (.inl i)
 | .str x=>some (.inr x)
 | _=>none
def QQ:List D->Option (List Key)
 | []=>some []
 | d::ds=>(ZL d).bind λk=>(QQ ds).bind λks=>some (k::ks)
def WB:D->Option (List Key)
 | .tup l=>QQ l
 | _=>none
noncomputable def fM{κ:Type}[DecidableEq κ](l:List (κ×D))(k:κ):Option D:=(l.find? λp=>decide (p.1=k)).map (·.2)
noncomputable def putD{κ:Type}[DecidableEq κ](l:List (κ×D))(k:κ)(d:D):List (κ×D):=if l.any (λp=>decide (p.1=k))then l.map (λp=>if p.1=k then(p.1,d)else p)else l++[(k,d)]
end
section
variable {A:Av}{H:Hp}
section
variable {κ:Type}[DecidableEq κ]
abbrev PP(A:Av)(H:Hp):List (κ×D)->List (κ×V)->Prop:=zbO λ(p:κ×D) (q:κ×V)=>p.1=q.1/\Rep A H p.2 q.2
theorem vK:∀ {l:List (κ×D)} {xs:List (κ×V)},xs.map (·.1)=l.map (·.1)->RepL A H (l.map (·.2)) (xs.map (·.2))->PP A H l xs
 | [],[],_,_=>.nil
 | [],_::_,e,_=>by cases e
 | _::_,[],e,_=>by cases e
 | p::l,q::xs,e,r=>by
  rw[zak,zak]at e r;injection e with e1 e2
  cases r with
  | cons h t=>exact .cons ⟨e1.symm,h⟩ (vK e2 t)
theorem xJ:∀ {l:List (κ×D)} {xs:List (κ×V)},PP A H l xs->xs.map (·.1)=l.map (·.1)/\RepL A H (l.map (·.2)) (xs.map (·.2))
 | _,_,.nil=>⟨rfl,.nil⟩
 | _,_,.cons h t=>by
  obtain⟨e,r⟩:=xJ t;exact⟨by rw[zak,zak,h.1,e],.cons h.2 r⟩
theorem P8(k:κ)(h:PP A H l xs):(fM l k=none/\oZ xs k=none)\/∃d v,fM l k=some d/\oZ xs k=some v/\Rep A H d v:=by
 induction h with
 | nil=>exact .inl ⟨rfl,rfl⟩
 | @cons p q l xs h t ih=>
  by_cases e:p.1=k
  ·refine .inr ⟨p.2,q.2,?_,oI (h.1 ▸ e),h.2⟩
   simp[fM,zbz,e]
  ·have B:¬ q.1=k:=λz=>e (h.1.trans z)
   have a:fM (p::l) k=fM l k:=by simp[fM,zbz,e]
   rw[a,oB B];exact ih
theorem XT(k:κ)(h:PP A H l xs):(l.any λp=>decide (p.1=k))=xs.any λp=>decide (p.1=k):=by
 induction h with
 | nil=>rfl
 | cons h t ih=>rw[zcc,zcc,ih,h.1]
theorem XI(k:κ)(r:Rep A H d v)(h:PP A H l xs):PP A H (l.map λp=>if p.1=k then(p.1,d)else p) (xs.map λp=>if p.1=k then(p.1,v)else p):=by
 induction h with
 | nil=>exact .nil
 | @cons p q l xs h t ih=>
  rw[zak,zak];refine .cons ?_ ih;by_cases e:p.1=k
  ·rw[if_pos e,if_pos (h.1 ▸ e)];exact⟨h.1,r⟩
  ·rw[if_neg e,if_neg (λz=>e (h.1.trans z))];exact h
theorem X0(h:PP A H l xs)(h':PP A H m ys):PP A H (l++m) (xs++ys):=by
 induction h with
 | nil=>exact h'
 | cons h t ih=>exact .cons h ih
theorem vG(k:κ)(r:Rep A H d v)(h:PP A H l xs):PP A H (putD l k d) (putK xs k v):=by
 unfold putD putK;rw[XT k h];by_cases e:(xs.any λp=>decide (p.1=k))=true
 ·rw[if_pos e,if_pos e];exact XI k r h
 ·rw[if_neg e,if_neg e];exact X0 h (.cons ⟨rfl,r⟩ .nil)
end
theorem rU(h:ZL d=some k)(r:RepB A H d v):v=kV k:=by
 cases d <;> cases h
 ·exact r.int_inv
 ·exact r.str_inv
theorem AY:∀ {ds:List D} {ks:List Key} {vs:List V},QQ ds=some ks->RepL A H ds vs->vs=ks.map kV
 | _,_,_,h,.nil=>by cases h;rfl
 | _,_,_,h,.cons r t=>by
  obtain⟨k,z,h⟩:=bind_some h;obtain⟨ks,q,h⟩:=bind_some h;cases h;rw[zak,rU z (.of r),AY q t]
set_option tactic.hygienic true in
theorem sF(h:WB d=some k)(r:RepB A H d v):∃b,v=.ref b/\H b=some (.tup (k.map kV)):=by
 cases d <;> try cases h
 rename_i l;obtain⟨a,xs,rfl,h1,h2⟩:=r.tup_inv;exact⟨a,rfl,by rw[h1,AY h h2]⟩
def oU:D->D->Option (Option D)
 | .dK l,k=>(ZL k).map λk=>fM l k
 | .dT l,k=>(WB k).map λk=>fM l k
 | _,_=>none
theorem uW{d k:D}{x y:V}{o:Option D}(h:oU d k=some o)(G:RepB A H d x)(J:RepB A H k y):∃a F,x=.ref a/\IsD H a/\DGet H a y F/\((o=none/\F=none)\/∃z v,o=some z/\F=some v/\Rep A H z v):=by
 cases d with
 | dK l=>
  obtain⟨q,B,rfl⟩:=map_some h;obtain⟨a,xs,rfl,h1,e,r⟩:=G.dK_inv;have:=rU B J;subst this;refine⟨a,_,rfl,.inl ⟨xs,h1⟩,.inl ⟨xs,q,h1,rfl,rfl⟩,P8 q (vK e r)⟩
 | dT l=>
  obtain⟨q,B,rfl⟩:=map_some h;obtain⟨a,xs,rfl,h1,e,r⟩:=G.dT_inv;obtain⟨b,rfl,M⟩:=sF B J;exact⟨a,_,rfl,.inr ⟨xs,h1⟩,.inr ⟨xs,q,b,h1,rfl,M,rfl⟩,P8 q (vK e r)⟩
 | _=>exact nn h
end
section
variable {X:Cx}{O O':List Nat}{L:Lp}
theorem PE.or(h:PE X e t)(k:PE X e u):PE X e (λσ H Q=>t σ H Q\/u σ H Q):=λpins s σ H Q I w=>w.elim (h pins s σ H Q I) (k pins s σ H Q I)
def aI(d k:D):Option D:=match d with
 | .dK _=>(oU d k).join
 | .dT _=>(oU d k).join
 | _=>dIx d k
theorem uD{q:Type}{o:Option (Option q)}{d:q}(h:o.join=some d):o=some (some d):=by
 cases o with
 | none=>cases h
 | some o=>cases o with
  | none=>cases h
  | some x=>cases h;rfl
theorem BD{M fb:Ev}{σ:L2.St}{H:Hp}{Q:VK}(h:tD Rep O (bC (λd k=>(oU d k).join) M fb) σ H Q):VS (tD RepB O M) (tD RepB O fb) σ H Q:=by
 obtain⟨H0,A0,A,E,ρ,d,st,e,q⟩:=h;obtain⟨x,ex,e⟩:=bind_some e;obtain⟨y,N,e⟩:=bind_some e;refine⟨H0,A0,A,E,ρ,x,st,ex,λv H1 G r1=>⟨H0,A0,A,E,ρ,y,st.mono G,N,λw H2 F r2=>?_⟩⟩;obtain⟨a,Y,W,_,g,B⟩:=uW (uD e) (r1.ext F) r2;rcases B with⟨B,_⟩|⟨z,J,B,U,r3⟩
 ·cases B
 ·cases B;subst U
  exact⟨a,J,W,g,q J H2 (G.trans F) r3⟩
theorem y8(M:X.A.units+1<cLine)(G:PB X O a fa)(F:PB X O b fb)(hs:yQ b):PD X O (.Subscript a b pos) (bC aI fa fb):=
 PE.mono (PE.or (qv qbu G F hs) (G7 M G F hs)) <| by
  rintro σ H Q ⟨H0,A0,A,E,ρ,d,st,e,q⟩;obtain⟨x,ex,B⟩:=bind_some e;obtain⟨y,J,B⟩:=bind_some B;have z:∀g:D->D->Option D,g x y=some d->tD Rep O (bC g fa fb) σ H Q:=λg h=>⟨H0,A0,A,E,ρ,d,st,by unfold bC;rw[ex,J];exact h,q⟩
  cases x with
  | dK l=>exact .inr (BD (z _ B))
  | dT l=>exact .inr (BD (z _ B))
  | _=>exact .inl (zM (z dIx B))
def nE(d k e:D):Option D:=match d with
 | .dK l=>(ZL k).bind λk=>if a7 l.length then some (.dK (putD l k e))else none
 | .dT l=>(WB k).bind λk=>if a7 l.length then some (.dT (putD l k e))else none
 | .lst l=>(asI k).bind λk=>(Q1 l.length k).map λj=>.lst (l.set j e)
 | _=>none
def FQ(i:Nat)(fk fe:Ev):Sv:=λρ=>(fe ρ).bind λe=>(aD i ρ).bind λx=>(fk ρ).bind λk=>(nE x k e).map λd=>.nx (ρ.set i (some d))
theorem PS.or{st:Stmt}{t u:TS}(h:PS X st t)(k:PS X st u):PS X st (λT σ H=>t T σ H\/u T σ H):=λpins s σ H T I w=>w.elim (h pins s σ H T I) (k pins s σ H T I)
theorem UM{o k value:Expr}{i:Nat}{pos pos':Pos}{fk fe:Ev}(B:X.A.units+1<cLine)(ho:PE X o (dB i))(hk:PB X O k fk)(hv:PD X O value fe)(hO:mem O i=true)(h:Sub O' O=true:=by rfl)
  (hs:zaD value (some (.Subscript o k pos')) pos.line X.env=pure false:=by rfl) (ah:zc8 [.Subscript o k pos'] value pos.line X.env=pure false:=by rfl) (hw:zc9 [.Subscript o k pos'] value X.env=pure none:=by rfl)
  (hg:∀ {to ti:TE} {t:QP},PE X o to->PE X k ti->U1 X t->PG X (.Subscript o k pos') (ZG to ti t):=by intro _ _ _ a b c;exact O9 a b c) :
  j9 X L O (.Assign [.Subscript o k pos'] value pos) (FQ i fk fe) O':=
 PS.mono (PS.or (yM B ho hk hv hs) (P3 hv (hg ho hk set_list) ah hw)) <| by
  rintro T σ H ⟨H0,A0,A,E,ρ,out,st,e,p⟩;obtain⟨z,ez,e⟩:=bind_some e;obtain⟨x,ex,e⟩:=bind_some e;obtain⟨y,ey,e⟩:=bind_some e;obtain⟨d,ed,rfl⟩:=map_some e;obtain⟨a,W,J,e3,e4⟩:=st.own i _ (bW ex) (iB hO);cases x with
  | dK l=>
   obtain⟨kk,Y,G⟩:=bind_some ed;by_cases U:a7 l.length=true
   ·rw[if_pos U]at G;cases G
    refine .inl ⟨H0,A0,A,E,ρ,z,st,ez,λv H1 N r1=>⟨_,W,H0,A0,A,E,ρ,y,st.mono N,ey,λw H2 M r2=>?_⟩⟩;have q:=N.trans M;cases e4 with
    | @dK _ _ xs h4 ee r4=>
     have B:=q.ow _ _ J h4;have hl:xs.length=l.length:=by have:=congrArg zbl ee;simpa using this
     have:=rU Y r2;subst this;refine⟨a,_,rfl,DPut.k B (by rw[hl];exact jH U),?_⟩;obtain⟨e7,r7⟩:=xJ (vG kk (r1.ext M) (vK ee (r4.ext q)));obtain⟨A',F⟩:=((st.mono q).write (o:=.dK _) (bW ex) (iB hO) W J e3 B trivial (.dK aL e7 (r7.put J B trivial))).shut (Sub.mem h);exact p A' σ _ F
   ·rw[if_neg U]at G;cases G
  | dT l=>
   obtain⟨kk,Y,G⟩:=bind_some ed;by_cases U:a7 l.length=true
   ·rw[if_pos U]at G;cases G
    refine .inl ⟨H0,A0,A,E,ρ,z,st,ez,λv H1 N r1=>⟨_,W,H0,A0,A,E,ρ,y,st.mono N,ey,λw H2 M r2=>?_⟩⟩;have q:=N.trans M;cases e4 with
    | @dT _ _ xs h4 ee r4=>
     have B:=q.ow _ _ J h4;have hl:xs.length=l.length:=by have:=congrArg zbl ee;simpa using this
     obtain⟨b,rfl,hb⟩:=sF Y r2;refine⟨a,_,rfl,DPut.t B hb (by rw[hl];exact jH U),?_⟩;obtain⟨e7,r7⟩:=xJ (vG kk (r1.ext M) (vK ee (r4.ext q)));obtain⟨A',F⟩:=((st.mono q).write (o:=.dT _) (bW ex) (iB hO) W J e3 B trivial (.dT aL e7 (r7.put J B trivial))).shut (Sub.mem h);exact p A' σ _ F
   ·rw[if_neg U]at G;cases G
  | lst l=>
   obtain⟨kk,Y,G⟩:=bind_some ed;obtain⟨j,e7,rfl⟩:=map_some G;refine .inr ⟨H0,A0,A,E,ρ,z,st,ez,λv H1 N r1=>⟨_,W,H0,A0,A,E,ρ,y,st.mono N,ey,λw H2 M r2=>?_⟩⟩;have q:=N.trans M;cases e4 with
   | @lst _ _ xs h4 r4=>
    have B:=q.ow _ _ J h4;rw[AX Y]at r2;have:=r2.int_inv;subst this;refine⟨a,xs,kk,j,rfl,rfl,B,by rw[r4.length];exact e7,?_⟩;obtain⟨A',F⟩:=((st.mono q).write (o:=.lst _) (bW ex) (iB hO) W J e3 B trivial (.lst aL (((r4.ext q).set j (r1.ext M)).put J B trivial))).shut (Sub.mem h);exact p A' σ _ F
  | _=>cases ed
noncomputable def LL(g:Int->Int->Option D):D->D->Option D
 | .int i,.int j=>g i j
 | _,_=>none
theorem uH(h:LL g x y=some d):∃i j,x=.int i/\y=.int j/\g i j=some d:=by
 cases x with
 | int i=>
  cases y with
  | int j=>exact⟨_,_,rfl,rfl,h⟩
  | _=>exact nn h
 | _=>exact nn h
theorem vJ{f:Value->Value->Sem Value}{C:Int->Int->Prop}[∀i j,Decidable (C i j)]{g:Int->Int->Int}(h:OpR X f (rI C λi j=>.int (g i j))):mE X f (LL λi j=>if C i j then some (.int (g i j))else none):=
 OpR.mono h <| by
  rintro x y H Q ⟨A,dx,M,d,J,F,G,e,q⟩;obtain⟨i,j,rfl,rfl,z⟩:=uH e;have:=F.int_inv;subst this;have:=G.int_inv;subst this;by_cases B:C i j
  ·rw[if_pos B]at z;cases z
   exact⟨i,j,rfl,rfl,B,q _ H (Ext.refl _ _) (.int _)⟩
  ·rw[if_neg B]at z;cases z
theorem RN{f:Value->Value->Sem Value}{g:Int->Int->Int}(h:OpR X f (Q2 λi j=>.int (g i j))):mE X f (LL λi j=>some (.int (g i j))):=
 OpR.mono h <| by
  rintro x y H Q ⟨A,dx,F,d,G,z,B,e,q⟩;obtain⟨i,j,rfl,rfl,e⟩:=uH e;have:=z.int_inv;subst this;have:=B.int_inv;subst this;cases e;exact⟨i,j,rfl,rfl,q _ H (Ext.refl _ _) (.int _)⟩
theorem B5{f:Value->Value->Sem Value}{g:Int->Int->Bool}(h:OpR X f (Q2 λi j=>.bl (g i j))):mE X f (LL λi j=>some (.bl (g i j))):=
 OpR.mono h <| by
  rintro x y H Q ⟨A,dx,F,d,G,z,B,e,q⟩;obtain⟨i,j,rfl,rfl,e⟩:=uH e;have:=z.int_inv;subst this;have:=B.int_inv;subst this;cases e;exact⟨i,j,rfl,rfl,q _ H (Ext.refl _ _) (.bl _)⟩
instance:∀i j,Decidable (My.FV i j):=λi j=>by unfold My.FV;infer_instance
instance:∀i j,Decidable (U5 i j):=λi j=>by unfold U5;infer_instance
instance:∀i j,Decidable (U4 i j):=λi j=>by unfold U4;infer_instance
def qa3:D->D->Option D:=LL λi j=>some (.int (i-j))
def IN:D->D->Option D:=LL λi j=>if My.FV i j then some (.int (i*j))else none
def dM:D->D->Option D:=LL λi j=>if 0<j then some (.int (i%j))else none
def iU:D->D->Option D:=LL λi j=>if U5 i j then some (.int (i/j))else none
def QT:D->D->Option D:=LL λi j=>if U4 i j then some (.int (i^j.toNat))else none
def DD:D->D->Option D:=LL λi j=>some (.bl (decide (j<i)))
def qaS:D->D->Option D:=LL λi j=>some (.bl (decide (j<=i)))
theorem OO:mE X (zaN .Sub) qa3:=RN YQ
theorem YH:mE X (zaN .Mult) IN:=vJ My.TL
theorem gB:mE X (zaN .Mod) dM:=vJ WK
theorem FI:mE X (zaN .FloorDiv) iU:=vJ UI
theorem XX:mE X (zaN .Pow) QT:=vJ XD
theorem qc:mE X (zaB .Gt) DD:=B5 qg
theorem qab:mE X (zaB .GtE) qaS:=B5 Z7
end
section
variable {X:Cx}{L:Lp}{O O':List Nat}
def VA:Sv:=λ_=>none
theorem KI{st:Stmt}:j9 X L O st VA O':=λ_ _ _ _ _ _ ⟨_,_,_,_,_,_,_,e,_⟩=>nomatch e
abbrev Gv:=D->cX->Option cX
inductive tDG(O:List Nat)(g:Gv)(v:V)(σ:L2.St)(H:Hp)(Q:L2.St->Hp->Prop):Prop
 | mk (H0:Hp) (A0 A:Av) (E:List Fact) (ρ:cX) (d:D) (ρ':cX) (st:ST H0 A0 A E O σ H ρ) (r:Rep A H d v) (e:g d ρ=some ρ') (q:∀σ',ST H0 A0 A E O σ' H ρ'->Q σ' H):tDG O g v σ H Q
def DF(X:Cx)(O:List Nat)(tg:Expr)(g:Gv):Prop:=PG X tg (tDG O g)
abbrev WE:=List D->cX->Option cX
inductive tDGs(O:List Nat)(g:WE)(vs:List V)(σ:L2.St)(H:Hp)(Q:L2.St->Hp->Prop):Prop
 | mk (H0:Hp) (A0 A:Av) (E:List Fact) (ρ:cX) (ds:List D) (ρ':cX) (st:ST H0 A0 A E O σ H ρ) (r:RepL A H ds vs) (e:g ds ρ=some ρ') (q:∀σ',ST H0 A0 A E O σ' H ρ'->Q σ' H):tDGs O g vs σ H Q
def FL(X:Cx)(O:List Nat)(ts:List Expr)(g:WE):Prop:=PGs X ts (tDGs O g)
theorem PG.mono(h:PG X tg t)(x:∀v σ H Q,t' v σ H Q->t v σ H Q):PG X tg t':=λpins s σ H v u Q I r w=>h pins s σ H v u Q I r (x v σ H Q w)
theorem PGs.mono(h:PGs X ts t)(x:∀v σ H Q,t' v σ H Q->t v σ H Q):PGs X ts t':=λpins s σ H v u Q I r w=>h pins s σ H v u Q I r (x v σ H Q w)
def aR(i:Nat):Gv:=λd ρ=>some (ρ.set i (some d))
theorem nW(h:PG X tg (jV i))(n:O.contains i=false:=by rfl):DF X O tg (aR i):=PG.mono h <| by
 rintro v σ H Q ⟨H0,A0,A,E,ρ,d,ρ',st,r,e,q⟩;cases e;exact q _ (st.put r λz=>by
  have:O.contains i=true:=by simpa using z
  rw[n]at this;cases this)
def rB:WE:=λds ρ=>match ds with
 | []=>some ρ
 | _=>none
def dI(g:Gv)(k:WE):WE:=λds ρ=>match ds with
 | d::ds=>(g d ρ).bind λρ'=>k ds ρ'
 | _=>none
theorem MS:FL X O [] rB:=PGs.mono S4 <| by
 rintro v σ H Q ⟨H0,A0,A,E,ρ,ds,ρ',st,r,e,q⟩;cases r with
 | nil=>cases e;exact⟨rfl,q _ st⟩
 | cons _ _=>cases e
theorem iL(G:∀ {t:TG} {u:WC},PG X e t->PGs X es u->PGs X (e::es) (VT t u))(h1:DF X O e g)(h2:FL X O es k):FL X O (e::es) (dI g k):=
 PGs.mono (G h1 h2) <| by
  rintro v σ H Q ⟨H0,A0,A,E,ρ,ds,ρ',st,r,e,q⟩;cases r with
  | nil=>cases e
  | cons h t=>
   obtain⟨z,F,e⟩:=bind_some e;exact⟨_,_,rfl,H0,A0,A,E,ρ,_,z,st,h,F,λJ B=>⟨H0,A0,A,E,z,_,ρ',B,t,e,q⟩⟩
def lJ(n:Nat)(k:WE):Gv:=λd ρ=>match d with
 | .tup l=>if l.length=n then k l ρ else none
 | _=>none
theorem GW(F:PG X tg (qaV X.K n (tDGs O k))):DF X O tg (lJ n k):=PG.mono F <| by
 rintro v σ H Q ⟨H0,A0,A,E,ρ,d,ρ',st,r,e,q⟩;cases d with
 | tup l=>
  obtain⟨a,xs,rfl,h,B⟩:=RepB.tup_inv (.of r);by_cases z:l.length=n
  ·simp only[lJ,if_pos z]at e
   exact⟨a,xs,rfl,.inl (.inl h),by rw[B.length];exact z,H0,A0,A,E,ρ,l,ρ',st,B,e,q⟩
  ·simp only[lJ,if_neg z]at e;cases e
 | _=>exact nn e
def U2(f:Ev)(g:Gv):Sv:=λρ=>(f ρ).bind λd=>(g d ρ).map .nx
theorem oT(F:PD X O e f)(M:DF X O tg g)(hs:zc8 [tg] e pos.line X.env=pure false:=by rfl)(hw:zc9 [tg] e X.env=pure none:=by rfl)(h:Sub O' O=true:=by rfl)(h1:(za1 [tg] X.env).map (·.2)=[zbd tg X.env]:=by rfl)(h1:(za1 [tg] X.env).map (·.2)=[zbd tg X.env]:=by rfl)(h1:(za1 [tg] X.env).map (·.2)=[zbd tg X.env]:=by rfl)(h1:(za1 [tg] X.env).map (·.2)=[zbd tg X.env]:=by rfl):j9 X L O (.Assign [tg] e pos) (U2 f g) O':=
 PS.mono (P3 F M hs hw h1) <| by
  rintro T σ H ⟨H0,A0,A,E,ρ,out,st,e,p⟩;obtain⟨d,G,e⟩:=bind_some e;obtain⟨ρ',J,rfl⟩:=map_some e;refine⟨H0,A0,A,E,ρ,d,st,G,λv H' x r=>⟨H0,A0,A,E,ρ,d,ρ',st.mono x,r,J,λz B=>?_⟩⟩;obtain⟨A',q⟩:=B.shut (Sub.mem h);exact p A' z H' q
def LH(J:It)(q:List Fact)(items:List D):Prop:=
 ∀(A:Av) (H:Hp),Live A H->(∀p∈q,p.Holds A H)->∀i,(items.length<=i->J.stop i H)/\∀d,items[i]?=some d->J.go i H/\∀x H',J.yld i H x H'->Ext A H H'/\Rep A H' d x
inductive tDI(O:List Nat)(f:Lv)(σ:L2.St)(H:Hp)(R:It->Hp->Prop):Prop
 | mk (H0:Hp) (A0 A:Av) (E:List Fact) (ρ:cX) (items:List D) (st:ST H0 A0 A E O σ H ρ) (e:f ρ=some items) (q:∀J H' E1,Ext A H H'->(∀p∈E1,p.Holds A H')->LH J E1 items->R J H'):tDI O f σ H R
def PDI(X:Cx)(O:List Nat)(tg e:Expr)(f:Lv):Prop:=PI X tg e (tDI O f)
theorem PI.mono(h:PI X tg e t)(x:∀σ H Q,t' σ H Q->t σ H Q):PI X tg e t':=λpins s σ H Q I w=>h pins s σ H Q I (x σ H Q w)
theorem PI.or(h:PI X tg e t)(k:PI X tg e u):PI X tg e (λσ H Q=>t σ H Q\/u σ H Q):=λpins s σ H Q I w=>w.elim (h pins s σ H Q I) (k pins s σ H Q I)
theorem S6{a:Addr}{l:List D}{K:zae}:LH (Itl K a) [.rep (.lst l) (.ref a)] l:=by
 intro A H F h i;have r:Rep A H (.lst l) (.ref a):=h _ (List.mem_singleton.mpr rfl);obtain⟨B,xs,e,h1,q⟩:=RepB.lst_inv (.of r);cases e;refine⟨λhi=>⟨xs,.inl h1,by rw[q.length];exact hi⟩,λd hd=>?_⟩;obtain⟨v,z,r1⟩:=q.get' hd;refine⟨⟨xs,v,.inl h1,z⟩,λx H' y=>?_⟩;obtain⟨rfl,y⟩:=y;have:=y xs (.inl h1);rw[z]at this;cases this;exact⟨Ext.refl _ _,r1⟩
theorem W5{a:Addr}{l:List D}{K:zae}:LH (Itt K a) [.rep (.tup l) (.ref a)] l:=by
 intro A H F h i;have r:Rep A H (.tup l) (.ref a):=h _ (List.mem_singleton.mpr rfl);obtain⟨B,xs,e,h1,q⟩:=RepB.tup_inv (.of r);cases e;refine⟨λhi=>⟨xs,.inl (.inl h1),by rw[q.length];exact hi⟩,λd hd=>?_⟩;obtain⟨v,z,r1⟩:=q.get' hd;refine⟨⟨xs,v,.inl (.inl h1),z⟩,λx H' y=>?_⟩;obtain⟨rfl,y⟩:=y;have:=y xs (.inl (.inl h1));rw[z]at this;cases this;exact⟨Ext.refl _ _,r1⟩
noncomputable def aU(lo c:Int)(n:Nat):List D:=(zas n).map λ(i:Nat)=>.int (lo+(i:Int)*c)
theorem bI(lo c:Int)(n:Nat):(aU lo c n).length=n:=by simp[aU]
theorem b7{lo c:Int}{n i:Nat}(h:(aU lo c n)[i]?=some d):i<n/\d=.int (lo+(i:Int)*c):=by
 unfold aU at h;rw[zaA]at h;by_cases hi:i<n
 ·rw[zcV hi]at h;cases h;exact⟨hi,rfl⟩
 ·rw[List.getElem?_eq_none (by simpa using hi)]at h;cases h
theorem M8{lo:Int}{n:Nat}:LH (Itr lo n) [] (aU lo 1 n):=by
 intro A H q h i;refine⟨λhi=>by rw[bI]at hi;exact hi,λd hd=>?_⟩;obtain⟨hi,rfl⟩:=b7 hd;exact⟨hi,λx H' ⟨e,y⟩=>by subst e y;rw[Int.mul_one];exact⟨Ext.refl _ _,.int _⟩⟩
noncomputable def rF(i:Int):Bool:=decide (-1000000<=i) && decide (i<=1000000)
def bZ:List D->Option (List D)
 | [.int j]=>if rF j then some (aU 0 1 j.toNat)else none
 | _=>none
theorem BP(h:rF i=true):-(2^62)<=i/\i<2^62:=by
 simp only[rF,zaS,decide_eq_true_eq]at h
 lia
def lR(g:List D->Option (List D))(f:Lv):Lv:=λρ=>(f ρ).bind g
theorem RL.one(r:RL R A H [d] vs):∃v,vs=[v]/\R A H d v:=by
 cases r with|cons h t=>cases t;exact⟨_,rfl,h⟩
theorem RL.two(r:RL R A H [d,e] vs):∃v w,vs=[v,w]/\R A H d v/\R A H e w:=by
 cases r with|cons h t=>obtain⟨w,rfl,h2⟩:=RL.one t;exact⟨_,w,rfl,h,h2⟩
theorem xZ(h:bZ ds=some l):∃j,ds=[.int j]/\rF j=true/\l=aU 0 1 j.toNat:=by
 unfold bZ at h;split at h
 ·split at h
  ·cases h;exact⟨_,rfl,by assumption,rfl⟩
  ·cases h
 ·cases h
section
variable {tg a b c:Expr}{f:Lv}{p pos:Pos}
theorem DT(J:Gl X "range")(G:X.mg "range" = none)(F:xS X O [a] f)(hs:zag [a] X.env=[(false,eval a X.env)]:=by rfl):PDI X O tg (.Call (.Name "range" p) [a] [] pos) (lR bZ f):=PI.mono (J7 J G F hs) <| by
 rintro σ H R ⟨H0,A0,A,E,ρ,items,st,e,q⟩;obtain⟨ds,B,e⟩:=bind_some e;refine⟨H0,A0,A,E,ρ,ds,st,B,λvs H1 z r1=>?_⟩;obtain⟨j,rfl,h,rfl⟩:=xZ e;obtain⟨v,rfl,h1⟩:=r1.one;have:=h1.int_inv;subst this;exact⟨j,rfl,(BP h).1,(BP h).2,q _ H1 [] z (λ_ h=>nomatch h) M8⟩
end
def LG:Key->D
 | .inl i=>.int i
 | .inr x=>.str x
def QU(f:Ev):Lv:=λρ=>(f ρ).bind λd=>match d with
 | .lst l=>some l
 | .tup l=>some l
 | .dT l=>some (l.map λp=>.tup (p.1.map LG))
 | _=>none
theorem uX:∀k:List Key,RepL A H (k.map LG) (k.map kV)
 | []=>.nil
 | .inl i::k=>.cons (.int i) (uX k)
 | .inr x::k=>.cons (.str x) (uX k)
def WW(tl:TE):TI:=λσ H R=>tl σ H λx H1=>∃d kvs,x=.ref d/\((H1 d=some (.dT kvs)/\∀o,R (My.ItD d o kvs) (upd H1 d (.frz o (.dT kvs))))\/∃o,H1 d=some (.frz o (.dT kvs))/\R (My.ItD d o kvs) H1)
theorem MY(W:PE X l tl):PI X tg l (WW tl):=by
 intro pins s σ H R I h;refine cK (W pins s σ H _ I h) λv z ⟨x,H1,J,r1,Y⟩=>?_
 obtain⟨d,kvs,rfl,q⟩:=Y;cases r1;have F:∀(o:Obj) (H2:Hp),(d == za6)=false->Inv X pins σ H2 z->z.heap.get? d=some o->ObjOk X.prog X.w H2 z.heap d (.dT kvs)->R (My.ItD d o kvs) H2->wpAny (model X.prog X.w) X.A (pyIter (.ref d)) (PIE X pins σ tg R) X.xe z:=λo H2 lo B N ok q=>by
  obtain⟨_,_,es,ep,⟨o',r1,r2,r3⟩,G,_⟩:=My.u3 ok;rw[N]at r1;cases r1;refine My.OB lo ⟨o,N,r2,r3⟩ ?_;refine⟨z.heap.objs.size,[z.heap.objs.size],_,_,_,rfl,B.kept (t':=z.toks) λb o e=>zam _ e,My.K5 d _ o kvs es ep r3 G,⟨_,zaE _ rfl,rfl,rfl⟩,λb U=>?_,q⟩;have e:b=z.heap.objs.size:=by simpa using U
  subst e;exact B.fpOk (zaj _) (B.hok.fresh (zaj _))
 rcases q with⟨hd,q⟩|⟨o,hd,q⟩
 ·have ok:=(show ObjOk X.prog X.w H1 z.heap d (.dT kvs)from J.hok d _ hd)
  obtain⟨lo,_,es,ep,⟨o,r1,r2,r3⟩,G,_⟩:=My.u3 ok;have B:=My.EK J hd r1;have M:=(show ObjOk X.prog X.w _ z.heap d (.frz o (.dT kvs))from B.hok d _ aL);exact F o _ lo B r1 M.2 (q o)
 ·have ok:=(show ObjOk X.prog X.w H1 z.heap d (.frz o (.dT kvs))from J.hok d _ hd)
  obtain⟨lo,_⟩:=My.u3 ok.2;exact F o H1 lo J ok.1 ok.2 q
theorem HS{a:Addr}{o:Obj}{xs:List (List Key×V)}{l:List (List Key×D)}(e:xs.map (·.1)=l.map (·.1)):LH (My.ItD a o xs) [.fz a o (.dT xs)] (l.map λp=>.tup (p.1.map LG)):=by
 intro A H N h i;have q:H a=some (.frz o (.dT xs)):=h _ (List.mem_singleton.mpr rfl);have M:xs.length=l.length:=by have:=congrArg zbl e;simpa using this
 refine⟨λhi=>⟨q,by rw[zah]at hi;lia⟩,λd hd=>?_⟩;rw[zaA]at hd;obtain⟨p,z,rfl⟩:=map_some hd;have hi:i<l.length:=(List.getElem?_eq_some_iff.mp z).1;refine⟨⟨q,by lia⟩,λx H' ⟨G,k,v,b,F,B,J⟩=>?_⟩;subst G B;have:k=p.1:=by
  have h1:(xs.map (·.1))[i]?=some k:=by rw[zaA,F];rfl
  rw[e,zaA,z]at h1;exact(zay h1).symm
 subst this;exact⟨Ext.refl _ _,.tup J (uX _)⟩
theorem TX(n:¬ A d)(hd:H d=some u)(B:ZR u)(G:¬ Kp u):Ext A H (upd H d (.frz o u)) where
 rd:=λb w r=>by
  by_cases e:b=d
  ·subst e
   rcases r with r|⟨q,r⟩
   ·rw[hd]at r;cases r;exact .inr ⟨o,aL⟩
   ·rw[hd]at r;cases r;exact B.elim
  ·exact iD e r
 kp:=λb w k r=>by rw[aG (λz=>by subst z;rw[hd]at r;cases r;exact G k)];exact r
 ow:=λb w F r=>by rw[aG (λz=>n (by rw[<- z];exact F))];exact r
 fz:=λb q w r=>by rw[aG (λz=>by subst z;rw[hd]at r;cases r;exact B)];exact r
theorem Q9(h:PD X O e f):PDI X O tg e (QU f):=PI.mono (PI.or (PI.or (RY h) (XF h)) (MY h)) <| by
 rintro σ H R ⟨H0,A0,A,E,ρ,items,st,e,q⟩;obtain⟨d,G,e⟩:=bind_some e;cases d with
 | lst l=>
  cases e;refine .inl (.inl ⟨H0,A0,A,E,ρ,_,st,G,λv H1 F r1=>?_⟩);obtain⟨a,xs,rfl,h1,J⟩:=RepB.lst_inv (.of r1);exact⟨a,rfl,⟨xs,.inl h1⟩,q _ H1 [.rep (.lst items) (.ref a)] F (λp B=>by rw[List.mem_singleton.mp B];exact r1) S6⟩
 | tup l=>
  cases e;refine .inl (.inr ⟨H0,A0,A,E,ρ,_,st,G,λv H1 F r1=>?_⟩);obtain⟨a,xs,rfl,h1,J⟩:=RepB.tup_inv (.of r1);exact⟨a,rfl,⟨xs,.inl (.inl h1)⟩,q _ H1 [.rep (.tup items) (.ref a)] F (λp B=>by rw[List.mem_singleton.mp B];exact r1) W5⟩
 | dT l=>
  cases e;refine .inr ⟨H0,A0,A,E,ρ,_,st,G,λv H1 F r1=>?_⟩;cases r1 with
  | @dT _ a xs n h ee J=>
   refine⟨a,xs,rfl,?_⟩;rcases h with h|⟨o,h⟩
   ·refine .inl ⟨h,λo=>q _ _ [.fz a o (.dT xs)] (F.trans (TX n h trivial λz=>z)) (λp B=>by rw[List.mem_singleton.mp B];exact aL) (HS ee)⟩
   ·exact .inr ⟨o,h,q _ H1 [.fz a o (.dT xs)] F (λp B=>by rw[List.mem_singleton.mp B];exact h) (HS ee)⟩
 | _=>exact nn e
def lM(g:Gv)(body:Sv):List D->cX->Option Out
 | [],ρ=>some (.nx ρ)
 | x::xs,ρ=>(g x ρ).bind λρ1=>(body ρ1).bind λo=>match o with
  | .nx ρ2=>lM g body xs ρ2
  | .ct ρ2=>lM g body xs ρ2
  | .bk ρ2=>some (.nx ρ2)
  | .rt d=>some (.rt d)
def zW(f:Lv)(g:Gv)(q:Sv):Sv:=λρ=>(f ρ).bind λitems=>lM g q items ρ
theorem ST.both(s:ST H0 A0 A E O σ H ρ)(h:∀p∈E1,p.Holds A H):ST H0 A0 A (E1++E) O σ H ρ:=
 {s with ext:=λp q=>by rcases List.mem_append.mp q with e|e;exact h p e;exact s.ext p e}
theorem UB(hp:zca (model X.prog X.w) X.A X.env X.xe)(hc:X.calm=true)(hi:PDI X O tg iter f)(hg:DF X O1 tg g)(hb:eO X ⟨Ob,O1⟩ O1 body b O1)(h1:Sub O1 O=true)(h2:Sub O' O1=true)(h3:Sub O' Ob=true)
  (hs:∀x,zba iter X.env x=pure x:=by intro _;rfl):j9 X L O (.For tg iter body [] pos) (zW f g b) O':=PS.mono (OV hp hc hi hg hb hs) λT σ H ⟨H0,A0,A,E,ρ,out,st,e,p⟩=>by
 obtain⟨items,e1,e⟩:=bind_some e;refine⟨H0,A0,A,E,ρ,items,st,e1,λJ H1 M x1 af J1=>?_⟩;obtain⟨A1,ae⟩:=((st.mono x1).both af).shut (Sub.mem h1);refine⟨λi m σ H=>m=items.length-i/\i<=items.length/\∃ρ A,ST H0 A0 A (M++E) O1 σ H ρ/\lM g b (items.drop i) ρ=some out,⟨items.length,by simp,zaJ _,ρ,A1,ae,e⟩,?_⟩;rintro i m σ H ⟨rfl,ao,ρ,A,st,e⟩;have hE:∀p∈M,p.Holds A H:=λp hp=>st.ext p (zbt _ hp)
 obtain⟨U,go⟩:=J1 A H st.live hE i;have fin:∀ {O2:List Nat} {A:Av} {σ:L2.St} {H:Hp} {ρ:cX},Sub O' O2=true->ST H0 A0 A (M++E) O2 σ H ρ->(∀A σ H,ST H0 A0 A E O' σ H ρ->T.nx σ H)->T.nx σ H:=λhs st k=>by
  obtain⟨B,ac⟩:=(st.less (E':=E) λq hq=>zaU _ hq).shut (Sub.mem hs);exact k B _ _ ac
 by_cases F:i<items.length
 ·have ed:items[i]?=some items[i]:=by simp[F]
  obtain⟨ad,hy⟩:=go _ ed;rw[zdF F]at e;obtain⟨N,eg,e⟩:=bind_some e;obtain⟨o,eo,e⟩:=bind_some e;refine .inr ⟨ad,λW H'=>∃z B,ST H0 A0 B (M++E) O1 W H' z/\lM g b (items.drop (i+1)) z=some out,λW H' ⟨z,B,G,e2⟩=>⟨items.length-(i+1),by lia,rfl,F,z,B,G,e2⟩,λx H' y=>?_⟩;obtain⟨x2,r2⟩:=hy x H' y;refine⟨H0,A0,A,M++E,ρ,_,N,st.mono x2,r2,eg,λaj s1=>⟨H0,A0,A,M++E,N,o,s1,eo,?_⟩⟩;cases o with
  | nx z=>exact λB Y H2 G=>⟨z,B,G,e⟩
  | ct z=>exact λB Y H2 G=>⟨z,B,G,e⟩
  | bk z=>cases e;exact λB Y H2 G=>fin h3 G p
  | rt d=>cases e;exact p
 ·have aa:i=items.length:=by lia
  subst aa;rw[zej]at e;cases e;exact .inl ⟨U (zaj _),fin h2 st p⟩
end
noncomputable def iE(cells:List (Str×Addr)):List (Str×zbH)->List (Str×Addr)->List (Str×Addr)
 | [],cs=>cs
 | (x,k)::r,cs=>iE cells r (if k == .free then(x,(cells.lookup x).getD 0)::cs else cs)
theorem wV:∀(names:List (Str×zbH)) (q:List (Str×Addr)),(∀y∈names,y.2=.free->∃c,env.cells.lookup y.1=some c)->
  (forIn names q (λ(p:Str×zbH) (r:List (Str×Addr))=>if(p.2 == .free)=true then(do let c <- cellOf env p.1;pure (zcE ((p.1,c)::r)))else(pure (zcE r):Sem _)))=(pure (iE env.cells names q):Sem _)
 | [],q,_=>by simp[iE]
 | (x,k)::r,q,h=>by
  have ih:=λq=>wV r q λy B=>h y (zap _ B)
  rw[zeh];by_cases e:(k == zbm)=true
  ·have G:k=.free:=by simpa using e
   obtain⟨c,F⟩:=h (x,k) (zar ..) G;have z:env.cells.lookup x=some c:=F;simp only[e,if_true,iE];have:cellOf env x=pure c:=by unfold cellOf;rw[z]
   rw[this];simp only[pure_bind,z,Option.getD_some];exact ih _
  ·simp only[e,iE]
   simp only[zbr,if_false,pure_bind];exact ih _
theorem HY(h:∀y∈scope.names,y.2=.free->∃c,env.cells.lookup y.1=some c):closureFor scope env=pure (iE env.cells scope.names []):=by
 have:=wV scope.names [] h;unfold closureFor;simp only[bind_pure];exact this
theorem uQ:∀ {names:List (Str×zbH)} {cs:List (Str×Addr)} {c:Addr},(iE cells names cs).lookup x=some c->(∃q,cs.lookup x=some q/\c=q)\/((x,zbm)∈names/\c=(cells.lookup x).getD 0)
 | [],cs,c,h=>.inl ⟨c,h,rfl⟩
 | (y,k)::r,cs,c,h=>by
  rw[iE]at h;rcases uQ h with⟨q,h1,h2⟩|⟨h1,h2⟩
  ·by_cases e:(k == zbm)=true
   ·rw[if_pos e,zb2]at h1
    by_cases ex:(x == y)=true
    ·rw[ex]at h1
     have z:x=y:=by simpa using ex
     have B:k=.free:=by simpa using e
     subst z B;cases h1;exact .inr ⟨zar ..,h2⟩
    ·rw[zdG]at ex
     rw[ex]at h1;exact .inl ⟨q,h1,h2⟩
   ·rw[if_neg e]at h1
    exact .inl ⟨q,h1,h2⟩
  ·exact .inr ⟨zap _ h1,h2⟩
theorem uL:∀ {names:List (Str×zbH)} {cs:List (Str×Addr)},((x,zbm)∈names\/∃c,cs.lookup x=some c)->∃c,(iE cells names cs).lookup x=some c
 | [],cs,h=>h.elim (λh=>nomatch h) id
 | (y,k)::r,cs,h=>by
  rw[iE];apply uL;rcases h with h|⟨c,h⟩
  ·rcases List.mem_cons.mp h with e|e
   ·cases e
    refine .inr ⟨(cells.lookup x).getD 0,?_⟩;simp[zb2]
   ·exact .inl e
  ·right
   by_cases e:(k == zbm)=true
   ·rw[if_pos e,zb2]
    by_cases ex:(x == y)=true
    ·rw[ex];exact⟨_,rfl⟩
    ·rw[zdG]at ex;rw[ex];exact⟨c,h⟩
   ·rw[if_neg e];exact⟨c,h⟩
theorem gL{q:Type}{v:q}:∀ {l:List (Str×q)},l.lookup x=some v->(x,v)∈l
 | (y,w)::r,h=>by
  rw[zb2]at h;by_cases ex:(x == y)=true
  ·rw[ex]at h;cases h;rw[show x=y by simpa using ex];exact zar ..
  ·rw[zdG]at ex;rw[ex]at h;exact zap _ (gL h)
noncomputable def C5(names q:List (Str×zbH)):Bool:=
 names.all λy=>y.2 != .cell && (y.2 != .local || names.lookup y.1 == some .local) && (y.2 != .free || q.lookup y.1 == some .cell)
theorem EX{X:Cx}{N:List Str}{scope:Scope}{n:Nat}(hk:scope.kind=.function)(h:C5 scope.names X.env.scope.names=true)(hc:X.env.cells=zcb n X.env.scope.names []):My.Clo X N scope (iE X.env.cells scope.names []):=by
 have h':=List.all_eq_true.mp h;have W:∀y∈scope.names,y.2≠.cell:=λy F=>by
  have:=h' y F;simp only[zaS]at this;simpa using this.1.1
 have c2:∀y∈scope.names,y.2=.local->scope.names.lookup y.1=some .local:=λy F e=>by
  have:=h' y F;simp only[zaS,zdH]at this;rcases this.1.2 with z|z
  ·rw[e]at z;exact absurd z (by decide)
  ·simpa using z
 have Y:∀y∈scope.names,y.2=.free->∃c,X.env.cells.lookup y.1=some c:=λy F e=>by
  have:=h' y F;simp only[zaS,zdH]at this;rcases this.2 with z|z
  ·rw[e]at z;exact absurd z (by decide)
  ·rw[hc];exact oF (sc:=X.env.scope) (by simpa using z)
 have B:∀x,((zbc scope X.env).names.lookup x=some .cell\/(zbc scope X.env).names.lookup x=some .free)->(x,zbm)∈scope.names:=λx hx=>by
  have J:∀M,(M=NameKind.cell\/M=zbm)->(x,M)∈(zbc scope X.env).names->(x,zbm)∈scope.names:=λM U hm=>by
   obtain⟨⟨y,k⟩,F,e⟩:=List.mem_map.mp hm;dsimp only at e;by_cases q:(k == zbm && X.env.scope.kind == .function && X.env.kindOf y == some .cell)=true
   ·rw[if_pos q]at e
    have:k=.free:=by simp only[zaS]at q;simpa using q.1.1
    cases e;subst this;exact F
   ·rw[if_neg q]at e
    cases e;rcases U with z|z
    ·exact absurd z (W _ F)
    ·subst z;exact F
  rcases hx with hx|hx
  ·exact J _ (.inl rfl) (gL hx)
  ·exact J _ (.inr rfl) (gL hx)
 refine⟨HY Y,hk,W,c2,λx c e=>?_,λx hx=>uL (.inl (B x hx))⟩;rcases uQ e with⟨c',z,_⟩|⟨z1,z2⟩
 ·cases z
 ·obtain⟨c0,G⟩:=Y _ z1 rfl
  have G:X.env.cells.lookup x=some c0:=G;rw[z2,G];rfl
noncomputable def dP(X:Cx)(scope:Scope):List Str->List (Option Nat)->Prop
 | [],[]=>True
 | _::N,none::ms=>dP X scope N ms
 | x::N,some i::ms=>(X.N[i]?=some x/\((zbc scope X.env).names.lookup x == some NameKind.local)=false/\(X.env.kindOf x=some .cell\/X.env.kindOf x=some .free))/\dP X scope N ms
 | _,_=>False
noncomputable def jW{q:Type}(ms:List (Option Nat))(σ:List (Option q)):List (Option q):=ms.map λo=>o.bind λi=>(σ[i]?).join
theorem kN:∀ {N:List Str} {ms:List (Option Nat)},dP X scope N ms->ms.length=N.length/\∀(j:Nat) (x:Str) (i:Nat),N[j]?=some x->ms[j]?=some (some i)->X.N[i]?=some x/\(zbc scope X.env).names.lookup x≠some .local/\(X.env.kindOf x=some .cell\/X.env.kindOf x=some .free)
 | [],[],_=>⟨rfl,λj x i h _=>by simp at h⟩
 | y::N,none::ms,h=>by
  obtain⟨l,g⟩:=kN (N:=N) (ms:=ms) h;refine⟨by simp[l],λj x i h1 h2=>?_⟩;cases j with
  | zero=>simp at h2
  | succ j=>exact g j x i (by simpa using h1) (by simpa using h2)
 | y::N,some k::ms,h=>by
  obtain⟨l,g⟩:=kN (N:=N) (ms:=ms) h.2;refine⟨by simp[l],λj x i h1 h2=>?_⟩;cases j with
  | zero=>simp at h1 h2;subst h1 h2;exact⟨h.1.1,λz=>by have:=h.1.2.1;rw[z]at this;exact absurd this (by decide),h.1.2.2⟩
  | succ j=>exact g j x i (by simpa using h1) (by simpa using h2)
 | [],_::_,h=>h.elim
 | _::_,[],h=>h.elim
theorem g7{z:Type}{ms:List (Option Nat)}{σ:List (Option z)}{j:Nat}{v:z}(h:(jW ms σ)[j]?=some (some v)):∃i:Nat,ms[j]?=some (some i)/\σ[i]?=some (some v):=by
 unfold jW at h;rw[zaA]at h;obtain⟨o,B,q⟩:=map_some h;cases o with
 | none=>cases q
 | some i=>exact⟨i,B,uD q⟩
theorem LX{N:List Str}{ms:List (Option Nat)}(h:dP X scope N ms)(σ:L2.St):My.Start X N scope σ (jW ms σ):=by
 obtain⟨l,g⟩:=kN h;refine⟨by unfold jW;rw[zah];exact l,λj x v h1 h2 _=>?_⟩;obtain⟨i,z,q⟩:=g7 h2;obtain⟨a,b,c⟩:=g j x i h1 z;exact⟨b,i,a,q,c⟩
theorem ST.inner{E:List Fact}{O:List Nat}(s:ST H0 A0 A E O σ H ρ)(ms:List (Option Nat))(n:∀i,some i∈ms->i∉O):ST H0 A0 A E [] (jW ms σ) H (jW ms ρ) where
 ex:=s.ex
 sub:=s.sub
 l0:=s.l0
 live:=s.live
 len:=by simp[jW]
 val:=λj d h _=>by
  obtain⟨i,q,z⟩:=g7 h;obtain⟨v,B,r⟩:=s.val i d z (n i (zaw q));refine⟨v,?_,r⟩;unfold jW;rw[zaA,q];show some ((σ[i]?).join)=_;rw[B];rfl
 own:=λj d _ h=>nomatch h
 inj:=λi j d d' a hi=>nomatch hi
 ext:=s.ext
def bE(g:Gv)(c:Bv)(f:Ev):List D->cX->Option (List D)
 | [],_=>some []
 | x::xs,ρ=>(g x ρ).bind λρ1=>(c ρ1).bind λb=>if b=true then(f ρ1).bind λd=>(bE g c f xs ρ1).bind λds=>some (d::ds)else bE g c f xs ρ1
def d7(ms:List (Option Nat))(it:Lv)(g:Gv)(c:Bv)(f:Ev):Ev:=λρ=>(it ρ).bind λitems=>if a7 items.length then(bE g c f items (jW ms ρ)).map .lst else none
def fH:Bv:=λ_=>some true
theorem MJ:My.FZ X [] (tDT O fH):=λpins s σ H Q I ⟨H0,A0,A,E,ρ,b,st,e,q⟩=>My.RA pins s σ H Q I (by cases e;exact q H (Ext.refl _ _))
theorem L4(h:wB X O c g):My.FZ X [c] (tDT O g):=My.RU h
section
variable {X:Cx}{O:List Nat}
def GOk(Oi:List Nat)(g:Gv)(G:TG):Prop:=∀ {H0:Hp} {A0 A:Av} {E:List Fact} {σ:L2.St} {H:Hp} {ρ ρ':cX} {x:V} {d:D} {Q:L2.St->Hp->Prop},ST H0 A0 A E Oi σ H ρ->Rep A H d x->g d ρ=some ρ'->(∀q,ST H0 A0 A E Oi q H ρ'->(∀j∈Oi,q[j]?=σ[j]?/\ρ'[j]?=ρ[j]?)->Q q H)->G x σ H Q
theorem BZ(a6:dP X scope N ms)(ay:∀ {H0:Hp} {A0 A:Av} {E:List Fact} {σ:L2.St} {H:Hp} {ρ:cX},ST H0 A0 A E O σ H ρ->ST H0 A0 A E Oi (jW ms σ) H (jW ms ρ))(hG:GOk Oi g G)(σ:L2.St)(H:Hp)(Q:VK) :
  tF O (d7 ms it g c f) σ H Q->My.DA (tDI O it) G (tDT Oi c) (tD Rep Oi f) (My.Start X N scope) σ H Q:=λ⟨H0,A0,A,E,ρ,d,st,e,q⟩=>by
 obtain⟨items,e1,e⟩:=bind_some e;by_cases hz:a7 items.length=true
 case neg=>rw[if_neg hz]at e;cases e
 rw[if_pos hz]at e;obtain⟨ds,e2,rfl⟩:=map_some e;refine⟨jW ms σ,LX a6 σ,H0,A0,A,E,ρ,items,st,e1,λJ H1 E1 x1 a4 J1 D hD=>?_⟩;have s1:=ay ((st.mono x1).both a4);have nA:¬ A D:=λz=>s1.live D z hD
 have n0:H D=none:=x1.free hD
 -- the state of the block: the list that grows stands outside all that is borne
 refine⟨λi m ai us H2=>m=items.length-i/\i<=items.length/\∃ad done rest,ST H0 A0 (λb=>A b\/b=D) (E1++E) Oi ai H2 ad/\H2 D=some (.lst us)/\Ext A H H2/\RepL (λb=>A b\/b=D) H2 done us/\bE g c f (items.drop i) ad=some rest/\done++rest=ds/\done.length<=i/\∀j∈Oi,∀d a,ad[j]?=some (some d)->ai[j]?=some (some (.ref a))->a≠D,⟨items.length,by simp,zaJ _,jW ms ρ,[],ds,?_,aL,x1.trans (Ext.new hD),.nil,e2,rfl,zaj _,λj W d a h1 h2 z=>?_⟩,?_⟩
 ·have up:∀a,(A a\/a=D)->A a\/H1 a=none:=λa B=>B.imp id λz=>by rw[z];exact hD
  refine⟨s1.ex.trans (Ext.new hD),λa B=>.inl (s1.sub a B),s1.l0,λa B=>?_,s1.len,λi d h n=>?_,λi d h n=>?_,s1.inj,λp hp=>Fact.ext (Ext.new hD) (Fact.av up (s1.ext p hp))⟩
  ·rcases B with B|B
   ·rw[aG (λz=>by subst z;exact nA B)];exact s1.live a B
   ·subst B;rw[aL];exact λz=>nomatch z
  ·obtain⟨v,h1,h2⟩:=s1.val i d h n
   exact⟨v,h1,(h2.av up).ext (Ext.new hD)⟩
  ·obtain⟨a,h1,h2,h3,h4⟩:=s1.own i d h n
   exact⟨a,h1,.inl h2,h3,(h4.av up).ext (Ext.new hD) (.inl h2)⟩
 ·obtain⟨a',g1,g2,_⟩:=s1.own j d h1 W
  rw[h2]at g1;cases g1;exact nA (z ▸ g2)
 ·rintro i m ai us H2 ⟨rfl,bq,ad,done,rest,s2,aj,x2,ae,F,ed,a5,aK⟩
  obtain⟨al,go⟩:=J1 _ H2 s2.live (λp hp=>s2.ext p (zbt _ hp)) i;by_cases U:i<items.length
  ·have eg:items[i]?=some items[i]:=by simp[U]
   obtain⟨az,hy⟩:=go _ eg;rw[zdF U]at F;obtain⟨M,e3,F⟩:=bind_some F;obtain⟨b,e4,F⟩:=bind_some F;have ao:us.length<zal:=by
    rw[ae.length];exact zdr a5 (za0 U (hV hz))
   refine .inr ⟨az,ao,λx H3 y=>?_⟩;obtain⟨x3,r3⟩:=hy x H3 y;refine hG (s2.mono x3) r3 e3 λa3 s3 same=>⟨H0,A0,_,E1++E,M,b,s3,e4,λH5 x5=>?_⟩
   have aa:∀j∈Oi,∀d a,M[j]?=some (some d)->a3[j]?=some (some (.ref a))->a≠D:=λj W d a h1 h2=>aK j W d a (by rw[<- (same j W).2,h1]) (by rw[<- (same j W).1,h2])
   have ac:=x3.trans x5;have aq:H5 D=some (.lst us):=ac.ow D _ (.inr rfl) aj;have an:Ext A H H5:=x2.trans (ac.mono λa B=>.inl B);cases b with
   | false=>
    rw[if_neg zaC]at F;exact qbG ⟨aq,items.length-(i+1),by lia,rfl,U,M,done,rest,s3.mono x5,aq,an,ae.ext ac,F,ed,by lia,aa⟩
   | true=>
    rw[if_pos rfl]at F;refine qby ?_;obtain⟨d,e6,F⟩:=bind_some F;obtain⟨ah,e7,F⟩:=bind_some F;cases F;refine⟨H0,A0,_,E1++E,M,d,s3.mono x5,e6,λv H6 x6 r6=>?_⟩;have ap:=ac.trans x6;have Y:H6 D=some (.lst us):=ap.ow D _ (.inr rfl) aj;have s6:=s3.mono (x5.trans x6);refine⟨Y,items.length-(i+1),by lia,rfl,U,M,done++[d],ah,⟨s6.ex.upN (st.ex.free n0),s6.sub,s6.l0,λa B=>?_,s6.len,λi d h n=>?_,λi d h n=>?_,s6.inj,λp hp=>Fact.put (.inr rfl) Y trivial (s6.ext p hp)⟩,aL,(an.trans (x6.mono λa B=>.inl B)).upN n0,((ae.ext ap).append (.cons r6 .nil)).put (.inr rfl) Y trivial,e7,by rw[<- ed];simp,by rw[zbb];show done.length+1<=i+1;lia,aa⟩
    ·by_cases z:a=D
     ·subst z;rw[aL];exact λz=>nomatch z
     ·rw[aG z];exact s6.live a B
    ·obtain⟨v,h1,h2⟩:=s6.val i d h n
     exact⟨v,h1,h2.put (.inr rfl) Y trivial⟩
    ·obtain⟨a,h1,h2,h3,h4⟩:=s6.own i d h n
     exact⟨a,h1,h2,h3,h4.put (.inr rfl) Y trivial (aa i n d a h h1)⟩
  ·have ax:i=items.length:=by lia
   subst ax;rw[zej]at F;cases F;rw[zbw]at ed;subst ed;exact .inl ⟨al (zaj _),q D H2 x2 n0 nA (.lst aj ae)⟩
theorem uG(B:dP X scope N ms)(G:(ms.all λo=>match o with|some i=>!O.contains i|none=>true)=true)(σ:L2.St)(H:Hp)(Q:VK) :
  tF O (d7 ms it g c f) σ H Q->My.DA (tDI O it) (tDG [] g) (tDT [] c) (tD Rep [] f) (My.Start X N scope) σ H Q:=
 BZ B (λs=>s.inner ms λi hi z=>by
  have:=List.all_eq_true.mp G _ hi;simp only[Bool.not_eq_true']at this;have J:O.contains i=true:=by simpa using z
  rw[J]at this;cases this) (λs r e q=>⟨_,_,_,_,_,_,_,s,r,e,λF M=>q F M λj h=>nomatch h⟩) σ H Q
theorem RB
  (J:X.calm=true) (z:My.Clo X N scope cl) (q:dP X scope N ms) (B:(ms.all λo=>match o with|some i=>!O.contains i|none=>true)=true) (hi:PDI X O tg iter it) (M:∀C s H fp,DF (My.aY X N scope cl C s H fp) [] tg g)
  (G:∀C s H fp,My.FZ (My.aY X N scope cl C s H fp) ifs (tDT [] c)) (F:∀C s H fp,PD (My.aY X N scope cl C s H fp) [] elt f) (hs:∀x,zba iter X.env x=pure x:=by intro _;rfl) :
  PF X O (.ListComp elt [⟨tg,iter,ifs,0⟩] scope pos) (d7 ms it g c f):=PE.mono (My.HR J z hi M G F hs) (uG q B)
def aE(n:Nat)(ds:List D):cX:=ds.map some++zcp (n-ds.length) none
def bB(n:Nat)(f:Sv)(ds:List D):Option D:=(f (aE n ds)).bind λo=>match o with
 | .rt d=>some d
 | .nx _=>some .non
 | _=>none
theorem ST.begun(q:Live A H)(r:RepL A H ds vs):ST H A A [] [] (L2.start N vs) H (aE N.length ds) where
 ex:=Ext.refl _ _
 sub:=λ_ h=>h
 l0:=q
 live:=q
 len:=by unfold L2.start aE;simp[r.length]
 val:=λi d h _=>by
  unfold aE at h;by_cases hi:i<ds.length
  ·rw[zd0 (by simpa using hi),zaA]at h
   obtain⟨d',B,G⟩:=map_some h;cases G;obtain⟨v,z,r3⟩:=r.get' B;refine⟨v,?_,r3⟩;unfold L2.start;rw[zd0 (by rw[zah,r.length];exact hi),zaA,z];rfl
  ·rw[zdi (by simpa using hi),List.getElem?_replicate]at h
   split at h <;> cases h
 own:=λi d _ h=>nomatch h
 inj:=λi j d d' a hi=>nomatch hi
 ext:=λp F=>nomatch F
theorem C4{P:zai}{w:World}{K:zae}{mg:Str->Option Value}{base:Heap}{x:Str}{st:Stmt}{N ps:List Str}{k:Nat}{f:Sv}{O':List Nat}(W:My.DefAt K mg x st ps)(S:FnScope N ps (aO st))
  (h:∀(G:Addr) (B:Value) (A:zao) (z:List Env) (s:zad) (H:Hp) (E:XK),Room k (A.deeper (zaO x (aO st) s.heap.objs.size G B))->∃g,eO (jZ wC P w K mg base N x (aO st) G B A z s H E).nox ⟨[],[]⟩ [] (bU st) g O'/\g=f) :
  Fn P w K mg base x (k+1) ps (bB N.length f):=by
 refine My.BodyOk.ok (λG B A z s H vs Q E U hsp=>?_) W S (λvs H Q E hsp=>by obtain⟨A,ds,d,_,_,e,_⟩:=hsp;exact e);obtain⟨J,ds,d,lv,r,e,Y,q⟩:=hsp;obtain⟨o,eo,F⟩:=bind_some Y;obtain⟨g,hg,rfl⟩:=h G B A z s H E U;refine⟨_,hg,H,J,J,[],_,o,ST.begun lv r,eo,?_⟩;cases o with
 | nx ρ=>cases F;exact λA2 ad H2 s2=>q .non H2 s2.ex .non
 | rt d'=>cases F;exact λv H2 M r2=>q v H2 M r2
 | bk _=>cases F
 | ct _=>cases F
noncomputable def O5(K:zae):Bool:=K.all λp=>match p.2.cls with
 | .type "list" => false
 | _=>true
theorem J3{K:zae}(h:O5 K=true){a:Addr}{o:Obj}(e:K.lookup a=some o):o.cls≠.type "list" := λz=>by
 have m:∀ {K:zae},K.lookup a=some o->(a,o)∈K:=by
  intro K;induction K with
  | nil=>intro e;cases e
  | cons p r ih=>
   intro e;rw[zb2]at e;by_cases q:(a == p.1)=true
   ·rw[q]at e;cases e;rw[show a=p.1 by simpa using q];exact zar ..
   ·rw[zdG]at q;rw[q]at e;exact zap _ (ih e)
 have:=List.all_eq_true.mp h _ (m e);dsimp only at this;rw[z]at this;exact absurd this (by decide)
theorem X5{P:zai}{w:World}{K:zae}{mg:Str->Option Value}{base:Heap}{st:Stmt}{N:List Str}{k:Nat}{f:Sv}{O':List Nat}(hK:O5 K=true)
  (h:∀(M:Addr) (F:Value) (A:zao) (B:List Env) (s:zad) (H:Hp) (E:XK),Room k (A.deeper (zaO "law" (aO st) s.heap.objs.size M F))->∃g,eO (jZ wC P w K mg base N "law" (aO st) M F A B s H E).nox ⟨[],[]⟩ [] (bU st) g O'/\g=f)
  (W:∀ns:List Int,ns.length<=63->bB N.length f [.lst (ns.map .int)]=some (.bl true)):My.BodyOk P w K mg base "law" st N k (My.C3 K):=by
 refine λM F A B s H vs Q E hr hsp=>?_
 obtain⟨a,ns,rfl,U,Y,q⟩:=hsp;have hR:Rd H a (.lst (ns.map V.int)):=by
  rcases U with U|⟨o,_,_,e,c,_⟩
  ·exact U
  ·exact absurd c (J3 hK e)
 have lv:Live (λ_=>False) H:=λa h=>h.elim
 have G:∀ns:List Int,RepL (λ_=>False) H (ns.map .int) (ns.map V.int):=λns=>by
  induction ns with
  | nil=>exact .nil
  | cons n ns ih=>exact .cons (.int n) ih
 obtain⟨o,eo,J⟩:=bind_some (W ns Y);obtain⟨g,hg,rfl⟩:=h M F A B s H E hr;refine⟨_,hg,H,λ_=>False,λ_=>False,[],_,o,ST.begun lv (.cons (.lst (λz=>z) hR (G ns)) .nil),eo,?_⟩;cases o with
 | nx ρ=>cases J
 | rt d'=>cases J;exact λv H2 x2 r2=>by cases r2;exact q _
 | bk _=>cases J
 | ct _=>cases J
end
mutual
def jT:D->Option My.Dx
 | .non=>some .non
 | .bl b=>some (.bl b)
 | .int i=>some (.int i)
 | .str x=>some (.str x)
 | .tup l=>(jY l).map .tup
 | .lst l=>(jY l).map .lst
 | .dK _=>none
 | .dT _=>none
 | .ob _ _=>none
 | .mem _ _=>none
def jY:List D->Option (List My.Dx)
 | []=>some []
 | d::ds=>(jT d).bind λx=>(jY ds).bind λxs=>some (x::xs)
end
mutual
theorem oR:∀ {d e:D} {x:My.Dx},jT d=some x->jT e=some x->d=e
 | .non,e,x,h,k=>by cases h;cases e <;> simp[jT]at k <;> first|rfl|(obtain⟨_,_,z⟩:=k;cases z)
 | .bl b,e,x,h,k=>by cases h;cases e <;> simp[jT]at k <;> first|(rw[k])|(obtain⟨_,_,z⟩:=k;cases z)
 | .int b,e,x,h,k=>by cases h;cases e <;> simp[jT]at k <;> first|(rw[k])|(obtain⟨_,_,z⟩:=k;cases z)
 | .str b,e,x,h,k=>by cases h;cases e <;> simp[jT]at k <;> first|(rw[k])|(obtain⟨_,_,z⟩:=k;cases z)
 | .tup l,e,x,h,k=>by
  rw[jT]at h;obtain⟨xs,h1,rfl⟩:=map_some h;cases e with
  | tup m=>
   rw[jT]at k;obtain⟨ys,k1,k2⟩:=map_some k;cases k2;rw[uV h1 k1]
  | lst m=>rw[jT]at k;obtain⟨ys,k1,k2⟩:=map_some k;cases k2
  | _=>simp[jT]at k
 | .lst l,e,x,h,k=>by
  rw[jT]at h;obtain⟨xs,h1,rfl⟩:=map_some h;cases e with
  | lst m=>
   rw[jT]at k;obtain⟨ys,k1,k2⟩:=map_some k;cases k2;rw[uV h1 k1]
  | tup m=>rw[jT]at k;obtain⟨ys,k1,k2⟩:=map_some k;cases k2
  | _=>simp[jT]at k
 | .dK _,e,x,h,k=>by rw[jT]at h;cases h
 | .dT _,e,x,h,k=>by rw[jT]at h;cases h
 | .ob _ _,e,x,h,k=>by rw[jT]at h;cases h
 | .mem _ _,e,x,h,k=>by rw[jT]at h;cases h
theorem uV:∀ {d e:List D} {x:List My.Dx},jY d=some x->jY e=some x->d=e
 | [],e,x,h,k=>by
  rw[jY]at h;cases h;cases e with
  | nil=>rfl
  | cons e es=>
   rw[jY]at k;obtain⟨_,_,k⟩:=bind_some k;obtain⟨_,_,k⟩:=bind_some k;cases k
 | d::ds,e,x,h,k=>by
  rw[jY]at h;obtain⟨y,h1,h⟩:=bind_some h;obtain⟨ys,h2,h⟩:=bind_some h;cases h;cases e with
  | nil=>rw[jY]at k;cases k
  | cons e es=>
   rw[jY]at k;obtain⟨z,k1,k⟩:=bind_some k;obtain⟨zs,k2,k⟩:=bind_some k;cases k;rw[oR h1 k1,uV h2 k2]
end
mutual
theorem rP{K:zae}{A:Av}{H:Hp}:∀ {d:D} {x:My.Dx} {v:V},jT d=some x->Rep A H d v->My.Rep K H x v
 | .non,x,v,h,r=>by cases h;cases r;rw[My.Rep]
 | .bl b,x,v,h,r=>by cases h;cases r;rw[My.Rep]
 | .int b,x,v,h,r=>by cases h;cases r;rw[My.Rep]
 | .str b,x,v,h,r=>by cases h;cases r;rw[My.Rep]
 | .tup l,x,v,h,r=>by
  rw[jT]at h;obtain⟨xs,h1,rfl⟩:=map_some h;cases r with
  | tup hh rl=>rw[My.Rep];exact⟨_,_,rfl,.inl (.inl hh),oC h1 rl⟩
 | .lst l,x,v,h,r=>by
  rw[jT]at h;obtain⟨xs,h1,rfl⟩:=map_some h;cases r with
  | lst n hh rl=>rw[My.Rep];exact⟨_,_,rfl,.inl hh,oC h1 rl⟩
 | .dK _,x,v,h,r=>by rw[jT]at h;cases h
 | .dT _,x,v,h,r=>by rw[jT]at h;cases h
theorem oC{K:zae}{A:Av}{H:Hp}:∀ {d:List D} {x:List My.Dx} {v:List V},jY d=some x->RepL A H d v->My.RepL K H x v
 | [],x,v,h,r=>by rw[jY]at h;cases h;cases r;rw[My.RepL]
 | d::ds,x,v,h,r=>by
  rw[jY]at h;obtain⟨y,h1,h⟩:=bind_some h;obtain⟨ys,h2,h⟩:=bind_some h;cases h;cases r with
  | cons r rs=>rw[My.RepL];exact⟨_,_,rfl,rP h1 r,oC h2 rs⟩
end
theorem iQ{K:zae}{A:Av}{H:Hp}{d:D}{x:My.Dx}{v:V}(h:jT d=some x)(r:RepB A H d v):My.Rep K H x v:=by
 cases r with
 | of r=>exact rP h r
 | lst hh rl=>
  rw[jT]at h;obtain⟨xs,h1,rfl⟩:=map_some h;rw[My.Rep];exact⟨_,_,rfl,.inl hh,oC h1 rl⟩
 | dK=>rw[jT]at h;cases h
 | dT=>rw[jT]at h;cases h
def fL(d:D):Bool:=match jT d with
 | some x=>x.nb && decide (x.dep<=60)
 | none=>false
noncomputable def ZC:D->Bool
 | .tup _=>true | .lst _=>true|_=>false
noncomputable def V7:D->D->Bool
 | .non,.non=>true | .non,.int _=>true | .int _,.non=>true | .non,.bl _=>true | .bl _,.non=>true | .non,.str _=>true | .str _,.non=>true
 | .int _,.int _=>true | .bl _,.bl _=>true | .str _,.str _=>true
 | .int _,.str _=>true | .str _,.int _=>true | .bl _,.str _=>true | .str _,.bl _=>true
 | _,_=>false
open Classical in
def LK(d e:D):Option Bool:=if V7 d e=true\/(ZC d=true/\ZC e=true/\fL d=true/\fL e=true)then some (decide (d=e))else none
def iG(d e:D):Option D:=(LK d e).map .bl
def zZ(d e:D):Option D:=(LK d e).map λb=>.bl (!b)
theorem O6(h:V7 d e=true)(r:RepB A H d v)(s:RepB A H e w):Y9 v w=true/\(v=w↔d=e):=by
 cases d with
 | non=>have:=r.non_inv;subst this;cases e <;> first|exact ff h|(have:=s.non_inv;subst this;exact⟨rfl,by simp⟩)|(have:=s.int_inv;subst this;exact⟨rfl,by simp⟩)|(have:=s.bl_inv;subst this;exact⟨rfl,by simp⟩)|(have:=s.str_inv;subst this;exact⟨rfl,by simp⟩)
 | int i=>have:=r.int_inv;subst this;cases e <;> first|exact ff h|(have:=s.non_inv;subst this;exact⟨rfl,by simp⟩)|(have:=s.int_inv;subst this;exact⟨rfl,by simp⟩)|(have:=s.bl_inv;subst this;exact⟨rfl,by simp⟩)|(have:=s.str_inv;subst this;exact⟨rfl,by simp⟩)
 | bl b=>have:=r.bl_inv;subst this;cases e <;> first|exact ff h|(have:=s.non_inv;subst this;exact⟨rfl,by simp⟩)|(have:=s.int_inv;subst this;exact⟨rfl,by simp⟩)|(have:=s.bl_inv;subst this;exact⟨rfl,by simp⟩)|(have:=s.str_inv;subst this;exact⟨rfl,by simp⟩)
 | str x=>have:=r.str_inv;subst this;cases e <;> first|exact ff h|(have:=s.non_inv;subst this;exact⟨rfl,by simp⟩)|(have:=s.int_inv;subst this;exact⟨rfl,by simp⟩)|(have:=s.bl_inv;subst this;exact⟨rfl,by simp⟩)|(have:=s.str_inv;subst this;exact⟨rfl,by simp⟩)
 | _=>exact ff h
section
variable {X:Cx}{O:List Nat}
theorem OpR.orM(h:OpR X f r)(h':OpR X f r')(x:∀a b H Q,r2 a b H Q->r a b H Q\/r' a b H Q):OpR X f r2:=OpR.mono (OpR.or h h') x
theorem lH(h:fL d=true):∃x,jT d=some x/\x.nb=true/\x.dep<=60:=by
 unfold fL at h;cases e:jT d with
 | none=>rw[e]at h;cases h
 | some x=>rw[e]at h;simp only[zaS,decide_eq_true_eq]at h;exact⟨x,rfl,h.1,h.2⟩
theorem IW(h:ZC d=true)(e:jT d=some x):x.seq=true:=by
 cases d with
 | tup l=>rw[jT]at e;obtain⟨xs,_,rfl⟩:=map_some e;rfl
 | lst l=>rw[jT]at e;obtain⟨xs,_,rfl⟩:=map_some e;rfl
 | _=>exact ff h
set_option tactic.hygienic true in
theorem VU(hu:X.A.units+64<cLine):mE X (zaB .Eq) iG:=OpR.orM qaC (My.XU hu) <| by
 rintro x y H Q ⟨A,dx,N,d,lv,U,W,e,q⟩;obtain⟨b,F,rfl⟩:=map_some e;unfold LK at F;split at F
 case isFalse=>cases F
 rename_i hc;cases F;rcases hc with hs|⟨Y,s2,k1,k2⟩
 ·left
  obtain⟨h1,h2⟩:=O6 hs U W;refine⟨h1,?_⟩;have:decide (x=y)=@decide (dx=N) (zcf _):=decide_eq_decide.mpr h2;rw[this];exact q _ H (Ext.refl _ _) (.bl _)
 ·right
  obtain⟨M,G,a2,a3⟩:=lH k1;obtain⟨J,B,b2,b3⟩:=lH k2;refine⟨M,J,iQ G U,iQ B W,IW Y G,IW s2 B,a2,b2,a3,?_⟩;have:@decide (M=J) (zcf _)=@decide (dx=N) (zcf _):=decide_eq_decide.mpr ⟨λz=>oR G (z ▸ B),λz=>by subst z;rw[G]at B;exact zay B⟩;show Q (.bl (@decide (M=J) (zcf _))) H;rw[this];exact q _ H (Ext.refl _ _) (.bl _)
set_option tactic.hygienic true in
theorem qaa(hu:X.A.units+64<cLine):mE X (zaB .NotEq) zZ:=OpR.orM ZZ (My.W0 hu) <| by
 rintro x y H Q ⟨A,dx,N,d,lv,U,W,e,q⟩;obtain⟨b,F,rfl⟩:=map_some e;unfold LK at F;split at F
 case isFalse=>cases F
 rename_i hc;cases F;rcases hc with hs|⟨Y,s2,k1,k2⟩
 ·left
  obtain⟨h1,h2⟩:=O6 hs U W;refine⟨h1,?_⟩;have:decide (x=y)=@decide (dx=N) (zcf _):=decide_eq_decide.mpr h2;rw[this];exact q _ H (Ext.refl _ _) (.bl _)
 ·right
  obtain⟨M,G,a2,a3⟩:=lH k1;obtain⟨J,B,b2,b3⟩:=lH k2;refine⟨M,J,iQ G U,iQ B W,IW Y G,IW s2 B,a2,b2,a3,?_⟩;have:@decide (M=J) (zcf _)=@decide (dx=N) (zcf _):=decide_eq_decide.mpr ⟨λz=>oR G (z ▸ B),λz=>by subst z;rw[G]at B;exact zay B⟩;show Q (.bl (!@decide (M=J) (zcf _))) H;rw[this];exact q _ H (Ext.refl _ _) (.bl _)
noncomputable def hW:D->Bool
 | .non=>true|_=>false
def U3(d e:D):Option D:=if hW e then some (.bl (hW d))else none
def IT(d e:D):Option D:=if hW e then some (.bl (!hW d))else none
theorem GA(r:RepB A H d v):decide (v=.non)=hW d:=by
 cases d with
 | non=>have:=r.non_inv;subst this;rfl
 | bl b=>have:=r.bl_inv;subst this;rfl
 | int b=>have:=r.int_inv;subst this;rfl
 | str b=>have:=r.str_inv;subst this;rfl
 | tup l=>obtain⟨_,_,rfl,_⟩:=r.tup_inv;rfl
 | lst l=>obtain⟨_,_,rfl,_⟩:=r.lst_inv;rfl
 | dK l=>obtain⟨_,_,rfl,_⟩:=r.dK_inv;rfl
 | dT l=>obtain⟨_,_,rfl,_⟩:=r.dT_inv;rfl
 | ob C l=>obtain⟨_,_,_,rfl,_⟩:=r.ob_inv;rfl
 | mem d f=>obtain⟨_,rfl,_⟩:=r.mem_inv;rfl
theorem XA:mE X (zaB .Is) U3:=OpR.mono YI <| by
 rintro x y H Q ⟨A,dx,F,d,G,z,B,e,q⟩;unfold U3 at e;cases F with
 | non=>cases e;have:=B.non_inv;subst this;exact⟨rfl,by rw[GA z];exact q _ H (Ext.refl _ _) (.bl _)⟩
 | _=>exact nn e
theorem S8:mE X (zaB .IsNot) IT:=OpR.mono R5 <| by
 rintro x y H Q ⟨A,dx,F,d,G,z,B,e,q⟩;unfold IT at e;cases F with
 | non=>cases e;have:=B.non_inv;subst this;exact⟨rfl,by rw[GA z];exact q _ H (Ext.refl _ _) (.bl _)⟩
 | _=>exact nn e
theorem Inv.lstR(I:Inv X pins σ H s)(z:Rd H l (.lst xs)):xs.length<=zal/\∃(q:List Value) (n:Nat),Vals xs q/\xs.length=q.length/\s.heap.get? l=some {cls:=.type "list",data:=.seq q.toArray n}:=by
 obtain⟨B,q,n,r,e⟩:=(show ObjOk X.prog X.w H s.heap l (.lst xs)from z.ok I.hok);exact⟨B,q,n,r,r.length,e⟩
def Z4:R2:=λx y H Q=>∃l b xs zs,x=.ref l/\y=.ref b/\Rd H l (.lst xs)/\Rd H b (.lst zs)/\xs.length+zs.length<=zal/\∀p,H p=none->Q (.ref p) (upd H p (.lst (xs++zs)))
theorem T9:OpR X (zaN .Add) Z4:=by
 intro pins s σ H x y v u Q I Y J h;obtain⟨l,b,xs,zs,rfl,rfl,G,W,hz,q⟩:=h;cases Y;cases J;obtain⟨z,F,n,r,hl,e⟩:=Inv.lstR I G;obtain⟨z2,B,n2,r2,M,N⟩:=Inv.lstR I W;refine PySem.P.add_list e N ?_ (by rw[zax,zax];lia);have U:F.toArray++B.toArray=(F++B).toArray:=by simp
 rw[U];exact⟨.ref _,_,I.lnew (t':=s.toks) (r.append r2) (by rw[zbb];lia),rfl,q _ I.fresh⟩
end
section
variable {X:Cx}{O:List Nat}
theorem RepL.nil_iff(r:RepL A H ds vs):vs=[]↔ds=[]:=by cases r <;> simp
def xP:D->D->Option D
 | .int i,.int j=>some (.int (i+j))
 | .str i,.str j=>if a7 (i.length+j.length)then some (.str (i++j))else none
 | .lst l,.lst m=>if a7 (l.length+m.length)then some (.lst (l++m))else none
 | .tup (a::l),.tup m=>if a7 (l.length+1+m.length)then some (.tup (a::l++m))else none
 | _,_=>none
theorem W9:mE X (zaN .Add) xP:=OpR.mono (OpR.or (OpR.or WQ DR) (OpR.or T9 SQ)) <| by
 rintro x y H Q ⟨A,dx,G,d,N,J,M,e,q⟩;cases dx with
 | int i=>
  cases G with
  | int j=>cases e;have:=J.int_inv;subst this;have:=M.int_inv;subst this;exact .inl (.inl ⟨i,j,rfl,rfl,q _ H (Ext.refl _ _) (.int _)⟩)
  | _=>exact nn e
 | str i=>
  cases G with
  | str j=>
   simp only[xP]at e;by_cases B:a7 (i.length+j.length)=true
   ·rw[if_pos B]at e;cases e;have:=J.str_inv;subst this;have:=M.str_inv;subst this
    exact .inl (.inr ⟨i,j,rfl,rfl,hV B,q _ H (Ext.refl _ _) (.str _)⟩)
   ·rw[if_neg B]at e;cases e
  | _=>exact nn e
 | lst l=>
  cases G with
  | lst m=>
   simp only[xP]at e;by_cases B:a7 (l.length+m.length)=true
   ·rw[if_pos B]at e;cases e
    obtain⟨a,xs,rfl,h1,r1⟩:=J.lst_inv;obtain⟨b,ys,rfl,h2,r2⟩:=M.lst_inv;exact .inr (.inl ⟨a,b,xs,ys,rfl,rfl,h1,h2,by rw[r1.length,r2.length];exact hV B,λp F=>q _ _ (Ext.new F) (.lst (λz=>N p z F) (.inl aL) ((r1.append r2).ext (Ext.new F)))⟩)
   ·rw[if_neg B]at e;cases e
  | _=>exact nn e
 | tup l=>
  cases l with
  | nil=>cases G <;> exact nn e
  | cons a0 l=>
   cases G with
   | tup m=>
    simp only[xP]at e;by_cases B:a7 (l.length+1+m.length)=true
    ·rw[if_pos B]at e;cases e
     obtain⟨a,xs,rfl,h1,r1⟩:=J.tup_inv;obtain⟨b,ys,rfl,h2,r2⟩:=M.tup_inv;refine .inr (.inr ⟨a,b,xs,ys,rfl,rfl,.inl (.inl h1),.inl (.inl h2),λz=>(by have:=r1.nil_iff.mp z;cases this),by rw[r1.length,r2.length];exact hV B,λz=>?_,λ_ p F=>q _ _ (Ext.new F) (.tup aL ((r1.append r2).ext (Ext.new F)))⟩);refine q _ H (Ext.refl _ _) (.tup h1 ?_);have:=r2.nil_iff.mp z;subst this;rw[zbw];exact r1
    ·rw[if_neg B]at e;cases e
   | _=>exact nn e
 | _=>exact nn e
noncomputable def jK:List D->Option (List Int)
 | []=>some []
 | .int i::ds=>(jK ds).map (i::·)
 | _=>none
theorem gM:∀ {ds:List D} {ns:List Int} {vs:List V},jK ds=some ns->RepL A H ds vs->vs=ns.map V.int
 | [],ns,vs,h,r=>by cases h;cases r;rfl
 | .int i::ds,ns,vs,h,r=>by
  obtain⟨ms,h1,rfl⟩:=map_some h;cases r with
  | cons r rs=>cases r;rw[gM h1 rs];rfl
def dLt:D->D->Option D
 | .int i,.int j=>some (.bl (decide (i<j)))
 | .tup l,.tup m=>(jK l).bind λns=>(jK m).map λms=>.bl (HT.lexLt ns ms)
 | _,_=>none
theorem X2(G:X.A.units<cLine):mE X (zaB .Lt) dLt:=OpR.mono (OpR.or ql (YZ G)) <| by
 rintro x y H Q ⟨A,dx,B,d,N,z,F,e,q⟩;cases dx with
 | int i=>
  cases B with
  | int j=>cases e;have:=z.int_inv;subst this;have:=F.int_inv;subst this;exact .inl ⟨i,j,rfl,rfl,q _ H (Ext.refl _ _) (.bl _)⟩
  | _=>exact nn e
 | tup l=>
  cases B with
  | tup m=>
   obtain⟨ns,J,e⟩:=bind_some e;obtain⟨ms,M,rfl⟩:=map_some e;obtain⟨a,xs,rfl,h1,r1⟩:=z.tup_inv;obtain⟨b,ys,rfl,h2,r2⟩:=F.tup_inv;have:=gM J r1;subst this;have:=gM M r2;subst this;exact .inr ⟨a,b,ns,ms,rfl,rfl,.inl (.inl h1),.inl (.inl h2),q _ H (Ext.refl _ _) (.bl _)⟩
  | _=>exact nn e
 | _=>exact nn e
open Classical in
def UX(x y:D):Option Bool:=match y with
 | .dK _=>(oU y x).map (·.isSome)
 | .dT _=>(oU y x).map (·.isSome)
 | .lst l=>if fL x=true/\l.all fL=true then some (l.any λd=>decide (d=x))else none
 | .tup l=>if fL x=true/\l.all fL=true then some (l.any λd=>decide (d=x))else none
 | _=>none
def zR(x y:D):Option D:=(UX x y).map λb=>.bl (!b)
open Classical in
theorem A5(I:Inv X pins σ H s)(hu:Ar.units+60<cLine)(kx:fL x=true)(rx:RepB A H x v)(ru:RelV v u)(kl:l.all fL=true)(rl:RepL A H l xs)(Y:Vals xs B) :
  ∃f:Value->Bool,(∀y∈B,zcR Ar s y u (f y))/\B.any f=l.any λd=>decide (d=x):=by
 obtain⟨F,G,a2,a3⟩:=lH kx;have J:My.Rep X.K H F v:=iQ G rx;let g:Value->Bool:=λy=>decide (∃w z,RelV w y/\My.Rep X.K H z w/\z=F)
 have one:∀ {d:D} {w:V} {y:Value},fL d=true->Rep A H d w->RelV w y->g y=decide (d=x)/\zcR Ar s y u (g y):=by
  intro d w y kd rd W;obtain⟨z,U,b2,b3⟩:=lH kd;have M:My.Rep X.K H z w:=rP U rd;have e:g y=decide (z=F):=by
   refine decide_eq_decide.mpr ⟨λ⟨w',z',q1,q2,q3⟩=>?_,λe=>⟨w,z,W,M,e⟩⟩;have:=RelV.inj W q1;subst this;rw[My.Rep.inj I _ _ _ M q2,q3]
  have N:decide (z=F)=decide (d=x):=decide_eq_decide.mpr ⟨λq=>oR U (q ▸ G),λq=>by subst q;rw[U]at G;exact zay G⟩;refine⟨e.trans N,?_⟩;rw[e];exact My.rQ I 60 Ar z F w v y u b3 hu b2 a2 M J W ru
 refine⟨g,?_,?_⟩
 ·intro y hy
  obtain⟨j,hj⟩:=List.mem_iff_getElem?.mp hy;have ad:=Y.length;have aj:j<B.length:=(List.getElem?_eq_some_iff.mp hj).1;have hx:xs[j]?=some (xs[j]'(by lia)):=zaP (by lia);obtain⟨u',e1,r1⟩:=Y.get hx;rw[hj]at e1;cases e1;obtain⟨d,N,r2⟩:=rl.get hx;exact(one (List.all_eq_true.mp kl _ (zaw N)) r2 r1).2
 ·have all:∀(l:List D) (xs:List V) (B:List Value),l.all fL=true->RepL A H l xs->Vals xs B->B.any g=l.any λd=>decide (d=x):=by
   intro l;induction l with
   | nil=>intro xs B _ r v;cases r;cases v;rfl
   | cons d l ih=>
    intro xs B k r v;cases r with
    | cons h t=>
     cases v with
     | cons r rs=>
      rw[List.all_cons,zaS]at k;rw[zcc,zcc,(one k.1 h r).1,ih _ _ k.2 t rs]
  exact all l xs B kl rl Y
open Classical in
theorem RH(I:Inv X pins σ H s)(hu:Ar.units+60<cLine)(kx:fL x=true)(rx:RepB A H x v)(ru:RelV v u)(kl:l.all fL=true)(rl:RepL A H l xs)(rv:Vals xs its) :
  ∃f:Value->Bool,(∀y∈its,zcR Ar s y u (f y))/\∀(j:Nat) (d:D) (y:Value),l[j]?=some d->its[j]?=some y->f y=decide (d=x):=by
 obtain⟨F,G,a2,a3⟩:=lH kx;have M:My.Rep X.K H F v:=iQ G rx;let g:Value->Bool:=λy=>decide (∃w z,RelV w y/\My.Rep X.K H z w/\z=F)
 have one:∀ {d:D} {w:V} {y:Value},fL d=true->Rep A H d w->RelV w y->g y=decide (d=x)/\zcR Ar s y u (g y):=by
  intro d w y kd rd Y;obtain⟨z,U,b2,b3⟩:=lH kd;have N:My.Rep X.K H z w:=rP U rd;have e:g y=decide (z=F):=by
   refine decide_eq_decide.mpr ⟨λ⟨w',z',q1,q2,q3⟩=>?_,λe=>⟨w,z,Y,N,e⟩⟩;have:=RelV.inj Y q1;subst this;rw[My.Rep.inj I _ _ _ N q2,q3]
  have B:decide (z=F)=decide (d=x):=decide_eq_decide.mpr ⟨λq=>oR U (q ▸ G),λq=>by subst q;rw[U]at G;exact zay G⟩;refine⟨e.trans B,?_⟩;rw[e];exact My.rQ I 60 Ar z F w v y u b3 hu b2 a2 N M Y ru
 refine⟨g,?_,?_⟩
 ·intro y W
  obtain⟨j,hj⟩:=List.mem_iff_getElem?.mp W;have ae:=rv.length;have aj:j<its.length:=(List.getElem?_eq_some_iff.mp hj).1;have hx:xs[j]?=some (xs[j]'(by lia)):=zaP (by lia);obtain⟨u',J,r1⟩:=rv.get hx;rw[hj]at J;cases J;obtain⟨d,B,r2⟩:=rl.get hx;exact(one (List.all_eq_true.mp kl _ (zaw B)) r2 r1).2
 ·intro j d y hd W
  obtain⟨w,J,r1⟩:=rl.get' hd;obtain⟨u',B,r2⟩:=rv.get J;rw[W]at B;cases B;exact(one (List.all_eq_true.mp kl _ (zaw hd)) r1 r2).1
set_option tactic.hygienic true in
theorem NX(hu:X.A.units+64<cLine):mE X (zaB .NotIn) zR:=by
 intro pins s σ H x y v u Q I M J h;obtain⟨A,dx,dy,d,lv,W,U,e,q⟩:=h;obtain⟨b,z,rfl⟩:=map_some e;have fin:∀k,k=(!b)->EP X pins σ Q (.bool k) s:=λk hk=>⟨.bl (!b),H,I,by rw[hk];rfl,q _ H (Ext.refl _ _) (.bl _)⟩
 have Y:X.A.units+1<cLine:=by lia
 have dict:∀o,oU dy dx=some o->o.isSome=b->wpAny (model X.prog X.w) X.A (zaB .NotIn v u) (EP X pins σ Q) X.xe s:=λo B F=>by
  obtain⟨a,ov,rfl,_,g,e3⟩:=uW B U W;cases J;refine UQ Y I g M λs' I'=>⟨.bl (!b),H,I',?_,q _ H (Ext.refl _ _) (.bl _)⟩
  have:ov.isSome=b:=by rw[<- F];rcases e3 with⟨rfl,rfl⟩|⟨_,_,rfl,rfl,_⟩ <;> rfl
  rw[this];rfl
 cases dy with
 | dK l=>obtain⟨o,B,F⟩:=map_some z;exact dict o B F
 | dT l=>obtain⟨o,B,F⟩:=map_some z;exact dict o B F
 | lst l=>
  simp only[UX]at z;split at z
  case isFalse=>cases z
  rename_i hc;cases z;obtain⟨a,xs,rfl,h1,r1⟩:=U.lst_inv;cases J;obtain⟨G,r,N,hz⟩:=I.list (.inl h1);obtain⟨f,f1,f2⟩:=A5 (Ar:=X.A.in1) I (by show X.A.units+1+60<cLine;lia) hc.1 W M hc.2 r1 r;refine SeqAt.notIn_listAt f (My.PlainL.isList N) (λw hw=>f1 w (by simpa using hw)) (fin _ ?_);rw[<- f2];simp
 | tup l=>
  simp only[UX]at z;split at z
  case isFalse=>cases z
  rename_i hc;cases z;obtain⟨a,xs,rfl,h1,r1⟩:=U.tup_inv;cases J;obtain⟨G,r,N,hz⟩:=I.tuple (.inl (.inl h1));obtain⟨f,f1,f2⟩:=A5 (Ar:=X.A.in1) I (by show X.A.units+1+60<cLine;lia) hc.1 W M hc.2 r1 r;refine SeqAt.notIn_tupleAt f N (λw hw=>f1 w (by simpa using hw)) (fin _ ?_);rw[<- f2];simp
 | _=>cases z
def fV:List D->Option D
 | [.lst l]=>some (.int l.length)
 | [.tup l]=>some (.int l.length)
 | [.str z]=>if a7 z.length then some (.int z.length)else none
 | [.dK l]=>some (.int l.length)
 | _=>none
theorem WS:jU X (.builtin "len") fV:=by
 intro pins s σ H xs F Q I r h;obtain⟨A,ds,d,W,B,e,q⟩:=h
 match ds,B,e with
 | [.lst l],B,e=>
  cases e;obtain⟨v,rfl,h1⟩:=B.one;obtain⟨a,xs,rfl,h2,r2⟩:=h1.lst_inv;exact uN pins s σ H _ F Q I r ⟨_,_,rfl,.inl ⟨xs,.inl h2,rfl⟩,by rw[r2.length];exact q _ H (Ext.refl _ _) (.int _)⟩
 | [.tup l],B,e=>
  cases e;obtain⟨v,rfl,h1⟩:=B.one;obtain⟨a,xs,rfl,h2,r2⟩:=h1.tup_inv;exact uN pins s σ H _ F Q I r ⟨_,_,rfl,.inr ⟨xs,.inl (.inl h2),rfl⟩,by rw[r2.length];exact q _ H (Ext.refl _ _) (.int _)⟩
 | [.str z],B,e=>
  simp only[fV]at e;by_cases G:a7 z.length=true
  ·rw[if_pos G]at e;cases e
   obtain⟨v,rfl,h1⟩:=B.one;have:=h1.str_inv;subst this;exact uN pins s σ H _ F Q I r ⟨_,_,rfl,⟨hV G,rfl⟩,q _ H (Ext.refl _ _) (.int _)⟩
  ·rw[if_neg G]at e;cases e
 | [.dK l],B,e=>
  cases e;obtain⟨v,rfl,h1⟩:=B.one;obtain⟨a,xs,rfl,h2,N,r2⟩:=h1.dK_inv;obtain⟨u,rfl,M⟩:=vals1 r;cases M;have J:xs.length=l.length:=by have:=congrArg zbl N;simpa using this
  exact qad I h2 λt s' U=>⟨.int xs.length,H,U,⟨t,rfl⟩,by rw[J];exact q _ H (Ext.refl _ _) (.int _)⟩
 | [],_,e=>cases e
 | [.non],_,e=>cases e
 | [.bl _],_,e=>cases e
 | [.int _],_,e=>cases e
 | [.dT _],_,e=>cases e
 | _::_::_,_,e=>simp[fV]at e
noncomputable def CY:List D->Option D
 | [.int i,.int j]=>some (.int (if j<i then j else i))
 | _=>none
noncomputable def C0:List D->Option D
 | [.int i,.int j]=>some (.int (if j>i then j else i))
 | _=>none
theorem CJ{ds:List D}{g:Int->Int->D}(h:(match ds with|[.int i,.int j]=>some (g i j)|_=>none)=some d):∃i j,ds=[.int i,.int j]/\d=g i j:=by
 split at h
 ·cases h;exact⟨_,_,rfl,rfl⟩
 ·cases h
theorem SY(z:X.calm=true):jU X (.builtin "min") CY:=CallR.mono (KY z) <| by
 rintro xs H Q ⟨A,ds,d,B,r,e,q⟩;obtain⟨i,j,rfl,rfl⟩:=CJ (g:=λi j=>.int (if j<i then j else i)) e;obtain⟨v,w,rfl,h1,h2⟩:=r.two;have:=h1.int_inv;subst this;have:=h2.int_inv;subst this;exact⟨i,j,rfl,q _ H (Ext.refl _ _) (.int _)⟩
theorem HN(z:X.calm=true):jU X (.builtin "max") C0:=CallR.mono (KD z) <| by
 rintro xs H Q ⟨A,ds,d,B,r,e,q⟩;obtain⟨i,j,rfl,rfl⟩:=CJ (g:=λi j=>.int (if j>i then j else i)) e;obtain⟨v,w,rfl,h1,h2⟩:=r.two;have:=h1.int_inv;subst this;have:=h2.int_inv;subst this;exact⟨i,j,rfl,q _ H (Ext.refl _ _) (.int _)⟩
noncomputable def jO:List D->Option D
 | [.lst l]=>some (.tup l)
 | [.tup l]=>some (.tup l)
 | _=>none
noncomputable def C8:List D->Option D
 | [.lst l]=>some (.lst l)
 | [.tup l]=>some (.lst l)
 | _=>none
theorem F6{ds:List D}{g:List D->D}(h:(match ds with|[.lst l]=>some (g l)|[.tup l]=>some (g l)|_=>none)=some d):∃l,(ds=[.lst l]\/ds=[.tup l])/\d=g l:=by
 split at h
 ·cases h;exact⟨_,.inl rfl,rfl⟩
 ·cases h;exact⟨_,.inr rfl,rfl⟩
 ·cases h
theorem k9:jU X (.type "tuple") jO:=CallR.mono vZ <| by
 rintro xs H Q ⟨A,ds,d,F,r,e,q⟩;obtain⟨l,B,rfl⟩:=F6 (g:=.tup) e;rcases B with rfl|rfl
 ·obtain⟨v,rfl,h1⟩:=r.one
  obtain⟨a,xs,rfl,h2,r2⟩:=h1.lst_inv;exact⟨a,xs,rfl,.inl ⟨.inl h2,λp z=>q _ _ (Ext.new z) (.tup aL (r2.ext (Ext.new z)))⟩⟩
 ·obtain⟨v,rfl,h1⟩:=r.one
  obtain⟨a,xs,rfl,h2,r2⟩:=h1.tup_inv;exact⟨a,xs,rfl,.inr ⟨.inl (.inl h2),q _ H (Ext.refl _ _) (.tup h2 r2)⟩⟩
theorem TB:II X (.type "list") C8:=CallR.mono yB <| by
 rintro xs H Q ⟨A,ds,d,F,r,e,q⟩;obtain⟨l,G,rfl⟩:=F6 (g:=.lst) e;rcases G with rfl|rfl
 ·obtain⟨v,rfl,h1⟩:=r.one
  obtain⟨a,xs,rfl,h2,r2⟩:=h1.lst_inv;exact⟨a,xs,rfl,.inl (.inl h2),λp B=>q p _ (Ext.new B) B (λz=>F p z B) (.lst aL (r2.fresh B))⟩
 ·obtain⟨v,rfl,h1⟩:=r.one
  obtain⟨a,xs,rfl,h2,r2⟩:=h1.tup_inv;exact⟨a,xs,rfl,.inr (.inl (.inl h2)),λp B=>q p _ (Ext.new B) B (λz=>F p z B) (.lst aL (r2.fresh B))⟩
end
section
variable {X:Cx}{O:List Nat}
def tyN:D->String
 | .non => "NoneType" | .bl _ => "bool" | .int _ => "int" | .str _ => "str" | .tup _ => "tuple" | .lst _ => "list" | .dK _ => "dict" | .dT _ => "dict" | .ob _ _ => "" | .mem _ _ => ""
def vU:D->Bool
 | .ob _ _=>false | .mem _ _=>false|_=>true
def qbx(K:zae):List V->Hp->VK->Prop:=λxs H Q=>∃A d x n b,xs=[x,.ty n]/\vU d=true/\RepB A H d x/\zde K (.type (tyN d)) (.type n)=some b/\Q (.bl b) H
theorem M6:CallR X (.builtin "isinstance") (qbx X.K):=by
 intro pins s σ H xs J Q I r h;obtain⟨A,d,x,n,b,rfl,G,B,e,q⟩:=h;have F:∀t,TyOf X.K H x t->t=.type (tyN d)->wpAny (model X.prog X.w) X.A (call (.builtin "isinstance") J) (EP X pins σ Q) X.xe s:=λt M U=>by
  subst U;exact My.N5 pins s σ H _ J Q I r ⟨x,n,_,b,rfl,M,e,q⟩
 cases d with
 | non=>have:=B.non_inv;subst this;exact F _ .non rfl
 | bl c=>have:=B.bl_inv;subst this;exact F _ (.bl c) rfl
 | int c=>have:=B.int_inv;subst this;exact F _ (.int c) rfl
 | str c=>have:=B.str_inv;subst this;exact F _ (.str c) rfl
 | tup l=>obtain⟨a,xs,rfl,h1,_⟩:=B.tup_inv;exact F _ (.tup h1) rfl
 | lst l=>
  obtain⟨a,xs,rfl,h1,_⟩:=B.lst_inv;rcases h1 with h1|⟨o,h1⟩
  ·exact F _ (.lst h1) rfl
  ·exact F _ (.frz h1) rfl
 | dK l=>
  obtain⟨a,xs,rfl,h1,_⟩:=B.dK_inv;obtain⟨u,N,rfl,r1,r2⟩:=vals2 r;cases r1;cases r2;obtain⟨_,_,vs,_,p⟩:=(show ObjOk X.prog X.w H s.heap a (.dK xs)from h1.ok I.hok);obtain⟨o,es,ep,h1,h2,_⟩:=p;exact zbk zdf I.kIn ⟨o,h1,h2.1⟩ e (λz=>nomatch z) λtk=>⟨.bl b,H,I.tok tk,rfl,q⟩
 | dT l=>
  obtain⟨a,xs,rfl,h1,_⟩:=B.dT_inv;obtain⟨u,N,rfl,r1,r2⟩:=vals2 r;cases r1;cases r2;obtain⟨_,_,xs,_,o,es,ep,h1,h2,_⟩:=(show ObjOk X.prog X.w H s.heap a (.dT xs)from h1.ok I.hok);exact zbk zdf I.kIn ⟨o,h1,h2.1⟩ e (λz=>nomatch z) λtk=>⟨.bl b,H,I.tok tk,rfl,q⟩
 | ob _ _=>cases G
 | mem _ _=>cases G
noncomputable def FX(n:String)(d:D):Bool:=match d with
 | .non=>false
 | .bl _=>n == "bool" || n == "int"
 | .int _=>n == "int"
 | .str _=>n == "str"
 | .tup _=>n == "tuple"
 | .lst _=>n == "list"
 | .dK _=>n == "dict"
 | .dT _=>n == "dict"
 | _=>false
def Kit(n:String):Prop:=∀(K:zae) (d:D),vU d=true->zde K (.type (tyN d)) (.type n)=some (FX n d)
theorem SN:Kit "int" := λK d h=>by cases d <;> first|rfl|cases h
theorem N4:Kit "bool" := λK d h=>by cases d <;> first|rfl|cases h
theorem T7:Kit "str" := λK d h=>by cases d <;> first|rfl|cases h
theorem kit_tuple:Kit "tuple" := λK d h=>by cases d <;> first|rfl|cases h
def LA(n:String)(f:Ev):Ev:=λρ=>(f ρ).bind λd=>if vU d=true then some (.bl (FX n d))else none
theorem zL(F:Kit n)(Y:Gl X "isinstance")(W:X.mg "isinstance" = none)(B:Gl X x)(G:X.mg x=none)(J:zaG x=some (.type n))(U:PB X O e f)(z:x ≠ "__name__" := by decide)(hd:(x == ("__debug__" : Str))=false:=by decide)
  (h1:zag [e,.Name x p2] X.env=(false,eval e X.env)::zag [.Name x p2] X.env:=by rfl) (h2:(zaH pos (zag [.Name x p2] X.env)).any (·.1)=false:=by rfl) (N:zag [.Name x p2] X.env=(false,eval (.Name x p2) X.env)::zag [] X.env:=by rfl) :
  PD X O (.Call (.Name "isinstance" p) [e,.Name x p2] [] pos) (LA n f):=
 PE.mono (BJ M6 Y W My.boot_isinstance (cR U (cR (RQ (v:=.ty n) B G J rfl z hd) fT N) h1) (by decide) (by decide) h1 h2) <| by
  rintro σ H Q ⟨H0,A0,A,E,ρ,d,st,e,q⟩;obtain⟨x,ex,e⟩:=bind_some e;by_cases z:vU x=true
  ·rw[if_pos z]at e
   cases e;exact⟨H0,A0,A,E,ρ,x,st,ex,λv H1 M r1=>⟨A,x,v,n,_,rfl,z,r1,F _ _ z,q _ H1 M (.bl _)⟩⟩
  ·rw[if_neg z]at e;cases e
def ins{α:Type}(p:List Int×α):List (List Int×α)->List (List Int×α)
 | []=>[p]
 | q::r=>if HT.lexLt p.1 q.1=true then p::q::r else q::ins p r
def V1(g:D->Option D)(f:Ev):Ev:=λρ=>(f ρ).bind g
end
def FN:D->Option Int->Option Int->Option D
 | .tup l,lo,hi=>some (.tup (cutD l lo hi))
 | .lst l,lo,hi=>some (.lst (cutD l lo hi))
 | _,_,_=>none
theorem qbJ:SlR X (rS FN):=SlR.mono (SlR.or qb0 (SlR.mono qbR λx lo hi H Q (h:rS qaT x lo hi H Q)=>by
  obtain⟨A,dx,d,B,z,e,q⟩:=h;exact⟨A,dx,d,B,z,e,λa H' x n G o=>q _ H' x ((o.av (A':=A) λb F=>.inl (.inl F)).rep G)⟩)) λx lo hi H Q ⟨A,dx,d,B,z,e,q⟩=>by
 cases dx with
 | tup l=>exact .inl ⟨A,_,d,B,z,e,q⟩
 | lst l=>exact .inr ⟨A,_,d,B,z,e,q⟩
 | _=>exact nn e
section
variable {ρ:cX}{f g:Ev}{d x y:D}{i j:Int}{k:Nat}
@[simp] theorem q_seq{f g:Sv}:dA f g ρ=(f ρ).bind λo=>match o with | .nx ρ'=>g ρ'|o=>some o:=rfl
@[simp] theorem q_set:eE k f ρ=(f ρ).map λd=>.nx (ρ.set k (some d)):=rfl
@[simp] theorem q_if{c:Bv}{f g:Sv}:zX c f g ρ=(c ρ).bind λb=>if b=true then f ρ else g ρ:=rfl
@[simp] theorem q_rt:LM f ρ=(f ρ).map .rt:=rfl
@[simp] theorem q_nx:VF ρ=some (.nx ρ):=rfl
@[simp] theorem q_bad:VA ρ=none:=rfl
@[simp] theorem q_asg{g:Gv}:U2 f g ρ=(f ρ).bind λd=>(g d ρ).map .nx:=rfl
@[simp] theorem q_for{f:Lv}{g:Gv}{b:Sv}:zW f g b ρ=(f ρ).bind λitems=>lM g b items ρ:=rfl
@[simp] theorem q_app:LC k f ρ=(aD k ρ).bind λx=>match x with
 | .lst l=>(f ρ).bind λd=>if a7 l.length then some (.nx (ρ.set k (some (.lst (l++[d])))))else none
 | _=>none:=rfl
@[simp] theorem q_put:FQ k f g ρ=(g ρ).bind λe=>(aD k ρ).bind λx=>(f ρ).bind λq=>(nE x q e).map λd=>.nx (ρ.set k (some d)):=rfl
@[simp] theorem q_var:aD k ρ=(ρ[k]?).join:=rfl
@[simp] theorem q_c:eC d ρ=some d:=rfl
@[simp] theorem q_op:bC o f g ρ=(f ρ).bind λx=>(g ρ).bind λy=>o x y:=rfl
@[simp] theorem q_call:aT F l ρ=(l ρ).bind F:=rfl
@[simp] theorem q_lnil:aZ ρ=some []:=rfl
@[simp] theorem q_lcons:aC f l ρ=(f ρ).bind λx=>(l ρ).bind λxs=>some (x::xs):=rfl
@[simp] theorem q_tup:fK l ρ=(l ρ).map .tup:=rfl
@[simp] theorem q_lst:QK l ρ=(l ρ).map .lst:=rfl
@[simp] theorem q_bind:V1 o f ρ=(f ρ).bind o:=rfl
@[simp] theorem q_bof:rK f ρ=(f ρ).bind QY:=rfl
@[simp] theorem q_asB:QY (.bl b)=some b:=rfl
@[simp] theorem q_asI:asI (.int i)=some i:=rfl
@[simp] theorem q_bnot:QL c ρ=(c ρ).map (!·):=rfl
@[simp] theorem q_band:LB a b ρ=(a ρ).bind λx=>if x=true then b ρ else some false:=rfl
@[simp] theorem q_bor:VI a b ρ=(a ρ).bind λx=>if x=true then some true else b ρ:=rfl
@[simp] theorem q_and:QO f g ρ=(f ρ).bind λx=>(QY x).bind λb=>if b=true then g ρ else some (.bl false):=rfl
@[simp] theorem q_or:eOr f g ρ=(f ρ).bind λx=>(QY x).bind λb=>if b=true then some (.bl true)else g ρ:=rfl
@[simp] theorem q_not:qa7 f ρ=(f ρ).bind λx=>(QY x).map λb=>.bl (!b):=rfl
@[simp] theorem q_ifx:eIf c f g ρ=(c ρ).bind λb=>if b=true then f ρ else g ρ:=rfl
@[simp] theorem q_isi:LA n f ρ=(f ρ).bind λd=>if vU d=true then some (.bl (FX n d))else none:=rfl
@[simp] theorem no_int:vU (.int i)=true:=rfl
@[simp] theorem no_tup{l:List D}:vU (.tup l)=true:=rfl
@[simp] theorem no_lst{l:List D}:vU (.lst l)=true:=rfl
@[simp] theorem no_bl{b:Bool}:vU (.bl b)=true:=rfl
@[simp] theorem no_str{x:Str}:vU (.str x)=true:=rfl
@[simp] theorem no_non:vU .non=true:=rfl
@[simp] theorem q_sl:eSl o f a b ρ=(f ρ).bind λx=>(a ρ).bind λlo=>(b ρ).bind λhi=>o x lo hi:=rfl
@[simp] theorem q_oN:VW ρ=some none:=rfl
@[simp] theorem q_oS:IQ f ρ=(f ρ).bind λd=>(asI d).map some:=rfl
@[simp] theorem q_lR:lR o l ρ=(l ρ).bind o:=rfl
@[simp] theorem q_lSeq:QU f ρ=(f ρ).bind λd=>match d with
 | .lst l=>some l
 | .tup l=>some l
 | .dT l=>some (l.map λp=>.tup (p.1.map LG))
 | _=>none:=rfl
@[simp] theorem q_comp{ms:List (Option Nat)}{it:Lv}{g:Gv}{c:Bv}:d7 ms it g c f ρ=(it ρ).bind λitems=>if a7 items.length then(bE g c f items (jW ms ρ)).map .lst else none:=rfl
@[simp] theorem q_yes:fH ρ=some true:=rfl
@[simp] theorem q_name:aR k d ρ=some (ρ.set k (some d)):=rfl
@[simp] theorem q_gnil:rB [] ρ=some ρ:=rfl
@[simp] theorem q_gcons{g:Gv}{h:WE}{ds:List D}:dI g h (d::ds) ρ=(g d ρ).bind λρ'=>h ds ρ':=rfl
@[simp] theorem q_gtup:lJ n h (.tup l) ρ=if l.length=n then h l ρ else none:=rfl
@[simp] theorem q_sub:qa3 (.int i) (.int j)=some (.int (i-j)):=rfl
@[simp] theorem q_addI:xP (.int i) (.int j)=some (.int (i+j)):=rfl
@[simp] theorem q_ltI:dLt (.int i) (.int j)=some (.bl (decide (i<j))):=rfl
@[simp] theorem q_gtI:DD (.int i) (.int j)=some (.bl (decide (j<i))):=rfl
@[simp] theorem q_geI:qaS (.int i) (.int j)=some (.bl (decide (j<=i))):=rfl
@[simp] theorem q_eqI:iG (.int i) (.int j)=some (.bl (decide (i=j))):=by
 unfold iG LK;rw[if_pos (.inl rfl)];simp
@[simp] theorem q_neI:zZ (.int i) (.int j)=some (.bl (!decide (i=j))):=by
 unfold zZ LK;rw[if_pos (.inl rfl)];simp
@[simp] theorem q_eqB:iG (.bl a) (.bl b)=some (.bl (decide (a=b))):=by
 unfold iG LK;rw[if_pos (.inl rfl)];simp
@[simp] theorem q_neB:zZ (.bl a) (.bl b)=some (.bl (!decide (a=b))):=by
 unfold zZ LK;rw[if_pos (.inl rfl)];simp
theorem bO(h:0<j):dM (.int i) (.int j)=some (.int (i%j)):=if_pos h
theorem iS(h:0<j)(h2:j<1073741824):iU (.int i) (.int j)=some (.int (i/j)):=if_pos ⟨h,h2⟩
theorem qp(h:My.FV i j):IN (.int i) (.int j)=some (.int (i*j)):=if_pos h
theorem IM(h:0<=j)(h2:j<=1000000)(q:i.natAbs<2^64):QT (.int i) (.int j)=some (.int (i^j.toNat)):=if_pos ⟨h,h2,q⟩
@[simp] theorem q_isN:U3 d .non=some (.bl (hW d)):=rfl
@[simp] theorem q_notN:IT d .non=some (.bl (!hW d)):=rfl
@[simp] theorem q_lenL:fV [.lst l]=some (.int l.length):=rfl
@[simp] theorem q_lenT:fV [.tup l]=some (.int l.length):=rfl
@[simp] theorem q_min:CY [.int i,.int j]=some (.int (if j<i then j else i)):=rfl
@[simp] theorem q_max:C0 [.int i,.int j]=some (.int (if j>i then j else i)):=rfl
@[simp] theorem q_tuL:jO [.lst l]=some (.tup l):=rfl
@[simp] theorem q_tuT:jO [.tup l]=some (.tup l):=rfl
@[simp] theorem q_liL:C8 [.lst l]=some (.lst l):=rfl
@[simp] theorem q_liT:C8 [.tup l]=some (.lst l):=rfl
@[simp] theorem q_slT{l:List D}{lo hi:Option Int}:FN (.tup l) lo hi=some (.tup (cutD l lo hi)):=rfl
@[simp] theorem q_slL{l:List D}{lo hi:Option Int}:FN (.lst l) lo hi=some (.lst (cutD l lo hi)):=rfl
@[simp] theorem q_itL:aI (.lst l) (.int i)=gE l i:=rfl
@[simp] theorem q_itT:aI (.tup l) (.int i)=gE l i:=rfl
@[simp] theorem q_itD:aI (.dT l) d=(oU (.dT l) d).join:=rfl
@[simp] theorem isi_int_int:FX "int" (.int i)=true:=rfl
@[simp] theorem isi_bool_int:FX "bool" (.int i)=false:=rfl
@[simp] theorem isi_tuple_tup:FX "tuple" (.tup l)=true:=rfl
@[simp] theorem isi_list_lst:FX "list" (.lst l)=true:=rfl
end
def turn(g:Gv)(b:Sv)(x:D):Sv:=λρ=>(g x ρ).bind b
theorem zQ(I:Nat->cX->Prop)(W:I 0 ρ)(hs:∀i x ρ,items[i]?=some x->I i ρ->∃ρ',turn g b x ρ=some (.nx ρ')/\I (i+1) ρ'):∃ρ',lM g b items ρ=some (.nx ρ')/\I items.length ρ':=by
 have B:∀(m:List D) (k:Nat) (ρ:cX),items.drop k=m->k<=items.length->I k ρ->∃ρ',lM g b m ρ=some (.nx ρ')/\I items.length ρ':=by
  intro m;induction m with
  | nil=>
   intro k ρ e N h;have:items.length<=k:=by rw[List.drop_eq_nil_iff]at e;exact e
   have:k=items.length:=by lia
   subst this;exact⟨ρ,rfl,h⟩
  | cons x m ih=>
   intro k ρ e N h;have q:k<items.length:=by
    rcases Nat.lt_or_ge k items.length with z|z
    ·exact z
    ·rw[List.drop_eq_nil_iff.mpr z]at e;cases e
   rw[zdF q]at e;injection e with e1 e2
   obtain⟨ρ',h1,h2⟩:=hs k x ρ (by rw[<- e1];simp[q]) h;obtain⟨G,M,Y⟩:=ih (k+1) ρ' e2 q h2;refine⟨G,?_,Y⟩;unfold turn at h1;obtain⟨F,U,J⟩:=bind_some h1;unfold lM;rw[U];show(b F).bind _=_;rw[J];exact M
 exact B items 0 ρ rfl (zaJ _) W
theorem aF(h:f (aE n ds)=some (.rt d)):bB n f ds=some d:=by
 unfold bB;rw[h];rfl
theorem aH(h:f ρ=some (.nx ρ')):dA f g ρ=g ρ':=by
 unfold dA;rw[h];rfl
theorem uY(h:f ρ=some (.rt d)):dA f g ρ=some (.rt d):=by
 unfold dA;rw[h];rfl
theorem qaY(h:c ρ=some true):zX c f g ρ=f ρ:=by
 unfold zX;rw[h];rfl
theorem qaJ(h:c ρ=some false):zX c f g ρ=g ρ:=by
 unfold zX;rw[h];rfl
theorem aN(h:f ρ=some d):eE k f ρ=some (.nx (ρ.set k (some d))):=by
 unfold eE;rw[h];rfl
theorem qb2(h:f ρ=some d):LM f ρ=some (.rt d):=by
 unfold LM;rw[h];rfl
theorem gK{f:Lv}{g:Gv}{b rest:Sv}{ρ:cX}{items:List D}{out:Option Out}(q:f ρ=some items)(I:Nat->cX->Prop)(z:I 0 ρ)(hs:∀i x ρ,items[i]?=some x->I i ρ->∃ρ',turn g b x ρ=some (.nx ρ')/\I (i+1) ρ')(k:∀ρ',I items.length ρ'->rest ρ'=out):dA (zW f g b) rest ρ=out:=by
 obtain⟨ρ',e,h⟩:=zQ (g:=g) (b:=b) I z hs;rw[aH (by rw[q_for,q];exact e)];exact k ρ' h
open My (look put X7 qa4 qat)
noncomputable def tupI(k:List Int):D:=.tup (k.map .int)
theorem wR:∀k:List Int,QQ (k.map .int)=some (k.map zbq)
 | []=>rfl
 | i::k=>by rw[zak,QQ,wR k];rfl
@[simp] theorem asT_tupI(k:List Int):WB (tupI k)=some (k.map zbq):=wR k
theorem B3{q:Type}{f:q->D}{g:q->My.Dx}(h:∀a,jT (f a)=some (g a)):∀l:List q,jY (l.map f)=some (l.map g)
 | []=>rfl
 | a::l=>by rw[zak,jY,h a,B3 h l];rfl
theorem gO{ns:List Int}{k:Int}(z:0<=k)(h:k<(ns.length:Int)):∃c,gE (ns.map D.int) k=some (.int c)/\ns[k.toNat]?=some c:=by
 obtain⟨j,rfl⟩:∃j:Nat,k=(j:Int):=⟨k.toNat,by lia⟩;have q:j<ns.length:=by lia
 exact⟨ns[j],bV (by simp[q]),by simp[q]⟩
noncomputable def hZ:D->Option (List D)
 | .lst l=>some l
 | .tup l=>some l
 | _=>none
noncomputable def iT:List D->List D->List D
 | x::xs,y::ys=>.tup [x,y]::iT xs ys
 | _,_=>[]
def UZ(f:Lv):Lv:=λρ=>(f ρ).bind λds=>match ds with
 | [a,b]=>(hZ a).bind λxs=>(hZ b).map λys=>iT xs ys
 | _=>none
theorem BE:∀ {xs ys:List D} {i:Nat} {d:D},(iT xs ys)[i]?=some d->∃x y,xs[i]?=some x/\ys[i]?=some y/\d=.tup [x,y]
 | [],_,i,d,h=>by simp[iT]at h
 | _::_,[],i,d,h=>by simp[iT]at h
 | x::xs,y::ys,0,d,h=>by simp[iT]at h;exact⟨x,y,rfl,rfl,h.symm⟩
 | x::xs,y::ys,i+1,d,h=>BE (xs:=xs) (ys:=ys) (i:=i) (by simpa[iT]using h)
theorem BN:∀ {xs ys:List D} {i:Nat},(iT xs ys).length<=i->xs.length<=i\/ys.length<=i
 | [],_,i,_=>.inl (zaJ _)
 | _::_,[],i,_=>.inr (zaJ _)
 | x::xs,y::ys,0,h=>by simp[iT]at h
 | x::xs,y::ys,i+1,h=>(BN (xs:=xs) (ys:=ys) (i:=i) (by simpa[iT]using h)).imp (λz=>by simpa using z) λz=>by simpa using z
theorem yT{A:Av}{H:Hp}{K:zae}{d:D}{l:List D}{v:V}(h:hZ d=some l)(r:Rep A H d v):∃t a xs,v=.ref a/\My.DG K t H a xs/\RepL A H l xs/\∀A' H',Rep A' H' d v->∃ys,My.DG K t H' a ys/\RepL A' H' l ys:=by
 cases d with
 | lst m=>
  cases h;obtain⟨a,xs,rfl,h1,r1⟩:=RepB.lst_inv (.of r);refine⟨false,a,xs,rfl,.inl h1,r1,λA' H' q=>?_⟩;obtain⟨z,ys,e,h2,r2⟩:=RepB.lst_inv (.of q);cases e;exact⟨ys,.inl h2,r2⟩
 | tup m=>
  cases h;obtain⟨a,xs,rfl,h1,r1⟩:=RepB.tup_inv (.of r);refine⟨true,a,xs,rfl,.inl (.inl h1),r1,λA' H' q=>?_⟩;obtain⟨z,ys,e,h2,r2⟩:=RepB.tup_inv (.of q);cases e;exact⟨ys,.inl (.inl h2),r2⟩
 | _=>exact nn h
set_option tactic.hygienic true in
theorem RC{X:Cx}{O:List Nat}{J:List Expr}{x1}{tp:Pos}{a b:Expr}{f:Lv}{p pos:Pos}(hg:Gl X "zip")(hm:X.mg "zip" = none)(ha:DE X O [a,b] f)(hs:zag [a,b] X.env=[(false,eval a X.env),(false,eval b X.env)]:=by rfl)(Y:zag [b] X.env=[(false,eval b X.env)]:=by rfl) :
  PDI X O (.Tuple J x1 tp) (.Call (.Name "zip" p) [a,b] [] pos) (UZ f):=PI.mono (My.X9 hg hm ha hs Y) λσ H R ⟨H0,A0,A,E,ρ,items,st,e,q⟩=>by
 obtain⟨ds,e1,e⟩:=bind_some e;refine⟨H0,A0,A,E,ρ,ds,st,e1,λvs H1 x1 r1=>?_⟩;split at e
 case h_2=>cases e
 rename_i da db;obtain⟨xs,e2,e⟩:=bind_some e;obtain⟨ys,e3,rfl⟩:=map_some e;obtain⟨v,w,rfl,r2,r3⟩:=r1.two;obtain⟨t1,N,us,rfl,q1,_,k1⟩:=yT (K:=X.K) e2 r2;obtain⟨t2,U,ws,rfl,q2,_,k2⟩:=yT (K:=X.K) e3 r3;refine⟨t1,t2,N,U,us,ws,rfl,q1,q2,q _ H1 [.rep da (.ref N),.rep db (.ref U)] x1 (λp hp=>?_) ?_⟩
 ·rcases List.mem_cons.mp hp with z|z
  ·rw[z];exact r2
  ·rw[List.mem_singleton.mp z];exact r3
 ·intro A' H' lv hE i
  have a1:Rep A' H' da (.ref N):=hE (.rep da (.ref N)) (zar ..);have a2:Rep A' H' db (.ref U):=hE (.rep db (.ref U)) (zap _ (zar ..));obtain⟨F,g1,M⟩:=k1 A' H' a1;obtain⟨B,g2,G⟩:=k2 A' H' a2;refine⟨λhi=>⟨F,B,g1,g2,(BN hi).imp (λz=>by rw[M.length];exact z) λz=>by rw[G.length];exact z⟩,λd hd=>?_⟩;obtain⟨x,y,ex,ey,rfl⟩:=BE hd;obtain⟨u,eu,ru⟩:=M.get' ex;obtain⟨w,ew,W⟩:=G.get' ey;refine⟨⟨F,B,g1,g2,(List.getElem?_eq_some_iff.mp eu).1,(List.getElem?_eq_some_iff.mp ew).1⟩,λx' H2 ⟨p,u',w',e4,n,e5,e6⟩=>?_⟩;subst e4 e5;obtain⟨z1,z2⟩:=e6 F B g1 g2;rw[eu]at z1;cases z1;rw[ew]at z2;cases z2;exact⟨Ext.new n,.tup aL (.cons (ru.ext (Ext.new n)) (.cons (W.ext (Ext.new n)) .nil))⟩
@[simp] theorem q_zip:UZ f ρ=(f ρ).bind λds=>match ds with
 | [a,b]=>(hZ a).bind λxs=>(hZ b).map λys=>iT xs ys
 | _=>none:=rfl
@[simp] theorem q_seqL:hZ (.lst l)=some l:=rfl
@[simp] theorem q_seqT:hZ (.tup l)=some l:=rfl
theorem E8(h1:-A<a)(h2:a<A)(F:-B<b)(z:b<B):-(A*B)<a*b/\a*b<A*B:=by
 have e:(a*b).natAbs<(A*B).natAbs:=by
  rw[Int.natAbs_mul,Int.natAbs_mul];exact Nat.mul_lt_mul_of_lt_of_le (by lia) (by lia) (by lia)
 have q:0<=A*B:=zcW (by lia) (by lia)
 lia
end P
namespace P
theorem JM(vs:List Int):fL (.lst (vs.map .int))=true/\fL (.tup (vs.map .int))=true:=by
 have e:jY (vs.map D.int)=some (vs.map My.Dx.int):=B3 (g:=My.Dx.int) (λ_=>rfl) vs;have n:=My.S5 vs;have d:=My.ND vs;constructor
 ·unfold fL
  rw[jT,e];show(My.Dx.nb _ && decide (My.Dx.dep _<=60))=true;rw[My.Dx.nb,My.Dx.dep,n,Bool.true_and];exact decide_eq_true (by lia)
 ·unfold fL
  rw[jT,e];show(My.Dx.nb _ && decide (My.Dx.dep _<=60))=true;rw[My.Dx.nb,My.Dx.dep,n,Bool.true_and];exact decide_eq_true (by lia)
noncomputable def pick{α:Type}(l:List α)(lo hi st:Option Int):List α:=(sliceRange (zbL lo hi st l.length).1 (zbL lo hi st l.length).2.1 (zbL lo hi st l.length).2.2).filterMap (l[·]?)
section
variable {X:Cx}{O:List Nat}
open Classical in
def mY(d x:D):Option D:=match d with
 | .lst l=>if fL x=true/\l.all fL=true/\a7 l.length=true then(l.findIdx? λy=>decide (y=x)).map λ(j:Nat)=>.int (j:Int)else none
 | _=>none
set_option tactic.hygienic true in
open Classical in
theorem N6(hu:X.A.units+64<cLine):MtM X "list.index" (λv vs H Q=>∃A d x y d',vs=[y]/\Live A H/\RepB A H d v/\RepB A H x y/\mY d x=some d'/\∀v H',Ext A H H'->Rep A H' d' v->Q v H'):=by
 intro pins s σ H v vs u us Q I rv ru h;obtain⟨A,d,x,y,d',rfl,lv,rd,rx,e,q⟩:=h;obtain⟨w,rfl,W⟩:=ru.one;cases d with
 | lst l=>
  simp only[mY]at e;split at e
  case isFalse=>cases e
  rename_i hc;obtain⟨j,ej,rfl⟩:=map_some e;obtain⟨a,xs,rfl,h1,r1⟩:=rd.lst_inv;cases rv;obtain⟨_,B,n,r,J,eo⟩:=Inv.lstR I h1;obtain⟨f,f1,f2⟩:=RH (Ar:=X.A.in1) I (by show X.A.units+1+60<cLine;lia) hc.1 rx W hc.2.1 r1 r;obtain⟨hj,Y,aa⟩:=List.findIdx?_eq_some_iff_getElem.mp ej;have G:j<B.length:=by rw[<- J,r1.length];exact hj
  have hsz:=hV hc.2.2;have ab:(j:Int)<2^63-1:=by
   have:(zal:Nat)<2^62:=by decide
   lia
  refine zcD F.slot_list_index ⟨_,eo,rfl⟩ F.entry_list_index (F.args_list_index_2 _ _) (PySem.SeqAt.list_indexAt a B.toArray n none #[] w f j (by simpa using G) ab ?_ ?_) ⟨eo,λz hz=>f1 z (by simpa using hz),?_⟩
  ·rw[f2 j _ _ (zaP hj) (by simp[G])]
   exact Y
  ·intro m hm N
   have M:m<l.length:=by lia
   have U:m<B.length:=by simpa using hm
   rw[f2 m _ _ (zaP M) (by simp[U])];have:=aa m N;simpa using this
  ·exact⟨.int j,H,I.tok _,⟨_,rfl⟩,q _ H (Ext.refl _ _) (.int _)⟩
 | _=>exact nn e
theorem L3(J:X.A.units+64<cLine)(G:PB X O o f)(N:PB X O e g)
  (U:∀ {r:V->List V->Hp->VK->Prop} {to:TE} {t:TA},MtR X "list.index" r->PE X o to->PA X [e] t->PE X (.Call (.Attribute o "index" apos) [e] [] cpos) (ZP X.K "list" r to t)) (hs:zag [e] X.env=(false,eval e X.env)::zag [] X.env:=by rfl) :
  PD X O (.Call (.Attribute o "index" apos) [e] [] cpos) (bC mY f g):=PE.mono (U (N6 J) G (cR N fT hs)) λσ H Q ⟨H0,A0,A,E,ρ,d,st,e,q⟩=>by
 obtain⟨x,ex,e⟩:=bind_some e;obtain⟨y,F,e⟩:=bind_some e;refine⟨H0,A0,A,E,ρ,x,st,ex,λv H1 B r1=>⟨?_,H0,A0,A,E,ρ,y,st.mono B,F,λw H2 z r2=>⟨A,x,y,w,d,rfl,(st.mono (B.trans z)).live,r1.ext z,r2,e,λv M W r3=>q v M ((B.trans z).trans W) r3⟩⟩⟩;cases x with
 | lst l=>obtain⟨a,xs,rfl,h1,_⟩:=r1.lst_inv;exact .inl ⟨rfl,xs,.inl h1⟩
 | _=>exact nn e
end
end P
namespace My
open PySem.SeqAt
section
variable {X:Cx}
theorem Inv.gone(I:Inv X pins σ H s)(f:lN X pins H C)(hs:za4 C s.heap h'):Inv X pins σ H {s with heap:=h'}:=by
 obtain⟨F,f1,f2,N,J,G⟩:=f;refine I.call' (s':={s with heap:=h'}) (ch:=[C]) rfl ⟨λb o e n B hx=>?_,λb o e n B hx=>?_,λ_ _ _ n _=>n,λb o e hx=>?_,λ_ _ q=>q,λ_ _ _ q=>q,λ_ ps q=>⟨#[],by simpa using q⟩⟩ ?_ I.bare λb B=>?_
 ·exact(hs.2 b (λz=>hx (z ▸ List.mem_singleton.mpr rfl))).trans e
 ·exact⟨o.slots,(hs.2 b (λz=>hx (z ▸ List.mem_singleton.mpr rfl))).trans e⟩
 ·exact⟨o,(hs.2 b (λz=>hx (z ▸ List.mem_singleton.mpr rfl))).trans e⟩
 ·intro b U e
  refine(I.hok b U e).stay (λc W M q=>(hs.2 c ?_).trans q) (λ_ q=>q) λ_ _ q=>q
  rintro rfl;rcases M with z|z
  ·subst z;rw[F]at e;cases e
  ·rw[F]at z;cases z
 ·rw[List.mem_singleton.mp B]
  exact⟨N,f1,J,G⟩
theorem HP(hN:X.N.Nodup)(ac:X.N[i]?=some x)(hx:Loc X.env.scope x)
  (hc:X.calm=true) (F:Clo X N scope cl) (hi:PI X tg iter wi) (hg:∀C s H fp,PG (aY X N scope cl C s H fp) tg g) (ht:∀C s H fp,FZ (aY X N scope cl C s H fp) ifs tt) (he:∀C s H fp,PE (aY X N scope cl C s H fp) elt te)
  (hs:∀x,zba iter X.env x=pure x:=by intro _;rfl) (W:zaD (.ListComp elt [⟨tg,iter,ifs,0⟩] scope pos) (some (.Name x pos')) spos.line X.env=pure true:=by rfl)
  (hf:X.fn x=true\/X.env.scope.names.lookup x=some .local:=by first|exact .inl rfl|exact .inr rfl) :
  PS X (.Assign [.Name x pos'] (.ListComp elt [⟨tg,iter,ifs,0⟩] scope pos) spos) (QI (DA wi g tt te (Start X N scope)) (jV i)):=by
 intro pins s σ H D I h;obtain⟨aq,sS,hw⟩:=h;rw[exec_Assign_Name_used _ _ _ _ W];refine zaa (zc7 (zaa ?_));show wpAny _ X.A (do let _ <- comprehension (.ListComp elt [⟨tg,iter,ifs,0⟩] scope pos) scope X.env _ (newList []) false (eval iter X.env) (some (zbd (.Name x pos') X.env))) _ _ s;refine zaa (za7 (wpAny_comprehension_free (use:=some (zbd (.Name x pos') X.env)) (Q:=λ_ s'=>SP X pins D .next s') rfl hs F.clos F.kind F.names
  (cK (hi pins s σ H _ I hw) λv s1 h1=>cK h1 λaK s2 h2=>?_)) (λ_ s' hq=>zaf (zaf hq)) λ_ _ e=>e)
 obtain⟨it,fp,tn,J,H2,e,I2,T,U,f2,q2⟩:=h2;subst e;refine wG (wi:=wi) (Q:=λv H1=>jV i v σ H1 D.nx) (RR:=λacc C=>compPost (model X.prog X.w) X.A X.xe (some (zbd (.Name x pos') X.env)) (λ_ s'=>SP X pins D .next s') acc C) hc F hg ht he I2 T U f2 sS q2 ?_
 intro s3 s5 H3 H5 al D1 I3 f3 Y q;obtain⟨m,hn,_⟩:=id Y.loc;have I6:Inv X pins σ H5 s5:=comp_back I3 f3 Y (Heap.SameBut.refl _ _);have fc:lN X pins H5 s3.heap.objs.size:=I3.fpOk (zaj _) Y.free;show wpAny _ X.A (zbd (.Name x pos') X.env (.ref D1)) _ _ s5;refine wpAny_assign_Name (wO (v:=.ref D1) I6 hN ac hx rfl (λs7 I7 ⟨a,G,B⟩=>?_) hf);have ne:s3.heap.objs.size≠a:=λz=>by
  rcases B with B|B
  ·exact fc.2.1 (z.trans B)
  ·exact fc.2.2.2.2.1 x a B z.symm
 exact⟨m,Heap.Ns.sameBut hn G ne,λh' M=>⟨_,H5,Inv.gone I7 fc M,q⟩⟩
end
end My
namespace P
open PySem.SeqAt
section
variable {X:Cx}{O O':List Nat}{L:Lp}
theorem DK(N:PS X (.Assign [.Name x pos'] e pos) (QI (tD Rep O f) (jV i)))(h:Sub O' (O.filter (· != i))=true):j9 X L O (.Assign [.Name x pos'] e pos) (eE i f) O':=
 PS.mono N <| by
  rintro T σ H ⟨H0,A0,A,E,ρ,out,st,e,p⟩;obtain⟨d,M,rfl⟩:=map_some e;refine⟨H0,A0,A,E,ρ,d,st,M,λv H' x r=>?_⟩;have F:=(st.mono x).more r;obtain⟨A',B⟩:=F.shut (O':=O') λj J=>(Sub.er h J).1
  exact p A' _ H' ((B.put (B.ext _ (zar ..)) λz=>(Sub.er h z).2 rfl).less λq G=>zap _ G)
theorem AE(M:PS X (.Assign [.Name x pos'] e pos) (QI (tF O f) (jV i)))(h:Sub O' (i::O)=true)(B:O.contains i=false):j9 X L O (.Assign [.Name x pos'] e pos) (eE i f) O':=
 PS.mono M <| by
  rintro T σ H ⟨H0,A0,A,E,ρ,out,st,e,p⟩;obtain⟨d,J,rfl⟩:=map_some e;refine⟨H0,A0,A,E,ρ,d,st,J,λa H' x n N o=>?_⟩;have F:i∉O:=λz=>by
   have:O.contains i=true:=by simpa using z
   rw[B]at this;cases this
  obtain⟨G,q⟩:=(st.own_put x n N o F).shut (Sub.mem h);exact p G _ H' q
theorem Z0:tD Rep O f σ H Q->tF O f σ H Q:=λ⟨H0,A0,A,E,ρ,d,st,e,q⟩=>
 ⟨H0,A0,A,E,ρ,d,st,e,λa H' x n B o=>q _ H' x ((o.av (A':=A) λb z=>.inl (.inl z)).rep B)⟩
theorem MO(W:X.N.Nodup)(B:X.N[i]?=some x)(hx:Loc X.env.scope x)
  (Y:X.calm=true) (F:My.Clo X N scope cl) (q:dP X scope N ms) (J:(ms.all λo=>match o with|some i=>!O.contains i|none=>true)=true) (hi:PDI X O tg iter it) (hg:∀C s H fp,DF (My.aY X N scope cl C s H fp) [] tg g)
  (U:∀C s H fp,My.FZ (My.aY X N scope cl C s H fp) ifs (tDT [] c)) (M:∀C s H fp,PD (My.aY X N scope cl C s H fp) [] elt f) (h:Sub O' (O.filter (· != i))=true:=by rfl) (hs:∀x,zba iter X.env x=pure x:=by intro _;rfl)
  (z:zaD (.ListComp elt [⟨tg,iter,ifs,0⟩] scope pos) (some (.Name x pos')) spos.line X.env=pure true:=by rfl) (G:X.fn x=true\/X.env.scope.names.lookup x=some .local:=by first|exact .inl rfl|exact .inr rfl) :
  j9 X L O (.Assign [.Name x pos'] (.ListComp elt [⟨tg,iter,ifs,0⟩] scope pos) spos) (eE i (d7 ms it g c f)) O':=
 DK (PS.mono (My.HP W B hx Y F hi hg U M hs z G) λT σ H w=>uG q J _ _ _ (Z0 w)) h
theorem KG(Y:X.N.Nodup)(F:X.N[i]?=some x)(hx:Loc X.env.scope x)
  (hc:X.calm=true) (G:My.Clo X N scope cl) (q:dP X scope N ms) (M:(ms.all λo=>match o with|some i=>!O.contains i|none=>true)=true) (hi:PDI X O tg iter it) (hg:∀C s H fp,DF (My.aY X N scope cl C s H fp) [] tg g)
  (W:∀C s H fp,My.FZ (My.aY X N scope cl C s H fp) ifs (tDT [] c)) (U:∀C s H fp,PD (My.aY X N scope cl C s H fp) [] elt f) (h:Sub O' (i::O)=true:=by rfl) (z:O.contains i=false:=by rfl) (hs:∀x,zba iter X.env x=pure x:=by intro _;rfl)
  (B:zaD (.ListComp elt [⟨tg,iter,ifs,0⟩] scope pos) (some (.Name x pos')) spos.line X.env=pure true:=by rfl) (J:X.fn x=true\/X.env.scope.names.lookup x=some .local:=by first|exact .inl rfl|exact .inr rfl) :
  j9 X L O (.Assign [.Name x pos'] (.ListComp elt [⟨tg,iter,ifs,0⟩] scope pos) spos) (eE i (d7 ms it g c f)) O':=
 AE (PS.mono (My.HP Y F hx hc G hi hg W U hs B J) λT σ H w=>uG q M _ _ _ w) h z
end
end P
namespace My
open PySem.SeqAt
def qaQ(K:zae)(n:Nat)(t:WC):TG:=λv σ H Q=>∃a xs,v=.ref a/\(SqT K H a xs\/SqL K H a xs)/\xs.length=n/\t xs σ H Q
theorem vA(M:X.calm=true)(h:PGs X es t)
  (F:(za1 es X.env).length=n:=by rfl) (q:(za1 es X.env).findIdx? (·.1)=none:=by rfl):PG X (.Tuple es k pos) (qaQ X.K n t):=by
 intro pins s σ H v u Q I r hw;obtain⟨a,xs,Y,z,G,hw⟩:=hw;subst Y;rcases z with z|z
 ·exact FG M h F q pins s σ H _ u Q I r ⟨a,xs,rfl,z,G,hw⟩
 ·cases r
  obtain⟨B,J,U,hz⟩:=I.list z;have hsz:(za1 es X.env).length=B.toArray.size:=by simp[F,<- G,J.length]
  rw[assign_Tuple];refine zaa (zc7 ?_);unfold unpack;rw[hsz,q];refine zaa (zbD (PySem.W.kun_itemsOf (I.ok.hd M) (My.PlainL.isList U) λh' hx=>?_));have N:Inv X pins σ H {s with heap:=h'}:=I.kept (t':=s.toks) λb o e=>hx b o (zaF (zan e)) e
  exact h pins _ σ H xs _ Q N (by simpa using J) hw
end My
namespace P
open PySem.SeqAt
def vN(n:Nat)(k:WE):Gv:=λd ρ=>match d with
 | .tup l=>if l.length=n then k l ρ else none
 | .lst l=>if l.length=n then k l ρ else none
 | _=>none
theorem oK(F:PG X tg (My.qaQ X.K n (tDGs O k))):DF X O tg (vN n k):=PG.mono F <| by
 rintro v σ H Q ⟨H0,A0,A,E,ρ,d,ρ',st,r,e,q⟩;cases d with
 | tup l=>
  obtain⟨a,xs,rfl,h,B⟩:=RepB.tup_inv (.of r);by_cases z:l.length=n
  ·simp only[vN,if_pos z]at e
   exact⟨a,xs,rfl,.inl (.inl (.inl h)),by rw[B.length];exact z,H0,A0,A,E,ρ,l,ρ',st,B,e,q⟩
  ·simp only[vN,if_neg z]at e;cases e
 | lst l=>
  obtain⟨a,xs,rfl,h,B⟩:=RepB.lst_inv (.of r);by_cases z:l.length=n
  ·simp only[vN,if_pos z]at e
   exact⟨a,xs,rfl,.inr (.inl h),by rw[B.length];exact z,H0,A0,A,E,ρ,l,ρ',st,B,e,q⟩
  ·simp only[vN,if_neg z]at e;cases e
 | _=>exact nn e
@[simp] theorem q_gseqT:vN n h (.tup l) ρ=if l.length=n then h l ρ else none:=rfl
@[simp] theorem q_gseqL:vN n h (.lst l) ρ=if l.length=n then h l ρ else none:=rfl
end P
namespace P
theorem jP{f:Lv}{g:Gv}{b rest:Sv}{ρ:cX}{items:List D}{R:D->Prop}(q:f ρ=some items)(I:Nat->cX->Prop)(z:I 0 ρ)(hs:∀i x ρ,items[i]?=some x->I i ρ->∃ρ',turn g b x ρ=some (.nx ρ')/\I (i+1) ρ')(k:∀ρ',I items.length ρ'->∃d,rest ρ'=some (.rt d)/\R d):∃d,dA (zW f g b) rest ρ=some (.rt d)/\R d:=by
 obtain⟨ρ',e,h⟩:=zQ (g:=g) (b:=b) I z hs;rw[aH (by rw[q_for,q];exact e)];exact k ρ' h
theorem dZ{n:Nat}{ds:List D}{R:D->Prop}(h:∃d,f (aE n ds)=some (.rt d)/\R d):∃d,bB n f ds=some d/\R d:=by
 obtain⟨d,e,r⟩:=h;exact⟨d,aF e,r⟩
theorem LZ(h:tupI a=tupI b):a=b:=by
 have g:∀ {a b:List Int},a.map D.int=b.map D.int->a=b:=by
  intro a;induction a with
  | nil=>intro b h;cases b with
   | nil=>rfl
   | cons _ _=>cases h
  | cons x a ih=>intro b h;cases b with
   | nil=>cases h
   | cons y b=>
    rw[zak,zak]at h;injection h with h1 h2
    rw[D.int.inj h1,ih h2]
 exact g (D.tup.inj h)
theorem G5(k:List Int):fL (tupI k)=true:=(JM k).2
open Classical in
theorem KB(h:v∉as)(q:a7 (as++v::bs).length=true):mY (.lst ((as++v::bs).map tupI)) (tupI v)=some (.int (as.length:Int)):=by
 unfold mY;have a:((as++v::bs).map tupI).all fL=true:=List.all_eq_true.mpr λx hx=>by
  obtain⟨w,_,rfl⟩:=List.mem_map.mp hx;exact G5 w
 dsimp only;rw[if_pos ⟨G5 v,a,by rw[zah];exact q⟩];have e:((as++v::bs).map tupI).findIdx? (λy=>decide (y=tupI v))=some as.length:=by
  clear a q;induction as with
  | nil=>simp[List.findIdx?_cons]
  | cons x as ih=>
   have B:¬ tupI x=tupI v:=λz=>h (by rw[LZ z];exact zar ..)
   rw[zcX,zak,List.findIdx?_cons,if_neg (by simpa using B),ih λz=>h (zap _ z)];rfl
 rw[e];rfl
theorem JQ:cutD (as++bs) none (some (as.length:Int))=as:=by
 have e:HT.sIx (as++bs).length (as++bs).length (some (as.length:Int))=as.length:=by
  unfold HT.sIx;simp
  try lia
 unfold cutD;rw[e];show((as++bs).drop 0).take (as.length-0)=as;simp
end P
namespace My
section
variable {X:Cx}
theorem qM(ns:List Int):∀n,n<=ns.length->preSum (λi=>(ns[i]?).getD 0) n=(ns.take n).sum
 | 0,_=>by simp[preSum]
 | n+1,h=>by
  have e:ns[n]?=some (ns[n]'(by lia)):=by simp
  rw[preSum,qM ns n (by lia),zcY,List.sum_append_int,e];simp
theorem CC{ns:List Int}{q:List Value}(r:Vals (ns.map V.int) q){i:Nat}(h:q[i]?=some v):∃t,v=.int ((ns[i]?).getD 0) t:=by
 have z:=r.length;rw[zah]at z;have hi:i<ns.length:=by rw[z];exact(List.getElem?_eq_some_iff.mp h).1
 have e:(ns.map V.int)[i]?=some (.int ns[i]):=by simp[hi]
 obtain⟨u,B,F⟩:=r.get e;rw[h]at B;cases B;obtain⟨t,rfl⟩:=F;exact⟨t,by simp[hi]⟩
theorem JT(hc:X.calm=true):CallR X (.builtin "sum") (λxs H Q=>∃(p:Addr) (ns:List Int),xs=[.ref p]/\SqL X.K H p (ns.map V.int)/\Q (.int ns.sum) H):=by
 intro pins s σ H xs us Q I r h;obtain⟨p,ns,rfl,hq,q⟩:=h;obtain⟨u,rfl,rx⟩:=vals1 r;cases rx;obtain⟨F,r',pl,hz⟩:=I.list hq;have J:s.heap.IsList p F.toArray:=pl.isList;obtain⟨o,Y,aj,n,hd⟩:=id J;have M:p≠s.heap.objs.size:=zaF (zan Y);have W:=(Walks.list (prog:=X.prog) (w:=X.w) (A:=X.A.in1) (I.ok.hd hc) s.heap.objs.size p M F.toArray).toS;refine call_sum_walkAnyS (zbU J ?_);refine⟨s.heap.objs.size,_,_,_,_,_,_,(λi=>(ns[i]?).getD 0),rfl,W,⟨⟨_,zaE _ rfl,rfl,rfl⟩,J.at λo e=>zam _ e⟩,λb B=>?_,λi v hP=>CC r' (by simpa using hP),λs' t' G=>?_⟩
 ·rcases List.mem_cons.mp B with rfl|B
  ·exact zan (zaE _ rfl)
  ·obtain rfl:=List.mem_singleton.mp B
   exact zan (zam _ Y)
 ·obtain⟨h',g',d',U,N⟩:=s'
  have e1:g'=s.gens:=G.gens;have e2:d'=s.drawn:=G.drawn;have e3:N=s.os:=G.os;subst e1 e2 e3;have hk:∀b o,s.heap.get? b=some o->h'.get? b=some o:=λb o e=>G.heap b o (λB=>absurd (zan e) ((List.mem_singleton.mp B) ▸ zbQ _)) (zam _ e)
  refine⟨.int ns.sum,H,I.kept (t':=U) hk,⟨t',?_⟩,q⟩;have z:=r'.length;rw[zah]at z;rw[zax,<- z,qM ns ns.length (zaj _),zbn]
theorem TR:OpR X (zaN .Add) (λx y H Q=>∃a b ys,x=.ref a/\y=.ref b/\SqT X.K H a []/\SqT X.K H b ys/\Q (.ref b) H):=by
 intro pins s σ H x y v u Q I rx ry h;obtain⟨a,b,ys,rfl,rfl,ha,hb,q⟩:=h;cases rx;cases ry;obtain⟨N,r1,p1,_⟩:=I.tuple ha;obtain⟨z,r2,p2,_⟩:=I.tuple hb;have e1:N=[]:=r1.nil_iff.mpr rfl;subst e1;obtain⟨⟨cls,dd,data,sl⟩,ho,hc,n,hd⟩:=p1;obtain⟨⟨J,W,B,Y⟩,G,ac,n2,U⟩:=p2;have ab:cls=.type "tuple" := hc;have aa:data=.seq #[] n:=hd;have M:J=.type "tuple" := ac;have F:B=.seq z.toArray n2:=U;subst ab aa M F;exact concat_meets ⟨_,ho,rfl⟩ ⟨_,G,rfl⟩ zd2 seq_tuple_add zd3 zd4 (zd5 _ _)
  (tuple_addW0 a b #[] z.toArray n n2 dd W sl Y rfl) ⟨ho,G,.ref b,H,I,rfl,q⟩
def CK:V->List V->Hp->VK->Prop:=λx vs H Q=>∃l b xs zs,x=.ref l/\vs=[.ref b]/\H l=some (.lst xs)/\Rd H b (.lst zs)/\xs.length+zs.length<=zal/\Q .non (upd H l (.lst (xs++zs)))
theorem tU:MtM X "list.extend" CK:=by
 intro pins s σ H x vs v us Q I rx W h;obtain⟨l,b,xs,zs,rfl,rfl,M,hB,hz,q⟩:=h;cases rx;obtain⟨u,rfl,U⟩:=W.one;cases U;obtain⟨z,G,n,r,hl,e⟩:=I.lstM M;obtain⟨z2,B,N,r2,Y,e2⟩:=P.Inv.lstR I hB;have hsz:G.toArray.size+B.toArray.size<=zal:=by rw[zax,zax];lia
 have J:¬ (!G.toArray.isEmpty && zea (G.toArray.size+B.toArray.size))=true:=by
  rw[LS hsz,Bool.and_false];exact zaC
 refine zcD F.slot_list_extend ⟨_,e,rfl⟩ F.entry_list_extend (F.args_list_extend_2 _ _)
  (AutoSeq1.list_extend_list_list_0 l G.toArray n b B.toArray N J (by rw[zax];lia) (by lia)) ⟨e,e2,?_⟩
 refine⟨.non,_,I.lset (its':=G++B) M e (by simp) (r.append r2) ?_,rfl,q⟩;rw[zbb]
 lia
end
end My
namespace P
theorem aA{q β:Type}(a:q)(f:q->Option β):(some a).bind f=f a:=by rw[zac]
theorem aB{q β:Type}(a:q)(f:q->β):(some a).map f=some (f a):=by rw[zab]
section
variable {X:Cx}{O O':List Nat}{L:Lp}
noncomputable def FS:List D->Option D
 | [.int i]=>some (.int i)
 | [.bl b]=>some (.int (if b then 1 else 0))
 | _=>none
theorem YM:jU X (.type "int") FS:=CallR.mono J9 <| by
 rintro xs H Q ⟨A,ds,d,B,r,e,q⟩;unfold FS at e;split at e
 ·cases e
  obtain⟨v,rfl,z⟩:=r.one;cases z.int_inv;exact .inl ⟨_,rfl,q _ H (Ext.refl _ _) (.int _)⟩
 ·cases e
  obtain⟨v,rfl,z⟩:=r.one;cases z.bl_inv;exact .inr ⟨_,rfl,q _ H (Ext.refl _ _) (.int _)⟩
 ·cases e
@[simp] theorem q_intB:FS [.bl b]=some (.int (if b then 1 else 0)):=rfl
@[simp] theorem q_intI:FS [.int i]=some (.int i):=rfl
open Classical in
def cS:D->D->Option D:=LL λi j=>if My.FV i j then some (.int (i*j))else none
theorem HC:cS=IN:=by
 unfold cS IN;congr 1
theorem cH:mE X (zaN .Mult) cS:=by rw[HC];exact YH
theorem X8(h:My.FV i j):cS (.int i) (.int j)=some (.int (i*j)):=by rw[HC];exact qp h
theorem b8(h:-(10^250)<i)(h1:i<10^250)(h2:-(10^250)<j)(q:j<10^250):cS (.int i) (.int j)=some (.int (i*j)):=X8 ⟨⟨h,h1⟩,h2,q⟩
def UY:List D->Option D
 | [.lst l]=>(jK l).map λns=>.int ns.sum
 | _=>none
theorem PQ(F:X.calm=true):jU X (.builtin "sum") UY:=CallR.mono (My.JT F) <| by
 rintro xs H Q ⟨A,ds,d,G,r,e,q⟩;unfold UY at e;split at e
 ·obtain⟨ns,B,rfl⟩:=map_some e
  obtain⟨v,rfl,z⟩:=r.one;obtain⟨a,J,rfl,h1,r1⟩:=z.lst_inv;rw[gM B r1]at h1;exact⟨a,ns,rfl,.inl h1,q _ H (Ext.refl _ _) (.int _)⟩
 ·cases e
theorem kF:∀ns:List Int,jK (ns.map .int)=some ns
 | []=>rfl
 | n::ns=>by rw[zak,jK,kF ns];rfl
@[simp] theorem q_sum{ns:List Int}:UY [.lst (ns.map .int)]=some (.int ns.sum):=by unfold UY;simp only[kF];rfl
theorem RepL.rep(r:RepL A H ds vs):∀k:Nat,RepL A H (zcp k ds).flatten (zcp k vs).flatten
 | 0=>.nil
 | k+1=>by rw[zdo,zdo,zdp,zdp];exact r.append (RepL.rep r k)
def eY(x y:D):Option D:=match x,y with
 | .tup l,.tup m=>if a7 (l.length+m.length)then some (.tup (l++m))else none
 | x,y=>xP x y
set_option tactic.hygienic true in
theorem d3:mE X (zaN .Add) eY:=OpR.mono (OpR.or W9 My.TR) <| by
 rintro x y H Q ⟨A,dx,J,d,F,z,B,e,q⟩;unfold eY at e;split at e
 ·rename_i l m
  cases l with
  | nil=>
   by_cases G:a7 (([]:List D).length+m.length)=true
   ·rw[if_pos G]at e
    cases e;obtain⟨a,xs,rfl,h1,r1⟩:=z.tup_inv;obtain⟨b,ys,rfl,h2,r2⟩:=B.tup_inv;cases r1;exact .inr ⟨a,b,ys,rfl,rfl,.inl (.inl h1),.inl (.inl h2),q _ H (Ext.refl _ _) (.tup h2 r2)⟩
   ·rw[if_neg G]at e;cases e
  | cons a l=>
   refine .inl ⟨A,_,_,d,F,z,B,?_,q⟩;rw[<- e];rfl
 ·exact .inl ⟨A,_,_,d,F,z,B,e,q⟩
@[simp] theorem q_addAI:eY (.int i) (.int j)=some (.int (i+j)):=rfl
@[simp] theorem q_addAT:eY (.tup l) (.tup m)=if a7 (l.length+m.length)then some (.tup (l++m))else none:=rfl
@[simp] theorem q_addAL:eY (.lst l) (.lst m)=if a7 (l.length+m.length)then some (.lst (l++m))else none:=rfl
@[simp] theorem q_addAS:eY (.str l) (.str m)=if a7 (l.length+m.length)then some (.str (l++m))else none:=rfl
def U9(i:Nat)(f:Ev):Sv:=λρ=>(aD i ρ).bind λx=>match x with
 | .lst l=>(f ρ).bind λd=>match d with
  | .lst m=>if a7 (l.length+m.length)then some (.nx (ρ.set i (some (.lst (l++m)))))else none
  | _=>none
 | _=>none
theorem tR(ho:PE X o (dB i))(he:PD X O e f)(F:mem O i=true)(Y:PE X (.Call (.Attribute o "extend" apos) [e] [] cpos) (ZP X.K "list" My.CK (dB i) (xM (tD Rep O f) U7)))
  (hs:zaD (.Call (.Attribute o "extend" apos) [e] [] cpos) none pos.line X.env=pure false:=by rfl) (h:Sub O' O=true:=by rfl):j9 X L O (.Expr (.Call (.Attribute o "extend" apos) [e] [] cpos) pos) (U9 i f) O':=
 PS.mono (yG Y hs) <| by
  rintro T σ H ⟨H0,A0,A,E,ρ,out,st,e,p⟩;obtain⟨x,ex,e⟩:=bind_some e;cases x with
  | lst l=>
   obtain⟨d,ed,e⟩:=bind_some e;cases d with
   | lst m=>
    dsimp only at e;by_cases B:a7 (l.length+m.length)=true
    ·rw[if_pos B]at e
     cases e;obtain⟨a,J,q,U,N⟩:=st.own i _ (bW ex) (iB F);cases N with
     | lst h4 r4=>
      refine⟨_,J,.inl ⟨rfl,_,SqL.of h4⟩,H0,A0,A,E,ρ,_,st,ed,λv H' x r=>?_⟩;obtain⟨b,zs,rfl,W,M⟩:=RepB.lst_inv (.of r);refine⟨a,b,_,zs,rfl,rfl,x.ow _ _ q h4,W,by rw[r4.length,M.length];exact hV B,?_⟩;have G:=x.ow _ _ q h4;obtain⟨A',z⟩:=((st.mono x).write (o:=.lst _) (bW ex) (iB F) J q U G trivial (.lst aL (((r4.ext x).append M).put q G trivial))).shut (Sub.mem h);exact p A' σ _ z
    ·rw[if_neg B]at e;cases e
   | _=>exact nn e
  | _=>exact nn e
def fG(c:Bv)(b:Sv):Nat->cX->Option Out
 | 0,_=>none
 | n+1,ρ=>(c ρ).bind λt=>if t=true then(b ρ).bind λo=>match o with
   | .nx ρ'=>fG c b n ρ'
   | .ct ρ'=>fG c b n ρ'
   | .bk ρ'=>some (.nx ρ')
   | .rt d=>some (.rt d)
  else some (.nx ρ)
def mZ(c:Bv)(b:Sv):Sv:=λρ=>fG c b 100000 ρ
theorem J8(hp:zca (model X.prog X.w) X.A X.env X.xe)(hc:wB X O1 c g)(U:eO X ⟨Ob,O1⟩ O1 body b O1)(h1:Sub O1 O=true)(h2:Sub O' O1=true)(W:Sub O' Ob=true) :
  j9 X L O (.While c body [] pos) (mZ g b) O':=PS.mono (N7 hp hc U) λT σ H ⟨H0,A0,A,E,ρ,out,st,e,p⟩=>by
 obtain⟨Y,M⟩:=st.shut (Sub.mem h1);refine⟨λm σ H=>∃ρ A,ST H0 A0 A E O1 σ H ρ/\fG g b m ρ=some out,⟨100000,ρ,Y,M,e⟩,?_⟩;rintro m σ H ⟨ρ,A,st,e⟩;cases m with
 | zero=>cases e
 | succ m=>
  obtain⟨t,et,e⟩:=bind_some e;refine⟨H0,A0,A,E,ρ,t,st,et,λH1 N=>?_⟩;have fin:∀ {O2:List Nat} {A:Av} {σ:L2.St} {H:Hp} {ρ:cX},Sub O' O2=true->ST H0 A0 A E O2 σ H ρ->(∀A σ H,ST H0 A0 A E O' σ H ρ->T.nx σ H)->T.nx σ H:=λhs st k=>by
   obtain⟨z,J⟩:=st.shut (Sub.mem hs);exact k z _ _ J
  cases t with
  | true=>
   rw[if_pos rfl]at e;dsimp only;rw[if_pos rfl];obtain⟨o,eo,e⟩:=bind_some e;refine⟨λF H'=>∃q z,ST H0 A0 z E O1 F H' q/\fG g b m q=some out,λF H' ⟨q,z,B,e2⟩=>⟨m,zdd m,q,z,B,e2⟩,H0,A0,A,E,ρ,o,st.mono N,eo,?_⟩;cases o with
   | nx q=>exact λz G H2 B=>⟨q,z,B,e⟩
   | ct q=>exact λz G H2 B=>⟨q,z,B,e⟩
   | bk q=>cases e;exact λz G H2 B=>fin W B p
   | rt d=>cases e;exact p
  | false=>
   rw[if_neg zaC]at e;dsimp only;rw[if_neg zaC];cases e;exact fin h2 (st.mono N) p
end
theorem GQ{P:zai}{w:World}{K:zae}{mg:Str->Option Value}{base:Heap}{x:Str}{st:Stmt}{N ps:List Str}{k:Nat}(G:My.DefAt K mg x st ps)(S:FnScope N ps (aO st)):Fn P w K mg base x (k+1) ps (λ_=>none):=
 My.BodyOk.ok (k:=k) (N:=N) (λW J A z s H vs Q E M ⟨F,ds,d,U,r,e,B,q⟩=>nomatch B) G S (λvs H Q E ⟨F,ds,d,_,_,e,B,_⟩=>nomatch B)
def eD(n:Nat)(b:(List D->Option D)->Sv):Nat->List D->Option D
 | 0=>λ_=>none
 | m+1=>bB n (b (eD n b m))
end P
namespace My
open AutoSeq1 (wpAny_loadPart')
set_option tactic.hygienic true in
theorem K4(l:Addr)(items:Array Value)(n:Nat)(z:Option Addr)(J:Array (Option Value)) :
  Meets (zb5.«enumerate.__new__» ⟨[.type "enumerate",.ref l],[]⟩) (λ_ R s=>s.heap.get? l=some {cls:=.type "tuple",dict:=z,data:=.seq items n,slots:=J} /\
   R (.ok (.ret (.ref (s.heap.push {cls:=.type "tuple_iterator",data:=.fields #[.ref l,.int 0 0]}).objs.size)))
    {s with heap:=(s.heap.push {cls:=.type "tuple_iterator",data:=.fields #[.ref l,.int 0 0]}).push {cls:=.type "enumerate",data:=.fields #[.none,.bool false,.ref s.heap.objs.size,za9 0,.none,.none]} }):=
 .of_wp λprog w A R s h=>by
  obtain⟨G,g,d,tk,M⟩:=s;obtain⟨q,h⟩:=h;have F:=sub_enumerate;have B:zcU (zb1 ⟨G,g,d,tk,M⟩) l items:=⟨_,q,rfl,n,rfl⟩
  wp_walk using zbZ q
  refine wpAny_stack_any λst=>zaf ?_
  split
  ·rename_i c _ _ _ _ _
   cases(c == Value.type "enumerate")
   ·wp_walk using zbZ q,zbV B
    exact⟨_,rfl,h⟩
   ·wp_walk using zbZ q,zbV B
    exact⟨_,rfl,h⟩
  ·wp_walk using zbZ q,zbV B
   exact⟨_,rfl,h⟩
section
variable {prog:zai}{w:World}{A:zao}{E:Value->zad->Prop}{s:zad}
theorem KW(Y:SSq t s.heap l xs)
  (h:∀h',zbC h' (s.heap.objs.size+1) s.heap.objs.size 0 .none->SIt t h' s.heap.objs.size l 0->(∀b o,s.heap.get? b=some o->h'.get? b=some o)->Q (.ref (s.heap.objs.size+1)) {s with heap:=h'}) :
  wpAny (model prog w) A (call (.type "enumerate") [.ref l]) Q E s:=by
 obtain⟨⟨cls,G,data,W⟩,U,hc,n,hd⟩:=Y;have M:cls=.type (sqN t):=hc;have J:data=.seq xs n:=hd;subst M J;have N:(s.heap.push (JA t l)).objs.size=s.heap.objs.size+1:=zbX ..;have fin:zbC ((s.heap.push (JA t l)).push {cls:=.type "enumerate",data:=.fields #[.none,.bool false,.ref s.heap.objs.size,za9 0,.none,.none]}) (s.heap.objs.size+1) s.heap.objs.size 0 .none:=by
  have:=zaE (s.heap.push (JA t l)) (o:={cls:=.type "enumerate",data:=.fields #[.none,.bool false,.ref s.heap.objs.size,za9 0,.none,.none]}) rfl;rw[N]at this;exact this
 have q:=h _ fin ⟨_,zam _ (zaE _ rfl),rfl,rfl⟩ λb o x=>zam _ (zam _ x)
 cases t with
 | false=>
  refine callType_new F.called_enumerate (by decide) (F.typeCall_enumerate_1 _) (F.newCall_enumerate_1 _) (λz=>F.args_object_init_2 z _) F.entry_enumerate_new (meets_enumerate_newL l xs n G W) ⟨U,?_⟩;have B:(s.heap.push {cls:=.type "list_iterator",data:=.fields #[.ref l,.int 0 0]}).objs.size=s.heap.objs.size+1:=N;show _/\_;rw[B];exact⟨⟨_,fin,rfl⟩,q⟩
 | true=>
  refine callType_new F.called_enumerate (by decide) (F.typeCall_enumerate_1 _) (F.newCall_enumerate_1 _) (λz=>F.args_object_init_2 z _) F.entry_enumerate_new (K4 l xs n G W) ⟨U,?_⟩;have B:(s.heap.push {cls:=.type "tuple_iterator",data:=.fields #[.ref l,.int 0 0]}).objs.size=s.heap.objs.size+1:=N;show _/\_;rw[B];exact⟨⟨_,fin,rfl⟩,q⟩
theorem J2{t:Bool}{e it l:Addr}{i:Nat}{items:Array Value}{x ak:Value}{Q:Value->zad->Prop}
  (he:zbC s.heap e it i ak) (ay:SIt t s.heap it l i) (hl:SSq t s.heap l items) (hx:items[i]?=some x) (aj:e≠it)
  (hQ:∀h', IsEnumOut h' e it ((i:Int)+1) x s.heap.objs.size -> SIt t h' it l (i+1) ->
   h'.get? s.heap.objs.size=some {cls:=.type "tuple",data:=.seq #[.int i s.toks,x]}->h'.objs.size=s.heap.objs.size+1->
   (∀b o,b≠e->b≠it->s.heap.get? b=some o->h'.get? b=some o)->Q (.ref s.heap.objs.size) {s with heap:=h',toks:=s.toks+1}) :
  wpAny (model prog w) A (zb5.«enumerate.__next__» ⟨[.ref e],[]⟩) (λfin s'=>∃v,fin=.done (.ret v)/\Q v s') E s:=by
 obtain⟨hp,g,d,tk,os⟩:=s;show wpAny _ _ (field (.ref e) 2 >>= _) _ _ _;refine zaa (zaT he rfl (x:=.ref it) rfl ?_);refine zaa (next_item ay hl hx λN ai G=>?_);replace G:za4 it hp N:=G;have Y:zbC N e it i ak:=(G.2 e aj).trans he;show wpAny _ _ (field (.ref e) 3 >>= _) _ _ ⟨N,g,d,tk,os⟩;refine zaa (zaT Y rfl (x:=za9 i) rfl ?_);show wpAny _ _ (field (.ref e) 4 >>= _) _ _ ⟨N,g,d,tk,os⟩;refine zaa (zaT Y rfl (x:=.none) rfl ?_);show wpAny _ _ (mkInt i >>= _) _ _ ⟨N,g,d,tk,os⟩;refine zaa (wpAny_mkInt ?_);show wpAny _ _ (setField (.ref e) 3 (za9 ((i:Int)+1)) >>= _) _ _ ⟨N,g,d,tk+1,os⟩;refine zaa (zbB Y (by simp) λac W z=>?_);replace z:za4 e N ac:=z;replace W:zbC ac e it ((i:Int)+1) ak:=W;show wpAny _ _ (setField (.ref e) 4 .none >>= _) _ _ ⟨ac,g,d,tk+1,os⟩;refine zaa (zbB W (by simp) λU ab F=>?_);replace F:za4 e ac U:=F;replace ab:zbC U e it ((i:Int)+1) ak:=ab;show wpAny _ _ (newTuple [.int i tk,x] >>= _) _ _ ⟨U,g,d,tk+1,os⟩;refine zaa (wpAny_newTuple ?_);have aa:zbC (U.push {cls:=.type "tuple",data:=.seq #[.int i tk,x]}) e it ((i:Int)+1) ak:=zam _ ab;generalize hh₄:U.push {cls:=.type "tuple",data:=.seq #[.int i tk,x]}=h₄ at aa;have hsz:U.objs.size=hp.objs.size:=by rw[F.1,z.1,G.1]
 have au:e<hp.objs.size:=zan he;have aq:h₄.get? hp.objs.size=some {cls:=.type "tuple",data:=.seq #[.int i tk,x]}:=by rw[<- hh₄,<- hsz];exact zaE _ rfl
 have aw:h₄.objs.size=hp.objs.size+1:=by rw[<- hh₄,zbX,hsz]
 have ar:∀b o,b≠e->b≠it->hp.get? b=some o->h₄.get? b=some o:=λb o ad as hb=>by
  rw[<- hh₄];exact zam _ (F.extBut b o ad (z.extBut b o ad (G.extBut b o as hb)))
 have ao:SIt t h₄ it l (i+1):=by
  rw[<- hh₄];exact ai.to λo q=>zam _ (F.extBut it o (zaW aj) (z.extBut it o (zaW aj) q))
 show wpAny _ _ (zcG (.ref e) >>= _) _ _ ⟨h₄,g,d,tk+1,os⟩;rw[hsz];clear hh₄ ab F W z Y G ai hsz U ac N;refine zaa ?_
 ·unfold zcG
  refine zaa (zaT aa rfl (x:=.none) rfl (zaf ?_));simp only[if_true];refine zaa (zbP ?_);refine zaa (zaT aa rfl (x:=ak) rfl ?_);refine zaa (zbB aa (by simp) λah ag J=>?_);replace J:za4 e h₄ ah:=J;replace ag:zbC ah e it ((i:Int)+1) x:=ag;show wpAny _ _ (zdD (.ref e) (.ref hp.objs.size) >>= _) _ _ ⟨ah,g,d,tk+1,os⟩;refine zaa ?_
  ·unfold zdD
   refine zaa (zbB ag (by simp) λal af M=>?_);replace M:za4 e ah al:=M;replace af:IsEnumOut al e it ((i:Int)+1) x hp.objs.size:=af;refine zbB af (by simp) λam ae B=>?_
   replace B:za4 e al am:=B;replace ae:IsEnumOut am e it ((i:Int)+1) x hp.objs.size:=ae;refine zaa (zdC (zaf ⟨_,rfl,hQ am ae ?_ ?_ ?_ ?_⟩))
   ·exact ao.to λo q=>B.extBut it o (zaW aj) (M.extBut it o (zaW aj) (J.extBut it o (zaW aj) q))
   ·exact B.extBut _ _ (zbu au) (M.extBut _ _ (zbu au) (J.extBut _ _ (zbu au) aq))
   ·rw[B.1,M.1,J.1,aw]
   ·exact λb o ad as hb=>B.extBut b o ad (M.extBut b o ad (J.extBut b o ad (ar b o ad as hb)))
theorem JH{t:Bool}{e it l:Addr}{i:Nat}{items:Array Value}{x q:Value}{Q:Option Value->zad->Prop}
  (G:zbC s.heap e it i q) (z:SIt t s.heap it l i) (J:SSq t s.heap l items) (hx:items[i]?=some x) (B:e≠it)
  (M:∀h', IsEnumOut h' e it ((i:Int)+1) x s.heap.objs.size -> SIt t h' it l (i+1) ->
   h'.get? s.heap.objs.size=some {cls:=.type "tuple",data:=.seq #[.int i s.toks,x]}->h'.objs.size=s.heap.objs.size+1->
   (∀b o,b≠e->b≠it->s.heap.get? b=some o->h'.get? b=some o)->Q (some (.ref s.heap.objs.size)) {s with heap:=h',toks:=s.toks+1}) :
  wpAny (model prog w) A (za2 (.ref e)) Q E s:=by
 have hT:s.TypeIs (.ref e) "enumerate" := ⟨_,G,rfl⟩;unfold za2;exact zaa (zcF (zbJ (name:=zbi "__next__") hT zdI
  (zbj zdI hT F.entry_enumerate_next
   (J2 G z J hx B λh' a b c d k=>zaf (M h' a b c d k)) (F.args_enumerate_next_1 _))))
theorem L5{t:Bool}{i:Nat}{items:Array Value}{Q:Option Value->zad->Prop}(N:A.handled=none)
  (G:zbC s.heap e it i old) (z:SIt t s.heap it l i) (J:SSq t s.heap l items) (hx:items[i]?=none)
  (U:∀h',Heap.ExtBut it s.heap h'->Q none {s with heap:=h'}):wpAny (model prog w) A (za2 (.ref e)) Q E s:=by
 have hT:s.TypeIs (.ref e) "enumerate" := ⟨_,G,rfl⟩;unfold za2;refine zaa (zcF (zbJ (name:=zbi "__next__") hT zdI
  (zbj zdI hT F.entry_enumerate_next ?_ (F.args_enumerate_next_1 _))))
 show wpAny _ _ (field (.ref e) 2 >>= _) _ _ _;refine zaa (zaT G rfl (x:=.ref it) rfl ?_);refine zaa (next_end N z J hx λh' x q B=>?_);obtain⟨o,M,W⟩:=B;refine zaa (zcx (T := "StopIteration") (b:=true) ⟨o,M,W⟩ isSubtype_stop ?_);exact zaf (U _ q)
end
def ItE(K:zae)(t:Bool)(l:Addr):It:=
 ⟨λi H => ∃xs, DG K t H l xs /\ i<xs.length, λi H x H' => ∃p u, x = .ref p /\ H p = none /\ H' = upd H p (.tup [.int (i:Int), u]) /\ ∀xs, DG K t H l xs -> xs[i]? = some u,
  λi H=>∃xs,DG K t H l xs/\xs.length<=i⟩
theorem JJ{P:zai}{w:World}{K:zae}{W:List Expr}{x1}{tp:Pos}(t:Bool){e it l:Addr}(U:e≠it) :
  Turn P w K (.Tuple W x1 tp) (ItE K t l) [e,it] e (λi h=>(∃F,zbC h e it (i:Nat) F)/\SIt t h it l i) where
 mem:=by simp
 obj:=by
  rintro i h ⟨⟨F,G⟩,⟨o1,e1,_,d1⟩⟩ c z;simp only[zaX,zaZ,or_false]at z;rcases z with rfl|rfl
  ·exact⟨_,G,λv q=>by cases q⟩
  ·exact⟨o1,e1,λv q=>by rw[d1]at q;cases q⟩
 keep:=λi h h' ⟨⟨F,G⟩,M⟩ k=>⟨⟨F,k e (by simp) _ G⟩,M.to λo q=>k it (by simp) o q⟩
 item:=by
  intro X hP hw hK z i pins s σ H E I hf st hg;subst hP hw hK;obtain⟨⟨F,G⟩,M⟩:=st;obtain⟨xs,q1,zY⟩:=hg;obtain⟨Y,r1,p1⟩:=jR I q1;have e1:xs[i]?=some xs[i]:=by simp[zY]
  obtain⟨u,eu,ru⟩:=r1.get e1;refine JH G M p1 (x:=u) (by simpa using eu) U λh' a1 a2 a3 a4 J=>⟨_,rfl,?_⟩
  refine wpAny_letOwnedTupleGo_enum (s:={s with heap:=h',toks:=s.toks+1}) a1 λh2 ak sb=>?_
  have zz:∀c,c∈[e,it]->c<s.heap.objs.size:=λc z=>by
   simp only[zaX,zaZ,or_false]at z;rcases z with rfl|rfl
   ·exact zan G
   ·obtain⟨o,q,_⟩:=M;exact zan q
  have N:∀c o,c≠e->h'.get? c=some o->h2.get? c=some o:=λc o z q=>sb.extBut _ _ z q
  have I1:Inv X pins σ H {s with heap:=h2,toks:=s.toks+1}:=i8 I hf λc o z q=>by
   simp only[zaX,zaZ,or_false,not_or]at z;exact N c o z.1 (J c o z.1 z.2 q)
  have B:H s.heap.objs.size=none:=I.fresh;have ae:h2.get? s.heap.objs.size=some {cls:=.type "tuple",data:=.seq #[.int i s.toks,u]}:=N _ _ (zbu (zz e (by simp))) a3;have I2:Inv X pins σ (upd H s.heap.objs.size (.tup [.int (i:Int),xs[i]])) {s with heap:=h2,toks:=s.toks+1}:=by
   have ad:HOk X.prog X.w (upd H s.heap.objs.size (.tup [.int (i:Int),xs[i]])) h2:=λc ob q=>by
    by_cases z:c=s.heap.objs.size
    ·subst z;rw[aL]at q;cases q
     exact⟨by show 2<=zal;decide,[.int i s.toks,u],.cons ⟨_,rfl⟩ (.cons ru .nil),_,ae,rfl,0,rfl,rfl⟩
    ·rw[aG z]at q
     exact(I1.hok c ob q).stay (λ_ _ _ q=>q) (λd q=>by rw[aG (bJ q B)];exact q) λd af q=>by rw[aG (bJ q B)];exact q
   refine I.call' (s':={s with heap:=h2,toks:=s.toks+1}) (ch:=[e,it]) rfl ⟨λc o q _ _ hx=>?_,λc o q _ _ hx=>⟨o.slots,?_⟩,λc o q n hx=>by rw[aG (zaF (zan q))];exact n,λc o q hx=>⟨o,?_⟩,λc af q=>by rw[aG (bJ q B)];exact q,λc o' u' q=>by rw[aG (bJ q B)];exact q,λc ps q=>⟨#[],by rw[aG (bJ q B),q];simp⟩⟩ ad I.bare λb hb=>?_
   ·simp only[zaX,zaZ,or_false,not_or]at hx
    exact N c o hx.1 (J c o hx.1 hx.2 q)
   ·simp only[zaX,zaZ,or_false,not_or]at hx
    exact N c o hx.1 (J c o hx.1 hx.2 q)
   ·simp only[zaX,zaZ,or_false,not_or]at hx
    exact N c o hx.1 (J c o hx.1 hx.2 q)
   ·obtain⟨_,f1,_,f3,f4,f5⟩:=hf b hb
    exact⟨f3,f1,f4,f5⟩
  refine⟨.ref s.heap.objs.size,_,I2,rfl,⟨_,_,rfl,B,rfl,λau g1=>by rw[<- yJ I q1 g1];exact e1⟩,⟨⟨_,ak⟩,a2.to λo q=>N _ o (zaW U) q⟩,λc z=>?_⟩;rw[aG (zaF (zz c z))];exact(hf c z).1
 done:=by
  intro X hP hw hK z i pins s σ H E I hf st hg;subst hP hw hK;obtain⟨⟨F,G⟩,M⟩:=st;obtain⟨xs,q1,am⟩:=hg;obtain⟨Y,r1,p1⟩:=jR I q1;have n1:=r1.length;refine L5 (I.ok.hd z) G M p1 (by simp;lia) λh' J=>⟨rfl,i8 (t':=s.toks) I hf λc o z q=>?_⟩
  simp only[zaX,zaZ,or_false,not_or]at z;exact J c o z.2 q
 self:=λ_ _ _ _ _ st h=>let ⟨⟨_,G⟩,_⟩:=st;wpAny_pyIter_enum G h
theorem boot_enumerate:zaG "enumerate" = some (.type "enumerate"):=by first|rfl|decide +kernel
def ZX(K:zae)(ta:TA):TI:=λσ H R=>ta σ H λvs H1=>∃t l xs,vs=[.ref l]/\DG K t H1 l xs/\R (ItE K t l) H1
theorem RI{X:Cx}{z:List Expr}{x1}{tp:Pos}{a:Expr}{ta:TA}{p pos:Pos}(hg:Gl X "enumerate")(hm:X.mg "enumerate" = none)(Y:PA X [a] ta)(hs:zag [a] X.env=[(false,eval a X.env)]:=by rfl) :
  PI X (.Tuple z x1 tp) (.Call (.Name "enumerate" p) [a] [] pos) (ZX X.K ta):=by
 intro pins s σ H R I h;refine Call_ (mX I hg hm boot_enumerate (zcQ (cK (Y pos pins s σ H _ I h) λus G ⟨vs,H1,B,r1,M⟩=>?_) (by rw[hs];rfl) rfl));obtain⟨t,l,xs,rfl,M,q⟩:=M;obtain⟨u,rfl,W⟩:=vals1 r1;cases W;obtain⟨U,_,p1⟩:=jR B M;refine KW p1 λh' N J k=>?_
 refine wpAny_pyIter_enum N ?_;have D:G.heap.objs.size+1≠G.heap.objs.size:=by lia
 refine⟨_,[_,_],_,_,H1,rfl,B.kept (t':=G.toks) k,JJ t D,⟨⟨_,N⟩,J⟩,λc F=>B.fpOk ?_ (B.hok.fresh ?_),q⟩
 ·simp only[zaX,zaZ,or_false]at F
  rcases F with rfl|rfl <;> lia
 ·simp only[zaX,zaZ,or_false]at F
  rcases F with rfl|rfl <;> lia
end My
namespace P
noncomputable def gU:Nat->List D->List D
 | _,[]=>[]
 | k,x::xs=>.tup [.int (k:Int),x]::gU (k+1) xs
def IL(f:Lv):Lv:=λρ=>(f ρ).bind λds=>match ds with
 | [a]=>(hZ a).map (gU 0)
 | _=>none
theorem iK:∀ {xs:List D} {k i:Nat} {d:D},(gU k xs)[i]?=some d->∃x,xs[i]?=some x/\d=.tup [.int ((k+i:Nat):Int),x]
 | [],k,i,d,h=>by simp[gU]at h
 | x::xs,k,0,d,h=>by simp[gU]at h;exact⟨x,rfl,h.symm⟩
 | x::xs,k,i+1,d,h=>by
  obtain⟨y,z,q⟩:=iK (xs:=xs) (k:=k+1) (i:=i) (by simpa[gU]using h);exact⟨y,by simpa using z,by rw[q];congr 4;lia⟩
theorem fR:∀(xs:List D) (k:Nat),(gU k xs).length=xs.length
 | [],_=>rfl
 | x::xs,k=>by simp[gU,fR xs]
set_option tactic.hygienic true in
theorem NT{G}(hg:Gl X "enumerate")(hm:X.mg "enumerate" = none)(ha:DE X O [a] f)(hs:zag [a] X.env=[(false,eval a X.env)]:=by rfl) :
  PDI X O (.Tuple elts G tp) (.Call (.Name "enumerate" p) [a] [] pos) (IL f):=PI.mono (My.RI hg hm ha hs) λσ H R ⟨H0,A0,A,E,ρ,items,st,e,q⟩=>by
 obtain⟨ds,e1,e⟩:=bind_some e;refine⟨H0,A0,A,E,ρ,ds,st,e1,λvs H1 G r1=>?_⟩;split at e
 case h_2=>cases e
 rename_i da;obtain⟨xs,e2,rfl⟩:=map_some e;obtain⟨v,rfl,r2⟩:=r1.one;obtain⟨N,F,us,rfl,q1,_,k1⟩:=yT (K:=X.K) e2 r2;refine⟨N,F,us,rfl,q1,q _ H1 [.rep da (.ref F)] G (λp U=>?_) ?_⟩
 ·rw[List.mem_singleton.mp U];exact r2
 ·intro A' H' lv hE i
  have W:Rep A' H' da (.ref F):=hE (.rep da (.ref F)) (zar ..);obtain⟨z,g1,B⟩:=k1 A' H' W;refine⟨λhi=>⟨z,g1,by rw[B.length];rw[fR]at hi;exact hi⟩,λd hd=>?_⟩;obtain⟨x,ex,rfl⟩:=iK hd;obtain⟨u,M,ru⟩:=B.get' ex;refine⟨⟨z,g1,(List.getElem?_eq_some_iff.mp M).1⟩,λx' H2 ⟨p,u',e4,n,Y,e6⟩=>?_⟩;subst e4 Y;have J:=e6 z g1;rw[M]at J;cases J;rw[zaK];exact⟨Ext.new n,.tup aL (.cons (.int _) (.cons (ru.ext (Ext.new n)) .nil))⟩
@[simp] theorem q_enum:IL f ρ=(f ρ).bind λds=>match ds with
 | [a]=>(hZ a).map (gU 0)
 | _=>none:=rfl
end P
namespace P
open L2
structure Ro where
 j:Int
 k:Int
 a:Int
 b:Int
 p:Int
structure GR(M many:Int)(rs:List Ro):Prop where
 len:rs.length<=12
 jk:∀r∈rs,0<=r.j/\r.j<r.k/\r.k<many
 ab:∀r∈rs,(0<=r.a/\r.a<M)/\0<=r.b/\r.b<M
 pr:∀r∈rs,0<=r.p/\r.p<=10^30
noncomputable def lX(rs:List Ro)(n:Int):Option Ro:=if 0<=n then rs[n.toNat]? else none
theorem rR(h:lX rs n=some r):r∈rs:=by
 unfold lX at h;split at h
 ·exact zaw h
 ·cases h
set_option tactic.hygienic true in
theorem E6(h:lX rs n=some r):0<=n/\n<(rs.length:Int):=by
 unfold lX at h;split at h
 ·rename_i h0
  have:=(List.getElem?_eq_some_iff.mp h).1
  lia
 ·cases h
theorem WU(q:0<=n)(h:n<(rs.length:Int)):∃r,lX rs n=some r:=by
 unfold lX;rw[if_pos q];have:n.toNat<rs.length:=by lia
 exact⟨rs[n.toNat],by simp[this]⟩
def gw(rs:List Ro):Int->List Int->Option Int
 | at_,[]=>some at_
 | at_,n::w=>(lX rs n).bind λr=>if r.j=at_ then gw rs r.k w else none
theorem pG:∀ {at_:Int} {v w:List Int},gw rs at_ (v++w)=(gw rs at_ v).bind λe=>gw rs e w
 | at_,[],w=>rfl
 | at_,n::v,w=>by
  show((lX rs n).bind λr=>if r.j=at_ then gw rs r.k (v++w)else none)=_;cases e:lX rs n with
  | none=>simp[gw,e]
  | some r=>
   by_cases h:r.j=at_
   ·simp[gw,e,h,pG (v:=v) (w:=w)]
   ·simp[gw,e,h]
theorem R8(h:gw rs at_ w=some e)(z:lX rs n=some r)(q:r.j=e):gw rs at_ (w++[n])=some r.k:=by
 rw[pG,h];simp[gw,z,q]
theorem zP:∀ {at_ e:Int} {w:List Int},gw rs at_ w=some e->∀n∈w,∃r,lX rs n=some r
 | at_,e,[],_,n,h=>nomatch h
 | at_,e,m::w,h,n,hn=>by
  unfold gw at h;cases er:lX rs m with
  | none=>rw[er]at h;cases h
  | some r=>
   rw[er]at h;simp only[zcH]at h;split at h
   ·rcases List.mem_cons.mp hn with z|z
    ·rw[z];exact⟨r,er⟩
    ·exact zP h n z
   ·cases h
theorem lF(g:GR M many rs):∀ {at_ e:Int} {w:List Int},gw rs at_ w=some e->at_+(w.length:Int)<=e
 | at_,e,[],h=>by cases h;simp
 | at_,e,m::w,h=>by
  unfold gw at h;cases er:lX rs m with
  | none=>rw[er]at h;cases h
  | some r=>
   rw[er]at h;simp only[zcH]at h;split at h
   ·have:=lF g h
    have:=(g.jk r (rR er)).2.1;simp only[zaz];lia
   ·cases h
def gW(rs:List Ro)(w:List Int):Int:=(w.map λn=>match lX rs n with|some r=>r.p|none=>0).sum
theorem eV:gW rs (v++w)=gW rs v+gW rs w:=by
 unfold gW;rw[zaI,zek]
theorem VN(g:GR M many rs):∀ {at_ e:Int} {w:List Int},gw rs at_ w=some e->at_<many->e<many
 | at_,e,[],h,hl=>by cases h;exact hl
 | at_,e,m::w,h,hl=>by
  unfold gw at h;cases er:lX rs m with
  | none=>rw[er]at h;cases h
  | some r=>
   rw[er]at h;simp only[zcH]at h;split at h
   ·exact VN g h (g.jk r (rR er)).2.2
   ·cases h
noncomputable def fl{α:Type}(h:Nat->Ro->List α):Nat->List Ro->List α
 | _,[]=>[]
 | m,r::rs=>h m r++fl h (m+1) rs
noncomputable def sg(q:Nat->Ro->Int):Nat->List Ro->Int
 | _,[]=>0
 | m,r::rs=>q m r+sg q (m+1) rs
theorem zN{B:Type}{h:Nat->Ro->List B}{a:B}:∀ {rs:List Ro} {m:Nat},a∈fl h m rs↔∃i r,rs[i]?=some r/\a∈h (m+i) r
 | [],m=>by simp[fl]
 | r::rs,m=>by
  unfold fl;rw[List.mem_append,zN (rs:=rs) (m:=m+1)];constructor
  ·rintro(z|⟨i,q,e,z⟩)
   ·exact⟨0,r,rfl,z⟩
   ·exact⟨i+1,q,by simpa using e,by rw[show m+(i+1)=m+1+i by lia];exact z⟩
  ·rintro⟨i,q,e,z⟩
   cases i with
   | zero=>simp at e;subst e;exact .inl z
   | succ i=>exact .inr ⟨i,q,by simpa using e,by rw[show m+1+i=m+(i+1) by lia];exact z⟩
theorem w9{q:Type}{h:Nat->Ro->List q}:∀ {a b:List Ro} {m:Nat},fl h m (a++b)=fl h m a++fl h (m+a.length) b
 | [],b,m=>by simp[fl]
 | r::a,b,m=>by
  show h m r++fl h (m+1) (a++b)=(h m r++fl h (m+1) a)++_;rw[w9,zel,zaz,show m+1+a.length=m+(a.length+1) by lia]
theorem SV{q:Type}{h:Nat->Ro->List q}{rs:List Ro}{i:Nat}{r:Ro}(e:rs[i]?=some r):fl h 0 (rs.take (i+1))=fl h 0 (rs.take i)++h i r:=by
 have hi:i<rs.length:=(List.getElem?_eq_some_iff.mp e).1;rw[zcY,e,w9];have:(rs.take i).length=i:=by simp;lia
 simp[this,fl]
theorem HX{G:Type}{R:G->G->Prop}{h:Nat->Ro->List G}:∀ {rs:List Ro} {m:Nat},(∀i r,rs[i]?=some r->(h (m+i) r).Pairwise R)->(∀i j r q,i<j->rs[i]?=some r->rs[j]?=some q->∀a∈h (m+i) r,∀b∈h (m+j) q,R a b)->(fl h m rs).Pairwise R
 | [],m,_,_=>zdq
 | r::rs,m,h1,h2=>by
  unfold fl;rw[List.pairwise_append];refine⟨h1 0 r rfl,HX (rs:=rs) (m:=m+1) (λi q e=>?_) (λi j q F J e M a B b z=>?_),λa B b z=>?_⟩
  ·have:=h1 (i+1) q (by simpa using e)
   rw[show m+1+i=m+(i+1) by lia];exact this
  ·rw[show m+1+i=m+(i+1) by lia]at B
   rw[show m+1+j=m+(j+1) by lia]at z;exact h2 (i+1) (j+1) q F (by lia) (by simpa using e) (by simpa using M) a B b z
  ·obtain⟨j,q,e,z⟩:=zN.mp z
   rw[show m+1+j=m+(j+1) by lia]at z;exact h2 0 (j+1) r q (by lia) rfl (by simpa using e) a B b z
def bS(rs:List Ro)(k:Int):Nat->Int->List (List Int)
 | 0,_=>[]
 | n+1,x=>if x=k then [[]]else fl (λi r=>if r.j=x/\r.k<=k then(bS rs k n r.k).map λw=>(i:Int)::w else []) 0 rs
theorem HF{rs:List Ro}{i:Nat}:lX rs (i:Int)=rs[i]?:=by unfold lX;rw[if_pos (by lia)];simp
set_option tactic.hygienic true in
theorem jA{rs:List Ro}{k:Int}:∀ {n:Nat} {x:Int} {w:List Int},w∈bS rs k n x->gw rs x w=some k
 | 0,x,w,h=>nomatch h
 | n+1,x,w,h=>by
  unfold bS at h;split at h
  ·rename_i e
   rw[List.mem_singleton.mp h,e];rfl
  ·obtain⟨i,r,e,hw⟩:=zN.mp h
   rw[zaK]at hw;split at hw
   ·rename_i hc
    obtain⟨v,q,rfl⟩:=List.mem_map.mp hw;have:=jA q;simp[gw,HF,e,hc.1,this]
   ·cases hw
set_option tactic.hygienic true in
theorem oE(g:GR M many rs):∀ {n:Nat} {x:Int} {w:List Int},k-x<(n:Int)->gw rs x w=some k->w∈bS rs k n x
 | 0,x,w,hn,h=>by have:=lF g h;simp at hn;lia
 | n+1,x,w,hn,h=>by
  unfold bS;cases w with
  | nil=>cases h;rw[if_pos rfl];exact List.mem_singleton.mpr rfl
  | cons m v=>
   have q:=lF g h;simp only[zaz]at q;rw[if_neg (by lia)];unfold gw at h;cases er:lX rs m with
   | none=>rw[er]at h;cases h
   | some r=>
    rw[er]at h;simp only[zcH]at h;split at h
    ·rename_i hj
     have B:=E6 er;obtain⟨i,rfl⟩:∃i:Nat,m=(i:Int):=⟨m.toNat,by lia⟩;rw[HF]at er;have F:=(g.jk r (zaw er)).2.1;have z:=lF g h;refine zN.mpr ⟨i,r,er,?_⟩;rw[zaK,if_pos ⟨hj,by lia⟩];exact List.mem_map.mpr ⟨v,oE g (by simp at hn;lia) h,rfl⟩
    ·cases h
theorem qN{rs:List Ro}{k:Int}:∀(n:Nat) (x:Int),(bS rs k n x).Pairwise λa b=>HT.lexLt a b=true
 | 0,x=>zdq
 | n+1,x=>by
  unfold bS;split
  ·exact List.pairwise_singleton _ _
  ·refine HX (λi r _=>?_) (λi j r F B _ _ a q b z=>?_)
   ·split
    ·rw[zem]
     refine(qN n r.k).imp λ{a b} h=>?_
     show(if _=_ then HT.lexLt a b else _)=true;rw[if_pos rfl];exact h
    ·exact zdq
   ·split at q
    ·split at z
     ·obtain⟨u,_,rfl⟩:=List.mem_map.mp q
      obtain⟨v,_,rfl⟩:=List.mem_map.mp z;show(if _=_ then HT.lexLt u v else _)=true;rw[if_neg (by lia)];exact decide_eq_true (by lia)
     ·cases z
    ·cases q
theorem wJ:∀a:List Int,HT.lexLt a a=false
 | []=>rfl
 | x::a=>by show(if x=x then HT.lexLt a a else _)=false;rw[if_pos rfl];exact wJ a
theorem EN(n:Nat)(x:Int):(bS rs k n x).Nodup:=
 (qN n x).imp λ{a b} h e=>by rw[e,wJ]at h;cases h
theorem tK{z:Type}[DecidableEq z]:∀ {l K:List z},l.Nodup->(∀x∈l,x∈K)->l.length<=K.length
 | [],K,_,_=>zaJ _
 | a::l,K,h,hs=>by
  have q:=hs a (zar ..);have h2:=List.nodup_cons.mp h;have:=tK (l:=l) (K:=K.erase a) h2.2 λx hx=>(List.mem_erase_of_ne λe=>h2.1 (by rw[<- e];exact hx)).mpr (hs x (zap _ hx))
  rw[List.length_erase_of_mem q]at this;have:=List.length_pos_of_mem q;simp only[zaz];lia
theorem kX{q:Type}{h:Nat->Ro->List q}{B:Nat}:∀ {rs:List Ro} {m:Nat},(∀i r,rs[i]?=some r->(h (m+i) r).length<=B)->(fl h m rs).length<=rs.length*B
 | [],m,_=>by simp[fl]
 | r::rs,m,hb=>by
  unfold fl;rw[zbb,zaz,Nat.succ_mul];have h1:=hb 0 r rfl;have h2:=kX (h:=h) (B:=B) (rs:=rs) (m:=m+1) λi z e=>by
   have:=hb (i+1) z (by simpa using e);rw[show m+1+i=m+(i+1) by lia];exact this
  simp only[Nat.add_zero]at h1
  lia
set_option tactic.hygienic true in
theorem kZ{M many:Int}{rs:List Ro}(g:GR M many rs){k:Int}:∀(n:Nat) (x:Int) (d:Nat),k-x<=(d:Int)->(bS rs k n x).length<=12^d
 | 0,x,d,_=>zaJ _
 | n+1,x,d,hd=>by
  unfold bS;split
  ·exact Nat.one_le_pow _ _ (by decide)
  ·by_cases hx:x<k
   ·obtain⟨e,rfl⟩:∃e,d=e+1:=⟨d-1,by lia⟩
    refine zaM (kX (B:=12^e) λi r er=>?_) ?_
    ·split
     ·rename_i hc
      rw[zah];have q:=g.jk r (zaw er);exact kZ g n r.k e (by lia)
     ·exact zaJ _
    ·rw[Nat.pow_succ,Nat.mul_comm]
     exact Nat.mul_le_mul_left _ g.len
   ·refine zaM (kX (B:=0) λi r er=>?_) (by simp)
    split
    ·rename_i hc
     have q:=g.jk r (zaw er)
     lia
    ·exact zaJ _
end P
namespace P
theorem cE{n:Nat}(h:n<=1000000):bZ [.int (n:Int)]=some (aU 0 1 n):=by
 show(if rF (n:Int)then _ else _)=_;rw[if_pos (by simp only[rF,zaS,decide_eq_true_eq];lia)];simp
theorem eL(q:0<=y)(h:y<=1000000):bZ [.int y]=some (aU 0 1 y.toNat):=by
 show(if rF y then _ else _)=_;rw[if_pos (by simp only[rF,zaS,decide_eq_true_eq];lia)]
theorem L9(h:v.length+w.length<=1000000):eY (tupI v) (tupI w)=some (tupI (v++w)):=by
 unfold tupI;rw[q_addAT,if_pos (by simp only[a7,zah];exact decide_eq_true h),zaI]
noncomputable def lY(r:Ro):D:=.tup [.int r.j,.int r.k,.int r.a,.int r.b,.int r.p]
theorem u7(h:lX rs n=some r):gE (rs.map lY) n=some (lY r):=by
 have q:=E6 h;obtain⟨j,rfl⟩:∃j:Nat,n=(j:Int):=⟨n.toNat,by lia⟩;unfold lX at h;rw[if_pos (by lia)]at h;refine bV ?_;rw[zaA];simp at h;rw[h];rfl
theorem at0:gE (a::l) 0=some a:=bV (j:=0) rfl
theorem at1:gE (a::b::l) 1=some b:=bV (j:=1) rfl
theorem at2:gE (a::b::c::l) 2=some c:=bV (j:=2) rfl
theorem VG:gE (a::b::c::d::l) 3=some d:=bV (j:=3) rfl
theorem Q0:gE (a::b::c::d::e::l) 4=some e:=bV (j:=4) rfl
theorem ZH:aI (lY r) (.int 0)=some (.int r.j):=by simp[lY,at0]
theorem ZI:aI (lY r) (.int 1)=some (.int r.k):=by simp[lY,at1]
theorem qb4:aI (lY r) (.int 4)=some (.int r.p):=by simp[lY,Q0]
theorem lA{K:Nat}{f:Ev}{rest:List (Option D)}{F:Int->D}(h:∀k:Int,0<=k->k<(K:Int)->f (some (.int k)::rest)=some (F k)):∀(l:List Nat) (o:Option D),(∀k∈l,k<K)->bE (aR 0) fH f (l.map λ(k:Nat)=>D.int (k:Int)) (o::rest)=some (l.map λ(k:Nat)=>F (k:Int))
 | [],o,_=>rfl
 | k::l,o,hl=>by
  have ih:=lA h l (some (.int (k:Int))) λm z=>hl m (zap _ z)
  have q:=h (k:Int) (by lia) (by have:=hl k (zar ..);lia);simp[bE,q,ih]
theorem uF:∀(ws:List (List Int)) (o:Option D),(∀w∈ws,w.length<=1000)->bE (aR 0) fH (bC eY (fK (aC (aD 1) aZ)) (aD 0)) (ws.map tupI) [o,some (.int t)]=some ((ws.map λw=>t::w).map tupI)
 | [],o,_=>rfl
 | w::ws,o,h=>by
  have ih:=uF (t:=t) ws (some (tupI w)) λv z=>h v (zap _ z)
  have q:=L9 (v:=[t]) (w:=w) (by have:=h w (zar ..);simp;lia);have tt:D.tup [.int t]=tupI [t]:=rfl;simp only[List.singleton_append]at q;simp[-zaq,bE,tt,q,ih]
end P
namespace My
noncomputable def qaN(a:Bool):String:=if a=true then "str_ascii_iterator" else "str_iterator"
def ItS(x:Str):It:=⟨λi H=>i<x.cps.size,λi H y H'=>H'=H/\∃c,x.cps[i]?=some c/\y=.str ⟨#[c]⟩,λi H=>x.cps.size<=i⟩
theorem OC{P:zai}{w:World}{K:zae}{tg:Expr}(a:Bool)(x:Str)(t:Tok)(it:Addr):Turn P w K tg (ItS x) [it] it (λi h=>h.IsStrIter it (qaN a) x t i) where
 mem:=by simp
 obj:=λi h st b q=>by
  have e:b=it:=by simpa using q
  subst e;obtain⟨o,e,c,d⟩:=st;exact⟨o,e,λv z=>by rw[d]at z;cases z⟩
 keep:=λi h h' st k=>let ⟨o,ho,r⟩:=st;⟨o,k it (by simp) o ho,r⟩
 item:=by
  intro X hP hw hK Y i pins s σ H E I G st hg;subst hP hw hK;obtain⟨M,f1,f2,N,J,F⟩:=G it (by simp);have hi:i<x.cps.size:=hg;have hx:x.cps[i]?=some x.cps[i]:=by simp[hi]
  cases a with
  | true=>
   refine wpAny_pyNext_ascii_item st hx λh' B sb=>?_
   have W:Inv X pins σ H {s with heap:=h',toks:=s.toks+1}:=I.turned (t':=s.toks+1) (λb o q e=>(sb.2 b q).trans e) M f1 N J F;obtain⟨o,e,c,d⟩:=id B;exact⟨_,rfl,vQ (s:={s with heap:=h',toks:=s.toks+1}) e c d (by decide) ⟨.str ⟨#[x.cps[i]]⟩,H,W,⟨_,rfl⟩,⟨rfl,_,hx,rfl⟩,B,λb q=>(G b q).1⟩⟩
  | false=>
   refine wpAny_pyNext_wide_item st hx λh' B sb=>?_
   have W:Inv X pins σ H {s with heap:=h',toks:=s.toks+1}:=I.turned (t':=s.toks+1) (λb o q e=>(sb.2 b q).trans e) M f1 N J F;obtain⟨o,e,c,d⟩:=id B;exact⟨_,rfl,vQ (s:={s with heap:=h',toks:=s.toks+1}) e c d (by decide) ⟨.str ⟨#[x.cps[i]]⟩,H,W,⟨_,rfl⟩,⟨rfl,_,hx,rfl⟩,B,λb q=>(G b q).1⟩⟩
 done:=by
  intro X hP hw hK Y i pins s σ H E I G st hg;subst hP hw hK;obtain⟨M,f1,f2,N,J,F⟩:=G it (by simp);have hi:x.cps.size<=i:=hg;have hx:x.cps[i]?=none:=by simp[hi]
  cases a with
  | true=>exact wpAny_pyNext_ascii_end (I.ok.hd Y) st hx λh' U=>⟨rfl,I.turned (t':=s.toks) (λb o q e=>U b o q e) M f1 N J F⟩
  | false=>exact wpAny_pyNext_wide_end (I.ok.hd Y) st hx λh' U=>⟨rfl,I.turned (t':=s.toks) (λb o q e=>U b o q e) M f1 N J F⟩
 self:=λ_ _ _ _ _ st h=>by
  cases a with
  | true=>exact wpAny_pyIter_striter_ascii st h
  | false=>exact wpAny_pyIter_striter_wide st h
def qbO(tl:TE):TI:=λσ H R=>tl σ H λx H1=>∃y,x=.str y/\R (ItS y) H1
section
variable {X:Cx}{tg:Expr}
theorem YN{l:Expr}{tl:TE}(G:PE X l tl):PI X tg l (qbO tl):=by
 intro pins s σ H R I h;refine cK (G pins s σ H _ I h) λv z ⟨x,H1,B,r1,J⟩=>?_
 obtain⟨y,rfl,q⟩:=J;obtain⟨t,rfl⟩:=r1;have fin:∀a:Bool,PIE X pins σ tg R (.ref z.heap.objs.size) {z with heap:=z.heap.push {cls:=.type (qaN a),data:=.fields #[.str y t,.int 0 0]} }:=λa=>by
  refine⟨z.heap.objs.size,[z.heap.objs.size],_,_,H1,rfl,B.kept (t':=z.toks) λb o e=>zam _ e,OC a y t _,⟨_,zaE _ rfl,rfl,rfl⟩,λb F=>?_,q⟩;have e:b=z.heap.objs.size:=by simpa using F
  subst e;exact B.fpOk (zaj _) (B.hok.fresh (zaj _))
 cases ha:y.cps.all (·<128)
 ·exact wpAny_pyIter_wide ha (fin false)
 ·exact wpAny_pyIter_ascii ha (fin true)
theorem K3:OpR X (zaB .LtE) (λx y H Q=>∃i j,x=.str i/\y=.str j/\Q (.bl (!decide (j.cps.toList<i.cps.toList))) H):=by
 intro pins s σ H x y v u Q I z B h;obtain⟨i,j,rfl,rfl,q⟩:=h;obtain⟨t,rfl⟩:=z;obtain⟨t',rfl⟩:=B;exact PySem.P.le_str ⟨.bl _,H,I,rfl,q⟩
theorem WM{bs:List Bool}{q:List Value}(r:Vals (bs.map V.bl) q):TruthOf P w A (λi v=>q.toArray[i]?=some v) (λi=>(bs[i]?).getD false):=by
 intro i v s Q E z B;have z:q[i]?=some v:=by simpa using z
 have F:=r.length;rw[zah]at F;have hi:i<bs.length:=by rw[F];exact(List.getElem?_eq_some_iff.mp z).1
 have e:(bs.map V.bl)[i]?=some (.bl bs[i]):=by simp[hi]
 obtain⟨u,G,J⟩:=r.get e;rw[z]at G;cases G;cases J;have:(bs[i]?).getD false=bs[i]:=by simp[hi]
 dsimp only at B;rw[this]at B;exact zb7 B
theorem range_all(bs:List Bool):(zas bs.length).all (λi=>(bs[i]?).getD false)=bs.all id:=by
 rw[zcy,zed,zed];constructor
 ·intro h b q
  obtain⟨i,hi,rfl⟩:=List.getElem_of_mem q;have:=h i (List.mem_range.mpr hi);simpa[hi]using this
 ·intro h i hi
  have hi:=List.mem_range.mp hi;simpa[hi]using h bs[i] (zen hi)
theorem KN(hc:X.calm=true):CallR X (.builtin "all") (λxs H Q=>∃(p:Addr) (bs:List Bool),xs=[.ref p]/\SqL X.K H p (bs.map V.bl)/\Q (.bl (bs.all id)) H):=by
 intro pins s σ H xs us Q I r h;obtain⟨p,bs,rfl,N,q⟩:=h;obtain⟨u,rfl,rx⟩:=vals1 r;cases rx;obtain⟨B,J,pl,hz⟩:=I.list N;have F:s.heap.IsList p B.toArray:=pl.isList;obtain⟨o,U,W,n,hd⟩:=id F;have G:p≠s.heap.objs.size:=zaF (zan U);refine call_all_walk (zbU F ?_);refine⟨s.heap.objs.size,_,_,_,_,_,_,rfl,Walks.list (prog:=X.prog) (w:=X.w) (A:=X.A.in1) (I.ok.hd hc) s.heap.objs.size p G B.toArray,⟨⟨_,zaE _ rfl,rfl,rfl⟩,F.at λo e=>zam _ e⟩,WM J,λh' tk hm=>?_⟩;have Y:∀b o,s.heap.get? b=some o->h'.get? b=some o:=λb o e=>hm b o (λM=>absurd (zan e) ((List.mem_singleton.mp M) ▸ zbQ _)) (zam _ e)
 have z:=J.length;rw[zah]at z;refine⟨.bl (bs.all id),H,I.kept (t':=tk) Y,?_,q⟩;rw[zax,<- z,range_all];rfl
theorem BK:∀ {ss:List Str} {its:List Value},Vals (ss.map V.str) its->StrsAre its ss
 | [],_,.nil=>.nil
 | x::ss,_,.cons r t=>by
  obtain⟨k,rfl⟩:=r;exact .cons x k (BK t)
def rJoin(K:zae):V->List V->Hp->VK->Prop:=λx vs H Q=>∃(sep:Str) (p:Addr) (ss:List Str),x=.str sep/\vs=[.ref p]/\SqL K H p (ss.map V.str)/\(ss.map (·.length)).sum+ss.length*sep.length<=16777216/\Q (.str (Txt.join sep ss)) H
theorem SS:MtM X "str.join" (rJoin X.K):=by
 intro pins s σ H x vs v W Q I N F h;obtain⟨sep,p,ss,rfl,rfl,B,U,q⟩:=h;obtain⟨t,rfl⟩:=N;obtain⟨u,rfl,G⟩:=F.one;cases G;obtain⟨z,M,J,_⟩:=I.list B;exact join_list (items:=z.toArray) J.isList (by simpa using BK M) U λt' k=>⟨.str (Txt.join sep ss),H,I.kept (t':=k) λ_ _ e=>e,⟨_,rfl⟩,q⟩
end
end My
namespace P
section
variable {X:Cx}{O O':List Nat}{L:Lp}
noncomputable def QR:List D->Option (List Bool)
 | []=>some []
 | .bl b::l=>(QR l).map (b::·)
 | _=>none
theorem BO:∀ {ds:List D} {ns:List Bool} {vs:List V},QR ds=some ns->RepL A H ds vs->vs=ns.map V.bl
 | [],_,_,e,.nil=>by cases e;rfl
 | d::ds,ns,_,e,.cons h t=>by
  cases d with
  | bl b=>
   obtain⟨m,q,rfl⟩:=map_some e;cases RepB.bl_inv (.of h);rw[BO q t];rfl
  | _=>exact nn e
theorem BL:∀bs:List Bool,QR (bs.map .bl)=some bs
 | []=>rfl
 | b::bs=>by rw[zak,QR,BL bs];rfl
def QN:List D->Option D
 | [.lst l]=>(QR l).map λbs=>.bl (bs.all id)
 | _=>none
theorem OX(F:X.calm=true):jU X (.builtin "all") QN:=CallR.mono (My.KN F) <| by
 rintro xs H Q ⟨A,ds,d,G,r,e,q⟩;unfold QN at e;split at e
 ·obtain⟨bs,B,rfl⟩:=map_some e
  obtain⟨v,rfl,z⟩:=r.one;obtain⟨a,J,rfl,h1,r1⟩:=z.lst_inv;rw[BO B r1]at h1;exact⟨a,bs,rfl,.inl h1,q _ H (Ext.refl _ _) (.bl _)⟩
 ·cases e
@[simp] theorem q_all{bs:List Bool}:QN [.lst (bs.map .bl)]=some (.bl (bs.all id)):=by unfold QN;simp only[BL];rfl
noncomputable def QJ:List D->Option (List Str)
 | []=>some []
 | .str b::l=>(QJ l).map (b::·)
 | _=>none
theorem B0:∀ {ds:List D} {ns:List Str} {vs:List V},QJ ds=some ns->RepL A H ds vs->vs=ns.map V.str
 | [],_,_,e,.nil=>by cases e;rfl
 | d::ds,ns,_,e,.cons h t=>by
  cases d with
  | str b=>
   obtain⟨m,q,rfl⟩:=map_some e;cases RepB.str_inv (.of h);rw[B0 q t];rfl
  | _=>exact nn e
theorem wL:∀bs:List Str,QJ (bs.map .str)=some bs
 | []=>rfl
 | b::bs=>by rw[zak,QJ,wL bs];rfl
def IS:D->D->Option D
 | .str sep,.lst l=>(QJ l).bind λss=>if(ss.map (·.length)).sum+ss.length*sep.length<=16777216 then some (.str (Txt.join sep ss))else none
 | _,_=>none
set_option tactic.hygienic true in
theorem RE(M:PB X O o fo)(N:PB X O e fe)(U:∀ {to:TE} {t:TA},PE X o to->PA X [e] t->PE X (.Call (.Attribute o "join" apos) [e] [] cpos) (ZP X.K "str" (My.rJoin X.K) to t))(hs:zag [e] X.env=(false,eval e X.env)::zag [] X.env:=by rfl):PD X O (.Call (.Attribute o "join" apos) [e] [] cpos) (bC IS fo fe):=
 PE.mono (U M (CB N GI hs)) <| by
  rintro σ H Q ⟨H0,A0,A,E,ρ,d,st,e,q⟩;obtain⟨x,ex,e⟩:=bind_some e;obtain⟨y,G,e⟩:=bind_some e;refine⟨H0,A0,A,E,ρ,x,st,ex,λv H1 F r1=>?_⟩;unfold IS at e;split at e
  ·rename_i sep l _
   obtain⟨ss,es,e⟩:=bind_some e;by_cases B:(ss.map (·.length)).sum+ss.length*sep.length<=16777216
   ·rw[if_pos B]at e
    cases e;cases r1.str_inv;refine⟨rfl,H0,A0,A,E,ρ,[.lst l],st.mono F,by unfold aC aZ;rw[G];rfl,λvs H2 J r2=>?_⟩;obtain⟨w,rfl,z⟩:=r2.one;obtain⟨p,W,rfl,h1,r3⟩:=z.lst_inv;rw[B0 es r3]at h1;exact⟨sep,p,ss,rfl,rfl,.inl h1,B,q _ H2 (F.trans J) (.str _)⟩
   ·rw[if_neg B]at e;cases e
  ·cases e
theorem Y0(h:(ss.map (·.length)).sum+ss.length*sep.length<=16777216):IS (.str sep) (.lst (ss.map .str))=some (.str (Txt.join sep ss)):=by
 unfold IS;simp only[wL,zcH];rw[if_pos h]
noncomputable def VB:D->D->Option D
 | .int i,.int j=>some (.bl (decide (i<=j)))
 | .str i,.str j=>some (.bl (!decide (j.cps.toList<i.cps.toList)))
 | _,_=>none
theorem YL:mE X (zaB .LtE) VB:=OpR.mono (OpR.or qaz My.K3) <| by
 rintro x y H Q ⟨A,dx,G,d,F,z,B,e,q⟩;unfold VB at e;split at e
 ·cases e
  cases z.int_inv;cases B.int_inv;exact .inl ⟨_,_,rfl,rfl,q _ H (Ext.refl _ _) (.bl _)⟩
 ·cases e
  cases z.str_inv;cases B.str_inv;exact .inr ⟨_,_,rfl,rfl,q _ H (Ext.refl _ _) (.bl _)⟩
 ·cases e
@[simp] theorem q_leAI:VB (.int i) (.int j)=some (.bl (decide (i<=j))):=rfl
@[simp] theorem q_leAS:VB (.str i) (.str j)=some (.bl (!decide (j.cps.toList<i.cps.toList))):=rfl
def oM(x y:D):Option D:=match x,y with
 | .str i,.str j=>some (.bl (!(!(Builtin.Str.occurrences j i 0 j.length 1).isEmpty)))
 | x,y=>zR x y
theorem JP(F:X.A.units+64<cLine):mE X (zaB .NotIn) oM:=OpR.mono (OpR.or (NX F) x8) <| by
 rintro x y H Q ⟨A,dx,J,d,G,z,B,e,q⟩;unfold oM at e;split at e
 ·cases e
  cases z.str_inv;cases B.str_inv;exact .inr ⟨_,_,rfl,rfl,q _ H (Ext.refl _ _) (.bl _)⟩
 ·exact .inl ⟨A,_,_,d,G,z,B,e,q⟩
noncomputable def signs(x:Str):List D:=x.cps.toList.map λc=>.str ⟨#[c]⟩
theorem XN:LH (My.ItS x) [] (signs x):=by
 intro A H M J i;have q:(signs x).length=x.cps.size:=by simp[signs]
 refine⟨λhi=>by rw[q]at hi;exact hi,λd hd=>?_⟩;have hi:i<x.cps.size:=by rw[<- q];exact(List.getElem?_eq_some_iff.mp hd).1
 refine⟨hi,λy H' ⟨e,c,F,z⟩=>?_⟩;subst e z;have:d=.str ⟨#[c]⟩:=by
  unfold signs at hd;rw[zaA]at hd;obtain⟨G,B,rfl⟩:=map_some hd;have:x.cps[i]?=some G:=by rw[<- zeg];exact B
  rw[F]at this;cases this;rfl
 subst this;exact⟨Ext.refl _ _,.str _⟩
def gF(f:Ev):Lv:=λρ=>(f ρ).bind λd=>match d with
 | .lst l=>some l
 | .tup l=>some l
 | .dT l=>some (l.map λp=>.tup (p.1.map LG))
 | .str x=>some (signs x)
 | _=>none
@[simp] theorem q_lSeqA:gF f ρ=(f ρ).bind λd=>match d with
 | .lst l=>some l
 | .tup l=>some l
 | .dT l=>some (l.map λp=>.tup (p.1.map LG))
 | .str x=>some (signs x)
 | _=>none:=rfl
theorem NW(h:PD X O e f):PDI X O tg e (gF f):=PI.mono (PI.or (Q9 h) (My.YN h)) <| by
 rintro σ H R ⟨H0,A0,A,E,ρ,items,st,e,q⟩;obtain⟨d,z,e⟩:=bind_some e;cases d with
 | str x=>
  cases e;refine .inr ⟨H0,A0,A,E,ρ,_,st,z,λv H1 B r1=>?_⟩;cases RepB.str_inv (.of r1);exact⟨x,rfl,q _ H1 [] B (λp F=>nomatch F) XN⟩
 | lst l=>exact .inl ⟨H0,A0,A,E,ρ,items,st,by unfold QU;rw[z];exact e,q⟩
 | tup l=>exact .inl ⟨H0,A0,A,E,ρ,items,st,by unfold QU;rw[z];exact e,q⟩
 | dT l=>exact .inl ⟨H0,A0,A,E,ρ,items,st,by unfold QU;rw[z];exact e,q⟩
 | _=>exact nn e
end
structure GInt(mg:Str->Option Value)(x:Str)(i:Int):Prop where
 ex:∃t,mg x=some (.int i t)
@[simp] theorem q_eqS:iG (.str a) (.str b)=some (.bl (decide (a=b))):=by
 unfold iG LK;rw[if_pos (.inl rfl)];by_cases h:a=b
 ·subst h;simp
 ·have h2:¬ D.str a=D.str b:=λz=>h (by injection z)
  simp[h]
@[simp] theorem q_neS:zZ (.str a) (.str b)=some (.bl (!decide (a=b))):=by
 unfold zZ LK;rw[if_pos (.inl rfl)];by_cases h:a=b
 ·subst h;simp
 ·have h2:¬ D.str a=D.str b:=λz=>h (by injection z)
  simp[h]
theorem gJ{f rest:Sv}{ρ:cX}{R:D->Prop}(W:cX->Prop)(h:∃ρ',f ρ=some (.nx ρ')/\W ρ')(k:∀ρ',W ρ'->∃d,rest ρ'=some (.rt d)/\R d):∃d,dA f rest ρ=some (.rt d)/\R d:=by
 obtain⟨ρ',e,w⟩:=h;rw[aH e];exact k ρ' w
theorem HH{c:Bv}{f rest:Sv}{ρ:cX}{R:D->Prop}(b:Bool)(q:c ρ=some b)(B:b=true->∃d,f ρ=some (.rt d)/\R d)(z:b=false->∃d,rest ρ=some (.rt d)/\R d):∃d,dA (zX c f VF) rest ρ=some (.rt d)/\R d:=by
 cases b with
 | true=>
  obtain⟨d,e,r⟩:=B rfl;exact⟨d,uY (by rw[qaY q];exact e),r⟩
 | false=>
  rw[aH (ρ':=ρ) (by rw[qaJ q];rfl)];exact z rfl
def eqN(n:Nat)(d:D):Prop:=∃x,jT d=some x/\x.nb=true/\x.dep<=n
theorem eqN.ok(h:eqN n d)(q:n<=60):fL d=true:=by
 obtain⟨x,e,a,b⟩:=h;unfold fL;rw[e];show(x.nb && decide (x.dep<=60))=true;rw[a,decide_eq_true (by lia)];rfl
theorem eqN.mono(h:eqN n d)(q:n<=m):eqN m d:=by
 obtain⟨x,e,a,b⟩:=h;exact⟨x,e,a,by lia⟩
theorem eqN.int:eqN n (.int i):=⟨.int i,rfl,rfl,zaJ _⟩
theorem eqN.str:eqN n (.str s):=⟨.str s,rfl,rfl,zaJ _⟩
theorem eqN.list:∀ {l:List D},(∀d∈l,eqN n d)->∃xs,jY l=some xs/\My.IZ xs=true/\My.pA xs<=n
 | [],_=>⟨[],rfl,rfl,zaJ _⟩
 | d::l,h=>by
  obtain⟨x,e,a,b⟩:=h d (zar ..);obtain⟨xs,B,z,G⟩:=eqN.list (l:=l) λq F=>h q (zap _ F)
  refine⟨x::xs,?_,?_,?_⟩
  ·rw[jY,e,B];rfl
  ·show(x.nb && My.IZ xs)=true
   rw[a,z];rfl
  ·show max x.dep (My.pA xs)<=n
   lia
theorem eqN.tup(h:∀d∈l,eqN n d):eqN (n+1) (.tup l):=by
 obtain⟨xs,e,a,b⟩:=eqN.list h;refine⟨.tup xs,?_,a,?_⟩
 ·rw[jT,e];rfl
 ·show My.pA xs+1<=n+1
  lia
theorem AU{q:Type}{rest:List (Option D)}{g h:q->D}:∀(l:List q) (o:Option D),(∀a∈l,f (some (g a)::rest)=some (h a))->bE (aR 0) fH f (l.map g) (o::rest)=some (l.map h)
 | [],o,_=>rfl
 | a::l,o,hf=>by
  have ih:=AU (f:=f) (rest:=rest) (g:=g) (h:=h) l (some (g a)) λb B=>hf b (zap _ B)
  have z:=hf a (zar ..);simp[-zac,-zab,aA,aB,bE,z,ih]
theorem yY{f:Ev}{rest:List (Option D)}{R:D->Prop}:∀(l:List D) (o:Option D),(∀a∈l,∃d,f (some a::rest)=some d/\R d)->∃ds,bE (aR 0) fH f l (o::rest)=some ds/\ds.length=l.length/\∀d∈ds,R d
 | [],o,_=>⟨[],rfl,rfl,λ_ h=>nomatch h⟩
 | a::l,o,hf=>by
  obtain⟨ds,e,M,G⟩:=yY (f:=f) (rest:=rest) (R:=R) l (some a) λb F=>hf b (zap _ F)
  obtain⟨d,J,rd⟩:=hf a (zar ..);refine⟨d::ds,by simp[-zac,-zab,aA,aB,bE,J,e],by simp[M],λq B=>?_⟩;rcases List.mem_cons.mp B with z|z
  ·rw[z];exact rd
  ·exact G q z
theorem nB(q:0<=k)(h:k<(l.length:Int)):nE (.lst l) (.int k) e=some (.lst (l.set k.toNat e)):=by
 show(Q1 l.length k).map _=_;unfold Q1;rw[if_pos q,if_pos h];rfl
theorem at_of(q:0<=k)(h:l[k.toNat]?=some d):gE l k=some d:=by
 obtain⟨j,rfl⟩:∃j:Nat,k=(j:Int):=⟨k.toNat,by lia⟩;exact bV (by simpa using h)
theorem vO(z:0<=k)(h:k<(l.length:Int)):∃d,d∈l/\l[k.toNat]?=some d/\gE l k=some d:=by
 have q:k.toNat<l.length:=by lia
 have e:l[k.toNat]?=some l[k.toNat]:=zaP q;exact⟨l[k.toNat],zen q,e,at_of z e⟩
theorem wK(hd:d∈aU 0 1 n):∃i:Int,d=.int i/\0<=i/\i<(n:Int):=by
 unfold aU at hd;obtain⟨j,q,rfl⟩:=List.mem_map.mp hd;have:=List.mem_range.mp q;exact⟨0+(j:Int)*1,rfl,by lia,by lia⟩
theorem GJ:∀ {l:List D},(∀d∈l,∃s:Str,d=.str s)->∃ss:List Str,l=ss.map .str
 | [],_=>⟨[],rfl⟩
 | d::l,h=>by
  obtain⟨s,rfl⟩:=h d (zar ..);obtain⟨ss,e⟩:=GJ (l:=l) λq z=>h q (zap _ z)
  exact⟨s::ss,by rw[e];rfl⟩
theorem GM(I:Nat->cX->Prop)(J:cX->Prop)(h:∀n ρ,I n ρ->(c ρ=some true/\∃m ρ',m<n/\b ρ=some (.nx ρ')/\I m ρ')\/(c ρ=some false/\J ρ)):∀(fuel n:Nat) (ρ:cX),n<fuel->I n ρ->∃ρ',fG c b fuel ρ=some (.nx ρ')/\J ρ'
 | 0,n,ρ,hn,_=>absurd hn (Nat.not_lt_zero n)
 | fuel+1,n,ρ,hn,hi=>by
  rcases h n ρ hi with⟨B,m,ρ',M,G,q⟩|⟨B,z⟩
  ·obtain⟨F,e,z⟩:=GM I J h fuel m ρ' (by lia) q
   refine⟨F,?_,z⟩;unfold fG;rw[B,aA,if_pos rfl,G,aA];exact e
  ·refine⟨ρ,?_,z⟩
   unfold fG;rw[B,aA,if_neg zaC]
theorem JO{c:Bv}{b rest:Sv}{ρ:cX}{R:D->Prop}(I:Nat->cX->Prop)(J:cX->Prop)(n:Nat)(B:n<100000)(q:I n ρ)(h:∀n ρ,I n ρ->(c ρ=some true/\∃m ρ',m<n/\b ρ=some (.nx ρ')/\I m ρ')\/(c ρ=some false/\J ρ))(k:∀ρ',J ρ'->∃d,rest ρ'=some (.rt d)/\R d):∃d,dA (mZ c b) rest ρ=some (.rt d)/\R d:=by
 obtain⟨ρ',e,z⟩:=GM I J h 100000 n ρ B q;have F:mZ c b ρ=some (.nx ρ'):=e;rw[aH F];exact k ρ' z
theorem PD.pe(h:PD X O e f):PE X e (tD Rep O f):=h
noncomputable def isStar:Expr->Bool
 | .Starred ..=>true
 | _=>false
theorem cY(h:isStar e=false):zag (e::es) env=(false,eval e env)::zag es env:=by
 cases e <;> first|rfl|cases h
theorem jG:∀ {es:List Expr},(es.all λe=>!isStar e)=true->(zaH pos (zag es env)).any (·.1)=false
 | [],_=>by simp[zag,zaH]
 | e::es,h=>by
  rw[List.all_cons,zaS]at h;have q:isStar e=false:=by cases z:isStar e;rfl;rw[z]at h;exact absurd h.1 (by decide)
  have ih:=jG (pos:=pos) (env:=env) (es:=es) h.2;rw[cY q];simp only[zaH,zak,zcc,Bool.false_or]at ih ⊢;exact ih
end P
namespace My
open PySem.SeqAt
theorem kC:entryFor table "dict.update.loop" = some zb5.«dict.update.loop»:=entryFor_of_tree (by kernel_rfl)
theorem dQ:plainId "dict.update.loop" = true:=by decide +kernel
theorem sP:typeLookup (.type "list") (zbi "keys")=pure none:=by rw[typeLookup_type,builtinLookup_eq_fast];kernel_rfl
theorem rL:typeLookup (.type "tuple") (zbi "keys")=pure none:=by rw[typeLookup_type,builtinLookup_eq_fast];kernel_rfl
section
variable {prog:zai}{w:World}{A:zao}{E:Value->zad->Prop}{s:zad}
theorem sM(hx:s.heap.get? a=some o)(G:o.cls=.type "list")(q:o.data=.seq xs k)(hd:o.dict=none)(M:A.handled=none)
  (h:∀h' tk,(∀b o,s.heap.get? b=some o->h'.get? b=some o)->Q none {s with heap:=h',toks:=tk}):wpAny (model prog w) A (getAttr? (.ref a) "keys") Q E s:=by
 obtain⟨c,J,U,W⟩:=o;simp only at G q hd;subst G q hd;obtain⟨N,g,d,tk,Y⟩:=s;have hT:∀B,(⟨N,g,d,B,Y⟩:zad).TypeIs (.ref a) "list" := λ_=>⟨_,hx,rfl⟩
 have f1:=sub_AttributeError;have f3:=PySem.F.slot_list_getattribute.lookup;have f4:=PySem.F.slot_list_getattribute.bind (.ref a);have f5:=am_list_getattr_none;unfold getAttr? getAttrBy? getAttrBy
 repeat (any_goals (first|assumption|exact hT _|((with_reducible show wpAny _ _ (call (Value.builtin "list.__getattribute__") _ _) _ _ _);refine zcD PySem.F.slot_list_getattribute (hT _) am_entry_list_getattribute (PySem.F.args_list_getattribute_2 _ _) (meets_getattribute_miss_list a xs k W (zbi "keys") _ sP (by decide) (by size_fits)) ⟨hx,M,λh' B e z=>?_⟩)|wp_step))
 obtain⟨t',u',he⟩:=z.there;show wpAny _ _ (zdJ _ _ _ _ _ _ _) _ _ _;unfold zdJ
 repeat (any_goals (first|assumption|wp_step))
 exact h _ _ z.keeps
theorem rM(hx:s.heap.get? a=some o)(G:o.cls=.type "tuple")(q:o.data=.seq xs k)(hd:o.dict=none)(M:A.handled=none)
  (h:∀h' tk,(∀b o,s.heap.get? b=some o->h'.get? b=some o)->Q none {s with heap:=h',toks:=tk}):wpAny (model prog w) A (getAttr? (.ref a) "keys") Q E s:=by
 obtain⟨c,J,U,W⟩:=o;simp only at G q hd;subst G q hd;obtain⟨N,g,d,tk,Y⟩:=s;have hT:∀B,(⟨N,g,d,B,Y⟩:zad).TypeIs (.ref a) "tuple" := λ_=>⟨_,hx,rfl⟩
 have f1:=sub_AttributeError;have f3:=PySem.F.slot_tuple_getattribute.lookup;have f4:=PySem.F.slot_tuple_getattribute.bind (.ref a);have f5:=am_tuple_getattr_none;unfold getAttr? getAttrBy? getAttrBy
 repeat (any_goals (first|assumption|exact hT _|((with_reducible show wpAny _ _ (call (Value.builtin "tuple.__getattribute__") _ _) _ _ _);refine zcD PySem.F.slot_tuple_getattribute (hT _) am_entry_tuple_getattribute (PySem.F.args_tuple_getattribute_2 _ _) (meets_getattribute_miss_tuple a xs k W (zbi "keys") _ rL (by decide) (by size_fits)) ⟨hx,M,λh' B e z=>?_⟩)|wp_step))
 obtain⟨t',u',he⟩:=z.there;show wpAny _ _ (zdJ _ _ _ _ _ _ _) _ _ _;unfold zdJ
 repeat (any_goals (first|assumption|wp_step))
 exact h _ _ z.keeps
end
section
variable {X:Cx}{pins:List (Addr×Obj)}{σ:L2.St}{H:Hp}{s:zad}{a:Addr}{y v:V}{u r:Value}{A:zao}{E:Value->zad->Prop}
theorem J4(hu:A.units+1<cLine)(I:Inv X pins σ H s)(g:DPut H a y v H')(ry:RelV y u)(rv:RelV v r)(h:∀h' t',Inv X pins σ H' {s with heap:=h',toks:=t'}->za4 a s.heap h'->Q () {s with heap:=h',toks:=t'}) :
  wpAny (model X.prog X.w) A (dictSet a u r) Q E s:=by
 rcases g with⟨kvs,k,e,J,l,N⟩|⟨kvs,k,b,e,J,Y,l,N⟩
 ·subst J N
  obtain⟨z,hd,vs,B,W⟩:=QD I.hok e;have U:vs.length<=zal:=by rw[<- B.length];exact z
  have M:(putK kvs k v).length<=zal:=by have:=eT kvs k v;lia
  refine wpAny_dictSet_pairs (hsz:=U) (vM ry) W λh' F hs=>h _ _ ?_ hs
  have he:∃q,h'.get? a=some q:=let ⟨q,_,_,G,_⟩:=F;⟨q,G⟩;exact lU I (by rw[e];exact zaV) hs he (EV M hd (B.put k rv) F)
 ·subst J N
  cases(show u=zau b from ry);obtain⟨z,hd,xs,B,W⟩:=V8 I.hok e;have U:xs.length<=zal:=by rw[<- zcN B];exact z
  have M:(putK kvs k v).length<=zal:=by have:=eT kvs k v;lia
  refine wpAny_dictSet_heap (hsz:=U) (show A.units<cLine by lia) (pP I.hok Y) W λh' F hs=>h _ _ ?_ hs
  obtain⟨q,es,ep,G,h2,h3,h4,_,h5⟩:=F;refine lU I (by rw[e];exact zaV) hs ⟨q,G⟩ ⟨M,hd,_,(B.put k Y rv).keeps λc ys ec=>?_,q,es,ep,G,h2,h3,h4,h5⟩;rw[aG (vL ec e (λz=>nomatch z))];exact ec
end
inductive Puts(d:Addr):Hp->List (V×V)->Hp->Prop where
 | nil {H:Hp}:Puts d H [] H
 | cons {H H1 H2:Hp} {y v:V} {l:List (V×V)} (h:DPut H d y v H1) (t:Puts d H1 l H2):Puts d H ((y,v)::l) H2
theorem CM(g:DPut H a y v H'):(∃u,H a=some u/\(∀xs,u≠.tup xs)/\∀o w,u≠.frz o w)/\∀b,b≠a->H' b=H b:=by
 rcases g with⟨kvs,k,e,F,l,B⟩|⟨kvs,k,b,e,F,G,l,B⟩
 ·subst B;exact⟨⟨_,e,(λ_ z=>nomatch z),(λ_ _ z=>nomatch z)⟩,λb q=>aG q⟩
 ·subst B;exact⟨⟨_,e,(λ_ z=>nomatch z),(λ_ _ z=>nomatch z)⟩,λb q=>aG q⟩
theorem MV{K:zae}{H H':Hp}{a:Addr}{y v:V}(g:DPut H a y v H'){b:Addr}{xs:List V}(h:SqT K H b xs):SqT K H' b xs:=by
 obtain⟨⟨u,e,B,q⟩,same⟩:=CM g;rcases h with(h|⟨o,h⟩)|h
 ·exact .inl (.inl (by rw[same b (λz=>by rw[z,e]at h;exact B _ (zay h))];exact h))
 ·exact .inl (.inr ⟨o,by rw[same b (λz=>by rw[z,e]at h;exact q _ _ (zay h))];exact h⟩)
 ·exact .inr h
section
variable {X:Cx}{pins:List (Addr×Obj)}{σ:L2.St}{A:zao}{R:Result->zad->Prop}{it d:Addr}{fp:List Addr}{n:Nat}{P:Nat->Value->Prop}{St:Nat->Heap->Prop}{H2:Hp}
theorem mL(W:Walks X.prog X.w A.in1 it fp [it] n P St)(hd:d∉fp)(hu:A.in1.units+1<cLine)(fin:∀s',Inv X pins σ H2 s'->R (.ok (.ret .none)) s'):∀(l:List (V×V)) (j:Nat) (s:zad) (H:Hp) (t:Tok) (i:Int),n-j=l.length->j<=n->St j s.heap->Inv X pins σ H s->lN X pins H it->
  (∀(m:Nat) (p:V×V) (v:Value),l[m]?=some p->P (j+m) v->∃b,v=.ref b/\SqT X.K H b [p.1,p.2])->Puts d H l H2->
  zbF (model X.prog X.w) A (.builtin "dict.update.loop" ⟨[.ref d,.ref it,.int i t,.none],[]⟩) R s
 | [],j,s,H,t,i,hn,hj,st,I,fo,facts,pu=>by
  cases pu;obtain⟨B,f1,f2,G,F,J⟩:=fo;have e:j=n:=by simp at hn;lia
  subst e;refine codeAny_builtin kC ?_;rw[Around.under_plainId dQ _];show wpAny _ A.in1 (za2 (.ref it) >>= λ_=>_) _ _ s;refine zaa (W.done s _ _ st λh1 tk same=>?_);show wpAny _ _ (Builtin.Dict.addKeywords d [] >>= _) _ _ _;exact zaa (zaf (zaf (fin _ (I.turned (t':=tk) (λb o M e=>same b o (by simpa using M) e) B f1 G F J))))
 | (y,v)::l,j,s,H,t,i,hn,hj,st,I,fo,facts,pu=>by
  obtain⟨B,f1,f2,G,F,J⟩:=id fo;cases pu with
  | @cons _ H1 _ _ _ _ dp pu=>
  have lt:j<n:=by rw[zaz]at hn;lia
  refine codeAny_builtin kC ?_;rw[Around.under_plainId dQ _];show wpAny _ A.in1 (za2 (.ref it) >>= λ_=>_) _ _ s;refine zaa (W.item j s _ _ lt st λv1 h1 tk pv N same=>?_);obtain⟨b,rfl,sq⟩:=facts 0 (y,v) v1 rfl pv;have Y:Inv X pins σ H {s with heap:=h1,toks:=tk}:=I.turned (t':=tk) (λb o M e=>same b o (by simpa using M) e) B f1 G F J;obtain⟨ag,rv,ht,hz⟩:=Y.tuple sq;cases rv with
  | @cons _ u _ us ru rt=>
  cases rt with
  | @cons _ r _ us2 rr rt2=>
  cases rt2;obtain⟨o,ho,hc,nn,U⟩:=id ht;show wpAny _ A.in1 (zcm [zau b] _ >>= λ_=>_) _ _ _;refine zaa (zbD ?_);refine zaa (wpAny_tryCatch ?_);unfold Builtin.Dict.pairItems;refine zaa (zcC ht.typeIs ?_);rw[if_pos (by decide)];refine zaa (zbs ho U (zaf ?_));show wpAny _ A.in1 (zcm [u,r] (dictSet d u r)) _ _ _;refine zbD (J4 hu Y dp ru rr λh2 t2 I2 sb=>?_);obtain⟨⟨uo,eu,_,_⟩,q⟩:=CM dp;have nd:it≠d:=λz=>by rw[<- z,B]at eu;cases eu
  refine zaf ⟨plainId_quiet dQ _,mL W hd hu fin l (j+1) _ H1 _ _ (by rw[zaz]at hn;lia) lt (W.frame _ _ _ N λb bf o eb=>?_) I2 ⟨by rw[q it nd];exact B,f1,f2,G,F,J⟩ (λm p v2 hm hp=>?_) pu⟩
  ·exact(sb.2 b (λz=>hd (z ▸ bf))).trans eb
  ·obtain⟨c,e,sq⟩:=facts (m+1) p v2 (by simpa using hm) (by rw[show j+(m+1)=j+1+m by lia];exact hp)
   exact⟨c,e,MV dp sq⟩
end
section
variable {X:Cx}
def Src(X:Cx)(H:Hp)(p:Addr)(ys:List V):Prop:=SqL X.K H p ys\/Rd H p (.tup ys)
theorem D9(hc:X.calm=true)(hu:X.A.units+64<cLine):CallR X (.type "dict") (λxs H Q=>∃p ys l,xs=[.ref p]/\Src X H p ys/\l.length=ys.length/\(∀(m:Nat) (pr:V×V),l[m]?=some pr->∃b,ys[m]?=some (.ref b)/\SqT X.K H b [pr.1,pr.2]) /\
  ∀q,H q=none->∃H2,(Puts q (upd H q (.dK [])) l H2\/Puts q (upd H q (.dT [])) l H2)/\Q (.ref q) H2):=by
 intro pins s σ H xs us Q I r h;obtain⟨p,ys,l,rfl,aK,hl,am,q⟩:=h;obtain⟨u,rfl,rx⟩:=vals1 r;cases rx;obtain⟨H2,pu,q⟩:=q s.heap.objs.size (I.hok.fresh (zaj _));refine callType_codes (Q₁:=λak ab=>ak=.ref s.heap.objs.size/\ab={s with heap:=s.heap.push {cls:=.type "dict",data:=.dict #[]} }) PySem.F.kt_called_dict (PySem.F.kt_typeCall_dict_1 _) PySem.F.entry_dict_init (kt_code_dict_new _ ⟨rfl,rfl⟩) ?_;rintro ak ab ⟨rfl,rfl⟩;have n1:(s.heap.push {cls:=.type "dict",data:=.dict #[]}).get? s.heap.objs.size=some {cls:=.type "dict",data:=.dict #[]}:=zaE _ rfl;have t1:Shared.TypeIs {s with heap:=s.heap.push {cls:=.type "dict",data:=.dict #[]} } (.ref s.heap.objs.size) "dict" := ⟨_,n1,rfl⟩;refine⟨t1,PySem.F.args_dict_init_2 _ _,?_⟩;unfold zb5.«dict.__init__»;refine zaa ?_;unfold Builtin.Dict.selfAndRest;refine zaa (wpAny_notOrdered_dict t1 ?_);show wpAny _ _ (pure (s.heap.objs.size,[zau p])) _ _ _;refine zaf ?_;show wpAny _ _ (Builtin.Dict.updateFrom "dict.__init__" s.heap.objs.size (.ref p) [] .none) _ _ _;unfold Builtin.Dict.updateFrom;obtain⟨u0,a3,IK,pu⟩:∃u0:HO,(u0=.dK []\/u0=.dT [])/\Inv X pins σ (upd H s.heap.objs.size u0) {s with heap:=s.heap.push {cls:=.type "dict",data:=.dict #[]} }/\Puts s.heap.objs.size (upd H s.heap.objs.size u0) l H2:=by
  rcases pu with pu|pu
  ·exact⟨_,.inl rfl,I.laid (a:=s.heap.objs.size) (o:=.dK []) (h':=s.heap.push {cls:=.type "dict",data:=.dict #[]}) (t':=s.toks) (λ_ _ q=>zam _ q) (zaj _) (BR s.heap I.big),pu⟩
  ·exact⟨_,.inr rfl,I.laid (a:=s.heap.objs.size) (o:=.dT []) (h':=s.heap.push {cls:=.type "dict",data:=.dict #[]}) (t':=s.toks) (λ_ _ q=>zam _ q) (zaj _) (CI s.heap I.big),pu⟩
 have ai:∀b u,H b=some u->b≠s.heap.objs.size:=λb u e z=>zbQ _ (by have:=(I.hok b u e).lt;rw[z]at this;exact this)
 have ao:∀ {b:Addr} {zs:List V},SqT X.K H b zs->SqT X.K (upd H s.heap.objs.size u0) b zs:=λ{b zs} h=>by
  rcases h with(h|⟨o,h⟩)|h
  ·exact .inl (.inl (by rw[aG (ai _ _ h)];exact h))
  ·exact .inl (.inr ⟨o,by rw[aG (ai _ _ h)];exact h⟩)
  ·exact .inr h
 have aj:∀ {o:Obj},s.heap.get? p=some o->p<s.heap.objs.size:=λe=>zan e
 rcases aK with sq|sq
 ·obtain⟨U,rv,pl,hz⟩:=I.list sq
  obtain⟨o,n,ho,J,ag,M⟩:=id pl;have Y:=rv.length;have G:(s.heap.push {cls:=.type "dict",data:=.dict #[]}).get? p=some o:=zam _ ho;refine zaa (zcC (s:={s with heap:=s.heap.push {cls:=.type "dict",data:=.dict #[]} }) ⟨o,G,J⟩ ?_);rw[if_pos (by decide)];refine zaa (sM (s:={s with heap:=s.heap.push {cls:=.type "dict",data:=.dict #[]} }) G J M ag (I.ok.hd hc) λh' tk B=>?_);simp only[Option.isNone_none,if_true];refine zaa (zbP (zaa (zbU (s:={s with heap:=h',toks:=tk}) (items:=U.toArray) ⟨o,B _ _ G,J,n,M⟩ ?_)));have N:Inv X pins σ (upd H s.heap.objs.size u0) {s with heap:=h',toks:=tk}:=IK.kept (t':=tk) B;have af:Inv X pins σ (upd H s.heap.objs.size u0) {s with heap:=h'.push {cls:=.type "list_iterator",data:=.fields #[.ref p,.int 0 0]},toks:=tk}:=N.kept (t':=tk) λb o e=>zam _ e
  have lp:p<h'.objs.size:=zan (B _ _ G);have ld:s.heap.objs.size<h'.objs.size:=zan (B _ _ n1);have W:=Walks.list (prog:=X.prog) (w:=X.w) (A:=X.A.in1.in1) (I.ok.hd hc) h'.objs.size p (zaF lp) U.toArray;refine zaf ⟨plainId_quiet dQ _,mL (X:=X) (pins:=pins) (σ:=σ) (H2:=H2) W (d:=s.heap.objs.size) ?_ (by show X.A.units+1+1+1<cLine;lia) ?_ l 0 _ _ _ _ ?_ (zaJ _) ?_ af ?_ ?_ pu⟩
  ·intro z
   rcases List.mem_cons.mp z with z|z
   ·exact zaF ld z
   ·exact zbu (aj ho) (List.mem_singleton.mp z)
  ·exact λs' I'=>⟨rfl,.ref s.heap.objs.size,H2,I',rfl,q⟩
  ·rw[zax,<- Y,hl];lia
  ·exact⟨⟨_,zaE _ rfl,rfl,rfl⟩,⟨o,zam _ (B _ _ G),J,n,M⟩⟩
  ·exact N.fpOk (zaj _) (N.hok.fresh (zaj _))
  ·intro m pr v hm hv
   obtain⟨b,e1,e2⟩:=am m pr hm;rw[zaK]at hv;refine⟨b,?_,ao e2⟩;obtain⟨w',hw,ah⟩:=rv.get e1;rw[List.getElem?_toArray,hw]at hv;cases(show w'=zau b from ah);exact(zay hv).symm
 ·obtain⟨hz,U,rv,o,ho,J,n,M,ag⟩:=(show ObjOk X.prog X.w H s.heap p (.tup ys)from sq.ok I.hok)
  have Y:=rv.length;have G:(s.heap.push {cls:=.type "dict",data:=.dict #[]}).get? p=some o:=zam _ ho;refine zaa (zcC (s:={s with heap:=s.heap.push {cls:=.type "dict",data:=.dict #[]} }) ⟨o,G,J⟩ ?_);rw[if_pos (by decide)];refine zaa (rM (s:={s with heap:=s.heap.push {cls:=.type "dict",data:=.dict #[]} }) G J M ag (I.ok.hd hc) λh' tk B=>?_);simp only[Option.isNone_none,if_true];refine zaa (zbP (zaa (zbV (s:={s with heap:=h',toks:=tk}) (items:=U.toArray) ⟨o,B _ _ G,J,n,M⟩ ?_)));have N:Inv X pins σ (upd H s.heap.objs.size u0) {s with heap:=h',toks:=tk}:=IK.kept (t':=tk) B;have af:Inv X pins σ (upd H s.heap.objs.size u0) {s with heap:=h'.push {cls:=.type "tuple_iterator",data:=.fields #[.ref p,.int 0 0]},toks:=tk}:=N.kept (t':=tk) λb o e=>zam _ e
  have lp:p<h'.objs.size:=zan (B _ _ G);have ld:s.heap.objs.size<h'.objs.size:=zan (B _ _ n1);have W:=Walks.tuple (prog:=X.prog) (w:=X.w) (A:=X.A.in1.in1) (I.ok.hd hc) h'.objs.size p (zaF lp) U.toArray;refine zaf ⟨plainId_quiet dQ _,mL (X:=X) (pins:=pins) (σ:=σ) (H2:=H2) W (d:=s.heap.objs.size) ?_ (by show X.A.units+1+1+1<cLine;lia) ?_ l 0 _ _ _ _ ?_ (zaJ _) ?_ af ?_ ?_ pu⟩
  ·intro z
   rcases List.mem_cons.mp z with z|z
   ·exact zaF ld z
   ·exact zbu (aj ho) (List.mem_singleton.mp z)
  ·exact λs' I'=>⟨rfl,.ref s.heap.objs.size,H2,I',rfl,q⟩
  ·rw[zax,<- Y,hl];lia
  ·exact⟨⟨_,zaE _ rfl,rfl,rfl⟩,⟨o,zam _ (B _ _ G),J,n,M⟩⟩
  ·exact N.fpOk (zaj _) (N.hok.fresh (zaj _))
  ·intro m pr v hm hv
   obtain⟨b,e1,e2⟩:=am m pr hm;rw[zaK]at hv;refine⟨b,?_,ao e2⟩;obtain⟨w',hw,ah⟩:=rv.get e1;rw[List.getElem?_toArray,hw]at hv;cases(show w'=zau b from ah);exact(zay hv).symm
end
section
variable {X:Cx}
theorem DZ:CallR X (.type "dict") (λxs H Q=>∃d kvs,xs=[.ref d]/\Rd H d (.dK kvs)/\∀p,H p=none->Q (.ref p) (upd H p (.dK kvs))):=by
 intro pins s σ H xs N Q I r h;obtain⟨d,kvs,rfl,hd,q⟩:=h;obtain⟨u,rfl,G⟩:=vals1 r;cases G;obtain⟨z,y,vs,B,M⟩:=xN I.hok hd;have J:vs.length<=zal:=by rw[<- B.length];exact z
 refine kt_call_dict (knd:=bA X.prog X.w) y M J λh' F sb=>?_
 refine⟨.ref s.heap.objs.size,_,I.laid (t':=s.toks) (o:=.dK kvs) (λb U q=>(sb.2 b (zaF (zan q))).trans (zam _ q)) (zaj _) ⟨z,beq_eq_false_iff_ne.mpr (zaW (zaF I.big)),vs,B,F⟩,rfl,q _ (I.hok.fresh (zaj _))⟩
theorem XC(h:H2 q=some u)(k:∀b,b≠q->H2 b=H b):H2=upd H q u:=funext λb=>by
 by_cases e:b=q
 ·subst e;rw[aL];exact h
 ·rw[aG e];exact k b e
def u6{κ:Type}[DecidableEq κ](kvs more:List (κ×V)):List (κ×V):=more.foldl (λacc q=>putK acc q.1 q.2) kvs
theorem PK:∀(prs:List (Key×V)) (H:Hp) (xs:List (Key×V)),H q=some (.dK xs)->xs.length+prs.length<zal->∃H2,Puts q H (prs.map λp=>(kV p.1,p.2)) H2/\H2 q=some (.dK (u6 xs prs))/\∀b,b≠q->H2 b=H b
 | [],H,xs,e,hl=>⟨H,.nil,e,λ_ _=>rfl⟩
 | p::prs,H,xs,e,hl=>by
  have G:=eT xs p.1 p.2;rw[zaz]at hl;obtain⟨H2,F,B,k⟩:=PK prs (upd H q (.dK (putK xs p.1 p.2))) (putK xs p.1 p.2) aL (by lia);exact⟨H2,.cons (DPut.k e (by lia)) F,B,λb z=>(k b z).trans (aG z)⟩
end
end My
namespace P
section
variable {X:Cx}{A:Av}{H:Hp}
def FT:List D->Option (List (Key×D))
 | []=>some []
 | .tup [k,v]::l=>(ZL k).bind λkk=>(FT l).map λr=>(kk,v)::r
 | _=>none
def mD{κ:Type}[DecidableEq κ](l more:List (κ×D)):List (κ×D):=more.foldl (λm p=>putD m p.1 p.2) l
theorem T6{κ:Type}[DecidableEq κ]{more:List (κ×D)}{ys:List (κ×V)}(h:PP A H more ys):∀ {l:List (κ×D)} {xs:List (κ×V)},PP A H l xs->PP A H (mD l more) (My.u6 xs ys):=by
 induction h with
 | nil=>intro l xs q;exact q
 | @cons p q ps qs h t ih=>
  intro l xs z;have:=ih (vG p.1 h.2 z);rw[show mD l (p::ps)=mD (putD l p.1 p.2) ps from rfl,show My.u6 xs (q::qs)=My.u6 (putK xs q.1 q.2) qs from rfl,<- h.1];exact this
set_option tactic.hygienic true in
theorem BC:∀ {l:List D} {kvs:List (Key×D)} {xs:List V},FT l=some kvs->RepL A H l xs->∃q:List (Key×V),PP A H kvs q/\q.length=xs.length/\∀(m:Nat) (z:V×V),(q.map λp=>(kV p.1,p.2))[m]?=some z->∃b,xs[m]?=some (.ref b)/\H b=some (.tup [z.1,z.2])
 | _,kvs,_,e,.nil=>by cases e;exact⟨[],.nil,rfl,λm z h=>by simp at h⟩
 | d::l,kvs,v::xs,e,.cons h t=>by
  unfold FT at e;split at e
  ·cases ‹_::_=[]›
  ·rename_i k w l' heq
   injection heq with h1 h2
   subst h1 h2;obtain⟨W,J,e⟩:=bind_some e;obtain⟨r,U,rfl⟩:=map_some e;obtain⟨q,M,F,Y⟩:=BC U t;obtain⟨a,zs,rfl,N,B⟩:=RepB.tup_inv (.of h);cases B with
   | @cons _ z1 _ zs1 q1 B=>
   cases B with
   | @cons _ z2 _ zs2 q2 B=>
   cases B;have G:=rU J (.of q1);subst G;refine⟨(W,z2)::q,.cons ⟨rfl,q2⟩ M,by simp[F],λm z h=>?_⟩;cases m with
   | zero=>simp at h;subst h;exact⟨a,rfl,N⟩
   | succ m=>exact Y m z (by simpa using h)
  ·cases e
noncomputable def VM:D->Option (List D)
 | .lst l=>some l
 | .tup l=>some l
 | _=>none
def gP:List D->Option D
 | [.dK l]=>some (.dK l)
 | [d]=>(VM d).bind λl=>if a7 l.length then(FT l).map λkvs=>.dK (mD [] kvs)else none
 | _=>none
theorem ML(h:VM d=some l)(r:RepB A H d v):∃p ys,v=.ref p/\My.Src X H p ys/\RepL A H l ys:=by
 cases d with
 | lst m=>cases h;obtain⟨a,xs,rfl,h1,h2⟩:=r.lst_inv;exact⟨a,xs,rfl,.inl (.inl h1),h2⟩
 | tup m=>cases h;obtain⟨a,xs,rfl,h1,h2⟩:=r.tup_inv;exact⟨a,xs,rfl,.inr (.inl h1),h2⟩
 | _=>exact nn h
theorem szL(h:a7 n=true):0+n<zal:=by rw[zaK];exact jH h
set_option tactic.hygienic true in
theorem kY(hc:X.calm=true)(hu:X.A.units+64<cLine):II X (.type "dict") gP:=by
 intro pins s σ H xs us Q I r h;obtain⟨A,ds,d,lv,rl,e,q⟩:=h;unfold gP at e;split at e
 ·cases e
  obtain⟨v,rfl,h1⟩:=rl.one;obtain⟨a,ys,rfl,h2,N,r3⟩:=h1.dK_inv;exact My.DZ pins s σ H _ us Q I r ⟨a,ys,rfl,h2,λp J=>q p _ (Ext.new J) J (λz=>lv p z J) (.dK aL N (r3.fresh J))⟩
 ·obtain⟨l,e1,e⟩:=bind_some e
  split at e
  ·rename_i hz
   obtain⟨kvs,e2,rfl⟩:=map_some e;obtain⟨v,rfl,h1⟩:=rl.one;obtain⟨p,ys,rfl,U,F⟩:=ML (X:=X) e1 h1;obtain⟨B,pp,Y,hm⟩:=BC e2 F;have G:=F.length;refine My.D9 hc hu pins s σ H _ us Q I r ⟨p,ys,B.map λp=>(kV p.1,p.2),rfl,U,by rw[zah];exact Y,λm pr h=>?_,λa M=>?_⟩
   ·obtain⟨b,x1,x2⟩:=hm m pr h
    exact⟨b,x1,.inl (.inl x2)⟩
   ·obtain⟨H2,pu,N,k⟩:=My.PK B (upd H a (.dK [])) [] aL (by rw[Y,G];exact szL hz)
    have eH:H2=upd H a (.dK (My.u6 [] B)):=My.XC N λb W=>(k b W).trans (aG W)
    obtain⟨f1,f2⟩:=xJ (T6 pp (Paired.nil));refine⟨H2,.inl pu,?_⟩;rw[eH];exact q a _ (Ext.new M) M (λz=>lv a z M) (.dK aL f1 (f2.fresh M))
  ·cases e
 ·cases e
end
end P
namespace My
open PySem.SeqAt
theorem F9:∀ {xs:List V} {us:List Value},xs.length=us.length->(∀(j:Nat) (x:V) (u:Value),xs[j]?=some x->us[j]?=some u->RelV x u)->Vals xs us
 | [],[],_,_=>.nil
 | [],_::_,h,_=>by simp at h
 | _::_,[],h,_=>by simp at h
 | x::xs,u::us,h,k=>.cons (k 0 x u rfl rfl) (F9 (by simpa using h) λj y v z q=>k (j+1) y v (by simpa using z) (by simpa using q))
section
variable {X:Cx}
theorem M0:CallR X (.type "range") (λxs H Q=>∃i,xs=[.int i]/\∀p,H p=none->Q (.ref p) (upd H p (.rng 0 i))):=by
 intro pins s σ H xs z Q I r h;obtain⟨i,rfl,q⟩:=h;obtain⟨u,rfl,t,rfl⟩:=vals1 r;exact call_range_1 ⟨.ref s.heap.objs.size,_,I.laid (t':=s.toks+1+1) (o:=.rng 0 i) (λb B q=>zam _ q) (zaj _) ⟨_,_,_,zaE _ rfl⟩,rfl,q _ (I.hok.fresh (zaj _))⟩
theorem D3(U:X.calm=true):CallR X (.type "list") (λxs H Q=>∃p i,xs=[.ref p]/\H p=some (.rng 0 i)/\0<=i/\i<=1000000/\∀l,H l=none->Q (.ref l) (upd H l (.lst ((zas i.toNat).map λ(j:Nat)=>V.int (j:Int))))):=by
 intro pins s σ H xs us Q I r h;obtain⟨p,i,rfl,N,i0,Y,q⟩:=h;obtain⟨u,rfl,W⟩:=vals1 r;cases W;obtain⟨t,u,v,J⟩:=(show ObjOk X.prog X.w H s.heap p (.rng 0 i)from I.hok p _ N);refine call_list_range (n:=i.toNat) (I.ok.hd U) J (small_one (by lia) (by lia) (by lia) (by lia)) (by rw[rangeSize_one];split <;> lia) (by lia) λh' tk acc c z M items=>?_
 refine⟨.ref s.heap.objs.size,_,I.laid (t':=tk) (o:=.lst ((zas i.toNat).map λ(j:Nat)=>V.int (j:Int))) z (zaj _) ⟨by rw[zah,zcI,zcA];lia,acc.toList,c,F9 ?_ λj x u F G=>?_,by simpa using M⟩,rfl,q _ (I.hok.fresh (zaj _))⟩
 ·rw[zah,zcI,zbT,items.1]
 ·rw[zeg]at G
  obtain⟨t,rfl⟩:=items.2 j u G;rw[zaA]at F;obtain⟨k,B,rfl⟩:=P.map_some F;have:k=j:=by
   rw[zcV]at B
   ·exact(zay B).symm
   ·have:=(List.getElem?_eq_some_iff.mp B).1;rwa [zcI]at this
  subst this;exact⟨t,by rw[show(0:Int)+(k:Int)*1=(k:Int) by lia]⟩
end
end My
namespace P
section
variable {X:Cx}{O:List Nat}
def zO(d:D):Option D:=match d with
 | .int i=>if 0<=i/\i<=1000000 then some (.lst (aU 0 1 i.toNat))else none
 | _=>none
theorem UE(q:0<=i)(h1:i<=1000000):zO (.int i)=some (.lst (aU 0 1 i.toNat)):=if_pos ⟨q,h1⟩
theorem DU(n:Nat):RepL A H (aU 0 1 n) ((zas n).map λ(j:Nat)=>V.int (j:Int)):=by
 unfold aU;have:∀l:List Nat,RepL A H (l.map λ(j:Nat)=>D.int (0+(j:Int)*1)) (l.map λ(j:Nat)=>V.int (j:Int)):=λl=>by
  induction l with
  | nil=>exact .nil
  | cons j l ih=>
   rw[zak,zak,show(0:Int)+(j:Int)*1=(j:Int) by lia];exact .cons (.int _) ih
 exact this _
set_option tactic.hygienic true in
theorem NB(hc:X.calm=true)(M:Gl X "list")(G:X.mg "list" = none)(N:Gl X "range")(F:X.mg "range" = none)(he:PB X O e f)(hs:isStar e=false) :
  PF X O (.Call (.Name "list" p) [.Call (.Name "range" p2) [e] [] pos2] [] pos) (V1 zO f):=
 PE.mono (lP (My.D3 hc) M G My.boot_list (cR (lP My.M0 N F My.boot_range (cR he fT (cY hs)) (by decide) (by decide) (cY hs) (jG rfl)) fT (cY rfl)) (by decide) (by decide) (cY rfl) (jG rfl)) <| by
  rintro σ H Q ⟨H0,A0,A,E,ρ,d,st,B,q⟩;obtain⟨x,ex,B⟩:=bind_some B;refine⟨H0,A0,A,E,ρ,x,st,ex,λv H1 J r1=>?_⟩;unfold zO at B;split at B
  ·rename_i i
   split at B
   ·rename_i hi
    cases B;have:=r1.int_inv;subst this;refine⟨i,rfl,λa Y=>⟨a,i,rfl,aL,hi.1,hi.2,λl W=>?_⟩⟩;have U:H1 l=none:=(Ext.new (A:=A) (o:=HO.rng 0 i) Y).free W;exact q l _ (J.trans ((Ext.new Y).trans (Ext.new W))) (J.free U) (λz=>(st.mono J).live l z U) (.lst aL (DU _))
   ·cases B
  ·cases B
end
section
variable {X:Cx}{O:List Nat}{e:Expr}{es:List Expr}
theorem pB(q:PD X O e f)(z:DE X O es g)(hs:isStar e=false:=by rfl):DE X O (e::es) (aC f g):=OA q z (cY hs)
theorem QZ(q:PB X O e f)(z:xS X O es g)(hs:isStar e=false:=by rfl):xS X O (e::es) (aC f g):=CB q z (cY hs)
theorem lc(h:Len g n):Len (aC f g) (n+1):=N9 h
theorem l0:Len aZ 0:=SR
variable {x:Str}{id T:String}{g:List D->Option D}{f:Lv}{p pos:Pos}
theorem cB(J:jU X (.builtin id) g)(M:X.mg x=none)(B:zaG x=some (.builtin id))(G:xS X O (e::es) f)(N:Gl X x:=by rfl)(z:x ≠ "__name__" := by decide)(q:(x == ("__debug__" : Str))=false:=by decide)(hs:isStar e=false:=by rfl)(F:(es.all λe=>!isStar e)=true:=by rfl) :
  PD X O (.Call (.Name x p) (e::es) [] pos) (aT g f):=M7 J N M B G z q (cY hs) (jG F)
theorem ZQ(J:jU X (.type T) g)(M:X.mg x=none)(B:zaG x=some (.type T))(G:xS X O (e::es) f)(N:Gl X x:=by rfl)(z:x ≠ "__name__" := by decide)(q:(x == ("__debug__" : Str))=false:=by decide)(hs:isStar e=false:=by rfl)(F:(es.all λe=>!isStar e)=true:=by rfl) :
  PD X O (.Call (.Name x p) (e::es) [] pos) (aT g f):=JS J N M B G z q (cY hs) (jG F)
theorem ZU(J:II X (.type T) g)(M:X.mg x=none)(B:zaG x=some (.type T))(G:xS X O (e::es) f)(N:Gl X x:=by rfl)(z:x ≠ "__name__" := by decide)(q:(x == ("__debug__" : Str))=false:=by decide)(hs:isStar e=false:=by rfl)(F:(es.all λe=>!isStar e)=true:=by rfl) :
  PF X O (.Call (.Name x p) (e::es) [] pos) (aT g f):=K9 J N M B G z q (cY hs) (jG F)
theorem cD(O':Fn X.prog X.w X.K X.mg X.base x k ps F)(B:Room k X.A)(J:DE X O (e::es) f)(z:Len f ps.length)(M:Gl X x:=by rfl)(q:(x == ("__debug__" : Str))=false:=by decide)(hs:isStar e=false:=by rfl)(G:(es.all λe=>!isStar e)=true:=by rfl) :
  PD X O (.Call (.Name x p) (e::es) [] pos) (aT F f):=RG O' B M J z q (cY hs) (jG G)
theorem cn{L:Lp}{z O2 O3:List Nat}{st:Stmt}{q:List Stmt}{f g:Sv}(h:j9 X L z st f O2)(k:eO X L O2 q g O3):eO X L z (st::q) (dA f g) O3:=M2 h k
end
def ZOk(P:zai)(w:World)(K:zae)(mg:Str->Option Value)(base:Heap)(N:List Str)(x:Str)(st:Stmt)(k:Nat)(b:Sv):Prop:=
 ∀(fa:Addr) (cdv:Value) (A:zao) (outer:List Env) (s:zad) (H:Hp) (E:XK),Room k (A.deeper (zaO x (aO st) s.heap.objs.size fa cdv))->∃g,eO (jZ wC P w K mg base N x (aO st) fa cdv A outer s H E).nox ⟨[],[]⟩ [] (bU st) g []/\g=b
end P
namespace My
def qaU(i j:Int):Prop:=(-(10^250*10^250)<i/\i<10^250*10^250)/\-(10^250*10^250)<j/\j<10^250*10^250
end My
namespace P
instance:∀i j,Decidable (My.qaU i j):=λi j=>by unfold My.qaU;infer_instance
end P
namespace My
open PySem.SeqAt
theorem VY(h:(zbc scope env).names.lookup x=some k'):(x,k')∈scope.names\/(k'=.cell/\(x,zbm)∈scope.names):=by
 obtain⟨⟨y,k⟩,z,e⟩:=List.mem_map.mp (zcB h);dsimp only at e;by_cases q:(k == zbm && env.scope.kind == .function && env.kindOf y == some .cell)=true
 ·rw[if_pos q]at e
  have:k=.free:=by simp only[zaS]at q;simpa using q.1.1
  cases e;subst this;exact .inr ⟨rfl,z⟩
 ·rw[if_neg q]at e
  cases e;exact .inl z
end My
namespace P
noncomputable def inO(O:List Nat)(ms:List (Option Nat)):List Nat:=(zas ms.length).filter λj=>(((ms[j]?).join).map O.contains).getD false
theorem rO:j∈inO O ms↔∃i,ms[j]?=some (some i)/\i∈O:=by
 unfold inO;rw[List.mem_filter];constructor
 ·rintro⟨_,h⟩
  cases e:ms[j]? with
  | none=>rw[e]at h;cases h
  | some o=>
   cases o with
   | none=>rw[e]at h;cases h
   | some i=>rw[e]at h;exact⟨i,rfl,by simpa using h⟩
 ·rintro⟨i,h,hi⟩
  refine⟨List.mem_range.mpr ?_,by rw[h];simpa using hi⟩;obtain⟨l,_⟩:=List.getElem?_eq_some_iff.mp h;exact l
theorem PZ{q:Type}{ms:List (Option Nat)}{σ:List (Option q)}{j i:Nat}{v:q}(h:ms[j]?=some (some i))(e:σ[i]?=some (some v)):(jW ms σ)[j]?=some (some v):=by
 unfold jW;rw[zaA,h];show some ((σ[i]?).join)=_;rw[e];rfl
theorem ST.innerO{H0:Hp}{A0 A:Av}{E:List Fact}{O Oi:List Nat}{σ:L2.St}{H:Hp}{ρ:cX}(s:ST H0 A0 A E O σ H ρ)(ms:List (Option Nat))(N:inO O ms=Oi)(hj:∀j∈Oi,∀k∈Oi,ms[j]?=ms[k]?->j=k):ST H0 A0 A E Oi (jW ms σ) H (jW ms ρ) where
 ex:=s.ex
 sub:=s.sub
 l0:=s.l0
 live:=s.live
 len:=by simp[jW]
 val:=λj d h n=>by
  obtain⟨i,B,G⟩:=g7 h;obtain⟨v,W,r⟩:=s.val i d G λz=>n (N ▸ rO.mpr ⟨i,B,z⟩)
  exact⟨v,PZ B W,r⟩
 own:=λj d h n=>by
  obtain⟨i,B,G⟩:=g7 h;obtain⟨i',q,U⟩:=rO.mp (N.symm ▸ n);rw[B]at q;cases q;obtain⟨a,h1,h2⟩:=s.own i d G U;exact⟨a,PZ B h1,h2⟩
 inj:=λj k d d' a J F h1 h2 Y h4=>by
  obtain⟨i,B,G⟩:=g7 h1;obtain⟨l,f1,f2⟩:=g7 h2;obtain⟨i2,g1,g2⟩:=g7 Y;rw[B]at g1;cases g1;obtain⟨l2,k1,k2⟩:=g7 h4;rw[f1]at k1;cases k1;obtain⟨i',q,U⟩:=rO.mp (N.symm ▸ J);rw[B]at q;cases q;obtain⟨l',M,lO⟩:=rO.mp (N.symm ▸ F);rw[f1]at M;cases M;have:=s.inj i l d d' a U lO G f2 g2 k2;subst this;exact hj j J k F (B.trans f1.symm)
 ext:=s.ext
section
variable {X:Cx}{O Oi:List Nat}
theorem KU(G:dP X scope N ms)(M:inO O ms=Oi)(B:∀j∈Oi,∀k∈Oi,ms[j]?=ms[k]?->j=k)(F:t∉Oi)(σ:L2.St)(H:Hp)(Q:VK) :
  tF O (d7 ms it (aR t) c f) σ H Q->My.DA (tDI O it) (jV t) (tDT Oi c) (tD Rep Oi f) (My.Start X N scope) σ H Q:=
 BZ G (λs=>s.innerO ms M B) (λs r e q=>by
  cases e;have J:∀j∈Oi,t≠j:=λj B z=>F (z ▸ B)
  exact q _ (s.put r F) λj B=>⟨zbE (J j B),zbE (J j B)⟩) σ H Q
theorem CU
  (U:X.calm=true) (B:My.Clo X N scope cl) (q:dP X scope N ms) (F:inO O ms=Oi) (G:∀j∈Oi,∀k∈Oi,ms[j]?=ms[k]?->j=k) (z:t∉Oi) (hi:PDI X O tg iter it) (W:∀C s H fp,PG (My.aY X N scope cl C s H fp) tg (jV t))
  (M:∀C s H fp,My.FZ (My.aY X N scope cl C s H fp) ifs (tDT Oi c)) (J:∀C s H fp,PD (My.aY X N scope cl C s H fp) Oi elt f) (hs:∀x,zba iter X.env x=pure x:=by intro _;rfl) :
  PF X O (.ListComp elt [⟨tg,iter,ifs,0⟩] scope pos) (d7 ms it (aR t) c f):=PE.mono (My.HR U B hi W M J hs) (KU q F G z)
theorem HU(U:scope.kind=.function)(h:C5 scope.names X.env.scope.names=true)(M:∀x,X.env.scope.names.lookup x=some .cell->∃c,X.env.cells.lookup x=some c):My.Clo X N scope (iE X.env.cells scope.names []):=by
 have h':=List.all_eq_true.mp h;have G:∀y∈scope.names,y.2≠.cell:=λy F=>by
  have:=h' y F;simp only[zaS]at this;simpa using this.1.1
 have c2:∀y∈scope.names,y.2=.local->scope.names.lookup y.1=some .local:=λy F e=>by
  have:=h' y F;simp only[zaS,zdH]at this;rcases this.1.2 with z|z
  ·rw[e]at z;exact absurd z (by decide)
  ·simpa using z
 have J:∀y∈scope.names,y.2=.free->∃c,X.env.cells.lookup y.1=some c:=λy F e=>by
  have:=h' y F;simp only[zaS,zdH]at this;rcases this.2 with z|z
  ·rw[e]at z;exact absurd z (by decide)
  ·exact M _ (by simpa using z)
 have q:∀x,((zbc scope X.env).names.lookup x=some .cell\/(zbc scope X.env).names.lookup x=some .free)->(x,zbm)∈scope.names:=λx hx=>by
  rcases hx with hx|hx
  ·rcases My.VY hx with z|⟨_,z⟩
   ·exact absurd rfl (G _ z)
   ·exact z
  ·rcases My.VY hx with z|⟨z,_⟩
   ·exact z
   ·cases z
 refine⟨HY J,U,G,c2,λx c e=>?_,λx hx=>uL (.inl (q x hx))⟩;rcases uQ e with⟨c',z,_⟩|⟨W,Y⟩
 ·cases z
 ·obtain⟨c0,B⟩:=J _ W rfl
  have B:X.env.cells.lookup x=some c0:=B;rw[Y,B];rfl
theorem G9(q:X.env.cells=zcb n X.env.scope.names []):∀x,X.env.scope.names.lookup x=some .cell->∃c,X.env.cells.lookup x=some c:=λx h=>by
 rw[q];exact oF (sc:=X.env.scope) h
end
end P
namespace P
def Fe(K:zae)(x:Str)(st:Stmt)(f:Addr):Prop:=∃fd,Fun K x x st f fd
theorem Fe.mk{K:zae}{x:Str}{st:Stmt}{f:Addr}{F:Value}{od G:Option Addr}{B:Array (Option Value)}{kV z J q ct:Value}(l:K.lookup f=some ⟨F,od,.func (zbg x x (eJ st) (bU st) (aO st) .none kV z J G q ct),B⟩)(c:zcq K q x=true)(k:zbG K (.ref f)=true):Fe K x st f:=⟨_,FD l c k⟩
theorem Fe.d{K:zae}{mg:Str->Option Value}{x:Str}{st:Stmt}{f:Addr}{ps:List Str}(h:Fe K x st f)(a:mg x=some (.ref f))(q:∀(kV doc pm:Value) (an:Option Addr) (cdv ct:Value) (us:List Value),us.length=ps.length->bindArgs (zbg x x (eJ st) (bU st) (aO st) .none kV doc pm an cdv ct) ⟨us,[]⟩=pure (ps.zip us)):My.DefAt K mg x st ps:=let ⟨fd,F⟩:=h;⟨⟨f,fd,F,F.binds q,a⟩⟩
end P
namespace My
noncomputable def QS(ns:List Int):Int:=(ns[argBest (λi j=>decide ((ns[i]?).getD 0<(ns[j]?).getD 0)) (ns.length-1)]?).getD 0
end My
namespace P
section
variable {X:Cx}{L:Lp}{O O':List Nat}
theorem c0{z O3:List Nat}{st:Stmt}{q:List Stmt}{f g:Sv}(h:j9 X L z st f [])(k:eO X L [] q g O3):eO X L z (st::q) (dA f g) O3:=cn h k
theorem ss(i:Nat)(B:X.N.Nodup)(z:PD X O e f)(hi:X.N[i]?=some x:=by rfl)(hx:Loc X.env.scope x:=by exact zaY rfl)(h:Sub O' (O.filter (· != i))=true:=by rfl)(hs:zaD e (some (.Name x pos')) pos.line X.env=pure false:=by rfl)(q:X.fn x=true\/X.env.scope.names.lookup x=some .local:=by first|exact .inl rfl|exact .inr rfl):j9 X L O (.Assign [.Name x pos'] e pos) (eE i f) O':=IB B hi hx z h hs q
theorem gc(h1:DF X O e g)(h2:FL X O es k)(a:(za1 (e::es) X.env).map (·.2)=zbd e X.env::(za1 es X.env).map (·.2):=by rfl):FL X O (e::es) (dI g k):=iL (λx y=>lC x y a) h1 h2
theorem gu(n:Nat)(h:FL X O es k)(q:X.calm=true:=by rfl)(a:(za1 es X.env).length=n:=by rfl)(b:List.findIdx? (λx=>x.fst) (za1 es X.env)=none:=by rfl):DF X O (.Tuple es j pos) (lJ n k):=GW (FG q h a b)
theorem tc(q:mE X (zaB op) g)(z:PB X O a fa)(B:PB X O b fb)(h1:op≠CmpOp.In:=by decide)(h2:op≠CmpOp.NotIn:=by decide):wB X O (.Compare a [op] [b] pos) (rK (bC g fa fb)):=yD q z B (E9 _ h1 h2)
end
variable {X:Cx}{O:List Nat}{e:Expr}
end P
namespace P
section
variable {X:Cx}{L:Lp}{O O':List Nat}
theorem cO(O2:List Nat){z O3:List Nat}{st:Stmt}{q:List Stmt}{f g:Sv}(h:j9 X L z st f O2)(k:eO X L O2 q g O3):eO X L z (st::q) (dA f g) O3:=cn h k
theorem wt{x1}(h:DE X O es g)(z:Len g es.length)(q:Nat.ble es.length 100=true:=by rfl):PD X O (.Tuple es x1 pos) (fK g):=pL h (λρ ds k=>by rw[z ρ ds k];exact zb3 q)
theorem wl(h:DE X O es g)(z:Len g es.length)(q:Nat.ble es.length 100=true:=by rfl):PF X O (.List es pos) (QK g):=P7 h (λρ ds k=>by rw[z ρ ds k];exact zb3 q)
theorem wE(O':Fn X.prog X.w X.K X.mg X.base x k ps F)(B:Room j X.A)(M:DE X O (e::es) f)(z:Len f ps.length)(G:k<=j)(N:Gl X x:=by rfl)(q:(x == ("__debug__" : Str))=false:=by decide)(hs:isStar e=false:=by rfl)(J:(es.all λe=>!isStar e)=true:=by rfl):PD X O (.Call (.Name x p) (e::es) [] pos) (aT F f):=cD O' (B.mono G) M z N q hs J
theorem qbA{e:Expr}{es:List Expr}{f:Lv}{p pos:Pos}(z:X.mg "len" = none)(q:xS X O (e::es) f)(F:Gl X "len")(hs:isStar e=false)(B:((es:List Expr).all λe=>!isStar e)=true):PD X O (.Call (.Name "len" p) (e::es) [] pos) (aT fV f):=cB WS z My.boot_len q F (by decide) (by decide) hs B
theorem qbX{e:Expr}{es:List Expr}{f:Lv}{p pos:Pos}(z:X.mg "tuple" = none)(q:xS X O (e::es) f)(F:Gl X "tuple")(hs:isStar e=false)(B:((es:List Expr).all λe=>!isStar e)=true):PD X O (.Call (.Name "tuple" p) (e::es) [] pos) (aT jO f):=ZQ k9 z My.boot_tuple q F (by decide) (by decide) hs B
theorem qbP{e:Expr}{es:List Expr}{f:Lv}{p pos:Pos}(z:X.mg "int" = none)(q:xS X O (e::es) f)(F:Gl X "int")(hs:isStar e=false)(B:((es:List Expr).all λe=>!isStar e)=true):PD X O (.Call (.Name "int" p) (e::es) [] pos) (aT FS f):=ZQ YM z My.boot_int q F (by decide) (by decide) hs B
theorem qbE{e:Expr}{es:List Expr}{f:Lv}{p pos:Pos}(z:X.mg "list" = none)(q:xS X O (e::es) f)(F:Gl X "list")(hs:isStar e=false)(B:((es:List Expr).all λe=>!isStar e)=true):PF X O (.Call (.Name "list" p) (e::es) [] pos) (aT C8 f):=ZU TB z My.boot_list q F (by decide) (by decide) hs B
theorem qe{q:Expr}{e:Expr}{es:List Expr}{f:Lv}{p pos:Pos}(F:X.calm=true)(G:X.mg "min" = none)(B:xS X O [e,q] f)(J:Gl X "min")(hs:isStar e=false)(z:(([q]:List Expr).all λe=>!isStar e)=true):PD X O (.Call (.Name "min" p) [e,q] [] pos) (aT CY f):=cB (SY F) G My.boot_min B J (by decide) (by decide) hs z
theorem qi{q:Expr}{e:Expr}{es:List Expr}{f:Lv}{p pos:Pos}(F:X.calm=true)(G:X.mg "max" = none)(B:xS X O [e,q] f)(J:Gl X "max")(hs:isStar e=false)(z:(([q]:List Expr).all λe=>!isStar e)=true):PD X O (.Call (.Name "max" p) [e,q] [] pos) (aT C0 f):=cB (HN F) G My.boot_max B J (by decide) (by decide) hs z
theorem qt{e:Expr}{f:Ev}{p p2 pos:Pos}(F:PB X O e f)(G:X.mg "isinstance" = none)(z:X.mg "int" = none)(J:Gl X "isinstance")(q:Gl X "int")(h1:zag [e,.Name "int" p2] X.env=(false,eval e X.env)::zag [.Name "int" p2] X.env)(h2:(zaH pos (zag [.Name "int" p2] X.env)).any (·.1)=false)(B:zag [.Name "int" p2] X.env=(false,eval (.Name "int" p2) X.env)::zag [] X.env):PD X O (.Call (.Name "isinstance" p) [e,.Name "int" p2] [] pos) (LA "int" f):=zL SN J G q z My.boot_int F (by decide) (by decide) h1 h2 B
theorem W6{e:Expr}{f:Ev}{p p2 pos:Pos}(F:PB X O e f)(G:X.mg "isinstance" = none)(z:X.mg "bool" = none)(J:Gl X "isinstance")(q:Gl X "bool")(h1:zag [e,.Name "bool" p2] X.env=(false,eval e X.env)::zag [.Name "bool" p2] X.env)(h2:(zaH pos (zag [.Name "bool" p2] X.env)).any (·.1)=false)(B:zag [.Name "bool" p2] X.env=(false,eval (.Name "bool" p2) X.env)::zag [] X.env):PD X O (.Call (.Name "isinstance" p) [e,.Name "bool" p2] [] pos) (LA "bool" f):=zL N4 J G q z My.boot_bool F (by decide) (by decide) h1 h2 B
theorem RD{e:Expr}{f:Ev}{p p2 pos:Pos}(F:PB X O e f)(G:X.mg "isinstance" = none)(z:X.mg "tuple" = none)(J:Gl X "isinstance")(q:Gl X "tuple")(h1:zag [e,.Name "tuple" p2] X.env=(false,eval e X.env)::zag [.Name "tuple" p2] X.env)(h2:(zaH pos (zag [.Name "tuple" p2] X.env)).any (·.1)=false)(B:zag [.Name "tuple" p2] X.env=(false,eval (.Name "tuple" p2) X.env)::zag [] X.env):PD X O (.Call (.Name "isinstance" p) [e,.Name "tuple" p2] [] pos) (LA "tuple" f):=zL kit_tuple J G q z My.boot_tuple F (by decide) (by decide) h1 h2 B
theorem qaw{e:Expr}{f:Ev}{p p2 pos:Pos}(F:PB X O e f)(G:X.mg "isinstance" = none)(z:X.mg "str" = none)(J:Gl X "isinstance")(q:Gl X "str")(h1:zag [e,.Name "str" p2] X.env=(false,eval e X.env)::zag [.Name "str" p2] X.env)(h2:(zaH pos (zag [.Name "str" p2] X.env)).any (·.1)=false)(B:zag [.Name "str" p2] X.env=(false,eval (.Name "str" p2) X.env)::zag [] X.env):PD X O (.Call (.Name "isinstance" p) [e,.Name "str" p2] [] pos) (LA "str" f):=zL T7 J G q z My.boot_str F (by decide) (by decide) h1 h2 B
theorem rSl{e:Expr}{lo hi:Option Expr}{p2 pos:Pos}{f:Ev}{a b:Ov}(z:PB X O e f)(B:WD X O lo a)(q:WD X O hi b):PD X O (.Subscript e (.Slice lo hi none p2) pos) (eSl FN f a b):=MM qbJ z B q
theorem rIt{a b:Expr}{pos:Pos}{q fb:Ev}(B:X.A.units+1<cLine)(z:PB X O a q)(F:PB X O b fb)(hs:yQ b:=by exact λ_ _=>rfl):PD X O (.Subscript a b pos) (bC aI q fb):=y8 B z F hs
theorem qbT{a b:Expr}{pos:Pos}{q fb:Ev}{j:Nat}(B:Room j X.A)(F:PB X O a q)(z:PB X O b fb)(G:zbS .NotIn b=false):wB X O (.Compare a [.NotIn] [b] pos) (rK (bC oM q fb)):=yD (JP B.units) F z G
theorem rCm{a b:Expr}{op:CmpOp}{pos:Pos}{g:D->D->Option D}{q fb:Ev}(z:mE X (zaB op) g)(B:PB X O a q)(F:PB X O b fb)(h1:op≠CmpOp.In)(h2:op≠CmpOp.NotIn):PD X O (.Compare a [op] [b] pos) (bC g q fb):=WP z B F (E9 _ h1 h2)
theorem xEq{j:Nat}(q:Room j X.A):mE X (zaB .Eq) iG:=VU q.units
theorem xNe{j:Nat}(q:Room j X.A):mE X (zaB .NotEq) zZ:=qaa q.units
theorem xLt{j:Nat}(q:Room j X.A):mE X (zaB .Lt) dLt:=X2 q.units0
def At(l:List Str)(x:Str)(i:Nat):Prop:=l[i]?=some x
theorem at_(i:Nat){l:List Str}{x:Str}(h:l[i]?=some x:=by eq_refl):At l x i:=h
theorem vB{i:Nat}{x:Str}{p:Pos}(h:At X.N x i)(z:ZN X.env.scope x)(hd:(x == ("__debug__" : Str))=false)(q:(x == ("__classdict__" : Str))=false):PB X O (.Name x p) (aD i):=Y2 i (pv i h z hd q)
theorem vD{i:Nat}{x:Str}{p:Pos}(h:At X.N x i)(n:O.contains i=false)(z:ZN X.env.scope x)(hd:(x == ("__debug__" : Str))=false)(q:(x == ("__classdict__" : Str))=false):PD X O (.Name x p) (aD i):=vE i (pv i h z hd q) (by simpa using n)
theorem gV{i:Nat}{x:Str}{pos:Pos}(h:At X.N x i)(n:O.contains i=false)(z:X.N.Nodup)(hx:Loc X.env.scope x)(q:X.fn x=true\/X.env.scope.names.lookup x=some .local):DF X O (.Name x pos) (aR i):=nW (g9 z h hx q) n
theorem aJ(i:Nat)(z:PD X O e f:=by trivial)(B:X.N.Nodup:=by assumption)(hi:X.N[i]?=some x:=by rfl)(hx:Loc X.env.scope x:=by first|exact zaY rfl|exact zbM rfl)(h:Sub O' (O.filter (· != i))=true:=by rfl)(hs:zaD e (some (.Name x pos')) pos.line X.env=pure false:=by rfl)(q:X.fn x=true\/X.env.scope.names.lookup x=some .local:=by first|exact .inl rfl|exact .inr rfl):j9 X L O (.Assign [.Name x pos'] e pos) (eE i f) O':=IB B hi hx z h hs q
theorem eM(i:Nat)(z:PF X O e f:=by trivial)(F:X.N.Nodup:=by assumption)(hi:X.N[i]?=some x:=by rfl)(hx:Loc X.env.scope x:=by first|exact zaY rfl|exact zbM rfl)(h:Sub O' (i::O)=true:=by rfl)(B:O.contains i=false:=by rfl)(hs:zaD e (some (.Name x pos')) pos.line X.env=pure false:=by rfl)(q:X.fn x=true\/X.env.scope.names.lookup x=some .local:=by first|exact .inl rfl|exact .inr rfl):j9 X L O (.Assign [.Name x pos'] e pos) (eE i f) O':=NR F hi hx z h B hs q
theorem lL(i:Nat)(z:PD X O e f:=by trivial)(q:PE X o (dB i):=by exact pv _)(G:mem O i=true:=by rfl)(M:zaR o "append" X.env (eval o X.env)=eval o X.env:=by rfl)(J:((((zaH cpos (zag [e] X.env)).all λx=>!x.fst) && (backToKw cpos (keywordEach [] X.env)).all λx=>x.fst.isSome) && decide (([e].length+([]:List Keyword).length+if([]:List Keyword).isEmpty=true then 0 else 1)<30))=true:=by rfl)(U:(apos.endLine == cpos.line)=true:=by rfl)(B:zag [e] X.env=(false,eval e X.env)::zag [] X.env:=by rfl)(N:((zaH cpos (zag [] X.env)).any λx=>x.fst)=false:=by rfl)(hs:zaD (.Call (.Attribute o "append" apos) [e] [] cpos) none pos.line X.env=pure false:=by rfl)(h:Sub O' O=true:=by rfl):j9 X L O (.Expr (.Call (.Attribute o "append" apos) [e] [] cpos) pos) (LC i f) O':=DV q z G (xQ zcZ PySem.F.slot_list_append PySem.F.type_list_append xF q (cR (PD.pe z) fT (hs:=B)) M J U B N) hs h
theorem aM(q:PD X O e f:=by trivial):eO X L O [.Return (some e) pos] (LM f) O':=aP (T3 q)
theorem QV(q:eO X L O a f O')(z:eO X L O b k O')(B:wB X O c g:=by trivial):j9 X L O (.If c a b pos) (zX g f k) O':=EU B q z
theorem aS(q:eO X L O a f O')(z:wB X O c g:=by trivial)(h:Sub O' O=true:=by rfl):j9 X L O (.If c a [] pos) (zX g f VF) O':=EU z q (HL h)
theorem qaP{st:Stmt}:eO X L O [st] VA O':=aP KI
theorem qaD{c:Expr}{st:Stmt}{pos:Pos}{g:Bv}(q:wB X O c g:=by trivial)(h:Sub O' O=true:=by rfl):j9 X L O (.If c [st] [] pos) (zX g VA VF) O':=EU q qaP (HL h)
theorem d8(q z:List Nat)(B:eO X ⟨z,q⟩ q body b q)(hi:PDI X O tg iter f:=by trivial)(M:DF X q tg g:=by trivial)(G:zca (model X.prog X.w) X.A X.env X.xe:=by exact zeo)(J:X.calm=true:=by rfl)(h1:Sub q O=true:=by rfl)(h2:Sub O' q=true:=by rfl)(F:Sub O' z=true:=by rfl)(hs:∀x,zba iter X.env x=pure x:=by intro _;rfl):j9 X L O (.For tg iter body [] pos) (zW f g b) O':=UB G J hi M B h1 h2 F hs
theorem QB(q z:List Nat)(B:eO X ⟨z,q⟩ q body b q)(J:wB X q c g:=by trivial)(G:zca (model X.prog X.w) X.A X.env X.xe:=by exact zeo)(h1:Sub q O=true:=by rfl)(h2:Sub O' q=true:=by rfl)(F:Sub O' z=true:=by rfl):j9 X L O (.While c body [] pos) (mZ g b) O':=J8 G J B h1 h2 F
theorem CZ(i:Nat)(B:PD X O value fe:=by trivial)(J:PB X O k fk:=by trivial)(G:X.A.units+1<cLine:=by assumption)(F:PE X o (dB i):=by exact pv _)(z:mem O i=true:=by rfl)(h:Sub O' O=true:=by rfl)(hs:zaD value (some (.Subscript o k pos')) pos.line X.env=pure false:=by rfl)(q:zc8 [.Subscript o k pos'] value pos.line X.env=pure false:=by rfl)(hw:zc9 [.Subscript o k pos'] value X.env=pure none:=by rfl)
  (M:∀ {to ti:TE} {t:QP},PE X o to->PE X k ti->U1 X t->PG X (.Subscript o k pos') (ZG to ti t):=by intro _ _ _ a b c;exact O9 a b c):j9 X L O (.Assign [.Subscript o k pos'] value pos) (FQ i fk fe) O':=UM G F J B z h hs q hw M
theorem dY(σ:zad)(N:List Str)(ms:List (Option Nat))(hi:PDI X O tg iter it:=by trivial)(U:∀C s H fp,N.Nodup->DF (My.aY X N scope (iE X.env.cells scope.names []) C s H fp) [] tg g:=by intros;trivial)(G:∀C s H fp,My.FZ (My.aY X N scope (iE X.env.cells scope.names []) C s H fp) ifs (tDT [] c):=by intros;trivial)(F:∀C s H fp,PD (My.aY X N scope (iE X.env.cells scope.names []) C s H fp) [] elt f:=by intros;trivial)
  (hx:X.env.cells=zcb (σ.heap.objs.size+1) X.env.scope.names []:=by rfl) (q:dP X scope N ms:=by repeat' first|exact zaV|exact rfl|exact zaY rfl|constructor) (J:N.Nodup:=by decide)
  (M:X.calm=true:=by rfl) (B:scope.kind=.function:=by rfl) (h:C5 scope.names X.env.scope.names=true:=by rfl) (z:(ms.all λo=>match o with|some i=>!O.contains i|none=>true)=true:=by rfl) (hs:∀x,zba iter X.env x=pure x:=by intro _;rfl):PF X O (.ListComp elt [⟨tg,iter,ifs,0⟩] scope pos) (d7 ms it g c f):=RB M (EX B h hx) q z hi (λC s H fp=>U C s H fp J) G F hs
theorem lG(i:Nat)(σ:zad)(N:List Str)(ms:List (Option Nat))(hi:PDI X O tg iter it:=by trivial)(hg:∀C s H fp,N.Nodup->DF (My.aY X N scope (iE X.env.cells scope.names []) C s H fp) [] tg g:=by intros;trivial)(Y:∀C s H fp,My.FZ (My.aY X N scope (iE X.env.cells scope.names []) C s H fp) ifs (tDT [] c):=by intros;trivial)(W:∀C s H fp,PD (My.aY X N scope (iE X.env.cells scope.names []) C s H fp) [] elt f:=by intros;trivial)
  (hx:X.env.cells=zcb (σ.heap.objs.size+1) X.env.scope.names []:=by rfl) (z:dP X scope N ms:=by repeat' first|exact zaV|exact rfl|exact zaY rfl|constructor) (hN:N.Nodup:=by decide)
  (hc:X.calm=true:=by rfl) (U:scope.kind=.function:=by rfl) (h:C5 scope.names X.env.scope.names=true:=by rfl) (J:(ms.all λo=>match o with|some i=>!O.contains i|none=>true)=true:=by rfl) (hs:∀x,zba iter X.env x=pure x:=by intro _;rfl)
  (hX:X.N.Nodup:=by assumption) (F:X.N[i]?=some x:=by rfl) (M:Loc X.env.scope x:=by first|exact zaY rfl|exact zbM rfl) (q:Sub O' (O.filter (· != i))=true:=by rfl) (B:zaD (.ListComp elt [⟨tg,iter,ifs,0⟩] scope pos) (some (.Name x pos')) spos.line X.env=pure true:=by rfl) (G:X.fn x=true\/X.env.scope.names.lookup x=some .local:=by first|exact .inl rfl|exact .inr rfl) :
  j9 X L O (.Assign [.Name x pos'] (.ListComp elt [⟨tg,iter,ifs,0⟩] scope pos) spos) (eE i (d7 ms it g c f)) O':=MO hX F M hc (EX U h hx) z J hi (λC s H fp=>hg C s H fp hN) Y W q hs B G
theorem RX(i:Nat)(σ:zad)(N:List Str)(ms:List (Option Nat))(hi:PDI X O tg iter it:=by trivial)(hg:∀C s H fp,N.Nodup->DF (My.aY X N scope (iE X.env.cells scope.names []) C s H fp) [] tg g:=by intros;trivial)(ht:∀C s H fp,My.FZ (My.aY X N scope (iE X.env.cells scope.names []) C s H fp) ifs (tDT [] c):=by intros;trivial)(Y:∀C s H fp,PD (My.aY X N scope (iE X.env.cells scope.names []) C s H fp) [] elt f:=by intros;trivial)
  (hx:X.env.cells=zcb (σ.heap.objs.size+1) X.env.scope.names []:=by rfl) (z:dP X scope N ms:=by repeat' first|exact zaV|exact rfl|exact zaY rfl|constructor) (hN:N.Nodup:=by decide)
  (hc:X.calm=true:=by rfl) (W:scope.kind=.function:=by rfl) (h:C5 scope.names X.env.scope.names=true:=by rfl) (M:(ms.all λo=>match o with|some i=>!O.contains i|none=>true)=true:=by rfl) (hs:∀x,zba iter X.env x=pure x:=by intro _;rfl)
  (hX:X.N.Nodup:=by assumption) (G:X.N[i]?=some x:=by rfl) (U:Loc X.env.scope x:=by first|exact zaY rfl|exact zbM rfl) (q:Sub O' (i::O)=true:=by rfl) (B:O.contains i=false:=by rfl) (F:zaD (.ListComp elt [⟨tg,iter,ifs,0⟩] scope pos) (some (.Name x pos')) spos.line X.env=pure true:=by rfl) (J:X.fn x=true\/X.env.scope.names.lookup x=some .local:=by first|exact .inl rfl|exact .inr rfl) :
  j9 X L O (.Assign [.Name x pos'] (.ListComp elt [⟨tg,iter,ifs,0⟩] scope pos) spos) (eE i (d7 ms it g c f)) O':=KG hX G U hc (EX W h hx) z M hi (λC s H fp=>hg C s H fp hN) ht Y q B hs F J
end
theorem fx{Q:zai}{w:World}{K:zae}{mg:Str->Option Value}{base:Heap}{x:Str}{k:Nat}{ps:List Str}{F:List D->Option D}(B:List D->Option D)(h:Fn Q w K mg base x k ps F)(e:F=B:=by rfl):Fn Q w K mg base x k ps B:=e ▸ h
noncomputable def Y8:List Str->(List Value->Prop)->Prop
 | [],Q=>Q []
 | _::ps,Q=>∀u,Y8 ps λus=>Q (u::us)
theorem RM{ps:List Str}{Q:List Value->Prop}(h:Y8 ps Q){q:List Value}(e:q.length=ps.length):Q q:=by
 induction ps generalizing q Q with
 | nil=>rw[List.length_eq_zero_iff.mp e];exact h
 | cons a ps ih=>
  cases q with
  | nil=>cases e
  | cons u q=>exact ih (h u) (Nat.succ.inj e)
def Bd(st:Stmt)(x:Str)(ps:List Str):Prop:=∀(kV doc pm:Value) (an:Option Addr) (cdv ct:Value),Y8 ps λq=>bindArgs (zbg x x (eJ st) (bU st) (aO st) .none kV doc pm an cdv ct) ⟨q,[]⟩=pure (ps.zip q)
def De(K:zae)(x:Str)(st:Stmt):Prop:=∃f,zb4 K zaL x=some (some (.ref f))/\Fe K x st f
def Des(K:zae)(tp:Nat->Stmt)(t:List (Str×Nat×List Str)):Prop:=∀p∈t,De K p.1 (tp p.2.1)
theorem Des.nil{K:zae}{tp:Nat->Stmt}:Des K tp []:=λ_ h=>nomatch h
theorem Des.cons{K:zae}{tp:Nat->Stmt}{x:Str}{i:Nat}{ps:List Str}{t:List (Str×Nat×List Str)}{f:Addr}{F:Value}{od G:Option Addr}{B:Array (Option Value)}{kV z J q ct:Value}(a:zb4 K zaL x=some (some (.ref f)))(l:K.lookup f=some ⟨F,od,.func (zbg x x (eJ (tp i)) (bU (tp i)) (aO (tp i)) .none kV z J G q ct),B⟩)(c:zcq K q x=true)(k:zbG K (.ref f)=true)(r:Des K tp t):Des K tp ((x,i,ps)::t):=
 zc0.2 ⟨⟨f,a,Fe.mk l c k⟩,r⟩
def Bds(tp:Nat->Stmt)(t:List (Str×Nat×List Str)):Prop:=∀p∈t,Bd (tp p.2.1) p.1 p.2.2
theorem Bds.nil:Bds tp []:=λ_ h=>nomatch h
theorem Bds.cons(a:Bd (tp i) x ps)(r:Bds tp t):Bds tp ((x,i,ps)::t):=zc0.2 ⟨a,r⟩
theorem Des.d{K:zae}{h:Heap}{mg:Str->Option Value}{tp:Nat->Stmt}{t:List (Str×Nat×List Str)}(X:K.In h)(G:h.Ns zaL mg)(D:Des K tp t)(B:Bds tp t):∀p∈t,My.DefAt K mg p.1 (tp p.2.1) p.2.2:=λp F=>let ⟨_,a,e⟩:=D p F;e.d (zdK X G a) λkV q M J z ct N=>RM (B p F kV q M J z ct)
def Nos(K:zae)(t:List Str):Prop:=∀x∈t,zb4 K zaL x=some none
theorem Nos.nil{K:zae}:Nos K []:=λ_ h=>nomatch h
theorem Nos.cons{K:zae}{x:Str}{t:List Str}(a:zb4 K zaL x=some none)(r:Nos K t):Nos K (x::t):=zc0.2 ⟨a,r⟩
def Gis(K:zae)(t:List (Str×Int)):Prop:=∀p∈t,∃k,zb4 K zaL p.1=some (some (.int p.2 k))
theorem Gis.nil{K:zae}:Gis K []:=λ_ h=>nomatch h
theorem Gis.cons{K:zae}{x:Str}{n:Int}{k:Tok}{t:List (Str×Int)}(a:zb4 K zaL x=some (some (.int n k)))(r:Gis K t):Gis K ((x,n)::t):=zc0.2 ⟨⟨k,a⟩,r⟩
theorem Gis.d{K:zae}{h:Heap}{mg:Str->Option Value}{t:List (Str×Int)}(X:K.In h)(G:h.Ns zaL mg)(D:Gis K t):∀p∈t,GInt mg p.1 p.2:=λp q=>let ⟨_,a⟩:=D p q;⟨⟨_,zdK X G a⟩⟩
noncomputable def mon:List Int->List Int->Int
 | e::es,v::vs=>v^e.toNat*mon es vs
 | _,_=>1
def ev(vs:List Int)(F:List My.Tm):Int:=(F.map λt=>t.2*mon t.1 vs).sum
noncomputable def pw(S:Nat->Int)(a:Int):Nat->Int
 | 0=>0
 | n+1=>pw S a n+a^n*S n
noncomputable def la(k:List Int):Int:=(k.getLast?).getD 0
section
variable {ρ ρ':cX}{f g:Ev}{a b:Bv}{l:Lv}{x y d r:D}{xs:List D}{i j:Int}{k:Nat}{s t:Sv}{o:Option Out}
theorem XY(h:ρ[k]?=some (some x)):aD k ρ=some x:=by unfold aD;rw[h];rfl
theorem qbH:eC x ρ=some x:=rfl
theorem Z8{w:D->D->Option D}(z:f ρ=some x)(B:g ρ=some y)(q:w x y=some r):bC w f g ρ=some r:=by unfold bC;rw[z,aA,B,aA,q]
theorem sH{F:List D->Option D}(h:l ρ=some xs)(k:F xs=some r):aT F l ρ=some r:=by unfold aT;rw[h,aA,k]
theorem yR(h:f ρ=some x)(k:l ρ=some xs):aC f l ρ=some (x::xs):=by unfold aC;rw[h,aA,k,aA]
theorem WO(h:l ρ=some xs):fK l ρ=some (.tup xs):=by unfold fK;rw[h,aB]
theorem YK(h:l ρ=some xs):QK l ρ=some (.lst xs):=by unfold QK;rw[h,aB]
theorem qx(h:f ρ=some (.int i)):IQ f ρ=some (some i):=by unfold IQ;rw[h,aA];rfl
theorem qr{w:D->Option Int->Option Int->Option D}{u v:Ov}{p q:Option Int}(B:f ρ=some x)(F:u ρ=some p)(G:v ρ=some q)(z:w x p q=some r):eSl w f u v ρ=some r:=by unfold eSl;rw[B,aA,F,aA,G,aA,z]
theorem E5{c:Bool}(h:f ρ=some (.bl c)):rK f ρ=some c:=by unfold rK;rw[h,aA];rfl
theorem FE{c:Bool}(h:a ρ=some c):QL a ρ=some (!c):=by unfold QL;rw[h,aB]
noncomputable def ZK{α:Type}(c:Bool)(u v:α):α:=if c=true then u else v
theorem qaH{q:Type}{c:Bool}{u v w:q}(h:c=true)(k:u=w):ZK c u v=w:=(if_pos h).trans k
theorem qaW{q:Type}{c:Bool}{u v w:q}(h:c=false)(k:v=w):ZK c u v=w:=(if_neg (by rw[h];exact nofun)).trans k
theorem WG{c:Bool}{z:Option Bool}(h:a ρ=some c)(k:ZK c (b ρ) (some false)=z):LB a b ρ=z:=by unfold LB;rw[h,aA];exact k
theorem IY{c:Bool}{z:Option Bool}(h:a ρ=some c)(k:ZK c (some true) (b ρ)=z):VI a b ρ=z:=by unfold VI;rw[h,aA];exact k
theorem QF{c:Bool}(h:a ρ=some c)(k:ZK c (s ρ) (t ρ)=o):zX a s t ρ=o:=by unfold zX;rw[h,aA];exact k
def sq(p:Out)(t:Sv):Option Out:=match p with
 | .nx ρ=>t ρ
 | p=>some p
theorem jN{p:Out}(h:s ρ=some p)(k:sq p t=o):dA s t ρ=o:=by unfold dA;rw[h,aA];exact k
theorem ZW(k:t ρ=o):sq (.nx ρ) t=o:=k
theorem CW(h:f ρ=some x):LM f ρ=some (.rt x):=qb2 h
theorem s_ift(h:a ρ=some true)(k:s ρ=o):zX a s t ρ=o:=(qaY h).trans k
theorem s_iff(h:a ρ=some false)(k:t ρ=o):zX a s t ρ=o:=(qaJ h).trans k
theorem YB{w:Gv}(h:f ρ=some x)(k:w x ρ=some ρ'):U2 f w ρ=some (.nx ρ'):=by unfold U2;rw[h,aA,k,aB]
theorem P5(h:aD k ρ=some (.lst xs))(e:f ρ=some x)(z:xs.length<=1000000):LC k f ρ=some (.nx (ρ.set k (some (.lst (xs++[x]))))):=by
 unfold LC;rw[h,aA];show(f ρ).bind _=_;rw[e,aA];exact if_pos (decide_eq_true z)
theorem P6{u v:List D}(z:u.length+v.length<=1000000):eY (.lst u) (.lst v)=some (.lst (u++v)):=if_pos (decide_eq_true z)
theorem TC{u:List D}(z:u.length+1<=1000000):eY (.lst u) (.lst [x])=some (.lst (u++[x])):=P6 z
theorem qaq(h:gE xs i=some x):aI (.lst xs) (.int i)=some x:=h
theorem YS(h:gE xs i=some x):aI (.tup xs) (.int i)=some x:=h
theorem GT{ms:List (Option Nat)}{w:Gv}{ds:List D}(h:l ρ=some xs)(z:xs.length<=1000000)(e:bE w a f xs (jW ms ρ)=some ds):d7 ms l w a f ρ=some (.lst ds):=by unfold d7;rw[h,aA];exact(if_pos (decide_eq_true z)).trans (by rw[e,aB])
theorem XH{w:Gv}:bE w a f [] ρ=some []:=rfl
theorem lV{w:Gv}{ds:List D}(h:w x ρ=some ρ')(k:a ρ'=some true)(e:f ρ'=some y)(r:bE w a f xs ρ'=some ds):bE w a f (x::xs) ρ=some (y::ds):=by rw[bE,h,aA,k,aA,if_pos rfl,e,aA,r,aA]
theorem C9{w:Gv}(h:w x ρ=some ρ')(k:s ρ'=o):turn w s x ρ=o:=by unfold turn;rw[h,aA,k]
theorem zA{w:Gv}{Q:cX->Prop}(h:turn w s x ρ=some (.nx ρ'))(k:Q ρ'):∃ρ',turn w s x ρ=some (.nx ρ')/\Q ρ':=⟨_,h,k⟩
theorem OM{w:Gv}(h:l ρ=some xs)(k:lM w s xs ρ=o):zW l w s ρ=o:=by unfold zW;rw[h,aA,k]
theorem G3{w:Gv}(h:turn w s x ρ=some (.nx ρ'))(k:lM w s xs ρ'=o):lM w s (x::xs) ρ=o:=by
 unfold turn at h;obtain⟨q,z,B⟩:=bind_some h;unfold lM;rw[z,aA,B,aA];exact k
theorem R9{ys:List D}(h:l ρ=some [x])(e:(hZ x).map (gU 0)=some ys):IL l ρ=some ys:=by unfold IL;rw[h,aA];exact e
theorem qag{w:List D->Option (List D)}{ys:List D}(h:l ρ=some xs)(k:w xs=some ys):lR w l ρ=some ys:=by unfold lR;rw[h,aA,k]
end
end P
namespace My
open PySem.SeqAt
def G6:V->List V->Hp->VK->Prop:=λx vs H Q=>∃l xs i y,x=.ref l/\vs=[.int i,y]/\H l=some (.lst xs)/\0<=i/\i<=(xs.length:Int)/\xs.length<zal/\Q .non (upd H l (.lst (xs.take i.toNat++y::xs.drop i.toNat)))
theorem w6:∀ {xs:List V} {us:List Value} (n:Nat),Vals xs us->Vals (xs.take n) (us.take n)
 | _,_,0,_=>by simp;exact .nil
 | _,_,n+1,.nil=>.nil
 | _,_,n+1,.cons h t=>.cons h (w6 n t)
theorem wF:∀ {xs:List V} {us:List Value} (n:Nat),Vals xs us->Vals (xs.drop n) (us.drop n)
 | _,_,0,r=>r
 | _,_,n+1,.nil=>.nil
 | _,_,n+1,.cons h t=>wF n t
theorem K6:MtM X "list.insert" G6:=by
 intro pins s σ H x vs v us Q I W N h;obtain⟨l,xs,i,y,rfl,rfl,M,h0,h1,hz,q⟩:=h;cases W;obtain⟨u1,J,rfl,r1,r2⟩:=vals2 N;obtain⟨t,rfl⟩:=r1;obtain⟨z,B,n,r,Y,e⟩:=I.lstM M;have G:¬ (!Builtin.List.listFitsIndex i)=true:=by
  have hs:zal<=2^40:=by decide
  rw[fitsIndex_both (by lia) (by lia)];decide
 refine zcD F.slot_list_insert ⟨_,e,rfl⟩ F.entry_list_insert (F.args_list_insert_3 _ _ _) (AutoListH.list_insert_list_int_val_1 l B.toArray n i t J G (by rw[zax];lia)) ⟨e,?_⟩;refine⟨.non,_,I.lset (its':=B.take i.toNat++J::B.drop i.toNat) M e ?_ ((w6 _ r).append (.cons r2 (wF _ r))) ?_,rfl,q⟩
 ·have U:min i.toNat B.length=i.toNat:=by lia
  simp only[zax,if_neg (show ¬ i<0 by lia),U];apply Array.ext';simp;exact zbN (by simp)
 ·simp only[zbb,zaz,zbY,zd7]
  lia
end My
namespace P
section
variable {X:Cx}{L:Lp}{O O':List Nat}
def ZF(i:Nat)(fk fe:Ev):Sv:=λρ=>(aD i ρ).bind λx=>(fk ρ).bind λk=>(fe ρ).bind λd=>match x,k with
 | .lst l,.int j=>if a7 l.length=true/\0<=j/\j<=(l.length:Int)then some (.nx (ρ.set i (some (.lst (l.take j.toNat++d::l.drop j.toNat)))))else none
 | _,_=>none
theorem D7(ho:PE X o (dB i))(h1:PD X O B fk)(h2:PD X O z fe)(M:mem O i=true)(hp:PE X (.Call (.Attribute o "insert" apos) [B,z] [] cpos) (ZP X.K "list" My.G6 (dB i) (xM (tD Rep O fk) (xM (tD Rep O fe) U7))))
  (hs:zaD (.Call (.Attribute o "insert" apos) [B,z] [] cpos) none pos.line X.env=pure false:=by rfl) (h:Sub O' O=true:=by rfl):j9 X L O (.Expr (.Call (.Attribute o "insert" apos) [B,z] [] cpos) pos) (ZF i fk fe) O':=
 PS.mono (yG hp hs) <| by
  rintro T σ H ⟨H0,A0,A,E,ρ,out,st,e,p⟩;obtain⟨x,ex,e⟩:=bind_some e;obtain⟨k,ek,e⟩:=bind_some e;obtain⟨d,ed,e⟩:=bind_some e;cases x with
  | lst l=>
   cases k with
   | int j=>
    by_cases F:a7 l.length=true/\0<=j/\j<=(l.length:Int)
    ·replace e:(if a7 l.length=true/\0<=j/\j<=(l.length:Int)then some (Out.nx (ρ.set i (some (.lst (l.take j.toNat++d::l.drop j.toNat)))))else none)=some out:=e
     rw[if_pos F]at e;cases e;obtain⟨a,B,z,W,U⟩:=st.own i _ (bW ex) (iB M);cases U with
     | lst h4 r4=>
      refine⟨_,B,.inl ⟨rfl,_,SqL.of h4⟩,H0,A0,A,E,ρ,_,st,ek,λv H1 N r1=>⟨H0,A0,A,E,ρ,d,st.mono N,ed,λv2 H2 Y r2=>?_⟩⟩;have:=RepB.int_inv (.of r1);subst this;have q:=N.trans Y;have G:=q.ow _ _ z h4;refine⟨a,_,j,v2,rfl,rfl,G,F.2.1,by rw[r4.length];exact F.2.2,by rw[r4.length];exact jH F.1,?_⟩;obtain⟨A',J⟩:=((st.mono q).write (o:=.lst _) (bW ex) (iB M) B z W G trivial (.lst aL ((((r4.ext q).take j.toNat).append (.cons r2 ((r4.ext q).drop j.toNat))).put z G trivial))).shut (Sub.mem h);exact p A' σ _ J
    ·replace e:(if a7 l.length=true/\0<=j/\j<=(l.length:Int)then some (Out.nx (ρ.set i (some (.lst (l.take j.toNat++d::l.drop j.toNat)))))else none)=some out:=e
     rw[if_neg F]at e;cases e
   | _=>exact nn e
  | _=>exact nn e
end
end P
namespace My
abbrev NK:=Key×List Key
abbrev Mf:=NK->Option (Int×Int)
section
variable {P:zai}{w:World}{H:Hp}{h:Heap}{a b:Addr}{dom:List NK}{f:Mf}{p:Option NK}
theorem rY(ok:HOk P w H h)(e:H a=some (.tup [kV k.1,.ref b]))(z:H b=some (.tup (k.2.map kV))):(c7 (bA P w)).is h k a:=by
 obtain⟨_,q,r,o,h1,h2,n,B⟩:=(show ObjOk P w H h a (.tup [kV k.1,.ref b])from ok a _ e);cases r with
 | cons r1 r=>
  cases r with
  | cons r2 r=>
   cases r;cases(show _=zau b from r2);exact⟨o,n,_,b,h1,h2,B.1,vM r1,pP ok z⟩
def Ent(H:Hp)(dom:List NK)(f:Mf)(x:NK×Addr×Value):Prop:=x.1∈dom/\(∃b,H x.2.1=some (.tup [kV x.1.1,.ref b])/\H b=some (.tup (x.1.2.map kV)))/\MemV H (f x.1) x.2.2
theorem C7(ok:HOk P w H h)(e:H a=some (.memo dom f p)):(a == za6)=false/\∃xs,(∀x∈xs,Ent H dom f x)/\(∀k,p=some k->∃q,atKey xs k=some q)/\h.DictOfH (c7 (bA P w)) a xs:=by
 obtain⟨y,xs,r,B,o,es,ep,h1,h2,z,M,J⟩:=(show ObjOk P w H h a (.memo dom f p)from ok a _ e);refine⟨y,xs,r,B,o,es,ep,h1,h2,z,M,λx hx=>?_,J⟩;obtain⟨_,⟨b,F,G⟩,_⟩:=r x hx;exact rY ok F G
theorem vO{xs:List (NK×Addr×Value)}{k:NK}{q:Addr×Value}(h:atKey xs k=some q):(k,q)∈xs:=by
 unfold atKey at h;obtain⟨x,hx,e⟩:=Option.map_eq_some_iff.mp h;have:=List.mem_of_find?_eq_some hx;have z:x.1=k:=by simpa using List.find?_some hx
 rw[<- z,<- e];exact this
end
def MemW(H:Hp):Option (Int×Int)->V->Prop
 | none,v=>v=.non
 | some p,v=>∃b,v=.ref b/\H b=some (.tup [.int p.1,.int p.2])
theorem MemV.of(h:MemV H r u):∃v,RelV v u/\MemW H r v:=by
 cases r with
 | none=>exact⟨.non,h,rfl⟩
 | some p=>obtain⟨b,z,q⟩:=h;exact⟨.ref b,z,b,rfl,q⟩
theorem MemW.to(h:MemW H r v)(q:RelV v u):MemV H r u:=by
 cases r with
 | none=>cases(show v=.non from h);exact q
 | some p=>obtain⟨b,B,z⟩:=h;subst B;exact⟨b,q,z⟩
def lK(H:Hp)(k:NK)(y:V):Prop:=∃c b,y=.ref c/\H c=some (.tup [kV k.1,.ref b])/\H b=some (.tup (k.2.map kV))
section
variable {X:Cx}{pins:List (Addr×Obj)}{σ:L2.St}{H:Hp}{s:zad}{a:Addr}{y v:V}{u r:Value}{A:zao}{E:Value->zad->Prop}{dom:List NK}{f:Mf}{p:Option NK}{k:NK}
theorem YE(I:Inv X pins σ H s)(e:H a=some (.memo dom f p)):s.TypeIs (.ref a) "dict" := by
 obtain⟨_,_,_,_,o,es,ep,h1,h2,_⟩:=C7 I.hok e;exact⟨o,h1,h2.1⟩
theorem yL(I:Inv X pins σ H s)(e:H a=some (.memo dom f p))(h:∀xs:List (NK×Addr×Value),(∀k,p=some k->∃q,atKey xs k=some q)->s.heap.DictOfH (c7 (bA X.prog X.w)) a xs->∀k,p'=some k->∃q,atKey xs k=some q):Inv X pins σ (upd H a (.memo dom f p')) {s with toks:=t'}:=by
 obtain⟨y,xs,r,hp,o,es,ep,h1,h2,h3,h4,h5⟩:=(show ObjOk X.prog X.w H s.heap a (.memo dom f p)from I.hok a _ e);obtain⟨_,B,r',M,N⟩:=C7 I.hok e;have J:∀b ys,H b=some (.tup ys)->upd H a (.memo dom f p') b=some (.tup ys):=λb ys z=>by rw[aG (vL z e (λq=>nomatch q))];exact z
 obtain⟨o',G,F,g1,g2,g3,U,_,g5⟩:=id N;refine I.write (x:=a) (e:=a) (h':=s.heap) (t':=t') (by rw[e];exact zaV) (.inl rfl) (λ_ _ _ z=>z) ⟨o',g1⟩ ⟨y,B,λx hx=>?_,h B M N,o',G,F,g1,g2,g3,U,g5⟩;obtain⟨d,⟨b,q1,q2⟩,m⟩:=r' x hx;refine⟨d,⟨b,J _ _ q1,J _ _ q2⟩,?_⟩;revert m;cases f x.1 with
 | none=>exact id
 | some p=>exact λ⟨c,W,Y⟩=>⟨c,W,J _ _ Y⟩
theorem UV{Q:Value->zad->Prop}(hu:A.units+2<cLine)(I:Inv X pins σ H s)(e:H a=some (.memo dom f p))(ky:lK H k y)(ry:RelV y u)(h1:∀s',Inv X pins σ (upd H a (.memo dom f none)) s'->Q (.bool true) s')(h2:∀s',Inv X pins σ (upd H a (.memo dom f (some k))) s'->Q (.bool false) s') :
  wpAny (model X.prog X.w) A (zaB .NotIn u (.ref a)) Q E s:=by
 obtain⟨c,b,rfl,e1,e2⟩:=ky;cases(show u=zau c from ry);obtain⟨hd,xs,rr,hp,Y⟩:=C7 I.hok e;refine wpAny_notIn_heap (knd:=c7 (bA X.prog X.w)) (show A.in1.units+1<cLine from hu) (rY I.hok e1 e2) hd Y ?_;have B:∀ys,s.heap.DictOfH (c7 (bA X.prog X.w)) a ys->∀q,atKey xs k=some q->∃q,atKey ys k=some q:=λys J q F=>by
  obtain⟨o,es,ep,g1,g2,g3,g4,g5,g6⟩:=Y;obtain⟨o',ak,aj,W,j2,U,j4,j5,j6⟩:=J;rw[g1]at W;cases W;rw[g3]at U;cases U;have he:xs.map (zcl (c7 (bA X.prog X.w)))=ys.map (zcl (c7 (bA X.prog X.w))):=g4.symm.trans j4;have N:=vO F;obtain⟨i,hi⟩:=List.mem_iff_getElem?.mp N;have M:(ys.map (zcl (c7 (bA X.prog X.w))))[i]?=some (zcl (c7 (bA X.prog X.w)) (k,q)):=by rw[<- he,zaA,hi];rfl
  rw[zaA]at M;obtain⟨z,hz,ez⟩:=Option.map_eq_some_iff.mp M;have ka:z.2.1=q.1:=by
   have:=congrArg DictEntry.key ez;injection this
  have kk:z.1=k:=(c7 (bA X.prog X.w)).inj (h:=s.heap) (a:=q.1) (ka ▸ j5 z (zaw hz)) (g5 _ N);exact⟨z.2,atKey_of_get j6 (i:=i) (by rw[hz,<- kk])⟩
 cases F:atKey xs k with
 | none=>exact h1 _ (yL (p':=none) I e λ_ _ _ k G=>by cases G)
 | some q=>exact h2 _ (yL I e λys _ J k' G=>by cases G;exact B ys J q F)
theorem JE{Q:Value->zad->Prop}(G:A.units+2<cLine)(I:Inv X pins σ H s)(e:H a=some (.memo dom f (some k)))(J:lK H k y)(Y:RelV y u)(h:∀v B s',Inv X pins σ H s'->RelV v B->MemW H (f k) v->Q B s') :
  wpAny (model X.prog X.w) A (zby (.ref a) u) Q E s:=by
 obtain⟨c,b,rfl,N,U⟩:=J;cases(show u=zau c from Y);obtain⟨hd,xs,W,M,dd⟩:=C7 I.hok e;obtain⟨q,z⟩:=M k rfl;refine wpAny_getItem_heap (knd:=c7 (bA X.prog X.w)) (show A.in1.units+1<cLine from G) (rY I.hok N U) dd z ?_;obtain⟨_,_,m⟩:=W _ (vO z);obtain⟨v,F,mw⟩:=MemV.of m;exact h v _ _ (I.tok _) F mw
theorem GV:∀ {l:List NK},x∈l->(l.filter λy=>decide (y≠x)).length<l.length
 | [],h=>nomatch h
 | y::l,h=>by
  by_cases e:y=x
  ·rw[List.filter_cons_of_neg (by simp[e])]
   exact Nat.lt_succ_of_le (zc1 _ _)
  ·rw[List.filter_cons_of_pos (by simp[e]),zaz,zaz]
   exact Nat.succ_lt_succ (GV ((List.mem_cons.mp h).resolve_left λz=>e z.symm))
theorem few:∀ {xs dom:List NK},xs.Nodup->(∀x∈xs,x∈dom)->xs.length<=dom.length
 | [],_,_,_=>zaJ _
 | x::xs,dom,q,h=>by
  have q:=List.nodup_cons.mp q;have i:=few (xs:=xs) (dom:=dom.filter λy=>decide (y≠x)) q.2 λy B=>List.mem_filter.mpr ⟨h y (zap _ B),decide_eq_true λz=>q.1 (by rw[<- z];exact B)⟩
  have:=GV (h x (zar ..));rw[zaz];lia
set_option tactic.hygienic true in
theorem KC{Q:Unit->zad->Prop}(hu:A.units+2<cLine)(I:Inv X pins σ H s)(e:H a=some (.memo dom f p))(ky:lK H k y)(hk:k∈dom)(hl:dom.length<zal)(mv:MemW H (f k) v)(ry:RelV y u)(rv:RelV v r)(h:∀s',Inv X pins σ (upd H a (.memo dom f (some k))) s'->Q () s') :
  wpAny (model X.prog X.w) A (setItem (.ref a) u r) Q E s:=by
 obtain⟨c,b,rfl,G,F⟩:=ky;cases(show u=zau c from ry);obtain⟨hd,xs,M,hp,dd⟩:=C7 I.hok e;have nd:(xs.map (·.1)).Nodup:=by obtain⟨_,_,_,_,_,_,_,_,z⟩:=dd;exact z
 have B:xs.length<=zal:=by
  have:=few nd (λx hx=>by obtain⟨y,J,rfl⟩:=List.mem_map.mp hx;exact(M y J).1);rw[zah]at this
  lia
 refine wpAny_setItem_heap (knd:=c7 (bA X.prog X.w)) (hsz:=B) (show A.in1.units+1<cLine from hu) (rY I.hok G F) dd λh' U hs=>h _ ?_
 obtain⟨q,es,ep,Y,h2,h3,h4,_,h5⟩:=U;have W:∀b ys,H b=some (.tup ys)->upd H a (.memo dom f (some k)) b=some (.tup ys):=λb ys z=>by rw[aG (vL z e (λq=>nomatch q))];exact z
 have all:∀x∈storedH xs k c r,Ent H dom f x:=λx hx=>by
  unfold storedH at hx;split at hx
  ·obtain⟨y,J,rfl⟩:=List.mem_map.mp hx
   unfold putAt;split
   ·rename_i _ hyk
    obtain⟨a1,a2,a3⟩:=M y J;exact⟨a1,a2,by rw[hyk];exact mv.to rv⟩
   ·exact M y J
  ·rcases List.mem_append.mp hx with z|z
   ·exact M x z
   ·rw[List.mem_singleton.mp z];exact⟨hk,⟨b,G,F⟩,mv.to rv⟩
 refine lU I (by rw[e];exact zaV) hs ⟨q,Y⟩ ⟨hd,_,λx hx=>?_,λk' N=>?_,q,es,ep,Y,h2,h3,h4,h5⟩
 ·obtain⟨d,⟨b,q1,q2⟩,m⟩:=all x hx
  refine⟨d,⟨b,W _ _ q1,W _ _ q2⟩,?_⟩;revert m;cases f x.1 with
  | none=>exact id
  | some p=>exact λ⟨c,G,F⟩=>⟨c,G,W _ _ F⟩
 ·cases N
  have:∃q,(k,q)∈storedH xs k c r:=by
   unfold storedH;split
   ·rename_i hh
    obtain⟨z,B⟩:=Option.isSome_iff_exists.mp hh;exact⟨(z.1,r),List.mem_map.mpr ⟨(k,z),vO B,by unfold putAt;rw[if_pos rfl]⟩⟩
   ·exact⟨(c,r),zaU _ (List.mem_singleton.mpr rfl)⟩
  obtain⟨z,B⟩:=this;obtain⟨i,hi⟩:=List.mem_iff_getElem?.mp B;exact⟨z,atKey_of_get h5 hi⟩
end
end My
namespace P
open My
def wA(C:Addr)(x:Str):D->Option D
 | .ob C' fs=>if C'=C then fs.lookup x else none
 | _=>none
def d5(C:Addr)(x:Str)(f:Ev):Ev:=λρ=>(f ρ).bind (wA C x)
theorem rX:∀ {fs:List (Str×D)} {vs:List (Str×V)} {d:D},vs.map (·.1)=fs.map (·.1)->RepL A H (fs.map (·.2)) (vs.map (·.2))->fs.lookup x=some d->∃v,vs.lookup x=some v/\Rep A H d v
 | [],[],_,_,_,h=>nomatch h
 | [],_::_,_,e,_,_=>nomatch e
 | _::_,[],_,e,_,_=>nomatch e
 | (a,d0)::fs,(b,v0)::vs,d,e,r,h=>by
  injection e with z e2
  have z:b=a:=z;subst z;cases r with
  | cons r1 r2=>
   by_cases q:(x == b)=true
   ·rw[zb2,q]at h
    cases h;exact⟨v0,by rw[zb2,q],r1⟩
   ·rw[zb2,Bool.eq_false_iff.mpr q]at h
    obtain⟨v,B,F⟩:=rX e2 r2 h;exact⟨v,by rw[zb2,Bool.eq_false_iff.mpr q];exact B,F⟩
section
variable {X:Cx}{O:List Nat}
set_option tactic.hygienic true in
theorem lS(c:Cls X.K C)(n:NoAttr X.K C x)(N:PB X O e f)(F:zaR e x X.env (eval e X.env)=eval e X.env:=by rfl):PD X O (.Attribute e x pos) (d5 C x f):=
 PE.mono (lE N F) <| by
  rintro σ H Q ⟨H0,A0,A,E,ρ,d,st,e,q⟩;obtain⟨y,B,z⟩:=bind_some e;cases y with
  | ob C' fs=>
   unfold wA at z;dsimp only at z;split at z
   ·rename_i hC
    subst hC;refine⟨H0,A0,A,E,ρ,_,st,B,λv H1 J r1=>?_⟩;obtain⟨a,dx,vs,rfl,h,U,r⟩:=r1.ob_inv;obtain⟨v,G,M⟩:=rX U r z;exact⟨a,_,dx,vs,v,rfl,h,c,n,G,q v H1 J M⟩
   ·cases z
  | _=>cases z
end
def RJ(ty td:TE):TE:=λσ H Q=>ty σ H λy H1=>td σ H1 λx H2=>∃a dom f p k,x=.ref a/\H2 a=some (.memo dom f p)/\lK H2 k y/\Q (.bl true) (upd H2 a (.memo dom f none))/\Q (.bl false) (upd H2 a (.memo dom f (some k)))
def qae(td ty tv:TE):TS:=λD σ H=>tv σ H λv H1=>td σ H1 λx H2=>ty σ H2 λy q=>∃a dom f p k,x=.ref a/\q a=some (.memo dom f p)/\lK q k y/\k∈dom/\dom.length<zal/\MemW q (f k) v/\D.nx σ (upd q a (.memo dom f (some k)))
def V5(td ty:TE):TE:=λσ H Q=>td σ H λx H1=>ty σ H1 λy H2=>∃a dom f k,x=.ref a/\H2 a=some (.memo dom f (some k))/\lK H2 k y/\∀v,MemW H2 (f k) v->Q v (upd H2 a (.memo dom f none))
section
variable {X:Cx}{o i e value:Expr}{pos pos' tpos:Pos}{td ty tv:TE}
theorem KO(J:X.A.units+2<cLine)(hi:PE X i ty)(F:PE X o td):PC X .NotIn i o (RJ ty td):=by
 intro pins s σ H Q I h;refine cK (hi pins s σ H _ I h) λiv G ⟨y,H1,B,ry,q1⟩=>cK (F pins G σ H1 _ B q1) λu s2 ⟨x,H2,W,Y,a,dom,f,p,k,ex,g,U,N,M⟩=>?_
 subst ex;obtain rfl:u=zau a:=Y;exact UV J W g U ry (λz q=>⟨.bl true,_,q,rfl,N⟩) λz q=>⟨.bl false,_,q,rfl,M⟩
theorem T4(F:X.A.units+2<cLine)(J:PE X o td)(hi:PE X i ty)(z:PE X value tv)(hs:zaD value (some (.Subscript o i pos')) pos.line X.env=pure false) :
  PS X (.Assign [.Subscript o i pos'] value pos) (qae td ty tv):=by
 intro pins s σ H D I h;refine wpAny_Assign_Subscript (cK (z pins s σ H _ I h) λr s1 ⟨v,H1,B,rv,q1⟩=>cK (J pins s1 σ H1 _ B q1) λu s2 ⟨x,H2,I2,U,q2⟩=>cK (hi pins s2 σ H2 _ I2 q2) λiv s3 ⟨y,H3,I3,W,a,dom,f,p,k,ex,g,ky,G,q,Y,N⟩=>?_) hs;subst ex;obtain rfl:u=zau a:=U;exact KC F I3 g ky G q Y W rv λs4 M=>⟨σ,_,M,N⟩
theorem SO(M:X.A.units+2<cLine)(J:PE X o td)(hi:PE X i ty)(hs:LD i):PE X (.Subscript o i pos) (V5 td ty):=by
 intro pins s σ H Q I h;refine GF PySem.F.slot_dict_getitem.lookup hs (cK (J pins s σ H _ I h) λu U ⟨x,H1,G,rx,q1⟩=>cK (hi pins U σ H1 _ G q1) λiv s2 ⟨y,H2,z,ry,a,dom,f,k,ex,g,ky,q2⟩=>?_);subst ex;obtain rfl:u=zau a:=rx;exact⟨YE z g,JE M z g ky ry λv w' B W q Y=>⟨v,_,yL (p':=none) (t':=B.toks) W g (λ_ _ _ k N=>by cases N),q,q2 v Y⟩⟩
end
noncomputable def intsOf:List D->Option (List Int)
 | []=>some []
 | .int i::l=>(intsOf l).map (i::·)
 | _=>none
def nkD:D->Option NK
 | .tup [.int i,.tup l]=>(intsOf l).map λns=>(.inl i,ns.map .inl)
 | _=>none
noncomputable def memD:Option (Int×Int)->D
 | none=>.non
 | some p=>.tup [.int p.1,.int p.2]
open Classical in
def V6(C:Addr)(nz kz tz:Nat)(f1 f2:Sv):Sv:=λρ=>(aD nz ρ).bind λnd=>(wA C "found" nd).bind λm=>match m with
 | .mem dom f=>(aD kz ρ).bind λkd=>(nkD kd).bind λk=>(f1 ρ).bind λo=>match o with
  | .nx ρ1=>(f2 ρ1).bind λo=>match o with
   | .nx ρ2=>(aD tz ρ2).bind λt=>if k∈dom/\dom.length<zal/\t=memD (f k)/\ρ2[nz]?=ρ[nz]?/\ρ2[kz]?=ρ[kz]? then some (.rt t)else none
   | _=>none
  | _=>none
 | _=>none
theorem ints_rep:∀ {l:List D} {vs:List V} {ns:List Int},intsOf l=some ns->RepL A H l vs->vs=(ns.map zbq:List Key).map kV
 | [],vs,ns,h,r=>by cases h;cases r;rfl
 | .int i::l,vs,ns,h,r=>by
  obtain⟨ms,e,rfl⟩:=map_some (show(intsOf l).map (i::·)=some ns from h);cases r with
  | cons r1 r2=>cases r1;rw[ints_rep e r2];rfl
set_option tactic.hygienic true in
theorem SM(h:nkD d=some k)(r:Rep A H d v):lK H k v:=by
 unfold nkD at h;split at h
 ·rename_i i l
  obtain⟨ns,e,rfl⟩:=map_some h;cases r with
  | tup h1 r1=>
   cases r1 with
   | cons a1 r1=>
    cases a1;cases r1 with
    | cons a2 r1=>
     cases r1;cases a2 with
     | tup h2 r2=>exact⟨_,_,rfl,h1,by rw[h2,ints_rep e r2]⟩
 ·cases h
theorem R0(h:Rep A H (memD r) v):MemW H r v:=by
 cases r with
 | none=>cases h;rfl
 | some p=>
  cases h with
  | tup h1 r1=>
   cases r1 with
   | cons a1 r1=>
    cases a1;cases r1 with
    | cons a2 r1=>cases a2;cases r1;exact⟨_,rfl,h1⟩
theorem RV(h:MemW H r v):Rep A H (memD r) v:=by
 cases r with
 | none=>cases(show v=.non from h);exact .non
 | some p=>obtain⟨b,rfl,e⟩:=h;exact .tup e (.cons (.int _) (.cons (.int _) .nil))
set_option tactic.hygienic true in
theorem PH(h:H a=some o):upd H a o=H:=by
 funext b;unfold upd;split
 ·rename_i q;rw[q,h]
 ·rfl
theorem Y4(h:lK H k v)(e:H a=some o)(n:∀xs,o≠.tup xs):lK (upd H a o') k v:=by
 obtain⟨c,b,rfl,B,q⟩:=h;exact⟨c,b,rfl,by rw[aG (vL B e (λz=>n _ z.symm))];exact B,by rw[aG (vL q e (λz=>n _ z.symm))];exact q⟩
section
variable {X:Cx}{L:Lp}{O':List Nat}
set_option tactic.hygienic true in
theorem LP(J G tz:Nat)(c:Cls X.K C)(n:NoAttr X.K C "found")(hu:X.A.units+2<cLine)(h1:j9 X ⟨[],[]⟩ [] W f1 [])(h2:j9 X ⟨[],[]⟩ [] B f2 [])
  (au:PE X n1 (dB J)) (aw:PE X n2 (dB J)) (al:PE X n3 (dB J)) (ax:PE X k1 (dB G)) (ak:PE X k2 (dB G)) (aq:PE X k3 (dB G)) (ht:PE X te (dB tz)) (hs:LD k3)
  (b1:zaR n1 "found" X.env (eval n1 X.env)=eval n1 X.env:=by rfl) (b2:zaR n2 "found" X.env (eval n2 X.env)=eval n2 X.env:=by rfl) (b3:zaR n3 "found" X.env (eval n3 X.env)=eval n3 X.env:=by rfl)
  (hm:zbS .NotIn (.Attribute n1 "found" p1)=false:=by rfl) (hw:zaD te (some (.Subscript (.Attribute n2 "found" p2) k2 p3)) p4.line X.env=pure false:=by rfl) :
  eO X L [] [.If (.Compare k1 [.NotIn] [.Attribute n1 "found" p1] p5) [W,B,.Assign [.Subscript (.Attribute n2 "found" p2) k2 p3] te p4] [] p6,.Return (some (.Subscript (.Attribute n3 "found" p7) k3 p8)) p9] (V6 C J G tz f1 f2) O':=
 PSs.mono (dW (V3 (W7 (KO hu ax (lE au b1)) hm) (dW h1 (dW h2 (jI (T4 hu (lE aw b2) ak ht hw)))) HA) (jI (OW (SO hu (lE al b3) aq hs)))) <| by
  rintro T σ H ⟨H0,A0,A,E,ρ,out,st,e,ac⟩;obtain⟨nd,en,e⟩:=bind_some e;obtain⟨m,Y,e⟩:=bind_some e;cases m with
  | mem dom f=>
   obtain⟨kd,ek,e⟩:=bind_some e;obtain⟨k,kk,e⟩:=bind_some e;obtain⟨o1,a0,e⟩:=bind_some e;cases o1 with
   | nx ρ1=>
    obtain⟨o2,az,e⟩:=bind_some e;cases o2 with
    | nx ρ2=>
     obtain⟨t,et,e⟩:=bind_some e;split at e
     ·rename_i hh
      obtain⟨hd,hl,tm,r1,r2⟩:=hh;cases e;subst tm;cases nd with
      | ob C' fs=>
       unfold wA at Y;dsimp only at Y;split at Y
       ·rename_i hC
        subst hC
        -- what is true wherever the node and the key stand
        have N:∀ {A:Av} {σ:L2.St} {H:Hp} {ρ':cX},ST H0 A0 A E [] σ H ρ'->ρ'[J]?=ρ[J]?->ρ'[G]?=ρ[G]?->∃a dx vs q F,σ[J]?=some (some (.ref a))/\σ[G]?=some (some F)/\H a=some (.ins C' dx vs)/\vs.lookup ("found" : Str)=some (V.ref q)/\H q=some (.memo dom f none)/\lK H k F:=λ{A σ H ρ'} st q1 q2=>by
         obtain⟨v,ev,rv⟩:=st.val J _ (q1.trans (bW en)) (λz=>nomatch z);obtain⟨F,a1,rk⟩:=st.val G _ (q2.trans (bW ek)) (λz=>nomatch z);obtain⟨a,dx,vs,rfl,h,ay,r⟩:=RepB.ob_inv (.of rv);obtain⟨w,hw,ap⟩:=rX ay r Y;obtain⟨q,rfl,aK⟩:=RepB.mem_inv (.of ap);exact⟨a,dx,vs,q,F,ev,a1,h,hw,aK,SM kk rk⟩
        have M:∀ {A:Av} {σ:L2.St} {H:Hp} {ρ':cX},ST H0 A0 A E [] σ H ρ'->∀ {a dx:Addr} {vs:List (Str×V)} {q:Addr} {F:V},σ[J]?=some (some (.ref a))->σ[G]?=some (some F)->H a=some (.ins C' dx vs)->vs.lookup ("found" : Str)=some (V.ref q)->H q=some (.memo dom f none)->lK H k F->qaO (V5 (qaI X.K (dB J) "found") (dB G)) T σ (upd H q (.memo dom f (some k))):=λ{A σ H ρ'} st {a dx vs q F} e1 e2 e3 e4 U e6=>by
         refine⟨_,e1,a,C',dx,vs,_,rfl,by rw[aG (vL e3 U (λz=>nomatch z))];exact e3,c,n,e4,F,e2,q,dom,f,k,rfl,aL,Y4 e6 U (λ_ z=>nomatch z),λv mw=>?_⟩;rw[Q8,PH U];have am:MemW H (f k) v:=by
          revert mw;cases f k with
          | none=>exact id
          | some p=>exact λ⟨b,q1,q2⟩=>⟨b,q1,by
            by_cases z:b=q
            ·subst z;rw[aL]at q2;cases q2
            ·rw[aG z]at q2;exact q2⟩
         exact ac v H st.ex (RV am)
        obtain⟨a,dx,vs,q,F,e1,e2,e3,e4,U,e6⟩:=N st rfl rfl;refine⟨F,e2,_,e1,a,C',dx,vs,_,rfl,e3,c,n,e4,q,dom,f,none,k,rfl,U,e6,⟨true,rfl,?_⟩,⟨false,rfl,?_⟩⟩
        ·rw[PH U]
         dsimp only;rw[if_pos rfl];refine⟨H0,A0,A,E,ρ,_,st,a0,λA1 bc H1 W=>⟨H0,A0,A1,E,ρ1,_,W,az,λA2 bo H2 B=>?_⟩⟩;obtain⟨tv,ao,rt⟩:=B.val tz _ (bW et) (λz=>nomatch z);obtain⟨a',as,an,ar,ah,g1,g2,g3,g4,g5,g6⟩:=N B r1 r2;exact⟨tv,ao,_,g1,a',C',as,an,_,rfl,g3,c,n,g4,ah,g2,ar,dom,f,none,k,rfl,g5,g6,hd,hl,R0 rt,M B g1 g2 g3 g4 g5 g6⟩
        ·dsimp only
         rw[if_neg zaC];exact M st e1 e2 e3 e4 U e6
       ·cases Y
      | _=>cases Y
     ·cases e
    | _=>exact nn e
   | _=>exact nn e
  | _=>exact nn e
end
structure Exx(x:Addr)(A:Av)(H H':Hp):Prop where
 rd:∀b u,b≠x->Rd H b u->Rd H' b u
 kp:∀b u,b≠x->Kp u->H b=some u->H' b=some u
 ow:∀b u,b≠x->A b->H b=some u->H' b=some u
 fz:∀b o u,b≠x->H b=some (.frz o u)->H' b=some (.frz o u)
section
variable {x:Addr}{A A':Av}{H H' H2:Hp}
theorem Exx.trans(a:Exx x A H H')(b:Exx x A H' H2):Exx x A H H2:=
 ⟨λc u n h=>b.rd c u n (a.rd c u n h),λc u n k h=>b.kp c u n k (a.kp c u n k h),λc u n k h=>b.ow c u n k (a.ow c u n k h),λc o u n h=>b.fz c o u n (a.fz c o u n h)⟩
theorem Exx.of(a:Ext A H H'):Exx x A H H':=⟨λc u _ h=>a.rd c u h,λc u _ k h=>a.kp c u k h,λc u _ k h=>a.ow c u k h,λc o u _ h=>a.fz c o u h⟩
theorem Exx.put:Exx x A H (upd H x o):=⟨λb u n h=>iD n h,λb u n _ h=>by rw[aG n];exact h,λb u n _ h=>by rw[aG n];exact h,λb o u n h=>by rw[aG n];exact h⟩
theorem Exx.ext(a:Exx x A H H')(n:H x=none):Ext A H H':=
 have q:∀b,H b≠none->b≠x:=λb B z=>B (by rw[z];exact n)
 ⟨λb u r => a.rd b u (q b (by rcases r with r|⟨_, r⟩ <;> (rw[r];exact λz => nomatch z))) r, λb u k r => a.kp b u (q b (by rw[r];exact λz => nomatch z)) k r,
  λb u k r=>a.ow b u (q b (by rw[r];exact λz=>nomatch z)) k r,λb o u r=>a.fz b o u (q b (by rw[r];exact λz=>nomatch z)) r⟩
theorem Exx.mono(a:Exx x A H H')(s:∀b,A' b->A b):Exx x A' H H':=⟨a.rd,a.kp,λb u n k h=>a.ow b u n (s b k) h,a.fz⟩
mutual
/-- an object that is under way is written -/
theorem Rep.putI(q:A a)(B:H a=some (.ins C dx fs)):Rep A H d v->Rep A (upd H a o) d v
 | .non=>.non
 | .bl b=>.bl b
 | .int i=>.int i
 | .str s=>.str s
 | .tup (a:=b) h r=>.tup (by rw[aG (λz=>by subst z;rw[B]at h;cases h)];exact h) (RepL.putI q B r)
 | .lst (a:=b) n h r=>.lst n (iD (λz=>n (by rw[z];exact q)) h) (RepL.putI q B r)
 | .dK (a:=b) n h e r=>.dK n (iD (λz=>n (by rw[z];exact q)) h) e (RepL.putI q B r)
 | .dT (a:=b) n h e r=>.dT n (iD (λz=>n (by rw[z];exact q)) h) e (RepL.putI q B r)
 | .ob (a:=b) n h e r=>.ob n (by rw[aG (λz=>n (by rw[z];exact q))];exact h) e (RepL.putI q B r)
 | .mem (a:=b) h=>.mem (by rw[aG (λz=>by subst z;rw[B]at h;cases h)];exact h)
theorem RepL.putI(q:A a)(z:H a=some (.ins C dx fs)):RepL A H ds vs->RepL A (upd H a o) ds vs
 | .nil=>.nil
 | .cons h t=>.cons (Rep.putI q z h) (RepL.putI q z t)
end
end
structure IO(K:zae)(H0:Hp)(A:Av)(x C dx:Addr)(ds:List (Str×D))(σ:L2.St)(H:Hp)(ρ:cX):Prop where
 cls:Cls K C
 ax:A x
 live:Live A H
 hx:∃fs:List (Str×V),H x=some (.ins C dx fs)/\fs.map (·.1)=ds.map (·.1)/\RepL A H (ds.map (·.2)) (fs.map (·.2))
 s0:σ[0]?=some (some (.ref x))
 len:σ.length=ρ.length
 val:∀(i:Nat) (d:D),ρ[i]?=some (some d)->∃v,σ[i]?=some (some v)/\Rep A H d v
 ke:Exx x A H0 H
section
variable {K:zae}{H0:Hp}{A:Av}{x C dx:Addr}{ds:List (Str×D)}{σ:L2.St}{H H':Hp}{ρ:cX}
theorem IO.st(s:IO K H0 A x C dx ds σ H ρ):ST H A A [] [] σ H ρ:=
 ⟨Ext.refl _ _,λ_ z=>z,s.live,s.live,s.len,λi d h _=>s.val i d h,(λj d _ h=>nomatch h),(λj k d d' a h=>nomatch h),(λq B=>nomatch B)⟩
theorem IO.ext(s:IO K H0 A x C dx ds σ H ρ)(e:Ext A H H'):IO K H0 A x C dx ds σ H' ρ:=
 ⟨s.cls,s.ax,(s.st.mono e).live,by obtain⟨fs,h,m,r⟩:=s.hx;exact⟨fs,e.ow _ _ s.ax h,m,r.ext e⟩,s.s0,s.len,λi d h=>(s.st.mono e).val i d h (λz=>nomatch z),s.ke.trans (.of e)⟩
theorem uR:∀ {fs:List (Str×V)},f∉fs.map (·.1)->jS f v fs=fs++[(f,v)]
 | [],_=>rfl
 | (g,y)::fs,h=>by
  have h1:¬ g=f:=λz=>h (by rw[zak,z];exact zar ..)
  have h2:f∉fs.map (·.1):=λz=>h (zap _ z)
  rw[jS,if_neg h1,uR h2];rfl
theorem RepL.snoc{ds:List D}{vs:List V}(r:RepL A H ds vs)(h:Rep A H d v):RepL A H (ds++[d]) (vs++[v]):=r.append (.cons h .nil)
theorem IO.put(s:IO K H0 A x C dx ds σ H ρ)(B:f∉ds.map (·.1))(r:Rep A H d v):∃fs,H x=some (.ins C dx fs)/\fs.length=ds.length/\IO K H0 A x C dx (ds++[(f,d)]) σ (upd H x (.ins C dx (jS f v fs))) ρ:=by
 obtain⟨fs,h,m,F⟩:=s.hx;refine⟨fs,h,by have:=congrArg zbl m;simpa using this,s.cls,s.ax,λa G z=>?_,⟨_,aL,?_,?_⟩,s.s0,s.len,λi d h'=>?_,s.ke.trans .put⟩
 ·by_cases q:a=x
  ·subst q;rw[aL]at z;cases z
  ·rw[aG q]at z;exact s.live a G z
 ·rw[uR (by rw[m];exact B),zaI,zaI,m];rfl
 ·rw[uR (by rw[m];exact B),zaI,zaI]
  exact RepL.putI s.ax h (F.snoc r)
 ·obtain⟨v,e,q⟩:=s.val i d h'
  exact⟨v,e,q.putI s.ax h⟩
end
inductive tIO(K:zae)(f:Str)(fe:Ev)(T:Ends)(σ:L2.St)(H:Hp):Prop
 | mk (H0:Hp) (A:Av) (x C dx:Addr) (ds:List (Str×D)) (ρ:cX) (d:D) (st:IO K H0 A x C dx ds σ H ρ) (e:fe ρ=some d) (nf:NoAttr K C f) (lf:ds.length<1000) (hf:f∉ds.map (·.1))
  (n:∀H',IO K H0 A x C dx (ds++[(f,d)]) σ H' ρ->T.nx σ H'):tIO K f fe T σ H
inductive tIC(K:zae)(f h:Str)(F:List D->Option D)(fe:Ev)(T:Ends)(σ:L2.St)(H:Hp):Prop
 | mk (H0:Hp) (A:Av) (x C dx:Addr) (ds:List (Str×D)) (ρ:cX) (d1 d2 d:D) (st:IO K H0 A x C dx ds σ H ρ) (e1:fe ρ=some d1) (e2:ds.lookup h=some d2) (e:F [d1,d2]=some d) (nf:NoAttr K C f) (nh:NoAttr K C h) (lf:ds.length<1000) (hf:f∉ds.map (·.1))
  (n:∀H',IO K H0 A x C dx (ds++[(f,d)]) σ H' ρ->T.nx σ H'):tIC K f h F fe T σ H
inductive tIM(K:zae)(f:Str)(dom:List NK)(g:Mf)(T:Ends)(σ:L2.St)(H:Hp):Prop
 | mk (H0:Hp) (A:Av) (x C dx:Addr) (ds:List (Str×D)) (ρ:cX) (st:IO K H0 A x C dx ds σ H ρ) (nf:NoAttr K C f) (lf:ds.length<1000) (hf:f∉ds.map (·.1))
  (n:∀H',IO K H0 A x C dx (ds++[(f,.mem dom g)]) σ H' ρ->T.nx σ H'):tIM K f dom g T σ H
def Z5(dom:List NK)(g:Mf):TE:=λ_ H Q=>∀p,H p=none->Q (.ref p) (upd H p (.memo dom g none))
section
variable {X:Cx}
theorem RK:PE X (.Dict [] [] pos) (Z5 dom g):=λpins s σ H Q I h=>
 wpAny_Dict_empty ⟨.ref s.heap.objs.size,_,I.laid (a:=s.heap.objs.size) (o:=.memo dom g none) (t':=s.toks) (λ_ _ q=>zam _ q) (zaj _)
  ⟨beq_eq_false_iff_ne.mpr (zaW (zaF I.big)),[],(λ_ z=>nomatch z),(λ_ z=>nomatch z),_,#[],0,zaE _ rfl,⟨rfl,rfl,rfl⟩,rfl,rfl,List.nodup_nil⟩,rfl,h _ (I.hok.fresh (zaj _))⟩
theorem EW(B:PE X o (dB 0))(F:PD X [] e fe)(hs:zaD e (some (.Attribute o f pos')) pos.line X.env=pure false:=by rfl):PS X (.Assign [.Attribute o f pos'] e pos) (tIO X.K f fe):=
 PS.mono (u4 B F hs) λT σ H ⟨H0,A,x,C,dx,ds,ρ,d,st,e,nf,M,q,n⟩=>
  ⟨H, A, A, [], ρ, d, st.st, e, λv H1 z r1 => by
   obtain⟨fs,h,J,G⟩:=(st.ext z).put q r1;exact⟨_,st.s0,x,C,dx,fs,rfl,h,st.cls,nf,by lia,n _ G⟩⟩
theorem UW(F:PE X o (dB 0))(hs:zaD (.Dict [] [] p) (some (.Attribute o f pos')) pos.line X.env=pure false:=by rfl):PS X (.Assign [.Attribute o f pos'] (.Dict [] [] p) pos) (tIM X.K f dom g):=
 PS.mono (u4 F (RK (dom:=dom) (g:=g)) hs) <| by
  rintro T σ H ⟨H0,A,x,C,dx,ds,ρ,st,nf,M,z,n⟩ q B;obtain⟨fs,h,J,G⟩:=(st.ext (Ext.new (o:=.memo dom g none) B)).put z (.mem (aL (H:=H) (a:=q)));exact⟨_,st.s0,x,C,dx,fs,rfl,h,st.cls,nf,by lia,n _ G⟩
theorem T5(FF:Fn X.prog X.w X.K X.mg X.base g k ps F)(W:ps.length=2)(hr:Room k X.A)(hg:Gl X g)(ho:PE X o (dB 0))(G:PE X o2 (dB 0))(he:PD X [] e fe)
  (U:zaR o2 h X.env (eval o2 X.env)=eval o2 X.env:=by rfl) (M:(g == ("__debug__" : Str))=false:=by decide) (h1:zag [e,.Attribute o2 h p2] X.env=(false,eval e X.env)::zag [.Attribute o2 h p2] X.env:=by rfl) (h2:(zaH cpos (zag [.Attribute o2 h p2] X.env)).any (·.1)=false:=by rfl) (h3:zag [.Attribute o2 h p2] X.env=(false,eval (.Attribute o2 h p2) X.env)::zag [] X.env:=by rfl)
  (hs:zaD (.Call (.Name g p) [e,.Attribute o2 h p2] [] cpos) (some (.Attribute o f pos')) pos.line X.env=pure false:=by rfl):PS X (.Assign [.Attribute o f pos'] (.Call (.Name g p) [e,.Attribute o2 h p2] [] cpos) pos) (tIC X.K f h F fe):=by
 obtain⟨fa,fd,hk,B,hm,Y⟩:=My.Ok.ex FF;refine PS.mono (u4 ho (y9 Y hr hg hm hk B .nil IP (cR he (cR (lE G U) fT h3) h1) M h1 h2) hs) λT σ H ⟨H0,A,x,C,dx,ds,ρ,N,d2,d,st,e1,e2,e,nf,nh,lf,hf,n⟩=>?_
 refine⟨H,A,A,[],ρ,N,st.st,e1,λv H1 x1 r1=>?_⟩;have q:=st.ext x1;obtain⟨fs,hx,m,rr⟩:=q.hx;obtain⟨v2,J,z⟩:=rX m rr e2;refine⟨_,q.s0,x,C,dx,fs,v2,rfl,hx,q.cls,nh,J,?_⟩;refine⟨A,[N,d2],d,q.live,.cons r1 (.cons z .nil),W.symm,e,λv3 H3 x3 r3=>?_⟩;obtain⟨fs',h',hl,s2⟩:=(q.ext x3).put hf r3;exact⟨_,q.s0,x,C,dx,fs',rfl,h',q.cls,nf,by lia,n _ s2⟩
end
def ZO(C:Addr)(G:D->D->Option D):Sp:=λvs H Q _=>∃(A:Av) (H1:Hp) (x dx:Addr) (v:V) (b d0 d:D),vs=[.ref x,v]/\H=upd (upd H1 dx (.own x)) x (.ins C dx [])/\H1 x=none/\H1 dx=none/\dx≠x/\Live A H1/\Rep A H1 d0 v/\G b d0=some d/\∀H2,Ext A H1 H2->Rep A H2 d (.ref x)->Q .non H2
structure MkO(P:zai)(w:World)(K:zae)(mg:Str->Option Value)(base:Heap)(k:Nat)(x:Str)(C:Addr)(p:Str)(G:D->D->Option D):Prop where
 ex:∃f fd,mg x=some (.ref C)/\Mk K C f/\Binds K fd ["self",p] []/\FnOk P w K mg base wC k f fd ["self",p] (ZO C G)
def eNew(G:D->D->Option D)(β f:Ev):Ev:=λρ=>(β ρ).bind λb=>(f ρ).bind (G b)
section
variable {X:Cx}{O:List Nat}
theorem m9(M:MkO X.prog X.w X.K X.mg X.base k x C p G)(Y:Room (k+1) X.A)(hg:Gl X x)(he:PD X O e fe)(z:(x == ("__debug__" : Str))=false:=by decide)
  (h1:zag [e] X.env=(false,eval e X.env)::zag [] X.env:=by rfl) (h2:(zaH pos (zag [] X.env)).any (·.1)=false:=by rfl):PD X O (.Call (.Name x pp) [e] [] pos) (eNew G β fe):=by
 obtain⟨f,fd,hm,mk,U,FO⟩:=M.ex;refine PE.mono (SK mk FO Y hg hm U .nil IP (cR he fT h1) z h1 h2) λσ H Q ⟨H0,A0,A,E,ρ,d,st,e,q⟩=>?_
 obtain⟨b,eb,e⟩:=bind_some e;obtain⟨F,e0,e1⟩:=bind_some e;refine⟨H0,A0,A,E,ρ,F,st,e0,λv H1 B r1=>λN dx n1 J ne=>?_⟩;exact⟨A,H1,N,dx,v,b,F,d,rfl,rfl,n1,J,ne,(st.mono B).live,r1,e1,λH2 W r2=>⟨rfl,q _ H2 (B.trans W) r2⟩⟩
end
structure ObT(K:zae)(mg:Str->Option Value)(x q p:Str)(st:Stmt)(C:Addr)(fs:List Str):Prop where
 cls:Cls K C
 na:∀a∈fs,NoAttr K C a
 ex:∃f fd,mg x=some (.ref C)/\Mk K C f/\Binds K fd ["self",p] []/\Fun K "__init__" q st f fd
section
variable {P:zai}{w:World}{K:zae}{mg:Str->Option Value}{base:Heap}
theorem ObT.mko{x q p:Str}{st:Stmt}{C:Addr}{fs N:List Str}{k:Nat}{G:D->D->Option D}(T:ObT K mg x q p st C fs)(S:FnScope N ["self",p] (aO st))
  (h:∀(fa:Addr) (B:Value) (A:zao) (z:List Env) (s:zad) (H:Hp) (E:XK),Room k (A.deeper (zaO q (aO st) s.heap.objs.size fa B))->∀(vs:List V) (Q:VK),ZO C G vs H Q E->∃t,PSs (jZ wC P w K mg base N q (aO st) fa B A z s H E).nox (bU st) t/\t {nx:=λ_ H'=>Q .non H',rt:=Q} (start N vs) H) :
  MkO P w K mg base (k+1) x C p G:=by
 obtain⟨f,fd,W,M,J,F⟩:=T.ex;exact⟨f,fd,W,M,J,F.ok S (λvs H Q E hsp=>by obtain⟨_,_,_,_,_,_,_,_,rfl,_⟩:=hsp;rfl) λB A z s H vs Q E U hsp=>h f B A z s H E U vs Q hsp⟩
end
theorem IO.begun{K:zae}{C x dx:Addr}{A:Av}{H1:Hp}{v:V}{F:D}(cls:Cls K C)(G:H1 x=none)(M:H1 dx=none)(ne:dx≠x)(W:Live A H1)(r:Rep A H1 F v)(m:List (Option V))(hm:∀o∈m,o=none):IO K H1 (λb=>A b\/b=x) x C dx [] (some (.ref x)::some v::m) (upd (upd H1 dx (.own x)) x (.ins C dx [])) (none::some F::m.map λ_=>none):=by
 have nx:upd H1 dx (.own x) x=none:=by rw[aG ne.symm];exact G
 have N:Ext (λb=>A b\/b=x) H1 (upd (upd H1 dx (.own x)) x (.ins C dx [])):=(Ext.new M).trans (Ext.new nx);have r':Rep (λb=>A b\/b=x) (upd (upd H1 dx (.own x)) x (.ins C dx [])) F v:=(r.av (A':=λb=>A b\/b=x) λa B=>B.imp id λz=>by rw[z];exact G).ext N;refine⟨cls,.inr rfl,λa B z=>?_,⟨[],aL,rfl,.nil⟩,rfl,by simp,λi d h=>?_,.of N⟩
 ·rcases B with B|rfl
  ·have J:=W a B
   have Y:a≠x:=λq=>J (by rw[q];exact G)
   have U:a≠dx:=λq=>J (by rw[q];exact M)
   rw[aG Y,aG U]at z;exact J z
  ·rw[aL]at z;cases z
 ·match i,h with
  | 1,h=>cases h;exact⟨v,rfl,r'⟩
  | i+2,h=>
   have:(m.map λ_=>(none:Option D))[i]?=some (some d):=h;rw[zaA]at this;obtain⟨_,_,q⟩:=Option.map_eq_some_iff.mp this;cases q
theorem IO.done{K:zae}{C x dx:Addr}{A:Av}{H1 H2:Hp}{ds:List (Str×D)}{σ:L2.St}{ρ:cX}(s:IO K H1 (λb=>A b\/b=x) x C dx ds σ H2 ρ)(B:H1 x=none)(F:Live A H1):Ext A H1 H2/\Rep A H2 (.ob C ds) (.ref x):=by
 refine⟨(s.ke.ext B).mono λa q=>.inl q,?_⟩;obtain⟨fs,h,m,r⟩:=s.hx;exact .ob (λz=>F x z B) h m (r.av λa q=>.inl (.inl q))
def IU(C:Addr)(fb:Ev)(z:List D->Option D)(B:D->List NK)(ff:D->Mf)(q:D):Option D:=(fb [none,some q]).bind λb=>(z [q,b]).bind λns=>some (.ob C [("part",q),("below",b),("names",ns),("found",.mem (B q) (ff q))])
section
variable {X:Cx}
theorem JR{C:Addr}{k:Nat}{gp:List Str}{o1 o2 o3 F o5 e1 e2 M:Expr}{g:Str}{fb:D->Ev}{Nm:List D->Option D}{dm:D->D->List NK}{ff:D->D->Mf}{a1 a2 a3 a4 p1 p2 p3 p4 q2 G c3 d4:Pos}(cls:Cls X.K C)(J:∀a∈(["part", "below", "names", "found"]:List Str),NoAttr X.K C a)(FF:Fn X.prog X.w X.K X.mg X.base g k gp Nm)(hp:gp.length=2)(hr:Room k X.A)(hg:Gl X g)
  (ah:PE X o1 (dB 0)) (U:PE X o2 (dB 0)) (aa:PE X o3 (dB 0)) (aj:PE X F (dB 0)) (ae:PE X o5 (dB 0)) (Y:PD X [] e1 (aD 1)) (al:∀b,PD X [] e2 (fb b)) (ag:PD X [] M (aD 1))
  (hb:zaR F "below" X.env (eval F X.env)=eval F X.env:=by rfl) (ai:(g == ("__debug__" : Str))=false:=by decide) (h1:zag [M,.Attribute F "below" G] X.env=(false,eval M X.env)::zag [.Attribute F "below" G] X.env:=by rfl) (h2:(zaH c3 (zag [.Attribute F "below" G] X.env)).any (·.1)=false:=by rfl) (h3:zag [.Attribute F "below" G] X.env=(false,eval (.Attribute F "below" G) X.env)::zag [] X.env:=by rfl)
  (s1:zaD e1 (some (.Attribute o1 "part" a1)) p1.line X.env=pure false:=by rfl) (s2:zaD e2 (some (.Attribute o2 "below" a2)) p2.line X.env=pure false:=by rfl) (s3:zaD (.Call (.Name g q2) [M,.Attribute F "below" G] [] c3) (some (.Attribute o3 "names" a3)) p3.line X.env=pure false:=by rfl) (s4:zaD (.Dict [] [] d4) (some (.Attribute o5 "found" a4)) p4.line X.env=pure false:=by rfl)
  {vs:List V} {H:Hp} {Q:VK} {E:XK} (hsp:ZO C (λb=>IU C (fb b) Nm (dm b) (ff b)) vs H Q E) {R:VK}:∃t,PSs X [.Assign [.Attribute o1 "part" a1] e1 p1,.Assign [.Attribute o2 "below" a2] e2 p2,.Assign [.Attribute o3 "names" a3] (.Call (.Name g q2) [M,.Attribute F "below" G] [] c3) p3,.Assign [.Attribute o5 "found" a4] (.Dict [] [] d4) p4] t/\t {nx:=λ_ H'=>Q .non H',rt:=R} (vs.map some) H:=by
 obtain⟨A,H1,x,dx,v,W,B,d,rfl,rfl,n1,n2,ne,lv,rp,N,q⟩:=hsp;obtain⟨b,eb,N⟩:=bind_some N;obtain⟨ns,en,N⟩:=bind_some N;cases N;refine⟨_,dW (EW ah Y s1) (dW (EW U (al W) s2) (dW (T5 FF hp hr hg aa aj ag hb ai h1 h2 h3 s3) (jI (UW (dom:=dm W B) (g:=ff W B) ae s4)))),?_⟩;have I0:=IO.begun cls n1 n2 ne lv rp [] (λ_ z=>nomatch z);refine⟨H1,_,x,C,dx,[],_,B,I0,rfl,J _ (by simp),by simp,by simp,λH2 I2=>?_⟩;refine⟨H1,_,x,C,dx,_,_,b,I2,eb,J _ (by simp),by simp,(show("below" : Str)∉(["part"]:List Str) by decide),λH3 I3=>?_⟩;refine⟨H1,_,x,C,dx,_,_,B,b,ns,I3,rfl,rfl,en,J _ (by simp),J _ (by simp),by simp,(show("names" : Str)∉(["part", "below"]:List Str) by decide),λH4 I4=>?_⟩;refine⟨H1,_,x,C,dx,_,_,I4,J _ (by simp),by simp,(show("found" : Str)∉(["part", "below", "names"]:List Str) by decide),λH5 I5=>?_⟩;obtain⟨x5,r5⟩:=I5.done n1 lv;exact q H5 x5 r5
end
noncomputable def mC{α:Type}(f:D->α->Option α):List D->α->Option α
 | [],a=>some a
 | x::l,a=>(f x a).bind (mC f l)
abbrev LT:=List (List Key×D)
theorem lB(e:Ext A Hs H1)(n:H1 r=none)(H:Hp)(o:HO)(x:Ext A Hs H):Ext A Hs (upd H r o) where
 rd:=λb u h=>by
  by_cases q:b=r
  ·subst q;rcases e.rd _ _ h with z|⟨_,z⟩ <;> (rw[n]at z;cases z)
  ·exact iD q (x.rd _ _ h)
 kp:=λb u k h=>by
  by_cases q:b=r
  ·subst q;have z:=e.kp _ _ k h;rw[n]at z;cases z
  ·rw[aG q];exact x.kp _ _ k h
 ow:=λb u k h=>by
  by_cases q:b=r
  ·subst q;have z:=e.ow _ _ k h;rw[n]at z;cases z
  ·rw[aG q];exact x.ow _ _ k h
 fz:=λb o u h=>by
  by_cases q:b=r
  ·subst q;have z:=e.fz _ _ _ h;rw[n]at z;cases z
  ·rw[aG q];exact x.fz _ _ _ h
structure IA(K:zae)(Hs:Hp)(A0 A:Av)(x C dx r s:Addr)(bk:D)(E:List Fact)(p:LT×LT)(σ:L2.St)(H:Hp)(ρ:cX):Prop where
 cls:Cls K C
 nr:NoAttr K C "routes"
 ns:NoAttr K C "spans"
 av:∀b,A b->A0 b\/b=x\/b=r\/b=s
 a0:∀b,A0 b->A b
 ax:A x
 ar:A r
 at':A s
 ne:r≠s
 fr:∀H o,Ext A0 Hs H->Ext A0 Hs (upd H r o)
 fs:∀H o,Ext A0 Hs H->Ext A0 Hs (upd H s o)
 live:Live A H
 hx:∃vb,H x=some (.ins C dx [("book",vb),("routes",.ref r),("spans",.ref s)])/\Rep A H bk vb
 o1:Own A H (.dT p.1) r
 o2:Own A H (.dT p.2) s
 s0:σ[0]?=some (some (.ref x))
 len:σ.length=ρ.length
 val:∀(i:Nat) (d:D),ρ[i]?=some (some d)->∃v,σ[i]?=some (some v)/\Rep A H d v
 fx:∀q∈E,q.Holds A H
 ke:Ext A0 Hs H
section
variable {K:zae}{Hs:Hp}{A0 A:Av}{x C dx r s:Addr}{bk:D}{E:List Fact}{p:LT×LT}{σ:L2.St}{H H':Hp}{ρ:cX}
theorem IA.st(t:IA K Hs A0 A x C dx r s bk E p σ H ρ):ST H A A E [] σ H ρ:=
 ⟨Ext.refl _ _,λ_ z=>z,t.live,t.live,t.len,λi d h _=>t.val i d h,(λj d _ h=>nomatch h),(λj k d d' a h=>nomatch h),t.fx⟩
theorem IA.ext(t:IA K Hs A0 A x C dx r s bk E p σ H ρ)(e:Ext A H H'):IA K Hs A0 A x C dx r s bk E p σ H' ρ:=
 {t with live:=(t.st.mono e).live,hx:=by obtain⟨B,h,q⟩:=t.hx;exact⟨B,e.ow _ _ t.ax h,q.ext e⟩,o1:=t.o1.ext e t.ar,o2:=t.o2.ext e t.at',val:=λi d h=>(t.st.mono e).val i d h (λz=>nomatch z),fx:=(t.st.mono e).ext,ke:=t.ke.trans (e.mono t.a0)}
theorem IA.more(t:IA K Hs A0 A x C dx r s bk E p σ H ρ)(h:∀q∈E1,q.Holds A H):IA K Hs A0 A x C dx r s bk (E1++E) p σ H ρ:=
 {t with fx:=λq z=>(List.mem_append.mp z).elim (h q) (t.fx q)}
theorem IA.less(t:IA K Hs A0 A x C dx r s bk E p σ H ρ)(h:∀q∈E1,q∈E):IA K Hs A0 A x C dx r s bk E1 p σ H ρ:=
 {t with fx:=λq z=>t.fx q (h q z)}
theorem IA.set(t:IA K Hs A0 A x C dx r s bk E p σ H ρ)(h:Rep A H d v)(n:i≠0):IA K Hs A0 A x C dx r s bk E p (σ.set i (some v)) H (ρ.set i (some d)):=
 {t with
  s0:=by rw[zbE n];exact t.s0
  len:=by rw[zcT,zcT];exact t.len
  val:=λj e h'=>by
   rcases fF h' with⟨rfl,q,l⟩|⟨z,q⟩
   ·cases q
    exact⟨v,by rw[zcz (by rw[t.len];exact l)],h⟩
   ·rw[zbE z.symm];exact t.val j e q}
theorem A7(F:Live A H):Live A (upd H a o):=λb B z=>by
 by_cases q:b=a
 ·subst q;rw[aL]at z;cases z
 ·rw[aG q]at z;exact F b B z
theorem IA.put1(t:IA K Hs A0 A x C dx r s bk E p σ H ρ):∃xs,H r=some (.dT xs)/\xs.length=p.1.length/\∀B w v,Rep A H w v->IA K Hs A0 A x C dx r s bk E (putD p.1 B w,p.2) σ (upd H r (.dT (putK xs B v))) ρ:=by
 cases t.o1 with
 | @dT _ _ xs h e rl=>
  refine⟨xs,h,by have:=congrArg zbl e;simpa using this,λB w v F=>?_⟩;obtain⟨W,U⟩:=xJ (vG B F (vK e rl));obtain⟨J,hx,N⟩:=t.hx;exact {t with
   live:=A7 t.live
   hx:=⟨J,by rw[aG (λz=>by rw[z,h]at hx;cases hx)];exact hx,N.put t.ar h trivial⟩
   o1:=.dT aL W (U.put t.ar h trivial)
   o2:=t.o2.put t.ar h trivial t.ne.symm
   val:=λi d hi=>by obtain⟨v,M,q⟩:=t.val i d hi;exact⟨v,M,q.put t.ar h trivial⟩
   fx:=λq G=>Fact.put t.ar h trivial (t.fx q G)
   ke:=t.fr _ _ t.ke}
theorem IA.put2(t:IA K Hs A0 A x C dx r s bk E p σ H ρ):∃xs,H s=some (.dT xs)/\xs.length=p.2.length/\∀B w v,Rep A H w v->IA K Hs A0 A x C dx r s bk E (p.1,putD p.2 B w) σ (upd H s (.dT (putK xs B v))) ρ:=by
 cases t.o2 with
 | @dT _ _ xs h e rl=>
  refine⟨xs,h,by have:=congrArg zbl e;simpa using this,λB w v F=>?_⟩;obtain⟨W,U⟩:=xJ (vG B F (vK e rl));obtain⟨J,hx,N⟩:=t.hx;exact {t with
   live:=A7 t.live
   hx:=⟨J,by rw[aG (λz=>by rw[z,h]at hx;cases hx)];exact hx,N.put t.at' h trivial⟩
   o1:=t.o1.put t.at' h trivial t.ne
   o2:=.dT aL W (U.put t.at' h trivial)
   val:=λi d hi=>by obtain⟨v,M,q⟩:=t.val i d hi;exact⟨v,M,q.put t.at' h trivial⟩
   fx:=λq G=>Fact.put t.at' h trivial (t.fx q G)
   ke:=t.fs _ _ t.ke}
theorem IA.done(t:IA K Hs A0 A x C dx r s bk E p σ H ρ)(M:Live A0 Hs)(F:¬ A0 x)(z:¬ A0 r)(J:¬ A0 s):Ext A0 Hs H/\Rep A0 H (.ob C [("book",bk),("routes",.dT p.1),("spans",.dT p.2)]) (.ref x):=by
 obtain⟨N,h,G⟩:=t.hx;have q:∀b,A0 b->A b\/H b=none:=λb B=>.inl (t.a0 b B)
 exact⟨t.ke,.ob F h rfl (.cons (G.av q) (.cons ((t.o1.av q).rep z) (.cons ((t.o2.av q).rep J) .nil)))⟩
inductive tA1(K:zae)(fk fv:Ev)(T:Ends)(σ:L2.St)(H:Hp):Prop
 | mk (Hs:Hp) (A0 A:Av) (x C dx r s:Addr) (bk:D) (E:List Fact) (p:LT×LT) (ρ:cX) (kd w:D) (kk:List Key) (st:IA K Hs A0 A x C dx r s bk E p σ H ρ) (ek:fk ρ=some kd) (et:WB kd=some kk) (ew:fv ρ=some w) (sz:a7 p.1.length=true)
  (n:∀H',IA K Hs A0 A x C dx r s bk E (putD p.1 kk w,p.2) σ H' ρ->T.nx σ H'):tA1 K fk fv T σ H
inductive tA2(K:zae)(fk fe:Ev)(F:List D->Option D)(T:Ends)(σ:L2.St)(H:Hp):Prop
 | mk (Hs:Hp) (A0 A:Av) (x C dx r s:Addr) (bk:D) (E:List Fact) (p:LT×LT) (ρ:cX) (kd w d z:D) (kk:List Key) (st:IA K Hs A0 A x C dx r s bk E p σ H ρ) (ek:fk ρ=some kd) (et:WB kd=some kk) (ev:fM p.1 kk=some w) (ed:fe ρ=some d) (ez:F [d,w]=some z) (sz:a7 p.2.length=true)
  (n:∀H',IA K Hs A0 A x C dx r s bk E (p.1,putD p.2 kk z) σ H' ρ->T.nx σ H'):tA2 K fk fe F T σ H
end
section
variable {X:Cx}
theorem SW(U:X.A.units+1<cLine)(N:PE X o (dB 0))(W:PB X [] k fk)(G:PD X [] value fv)(z:zaR o "routes" X.env (eval o X.env)=eval o X.env:=by rfl)
  (hs:zaD value (some (.Subscript (.Attribute o "routes" p1) k p2)) pos.line X.env=pure false:=by rfl):PS X (.Assign [.Subscript (.Attribute o "routes" p1) k p2] value pos) (tA1 X.K fk fv):=
 PS.mono (yM U (lE N z) W G hs) <| by
  rintro T σ H ⟨Hs,A0,A,x,C,dx,r,s,bk,E,p,ρ,kd,w,kk,st,Y,et,F,sz,n⟩;refine⟨_,A,A,E,ρ,w,st.st,F,λv H1 x1 r1=>?_⟩;have q:=st.ext x1;obtain⟨vb,hx,_⟩:=q.hx;refine⟨_,q.s0,x,C,dx,_,.ref r,rfl,hx,q.cls,q.nr,rfl,_,A,A,E,ρ,kd,q.st,Y,λy H2 B r2=>?_⟩;have s2:=q.ext B;obtain⟨xs,h,J,M⟩:=s2.put1;obtain⟨b,rfl,z⟩:=sF et r2;exact⟨r,_,rfl,DPut.t h z (by rw[J];exact jH sz),n _ (M kk w v (r1.ext B))⟩
theorem UH(FF:Fn X.prog X.w X.K X.mg X.base g kn ps F)(hp:ps.length=2)(hr:Room kn X.A)(hg:Gl X g)(hu:X.A.units+1<cLine)(ho:PE X o (dB 0))(W:PE X o2 (dB 0))(hk:PB X [] k fk)(Y:PB X [] k2 fk)(he:PD X [] e fe)(hn:LD k2)
  (J:zaR o "spans" X.env (eval o X.env)=eval o X.env:=by rfl) (M:zaR o2 "routes" X.env (eval o2 X.env)=eval o2 X.env:=by rfl) (ac:(g == ("__debug__" : Str))=false:=by decide)
  (h1:zag [e,.Subscript (.Attribute o2 "routes" p3) k2 p4] X.env=(false,eval e X.env)::zag [.Subscript (.Attribute o2 "routes" p3) k2 p4] X.env:=by rfl) (h2:(zaH cp (zag [.Subscript (.Attribute o2 "routes" p3) k2 p4] X.env)).any (·.1)=false:=by rfl) (h3:zag [.Subscript (.Attribute o2 "routes" p3) k2 p4] X.env=(false,eval (.Subscript (.Attribute o2 "routes" p3) k2 p4) X.env)::zag [] X.env:=by rfl)
  (hs:zaD (.Call (.Name g gp) [e,.Subscript (.Attribute o2 "routes" p3) k2 p4] [] cp) (some (.Subscript (.Attribute o "spans" p1) k p2)) pos.line X.env=pure false:=by rfl) :
  PS X (.Assign [.Subscript (.Attribute o "spans" p1) k p2] (.Call (.Name g gp) [e,.Subscript (.Attribute o2 "routes" p3) k2 p4] [] cp) pos) (tA2 X.K fk fe F):=by
 obtain⟨fa,fd,N,U,hm,FO⟩:=My.Ok.ex FF;refine PS.mono (yM hu (lE ho J) hk (y9 FO hr hg hm N U .nil IP (cR he (cR (G7 hu (lE W M) Y hn) fT h3) h1) ac h1 h2) hs) λT σ H ⟨Hs,A0,A,x,C,dx,r,s,bk,E,p,ρ,kd,w,d,z,kk,st,ek,et,ev,ed,ez,sz,n⟩=>?_
 refine⟨_,A,A,E,ρ,d,st.st,ed,λv1 H1 x1 r1=>?_⟩;have q:=st.ext x1;obtain⟨vb,hx,_⟩:=q.hx;refine⟨_,q.s0,x,C,dx,_,.ref r,rfl,hx,q.cls,q.nr,rfl,_,A,A,E,ρ,kd,q.st,ek,λy H2 x2 r2=>?_⟩;have s2:=q.ext x2;obtain⟨a,ov,e1,_,dg,G⟩:=uW (d:=.dT p.1) (k:=kd) (o:=some w) (by simp only[oU,et,zab,ev]) s2.o1.b r2;rcases G with⟨G,_⟩|⟨w',v2,G,e3,r3⟩
 ·cases G
 ·cases G;subst e3;cases e1
  refine⟨r,v2,rfl,dg,?_⟩;refine⟨A,[d,w],z,s2.live,.cons (r1.ext x2) (.cons r3 .nil),hp.symm,ez,λv3 H3 x3 r4=>?_⟩;have B:=s2.ext x3;obtain⟨an,aa,_⟩:=B.hx;refine⟨_,B.s0,x,C,dx,_,.ref s,rfl,aa,B.cls,B.ns,rfl,_,A,A,E,ρ,kd,B.st,ek,λy4 H4 x4 r5=>?_⟩;have s4:=B.ext x4;obtain⟨xs,h,hl,go⟩:=s4.put2;obtain⟨b,rfl,J⟩:=sF et r5;exact⟨s,_,rfl,DPut.t h J (by rw[hl];exact jH sz),n _ (go kk z v3 (r4.ext x4))⟩
inductive tAF(K:zae)(f:Lv)(i:Nat)(tb:TS)(T:Ends)(σ:L2.St)(H:Hp):Prop
 | mk (Hs:Hp) (A0 A:Av) (x C dx r s:Addr) (bk:D) (E:List Fact) (p out:LT×LT) (ρ:cX) (items:List D) (step:D->LT×LT->Option (LT×LT)) (R:cX->Prop) (st:IA K Hs A0 A x C dx r s bk E p σ H ρ) (h0:R ρ) (e:f ρ=some items) (fo:mC step items p=some out)
  (turn:∀E' σ H ρ d p p' T',R ρ->step d p=some p'->IA K Hs A0 A x C dx r s bk E' p σ H (ρ.set i (some d))->(∀σ H ρ,R ρ->IA K Hs A0 A x C dx r s bk E' p' σ H ρ->T'.nx σ H)->tb T' σ H)
  (n:∀σ H ρ,R ρ->IA K Hs A0 A x C dx r s bk E out σ H ρ->T.nx σ H):tAF K f i tb T σ H
theorem OP(hp:zca (model X.prog X.w) X.A X.env X.xe)(hc:X.calm=true)(hi:PDI X [] tg iter f)(hg:PG X tg (jV i))(hb:PSs X body tb)(hn:i≠0:=by decide)
  (hs:∀x,zba iter X.env x=pure x:=by intro _;rfl):PS X (.For tg iter body [] pos) (tAF X.K f i tb):=
 PS.mono (OV hp hc hi hg hb hs) <| by
  rintro T σ H ⟨Hs,A0,A,x,C,dx,r,s,bk,E,p,out,ρ,items,step,R,st,h0,e,fo,turn,n⟩;refine⟨_,A,A,E,ρ,items,st.st,e,λJ H1 E1 x1 Y J1=>?_⟩;have W:=(st.ext x1).more Y;refine⟨λi m σ H=>m=items.length-i/\i<=items.length/\∃ρ p,R ρ/\IA X.K Hs A0 A x C dx r s bk (E1++E) p σ H ρ/\mC step (items.drop i) p=some out,⟨items.length,by simp,zaJ _,ρ,p,h0,W,fo⟩,?_⟩;rintro i m σ H ⟨rfl,am,ρ,p,hR,st,e⟩;obtain⟨F,go⟩:=J1 A H st.live (λq U=>st.fx q (zbt _ U)) i;by_cases B:i<items.length
  ·have ed:items[i]?=some items[i]:=by simp[B]
   obtain⟨N,hy⟩:=go _ ed;rw[zdF B]at e;obtain⟨p1,es,e⟩:=bind_some e;refine .inr ⟨N,λG H'=>∃z p2,R z/\IA X.K Hs A0 A x C dx r s bk (E1++E) p2 G H' z/\mC step (items.drop (i+1)) p2=some out,λG H' ⟨z,p2,r2,s2,e2⟩=>⟨items.length-(i+1),by lia,rfl,B,z,p2,r2,s2,e2⟩,λy H' aa=>?_⟩;obtain⟨x2,r2⟩:=hy y H' aa;exact turn _ _ _ ρ _ p p1 _ hR es ((st.ext x2).set r2 hn) λaq H3 ab R3 i3=>⟨ab,p1,R3,i3,e⟩
  ·have M:i=items.length:=by lia
   subst M;rw[zej]at e;cases e;exact .inl ⟨F (zaj _),n _ _ ρ hR (st.less λq U=>zaU _ U)⟩
end
def mW(B F:List D->Option D)(bk j k:D)(p:LT×LT):Option (LT×LT):=(B [bk,j,k]).bind λw=>(WB (.tup [j,k])).bind λq=>if a7 p.1.length=true/\a7 p.2.length=true then(fM (putD p.1 q w) q).bind λG=>(F [bk,G]).map λz=>(putD p.1 q w,putD p.2 q z)else none
def vC(C:Addr)(g:D->Option (List D))(z B:List D->Option D)(bk:D):Option D:=(g bk).bind λq=>(mC (λj p=>(g bk).bind λks=>mC (mW z B bk j) ks p) q ([],[])).map λp=>.ob C [("book",bk),("routes",.dT p.1),("spans",.dT p.2)]
theorem MA{K:zae}{Hs:Hp}{A0:Av}{x C dx r s:Addr}{bk:D}{B:V}{σ:L2.St}{H:Hp}{ρ:cX}(nr:NoAttr K C "routes")(ns:NoAttr K C "spans")(t:IO K Hs (λb=>A0 b\/b=x) x C dx [("book",bk)] σ H ρ)(n1:Hs x=none)(nx:¬ A0 x)(hx:H x=some (.ins C dx [("book",B)]))(rb:Rep (λb=>A0 b\/b=x) H bk B)
  (M:H r=none) (hs:upd (upd H r (.dT [])) x (.ins C dx [("book",B),("routes",.ref r)]) s=none):IA K Hs A0 (λb=>A0 b\/b=x\/b=r\/b=s) x C dx r s bk [] ([],[]) σ (upd (upd (upd (upd H r (.dT [])) x (.ins C dx [("book",B),("routes",.ref r)])) s (.dT [])) x (.ins C dx [("book",B),("routes",.ref r),("spans",.ref s)])) ρ/\¬ A0 r/\¬ A0 s:=by
 have sx:s≠x:=λz=>by rw[z,aL]at hs;cases hs
 have F:upd H r (.dT []) s=none:=by rw[aG sx]at hs;exact hs
 have sr:s≠r:=λz=>by rw[z,aL]at F;cases F
 have G:H s=none:=by rw[aG sr]at F;exact F
 have rx:r≠x:=λz=>by rw[z,hx]at M;cases M
 have N:Ext A0 Hs H:=(t.ke.ext n1).mono λb J=>.inl J
 have ar:¬ A0 r:=λz=>t.live r (.inl z) M
 have Y:¬ A0 s:=λz=>t.live s (.inl z) G
 have up:∀a,(A0 a\/a=x\/a=r\/a=s)->(A0 a\/a=x)\/H a=none:=λa ha=>by
  rcases ha with h|h|h|h
  ·exact .inl (.inl h)
  ·exact .inl (.inr h)
  ·exact .inr (by rw[h];exact M)
  ·exact .inr (by rw[h];exact G)
 have U:∀d v,Rep (λb=>A0 b\/b=x) H d v->Rep (λb=>A0 b\/b=x\/b=r\/b=s) (upd (upd (upd (upd H r (.dT [])) x (.ins C dx [("book",B),("routes",.ref r)])) s (.dT [])) x (.ins C dx [("book",B),("routes",.ref r),("spans",.ref s)])) d v:=λd v h=>by
  have h1:=(h.av up).ext (Ext.new (o:=.dT []) M);have h2:=h1.putI (a:=x) (o:=.ins C dx [("book",B),("routes",.ref r)]) (.inr (.inl rfl)) (by rw[aG rx.symm];exact hx);have h3:=h2.ext (Ext.new (o:=.dT []) hs);exact h3.putI (a:=x) (.inr (.inl rfl)) (by rw[aG sx.symm];exact aL)
 refine⟨⟨t.cls,nr,ns,λb J=>J,λb J=>.inl J,.inr (.inl rfl),.inr (.inr (.inl rfl)),.inr (.inr (.inr rfl)),sr.symm,lB N M,lB N G,λb J z=>?_,⟨B,aL,U _ _ rb⟩,.dT (xs:=[]) ?_ rfl .nil,.dT (xs:=[]) ?_ rfl .nil,t.s0,t.len,λi d h=>?_,(λ_ z=>nomatch z),?_⟩,ar,Y⟩
 ·by_cases W:b=x
  ·rw[W,aL]at z;cases z
  ·rw[aG W]at z
   by_cases q2:b=s
   ·rw[q2,aL]at z;cases z
   ·rw[aG q2,aG W]at z
    by_cases q3:b=r
    ·rw[q3,aL]at z;cases z
    ·rw[aG q3]at z
     rcases J with h|h|h|h
     ·exact t.live b (.inl h) z
     ·exact W h
     ·exact q3 h
     ·exact q2 h
 ·rw[aG rx,aG sr.symm,aG rx,aL]
 ·rw[aG sx,aL]
 ·obtain⟨v,e,q⟩:=t.val i d h
  exact⟨v,e,U _ _ q⟩
 ·have fx:=lB (Ext.refl A0 Hs) n1
  exact fx _ _ (lB N G _ _ (fx _ _ (lB N M _ _ N)))
section
variable {X:Cx}
set_option tactic.hygienic true in
theorem DY{C:Addr}{kn:Nat}{gp:List Str}{g2:Str}{o0 o1 o2 o3 o4 F e0 e5 k3 k4 N value aa Y ae U:Expr}{g:D->Option (List D)}{f1 f2:Lv}{fk fv fe:Ev}{F1 F2:List D->Option D}{a0 a1 a2 a3 a4 a5 b3 b4 b5 p0 p1 p2 p3 p4 p5 p6 d1 d2 c5 q5:Pos}(cls:Cls X.K C)(na:∀a∈(["book", "routes", "spans"]:List Str),NoAttr X.K C a)(FF:Fn X.prog X.w X.K X.mg X.base g2 kn gp F2)(au:gp.length=2)(hr:Room kn X.A)(bw:Gl X g2)(hu:X.A.units+1<cLine)
  (hp:zca (model X.prog X.w) X.A X.env X.xe) (hc:X.calm=true)
  (h0:PE X o0 (dB 0)) (h1:PE X o1 (dB 0)) (h2:PE X o2 (dB 0)) (h3:PE X o3 (dB 0)) (h4:PE X o4 (dB 0)) (h5:PE X F (dB 0)) (be:PD X [] e0 (aD 1)) (ax:PDI X [] ae aa f1) (bo:PDI X [] U Y f2) (bb:PG X ae (jV 2)) (aw:PG X U (jV 3)) (aq:PB X [] k3 fk) (bv:PB X [] k4 fk) (bc:PB X [] N fk) (hv:PD X [] value fv) (bj:PD X [] e5 fe) (hn:LD N)
  (bn:∀ {ρ:cX} {bk:D},ρ[1]?=some (some bk)->f1 ρ=g bk) (bx:∀ {ρ:cX} {bk:D},ρ[1]?=some (some bk)->f2 ρ=g bk) (al:∀ {ρ:cX} {j k:D},ρ[2]?=some (some j)->ρ[3]?=some (some k)->fk ρ=some (.tup [j,k])) (bm:∀ {ρ:cX} {bk j k:D},ρ[1]?=some (some bk)->ρ[2]?=some (some j)->ρ[3]?=some (some k)->fv ρ=F1 [bk,j,k]) (bi:∀ {ρ:cX} {bk:D},ρ[1]?=some (some bk)->fe ρ=some bk)
  (ay:zaR o3 "routes" X.env (eval o3 X.env)=eval o3 X.env:=by rfl) (bt:zaR o4 "spans" X.env (eval o4 X.env)=eval o4 X.env:=by rfl) (bq:zaR F "routes" X.env (eval F X.env)=eval F X.env:=by rfl) (bp:(g2 == ("__debug__" : Str))=false:=by decide)
  (z1:zag [e5,.Subscript (.Attribute F "routes" a5) N b5] X.env=(false,eval e5 X.env)::zag [.Subscript (.Attribute F "routes" a5) N b5] X.env:=by rfl) (z2:(zaH c5 (zag [.Subscript (.Attribute F "routes" a5) N b5] X.env)).any (·.1)=false:=by rfl) (z3:zag [.Subscript (.Attribute F "routes" a5) N b5] X.env=(false,eval (.Subscript (.Attribute F "routes" a5) N b5) X.env)::zag [] X.env:=by rfl)
  (s0:zaD e0 (some (.Attribute o0 "book" a0)) p0.line X.env=pure false:=by rfl) (s1:zaD (.Dict [] [] d1) (some (.Attribute o1 "routes" a1)) p1.line X.env=pure false:=by rfl) (s2:zaD (.Dict [] [] d2) (some (.Attribute o2 "spans" a2)) p2.line X.env=pure false:=by rfl)
  (s3:zaD value (some (.Subscript (.Attribute o3 "routes" a3) k3 b3)) p3.line X.env=pure false:=by rfl) (s4:zaD (.Call (.Name g2 q5) [e5,.Subscript (.Attribute F "routes" a5) N b5] [] c5) (some (.Subscript (.Attribute o4 "spans" a4) k4 b4)) p4.line X.env=pure false:=by rfl)
  (y1:∀x,zba aa X.env x=pure x:=by intro _;rfl) (y2:∀x,zba Y X.env x=pure x:=by intro _;rfl)
  {vs:List V} {H:Hp} {Q:VK} {E:XK} (hsp:ZO C (λ_=>vC C g F1 F2) vs H Q E) {R:VK} :
  ∃t,PSs X [.Assign [.Attribute o0 "book" a0] e0 p0,.Assign [.Attribute o1 "routes" a1] (.Dict [] [] d1) p1,.Assign [.Attribute o2 "spans" a2] (.Dict [] [] d2) p2,
   .For ae aa [.For U Y [.Assign [.Subscript (.Attribute o3 "routes" a3) k3 b3] value p3,.Assign [.Subscript (.Attribute o4 "spans" a4) k4 b4] (.Call (.Name g2 q5) [e5,.Subscript (.Attribute F "routes" a5) N b5] [] c5) p4] [] p5] [] p6] t /\
   t {nx:=λ_ H'=>Q .non H',rt:=R} (vs.map some++[none,none]) H:=by
 obtain⟨A,H1,x,dx,v,_,bk,d,rfl,rfl,n1,n2,ne,lv,rp,ed,q⟩:=hsp;obtain⟨js,ej,ed⟩:=bind_some ed;obtain⟨out,eo,ed⟩:=map_some ed;subst ed;refine⟨_,dW (EW h0 be s0) (dW (u4 h1 BM s1) (dW (u4 h2 BM s2) (jI (OP hp hc ax bb (jI (OP hp hc bo aw (dW (SW hu h3 aq hv ay s3) (jI (UH FF au hr bw hu h4 h5 bv bc bj hn bt bq bp z1 z2 z3 s4))) (by decide) y2)) (by decide) y1)))),?_⟩;have nx:¬ A x:=λz=>lv x z n1
 have I0:=IO.begun cls n1 n2 ne lv rp [none,none] (λo ho=>by simpa using ho);refine⟨H1,_,x,C,dx,[],_,bk,I0,rfl,na _ (by simp),by simp,by simp,λH2 I2=>λr ad=>?_⟩;obtain⟨fs,hx,W,rr⟩:=I2.hx;obtain⟨vb,rfl,rb⟩:∃vb,fs=[(("book" : Str),vb)]/\Rep (λb=>A b\/b=x) H2 bk vb:=by
  match fs,W,rr with
  | [(f,vb)],W,rr=>
   have:f = "book" := by simpa using W
   subst this;cases rr with
   | cons h _=>exact⟨vb,rfl,h⟩
  | [],W,_=>exact nomatch W
  | _::_::_,W,_=>simp at W
 have rx:r≠x:=λz=>by rw[z,hx]at ad;cases ad
 refine⟨_,I2.s0,x,C,dx,_,rfl,by rw[aG rx.symm];exact hx,cls,na _ (by simp),by simp,λs ap=>?_⟩;have G:upd (upd H2 r (.dT [])) x (.ins C dx [("book",vb),("routes",.ref r)]) s=none:=ap;have sx:s≠x:=λz=>by rw[z,aL]at G;cases G
 refine⟨_,I2.s0,x,C,dx,[("book",vb),("routes",.ref r)],rfl,by rw[aG sx.symm];exact aL,cls,na _ (by simp),by simp,?_⟩;obtain⟨J,ar,bz⟩:=MA (na _ (by simp)) (na _ (by simp)) I2 n1 nx hx rb ad G;refine⟨H1,A,_,x,C,dx,r,s,bk,[],([],[]),out,_,js,_,λρ=>ρ.length=4/\ρ[1]?=some (some bk),J,⟨rfl,rfl⟩,by rw[bn (bk:=bk) rfl];exact ej,eo,λE' σ H ρ j p p' T' M B I n=>?_,λσ H ρ M I=>?_⟩
 ·obtain⟨ks,ek,hf⟩:=bind_some B
  have b1:(ρ.set 2 (some j))[1]?=some (some bk):=by rw[zbE (by decide)];exact M.2
  refine⟨H1,A,_,x,C,dx,r,s,bk,E',p,p',_,ks,mW F1 F2 bk j,λρ=>ρ.length=4/\ρ[1]?=some (some bk)/\ρ[2]?=some (some j),I,⟨by rw[zcT];exact M.1,b1,by rw[zcz (by lia)]⟩,by rw[bx b1];exact ek,hf,λE2 σ H ρ k p p' T' M B I n=>?_,λσ H ρ M I=>n σ H ρ ⟨M.1,M.2.1⟩ I⟩;have c1:(ρ.set 3 (some k))[1]?=some (some bk):=by rw[zbE (by decide)];exact M.2.1
  have c2:(ρ.set 3 (some k))[2]?=some (some j):=by rw[zbE (by decide)];exact M.2.2
  have c3:(ρ.set 3 (some k))[3]?=some (some k):=by rw[zcz (by lia)]
  obtain⟨w,ew,B⟩:=bind_some B;obtain⟨kk,ai,B⟩:=bind_some B;split at B
  ·rename_i sz
   obtain⟨w',a6,B⟩:=bind_some B;obtain⟨z,ez,rfl⟩:=map_some B;refine⟨H1,A,_,x,C,dx,r,s,bk,E2,p,_,_,w,kk,I,al c2 c3,ai,by rw[bm c1 c2 c3];exact ew,sz.1,λH' I'=>?_⟩;exact⟨H1,A,_,x,C,dx,r,s,bk,E2,_,_,_,w',bk,z,kk,I',al c2 c3,ai,a6,bi c1,ez,sz.2,λH' I'=>n _ _ _ ⟨by rw[zcT];exact M.1,c1,c2⟩ I'⟩
  ·cases B
 ·obtain⟨x5,r5⟩:=I.done lv nx ar bz
  exact q _ x5 r5
end
def Fas(K:zae)(C:Addr)(fs:List Str):Prop:=∀a∈fs,NoAttr K C a
theorem Fas.nil{K:zae}{C:Addr}:Fas K C []:=λ_ h=>nomatch h
theorem Fas.cons{K:zae}{C:Addr}{x:Str}{fs:List Str}(a:zbv K (.ref C) x=some none)(r:Fas K C fs):Fas K C (x::fs):=zc0.2 ⟨a,r⟩
structure ObQ(K:zae)(x q:Str)(st:Stmt)(C:Addr)(fs:List Str):Prop where
 cls:Cls K C
 na:Fas K C fs
 ex:∃f fd,zb4 K zaL x=some (some (.ref C))/\Mk K C f/\Fun K "__init__" q st f fd
theorem obq{K:zae}{x q:Str}{st:Stmt}{C f:Addr}{fs:List Str}{G:Value}{od J:Option Addr}{F:Array (Option Value)}{kV B M z ct:Value}(a:zb4 K zaL x=some (some (.ref C)))(m1:zdY K C=true)(m2:zbv K (.ref C) "__init__" = some (some (.ref f)))(m3:PySem.W.isFn K (.ref f)=true)(m4:zbG K (.ref C)=true)(m5:zdb K C Str.empty=true)(m6:zdc K C=true)(m7:zdW K C=true)(m8:zbv K (.ref C) "__setattr__" = some (some (.builtin "object.__setattr__")))
  (l:K.lookup f=some ⟨G,od,.func (zbg "__init__" q (eJ st) (bU st) (aO st) .none kV B M J z ct),F⟩) (c:zcq K z q=true) (k:zbG K (.ref f)=true) (n:Fas K C fs):ObQ K x q st C fs:=⟨⟨m5,m6,m7,m8⟩,n,f,_,a,⟨m1,m2,m3,m4⟩,FD l c k⟩
theorem ObQ.t{K:zae}{h:Heap}{mg:Str->Option Value}{x q p:Str}{st:Stmt}{C:Addr}{fs:List Str}(Q:ObQ K x q st C fs)(X:K.In h)(G:h.Ns zaL mg)(b:∀(kV z M:Value) (J:Option Addr) (B ct:Value) (u v:Value),bindArgs (zbg "__init__" q (eJ st) (bU st) (aO st) .none kV z M J B ct) ⟨[u,v],[]⟩=pure ((["self",p]:List Str).zip [u,v])):ObT K mg x q p st C fs:=by
 obtain⟨f,fd,a,m,F⟩:=Q.ex;exact⟨Q.cls,Q.na,f,fd,zdK X G a,m,F.binds (ps:=["self",p]) λkV z M J B ct U N=>match U,N with|[u,v],_=>b kV z M J B ct u v,F⟩
theorem O0(h:ZO C G vs H Q E):start N vs=vs.map some++zcp (N.length-2) none:=by
 obtain⟨_,_,_,_,_,_,_,_,rfl,_⟩:=h;rfl
theorem SH(h:ZO C G vs H Q E)(n:N.length=2):start N vs=vs.map some:=by
 rw[O0 h,n];exact zbw _
theorem rG(h:ρ[i]?=some (some d)):aD i ρ=some d:=by unfold aD;rw[h];rfl
theorem hu2(q:Room k A):A.units+2<cLine:=zdr (Nat.add_le_add_left (by decide:2<=64) _) q.units
end P
namespace My
def qa6(K:zae)(a:Addr)(n:Nat):It:=
 ⟨λi H=>∃xs x,SqL K H a xs/\i<n/\xs[n-1-i]?=some x,λi H x H'=>H'=H/\∀xs,SqL K H a xs->xs[n-1-i]?=some x,λi H=>n<=i⟩
theorem NL{P:zai}{w:World}{K:zae}{tg:Expr}(a it:Addr)(n:Nat):Turn P w K tg (qa6 K a n) [it] it (λi h=>i<=n/\h.IsRevIter it a ((n:Int)-1-(i:Int))) where
 mem:=by simp
 obj:=λi h st b q=>by
  have e:b=it:=by simpa using q
  subst e;obtain⟨_,o,e,c,d⟩:=st;exact⟨o,e,λv z=>by rw[d]at z;cases z⟩
 keep:=λi h h' st k=>⟨st.1,st.2.at λo e=>k it (by simp) o e⟩
 item:=by
  intro X hP hw hK hc i pins s σ H E I G st W;subst hP hw hK;obtain⟨xs,x,hq,hi,hx⟩:=W;obtain⟨ag,rv,p,hz⟩:=I.list hq;obtain⟨u,hu,ru⟩:=rv.get hx;obtain⟨U,f1,f2,M,J,Y⟩:=G it (by simp);have N:s.heap.IsRevIter it a ((n-1-i:Nat):Int):=by
   have e:((n-1-i:Nat):Int)=(n:Int)-1-(i:Int):=by lia
   rw[e];exact st.2
  refine wpAny_pyNext_rev_item N p.isList (x:=u) (by simpa using hu) λh' F sb=>?_
  have I1:Inv X pins σ H {s with heap:=h'}:=I.turned (t':=s.toks) (λb o q e=>(sb.2 b q).trans e) U f1 M J Y;obtain⟨o,e,c,d⟩:=id F;refine⟨u,rfl,vQ (s:={s with heap:=h'}) e c d (by decide) ⟨x,H,I1,ru,⟨rfl,λys hy=>by rw[I.list_inj hy hq];exact hx⟩,⟨hi,?_⟩,λb q=>(G b q).1⟩⟩;have e:(n:Int)-1-((i+1:Nat):Int)=((n-1-i:Nat):Int)-1:=by lia
  rw[e];exact F
 done:=by
  intro X hP hw hK hc i pins s σ H E I G st W;subst hP hw hK;obtain⟨U,f1,f2,M,J,Y⟩:=G it (by simp);have hn:n<=i:=W;have e:(n:Int)-1-(i:Int)=-1:=by have:=st.1;lia
  have B:=st.2;rw[e]at B;exact wpAny_pyNext_rev_end (I.ok.hd hc) B λh' eb=>⟨rfl,I.turned (t':=s.toks) (λb o q e=>eb b o q e) U f1 M J Y⟩
 self:=λ_ _ _ _ _ st h=>wpAny_pyIter_revIter st.2 h
theorem boot_reversed:zaG "reversed" = some (.type "reversed"):=by first|rfl|decide +kernel
def qbN(K:zae)(ta:TA):TI:=λσ H R=>ta σ H λvs H1=>∃l xs,vs=[.ref l]/\SqL K H1 l xs/\R (qa6 K l xs.length) H1
theorem WY{X:Cx}{tg:Expr}{a:Expr}{ta:TA}{p pos:Pos}(hg:Gl X "reversed")(hm:X.mg "reversed" = none)(W:PA X [a] ta)(hs:zag [a] X.env=[(false,eval a X.env)]:=by rfl) :
  PI X tg (.Call (.Name "reversed" p) [a] [] pos) (qbN X.K ta):=by
 intro pins s σ H R I h;refine Call_ (mX I hg hm boot_reversed (zcQ (cK (W pos pins s σ H _ I h) λus G ⟨vs,H1,F,r1,J⟩=>?_) (by rw[hs];rfl) rfl));obtain⟨l,xs,rfl,J,q⟩:=J;obtain⟨u,rfl,N⟩:=vals1 r1;cases N;obtain⟨z,U,Y,hz⟩:=F.list J;have hl:=U.length;refine call_reversed_list Y.isList ?_;have B:(G.heap.push (revObj l ((z.toArray.size:Int)-1))).IsRevIter G.heap.objs.size l ((xs.length:Int)-1-((0:Nat):Int)):=by
  refine⟨_,zaE _ rfl,rfl,?_⟩;have e:(z.toArray.size:Int)-1=(xs.length:Int)-1-((0:Nat):Int):=by simp;lia
  rw[<- e];rfl
 refine wpAny_pyIter_revIter B ?_;refine⟨_,[_],_,_,H1,rfl,F.kept (t':=G.toks) λb o e=>zam _ e,NL l _ xs.length,⟨zaJ _,B⟩,λb M=>?_,q⟩;have e:b=G.heap.objs.size:=by simpa using M
 subst e;exact F.fpOk (zaj _) (F.hok.fresh (zaj _))
end My
namespace P
def qa0(f:Lv):Lv:=λρ=>(f ρ).bind λds=>match ds with
 | [.lst l]=>some l.reverse
 | _=>none
set_option tactic.hygienic true in
theorem UO(hg:Gl X "reversed")(hm:X.mg "reversed" = none)(ha:DE X O [a] f)(hs:zag [a] X.env=[(false,eval a X.env)]:=by rfl) :
  PDI X O tg (.Call (.Name "reversed" p) [a] [] pos) (qa0 f):=PI.mono (My.WY hg hm ha hs) λσ H R ⟨H0,A0,A,E,ρ,items,st,e,q⟩=>by
 obtain⟨ds,B,e⟩:=bind_some e;refine⟨H0,A0,A,E,ρ,ds,st,B,λvs H1 J r1=>?_⟩;split at e
 case h_2=>cases e
 rename_i l;cases e;obtain⟨v,rfl,r2⟩:=r1.one;obtain⟨a,xs,rfl,h1,rl⟩:=RepB.lst_inv (.of r2);have M:=rl.length;refine⟨a,xs,rfl,.inl h1,q _ H1 [.rep (.lst l) (.ref a)] J (λp U=>by rw[List.mem_singleton.mp U];exact r2) ?_⟩;intro A' H' lv N i;have W:Rep A' H' (.lst l) (.ref a):=N _ (List.mem_singleton.mpr rfl);obtain⟨a',ys,e,h2,z⟩:=RepB.lst_inv (.of W);cases e;have Y:=z.length;refine⟨λhi=>(show xs.length<=i by rw[List.length_reverse]at hi;lia),λd hd=>?_⟩;have hi:i<l.length:=by have:=(List.getElem?_eq_some_iff.mp hd).1;simpa using this
 have F:l[xs.length-1-i]?=some d:=by rw[List.getElem?_reverse hi]at hd;rw[M];exact hd
 obtain⟨v,B,r1⟩:=z.get' F;refine⟨⟨ys,v,.inl h2,by lia,B⟩,λx G y=>?_⟩;obtain⟨rfl,y⟩:=y;have:=y ys (.inl h2);rw[B]at this;cases this;exact⟨Ext.refl _ _,r1⟩
def IR(i j:Int):Prop:=0<j/\j<10^500
instance:∀i j,Decidable (IR i j):=λi j=>by unfold IR;infer_instance
theorem MR{j:Int}(q:0<j)(h:j<10^500):j.natAbs.log2<9000:=by
 have a:j.natAbs≠0:=by lia
 refine(Nat.log2_lt a).mpr ?_;have b:(10:Nat)^500<2^9000:=by decide +kernel
 have c:(j.natAbs:Int)<((10^500:Nat):Int):=by
  rw[Int.natAbs_of_nonneg (Int.le_of_lt q),show((10^500:Nat):Int)=(10:Int)^500 from by decide +kernel];exact h
 exact Nat.lt_trans (Int.ofNat_lt.mp c) b
section
variable {X:Cx}
theorem MZ:OpR X (zaN .FloorDiv) (rI IR λi j=>.int (i/j)):=opI λi j _ _ _ _ _ z q=>floordiv_int (zaQ z.1) (by rw[Int.fdiv_eq_ediv_of_nonneg i (Int.le_of_lt z.1)];exact q) (.inl (PyProof.noPylong_of_log2 (MR z.1 z.2)))
def C6:D->D->Option D:=LL λi j=>if IR i j then some (.int (i/j))else none
theorem rW:mE X (zaN .FloorDiv) C6:=vJ MZ
theorem zI(h:0<j)(h2:j<10^500):C6 (.int i) (.int j)=some (.int (i/j)):=if_pos ⟨h,h2⟩
end
end P
namespace My
section
variable {X:Cx}
theorem D5(hc:X.calm=true)(I:Inv X pins σ H s)(hq:SqL X.K H p (ns.map V.int))(hn:ns≠[])(q:Q (.int (QS ns)) H) :
  wpAny (model X.prog X.w) X.A (call (.builtin "min") [.ref p]) (EP X pins σ Q) X.xe s:=by
 obtain⟨B,N,pl,hz⟩:=I.list hq;have G:s.heap.IsList p B.toArray:=pl.isList;obtain⟨o,ho,ad,n,hd⟩:=id G;have lt:=zan ho;have W:=(Walks.list (prog:=X.prog) (w:=X.w) (A:=X.A.in1) (I.ok.hd hc) s.heap.objs.size p (zaF lt) B.toArray).toS;have F:=N.length;rw[zah]at F;have sz:B.toArray.size=ns.length:=by rw[zax];exact F.symm
 have M:∀(i:Nat) (v:Value),B.toArray[i]?=some v->∃t,v=zcw ((ns[i]?).getD 0) t:=λi v J=>CC N (by simpa using J)
 refine call_min_walkS (zbU G ⟨s.heap.objs.size,_,_,_,_,_,_,_,rfl,W,⟨⟨_,zaE _ rfl,rfl,rfl⟩,G.at λo e=>zam _ e⟩,λb Y=>?_,by rw[sz];exact List.length_pos_iff.mpr hn,CmpOf.ints_lt (λi=>(ns[i]?).getD 0) M,λv s' J U=>?_⟩)
 ·rw[size_push']
  rcases List.mem_cons.mp Y with z|z
  ·rw[z];exact zdd _
  ·rw[List.mem_singleton.mp z];exact Nat.lt_succ_of_lt lt
 ·obtain⟨t,rfl⟩:=M _ v J
  rw[Moved.eq_with U];refine⟨.int (QS ns),H,I.kept (t':=s'.toks) λb o e=>U.heap b o (λz=>zaF (zan e) (List.mem_singleton.mp z)) (zam _ e),⟨t,?_⟩,q⟩;rw[sz];rfl
end
end My
namespace P
section
variable {X:Cx}
def E3:List D->Option D
 | [.lst l]=>(jK l).bind λns=>if ns=[]then none else some (.int (My.QS ns))
 | _=>none
set_option tactic.hygienic true in
theorem NC(F:X.calm=true):jU X (.builtin "min") E3:=by
 intro pins s σ H xs M Q I r h;obtain⟨A,ds,d,J,G,e,q⟩:=h;unfold E3 at e;split at e
 ·rename_i l
  obtain⟨ns,B,e⟩:=bind_some e;split at e
  ·cases e
  ·rename_i hn
   cases e;obtain⟨v,rfl,h1⟩:=G.one;obtain⟨a,ys,rfl,h2,r3⟩:=h1.lst_inv;rw[gM B r3]at h2;obtain⟨u,rfl,z⟩:=vals1 r;cases z;exact My.D5 F I (.inl h2) hn (q _ H (Ext.refl _ _) (.int _))
 ·cases e
theorem UJ(h:ns≠[]):E3 [.lst (ns.map .int)]=some (.int (My.QS ns)):=by
 show(jK (ns.map .int)).bind _=_;rw[kF,aA,if_neg h]
end
section
variable {ρ ρ':cX}{f g:Ev}{a b:Bv}{l:Lv}{x y d r:D}{xs ys zs:List D}{i j:Int}{k:Nat}{s t:Sv}{o:Option Out}
theorem qau{C:Addr}{n:Str}(h:f ρ=some x)(k:wA C n x=some r):d5 C n f ρ=some r:=by unfold d5;rw[h,aA,k]
theorem V0(h:f ρ=some x)(k:hZ x=some xs):gF f ρ=some xs:=by
 unfold gF;rw[h,aA];cases x <;> first|exact k|cases k
theorem X1(h:l ρ=some [x,y])(k:hZ x=some xs)(k2:hZ y=some ys)(e:iT xs ys=zs):UZ l ρ=some zs:=by
 unfold UZ;rw[h,aA];show(hZ x).bind _=_;rw[k,aA,k2,aB,e]
theorem qac{c:Bool}{z:Option D}(h:a ρ=some c)(k:ZK c (f ρ) (g ρ)=z):eIf a f g ρ=z:=by unfold eIf;rw[h,aA];exact k
theorem PU(z:g ρ=some d)(hx:aD k ρ=some x)(q:f ρ=some y)(h:nE x y d=some r):FQ k f g ρ=some (.nx (ρ.set k (some r))):=by unfold FQ;rw[z,aA,hx,aA,q,aA,h,aB]
theorem YU{c:Bool}{z:Option D}(h:f ρ=some (.bl c))(k:ZK c (g ρ) (some (.bl false))=z):QO f g ρ=z:=by unfold QO;rw[h,aA];exact k
theorem qan{i j:Nat}:lJ 2 (dI (aR i) (dI (aR j) rB)) (.tup [x,y]) ρ=some ((ρ.set i (some x)).set j (some y)):=rfl
theorem qk{i j k:Nat}{z:D}:lJ 3 (dI (aR i) (dI (aR j) (dI (aR k) rB))) (.tup [x,y,z]) ρ=some (((ρ.set i (some x)).set j (some y)).set k (some z)):=rfl
theorem qbD:aR k x ρ=some (ρ.set k (some x)):=rfl
end
section
variable {X:Cx}{O:List Nat}
def dsp(l:List (Str×Int)):List (Key×D):=l.map λp=>(.inr p.1,.int p.2)
theorem wD:∀(l:List (Str×Int)) (acc:List (Key×V)),(l.map (·.1)).Nodup->(∀p∈l,∀q∈acc,¬ q.1=(.inr p.1:Key))->nD acc (l.map λp=>((.inr p.1:Key),V.int p.2))=acc++l.map λp=>((.inr p.1:Key),V.int p.2)
 | [],acc,_,_=>(zbw _).symm
 | p::l,acc,nd,h=>by
  rw[zak,List.nodup_cons]at nd;have e:putK acc (.inr p.1) (.int p.2)=acc++[(.inr p.1,.int p.2)]:=by
   unfold putK;rw[if_neg];intro z;obtain⟨q,B,e⟩:=List.any_eq_true.mp z;exact h p (zar ..) q B (by simpa using e)
  have ih:=wD l (acc++[(.inr p.1,.int p.2)]) nd.2 λq B r F=>by
   rcases List.mem_append.mp F with z|z
   ·exact h q (zap _ B) r z
   ·rw[List.mem_singleton.mp z]
    intro w;injection w with w
    exact nd.1 (List.mem_map.mpr ⟨q,B,w.symm⟩)
  show nD (putK acc (.inr p.1) (.int p.2)) _=_;rw[e,ih,zel];rfl
theorem NI(l:List (Str×Int))(h:PPs X pos keys values (l.map λp=>(tC (.str p.1),tC (.int p.2))))(h1:keys.all (·.isSome)=true:=by rfl)(h2:keys.length=values.length:=by rfl)(M:keys≠[]:=by simp)(Y:keys.length<=15:=by decide)(W:l.length<=15:=by decide)(U:(l.map (·.1)).Nodup:=by decide):PF X O (.Dict keys values pos) (eC (.dK (dsp l))):=
 PE.mono (R6 h h1 h2 M Y) <| by
  rintro σ H Q ⟨H0,A0,A,E,ρ,d,st,e,q⟩;cases e;intro p F;have na:¬ A p:=λz=>st.live p z F
  have tp:∀(l:List (Str×Int)) (H:Hp) (R:List (V×V)->Hp->Prop),R (l.map λp=>(.str p.1,.int p.2)) H->zS (l.map λp=>(tC (.str p.1),tC (.int p.2))) σ H R:=λl=>by
   induction l with
   | nil=>exact λ_ _ h=>h
   | cons a l ih=>exact λH R h=>ih H _ h
  refine tp l _ _ ⟨aL,l.map λp=>(.inr p.1,.int p.2),by rw[zaq];rfl,by rw[zah];exact W,?_⟩;rw[wD l [] U (λ_ _ _ h=>nomatch h),List.nil_append];have J:Ext A H (upd H p (.dK [])):=Ext.new F;refine q p _ ?_ F na (.dK aL (by unfold dsp;rw[zaq,zaq];rfl) ?_)
  ·exact J.upN F
  ·have N:∀(B:Av) (G:Hp) (l:List (Str×Int)),RepL B G (l.map λp=>D.int p.2) (l.map λp=>V.int p.2):=λB G l=>by
    induction l with
    | nil=>exact .nil
    | cons a l ih=>exact .cons (.int _) ih
   unfold dsp;rw[zaq,zaq];exact N _ _ l
end
end P
namespace Law
theorem Ten:(10:Int)^60=1000000000000000000000000000000000000000000000000000000000000:=by decide +kernel
open P
local macro_rules | `(tactic|ac_rfl) => `(tactic|first
 | (with_reducible first|exact qbH|exact qbD|exact qan|exact qk|exact at0|exact at1|exact at2|exact VG|exact XH|exact rfl|assumption)
 | ((with_reducible apply XY);exact rfl)
 | (with_reducible first|apply ZW|apply jN|apply Z8|apply yR|apply sH|apply aN|apply WO|apply YK|apply qr|apply qx|apply YB|apply CW|apply QF|apply E5|apply GT|apply lV|apply OM|apply G3|apply C9|apply R9|apply V0|apply qau|apply X1|apply qac|apply YU|apply PU|apply qag|apply FE|apply WG|apply IY|apply P5) <;> ac_rfl
 | ((with_reducible apply qaH);(with_reducible first|exact rfl|(apply decide_eq_true;assumption));ac_rfl)
 | ((with_reducible apply qaW);(with_reducible first|exact rfl|(apply decide_eq_false;assumption));ac_rfl)
 | (with_reducible apply qaH) <;> ac_rfl
 | (with_reducible apply qaW) <;> ac_rfl
 | (with_reducible first|apply bO|apply iS|apply q_eqI|apply qaq|apply YS|apply TC|apply P6|apply decide_eq_true|apply decide_eq_false) <;> ac_rfl
 | (show bE _ _ _ _ _=_;assumption)
 | (apply aN <;> ac_rfl)
 | (apply P5 <;> ac_rfl)
 | (apply PU <;> ac_rfl)
 | exact rfl
 | exact zb3 rfl
 | decide
 | lia)
local macro_rules | `(tactic|simp_all[$xs,*]) => `(tactic|simp[-zac, -zab, aA, aB, $xs,*])
local macro_rules|`(tactic|simp_all)=>`(tactic|simp[-zac,-zab,aA,aB])
abbrev CN:Addr:=132
abbrev CA:Addr:=158
theorem at5{a b c d e f:D}{l:List D}:gE (a::b::c::d::e::f::l) 5=some f:=bV (j:=5) rfl
theorem at6{a b c d e f g:D}{l:List D}:gE (a::b::c::d::e::f::g::l) 6=some g:=bV (j:=6) rfl
structure Mk where
 nm:Str
 takes:List Int
 g:Int
 f:D
 pr:Int
def j7(m:Mk):D:=.tup [.str m.nm,tupI m.takes,.int m.g,m.f,.int m.pr]
structure Bk where
 M:Int
 kinds:List Str
 rs:List Ro
 makes:List Mk
def a9(C:Bk):D:=.tup [.int C.M,.tup (C.kinds.map .str),.tup (C.rs.map lY),.tup (C.makes.map j7)]
structure OkB(C:Bk):Prop where
 M3:3<=C.M
 M60:C.M<10^60
 k1:1<=C.kinds.length
 k6:C.kinds.length<=6
 gr:GR C.M (C.kinds.length:Int) C.rs
 tk:∀m∈C.makes,(∃t,m.takes=[t])\/∃t u,m.takes=[t,u]
 tb:∀m∈C.makes,∀t∈m.takes,0<=t/\t<(C.kinds.length:Int)
 gb:∀m∈C.makes,0<=m.g/\m.g<(C.kinds.length:Int)
 ml:C.makes.length<=6
inductive Rg where
 | name (x:Str) (j:Int) (w:List Int)
 | num (n j:Int) (w:List Int)
 | use1 (v:Nat) (nm:Str) (p:Rg) (w:List Int)
 | use2 (v:Nat) (nm:Str) (p q:Rg) (w:List Int)
 | lett (x:Str) (j:Int) (p q:Rg)
 | pick (c k:Int) (p q r:Rg) (w:List Int)
 | again (n k:Int) (x:Str) (p q:Rg) (w:List Int)
def pt:Rg->D
 | .name x _ _=>.tup [.str "name",.str x]
 | .num n j _=>.tup [.str "number",.int n,.int j]
 | .use1 _ nm p _=>.tup [.str "use",.str nm,.tup [pt p]]
 | .use2 _ nm p q _=>.tup [.str "use",.str nm,.tup [pt p,pt q]]
 | .lett x _ p q=>.tup [.str "let",.str x,pt p,pt q]
 | .pick c k p q r _=>.tup [.str "pick",.int c,.int k,pt p,pt q,pt r]
 | .again n k x p q _=>.tup [.str "again",.int n,.int k,.str x,pt p,pt q]
def rd:Rg->D
 | .name x _ w=>.tup [.str "name",.str x,tupI w]
 | .num n j w=>.tup [.str "number",.int n,.int j,tupI w]
 | .use1 v _ p w=>.tup [.str "use",.int (v:Int),.tup [rd p],tupI w]
 | .use2 v _ p q w=>.tup [.str "use",.int (v:Int),.tup [rd p,rd q],tupI w]
 | .lett x j p q=>.tup [.str "let",.str x,.int j,rd p,rd q]
 | .pick c k p q r w=>.tup [.str "pick",.int c,.int k,rd p,rd q,rd r,tupI w]
 | .again n k x p q w=>.tup [.str "again",.int n,.int k,.str x,rd p,rd q,tupI w]
def beh:Rg->List Int->Rg
 | .name x j w,v=>.name x j (w++v)
 | .num n j w,v=>.num n j (w++v)
 | .use1 u nm p w,v=>.use1 u nm p (w++v)
 | .use2 u nm p q w,v=>.use2 u nm p q (w++v)
 | .lett x j p q,v=>.lett x j p (beh q v)
 | .pick c k p q r w,v=>.pick c k p q r (w++v)
 | .again n k x p q w,v=>.again n k x p q (w++v)
def size:Rg->Nat
 | .name _ _ _=>1
 | .num _ _ _=>1
 | .use1 _ _ p _=>1+size p
 | .use2 _ _ p q _=>1+(size p+size q)
 | .lett _ _ p q=>1+(size p+size q)
 | .pick _ _ p q r _=>1+(size p+(size q+size r))
 | .again _ _ _ p q _=>1+(size p+size q)
def lets:Rg->Int
 | .name _ _ _=>0
 | .num _ _ _=>0
 | .use1 _ _ p _=>lets p
 | .use2 _ _ p q _=>lets p+lets q
 | .lett _ _ p q=>1+(lets p+lets q)
 | .pick _ _ p q r _=>lets p+(lets q+lets r)
 | .again _ _ _ p q _=>lets p+lets q
noncomputable def mpr(C:Bk)(v:Nat):Int:=((C.makes[v]?).map Mk.pr).getD 0
def cost(C:Bk):Rg->Int
 | .name _ _ w=>gW C.rs w
 | .num _ _ w=>gW C.rs w
 | .use1 v _ p w=>mpr C v+gW C.rs w+cost C p
 | .use2 v _ p q w=>mpr C v+gW C.rs w+(cost C p+cost C q)
 | .lett _ _ p q=>cost C p+cost C q
 | .pick _ _ p q r w=>gW C.rs w+(cost C p+(cost C q+cost C r))
 | .again _ _ _ p q w=>gW C.rs w+(cost C p+cost C q)
def WF(C:Bk):List (Str×Int)->Rg->Int->Prop
 | kn,.name x j w,e=>(x,j)∈kn/\gw C.rs j w=some e
 | kn,.num n j w,e=>(0<=n/\n<C.M)/\(0<=j/\j<(C.kinds.length:Int))/\gw C.rs j w=some e
 | kn,.use1 v nm p w,e=>∃m t,C.makes[v]?=some m/\m.nm=nm/\m.takes=[t]/\WF C kn p t/\gw C.rs m.g w=some e
 | kn,.use2 v nm p q w,e=>∃m t u,C.makes[v]?=some m/\m.nm=nm/\m.takes=[t,u]/\WF C kn p t/\WF C kn q u/\gw C.rs m.g w=some e
 | kn,.lett x j p q,e=>WF C kn p j/\WF C ((x,j)::kn) q e
 | kn,.pick c k p q r w,e=>(0<=c/\c<(C.kinds.length:Int))/\(0<=k/\k<(C.kinds.length:Int))/\WF C kn p c/\WF C kn q k/\WF C kn r k/\gw C.rs k w=some e
 | kn,.again n k x p q w,e=>(0<=n/\n<4)/\(0<=k/\k<(C.kinds.length:Int))/\WF C kn p k/\WF C ((x,k)::kn) q k/\gw C.rs k w=some e
theorem WF.mono{C:Bk}{g:Rg}:∀ {kn kn':List (Str×Int)} {e:Int},WF C kn g e->(∀p∈kn,p∈kn')->WF C kn' g e:=by
 have G:∀ {x:Str×Int} {kn kn':List (Str×Int)},(∀p∈kn,p∈kn')->∀p∈x::kn,p∈x::kn':=λh y J=>(List.mem_cons.mp J).elim (λz=>z ▸ zar ..) λz=>zap _ (h y z)
 induction g with
 | name x j w=>exact λW h=>⟨h _ W.1,W.2⟩
 | num n j w=>exact λW _=>W
 | use1 v nm p w ih=>rintro _ _ _ ⟨m,t,a,b,c,d,f⟩ h;exact⟨m,t,a,b,c,ih d h,f⟩
 | use2 v nm p q w ih ih2=>rintro _ _ _ ⟨m,t,u,a,b,c,d,N,f⟩ h;exact⟨m,t,u,a,b,c,ih d h,ih2 N h,f⟩
 | lett x j p q ih ih2=>exact λW h=>⟨ih W.1 h,ih2 W.2 (G h)⟩
 | pick c k p q r w ih ih2 ih3=>rintro _ _ _ ⟨a,b,B,F,M,d⟩ h;exact⟨a,b,ih B h,ih2 F h,ih3 M h,d⟩
 | again n k x p q w ih ih2=>rintro _ _ _ ⟨a,b,B,F,d⟩ h;exact⟨a,b,ih B h,ih2 F (G h),d⟩
theorem xK{rs:List Ro}{j e f:Int}{v w:List Int}(h:gw rs j v=some e)(k:gw rs e w=some f):gw rs j (v++w)=some f:=by
 rw[pG,h];exact k
theorem WF.beh{C:Bk}{v:List Int}{f:Int}{g:Rg}:∀ {kn:List (Str×Int)} {e:Int},WF C kn g e->gw C.rs e v=some f->WF C kn (beh g v) f:=by
 induction g with
 | name x j w=>exact λW h=>⟨W.1,xK W.2 h⟩
 | num n j w=>exact λW h=>⟨W.1,W.2.1,xK W.2.2 h⟩
 | use1 u nm p w=>rintro _ _ ⟨m,t,a,b,c,d,f⟩ h;exact⟨m,t,a,b,c,d,xK f h⟩
 | use2 u nm p q w=>rintro _ _ ⟨m,t,F,a,b,c,d,J,f⟩ h;exact⟨m,t,F,a,b,c,d,J,xK f h⟩
 | lett x j p q _ ih=>exact λW h=>⟨W.1,ih W.2 h⟩
 | pick c k p q r w=>rintro _ _ ⟨a,b,z,B,G,d⟩ h;exact⟨a,b,z,B,G,xK d h⟩
 | again n k x p q w=>rintro _ _ ⟨a,b,z,B,d⟩ h;exact⟨a,b,z,B,xK d h⟩
theorem oG:∀(g:Rg) (v:List Int),size (beh g v)=size g
 | .name ..,_=>rfl
 | .num ..,_=>rfl
 | .use1 ..,_=>rfl
 | .use2 ..,_=>rfl
 | .lett x j p q,v=>by rw[beh,size,size,oG q v]
 | .pick ..,_=>rfl
 | .again ..,_=>rfl
theorem uP:∀(g:Rg) (v:List Int),lets (beh g v)=lets g
 | .name ..,_=>rfl
 | .num ..,_=>rfl
 | .use1 ..,_=>rfl
 | .use2 ..,_=>rfl
 | .lett x j p q,v=>by rw[beh,lets,lets,uP q v]
 | .pick ..,_=>rfl
 | .again ..,_=>rfl
theorem PY:∀(g:Rg) (v:List Int),pt (beh g v)=pt g
 | .name ..,_=>rfl
 | .num ..,_=>rfl
 | .use1 ..,_=>rfl
 | .use2 ..,_=>rfl
 | .lett x j p q,v=>by rw[beh,pt,pt,PY q v]
 | .pick ..,_=>rfl
 | .again ..,_=>rfl
theorem B6{C:Bk}:∀(g:Rg) (v:List Int),cost C (beh g v)=cost C g+gW C.rs v
 | .name ..,_=>by simp only[beh,cost,eV]
 | .num ..,_=>by simp only[beh,cost,eV]
 | .use1 ..,_=>by simp only[beh,cost,eV];lia
 | .use2 ..,_=>by simp only[beh,cost,eV];lia
 | .lett x j p q,v=>by simp only[beh,cost,B6 q v];lia
 | .pick ..,_=>by simp only[beh,cost,eV];lia
 | .again ..,_=>by simp only[beh,cost,eV];lia
def Short:Rg->Prop
 | .name _ _ w=>w.length<=6
 | .num _ _ w=>w.length<=6
 | .use1 _ _ p w=>Short p/\w.length<=6
 | .use2 _ _ p q w=>Short p/\Short q/\w.length<=6
 | .lett _ _ p q=>Short p/\Short q
 | .pick _ _ p q r w=>Short p/\Short q/\Short r/\w.length<=6
 | .again _ _ _ p q w=>Short p/\Short q/\w.length<=6
theorem eB{C:Bk}(B:OkB C){j e:Int}{w:List Int}(h:gw C.rs j w=some e)(z:0<=j)(q:j<(C.kinds.length:Int)):w.length<=6/\0<=e/\e<(C.kinds.length:Int):=by
 have a:=lF B.gr h;have b:=VN B.gr h q;have:=B.k6;exact⟨by lia,by lia,b⟩
def OkN(C:Bk)(kn:List (Str×Int)):Prop:=∀p∈kn,0<=p.2/\p.2<(C.kinds.length:Int)
theorem OkN.cons{C:Bk}{kn:List (Str×Int)}{x:Str}{j:Int}(h:OkN C kn)(a:0<=j)(b:j<(C.kinds.length:Int)):OkN C ((x,j)::kn):=λp q=>by
 rcases List.mem_cons.mp q with z|z
 ·rw[z];exact⟨a,b⟩
 ·exact h p z
theorem WF.short{C:Bk}(B:OkB C){g:Rg}:∀ {kn:List (Str×Int)} {e:Int},OkN C kn->WF C kn g e->Short g/\0<=e/\e<(C.kinds.length:Int):=by
 induction g with
 | name x j w=>exact λK W=>eB B W.2 (K _ W.1).1 (K _ W.1).2
 | num n j w=>exact λK W=>eB B W.2.2 W.2.1.1 W.2.1.2
 | use1 v nm p w ih=>
  rintro _ _ K ⟨m,t,a,b,c,d,f⟩;have z:=zaw a;have s:=eB B f (B.gb m z).1 (B.gb m z).2;exact⟨⟨(ih K d).1,s.1⟩,s.2⟩
 | use2 v nm p q w ih ih2=>
  rintro _ _ K ⟨m,t,u,a,b,c,d,U,f⟩;have z:=zaw a;have s:=eB B f (B.gb m z).1 (B.gb m z).2;exact⟨⟨(ih K d).1,(ih2 K U).1,s.1⟩,s.2⟩
 | lett x j p q ih ih2=>
  intro _ _ K W;have G:=ih K W.1;have M:=ih2 (K.cons G.2.1 G.2.2) W.2;exact⟨⟨G.1,M.1⟩,M.2⟩
 | pick c k p q r w ih ih2 ih3=>
  rintro _ _ K ⟨a,b,F,J,N,d⟩;have s:=eB B d b.1 b.2;exact⟨⟨(ih K F).1,(ih2 K J).1,(ih3 K N).1,s.1⟩,s.2⟩
 | again n k x p q w ih ih2=>
  rintro _ _ K ⟨a,b,F,J,d⟩;have s:=eB B d b.1 b.2;exact⟨⟨(ih K F).1,(ih2 (K.cons b.1 b.2) J).1,s.1⟩,s.2⟩
def NF(U:List Str):List Str->Rg->Prop
 | _,.name _ _ _=>True
 | _,.num _ _ _=>True
 | N,.use1 _ _ p _=>NF U N p
 | N,.use2 _ _ p q _=>NF U N p/\NF U N q
 | N,.lett x _ p q=>NF U N p/\(x∉N/\x∈U)/\NF U (x::N) q
 | N,.pick _ _ p q r _=>NF U N p/\NF U N q/\NF U N r
 | N,.again _ _ x p q _=>NF U N p/\(x∉N/\x∈U)/\NF U (x::N) q
theorem NF.anti{U:List Str}:∀ {g:Rg} {N N':List Str},NF U N g->(∀y∈N',y∈N)->NF U N' g
 | .name ..,_,_,_,_=>trivial
 | .num ..,_,_,_,_=>trivial
 | .use1 u nm p w,N,N',h,k=>NF.anti (g:=p) (N:=N) h k
 | .use2 ..,N,N',⟨a,b⟩,k=>⟨NF.anti a k,NF.anti b k⟩
 | .lett x j p q,N,N',⟨a,b,c⟩,k=>⟨NF.anti a k,⟨λz=>b.1 (k _ z),b.2⟩,NF.anti c λy B=>(List.mem_cons.mp B).elim (λz=>z ▸ zar ..) λz=>zap _ (k y z)⟩
 | .pick ..,N,N',⟨a,b,c⟩,k=>⟨NF.anti a k,NF.anti b k,NF.anti c k⟩
 | .again n k' x p q w,N,N',⟨a,b,c⟩,k=>⟨NF.anti a k,⟨λz=>b.1 (k _ z),b.2⟩,NF.anti c λy B=>(List.mem_cons.mp B).elim (λz=>z ▸ zar ..) λz=>zap _ (k y z)⟩
theorem NF.beh{U:List Str}{v:List Int}:∀ {g:Rg} {N:List Str},NF U N g->NF U N (beh g v)
 | .name ..,_,_=>trivial
 | .num ..,_,_=>trivial
 | .use1 ..,N,h=>h
 | .use2 ..,N,h=>h
 | .lett x j p q,N,⟨a,b,c⟩=>⟨a,b,c.beh⟩
 | .pick ..,N,h=>h
 | .again ..,N,h=>h
inductive Pa where
 | name (x:Str)
 | num (n j:Int)
 | use1 (nm:Str) (p:Pa)
 | use2 (nm:Str) (p q:Pa)
 | lett (x:Str) (p q:Pa)
 | pick (c k:Int) (p q r:Pa)
 | again (n k:Int) (x:Str) (p q:Pa)
def pa:Rg->Pa
 | .name x _ _=>.name x
 | .num n j _=>.num n j
 | .use1 _ nm p _=>.use1 nm (pa p)
 | .use2 _ nm p q _=>.use2 nm (pa p) (pa q)
 | .lett x _ p q=>.lett x (pa p) (pa q)
 | .pick c k p q r _=>.pick c k (pa p) (pa q) (pa r)
 | .again n k x p q _=>.again n k x (pa p) (pa q)
def bL:Pa->D
 | .name x=>.tup [.str "name",.str x]
 | .num n j=>.tup [.str "number",.int n,.int j]
 | .use1 nm p=>.tup [.str "use",.str nm,.tup [bL p]]
 | .use2 nm p q=>.tup [.str "use",.str nm,.tup [bL p,bL q]]
 | .lett x p q=>.tup [.str "let",.str x,bL p,bL q]
 | .pick c k p q r=>.tup [.str "pick",.int c,.int k,bL p,bL q,bL r]
 | .again n k x p q=>.tup [.str "again",.int n,.int k,.str x,bL p,bL q]
def psz:Pa->Nat
 | .name _=>1
 | .num _ _=>1
 | .use1 _ p=>1+psz p
 | .use2 _ p q=>1+(psz p+psz q)
 | .lett _ p q=>1+(psz p+psz q)
 | .pick _ _ p q r=>1+(psz p+(psz q+psz r))
 | .again _ _ _ p q=>1+(psz p+psz q)
theorem b6:∀g:Rg,psz (pa g)=size g
 | .name ..=>rfl
 | .num ..=>rfl
 | .use1 _ _ p _=>by simp only[pa,psz,size,b6 p]
 | .use2 _ _ p q _=>by simp only[pa,psz,size,b6 p,b6 q]
 | .lett _ _ p q=>by simp only[pa,psz,size,b6 p,b6 q]
 | .pick _ _ p q r _=>by simp only[pa,psz,size,b6 p,b6 q,b6 r]
 | .again _ _ _ p q _=>by simp only[pa,psz,size,b6 p,b6 q]
theorem gS:∀g:Rg,pt g=bL (pa g)
 | .name ..=>rfl
 | .num ..=>rfl
 | .use1 _ _ p _=>by simp only[pa,bL,pt,gS p]
 | .use2 _ _ p q _=>by simp only[pa,bL,pt,gS p,gS q]
 | .lett _ _ p q=>by simp only[pa,bL,pt,gS p,gS q]
 | .pick _ _ p q r _=>by simp only[pa,bL,pt,gS p,gS q,gS r]
 | .again _ _ _ p q _=>by simp only[pa,bL,pt,gS p,gS q]
theorem zC:∀ {p q:Pa},bL p=bL q->p=q:=by
 intro p;induction p with
 | name x=>intro q h;cases q <;> simp[-zac,-zab,aA,aB,bL]at h ⊢ <;> exact h
 | num n j=>intro q h;cases q <;> simp[-zac,-zab,aA,aB,bL]at h ⊢ <;> exact h
 | use1 nm p ih=>intro q h;cases q <;> simp[-zac,-zab,aA,aB,bL]at h ⊢ <;> exact⟨h.1,ih h.2⟩
 | use2 nm p q ih1 ih2=>intro q h;cases q <;> simp[-zac,-zab,aA,aB,bL]at h ⊢ <;> exact⟨h.1,ih1 h.2.1,ih2 h.2.2⟩
 | lett x p q ih1 ih2=>intro q h;cases q <;> simp[-zac,-zab,aA,aB,bL]at h ⊢ <;> exact⟨h.1,ih1 h.2.1,ih2 h.2.2⟩
 | pick c k p q r ih1 ih2 ih3=>intro q h;cases q <;> simp[-zac,-zab,aA,aB,bL]at h ⊢ <;> first|exact⟨h.1,h.2.1,ih1 h.2.2.1,ih2 h.2.2.2.1,ih3 h.2.2.2.2⟩|exact absurd h.1 (by decide)
 | again n k x p q ih1 ih2=>intro q h;cases q <;> simp[-zac,-zab,aA,aB,bL]at h ⊢ <;> first|exact⟨h.1,h.2.1,h.2.2.1,ih1 h.2.2.2.1,ih2 h.2.2.2.2⟩|exact absurd h.1 (by decide)
theorem oN{q:Type}{f:q->D}(h:∀a b,f a=f b->a=b):∀ {l m:List q},l.map f=m.map f->l=m
 | [],[],_=>rfl
 | [],_::_,e=>nomatch e
 | _::_,[],e=>nomatch e
 | a::l,b::m,e=>by injection e with e1 e2;rw[h _ _ e1,oN h e2]
theorem SF(a b:Mk)(h:j7 a=j7 b):a=b:=by
 unfold j7 tupI at h;simp only[D.tup.injEq,zep,D.str.injEq,D.int.injEq,and_true]at h;obtain⟨h1,h2,B,z,q⟩:=h;have:=oN (f:=D.int) (λ_ _ e=>by injection e) h2;cases a;cases b;simp only at *;subst h1 B z q this;rfl
theorem SD(a b:Ro)(h:lY a=lY b):a=b:=by
 unfold lY at h;simp only[D.tup.injEq,zep,D.int.injEq,and_true]at h;obtain⟨h1,h2,B,z,q⟩:=h;cases a;cases b;simp only at *;subst h1 h2 B z q;rfl
theorem zD{a b:Bk}(h:a9 a=a9 b):a=b:=by
 unfold a9 at h;simp only[D.tup.injEq,zep,D.int.injEq,and_true]at h;obtain⟨h1,h2,B,G⟩:=h;have F:=oN (f:=D.str) (λ_ _ e=>by injection e) h2;have z:=oN SD B;have q:=oN SF G;cases a;cases b;simp only at *;subst h1 F z q;rfl
noncomputable def fU(h:Option Str)(acc l:List Str):List Str:=acc++l.filter λx=>!decide (some x=h) && !decide (x∈acc)
def aQ:Pa->List Str
 | .name x=>[x]
 | .num _ _=>[]
 | .use1 _ p=>fU none [] (aQ p)
 | .use2 _ p q=>fU none (fU none [] (aQ p)) (aQ q)
 | .lett x p q=>fU (some x) (fU none [] (aQ p)) (aQ q)
 | .pick _ _ p q r=>fU none (fU none (fU none [] (aQ p)) (aQ q)) (aQ r)
 | .again _ _ x p q=>fU (some x) (fU none [] (aQ p)) (aQ q)
abbrev Sm:=Option (Int×Int)
def rH:Sm->Sm->Sm
 | some a,some b=>some (a.1*b.1,a.2+b.2)
 | _,_=>none
def dG:Sm->Sm->Sm
 | some a,some b=>some (a.1+b.1,min a.2 b.2)
 | none,b=>b
 | a,none=>a
def QX(C:Bk)(j k:Int):Sm:=
 if(bS C.rs k 8 j).length=0 then none else some (((bS C.rs k 8 j).length:Int),My.QS ((bS C.rs k 8 j).map (gW C.rs)))
def csum(C:Bk)(own j k:Int)(q:List Sm):Sm:=q.foldl rH (rH (some (1,own)) (QX C j k))
abbrev iF:=Str->Int
def fJ(e:iF)(x:Str)(j:Int):iF:=λy=>if y=x then j else e y
noncomputable def aV(C:Bk)(v i:Nat):Int:=(((C.makes[v]?).map Mk.takes).getD [])[i]?.getD 0
noncomputable def dO(C:Bk)(v:Nat):Int:=((C.makes[v]?).map Mk.g).getD 0
noncomputable def oY(C:Bk)(nm:Str)(n:Nat):List Nat:=(zas C.makes.length).filter λv=>match C.makes[v]? with
 | some m=>decide (m.nm=nm) && decide (m.takes.length=n)
 | none=>false
def aW(C:Bk):Pa->iF->Int->Sm
 | .name x,e,k=>csum C 0 (e x) k []
 | .num _ j,_,k=>csum C 0 j k []
 | .use1 nm p,e,k=>(oY C nm 1).foldl (λt v=>dG t (csum C (mpr C v) (dO C v) k [aW C p e (aV C v 0)])) none
 | .use2 nm p q,e,k=>(oY C nm 2).foldl (λt v=>dG t (csum C (mpr C v) (dO C v) k [aW C p e (aV C v 0),aW C q e (aV C v 1)])) none
 | .lett x p q,e,k=>(zas C.kinds.length).foldl (λt (j:Nat)=>dG t (csum C 0 k k [aW C p e (j:Int),aW C q (fJ e x (j:Int)) k])) none
 | .pick c k' p q r,e,k=>csum C 0 k' k [aW C p e c,aW C q e k',aW C r e k']
 | .again _ k' x p q,e,k=>csum C 0 k' k [aW C p e k',aW C q (fJ e x k') k']
theorem bD{h:Option Str}{acc l:List Str}{x:Str}:x∈fU h acc l↔x∈acc\/(x∈l/\some x≠h):=by
 unfold fU;by_cases hx:x∈acc <;> simp_all[hx]
theorem cG(C:Bk):∀(p:Pa) (e f:iF) (k:Int),(∀x∈aQ p,e x=f x)->aW C p e k=aW C p f k
 | .name x,e,f,k,h=>by simp only[aW,h x (by simp_all[aQ])]
 | .num _ j,e,f,k,h=>rfl
 | .use1 nm p,e,f,k,h=>by
  have a:=λk=>cG C p e f k λx hx=>h x (by simp only[aQ,bD];exact .inr ⟨hx,by simp_all⟩)
  simp only[aW,a]
 | .use2 nm p q,e,f,k,h=>by
  have a:=λk=>cG C p e f k λx hx=>h x (by simp only[aQ,bD];exact .inl (.inr ⟨hx,by simp_all⟩))
  have b:=λk=>cG C q e f k λx hx=>h x (by simp only[aQ,bD];exact .inr ⟨hx,by simp_all⟩)
  simp only[aW,a,b]
 | .lett y p q,e,f,k,h=>by
  have a:=λk=>cG C p e f k λx hx=>h x (by simp only[aQ,bD];exact .inl (.inr ⟨hx,by simp_all⟩))
  have b:=λj k=>cG C q (fJ e y j) (fJ f y j) k λx hx=>by
   unfold fJ;by_cases z:x=y
   ·rw[if_pos z,if_pos z]
   ·rw[if_neg z,if_neg z];exact h x (by simp only[aQ,bD];exact .inr ⟨hx,by simpa using z⟩)
  simp only[aW,a,b]
 | .pick c k' p q r,e,f,k,h=>by
  have a:=λk=>cG C p e f k λx hx=>h x (by simp only[aQ,bD];exact .inl (.inl (.inr ⟨hx,by simp_all⟩)))
  have b:=λk=>cG C q e f k λx hx=>h x (by simp only[aQ,bD];exact .inl (.inr ⟨hx,by simp_all⟩))
  have c:=λk=>cG C r e f k λx hx=>h x (by simp only[aQ,bD];exact .inr ⟨hx,by simp_all⟩)
  simp only[aW,a,b,c]
 | .again n k' y p q,e,f,k,h=>by
  have a:=λk=>cG C p e f k λx hx=>h x (by simp only[aQ,bD];exact .inl (.inr ⟨hx,by simp_all⟩))
  have b:=λj k=>cG C q (fJ e y j) (fJ f y j) k λx hx=>by
   unfold fJ;by_cases z:x=y
   ·rw[if_pos z,if_pos z]
   ·rw[if_neg z,if_neg z];exact h x (by simp only[aQ,bD];exact .inr ⟨hx,by simpa using z⟩)
  simp only[aW,a,b]
def LI:List Str->List Int->iF
 | x::xs,j::js=>fJ (LI xs js) x j
 | _,_=>λ_=>0
theorem BF(e:iF):∀ {xs:List Str} {x:Str},x∈xs->LI xs (xs.map e) x=e x
 | [],_,h=>nomatch h
 | y::ys,x,h=>by
  show fJ (LI ys (ys.map e)) y (e y) x=e x;unfold fJ;by_cases z:x=y
  ·rw[if_pos z,z]
  ·rw[if_neg z];exact BF e ((List.mem_cons.mp h).resolve_left z)
def ZJ:Key->Int
 | .inl i=>i
 | .inr _=>0
noncomputable def xO(m:Nat):Nat->List (List Int)
 | 0=>[[]]
 | n+1=>(xO m n).flatMap λl=>(zas m).map λ(j:Nat)=>(j:Int)::l
theorem wH(m:Nat):∀n,(xO m n).length=m^n
 | 0=>rfl
 | n+1=>by
  have h:∀L:List (List Int),(L.flatMap λl=>(zas m).map λ(j:Nat)=>(j:Int)::l).length=L.length*m:=λL=>by
   induction L with
   | nil=>simp_all
   | cons a L ih=>rw[List.flatMap_cons,zbb,ih,zah,zcI,zaz,Nat.succ_mul,Nat.add_comm]
  rw[xO,h,wH m n,Nat.pow_succ]
theorem wY(m:Nat):∀ {n:Nat} {l:List Int},l.length=n->(∀j∈l,0<=j/\j<(m:Int))->l∈xO m n
 | 0,[],_,_=>by simp_all[xO]
 | n+1,j::l,hl,h=>by
  have a:=wY m (n:=n) (l:=l) (by simpa using hl) λi hi=>h i (zap _ hi)
  have b:=h j (zar ..);refine List.mem_flatMap.mpr ⟨l,a,List.mem_map.mpr ⟨j.toNat,List.mem_range.mpr (by lia),?_⟩⟩;rw[show((j.toNat:Nat):Int)=j by lia]
open Classical in
def FF(b p:D):My.Mf:=λk=>if h:∃q:Bk×Pa,b=a9 q.1/\p=bL q.2 then aW h.choose.1 h.choose.2 (LI (aQ h.choose.2) (k.2.map ZJ)) (ZJ k.1)else none
open Classical in
def DM(b p:D):List My.NK:=if h:∃q:Bk×Pa,b=a9 q.1/\p=bL q.2 then(xO h.choose.1.kinds.length ((aQ h.choose.2).length+1)).map λl=>match l with
 | j::l=>(.inl j,l.map .inl)
 | []=>(.inl 0,[])else []
theorem qai(C:Bk)(p:Pa)(k:Int)(l:List Int):FF (a9 C) (bL p) (.inl k,l.map .inl)=aW C p (LI (aQ p) l) k:=by
 have h:∃q:Bk×Pa,a9 C=a9 q.1/\bL p=bL q.2:=⟨(C,p),rfl,rfl⟩;unfold FF;rw[dif_pos h];have B:=zD h.choose_spec.1;have z:=zC h.choose_spec.2;rw[<- B,<- z,zaq];have e:(ZJ ∘ zbq:Int->Int)=id:=rfl;rw[e,List.map_id];rfl
theorem qu{C:Bk}{p:Pa}{k:Int}{l:List Int}(J:0<=k/\k<(C.kinds.length:Int))(F:l.length=(aQ p).length)(h:∀j∈l,0<=j/\j<(C.kinds.length:Int)):((.inl k,l.map .inl):My.NK)∈DM (a9 C) (bL p):=by
 have B:∃q:Bk×Pa,a9 C=a9 q.1/\bL p=bL q.2:=⟨(C,p),rfl,rfl⟩;unfold DM;rw[dif_pos B];have M:=zD B.choose_spec.1;have N:=zC B.choose_spec.2;rw[<- M,<- N];refine List.mem_map.mpr ⟨k::l,wY _ (by rw[zaz,F]) (λj G=>?_),rfl⟩;rcases List.mem_cons.mp G with z|z
 ·rw[z];exact J
 ·exact h j z
theorem XQ{C:Bk}{p:Pa}(B:C.kinds.length<=6)(J:(aQ p).length<=8):(DM (a9 C) (bL p)).length<zal:=by
 have z:∃q:Bk×Pa,a9 C=a9 q.1/\bL p=bL q.2:=⟨(C,p),rfl,rfl⟩;unfold DM;rw[dif_pos z];have F:=zD z.choose_spec.1;have G:=zC z.choose_spec.2;rw[<- F,<- G,zah,wH];have a:C.kinds.length^((aQ p).length+1)<=6^((aQ p).length+1):=Nat.pow_le_pow_left B _;have b:(6:Nat)^((aQ p).length+1)<=6^9:=Nat.pow_le_pow_right (by decide) (by lia);have c:(6:Nat)^9<zal:=by decide
 lia
noncomputable def top(i:Nat):Stmt:=PySem.Challenge.pw_chiefway_k45_told_and_numbered.main.body.getD i (.Pass ⟨0,0,0,0⟩)
abbrev s_law:Stmt:=top 71
abbrev tb(x:Str)(i:Nat)(ps:List Str):=(x,i,ps)
def tab:List (Str×Nat×List Str):=[tb "_law_cell" 39 ["script", "k"],tb "_law_price" 41 ["cell"],tb "_law_road" 42 ["cell", "M", "j", "k"],tb "_law_roads" 43 ["script", "M", "many"],tb "_law_name" 40 ["cell", "n"],tb "_law_shape" 44 ["cell", "M", "n"],tb "_law_makes" 45 ["script", "M", "many"],tb "_law_book" 46 ["script"],tb "_law_heads" 60 ["script", "tome", "names"],tb "_law_back" 48 ["tome", "k", "cell"],tb "_law_cost" 49 ["tome", "way"],tb "_law_leaf" 51 ["tome", "known", "kind", "cell"],tb "_law_begun" 61 ["script", "tome", "names", "pairs"],tb "_law_walk" 47 ["tome", "j", "cell"],tb "_law_behind" 50 ["reading", "way"],tb "_law_walked" 58 ["tome", "state", "cell"],tb "_law_many" 62 ["script"],tb "_law_over" 52 ["part", "reading", "kind", "states", "cost"],tb "_law_used" 53 ["tome", "known", "state", "cell"],tb "_law_closed" 57 ["tome", "known", "state", "pair", "cell"],tb "_law_picked" 54 ["tome", "known", "state", "cell"],tb "_law_around" 55 ["tome", "known", "state", "name", "cell"],tb "_law_named" 56 ["tome", "known", "state", "name", "cell"],tb "_law_step" 59 ["tome", "names", "now", "cell"],tb "_law_grown" 63 ["script", "tome", "names", "pairs"],tb "ways" 7 ["book", "j", "k"],tb "way_price" 8 ["book", "way"],tb "ways_sum" 22 ["book", "routes"],tb "name_within" 5 ["part", "number"],tb "names_used" 20 ["part", "below"],tb "inner" 4 ["part"],tb "number_in" 28 ["total"],tb "choices" 10 ["book", "part"],tb "either" 24 ["one", "other"],tb "both" 23 ["one", "other"],tb "inner_kinds" 11 ["book", "part", "kind", "choice"],tb "inner_heads" 12 ["heads", "part", "number", "choice"],tb "spots" 27 ["atlas", "node", "heads", "kind", "choice"],tb "way_begins" 13 ["book", "heads", "part", "kind", "choice"],tb "sum_at" 25 ["atlas", "node", "heads", "kind"],tb "choice_sum" 26 ["atlas", "node", "heads", "kind", "choice"],tb "counts" 29 ["book", "heads", "part"],tb "_law_number" 64 ["script"],tb "parted" 34 ["n", "many"],tb "assembled" 17 ["part", "choice", "readings", "way"],tb "sizes" 33 ["atlas", "places", "routes"],tb "told_at" 31 ["atlas", "node", "heads", "kind", "n"],tb "told_choice" 32 ["atlas", "node", "heads", "kind", "choice", "n"],tb "told" 30 ["book", "heads", "part", "kind", "n"],tb "choice_of" 14 ["reading"],tb "inner_readings" 15 ["reading"],tb "joined" 35 ["numbers", "many"],tb "way_of" 16 ["reading"],tb "number_at" 37 ["atlas", "node", "heads", "kind", "reading"],tb "number_of" 36 ["book", "heads", "part", "kind", "reading"],tb "_law_whole" 65 ["found"],tb "_law_plain" 66 ["thing"],tb "_law_way" 67 ["tome", "j", "k", "way"],tb "_law_use_rows" 68 ["tome", "known", "part", "kind", "reading"],tb "_law_rows" 69 ["tome", "known", "part", "kind", "reading"],tb "_law_reads" 70 ["tome", "known", "part", "kind", "reading"]]
noncomputable def blt:List Str:=["all", "bool", "dict", "enumerate", "int", "isinstance", "len", "list", "max", "min", "range", "reversed", "str", "sum", "tuple", "zip"]
noncomputable def gis:List (Str×Int):=[]
theorem sc_law:FnScope ["script", "tome", "names", "pairs", "state", "part", "sizes_v", "n", "kind", "size", "found", "number"] ["script"] (aO s_law):=⟨rfl,rfl,rfl,by decide +kernel,rfl,by decide +kernel,by decide +kernel⟩
structure Txt(K:zae)(mg:Str->Option Value):Prop where
 d:∀p∈tab,My.DefAt K mg p.1 (top p.2.1) p.2.2
 b:∀x∈blt,mg x=none
 g:∀p∈gis,GInt mg p.1 p.2
 o_Node:ObT K mg "Node" "Node.__init__" "part" (inClass (top 19) 0) CN ["part", "below", "names", "found"]
 o_Atlas:ObT K mg "Atlas" "Atlas.__init__" "book" (inClass (top 21) 0) CA ["book", "routes", "spans"]
theorem Txt.n{K:zae}{mg:Str->Option Value}(T:Txt K mg){x:Str}(h:x∈blt:=by decide +kernel):mg x=none:=T.b x h
abbrev Tx(P:zai)(w:World)(K:zae)(mg:Str->Option Value)(base:Heap):Prop:=Txt K mg
abbrev Zt(x:Str)(ps:List Str)(k n:Nat):Type:={b:Sv // ∀ {P:zai} {w:World} {K:zae} {mg:Str->Option Value} {base:Heap},Tx P w K mg base->Fn P w K mg base x k ps (bB n b)}
def f7(N:List Str)(i:Nat){x:Str}{ps:List Str}{k:Nat}{b:Sv}(h:∀ {P:zai} {w:World} {K:zae} {mg:Str->Option Value} {base:Heap} {B:Addr} {z:Value} {A:zao} {q:List Env} {H:Hp} {E:XK} (T:Tx P w K mg base) (s:zad) (nd:N.Nodup) (F:Room k (A.deeper (zaO x (aO (top i)) s.heap.objs.size B z))) (hu:(A.deeper (zaO x (aO (top i)) s.heap.objs.size B z)).units+1<cLine),∃g,eO (jZ wC P w K mg base N x (aO (top i)) B z A q s H E).nox ⟨[],[]⟩ [] (bU (top i)) g []/\g=b)(m:(x,i,ps)∈tab:=by decide +kernel)(sc:FnScope N ps (aO (top i)):=by exact⟨rfl,rfl,rfl,by decide +kernel,rfl,by decide +kernel,by decide +kernel⟩):Zt x ps (k+1) N.length:=⟨b,λT=>C4 (T.d _ m) sc λB z A q s H E F=>h T s sc.nd F (rE F)⟩
abbrev Zr(x:Str)(ps:List Str)(k n m:Nat):Type:={b:(List D->Option D)->Sv // ∀ {P:zai} {w:World} {K:zae} {mg:Str->Option Value} {base:Heap},Tx P w K mg base->Fn P w K mg base x (k+m+1) ps (eD n b m)}
def zT(N:List Str)(i:Nat){x:Str}{ps:List Str}{k m:Nat}{b:(List D->Option D)->Sv}(h:∀ {P:zai} {w:World} {K:zae} {mg:Str->Option Value} {base:Heap} {fa:Addr} {cdv:Value} {A:zao} {outer:List Env} {H:Hp} {E:XK} (T:Tx P w K mg base) (R:List D->Option D) (j:Nat) (hj:k<=j) (ih:Fn P w K mg base x j ps R) (s:zad) (nd:N.Nodup) (hr:Room j (A.deeper (zaO x (aO (top i)) s.heap.objs.size fa cdv))) (hu:(A.deeper (zaO x (aO (top i)) s.heap.objs.size fa cdv)).units+1<cLine),∃g,eO (jZ wC P w K mg base N x (aO (top i)) fa cdv A outer s H E).nox ⟨[],[]⟩ [] (bU (top i)) g []/\g=b R)(me:(x,i,ps)∈tab:=by decide +kernel)(sc:FnScope N ps (aO (top i)):=by exact⟨rfl,rfl,rfl,by decide +kernel,rfl,by decide +kernel,by decide +kernel⟩):Zr x ps k N.length m:=⟨b,λT=>by
 induction m with
 | zero=>exact GQ (T.d _ me) sc
 | succ m ih=>exact C4 (T.d _ me) sc λfa cdv A outer s H E hr=>h T _ (k+m+1) (by lia) ih s sc.nd hr (rE hr)⟩
local macro_rules | `(tactic|exists $x:ident) => `(tactic|(refine' (?f:∀y:(List D -> Option D) -> Sv, zc2 $x = y -> (List D -> Option D) -> Sv) _ ?h;(case h => unfold $x;(try unfold zT);(try dsimp only);try exact rfl);(case f => exact λy _ => y)))
local macro_rules | `(tactic|exists $x:ident) => `(tactic|(refine' (?f:∀y:Sv, zc2 $x = y -> Sv) _ ?h;(case h => unfold $x;(try unfold f7);(try dsimp only);try exact rfl);(case f => exact λy _ => y)))
theorem SU{X:Cx}{O:List Nat}{e:Expr}{f:Ev}{pos:Pos}(T:Txt X.K X.mg)(q:PB X O e f)(z:zaR e "part" X.env (eval e X.env)=eval e X.env):PD X O (.Attribute e "part" pos) (d5 CN "part" f):=lS T.o_Node.cls (T.o_Node.na _ (by decide)) q z
theorem LQ{X:Cx}{O:List Nat}{e:Expr}{f:Ev}{pos:Pos}(T:Txt X.K X.mg)(q:PB X O e f)(z:zaR e "below" X.env (eval e X.env)=eval e X.env):PD X O (.Attribute e "below" pos) (d5 CN "below" f):=lS T.o_Node.cls (T.o_Node.na _ (by decide)) q z
theorem MI{X:Cx}{O:List Nat}{e:Expr}{f:Ev}{pos:Pos}(T:Txt X.K X.mg)(q:PB X O e f)(z:zaR e "names" X.env (eval e X.env)=eval e X.env):PD X O (.Attribute e "names" pos) (d5 CN "names" f):=lS T.o_Node.cls (T.o_Node.na _ (by decide)) q z
theorem T2{X:Cx}{O:List Nat}{e:Expr}{f:Ev}{pos:Pos}(T:Txt X.K X.mg)(q:PB X O e f)(z:zaR e "book" X.env (eval e X.env)=eval e X.env):PD X O (.Attribute e "book" pos) (d5 CA "book" f):=lS T.o_Atlas.cls (T.o_Atlas.na _ (by decide)) q z
theorem JU{X:Cx}{O:List Nat}{e:Expr}{f:Ev}{pos:Pos}(T:Txt X.K X.mg)(q:PB X O e f)(z:zaR e "routes" X.env (eval e X.env)=eval e X.env):PD X O (.Attribute e "routes" pos) (d5 CA "routes" f):=lS T.o_Atlas.cls (T.o_Atlas.na _ (by decide)) q z
theorem N3{X:Cx}{O:List Nat}{e:Expr}{f:Ev}{pos:Pos}(T:Txt X.K X.mg)(q:PB X O e f)(z:zaR e "spans" X.env (eval e X.env)=eval e X.env):PD X O (.Attribute e "spans" pos) (d5 CA "spans" f):=lS T.o_Atlas.cls (T.o_Atlas.na _ (by decide)) q z
local macro_rules | `(tactic|trivial) => `(tactic|first
 | exact rfl
 | assumption
 | (show PD _ _ _ _;first|(apply vD <;> trivial)|(apply wE <;> trivial)|((first|apply YC|apply bG|apply rSl|apply rIt|apply qbA|apply wt|apply qay|apply YJ|apply Y1|apply qbX|apply qbP|apply qe|apply qi|apply qt|apply W6|apply RD|apply qaw|apply SU|apply LQ|apply MI|apply T2|apply JU|apply N3|apply rCm|apply PX|apply PR|apply qz|apply XZ|apply VL|apply PF.d) <;> trivial))
 | (show PB _ _ _ _;first|(apply vB <;> trivial)|(apply PD.b <;> trivial))
 | (show DE _ _ _ _;((first|apply UD|apply pB) <;> trivial))
 | (show xS _ _ _ _;((first|apply GI|apply QZ) <;> trivial))
 | (show Len _ _;((first|apply l0|apply lc) <;> trivial))
 | (show mE _ _ _;((first|apply d3|apply gB|apply FI|apply OO|apply qc|apply qab|apply YL|apply XX|apply XA|apply S8|apply xEq|apply xNe|apply xLt) <;> trivial))
 | (show At _ _ _;first|exact at_ 0|exact at_ 1|exact at_ 2|exact at_ 3|exact at_ 4|exact at_ 5|exact at_ 6|exact at_ 7|exact at_ 8|exact at_ 9|exact at_ 10|exact at_ 11|exact at_ 12)
 | (show wB _ _ _ _;first|((first|apply qbT|apply tc|apply RS) <;> trivial)|(apply PDW.pt <;> trivial)|(apply UP <;> trivial))
 | (show PDW _ _ _ _;((first|apply HB|apply OZ|apply NP|apply SX) <;> trivial))
 | (show WD _ _ _ _;((first|apply NA|apply L0) <;> trivial))
 | (show PDI _ _ _ _ _;((first|apply DT|apply RC|apply NT|apply UO|apply NW) <;> trivial))
 | (show DF _ _ _ _;first|(apply gV <;> trivial)|(apply gu 2 <;> trivial)|(apply gu 3 <;> trivial)|(apply gu 4 <;> trivial))
 | (show FL _ _ _ _;((first|apply MS|apply gc) <;> trivial))
 | (show My.FZ _ _ _;((first|apply MJ|apply L4) <;> trivial))
 | (show PF _ _ _ _;((first|apply wl|apply qbE) <;> trivial))
 | rfl
 | exact Txt.n (by assumption)
 | exact .inl rfl
 | exact .inr rfl
 | exact .inr (.inl rfl)
 | exact .inr (.inr rfl)
 | exact λ_=>rfl
 | exact λ_ _=>rfl
 | (with_unfolding_all rfl)
 | (constructor <;> rfl)
 | exact zaj _
 | (refine zaM ?_ (by assumption);decide))
seal PD PB PF DE xS wB PDW PDI WD j9 eO Fn mE zaB zaN
def dF:Zt "_law_cell" ["script", "k"] 1 3:=f7 ["script", "k", "near"] 39 λT s q B z=>by exact⟨_,(c0 (aS aM) (c0 (aJ 2 (bG d3 (by trivial) (PD.b (bG cH (by trivial) (by trivial))))) (c0 (aS (aP (aJ 2 (bG d3 (by trivial) (PD.b (bG cH (PD.b (bG cH (by trivial) (by trivial))) (by trivial))))))) (aM (bG FI (PD.b (bG gB (PD.b (bG cH (by trivial) (by trivial))) (by trivial))) (by trivial)))))),rfl⟩
def i9:Sv:=by exists dF
def bX:=bB 3 i9
def kK:Zt "_law_price" ["cell"] 1 1:=f7 ["cell"] 41 λT s q B z=>by exact⟨_,(c0 (aS aM) (aM (bG gB (PD.b (bG cH (by trivial) (by trivial))) (by trivial)))),rfl⟩
def kT:Sv:=by exists kK
def kO:=bB 1 kT
def tE:Zt "_law_road" ["cell", "M", "j", "k"] 2 6:=f7 ["cell", "M", "j", "k", "a", "b"] 42 λT s q B z=>by have:=fx kO (kK.2 T);exact⟨_,(c0 (aJ 4 (bG gB (PD.b (bG cH (by trivial) (by trivial))) (by trivial))) (c0 (aJ 5 (bG gB (PD.b (bG d3 (by trivial) (PD.b (bG cH (by trivial) (by trivial))))) (by trivial))) (c0 (aS (aP (aJ 4))) (c0 (aS (aP (aJ 5))) aM)))),rfl⟩
def sT:Sv:=by exists tE
def mM:=bB 6 sT
def qI:Zt "_law_roads" ["script", "M", "many"] 3 9:=f7 ["script", "M", "many", "cell", "roads", "n", "near", "j", "k"] 43 λT s q B z=>by have:=fx bX (dF.2 T);have:=fx mM (tE.2 T);exact⟨_,(c0 (aJ 3) (cO [4] (eM 4) (c0 (d8 [4] [] (cO [4] (aJ 6) (aP (aS (cO [4] (aJ 7) (cO [4] (aJ 8) (cO [4] (aS (cO [4] (aJ 7) (aP (aJ 8)))) (aP (lL 4))))))))) aM))),rfl⟩
def qZ:Sv:=by exists qI
def kG:=bB 9 qZ
def jC:Zt "_law_name" ["cell", "n"] 1 6:=f7 ["cell", "n", "many", "some", "letters", "at"] 40 λT s q B z=>by exact⟨_,(c0 (aJ 0) (c0 (aJ 2) (c0 (aJ 3) (c0 (aS (aP (aJ 3))) (cO [4] (eM 4 (dY s ["k", "cell", "some"] [none,some 0,some 3] (by trivial) (by intros;trivial) (by intros;trivial) (λ_ _ _ _=>(bG gB (PD.b (bG d3 (PD.b (bG FI (by trivial) (PD.b (bG d3 (by trivial) (PD.b (bG cH (by trivial) (by trivial))))))) (PD.b (bG cH (by trivial) (by trivial))))) (by trivial))))) (c0 (QV (cO [4] (aJ 2) (aP (CZ 4))) (cO [4] (aJ 5) (aP (CZ 4)))) (aM (RE (by trivial) (PD.b (PF.d (dY s ["k", "some", "letters"] [none,some 3,some 4]))) (λa b=>(xQ PySem.F.plainAttrs_str PySem.F.slot_str_join PySem.F.type_str_join My.SS a b)))))))))),rfl⟩
def sU:Sv:=by exists jC
def cF:=bB 6 sU
def pX:Zt "_law_shape" ["cell", "M", "n"] 1 8:=f7 ["cell", "M", "n", "some", "terms", "k", "near", "c"] 44 λT s q B z=>by exact⟨_,(c0 (lG 3 s ["k"] [none]) (c0 (aS (aP (lG 3 s ["k"] [none]))) (cO [4] (eM 4) (c0 (d8 [4] [] (cO [4] (aJ 6 (bG d3 (by trivial) (PD.b (bG cH (by trivial) (by trivial))))) (cO [4] (aJ 7 (bG gB (PD.b (bG cH (by trivial) (by trivial))) (by trivial))) (aP (aS (aP (lL 4))))))) aM)))),rfl⟩
def rA:Sv:=by exists pX
def kJ:=bB 8 rA
def qG:Zt "_law_makes" ["script", "M", "many"] 2 10:=f7 ["script", "M", "many", "cell", "makes", "n", "near", "takes", "name", "shape"] 45 λT s q B z=>by have:=fx bX (dF.2 T);have:=fx cF (jC.2 T);have:=fx kO (kK.2 T);have:=fx kJ (pX.2 T);exact⟨_,(c0 (aJ 3) (cO [4] (eM 4) (c0 (d8 [4] [] (cO [4] (aJ 6) (cO [4] (aJ 7) (cO [4] (aS (aP (aJ 7))) (cO [4] (aS (aP (aJ 7))) (cO [4] (aJ 8) (cO [4] (aJ 9) (aP (lL 4))))))))) aM))),rfl⟩
def qJ:Sv:=by exists qG
def kP:=bB 10 qJ
def tY:Zt "_law_book" ["script"] 4 5:=f7 ["script", "cell", "M", "many", "kinds"] 46 λT s q B z=>by have:=fx bX (dF.2 T);have:=fx kP (qG.2 T);have:=fx cF (jC.2 T);have:=fx kG (qI.2 T);exact⟨_,(c0 (aJ 1) (c0 (aJ 2 (bG d3 (by trivial) (PD.b (bG cH (by trivial) (by trivial))))) (c0 (aS (aP (aJ 2 (bG d3 (by trivial) (PD.b (bG cH (by trivial) (by trivial))))))) (c0 (aJ 3) (c0 (aS (aP (aJ 3))) (c0 (aJ 4 (ZQ k9 T.n My.boot_tuple (QZ (PD.b (PF.d (dY s ["k", "script"] [none,some 0]))) (by trivial)))) aM)))))),rfl⟩
def tL:Sv:=by exists tY
def mJ:=bB 5 tL
def pY:Zt "_law_heads" ["script", "tome", "names"] 2 5:=f7 ["script", "tome", "names", "pairs", "k"] 60 λT s q B z=>by have:=fx bX (dF.2 T);exact⟨_,(cO [3] (eM 3) (c0 (d8 [3] [] (aP (lL 3))) aM)),rfl⟩
def pV:Sv:=by exists pY
def kQ:=bB 5 pV
def tP:Zt "_law_back" ["tome", "k", "cell"] 1 5:=f7 ["tome", "k", "cell", "way", "some"] 48 λT s q B z=>by exact⟨_,(c0 (aJ 3) (c0 (QB [] [] (c0 (lG 4 s ["n", "tome", "k"] [none,some 0,some 1]) (c0 (aS aM) (c0 (aJ 3) (c0 (aJ 1) (aP (aJ 2))))))) aM)),rfl⟩
def t9:Sv:=by exists tP
def mF:=bB 5 t9
def mI:Zt "_law_cost" ["tome", "way"] 1 2:=f7 ["tome", "way"] 49 λT s q B z=>by exact⟨_,(aM (cB (PQ rfl) T.n My.boot_sum (QZ (PD.b (PF.d (dY s ["n", "tome"] [none,some 0]))) (by trivial)))),rfl⟩
def t7:Sv:=by exists mI
def mP:=bB 2 t7
def eK:Zt "_law_leaf" ["tome", "known", "kind", "cell"] 2 10:=f7 ["tome", "known", "kind", "cell", "j", "way", "some", "cost", "name", "n"] 51 λT s q B z=>by have:=fx mF (tP.2 T);have:=fx mP (mI.2 T);exact⟨_,(c0 (oT (by trivial) (oK (My.vA (n:=2) rfl (iL (λa b=>(lC a b)) (nW (g9 (i:=4) q rfl (zbM rfl))) (by trivial))))) (c0 (lG 6 s ["name", "at", "j"] [none,none,some 4]) (c0 (aJ 7) (c0 (aS (c0 (aJ 8) aM)) (c0 (aJ 9 (bG gB (PD.b (bG cH (by trivial) (by trivial))) (by trivial))) aM))))),rfl⟩
def uE:Sv:=by exists eK
def bP:=bB 10 uE
def pU:Zt "_law_begun" ["script", "tome", "names", "pairs"] 3 8:=f7 ["script", "tome", "names", "pairs", "left", "k", "known", "kind"] 61 λT s q B z=>by have:=fx bX (dF.2 T);have:=fx bP (eK.2 T);exact⟨_,(cO [4] (eM 4) (c0 (d8 [4] [] (aP (lL 4))) (c0 (aJ 6) (c0 (aJ 7) aM)))),rfl⟩
def qA:Sv:=by exists pU
def kI:=bB 8 qA
def sX:Zt "_law_walk" ["tome", "j", "cell"] 1 5:=f7 ["tome", "j", "cell", "way", "some"] 47 λT s q B z=>by exact⟨_,(c0 (aJ 3) (c0 (QB [] [] (c0 (lG 4 s ["n", "tome", "j"] [none,some 0,some 1]) (c0 (aS aM) (c0 (aJ 3) (c0 (aJ 1) (aP (aJ 2))))))) aM)),rfl⟩
def tW:Sv:=by exists sX
def mQ:=bB 5 tW
def nQ:Zr "_law_behind" ["reading", "way"] 0 3 24:=zT ["reading", "way", "last"] 50 λT R j q ih s B F z=>by exact⟨_,(c0 (aJ 2) (c0 (aS aM) aM)),rfl⟩
def eZ:(List D->Option D)->Sv:=by exists nQ
def nH:=eD 3 eZ 24
def iZ:Zt "_law_walked" ["tome", "state", "cell"] 26 5:=f7 ["tome", "state", "cell", "kind", "way"] 58 λT s q B z=>by have:=fx nH (nQ.2 T);have:=fx mP (mI.2 T);have:=fx mQ (sX.2 T);exact⟨_,(c0 (oT (by trivial) (oK (My.vA (n:=2) rfl (by trivial)))) aM),rfl⟩
def nJ:Sv:=by exists iZ
def i4:=bB 5 nJ
def tJ:Zt "_law_many" ["script"] 2 1:=f7 ["script"] 62 λT s q B z=>by have:=fx bX (dF.2 T);exact⟨_,aM,rfl⟩
def tO:Sv:=by exists tJ
def tQ:=bB 1 tO
def fO:Zt "_law_over" ["part", "reading", "kind", "states", "cost"] 1 10:=f7 ["part", "reading", "kind", "states", "cost", "parts", "lets", "rounds", "k", "one"] 52 λT s q B z=>by exact⟨_,(c0 (aJ 5) (c0 (aJ 6) (c0 (aJ 7) (c0 (d8 [] [] (c0 (aJ 9) (c0 (aJ 5) (c0 (aJ 6) (c0 (aJ 7) (aP (aJ 4))))))) aM)))),rfl⟩
def sR:Sv:=by exists fO
def aX:=bB 10 sR
def tG:Zt "_law_used" ["tome", "known", "state", "cell"] 3 11:=f7 ["tome", "known", "state", "cell", "some", "v", "at", "make", "row", "part", "reading"] 53 λT s q B z=>by have:=fx bP (eK.2 T);have:=fx aX (fO.2 T);exact⟨_,(cO [4] (eM 4) (c0 (d8 [4] [] (aP (d8 [4] [4] (aP (aS (aP (lL 4))))))) (c0 (aS aM) (c0 (oT (by trivial) (oK (My.vA (n:=2) rfl (by trivial)))) (c0 (aJ 7) (cO [8] (RX 8 s ["kind", "tome", "known", "cell"] [none,some 0,some 1,some 3]) (c0 (CZ 8) (c0 (aJ 9 (pL (pB (by trivial) (pB (by trivial) (pB (ZQ k9 T.n My.boot_tuple (QZ (PD.b (PF.d (dY s ["one"] [none]))) (by trivial))) (by trivial)))) (λρ ds h=>(by have:=(lc (lc (lc l0))) ρ ds h;lia)))) (c0 (aJ 10 (pL (pB (by trivial) (pB (by trivial) (pB (ZQ k9 T.n My.boot_tuple (QZ (PD.b (PF.d (dY s ["one"] [none]))) (by trivial))) (by trivial)))) (λρ ds h=>(by have:=(lc (lc (lc (lc l0)))) ρ ds h;lia)))) aM))))))))),rfl⟩
def tV:Sv:=by exists tG
def mH:=bB 11 tV
def nK:Zt "_law_closed" ["tome", "known", "state", "pair", "cell"] 3 12:=f7 ["tome", "known", "state", "pair", "cell", "name", "j", "one", "row", "reading", "n", "part"] 57 λT s q B z=>by have:=fx bP (eK.2 T);have:=fx aX (fO.2 T);exact⟨_,(c0 (oT (by trivial) (oK (My.vA (n:=2) rfl (by trivial)))) (c0 (aJ 7) (c0 (aJ 8) (c0 (aS (c0 (aJ 9) aM)) (c0 (aJ 10) (c0 (aJ 11) aM)))))),rfl⟩
def nN:Sv:=by exists nK
def iY:=bB 12 nN
def nO:Zt "_law_picked" ["tome", "known", "state", "cell"] 3 9:=f7 ["tome", "known", "state", "cell", "at", "c", "k", "row", "part"] 54 λT s q B z=>by have:=fx bP (eK.2 T);have:=fx aX (fO.2 T);exact⟨_,(c0 (aJ 4) (c0 (aJ 5) (c0 (aJ 6) (c0 (QV (aP (aJ 6)) (aP (aJ 5))) (cO [7] (eM 7) (cO [7] (lL 7) (c0 (CZ 7) (c0 (aJ 8) aM)))))))),rfl⟩
def nR:Sv:=by exists nO
def iX:=bB 9 nR
def nU:Zt "_law_around" ["tome", "known", "state", "name", "cell"] 3 9:=f7 ["tome", "known", "state", "name", "cell", "k", "n", "two", "part"] 55 λT s q B z=>by have:=fx bP (eK.2 T);have:=fx aX (fO.2 T);exact⟨_,(c0 (aJ 5) (c0 (aJ 6) (c0 (aJ 7) (c0 (aJ 8) aM)))),rfl⟩
def nS:Sv:=by exists nU
def nL:=bB 9 nS
def pS:Zt "_law_named" ["tome", "known", "state", "name", "cell"] 3 8:=f7 ["tome", "known", "state", "name", "cell", "k", "two", "reading"] 56 λT s q B z=>by have:=fx bP (eK.2 T);have:=fx aX (fO.2 T);exact⟨_,(c0 (aJ 5) (c0 (aJ 6) (c0 (aJ 7) aM))),rfl⟩
def qE:Sv:=by exists pS
def qY:=bB 8 qE
def mG:Zt "_law_step" ["tome", "names", "now", "cell"] 27 9:=f7 ["tome", "names", "now", "cell", "state", "left", "known", "rest", "most"] 59 λT s q B z=>by have:=fx nL (nU.2 T);have:=fx iY (nK.2 T);have:=fx qY (pS.2 T);have:=fx iX (nO.2 T);have:=fx mH (tG.2 T);have:=fx i4 (iZ.2 T);exact⟨_,(c0 (oT (by trivial) (oK (My.vA (n:=3) rfl (iL (λa b=>(lC a b)) (by trivial) (iL (λa b=>(lC a b)) (nW (g9 (i:=5) q rfl (zbM rfl))) (by trivial)))))) (c0 (aS (c0 (lG 7 s ["pair", "left"] [none,some 5]) aM)) (c0 (aJ 4) (c0 (aJ 8) (c0 (aS (aP (aJ 8))) (c0 (QV (aP (aJ 4)) (aP (QV (aP (aJ 4)) (aP (QV (aP (aJ 4)) (aP (aS (aP (aJ 4))))))))) aM)))))),rfl⟩
def sZ:Sv:=by exists mG
def jD:=bB 9 sZ
def qC:Zt "_law_grown" ["script", "tome", "names", "pairs"] 28 6:=f7 ["script", "tome", "names", "pairs", "now", "k"] 63 λT s z q B=>by have:=fx kI (pU.2 T);have:=fx bX (dF.2 T);have:=fx tQ (tJ.2 T);have:=fx jD (mG.2 T);have:=fx i4 (iZ.2 T);exact⟨_,(c0 (aJ 4) (c0 (d8 [] [] (aP (aJ 4))) (c0 (QB [] [] (aP (aJ 4 (cD (fx jD (mG.2 T)) (q.mono (by decide)) (pB (by trivial) (pB (by trivial) (pB (by trivial) (pB (bG d3 (by trivial) (PD.b (bG cH (by trivial) (by trivial)))) (by trivial))))) (lc (lc (lc (lc l0)))))))) aM))),rfl⟩
def qP:Sv:=by exists qC
def kE:=bB 6 qP
def P2:Zr "ways" ["book", "j", "k"] 0 6 8:=zT ["book", "j", "k", "told", "number", "road"] 7 λT R j z ih s q G B=>by exact⟨_,(c0 (aS aM) (cO [3] (eM 3) (c0 (d8 [3] [] (aP (aS (aP (tR (i:=3) (pv 3) (PF.d (dY s ["way", "number"] [none,some 4])) rfl (xQ zcZ PySem.F.slot_list_extend PySem.F.type_list_extend My.tU (pv 3) (cR (PD.pe (PF.d (dY s ["way", "number"] [none,some 4]))) fT)))))) (by trivial) (GW (FG (n:=2) rfl (iL (λa b=>(lC a b)) (nW (g9 (i:=4) q rfl (zbM rfl))) (by trivial))))) aM))),rfl⟩
def mS:(List D->Option D)->Sv:=by exists P2
def iC:=eD 6 mS 8
def qO:Zt "way_price" ["book", "way"] 1 2:=f7 ["book", "way"] 8 λT s q B z=>by exact⟨_,(aM (cB (PQ rfl) T.n My.boot_sum (QZ (PD.b (PF.d (dY s ["number", "book"] [none,some 0]))) (by trivial)))),rfl⟩
def pW:Sv:=by exists qO
def kU:=bB 2 pW
def mR:Zt "ways_sum" ["book", "routes"] 2 3:=f7 ["book", "routes", "prices"] 22 λT s q B z=>by have:=fx kU (qO.2 T);exact⟨_,(c0 (lG 2 s ["way", "book"] [none,some 0]) (aM (VL (by trivial) (pL (pB (by trivial) (pB (cB (NC rfl) T.n My.boot_min (by trivial)) (by trivial))) (λρ ds h=>(by have:=(lc (lc l0)) ρ ds h;lia))) (by trivial)))),rfl⟩
def tI:Sv:=by exists mR
def cV:=bB 3 tI
theorem sc_Atlas:FnScope ["self", "book", "j", "k"] ["self", "book"] (aO (inClass (top 21) 0)):=⟨rfl,rfl,rfl,by decide +kernel,rfl,by decide +kernel,by decide +kernel⟩
def gA(bk:D):Option (List D):=(lR bZ (aC (aT fV (aC (bC aI (aD 1) (eC (.int 1))) aZ)) aZ)) [none,some bk]
theorem uK{P:zai}{w:World}{K:zae}{mg:Str->Option Value}{base:Heap}(T:Tx P w K mg base):MkO P w K mg base 10 "Atlas" CA "book" (λ_=>vC CA gA iC cV):=T.o_Atlas.mko sc_Atlas λN B A q s H E G vs Q hsp=>by
  have M:=rE G;have J:=sc_Atlas.nd;have:=fx iC (P2.2 T);have:=fx cV (mR.2 T);rw[O0 hsp];exact DY (X:=(jZ wC P w K mg base ["self", "book", "j", "k"] "Atlas.__init__" (aO (inClass (top 21) 0)) N B A q s H E).nox) (f1:=(lR bZ (aC (aT fV (aC (bC aI (aD 1) (eC (.int 1))) aZ)) aZ))) (f2:=(lR bZ (aC (aT fV (aC (bC aI (aD 1) (eC (.int 1))) aZ)) aZ))) (fk:=(fK (aC (aD 2) (aC (aD 3) aZ)))) (fv:=(aT iC (aC (aD 1) (aC (aD 2) (aC (aD 3) aZ))))) (fe:=aD 1) T.o_Atlas.cls T.o_Atlas.na (fx cV (mR.2 T)) rfl (G.mono (by decide)) rfl M zeo rfl (pv 0) (pv 0) (pv 0) (pv 0) (pv 0) (pv 0) (vE 1 (pv 1) (by decide)) (by trivial) (by trivial) (g9 (i:=2) J rfl (zaY rfl)) (g9 (i:=3) J rfl (zaY rfl)) (by trivial) (by trivial) (by trivial) (by trivial) (vE 1 (pv 1) (by decide)) (λ_ _=>rfl)
   (λh=>by have e:=rG h;have z:∀bk:D,aD 1 [none,some bk]=some bk:=λ_=>rfl;simp only[gA,lR,aT,aC,bC,e,z];rfl) (λh=>by have e:=rG h;have z:∀bk:D,aD 1 [none,some bk]=some bk:=λ_=>rfl;simp only[gA,lR,aT,aC,bC,e,z];rfl) (λh h'=>by have e:=rG h;have F:=rG h';simp only[fK,aC,aZ,e,F];rfl) (λh h' h2=>by have e:=rG h;have F:=rG h';have z:=rG h2;simp only[aT,aC,aZ,e,F,z];rfl) (λh=>rG h) (hsp:=hsp)
def h7:Zt "name_within" ["part", "number"] 1 2:=f7 ["part", "number"] 5 λT s q B z=>by exact⟨_,(c0 (aS aM) (c0 (aS aM) (c0 (aS aM) aM))),rfl⟩
def bM:Sv:=by exists h7
def cT:=bB 2 bM
def i7:Zt "names_used" ["part", "below"] 2 6:=f7 ["part", "below", "names", "number", "node", "hidden"] 20 λT s M G J=>by have:=fx cT (h7.2 T);exact⟨_,(c0 (aS aM) (cO [2] (eM 2) (c0 (d8 [2] [] (cO [2] (aJ 5) (aP (tR (i:=2) (pv 2) (PF.d (CU (N:=["x", "hidden", "names"]) (ms:=[none,some 5,some 2]) (t:=0) (Oi:=[2]) rfl (HU rfl rfl (G9 (n:=s.heap.objs.size+1) rfl)) ⟨⟨rfl,rfl,zaY rfl⟩,⟨⟨rfl,rfl,zaY rfl⟩,trivial⟩⟩ rfl (by decide) (by decide) (by trivial) (λ_ _ _ _=>(g9 (i:=0) (show(["x", "hidden", "names"]:List Str).Nodup from by decide) rfl (zaY rfl))) (λz B H1 q=>(by trivial)) (λz B H1 q=>(by trivial)))) rfl (xQ zcZ PySem.F.slot_list_extend PySem.F.type_list_extend My.tU (pv 2) (cR (PD.pe (PF.d (CU (N:=["x", "hidden", "names"]) (ms:=[none,some 5,some 2]) (t:=0) (Oi:=[2]) rfl (HU rfl rfl (G9 (n:=s.heap.objs.size+1) rfl)) ⟨⟨rfl,rfl,zaY rfl⟩,⟨⟨rfl,rfl,zaY rfl⟩,trivial⟩⟩ rfl (by decide) (by decide) (by trivial) (λ_ _ _ _=>(g9 (i:=0) (show(["x", "hidden", "names"]:List Str).Nodup from by decide) rfl (zaY rfl))) (λz B H1 q=>(by trivial)) (λz B H1 q=>(by trivial))))) fT)))))) aM))),rfl⟩
def iW:Sv:=by exists i7
def fA:=bB 6 iW
def yW:Zt "inner" ["part"] 1 1:=f7 ["part"] 4 λT s q B z=>by exact⟨_,(c0 (aS aM) (c0 (aS aM) (c0 (aS aM) (c0 (aS aM) aM)))),rfl⟩
def g8:Sv:=by exists yW
def jF:=bB 1 g8
theorem sc_Node:FnScope ["self", "part"] ["self", "part"] (aO (inClass (top 19) 0)):=⟨rfl,rfl,rfl,by decide +kernel,rfl,by decide +kernel,by decide +kernel⟩
def rJ:Nat->D->D->Option D
 | 0,_=>λ_=>none
 | m+1,b=>IU CN (d7 [none] (gF (aT jF (aC (aD 1) aZ))) (aR 0) fH (eNew (rJ m) (λ_=>some b) (aD 0))) fA (DM b) (FF b)
theorem sE{P:zai}{w:World}{K:zae}{mg:Str->Option Value}{base:Heap}(T:Tx P w K mg base):∀m,MkO P w K mg base (3+2*m) "Node" CN "part" (rJ m)
 | 0=>T.o_Node.mko sc_Node λF z A q s H E B vs Q hsp=>by
  obtain⟨_,_,_,_,_,_,_,_,_,_,_,_,_,_,_,h,_⟩:=hsp;cases h
 | m+1=>T.o_Node.mko (k:=3+2*m+1) sc_Node λF z A q s H E B vs Q hsp=>by
  have J:=rE B;have M:=sc_Node.nd;have G:3<=3+2*m+1:=(by lia);have:=fx jF (yW.2 T);have:=fx fA (i7.2 T);rw[SH hsp rfl];exact JR (X:=(jZ wC P w K mg base ["self", "part"] "Node.__init__" (aO (inClass (top 19) 0)) F z A q s H E).nox) (fb:=λb=>(d7 [none] (gF (aT jF (aC (aD 1) aZ))) (aR 0) fH (eNew (rJ m) (λ_=>some b) (aD 0)))) T.o_Node.cls T.o_Node.na (fx fA (i7.2 T)) rfl (B.mono (by lia)) rfl (pv 0) (pv 0) (pv 0) (pv 0) (pv 0) (vE 1 (pv 1) (by decide)) (λb=>by exact(PF.d (dY s ["one"] [none] (by trivial) (by intros;trivial) (by intros;trivial) (λ_ _ _ _=>(m9 (β:=λ_=>some b) (sE T m) (B.mono (by lia)) rfl (by trivial)))))) (vE 1 (pv 1) (by decide)) (hsp:=hsp)
def eQ:Zt "number_in" ["total"] 1 1:=f7 ["total"] 28 λT s q B z=>by exact⟨_,aM,rfl⟩
def AR:Sv:=by exists eQ
def dE:=bB 1 AR
def lQ:Zt "choices" ["book", "part"] 1 2:=f7 ["book", "part"] 10 λT s q B z=>by exact⟨_,(c0 (aS (aM (PF.d (dY s ["v", "make", "part"] [none,none,some 1])))) (c0 (aS (aM (PF.d (NB rfl (by rfl) T.n (by rfl) T.n (by trivial) rfl)))) aM)),rfl⟩
def eX:Sv:=by exists lQ
def eW:=bB 2 eX
def B9:Zt "either" ["one", "other"] 1 2:=f7 ["one", "other"] 24 λT s q B z=>by exact⟨_,(c0 (aS aM) aM),rfl⟩
def BW:Sv:=by exists B9
def oH:=bB 2 BW
def OY:Zt "both" ["one", "other"] 1 2:=f7 ["one", "other"] 23 λT s q B z=>by exact⟨_,(c0 (aS aM) (aM (pL (pB (bG cH (by trivial) (by trivial)) (by trivial)) (λρ ds h=>(by have:=(lc (lc l0)) ρ ds h;lia))))),rfl⟩
def OK:Sv:=by exists OY
def PV:=bB 2 OK
def l9:Zt "inner_kinds" ["book", "part", "kind", "choice"] 1 4:=f7 ["book", "part", "kind", "choice"] 11 λT s q B z=>by exact⟨_,(c0 (aS aM) (c0 (aS aM) (c0 (aS aM) (c0 (aS aM) aM)))),rfl⟩
def cC:Sv:=by exists l9
def bT:=bB 4 cC
def l7:Zt "inner_heads" ["heads", "part", "number", "choice"] 2 6:=f7 ["heads", "part", "number", "choice", "x", "more"] 12 λT s z q B=>by have:=fx cT (h7.2 T);exact⟨_,(c0 (aJ 4) (c0 (aS aM) (cO [5] (eM 5 (ZU (kY rfl q.units) T.n My.boot_dict (by trivial))) (c0 (CZ 5) aM)))),rfl⟩
def fX:Sv:=by exists l7
def dJ:=bB 6 fX
def sI:Zt "spots" ["atlas", "node", "heads", "kind", "choice"] 3 9:=f7 ["atlas", "node", "heads", "kind", "choice", "kinds", "places", "number", "one"] 27 λT s q B z=>by have:=fx dJ (l7.2 T);have:=fx bT (l9.2 T);exact⟨_,(c0 (aJ 5) (cO [6] (eM 6) (c0 (d8 [6] [] (aP (lL 6))) aM))),rfl⟩
def GY:Sv:=by exists sI
def hJ:=bB 9 GY
def gG:Zt "way_begins" ["book", "heads", "part", "kind", "choice"] 1 5:=f7 ["book", "heads", "part", "kind", "choice"] 13 λT s q B z=>by exact⟨_,(c0 (aS aM) (c0 (aS aM) (c0 (aS aM) aM))),rfl⟩
def cM:Sv:=by exists gG
def bF:=bB 5 cM
abbrev Zv(x:Str)(ps:List Str)(k n:Nat):Type:={b:(List D->Option D)->Sv // ∀ {P:zai} {w:World} {K:zae} {mg:Str->Option Value} {base:Heap},Tx P w K mg base->∀(R:List D->Option D) (j:Nat),k<=j->Fn P w K mg base "sum_at" j ["atlas", "node", "heads", "kind"] R->Fn P w K mg base x (j+1) ps (bB n (b R))}
def qa5(N:List Str)(i:Nat){x:Str}{ps:List Str}{k:Nat}{b:(List D->Option D)->Sv}(h:∀ {P:zai} {w:World} {K:zae} {mg:Str->Option Value} {base:Heap} {B:Addr} {z:Value} {A:zao} {q:List Env} {H:Hp} {E:XK} (T:Tx P w K mg base) (R:List D->Option D) (j:Nat) (G:k<=j) (ih:Fn P w K mg base "sum_at" j ["atlas", "node", "heads", "kind"] R) (s:zad) (nd:N.Nodup) (F:Room (j) (A.deeper (zaO x (aO (top i)) s.heap.objs.size B z))) (hu:(A.deeper (zaO x (aO (top i)) s.heap.objs.size B z)).units+1<cLine),∃g,eO (jZ wC P w K mg base N x (aO (top i)) B z A q s H E).nox ⟨[],[]⟩ [] (bU (top i)) g []/\g=b R)(J:(x,i,ps)∈tab:=by decide +kernel)(sc:FnScope N ps (aO (top i)):=by exact⟨rfl,rfl,rfl,by decide +kernel,rfl,by decide +kernel,by decide +kernel⟩):Zv x ps k N.length:=⟨b,λT R j G ih=>C4 (T.d _ J) sc λB z A q s H E F=>h T R j G ih s sc.nd F (rE F)⟩
local macro_rules | `(tactic|exists $x:ident) => `(tactic|(refine' (?f:∀y:(List D -> Option D) -> Sv, zc2 $x = y -> (List D -> Option D) -> Sv) _ ?h;(case h => unfold $x;(try unfold qa5);(try unfold zT);(try dsimp only);try exact rfl);(case f => exact λy _ => y)))
def gI:Zv "choice_sum" ["atlas", "node", "heads", "kind", "choice"] 3 10:=qa5 ["atlas", "node", "heads", "kind", "choice", "own_price", "total", "one", "known", "at"] 26 λT R j q ih s B F z=>by have:=fx PV (OY.2 T);have:=fx hJ (sI.2 T);have:=fx bF (gG.2 T);exact⟨_,(c0 (aJ 5) (c0 (aJ 6) (c0 (d8 [] [] (aP (aS (aP (aJ 6))))) aM))),rfl⟩
def cL:(List D->Option D)->Sv:=by exists gI
abbrev Zw(x:Str)(ps:List Str)(k n m:Nat):Type:={b:(List D->Option D)->Sv // ∀ {P:zai} {w:World} {K:zae} {mg:Str->Option Value} {base:Heap},Tx P w K mg base->Fn P w K mg base x (k+2*m+1) ps (eD n b m)}
def VC(N:List Str)(i:Nat){x:Str}{ps:List Str}{k m:Nat}{b:(List D->Option D)->Sv}(h:∀ {P:zai} {w:World} {K:zae} {mg:Str->Option Value} {base:Heap} {fa:Addr} {cdv:Value} {A:zao} {outer:List Env} {H:Hp} {E:XK} (T:Tx P w K mg base) (R:List D->Option D) (j:Nat) (hj:k<=j) (hj1:k<=j+1) (ih:Fn P w K mg base x j ps R) (s:zad) (nd:N.Nodup) (hr:Room (j+1) (A.deeper (zaO x (aO (top i)) s.heap.objs.size fa cdv))) (hu:(A.deeper (zaO x (aO (top i)) s.heap.objs.size fa cdv)).units+1<cLine),∃g,eO (jZ wC P w K mg base N x (aO (top i)) fa cdv A outer s H E).nox ⟨[],[]⟩ [] (bU (top i)) g []/\g=b R)(me:(x,i,ps)∈tab:=by decide +kernel)(sc:FnScope N ps (aO (top i)):=by exact⟨rfl,rfl,rfl,by decide +kernel,rfl,by decide +kernel,by decide +kernel⟩):Zw x ps k N.length m:=⟨b,λT=>by
 induction m with
 | zero=>exact GQ (T.d _ me) sc
 | succ m ih=>exact C4 (T.d _ me) sc λfa cdv A outer s H E hr=>h T _ (k+2*m+1) (by lia) (by lia) ih s sc.nd hr (rE hr)⟩
local macro_rules | `(tactic|exists $x:ident) => `(tactic|(refine' (?f:∀y:(List D -> Option D) -> Sv, zc2 $x = y -> (List D -> Option D) -> Sv) _ ?h;(case h => unfold $x;(try unfold VC);(try unfold zT);(try dsimp only);try exact rfl);(case f => exact λy _ => y)))
def iR:Zw "sum_at" ["atlas", "node", "heads", "kind"] 3 7 16:=VC ["atlas", "node", "heads", "kind", "key", "total", "choice"] 25 λT R j F B ih s J z G=>by have:=fx eW (lQ.2 T);have:=fx oH (B9.2 T);have q:=fx (bB 10 (cL R)) (gI.2 T R j F ih);exact⟨_,(c0 (aJ 4 (pL (pB (by trivial) (pB (ZQ k9 T.n My.boot_tuple (QZ (PD.b (PF.d (dY s ["x", "heads"] [none,some 2]))) (by trivial))) (by trivial))) (λρ ds h=>(by have:=(lc (lc l0)) ρ ds h;lia)))) (LP 1 4 5 T.o_Node.cls (T.o_Node.na _ (by decide)) (hu2 z) (aJ 5) (d8 [] [] (aP (aJ 5))) (pv 1) (pv 1) (pv 1) (pv 4) (pv 4) (pv 4) (pv 5) (λ_ _=>rfl))),rfl⟩
def iP:(List D->Option D)->Sv:=by exists iR
def cQ:=eD 7 iP 16
def e8:=bB 10 (cL cQ)
def BH:Zt "counts" ["book", "heads", "part"] 37 5:=f7 ["book", "heads", "part", "atlas", "node"] 29 λT s z q B=>by have:=fx dE (eQ.2 T);have:=fx cQ (iR.2 T);exact⟨_,(c0 (aJ 3 (m9 (β:=eC .non) (uK T) (q.mono (by decide)) rfl (by trivial))) (c0 (aJ 4 (m9 (β:=aD 0) (sE T 16) (q.mono (by decide)) rfl (by trivial))) (aM (PF.d (dY s ["kind", "atlas", "node", "heads"] [none,some 3,some 4,some 1] (by trivial) (by intros;trivial) (by intros;trivial) (λ_ _ _ _=>(cD (fx dE (eQ.2 T)) (q.mono (by decide)) (pB (cD (fx cQ (iR.2 T)) (q.mono (by decide)) (pB (by trivial) (pB (by trivial) (pB (PF.d (ZU (kY rfl q.units) T.n My.boot_dict (by trivial))) (by trivial)))) (lc (lc (lc (lc l0))))) (by trivial)) (lc l0)))))))),rfl⟩
def CV:Sv:=by exists BH
def A3:=bB 5 CV
def nT:Zt "_law_number" ["script"] 1 3:=f7 ["script", "n", "cell"] 64 λT s q B z=>by exact⟨_,(c0 (aJ 1) (c0 (d8 [] [] (aP (aJ 1 (bG gB (PD.b (bG d3 (PD.b (bG cH (by trivial) (by trivial))) (by trivial))) (by trivial))))) aM)),rfl⟩
def nP:Sv:=by exists nT
def i6:=bB 3 nP
def BU:Zt "parted" ["n", "many"] 1 5:=f7 ["n", "many", "numbers", "rest", "size"] 34 λT s q B z=>by exact⟨_,(cO [2] (eM 2) (cO [2] (aJ 3) (c0 (d8 [2] [] (cO [2] (D7 (i:=2) (pv 2) (by trivial) (by trivial) rfl (xQ zcZ PySem.F.slot_list_insert PySem.F.type_list_insert My.K6 (pv 2) (cR (PD.pe (by trivial)) (cR (PD.pe (by trivial)) fT)))) (aP (aJ 3 (bG rW (by trivial) (by trivial)))))) aM))),rfl⟩
def BV:Sv:=by exists BU
def uM:=bB 5 BV
def qU:Zt "assembled" ["part", "choice", "readings", "way"] 2 4:=f7 ["part", "choice", "readings", "way"] 17 λT s q B z=>by have:=fx jF (yW.2 T);exact⟨_,(c0 (aS aM) (c0 (aS aM) aM)),rfl⟩
def fY:Sv:=by exists qU
def gY:=bB 4 fY
def yZ:Zt "sizes" ["atlas", "places", "routes"] 37 3:=f7 ["atlas", "places", "routes"] 33 λT s q B z=>by have:=fx dE (eQ.2 T);have:=fx cQ (iR.2 T);exact⟨_,(aM (bG d3 (PD.b (PF.d (dY s ["one", "known", "at", "atlas"] [none,none,none,some 0]))) (by trivial))),rfl⟩
def IG:Sv:=by exists yZ
def oQ:=bB 3 IG
abbrev Zv1(x:Str)(ps:List Str)(k n:Nat):Type:={b:(List D->Option D)->Sv // ∀ {P:zai} {w:World} {K:zae} {mg:Str->Option Value} {base:Heap},Tx P w K mg base->∀(R:List D->Option D) (j:Nat),k<=j->Fn P w K mg base "told_at" j ["atlas", "node", "heads", "kind", "n"] R->Fn P w K mg base x (j+1) ps (bB n (b R))}
def WA(N:List Str)(i:Nat){x:Str}{ps:List Str}{k:Nat}{b:(List D->Option D)->Sv}(h:∀ {P:zai} {w:World} {K:zae} {mg:Str->Option Value} {base:Heap} {B:Addr} {z:Value} {A:zao} {q:List Env} {H:Hp} {E:XK} (T:Tx P w K mg base) (R:List D->Option D) (j:Nat) (G:k<=j) (ih:Fn P w K mg base "told_at" j ["atlas", "node", "heads", "kind", "n"] R) (s:zad) (nd:N.Nodup) (F:Room (j) (A.deeper (zaO x (aO (top i)) s.heap.objs.size B z))) (hu:(A.deeper (zaO x (aO (top i)) s.heap.objs.size B z)).units+1<cLine),∃g,eO (jZ wC P w K mg base N x (aO (top i)) B z A q s H E).nox ⟨[],[]⟩ [] (bU (top i)) g []/\g=b R)(J:(x,i,ps)∈tab:=by decide +kernel)(sc:FnScope N ps (aO (top i)):=by exact⟨rfl,rfl,rfl,by decide +kernel,rfl,by decide +kernel,by decide +kernel⟩):Zv1 x ps k N.length:=⟨b,λT R j G ih=>C4 (T.d _ J) sc λB z A q s H E F=>h T R j G ih s sc.nd F (rE F)⟩
local macro_rules | `(tactic|exists $x:ident) => `(tactic|(refine' (?f:∀y:(List D -> Option D) -> Sv, zc2 $x = y -> (List D -> Option D) -> Sv) _ ?h;(case h => unfold $x;(try unfold WA);(try unfold zT);(try unfold VC);(try dsimp only);try exact rfl);(case f => exact λy _ => y)))
def mB:Zv1 "told_choice" ["atlas", "node", "heads", "kind", "choice", "n"] 37 12:=WA ["atlas", "node", "heads", "kind", "choice", "n", "places", "routes", "numbers", "readings", "number", "spot"] 32 λT R j q ih s B F z=>by have:=fx gY (qU.2 T);have:=fx uM (BU.2 T);have:=fx oQ (yZ.2 T);have:=fx hJ (sI.2 T);have:=fx bF (gG.2 T);exact⟨_,(c0 (aJ 6) (c0 (aJ 7) (c0 (aJ 8) (cO [9] (eM 9) (c0 (d8 [9] [] (aP (lL 9))) aM))))),rfl⟩
def fW:(List D->Option D)->Sv:=by exists mB
def pI:Zw "told_at" ["atlas", "node", "heads", "kind", "n"] 37 8 16:=VC ["atlas", "node", "heads", "kind", "n", "rest", "choice", "many"] 31 λT R j B z ih s F G J=>by have:=fx e8 (gI.2 T cQ _ (by decide) (fx cQ (iR.2 T)));have:=fx eW (lQ.2 T);have:=fx dE (eQ.2 T);have q:=fx (bB 12 (fW R)) (mB.2 T R j B ih);exact⟨_,(c0 (aJ 5) (c0 (d8 [] [] (c0 (aJ 7) (c0 (aS aM) (aP (aJ 5))))) qaP)),rfl⟩
def fQ:(List D->Option D)->Sv:=by exists pI
def pE:=eD 8 fQ 16
def PJ:Zt "told" ["book", "heads", "part", "kind", "n"] 71 5:=f7 ["book", "heads", "part", "kind", "n"] 30 λT s z q B=>by have:=fx pE (pI.2 T);exact⟨_,(c0 qaD (aM (cD (fx pE (pI.2 T)) (q.mono (by decide)) (pB (m9 (β:=eC .non) (uK T) (q.mono (by decide)) rfl (by trivial)) (pB (m9 (β:=aD 0) (sE T 16) (q.mono (by decide)) rfl (by trivial)) (pB (PF.d (ZU (kY rfl q.units) T.n My.boot_dict (by trivial))) (by trivial)))) (lc (lc (lc (lc (lc l0)))))))),rfl⟩
def O8:Sv:=by exists PJ
def zJ:=bB 5 O8
def qB:Zt "choice_of" ["reading"] 1 1:=f7 ["reading"] 14 λT s q B z=>by exact⟨_,(c0 (aS aM) (c0 (aS aM) aM)),rfl⟩
def dC:Sv:=by exists qB
def kM:=bB 1 dC
def iI:Zt "inner_readings" ["reading"] 1 1:=f7 ["reading"] 15 λT s q B z=>by exact⟨_,(c0 (aS aM) (c0 (aS aM) (c0 (aS aM) (c0 (aS aM) aM)))),rfl⟩
def bR:Sv:=by exists iI
def fN:=bB 1 bR
def B1:Zt "joined" ["numbers", "many"] 1 5:=f7 ["numbers", "many", "n", "number", "size"] 35 λT s q B z=>by exact⟨_,(c0 (aJ 2) (c0 (d8 [] [] (aP (aJ 2 (bG d3 (PD.b (bG cH (by trivial) (by trivial))) (by trivial))))) aM)),rfl⟩
def BA:Sv:=by exists B1
def uT:=bB 5 BA
def AV:Zt "way_of" ["reading"] 1 1:=f7 ["reading"] 16 λT s q B z=>by exact⟨_,aM,rfl⟩
def f6:Sv:=by exists AV
def uJ:=bB 1 f6
def kS:Zr "number_at" ["atlas", "node", "heads", "kind", "reading"] 37 13 16:=zT ["atlas", "node", "heads", "kind", "reading", "chosen", "n", "choice", "places", "routes", "numbers", "one", "spot"] 37 λT R j z ih s G q B=>by have:=fx kM (qB.2 T);have:=fx e8 (gI.2 T cQ _ (by decide) (fx cQ (iR.2 T)));have:=fx eW (lQ.2 T);have:=fx fN (iI.2 T);have:=fx uT (B1.2 T);have:=fx dE (eQ.2 T);have:=fx oQ (yZ.2 T);have:=fx hJ (sI.2 T);have:=fx bF (gG.2 T);have:=fx uJ (AV.2 T);exact⟨_,(c0 (aJ 5) (c0 (aJ 6) (c0 (d8 [] [] (aP (aS (aP (aJ 6))))) (c0 (aJ 8) (c0 (aJ 9) (cO [10] (eM 10) (cO [10] (d8 [10] [10] (aP (lL 10))) (c0 (lL 10 (L3 q.units (by trivial) (by trivial) (λm h k=>(xQ zcZ PySem.F.slot_list_index PySem.F.type_list_index m h k)))) aM)))))))),rfl⟩
def dD:(List D->Option D)->Sv:=by exists kS
def kH:=eD 13 dD 16
def pZ:Zt "number_of" ["book", "heads", "part", "kind", "reading"] 55 5:=f7 ["book", "heads", "part", "kind", "reading"] 36 λT s z q B=>by have:=fx kH (kS.2 T);exact⟨_,(aM (cD (fx kH (kS.2 T)) (q.mono (by decide)) (pB (m9 (β:=eC .non) (uK T) (q.mono (by decide)) rfl (by trivial)) (pB (m9 (β:=aD 0) (sE T 16) (q.mono (by decide)) rfl (by trivial)) (pB (PF.d (ZU (kY rfl q.units) T.n My.boot_dict (by trivial))) (by trivial)))) (lc (lc (lc (lc (lc l0))))))),rfl⟩
def qL:Sv:=by exists pZ
def kR:=bB 5 qL
def eR:Zt "_law_whole" ["found"] 1 1:=f7 ["found"] 65 λT s q B z=>by exact⟨_,aM,rfl⟩
def qV:Sv:=by exists eR
def eP:=bB 1 qV
def qR:Zr "_law_plain" ["thing"] 1 1 40:=zT ["thing"] 66 λT R j q ih s B F z=>by have:=fx eP (eR.2 T);exact⟨_,(c0 (aS aM) (aM (cB (OX rfl) T.n My.boot_all (QZ (PD.b (PF.d (dY s ["one"] [none]))) (by trivial))))),rfl⟩
def eS:(List D->Option D)->Sv:=by exists qR
def kW:=eD 1 eS 40
def iM:Zt "_law_way" ["tome", "j", "k", "way"] 2 5:=f7 ["tome", "j", "k", "way", "n"] 67 λT s q B z=>by have:=fx eP (eR.2 T);exact⟨_,(c0 (aS aM) (c0 (d8 [] [] (c0 (aS aM) (aP (aJ 1)))) aM)),rfl⟩
def J0:Sv:=by exists iM
def iJ:=bB 5 J0
def kB:Zt "_law_use_rows" ["tome", "known", "part", "kind", "reading"] 3 8:=f7 ["tome", "known", "part", "kind", "reading", "v", "make", "many"] 68 λT s q B z=>by have:=fx iJ (iM.2 T);have:=fx eP (eR.2 T);exact⟨_,(c0 (aJ 5) (c0 (aS aM) (c0 (aJ 6) (c0 (aJ 7) (c0 (aS aM) (c0 (aS aM) (aM (PF.d (dY s ["k", "known", "part", "make", "reading"] [none,some 1,some 2,some 6,some 4]))))))))),rfl⟩
def kA:Sv:=by exists kB
def kD:=bB 8 kA
def sV:Zt "_law_rows" ["tome", "known", "part", "kind", "reading"] 4 8:=f7 ["tome", "known", "part", "kind", "reading", "k", "j", "rows"] 69 λT s q B z=>by have:=fx kD (kB.2 T);have:=fx iJ (iM.2 T);have:=fx eP (eR.2 T);exact⟨_,(c0 (aS aM) (c0 (aJ 5) (c0 (aS (c0 (aJ 6) (c0 (aS aM) aM))) (c0 (aS aM) (c0 (aS (c0 (aJ 7) aM)) (c0 (aS aM) aM)))))),rfl⟩
def gN:Sv:=by exists sV
def fP:=bB 8 gN
def qT:Zr "_law_reads" ["tome", "known", "part", "kind", "reading"] 4 7 16:=zT ["tome", "known", "part", "kind", "reading", "sizes_v", "rows"] 70 λT R j B ih s F q z=>by have:=fx fP (sV.2 T);have:=fx iJ (iM.2 T);exact⟨_,(c0 (aJ 5 (PF.d (NI [("name",3),("number",4),("use",4),("let",5),("pick",7),("again",7)] (iN mV mT (iN mV mT (iN mV mT (iN mV mT (iN mV mT (iN mV mT Q5))))))))) (c0 (aS aM) (c0 (aS (aM (PR (by trivial) (PX (cD (fx iJ (iM.2 T)) (q.mono (by lia)) (pB (by trivial) (pB (y8 z (PD.b (PF.d (ZU (kY rfl q.units) T.n My.boot_dict (by trivial)))) (by trivial) (λ_ _=>rfl)) (by trivial))) (lc (lc (lc (lc l0))))))))) (c0 (aS aM) (c0 (aJ 6) (c0 (aS aM) (aM (cB (OX rfl) T.n My.boot_all (QZ (PD.b (PF.d (dY s ["names", "one", "at", "read", "tome"] [none,none,none,none,some 0]))) (by trivial)))))))))),rfl⟩
def cP:(List D->Option D)->Sv:=by exists qT
def qX:=eD 7 cP 16
def V4:{b:Sv // ∀ {P:zai} {w:World} {K:zae} {mg:Str->Option Value} {base:Heap},Tx P w K mg base->ZOk P w K mg base ["script", "tome", "names", "pairs", "state", "part", "sizes_v", "n", "kind", "size", "found", "number"] "law" s_law 71 b}:=⟨_,λT G F A q s H E z=>by have B:=rE z;have J:=sc_law.nd;have:=fx A3 (BH.2 T);have:=fx mJ (tY.2 T);have:=fx bX (dF.2 T);have:=fx kE (qC.2 T);have:=fx kQ (pY.2 T);have:=fx cF (jC.2 T);have:=fx i6 (nT.2 T);have:=fx kW (qR.2 T);have:=fx qX (qT.2 T);have:=fx eP (eR.2 T);have:=fx kR (pZ.2 T);have:=fx zJ (PJ.2 T);exact⟨_,(c0 (aJ 1) (c0 (lG 2 s ["k", "script"] [none,some 0]) (c0 (aJ 3) (c0 (aJ 4) (c0 (aJ 5) (c0 (aJ 6) (c0 (aJ 7) (c0 (aJ 8) (c0 (aS (aP (aJ 8)) (PDW.pt (OZ (by trivial) (HB (yD (VU z.units) (PD.b (bG gB (PD.b (bG rW (by trivial) (by trivial))) (by trivial))) (by trivial) (E9 _)))))) (c0 (aJ 9) (c0 (aS aM) (c0 (aJ 7 (y8 B (PD.b (PF.d (P7 (pB (bG gB (PD.b (bG rW (by trivial) (by trivial))) (by trivial)) (by trivial)) (λρ ds h=>(by have:=(lc (lc (lc l0))) ρ ds h;lia))))) (PD.b (cB (HN rfl) T.n My.boot_max (QZ (by trivial) (QZ (PD.b (bG OO (PD.b (bG gB (PD.b (bG rW (by trivial) (by trivial))) (by trivial))) (by trivial))) (by trivial))))) (λ_ _=>rfl))) (c0 (aJ 10) (c0 (aS aM) (c0 (aJ 11) (c0 (aS aM) aM)))))))))))))))),rfl⟩⟩
def QE:Sv:=by exists V4
theorem dS(ns:List Int):∃f:Int->Int,∀k:Int,0<=k->k<=1000->bX [.lst (ns.map .int),.int k]=some (.int (f k))/\0<=f k/\f k<10^60:=by
 have h:∀k:Int,∃c:Int,0<=k->k<=1000->bX [.lst (ns.map .int),.int k]=some (.int c)/\0<=c/\c<10^60:=λk=>by
  by_cases M:0<=k
  ·by_cases h1:k<=1000
   ·by_cases B:k<(ns.length:Int)
    ·obtain⟨c,J,_⟩:=gO M B
     have c0:=zat c (show(10^60:Int)≠0 by decide +kernel);have G:=zav c (show(0:Int)<10^60 by decide +kernel);refine⟨c%10^60,λ_ _=>⟨aF ?_,c0,G⟩⟩;simp_all[i9,aE,B,J,IM,bO]
    ·have fin:∀y:Int,(0<=y%2147483647/11)/\y%2147483647/11<10^60:=λy=>by
      have a:=zat y (show(2147483647:Int)≠0 by decide);have b:=zav y (show(0:Int)<2147483647 by decide);generalize y%2147483647=z at a b;have:(10:Int)^60=1000000000000000000000000000000000000000000000000000000000000:=by decide +kernel
      lia
     have m1:cS (.int k) (.int k)=some (.int (k*k)):=b8 (by lia) (by lia) (by lia) (by lia);have Y:=E8 (show -(10000:Int)<k by lia) (show k<10000 by lia) (show -(10000:Int)<k by lia) (show k<10000 by lia);generalize k*k=p at m1 Y;by_cases F:(0:Int)<(ns.length:Int)
     ·have q:0<ns.length:=by lia
      have m5:cS (.int 5) (.int k)=some (.int (5*k)):=b8 (by decide +kernel) (by decide +kernel) (by lia) (by lia);have W:=zat k (zaQ F);have U:=zav k F;obtain⟨c,J,_⟩:=gO W U;have c0:=zat c (show(1000003:Int)≠0 by decide);have G:=zav c (show(0:Int)<1000003 by decide);generalize hx:c%1000003=x at c0 G;have m3:cS (.int (5*k)) (.int x)=some (.int (5*k*x)):=b8 (by lia) (by lia) (by lia) (by lia);have N:=E8 (show -(100000:Int)<5*k by lia) (show 5*k<100000 by lia) (show -(1000000000:Int)<x by lia) (show x<1000000000 by lia);generalize 5*k*x=y at m3 N;have m4:cS (.int (3+p+y)) (.int 69621)=some (.int ((3+p+y)*69621)):=b8 (by lia) (by lia) (by decide +kernel) (by decide +kernel);refine⟨(3+p+y)*69621%2147483647/11,λ_ _=>⟨aF ?_,(fin _).1,(fin _).2⟩⟩;simp_all[i9,aE,B,m1,q,m5,J,bO F,bO,iS,hx,m3,m4]
     ·have q:¬ 0<ns.length:=by lia
      have m4:cS (.int (3+p)) (.int 69621)=some (.int ((3+p)*69621)):=b8 (by lia) (by lia) (by decide +kernel) (by decide +kernel);refine⟨(3+p)*69621%2147483647/11,λ_ _=>⟨aF ?_,(fin _).1,(fin _).2⟩⟩;simp_all[i9,aE,B,m1,q,bO,iS,m4]
   ·exact⟨0,λ_ z=>absurd z h1⟩
  ·exact⟨0,λz=>absurd z M⟩
 exact⟨λk=>(h k).choose,λk=>(h k).choose_spec⟩
theorem UC{ss:List Str}(h:∀s∈ss,∃n,s=⟨#[n]⟩):(ss.map (·.length)).sum=ss.length:=by
 induction ss with
 | nil=>rfl
 | cons s ss ih=>
  obtain⟨n,rfl⟩:=h s (zar ..);rw[zak,zbo,ih λt q=>h t (zap _ q),zaz];show 1+ss.length=ss.length+1
  lia
theorem gH(n:Nat):aU 0 1 n=((zas n).map λ(j:Nat)=>(j:Int)).map D.int:=by
 unfold aU;rw[zaq];refine List.map_congr_left λa _=>?_
 show D.int _=D.int _;have:(0:Int)+(a:Int)*1=(a:Int):=by lia
 rw[this]
noncomputable def sg(S:Str)(i:Int):Nat:=S.cps.toList.getD i.toNat 0
theorem TF(G:z.length<=1000)(F:0<=i)(h:i<(z.length:Int)):aI (.str z) (.int i)=some (.str ⟨#[sg z i]⟩):=by
 obtain⟨j,rfl⟩:∃j:Nat,i=(j:Int):=⟨i.toNat,by lia⟩;have q:j<z.cps.toList.length:=by rw[zbT];show j<z.length;lia
 have e:gE z.cps.toList (j:Int)=some z.cps.toList[j]:=bV (by simp_all[q]);have B:sg z (j:Int)=z.cps.toList[j]:=by
  unfold sg;rw[zbA,zc3,zaP q];rfl
 rw[B];show(if a7 z.length then(gE z.cps.toList (j:Int)).map (λc=>D.str ⟨#[c]⟩)else none)=_;rw[if_pos (show a7 z.length=true from decide_eq_true (by lia)),e];rfl
theorem join_ones:∀l:List Nat,(zcJ "" (l.map λg=>(⟨#[g]⟩:Str))).cps.toList=l
 | []=>rfl
 | [g]=>rfl
 | g::g'::l=>by
  have ih:=join_ones (g'::l);show((⟨#[g]⟩:Str) ++ "" ++ zcJ "" ((g'::l).map λg=>(⟨#[g]⟩:Str))).cps.toList=_;have e:∀a b:Str,(a++b).cps=a.cps++b.cps:=λ_ _=>rfl
  rw[e,e,Array.toList_append,Array.toList_append,ih];rfl
theorem NS:Txt.join sep ys=zcJ sep ys:=by
 have:=join_closes (sep:=sep) (sep':=sep) (ys:=ys) rfl;simpa using this
theorem NQ(l:List Nat):((l.map λg=>(⟨#[g]⟩:Str)).map (·.length)).sum=l.length:=by
 rw[UC (ss:=l.map λg=>(⟨#[g]⟩:Str)) λs hs=>by obtain⟨g,_,rfl⟩:=List.mem_map.mp hs;exact⟨g,rfl⟩,zah]
noncomputable def S1:Str := "abcdfghjklmnopqrstuvwxyz"
noncomputable def S2:Str := "abcdfghjklmnopqrstuvwxyz" ++ "ei"
theorem FK:S1.length=24:=by decide +kernel
theorem PL:S2.length=26:=by decide +kernel
theorem qax:S1.cps.toList.Nodup:=by decide +kernel
theorem Z3:S2.cps.toList.Nodup:=by decide +kernel
theorem O7(h:S.cps.toList.Nodup)(G:0<=i)(J:i<(S.length:Int))(F:0<=j)(M:j<(S.length:Int))(e:sg S i=sg S j):i=j:=by
 have z:i.toNat<S.cps.toList.length:=by rw[zbT];show i.toNat<S.length;lia
 have B:j.toNat<S.cps.toList.length:=by rw[zbT];show j.toNat<S.length;lia
 unfold sg at e;rw[zc3,zaP z,zc3,zaP B]at e;have q:S.cps.toList[i.toNat]=S.cps.toList[j.toNat]:=e;have:=(zdV h).mp q
 lia
def NmP(x n:Int)(s:Str):Prop:=(x%3=0->(s.length:Int)=1+n%8)/\(¬ x%3=0->∃(S:Str) (L a b:Int),((S=S1/\L=24/\¬ 5<1+x/3%8)\/(S=S2/\L=26/\5<1+x/3%8))/\a=x/24%(1+x/3%8)/\b=(x/(31+7*a)+a*a)%L/\s.cps.toList[a.toNat]?=some (sg S ((b+n)%L)))
theorem WR(N:0<=n/\n<=7)(U:0<=m/\m<=7)(a:NmP x n s)(b:NmP x m s):n=m:=by
 by_cases h:x%3=0
 ·have:=a.1 h
  have:=b.1 h
  lia
 ·obtain⟨S,L,p,q,M,rfl,rfl,e⟩:=a.2 h
  obtain⟨W,L',p',Y,F,rfl,rfl,J⟩:=b.2 h;rw[e]at J;have G:=zay J;rcases M with⟨rfl,rfl,z⟩|⟨rfl,rfl,z⟩
  ·rcases F with⟨rfl,rfl,B⟩|⟨rfl,rfl,B⟩
   ·generalize (x/(31+7*(x/24%(1+x/3%8)))+x/24%(1+x/3%8)*(x/24%(1+x/3%8)))%24=q at G
    have l:=FK;have:=O7 qax (zat _ (by decide)) (by rw[l];exact zav _ (by decide)) (zat _ (by decide)) (by rw[l];exact zav _ (by decide)) G
    lia
   ·exact absurd B z
  ·rcases F with⟨rfl,rfl,B⟩|⟨rfl,rfl,B⟩
   ·exact absurd z B
   ·generalize (x/(31+7*(x/24%(1+x/3%8)))+x/24%(1+x/3%8)*(x/24%(1+x/3%8)))%26=q at G
    have l:=PL;have:=O7 Z3 (zat _ (by decide)) (by rw[l];exact zav _ (by decide)) (zat _ (by decide)) (by rw[l];exact zav _ (by decide)) G
    lia
theorem qK(h0:0<=n)(h1:n<=1000):∃s:Str,cF [.int c,.int n]=some (.str s)/\NmP (c%10^9) n s:=by
 suffices h:∃d,cF [.int c,.int n]=some d/\∃s:Str,d=.str s/\NmP (c%10^9) n s by
  obtain⟨d,e,s,rfl,h⟩:=h;exact⟨s,e,h⟩
 refine dZ ?_;unfold sU;have c0:=zat c (show(10^9:Int)≠0 by decide);have c1:=zav c (show(0:Int)<10^9 by decide);rw[aH (aN (d:=.int (c%10^9)) (by ac_rfl))];generalize c%10^9=x at c0 c1;have m0:=zat (x/3) (show(8:Int)≠0 by decide);have m1:=zav (x/3) (show(0:Int)<8 by decide);rw[aH (aN (d:=.int (1+x/3%8)) (by ac_rfl))];generalize hm:1+x/3%8=many;rw[aH (aN (d:=.str "abcdfghjklmnopqrstuvwxyz") (by simp_all))];refine gJ (λρ=>∃(S:Str) (L:Int),(S.length:Int)=L/\24<=L/\L<=26/\(x%3=0\/(S=S1/\L=24/\¬ 5<many)\/(S=S2/\L=26/\5<many))/\ρ=[some (.int x),some (.int n),some (.int many),some (.str S),none,none]) ?_ ?_
 ·have x0:=zat x (show(3:Int)≠0 by decide)
  by_cases J:0<x%3
  ·by_cases h5:5<many
   ·refine⟨_,?_,S2,26,by rw[PL];rfl,by decide,by decide,.inr (.inr ⟨rfl,rfl,h5⟩),rfl⟩
    have z:a7 (("abcdfghjklmnopqrstuvwxyz" : Str).length+("ei" : Str).length)=true:=by decide
    ac_rfl
   ·exact⟨_,by ac_rfl,S1,24,by rw[FK];rfl,by decide,by decide,.inr (.inl ⟨rfl,rfl,h5⟩),rfl⟩
  ·exact⟨_,by ac_rfl,S1,24,by rw[FK];rfl,by decide,by decide,.inl (by lia),rfl⟩
 ·rintro ρ ⟨S,L,ab,s1,s2,hS,rfl⟩
  have sL:fV [.str S]=some (.int L):=by rw[<- ab];exact if_pos (decide_eq_true (by lia))
  have sp:(0:Int)<L:=by lia
  have sl:(S.length:Int)=L:=ab;have r8:bZ [.int 8]=some (aU 0 1 8):=cE (n:=8) (by decide);have el:bE (aR 0) fH (bC dM (bC eY (bC iU (aD 1) (bC eY (eC (.int 31)) (bC cS (eC (.int 7)) (aD 0)))) (bC cS (aD 0) (aD 0))) (aT fV (aC (aD 2) aZ))) (aU 0 1 8) [none,some (.int x),some (.str S)]=some (((zas 8).map λ(k:Nat)=>(x/(31+7*(k:Int))+(k:Int)*(k:Int))%L).map .int):=by
   have:=lA (K:=8) (f:=bC dM (bC eY (bC iU (aD 1) (bC eY (eC (.int 31)) (bC cS (eC (.int 7)) (aD 0)))) (bC cS (aD 0) (aD 0))) (aT fV (aC (aD 2) aZ))) (rest:=[some (.int x),some (.str S)]) (F:=λi=>.int ((x/(31+7*i)+i*i)%L)) (λi i0 i1=>by
    have q1:cS (.int 7) (.int i)=some (.int (7*i)):=b8 (by decide +kernel) (by decide +kernel) (by lia) (by lia);have q2:cS (.int i) (.int i)=some (.int (i*i)):=b8 (by lia) (by lia) (by lia) (by lia);have q3:iU (.int x) (.int (31+7*i))=some (.int (x/(31+7*i))):=iS (by lia) (by lia)
    ac_rfl) (zas 8) none λk hk=>List.mem_range.mp hk
   rw[zaq];have er:aU 0 1 8=(zas 8).map λ(k:Nat)=>D.int (k:Int):=by
    rw[gH,zaq];rfl
   rw[er];exact this
  have Y:∀i∈(zas 8).map λ(k:Nat)=>(x/(31+7*(k:Int))+(k:Int)*(k:Int))%L,0<=i/\i<L:=λi hi=>by
   obtain⟨k,_,rfl⟩:=List.mem_map.mp hi;exact⟨zat _ (zaQ sp),zav _ sp⟩
  have U:∀a:Int,0<=a->a<8->((zas 8).map λ(k:Nat)=>(x/(31+7*(k:Int))+(k:Int)*(k:Int))%L)[a.toNat]?=some ((x/(31+7*a)+a*a)%L):=λa a0 a8=>by
   obtain⟨j,rfl⟩:∃j:Nat,a=(j:Int):=⟨a.toNat,by lia⟩;rw[zbA,zaA,zcV (by lia)];rfl
  have N:((zas 8).map λ(k:Nat)=>(x/(31+7*(k:Int))+(k:Int)*(k:Int))%L).length=8:=by simp_all
  rw[aH (aN (d:=.lst (((zas 8).map λ(k:Nat)=>(x/(31+7*(k:Int))+(k:Int)*(k:Int))%L).map .int)) (by
   simp only[q_comp,q_lR,q_lcons,q_lnil,q_c,aA,r8,bI,a7,jW];exact congrArg (Option.map D.lst) el))]
  generalize ((zas 8).map λ(k:Nat)=>(x/(31+7*(k:Int))+(k:Int)*(k:Int))%L)=is at Y U N;refine gJ (λρ=>∃(q:List Int) (m:Int) (o:Option D),0<=m/\m<=8/\q.length=8/\(∀j∈q,0<=j/\j<L)/\(x%3=0->m=1+n%8)/\(¬ x%3=0->m=many/\q[(x/24%many).toNat]?=some (((x/(31+7*(x/24%many))+(x/24%many)*(x/24%many))%L+n)%L))/\ρ=[some (.int x),some (.int n),some (.int m),some (.str S),some (.lst (q.map .int)),o]) ?_ ?_
  ·have put:∀k y:Int,0<=k->k<8->(is.set k.toNat (y%L)).length=8/\(∀j∈is.set k.toNat (y%L),0<=j/\j<L)/\nE (.lst (is.map .int)) (.int k) (.int (y%L))=some (.lst ((is.set k.toNat (y%L)).map .int)):=λk y k0 k8=>by
    refine⟨by simp_all[N],λj M=>?_,?_⟩
    ·rcases List.mem_or_eq_of_mem_set M with z|z
     ·exact Y j z
     ·rw[z];exact⟨zat _ (zaQ sp),zav _ sp⟩
    ·rw[nB k0 (by simp_all[N];lia),List.map_set]
   by_cases J:x%3=0
   ·have n0:=zat n (show(8:Int)≠0 by decide)
    have n1:=zav n (show(0:Int)<8 by decide);obtain⟨v,hv,_⟩:=gO (ns:=is) (k:=1+n%8-1) (by lia) (by rw[N];lia);obtain⟨j8,M,ej⟩:=put (1+n%8-1) (v+n/8) (by lia) (by lia);refine⟨_,?_,is.set (1+n%8-1).toNat ((v+n/8)%L),1+n%8,none,by lia,by lia,j8,M,λ_=>rfl,λz=>absurd J z,rfl⟩
    ac_rfl
   ·have W:0<many:=by lia
    have a0:=zat (x/24) (zaQ W);have a1:=zav (x/24) W;have ha:=U (x/24%many) a0 (by lia);obtain⟨v,hv,B⟩:=gO (ns:=is) (k:=x/24%many) a0 (by rw[N];lia);rw[ha]at B;have af:=zay B;obtain⟨j8,M,ej⟩:=put (x/24%many) (v+n) a0 (by lia);refine⟨_,?_,is.set (x/24%many).toNat ((v+n)%L),many,some (.int (x/24%many)),by lia,by lia,j8,M,λz=>absurd z J,λ_=>⟨rfl,?_⟩,rfl⟩
    ·ac_rfl
    ·rw[zcz (by rw[N];lia),af]
  ·rintro ρ ⟨q,m,o,m0,m8,j8,M,hA,hB,rfl⟩
   have rm:bZ [.int m]=some (aU 0 1 m.toNat):=eL m0 (by lia);have ed:=lA (K:=m.toNat) (f:=bC aI (aD 1) (bC aI (aD 2) (aD 0))) (rest:=[some (.str S),some (.lst (q.map .int))]) (F:=λi=>.str ⟨#[sg S (q.getD i.toNat 0)]⟩) (λi i0 i1=>by
    obtain⟨v,hv,B⟩:=gO (ns:=q) (k:=i) i0 (by rw[j8];lia);have b:=M v (zaw B);have e:q.getD i.toNat 0=v:=by rw[zc3,B];rfl
    have a3:=TF (z:=S) (by lia) b.1 (by rw[sl];exact b.2);rw[e]
    ac_rfl) (zas m.toNat) none λk hk=>List.mem_range.mp hk
   have er:aU 0 1 m.toNat=(zas m.toNat).map λ(k:Nat)=>D.int (k:Int):=by
    rw[gH,zaq];rfl
   have es:((zas m.toNat).map λ(k:Nat)=>D.str ⟨#[sg S (q.getD ((k:Int)).toNat 0)]⟩)=(((zas m.toNat).map λ(k:Nat)=>sg S (q.getD k 0)).map λg=>(⟨#[g]⟩:Str)).map .str:=by
    rw[zaq,zaq];rfl
   rw[<- er,es]at ed;have hl:((zas m.toNat).map λ(k:Nat)=>sg S (q.getD k 0)).length=m.toNat:=by simp_all
   have G:∀a:Int,0<=a->a<m->((zas m.toNat).map λ(k:Nat)=>sg S (q.getD k 0))[a.toNat]?=some (sg S (q.getD a.toNat 0)):=λa a0 am=>by
    rw[zaA,zcV (by lia)];rfl
   generalize ((zas m.toNat).map λ(k:Nat)=>sg S (q.getD k 0))=gs at ed hl G;have jn:=Y0 (sep := "") (ss:=gs.map λg=>(⟨#[g]⟩:Str)) (by
    rw[NQ,zah];show gs.length+gs.length*0<=_
    lia)
   rw[NS]at jn;have zz:a7 m.toNat=true:=decide_eq_true (by lia);have jo:=join_ones gs;generalize (gs.map λg=>(⟨#[g]⟩:Str))=ss at ed jn jo;refine⟨.str (zcJ "" ss),?_,_,rfl,λJ=>?_,λJ=>?_⟩
   ·simp_all[rm,bI,zz,jW,ed,jn]
   ·have e1:=hA J
    have:(zcJ "" ss).length=m.toNat:=by
     show(zcJ "" ss).cps.size=_;rw[<- zbT,jo,hl]
    lia
   ·obtain⟨em,ej⟩:=hB J
    have aa:(S=S1/\L=24/\¬ 5<many)\/(S=S2/\L=26/\5<many):=hS.resolve_left J;have W:0<many:=by lia
    have a0:=zat (x/24) (zaQ W);have a1:=zav (x/24) W;rw[<- hm]at aa em ej a0 a1;refine⟨S,L,_,_,aa,rfl,rfl,?_⟩;rw[jo,G _ a0 (by lia),zc3,ej];rfl
theorem tT(q:0<=n)(h1:n<=1000):∃s:Str,cF [.int c,.int n]=some (.str s):=by
 obtain⟨s,h,_⟩:=qK (c:=c) q h1;exact⟨s,h⟩
theorem UK(c:Int):∃f:Int->Str,(∀n,0<=n->n<=7->cF [.int c,.int n]=some (.str (f n)))/\∀n m,(0<=n/\n<=7)->(0<=m/\m<=7)->f n=f m->n=m:=by
 have h:∀n:Int,∃s:Str,0<=n->n<=7->cF [.int c,.int n]=some (.str s)/\NmP (c%10^9) n s:=λn=>by
  by_cases F:0<=n/\n<=7
  ·obtain⟨s,e,p⟩:=qK (c:=c) (n:=n) F.1 (by lia)
   exact⟨s,λ_ _=>⟨e,p⟩⟩
  ·exact⟨"",λa b=>absurd ⟨a,b⟩ F⟩
 refine⟨λn=>(h n).choose,λn a b=>((h n).choose_spec a b).1,λn m B z e=>?_⟩;have p:=((h n).choose_spec B.1 B.2).2;have q:=((h m).choose_spec z.1 z.2).2;have G:(h n).choose=(h m).choose:=e;rw[G]at p;exact WR B z p q
theorem qW(F:0<=c)(h1:c<10^61):∃p:Int,kO [.int c]=some (.int p)/\0<=p/\p<=10^30:=by
 have B:(10:Int)^30=1000000000000000000000000000000:=by decide +kernel
 by_cases h:c%2=0
 ·have a:=zat (c/2) (show(3:Int)≠0 by decide)
  have b:=zav (c/2) (show(0:Int)<3 by decide);exact⟨c/2%3,aF (by simp_all[kT,aE,bO,iS,h]),a,by lia⟩
 ·have q:cS (.int (c/2)) (.int 982451653)=some (.int (c/2*982451653)):=b8 (by lia) (by lia) (by decide +kernel) (by decide +kernel)
  have a:=zat (c/2*982451653) (show(1000000000000000000000000000000:Int)≠0 by decide);have b:=zav (c/2*982451653) (show(0:Int)<1000000000000000000000000000000 by decide);have pw:QT (.int 10) (.int 30)=some (.int 1000000000000000000000000000000):=IM (by decide) (by decide) (by decide);have z:dM (.int (c/2*982451653)) (.int 1000000000000000000000000000000)=some (.int (c/2*982451653%1000000000000000000000000000000)):=bO (by decide);exact⟨_,aF (by simp_all[kT,aE,bO,iS,h,q,pw,z]),a,by lia⟩
theorem tX(Y:3<=M)(h0:0<=c)(h1:c<10^60):∃r:Ro,mM [.int c,.int M,.int j,.int k]=some (lY r)/\r.j=j/\r.k=k/\((0<=r.a/\r.a<M)/\0<=r.b/\r.b<M)/\0<=r.p/\r.p<=10^30:=by
 suffices h:∃d,mM [.int c,.int M,.int j,.int k]=some d/\∃r:Ro,d=lY r/\r.j=j/\r.k=k/\((0<=r.a/\r.a<M)/\0<=r.b/\r.b<M)/\0<=r.p/\r.p<=10^30 by
  obtain⟨d,e,r,rfl,h⟩:=h;exact⟨r,e,h⟩
 have J:=Ten
 have q:0<M:=by lia
 refine dZ ?_;unfold sT;have m1:cS (.int (c/40+1)) (.int 48271)=some (.int ((c/40+1)*48271)):=b8 (by lia) (by lia) (by decide +kernel) (by decide +kernel);have m2:cS (.int (c/640)) (.int 69621)=some (.int (c/640*69621)):=b8 (by lia) (by lia) (by decide +kernel) (by decide +kernel);have a0:=zat ((c/40+1)*48271) (zaQ q);have B:=zav ((c/40+1)*48271) q;have z:=zat (c/9+c/640*69621) (zaQ q);have F:=zav (c/9+c/640*69621) q;rw[aH (aN (d:=.int ((c/40+1)*48271%M)) (by ac_rfl))];rw[aH (aN (d:=.int ((c/9+c/640*69621)%M)) (by ac_rfl))];generalize (c/40+1)*48271%M=a at a0 B;generalize (c/9+c/640*69621)%M=b at z F;refine gJ (λρ=>∃a:Int,(0<=a/\a<M)/\ρ=[some (.int c),some (.int M),some (.int j),some (.int k),some (.int a),some (.int b)]) ?_ ?_
 ·by_cases h:c%5=0
  ·exact⟨_,by ac_rfl,1,⟨by decide,by lia⟩,rfl⟩
  ·exact⟨_,by ac_rfl,a,⟨a0,B⟩,rfl⟩
 ·rintro ρ ⟨a,N,rfl⟩
  refine gJ (λρ=>∃b:Int,(0<=b/\b<M)/\ρ=[some (.int c),some (.int M),some (.int j),some (.int k),some (.int a),some (.int b)]) ?_ ?_
  ·by_cases h:c%3=0
   ·exact⟨_,by ac_rfl,0,⟨by decide,by lia⟩,rfl⟩
   ·exact⟨_,by ac_rfl,b,⟨z,F⟩,rfl⟩
  ·rintro ρ ⟨b,G,rfl⟩
   obtain⟨p,ep,W,U⟩:=qW (c:=c/16) (by lia) (by lia);exact⟨lY ⟨j,k,a,b,p⟩,by simp_all[iS,ep,lY],_,rfl,rfl,rfl,⟨N,G⟩,W,U⟩
theorem AG{ns:List Int}{M many:Int}(hM:3<=M)(hm:1<=many/\many<=6):∃rs:List Ro,kG [.lst (ns.map .int),.int M,.int many]=some (.tup (rs.map lY))/\GR M many rs:=by
 suffices h:∃d,kG [.lst (ns.map .int),.int M,.int many]=some d/\∃rs:List Ro,d=.tup (rs.map lY)/\GR M many rs by
  obtain⟨d,e,r,rfl,h⟩:=h;exact⟨r,e,h⟩
 obtain⟨f,hf⟩:=dS ns;have f2:=(hf 2 (by decide) (by decide)).1;refine dZ ?_;unfold qZ;rw[aH (aN (d:=.int (f 2)) (by ac_rfl))];generalize f 2=c2;rw[aH (aN (d:=.lst []) (by simp_all))];have z0:=zat c2 (show(7:Int)≠0 by decide);have z1:=zav c2 (show(0:Int)<7 by decide);refine jP (items:=aU 0 1 (c2%7).toNat) (by simp_all[aE,bO,eL z0 (show c2%7<=1000000 by lia)]) (λi ρ=>∃(rs:List Ro) (W Y J G:Option D),ρ=[some (.lst (ns.map .int)),some (.int M),some (.int many),some (.int c2),some (.lst (rs.map lY)),W,Y,J,G]/\rs.length<=i/\i<=6/\GR M many rs) ⟨[],none,none,none,none,by ac_rfl,by simp_all,by decide,⟨by simp_all,λ_ h=>(nomatch h),λ_ h=>(nomatch h),λ_ h=>(nomatch h)⟩⟩ ?_ ?_
 ·rintro i x ρ hx ⟨rs,W,Y,J,G,rfl,hl,hi,g⟩
  obtain⟨aj,rfl⟩:=b7 hx;have hI:0<=(0:Int)+(i:Int)*1/\(0:Int)+(i:Int)*1<=6:=by lia
  generalize (0:Int)+(i:Int)*1=I at hI;have B:=hf (3+I) (by lia) (by lia);generalize f (3+I)=near at B;have f1:=B.1;by_cases h1:1<many
  ·have F:0<many-1:=by lia
   have j0:=zat near (zaQ F);have j1:=zav near F;have dj:dM (.int near) (.int (many-1))=some (.int (near%(many-1))):=bO F;generalize near%(many-1)=j at j0 j1 dj;have N:0<many-1-j:=by lia
   have k0:=zat (near/8) (zaQ N);have k1:=zav (near/8) N;have dk:dM (.int (near/8)) (.int (many-1-j))=some (.int (near/8%(many-1-j))):=bO N;generalize near/8%(many-1-j)=k at k0 k1 dk;have u0:=zat I (zaQ F);have u1:=zav I F;have du:dM (.int I) (.int (many-1))=some (.int (I%(many-1))):=bO F;generalize I%(many-1)=u at u0 u1 du;have hz:(rs.map lY).length<=1000000:=by rw[zah];lia
   have dg:DD (.int many) (.int 1)=some (.bl true):=by simp_all[h1]
   have me:∀r,(rs++[r]).map lY=rs.map lY++[lY r]:=λr=>by simp_all
   have fin:∀r:Ro,(0<=r.j/\r.j<r.k/\r.k<many)->((0<=r.a/\r.a<M)/\0<=r.b/\r.b<M)->(0<=r.p/\r.p<=10^30)->GR M many (rs++[r]):=λr a b c=>by
    have app:∀ {P:Ro->Prop},(∀r∈rs,P r)->P r->∀y∈rs++[r],P y:=λh1 h2 y hy=>by
     rcases List.mem_append.mp hy with z|z
     ·exact h1 y z
     ·rw[List.mem_singleton.mp z];exact h2
    exact⟨by simp_all;lia,app g.jk a,app g.ab b,app g.pr c⟩
   by_cases h2:c2/7%2=1
   ·obtain⟨r,er,rj,rk,q,U⟩:=tX (c:=near) (M:=M) (j:=u) (k:=u+1) hM B.2.1 B.2.2
    refine⟨[some (.lst (ns.map .int)),some (.int M),some (.int many),some (.int c2),some (.lst ((rs++[r]).map lY)),some (.int I),some (.int near),some (.int u),some (.int (u+1))],?_,_,_,_,_,_,rfl,by simp_all;lia,by lia,fin r (by lia) q U⟩;have de:iG (.int (c2/7%2)) (.int 1)=some (.bl true):=by simp_all[h2]
    rw[me]
    ac_rfl
   ·obtain⟨r,er,rj,rk,q,U⟩:=tX (c:=near) (M:=M) (j:=j) (k:=j+1+k) hM B.2.1 B.2.2
    refine⟨[some (.lst (ns.map .int)),some (.int M),some (.int many),some (.int c2),some (.lst ((rs++[r]).map lY)),some (.int I),some (.int near),some (.int j),some (.int (j+1+k))],?_,_,_,_,_,_,rfl,by simp_all;lia,by lia,fin r (by lia) q U⟩;have de:iG (.int (c2/7%2)) (.int 1)=some (.bl false):=by simp_all[h2]
    rw[me]
    ac_rfl
  ·refine⟨[some (.lst (ns.map .int)),some (.int M),some (.int many),some (.int c2),some (.lst (rs.map lY)),some (.int I),some (.int near),J,G],?_,rs,_,_,_,_,rfl,by lia,by lia,g⟩
   have dg:DD (.int many) (.int 1)=some (.bl false):=by simp_all[h1]
   ac_rfl
 ·rintro ρ ⟨rs,W,Y,J,G,rfl,hl,hi,g⟩
  exact⟨_,by simp_all,rs,rfl,g⟩
theorem qS(hM:3<=M)(J:0<=c)(h1:c<10^60):∃l,kJ [.int c,.int M,.int n]=some (.tup l):=by
 suffices h:∃d,kJ [.int c,.int M,.int n]=some d/\∃l,d=.tup l by
  obtain⟨d,e,l,rfl⟩:=h;exact⟨l,e⟩
 have ab:=Ten
 have Mp:0<M:=by lia
 refine dZ ?_;unfold rA;have r3:bZ [.int 3]=some [.int 0,.int 1,.int 2]:=rfl;have s3:a7 3=true:=rfl;have W:a7 9=true:=rfl;rw[aH (aN (d:=.lst [.tup [.int 0],.tup [.int 1],.tup [.int 2]]) (by ac_rfl))];refine gJ (λρ=>∃es:List D,1<=es.length/\es.length<=9/\ρ=[some (.int c),some (.int M),some (.int n),some (.lst es),none,none,none,none]) ?_ ?_
 ·by_cases h:n=2
  ·subst h
   obtain⟨es,Y,le,_⟩:=yY (f:=fK (aC (bC iU (aD 0) (eC (.int 3))) (aC (bC dM (aD 0) (eC (.int 3))) aZ))) (rest:=[]) (R:=λ_=>True) (aU 0 1 9) none λa ha=>by
    obtain⟨i,rfl,i0,i1⟩:=wK ha;exact⟨.tup [.int (i/3),.int (i%3)],by ac_rfl,trivial⟩
   have r9:bZ [.int 9]=some (aU 0 1 9):=cE (n:=9) (by decide);rw[bI]at le;exact⟨[some (.int c),some (.int M),some (.int 2),some (.lst es),none,none,none,none],by simp_all[aE,r9,W,jW,bI,Y],es,by lia,by lia,rfl⟩
  ·exact⟨_,by ac_rfl,[.tup [.int 0],.tup [.int 1],.tup [.int 2]],by simp_all,by simp_all,rfl⟩
 ·rintro ρ ⟨es,e1,e9,rfl⟩
  rw[aH (aN (d:=.lst []) (by simp_all))];refine jP (items:=aU 0 1 es.length) (by simp_all[cE (show es.length<=1000000 by lia)]) (λi ρ=>∃(l:List D) (B F G:Option D),ρ=[some (.int c),some (.int M),some (.int n),some (.lst es),some (.lst l),B,F,G]/\l.length<=i) ⟨[],none,none,none,by simp_all,by simp_all⟩ ?_ ?_
  ·rintro i x ρ hx ⟨l,B,F,G,rfl,N⟩
   obtain⟨ad,rfl⟩:=b7 hx;have e0:(0:Int)+(i:Int)*1=(i:Int):=by lia
   rw[e0];have hI:(i:Int)<=9:=by lia
   obtain⟨d,_,_,ed⟩:=vO (l:=es) (k:=(i:Int)) (by lia) (by lia);have q:(0:Int)<=(i:Int):=by lia
   generalize (i:Int)=I at hI ed q;have m1:cS (.int I) (.int I)=some (.int (I*I)):=b8 (by lia) (by lia) (by lia) (by lia);have b1:=E8 (show -(100:Int)<I by lia) (show I<100 by lia) (show -(100:Int)<I by lia) (show I<100 by lia);have d1:iU (.int c) (.int (I+2))=some (.int (c/(I+2))):=iS (by lia) (by lia);have c0:0<=c/(I+2):=Int.ediv_nonneg J (by lia);have U:c/(I+2)<=c:=Int.ediv_le_self _ J;generalize c/(I+2)=y at d1 c0 U;generalize I*I=z at m1 b1;have m2:cS (.int ((y+z)/3+1)) (.int 48271)=some (.int (((y+z)/3+1)*48271)):=b8 (by lia) (by lia) (by decide +kernel) (by decide +kernel);have hz:a7 l.length=true:=decide_eq_true (by lia);by_cases a1:0<(y+z)%3
   ·by_cases a2:0<((y+z)/3+1)*48271%M
    ·refine⟨[some (.int c),some (.int M),some (.int n),some (.lst es),some (.lst (l++[.tup [d,.int (((y+z)/3+1)*48271%M)]])),some (.int I),some (.int (y+z)),some (.int (((y+z)/3+1)*48271%M))],?_,_,_,_,_,rfl,by simp_all;lia⟩
     ac_rfl
    ·refine⟨[some (.int c),some (.int M),some (.int n),some (.lst es),some (.lst l),some (.int I),some (.int (y+z)),some (.int (((y+z)/3+1)*48271%M))],?_,_,_,_,_,rfl,by lia⟩
     ac_rfl
   ·refine⟨[some (.int c),some (.int M),some (.int n),some (.lst es),some (.lst l),some (.int I),some (.int (y+z)),some (.int (((y+z)/3+1)*48271%M))],?_,_,_,_,_,rfl,by lia⟩
    ac_rfl
  ·rintro ρ ⟨l,B,F,G,rfl,N⟩
   exact⟨_,by simp_all,l,rfl⟩
structure OkMs(many:Int)(ms:List Mk):Prop where
 tk:∀m∈ms,(∃t,m.takes=[t])\/∃t u,m.takes=[t,u]
 tb:∀m∈ms,∀t∈m.takes,0<=t/\t<many
 gb:∀m∈ms,0<=m.g/\m.g<many
theorem AQ{ns:List Int}{M many:Int}(hM:3<=M)(hm:1<=many/\many<=6):∃ms:List Mk,kP [.lst (ns.map .int),.int M,.int many]=some (.tup (ms.map j7))/\OkMs many ms/\ms.length<=6:=by
 suffices h:∃d,kP [.lst (ns.map .int),.int M,.int many]=some d/\∃ms:List Mk,d=.tup (ms.map j7)/\OkMs many ms/\ms.length<=6 by
  obtain⟨d,e,r,rfl,h⟩:=h;exact⟨r,e,h⟩
 have ae:=Ten
 have ap:(10:Int)^61=10000000000000000000000000000000000000000000000000000000000000:=by decide +kernel
 obtain⟨f,U⟩:=dS ns;have f9:=(U 9 (by decide) (by decide)).1;have al:=(U 15 (by decide) (by decide)).1;have N:0<many:=by lia
 refine dZ ?_;unfold qJ;rw[aH (aN (d:=.int (f 9)) (by ac_rfl))];generalize f 9=c9;rw[aH (aN (d:=.lst []) (by simp_all))];have z0:=zat c9 (show(6:Int)≠0 by decide);have z1:=zav c9 (show(0:Int)<6 by decide);refine jP (items:=aU 0 1 (c9%6).toNat) (by simp_all[aE,bO,eL z0 (show c9%6<=1000000 by lia)]) (λi ρ=>∃(ms:List Mk) (W Y G B F:Option D),ρ=[some (.lst (ns.map .int)),some (.int M),some (.int many),some (.int c9),some (.lst (ms.map j7)),W,Y,G,B,F]/\ms.length=i/\i<=6/\OkMs many ms) ⟨[],none,none,none,none,none,by ac_rfl,rfl,by decide,⟨λ_ h=>(nomatch h),λ_ h=>(nomatch h),λ_ h=>(nomatch h)⟩⟩ ?_ ?_
 ·rintro i x ρ hx ⟨ms,W,Y,G,B,F,rfl,J,hi,K⟩
  obtain⟨ag,rfl⟩:=b7 hx;have hI:0<=(0:Int)+(i:Int)*1/\(0:Int)+(i:Int)*1<=6:=by lia
  generalize (0:Int)+(i:Int)*1=I at hI;have fI:=U (10+I) (by lia) (by lia);generalize f (10+I)=near at fI;have hz:(ms.map j7).length<=1000000:=by rw[zah];lia
  have n0:=zat (near/2) (show(3:Int)≠0 by decide);have n1:=zav (near/2) (show(0:Int)<3 by decide);obtain⟨nm,af⟩:=tT (c:=f 15) (n:=near/2%3/2) (by lia) (by lia);obtain⟨p,ep,p0,p1⟩:=qW (c:=near/17) (by lia) (by lia);have q:∀y:Int,0<=y%many/\y%many<many:=λy=>⟨zat _ (zaQ N),zav _ N⟩
  have fin:∀m:Mk,((∃t,m.takes=[t])\/∃t u,m.takes=[t,u])->(∀t∈m.takes,0<=t/\t<many)->(0<=m.g/\m.g<many)->OkMs many (ms++[m]):=λm a b c=>by
   have app:∀ {P:Mk->Prop},(∀r∈ms,P r)->P m->∀y∈ms++[m],P y:=λh1 h2 y hy=>by
    rcases List.mem_append.mp hy with z|z
    ·exact h1 y z
    ·rw[List.mem_singleton.mp z];exact h2
   exact⟨app K.tk a,app K.tb b,app K.gb c⟩
  have ht:∃t u:Int,(0<=t/\t<many)/\(0<=u/\u<many)/\dA (eE 7 (fK (aC (bC dM (bC eY (aD 5) (bC iU (aD 3) (eC (.int 6)))) (aD 2)) (aC (bC dM (bC iU (aD 6) (eC (.int 6))) (aD 2)) aZ)))) (zX (rK (bC iG (bC dM (bC iU (aD 6) (eC (.int 36))) (eC (.int 3))) (eC (.int 0)))) (eE 7 (fK (aC (bC dM (bC iU (aD 6) (eC (.int 7))) (aD 2)) (aC (bC dM (bC iU (aD 6) (eC (.int 6))) (aD 2)) aZ)))) VF) [some (.lst (ns.map .int)),some (.int M),some (.int many),some (.int c9),some (.lst (ms.map j7)),some (.int I),some (.int near),G,B,F]=some (.nx [some (.lst (ns.map .int)),some (.int M),some (.int many),some (.int c9),some (.lst (ms.map j7)),some (.int I),some (.int near),some (.tup [.int t,.int u]),B,F]):=by
   by_cases h3:near/36%3=0
   ·exact⟨near/7%many,near/6%many,q _,q _,by ac_rfl⟩
   ·exact⟨(I+c9/6)%many,near/6%many,q _,q _,by ac_rfl⟩
  obtain⟨t,u,tb,ub,et⟩:=ht;have es:∀ {g h k:Sv} {ρ:cX},dA g (dA h k) ρ=dA (dA g h) k ρ:=by
   intro g h k ρ;unfold dA;cases g ρ with
   | none=>rfl
   | some o=>cases o <;> rfl
  have f1:=fI.1;have dm:dM (.int (near/12)) (.int many)=some (.int (near/12%many)):=bO N;by_cases h2:near%2=0
  ·obtain⟨l,el⟩:=qS (c:=near/5) (M:=M) (n:=1) hM (by lia) (by lia)
   refine⟨[some (.lst (ns.map .int)),some (.int M),some (.int many),some (.int c9),some (.lst ((ms++[(⟨nm,[t],near/12%many,.tup l,p⟩:Mk)]).map j7)),some (.int I),some (.int near),some (.tup [.int t]),some (.str nm),some (.tup l)],?_,_,_,_,_,_,_,rfl,by simp_all[J],by lia,fin _ (.inl ⟨t,rfl⟩) (by simpa using tb) (q _)⟩;show(aR 5 _ _).bind _=_;rw[q_name,aA,aH (aN (d:=.int near) (by ac_rfl)),es,aH (by exact et)];have de:iG (.int (near%2)) (.int 0)=some (.bl true):=by simp_all[h2]
   have cs:FN (.tup [.int t,.int u]) none (some 1)=some (.tup [.int t]):=rfl;have dl:fV [.tup [.int t]]=some (.int 1):=rfl;rw[show(ms++[(⟨nm,[t],near/12%many,.tup l,p⟩:Mk)]).map j7=ms.map j7++[.tup [.str nm,.tup [.int t],.int (near/12%many),.tup l,.int p]] by simp_all[j7,tupI]]
   ac_rfl
  ·obtain⟨l,el⟩:=qS (c:=near/5) (M:=M) (n:=2) hM (by lia) (by lia)
   refine⟨[some (.lst (ns.map .int)),some (.int M),some (.int many),some (.int c9),some (.lst ((ms++[(⟨nm,[t,u],near/12%many,.tup l,p⟩:Mk)]).map j7)),some (.int I),some (.int near),some (.tup [.int t,.int u]),some (.str nm),some (.tup l)],?_,_,_,_,_,_,_,rfl,by simp_all[J],by lia,fin _ (.inr ⟨t,u,rfl⟩) (by simp_all;exact⟨tb,ub⟩) (q _)⟩;show(aR 5 _ _).bind _=_;rw[q_name,aA,aH (aN (d:=.int near) (by ac_rfl)),es,aH (by exact et)];have de:iG (.int (near%2)) (.int 0)=some (.bl false):=by simp_all[h2]
   have dl:fV [.tup [.int t,.int u]]=some (.int 2):=rfl;rw[show(ms++[(⟨nm,[t,u],near/12%many,.tup l,p⟩:Mk)]).map j7=ms.map j7++[.tup [.str nm,.tup [.int t,.int u],.int (near/12%many),.tup l,.int p]] by simp_all[j7,tupI]]
   ac_rfl
 ·rintro ρ ⟨ms,W,Y,G,B,F,rfl,J,hi,K⟩
  exact⟨_,by simp_all,ms,rfl,K,by lia⟩
theorem ET(ns:List Int):∃C:Bk,mJ [.lst (ns.map .int)]=some (a9 C)/\OkB C:=by
 suffices h:∃d,mJ [.lst (ns.map .int)]=some d/\∃C:Bk,d=a9 C/\OkB C by
  obtain⟨d,e,C,rfl,h⟩:=h;exact⟨C,e,h⟩
 obtain⟨f,F⟩:=dS ns;have f0:=(F 0 (by decide) (by decide)).1;have f1:=(F 1 (by decide) (by decide)).1;have ad:=(F 16 (by decide) (by decide)).1;refine dZ ?_;unfold tL;generalize f 0=c at f0;rw[aH (aN (d:=.int c) (by ac_rfl))];have B:(10:Int)^59=100000000000000000000000000000000000000000000000000000000000:=by decide +kernel
 have ag:=Ten
 have w0:=zat (c/4) (show(10^59:Int)≠0 by decide +kernel);have w1:=zav (c/4) (show(0:Int)<10^59 by decide +kernel);have Y:dM (.int (c/4)) (.int (10^59))=some (.int (c/4%10^59)):=bO (by decide +kernel);generalize c/4%10^59=w at w0 w1 Y;have mw:cS (.int 2) (.int w)=some (.int (2*w)):=b8 (by decide +kernel) (by decide +kernel) (by lia) (by lia);have pw:QT (.int 10) (.int 59)=some (.int (10^59)):=IM (by decide) (by decide) (by decide);rw[B]at Y pw;rw[aH (aN (d:=.int (3+2*w)) (by ac_rfl))];refine gJ (λρ=>∃M:Int,3<=M/\M<10^60/\ρ=[some (.lst (ns.map .int)),some (.int c),some (.int M),none,none]) ?_ ?_
 ·by_cases hc:c%4=0
  ·have v0:=zat (c/4) (show(4:Int)≠0 by decide)
   have v1:=zav (c/4) (show(0:Int)<4 by decide);have mv:cS (.int 2) (.int (c/4%4))=some (.int (2*(c/4%4))):=b8 (by decide +kernel) (by decide +kernel) (by lia) (by lia);exact⟨_,by ac_rfl,3+2*(c/4%4),by lia,by lia,rfl⟩
  ·exact⟨_,by ac_rfl,3+2*w,by lia,by lia,rfl⟩
 ·rintro ρ ⟨M,N,G,rfl⟩
  have n0:=zat (f 1) (show(4:Int)≠0 by decide);have n1:=zav (f 1) (show(0:Int)<4 by decide);rw[aH (aN (d:=.int (1+f 1%4)) (by ac_rfl))];refine gJ (λρ=>∃many:Int,(1<=many/\many<=6)/\ρ=[some (.lst (ns.map .int)),some (.int c),some (.int M),some (.int many),none]) ?_ ?_
  ·by_cases h5:f 1/4%8=5
   ·exact⟨_,by ac_rfl,6,by decide,rfl⟩
   ·exact⟨_,by ac_rfl,1+f 1%4,by lia,rfl⟩
  ·rintro ρ ⟨many,U,rfl⟩
   have rm:bZ [.int many]=some (aU 0 1 many.toNat):=eL (by lia) (by lia);obtain⟨ks,ek,W,J⟩:=yY (f:=aT cF (aC (aT bX (aC (aD 1) (aC (eC (.int 16)) aZ))) (aC (aD 0) aZ))) (rest:=[some (.lst (ns.map .int))]) (R:=λd=>∃s:Str,d=.str s) (aU 0 1 many.toNat) none λa ha=>by
    obtain⟨i,rfl,i0,i1⟩:=wK ha;obtain⟨s,hs⟩:=tT (c:=f 16) (n:=i) i0 (by lia);exact⟨_,by ac_rfl,s,rfl⟩
   obtain⟨q,rfl⟩:=GJ J;have al:q.length=many.toNat:=by rw[zah,bI]at W;exact W
   have zz:a7 many.toNat=true:=decide_eq_true (by lia);rw[aH (aN (d:=.tup (q.map .str)) (by simp_all[rm,bI,zz,jW,ek]))];obtain⟨rs,er,gr⟩:=AG (ns:=ns) (M:=M) (many:=many) N U;obtain⟨ms,em,K,ml⟩:=AQ (ns:=ns) (M:=M) (many:=many) N U;have z:(q.length:Int)=many:=by lia
   refine⟨a9 ⟨M,q,rs,ms⟩,by simp_all[er,em,a9],_,rfl,⟨N,G,by show 1<=q.length;lia,by show q.length<=6;lia,?_,K.tk,?_,?_,ml⟩⟩
   ·show GR M (q.length:Int) rs
    rw[z];exact gr
   ·show ∀m∈ms,∀t∈m.takes,0<=t/\t<(q.length:Int)
    rw[z];exact K.tb
   ·show ∀m∈ms,0<=m.g/\m.g<(q.length:Int)
    rw[z];exact K.gb
theorem mU:¬ ("name" : Str) = "use" := by decide
theorem jQ:¬ ("name" : Str) = "let" := by decide
theorem zB:¬ ("name" : Str) = "pick" := by decide
theorem n9:¬ ("name" : Str) = "again" := by decide
theorem lD:¬ ("number" : Str) = "use" := by decide
theorem iA:¬ ("number" : Str) = "let" := by decide
theorem y3:¬ ("number" : Str) = "pick" := by decide
theorem nY:¬ ("number" : Str) = "again" := by decide
theorem pN:¬ ("use" : Str) = "let" := by decide
theorem jL:¬ ("let" : Str) = "use" := by decide
theorem jJ:¬ ("pick" : Str) = "use" := by decide
theorem gR:¬ ("pick" : Str) = "let" := by decide
theorem jM:¬ ("again" : Str) = "use" := by decide
theorem fS:¬ ("again" : Str) = "let" := by decide
theorem rZ:¬ ("again" : Str) = "pick" := by decide
theorem HE{R:D->Prop}(I:Nat->cX->Prop)(J:cX->Prop)(h:∀n ρ,I n ρ->(c ρ=some true/\((∃m ρ',m<n/\b ρ=some (.nx ρ')/\I m ρ')\/∃d,b ρ=some (.rt d)/\R d))\/(c ρ=some false/\J ρ)):∀(fuel n:Nat) (ρ:cX),n<fuel->I n ρ->(∃ρ',fG c b fuel ρ=some (.nx ρ')/\J ρ')\/∃d,fG c b fuel ρ=some (.rt d)/\R d
 | 0,n,ρ,hn,_=>absurd hn (Nat.not_lt_zero n)
 | fuel+1,n,ρ,hn,hi=>by
  rcases h n ρ hi with⟨q,⟨m,ρ',N,z,F⟩|⟨d,z,B⟩⟩|⟨q,G⟩
  ·rcases HE I J h fuel m ρ' (by lia) F with⟨M,e,G⟩|⟨d,e,B⟩
   ·refine .inl ⟨M,?_,G⟩
    unfold fG;rw[q,aA,if_pos rfl,z,aA];exact e
   ·refine .inr ⟨d,?_,B⟩
    unfold fG;rw[q,aA,if_pos rfl,z,aA];exact e
  ·refine .inr ⟨d,?_,B⟩
   unfold fG;rw[q,aA,if_pos rfl,z,aA]
  ·refine .inl ⟨ρ,?_,G⟩
   unfold fG;rw[q,aA,if_neg zaC]
theorem uA{c:Bv}{b rest:Sv}{ρ:cX}{R:D->Prop}(I:Nat->cX->Prop)(J:cX->Prop)(n:Nat)(z:n<100000)(G:I n ρ)(h:∀n ρ,I n ρ->(c ρ=some true/\((∃m ρ',m<n/\b ρ=some (.nx ρ')/\I m ρ')\/∃d,b ρ=some (.rt d)/\R d))\/(c ρ=some false/\J ρ))(k:∀ρ',J ρ'->∃d,rest ρ'=some (.rt d)/\R d):∃d,dA (mZ c b) rest ρ=some (.rt d)/\R d:=by
 rcases HE I J h 100000 n ρ z G with⟨ρ',e,F⟩|⟨d,e,B⟩
 ·have q:mZ c b ρ=some (.nx ρ'):=e
  rw[aH q];exact k ρ' F
 ·have q:mZ c b ρ=some (.rt d):=e
  exact⟨d,uY q,B⟩
theorem FM:aI (a9 C) (.int 1)=some (.tup (C.kinds.map .str)):=by unfold a9;rw[q_itT];exact at1
theorem QM:aI (a9 C) (.int 2)=some (.tup (C.rs.map lY)):=by unfold a9;rw[q_itT];exact at2
theorem v7:aI (a9 C) (.int 3)=some (.tup (C.makes.map j7)):=by unfold a9;rw[q_itT];exact VG
theorem FR:aI (j7 m) (.int 0)=some (.str m.nm):=by unfold j7;rw[q_itT];exact at0
theorem zV:aI (j7 m) (.int 1)=some (tupI m.takes):=by unfold j7;rw[q_itT];exact at1
theorem LJ:aI (j7 m) (.int 2)=some (.int m.g):=by unfold j7;rw[q_itT];exact at2
theorem U6:aI (j7 m) (.int 4)=some (.int m.pr):=by unfold j7;rw[q_itT];exact Q0
theorem qF(n:Nat):aU 0 1 n=((zas n).map λ(j:Nat)=>(j:Int)).map D.int:=by
 unfold aU;rw[zaq];refine List.map_congr_left λa _=>?_
 show D.int _=D.int _;have:(0:Int)+(a:Int)*1=(a:Int):=by lia
 rw[this]
theorem A6{c:Bv}{rest:List (Option D)}{p:Int->Bool}:∀(l:List Int) (o:Option D),(∀n∈l,c (some (.int n)::rest)=some (p n))->bE (aR 0) c (aD 0) (l.map .int) (o::rest)=some ((l.filter p).map .int)
 | [],o,_=>rfl
 | n::l,o,h=>by
  have ih:=A6 (c:=c) (rest:=rest) (p:=p) l (some (.int n)) λm z=>h m (zap _ z)
  have q:=h n (zar ..);cases hp:p n with
  | true=>simp_all[bE,q,hp,ih]
  | false=>simp_all[bE,q,hp,ih]
theorem uB{C:Bk}{i:Int}{get:Ro->Int}{e:Int}(J:∀r,aI (lY r) (.int i)=some (.int (get r)))(o:Option D):∃F:List Int,bE (aR 0) (rK (bC iG (bC aI (bC aI (bC aI (aD 1) (eC (.int 2))) (aD 0)) (eC (.int i))) (aD 2))) (aD 0) (aU 0 1 C.rs.length) [o,some (a9 C),some (.int e)]=some (F.map .int)/\F.length<=C.rs.length/\∀n∈F,∃r,lX C.rs n=some r/\get r=e:=by
 have z:=A6 (c:=rK (bC iG (bC aI (bC aI (bC aI (aD 1) (eC (.int 2))) (aD 0)) (eC (.int i))) (aD 2))) (rest:=[some (a9 C),some (.int e)]) (p:=λn=>match lX C.rs n with|some r=>decide (get r=e)|none=>false) ((zas C.rs.length).map λ(j:Nat)=>(j:Int)) o λn B=>by
  obtain⟨k,G,rfl⟩:=List.mem_map.mp B;have:=List.mem_range.mp G;obtain⟨r,q⟩:=WU (rs:=C.rs) (n:=(k:Int)) (by lia) (by lia);simp_all[QM,u7 q,J,q]
 rw[<- qF]at z;refine⟨_,z,?_,λn B=>?_⟩
 ·refine zaM (zc1 ..) ?_
  rw[zah,zcI];exact zaj _
 ·have:=(List.mem_filter.mp B).2
  cases q:lX C.rs n with
  | none=>simp[-zac,-zab,aA,aB,q]at this
  | some r=>simp[-zac,-zab,aA,aB,q]at this;exact⟨r,rfl,this⟩
theorem D2{C:Bk}(B:OkB C){j c:Int}(Y:0<=j)(j1:j<(C.kinds.length:Int)):∃(e:Int) (w:List Int),mQ [a9 C,.int j,.int c]=some (.tup [.int e,tupI w])/\gw C.rs j w=some e:=by
 suffices h:∃d,mQ [a9 C,.int j,.int c]=some d/\∃(e:Int) (w:List Int),d=.tup [.int e,tupI w]/\gw C.rs j w=some e by
  obtain⟨d,h1,e,w,rfl,h2⟩:=h;exact⟨e,w,h1,h2⟩
 have k6:=B.k6;refine dZ ?_;unfold tW;rw[aH (aN (d:=tupI []) (by ac_rfl))];refine uA (λn ρ=>∃(e c:Int) (w:List Int) (o:Option D),ρ=[some (a9 C),some (.int e),some (.int c),some (tupI w),o]/\gw C.rs j w=some e/\n=(6-e).toNat) (λρ=>∃(e c:Int) (w:List Int) (o:Option D),ρ=[some (a9 C),some (.int e),some (.int c),some (tupI w),o]/\gw C.rs j w=some e) (6-j).toNat (by lia) ⟨j,c,[],none,by ac_rfl,rfl,rfl⟩ ?_ ?_
 ·rintro n ρ ⟨e,c,w,o,rfl,g,hn⟩
  by_cases J:0<c%3
  ·refine .inl ⟨by simp_all[bO,J],?_⟩
   have s:=eB B g Y j1;obtain⟨q,el,ll,N⟩:=uB (C:=C) (i:=0) (get:=(·.j)) (e:=e) (λr=>ZH) none;have W:=B.gr.len;have b2:=@QM C;have rm:bZ [.int ((C.rs.map lY).length:Int)]=some (aU 0 1 C.rs.length):=by rw[zah];exact cE (by lia)
   have zz:(aU 0 1 C.rs.length).length<=1000000:=by rw[bI];lia
   rw[aH (aN (d:=.lst (q.map .int)) (by ac_rfl))];by_cases M:q.length=0
   ·exact .inr ⟨.tup [.int e,tupI w],by simp_all[M],e,w,rfl,g⟩
   ·have z:(0:Int)<(q.length:Int):=by lia
    obtain⟨v,hv,U⟩:=gO (ns:=q) (k:=c/3%(q.length:Int)) (zat _ (zaQ z)) (zav _ z);obtain⟨r,F,G⟩:=N v (zaw U);have up:=(B.gr.jk r (rR F)).2.1;refine .inl ⟨(6-r.k).toNat,[some (a9 C),some (.int r.k),some (.int (c/7)),some (tupI (w++[v])),some (.lst (q.map .int))],?_,?_,r.k,c/7,w++[v],_,rfl,R8 g F G,rfl⟩
    ·have aa:r.j=e:=G
     lia
    ·have ad:eY (tupI w) (.tup [.int v])=some (tupI (w++[v])):=by
      unfold tupI;rw[zaI];exact if_pos (decide_eq_true (show(w.map D.int).length+1<=1000000 by rw[zah];lia))
     have ea:aI (tupI (w++[v])) (.int ((w.length+1:Nat)-1:Int))=some (.int v):=by
      unfold tupI;rw[show((w.length+1:Nat)-1:Int)=(w.length:Int) by lia];exact bV (by simp_all)
     have dl:fV [tupI (w++[v])]=some (.int ((w.length+1:Nat):Int)):=by simp_all[tupI]
     have de:iG (.int ((q.map D.int).length:Int)) (.int 0)=some (.bl false):=by simp_all[M]
     have md:dM (.int (c/3)) (.int ((q.map D.int).length:Int))=some (.int (c/3%(q.length:Int))):=by rw[zah];exact bO z
     have ar:=u7 F;have rk:=@ZI r;rw[aH (ρ':=[some (a9 C),some (.int e),some (.int c),some (tupI w),some (.lst (q.map .int))]) (by ac_rfl)];rw[aH (aN (d:=tupI (w++[v])) (by ac_rfl))];rw[aH (aN (d:=.int r.k) (by ac_rfl))]
     ac_rfl
  ·exact .inr ⟨by simp_all[bO,J],e,c,w,o,rfl,g⟩
 ·rintro ρ ⟨e,c,w,o,rfl,g⟩
  exact⟨_,by simp_all,e,w,rfl,g⟩
theorem MN(q:lX rs n=some r)(h:gw rs r.k w=some f):gw rs r.j (n::w)=some f:=by
 show((lX rs n).bind λs=>if s.j=r.j then gw rs s.k w else none)=_;rw[q];show(if r.j=r.j then gw rs r.k w else none)=_;rw[if_pos rfl];exact h
theorem EI{C:Bk}(B:OkB C){k c:Int}(k0:0<=k)(k1:k<(C.kinds.length:Int)):∃(j:Int) (w:List Int),mF [a9 C,.int k,.int c]=some (.tup [.int j,tupI w])/\gw C.rs j w=some k/\0<=j/\j<(C.kinds.length:Int):=by
 suffices h:∃d,mF [a9 C,.int k,.int c]=some d/\∃(j:Int) (w:List Int),d=.tup [.int j,tupI w]/\gw C.rs j w=some k/\0<=j/\j<(C.kinds.length:Int) by
  obtain⟨d,h1,e,w,rfl,h2⟩:=h;exact⟨e,w,h1,h2⟩
 have k6:=B.k6;refine dZ ?_;unfold t9;rw[aH (aN (d:=tupI []) (by ac_rfl))];refine uA (λn ρ=>∃(e c:Int) (w:List Int) (o:Option D),ρ=[some (a9 C),some (.int e),some (.int c),some (tupI w),o]/\gw C.rs e w=some k/\0<=e/\e<(C.kinds.length:Int)/\n=e.toNat) (λρ=>∃(e c:Int) (w:List Int) (o:Option D),ρ=[some (a9 C),some (.int e),some (.int c),some (tupI w),o]/\gw C.rs e w=some k/\0<=e/\e<(C.kinds.length:Int)) k.toNat (by lia) ⟨k,c,[],none,by ac_rfl,rfl,k0,k1,rfl⟩ ?_ ?_
 ·rintro n ρ ⟨e,c,w,o,rfl,g,z,J,hn⟩
  by_cases N:0<c%3
  ·refine .inl ⟨by simp_all[bO,N],?_⟩
   have s:=eB B g z J;obtain⟨q,el,ll,W⟩:=uB (C:=C) (i:=1) (get:=(·.k)) (e:=e) (λr=>ZI) none;have ab:=B.gr.len;have b2:=@QM C;have rm:bZ [.int ((C.rs.map lY).length:Int)]=some (aU 0 1 C.rs.length):=by rw[zah];exact cE (by lia)
   have zz:(aU 0 1 C.rs.length).length<=1000000:=by rw[bI];lia
   rw[aH (aN (d:=.lst (q.map .int)) (by ac_rfl))];by_cases U:q.length=0
   ·exact .inr ⟨.tup [.int e,tupI w],by simp_all[U],e,w,rfl,g,z,J⟩
   ·have G:(0:Int)<(q.length:Int):=by lia
    obtain⟨v,hv,hm⟩:=gO (ns:=q) (k:=c/3%(q.length:Int)) (zat _ (zaQ G)) (zav _ G);obtain⟨r,M,Y⟩:=W v (zaw hm);have up:=B.gr.jk r (rR M);have F:r.k=e:=Y;refine .inl ⟨r.j.toNat,[some (a9 C),some (.int r.j),some (.int (c/7)),some (tupI (v::w)),some (.lst (q.map .int))],by lia,?_,r.j,c/7,v::w,_,rfl,MN M (by rw[F];exact g),up.1,by lia,rfl⟩;have ad:eY (.tup [.int v]) (tupI w)=some (tupI (v::w)):=if_pos (decide_eq_true (show 1+(w.map D.int).length<=1000000 by rw[zah];lia));have ea:aI (tupI (v::w)) (.int 0)=some (.int v):=at0;have de:iG (.int ((q.map D.int).length:Int)) (.int 0)=some (.bl false):=by simp_all[U]
    have md:dM (.int (c/3)) (.int ((q.map D.int).length:Int))=some (.int (c/3%(q.length:Int))):=by rw[zah];exact bO G
    have ar:=u7 M;have rk:=@ZH r;rw[aH (ρ':=[some (a9 C),some (.int e),some (.int c),some (tupI w),some (.lst (q.map .int))]) (by ac_rfl)];rw[aH (aN (d:=tupI (v::w)) (by ac_rfl))];rw[aH (aN (d:=.int r.j) (by ac_rfl))]
    ac_rfl
  ·exact .inr ⟨by simp_all[bO,N],e,c,w,o,rfl,g,z,J⟩
 ·rintro ρ ⟨e,c,w,o,rfl,g⟩
  exact⟨_,by simp_all,e,w,rfl,g⟩
theorem wQ(h:∀n∈w,∃r,lX C.rs n=some r):∃ns:List Int,bE (aR 0) fH (bC aI (bC aI (bC aI (aD 1) (eC (.int 2))) (aD 0)) (eC (.int 4))) (w.map .int) [none,some (a9 C)]=some (ns.map .int)/\ns.sum=gW C.rs w:=by
 refine⟨w.map λn=>match lX C.rs n with|some r=>r.p|none=>0,?_,rfl⟩;rw[zaq];refine AU w none λn z=>?_
 obtain⟨r,q⟩:=h n z;simp_all[QM,u7 q,qb4,q]
theorem tM(h:∀n∈w,∃r,lX C.rs n=some r)(z:w.length<=100):mP [a9 C,tupI w]=some (.int (gW C.rs w)):=by
 obtain⟨ns,e,hs⟩:=wQ h;have q:a7 w.length=true:=decide_eq_true (by lia);refine aF ?_;simp_all[t7,aE,tupI,jW,q,e,hs]
theorem eU{R:List D->Option D}{pre:List D}{v w:List Int}(G:gE (pre++[tupI w]) 0=some (.str tag))(F:¬ tag = "let")(M:pre.length<=10)(hw:w.length+v.length<=100):bB 3 (eZ R) [.tup (pre++[tupI w]),tupI v]=some (.tup (pre++[tupI (w++v)])):=by
 have a:gE (pre++[tupI w]) (pre.length:Int)=some (tupI w):=bV (by rw[zdi (zaj _),Nat.sub_self];rfl);have z:a7 (pre.length+1)=true:=decide_eq_true (by lia);have B:=JQ (as:=pre) (bs:=[tupI w]);have q:eY (tupI w) (tupI v)=some (tupI (w++v)):=by
  have J:a7 (w.length+v.length)=true:=decide_eq_true (by lia);simp_all[tupI,J]
 have e:((pre++[tupI w]).length:Int)-1=(pre.length:Int):=by simp_all
 refine aF ?_;unfold eZ;rw[aH (aN (d:=.int (pre.length:Int)) (by rw[<- e];rfl))];simp_all[aE,G,F,B,a,q,z]
theorem xC{v:List Int}(B:v.length<=6):∀(n:Nat) (g:Rg),size g<=n->Short g->eD 3 eZ n [rd g,tupI v]=some (rd (beh g v))
 | 0,g,h,_=>by cases g <;> simp[-zac,-zab,aA,aB,size]at h
 | n+1,.name x j w,h,s=>eU (pre:=[.str "name",.str x]) at0 jQ (by simp_all) (by have:w.length<=6:=s;lia)
 | n+1,.num m j w,h,s=>eU (pre:=[.str "number",.int m,.int j]) at0 iA (by simp_all) (by have:w.length<=6:=s;lia)
 | n+1,.use1 u nm p w,h,s=>eU (pre:=[.str "use",.int (u:Int),.tup [rd p]]) at0 pN (by simp_all) (by have:w.length<=6:=s.2;lia)
 | n+1,.use2 u nm p q w,h,s=>eU (pre:=[.str "use",.int (u:Int),.tup [rd p,rd q]]) at0 pN (by simp_all) (by have:w.length<=6:=s.2.2;lia)
 | n+1,.lett x j p q,h,s=>by
  have ih:=xC B n q (by simp only[size]at h;lia) s.2;have z:cutD [.str "let",.str x,.int j,rd p,rd q] none (some 4)=[.str "let",.str x,.int j,rd p]:=rfl;have F:a7 5=true:=rfl;refine aF ?_;simp_all[eZ,aE,rd,beh,at0,Q0,z,ih,F]
 | n+1,.pick c k p q r w,h,s=>eU (pre:=[.str "pick",.int c,.int k,rd p,rd q,rd r]) at0 gR (by simp_all) (by have:w.length<=6:=s.2.2.2;lia)
 | n+1,.again c k x p q w,h,s=>eU (pre:=[.str "again",.int c,.int k,.str x,rd p,rd q]) at0 fS (by simp_all) (by have:w.length<=6:=s.2.2;lia)
theorem xW(z:size g<=24)(s:Short g)(q:v.length<=6):nH [rd g,tupI v]=some (rd (beh g v)):=xC q 24 g z s
noncomputable def bK(p:Str×Int):D:=.tup [.str p.1,.int p.2]
def bH(C:Bk)(g:Rg)(k r:Int):D:=.tup [pt g,rd g,.int k,.int (size g:Int),.int (lets g),.int r,.int (cost C g)]
theorem vS:aI (bH C g k r) (.int 0)=some (pt g):=by unfold bH;rw[q_itT];exact at0
theorem vT:aI (bH C g k r) (.int 1)=some (rd g):=by unfold bH;rw[q_itT];exact at1
theorem FU:aI (bH C g k r) (.int 2)=some (.int k):=by unfold bH;rw[q_itT];exact at2
theorem qcd:aI (bH C g k r) (.int 3)=some (.int (size g:Int)):=by unfold bH;rw[q_itT];exact VG
theorem qb9:aI (bH C g k r) (.int 4)=some (.int (lets g)):=by unfold bH;rw[q_itT];exact Q0
theorem qbY:aI (bH C g k r) (.int 5)=some (.int r):=by unfold bH;rw[q_itT];exact at5
theorem qbU:aI (bH C g k r) (.int 6)=some (.int (cost C g)):=by unfold bH;rw[q_itT];exact at6
theorem sQ:∀(kn:List (Str×Int)) (o p:Option D),∃ss:List Str,bE (lJ 2 (dI (aR 0) (dI (aR 1) rB))) (rK (bC iG (aD 1) (aD 2))) (aD 0) (kn.map bK) [o,p,some (.int j)]=some (ss.map .str)/\∀s∈ss,(s,j)∈kn
 | [],o,p=>⟨[],rfl,λ_ h=>nomatch h⟩
 | (x,i)::kn,o,p=>by
  obtain⟨ss,e,hs⟩:=sQ (j:=j) kn (some (.str x)) (some (.int i));by_cases h:i=j
  ·refine⟨x::ss,by simp[-zac,-zab,aA,aB,bE,bK,h]at e ⊢;simp_all[e],λs q=>?_⟩
   rcases List.mem_cons.mp q with z|z
   ·rw[z,h];exact zar ..
   ·exact zap _ (hs s z)
  ·exact⟨ss,by simp[-zac,-zab,aA,aB,bE,bK,h]at e ⊢;simp_all[e],λs q=>zap _ (hs s q)⟩
theorem dR(B:OkB C)(hl:kn.length<=100)(k0:0<=k)(k1:k<(C.kinds.length:Int))(c0:0<=c)(c1:c<10^60):∃g,bP [a9 C,.lst (kn.map bK),.int k,.int c]=some (bH C g k 0)/\WF C kn g k/\size g=1/\lets g=0/\∀U N,NF U N g:=by
 suffices h:∃d,bP [a9 C,.lst (kn.map bK),.int k,.int c]=some d/\∃g,d=bH C g k 0/\WF C kn g k/\size g=1/\lets g=0/\∀U N,NF U N g by
  obtain⟨d,h1,g,rfl,h2⟩:=h;exact⟨g,h1,h2⟩
 have aa:=Ten
 obtain⟨j,w,eb,q,J,W⟩:=EI B (k:=k) (c:=c/5) k0 k1;have sh:=eB B q J W;obtain⟨ss,es,hs⟩:=sQ (j:=j) kn none none;have zk:a7 kn.length=true:=decide_eq_true (by lia);have ec:=tM (C:=C) (zP q) (by lia);have Y:0<C.M:=by have:=B.M3;lia
 refine dZ ?_;unfold uE;rw[aH (ρ':=[some (a9 C),some (.lst (kn.map bK)),some (.int k),some (.int c),some (.int j),some (tupI w),none,none,none,none]) (by ac_rfl)];rw[aH (aN (d:=.lst (ss.map .str)) (by simp_all[zk,jW,es]))];rw[aH (aN (d:=.int (gW C.rs w)) (by ac_rfl))];have num:∃d,dA (eE 9 (bC dM (bC cS (bC iU (aD 3) (eC (.int 11))) (eC (.int 982451653))) (bC aI (aD 0) (eC (.int 0)))))
   (LM (fK (aC (fK (aC (eC (.str "number")) (aC (aD 9) (aC (aD 4) aZ)))) (aC (fK (aC (eC (.str "number")) (aC (aD 9) (aC (aD 4) (aC (aD 5) aZ))))) (aC (aD 2) (aC (eC (.int 1)) (aC (eC (.int 0)) (aC (eC (.int 0)) (aC (aD 7) aZ)))))))))
   [some (a9 C),some (.lst (kn.map bK)),some (.int k),some (.int c),some (.int j),some (tupI w),some (.lst (ss.map .str)),some (.int (gW C.rs w)),none,none]=some (.rt d)/\∃g,d=bH C g k 0/\WF C kn g k/\size g=1/\lets g=0/\∀U N,NF U N g:=by
  have mu:cS (.int (c/11)) (.int 982451653)=some (.int (c/11*982451653)):=b8 (by lia) (by lia) (by decide +kernel) (by decide +kernel);have n0:=zat (c/11*982451653) (zaQ Y);have n1:=zav (c/11*982451653) Y;rw[aH (aN (d:=.int (c/11*982451653%C.M)) (by ac_rfl))];exact⟨_,by simp_all;rfl,.num (c/11*982451653%C.M) j w,by ac_rfl,⟨⟨n0,n1⟩,⟨J,W⟩,q⟩,rfl,rfl,λ_ _=>trivial⟩
 by_cases h1:1<c%5
 ·by_cases h2:ss.length=0
  ·rw[aH (ρ':=[some (a9 C),some (.lst (kn.map bK)),some (.int k),some (.int c),some (.int j),some (tupI w),some (.lst (ss.map .str)),some (.int (gW C.rs w)),none,none]) (by simp_all[bO,h1,h2])]
   exact num
  ·have z:(0:Int)<(ss.length:Int):=by lia
   have F:0<ss.length:=by lia
   obtain⟨d,hm,_,hd⟩:=vO (l:=ss.map D.str) (k:=c/7%(ss.length:Int)) (zat _ (zaQ z)) (by rw[zah];exact zav _ z);obtain⟨s,G,rfl⟩:=List.mem_map.mp hm;refine⟨bH C (.name s j w) k 0,uY ?_,.name s j w,rfl,⟨hs s G,q⟩,rfl,rfl,λ_ _=>trivial⟩;simp_all[bO,h1,F,iS,bO z,hd,bH,pt,rd,size,lets,cost]
 ·rw[aH (ρ':=[some (a9 C),some (.lst (kn.map bK)),some (.int k),some (.int c),some (.int j),some (tupI w),some (.lst (ss.map .str)),some (.int (gW C.rs w)),none,none]) (by ac_rfl)]
  exact num
local macro_rules | `(tactic|ac_rfl) => `(tactic|(with_reducible first|exact vS|exact vT|exact FU|exact qcd|exact qb9|exact FM|exact QM|exact v7|exact FR|exact zV|exact LJ|exact U6|exact at5|exact at6))
structure S7 where
 p:D
 q:D
 k:D
 a:Int
 b:Int
 r:Int
 c:Int
noncomputable def sD(s:S7):D:=.tup [s.p,s.q,s.k,.int s.a,.int s.b,.int s.r,.int s.c]
theorem s_3:aI (sD s) (.int 3)=some (.int s.a):=by unfold sD;rw[q_itT];exact VG
theorem s_4:aI (sD s) (.int 4)=some (.int s.b):=by unfold sD;rw[q_itT];exact Q0
theorem s_5:aI (sD s) (.int 5)=some (.int s.r):=by unfold sD;rw[q_itT];exact at5
theorem s_6:aI (sD s) (.int 6)=some (.int s.c):=by unfold sD;rw[q_itT];exact at6
noncomputable def zY(w:Str):Int:=if w = "let" then 1 else 0
theorem mN{w0:Str}{l:List D}{q k:D}{ss:List S7}{own:Int}(hl:ss.length<=10):∃r:Int,aX [.tup (.str w0::l),q,k,.lst (ss.map sD),.int own]=some (.tup [.tup (.str w0::l),q,k,.int (1+(ss.map (·.a)).sum),.int (zY w0+(ss.map (·.b)).sum),.int r,.int (own+(ss.map (·.c)).sum)]):=by
 suffices h:∃d,aX [.tup (.str w0::l),q,k,.lst (ss.map sD),.int own]=some d/\∃r:Int,d=.tup [.tup (.str w0::l),q,k,.int (1+(ss.map (·.a)).sum),.int (zY w0+(ss.map (·.b)).sum),.int r,.int (own+(ss.map (·.c)).sum)] by
  obtain⟨d,e,r,rfl⟩:=h;exact⟨r,e⟩
 refine dZ ?_;unfold sR;rw[aH (aN (d:=.int 1) (by simp_all))];rw[aH (aN (d:=.int (zY w0)) (by by_cases h:w0 = "let" <;> simp_all[aE,at0,zY,h]))];rw[aH (aN (d:=.int 0) (by simp_all))];refine jP (items:=aU 0 1 ss.length) (by simp_all[aE,cE (show ss.length<=1000000 by lia)]) (λi ρ=>∃(r:Int) (B G:Option D),ρ=[some (.tup (.str w0::l)),some q,some k,some (.lst (ss.map sD)),some (.int (own+((ss.take i).map (·.c)).sum)),some (.int (1+((ss.take i).map (·.a)).sum)),some (.int (zY w0+((ss.take i).map (·.b)).sum)),some (.int r),B,G]) ⟨0,none,none,by simp_all[aE]⟩ ?_ ?_
 ·rintro i x ρ hx ⟨r,B,G,rfl⟩
  obtain⟨J,rfl⟩:=b7 hx;have W:(0:Int)+(i:Int)*1=(i:Int):=by lia
  rw[W];obtain⟨s,hs⟩:∃s,ss[i]?=some s:=⟨ss[i],zaP J⟩;have M:gE (ss.map sD) (i:Int)=some (sD s):=bV (by rw[zaA,hs];rfl);have N:(ss.take (i+1))=ss.take i++[s]:=by rw[zcY,hs];rfl
  rw[N];simp only[zaI,zak,zb0,List.sum_append_int,zbo,List.sum_nil,Int.add_zero];generalize ((ss.take i).map (·.a)).sum=A;generalize ((ss.take i).map (·.b)).sum=Bb;generalize ((ss.take i).map (·.c)).sum=Cc;have q3:=s_3 (s:=s);have q4:=s_4 (s:=s);have q5:=s_5 (s:=s);have q6:=s_6 (s:=s);have F:∃z:Int,aT C0 (aC (aD 7) (aC (bC eY (bC aI (aD 9) (eC (.int 5))) (aT FS (aC (QO (bC iG (bC aI (aD 0) (eC (.int 0))) (eC (.str "again"))) (bC iG (aD 8) (eC (.int 1)))) aZ))) aZ)) [some (.tup (.str w0::l)),some q,some k,some (.lst (ss.map sD)),some (.int (own+Cc)),some (.int (1+A+s.a)),some (.int (zY w0+Bb+s.b)),some (.int r),some (.int (i:Int)),some (sD s)]=some (.int z):=by
   obtain⟨b,Y⟩:∃b,iG (.str w0) (.str "again")=some (.bl b):=⟨_,by simp_all;rfl⟩;obtain⟨b2,U⟩:∃b,iG (.int (i:Int)) (.int 1)=some (.bl b):=⟨_,by simp_all;rfl⟩;cases b <;> exact⟨_,by ac_rfl⟩
  obtain⟨z,F⟩:=F;refine⟨[some (.tup (.str w0::l)),some q,some k,some (.lst (ss.map sD)),some (.int (own+(Cc+s.c))),some (.int (1+(A+s.a))),some (.int (zY w0+(Bb+s.b))),some (.int z),some (.int (i:Int)),some (sD s)],?_,z,_,_,rfl⟩;show(aR 8 _ _).bind _=_;rw[q_name,aA,<- zc4,<- zc4,<- zc4];rw[aH (aN (d:=sD s) (by ac_rfl))];rw[aH (aN (d:=.int (1+A+s.a)) (by ac_rfl))];rw[aH (aN (d:=.int (zY w0+Bb+s.b)) (by ac_rfl))];rw[aH (aN (d:=.int z) (by exact F))]
  ac_rfl
 ·rintro ρ ⟨r,B,G,rfl⟩
  rw[bI,zbn];exact⟨_,by simp_all,r,rfl⟩
def sG(C:Bk)(g:Rg)(k r:Int):S7:=⟨pt g,rd g,.int k,size g,lets g,r,cost C g⟩
structure Gs(U:List Str)(C:Bk)(kn:List (Str×Int))(g:Rg)(k:Int)(n:Nat):Prop where
 wf:WF C kn g k
 k0:0<=k
 k1:k<(C.kinds.length:Int)
 sz:size g<=n
 nf:NF U (kn.map (·.1)) g
theorem qak{C:Bk}{l:List D}{g1:Rg}{k1 r1 own:Int}:∃r:Int,aX [.tup (.str w0::l),q,k,.lst [bH C g1 k1 r1],.int own]=some (.tup [.tup (.str w0::l),q,k,.int (1+(size g1:Int)),.int (zY w0+lets g1),.int r,.int (own+cost C g1)]):=by
 obtain⟨r,h⟩:=mN (w0:=w0) (l:=l) (q:=q) (k:=k) (ss:=[sG C g1 k1 r1]) (own:=own) (by simp_all);exact⟨r,by simpa[sG,sD,bH]using h⟩
theorem P9{C:Bk}{l:List D}{g1 g2:Rg}{k1 r1 k2 r2 own:Int}:∃r:Int,aX [.tup (.str w0::l),q,k,.lst [bH C g1 k1 r1,bH C g2 k2 r2],.int own]=some (.tup [.tup (.str w0::l),q,k,.int (1+((size g1:Int)+(size g2:Int))),.int (zY w0+(lets g1+lets g2)),.int r,.int (own+(cost C g1+cost C g2))]):=by
 obtain⟨r,h⟩:=mN (w0:=w0) (l:=l) (q:=q) (k:=k) (ss:=[sG C g1 k1 r1,sG C g2 k2 r2]) (own:=own) (by simp_all);exact⟨r,by simpa[sG,sD,bH]using h⟩
theorem qm{C:Bk}{l:List D}{g1 g2 g3:Rg}{k1 r1 k2 r2 k3 r3 own:Int}:∃r:Int,aX [.tup (.str w0::l),q,k,.lst [bH C g1 k1 r1,bH C g2 k2 r2,bH C g3 k3 r3],.int own]=some (.tup [.tup (.str w0::l),q,k,.int (1+((size g1:Int)+((size g2:Int)+(size g3:Int)))),.int (zY w0+(lets g1+(lets g2+lets g3))),.int r,.int (own+(cost C g1+(cost C g2+cost C g3)))]):=by
 obtain⟨r,h⟩:=mN (w0:=w0) (l:=l) (q:=q) (k:=k) (ss:=[sG C g1 k1 r1,sG C g2 k2 r2,sG C g3 k3 r3]) (own:=own) (by simp_all);exact⟨r,by simpa[sG,sD,bH]using h⟩
theorem GL:zY "use" = 0:=by decide
theorem ME:zY "pick" = 0:=by decide
theorem KA:zY "again" = 0:=by decide
theorem S3:zY "let" = 1:=by decide
theorem sC:gW rs []=0:=rfl
theorem PM(h:C.makes[v]?=some m):mpr C v=m.pr:=by unfold mpr;rw[h];rfl
theorem nM(B:OkB C)(K:OkN C kn)(G:Gs U C kn g k n)(hn:n<=24):∃g' z,i4 [a9 C,bH C g k r,.int c]=some (bH C g' z r)/\Gs U C kn g' z n/\size g'=size g/\lets g'=lets g:=by
 obtain⟨e,w,M,q⟩:=D2 B (j:=k) (c:=c) G.k0 G.k1;have s:=eB B q G.k0 G.k1;have N:=G.wf.short B K;have J:=xW (g:=g) (v:=w) (by have:=G.sz;lia) N.1 s.1;have Y:=tM (C:=C) (zP q) (by lia);refine⟨beh g w,e,aF ?_,⟨G.wf.beh q,s.2.1,s.2.2,by rw[oG];exact G.sz,G.nf.beh⟩,oG g w,uP g w⟩;unfold nJ;rw[aH (ρ':=[some (a9 C),some (bH C g k r),some (.int c),some (.int e),some (tupI w)]) (by simp_all[aE,FU,M])];have F:FN (bH C g k r) (some 3) (some 6)=some (.tup [.int (size g:Int),.int (lets g),.int r]):=rfl;have z6:a7 6=true:=rfl;have W:a7 7=true:=rfl;simp_all[vS,vT,qbU,J,Y,F,z6,W];simp_all[bH,PY,oG,uP,B6]
theorem oW{C:Bk}{v:Nat}{m:Mk}(h:C.makes[v]?=some m):gE (C.makes.map j7) (v:Int)=some (j7 m):=bV (by rw[zaA,h];rfl)
noncomputable def FY(p:Nat×Nat):D:=.tup [.int (p.1:Int),.int (p.2:Int)]
theorem RF{C:Bk}{v:Nat}{m:Mk}(z:C.makes[v]?=some m){g:Rg}{k1 r1:Int}:∃r,aX [.tup [.str "use",.str m.nm,.tup [pt g]],.tup [.str "use",.int (v:Int),.tup [rd g],.tup []],.int m.g,.lst [bH C g k1 r1],.int m.pr]=some (bH C (.use1 v m.nm g []) m.g r):=by
 obtain⟨r,h⟩:=qak (C:=C) (w0 := "use") (l:=[.str m.nm,.tup [pt g]]) (q:=.tup [.str "use",.int (v:Int),.tup [rd g],.tup []]) (k:=.int m.g) (g1:=g) (k1:=k1) (r1:=r1) (own:=m.pr);exact⟨r,h.trans (by simp_all[bH,pt,rd,size,lets,cost,tupI,PM z,sC,GL])⟩
theorem HV{C:Bk}{v:Nat}{m:Mk}(z:C.makes[v]?=some m){g g':Rg}{k1 r1 k2 r2:Int}:∃r,aX [.tup [.str "use",.str m.nm,.tup [pt g,pt g']],.tup [.str "use",.int (v:Int),.tup [rd g,rd g'],.tup []],.int m.g,.lst [bH C g k1 r1,bH C g' k2 r2],.int m.pr]=some (bH C (.use2 v m.nm g g' []) m.g r):=by
 obtain⟨r,h⟩:=P9 (C:=C) (w0 := "use") (l:=[.str m.nm,.tup [pt g,pt g']]) (q:=.tup [.str "use",.int (v:Int),.tup [rd g,rd g'],.tup []]) (k:=.int m.g) (g1:=g) (k1:=k1) (r1:=r1) (g2:=g') (k2:=k2) (r2:=r2) (own:=m.pr);exact⟨r,h.trans (by simp_all[bH,pt,rd,size,lets,cost,tupI,PM z,sC,GL])⟩
theorem OU:∃r,aX [.tup [.str "let",.str x,pt g,pt g'],.tup [.str "let",.str x,.int j,rd g,rd g'],.int k,.lst [bH C g k1 r1,bH C g' k2 r2],.int 0]=some (bH C (.lett x j g g') k r):=by
 obtain⟨r,h⟩:=P9 (C:=C) (w0 := "let") (l:=[.str x,pt g,pt g']) (q:=.tup [.str "let",.str x,.int j,rd g,rd g']) (k:=.int k) (g1:=g) (k1:=k1) (r1:=r1) (g2:=g') (k2:=k2) (r2:=r2) (own:=0);exact⟨r,h.trans (by simp_all[bH,pt,rd,size,lets,cost,S3])⟩
theorem A9:∃r,aX [.tup [.str "again",.int n,.int j,.str x,pt g,pt g'],.tup [.str "again",.int n,.int j,.str x,rd g,rd g',.tup []],.int k,.lst [bH C g k1 r1,bH C g' k2 r2],.int 0]=some (bH C (.again n j x g g' []) k r):=by
 obtain⟨r,h⟩:=P9 (C:=C) (w0 := "again") (l:=[.int n,.int j,.str x,pt g,pt g']) (q:=.tup [.str "again",.int n,.int j,.str x,rd g,rd g',.tup []]) (k:=.int k) (g1:=g) (k1:=k1) (r1:=r1) (g2:=g') (k2:=k2) (r2:=r2) (own:=0);exact⟨r,h.trans (by simp_all[bH,pt,rd,size,lets,cost,tupI,sC,KA])⟩
theorem yI:∃r,aX [.tup [.str "pick",.int c,.int j,pt g,pt g',pt g2],.tup [.str "pick",.int c,.int j,rd g,rd g',rd g2,.tup []],.int k,.lst [bH C g k1 r1,bH C g' k2 r2,bH C g2 k3 r3],.int 0]=some (bH C (.pick c j g g' g2 []) k r):=by
 obtain⟨r,h⟩:=qm (C:=C) (w0 := "pick") (l:=[.int c,.int j,pt g,pt g',pt g2]) (q:=.tup [.str "pick",.int c,.int j,rd g,rd g',rd g2,.tup []]) (k:=.int k) (g1:=g) (k1:=k1) (r1:=r1) (g2:=g') (k2:=k2) (r2:=r2) (g3:=g2) (k3:=k3) (r3:=r3) (own:=0);exact⟨r,h.trans (by simp_all[bH,pt,rd,size,lets,cost,tupI,sC,ME])⟩
theorem yN{bk K s c B F q R nm G pd:D}{o:Option D}{ts z zs ps rs:List D}(h1:aI q (.int 1)=some (.tup ts))(W:aI q (.int 0)=some nm)(h2:aI q (.int 2)=some G)(Y:aI q (.int 4)=some pd)(tl:ts.length<=2)(zl:zs.length<=2)(J:bE (aR 0) fH (aT bP (aC (aD 1) (aC (aD 2) (aC (aD 0) (aC (bC iU (aD 3) (eC (.int 6))) aZ))))) ts [none,some bk,some K,some c]=some z)(pu:nE (.lst z) F s=some (.lst zs))
  (c0:bE (aR 0) fH (bC aI (aD 0) (eC (.int 0))) zs [none]=some ps) (N:bE (aR 0) fH (bC aI (aD 0) (eC (.int 1))) zs [none]=some rs) (U:aX [.tup [.str "use",nm,.tup ps],.tup [.str "use",B,.tup rs,.tup []],G,.lst zs,pd]=some R) :
  dA (eE 8 (d7 [none,some 0,some 1,some 3] (gF (bC aI (aD 7) (eC (.int 1)))) (aR 0) fH (aT bP (aC (aD 1) (aC (aD 2) (aC (aD 0) (aC (bC iU (aD 3) (eC (.int 6))) aZ)))))))
   (dA (FQ 8 (aD 6) (aD 2))
   (dA (eE 9 (fK (aC (eC (.str "use")) (aC (bC aI (aD 7) (eC (.int 0))) (aC (aT jO (aC (d7 [none] (gF (aD 8)) (aR 0) fH (bC aI (aD 0) (eC (.int 0)))) aZ)) aZ)))))
   (dA (eE 10 (fK (aC (eC (.str "use")) (aC (aD 5) (aC (aT jO (aC (d7 [none] (gF (aD 8)) (aR 0) fH (bC aI (aD 0) (eC (.int 1)))) aZ)) (aC (fK aZ) aZ))))))
   (LM (aT aX (aC (aD 9) (aC (aD 10) (aC (bC aI (aD 7) (eC (.int 2))) (aC (aD 8) (aC (bC aI (aD 7) (eC (.int 4))) aZ)))))))))) [some bk,some K,some s,some c,o,some B,some F,some q,none,none,none]=some (.rt R):=by
 have M:bE (aR 0) fH (aT bP (aC (aD 1) (aC (aD 2) (aC (aD 0) (aC (bC iU (aD 3) (eC (.int 6))) aZ))))) ts (jW [none,some 0,some 1,some 3] [some bk,some K,some s,some c,o,some B,some F,some q,none,none,none])=some z:=J
 ac_rfl
theorem L7{U:List Str}{C:Bk}(B:OkB C){kn:List (Str×Int)}(hk:kn.length<=100){g:Rg}{k r c:Int}{n:Nat}(G:Gs U C kn g k n)(c0:0<=c)(c1:c<10^60){v a:Nat}{m:Mk}(M:C.makes[v]?=some m)(q:m.takes[a]?=some k)(o:Option D) :
  ∃g' k' N,dA (eE 8 (d7 [none,some 0,some 1,some 3] (gF (bC aI (aD 7) (eC (.int 1)))) (aR 0) fH (aT bP (aC (aD 1) (aC (aD 2) (aC (aD 0) (aC (bC iU (aD 3) (eC (.int 6))) aZ)))))))
   (dA (FQ 8 (aD 6) (aD 2))
   (dA (eE 9 (fK (aC (eC (.str "use")) (aC (bC aI (aD 7) (eC (.int 0))) (aC (aT jO (aC (d7 [none] (gF (aD 8)) (aR 0) fH (bC aI (aD 0) (eC (.int 0)))) aZ)) aZ)))))
   (dA (eE 10 (fK (aC (eC (.str "use")) (aC (aD 5) (aC (aT jO (aC (d7 [none] (gF (aD 8)) (aR 0) fH (bC aI (aD 0) (eC (.int 1)))) aZ)) (aC (fK aZ) aZ))))))
   (LM (aT aX (aC (aD 9) (aC (aD 10) (aC (bC aI (aD 7) (eC (.int 2))) (aC (aD 8) (aC (bC aI (aD 7) (eC (.int 4))) aZ)))))))))) [some (a9 C),some (.lst (kn.map bK)),some (bH C g k r),some (.int c),o,some (.int (v:Int)),some (.int (a:Int)),some (j7 m),none,none,none]=some (.rt (bH C g' k' N))/\Gs U C kn g' k' (n+2):=by
 have W:=zaw M;have aj:=Ten
 have Y:=B.gb m W;have tb:=B.tb m W;have sz:=G.sz;rcases B.tk m W with⟨t,J⟩|⟨t,u,J⟩
 ·rw[J]at q tb
  have m1:aI (j7 m) (.int 1)=some (.tup [.int t]):=by rw[zV,J];rfl
  have F:=tb t (by simp_all);obtain⟨g2,e2,w2,s2,l2,n2⟩:=dR B (kn:=kn) (k:=t) (c:=c/6) hk F.1 F.2 (by lia) (by lia)
  match a,q with
  | 0,q=>
   have z:t=k:=by simpa using q
   subst z;obtain⟨N,eo⟩:=RF M (g:=g) (k1:=t) (r1:=r);have pu:nE (.lst [bH C g2 t 0]) (.int 0) (bH C g t r)=some (.lst [bH C g t r]):=nB (by decide) (by simp_all);exact⟨.use1 v m.nm g [],m.g,N,yN (bk:=a9 C) (K:=.lst (kn.map bK)) (c:=.int c) m1 FR LJ U6 (by simp_all) (by simp_all) (by ac_rfl) pu (by ac_rfl) (by ac_rfl) eo,⟨⟨m,t,M,rfl,J,G.wf,rfl⟩,Y.1,Y.2,by simp only[size];lia,G.nf⟩⟩
  | a+1,q=>simp[-zac,-zab,aA,aB]at q
 ·rw[J]at q tb
  have m1:aI (j7 m) (.int 1)=some (.tup [.int t,.int u]):=by rw[zV,J];rfl
  have F:=tb t (by simp_all);have ab:=tb u (by simp_all);obtain⟨g2,e2,w2,s2,l2,n2⟩:=dR B (kn:=kn) (k:=t) (c:=c/6) hk F.1 F.2 (by lia) (by lia);obtain⟨g3,e3,w3,s3,l3,n3⟩:=dR B (kn:=kn) (k:=u) (c:=c/6) hk ab.1 ab.2 (by lia) (by lia)
  match a,q with
  | 0,q=>
   have z:t=k:=by simpa using q
   subst z;obtain⟨N,eo⟩:=HV M (g:=g) (k1:=t) (r1:=r) (g':=g3) (k2:=u) (r2:=0);have pu:nE (.lst [bH C g2 t 0,bH C g3 u 0]) (.int 0) (bH C g t r)=some (.lst [bH C g t r,bH C g3 u 0]):=nB (by decide) (by simp_all);exact⟨.use2 v m.nm g g3 [],m.g,N,yN (bk:=a9 C) (K:=.lst (kn.map bK)) (c:=.int c) m1 FR LJ U6 (by simp_all) (by simp_all) (by ac_rfl) pu (by ac_rfl) (by ac_rfl) eo,⟨⟨m,t,u,M,rfl,J,G.wf,w3,rfl⟩,Y.1,Y.2,by simp only[size];lia,⟨G.nf,n3 _ _⟩⟩⟩
  | 1,q=>
   have z:u=k:=by simpa using q
   subst z;obtain⟨N,eo⟩:=HV M (g:=g2) (k1:=t) (r1:=0) (g':=g) (k2:=u) (r2:=r);have pu:nE (.lst [bH C g2 t 0,bH C g3 u 0]) (.int 1) (bH C g u r)=some (.lst [bH C g2 t 0,bH C g u r]):=nB (by decide) (by simp_all);exact⟨.use2 v m.nm g2 g [],m.g,N,yN (bk:=a9 C) (K:=.lst (kn.map bK)) (c:=.int c) m1 FR LJ U6 (by simp_all) (by simp_all) (by ac_rfl) pu (by ac_rfl) (by ac_rfl) eo,⟨⟨m,t,u,M,rfl,J,w2,G.wf,rfl⟩,Y.1,Y.2,by simp only[size];lia,⟨n2 _ _,G.nf⟩⟩⟩
  | a+2,q=>simp[-zac,-zab,aA,aB]at q
theorem Gs.mono(G:Gs U C kn g k n)(h:n<=n'):Gs U C kn g k n':=⟨G.wf,G.k0,G.k1,zaM G.sz h,G.nf⟩
theorem EA{U:List Str}{C:Bk}(B:OkB C){kn:List (Str×Int)}(hk:kn.length<=100){g:Rg}{k r c:Int}{n:Nat}(G:Gs U C kn g k n)(c0:0<=c)(c1:c<10^60):∃g' F M,mH [a9 C,.lst (kn.map bK),bH C g k r,.int c]=some (bH C g' F M)/\Gs U C kn g' F (n+2):=by
 suffices h:∃d,mH [a9 C,.lst (kn.map bK),bH C g k r,.int c]=some d/\∃g' F M,d=bH C g' F M/\Gs U C kn g' F (n+2) by
  obtain⟨d,h1,g',F,M,rfl,h2⟩:=h;exact⟨g',F,M,h1,h2⟩
 have ml:=B.ml;refine dZ ?_;unfold tV;rw[aH (aN (d:=.lst []) (by simp_all))];refine jP (items:=aU 0 1 C.makes.length) (by simp_all[aE,v7,cE (show C.makes.length<=1000000 by lia)]) (λi ρ=>∃(ps:List (Nat×Nat)) (o5 q:Option D),ρ=[some (a9 C),some (.lst (kn.map bK)),some (bH C g k r),some (.int c),some (.lst (ps.map FY)),o5,q,none,none,none,none]/\(∀p∈ps,∃m,C.makes[p.1]?=some m/\m.takes[p.2]?=some k)/\ps.length<=2*i) ⟨[],none,none,by simp_all[aE],(λ_ h=>nomatch h),by simp_all⟩ ?_ ?_
 ·rintro i x ρ hx ⟨ps,o5,q,rfl,N,hl⟩
  obtain⟨J,rfl⟩:=b7 hx;have e0:(0:Int)+(i:Int)*1=(i:Int):=by lia
  rw[e0];obtain⟨m,W⟩:∃m,C.makes[i]?=some m:=⟨C.makes[i],zaP J⟩;have ak:=zaw W;have tl:m.takes.length<=2:=by rcases B.tk m ak with⟨t,et⟩|⟨t,u,et⟩ <;> rw[et] <;> simp_all
  obtain⟨ρ',e,af,ad,rfl,aj,ah⟩:=zQ (g:=aR 6) (b:=zX (rK (bC iG (bC aI (bC aI (bC aI (bC aI (aD 0) (eC (.int 3))) (aD 5)) (eC (.int 1))) (aD 6)) (bC aI (aD 2) (eC (.int 2))))) (LC 4 (fK (aC (aD 5) (aC (aD 6) aZ)))) VF) (items:=aU 0 1 m.takes.length) (ρ:=[some (a9 C),some (.lst (kn.map bK)),some (bH C g k r),some (.int c),some (.lst (ps.map FY)),some (.int (i:Int)),q,none,none,none,none]) (λj ρ=>∃(ps:List (Nat×Nat)) (q:Option D),ρ=[some (a9 C),some (.lst (kn.map bK)),some (bH C g k r),some (.int c),some (.lst (ps.map FY)),some (.int (i:Int)),q,none,none,none,none]/\(∀p∈ps,∃m,C.makes[p.1]?=some m/\m.takes[p.2]?=some k)/\ps.length<=2*i+j) ⟨ps,q,rfl,N,hl⟩ (by
   rintro j x ρ hx ⟨ps,q,rfl,N,hl⟩;obtain⟨J,rfl⟩:=b7 hx;have e0:(0:Int)+(j:Int)*1=(j:Int):=by lia
   rw[e0];obtain⟨t,ht⟩:∃t,m.takes[j]?=some t:=⟨m.takes[j],zaP J⟩;have ac:gE (m.takes.map D.int) (j:Int)=some (.int t):=bV (by rw[zaA,ht];rfl);have hz:(ps.map FY).length<=1000000:=by rw[zah];lia
   have e3:=oW W;have am:aI (tupI m.takes) (.int (j:Int))=some (.int t):=ac;by_cases h:t=k
   ·refine⟨[some (a9 C),some (.lst (kn.map bK)),some (bH C g k r),some (.int c),some (.lst ((ps++[(i,j)]).map FY)),some (.int (i:Int)),some (.int (j:Int)),none,none,none,none],?_,ps++[(i,j)],_,rfl,λp al=>?_,by simp_all;lia⟩
    ·have de:iG (.int t) (.int k)=some (.bl true):=by simp_all[h]
     rw[show(ps++[(i,j)]).map FY=ps.map FY++[.tup [.int (i:Int),.int (j:Int)]] by simp_all[FY]]
     ac_rfl
    ·rcases List.mem_append.mp al with z|z
     ·exact N p z
     ·rw[List.mem_singleton.mp z];exact⟨m,W,by rw[<- h];exact ht⟩
   ·refine⟨[some (a9 C),some (.lst (kn.map bK)),some (bH C g k r),some (.int c),some (.lst (ps.map FY)),some (.int (i:Int)),some (.int (j:Int)),none,none,none,none],?_,ps,_,rfl,N,by lia⟩
    have de:iG (.int t) (.int k)=some (.bl false):=by simp_all[h]
    ac_rfl)
  rw[bI]at ah;refine⟨_,?_,af,some (.int (i:Int)),ad,rfl,aj,by lia⟩;show(aR 5 _ _).bind _=_;rw[q_name,aA,q_for];have hf:lR bZ (aC (aT fV (aC (bC aI (bC aI (bC aI (aD 0) (eC (.int 3))) (aD 5)) (eC (.int 1))) aZ)) aZ) [some (a9 C),some (.lst (kn.map bK)),some (bH C g k r),some (.int c),some (.lst (ps.map FY)),some (.int (i:Int)),q,none,none,none,none]=some (aU 0 1 m.takes.length):=by
   simp_all[v7,oW W,zV,tupI,cE (show m.takes.length<=1000000 by lia)]
  exact(congrArg (λz=>zcH z _) hf).trans e
 ·rintro ρ ⟨ps,o5,q,rfl,N,hl⟩
  rw[bI]at hl;by_cases h0:ps.length=0
  ·exact⟨bH C g k r,uY (by simp_all[h0]),g,k,r,rfl,G.mono (by lia)⟩
  ·have lp:(0:Int)<(ps.length:Int):=by lia
   obtain⟨d,W,_,hd⟩:=vO (l:=ps.map FY) (k:=c%(ps.length:Int)) (zat _ (zaQ lp)) (by rw[zah];exact zav _ lp);obtain⟨⟨v,a⟩,ai,rfl⟩:=List.mem_map.mp W;obtain⟨m,Y,ha⟩:=N _ ai;obtain⟨g',F,M,e,G'⟩:=L7 B hk (r:=r) G c0 c1 Y ha (some (.lst (ps.map FY)));rw[aH (ρ':=[some (a9 C),some (.lst (kn.map bK)),some (bH C g k r),some (.int c),some (.lst (ps.map FY)),o5,q,none,none,none,none]) (by simp_all[h0])];rw[aH (ρ':=[some (a9 C),some (.lst (kn.map bK)),some (bH C g k r),some (.int c),some (.lst (ps.map FY)),some (.int (v:Int)),some (.int (a:Int)),none,none,none,none]) (by simp_all[bO lp,hd];simp_all[FY])];rw[aH (aN (d:=j7 m) (by simp_all[v7,oW Y]))];exact⟨_,e,g',F,M,rfl,G'⟩
theorem mO{bk K s R U p1 p2 N r1 r2 Y x1 M F B G:D}{y a k c z:Int}{L:List D}(ha:dM (.int y) (.int 3)=some (.int a))(hs:aI s (.int 2)=some (.int k))(J:aI bk (.int 1)=some (.tup L))(hq:∃q:Int,dM (.int (y/3)) (.int (L.length:Int))=some (.int q)/\((a=0/\c=k/\z=q)\/(¬ a=0/\c=q/\z=k)))(e0:bP [bk,K,.int c,.int (y/5)]=some Y)(e1:bP [bk,K,.int z,.int (y/7)]=some x1)(e2:bP [bk,K,.int z,.int (y/11)]=some M)(pu:nE (.lst ([Y,x1]++[M])) (.int a) s=some (.lst [F,B,G]))
  (a0:aI F (.int 0)=some U) (a1:aI B (.int 0)=some p1) (a2:aI G (.int 0)=some p2) (b0:aI F (.int 1)=some N) (b1:aI B (.int 1)=some r1) (b2:aI G (.int 1)=some r2) (eo:aX [.tup [.str "pick",.int c,.int z,U,p1,p2],.tup [.str "pick",.int c,.int z,N,r1,r2,.tup []],.int z,.lst [F,B,G],.int 0]=some R):iX [bk,K,s,.int y]=some R:=by
 refine aF ?_;unfold nR;rw[aH (aN (d:=.int a) (by ac_rfl)),aH (aN (d:=.int k) (by ac_rfl)),aH (aN (d:=.int k) (by ac_rfl))];have ei:zX (rK (bC iG (aD 4) (eC (.int 0)))) (eE 6 (bC dM (bC iU (aD 3) (eC (.int 3))) (aT fV (aC (bC aI (aD 0) (eC (.int 1))) aZ)))) (eE 5 (bC dM (bC iU (aD 3) (eC (.int 3))) (aT fV (aC (bC aI (aD 0) (eC (.int 1))) aZ)))) [some bk,some K,some s,some (.int y),some (.int a),some (.int k),some (.int k),none,none]=some (.nx [some bk,some K,some s,some (.int y),some (.int a),some (.int c),some (.int z),none,none]):=by
  obtain⟨q,W,⟨h,rfl,rfl⟩|⟨h,rfl,rfl⟩⟩:=hq
  ·simp_all[h,J,iS,W]
  ·simp_all[h,J,iS,W]
 refine Eq.trans (aH ei) ?_
 ac_rfl
theorem xX(B:OkB C)(hk:kn.length<=100)(G:Gs U C kn g k n)(y0:0<=y)(y1:y<10^60):∃g' k' M,iX [a9 C,.lst (kn.map bK),bH C g k r,.int y]=some (bH C g' k' M)/\Gs U C kn g' k' (n+3):=by
 have ao:=Ten
 have mp:(0:Int)<(C.kinds.length:Int):=by have:=B.k1;lia
 have F:=zat (y/3) (zaQ mp);have J:=zav (y/3) mp;have sz:=G.sz;have dm:∀ {a:Int},y%3=a->dM (.int y) (.int 3)=some (.int a):=λ{a} h=>by rw[bO (by decide),h]
 have dq:dM (.int (y/3)) (.int ((C.kinds.map D.str).length:Int))=some (.int (y/3%(C.kinds.length:Int))):=by rw[zah];exact bO mp
 have N:∀(k:Int),0<=k->k<(C.kinds.length:Int)->∀c:Int,0<=c->c<10^60->_:=λk h0 h1 c c0 c1=>dR B (kn:=kn) (k:=k) (c:=c) hk h0 h1 c0 c1
 generalize y/3%(C.kinds.length:Int)=q at F J dq;by_cases h:y%3=0
 ·obtain⟨z,e0,w0,s0,l0,o0⟩:=N k G.k0 G.k1 (y/5) (by lia) (by lia)
  obtain⟨g1,e1,w1,s1,l1,o1⟩:=N q F J (y/7) (by lia) (by lia);obtain⟨g2,e2,w2,s2,l2,o2⟩:=N q F J (y/11) (by lia) (by lia);obtain⟨M,Y⟩:=yI (C:=C) (c:=k) (j:=q) (k:=q) (g:=g) (k1:=k) (r1:=r) (g':=g1) (k2:=q) (r2:=0) (g2:=g2) (k3:=q) (r3:=0);have W:nE (.lst [bH C z k 0,bH C g1 q 0,bH C g2 q 0]) (.int 0) (bH C g k r)=some (.lst [bH C g k r,bH C g1 q 0,bH C g2 q 0]):=nB (by decide) (by simp_all);exact⟨.pick k q g g1 g2 [],q,M,mO (dm h) FU FM ⟨q,dq,.inl ⟨rfl,rfl,rfl⟩⟩ e0 e1 e2 W vS vS vS vT vT vT Y,⟨⟨⟨G.k0,G.k1⟩,⟨F,J⟩,G.wf,w1,w2,rfl⟩,F,J,by simp only[size];lia,⟨G.nf,o1 _ _,o2 _ _⟩⟩⟩
 ·obtain⟨z,e0,w0,s0,l0,o0⟩:=N q F J (y/5) (by lia) (by lia)
  obtain⟨g1,e1,w1,s1,l1,o1⟩:=N k G.k0 G.k1 (y/7) (by lia) (by lia);obtain⟨g2,e2,w2,s2,l2,o2⟩:=N k G.k0 G.k1 (y/11) (by lia) (by lia);rcases(by lia:y%3=1\/y%3=2)with h|h
  ·obtain⟨M,Y⟩:=yI (C:=C) (c:=q) (j:=k) (k:=k) (g:=z) (k1:=q) (r1:=0) (g':=g) (k2:=k) (r2:=r) (g2:=g2) (k3:=k) (r3:=0)
   have W:nE (.lst [bH C z q 0,bH C g1 k 0,bH C g2 k 0]) (.int 1) (bH C g k r)=some (.lst [bH C z q 0,bH C g k r,bH C g2 k 0]):=nB (by decide) (by simp_all);exact⟨.pick q k z g g2 [],k,M,mO (dm h) FU FM ⟨q,dq,.inr ⟨by decide,rfl,rfl⟩⟩ e0 e1 e2 W vS vS vS vT vT vT Y,⟨⟨⟨F,J⟩,⟨G.k0,G.k1⟩,w0,G.wf,w2,rfl⟩,G.k0,G.k1,by simp only[size];lia,⟨o0 _ _,G.nf,o2 _ _⟩⟩⟩
  ·obtain⟨M,Y⟩:=yI (C:=C) (c:=q) (j:=k) (k:=k) (g:=z) (k1:=q) (r1:=0) (g':=g1) (k2:=k) (r2:=0) (g2:=g) (k3:=k) (r3:=r)
   have W:nE (.lst [bH C z q 0,bH C g1 k 0,bH C g2 k 0]) (.int 2) (bH C g k r)=some (.lst [bH C z q 0,bH C g1 k 0,bH C g k r]):=nB (by decide) (by simp_all);exact⟨.pick q k z g1 g [],k,M,mO (dm h) FU FM ⟨q,dq,.inr ⟨by decide,rfl,rfl⟩⟩ e0 e1 e2 W vS vS vS vT vT vT Y,⟨⟨⟨F,J⟩,⟨G.k0,G.k1⟩,w0,w1,G.wf,rfl⟩,G.k0,G.k1,by simp only[size];lia,⟨o0 _ _,o1 _ _,G.nf⟩⟩⟩
theorem GS(z:kn.length<=99):eY (.lst (kn.map bK)) (.lst [.tup [.str x,.int k]])=some (.lst ((kn++[(x,k)]).map bK)):=by
 have q:a7 (kn.length+1)=true:=decide_eq_true (by lia);simp_all[q,bK]
theorem wM:∀p∈kn++[x],p∈x::kn:=λp q=>by
 rcases List.mem_append.mp q with z|z
 ·exact zap _ z
 ·rw[List.mem_singleton.mp z];exact zar ..
theorem yA(B:OkB C)(M:kn.length<=99)(hx:x∉kn.map (·.1))(N:x∈U)(G:Gs U C kn g k n)(y0:0<=y)(y1:y<10^60):∃g' z q,nL [a9 C,.lst (kn.map bK),bH C g k r,.str x,.int y]=some (bH C g' z q)/\Gs U C kn g' z (n+2):=by
 have W:=Ten
 have a0:=zat y (show(4:Int)≠0 by decide);have a1:=zav y (show(0:Int)<4 by decide);have sz:=G.sz;obtain⟨F,J,w0,s0,l0,Y⟩:=dR B (kn:=kn++[(x,k)]) (k:=k) (c:=y/4) (by simp_all;lia) G.k0 G.k1 (by lia) (by lia);obtain⟨q,eo⟩:=A9 (C:=C) (x:=x) (n:=y%4) (j:=k) (k:=k) (g:=g) (k1:=k) (r1:=r) (g':=F) (k2:=k) (r2:=0);refine⟨.again (y%4) k x g F [],k,q,aF ?_,⟨⟨⟨a0,a1⟩,⟨G.k0,G.k1⟩,G.wf,w0.mono wM,rfl⟩,G.k0,G.k1,by simp only[size];lia,⟨G.nf,⟨hx,N⟩,Y _ _⟩⟩⟩;have ks:=GS (x:=x) (k:=k) M;generalize D.lst ((kn++[(x,k)]).map bK)=K at ks J;generalize D.lst (kn.map bK)=K0 at ks;unfold nS
 ac_rfl
theorem AB(B:OkB C)(Y:kn.length<=99)(hx:x∉kn.map (·.1))(hU:x∈U)(G:Gs U C kn g k n)(y0:0<=y)(y1:y<10^60):∃g' J z,qY [a9 C,.lst (kn.map bK),bH C g k r,.str x,.int y]=some (bH C g' J z)/\Gs U C kn g' J (n+2):=by
 have aa:=Ten
 have q:(0:Int)<(C.kinds.length:Int):=by have:=B.k1;lia
 have F:=zat y (zaQ q);have N:=zav y q;have sz:=G.sz;obtain⟨M,W,w0,s0,l0,o0⟩:=dR B (kn:=kn++[(x,k)]) (k:=y%(C.kinds.length:Int)) (c:=y/4) (by simp_all;lia) F N (by lia) (by lia);obtain⟨z,eo⟩:=OU (C:=C) (x:=x) (j:=k) (k:=y%(C.kinds.length:Int)) (g:=g) (k1:=k) (r1:=r) (g':=M) (k2:=y%(C.kinds.length:Int)) (r2:=0);have dk:dM (.int y) (.int ((C.kinds.map D.str).length:Int))=some (.int (y%(C.kinds.length:Int))):=by rw[zah];exact bO q
 refine⟨.lett x k g M,y%(C.kinds.length:Int),z,aF ?_,⟨⟨G.wf,w0.mono wM⟩,F,N,by simp only[size];lia,⟨G.nf,⟨hx,hU⟩,o0 _ _⟩⟩⟩;have ks:=GS (x:=x) (k:=k) Y;generalize D.lst ((kn++[(x,k)]).map bK)=K at ks W;generalize D.lst (kn.map bK)=K0 at ks;unfold qE
 ac_rfl
theorem x9(B:OkB C)(hk:kn.length<=99)(hx:x∉kn.map (·.1))(Y:x∈U)(G:Gs U C ((x,j)::kn) g k n)(M:0<=j)(N:j<(C.kinds.length:Int))(y0:0<=y)(y1:y<10^60):∃g' J q,iY [a9 C,.lst (kn.map bK),bH C g k r,bK (x,j),.int y]=some (bH C g' J q)/\Gs U C kn g' J (n+2):=by
 suffices h:∃d,iY [a9 C,.lst (kn.map bK),bH C g k r,bK (x,j),.int y]=some d/\∃g' J q,d=bH C g' J q/\Gs U C kn g' J (n+2) by
  obtain⟨d,h1,g',J,q,rfl,h2⟩:=h;exact⟨g',J,q,h1,h2⟩
 have ag:=Ten
 have sz:=G.sz;obtain⟨F,e0,w0,s0,l0,o0⟩:=dR B (kn:=kn) (k:=j) (c:=y/8) (by lia) M N (by lia) (by lia);refine dZ ?_;unfold nN;rw[aH (ρ':=[some (a9 C),some (.lst (kn.map bK)),some (bH C g k r),some (bK (x,j)),some (.int y),some (.str x),some (.int j),none,none,none,none,none]) (by simp_all[aE];simp_all[bK])];rw[aH (aN (d:=bH C F j 0) (by simp_all[iS,e0]))];rw[aH (aN (d:=.lst [bH C F j 0,bH C g k r]) (by simp_all))];have hl:∃d,dA (eE 9 (fK (aC (eC (.str "let")) (aC (aD 5) (aC (aD 6) (aC (bC aI (aD 7) (eC (.int 1))) (aC (bC aI (aD 2) (eC (.int 1))) aZ)))))))
   (LM (aT aX (aC (fK (aC (eC (.str "let")) (aC (aD 5) (aC (bC aI (aD 7) (eC (.int 0))) (aC (bC aI (aD 2) (eC (.int 0))) aZ))))) (aC (aD 9) (aC (bC aI (aD 2) (eC (.int 2))) (aC (aD 8) (aC (eC (.int 0)) aZ))))))) [some (a9 C),some (.lst (kn.map bK)),some (bH C g k r),some (bK (x,j)),some (.int y),some (.str x),some (.int j),some (bH C F j 0),some (.lst [bH C F j 0,bH C g k r]),none,none,none]=some (.rt d)/\∃g' J q,d=bH C g' J q/\Gs U C kn g' J (n+2):=by
  obtain⟨q,eo⟩:=OU (C:=C) (x:=x) (j:=j) (k:=k) (g:=F) (k1:=j) (r1:=0) (g':=g) (k2:=k) (r2:=r);refine⟨bH C (.lett x j F g) k q,?_,.lett x j F g,k,q,rfl,⟨⟨w0,G.wf⟩,G.k0,G.k1,by simp only[size];lia,⟨o0 _ _,⟨hx,Y⟩,G.nf⟩⟩⟩
  ac_rfl
 have done:∀b:Bool,VI (rK (bC iG (bC dM (aD 4) (eC (.int 2))) (eC (.int 0)))) (VI (rK (bC zZ (aD 6) (bC aI (aD 2) (eC (.int 2))))) (rK (bC DD (bC aI (aD 2) (eC (.int 5))) (eC (.int 1))))) [some (a9 C),some (.lst (kn.map bK)),some (bH C g k r),some (bK (x,j)),some (.int y),some (.str x),some (.int j),some (bH C F j 0),some (.lst [bH C F j 0,bH C g k r]),none,none,none]=some b->(b=false->j=k)->∃d,dA (zX (VI (rK (bC iG (bC dM (aD 4) (eC (.int 2))) (eC (.int 0)))) (VI (rK (bC zZ (aD 6) (bC aI (aD 2) (eC (.int 2))))) (rK (bC DD (bC aI (aD 2) (eC (.int 5))) (eC (.int 1)))))) (dA (eE 9 (fK (aC (eC (.str "let")) (aC (aD 5) (aC (aD 6) (aC (bC aI (aD 7) (eC (.int 1))) (aC (bC aI (aD 2) (eC (.int 1))) aZ)))))))
   (LM (aT aX (aC (fK (aC (eC (.str "let")) (aC (aD 5) (aC (bC aI (aD 7) (eC (.int 0))) (aC (bC aI (aD 2) (eC (.int 0))) aZ))))) (aC (aD 9) (aC (bC aI (aD 2) (eC (.int 2))) (aC (aD 8) (aC (eC (.int 0)) aZ)))))))) VF)
   (dA (eE 10 (bC dM (bC iU (aD 4) (eC (.int 2))) (eC (.int 4))))
   (dA (eE 11 (fK (aC (eC (.str "again")) (aC (aD 10) (aC (aD 6) (aC (aD 5) (aC (bC aI (aD 7) (eC (.int 0))) (aC (bC aI (aD 2) (eC (.int 0))) aZ))))))))
   (LM (aT aX (aC (aD 11) (aC (fK (aC (eC (.str "again")) (aC (aD 10) (aC (aD 6) (aC (aD 5) (aC (bC aI (aD 7) (eC (.int 1))) (aC (bC aI (aD 2) (eC (.int 1))) (aC (fK aZ) aZ)))))))) (aC (aD 6) (aC (aD 8) (aC (eC (.int 0)) aZ))))))))) [some (a9 C),some (.lst (kn.map bK)),some (bH C g k r),some (bK (x,j)),some (.int y),some (.str x),some (.int j),some (bH C F j 0),some (.lst [bH C F j 0,bH C g k r]),none,none,none]=some (.rt d)/\∃g' J q,d=bH C g' J q/\Gs U C kn g' J (n+2):=by
  intro b hb hj;refine HH b hb (λ_=>hl) λhf=>?_
  have W:=hj hf;subst W;have a0:=zat (y/2) (show(4:Int)≠0 by decide);have a1:=zav (y/2) (show(0:Int)<4 by decide);obtain⟨q,eo⟩:=A9 (C:=C) (x:=x) (n:=y/2%4) (j:=j) (k:=j) (g:=F) (k1:=j) (r1:=0) (g':=g) (k2:=j) (r2:=r);refine⟨bH C (.again (y/2%4) j x F g []) j q,?_,.again (y/2%4) j x F g [],j,q,rfl,⟨⟨⟨a0,a1⟩,⟨M,N⟩,w0,G.wf,rfl⟩,M,N,by simp only[size];lia,⟨o0 _ _,⟨hx,Y⟩,G.nf⟩⟩⟩
  ac_rfl
 by_cases h1:y%2=0
 ·exact done true (by simp_all[bO,h1]) (λz=>nomatch z)
 ·by_cases h2:j=k
  ·exact done (decide (1<r)) (by simp_all[bO,h1,FU,h2,qbY]) λ_=>h2
  ·exact done true (by simp_all[bO,h1,FU,h2]) (λz=>nomatch z)
theorem RO(h:bK p=bK q):p=q:=by
 unfold bK at h;injection h with h
 injection h with h1 h2
 injection h2 with h2 _
 injection h1 with h1
 injection h2 with h2
 exact Prod.ext h1 h2
theorem VP:zZ (bK p) (bK q)=some (.bl (decide (p≠q))):=by
 have o:∀p:Str×Int,fL (bK p)=true:=λp=>(eqN.tup (n:=0) (l:=[.str p.1,.int p.2]) (by
  intro d hd;rcases List.mem_cons.mp hd with z|z
  ·rw[z];exact eqN.str
  ·rw[List.mem_singleton.mp z];exact eqN.int)).ok (by decide)
 unfold zZ LK;rw[if_pos (.inr ⟨rfl,rfl,o p,o q⟩)];by_cases h:p=q
 ·subst h;simp_all
 ·have h2:¬ bK p=bK q:=λz=>h (RO z)
  simp_all[h,h2]
theorem wX:∀(kn:List (Str×Int)) (o:Option D),bE (aR 0) (rK (bC zZ (aD 0) (bC aI (aD 1) (eC (.int 0))))) (aD 0) (kn.map bK) [o,some (.lst ((q::left).map bK))]=some ((kn.filter λp=>decide (p≠q)).map bK)
 | [],o=>rfl
 | p::kn,o=>by
  have ih:=wX (q:=q) (left:=left) kn (some (bK p));by_cases h:p=q
  ·simp[-zac,-zab,aA,aB,bE,at0,VP,h]at ih ⊢;simp_all[ih]
  ·simp[-zac,-zab,aA,aB,bE,at0,VP,h]at ih ⊢;simp_all[ih]
theorem DL{B:Type}[DecidableEq B]{q:B}{P L:List B}(J:q∉P)(G:q∉L):(P++q::L).filter (λp=>decide (p≠q))=P++L:=by
 have f:∀ {l:List B},q∉l->l.filter (λp=>decide (p≠q))=l:=λ{l} h=>List.filter_eq_self.mpr λa F=>decide_eq_true λz=>h (z ▸ F)
 rw[List.filter_append,zcd,if_neg (by simp_all),f J,f G]
structure Sc(nms:List Str)(kn:List (Str×Int)):Prop where
 nd:(kn.map (·.1)).Nodup
 sub:∀p∈kn,p.1∈nms.take 5
theorem Sc.out(B:nms.Nodup)(S:Sc nms kn)(hi:5<=i)(hx:nms[i]?=some x):x∉kn.map (·.1):=λz=>by
 obtain⟨p,G,e⟩:=List.mem_map.mp z;have h1:=S.sub p G;rw[e]at h1;obtain⟨j,q⟩:=List.mem_iff_getElem?.mp h1;have J:=(List.getElem?_eq_some_iff.mp q).1;rw[zbY]at J;rw[List.getElem?_take_of_lt (by lia)]at q;obtain⟨N,F⟩:=List.getElem?_eq_some_iff.mp q;obtain⟨U,M⟩:=List.getElem?_eq_some_iff.mp hx;have:=(zdV B).mp (F.trans M.symm)
 lia
def Now(C:Bk)(nms:List Str)(P:List (Str×Int))(m:Nat)(q:D):Prop:=∃g k r left,q=.tup [bH C g k r,.lst (left.map bK),.lst ((P++left).map bK)]/\Gs nms C (P++left) g k (15-2*m)/\OkN C (P++left)/\left.length=m/\m<=2/\P.length<=3/\Sc nms (P++left)
theorem sW{C:Bk}(B:OkB C){nms:List Str}(h8:nms.length=8)(ae:nms.Nodup){P:List (Str×Int)}{m:Nat}{y:Int}(y0:0<=y)(y1:y<10^60)(N:Now C nms P m now):∃Y U,jD [a9 C,.lst (nms.map .str),now,.int y]=some Y/\Now C nms P U Y/\U<=m/\(4<y%7->0<m->U<m):=by
 suffices h:∃d,jD [a9 C,.lst (nms.map .str),now,.int y]=some d/\∃U,Now C nms P U d/\U<=m/\(4<y%7->0<m->U<m) by
  obtain⟨d,h1,U,h2⟩:=h;exact⟨d,U,h1,h2⟩
 have a6:=Ten
 obtain⟨g,k,r,left,rfl,G,K,M,ar,af,S⟩:=N;have ab:(P++left).length<=10:=by rw[zbb];lia
 have zk:a7 (P++left).length=true:=decide_eq_true (by lia);refine dZ ?_;unfold sZ;rw[aH (ρ':=[some (a9 C),some (.lst (nms.map .str)),some (.tup [bH C g k r,.lst (left.map bK),.lst ((P++left).map bK)]),some (.int y),some (bH C g k r),some (.lst (left.map bK)),some (.lst ((P++left).map bK)),none,none]) (by ac_rfl)];refine HH (decide (4<y%7) && decide (0<left.length)) ?_ ?_ ?_
 ·by_cases h1:4<y%7 <;> simp_all[bO,h1]
 ·intro W
  rw[zaS]at W;have h1:4<y%7:=of_decide_eq_true W.1;have h2:0<left.length:=of_decide_eq_true W.2
  match left,h2,M,K,S,G,zk,ab with
  | (x,j)::left,h2,M,K,S,G,zk,ab=>
   have es:=wX (q:=(x,j)) (left:=left) (P++(x,j)::left) none;have nd:=S.nd;rw[zaI,zak,zdL]at nd;have ag:=List.nodup_cons.mp nd.2.1;have x1:x∉P.map (·.1):=λz=>nd.2.2 _ z _ (zar ..) rfl
   have x2:x∉left.map (·.1):=ag.1;have q1:(x,j)∉P:=λz=>x1 (List.mem_map.mpr ⟨_,z,rfl⟩)
   have q2:(x,j)∉left:=λz=>x2 (List.mem_map.mpr ⟨_,z,rfl⟩)
   rw[DL q1 q2]at es;have lj:=K (x,j) (by simp_all);have hx:x∉(P++left).map (·.1):=by
    rw[zaI];intro z;rcases List.mem_append.mp z with z|z
    ·exact x1 z
    ·exact x2 z
   have ak:∀p∈P++(x,j)::left,p∈(x,j)::(P++left):=λp hp=>by
    rcases List.mem_append.mp hp with z|z
    ·exact zap _ (zbt _ z)
    ·rcases List.mem_cons.mp z with z|z
     ·rw[z];exact zar ..
     ·exact zap _ (zaU _ z)
   have ad:∀y∈((x,j)::(P++left)).map (·.1),y∈(P++(x,j)::left).map (·.1):=λy hy=>by
    simp only[zak,zaI,zaX,List.mem_append]at hy ⊢;rcases hy with z|z|z
    ·exact .inr (.inl z)
    ·exact .inl z
    ·exact .inr (.inr z)
   rw[zbb,zaz]at ab;obtain⟨g',k',r',ec,G'⟩:=x9 B (kn:=P++left) (by rw[zbb];lia) (g:=g) (j:=j) (k:=k) (r:=r) (y:=y/7) (x:=x) (n:=15-2*m) hx (List.mem_of_mem_take (S.sub (x,j) (by simp_all))) ⟨G.wf.mono ak,G.k0,G.k1,G.sz,G.nf.anti ad⟩ lj.1 lj.2 (by lia) (by lia);have ms:∀p∈P++left,p∈P++(x,j)::left:=λp hp=>by
    rcases List.mem_append.mp hp with z|z
    ·exact zbt _ z
    ·exact zaU _ (zap _ z)
   rw[aH (aN (d:=.lst ((P++left).map bK)) (by
    generalize (P++(x,j)::left)=kn at es zk;simp_all[zk,jW];simp[-zac,-zab,aA,aB]at es;simp_all[es]))]
   have ax:left.length+1=m:=M;have cc:cutD (((x,j)::left).map bK) (some 1) none=left.map bK:=by
    rw[zak];unfold _root_.P.cutD;have s1:HT.sIx (bK (x,j)::left.map bK).length 0 (some 1)=1:=by
     unfold HT.sIx;simp_all
    have s2:HT.sIx (bK (x,j)::left.map bK).length (bK (x,j)::left.map bK).length none=left.length+1:=by
     unfold HT.sIx;simp_all
    rw[s1,s2];show(left.map bK).take (left.length+1-1)=_;rw[Nat.add_sub_cancel,zbN (by simp_all)]
   refine⟨.tup [bH C g' k' r',.lst (left.map bK),.lst ((P++left).map bK)],?_,left.length,⟨g',k',r',left,rfl,G'.mono (by lia),λp hp=>K p (ms p hp),rfl,by lia,af,⟨by rw[zaI,zdL];exact⟨nd.1,ag.2,λa ha b W=>nd.2.2 a ha b (zap _ W)⟩,λp hp=>S.sub p (ms p hp)⟩⟩,by lia,λ_ _=>by lia⟩;rw[zak]at cc;have cs:FN (.lst (bK (x,j)::left.map bK)) (some 1) none=some (.lst (left.map bK)):=by
    show some (D.lst _)=_;rw[cc]
   rw[zak]
   ac_rfl
 ·intro W
  obtain⟨g1,k1,ew,G1,sg,lg⟩:=nM B K (r:=r) (c:=y/50) G (by lia);rw[aH (aN (d:=bH C g1 k1 r) (by ac_rfl))];rw[aH (aN (d:=.int 2) (by simp_all))];refine gJ (λρ=>∃F:Int,ρ=[some (a9 C),some (.lst (nms.map .str)),some (.tup [bH C g k r,.lst (left.map bK),.lst ((P++left).map bK)]),some (.int y),some (bH C g1 k1 r),some (.lst (left.map bK)),some (.lst ((P++left).map bK)),none,some (.int F)]) ?_ ?_
  ·by_cases h:(4:Int)<(C.kinds.length:Int)
   ·have dg:DD (.int ((C.kinds.map D.str).length:Int)) (.int 4)=some (.bl true):=by simp_all[h]
    exact⟨_,by ac_rfl,1,rfl⟩
   ·have dg:DD (.int ((C.kinds.map D.str).length:Int)) (.int 4)=some (.bl false):=by simp_all[h]
    exact⟨_,by ac_rfl,2,rfl⟩
  ·rintro ρ ⟨F,rfl⟩
   have n5:∃s:Str,gE (nms.map D.str) 5=some (.str s)/\s∉(P++left).map (·.1)/\s∈nms:=by
    obtain⟨s,hs⟩:∃s,nms[5]?=some s:=⟨nms[5],zaP (by lia)⟩;exact⟨s,bV (j:=5) (by rw[zaA,hs];rfl),S.out ae (i:=5) (by decide) hs,zaw hs⟩
   have n6:∃s:Str,gE (nms.map D.str) 6=some (.str s)/\s∉(P++left).map (·.1)/\s∈nms:=by
    obtain⟨s,hs⟩:∃s,nms[6]?=some s:=⟨nms[6],zaP (by lia)⟩;exact⟨s,bV (j:=6) (by rw[zaA,hs];rfl),S.out ae (i:=6) (by decide) hs,zaw hs⟩
   obtain⟨x5,n5,an,aq⟩:=n5;obtain⟨x6,n6,ap,ao⟩:=n6;have dl:fV [.lst (left.map bK)]=some (.int (left.length:Int)):=by simp_all
   have nh:¬ (4<y%7/\0<left.length):=λ⟨a,b⟩=>by rw[decide_eq_true a,decide_eq_true b]at W;cases W
   refine gJ (λρ=>∃g2 k2 r2,ρ=[some (a9 C),some (.lst (nms.map .str)),some (.tup [bH C g k r,.lst (left.map bK),.lst ((P++left).map bK)]),some (.int y),some (bH C g2 k2 r2),some (.lst (left.map bK)),some (.lst ((P++left).map bK)),none,some (.int F)]/\Gs nms C (P++left) g2 k2 (15-2*m)) ?_ ?_
   ·by_cases h9:size g1<9
    ·have G8:Gs nms C (P++left) g1 k1 8:=⟨G1.wf,G1.k0,G1.k1,by lia,G1.nf⟩
     have am:(size g1:Int)<9:=by lia
     by_cases h3:y%7<3
     ·obtain⟨g2,k2,r2,e2,J⟩:=EA B (by lia) (r:=r) (c:=y/7) G8 (by lia) (by lia)
      exact⟨_,by ac_rfl,g2,k2,r2,rfl,J.mono (by lia)⟩
     ·by_cases h4:y%7=3
      ·obtain⟨g2,k2,r2,e2,J⟩:=xX B (by lia) (r:=r) (y:=y/7) G8 (by lia) (by lia)
       exact⟨_,by ac_rfl,g2,k2,r2,rfl,J.mono (by lia)⟩
      ·by_cases h5:y%7=4
       ·obtain⟨g2,k2,r2,e2,J⟩:=yA B (by lia) (r:=r) (y:=y/7) (x:=x5) an aq G8 (by lia) (by lia)
        exact⟨_,by ac_rfl,g2,k2,r2,rfl,J.mono (by lia)⟩
       ·by_cases h6:lets g1+(left.length:Int)<F
        ·obtain⟨g2,k2,r2,e2,J⟩:=AB B (by lia) (r:=r) (y:=y/7) (x:=x6) ap ao G8 (by lia) (by lia)
         exact⟨_,by ac_rfl,g2,k2,r2,rfl,J.mono (by lia)⟩
        ·exact⟨_,by ac_rfl,g1,k1,r,rfl,G1⟩
    ·have am:¬ (size g1:Int)<9:=by lia
     exact⟨_,by ac_rfl,g1,k1,r,rfl,G1⟩
   ·rintro ρ ⟨g2,k2,r2,rfl,J⟩
    exact⟨_,by simp_all,m,⟨g2,k2,r2,left,rfl,J,K,M,ar,af,S⟩,zaj _,λa b=>absurd ⟨a,by lia⟩ nh⟩
theorem OkN.snoc(h:OkN C kn)(a:0<=p.2/\p.2<(C.kinds.length:Int)):OkN C (kn++[p]):=λq B=>by
 rcases List.mem_append.mp B with z|z
 ·exact h q z
 ·rw[List.mem_singleton.mp z];exact a
theorem OkN.app(h:OkN C kn)(h':OkN C kn'):OkN C (kn++kn'):=λq B=>by
 rcases List.mem_append.mp B with z|z
 ·exact h q z
 ·exact h' q z
theorem VQ{nms:List Str}{i:Int}(z:0<=i)(h:i<(nms.length:Int)):∃s:Str,gE (nms.map D.str) i=some (.str s)/\nms[i.toNat]?=some s:=by
 obtain⟨j,rfl⟩:∃j:Nat,i=(j:Int):=⟨i.toNat,by lia⟩;have q:j<nms.length:=by lia
 exact⟨nms[j],bV (by rw[zaA,zaP q];rfl),by rw[zbA];exact zaP q⟩
theorem AA{ns:List Int}{C:Bk}(B:OkB C){nms:List Str}(U:nms.length=8):∃ps,kQ [.lst (ns.map .int),a9 C,.lst (nms.map .str)]=some (.lst (ps.map bK))/\OkN C ps/\ps.length<=3/\ps.map (·.1)=nms.take ps.length:=by
 suffices h:∃d,kQ [.lst (ns.map .int),a9 C,.lst (nms.map .str)]=some d/\∃ps,d=.lst (ps.map bK)/\OkN C ps/\ps.length<=3/\ps.map (·.1)=nms.take ps.length by
  obtain⟨d,h1,ps,rfl,h2⟩:=h;exact⟨ps,h1,h2⟩
 obtain⟨f,J⟩:=dS ns;have N:=(J 17 (by decide) (by decide)).1;have G:(0:Int)<(C.kinds.length:Int):=by have:=B.k1;lia
 have a0:=zat (f 17) (show(4:Int)≠0 by decide);have a1:=zav (f 17) (show(0:Int)<4 by decide);refine dZ ?_;unfold pV;rw[aH (aN (d:=.lst []) (by simp_all))];refine jP (items:=aU 0 1 (f 17%4).toNat) (by have r:=eL a0 (show f 17%4<=1000000 by lia);ac_rfl) (λi ρ=>∃(ps:List (Str×Int)) (o:Option D),ρ=[some (.lst (ns.map .int)),some (a9 C),some (.lst (nms.map .str)),some (.lst (ps.map bK)),o]/\OkN C ps/\ps.length=i/\ps.map (·.1)=nms.take i) ⟨[],none,by ac_rfl,(λ_ h=>nomatch h),rfl,by simp_all⟩ ?_ ?_
 ·rintro i x ρ hx ⟨ps,o,rfl,K,F,q⟩
  obtain⟨W,rfl⟩:=b7 hx;have M:0<=(0:Int)+(i:Int)*1/\(0:Int)+(i:Int)*1<=3:=by lia
  have z:((0:Int)+(i:Int)*1).toNat=i:=by lia
  generalize (0:Int)+(i:Int)*1=I at M z;have fI:=(J (18+I) (by lia) (by lia)).1;obtain⟨s,es,hs⟩:=VQ (nms:=nms) (i:=I) M.1 (by rw[U];lia);rw[z]at hs;have hz:(ps.map bK).length<=1000000:=by rw[zah];lia
  have Y:dM (.int (f (18+I))) (.int ((C.kinds.map D.str).length:Int))=some (.int (f (18+I)%(C.kinds.length:Int))):=by rw[zah];exact bO G
  apply zA
  ·exact C9 rfl (by ac_rfl)
  refine⟨ps++[(s,f (18+I)%(C.kinds.length:Int))],_,by rw[zaI];rfl,K.snoc ⟨zat _ (zaQ G),zav _ G⟩,by simp_all[F],by rw[zaI,q,zcY,hs];rfl⟩
 ·rintro ρ ⟨ps,o,rfl,K,F,q⟩
  rw[bI]at F q;exact⟨_,by simp_all,ps,rfl,K,by lia,by rw[q,F]⟩
theorem AJ{ns:List Int}{C:Bk}(B:OkB C){nms:List Str}(h8:nms.length=8){ps:List (Str×Int)}(Y:nms.Nodup)(P:OkN C ps)(N:ps.length<=3)(ac:ps.map (·.1)=nms.take ps.length):∃G m,kI [.lst (ns.map .int),a9 C,.lst (nms.map .str),.lst (ps.map bK)]=some G/\Now C nms ps m G:=by
 suffices h:∃d,kI [.lst (ns.map .int),a9 C,.lst (nms.map .str),.lst (ps.map bK)]=some d/\∃m,Now C nms ps m d by
  obtain⟨d,h1,m,h2⟩:=h;exact⟨d,m,h1,h2⟩
 obtain⟨f,hf⟩:=dS ns;have ak:=(hf 17 (by decide) (by decide)).1;have aa:=hf 24 (by decide) (by decide);have U:(0:Int)<(C.kinds.length:Int):=by have:=B.k1;lia
 have ah:=Ten
 have M:∀y:Int,0<=y%(C.kinds.length:Int)/\y%(C.kinds.length:Int)<(C.kinds.length:Int):=λy=>⟨zat _ (zaQ U),zav _ U⟩
 have a0:=zat (f 17/4) (show(3:Int)≠0 by decide);have a1:=zav (f 17/4) (show(0:Int)<3 by decide);obtain⟨b,hb⟩:∃b,dLt (.int ((C.kinds.map D.str).length:Int)) (.int 5)=some (.bl b):=⟨_,rfl⟩;obtain⟨e,he,e0,e1⟩:∃e:Int,FS [.bl b]=some (.int e)/\0<=e/\e<=1:=by cases b <;> exact⟨_,rfl,by decide,by decide⟩
 obtain⟨q,eq,q0,q2⟩:∃q:Int,CY [.int (f 17/4%3),.int (1+e)]=some (.int q)/\0<=q/\q<=2:=⟨_,q_min,by split <;> lia,by split <;> lia⟩;refine dZ ?_;unfold qA;rw[aH (aN (d:=.lst []) (by simp_all))];refine jP (items:=aU 0 1 q.toNat) (by have r:=eL q0 (show q<=1000000 by lia);ac_rfl) (λi ρ=>∃(z:List (Str×Int)) (o:Option D),ρ=[some (.lst (ns.map .int)),some (a9 C),some (.lst (nms.map .str)),some (.lst (ps.map bK)),some (.lst (z.map bK)),o,none,none]/\OkN C z/\z.length=i/\z.map (·.1)=(nms.drop 3).take i) ⟨[],none,by ac_rfl,(λ_ h=>nomatch h),rfl,by simp_all⟩ ?_ ?_
 ·rintro i x ρ hx ⟨z,o,rfl,K,W,F⟩
  obtain⟨ai,rfl⟩:=b7 hx;have hI:0<=(0:Int)+(i:Int)*1/\(0:Int)+(i:Int)*1<=3:=by lia
  have J:(3+((0:Int)+(i:Int)*1)).toNat=3+i:=by lia
  generalize (0:Int)+(i:Int)*1=I at hI J;have fI:=(hf (21+I) (by lia) (by lia)).1;obtain⟨s,es,hs⟩:=VQ (nms:=nms) (i:=3+I) (by lia) (by rw[h8];lia);rw[J]at hs;have hz:(z.map bK).length<=1000000:=by rw[zah];lia
  have md:dM (.int (f (21+I))) (.int ((C.kinds.map D.str).length:Int))=some (.int (f (21+I)%(C.kinds.length:Int))):=by rw[zah];exact bO U
  apply zA
  ·exact C9 rfl (by ac_rfl)
  refine⟨z++[(s,f (21+I)%(C.kinds.length:Int))],_,by rw[zaI];rfl,K.snoc (M _),by simp_all[W],by rw[zaI,F,zcY,List.getElem?_drop,hs];rfl⟩
 ·rintro ρ ⟨z,o,rfl,K,W,F⟩
  rw[bI]at W F;have hz:a7 (ps.length+z.length)=true:=decide_eq_true (by lia);have sb:((ps++z).map (·.1)).Sublist (nms.take 5):=by
   rw[zaI,ac,F];have e5:nms.take 5=nms.take 3++(nms.drop 3).take 2:=by rw[<- List.take_add]
   rw[e5];exact(zex N).append (zex (by lia))
  have Sk:Sc nms (ps++z):=⟨sb.nodup ((zdj ..).nodup Y),λp N=>sb.subset (List.mem_map.mpr ⟨p,N,rfl⟩)⟩;rw[aH (aN (d:=.lst ((ps++z).map bK)) (by simp_all[hz]))];have md:dM (.int (f 24)) (.int ((C.kinds.map D.str).length:Int))=some (.int (f 24%(C.kinds.length:Int))):=by rw[zah];exact bO U
  have ao:=aa.1;rw[aH (aN (d:=.int (f 24%(C.kinds.length:Int))) (by ac_rfl))];obtain⟨g,eg,wg,sg,lg,ng⟩:=dR B (kn:=ps++z) (k:=f 24%(C.kinds.length:Int)) (c:=f 24/6) (by simp_all;lia) (M _).1 (M _).2 (by lia) (by lia);refine⟨.tup [bH C g (f 24%(C.kinds.length:Int)) 0,.lst (z.map bK),.lst ((ps++z).map bK)],?_,z.length,g,_,0,z,rfl,⟨wg,(M _).1,(M _).2,by lia,ng _ _⟩,P.app K,rfl,by lia,N,Sk⟩
  ac_rfl
theorem DQ{ns:List Int}(F:ns.length<=63):∃v:Int,tQ [.lst (ns.map .int)]=some (.int v)/\0<=v/\v<=37:=by
 obtain⟨f,z⟩:=dS ns;have q:=(z 17 (by decide) (by decide)).1;have a0:=zat (f 17/12) (show(8:Int)≠0 by decide);have B:=zav (f 17/12) (show(0:Int)<8 by decide);refine⟨if f 17/12%8>(ns.length:Int)-26 then f 17/12%8 else(ns.length:Int)-26,aF ?_,?_,?_⟩
 ·simp_all[tO,aE,q,iS,bO]
 ·split <;> lia
 ·split <;> lia
theorem AF{ns:List Int}(hn:ns.length<=63){C:Bk}(B:OkB C){nms:List Str}(h8:nms.length=8){ps:List (Str×Int)}(M:nms.Nodup)(P:OkN C ps)(hp:ps.length<=3)(ae:ps.map (·.1)=nms.take ps.length):∃g k r,kE [.lst (ns.map .int),a9 C,.lst (nms.map .str),.lst (ps.map bK)]=some (bH C g k r)/\Gs nms C ps g k 15:=by
 suffices h:∃d,kE [.lst (ns.map .int),a9 C,.lst (nms.map .str),.lst (ps.map bK)]=some d/\∃g k r,d=bH C g k r/\Gs nms C ps g k 15 by
  obtain⟨d,h1,g,k,r,rfl,h2⟩:=h;exact⟨g,k,r,h1,h2⟩
 obtain⟨f,hf⟩:=dS ns;have an:=(hf 25 (by decide) (by decide)).1;obtain⟨q,m,eb,N⟩:=AJ (ns:=ns) B h8 M P hp ae;obtain⟨v,ev,v0,v1⟩:=DQ hn;have am:=Ten
 refine dZ ?_;unfold qP;rw[aH (aN (d:=q) (by ac_rfl))];refine jP (items:=aU 0 1 v.toNat) (by have r:=eL v0 (show v<=1000000 by lia);ac_rfl) (λi ρ=>∃(q:D) (m:Nat) (o:Option D),ρ=[some (.lst (ns.map .int)),some (a9 C),some (.lst (nms.map .str)),some (.lst (ps.map bK)),some q,o]/\Now C nms ps m q) ⟨q,m,none,by ac_rfl,N⟩ ?_ ?_
 ·rintro i x ρ hx ⟨q,m,o,rfl,N⟩
  obtain⟨U,rfl⟩:=b7 hx;have hI:0<=(0:Int)+(i:Int)*1/\(0:Int)+(i:Int)*1<=37:=by lia
  generalize (0:Int)+(i:Int)*1=I at hI;have Y:=hf (26+I) (by lia) (by lia);obtain⟨z,m',es,N',_⟩:=sW B h8 M Y.2.1 Y.2.2 N;have:=Y.1;apply zA
  ·exact C9 rfl (by ac_rfl)
  exact⟨z,m',_,rfl,N'⟩
 ·rintro ρ ⟨q,m,o,rfl,N⟩
  have J:m<=2:=by obtain⟨g,k,r,left,rfl,G,K,F,J,_⟩:=N;exact J
  have b0:=zat (f 25/3) (show(16:Int)≠0 by decide);have b1:=zav (f 25/3) (show(0:Int)<16 by decide);have mu:cS (.int 7) (.int (f 25/3%16))=some (.int (7*(f 25/3%16))):=b8 (by decide +kernel) (by decide +kernel) (by lia) (by lia);refine JO (λm ρ=>∃(q:D) (o:Option D),ρ=[some (.lst (ns.map .int)),some (a9 C),some (.lst (nms.map .str)),some (.lst (ps.map bK)),some q,o]/\Now C nms ps m q) (λρ=>∃(q:D) (o:Option D),ρ=[some (.lst (ns.map .int)),some (a9 C),some (.lst (nms.map .str)),some (.lst (ps.map bK)),some q,o]/\Now C nms ps 0 q) m (by lia) ⟨q,o,rfl,N⟩ ?_ ?_
  ·rintro m ρ ⟨q,o,rfl,N⟩
   obtain⟨g,k,r,left,en,G,K,F,J,rest⟩:=N;have N:Now C nms ps m q:=⟨g,k,r,left,en,G,K,F,J,rest⟩;have el:aI q (.int 1)=some (.lst (left.map bK)):=by rw[en,q_itT];exact at1
   by_cases h0:0<m
   ·refine .inl ⟨by simp_all[el,F,h0],?_⟩
    obtain⟨z,m',es,N',_,U⟩:=sW B h8 M (y:=6+7*(f 25/3%16)) (by lia) (by lia) N;exact⟨m',[some (.lst (ns.map .int)),some (a9 C),some (.lst (nms.map .str)),some (.lst (ps.map bK)),some z,o],U (by lia) h0,by ac_rfl,z,o,rfl,N'⟩
   ·have W:m=0:=by lia
    refine .inr ⟨by simp_all[el,F,W],q,o,rfl,W ▸ N⟩
  ·rintro ρ ⟨q,o,rfl,g,k,r,left,rfl,G,K,F,_,_,S⟩
   have ac:left=[]:=List.length_eq_zero_iff.mp F;subst ac;rw[zbw]at G;obtain⟨g1,k1,ew,G1,_,_⟩:=nM B P (r:=r) (c:=f 25) (G.mono (show 15-2*0<=15 by lia)) (by lia);exact⟨bH C g1 k1 r,by ac_rfl,g1,k1,r,rfl,G1⟩
theorem all1{P:D->Prop}(h:P a):∀d∈[a],P d:=λd hd=>by rw[List.mem_singleton.mp hd];exact h
theorem d9{P:D->Prop}{a:D}{l:List D}(h:P a)(t:∀d∈l,P d):∀d∈a::l,P d:=λd hd=>by
 rcases List.mem_cons.mp hd with z|z
 ·rw[z];exact h
 ·exact t d z
theorem ON{Q:Nat->D->Prop}(hs:∀ {n:Nat} {s:Str},Q n (.str s))(hi:∀ {n:Nat} {i:Int},Q n (.int i))(B:∀ {n:Nat} {l:List D},Nat.ble l.length 7=true->(∀d∈l,Q n d)->Q (n+1) (.tup l))(z:∀ {m n:Nat} {d:D},Q m d->m<=n->Q n d):∀g:Rg,Short g->Q (2*size g+2) (rd g):=by
 have F:∀ {w:List Int} {n:Nat},w.length<=6->Q (n+1) (tupI w):=λh=>B (Nat.ble_eq_true_of_le (by rw[zah];lia)) λd hd=>by obtain⟨i,_,rfl⟩:=List.mem_map.mp hd;exact hi
 intro g;induction g with
 | name x j w=>exact λS=>z (B (n:=1) rfl (d9 hs (d9 hs (all1 (F S))))) (by simp only[size];lia)
 | num m j w=>exact λS=>z (B (n:=1) rfl (d9 hs (d9 hi (d9 hi (all1 (F S)))))) (by simp only[size];lia)
 | use1 v nm p w a=>exact λS=>z (B (n:=2*size p+3) rfl (d9 hs (d9 hi (d9 (B rfl (all1 (a S.1))) (all1 (F S.2)))))) (by simp only[size];lia)
 | use2 v nm p q w a b=>exact λS=>z (B (n:=2*(size p+size q)+3) rfl (d9 hs (d9 hi (d9 (B rfl (d9 (z (a S.1) (by lia)) (all1 (z (b S.2.1) (by lia))))) (all1 (F S.2.2)))))) (by simp only[size];lia)
 | lett x j p q a b=>exact λS=>z (B (n:=2*(size p+size q)+2) rfl (d9 hs (d9 hs (d9 hi (d9 (z (a S.1) (by lia)) (all1 (z (b S.2) (by lia)))))))) (by simp only[size];lia)
 | pick c k p q r w a b e=>exact λS=>z (B (n:=2*(size p+(size q+size r))+2) rfl (d9 hs (d9 hi (d9 hi (d9 (z (a S.1) (by lia)) (d9 (z (b S.2.1) (by lia)) (d9 (z (e S.2.2.1) (by lia)) (all1 (F S.2.2.2))))))))) (by simp only[size];lia)
 | again n k x p q w a b=>exact λS=>z (B (n:=2*(size p+size q)+2) rfl (d9 hs (d9 hi (d9 hi (d9 hs (d9 (z (a S.1) (by lia)) (d9 (z (b S.2.1) (by lia)) (all1 (F S.2.2))))))))) (by simp only[size];lia)
theorem WH(g:Rg)(S:Short g):eqN (2*size g+2) (rd g):=ON .str .int (λ_ h=>.tup h) (λh l=>h.mono l) g S
theorem YT:∀g:Rg,∃l,rd g=.tup l
 | .name ..=>⟨_,rfl⟩
 | .num ..=>⟨_,rfl⟩
 | .use1 ..=>⟨_,rfl⟩
 | .use2 ..=>⟨_,rfl⟩
 | .lett ..=>⟨_,rfl⟩
 | .pick ..=>⟨_,rfl⟩
 | .again ..=>⟨_,rfl⟩
theorem zH(o:fL (.tup l)=true):iG (.tup l) (.tup l)=some (.bl true):=by
 unfold iG LK;rw[if_pos (.inr ⟨rfl,rfl,o,o⟩)];simp_all
theorem qas(S:Short g)(h:size g<=24):iG (rd g) (rd g)=some (.bl true):=by
 have o:=(WH g S).ok (by lia);obtain⟨l,e⟩:=YT g;rw[e]at o ⊢;exact zH o
noncomputable def ch:Rg->D
 | .use1 v _ _ _=>.int (v:Int)
 | .use2 v _ _ _ _=>.int (v:Int)
 | .lett _ j _ _=>.int j
 | _=>.non
def ir:Rg->List D
 | .use1 _ _ p _=>[rd p]
 | .use2 _ _ p q _=>[rd p,rd q]
 | .lett _ _ p q=>[rd p,rd q]
 | .pick _ _ p q r _=>[rd p,rd q,rd r]
 | .again _ _ _ p q _=>[rd p,rd q]
 | _=>[]
def wy:Rg->List Int
 | .name _ _ w=>w
 | .num _ _ w=>w
 | .use1 _ _ _ w=>w
 | .use2 _ _ _ _ w=>w
 | .lett _ _ _ _=>[]
 | .pick _ _ _ _ _ w=>w
 | .again _ _ _ _ _ w=>w
theorem YA:cutD [a,b,c,d,e] (some 3) (some 5)=[d,e]:=rfl
theorem WL:cutD [a,b,c,d,e,f,g] (some 3) (some 6)=[d,e,f]:=rfl
theorem W3:cutD [a,b,c,d,e,f,g] (some 4) (some 6)=[e,f]:=rfl
theorem WT:cutD [a,b,c,d] (some 2) (some 4)=[c,d]:=rfl
theorem XR:cutD [a,b,c,d,e,f] (some 3) (some 6)=[d,e,f]:=rfl
theorem XM:cutD [a,b,c,d,e,f] (some 4) (some 6)=[e,f]:=rfl
theorem AS:∀g:Rg,kM [rd g]=some (ch g)
 | .name ..=>aF (by simp_all[dC,aE,rd,ch,at0,mU,jQ])
 | .num ..=>aF (by simp_all[dC,aE,rd,ch,at0,lD,iA])
 | .use1 ..=>aF (by simp_all[dC,aE,rd,ch,at0,at1])
 | .use2 ..=>aF (by simp_all[dC,aE,rd,ch,at0,at1])
 | .lett ..=>aF (by simp_all[dC,aE,rd,ch,at0,at2,jL])
 | .pick ..=>aF (by simp_all[dC,aE,rd,ch,at0,jJ,gR])
 | .again ..=>aF (by simp_all[dC,aE,rd,ch,at0,jM,fS])
theorem pC:∀g:Rg,fN [rd g]=some (.tup (ir g))
 | .name ..=>aF (by simp_all[bR,aE,rd,ir,at0,mU,jQ,zB,n9])
 | .num ..=>aF (by simp_all[bR,aE,rd,ir,at0,lD,iA,y3,nY])
 | .use1 ..=>aF (by simp_all[bR,aE,rd,ir,at0,at2])
 | .use2 ..=>aF (by simp_all[bR,aE,rd,ir,at0,at2])
 | .lett ..=>aF (by simp_all[bR,aE,rd,ir,at0,jL,YA])
 | .pick ..=>aF (by simp_all[bR,aE,rd,ir,at0,jJ,gR,WL])
 | .again ..=>aF (by simp_all[bR,aE,rd,ir,at0,jM,fS,rZ,W3])
theorem NV:∀g:Rg,uJ [rd g]=some (tupI (wy g))
 | .name ..=>aF (by simp_all[f6,aE,rd,wy,at0,jQ,at2])
 | .num ..=>aF (by simp_all[f6,aE,rd,wy,at0,iA,VG])
 | .use1 ..=>aF (by simp_all[f6,aE,rd,wy,at0,pN,VG])
 | .use2 ..=>aF (by simp_all[f6,aE,rd,wy,at0,pN,VG])
 | .lett ..=>aF (by simp_all[f6,aE,rd,wy,at0,tupI])
 | .pick ..=>aF (by simp_all[f6,aE,rd,wy,at0,gR,at6])
 | .again ..=>aF (by simp_all[f6,aE,rd,wy,at0,fS,at6])
theorem sz5:a7 5=true:=rfl
def Cons(d:List (Key×D))(kn:List (Str×Int)):Prop:=∀p∈kn,fM d (.inr p.1:Key)=some (.int p.2)
theorem sA{κ:Type}[DecidableEq κ](l:List (κ×D))(k j:κ)(e:D):fM (putD l k e) j=if j=k then some e else fM l j:=by
 unfold putD;by_cases h:(l.any λp=>decide (p.1=k))=true
 ·rw[if_pos h]
  unfold fM;by_cases B:j=k
  ·subst B
   rw[if_pos rfl];induction l with
   | nil=>simp[-zac,-zab,aA,aB]at h
   | cons p l ih=>
    rw[zak,zbz];by_cases q:p.1=j
    ·simp_all[q]
    ·have:(l.any λp=>decide (p.1=j))=true:=by simpa[q]using h
     simp_all[q];simpa using ih this
  ·rw[if_neg B]
   clear h;induction l with
   | nil=>rfl
   | cons p l ih=>
    rw[zak,zbz,zbz];by_cases q:p.1=k
    ·have:¬ k=j:=λz=>B z.symm
     simp_all[q,this];simpa using ih
    ·by_cases F:p.1=j
     ·simp_all[q,F,B]
     ·simp_all[q,F]
      simpa using ih
 ·rw[if_neg h]
  unfold fM;rw[List.find?_append];by_cases B:j=k
  ·subst B
   rw[if_pos rfl];have:l.find? (λp=>decide (p.1=j))=none:=by
    rw[List.find?_eq_none];intro p q G;exact h (List.any_eq_true.mpr ⟨p,q,G⟩)
   rw[this];simp_all
  ·rw[if_neg B]
   cases e2:l.find? (λp=>decide (p.1=j))with
   | some u=>simp_all
   | none=>simp_all[zaW B]
theorem Cons.put(h:Cons d kn)(hx:x∉kn.map (·.1)):Cons (putD d (.inr x) (.int j)) ((x,j)::kn):=λp q=>by
 rw[sA];rcases List.mem_cons.mp q with z|z
 ·rw[z,if_pos rfl]
 ·rw[if_neg,h p z]
  intro e;injection e with e
  exact hx (List.mem_map.mpr ⟨p,z,e⟩)
theorem QA(h:fM d (.inr x:Key)=some e):aI (.dK d) (.str x)=some e:=by
 show((ZL (.str x)).map λk=>fM d k).join=_;show(some (fM d (.inr x:Key))).join=_;rw[h];rfl
theorem OD(h:d.length<=1000):nE (.dK d) (.str x) e=some (.dK (putD d (.inr x) e)):=by
 have q:nE (.dK d) (.str x) e=(if a7 d.length=true then some (.dK (putD d (.inr x) e))else none):=rfl;rw[q,if_pos (show a7 d.length=true from decide_eq_true (by lia))]
theorem uS{d:List (Key×D)}:(putD d k e).length<=d.length+1:=by
 unfold putD;split <;> simp_all
theorem GD:gP [.dK d]=some (.dK d):=rfl
theorem DO(h:cT [p,.int i]=some .non):dJ [.dK d,p,.int i,c]=some (.dK d):=aF (by simp_all[fX,aE,h,hW])
theorem KF(z:d.length<=1000):dJ [.dK d,.tup [.str "let",.str x,p,q],.int 1,.int j]=some (.dK (putD d (.inr x) (.int j))):=by
 have h:cT [.tup [.str "let",.str x,p,q],.int 1]=some (.str x):=aF (by simp_all[bM,aE,at0,at1]);exact aF (by simp_all[fX,aE,h,hW,GD,at0,OD z])
theorem AI(z:d.length<=1000):dJ [.dK d,.tup [.str "again",.int n,.int k,.str x,p,q],.int 1,c]=some (.dK (putD d (.inr x) (.int k))):=by
 have h:cT [.tup [.str "again",.int n,.int k,.str x,p,q],.int 1]=some (.str x):=aF (by simp_all[bM,aE,at0,VG,fS]);exact aF (by simp_all[fX,aE,h,hW,GD,at0,at2,fS,OD z])
def nI:Sm->Int
 | none=>0
 | some p=>p.1
theorem HZ(a b:Sm):nI (rH a b)=nI a*nI b:=by
 cases a <;> cases b <;> simp_all[rH,nI]
theorem KP(a b:Sm):nI (dG a b)=nI a+nI b:=by
 cases a <;> cases b <;> simp_all[dG,nI]
noncomputable def iV:List Int->Int
 | []=>1
 | x::l=>x*iV l
theorem yS(l m:List Int):iV (l++m)=iV l*iV m:=by
 induction l with
 | nil=>simp_all[iV]
 | cons x l ih=>rw[zcX,iV,iV,ih,zdM]
theorem HI:∀(l:List Sm) (t:Sm),nI (l.foldl rH t)=nI t*iV (l.map nI)
 | [],t=>by simp_all[iV]
 | a::l,t=>by rw[zcK,HI l,HZ,zak,iV,zdM]
set_option tactic.hygienic true in
theorem FC(C:Bk)(j k:Int):nI (QX C j k)=((bS C.rs k 8 j).length:Int):=by
 unfold QX;split
 ·rename_i h;rw[h];rfl
 ·rfl
theorem fE(C:Bk)(own j k:Int)(l:List Sm):nI (csum C own j k l)=iV (l.map nI++[((bS C.rs k 8 j).length:Int)]):=by
 unfold csum;rw[HI,HZ,FC,yS];simp only[nI,iV,Int.one_mul,Int.mul_one];exact Int.mul_comm _ _
def NN(l:List Int):Prop:=∀x∈l,0<=x
theorem zF:∀ {l:List Int},NN l->0<=iV l
 | [],_=>by decide
 | x::l,h=>zcW (h x (zar ..)) (zF λy q=>h y (zap _ q))
theorem jE{q:Type}(f:q->Sm):∀(l:List q) (t:Sm),nI (l.foldl (λt v=>dG t (f v)) t)=nI t+(l.map λv=>nI (f v)).sum
 | [],t=>by simp_all
 | a::l,t=>by rw[zcK,jE f l,KP,zak,zbo,zc4]
theorem pO{q:Type}{f:q->Int}:∀ {l:List q},(∀v∈l,0<=f v)->0<=(l.map f).sum
 | [],_=>by simp_all
 | a::l,h=>by
  rw[zak,zbo];have:=h a (zar ..);have:=pO (l:=l) λv z=>h v (zap _ z)
  lia
theorem fD(C:Bk)(own j k:Int)(h:NN (l.map nI)):0<=nI (csum C own j k l):=by
 rw[fE];refine zF λx hx=>?_
 rcases List.mem_append.mp hx with z|z
 ·exact h x z
 ·rw[List.mem_singleton.mp z];lia
theorem NN1(h:0<=a):NN [a]:=λx hx=>by rw[List.mem_singleton.mp hx];exact h
theorem ZT(h:0<=a)(h':0<=b):NN [a,b]:=λx hx=>by
 rcases List.mem_cons.mp hx with z|z
 ·rw[z];exact h
 ·exact NN1 h' x z
theorem NN3(h:0<=a)(h':0<=b)(h2:0<=c):NN [a,b,c]:=λx hx=>by
 rcases List.mem_cons.mp hx with z|z
 ·rw[z];exact h
 ·exact ZT h' h2 x z
theorem b9(C:Bk):∀(p:Pa) (e:iF) (k:Int),0<=nI (aW C p e k)
 | .name x,e,k=>fD C _ _ _ (l:=[]) λ_ h=>nomatch h
 | .num _ j,e,k=>fD C _ _ _ (l:=[]) λ_ h=>nomatch h
 | .use1 nm p,e,k=>by
  rw[aW,jE];have:=pO (l:=oY C nm 1) (f:=λv=>nI (csum C (mpr C v) (dO C v) k [aW C p e (aV C v 0)])) λv _=>fD _ _ _ _ (NN1 (b9 C p e _))
  simp only[nI,zbp]at *;exact this
 | .use2 nm p q,e,k=>by
  rw[aW,jE];have:=pO (l:=oY C nm 2) (f:=λv=>nI (csum C (mpr C v) (dO C v) k [aW C p e (aV C v 0),aW C q e (aV C v 1)])) λv _=>fD _ _ _ _ (ZT (b9 C p e _) (b9 C q e _))
  simp only[nI,zbp]at *;exact this
 | .lett x p q,e,k=>by
  rw[aW,jE];have:=pO (l:=zas C.kinds.length) (f:=λ(j:Nat)=>nI (csum C 0 k k [aW C p e (j:Int),aW C q (fJ e x (j:Int)) k])) λv _=>fD _ _ _ _ (ZT (b9 C p e _) (b9 C q _ _))
  simp only[nI,zbp]at *;exact this
 | .pick c k' p q r,e,k=>fD _ _ _ _ (NN3 (b9 C p e _) (b9 C q e _) (b9 C r e _))
 | .again n k' x p q,e,k=>fD _ _ _ _ (ZT (b9 C p e _) (b9 C q _ _))
noncomputable def bY:Int->List (Int×Int)->Int
 | n,[]=>n
 | n,p::l=>bY (n*p.2+p.1) l
noncomputable def gT:Int->List Int->List Int->List Int
 | _,[],acc=>acc
 | n,s::l,acc=>gT (n/s) l (n%s::acc)
def VE(l:List (Int×Int)):Prop:=∀p∈l,0<=p.1/\p.1<p.2
theorem xA:∀(l:List (Int×Int)) (n:Int) (t acc:List Int),VE l->gT (bY n l) ((l.map (·.2)).reverse++t) acc=gT n t (l.map (·.1)++acc)
 | [],n,t,acc,_=>rfl
 | (a,s)::l,n,t,acc,h=>by
  have q:=h (a,s) (zar ..);simp only at q;rw[bY,zak,zd9,zel];have ih:=xA l (n*s+a) ([s]++t) acc λp q=>h p (zap _ q)
  rw[ih];show gT ((n*s+a)/s) t ((n*s+a)%s::(l.map (·.1)++acc))=_;have B:(n*s+a)/s=n:=by
   rw[Int.add_comm,Int.add_mul_ediv_right _ _ (by lia),Int.ediv_eq_zero_of_lt q.1 q.2,zbp]
  have z:(n*s+a)%s=a:=by
   rw[Int.add_comm,Int.add_mul_emod_self_right,Int.emod_eq_of_lt q.1 q.2]
  rw[B,z];rfl
theorem AW:∀(l:List (Int×Int)) (n:Int),0<=n->VE l->0<=bY n l/\bY n l+1<=(n+1)*iV (l.map (·.2))
 | [],n,h0,_=>by simp_all[bY,iV,h0]
 | (a,s)::l,n,h0,h=>by
  have q:=h (a,s) (zar ..);simp only at q;have B:0<=n*s+a:=Int.add_nonneg (zcW h0 (by lia)) q.1;obtain⟨F,z⟩:=AW l (n*s+a) B λp q=>h p (zap _ q)
  refine⟨F,zcu z ?_⟩;have G:0<=iV (l.map (·.2)):=zF λx hx=>by
   obtain⟨p,q,rfl⟩:=List.mem_map.mp hx;have:=h p (zap _ q);lia
  rw[zak,iV,<- zdM];refine zey ?_ G;rw[Int.add_mul];simp only;lia
def jX(C:Bk)(j k:Int)(w:List Int):Int×Int:=(((bS C.rs k 8 j).idxOf w:Nat),((bS C.rs k 8 j).length:Int))
def v6(l:List Nat)(v:Nat)(f:Nat->Sm):Int:=((l.filter λu=>decide (u<v)).map λu=>nI (f u)).sum
def cA(C:Bk):Rg->iF->Int->Int
 | .name x _ w,e,k=>bY 0 [jX C (e x) k w]
 | .num _ j w,_,k=>bY 0 [jX C j k w]
 | .use1 v nm p w,e,k=>v6 (oY C nm 1) v (λv=>csum C (mpr C v) (dO C v) k [aW C (pa p) e (aV C v 0)])+bY 0 [(cA C p e (aV C v 0),nI (aW C (pa p) e (aV C v 0))),jX C (dO C v) k w]
 | .use2 v nm p q w,e,k=>v6 (oY C nm 2) v (λv=>csum C (mpr C v) (dO C v) k [aW C (pa p) e (aV C v 0),aW C (pa q) e (aV C v 1)])+bY 0 [(cA C p e (aV C v 0),nI (aW C (pa p) e (aV C v 0))),(cA C q e (aV C v 1),nI (aW C (pa q) e (aV C v 1))),jX C (dO C v) k w]
 | .lett x j p q,e,k=>v6 (zas C.kinds.length) j.toNat (λ(j:Nat)=>csum C 0 k k [aW C (pa p) e (j:Int),aW C (pa q) (fJ e x (j:Int)) k])+bY 0 [(cA C p e j,nI (aW C (pa p) e j)),(cA C q (fJ e x j) k,nI (aW C (pa q) (fJ e x j) k)),jX C k k []]
 | .pick c k' p q r w,e,k=>bY 0 [(cA C p e c,nI (aW C (pa p) e c)),(cA C q e k',nI (aW C (pa q) e k')),(cA C r e k',nI (aW C (pa r) e k')),jX C k' k w]
 | .again _ k' x p q w,e,k=>bY 0 [(cA C p e k',nI (aW C (pa p) e k')),(cA C q (fJ e x k') k',nI (aW C (pa q) (fJ e x k') k')),jX C k' k w]
def EC(e:iF)(kn:List (Str×Int)):Prop:=∀p∈kn,e p.1=p.2
theorem EC.put(h:EC e kn)(hx:x∉kn.map (·.1)):EC (fJ e x j) ((x,j)::kn):=λp B=>by
 unfold fJ;rcases List.mem_cons.mp B with z|z
 ·rw[z,if_pos rfl]
 ·rw[if_neg λq=>hx (List.mem_map.mpr ⟨p,z,q⟩)];exact h p z
theorem lI(B:OkB C)(z:0<=j)(k1:k<(C.kinds.length:Int))(h:gw C.rs j w=some k):0<=(jX C j k w).1/\(jX C j k w).1<(jX C j k w).2:=by
 have q:=B.k6;have m:=oE B.gr (n:=8) (by lia) h;have:=zez m;exact⟨by unfold jX;simp only;lia,by unfold jX;simp only;lia⟩
theorem oV(h:VE l):0<=bY 0 l/\bY 0 l<iV (l.map (·.2)):=by
 have:=AW l 0 (by decide) h;rw[zbp,Int.one_mul]at this;exact⟨this.1,by lia⟩
theorem FP(h:0<=a.1/\a.1<a.2):VE [a]:=λp q=>by rw[List.mem_singleton.mp q];exact h
theorem vR(h:0<=a.1/\a.1<a.2)(t:VE l):VE (a::l):=λp q=>by
 rcases List.mem_cons.mp q with z|z
 ·rw[z];exact h
 ·exact t p z
theorem FH{l:List Nat}(F:l.Pairwise (·<·)){v:Nat}(J:v∈l){f:Nat->Sm}(G:∀u,0<=nI (f u)){x:Int}(U:0<=x)(hx:x<nI (f v)):0<=v6 l v f+x/\v6 l v f+x<nI (l.foldl (λt v=>dG t (f v)) none):=by
 rw[jE];have M:0<=v6 l v f:=pO λu _=>G u
 refine⟨by lia,?_⟩;have:v6 l v f+nI (f v)<=(l.map λv=>nI (f v)).sum:=by
  clear hx M;unfold v6;induction l with
  | nil=>cases J
  | cons a l ih=>
   rw[List.pairwise_cons]at F;rw[zak,zbo];by_cases e:v=a
   ·subst e
    have z:((v::l).filter λu=>decide (u<v))=[]:=by
     rw[List.filter_eq_nil_iff];intro u N;rcases List.mem_cons.mp N with q|q
     ·rw[q];simp_all
     ·have:=F.1 u q;simp_all;lia
    rw[z];have:=pO (l:=l) (f:=λv=>nI (f v)) λu _=>G u
    simp_all;lia
   ·have B:=(List.mem_cons.mp J).resolve_left e
    have la:=F.1 v B;rw[zcd,if_pos (by simpa using la),zak,zbo];have:=ih F.2 B
    lia
 simp only[nI,zbp]at *;lia
theorem i5(n:Nat):(zas n).Pairwise (·<·):=List.pairwise_lt_range
theorem gX(C:Bk)(nm:Str)(n:Nat):(oY C nm n).Pairwise (·<·):=(i5 _).filter _
theorem oA(h:C.makes[v]?=some m)(q:m.takes.length=n):v∈oY C m.nm n:=by
 refine List.mem_filter.mpr ⟨List.mem_range.mpr (List.getElem?_eq_some_iff.mp h).1,?_⟩;rw[h];simp_all[q]
theorem fB(h:C.makes[v]?=some m)(i:Nat):aV C v i=(m.takes[i]?).getD 0:=by unfold aV;rw[h];rfl
theorem eA(h:C.makes[v]?=some m):dO C v=m.g:=by unfold dO;rw[h];rfl
theorem gQ(B:OkB C):∀ {g:Rg} {kn:List (Str×Int)} {e:iF} {k:Int},OkN C kn->WF C kn g k->NF U (kn.map (·.1)) g->EC e kn->0<=cA C g e k/\cA C g e k<nI (aW C (pa g) e k)
 | .name x j w,kn,e,k,K,W,_,c=>by
  have s:=WF.short B K W;obtain⟨a,b⟩:=W;have ex:e x=j:=c _ a;have h:=oV (FP (lI B (K _ a).1 s.2.2 b));simp only[cA,pa,aW,fE,ex];exact h
 | .num n j w,kn,e,k,K,W,_,c=>by
  have s:=WF.short B K W;obtain⟨a,b,d⟩:=W;have h:=oV (FP (lI B b.1 s.2.2 d));simp only[cA,pa,aW,fE];exact h
 | .use1 v nm p w,kn,e,k,K,W,F,c=>by
  have s:=WF.short B K W;obtain⟨m,t,a,b,d,G,f⟩:=W;subst b;have N:aV C v 0=t:=by rw[fB a,d];rfl
  have Y:=eA a;have hm:=zaw a;have z:=gQ B (g:=p) K G F c;rw[<- N]at z;have h:=oV (vR (a:=(cA C p e (aV C v 0),nI (aW C (pa p) e (aV C v 0)))) z (FP (lI B (B.gb m hm).1 s.2.2 f)));rw[<- Y]at h;refine FH (gX C m.nm 1) (oA a (by rw[d];rfl)) (f:=λv=>csum C (mpr C v) (dO C v) k [aW C (pa p) e (aV C v 0)]) (λu=>fD _ _ _ _ (NN1 (b9 ..))) h.1 ?_;simp only[fE];exact h.2
 | .use2 v nm p q w,kn,e,k,K,W,F,c=>by
  have s:=WF.short B K W;obtain⟨m,t,u,a,b,d,G,M,f⟩:=W;subst b;have N:aV C v 0=t:=by rw[fB a,d];rfl
  have eu:aV C v 1=u:=by rw[fB a,d];rfl
  have Y:=eA a;have hm:=zaw a;have z:=gQ B (g:=p) K G F.1 c;have J:=gQ B (g:=q) K M F.2 c;rw[<- N]at z;rw[<- eu]at J;have h:=oV (vR (a:=(cA C p e (aV C v 0),nI (aW C (pa p) e (aV C v 0)))) z (vR (a:=(cA C q e (aV C v 1),nI (aW C (pa q) e (aV C v 1)))) J (FP (lI B (B.gb m hm).1 s.2.2 f))));rw[<- Y]at h;refine FH (gX C m.nm 2) (oA a (by rw[d];rfl)) (f:=λv=>csum C (mpr C v) (dO C v) k [aW C (pa p) e (aV C v 0),aW C (pa q) e (aV C v 1)]) (λu=>fD _ _ _ _ (ZT (b9 ..) (b9 ..))) h.1 ?_;simp only[fE];exact h.2
 | .lett x j p q,kn,e,k,K,W,F,c=>by
  have s:=WF.short B K W;obtain⟨G,M⟩:=W;have sp:=WF.short B K G;have z:=gQ B (g:=p) K G F.1 c;have J:=gQ B (g:=q) (K.cons sp.2.1 sp.2.2) M F.2.2 (c.put F.2.1.1);have ej:((j.toNat:Nat):Int)=j:=by lia
  have h:=oV (vR (a:=(cA C p e j,nI (aW C (pa p) e j))) z (vR (a:=(cA C q (fJ e x j) k,nI (aW C (pa q) (fJ e x j) k))) J (FP (lI B s.2.1 s.2.2 (w:=[]) rfl))));refine FH (i5 C.kinds.length) (List.mem_range.mpr (by lia)) (f:=λ(j:Nat)=>csum C 0 k k [aW C (pa p) e (j:Int),aW C (pa q) (fJ e x (j:Int)) k]) (λu=>fD _ _ _ _ (ZT (b9 ..) (b9 ..))) h.1 ?_;simp only[fE,ej];exact h.2
 | .pick c' k' p q r w,kn,e,k,K,W,F,c=>by
  have s:=WF.short B K W;obtain⟨a,b,G,M,wr,f⟩:=W;have z:=gQ B (g:=p) K G F.1 c;have J:=gQ B (g:=q) K M F.2.1 c;have i3:=gQ B (g:=r) K wr F.2.2 c;have h:=oV (vR (a:=(cA C p e c',nI (aW C (pa p) e c'))) z (vR (a:=(cA C q e k',nI (aW C (pa q) e k'))) J (vR (a:=(cA C r e k',nI (aW C (pa r) e k'))) i3 (FP (lI B b.1 s.2.2 f)))));simp only[cA,pa,aW,fE];exact h
 | .again n k' x p q w,kn,e,k,K,W,F,c=>by
  have s:=WF.short B K W;obtain⟨a,b,G,M,f⟩:=W;have z:=gQ B (g:=p) K G F.1 c;have J:=gQ B (g:=q) (K.cons b.1 b.2) M F.2.2 (c.put F.2.1.1);have h:=oV (vR (a:=(cA C p e k',nI (aW C (pa p) e k'))) z (vR (a:=(cA C q (fJ e x k') k',nI (aW C (pa q) (fJ e x k') k'))) J (FP (lI B b.1 s.2.2 f))));simp only[cA,pa,aW,fE];exact h
def kids:Pa->List Pa
 | .use1 _ p=>[p]
 | .use2 _ p q=>[p,q]
 | .lett _ p q=>[p,q]
 | .pick _ _ p q r=>[p,q,r]
 | .again _ _ _ p q=>[p,q]
 | _=>[]
def VH(C:Bk)(p:Pa)(l:List D):D:=.ob CN [("part",bL p),("below",.lst l),("names",.lst ((aQ p).map .str)),("found",.mem (DM (a9 C) (bL p)) (FF (a9 C) (bL p)))]
def dN(C:Bk):Pa->D
 | .name x=>VH C (.name x) []
 | .num n j=>VH C (.num n j) []
 | .use1 nm p=>VH C (.use1 nm p) [dN C p]
 | .use2 nm p q=>VH C (.use2 nm p q) [dN C p,dN C q]
 | .lett x p q=>VH C (.lett x p q) [dN C p,dN C q]
 | .pick c k p q r=>VH C (.pick c k p q r) [dN C p,dN C q,dN C r]
 | .again n k x p q=>VH C (.again n k x p q) [dN C p,dN C q]
theorem uZ(C:Bk)(p:Pa):dN C p=VH C p ((kids p).map (dN C)):=by cases p <;> rfl
noncomputable def hid:Pa->Nat->Option Str
 | .lett x _ _,1=>some x
 | .again _ _ x _ _,1=>some x
 | _,_=>none
noncomputable def oS:Option Str->D
 | none=>.non
 | some x=>.str x
theorem oO:∀p:Pa,jF [bL p]=some (.tup ((kids p).map bL))
 | .name ..=>aF (by simp_all[g8,aE,bL,kids,at0,mU,jQ,zB,n9])
 | .num ..=>aF (by simp_all[g8,aE,bL,kids,at0,lD,iA,y3,nY])
 | .use1 ..=>aF (by simp_all[g8,aE,bL,kids,at0,at2])
 | .use2 ..=>aF (by simp_all[g8,aE,bL,kids,at0,at2])
 | .lett ..=>aF (by simp_all[g8,aE,bL,kids,at0,jL,WT])
 | .pick ..=>aF (by simp_all[g8,aE,bL,kids,at0,jJ,gR,XR])
 | .again ..=>aF (by simp_all[g8,aE,bL,kids,at0,jM,fS,rZ,XM])
theorem CT:¬ ("use" : Str) = "again" := by decide
theorem M4:¬ ("pick" : Str) = "again" := by decide
theorem KS{p:D}{i:Nat}(h:¬ i=1):cT [p,.int (i:Int)]=some .non:=aF (by
 have h':¬ ((i:Int)=1):=λz=>h (by lia)
 simp_all[bM,aE,h'])
theorem CD(p:Pa)(i:Nat):cT [bL p,.int (i:Int)]=some (oS (hid p i)):=by
 by_cases h:i=1
 ·subst h
  cases p with
  | name x=>exact aF (by simp_all[bM,aE,bL,hid,oS,at0,jQ,n9])
  | num n j=>exact aF (by simp_all[bM,aE,bL,hid,oS,at0,iA,nY])
  | use1 nm p=>exact aF (by simp_all[bM,aE,bL,hid,oS,at0,pN,CT])
  | use2 nm p q=>exact aF (by simp_all[bM,aE,bL,hid,oS,at0,pN,CT])
  | lett x p q=>exact aF (by simp_all[bM,aE,bL,hid,oS,at0,at1])
  | pick c k p q r=>exact aF (by simp_all[bM,aE,bL,hid,oS,at0,gR,M4])
  | again n k x p q=>exact aF (by simp_all[bM,aE,bL,hid,oS,at0,VG,fS])
 ·rw[KS h]
  have:hid p i=none:=by
   unfold hid;split
   ·exact absurd rfl h
   ·exact absurd rfl h
   ·rfl
  rw[this];rfl
theorem EM{x:Str}{l:List Str}:oM (.str x) (.lst (l.map .str))=some (.bl (!decide (x∈l))):=by
 have h1:(l.map D.str).all fL=true:=by
  rw[List.all_map];exact List.all_eq_true.mpr λx _=>rfl
 show zR (.str x) (.lst (l.map .str))=_;unfold zR UX;dsimp only;rw[if_pos ⟨rfl,h1⟩];simp only[aB];congr 3;rw[List.any_map];by_cases h:x∈l
 ·rw[decide_eq_true h]
  exact List.any_eq_true.mpr ⟨x,h,by simp_all⟩
 ·rw[decide_eq_false h]
  refine List.any_eq_false.mpr λy q=>?_
  simp_all;rintro rfl;exact h q
theorem ne_sn:zZ (.str x) .non=some (.bl true):=by
 unfold zZ LK;rw[if_pos (.inl rfl)];simp_all
theorem qaB:zZ (.str x) (oS h)=some (.bl (!decide (some x=h))):=by
 cases h with
 | none=>rw[show oS none=D.non from rfl,ne_sn];simp_all
 | some y=>rw[show oS (some y)=D.str y from rfl,q_neS];simp_all
theorem tH{h:Option Str}{acc:List Str}:∀(l:List Str) (o:Option D),bE (aR 0) (LB (rK (bC zZ (aD 0) (aD 1))) (rK (bC oM (aD 0) (aD 2)))) (aD 0) (l.map .str) [o,some (oS h),some (.lst (acc.map .str))]=some ((l.filter λx=>!decide (some x=h) && !decide (x∈acc)).map .str)
 | [],o=>rfl
 | x::l,o=>by
  have ih:=tH (h:=h) (acc:=acc) l (some (.str x));have e:=qaB (x:=x) (h:=h);have q:=EM (x:=x) (l:=acc);generalize oS h=dh at *;rw[zak,bE];by_cases h1:some x=h
  ·simp_all[e,q,h1,ih]
  ·by_cases h2:x∈acc
   ·simp_all[e,q,h1,h2,ih]
   ·simp_all[e,q,h1,h2,ih]
def accN(p:Pa):Nat->List Pa->List Str->List Str
 | _,[],acc=>acc
 | i,q::l,acc=>accN p (i+1) l (fU (hid p i) acc (aQ q))
theorem SL(p:Pa)(h:∀x,p≠.name x):aQ p=accN p 0 (kids p) []:=by
 cases p with
 | name x=>exact absurd rfl (h x)
 | _=>rfl
theorem dX:(fU h acc l).length<=acc.length+l.length:=by
 unfold fU;rw[zbb];have:=zc1 (λx=>!decide (some x=h) && !decide (x∈acc)) l
 lia
theorem eG:∀p:Pa,(aQ p).length<=psz p
 | .name x=>zaj 1
 | .num _ _=>by simp_all[aQ,psz]
 | .use1 _ p=>by
  have:=eG p;have:=dX (h:=none) (acc:=[]) (l:=aQ p);simp only[aQ,psz,zbx]at *;lia
 | .use2 _ p q=>by
  have:=eG p;have:=eG q;have:=dX (h:=none) (acc:=[]) (l:=aQ p);have:=dX (h:=none) (acc:=fU none [] (aQ p)) (l:=aQ q);simp only[aQ,psz,zbx]at *;lia
 | .lett x p q=>by
  have:=eG p;have:=eG q;have:=dX (h:=none) (acc:=[]) (l:=aQ p);have:=dX (h:=some x) (acc:=fU none [] (aQ p)) (l:=aQ q);simp only[aQ,psz,zbx]at *;lia
 | .pick _ _ p q r=>by
  have:=eG p;have:=eG q;have:=eG r;have:=dX (h:=none) (acc:=[]) (l:=aQ p);have:=dX (h:=none) (acc:=fU none [] (aQ p)) (l:=aQ q);have:=dX (h:=none) (acc:=fU none (fU none [] (aQ p)) (aQ q)) (l:=aQ r);simp only[aQ,psz,zbx]at *;lia
 | .again _ _ x p q=>by
  have:=eG p;have:=eG q;have:=dX (h:=none) (acc:=[]) (l:=aQ p);have:=dX (h:=some x) (acc:=fU none [] (aQ p)) (l:=aQ q);simp only[aQ,psz,zbx]at *;lia
def VD:Pa->Str
 | .name _ => "name"
 | .num _ _ => "number"
 | .use1 _ _ => "use"
 | .use2 _ _ _ => "use"
 | .lett _ _ _ => "let"
 | .pick _ _ _ _ _ => "pick"
 | .again _ _ _ _ _ => "again"
theorem OG(p:Pa):aI (bL p) (.int 0)=some (.str (VD p)):=by
 cases p <;> (unfold bL;rw[q_itT];exact at0)
theorem LV(p:Pa)(h:∀x,p≠.name x):¬ VD p = "name" := by
 cases p with
 | name x=>exact absurd rfl (h x)
 | num _ _=>exact(by decide:¬ ("number" : Str) = "name")
 | use1 _ _=>exact(by decide:¬ ("use" : Str) = "name")
 | use2 _ _ _=>exact(by decide:¬ ("use" : Str) = "name")
 | lett _ _ _=>exact(by decide:¬ ("let" : Str) = "name")
 | pick _ _ _ _ _=>exact(by decide:¬ ("pick" : Str) = "name")
 | again _ _ _ _ _=>exact(by decide:¬ ("again" : Str) = "name")
theorem lW(C:Bk)(p:Pa):wA CN "part" (dN C p)=some (bL p):=by rw[uZ];rfl
theorem M9(C:Bk)(p:Pa):wA CN "below" (dN C p)=some (.lst ((kids p).map (dN C))):=by rw[uZ];rfl
theorem AZ(C:Bk)(p:Pa):wA CN "names" (dN C p)=some (.lst ((aQ p).map .str)):=by rw[uZ];rfl
theorem M1(C:Bk)(p:Pa):wA CN "found" (dN C p)=some (.mem (DM (a9 C) (bL p)) (FF (a9 C) (bL p))):=by rw[uZ];rfl
theorem CF(p:Pa):∀(l:List Pa) (j i:Nat) (acc:List Str) (q:Pa),l[i]?=some q->accN p j (l.take (i+1)) acc=fU (hid p (j+i)) (accN p j (l.take i) acc) (aQ q)
 | [],j,i,acc,q,h=>by simp[-zac,-zab,aA,aB]at h
 | a::l,j,0,acc,q,h=>by
  have:a=q:=by simpa using h
  subst this;rfl
 | a::l,j,i+1,acc,q,h=>by
  have ih:=CF p l (j+1) i (fU (hid p j) acc (aQ a)) q (by simpa using h);rw[zcv,zcv,accN,accN,ih,show j+1+i=j+(i+1) by lia]
theorem IC(p:Pa):∀(l:List Pa) (j:Nat) (acc:List Str),(accN p j l acc).length<=acc.length+(l.map psz).sum
 | [],j,acc=>by simp_all[accN]
 | a::l,j,acc=>by
  have:=IC p l (j+1) (fU (hid p j) acc (aQ a));have:=dX (h:=hid p j) (acc:=acc) (l:=aQ a);have:=eG a;rw[accN,zak,zbo];lia
theorem dU(p:Pa):((kids p).map psz).sum+1=psz p:=by
 cases p <;> simp_all[kids,psz] <;> lia
theorem GE:∀ {l:List Pa},q∈l->psz q<=(l.map psz).sum
 | [],h=>nomatch h
 | a::l,h=>by
  rw[zak,zbo];rcases List.mem_cons.mp h with z|z
  ·rw[z];lia
  ·have:=GE z;lia
theorem gC(h:q∈kids p):psz q<psz p:=by
 have:=GE h;have:=dU p;lia
theorem N2(l:List Pa)(i:Nat):((l.take i).map psz).sum<=(l.map psz).sum:=by
 induction l generalizing i with
 | nil=>simp_all
 | cons a l ih=>
  cases i with
  | zero=>simp_all
  | succ i=>have:=ih i;simp only[zcv,zak,zbo];lia
theorem SJ(C:Bk)(p:Pa)(hs:psz p<=100):fA [bL p,.lst ((kids p).map (dN C))]=some (.lst ((aQ p).map .str)):=by
 by_cases N:∃x,p=.name x
 ·obtain⟨x,rfl⟩:=N
  exact aF (by simp_all[iW,aE,bL,aQ,at0,at1])
 have B:∀x,p≠.name x:=λx e=>N ⟨x,e⟩
 have tg:=LV p B;refine aF ?_;unfold iW;have w:=CD p;have ta:=OG p;have sm:=dU p;have ac:=IC p;rw[SL p B];have Y:=@CF p (kids p) 0;have sz:∀q∈kids p,psz q<psz p:=λq F=>gC F
 have tk:=N2 (kids p);generalize kids p=ks at *;generalize bL p=pd at *;rw[aH (ρ':=aE 6 [pd,.lst (ks.map (dN C))]) (by simp_all[aE,ta,tg])];rw[aH (aN (d:=.lst []) (by simp_all))];refine gK (items:=gU 0 (ks.map (dN C))) (by simp_all[aE]) (λi ρ=>∃J G M,ρ=[some pd,some (.lst (ks.map (dN C))),some (.lst ((accN p 0 (ks.take i) []).map .str)),J,G,M]) ⟨none,none,none,by simp_all[aE,accN]⟩ ?_ ?_
 ·rintro i y ρ hy ⟨J,G,M,rfl⟩
  obtain⟨z,W,rfl⟩:=iK hy;rw[zaA]at W;obtain⟨q,F,rfl⟩:=map_some W;rw[zaK];have U:=Y i [] q F;rw[zaK]at U;have wi:=w i;have cn:=tH (h:=hid p i) (acc:=accN p 0 (ks.take i) []) (aQ q) none;have nn:=AZ C q;have l1:=ac (ks.take i) 0 [];have l2:=tk i;have l3:=eG q;have l4:=sz q (zaw F);have l5:=zc1 (λx=>!decide (some x=hid p i) && !decide (x∈accN p 0 (ks.take i) [])) (aQ q);have z1:a7 (aQ q).length=true:=decide_eq_true (by lia);refine⟨[some pd,some (.lst (ks.map (dN C))),some (.lst ((accN p 0 (ks.take (i+1)) []).map .str)),some (.int (i:Int)),some (dN C q),some (oS (hid p i))],?_,_,_,_,rfl⟩;rw[U];unfold fU;have z2:a7 ((accN p 0 (ks.take i) []).length+((aQ q).filter λx=>!decide (some x=hid p i) && !decide (x∈accN p 0 (ks.take i) [])).length)=true:=decide_eq_true (by simp only[zbx]at l1;lia);generalize (aQ q).filter (λx=>!decide (some x=hid p i) && !decide (x∈accN p 0 (ks.take i) []))=fl' at *;simp_all[-zaq,turn,wi,d5,nn,U9,jW,z1,cn,z2]
 ·rintro ρ' ⟨J,G,M,rfl⟩
  rw[fR,zah,zbn];simp_all
theorem zK(C:Bk):∀(m:Nat) (p:Pa),psz p<=m->psz p<=100->rJ m (a9 C) (bL p)=some (dN C p)
 | 0,p,h,_=>by have:=dU p;lia
 | m+1,p,h,h1=>by
  have ih:∀q∈kids p,rJ m (a9 C) (bL q)=some (dN C q):=λq B=>zK C m q (by have:=gC B;lia) (by have:=gC B;lia)
  have wi:=oO p;have G:=SJ C p h1;have M:(kids p).length<=3:=by cases p <;> simp_all[kids]
  have F:∀(l:List Pa) (o:Option D),(∀q∈l,rJ m (a9 C) (bL q)=some (dN C q))->bE (aR 0) fH (eNew (rJ m) (λ_=>some (a9 C)) (aD 0)) (l.map bL) [o]=some (l.map (dN C)):=λl=>by
   induction l with
   | nil=>exact λ_ _=>rfl
   | cons a l il=>
    intro o B;have e:=il (some (bL a)) λq h=>B q (zap _ h)
    have J:=B a (zar ..);rw[zak,bE];simp_all[eNew,J,e]
  have z:a7 (kids p).length=true:=decide_eq_true (by lia);have c:=F (kids p) none ih;rw[uZ];show IU CN _ fA (DM (a9 C)) (FF (a9 C)) (bL p)=_;unfold IU VH;have fb:d7 [none] (gF (aT jF (aC (aD 1) aZ))) (aR 0) fH (eNew (rJ m) (λ_=>some (a9 C)) (aD 0)) [none,some (bL p)]=some (.lst ((kids p).map (dN C))):=by
   simp_all[wi,jW,z,c]
  rw[fb,aA,G,aA]
theorem fZ(a:Sm):dE [memD a]=some (.int (nI a)):=by
 cases a with
 | none=>exact aF (by ac_rfl)
 | some p=>exact aF (by ac_rfl)
theorem MG(a b:Sm):oH [memD a,memD b]=some (memD (dG a b)):=by
 cases a with
 | none=>
  cases b with
  | none=>exact aF (by ac_rfl)
  | some q=>exact aF (by ac_rfl)
 | some p=>
  cases b with
  | none=>exact aF (by ac_rfl)
  | some q=>
   have e:(if q.2<p.2 then q.2 else p.2)=min p.2 q.2:=by split <;> lia
   exact aF (by simp_all[BW,aE,memD,dG,hW,at0,at1,CY,e])
theorem OT(z:∀p,a=some p->0<=p.1/\p.1<10^250)(B:∀p,b=some p->0<=p.1/\p.1<10^250):PV [memD a,memD b]=some (memD (rH a b)):=by
 cases a with
 | none=>
  cases b with
  | none=>exact aF (by ac_rfl)
  | some q=>exact aF (by ac_rfl)
 | some p=>
  cases b with
  | none=>exact aF (by ac_rfl)
  | some q=>
   have h1:=z p rfl;have h2:=B q rfl;have m:cS (.int p.1) (.int q.1)=some (.int (p.1*q.1)):=b8 (zc5 (by decide) h1.1) h1.2 (zc5 (by decide) h2.1) h2.2;exact aF (by simp_all[OK,aE,memD,rH,hW,at0,at1,m])
def bQ(C:Bk):Pa->List D
 | .use1 nm _=>(oY C nm 1).map λ(v:Nat)=>.int (v:Int)
 | .use2 nm _ _=>(oY C nm 2).map λ(v:Nat)=>.int (v:Int)
 | .lett _ _ _=>(zas C.kinds.length).map λ(v:Nat)=>.int (v:Int)
 | _=>[.non]
noncomputable def DC(p:Mk->Bool):Nat->List Mk->List Nat
 | _,[]=>[]
 | k,m::ms=>if p m then k::DC p (k+1) ms else DC p (k+1) ms
theorem HQ(p:Mk->Bool):∀(ms:List Mk) (k:Nat),DC p k ms=((zas ms.length).filter λv=>match ms[v]? with
 | some m=>p m
 | none=>false).map (·+k)
 | [],k=>rfl
 | m::ms,k=>by
  rw[DC,HQ p ms (k+1),zaz,List.range_succ_eq_map,zcd,List.filter_map];have e:(λv=>match (m::ms)[v]? with
   | some m=>p m
   | none=>false) ∘ Nat.succ=λv=>match ms[v]? with
   | some m=>p m
   | none=>false:=by funext v;rfl
  rw[e];have q:∀L:List Nat,((L.map Nat.succ).map (·+k))=L.map (·+(k+1)):=λL=>by
   rw[zaq];congr 1;funext v;show v.succ+k=v+(k+1);lia
  show _=List.map (·+k) (if p m=true then _ else _);cases hp:p m with
  | true=>rw[if_pos rfl,if_pos rfl,zak,q,zaK]
  | false=>rw[if_neg zaC,if_neg zaC,q]
theorem pH(h1:aI pd (.int 1)=some (.str nm))(h2:aI pd (.int 2)=some (.tup l)):∀(ms:List Mk) (k:Nat) (o o1:Option D),bE (lJ 2 (dI (aR 0) (dI (aR 1) rB))) (LB (rK (bC iG (bC aI (aD 1) (eC (.int 0))) (bC aI (aD 2) (eC (.int 1))))) (rK (bC iG (aT fV (aC (bC aI (aD 1) (eC (.int 1))) aZ)) (aT fV (aC (bC aI (aD 2) (eC (.int 2))) aZ))))) (aD 0) (gU k (ms.map j7)) [o,o1,some pd]=some ((DC (λm=>decide (m.nm=nm) && decide (m.takes.length=l.length)) k ms).map λ(v:Nat)=>.int (v:Int))
 | [],k,o,o1=>rfl
 | m::ms,k,o,o1=>by
  have ih:=pH h1 h2 ms (k+1) (some (.int (k:Int))) (some (j7 m));have q:fV [tupI m.takes]=some (.int (m.takes.length:Int)):=by simp_all[tupI]
  rw[zak,gU,bE,DC];generalize (DC (λm=>decide (m.nm=nm) && decide (m.takes.length=l.length)) (k+1) ms)=R at *;by_cases B:m.nm=nm
  ·by_cases F:m.takes.length=l.length
   ·simp_all[-zaq,turn,FR,zV,h1,h2,q,B,F,ih]
   ·have z:¬ (m.takes.length:Int)=(l.length:Int):=by lia
    simp_all[-zaq,turn,FR,zV,h1,h2,q,B,F,z,ih]
  ·simp_all[-zaq,turn,FR,zV,h1,h2,q,B,ih]
theorem CG(C:Bk)(nm:Str)(n:Nat):DC (λm=>decide (m.nm=nm) && decide (m.takes.length=n)) 0 C.makes=oY C nm n:=by
 rw[HQ,show(λx:Nat=>x+0)=id from rfl,List.map_id];rfl
theorem pK(B:OkB C)(p:Pa):eW [a9 C,bL p]=some (.lst (bQ C p)):=by
 have G:=B.k6;have J:=B.ml;have z:a7 C.makes.length=true:=decide_eq_true (by lia);have F:zO (.int (C.kinds.length:Int))=some (.lst (aU 0 1 C.kinds.length)):=by
  have:=UE (i:=(C.kinds.length:Int)) (by lia) (by lia)
  rwa [zbA]at this
 cases p with
 | name x=>exact aF (by simp_all[eX,aE,bL,bQ,at0,mU,jQ])
 | num n j=>exact aF (by simp_all[eX,aE,bL,bQ,at0,lD,iA])
 | use1 nm p=>
  have c:=pH (pd:=bL (.use1 nm p)) (nm:=nm) (l:=[bL p]) (by rw[bL,q_itT];exact at1) (by rw[bL,q_itT];exact at2) C.makes 0 none none;rw[List.length_singleton,CG]at c;simp only[bL]at c;exact aF (by simp_all[-zaq,eX,aE,bL,bQ,at0,v7,jW,z,fR,c])
 | use2 nm p q=>
  have c:=pH (pd:=bL (.use2 nm p q)) (nm:=nm) (l:=[bL p,bL q]) (by rw[bL,q_itT];exact at1) (by rw[bL,q_itT];exact at2) C.makes 0 none none;rw[show([bL p,bL q]:List D).length=2 from rfl,CG]at c;simp only[bL]at c;exact aF (by simp_all[-zaq,eX,aE,bL,bQ,at0,v7,jW,z,fR,c])
 | lett x p q=>
  have er:aU 0 1 C.kinds.length=(zas C.kinds.length).map λ(v:Nat)=>D.int (v:Int):=by
   rw[qF,zaq];rfl
  rw[er]at F;exact aF (by simp_all[-zaq,eX,aE,bL,bQ,at0,jL,FM,F])
 | pick c k p q r=>exact aF (by simp_all[eX,aE,bL,bQ,at0,jJ,gR])
 | again n k x p q=>exact aF (by simp_all[eX,aE,bL,bQ,at0,jM,fS])
theorem DS(h:fM d (.inr x:Key)=some (.int j)):bF [a9 C,.dK d,bL (.name x),k,c]=some (.int j):=by
 have e:=QA h;exact aF (by simp_all[cM,aE,bL,at0,at1,e])
theorem JV:bF [a9 C,.dK d,bL (.num n j),k,c]=some (.int j):=
 aF (by simp_all[cM,aE,bL,at0,at2,lD,iA,(by decide:¬ ("number" : Str) = "name")])
theorem GG:¬ ("use" : Str) = "name" := by decide
theorem ES{C:Bk}{d:List (Key×D)}{nm:Str}{p:Pa}{k:D}{v:Nat}{m:Mk}(h:C.makes[v]?=some m):bF [a9 C,.dK d,bL (.use1 nm p),k,.int (v:Int)]=some (.int m.g):=by
 have e:=oW h;exact aF (by simp_all[-zaq,cM,aE,bL,at0,GG,v7,e,LJ])
theorem EL{C:Bk}{d:List (Key×D)}{nm:Str}{p q:Pa}{k:D}{v:Nat}{m:Mk}(h:C.makes[v]?=some m):bF [a9 C,.dK d,bL (.use2 nm p q),k,.int (v:Int)]=some (.int m.g):=by
 have e:=oW h;exact aF (by simp_all[-zaq,cM,aE,bL,at0,GG,v7,e,LJ])
theorem JC:bF [a9 C,.dK d,bL (.lett x p q),k,c]=some k:=
 aF (by simp_all[cM,aE,bL,at0,jL,(by decide:¬ ("let" : Str) = "name")])
theorem EB:bF [a9 C,.dK d,bL (.pick c' k' p q r),k,c]=some (.int k'):=
 aF (by simp_all[cM,aE,bL,at0,at2,jJ,gR,(by decide:¬ ("pick" : Str) = "name")])
theorem AO:bF [a9 C,.dK d,bL (.again n k' x p q),k,c]=some (.int k'):=
 aF (by simp_all[cM,aE,bL,at0,at2,jM,fS,(by decide:¬ ("again" : Str) = "name")])
theorem J6:bT [a9 C,bL (.name x),k,c]=some (tupI []):=aF (by simp_all[cC,aE,bL,at0,mU,jQ,zB,n9,tupI])
theorem LW:bT [a9 C,bL (.num n j),k,c]=some (tupI []):=aF (by simp_all[cC,aE,bL,at0,lD,iA,y3,nY,tupI])
theorem KJ{C:Bk}{nm:Str}{p:Pa}{k:D}{v:Nat}{m:Mk}(h:C.makes[v]?=some m):bT [a9 C,bL (.use1 nm p),k,.int (v:Int)]=some (tupI m.takes):=by
 have e:=oW h;exact aF (by simp_all[-zaq,cC,aE,bL,at0,v7,e,zV])
theorem JX{C:Bk}{nm:Str}{p q:Pa}{k:D}{v:Nat}{m:Mk}(h:C.makes[v]?=some m):bT [a9 C,bL (.use2 nm p q),k,.int (v:Int)]=some (tupI m.takes):=by
 have e:=oW h;exact aF (by simp_all[-zaq,cC,aE,bL,at0,v7,e,zV])
theorem MU:bT [a9 C,bL (.lett x p q),.int k,.int j]=some (tupI [j,k]):=aF (by simp_all[cC,aE,bL,at0,jL,tupI])
theorem JZ:bT [a9 C,bL (.pick c' k' p q r),k,c]=some (tupI [c',k',k']):=aF (by simp_all[cC,aE,bL,at0,at1,at2,jJ,gR,tupI])
theorem EE:bT [a9 C,bL (.again n k' x p q),k,c]=some (tupI [k',k']):=aF (by simp_all[cC,aE,bL,at0,at2,jM,fS,rZ,tupI])
def F3(C:Bk)(hd:Nat->D):Nat->List Pa->List Int->List D
 | i,q::l,k::ks=>.tup [dN C q,hd i,.int k]::F3 C hd (i+1) l ks
 | _,_,_=>[]
theorem BS:∀(l:List Pa) (ks:List Int) (j i:Nat) (q:Pa) (k:Int),l[i]?=some q->ks[i]?=some k->F3 C hd j (l.take (i+1)) ks=F3 C hd j (l.take i) ks++[.tup [dN C q,hd (j+i),.int k]]
 | [],ks,j,i,q,k,h,_=>by simp[-zac,-zab,aA,aB]at h
 | a::l,[],j,i,q,k,_,h=>by simp[-zac,-zab,aA,aB]at h
 | a::l,b::ks,j,0,q,k,h,h'=>by
  have B:a=q:=by simpa using h
  have z:b=k:=by simpa using h'
  subst B z;rfl
 | a::l,b::ks,j,i+1,q,k,h,h'=>by
  have ih:=BS (C:=C) (hd:=hd) l ks (j+1) i q k (by simpa using h) (by simpa using h');rw[zcv,zcv,F3,F3,ih,show j+1+i=j+(i+1) by lia];rfl
theorem GZ:∀(l:List Pa) (ks:List Int) (j:Nat),(F3 C hd j l ks).length<=l.length
 | [],ks,j=>by cases ks <;> simp_all[F3]
 | a::l,[],j=>by ac_rfl
 | a::l,b::ks,j=>by have:=GZ (C:=C) (hd:=hd) l ks (j+1);simp only[F3,zaz];lia
theorem US{C:Bk}{at_:D}{p:Pa}{d:List (Key×D)}{k c:D}{ks:List Int}{hd:Nat->D}(hb:wA CA "book" at_=some (a9 C))(hk:bT [a9 C,bL p,k,c]=some (tupI ks))(hl:(kids p).length<=ks.length)(U:∀i,i<(kids p).length->dJ [.dK d,bL p,.int (i:Int),c]=some (hd i)):hJ [at_,dN C p,.dK d,k,c]=some (.lst (F3 C hd 0 (kids p) ks)):=by
 refine aF ?_;unfold GY;have W:=lW C p;have nb:=M9 C p;have h3:(kids p).length<=3:=by cases p <;> simp_all[kids]
 generalize kids p=l at *;generalize dN C p=nd at *;generalize bL p=pd at *;rw[aH (aN (d:=tupI ks) (by ac_rfl))];rw[aH (aN (d:=.lst []) (by simp_all))];refine gK (items:=gU 0 (l.map (dN C))) (by ac_rfl) (λi ρ=>∃J G,ρ=[some at_,some nd,some (.dK d),some k,some c,some (tupI ks),some (.lst (F3 C hd 0 (l.take i) ks)),J,G]) ⟨none,none,by ac_rfl⟩ ?_ ?_
 ·rintro i y ρ hy ⟨J,G,rfl⟩
  obtain⟨z,N,rfl⟩:=iK hy;rw[zaA]at N;obtain⟨q,M,rfl⟩:=map_some N;rw[zaK];have hi:=(List.getElem?_eq_some_iff.mp M).1;obtain⟨F,B⟩:∃F,ks[i]?=some F:=⟨ks[i],zaP (by lia)⟩;have e:=BS (C:=C) (hd:=hd) l ks 0 i q F M B;rw[zaK]at e;have hx:=U i hi;have Y:gE (ks.map D.int) (i:Int)=some (.int F):=bV (by rw[zaA,B];rfl);have ln:=GZ (C:=C) (hd:=hd) (l.take i) ks 0;have z1:a7 (F3 C hd 0 (l.take i) ks).length=true:=decide_eq_true (by rw[zbY]at ln;lia);refine⟨[some at_,some nd,some (.dK d),some k,some c,some (tupI ks),some (.lst (F3 C hd 0 (l.take (i+1)) ks)),some (.int (i:Int)),some (dN C q)],?_,_,_,rfl⟩;rw[e];generalize F3 C hd 0 (l.take i) ks=sp at *;simp_all[-zaq,turn,d5,W,hx,tupI,Y,z1]
 ·rintro ρ' ⟨J,G,rfl⟩
  rw[fR,zah,zbn];simp_all
def Small(a:Sm):Prop:=∀p,a=some p->0<=p.1/\p.1<10^250
def VZ(C:Bk)(p:Pa)(c:D)(own:Int):Prop:=(VD p = "use" /\ ∃(v:Nat) (m:Mk),c=.int (v:Int)/\C.makes[v]?=some m/\own=m.pr)\/(¬ VD p = "use" /\ own=0)
theorem NO(a:Sm):IT (memD a) .non=some (.bl a.isSome):=by cases a <;> rfl
theorem V2(h:fM L ([.inl j,.inl k]:List Key)=some e):aI (.dT L) (.tup [.int j,.int k])=some e:=by
 show(some (fM L ([.inl j,.inl k]:List Key))).join=_;rw[h];rfl
theorem xT{C:Bk}{at_:D}{L2:LT}{p:Pa}{d:List (Key×D)}{k j own:Int}{c:D}{R:List D->Option D}{Rs:List (D×D×D×Sm)}(U:wA CA "book" at_=some (a9 C))(hs:wA CA "spans" at_=some (.dT L2))(Y:fM L2 ([.inl j,.inl k]:List Key)=some (memD (QX C j k)))(ho:VZ C p c own)
  (hg:bF [a9 C,.dK d,bL p,.int k,c]=some (.int j)) (G:hJ [at_,dN C p,.dK d,.int k,c]=some (.lst (Rs.map λr=>.tup [r.1,r.2.1,r.2.2.1]))) (hR:∀r∈Rs,R [at_,r.1,r.2.1,r.2.2.1]=some (memD r.2.2.2)) (h0:Small (QX C j k)) (h1:∀r∈Rs,Small r.2.2.2) (h2:∀i,Small (csum C own j k ((Rs.map (·.2.2.2)).take i))) :
  bB 10 (cL R) [at_,dN C p,.dK d,.int k,c]=some (memD (csum C own j k (Rs.map (·.2.2.2)))):=by
 refine aF ?_;unfold cL;have np:=lW C p;have tg:=OG p;generalize dN C p=nd at *;have e1:(eIf (rK (bC iG (bC aI (d5 CN "part" (aD 1)) (eC (.int 0))) (eC (.str "use")))) (bC aI (bC aI (bC aI (d5 CA "book" (aD 0)) (eC (.int 3))) (aD 4)) (eC (.int 4))) (eC (.int 0))) (aE 10 [at_,nd,.dK d,.int k,c])=some (.int own):=by
  rcases ho with⟨t,v,m,rfl,q,rfl⟩|⟨t,rfl⟩
  ·have e:=oW q
   ac_rfl
  ·ac_rfl
 rw[aH (aN (d:=.int own) e1)];have M:=OT (a:=some (1,own)) (b:=QX C j k) (λp G=>by cases G;exact⟨(by decide:(0:Int)<=1),(by decide:(1:Int)<10^250)⟩) h0;have e0:memD (some (1,own))=.tup [.int 1,.int own]:=rfl;rw[e0]at M;have es:=V2 Y;rw[aH (aN (d:=memD (csum C own j k [])) (by simp_all[aE,d5,np,U,hs,hg,es,M,csum]))];refine gK (items:=Rs.map λr=>.tup [r.1,r.2.1,r.2.2.1]) (by ac_rfl) (λi ρ=>∃F z B,ρ=[some at_,some nd,some (.dK d),some (.int k),some c,some (.int own),some (memD (csum C own j k ((Rs.map (·.2.2.2)).take i))),F,z,B]) ⟨none,none,none,by ac_rfl⟩ ?_ ?_
 ·rintro i y ρ J ⟨F,z,B,rfl⟩
  rw[zaA]at J;obtain⟨r,N,rfl⟩:=map_some J;have q:=zaw N;have er:=hR r q;have et:(Rs.map (·.2.2.2)).take (i+1)=(Rs.map (·.2.2.2)).take i++[r.2.2.2]:=by
   rw[zcg,zaA,N];rfl
  have ec:csum C own j k ((Rs.map (·.2.2.2)).take (i+1))=rH (csum C own j k ((Rs.map (·.2.2.2)).take i)) r.2.2.2:=by
   rw[et];unfold csum;rw[List.foldl_append];rfl
  have bb:=OT (h2 i) (h1 r q);have nn:=NO (csum C own j k ((Rs.map (·.2.2.2)).take i));refine⟨[some at_,some nd,some (.dK d),some (.int k),some c,some (.int own),some (memD (csum C own j k ((Rs.map (·.2.2.2)).take (i+1)))),some r.1,some r.2.1,some r.2.2.1],?_,_,_,_,rfl⟩;rw[ec];generalize csum C own j k ((Rs.map (·.2.2.2)).take i)=t at *;cases t with
  | none=>
   have W:hW (memD none)=true:=rfl
   ac_rfl
  | some t=>
   have W:hW (memD (some t))=false:=rfl
   ac_rfl
 ·rintro ρ' ⟨F,z,B,rfl⟩
  rw[zah,zbN (by rw[zah];exact zaj _)];simp_all
theorem ED(l:List Int):intsOf (l.map .int)=some l:=by
 induction l with
 | nil=>rfl
 | cons i l ih=>show(intsOf (l.map .int)).map (i::·)=_;rw[ih];rfl
theorem tZ:∀(l:List Str) (o:Option D),(∀x∈l,fM d (.inr x:Key)=some (.int (e x)))->bE (aR 0) fH (bC aI (aD 1) (aD 0)) (l.map .str) [o,some (.dK d)]=some ((l.map e).map .int)
 | [],o,_=>rfl
 | x::l,o,h=>by
  have ih:=tZ l (some (.str x)) λy q=>h y (zap _ q)
  have z:=QA (h x (zar ..));rw[zak,bE];simp_all[-zaq,z,ih]
theorem DN{C:Bk}(B:OkB C){at_:D}{p:Pa}{d:List (Key×D)}{k:Int}{e:iF}{R:List D->Option D}{f:D->Sm}(F:wA CA "book" at_=some (a9 C))(W:0<=k/\k<(C.kinds.length:Int))(hd:∀x∈aQ p,fM d (.inr x:Key)=some (.int (e x)))(he:∀x∈aQ p,0<=e x/\e x<(C.kinds.length:Int))(h8:(aQ p).length<=8)
  (hc:∀c∈bQ C p,bB 10 (cL R) [at_,dN C p,.dK d,.int k,c]=some (memD (f c))) (hf:(bQ C p).foldl (λt c=>dG t (f c)) none=aW C p e k):bB 7 (iP R) [at_,dN C p,.dK d,.int k]=some (memD (aW C p e k)):=by
 refine aF ?_;unfold iP;have M:=lW C p;have nn:=AZ C p;have nf:=M1 C p;have wc:=pK B p;have J:=tZ (d:=d) (e:=e) (aQ p) none hd;have Y:a7 (aQ p).length=true:=decide_eq_true (by lia);have kk:nkD (.tup [.int k,.tup (((aQ p).map e).map .int)])=some (.inl k,((aQ p).map e).map .inl):=by
  show(intsOf _).map _=_;rw[ED];rfl
 have fk:=qai C p k ((aQ p).map e);have G:=qu (C:=C) (p:=p) (k:=k) (l:=(aQ p).map e) W (by rw[zah]) λj N=>by
  obtain⟨x,hx,rfl⟩:=List.mem_map.mp N;exact he x hx
 have dl:=XQ (C:=C) (p:=p) B.k6 h8;have cg:=cG C p (LI (aQ p) ((aQ p).map e)) e k λx hx=>BF e hx
 rw[cg]at fk;generalize dN C p=nd at *;rw[aH (aN (d:=.tup [.int k,.tup (((aQ p).map e).map .int)]) (by simp_all[-zaq,aE,d5,nn,jW,Y,J]))];rw[show(aE 7 [at_,nd,.dK d,.int k]).set 4 (some (.tup [.int k,.tup (((aQ p).map e).map .int)]))=[some at_,some nd,some (.dK d),some (.int k),some (.tup [.int k,.tup (((aQ p).map e).map .int)]),none,none]from rfl];have lp:=zQ (g:=aR 6) (b:=eE 5 (aT oH (aC (aD 5) (aC (aT (bB 10 (cL R)) (aC (aD 0) (aC (aD 1) (aC (aD 2) (aC (aD 3) (aC (aD 6) aZ)))))) aZ)))) (items:=bQ C p) (ρ:=[some at_,some nd,some (.dK d),some (.int k),some (.tup [.int k,.tup (((aQ p).map e).map .int)]),some .non,none])
  (λi ρ => ∃q, ρ = [some at_, some nd, some (.dK d), some (.int k), some (.tup [.int k, .tup (((aQ p).map e).map .int)]), some (memD (((bQ C p).take i).foldl (λt c => dG t (f c)) none)), q]) ⟨none, rfl⟩ (by
   rintro i c ρ hi ⟨q,rfl⟩;have ec:=hc c (zaw hi);have et:(bQ C p).take (i+1)=(bQ C p).take i++[c]:=by rw[zcg,hi];rfl
   have U:=MG (((bQ C p).take i).foldl (λt c=>dG t (f c)) none) (f c);refine⟨[some at_,some nd,some (.dK d),some (.int k),some (.tup [.int k,.tup (((aQ p).map e).map .int)]),some (memD (((bQ C p).take (i+1)).foldl (λt c=>dG t (f c)) none)),some c],?_,_,rfl⟩;rw[et,List.foldl_append];generalize ((bQ C p).take i).foldl (λt c=>dG t (f c)) none=t at *;simp_all[-zaq,turn,ec,U])
 obtain⟨ρ',z,q,rfl⟩:=lp;rw[zbn,hf]at z;unfold V6;have f2:(zW (gF (aT eW (aC (d5 CA "book" (aD 0)) (aC (d5 CN "part" (aD 1)) aZ)))) (aR 6) (eE 5 (aT oH (aC (aD 5) (aC (aT (bB 10 (cL R)) (aC (aD 0) (aC (aD 1) (aC (aD 2) (aC (aD 3) (aC (aD 6) aZ)))))) aZ))))) [some at_,some nd,some (.dK d),some (.int k),some (.tup [.int k,.tup (((aQ p).map e).map .int)]),some .non,none]=some (.nx [some at_,some nd,some (.dK d),some (.int k),some (.tup [.int k,.tup (((aQ p).map e).map .int)]),some (memD (aW C p e k)),q]):=by
  rw[q_for];have:gF (aT eW (aC (d5 CA "book" (aD 0)) (aC (d5 CN "part" (aD 1)) aZ))) [some at_,some nd,some (.dK d),some (.int k),some (.tup [.int k,.tup (((aQ p).map e).map .int)]),some .non,none]=some (bQ C p):=by simp_all[d5,F,M,wc]
  rw[this];exact z
 have f1:(eE 5 (eC .non)) [some at_,some nd,some (.dK d),some (.int k),some (.tup [.int k,.tup (((aQ p).map e).map .int)]),none,none]=some (.nx [some at_,some nd,some (.dK d),some (.int k),some (.tup [.int k,.tup (((aQ p).map e).map .int)]),some .non,none]):=rfl;show(aD 1 [some at_,some nd,some (.dK d),some (.int k),some (.tup [.int k,.tup (((aQ p).map e).map .int)]),none,none]).bind _=_;rw[show aD 1 [some at_,some nd,some (.dK d),some (.int k),some (.tup [.int k,.tup (((aQ p).map e).map .int)]),none,none]=some nd from rfl,aA,nf,aA];dsimp only;rw[show aD 4 [some at_,some nd,some (.dK d),some (.int k),some (.tup [.int k,.tup (((aQ p).map e).map .int)]),none,none]=some (.tup [.int k,.tup (((aQ p).map e).map .int)])from rfl,aA,kk,aA,f1,aA];dsimp only;rw[f2,aA];dsimp only;rw[show aD 5 [some at_,some nd,some (.dK d),some (.int k),some (.tup [.int k,.tup (((aQ p).map e).map .int)]),some (memD (aW C p e k)),q]=some (memD (aW C p e k))from rfl,aA,if_pos ⟨G,dl,by rw[fk],rfl,rfl⟩]
theorem Z2(h:turn w s x ρ=some (.nx ρ1))(k:ρ1=ρ2):turn w s x ρ=some (.nx ρ2):=k ▸ h
theorem WN(h:aD k ρ=some (.lst xs))(e:f ρ=some (.lst ys))(z:xs.length+ys.length<=1000000):U9 k f ρ=some (.nx (ρ.set k (some (.lst (xs++ys))))):=by
 unfold U9;rw[h,aA];show(f ρ).bind _=_;rw[e,aA];exact if_pos (decide_eq_true z)
local macro_rules | `(tactic|ac_rfl) => `(tactic|(with_reducible apply WN) <;> ac_rfl)
theorem P0(g:GR M many C.rs):∀(n:Nat) (x:Int),k-x<(n:Int)->0<n->k-x<=5->eD 6 mS n [a9 C,.int x,.int k]=some (.lst ((bS C.rs k n x).map tupI))
 | 0,x,_,h,_=>absurd h (zbQ 0)
 | n+1,x,hn,_,h5=>by
  have Y:∀y:Int,k-y<(n:Int)->0<n->k-y<=5->eD 6 mS n [a9 C,.int y,.int k]=some (.lst ((bS C.rs k n y).map tupI)):=λy=>P0 g n y
  show bB 6 (mS (eD 6 mS n)) _=_;generalize eD 6 mS n=R at Y ⊢;refine aF ?_;unfold mS bS;by_cases e:x=k
  ·rw[if_pos e]
   ac_rfl
  rw[if_neg e];rw[aH (ρ':=aE 6 [a9 C,.int x,.int k]) (by ac_rfl)];rw[aH (aN (d:=.lst []) (by simp_all))];refine gK (items:=gU 0 (C.rs.map lY)) (by ac_rfl) (λi ρ=>∃F W,ρ=[some (a9 C),some (.int x),some (.int k),some (.lst ((fl (λi r=>if r.j=x/\r.k<=k then(bS C.rs k n r.k).map λw=>(i:Int)::w else []) 0 (C.rs.take i)).map tupI)),F,W]) ⟨none,none,by ac_rfl⟩ ?_ ?_
  ·rintro i y ρ hy ⟨F,W,rfl⟩
   obtain⟨z,hz,rfl⟩:=iK hy;rw[zaA]at hz;obtain⟨r,U,rfl⟩:=map_some hz;rw[zaK];have gr:=g.jk r (zaw U);have hi:i<C.rs.length:=(List.getElem?_eq_some_iff.mp U).1;have gl:=g.len;refine⟨[some (a9 C),some (.int x),some (.int k),some (.lst ((fl (λi r=>if r.j=x/\r.k<=k then(bS C.rs k n r.k).map λw=>(i:Int)::w else []) 0 (C.rs.take (i+1))).map tupI)),some (.int (i:Int)),some (lY r)],?_,_,_,rfl⟩;rw[SV U];by_cases q:r.j=x/\r.k<=k
   ·have G:(fl (λi r=>if r.j=x/\r.k<=k then(bS C.rs k n r.k).map λw=>(i:Int)::w else []) 0 (C.rs.take i)).length<=12*12^4:=by
     refine zaM (kX (B:=12^4) λt N er=>?_) (Nat.mul_le_mul_right _ (by simp_all;lia));split
     ·rw[zah]
      have J:C.rs[t]?=some N:=by rw[List.getElem?_take]at er;split at er;exact er;cases er
      have ac:=g.jk N (zaw J);exact kZ g n N.k 4 (by lia)
     ·exact zaJ _
    rw[if_pos q];generalize fl (λi r=>if r.j=x/\r.k<=k then(bS C.rs k n r.k).map λw=>(i:Int)::w else []) 0 (C.rs.take i)=told at G;have ih:=Y r.k (by lia) (by lia) (by lia);have al:=kZ g n r.k 4 (k:=k) (by lia);have cm:=uF (t:=(i:Int)) (bS C.rs k n r.k) none λw hw=>by
     have:=lF g (jA hw);lia
    have z1:((bS C.rs k n r.k).map tupI).length<=1000000:=by rw[zah];lia
    have z2:(told.map tupI).length+(((bS C.rs k n r.k).map λw=>(i:Int)::w).map tupI).length<=1000000:=by rw[zah,zah,zah];lia
    obtain⟨c1,c2⟩:=q;rw[zaI];apply Z2
    ·ac_rfl
    ·rfl
   ·rw[if_neg q,zbw]
    by_cases h1:r.j=x
    ·have h2:¬ r.k<=k:=λz=>q ⟨h1,z⟩
     ac_rfl
    ·ac_rfl
  ·rintro ρ' ⟨F,W,rfl⟩
   rw[fR,zah,zbn];simp_all
theorem AH(h:∀n∈w,∃r,lX C.rs n=some r)(z:w.length<=100):kU [a9 C,tupI w]=some (.int (gW C.rs w)):=by
 obtain⟨ns,e,hs⟩:=wQ h;have q:a7 w.length=true:=decide_eq_true (by lia);refine aF ?_;simp_all[pW,aE,tupI,jW,q,e,hs]
theorem qH:∀(ws:List (List Int)) (o:Option D),(∀w∈ws,(∀n∈w,∃r,lX C.rs n=some r)/\w.length<=100)->bE (aR 0) fH (aT kU (aC (aD 1) (aC (aD 0) aZ))) (ws.map tupI) [o,some (a9 C)]=some ((ws.map (gW C.rs)).map .int)
 | [],o,_=>rfl
 | w::ws,o,h=>by
  have ih:=qH ws (some (tupI w)) λv q=>h v (zap _ q)
  have e:=AH (h w (zar ..)).1 (h w (zar ..)).2;rw[zak,bE];simp_all[-zaq,e,ih]
theorem DJ(B:OkB C)(J:0<=j)(k1:k<(C.kinds.length:Int)):cV [a9 C,.lst ((bS C.rs k 8 j).map tupI)]=some (memD (QX C j k)):=by
 have M:=B.k6;have G:=kZ B.gr (k:=k) 8 j 5 (by lia);have hw:∀w∈bS C.rs k 8 j,(∀n∈w,∃r,lX C.rs n=some r)/\w.length<=100:=λw hw=>by
  have g:=jA hw;have:=lF B.gr g;exact⟨zP g,by lia⟩
 have c:=qH (bS C.rs k 8 j) none hw;have z:a7 (bS C.rs k 8 j).length=true:=decide_eq_true (by lia);refine aF ?_;unfold tI QX;generalize bS C.rs k 8 j=ws at *;rw[aH (aN (d:=.lst ((ws.map (gW C.rs)).map .int)) (by simp_all[-zaq,aE,jW,z,c]))];by_cases h:ws.length=0
 ·rw[if_pos h]
  have:ws=[]:=List.length_eq_zero_iff.mp h;subst this
  ac_rfl
 ·rw[if_neg h]
  have e:=UJ (ns:=ws.map (gW C.rs)) (λz=>h (by rw[List.map_eq_nil_iff]at z;rw[z];rfl));have F:(0:Int)<(ws.length:Int):=by lia
  have q:¬ ws=[]:=λz=>h (by rw[z];rfl)
  simp_all[-zaq,aE,e,F,q,memD]
theorem pJ{z:Type}{f:D->z->Option z}(I:Nat->z->Prop):∀(l:List D) (k:Nat) (a:z),I k a->(∀i x a,l[i]?=some x->I (k+i) a->∃q,f x a=some q/\I (k+i+1) q)->∃q,mC f l a=some q/\I (k+l.length) q
 | [],k,a,h,_=>⟨a,rfl,h⟩
 | x::l,k,a,h,s=>by
  obtain⟨M,G,h1⟩:=s 0 x a rfl h;obtain⟨B,N,h2⟩:=pJ I l (k+1) M h1 λi y b J F=>by
   have:=s (i+1) y b (by simpa using J) (by rw[show k+(i+1)=k+1+i by lia];exact F);rw[show k+(i+1)+1=k+1+i+1 by lia]at this;exact this
  refine⟨B,?_,by rw[zaz,show k+(l.length+1)=k+1+l.length by lia];exact h2⟩;show(f x a).bind (mC f l)=some B;rw[G];exact N
theorem CH{l:LT}{k:List Key}:(putD l k e).length<=l.length+1:=by
 unfold putD;split <;> simp_all
def LF(C:Bk)(P:Int->Int->Prop)(p:LT×LT):Prop:=∀j k,P j k->fM p.1 ([.inl j,.inl k]:List Key)=some (.lst ((bS C.rs k 8 j).map tupI))/\fM p.2 ([.inl j,.inl k]:List Key)=some (memD (QX C j k))
theorem SC{C:Bk}(B:OkB C):∃U L2,vC CA gA iC cV (a9 C)=some (.ob CA [("book",a9 C),("routes",.dT U),("spans",.dT L2)])/\LF C (λj k=>(0<=j/\j<(C.kinds.length:Int))/\0<=k/\k<(C.kinds.length:Int)) (U,L2):=by
 have k6:=B.k6;have g:gA (a9 C)=some (aU 0 1 C.kinds.length):=by
  unfold gA;simp_all[FM,cE (show C.kinds.length<=1000000 by lia)]
 have step:∀(j k:Int) (p:LT×LT),(0<=j/\j<(C.kinds.length:Int))->(0<=k/\k<(C.kinds.length:Int))->p.1.length<=100->p.2.length<=100->mW iC cV (a9 C) (.int j) (.int k) p=some (putD p.1 ([.inl j,.inl k]:List Key) (.lst ((bS C.rs k 8 j).map tupI)),putD p.2 ([.inl j,.inl k]:List Key) (memD (QX C j k))):=λj k p J hk M W=>by
  have w:iC [a9 C,.int j,.int k]=some (.lst ((bS C.rs k 8 j).map tupI)):=P0 B.gr 8 j (by lia) (by decide) (by lia);have ws:=DJ B J.1 hk.2;unfold mW;rw[w,aA,show WB (.tup [.int j,.int k])=some ([.inl j,.inl k]:List Key)from rfl,aA,if_pos ⟨decide_eq_true (by lia),decide_eq_true (by lia)⟩,sA,if_pos rfl,aA,ws];rfl
 have inner:∀(j:Nat) (p:LT×LT),j<C.kinds.length->p.1.length<=6*j->p.2.length<=6*j->LF C (λa b=>(0<=a/\a<(j:Int))/\0<=b/\b<(C.kinds.length:Int)) p->∃p',mC (mW iC cV (a9 C) (.int (j:Int))) (aU 0 1 C.kinds.length) p=some p'/\p'.1.length<=6*(j+1)/\p'.2.length<=6*(j+1)/\LF C (λa b=>(0<=a/\a<((j+1:Nat):Int))/\0<=b/\b<(C.kinds.length:Int)) p':=λj p J M W ok=>by
  obtain⟨p',e,a1,a2,Y⟩:=pJ (f:=mW iC cV (a9 C) (.int (j:Int))) (λi q=>q.1.length<=6*j+i/\q.2.length<=6*j+i/\LF C (λa b=>((0<=a/\a<(j:Int))/\0<=b/\b<(C.kinds.length:Int))\/(a=(j:Int)/\0<=b/\b<(i:Int))) q) (aU 0 1 C.kinds.length) 0 p ⟨M,W,λa b h=>by rcases h with h|h;exact ok a b h;lia⟩ (by
   intro i x q hx ⟨N,b2,G⟩;obtain⟨F,rfl⟩:=b7 hx;rw[zaK]at *;rw[show(0:Int)+(i:Int)*1=(i:Int) by lia];have ah:=CH (l:=q.1) (k:=([.inl (j:Int),.inl (i:Int)]:List Key)) (e:=.lst ((bS C.rs (i:Int) 8 (j:Int)).map tupI));have ak:=CH (l:=q.2) (k:=([.inl (j:Int),.inl (i:Int)]:List Key)) (e:=memD (QX C (j:Int) (i:Int)));refine⟨_,step (j:Int) (i:Int) q ⟨by lia,by lia⟩ ⟨by lia,by lia⟩ (by lia) (by lia),by simp only;lia,by simp only;lia,λa b h=>?_⟩;simp only[sA];by_cases z:a=(j:Int)/\b=(i:Int)
   ·rw[z.1,z.2,if_pos rfl,if_pos rfl];exact⟨rfl,rfl⟩
   ·have ne:¬ ([.inl a,.inl b]:List Key)=[.inl (j:Int),.inl (i:Int)]:=λq=>z (by simpa using q)
    rw[if_neg ne,if_neg ne];refine G a b ?_;rcases h with h|h
    ·exact .inl h
    ·exact .inr ⟨h.1,h.2.1,by lia⟩)
  rw[bI,zaK]at a1 a2 Y;refine⟨p',e,by lia,by lia,λa b h=>Y a b ?_⟩;by_cases z:a=(j:Int)
  ·exact .inr ⟨z,h.2⟩
  ·exact .inl ⟨⟨h.1.1,by lia⟩,h.2⟩
 obtain⟨p',e,_,_,ok⟩:=pJ (f:=λj p=>(gA (a9 C)).bind λks=>mC (mW iC cV (a9 C) j) ks p) (λi q=>q.1.length<=6*i/\q.2.length<=6*i/\LF C (λa b=>(0<=a/\a<(i:Int))/\0<=b/\b<(C.kinds.length:Int)) q) (aU 0 1 C.kinds.length) 0 ([],[]) ⟨zaj _,zaj _,λa b h=>by lia⟩ (by
  intro i x q hx ⟨N,b2,G⟩;obtain⟨F,rfl⟩:=b7 hx;rw[zaK]at *;rw[show(0:Int)+(i:Int)*1=(i:Int) by lia];obtain⟨p',e,c1,c2,c3⟩:=inner i q F N b2 G;exact⟨p',by rw[g];exact e,c1,c2,c3⟩)
 rw[bI,zaK]at ok;refine⟨p'.1,p'.2,?_,ok⟩;unfold vC;rw[g,aA,<- g,e];rfl
theorem xE(g:GR M many rs):∀(n:Nat) (x:Int),(bS rs k n x).length<=12^n
 | 0,x=>zaJ _
 | n+1,x=>by
  unfold bS;split
  ·exact Nat.pos_of_ne_zero (zbu (Nat.pow_pos (by decide)))
  ·refine zaM (kX (B:=12^n) λi r q=>?_) ?_
   ·split
    ·rw[zah];exact xE g n r.k
    ·exact zaJ _
   ·rw[Nat.pow_succ,Nat.mul_comm];exact Nat.mul_le_mul_left _ g.len
noncomputable def TT(m:Nat):Int:=((10000000000^m:Nat):Int)
theorem OI(m n:Nat):TT (m+n)=TT m*TT n:=by unfold TT;rw[Nat.pow_add,Int.natCast_mul]
theorem TU(h:m<=n):TT m<=TT n:=Int.ofNat_le.mpr (Nat.pow_le_pow_right (by decide) h)
theorem IJ(m:Nat):0<=TT m:=Int.natCast_nonneg _
def LeT(m:Nat)(a:Int):Prop:=0<=a/\a<=TT m
theorem LeT.mul(h:LeT m a)(k:LeT n b):LeT (m+n) (a*b):=⟨zcW h.1 k.1,by rw[OI];exact Int.mul_le_mul h.2 k.2 k.1 (IJ m)⟩
theorem LeT.mono(h:LeT m a)(k:m<=n):LeT n a:=⟨h.1,zcu h.2 (TU k)⟩
theorem LeT.one:LeT 0 1:=⟨by decide,by unfold TT;exact zdN _⟩
theorem uI(h:LeT m (nI a))(q:m<=16):Small a:=λp z=>by
 subst z;have b:=(h.mono q).2;have c:TT 16<10^250:=by decide +kernel
 exact⟨h.1,Int.lt_of_le_of_lt b c⟩
noncomputable def cI:D->Int
 | .int v=>v
 | _=>0
def QW(C:Bk):Pa->D->Int
 | .use1 ..,c=>mpr C (cI c).toNat
 | .use2 ..,c=>mpr C (cI c).toNat
 | _,_=>0
def cW(C:Bk):Pa->iF->Int->D->Int
 | .name x,e,_,_=>e x
 | .num _ j,_,_,_=>j
 | .use1 ..,_,_,c=>dO C (cI c).toNat
 | .use2 ..,_,_,c=>dO C (cI c).toNat
 | .lett ..,_,k,_=>k
 | .pick _ k' ..,_,_,_=>k'
 | .again _ k' ..,_,_,_=>k'
def DI(C:Bk):Pa->Int->D->List Int
 | .use1 ..,_,c=>[aV C (cI c).toNat 0]
 | .use2 ..,_,c=>[aV C (cI c).toNat 0,aV C (cI c).toNat 1]
 | .lett ..,k,c=>[cI c,k]
 | .pick c' k' ..,_,_=>[c',k',k']
 | .again _ k' ..,_,_=>[k',k']
 | _,_,_=>[]
def FW:Pa->D->Int
 | .lett ..,c=>cI c
 | .again _ k' ..,_=>k'
 | _,_=>0
def Q3(p:Pa)(e:iF)(c:D)(i:Nat):iF:=match hid p i with
 | none=>e
 | some x=>fJ e x (FW p c)
def LN(p:Pa)(d:List (Key×D))(c:D)(i:Nat):List (Key×D):=match hid p i with
 | none=>d
 | some x=>putD d (.inr x) (.int (FW p c))
abbrev Sb:=Pa×List (Key×D)×iF×Int
def F4(hd:Nat->List (Key×D))(ev:Nat->iF):Nat->List Pa->List Int->List Sb
 | i,q::l,k::ks=>(q,hd i,ev i,k)::F4 hd ev (i+1) l ks
 | _,_,_=>[]
def nF(C:Bk)(s:Sb):Sm:=aW C s.1 s.2.2.1 s.2.2.2
def sb(C:Bk)(p:Pa)(d:List (Key×D))(e:iF)(k:Int)(c:D):List Sb:=F4 (LN p d c) (Q3 p e c) 0 (kids p) (DI C p k c)
def v9(C:Bk)(p:Pa)(d:List (Key×D))(e:iF)(k:Int)(c:D):Sm:=csum C (QW C p c) (cW C p e k c) k ((sb C p d e k c).map (nF C))
theorem zE(C:Bk)(p:Pa)(d:List (Key×D))(e:iF)(k:Int):(bQ C p).foldl (λt c=>dG t (v9 C p d e k c)) none=aW C p e k:=by
 cases p with
 | name x=>simp only[bQ,aW,zcK,zdO];cases h:v9 C (.name x) d e k .non <;> exact h.symm
 | num n j=>simp only[bQ,aW,zcK,zdO];cases h:v9 C (.num n j) d e k .non <;> exact h.symm
 | use1 nm p=>simp only[bQ,aW,List.foldl_map];rfl
 | use2 nm p q=>simp only[bQ,aW,List.foldl_map];rfl
 | lett x p q=>simp only[bQ,aW,List.foldl_map];rfl
 | pick c' k' p q r=>simp only[bQ,aW,zcK,zdO];cases h:v9 C (.pick c' k' p q r) d e k .non <;> exact h.symm
 | again n k' x p q=>simp only[bQ,aW,zcK,zdO];cases h:v9 C (.again n k' x p q) d e k .non <;> exact h.symm
theorem gZ{hd:Nat->List (Key×D)}{ev:Nat->iF}:∀ {l:List Pa} {ks:List Int} {j i:Nat} {s:Sb},(F4 hd ev j l ks)[i]?=some s->∃q k,l[i]?=some q/\ks[i]?=some k/\s=(q,hd (j+i),ev (j+i),k)
 | [],ks,j,i,s,h=>by cases ks <;> simp[-zac,-zab,aA,aB,F4]at h
 | q::l,[],j,i,s,h=>by simp[-zac,-zab,aA,aB,F4]at h
 | q::l,k::ks,j,0,s,h=>by
  have:(q,hd j,ev j,k)=s:=by simpa[F4]using h
  exact⟨q,k,rfl,rfl,this.symm⟩
 | q::l,k::ks,j,i+1,s,h=>by
  obtain⟨B,z,h1,h2,F⟩:=gZ (l:=l) (ks:=ks) (j:=j+1) (i:=i) (s:=s) (by simpa[F4]using h);exact⟨B,z,by simpa using h1,by simpa using h2,by rw[F,show j+1+i=j+(i+1) by lia]⟩
theorem yH{hd:Nat->List (Key×D)}{ev:Nat->iF}:∀ {l:List Pa} {ks:List Int} {j:Nat},l.length=ks.length->(F4 hd ev j l ks).length=l.length
 | [],ks,j,h=>by cases ks <;> rfl
 | q::l,[],j,h=>by simp[-zac,-zab,aA,aB]at h
 | q::l,k::ks,j,h=>by rw[F4,zaz,zaz,yH (by simpa using h)]
theorem yE{hd:Nat->List (Key×D)}{ev:Nat->iF}:∀(l:List Pa) (ks:List Int) (j:Nat),((F4 hd ev j l ks).map λs=>psz s.1).sum<=(l.map psz).sum
 | [],ks,j=>by cases ks <;> simp_all[F4]
 | q::l,[],j=>by simp_all[F4]
 | q::l,k::ks,j=>by
  have:=yE (hd:=hd) (ev:=ev) l ks (j+1);simp only[F4,zak,zbo];lia
theorem GB{C:Bk}{hd:Nat->List (Key×D)}{ev:Nat->iF}:∀(l:List Pa) (ks:List Int) (j:Nat),F3 C (λi=>.dK (hd i)) j l ks=(F4 hd ev j l ks).map λs=>.tup [dN C s.1,.dK s.2.1,.int s.2.2.2]
 | [],ks,j=>by cases ks <;> rfl
 | q::l,[],j=>rfl
 | q::l,k::ks,j=>by rw[F3,F4,zak,GB l ks (j+1)]
theorem pQ(h:s∈sb C p d e k c):s.1∈kids p:=by
 obtain⟨i,hi⟩:=zch h;obtain⟨q,z,h1,h2,rfl⟩:=gZ hi;exact zaw h1
theorem nV:∀(l:List Sb) (i:Nat),(∀s∈l,LeT (psz s.1) (nI (nF C s)))->LeT (l.map λs=>psz s.1).sum (iV (((l.map (nF C)).take i).map nI))
 | [],i,_=>by simp only[zb0,List.take_nil,iV,List.sum_nil];exact .one
 | s::l,0,h=>by simp only[List.take_zero,zb0,iV];exact LeT.one.mono (zaJ _)
 | s::l,i+1,h=>by
  simp only[zak,zcv,iV,zbo];exact(h s (zar ..)).mul (nV l i λt q=>h t (zap _ q))
theorem R1(B:OkB C)(p:Pa):(bQ C p).length<=6:=by
 have z:=B.k6;have q:=B.ml;have u:∀nm n,(oY C nm n).length<=6:=λnm n=>by
  unfold oY;refine zaM (zc1 ..) ?_;rw[zcI];exact q
 cases p <;> simp_all[bQ] <;> first|exact u _ _|lia
theorem U8(B:OkB C)(j k:Int):((bS C.rs k 8 j).length:Int)<=429981696:=Int.ofNat_le.mpr (xE B.gr 8 j)
theorem V9(B:OkB C)(h:LeT m (iV (l.map nI))):0<=nI (csum C own j k l)/\nI (csum C own j k l)<=TT m*429981696:=by
 rw[fE,yS];have e:iV [((bS C.rs k 8 j).length:Int)]=((bS C.rs k 8 j).length:Int):=by simp_all[iV]
 rw[e];have a:=U8 B j k;exact⟨zcW h.1 (by lia),Int.mul_le_mul h.2 a (by lia) (IJ m)⟩
theorem P4{q:Type}{f:q->Int}{c:Int}:∀ {l:List q},(∀v∈l,f v<=c)->(l.map f).sum<=(l.length:Int)*c
 | [],_=>by simp_all
 | a::l,h=>by
  have h1:=h a (zar ..);have h2:=P4 (l:=l) λv z=>h v (zap _ z)
  rw[zak,zbo,zaz,Int.natCast_succ,Int.add_mul];lia
theorem OS(m:Nat):TT (m+1)=TT m*10000000000:=by rw[OI];rfl
theorem lT{C:Bk}(B:OkB C):∀(n:Nat) (p:Pa),psz p<=n->∀(e:iF) (k:Int),LeT (psz p) (nI (aW C p e k))
 | 0,p,h,_,_=>by have:=dU p;lia
 | n+1,p,h,e,k=>by
  refine⟨b9 C p e k,?_⟩;rw[<- zE C p [] e k,jE];have ks:=dU p;have z:=R1 B p;have q:∀c∈bQ C p,nI (v9 C p [] e k c)<=TT ((kids p).map psz).sum*429981696:=λc _=>by
   have a:=nV (C:=C) (sb C p [] e k c) (sb C p [] e k c).length λs hs=>lT B n s.1 (by have:=gC (pQ hs);lia) _ _
   rw[zbN (by rw[zah];exact zaj _)]at a;exact(V9 B (a.mono (yE ..))).2
  have:=P4 q;rw[<- ks,OS];have F:=IJ ((kids p).map psz).sum;generalize TT ((kids p).map psz).sum=T at *;have G:((bQ C p).length:Int)*(T*429981696)<=6*(T*429981696):=zey (by lia) (by lia);rw[show nI (none:Sm)=0 from rfl];lia
theorem LR{C:Bk}(B:OkB C){own j k:Int}{l:List Sb}{m:Nat}(z:(l.map λs=>psz s.1).sum+1<=m)(q:m<=16)(i:Nat):LeT m (nI (csum C own j k ((l.map (nF C)).take i)))/\Small (csum C own j k ((l.map (nF C)).take i)):=by
 have a:=V9 B (own:=own) (j:=j) (k:=k) (nV (C:=C) l i λs _=>lT B _ s.1 (zaj _) _ _);have b:LeT ((l.map λs=>psz s.1).sum+1) (nI (csum C own j k ((l.map (nF C)).take i))):=⟨a.1,by
  rw[OS];have F:=IJ (l.map λs=>psz s.1).sum
  lia⟩
 exact⟨b.mono z,uI (b.mono z) q⟩
def PaOk(C:Bk)(U:List Str):Pa->Prop
 | .name x=>x∈U
 | .num _ j=>0<=j/\j<(C.kinds.length:Int)
 | .use1 _ p=>PaOk C U p
 | .use2 _ p q=>PaOk C U p/\PaOk C U q
 | .lett x p q=>x∈U/\PaOk C U p/\PaOk C U q
 | .pick c k p q r=>(0<=c/\c<(C.kinds.length:Int))/\(0<=k/\k<(C.kinds.length:Int))/\PaOk C U p/\PaOk C U q/\PaOk C U r
 | .again _ k x p q=>(0<=k/\k<(C.kinds.length:Int))/\x∈U/\PaOk C U p/\PaOk C U q
theorem QH{z:Type}{a q:z}{i:Nat}(h:[a][i]?=some q):i=0/\q=a:=by
 cases i with
 | zero=>exact⟨rfl,by simpa using h.symm⟩
 | succ i=>simp[-zac,-zab,aA,aB]at h
theorem v8{z:Type}{a b q:z}{i:Nat}(h:[a,b][i]?=some q):(i=0/\q=a)\/(i=1/\q=b):=by
 cases i with
 | zero=>exact .inl ⟨rfl,by simpa using h.symm⟩
 | succ i=>have:=QH (a:=b) (q:=q) (i:=i) (by simpa using h);exact .inr ⟨by lia,this.2⟩
theorem get3{B:Type}{a b c q:B}{i:Nat}(h:[a,b,c][i]?=some q):(i=0/\q=a)\/(i=1/\q=b)\/(i=2/\q=c):=by
 cases i with
 | zero=>exact .inl ⟨rfl,by simpa using h.symm⟩
 | succ i=>
  rcases v8 (a:=b) (b:=c) (q:=q) (i:=i) (by simpa using h)with z|z
  ·exact .inr (.inl ⟨by lia,z.2⟩)
  ·exact .inr (.inr ⟨by lia,z.2⟩)
theorem rT{p q:Pa}{i:Nat}{x:Str}(z:(kids p)[i]?=some q)(hx:x∈aQ q)(B:some x≠hid p i):x∈aQ p:=by
 cases p with
 | name y=>simp[-zac,-zab,aA,aB,kids]at z
 | num n j=>simp[-zac,-zab,aA,aB,kids]at z
 | use1 nm p=>obtain⟨rfl,rfl⟩:=QH z;simp only[aQ,bD];exact .inr ⟨hx,by simp_all⟩
 | use2 nm p q=>
  simp only[aQ,bD];rcases v8 z with⟨rfl,rfl⟩|⟨rfl,rfl⟩
  ·exact .inl (.inr ⟨hx,by simp_all⟩)
  ·exact .inr ⟨hx,by simp_all⟩
 | lett y p q=>
  simp only[aQ,bD];rcases v8 z with⟨rfl,rfl⟩|⟨rfl,rfl⟩
  ·exact .inl (.inr ⟨hx,by simp_all⟩)
  ·exact .inr ⟨hx,B⟩
 | pick c k p q r=>
  simp only[aQ,bD];rcases get3 z with⟨rfl,rfl⟩|⟨rfl,rfl⟩|⟨rfl,rfl⟩
  ·exact .inl (.inl (.inr ⟨hx,by simp_all⟩))
  ·exact .inl (.inr ⟨hx,by simp_all⟩)
  ·exact .inr ⟨hx,by simp_all⟩
 | again n k y p q=>
  simp only[aQ,bD];rcases v8 z with⟨rfl,rfl⟩|⟨rfl,rfl⟩
  ·exact .inl (.inr ⟨hx,by simp_all⟩)
  ·exact .inr ⟨hx,B⟩
theorem PaOk.kid(h:PaOk C U p)(z:q∈kids p):PaOk C U q:=by
 cases p with
 | name y=>cases z
 | num n j=>cases z
 | use1 nm p=>rw[List.mem_singleton.mp z];exact h
 | use2 nm p q=>simp[-zac,-zab,aA,aB,kids]at z;rcases z with rfl|rfl;exact h.1;exact h.2
 | lett y p q=>simp[-zac,-zab,aA,aB,kids]at z;rcases z with rfl|rfl;exact h.2.1;exact h.2.2
 | pick c k p q r=>simp[-zac,-zab,aA,aB,kids]at z;rcases z with rfl|rfl|rfl;exact h.2.2.1;exact h.2.2.2.1;exact h.2.2.2.2
 | again n k y p q=>simp[-zac,-zab,aA,aB,kids]at z;rcases z with rfl|rfl;exact h.2.2.1;exact h.2.2.2
theorem PaOk.nms:∀ {p:Pa},PaOk C U p->∀x∈aQ p,x∈U
 | .name y,h,x,hx=>by rw[List.mem_singleton.mp hx];exact h
 | .num _ _,h,x,hx=>by cases hx
 | .use1 _ p,h,x,hx=>by
  simp[-zac,-zab,aA,aB,aQ,bD]at hx;exact PaOk.nms (p:=p) h x hx
 | .use2 _ p q,h,x,hx=>by
  simp[-zac,-zab,aA,aB,aQ,bD]at hx;rcases hx with z|z
  ·exact PaOk.nms h.1 x z
  ·exact PaOk.nms h.2 x z
 | .lett _ p q,h,x,hx=>by
  simp[-zac,-zab,aA,aB,aQ,bD]at hx;rcases hx with z|z
  ·exact PaOk.nms h.2.1 x z
  ·exact PaOk.nms h.2.2 x z.1
 | .pick _ _ p q r,h,x,hx=>by
  simp[-zac,-zab,aA,aB,aQ,bD]at hx;rcases hx with(z|z)|z
  ·exact PaOk.nms h.2.2.1 x z
  ·exact PaOk.nms h.2.2.2.1 x z
  ·exact PaOk.nms h.2.2.2.2 x z
 | .again _ _ _ p q,h,x,hx=>by
  simp[-zac,-zab,aA,aB,aQ,bD]at hx;rcases hx with z|z
  ·exact PaOk.nms h.2.2.1 x z
  ·exact PaOk.nms h.2.2.2 x z.1
theorem cU(z:a.Nodup)(B:l.Nodup):(fU h a l).Nodup:=by
 unfold fU;refine List.nodup_append.mpr ⟨z,B.filter _,λx hx y q e=>?_⟩;have:=(List.mem_filter.mp q).2;subst e;simp[-zac,-zab,aA,aB,hx]at this
theorem cZ:∀p:Pa,(aQ p).Nodup
 | .name y=>by simp_all[aQ]
 | .num _ _=>by simp_all[aQ]
 | .use1 _ p=>cU .nil (cZ p)
 | .use2 _ p q=>cU (cU .nil (cZ p)) (cZ q)
 | .lett _ p q=>cU (cU .nil (cZ p)) (cZ q)
 | .pick _ _ p q r=>cU (cU (cU .nil (cZ p)) (cZ q)) (cZ r)
 | .again _ _ _ p q=>cU (cU .nil (cZ p)) (cZ q)
theorem PaOk.n8(h:PaOk C U p)(q:U.length<=8):(aQ p).length<=8:=zaM (tK (cZ p) h.nms) q
theorem gD(h:c∈(oY C nm n).map λ(v:Nat)=>D.int (v:Int)):∃(v:Nat) (m:Mk),c=.int (v:Int)/\C.makes[v]?=some m/\m.nm=nm/\m.takes.length=n:=by
 obtain⟨v,q,rfl⟩:=List.mem_map.mp h;have:=(List.mem_filter.mp q).2;cases e:C.makes[v]? with
 | none=>rw[e]at this;cases this
 | some m=>
  rw[e]at this;simp[-zac,-zab,aA,aB]at this;exact⟨v,m,rfl,e,this.1,this.2⟩
theorem vH{C:Bk}(h:c∈(zas C.kinds.length).map λ(v:Nat)=>D.int (v:Int)):∃v:Nat,c=.int (v:Int)/\v<C.kinds.length:=by
 obtain⟨v,q,rfl⟩:=List.mem_map.mp h;exact⟨v,rfl,List.mem_range.mp q⟩
theorem dH(v:Nat):(cI (.int (v:Int))).toNat=v:=zbA v
structure PI'(C:Bk)(U:List Str)(p:Pa)(d:List (Key×D))(e:iF)(k:Int):Prop where
 ok:PaOk C U p
 k0:0<=k
 k1:k<(C.kinds.length:Int)
 hd:∀x∈aQ p,fM d (.inr x:Key)=some (.int (e x))
 he:∀x∈aQ p,0<=e x/\e x<(C.kinds.length:Int)
 dl:d.length+psz p<=1000
theorem FA(h:C.makes[v]?=some m)(l:m.takes.length=1):m.takes=[aV C v 0]:=by
 rw[fB h];obtain⟨a,e⟩:∃a,m.takes=[a]:=List.length_eq_one_iff.mp l;rw[e];rfl
theorem FB(h:C.makes[v]?=some m)(l:m.takes.length=2):m.takes=[aV C v 0,aV C v 1]:=by
 rw[fB h,fB h]
 match e:m.takes,l with
 | [a,b],_=>rfl
theorem IV(B:OkB C)(h:PaOk C U p)(k0:0<=k)(k1:k<(C.kinds.length:Int))(J:c∈bQ C p):(DI C p k c).length=(kids p).length/\∀j∈DI C p k c,0<=j/\j<(C.kinds.length:Int):=by
 cases p with
 | name y=>exact⟨rfl,λ_ h=>nomatch h⟩
 | num n j=>exact⟨rfl,λ_ h=>nomatch h⟩
 | use1 nm p=>
  obtain⟨v,m,rfl,F,_,G⟩:=gD J;refine⟨rfl,?_⟩;have t:=FA F G;simp only[DI,dH];rw[<- t];exact B.tb m (zaw F)
 | use2 nm p q=>
  obtain⟨v,m,rfl,F,_,G⟩:=gD J;refine⟨rfl,?_⟩;have t:=FB F G;simp only[DI,dH];rw[<- t];exact B.tb m (zaw F)
 | lett y p q=>
  obtain⟨v,rfl,M⟩:=vH J;refine⟨rfl,λj z=>?_⟩;simp[-zac,-zab,aA,aB,DI,cI]at z
  lia
 | pick c' k' p q r=>
  refine⟨rfl,λj z=>?_⟩;simp[-zac,-zab,aA,aB,DI]at z;rcases z with rfl|rfl
  ·exact h.1
  ·exact h.2.1
 | again n k' y p q=>
  refine⟨rfl,λj z=>?_⟩;simp[-zac,-zab,aA,aB,DI]at z;rw[z];exact h.1
theorem X4(h:PaOk C U p)(z:c∈bQ C p)(q:hid p i=some x):0<=FW p c/\FW p c<(C.kinds.length:Int):=by
 unfold hid at q;split at q
 ·obtain⟨v,rfl,B⟩:=vH z
  simp only[FW,cI];lia
 ·exact h.1
 ·cases q
theorem PI'.kid(B:OkB C)(h:PI' C U p d e k)(N:c∈bQ C p)(J:(kids p)[i]?=some q)(W:(DI C p k c)[i]?=some kk):PI' C U q (LN p d c i) (Q3 p e c i) kk:=by
 have M:=zaw J;have sz:=gC M;have G:=(IV B h.ok h.k0 h.k1 N).2 kk (zaw W);have dl:=h.dl;unfold LN Q3;cases e1:hid p i with
 | none=>
  have F:∀x∈aQ q,x∈aQ p:=λx hx=>rT J hx (by rw[e1];simp_all)
  exact⟨h.ok.kid M,G.1,G.2,λx hx=>h.hd x (F x hx),λx hx=>h.he x (F x hx),by simp only;lia⟩
 | some y=>
  have F:∀x∈aQ q,¬ x=y->x∈aQ p:=λx hx n=>rT J hx (by rw[e1];intro z;injection z with z;exact n z)
  have Y:=X4 h.ok N e1;refine⟨h.ok.kid M,G.1,G.2,λx hx=>?_,λx hx=>?_,?_⟩
  ·simp only[sA,fJ]
   by_cases z:x=y
   ·rw[if_pos (by rw[z]),if_pos z]
   ·rw[if_neg (λw=>z (by injection w)),if_neg z];exact h.hd x (F x hx z)
  ·simp only[fJ]
   by_cases z:x=y
   ·rw[if_pos z];exact Y
   ·rw[if_neg z];exact h.he x (F x hx z)
  ·have:=uS (d:=d) (k:=.inr y) (e:=.int (FW p c))
   simp only;lia
theorem RT(q:d.length<=1000)(z:c∈bQ C p)(i:Nat):dJ [.dK d,bL p,.int (i:Int),c]=some (.dK (LN p d c i)):=by
 have w:=CD p i;cases e1:hid p i with
 | none=>
  rw[e1]at w;rw[DO w];unfold LN;rw[e1]
 | some y=>
  unfold LN;rw[e1];unfold hid at e1;split at e1
  ·cases e1
   obtain⟨v,rfl,B⟩:=vH z;exact KF q
  ·cases e1
   exact AI q
  ·cases e1
theorem QC(h:PI' C U p d e k)(B:c∈bQ C p):bF [a9 C,.dK d,bL p,.int k,c]=some (.int (cW C p e k c)):=by
 cases p with
 | name x=>exact DS (h.hd x (List.mem_singleton.mpr rfl))
 | num n j=>exact JV
 | use1 nm p=>
  obtain⟨v,m,rfl,z,_,_⟩:=gD B;rw[ES z];simp only[cW,dH,eA z]
 | use2 nm p q=>
  obtain⟨v,m,rfl,z,_,_⟩:=gD B;rw[EL z];simp only[cW,dH,eA z]
 | lett y p q=>exact JC
 | pick c' k' p q r=>exact EB
 | again n k' y p q=>exact AO
theorem qbz(B:c∈bQ C p):bT [a9 C,bL p,.int k,c]=some (tupI (DI C p k c)):=by
 cases p with
 | name x=>exact J6
 | num n j=>exact LW
 | use1 nm p=>
  obtain⟨v,m,rfl,z,_,F⟩:=gD B;rw[KJ z,FA z F];simp only[DI,dH]
 | use2 nm p q=>
  obtain⟨v,m,rfl,z,_,F⟩:=gD B;rw[JX z,FB z F];simp only[DI,dH]
 | lett y p q=>
  obtain⟨v,rfl,G⟩:=vH B;exact MU
 | pick c' k' p q r=>exact JZ
 | again n k' y p q=>exact EE
theorem zG(B:OkB C)(h:PI' C U p d e k)(F:c∈bQ C p):0<=cW C p e k c/\cW C p e k c<(C.kinds.length:Int):=by
 cases p with
 | name x=>exact h.he x (List.mem_singleton.mpr rfl)
 | num n j=>exact h.ok
 | use1 nm p=>
  obtain⟨v,m,rfl,z,_,_⟩:=gD F;simp only[cW,dH,eA z];exact B.gb m (zaw z)
 | use2 nm p q=>
  obtain⟨v,m,rfl,z,_,_⟩:=gD F;simp only[cW,dH,eA z];exact B.gb m (zaw z)
 | lett y p q=>exact⟨h.k0,h.k1⟩
 | pick c' k' p q r=>exact h.ok.2.1
 | again n k' y p q=>exact h.ok.1
def AtD(C:Bk)(at_:D):Prop:=∃q L2,at_=.ob CA [("book",a9 C),("routes",.dT q),("spans",.dT L2)]/\LF C (λj k=>(0<=j/\j<(C.kinds.length:Int))/\0<=k/\k<(C.kinds.length:Int)) (q,L2)
theorem AtD.book{C:Bk}{at_:D}(h:AtD C at_):wA CA "book" at_=some (a9 C):=by
 obtain⟨q,L2,rfl,_⟩:=h;rfl
theorem QG{C:Bk}(B:OkB C){U:List Str}{at_:D}(A:AtD C at_){p:Pa}{d:List (Key×D)}{e:iF}{k:Int}{c:D}(h:PI' C U p d e k)(q:c∈bQ C p):hJ [at_,dN C p,.dK d,.int k,c]=some (.lst ((sb C p d e k c).map λs=>.tup [dN C s.1,.dK s.2.1,.int s.2.2.2])):=by
 have z:=h.dl;rw[US (hd:=λi=>.dK (LN p d c i)) A.book (qbz q) (by rw[(IV B h.ok h.k0 h.k1 q).1];exact zaj _) λi _=>RT (by lia) q i];rw[GB (ev:=Q3 p e c)];rfl
theorem YO(B:c∈bQ C p):VZ C p c (QW C p c):=by
 cases p with
 | name x=>exact .inr ⟨mU,rfl⟩
 | num n j=>exact .inr ⟨lD,rfl⟩
 | use1 nm p=>
  obtain⟨v,m,rfl,z,_,_⟩:=gD B;exact .inl ⟨rfl,v,m,rfl,z,by simp only[QW,dH,mpr,z];rfl⟩
 | use2 nm p q=>
  obtain⟨v,m,rfl,z,_,_⟩:=gD B;exact .inl ⟨rfl,v,m,rfl,z,by simp only[QW,dH,mpr,z];rfl⟩
 | lett y p q=>exact .inr ⟨jL,rfl⟩
 | pick c' k' p q r=>exact .inr ⟨jJ,rfl⟩
 | again n k' y p q=>exact .inr ⟨jM,rfl⟩
theorem OE:((sb C p d e k c).map λs=>psz s.1).sum+1<=psz p:=by
 have a:=yE (hd:=LN p d c) (ev:=Q3 p e c) (kids p) (DI C p k c) 0;have b:=dU p;unfold sb;lia
theorem EZ{C:Bk}(B:OkB C){U:List Str}{at_:D}(A:AtD C at_){p:Pa}{d:List (Key×D)}{e:iF}{k:Int}{c:D}{R:List D->Option D}(h:PI' C U p d e k)(z:c∈bQ C p)(sz:psz p<=16)(M:∀s∈sb C p d e k c,PI' C U s.1 s.2.1 s.2.2.1 s.2.2.2->psz s.1<psz p->R [at_,dN C s.1,.dK s.2.1,.int s.2.2.2]=some (memD (nF C s))) :
  bB 10 (cL R) [at_,dN C p,.dK d,.int k,c]=some (memD (v9 C p d e k c)):=by
 have N:=zG B h z;have hs:=QG B A h z;have bk:=A.book;have ss:=OE (C:=C) (p:=p) (d:=d) (e:=e) (k:=k) (c:=c);obtain⟨W,L2,rfl,ok⟩:=A;have G:∀s∈sb C p d e k c,PI' C U s.1 s.2.1 s.2.2.1 s.2.2.2/\psz s.1<psz p:=λs hs=>by
  obtain⟨i,hi⟩:=zch hs;have J:=gC (pQ hs);obtain⟨q,Y,h1,h2,rfl⟩:=gZ hi;rw[zaK];exact⟨h.kid B z h1 h2,J⟩
 have:=xT (C:=C) (p:=p) (d:=d) (k:=k) (j:=cW C p e k c) (own:=QW C p c) (c:=c) (R:=R) (L2:=L2) (Rs:=(sb C p d e k c).map λs=>(dN C s.1,.dK s.2.1,.int s.2.2.2,nF C s)) bk rfl (ok _ _ ⟨N,h.k0,h.k1⟩).2 (YO z) (QC h z) (by rw[hs,zaq];rfl)
  (λr F => by
   obtain⟨s,hs,rfl⟩:=List.mem_map.mp F;exact M s hs (G s hs).1 (G s hs).2) (uI (m:=1) ⟨by rw[FC];lia,by rw[FC];exact zcu (U8 B _ _) (by decide)⟩ (by decide)) (λr F=>by
   obtain⟨s,hs,rfl⟩:=List.mem_map.mp F;exact uI (lT B _ s.1 (zaj _) _ _) (by have:=(G s hs).2;lia)) λi=>by
   rw[zaq];exact(LR B ss sz i).2
 rw[this,zaq];rfl
theorem C2{C:Bk}(B:OkB C){U:List Str}(q:U.length<=8){at_:D}(A:AtD C at_):∀(n:Nat) (p:Pa) (d:List (Key×D)) (e:iF) (k:Int),psz p<=n->psz p<=16->PI' C U p d e k->eD 7 iP n [at_,dN C p,.dK d,.int k]=some (memD (aW C p e k))
 | 0,p,d,e,k,h,_,_=>by have:=dU p;lia
 | n+1,p,d,e,k,h,h16,I=>by
  show bB 7 (iP (eD 7 iP n)) _=_;exact DN B A.book ⟨I.k0,I.k1⟩ I.hd I.he (I.ok.n8 q) (f:=v9 C p d e k) (λc z=>EZ B A I z h16 λs _ F G=>C2 B q A n s.1 s.2.1 s.2.2.1 s.2.2.2 (by lia) (by lia) F) (zE C p d e k)
def cJ:Rg->List Rg
 | .use1 _ _ p _=>[p]
 | .use2 _ _ p q _=>[p,q]
 | .lett _ _ p q=>[p,q]
 | .pick _ _ p q r _=>[p,q,r]
 | .again _ _ _ p q _=>[p,q]
 | _=>[]
theorem yV(g:Rg):kids (pa g)=(cJ g).map pa:=by cases g <;> rfl
theorem G4(g:Rg):ir g=(cJ g).map rd:=by cases g <;> rfl
theorem y6(h:q∈cJ g):size q<size g:=by
 rw[<- b6,<- b6];exact gC (by rw[yV];exact List.mem_map.mpr ⟨q,h,rfl⟩)
def oX(l:List D)(c:D)(f:D->Sm):Int:=((l.filter λu=>decide (cI u<cI c)).map λu=>nI (f u)).sum
def vV(C:Bk):List Rg->List Sb->List (Int×Int)
 | g::l,s::m=>(cA C g s.2.2.1 s.2.2.2,nI (nF C s))::vV C l m
 | _,_=>[]
theorem yO(l:List Nat)(v:Nat)(q:j.toNat=v)(f:D->Sm):oX (l.map λ(v:Nat)=>D.int (v:Int)) (.int j) f=v6 l v λu=>f (.int (u:Int)):=by
 unfold oX v6;rw[List.filter_map,zaq];have:((λu=>decide (cI u<cI (.int j))) ∘ λ(v:Nat)=>D.int (v:Int))=λu:Nat=>decide (u<v):=by
  funext u;show decide ((u:Int)<j)=decide (u<v);congr 1;exact propext ⟨λh=>by lia,λh=>by lia⟩
 rw[this];rfl
theorem rV(f:D->Sm):oX [.non] .non f=0:=rfl
theorem yK(C:Bk)(g:Rg)(d:List (Key×D))(e:iF)(k:Int):cA C g e k=oX (bQ C (pa g)) (ch g) (v9 C (pa g) d e k)+bY 0 (vV C (cJ g) (sb C (pa g) d e k (ch g))++[jX C (cW C (pa g) e k (ch g)) k (wy g)]):=by
 cases g with
 | name x j w=>simp only[bQ,pa,ch,rV,zbp];rfl
 | num n j w=>simp only[bQ,pa,ch,rV,zbp];rfl
 | use1 v nm p w=>simp only[bQ,pa,ch,yO _ v (zbA v)];rfl
 | use2 v nm p q w=>simp only[bQ,pa,ch,yO _ v (zbA v)];rfl
 | lett x j p q=>simp only[bQ,pa,ch,yO _ j.toNat rfl];rfl
 | pick c k' p q r w=>simp only[bQ,pa,ch,rV,zbp];rfl
 | again n k' x p q w=>simp only[bQ,pa,ch,rV,zbp];rfl
structure WI(C:Bk)(U:List Str)(kn:List (Str×Int))(g:Rg)(d:List (Key×D))(e:iF)(k:Int):Prop where
 wf:WF C kn g k
 nf:NF U (kn.map (·.1)) g
 ok:OkN C kn
 ec:EC e kn
 cd:Cons d kn
 un:∀p∈kn,p.1∈U
 dl:d.length+size g<=1000
theorem qb3(B:OkB C):∀ {kn:List (Str×Int)} {N:List Str} {k:Int},WF C kn g k->NF U N g->OkN C kn->(∀p∈kn,p.1∈U)->PaOk C U (pa g):=by
 have Y:∀ {x:Str} {j:Int} {kn:List (Str×Int)},x∈U->(∀p∈kn,p.1∈U)->∀p∈(x,j)::kn,p.1∈U:=λhx G p hp=>by
  rcases List.mem_cons.mp hp with z|z
  ·rw[z];exact hx
  ·exact G p z
 induction g with
 | name x j w=>exact λW _ _ G=>G _ W.1
 | num n j w=>exact λW _ _ _=>W.2.1
 | use1 v nm p w ih=>rintro _ _ _ ⟨m,t,a,b,c,d,f⟩ F K G;exact ih d F K G
 | use2 v nm p q w ih ih2=>rintro _ _ _ ⟨m,t,u,a,b,c,d,d2,f⟩ F K G;exact⟨ih d F.1 K G,ih2 d2 F.2 K G⟩
 | lett x j p q ih ih2=>exact λW F K G=>⟨F.2.1.2,ih W.1 F.1 K G,ih2 W.2 F.2.2 (K.cons (W.1.short B K).2.1 (W.1.short B K).2.2) (Y F.2.1.2 G)⟩
 | pick c k' p q r w ih ih2 ih3=>rintro _ _ _ ⟨a,b,J,M,c3,d⟩ F K G;exact⟨a,b,ih J F.1 K G,ih2 M F.2.1 K G,ih3 c3 F.2.2 K G⟩
 | again n k' x p q w ih ih2=>rintro _ _ _ ⟨a,b,J,M,d⟩ F K G;exact⟨b,F.2.1.2,ih J F.1 K G,ih2 M F.2.2 (K.cons b.1 b.2) (Y F.2.1.2 G)⟩
theorem FJ:∀ {kn:List (Str×Int)} {k:Int},WF C kn g k->∀x∈aQ (pa g),∃j,(x,j)∈kn:=by
 have cut:∀ {x y:Str} {j:Int} {kn:List (Str×Int)},(∃i,(y,i)∈(x,j)::kn)->¬ y=x->∃i,(y,i)∈kn:=λh z=>by
  obtain⟨i,hi⟩:=h;rcases List.mem_cons.mp hi with w|w
  ·injection w with w1 w2;exact absurd w1 z
  ·exact⟨i,w⟩
 induction g with
 | name x j w=>exact λW y B=>⟨j,by rw[List.mem_singleton.mp B];exact W.1⟩
 | num n j w=>exact λ_ y B=>nomatch B
 | use1 v nm p w ih=>
  rintro _ _ ⟨m,t,a,b,c,d,f⟩ y B;simp[-zac,-zab,aA,aB,pa,aQ,bD]at B;exact ih d y B
 | use2 v nm p q w ih ih2=>
  rintro _ _ ⟨m,t,u,a,b,c,d,M,f⟩ y B;simp[-zac,-zab,aA,aB,pa,aQ,bD]at B;exact B.elim (ih d y) (ih2 M y)
 | lett x j p q ih ih2=>
  rintro _ _ ⟨a,b⟩ y B;simp[-zac,-zab,aA,aB,pa,aQ,bD]at B;exact B.elim (ih a y) λz=>cut (ih2 b y z.1) z.2
 | pick c k' p q r w ih ih2 ih3=>
  rintro _ _ ⟨a,b,F,G,J,d⟩ y B;simp[-zac,-zab,aA,aB,pa,aQ,bD]at B;exact B.elim (λz=>z.elim (ih F y) (ih2 G y)) (ih3 J y)
 | again n k' x p q w ih ih2=>
  rintro _ _ ⟨a,b,F,G,d⟩ y B;simp[-zac,-zab,aA,aB,pa,aQ,bD]at B;exact B.elim (ih F y) λz=>cut (ih2 G y z.1) z.2
theorem WI.pi(B:OkB C)(h:WI C U kn g d e k):PI' C U (pa g) d e k:=by
 have s:=WF.short B h.ok h.wf;refine⟨qb3 B h.wf h.nf h.ok h.un,s.2.1,s.2.2,λx hx=>?_,λx hx=>?_,by rw[b6];exact h.dl⟩
 ·obtain⟨j,q⟩:=FJ h.wf x hx
  rw[show e x=j from h.ec _ q];exact h.cd _ q
 ·obtain⟨j,q⟩:=FJ h.wf x hx
  rw[show e x=j from h.ec _ q];exact h.ok _ q
theorem vI(B:OkB C)(K:OkN C kn)(W:WF C kn g k):ch g∈bQ C (pa g):=by
 cases g with
 | name x j w=>exact List.mem_singleton.mpr rfl
 | num n j w=>exact List.mem_singleton.mpr rfl
 | use1 v nm p w=>
  obtain⟨m,t,a,rfl,c,d,f⟩:=W;exact List.mem_map.mpr ⟨v,oA a (by rw[c];rfl),rfl⟩
 | use2 v nm p q w=>
  obtain⟨m,t,u,a,rfl,c,d,f⟩:=W;exact List.mem_map.mpr ⟨v,oA a (by rw[c];rfl),rfl⟩
 | lett x j p q=>
  have s:=WF.short B K W.1;refine List.mem_map.mpr ⟨j.toNat,List.mem_range.mpr (by lia),?_⟩;show D.int ((j.toNat:Nat):Int)=.int j;congr 1;lia
 | pick c k' p q r w=>exact List.mem_singleton.mpr rfl
 | again n k' x p q w=>exact List.mem_singleton.mpr rfl
theorem E7(E:EC e kn)(W:WF C kn g k):gw C.rs (cW C (pa g) e k (ch g)) (wy g)=some k:=by
 cases g with
 | name x j w=>show gw C.rs (e x) w=_;rw[E _ W.1];exact W.2
 | num n j w=>exact W.2.2
 | use1 v nm p w=>
  obtain⟨m,t,a,rfl,c,d,f⟩:=W;simp only[pa,ch,cW,dH,eA a];exact f
 | use2 v nm p q w=>
  obtain⟨m,t,u,a,rfl,c,d,z,f⟩:=W;simp only[pa,ch,cW,dH,eA a];exact f
 | lett x j p q=>rfl
 | pick c k' p q r w=>exact W.2.2.2.2.2
 | again n k' x p q w=>exact W.2.2.2.2
theorem WI.kid(B:OkB C)(h:WI C U kn g d e k)(Y:(cJ g)[i]?=some q)(M:(DI C (pa g) k (ch g))[i]?=some G):∃ac,WI C U ac q (LN (pa g) d (ch g) i) (Q3 (pa g) e (ch g) i) G:=by
 have sz:=y6 (zaw Y);obtain⟨W,F,K,E,N,un,dl⟩:=h;have put:∀ {x:Str} {j:Int} {q:Rg} {G:Int},size q<size g->WF C ((x,j)::kn) q G->0<=j/\j<(C.kinds.length:Int)->x∉kn.map (·.1)/\x∈U->NF U (x::kn.map (·.1)) q->WI C U ((x,j)::kn) q (putD d (.inr x) (.int j)) (fJ e x j) G:=λ{x j q G} sz w hj hx f=>⟨w,f,K.cons hj.1 hj.2,E.put hx.1,N.put hx.1,λp hp=>by
   rcases List.mem_cons.mp hp with z|z
   ·rw[z];exact hx.2
   ·exact un p z,by have:=uS (d:=d) (k:=.inr x) (e:=.int j);lia⟩
 cases g with
 | name x j w=>simp[-zac,-zab,aA,aB,cJ]at Y
 | num n j w=>simp[-zac,-zab,aA,aB,cJ]at Y
 | use1 v nm p w=>
  obtain⟨m,t,a,rfl,c,wp,f⟩:=W;obtain⟨rfl,rfl⟩:=QH Y;have J:G=aV C (cI (.int (v:Int))).toNat 0:=(QH M).2;rw[dH,fB a,c]at J;subst J;exact⟨kn,wp,F,K,E,N,un,by show d.length+_<=_;lia⟩
 | use2 v nm p q w=>
  obtain⟨m,t,u,a,rfl,c,wp,wq,f⟩:=W;rcases v8 Y with⟨rfl,rfl⟩|⟨rfl,rfl⟩
  ·have J:G=aV C (cI (.int (v:Int))).toNat 0:=(zay (show some (aV C (cI (.int (v:Int))).toNat 0)=some G from M)).symm
   rw[dH,fB a,c]at J;subst J;exact⟨kn,wp,F.1,K,E,N,un,by show d.length+_<=_;lia⟩
  ·have J:G=aV C (cI (.int (v:Int))).toNat 1:=(zay (show some (aV C (cI (.int (v:Int))).toNat 1)=some G from M)).symm
   rw[dH,fB a,c]at J;subst J;exact⟨kn,wq,F.2,K,E,N,un,by show d.length+_<=_;lia⟩
 | lett x j p q=>
  have s:=WF.short B K W.1;rcases v8 Y with⟨rfl,rfl⟩|⟨rfl,rfl⟩
  ·have J:G=j:=(zay (show some (j)=some G from M)).symm
   subst J;exact⟨kn,W.1,F.1,K,E,N,un,by show d.length+_<=_;lia⟩
  ·have J:G=k:=(zay (show some (k)=some G from M)).symm
   subst J;exact⟨_,put sz W.2 s.2 F.2.1 F.2.2⟩
 | pick c k' p q r w=>
  obtain⟨a,b,wp,wq,wr,f⟩:=W;rcases get3 Y with⟨rfl,rfl⟩|⟨rfl,rfl⟩|⟨rfl,rfl⟩
  ·have J:G=c:=(zay (show some (c)=some G from M)).symm
   subst J;exact⟨kn,wp,F.1,K,E,N,un,by show d.length+_<=_;lia⟩
  ·have J:G=k':=(zay (show some (k')=some G from M)).symm
   subst J;exact⟨kn,wq,F.2.1,K,E,N,un,by show d.length+_<=_;lia⟩
  ·have J:G=k':=(zay (show some (k')=some G from M)).symm
   subst J;exact⟨kn,wr,F.2.2,K,E,N,un,by show d.length+_<=_;lia⟩
 | again n k' x p q w=>
  obtain⟨a,b,wp,wq,f⟩:=W;rcases v8 Y with⟨rfl,rfl⟩|⟨rfl,rfl⟩
  ·have J:G=k':=(zay (show some (k')=some G from M)).symm
   subst J;exact⟨kn,wp,F.1,K,E,N,un,by show d.length+_<=_;lia⟩
  ·have J:G=k':=(zay (show some (k')=some G from M)).symm
   subst J;exact⟨_,put sz wq b F.2.1 F.2.2⟩
theorem GK:∀ {items:List D} {ρ:cX} (t:Nat) (I:Nat->cX->Prop),I 0 ρ->t<items.length->(∀i x ρ,i<t->items[i]?=some x->I i ρ->∃ρ',turn g b x ρ=some (.nx ρ')/\I (i+1) ρ')->(∀x ρ,items[t]?=some x->I t ρ->turn g b x ρ=some (.rt d))->lM g b items ρ=some (.rt d)
 | [],ρ,t,I,_,h,_,_=>by simp[-zac,-zab,aA,aB]at h
 | x::l,ρ,0,I,h0,_,_,h2=>by
  have z:=h2 x ρ rfl h0;unfold turn at z;obtain⟨q,F,J⟩:=bind_some z;unfold lM;rw[F];show(b q).bind _=_;rw[J];rfl
 | x::l,ρ,t+1,I,h0,hl,h1,h2=>by
  obtain⟨ρ',z,B⟩:=h1 0 x ρ (by lia) rfl h0;have ih:=GK (items:=l) (ρ:=ρ') t (λi=>I (i+1)) B (by simpa using hl) (λi y ρ hi G B=>h1 (i+1) y ρ (by lia) (by simpa using G) B) λy ρ G B=>h2 y ρ (by simpa using G) B
  unfold turn at z;obtain⟨q,F,J⟩:=bind_some z;unfold lM;rw[F];show(b q).bind _=_;rw[J];exact ih
theorem wI:∀ {l:List D} {t:Nat} {c:D},l.Pairwise (λa b=>cI a<cI b)->l[t]?=some c->l.filter (λu=>decide (cI u<cI c))=l.take t
 | [],t,c,_,h=>by simp[-zac,-zab,aA,aB]at h
 | a::l,0,c,hl,h=>by
  have:a=c:=by simpa using h
  subst this;rw[List.take_zero,List.filter_eq_nil_iff];intro u B;rcases List.mem_cons.mp B with z|z
  ·rw[z];simp_all
  ·have:=(List.pairwise_cons.mp hl).1 u z;simp_all;lia
 | a::l,t+1,c,hl,h=>by
  have q:l[t]?=some c:=by simpa using h
  have:=(List.pairwise_cons.mp hl).1 c (zaw q);rw[zcd,if_pos (by simpa using this),zcv,wI (List.pairwise_cons.mp hl).2 q]
theorem kL{l:List Nat}(h:l.Pairwise (·<·)):(l.map λ(v:Nat)=>D.int (v:Int)).Pairwise λa b=>cI a<cI b:=by
 rw[zem];exact h.imp λ{a b} h=>by show(a:Int)<(b:Int);lia
theorem D4(C:Bk)(p:Pa):(bQ C p).Pairwise λa b=>cI a<cI b:=by
 cases p with
 | use1 nm p=>exact kL (gX ..)
 | use2 nm p q=>exact kL (gX ..)
 | lett x p q=>exact kL (i5 _)
 | _=>exact List.pairwise_singleton ..
def c8(l:List D)(f:D->Sm)(i:Nat):Int:=((l.take i).map λu=>nI (f u)).sum
theorem uO(h:l[i]?=some c):c8 l f (i+1)=c8 l f i+nI (f c):=by
 unfold c8;rw[zcg,h,zaI,zek];simp_all
theorem A8(q:∀c,0<=nI (f c)):∀ {j:Nat},i<=j->c8 l f i<=c8 l f j
 | 0,h=>by rw[show i=0 by lia];exact zdN _
 | j+1,h=>by
  by_cases e:i=j+1
  ·rw[e];exact zdN _
  ·have ih:=A8 q (l:=l) (i:=i) (j:=j) (by lia)
   cases hc:l[j]? with
   | some c=>have:=uO (f:=f) hc;have:=q c;lia
   | none=>
    have:l.length<=j:=List.getElem?_eq_none_iff.mp hc;have e:c8 l f (j+1)=c8 l f j:=by unfold c8;rw[zbN (by lia),zbN this]
    lia
theorem O4(C:Bk)(p:Pa)(d:List (Key×D))(e:iF)(k:Int)(c:D):0<=nI (v9 C p d e k c):=fD _ _ _ _ λx hx=>by
 rw[zaq]at hx;obtain⟨s,_,rfl⟩:=List.mem_map.mp hx;exact b9 ..
theorem ID(h:(bQ C p)[t]?=some c):oX (bQ C p) c f=c8 (bQ C p) f t:=by
 unfold oX c8;rw[wI (D4 C p) h]
theorem UG(C:Bk)(p:Pa)(d:List (Key×D))(e:iF)(k:Int):c8 (bQ C p) (v9 C p d e k) (bQ C p).length=nI (aW C p e k):=by
 rw[<- zE C p d e k,jE];unfold c8;rw[zbn];simp_all[nI]
theorem WI.num(B:OkB C)(h:WI C U kn g d e k):0<=cA C g e k/\cA C g e k<nI (aW C (pa g) e k):=gQ B h.ok h.wf h.nf h.ec
theorem IF:∀ {gs:List Rg} {m:List Sb} {i:Nat} {x:Int×Int},(vV C gs m)[i]?=some x->∃g s,gs[i]?=some g/\m[i]?=some s/\x=(cA C g s.2.2.1 s.2.2.2,nI (nF C s))
 | [],m,i,x,h=>by cases m <;> simp[-zac,-zab,aA,aB,vV]at h
 | g::gs,[],i,x,h=>by simp[-zac,-zab,aA,aB,vV]at h
 | g::gs,s::m,0,x,h=>⟨g,s,rfl,rfl,by simpa[vV]using h.symm⟩
 | g::gs,s::m,i+1,x,h=>by
  obtain⟨g',s',a,b,c⟩:=IF (C:=C) (gs:=gs) (m:=m) (i:=i) (x:=x) (by simpa[vV]using h);exact⟨g',s',by simpa using a,by simpa using b,c⟩
theorem WI.at{C:Bk}(B:OkB C){U:List Str}{kn:List (Str×Int)}{g:Rg}{d:List (Key×D)}{e:iF}{k:Int}(h:WI C U kn g d e k){i:Nat}{q:Rg}{s:Sb}(F:(cJ g)[i]?=some q)(hs:(sb C (pa g) d e k (ch g))[i]?=some s):s.1=pa q/\∃z,WI C U z q s.2.1 s.2.2.1 s.2.2.2:=by
 obtain⟨p,G,h1,h2,rfl⟩:=gZ hs;rw[yV,zaA,F]at h1;rw[zaK];exact⟨by simpa using h1.symm,h.kid B F h2⟩
theorem E4(B:OkB C)(h:WI C U kn g d e k):(sb C (pa g) d e k (ch g)).length=(cJ g).length:=by
 have I:=h.pi B;have:=(IV B I.ok I.k0 I.k1 (vI B h.ok h.wf)).1;unfold sb;rw[yH this.symm,yV,zah]
theorem sJ:∀ {gs:List Rg} {m:List Sb},m.length=gs.length->(vV C gs m).map (·.2)=m.map λs=>nI (nF C s)
 | [],m,h=>by rw[List.length_eq_zero_iff.mp h];rfl
 | g::gs,[],h=>by simp[-zac,-zab,aA,aB]at h
 | g::gs,s::m,h=>by rw[vV,zak,zak,sJ (by simpa using h)]
def pR(C:Bk)(g:Rg)(d:List (Key×D))(e:iF)(k:Int):List (Int×Int):=vV C (cJ g) (sb C (pa g) d e k (ch g))++[jX C (cW C (pa g) e k (ch g)) k (wy g)]
theorem WI.inr{C:Bk}(B:OkB C){U:List Str}{kn:List (Str×Int)}{g:Rg}{d:List (Key×D)}{e:iF}{k:Int}(h:WI C U kn g d e k):VE (pR C g d e k):=λx hx=>by
 rcases List.mem_append.mp hx with z|z
 ·obtain⟨i,hi⟩:=zch z
  obtain⟨q,s,h1,h2,rfl⟩:=IF hi;obtain⟨G,F,w⟩:=h.at B h1 h2;have:=w.num B;unfold nF;rw[G];exact this
 ·have I:=h.pi B
  have b:=zG B I (vI B h.ok h.wf);rw[List.mem_singleton.mp z];exact lI B b.1 I.k1 (E7 h.ec h.wf)
theorem WI.join(B:OkB C)(h:WI C U kn g d e k):0<=bY 0 (pR C g d e k)/\bY 0 (pR C g d e k)<nI (v9 C (pa g) d e k (ch g)):=by
 have:=oV (h.inr B);refine⟨this.1,zc5 this.2 ?_⟩;unfold pR v9;rw[fE,zaI,sJ (E4 B h),zaq];exact zdN _
theorem MQ(hl:l.length<=100)(h:VE l)(U:∀i,iV ((l.take i).map (·.2))<10^250)(hs:∀p∈l,p.2<10^250):uT [.lst (l.map λp=>.int p.1),.lst (l.map λp=>.int p.2)]=some (.int (bY 0 l)):=by
 refine aF ?_;unfold BA;have zg:∀l:List (Int×Int),iT (l.map λp=>.int p.1) (l.map λp=>.int p.2)=l.map λp=>.tup [.int p.1,.int p.2]:=λl=>by
  induction l with
  | nil=>rfl
  | cons a l ih=>rw[zak,zak,iT,ih,zak]
 have W:∀(l:List (Int×Int)) (n:Int) (p:Int×Int),bY n (l++[p])=bY n l*p.2+p.1:=λl=>by
  induction l with
  | nil=>intro n p;rfl
  | cons a l ih=>intro n p;exact ih _ p
 have F:=zg l;have e1:(aE 5 [.lst (l.map λp=>.int p.1),.lst (l.map λp=>.int p.2)]).set 2 (some (.int 0))=[some (.lst (l.map λp=>.int p.1)),some (.lst (l.map λp=>.int p.2)),some (.int 0),none,none]:=rfl;rw[aH (aN (d:=.int 0) rfl),e1];generalize (l.map λp=>D.int p.1)=X at F ⊢;generalize (l.map λp=>D.int p.2)=Y at F ⊢;refine gK (items:=l.map λp=>.tup [.int p.1,.int p.2]) (by simp_all[F]) (λi ρ=>∃B z,ρ=[some (.lst X),some (.lst Y),some (.int (bY 0 (l.take i))),B,z]) ⟨none,none,rfl⟩ ?_ ?_
 ·rintro i y ρ J ⟨B,z,rfl⟩
  rw[zaA]at J;obtain⟨p,G,rfl⟩:=map_some J;have M:=zaw G;have et:l.take (i+1)=l.take i++[p]:=by rw[zcg,G];rfl
  have a:=oV (l:=l.take i) λq N=>h q (List.mem_of_mem_take N)
  have b:=U i;have c:=hs p M;have c0:=h p M;have m:cS (.int (bY 0 (l.take i))) (.int p.2)=some (.int (bY 0 (l.take i)*p.2)):=b8 (zc5 (by decide +kernel) a.1) (Int.lt_trans a.2 b) (zc5 (by decide +kernel) (zcu c0.1 (Int.le_of_lt c0.2))) c;refine⟨[some (.lst X),some (.lst Y),some (.int (bY 0 (l.take (i+1)))),some (.int p.1),some (.int p.2)],?_,_,_,rfl⟩;rw[et,W];simp_all[turn,m]
 ·rintro ρ' ⟨B,z,rfl⟩
  rw[zah,zbn];simp_all
noncomputable def vP:Int->List Int->Int
 | n,[]=>n
 | n,s::l=>vP (n/s) l
theorem w4:∀(l:List Int) (s n:Int) (acc:List Int),gT n (l++[s]) acc=vP n l%s::gT n l acc
 | [],s,n,acc=>rfl
 | a::l,s,n,acc=>w4 l s (n/a) (n%a::acc)
theorem w8:∀(l:List Int) (s n:Int),vP n (l++[s])=vP n l/s
 | [],s,n=>rfl
 | a::l,s,n=>w8 l s (n/a)
theorem CS:∀(l:List Int) (n:Int) (acc:List Int),(gT n l acc).length=l.length+acc.length
 | [],n,acc=>by simp_all[gT]
 | a::l,n,acc=>by rw[gT,CS l];simp_all;lia
theorem MB{l:List Int}(N:l.length<=100)(hs:∀s∈l,0<s/\s<10^500)(n:Int):uM [.int n,.lst (l.map .int)]=some (.lst ((gT n l.reverse []).map .int)):=by
 refine aF ?_;unfold BV;have W:(aE 5 [.int n,.lst (l.map .int)]).set 2 (some (.lst []))=[some (.int n),some (.lst (l.map .int)),some (.lst []),none,none]:=rfl;rw[aH (aN (d:=.lst []) rfl),W,aH (aN (d:=.int n) rfl)];have er:(l.map D.int).reverse=l.reverse.map D.int:=by rw[List.map_reverse]
 have B:∀s∈l.reverse,0<s/\s<10^500:=λs h=>hs s (List.mem_reverse.mp h)
 have z:l.reverse.length<=100:=by rw[List.length_reverse];exact N
 generalize l.reverse=m at er B z ⊢;generalize l.map D.int=X at er ⊢;refine gK (items:=m.map .int) (by simp_all[qa0,er]) (λi ρ=>∃q,ρ=[some (.int n),some (.lst X),some (.lst ((gT n (m.take i) []).map .int)),some (.int (vP n (m.take i))),q]) ⟨none,rfl⟩ ?_ ?_
 ·rintro i y ρ J ⟨q,rfl⟩
  rw[zaA]at J;obtain⟨s,G,rfl⟩:=map_some J;have h:=B s (zaw G);have et:m.take (i+1)=m.take i++[s]:=by rw[zcg,G];rfl
  have U:=CS (m.take i) n [];have F:a7 (gT n (m.take i) []).length=true:=decide_eq_true (by rw[U,zbY];simp_all;lia);refine⟨[some (.int n),some (.lst X),some (.lst ((gT n (m.take (i+1)) []).map .int)),some (.int (vP n (m.take (i+1)))),some (.int s)],?_,_,rfl⟩;rw[et,w4,w8];generalize gT n (m.take i) []=P1 at F ⊢;generalize vP n (m.take i)=r;have M:ZF 2 (eC (D.int 0)) (bC dM (aD 3) (aD 4)) [some (.int n),some (.lst X),some (.lst (P1.map .int)),some (.int r),some (.int s)]=some (.nx [some (.int n),some (.lst X),some (.lst (.int (r%s)::P1.map .int)),some (.int r),some (.int s)]):=by
   unfold ZF;simp_all[bO h.1,F]
  have Y:aR 4 (.int s) [some (.int n),some (.lst X),some (.lst (P1.map .int)),some (.int r),q]=some [some (.int n),some (.lst X),some (.lst (P1.map .int)),some (.int r),some (.int s)]:=rfl;unfold turn;rw[Y,aA,aH M,aN (d:=.int (r/s)) (by simp_all[zI h.1 h.2])];rfl
 ·rintro ρ' ⟨q,rfl⟩
  rw[zah,zbn];simp_all
theorem t8{C:Bk}{at_:D}:∀(l:List Sb) (o1 o2 o3:Option D),(∀s∈l,cQ [at_,dN C s.1,.dK s.2.1,.int s.2.2.2]=some (memD (nF C s)))->bE (lJ 3 (dI (aR 0) (dI (aR 1) (dI (aR 2) rB)))) fH (aT dE (aC (aT cQ (aC (aD 3) (aC (aD 0) (aC (aD 1) (aC (aD 2) aZ))))) aZ)) (l.map λs=>.tup [dN C s.1,.dK s.2.1,.int s.2.2.2]) [o1,o2,o3,some at_]=some ((l.map λs=>nI (nF C s)).map .int)
 | [],o1,o2,o3,_=>rfl
 | s::l,o1,o2,o3,h=>by
  have ih:=t8 l (some (dN C s.1)) (some (.dK s.2.1)) (some (.int s.2.2.2)) λt q=>h t (zap _ q)
  have e:=h s (zar ..);have n:=fZ (nF C s);rw[zak,bE];simp_all[-zaq,e,n,ih]
theorem HD{C:Bk}{at_:D}{l:List Sb}{rs:List D}(B:l.length<=100)(h:∀s∈l,cQ [at_,dN C s.1,.dK s.2.1,.int s.2.2.2]=some (memD (nF C s))):oQ [at_,.lst (l.map λs=>.tup [dN C s.1,.dK s.2.1,.int s.2.2.2]),.lst rs]=some (.lst (((l.map λs=>nI (nF C s))++[(rs.length:Int)]).map .int)):=by
 have c:=t8 l none none none h;have z:a7 l.length=true:=decide_eq_true (by lia);have q:a7 (l.length+1)=true:=decide_eq_true (by lia);refine aF ?_;unfold IG;simp_all[-zaq,aE,jW,z,q,c]
theorem HK{C:Bk}{at_:D}(A:AtD C at_){j k:Int}(q:0<=j/\j<(C.kinds.length:Int))(z:0<=k/\k<(C.kinds.length:Int)):∃r,wA CA "routes" at_=some r/\aI r (.tup [.int j,.int k])=some (.lst ((bS C.rs k 8 j).map tupI)):=by
 obtain⟨B,L2,rfl,ok⟩:=A;exact⟨.dT B,rfl,V2 (ok j k ⟨q,z⟩).1⟩
theorem UN{q:List (List Int)}{w:List Int}(h:w∈q)(B:a7 q.length=true):mY (.lst (q.map tupI)) (tupI w)=some (.int ((q.idxOf w:Nat):Int)):=by
 obtain⟨as,bs,rfl,z⟩:=List.eq_append_cons_of_mem h;rw[KB z B];congr 3;rw[List.idxOf_append,if_neg z,List.idxOf_cons_self,zaK]
theorem pM(h:LeT m a)(q:m<=16):a<10^250:=Int.lt_of_le_of_lt (h.mono q).2 (by decide +kernel)
theorem MP{C:Bk}(B:OkB C){l:List Sb}(z:(l.map λs=>psz s.1).sum+1<=16){x:Int}(q:0<=x)(F:x<=429981696)(i:Nat):iV (((l.map λs=>nI (nF C s))++[x]).take i)<10^250:=by
 have a:=nV (C:=C) l i λs _=>lT B _ s.1 (zaj _) _ _
 have e:((l.map (nF C)).take i).map nI=(l.map λs=>nI (nF C s)).take i:=by rw[List.map_take,zaq];rfl
 rw[e]at a;by_cases h:i<=l.length
 ·rw[List.take_append_of_le_length (by rw[zah];exact h)]
  exact pM a (by lia)
 ·rw[zbN (by rw[zah];lia)]at a
  rw[zbN (by simp_all;lia),yS];have b:LeT 1 (iV [x]):=by
   rw[show iV [x]=x by simp_all[iV]];exact⟨q,zcu F (by decide)⟩
  exact pM (a.mul b) z
theorem yP:∀(gs:List Rg) (m:List Sb),vV C gs m=(gs.zip m).map λz=>(cA C z.1 z.2.2.2.1 z.2.2.2.2,nI (nF C z.2))
 | [],m=>by cases m <;> rfl
 | g::gs,[]=>rfl
 | g::gs,s::m=>by rw[vV,yP gs m];rfl
theorem GN:∀(gs:List Rg) (m:List Sb),iT (gs.map rd) (m.map λs=>.tup [dN C s.1,.dK s.2.1,.int s.2.2.2])=(gs.zip m).map λz=>.tup [rd z.1,.tup [dN C z.2.1,.dK z.2.2.1,.int z.2.2.2.2]]
 | [],m=>by cases m <;> rfl
 | g::gs,[]=>rfl
 | g::gs,s::m=>by rw[zak,zak,iT,GN gs m];rfl
theorem S0(h:c∈bQ C (pa g)):(c=.non/\ch g=.non)\/∃u v:Int,c=.int u/\ch g=.int v:=by
 cases g with
 | use1 v nm p w=>obtain⟨u,_,rfl⟩:=List.mem_map.mp h;exact .inr ⟨_,_,rfl,rfl⟩
 | use2 v nm p q w=>obtain⟨u,_,rfl⟩:=List.mem_map.mp h;exact .inr ⟨_,_,rfl,rfl⟩
 | lett x j p q=>obtain⟨u,_,rfl⟩:=List.mem_map.mp h;exact .inr ⟨_,_,rfl,rfl⟩
 | _=>exact .inl ⟨List.mem_singleton.mp h,rfl⟩
theorem JF(l:List D)(c b:D)(f:D->Sm):oX (l++[c]) b f=oX l b f+if cI c<cI b then nI (f c)else 0:=by
 unfold oX;rw[List.filter_append,zaI,zek];by_cases h:cI c<cI b
 ·rw[if_pos h,zcd,if_pos (by simpa using h)];simp_all
 ·rw[if_neg h,zcd,if_neg (by simpa using h)];simp_all
theorem zip_get{g:Rg}{l:List Sb}{i:Nat}{z:Rg×Sb}(h:((cJ g).zip l)[i]?=some z):(cJ g)[i]?=some z.1/\l[i]?=some z.2:=by
 rw[List.getElem?_zip_eq_some]at h;exact h
abbrev Y5:=D×D×D×D×D
theorem EG{R:List D->Option D}{at_ N M F G B bk pd r bd ab:D}{wi J:Int}{q kr SP SZ wl:List D}{f:D->Sm}{Y:List Y5}(hb:wA CA "book" at_=some bk)(np:wA CN "part" N=some pd)(co:kM [G]=some B)(wc:eW [bk,pd]=some (.lst q))(cs:∀c∈q,e8 [at_,N,M,F,c]=some (memD (f c)))(ck:∀c∈q,(c=.non/\B=.non)\/∃u v:Int,c=.int u/\B=.int v)
  (sp:hJ [at_,N,M,F,B]=some (.lst SP)) (er:wA CA "routes" at_=some r) (bg:bF [bk,M,pd,F,B]=some bd) (ew:aI r (.tup [bd,F])=some (.lst wl)) (al:fN [G]=some (.tup kr)) (zr:iT kr SP=Y.map λy=>.tup [y.1,.tup [y.2.1,y.2.2.1,y.2.2.2.1]]) (zl:Y.length<=3) (kf:∀y∈Y,R [at_,y.2.1,y.2.2.1,y.2.2.2.1,y.1]=some y.2.2.2.2) (ix:mY (.lst wl) ab=some (.int wi)) (wo:uJ [G]=some ab) (zs:oQ [at_,.lst SP,.lst wl]=some (.lst SZ)) (jn:uT [.lst (Y.map (·.2.2.2.2)++[.int wi]),.lst SZ]=some (.int J)) :
  dD R (aE 13 [at_,N,M,F,G])=some (.rt (.int (oX q B f+J))):=by
 unfold dD;rw[aH (aN (d:=B) (by ac_rfl))];rw[aH (aN (d:=.int 0) rfl)];refine gK (items:=q) (by ac_rfl) (λi ρ=>∃o7,ρ=[some at_,some N,some M,some F,some G,some B,some (.int (oX (q.take i) B f)),o7,none,none,none,none,none]) ⟨none,rfl⟩ ?_ ?_
 ·rintro i c ρ hc ⟨o7,rfl⟩
  have hm:=zaw hc;have et:q.take (i+1)=q.take i++[c]:=by rw[zcg,hc];rfl
  refine⟨[some at_,some N,some M,some F,some G,some B,some (.int (oX (q.take (i+1)) B f)),some c,none,none,none,none,none],?_,_,rfl⟩;rw[et,JF];have ec:=cs c hm;have en:=fZ (f c);rcases ck c hm with⟨rfl,rfl⟩|⟨u,v,rfl,rfl⟩
  ·rw[if_neg (show ¬ cI .non<cI .non by decide),Int.add_zero];ac_rfl
  ·by_cases aa:u<v
   ·rw[if_pos (show cI (.int u)<cI (.int v)from aa)];ac_rfl
   ·rw[if_neg (show ¬ cI (.int u)<cI (.int v)from aa),Int.add_zero];ac_rfl
 ·rintro ρ' ⟨o7,rfl⟩
  rw[zbn];rw[aH (aN (d:=.lst SP) (by ac_rfl))];rw[aH (aN (d:=.lst wl) (by ac_rfl))];rw[aH (aN (d:=.lst []) rfl)];refine gK (items:=Y.map λy=>.tup [y.1,.tup [y.2.1,y.2.2.1,y.2.2.2.1]]) (by ac_rfl) (λi ρ=>∃U W,ρ=[some at_,some N,some M,some F,some G,some B,some (.int (oX q B f)),o7,some (.lst SP),some (.lst wl),some (.lst ((Y.take i).map (·.2.2.2.2))),U,W]) ⟨none,none,rfl⟩ ?_ ?_
  ·rintro i y ρ hy ⟨U,W,rfl⟩
   rw[zaA]at hy;obtain⟨z,hz,rfl⟩:=map_some hy;have et:Y.take (i+1)=Y.take i++[z]:=by rw[zcg,hz];rfl
   have ek:=kf z (zaw hz);refine⟨[some at_,some N,some M,some F,some G,some B,some (.int (oX q B f)),o7,some (.lst SP),some (.lst wl),some (.lst ((Y.take (i+1)).map (·.2.2.2.2))),some z.1,some (.tup [z.2.1,z.2.2.1,z.2.2.2.1])],?_,_,_,rfl⟩;rw[et,zaI];have z2:((Y.take i).map (·.2.2.2.2)).length<=1000000:=by rw[zah,zbY];lia
   ac_rfl
  ·rintro ρ' ⟨U,W,rfl⟩
   rw[zah,zbn];have z2:(Y.map (·.2.2.2.2)).length<=1000000:=by rw[zah];lia
   ac_rfl
theorem BG{C:Bk}(B:OkB C){U:List Str}(hU:U.length<=8){at_:D}(A:AtD C at_):∀(n:Nat) (g:Rg) (kn:List (Str×Int)) (d:List (Key×D)) (e:iF) (k:Int),size g<=n->size g<=16->WI C U kn g d e k->eD 13 dD n [at_,dN C (pa g),.dK d,.int k,rd g]=some (.int (cA C g e k))
 | 0,g,kn,d,e,k,h,_,_=>by have:=dU (pa g);rw[b6]at this;lia
 | n+1,g,kn,d,e,k,h,h16,w=>by
  have IH:∀q,size q<size g->∀F d' e' k',WI C U F q d' e' k'->eD 13 dD n [at_,dN C (pa q),.dK d',.int k',rd q]=some (.int (cA C q e' k')):=λq hq F d' e' k' w'=>BG B hU A n q F d' e' k' (by lia) (by lia) w'
  show bB 13 (dD (eD 13 dD n)) _=_;generalize eD 13 dD n=R at IH ⊢;refine aF ?_;have I:=w.pi B;have M:=vI B w.ok w.wf;have co:=AS g;have wc:=pK B (pa g);have sp:=QG B A I M;have bg:=QC I M;have bo:=zG B I M;have wk:=E7 w.ec w.wf;have hb:=A.book;have np:=lW C (pa g);obtain⟨r,er,ew⟩:=HK A bo ⟨I.k0,I.k1⟩;have W:=pC g;rw[G4]at W;have wo:=NV g;have ps:psz (pa g)<=16:=by rw[b6];exact h16
  have sm:∀c∈bQ C (pa g),∀s∈sb C (pa g) d e k c,PI' C U s.1 s.2.1 s.2.2.1 s.2.2.2->psz s.1<psz (pa g)->cQ [at_,dN C s.1,.dK s.2.1,.int s.2.2.2]=some (memD (nF C s)):=λc hc s _ hI hz=>C2 B hU A 16 s.1 s.2.1 s.2.2.1 s.2.2.2 (by lia) (by lia) hI
  have cs:∀c∈bQ C (pa g),e8 [at_,dN C (pa g),.dK d,.int k,c]=some (memD (v9 C (pa g) d e k c)):=λc hc=>EZ B A I hc ps (sm c hc)
  have sl:=E4 B w;have k3:(cJ g).length<=3:=by cases g <;> simp_all[cJ]
  have zs:=HD (C:=C) (at_:=at_) (l:=sb C (pa g) d e k (ch g)) (rs:=(bS C.rs k 8 (cW C (pa g) e k (ch g))).map tupI) (by lia) λs hs=>by
   obtain⟨i,hi⟩:=zch hs;have sk:=gC (pQ hs);obtain⟨q,kk,h1,h2,rfl⟩:=gZ hi;exact sm _ M _ hs (by rw[zaK];exact I.kid B M h1 h2) sk
  have ss:=OE (C:=C) (p:=pa g) (d:=d) (e:=e) (k:=k) (c:=ch g);have l8:=U8 B (cW C (pa g) e k (ch g)) k;have G:(pR C g d e k).map (·.2)=(sb C (pa g) d e k (ch g)).map (λs=>nI (nF C s))++[((bS C.rs k 8 (cW C (pa g) e k (ch g))).length:Int)]:=by
   unfold pR;rw[zaI,sJ sl];rfl
  have nl:(pR C g d e k).length=(cJ g).length+1:=by
   have:=congrArg zbl G;simp[-zac,-zab,aA,aB]at this;lia
  have jn:=MQ (l:=pR C g d e k) (by lia) (w.inr B) (λi=>by
   rw[List.map_take,G];exact MP B (by lia) (by lia) l8 i) λp hp=>by
   have N:p.2∈(pR C g d e k).map (·.2):=List.mem_map.mpr ⟨p,hp,rfl⟩;rw[G]at N;rcases List.mem_append.mp N with z|z
   ·obtain⟨s,hs,e1⟩:=List.mem_map.mp z
    rw[<- e1];exact pM (lT B _ s.1 (zaj _) _ _) (by have:=gC (pQ hs);lia)
   ·rw[List.mem_singleton.mp z]
    exact pM (m:=1) ⟨by lia,zcu l8 (by decide)⟩ (by decide)
  rw[show((pR C g d e k).map λp=>D.int p.2)=((sb C (pa g) d e k (ch g)).map (λs=>nI (nF C s))++[((bS C.rs k 8 (cW C (pa g) e k (ch g))).length:Int)]).map .int by rw[<- G,zaq];rfl]at jn;rw[zah]at zs;have k6:=B.k6;have al:=kZ B.gr (k:=k) 8 (cW C (pa g) e k (ch g)) 5 (by have:=I.k1;lia);have ix:=UN (w:=wy g) (oE B.gr (n:=8) (by have:=I.k1;lia) wk) (decide_eq_true (by lia));have zr:=GN (C:=C) (cJ g) (sb C (pa g) d e k (ch g));rw[yK C g d e k];have ah:(vV C (cJ g) (sb C (pa g) d e k (ch g))++[jX C (cW C (pa g) e k (ch g)) k (wy g)])=pR C g d e k:=rfl;rw[ah];have ae:(pR C g d e k).map (λp=>D.int p.1)=(((cJ g).zip (sb C (pa g) d e k (ch g))).map λz=>D.int (cA C z.1 z.2.2.2.1 z.2.2.2.2))++[.int ((bS C.rs k 8 (cW C (pa g) e k (ch g))).idxOf (wy g):Nat)]:=by
   unfold pR;rw[zaI,yP,zaq];rfl
  rw[ae]at jn;refine EG (f:=v9 C (pa g) d e k) (J:=bY 0 (pR C g d e k)) (Y:=((cJ g).zip (sb C (pa g) d e k (ch g))).map λz=>(rd z.1,dN C z.2.1,.dK z.2.2.1,.int z.2.2.2.2,.int (cA C z.1 z.2.2.2.1 z.2.2.2.2))) hb np co wc cs (λc hc=>S0 hc) sp er bg ew W (by rw[zr,zaq];rfl) (by rw[zah,zeq];lia) (λy hy=>?_) ix wo zs (by rw[zaq];exact jn);obtain⟨z,hz,rfl⟩:=List.mem_map.mp hy;obtain⟨i,hi⟩:=zch hz;obtain⟨a,b⟩:=zip_get hi;obtain⟨e1,F,w'⟩:=w.at B a b;show R [at_,dN C z.2.1,.dK z.2.2.1,.int z.2.2.2.2,rd z.1]=_;rw[e1];exact IH z.1 (y6 (zaw a)) F _ _ _ w'
theorem nX{l ks pre rs:List D}(G:gE l 0=some (.str tag))(F:¬ tag = "use")(q:¬ tag = "let")(M:jF [.tup l]=some (.tup ks))(J:cutD l none (some ((l.length:Int)-(ks.length:Int)))=pre)(z:pre.length+rs.length<=1000):gY [.tup l,c,.lst rs,w]=some (.tup (pre++rs++[w])):=by
 have B:a7 (pre.length+rs.length)=true:=decide_eq_true (by lia);have N:a7 (pre.length+rs.length+1)=true:=decide_eq_true (by lia);exact aF (by simp_all[fY,aE,G,F,q,M,J,B,N])
theorem AL:∀g:Rg,gY [bL (pa g),ch g,.lst (ir g),tupI (wy g)]=some (rd g)
 | .name x j w=>nX (ks:=[]) (pre:=[_,_]) (rs:=[]) at0 mU jQ (oO (.name x)) rfl (zb3 rfl)
 | .num n j w=>nX (ks:=[]) (pre:=[_,_,_]) (rs:=[]) at0 lD iA (oO (.num n j)) rfl (zb3 rfl)
 | .use1 ..=>aF (by simp_all[fY,aE,pa,bL,ch,ir,wy,rd,at0])
 | .use2 ..=>aF (by simp_all[fY,aE,pa,bL,ch,ir,wy,rd,at0])
 | .lett ..=>aF (by simp_all[fY,aE,pa,bL,ch,ir,wy,rd,at0,at1,jL,sz5])
 | .pick c k p q r w=>nX (ks:=[_,_,_]) (pre:=[_,_,_]) (rs:=[rd p,rd q,rd r]) at0 jJ gR (oO (.pick c k (pa p) (pa q) (pa r))) rfl (zb3 rfl)
 | .again c k x p q w=>nX (ks:=[_,_]) (pre:=[_,_,_,_]) (rs:=[rd p,rd q]) at0 jM fS (oO (.again c k x (pa p) (pa q))) rfl (zb3 rfl)
theorem B7:∀(gs:List Rg) (m:List Sb) (x:D),m.length=gs.length->iT (((vV C gs m).map λp=>.int p.1)++[x]) (m.map λs=>.tup [dN C s.1,.dK s.2.1,.int s.2.2.2])=(gs.zip m).map λz=>.tup [.int (cA C z.1 z.2.2.2.1 z.2.2.2.2),.tup [dN C z.2.1,.dK z.2.2.1,.int z.2.2.2.2]]
 | [],m,x,h=>by rw[List.length_eq_zero_iff.mp h];rfl
 | g::gs,[],x,h=>by simp[-zac,-zab,aA,aB]at h
 | g::gs,s::m,x,h=>by rw[vV,zak,zak,zcX,iT,B7 gs m x (by simpa using h)];rfl
theorem TY(h:m.length=gs.length):(vV C gs m).length=gs.length:=by
 rw[yP,zah,zeq];lia
theorem OQ:∀(gs:List Rg) (m:List Sb),m.length=gs.length->(gs.zip m).map (λz=>rd z.1)=gs.map rd
 | [],m,h=>rfl
 | g::gs,[],h=>by simp[-zac,-zab,aA,aB]at h
 | g::gs,s::m,h=>by rw[zd1,zak,zak,OQ gs m (by simpa using h)]
theorem NM{R:List D->Option D}{at_ W U F J Jd bk pd r bd N rg:D}{wi:Int}{SP SZ G wl M:List D}{Y:List Y5}(hb:wA CA "book" at_=some bk)(np:wA CN "part" W=some pd)(sp:hJ [at_,W,U,F,J]=some (.lst SP))(er:wA CA "routes" at_=some r)(bg:bF [bk,U,pd,F,J]=some bd)(ew:aI r (.tup [bd,F])=some (.lst wl))(zs:oQ [at_,.lst SP,.lst wl]=some (.lst SZ))(al:uM [Jd,.lst SZ]=some (.lst G))(zn:iT G SP=Y.map λy=>.tup [y.1,.tup [y.2.1,y.2.2.1,y.2.2.2.1]])(zl:Y.length<=3)(kf:∀y∈Y,R [at_,y.2.1,y.2.2.1,y.2.2.2.1,y.1]=some y.2.2.2.2)(zr:Y.map (·.2.2.2.2)=M)(ak:gE G (SP.length:Int)=some (.int wi))(ix:gE wl wi=some N)(af:gY [pd,J,.lst M,N]=some rg) :
  fW R (aE 12 [at_,W,U,F,J,Jd])=some (.rt rg):=by
 unfold fW;rw[aH (aN (d:=.lst SP) (by ac_rfl))];rw[aH (aN (d:=.lst wl) (by ac_rfl))];rw[aH (aN (d:=.lst G) (by ac_rfl))];rw[aH (aN (d:=.lst []) rfl)];refine gK (items:=Y.map λy=>.tup [y.1,.tup [y.2.1,y.2.2.1,y.2.2.2.1]]) (by ac_rfl) (λi ρ=>∃q B,ρ=[some at_,some W,some U,some F,some J,some Jd,some (.lst SP),some (.lst wl),some (.lst G),some (.lst ((Y.take i).map (·.2.2.2.2))),q,B]) ⟨none,none,rfl⟩ ?_ ?_
 ·rintro i y ρ hy ⟨q,B,rfl⟩
  rw[zaA]at hy;obtain⟨z,hz,rfl⟩:=map_some hy;have et:Y.take (i+1)=Y.take i++[z]:=by rw[zcg,hz];rfl
  have ek:=kf z (zaw hz);refine⟨[some at_,some W,some U,some F,some J,some Jd,some (.lst SP),some (.lst wl),some (.lst G),some (.lst ((Y.take (i+1)).map (·.2.2.2.2))),some z.1,some (.tup [z.2.1,z.2.2.1,z.2.2.2.1])],?_,_,_,rfl⟩;rw[et,zaI];have z2:((Y.take i).map (·.2.2.2.2)).length<=1000000:=by rw[zah,zbY];lia
  ac_rfl
 ·rintro ρ' ⟨q,B,rfl⟩
  rw[zah,zbn,zr]
  ac_rfl
theorem v4{C:Bk}(B:OkB C){U:List Str}(hU:U.length<=8){at_:D}(A:AtD C at_){g:Rg}{kn:List (Str×Int)}{d:List (Key×D)}{e:iF}{k:Int}{R:List D->Option D}(ab:size g<=16)(w:WI C U kn g d e k)(IH:∀q,size q<size g->∀G d' e' k',WI C U G q d' e' k'->R [at_,dN C (pa q),.dK d',.int k',.int (cA C q e' k')]=some (rd q)) :
  bB 12 (fW R) [at_,dN C (pa g),.dK d,.int k,ch g,.int (bY 0 (pR C g d e k))]=some (rd g):=by
 refine aF ?_;have I:=w.pi B;have N:=vI B w.ok w.wf;have sp:=QG B A I N;have bg:=QC I N;have bo:=zG B I N;have wk:=E7 w.ec w.wf;have hb:=A.book;have np:=lW C (pa g);obtain⟨r,er,ew⟩:=HK A bo ⟨I.k0,I.k1⟩;have M:=E4 B w;have k3:(cJ g).length<=3:=by cases g <;> simp_all[cJ]
 have ps:psz (pa g)<=16:=by rw[b6];exact ab
 have zs:=HD (C:=C) (at_:=at_) (l:=sb C (pa g) d e k (ch g)) (rs:=(bS C.rs k 8 (cW C (pa g) e k (ch g))).map tupI) (by lia) λs hs=>by
  obtain⟨i,hi⟩:=zch hs;have sk:=gC (pQ hs);obtain⟨q,kk,h1,h2,rfl⟩:=gZ hi;exact C2 B hU A 16 _ _ _ _ (by simp only at sk ⊢;lia) (by simp only at sk ⊢;lia) (by rw[zaK];exact I.kid B N h1 h2)
 have l8:=U8 B (cW C (pa g) e k (ch g)) k;have F:(pR C g d e k).map (·.2)=(sb C (pa g) d e k (ch g)).map (λs=>nI (nF C s))++[((bS C.rs k 8 (cW C (pa g) e k (ch g))).length:Int)]:=by
  unfold pR;rw[zaI,sJ M];rfl
 have nl:(pR C g d e k).length=(cJ g).length+1:=by
  have:=congrArg zbl F;simp[-zac,-zab,aA,aB]at this;lia
 have inr:=w.inr B;have pd:=MB (l:=(pR C g d e k).map (·.2)) (by rw[zah];lia) (λs hs=>by
  obtain⟨p,hp,W⟩:=List.mem_map.mp hs;have a:=inr p hp;refine⟨by lia,?_⟩;rw[F]at hs;refine Int.lt_trans ?_ (show(10:Int)^250<10^500 by decide +kernel);rcases List.mem_append.mp hs with z|z
  ·obtain⟨s,hs,W⟩:=List.mem_map.mp z
   rw[<- W];exact pM (lT B _ s.1 (zaj _) _ _) (by have:=gC (pQ hs);lia)
  ·rw[List.mem_singleton.mp z]
   exact pM (m:=1) ⟨by lia,zcu l8 (by decide)⟩ (by decide)) (bY 0 (pR C g d e k))
 have pj:=xA (pR C g d e k) 0 [] [] inr;rw[zbw,zbw]at pj;rw[pj,show gT 0 [] ((pR C g d e k).map (·.1))=(pR C g d e k).map (·.1)from rfl,F]at pd;rw[zah]at zs;have k6:=B.k6;have wm:=oE B.gr (n:=8) (by have:=I.k1;lia) wk;have ix:gE ((bS C.rs k 8 (cW C (pa g) e k (ch g))).map tupI) (((bS C.rs k 8 (cW C (pa g) e k (ch g))).idxOf (wy g):Nat):Int)=some (tupI (wy g)):=bV (by
  rw[zaA,zaP (zez wm),List.getElem_idxOf];rfl)
 have zn:=B7 (C:=C) (cJ g) (sb C (pa g) d e k (ch g)) (.int ((bS C.rs k 8 (cW C (pa g) e k (ch g))).idxOf (wy g):Nat)) M;have aa:((pR C g d e k).map (·.1)).map D.int=(((vV C (cJ g) (sb C (pa g) d e k (ch g))).map λp=>D.int p.1)++[.int ((bS C.rs k 8 (cW C (pa g) e k (ch g))).idxOf (wy g):Nat)]):=by
  unfold pR;rw[zaq,zaI];rfl
 rw[aa]at pd;have J:((vV C (cJ g) (sb C (pa g) d e k (ch g))).map λp=>D.int p.1).length=(sb C (pa g) d e k (ch g)).length:=by rw[zah,TY M,M]
 have ac:gE (((vV C (cJ g) (sb C (pa g) d e k (ch g))).map λp=>D.int p.1)++[.int ((bS C.rs k 8 (cW C (pa g) e k (ch g))).idxOf (wy g):Nat)]) ((sb C (pa g) d e k (ch g)).length:Int)=some (.int ((bS C.rs k 8 (cW C (pa g) e k (ch g))).idxOf (wy g):Nat)):=bV (by
  rw[zdi (by lia),J,Nat.sub_self];rfl)
 refine NM (Y:=((cJ g).zip (sb C (pa g) d e k (ch g))).map λz=>(.int (cA C z.1 z.2.2.2.1 z.2.2.2.2),dN C z.2.1,.dK z.2.2.1,.int z.2.2.2.2,rd z.1)) hb np sp er bg ew zs pd (by rw[zn,zaq];rfl) (by rw[zah,zeq];lia) (λy hy=>?_) (by rw[zaq];exact(OQ (cJ g) (sb C (pa g) d e k (ch g)) M).trans (G4 g).symm) (by rw[zah];exact ac) ix (AL g);obtain⟨z,hz,rfl⟩:=List.mem_map.mp hy;obtain⟨i,hi⟩:=zch hz;obtain⟨a,b⟩:=zip_get hi;obtain⟨W,G,w'⟩:=w.at B a b;show R [at_,dN C z.2.1,.dK z.2.2.1,.int z.2.2.2.2,.int _]=_;rw[W];exact IH z.1 (y6 (zaw a)) G _ _ _ w'
theorem OL{C:Bk}(B:OkB C){U:List Str}(M:U.length<=8){at_:D}(A:AtD C at_):∀(n:Nat) (g:Rg) (kn:List (Str×Int)) (d:List (Key×D)) (e:iF) (k:Int),size g<=n->size g<=16->WI C U kn g d e k->eD 8 fQ n [at_,dN C (pa g),.dK d,.int k,.int (cA C g e k)]=some (rd g)
 | 0,g,kn,d,e,k,h,_,_=>by have:=dU (pa g);rw[b6]at this;lia
 | n+1,g,kn,d,e,k,h,h16,w=>by
  show bB 8 (fQ (eD 8 fQ n)) _=_;have tc:=v4 B M A (R:=eD 8 fQ n) h16 w λq hq G d' e' k' w'=>OL B M A n q G d' e' k' (by lia) (by lia) w'
  generalize eD 8 fQ n=R at tc ⊢;refine aF ?_;have I:=w.pi B;have cm:=vI B w.ok w.wf;have wc:=pK B (pa g);have hb:=A.book;have np:=lW C (pa g);have ps:psz (pa g)<=16:=by rw[b6];exact h16
  have Y:∀c∈bQ C (pa g),e8 [at_,dN C (pa g),.dK d,.int k,c]=some (memD (v9 C (pa g) d e k c)):=λc z=>EZ B A I z ps λs _ hI hz=>C2 B M A 16 s.1 s.2.1 s.2.2.1 s.2.2.2 (by lia) (by lia) hI
  obtain⟨t,F⟩:=zch cm;have bp:=ID (f:=v9 C (pa g) d e k) F;have jn:=w.join B;have nn:=O4 C (pa g) d e k;rw[yK C g d e k,bp,show(vV C (cJ g) (sb C (pa g) d e k (ch g))++[jX C (cW C (pa g) e k (ch g)) k (wy g)])=pR C g d e k from rfl];generalize bY 0 (pR C g d e k)=J at *;generalize v9 C (pa g) d e k=f at *;generalize bQ C (pa g)=chs at *;generalize ch g=cg at *;generalize dN C (pa g)=nd at *;generalize rd g=rg at *;unfold fQ;rw[aH (aN (d:=.int (c8 chs f t+J)) rfl)];refine uY ?_;rw[q_for];have ei:gF (aT eW (aC (d5 CA "book" (aD 0)) (aC (d5 CN "part" (aD 1)) aZ))) ((aE 8 [at_,nd,.dK d,.int k,.int (c8 chs f t+J)]).set 5 (some (.int (c8 chs f t+J))))=some chs:=by ac_rfl
  rw[ei];refine GK t (λi ρ=>∃N W,ρ=[some at_,some nd,some (.dK d),some (.int k),some (.int (c8 chs f t+J)),some (.int (c8 chs f t+J-c8 chs f i)),N,W]) ⟨none,none,by rw[show c8 chs f 0=0 from rfl,Int.sub_zero];rfl⟩ (List.getElem?_eq_some_iff.mp F).1 ?_ ?_
  ·rintro i c ρ hi z ⟨N,W,rfl⟩
   have ec:=Y c (zaw z);have en:=fZ (f c);have s:=uO (f:=f) z;have m:=A8 nn (l:=chs) (i:=i+1) (j:=t) (by lia);have lt:¬ c8 chs f t+J-c8 chs f i<nI (f c):=by lia
   refine⟨[some at_,some nd,some (.dK d),some (.int k),some (.int (c8 chs f t+J)),some (.int (c8 chs f t+J-c8 chs f (i+1))),some c,some (.int (nI (f c)))],?_,_,_,rfl⟩;rw[s,show c8 chs f t+J-(c8 chs f i+nI (f c))=c8 chs f t+J-c8 chs f i-nI (f c) by lia];generalize c8 chs f t+J-c8 chs f i=x at lt ⊢
   ac_rfl
  ·rintro c ρ z ⟨N,W,rfl⟩
   have:c=cg:=by rw[F]at z;injection z with z;exact z.symm
   subst this;have ec:=Y c (zaw F);have en:=fZ (f c);rw[show c8 chs f t+J-c8 chs f t=J by lia];have lt:=jn.2
   ac_rfl
theorem pF:∀(l:List (Int×Int)) (n:Int),bY n l=n*iV (l.map (·.2))+bY 0 l
 | [],n=>by simp_all[bY,iV]
 | (a,s)::l,n=>by
  rw[bY,pF l,bY,pF l (0*s+a),zak,iV,Int.zero_mul,zbp,Int.add_mul,zdM,zc4]
theorem digits:∀(l:List Int) (r:Int),NN l->0<=r->r<iV l->∃zs:List (Int×Int),zs.map (·.2)=l/\VE zs/\bY 0 zs=r
 | [],r,_,h0,h1=>⟨[],rfl,(λ_ h=>by cases h),by simp[-zac,-zab,aA,aB,iV]at h1;show(0:Int)=r;lia⟩
 | s::l,r,hn,h0,h1=>by
  have q:NN l:=λx hx=>hn x (zap _ hx)
  have G:=zF q;have N:=hn s (zar ..);rw[iV]at h1;have F:0<iV l:=by
   rcases Int.lt_or_eq_of_le G with z|z
   ·exact z
   ·rw[<- z,Int.mul_zero]at h1;lia
  obtain⟨zs,B,M,J⟩:=digits l (r%iV l) q (zat _ (by lia)) (zav _ F);refine⟨(r/iV l,s)::zs,by rw[zak,B],vR ⟨Int.ediv_nonneg h0 G,Int.ediv_lt_of_lt_mul F h1⟩ M,?_⟩;rw[bY,pF,B,J,Int.zero_mul,zbp];have:=Int.mul_ediv_add_emod r (iV l);rw[Int.mul_comm]at this;exact this
theorem BI(q:∀c,0<=nI (f c))(B:0<=n):∀m,n<c8 l f m->∃t c,l[t]?=some c/\c8 l f t<=n/\n<c8 l f t+nI (f c)
 | 0,h=>by simp[-zac,-zab,aA,aB,c8]at h;lia
 | m+1,h=>by
  by_cases z:n<c8 l f m
  ·exact BI q B m z
  ·cases hc:l[m]? with
   | some c=>rw[uO hc]at h;exact⟨m,c,hc,by lia,h⟩
   | none=>
    have F:l.length<=m:=List.getElem?_eq_none_iff.mp hc;have e:c8 l f (m+1)=c8 l f m:=by unfold c8;rw[zbN (by lia),zbN F]
    lia
def PaW(C:Bk)(U:List Str):List Str->Pa->Prop
 | _,.name _=>True
 | _,.num n _=>0<=n/\n<C.M
 | N,.use1 _ p=>PaW C U N p
 | N,.use2 _ p q=>PaW C U N p/\PaW C U N q
 | N,.lett x p q=>PaW C U N p/\(x∉N/\x∈U)/\PaW C U (x::N) q
 | N,.pick _ _ p q r=>PaW C U N p/\PaW C U N q/\PaW C U N r
 | N,.again n _ x p q=>(0<=n/\n<4)/\PaW C U N p/\(x∉N/\x∈U)/\PaW C U (x::N) q
theorem paw:∀ {kn:List (Str×Int)} {N:List Str} {k:Int},WF C kn g k->NF U N g->PaW C U N (pa g):=by
 induction g with
 | name x j w=>exact λ_ _=>trivial
 | num n j w=>exact λW _=>W.1
 | use1 v nm p w ih=>rintro _ _ _ ⟨m,t,a,b,c,d,f⟩ F;exact ih d F
 | use2 v nm p q w ih ih2=>rintro _ _ _ ⟨m,t,u,a,b,c,d,G,f⟩ F;exact⟨ih d F.1,ih2 G F.2⟩
 | lett x j p q ih ih2=>exact λW F=>⟨ih W.1 F.1,F.2.1,ih2 W.2 F.2.2⟩
 | pick c k' p q r w ih ih2 ih3=>rintro _ _ _ ⟨a,b,B,z,J,d⟩ F;exact⟨ih B F.1,ih2 z F.2.1,ih3 J F.2.2⟩
 | again n k' x p q w ih ih2=>rintro _ _ _ ⟨a,b,B,z,d⟩ F;exact⟨a,ih B F.1,F.2.1,ih2 z F.2.2⟩
theorem PaW.nf:∀ {g:Rg} {N:List Str},PaW C U N (pa g)->NF U N g
 | .name x j w,N,h=>trivial
 | .num n j w,N,h=>trivial
 | .use1 v nm p w,N,h=>PaW.nf (g:=p) h
 | .use2 v nm p q w,N,h=>⟨PaW.nf h.1,PaW.nf h.2⟩
 | .lett x j p q,N,h=>⟨PaW.nf h.1,h.2.1,PaW.nf h.2.2⟩
 | .pick c k' p q r w,N,h=>⟨PaW.nf h.1,PaW.nf h.2.1,PaW.nf h.2.2⟩
 | .again n k' x p q w,N,h=>⟨PaW.nf h.2.1,h.2.2.1,PaW.nf h.2.2.2⟩
def ZV(kn:List (Str×Int))(p:Pa)(c:D)(i:Nat):List (Str×Int):=match hid p i with
 | none=>kn
 | some x=>(x,FW p c)::kn
structure SI(C:Bk)(U:List Str)(kn:List (Str×Int))(p:Pa)(d:List (Key×D))(e:iF)(k:Int):Prop where
 pi:PI' C U p d e k
 pw:PaW C U (kn.map (·.1)) p
 nk:∀x∈aQ p,(x,e x)∈kn
theorem PaW.kid(h:PaW C U (kn.map (·.1)) p)(z:(kids p)[i]?=some q):PaW C U ((ZV kn p c i).map (·.1)) q:=by
 cases p with
 | name y=>simp[-zac,-zab,aA,aB,kids]at z
 | num n j=>simp[-zac,-zab,aA,aB,kids]at z
 | use1 nm p=>obtain⟨rfl,rfl⟩:=QH z;exact h
 | use2 nm p q=>rcases v8 z with⟨rfl,rfl⟩|⟨rfl,rfl⟩;exact h.1;exact h.2
 | lett y p q=>rcases v8 z with⟨rfl,rfl⟩|⟨rfl,rfl⟩;exact h.1;exact h.2.2
 | pick c k p q r=>rcases get3 z with⟨rfl,rfl⟩|⟨rfl,rfl⟩|⟨rfl,rfl⟩;exact h.1;exact h.2.1;exact h.2.2
 | again n k y p q=>rcases v8 z with⟨rfl,rfl⟩|⟨rfl,rfl⟩;exact h.2.1;exact h.2.2.2
theorem SI.kid(B:OkB C)(h:SI C U kn p d e k)(J:c∈bQ C p)(F:(kids p)[i]?=some q)(G:(DI C p k c)[i]?=some kk):SI C U (ZV kn p c i) q (LN p d c i) (Q3 p e c i) kk:=by
 refine⟨h.pi.kid B J F G,h.pw.kid F,λx hx=>?_⟩;unfold Q3 ZV;cases e1:hid p i with
 | none=>exact h.nk x (rT F hx (by rw[e1];simp_all))
 | some y=>
  simp only[fJ];by_cases z:x=y
  ·rw[if_pos z,z];exact zar ..
  ·rw[if_neg z]
   exact zap _ (h.nk x (rT F hx (by rw[e1];intro w;injection w with w;exact z w)))
theorem qa2{q:Type}{l:List q}(h:l.length=1):∃a,l=[a]:=List.length_eq_one_iff.mp h
theorem ZE{q:Type}{l:List q}(h:l.length=2):∃a b,l=[a,b]:=by
 match l,h with
 | [a,b],_=>exact⟨a,b,rfl⟩
theorem qca{q:Type}{l:List q}(h:l.length=3):∃a b c,l=[a,b,c]:=by
 match l,h with
 | [a,b,c],_=>exact⟨a,b,c,rfl⟩
theorem UL(B:OkB C)(h:gw C.rs k w=some k):w=[]:=by
 have:=lF B.gr h;exact List.length_eq_zero_iff.mp (by lia)
theorem build{C:Bk}(B:OkB C){U:List Str}{kn:List (Str×Int)}{p:Pa}{d:List (Key×D)}{e:iF}{k:Int}(h:SI C U kn p d e k){c:D}(N:c∈bQ C p){gs:List Rg}(M:gs.length=(kids p).length)(F:∀(i:Nat) (q:Rg) (kk:Int),gs[i]?=some q->(DI C p k c)[i]?=some kk->(kids p)[i]?=some (pa q)/\WF C (ZV kn p c i) q kk){w:List Int}(hw:gw C.rs (cW C p e k c) w=some k) :
  ∃g,pa g=p/\ch g=c/\cJ g=gs/\wy g=w/\WF C kn g k:=by
 cases p with
 | name x=>
  refine⟨.name x (e x) w,rfl,(List.mem_singleton.mp N).symm,(List.length_eq_zero_iff.mp M).symm,rfl,h.nk x (List.mem_singleton.mpr rfl),hw⟩
 | num n j=>exact⟨.num n j w,rfl,(List.mem_singleton.mp N).symm,(List.length_eq_zero_iff.mp M).symm,rfl,h.pw,h.pi.ok,hw⟩
 | use1 nm p=>
  obtain⟨v,m,rfl,W,en,Y⟩:=gD N;obtain⟨a,rfl⟩:=qa2 M;have z:=F 0 a _ rfl rfl;have t:=FA W Y;simp only[cW,dH,eA W]at hw;have G:p=pa a:=by simpa[kids]using z.1
  rw[dH]at z;exact⟨.use1 v nm a w,by rw[G];rfl,rfl,rfl,rfl,m,_,W,en,t,z.2,hw⟩
 | use2 nm p q=>
  obtain⟨v,m,rfl,W,en,Y⟩:=gD N;obtain⟨a,b,rfl⟩:=ZE M;have z:=F 0 a _ rfl rfl;have h1:=F 1 b _ rfl rfl;have t:=FB W Y;simp only[cW,dH,eA W]at hw;have G:p=pa a:=by simpa[kids]using z.1
  have J:q=pa b:=by simpa[kids]using h1.1
  rw[dH]at z h1;exact⟨.use2 v nm a b w,by rw[G,J];rfl,rfl,rfl,rfl,m,_,_,W,en,t,z.2,h1.2,hw⟩
 | lett x p q=>
  obtain⟨v,rfl,hv⟩:=vH N;obtain⟨a,b,rfl⟩:=ZE M;have z:=F 0 a _ rfl rfl;have h1:=F 1 b _ rfl rfl;have G:p=pa a:=by simpa[kids]using z.1
  have J:q=pa b:=by simpa[kids]using h1.1
  exact⟨.lett x (v:Int) a b,by rw[G,J];rfl,rfl,rfl,(UL B hw).symm,z.2,h1.2⟩
 | pick c' k' p q r=>
  obtain⟨a,b,c1,rfl⟩:=qca M;have z:=F 0 a _ rfl rfl;have h1:=F 1 b _ rfl rfl;have h2:=F 2 c1 _ rfl rfl;have G:p=pa a:=by simpa[kids]using z.1
  have J:q=pa b:=by simpa[kids]using h1.1
  have e2:r=pa c1:=by simpa[kids]using h2.1
  exact⟨.pick c' k' a b c1 w,by rw[G,J,e2];rfl,(List.mem_singleton.mp N).symm,rfl,rfl,h.pi.ok.1,h.pi.ok.2.1,z.2,h1.2,h2.2,hw⟩
 | again n k' x p q=>
  obtain⟨a,b,rfl⟩:=ZE M;have z:=F 0 a _ rfl rfl;have h1:=F 1 b _ rfl rfl;have G:p=pa a:=by simpa[kids]using z.1
  have J:q=pa b:=by simpa[kids]using h1.1
  exact⟨.again n k' x a b w,by rw[G,J];rfl,(List.mem_singleton.mp N).symm,rfl,rfl,h.pw.1,h.pi.ok.1,z.2,h1.2,hw⟩
theorem B4:∀ {gs:List Rg} {l:List Sb} {zs:List (Int×Int)},gs.length=l.length->zs.length=l.length->(∀(i:Nat) (q:Rg) (s:Sb) (z:Int×Int),gs[i]?=some q->l[i]?=some s->zs[i]?=some z->z=(cA C q s.2.2.1 s.2.2.2,nI (nF C s)))->vV C gs l=zs
 | [],l,zs,h1,h2,_=>by
  have:l=[]:=List.length_eq_zero_iff.mp h1.symm;subst this;rw[List.length_eq_zero_iff.mp h2];rfl
 | g::gs,[],zs,h1,_,_=>by simp[-zac,-zab,aA,aB]at h1
 | g::gs,s::l,[],_,h2,_=>by simp[-zac,-zab,aA,aB]at h2
 | g::gs,s::l,z::zs,h1,h2,h=>by
  rw[vV,h 0 g s z rfl rfl rfl,B4 (by simpa using h1) (by simpa using h2) λi q s z a b c=>h (i+1) q s z (by simpa using a) (by simpa using b) (by simpa using c)]
theorem F8{B β:Type}(P:Nat->β->B->Prop):∀(l:List β) (j:Nat),(∀i b,l[i]?=some b->∃a,P (j+i) b a)->∃as:List B,as.length=l.length/\∀(i:Nat) (b:β) (a:B),l[i]?=some b->as[i]?=some a->P (j+i) b a
 | [],j,_=>⟨[],rfl,λi b a h=>by simp[-zac,-zab,aA,aB]at h⟩
 | b::l,j,h=>by
  obtain⟨a,J⟩:=h 0 b rfl;obtain⟨as,h1,h2⟩:=F8 P l (j+1) λi b z=>by
   have:=h (i+1) b (by simpa using z)
   rwa [show j+(i+1)=j+1+i by lia]at this
  refine⟨a::as,by simp_all[h1],λi G F z q=>?_⟩;cases i with
  | zero=>cases z;cases q;exact J
  | succ i=>have:=h2 i G F (by simpa using z) (by simpa using q);rwa [show j+1+i=j+(i+1) by lia]at this
theorem qaL{C:Bk}(B:OkB C){U:List Str}:∀(m:Nat) (p:Pa) (kn:List (Str×Int)) (d:List (Key×D)) (e:iF) (k n:Int),psz p<=m->SI C U kn p d e k->0<=n->n<nI (aW C p e k)->∃g,pa g=p/\WF C kn g k/\cA C g e k=n
 | 0,p,kn,d,e,k,n,h,_,_,_=>by have:=dU p;lia
 | m+1,p,kn,d,e,k,n,h,S,n0,n1=>by
  rw[<- UG C p d e k]at n1;obtain⟨t,c,ht,a1,a2⟩:=BI (O4 C p d e k) n0 _ n1;have Y:=zaw ht;have kl:=IV B S.pi.ok S.pi.k0 S.pi.k1 Y;have sl:(sb C p d e k c).length=(kids p).length:=yH kl.1.symm;have e1:nI (v9 C p d e k c)=iV ((sb C p d e k c).map (λs=>nI (nF C s))++[((bS C.rs k 8 (cW C p e k c)).length:Int)]):=by
   unfold v9;rw[fE,zaq];rfl
  rw[e1]at a2;obtain⟨zs,z1,z2,z3⟩:=digits ((sb C p d e k c).map (λs=>nI (nF C s))++[((bS C.rs k 8 (cW C p e k c)).length:Int)]) (n-c8 (bQ C p) (v9 C p d e k) t) (λx hx=>by
   rcases List.mem_append.mp hx with z|z
   ·obtain⟨s,_,rfl⟩:=List.mem_map.mp z;exact b9 ..
   ·rw[List.mem_singleton.mp z];lia) (by lia) (by lia)
  obtain⟨ys,w,rfl,y1,y2⟩:=List.map_eq_append_iff.mp z1;obtain⟨F,rfl⟩:∃x,w=[x]:=by
   have:=congrArg zbl y2;simp[-zac,-zab,aA,aB]at this;exact qa2 this
  have W:F.2=((bS C.rs k 8 (cW C p e k c)).length:Int):=by simpa using y2
  have wr:=z2 F (zaU _ (List.mem_singleton.mpr rfl));have yl:ys.length=(sb C p d e k c).length:=by have:=congrArg zbl y1;simpa using this
  -- the kids
  obtain⟨gs,g1,g2⟩:=F8 (λi (s:Sb) q=>pa q=s.1/\WF C (ZV kn p c i) q s.2.2.2/\∀z,ys[i]?=some z->z=(cA C q s.2.2.1 s.2.2.2,nI (nF C s))) (sb C p d e k c) 0 λi s hs=>by
   obtain⟨q,kk,h1,h2,rfl⟩:=gZ hs;rw[zaK];have hi:=(List.getElem?_eq_some_iff.mp hs).1;have M:ys[i]?=some ys[i]:=zaP (by lia);have zi:=z2 ys[i] (zbt _ (zaw M));have G:(ys[i]).2=nI (nF C (q,LN p d c (0+i),Q3 p e c (0+i),kk)):=by
    have a:=congrArg (λl=>l[i]?) y1;simp only[zaA,M,hs,zab]at a;injection a
   rw[zaK]at G;obtain⟨g,b1,b2,b3⟩:=qaL B m q (ZV kn p c i) (LN p d c i) (Q3 p e c i) kk (ys[i]).1 (by have:=gC (zaw h1);lia) (S.kid B Y h1 h2) zi.1 (by rw[G]at zi;exact zi.2);refine⟨g,b1,b2,λz J=>?_⟩;rw[M]at J;cases J;rw[b3,<- G]
  -- the way
  have wi:F.1.toNat<(bS C.rs k 8 (cW C p e k c)).length:=by lia
  have wm:=zen wi;have wg:=jA wm;have ix:(bS C.rs k 8 (cW C p e k c)).idxOf (bS C.rs k 8 (cW C p e k c))[F.1.toNat]=F.1.toNat:=List.Nodup.idxOf_getElem (EN 8 _) F.1.toNat wi;obtain⟨g,q1,q2,q3,q4,q5⟩:=build B S Y (gs:=gs) (by rw[g1,sl]) (λi q kk N hk=>by
   have hi:=(List.getElem?_eq_some_iff.mp N).1;have hs:(sb C p d e k c)[i]?=some (sb C p d e k c)[i]:=zaP (by lia);have:=g2 i _ q hs N;rw[zaK]at this;obtain⟨q',ah,h1,h2,h3⟩:=gZ hs;rw[h3]at this;rw[hk]at h2;cases h2;exact⟨by rw[h1,this.1],this.2.1⟩) wg
  refine⟨g,q1,q5,?_⟩;rw[yK C g d e k,q1,q2,q3,q4,ID ht];have nz:vV C gs (sb C p d e k c)=ys:=B4 g1 yl λi q s z N hs M=>by
   have:=(g2 i s q hs N).2.2;rw[zaK]at this;exact this z M
  rw[nz];have ww:jX C (cW C p e k c) k (bS C.rs k 8 (cW C p e k c))[F.1.toNat]=F:=by
   unfold jX;rw[ix];exact Prod.ext (by simp only;lia) W.symm
  rw[ww,z3];lia
theorem xV(ns:List Int):∃v:Int,i6 [.lst (ns.map .int)]=some (.int v)/\0<=v:=by
 suffices h:∃d,i6 [.lst (ns.map .int)]=some d/\∃v:Int,d=.int v/\0<=v by
  obtain⟨d,h1,v,rfl,h2⟩:=h;exact⟨v,h1,h2⟩
 have q:=Ten
 have pw:QT (.int 10) (.int 60)=some (.int 1000000000000000000000000000000000000000000000000000000000000):=by
  rw[IM (by decide) (by decide) (by decide)];exact congrArg (λx=>some (D.int x)) q
 refine dZ ?_;unfold nP;rw[aH (aN (d:=.int 7) (by simp_all))];refine jP (items:=ns.map .int) (by simp_all[aE]) (λi ρ=>∃(v:Int) (o:Option D),ρ=[some (.lst (ns.map .int)),some (.int v),o]/\0<=v/\v<10^60) ⟨7,none,by simp_all[aE],by decide,by decide +kernel⟩ ?_ ?_
 ·rintro i x ρ hx ⟨v,o,rfl,z,F⟩
  rw[zaA]at hx;obtain⟨c,_,rfl⟩:=Option.map_eq_some_iff.mp hx;have b:(10:Int)^60<10^250:=by decide +kernel
  have B:cS (.int v) (.int 1000003)=some (.int (v*1000003)):=b8 (by lia) (by lia) (by decide +kernel) (by decide +kernel);refine⟨[some (.lst (ns.map .int)),some (.int ((v*1000003+c)%1000000000000000000000000000000000000000000000000000000000000)),some (.int c)],?_,_,_,rfl,zat _ (by decide),?_⟩
  ·simp_all[turn,B,pw,bO]
  ·rw[q];exact zav _ (by decide)
 ·rintro ρ ⟨v,o,rfl,z,F⟩
  exact⟨_,by simp_all,v,rfl,z⟩
def knK(p:Str×Int):Key×D:=(.inr p.1,.int p.2)
theorem IE:∀l:List (Str×Int),FT (l.map bK)=some (l.map knK)
 | []=>rfl
 | p::l=>by
  show(ZL (.str p.1)).bind _=_;show(some (.inr p.1:Key)).bind _=_;rw[aA,IE l];rfl
theorem xI:∀(l kn:List (Str×Int)) (acc:List (Key×D)),Cons acc kn->(l.map (·.1)++kn.map (·.1)).Nodup->Cons (mD acc (l.map knK)) (l++kn)
 | [],kn,acc,h,_=>h
 | p::l,kn,acc,h,nd=>by
  rw[zak,zcX,List.nodup_cons]at nd;have G:p.1∉kn.map (·.1):=λz=>nd.1 (zaU _ z)
  have h2:=h.put (j:=p.2) G;have B:(l.map (·.1)++((p.1,p.2)::kn).map (·.1)).Nodup:=by
   have a:=List.nodup_append.mp nd.2;rw[zak,zdL];refine⟨a.1,List.nodup_cons.mpr ⟨G,a.2.1⟩,λy J z M=>?_⟩;rcases List.mem_cons.mp M with e|e
   ·intro w;exact nd.1 (zbt _ (by rw[<- e,<- w];exact J))
   ·exact a.2.2 y J z e
  have ih:=xI l ((p.1,p.2)::kn) (putD acc (.inr p.1) (.int p.2)) h2 B;show Cons (mD (putD acc (.inr p.1) (.int p.2)) (l.map knK)) _;intro q F;refine ih q ?_;rw[zcX]at F;rcases List.mem_cons.mp F with z|z
  ·rw[z];exact zaU _ (zar ..)
  ·rcases List.mem_append.mp z with z|z
   ·exact zbt _ z
   ·exact zaU _ (zap _ z)
theorem BY:∀(l:List (Key×D)) (acc:List (Key×D)),(mD acc l).length<=acc.length+l.length
 | [],acc=>by show acc.length<=_;simp_all
 | p::l,acc=>by
  have:=BY l (putD acc p.1 p.2);have:=uS (d:=acc) (k:=p.1) (e:=p.2);show(mD (putD acc p.1 p.2) l).length<=_;rw[zaz];lia
theorem tN(F:(l.map (·.1)).Nodup)(G:l.length<=100):∃d,gP [.lst (l.map bK)]=some (.dK d)/\gP [.tup (l.map bK)]=some (.dK d)/\Cons d l/\d.length<=100:=by
 have B:a7 (l.map bK).length=true:=decide_eq_true (by rw[zah];lia);have q:gP [.lst (l.map bK)]=(if a7 (l.map bK).length=true then(FT (l.map bK)).map λkvs=>D.dK (mD [] kvs)else none):=rfl;have z:gP [.tup (l.map bK)]=(if a7 (l.map bK).length=true then(FT (l.map bK)).map λkvs=>D.dK (mD [] kvs)else none):=rfl;rw[if_pos B,IE,aB]at q z;have c:=xI l [] [] (λ_ h=>nomatch h) (by simpa using F);rw[zbw]at c;have:=BY (l.map knK) [];simp[-zac,-zab,aA,aB]at this;exact⟨_,q,z,c,by lia⟩
theorem names8(ns:List Int):∃nms:List Str,nms.length=8/\nms.Nodup/\bE (aR 0) fH (aT cF (aC (aT bX (aC (aD 1) (aC (eC (.int 23)) aZ))) (aC (aD 0) aZ))) (aU 0 1 8) [none,some (.lst (ns.map .int))]=some (nms.map .str):=by
 obtain⟨f,G⟩:=dS ns;have B:=(G 23 (by decide) (by decide)).1;obtain⟨nm,e,inj⟩:=UK (f 23);have W:=lA (K:=8) (f:=aT cF (aC (aT bX (aC (aD 1) (aC (eC (.int 23)) aZ))) (aC (aD 0) aZ))) (rest:=[some (.lst (ns.map .int))]) (F:=λi=>.str (nm i)) (λi M i1=>by simp_all[B,e i M (by lia)]) (zas 8) none λk N=>List.mem_range.mp N
 have er:aU 0 1 8=(zas 8).map λ(k:Nat)=>D.int (k:Int):=by
  rw[gH,zaq];rfl
 refine⟨(zas 8).map λ(k:Nat)=>nm (k:Int),by simp_all,?_,?_⟩
 ·refine List.nodup_iff_pairwise_ne.mpr ?_
  rw[zem];refine List.Pairwise.imp_of_mem ?_ (List.nodup_range (n:=8));intro a b U J q z;have a1:=List.mem_range.mp U;have Y:=List.mem_range.mp J;have:=inj (a:Int) (b:Int) (by lia) (by lia) z;exact q (by lia)
 ·rw[er,zaq]
  exact W
def DH(d:List (Key×D)):iF:=λx=>match fM d (.inr x:Key)with
 | some (.int j)=>j
 | _=>0
theorem qw(h:Cons d kn):EC (DH d) kn:=λp q=>by unfold DH;rw[h p q]
theorem yU(B:OkB C):∃at_,vC CA gA iC cV (a9 C)=some at_/\AtD C at_:=by
 obtain⟨q,L2,e,ok⟩:=SC B;exact⟨_,e,q,L2,rfl,ok⟩
theorem AM(B:OkB C)(F:U.length<=8)(hd:gP [Hd]=some (.dK d))(q:size g<=16)(w:WI C U kn g d (DH d) k):kR [a9 C,Hd,pt g,.int k,rd g]=some (.int (cA C g (DH d) k)):=by
 obtain⟨at_,G,A⟩:=yU B;have J:=zK C 16 (pa g) (by rw[b6];exact q) (by rw[b6];lia);have z:kH [at_,dN C (pa g),.dK d,.int k,rd g]=some (.int (cA C g (DH d) k)):=BG B F A 16 g kn d (DH d) k q q w;rw[gS];refine aF ?_;unfold qL;generalize dN C (pa g)=nd at *;generalize rd g=rg at *;simp_all[aE,eNew,G,J,z,hd]
theorem OJ(B:OkB C)(F:U.length<=8)(hd:gP [Hd]=some (.dK d))(q:size g<=16)(w:WI C U kn g d (DH d) k):zJ [a9 C,Hd,pt g,.int k,.int (cA C g (DH d) k)]=some (rd g):=by
 obtain⟨at_,J,A⟩:=yU B;have M:=zK C 16 (pa g) (by rw[b6];exact q) (by rw[b6];lia);have z:pE [at_,dN C (pa g),.dK d,.int k,.int (cA C g (DH d) k)]=some (rd g):=OL B F A 16 g kn d (DH d) k q q w;have N:=(w.num B).1;rw[gS];refine aF ?_;unfold O8;generalize dN C (pa g)=nd at *;generalize rd g=rg at *;generalize cA C g (DH d) k=n at *;have G:¬ n<0:=by lia
 simp_all[aE,eNew,J,M,z,hd,G]
theorem NJ(B:OkB C)(W:U.length<=8)(hd:gP [Hd]=some (.dK d))(q:psz p<=16)(w:PI' C U p d e k):A3 [a9 C,Hd,bL p]=some (.lst ((zas C.kinds.length).map λ(j:Nat)=>.int (nI (aW C p e (j:Int))))):=by
 obtain⟨at_,e1,A⟩:=yU B;have k6:=B.k6;have e2:=zK C 16 p q (by lia);have N:∀i:Int,0<=i->i<(C.kinds.length:Int)->cQ [at_,dN C p,.dK d,.int i]=some (memD (aW C p e i)):=λi G J=>C2 B W A 16 p d e i q q ⟨w.ok,G,J,w.hd,w.he,w.dl⟩
 generalize dN C p=nd at *;have ed:=lA (K:=C.kinds.length) (f:=aT dE (aC (aT cQ (aC (aD 1) (aC (aD 2) (aC (aT gP (aC (aD 3) aZ)) (aC (aD 0) aZ))))) aZ)) (rest:=[some at_,some nd,some Hd]) (F:=λi=>.int (nI (aW C p e i))) (λi G J=>by
  have n:=fZ (aW C p e i);simp_all[hd,N i G J,n]) (zas C.kinds.length) none λk Y=>List.mem_range.mp Y
 have er:aU 0 1 C.kinds.length=(zas C.kinds.length).map λ(k:Nat)=>D.int (k:Int):=by
  rw[gH,zaq];rfl
 have M:bZ [.int (C.kinds.length:Int)]=some (aU 0 1 C.kinds.length):=cE (by lia);have z:a7 C.kinds.length=true:=decide_eq_true (by lia);rw[er]at M;refine aF ?_;unfold CV;rw[aH (aN (d:=at_) (by simp_all[aE,eNew,e1]))];rw[aH (aN (d:=nd) (by simp_all[aE,eNew,e2]))];simp_all[-zaq,aE,FM,M,jW,z,ed]
theorem oP(n:Int):eP [.int n]=some (.bl true):=aF (by simp_all[qV,aE])
theorem ts(h:¬ a=b):iG (.str a) (.str b)=some (.bl false):=by simp_all[h]
theorem tt(a:Str):iG (.str a) (.str a)=some (.bl true):=by simp_all
theorem tm(a:Str):zZ (.str a) (.str a)=some (.bl false):=by simp_all
theorem im(i:Int):zZ (.int i) (.int i)=some (.bl false):=by simp_all
theorem Q4(S:Short g)(h:size g<=16):kW [rd g]=some (.bl true):=by
 refine ON (Q:=λn d=>∀m,n<m->eD 1 eS m [d]=some (.bl true)) ?_ ?_ ?_ (λh l m k=>h m (by lia)) g S 40 (by lia)
 ·rintro n s (_|m) h
  ·lia
  ·exact aF (jN (p:=.rt (.bl true)) (s_ift rfl (CW rfl)) rfl)
 ·rintro n i (_|m) h
  ·lia
  ·exact aF (jN (p:=.rt (.bl true)) (s_ift rfl (CW (oP i))) rfl)
 ·rintro n l z H (_|m) h
  ·lia
  show bB 1 (eS (eD 1 eS m)) _=_;have H':∀d∈l,eD 1 eS m [d]=some (.bl true):=λd hd=>H d hd m (by lia)
  generalize eD 1 eS m=R at H';have c:∀ {l:List D} {o:Option D},(∀d∈l,R [d]=some (.bl true))->bE (aR 0) fH (aT R (aC (aD 0) aZ)) l [o]=some ((l.map λ_=>true).map .bl):=λ{l}=>by
   induction l with
   | nil=>exact λ_=>rfl
   | cons d l ih=>exact λh=>lV rfl rfl (sH (yR rfl rfl) (h d (zar ..))) (ih λe q=>h e (zap _ q))
  refine aF (jN (QF (FE (E5 rfl)) rfl) (CW (sH (yR (GT rfl (by have:=zb3 z;lia) (c H')) rfl) ?_)));rw[q_all];simp_all
theorem F7{C:Bk}{g:Gv}{b:Sv}{K T:D}{k:Int}(q:∀(n:Int) (r:Ro) (o:Option D),lX C.rs n=some r->turn g b (.int n) [some (a9 C),some (.int r.j),some K,some T,o]=some (.nx [some (a9 C),some (.int r.k),some K,some T,some (.int n)])):∀ {w:List Int} {j:Int} {o:Option D},gw C.rs j w=some k->∃o',lM g b (w.map .int) [some (a9 C),some (.int j),some K,some T,o]=some (.nx [some (a9 C),some (.int k),some K,some T,o'])
 | [],j,o,h=>by cases h;exact⟨o,rfl⟩
 | n::w,j,o,h=>by
  obtain⟨r,B,h⟩:=bind_some h;by_cases e:r.j=j
  ·subst e
   rw[if_pos rfl]at h;obtain⟨o',z⟩:=F7 q h;exact⟨o',G3 (q n r _ B) z⟩
  ·rw[if_neg e]at h;cases h
theorem W4{C:Bk}{g:Gv}{b rest:Sv}{l:Lv}{K T:D}{j k:Int}{w:List Int}{o:Option D}{out:Option Out}(z:∀(n:Int) (r:Ro) (o:Option D),lX C.rs n=some r->turn g b (.int n) [some (a9 C),some (.int r.j),some K,some T,o]=some (.nx [some (a9 C),some (.int r.k),some K,some T,some (.int n)]))(h:gw C.rs j w=some k)(B:l [some (a9 C),some (.int j),some K,some T,o]=some (w.map .int))(q:∀o,rest [some (a9 C),some (.int k),some K,some T,o]=out):dA (zW l g b) rest [some (a9 C),some (.int j),some K,some T,o]=out:=by
 obtain⟨o',e⟩:=F7 z (o:=o) h;exact jN (OM B e) (q o')
theorem DB{C:Bk}{j k:Int}{w:List Int}(h:gw C.rs j w=some k):iJ [a9 C,.int j,.int k,tupI w]=some (.bl true):=by
 have e:iG (.int k) (.int k)=some (.bl true):=by simp_all
 refine aF (jN (QF (FE (E5 rfl)) rfl) (W4 (λn r o q=>?_) h (V0 rfl rfl) λo=>CW (by ac_rfl)));have l:=E6 q;have F:=oP n;have M:¬ n<0:=by lia
 have B:¬ ((C.rs.map lY).length:Int)<=n:=by rw[zah];lia
 have a:=u7 q;have z:=@ZH r;have G:=@ZI r;have J:=im r.j;exact C9 rfl (by ac_rfl)
structure KL(kn kl:List (Str×Int))(m:Nat):Prop where
 sub:∀p∈kn,p∈kl
 un:∀p∈kl,p.1∈kn.map (·.1)
 nd:(kl.map (·.1)).Nodup
 len:kl.length+m<=60
theorem KL.snoc(h:KL kn kl (m+1))(hx:x∉kn.map (·.1)):KL ((x,j)::kn) (kl++[(x,j)]) m:=by
 have l:=h.len;refine⟨λp q=>?_,λp q=>?_,?_,by rw[zbb];show kl.length+1+m<=60;lia⟩
 ·rcases List.mem_cons.mp q with z|z
  ·rw[z];exact zaU _ (List.mem_singleton.mpr rfl)
  ·exact zbt _ (h.sub p z)
 ·rcases List.mem_append.mp q with z|z
  ·exact zap _ (h.un p z)
  ·rw[List.mem_singleton.mp z];exact zar ..
 ·rw[zaI,zdL]
  refine⟨h.nd,by simp_all,λa B b F z=>?_⟩;rw[List.mem_singleton.mp F]at z;obtain⟨p,q,rfl⟩:=List.mem_map.mp B;exact hx ((show p.1=x from z) ▸ h.un p q)
theorem KL.less(h:KL kn kl (m+1)):KL kn kl m:=⟨h.sub,h.un,h.nd,by have:=h.len;lia⟩
theorem VX{C:Bk}{v:Nat}{m:Mk}{k:Int}{w:List Int}{K:D}{ps rs:List D}(q:C.makes[v]?=some m)(F:gw C.rs m.g w=some k)(B:m.takes.length=ps.length)(z:rs.length=ps.length){ns rows:List D}(en:bZ [.int (ps.length:Int)]=some ns)(zn:ns.length<=1000000)
  (hc:bE (aR 0) fH (fK (aC (aD 1) (aC (bC aI (bC aI (aD 2) (eC (D.int 2))) (aD 0)) (aC (bC aI (bC aI (aD 3) (eC (D.int 1))) (aD 0)) (aC (bC aI (bC aI (aD 4) (eC (D.int 2))) (aD 0)) aZ))))) ns [none,some K,some (.tup [.str "use",.str m.nm,.tup ps]),some (j7 m),some (.tup [.str "use",.int (v:Int),.tup rs,tupI w])]=some rows) :
  fP [a9 C,K,.tup [.str "use",.str m.nm,.tup ps],.int k,.tup [.str "use",.int (v:Int),.tup rs,tupI w]]=some (.lst rows):=by
 have u:kD [a9 C,K,.tup [.str "use",.str m.nm,.tup ps],.int k,.tup [.str "use",.int (v:Int),.tup rs,tupI w]]=some (.lst rows):=by
  have M:=(List.getElem?_eq_some_iff.mp q).1;have W:=oP (v:Int);have n0:¬ (v:Int)<0:=by lia
  have U:¬ ((C.makes.map j7).length:Int)<=(v:Int):=by rw[zah];lia
  have a:=oW q;have N:=tm m.nm;have Y:fV [tupI m.takes]=some (.int (ps.length:Int)):=by rw[<- B,<- zah (f:=D.int)];rfl
  have e2:fV [.tup rs]=some (.int (ps.length:Int)):=by rw[<- z];rfl
  have J:=im (ps.length:Int);have G:=DB F;refine aF ?_;unfold kA
  ac_rfl
 have a1:=tt "use";refine aF ?_;unfold gN
 ac_rfl
theorem qj(B:0<=j)(N:j<(C.kinds.length:Int))(F:kl.length+1<=1000000):fP [a9 C,.lst kl,.tup [.str "let",.str x,p,q],.int k,.tup [.str "let",.str x,.int j,r,s]]=some (.lst [.tup [.lst kl,p,.int j,r],.tup [.lst (kl++[.tup [.str x,.int j]]),q,.int k,s]]):=by
 have M:=oP j;have W:¬ j<0:=by lia
 have J:¬ ((C.kinds.map D.str).length:Int)<=j:=by rw[zah];lia
 have U:=ts jL;have G:=tt "let";have Y:=tm x;have z:∀ {a b c d e:D},gE [a,b,c,d,e] 4=some e:=Q0;refine aF ?_;unfold gN
 ac_rfl
theorem YD{C:Bk}{k i j:Int}{K p q r s t u:D}{w:List Int}(h:gw C.rs j w=some k):fP [a9 C,K,.tup [.str "pick",.int i,.int j,p,q,r],.int k,.tup [.str "pick",.int i,.int j,s,t,u,tupI w]]=some (.lst [.tup [K,p,.int i,s],.tup [K,q,.int j,t],.tup [K,r,.int j,u]]):=by
 have G:=DB h;have J:=ts jJ;have F:=ts gR;have N:=tt "pick";have B:iG (.tup (cutD [.str "pick",.int i,.int j,s,t,u,tupI w] (some 1) (some 3))) (.tup (cutD [.str "pick",.int i,.int j,p,q,r] (some 1) (some 3)))=some (.bl true):=zH (l:=[.int i,.int j]) rfl;have z:∀ {a b c d e f g:D},gE [a,b,c,d,e,f,g] 4=some e:=Q0;have M:∀ {a b c d e f:D},gE [a,b,c,d,e,f] 4=some e:=Q0;refine aF ?_;unfold gN
 ac_rfl
theorem R7(h:gw C.rs j w=some k)(F:kl.length+1<=1000000):fP [a9 C,.lst kl,.tup [.str "again",.int n,.int j,.str x,p,q],.int k,.tup [.str "again",.int n,.int j,.str x,s,t,tupI w]]=some (.lst [.tup [.lst kl,p,.int j,s],.tup [.lst (kl++[.tup [.str x,.int j]]),q,.int j,t]]):=by
 have J:=DB h;have M:=ts jM;have G:=ts fS;have W:=ts rZ;have U:=tt "again";have B:iG (.tup (cutD [.str "again",.int n,.int j,.str x,s,t,tupI w] (some 1) (some 4))) (.tup (cutD [.str "again",.int n,.int j,.str x,p,q] (some 1) (some 4)))=some (.bl true):=zH (l:=[.int n,.int j,.str x]) rfl;have z:∀ {a b c d e f g:D},gE [a,b,c,d,e,f,g] 4=some e:=Q0;have N:∀ {a b c d e f:D},gE [a,b,c,d,e,f] 4=some e:=Q0;refine aF ?_;unfold gN
 ac_rfl
theorem CO{F:List D->Option D}{T:D}:∀ {rows:List D} {a b c d:Option D},(∀x∈rows,∃p q r s,x=.tup [p,q,r,s]/\F [T,p,q,r,s]=some (.bl true))->bE (lJ 4 (dI (aR 0) (dI (aR 1) (dI (aR 2) (dI (aR 3) rB))))) fH (aT F (aC (aD 4) (aC (aD 0) (aC (aD 1) (aC (aD 2) (aC (aD 3) aZ)))))) rows [a,b,c,d,some T]=some ((rows.map λ_=>true).map .bl)
 | [],_,_,_,_,_=>rfl
 | x::rows,_,_,_,_,h=>by
  obtain⟨p,q,r,s,rfl,e⟩:=h x (zar ..);exact lV rfl rfl (sH rfl e) (CO λy z=>h y (zap _ z))
theorem UR:¬ ("number" : Str) = "name" := by decide
abbrev szs:List (Key×D):=dsp [("name",3),("number",4),("use",4),("let",5),("pick",7),("again",7)]
theorem k7{F:List D->Option D}{T K k:D}{s:Str}{n:Int}{ps rs rows:List D}(h5:aI (.dK szs) (.str s)=some (.int n))(W:fV [.tup (.str s::rs)]=some (.int n))(G:¬ s = "name")(B:¬ s = "number")(Y:fP [T,K,.tup (.str s::ps),k,.tup (.str s::rs)]=some (.lst rows))(M:Nat.ble rows.length 3=true)(J:∀x∈rows,∃p q r s,x=.tup [p,q,r,s]/\F [T,p,q,r,s]=some (.bl true)):bB 7 (cP F) [T,K,.tup (.str s::ps),k,.tup (.str s::rs)]=some (.bl true):=by
 have e1:=im n;have e2:=tm s;have U:=ts G;have N:=ts B;have e5:=CO (a:=none) (b:=none) (c:=none) (d:=none) J;have e6:QN [.lst ((rows.map λ_=>true).map .bl)]=some (.bl true):=by rw[q_all];simp_all
 have z:rows.length<=1000000:=by have:=zb3 M;lia
 have e7:U3 (.lst rows) .non=some (.bl false):=rfl;refine aF ?_;unfold cP
 ac_rfl
theorem HM{C:Bk}(B:OkB C){U:List Str}:∀(m:Nat) (g:Rg) (kn kl:List (Str×Int)) (k:Int),size g<=m->WF C kn g k->OkN C kn->NF U (kn.map (·.1)) g->KL kn kl m->eD 7 cP m [a9 C,.lst (kl.map bK),pt g,.int k,rd g]=some (.bl true)
 | 0,g,_,_,_,h,_,_,_,_=>by have:=dU (pa g);rw[b6]at this;lia
 | m+1,g,kn,kl,k,h,W,O,N,L=>by
  have z:=HM B (U:=U) m;show bB 7 (cP (eD 7 cP m)) _=_;generalize eD 7 cP m=R at z ⊢;have ll:=L.len;have lz:(kl.map bK).length+1<=1000000:=by rw[zah];lia
  have an:∀ {x:Str} {j:Int},kl.map bK++[.tup [.str x,.int j]]=(kl++[(x,j)]).map bK:=λ{x j}=>by rw[zaI];rfl
  cases g with
  | name x j w=>
   obtain⟨d,e1,_,c,_⟩:=tN L.nd (by lia);have e2:=QA (c _ (L.sub _ W.1));have e3:=DB W.2;have a1:=tm "name";have a2:=tt "name";have a3:=tt x;have a4:=im 3;have a5:aI (.dK szs) (.str "name")=some (.int 3):=rfl;have a6:fV [.tup [.str "name",.str x,tupI w]]=some (.int 3):=rfl;refine aF ?_;unfold cP pt rd
   ac_rfl
  | num n j w=>
   have e3:=DB W.2.2;have a1:=tm "number";have a2:=tt "number";have a3:=ts UR;have a4:=im 4;have a5:aI (.dK szs) (.str "number")=some (.int 4):=rfl;have a6:fV [.tup [.str "number",.int n,.int j,tupI w]]=some (.int 4):=rfl;have e4:iG (.tup (cutD [.str "number",.int n,.int j,tupI w] (some 1) (some 3))) (.tup (cutD [.str "number",.int n,.int j] (some 1) none))=some (.bl true):=zH (l:=[.int n,.int j]) rfl;refine aF ?_;unfold cP pt rd
   ac_rfl
  | use1 v nm p w=>
   obtain⟨mk,t,Y,rfl,J,F,hw⟩:=W;have i:=z p kn kl t (by simp only[size]at h;lia) F O N L.less;have m1:aI (tupI mk.takes) (.int 0)=some (.int t):=by rw[J];rfl
   have r1:bZ [.int (([pt p]:List D).length:Int)]=some [.int 0]:=cE (n:=1) (by decide);have hr:=VX (K:=.lst (kl.map bK)) (ps:=[pt p]) (rs:=[rd p]) (rows:=[.tup [.lst (kl.map bK),pt p,.int t,rd p]]) Y hw (by rw[J];rfl) rfl r1 (by decide) (lV rfl rfl (by ac_rfl) rfl);unfold pt rd;exact k7 (s := "use") rfl rfl (by decide) (by decide) hr rfl (all1 ⟨_,_,_,_,rfl,i⟩)
  | use2 v nm p q w=>
   obtain⟨mk,t,u,Y,rfl,J,F,M,hw⟩:=W;have i:=z p kn kl t (by simp only[size]at h;lia) F O N.1 L.less;have G:=z q kn kl u (by simp only[size]at h;lia) M O N.2 L.less;have m1:aI (tupI mk.takes) (.int 0)=some (.int t):=by rw[J];rfl
   have m2:aI (tupI mk.takes) (.int 1)=some (.int u):=by rw[J];rfl
   have r1:bZ [.int (([pt p,pt q]:List D).length:Int)]=some [.int 0,.int 1]:=cE (n:=2) (by decide);have hr:=VX (K:=.lst (kl.map bK)) (ps:=[pt p,pt q]) (rs:=[rd p,rd q]) (rows:=[.tup [.lst (kl.map bK),pt p,.int t,rd p],.tup [.lst (kl.map bK),pt q,.int u,rd q]]) Y hw (by rw[J];rfl) rfl r1 (by decide) (lV rfl rfl (by ac_rfl) (lV rfl rfl (by ac_rfl) rfl));unfold pt rd;exact k7 (s := "use") rfl rfl (by decide) (by decide) hr rfl (d9 ⟨_,_,_,_,rfl,i⟩ (all1 ⟨_,_,_,_,rfl,G⟩))
  | lett x j p q=>
   have s:=WF.short B O W.1;have i:=z p kn kl j (by simp only[size]at h;lia) W.1 O N.1 L.less;have G:=z q _ _ k (by simp only[size]at h;lia) W.2 (O.cons s.2.1 s.2.2) N.2.2 (L.snoc N.2.1.1);unfold pt rd;exact k7 (s := "let") rfl rfl (by decide) (by decide) (qj s.2.1 s.2.2 lz) rfl (d9 ⟨_,_,_,_,rfl,i⟩ (all1 ⟨_,_,_,_,rfl,an ▸ G⟩))
  | pick c j p q r w=>
   obtain⟨c1,k1,F,M,wr,hw⟩:=W;have i:=z p kn kl c (by simp only[size]at h;lia) F O N.1 L.less;have G:=z q kn kl j (by simp only[size]at h;lia) M O N.2.1 L.less;have i3:=z r kn kl j (by simp only[size]at h;lia) wr O N.2.2 L.less;unfold pt rd;exact k7 (s := "pick") rfl rfl (by decide) (by decide) (YD hw) rfl (d9 ⟨_,_,_,_,rfl,i⟩ (d9 ⟨_,_,_,_,rfl,G⟩ (all1 ⟨_,_,_,_,rfl,i3⟩)))
  | again n j x p q w=>
   obtain⟨n1,k1,F,M,hw⟩:=W;have i:=z p kn kl j (by simp only[size]at h;lia) F O N.1 L.less;have G:=z q _ _ j (by simp only[size]at h;lia) M (O.cons k1.1 k1.2) N.2.2 (L.snoc N.2.1.1);unfold pt rd;exact k7 (s := "again") rfl rfl (by decide) (by decide) (R7 hw lz) rfl (d9 ⟨_,_,_,_,rfl,i⟩ (all1 ⟨_,_,_,_,rfl,an ▸ G⟩))
theorem WI.si(B:OkB C)(w:WI C U kn g d e k):SI C U kn (pa g) d e k:=⟨w.pi B,paw w.wf w.nf,λx hx=>by
 obtain⟨j,q⟩:=FJ w.wf x hx;rw[w.ec _ q];exact q⟩
theorem MT(B:OkB C)(w:WI C U kn g d e k0)(q:0<=k/\k<(C.kinds.length:Int))(G:0<=n)(F:n<nI (aW C (pa g) e k)):∃g',pa g'=pa g/\size g'=size g/\WI C U kn g' d e k/\cA C g' e k=n:=by
 have s:=w.si B;obtain⟨g',h1,h2,z⟩:=qaL B (psz (pa g)) (pa g) kn d e k n (zaj _) ⟨⟨s.pi.ok,q.1,q.2,s.pi.hd,s.pi.he,s.pi.dl⟩,s.pw,s.nk⟩ G F;have sz:size g'=size g:=by rw[<- b6,h1,b6]
 exact⟨g',h1,sz,⟨h2,PaW.nf (by rw[h1];exact s.pw),w.ok,w.ec,w.cd,w.un,by rw[sz];exact w.dl⟩,z⟩
theorem TJ{a b:Bv}{s rest:Sv}{ρ q:cX}{o:Option Out}{x y:Bool}(z:a ρ=some x)(B:b ρ=some y)(hs:s ρ=some (.nx q))(Q:cX->Prop)(F:Q q)(G:x=false->Q ρ)(k:∀ρ',Q ρ'->rest ρ'=o):dA (zX (VI a b) s VF) rest ρ=o:=by
 cases x with
 | true=>exact jN (s_ift (IY z rfl) hs) (k _ F)
 | false=>
  cases y with
  | true=>exact jN (s_ift (IY z B) hs) (k _ F)
  | false=>exact jN (s_iff (IY z B) rfl) (k _ (G rfl))
theorem qaE(ns:List Int)(hn:ns.length<=63):bB 12 QE [.lst (ns.map .int)]=some (.bl true):=by
 obtain⟨C,hC,B⟩:=ET ns;obtain⟨nms,h8,M,en⟩:=names8 ns;obtain⟨ps,ep,P,J,F⟩:=AA (ns:=ns) B h8;obtain⟨g,k,r,eg,G⟩:=AF hn B h8 M P J F;obtain⟨v,ev,v0⟩:=xV ns;have k6:=B.k6;have gs:=G.sz;have mp:(0:Int)<(C.kinds.length:Int):=by have:=B.k1;lia
 have r8:bZ [.int 8]=some (aU 0 1 8):=cE (n:=8) (by decide);have z8:a7 8=true:=rfl;have U:(ps.map (·.1)).Nodup:=by rw[F];exact(zdj ..).nodup M
 obtain⟨d,dl,dt,cd,ld⟩:=tN U (by lia);have w:WI C nms ps g d (DH d) k:=⟨G.wf,G.nf,P,qw cd,cd,λp J=>(zdj ..).subset (F ▸ List.mem_map.mpr ⟨p,J,rfl⟩),by lia⟩;have hU:nms.length<=8:=by lia
 have ct:=NJ B hU dl (by rw[b6];lia) (w.pi B);rw[<- gS]at ct;have nn:=w.num B;obtain⟨sz,hs⟩:∃sz:Int->Int,sz=λj=>nI (aW C (pa g) (DH d) j):=⟨_,rfl⟩
 have q:∀j:Int,0<=j->j<(C.kinds.length:Int)->gE ((zas C.kinds.length).map λ(j:Nat)=>D.int (nI (aW C (pa g) (DH d) (j:Int)))) j=some (.int (sz j)):=λj j0 j1=>by
  subst hs;have e1:((j.toNat:Nat):Int)=j:=by lia
  have:((zas C.kinds.length).map λ(j:Nat)=>D.int (nI (aW C (pa g) (DH d) (j:Int))))[j.toNat]?=some (.int (nI (aW C (pa g) (DH d) j))):=by
   rw[zaA,zcV (by lia),zab,e1]
  have:=bV this
  rwa [e1]at this
 have tk:∀K N,0<=K->K<(C.kinds.length:Int)->0<=N->N<sz K->∃x,zJ [a9 C,.lst (ps.map bK),pt g,.int K,.int N]=some x/\zJ [a9 C,.tup (ps.map bK),pt g,.int K,.int N]=some x/\kW [x]=some (.bl true)/\qX [a9 C,.lst (ps.map bK),pt g,.int K,x]=some (.bl true)/\kR [a9 C,.lst (ps.map bK),pt g,.int K,x]=some (.int N)/\iG x x=some (.bl true):=λK N W Y N0 N1=>by
  subst hs;obtain⟨g',a,b,c,rfl⟩:=MT B w ⟨W,Y⟩ N0 N1;have S:=(WF.short B c.ok c.wf).1;have t1:=OJ B hU dl (by lia) c;have t2:=OJ B hU dt (by lia) c;have t3:=HM B 16 g' ps ps K (by lia) c.wf c.ok c.nf ⟨λ_ h=>h,λp J=>List.mem_map.mpr ⟨p,J,rfl⟩,U,by lia⟩;have t4:=AM B hU dl (by lia) c;rw[gS,a,<- gS]at t1 t2 t3 t4;exact⟨rd g',t1,t2,Q4 S (by lia),t3,t4,qas S (by lia)⟩
 have n0:∀j,0<=sz j:=λj=>by subst hs;exact b9 ..
 have kk:0<sz k:=by subst hs;show 0<nI _;lia
 have G0:=G.k0;have G1:=G.k1;generalize ((zas C.kinds.length).map λ(j:Nat)=>D.int (nI (aW C (pa g) (DH d) (j:Int))))=CL at *;clear hs;clear nn;have q0:=zat v (zaQ mp);have q1:=zav v mp;have dm:dM (.int v) (.int ((C.kinds.map D.str).length:Int))=some (.int (v%(C.kinds.length:Int))):=by rw[zah];exact bO mp
 have d6:C6 (.int v) (.int 6)=some (.int (v/6)):=zI (by decide) (by decide +kernel);have au:C6 (.int v) (.int 12)=some (.int (v/12)):=zI (by decide) (by decide +kernel);have aq:C6 (.int v) (.int 96)=some (.int (v/96)):=zI (by decide) (by decide +kernel);have m2:dM (.int (v/6)) (.int 2)=some (.int (v/6%2)):=bO (by decide);have m8:dM (.int (v/12)) (.int 8)=some (.int (v/12%8)):=bO (by decide);have a8:=q _ q0 q1;obtain⟨I,eI,I0,I2⟩:∃I:Int,C0 [.int 0,.int (v/12%8-5)]=some (.int I)/\0<=I/\I<=2:=⟨_,q_max,by split <;> lia,by split <;> lia⟩;refine aF ?_;unfold QE;rw[aH (aN (d:=a9 C) (by ac_rfl))];rw[aH (aN (d:=.lst (nms.map .str)) (by simp_all[aE,r8,bI,z8,jW,en]))];rw[aH (aN (d:=.lst (ps.map bK)) (by ac_rfl))];rw[aH (aN (d:=bH C g k r) (by ac_rfl))];generalize ps.map bK=pl at *;rw[aH (aN (d:=pt g) (by ac_rfl))];generalize pt g=pg at *;have li:C8 [.lst pl]=some (.lst pl):=rfl;have ti:jO [.lst pl]=some (.tup pl):=rfl;rw[aH (aN (d:=.lst CL) (by ac_rfl))];rw[aH (aN (d:=.int v) (by ac_rfl))];rw[aH (aN (d:=.int (v%(C.kinds.length:Int))) (by ac_rfl))];refine TJ (x:=decide (sz (v%(C.kinds.length:Int))=0)) (y:=decide (v/6%2=0)) (by ac_rfl) (by ac_rfl) (aN (d:=.int k) (by ac_rfl)) (λρ'=>∃K:Int,ρ'=[some (.lst (ns.map .int)),some (a9 C),some (.lst (nms.map .str)),some (.lst pl),some (bH C g k r),some pg,some (.lst CL),some (.int v),some (.int K),none,none,none]/\0<=K/\K<(C.kinds.length:Int)/\0<sz K) ⟨k,rfl,G0,G1,kk⟩ (λz=>⟨_,rfl,q0,q1,by have:=of_decide_eq_false z;have:=n0 (v%(C.kinds.length:Int));lia⟩) ?_;rintro _ ⟨K,rfl,W,Y,Kp⟩;have aK:=q K W Y;have mK:dM (.int (v/96)) (.int (sz K))=some (.int (v/96%sz K)):=bO Kp;have w0:=zat (v/96) (zaQ Kp);have w1:=zav (v/96) Kp;obtain⟨N,eN,N0,N1⟩:∃N:Int,gE [D.int (v/96%sz K),.int 0,.int (sz K-1)] I=some (.int N)/\0<=N/\N<sz K:=by
  rcases(show I=0\/I=1\/I=2 by lia)with rfl|rfl|rfl
  ·exact⟨_,at0,w0,w1⟩
  ·exact⟨0,at1,by lia,Kp⟩
  ·exact⟨sz K-1,at2,by lia,by lia⟩
 obtain⟨x,t1,t2,t3,t4,t5,t6⟩:=tk K N W Y N0 N1;have e0:iG (.int (sz K)) (.int 0)=some (.bl false):=by simp_all;lia
 have wN:=oP N;have ap:=im N
 ac_rfl
theorem qbS:Bds top tab:=by
 unfold tab
 repeat (refine Bds.cons ?_ ?_;· (repeat intro _);rfl)
 exact Bds.nil
theorem Y7{l:zec}{w:World}{K:zae}{h:Heap}{mg:Str->Option Value}{fa:Addr}{k:Nat}(X:K.In h)(G:h.Ns zaL mg)(Y:mg "law" = some (.ref fa))(D:Des K top tab)(B:Nos K blt)(J:Gis K gis)
  {f0:Addr} {ad M:Option Addr} {ab:Array (Option Value)} {ac N z U q F:Value} (a0:zb4 K zaL "law" = some (some (.ref f0))) (l0:K.lookup f0=some ⟨ac,ad,.func (zbg "law" "law" (eJ s_law) (bU s_law) (aO s_law) .none N z U M q F),ab⟩) (c0:zcq K q "law" = true) (k0:zbG K (.ref f0)=true)
  (oqNode:ObQ K "Node" "Node.__init__" (inClass (top 19) 0) CN ["part", "below", "names", "found"])
  (oqAtlas:ObQ K "Atlas" "Atlas.__init__" (inClass (top 21) 0) CA ["book", "routes", "spans"])
  (ok:∀base:Heap,K.In base->base.Ns zaL mg->Txt K mg->My.BodyOk l.prog w K mg base "law" s_law ["script", "tome", "names", "pairs", "state", "part", "sizes_v", "n", "kind", "size", "found", "number"] k (My.C3 K)) :
  ∃fd:zbe,(∀(s:zad) (v:Value),BindsTo s fd ⟨[v],[]⟩ [("script",v)])/\∀base:Heap,K.In base->base.Ns zaL mg->FnOk l.prog w K mg base wC (k+1) fa fd ["script"] (My.C3 K):=by
 have e:=Y.symm.trans (zdK X G a0);cases e;have F0:=FD (st:=s_law) l0 c0 k0;have T:Txt K mg:=⟨Des.d X G D qbS,λx hx=>PySem.W.mg_none_of X G (B x hx),Gis.d X G J,oqNode.t X G λ_ _ _ _ _ _ _ _=>rfl,oqAtlas.t X G λ_ _ _ _ _ _ _ _=>rfl⟩;refine⟨zbg "law" "law" (eJ s_law) (bU s_law) (aO s_law) .none N z U M q F,λs v=>.of_eq rfl,λbase kb nb=>?_⟩;exact(ok base kb nb T).fn F0 sc_law (λvs H Q E h=>by obtain⟨a,ns,e,_⟩:=h;rw[e];rfl)
end Law
set_option genInjectivity false in
structure PySem.W.Fast:Prop where(tw9488088005955156544 tw8594777203374833504 tw3440723141514356584 tw2857914037597773605 tw6856072230809805687 tw5483545605851627239 tw5214795185933766480 tw1947567490707440617 tw3689833934368422728 tw751154107556572782 tw5880532717494904090 tw1851704089901141035 tw4109202758424944463 tw16236721766603554288 tw9555318066640646529 tw1650412440702738630 tw14927084837920788148 tw16523770988154530007 tw11446177668338583636 tw6735785451555600734 tw1787875845923852406 tw5561634395517944192 tw4527272413778500089 tw1032292481153139180 tw1049468637386333176 tw15255840524149489117 tw13584738771673962606 tw14770903174587193554 tw14525178445788254922 tw7407385813188089429 tw5930785736064522512 tw6318018539577602046 tw2608934322589082489 tw15797259390864596780 tw8056039656221504647 tw9491971051717261469 tw13076033931189762766 tw3627097808318486725 tw10384442974435469102 tw13658961035921397427 tw14546096889202989155 tw8744282257354701106 tw12699806927775511405 tw18106992600723090531 tw15930884288541160800 tw18349494265141526334 tw16378386365124307472 tw9795320391760274790 tw14769474737020865225 tw205532072434565976 tw17503397756083681027 tw2275863270058401727 tw9512981294742545003 tw6672636108966076205 tw2816175104811123592 tw11065339081869288097 tw10262473799091832525 tw17365899012694629255 tw2646395754003594669 tw791737035943799013 tw7827531913840323156 tw7391418410965466389 tw18130671800446550835 tw4587226820394752465 tw13495933647139808779 tw11955989606434335351 tw5520710576390627673 tw6305439730740434444 tw1284172609010432610 tw10681019326083587803 tw2509035591229150894 tw8378575292398730315 tw17143619633080142593 tw1367480446935055854 tw8085248126706790307 tw10984248414563863024 tw6735968750417497824 tw10686945756437544209 tw2432141464638599643 tw6900757039916349037 tw16189759754679755392 tw11697771576480045828 tw14604057757808794017 tw4162585323376314665 tw8484165800181146034 tw378384112676251383 tw3357778208806149165 tw2023476142973954695 tw5069134423079799255 tw4486400030039782467 tw10888077899002060628 tw12106728703754859989 tw14732610944193759146 tw2851265323099911274 tw1349523957410160569 tw179785398313423221 tw13759945819634277256 tw12518775085645268846 tw5585111070908474570 tw4843661540474084590 tw9136515545740564223 tw16252831647127919888 tw14571172482764926112 tw12688517248272218880 tw5823403502086454626 tw14439225417155471613 tw4312489230941144366 tw10030866754566830107 tw14218501677942804984 tw14276219439660220082 tw9347912199946232225 tw9853712587715012116 tw7775540891306266171 tw2814342606730034360 tw17453030006536653565 tw3019749299074003173 tw1613512194281423744 tw7505512046444489020 tw17207438676931692118 tw15333199408919284952 tw10903575511269752034 tw12422024322333201271 tw10807541021835508151 tw16861781443133967574 tw6171596902958947118 tw16959712889360286064 tw2581775644189349472 tw10115316784280646742 tw6854170210203527482 tw7465349414780967928 tw9355994464380165087 tw7758472242059786166 tw7593997994175326074 tw14715764378106460275 tw8087347333420329204 tw7138789056816362613 tw12080079662205402379 tw13849486149536670912 tw8249853482631527791 tw509150128939692866 tw13514328784521957309 tw1908203536734884100 tw15406663990409212545 tw8906115650571634770 tw335654919579393975 tw108147159424067293 tw7456229820252178456 tw9629893873863524748 tw3726120115228697796 tw24882362156098415 tw12893815367150718688 tw11954258274896191868 tw11945704840915607585 tw9716426251307445342 tw15293146285525149809 tw14978705656329265939 tw3138155387158794257 tw16989775526967605602 tw16571121434539003984 tw3541180215993519607 tw15801878190399632939 tw15459123429069878547 tw15454130246623725813 tw12115511398454901486 tw7292897642418769056 tw1504413015382780723 tw4456991007092662184 tw5989876321754420634 tw1800084234515203641 tw1162248350897517482 tw13491570834161886391 tw11806458992450833674 tw17975893846541404241 tw13839967594471852312 tw15019669330695472927 tw6890493299516667209 tw16572913628761712512 tw11658962999492585533 tw568305311937543310 tw2623483592420272798 tw15918167302721694885 tw10532718675607854376 tw9595518220728326416 tw17825919049915176796 tw5205266993114425541 tw3580668130076806360 tw18137798264228034894 tw917735561023138865 tw4173688881513668517 tw6129608846335634228 tw3557711462186496657 tw15790601131257510416 tw5326563853867815802 tw7161529157159844911 tw17564662849117805782 tw2102397537740926223 tw10915071215404839038 tw16349994778893481459 tw2921583134185225785 tw9711602328897600396 tw17502232000550178078 tw5736548968991224882 tw9938247989258375655 tw9147570396131762899 tw1384376862558232835 tw5585050073191181470 tw4907885716525705295 tw5461074208085876135 tw11793758432588948072 tw6018188222823616409 tw7590114289262722237 tw955144004929264105 tw6616948347052991335 tw15189588450610597883 tw8298392688472177546 tw16501457118489176821 tw7008025838012419763 tw9757136223342854304 tw15225670844042934144 tw3663483368248842357 tw11338431823786677204 tw11009256773166383780 tw15397760706510048123 tw4536908460350390192 tw9868786002854496060 tw5607335894671111000 tw12832696612410133735 tw1217736348626871974 tw220182330360815376 tw4184809652440355368 tw7892915905400438667 tw15215974953234266917 tw9841763586861917599 tw7591490767202183270 tw5644383328728705470 tw9213007405083844003 tw255234010249859844 tw9481077311558335721 tw9627472084360759870 tw4772757070368144149 tw11921648702485581077 tw6942596991687369294 tw14844270589028475286 tw18274575791424826547 tw1128298563339467865 tw15109740666410242309 tw7894536835092348617 tw10131415975478588361 tw9436759638724721919 tw8004361443072351601 tw4142009528394876420 tw4407126221232380639 tw7356960859817324313 tw15901815452697239761 tw8527957158391170281 tw17873939328984675618 tw16383351484035036550 tw2855886230297515713 tw14265292302507900759 tw14006757370065092708 tw16067770817092103093 tw9455024663888503854 tw9014791564633736187 tw13845088020624031532 tw11814002627419767411 tw2258677982486308416 tw10045073813821528977 tw15945373583013833392 tw495400015433144167 tw15856459368739361835 tw11323558181153195484 tw11855727610329390964 tw9128890947352621218 tw12246682208920738260 tw14075014440843633376 tw18156161421675306069 tw3406255983247955859 tw6563104650925718237 tw4971639995060336826:True)
open PySem PySem.W PyProof.Rows
set_option maxRecDepth 100000 in
set_option maxHeartbeats 0 in
theorem PySem.Challenge.cw_chiefway_k45_told_and_numbered_holds : PySem.Challenge.rw_chiefway_k45_told_and_numbered.Holds := by
 w_on;o_law;k_head;(case hw=>w_witness2)
 k_fill
 refine My.walk (l:=PySem.Challenge.rw_chiefway_k45_told_and_numbered) (k:=72) (by decide) rfl rfl (λw h Y=>PySem.W.kIn_of Y) ?F
 case F=>
  intro w mg N h U G z;refine' Law.Y7 (k:=71) U G z ?D ?B ?J ?a0 ?l0 ?c0 ?k0 ?oqNode ?oqAtlas ?ok
  (case D=>unfold Law.tab;(repeat (apply P.Des.cons;(case a=>k_is);(case l=>k_is);(case c=>k_is);(case k=>k_is)));exact P.Des.nil)
  (case B=>unfold Law.blt;(repeat (apply P.Nos.cons;(case a=>k_is)));exact P.Nos.nil)
  (case J=>unfold Law.gis;(repeat (apply P.Gis.cons;(case a=>k_is)));exact P.Gis.nil)
  (case a0=>k_is)
  (case l0=>k_is)
  (case c0=>k_is)
  (case k0=>k_is)
  (case oqNode=>refine' P.obq ?a ?m1 ?m2 ?m3 ?m4 ?m5 ?m6 ?m7 ?m8 ?l ?c ?k ?n;(case a=>k_is);(case m1=>k_is);(case m2=>k_is);(case m3=>k_is);(case m4=>k_is);(case m5=>k_is);(case m6=>k_is);(case m7=>k_is);(case m8=>k_is);(case l=>k_is);(case c=>k_is);(case k=>k_is);(case n=>(repeat (apply P.Fas.cons;(case a=>k_is)));exact P.Fas.nil))
  (case oqAtlas=>refine' P.obq ?a ?m1 ?m2 ?m3 ?m4 ?m5 ?m6 ?m7 ?m8 ?l ?c ?k ?n;(case a=>k_is);(case m1=>k_is);(case m2=>k_is);(case m3=>k_is);(case m4=>k_is);(case m5=>k_is);(case m6=>k_is);(case m7=>k_is);(case m8=>k_is);(case l=>k_is);(case c=>k_is);(case k=>k_is);(case n=>(repeat (apply P.Fas.cons;(case a=>k_is)));exact P.Fas.nil))
  (case ok=>exact λbase kb nb T=>P.X5 (f:=Law.QE) (O':=[]) rfl (λN M A q s H E hr=>Law.V4.2 T N M A q s H E hr) Law.qaE)
