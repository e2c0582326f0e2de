import PyProof.Rows.All
import Wide.All
import OpenK.AllK
import Wide.FinOn
import Lean
import PyProof.EqAt
import PyProof.EqKinds
import PyProof.TupleCall
import KE.KEqDict
import KE.KRevIter
import PySem.Challenge.RW_chiefway_k62_least_prices
set_option autoImplicit true
set_option relaxedAutoImplicit true
set_option Elab.async false
set_option linter.all false
set_option maxRecDepth 100000
open PySem renaming wpAny_bind → zaa, Shared → zad, wpAny_pure → zaf, starEach → zag, Program → zah, sizeLine → zaj, Around → zao, compareOp → zaC, swapsWith → zaD, backTo → zaG, bootBuiltins → zaH, mainGlobals → zaK, binaryOp → zaM, attributeBase → zaN, wpAny_field → zaR, assignEach → za1, pyNext → za2, IsPair → za3, sysModules → za6, wpAny_mono → za7, rawInt → za9, foldedSetIterable → zba, FuncData → zbb, relabel → zbd, assign → zbf, wpAny_call_entry → zbk, wpAny_seqItems → zbr, NameKind → zbw, getItem → zbx, wpAny_setField_rec → zbA, IsEnum → zbB, wpAny_holding → zbC, codeAny → zbD, IsPart → zbG, wpAny_callSpecial?_slot → zbH, wpAny_newObj_type → zbI, sliceBounds → zbJ, wpAny_rule → zbM, behindInMarks → zbP, wpAny_pyIter_tuple → zbR, wpAny_loadPart' → zbU, Builtin → zb0, tupleKind → zb2, PassesOwn → zb5, wpAny_pyIter_list → zb6, cellsFrom → zb7, tupleKeyHash → zcf, entryOfKey → zcg, holding → zch, wpAny_passesOwn → zci, Keyword → zck, valueAt → zcn, callerA → zco, DictEntry → zcp, wpAny_isInstance → zcw, wpAny_truthy_bool → zcx, mem_of_lookup → zcz, wpAny_typeOf → zcA, wpAny_attempt → zcE, wpAny_specialOf → zcM, wpAny_forIn_list → zcN, sizeLine_eq → zcQ, call_meets → zcT, wpAny_execs_nil → zc6, wpAny_standAt → zc7, swapsWithSole → zc8, swappedStores → zc9, letOwnedTupleGo → zda, codeAny_mono → zdg, wpAny_Call_Name_kw → zdh, subscripted → zdn, wpAny_typeNameOfWhole_keyiter → zds, wpAny_typeNameOf_keyiter → zdt, wpAny_setField → zdu, firstArgMember → zdx, wpAny_onRaise → zdA, wpAny_letGo → zdB, getattributeRaised → zdI, wpAny_tupleItemsOf → zdP, isSubtype_tuple_tuple → zdR, noFill_tuple_add → zd1, tupleKind_room_in1 → zea, wpAny_dictEntries → zec, wpAny_dictEpoch → zed, wpAny_updateSeq_pair → zeg
open Option renaming map_some → zab, bind_some → zac, bind → zcG
open PySem.W renaming Frag → zae, fnOf → zbh, kia_one → zbl, findIn → zbu, keepIn → zbE, emptyDict → zbS, nsIn → zbY, instObj → zb3, codeIn → zcm, plainGet → zdb, hasDictIn → zdc, kitOne → zde, kitx_dict → zdf, mg_of → zdK, methodObj → zdS, plainOver → zdV, takerIn → zdW, makesIn → zdX, OpenLaw → zeb
open Nat renaming le_refl → zai, ne_of_lt → zaF, zero_le → zaI, le_trans → zaL, zero_add → zaO, lt_of_lt_of_le → zaX, ne_of_gt → zbt, lt_irrefl → zb4, le_of_ble_eq_true → zcr, lt_of_le_of_lt → zcU, lt_succ_self → zdd
open List renaming map_cons → zak, length_map → zal, range → zam, mem_cons_of_mem → zaq, map_map → zar, mem_cons_self → zas, mem_of_getElem? → zaw, size_toArray → zax, length_cons → zaz, getElem?_map → zaB, map_append → zaP, getElem?_eq_getElem → zaS, mem_append_right → zaV, mem_cons → zaW, not_mem_nil → za0, length_append → zbc, sum_cons → zbe, length → zbm, mem_append_left → zbs, append_nil → zbv, find?_cons → zby, length_nil → zbF, getElem?_set_ne → zbO, lookup_cons → zbW, take_length → zbX, take_of_length_le → zbZ, length_take → zb8, any_cons → zb9, lookup → zcj, replicate → zcl, length_range → zcq, foldl_cons → zcs, take_succ_cons → zct, getElem?_of_mem → zcu, getElem?_set_self → zcy, map_nil → zcB, filter_cons → zcC, length_set → zcS, getElem?_range → zcW, drop_eq_getElem_cons → zcX, take_add_one → zcZ, forall_mem_cons → zc0, length_filter_le → zc1, getD_eq_getElem?_getD → zc3, take_succ → zc5, getElem?_append_right → zdi, take_sublist → zdj, replicate_succ → zdo, flatten_cons → zdp, drop_length → zdE, cons_append → zdL, foldl_nil → zdN, filterMap_cons → zdT, getElem_inj → zdU, of_mem_zip → zdY, getElem?_append_left → zdZ, zip_cons_cons → zd0, length_drop → zd6, reverse_cons → zd8, forIn_cons → zef, pairwise_map → zeh, getElem_mem → zei, nodup_append → zel, map_eq_nil_iff → zen, take_sublist_take_left → zet, idxOf_lt_length_of_mem → zew
open PySem.Heap renaming get?_push_of_some → zan, lt_size → zap, get?_push_size → zaE, SameBut → za4, size_push → zbT, IsTuple → zcV, IsList → zdD, get?_update_self → zd7
open Int renaming emod_nonneg → zat, emod_lt_of_pos → zav, ne_of_gt → zaT, zero_add → zbo, toNat_natCast → zbz, le_refl → zbL, le_trans → zcI, mul_nonneg → zcY, add_assoc → zc4, mul_assoc → zdM, lt_of_lt_of_le → zem, mul_le_mul_of_nonneg_right → zeu
open PySem.Value renaming ref → zau, none → za5, int → zcv, str → zcJ, bool → zcK
open Option.some renaming inj → zay
open Bool renaming false_ne_true → zaA, and_eq_true → zaQ, false_eq_true → zbq, not_true → zb1, eq_iff_iff → zcO, not_eq_true → zdF, or_eq_true → zdG
open PyProof.Rows renaming envOfC → zaJ, kindOf → zbg, IntsAre → zbi, AllBare → zbN, callWith_type1 → zcP, slot_tuple_getitem → zdl
open Ne renaming symm → zaU
open True renaming intro → zaY
open Or renaming inl → zaZ, inr → zbK
open False renaming elim → za8
open PySem.Str renaming ofString → zbj, join → zcH
open PySem.NameKind renaming free → zbn
open Sum renaming inl → zbp, inr → zcd
open Array renaming length_toList → zbQ, forIn_toList → zdQ, getElem?_toList → zee
open PySem.Shared renaming heap → zbV
open PySem.Builtin.SmallTypes renaming nextOf → zca, ownedTupleIsFree → zcF, ownedTupleHandOut → zdC
open Classical renaming propDecidable → zcb
open Eq renaming trans → zcc
open PySem.Builtin.Tuple renaming tupleHashOf → zce, tupleExact → zdm, tupleItemsOf → zdO
open ForInStep renaming yield → zcD
open PySem.Paired renaming length → zcL
open PySem.Obj renaming mapSeq → zcR, data_mapFields → zdv
open Subtype renaming val → zc2
open PySem.Builtin.Slice renaming slicePlaces → zdk, sliceAdjust → zd5
open List.Pairwise renaming nil → zdq
open PySem.F renaming slot_dict_keyiterator_next → zdr, slot_tuple_iterator_next → zdy, slot_zip_next → zdz, slot_enumerate_next → zdH, plainAttrs_list → zdJ, slot_tuple_add → zd2, entry_tuple_add → zd3, args_tuple_add_2 → zd4, entry_dict_keyiterator_next → zeo, args_dict_keyiterator_next_1 → zep, entry_tuple_iterator_next → zer, args_tuple_iterator_next_1 → zes
open PySem.Heap.SameBut renaming update → zdw
open PySem.Builtin.List renaming listTooLong → zd9
open PySem.PassesOwn renaming never → zej
open List.cons renaming injEq → zek
open PySem.Builtin.Dict_items renaming ownsTuple → zeq
noncomputable section
namespace L2
open PySem PySem.Spec PyProof.Rows
abbrev Key:=Sum Int Str
def vX:Key->Value->Bool
 | .inl k,v=>Value.isInt k v
 | .inr x,v=>Value.isStrOf x v
def qaF(w:World):Key->Int
 | .inl k=>hashInt k
 | .inr x=>hashStr w x
theorem cK:∀ {k:Key} {v:Value},vX k v=true->(∃i t,k=zbp i/\v=zcv i t)\/(∃x t,k=zcd x/\v=zcJ x t)
 | .inl i,v,h=>by
  obtain⟨t,e⟩:=Value.isInt_shape (k:=i) (v:=v) h;exact .inl ⟨i,t,rfl,e⟩
 | .inr x,v,h=>by
  obtain⟨t,e⟩:=Value.isStrOf_shape (x:=x) (v:=v) h;exact .inr ⟨x,t,rfl,e⟩
theorem IM(i:Int)(t:Tok):vX (.inl i) (.int i t)=true:=by simp[vX,Value.isInt]
theorem GY(x:Str)(t:Tok):vX (.inr x) (.str x t)=true:=by simp[vX,Value.isStrOf]
theorem UE(a b:Int):decide ((zbp a:Key)=zbp b)=(a == b):=by
 by_cases e:a=b
 ·subst e;simp
 ·have h:¬ (zbp a:Key)=zbp b:=λq=>e (Sum.inl.inj q)
  rw[decide_eq_false h];exact(beq_eq_false_iff_ne.mpr e).symm
theorem UM(a b:Str):decide ((zcd a:Key)=zcd b)=decide (a=b):=by
 by_cases e:a=b
 ·subst e;simp
 ·have h:¬ (zcd a:Key)=zcd b:=λq=>e (Sum.inr.inj q)
  rw[decide_eq_false h,decide_eq_false e]
theorem WL(a:Int)(b:Str):decide ((zbp a:Key)=zcd b)=false:=decide_eq_false (λq=>nomatch q)
theorem VE(a:Str)(b:Int):decide ((zcd a:Key)=zbp b)=false:=decide_eq_false (λq=>nomatch q)
def bC(prog:zah)(w:World):PySem.KeyKind prog w Key where
 is:=vX
 hash:=qaF w
 inj:=λv a b F z=>by
  rcases cK F with⟨i,t,rfl,rfl⟩|⟨x,t,rfl,rfl⟩
  ·rcases cK z with⟨j,u,rfl,e⟩|⟨y,u,rfl,e⟩
   ·injection e with e1 _;rw[e1]
   ·exact nomatch e
  ·rcases cK z with⟨j,u,rfl,e⟩|⟨y,u,rfl,e⟩
   ·exact nomatch e
   ·injection e with e1 _;rw[e1]
 byValue:=λk v h=>by
  rcases cK h with⟨i,t,rfl,rfl⟩|⟨x,t,rfl,rfl⟩ <;> rfl
 pyHash:=λq h=>by
  rcases cK q with⟨i,t,rfl,rfl⟩|⟨x,t,rfl,rfl⟩
  ·exact wpAny_pyHash_int h
  ·exact wpAny_pyHash_str h
 eqBool:=λB q h=>by
  rcases cK B with⟨i,t,rfl,rfl⟩|⟨x,t,rfl,rfl⟩
  ·rcases cK q with⟨j,u,rfl,rfl⟩|⟨y,u,rfl,rfl⟩
   ·rw[UE]at h;exact wpAny_eqBool_int h
   ·rw[WL]at h;exact SeqAt.EqAt.int_str i t y u _ _ _ _ h
  ·rcases cK q with⟨j,u,rfl,rfl⟩|⟨y,u,rfl,rfl⟩
   ·rw[VE]at h;exact SeqAt.EqAt.str_int x t j u _ _ _ _ h
   ·rw[UM]at h;exact wpAny_eqBool_str h
 «strs»:=λk x t v h=>by
  rcases cK h with⟨i,u,rfl,e⟩|⟨y,u,rfl,e⟩
  ·exact nomatch e
  ·injection e with e1 _
   subst e1;cases v <;> rfl
theorem yO(prog:zah)(w:World)(i:Int)(t:Tok):(bC prog w).is (.inl i) (.int i t)=true:=IM i t
theorem yR(prog:zah)(w:World)(x:Str)(t:Tok):(bC prog w).is (.inr x) (.str x t)=true:=GY x t
inductive V where
 | non|bl (b:Bool)|int (i:Int)|str (x:Str)|byt (b:Array UInt8)|flt (b:UInt64)|ref (a:Addr)|ty (n:String)
 deriving DecidableEq
noncomputable def RelV:V->Value->Prop
 | .non,u=>u=za5
 | .bl b,u=>u=zcK b
 | .int i,u=>∃t,u=zcv i t
 | .str x,u=>∃t,u=zcJ x t
 | .byt b,u=>∃t,u=Value.bytes b t
 | .flt b,u=>∃t,u=Value.float b t
 | .ref a,u=>u=zau a
 | .ty n,u=>u=Value.type n
abbrev Vals:List V->List Value->Prop:=Paired RelV
theorem Vals.length(r:Vals xs us):xs.length=us.length:=zcL r
theorem Vals.get:∀ {xs:List V} {us:List Value} {i:Nat} {x:V},Vals xs us->xs[i]?=some x->∃u,us[i]?=some u/\RelV x u
 | _,_,_,_,.nil,e=>by simp at e
 | _,_,0,_,.cons r _,e=>by simp at e;subst e;exact⟨_,rfl,r⟩
 | _,_,i+1,x,.cons _ t,e=>by
  obtain⟨u,h1,h2⟩:=Vals.get (i:=i) (x:=x) t (by simpa using e);exact⟨u,by simpa using h1,h2⟩
theorem Vals.set(r:RelV x u):∀ {xs:List V} {us:List Value} (i:Nat),Vals xs us->Vals (xs.set i x) (us.set i u)
 | _,_,_,.nil=>.nil
 | _,_,0,.cons _ t=>.cons r t
 | _,_,i+1,.cons q t=>.cons q (Vals.set r i t)
theorem Vals.append:∀ {xs ys:List V} {us ws:List Value},Vals xs us->Vals ys ws->Vals (xs++ys) (us++ws)
 | _,_,_,_,.nil,s=>s
 | _,_,_,_,.cons r t,s=>.cons r (Vals.append t s)
theorem Vals.take:∀ {xs:List V} {us:List Value} (n:Nat),Vals xs us->Vals (xs.take n) (us.take n)
 | _,_,0,_=>.nil
 | _,_,_+1,.nil=>.nil
 | _,_,n+1,.cons r t=>.cons r (Vals.take n t)
theorem Vals.drop:∀ {xs:List V} {us:List Value} (n:Nat),Vals xs us->Vals (xs.drop n) (us.drop n)
 | _,_,0,r=>r
 | _,_,_+1,.nil=>.nil
 | _,_,n+1,.cons _ t=>Vals.drop n t
def RelO:Option V->Option Value->Prop
 | some v,some u=>RelV v u
 | none,none=>True
 | _,_=>False
def KV{κ:Type}:List (κ×V)->List (κ×Value)->Prop:=Paired λ(p:κ×V) (q:κ×Value)=>p.1=q.1/\RelV p.2 q.2
def kV:Key->V
 | .inl i=>.int i
 | .inr x=>.str x
section
variable {prog:zah}{w:World}{K:Type}[DecidableEq K](knd:KeyKind prog w K)
def NestIs(h:Heap)(k:K×List K)(a:Addr):Prop:=∃o n v b,h.get? a=some o/\o.cls=.type "tuple" /\ o.data=.seq #[v,.ref b] n/\knd.is k.1 v=true/\IsTupleKey knd h k.2 b
noncomputable def rZ(k:K×List K):Int:=reduceHash (zce [knd.hash k.1,zcf knd k.2])
variable {knd}{A:zao}{E:Value->zad->Prop}{s:zad}
theorem NestIs.typeIs{k:K×List K}{a:Addr}(x:NestIs knd s.heap k a):s.TypeIs (.ref a) "tuple" := let ⟨o,_,_,_,ho,hc,_⟩:=x;⟨o,ho,hc⟩
theorem NestIs.inj{h:Heap}{a:Addr}{x y:K×List K}(hx:NestIs knd h x a)(G:NestIs knd h y a):x=y:=by
 obtain⟨o,n,v,b,M,_,hd,hi,J⟩:=hx;obtain⟨o',N,U,W,B,_,q,z,F⟩:=G;obtain rfl:o=o':=zay (M.symm.trans B);rw[hd]at q;injection q with h1 _
 simp at h1;obtain⟨rfl,rfl⟩:=h1;exact Prod.ext (knd.inj _ _ _ hi z) (J.inj F)
theorem NestIs.keeps{h h':Heap}{k:K×List K}{a d:Addr}{o:Obj}{es ep}(x:NestIs knd h k a)(F:h.get? d=some o)(hd:o.data=.dict es ep)(hs:za4 d h h'):NestIs knd h' k a:=by
 obtain⟨o',n,v,b,z,G,q,hi,J⟩:=x;have B:a≠d:=by
  rintro rfl;obtain rfl:o'=o:=zay (z.symm.trans F);rw[hd]at q;exact nomatch q
 exact⟨o',n,v,b,(hs.2 a B).trans z,G,q,hi,J.keeps F hd hs⟩
theorem GS{k:K×List K}{a:Addr}{Q:Int->zad->Prop}(B:A.units+1<cLine)(z:NestIs knd s.heap k a)(h:Q (rZ knd k) {s with toks:=s.toks+(k.2.length+3)}) :
  wpAny (model prog w) A (pyHash (.ref a)) Q E s:=by
 have hT:=z.typeIs;obtain⟨o,n,v,b,J,_,hd,hi,G⟩:=z;unfold pyHash
 first|unfold pyHashByItsType|skip
 first|refine zaa (wpAny_cRoomFor_or (.inr (by lia)) ?_)|skip
 refine zaa (zcM hT F.slot_tuple_hash.lookup ?_);show wpAny _ _ (if(some (Value.builtin "tuple.__hash__") == some za5)=true then _ else _) Q E s;rw[if_neg (by rw[beq_builtin_none];exact zaA)];refine zaa (zcM hT F.slot_tuple_hash.lookup ?_);show wpAny _ _ (callSpecialIfBoundUnlessNone? (.ref a) "__hash__" _ >>= _) Q E s;refine zaa (wpAny_callSpecialIfBoundUnlessNone?_slot hT F.slot_tuple_hash (zbk F.slot_tuple_hash hT F.entry_tuple_hash ?_ (F.args_tuple_hash_1 _)));show wpAny _ _ (zdO (.ref a) >>= _) _ _ s;refine zaa (zdP J hd ?_);refine zaa ?_;rw[<- zdQ];refine zcN _
  (λrest (c:Array Int) s'=>(rest=[v,.ref b]/\c=#[]/\s'=s)\/(rest=[.ref b]/\c=#[knd.hash k.1]/\s'={s with toks:=s.toks+1})\/(rest=[]/\c=#[knd.hash k.1,zcf knd k.2]/\s'={s with toks:=s.toks+(k.2.length+2)}))
  _ ?_ ?_ _ _ (.inl ⟨rfl,rfl,rfl⟩)
 ·rintro x rest c s' (⟨e,rfl,rfl⟩|⟨e,rfl,rfl⟩|⟨e,_⟩)
  ·cases e
   refine zaa (knd.pyHash hi ?_)
   first
    | exact zaf (.inr (.inl ⟨rfl,rfl,rfl⟩))
    | exact zaa (zaf (zaf (.inr (.inl ⟨rfl,rfl,rfl⟩))))
  ·cases e
   refine zaa (wpAny_pyHash_tuple (knd:=knd) (ks:=k.2) ?_ G ?_)
   ·exact B
   ·have e:({s with toks:=s.toks+1+(k.2.length+1)}:zad)={s with toks:=s.toks+(k.2.length+2)}:=by congr 1;lia
    show wpAny _ _ _ _ _ {s with toks:=s.toks+1+(k.2.length+1)};rw[e]
    first
     | exact zaf (.inr (.inr ⟨rfl,rfl,rfl⟩))
     | exact zaa (zaf (zaf (.inr (.inr ⟨rfl,rfl,rfl⟩))))
  ·cases e
 ·rintro c s' (⟨e,_⟩|⟨e,_⟩|⟨e,rfl,rfl⟩)
  ·cases e
  ·cases e
  show wpAny _ _ (retInt (zce [knd.hash k.1,zcf knd k.2])) _ _ _;refine wpAny_ret_mkInt ?_;show wpAny _ _ (if(decide (-(2:Int)^63<=zce [knd.hash k.1,zcf knd k.2]) && decide (zce [knd.hash k.1,zcf knd k.2]<2^63))=true then _ else _) Q E _;unfold rZ reduceHash at h;by_cases q:(decide (-(2:Int)^63<=zce [knd.hash k.1,zcf knd k.2]) && decide (zce [knd.hash k.1,zcf knd k.2]<2^63))=true
  ·rw[if_pos q]
   rw[if_pos q]at h;exact zaf (by simpa[Nat.add_assoc]using h)
  ·rw[if_neg q]
   rw[if_neg q]at h;exact zaa (zbM (zaf (by simpa[Nat.add_assoc]using h)))
theorem wB{x y:K×List K}{a b:Addr}{P:Fin->zad->Prop}(hu:A.units<cLine)(hx:NestIs knd s.heap x a)(hy:NestIs knd s.heap y b)(h:P (.done (.ret (.bool (decide (x=y))))) s) :
  wpAny (model prog w) A (zb0.«tuple.__eq__» ⟨[.ref a,.ref b],[]⟩) P E s:=by
 have B:=hy.typeIs;obtain⟨oa,na,va,ba,N,_,z,U,aa⟩:=hx;obtain⟨ob,nb,vb,bb,M,_,G,J,Y⟩:=hy;show wpAny _ _ (isInstance (.ref b) (.type "tuple") >>= _) _ _ s;refine zaa (zcw B zdR ?_);simp only[zb1,zbq,if_false];refine zaa (zdP N z ?_);refine zaa (zdP M G ?_);refine zaa ?_;have ex:decide (x=y)=(decide (x.1=y.1) && decide (x.2=y.2)):=by
  rw[zcO,decide_eq_true_iff,zaQ,decide_eq_true_iff,decide_eq_true_iff];exact⟨λe=>by rw[e];exact⟨rfl,rfl⟩,λe=>Prod.ext e.1 e.2⟩
 rw[ex]at h;refine zcN _
  (λrest r s'=>r.1=none/\s'=s/\(rest=[(va,vb),(.ref ba,.ref bb)]\/(rest=[(.ref ba,.ref bb)]/\x.1=y.1)\/(rest=[]/\x.1=y.1/\x.2=y.2)))
  _ ?_ ?_ _ _ ⟨rfl,rfl,.inl rfl⟩
 ·rintro⟨u,v⟩ rest r s' ⟨F,rfl,e|⟨e,W⟩|⟨e,_⟩⟩
  ·cases e
   refine zaa (knd.eqBool (a:=x.1) (b:=y.1) U J ?_);by_cases q:x.1=y.1
   ·rw[decide_eq_true q]
    simp only[zb1,zbq,if_false];exact zaf ⟨rfl,rfl,.inr (.inl ⟨trivial,q⟩)⟩
   ·rw[decide_eq_false q]at h ⊢
    simp only[Bool.not_false,if_true];exact zaa (zaf (zaf (zaf h)))
  ·cases e
   refine zaa (wpAny_eqBool_tuple (knd:=knd) hu aa Y ?_);by_cases q:x.2=y.2
   ·rw[decide_eq_true q]
    simp only[zb1,zbq,if_false];exact zaf ⟨rfl,rfl,.inr (.inr ⟨trivial,W,q⟩)⟩
   ·rw[decide_eq_false q,Bool.and_false]at h
    rw[decide_eq_false q];simp only[Bool.not_false,if_true];exact zaa (zaf (zaf (zaf h)))
  ·cases e
 ·rintro⟨r1,r2⟩ s' ⟨F,rfl,e|⟨e,_⟩|⟨_,W,e2⟩⟩
  ·cases e
  ·cases e
  simp only at F;subst F;refine zaf ?_;rw[decide_eq_true W,decide_eq_true e2]at h;exact h
theorem P9{x y:K×List K}{a b:Addr}{Q:Bool->zad->Prop}(B:A.units+1<cLine)(hx:NestIs knd s.heap x a)(z:NestIs knd s.heap y b)(h:Q (decide (x=y)) s) :
  wpAny (model prog w) A (eqBool (.ref a) (.ref b)) Q E s:=by
 unfold eqBool
 try with_reducible refine zbC ?_
 show wpAny _ _ (if(zau a == zau b)=true then _ else _) Q E s;by_cases q:(zau a == zau b)=true
 ·rw[if_pos q]
  have e:a=b:=by have:=eq_of_beq q;injection this
  subst e;obtain rfl:=hx.inj z;exact zaa (zbM (zaf (by simpa using h)))
 ·rw[if_neg q]
  exact zaa (wpAny_richCompare_same_room (op:=.Eq) hx.typeIs z.typeIs F.slot_tuple_eq
   (zbk F.slot_tuple_eq hx.typeIs F.entry_tuple_eq (wB (show A.in1.units<cLine from B) hx z ⟨_,rfl,(λe=>nomatch e),zcx h⟩) (F.args_tuple_eq_2 _ _)) (by lia))
theorem IB(n:Nat){ks:List K}{a:Addr}{Q:Bool->zad->Prop}(G:IsTupleKey knd s.heap ks a)(h:Q true s):wpAny (model prog w) A (eqIsQuiet (n+1) (.ref a)) Q E s:=by
 have hT:=G.typeIs;obtain⟨o,items,m,J,_,hd,hi⟩:=G;unfold eqIsQuiet;refine zaa (zcM hT F.slot_tuple_eq.lookup ?_);show wpAny _ _ (isInstance (.ref a) (.type "tuple") >>= _) _ _ s;refine zaa (zcw hT zdR ?_);simp only[zb1,zbq,if_false];refine zaa (zbr J hd ?_);refine zaa ?_;show wpAny _ _ (forIn items _ _) _ _ s;rw[<- zdQ];refine zcN _ (λrest r s'=>r.1=none/\s'=s/\∀v∈rest,carriedByValue v=true) _ ?_ ?_ _ _ ⟨rfl,rfl,hi.byValue⟩
 ·rintro v rest r s' ⟨z,rfl,q⟩
  rw[eqIsQuiet_byValue _ (q v zas)];refine zaa (zaf ?_);simp only[zb1,zbq,if_false];exact zaf ⟨rfl,rfl,λu B=>q u (zaq _ B)⟩
 ·rintro⟨r1,r2⟩ s' ⟨z,rfl,_⟩
  simp only at z;subst z;exact zaf h
theorem B2{k:K×List K}{a:Addr}{Q:Bool->zad->Prop}(z:NestIs knd s.heap k a)(h:Q true s):wpAny (model prog w) A (eqIsQuiet 8 (.ref a)) Q E s:=by
 have hT:=z.typeIs;obtain⟨o,m,v,b,G,_,hd,hi,B⟩:=z;unfold eqIsQuiet;refine zaa (zcM hT F.slot_tuple_eq.lookup ?_);show wpAny _ _ (isInstance (.ref a) (.type "tuple") >>= _) _ _ s;refine zaa (zcw hT zdR ?_);simp only[zb1,zbq,if_false];refine zaa (zbr G hd ?_);refine zaa ?_;show wpAny _ _ (forIn _ _ _) _ _ s;rw[<- zdQ];refine zcN _ (λrest r s'=>r.1=none/\s'=s/\(rest=[v,.ref b]\/rest=[.ref b]\/rest=[])) _ ?_ ?_ _ _ ⟨rfl,rfl,.inl rfl⟩
 ·rintro u rest r s' ⟨q,rfl,e|e|e⟩
  ·cases e
   rw[eqIsQuiet_byValue _ (knd.byValue _ _ hi)];refine zaa (zaf ?_);simp only[zb1,zbq,if_false];exact zaf ⟨rfl,rfl,.inr (.inl trivial)⟩
  ·cases e
   refine zaa (IB _ B ?_);simp only[zb1,zbq,if_false];exact zaf ⟨rfl,rfl,.inr (.inr trivial)⟩
  ·cases e
 ·rintro⟨r1,r2⟩ s' ⟨q,rfl,_⟩
  simp only at q;subst q;exact zaf h
end
def cY{prog:zah}{w:World}{K:Type}[DecidableEq K](knd:KeyKind prog w K):HeapKind prog w (K×List K) where
 is:=NestIs knd
 hash:=rZ knd
 draws:=λk=>k.2.length+3
 room:=λA=>A.units+1<cLine
 inj:=λhx z=>hx.inj z
 keeps:=λx F hd hs=>x.keeps F hd hs
 pyHash:=λq B h=>GS q B h
 eqBool:=λq hx z h=>P9 q hx z h
 quiet:=λB h=>B2 B h
inductive HO where
 | memo (dom:List (Key×List Key)) (f:Key×List Key->Option (Int×Int)) (p:Option (Key×List Key))
 /-- a list -/
 | lst (xs:List V)
 /-- a tuple (never changes) -/
 | tup (xs:List V)
 /-- a dict whose keys are ints and texts;one whose keys are tuples of ints and texts (the empty one is both) -/
 | dK (kvs:List (Key×V))|dT (kvs:List (List Key×V))
 /-- a set of ints: its members, its size -/
 | set (S:Int->Bool) (n:Nat)
 /-- an instance of the class at C, its dict at dx, its attributes -/
 | ins (C dx:Addr) (fs:List (Str×V))
 /-- the dict of the instance at x -/
 | own (x:Addr)
 /-- the dict of an exception -/
 | xd (fs:List (Str×V))
 /-- a bound method, f of x -/
 | met (f x:Addr)
 /-- a range object lo, lo+1, .. below hi -/
 | rng (lo hi:Int)
 /-- a thing that is known to the object (the script;a dict while a loop walks it): read, never written while it is so -/
 | frz (o:Obj) (u:HO)
 /-- a code object's table -/
 | tbl (ps:Array Value)
 /-- any other thing, by what is true of its one object (a def of one's own: SetO a S n:=HO.ext λh => ..) -/
 | ext (φ:Heap->Prop)
abbrev Hp:=Addr->Option HO
def upd(H:Hp)(a:Addr)(o:HO):Hp:=λb=>if b=a then some o else H b
def MemV(H:Hp):Option (Int×Int)->Value->Prop
 | none,v=>v=.none
 | some p,v=>∃b,v=.ref b/\H b=some (.tup [.int p.1,.int p.2])
theorem aH:upd H a o a=some o:=by unfold upd;rw[if_pos rfl]
theorem aE(h:b≠a):upd H a o b=H b:=by unfold upd;rw[if_neg h]
theorem PY:upd (upd H a o) a u=upd H a u:=by
 funext b;unfold upd;split <;> rfl
theorem t5{H:Hp}{a b:Addr}{o u:HO}(h:H a=some o)(h':H b=some u)(d:o≠u):a≠b:=by
 intro e;subst e;rw[h]at h';exact d (zay h')
theorem bE{H:Hp}{a b:Addr}{o:HO}(h:H a=some o)(h':H b=none):a≠b:=by
 intro e;subst e;rw[h]at h';cases h'
section
variable (P:zah)(w:World)
def IsTupN(h:Heap)(a:Addr)(items:Array Value):Prop:=∃o,h.get? a=some o/\o.cls=.type "tuple" /\ ∃n,o.data=.seq items n/\o.dict=none
theorem IsTupN.tup{h:Heap}{a:Addr}{items:Array Value}(x:IsTupN h a items):IsTup h a items:=let ⟨o,e,c,n,d,_⟩:=x;⟨o,e,c,n,d⟩
theorem IsTupN.lt(x:IsTupN h a items):a<h.objs.size:=x.tup.lt
theorem IsTupN.new(h:Heap)(items:Array Value):IsTupN (h.push {cls:=.type "tuple",data:=.seq items}) h.objs.size items:=⟨_,zaE _ rfl,rfl,_,rfl,rfl⟩
def ObjOk(H:Hp)(h:Heap)(a:Addr):HO->Prop
 | .lst xs=>xs.length<=zaj/\∃(its:List Value) (n:Nat),Vals xs its/\h.get? a=some {cls:=.type "list",data:=.seq its.toArray n}
 | .tup xs=>xs.length<=zaj/\∃its:List Value,Vals xs its/\IsTupN h a its.toArray
 | .dK kvs=>kvs.length<=zaj/\(a == za6)=false/\∃vs,KV kvs vs/\h.DictOf (bC P w) a vs
 | .dT kvs=>kvs.length<=zaj/\(a == za6)=false/\∃xs:List (List Key×Addr×Value),
   Paired (λ(p:List Key×V) (q:List Key×Addr×Value)=>p.1=q.1/\H q.2.1=some (.tup (p.1.map kV))/\RelV p.2 q.2.2) kvs xs /\
   ∃o es ep,h.get? a=some o/\o.ExactDict/\o.data=.dict es ep/\es.toList=xs.map (zcg (zb2 (bC P w)))/\(xs.map (·.1)).Nodup
 | .set S n=>h.SetOf (intKind P w) a S n
 | .memo dom f p=>(a == za6)=false/\∃xs:List ((Key×List Key)×Addr×Value),(∀x∈xs,x.1∈dom/\(∃b,H x.2.1=some (.tup [kV x.1.1,.ref b])/\H b=some (.tup (x.1.2.map kV)))/\MemV H (f x.1) x.2.2)/\(∀k,p=some k->∃q,atKey xs k=some q) /\
   ∃o es ep,h.get? a=some o/\o.ExactDict/\o.data=.dict es ep/\es.toList=xs.map (zcg (cY (bC P w)))/\(xs.map (·.1)).Nodup
 | .ins C dx fs=>H dx=some (.own a)/\fs.length<=1000/\dx≠a/\h.get? a=some (zb3 C dx) /\
   ∃mA,h.Ns1 dx mA/\(∀f,RelO (fs.lookup f) (mA f))/\PySem.Within mA (fs.map (·.1))
 | .own _=>∃o,h.get? a=some o
 | .xd fs=>∃mA,h.Ns1 a mA/\∀f,RelO (fs.lookup f) (mA f)
 | .rng lo hi=>∃t u v,h.get? a=some {cls:=.type "range",data:=.fields #[.int lo t,.int hi u,.int 1 v]}
 | .frz o u=>h.get? a=some o/\ObjOk H h a u
 | .tbl ps=>h.get? a=some {cls:=.none,data:=.fields ps}
 | .met f x=>h.get? a=some (zdS (.ref f) (.ref x))
 | .ext φ=>φ h/\(∃o,h.get? a=some o)/\∀h1 h2:Heap,φ h1->(∀o,h1.get? a=some o->h2.get? a=some o)->φ h2
def HOk(H:Hp)(h:Heap):Prop:=∀a o,H a=some o->ObjOk P w H h a o
end
section
variable {P:zah}{w:World}{H H':Hp}{h h':Heap}{a:Addr}{o:HO}
theorem ObjOk.lt(x:ObjOk P w H h a o):a<h.objs.size:=by
 cases o with
 | lst xs=>obtain⟨_,_,_,_,e⟩:=x;exact zap e
 | tup xs=>obtain⟨_,_,_,p⟩:=x;exact p.lt
 | dK kvs=>obtain⟨_,_,_,_,o,_,_,e,_⟩:=x;exact zap e
 | dT kvs=>obtain⟨_,_,_,_,o,_,_,e,_⟩:=x;exact zap e
 | set S n=>obtain⟨o,_,_,_,e,_⟩:=x;exact zap e
 | memo dom f p=>obtain⟨_,_,_,_,o,_,_,e,_⟩:=x;exact zap e
 | ins C dx fs=>obtain⟨_,_,_,e,_⟩:=x;exact zap e
 | own y=>obtain⟨_,e⟩:=x;exact zap e
 | xd fs=>obtain⟨_,⟨_,_,_,e,_⟩,_⟩:=x;exact zap e
 | rng lo hi=>obtain⟨_,_,_,e⟩:=x;exact zap e
 | frz ob u=>obtain⟨e,_⟩:=x;exact zap e
 | tbl ps=>exact zap (show h.get? a=some _ from x)
 | met f y=>exact zap (show h.get? a=some _ from x)
 | ext φ=>obtain⟨_,⟨_,e⟩,_⟩:=x;exact zap e
theorem Paired.mapP{q β:Type}{F G:q->β->Prop}:∀ {l₁:List q} {l₂:List β},Paired F l₁ l₂->(∀a b,F a b->G a b)->Paired G l₁ l₂
 | _,_,.nil,_=>.nil
 | _,_,.cons r t,f=>.cons (f _ _ r) (Paired.mapP t f)
theorem ObjOk.stay(x:ObjOk P w H h a o)(k:∀b u,(b=a\/H b=some (.own a))->h.get? b=some u->h'.get? b=some u)
  (M:∀b,H b=some (.own a)->H' b=some (.own a)) (G:∀b xs,H b=some (.tup xs)->H' b=some (.tup xs)):ObjOk P w H' h' a o:=by
 induction o with
 | lst xs=>obtain⟨z,F,n,r,e⟩:=x;exact⟨z,F,n,r,k _ _ (.inl rfl) e⟩
 | tup xs=>obtain⟨z,F,r,B,e,c⟩:=x;exact⟨z,F,r,B,k _ _ (.inl rfl) e,c⟩
 | dK kvs=>obtain⟨z,y,vs,r,B,es,ep,e,c⟩:=x;exact⟨z,y,vs,r,B,es,ep,k _ _ (.inl rfl) e,c⟩
 | dT kvs=>
  obtain⟨z,y,xs,r,B,es,ep,e,c⟩:=x;exact⟨z,y,xs,Paired.mapP r λp q z=>⟨z.1,G _ _ z.2.1,z.2.2⟩,B,es,ep,k _ _ (.inl rfl) e,c⟩
 | set S n=>obtain⟨B,es,ep,t,e,c⟩:=x;exact⟨B,es,ep,t,k _ _ (.inl rfl) e,c⟩
 | memo dom f p=>
  obtain⟨y,xs,r,U,B,es,ep,e,c⟩:=x;refine⟨y,xs,λx hx=>?_,U,B,es,ep,k _ _ (.inl rfl) e,c⟩;obtain⟨d,⟨b,Y,W⟩,m⟩:=r x hx;refine⟨d,⟨b,G _ _ Y,G _ _ W⟩,?_⟩;revert m;cases f x.1 with
  | none=>exact id
  | some p=>exact λ⟨c,e1,J⟩=>⟨c,e1,G _ _ J⟩
 | ins C dx fs=>
  obtain⟨d,z,N,e,mA,⟨od,es,ep,J,c⟩,r⟩:=x;exact⟨M _ d,z,N,k _ _ (.inl rfl) e,mA,⟨od,es,ep,k _ _ (.inr d) J,c⟩,r⟩
 | own y=>obtain⟨B,e⟩:=x;exact⟨B,k _ _ (.inl rfl) e⟩
 | xd fs=>obtain⟨mA,⟨od,es,ep,e,c⟩,r⟩:=x;exact⟨mA,⟨od,es,ep,k _ _ (.inl rfl) e,c⟩,r⟩
 | rng lo hi=>obtain⟨t,u,v,e⟩:=x;exact⟨t,u,v,k _ _ (.inl rfl) e⟩
 | frz B u ih=>obtain⟨e,q⟩:=x;exact⟨k _ _ (.inl rfl) e,ih q⟩
 | tbl ps=>
  have e:h.get? a=some {cls:=.none,data:=.fields ps}:=x;show h'.get? a=some {cls:=.none,data:=.fields ps};exact k a _ (.inl rfl) e
 | met f y=>
  have e:h.get? a=some (zdS (.ref f) (.ref y)):=x;show h'.get? a=some (zdS (.ref f) (.ref y));exact k a _ (.inl rfl) e
 | ext φ=>obtain⟨p,⟨o,e⟩,st⟩:=x;exact⟨st _ _ p λo q=>k _ _ (.inl rfl) q,⟨o,k _ _ (.inl rfl) e⟩,st⟩
theorem HOk.lt(x:HOk P w H h)(e:H a=some o):a<h.objs.size:=(x a o e).lt
theorem HOk.fresh(x:HOk P w H h)(e:h.objs.size<=a):H a=none:=by
 cases q:H a with
 | none=>rfl
 | some u=>exact absurd (zaX (x.lt q) e) (zb4 _)
theorem HOk.kept(x:HOk P w H h)(k:∀b u,h.get? b=some u->h'.get? b=some u):HOk P w H h':=λa o e=>
 (x a o e).stay (λb u _ q=>k b u q) (λ_ q=>q) λ_ _ q=>q
theorem HOk.laid(x:HOk P w H h)(k:∀b u,h.get? b=some u->h'.get? b=some u)(F:h.objs.size<=a)(new:ObjOk P w (upd H a o) h' a o):HOk P w (upd H a o) h':=λb u e=>by
 have z:=x.fresh F;by_cases B:b=a
 ·subst B;rw[aH]at e;cases e;exact new
 ·rw[aE B]at e
  exact(x b u e).stay (λc v _ q=>k c v q) (λc q=>by rw[aE (bE q z)];exact q) λc xs q=>by rw[aE (bE q z)];exact q
end
def Rd(H:Hp)(a:Addr)(u:HO):Prop:=H a=some u\/∃o,H a=some (.frz o u)
theorem Rd.of(h:H a=some u):Rd H a u:=.inl h
theorem Rd.ok(r:Rd H a u)(x:HOk P w H h):ObjOk P w H h a u:=by
 rcases r with r|⟨o,r⟩
 ·exact x a u r
 ·obtain⟨_,q⟩:=x a _ r
  exact q
def qw:Option HO->Prop
 | some (.lst _)=>True
 | some (.dK _)=>True
 | some (.dT _)=>True
 | some (.set _ _)=>True
 | some (.memo _ _ _)=>True
 | some (.ins _ _ _)=>True
 | some (.ext _)=>True
 | _=>False
section
variable {P:zah}{w:World}{H:Hp}{h h':Heap}{x e:Addr}{o':HO}
theorem HOk.write(ok:HOk P w H h)(J:qw (H x))(W:e=x\/H e=some (.own x))(k:∀b u,b≠e->h.get? b=some u->h'.get? b=some u)(U:∃u,h'.get? e=some u)
  (new:ObjOk P w (upd H x o') h' x o'):HOk P w (upd H x o') h':=λb u q=>by
 have F:∀c y,H c=some (.own y)->c≠x:=λc y r z=>by subst z;rw[r]at J;exact J
 have G:∀c xs,H c=some (.tup xs)->c≠x:=λc xs r z=>by subst z;rw[r]at J;exact J
 by_cases N:b=x
 ·subst N;rw[aH]at q;cases q;exact new
 ·rw[aE N]at q
  by_cases B:b=e
  ·have Y:H b=some (.own x):=by
    rcases W with z|z
    ·exact absurd (B.trans z) N
    ·rw[B];exact z
   rw[q]at Y;cases Y;obtain⟨v,hv⟩:=U;exact⟨v,by rw[B];exact hv⟩
  ·refine(ok b u q).stay (λc v M r=>k c v ?_ r) (λc r=>by rw[aE (F c b r)];exact r) λc xs r=>by rw[aE (G c xs r)];exact r
   rcases M with rfl|M
   ·exact B
   ·rintro rfl
    rcases W with z|z
    ·exact F c b M z
    ·rw[M]at z;cases z;exact N rfl
end
structure Un(fs ex:List Addr)(H H':Hp)(h h':Heap):Prop where
 keep:∀b o,h.get? b=some o->H b=none->b∉fs->b∉ex->h'.get? b=some o
 slot:∀b o,h.get? b=some o->H b=none->b∈fs->b∉ex->∃sl,h'.get? b=some {o with slots:=sl}
 free:∀b o,h.get? b=some o->H b=none->b∉ex->H' b=none
 there:∀b o,h.get? b=some o->b∉ex->∃o',h'.get? b=some o'
 tups:∀b xs,H b=some (.tup xs)->H' b=some (.tup xs)
 frzs:∀b o u,H b=some (.frz o u)->H' b=some (.frz o u)
 tbls:∀b ps,H b=some (.tbl ps)->∃more,H' b=some (.tbl (ps++more))
section
variable {fs fs' ex ex':List Addr}{H H1 H2:Hp}{h h1 h2 h':Heap}{a x e:Addr}{o:HO}
theorem Un.any(u:Un fs ex H H1 h h1)(q:h.get? b=some ob)(n:H b=none)(hx:b∉ex):∃B,h1.get? b=some {ob with slots:=B}:=by
 by_cases z:b∈fs
 ·exact u.slot b ob q n z hx
 ·exact⟨ob.slots,u.keep b ob q n z hx⟩
theorem Un.trans(a:Un fs ex H H1 h h1)(b:Un fs ex H1 H2 h1 h2):Un fs ex H H2 h h2 where
 keep:=λc z q n F hx=>b.keep c z (a.keep c z q n F hx) (a.free c z q n hx) F hx
 slot:=λc z q n F hx=>by
  obtain⟨M,B⟩:=a.slot c z q n F hx;obtain⟨G,J⟩:=b.slot c _ B (a.free c z q n hx) F hx;exact⟨G,J⟩
 free:=λc z q n hx=>by
  obtain⟨o',B⟩:=a.there c z q hx;exact b.free c o' B (a.free c z q n hx) hx
 there:=λc z q hx=>by
  obtain⟨o',B⟩:=a.there c z q hx;exact b.there c o' B hx
 tups:=λc xs q=>b.tups c xs (a.tups c xs q)
 frzs:=λc z xs q=>b.frzs c z xs (a.frzs c z xs q)
 tbls:=λc ps q=>by
  obtain⟨m1,B⟩:=a.tbls c ps q;obtain⟨m2,J⟩:=b.tbls c _ B;exact⟨m1++m2,by rw[J,Array.append_assoc]⟩
theorem Un.kept(k:∀b u,h.get? b=some u->h'.get? b=some u):Un fs ex H H h h':=
 ⟨λb z q _ _ _=>k b z q,λb z q _ _ _=>⟨z.slots,k b z q⟩,λ_ _ _ n _=>n,λb z q _=>⟨z,k b z q⟩,λ_ _ q=>q,λ_ _ _ q=>q,λ_ ps q=>⟨#[],by rw[q];simp⟩⟩
theorem Un.refl:Un fs ex H H h h:=Un.kept λ_ _ q=>q
theorem Un.laid(k:∀b u,h.get? b=some u->h'.get? b=some u)(B:h.objs.size<=a)(z:H a=none):Un fs ex H (upd H a o) h h' where
 keep:=λb u q _ _ _=>k b u q
 slot:=λb u q _ _ _=>⟨u.slots,k b u q⟩
 free:=λb u q n _=>by rw[aE (zaF (zaX (zap q) B))];exact n
 there:=λb u q _=>⟨u,k b u q⟩
 tups:=λb xs q=>by rw[aE (bE q z)];exact q
 frzs:=λb u xs q=>by rw[aE (bE q z)];exact q
 tbls:=λb ps q=>⟨#[],by rw[aE (bE q z),q];simp⟩
theorem Un.write(F:qw (H x))(N:e=x\/H e=some (.own x))(k:∀b u,b≠e->h.get? b=some u->h'.get? b=some u)(J:∃u,h'.get? e=some u):Un fs ex H (upd H x o) h h':=by
 have hx:∀b,H b=none->b≠x:=λb n z=>by subst z;rw[n]at F;exact F
 have M:∀b,H b=none->b≠e:=λb n z=>by
  subst z;rcases N with r|r
  ·exact hx b n r
  ·rw[n]at r;cases r
 have G:∀b u,H b=some u->¬ qw (some u)->b≠x:=λb u q nm z=>by subst z;rw[q]at F;exact nm F
 refine⟨λb u q n _ _=>k b u (M b n) q,λb u q n _ _=>⟨u.slots,k b u (M b n) q⟩,λb u q n _=>by rw[aE (hx b n)];exact n,λb u q _=>?_,
  λb xs q=>by rw[aE (G b _ q λz=>z)];exact q,λb u xs q=>by rw[aE (G b _ q λz=>z)];exact q,λb ps q=>⟨#[],by rw[aE (G b _ q λz=>z),q];simp⟩⟩
 by_cases B:b=e
 ·subst B;exact J
 ·exact⟨u,k b u B q⟩
theorem Un.mono(u:Un fs ex H H1 h h1)(hs:∀b∈fs,b∈fs')(hx:∀b∈ex,b∈ex'):Un fs' ex' H H1 h h1:=
 ⟨λb F q n G B=>u.keep b F q n (λz=>G (hs b z)) λz=>B (hx b z),λ_ _ q n _ B=>u.any q n λz=>B (hx _ z),λb F q n B=>u.free b F q n λz=>B (hx b z),λb F q B=>u.there b F q λz=>B (hx b z),u.tups,u.frzs,u.tbls⟩
end
def trk(h:Heap)(H:Hp):List Addr:=(zam h.objs.size).filter λa=>(H a).isSome
def yD(h:Heap)(H:Hp):Heap:=PySem.W.hideAll h (trk h H)
theorem IS(h:Heap)(H:Hp):(yD h H).objs.size=h.objs.size:=PySem.W.hideAll_size _ _
theorem KL(e:h.get? b=some o)(n:H b=none):(yD h H).get? b=some o:=
 PySem.W.hideAll_get _ e λz=>by
  have q:(H b).isSome=true:=(List.mem_filter.mp z).2;rw[n]at q;simp at q
theorem Q3(e:(yD h H).get? b=some o):h.get? b=some o/\H b=none:=by
 have B:h.get? b=some o:=PySem.W.of_hideAll (trk h H) e;refine⟨B,?_⟩;cases q:H b with
 | none=>rfl
 | some x=>
  have F:b∈trk h H:=List.mem_filter.mpr ⟨List.mem_range.mpr (zap B),by simp[q]⟩;have z:(yD h H).get? b=none:=PySem.W.hideAll_none (trk h H) F;rw[z]at e;cases e
def P3(g h:Heap)(L:Addr):List (Addr×Obj):=(zam h.objs.size).filterMap λa=>if a=L\/(g.get? a).isSome=true then none else(h.get? a).map λo=>(a,o)
def rest(g h:Heap)(L d:Addr):List (Addr×Obj):=(P3 g h L).filter λp=>decide (p.1≠d)
structure Mod(K:zae)(mg:Str->Option Value)(base:Heap):Prop where
 kin:K.In base
 glob:base.Ns zaK mg
 blt:∃mb,base.Ns builtinsNs mb/\∀x:Str,x ≠ "__name__" -> mb x=zaH x
 nolimit:base.NoLimit
structure Cx where
 prog:zah
 w:World
 K:zae
 mg:Str->Option Value
 base:Heap
 A:zao
 N:List Str
 s₀:zad
 H₀:Hp
 env:Env
 outer:List Env
 stack:List Env
 ex:List Addr
 fn:Str->Bool
 calm:Bool
 pn:List (Addr×Obj)
 xe:Value->zad->Prop
noncomputable def frs(l:List Env):List Addr:=l.filterMap (·.frame)
abbrev Cx.fs(X:Cx):List Addr:=frs X.outer
def XM(sc:Scope)(x:Str):Prop:=sc.names.lookup x=some .local\/sc.names.lookup x=some .cell\/sc.names.lookup x=some .free
def Loc(sc:Scope)(x:Str):Prop:=sc.names.lookup x=some .local\/sc.names.lookup x=some .cell
def Look(env:Env)(h:Heap)(m:Str->Option Value)(x:Str)(u:Value):Prop:=
 (env.kindOf x=some .local/\m x=some u)\/((env.kindOf x=some .cell\/env.kindOf x=some .free)/\∃c,env.cells.lookup x=some c/\h.IsCell c (some u))
structure Cx.Ok(X:Cx):Prop where
 mod:Mod X.K X.mg X.base
 kind:X.env.scope.kind=.function
 glob:X.env.globals=zaK
 blt:X.env.builtins=builtinsNs
 above:X.s₀.heap.objs.size<=X.env.locals
 inj:∀x y c,X.env.cells.lookup x=some c->X.env.cells.lookup y=some c->x=y
 has:∀x,(X.env.kindOf x=some .cell\/X.env.kindOf x=some .free)->∃c,X.env.cells.lookup x=some c
 cab:∀x c,X.fn x=true->X.env.cells.lookup x=some c->X.s₀.heap.objs.size<=c
 hd:X.calm=true->X.A.handled=none
 frames:X.A.frames=some X.stack
 stk:X.stack=X.outer\/(X.stack=X.env::X.outer/\X.env.frame=some X.env.locals)
 exf:∀b∈X.ex,b≠X.env.locals/\∀x c,X.env.cells.lookup x=some c->c≠b
 bs:∀b o,X.base.get? b=some o->X.s₀.heap.get? b=some o/\X.H₀ b=none
 bsz:X.base.objs.size<=X.s₀.heap.objs.size
 noex:∀b o,X.base.get? b=some o->b∉X.ex
 exfs:∀b∈X.ex,b∉X.fs
 funs:X.s₀.heap.FunFrames X.base X.outer
 frf:∀b∈X.fs,X.H₀ b=none
structure Inv(X:Cx)(pins:List (Addr×Obj))(σ:List (Option V))(H:Hp)(s:zad):Prop where
 ok:X.Ok
 os:s.os=X.s₀.os
 bare:zbN s.gens
 base:Un X.fs X.ex X.H₀ H X.s₀.heap s.heap
 loc:∃m,s.heap.Ns X.env.locals m/\∀(i:Nat) (x:Str) (v:V),X.N[i]?=some x->σ[i]?=some (some v)->XM X.env.scope x->∃u,RelV v u/\Look X.env s.heap m x u
 cell:∀x c,X.env.cells.lookup x=some c->∃v,s.heap.IsCell c v
 free:H X.env.locals=none
 freeC:∀x c,X.env.cells.lookup x=some c->H c=none
 pin:∀p∈X.pn++pins,s.heap.get? p.1=some p.2/\H p.1=none/\p.1≠X.env.locals/\p.1∉X.fs/\∀v,p.2.data≠.cell v
 hok:HOk X.prog X.w H s.heap
 len:σ.length=X.N.length
section
variable {X:Cx}{pins:List (Addr×Obj)}{σ:List (Option V)}{H H':Hp}{s:zad}{h':Heap}
theorem Cx.Ok.nofr(ok:X.Ok)(e:X.base.get? b=some o):b∉X.fs:=λq=>by
 have:=(ok.funs.mem q).1;rw[e]at this;cases this
theorem Inv.bs(I:Inv X pins σ H s):∀b o,X.base.get? b=some o->s.heap.get? b=some o/\H b=none:=λb o e=>
 ⟨I.base.keep b o (I.ok.bs b o e).1 (I.ok.bs b o e).2 (I.ok.nofr e) (I.ok.noex b o e),I.base.free b o (I.ok.bs b o e).1 (I.ok.bs b o e).2 (I.ok.noex b o e)⟩
theorem Inv.bk(I:Inv X pins σ H s):∀b o,X.base.get? b=some o->s.heap.get? b=some o:=λb o e=>(I.bs b o e).1
theorem Inv.mod(I:Inv X pins σ H s):Mod X.K X.mg X.base:=I.ok.mod
theorem Inv.kIn(I:Inv X pins σ H s):X.K.In s.heap:=I.ok.mod.kin.keeps I.bk
theorem Inv.lt(I:Inv X pins σ H s):X.env.locals<s.heap.objs.size:=let ⟨_,hn,_⟩:=I.loc;hn.lt
theorem Inv.sz(I:Inv X pins σ H s):X.s₀.heap.objs.size<=s.heap.objs.size:=zaL I.ok.above (Nat.le_of_lt I.lt)
theorem Inv.nofs(I:Inv X pins σ H s)(h:s.heap.objs.size<=a):a∉X.fs:=λz=>by
 obtain⟨_,o,q,_⟩:=I.ok.funs.mem z;exact absurd (zaX (zap q) (zaL I.sz h)) (zb4 _)
theorem Inv.cne(I:Inv X pins σ H s):∀x c,X.env.cells.lookup x=some c->c≠X.env.locals:=λx c e z=>by
 obtain⟨v,o,F,hd⟩:=I.cell x c e;obtain⟨m,⟨o',es,ep,q,B,_⟩,_⟩:=I.loc;rw[z,q]at F;cases F;rw[B]at hd;cases hd
theorem Inv.funs(I:Inv X pins σ H s):s.heap.FunFrames X.base X.outer:=by
 have all:∀(l:List Env),(∀b∈frs l,b∈X.fs)->X.s₀.heap.FunFrames X.base l->s.heap.FunFrames X.base l:=by
  intro l;induction l with
  | nil=>intro _ _;trivial
  | cons env r ih=>
   intro hs J;obtain⟨M,⟨L,o,q,G,U,hd⟩,N⟩:=J;have F:L∈X.fs:=hs L (by unfold frs;rw[zdT,q];exact zas);obtain⟨W,e⟩:=I.base.slot L o U (I.ok.frf L F) F λz=>I.ok.exfs L z F
   exact⟨M,⟨L,_,q,G,e,hd⟩,ih (λb B=>hs b (by unfold frs;rw[zdT,q];exact zaq _ B)) N⟩
 exact all X.outer (λ_ B=>B) I.ok.funs
theorem Inv.stack(I:Inv X pins σ H s):s.heap.FunFrames X.base X.stack:=by
 rcases I.ok.stk with e|⟨e,z⟩
 ·rw[e];exact I.funs
 ·rw[e]
  obtain⟨m,q,_⟩:=I.loc;refine .cons (by rw[I.ok.kind];decide) z q ?_ I.funs;exact Heap.get?_none_of_le (zaL I.ok.bsz I.ok.above)
theorem Inv.stkSub(I:Inv X pins σ H s):∀b∈frs X.stack,b∈X.env.locals::X.fs:=λb q=>by
 rcases I.ok.stk with e|⟨e,z⟩
 ·rw[e]at q;exact zaq _ q
 ·rw[e]at q
  unfold frs at q;rw[zdT,z]at q;exact q
theorem Inv.stkFree(I:Inv X pins σ H s):∀b∈frs X.stack,H b=none:=λb q=>by
 rcases List.mem_cons.mp (I.stkSub b q)with e|q
 ·rw[e];exact I.free
 ·obtain⟨_,o,B,_⟩:=I.ok.funs.mem q
  exact I.base.free b o B (I.ok.frf b q) λz=>I.ok.exfs b z q
theorem Inv.step{g':Array GenState}{t':Nat}{d':Drawn}{ch:List Addr}(I:Inv X pins σ H s)
  (G:∀b∈ch,(b∈X.ex\/X.s₀.heap.objs.size<=b)/\b≠X.env.locals/\(∀x c,X.env.cells.lookup x=some c->c≠b)/\∀p∈X.pn++pins,p.1≠b)
  (F:∀b o,b≠X.env.locals->b∉X.fs->b∉ch->s.heap.get? b=some o->H b=none->h'.get? b=some o)
  (U:∀b o,b≠X.env.locals->b∈X.fs->b∉ch->s.heap.get? b=some o->H b=none->∃sl,h'.get? b=some {o with slots:=sl}) (free:∀b o,b∉ch->s.heap.get? b=some o->H b=none->H' b=none)
  (there:∀b o,b∉ch->s.heap.get? b=some o->∃o',h'.get? b=some o')
  (ae:∀b xs,H b=some (.tup xs)->H' b=some (.tup xs)) (ac:∀b o u,H b=some (.frz o u)->H' b=some (.frz o u)) (ad:∀b ps,H b=some (.tbl ps)->∃more,H' b=some (.tbl (ps++more)))
  (ns:∀m,s.heap.Ns X.env.locals m->h'.Ns X.env.locals m) (ah:HOk X.prog X.w H' h') (hg:zbN g') :
  Inv X pins σ H' {s with heap:=h',gens:=g',drawn:=d',toks:=t'}:=by
 have ab:∀b o,X.s₀.heap.get? b=some o->b≠X.env.locals:=λb o e=>zaF (zaX (zap e) I.ok.above)
 have M:∀b o,X.s₀.heap.get? b=some o->b∉X.ex->b∉ch:=λb o e hx W=>by
  rcases(G b W).1 with z|z
  ·exact hx z
  ·exact absurd (zaX (zap e) z) (zb4 _)
 have B:∀x c,X.env.cells.lookup x=some c->∀v,s.heap.IsCell c v->h'.IsCell c v:=by
  rintro x c e v ⟨o,Y,hd⟩;have J:c∉ch:=λz=>(G c z).2.2.1 x c e rfl
  by_cases hc:c∈X.fs
  ·obtain⟨sl,q⟩:=U c o (I.cne x c e) hc J Y (I.freeC x c e)
   exact⟨_,q,hd⟩
  ·exact⟨o,F c o (I.cne x c e) hc J Y (I.freeC x c e),hd⟩
 refine⟨I.ok,I.os,hg,⟨λb o e n W hx=>?_,λb o e n W hx=>?_,λb o e n hx=>?_,λb o e hx=>?_,λb xs e=>ae b xs (I.base.tups b xs e),λb o xs e=>ac b o xs (I.base.frzs b o xs e),λb ps e=>?_⟩,?_,λx c e=>?_,?_,λx c e=>?_,λp hp=>?_,ah,I.len⟩
 ·exact F b o (ab b o e) W (M b o e hx) (I.base.keep b o e n W hx) (I.base.free b o e n hx)
 ·obtain⟨sl,N⟩:=I.base.slot b o e n W hx
  obtain⟨ag,e2⟩:=U b _ (ab b o e) W (M b o e hx) N (I.base.free b o e n hx);exact⟨ag,e2⟩
 ·obtain⟨o',N⟩:=I.base.there b o e hx
  exact free b o' (M b o e hx) N (I.base.free b o e n hx)
 ·obtain⟨o',N⟩:=I.base.there b o e hx
  exact there b o' (M b o e hx) N
 ·obtain⟨m1,N⟩:=I.base.tbls b ps e
  obtain⟨m2,e2⟩:=ad b _ N;exact⟨m1++m2,by rw[e2,Array.append_assoc]⟩
 ·obtain⟨m,hn,hl⟩:=I.loc
  refine⟨m,ns m hn,λi x v N e2 e3=>?_⟩;obtain⟨u,r,l⟩:=hl i x v N e2 e3;refine⟨u,r,?_⟩;rcases l with l|⟨k,c,e,z⟩
  ·exact .inl l
  ·exact .inr ⟨k,c,e,B x c e _ z⟩
 ·obtain⟨v,z⟩:=I.cell x c e
  exact⟨v,B x c e v z⟩
 ·obtain⟨m,⟨o,_,_,Y,_⟩,_⟩:=I.loc
  exact free _ o (λz=>(G _ z).2.1 rfl) Y I.free
 ·obtain⟨v,o,Y,hd⟩:=I.cell x c e
  exact free c o (λz=>(G c z).2.2.1 x c e rfl) Y (I.freeC x c e)
 ·obtain⟨e,n,ne,nf,d⟩:=I.pin p hp
  have J:p.1∉ch:=λz=>(G p.1 z).2.2.2 p hp rfl
  exact⟨F p.1 p.2 ne nf J e n,free p.1 p.2 J e n,ne,nf,d⟩
theorem Inv.un{t':Nat}(I:Inv X pins σ H s)(u:Un X.fs [] H H' s.heap h')(G:HOk X.prog X.w H' h'):Inv X pins σ H' {s with heap:=h',toks:=t'}:=by
 obtain⟨m,⟨o,es,ep,M,r⟩,_⟩:=id I.loc;obtain⟨sl,W⟩:=u.any M I.free (by simp);exact I.step (g':=s.gens) (d':=s.drawn) (ch:=[]) (λ_ z=>nomatch z) (λb o _ J _ e n=>u.keep b o e n J (by simp)) (λb o _ J _ e n=>u.slot b o e n J (by simp)) (λb o _ e n=>u.free b o e n (by simp)) (λb o _ e=>u.there b o e (by simp)) u.tups u.frzs u.tbls (λY U=>by
  obtain⟨o',B,F,q,N⟩:=U;rw[M]at q;cases q;exact⟨_,B,F,W,N⟩) G I.bare
theorem Inv.call{g':Array GenState}{t':Nat}{d':Drawn}{ch:List Addr}(I:Inv X pins σ H s)(u:Un (frs X.stack) ch H H' s.heap h')(M:HOk X.prog X.w H' h')(W:zbN g')
  (F:∀b∈ch,(b∈X.ex\/X.s₀.heap.objs.size<=b)/\b≠X.env.locals/\(∀x c,X.env.cells.lookup x=some c->c≠b)/\∀p∈X.pn++pins,p.1≠b) :
  Inv X pins σ H' {s with heap:=h',gens:=g',drawn:=d',toks:=t'}:=by
 obtain⟨m,⟨o,es,ep,U,r⟩,_⟩:=id I.loc;obtain⟨sl,N⟩:=u.any U I.free λz=>(F _ z).2.1 rfl
 exact I.step (ch:=ch) F (λb o N hb q e n=>u.keep b o e n (λz=>(List.mem_cons.mp (I.stkSub b z)).elim N hb) q) (λb o _ _ q e n=>u.any e n q) (λb o q e n=>u.free b o e n q) (λb o q e=>u.there b o e q) u.tups u.frzs u.tbls (λm' hm=>by
  obtain⟨o',G,J,B,Y⟩:=hm;rw[U]at B;cases B;exact⟨_,G,J,N,Y⟩) M W
theorem Inv.turned{t':Nat}{it:Addr}(I:Inv X pins σ H s)(k:∀b o,b≠it->s.heap.get? b=some o->h'.get? b=some o)(M:H it=none)(G:it≠X.env.locals)
  (h1:it∈X.ex\/X.s₀.heap.objs.size<=it) (h2:∀x c,X.env.cells.lookup x=some c->c≠it) (J:∀p∈X.pn++pins,p.1≠it):Inv X pins σ H {s with heap:=h',toks:=t'}:=by
 have F:∀b u,H b=some u->b≠it:=λb u e z=>by rw[z,M]at e;cases e
 refine I.step (g':=s.gens) (d':=s.drawn) (ch:=[it]) (λb U=>?_) (λb o _ _ B e _=>k b o (λz=>B (by simp[z])) e) (λb o _ _ B e _=>⟨o.slots,k b o (λz=>B (by simp[z])) e⟩) (λ_ _ _ _ n=>n)
  (λb o B e=>⟨o,k b o (λz=>B (by simp[z])) e⟩) (λ_ _ e=>e) (λ_ _ _ e=>e) (λb ps e=>⟨#[],by rw[e];simp⟩) (λm N=>?_) (λb u e=>?_) I.bare
 ·have e:b=it:=by simpa using U
  subst e;exact⟨h1,G,h2,J⟩
 ·obtain⟨o,es,ep,W,r⟩:=N
  exact⟨o,es,ep,k _ o (zaU G) W,r⟩
 ·refine(I.hok b u e).stay (λc v B q=>k c v ?_ q) (λ_ q=>q) λ_ _ q=>q
  rcases B with z|z
  ·rw[z];exact F b u e
  ·exact F c _ z
theorem Inv.tok(I:Inv X pins σ H s)(t:Nat):Inv X pins σ H {s with toks:=t}:=I.un (h':=s.heap) (t':=t) Un.refl I.hok
theorem Inv.kept(I:Inv X pins σ H s)(k:∀b u,s.heap.get? b=some u->h'.get? b=some u):Inv X pins σ H {s with heap:=h',toks:=t'}:=I.un (Un.kept k) (I.hok.kept k)
theorem Inv.laid(I:Inv X pins σ H s)(k:∀b u,s.heap.get? b=some u->h'.get? b=some u)(q:s.heap.objs.size<=a)(new:ObjOk X.prog X.w (upd H a o) h' a o) :
  Inv X pins σ (upd H a o) {s with heap:=h',toks:=t'}:=I.un (Un.laid k q (I.hok.fresh q)) (I.hok.laid k q new)
theorem Inv.write(I:Inv X pins σ H s)(z:qw (H x))(B:e=x\/H e=some (.own x))(k:∀b u,b≠e->s.heap.get? b=some u->h'.get? b=some u)(q:∃u,h'.get? e=some u)
  (new:ObjOk X.prog X.w (upd H x o) h' x o):Inv X pins σ (upd H x o) {s with heap:=h',toks:=t'}:=I.un (Un.write z B k q) (I.hok.write z B k q new)
theorem Inv.pins_of(I:Inv X pins σ H s)(h:∀p∈pins',s.heap.get? p.1=some p.2/\H p.1=none/\p.1≠X.env.locals/\p.1∉X.fs/\∀v,p.2.data≠.cell v):Inv X pins' σ H s:=
 ⟨I.ok,I.os,I.bare,I.base,I.loc,I.cell,I.free,I.freeC,λp q=>(List.mem_append.mp q).elim (λz=>I.pin p (zbs _ z)) (h p),I.hok,I.len⟩
theorem AB{N:List Str}(z:N.Nodup){i j:Nat}{x:Str}(a:N[i]?=some x)(b:N[j]?=some x):i=j:=by
 obtain⟨h1,B⟩:=List.getElem?_eq_some_iff.mp a;obtain⟨h2,q⟩:=List.getElem?_eq_some_iff.mp b;exact(zdU z).mp (B.trans q.symm)
theorem vE{M:Model}{A:zao}{E:Value->zad->Prop}{i:Nat}{x:Str}{v:V}{u:Value}{Q:Unit->zad->Prop}(I:Inv X pins σ H s)(hN:X.N.Nodup)(hi:X.N[i]?=some x)(hx:Loc X.env.scope x)(r:RelV v u)
  (h:∀s',Inv X pins (σ.set i (some v)) H s'->(∃a,za4 a s.heap s'.heap/\(a=X.env.locals\/X.env.cells.lookup x=some a))->Q () s') (hf:X.fn x=true\/X.env.scope.names.lookup x=some .local:=by first|exact .inl rfl|exact .inr rfl|assumption):wpAny M A (storeName X.env x u) Q E s:=by
 obtain⟨m,hn,hl⟩:=id I.loc;have af:(X.env.scope.kind == .class || (X.env.scope.kind == .module && X.env.locals != X.env.globals))=false:=by rw[I.ok.kind];rfl
 have Y:i<σ.length:=by rw[I.len];exact(List.getElem?_eq_some_iff.mp hi).1
 have cne:=I.cne;have F:∀ {a:Addr} {h':Heap},(∃o,s.heap.get? a=some o/\H a=none)->za4 a s.heap h'->HOk X.prog X.w H h':=λ{a h'} ha hs b ob e=>by
  obtain⟨_,_,J⟩:=ha;refine(I.hok b ob e).stay (λc w' G q=>(hs.2 c ?_).trans q) (λ_ q=>q) λ_ _ q=>q
  rintro rfl;rcases G with rfl|G
  ·rw[J]at e;cases e
  ·rw[J]at G;cases G
 rcases hx with W|W
 ·refine wpAny_storeName_local W hn (λh' ao hs=>?_) af
  obtain⟨oL,_,_,al,_⟩:=id hn;refine h _ ⟨I.ok,I.os,I.bare,⟨λb o e n hb hx=>?_,λb o e n hb hx=>?_,I.base.free,λb o e hx=>?_,I.base.tups,I.base.frzs,I.base.tbls⟩,⟨_,ao,λj y v' B U e3=>?_⟩,λy c e=>?_,I.free,I.freeC,λp hp=>?_,F ⟨oL,al,I.free⟩ hs,by simpa using I.len⟩ ⟨_,hs,.inl rfl⟩
  ·exact(hs.2 b (zaF (zaX (zap e) I.ok.above))).trans (I.base.keep b o e n hb hx)
  ·obtain⟨sl,B⟩:=I.base.slot b o e n hb hx
   exact⟨sl,(hs.2 b (zaF (zaX (zap e) I.ok.above))).trans B⟩
  ·obtain⟨o',B⟩:=I.base.there b o e hx
   exact⟨o',(hs.2 b (zaF (zaX (zap e) I.ok.above))).trans B⟩
  ·by_cases hj:j=i
   ·subst hj
    rw[hi]at B;cases B;rw[zcy Y]at U;cases U;exact⟨u,r,.inl ⟨W,by simp⟩⟩
   ·rw[zbO (zaU hj)]at U
    obtain⟨u',r',q⟩:=hl j y v' B U e3;refine⟨u',r',?_⟩;rcases q with⟨k,e⟩|⟨k,c,e,z⟩
    ·refine .inl ⟨k,?_⟩
     have:y≠x:=λe=>hj (AB hN B (e ▸ hi))
     simp[this,e]
    ·exact .inr ⟨k,c,e,z.sameBut hs (cne y c e)⟩
  ·obtain⟨w',z⟩:=I.cell y c e
   exact⟨w',z.sameBut hs (cne y c e)⟩
  ·obtain⟨e,n,ne,nf,d⟩:=I.pin p hp
   exact⟨(hs.2 p.1 ne).trans e,n,ne,nf,d⟩
 ·have ac:X.fn x=true:=by
   rcases hf with z|z
   ·exact z
   ·rw[z]at W;cases W
  obtain⟨c,G⟩:=I.ok.has x (.inl W);obtain⟨w',z⟩:=I.cell x c G;refine wpAny_storeName_cell I.ok.kind W G z (λh' ag hs=>?_);obtain⟨oc,ad,ae⟩:=id z;refine h {s with heap:=h'} ⟨I.ok,I.os,I.bare,⟨λb o e n hb hx=>?_,λb o e n hb hx=>?_,I.base.free,λb o e hx=>?_,I.base.tups,I.base.frzs,I.base.tbls⟩,⟨m,hn.sameBut hs (zaU (cne x c G)),λj y v' B U e3=>?_⟩,λy c' e=>?_,I.free,I.freeC,λp hp=>?_,F ⟨oc,ad,I.freeC x c G⟩ hs,by simpa using I.len⟩ ⟨c,hs,.inr G⟩
  ·exact(hs.2 b (zaF (zaX (zap e) (I.ok.cab x c ac G)))).trans (I.base.keep b o e n hb hx)
  ·obtain⟨sl,B⟩:=I.base.slot b o e n hb hx
   exact⟨sl,(hs.2 b (zaF (zaX (zap e) (I.ok.cab x c ac G)))).trans B⟩
  ·obtain⟨o',B⟩:=I.base.there b o e hx
   exact⟨o',(hs.2 b (zaF (zaX (zap e) (I.ok.cab x c ac G)))).trans B⟩
  ·by_cases hj:j=i
   ·subst hj
    rw[hi]at B;cases B;rw[zcy Y]at U;cases U;exact⟨u,r,.inr ⟨.inl W,c,G,ag⟩⟩
   ·rw[zbO (zaU hj)]at U
    obtain⟨u',r',q⟩:=hl j y v' B U e3;refine⟨u',r',?_⟩;rcases q with q|⟨k,c',e,z'⟩
    ·exact .inl q
    ·refine .inr ⟨k,c',e,z'.sameBut hs ?_⟩
     rintro rfl;exact hj (AB hN B (I.ok.inj _ _ _ e G ▸ hi))
  ·by_cases ah:c'=c
   ·subst ah;exact⟨_,ag⟩
   ·obtain⟨w2,z2⟩:=I.cell y c' e
    exact⟨w2,z2.sameBut hs ah⟩
  ·obtain⟨e,n,ne,nf,d⟩:=I.pin p hp
   refine⟨(hs.2 p.1 ?_).trans e,n,ne,nf,d⟩;intro q;rw[q,ad]at e;have q':oc=p.2:=zay e;exact d w' (by rw[<- q'];exact ae)
theorem zS(I:Inv X pins σ H s)(z:X.N.Nodup)(hi:X.N[i]?=some x)(hx:Loc X.env.scope x)(r:RelV v u)
  (h:∀s',Inv X pins (σ.set i (some v)) H s'->Q () s') (B:X.fn x=true\/X.env.scope.names.lookup x=some .local:=by first|exact .inl rfl|exact .inr rfl|assumption):wpAny M A (storeName X.env x u) Q E s:=
 vE I z hi hx r (λs' q _=>h s' q) B
theorem Inv.call'(I:Inv X pins σ H s)(F:s'.os=s.os)(u:Un (frs X.stack) ch H H' s.heap s'.heap)(z:HOk X.prog X.w H' s'.heap)(B:zbN s'.gens)
  (q:∀b∈ch,(b∈X.ex\/X.s₀.heap.objs.size<=b)/\b≠X.env.locals/\(∀x c,X.env.cells.lookup x=some c->c≠b)/\∀p∈X.pn++pins,p.1≠b):Inv X pins σ H' s':=by
 obtain⟨h',g',d',t',o'⟩:=s';have e:o'=s.os:=F;subst e;exact I.call (g':=g') (t':=t') (d':=d') u z B q
end
abbrev XK:=Value->Option Addr->Hp->Prop
abbrev St:=List (Option V)
abbrev VK:=V->Hp->Prop
abbrev TE:=St->Hp->VK->Prop
abbrev TT:=St->Hp->(Bool->Hp->Prop)->Prop
abbrev TA:=St->Hp->(List V->Hp->Prop)->Prop
structure Ends where
 nx:St->Hp->Prop
 rt:VK
 bk:St->Hp->Prop:=λ_ _=>False
 ct:St->Hp->Prop:=λ_ _=>False
abbrev TS:=Ends->St->Hp->Prop
inductive EP(X:Cx)(pins:List (Addr×Obj))(σ:St)(Q:VK)(u:Value)(s':zad):Prop
 | mk (v:V) (H':Hp) (i:Inv X pins σ H' s') (r:RelV v u) (q:Q v H'):EP X pins σ Q u s'
inductive TP(X:Cx)(pins:List (Addr×Obj))(σ:St)(Q:Bool->Hp->Prop)(b:Bool)(s':zad):Prop
 | mk (H':Hp) (i:Inv X pins σ H' s') (q:Q b H'):TP X pins σ Q b s'
inductive AP(X:Cx)(pins:List (Addr×Obj))(σ:St)(Q:List V->Hp->Prop)(us:List Value)(s':zad):Prop
 | mk (vs:List V) (H':Hp) (i:Inv X pins σ H' s') (r:Vals vs us) (q:Q vs H'):AP X pins σ Q us s'
def SP(X:Cx)(pins:List (Addr×Obj))(D:Ends)(f:Flow)(s':zad):Prop:=
 match f with
 | .next=>∃σ' H',Inv X pins σ' H' s'/\D.nx σ' H'
 | .brk=>∃σ' H',Inv X pins σ' H' s'/\D.bk σ' H'
 | .cont=>∃σ' H',Inv X pins σ' H' s'/\D.ct σ' H'
 | .ret u=>∃v σ' H',Inv X pins σ' H' s'/\RelV v u/\D.rt v H'
def PE(X:Cx)(e:Expr)(t:TE):Prop:=
 ∀(pins:List (Addr×Obj)) (s:zad) (σ:St) (H:Hp) (Q:VK),Inv X pins σ H s->t σ H Q->wpAny (model X.prog X.w) X.A (eval e X.env) (EP X pins σ Q) X.xe s
def PT(X:Cx)(e:Expr)(t:TT):Prop:=
 ∀(pins:List (Addr×Obj)) (s:zad) (σ:St) (H:Hp) (Q:Bool->Hp->Prop),Inv X pins σ H s->t σ H Q->wpAny (model X.prog X.w) X.A (isTrue e X.env (eval e X.env)) (TP X pins σ Q) X.xe s
def PW(X:Cx)(e:Expr)(t:TT):Prop:=
 ∀(whole:Sem Value) (pins:List (Addr×Obj)) (s:zad) (σ:St) (H:Hp) (Q:Bool->Hp->Prop),Inv X pins σ H s->t σ H Q->wpAny (model X.prog X.w) X.A (isTrue e X.env whole) (TP X pins σ Q) X.xe s
theorem PW.pt{X:Cx}{e:Expr}{t:TT}(h:PW X e t):PT X e t:=h _
def PA(X:Cx)(es:List Expr)(t:TA):Prop:=
 ∀(pos:Pos) (pins:List (Addr×Obj)) (s:zad) (σ:St) (H:Hp) (Q:List V->Hp->Prop),Inv X pins σ H s->t σ H Q->wpAny (model X.prog X.w) X.A (spliced (zaG pos (zag es X.env))) (AP X pins σ Q) X.xe s
def PS(X:Cx)(st:Stmt)(t:TS):Prop:=
 ∀(pins:List (Addr×Obj)) (s:zad) (σ:St) (H:Hp) (D:Ends),Inv X pins σ H s->t D σ H->wpAny (model X.prog X.w) X.A (exec st X.env) (SP X pins D) X.xe s
def PSs(X:Cx)(st:List Stmt)(t:TS):Prop:=
 ∀(pins:List (Addr×Obj)) (s:zad) (σ:St) (H:Hp) (D:Ends),Inv X pins σ H s->t D σ H->wpAny (model X.prog X.w) X.A (execs st X.env) (SP X pins D) X.xe s
theorem cR{z:Type}{t:Sem z}{Q q:z->zad->Prop}{M:Model}{A:zao}{E:Value->zad->Prop}{s:zad}(h:wpAny M A t Q E s)(B:∀a s,Q a s->q a s):wpAny M A t q E s:=za7 h B λ_ _ x=>x
section
variable {X:Cx}
def c7(i:Nat):TE:=λσ H Q=>∃v,σ[i]?=some (some v)/\Q v H
def tC(v:V):TE:=λ_ H Q=>Q v H
theorem VO(U:X.N[i]?=some x)(W:XM X.env.scope x)(hd:(x == ("__debug__" : Str))=false:=by decide)(B:(x == ("__classdict__" : Str))=false:=by decide):PE X (.Name x pos) (c7 i):=by
 intro pins s σ H Q I h;obtain⟨v,e,h⟩:=h;obtain⟨m,G,M⟩:=I.loc;obtain⟨u,r,l⟩:=M i x v U e W;have fin:EP X pins σ Q u s:=⟨v,H,I,r,h⟩;rcases l with⟨z,J⟩|⟨z,c,F,q⟩
 ·exact wpAny_Name (wpAny_loadName_local I.ok.kind z G J fin) hd
 ·rcases z with z|z
  ·exact wpAny_Name (wpAny_loadName_cell I.ok.kind z F q fin) hd
  ·exact wpAny_Name (wpAny_loadName_free I.ok.kind z F q fin B) hd
theorem WQ{i j pos}:PE X (.Constant (.int i) j pos) (tC (.int i)):=λ_ _ _ H _ I h=>wpAny_Constant_int ⟨.int i,H,I.tok _,⟨_,rfl⟩,h⟩
theorem YF{b j pos}:PE X (.Constant (.bool b) j pos) (tC (.bl b)):=λ_ _ _ H _ I h=>Constant_bool ⟨.bl b,H,I,rfl,h⟩
theorem W5{j pos}:PE X (.Constant .none j pos) (tC .non):=λ_ _ _ H _ I h=>Constant_none ⟨.non,H,I,rfl,h⟩
theorem WB{x j pos}:PE X (.Constant (.str x) j pos) (tC (.str x)):=λ_ _ _ H _ I h=>Calls.Constant_str ⟨.str x,H,I.tok _,⟨_,rfl⟩,h⟩
def Gl(X:Cx)(x:Str):Prop:=X.env.kindOf x=some .globalImplicit
theorem EW(I:Inv X pins σ H s)(z:Gl X x)(q:X.mg x=some u)(h:Q u s)
  (hd:(x == ("__debug__" : Str))=false:=by decide):wpAny (model X.prog X.w) X.A (eval (.Name x pos) X.env) Q E s:=
 Calls.Name_function_global I.ok.kind z (Calls.loadGlobal_global (by rw[I.ok.glob];exact I.mod.glob.keeps I.bk) q h) hd
theorem lJ{E:Value->zad->Prop}{pins:List (Addr×Obj)}{s:zad}{σ:St}{H:Hp}{x:Str}{u:Value}{pos:Pos}{Q:Value->zad->Prop}(I:Inv X pins σ H s)(z:Gl X x)(B:X.mg x=none)(F:zaH x=some u)(h:Q u s)
  (q:x ≠ "__name__" := by decide) (hd:(x == ("__debug__" : Str))=false:=by decide):wpAny (model X.prog X.w) X.A (eval (.Name x pos) X.env) Q E s:=by
 obtain⟨G,h1,h2⟩:=I.mod.blt;exact Calls.Name_function_global I.ok.kind z (Calls.loadGlobal_builtin (by rw[I.ok.glob];exact I.mod.glob.keeps I.bk) B (by rw[I.ok.blt];exact h1.keeps I.bk) ((h2 x q).trans F) h) hd
theorem P8(F:Gl X x)(q:X.mg x=none)(B:zaH x=some u)(r:RelV v u)(z:x ≠ "__name__" := by decide)(hd:(x == ("__debug__" : Str))=false:=by decide):PE X (.Name x pos) (tC v):=
 λ_ _ _ H _ I h=>lJ I F q B ⟨v,H,I,r,h⟩ z hd
variable {a b:Expr}{ta tb:TE}{pos:Pos}
def PC(X:Cx)(op:CmpOp)(a b:Expr)(t:TE):Prop:=
 ∀(pins:List (Addr×Obj)) (s:zad) (σ:St) (H:Hp) (Q:VK),Inv X pins σ H s->t σ H Q->
  wpAny (model X.prog X.w) X.A (eval a X.env) (λv q=>wpAny (model X.prog X.w) X.A (eval b X.env) (λu z=>wpAny (model X.prog X.w) X.A (zaC op v u) (EP X pins σ Q) X.xe z) X.xe q) X.xe s
def tB(t:TE):TT:=λσ H Q=>t σ H λx H1=>∃c,x=.bl c/\Q c H1
theorem VV{op:CmpOp}{t:TE}(h:PC X op a b t)(h1:zbP op b=false:=by first|exact nobehind _ (by decide) (by decide)|rfl):PT X (.Compare a [op] [b] pos) (tB t):=by
 intro pins s σ H Q I hw;refine wpAny_isTrue_Compare1 (cR (h pins s σ H _ I hw) λv J h1=>cR h1 λu G h2=>cR h2 λc F ⟨x,H1,z,r1,B⟩=>?_) h1;obtain⟨d,rfl,q⟩:=B;cases r1;exact zcx ⟨H1,z,q⟩
theorem W1{e:Expr}{t:TE}(h:PE X e t)(B:∀z,isTrue e X.env z=(do let v <- z;standAt e.pos;zch [v] (truthy v)):=by intro _;rfl):PT X e (tB t):=by
 intro pins s σ H Q I hw;refine isTrue_plain (cR (h pins s σ H _ I hw) λv J ⟨x,H1,F,r1,G⟩=>?_) (B _);obtain⟨d,rfl,q⟩:=G;cases r1;exact zcx ⟨H1,F,q⟩
variable {tA tB':TT}{rest:List Expr}
def qa5(t u:TT):TT:=λσ H Q=>t σ H λc H1=>if c=true then u σ H1 Q else Q false H1
def tOr(t u:TT):TT:=λσ H Q=>t σ H λc H1=>if c=true then Q true H1 else u σ H1 Q
def qa3(t:TT):TT:=λσ H Q=>t σ H λc H1=>Q (!c) H1
theorem RP(q:PT X a tA):PW X (.BoolOp .And [a] pos) tA:=by
 intro z pins s σ H Q I h;refine isTrue_and (cR (q pins s σ H Q I h) λc B e=>?_);cases c with
 | true=>exact isTrue_and_nil e
 | false=>exact e
theorem VD(q:PT X a tA):PW X (.BoolOp .Or [a] pos) tA:=by
 intro z pins s σ H Q I h;refine isTrue_or (cR (q pins s σ H Q I h) λc B e=>?_);cases c with
 | false=>exact isTrue_or_nil e
 | true=>exact e
theorem V3(B:PT X a tA)(J:PW X (.BoolOp .And (b::rest) pos) tB'):PW X (.BoolOp .And (a::b::rest) pos) (qa5 tA tB'):=by
 intro F pins s σ H Q I h;refine isTrue_and (cR (B pins s σ H _ I h) λc G ⟨H1,q,z⟩=>?_);cases c with
 | true=>exact J F pins G σ H1 Q q z
 | false=>exact⟨H1,q,z⟩
theorem Y2(B:PT X a tA)(J:PW X (.BoolOp .Or (b::rest) pos) tB'):PW X (.BoolOp .Or (a::b::rest) pos) (tOr tA tB'):=by
 intro F pins s σ H Q I h;refine isTrue_or (cR (B pins s σ H _ I h) λc G ⟨H1,q,z⟩=>?_);cases c with
 | true=>exact⟨H1,q,z⟩
 | false=>exact J F pins G σ H1 Q q z
theorem U8(z:PT X a tA):PT X (.UnaryOp .Not a pos) (qa3 tA):=by
 intro pins s σ H Q I h;exact isTrue_not (cR (z pins s σ H (λc H1=>Q (!c) H1) I h) λ_ _ ⟨H',i,q⟩=>⟨H',i,q⟩)
def YB(ta tb:TE):TE:=λσ H Q=>ta σ H λx H1=>∃c,x=.bl c/\if c=true then tb σ H1 Q else Q (.bl false) H1
def ZS(ta:TE):TE:=λσ H Q=>ta σ H λx H1=>∃c,x=.bl c/\Q (.bl (!c)) H1
theorem V2{op}(h:PE X a t):PE X (.BoolOp op [a] pos) t:=λpins s σ H Q I hw=>BoolOp_one (h pins s σ H Q I hw)
theorem UC(B:PE X a ta)(G:PE X (.BoolOp .And (b::rest) pos) tb):PE X (.BoolOp .And (a::b::rest) pos) (YB ta tb):=by
 intro pins s σ H Q I h;refine BoolOp_and (cR (B pins s σ H _ I h) λv F ⟨x,H1,z,r1,q⟩=>?_);obtain⟨c,rfl,q⟩:=q;cases r1;refine zcx ?_;cases c with
 | true=>exact G pins F σ H1 Q z q
 | false=>exact⟨.bl false,H1,z,rfl,q⟩
theorem U4(z:PE X a ta):PE X (.UnaryOp .Not a pos) (ZS ta):=by
 intro pins s σ H Q I h;refine UnaryOp_ (cR (z pins s σ H _ I h) λv F ⟨x,H1,B,r1,q⟩=>?_);obtain⟨c,rfl,q⟩:=q;cases r1;exact not_of (zcx ⟨.bl (!c),H1,B,rfl,q⟩)
def tIf(t:TT)(ta tb:TE):TE:=λσ H Q=>t σ H λc H1=>if c=true then ta σ H1 Q else tb σ H1 Q
theorem JR{c:Expr}(G:PT X c tA)(F:PE X a ta)(J:PE X b tb):PE X (.IfExp c a b pos) (tIf tA ta tb):=by
 intro pins s σ H Q I h;refine wpAny_IfExp (cR (G pins s σ H _ I h) λd z ⟨H1,q,B⟩=>?_);cases d with
 | true=>exact F pins z σ H1 Q q B
 | false=>exact J pins z σ H1 Q q B
end
def SqL(K:zae)(H:Hp)(a:Addr)(xs:List V):Prop:=
 Rd H a (.lst xs) \/
  ∃(o:Obj) (its:Array Value) (n:Nat),K.lookup a=some o/\o.cls=.type "list" /\ o.dict=none/\o.data=.seq its n/\its.size<=zaj/\Vals xs its.toList
def SqT(K:zae)(H:Hp)(a:Addr)(xs:List V):Prop:=
 Rd H a (.tup xs) \/
  ∃(o:Obj) (its:Array Value) (n:Nat),K.lookup a=some o/\o.cls=.type "tuple" /\ o.data=.seq its n/\its.size<=zaj/\Vals xs its.toList
noncomputable def qaC:Value->Option V
 | .none=>some .non
 | .bool b=>some (.bl b)
 | .int i _=>some (.int i)
 | .str x _=>some (.str x)
 | .bytes b _=>some (.byt b)
 | .float b _=>some (.flt b)
 | .ref a=>some (.ref a)
 | .type n=>some (.ty n)
 | _=>none
theorem RelV.abs(r:RelV x u):qaC u=some x:=by
 cases x with
 | non=>cases r;rfl
 | bl _=>cases r;rfl
 | int _=>obtain⟨t,rfl⟩:=r;rfl
 | str _=>obtain⟨t,rfl⟩:=r;rfl
 | byt _=>obtain⟨t,rfl⟩:=r;rfl
 | flt _=>obtain⟨t,rfl⟩:=r;rfl
 | ref _=>cases r;rfl
 | ty _=>cases r;rfl
theorem RelV.inj(r:RelV x u)(q:RelV y u):x=y:=zay (r.abs.symm.trans q.abs)
theorem Vals.inj:∀ {xs ys:List V} {us:List Value},Vals xs us->Vals ys us->xs=ys
 | _,_,_,.nil,.nil=>rfl
 | _,_,_,.cons r t,.cons r' t'=>by rw[r.inj r',Vals.inj t t']
section
variable {X:Cx}{pins:List (Addr×Obj)}{σ:St}{H:Hp}{s:zad}{a:Addr}{xs ys:List V}
theorem SqL.of{K:zae}(h:H a=some (.lst xs)):SqL K H a xs:=.inl (.inl h)
theorem SqT.of{K:zae}(h:H a=some (.tup xs)):SqT K H a xs:=.inl (.inl h)
theorem Inv.list(I:Inv X pins σ H s)(h:SqL X.K H a xs):∃q:List Value,Vals xs q/\PlainL s.heap a q.toArray/\xs.length<=zaj:=by
 rcases h with h|⟨o,q,n,B,F,hd,hs,G,r⟩
 ·obtain⟨z,q,n,r,e⟩:=h.ok I.hok
  exact⟨q,r,⟨_,n,e,rfl,rfl,rfl⟩,z⟩
 ·refine⟨q.toList,r,⟨o,n,I.kIn a o B,F,hd,by simpa using hs⟩,?_⟩
  have e:=r.length;simp only[zbQ]at e
  lia
theorem Inv.tuple(I:Inv X pins σ H s)(h:SqT X.K H a xs):∃q:List Value,Vals xs q/\IsTup s.heap a q.toArray/\xs.length<=zaj:=by
 rcases h with h|⟨o,q,n,B,F,hs,G,r⟩
 ·obtain⟨z,q,r,p⟩:=h.ok I.hok
  exact⟨q,r,p.tup,z⟩
 ·refine⟨q.toList,r,⟨o,I.kIn a o B,F,n,by simpa using hs⟩,?_⟩
  have e:=r.length;simp only[zbQ]at e
  lia
theorem Inv.list_inj(I:Inv X pins σ H s)(h:SqL X.K H a xs)(h':SqL X.K H a ys):xs=ys:=by
 obtain⟨q,r,⟨o,n,e,_,_,d⟩,_⟩:=I.list h;obtain⟨its',B,⟨o',F,z,_,_,d'⟩,_⟩:=I.list h';rw[e]at z;cases z;rw[d]at d';injection d' with d1 _
 have:q=its':=by simpa using congrArg Array.toList d1
 subst this;exact r.inj B
theorem Inv.tuple_inj(I:Inv X pins σ H s)(h:SqT X.K H a xs)(h':SqT X.K H a ys):xs=ys:=by
 obtain⟨q,r,⟨o,e,_,n,d⟩,_⟩:=I.tuple h;obtain⟨its',B,⟨o',z,_,F,d'⟩,_⟩:=I.tuple h';rw[e]at z;cases z;rw[d]at d';injection d' with d1 _
 have:q=its':=by simpa using congrArg Array.toList d1
 subst this;exact r.inj B
end
abbrev Cx.wish(X:Cx)(E:Value->zad->Prop):Cx:={X with xe:=E}
abbrev Cx.nox(X:Cx):Cx:=X.wish λ_ _=>False
theorem Cx.Ok.wish{X:Cx}(ok:X.Ok)(E:Value->zad->Prop):(X.wish E).Ok:=
 ⟨ok.mod,ok.kind,ok.glob,ok.blt,ok.above,ok.inj,ok.has,ok.cab,ok.hd,ok.frames,ok.stk,ok.exf,ok.bs,ok.bsz,ok.noex,ok.exfs,ok.funs,ok.frf⟩
theorem Cx.Ok.unwish{X:Cx}{E:Value->zad->Prop}(ok:(X.wish E).Ok):X.Ok:=
 ⟨ok.mod,ok.kind,ok.glob,ok.blt,ok.above,ok.inj,ok.has,ok.cab,ok.hd,ok.frames,ok.stk,ok.exf,ok.bs,ok.bsz,ok.noex,ok.exfs,ok.funs,ok.frf⟩
section
variable {X:Cx}{pins:List (Addr×Obj)}{σ:St}{H:Hp}{s:zad}{E:Value->zad->Prop}
theorem Inv.wish(I:Inv X pins σ H s)(E:Value->zad->Prop):Inv (X.wish E) pins σ H s:=⟨I.ok.wish E,I.os,I.bare,I.base,I.loc,I.cell,I.free,I.freeC,I.pin,I.hok,I.len⟩
theorem Inv.unwish(I:Inv (X.wish E) pins σ H s):Inv X pins σ H s:=⟨I.ok.unwish,I.os,I.bare,I.base,I.loc,I.cell,I.free,I.freeC,I.pin,I.hok,I.len⟩
theorem SP.unwish(h:SP (X.wish E) pins D f s'):SP X pins D f s':=by
 cases f with
 | next=>obtain⟨z,H',I,q⟩:=h;exact⟨z,H',I.unwish,q⟩
 | brk=>obtain⟨z,H',I,q⟩:=h;exact⟨z,H',I.unwish,q⟩
 | cont=>obtain⟨z,H',I,q⟩:=h;exact⟨z,H',I.unwish,q⟩
 | ret u=>obtain⟨v,z,H',I,r,q⟩:=h;exact⟨v,z,H',I.unwish,r,q⟩
theorem PE.nox(h:PE X.nox e t):PE X e t:=λpins s σ H Q I hw=>
 za7 (h pins s σ H Q (I.wish _) hw) (λ_ _ ⟨v,H',B,r,q⟩=>⟨v,H',B.unwish,r,q⟩) λ_ _ z=>za8 z
theorem PT.nox(h:PT X.nox e t):PT X e t:=λpins s σ H Q I hw=>
 za7 (h pins s σ H Q (I.wish _) hw) (λ_ _ ⟨H',B,q⟩=>⟨H',B.unwish,q⟩) λ_ _ z=>za8 z
theorem PSs.nox{st:List Stmt}{t:TS}(h:PSs X.nox st t):PSs X st t:=λpins s σ H D I hw=>
 za7 (h pins s σ H D (I.wish _) hw) (λ_ _ q=>q.unwish) λ_ _ z=>za8 z
end
section
variable {X:Cx}{st:Stmt}{rest:List Stmt}{t u:TS}{e:Expr}{te:TE}{pos:Pos}
def X5:TS:=λD σ H=>D.nx σ H
def qq(t u:TS):TS:=λD σ H=>t {D with nx:=u D} σ H
theorem D9:PSs X [] X5:=λ_ _ σ H _ I h=>zc6 ⟨σ,H,I,h⟩
theorem dC(h1:PS X st t)(h2:PSs X rest u):PSs X (st::rest) (qq t u):=by
 intro pins s σ H D I h;refine wpAny_execs_cons (cR (h1 pins s σ H {D with nx:=u D} I h) λf F q=>?_);cases f with
 | next=>
  obtain⟨z,H',B,q⟩:=q;exact h2 pins F z H' D B q
 | ret v=>exact q
 | brk=>exact q
 | cont=>exact q
theorem gI(h1:PS X st t):PSs X [st] t:=by
 intro pins s σ H D I h;refine wpAny_execs_cons (cR (h1 pins s σ H D I h) λf z q=>?_);cases f with
 | next=>exact zc6 q
 | ret v=>exact q
 | brk=>exact q
 | cont=>exact q
theorem Inv.quiet(I:Inv X pins σ H s):interactive X.env=false:=by simp[interactive,I.ok.kind]
def Y7(te:TE):TS:=λD σ H=>te σ H λ_ H1=>D.nx σ H1
theorem xH(q:PE X e te)(hs:zaD e none pos.line X.env=pure false:=by rfl):PS X (.Expr e pos) (Y7 te):=by
 intro pins s σ H D I h;exact wpAny_Expr_any (cR (q pins s σ H _ I h) λv F ⟨x,H1,B,r1,z⟩=>⟨σ,H1,B,z⟩) I.quiet hs
def qj(te:TE):TS:=λD σ H=>te σ H D.rt
theorem DH(q:PE X e te):PS X (.Return (some e) pos) (qj te):=by
 intro pins s σ H D I h;exact wpAny_Return_some (cR (q pins s σ H _ I h) λv F ⟨x,H1,B,r1,z⟩=>⟨x,σ,H1,B,r1,z⟩)
def qaQ(c:TT)(t u:TS):TS:=λD σ H=>c σ H λb H1=>if b=true then t D σ H1 else u D σ H1
theorem TJ{c:Expr}{a b:List Stmt}{tc:TT}(G:PT X c tc)(F:PSs X a t)(J:PSs X b u):PS X (.If c a b pos) (qaQ tc t u):=by
 intro pins s σ H D I h;refine wpAny_If (cR (G pins s σ H _ I h) λd q ⟨H1,z,B⟩=>?_);cases d with
 | true=>exact F pins q σ H1 D z B
 | false=>exact J pins q σ H1 D z B
end
abbrev TG:=V->St->Hp->(St->Hp->Prop)->Prop
abbrev TR:=List V->St->Hp->(St->Hp->Prop)->Prop
def PG(X:Cx)(q:Expr)(t:TG):Prop:=
 ∀(pins:List (Addr×Obj)) (s:zad) (σ:St) (H:Hp) (v:V) (u:Value) (Q:St->Hp->Prop),Inv X pins σ H s->RelV v u->t v σ H Q->
  wpAny (model X.prog X.w) X.A (zbf q X.env u) (λ_ s'=>∃z H',Inv X pins z H' s'/\Q z H') X.xe s
def PGs(X:Cx)(ts:List Expr)(t:TR):Prop:=
 ∀(pins:List (Addr×Obj)) (s:zad) (σ:St) (H:Hp) (vs:List V) (us:List Value) (Q:St->Hp->Prop),Inv X pins σ H s->Vals vs us->t vs σ H Q->
  wpAny (model X.prog X.w) X.A (assignInOrder ((za1 ts X.env).map (·.2)) us) (λ_ s'=>∃q H',Inv X pins q H' s'/\Q q H') X.xe s
abbrev NP:=V->V->V->Hp->(Hp->Prop)->Prop
def R6(X:Cx)(t:NP):Prop:=
 ∀(pins:List (Addr×Obj)) (s:zad) (σ:St) (H:Hp) (o i v:V) (ov iv u:Value) (Q:Hp->Prop),Inv X pins σ H s->RelV o ov->RelV i iv->RelV v u->t o i v H Q->
  wpAny (model X.prog X.w) X.A (setItem ov iv u) (λ_ s'=>∃H',Inv X pins σ H' s'/\Q H') X.xe s
section
variable {X:Cx}{pos:Pos}
def i6(i:Nat):TG:=λv σ H Q=>Q (σ.set i (some v)) H
theorem gK(z:X.N.Nodup)(hi:X.N[i]?=some x)(hx:Loc X.env.scope x)(B:X.fn x=true\/X.env.scope.names.lookup x=some .local:=by first|exact .inl rfl|exact .inr rfl|assumption):PG X (.Name x pos) (i6 i):=by
 intro pins s σ H v u Q I r h;exact wpAny_assign_Name (zS I z hi hx r (λs' q=>⟨_,H,q,h⟩) B)
def qaL:TR:=λvs σ H Q=>vs=[]/\Q σ H
def S4(t:TG)(u:TR):TR:=λvs σ H Q=>∃v r,vs=v::r/\t v σ H λq H'=>u r q H' Q
theorem QI:PGs X [] qaL:=by
 intro pins s σ H vs q Q I r h;obtain⟨e,h⟩:=h;subst e;cases r;exact assignInOrder_nil ⟨σ,H,I,h⟩
theorem jT{e:Expr}{es:List Expr}{t:TG}{u:TR}(h1:PG X e t)(h2:PGs X es u)
  (hs:(za1 (e::es) X.env).map (·.2)=zbf e X.env::(za1 es X.env).map (·.2):=by rfl):PGs X (e::es) (S4 t u):=by
 intro pins s σ H vs M Q I r h;obtain⟨v,J,G,h⟩:=h;subst G;cases r with
 | cons r rr=>
  rw[hs];refine assignInOrder_cons (cR (h1 pins s σ H _ _ _ I r h) λ_ z ⟨q,H1,B,F⟩=>?_);exact h2 pins z q H1 _ _ Q B rr F
def Z0(K:zae)(n:Nat)(t:TR):TG:=λv σ H Q=>∃a xs,v=.ref a/\SqT K H a xs/\xs.length=n/\t xs σ H Q
theorem C3(G:X.calm=true)(h:PGs X es t)
  (B:(za1 es X.env).length=n:=by rfl) (q:(za1 es X.env).findIdx? (·.1)=none:=by rfl):PG X (.Tuple es k pos) (Z0 X.K n t):=by
 intro pins s σ H v u Q I r hw;obtain⟨a,xs,W,F,J,hw⟩:=hw;subst W;cases r;obtain⟨M,z,U,Y⟩:=I.tuple F;refine assign_Tuple_tuple (I.ok.hd G) U (by simp[B,<- J,z.length]) q λh' hx=>?_
 have N:Inv X pins σ H {s with heap:=h'}:=I.kept (t':=s.toks) λb o e=>hx b o (zaF (zap e)) e
 exact h pins _ σ H xs _ Q N (by simpa using z) hw
def XC(to q:TE)(t:NP):TG:=λv σ H Q=>to σ H λo H1=>q σ H1 λi H2=>t o i v H2 λz=>Q σ z
theorem MH{o i:Expr}{to B:TE}{t:NP}(ho:PE X o to)(hi:PE X i B)(hs:R6 X t)
  (J:∀v, zbf (.Subscript o i pos) X.env v = (do
   let q <- zch [v] (eval o X.env);let z <- zch [v,q] (eval i X.env)
   standAt pos
   zch [v,q,z] (setItem q z v)
   release [v,q,z] []):=by intro _;rfl):PG X (.Subscript o i pos) (XC to B t):=by
 intro pins s σ H v u Q I r h;rw[J];refine zaa (zbC (cR (ho pins s σ H _ I h) λq W ⟨x,H1,U,r1,q1⟩=>?_));refine zaa (zbC (cR (hi pins W σ H1 _ U q1) λz N ⟨y,H2,G,r2,Y⟩=>?_));refine zaa (zc7 (zaa (zbC (cR (hs pins N σ H2 x y v q z u _ G r1 r2 r Y) λ_ s3 ⟨F,I3,M⟩=>?_))));exact wpAny_release ⟨σ,F,I3,M⟩
def NS(te:TE)(g:TG):TS:=λD σ H=>te σ H λx H1=>g x σ H1 D.nx
theorem L7{tg e:Expr}{te:TE}{g:TG}(B:PE X e te)(z:PG X tg g)(hs:zc8 [tg] e pos.line X.env=pure false:=by rfl)(hw:zc9 [tg] e X.env=pure none:=by rfl)
  (h1:(za1 [tg] X.env).map (·.2)=[zbf tg X.env]:=by rfl):PS X (.Assign [tg] e pos) (NS te g):=by
 intro pins s σ H D I h;refine wpAny_Assign_stores (cR (B pins s σ H _ I h) λv F ⟨x,H1,G,r1,J⟩=>?_) hs hw;rw[h1];exact cR (z pins F σ H1 x v _ G r1 J) λ_ M q=>q
theorem MI{i:Nat}{x:Str}{e:Expr}{te:TE}{pos':Pos}(F:X.N.Nodup)(hi:X.N[i]?=some x)(hx:Loc X.env.scope x)(B:PE X e te)(hs:zaD e (some (.Name x pos')) pos.line X.env=pure false:=by rfl)(z:X.fn x=true\/X.env.scope.names.lookup x=some .local:=by first|exact .inl rfl|exact .inr rfl|assumption) :
  PS X (.Assign [.Name x pos'] e pos) (NS te (i6 i)):=by
 intro pins s σ H D I h;refine wpAny_Assign_Name (cR (B pins s σ H _ I h) λv U ⟨y,H1,G,r1,J⟩=>?_) hs;exact zS G F hi hx r1 (λM q=>⟨_,H1,q,J⟩) z
end
section
variable {X:Cx}{pos:Pos}
def UF(c:TT)(tb:TS):TS:=λD σ H=>∃W:Nat->St->Hp->Prop,(∃m,W m σ H)/\∀m σ H,W m σ H->
 c σ H λb H1=>if b=true then ∃N:St->Hp->Prop,(∀q H',N q H'->∃z,z<m/\W z q H')/\tb {D with nx:=N,ct:=N,bk:=D.nx} σ H1 else D.nx σ H1
theorem LX{c:Expr}{B:List Stmt}{tc:TT}{tb:TS}(hp:zb5 (model X.prog X.w) X.A X.env X.xe)(hc:PT X c tc)(hb:PSs X B tb):PS X (.While c B [] pos) (UF tc tb):=by
 intro pins s σ H D I h;obtain⟨W,⟨m0,w0⟩,turn⟩:=h;refine wpAny_While (codeAny_whileLoop (λn s'=>∃G H',Inv X pins G H' s'/\W n G H') ?_ m0 ⟨σ,H,I,w0⟩);rintro n s1 ⟨z,H1,I1,w1⟩;refine zci hp (cR (hc pins s1 z H1 _ I1 (turn n z H1 w1)) λb s2 ⟨H2,I2,J⟩=>?_);cases b with
 | true=>
  obtain⟨N,hN,J⟩:=J;rw[if_pos rfl];refine zci hp (cR (hb pins s2 z H2 _ I2 J) λf s3 M=>?_);cases f with
  | next=>
   obtain⟨q,F,Y,U⟩:=M;obtain⟨m',hm,w3⟩:=hN q F U;exact⟨m',hm,q,F,Y,w3⟩
  | cont=>
   obtain⟨q,F,Y,U⟩:=M;obtain⟨m',hm,w3⟩:=hN q F U;exact⟨m',hm,q,F,Y,w3⟩
  | brk=>exact M
  | ret v=>exact M
 | false=>
  rw[if_neg zaA];exact zc6 ⟨z,H2,I2,J⟩
end
structure It where
 go:Nat->Hp->Prop
 yld:Nat->Hp->V->Hp->Prop
 stop:Nat->Hp->Prop
def kB(X:Cx)(pins:List (Addr×Obj))(H:Hp)(b:Addr):Prop:=
 H b=none/\b≠X.env.locals/\b∉X.fs/\(b∈X.ex\/X.s₀.heap.objs.size<=b)/\(∀x c,X.env.cells.lookup x=some c->c≠b)/\∀p∈X.pn++pins,p.1≠b
theorem Inv.fpOk(I:Inv X pins σ H s)(B:s.heap.objs.size<=b)(G:H' b=none):kB X pins H' b:=by
 refine⟨G,zbt (zaX I.lt B),I.nofs B,.inr (zaL I.sz B),λx c e z=>?_,λp F z=>?_⟩
 ·obtain⟨v,q⟩:=I.cell x c e
  exact absurd (zaX q.lt (by rw[z];exact B)) (zb4 _)
 ·exact absurd (zaX (zap (I.pin p F).1) (by rw[z];exact B)) (zb4 _)
structure Turn(P:zah)(w:World)(K:zae)(tg:Expr)(J:It)(fp:List Addr)(it:Addr)(tn:Nat->Heap->Prop):Prop where
 mem:it∈fp
 obj:∀i h,tn i h->∀b∈fp,∃o,h.get? b=some o/\∀v,o.data≠.cell v
 keep:∀i h h',tn i h->(∀b∈fp,∀o,h.get? b=some o->h'.get? b=some o)->tn i h'
 item:∀(X:Cx),X.prog=P->X.w=w->X.K=K->X.calm=true->∀(i:Nat) (pins:List (Addr×Obj)) (s:zad) (σ:St) (H:Hp) (E:Value->zad->Prop),Inv X pins σ H s->(∀b∈fp,kB X pins H b)->tn i s.heap->J.go i H->
  wpAny (model P w) X.A (za2 (.ref it)) (λr s1=>∃u,r=some u /\
   wpAny (model P w) X.A (zda tg (.ref it) u) (λ_ s2=>∃x H',Inv X pins σ H' s2/\RelV x u/\J.yld i H x H'/\tn (i+1) s2.heap/\∀b∈fp,H' b=none) E s1) E s
 done:∀(X:Cx),X.prog=P->X.w=w->X.K=K->X.calm=true->∀(i:Nat) (pins:List (Addr×Obj)) (s:zad) (σ:St) (H:Hp) (E:Value->zad->Prop),Inv X pins σ H s->(∀b∈fp,kB X pins H b)->tn i s.heap->J.stop i H->
  wpAny (model P w) X.A (za2 (.ref it)) (λr s1=>r=none/\Inv X pins σ H s1) E s
 self:∀(A:zao) (i:Nat) (s:zad) (Q:Value->zad->Prop) (E:Value->zad->Prop),tn i s.heap->Q (.ref it) s->wpAny (model P w) A (pyIter (.ref it)) Q E s
abbrev TI:=St->Hp->(It->Hp->Prop)->Prop
def PIE(X:Cx)(pins:List (Addr×Obj))(σ:St)(tg:Expr)(R:It->Hp->Prop)(q:Value)(z:zad):Prop:=
 ∃(it:Addr) (fp:List Addr) (tn:Nat->Heap->Prop) (J:It) (H':Hp),q=.ref it/\Inv X pins σ H' z/\Turn X.prog X.w X.K tg J fp it tn/\tn 0 z.heap/\(∀b∈fp,kB X pins H' b)/\R J H'
def PI(X:Cx)(tg q:Expr)(wi:TI):Prop:=
 ∀(pins:List (Addr×Obj)) (s:zad) (σ:St) (H:Hp) (R:It->Hp->Prop),Inv X pins σ H s->wi σ H R->
  wpAny (model X.prog X.w) X.A (eval q X.env) (λv z=>wpAny (model X.prog X.w) X.A (pyIter v) (PIE X pins σ tg R) X.xe z) X.xe s
theorem t7(B:s.heap.get? it=some o)(z:o.cls=.type n)(hd:o.data=.fields vs)
    (F:["enumerate", "zip", "dict_itemiterator", "dict_reverseitemiterator", "odict_iterator", "itertools.zip_longest", "itertools.pairwise"].contains n=false) (q:Q () s):wpAny M A (zda tg (.ref it) u) Q E s:=by
  unfold zda;cases tg <;> first
    | exact zaf q
    | (cases u <;> first
        | exact zaf q
        | (refine zaa (wpAny_load B ?_)
           rw[z,hd];show wpAny M A (if(["enumerate", "zip", "dict_itemiterator", "dict_reverseitemiterator", "odict_iterator", "itertools.zip_longest", "itertools.pairwise"].contains n && vs[0]? == some (za9 _))=true then _ else _) Q E s;rw[if_neg (by intro h;rw[F,Bool.false_and]at h;cases h)];exact zaf q))
def Itl(K:zae)(a:Addr):It:=
 ⟨λi H=>∃xs x,SqL K H a xs/\xs[i]?=some x,λi H x H'=>H'=H/\∀xs,SqL K H a xs->xs[i]?=some x,λi H=>∃xs,SqL K H a xs/\xs.length<=i⟩
def Itt(K:zae)(a:Addr):It:=
 ⟨λi H=>∃xs x,SqT K H a xs/\xs[i]?=some x,λi H x H'=>H'=H/\∀xs,SqT K H a xs->xs[i]?=some x,λi H=>∃xs,SqT K H a xs/\xs.length<=i⟩
noncomputable def Itr(lo:Int)(n:Nat):It:=⟨λi _=>i<n,λi H x H'=>H'=H/\x=.int (lo+i),λi _=>n<=i⟩
theorem IE{P:zah}{w:World}{K:zae}{tg:Expr}(a it:Addr):Turn P w K tg (Itl K a) [it] it (λi h=>h.IsListIter it a i) where
 mem:=by simp
 obj:=λi h st b q=>by
  have e:b=it:=by simpa using q
  subst e;obtain⟨o,e,c,d⟩:=st;exact⟨o,e,λv z=>by rw[d]at z;cases z⟩
 keep:=λi h h' st k=>st.at λo e=>k it (by simp) o e
 item:=by
  intro X M hw hK hc i pins s σ H E I F st W;subst M hw hK;obtain⟨xs,x,G,hx⟩:=W;obtain⟨ab,N,p,hz⟩:=I.list G;obtain⟨u,hu,ru⟩:=N.get hx;obtain⟨Y,f1,f2,J,U,f5⟩:=F it (by simp);refine wpAny_pyNext_list_item st p.isList (x:=u) (by simpa using hu) λh' B sb=>?_
  have I1:Inv X pins σ H {s with heap:=h'}:=I.turned (t':=s.toks) (λb o q e=>(sb.2 b q).trans e) Y f1 J U f5;obtain⟨o,e,c,d⟩:=id B;exact⟨u,rfl,t7 (s:={s with heap:=h'}) e c d (by decide) ⟨x,H,I1,ru,⟨rfl,λys hy=>by rw[I.list_inj hy G];exact hx⟩,B,λb q=>(F b q).1⟩⟩
 done:=by
  intro X M hw hK hc i pins s σ H E I F st W;subst M hw hK;obtain⟨xs,G,hx⟩:=W;obtain⟨ab,N,p,hz⟩:=I.list G;obtain⟨Y,f1,f2,J,U,f5⟩:=F it (by simp);have hl:=N.length;exact wpAny_pyNext_list_end (I.ok.hd hc) st p.isList (by simp;lia) λh' eb=>⟨rfl,I.turned (t':=s.toks) (λb o q e=>eb b o q e) Y f1 J U f5⟩
 self:=λ_ _ _ _ _ st h=>wpAny_pyIter_listiter st h
theorem B0{P:zah}{w:World}{K:zae}{tg:Expr}(a it:Addr):Turn P w K tg (Itt K a) [it] it (λi h=>h.IsTupleIter it a i) where
 mem:=by simp
 obj:=λi h st b q=>by
  have e:b=it:=by simpa using q
  subst e;obtain⟨o,e,c,d⟩:=st;exact⟨o,e,λv z=>by rw[d]at z;cases z⟩
 keep:=λi h h' st k=>st.at λo e=>k it (by simp) o e
 item:=by
  intro X N hw hK hc i pins s σ H E I G st Y;subst N hw hK;obtain⟨xs,x,J,hx⟩:=Y;obtain⟨B,U,p,hz⟩:=I.tuple J;obtain⟨u,hu,ru⟩:=U.get hx;obtain⟨f0,f1,f2,M,W,f5⟩:=G it (by simp);refine wpAny_pyNext_tuple_item st (show s.heap.IsTuple a B.toArray from p) (x:=u) (by simpa using hu) λh' F sb=>?_
  have I1:Inv X pins σ H {s with heap:=h'}:=I.turned (t':=s.toks) (λb o q e=>(sb.2 b q).trans e) f0 f1 M W f5;obtain⟨o,e,c,d⟩:=id F;exact⟨u,rfl,t7 (s:={s with heap:=h'}) e c d (by decide) ⟨x,H,I1,ru,⟨rfl,λys hy=>by rw[I.tuple_inj hy J];exact hx⟩,F,λb q=>(G b q).1⟩⟩
 done:=by
  intro X N hw hK hc i pins s σ H E I G st Y;subst N hw hK;obtain⟨xs,J,hx⟩:=Y;obtain⟨B,U,p,hz⟩:=I.tuple J;obtain⟨f0,f1,f2,M,W,f5⟩:=G it (by simp);have hl:=U.length;exact wpAny_pyNext_tuple_end (I.ok.hd hc) st (show s.heap.IsTuple a B.toArray from p) (by simp;lia) λh' eb=>⟨rfl,I.turned (t':=s.toks) (λb o q e=>eb b o q e) f0 f1 M W f5⟩
 self:=λ_ _ _ _ _ st h=>wpAny_pyIter_tupleiter st h
theorem BK{P:zah}{w:World}{K:zae}{tg:Expr}(it:Addr)(lo:Int)(n:Nat):Turn P w K tg (Itr lo n) [it] it (λi h=>IsRangeIter h it (lo+(i:Nat)*1) ((n:Int)-(i:Nat)) 1) where
 mem:=by simp
 obj:=λi h st b q=>by
  have e:b=it:=by simpa using q
  subst e;exact⟨_,st,λv z=>by
   have z':Data.fields _=Data.cell v:=z;cases z'⟩
 keep:=λi h h' st k=>k it (by simp) _ st
 item:=by
  intro X U hw N Y i pins s σ H E I F st M;subst U hw N;obtain⟨J,f1,f2,f3,G,f5⟩:=F it (by simp);have W:=Walks.range (prog:=X.prog) (w:=X.w) (I.ok.hd Y) it lo 1 n;refine W.item i s _ _ M st λv h' tk hv B kk=>?_
  obtain⟨t,rfl⟩:=hv;have I1:Inv X pins σ H {s with heap:=h',toks:=tk}:=I.turned (λb o q e=>kk b o (by simpa using q) e) J f1 f3 G f5;refine⟨_,rfl,t7 (s:={s with heap:=h',toks:=tk}) (n := "range_iterator") B rfl rfl (by decide) ⟨.int (lo+i),H,I1,⟨t,?_⟩,⟨rfl,rfl⟩,B,λb q=>(F b q).1⟩⟩;rw[Int.mul_one]
 done:=by
  intro X U hw N Y i pins s σ H E I F st M;subst U hw N;obtain⟨J,f1,f2,f3,G,f5⟩:=F it (by simp);exact wpAny_pyNext_range_end (I.ok.hd Y) st (by have:n<=i:=M;lia) λh' eb=>⟨rfl,I.turned (t':=s.toks) (λb o q e=>eb b o q e) J f1 f3 G f5⟩
 self:=λ_ _ _ _ _ st h=>wpAny_pyIter_rangeiter st h
section
variable {X:Cx}{tg:Expr}
def Y6(K:zae)(tl:TE):TI:=λσ H R=>tl σ H λx H1=>∃a,x=.ref a/\(∃xs,SqL K H1 a xs)/\R (Itl K a) H1
def qaP(K:zae)(tl:TE):TI:=λσ H R=>tl σ H λx H1=>∃a,x=.ref a/\(∃xs,SqT K H1 a xs)/\R (Itt K a) H1
theorem OZ{l:Expr}{tl:TE}(J:PE X l tl):PI X tg l (Y6 X.K tl):=by
 intro pins s σ H R I h;refine cR (J pins s σ H _ I h) λv z ⟨x,H1,B,r1,N⟩=>?_
 obtain⟨a,e,⟨xs,F⟩,q⟩:=N;subst e;cases r1;obtain⟨G,W,p,U⟩:=B.list F;refine zb6 p.isList ?_;refine⟨z.heap.objs.size,[z.heap.objs.size],_,_,H1,rfl,B.kept (t':=z.toks) λb o e=>zan _ e,IE a _,⟨_,zaE _ rfl,rfl,rfl⟩,λb M=>?_,q⟩;have e:b=z.heap.objs.size:=by simpa using M
 subst e;exact B.fpOk (zai _) (B.hok.fresh (zai _))
theorem W2{l:Expr}{tl:TE}(J:PE X l tl):PI X tg l (qaP X.K tl):=by
 intro pins s σ H R I h;refine cR (J pins s σ H _ I h) λv z ⟨x,H1,B,r1,N⟩=>?_
 obtain⟨a,e,⟨xs,G⟩,q⟩:=N;subst e;cases r1;obtain⟨F,W,p,U⟩:=B.tuple G;refine zbR (show z.heap.IsTuple a F.toArray from p) ?_;refine⟨z.heap.objs.size,[z.heap.objs.size],_,_,H1,rfl,B.kept (t':=z.toks) λb o e=>zan _ e,B0 a _,⟨_,zaE _ rfl,rfl,rfl⟩,λb M=>?_,q⟩;have e:b=z.heap.objs.size:=by simpa using M
 subst e;exact B.fpOk (zai _) (B.hok.fresh (zai _))
theorem J2{pins:List (Addr×Obj)}{σ:St}{H:Hp}{s:zad}{R:It->Hp->Prop}{E:Value->zad->Prop}{lo hi:Int}{t u v:Tok}{tk:Nat}(I:Inv X pins σ H s)(h1:-(2^62)<=lo)(h2:lo<2^62)(B:-(2^62)<=hi)(F:hi<2^62)
  (q:R (Itr lo (hi-lo).toNat) H):wpAny (model X.prog X.w) X.A (pyIter (.ref s.heap.objs.size)) (PIE X pins σ tg R) E {s with heap:=s.heap.push {cls:=.type "range",data:=.fields #[.int lo t,.int hi u,.int 1 v]},toks:=tk}:=by
 refine wpAny_pyIter_range (IsRange.new ..) (small_one h1 h2 B F) ?_;have z:Inv X pins σ H {s with heap:=s.heap.push {cls:=.type "range",data:=.fields #[.int lo t,.int hi u,.int 1 v]},toks:=tk}:=I.kept λb o e=>zan _ e
 refine⟨(s.heap.push {cls:=.type "range",data:=.fields #[.int lo t,.int hi u,.int 1 v]}).objs.size,[(s.heap.push {cls:=.type "range",data:=.fields #[.int lo t,.int hi u,.int 1 v]}).objs.size],_,_,H,rfl,
  z.kept (t':=tk) λb o e=>zan _ e,BK _ lo (hi-lo).toNat,?_,λb J=>?_,q⟩
 ·have M:lo+((0:Nat):Int)*1=lo:=by simp
  have G:(((hi-lo).toNat:Nat):Int)-((0:Nat):Int)=Builtin.Range.rangeSize lo hi 1:=by rw[rangeSize_one];split <;> lia
  show IsRangeIter _ _ (lo+((0:Nat):Int)*1) ((((hi-lo).toNat:Nat):Int)-((0:Nat):Int)) 1;rw[M,G];exact zaE _ rfl
 ·have e:b=(s.heap.push {cls:=.type "range",data:=.fields #[.int lo t,.int hi u,.int 1 v]}).objs.size:=by simpa using J
  subst e;exact z.fpOk (zai _) (z.hok.fresh (zai _))
def ZL(ta:TA):TI:=λσ H R=>ta σ H λvs H1=>∃j:Int,vs=[.int j]/\-(2^62)<=j/\j<2^62/\R (Itr 0 j.toNat) H1
theorem HJ{a:Expr}{ta:TA}{p pos:Pos}(B:Gl X "range")(G:X.mg "range" = none)(F:PA X [a] ta)(hs:zag [a] X.env=[(false,eval a X.env)]:=by rfl):PI X tg (.Call (.Name "range" p) [a] [] pos) (ZL ta):=by
 intro pins s σ H R I h;refine Call_ (lJ I B G boot_range (zcP (cR (F pos pins s σ H _ I h) λN U ⟨vs,H1,J,r1,z⟩=>?_) hs rfl));obtain⟨j,e,z,M,q⟩:=z;subst e;cases r1 with
 | cons r rr=>
  cases rr;obtain⟨t,rfl⟩:=r;exact call_range_1 (J2 J (by lia) (by lia) z M (by simpa using q))
def qap(wi:TI)(g:TG)(tb:TS):TS:=λD σ H=>wi σ H λJ H1=>∃W:Nat->Nat->St->Hp->Prop,(∃m,W 0 m σ H1)/\∀i m σ H,W i m σ H->
 (J.stop i H/\D.nx σ H)\/(J.go i H/\∃N:St->Hp->Prop,(∀q H',N q H'->∃B,B<m/\W (i+1) B q H')/\∀x H',J.yld i H x H'->g x σ H' λz H2=>tb {D with nx:=N,ct:=N,bk:=D.nx} z H2)
noncomputable def tP(fp:List Addr)(h:Heap):List (Addr×Obj):=fp.filterMap λb=>(h.get? b).map λo=>(b,o)
theorem iK(q:b∈fp)(e:h.get? b=some o):(b,o)∈tP fp h:=List.mem_filterMap.mpr ⟨b,q,by rw[e];rfl⟩
theorem G4(B:p∈tP fp h):p.1∈fp/\h.get? p.1=some p.2:=by
 obtain⟨b,F,e⟩:=List.mem_filterMap.mp B;cases q:h.get? b with
 | none=>rw[q]at e;cases e
 | some o=>
  rw[q]at e;have z:(b,o)=p:=zay e;subst z;exact⟨F,q⟩
theorem Inv.pinned(I:Inv X pins σ H s)(G:∀b∈fp,kB X pins H b)(M:∀b∈fp,∃o,s.heap.get? b=some o/\∀v,o.data≠.cell v):Inv X (pins++tP fp s.heap) σ H s:=
 I.pins_of λp J=>(List.mem_append.mp J).elim (λz=>I.pin p (zaV _ z)) λz=>by
  obtain⟨B,e⟩:=G4 z;obtain⟨F,f1,f2,_⟩:=G p.1 B;obtain⟨o,q,d⟩:=M p.1 B;rw[e]at q;cases q;exact⟨e,F,f1,f2,d⟩
theorem Inv.unpinned(I:Inv X (pins++pl) σ H s):Inv X pins σ H s:=I.pins_of λp q=>I.pin p (zaV _ (zbs _ q))
theorem M6{F:Expr}{ac:List Stmt}{wi:TI}{g:TG}{tb:TS}{pos:Pos}(hp:zb5 (model X.prog X.w) X.A X.env X.xe)(hc:X.calm=true)(hi:PI X tg F wi)(hg:PG X tg g)(G:PSs X ac tb)
  (hs:∀x,zba F X.env x=pure x:=by intro _;rfl):PS X (.For tg F ac [] pos) (qap wi g tb):=by
 intro pins s σ H D I h;refine wpAny_For (cR (hi pins s σ H _ I h) λv s1 h1=>cR h1 λa2 s2 h2=>?_) hs;obtain⟨it,fp,tn,J,H2,e,I2,T,ak,f2,W,⟨m0,w0⟩,turn⟩:=h2;subst e
 -- what stays true of the iterator's objects through the loop
 have z:∀ {H':Hp},(∀b∈fp,H' b=none)->∀b∈fp,kB X pins H' b:=λhn b G=>⟨hn b G,(f2 b G).2⟩
 refine codeAny_forLoop_any (λn s'=>∃i M H',Inv X pins M H' s'/\tn i s'.heap/\(∀b∈fp,H' b=none)/\W i n M H') ?_ m0 ⟨0,σ,H2,I2,ak,λb G=>(f2 b G).1,w0⟩;rintro n s3 ⟨i,U,H3,I3,af,ai,w3⟩;rcases turn i n U H3 w3 with⟨ah,qn⟩|⟨go,N,hN,step⟩
 ·refine zci hp (cR (T.done X rfl rfl rfl hc i pins s3 U H3 X.xe I3 (z ai) af ah) λr s4 ⟨hr,I4⟩=>?_)
  subst hr;exact zc6 ⟨U,H3,I4,qn⟩
 ·refine zci hp (cR (T.item X rfl rfl rfl hc i pins s3 U H3 X.xe I3 (z ai) af go) λr s4 ⟨u,hr,h4⟩=>?_)
  subst hr;refine zci hp (cR h4 λ_ s5 ⟨x,H5,I5,r5,y5,ad,ap⟩=>?_);have al:=I5.pinned (z ap) (T.obj _ _ ad);refine zci hp (cR (hg _ s5 U H5 x u _ al r5 (step x H5 y5)) λ_ s6 ⟨ao,H6,I6,q6⟩=>?_);refine zci hp (cR (G _ s6 ao H6 _ I6 q6) λf s7 q7=>?_);have aa:∀ {q:St} {Y:Hp},Inv X (pins++tP fp s5.heap) q Y s7->N q Y->∃m,m<n/\∃i M H',Inv X pins M H' s7/\tn i s7.heap/\(∀b∈fp,H' b=none)/\W i m M H':=λ{q Y} B n7=>by
   obtain⟨m',hm,w7⟩:=hN q Y n7;refine⟨m',hm,i+1,q,Y,B.unpinned,T.keep _ _ _ ad λb G o e=>(B.pin (b,o) (zaV _ (zaV _ (iK G e)))).1,λb G=>?_,w7⟩;obtain⟨o,e,d⟩:=T.obj _ _ ad b G;exact(B.pin (b,o) (zaV _ (zaV _ (iK G e)))).2.1
  cases f with
  | next=>obtain⟨q,Y,B,n7⟩:=q7;exact aa B n7
  | cont=>obtain⟨q,Y,B,n7⟩:=q7;exact aa B n7
  | brk=>obtain⟨q,Y,B,q7⟩:=q7;exact⟨q,Y,B.unpinned,q7⟩
  | ret v=>obtain⟨x7,q,Y,B,r7,q7⟩:=q7;exact⟨x7,q,Y,B.unpinned,r7,q7⟩
end
abbrev R2:=V->V->Hp->VK->Prop
def OpR(X:Cx)(f:Value->Value->Sem Value)(r:R2):Prop:=
 ∀(pins:List (Addr×Obj)) (s:zad) (σ:St) (H:Hp) (x y:V) (v u:Value) (Q:VK),Inv X pins σ H s->RelV x v->RelV y u->r x y H Q->
  wpAny (model X.prog X.w) X.A (f v u) (EP X pins σ Q) X.xe s
def UnR(X:Cx)(f:Value->Sem Value)(r:V->Hp->VK->Prop):Prop:=
 ∀(pins:List (Addr×Obj)) (s:zad) (σ:St) (H:Hp) (x:V) (v:Value) (Q:VK),Inv X pins σ H s->RelV x v->r x H Q->
  wpAny (model X.prog X.w) X.A (f v) (EP X pins σ Q) X.xe s
def CallR(X:Cx)(f:Value)(r:List V->Hp->VK->Prop):Prop:=
 ∀(pins:List (Addr×Obj)) (s:zad) (σ:St) (H:Hp) (xs:List V) (us:List Value) (Q:VK),Inv X pins σ H s->Vals xs us->r xs H Q->
  wpAny (model X.prog X.w) X.A (call f us) (EP X pins σ Q) X.xe s
def qt(r:R2)(ta tb:TE):TE:=λσ H Q=>ta σ H λx H1=>tb σ H1 λy H2=>r x y H2 Q
def tUn(r:V->Hp->VK->Prop)(ta:TE):TE:=λσ H Q=>ta σ H λx H1=>r x H1 Q
def rI(C:Int->Int->Prop)(g:Int->Int->V):R2:=λx y H Q=>∃i j,x=.int i/\y=.int j/\C i j/\Q (g i j) H
def SL(g:Int->Int->V):R2:=λx y H Q=>∃i j,x=.int i/\y=.int j/\Q (g i j) H
def rU(g:Int->V):V->Hp->VK->Prop:=λx H Q=>∃i,x=.int i/\Q (g i) H
section
variable {X:Cx}{a b c:Expr}{ta tb tc:TE}{pos:Pos}
theorem W7(G:PE X a ta)(N:PE X b tb){pins:List (Addr×Obj)}{s:zad}{σ:St}{H:Hp}{R:V->V->Hp->Prop}(I:Inv X pins σ H s)
  (h:ta σ H λx H1=>tb σ H1 λy H2=>R x y H2) {Q:Value->zad->Prop} {f:Value->Value->Sem Value}
  (J:∀v u B x y H2,Inv X pins σ H2 B->RelV x v->RelV y u->R x y H2->wpAny (model X.prog X.w) X.A (f v u) Q X.xe B) :
  wpAny (model X.prog X.w) X.A (eval a X.env) (λv q=>wpAny (model X.prog X.w) X.A (eval b X.env) (λu z=>wpAny (model X.prog X.w) X.A (f v u) Q X.xe z) X.xe q) X.xe s:=by
 refine cR (G pins s σ H _ I h) λv M ⟨x,H1,W,r1,Y⟩=>?_
 refine cR (N pins M σ H1 _ W Y) λu B ⟨y,H2,F,r2,U⟩=>?_
 exact J v u B x y H2 F r1 r2 U
theorem Y9{op:Operator}{r:R2}(N:OpR X (zaM op) r)(B:PE X a ta)(G:PE X b tb):PE X (.BinOp a op b pos) (qt r ta tb):=by
 intro pins s σ H Q I h;exact wpAny_BinOp (W7 B G I h λv u J x y H2 z F M q=>N pins J σ H2 x y v u Q z F M q)
theorem YS{op:UnaryOp}{r:V->Hp->VK->Prop}(G:UnR X (unaryOp op) r)(q:PE X a ta):PE X (.UnaryOp op a pos) (tUn r ta):=by
 intro pins s σ H Q I h;exact UnaryOp_ (cR (q pins s σ H _ I h) λv B ⟨x,H1,z,r1,F⟩=>G pins B σ H1 x v Q z r1 F)
theorem qy{f:Value->Value->Sem Value}{C:Int->Int->Prop}{g:Int->Int->Int}
  (z:∀(i j:Int) (t u:Tok) (s:zad) (Q:Value->zad->Prop) (E:Value->zad->Prop),C i j->Q (.int (g i j) s.toks) {s with toks:=s.toks+1}->wpAny (model X.prog X.w) X.A (f (.int i t) (.int j u)) Q E s) :
  OpR X f (rI C λi j=>.int (g i j)):=by
 intro pins s σ H x y v u Q I F B h;obtain⟨i,j,rfl,rfl,G,q⟩:=h;obtain⟨t,rfl⟩:=F;obtain⟨t',rfl⟩:=B;exact z i j t t' s _ _ G ⟨.int (g i j),H,I.tok _,⟨_,rfl⟩,q⟩
theorem Z5{f:Value->Value->Sem Value}{g:Int->Int->Int}
  (z:∀(i j:Int) (t u:Tok) (s:zad) (Q:Value->zad->Prop) (E:Value->zad->Prop),Q (.int (g i j) s.toks) {s with toks:=s.toks+1}->wpAny (model X.prog X.w) X.A (f (.int i t) (.int j u)) Q E s) :
  OpR X f (SL λi j=>.int (g i j)):=by
 intro pins s σ H x y v u Q I F B h;obtain⟨i,j,rfl,rfl,q⟩:=h;obtain⟨t,rfl⟩:=F;obtain⟨t',rfl⟩:=B;exact z i j t t' s _ _ ⟨.int (g i j),H,I.tok _,⟨_,rfl⟩,q⟩
theorem W6{f:Value->Value->Sem Value}{g:Int->Int->Bool}
  (z:∀(i j:Int) (t u:Tok) (s:zad) (Q:Value->zad->Prop) (E:Value->zad->Prop),Q (.bool (g i j)) s->wpAny (model X.prog X.w) X.A (f (.int i t) (.int j u)) Q E s) :
  OpR X f (SL λi j=>.bl (g i j)):=by
 intro pins s σ H x y v u Q I F B h;obtain⟨i,j,rfl,rfl,q⟩:=h;obtain⟨t,rfl⟩:=F;obtain⟨t',rfl⟩:=B;exact z i j t t' s _ _ ⟨.bl (g i j),H,I,rfl,q⟩
def SF(i j:Int):Prop:=0<j/\j<1073741824
def SC(i j:Int):Prop:=0<=j/\j<=1000000/\i.natAbs<2^64
theorem UA:OpR X (zaM .Add) (SL λi j=>.int (i+j)):=Z5 λ_ _ _ _ _ _ _ q=>add_int q
theorem V0:OpR X (zaM .Sub) (SL λi j=>.int (i-j)):=Z5 λ_ _ _ _ _ _ _ q=>sub_int q
theorem RJ:OpR X (zaM .FloorDiv) (rI SF λi j=>.int (i/j)):=qy λi j _ _ _ _ _ z q=>by
 have h1:(0:Int)<j:=z.1;have h2:j<1073741824:=z.2;exact floordiv_int (by lia) (by rw[Int.fdiv_eq_ediv_of_nonneg i (by lia)];exact q) (.inl (PyProof.noPylong_small (by lia)))
theorem WU:OpR X (zaM .Mod) (rI (λ_ j=>0<j) λi j=>.int (i%j)):=qy λi j _ _ _ _ _ z q=>by
 have h1:(0:Int)<j:=z;exact mod_int' (by lia) (by rw[Int.fmod_eq_emod_of_nonneg i (by lia)];exact q)
theorem UI:OpR X (zaM .Pow) (rI SC λi j=>.int (i^j.toNat)):=qy λ_ _ _ _ _ _ _ z q=>pow_int_small z.1 z.2.1 z.2.2 q
theorem unI{f:Value->Sem Value}{g:Int->Int}
  (z:∀(i:Int) (t:Tok) (s:zad) (Q:Value->zad->Prop) (E:Value->zad->Prop),Q (.int (g i) s.toks) {s with toks:=s.toks+1}->wpAny (model X.prog X.w) X.A (f (.int i t)) Q E s) :
  UnR X f (rU λi=>.int (g i)):=by
 intro pins s σ H x v Q I B h;obtain⟨i,rfl,q⟩:=h;obtain⟨t,rfl⟩:=B;exact z i t s _ _ ⟨.int (g i),H,I.tok _,⟨_,rfl⟩,q⟩
theorem VB:UnR X (unaryOp .USub) (rU λi=>.int (-i)):=unI λ_ _ _ _ _ q=>neg_int q
end
noncomputable def XD:V->V->Bool
 | .non,.non=>true | .non,.int _=>true | .int _,.non=>true | .non,.bl _=>true | .bl _,.non=>true | .non,.str _=>true | .str _,.non=>true
 | .int _,.int _=>true | .bl _,.bl _=>true | .str _,.str _=>true | .byt _,.byt _=>true
 | .int _,.str _=>true | .str _,.int _=>true | .bl _,.str _=>true | .str _,.bl _=>true
 | _,_=>false
def rEq:R2:=λx y H Q=>XD x y=true/\Q (.bl (decide (x=y))) H
def rNe:R2:=λx y H Q=>XD x y=true/\Q (.bl (!decide (x=y))) H
theorem FR:decide (V.int i=V.int j)=(i == j):=by
 rw[zcO];simp
theorem MJ:decide (V.bl i=V.bl j)=(i == j):=by
 rw[zcO];simp
theorem FX:decide (V.str i=V.str j)=(i == j):=by
 rw[zcO];simp
theorem EI:decide (V.byt i=V.byt j)=(i.toList == j.toList):=by
 rw[zcO];cases i;cases j;simp
section
variable {X:Cx}{a b c:Expr}{ta tb tc:TE}{pos:Pos}
theorem bK(I:Inv X pins σ H s)(q:Q (.bl k) H)(e:k=k'):EP X pins σ Q (.bool k') s:=by
 subst e;exact⟨.bl k,H,I,rfl,q⟩
theorem ZK:OpR X (zaC .Eq) rEq:=by
 intro pins s σ H x y v u Q I B z h;obtain⟨hs,q⟩:=h;cases x with
 | non=>
  cases B;cases y with
  | non=>cases z;exact PySem.EqNone.eq_none_none (bK I q (by simp))
  | bl j=>cases z;exact PySem.EqNone.eq_none_bool (bK I q (by simp))
  | int j=>obtain⟨t',rfl⟩:=z;exact PySem.EqNone.eq_none_int (bK I q (by simp))
  | str j=>obtain⟨t',rfl⟩:=z;exact PySem.EqNone.eq_none_str (bK I q (by simp))
  | _=>exact absurd (show false=true from hs) zaA
 | bl i=>
  cases B;cases y with
  | non=>cases z;exact PySem.EqNone.eq_bool_none (bK I q (by simp))
  | bl j=>cases z;exact eq_bool (bK I q MJ)
  | str j=>obtain⟨t',rfl⟩:=z;exact PySem.EqMixed.eq_bool_str (bK I q (by simp))
  | _=>exact absurd (show false=true from hs) zaA
 | int i=>
  obtain⟨t,rfl⟩:=B;cases y with
  | non=>cases z;exact PySem.EqNone.eq_int_none (bK I q (by simp))
  | int j=>obtain⟨t',rfl⟩:=z;exact eq_int (bK I q FR)
  | str j=>obtain⟨t',rfl⟩:=z;exact PySem.EqMixed.eq_int_str (bK I q (by simp))
  | _=>exact absurd (show false=true from hs) zaA
 | str i=>
  obtain⟨t,rfl⟩:=B;cases y with
  | non=>cases z;exact PySem.EqNone.eq_str_none (bK I q (by simp))
  | bl j=>cases z;exact PySem.EqMixed.eq_str_bool (bK I q (by simp))
  | int j=>obtain⟨t',rfl⟩:=z;exact PySem.EqMixed.eq_str_int (bK I q (by simp))
  | str j=>obtain⟨t',rfl⟩:=z;exact eq_str (bK I q FX)
  | _=>exact absurd (show false=true from hs) zaA
 | byt i=>
  obtain⟨t,rfl⟩:=B;cases y with
  | byt j=>obtain⟨t',rfl⟩:=z;exact PySem.W.eq_bytes (bK I q EI)
  | _=>exact absurd (show false=true from hs) zaA
 | _=>cases y <;> exact absurd (show false=true from hs) zaA
theorem X3:OpR X (zaC .NotEq) rNe:=by
 intro pins s σ H x y v u Q I B z h;obtain⟨hs,q⟩:=h;cases x with
 | non=>
  cases B;cases y with
  | non=>cases z;exact PySem.EqNone.ne_none_none (bK I q (by simp))
  | bl j=>cases z;exact PySem.EqNone.ne_none_bool (bK I q (by simp))
  | int j=>obtain⟨t',rfl⟩:=z;exact PySem.EqNone.ne_none_int (bK I q (by simp))
  | str j=>obtain⟨t',rfl⟩:=z;exact PySem.EqNone.ne_none_str (bK I q (by simp))
  | _=>exact absurd (show false=true from hs) zaA
 | bl i=>
  cases B;cases y with
  | non=>cases z;exact PySem.EqNone.ne_bool_none (bK I q (by simp))
  | bl j=>cases z;exact ne_bool (bK I q (congrArg not MJ))
  | str j=>obtain⟨t',rfl⟩:=z;exact PySem.EqMixed.ne_bool_str (bK I q (by simp))
  | _=>exact absurd (show false=true from hs) zaA
 | int i=>
  obtain⟨t,rfl⟩:=B;cases y with
  | non=>cases z;exact PySem.EqNone.ne_int_none (bK I q (by simp))
  | int j=>obtain⟨t',rfl⟩:=z;exact ne_int (bK I q (congrArg not FR))
  | str j=>obtain⟨t',rfl⟩:=z;exact PySem.EqMixed.ne_int_str (bK I q (by simp))
  | _=>exact absurd (show false=true from hs) zaA
 | str i=>
  obtain⟨t,rfl⟩:=B;cases y with
  | non=>cases z;exact PySem.EqNone.ne_str_none (bK I q (by simp))
  | bl j=>cases z;exact PySem.EqMixed.ne_str_bool (bK I q (by simp))
  | int j=>obtain⟨t',rfl⟩:=z;exact PySem.EqMixed.ne_str_int (bK I q (by simp))
  | str j=>obtain⟨t',rfl⟩:=z;exact ne_str (bK I q (congrArg not FX))
  | _=>exact absurd (show false=true from hs) zaA
 | byt i=>
  obtain⟨t,rfl⟩:=B;cases y with
  | byt j=>obtain⟨t',rfl⟩:=z;exact PySem.W.ne_bytes (bK I q (congrArg not EI))
  | _=>exact absurd (show false=true from hs) zaA
 | _=>cases y <;> exact absurd (show false=true from hs) zaA
theorem ZF:OpR X (zaC .Lt) (SL λi j=>.bl (decide (i<j))):=W6 λ_ _ _ _ _ _ _ q=>lt_int q
theorem Y4:OpR X (zaC .LtE) (SL λi j=>.bl (decide (i<=j))):=W6 λ_ _ _ _ _ _ _ q=>le_int q
theorem X2:OpR X (zaC .Gt) (SL λi j=>.bl (decide (j<i))):=W6 λ_ _ _ _ _ _ _ q=>gt_int q
theorem VI:OpR X (zaC .Is) (λx y H Q=>y=.non/\Q (.bl (decide (x=.non))) H):=by
 intro pins s σ H x y v u Q I z B h;obtain⟨rfl,q⟩:=h;cases B;refine is_none_gen (bK I q ?_);cases x <;> first
  | (cases z;rfl)
  | (obtain⟨t,rfl⟩:=z;rfl)
theorem QC:OpR X (zaC .IsNot) (λx y H Q=>y=.non/\Q (.bl (!decide (x=.non))) H):=by
 intro pins s σ H x y v u Q I z B h;obtain⟨rfl,q⟩:=h;cases B;refine isnot_none_gen (bK I q ?_);cases x <;> first
  | (cases z;rfl)
  | (obtain⟨t,rfl⟩:=z;rfl)
theorem OpR.or(h:OpR X f r)(h':OpR X f r'):OpR X f (λx y H Q=>r x y H Q\/r' x y H Q):=by
 intro pins s σ H x y v u Q I z B q;rcases q with q|q
 ·exact h pins s σ H x y v u Q I z B q
 ·exact h' pins s σ H x y v u Q I z B q
theorem MY(b:Expr)(h:op≠.In:=by decide)(h2:op≠.NotIn:=by decide):zbP op b=false:=by
 have z:(op == CmpOp.In)=false:=by cases op <;> first|rfl|exact absurd rfl h
 have q:(op == CmpOp.NotIn)=false:=by cases op <;> first|rfl|exact absurd rfl h2
 cases b <;> simp[zbP,z,q]
theorem OB(U:OpR X (zaC op) r)(B:PE X a ta)(J:PE X b tb)(F:zbP op b=false):PE X (.Compare a [op] [b] pos) (qt r ta tb):=by
 intro pins s σ H Q I h;exact wpAny_Compare1 (W7 B J I h λv u M x y H2 z G N q=>U pins M σ H2 x y v u Q z G N q) F
def YA(t:TE):TT:=λσ H Q=>t σ H λx H'=>∃k,x=.bl k/\Q k H'
theorem N6{op:CmpOp}{r:R2}(ho:OpR X (zaC op) r)(F:PE X a ta)(U:PE X b tb)(G:zbP op b=false):PT X (.Compare a [op] [b] pos) (YA (qt r ta tb)):=by
 intro pins s σ H Q I h;refine wpAny_isTrue_Compare1 (cR (F pins s σ H _ I h) λv N ⟨x,H1,Y,r1,q1⟩=>cR (U pins N σ H1 _ Y q1) λu M ⟨y,H2,B,r2,W⟩=>
  cR (ho pins M σ H2 x y v u _ B r1 r2 W) λc s3 ⟨z,q,I3,r3,k,e,J⟩=>?_) G
 subst e;cases r3;exact zcx ⟨q,I3,J⟩
theorem tO:(zaj:Nat)<2^63:=by rw[zcQ];decide
theorem BN:OpR X (zaM .Add) (λx y H Q=>∃i j,x=.str i/\y=.str j/\i.length+j.length<=zaj/\Q (.str (i++j)) H):=by
 intro pins s σ H x y v u Q I B F h;obtain⟨i,j,rfl,rfl,z,q⟩:=h;obtain⟨t,rfl⟩:=B;obtain⟨t',rfl⟩:=F;exact add_str (λt' tk=>⟨.str (i++j),H,I.tok _,⟨_,rfl⟩,q⟩) z
theorem vals1(r:Vals [x] us):∃u,us=[u]/\RelV x u:=by
 cases r with
 | cons r1 r2=>cases r2;exact⟨_,rfl,r1⟩
theorem vals2(r:Vals [x,y] us):∃u q,us=[u,q]/\RelV x u/\RelV y q:=by
 cases r with
 | cons r1 r2=>
  cases r2 with
  | cons r3 r4=>cases r4;exact⟨_,_,rfl,r1,r3⟩
theorem IT(B:X.calm=true):CallR X (.builtin "max") (λxs H Q=>∃i j,xs=[.int i,.int j]/\Q (.int (if j>i then j else i)) H):=by
 intro pins s σ H xs F Q I r h;obtain⟨i,j,rfl,q⟩:=h;obtain⟨u,G,rfl,⟨t,rfl⟩,⟨t',rfl⟩⟩:=vals2 r;refine max_two_ints (I.ok.hd B) λh' tk k=>⟨_,H,I.kept k,?_,q⟩
 by_cases z:j>i
 ·rw[if_pos z,if_pos z];exact⟨_,rfl⟩
 ·rw[if_neg z,if_neg z];exact⟨_,rfl⟩
theorem HW(B:X.calm=true):CallR X (.builtin "min") (λxs H Q=>∃i j,xs=[.int i,.int j]/\Q (.int (if j<i then j else i)) H):=by
 intro pins s σ H xs F Q I r h;obtain⟨i,j,rfl,q⟩:=h;obtain⟨u,G,rfl,⟨t,rfl⟩,⟨t',rfl⟩⟩:=vals2 r;refine min_two_ints (I.ok.hd B) λh' tk k=>⟨_,H,I.kept k,?_,q⟩
 by_cases z:j<i
 ·rw[if_pos z,if_pos z];exact⟨_,rfl⟩
 ·rw[if_neg z,if_neg z];exact⟨_,rfl⟩
theorem GQ:CallR X (.type "int") (λxs H Q=>(∃i,xs=[.int i]/\Q (.int i) H)\/∃k,xs=[.bl k]/\Q (.int (if k then 1 else 0)) H):=by
 intro pins s σ H xs z Q I r h;rcases h with⟨i,rfl,q⟩|⟨k,rfl,q⟩
 ·obtain⟨u,rfl,t,rfl⟩:=vals1 r
  exact call_int_int ⟨.int i,H,I,⟨_,rfl⟩,q⟩
 ·obtain⟨u,rfl,r1⟩:=vals1 r
  cases r1;exact call_int_bool ⟨.int (if k then 1 else 0),H,I.tok _,⟨_,rfl⟩,q⟩
def qaZ(K:zae)(x:V)(H:Hp)(n:Nat):Prop:=
 match x with
 | .str y=>y.length<=zaj/\n=y.length
 | .byt y=>y.size<=zaj/\n=y.size
 | .ref p=>(∃xs,SqL K H p xs/\n=xs.length)\/∃xs,SqT K H p xs/\n=xs.length
 | _=>False
theorem sW:CallR X (.builtin "len") (λxs H Q=>∃x n,xs=[x]/\qaZ X.K x H n/\Q (.int n) H):=by
 intro pins s σ H xs Y Q I r h;obtain⟨x,n,rfl,e,q⟩:=h;obtain⟨u,rfl,J⟩:=vals1 r;have hl:=tO;have hs:zaj=16777216:=zcQ;cases x with
 | str y=>
  obtain⟨t,rfl⟩:=J;obtain⟨U,B⟩:y.length<=zaj/\n=y.length:=e;subst B;exact len_str (by lia) ⟨.int _,H,I.tok _,⟨_,rfl⟩,q⟩
 | byt y=>
  obtain⟨t,rfl⟩:=J;obtain⟨U,B⟩:y.size<=zaj/\n=y.size:=e;subst B;exact PySem.W.len_bytes (by lia) ⟨.int _,H,I.tok _,⟨_,rfl⟩,q⟩
 | ref p=>
  cases J;have B:(∃xs,SqL X.K H p xs/\n=xs.length)\/∃xs,SqT X.K H p xs/\n=xs.length:=e;rcases B with⟨xs,hx,B⟩|⟨xs,hx,B⟩
  ·subst B
   obtain⟨M,F,G,N⟩:=I.list hx;have z:=F.length;exact Calls.call_len_list G.isList (by simp only[zax];lia) ⟨.int xs.length,H,I.tok _,⟨_,by simp only[zax];rw[z]⟩,q⟩
  ·subst B
   obtain⟨M,F,G,N⟩:=I.tuple hx;have z:=F.length;exact len_tuple G (by simp only[zax];lia) ⟨.int xs.length,H,I.tok _,⟨_,by simp only[zax];rw[z]⟩,q⟩
 | _=>exact(show False from e).elim
end
structure ObjM(h:Heap)(x dx C:Addr)(mA:Str->Option Value):Prop where
 obj:h.get? x=some (zb3 C dx)
 ns:h.Ns1 dx mA
 ne:dx≠x
theorem IR{h:Heap}{dx:Addr}{mA:Str->Option Value}(n:h.Ns1 dx mA):∃od,h.get? dx=some od/\∀name,PySem.W.lookIn name od=some (mA name):=by
 obtain⟨o,es,ep,N,hd,M,_,G⟩:=n;refine⟨o,N,λname=>?_⟩;have e:=G name;unfold nsFind findBy at e;rw[<- Array.find?_toList]at e;unfold PySem.W.lookIn;rw[hd];dsimp only;split
 ·rename_i y q
  rw[q]at e;exact congrArg some e
 ·rename_i q
  rw[q]at e;have a:es.toList.any (·.refKey)=false:=by
   rw[List.any_eq_false];intro y J;obtain⟨z,t,B⟩:=M y (Array.mem_toList_iff.mp J);simp[DictEntry.refKey,B]
  have F:¬ es.toList.any (·.refKey)=true:=by rw[a];exact zaA
  rw[if_neg F];exact congrArg some e
theorem ObjM.look(I:ObjM h x dx C mA):∃od,PySem.W.InstAt h x (zb3 C dx) C (some od)/\∀name,PySem.W.lookIn name od=some (mA name):=
 let ⟨od,ho,hl⟩:=IR I.ns
 ⟨od,⟨I.obj,rfl,rfl,ho⟩,hl⟩
section
variable {prog:zah}{w:World}{A:zao}{E:Value->zad->Prop}{s:zad}{K:zae}{x dx C f:Addr}{mA:Str->Option Value}{name:Str}{v:Value}
theorem N5(X:K.In s.heap)(I:ObjM s.heap x dx C mA)(z:zdb K C name=true)(F:zdc K C=true)
  (B:zbu K (.ref C) name=some none) (M:mA name=some v) (q:PySem.W.handedIn v=true) (h:Q v {s with toks:=s.toks+1}) :
  wpAny (model prog w) A (getAttr (.ref x) name expr) Q E s:=by
 obtain⟨od,J,G⟩:=I.look;exact PySem.W.get_value X J (PySem.W.plainGet_of z).1 (PySem.W.findObj_own F B rfl (by rw[G,M])) q h
theorem PQ(X:K.In s.heap)(I:ObjM s.heap x dx C mA)
  (hs:zbu K (.ref C) "__setattr__" = some (some (.builtin "object.__setattr__"))) (hp:zdV K C=true) (ht:zdW K C name=some none) (hh:zdc K C=true)
  (hw:PySem.Within mA ns) (hsz:ns.length<=zaj)
  (h:∀h',ObjM h' x dx C (λy=>if y=name then some v else mA y)->za4 dx s.heap h'->Q () {s with heap:=h',toks:=s.toks+2}) :
  wpAny (model prog w) A (setAttr (.ref x) name v) Q E s:=by
 obtain⟨od,J,hl⟩:=I.look;refine PySem.W.set_plain X J hs (PySem.W.osa_open (s:={s with toks:=s.toks+1}) (r:=none) X J hp ht λb=>?_);obtain⟨cd,Y,M⟩:=PySem.W.any_some hh;have hx:s.heap.get? x=some ⟨.ref C,some dx,.plain,#[]⟩:=I.obj;refine zaa (zaf (zaa (zaa (wpAny_loadPart hx (zaa (PySem.W.Looks.here (s:={s with toks:=s.toks+1}) (PySem.W.looks_clsIn X Y) ?_))))));rw[M];refine zaf (a:=some dx) (zaa (zaf (zaa ?_)));refine wpAny_nsSet1 (s:={s with toks:=s.toks+1}) I.ns λh' q z=>?_
 obtain⟨oD,U,N,F,G,B⟩:=q.count (PySem.Within.cons name v hw);refine zaa (wpAny_lookBehind F (by rw[G];exact pastItsLine_dict (zaL B (by rw[zaz];lia))) ?_);exact zaf (h _ ⟨(z.2 _ (zaU I.ne)).trans I.obj,q,I.ne⟩ z)
theorem KD(X:K.In s.heap)(z:zdX K C=true)
  (hi:zbu K (.ref C) "__init__" = some (some (.ref f))) (B:PySem.W.typeIn K (.ref f)=some (.type "function"))
  (h:zbD (model prog w) (A.under (.builtin "type.__call__" ⟨.ref C::vs, kw⟩)) (.call (.ref f) ⟨.ref (s.heap.objs.size+1)::vs, kw⟩) (PySem.W.InitBack (s.heap.objs.size+1) R)
   {s with heap:=(s.heap.push zbS).push (zb3 C s.heap.objs.size)}) :
  zbD (model prog w) A (.call (.ref C) ⟨vs,kw⟩) R s:=by
 obtain⟨F,g,d,t,G⟩:=s;exact PySem.W.make_core (PySem.W.makes_of X z) (PySem.W.looks_findIn X hi) (λq=>PySem.W.bind_fn X q B) (.inl rfl) h
end
noncomputable def iZ(f:Str)(v:V):List (Str×V)->List (Str×V)
 | []=>[(f,v)]
 | (g,x)::r=>if g=f then(g,v)::r else(g,x)::iZ f v r
theorem oT(f g:Str)(v:V):∀fs:List (Str×V),(iZ f v fs).lookup g=if g=f then some v else fs.lookup g
 | []=>by
  show zcj g [(f,v)]=_;by_cases h:g=f
  ·have q:(g == f)=true:=beq_iff_eq.mpr h
   simp only[zcj,q,if_pos h]
  ·have q:(g == f)=false:=beq_eq_false_iff_ne.mpr h
   simp only[zcj,q,if_neg h]
 | (k,x)::r=>by
  have ih:=oT f g v r;rw[show iZ f v ((k,x)::r)=(if k=f then(k,v)::r else(k,x)::iZ f v r)from rfl];by_cases z:k=f
  ·rw[if_pos z]
   by_cases h:g=k
   ·have q:(g == k)=true:=beq_iff_eq.mpr h
    simp only[zcj,q,if_pos (h.trans z)]
   ·have q:(g == k)=false:=beq_eq_false_iff_ne.mpr h
    simp only[zcj,q,if_neg (λe:g=f=>h (e.trans z.symm))]
  ·rw[if_neg z]
   by_cases h:g=k
   ·have q:(g == k)=true:=beq_iff_eq.mpr h
    simp only[zcj,q,if_neg (λe:g=f=>z (h.symm.trans e))]
   ·have q:(g == k)=false:=beq_eq_false_iff_ne.mpr h
    simp only[zcj,q];exact ih
theorem nQ(f:Str)(v:V):∀fs:List (Str×V),f∈(iZ f v fs).map (·.1)/\∀g,g∈fs.map (·.1)->g∈(iZ f v fs).map (·.1)
 | []=>⟨by simp[iZ],λg h=>by simp at h⟩
 | (k,x)::r=>by
  obtain⟨B,z⟩:=nQ f v r;rw[show iZ f v ((k,x)::r)=(if k=f then(k,v)::r else(k,x)::iZ f v r)from rfl];by_cases q:k=f
  ·rw[if_pos q]
   subst q;exact⟨by simp,λg h=>by simpa using h⟩
  ·rw[if_neg q]
   refine⟨?_,λg h=>?_⟩
   ·rw[zak]
    exact zaq _ B
   ·rw[zak]at h ⊢
    rcases List.mem_cons.mp h with e|e
    ·exact List.mem_cons.mpr (.inl e)
    ·exact zaq _ (z g e)
theorem pH(f:Str)(v:V):∀fs:List (Str×V),(iZ f v fs).length<=fs.length+1
 | []=>by simp[iZ]
 | (k,x)::r=>by
  have ih:=pH f v r;rw[show iZ f v ((k,x)::r)=(if k=f then(k,v)::r else(k,x)::iZ f v r)from rfl];by_cases q:k=f
  ·rw[if_pos q,zaz,zaz];lia
  ·rw[if_neg q,zaz,zaz];lia
theorem RelO.some_of(r:RelO (some v) o):∃u,o=some u/\RelV v u:=by
 cases o with
 | none=>exact(show False from r).elim
 | some u=>exact⟨u,rfl,r⟩
theorem HD(r:RelV v u):PySem.W.handedIn u=true:=by
 cases v with
 | non=>cases(show u=za5 from r);rfl
 | bl b=>cases(show u=zcK b from r);rfl
 | int i=>obtain⟨t,e⟩:=(show ∃t,u=zcv i t from r);cases e;rfl
 | str x=>obtain⟨t,e⟩:=(show ∃t,u=zcJ x t from r);cases e;rfl
 | byt b=>obtain⟨t,e⟩:=(show ∃t,u=Value.bytes b t from r);cases e;rfl
 | flt b=>obtain⟨t,e⟩:=(show ∃t,u=Value.float b t from r);cases e;rfl
 | ref a=>cases(show u=zau a from r);rfl
 | ty n=>cases(show u=Value.type n from r);rfl
section
variable {P:zah}{w:World}{H H':Hp}{h h':Heap}{a C dx:Addr}{fs fs':List (Str×V)}
theorem wM(B:HOk P w H h)(e:H a=some (.ins C dx fs)):∃mA,ObjM h a dx C mA/\(∀f,RelO (fs.lookup f) (mA f))/\PySem.Within mA (fs.map (·.1))/\fs.length<=1000/\H dx=some (.own a):=by
 obtain⟨d,z,G,F,mA,n,r,q⟩:=(show ObjOk P w H h a (.ins C dx fs)from B a _ e);exact⟨mA,⟨F,n,G⟩,r,q,z,d⟩
end
structure Cls(K:zae)(C:Addr):Prop where
 pg:zdb K C Str.empty=true
 hd:zdc K C=true
 po:zdV K C=true
 sa:zbu K (.ref C) "__setattr__" = some (some (.builtin "object.__setattr__"))
theorem Cls.get{K:zae}{C:Addr}(c:Cls K C)(f:Str):zdb K C f=true:=c.pg
def NoAttr(K:zae)(C:Addr)(f:Str):Prop:=zbu K (.ref C) f=some none
theorem NoAttr.taker{K:zae}{C:Addr}{f:Str}(n:NoAttr K C f):zdW K C f=some none:=by
 unfold zdW;rw[show zbu K (.ref C) f=some none from n];rfl
section
variable {X:Cx}{pins:List (Addr×Obj)}{σ:St}{H:Hp}{s:zad}{a C dx:Addr}{fs:List (Str×V)}{f:Str}{v:V}{A:zao}{E:Value->zad->Prop}
theorem B7(I:Inv X pins σ H s)(e:H a=some (.ins C dx fs))(c:Cls X.K C)(n:NoAttr X.K C f)(l:fs.lookup f=some v)
  (h:∀u s',Inv X pins σ H s'->RelV v u->Q u s'):wpAny (model X.prog X.w) A (getAttr (.ref a) f b) Q E s:=by
 obtain⟨mA,O,r,_,_,_⟩:=wM I.hok e;obtain⟨u,z,q⟩:=RelO.some_of (v:=v) (o:=mA f) (by rw[<- l];exact r f);exact N5 I.kIn O (c.get f) c.hd n z (HD q) (h u _ (I.tok _) q)
theorem B6(I:Inv X pins σ H s)(e:H a=some (.ins C dx fs))(c:Cls X.K C)(n:NoAttr X.K C f)(N:fs.length<1000)(M:RelV y u)
  (h:∀s',Inv X pins σ (upd H a (.ins C dx (iZ f y fs))) s'->Q () s'):wpAny (model X.prog X.w) A (setAttr (.ref a) f u) Q E s:=by
 obtain⟨mA,O,r,wi,_,B⟩:=wM I.hok e;have G:(fs.map (·.1)).length<=zaj:=by rw[zal,zcQ];lia
 refine PQ I.kIn O c.sa c.po n.taker c.hd wi G λh' O' sb=>h _ ?_
 have hd:∃o,h'.get? dx=some o:=let ⟨o,_,_,e',_⟩:=O'.ns;⟨o,e'⟩;refine I.write (x:=a) (e:=dx) (by rw[e];exact zaY) (.inr B) (λb q J z=>(sb.2 b J).trans z) hd ?_;refine⟨by rw[aE O.ne];exact B,?_,O.ne,O'.obj,_,O'.ns,λg=>?_,λg F=>?_⟩
 ·have:=pH f y fs;lia
 ·show RelO ((iZ f y fs).lookup g) (if g=f then some u else mA g)
  rw[oT];by_cases q:g=f
  ·rw[if_pos q,if_pos q];exact M
  ·rw[if_neg q,if_neg q];exact r g
 ·by_cases q:g=f
  ·rw[q];exact(nQ f y fs).1
  ·refine(nQ f y fs).2 g (wi g λz=>F ?_)
   show(if g=f then some u else mA g)=none;rw[if_neg q];exact z
theorem Inv.made(I:Inv X pins σ H s):Inv X pins σ (upd (upd H s.heap.objs.size (.own (s.heap.objs.size+1))) (s.heap.objs.size+1) (.ins C s.heap.objs.size []))
  {s with heap:=(s.heap.push zbS).push (zb3 C s.heap.objs.size)}:=by
 have B:(s.heap.push zbS).get? s.heap.objs.size=some zbS:=zaE s.heap rfl;have F:((s.heap.push zbS).push (zb3 C s.heap.objs.size)).get? (s.heap.objs.size+1)=some (zb3 C s.heap.objs.size):=by
  have:=zaE (s.heap.push zbS) (o:=zb3 C s.heap.objs.size) rfl
  rwa [zbT]at this
 have N:(s.heap.push zbS).Ns s.heap.objs.size (λ_=>none):=⟨zbS,#[],_,B,rfl,(λe G=>absurd G (by simp)),λ_=>rfl⟩;have M:=I.laid (a:=s.heap.objs.size) (o:=.own (s.heap.objs.size+1)) (h':=s.heap.push zbS) (t':=s.toks) (λb u q=>zan _ q) (zai _) ⟨_,B⟩;refine M.laid (a:=s.heap.objs.size+1) (o:=.ins C s.heap.objs.size []) (t':=s.toks) (λb u q=>zan _ q) (Nat.le_of_eq (zbT _ _)) ?_;have z:s.heap.objs.size≠s.heap.objs.size+1:=zaF (zdd _);refine⟨by rw[aE z,aH],zaI _,z,F,λ_=>none,(Heap.Ns1.of_empty N).at λo q=>zan _ q,λ_=>zaY,λy J=>absurd rfl J⟩
theorem PX{prog:zah}{w:World}{env:Env}{e:Expr}{f:Str}{pos:Pos}{s:zad}{Q:Value->zad->Prop}(z:zaN e f env (eval e env)=eval e env)
  (h:wpAny (model prog w) A (eval e env) (λo q=>wpAny (model prog w) A (getAttr o f true) Q E q) E s):wpAny (model prog w) A (eval (.Attribute e f pos) env) Q E s:=
 Attribute_any_ h (by rw[arm_eval_Attribute,z])
end
def qk(K:zae)(ta:TE)(f:Str):TE:=λσ H Q=>ta σ H λx H1=>∃a C dx fs v,x=.ref a/\H1 a=some (.ins C dx fs)/\Cls K C/\NoAttr K C f/\fs.lookup f=some v/\Q v H1
def qaV(K:zae)(ta tv:TE)(f:Str):TS:=λD σ H=>tv σ H λy H1=>ta σ H1 λx H2=>∃a C dx fs,x=.ref a/\H2 a=some (.ins C dx fs)/\Cls K C/\NoAttr K C f/\fs.length<1000 /\
 D.nx σ (upd H2 a (.ins C dx (iZ f y fs)))
section
variable {X:Cx}{o e value:Expr}{f:Str}{pos pos' tpos:Pos}{ta tv:TE}
theorem jU(G:PE X e ta)(M:zaN e f X.env (eval e X.env)=eval e X.env):PE X (.Attribute e f pos) (qk X.K ta f):=by
 intro pins s σ H Q I h;refine PX M (cR (G pins s σ H _ I h) λu U ⟨x,H1,N,J,a,C,dx,fs,v,ex,z,c,n,l,q⟩=>?_);subst ex;obtain rfl:u=zau a:=J;exact B7 N z c n l λW Y B F=>⟨v,H1,B,F,q⟩
theorem tN(F:PE X o ta)(M:PE X value tv)(hs:zaD value (some (.Attribute o f pos')) pos.line X.env=pure false):PS X (.Assign [.Attribute o f pos'] value pos) (qaV X.K ta tv f):=by
 intro pins s σ H D I h;refine plainObj_wpAny_Assign_Attribute (cR (M pins s σ H _ I h) λu J ⟨y,H1,U,W,q⟩=>cR (F pins J σ H1 _ U q) λov s2 ⟨x,H2,B,G,a,C,dx,fs,ex,z,c,n,l,N⟩=>?_) hs;subst ex;obtain rfl:ov=zau a:=G;exact B6 B z c n l W λs3 Y=>⟨σ,_,Y,N⟩
end
section
variable {X:Cx}{pins:List (Addr×Obj)}{σ:St}{H:Hp}{s:zad}{A:zao}{E:Value->zad->Prop}{Q:Value->zad->Prop}{c:Value}{b:Bool}
inductive TyOf(K:zae)(H:Hp):V->Value->Prop where
 | non:TyOf K H .non (.type "NoneType")
 | bl (x:Bool):TyOf K H (.bl x) (.type "bool")
 | int (i:Int):TyOf K H (.int i) (.type "int")
 | str (x:Str):TyOf K H (.str x) (.type "str")
 | flt (x:UInt64):TyOf K H (.flt x) (.type "float")
 | lst {a:Addr} {xs:List V} (e:H a=some (.lst xs)):TyOf K H (.ref a) (.type "list")
 | frz {a:Addr} {o:Obj} {xs:List V} (e:H a=some (.frz o (.lst xs))):TyOf K H (.ref a) (.type "list")
 | tup {a:Addr} {xs:List V} (e:H a=some (.tup xs)):TyOf K H (.ref a) (.type "tuple")
 | dK {a:Addr} {kvs:List (Key×V)} (e:H a=some (.dK kvs)):TyOf K H (.ref a) (.type "dict")
 | dT {a:Addr} {kvs:List (List Key×V)} (e:H a=some (.dT kvs)):TyOf K H (.ref a) (.type "dict")
 | ins {a C dx:Addr} {fs:List (Str×V)} (e:H a=some (.ins C dx fs)) (cl:Cls K C) (ha:zbu K (.ref C) "__class__" = some (some (.builtin "object.__class__")))
   (hn:PySem.W.specialIn K (.builtin "object.__class__") "__get__" = some (some (.builtin "getset_descriptor.__get__"))) (htk:PySem.W.takesIn K (.builtin "object.__class__")=some true)
   (hm:PySem.W.mroIn K C (.type "object")=some true):TyOf K H (.ref a) (.ref C)
theorem IG(I:Inv X pins σ H s)(B:RelV x u)(ty:TyOf X.K H x t)(e:zde X.K t c=some b)(h:∀tk,Q (.bool b) {s with toks:=tk}) :
  wpAny (model X.prog X.w) A (call (.builtin "isinstance") [u,c]) Q E s:=by
 cases ty with
 | non=>cases(show u=za5 from B);exact zbl PySem.W.kitx_none I.kIn zaY e (λz=>nomatch z) h
 | bl y=>cases(show u=zcK y from B);exact zbl PySem.W.kitx_bool I.kIn zaY e (λz=>nomatch z) h
 | int i=>obtain⟨t,q⟩:=(show ∃t,u=zcv i t from B);cases q;exact zbl PySem.W.kitx_int I.kIn zaY e (λz=>nomatch z) h
 | str y=>obtain⟨t,q⟩:=(show ∃t,u=zcJ y t from B);cases q;exact zbl PySem.W.kitx_str I.kIn zaY e (λz=>nomatch z) h
 | flt y=>obtain⟨t,q⟩:=(show ∃t,u=Value.float y t from B);cases q;exact zbl PySem.W.kitx_float I.kIn zaY e (λz=>nomatch z) h
 | @lst a xs ea=>
  cases(show u=zau a from B);obtain⟨_,_,n,_,h1⟩:=(show ObjOk X.prog X.w H s.heap a (.lst xs)from I.hok a _ ea);exact zbl PySem.W.kitx_list I.kIn ⟨_,h1,rfl⟩ e (λz=>nomatch z) h
 | @frz a ob xs ea=>
  cases(show u=zau a from B);obtain⟨_,_,_,n,_,h1⟩:=(show ObjOk X.prog X.w H s.heap a (.frz ob (.lst xs))from I.hok a _ ea);exact zbl PySem.W.kitx_list I.kIn ⟨_,h1,rfl⟩ e (λz=>nomatch z) h
 | @tup a xs ea=>
  cases(show u=zau a from B);obtain⟨_,_,_,p⟩:=(show ObjOk X.prog X.w H s.heap a (.tup xs)from I.hok a _ ea);obtain⟨o,h1,h2,_⟩:=p;exact zbl PySem.W.kitx_tuple I.kIn ⟨o,h1,h2⟩ e (λz=>nomatch z) h
 | @dK a kvs ea=>
  cases(show u=zau a from B);obtain⟨_,_,vs,_,p⟩:=(show ObjOk X.prog X.w H s.heap a (.dK kvs)from I.hok a _ ea);obtain⟨o,es,ep,h1,h2,_⟩:=p;exact zbl zdf I.kIn ⟨o,h1,h2.1⟩ e (λz=>nomatch z) h
 | @dT a kvs ea=>
  cases(show u=zau a from B);obtain⟨_,_,xs,_,o,es,ep,h1,h2,_⟩:=(show ObjOk X.prog X.w H s.heap a (.dT kvs)from I.hok a _ ea);exact zbl zdf I.kIn ⟨o,h1,h2.1⟩ e (λz=>nomatch z) h
 | @ins a C dx fs ea cl ha hn htk hm=>
  cases(show u=zau a from B);obtain⟨mA,O,_⟩:=wM I.hok ea;obtain⟨od,J,_⟩:=O.look;exact zbl (PySem.W.kitx_own (cl.get _) cl.hd ha hn htk hm) I.kIn J e (λz=>nomatch z) h
end
structure Room(k:Nat)(A:zao):Prop where
 hd:A.handled=none
 dp:A.depth+3*k+5<recursionLimit
 un:A.units+16*k+200<cLine
theorem Room.mono(r:Room k A)(h:j<=k):Room j A:=⟨r.hd,by have:=r.dp;lia,by have:=r.un;lia⟩
theorem Room.deeper(r:Room (k+1) A)(env:Env):Room k (A.deeper env):=
 ⟨r.hd,by have:=r.dp;show A.depth+1+3*k+5<_;lia,by have:=r.un;show A.units+3+16*k+200<_;lia⟩
theorem BS{A:zao}{C:Addr}{q:List Value}{kw:List (Str×Value)}:(A.under (.builtin "type.__call__" ⟨.ref C::q,kw⟩)).depth=A.depth+1:=by
 first|rfl|simp[Around.under,Code.weight,Code.isCreation,Code.isGuard,Code.isCaller,Code.frames,Code.isFrame,guardIds]
theorem B1{A:zao}{C:Addr}{q:List Value}{kw:List (Str×Value)}:(A.under (.builtin "type.__call__" ⟨.ref C::q,kw⟩)).units=A.units+1:=by
 first|rfl|simp[Around.under,Code.cUnits,Code.frames,Code.isFrame]
theorem Room.make(r:Room (k+1) A)(C:Addr)(q:List Value)(kw:List (Str×Value)):Room k (A.under (.builtin "type.__call__" ⟨.ref C::q,kw⟩)):=
 ⟨r.hd,by have:=r.dp;rw[BS];lia,by have:=r.un;rw[B1];lia⟩
theorem Room.depth(r:Room k A):A.depth<recursionLimit:=by have:=r.dp;lia
theorem Room.units(r:Room k A):A.units+64<cLine:=by have:=r.un;lia
theorem Room.units0(r:Room k A):A.units<cLine:=by have:=r.un;lia
def SA:TA:=λ_ H Q=>Q [] H
def v8(ta:TE)(q:TA):TA:=λσ H Q=>ta σ H λx H1=>q σ H1 λxs H2=>Q (x::xs) H2
section
variable {X:Cx}{e:Expr}{es:List Expr}{te:TE}{t:TA}{pos:Pos}
theorem fO:PA X [] SA:=λ_ _ _ _ H Q I h=>Calls.spliced_nil ⟨[],H,I,.nil,h⟩
theorem cV(z:PE X e te)(F:PA X es t)(hs:zag (e::es) X.env=(false,eval e X.env)::zag es X.env:=by rfl):PA X (e::es) (v8 te t):=by
 intro pos pins s σ H Q I h;rw[hs];show wpAny _ _ (spliced ((false,eval e X.env)::zaG pos (zag es X.env))) _ _ s;refine Calls.spliced_cons (cR (z pins s σ H _ I h) λu G ⟨x,H1,J,r1,B⟩=>?_);exact cR (F pos pins G σ H1 _ J B) λN U ⟨xs,H2,q,r2,M⟩=>⟨x::xs,H2,q,.cons r1 r2,M⟩
def qau(t:TA):TE:=λσ H Q=>t σ H λxs H1=>xs.length<=zaj/\∀p,H1 p=none->Q (.ref p) (upd H1 p (.tup xs))
def qaU(t:TA):TE:=λσ H Q=>t σ H λxs H1=>xs.length<=zaj/\∀p,H1 p=none->Q (.ref p) (upd H1 p (.lst xs))
theorem WO{x1}(h:PA X es t):PE X (.Tuple es x1 pos) (qau t):=by
 intro pins s σ H Q I G;refine wpAny_Tuple_spliced (cR (h pos pins s σ H _ I G) λM B ⟨xs,H1,F,r,z,q⟩=>⟨by rw[<- r.length];exact z,?_⟩);have J:H1 B.heap.objs.size=none:=F.hok.fresh (zai _);refine⟨.ref B.heap.objs.size,upd H1 B.heap.objs.size (.tup xs),F.laid (t':=B.toks) (λb u e=>zan _ e) (zai _) ?_,rfl,q _ J⟩;exact⟨z,M,r,⟨_,zaE _ rfl,rfl,_,rfl,rfl⟩⟩
theorem UQ(h:PA X es t):PE X (.List es pos) (qaU t):=by
 intro pins s σ H Q I G;refine wpAny_List_spliced (cR (h pos pins s σ H _ I G) λM B ⟨xs,H1,F,r,z,q⟩=>⟨by rw[<- r.length];exact z,?_⟩);have J:H1 B.heap.objs.size=none:=F.hok.fresh (zai _);refine⟨.ref B.heap.objs.size,upd H1 B.heap.objs.size (.lst xs),F.laid (t':=B.toks) (λb u e=>zan _ e) (zai _) ?_,rfl,q _ J⟩;exact⟨z,M,0,r,zaE _ rfl⟩
end
abbrev Sp:=List V->Hp->VK->XK->Prop
abbrev JF:=List Env->Hp->zad->XK->Value->zad->Prop
structure Env0(P:zah)(w:World)(K:zae)(mg:Str->Option Value)(base:Heap)(A:zao)(outer:List Env)(s:zad)(H:Hp):Prop where
 frames:A.frames=some outer
 mod:Mod K mg base
 bs:∀b o,base.get? b=some o->s.heap.get? b=some o/\H b=none
 bsz:base.objs.size<=s.heap.objs.size
 funs:s.heap.FunFrames base outer
 frf:∀b∈frs outer,H b=none
 hok:HOk P w H s.heap
 bare:zbN s.gens
def CE(q:List Env)(P:zah)(w:World)(H:Hp)(s:zad)(Q:VK)(u:Value)(s':zad):Prop:=
 ∃v H',s'.os=s.os/\zbN s'.gens/\Un (frs q) [] H H' s.heap s'.heap/\HOk P w H' s'.heap/\RelV v u/\Q v H'
def CR(CX:JF)(outer:List Env)(P:zah)(w:World)(H:Hp)(s:zad)(Q:VK)(E:XK)(r:Result)(s':zad):Prop:=
 match r with
 | .ok (.ret u)=>CE outer P w H s Q u s'
 | .ok _=>False
 | .error e=>CX outer H s E e s'
structure FnOk(P:zah)(w:World)(K:zae)(mg:Str->Option Value)(base:Heap)(CX:JF)(k:Nat)(f:Addr)(fd:zbb)(ps:List Str)(sp:Sp):Prop where
 len:∀vs H Q E,sp vs H Q E->vs.length=ps.length
 run:∀(A:zao) (outer:List Env) (s:zad) (H:Hp) (args:Args) (us:List Value) (vs:List V) (Q:VK) (E:XK),Room k A->Env0 P w K mg base A outer s H->BindsTo s fd args (ps.zip us)->Vals vs us->sp vs H Q E->
  zbD (model P w) A (.call (.ref f) args) (CR CX outer P w H s Q E) s
theorem FnOk.mono{P:zah}{w:World}{K:zae}{mg:Str->Option Value}{base:Heap}{CX:JF}{j k:Nat}{f:Addr}{fd:zbb}{ps:List Str}{sp:Sp}(F:FnOk P w K mg base CX j f fd ps sp)(h:j<=k) :
  FnOk P w K mg base CX k f fd ps sp:=⟨F.len,λA q s H args z vs Q E B=>F.run A q s H args z vs Q E (B.mono h)⟩
theorem FnOk.imp{P:zah}{w:World}{K:zae}{mg:Str->Option Value}{base:Heap}{CX:JF}{k:Nat}{f:Addr}{fd:zbb}{ps:List Str}{sp sp':Sp}(F:FnOk P w K mg base CX k f fd ps sp)
  (h:∀vs H Q E,sp' vs H Q E->sp vs H Q E):FnOk P w K mg base CX k f fd ps sp':=
 ⟨λvs H Q E q=>F.len vs H Q E (h _ _ _ _ q),λA z s H args G vs Q E J B M N hs=>F.run A z s H args G vs Q E J B M N (h _ _ _ _ hs)⟩
theorem Env0.make{P:zah}{w:World}{K:zae}{mg:Str->Option Value}{base:Heap}{A:zao}{q:List Env}{s:zad}{H:Hp}(e:Env0 P w K mg base A q s H)(C:Addr)(z:List Value)(kw:List (Str×Value)) :
  Env0 P w K mg base (A.under (.builtin "type.__call__" ⟨.ref C::z,kw⟩)) q s H:=⟨by first|exact e.frames|(simpa[Around.under,Code.envs,Code.isFrame,pushEnvs]using e.frames),e.mod,e.bs,e.bsz,e.funs,e.frf,e.hok,e.bare⟩
section
variable {X:Cx}{pins:List (Addr×Obj)}{σ:St}{H:Hp}{s s':zad}
theorem Inv.env0(I:Inv X pins σ H s):Env0 X.prog X.w X.K X.mg X.base X.A X.stack s H:=
 ⟨I.ok.frames,I.ok.mod,I.bs,zaL I.ok.bsz I.sz,I.stack,I.stkFree,I.hok,I.bare⟩
theorem Inv.after(I:Inv X pins σ H s)(h:CE X.stack X.prog X.w H s Q u s'):EP X pins σ Q u s':=by
 obtain⟨v,H',M,B,un,G,r,q⟩:=h;obtain⟨J,g,d,t,F⟩:=s';obtain rfl:F=s.os:=M;exact⟨v,H',I.call (h':=J) (g':=g) (d':=d) (t':=t) (ch:=[]) un G B (λb z=>absurd z (by simp)),r,q⟩
end
def YV(sp:Sp)(dvs:List V)(E:XK)(t:TA):TE:=λσ H Q=>t σ H λvs H1=>sp (vs++dvs) H1 Q E
def YE(C:Addr)(sp:Sp)(dvs:List V)(E:XK)(t:TA):TE:=λσ H Q=>t σ H λvs H1=>∀x dx,H1 x=none->H1 dx=none->dx≠x->
 sp (.ref x::(vs++dvs)) (upd (upd H1 dx (.own x)) x (.ins C dx [])) (λv H2=>v=.non/\Q (.ref x) H2) E
def Binds(K:zae)(fd:zbb)(ps:List Str)(ds:List Value):Prop:=
 ∀(s:zad) (us:List Value),K.In s.heap->(us++ds).length=ps.length->BindsTo s fd ⟨us,[]⟩ (ps.zip (us++ds))
theorem Binds.all{K:zae}{fd:zbb}{ps:List Str}(h:∀q:List Value,q.length=ps.length->bindArgs fd ⟨q,[]⟩=pure (ps.zip q)):Binds K fd ps []:=λs q _ z=>by
 rw[zbv]at z ⊢;exact .of_eq (h q z)
def tL(CX:JF)(X:Cx)(E:XK):Prop:=∀(pins:List (Addr×Obj)) (σ:St) (H:Hp) (s:zad) (e:Value) (s':zad),Inv X pins σ H s->CX X.stack H s E e s'->X.xe e s'
section
variable {X:Cx}{CX:JF}{k:Nat}{f C:Addr}{fd:zbb}{ps:List Str}{sp:Sp}{dvs:List V}{ds:List Value}{E:XK}{x m:Str}{p pos apos:Pos}{e o:Expr}{es:List Expr}{ta:TE}{t:TA}
theorem WC(F:FnOk X.prog X.w X.K X.mg X.base CX k f fd ps sp)(B:Room k X.A)(G:Binds X.K fd ps ds)(hd:Vals dvs ds)(hx:tL CX X E)
  (I:Inv X pins σ H s) (r:Vals vs us) (h:sp (vs++dvs) H Q E):wpAny (model X.prog X.w) X.A (call (.ref f) us) (EP X pins σ Q) X.xe s:=by
 have r2:Vals (vs++dvs) (us++ds):=r.append hd;have z:(us++ds).length=ps.length:=by rw[<- r2.length];exact F.len _ _ _ _ h
 refine wpAny_call (zdg (F.run X.A X.stack s H ⟨us,[]⟩ (us++ds) (vs++dvs) Q E B I.env0 (G s us I.kIn z) r2 h) λr s' q=>?_);cases r with
 | error e=>exact hx pins σ H s e s' I q
 | ok fl=>
  cases fl with
  | ret u=>exact I.after q
  | next=>exact za8 q
  | brk=>exact za8 q
  | cont=>exact za8 q
theorem xK(F:FnOk X.prog X.w X.K X.mg X.base CX k f fd ps sp)(hr:Room k X.A)(J:Gl X x)(N:X.mg x=some (.ref f))(Y:zbE X.K (.ref f)=true)(hb:Binds X.K fd ps ds)(hd:Vals dvs ds)(hx:tL CX X E)
  (M:PA X (e::es) t) (B:(x == ("__debug__" : Str))=false:=by decide) (U:zag (e::es) X.env=(false,eval e X.env)::zag es X.env:=by rfl) (z:(zaG pos (zag es X.env)).any (·.1)=false:=by rfl) :
  PE X (.Call (.Name x p) (e::es) [] pos) (YV sp dvs E t):=by
 intro pins s σ H Q I h;refine zdh (EW I J N ?_ B);refine PySem.W.callWith_K (h₀:=X.base) I.ok.mod.kin Y (cR (M pos pins s σ H _ I h) λus s1 ⟨vs,H1,G,r,q⟩=>⟨G.kIn,?_⟩) U z;exact WC F hr hb hd hx G r q
structure Mk(K:zae)(C f:Addr):Prop where
 makes:zdX K C=true
 init:zbu K (.ref C) "__init__" = some (some (.ref f))
 fn:PySem.W.isFn K (.ref f)=true
 kp:zbE K (.ref C)=true
theorem LN(M:Mk X.K C f)(F:FnOk X.prog X.w X.K X.mg X.base CX k f fd ps sp)(J:Room (k+1) X.A)(N:Binds X.K fd ps ds)(hd:Vals dvs ds)
  (hx:tL CX X E) (I:Inv X pins σ H s) (r:Vals vs us)
  (h:∀x dx,H x=none->H dx=none->dx≠x->sp (.ref x::(vs++dvs)) (upd (upd H dx (.own x)) x (.ins C dx [])) (λv H2=>v=.non/\Q (.ref x) H2) E) :
  wpAny (model X.prog X.w) X.A (call (.ref C) us) (EP X pins σ Q) X.xe s:=by
 have B:=h (s.heap.objs.size+1) s.heap.objs.size (I.hok.fresh (Nat.le_succ _)) (I.hok.fresh (zai _)) (zaF (zdd _));have z:=Inv.made (C:=C) I;have r2:Vals (V.ref (s.heap.objs.size+1)::(vs++dvs)) (zau (s.heap.objs.size+1)::(us++ds)):=.cons rfl (r.append hd);have G:(zau (s.heap.objs.size+1)::us++ds).length=ps.length:=by
  have e:=r2.length;rw[F.len _ _ _ _ B]at e;exact e.symm
 refine wpAny_call (KD (f:=f) I.kIn M.makes M.init (beq_iff_eq.mp M.fn) (zdg (F.run _ X.stack _ _ ⟨zau (s.heap.objs.size+1)::us,[]⟩ (zau (s.heap.objs.size+1)::(us++ds)) _ _ E (J.make C us [])
  (z.env0.make C us []) (N _ (zau (s.heap.objs.size+1)::us) z.kIn G) r2 B) λr s' q=>?_))
 cases r with
 | error e=>exact hx pins σ _ _ e s' z q
 | ok fl=>
  cases fl with
  | ret u=>
   obtain⟨v,H',Y,W,ev,U⟩:=z.after q;subst ev;exact⟨W,⟨V.ref (s.heap.objs.size+1),H',Y,rfl,U⟩⟩
  | next=>exact za8 q
  | brk=>exact za8 q
  | cont=>exact za8 q
theorem N8(M:Mk X.K C f)(F:FnOk X.prog X.w X.K X.mg X.base CX k f fd ps sp)(hr:Room (k+1) X.A)(J:Gl X x)(U:X.mg x=some (.ref C))(hb:Binds X.K fd ps ds)(hd:Vals dvs ds)(hx:tL CX X E)
  (N:PA X (e::es) t) (B:(x == ("__debug__" : Str))=false:=by decide) (Y:zag (e::es) X.env=(false,eval e X.env)::zag es X.env:=by rfl) (z:(zaG pos (zag es X.env)).any (·.1)=false:=by rfl) :
  PE X (.Call (.Name x p) (e::es) [] pos) (YE C sp dvs E t):=by
 intro pins s σ H Q I h;refine zdh (EW I J U ?_ B);refine PySem.W.callWith_K (h₀:=X.base) I.ok.mod.kin M.kp (cR (N pos pins s σ H _ I h) λus s1 ⟨vs,H1,G,r,q⟩=>⟨G.kIn,?_⟩) Y z;exact LN M F hr hb hd hx G r q
end
section
variable {X:Cx}{CX:JF}{k:Nat}{f C:Addr}{fd:zbb}{ps ks:List Str}{sp:Sp}{E:XK}{x m:Str}{p pos apos kpos:Pos}{e o:Expr}{es:List Expr}{kws:List zck}{te ta:TE}{t tk:TA}{nm:Option Str}
variable {g:List Value->List Value->List Value}{gV:List V->List V->List V}
end
structure FnScope(N P:List Str)(sc:Scope):Prop where
 kind:sc.kind=.function
 co:sc.isCoroutine=false
 gen:sc.isGenerator=false
 nd:N.Nodup
 pre:N.take P.length=P
 par:∀x∈P,sc.names.lookup x=some .local\/sc.names.lookup x=some .cell
 nofree:∀y∈sc.names,y.2≠.free
theorem vL{zbg:Str->Option zbw}:∀ {binds:List (Str×Value)} {m:Str->Option Value},(∀v,(x,v)∉binds)->bindL zbg binds m x=m x
 | [],_,_=>rfl
 | (n,v)::r,m,h=>by
  unfold bindL;rw[vL λw hw=>h w (zaq _ hw)];split
  ·have:x≠n:=by rintro rfl;exact h v zas
   simp[this]
  ·rfl
theorem uY{zbg:Str->Option zbw}:∀ {binds:List (Str×Value)} {m:Str->Option Value},(∀v,(x,v)∉binds)->bindC zbg binds m x=m x
 | [],_,_=>rfl
 | (n,v)::r,m,h=>by
  unfold bindC;rw[uY λw hw=>h w (zaq _ hw)];split
  ·rfl
  ·have:x≠n:=by rintro rfl;exact h v zas
   simp[this]
theorem u4{zbg:Str->Option zbw}{x:Str}{v:Value}:∀ {P:List Str} {vs:List Value} {i:Nat} {m:Str->Option Value},P.Nodup->P[i]?=some x->vs[i]?=some v->zbg x=some .local->
  bindL zbg (P.zip vs) m x=some v
 | [],_,_,_,_,h,_,_=>by simp at h
 | _::_,[],_,_,_,_,h,_=>by simp at h
 | p::P,w::vs,0,m,nd,h1,h2,hk=>by
  simp at h1 h2;subst h1;subst h2;show bindL zbg ((p,w)::P.zip vs) m p=_;unfold bindL;rw[vL λv q=>(List.nodup_cons.mp nd).1 (zdY q).1,if_pos hk];simp
 | p::P,w::vs,i+1,m,nd,h1,h2,hk=>by
  show bindL zbg ((p,w)::P.zip vs) m x=_;unfold bindL;exact u4 (i:=i) (List.nodup_cons.mp nd).2 (by simpa using h1) (by simpa using h2) hk
theorem vT{zbg:Str->Option zbw}{x:Str}{v:Value}:∀ {P:List Str} {vs:List Value} {i:Nat} {m:Str->Option Value},P.Nodup->P[i]?=some x->vs[i]?=some v->zbg x≠some .local->
  bindC zbg (P.zip vs) m x=some v
 | [],_,_,_,_,h,_,_=>by simp at h
 | _::_,[],_,_,_,_,h,_=>by simp at h
 | p::P,w::vs,0,m,nd,h1,h2,hk=>by
  simp at h1 h2;subst h1;subst h2;show bindC zbg ((p,w)::P.zip vs) m p=_;unfold bindC;rw[uY λv q=>(List.nodup_cons.mp nd).1 (zdY q).1,if_neg hk];simp
 | p::P,w::vs,i+1,m,nd,h1,h2,hk=>by
  show bindC zbg ((p,w)::P.zip vs) m x=_;unfold bindC;exact vT (i:=i) (List.nodup_cons.mp nd).2 (by simpa using h1) (by simpa using h2) hk
def start(N:List Str)(vs:List V):St:=vs.map some++zcl (N.length-vs.length) none
def g9(CX:JF)(P:zah)(w:World)(K:zae)(mg:Str->Option Value)(base:Heap)(N:List Str)(q:Str)(scope:Scope)(f:Addr)(B:Value)(A:zao)(outer:List Env)(s:zad)(H:Hp)(E:XK):Cx where
 prog:=P
 w:=w
 K:=K
 mg:=mg
 base:=base
 A:=A.deeper (zaJ q scope s.heap.objs.size f B)
 N:=N
 s₀:=s
 H₀:=H
 env:=zaJ q scope s.heap.objs.size f B
 outer:=outer
 stack:=zaJ q scope s.heap.objs.size f B::outer
 ex:=[]
 calm:=true
 fn:=λ_=>true
 pn:=[]
 xe:=λe s'=>wpAny (model P w) (A.deeper (zaJ q scope s.heap.objs.size f B)) (leaving (zaJ q scope s.heap.objs.size f B) e) (λ_ z=>CX outer H s E e z) (λF z=>CX outer H s E F z) s'
theorem mU{sc:Scope}{n:Nat}{x:Str}(h:sc.names.lookup x=some .cell):∃c,(zb7 n sc.names []).lookup x=some c:=by
 have q:=PySem.W.cellsFrom_some sc.names n [] (.inl h);exact Option.isSome_iff_exists.mp q
theorem HK{CX:JF}{P:zah}{w:World}{K:zae}{mg:Str->Option Value}{base:Heap}{N ps:List Str}{F:Str}{scope:Scope}{f:Addr}{Y:Value}{A:zao}{B:List Env}{s s1:zad}{H:Hp}{E:XK}{us:List Value}{vs:List V}
  (S:FnScope N ps scope) (hd:A.handled=none) (G:Env0 P w K mg base A B s H) (hl:vs.length=ps.length) (r:Vals vs us)
  (x:InCallC s s.heap.objs.size (bindL (zaJ F scope s.heap.objs.size f Y).kindOf (ps.zip us) λ_=>none) (zb7 (s.heap.objs.size+1) scope.names []) (bindC (zaJ F scope s.heap.objs.size f Y).kindOf (ps.zip us) λ_=>none) s1) :
  Inv (g9 CX P w K mg base N F scope f Y A B s H E) [] (start N vs) H s1:=by
 have ag:ps.length<=N.length:=by have:=congrArg zbm S.pre;rw[zb8]at this;lia
 obtain⟨h1,tk,rfl,hk⟩:=x.done;have J:∀b:Addr,b∉(g9 CX P w K mg base N F scope f Y A B s H E).ex:=λb z=>absurd (show b∈([]:List Addr)from z) (by simp)
 refine⟨⟨G.mod,S.kind,rfl,rfl,zai _,λy z c h1 h2=>?_,λy M=>?_,λy c _ h=>?_,λ_=>hd,Around.frames_deeper G.frames,.inr ⟨rfl,rfl⟩,λb z=>absurd z (J b),G.bs,G.bsz,λb _ _=>J b,λb z=>absurd z (J b),G.funs,G.frf⟩,
  rfl,G.bare,Un.kept hk,⟨_,x.toInCall.ns,λi y v h1 h2 h3=>?_⟩,λy c h=>⟨_,x.cell y c h⟩,G.hok.fresh (zai _),λy c h=>?_,λp W=>absurd (show p∈([]:List (Addr×Obj))from W) (by simp),G.hok.kept hk,?_⟩
 ·exact name_of_addr x.apart (zcz h1) (zcz h2)
 ·have M:scope.names.lookup y=some .cell\/scope.names.lookup y=some .free:=M
  rcases M with M|M
  ·exact mU M
  ·exact absurd rfl (S.nofree _ (zcz M))
 ·exact Nat.le_of_lt (x.above y c (zcz h))
 ·have hi:i<vs.length:=by
   unfold start at h2;by_cases hi:i<vs.length
   ·exact hi
   ·rw[zdi (by simpa using hi)]at h2
    rw[List.getElem?_replicate]at h2;split at h2 <;> cases h2
  have ha:vs[i]?=some v:=by
   unfold start at h2;rw[zdZ (by simpa using hi),zaB]at h2;cases e:vs[i]? with
   | none=>rw[e]at h2;cases h2
   | some a=>rw[e]at h2;cases h2;rfl
  obtain⟨u,hu,rv⟩:=r.get ha;have W:ps[i]?=some y:=by
   rw[<- S.pre,List.getElem?_take_of_lt (by lia)];exact h1
  have U:ps.Nodup:=by rw[<- S.pre];exact S.nd.sublist (zdj _ _)
  refine⟨u,rv,?_⟩;rcases S.par y (zaw W)with k|k
  ·exact .inl ⟨k,u4 U W hu k⟩
  ·obtain⟨c,e⟩:=mU (n:=s.heap.objs.size+1) k
   refine .inr ⟨.inl k,c,e,?_⟩;have q:=x.cell y c e;rw[vT U W hu (by show scope.names.lookup y≠_;rw[k];decide)]at q;exact q
 ·exact G.hok.fresh (Nat.le_of_lt (x.above y c (zcz h)))
 ·unfold start
  show _=N.length;rw[zbc,zal,List.length_replicate]
  lia
theorem Y8{CX:JF}{P:zah}{w:World}{K:zae}{mg:Str->Option Value}{base:Heap}{k:Nat}{f:Addr}{name B:Str}{G:Arguments}{M:List Stmt}{scope:Scope}{dV kV ad pm F ct oc:Value}{an od:Option Addr}
  {af:Array (Option Value)} {N ps:List Str} {sp:Sp} (lk:K.lookup f=some ⟨oc,od,.func (zbh name B G M scope dV kV ad pm an F ct),af⟩) (ae:zcm K F B=true) (S:FnScope N ps scope)
  (ab:∀vs H Q E,sp vs H Q E->vs.length=ps.length)
  (aa:∀(A:zao) (z:List Env) (s:zad) (H:Hp) (vs:List V) (Q:VK) (E:XK), Room k (A.deeper (zaJ B scope s.heap.objs.size f F)) -> sp vs H Q E ->
   ∃t,PSs (g9 CX P w K mg base N B scope f F A z s H E) M t/\t {nx:=λ_ H'=>Q .non H',rt:=Q} (start N vs) H) :
  FnOk P w K mg base CX (k+1) f (zbh name B G M scope dV kV ad pm an F ct) ps sp:=by
 refine⟨ab,λA z s H args us vs Q E hr e0 hb r hsp=>?_⟩;have hl:=ab _ _ _ _ hsp;have KX:K.In s.heap:=e0.mod.kin.keeps λb o e=>(e0.bs b o e).1
 have ai:s.heap.NoLimit:=e0.mod.nolimit.keeps λb o e=>(e0.bs b o e).1
 have Y:∀y∈ps.zip us,scope.names.lookup y.1=some .local\/(scope.names.lookup y.1=some .cell/\((zb7 (s.heap.objs.size+1) scope.names []).lookup y.1).isSome=true):=by
  rintro⟨n,v⟩ hy;rcases S.par n (zdY hy).1 with q|q
  ·exact .inl q
  ·exact .inr ⟨q,PySem.W.cellsFrom_some _ _ _ (.inl q)⟩
 refine codeAny_call_function hr.depth (KX _ _ lk) rfl S.co S.gen rfl (PySem.W.codeRec_of KX ae) (hb _ _ _ _ ?_);refine wpAny_newFunctionEnv_cells S.kind Y λenv he s1 x=>?_
 subst he;refine⟨ai.keeps x.toInCall.keep,codeAny_func ?_⟩;obtain⟨t,ht,hq⟩:=aa A z s H vs Q E (hr.deeper _) hsp;have I:Inv (g9 CX P w K mg base N B scope f F A z s H E) [] (start N vs) H s1:=HK S hr.hd e0 hl r x;refine za7 (ht [] s1 (start N vs) H _ I hq) (λfl s' hs=>?_) λe s' hs=>hs
 have fin:∀ {U:St} {H':Hp} {v:V} {u:Value},Inv (g9 CX P w K mg base N B scope f F A z s H E) [] U H' s'->RelV v u->Q v H'->CE z P w H s Q u s':=
  λ{U H' v u} J rv q=>⟨v,H',J.os,J.bare,J.base,J.hok,rv,q⟩
 cases fl with
 | ret u=>
  obtain⟨v,U,H',J,rv,q⟩:=hs;exact fin J rv q
 | next=>
  obtain⟨U,H',J,q⟩:=hs;exact fin (v:=V.non) (u:=za5) J rfl q
 | brk=>
  obtain⟨_,_,_,q⟩:=hs;exact za8 q
 | cont=>
  obtain⟨_,_,_,q⟩:=hs;exact za8 q
section
variable {X:Cx}{x:Str}{p pos:Pos}{e:Expr}{es:List Expr}{t:TA}{id T:String}{r:List V->Hp->VK->Prop}
def tCB(r:List V->Hp->VK->Prop)(t:TA):TE:=λσ H Q=>t σ H λvs H1=>r vs H1 Q
theorem AE(M:CallR X (.builtin id) r)(F:Gl X x)(J:X.mg x=none)(Y:zaH x=some (.builtin id))(G:PA X (e::es) t)(B:x ≠ "__name__" := by decide)(z:(x == ("__debug__" : Str))=false:=by decide)
  (N:zag (e::es) X.env=(false,eval e X.env)::zag es X.env:=by rfl) (q:(zaG pos (zag es X.env)).any (·.1)=false:=by rfl):PE X (.Call (.Name x p) (e::es) [] pos) (tCB r t):=by
 intro pins s σ H Q I h;refine zdh (lJ I F J Y ?_ B z);exact PyProof.Rows.callWith_builtin1 (cR (G pos pins s σ H _ I h) λU W ⟨vs,H1,I1,r1,q1⟩=>M pins W σ H1 vs U Q I1 r1 q1) N q
theorem kE(M:CallR X (.type T) r)(F:Gl X x)(J:X.mg x=none)(Y:zaH x=some (.type T))(G:PA X (e::es) t)(B:x ≠ "__name__" := by decide)(z:(x == ("__debug__" : Str))=false:=by decide)
  (N:zag (e::es) X.env=(false,eval e X.env)::zag es X.env:=by rfl) (q:(zaG pos (zag es X.env)).any (·.1)=false:=by rfl):PE X (.Call (.Name x p) (e::es) [] pos) (tCB r t):=by
 intro pins s σ H Q I h;refine zdh (lJ I F J Y ?_ B z);exact zcP (cR (G pos pins s σ H _ I h) λU W ⟨vs,H1,I1,r1,q1⟩=>M pins W σ H1 vs U Q I1 r1 q1) N q
end
end L2
namespace HT
open PySem PyProof.Rows
noncomputable def lexLt:List Int->List Int->Bool
 | [],[]=>false
 | [],_::_=>true
 | _::_,[]=>false
 | x::xs,y::ys=>if x=y then lexLt xs ys else decide (x<y)
theorem CM(x y:Int)(xs ys:List Int):lexLt (x::xs) (y::ys)=if x=y then lexLt xs ys else decide (x<y):=rfl
theorem uI:lexLt [] []=false:=rfl
theorem qH(y:Int)(ys:List Int):lexLt [] (y::ys)=true:=rfl
theorem qG(x:Int)(xs:List Int):lexLt (x::xs) []=false:=rfl
theorem L3(A:zao)(s:zad)(a:Int)(t:Tok)(c:Int)(u:Tok):∃e,SeqAt.EqAt A s (.int a t) (.int c u) e/\(e=true↔a=c):=
 ⟨(a == c),SeqAt.EqAt.int_int a t c u,by simp⟩
theorem JQ(A:zao)(s:zad)(a:Int)(t:Tok)(c:Int)(u:Tok)(prog:zah)(w:World)(E:Value->zad->Prop)(Q:Value->zad->Prop)(h:Q (.bool (decide (a<c))) s) :
  wpAny (model prog w) A (richCompare .Lt (.int a t) (.int c u)) Q E s:=
 (PyProof.Rows.lt_int h:wpAny (model prog w) A (zaC .Lt (.int a t) (.int c u)) Q E s)
section
open PySem.SeqAt
open PySem.AutoSeq1 (wpAny_loadPart')
open PySem.MeetsSeq PySem.MeetsSeq2 PySem.MeetsSeq3
theorem uK(l b:Addr)(items z:Array Value)(n n2:Nat)(dd ae:Option Addr)(sl ad:Array (Option Value))(ns ms:List Int)(hi:zbi items.toList ns)(hj:zbi z.toList ms) :
  Meets (zb0.«tuple.__lt__» ⟨[.ref l,.ref b],[]⟩)
   (λ_ R s => s.heap.get? l = some {cls := .type "tuple", dict:=dd, data := .seq items n, slots:=sl} /\ s.heap.get? b = some {cls := .type "tuple", dict:=ae, data := .seq z n2, slots:=ad} /\
    R (.ok (.ret (.bool (lexLt ns ms)))) s):=
 .of_wp λprog w A R s h=>by
  obtain⟨hp,g,d,tk,os⟩:=s;obtain⟨hl,hb,h⟩:=h;have f2:=AutoSeq1.sub_tuple_tuple;have z1:items.size=ns.length:=by rw[<- hi.length];simp
  have z2:z.size=ms.length:=by rw[<- hj.length];simp
  wp_walk using zbU hl,zbU hb,zcN _ (λrest b s'=>b.1=none/\s'=⟨hp,g,d,tk,os⟩/\∃(vs ws:List Value) (G F:List Int),rest=vs.zip ws /\
   zbi vs G/\zbi ws F/\G.length+z.size=F.length+items.size/\R (.ok (.ret (.bool (lexLt G F)))) ⟨hp,g,d,tk,os⟩) _
  case turn=>
   rintro⟨y,x⟩ rest b s' ⟨Y,rfl,vs,ws,G,F,J,W,M,B,N⟩;cases W with
   | nil=>rw[List.zip_nil_left]at J;cases J
   | cons a t hvi'=>
    cases M with
    | nil=>rw[List.zip_nil_right]at J;cases J
    | cons c u hwi'=>
     rw[zd0]at J;injection J with hyx hrest
     injection hyx with hy hx
     subst hy hx;rw[CM]at N;simp only[zaz]at B;obtain⟨e,he,U⟩:=L3 A.in1 ⟨hp,g,d,tk,os⟩ a t c u;refine zaa (he prog w _ _ ?_);cases e with
     | true=>
      rw[if_pos (U.mp rfl)]at N
      wp_walk
      exact⟨rfl,rfl,_,_,_,_,hrest,hvi',hwi',by lia,N⟩
     | false=>
      rw[if_neg (λq=>absurd (U.mpr q) zaA)]at N;have af:=JQ A.in1 ⟨hp,g,d,tk,os⟩ a t c u prog w
      wp_walk using af
      exact⟨_,rfl,by simpa using N⟩
  case fin=>
   rintro⟨b1,b2⟩ s' ⟨Y,rfl,vs,ws,G,F,J,W,M,B,N⟩;simp only at Y;subst Y;have hv:lexLt G F=decide (items.size<z.size):=by
    cases W with
    | nil=>
     cases M with
     | nil=>
      simp only[zbF]at B;rw[uI];exact(decide_eq_false (by lia)).symm
     | cons c u hw=>
      simp only[zbF,zaz]at B;rw[qH];exact(decide_eq_true (by lia)).symm
    | cons a t hv=>
     cases M with
     | nil=>
      simp only[zbF,zaz]at B;rw[qG];exact(decide_eq_false (by lia)).symm
     | cons c u hw=>
      rw[zd0]at J;cases J
   rw[hv]at N
   wp_walk
   exact⟨_,rfl,by simpa[Builtin.Tuple.tupleCompareSizes]using N⟩
  case h=>
   exact⟨rfl,rfl,items.toList,z.toList,ns,ms,rfl,hi,hj,by lia,h⟩
end
section
variable {prog:zah}{w:World}{A:zao}{E:Value->zad->Prop}{s:zad}
theorem BM(hl:IsTup s.heap l items)(hb:IsTup s.heap b items2)(hi:zbi items.toList ns)(hj:zbi items2.toList ms)
  (hu:A.units<cLine) (h:Q (.bool (lexLt ns ms)) s):wpAny (model prog w) A (zaC .Lt (.ref l) (.ref b)) Q E s:=by
 obtain⟨⟨cls,Y,data,sl⟩,W,U,n,hd⟩:=id hl;obtain⟨⟨N,M,G,J⟩,z,B,n2,q⟩:=id hb;simp only at U hd B q;subst U hd B q;exact richCompare_meets_room (op:=.Lt) ⟨_,W,rfl⟩ ⟨_,z,rfl⟩ PySem.F.slot_tuple_lt PySem.F.entry_tuple_lt (PySem.F.args_tuple_lt_2 _ _) (uK l b items items2 n n2 Y M sl J ns ms hi hj)
  ⟨W,z,show zcK (lexLt ns ms)≠Value.notImplemented/\Q (.bool (lexLt ns ms)) s from⟨(λx=>nomatch x),h⟩⟩ hu
theorem O0(ht:IsTup s.heap t vs.toArray)(hb:IsTup s.heap b ws.toArray)(hv:vs≠[])
  (h1:ws=[]->Q (.ref t) s) (h2:ws≠[]->Q (.ref s.heap.objs.size) {s with heap:=s.heap.push {cls:=.type "tuple",data:=.seq (vs++ws).toArray} })
  (hsz:vs.length+ws.length<=zaj):wpAny (model prog w) A (zaM .Add (.ref t) (.ref b)) Q E s:=by
 obtain⟨⟨cls,N,data,Y⟩,J,W,n,hd⟩:=id ht;obtain⟨⟨U,G,M,F⟩,q,B,n2,z⟩:=id hb;simp only at W hd B z;subst W hd B z;have e:vs.toArray++ws.toArray=(vs++ws).toArray:=by simp
 by_cases hw:ws=[]
 ·exact concat_meets ⟨_,J,rfl⟩ ⟨_,q,rfl⟩ zd1 seq_tuple_add zd2 zd3 (zd4 _ _)
   (tuple_addW1 t b vs.toArray ws.toArray n n2 N G Y F (by simpa using hv) (by simp[hw])) ⟨J,q,h1 hw⟩
 ·refine concat_meets ⟨_,J,rfl⟩ ⟨_,q,rfl⟩ zd1 seq_tuple_add zd2 zd3 (zd4 _ _)
   (tuple_addW2 t b vs.toArray ws.toArray n n2 N G Y F (by simpa using hv) (by simpa using hw) (by rw[zax,zax];exact hsz)) ⟨J,q,?_⟩
  rw[e];exact h2 hw
noncomputable def sIx(n d:Nat):Option Int->Nat
 | none=>d
 | some v=>if v<0 then(v+(n:Int)).toNat else min v.toNat n
theorem WJ(n d:Nat)(hd:d<=n)(o:Option Int):sIx n d o<=n:=by
 cases o with
 | none=>exact hd
 | some v=>
  show(if v<0 then(v+(n:Int)).toNat else min v.toNat n)<=n;by_cases q:v<0
  ·rw[if_pos q];lia
  ·rw[if_neg q];exact Nat.min_le_right _ _
theorem FU(v:Int)(n d:Nat):(if v<0 then max (v+(n:Int)) 0 else min v (n:Int))=((sIx n d (some v):Nat):Int):=by
 show(if v<0 then max (v+(n:Int)) 0 else min v (n:Int))=(((if v<0 then(v+(n:Int)).toNat else min v.toNat n):Nat):Int);by_cases q:v<0
 ·simp only[if_pos q];lia
 ·simp only[if_neg q];lia
theorem CQ(lo hi:Option Int)(n:Nat):zd5 lo hi 1 (n:Int)=(((sIx n 0 lo:Nat):Int),((sIx n n hi:Nat):Int)):=by
 have h1:¬ ((1:Int)<0):=by lia
 unfold zd5;simp only[h1,if_false];refine Prod.ext ?_ ?_
 ·cases lo with
  | none=>rfl
  | some v=>exact FU v n 0
 ·cases hi with
  | none=>rfl
  | some v=>exact FU v n n
theorem CT(i j:Nat):zdk (i:Int) (j:Int) 1=j-i:=by
 unfold zdk;have h1:(1:Int)>0:=by lia
 simp only[h1,if_true,Int.ediv_one];split <;> lia
theorem rG(p:zbG v o)(h:Q o s):wpAny (model prog w) A (Builtin.Slice.slicePartIndex v) Q E s:=by
 cases p with
 | none=>exact slicePart_none h
 | int i t=>exact slicePart_int h
theorem gU{G:Addr}{F B:Value}{lo hi:Option Int}{n:Nat}{Q:Int×Int×Nat->zad->Prop}(hs:s.heap.IsSliceOf G F B .none)(J:zbG F lo)(N:zbG B hi)
  (h:Q (((sIx n 0 lo:Nat):Int),1,sIx n n hi-sIx n 0 lo) s):wpAny (model prog w) A (Builtin.Slice.sliceApplied (.ref G) (pure (n:Int))) Q E s:=by
 obtain⟨U,q,M,z⟩:=id hs;unfold Builtin.Slice.sliceApplied Builtin.Slice.sliceFields;refine zaa (zaa (zaR q z (x:=F) rfl (zaa (zaR q z (x:=B) rfl (zaa (zaR q z (x:=.none) rfl (zaf ?_)))))));refine zaa (slicePart_none ?_);show wpAny _ _ (if((1:Int) == 0)=true then _ else _) _ _ s;rw[if_neg (by decide)];refine zaa (rG J (zaa (rG N (zaa (zaf ?_)))));show wpAny _ _ (match zd5 lo hi 1 (n:Int)with|(lo,hi)=>pure (lo,(1:Int),zdk lo hi 1)) _ _ s;rw[CQ lo hi n];show wpAny _ _ (pure (((sIx n 0 lo:Nat):Int),(1:Int),zdk ((sIx n 0 lo:Nat):Int) ((sIx n n hi:Nat):Int) 1)) _ _ s;rw[CT];exact zaf h
theorem JY(xs:Array Value)(i k:Nat):((zam k).filterMap λ(m:Nat)=>xs[((i:Int)+(m:Int)*1).toNat]?).toArray=((xs.toList.drop i).take k).toArray:=by
 have e:(λ(m:Nat)=>xs[((i:Int)+(m:Int)*1).toNat]?)=λm=>xs[i+m]?:=by
  funext m;have:((i:Int)+(m:Int)*1).toNat=i+m:=by lia
  rw[this]
 rw[e];have:=pick_run xs i k;rw[List.filterMap_map]at this;have q:((λx=>xs[x]?) ∘ λx=>i+x)=λm=>xs[i+m]?:=rfl
 rw[q]at this;rw[this]
theorem lT{t M:Addr}{items:Array Value}{W U:Value}{lo hi:Option Int}{Q:Value->zad->Prop}(B:IsTup s.heap t items)(hs:s.heap.IsSliceOf M W U .none)(pl:zbG W lo)(pu:zbG U hi)
  (hw:¬ (sIx items.size 0 lo=0/\sIx items.size items.size hi=items.size))
  (h:Q (.ref s.heap.objs.size) {s with heap:=s.heap.push {cls:=.type "tuple",data:=.seq ((items.toList.drop (sIx items.size 0 lo)).take (sIx items.size items.size hi-sIx items.size 0 lo)).toArray} })
  (hsz:items.size<=zaj):wpAny (model prog w) A (zbx (.ref t) (.ref M)) Q E s:=by
 have z:sizeOk (.seq ((items.toList.drop (sIx items.size 0 lo)).take (sIx items.size items.size hi-sIx items.size 0 lo)).toArray):=by
  show((items.toList.drop (sIx items.size 0 lo)).take (sIx items.size items.size hi-sIx items.size 0 lo)).toArray.size<=zaj;rw[zax,zb8,zd6,zbQ]
  lia
 have hj:sIx items.size items.size hi<=items.size:=WJ _ _ (zai _) hi;obtain⟨os,F,J,Y⟩:=id hs;have N:s.TypeIs (.ref M) "slice" := ⟨os,F,J⟩;unfold zbx
 try with_reducible refine zbC ?_
 first|refine zaa (zaf ?_)|skip
 refine zaa (wpAny_sequenceKey B.typeIs (by decide) ?_);refine zaa (zbH (name:=zbj "__getitem__") B.typeIs zdl
  (zbk zdl B.typeIs entry_tuple_getitem ?_ (args_tuple_getitem _ _)))
 show wpAny _ _ (zdO (.ref t) >>= _) _ _ s;refine zaa (tupleItemsOf_ B ?_);refine zaa (zcA N ?_);rw[if_pos (by decide)];refine zaa (gU hs pl pu ?_);have G:¬ ((((sIx items.size 0 lo:Nat):Int) == 0 && (1:Int) == 1 && (sIx items.size items.size hi-sIx items.size 0 lo) == items.size)=true):=by
  intro q;rw[zaQ,zaQ]at q;have q1:((sIx items.size 0 lo:Nat):Int)=0:=eq_of_beq q.1.1;have q2:sIx items.size items.size hi-sIx items.size 0 lo=items.size:=eq_of_beq q.2;exact hw ⟨by lia,by lia⟩
 show wpAny _ _ (if(((sIx items.size 0 lo:Nat):Int) == 0 && (1:Int) == 1 && (sIx items.size items.size hi-sIx items.size 0 lo) == items.size)=true then _ else _) _ _ s;rw[if_neg G,JY]
 first
  | exact zaa (m:=zdm _) (zbI (zaf ⟨_,rfl,zaf h⟩) z)
  | exact zaa (m:=zdm _) (zbI (zaa (zaf (zaf ⟨_,rfl,zaf h⟩))) z)
  | exact zaa (zaa (m:=zdm _) (zbI (zaf (zaf ⟨_,rfl,zaf h⟩)) z))
  | exact zaa (zaa (m:=zdm _) (zbI (zaf ⟨_,rfl,zaf h⟩) z))
end
end HT
namespace L2
open PySem PySem.Spec PyProof.Rows
abbrev TO:=St->Hp->(Option Int->Hp->Prop)->Prop
def PO(X:Cx)(e:Option Expr)(t:TO):Prop:=
 ∀(pins:List (Addr×Obj)) (s:zad) (σ:St) (H:Hp) (Q:Option Int->Hp->Prop),Inv X pins σ H s->t σ H Q->
  wpAny (model X.prog X.w) X.A (evalPart e X.env) (λu s'=>∃o H',Inv X pins σ H' s'/\zbG u o/\Q o H') X.xe s
def OL:TO:=λ_ H Q=>Q none H
def X7(t:TE):TO:=λσ H Q=>t σ H λx H1=>∃i,x=.int i/\Q (some i) H1
theorem intsAre_of:∀ {q:List Value},Vals (ns.map V.int) q->zbi q ns:=by
 induction ns with
 | nil=>intro q r;rw[zcB]at r;cases r;exact .nil
 | cons n ns ih=>
  intro q r;rw[zak]at r;cases r with
  | cons r1 r2=>
   obtain⟨t,e⟩:=r1;subst e;exact .cons n t (ih r2)
section
variable {X:Cx}{e:Expr}{te:TE}{lo hi:Option Expr}{tl th:TO}{pos p2:Pos}
theorem RQ:PO X none OL:=by
 intro pins s σ H Q I h;rw[evalPart_none];exact zaf ⟨none,H,I,.none,h⟩
theorem QK(h:PE X e te):PO X (some e) (X7 te):=by
 intro pins s σ H Q I hw;rw[evalPart_some];refine cR (h pins s σ H _ I hw) λu F ⟨x,H1,B,r1,z⟩=>?_
 obtain⟨i,rfl,q⟩:=z;obtain⟨t,rfl⟩:=r1;exact⟨some i,H1,B,.int i t,q⟩
def SlR(X:Cx)(r:V->Option Int->Option Int->Hp->VK->Prop):Prop:=
 ∀(pins:List (Addr×Obj)) (s:zad) (σ:St) (H:Hp) (x:V) (v vl vu:Value) (lo hi:Option Int) (sl:Addr) (Q:VK),Inv X pins σ H s->RelV x v->s.heap.IsSliceOf sl vl vu .none->zbG vl lo->zbG vu hi->r x lo hi H Q->
  ∃T id,typeLookup (.type T) "__getitem__" = pure (some (.builtin id))/\s.TypeIs v T/\wpAny (model X.prog X.w) X.A (zbx v (.ref sl)) (EP X pins σ Q) X.xe s
theorem SlR.or(h:SlR X r)(h':SlR X r'):SlR X (λx lo hi H Q=>r x lo hi H Q\/r' x lo hi H Q):=by
 intro pins s σ H x v M G lo hi F Q I B hs z J q;rcases q with q|q
 ·exact h pins s σ H x v M G lo hi F Q I B hs z J q
 ·exact h' pins s σ H x v M G lo hi F Q I B hs z J q
def tSl(r:V->Option Int->Option Int->Hp->VK->Prop)(te:TE)(tl th:TO):TE:=λσ H Q=>te σ H λx H1=>tl σ H1 λl H2=>th σ H2 λu q=>r x l u q Q
theorem KA(hr:SlR X r)(Y:PE X e te)(hl:PO X lo tl)(N:PO X hi th):PE X (.Subscript e (.Slice lo hi none p2) pos) (tSl r te tl th):=by
 intro pins s σ H Q I h;refine Subscript_ (cR (Y pins s σ H _ I h) λv s1 ⟨x,H1,I1,r1,q1⟩=>?_);refine wpAny_Slice (cR (hl pins s1 σ H1 _ I1 q1) λB U ⟨l,H2,I2,J,M⟩=>cR (N pins U σ H2 _ I2 M) λF z ⟨u,G,I3,pu,q3⟩=>?_);rw[evalPart_none];refine zaf ?_;have W:Inv X pins σ G {z with heap:=z.heap.push {cls:=.type "slice",data:=.fields #[B,F,.none]} }:=I3.kept (t':=z.toks) λb ob q=>zan _ q
 obtain⟨T,id,hT,ht,hg⟩:=hr pins {z with heap:=z.heap.push {cls:=.type "slice",data:=.fields #[B,F,.none]} } σ G x v B F l u z.heap.objs.size Q W r1 (Heap.IsSliceOf.new ..) J pu q3;show wpAny (model X.prog X.w) X.A (subscriptTail e (.Slice lo hi none p2) v (.ref z.heap.objs.size)) (EP X pins σ Q) X.xe {z with heap:=z.heap.push {cls:=.type "slice",data:=.fields #[B,F,.none]} };exact tail_any (ops:=[.ref z.heap.objs.size,v]) ht hT hg (by with_unfolding_all rfl)
def uN(xs:List V)(lo hi:Option Int):List V:=(xs.drop (HT.sIx xs.length 0 lo)).take (HT.sIx xs.length xs.length hi-HT.sIx xs.length 0 lo)
theorem oZ(xs:List V)(lo hi:Option Int):(uN xs lo hi).length<=xs.length:=by
 unfold uN;rw[zb8,zd6]
 lia
def ZV(K:zae):V->Option Int->Option Int->Hp->VK->Prop:=λx lo hi H Q=>∃a xs,x=.ref a/\SqT K H a xs /\
 ¬ (HT.sIx xs.length 0 lo=0/\HT.sIx xs.length xs.length hi=xs.length)/\∀p,H p=none->Q (.ref p) (upd H p (.tup (uN xs lo hi)))
theorem UY:SlR X (ZV X.K):=by
 intro pins s σ H x v vl W lo hi U Q I M hs J N h;obtain⟨a,xs,rfl,hx,hw,q⟩:=h;cases M;obtain⟨B,r,G,F⟩:=I.tuple hx;have z:B.toArray.size=xs.length:=by rw[zax];exact r.length.symm
 refine⟨"tuple",_,PyProof.Rows.slot_tuple_getitem.lookup,G.typeIs,?_⟩;refine HT.lT G hs J N (by rw[z];exact hw) ?_ (by rw[z];exact F);rw[z];refine⟨.ref s.heap.objs.size,_,I.laid (t':=s.toks) (o:=.tup (uN xs lo hi)) (λb Y q=>zan _ q) (zai _) ?_,rfl,q _ (I.hok.fresh (zai _))⟩;exact⟨zaL (oZ xs lo hi) F,_,(r.drop (HT.sIx xs.length 0 lo)).take (HT.sIx xs.length xs.length hi-HT.sIx xs.length 0 lo),IsTupN.new _ _⟩
def qaR(K:zae):R2:=λx y H Q=>∃a b ns ms,x=.ref a/\y=.ref b/\SqT K H a (ns.map V.int)/\SqT K H b (ms.map V.int)/\Q (.bl (HT.lexLt ns ms)) H
theorem VS(U:X.A.units<cLine):OpR X (zaC .Lt) (qaR X.K):=by
 intro pins s σ H x y v u Q I J W h;obtain⟨a,b,ns,ms,rfl,rfl,G,M,q⟩:=h;cases J;cases W;obtain⟨B,r1,Y,_⟩:=I.tuple G;obtain⟨z,r2,p2,_⟩:=I.tuple M;have N:zbi B.toArray.toList ns:=intsAre_of r1;have F:zbi z.toArray.toList ms:=intsAre_of r2;exact HT.BM Y p2 N F U ⟨.bl (HT.lexLt ns ms),H,I,rfl,q⟩
def ZM(K:zae):R2:=λx y H Q=>∃a b xs ys,x=.ref a/\y=.ref b/\SqT K H a xs/\SqT K H b ys/\xs≠[]/\xs.length+ys.length<=zaj /\
 (ys=[]->Q (.ref a) H)/\(ys≠[]->∀p,H p=none->Q (.ref p) (upd H p (.tup (xs++ys))))
theorem Vals.nil_iff(r:Vals xs us):us=[]↔xs=[]:=by
 cases r with
 | nil=>simp
 | cons _ _=>simp
theorem QV:OpR X (zaM .Add) (ZM X.K):=by
 intro pins s σ H x y v u Q I J Y h;obtain⟨a,b,xs,ys,rfl,rfl,G,N,hx,B,W,U⟩:=h;cases J;cases Y;obtain⟨M,r1,p1,_⟩:=I.tuple G;obtain⟨F,r2,p2,_⟩:=I.tuple N;refine HT.O0 p1 p2 (λz=>hx (r1.nil_iff.mp z)) (λz=>⟨.ref a,H,I,rfl,W (r2.nil_iff.mp z)⟩) (λz=>?_) (by rw[<- r1.length,<- r2.length];exact B);refine⟨.ref s.heap.objs.size,_,I.laid (t':=s.toks) (o:=.tup (xs++ys)) (λb ob q=>zan _ q) (zai _) ?_,rfl,U (λw=>z (r2.nil_iff.mpr w)) _ (I.hok.fresh (zai _))⟩;exact⟨by rw[zbc];exact B,_,r1.append r2,IsTupN.new _ _⟩
end
noncomputable def JE(n:Nat)(i:Int):Option Nat:=if 0<=i then(if i<n then some i.toNat else none)else if -(n:Int)<=i then some (i+n).toNat else none
def fL{α:Type}(xs:List α)(i:Int):Option α:=(JE xs.length i).bind λj=>xs[j]?
theorem ES(h:JE n i=some j):seqIndex? i n=some j/\j<n/\-(n:Int)<=i/\i<n:=by
 unfold JE at h;by_cases q:0<=i
 ·rw[if_pos q]at h
  by_cases h1:i<n
  ·rw[if_pos h1]at h
   have e:i.toNat=j:=zay h;exact⟨by rw[seqIndex_of q h1,e],by lia,by lia,h1⟩
  ·rw[if_neg h1]at h;cases h
 ·rw[if_neg q]at h
  by_cases h1:-(n:Int)<=i
  ·rw[if_pos h1]at h
   have e:(i+n).toNat=j:=zay h;exact⟨by rw[seqIndex_neg (by lia) h1,e],by lia,h1,by lia⟩
  ·rw[if_neg h1]at h;cases h
theorem w9{q:Type}{xs:List q}{i:Int}{v:q}(h:fL xs i=some v):∃j,seqIndex? i xs.length=some j/\xs[j]?=some v/\j<xs.length/\-(xs.length:Int)<=i/\i<xs.length:=by
 unfold fL at h;cases e:JE xs.length i with
 | none=>rw[e]at h;cases h
 | some j=>
  rw[e]at h;obtain⟨h1,h2,z,B⟩:=ES e;exact⟨j,h1,h,h2,z,B⟩
theorem bV{q:Type}{xs:List q}{j:Nat}{v:q}(h:xs[j]?=some v):fL xs (j:Int)=some v:=by
 have z:j<xs.length:=(List.getElem?_eq_some_iff.mp h).1;have e:JE xs.length (j:Int)=some j:=by
  unfold JE;rw[if_pos (by lia),if_pos (by lia)];simp
 unfold fL;rw[e];exact h
def xA(b:Expr):Prop:=∀o i,zdn b false o i=operate [o,i] (zbx o i)
def IxR(X:Cx)(r:R2):Prop:=
 ∀(value slice:Expr) (pins:List (Addr×Obj)) (s:zad) (σ:St) (H:Hp) (x y:V) (v u:Value) (Q:VK),Inv X pins σ H s->RelV x v->RelV y u->r x y H Q->
  zdn slice false v u=operate [v,u] (zbx v u)->wpAny (model X.prog X.w) X.A (subscriptTail value slice v u) (EP X pins σ Q) X.xe s
def MtR(X:Cx)(id:String)(r:V->List V->Hp->VK->Prop):Prop:=
 ∀(pins:List (Addr×Obj)) (s:zad) (σ:St) (H:Hp) (x:V) (xs:List V) (v:Value) (us:List Value) (Q:VK),Inv X pins σ H s->RelV x v->Vals xs us->r x xs H Q->
  wpAny (model X.prog X.w) X.A (call (.builtin id) (v::us)) (EP X pins σ Q) X.xe s
section
variable {X:Cx}{a b:Expr}{ta tb:TE}{pos:Pos}
theorem IxR.or(h:IxR X r)(h':IxR X r'):IxR X (λx y H Q=>r x y H Q\/r' x y H Q):=by
 intro value z pins s σ H x y v u Q I B F q hs;rcases q with q|q
 ·exact h value z pins s σ H x y v u Q I B F q hs
 ·exact h' value z pins s σ H x y v u Q I B F q hs
theorem MtR.or{id:String}{r z:V->List V->Hp->VK->Prop}(h:MtR X id r)(h':MtR X id z):MtR X id (λx xs H Q=>r x xs H Q\/z x xs H Q):=by
 intro pins s σ H x xs v B Q I F rs q;rcases q with q|q
 ·exact h pins s σ H x xs v B Q I F rs q
 ·exact h' pins s σ H x xs v B Q I F rs q
theorem ZG(G:IxR X r)(B:PE X a ta)(J:PE X b tb)(hs:xA b):PE X (.Subscript a b pos) (qt r ta tb):=by
 intro pins s σ H Q I h;exact Subscript_ (W7 B J I h λv u M x y H2 z F N q=>G a b pins M σ H2 x y v u Q z F N q (hs _ _))
def ZY(K:zae):R2:=λx y H Q=>∃p xs i v,x=.ref p/\y=.int i/\SqL K H p xs/\fL xs i=some v/\Q v H
def qi(K:zae):R2:=λx y H Q=>∃p xs i v,x=.ref p/\y=.int i/\SqT K H p xs/\fL xs i=some v/\Q v H
def qh:R2:=λx y H Q=>∃z i c,x=.str z/\y=.int i/\z.length<=zaj/\fL z.cps.toList i=some c/\Q (.str ⟨#[c]⟩) H
theorem OH:IxR X (ZY X.K):=by
 intro value B pins s σ H x y v u Q I rx ry h hs;obtain⟨p,xs,i,z,rfl,rfl,W,he,q⟩:=h;cases rx;obtain⟨t,rfl⟩:=ry;obtain⟨J,r,G,hz⟩:=I.list W;obtain⟨j,h1,h2,h3,Y,h5⟩:=w9 he;obtain⟨w,U,M⟩:=r.get h2;have hl:=r.length;have hn:=tO;have fin:EP X pins σ Q w s:=⟨z,H,I,M,q⟩;by_cases N:0<=i
 ·have F:i.toNat=j:=by
   rw[seqIndex_of N h5]at h1;exact zay h1
  exact item_listR G.isList N (by lia) (by rw[F];simpa using U) fin hs
 ·have F:(i+(J.toArray.size:Int)).toNat=j:=by
   rw[seqIndex_neg (by lia) Y]at h1;rw[zax,<- hl];exact zay h1
  exact subscriptTail_builtinR (x:=w) G.isList.typeIs slot_list_getitem.lookup
   (wpAny_getItem_list_neg (Q:=λr s'=>r=w/\EP X pins σ Q r s') G.isList (by lia) (by rw[zax] <;> lia) (by lia) (by rw[F];simpa using U) ⟨rfl,fin⟩) hs
theorem W0:IxR X (qi X.K):=by
 intro value B pins s σ H x y v u Q I U ry h hs;obtain⟨p,xs,i,z,rfl,rfl,J,N,q⟩:=h;cases U;obtain⟨t,rfl⟩:=ry;obtain⟨Y,r,G,hz⟩:=I.tuple J;obtain⟨j,h1,h2,h3,h4,h5⟩:=w9 N;obtain⟨w,M,F⟩:=r.get h2;have W:=r.length;have hn:=tO;have fin:EP X pins σ Q w s:=⟨z,H,I,F,q⟩;exact subscriptTail_builtinR (x:=w) G.typeIs slot_tuple_getitem.lookup
  (getItem_tuple (j:=j) (Q:=λr s'=>r=w/\EP X pins σ Q r s') G (by lia) (by lia) (by rw[zax,<- W];exact h1) (by simpa using M) ⟨rfl,fin⟩) hs
theorem VZ:IxR X qh:=by
 intro value B pins s σ H x y v u Q I M W h hs;obtain⟨z,i,c,rfl,rfl,hz,J,q⟩:=h;obtain⟨t,rfl⟩:=M;obtain⟨t',rfl⟩:=W;obtain⟨j,h1,h2,h3,F,U⟩:=w9 J;have N:z.cps.toList.length=z.length:=by simp[Str.length]
 rw[N]at h1 F U;have hn:=tO;exact tail_any (typeIs_str s z t) slot_str_getitem.lookup (getItem_str (c:=c) (by
  have Y:decide (i < -(2^63:Int))=false:=decide_eq_false (by lia);have G:decide (i ≥ 2^63)=false:=decide_eq_false (by lia);rw[Y,G,Bool.or_false]) (by rw[h1];simpa using h2) ⟨.str ⟨#[c]⟩,H,I.tok _,⟨_,rfl⟩,q⟩) hs
def rIx(K:zae):R2:=λx y H Q=>ZY K x y H Q\/qi K x y H Q\/qh x y H Q
theorem V1:IxR X (rIx X.K):=OH.or (W0.or VZ)
theorem BZ(q:List Value)(n j:Nat)(u:Value):zcR (·.setIfInBounds j u) {cls:=.type "list",data:=.seq q.toArray n}={cls:=.type "list",data:=.seq (q.set j u).toArray n}:=by
 simp[zcR]
theorem Inv.lst{pins:List (Addr×Obj)}{σ:St}{H:Hp}{s:zad}{p:Addr}{xs:List V}(I:Inv X pins σ H s)(h:H p=some (.lst xs)) :
  ∃(q:List Value) (n:Nat),Vals xs q/\s.heap.get? p=some {cls:=.type "list",data:=.seq q.toArray n}/\xs.length<=zaj:=by
 obtain⟨z,q,n,r,e⟩:=I.hok p _ h;exact⟨q,n,r,e,z⟩
theorem Inv.lstUpd{pins:List (Addr×Obj)}{xs ys:List V}{z its':List Value}{n B:Nat}{f:Obj->Obj}(I:Inv X pins σ H s)(h:H p=some (.lst xs))
  (M:s.heap.get? p=some {cls:=.type "list",data:=.seq z.toArray n}) (F:f {cls:=.type "list",data:=.seq z.toArray n}={cls:=.type "list",data:=.seq its'.toArray B}) (r:Vals ys its') (G:ys.length<=zaj) (t:Nat) :
  Inv X pins σ (upd H p (.lst ys)) {s with heap:=s.heap.update p f,toks:=t}:=by
 have e:(s.heap.update p f).get? p=some {cls:=.type "list",data:=.seq its'.toArray B}:=by
  rw[zd7 f M (by rw[F] <;> rfl),F]
 refine I.write (x:=p) (e:=p) (by rw[h];trivial) (.inl rfl) (λb u J q=>(Heap.get?_update_other _ _ (zaU J)).trans q) ⟨_,e⟩ ?_;exact⟨G,its',B,r,e⟩
def YQ:V->V->V->Hp->(Hp->Prop)->Prop:=λo i v H Q=>∃p xs k j,o=.ref p/\i=.int k/\H p=some (.lst xs)/\JE xs.length k=some j/\Q (upd H p (.lst (xs.set j v)))
theorem set_list:R6 X YQ:=by
 intro pins s σ H o i v ov iv u Q I ro ri rv h;obtain⟨p,xs,k,j,rfl,rfl,Y,hj,q⟩:=h;cases ro;obtain⟨t,rfl⟩:=ri;obtain⟨z,n,r,G,hz⟩:=I.lst Y;obtain⟨h1,h2,M,U⟩:=ES hj;have B:=r.length;have hn:=tO;have J:Inv X pins σ (upd H p (.lst (xs.set j v))) {s with heap:=s.heap.update p (zcR (·.setIfInBounds j u))}:=
  I.lstUpd Y G (BZ z n j u) (r.set rv j) (by rw[zcS];exact hz) s.toks
 by_cases N:0<=k
 ·have F:k.toNat=j:=by
   rw[seqIndex_of N U]at h1;exact zay h1
  exact PySem.W.ki_setAt G N (by lia) (by rw[zax,<- B];exact U) (by rw[F];exact⟨_,J,q⟩)
 ·have F:(k+(z.toArray.size:Int)).toNat=j:=by
   rw[seqIndex_neg (by lia) M]at h1;rw[zax,<- B];exact zay h1
  exact PySem.W.ki_setBack G (by lia) (by rw[zax,<- B];exact M) (by lia) (by rw[F];exact⟨_,J,q⟩)
theorem wG(lo hi:Option Int)(n:Nat):(zbJ lo hi none n).1=((HT.sIx n 0 lo:Nat):Int)/\(zbJ lo hi none n).2.1=((HT.sIx n n hi:Nat):Int)/\(zbJ lo hi none n).2.2=1:=by
 refine⟨?_,?_,rfl⟩
 ·cases lo with
  | none=>simp[zbJ,HT.sIx]
  | some i=>
   simp only[zbJ,HT.sIx,Option.getD_none,show(1:Int)>0 by decide,if_true];by_cases h:i<0
   ·simp only[h,if_true] <;> lia
   ·simp only[h,if_false] <;> lia
 ·cases hi with
  | none=>simp[zbJ,HT.sIx]
  | some i=>
   simp only[zbJ,HT.sIx,Option.getD_none,show(1:Int)>0 by decide,if_true];by_cases h:i<0
   ·simp only[h,if_true] <;> lia
   ·simp only[h,if_false] <;> lia
theorem uH(q:List Value)(lo hi:Option Int):slicePick q.toArray lo hi none=((q.drop (HT.sIx q.length 0 lo)).take (HT.sIx q.length q.length hi-HT.sIx q.length 0 lo)).toArray:=by
 obtain⟨h1,h2,z⟩:=wG lo hi q.toArray.size;unfold slicePick;rw[h1,h2,z];simp only[sliceRange_one,pick_run,zax] <;> rfl
def qaO(K:zae):V->Option Int->Option Int->Hp->VK->Prop:=λx lo hi H Q=>∃a xs,x=.ref a/\SqL K H a xs/\∀p,H p=none->Q (.ref p) (upd H p (.lst (uN xs lo hi)))
theorem OM:SlR X (qaO X.K):=by
 intro pins s σ H x v vl W lo hi U Q I J hs G N h;obtain⟨a,xs,rfl,hx,q⟩:=h;cases J;obtain⟨M,r,B,F⟩:=I.list hx;have z:=r.length;refine⟨"list",_,slot_list_getitem.lookup,B.isList.typeIs,?_⟩;refine wpAny_getItem_list_slice B.isList hs G N .none (by simp) ?_ (by rw[zax] <;> lia);rw[uH,<- z];refine⟨.ref s.heap.objs.size,_,I.laid (t':=s.toks) (o:=.lst (uN xs lo hi)) (λb Y q=>zan _ q) (zai _) ?_,rfl,q _ (I.hok.fresh (zai _))⟩;exact⟨zaL (oZ xs lo hi) F,_,0,(r.drop (HT.sIx xs.length 0 lo)).take (HT.sIx xs.length xs.length hi-HT.sIx xs.length 0 lo),zaE _ rfl⟩
theorem wC:OpR X (zaC .NotIn) (λx y H Q=>∃i j,x=.str i/\y=.str j/\Q (.bl (!(!(Builtin.Str.occurrences j i 0 j.length 1).isEmpty))) H):=by
 intro pins s σ H x y v u Q I z B h;obtain⟨i,j,rfl,rfl,q⟩:=h;obtain⟨t,rfl⟩:=z;obtain⟨t',rfl⟩:=B;exact notIn_str ⟨.bl _,H,I,rfl,q⟩
theorem CallR.or(h:CallR X f r)(h':CallR X f r'):CallR X f (λxs H Q=>r xs H Q\/r' xs H Q):=by
 intro pins s σ H xs z Q I rs q;rcases q with q|q
 ·exact h pins s σ H xs z Q I rs q
 ·exact h' pins s σ H xs z Q I rs q
theorem wF:CallR X (.type "list") (λxs H Q=>∃p ys,xs=[.ref p]/\(SqL X.K H p ys\/SqT X.K H p ys)/\∀l,H l=none->Q (.ref l) (upd H l (.lst ys))):=by
 intro pins s σ H xs us Q I r h;obtain⟨p,ys,rfl,G,q⟩:=h;obtain⟨u,rfl,rx⟩:=vals1 r;cases rx;have fin:∀(z:List Value),Vals ys z->ys.length<=zaj->∀(h':Heap) (F:Nat),(∀b o',s.heap.get? b=some o'->h'.get? b=some o')->
   h'.get? s.heap.objs.size=some {cls:=.type "list",dict:=none,data:=.seq z.toArray F,slots:=#[]}->EP X pins σ Q (.ref s.heap.objs.size) {s with heap:=h'}:=λz B J h' F N e=>
  ⟨.ref s.heap.objs.size,_,I.laid (t':=s.toks) N (zai _) (show ObjOk X.prog X.w _ h' _ (.lst ys)from⟨J,z,F,B,e⟩),rfl,q _ (I.hok.fresh (zai _))⟩
 rcases G with G|G
 ·obtain⟨z,B,U,J⟩:=I.list G
  have M:=B.length;obtain⟨o,Y,W,n,hd⟩:=U.isList;exact call_list_seq p (.inl rfl) Y W hd (λh' F N e=>fin z B J h' F N e) (by simp only[zax] <;> lia)
 ·obtain⟨z,B,U,J⟩:=I.tuple G
  have M:=B.length;obtain⟨o,Y,W,n,hd⟩:=U;exact call_list_seq p (.inr rfl) Y W hd (λh' F N e=>fin z B J h' F N e) (by simp only[zax] <;> lia)
theorem uJ:CallR X (.type "tuple") (λxs H Q=>∃p ys,xs=[.ref p]/\((SqL X.K H p ys/\∀l,H l=none->Q (.ref l) (upd H l (.tup ys)))\/(SqT X.K H p ys/\Q (.ref p) H))):=by
 intro pins s σ H xs us Q I r h;obtain⟨p,ys,rfl,h⟩:=h;obtain⟨u,rfl,W⟩:=vals1 r;cases W;rcases h with⟨F,q⟩|⟨F,q⟩
 ·obtain⟨z,B,G,J⟩:=I.list F
  have M:=B.length;refine call_tuple_list G.isList (λh' Y=>?_) (by simp only[zax] <;> lia);have N:Inv X pins σ H {s with heap:=h'}:=I.kept (t':=s.toks) Y;have U:Inv X pins σ (upd H h'.objs.size (.tup ys)) {s with heap:=h'.push {cls:=.type "tuple",data:=.seq z.toArray} }:=
   N.laid (t':=s.toks) (λb o e=>zan _ e) (zai _) (show ObjOk X.prog X.w _ _ _ (.tup ys)from⟨J,z,B,IsTupN.new _ _⟩)
  exact⟨.ref h'.objs.size,_,U,rfl,q _ (N.hok.fresh (zai _))⟩
 ·obtain⟨z,B,G,J⟩:=I.tuple F
  exact call_tuple_same G ⟨.ref p,H,I,rfl,q⟩
def tyV(K:zae)(T:String)(x:V)(H:Hp):Prop:=match x with
 | .str _=>T = "str"
 | .int _=>T = "int"
 | .ref p=>(T = "list" /\ ∃xs,SqL K H p xs)\/(T = "tuple" /\ ∃o,K.lookup p=some o/\o.cls=.type "tuple" /\ o.dict=none) \/
   (T = "dict" /\ ((∃kvs,H p=some (.dK kvs))\/∃kvs,H p=some (.dT kvs)))\/(T = "set" /\ ∃S n,H p=some (.set S n))
 | _=>False
theorem US(I:Inv X pins σ H s)(r:RelV x v)(ty:tyV X.K T x H) :
  s.TypeIs v T/\∀a,v=.ref a->∃G,s.heap.get? a=some G/\G.dict=none:=by
 cases x with
 | str z=>
  obtain⟨t,rfl⟩:=r;cases(show T = "str" from ty);exact⟨typeIs_str s z t,λ_ e=>nomatch e⟩
 | int i=>
  obtain⟨t,rfl⟩:=r;cases(show T = "int" from ty);exact⟨typeIs_int s i t,λ_ e=>nomatch e⟩
 | ref p=>
  cases r;rcases ty with⟨rfl,xs,J⟩|⟨rfl,o,q,M,hd⟩|⟨rfl,q⟩|⟨rfl,S,n,q⟩
  ·obtain⟨N,_,F,_⟩:=I.list J
   refine⟨F.isList.typeIs,λa e=>?_⟩;cases e;obtain⟨o,n,e,c,hd,_⟩:=F;exact⟨o,e,hd⟩
  ·refine⟨⟨o,I.kIn p o q,M⟩,λa e=>?_⟩
   cases e;exact⟨o,I.kIn _ o q,hd⟩
  ·have z:∃o,s.heap.get? p=some o/\o.ExactDict:=by
    rcases q with⟨kvs,q⟩|⟨kvs,q⟩
    ·obtain⟨_,_,_,_,o,_,_,e,ex,_⟩:=I.hok p _ q
     exact⟨o,e,ex⟩
    ·obtain⟨_,_,_,_,o,_,_,e,ex,_⟩:=I.hok p _ q
     exact⟨o,e,ex⟩
   obtain⟨o,e,ex⟩:=z;refine⟨⟨o,e,ex.1⟩,λa B=>?_⟩;cases B;exact⟨o,e,ex.2.1⟩
  ·obtain⟨o,_,_,_,e,ex,_⟩:=I.hok p _ q
   refine⟨⟨o,e,ex.1⟩,λa B=>?_⟩;cases B;exact⟨o,e,ex.2.1⟩
 | _=>exact za8 ty
def tBM(K:zae)(T:String)(r:V->List V->Hp->VK->Prop)(to:TE)(t:TA):TE:=λσ H Q=>to σ H λx H1=>tyV K T x H1/\t σ H1 λxs H2=>r x xs H2 Q
variable {o e:Expr}{es:List Expr}{to:TE}{t:TA}{name:Str}{apos cpos:Pos}{T id:String}{r:V->List V->Hp->VK->Prop}
theorem vY(pa:PlainAttrs T)(G:Slot T name id)(J:typeOf (.builtin id)=pure (.type "method_descriptor"))(Y:MtR X id r)(ho:PE X o to)(W:PA X (e::es) t)
  (z:zaN o name X.env (eval o X.env)=eval o X.env:=by rfl)
  (F:((zaG cpos (zag (e::es) X.env)).all (λx => !x.1) && (backToKw cpos (keywordEach [] X.env)).all (λx => x.1.isSome)
   && decide ((e::es).length+([]:List zck).length+(if([]:List zck).isEmpty then 0 else 1)<30))=true:=by rfl)
  (B:(apos.endLine == cpos.line)=true:=by rfl) (hs:zag (e::es) X.env=(false,eval e X.env)::zag es X.env:=by rfl) (q:(zaG cpos (zag es X.env)).any (·.1)=false:=by rfl) :
  PE X (.Call (.Attribute o name apos) (e::es) [] cpos) (tBM X.K T r to t):=by
 intro pins s σ H Q I h;refine wpAny_Call_method_late z F B rfl (cR (ho pins s σ H _ I h) λv s1 ⟨x,H1,N,r1,ty,q1⟩=>?_);obtain⟨h1,h2⟩:=US N r1 ty;refine⟨T,id,pa,G,J,h1,h2,?_⟩;have M:=W cpos pins s1 σ H1 _ N q1;rw[hs]at M ⊢;refine Calls.callWith_builtin (by show(false || (zaG cpos (zag es X.env)).any (·.1))=false;rw[q] <;> rfl) (Calls.evalArgs_plain ?_);exact cR M λus s2 ⟨vs,H2,U,r2,q2⟩=>Y pins s2 σ H2 x vs v us Q U r1 r2 q2
end
def MtM(X:Cx)(id:String)(r:V->List V->Hp->VK->Prop):Prop:=
 ∀(pins:List (Addr×Obj)) (s:zad) (σ:St) (H:Hp) (x:V) (xs:List V) (v:Value) (us:List Value) (Q:VK),Inv X pins σ H s->RelV x v->Vals xs us->r x xs H Q->
  wpAny (model X.prog X.w) X.A (call (.builtin id) (v::us)) (EP X pins σ Q) X.xe s
theorem Vals.one:∀ {x:V} {us:List Value},Vals [x] us->∃u,us=[u]/\RelV x u
 | _,_,.cons r .nil=>⟨_,rfl,r⟩
theorem Vals.reverse(h:Vals xs us):Vals xs.reverse us.reverse:=by
 induction h with
 | nil=>exact .nil
 | cons r t ih=>rw[zd8,zd8];exact Vals.append ih (.cons r .nil)
theorem Vals.rep(h:Vals xs us):∀k:Nat,Vals (zcl k xs).flatten (zcl k us).flatten
 | 0=>.nil
 | k+1=>by
  rw[zdo,zdo,zdp,zdp];exact Vals.append h (Vals.rep h k)
section
variable {X:Cx}{pins:List (Addr×Obj)}{σ:St}{H:Hp}{s:zad}{l b:Addr}{xs ys zs:List V}
theorem Inv.lset{z its':List Value}{n:Nat}{f:Array Value->Array Value}{t':Nat}(I:Inv X pins σ H s)(B:H l=some (.lst xs))
  (e:s.heap.get? l=some {cls:=.type "list",data:=.seq z.toArray n}) (G:f z.toArray=its'.toArray) (J:Vals ys its') (F:ys.length<=zaj) :
  Inv X pins σ (upd H l (.lst ys)) {s with heap:=s.heap.update l (zcR f),toks:=t'}:=by
 have q:=PySem.IsL.update e f;rw[G]at q;refine I.write (x:=l) (e:=l) (by rw[B];exact trivial) (.inl rfl) (λU u N M=>(Heap.get?_update_other s.heap (zcR f) (zaU N)).trans M) ⟨_,q⟩ ?_;exact⟨F,its',_,J,q⟩
theorem Inv.lnew(I:Inv X pins σ H s)(B:Vals ys its)(z:ys.length<=zaj) :
  Inv X pins σ (upd H s.heap.objs.size (.lst ys)) {s with heap:=s.heap.push {cls:=.type "list",data:=.seq its.toArray},toks:=t'}:=
 I.laid (λ_ _ q=>zan _ q) (zai _) ⟨z,its,0,B,zaE _ rfl⟩
theorem Inv.fresh(I:Inv X pins σ H s):H s.heap.objs.size=none:=I.hok.fresh (zai _)
theorem Inv.lstM(I:Inv X pins σ H s)(B:H l=some (.lst xs)):xs.length<=zaj/\∃(q:List Value) (n:Nat),Vals xs q/\xs.length=q.length/\s.heap.get? l=some {cls:=.type "list",data:=.seq q.toArray n}:=by
 obtain⟨z,q,n,r,e⟩:=I.hok l _ B;exact⟨z,q,n,r,r.length,e⟩
theorem JZ(h:n<=zaj):zd9 n=false:=by
 unfold zd9;exact decide_eq_false (by lia)
end
section
variable {X:Cx}
def FC:V->List V->Hp->VK->Prop:=λx vs H Q=>∃l xs y,x=.ref l/\vs=[y]/\H l=some (.lst xs)/\xs.length<zaj/\Q .non (upd H l (.lst (xs++[y])))
theorem vI:MtM X "list.append" FC:=by
 intro pins s σ H x vs v W Q I M N h;obtain⟨l,xs,y,rfl,rfl,G,U,q⟩:=h;cases M;obtain⟨u,rfl,J⟩:=N.one;obtain⟨z,B,n,r,Y,e⟩:=I.lstM G;refine zcT F.slot_list_append ⟨_,e,rfl⟩ F.entry_list_append (F.args_list_append_2 _ _) (PySem.list_append l B.toArray n u (by rw[zax];lia)) ⟨e,?_⟩;refine⟨.non,_,I.lset (its':=B++[u]) G e (by simp) (r.append (.cons J .nil)) ?_,rfl,q⟩;rw[zbc,List.length_singleton]
 lia
end
section
variable {prog:zah}{w:World}{A:zao}{E:Value->zad->Prop}{s:zad}
end
section
variable {X:Cx}
end
section
variable {κ:Type}[DecidableEq κ]
noncomputable def nM(kvs:List (κ×V))(k:κ):Option V:=(kvs.find? λq=>decide (q.1=k)).map (·.2)
noncomputable def putK(kvs:List (κ×V))(k:κ)(v:V):List (κ×V):=
 if(kvs.any λq=>decide (q.1=k))=true then kvs.map (λq=>if q.1=k then(q.1,v)else q)else kvs++[(k,v)]
noncomputable def S0(kvs:List (κ×V))(k:κ):List (κ×V):=kvs.filter λq=>decide (q.1≠k)
theorem mN{p:κ×V}{r:List (κ×V)}{k:κ}(e:p.1=k):nM (p::r) k=some p.2:=by simp[nM,zby,e]
theorem mS{p:κ×V}{r:List (κ×V)}{k:κ}(e:¬ p.1=k):nM (p::r) k=nM r k:=by simp[nM,zby,e]
theorem zC(k:κ):∀kvs:List (κ×V),(kvs.any λq=>decide (q.1=k))=(nM kvs k).isSome
 | []=>rfl
 | p::r=>by
  rw[zb9];by_cases e:p.1=k
  ·simp only[mN e,decide_eq_true e,Bool.true_or,Option.isSome_some]
  ·rw[mS e,decide_eq_false e,Bool.false_or];exact zC k r
theorem fJ(kvs:List (κ×V))(k:κ)(v:V):(putK kvs k v).length<=kvs.length+1:=by
 unfold putK;split
 ·rw[zal];lia
 ·rw[zbc,zaz,zbF];lia
theorem RelO.isSome_eq(r:RelO o u):o.isSome=u.isSome:=by
 cases o with
 | none=>cases u with
  | none=>rfl
  | some _=>exact(show False from r).elim
 | some _=>cases u with
  | none=>exact(show False from r).elim
  | some _=>rfl
theorem RelO.getD(r:RelO o u)(rd:RelV d d'):RelV (o.getD d) (u.getD d'):=by
 cases o with
 | none=>cases u with
  | none=>exact rd
  | some _=>exact(show False from r).elim
 | some _=>cases u with
  | none=>exact(show False from r).elim
  | some _=>exact r
theorem KV.val(r:KV kvs vs)(k:κ):RelO (nM kvs k) (zcn vs k):=by
 unfold KV at r;induction r with
 | nil=>exact zaY
 | @cons p q ps qs h t ih=>
  obtain⟨h1,h2⟩:=h;by_cases e:p.1=k
  ·have B:q.1=k:=h1.symm.trans e
   have b:zcn (q::qs) k=some q.2:=by simp[zcn,zby,B]
   rw[mN e,b];exact h2
  ·have B:¬ q.1=k:=λz=>e (h1.trans z)
   have b:zcn (q::qs) k=zcn qs k:=by simp[zcn,zby,B]
   rw[mS e,b];exact ih
theorem KV.any(r:KV kvs vs)(k:κ):(kvs.any λq=>decide (q.1=k))=vs.any λq=>decide (q.1=k):=by
 unfold KV at r;induction r with
 | nil=>rfl
 | cons h t ih=>rw[zb9,zb9,ih,h.1]
theorem KV.repl(r:KV kvs vs)(k:κ)(F:RelV y u) :
  KV (kvs.map λB=>if B.1=k then(B.1,y)else B) (vs.map λB=>if B.1=k then(B.1,u)else B):=by
 unfold KV at r ⊢;induction r with
 | nil=>exact .nil
 | @cons p q ps qs h t ih=>
  rw[zak,zak];refine .cons ?_ ih;obtain⟨h1,h2⟩:=h;by_cases e:p.1=k
  ·rw[if_pos e,if_pos (h1.symm.trans e)];exact⟨h1,F⟩
  ·rw[if_neg e,if_neg (λz=>e (h1.trans z))];exact⟨h1,h2⟩
theorem KV.put(r:KV kvs vs)(k:κ)(q:RelV y u):KV (putK kvs k y) (stored vs k u):=by
 unfold putK stored;rw[r.any k];by_cases e:(vs.any λz=>decide (z.1=k))=true
 ·rw[if_pos e,if_pos e];exact r.repl k q
 ·rw[if_neg e,if_neg e];exact Paired.snoc r ⟨rfl,q⟩
theorem KV.drop(r:KV kvs vs)(k:κ):KV (S0 kvs k) (without vs k):=by
 unfold KV at r ⊢;unfold S0 without;induction r with
 | nil=>exact .nil
 | @cons p q ps qs h t ih=>
  obtain⟨h1,h2⟩:=h;rw[zcC,zcC];by_cases e:p.1=k
  ·have a:¬ decide (p.1≠k)=true:=by simp[e]
   have b:¬ decide (q.1≠k)=true:=by simp[h1.symm.trans e]
   rw[if_neg a,if_neg b];exact ih
  ·have B:¬ q.1=k:=λz=>e (h1.trans z)
   have a:decide (p.1≠k)=true:=by simp[e]
   have b:decide (q.1≠k)=true:=by simp[B]
   rw[if_pos a,if_pos b];exact .cons ⟨h1,h2⟩ ih
theorem KV.length(r:KV kvs vs):kvs.length=vs.length:=zcL r
end
theorem v5(r:RelV (kV k) u):(bC P w).is k u=true:=by
 cases k with
 | inl i=>obtain⟨t,e⟩:=(show ∃t,u=zcv i t from r);subst e;exact yO P w i t
 | inr x=>obtain⟨t,e⟩:=(show ∃t,u=zcJ x t from r);subst e;exact yR P w x t
theorem uW:∀ {ks:List Key} {us:List Value},Vals (ks.map kV) us->ItemsAre (bC P w) ks us
 | [],_,r=>by rw[zcB]at r;cases r;exact .nil
 | k::ks,_,r=>by
  rw[zak]at r;cases r with
  | cons h t=>exact .cons (v5 h) (uW t)
abbrev KT(H:Hp):List (List Key×V)->List (List Key×Addr×Value)->Prop:=Paired λp q=>p.1=q.1/\H q.2.1=some (.tup (p.1.map kV))/\RelV p.2 q.2.2
theorem KT.val(r:KT H kvs xs)(k:List Key):RelO (nM kvs k) ((atKey xs k).map (·.2)):=by
 induction r with
 | nil=>exact zaY
 | @cons p q ps qs h t ih=>
  obtain⟨h1,_,h2⟩:=h;by_cases e:p.1=k
  ·have B:q.1=k:=h1.symm.trans e
   have b:atKey (q::qs) k=some q.2:=by simp[atKey,zby,B]
   rw[mN e,b];exact h2
  ·have B:¬ q.1=k:=λz=>e (h1.trans z)
   have b:atKey (q::qs) k=atKey qs k:=by simp[atKey,zby,B]
   rw[mS e,b];exact ih
theorem KT.repl(r:KT H kvs xs)(k:List Key)(G:RelV y u) :
  KT H (kvs.map λB=>if B.1=k then(B.1,y)else B) (xs.map (putAt k u)):=by
 induction r with
 | nil=>exact .nil
 | @cons p q ps qs h t ih=>
  rw[zak,zak];refine .cons ?_ ih;obtain⟨h1,h2,F⟩:=h;unfold putAt;by_cases e:p.1=k
  ·rw[if_pos e,if_pos (h1.symm.trans e)];exact⟨h1,h2,G⟩
  ·rw[if_neg e,if_neg (λz=>e (h1.trans z))];exact⟨h1,h2,F⟩
theorem KT.put(r:KT H kvs xs)(k:List Key)(F:H b=some (.tup (k.map kV)))(z:RelV y u) :
  KT H (putK kvs k y) (storedH xs k b u):=by
 have e:(kvs.any λB=>decide (B.1=k))=(atKey xs k).isSome:=by
  rw[zC,(r.val k).isSome_eq,Option.isSome_map]
 unfold putK storedH;rw[e];by_cases q:(atKey xs k).isSome=true
 ·rw[if_pos q,if_pos q];exact r.repl k z
 ·rw[if_neg q,if_neg q];exact Paired.snoc r ⟨rfl,F,z⟩
theorem KT.keeps(r:KT H kvs xs)(q:∀b ys,H b=some (.tup ys)->H' b=some (.tup ys)):KT H' kvs xs:=
 Paired.mapP r λ_ _ z=>⟨z.1,q _ _ z.2.1,z.2.2⟩
section
variable {P:zah}{w:World}{H:Hp}{h:Heap}{a:Addr}
theorem TK(ok:HOk P w H h)(e:Rd H a u):ObjOk P w H h a u:=e.ok ok
theorem vV(ok:HOk P w H h)(e:Rd H a (.dK kvs)):kvs.length<=zaj/\(a == za6)=false/\∃vs,KV kvs vs/\h.DictOf (bC P w) a vs:=
 show ObjOk P w H h a (.dK kvs)from TK ok e
theorem SU(ok:HOk P w H h)(e:H a=some (.dK kvs)):kvs.length<=zaj/\(a == za6)=false/\∃vs,KV kvs vs/\h.DictOf (bC P w) a vs:=vV ok (.inl e)
theorem n9(ok:HOk P w H h)(e:H a=some (.tup (ks.map kV))):(zb2 (bC P w)).is h ks a:=by
 obtain⟨_,q,r,o,h1,h2,n,z⟩:=(show ObjOk P w H h a (.tup (ks.map kV))from ok a _ e);exact⟨o,q.toArray,n,h1,h2,z.1,by simpa using uW r⟩
theorem F5(ok:HOk P w H h)(e:Rd H a (.dT kvs)):kvs.length<=zaj/\(a == za6)=false /\
  ∃xs,KT H kvs xs/\h.DictOfH (zb2 (bC P w)) a xs:=by
 obtain⟨z,y,xs,r,o,es,ep,h1,h2,B,F,G⟩:=(show ObjOk P w H h a (.dT kvs)from TK ok e);refine⟨z,y,xs,r,o,es,ep,h1,h2,B,F,λx hx=>?_,G⟩;have all:∀ {l:List (List Key×V)} {m:List (List Key×Addr×Value)},KT H l m->∀x∈m,(zb2 (bC P w)).is h x.1 x.2.1:=by
  intro l m q;induction q with
  | nil=>intro x hx;exact nomatch hx
  | @cons p q ps qs hq t ih=>
   intro x hx;rcases List.mem_cons.mp hx with e|hx
   ·subst e
    exact n9 ok (by rw[<- hq.1];exact hq.2.1)
   ·exact ih x hx
 exact all r x hx
theorem TH(ok:HOk P w H h)(e:H a=some (.dT kvs)):kvs.length<=zaj/\(a == za6)=false /\
  ∃xs,KT H kvs xs/\h.DictOfH (zb2 (bC P w)) a xs:=F5 ok (.inl e)
end
def DGet(H:Hp)(a:Addr)(y:V)(r:Option V):Prop:=
 (∃kvs k,Rd H a (.dK kvs)/\y=kV k/\r=nM kvs k)\/∃kvs k b,Rd H a (.dT kvs)/\y=.ref b/\H b=some (.tup (k.map kV))/\r=nM kvs k
def DPut(H:Hp)(a:Addr)(y v:V)(H':Hp):Prop:=
 (∃kvs k,H a=some (.dK kvs)/\y=kV k/\kvs.length<zaj/\H'=upd H a (.dK (putK kvs k v))) \/
 ∃kvs k b,H a=some (.dT kvs)/\y=.ref b/\H b=some (.tup (k.map kV))/\kvs.length<zaj/\H'=upd H a (.dT (putK kvs k v))
theorem DGet.k{H:Hp}{a:Addr}{kvs:List (Key×V)}{k:Key}(e:H a=some (.dK kvs)):DGet H a (kV k) (nM kvs k):=.inl ⟨kvs,k,.inl e,rfl,rfl⟩
theorem DGet.t{H:Hp}{a b:Addr}{kvs:List (List Key×V)}{k:List Key}(e:H a=some (.dT kvs))(q:H b=some (.tup (k.map kV))):DGet H a (.ref b) (nM kvs k):=.inr ⟨kvs,k,b,.inl e,rfl,q,rfl⟩
theorem DPut.k{H:Hp}{a:Addr}{kvs:List (Key×V)}{k:Key}{v:V}(e:H a=some (.dK kvs))(q:kvs.length<zaj):DPut H a (kV k) v (upd H a (.dK (putK kvs k v))):=.inl ⟨kvs,k,e,rfl,q,rfl⟩
theorem DPut.t{H:Hp}{a b:Addr}{kvs:List (List Key×V)}{k:List Key}{v:V}(e:H a=some (.dT kvs))(q:H b=some (.tup (k.map kV)))(z:kvs.length<zaj) :
  DPut H a (.ref b) v (upd H a (.dT (putK kvs k v))):=.inr ⟨kvs,k,b,e,rfl,q,z,rfl⟩
section
variable {X:Cx}{pins:List (Addr×Obj)}{σ:St}{H:Hp}{s:zad}{a:Addr}{y v:V}{u r:Value}{o:Option V}{A:zao}{E:Value->zad->Prop}
theorem Inv.big(I:Inv X pins σ H s):za6<s.heap.objs.size:=by
 have h:zaK<s.heap.objs.size:=(I.mod.glob.keeps I.bk).lt;exact Nat.lt_trans (by decide) h
theorem G5(Y:A.units+1<cLine)(I:Inv X pins σ H s)(g:DGet H a y (some v))(N:RelV y u)(h:∀F s',Inv X pins σ H s'->RelV v F->Q F s') :
  wpAny (model X.prog X.w) A (zbx (.ref a) u) Q E s:=by
 rcases g with⟨kvs,k,e,M,l⟩|⟨kvs,k,b,e,M,U,l⟩
 ·subst M
  obtain⟨z,hd,vs,q,G⟩:=vV I.hok e;obtain⟨F,hw,B⟩:=RelO.some_of (v:=v) (o:=zcn vs k) (by rw[l];exact q.val k);exact wpAny_getItem_of (v5 N) G.mapOf hw (h F _ (I.tok _) B)
 ·subst M
  cases(show u=zau b from N);obtain⟨z,hd,xs,q,G⟩:=F5 I.hok e;obtain⟨F,hw,B⟩:=RelO.some_of (v:=v) (o:=(atKey xs k).map (·.2)) (by rw[l];exact q.val k);obtain⟨p,W,J⟩:=Option.map_eq_some_iff.mp hw;refine wpAny_getItem_heap (zea Y) (n9 I.hok U) G W ?_;rw[J];exact h F _ (I.tok _) B
theorem Q9(N:A.units+1<cLine)(I:Inv X pins σ H s)(g:DGet H a y o)(J:RelV y u)(h:∀s',Inv X pins σ H s'->Q (.bool (!o.isSome)) s') :
  wpAny (model X.prog X.w) A (zaC .NotIn u (.ref a)) Q E s:=by
 rcases g with⟨kvs,k,e,G,l⟩|⟨kvs,k,b,e,G,M,l⟩
 ·subst G
  obtain⟨z,hd,vs,B,F⟩:=vV I.hok e;refine wpAny_notIn_of (v5 J) hd F.mapOf ?_;rw[<- (B.val k).isSome_eq,<- l];exact h _ (I.tok _)
 ·subst G
  cases(show u=zau b from J);obtain⟨z,hd,xs,B,F⟩:=F5 I.hok e;refine wpAny_notIn_heap (zea N) (n9 I.hok M) hd F ?_;have q:=(B.val k).isSome_eq;rw[Option.isSome_map]at q;rw[<- q,<- l];exact h _ (I.tok _)
theorem nF(I:Inv X pins σ H s)(B:qw (H a))(hs:za4 a s.heap h')(G:∃q,h'.get? a=some q)(new:ObjOk X.prog X.w (upd H a ob) h' a ob) :
  Inv X pins σ (upd H a ob) {s with heap:=h',toks:=t'}:=
 I.write (x:=a) (e:=a) B (.inl rfl) (λb q F z=>(hs.2 b F).trans z) G new
theorem L5(z:kvs.length<=zaj)(hd:(a == za6)=false)(q:KV kvs vs)(B:h'.DictOf (bC P w) a vs) :
  ObjOk P w H' h' a (.dK kvs):=⟨z,hd,vs,q,B⟩
theorem HI(hu:A.units+1<cLine)(I:Inv X pins σ H s)(g:DPut H a y v H')(ry:RelV y u)(rv:RelV v r)(h:∀s',Inv X pins σ H' s'->Q () s') :
  wpAny (model X.prog X.w) A (setItem (.ref a) u r) Q E s:=by
 rcases g with⟨kvs,k,e,N,l,W⟩|⟨kvs,k,b,e,N,Y,l,W⟩
 ·subst N W
  obtain⟨z,hd,vs,B,J⟩:=SU I.hok e;have M:vs.length<=zaj:=by rw[<- B.length];exact z
  have U:(putK kvs k v).length<=zaj:=by have:=fJ kvs k v;lia
  refine wpAny_setItem_pairs (hsz:=M) (v5 ry) J λh' F hs=>h _ ?_
  have he:∃q,h'.get? a=some q:=let ⟨q,_,_,G,_⟩:=F;⟨q,G⟩;exact nF I (by rw[e];exact zaY) hs he (L5 U hd (B.put k rv) F)
 ·subst N W
  cases(show u=zau b from ry);obtain⟨z,hd,xs,B,J⟩:=TH I.hok e;have M:xs.length<=zaj:=by rw[<- zcL B];exact z
  have U:(putK kvs k v).length<=zaj:=by have:=fJ kvs k v;lia
  refine wpAny_setItem_heap (hsz:=M) (zea hu) (n9 I.hok Y) J λh' F hs=>h _ ?_
  obtain⟨q,es,ep,G,h2,h3,h4,_,h5⟩:=F;refine nF I (by rw[e];exact zaY) hs ⟨q,G⟩ ⟨U,hd,_,(B.put k Y rv).keeps λc ys ec=>?_,q,es,ep,G,h2,h3,h4,h5⟩;rw[aE (t5 ec e (λz=>nomatch z))];exact ec
end
section
variable {X:Cx}{pins:List (Addr×Obj)}{σ:St}{H:Hp}{s:zad}{a:Addr}{kvs:List (Key×V)}{k:Key}{u:Value}{A:zao}{E:Value->zad->Prop}
theorem ZI(I:Inv X pins σ H s)(e:Rd H a (.dK kvs))(h:∀t s',Inv X pins σ H s'->Q (.int kvs.length t) s'):wpAny (model X.prog X.w) A (call (.builtin "len") [.ref a]) Q E s:=by
 obtain⟨z,hd,vs,q,B⟩:=vV I.hok e;refine call_len_dict hd B (by rw[<- q.length];rw[zcQ]at z;lia) ?_;rw[<- q.length];exact h _ _ (I.tok _)
end
def IX(i:Expr):Prop:=∀q z,zdn i false q z=operate [q,z] (zbx q z)
theorem ER{E:Value->zad->Prop}{T id:String}{Q:Value->zad->Prop}
  (M:typeLookup (.type T) "__getitem__" = pure (some (.builtin id))) (hs:IX slice)
  (h:wpAny (model prog w) A (eval value env) (λo B=>wpAny (model prog w) A (eval slice env) (λi q=>q.TypeIs o T/\wpAny (model prog w) A (zbx o i) Q E q) E B) E s) :
  wpAny (model prog w) A (eval (.Subscript value slice pos) env) Q E s:=by
 refine Subscript_ (za7 h (λo B G=>za7 G (λi q z=>?_) λ_ _ x=>x) λ_ _ x=>x);obtain⟨hT,z⟩:=z;unfold subscriptTail;refine zaa ?_;rw[getitemInPython_of_ne hT.not_modules];refine zaa (zcM hT M ?_);have fin:wpAny (model prog w) A (zdn slice false o i) (λr F=>wpAny (model prog w) A (letTemporaryGo value o r >>= λ_=>pure r) Q E F) E q:=by
  rw[hs o i];exact wpAny_operating (za7 z (λr F J=>zaa (wpAny_letTemporaryGo (zaf J))) λ_ _ x=>x)
 first
  | exact zaf (zaa fin)
  | exact zaa (zaf (zaa fin))
  | exact zaa fin
theorem yL(I:Inv X pins σ H s)(g:DGet H a y o):s.TypeIs (.ref a) "dict" := by
 rcases g with⟨kvs,k,e,_,_⟩|⟨kvs,k,b,e,_,_,_⟩
 ·obtain⟨_,_,vs,_,q⟩:=vV I.hok e
  exact q.typeIs
 ·obtain⟨_,_,xs,_,q⟩:=F5 I.hok e
  exact q.typeIs
def S5(td ty:TE):TE:=λσ H Q=>td σ H λx H1=>ty σ H1 λy H2=>∃a v,x=.ref a/\DGet H2 a y (some v)/\Q v H2
def X9(td ty tv:TE):TS:=λD σ H=>tv σ H λv H1=>td σ H1 λx H2=>ty σ H2 λy z=>∃a q,x=.ref a/\DPut z a y v q/\D.nx σ q
section
variable {X:Cx}{o i e value:Expr}{pos pos' tpos:Pos}{td ty tv:TE}
theorem FD(N:X.A.units+1<cLine)(Y:PE X o td)(hi:PE X i ty)(hs:IX i):PE X (.Subscript o i pos) (S5 td ty):=by
 intro pins s σ H Q I h;refine ER PySem.F.slot_dict_getitem.lookup hs (cR (Y pins s σ H _ I h) λu G ⟨x,H1,J,B,U⟩=>cR (hi pins G σ H1 _ J U) λiv s2 ⟨y,H2,z,W,a,v,ex,g,M⟩=>?_);subst ex;obtain rfl:u=zau a:=B;exact⟨yL z g,G5 N z g W λw' s3 I3 q=>⟨v,H2,I3,q,M⟩⟩
theorem xM(B:X.A.units+1<cLine)(G:PE X o td)(hi:PE X i ty)(hv:PE X value tv)(hs:zaD value (some (.Subscript o i pos')) pos.line X.env=pure false) :
  PS X (.Assign [.Subscript o i pos'] value pos) (X9 td ty tv):=by
 intro pins s σ H D I h;refine wpAny_Assign_Subscript (cR (hv pins s σ H _ I h) λr Y ⟨v,H1,M,U,N⟩=>cR (G pins Y σ H1 _ M N) λu F ⟨x,H2,I2,rx,z⟩=>cR (hi pins F σ H2 _ I2 z) λiv s3 ⟨y,H3,W,ry,a,q,ex,g,q3⟩=>?_) hs;subst ex;obtain rfl:u=zau a:=rx;exact HI B W g ry U λs4 J=>⟨σ,q,J,q3⟩
end
theorem JP(h:Heap)(q:za6<h.objs.size):ObjOk P w H (h.push {cls:=.type "dict",data:=.dict #[]}) h.objs.size (.dK []):=
 ⟨zaI _,beq_eq_false_iff_ne.mpr (zaU (zaF q)),[],.nil,Heap.DictOf.new h⟩
theorem zG(h:Heap)(q:za6<h.objs.size):ObjOk P w H (h.push {cls:=.type "dict",data:=.dict #[]}) h.objs.size (.dT []):=
 ⟨zaI _,beq_eq_false_iff_ne.mpr (zaU (zaF q)),[],.nil,_,#[],0,zaE _ rfl,⟨rfl,rfl,rfl⟩,rfl,rfl,List.nodup_nil⟩
def VW:TE:=λ_ H Q=>∀p,H p=none->Q (.ref p) (upd H p (.dT []))
section
variable {X:Cx}{pos:Pos}
theorem zH:PE X (.Dict [] [] pos) VW:=λpins s σ H Q I h=>
 wpAny_Dict_empty ⟨.ref s.heap.objs.size,_,I.laid (a:=s.heap.objs.size) (o:=.dT []) (t':=s.toks) (λ_ _ q=>zan _ q) (zai _) (zG s.heap I.big),rfl,h _ (I.hok.fresh (zai _))⟩
end
def IsD(H:Hp)(a:Addr):Prop:=(∃kvs,Rd H a (.dK kvs))\/∃kvs,Rd H a (.dT kvs)
section
variable {X:Cx}{pins:List (Addr×Obj)}{σ:St}{H:Hp}{s:zad}{a:Addr}{y d:V}{u r:Value}{o:Option V}{A:zao}{E:Value->zad->Prop}
end
section
variable {X:Cx}{o e f:Expr}{apos cpos:Pos}{td ty tx:TE}
end
section
variable {X:Cx}{pins:List (Addr×Obj)}{σ:St}{H:Hp}{s:zad}{a:Addr}{kvs:List (Key×V)}{A:zao}{E:Value->zad->Prop}
end
section
variable {X:Cx}{pins:List (Addr×Obj)}{σ:St}{H:Hp}{s:zad}{a:Addr}{y:V}{u:Value}{A:zao}{E:Value->zad->Prop}
end
end L2
namespace Att
open PySem PySem.W PySem.Calls PyProof.Rows
theorem pQ:∀(ns:List Int) (vs:List Value),WellAll P h vs (ns.map WData.int)->zbi vs ns:=by
 intro ns;induction ns with
 | nil=>
  intro vs w;rw[zcB]at w;cases w;exact .nil
 | cons n ns ih=>
  intro vs w;rw[zak]at w;cases w with
  | cons a b=>
   cases a;exact .cons _ _ (ih _ b)
theorem HP{l:OpenLaw}{n:Nat}(Y:l.most=some n){P:Params}{h:Heap}{args:List WData}{z:List Value}
  (B:l.row.toRowW.claim.pre args=true) (M:WellAll P h z args) :
  ∃a vs ns,z=[zau a]/\args=[WData.list (ns.map WData.int)]/\h.get? a=some {cls:=.type "list",data:=.seq vs.toArray}/\zbi vs ns/\ns.length<=n:=by
 have N:WShape.hasAll [] args [.list .int]=true:=(pre_splitW B).1;have U:l.pre.holds [] {args:=args}=true:=(pre_splitW B).2;obtain⟨d,r,rfl,h1,h2⟩:=hasAllW_cons N;obtain rfl:=hasAllW_nil h2;obtain⟨xs,rfl,W⟩:=hasW_list h1;obtain⟨ns,rfl⟩:=items_int W;have F:ns.length<=n:=by
  unfold OpenLaw.pre at U;have G:(WTm.not (.lt (.lit (.int (n:Int))) (.len (.arg 0)))).holds [] {args:=[.list (ns.map .int)]}=true:=by
   have G:=(holds_andW U).1;rw[Y]at G;exact G
  have J:=condW_of G (w_not (w_lt w_lit (w_len_list (w_arg rfl))));rw[zal]at J;refine Nat.le_of_not_lt λq=>?_
  have q':(n:Int)<((ns.length:Nat):Int):=by lia
  first
   | (rw[decide_eq_true q']at J;exact absurd J (by decide))
   | (simp at J;lia)
 cases M with
 | cons w1 w2=>
  cases w2;cases w1 with
  | list ho hall=>exact⟨_,_,ns,rfl,rfl,ho,pQ ns _ hall,F⟩
theorem GV(l:OpenLaw)(args:List WData):l.row.toRowW.claim.post args (.bool true) args=true:=
 postW_of (r:=l.row.toRowW) (X:=(true == true))
  (show WShape.has [] (.bool true) .bool=true by first|rfl|decide|simp[WShape.has,WShape.arms,WShape.armsAll])
  (show(WTm.eq .res (.lit (.bool true))).value [] {args:=args,res:=some (.bool true),after:=args}=some (.bool (true == true))from w_eq_bool (w_res rfl) w_lit) rfl
theorem yI{l:OpenLaw}{n:Nat}{q:zah}{F:List Str}{XP:(Str->Option Value)->Heap->Prop}{YP:World->Heap->Prop}{d:DefRec}
  (hn:l.most=some n) (af:d.params.defaults=[])
  (call:∀(w:World) (B z:zad) (mg mb:Str -> Option Value) (N:Addr) (o:Obj) (pm cd J:Value) (a:Addr) (vs:List Value) (ns:List Int),
   Ground q F [] XP w B mg mb z.heap->YP w z.heap->
   z.heap.get? N=some o->o.data=.func (docDef d.name d.params d.body d.scope pm cd J)->z.heap.CodeRec cd d.name->mg d.name=some (.ref N)->
   z.heap.get? a=some {cls:=.type "list",data:=.seq vs.toArray}->zbi vs ns->ns.length<=n->z.gens=#[]->
   zbD (model l.prog w) zco (.call (.ref N) ⟨[.ref a],[]⟩) (λr s'=>r=.ok (.ret (.bool true))/\OldK z.heap s'.heap/\s'.os=z.os/\zbN s'.gens) z) :
  WalkO q F XP YP l.row.toRowW d [] (λf vs=>PySem.call f vs):=by
 intro w B z mg mb G Y N o pm cd J dV kV ho hd ac hD ae hg args am as aa aj ax ah az;obtain rfl:dV=.none:=Dflts.none hD af;obtain rfl:kV=.none:=Dflts.noKw hD;obtain⟨a,vs,ns,rfl,rfl,W,M,U⟩:=HP hn aa ah;refine enter_call (zdg (call w B z mg mb N o pm cd J a vs ns G Y ho (fd_plain hd) ac ae W M U hg) λr s' hq=>?_);obtain⟨rfl,h2,h3,h4⟩:=hq;exact⟨.inl ⟨.bool true,.bool true,[],rfl,λ_=>rfl,.bool true,GV l _,λ_=>⟨zdq,λ_ hm=>(nomatch hm)⟩⟩,h2,h3,h4⟩
section
variable {prog:zah}{w:World}{A:zao}{E:Value->zad->Prop}{s:zad}{K:Frag}
end
end Att
namespace L2
open PySem PySem.Spec PyProof.Rows
theorem vS:∀ {vs:List Value} {ns:List Int},zbi vs ns->Vals (ns.map V.int) vs
 | _,_,.nil=>.nil
 | _,_,.cons n t h=>.cons ⟨t,rfl⟩ (vS h)
def Only(H:Hp):Prop:=∀b,H b=none\/∃o xs,H b=some (.frz o (.lst xs))
theorem KC{P:zah}{w:World}{K:zae}{mg mb:Str->Option Value}{CX:JF}{k:Nat}{fa a:Addr}{fd:zbb}{x:Str}{sp:Sp}{B:zad}{vs:List Value}{ns:List Int}
  (KX:K.In B.heap) (Y:B.heap.Ns zaK mg) (J:B.heap.Ns builtinsNs mb) (al:∀x:Str,x ≠ "__name__" -> mb x=zaH x) (ad:B.heap.NoLimit) (hg:B.gens=#[])
  (ha:B.heap.get? a=some {cls:=.type "list",data:=.seq vs.toArray}) (hi:zbi vs ns) (hl:ns.length<=zaj) (hr:Room k zco)
  (F:∀base:Heap,K.In base->base.Ns zaK mg->FnOk P w K mg base CX k fa fd [x] sp) (U:∀(s:zad) (u:Value),BindsTo s fd ⟨[u],[]⟩ [(x,u)])
  (hsp:∀H:Hp,Only H->SqL K H a (ns.map V.int)->sp [.ref a] H (λv _=>v=.bl true) λ_ _ _=>False)
  (aj:∀H e s',CX [] H B (λ_ _ _=>False) e s'->False) :
  zbD (model P w) zco (.call (.ref fa) ⟨[.ref a],[]⟩) (λr s'=>r=.ok (.ret (.bool true))/\OldK B.heap s'.heap/\s'.os=B.os/\zbN s'.gens) B:=by
 have rv:=vS hi;have ab:=hi.length
 -- from an abstract heap in which nothing but the script may be tracked
 have N:∀H:Hp,Only H->SqL K H a (ns.map V.int)->HOk P w H B.heap->(∀b,H b≠none->b=a)->(H a≠none->K.lookup a=none)->
   zbD (model P w) zco (.call (.ref fa) ⟨[.ref a],[]⟩) (λr s'=>r=.ok (.ret (.bool true))/\OldK B.heap s'.heap/\s'.os=B.os/\zbN s'.gens) B:=by
  intro H hO hS ac hA hK;have G:∀ {b:Addr} {o:Obj},B.heap.get? b=some o->H b=none->(yD B.heap H).get? b=some o:=λe n=>KL e n
  have ah:∀ {b:Addr} {o:Obj} {es:Array zcp} {ep:Nat},B.heap.get? b=some o->o.data=.dict es ep->H b=none:=λ{b o es ep} e d=>by
   cases q:H b with
   | none=>rfl
   | some u=>
    have e':b=a:=hA b (by rw[q];simp);subst e';rw[ha]at e;cases e;have d':Data.seq vs.toArray _=Data.dict es ep:=d;cases d'
  have M:∀ {b:Addr} {m:Str->Option Value},B.heap.Ns b m->(yD B.heap H).Ns b m:=λ{b m} ⟨o,es,ep,e,d,r⟩=>⟨o,es,ep,G e (ah e d),d,r⟩
  have W:K.In (yD B.heap H):=λb o e=>G (KX b o e) (by
   cases q:H b with
   | none=>rfl
   | some u=>
    have e':b=a:=hA b (by rw[q];simp);subst e';rw[hK (by rw[q];simp)]at e;cases e)
  have hM:Mod K mg (yD B.heap H):=⟨W,M Y,⟨mb,M J,al⟩,let ⟨mc,h1,h2⟩:=ad;⟨mc,M h1,h2⟩⟩;have e0:Env0 P w K mg (yD B.heap H) zco [] B H:=⟨rfl,hM,λb o e=>Q3 e,Nat.le_of_eq (IS _ _),trivial,λb J=>absurd (show b∈([]:List Addr)from J) (by simp),ac,.of_eq hg⟩;refine zdg ((F _ W (M Y)).run zco [] B H ⟨[.ref a],[]⟩ [.ref a] [.ref a] _ _ hr e0 (U B (.ref a)) (.cons rfl .nil) (hsp H hO hS)) λr s' h=>?_
  cases r with
  | error e=>exact(aj H e s' h).elim
  | ok fl=>
   cases fl with
   | next=>exact za8 h
   | brk=>exact za8 h
   | cont=>exact za8 h
   | ret u=>
    obtain⟨v,H',os,ae,un,aa,r',q⟩:=h;have q':v=.bl true:=q;subst q';obtain rfl:u=zcK true:=r';refine⟨rfl,OldK.of_keep λb o e=>?_,os,ae⟩;cases q:H b with
    | none=>exact un.keep b o e q (by intro z;exact absurd (show b∈([]:List Addr)from z) (by simp)) (by simp)
    | some u=>
     rcases hO b with z|⟨ob,xs,z⟩
     ·rw[q]at z;cases z
     ·have z2:=un.frzs b ob _ z
      obtain⟨e1,_⟩:=ac b _ z;obtain⟨e2,_⟩:=aa b _ z2;rw[e]at e1;cases e1;exact e2
 cases hk:K.lookup a with
 | some o=>
  -- the script is one of the module's own objects
  have e:=KX a o hk;rw[ha]at e;cases e;refine N (λ_=>none) (λ_=>.inl rfl) (.inr ⟨_,vs.toArray,_,hk,rfl,rfl,rfl,by rw[zax,ab];exact hl,by simpa using rv⟩) (λb u z=>by have z':(none:Option HO)=some u:=z;cases z') (λb z=>absurd rfl z) λz=>absurd rfl z
 | none=>
  refine N (λb=>if b=a then some (.frz {cls:=.type "list",data:=.seq vs.toArray} (.lst (ns.map V.int)))else none) (λb=>?_) (.inl (.inr ⟨{cls:=.type "list",data:=.seq vs.toArray},if_pos rfl⟩)) (λb u z=>?_) (λb z=>?_) λ_=>hk
  ·by_cases J:b=a
   ·exact .inr ⟨_,_,if_pos J⟩
   ·exact .inl (if_neg J)
  ·by_cases J:b=a
   ·have z':=(if_pos J).symm.trans z
    cases z';subst J;exact⟨ha,by rw[zal];exact hl,vs,_,rv,ha⟩
   ·have z':=(if_neg J).symm.trans z
    cases z'
  ·by_cases J:b=a
   ·exact J
   ·exact absurd (if_neg J) z
theorem OD{l:zeb}{n k:Nat}{q:zah}{J:List Str}{XP:(Str->Option Value)->Heap->Prop}{YP:World->Heap->Prop}{d:DefRec}{K:Params->zae}{CX:World->JF}{sp:World->Sp}{x:Str}
  (hn:l.most=some n) (ad:n<=zaj) (ac:d.params.defaults=[]) (hr:Room k zco)
  (hY:∀(w:World) (h:Heap),YP w h->(K w.params).In h)
  (F:∀(w:World) (mg:Str -> Option Value) (U:Addr) (h:Heap), (K w.params).In h -> h.Ns zaK mg -> mg d.name = some (.ref U) ->
   ∃fd:zbb,(∀(s:zad) (u:Value),BindsTo s fd ⟨[u],[]⟩ [(x,u)]) /\
    ∀base:Heap,(K w.params).In base->base.Ns zaK mg->FnOk l.prog w (K w.params) mg base (CX w) k U fd [x] (sp w))
  (hsp:∀(w:World) (H:Hp) (a:Addr) (ns:List Int),ns.length<=n->Only H->SqL (K w.params) H a (ns.map V.int)->sp w [.ref a] H (λv _=>v=.bl true) λ_ _ _=>False)
  (aa:∀(w:World) (H:Hp) (s:zad) (e:Value) (s':zad),CX w [] H s (λ_ _ _=>False) e s'->False) :
  PySem.W.WalkO q J XP YP l.row.toRowW d [] (λf vs=>PySem.call f vs):=by
 refine Att.yI hn ac λw ae M mg mb U o pm cd ai a vs ns G Y ho hd ah ab N B z hg=>?_
 have KX:=hY w _ Y;obtain⟨fd,hb,hF⟩:=F w mg U _ KX G.T.g ab;exact KC KX G.T.g G.T.b G.T.builtins G.T.nolimit hg N B (zaL z ad) hr hF hb (λH hO hS=>hsp w H a ns z hO hS) λH e s'=>aa w H M e s'
noncomputable def inClass(s:Stmt)(j:Nat):Stmt:=match s with
 | .ClassDef _ _ _ body _ _ _ _ _ _ _=>body.getD j (.Pass ⟨0,0,0,0⟩)
 | _=>.Pass ⟨0,0,0,0⟩
noncomputable def d7(s:Stmt):Arguments:=match s with
 | .FunctionDef _ a _ _ _ _ _ _ _ _=>a
 | _=>{posonlyargs:=[],args:=[],vararg:=none,kwonlyargs:=[],kw_defaults:=[],kwarg:=none,defaults:=[]}
noncomputable def bM(s:Stmt):List Stmt:=match s with
 | .FunctionDef _ _ b _ _ _ _ _ _ _=>b
 | _=>[]
noncomputable def aK(s:Stmt):Scope:=match s with
 | .FunctionDef _ _ _ _ _ _ sc _ _ _=>sc
 | _=>{kind:=.function,names:=[],isGenerator:=false,isCoroutine:=false}
abbrev uF:JF:=λ_ _ _ _ _ _=>False
abbrev E0:XK:=λ_ _ _=>False
theorem GH:tL uF X E0:=λ_ _ _ _ _ _ _ h=>h.elim
structure Fun(K:zae)(x qual:Str)(st:Stmt)(f:Addr)(fd:zbb):Prop where
 ex:∃(oc:Value) (od:Option Addr) (kV doc pm:Value) (an:Option Addr) (cdv ct:Value) (osl:Array (Option Value)),
  fd=zbh x qual (d7 st) (bM st) (aK st) .none kV doc pm an cdv ct/\K.lookup f=some ⟨oc,od,.func fd,osl⟩/\zcm K cdv qual=true
 kp:zbE K (.ref f)=true
section
variable {P:zah}{w:World}{K:zae}{mg:Str->Option Value}{base:Heap}
theorem Fun.ok{x B:Str}{st:Stmt}{f:Addr}{fd:zbb}{N ps:List Str}{k:Nat}{sp:Sp}(F:Fun K x B st f fd)(S:FnScope N ps (aK st))(U:∀vs H Q E,sp vs H Q E->vs.length=ps.length)
  (J:∀(G:Value) (A:zao) (z:List Env) (s:zad) (H:Hp) (vs:List V) (Q:VK) (E:XK), Room k (A.deeper (zaJ B (aK st) s.heap.objs.size f G)) -> sp vs H Q E ->
   ∃t,PSs (g9 uF P w K mg base N B (aK st) f G A z s H E).nox (bM st) t/\t {nx:=λ_ H'=>Q .non H',rt:=Q} (start N vs) H):FnOk P w K mg base uF (k+1) f fd ps sp:=by
 obtain⟨oc,od,kV,ab,pm,an,G,ct,W,rfl,Y,M⟩:=F.ex;refine Y8 Y M S U λA z s H vs Q E hr hsp=>?_
 obtain⟨t,h,q⟩:=J G A z s H vs Q E hr hsp;exact⟨t,h.nox,q⟩
theorem Fun.binds{x q:Str}{st:Stmt}{f:Addr}{fd:zbb}{ps:List Str}(F:Fun K x q st f fd)
  (h:∀(kV B G:Value) (J:Option Addr) (z ct:Value) (us:List Value),us.length=ps.length->bindArgs (zbh x q (d7 st) (bM st) (aK st) .none kV B G J z ct) ⟨us,[]⟩=pure (ps.zip us)):Binds K fd ps []:=by
 obtain⟨W,od,kV,B,G,J,z,ct,M,rfl,U,N⟩:=F.ex;exact .all (h kV B G J z ct)
theorem DF{x q:Str}{st:Stmt}{f:Addr}{M:Value}{od J:Option Addr}{F:Array (Option Value)}{kV B G z ct:Value}(l:K.lookup f=some ⟨M,od,.func (zbh x q (d7 st) (bM st) (aK st) .none kV B G J z ct),F⟩)
  (c:zcm K z q=true) (k:zbE K (.ref f)=true):Fun K x q st f (zbh x q (d7 st) (bM st) (aK st) .none kV B G J z ct):=⟨⟨M,od,kV,B,G,J,z,ct,F,rfl,l,c⟩,k⟩
end
theorem nL(q:Room k A):A.units+1<cLine:=zcU (Nat.add_le_add_left (by decide:1<=64) _) q.units
section
variable {X:Cx}
theorem pv(i:Nat)(z:X.N[i]?=some x:=by rfl)(B:XM X.env.scope x:=by first|exact zaZ rfl|exact zbK (zaZ rfl)|exact zbK (zbK rfl))(hd:(x == ("__debug__" : Str))=false:=by decide)
  (q:(x == ("__classdict__" : Str))=false:=by decide):PE X (.Name x pos) (c7 i):=VO z B hd q
end
theorem qd{A B:Prop}(h:B):if false=true then A else B:=by
 rw[if_neg zaA];exact h
theorem Z7{A B:Prop}(h:A):if true=true then A else B:=by
 rw[if_pos rfl];exact h
def Same(H H':Hp):Prop:=∀b o,H b=some o->H' b=some o
theorem Same.trans(a:Same H H1)(b:Same H1 H2):Same H H2:=λc o h=>b c o (a c o h)
theorem Same.free(e:Same H H')(h:H' l=Option.none):H l=Option.none:=by
 cases q:H l with
 | none=>rfl
 | some o=>
  rw[e l o q]at h;cases h
theorem Same.seq{K:zae}{H H':Hp}{a:Addr}{xs:List V}(e:Same H H')(h:SqL K H a xs):SqL K H' a xs:=by
 rcases h with(h|⟨o,h⟩)|h
 ·exact .inl (.inl (e _ _ h))
 ·exact .inl (.inr ⟨o,e _ _ h⟩)
 ·exact .inr h
section
variable {X:Cx}
end
section
variable {κ:Type}[DecidableEq κ]
end
end L2
set_option maxHeartbeats 4000000
namespace My
open PySem PySem.Spec PyProof.Rows L2
def DT(i j:Int):Prop:=(-(10^250)<i/\i<10^250)/\-(10^250)<j/\j<10^250
theorem zW(h1:-(10^250)<i)(h2:i<10^250):Builtin.Int.intBits i<=2^20:=by
 have h:i.natAbs<10^250:=by lia
 have e:(10:Nat)^250<=2^(4*250):=by
  rw[Nat.pow_mul];exact Nat.pow_le_pow_left (by decide) 250
 exact zaL (PyProof.Rows.intBits_le (zaX h e)) (by decide)
section
variable {X:Cx}
theorem O9:OpR X (zaM .Mult) (rI DT λi j=>.int (i*j)):=qy λ_ _ _ _ _ _ _ z q=>mul_int q (IntMulOk.of_bits (zW z.1.1 z.1.2) (zW z.2.1 z.2.2))
def qaM(K:zae):List V->Hp->VK->Prop:=λxs H Q=>∃x n t b,xs=[x,.ty n]/\TyOf K H x t/\zde K t (.type n)=some b/\Q (.bl b) H
theorem KW:CallR X (.builtin "isinstance") (qaM X.K):=by
 intro pins s σ H xs z Q I r h;obtain⟨x,n,t,b,rfl,ty,e,q⟩:=h;obtain⟨u,B,rfl,r1,r2⟩:=vals2 r;cases r2;exact IG I r1 ty e λtk=>⟨.bl b,H,I.tok tk,rfl,q⟩
end
structure Ok(P:zah)(w:World)(K:zae)(mg:Str->Option Value)(base:Heap)(x:Str)(k:Nat)(ps:List Str)(sp:Sp):Prop where
 ex:∃f fd,zbE K (.ref f)=true/\Binds K fd ps []/\mg x=some (.ref f)/\FnOk P w K mg base uF k f fd ps sp
structure DefAt(K:zae)(mg:Str->Option Value)(x:Str)(st:Stmt)(ps:List Str):Prop where
 ex:∃f fd,Fun K x x st f fd/\Binds K fd ps []/\mg x=some (.ref f)
def UN(sp:Sp)(t:TA):TE:=λσ H Q=>t σ H λvs H1=>sp vs H1 Q E0
section
variable {X:Cx}{x:Str}{k:Nat}{ps:List Str}{sp:Sp}{e:Expr}{es:List Expr}{t:TA}{p pos:Pos}
theorem zO(O:Ok X.prog X.w X.K X.mg X.base x k ps sp)(U:Room k X.A)(B:Gl X x)(G:PA X (e::es) t)(z:(x == ("__debug__" : Str))=false:=by decide)
  (M:zag (e::es) X.env=(false,eval e X.env)::zag es X.env:=by rfl) (q:(zaG pos (zag es X.env)).any (·.1)=false:=by rfl) :
  PE X (.Call (.Name x p) (e::es) [] pos) (UN sp t):=by
 obtain⟨f,fd,N,W,J,F⟩:=O.ex;have h:=xK (p:=p) (pos:=pos) F U B J N W .nil GH G z M q;intro pins s σ H Q I hw;refine h pins s σ H Q I ?_;have e:(λ(vs:List V) (H1:Hp)=>sp (vs++[]) H1 Q E0)=λvs H1=>sp vs H1 Q E0:=by
  funext vs H1;rw[zbv]
 show t σ H λvs H1=>sp (vs++[]) H1 Q E0
 rw[e];exact hw
end
section
variable {P:zah}{w:World}{K:zae}{mg:Str->Option Value}{base:Heap}
def BodyOk(P:zah)(w:World)(K:zae)(mg:Str->Option Value)(base:Heap)(x:Str)(st:Stmt)(N:List Str)(k:Nat)(sp:Sp):Prop:=
 ∀(f:Addr) (cdv:Value) (A:zao) (outer:List Env) (s:zad) (H:Hp) (vs:List V) (Q:VK) (E:XK),Room k (A.deeper (zaJ x (aK st) s.heap.objs.size f cdv))->sp vs H Q E->
   ∃t,PSs (g9 uF P w K mg base N x (aK st) f cdv A outer s H E).nox (bM st) t/\t {nx:=λ_ H'=>Q .non H',rt:=Q} (start N vs) H
theorem BodyOk.fn{x:Str}{st:Stmt}{N ps:List Str}{k:Nat}{sp:Sp}{f:Addr}{fd:zbb}(q:BodyOk P w K mg base x st N k sp)(F:Fun K x x st f fd)(S:FnScope N ps (aK st))(B:∀vs H Q E,sp vs H Q E->vs.length=ps.length) :
  FnOk P w K mg base uF (k+1) f fd ps sp:=F.ok S B λG A z s H vs Q E J h=>q f G A z s H vs Q E J h
theorem BodyOk.ok{x:Str}{st:Stmt}{N ps:List Str}{k:Nat}{sp:Sp}(q:BodyOk P w K mg base x st N k sp)(D:DefAt K mg x st ps)(S:FnScope N ps (aK st))(z:∀vs H Q E,sp vs H Q E->vs.length=ps.length) :
  Ok P w K mg base x (k+1) ps sp:=by
 obtain⟨f,fd,F,B,G⟩:=D.ex;exact⟨f,fd,F.kp,B,G,q.fn F S z⟩
theorem Ok.mono(O:Ok P w K mg base x j ps sp)(h:j<=k):Ok P w K mg base x k ps sp:=by
 obtain⟨f,fd,z,B,q,F⟩:=O.ex;exact⟨f,fd,z,B,q,F.mono h⟩
end
def A6(K:zae):Sp:=λvs H Q _=>∃(a:Addr) (ns:List Int),vs=[.ref a]/\SqL K H a (ns.map V.int)/\ns.length<=63/\∀H',Q (.bl true) H'
theorem walk{l:zeb}{q:zah}{B:List Str}{U:(Str->Option Value)->Heap->Prop}{J:World->Heap->Prop}{d:DefRec}{K:Params->zae}{k:Nat}(hk:k<=100)(M:l.most=some 63)(G:d.params.defaults=[])
  (N:∀(w:World) (h:Heap),J w h->(K w.params).In h)
  (F:∀(w:World) (mg:Str -> Option Value) (fa:Addr) (h:Heap), (K w.params).In h -> h.Ns zaK mg -> mg d.name = some (.ref fa) ->
   ∃fd:zbb,(∀(s:zad) (u:Value),BindsTo s fd ⟨[u],[]⟩ [("script",u)])/\∀base:Heap,(K w.params).In base->base.Ns zaK mg->FnOk l.prog w (K w.params) mg base uF k fa fd ["script"] (A6 (K w.params))) :
  PySem.W.WalkO q B U J l.row.toRowW d [] (λf vs=>PySem.call f vs):=
 L2.OD (n:=63) (k:=k) (x := "script") (CX:=λ_=>uF) (sp:=λw=>A6 (K w.params)) M (by decide) G (Room.mono (k:=100) ⟨rfl,by decide,by decide⟩ hk) N F (λ_ _ a ns Y _ hS=>⟨a,ns,rfl,hS,Y,λ_=>rfl⟩) λ_ _ _ _ _ z=>z
theorem LS(h:H p=none):Same H (upd H p o):=λb u e=>by
 rw[aE (bE e h)];exact e
theorem Same.tupR{K:zae}{H H':Hp}{a:Addr}{xs:List V}(e:Same H H')(h:SqT K H a xs):SqT K H' a xs:=by
 rcases h with(h|⟨o,h⟩)|h
 ·exact .inl (.inl (e _ _ h))
 ·exact .inl (.inr ⟨o,e _ _ h⟩)
 ·exact .inr h
noncomputable def num(c:Int):Int:=if c%3=0 then c/3%21-10 else c/3%(2*10^60-1)-(10^60-1)
theorem boot_len:zaH "len" = some (.builtin "len"):=by decide +kernel
theorem boot_max:zaH "max" = some (.builtin "max"):=by decide +kernel
theorem boot_min:zaH "min" = some (.builtin "min"):=by decide +kernel
theorem boot_isinstance:zaH "isinstance" = some (.builtin "isinstance"):=by decide +kernel
theorem boot_int:zaH "int" = some (.type "int"):=by decide +kernel
theorem boot_bool:zaH "bool" = some (.type "bool"):=by decide +kernel
theorem boot_tuple:zaH "tuple" = some (.type "tuple"):=by decide +kernel
theorem boot_list:zaH "list" = some (.type "list"):=by decide +kernel
theorem boot_dict:zaH "dict" = some (.type "dict"):=by decide +kernel
theorem boot_range:zaH "range" = some (.type "range"):=by decide +kernel
theorem boot_zip:zaH "zip" = some (.type "zip"):=by decide +kernel
theorem boot_sum:zaH "sum" = some (.builtin "sum"):=by decide +kernel
end My
namespace My
open PySem PySem.Spec PyProof.Rows L2 PySem.SeqAt
inductive Dx where
 | non|bl (b:Bool)|int (i:Int)|str (x:Str)|tup (l:List Dx)|lst (l:List Dx)
mutual
def Rep(K:zae)(H:Hp):Dx->V->Prop
 | .non,v=>v=.non
 | .bl b,v=>v=.bl b
 | .int i,v=>v=.int i
 | .str x,v=>v=.str x
 | .tup l,v=>∃a xs,v=.ref a/\SqT K H a xs/\RepL K H l xs
 | .lst l,v=>∃a xs,v=.ref a/\SqL K H a xs/\RepL K H l xs
def RepL(K:zae)(H:Hp):List Dx->List V->Prop
 | [],vs=>vs=[]
 | d::ds,vs=>∃x xs,vs=x::xs/\Rep K H d x/\RepL K H ds xs
end
section
variable {K:zae}{H H':Hp}
mutual
theorem Rep.same(e:Same H H'):∀(d:Dx) (v:V),Rep K H d v->Rep K H' d v
 | .non,v,h=>by rw[Rep]at h ⊢;exact h
 | .bl b,v,h=>by rw[Rep]at h ⊢;exact h
 | .int i,v,h=>by rw[Rep]at h ⊢;exact h
 | .str x,v,h=>by rw[Rep]at h ⊢;exact h
 | .tup l,v,h=>by
  rw[Rep]at h ⊢;obtain⟨a,xs,q,h1,h2⟩:=h;exact⟨a,xs,q,Same.tupR e h1,RepL.same e l xs h2⟩
 | .lst l,v,h=>by
  rw[Rep]at h ⊢;obtain⟨a,xs,q,h1,h2⟩:=h;exact⟨a,xs,q,e.seq h1,RepL.same e l xs h2⟩
theorem RepL.same(e:Same H H'):∀(ds:List Dx) (vs:List V),RepL K H ds vs->RepL K H' ds vs
 | [],vs,h=>by rw[RepL]at h ⊢;exact h
 | d::ds,vs,h=>by
  rw[RepL]at h ⊢;obtain⟨x,xs,q,h1,h2⟩:=h;exact⟨x,xs,q,Rep.same e d x h1,RepL.same e ds xs h2⟩
end
theorem RepL.nil:RepL K H [] []:=by rw[RepL]
theorem RepL.cons(h1:Rep K H d v)(h2:RepL K H ds vs):RepL K H (d::ds) (v::vs):=by
 rw[RepL];exact⟨v,vs,rfl,h1,h2⟩
theorem RepL.length:∀ {ds:List Dx} {vs:List V},RepL K H ds vs->vs.length=ds.length
 | [],vs,h=>by rw[RepL]at h;rw[h];rfl
 | d::ds,vs,h=>by
  rw[RepL]at h;obtain⟨x,xs,rfl,_,h2⟩:=h;rw[zaz,zaz,RepL.length h2]
theorem RepL.get':∀ {ds:List Dx} {vs:List V} {i:Nat} {d:Dx},RepL K H ds vs->ds[i]?=some d->∃v,vs[i]?=some v/\Rep K H d v
 | [],vs,i,d,h,e=>by simp at e
 | d'::ds,vs,i,d,h,e=>by
  rw[RepL]at h;obtain⟨x,xs,rfl,h1,h2⟩:=h;cases i with
  | zero=>simp at e;subst e;exact⟨x,rfl,h1⟩
  | succ i=>exact RepL.get' (i:=i) (ds:=ds) h2 (by simpa using e)
theorem RepL.append:∀ {ds es:List Dx} {vs us:List V},RepL K H ds vs->RepL K H es us->RepL K H (ds++es) (vs++us)
 | [],es,vs,us,h,h'=>by rw[RepL]at h;rw[h];exact h'
 | d::ds,es,vs,us,h,h'=>by
  rw[RepL]at h;obtain⟨x,xs,rfl,h1,h2⟩:=h;exact RepL.cons h1 (RepL.append h2 h')
mutual
def Dx.dep:Dx->Nat
 | .tup l=>uA l+1
 | .lst l=>uA l+1
 | .non=>0
 | .bl _=>0
 | .int _=>0
 | .str _=>0
def uA:List Dx->Nat
 | []=>0
 | d::ds=>max d.dep (uA ds)
end
mutual
def Dx.nb:Dx->Bool
 | .bl _=>false
 | .tup l=>N4 l
 | .lst l=>N4 l
 | .non=>true
 | .int _=>true
 | .str _=>true
def N4:List Dx->Bool
 | []=>true
 | d::ds=>d.nb && N4 ds
end
theorem EJ:∀ {ds:List Dx} {i:Nat} {d:Dx},ds[i]?=some d->d.dep<=uA ds
 | [],i,d,e=>by simp at e
 | d'::ds,0,d,e=>by simp at e;subst e;rw[uA];lia
 | d'::ds,i+1,d,e=>by
  have:=EJ (ds:=ds) (i:=i) (by simpa using e);rw[uA];lia
theorem C5:∀ {ds:List Dx} {i:Nat} {d:Dx},N4 ds=true->ds[i]?=some d->d.nb=true
 | [],i,d,_,e=>by simp at e
 | d'::ds,0,d,h,e=>by simp at e;subst e;rw[N4,zaQ]at h;exact h.1
 | d'::ds,i+1,d,h,e=>by
  rw[N4,zaQ]at h;exact C5 h.2 (by simpa using e)
end
section
variable {X:Cx}{pins:List (Addr×Obj)}{σ:L2.St}{H:Hp}{s:zad}
theorem FJ(I:Inv X pins σ H s)(h1:SqL X.K H a xs)(h2:SqT X.K H a ys):False:=by
 obtain⟨B,_,⟨o,n,e,c,_⟩,_⟩:=I.list h1;obtain⟨its',_,⟨o',z,q,_⟩,_⟩:=I.tuple h2;rw[e]at z;cases z;rw[c]at q;exact absurd q (by decide)
mutual
theorem Rep.inj(I:Inv X pins σ H s):∀(d e:Dx) (v:V),Rep X.K H d v->Rep X.K H e v->d=e
 | .non,e,v,h,h'=>by
  rw[Rep]at h;subst h;cases e <;> (rw[Rep]at h') <;> first|rfl|(cases h';done)|(obtain⟨_,_,z,_⟩:=h';cases z)
 | .bl b,e,v,h,h'=>by
  rw[Rep]at h;subst h;cases e <;> (rw[Rep]at h') <;> first|(cases h';rfl)|(cases h';done)|(obtain⟨_,_,z,_⟩:=h';cases z)
 | .int i,e,v,h,h'=>by
  rw[Rep]at h;subst h;cases e <;> (rw[Rep]at h') <;> first|(cases h';rfl)|(cases h';done)|(obtain⟨_,_,z,_⟩:=h';cases z)
 | .str x,e,v,h,h'=>by
  rw[Rep]at h;subst h;cases e <;> (rw[Rep]at h') <;> first|(cases h';rfl)|(cases h';done)|(obtain⟨_,_,z,_⟩:=h';cases z)
 | .tup l,e,v,h,h'=>by
  rw[Rep]at h;obtain⟨a,xs,rfl,h1,h2⟩:=h;cases e with
  | tup m=>
   rw[Rep]at h';obtain⟨b,ys,B,q,F⟩:=h';cases B;have G:=I.tuple_inj h1 q;subst G;rw[RepL.inj I l m xs h2 F]
  | lst m=>
   rw[Rep]at h';obtain⟨b,ys,B,q,F⟩:=h';cases B;exact(FJ I q h1).elim
  | non=>rw[Rep]at h';cases h'
  | bl b=>rw[Rep]at h';cases h'
  | int i=>rw[Rep]at h';cases h'
  | str x=>rw[Rep]at h';cases h'
 | .lst l,e,v,h,h'=>by
  rw[Rep]at h;obtain⟨a,xs,rfl,h1,h2⟩:=h;cases e with
  | lst m=>
   rw[Rep]at h';obtain⟨b,ys,B,q,F⟩:=h';cases B;have G:=I.list_inj h1 q;subst G;rw[RepL.inj I l m xs h2 F]
  | tup m=>
   rw[Rep]at h';obtain⟨b,ys,B,q,F⟩:=h';cases B;exact(FJ I h1 q).elim
  | non=>rw[Rep]at h';cases h'
  | bl b=>rw[Rep]at h';cases h'
  | int i=>rw[Rep]at h';cases h'
  | str x=>rw[Rep]at h';cases h'
theorem RepL.inj(I:Inv X pins σ H s):∀(ds es:List Dx) (vs:List V),RepL X.K H ds vs->RepL X.K H es vs->ds=es
 | [],es,vs,h,h'=>by
  rw[RepL]at h;subst h;cases es with
  | nil=>rfl
  | cons e es=>rw[RepL]at h';obtain⟨_,_,z,_⟩:=h';cases z
 | d::ds,es,vs,h,h'=>by
  rw[RepL]at h;obtain⟨x,xs,rfl,h1,h2⟩:=h;cases es with
  | nil=>rw[RepL]at h';cases h'
  | cons e es=>
   rw[RepL]at h';obtain⟨_,_,z,q,B⟩:=h';cases z;rw[Rep.inj I d e x h1 q,RepL.inj I ds es xs h2 B]
end
end
open Classical in
theorem wY:∀(ds es:List Dx),((zam (min ds.length es.length)).all (λj=>decide (ds.getD j .non=es.getD j .non)) && ds.length == es.length)=decide (ds=es):=by
 intro ds es;by_cases h:ds=es
 ·subst h
  simp
 ·rw[decide_eq_false h]
  by_cases q:ds.length=es.length
  ·simp only[q,Nat.min_self,beq_self_eq_true,Bool.and_true]
   rw[Bool.eq_false_iff];intro z;rw[List.all_eq_true]at z;refine h (List.ext_getElem q λi h1 h2=>?_);have:=of_decide_eq_true (z i (List.mem_range.mpr h2));simpa[List.getD,h1,h2]using this
  ·have:(ds.length == es.length)=false:=by simpa using q
   rw[this,Bool.and_false]
open Classical in
theorem zE(ds es:List Dx)(h:ds.length=es.length):((zam ds.length).all (λj=>decide (ds.getD j .non=es.getD j .non)))=decide (ds=es):=by
 have:=wY ds es;rw[h,Nat.min_self,beq_self_eq_true,Bool.and_true]at this;rw[h];exact this
section
variable {X:Cx}{pins:List (Addr×Obj)}{σ:L2.St}{H:Hp}{s:zad}
theorem EqAt.to(h:EqAt A s u v b)(e:b=c):EqAt A s u v c:=e ▸ h
open Classical in
theorem mZ(I:Inv X pins σ H s){n:Nat}(ih:∀(A:zao) (d e:Dx) (x y:V) (u v:Value),d.dep<=n->A.units+n<cLine->d.nb=true->e.nb=true->Rep X.K H d x->Rep X.K H e y->RelV x u->RelV y v->EqAt A s u v (decide (d=e)))
  {A:zao} {ds es:List Dx} {xs ys:List V} {q vs:List Value} (hd:uA ds<=n) (hu:A.units+(n+1)<cLine) (h1:N4 ds=true) (h2:N4 es=true) (r1:RepL X.K H ds xs) (r2:RepL X.K H es ys) (G:Vals xs q) (J:Vals ys vs) :
  ∀j (h1:j<q.toArray.size) (h2:j<vs.toArray.size),EqAt A.in1 s q.toArray[j] vs.toArray[j] (decide (ds.getD j .non=es.getD j .non)):=by
 intro j j1 U;have l1:=r1.length;have l2:=r2.length;have l3:=G.length;have l4:=J.length;have k1:j<q.length:=by simpa using j1
 have k2:j<vs.length:=by simpa using U
 have z:ds[j]?=some (ds.getD j .non):=by simp[List.getD,show j<ds.length by lia]
 have B:es[j]?=some (es.getD j .non):=by simp[List.getD,show j<es.length by lia]
 obtain⟨x,ex,rx⟩:=r1.get' z;obtain⟨y,Y,ry⟩:=r2.get' B;obtain⟨u,F,M⟩:=G.get ex;obtain⟨v,ev,W⟩:=J.get Y;have N:q.toArray[j]=u:=by
  rw[zaS k1]at F;simpa using zay F
 have b2:vs.toArray[j]=v:=by
  rw[zaS k2]at ev;simpa using zay ev
 rw[N,b2];exact ih A.in1 _ _ x y u v (zaL (EJ z) hd) (by show A.units+1+n<cLine;lia) (C5 h1 z) (C5 h2 B) rx ry M W
end
section
variable {X:Cx}{pins:List (Addr×Obj)}{σ:L2.St}{H:Hp}{s:zad}
theorem PlainL.isList(p:PlainL h a its):h.IsList a its:=by
 obtain⟨o,n,e,c,_,d⟩:=p;exact⟨o,e,c,n,d⟩
open Classical in
theorem xQ(I:Inv X pins σ H s) :
  ∀(n:Nat) (A:zao) (d e:Dx) (x y:V) (u v:Value),d.dep<=n->A.units+n<cLine->d.nb=true->e.nb=true->Rep X.K H d x->Rep X.K H e y->RelV x u->RelV y v->EqAt A s u v (decide (d=e)):=by
 intro n;induction n with
 | zero=>
  intro A d e x y u v hd hu U J r1 r2 W B;have q:A.units<cLine:=by lia
  cases d with
  | bl b=>rw[Dx.nb]at U;cases U
  | tup l=>rw[Dx.dep]at hd;lia
  | lst l=>rw[Dx.dep]at hd;lia
  | non=>
   rw[Rep]at r1;subst r1;cases W;cases e with
   | bl b=>rw[Dx.nb]at J;cases J
   | non=>rw[Rep]at r2;subst r2;cases B;exact EqAt.to (EqAt.same _) (by simp)
   | int i=>rw[Rep]at r2;subst r2;obtain⟨t,rfl⟩:=B;exact EqAt.to (EqAt.none_int _ _) (by simp)
   | str i=>rw[Rep]at r2;subst r2;obtain⟨t,rfl⟩:=B;exact EqAt.to (EqAt.none_str _ _) (by simp)
   | tup l=>
    rw[Rep]at r2;obtain⟨a,xs,rfl,h1,_⟩:=r2;cases B;obtain⟨G,_,F,_⟩:=I.tuple h1;exact EqAt.to (EqAt.none_tuple F q) (by simp)
   | lst l=>
    rw[Rep]at r2;obtain⟨a,xs,rfl,h1,_⟩:=r2;cases B;obtain⟨G,_,F,_⟩:=I.list h1;exact EqAt.to (EqAt.none_list F.isList q) (by simp)
  | int i=>
   rw[Rep]at r1;subst r1;obtain⟨t,rfl⟩:=W;cases e with
   | bl b=>rw[Dx.nb]at J;cases J
   | non=>rw[Rep]at r2;subst r2;cases B;exact EqAt.to (EqAt.int_none _ _) (by simp)
   | int j=>rw[Rep]at r2;subst r2;obtain⟨t',rfl⟩:=B;exact EqAt.to (EqAt.int_int _ _ _ _) (by simp[Bool.beq_eq_decide_eq])
   | str j=>rw[Rep]at r2;subst r2;obtain⟨t',rfl⟩:=B;exact EqAt.to (EqAt.int_str _ _ _ _) (by simp)
   | tup l=>
    rw[Rep]at r2;obtain⟨a,xs,rfl,h1,_⟩:=r2;cases B;obtain⟨G,_,F,_⟩:=I.tuple h1;exact EqAt.to (EqAt.int_tuple _ _ F q) (by simp)
   | lst l=>
    rw[Rep]at r2;obtain⟨a,xs,rfl,h1,_⟩:=r2;cases B;obtain⟨G,_,F,_⟩:=I.list h1;exact EqAt.to (EqAt.int_list _ _ F.isList q) (by simp)
  | str i=>
   rw[Rep]at r1;subst r1;obtain⟨t,rfl⟩:=W;cases e with
   | bl b=>rw[Dx.nb]at J;cases J
   | non=>rw[Rep]at r2;subst r2;cases B;exact EqAt.to (EqAt.str_none _ _) (by simp)
   | int j=>rw[Rep]at r2;subst r2;obtain⟨t',rfl⟩:=B;exact EqAt.to (EqAt.str_int _ _ _ _) (by simp)
   | str j=>rw[Rep]at r2;subst r2;obtain⟨t',rfl⟩:=B;exact EqAt.to (EqAt.str_str _ _ _ _) (by simp[Bool.beq_eq_decide_eq])
   | tup l=>
    rw[Rep]at r2;obtain⟨a,xs,rfl,h1,_⟩:=r2;cases B;obtain⟨G,_,F,_⟩:=I.tuple h1;exact EqAt.to (EqAt.str_tuple _ _ F q) (by simp)
   | lst l=>
    rw[Rep]at r2;obtain⟨a,xs,rfl,h1,_⟩:=r2;cases B;obtain⟨G,_,F,_⟩:=I.list h1;exact EqAt.to (EqAt.str_list _ _ F.isList q) (by simp)
 | succ n ih=>
  intro A d e x y u v hd hu U J r1 r2 W B;have q:A.units<cLine:=by lia
  cases d with
  | bl b=>rw[Dx.nb]at U;cases U
  | non=>exact ih A _ e x y u v (by rw[Dx.dep];lia) (by lia) U J r1 r2 W B
  | int i=>exact ih A _ e x y u v (by rw[Dx.dep];lia) (by lia) U J r1 r2 W B
  | str i=>exact ih A _ e x y u v (by rw[Dx.dep];lia) (by lia) U J r1 r2 W B
  | tup l=>
   have ab:=r1;rw[Rep]at r1;obtain⟨a,xs,rfl,h1,q1⟩:=r1;cases W;obtain⟨G,v1,F,_⟩:=I.tuple h1;cases e with
   | bl b=>rw[Dx.nb]at J;cases J
   | non=>rw[Rep]at r2;subst r2;cases B;exact EqAt.to (EqAt.tuple_none F q) (by simp)
   | int j=>rw[Rep]at r2;subst r2;obtain⟨t',rfl⟩:=B;exact EqAt.to (EqAt.tuple_int _ _ F q) (by simp)
   | str j=>rw[Rep]at r2;subst r2;obtain⟨t',rfl⟩:=B;exact EqAt.to (EqAt.tuple_str _ _ F q) (by simp)
   | lst m=>
    rw[Rep]at r2;obtain⟨b,ys,rfl,h2,Y⟩:=r2;cases B;obtain⟨M,v2,N,_⟩:=I.list h2;exact EqAt.to (EqAt.tuple_list F N.isList q) (by simp)
   | tup m=>
    by_cases hv:v=zau a
    ·subst hv
     obtain rfl:y=V.ref a:=RelV.inj B rfl;have:=Rep.inj I _ _ _ ab r2;rw[this];exact EqAt.to (EqAt.same _) (by simp)
    ·rw[Rep]at r2;obtain⟨b,ys,rfl,h2,Y⟩:=r2;cases B
     obtain⟨M,v2,N,_⟩:=I.tuple h2;rw[Dx.dep]at hd;rw[Dx.nb]at U J;refine EqAt.to (EqAt.of_refs (λz=>hv (by rw[z])) (RcAt.tuples F N q (mZ I ih (by lia) hu U J q1 Y v1 v2))) ?_;have e1:G.toArray.size=l.length:=by rw[zax,<- v1.length,q1.length]
     have e2:M.toArray.size=m.length:=by rw[zax,<- v2.length,Y.length]
     rw[e1,e2,wY];simp
  | lst l=>
   have ab:=r1;rw[Rep]at r1;obtain⟨a,xs,rfl,h1,q1⟩:=r1;cases W;obtain⟨G,v1,F,_⟩:=I.list h1;cases e with
   | bl b=>rw[Dx.nb]at J;cases J
   | non=>rw[Rep]at r2;subst r2;cases B;exact EqAt.to (EqAt.list_none F.isList q) (by simp)
   | int j=>rw[Rep]at r2;subst r2;obtain⟨t',rfl⟩:=B;exact EqAt.to (EqAt.list_int _ _ F.isList q) (by simp)
   | str j=>rw[Rep]at r2;subst r2;obtain⟨t',rfl⟩:=B;exact EqAt.to (EqAt.list_str _ _ F.isList q) (by simp)
   | tup m=>
    rw[Rep]at r2;obtain⟨b,ys,rfl,h2,Y⟩:=r2;cases B;obtain⟨M,v2,N,_⟩:=I.tuple h2;exact EqAt.to (EqAt.list_tuple F.isList N q) (by simp)
   | lst m=>
    by_cases hv:v=zau a
    ·subst hv
     obtain rfl:y=V.ref a:=RelV.inj B rfl;have:=Rep.inj I _ _ _ ab r2;rw[this];exact EqAt.to (EqAt.same _) (by simp)
    ·rw[Rep]at r2;obtain⟨b,ys,rfl,h2,Y⟩:=r2;cases B
     obtain⟨M,v2,N,_⟩:=I.list h2;rw[Dx.dep]at hd;rw[Dx.nb]at U J;have e1:G.toArray.size=l.length:=by rw[zax,<- v1.length,q1.length]
     have e2:M.toArray.size=m.length:=by rw[zax,<- v2.length,Y.length]
     by_cases hl:l.length=m.length
     ·refine EqAt.to (EqAt.of_refs (λz=>hv (by rw[z])) (RcAt.lists F.isList N.isList (by rw[e1,e2,hl]) q (mZ I ih (by lia) hu U J q1 Y v1 v2))) ?_
      rw[e1,zE _ _ hl];simp
     ·refine EqAt.to (EqAt.of_refs (λz=>hv (by rw[z])) (RcAt.lists_lengths F.isList N.isList (by rw[e1,e2];simpa using hl) q)) ?_
      rw[decide_eq_false];intro z;cases z;exact hl rfl
end
noncomputable def Dx.seq:Dx->Bool
 | .tup _=>true | .lst _=>true | .non=>false | .bl _=>false | .int _=>false | .str _=>false
open Classical in
def Z6(K:zae)(neg:Bool):R2:=λx y H Q=>∃d e,Rep K H d x/\Rep K H e y/\d.seq=true/\e.seq=true/\d.nb=true/\e.nb=true/\d.dep<=60/\Q (.bl (if neg then !decide (d=e)else decide (d=e))) H
section
variable {X:Cx}{pins:List (Addr×Obj)}{σ:L2.St}{H:Hp}{s:zad}
open Classical in
theorem SQ(I:Inv X pins σ H s)(hu:X.A.units+64<cLine)(r1:Rep X.K H d x)(r2:Rep X.K H e y)(q1:d.seq=true)(J:e.seq=true)(n1:d.nb=true)(n2:e.nb=true)(hd:d.dep<=60)(ru:RelV x u)(rv:RelV y v) :
  RcAt X.A s u v (decide (d=e))/\RcNeAt X.A s u v (!decide (d=e)):=by
 have B:X.A.units<cLine:=by lia
 cases d with
 | bl b=>cases q1
 | non=>cases q1
 | int b=>cases q1
 | str b=>cases q1
 | tup l=>
  rw[Rep]at r1;obtain⟨a,xs,rfl,h1,k1⟩:=r1;cases ru;obtain⟨U,v1,G,_⟩:=I.tuple h1;have N:U.toArray.size=l.length:=by rw[zax,<- v1.length,k1.length]
  cases e with
  | bl b=>cases J
  | non=>cases J
  | int b=>cases J
  | str b=>cases J
  | tup m=>
   rw[Rep]at r2;obtain⟨b,ys,rfl,h2,k2⟩:=r2;cases rv;obtain⟨F,M,q,_⟩:=I.tuple h2;have W:F.toArray.size=m.length:=by rw[zax,<- M.length,k2.length]
   rw[Dx.dep]at hd;rw[Dx.nb]at n1 n2;have he:=mZ I (xQ I 60) (A:=X.A) (by lia) (by lia) n1 n2 k1 k2 v1 M;have a1:=RcAt.tuples G q B he;have a2:=RcNeAt.tuples G q B he;rw[N,W,wY]at a1 a2;have z:decide (Dx.tup l=Dx.tup m)=decide (l=m):=by simp
   rw[z];exact⟨a1,a2⟩
  | lst m=>
   rw[Rep]at r2;obtain⟨b,ys,rfl,h2,k2⟩:=r2;cases rv;obtain⟨F,M,q,_⟩:=I.list h2;have z:decide (Dx.tup l=Dx.lst m)=false:=by simp
   rw[z];exact⟨RcAt.tuple_list G q.isList B,RcNeAt.tuple_list G q.isList B⟩
 | lst l=>
  rw[Rep]at r1;obtain⟨a,xs,rfl,h1,k1⟩:=r1;cases ru;obtain⟨U,v1,G,_⟩:=I.list h1;have N:U.toArray.size=l.length:=by rw[zax,<- v1.length,k1.length]
  cases e with
  | bl b=>cases J
  | non=>cases J
  | int b=>cases J
  | str b=>cases J
  | tup m=>
   rw[Rep]at r2;obtain⟨b,ys,rfl,h2,k2⟩:=r2;cases rv;obtain⟨F,M,q,_⟩:=I.tuple h2;have z:decide (Dx.lst l=Dx.tup m)=false:=by simp
   rw[z];exact⟨RcAt.list_tuple G.isList q B,RcNeAt.list_tuple G.isList q B⟩
  | lst m=>
   rw[Rep]at r2;obtain⟨b,ys,rfl,h2,k2⟩:=r2;cases rv;obtain⟨F,M,q,_⟩:=I.list h2;have W:F.toArray.size=m.length:=by rw[zax,<- M.length,k2.length]
   rw[Dx.dep]at hd;rw[Dx.nb]at n1 n2;have z:decide (Dx.lst l=Dx.lst m)=decide (l=m):=by simp
   rw[z];by_cases Y:l.length=m.length
   ·have he:=mZ I (xQ I 60) (A:=X.A) (by lia) (by lia) n1 n2 k1 k2 v1 M
    have a1:=RcAt.lists G.isList q.isList (by rw[N,W,Y]) B he;have a2:=RcNeAt.lists G.isList q.isList (by rw[N,W,Y]) B he;rw[N,zE _ _ Y]at a1 a2;exact⟨a1,a2⟩
   ·have z2:decide (l=m)=false:=decide_eq_false λz=>Y (by rw[z])
    rw[z2];exact⟨RcAt.lists_lengths G.isList q.isList (by rw[N,W];simpa using Y) B,RcNeAt.lists_lengths G.isList q.isList (by rw[N,W];simpa using Y) B⟩
end
section
variable {X:Cx}
theorem VR(G:X.A.units+64<cLine):OpR X (zaC .Eq) (Z6 X.K false):=by
 intro pins s σ H x y v u Q I B N h;obtain⟨d,e,r1,r2,M,F,z,J,hd,q⟩:=h;exact(SQ I G r1 r2 M F z J hd B N).1 X.prog X.w X.xe _ ⟨.bl _,H,I,rfl,q⟩
theorem T8(G:X.A.units+64<cLine):OpR X (zaC .NotEq) (Z6 X.K true):=by
 intro pins s σ H x y v u Q I B N h;obtain⟨d,e,r1,r2,M,F,z,J,hd,q⟩:=h;exact(SQ I G r1 r2 M F z J hd B N).2 X.prog X.w X.xe _ ⟨.bl _,H,I,rfl,q⟩
end
def TSame(H H':Hp):Prop:=∀b xs,Rd H b (.tup xs)->Rd H' b (.tup xs)
theorem Same.t(e:Same H H'):TSame H H':=λb xs h=>by
 rcases h with h|⟨o,h⟩
 ·exact .inl (e _ _ h)
 ·exact .inr ⟨o,e _ _ h⟩
theorem TSame.trans(a:TSame H H1)(b:TSame H1 H2):TSame H H2:=λc o h=>b c o (a c o h)
theorem TSame.put(h:H l=some (.lst us)):TSame H (upd H l o):=λb xs q=>by
 have F:b≠l:=λz=>by
  subst z;rcases q with q|⟨B,q⟩ <;> (rw[h]at q;cases q)
 rcases q with q|⟨B,q⟩
 ·exact .inl (by rw[aE F];exact q)
 ·exact .inr ⟨B,by rw[aE F];exact q⟩
theorem TSame.sq{K:zae}{H H':Hp}{a:Addr}{xs:List V}(e:TSame H H')(h:SqT K H a xs):SqT K H' a xs:=by
 rcases h with h|h
 ·exact .inl (e _ _ h)
 ·exact .inr h
mutual
def Dx.nl:Dx->Bool
 | .lst _=>false
 | .tup l=>nlL l
 | .non=>true
 | .bl _=>true
 | .int _=>true
 | .str _=>true
def nlL:List Dx->Bool
 | []=>true
 | d::ds=>d.nl && nlL ds
end
section
variable {K:zae}{H H':Hp}
mutual
theorem Rep.tsame(e:TSame H H'):∀(d:Dx) (v:V),d.nl=true->Rep K H d v->Rep K H' d v
 | .non,v,_,h=>by rw[Rep]at h ⊢;exact h
 | .bl b,v,_,h=>by rw[Rep]at h ⊢;exact h
 | .int i,v,_,h=>by rw[Rep]at h ⊢;exact h
 | .str x,v,_,h=>by rw[Rep]at h ⊢;exact h
 | .tup l,v,n,h=>by
  rw[Rep]at h ⊢;rw[Dx.nl]at n;obtain⟨a,xs,q,h1,h2⟩:=h;exact⟨a,xs,q,e.sq h1,RepL.tsame e l xs n h2⟩
 | .lst l,v,n,h=>by rw[Dx.nl]at n;cases n
theorem RepL.tsame(e:TSame H H'):∀(ds:List Dx) (vs:List V),nlL ds=true->RepL K H ds vs->RepL K H' ds vs
 | [],vs,_,h=>by rw[RepL]at h ⊢;exact h
 | d::ds,vs,n,h=>by
  rw[RepL]at h ⊢;rw[nlL,zaQ]at n;obtain⟨x,xs,q,h1,h2⟩:=h;exact⟨x,xs,q,Rep.tsame e d x n.1 h1,RepL.tsame e ds xs n.2 h2⟩
end
end
theorem Same.put(e:Same H H')(h:H l=none):Same H (upd H' l o):=λb u q=>by
 rw[aE (bE q h)];exact e b u q
def aX(X:Cx)(N:List Str)(scope:Scope)(q:List (Str×Addr))(C:Addr)(s:zad)(H:Hp)(fp:List Addr):Cx where
 prog:=X.prog
 w:=X.w
 K:=X.K
 mg:=X.mg
 base:=X.base
 A:=X.A
 N:=N
 s₀:=s
 H₀:=H
 env:=compEnvC scope q C X.env
 outer:=X.stack
 stack:=X.stack
 ex:=fp
 fn:=λ_=>false
 calm:=X.calm
 pn:=[]
 xe:=λ_ _=>False
def DX(X:Cx)(q:List Expr)(t:TT):Prop:=
 ∀(pins:List (Addr×Obj)) (s:zad) (σ:L2.St) (H:Hp) (Q:Bool->Hp->Prop),Inv X pins σ H s->t σ H Q->
  wpAny (model X.prog X.w) X.A (forIn q true λc r=>if r=true then do let ok <- isTrue c X.env (eval c X.env);pure (zcD ok)else pure (zcD r)) (TP X pins σ Q) X.xe s
def qa0:TT:=λ_ H Q=>Q true H
theorem QN:DX X [] qa0:=λpins s σ H Q I h=>wpAny_tests_nil ⟨H,I,h⟩
theorem ON(h:PT X c t):DX X [c] t:=λpins s σ H Q I hw=>wpAny_tests_one (h pins s σ H Q I hw)
structure Clo(X:Cx)(N:List Str)(scope:Scope)(cl:List (Str×Addr)):Prop where
 clos:closureFor scope X.env=pure cl
 kind:scope.kind=.function
 nocell:∀y∈scope.names,y.2≠.cell
 names:∀y∈scope.names,y.2=.local->scope.names.lookup y.1=some .local
 sub:∀x c,cl.lookup x=some c->X.env.cells.lookup x=some c
 has:∀x,((zbd scope X.env).names.lookup x=some .cell\/(zbd scope X.env).names.lookup x=some .free)->∃c,cl.lookup x=some c
def Start(X:Cx)(N:List Str)(scope:Scope)(σ q:L2.St):Prop:=
 q.length=N.length/\∀(j:Nat) (x:Str) (v:V),N[j]?=some x->q[j]?=some (some v)->XM (zbd scope X.env) x->¬ (zbd scope X.env).names.lookup x=some .local/\∃i:Nat,X.N[i]?=some x/\σ[i]?=some (some v)/\(X.env.kindOf x=some .cell\/X.env.kindOf x=some .free)
def GE(wi:TI)(g:TG)(tt:TT)(te:TE)(S:L2.St->L2.St->Prop):TE:=λσ H Q=>∃B,S σ B/\wi σ H λJ H1=>∀D,H1 D=none->∃W:Nat->Nat->L2.St->List V->Hp->Prop,(∃m,W 0 m B [] (upd H1 D (.lst []))) /\
 ∀i m G z H2,W i m G z H2->(J.stop i H2/\Q (.ref D) H2)\/(J.go i H2/\z.length<zaj/\∀x N,J.yld i H2 x N->g x G N λq Y=>tt q Y λok M=>
  if ok=true then te q M λv U=>U D=some (.lst z)/\∃F,F<m/\W (i+1) F q (z++[v]) (upd U D (.lst (z++[v])))else M D=some (.lst z)/\∃F,F<m/\W (i+1) F q z M)
section
variable {X:Cx}
theorem Q8(B:Inv X pins σ H3 s3)(G:Clo X N scope cl)(ff:∀b∈fp,kB X pins H3 b)(fe:∀b∈fp,∃o,s3.heap.get? b=some o) :
  (aX X N scope cl s3.heap.objs.size s3 H3 fp).Ok where
 mod:=B.ok.mod
 kind:=G.kind
 glob:=B.ok.glob
 blt:=B.ok.blt
 above:=zai _
 inj:=λx y c h1 h2=>B.ok.inj x y c (G.sub x c h1) (G.sub y c h2)
 has:=λx h=>G.has x h
 cab:=λx c h _=>nomatch h
 hd:=B.ok.hd
 frames:=B.ok.frames
 stk:=.inl rfl
 exf:=λb F=>by
  obtain⟨o,e⟩:=fe b F;exact⟨zaF (zap e),λx c h=>(ff b F).2.2.2.2.1 x c (G.sub x c h)⟩
 bs:=B.bs
 bsz:=zaL B.ok.bsz B.sz
 noex:=λb o e F=>by
  rcases(ff b F).2.2.2.1 with z|z
  ·exact B.ok.noex b o e z
  ·exact absurd (zaX (zap e) B.ok.bsz) (Nat.not_lt.mpr z)
 exfs:=λb F z=>by
  rcases List.mem_cons.mp (B.stkSub b z)with q|q
  ·exact(ff b F).2.1 q
  ·exact(ff b F).2.2.1 q
 funs:=B.stack
 frf:=B.stkFree
theorem JV(B:Inv X pins σ H3 s3)(G:Clo X N scope cl)(ff:∀b∈fp,kB X pins H3 b)(fe:∀b∈fp,∃o,s3.heap.get? b=some o)
  (st:Start X N scope σ σ') (ho:s4.os=s3.os) (hg:s4.gens=s3.gens) (M:∀b o,s3.heap.get? b=some o->s4.heap.get? b=some o) (hn:s4.heap.Ns s3.heap.objs.size m) :
  Inv (aX X N scope cl s3.heap.objs.size s3 H3 fp) [] σ' H3 s4 where
 ok:=Q8 B G ff fe
 os:=ho
 bare:=by rw[hg];exact B.bare
 base:=Un.kept M
 loc:=by
  refine⟨m,hn,λj x v h1 h2 z=>?_⟩;obtain⟨nl,i,e1,e2,q⟩:=st.2 j x v h1 h2 z;obtain⟨m0,ai,U⟩:=B.loc;have Y:XM X.env.scope x:=by
   rcases q with q|q
   ·exact .inr (.inl q)
   ·exact .inr (.inr q)
  obtain⟨u,ru,l⟩:=U i x v e1 e2 Y;refine⟨u,ru,?_⟩;rcases l with⟨lk,_⟩|⟨_,c,hc,F⟩
  ·rcases q with q|q <;> (rw[lk]at q;cases q)
  ·have kk:(zbd scope X.env).names.lookup x=some .cell\/(zbd scope X.env).names.lookup x=some .free:=by
    rcases z with z|z|z
    ·exact absurd z nl
    ·exact .inl z
    ·exact .inr z
   obtain⟨c',J⟩:=G.has x kk;have ec:=G.sub x c' J;rw[hc]at ec;cases ec;obtain⟨o,W,aa⟩:=F;exact .inr ⟨kk,c,J,o,M c o W,aa⟩
 cell:=λx c e=>by
  obtain⟨v,o,e1,d1⟩:=B.cell x c (G.sub x c e);exact⟨v,o,M c o e1,d1⟩
 free:=B.hok.fresh (zai _)
 freeC:=λx c e=>B.freeC x c (G.sub x c e)
 pin:=λp hp=>nomatch hp
 hok:=B.hok.kept M
 len:=st.1
theorem comp_back(I3:Inv X pins σ H3 s3)(ff:∀b∈fp,kB X pins H3 b)
  (B:Inv (aX X N scope cl s3.heap.objs.size s3 H3 fp) [] σ5 H5 s5) (hs:za4 s3.heap.objs.size s5.heap h'):Inv X pins σ H5 {s5 with heap:=h'}:=by
 have G:∀b o,s3.heap.get? b=some o->b≠s3.heap.objs.size:=λb o e=>zaF (zap e)
 have u:=B.base;refine I3.call' (s':={s5 with heap:=h'}) (ch:=fp) B.os ⟨λb o e n F hx=>?_,λb o e n F hx=>?_,u.free,λb o e hx=>?_,u.tups,u.frzs,u.tbls⟩ ?_ B.bare λb F=>?_
 ·exact(hs.2 b (G b o e)).trans (u.keep b o e n F hx)
 ·obtain⟨W,q⟩:=u.slot b o e n F hx
  exact⟨W,(hs.2 b (G b o e)).trans q⟩
 ·obtain⟨o',q⟩:=u.there b o e hx
  exact⟨o',(hs.2 b (G b o e)).trans q⟩
 ·intro b ob e
  have J:H5 s3.heap.objs.size=none:=B.free;refine(B.hok b ob e).stay (λc w' U q=>(hs.2 c ?_).trans q) (λ_ q=>q) λ_ _ q=>q
  rintro rfl;rcases U with z|z
  ·subst z;rw[J]at e;cases e
  ·rw[J]at z;cases z
 ·obtain⟨_,f1,_,Y,M,f5⟩:=ff b F
  exact⟨Y,f1,M,f5⟩
theorem HG(I:Nat->zad->Prop)
  (turn:∀n s, I n s -> wpAny (model prog w) A (za2 it) (λr z => match r with
   | none=>R (.ok .next) z
   | some v=>wpAny (model prog w) A (zda target it v) (λ_ q=>wpAny (model prog w) A (zbf target env v) (λ_ G=>
     wpAny (model prog w) A (forIn ifs true λc r=>if r=true then do let ok <- isTrue c env (eval c env);pure (zcD ok)else pure (zcD r)) (λok B=>
      if ok=true then wpAny (model prog w) A (eval elt env) (λx J=>
       wpAny (model prog w) A (call (.builtin "list.append") [acc,x]) (λ_ M=>∃m,m<n/\I m M) (λ_ _=>False) J) (λ_ _=>False) B
      else ∃m,m<n/\I m B) (λ_ _=>False) G) (λ_ _=>False) q) (λ_ _=>False) z) (λ_ _=>False) s)
  (n:Nat) (h:I n s) :
  zbD (model prog w) A (.compLoop (.ListComp elt [⟨target,iter,ifs,0⟩] scope pos) 0 it acc env) R s:=by
 refine codeAny_loop rfl I (λn s hI=>?_) n h;show wpAny _ A ((compTurn (.ListComp elt [⟨target,iter,ifs,0⟩] scope pos) 0 it acc env).onRaise (λx=>do noteFrame x env;theTreesLotGoes x)) _ _ s;refine wpAny_noted ?_;rw[compTurn_list];have ff:∀(e:Value) (s':zad),False->notedBy (model prog w) A env (λe s'=>R (.error e) s') e s':=λ_ _ h=>h.elim
 refine zaa (zc7 (zaa (za7 (turn n s hI) (λr z F=>?_) ff)));cases r with
 | none=>exact zaf F
 | some v=>
  refine zaa (za7 F (λ_ q U=>?_) ff);refine zaa (za7 U (λ_ G W=>zaa (za7 W (λok B N=>?_) ff)) ff);cases ok with
  | false=>exact zaf ⟨rfl,N⟩
  | true=>
   exact zaa (zaa (za7 N (λx J aa=>zaa (za7 aa (λ_ M Y=>zaf (zaf ⟨rfl,Y⟩)) ff)) ff))
theorem u5{ap tg am:Expr}{ao:List Expr}{scope:Scope}{pos:Pos}{N:List Str}{U:List (Str×Addr)}{wi:TI}{g:TG}{tt:TT}{te:TE}{RR:Value->Addr->Result->zad->Prop}{pins:List (Addr×Obj)}{σ ai:L2.St}{Q:VK}{J:It}{H2:Hp}{B:zad}{it:Addr}{fp:List Addr}{tn:Nat->Heap->Prop}{E:Value->zad->Prop}
  (hc:X.calm=true) (cc:Clo X N scope U) (hg:∀C s H fp,PG (aX X N scope U C s H fp) tg g) (ht:∀C s H fp,DX (aX X N scope U C s H fp) ao tt) (he:∀C s H fp,PE (aX X N scope U C s H fp) ap te)
  (I2:Inv X pins σ H2 B) (T:Turn X.prog X.w X.K tg J fp it tn) (an:tn 0 B.heap) (f2:∀b∈fp,kB X pins H2 b) (sS:Start X N scope σ ai)
  (q2:∀D, H2 D = none -> ∃W:Nat -> Nat -> L2.St -> List V -> Hp -> Prop, (∃m, W 0 m ai [] (upd H2 D (.lst []))) /\
   ∀i m M G H2,W i m M G H2->(J.stop i H2/\Q (.ref D) H2)\/(J.go i H2/\G.length<zaj/\∀x F,J.yld i H2 x F->g x M F λaj H4=>tt aj H4 λok H5=>
    if ok=true then te aj H5 λv H6=>H6 D=some (.lst G)/\∃m',m'<m/\W (i+1) m' aj (G++[v]) (upd H6 D (.lst (G++[v])))else H5 D=some (.lst G)/\∃m',m'<m/\W (i+1) m' aj G H5))
  (bi:∀(s3 s5:zad) (F H5:Hp) (aa:L2.St) (D:Addr),Inv X pins σ F s3->(∀b∈fp,kB X pins F b)->Inv (aX X N scope U s3.heap.objs.size s3 F fp) [] aa H5 s5->Q (.ref D) H5->RR (.ref D) s3.heap.objs.size (.ok .next) s5) :
  wpAny (model X.prog X.w) X.A (newList []) (λacc a4=>wpAny (model X.prog X.w) X.A (newFunctionEnv scope X.env.globals U [] X.env.qual none .none (some X.env)) (λal a0=>
   zbD (model X.prog X.w) X.A (.compStart (.ListComp ap [⟨tg,am,ao,0⟩] scope pos) 0 (.ref it) acc {al with scope:=zbd scope X.env}) (RR acc al.locals) a0) E a4) E B:=by
 refine zbI (wpAny_newFunctionEnv cc.nocell (by intro y hy;simp at hy) (λh1 ah ag=>?_) cc.kind);dsimp only at ah ag ⊢;have I3:Inv X pins σ (upd H2 B.heap.objs.size (.lst [])) {B with heap:=B.heap.push {cls:=.type "list",dict:=none,data:=.seq ([]:List Value).toArray} }:=I2.lnew (t':=B.toks) .nil (zaI _);have hD:H2 B.heap.objs.size=none:=I2.fresh;have bf:∀b∈fp,b≠B.heap.objs.size:=λb q=>by
  obtain⟨o,e,_⟩:=T.obj 0 _ an b q;exact zaF (zap e)
 have fe:∀b∈fp,∃o,(B.heap.push {cls:=.type "list",dict:=none,data:=.seq ([]:List Value).toArray}).get? b=some o:=λb q=>by
  obtain⟨o,e,_⟩:=T.obj 0 _ an b q;exact⟨o,zan _ e⟩
 have f3:∀b∈fp,kB X pins (upd H2 B.heap.objs.size (.lst [])) b:=λb q=>⟨by rw[aE (bf b q)];exact(f2 b q).1,(f2 b q).2⟩
 obtain⟨W,⟨m0,w0⟩,turn⟩:=q2 B.heap.objs.size hD;have bm:(upd H2 B.heap.objs.size (.lst [])) B.heap.objs.size=some (.lst []):=aH;generalize hs3:({B with heap:=B.heap.push {cls:=.type "list",dict:=none,data:=.seq ([]:List Value).toArray} }:zad)=s3 at I3;have e3:B.heap.push {cls:=.type "list",dict:=none,data:=.seq ([]:List Value).toArray}=s3.heap:=by rw[<- hs3]
 rw[e3]at ah ag fe ⊢;generalize B.heap.objs.size=D at *;generalize upd H2 D (.lst [])=F at *;have au:∀b o,s3.heap.get? b=some o->h1.get? b=some o:=λb o e=>(ag.2 b (zaF (zap e))).trans (zan _ e)
 have a1:tn 0 s3.heap:=by
  refine T.keep 0 _ _ an λb q o e=>?_
  rw[<- e3];exact zan _ e
 have ak:∀s4:zad,s4={B with heap:=h1,toks:=B.toks+([]:List (Str×Value)).length}->
   zbD (model X.prog X.w) X.A (.compLoop (.ListComp ap [⟨tg,am,ao,0⟩] scope pos) 0 (.ref it) (.ref D) (compEnvC scope U s3.heap.objs.size X.env)) (RR (.ref D) s3.heap.objs.size) s4:=by
  rintro s4 rfl;have I4:Inv (aX X N scope U s3.heap.objs.size s3 F fp) [] ai F {B with heap:=h1,toks:=B.toks+([]:List (Str×Value)).length}:=
   JV (m:=λx=>([]:List (Str×Value)).reverse.lookup x) I3 cc f3 fe sS (by rw[<- hs3]) (by rw[<- hs3]) au ah
  have aq:∀ {H':Hp},(∀b∈fp,H' b=none)->∀b∈fp,kB (aX X N scope U s3.heap.objs.size s3 F fp) [] H' b:=λhn b q=>by
   have ok:=I4.ok;exact⟨hn b q,(ok.exf b q).1,ok.exfs b q,.inl q,(ok.exf b q).2,λp hp=>nomatch hp⟩
  refine HG (λn s'=>∃i M G H',Inv (aX X N scope U s3.heap.objs.size s3 F fp) [] M H' s'/\tn i s'.heap/\(∀b∈fp,H' b=none)/\H' D=some (.lst G)/\W i n M G H') ?_ m0 ⟨0,ai,[],F,I4,T.keep 0 _ _ a1 λb q o e=>au b o e,λb q=>(f3 b q).1,bm,w0⟩;rintro n s5 ⟨i,aa,G,H5,I5,a3,az,cy,w5⟩;rcases turn i n aa G H5 w5 with⟨ax,qn⟩|⟨go,a5,step⟩
  ·refine cR (T.done (aX X N scope U s3.heap.objs.size s3 F fp) rfl rfl rfl hc i [] s5 aa H5 _ I5 (aq az) a3 ax) λr s6 ⟨hr,I6⟩=>?_
   subst hr;exact bi s3 s6 F H5 aa D I3 f3 I6 qn
  ·refine cR (T.item (aX X N scope U s3.heap.objs.size s3 F fp) rfl rfl rfl hc i [] s5 aa H5 _ I5 (aq az) a3 go) λr s6 ⟨u,hr,h6⟩=>?_
   subst hr;refine cR h6 λ_ s7 ⟨x,H7,I7,r7,y7,ar,a8⟩=>?_
   have bh:=I7.pinned (aq a8) (T.obj _ _ ar);refine cR (hg _ _ _ _ _ s7 aa H7 x u _ bh r7 (step x H7 y7)) λ_ s8 ⟨Y,H8,I8,q8⟩=>?_
   refine cR (ht _ _ _ _ _ s8 Y H8 _ I8 q8) λok s9 ⟨H9,I9,q9⟩=>?_
   have fin:∀ {ac:zad} {ab:Hp} {vs:List V},Inv (aX X N scope U s3.heap.objs.size s3 F fp) ([]++tP fp s7.heap) Y ab ac->ab D=some (.lst vs)->(∃m',m'<n/\W (i+1) m' Y vs ab)->
     ∃m,m<n/\∃i M G H',Inv (aX X N scope U s3.heap.objs.size s3 F fp) [] M H' ac/\tn i ac.heap/\(∀b∈fp,H' b=none)/\H' D=some (.lst G)/\W i m M G H':=λ{ac ab vs} ae hd ⟨m',hm,bo⟩=>by
    refine⟨m',hm,i+1,Y,vs,ab,ae.unpinned,T.keep _ _ _ ar λb q o e=>(ae.pin (b,o) (zaV _ (zaV _ (iK q e)))).1,λb q=>?_,hd,bo⟩;obtain⟨o,e,d⟩:=T.obj _ _ ar b q;exact(ae.pin (b,o) (zaV _ (zaV _ (iK q e)))).2.1
   cases ok with
   | false=>
    rw[if_neg zaA]at q9 ⊢;exact fin I9 q9.1 q9.2
   | true=>
    rw[if_pos rfl]at q9 ⊢;refine cR (he _ _ _ _ _ s9 Y H9 _ I9 q9) λy ac ⟨v,ab,ae,bg,aw,bj⟩=>?_
    refine cR (vI (X:=aX X N scope U s3.heap.objs.size s3 F fp) _ ac Y ab (.ref D) [v] (.ref D) [y] (λ_ as=>as D=some (.lst (G++[v]))/\∃m',m'<n/\W (i+1) m' Y (G++[v]) as) ae rfl (.cons bg .nil) ⟨D,G,v,rfl,rfl,aw,a5,aH,bj⟩) λ_ b4 ⟨z,as,be,_,ay,ba⟩=>?_
    exact fin be ay ba
 exact codeAny_compStart_list (ak _ rfl) (T.self X.A 0 _ _ _ (T.keep 0 _ _ a1 λb q o e=>au b o e) (ak _ rfl))
theorem E7{F tg z:Expr}{B:List Expr}{scope:Scope}{pos:Pos}{N:List Str}{M:List (Str×Addr)}{wi:TI}{g:TG}{tt:TT}{te:TE}
  (hc:X.calm=true) (G:Clo X N scope M) (hi:PI X tg z wi) (hg:∀C s H fp,PG (aX X N scope M C s H fp) tg g) (ht:∀C s H fp,DX (aX X N scope M C s H fp) B tt) (he:∀C s H fp,PE (aX X N scope M C s H fp) F te)
  (hs:∀x,zba z X.env x=pure x:=by intro _;rfl) :
  PE X (.ListComp F [⟨tg,z,B,0⟩] scope pos) (GE wi g tt te (Start X N scope)):=by
 intro pins s σ H Q I h;obtain⟨ak,sS,hw⟩:=h;rw[eval_ListComp];refine wpAny_comprehension_free (use:=none) rfl hs G.clos G.kind G.names (cR (hi pins s σ H _ I hw) λv s1 h1=>cR h1 λaf s2 h2=>?_);obtain⟨it,fp,tn,J,H2,e,I2,T,U,f2,q2⟩:=h2;subst e;refine u5 (wi:=wi) (Q:=Q) (RR:=λacc C=>compPost (model X.prog X.w) X.A X.xe none (EP X pins σ Q) acc C) hc G hg ht he I2 T U f2 sS q2 ?_;intro s3 s5 H3 H5 am D I3 f3 Y q;obtain⟨m,hn,_⟩:=id Y.loc;exact⟨m,hn,λh' W=>⟨.ref D,H5,comp_back I3 f3 Y W,rfl,q⟩⟩
end
end My
namespace My
open PySem PySem.W PyProof.Rows
structure Ord(n:Nat)(lt:Nat->Nat->Bool):Prop where
 irr:∀i,i<n->lt i i=false
 tr:∀i j k,i<n->j<n->k<n->lt i j=true->lt j k=true->lt i k=true
 tot:∀i j,i<n->j<n->i≠j->lt i j=true\/lt j i=true
section
variable {n:Nat}{lt:Nat->Nat->Bool}(O:Ord n lt)
include O
end
end My
namespace My
open PySem PySem.Spec PyProof.Rows PySem.W
section
variable {prog:zah}{w:World}{A:zao}{E:Value->zad->Prop}{s:zad}{it d:Addr}{i ep:Nat}{od:Obj}{es:Array zcp}
def RawD(h:Heap)(d:Addr)(es:Array zcp)(ep:Nat):Prop:=∃o,h.get? d=some o/\o.ExactDict/\o.data=.dict es ep
theorem RawD.typ(x:RawD s.heap d es ep):s.TypeIs (.ref d) "dict" := let ⟨o,a,b,_⟩:=x;⟨o,a,b.1⟩
theorem LC(hd:(d == za6)=false)(q:RawD s.heap d es ep)
  (z:Q (.ref s.heap.objs.size) {s with heap:=s.heap.push {cls:=.type "dict_keyiterator",data:=.fields #[.ref d,.int 0 0,.int es.size 0,.int ep 0]} }):wpAny (model prog w) A (pyIter (.ref d)) Q E s:=by
 have tt:=q.typ;obtain⟨o,g1,g2,g3⟩:=q;refine wpAny_pyIter_slot tt PySem.F.slot_dict_iter (zbk PySem.F.slot_dict_iter tt PySem.F.entry_dict_iter ?_ (PySem.F.args_dict_iter_1 _));unfold zb0.«dict.__iter__»;refine zaa ?_;unfold Builtin.Dict.dictSlotNone;refine zaa (wpAny_notOrdered_dict tt ?_);show wpAny _ _ (pure (zau d)) _ _ s;refine zaf ?_;show wpAny _ _ (Builtin.Dict.showsAll d >>= _) _ _ s;unfold Builtin.Dict.showsAll;rw[if_neg (by rw[hd];exact zaA)];refine zaa (zaf (zaa (zec g1 g3 (zaa (zed g1 g3 ?_)))));refine zaa (zbI (zaf ⟨_,rfl, "dict_keyiterator",_,⟨_,zaE _ rfl,rfl⟩,PySem.F.slot_dict_keyiterator_next.lookup,?_⟩));simpa[za9]using z
theorem LV(q:s.heap.IsKeyIter it d i es.size ep)(B:RawD s.heap d es ep)(hx:i<es.size)
  (G:∀h',h'.IsKeyIter it d (i+1) es.size ep->za4 it s.heap h'->Q (some es[i].key) {s with heap:=h'}):wpAny (model prog w) A (za2 (.ref it)) Q E s:=by
 have tt:=q.typeIs;obtain⟨o,z,F,hd⟩:=id q;obtain⟨od,g1,g2,g3⟩:=B;unfold za2;refine zaa (zcE (zbH (name:=zbj "__next__") tt zdr (zbk zdr tt zeo ?_ (zep _))));refine zaa (zaf (zaa (zaa ?_)))
 first|refine zaa (zds tt (zaf ?_))|refine zaa (zdt tt (zaf ?_))
 refine zaa (wpAny_fieldsOf z hd ?_);simp only[show zeq "dict_keyiterator" = false by decide,zbq,if_false];show wpAny _ _ (if(zau d == za5)=true then _ else _) _ _ s;rw[if_neg (show ¬ ((zau d == za5)=true)from zaA)];refine zaa (zaf (zaa (zec g1 g3 ?_)));rw[if_neg (by simp)];refine zaa (zaf (zaa (zed g1 g3 ?_)));rw[if_neg (by simp)];refine zaf ?_;simp only[show ¬ ((i:Int)<0)from by lia,if_false,zbz,Array.getElem?_eq_getElem hx];refine zaa ?_;first|refine zaa (zds tt (zaf ?_))|refine zaa (zdt tt (zaf ?_))
 refine zaa (wpAny_isOneOf_keyiter tt ?_);show wpAny _ _ (setField (.ref it) 1 (za9 ((i:Int)+1)) >>= _) _ _ s;refine zaa (zdu z hd (by simp) ?_);have nx:(s.heap.update it (Obj.mapFields (·.setIfInBounds 1 (za9 ((i:Int)+1))))).IsKeyIter it d (i+1) es.size ep:=⟨_,zd7 _ z (Obj.isFreed_of_fields (zdv hd _)),(Obj.cls_mapFields ..).trans F,by rw[zdv hd];simp[za9]⟩;refine zaa (zbC (zaa (wpAny_isOneOf_keyiter (s:={s with heap:=s.heap.update it (Obj.mapFields (·.setIfInBounds 1 (za9 ((i:Int)+1))))}) nx.typeIs ?_)));show wpAny _ _ (pure es[i].key) _ _ _;exact zaf (zaf ⟨_,rfl,zaf (G _ nx (zdw ..))⟩)
theorem PN(F:A.handled=none)(q:s.heap.IsKeyIter it d i es.size ep)(B:RawD s.heap d es ep)(hx:es.size<=i)
  (G:∀h',Heap.ExtBut it s.heap h'->Q none {s with heap:=h'}):wpAny (model prog w) A (za2 (.ref it)) Q E s:=by
 have tt:=q.typeIs;obtain⟨o,z,J,hd⟩:=id q;obtain⟨od,g1,g2,g3⟩:=B;unfold za2;refine zaa (zcE (zbH (name:=zbj "__next__") tt zdr (zbk zdr tt zeo ?_ (zep _))));refine zaa (zaf (zaa (zaa ?_)))
 first|refine zaa (zds tt (zaf ?_))|refine zaa (zdt tt (zaf ?_))
 refine zaa (wpAny_fieldsOf z hd ?_);simp only[show zeq "dict_keyiterator" = false by decide,zbq,if_false];show wpAny _ _ (if(zau d == za5)=true then _ else _) _ _ s;rw[if_neg (show ¬ ((zau d == za5)=true)from zaA)];refine zaa (zaf (zaa (zec g1 g3 ?_)));rw[if_neg (by simp)];refine zaa (zaf (zaa (zed g1 g3 ?_)));rw[if_neg (by simp)];refine zaf ?_;simp only[show ¬ ((i:Int)<0)from by lia,if_false,zbz,Array.getElem?_eq_none hx];refine zaa ?_;first|refine zaa (zds tt (zaf ?_))|refine zaa (zdt tt (zaf ?_))
 show wpAny _ _ (setField (.ref it) 0 .none >>= _) _ _ s;refine zaa (zdu z hd (by simp) ?_);show wpAny _ _ (newExc (.type "StopIteration") [] >>= _) _ _ _;refine zaa ?_;simp only[newExc,newTuple];refine zaa (zbI ?_ (by size_fits));refine zaa (m:=zdx _ _) (wpAny_of_eq (a:=za5) (by first|rfl|(simp only[zdx];rfl)) ?_)
 refine zbI ?_ (by size_fits);simp only[raiseNew];refine zaa (wpAny_handled ?_);rw[show A.in1.handled=none from F];refine zaa (zaf (wpAny_throw ?_));refine zaa (zcw (T := "StopIteration") (b:=true) ⟨_,zaE _ rfl,rfl⟩ isSubtype_stop ?_);exact zaf (G _ (((zdw ..).extBut.push _).push _))
end
section
variable {prog:zah}{w:World}{A:zao}{s:zad}{R:Result->zad->Prop}{es:Array zcp}{ep:Nat}
end
section
variable {prog:zah}{w:World}{A:zao}{E:Value->zad->Prop}{s:zad}{r d:Addr}{es:Array zcp}{ep:Nat}
end
section
variable {prog:zah}{w:World}{A:zao}{E:Value->zad->Prop}{s:zad}{a L:Addr}{vs:List Value}{m:Str->Option Value}
end
end My
namespace My
open PySem PySem.Spec PyProof.Rows PySem.W PySem.SeqAt
section
variable {prog:zah}{w:World}{A:zao}{E:Value->zad->Prop}{s:zad}
end
end My
namespace My
open PySem PySem.Spec PyProof.Rows L2 PySem.SeqAt
end My
namespace My
open PySem PySem.Spec PyProof.Rows L2 PySem.SeqAt PySem.W
section
variable {X:Cx}
end
theorem HU{prog:zah}{w:World}{A:zao}{E:Value->zad->Prop}{s:zad}{t G:Addr}{items:Array Value}{M J:Value}{lo hi:Option Int}{Q:Value->zad->Prop}(q:IsTup s.heap t items)(hs:s.heap.IsSliceOf G M J .none)(U:zbG M lo)(Y:zbG J hi)
  (hw:HT.sIx items.size 0 lo=0/\HT.sIx items.size items.size hi=items.size) (h:Q (.ref t) s):wpAny (model prog w) A (zbx (.ref t) (.ref G)) Q E s:=by
 obtain⟨W,z,F,N⟩:=id hs;have tt:s.TypeIs (.ref G) "slice" := ⟨W,z,F⟩;unfold zbx;try with_reducible refine zbC ?_
 first|refine zaa (zaf ?_)|skip
 refine zaa (wpAny_sequenceKey q.typeIs (by decide) ?_);refine zaa (zbH (name:=zbj "__getitem__") q.typeIs zdl (zbk zdl q.typeIs entry_tuple_getitem ?_ (args_tuple_getitem _ _)));show wpAny _ _ (zdO (.ref t) >>= _) _ _ s;refine zaa (tupleItemsOf_ q (zaa (zcA tt ?_)));rw[if_pos (by decide)];refine zaa (HT.gU hs U Y ?_);have B:(((HT.sIx items.size 0 lo:Nat):Int) == 0 && (1:Int) == 1 && (HT.sIx items.size items.size hi-HT.sIx items.size 0 lo) == items.size)=true:=by
  rw[hw.1,hw.2];simp
 show wpAny _ _ (if(((HT.sIx items.size 0 lo:Nat):Int) == 0 && (1:Int) == 1 && (HT.sIx items.size items.size hi-HT.sIx items.size 0 lo) == items.size)=true then _ else _) _ _ s;rw[if_pos B];refine zaa (m:=Builtin.Tuple.tupleIsExact _) ?_;unfold Builtin.Tuple.tupleIsExact;refine zaa (zcA q.typeIs (zaf ?_));rw[if_pos (by decide)];exact zaa (zbM (zaf ⟨_,rfl,zaf h⟩))
section
variable {X:Cx}
def qc(K:zae):V->Option Int->Option Int->Hp->VK->Prop:=λx lo hi H Q=>∃a xs,x=.ref a/\SqT K H a xs/\(HT.sIx xs.length 0 lo=0/\HT.sIx xs.length xs.length hi=xs.length)/\Q (.ref a) H
theorem Q0:SlR X (qc X.K):=by
 intro pins s σ H x v Y W lo hi U Q I J hs G M h;obtain⟨a,xs,rfl,hx,hw,q⟩:=h;cases J;obtain⟨B,r,F,N⟩:=I.tuple hx;have z:B.toArray.size=xs.length:=by rw[zax];exact r.length.symm
 exact⟨"tuple",_,PyProof.Rows.slot_tuple_getitem.lookup,F.typeIs,HU F hs G M (by rw[z];exact hw) ⟨.ref a,H,I,rfl,q⟩⟩
theorem P5:SlR X (λx lo hi H Q=>ZV X.K x lo hi H Q\/qc X.K x lo hi H Q):=UY.or Q0
end
theorem tT(x:ObjOk P w H h d (.dT kvs)):(d == za6)=false/\kvs.length<=zaj/\∃es ep,RawD h d es ep/\es.size=kvs.length /\
  ∀(j:Nat) (p:List Key×V),kvs[j]?=some p->∃(e:zcp) (b:Addr),es[j]?=some e/\e.key=.ref b/\H b=some (.tup (p.1.map kV))/\RelV p.2 e.val/\e.hash=(zb2 (bC P w)).hash p.1:=by
 obtain⟨z,y,xs,r,o,es,ep,h1,h2,G,F,h5⟩:=x;have Y:xs.length=kvs.length:=(zcL r).symm;have B:es.size=kvs.length:=by
  have:=congrArg zbm F;rw[zbQ,zal]at this
  lia
 have get:∀ {kvs:List (List Key×V)} {xs:List (List Key×Addr×Value)},Paired (λ(p:List Key×V) (q:List Key×Addr×Value)=>p.1=q.1/\H q.2.1=some (.tup (p.1.map kV))/\RelV p.2 q.2.2) kvs xs->
   ∀(j:Nat) (p:List Key×V),kvs[j]?=some p->∃q,xs[j]?=some q/\p.1=q.1/\H q.2.1=some (.tup (p.1.map kV))/\RelV p.2 q.2.2:=by
  intro kvs xs r;induction r with
  | nil=>intro j p e;simp at e
  | cons h t ih=>
   intro j p e;cases j with
   | zero=>simp at e;subst e;exact⟨_,rfl,h⟩
   | succ j=>exact ih j p (by simpa using e)
 refine⟨y,z,es,ep,⟨o,h1,h2,G⟩,B,λj p e=>?_⟩;obtain⟨q,W,J,N,U⟩:=get r j p e;have M:es[j]?=some (zcg (zb2 (bC P w)) q):=by
  rw[<- zee,F,zaB,W];rfl
 exact⟨_,q.2.1,M,rfl,N,U,by show(zb2 (bC P w)).hash q.1=_;rw[J]⟩
def qv(d:Addr)(o:Obj)(kvs:List (List Key×V)):It:=
 ⟨λi H=>H d=some (.frz o (.dT kvs))/\i<kvs.length,λi H x H'=>H'=H/\∃k v b,kvs[i]?=some (k,v)/\x=.ref b/\H b=some (.tup (k.map kV)),λi H=>H d=some (.frz o (.dT kvs))/\kvs.length<=i⟩
theorem ID{P:zah}{w:World}{K:zae}{tg:Expr}(d it:Addr)(o:Obj)(kvs:List (List Key×V))(es:Array zcp)(ep:Nat)(hd:o.data=.dict es ep)(aj:es.size=kvs.length):Turn P w K tg (qv d o kvs) [it] it (λi h=>h.IsKeyIter it d i es.size ep) where
 mem:=by simp
 obj:=λi h st b B=>by
  have e:b=it:=by simpa using B
  subst e;obtain⟨o,M,e2,e3⟩:=st;exact⟨o,M,λv z=>by rw[e3]at z;cases z⟩
 keep:=λi h h' st k=>st.at λo e=>k it (by simp) o e
 item:=by
  intro X U hw hK hc i pins s σ H E I J st hg;subst U hw hK;obtain⟨h1,h2⟩:=hg;obtain⟨g1,g2⟩:=(show ObjOk X.prog X.w H s.heap d (.frz o (.dT kvs))from I.hok d _ h1);obtain⟨_,_,aa,W,⟨o',r1,r2,r3⟩,G,q⟩:=tT g2;rw[g1]at r1;cases r1;rw[hd]at r3;injection r3 with r4 r5
  subst r4 r5;obtain⟨f0,f1,f2,N,Y,f5⟩:=J it (by simp);have hi:i<es.size:=by lia
  refine LV st ⟨o,g1,r2,hd⟩ hi λh' F sb=>?_
  have I1:Inv X pins σ H {s with heap:=h'}:=I.turned (t':=s.toks) (λb o B e=>(sb.2 b B).trans e) f0 f1 N Y f5;obtain⟨e,b,M,e2,e3,_⟩:=q i _ (zaS h2);have ee:es[i]=e:=by
   rw[Array.getElem?_eq_getElem hi]at M;exact zay M
  obtain⟨o2,q1,q2,q3⟩:=id F;refine⟨_,rfl,t7 (s:={s with heap:=h'}) (n := "dict_keyiterator") q1 q2 q3 (by decide) ⟨.ref b,H,I1,?_,⟨rfl,kvs[i].1,kvs[i].2,b,zaS h2,rfl,e3⟩,F,λc B=>(J c B).1⟩⟩;rw[ee,e2];rfl
 done:=by
  intro X U hw hK hc i pins s σ H E I J st hg;subst U hw hK;obtain⟨h1,h2⟩:=hg;obtain⟨g1,g2⟩:=(show ObjOk X.prog X.w H s.heap d (.frz o (.dT kvs))from I.hok d _ h1);obtain⟨_,_,aa,W,⟨o',r1,r2,r3⟩,G,q⟩:=tT g2;rw[g1]at r1;cases r1;obtain⟨f0,f1,f2,N,Y,f5⟩:=J it (by simp);exact PN (I.ok.hd hc) st ⟨o,g1,r2,hd⟩ (by lia) λh' eb=>⟨rfl,I.turned (t':=s.toks) (λb o B e=>eb b o B e) f0 f1 N Y f5⟩
 self:=λ_ _ _ _ _ st h=>wpAny_pyIter_keyiter st h
theorem CO(I:Inv X pins σ H s)(hd:H d=some (.dT kvs))(G:s.heap.get? d=some o):Inv X pins σ (upd H d (.frz o (.dT kvs))) s:=by
 have B:∀b u,H b=some u->(∀z,u≠.dT z)->b≠d:=λb u e n z=>by
  subst z;rw[hd]at e;exact n kvs (zay e).symm
 have J:=I.un (h':=s.heap) (t':=s.toks) (H':=upd H d (.frz o (.dT kvs))) ⟨λb u q _ _ _=>q,λb u q _ _ _=>⟨u.slots,q⟩,λb u q n _=>by rw[aE (λz=>by rw[z,hd]at n;cases n)];exact n,λb u q _=>⟨u,q⟩,
  λb xs q=>by rw[aE (B b _ q (λz h=>by cases h))];exact q,λb u xs q=>by rw[aE (B b _ q (λz h=>by cases h))];exact q,λb ps q=>⟨#[],by rw[aE (B b _ q (λz h=>by cases h)),q];simp⟩⟩ (λb u e=>?_)
 ·exact J
 ·have st:∀ {b:Addr} {u:HO},ObjOk X.prog X.w H s.heap b u->ObjOk X.prog X.w (upd H d (.frz o (.dT kvs))) s.heap b u:=λx=>x.stay (λ_ _ _ q=>q) (λc q=>by rw[aE (B c _ q (λz h=>by cases h))];exact q) λc xs q=>by rw[aE (B c _ q (λz h=>by cases h))];exact q
  by_cases F:b=d
  ·subst F
   rw[aH]at e;cases e;exact⟨G,st (I.hok b _ hd)⟩
  ·rw[aE F]at e
   exact st (I.hok b u e)
section
variable {X:Cx}{tg:Expr}
end
section
variable {X:Cx}
end
end My
namespace My
open PySem PySem.Spec PyProof.Rows L2 PySem.SeqAt
abbrev Tm:=List Int×Int
def look(q:List Tm)(k:List Int):Option Int:=(q.find? λt=>decide (t.1=k)).map (·.2)
def put(q:List Tm)(k:List Int)(c:Int):List Tm:=if(q.any λt=>decide (t.1=k))=true then q.map (λt=>if t.1=k then(t.1,c)else t)else q++[(k,c)]
def Z4(q:List Tm)(t:Tm):List Tm:=put q t.1 ((look q t.1).getD 0+t.2)
def V4(ts:List Tm):List Tm:=ts.foldl Z4 []
def ZJ(M:Int)(q:List Tm):List Tm:=(q.filter λt=>decide (t.2%M≠0)).map λt=>(t.1,t.2%M)
def TS(H H':Hp):Prop:=∀b xs,H b=some (.tup xs)->H' b=some (.tup xs)
theorem TS.trans(a:TS H H1)(b:TS H1 H2):TS H H2:=λc xs h=>b c xs (a c xs h)
theorem TS.put(h:H l=some u)(n:∀xs,u≠.tup xs):TS H (upd H l o):=λb xs q=>by
 rw[aE (λz=>by subst z;rw[h]at q;exact n xs (zay q))];exact q
noncomputable def hT(ns:List Int):Int:=reduceHash (zce (ns.map hashInt))
end My
namespace My
open PySem PySem.Spec PyProof.Rows L2
noncomputable def itN(t:Bool):String:=if t=true then "tuple_iterator" else "list_iterator"
noncomputable def sqN(t:Bool):String:=if t=true then "tuple" else "list"
def SIt(t:Bool)(h:Heap)(i l:Addr)(k:Nat):Prop:=∃o,h.get? i=some o/\o.cls=.type (itN t)/\o.data=.fields #[.ref l,.int k 0]
def SSq(t:Bool)(h:Heap)(l:Addr)(xs:Array Value):Prop:=∃o,h.get? l=some o/\o.cls=.type (sqN t)/\∃n,o.data=.seq xs n
theorem SIt.to(x:SIt t h i l k)(e:∀o,h.get? i=some o->h'.get? i=some o):SIt t h' i l k:=let ⟨o,ho,r⟩:=x;⟨o,e o ho,r⟩
theorem SSq.to(x:SSq t h l xs)(e:∀o,h.get? l=some o->h'.get? l=some o):SSq t h' l xs:=let ⟨o,ho,r⟩:=x;⟨o,e o ho,r⟩
section
variable {prog:zah}{w:World}{A:zao}{E:Value->zad->Prop}{s:zad}
theorem next_item(z:SIt t s.heap it l i)(M:SSq t s.heap l xs)(hx:xs[i]?=some x)
  (J:∀h',SIt t h' it l (i+1)->za4 it s.heap h'->Q x {s with heap:=h'}):wpAny (model prog w) A (zca (.ref it)) Q E s:=by
 cases t with
 | false=>exact wpAny_nextOf_list_item (it:=it) (l:=l) (items:=xs) z M hx J
 | true=>
  have q:s.heap.IsTupleIter it l i:=z;obtain⟨o,B,N,hd⟩:=z;obtain⟨U,G,_,nl,F⟩:=M;unfold zca;refine zaa (zbH (name:=zbj "__next__") q.typeIs zdy (zbk zdy q.typeIs zer ?_ (zes _)));show wpAny _ _ (field (.ref it) 0 >>= _) _ _ _;refine zaa (zaR B hd (x:=.ref l) rfl ?_);show wpAny _ _ (if(zau l == za5)=true then _ else _) _ _ _;rw[if_neg (show ¬ ((zau l == za5)=true)from zaA)];show wpAny _ _ (field (.ref it) 1 >>= _) _ _ _;refine zaa (zaR B hd (x:=.int i 0) rfl ?_);show wpAny _ _ (seqItems? (.ref l) >>= _) _ _ _;refine zaa (zbr G F ?_);simp only[zbz,hx];refine zaa (zdu B hd (by simp) (zaf ⟨x,rfl,zaf (J _ ⟨_,zd7 _ B (Obj.isFreed_of_fields (zdv hd _)),(Obj.cls_mapFields ..).trans N,by rw[zdv hd];simp[za9]⟩ (zdw ..))⟩))
theorem next_end(B:A.handled=none)(z:SIt t s.heap it l i)(M:SSq t s.heap l xs)(hx:xs[i]?=none)
  (N:∀h' e,Heap.ExtBut it s.heap h'->(∃o,h'.get? e=some o/\o.cls=.type "StopIteration")->E (.ref e) {s with heap:=h'}):wpAny (model prog w) A (zca (.ref it)) Q E s:=by
 cases t with
 | false=>exact wpAny_nextOf_list_end (it:=it) (l:=l) (items:=xs) B z M hx N
 | true=>
  have q:s.heap.IsTupleIter it l i:=z;obtain⟨o,J,U,hd⟩:=z;obtain⟨W,G,_,nl,F⟩:=M;unfold zca;refine zaa (zbH (name:=zbj "__next__") q.typeIs zdy (zbk zdy q.typeIs zer ?_ (zes _)));show wpAny _ _ (field (.ref it) 0 >>= _) _ _ _;refine zaa (zaR J hd (x:=.ref l) rfl ?_);show wpAny _ _ (if(zau l == za5)=true then _ else _) _ _ _;rw[if_neg (show ¬ ((zau l == za5)=true)from zaA)];show wpAny _ _ (field (.ref it) 1 >>= _) _ _ _;refine zaa (zaR J hd (x:=.int i 0) rfl ?_);show wpAny _ _ (seqItems? (.ref l) >>= _) _ _ _;refine zaa (zbr G F ?_);simp only[zbz,hx];refine zaa (zbM (zaa (zdu J hd (by simp) ?_)));show wpAny _ _ (newExc (.type "StopIteration") [] >>= _) _ _ _;refine zaa ?_;simp only[newExc,newTuple];refine zaa (zbI ?_ (by size_fits));refine zaa (m:=zdx _ _) (wpAny_of_eq (a:=za5) (by first|rfl|(simp only[zdx];rfl)) ?_);refine zbI ?_ (by size_fits);simp only[raiseNew]
  refine zaa (wpAny_handled ?_);first|rw[show A.in1.handled=none from B]|rw[B]
  refine zaa (zaf (wpAny_throw ?_));exact N _ _ (((zdw ..).extBut.push _).push _) ⟨_,zaE _ rfl,rfl⟩
structure ZA(z TI TO i1 i2 l1 l2:Addr):Prop where
 z1:TI≠z
 z2:TO≠z
 z3:i1≠z
 z4:i2≠z
 z5:TI≠TO
 z6:TI≠i1
 z7:TI≠i2
 z8:TO≠i1
 z9:TO≠i2
 za:i1≠i2
 zb:l1≠z/\l1≠TO/\l1≠i1/\l1≠i2
 zc:l2≠z/\l2≠TO/\l2≠i1/\l2≠i2
theorem JO{t1 t2:Bool}{z TI TO U N l1 l2:Addr}{k1 k2:Nat}{xs ys:Array Value}{x y a b:Value}{Q:Option Value->zad->Prop}(D:ZA z TI TO U N l1 l2)
  (hz:IsZip s.heap z TI TO .none) (a5:za3 s.heap TI (.ref U) (.ref N)) (a3:za3 s.heap TO a b) (h1:SIt t1 s.heap U l1 k1) (h2:SIt t2 s.heap N l2 k2) (as:SSq t1 s.heap l1 xs) (a1:SSq t2 s.heap l2 ys) (hx:xs[k1]?=some x) (hy:ys[k2]?=some y)
  (hQ:∀h',IsZip h' z TI TO (za9 s.heap.objs.size)->za3 h' TO x y->SIt t1 h' U l1 (k1+1)->SIt t2 h' N l2 (k2+1)->za3 h' s.heap.objs.size x y->h'.objs.size=s.heap.objs.size+1->(∀c o,c≠z->c≠TO->c≠U->c≠N->s.heap.get? c=some o->h'.get? c=some o)->Q (some (.ref s.heap.objs.size)) {s with heap:=h'}) :
  wpAny (model prog w) A (za2 (.ref z)) Q E s:=by
 have hT:s.TypeIs (.ref z) "zip" := ⟨_,hz,rfl⟩;unfold za2;refine zaa (zcE (zbH (name:=zbj "__next__") hT zdz (zbk zdz hT F.entry_zip_next ?_ (F.args_zip_next_1 _))));show wpAny _ _ (field (.ref z) 2 >>= _) _ _ s;refine zaa (zaR hz rfl (x:=.bool false) rfl ?_);show wpAny _ _ (field (.ref z) 3 >>= _) _ _ s;refine zaa (zaR hz rfl (x:=.ref TI) rfl (zaa (zbr a5 rfl ?_)));show wpAny _ _ (zcF (.ref z) >>= _) _ _ s;refine zaa ?_;unfold zcF;refine zaa (zaR hz rfl (x:=.none) rfl (zaf ?_));simp only[if_true];refine zaa (zbM (zaa (zaR hz rfl (x:=.ref TO) rfl (zaa (zbA hz (by simp) λha ab sa=>?_)))));replace ab:IsZip ha z TI TO .ellipsis:=ab;refine zaa ?_;simp only[List.zipIdx_cons,List.zipIdx_nil,zef,List.forIn_nil];refine zaa (zaa (zdA ?_));show wpAny _ _ (zca (.ref U) >>= _) _ _ {s with heap:=ha};have ea:=sa.extBut;refine zaa (next_item (t:=t1) (xs:=xs) (h1.to λo e=>ea _ _ D.z3 e) (as.to λo e=>ea _ _ D.zb.1 e) hx λhb ax sb=>zaf ?_);have eb:=sb.extBut;have M:za3 hb TO a b:=eb _ _ D.z8 (ea _ _ D.z2 a3);refine zaa (zbr M rfl (zaa (zeg M λhc G sc=>?_)));replace G:za3 hc TO x b:=G;have ec:=sc.extBut;refine zaa (zdB (zaf ?_));refine zaa (zaa (zdA ?_));show wpAny _ _ (zca (.ref N) >>= _) _ _ {s with heap:=hc};refine zaa (next_item (t:=t2) (xs:=ys) (h2.to λo e=>ec _ _ D.z9.symm (eb _ _ D.za.symm (ea _ _ D.z4 e))) (a1.to λo e=>ec _ _ D.zc.2.1 (eb _ _ D.zc.2.2.1 (ea _ _ D.zc.1 e))) hy λhd ay sd=>zaf ?_);have ed:=sd.extBut;have W:za3 hd TO x b:=ed _ _ D.z9 G;refine zaa (zbr W rfl (zaa (zeg W λq B se=>?_)));replace B:za3 q TO x y:=B;have ee:=se.extBut;refine zaa (zdB (zaf (zaf ?_)));refine zaa (zbr B rfl (zaa (wpAny_newTuple ?_)));have hsz:q.objs.size=s.heap.objs.size:=by rw[se.1,sd.1,sc.1,sb.1,sa.1]
 have ak:IsZip q z TI TO .ellipsis:=ee _ _ D.z2.symm (ed _ _ D.z4.symm (ec _ _ D.z2.symm (eb _ _ D.z3.symm ab)));have a0:∀c o,c≠z->c≠TO->c≠U->c≠N->s.heap.get? c=some o->q.get? c=some o:=λc o c1 c2 c3 c4 e=>ee _ _ c2 (ed _ _ c4 (ec _ _ c2 (eb _ _ c3 (ea _ _ c1 e))))
 have au:SIt t1 q U l1 (k1+1):=ax.to λo e=>ee _ _ D.z8.symm (ed _ _ D.za (ec _ _ D.z8.symm e))
 have a4:SIt t2 q N l2 (k2+1):=ay.to λo e=>ee _ _ D.z9.symm e
 have ai:z<q.objs.size:=zap ak;show wpAny _ _ (zdC (.ref z) (.ref q.objs.size) >>= _) _ _ _;refine zaa ?_;unfold zdC;have a2:IsZip (q.push {cls:=.type "tuple",data:=.seq #[x,y]}) z TI TO .ellipsis:=zan _ ak;refine zaa (zbA a2 (by simp) λhg Y sg=>?_);replace Y:IsZip hg z TI TO (za9 q.objs.size):=Y;refine zbA Y (by simp) λhi J si=>?_;replace J:IsZip hi z TI TO (za9 q.objs.size):=J
 have up:∀c o,c≠z->q.get? c=some o->hi.get? c=some o:=λc o c1 e=>si.extBut _ _ c1 (sg.extBut _ _ c1 (zan _ e))
 have am:za3 hi q.objs.size x y:=si.extBut _ _ (zbt ai) (sg.extBut _ _ (zbt ai) (zaE _ rfl));have af:hi.objs.size=q.objs.size+1:=by rw[si.1,sg.1,zbT]
 rw[hsz]at J am af;refine zaf ⟨_,rfl,zaf ?_⟩;show Q (some (.ref q.objs.size)) _;rw[hsz];exact hQ hi J (up _ _ D.z2 B) (au.to λo e=>up _ o D.z3 e) (a4.to λo e=>up _ o D.z4 e) am af λc o c1 c2 c3 c4 e=>up c o c1 (a0 c o c1 c2 c3 c4 e)
theorem L4{t1 t2:Bool}{z TI TO i1 Y l1 l2:Addr}{k1 k2:Nat}{xs ys:Array Value}{a b:Value}{Q:Option Value->zad->Prop}(hh:A.handled=none)(D:ZA z TI TO i1 Y l1 l2)
  (W:IsZip s.heap z TI TO .none) (as:za3 s.heap TI (.ref i1) (.ref Y)) (ao:za3 s.heap TO a b) (h1:SIt t1 s.heap i1 l1 k1) (h2:SIt t2 s.heap Y l2 k2) (ab:SSq t1 s.heap l1 xs) (an:SSq t2 s.heap l2 ys) (ag:xs[k1]?=none\/ys[k2]?=none)
  (hQ:∀h',(∀c o,c≠z->c≠TO->c≠i1->c≠Y->s.heap.get? c=some o->h'.get? c=some o)->Q none {s with heap:=h'}):wpAny (model prog w) A (za2 (.ref z)) Q E s:=by
 have hT:s.TypeIs (.ref z) "zip" := ⟨_,W,rfl⟩;have fin:∀(h':Heap) (e:Addr),(∀c o,c≠z->c≠TO->c≠i1->c≠Y->s.heap.get? c=some o->h'.get? c=some o)->(∃o,h'.get? e=some o/\o.cls=.type "StopIteration")->wpAny (model prog w) A (do if <- isInstance (.ref e) (.type "StopIteration")then pure none else throw (.ref e)) Q E {s with heap:=h'}:=λh' e hk he=>by
  obtain⟨o,ho,hc⟩:=he;refine zaa (zcw (T := "StopIteration") (b:=true) ⟨o,ho,hc⟩ isSubtype_stop ?_);exact zaf (hQ _ hk)
 unfold za2;refine zaa (zcE (zbH (name:=zbj "__next__") hT zdz (zbk zdz hT F.entry_zip_next ?_ (F.args_zip_next_1 _))));show wpAny _ _ (field (.ref z) 2 >>= _) _ _ s;refine zaa (zaR W rfl (x:=.bool false) rfl ?_);show wpAny _ _ (field (.ref z) 3 >>= _) _ _ s;refine zaa (zaR W rfl (x:=.ref TI) rfl (zaa (zbr as rfl ?_)));show wpAny _ _ (zcF (.ref z) >>= _) _ _ s;refine zaa ?_;unfold zcF;refine zaa (zaR W rfl (x:=.none) rfl (zaf ?_));simp only[if_true];refine zaa (zbM (zaa (zaR W rfl (x:=.ref TO) rfl (zaa (zbA W (by simp) λha M sa=>?_)))));replace M:IsZip ha z TI TO .ellipsis:=M;refine zaa ?_;simp only[List.zipIdx_cons,List.zipIdx_nil,zef,List.forIn_nil];refine zaa (zaa (zdA ?_));show wpAny _ _ (zca (.ref i1) >>= _) _ _ {s with heap:=ha};have J:=sa.extBut;cases hx:xs[k1]? with
 | none=>
  refine zaa (next_end (t:=t1) (xs:=xs) hh (h1.to λo e=>J _ _ D.z3 e) (ab.to λo e=>J _ _ D.zb.1 e) hx λhb e sb he=>?_);obtain⟨oe,B,G⟩:=he;have ad:IsZip hb z TI TO .ellipsis:=sb _ _ D.z3.symm M;have U:e≠z:=λq=>by subst q;rw[ad]at B;cases B;simp at G
  exact zbA ad (by simp) λhc _ sc=>fin hc e (λc o c1 _ c3 _ q=>sc.extBut _ _ c1 (sb _ _ c3 (J _ _ c1 q))) ⟨oe,sc.extBut _ _ U B,G⟩
 | some x=>
  have hy:ys[k2]?=none:=by rcases ag with h|h;rw[hx]at h;cases h;exact h
  refine zaa (next_item (t:=t1) (xs:=xs) (h1.to λo e=>J _ _ D.z3 e) (ab.to λo e=>J _ _ D.zb.1 e) hx λhb a1 sb=>zaf ?_);have eb:=sb.extBut;have N:za3 hb TO a b:=eb _ _ D.z8 (J _ _ D.z2 ao);refine zaa (zbr N rfl (zaa (zeg N λhc ax sc=>?_)));have ec:=sc.extBut;refine zaa (zdB (zaf ?_));refine zaa (zaa (zdA ?_));show wpAny _ _ (zca (.ref Y) >>= _) _ _ {s with heap:=hc};refine zaa (next_end (t:=t2) (xs:=ys) hh (h2.to λo e=>ec _ _ D.z9.symm (eb _ _ D.za.symm (J _ _ D.z4 e))) (an.to λo e=>ec _ _ D.zc.2.1 (eb _ _ D.zc.2.2.1 (J _ _ D.zc.1 e))) hy λhd e sd he=>?_);obtain⟨oe,B,G⟩:=he;have ah:IsZip hd z TI TO .ellipsis:=sd _ _ D.z4.symm (ec _ _ D.z2.symm (eb _ _ D.z3.symm M));have U:e≠z:=λq=>by subst q;rw[ah]at B;cases B;simp at G
  exact zbA ah (by simp) λhf _ sf=>fin hf e (λc o c1 c2 c3 c4 q=>sf.extBut _ _ c1 (sd _ _ c4 (ec _ _ c2 (eb _ _ c3 (J _ _ c1 q))))) ⟨oe,sf.extBut _ _ U B,G⟩
abbrev GN(t:Bool)(l:Addr):Obj:={cls:=.type (itN t),data:=.fields #[.ref l,.int 0 0]}
abbrev XQ(t1 t2:Bool)(h:Heap)(l1 l2:Addr):Heap:=(h.push (GN t1 l1)).push (GN t2 l2)
abbrev zh4(t1 t2:Bool)(h:Heap)(l1 l2:Addr):Heap:=((XQ t1 t2 h l1 l2).push {cls:=.type "tuple",data:=.seq #[.ref h.objs.size,.ref (h.push (GN t1 l1)).objs.size]}).push {cls:=.type "tuple",data:=.seq #[.none,.none]}
abbrev XS(t1 t2:Bool)(h:Heap)(l1 l2:Addr):Heap:=(zh4 t1 t2 h l1 l2).push {cls:=.type "zip",data:=.fields #[.none,.bool false,.bool false,.ref (XQ t1 t2 h l1 l2).objs.size,.ref ((XQ t1 t2 h l1 l2).push {cls:=.type "tuple",data:=.seq #[.ref h.objs.size,.ref (h.push (GN t1 l1)).objs.size]}).objs.size]}
theorem RM(W U:Bool)(F G:Addr)(xs ys:Array Value):Meets (zb0.«zip.__new__» ⟨[.type "zip",.ref F,.ref G],[]⟩) (λ_ R s=>SSq W s.heap F xs/\SSq U s.heap G ys/\R (.ok (.ret (.ref (zh4 W U s.heap F G).objs.size))) {s with heap:=XS W U s.heap F G}):=
 .of_wp λprog w A R s h=>by
  obtain⟨M,g,d,tk,N⟩:=s;obtain⟨J,Y,h⟩:=h;have aa:=sub_zip;have B:SSq U (M.push (GN W F)) G ys:=Y.to λo e=>zan _ e
  cases W <;> cases U
  ·have z:zdD (zbV ⟨M,g,d,tk,N⟩) F xs:=J
   have q:zdD (zbV ⟨M.push {cls:=.type "list_iterator",data:=.fields #[.ref F,.int 0 0]},g,d,tk,N⟩) G ys:=B
   wp_walk using zb6 z,zb6 q
   exact⟨_,rfl,h⟩
  ·have z:zdD (zbV ⟨M,g,d,tk,N⟩) F xs:=J
   have q:zcV (zbV ⟨M.push {cls:=.type "list_iterator",data:=.fields #[.ref F,.int 0 0]},g,d,tk,N⟩) G ys:=B
   wp_walk using zb6 z,zbR q
   exact⟨_,rfl,h⟩
  ·have z:zcV (zbV ⟨M,g,d,tk,N⟩) F xs:=J
   have q:zdD (zbV ⟨M.push {cls:=.type "tuple_iterator",data:=.fields #[.ref F,.int 0 0]},g,d,tk,N⟩) G ys:=B
   wp_walk using zbR z,zb6 q
   exact⟨_,rfl,h⟩
  ·have z:zcV (zbV ⟨M,g,d,tk,N⟩) F xs:=J
   have q:zcV (zbV ⟨M.push {cls:=.type "tuple_iterator",data:=.fields #[.ref F,.int 0 0]},g,d,tk,N⟩) G ys:=B
   wp_walk using zbR z,zbR q
   exact⟨_,rfl,h⟩
theorem KP(q:SSq t1 s.heap l1 xs)(z:SSq t2 s.heap l2 ys)
  (h:∀h', IsZip h' (s.heap.objs.size+4) (s.heap.objs.size+2) (s.heap.objs.size+3) .none -> za3 h' (s.heap.objs.size+2) (.ref s.heap.objs.size) (.ref (s.heap.objs.size+1)) -> za3 h' (s.heap.objs.size+3) .none .none ->
   SIt t1 h' s.heap.objs.size l1 0->SIt t2 h' (s.heap.objs.size+1) l2 0->(∀c o,s.heap.get? c=some o->h'.get? c=some o)->Q (.ref (s.heap.objs.size+4)) {s with heap:=h'}):wpAny (model prog w) A (call (.type "zip") [.ref l1,.ref l2]) Q E s:=by
 refine callType_new F.called_zip (by decide) (F.typeCall_zip_2 _ _) (F.newCall_zip_2 _ _) (λB=>F.args_object_init_3 B _ _) F.entry_zip_new (RM t1 t2 l1 l2 xs ys) ⟨q,z,?_⟩;have J:(s.heap.push (GN t1 l1)).objs.size=s.heap.objs.size+1:=zbT ..;have N:(XQ t1 t2 s.heap l1 l2).objs.size=s.heap.objs.size+2:=by rw[zbT,J]
 have G:((XQ t1 t2 s.heap l1 l2).push {cls:=.type "tuple",data:=.seq #[.ref s.heap.objs.size,.ref (s.heap.push (GN t1 l1)).objs.size]}).objs.size=s.heap.objs.size+3:=by rw[zbT,N]
 have W:(zh4 t1 t2 s.heap l1 l2).objs.size=s.heap.objs.size+4:=by rw[zbT,G]
 have M:(XS t1 t2 s.heap l1 l2).get? (zh4 t1 t2 s.heap l1 l2).objs.size=some _:=zaE _ rfl;have U:(XS t1 t2 s.heap l1 l2).get? ((XQ t1 t2 s.heap l1 l2).push {cls:=.type "tuple",data:=.seq #[.ref s.heap.objs.size,.ref (s.heap.push (GN t1 l1)).objs.size]}).objs.size=some _:=zan _ (zaE _ rfl);have g3:(XS t1 t2 s.heap l1 l2).get? (XQ t1 t2 s.heap l1 l2).objs.size=some _:=zan _ (zan _ (zaE _ rfl));have g2:(XS t1 t2 s.heap l1 l2).get? (s.heap.push (GN t1 l1)).objs.size=some (GN t2 l2):=zan _ (zan _ (zan _ (zaE _ rfl)));have g1:(XS t1 t2 s.heap l1 l2).get? s.heap.objs.size=some (GN t1 l1):=zan _ (zan _ (zan _ (zan _ (zaE _ rfl))));show _/\_;rw[N,G,W]at M;rw[J,N]at g3;rw[G]at U;rw[J]at g2;rw[W];exact⟨⟨_,M,rfl⟩,h _ M g3 U ⟨_,g1,rfl,rfl⟩ ⟨_,g2,rfl,rfl⟩ λc o x=>zan _ (zan _ (zan _ (zan _ (zan _ x))))⟩
end
def BF(K:zae)(t:Bool)(H:Hp)(a:Addr)(xs:List V):Prop:=if t=true then SqT K H a xs else SqL K H a xs
def ItZ(K:zae)(F z:Bool)(B q:Addr):It:=
 ⟨λi H => ∃xs ys, BF K F H B xs /\ BF K z H q ys /\ i<xs.length /\ i<ys.length, λi H x H' => ∃p u v, x = .ref p /\ H p = none /\ H' = upd H p (.tup [u, v]) /\ ∀xs ys, BF K F H B xs -> BF K z H q ys -> xs[i]? = some u /\ ys[i]? = some v,
  λi H=>∃xs ys,BF K F H B xs/\BF K z H q ys/\(xs.length<=i\/ys.length<=i)⟩
theorem iT(I:Inv X pins σ H s)(h:BF X.K t H a xs):∃q:List Value,Vals xs q/\SSq t s.heap a q.toArray:=by
 cases t with
 | true=>
  obtain⟨q,r,p,_⟩:=I.tuple (show SqT X.K H a xs from h);exact⟨q,r,p⟩
 | false=>
  obtain⟨q,r,p,_⟩:=I.list (show SqL X.K H a xs from h);exact⟨q,r,PlainL.isList p⟩
theorem wN(I:Inv X pins σ H s)(h:BF X.K t H a xs)(h':BF X.K t H a ys):xs=ys:=by
 cases t with
 | true=>exact I.tuple_inj (show SqT X.K H a xs from h) h'
 | false=>exact I.list_inj (show SqL X.K H a xs from h) h'
theorem iE{pins:List (Addr×Obj)}{t':Nat}{fp:List Addr}(I:Inv X pins σ H s)(F:∀b∈fp,kB X pins H b)(k:∀b o,b∉fp->s.heap.get? b=some o->h'.get? b=some o):Inv X pins σ H {s with heap:=h',toks:=t'}:=by
 have B:∀b u,H b=some u->b∉fp:=λb u e z=>by rw[(F b z).1]at e;cases e
 refine I.call' (s':={s with heap:=h',toks:=t'}) (ch:=fp) rfl ⟨λb o e _ _ hx=>k b o hx e,λb o e _ _ hx=>⟨o.slots,k b o hx e⟩,λ_ _ _ n _=>n,λb o e hx=>⟨o,k b o hx e⟩,λ_ _ q=>q,λ_ _ _ q=>q,λb ps q=>⟨#[],by rw[q];simp⟩⟩ (λb u e=>?_) I.bare λb N=>?_
 ·refine(I.hok b u e).stay (λc v J q=>k c v ?_ q) (λ_ q=>q) λ_ _ q=>q
  rcases J with z|z
  ·rw[z];exact B b u e
  ·exact B c _ z
 ·obtain⟨_,f1,_,M,G,U⟩:=F b N
  exact⟨M,f1,G,U⟩
theorem K7{P:zah}{w:World}{K:zae}{ad:List Expr}{x1}{tp:Pos}(t1 t2:Bool){z TI TO Y U l1 l2:Addr}(D:ZA z TI TO Y U l1 l2) :
  Turn P w K (.Tuple ad x1 tp) (ItZ K t1 t2 l1 l2) [z,TI,TO,Y,U] z (λi h=>IsZip h z TI TO .none/\za3 h TI (.ref Y) (.ref U)/\(∃a b,za3 h TO a b)/\SIt t1 h Y l1 i/\SIt t2 h U l2 i) where
 mem:=by simp
 obj:=by
  rintro i h ⟨N,G,⟨a,b,J⟩,⟨o1,e1,_,d1⟩,⟨o2,e2,_,d2⟩⟩ c B;simp only[zaW,za0,or_false]at B;rcases B with rfl|rfl|rfl|rfl|rfl
  ·exact⟨_,N,λv q=>by cases q⟩
  ·exact⟨_,G,λv q=>by cases q⟩
  ·exact⟨_,J,λv q=>by cases q⟩
  ·exact⟨o1,e1,λv q=>by rw[d1]at q;cases q⟩
  ·exact⟨o2,e2,λv q=>by rw[d2]at q;cases q⟩
 keep:=λi h h' ⟨N,G,⟨a,b,J⟩,s1,s2⟩ k=>⟨k z (by simp) _ N,k TI (by simp) _ G,⟨a,b,k TO (by simp) _ J⟩,s1.to λo e=>k Y (by simp) o e,s2.to λo e=>k U (by simp) o e⟩
 item:=by
  intro X hP hw hK B i pins s σ H E I hf st hg;subst hP hw hK;obtain⟨N,G,⟨a,b,J⟩,s1,s2⟩:=st;obtain⟨xs,ys,q1,q2,yE,an⟩:=hg;obtain⟨ac,r1,p1⟩:=iT I q1;obtain⟨ah,r2,p2⟩:=iT I q2;have e1:xs[i]?=some xs[i]:=by simp[yE]
  have e2:ys[i]?=some ys[i]:=by simp[an]
  obtain⟨u,eu,ru⟩:=r1.get e1;obtain⟨v,ev,rv⟩:=r2.get e2;refine JO D N G J s1 s2 p1 p2 (x:=u) (y:=v) (by simpa using eu) (by simpa using ev) λh' a1 a2 a3 a4 a5 a6 W=>⟨_,rfl,?_⟩
  refine wpAny_letOwnedTupleGo_zip (s:={s with heap:=h'}) a1 λh2 ax sb=>?_
  have zz:∀c,c∈[z,TI,TO,Y,U]->c<s.heap.objs.size:=λc B=>by
   simp only[zaW,za0,or_false]at B;rcases B with rfl|rfl|rfl|rfl|rfl
   ·exact zap N
   ·exact zap G
   ·exact zap J
   ·obtain⟨o,e,_⟩:=s1;exact zap e
   ·obtain⟨o,e,_⟩:=s2;exact zap e
  have M:∀c o,c≠z->h'.get? c=some o->h2.get? c=some o:=λc o B e=>sb.extBut _ _ B e
  have I1:Inv X pins σ H {s with heap:=h2,toks:=s.toks}:=iE I hf λc o B e=>by
   simp only[zaW,za0,or_false,not_or]at B;exact M c o B.1 (W c o B.1 B.2.2.1 B.2.2.2.1 B.2.2.2.2 e)
  have F:H s.heap.objs.size=none:=I.fresh;have ap:za3 h2 s.heap.objs.size u v:=M _ _ (zbt (zz z (by simp))) a5;have I2:Inv X pins σ (upd H s.heap.objs.size (.tup [xs[i],ys[i]])) {s with heap:=h2}:=by
   have as:HOk X.prog X.w (upd H s.heap.objs.size (.tup [xs[i],ys[i]])) h2:=λc ob e=>by
    by_cases B:c=s.heap.objs.size
    ·subst B;rw[aH]at e;cases e
     exact⟨by show 2<=zaj;decide,[u,v],.cons ru (.cons rv .nil),_,ap,rfl,0,rfl,rfl⟩
    ·rw[aE B]at e
     exact(I1.hok c ob e).stay (λ_ _ _ q=>q) (λd q=>by rw[aE (bE q F)];exact q) λd ae q=>by rw[aE (bE q F)];exact q
   refine I.call' (s':={s with heap:=h2}) (ch:=[z,TI,TO,Y,U]) rfl ⟨λc o e _ _ hx=>?_,λc o e _ _ hx=>⟨o.slots,?_⟩,λc o e n hx=>by rw[aE (zaF (zap e))];exact n,λc o e hx=>⟨o,?_⟩,λc ae q=>by rw[aE (bE q F)];exact q,λc o' u' q=>by rw[aE (bE q F)];exact q,λc ps q=>⟨#[],by rw[aE (bE q F),q];simp⟩⟩ as I.bare λb hb=>?_
   ·simp only[zaW,za0,or_false,not_or]at hx
    exact M c o hx.1 (W c o hx.1 hx.2.2.1 hx.2.2.2.1 hx.2.2.2.2 e)
   ·simp only[zaW,za0,or_false,not_or]at hx
    exact M c o hx.1 (W c o hx.1 hx.2.2.1 hx.2.2.2.1 hx.2.2.2.2 e)
   ·simp only[zaW,za0,or_false,not_or]at hx
    exact M c o hx.1 (W c o hx.1 hx.2.2.1 hx.2.2.2.1 hx.2.2.2.2 e)
   ·obtain⟨_,f1,_,f3,f4,f5⟩:=hf b hb
    exact⟨f3,f1,f4,f5⟩
  refine⟨.ref s.heap.objs.size,_,I2,rfl,⟨_,_,_,rfl,F,rfl,λbb ae g1 g2=>by rw[<- wN I q1 g1,<- wN I q2 g2];exact⟨e1,e2⟩⟩,⟨ax,M _ _ D.z1 (W _ _ D.z1 D.z5 D.z6 D.z7 G),⟨_,_,M _ _ D.z2 a2⟩,a3.to λo e=>M _ o D.z3 e,a4.to λo e=>M _ o D.z4 e⟩,λc B=>?_⟩;rw[aE (zaF (zz c B))];exact(hf c B).1
 done:=by
  intro X hP hw hK B i pins s σ H E I hf st hg;subst hP hw hK;obtain⟨N,G,⟨a,b,J⟩,s1,s2⟩:=st;obtain⟨xs,ys,q1,q2,ag⟩:=hg;obtain⟨ac,r1,p1⟩:=iT I q1;obtain⟨ah,r2,p2⟩:=iT I q2;have n1:=r1.length;have n2:=r2.length;refine L4 (I.ok.hd B) D N G J s1 s2 p1 p2 (ag.imp (λh=>by simp;lia) λh=>by simp;lia) λh' W=>⟨rfl,iE (t':=s.toks) I hf λc o B e=>?_⟩
  simp only[zaW,za0,or_false,not_or]at B;exact W c o B.1 B.2.2.1 B.2.2.2.1 B.2.2.2.2 e
 self:=λ_ _ _ _ _ st h=>wpAny_pyIter_zip st.1 h
theorem X0(n z q:Nat)(h1:z<n)(h2:q<n):ZA (n+4) (n+2) (n+3) n (n+1) z q:=⟨(show(n+2:Nat)≠n+4 by lia),(show(n+3:Nat)≠n+4 by lia),(show(n:Nat)≠n+4 by lia),(show(n+1:Nat)≠n+4 by lia),(show(n+2:Nat)≠n+3 by lia),(show(n+2:Nat)≠n by lia),(show(n+2:Nat)≠n+1 by lia),(show(n+3:Nat)≠n by lia),(show(n+3:Nat)≠n+1 by lia),(show(n:Nat)≠n+1 by lia),⟨(show(z:Nat)≠n+4 by lia),(show(z:Nat)≠n+3 by lia),(show(z:Nat)≠n by lia),(show(z:Nat)≠n+1 by lia)⟩,⟨(show(q:Nat)≠n+4 by lia),(show(q:Nat)≠n+3 by lia),(show(q:Nat)≠n by lia),(show(q:Nat)≠n+1 by lia)⟩⟩
def qat(K:zae)(ta:TA):TI:=λσ H R=>ta σ H λvs H1=>∃F B z q xs ys,vs=[.ref z,.ref q]/\BF K F H1 z xs/\BF K B H1 q ys/\R (ItZ K F B z q) H1
theorem V6{B:List Expr}{x1}(hg:Gl X "zip")(hm:X.mg "zip" = none)(ha:PA X [a,b] ta)(hs:zag [a,b] X.env=[(false,eval a X.env),(false,eval b X.env)]:=by rfl)(G:zag [b] X.env=[(false,eval b X.env)]:=by rfl) :
  PI X (.Tuple B x1 tp) (.Call (.Name "zip" p) [a,b] [] pos) (qat X.K ta):=by
 intro pins s σ H R I h;refine Call_ (lJ I hg hm My.boot_zip (zcP (cR (ha pos pins s σ H _ I h) λus z ⟨vs,H1,F,r1,N⟩=>?_) (by rw[hs,G]) (by rw[G];rfl)));obtain⟨t1,t2,l1,l2,xs,ys,rfl,N,q2,q⟩:=N;obtain⟨u,v,rfl,ru,rv⟩:=vals2 r1;cases ru;cases rv;obtain⟨ac,_,p1⟩:=iT F N;obtain⟨af,_,p2⟩:=iT F q2;have b1:l1<z.heap.objs.size:=by obtain⟨o,e,_⟩:=p1;exact zap e
 have b2:l2<z.heap.objs.size:=by obtain⟨o,e,_⟩:=p2;exact zap e
 refine KP p1 p2 λh' hz Y W U M k=>?_
 refine wpAny_pyIter_zip hz ?_;have D:ZA (z.heap.objs.size+4) (z.heap.objs.size+2) (z.heap.objs.size+3) z.heap.objs.size (z.heap.objs.size+1) l1 l2:=X0 _ _ _ b1 b2;refine⟨_,[_,_,_,_,_],_,_,H1,rfl,F.kept (t':=z.toks) k,K7 t1 t2 D,⟨hz,Y,⟨_,_,W⟩,U,M⟩,λc J=>F.fpOk ?_ (F.hok.fresh ?_),q⟩
 ·simp only[zaW,za0,or_false]at J
  rcases J with rfl|rfl|rfl|rfl|rfl <;> lia
 ·simp only[zaW,za0,or_false]at J
  rcases J with rfl|rfl|rfl|rfl|rfl <;> lia
end My
namespace P
open PySem PySem.Spec PyProof.Rows L2
inductive D where
 | non|bl (b:Bool)|int (i:Int)|str (x:Str)|tup (l:List D)|lst (l:List D)
 | dK (l:List (Key×D))|dT (l:List (List Key×D))
 | ob (C:Addr) (fs:List (Str×D))|mem (dom:List (Key×List Key)) (f:Key×List Key->Option (Int×Int))
abbrev Av:=Addr->Prop
section
variable (A:Av)(H:Hp)
mutual
/-- a heap bears a value that stays (the things that may still be written are in A) -/
inductive Rep:D->V->Prop where
 | non:Rep .non .non
 | bl (b:Bool):Rep (.bl b) (.bl b)
 | int (i:Int):Rep (.int i) (.int i)
 | str (x:Str):Rep (.str x) (.str x)
 | tup {l:List D} {a:Addr} {xs:List V} (h:H a=some (.tup xs)) (r:RepL l xs):Rep (.tup l) (.ref a)
 | lst {l:List D} {a:Addr} {xs:List V} (n:¬ A a) (h:Rd H a (.lst xs)) (r:RepL l xs):Rep (.lst l) (.ref a)
 | dK {l:List (Key×D)} {a:Addr} {xs:List (Key×V)} (n:¬ A a) (h:Rd H a (.dK xs)) (e:xs.map (·.1)=l.map (·.1)) (r:RepL (l.map (·.2)) (xs.map (·.2))):Rep (.dK l) (.ref a)
 | dT {l:List (List Key×D)} {a:Addr} {xs:List (List Key×V)} (n:¬ A a) (h:Rd H a (.dT xs)) (e:xs.map (·.1)=l.map (·.1)) (r:RepL (l.map (·.2)) (xs.map (·.2))):Rep (.dT l) (.ref a)
 | ob {C a dx:Addr} {fs:List (Str×D)} {vs:List (Str×V)} (n:¬ A a) (h:H a=some (.ins C dx vs)) (e:vs.map (·.1)=fs.map (·.1)) (r:RepL (fs.map (·.2)) (vs.map (·.2))):Rep (.ob C fs) (.ref a)
 | mem {dom:List (Key×List Key)} {f:Key×List Key->Option (Int×Int)} {a:Addr} (h:H a=some (.memo dom f none)):Rep (.mem dom f) (.ref a)
inductive RepL:List D->List V->Prop where
 | nil:RepL [] []
 | cons {d:D} {v:V} {ds:List D} {vs:List V} (h:Rep d v) (t:RepL ds vs):RepL (d::ds) (v::vs)
end
inductive RepB:D->V->Prop where
 | of {d:D} {v:V} (h:Rep A H d v):RepB d v
 | lst {l:List D} {a:Addr} {xs:List V} (h:Rd H a (.lst xs)) (r:RepL A H l xs):RepB (.lst l) (.ref a)
 | dK {l:List (Key×D)} {a:Addr} {xs:List (Key×V)} (h:Rd H a (.dK xs)) (e:xs.map (·.1)=l.map (·.1)) (r:RepL A H (l.map (·.2)) (xs.map (·.2))):RepB (.dK l) (.ref a)
 | dT {l:List (List Key×D)} {a:Addr} {xs:List (List Key×V)} (h:Rd H a (.dT xs)) (e:xs.map (·.1)=l.map (·.1)) (r:RepL A H (l.map (·.2)) (xs.map (·.2))):RepB (.dT l) (.ref a)
inductive Own:D->Addr->Prop where
 | lst {l:List D} {a:Addr} {xs:List V} (h:H a=some (.lst xs)) (r:RepL A H l xs):Own (.lst l) a
 | dK {l:List (Key×D)} {a:Addr} {xs:List (Key×V)} (h:H a=some (.dK xs)) (e:xs.map (·.1)=l.map (·.1)) (r:RepL A H (l.map (·.2)) (xs.map (·.2))):Own (.dK l) a
 | dT {l:List (List Key×D)} {a:Addr} {xs:List (List Key×V)} (h:H a=some (.dT xs)) (e:xs.map (·.1)=l.map (·.1)) (r:RepL A H (l.map (·.2)) (xs.map (·.2))):Own (.dT l) a
end
def Kp:HO->Prop
 | .tup _=>True | .lst _=>True | .ins _ _ _=>True | .memo _ _ _=>True|_=>False
structure Ext(A:Av)(H H':Hp):Prop where
 rd:∀b u,Rd H b u->Rd H' b u
 kp:∀b u,Kp u->H b=some u->H' b=some u
 ow:∀b u,A b->H b=some u->H' b=some u
 fz:∀b o u,H b=some (.frz o u)->H' b=some (.frz o u)
theorem Ext.refl(A:Av)(H:Hp):Ext A H H:=⟨λ_ _ h=>h,λ_ _ _ h=>h,λ_ _ _ h=>h,λ_ _ _ h=>h⟩
theorem Ext.trans(a:Ext A H H1)(b:Ext A H1 H2):Ext A H H2:=
 ⟨λc u h=>b.rd c u (a.rd c u h),λc u k h=>b.kp c u k (a.kp c u k h),λc u n h=>b.ow c u n (a.ow c u n h),λc o u h=>b.fz c o u (a.fz c o u h)⟩
theorem Ext.mono(h:Ext A H H')(s:∀a,A' a->A a):Ext A' H H':=⟨h.rd,h.kp,λb u n e=>h.ow b u (s b n) e,h.fz⟩
theorem Ext.same(h:Same H H'):Ext A H H':=
 ⟨λb u r=>by rcases r with r|⟨o,r⟩;exact .inl (h _ _ r);exact .inr ⟨o,h _ _ r⟩,λb u _ r=>h _ _ r,λb u _ r=>h _ _ r,λb o u r=>h _ _ r⟩
theorem Ext.tp(x:Ext A H H')(b:Addr)(xs:List V)(h:H b=some (.tup xs)):H' b=some (.tup xs):=x.kp b _ trivial h
theorem Ext.new(h:H p=none):Ext A H (upd H p o):=Ext.same (My.LS h)
mutual
theorem Rep.ext(x:Ext A H H'):Rep A H d v->Rep A H' d v
 | .non=>.non
 | .bl b=>.bl b
 | .int i=>.int i
 | .str s=>.str s
 | .tup h r=>.tup (x.tp _ _ h) (RepL.ext x r)
 | .lst n h r=>.lst n (x.rd _ _ h) (RepL.ext x r)
 | .dK n h e r=>.dK n (x.rd _ _ h) e (RepL.ext x r)
 | .dT n h e r=>.dT n (x.rd _ _ h) e (RepL.ext x r)
 | .ob n h e r=>.ob n (x.kp _ _ trivial h) e (RepL.ext x r)
 | .mem h=>.mem (x.kp _ _ trivial h)
theorem RepL.ext(x:Ext A H H'):RepL A H ds vs->RepL A H' ds vs
 | .nil=>.nil
 | .cons h t=>.cons (Rep.ext x h) (RepL.ext x t)
end
theorem RepB.ext(x:Ext A H H'):RepB A H d v->RepB A H' d v
 | .of h=>.of (h.ext x)
 | .lst h r=>.lst (x.rd _ _ h) (r.ext x)
 | .dK h e r=>.dK (x.rd _ _ h) e (r.ext x)
 | .dT h e r=>.dT (x.rd _ _ h) e (r.ext x)
theorem Own.ext(x:Ext A H H')(q:A a):Own A H d a->Own A H' d a
 | .lst h r=>.lst (x.ow _ _ q h) (r.ext x)
 | .dK h e r=>.dK (x.ow _ _ q h) e (r.ext x)
 | .dT h e r=>.dT (x.ow _ _ q h) e (r.ext x)
theorem Own.b:Own A H d a->RepB A H d (.ref a)
 | .lst h r=>.lst (.inl h) r
 | .dK h e r=>.dK (.inl h) e r
 | .dT h e r=>.dT (.inl h) e r
mutual
/-- avoid other things: those that were not there, or fewer -/
theorem Rep.av(x:∀a,A' a->A a\/H a=none):Rep A H d v->Rep A' H d v
 | .non=>.non
 | .bl b=>.bl b
 | .int i=>.int i
 | .str s=>.str s
 | .tup h r=>.tup h (RepL.av x r)
 | .lst n h r=>.lst (λz=>(x _ z).elim n λz=>by rcases h with h|⟨o,h⟩ <;> (rw[z]at h;cases h)) h (RepL.av x r)
 | .dK n h e r=>.dK (λz=>(x _ z).elim n λz=>by rcases h with h|⟨o,h⟩ <;> (rw[z]at h;cases h)) h e (RepL.av x r)
 | .dT n h e r=>.dT (λz=>(x _ z).elim n λz=>by rcases h with h|⟨o,h⟩ <;> (rw[z]at h;cases h)) h e (RepL.av x r)
 | .ob n h e r=>.ob (λz=>(x _ z).elim n λz=>by rw[z]at h;cases h) h e (RepL.av x r)
 | .mem h=>.mem h
theorem RepL.av(x:∀a,A' a->A a\/H a=none):RepL A H ds vs->RepL A' H ds vs
 | .nil=>.nil
 | .cons h t=>.cons (Rep.av x h) (RepL.av x t)
end
noncomputable def XY:HO->Prop
 | .lst _=>True | .dK _=>True | .dT _=>True|_=>False
theorem eV(n:b≠a)(h:Rd H b u):Rd (upd H a o) b u:=by
 rcases h with h|⟨x,h⟩
 ·exact .inl (by rw[aE n];exact h)
 ·exact .inr ⟨x,by rw[aE n];exact h⟩
mutual
theorem Rep.put(B:A a)(F:H a=some u)(q:XY u):Rep A H d v->Rep A (upd H a o) d v
 | .non=>.non
 | .bl b=>.bl b
 | .int i=>.int i
 | .str s=>.str s
 | .tup (a:=b) h r=>.tup (by rw[aE (λz=>by subst z;rw[F]at h;cases h;exact q)];exact h) (RepL.put B F q r)
 | .lst (a:=b) n h r=>.lst n (eV (λz=>n (by rw[z];exact B)) h) (RepL.put B F q r)
 | .dK (a:=b) n h e r=>.dK n (eV (λz=>n (by rw[z];exact B)) h) e (RepL.put B F q r)
 | .dT (a:=b) n h e r=>.dT n (eV (λz=>n (by rw[z];exact B)) h) e (RepL.put B F q r)
 | .ob (a:=b) n h e r=>.ob n (by rw[aE (λz=>by subst z;rw[F]at h;cases h;exact q)];exact h) e (RepL.put B F q r)
 | .mem (a:=b) h=>.mem (by rw[aE (λz=>by subst z;rw[F]at h;cases h;exact q)];exact h)
theorem RepL.put(z:A a)(q:H a=some u)(B:XY u):RepL A H ds vs->RepL A (upd H a o) ds vs
 | .nil=>.nil
 | .cons h t=>.cons (Rep.put z q B h) (RepL.put z q B t)
end
theorem Own.put{A:Av}{H:Hp}{a b:Addr}{o u:HO}(z:A a)(B:H a=some u)(q:XY u)(F:b≠a){d:D}:Own A H d b->Own A (upd H a o) d b
 | .lst h r=>.lst (by rw[aE F];exact h) (r.put z B q)
 | .dK h e r=>.dK (by rw[aE F];exact h) e (r.put z B q)
 | .dT h e r=>.dT (by rw[aE F];exact h) e (r.put z B q)
theorem Own.av(x:∀a,A' a->A a\/H a=none):Own A H d a->Own A' H d a
 | .lst h r=>.lst h (r.av x)
 | .dK h e r=>.dK h e (r.av x)
 | .dT h e r=>.dT h e (r.av x)
theorem Own.rep(n:¬ A a):Own A H d a->Rep A H d (.ref a)
 | .lst h r=>.lst n (.inl h) r
 | .dK h e r=>.dK n (.inl h) e r
 | .dT h e r=>.dT n (.inl h) e r
section
variable {A:Av}{H:Hp}
theorem RepL.length:∀ {ds:List D} {vs:List V},RepL A H ds vs->vs.length=ds.length
 | _,_,.nil=>rfl
 | _,_,.cons _ t=>by rw[zaz,zaz,RepL.length t]
theorem RepL.get:∀ {ds:List D} {vs:List V} {i:Nat} {v:V},RepL A H ds vs->vs[i]?=some v->∃d,ds[i]?=some d/\Rep A H d v
 | _,_,i,v,.nil,e=>by simp at e
 | _,_,0,v,.cons h t,e=>by simp at e;subst e;exact⟨_,rfl,h⟩
 | _,_,i+1,v,.cons h t,e=>RepL.get (i:=i) t (by simpa using e)
theorem RepL.get':∀ {ds:List D} {vs:List V} {i:Nat} {d:D},RepL A H ds vs->ds[i]?=some d->∃v,vs[i]?=some v/\Rep A H d v
 | _,_,i,v,.nil,e=>by simp at e
 | _,_,0,v,.cons h t,e=>by simp at e;subst e;exact⟨_,rfl,h⟩
 | _,_,i+1,v,.cons h t,e=>RepL.get' (i:=i) t (by simpa using e)
theorem RepL.append:∀ {ds es:List D} {vs us:List V},RepL A H ds vs->RepL A H es us->RepL A H (ds++es) (vs++us)
 | _,_,_,_,.nil,s=>s
 | _,_,_,_,.cons h t,s=>.cons h (RepL.append t s)
theorem RepL.take:∀ {ds:List D} {vs:List V} (n:Nat),RepL A H ds vs->RepL A H (ds.take n) (vs.take n)
 | _,_,0,_=>by simp;exact .nil
 | _,_,n+1,.nil=>.nil
 | _,_,n+1,.cons h t=>.cons h (RepL.take n t)
theorem RepL.drop:∀ {ds:List D} {vs:List V} (n:Nat),RepL A H ds vs->RepL A H (ds.drop n) (vs.drop n)
 | _,_,0,r=>r
 | _,_,n+1,.nil=>.nil
 | _,_,n+1,.cons h t=>RepL.drop n t
theorem RepL.set:∀ {ds:List D} {vs:List V} {d:D} {v:V} (n:Nat),Rep A H d v->RepL A H ds vs->RepL A H (ds.set n d) (vs.set n v)
 | _,_,_,_,_,_,.nil=>.nil
 | _,_,_,_,0,r,.cons h t=>.cons r t
 | _,_,_,_,n+1,r,.cons h t=>.cons h (RepL.set n r t)
theorem Rep.b(h:Rep A H d v):RepB A H d v:=.of h
theorem RepB.int_inv(h:RepB A H (.int i) v):v=.int i:=by cases h with|of h=>cases h;rfl
theorem RepB.bl_inv(h:RepB A H (.bl i) v):v=.bl i:=by cases h with|of h=>cases h;rfl
theorem RepB.str_inv(h:RepB A H (.str i) v):v=.str i:=by cases h with|of h=>cases h;rfl
theorem RepB.non_inv(h:RepB A H .non v):v=.non:=by cases h with|of h=>cases h;rfl
theorem RepB.tup_inv(h:RepB A H (.tup l) v):∃a xs,v=.ref a/\H a=some (.tup xs)/\RepL A H l xs:=by
 cases h with|of h=>cases h with|tup h r=>exact⟨_,_,rfl,h,r⟩
theorem RepB.ob_inv{C:Addr}{fs:List (Str×D)}{v:V}(h:RepB A H (.ob C fs) v):∃a dx vs,v=.ref a/\H a=some (.ins C dx vs)/\vs.map (·.1)=fs.map (·.1)/\RepL A H (fs.map (·.2)) (vs.map (·.2)):=by
 cases h with
 | of h=>cases h with
  | ob n h e r=>exact⟨_,_,_,rfl,h,e,r⟩
theorem RepB.mem_inv{dom:List (Key×List Key)}{f:Key×List Key->Option (Int×Int)}{v:V}(h:RepB A H (.mem dom f) v):∃a,v=.ref a/\H a=some (.memo dom f none):=by
 cases h with
 | of h=>cases h with
  | mem h=>exact⟨_,rfl,h⟩
theorem RepB.lst_inv(h:RepB A H (.lst l) v):∃a xs,v=.ref a/\Rd H a (.lst xs)/\RepL A H l xs:=by
 cases h with
 | of h=>cases h with|lst n h r=>exact⟨_,_,rfl,h,r⟩
 | lst h r=>exact⟨_,_,rfl,h,r⟩
theorem RepB.dK_inv(h:RepB A H (.dK l) v):∃a xs,v=.ref a/\Rd H a (.dK xs)/\xs.map (·.1)=l.map (·.1)/\RepL A H (l.map (·.2)) (xs.map (·.2)):=by
 cases h with
 | of h=>cases h with|dK n h e r=>exact⟨_,_,rfl,h,e,r⟩
 | dK h e r=>exact⟨_,_,rfl,h,e,r⟩
theorem RepB.dT_inv(h:RepB A H (.dT l) v):∃a xs,v=.ref a/\Rd H a (.dT xs)/\xs.map (·.1)=l.map (·.1)/\RepL A H (l.map (·.2)) (xs.map (·.2)):=by
 cases h with
 | of h=>cases h with|dT n h e r=>exact⟨_,_,rfl,h,e,r⟩
 | dT h e r=>exact⟨_,_,rfl,h,e,r⟩
end
abbrev cU:=List (Option D)
inductive Fact where
 | rep (d:D) (v:V)|fz (a:Addr) (o:Obj) (u:HO)
def Fact.Holds(A:Av)(H:Hp):Fact->Prop
 | .rep d v=>Rep A H d v
 | .fz a o u=>H a=some (.frz o u)
theorem Fact.ext(x:Ext A H H'):∀ {p:Fact},p.Holds A H->p.Holds A H'
 | .rep _ _,h=>Rep.ext x h
 | .fz _ _ _,h=>x.fz _ _ _ h
theorem Fact.av(x:∀a,A' a->A a\/H a=none):∀ {p:Fact},p.Holds A H->p.Holds A' H
 | .rep _ _,h=>Rep.av x h
 | .fz _ _ _,h=>h
theorem Fact.put(G:A a)(F:H a=some u)(B:XY u):∀ {p:Fact},p.Holds A H->p.Holds A (upd H a o)
 | .rep _ _,h=>Rep.put G F B h
 | .fz b q w,h=>by
  have h:H b=some (.frz q w):=h;show upd H a o b=some (.frz q w);rw[aE (λz=>by subst z;rw[F]at h;cases h;exact B)];exact h
structure ST(H0:Hp)(A0 A:Av)(E:List Fact)(O:List Nat)(σ:L2.St)(H:Hp)(ρ:cU):Prop where
 ex:Ext A0 H0 H
 sub:∀a,A0 a->A a
 l0:∀a,A0 a->H0 a≠none
 live:∀a,A a->H a≠none
 len:σ.length=ρ.length
 val:∀i d,ρ[i]?=some (some d)->i∉O->∃v,σ[i]?=some (some v)/\Rep A H d v
 own:∀i d,ρ[i]?=some (some d)->i∈O->∃a,σ[i]?=some (some (.ref a))/\A a/\H0 a=none/\Own A H d a
 inj:∀i j d d' a,i∈O->j∈O->ρ[i]?=some (some d)->ρ[j]?=some (some d')->σ[i]?=some (some (.ref a))->σ[j]?=some (some (.ref a))->i=j
 ext:∀p∈E,p.Holds A H
section
variable {H0:Hp}{A0 A:Av}{E:List Fact}{O:List Nat}{σ:L2.St}{H H':Hp}{ρ:cU}
theorem ST.mono(s:ST H0 A0 A E O σ H ρ)(x:Ext A H H'):ST H0 A0 A E O σ H' ρ where
 ex:=s.ex.trans (x.mono s.sub)
 sub:=s.sub
 l0:=s.l0
 live:=λa q=>by
  have:=s.live a q;cases e:H a with
  | none=>exact absurd e this
  | some u=>rw[x.ow a u q e];exact λz=>nomatch z
 len:=s.len
 val:=λi d h n=>by obtain⟨v,h1,h2⟩:=s.val i d h n;exact⟨v,h1,h2.ext x⟩
 own:=λi d h n=>by obtain⟨a,h1,h2,B,G⟩:=s.own i d h n;exact⟨a,h1,h2,B,G.ext x h2⟩
 inj:=s.inj
 ext:=λp F=>Fact.ext x (s.ext p F)
theorem ST.more(s:ST H0 A0 A E O σ H ρ)(h:Rep A H d v):ST H0 A0 A (.rep d v::E) O σ H ρ:=
 {s with ext:=λp q=>by rcases List.mem_cons.mp q with e|e;rw[e];exact h;exact s.ext p e}
theorem ST.less(s:ST H0 A0 A E O σ H ρ)(h:∀p∈E',p∈E):ST H0 A0 A E' O σ H ρ:=
 {s with ext:=λp q=>s.ext p (h p q)}
theorem eT(h:(ρ.set i o)[j]?=some (some d)):(j=i/\o=some d/\i<ρ.length)\/(j≠i/\ρ[j]?=some (some d)):=by
 rw[List.getElem?_set]at h;by_cases e:i=j
 ·rw[if_pos e]at h
  by_cases l:i<ρ.length
  ·rw[if_pos l]at h
   exact .inl ⟨e.symm,zay h,l⟩
  ·rw[if_neg l]at h;cases h
 ·rw[if_neg e]at h
  exact .inr ⟨λz=>e z.symm,h⟩
theorem sig_set(h:i<σ.length):(σ.set i (some v))[i]?=some (some v):=by simp[h]
theorem lL(h:j≠i):(σ.set i (some v))[j]?=σ[j]?:=by rw[zbO (zaU h)]
theorem ST.put(s:ST H0 A0 A E O σ H ρ)(h:Rep A H d v)(n:i∉O):ST H0 A0 A E O (σ.set i (some v)) H (ρ.set i (some d)) where
 ex:=s.ex
 sub:=s.sub
 l0:=s.l0
 live:=s.live
 len:=by simp[s.len]
 val:=λj d' h' B=>by
  rcases eT h' with⟨e,q,l⟩|⟨e,q⟩
  ·subst e;cases q;exact⟨v,sig_set (by rw[s.len];exact l),h⟩
  ·obtain⟨w,h1,h2⟩:=s.val j d' q B;exact⟨w,by rw[lL e];exact h1,h2⟩
 own:=λj d' h' B=>by
  rcases eT h' with⟨e,q,l⟩|⟨e,q⟩
  ·subst e;exact absurd B n
  ·obtain⟨w,h1,h2⟩:=s.own j d' q B;exact⟨w,by rw[lL e];exact h1,h2⟩
 inj:=λj k W Y a G N h1 h2 F M=>by
  have J:j≠i:=λz=>n (z ▸ G)
  have U:k≠i:=λz=>n (z ▸ N)
  rcases eT h1 with⟨e,_⟩|⟨_,h1⟩
  ·exact absurd e J
  rcases eT h2 with⟨e,_⟩|⟨_,h2⟩
  ·exact absurd e U
  exact s.inj j k W Y a G N h1 h2 (by rw[lL J]at F;exact F) (by rw[lL U]at M;exact M)
 ext:=s.ext
theorem ST.shut(s:ST H0 A0 A E O σ H ρ)(h:∀i,i∈O'->i∈O):∃A',ST H0 A0 A' E O' σ H ρ:=by
 let F:Av:=λa=>∃i d,i∈O/\i∉O'/\ρ[i]?=some (some d)/\σ[i]?=some (some (.ref a))
 have cut:∀a,(A a/\¬ F a)->A a\/H a=none:=λa z=>.inl z.1
 refine⟨λa=>A a/\¬ F a,s.ex,λa G=>⟨s.sub a G,?_⟩,s.l0,λa G=>s.live a G.1,s.len,λi d hi n=>?_,λi d hi n=>?_,λi j d d' a hi Y=>s.inj i j d d' a (h i hi) (h j Y),λp hp=>Fact.av cut (s.ext p hp)⟩
 ·rintro⟨i,d,h1,h2,N,U⟩
  obtain⟨b,q,B,M,J⟩:=s.own i d N h1;rw[U]at q;cases q;exact s.l0 a G M
 ·by_cases W:i∈O
  ·obtain⟨a,q,B,M,J⟩:=s.own i d hi W
   exact⟨.ref a,q,(J.av cut).rep λz=>z.2 ⟨i,d,W,n,hi,q⟩⟩
  ·obtain⟨v,q,B⟩:=s.val i d hi W
   exact⟨v,q,B.av cut⟩
 ·obtain⟨a,q,B,M,J⟩:=s.own i d hi (h i n)
  refine⟨a,q,⟨B,?_⟩,M,J.av cut⟩;rintro⟨j,d',h1,h2,N,U⟩;have:=s.inj i j d d' a (h i n) h1 hi N q U;subst this;exact h2 n
end
abbrev Ev:=cU->Option D
abbrev Bv:=cU->Option Bool
abbrev Lv:=cU->Option (List D)
abbrev RR:=Av->Hp->D->V->Prop
inductive tD(R:RR)(O:List Nat)(f:Ev)(σ:L2.St)(H:Hp)(Q:VK):Prop
 | mk (H0:Hp) (A0 A:Av) (E:List Fact) (ρ:cU) (d:D) (st:ST H0 A0 A E O σ H ρ) (e:f ρ=some d) (q:∀v H',Ext A H H'->R A H' d v->Q v H'):tD R O f σ H Q
inductive tDT(O:List Nat)(g:Bv)(σ:L2.St)(H:Hp)(Q:Bool->Hp->Prop):Prop
 | mk (H0:Hp) (A0 A:Av) (E:List Fact) (ρ:cU) (b:Bool) (st:ST H0 A0 A E O σ H ρ) (e:g ρ=some b) (q:∀H',Ext A H H'->Q b H'):tDT O g σ H Q
def PD(X:Cx)(O:List Nat)(e:Expr)(f:Ev):Prop:=PE X e (tD Rep O f)
def PB(X:Cx)(O:List Nat)(e:Expr)(f:Ev):Prop:=PE X e (tD RepB O f)
def uS(X:Cx)(O:List Nat)(e:Expr)(g:Bv):Prop:=PT X e (tDT O g)
def PDW(X:Cx)(O:List Nat)(e:Expr)(g:Bv):Prop:=PW X e (tDT O g)
theorem PDW.pt(h:PDW X O e g):uS X O e g:=PW.pt h
inductive RL(R:RR)(A:Av)(H:Hp):List D->List V->Prop where
 | nil:RL R A H [] []
 | cons {d v ds vs} (h:R A H d v) (t:RL R A H ds vs):RL R A H (d::ds) (v::vs)
inductive tDA(R:RR)(O:List Nat)(f:Lv)(σ:L2.St)(H:Hp)(Q:List V->Hp->Prop):Prop
 | mk (H0:Hp) (A0 A:Av) (E:List Fact) (ρ:cU) (ds:List D) (st:ST H0 A0 A E O σ H ρ) (e:f ρ=some ds) (q:∀vs H',Ext A H H'->RL R A H' ds vs->Q vs H'):tDA R O f σ H Q
def yF(X:Cx)(O:List Nat)(es:List Expr)(f:Lv):Prop:=PA X es (tDA Rep O f)
def v9(X:Cx)(O:List Nat)(es:List Expr)(f:Lv):Prop:=PA X es (tDA RepB O f)
section
variable {X:Cx}{O:List Nat}
theorem PE.mono(h:PE X e t)(x:∀σ H Q,t' σ H Q->t σ H Q):PE X e t':=λpins s σ H Q I w=>h pins s σ H Q I (x σ H Q w)
theorem PT.mono(h:PT X e t)(x:∀σ H Q,t' σ H Q->t σ H Q):PT X e t':=λpins s σ H Q I w=>h pins s σ H Q I (x σ H Q w)
theorem PW.mono(h:PW X e t)(x:∀σ H Q,t' σ H Q->t σ H Q):PW X e t':=λq pins s σ H Q I w=>h q pins s σ H Q I (x σ H Q w)
theorem PA.mono(h:PA X es t)(x:∀σ H Q,t' σ H Q->t σ H Q):PA X es t':=λpos pins s σ H Q I w=>h pos pins s σ H Q I (x σ H Q w)
theorem PD.b{e:Expr}{f:Ev}(h:PD X O e f):PB X O e f:=PE.mono h λσ H Q ⟨H0,A0,A,E,ρ,d,st,e,q⟩=>⟨H0,A0,A,E,ρ,d,st,e,λv H' x r=>q v H' x (.of r)⟩
theorem RL.toL:∀ {ds:List D} {vs:List V},RL Rep A H ds vs->RepL A H ds vs
 | _,_,.nil=>.nil
 | _,_,.cons h t=>.cons h (RL.toL t)
def aD(i:Nat):Ev:=λρ=>(ρ[i]?).join
def eC(d:D):Ev:=λ_=>some d
theorem bW{ρ:cU}{i:Nat}{d:D}(h:(ρ[i]?).join=some d):ρ[i]?=some (some d):=by
 cases e:ρ[i]? with
 | none=>rw[e]at h;cases h
 | some o=>rw[e]at h;cases o with
  | none=>cases h
  | some x=>cases h;rfl
theorem tK{e:Expr}(i:Nat)(h:PE X e (c7 i))(n:i∉O):PD X O e (aD i):=PE.mono h <| by
 rintro σ H Q ⟨H0,A0,A,E,ρ,d,st,e,q⟩;obtain⟨v,z,r⟩:=st.val i d (bW e) n;exact⟨v,z,q v H (Ext.refl _ _) r⟩
theorem U0{e:Expr}(i:Nat)(h:PE X e (c7 i)):PB X O e (aD i):=PE.mono h <| by
 rintro σ H Q ⟨H0,A0,A,E,ρ,d,st,e,q⟩;by_cases n:i∈O
 ·obtain⟨a,z,_,_,r⟩:=st.own i d (bW e) n
  exact⟨_,z,q _ H (Ext.refl _ _) r.b⟩
 ·obtain⟨v,z,r⟩:=st.val i d (bW e) n
  exact⟨v,z,q v H (Ext.refl _ _) (.of r)⟩
theorem U3{i j pos}:PD X O (.Constant (.int i) j pos) (eC (.int i)):=PE.mono WQ λσ H Q ⟨H0,A0,A,E,ρ,d,st,e,q⟩=>by cases e;exact q _ H (Ext.refl _ _) (.int _)
theorem ZD{i j pos}:PD X O (.Constant (.bool i) j pos) (eC (.bl i)):=PE.mono YF λσ H Q ⟨H0,A0,A,E,ρ,d,st,e,q⟩=>by cases e;exact q _ H (Ext.refl _ _) (.bl _)
theorem UU{i j pos}:PD X O (.Constant (.str i) j pos) (eC (.str i)):=PE.mono WB λσ H Q ⟨H0,A0,A,E,ρ,d,st,e,q⟩=>by cases e;exact q _ H (Ext.refl _ _) (.str _)
theorem VY{j pos}:PD X O (.Constant .none j pos) (eC .non):=PE.mono W5 λσ H Q ⟨H0,A0,A,E,ρ,d,st,e,q⟩=>by cases e;exact q _ H (Ext.refl _ _) .non
def Live(A:Av)(H:Hp):Prop:=∀a,A a->H a≠none
theorem Live.ext(l:Live A H)(x:Ext A H H'):Live A H':=λa q=>by
 cases e:H a with
 | none=>exact absurd e (l a q)
 | some u=>rw[x.ow a u q e];exact λz=>nomatch z
inductive rD(g:D->D->Option D)(x y:V)(H:Hp)(Q:VK):Prop
 | mk (A:Av) (dx dy d:D) (lv:Live A H) (rx:RepB A H dx x) (ry:RepB A H dy y) (e:g dx dy=some d) (q:∀v H',Ext A H H'->Rep A H' d v->Q v H'):rD g x y H Q
def lQ(X:Cx)(f:Value->Value->Sem Value)(g:D->D->Option D):Prop:=OpR X f (rD g)
theorem OpR.mono(h:OpR X f r)(x:∀a b H Q,r' a b H Q->r a b H Q):OpR X f r':=λpins s σ H a b v u Q I z q w=>h pins s σ H a b v u Q I z q (x a b H Q w)
def a7(g:D->D->Option D)(q fb:Ev):Ev:=λρ=>(q ρ).bind λx=>(fb ρ).bind λy=>g x y
theorem bind_some{q β:Type}{o:Option q}{f:q->Option β}{b:β}(h:o.bind f=some b):∃a,o=some a/\f a=some b:=by
 cases o with
 | none=>cases h
 | some a=>exact⟨a,rfl,h⟩
theorem yB{g:D->D->Option D}{G fb:Ev}{σ:L2.St}{H:Hp}{Q:VK}(h:tD Rep O (a7 g G fb) σ H Q):qt (rD g) (tD RepB O G) (tD RepB O fb) σ H Q:=by
 obtain⟨H0,A0,A,E,ρ,d,st,e,q⟩:=h;obtain⟨x,ex,e⟩:=bind_some e;obtain⟨y,M,e⟩:=bind_some e;exact⟨H0,A0,A,E,ρ,x,st,ex,λv H1 B r1=>⟨H0,A0,A,E,ρ,y,st.mono B,M,λw H2 F r2=>⟨A,x,y,d,(st.mono (B.trans F)).live,r1.ext F,r2,e,λz J N r3=>q z J ((B.trans F).trans N) r3⟩⟩⟩
theorem bN(z:lQ X (zaM op) g)(q:PB X O a fa)(B:PB X O b fb):PD X O (.BinOp a op b pos) (a7 g fa fb):=
 PE.mono (Y9 z q B) λσ H Q h=>yB h
theorem UW(B:lQ X (zaC op) g)(q:PB X O a fa)(F:PB X O b fb)(z:zbP op b=false):PD X O (.Compare a [op] [b] pos) (a7 g fa fb):=
 PE.mono (OB B q F z) λσ H Q h=>yB h
noncomputable def SK:D->Option Bool
 | .bl b=>some b
 | _=>none
theorem sT(h:SK d=some b):d=.bl b:=by
 cases d <;> cases h;rfl
def nO(f:Ev):Bv:=λρ=>(f ρ).bind SK
theorem yZ{f:Ev}{σ:L2.St}{H:Hp}{Q:Bool->Hp->Prop}(h:tDT O (nO f) σ H Q):tD Rep O f σ H λx H'=>∃k,x=.bl k/\Q k H':=by
 obtain⟨H0,A0,A,E,ρ,b,st,e,q⟩:=h;obtain⟨x,ex,e⟩:=bind_some e;rw[sT e]at ex;exact⟨H0,A0,A,E,ρ,_,st,ex,λv H1 z r1=>⟨b,RepB.bl_inv (.of r1),q H1 z⟩⟩
theorem FK(B:lQ X (zaC op) g)(q:PB X O a fa)(F:PB X O b fb)(z:zbP op b=false):uS X O (.Compare a [op] [b] pos) (nO (a7 g fa fb)):=
 PT.mono (N6 B q F z) λσ H Q h=>yB (yZ h)
theorem OX(h:PD X O e f)(z:∀q,isTrue e X.env q=(do let v <- q;standAt e.pos;zch [v] (truthy v)):=by intro _;rfl):uS X O e (nO f):=
 PT.mono (W1 h z) λσ H Q h=>yZ h
def NV(g:Bv):Bv:=λρ=>(g ρ).map (!·)
def JA(g h:Bv):Bv:=λρ=>(g ρ).bind λb=>if b=true then h ρ else some false
def TZ(g h:Bv):Bv:=λρ=>(g ρ).bind λb=>if b=true then some true else h ρ
theorem O6(h:uS X O a g):uS X O (.UnaryOp .Not a pos) (NV g):=PT.mono (U8 h) <| by
 rintro σ H Q ⟨H0,A0,A,E,ρ,b,st,e,q⟩;unfold NV at e;cases z:g ρ with
 | none=>rw[z]at e;cases e
 | some c=>rw[z]at e;cases e;exact⟨H0,A0,A,E,ρ,c,st,z,q⟩
theorem K5(h:uS X O a g):PDW X O (.BoolOp .And [a] pos) g:=RP h
theorem P2(h:uS X O a g):PDW X O (.BoolOp .Or [a] pos) g:=VD h
theorem RN{a b:Expr}{rest:List Expr}{pos:Pos}{g k:Bv}(B:uS X O a g)(F:PDW X O (.BoolOp .And (b::rest) pos) k):PDW X O (.BoolOp .And (a::b::rest) pos) (JA g k):=
 PW.mono (V3 B F) <| by
  rintro σ H Q ⟨H0,A0,A,E,ρ,b,st,e,q⟩;obtain⟨x,ex,e⟩:=bind_some e;refine⟨H0,A0,A,E,ρ,x,st,ex,λH1 z=>?_⟩;cases x with
  | false=>rw[if_neg zaA]at e ⊢;cases e;exact q H1 z
  | true=>rw[if_pos rfl]at e ⊢;exact⟨H0,A0,A,E,ρ,b,st.mono z,e,λH2 G=>q H2 (z.trans G)⟩
theorem U5{a b:Expr}{rest:List Expr}{pos:Pos}{g k:Bv}(B:uS X O a g)(F:PDW X O (.BoolOp .Or (b::rest) pos) k):PDW X O (.BoolOp .Or (a::b::rest) pos) (TZ g k):=
 PW.mono (Y2 B F) <| by
  rintro σ H Q ⟨H0,A0,A,E,ρ,b,st,e,q⟩;obtain⟨x,ex,e⟩:=bind_some e;refine⟨H0,A0,A,E,ρ,x,st,ex,λH1 z=>?_⟩;cases x with
  | true=>rw[if_pos rfl]at e ⊢;cases e;exact q H1 z
  | false=>rw[if_neg zaA]at e ⊢;exact⟨H0,A0,A,E,ρ,b,st.mono z,e,λH2 G=>q H2 (z.trans G)⟩
def NR(f g:Ev):Ev:=λρ=>(f ρ).bind λx=>(SK x).bind λb=>if b=true then g ρ else some (.bl false)
def qr(f:Ev):Ev:=λρ=>(f ρ).bind λx=>(SK x).map λb=>.bl (!b)
def XH(c:Bv)(f g:Ev):Ev:=λρ=>(c ρ).bind λb=>if b=true then f ρ else g ρ
theorem V9{op}(h:PD X O a f):PD X O (.BoolOp op [a] pos) f:=V2 h
theorem UB{a b:Expr}{rest:List Expr}{pos:Pos}{f g:Ev}(F:PD X O a f)(J:PD X O (.BoolOp .And (b::rest) pos) g):PD X O (.BoolOp .And (a::b::rest) pos) (NR f g):=
 PE.mono (UC F J) <| by
  rintro σ H Q ⟨H0,A0,A,E,ρ,d,st,e,q⟩;obtain⟨x,ex,e⟩:=bind_some e;obtain⟨b,B,e⟩:=bind_some e;rw[sT B]at ex;refine⟨H0,A0,A,E,ρ,_,st,ex,λv H1 z r1=>⟨b,RepB.bl_inv (.of r1),?_⟩⟩;cases b with
  | false=>rw[if_neg zaA]at e ⊢;cases e;exact q _ H1 z (.bl _)
  | true=>rw[if_pos rfl]at e ⊢;exact⟨H0,A0,A,E,ρ,d,st.mono z,e,λw H2 G=>q w H2 (z.trans G)⟩
theorem VA{a:Expr}{pos:Pos}{f:Ev}(B:PD X O a f):PD X O (.UnaryOp .Not a pos) (qr f):=
 PE.mono (U4 B) <| by
  rintro σ H Q ⟨H0,A0,A,E,ρ,d,st,e,q⟩;obtain⟨x,ex,e⟩:=bind_some e;cases z:SK x with
  | none=>rw[z]at e;cases e
  | some b=>
   rw[z]at e;cases e;rw[sT z]at ex;exact⟨H0,A0,A,E,ρ,_,st,ex,λv H1 F r1=>⟨b,RepB.bl_inv (.of r1),q _ H1 F (.bl _)⟩⟩
theorem S3{c a b:Expr}{pos:Pos}{g:Bv}{f k:Ev}(J:uS X O c g)(G:PD X O a f)(M:PD X O b k):PD X O (.IfExp c a b pos) (XH g f k):=
 PE.mono (JR J G M) <| by
  rintro σ H Q ⟨H0,A0,A,E,ρ,d,st,e,q⟩;obtain⟨b,F,e⟩:=bind_some e;refine⟨H0,A0,A,E,ρ,b,st,F,λH1 z=>?_⟩;cases b with
  | true=>rw[if_pos rfl]at e ⊢;exact⟨H0,A0,A,E,ρ,d,st.mono z,e,λw H2 B=>q w H2 (z.trans B)⟩
  | false=>rw[if_neg zaA]at e ⊢;exact⟨H0,A0,A,E,ρ,d,st.mono z,e,λw H2 B=>q w H2 (z.trans B)⟩
end
section
variable {X:Cx}{O:List Nat}
def aY:Lv:=λ_=>some []
def aC(f:Ev)(g:Lv):Lv:=λρ=>(f ρ).bind λx=>(g ρ).bind λxs=>some (x::xs)
theorem Q5:yF X O [] aY:=PA.mono fO λσ H Q ⟨H0,A0,A,E,ρ,d,st,e,q⟩=>by cases e;exact q [] H (Ext.refl _ _) .nil
theorem FV:v9 X O [] aY:=PA.mono fO λσ H Q ⟨H0,A0,A,E,ρ,d,st,e,q⟩=>by cases e;exact q [] H (Ext.refl _ _) .nil
theorem AU(G:∀A H H' d v,Ext A H H'->R A H d v->R A H' d v)(h:tDA R O (aC f g) σ H Q):v8 (tD R O f) (tDA R O g) σ H Q:=by
 obtain⟨H0,A0,A,E,ρ,d,st,e,q⟩:=h;obtain⟨x,ex,e⟩:=bind_some e;obtain⟨xs,z,e⟩:=bind_some e;cases e;exact⟨H0,A0,A,E,ρ,x,st,ex,λv H1 B r1=>⟨H0,A0,A,E,ρ,xs,st.mono B,z,λvs H2 F r2=>q (v::vs) H2 (B.trans F) (.cons (G _ _ _ _ _ F r1) r2)⟩⟩
theorem J3(q:PD X O e f)(z:yF X O es g)(hs:zag (e::es) X.env=(false,eval e X.env)::zag es X.env:=by rfl):yF X O (e::es) (aC f g):=
 PA.mono (cV q z hs) λσ H Q h=>AU (λ_ _ _ _ _ x r=>r.ext x) h
theorem zK(q:PB X O e f)(z:v9 X O es g)(hs:zag (e::es) X.env=(false,eval e X.env)::zag es X.env:=by rfl):v9 X O (e::es) (aC f g):=
 PA.mono (cV q z hs) λσ H Q h=>AU (λ_ _ _ _ _ x r=>r.ext x) h
inductive tF(O:List Nat)(f:Ev)(σ:L2.St)(H:Hp)(Q:VK):Prop
 | mk (H0:Hp) (A0 A:Av) (E:List Fact) (ρ:cU) (d:D) (st:ST H0 A0 A E O σ H ρ) (e:f ρ=some d) (q:∀a H',Ext A H H'->H a=none->¬ A a->Own (λb=>A b\/b=a) H' d a->Q (.ref a) H'):tF O f σ H Q
def PF(X:Cx)(O:List Nat)(e:Expr)(f:Ev):Prop:=PE X e (tF O f)
theorem PF.d(h:PF X O e f):PD X O e f:=PE.mono h λσ H Q ⟨H0,A0,A,E,ρ,d,st,e,q⟩=>
 ⟨H0,A0,A,E,ρ,d,st,e,λa H' x n z o=>q _ H' x ((o.av (A':=A) λb B=>.inl (.inl B)).rep z)⟩
theorem RepL.fresh(n:H p=none)(r:RepL A H ds vs):RepL (λb=>A b\/b=p) (upd H p o) ds vs:=by
 have r1:RepL (λb=>A b\/b=p) H ds vs:=r.av λb q=>by
  rcases q with q|q
  ·exact .inl q
  ·exact .inr (q ▸ n)
 exact r1.ext (Ext.new n)
theorem Ext.free(x:Ext A H H')(n:H' p=none):H p=none:=by
 cases e:H p with
 | none=>rfl
 | some u=>rcases x.rd p u (.inl e)with h|⟨o,h⟩ <;> (rw[n]at h;cases h)
def eX(g:Lv):Ev:=λρ=>(g ρ).map .tup
def N0(g:Lv):Ev:=λρ=>(g ρ).map .lst
theorem RL.length:∀ {ds:List D} {vs:List V},RL R A H ds vs->vs.length=ds.length
 | _,_,.nil=>rfl
 | _,_,.cons _ t=>by rw[zaz,zaz,RL.length t]
noncomputable def aZ(n:Nat):Bool:=decide (n<=1000000)
theorem gJ(h:aZ n=true):n<=zaj:=zaL (of_decide_eq_true h) (by decide)
theorem iN(h:aZ n=true):n<zaj:=zcU (of_decide_eq_true h) (by decide)
theorem map_some{q β:Type}{o:Option q}{f:q->β}{b:β}(h:o.map f=some b):∃a,o=some a/\f a=b:=by
 cases o with
 | none=>cases h
 | some a=>exact⟨a,rfl,zay h⟩
def Len(g:Lv)(n:Nat):Prop:=∀ρ ds,g ρ=some ds->ds.length=n
theorem RO:Len aY 0:=λρ ds h=>by cases h;rfl
theorem L0(h:Len g n):Len (aC f g) (n+1):=λρ ds e=>by
 obtain⟨x,ex,e⟩:=bind_some e;obtain⟨xs,q,e⟩:=bind_some e;cases e;rw[zaz,h ρ xs q]
theorem oB{es:List Expr}{z}{pos:Pos}{g:Lv}(h:yF X O es g)(G:∀ρ ds,g ρ=some ds->ds.length<=100):PD X O (.Tuple es z pos) (eX g):=PE.mono (WO h) <| by
 rintro σ H Q ⟨H0,A0,A,E,ρ,d,st,e,q⟩;obtain⟨ds,F,rfl⟩:=map_some e;refine⟨H0,A0,A,E,ρ,ds,st,F,λvs H1 z r1=>⟨by rw[r1.length];exact zaL (G ρ ds F) (by decide),λp B=>?_⟩⟩;exact q _ _ (z.trans (Ext.new B)) (.tup aH (r1.toL.ext (Ext.new B)))
theorem UK{es:List Expr}{pos:Pos}{g:Lv}(h:yF X O es g)(J:∀ρ ds,g ρ=some ds->ds.length<=100):PF X O (.List es pos) (N0 g):=PE.mono (UQ h) <| by
 rintro σ H Q ⟨H0,A0,A,E,ρ,d,st,e,q⟩;obtain⟨ds,G,rfl⟩:=map_some e;refine⟨H0,A0,A,E,ρ,ds,st,G,λvs H1 F r1=>⟨by rw[r1.length];exact zaL (J ρ ds G) (by decide),λp B=>?_⟩⟩;exact q p _ (F.trans (Ext.new B)) (F.free B) (λz=>(st.mono F).live p z B) (.lst aH (r1.toL.fresh B))
inductive rC(g:List D->Option D)(xs:List V)(H:Hp)(Q:VK):Prop
 | mk (A:Av) (ds:List D) (d:D) (lv:Live A H) (r:RL RepB A H ds xs) (e:g ds=some d) (q:∀v H',Ext A H H'->Rep A H' d v->Q v H'):rC g xs H Q
inductive rCF(g:List D->Option D)(xs:List V)(H:Hp)(Q:VK):Prop
 | mk (A:Av) (ds:List D) (d:D) (lv:Live A H) (r:RL RepB A H ds xs) (e:g ds=some d) (q:∀a H',Ext A H H'->H a=none->¬ A a->Own (λb=>A b\/b=a) H' d a->Q (.ref a) H'):rCF g xs H Q
def j9(X:Cx)(f:Value)(g:List D->Option D):Prop:=CallR X f (rC g)
def GG(X:Cx)(f:Value)(g:List D->Option D):Prop:=CallR X f (rCF g)
theorem CallR.mono(h:CallR X f r)(x:∀a H Q,r' a H Q->r a H Q):CallR X f r':=λpins s σ H a v Q I q w=>h pins s σ H a v Q I q (x a H Q w)
def aT(g:List D->Option D)(f:Lv):Ev:=λρ=>(f ρ).bind g
theorem vO(h:tD Rep O (aT g f) σ H Q):tCB (rC g) (tDA RepB O f) σ H Q:=by
 obtain⟨H0,A0,A,E,ρ,d,st,e,q⟩:=h;obtain⟨ds,B,e⟩:=bind_some e;exact⟨H0,A0,A,E,ρ,ds,st,B,λvs H1 z r1=>⟨A,ds,d,(st.mono z).live,r1,e,λv H2 F r2=>q v H2 (z.trans F) r2⟩⟩
theorem HZ(h:tF O (aT g f) σ H Q):tCB (rCF g) (tDA RepB O f) σ H Q:=by
 obtain⟨H0,A0,A,E,ρ,d,st,e,q⟩:=h;obtain⟨ds,F,e⟩:=bind_some e;exact⟨H0,A0,A,E,ρ,ds,st,F,λvs H1 z r1=>⟨A,ds,d,(st.mono z).live,r1,e,λa H2 G n B o=>q a H2 (z.trans G) (z.free n) B o⟩⟩
section
variable {x:Str}{id T:String}{g:List D->Option D}{e:Expr}{es:List Expr}{f:Lv}{p pos:Pos}
theorem KY(M:j9 X (.builtin id) g)(F:Gl X x)(J:X.mg x=none)(U:zaH x=some (.builtin id))(G:v9 X O (e::es) f)(B:x ≠ "__name__" := by decide)(q:(x == ("__debug__" : Str))=false:=by decide)
  (N:zag (e::es) X.env=(false,eval e X.env)::zag es X.env:=by rfl) (z:(zaG pos (zag es X.env)).any (·.1)=false:=by rfl) :
  PD X O (.Call (.Name x p) (e::es) [] pos) (aT g f):=PE.mono (AE M F J U G B q N z) λσ H Q h=>vO h
theorem HC(M:j9 X (.type T) g)(F:Gl X x)(J:X.mg x=none)(U:zaH x=some (.type T))(G:v9 X O (e::es) f)(B:x ≠ "__name__" := by decide)(q:(x == ("__debug__" : Str))=false:=by decide)
  (N:zag (e::es) X.env=(false,eval e X.env)::zag es X.env:=by rfl) (z:(zaG pos (zag es X.env)).any (·.1)=false:=by rfl) :
  PD X O (.Call (.Name x p) (e::es) [] pos) (aT g f):=PE.mono (kE M F J U G B q N z) λσ H Q h=>vO h
theorem IN(M:GG X (.type T) g)(F:Gl X x)(J:X.mg x=none)(U:zaH x=some (.type T))(G:v9 X O (e::es) f)(B:x ≠ "__name__" := by decide)(q:(x == ("__debug__" : Str))=false:=by decide)
  (N:zag (e::es) X.env=(false,eval e X.env)::zag es X.env:=by rfl) (z:(zaG pos (zag es X.env)).any (·.1)=false:=by rfl) :
  PF X O (.Call (.Name x p) (e::es) [] pos) (aT g f):=PE.mono (kE M F J U G B q N z) λσ H Q h=>HZ h
end
def spD(n:Nat)(F:List D->Option D):Sp:=λvs H Q _=>∃A ds d,Live A H/\RepL A H ds vs/\vs.length=n/\F ds=some d/\∀v H',Ext A H H'->Rep A H' d v->Q v H'
def Fn(P:zah)(w:World)(K:zae)(mg:Str->Option Value)(base:Heap)(x:Str)(k:Nat)(ps:List Str)(F:List D->Option D):Prop:=My.Ok P w K mg base x k ps (spD ps.length F)
theorem Fn.mono{P:zah}{w:World}{K:zae}{mg:Str->Option Value}{base:Heap}{x:Str}{j k:Nat}{ps:List Str}{F:List D->Option D}(h:Fn P w K mg base x j ps F)(l:j<=k):Fn P w K mg base x k ps F:=My.Ok.mono h l
theorem QE(O':Fn X.prog X.w X.K X.mg X.base x k ps F)(Y:Room k X.A)(M:Gl X x)(N:yF X O (e::es) f)(W:∀ρ ds,f ρ=some ds->ds.length=ps.length)(z:(x == ("__debug__" : Str))=false:=by decide)
  (U:zag (e::es) X.env=(false,eval e X.env)::zag es X.env:=by rfl) (B:(zaG pos (zag es X.env)).any (·.1)=false:=by rfl) :
  PD X O (.Call (.Name x p) (e::es) [] pos) (aT F f):=PE.mono (My.zO O' Y M N z U B) λσ H Q ⟨H0,A0,A,E,ρ,d,st,e,q⟩=>by
 obtain⟨ds,J,e⟩:=bind_some e;exact⟨H0,A0,A,E,ρ,ds,st,J,λvs H1 G r1=>⟨A,ds,d,(st.mono G).live,r1.toL,by rw[r1.length];exact W ρ ds J,e,λv H2 x2 r2=>q v H2 (G.trans x2) r2⟩⟩
theorem IxR.mono(h:IxR X r)(x:∀a b H Q,r' a b H Q->r a b H Q):IxR X r':=λF q pins s σ H a b v u Q I z B w=>h F q pins s σ H a b v u Q I z B (x a b H Q w)
def dIx:D->D->Option D
 | .lst l,.int i=>fL l i
 | .tup l,.int i=>fL l i
 | .str z,.int i=>if aZ z.length then(fL z.cps.toList i).map λc=>.str ⟨#[c]⟩else none
 | _,_=>none
theorem RepL.at(r:RepL A H ds vs)(h:fL ds i=some d):∃v,fL vs i=some v/\Rep A H d v:=by
 obtain⟨j,F,q⟩:=bind_some h;obtain⟨v,B,z⟩:=r.get' q;refine⟨v,?_,z⟩;unfold fL;rw[r.length,F];exact B
theorem nn{q:Type}{a:q}{P:Prop}(h:(none:Option q)=some a):P:=nomatch h
theorem ff{P:Prop}(h:false=true):P:=nomatch h
theorem qaw:IxR X (rD dIx):=IxR.mono V1 <| by
 rintro x y H Q ⟨A,dx,F,d,U,M,N,e,q⟩;cases dx with
 | lst l=>
  cases F with
  | int i=>
   have:=N.int_inv;subst this;obtain⟨a,xs,rfl,h,r⟩:=M.lst_inv;obtain⟨v,B,J⟩:=r.at e;exact .inl ⟨a,xs,i,v,rfl,rfl,.inl h,B,q v H (Ext.refl _ _) J⟩
  | _=>exact nn e
 | tup l=>
  cases F with
  | int i=>
   have:=N.int_inv;subst this;obtain⟨a,xs,rfl,h,r⟩:=M.tup_inv;obtain⟨v,B,J⟩:=r.at e;exact .inr (.inl ⟨a,xs,i,v,rfl,rfl,.inl (.inl h),B,q v H (Ext.refl _ _) J⟩)
  | _=>exact nn e
 | str z=>
  cases F with
  | int i=>
   have:=N.int_inv;subst this;have:=M.str_inv;subst this;simp only[dIx]at e;by_cases G:aZ z.length=true
   ·rw[if_pos G]at e
    obtain⟨c,B,rfl⟩:=map_some e;exact .inr (.inr ⟨z,i,c,rfl,rfl,gJ G,B,q _ H (Ext.refl _ _) (.str _)⟩)
   ·rw[if_neg G]at e;exact nn e
  | _=>exact nn e
 | _=>exact nn e
abbrev Ov:=cU->Option (Option Int)
inductive tDO(O:List Nat)(g:Ov)(σ:L2.St)(H:Hp)(Q:Option Int->Hp->Prop):Prop
 | mk (H0:Hp) (A0 A:Av) (E:List Fact) (ρ:cU) (o:Option Int) (st:ST H0 A0 A E O σ H ρ) (e:g ρ=some o) (q:∀H',Ext A H H'->Q o H'):tDO O g σ H Q
def TX(X:Cx)(O:List Nat)(e:Option Expr)(g:Ov):Prop:=PO X e (tDO O g)
theorem PO.mono(h:PO X e t)(x:∀σ H Q,t' σ H Q->t σ H Q):PO X e t':=λpins s σ H Q I w=>h pins s σ H Q I (x σ H Q w)
def GD:Ov:=λ_=>some none
noncomputable def XJ:D->Option Int
 | .int i=>some i
 | _=>none
theorem sV(h:XJ d=some i):d=.int i:=by cases d <;> cases h;rfl
def v7(f:Ev):Ov:=λρ=>(f ρ).bind λd=>(XJ d).map some
theorem KM:TX X O none GD:=PO.mono RQ λσ H Q ⟨H0,A0,A,E,ρ,d,st,e,q⟩=>by cases e;exact q H (Ext.refl _ _)
theorem J4{e:Expr}{f:Ev}(h:PD X O e f):TX X O (some e) (v7 f):=PO.mono (QK h) <| by
 rintro σ H Q ⟨H0,A0,A,E,ρ,d,st,e,q⟩;obtain⟨x,ex,e⟩:=bind_some e;obtain⟨i,z,rfl⟩:=map_some e;rw[sV z]at ex;exact⟨H0,A0,A,E,ρ,_,st,ex,λv H1 B r1=>⟨i,RepB.int_inv (.of r1),q H1 B⟩⟩
def cutD(xs:List D)(lo hi:Option Int):List D:=(xs.drop (HT.sIx xs.length 0 lo)).take (HT.sIx xs.length xs.length hi-HT.sIx xs.length 0 lo)
theorem RepL.cut{ds:List D}{vs:List V}{lo hi:Option Int}(r:RepL A H ds vs):RepL A H (cutD ds lo hi) (uN vs lo hi):=by
 unfold cutD uN;rw[r.length];exact(r.drop _).take _
def XI(g:D->Option Int->Option Int->Option D)(f:Ev)(a b:Ov):Ev:=λρ=>(f ρ).bind λx=>(a ρ).bind λlo=>(b ρ).bind λhi=>g x lo hi
inductive rS(g:D->Option Int->Option Int->Option D)(x:V)(lo hi:Option Int)(H:Hp)(Q:VK):Prop
 | mk (A:Av) (dx d:D) (lv:Live A H) (r:RepB A H dx x) (e:g dx lo hi=some d) (q:∀v H',Ext A H H'->Rep A H' d v->Q v H'):rS g x lo hi H Q
inductive rSF(g:D->Option Int->Option Int->Option D)(x:V)(lo hi:Option Int)(H:Hp)(Q:VK):Prop
 | mk (A:Av) (dx d:D) (lv:Live A H) (r:RepB A H dx x) (e:g dx lo hi=some d) (q:∀a H',Ext A H H'->H a=none->¬ A a->Own (λb=>A b\/b=a) H' d a->Q (.ref a) H'):rSF g x lo hi H Q
theorem SlR.mono(h:SlR X r)(x:∀a b c H Q,r' a b c H Q->r a b c H Q):SlR X r':=λpins s σ H a v J B lo hi z Q I G hs q F w=>h pins s σ H a v J B lo hi z Q I G hs q F (x a lo hi H Q w)
def qa4:D->Option Int->Option Int->Option D
 | .tup l,lo,hi=>some (.tup (cutD l lo hi))
 | _,_,_=>none
def qo:D->Option Int->Option Int->Option D
 | .lst l,lo,hi=>some (.lst (cutD l lo hi))
 | _,_,_=>none
theorem JU{lo hi:Option Expr}{g:D->Option Int->Option Int->Option D}{a b:Ov}(W:SlR X (rS g))(N:PB X O e f)(U:TX X O lo a)(hu:TX X O hi b):PD X O (.Subscript e (.Slice lo hi none p2) pos) (XI g f a b):=
 PE.mono (KA W N U hu) <| by
  rintro σ H Q ⟨H0,A0,A,E,ρ,d,st,e,q⟩;obtain⟨x,ex,e⟩:=bind_some e;obtain⟨l,M,e⟩:=bind_some e;obtain⟨h,J,e⟩:=bind_some e;exact⟨H0,A0,A,E,ρ,x,st,ex,λv H1 z r1=>⟨H0,A0,A,E,ρ,l,st.mono z,M,λH2 B=>⟨H0,A0,A,E,ρ,h,st.mono (z.trans B),J,λH3 F=>⟨A,x,d,(st.mono ((z.trans B).trans F)).live,r1.ext (B.trans F),e,λv G Y r4=>q v G (((z.trans B).trans F).trans Y) r4⟩⟩⟩⟩
theorem qay:SlR X (rS qa4):=SlR.mono My.P5 <| by
 rintro x lo hi H Q ⟨A,dx,d,G,B,e,q⟩;cases dx with
 | tup l=>
  obtain⟨a,xs,rfl,h,r⟩:=B.tup_inv;cases e;by_cases w:HT.sIx xs.length 0 lo=0/\HT.sIx xs.length xs.length hi=xs.length
  ·refine .inr ⟨a,xs,rfl,.inl (.inl h),w,q _ H (Ext.refl _ _) (.tup h ?_)⟩
   have F:uN xs lo hi=xs:=by unfold uN;rw[w.1,w.2];simp
   rw[<- F];exact r.cut
  ·exact .inl ⟨a,xs,rfl,.inl (.inl h),w,λp z=>q _ _ (Ext.new z) (.tup aH (r.cut.ext (Ext.new z)))⟩
 | _=>exact nn e
theorem qaB:SlR X (rSF qo):=SlR.mono OM <| by
 rintro x lo hi H Q ⟨A,dx,d,G,F,e,q⟩;cases dx with
 | lst l=>
  obtain⟨a,xs,rfl,h,r⟩:=F.lst_inv;cases e;exact⟨a,xs,rfl,.inl h,λp B=>q p _ (Ext.new B) B (λz=>G p z B) (.lst aH (r.cut.fresh B))⟩
 | _=>exact nn e
end
inductive Out where
 | nx (ρ:cU)|rt (d:D)|bk (ρ:cU)|ct (ρ:cU)
abbrev Sv:=cU->Option Out
structure Lp where
 ob:List Nat
 oc:List Nat
def qav(L:Lp)(H0:Hp)(A0:Av)(E:List Fact)(O':List Nat)(T:Ends):Out->Prop
 | .nx ρ=>∀A σ H,ST H0 A0 A E O' σ H ρ->T.nx σ H
 | .rt d=>∀v H,Ext A0 H0 H->Rep A0 H d v->T.rt v H
 | .bk ρ=>∀A σ H,ST H0 A0 A E L.ob σ H ρ->T.bk σ H
 | .ct ρ=>∀A σ H,ST H0 A0 A E L.oc σ H ρ->T.ct σ H
inductive tS(L:Lp)(O:List Nat)(f:Sv)(O':List Nat)(T:Ends)(σ:L2.St)(H:Hp):Prop
 | mk (H0:Hp) (A0 A:Av) (E:List Fact) (ρ:cU) (out:Out) (st:ST H0 A0 A E O σ H ρ) (e:f ρ=some out) (p:qav L H0 A0 E O' T out):tS L O f O' T σ H
def PSD(X:Cx)(L:Lp)(O:List Nat)(st:Stmt)(f:Sv)(O':List Nat):Prop:=PS X st (tS L O f O')
def PSDs(X:Cx)(L:Lp)(O:List Nat)(st:List Stmt)(f:Sv)(O':List Nat):Prop:=PSs X st (tS L O f O')
section
variable {X:Cx}{L:Lp}{O O' O2:List Nat}
theorem PS.mono{st:Stmt}{t t':TS}(h:PS X st t)(x:∀T σ H,t' T σ H->t T σ H):PS X st t':=λpins s σ H T I w=>h pins s σ H T I (x T σ H w)
theorem PSs.mono{st:List Stmt}{t t':TS}(h:PSs X st t)(x:∀T σ H,t' T σ H->t T σ H):PSs X st t':=λpins s σ H T I w=>h pins s σ H T I (x T σ H w)
noncomputable def Sub(a b:List Nat):Bool:=a.all λi=>b.contains i
theorem Sub.mem(h:Sub a b=true)(i:Nat)(hi:i∈a):i∈b:=by
 have:=(List.all_eq_true.mp h) i hi;simpa using this
theorem tS.pre(h:Sub O1 O=true)(t:tS L O f O' T σ H):tS L O1 f O' T σ H:=by
 obtain⟨H0,A0,A,E,ρ,out,st,e,p⟩:=t;obtain⟨A',q⟩:=st.shut (Sub.mem h);exact⟨H0,A0,A',E,ρ,out,q,e,p⟩
theorem PSDs.pre{st:List Stmt}{O1:List Nat}(t:PSDs X L O1 st f O')(h:Sub O1 O=true):PSDs X L O st f O':=PSs.mono t λT σ H z=>tS.pre h z
theorem PSD.pre{st:Stmt}{f:Sv}{O1:List Nat}(t:PSD X L O1 st f O')(h:Sub O1 O=true):PSD X L O st f O':=PS.mono t λT σ H z=>tS.pre h z
def JH:Sv:=λρ=>some (.nx ρ)
def dD(f g:Sv):Sv:=λρ=>(f ρ).bind λo=>match o with
 | .nx ρ'=>g ρ'
 | o=>some o
theorem EX(h:Sub O' O=true:=by rfl):PSDs X L O [] JH O':=PSs.mono D9 <| by
 rintro T σ H ⟨H0,A0,A,E,ρ,out,st,e,p⟩;cases e;obtain⟨A',q⟩:=st.shut (Sub.mem h);exact p A' σ H q
theorem Q2(h:tS L O (dD f g) O' T σ H):qq (tS L O f O2) (tS L O2 g O') T σ H:=by
 obtain⟨H0,A0,A,E,ρ,out,st,e,p⟩:=h;obtain⟨o,z,e⟩:=bind_some e;refine⟨H0,A0,A,E,ρ,o,st,z,?_⟩;cases o with
 | nx ρ'=>exact λA' B H' q=>⟨H0,A0,A',E,ρ',out,q,e,p⟩
 | rt d=>cases e;exact p
 | bk d=>cases e;exact p
 | ct d=>cases e;exact p
theorem J7{st:Stmt}{rest:List Stmt}{f g:Sv}(h1:PSD X L O st f O2)(h2:PSDs X L O2 rest g O'):PSDs X L O (st::rest) (dD f g) O':=PSs.mono (dC h1 h2) λT σ H h=>Q2 h
theorem aN{st:Stmt}{f:Sv}(h1:PSD X L O st f O'):PSDs X L O [st] f O':=gI h1
def BI(f:Ev):Sv:=λρ=>(f ρ).map .rt
theorem RI{e:Expr}{pos:Pos}{f:Ev}(B:PD X O e f):PSD X L O (.Return (some e) pos) (BI f) O':=PS.mono (DH B) <| by
 rintro T σ H ⟨H0,A0,A,E,ρ,out,st,e,p⟩;obtain⟨d,z,rfl⟩:=map_some e;exact⟨H0,A0,A,E,ρ,d,st,z,λv H' x r=>p v H' (st.mono x).ex (r.av λa q=>.inl (st.sub a q))⟩
def BE(c:Bv)(f g:Sv):Sv:=λρ=>(c ρ).bind λb=>if b=true then f ρ else g ρ
theorem C9{c:Expr}{a b:List Stmt}{pos:Pos}{g:Bv}{f k:Sv}(F:uS X O c g)(B:PSDs X L O a f O')(G:PSDs X L O b k O'):PSD X L O (.If c a b pos) (BE g f k) O':=PS.mono (TJ F B G) <| by
 rintro T σ H ⟨H0,A0,A,E,ρ,out,st,e,p⟩;obtain⟨b,z,e⟩:=bind_some e;refine⟨H0,A0,A,E,ρ,b,st,z,λH1 q=>?_⟩;cases b with
 | true=>rw[if_pos rfl]at e ⊢;exact⟨H0,A0,A,E,ρ,out,st.mono q,e,p⟩
 | false=>rw[if_neg zaA]at e ⊢;exact⟨H0,A0,A,E,ρ,out,st.mono q,e,p⟩
def dX(i:Nat)(f:Ev):Sv:=λρ=>(f ρ).map λd=>.nx (ρ.set i (some d))
theorem Sub.er{a b:List Nat}{i j:Nat}(h:Sub a (b.filter (· != i))=true)(q:j∈a):j∈b/\j≠i:=by
 have:=Sub.mem h j q;rw[List.mem_filter]at this;exact⟨this.1,by simpa using this.2⟩
theorem D8{i:Nat}{x:Str}{e:Expr}{pos pos':Pos}{f:Ev}(W:X.N.Nodup)(hi:X.N[i]?=some x)(hx:Loc X.env.scope x)(U:PD X O e f)(h:Sub O' (O.filter (· != i))=true:=by rfl)
  (hs:zaD e (some (.Name x pos')) pos.line X.env=pure false:=by rfl) (M:X.fn x=true\/X.env.scope.names.lookup x=some .local:=by first|exact .inl rfl|exact .inr rfl):PSD X L O (.Assign [.Name x pos'] e pos) (dX i f) O':=
 PS.mono (MI W hi hx U hs M) <| by
  rintro T σ H ⟨H0,A0,A,E,ρ,out,st,e,p⟩;obtain⟨d,Y,rfl⟩:=map_some e;refine⟨H0,A0,A,E,ρ,d,st,Y,λv H' x r=>?_⟩
  -- i leaves what may be written ahead of the store: the value is borne by fewer too
  have F:=(st.mono x).more r;obtain⟨A',B⟩:=F.shut (O':=O') λj J=>(Sub.er h J).1
  exact p A' _ H' ((B.put (B.ext _ (zas ..)) λz=>(Sub.er h z).2 rfl).less λq G=>zaq _ G)
theorem Own.there:Own A H d a->H a≠none
 | .lst h _=>by rw[h];exact λz=>nomatch z
 | .dK h _ _=>by rw[h];exact λz=>nomatch z
 | .dT h _ _=>by rw[h];exact λz=>nomatch z
theorem ST.own_put(s:ST H0 A0 A E O σ H ρ)(x:Ext A H H')(n:H a=none)(na:¬ A a)(o:Own (λb=>A b\/b=a) H' d a)(ni:i∉O) :
  ST H0 A0 (λb=>A b\/b=a) E (i::O) (σ.set i (some (.ref a))) H' (ρ.set i (some d)):=by
 have s':=s.mono x;have n0:H0 a=none:=s.ex.free n
 -- whatever was borne ahead avoids a
 have J:Ext (λb=>A b\/b=a) H H':=⟨x.rd,x.kp,λb u q e=>q.elim (λq=>x.ow b u q e) λq=>(by subst q;rw[n]at e;exact nomatch e),x.fz⟩;have aa:∀ {p:Fact},p.Holds A H->p.Holds (λb=>A b\/b=a) H':=λr=>Fact.ext J (Fact.av (A':=λb=>A b\/b=a) (λb q=>by
   rcases q with q|q
   ·exact .inl q
   ·exact .inr (q ▸ n)) r)
 have up:∀ {d:D} {v:V},Rep A H d v->Rep (λb=>A b\/b=a) H' d v:=λr=>by
  have r1:Rep (λb=>A b\/b=a) H _ _:=r.av λb q=>by
   rcases q with q|q
   ·exact .inl q
   ·exact .inr (q ▸ n)
  exact r1.ext J
 have Y:∀ {d:D} {b:Addr},A b->Own A H d b->Own (λc=>A c\/c=a) H' d b:=λq r=>by
  have r1:Own (λc=>A c\/c=a) H _ _:=r.av λb q=>by
   rcases q with q|q
   ·exact .inl q
   ·exact .inr (q ▸ n)
  exact r1.ext J (.inl q)
 have ha:H' a≠none:=o.there;refine⟨s'.ex,λb q=>.inl (s.sub b q),s.l0,λb q=>?_,by simp[s.len],λj d' h' N=>?_,λj d' h' N=>?_,λj k M d2 b W hk h1 h2 F U=>?_,λp hp=>aa (s.ext p hp)⟩
 ·rcases q with q|q
  ·exact s'.live b q
  ·subst q;exact ha
 ·rcases eT h' with⟨e,B,l⟩|⟨e,B⟩
  ·exact absurd (List.mem_cons.mpr (.inl e)) N
  ·obtain⟨w,h1,h2⟩:=s.val j d' B λz=>N (zaq _ z)
   exact⟨w,by rw[lL e];exact h1,up h2⟩
 ·rcases eT h' with⟨e,B,l⟩|⟨e,B⟩
  ·subst e;cases B
   exact⟨a,sig_set (by rw[s.len];exact l),.inr rfl,n0,o⟩
  ·rcases List.mem_cons.mp N with z|z
   ·exact absurd z e
   ·obtain⟨w,h1,h2,F,U⟩:=s.own j d' B z
    exact⟨w,by rw[lL e];exact h1,.inl h2,F,Y h2 U⟩
 ·have G:∀ {j:Nat} {M:D},j∈i::O->(ρ.set i (some d))[j]?=some (some M)->(σ.set i (some (.ref a)))[j]?=some (some (.ref b))->(j=i/\b=a)\/(j≠i/\j∈O/\ρ[j]?=some (some M)/\σ[j]?=some (some (.ref b))/\b≠a):=by
   intro j M W h1 F;rcases eT h1 with⟨e,B,l⟩|⟨e,B⟩
   ·subst e
    rw[sig_set (by rw[s.len];exact l)]at F;cases F;exact .inl ⟨rfl,rfl⟩
   ·rcases List.mem_cons.mp W with z|z
    ·exact absurd z e
    ·rw[lL e]at F
     obtain⟨w,q1,q2,_⟩:=s.own j M B z;rw[F]at q1;cases q1;exact .inr ⟨e,z,B,F,λz=>na (z ▸ q2)⟩
  rcases G W h1 F with⟨e1,B⟩|⟨e1,B,e3,e4,e5⟩
  ·rcases G hk h2 U with⟨f1,f2⟩|⟨f1,f2,f3,f4,f5⟩
   ·rw[e1,f1]
   ·exact absurd B f5
  ·rcases G hk h2 U with⟨f1,f2⟩|⟨f1,f2,f3,f4,f5⟩
   ·exact absurd f2 e5
   ·exact s.inj j k M d2 b B f2 e3 f3 e4 f4
theorem JX{i:Nat}{x:Str}{e:Expr}{pos pos':Pos}{f:Ev}(M:X.N.Nodup)(hi:X.N[i]?=some x)(hx:Loc X.env.scope x)(J:PF X O e f)(h:Sub O' (i::O)=true:=by rfl)(B:O.contains i=false:=by rfl)
  (hs:zaD e (some (.Name x pos')) pos.line X.env=pure false:=by rfl) (G:X.fn x=true\/X.env.scope.names.lookup x=some .local:=by first|exact .inl rfl|exact .inr rfl):PSD X L O (.Assign [.Name x pos'] e pos) (dX i f) O':=
 PS.mono (MI M hi hx J hs G) <| by
  rintro T σ H ⟨H0,A0,A,E,ρ,out,st,e,p⟩;obtain⟨d,Y,rfl⟩:=map_some e;refine⟨H0,A0,A,E,ρ,d,st,Y,λa H' x n F o=>?_⟩;have U:i∉O:=λz=>by
   have:O.contains i=true:=by simpa using z
   rw[B]at this;cases this
  obtain⟨W,q⟩:=(st.own_put x n F o U).shut (Sub.mem h);exact p W _ H' q
theorem ST.write(s:ST H0 A0 A E O σ H ρ)(hi:ρ[i]?=some (some d))(hO:i∈O)(hs:σ[i]?=some (some (.ref a)))(U:A a)(h0:H0 a=none)(Y:H a=some u)(ob:XY u)(hn:Own A (upd H a o) d' a) :
  ST H0 A0 A E O σ (upd H a o) (ρ.set i (some d')):=by
 have B:∀b,H0 b≠none->b≠a:=λb hb z=>hb (z ▸ h0)
 refine⟨⟨λb w r=>?_,λb xs k r=>?_,λb w n r=>?_,λb q w r=>?_⟩,s.sub,s.l0,λb hb=>?_,by simp[s.len],λj J h' G=>?_,λj J h' G=>?_,λj k N J b hj hk h1 h2 h3 W=>?_,λp hp=>Fact.put U Y ob (s.ext p hp)⟩
 ·refine eV (B b ?_) (s.ex.rd b w r)
  rcases r with r|⟨_,r⟩ <;> (rw[r];exact λz=>nomatch z)
 ·rw[aE (B b (by rw[r];exact λz=>nomatch z))];exact s.ex.kp b xs k r
 ·rw[aE (B b (by rw[r];exact λz=>nomatch z))];exact s.ex.ow b w n r
 ·rw[aE (B b (by rw[r];exact λz=>nomatch z))];exact s.ex.fz b q w r
 ·by_cases e:b=a
  ·subst e;rw[aH];exact λz=>nomatch z
  ·rw[aE e];exact s.live b hb
 ·rcases eT h' with⟨e,F,l⟩|⟨e,F⟩
  ·subst e;exact absurd hO G
  ·obtain⟨w,h1,h2⟩:=s.val j J F G
   exact⟨w,h1,h2.put U Y ob⟩
 ·rcases eT h' with⟨e,F,l⟩|⟨e,F⟩
  ·subst e;cases F;exact⟨a,hs,U,h0,hn⟩
  ·obtain⟨b,h1,h2,h3,W⟩:=s.own j J F G
   refine⟨b,h1,h2,h3,W.put U Y ob λz=>?_⟩;subst z;exact e (s.inj j i J d b G hO F hi h1 hs)
 ·have M:∀ {j:Nat} {N:D},(ρ.set i (some d'))[j]?=some (some N)->∃d0,ρ[j]?=some (some d0):=by
   intro j N h;rcases eT h with⟨e,_,_⟩|⟨_,e⟩
   ·subst e;exact⟨d,hi⟩
   ·exact⟨N,e⟩
  obtain⟨x,hx⟩:=M h1;obtain⟨y,hy⟩:=M h2;exact s.inj j k x y b hj hk hx hy h3 W
noncomputable def mem(O:List Nat)(i:Nat):Bool:=O.contains i
theorem gP(h:mem O i=true):i∈O:=by simpa[mem]using h
def IV(i:Nat)(f:Ev):Sv:=λρ=>(aD i ρ).bind λx=>match x with
 | .lst l=>(f ρ).bind λd=>if aZ l.length then some (.nx (ρ.set i (some (.lst (l++[d])))))else none
 | _=>none
theorem CS{o e:Expr}{i:Nat}{apos cpos pos:Pos}{f:Ev}(Y:PE X o (c7 i))(he:PD X O e f)(G:mem O i=true)(N:PE X (.Call (.Attribute o "append" apos) [e] [] cpos) (tBM X.K "list" FC (c7 i) (v8 (tD Rep O f) SA)))
  (hs:zaD (.Call (.Attribute o "append" apos) [e] [] cpos) none pos.line X.env=pure false:=by rfl) (h:Sub O' O=true:=by rfl):PSD X L O (.Expr (.Call (.Attribute o "append" apos) [e] [] cpos) pos) (IV i f) O':=
 PS.mono (xH N hs) <| by
  rintro T σ H ⟨H0,A0,A,E,ρ,out,st,e,p⟩;obtain⟨x,ex,e⟩:=bind_some e;cases x with
  | lst l=>
   obtain⟨d,M,e⟩:=bind_some e;by_cases z:aZ l.length=true
   ·rw[if_pos z]at e
    cases e;obtain⟨a,J,q,W,U⟩:=st.own i _ (bW ex) (gP G);cases U with
    | lst h4 r4=>
     refine⟨_,J,.inl ⟨rfl,_,SqL.of h4⟩,H0,A0,A,E,ρ,d,st,M,λv H' x r=>⟨a,_,v,rfl,rfl,x.ow _ _ q h4,by rw[r4.length];exact iN z,?_⟩⟩;have F:=x.ow _ _ q h4;obtain⟨A',B⟩:=((st.mono x).write (o:=.lst _) (bW ex) (gP G) J q W F trivial (.lst aH (((r4.ext x).append (.cons r .nil)).put q F trivial))).shut (Sub.mem h);exact p A' σ _ B
   ·rw[if_neg z]at e;cases e
  | _=>exact nn e
def XN:D->Option Key
 | .int i=>some (.inl i)
 | .str x=>some (.inr x)
 | _=>none
def NZ:List D->Option (List Key)
 | []=>some []
 | d::ds=>(XN d).bind λk=>(NZ ds).bind λks=>some (k::ks)
def TY:D->Option (List Key)
 | .tup l=>NZ l
 | _=>none
noncomputable def eZ{κ:Type}[DecidableEq κ](l:List (κ×D))(k:κ):Option D:=(l.find? λp=>decide (p.1=k)).map (·.2)
noncomputable def putD{κ:Type}[DecidableEq κ](l:List (κ×D))(k:κ)(d:D):List (κ×D):=if l.any (λp=>decide (p.1=k))then l.map (λp=>if p.1=k then(p.1,d)else p)else l++[(k,d)]
end
section
variable {A:Av}{H:Hp}
section
variable {κ:Type}[DecidableEq κ]
abbrev PP(A:Av)(H:Hp):List (κ×D)->List (κ×V)->Prop:=Paired λ(p:κ×D) (q:κ×V)=>p.1=q.1/\Rep A H p.2 q.2
theorem tX:∀ {l:List (κ×D)} {xs:List (κ×V)},xs.map (·.1)=l.map (·.1)->RepL A H (l.map (·.2)) (xs.map (·.2))->PP A H l xs
 | [],[],_,_=>.nil
 | [],_::_,e,_=>by cases e
 | _::_,[],e,_=>by cases e
 | p::l,q::xs,e,r=>by
  rw[zak,zak]at e r;injection e with e1 e2
  cases r with
  | cons h t=>exact .cons ⟨e1.symm,h⟩ (tX e2 t)
theorem vZ:∀ {l:List (κ×D)} {xs:List (κ×V)},PP A H l xs->xs.map (·.1)=l.map (·.1)/\RepL A H (l.map (·.2)) (xs.map (·.2))
 | _,_,.nil=>⟨rfl,.nil⟩
 | _,_,.cons h t=>by
  obtain⟨e,r⟩:=vZ t;exact⟨by rw[zak,zak,h.1,e],.cons h.2 r⟩
theorem MK(k:κ)(h:PP A H l xs):(eZ l k=none/\nM xs k=none)\/∃d v,eZ l k=some d/\nM xs k=some v/\Rep A H d v:=by
 induction h with
 | nil=>exact .inl ⟨rfl,rfl⟩
 | @cons p q l xs h t ih=>
  by_cases e:p.1=k
  ·refine .inr ⟨p.2,q.2,?_,mN (h.1 ▸ e),h.2⟩
   simp[eZ,zby,e]
  ·have B:¬ q.1=k:=λz=>e (h.1.trans z)
   have a:eZ (p::l) k=eZ l k:=by simp[eZ,zby,e]
   rw[a,mS B];exact ih
theorem U7(k:κ)(h:PP A H l xs):(l.any λp=>decide (p.1=k))=xs.any λp=>decide (p.1=k):=by
 induction h with
 | nil=>rfl
 | cons h t ih=>rw[zb9,zb9,ih,h.1]
theorem UR(k:κ)(r:Rep A H d v)(h:PP A H l xs):PP A H (l.map λp=>if p.1=k then(p.1,d)else p) (xs.map λp=>if p.1=k then(p.1,v)else p):=by
 induction h with
 | nil=>exact .nil
 | @cons p q l xs h t ih=>
  rw[zak,zak];refine .cons ?_ ih;by_cases e:p.1=k
  ·rw[if_pos e,if_pos (h.1 ▸ e)];exact⟨h.1,r⟩
  ·rw[if_neg e,if_neg (λz=>e (h.1.trans z))];exact h
theorem UL(h:PP A H l xs)(h':PP A H m ys):PP A H (l++m) (xs++ys):=by
 induction h with
 | nil=>exact h'
 | cons h t ih=>exact .cons h ih
theorem tQ(k:κ)(r:Rep A H d v)(h:PP A H l xs):PP A H (putD l k d) (putK xs k v):=by
 unfold putD putK;rw[U7 k h];by_cases e:(xs.any λp=>decide (p.1=k))=true
 ·rw[if_pos e,if_pos e];exact UR k r h
 ·rw[if_neg e,if_neg e];exact UL h (.cons ⟨rfl,r⟩ .nil)
end
theorem qD(h:XN d=some k)(r:RepB A H d v):v=kV k:=by
 cases d <;> cases h
 ·exact r.int_inv
 ·exact r.str_inv
theorem AA:∀ {ds:List D} {ks:List Key} {vs:List V},NZ ds=some ks->RepL A H ds vs->vs=ks.map kV
 | _,_,_,h,.nil=>by cases h;rfl
 | _,_,_,h,.cons r t=>by
  obtain⟨k,z,h⟩:=bind_some h;obtain⟨ks,q,h⟩:=bind_some h;cases h;rw[zak,qD z (.of r),AA q t]
theorem pT(h:TY d=some k)(r:RepB A H d v):∃b,v=.ref b/\H b=some (.tup (k.map kV)):=by
 cases d <;> try cases h
 rename_i l;obtain⟨a,xs,rfl,h1,h2⟩:=r.tup_inv;exact⟨a,rfl,by rw[h1,AA h h2]⟩
def nK:D->D->Option (Option D)
 | .dK l,k=>(XN k).map λk=>eZ l k
 | .dT l,k=>(TY k).map λk=>eZ l k
 | _,_=>none
theorem sI{d k:D}{x y:V}{o:Option D}(h:nK d k=some o)(G:RepB A H d x)(J:RepB A H k y):∃a F,x=.ref a/\IsD H a/\DGet H a y F/\((o=none/\F=none)\/∃z v,o=some z/\F=some v/\Rep A H z v):=by
 cases d with
 | dK l=>
  obtain⟨q,B,rfl⟩:=map_some h;obtain⟨a,xs,rfl,h1,e,r⟩:=G.dK_inv;have:=qD B J;subst this;refine⟨a,_,rfl,.inl ⟨xs,h1⟩,.inl ⟨xs,q,h1,rfl,rfl⟩,MK q (tX e r)⟩
 | dT l=>
  obtain⟨q,B,rfl⟩:=map_some h;obtain⟨a,xs,rfl,h1,e,r⟩:=G.dT_inv;obtain⟨b,rfl,M⟩:=pT B J;exact⟨a,_,rfl,.inr ⟨xs,h1⟩,.inr ⟨xs,q,b,h1,rfl,M,rfl⟩,MK q (tX e r)⟩
 | _=>exact nn h
end
section
variable {X:Cx}{O O':List Nat}{L:Lp}
theorem PE.or(h:PE X e t)(k:PE X e u):PE X e (λσ H Q=>t σ H Q\/u σ H Q):=λpins s σ H Q I w=>w.elim (h pins s σ H Q I) (k pins s σ H Q I)
def aJ(d k:D):Option D:=match d with
 | .dK _=>(nK d k).join
 | .dT _=>(nK d k).join
 | _=>dIx d k
theorem rP{q:Type}{o:Option (Option q)}{d:q}(h:o.join=some d):o=some (some d):=by
 cases o with
 | none=>cases h
 | some o=>cases o with
  | none=>cases h
  | some x=>cases h;rfl
theorem AR{F fb:Ev}{σ:L2.St}{H:Hp}{Q:VK}(h:tD Rep O (a7 (λd k=>(nK d k).join) F fb) σ H Q):S5 (tD RepB O F) (tD RepB O fb) σ H Q:=by
 obtain⟨H0,A0,A,E,ρ,d,st,e,q⟩:=h;obtain⟨x,ex,e⟩:=bind_some e;obtain⟨y,N,e⟩:=bind_some e;refine⟨H0,A0,A,E,ρ,x,st,ex,λv H1 G r1=>⟨H0,A0,A,E,ρ,y,st.mono G,N,λw H2 M r2=>?_⟩⟩;obtain⟨a,Y,W,_,g,B⟩:=sI (rP e) (r1.ext M) r2;rcases B with⟨B,_⟩|⟨z,J,B,U,r3⟩
 ·cases B
 ·cases B;subst U
  exact⟨a,J,W,g,q J H2 (G.trans M) r3⟩
theorem RV(M:X.A.units+1<cLine)(F:PB X O a fa)(G:PB X O b fb)(hs:xA b):PD X O (.Subscript a b pos) (a7 aJ fa fb):=
 PE.mono (PE.or (ZG qaw F G hs) (FD M F G hs)) <| by
  rintro σ H Q ⟨H0,A0,A,E,ρ,d,st,e,q⟩;obtain⟨x,ex,B⟩:=bind_some e;obtain⟨y,J,B⟩:=bind_some B;have z:∀g:D->D->Option D,g x y=some d->tD Rep O (a7 g fa fb) σ H Q:=λg h=>⟨H0,A0,A,E,ρ,d,st,by unfold a7;rw[ex,J];exact h,q⟩
  cases x with
  | dK l=>exact .inr (AR (z _ B))
  | dT l=>exact .inr (AR (z _ B))
  | _=>exact .inl (yB (z dIx B))
def kH(d k e:D):Option D:=match d with
 | .dK l=>(XN k).bind λk=>if aZ l.length then some (.dK (putD l k e))else none
 | .dT l=>(TY k).bind λk=>if aZ l.length then some (.dT (putD l k e))else none
 | .lst l=>(XJ k).bind λk=>(JE l.length k).map λj=>.lst (l.set j e)
 | _=>none
def DP(i:Nat)(fk fe:Ev):Sv:=λρ=>(fe ρ).bind λe=>(aD i ρ).bind λx=>(fk ρ).bind λk=>(kH x k e).map λd=>.nx (ρ.set i (some d))
theorem PS.or{st:Stmt}{t u:TS}(h:PS X st t)(k:PS X st u):PS X st (λT σ H=>t T σ H\/u T σ H):=λpins s σ H T I w=>w.elim (h pins s σ H T I) (k pins s σ H T I)
theorem RW{o k value:Expr}{i:Nat}{pos pos':Pos}{fk fe:Ev}(B:X.A.units+1<cLine)(ho:PE X o (c7 i))(hk:PB X O k fk)(hv:PD X O value fe)(hO:mem O i=true)(h:Sub O' O=true:=by rfl)
  (hs:zaD value (some (.Subscript o k pos')) pos.line X.env=pure false:=by rfl) (ag:zc8 [.Subscript o k pos'] value pos.line X.env=pure false:=by rfl) (hw:zc9 [.Subscript o k pos'] value X.env=pure none:=by rfl)
  (hg:∀ {to ti:TE} {t:NP},PE X o to->PE X k ti->R6 X t->PG X (.Subscript o k pos') (XC to ti t):=by intro _ _ _ a b c;exact MH a b c) :
  PSD X L O (.Assign [.Subscript o k pos'] value pos) (DP i fk fe) O':=
 PS.mono (PS.or (xM B ho hk hv hs) (L7 hv (hg ho hk set_list) ag hw)) <| by
  rintro T σ H ⟨H0,A0,A,E,ρ,out,st,e,p⟩;obtain⟨z,ez,e⟩:=bind_some e;obtain⟨x,ex,e⟩:=bind_some e;obtain⟨y,ey,e⟩:=bind_some e;obtain⟨d,ed,rfl⟩:=map_some e;obtain⟨a,W,J,e3,e4⟩:=st.own i _ (bW ex) (gP hO);cases x with
  | dK l=>
   obtain⟨Y,e5,F⟩:=bind_some ed;by_cases U:aZ l.length=true
   ·rw[if_pos U]at F;cases F
    refine .inl ⟨H0,A0,A,E,ρ,z,st,ez,λv H1 M r1=>⟨_,W,H0,A0,A,E,ρ,y,st.mono M,ey,λw H2 N r2=>?_⟩⟩;have q:=M.trans N;cases e4 with
    | @dK _ _ xs h4 ee r4=>
     have B:=q.ow _ _ J h4;have hl:xs.length=l.length:=by have:=congrArg zbm ee;simpa using this
     have:=qD e5 r2;subst this;refine⟨a,_,rfl,DPut.k B (by rw[hl];exact iN U),?_⟩;obtain⟨e7,r7⟩:=vZ (tQ Y (r1.ext N) (tX ee (r4.ext q)));obtain⟨A',G⟩:=((st.mono q).write (o:=.dK _) (bW ex) (gP hO) W J e3 B trivial (.dK aH e7 (r7.put J B trivial))).shut (Sub.mem h);exact p A' σ _ G
   ·rw[if_neg U]at F;cases F
  | dT l=>
   obtain⟨Y,e5,F⟩:=bind_some ed;by_cases U:aZ l.length=true
   ·rw[if_pos U]at F;cases F
    refine .inl ⟨H0,A0,A,E,ρ,z,st,ez,λv H1 M r1=>⟨_,W,H0,A0,A,E,ρ,y,st.mono M,ey,λw H2 N r2=>?_⟩⟩;have q:=M.trans N;cases e4 with
    | @dT _ _ xs h4 ee r4=>
     have B:=q.ow _ _ J h4;have hl:xs.length=l.length:=by have:=congrArg zbm ee;simpa using this
     obtain⟨b,rfl,hb⟩:=pT e5 r2;refine⟨a,_,rfl,DPut.t B hb (by rw[hl];exact iN U),?_⟩;obtain⟨e7,r7⟩:=vZ (tQ Y (r1.ext N) (tX ee (r4.ext q)));obtain⟨A',G⟩:=((st.mono q).write (o:=.dT _) (bW ex) (gP hO) W J e3 B trivial (.dT aH e7 (r7.put J B trivial))).shut (Sub.mem h);exact p A' σ _ G
   ·rw[if_neg U]at F;cases F
  | lst l=>
   obtain⟨Y,e5,F⟩:=bind_some ed;obtain⟨j,e7,rfl⟩:=map_some F;refine .inr ⟨H0,A0,A,E,ρ,z,st,ez,λv H1 M r1=>⟨_,W,H0,A0,A,E,ρ,y,st.mono M,ey,λw H2 N r2=>?_⟩⟩;have q:=M.trans N;cases e4 with
   | @lst _ _ xs h4 r4=>
    have B:=q.ow _ _ J h4;rw[sV e5]at r2;have:=r2.int_inv;subst this;refine⟨a,xs,Y,j,rfl,rfl,B,by rw[r4.length];exact e7,?_⟩;obtain⟨A',G⟩:=((st.mono q).write (o:=.lst _) (bW ex) (gP hO) W J e3 B trivial (.lst aH (((r4.ext q).set j (r1.ext N)).put J B trivial))).shut (Sub.mem h);exact p A' σ _ G
  | _=>cases ed
noncomputable def JJ(g:Int->Int->Option D):D->D->Option D
 | .int i,.int j=>g i j
 | _,_=>none
theorem sA(h:JJ g x y=some d):∃i j,x=.int i/\y=.int j/\g i j=some d:=by
 cases x with
 | int i=>
  cases y with
  | int j=>exact⟨_,_,rfl,rfl,h⟩
  | _=>exact nn h
 | _=>exact nn h
theorem tI{f:Value->Value->Sem Value}{C:Int->Int->Prop}[∀i j,Decidable (C i j)]{g:Int->Int->Int}(h:OpR X f (rI C λi j=>.int (g i j))):lQ X f (JJ λi j=>if C i j then some (.int (g i j))else none):=
 OpR.mono h <| by
  rintro x y H Q ⟨A,dx,J,d,M,F,G,e,q⟩;obtain⟨i,j,rfl,rfl,z⟩:=sA e;have:=F.int_inv;subst this;have:=G.int_inv;subst this;by_cases B:C i j
  ·rw[if_pos B]at z;cases z
   exact⟨i,j,rfl,rfl,B,q _ H (Ext.refl _ _) (.int _)⟩
  ·rw[if_neg B]at z;cases z
theorem RK{f:Value->Value->Sem Value}{g:Int->Int->Int}(h:OpR X f (SL λi j=>.int (g i j))):lQ X f (JJ λi j=>some (.int (g i j))):=
 OpR.mono h <| by
  rintro x y H Q ⟨A,dx,G,d,F,z,B,e,q⟩;obtain⟨i,j,rfl,rfl,e⟩:=sA e;have:=z.int_inv;subst this;have:=B.int_inv;subst this;cases e;exact⟨i,j,rfl,rfl,q _ H (Ext.refl _ _) (.int _)⟩
theorem KZ{f:Value->Value->Sem Value}{g:Int->Int->Bool}(h:OpR X f (SL λi j=>.bl (g i j))):lQ X f (JJ λi j=>some (.bl (g i j))):=
 OpR.mono h <| by
  rintro x y H Q ⟨A,dx,G,d,F,z,B,e,q⟩;obtain⟨i,j,rfl,rfl,e⟩:=sA e;have:=z.int_inv;subst this;have:=B.int_inv;subst this;cases e;exact⟨i,j,rfl,rfl,q _ H (Ext.refl _ _) (.bl _)⟩
instance:∀i j,Decidable (My.DT i j):=λi j=>by unfold My.DT;infer_instance
instance:∀i j,Decidable (SF i j):=λi j=>by unfold SF;infer_instance
instance:∀i j,Decidable (SC i j):=λi j=>by unfold SC;infer_instance
def qe:D->D->Option D:=JJ λi j=>some (.int (i-j))
def F7:D->D->Option D:=JJ λi j=>if My.DT i j then some (.int (i*j))else none
def dS:D->D->Option D:=JJ λi j=>if 0<j then some (.int (i%j))else none
def g8:D->D->Option D:=JJ λi j=>if SF i j then some (.int (i/j))else none
def NX:D->D->Option D:=JJ λi j=>if SC i j then some (.int (i^j.toNat))else none
def uE:D->D->Option D:=JJ λi j=>some (.bl (decide (j<i)))
theorem VN:lQ X (zaM .Sub) qe:=RK V0
theorem WP:lQ X (zaM .Mult) F7:=tI My.O9
theorem gR:lQ X (zaM .Mod) dS:=tI WU
theorem DE:lQ X (zaM .FloorDiv) g8:=tI RJ
theorem VJ:lQ X (zaM .Pow) NX:=tI UI
theorem YL:lQ X (zaC .Gt) uE:=KZ X2
def R4(f:Ev):Ev:=λρ=>(f ρ).bind λd=>(XJ d).map λi=>.int (-i)
theorem VG(z:PB X O a f):PD X O (.UnaryOp .USub a pos) (R4 f):=PE.mono (YS VB z) <| by
 rintro σ H Q ⟨H0,A0,A,E,ρ,d,st,e,q⟩;obtain⟨x,ex,e⟩:=bind_some e;obtain⟨i,B,rfl⟩:=map_some e;rw[sV B]at ex;exact⟨H0,A0,A,E,ρ,_,st,ex,λv H1 F r1=>⟨i,r1.int_inv,q _ H1 F (.int _)⟩⟩
end
section
variable {X:Cx}{L:Lp}{O O':List Nat}
def R7:Sv:=λ_=>none
theorem GW{st:Stmt}:PSD X L O st R7 O':=λ_ _ _ _ _ _ ⟨_,_,_,_,_,_,_,e,_⟩=>nomatch e
abbrev Gv:=D->cU->Option cU
inductive tDG(O:List Nat)(g:Gv)(v:V)(σ:L2.St)(H:Hp)(Q:L2.St->Hp->Prop):Prop
 | mk (H0:Hp) (A0 A:Av) (E:List Fact) (ρ:cU) (d:D) (ρ':cU) (st:ST H0 A0 A E O σ H ρ) (r:Rep A H d v) (e:g d ρ=some ρ') (q:∀σ',ST H0 A0 A E O σ' H ρ'->Q σ' H):tDG O g v σ H Q
def BH(X:Cx)(O:List Nat)(tg:Expr)(g:Gv):Prop:=PG X tg (tDG O g)
abbrev TU:=List D->cU->Option cU
inductive tDGs(O:List Nat)(g:TU)(vs:List V)(σ:L2.St)(H:Hp)(Q:L2.St->Hp->Prop):Prop
 | mk (H0:Hp) (A0 A:Av) (E:List Fact) (ρ:cU) (ds:List D) (ρ':cU) (st:ST H0 A0 A E O σ H ρ) (r:RepL A H ds vs) (e:g ds ρ=some ρ') (q:∀σ',ST H0 A0 A E O σ' H ρ'->Q σ' H):tDGs O g vs σ H Q
def DR(X:Cx)(O:List Nat)(ts:List Expr)(g:TU):Prop:=PGs X ts (tDGs O g)
theorem PG.mono(h:PG X tg t)(x:∀v σ H Q,t' v σ H Q->t v σ H Q):PG X tg t':=λpins s σ H v u Q I r w=>h pins s σ H v u Q I r (x v σ H Q w)
theorem PGs.mono(h:PGs X ts t)(x:∀v σ H Q,t' v σ H Q->t v σ H Q):PGs X ts t':=λpins s σ H v u Q I r w=>h pins s σ H v u Q I r (x v σ H Q w)
def aS(i:Nat):Gv:=λd ρ=>some (ρ.set i (some d))
theorem mT(h:PG X tg (i6 i))(n:O.contains i=false:=by rfl):BH X O tg (aS i):=PG.mono h <| by
 rintro v σ H Q ⟨H0,A0,A,E,ρ,d,ρ',st,r,e,q⟩;cases e;exact q _ (st.put r λz=>by
  have:O.contains i=true:=by simpa using z
  rw[n]at this;cases this)
def tY:TU:=λds ρ=>match ds with
 | []=>some ρ
 | _=>none
def eG(g:Gv)(k:TU):TU:=λds ρ=>match ds with
 | d::ds=>(g d ρ).bind λρ'=>k ds ρ'
 | _=>none
theorem LA:DR X O [] tY:=PGs.mono QI <| by
 rintro v σ H Q ⟨H0,A0,A,E,ρ,ds,ρ',st,r,e,q⟩;cases r with
 | nil=>cases e;exact⟨rfl,q _ st⟩
 | cons _ _=>cases e
theorem gX(G:∀ {t:TG} {u:TR},PG X e t->PGs X es u->PGs X (e::es) (S4 t u))(h1:BH X O e g)(h2:DR X O es k):DR X O (e::es) (eG g k):=
 PGs.mono (G h1 h2) <| by
  rintro v σ H Q ⟨H0,A0,A,E,ρ,ds,ρ',st,r,e,q⟩;cases r with
  | nil=>cases e
  | cons h t=>
   obtain⟨z,J,e⟩:=bind_some e;exact⟨_,_,rfl,H0,A0,A,E,ρ,_,z,st,h,J,λF B=>⟨H0,A0,A,E,z,_,ρ',B,t,e,q⟩⟩
def kQ(n:Nat)(k:TU):Gv:=λd ρ=>match d with
 | .tup l=>if l.length=n then k l ρ else none
 | _=>none
theorem FB(F:PG X tg (Z0 X.K n (tDGs O k))):BH X O tg (kQ n k):=PG.mono F <| by
 rintro v σ H Q ⟨H0,A0,A,E,ρ,d,ρ',st,r,e,q⟩;cases d with
 | tup l=>
  obtain⟨a,xs,rfl,h,B⟩:=RepB.tup_inv (.of r);by_cases z:l.length=n
  ·simp only[kQ,if_pos z]at e
   exact⟨a,xs,rfl,.inl (.inl h),by rw[B.length];exact z,H0,A0,A,E,ρ,l,ρ',st,B,e,q⟩
  ·simp only[kQ,if_neg z]at e;cases e
 | _=>exact nn e
def R9(f:Ev)(g:Gv):Sv:=λρ=>(f ρ).bind λd=>(g d ρ).map .nx
theorem nJ(J:PD X O e f)(F:BH X O tg g)(hs:zc8 [tg] e pos.line X.env=pure false:=by rfl)(hw:zc9 [tg] e X.env=pure none:=by rfl)(h:Sub O' O=true:=by rfl)(h1:(za1 [tg] X.env).map (·.2)=[zbf tg X.env]:=by rfl)(h1:(za1 [tg] X.env).map (·.2)=[zbf tg X.env]:=by rfl)(h1:(za1 [tg] X.env).map (·.2)=[zbf tg X.env]:=by rfl)(h1:(za1 [tg] X.env).map (·.2)=[zbf tg X.env]:=by rfl):PSD X L O (.Assign [tg] e pos) (R9 f g) O':=
 PS.mono (L7 J F hs hw h1) <| by
  rintro T σ H ⟨H0,A0,A,E,ρ,out,st,e,p⟩;obtain⟨d,M,e⟩:=bind_some e;obtain⟨ρ',G,rfl⟩:=map_some e;refine⟨H0,A0,A,E,ρ,d,st,M,λv H' x r=>⟨H0,A0,A,E,ρ,d,ρ',st.mono x,r,G,λz B=>?_⟩⟩;obtain⟨A',q⟩:=B.shut (Sub.mem h);exact p A' z H' q
def IZ(J:It)(q:List Fact)(items:List D):Prop:=
 ∀(A:Av) (H:Hp),Live A H->(∀p∈q,p.Holds A H)->∀i,(items.length<=i->J.stop i H)/\∀d,items[i]?=some d->J.go i H/\∀x H',J.yld i H x H'->Ext A H H'/\Rep A H' d x
inductive tDI(O:List Nat)(f:Lv)(σ:L2.St)(H:Hp)(R:It->Hp->Prop):Prop
 | mk (H0:Hp) (A0 A:Av) (E:List Fact) (ρ:cU) (items:List D) (st:ST H0 A0 A E O σ H ρ) (e:f ρ=some items) (q:∀J H' E1,Ext A H H'->(∀p∈E1,p.Holds A H')->IZ J E1 items->R J H'):tDI O f σ H R
def PDI(X:Cx)(O:List Nat)(tg e:Expr)(f:Lv):Prop:=PI X tg e (tDI O f)
theorem PI.mono(h:PI X tg e t)(x:∀σ H Q,t' σ H Q->t σ H Q):PI X tg e t':=λpins s σ H Q I w=>h pins s σ H Q I (x σ H Q w)
theorem PI.or(h:PI X tg e t)(k:PI X tg e u):PI X tg e (λσ H Q=>t σ H Q\/u σ H Q):=λpins s σ H Q I w=>w.elim (h pins s σ H Q I) (k pins s σ H Q I)
theorem O8{a:Addr}{l:List D}{K:zae}:IZ (Itl K a) [.rep (.lst l) (.ref a)] l:=by
 intro A H F h i;have r:Rep A H (.lst l) (.ref a):=h _ (List.mem_singleton.mpr rfl);obtain⟨B,xs,e,h1,q⟩:=RepB.lst_inv (.of r);cases e;refine⟨λhi=>⟨xs,.inl h1,by rw[q.length];exact hi⟩,λd hd=>?_⟩;obtain⟨v,z,r1⟩:=q.get' hd;refine⟨⟨xs,v,.inl h1,z⟩,λx H' y=>?_⟩;obtain⟨rfl,y⟩:=y;have:=y xs (.inl h1);rw[z]at this;cases this;exact⟨Ext.refl _ _,r1⟩
theorem U1{a:Addr}{l:List D}{K:zae}:IZ (Itt K a) [.rep (.tup l) (.ref a)] l:=by
 intro A H F h i;have r:Rep A H (.tup l) (.ref a):=h _ (List.mem_singleton.mpr rfl);obtain⟨B,xs,e,h1,q⟩:=RepB.tup_inv (.of r);cases e;refine⟨λhi=>⟨xs,.inl (.inl h1),by rw[q.length];exact hi⟩,λd hd=>?_⟩;obtain⟨v,z,r1⟩:=q.get' hd;refine⟨⟨xs,v,.inl (.inl h1),z⟩,λx H' y=>?_⟩;obtain⟨rfl,y⟩:=y;have:=y xs (.inl (.inl h1));rw[z]at this;cases this;exact⟨Ext.refl _ _,r1⟩
noncomputable def aQ(lo c:Int)(n:Nat):List D:=(zam n).map λ(i:Nat)=>.int (lo+(i:Int)*c)
theorem bH(lo c:Int)(n:Nat):(aQ lo c n).length=n:=by simp[aQ]
theorem bX{lo c:Int}{n i:Nat}(h:(aQ lo c n)[i]?=some d):i<n/\d=.int (lo+(i:Int)*c):=by
 unfold aQ at h;rw[zaB]at h;by_cases hi:i<n
 ·rw[zcW hi]at h;cases h;exact⟨hi,rfl⟩
 ·rw[List.getElem?_eq_none (by simpa using hi)]at h;cases h
theorem K6{lo:Int}{n:Nat}:IZ (Itr lo n) [] (aQ lo 1 n):=by
 intro A H q h i;refine⟨λhi=>by rw[bH]at hi;exact hi,λd hd=>?_⟩;obtain⟨hi,rfl⟩:=bX hd;exact⟨hi,λx H' ⟨e,y⟩=>by subst e y;rw[Int.mul_one];exact⟨Ext.refl _ _,.int _⟩⟩
noncomputable def pN(i:Int):Bool:=decide (-1000000<=i) && decide (i<=1000000)
def bZ:List D->Option (List D)
 | [.int j]=>if pN j then some (aQ 0 1 j.toNat)else none
 | _=>none
theorem zX(h:pN i=true):-(2^62)<=i/\i<2^62:=by
 simp only[pN,zaQ,decide_eq_true_eq]at h
 lia
def lR(g:List D->Option (List D))(f:Lv):Lv:=λρ=>(f ρ).bind g
theorem RL.one(r:RL R A H [d] vs):∃v,vs=[v]/\R A H d v:=by
 cases r with|cons h t=>cases t;exact⟨_,rfl,h⟩
theorem RL.two(r:RL R A H [d,e] vs):∃v w,vs=[v,w]/\R A H d v/\R A H e w:=by
 cases r with|cons h t=>obtain⟨w,rfl,h2⟩:=RL.one t;exact⟨_,w,rfl,h,h2⟩
theorem wK(h:bZ ds=some l):∃j,ds=[.int j]/\pN j=true/\l=aQ 0 1 j.toNat:=by
 unfold bZ at h;split at h
 ·split at h
  ·cases h;exact⟨_,rfl,by assumption,rfl⟩
  ·cases h
 ·cases h
section
variable {tg a b c:Expr}{f:Lv}{p pos:Pos}
theorem BW(z:Gl X "range")(F:X.mg "range" = none)(B:v9 X O [a] f)(hs:zag [a] X.env=[(false,eval a X.env)]:=by rfl):PDI X O tg (.Call (.Name "range" p) [a] [] pos) (lR bZ f):=PI.mono (HJ z F B hs) <| by
 rintro σ H R ⟨H0,A0,A,E,ρ,items,st,e,q⟩;obtain⟨ds,J,e⟩:=bind_some e;refine⟨H0,A0,A,E,ρ,ds,st,J,λvs H1 G r1=>?_⟩;obtain⟨j,rfl,h,rfl⟩:=wK e;obtain⟨v,rfl,h1⟩:=r1.one;have:=h1.int_inv;subst this;exact⟨j,rfl,(zX h).1,(zX h).2,q _ H1 [] G (λ_ h=>nomatch h) K6⟩
end
def JB:Key->D
 | .inl i=>.int i
 | .inr x=>.str x
def NO(f:Ev):Lv:=λρ=>(f ρ).bind λd=>match d with
 | .lst l=>some l
 | .tup l=>some l
 | .dT l=>some (l.map λp=>.tup (p.1.map JB))
 | _=>none
theorem sU:∀k:List Key,RepL A H (k.map JB) (k.map kV)
 | []=>.nil
 | .inl i::k=>.cons (.int i) (sU k)
 | .inr x::k=>.cons (.str x) (sU k)
def T9(tl:TE):TI:=λσ H R=>tl σ H λx H1=>∃d kvs,x=.ref d/\((H1 d=some (.dT kvs)/\∀o,R (My.qv d o kvs) (upd H1 d (.frz o (.dT kvs))))\/∃o,H1 d=some (.frz o (.dT kvs))/\R (My.qv d o kvs) H1)
theorem LU(U:PE X l tl):PI X tg l (T9 tl):=by
 intro pins s σ H R I h;refine cR (U pins s σ H _ I h) λv z ⟨x,H1,J,r1,Y⟩=>?_
 obtain⟨d,kvs,rfl,q⟩:=Y;cases r1;have F:∀(o:Obj) (H2:Hp),(d == za6)=false->Inv X pins σ H2 z->z.heap.get? d=some o->ObjOk X.prog X.w H2 z.heap d (.dT kvs)->R (My.qv d o kvs) H2->wpAny (model X.prog X.w) X.A (pyIter (.ref d)) (PIE X pins σ tg R) X.xe z:=λo H2 lo B N ok q=>by
  obtain⟨_,_,es,ep,⟨o',r1,r2,r3⟩,G,_⟩:=My.tT ok;rw[N]at r1;cases r1;refine My.LC lo ⟨o,N,r2,r3⟩ ?_;refine⟨z.heap.objs.size,[z.heap.objs.size],_,_,_,rfl,B.kept (t':=z.toks) λb o e=>zan _ e,My.ID d _ o kvs es ep r3 G,⟨_,zaE _ rfl,rfl,rfl⟩,λb W=>?_,q⟩;have e:b=z.heap.objs.size:=by simpa using W
  subst e;exact B.fpOk (zai _) (B.hok.fresh (zai _))
 rcases q with⟨hd,q⟩|⟨o,hd,q⟩
 ·have ok:=(show ObjOk X.prog X.w H1 z.heap d (.dT kvs)from J.hok d _ hd)
  obtain⟨lo,_,es,ep,⟨o,r1,r2,r3⟩,G,_⟩:=My.tT ok;have B:=My.CO J hd r1;have M:=(show ObjOk X.prog X.w _ z.heap d (.frz o (.dT kvs))from B.hok d _ aH);exact F o _ lo B r1 M.2 (q o)
 ·have ok:=(show ObjOk X.prog X.w H1 z.heap d (.frz o (.dT kvs))from J.hok d _ hd)
  obtain⟨lo,_⟩:=My.tT ok.2;exact F o H1 lo J ok.1 ok.2 q
theorem EA{a:Addr}{o:Obj}{xs:List (List Key×V)}{l:List (List Key×D)}(e:xs.map (·.1)=l.map (·.1)):IZ (My.qv a o xs) [.fz a o (.dT xs)] (l.map λp=>.tup (p.1.map JB)):=by
 intro A H M h i;have q:H a=some (.frz o (.dT xs)):=h _ (List.mem_singleton.mpr rfl);have N:xs.length=l.length:=by have:=congrArg zbm e;simpa using this
 refine⟨λhi=>⟨q,by rw[zal]at hi;lia⟩,λd hd=>?_⟩;rw[zaB]at hd;obtain⟨p,z,rfl⟩:=map_some hd;have hi:i<l.length:=(List.getElem?_eq_some_iff.mp z).1;refine⟨⟨q,by lia⟩,λx H' ⟨B,k,v,b,G,J,F⟩=>?_⟩;subst B J;have:k=p.1:=by
  have h1:(xs.map (·.1))[i]?=some k:=by rw[zaB,G];rfl
  rw[e,zaB,z]at h1;exact(zay h1).symm
 subst this;exact⟨Ext.refl _ _,.tup F (sU _)⟩
theorem P4(n:¬ A d)(hd:H d=some u)(B:XY u)(F:¬ Kp u):Ext A H (upd H d (.frz o u)) where
 rd:=λb w r=>by
  by_cases e:b=d
  ·subst e
   rcases r with r|⟨q,r⟩
   ·rw[hd]at r;cases r;exact .inr ⟨o,aH⟩
   ·rw[hd]at r;cases r;exact B.elim
  ·exact eV e r
 kp:=λb w k r=>by rw[aE (λz=>by subst z;rw[hd]at r;cases r;exact F k)];exact r
 ow:=λb w G r=>by rw[aE (λz=>n (by rw[<- z];exact G))];exact r
 fz:=λb q w r=>by rw[aE (λz=>by subst z;rw[hd]at r;cases r;exact B)];exact r
theorem OU(h:PD X O e f):PDI X O tg e (NO f):=PI.mono (PI.or (PI.or (OZ h) (W2 h)) (LU h)) <| by
 rintro σ H R ⟨H0,A0,A,E,ρ,items,st,e,q⟩;obtain⟨d,G,e⟩:=bind_some e;cases d with
 | lst l=>
  cases e;refine .inl (.inl ⟨H0,A0,A,E,ρ,_,st,G,λv H1 F r1=>?_⟩);obtain⟨a,xs,rfl,h1,J⟩:=RepB.lst_inv (.of r1);exact⟨a,rfl,⟨xs,.inl h1⟩,q _ H1 [.rep (.lst items) (.ref a)] F (λp B=>by rw[List.mem_singleton.mp B];exact r1) O8⟩
 | tup l=>
  cases e;refine .inl (.inr ⟨H0,A0,A,E,ρ,_,st,G,λv H1 F r1=>?_⟩);obtain⟨a,xs,rfl,h1,J⟩:=RepB.tup_inv (.of r1);exact⟨a,rfl,⟨xs,.inl (.inl h1)⟩,q _ H1 [.rep (.tup items) (.ref a)] F (λp B=>by rw[List.mem_singleton.mp B];exact r1) U1⟩
 | dT l=>
  cases e;refine .inr ⟨H0,A0,A,E,ρ,_,st,G,λv H1 F r1=>?_⟩;cases r1 with
  | @dT _ a xs n h ee J=>
   refine⟨a,xs,rfl,?_⟩;rcases h with h|⟨o,h⟩
   ·refine .inl ⟨h,λo=>q _ _ [.fz a o (.dT xs)] (F.trans (P4 n h trivial λz=>z)) (λp B=>by rw[List.mem_singleton.mp B];exact aH) (EA ee)⟩
   ·exact .inr ⟨o,h,q _ H1 [.fz a o (.dT xs)] F (λp B=>by rw[List.mem_singleton.mp B];exact h) (EA ee)⟩
 | _=>exact nn e
def kC(g:Gv)(body:Sv):List D->cU->Option Out
 | [],ρ=>some (.nx ρ)
 | x::xs,ρ=>(g x ρ).bind λρ1=>(body ρ1).bind λo=>match o with
  | .nx ρ2=>kC g body xs ρ2
  | .ct ρ2=>kC g body xs ρ2
  | .bk ρ2=>some (.nx ρ2)
  | .rt d=>some (.rt d)
def BC(f:Lv)(g:Gv)(q:Sv):Sv:=λρ=>(f ρ).bind λitems=>kC g q items ρ
theorem ST.both(s:ST H0 A0 A E O σ H ρ)(h:∀p∈E1,p.Holds A H):ST H0 A0 A (E1++E) O σ H ρ:=
 {s with ext:=λp q=>by rcases List.mem_append.mp q with e|e;exact h p e;exact s.ext p e}
theorem OQ(hp:zb5 (model X.prog X.w) X.A X.env X.xe)(hc:X.calm=true)(hi:PDI X O tg iter f)(hg:BH X O1 tg g)(hb:PSDs X ⟨Ob,O1⟩ O1 body b O1)(h1:Sub O1 O=true)(h2:Sub O' O1=true)(h3:Sub O' Ob=true)
  (hs:∀x,zba iter X.env x=pure x:=by intro _;rfl):PSD X L O (.For tg iter body [] pos) (BC f g b) O':=PS.mono (M6 hp hc hi hg hb hs) λT σ H ⟨H0,A0,A,E,ρ,out,st,e,p⟩=>by
 obtain⟨items,e1,e⟩:=bind_some e;refine⟨H0,A0,A,E,ρ,items,st,e1,λJ H1 M x1 ad J1=>?_⟩;obtain⟨A1,af⟩:=((st.mono x1).both ad).shut (Sub.mem h1);refine⟨λi m σ H=>m=items.length-i/\i<=items.length/\∃ρ A,ST H0 A0 A (M++E) O1 σ H ρ/\kC g b (items.drop i) ρ=some out,⟨items.length,by simp,zaI _,ρ,A1,af,e⟩,?_⟩;rintro i m σ H ⟨rfl,al,ρ,A,st,e⟩;have hE:∀p∈M,p.Holds A H:=λp hp=>st.ext p (zbs _ hp)
 obtain⟨W,go⟩:=J1 A H st.live hE i;have fin:∀ {O2:List Nat} {A:Av} {σ:L2.St} {H:Hp} {ρ:cU},Sub O' O2=true->ST H0 A0 A (M++E) O2 σ H ρ->(∀A σ H,ST H0 A0 A E O' σ H ρ->T.nx σ H)->T.nx σ H:=λhs st k=>by
  obtain⟨B,ab⟩:=(st.less (E':=E) λq hq=>zaV _ hq).shut (Sub.mem hs);exact k B _ _ ab
 by_cases G:i<items.length
 ·have ed:items[i]?=some items[i]:=by simp[G]
  obtain⟨ae,hy⟩:=go _ ed;rw[zcX G]at e;obtain⟨U,eg,e⟩:=bind_some e;obtain⟨o,eo,e⟩:=bind_some e;refine .inr ⟨ae,λY H'=>∃z B,ST H0 A0 B (M++E) O1 Y H' z/\kC g b (items.drop (i+1)) z=some out,λY H' ⟨z,B,F,e2⟩=>⟨items.length-(i+1),by lia,rfl,G,z,B,F,e2⟩,λx H' y=>?_⟩;obtain⟨x2,r2⟩:=hy x H' y;refine⟨H0,A0,A,M++E,ρ,_,U,st.mono x2,r2,eg,λay s1=>⟨H0,A0,A,M++E,U,o,s1,eo,?_⟩⟩;cases o with
  | nx z=>exact λB N H2 F=>⟨z,B,F,e⟩
  | ct z=>exact λB N H2 F=>⟨z,B,F,e⟩
  | bk z=>cases e;exact λB N H2 F=>fin h3 F p
  | rt d=>cases e;exact p
 ·have aa:i=items.length:=by lia
  subst aa;rw[zdE]at e;cases e;exact .inl ⟨W (zai _),fin h2 st p⟩
end
noncomputable def gT(cells:List (Str×Addr)):List (Str×zbw)->List (Str×Addr)->List (Str×Addr)
 | [],cs=>cs
 | (x,k)::r,cs=>gT cells r (if k == .free then(x,(cells.lookup x).getD 0)::cs else cs)
theorem vJ:∀(names:List (Str×zbw)) (q:List (Str×Addr)),(∀y∈names,y.2=.free->∃c,env.cells.lookup y.1=some c)->
  (forIn names q (λ(p:Str×zbw) (r:List (Str×Addr))=>if(p.2 == .free)=true then(do let c <- cellOf env p.1;pure (zcD ((p.1,c)::r)))else(pure (zcD r):Sem _)))=(pure (gT env.cells names q):Sem _)
 | [],q,_=>by simp[gT]
 | (x,k)::r,q,h=>by
  have ih:=λq=>vJ r q λy G=>h y (zaq _ G)
  rw[zef];by_cases e:(k == zbn)=true
  ·have F:k=.free:=by simpa using e
   obtain⟨c,B⟩:=h (x,k) (zas ..) F;have z:env.cells.lookup x=some c:=B;simp only[e,if_true,gT];have:cellOf env x=pure c:=by unfold cellOf;rw[z]
   rw[this];simp only[pure_bind,z,Option.getD_some];exact ih _
  ·simp only[e,gT]
   simp only[zbq,if_false,pure_bind];exact ih _
theorem E9(h:∀y∈scope.names,y.2=.free->∃c,env.cells.lookup y.1=some c):closureFor scope env=pure (gT env.cells scope.names []):=by
 have:=vJ scope.names [] h;unfold closureFor;simp only[bind_pure];exact this
theorem sF:∀ {names:List (Str×zbw)} {cs:List (Str×Addr)} {c:Addr},(gT cells names cs).lookup x=some c->(∃q,cs.lookup x=some q/\c=q)\/((x,zbn)∈names/\c=(cells.lookup x).getD 0)
 | [],cs,c,h=>.inl ⟨c,h,rfl⟩
 | (y,k)::r,cs,c,h=>by
  rw[gT]at h;rcases sF h with⟨q,h1,h2⟩|⟨h1,h2⟩
  ·by_cases e:(k == zbn)=true
   ·rw[if_pos e,zbW]at h1
    by_cases ex:(x == y)=true
    ·rw[ex]at h1
     have z:x=y:=by simpa using ex
     have B:k=.free:=by simpa using e
     subst z B;cases h1;exact .inr ⟨zas ..,h2⟩
    ·rw[zdF]at ex
     rw[ex]at h1;exact .inl ⟨q,h1,h2⟩
   ·rw[if_neg e]at h1
    exact .inl ⟨q,h1,h2⟩
  ·exact .inr ⟨zaq _ h1,h2⟩
theorem sX:∀ {names:List (Str×zbw)} {cs:List (Str×Addr)},((x,zbn)∈names\/∃c,cs.lookup x=some c)->∃c,(gT cells names cs).lookup x=some c
 | [],cs,h=>h.elim (λh=>nomatch h) id
 | (y,k)::r,cs,h=>by
  rw[gT];apply sX;rcases h with h|⟨c,h⟩
  ·rcases List.mem_cons.mp h with e|e
   ·cases e
    refine .inr ⟨(cells.lookup x).getD 0,?_⟩;simp[zbW]
   ·exact .inl e
  ·right
   by_cases e:(k == zbn)=true
   ·rw[if_pos e,zbW]
    by_cases ex:(x == y)=true
    ·rw[ex];exact⟨_,rfl⟩
    ·rw[zdF]at ex;rw[ex];exact⟨c,h⟩
   ·rw[if_neg e];exact⟨c,h⟩
theorem fT{q:Type}{v:q}:∀ {l:List (Str×q)},l.lookup x=some v->(x,v)∈l
 | (y,w)::r,h=>by
  rw[zbW]at h;by_cases ex:(x == y)=true
  ·rw[ex]at h;cases h;rw[show x=y by simpa using ex];exact zas ..
  ·rw[zdF]at ex;rw[ex]at h;exact zaq _ (fT h)
noncomputable def A7(names q:List (Str×zbw)):Bool:=
 names.all λy=>y.2 != .cell && (y.2 != .local || names.lookup y.1 == some .local) && (y.2 != .free || q.lookup y.1 == some .cell)
theorem C8{X:Cx}{N:List Str}{scope:Scope}{n:Nat}(hk:scope.kind=.function)(h:A7 scope.names X.env.scope.names=true)(hc:X.env.cells=zb7 n X.env.scope.names []):My.Clo X N scope (gT X.env.cells scope.names []):=by
 have h':=List.all_eq_true.mp h;have Y:∀y∈scope.names,y.2≠.cell:=λy F=>by
  have:=h' y F;simp only[zaQ]at this;simpa using this.1.1
 have c2:∀y∈scope.names,y.2=.local->scope.names.lookup y.1=some .local:=λy F e=>by
  have:=h' y F;simp only[zaQ,zdG]at this;rcases this.1.2 with z|z
  ·rw[e]at z;exact absurd z (by decide)
  ·simpa using z
 have W:∀y∈scope.names,y.2=.free->∃c,X.env.cells.lookup y.1=some c:=λy F e=>by
  have:=h' y F;simp only[zaQ,zdG]at this;rcases this.2 with z|z
  ·rw[e]at z;exact absurd z (by decide)
  ·rw[hc];exact mU (sc:=X.env.scope) (by simpa using z)
 have B:∀x,((zbd scope X.env).names.lookup x=some .cell\/(zbd scope X.env).names.lookup x=some .free)->(x,zbn)∈scope.names:=λx hx=>by
  have J:∀M,(M=NameKind.cell\/M=zbn)->(x,M)∈(zbd scope X.env).names->(x,zbn)∈scope.names:=λM U hm=>by
   obtain⟨⟨y,k⟩,F,e⟩:=List.mem_map.mp hm;dsimp only at e;by_cases q:(k == zbn && X.env.scope.kind == .function && X.env.kindOf y == some .cell)=true
   ·rw[if_pos q]at e
    have:k=.free:=by simp only[zaQ]at q;simpa using q.1.1
    cases e;subst this;exact F
   ·rw[if_neg q]at e
    cases e;rcases U with z|z
    ·exact absurd z (Y _ F)
    ·subst z;exact F
  rcases hx with hx|hx
  ·exact J _ (.inl rfl) (fT hx)
  ·exact J _ (.inr rfl) (fT hx)
 refine⟨E9 W,hk,Y,c2,λx c e=>?_,λx hx=>sX (.inl (B x hx))⟩;rcases sF e with⟨c',z,_⟩|⟨z1,z2⟩
 ·cases z
 ·obtain⟨c0,G⟩:=W _ z1 rfl
  have G:X.env.cells.lookup x=some c0:=G;rw[z2,G];rfl
noncomputable def dU(X:Cx)(scope:Scope):List Str->List (Option Nat)->Prop
 | [],[]=>True
 | _::N,none::ms=>dU X scope N ms
 | x::N,some i::ms=>(X.N[i]?=some x/\((zbd scope X.env).names.lookup x == some NameKind.local)=false/\(X.env.kindOf x=some .cell\/X.env.kindOf x=some .free))/\dU X scope N ms
 | _,_=>False
noncomputable def i5{q:Type}(ms:List (Option Nat))(σ:List (Option q)):List (Option q):=ms.map λo=>o.bind λi=>(σ[i]?).join
theorem jL:∀ {N:List Str} {ms:List (Option Nat)},dU X scope N ms->ms.length=N.length/\∀(j:Nat) (x:Str) (i:Nat),N[j]?=some x->ms[j]?=some (some i)->X.N[i]?=some x/\(zbd scope X.env).names.lookup x≠some .local/\(X.env.kindOf x=some .cell\/X.env.kindOf x=some .free)
 | [],[],_=>⟨rfl,λj x i h _=>by simp at h⟩
 | y::N,none::ms,h=>by
  obtain⟨l,g⟩:=jL (N:=N) (ms:=ms) h;refine⟨by simp[l],λj x i h1 h2=>?_⟩;cases j with
  | zero=>simp at h2
  | succ j=>exact g j x i (by simpa using h1) (by simpa using h2)
 | y::N,some k::ms,h=>by
  obtain⟨l,g⟩:=jL (N:=N) (ms:=ms) h.2;refine⟨by simp[l],λj x i h1 h2=>?_⟩;cases j with
  | zero=>simp at h1 h2;subst h1 h2;exact⟨h.1.1,λz=>by have:=h.1.2.1;rw[z]at this;exact absurd this (by decide),h.1.2.2⟩
  | succ j=>exact g j x i (by simpa using h1) (by simpa using h2)
 | [],_::_,h=>h.elim
 | _::_,[],h=>h.elim
theorem gL{z:Type}{ms:List (Option Nat)}{σ:List (Option z)}{j:Nat}{v:z}(h:(i5 ms σ)[j]?=some (some v)):∃i:Nat,ms[j]?=some (some i)/\σ[i]?=some (some v):=by
 unfold i5 at h;rw[zaB]at h;obtain⟨o,B,q⟩:=map_some h;cases o with
 | none=>cases q
 | some i=>exact⟨i,B,rP q⟩
theorem AH{N:List Str}{ms:List (Option Nat)}(h:dU X scope N ms)(σ:L2.St):My.Start X N scope σ (i5 ms σ):=by
 obtain⟨l,g⟩:=jL h;refine⟨by unfold i5;rw[zal];exact l,λj x v h1 h2 _=>?_⟩;obtain⟨i,z,q⟩:=gL h2;obtain⟨a,b,c⟩:=g j x i h1 z;exact⟨b,i,a,q,c⟩
theorem ST.inner{E:List Fact}{O:List Nat}(s:ST H0 A0 A E O σ H ρ)(ms:List (Option Nat))(n:∀i,some i∈ms->i∉O):ST H0 A0 A E [] (i5 ms σ) H (i5 ms ρ) where
 ex:=s.ex
 sub:=s.sub
 l0:=s.l0
 live:=s.live
 len:=by simp[i5]
 val:=λj d h _=>by
  obtain⟨i,q,z⟩:=gL h;obtain⟨v,B,r⟩:=s.val i d z (n i (zaw q));refine⟨v,?_,r⟩;unfold i5;rw[zaB,q];show some ((σ[i]?).join)=_;rw[B];rfl
 own:=λj d _ h=>nomatch h
 inj:=λi j d d' a hi=>nomatch hi
 ext:=s.ext
def bA(g:Gv)(c:Bv)(f:Ev):List D->cU->Option (List D)
 | [],_=>some []
 | x::xs,ρ=>(g x ρ).bind λρ1=>(c ρ1).bind λb=>if b=true then(f ρ1).bind λd=>(bA g c f xs ρ1).bind λds=>some (d::ds)else bA g c f xs ρ1
def d6(ms:List (Option Nat))(it:Lv)(g:Gv)(c:Bv)(f:Ev):Ev:=λρ=>(it ρ).bind λitems=>if aZ items.length then(bA g c f items (i5 ms ρ)).map .lst else none
def eY:Bv:=λ_=>some true
theorem LB:My.DX X [] (tDT O eY):=λpins s σ H Q I ⟨H0,A0,A,E,ρ,b,st,e,q⟩=>My.QN pins s σ H Q I (by cases e;exact q H (Ext.refl _ _))
theorem LH(h:uS X O c g):My.DX X [c] (tDT O g):=My.ON h
section
variable {X:Cx}{O:List Nat}
theorem sE(a3:dU X scope N ms)(hn:(ms.all λo=>match o with|some i=>!O.contains i|none=>true)=true)(σ:L2.St)(H:Hp)(Q:VK) :
  tF O (d6 ms it g c f) σ H Q->My.GE (tDI O it) (tDG [] g) (tDT [] c) (tD Rep [] f) (My.Start X N scope) σ H Q:=λ⟨H0,A0,A,E,ρ,d,st,e,q⟩=>by
 obtain⟨items,e1,e⟩:=bind_some e;by_cases hz:aZ items.length=true
 case neg=>rw[if_neg hz]at e;cases e
 rw[if_pos hz]at e;obtain⟨ds,e2,rfl⟩:=map_some e;have a6:∀i,some i∈ms->i∉O:=λi hi z=>by
  have:=List.all_eq_true.mp hn _ hi;simp only[Bool.not_eq_true']at this;have z':O.contains i=true:=by simpa using z
  rw[z']at this;cases this
 refine⟨i5 ms σ,AH a3 σ,H0,A0,A,E,ρ,items,st,e1,λJ H1 E1 x1 a2 J1 D hD=>?_⟩;have a1:=(st.mono x1).live;have nA:¬ A D:=λz=>a1 D z hD
 have n0:H D=none:=x1.free hD
 -- the state of the block: the list that grows stands outside all that is borne
 refine⟨λi m aj us H2=>m=items.length-i/\i<=items.length/\∃ab done rest,ST H0 A0 (λb=>A b\/b=D) (E1++E) [] aj H2 ab/\H2 D=some (.lst us)/\Ext A H H2/\RepL (λb=>A b\/b=D) H2 done us/\bA g c f (items.drop i) ab=some rest/\done++rest=ds/\done.length<=i,⟨items.length,by simp,zaI _,i5 ms ρ,[],ds,?_,aH,x1.trans (Ext.new hD),.nil,e2,rfl,zai _⟩,?_⟩
 ·have s1:=((st.mono x1).both a2).inner ms a6
  have up:∀a,(A a\/a=D)->A a\/H1 a=none:=λa F=>F.imp id λz=>by rw[z];exact hD
  refine⟨s1.ex.trans (Ext.new hD),λa F=>.inl (s1.sub a F),s1.l0,λa F=>?_,s1.len,λi d h n=>?_,(λi d _ h=>nomatch h),(λi j d d' a hi=>nomatch hi),λp hp=>Fact.ext (Ext.new hD) (Fact.av up (s1.ext p hp))⟩
  ·rcases F with F|F
   ·rw[aE (λz=>by subst z;exact nA F)];exact s1.live a F
   ·subst F;rw[aH];exact λz=>nomatch z
  ·obtain⟨v,h1,h2⟩:=s1.val i d h n
   exact⟨v,h1,(h2.av up).ext (Ext.new hD)⟩
 ·rintro i m aj us H2 ⟨rfl,bo,ab,done,rest,s2,ah,x2,ad,G,ed,ba⟩
  obtain⟨al,go⟩:=J1 _ H2 s2.live (λp hp=>s2.ext p (zbs _ hp)) i;by_cases U:i<items.length
  ·have eg:items[i]?=some items[i]:=by simp[U]
   obtain⟨a5,hy⟩:=go _ eg;rw[zcX U]at G;obtain⟨M,e3,G⟩:=bind_some G;obtain⟨b,e4,G⟩:=bind_some G;have am:us.length<zaj:=by
    rw[ad.length];exact zcU ba (zaX U (gJ hz))
   refine .inr ⟨a5,am,λx H3 y=>?_⟩;obtain⟨x3,r3⟩:=hy x H3 y;refine⟨H0,A0,_,E1++E,ab,_,M,s2.mono x3,r3,e3,λbv s3=>⟨H0,A0,_,E1++E,M,b,s3,e4,λH5 x5=>?_⟩⟩;have Y:=x3.trans x5;have ao:H5 D=some (.lst us):=Y.ow D _ (.inr rfl) ah;have an:Ext A H H5:=x2.trans (Y.mono λa F=>.inl F);cases b with
   | false=>
    rw[if_neg zaA]at G;exact qd ⟨ao,items.length-(i+1),by lia,rfl,U,M,done,rest,s3.mono x5,ao,an,ad.ext Y,G,ed,by lia⟩
   | true=>
    rw[if_pos rfl]at G;refine Z7 ?_;obtain⟨d,e6,G⟩:=bind_some G;obtain⟨af,e7,G⟩:=bind_some G;cases G;refine⟨H0,A0,_,E1++E,M,d,s3.mono x5,e6,λv H6 x6 r6=>?_⟩;have ap:=Y.trans x6;have aa:H6 D=some (.lst us):=ap.ow D _ (.inr rfl) ah;refine⟨aa,items.length-(i+1),by lia,rfl,U,M,done++[d],af,?_,aH,?_,((ad.ext ap).append (.cons r6 .nil)).put (.inr rfl) aa trivial,e7,by rw[<- ed];simp,by rw[zbc];show done.length+1<=i+1;lia⟩
    ·have W:=s3.mono (x5.trans x6)
     have bb:H0 D=none:=st.ex.free n0;have B:∀b,H0 b≠none->b≠D:=λb hb z=>hb (by rw[z];exact bb)
     refine⟨⟨λb w r=>eV (B b (by rcases r with r|⟨_,r⟩ <;> (rw[r];exact λz=>nomatch z))) (W.ex.rd b w r),λb xs k r=>?_,λb w n r=>?_,λb q w r=>?_⟩,W.sub,W.l0,λa F=>?_,W.len,λi d h n=>?_,(λi d _ h=>nomatch h),(λi j d d' a hi=>nomatch hi),λp hp=>Fact.put (.inr rfl) aa trivial (W.ext p hp)⟩
     ·rw[aE (B b (by rw[r];exact λz=>nomatch z))];exact W.ex.kp b xs k r
     ·rw[aE (B b (by rw[r];exact λz=>nomatch z))];exact W.ex.ow b w n r
     ·rw[aE (B b (by rw[r];exact λz=>nomatch z))];exact W.ex.fz b q w r
     ·by_cases z:a=D
      ·subst z;rw[aH];exact λz=>nomatch z
      ·rw[aE z];exact W.live a F
     ·obtain⟨v,h1,h2⟩:=W.val i d h n
      exact⟨v,h1,h2.put (.inr rfl) aa trivial⟩
    ·have ac:Ext A H H6:=an.trans (x6.mono λa F=>.inl F)
     have B:∀b,H b≠none->b≠D:=λb hb z=>hb (by rw[z];exact n0)
     exact⟨λb w r=>eV (B b (by rcases r with r|⟨_,r⟩ <;> (rw[r];exact λz=>nomatch z))) (ac.rd b w r),
      λb xs k r=>by rw[aE (B b (by rw[r];exact λz=>nomatch z))];exact ac.kp b xs k r,
      λb w n r=>by rw[aE (B b (by rw[r];exact λz=>nomatch z))];exact ac.ow b w n r,
      λb q w r=>by rw[aE (B b (by rw[r];exact λz=>nomatch z))];exact ac.fz b q w r⟩
  ·have ax:i=items.length:=by lia
   subst ax;rw[zdE]at G;cases G;rw[zbv]at ed;subst ed;exact .inl ⟨al (zai _),q D H2 x2 n0 nA (.lst ah ad)⟩
theorem P7
  (G:X.calm=true) (z:My.Clo X N scope cl) (q:dU X scope N ms) (B:(ms.all λo=>match o with|some i=>!O.contains i|none=>true)=true) (hi:PDI X O tg iter it) (F:∀C s H fp,BH (My.aX X N scope cl C s H fp) [] tg g)
  (M:∀C s H fp,My.DX (My.aX X N scope cl C s H fp) ifs (tDT [] c)) (J:∀C s H fp,PD (My.aX X N scope cl C s H fp) [] elt f) (hs:∀x,zba iter X.env x=pure x:=by intro _;rfl) :
  PF X O (.ListComp elt [⟨tg,iter,ifs,0⟩] scope pos) (d6 ms it g c f):=PE.mono (My.E7 G z hi F M J hs) (sE q B)
def aG(n:Nat)(ds:List D):cU:=ds.map some++zcl (n-ds.length) none
def bG(n:Nat)(f:Sv)(ds:List D):Option D:=(f (aG n ds)).bind λo=>match o with
 | .rt d=>some d
 | .nx _=>some .non
 | _=>none
theorem ST.begun(q:Live A H)(r:RepL A H ds vs):ST H A A [] [] (L2.start N vs) H (aG N.length ds) where
 ex:=Ext.refl _ _
 sub:=λ_ h=>h
 l0:=q
 live:=q
 len:=by unfold L2.start aG;simp[r.length]
 val:=λi d h _=>by
  unfold aG at h;by_cases hi:i<ds.length
  ·rw[zdZ (by simpa using hi),zaB]at h
   obtain⟨d',G,z⟩:=map_some h;cases z;obtain⟨v,F,r3⟩:=r.get' G;refine⟨v,?_,r3⟩;unfold L2.start;rw[zdZ (by rw[zal,r.length];exact hi),zaB,F];rfl
  ·rw[zdi (by simpa using hi),List.getElem?_replicate]at h
   split at h <;> cases h
 own:=λi d _ h=>nomatch h
 inj:=λi j d d' a hi=>nomatch hi
 ext:=λp B=>nomatch B
theorem A3{P:zah}{w:World}{K:zae}{mg:Str->Option Value}{base:Heap}{x:Str}{st:Stmt}{N ps:List Str}{k:Nat}{f:Sv}{O':List Nat}(Df:My.DefAt K mg x st ps)(S:FnScope N ps (aK st))
  (h:∀(F:Addr) (B:Value) (A:zao) (z:List Env) (s:zad) (H:Hp) (E:XK),Room k (A.deeper (zaJ x (aK st) s.heap.objs.size F B))->∃g,PSDs (g9 uF P w K mg base N x (aK st) F B A z s H E).nox ⟨[],[]⟩ [] (bM st) g O'/\g=f) :
  Fn P w K mg base x (k+1) ps (bG N.length f):=by
 refine My.BodyOk.ok (λF B A z s H vs Q E hr hsp=>?_) Df S (λvs H Q E hsp=>by obtain⟨A,ds,d,_,_,e,_⟩:=hsp;exact e);obtain⟨J,ds,d,Y,r,e,M,q⟩:=hsp;obtain⟨o,eo,G⟩:=bind_some M;obtain⟨g,U,rfl⟩:=h F B A z s H E hr;refine⟨_,U,H,J,J,[],_,o,ST.begun Y r,eo,?_⟩;cases o with
 | nx ρ=>cases G;exact λA2 W H2 s2=>q .non H2 s2.ex .non
 | rt d'=>cases G;exact λv H2 x2 r2=>q v H2 x2 r2
 | bk _=>cases G
 | ct _=>cases G
noncomputable def MM(K:zae):Bool:=K.all λp=>match p.2.cls with
 | .type "list" => false
 | _=>true
theorem IJ{K:zae}(h:MM K=true){a:Addr}{o:Obj}(e:K.lookup a=some o):o.cls≠.type "list" := λz=>by
 have m:∀ {K:zae},K.lookup a=some o->(a,o)∈K:=by
  intro K;induction K with
  | nil=>intro e;cases e
  | cons p r ih=>
   intro e;rw[zbW]at e;by_cases q:(a == p.1)=true
   ·rw[q]at e;cases e;rw[show a=p.1 by simpa using q];exact zas ..
   ·rw[zdF]at q;rw[q]at e;exact zaq _ (ih e)
 have:=List.all_eq_true.mp h _ (m e);dsimp only at this;rw[z]at this;exact absurd this (by decide)
theorem WA{P:zah}{w:World}{K:zae}{mg:Str->Option Value}{base:Heap}{st:Stmt}{N:List Str}{k:Nat}{f:Sv}{O':List Nat}(hK:MM K=true)
  (h:∀(J:Addr) (F:Value) (A:zao) (B:List Env) (s:zad) (H:Hp) (E:XK),Room k (A.deeper (zaJ "law" (aK st) s.heap.objs.size J F))->∃g,PSDs (g9 uF P w K mg base N "law" (aK st) J F A B s H E).nox ⟨[],[]⟩ [] (bM st) g O'/\g=f)
  (hv:∀ns:List Int,ns.length<=63->bG N.length f [.lst (ns.map .int)]=some (.bl true)):My.BodyOk P w K mg base "law" st N k (My.A6 K):=by
 refine λJ F A B s H vs Q E hr hsp=>?_
 obtain⟨a,ns,rfl,U,hl,q⟩:=hsp;have hR:Rd H a (.lst (ns.map V.int)):=by
  rcases U with U|⟨o,_,_,e,c,_⟩
  ·exact U
  ·exact absurd c (IJ hK e)
 have Y:Live (λ_=>False) H:=λa h=>h.elim
 have G:∀ns:List Int,RepL (λ_=>False) H (ns.map .int) (ns.map V.int):=λns=>by
  induction ns with
  | nil=>exact .nil
  | cons n ns ih=>exact .cons (.int n) ih
 obtain⟨o,eo,M⟩:=bind_some (hv ns hl);obtain⟨g,W,rfl⟩:=h J F A B s H E hr;refine⟨_,W,H,λ_=>False,λ_=>False,[],_,o,ST.begun Y (.cons (.lst (λz=>z) hR (G ns)) .nil),eo,?_⟩;cases o with
 | nx ρ=>cases M
 | rt d'=>cases M;exact λv H2 x2 r2=>by cases r2;exact q _
 | bk _=>cases M
 | ct _=>cases M
end
mutual
def i9:D->Option My.Dx
 | .non=>some .non
 | .bl b=>some (.bl b)
 | .int i=>some (.int i)
 | .str x=>some (.str x)
 | .tup l=>(lM l).map .tup
 | .lst l=>(lM l).map .lst
 | .dK _=>none
 | .dT _=>none
 | .ob _ _=>none
 | .mem _ _=>none
def lM:List D->Option (List My.Dx)
 | []=>some []
 | d::ds=>(i9 d).bind λx=>(lM ds).bind λxs=>some (x::xs)
end
mutual
theorem pX:∀ {d e:D} {x:My.Dx},i9 d=some x->i9 e=some x->d=e
 | .non,e,x,h,k=>by cases h;cases e <;> simp[i9]at k <;> first|rfl|(obtain⟨_,_,z⟩:=k;cases z)
 | .bl b,e,x,h,k=>by cases h;cases e <;> simp[i9]at k <;> first|(rw[k])|(obtain⟨_,_,z⟩:=k;cases z)
 | .int b,e,x,h,k=>by cases h;cases e <;> simp[i9]at k <;> first|(rw[k])|(obtain⟨_,_,z⟩:=k;cases z)
 | .str b,e,x,h,k=>by cases h;cases e <;> simp[i9]at k <;> first|(rw[k])|(obtain⟨_,_,z⟩:=k;cases z)
 | .tup l,e,x,h,k=>by
  rw[i9]at h;obtain⟨xs,h1,rfl⟩:=map_some h;cases e with
  | tup m=>
   rw[i9]at k;obtain⟨ys,k1,k2⟩:=map_some k;cases k2;rw[sM h1 k1]
  | lst m=>rw[i9]at k;obtain⟨ys,k1,k2⟩:=map_some k;cases k2
  | _=>simp[i9]at k
 | .lst l,e,x,h,k=>by
  rw[i9]at h;obtain⟨xs,h1,rfl⟩:=map_some h;cases e with
  | lst m=>
   rw[i9]at k;obtain⟨ys,k1,k2⟩:=map_some k;cases k2;rw[sM h1 k1]
  | tup m=>rw[i9]at k;obtain⟨ys,k1,k2⟩:=map_some k;cases k2
  | _=>simp[i9]at k
 | .dK _,e,x,h,k=>by rw[i9]at h;cases h
 | .dT _,e,x,h,k=>by rw[i9]at h;cases h
 | .ob _ _,e,x,h,k=>by rw[i9]at h;cases h
 | .mem _ _,e,x,h,k=>by rw[i9]at h;cases h
theorem sM:∀ {d e:List D} {x:List My.Dx},lM d=some x->lM e=some x->d=e
 | [],e,x,h,k=>by
  rw[lM]at h;cases h;cases e with
  | nil=>rfl
  | cons e es=>
   rw[lM]at k;obtain⟨_,_,k⟩:=bind_some k;obtain⟨_,_,k⟩:=bind_some k;cases k
 | d::ds,e,x,h,k=>by
  rw[lM]at h;obtain⟨y,h1,h⟩:=bind_some h;obtain⟨ys,h2,h⟩:=bind_some h;cases h;cases e with
  | nil=>rw[lM]at k;cases k
  | cons e es=>
   rw[lM]at k;obtain⟨z,k1,k⟩:=bind_some k;obtain⟨zs,k2,k⟩:=bind_some k;cases k;rw[pX h1 k1,sM h2 k2]
end
mutual
theorem wZ{K:zae}{A:Av}{H:Hp}:∀ {d:D} {x:My.Dx} {v:V},i9 d=some x->Rep A H d v->My.Rep K H x v
 | .non,x,v,h,r=>by cases h;cases r;rw[My.Rep]
 | .bl b,x,v,h,r=>by cases h;cases r;rw[My.Rep]
 | .int b,x,v,h,r=>by cases h;cases r;rw[My.Rep]
 | .str b,x,v,h,r=>by cases h;cases r;rw[My.Rep]
 | .tup l,x,v,h,r=>by
  rw[i9]at h;obtain⟨xs,h1,rfl⟩:=map_some h;cases r with
  | tup hh rl=>rw[My.Rep];exact⟨_,_,rfl,.inl (.inl hh),mR h1 rl⟩
 | .lst l,x,v,h,r=>by
  rw[i9]at h;obtain⟨xs,h1,rfl⟩:=map_some h;cases r with
  | lst n hh rl=>rw[My.Rep];exact⟨_,_,rfl,.inl hh,mR h1 rl⟩
 | .dK _,x,v,h,r=>by rw[i9]at h;cases h
 | .dT _,x,v,h,r=>by rw[i9]at h;cases h
theorem mR{K:zae}{A:Av}{H:Hp}:∀ {d:List D} {x:List My.Dx} {v:List V},lM d=some x->RepL A H d v->My.RepL K H x v
 | [],x,v,h,r=>by rw[lM]at h;cases h;cases r;rw[My.RepL]
 | d::ds,x,v,h,r=>by
  rw[lM]at h;obtain⟨y,h1,h⟩:=bind_some h;obtain⟨ys,h2,h⟩:=bind_some h;cases h;cases r with
  | cons r rs=>rw[My.RepL];exact⟨_,_,rfl,wZ h1 r,mR h2 rs⟩
end
theorem jQ{K:zae}{A:Av}{H:Hp}{d:D}{x:My.Dx}{v:V}(h:i9 d=some x)(r:RepB A H d v):My.Rep K H x v:=by
 cases r with
 | of r=>exact wZ h r
 | lst hh rl=>
  rw[i9]at h;obtain⟨xs,h1,rfl⟩:=map_some h;rw[My.Rep];exact⟨_,_,rfl,.inl hh,mR h1 rl⟩
 | dK=>rw[i9]at h;cases h
 | dT=>rw[i9]at h;cases h
def kI(d:D):Bool:=match i9 d with
 | some x=>x.nb && decide (x.dep<=60)
 | none=>false
noncomputable def XF:D->Bool
 | .tup _=>true | .lst _=>true|_=>false
noncomputable def SW:D->D->Bool
 | .non,.non=>true | .non,.int _=>true | .int _,.non=>true | .non,.bl _=>true | .bl _,.non=>true | .non,.str _=>true | .str _,.non=>true
 | .int _,.int _=>true | .bl _,.bl _=>true | .str _,.str _=>true
 | .int _,.str _=>true | .str _,.int _=>true | .bl _,.str _=>true | .str _,.bl _=>true
 | _,_=>false
open Classical in
def GO(d e:D):Option Bool:=if SW d e=true\/(XF d=true/\XF e=true/\kI d=true/\kI e=true)then some (decide (d=e))else none
def i4(d e:D):Option D:=(GO d e).map .bl
def uR(d e:D):Option D:=(GO d e).map λb=>.bl (!b)
theorem NB(h:SW d e=true)(r:RepB A H d v)(s:RepB A H e w):XD v w=true/\(v=w↔d=e):=by
 cases d with
 | non=>have:=r.non_inv;subst this;cases e <;> first|exact ff h|(have:=s.non_inv;subst this;exact⟨rfl,by simp⟩)|(have:=s.int_inv;subst this;exact⟨rfl,by simp⟩)|(have:=s.bl_inv;subst this;exact⟨rfl,by simp⟩)|(have:=s.str_inv;subst this;exact⟨rfl,by simp⟩)
 | int i=>have:=r.int_inv;subst this;cases e <;> first|exact ff h|(have:=s.non_inv;subst this;exact⟨rfl,by simp⟩)|(have:=s.int_inv;subst this;exact⟨rfl,by simp⟩)|(have:=s.bl_inv;subst this;exact⟨rfl,by simp⟩)|(have:=s.str_inv;subst this;exact⟨rfl,by simp⟩)
 | bl b=>have:=r.bl_inv;subst this;cases e <;> first|exact ff h|(have:=s.non_inv;subst this;exact⟨rfl,by simp⟩)|(have:=s.int_inv;subst this;exact⟨rfl,by simp⟩)|(have:=s.bl_inv;subst this;exact⟨rfl,by simp⟩)|(have:=s.str_inv;subst this;exact⟨rfl,by simp⟩)
 | str x=>have:=r.str_inv;subst this;cases e <;> first|exact ff h|(have:=s.non_inv;subst this;exact⟨rfl,by simp⟩)|(have:=s.int_inv;subst this;exact⟨rfl,by simp⟩)|(have:=s.bl_inv;subst this;exact⟨rfl,by simp⟩)|(have:=s.str_inv;subst this;exact⟨rfl,by simp⟩)
 | _=>exact ff h
section
variable {X:Cx}{O:List Nat}
theorem OpR.orM(h:OpR X f r)(h':OpR X f r')(x:∀a b H Q,r2 a b H Q->r a b H Q\/r' a b H Q):OpR X f r2:=OpR.mono (OpR.or h h') x
theorem nZ(h:kI d=true):∃x,i9 d=some x/\x.nb=true/\x.dep<=60:=by
 unfold kI at h;cases e:i9 d with
 | none=>rw[e]at h;cases h
 | some x=>rw[e]at h;simp only[zaQ,decide_eq_true_eq]at h;exact⟨x,rfl,h.1,h.2⟩
theorem GF(h:XF d=true)(e:i9 d=some x):x.seq=true:=by
 cases d with
 | tup l=>rw[i9]at e;obtain⟨xs,_,rfl⟩:=map_some e;rfl
 | lst l=>rw[i9]at e;obtain⟨xs,_,rfl⟩:=map_some e;rfl
 | _=>exact ff h
theorem YN(hu:X.A.units+64<cLine):lQ X (zaC .Eq) i4:=OpR.orM ZK (My.VR hu) <| by
 rintro x y H Q ⟨A,dx,N,d,lv,U,W,e,q⟩;obtain⟨b,F,rfl⟩:=map_some e;unfold GO at F;split at F
 case isFalse=>cases F
 rename_i hc;cases F;rcases hc with hs|⟨s1,s2,k1,k2⟩
 ·left
  obtain⟨h1,h2⟩:=NB hs U W;refine⟨h1,?_⟩;have:decide (x=y)=@decide (dx=N) (zcb _):=decide_eq_decide.mpr h2;rw[this];exact q _ H (Ext.refl _ _) (.bl _)
 ·right
  obtain⟨J,G,a2,Y⟩:=nZ k1;obtain⟨M,B,b2,b3⟩:=nZ k2;refine⟨J,M,jQ G U,jQ B W,GF s1 G,GF s2 B,a2,b2,Y,?_⟩;have:@decide (J=M) (zcb _)=@decide (dx=N) (zcb _):=decide_eq_decide.mpr ⟨λz=>pX G (z ▸ B),λz=>by subst z;rw[G]at B;exact zay B⟩;show Q (.bl (@decide (J=M) (zcb _))) H;rw[this];exact q _ H (Ext.refl _ _) (.bl _)
theorem ZR(hu:X.A.units+64<cLine):lQ X (zaC .NotEq) uR:=OpR.orM X3 (My.T8 hu) <| by
 rintro x y H Q ⟨A,dx,N,d,lv,U,W,e,q⟩;obtain⟨b,F,rfl⟩:=map_some e;unfold GO at F;split at F
 case isFalse=>cases F
 rename_i hc;cases F;rcases hc with hs|⟨s1,s2,k1,k2⟩
 ·left
  obtain⟨h1,h2⟩:=NB hs U W;refine⟨h1,?_⟩;have:decide (x=y)=@decide (dx=N) (zcb _):=decide_eq_decide.mpr h2;rw[this];exact q _ H (Ext.refl _ _) (.bl _)
 ·right
  obtain⟨J,G,a2,Y⟩:=nZ k1;obtain⟨M,B,b2,b3⟩:=nZ k2;refine⟨J,M,jQ G U,jQ B W,GF s1 G,GF s2 B,a2,b2,Y,?_⟩;have:@decide (J=M) (zcb _)=@decide (dx=N) (zcb _):=decide_eq_decide.mpr ⟨λz=>pX G (z ▸ B),λz=>by subst z;rw[G]at B;exact zay B⟩;show Q (.bl (!@decide (J=M) (zcb _))) H;rw[this];exact q _ H (Ext.refl _ _) (.bl _)
noncomputable def fP:D->Bool
 | .non=>true|_=>false
def JD(d e:D):Option D:=if fP e then some (.bl (fP d))else none
def GA(d e:D):Option D:=if fP e then some (.bl (!fP d))else none
theorem FL(r:RepB A H d v):decide (v=.non)=fP d:=by
 cases d with
 | non=>have:=r.non_inv;subst this;rfl
 | bl b=>have:=r.bl_inv;subst this;rfl
 | int b=>have:=r.int_inv;subst this;rfl
 | str b=>have:=r.str_inv;subst this;rfl
 | tup l=>obtain⟨_,_,rfl,_⟩:=r.tup_inv;rfl
 | lst l=>obtain⟨_,_,rfl,_⟩:=r.lst_inv;rfl
 | dK l=>obtain⟨_,_,rfl,_⟩:=r.dK_inv;rfl
 | dT l=>obtain⟨_,_,rfl,_⟩:=r.dT_inv;rfl
 | ob C l=>obtain⟨_,_,_,rfl,_⟩:=r.ob_inv;rfl
 | mem d f=>obtain⟨_,rfl,_⟩:=r.mem_inv;rfl
theorem V8:lQ X (zaC .Is) JD:=OpR.mono VI <| by
 rintro x y H Q ⟨A,dx,F,d,G,B,z,e,q⟩;unfold JD at e;cases F with
 | non=>cases e;have:=z.non_inv;subst this;exact⟨rfl,by rw[FL B];exact q _ H (Ext.refl _ _) (.bl _)⟩
 | _=>exact nn e
theorem O5:lQ X (zaC .IsNot) GA:=OpR.mono QC <| by
 rintro x y H Q ⟨A,dx,F,d,G,B,z,e,q⟩;unfold GA at e;cases F with
 | non=>cases e;have:=z.non_inv;subst this;exact⟨rfl,by rw[FL B];exact q _ H (Ext.refl _ _) (.bl _)⟩
 | _=>exact nn e
theorem Inv.lstR(I:Inv X pins σ H s)(B:Rd H l (.lst xs)):xs.length<=zaj/\∃(q:List Value) (n:Nat),Vals xs q/\xs.length=q.length/\s.heap.get? l=some {cls:=.type "list",data:=.seq q.toArray n}:=by
 obtain⟨z,q,n,r,e⟩:=(show ObjOk X.prog X.w H s.heap l (.lst xs)from B.ok I.hok);exact⟨z,q,n,r,r.length,e⟩
def X6:R2:=λx y H Q=>∃l b xs zs,x=.ref l/\y=.ref b/\Rd H l (.lst xs)/\Rd H b (.lst zs)/\xs.length+zs.length<=zaj/\∀p,H p=none->Q (.ref p) (upd H p (.lst (xs++zs)))
theorem QM:OpR X (zaM .Add) X6:=by
 intro pins s σ H x y v u Q I W Y h;obtain⟨l,b,xs,zs,rfl,rfl,N,J,hz,q⟩:=h;cases W;cases Y;obtain⟨z,F,n,r,hl,e⟩:=Inv.lstR I N;obtain⟨z2,B,n2,r2,G,U⟩:=Inv.lstR I J;refine PySem.P.add_list e U ?_ (by rw[zax,zax];lia);have M:F.toArray++B.toArray=(F++B).toArray:=by simp
 rw[M];exact⟨.ref _,_,I.lnew (t':=s.toks) (r.append r2) (by rw[zbc];lia),rfl,q _ I.fresh⟩
end
section
variable {X:Cx}{O:List Nat}
theorem RepL.nil_iff(r:RepL A H ds vs):vs=[]↔ds=[]:=by cases r <;> simp
def v6:D->D->Option D
 | .int i,.int j=>some (.int (i+j))
 | .str i,.str j=>if aZ (i.length+j.length)then some (.str (i++j))else none
 | .lst l,.lst m=>if aZ (l.length+m.length)then some (.lst (l++m))else none
 | .tup (a::l),.tup m=>if aZ (l.length+1+m.length)then some (.tup (a::l++m))else none
 | _,_=>none
theorem W4:lQ X (zaM .Add) v6:=OpR.mono (OpR.or (OpR.or UA BN) (OpR.or QM QV)) <| by
 rintro x y H Q ⟨A,dx,G,d,N,J,M,e,q⟩;cases dx with
 | int i=>
  cases G with
  | int j=>cases e;have:=J.int_inv;subst this;have:=M.int_inv;subst this;exact .inl (.inl ⟨i,j,rfl,rfl,q _ H (Ext.refl _ _) (.int _)⟩)
  | _=>exact nn e
 | str i=>
  cases G with
  | str j=>
   simp only[v6]at e;by_cases B:aZ (i.length+j.length)=true
   ·rw[if_pos B]at e;cases e;have:=J.str_inv;subst this;have:=M.str_inv;subst this
    exact .inl (.inr ⟨i,j,rfl,rfl,gJ B,q _ H (Ext.refl _ _) (.str _)⟩)
   ·rw[if_neg B]at e;cases e
  | _=>exact nn e
 | lst l=>
  cases G with
  | lst m=>
   simp only[v6]at e;by_cases B:aZ (l.length+m.length)=true
   ·rw[if_pos B]at e;cases e
    obtain⟨a,xs,rfl,h1,r1⟩:=J.lst_inv;obtain⟨b,ys,rfl,h2,r2⟩:=M.lst_inv;exact .inr (.inl ⟨a,b,xs,ys,rfl,rfl,h1,h2,by rw[r1.length,r2.length];exact gJ B,λp F=>q _ _ (Ext.new F) (.lst (λz=>N p z F) (.inl aH) ((r1.append r2).ext (Ext.new F)))⟩)
   ·rw[if_neg B]at e;cases e
  | _=>exact nn e
 | tup l=>
  cases l with
  | nil=>cases G <;> exact nn e
  | cons a0 l=>
   cases G with
   | tup m=>
    simp only[v6]at e;by_cases B:aZ (l.length+1+m.length)=true
    ·rw[if_pos B]at e;cases e
     obtain⟨a,xs,rfl,h1,r1⟩:=J.tup_inv;obtain⟨b,ys,rfl,h2,r2⟩:=M.tup_inv;refine .inr (.inr ⟨a,b,xs,ys,rfl,rfl,.inl (.inl h1),.inl (.inl h2),λz=>(by have:=r1.nil_iff.mp z;cases this),by rw[r1.length,r2.length];exact gJ B,λz=>?_,λ_ p F=>q _ _ (Ext.new F) (.tup aH ((r1.append r2).ext (Ext.new F)))⟩);refine q _ H (Ext.refl _ _) (.tup h1 ?_);have:=r2.nil_iff.mp z;subst this;rw[zbv];exact r1
    ·rw[if_neg B]at e;cases e
   | _=>exact nn e
 | _=>exact nn e
noncomputable def iV:List D->Option (List Int)
 | []=>some []
 | .int i::ds=>(iV ds).map (i::·)
 | _=>none
theorem fU:∀ {ds:List D} {ns:List Int} {vs:List V},iV ds=some ns->RepL A H ds vs->vs=ns.map V.int
 | [],ns,vs,h,r=>by cases h;cases r;rfl
 | .int i::ds,ns,vs,h,r=>by
  obtain⟨ms,h1,rfl⟩:=map_some h;cases r with
  | cons r rs=>cases r;rw[fU h1 rs];rfl
def qu:D->D->Option D
 | .int i,.int j=>some (.bl (decide (i<j)))
 | .tup l,.tup m=>(iV l).bind λns=>(iV m).map λms=>.bl (HT.lexLt ns ms)
 | _,_=>none
theorem T2(J:X.A.units<cLine):lQ X (zaC .Lt) qu:=OpR.mono (OpR.or ZF (VS J)) <| by
 rintro x y H Q ⟨A,dx,z,d,N,B,F,e,q⟩;cases dx with
 | int i=>
  cases z with
  | int j=>cases e;have:=B.int_inv;subst this;have:=F.int_inv;subst this;exact .inl ⟨i,j,rfl,rfl,q _ H (Ext.refl _ _) (.bl _)⟩
  | _=>exact nn e
 | tup l=>
  cases z with
  | tup m=>
   obtain⟨ns,M,e⟩:=bind_some e;obtain⟨ms,G,rfl⟩:=map_some e;obtain⟨a,xs,rfl,h1,r1⟩:=B.tup_inv;obtain⟨b,ys,rfl,h2,r2⟩:=F.tup_inv;have:=fU M r1;subst this;have:=fU G r2;subst this;exact .inr ⟨a,b,ns,ms,rfl,rfl,.inl (.inl h1),.inl (.inl h2),q _ H (Ext.refl _ _) (.bl _)⟩
  | _=>exact nn e
 | _=>exact nn e
open Classical in
def SJ(x y:D):Option Bool:=match y with
 | .dK _=>(nK y x).map (·.isSome)
 | .dT _=>(nK y x).map (·.isSome)
 | .lst l=>if kI x=true/\l.all kI=true then some (l.any λd=>decide (d=x))else none
 | .tup l=>if kI x=true/\l.all kI=true then some (l.any λd=>decide (d=x))else none
 | _=>none
def yA(x y:D):Option D:=(SJ x y).map λb=>.bl (!b)
open Classical in
theorem zU(I:Inv X pins σ H s)(hu:Ar.units+60<cLine)(kx:kI x=true)(rx:RepB A H x v)(ru:RelV v u)(kl:l.all kI=true)(rl:RepL A H l xs)(W:Vals xs B) :
  ∃f:Value->Bool,(∀y∈B,SeqAt.EqAt Ar s y u (f y))/\B.any f=l.any λd=>decide (d=x):=by
 obtain⟨F,G,a2,a3⟩:=nZ kx;have J:My.Rep X.K H F v:=jQ G rx;let g:Value->Bool:=λy=>decide (∃w z,RelV w y/\My.Rep X.K H z w/\z=F)
 have one:∀ {d:D} {w:V} {y:Value},kI d=true->Rep A H d w->RelV w y->g y=decide (d=x)/\SeqAt.EqAt Ar s y u (g y):=by
  intro d w y kd rd Y;obtain⟨z,U,b2,b3⟩:=nZ kd;have N:My.Rep X.K H z w:=wZ U rd;have e:g y=decide (z=F):=by
   refine decide_eq_decide.mpr ⟨λ⟨w',z',q1,q2,q3⟩=>?_,λe=>⟨w,z,Y,N,e⟩⟩;have:=RelV.inj Y q1;subst this;rw[My.Rep.inj I _ _ _ N q2,q3]
  have M:decide (z=F)=decide (d=x):=decide_eq_decide.mpr ⟨λq=>pX U (q ▸ G),λq=>by subst q;rw[U]at G;exact zay G⟩;refine⟨e.trans M,?_⟩;rw[e];exact My.xQ I 60 Ar z F w v y u b3 hu b2 a2 N J Y ru
 refine⟨g,?_,?_⟩
 ·intro y hy
  obtain⟨j,hj⟩:=List.mem_iff_getElem?.mp hy;have aa:=W.length;have ap:j<B.length:=(List.getElem?_eq_some_iff.mp hj).1;have hx:xs[j]?=some (xs[j]'(by lia)):=zaS (by lia);obtain⟨u',e1,r1⟩:=W.get hx;rw[hj]at e1;cases e1;obtain⟨d,M,r2⟩:=rl.get hx;exact(one (List.all_eq_true.mp kl _ (zaw M)) r2 r1).2
 ·have all:∀(l:List D) (xs:List V) (B:List Value),l.all kI=true->RepL A H l xs->Vals xs B->B.any g=l.any λd=>decide (d=x):=by
   intro l;induction l with
   | nil=>intro xs B _ r v;cases r;cases v;rfl
   | cons d l ih=>
    intro xs B k r v;cases r with
    | cons h t=>
     cases v with
     | cons r rs=>
      rw[List.all_cons,zaQ]at k;rw[zb9,zb9,(one k.1 h r).1,ih _ _ k.2 t rs]
  exact all l xs B kl rl W
theorem LJ(hu:X.A.units+64<cLine):lQ X (zaC .NotIn) yA:=by
 intro pins s σ H x y v u Q I G M h;obtain⟨A,dx,dy,d,lv,U,Y,e,q⟩:=h;obtain⟨b,z,rfl⟩:=map_some e;have fin:∀k,k=(!b)->EP X pins σ Q (.bool k) s:=λk hk=>⟨.bl (!b),H,I,by rw[hk];rfl,q _ H (Ext.refl _ _) (.bl _)⟩
 have J:X.A.units+1<cLine:=by lia
 have dict:∀o,nK dy dx=some o->o.isSome=b->wpAny (model X.prog X.w) X.A (zaC .NotIn v u) (EP X pins σ Q) X.xe s:=λo B F=>by
  obtain⟨a,ov,rfl,_,g,e3⟩:=sI B Y U;cases M;refine Q9 J I g G λs' I'=>⟨.bl (!b),H,I',?_,q _ H (Ext.refl _ _) (.bl _)⟩
  have:ov.isSome=b:=by rw[<- F];rcases e3 with⟨rfl,rfl⟩|⟨_,_,rfl,rfl,_⟩ <;> rfl
  rw[this];rfl
 cases dy with
 | dK l=>obtain⟨o,B,F⟩:=map_some z;exact dict o B F
 | dT l=>obtain⟨o,B,F⟩:=map_some z;exact dict o B F
 | lst l=>
  simp only[SJ]at z;split at z
  case isFalse=>cases z
  rename_i hc;cases z;obtain⟨a,xs,rfl,h1,r1⟩:=Y.lst_inv;cases M;obtain⟨W,r,N,hz⟩:=I.list (.inl h1);obtain⟨f,f1,f2⟩:=zU (Ar:=X.A.in1) I (by show X.A.units+1+60<cLine;lia) hc.1 U G hc.2 r1 r;refine SeqAt.notIn_listAt f (My.PlainL.isList N) (λw hw=>f1 w (by simpa using hw)) (fin _ ?_);rw[<- f2];simp
 | tup l=>
  simp only[SJ]at z;split at z
  case isFalse=>cases z
  rename_i hc;cases z;obtain⟨a,xs,rfl,h1,r1⟩:=Y.tup_inv;cases M;obtain⟨W,r,N,hz⟩:=I.tuple (.inl (.inl h1));obtain⟨f,f1,f2⟩:=zU (Ar:=X.A.in1) I (by show X.A.units+1+60<cLine;lia) hc.1 U G hc.2 r1 r;refine SeqAt.notIn_tupleAt f N (λw hw=>f1 w (by simpa using hw)) (fin _ ?_);rw[<- f2];simp
 | _=>cases z
def gB:List D->Option D
 | [.lst l]=>some (.int l.length)
 | [.tup l]=>some (.int l.length)
 | [.str z]=>if aZ z.length then some (.int z.length)else none
 | [.dK l]=>some (.int l.length)
 | _=>none
theorem WS:j9 X (.builtin "len") gB:=by
 intro pins s σ H xs G Q I r h;obtain⟨A,ds,d,W,B,e,q⟩:=h
 match ds,B,e with
 | [.lst l],B,e=>
  cases e;obtain⟨v,rfl,h1⟩:=B.one;obtain⟨a,xs,rfl,h2,r2⟩:=h1.lst_inv;exact sW pins s σ H _ G Q I r ⟨_,_,rfl,.inl ⟨xs,.inl h2,rfl⟩,by rw[r2.length];exact q _ H (Ext.refl _ _) (.int _)⟩
 | [.tup l],B,e=>
  cases e;obtain⟨v,rfl,h1⟩:=B.one;obtain⟨a,xs,rfl,h2,r2⟩:=h1.tup_inv;exact sW pins s σ H _ G Q I r ⟨_,_,rfl,.inr ⟨xs,.inl (.inl h2),rfl⟩,by rw[r2.length];exact q _ H (Ext.refl _ _) (.int _)⟩
 | [.str z],B,e=>
  simp only[gB]at e;by_cases F:aZ z.length=true
  ·rw[if_pos F]at e;cases e
   obtain⟨v,rfl,h1⟩:=B.one;have:=h1.str_inv;subst this;exact sW pins s σ H _ G Q I r ⟨_,_,rfl,⟨gJ F,rfl⟩,q _ H (Ext.refl _ _) (.int _)⟩
  ·rw[if_neg F]at e;cases e
 | [.dK l],B,e=>
  cases e;obtain⟨v,rfl,h1⟩:=B.one;obtain⟨a,xs,rfl,h2,N,r2⟩:=h1.dK_inv;obtain⟨u,rfl,M⟩:=vals1 r;cases M;have U:xs.length=l.length:=by have:=congrArg zbm N;simpa using this
  exact ZI I h2 λt s' J=>⟨.int xs.length,H,J,⟨t,rfl⟩,by rw[U];exact q _ H (Ext.refl _ _) (.int _)⟩
 | [],_,e=>cases e
 | [.non],_,e=>cases e
 | [.bl _],_,e=>cases e
 | [.int _],_,e=>cases e
 | [.dT _],_,e=>cases e
 | _::_::_,_,e=>simp[gB]at e
noncomputable def A8:List D->Option D
 | [.int i,.int j]=>some (.int (if j<i then j else i))
 | _=>none
noncomputable def GK:List D->Option D
 | [.int i,.int j]=>some (.int (if j>i then j else i))
 | _=>none
theorem y3{ds:List D}{g:Int->Int->D}(h:(match ds with|[.int i,.int j]=>some (g i j)|_=>none)=some d):∃i j,ds=[.int i,.int j]/\d=g i j:=by
 split at h
 ·cases h;exact⟨_,_,rfl,rfl⟩
 ·cases h
theorem RX(z:X.calm=true):j9 X (.builtin "min") A8:=CallR.mono (HW z) <| by
 rintro xs H Q ⟨A,ds,d,B,r,e,q⟩;obtain⟨i,j,rfl,rfl⟩:=y3 (g:=λi j=>.int (if j<i then j else i)) e;obtain⟨v,w,rfl,h1,h2⟩:=r.two;have:=h1.int_inv;subst this;have:=h2.int_inv;subst this;exact⟨i,j,rfl,q _ H (Ext.refl _ _) (.int _)⟩
theorem RZ(z:X.calm=true):j9 X (.builtin "max") GK:=CallR.mono (IT z) <| by
 rintro xs H Q ⟨A,ds,d,B,r,e,q⟩;obtain⟨i,j,rfl,rfl⟩:=y3 (g:=λi j=>.int (if j>i then j else i)) e;obtain⟨v,w,rfl,h1,h2⟩:=r.two;have:=h1.int_inv;subst this;have:=h2.int_inv;subst this;exact⟨i,j,rfl,q _ H (Ext.refl _ _) (.int _)⟩
noncomputable def jW:List D->Option D
 | [.lst l]=>some (.tup l)
 | [.tup l]=>some (.tup l)
 | _=>none
noncomputable def F9:List D->Option D
 | [.lst l]=>some (.lst l)
 | [.tup l]=>some (.lst l)
 | _=>none
theorem EU{ds:List D}{g:List D->D}(h:(match ds with|[.lst l]=>some (g l)|[.tup l]=>some (g l)|_=>none)=some d):∃l,(ds=[.lst l]\/ds=[.tup l])/\d=g l:=by
 split at h
 ·cases h;exact⟨_,.inl rfl,rfl⟩
 ·cases h;exact⟨_,.inr rfl,rfl⟩
 ·cases h
theorem jS:j9 X (.type "tuple") jW:=CallR.mono uJ <| by
 rintro xs H Q ⟨A,ds,d,F,r,e,q⟩;obtain⟨l,B,rfl⟩:=EU (g:=.tup) e;rcases B with rfl|rfl
 ·obtain⟨v,rfl,h1⟩:=r.one
  obtain⟨a,xs,rfl,h2,r2⟩:=h1.lst_inv;exact⟨a,xs,rfl,.inl ⟨.inl h2,λp z=>q _ _ (Ext.new z) (.tup aH (r2.ext (Ext.new z)))⟩⟩
 ·obtain⟨v,rfl,h1⟩:=r.one
  obtain⟨a,xs,rfl,h2,r2⟩:=h1.tup_inv;exact⟨a,xs,rfl,.inr ⟨.inl (.inl h2),q _ H (Ext.refl _ _) (.tup h2 r2)⟩⟩
theorem OY:GG X (.type "list") F9:=CallR.mono wF <| by
 rintro xs H Q ⟨A,ds,d,F,r,e,q⟩;obtain⟨l,G,rfl⟩:=EU (g:=.lst) e;rcases G with rfl|rfl
 ·obtain⟨v,rfl,h1⟩:=r.one
  obtain⟨a,xs,rfl,h2,r2⟩:=h1.lst_inv;exact⟨a,xs,rfl,.inl (.inl h2),λp B=>q p _ (Ext.new B) B (λz=>F p z B) (.lst aH (r2.fresh B))⟩
 ·obtain⟨v,rfl,h1⟩:=r.one
  obtain⟨a,xs,rfl,h2,r2⟩:=h1.tup_inv;exact⟨a,xs,rfl,.inr (.inl (.inl h2)),λp B=>q p _ (Ext.new B) B (λz=>F p z B) (.lst aH (r2.fresh B))⟩
end
section
variable {X:Cx}{O:List Nat}
def tyN:D->String
 | .non => "NoneType" | .bl _ => "bool" | .int _ => "int" | .str _ => "str" | .tup _ => "tuple" | .lst _ => "list" | .dK _ => "dict" | .dT _ => "dict" | .ob _ _ => "" | .mem _ _ => ""
def uB:D->Bool
 | .ob _ _=>false | .mem _ _=>false|_=>true
def qaJ(K:zae):List V->Hp->VK->Prop:=λxs H Q=>∃A d x n b,xs=[x,.ty n]/\uB d=true/\RepB A H d x/\zde K (.type (tyN d)) (.type n)=some b/\Q (.bl b) H
theorem KO:CallR X (.builtin "isinstance") (qaJ X.K):=by
 intro pins s σ H xs J Q I r h;obtain⟨A,d,x,n,b,rfl,G,B,e,q⟩:=h;have F:∀t,TyOf X.K H x t->t=.type (tyN d)->wpAny (model X.prog X.w) X.A (call (.builtin "isinstance") J) (EP X pins σ Q) X.xe s:=λt U N=>by
  subst N;exact My.KW pins s σ H _ J Q I r ⟨x,n,_,b,rfl,U,e,q⟩
 cases d with
 | non=>have:=B.non_inv;subst this;exact F _ .non rfl
 | bl c=>have:=B.bl_inv;subst this;exact F _ (.bl c) rfl
 | int c=>have:=B.int_inv;subst this;exact F _ (.int c) rfl
 | str c=>have:=B.str_inv;subst this;exact F _ (.str c) rfl
 | tup l=>obtain⟨a,xs,rfl,h1,_⟩:=B.tup_inv;exact F _ (.tup h1) rfl
 | lst l=>
  obtain⟨a,xs,rfl,h1,_⟩:=B.lst_inv;rcases h1 with h1|⟨o,h1⟩
  ·exact F _ (.lst h1) rfl
  ·exact F _ (.frz h1) rfl
 | dK l=>
  obtain⟨a,xs,rfl,h1,_⟩:=B.dK_inv;obtain⟨u,M,rfl,r1,r2⟩:=vals2 r;cases r1;cases r2;obtain⟨_,_,vs,_,p⟩:=(show ObjOk X.prog X.w H s.heap a (.dK xs)from h1.ok I.hok);obtain⟨o,es,ep,h1,h2,_⟩:=p;exact zbl zdf I.kIn ⟨o,h1,h2.1⟩ e (λz=>nomatch z) λtk=>⟨.bl b,H,I.tok tk,rfl,q⟩
 | dT l=>
  obtain⟨a,xs,rfl,h1,_⟩:=B.dT_inv;obtain⟨u,M,rfl,r1,r2⟩:=vals2 r;cases r1;cases r2;obtain⟨_,_,xs,_,o,es,ep,h1,h2,_⟩:=(show ObjOk X.prog X.w H s.heap a (.dT xs)from h1.ok I.hok);exact zbl zdf I.kIn ⟨o,h1,h2.1⟩ e (λz=>nomatch z) λtk=>⟨.bl b,H,I.tok tk,rfl,q⟩
 | ob _ _=>cases G
 | mem _ _=>cases G
noncomputable def DN(n:String)(d:D):Bool:=match d with
 | .non=>false
 | .bl _=>n == "bool" || n == "int"
 | .int _=>n == "int"
 | .str _=>n == "str"
 | .tup _=>n == "tuple"
 | .lst _=>n == "list"
 | .dK _=>n == "dict"
 | .dT _=>n == "dict"
 | _=>false
def Kit(n:String):Prop:=∀(K:zae) (d:D),uB d=true->zde K (.type (tyN d)) (.type n)=some (DN n d)
theorem OV:Kit "int" := λK d h=>by cases d <;> first|rfl|cases h
theorem K4:Kit "bool" := λK d h=>by cases d <;> first|rfl|cases h
theorem LQ:Kit "list" := λK d h=>by cases d <;> first|rfl|cases h
def NT(n:String)(f:Ev):Ev:=λρ=>(f ρ).bind λd=>if uB d=true then some (.bl (DN n d))else none
theorem DA(G:Kit n)(M:Gl X "isinstance")(N:X.mg "isinstance" = none)(B:Gl X x)(F:X.mg x=none)(Y:zaH x=some (.type n))(W:PB X O e f)(z:x ≠ "__name__" := by decide)(hd:(x == ("__debug__" : Str))=false:=by decide)
  (h1:zag [e,.Name x p2] X.env=(false,eval e X.env)::zag [.Name x p2] X.env:=by rfl) (h2:(zaG pos (zag [.Name x p2] X.env)).any (·.1)=false:=by rfl) (J:zag [.Name x p2] X.env=(false,eval (.Name x p2) X.env)::zag [] X.env:=by rfl) :
  PD X O (.Call (.Name "isinstance" p) [e,.Name x p2] [] pos) (NT n f):=
 PE.mono (AE KO M N My.boot_isinstance (cV W (cV (P8 (v:=.ty n) B F Y rfl z hd) fO J) h1) (by decide) (by decide) h1 h2) <| by
  rintro σ H Q ⟨H0,A0,A,E,ρ,d,st,e,q⟩;obtain⟨x,ex,e⟩:=bind_some e;by_cases z:uB x=true
  ·rw[if_pos z]at e
   cases e;exact⟨H0,A0,A,E,ρ,x,st,ex,λv H1 U r1=>⟨A,x,v,n,_,rfl,z,r1,G _ _ z,q _ H1 U (.bl _)⟩⟩
  ·rw[if_neg z]at e;cases e
def ins{α:Type}(p:List Int×α):List (List Int×α)->List (List Int×α)
 | []=>[p]
 | q::r=>if HT.lexLt p.1 q.1=true then p::q::r else q::ins p r
def TC(g:D->Option D)(f:Ev):Ev:=λρ=>(f ρ).bind g
end
def pR:D->Option Int->Option Int->Option D
 | .tup l,lo,hi=>some (.tup (cutD l lo hi))
 | .lst l,lo,hi=>some (.lst (cutD l lo hi))
 | _,_,_=>none
theorem qas:SlR X (rS pR):=SlR.mono (SlR.or qay (SlR.mono qaB λx lo hi H Q (h:rS qo x lo hi H Q)=>by
  obtain⟨A,dx,d,B,z,e,q⟩:=h;exact⟨A,dx,d,B,z,e,λa H' x n F o=>q _ H' x ((o.av (A':=A) λb G=>.inl (.inl G)).rep F)⟩)) λx lo hi H Q ⟨A,dx,d,B,z,e,q⟩=>by
 cases dx with
 | tup l=>exact .inl ⟨A,_,d,B,z,e,q⟩
 | lst l=>exact .inr ⟨A,_,d,B,z,e,q⟩
 | _=>exact nn e
section
variable {ρ:cU}{f g:Ev}{d x y:D}{i j:Int}{k:Nat}
@[simp] theorem q_seq{f g:Sv}:dD f g ρ=(f ρ).bind λo=>match o with | .nx ρ'=>g ρ'|o=>some o:=rfl
@[simp] theorem q_set:dX k f ρ=(f ρ).map λd=>.nx (ρ.set k (some d)):=rfl
@[simp] theorem q_if{c:Bv}{f g:Sv}:BE c f g ρ=(c ρ).bind λb=>if b=true then f ρ else g ρ:=rfl
@[simp] theorem q_rt:BI f ρ=(f ρ).map .rt:=rfl
@[simp] theorem q_nx:JH ρ=some (.nx ρ):=rfl
@[simp] theorem q_bad:R7 ρ=none:=rfl
@[simp] theorem q_asg{g:Gv}:R9 f g ρ=(f ρ).bind λd=>(g d ρ).map .nx:=rfl
@[simp] theorem q_for{f:Lv}{g:Gv}{b:Sv}:BC f g b ρ=(f ρ).bind λitems=>kC g b items ρ:=rfl
@[simp] theorem q_app:IV k f ρ=(aD k ρ).bind λx=>match x with
 | .lst l=>(f ρ).bind λd=>if aZ l.length then some (.nx (ρ.set k (some (.lst (l++[d])))))else none
 | _=>none:=rfl
@[simp] theorem q_put:DP k f g ρ=(g ρ).bind λe=>(aD k ρ).bind λx=>(f ρ).bind λq=>(kH x q e).map λd=>.nx (ρ.set k (some d)):=rfl
@[simp] theorem q_var:aD k ρ=(ρ[k]?).join:=rfl
@[simp] theorem q_c:eC d ρ=some d:=rfl
@[simp] theorem q_op:a7 o f g ρ=(f ρ).bind λx=>(g ρ).bind λy=>o x y:=rfl
@[simp] theorem q_call:aT F l ρ=(l ρ).bind F:=rfl
@[simp] theorem q_lnil:aY ρ=some []:=rfl
@[simp] theorem q_lcons:aC f l ρ=(f ρ).bind λx=>(l ρ).bind λxs=>some (x::xs):=rfl
@[simp] theorem q_tup:eX l ρ=(l ρ).map .tup:=rfl
@[simp] theorem q_lst:N0 l ρ=(l ρ).map .lst:=rfl
@[simp] theorem q_bind:TC o f ρ=(f ρ).bind o:=rfl
@[simp] theorem q_bof:nO f ρ=(f ρ).bind SK:=rfl
@[simp] theorem q_asB:SK (.bl b)=some b:=rfl
@[simp] theorem q_asI:XJ (.int i)=some i:=rfl
@[simp] theorem q_bnot:NV c ρ=(c ρ).map (!·):=rfl
@[simp] theorem q_band:JA a b ρ=(a ρ).bind λx=>if x=true then b ρ else some false:=rfl
@[simp] theorem q_bor:TZ a b ρ=(a ρ).bind λx=>if x=true then some true else b ρ:=rfl
@[simp] theorem q_and:NR f g ρ=(f ρ).bind λx=>(SK x).bind λb=>if b=true then g ρ else some (.bl false):=rfl
@[simp] theorem q_not:qr f ρ=(f ρ).bind λx=>(SK x).map λb=>.bl (!b):=rfl
@[simp] theorem q_neg:R4 f ρ=(f ρ).bind λd=>(XJ d).map λi=>.int (-i):=rfl
@[simp] theorem q_ifx:XH c f g ρ=(c ρ).bind λb=>if b=true then f ρ else g ρ:=rfl
@[simp] theorem q_isi:NT n f ρ=(f ρ).bind λd=>if uB d=true then some (.bl (DN n d))else none:=rfl
@[simp] theorem no_int:uB (.int i)=true:=rfl
@[simp] theorem no_tup{l:List D}:uB (.tup l)=true:=rfl
@[simp] theorem no_lst{l:List D}:uB (.lst l)=true:=rfl
@[simp] theorem no_bl{b:Bool}:uB (.bl b)=true:=rfl
@[simp] theorem no_str{x:Str}:uB (.str x)=true:=rfl
@[simp] theorem no_non:uB .non=true:=rfl
@[simp] theorem q_sl:XI o f a b ρ=(f ρ).bind λx=>(a ρ).bind λlo=>(b ρ).bind λhi=>o x lo hi:=rfl
@[simp] theorem q_oN:GD ρ=some none:=rfl
@[simp] theorem q_oS:v7 f ρ=(f ρ).bind λd=>(XJ d).map some:=rfl
@[simp] theorem q_lR:lR o l ρ=(l ρ).bind o:=rfl
@[simp] theorem q_lSeq:NO f ρ=(f ρ).bind λd=>match d with
 | .lst l=>some l
 | .tup l=>some l
 | .dT l=>some (l.map λp=>.tup (p.1.map JB))
 | _=>none:=rfl
@[simp] theorem q_comp{ms:List (Option Nat)}{it:Lv}{g:Gv}{c:Bv}:d6 ms it g c f ρ=(it ρ).bind λitems=>if aZ items.length then(bA g c f items (i5 ms ρ)).map .lst else none:=rfl
@[simp] theorem q_yes:eY ρ=some true:=rfl
@[simp] theorem q_name:aS k d ρ=some (ρ.set k (some d)):=rfl
@[simp] theorem q_gnil:tY [] ρ=some ρ:=rfl
@[simp] theorem q_gcons{g:Gv}{h:TU}{ds:List D}:eG g h (d::ds) ρ=(g d ρ).bind λρ'=>h ds ρ':=rfl
@[simp] theorem q_gtup:kQ n h (.tup l) ρ=if l.length=n then h l ρ else none:=rfl
@[simp] theorem q_sub:qe (.int i) (.int j)=some (.int (i-j)):=rfl
@[simp] theorem q_addI:v6 (.int i) (.int j)=some (.int (i+j)):=rfl
@[simp] theorem q_ltI:qu (.int i) (.int j)=some (.bl (decide (i<j))):=rfl
@[simp] theorem q_gtI:uE (.int i) (.int j)=some (.bl (decide (j<i))):=rfl
@[simp] theorem q_eqI:i4 (.int i) (.int j)=some (.bl (decide (i=j))):=by
 unfold i4 GO;rw[if_pos (.inl rfl)];simp
@[simp] theorem q_neI:uR (.int i) (.int j)=some (.bl (!decide (i=j))):=by
 unfold uR GO;rw[if_pos (.inl rfl)];simp
@[simp] theorem q_eqB:i4 (.bl a) (.bl b)=some (.bl (decide (a=b))):=by
 unfold i4 GO;rw[if_pos (.inl rfl)];simp
@[simp] theorem q_neB:uR (.bl a) (.bl b)=some (.bl (!decide (a=b))):=by
 unfold uR GO;rw[if_pos (.inl rfl)];simp
theorem bR(h:0<j):dS (.int i) (.int j)=some (.int (i%j)):=if_pos h
theorem g7(h:0<j)(h2:j<1073741824):g8 (.int i) (.int j)=some (.int (i/j)):=if_pos ⟨h,h2⟩
theorem YJ(h:My.DT i j):F7 (.int i) (.int j)=some (.int (i*j)):=if_pos h
theorem F8(h:0<=j)(h2:j<=1000000)(q:i.natAbs<2^64):NX (.int i) (.int j)=some (.int (i^j.toNat)):=if_pos ⟨h,h2,q⟩
@[simp] theorem q_isN:JD d .non=some (.bl (fP d)):=rfl
@[simp] theorem q_notN:GA d .non=some (.bl (!fP d)):=rfl
@[simp] theorem q_lenL:gB [.lst l]=some (.int l.length):=rfl
@[simp] theorem q_lenT:gB [.tup l]=some (.int l.length):=rfl
@[simp] theorem q_min:A8 [.int i,.int j]=some (.int (if j<i then j else i)):=rfl
@[simp] theorem q_max:GK [.int i,.int j]=some (.int (if j>i then j else i)):=rfl
@[simp] theorem q_tuL:jW [.lst l]=some (.tup l):=rfl
@[simp] theorem q_tuT:jW [.tup l]=some (.tup l):=rfl
@[simp] theorem q_liL:F9 [.lst l]=some (.lst l):=rfl
@[simp] theorem q_liT:F9 [.tup l]=some (.lst l):=rfl
@[simp] theorem q_slT{l:List D}{lo hi:Option Int}:pR (.tup l) lo hi=some (.tup (cutD l lo hi)):=rfl
@[simp] theorem q_slL{l:List D}{lo hi:Option Int}:pR (.lst l) lo hi=some (.lst (cutD l lo hi)):=rfl
@[simp] theorem q_itL:aJ (.lst l) (.int i)=fL l i:=rfl
@[simp] theorem q_itT:aJ (.tup l) (.int i)=fL l i:=rfl
@[simp] theorem q_itD:aJ (.dT l) d=(nK (.dT l) d).join:=rfl
@[simp] theorem isi_int_int:DN "int" (.int i)=true:=rfl
@[simp] theorem isi_bool_int:DN "bool" (.int i)=false:=rfl
@[simp] theorem isi_tuple_tup:DN "tuple" (.tup l)=true:=rfl
@[simp] theorem isi_list_lst:DN "list" (.lst l)=true:=rfl
end
def turn(g:Gv)(b:Sv)(x:D):Sv:=λρ=>(g x ρ).bind b
theorem xX(I:Nat->cU->Prop)(U:I 0 ρ)(hs:∀i x ρ,items[i]?=some x->I i ρ->∃ρ',turn g b x ρ=some (.nx ρ')/\I (i+1) ρ'):∃ρ',kC g b items ρ=some (.nx ρ')/\I items.length ρ':=by
 have G:∀(m:List D) (k:Nat) (ρ:cU),items.drop k=m->k<=items.length->I k ρ->∃ρ',kC g b m ρ=some (.nx ρ')/\I items.length ρ':=by
  intro m;induction m with
  | nil=>
   intro k ρ e Y h;have:items.length<=k:=by rw[List.drop_eq_nil_iff]at e;exact e
   have:k=items.length:=by lia
   subst this;exact⟨ρ,rfl,h⟩
  | cons x m ih=>
   intro k ρ e Y h;have q:k<items.length:=by
    rcases Nat.lt_or_ge k items.length with z|z
    ·exact z
    ·rw[List.drop_eq_nil_iff.mpr z]at e;cases e
   rw[zcX q]at e;injection e with e1 e2
   obtain⟨ρ',h1,h2⟩:=hs k x ρ (by rw[<- e1];simp[q]) h;obtain⟨B,N,W⟩:=ih (k+1) ρ' e2 q h2;refine⟨B,?_,W⟩;unfold turn at h1;obtain⟨F,M,J⟩:=bind_some h1;unfold kC;rw[M];show(b F).bind _=_;rw[J];exact N
 exact G items 0 ρ rfl (zaI _) U
theorem aL(h:f (aG n ds)=some (.rt d)):bG n f ds=some d:=by
 unfold bG;rw[h];rfl
theorem aF(h:f ρ=some (.nx ρ')):dD f g ρ=g ρ':=by
 unfold dD;rw[h];rfl
theorem tH(h:f ρ=some (.rt d)):dD f g ρ=some (.rt d):=by
 unfold dD;rw[h];rfl
theorem qaN(h:c ρ=some true):BE c f g ρ=f ρ:=by
 unfold BE;rw[h];rfl
theorem R0(h:c ρ=some false):BE c f g ρ=g ρ:=by
 unfold BE;rw[h];rfl
theorem aM(h:f ρ=some d):dX k f ρ=some (.nx (ρ.set k (some d))):=by
 unfold dX;rw[h];rfl
theorem qaI(h:f ρ=some d):BI f ρ=some (.rt d):=by
 unfold BI;rw[h];rfl
theorem iS{f:Lv}{g:Gv}{b rest:Sv}{ρ:cU}{items:List D}{out:Option Out}(z:f ρ=some items)(I:Nat->cU->Prop)(q:I 0 ρ)(hs:∀i x ρ,items[i]?=some x->I i ρ->∃ρ',turn g b x ρ=some (.nx ρ')/\I (i+1) ρ')(k:∀ρ',I items.length ρ'->rest ρ'=out):dD (BC f g b) rest ρ=out:=by
 obtain⟨ρ',e,h⟩:=xX (g:=g) (b:=b) I q hs;rw[aF (by rw[q_for,z];exact e)];exact k ρ' h
open My (look put V4 Z4 ZJ)
noncomputable def tupI(k:List Int):D:=.tup (k.map .int)
theorem u9:∀k:List Int,NZ (k.map .int)=some (k.map zbp)
 | []=>rfl
 | i::k=>by rw[zak,NZ,u9 k];rfl
@[simp] theorem asT_tupI(k:List Int):TY (tupI k)=some (k.map zbp):=u9 k
theorem fV{ns:List Int}{k:Int}(z:0<=k)(h:k<(ns.length:Int)):∃c,fL (ns.map D.int) k=some (.int c)/\ns[k.toNat]?=some c:=by
 obtain⟨j,rfl⟩:∃j:Nat,k=(j:Int):=⟨k.toNat,by lia⟩;have q:j<ns.length:=by lia
 exact⟨ns[j],bV (by simp[q]),by simp[q]⟩
noncomputable def gM:D->Option (List D)
 | .lst l=>some l
 | .tup l=>some l
 | _=>none
noncomputable def lP:List D->List D->List D
 | x::xs,y::ys=>.tup [x,y]::lP xs ys
 | _,_=>[]
def R1(f:Lv):Lv:=λρ=>(f ρ).bind λds=>match ds with
 | [a,b]=>(gM a).bind λxs=>(gM b).map λys=>lP xs ys
 | _=>none
theorem AM:∀ {xs ys:List D} {i:Nat} {d:D},(lP xs ys)[i]?=some d->∃x y,xs[i]?=some x/\ys[i]?=some y/\d=.tup [x,y]
 | [],_,i,d,h=>by simp[lP]at h
 | _::_,[],i,d,h=>by simp[lP]at h
 | x::xs,y::ys,0,d,h=>by simp[lP]at h;exact⟨x,y,rfl,rfl,h.symm⟩
 | x::xs,y::ys,i+1,d,h=>AM (xs:=xs) (ys:=ys) (i:=i) (by simpa[lP]using h)
theorem yY:∀ {xs ys:List D} {i:Nat},(lP xs ys).length<=i->xs.length<=i\/ys.length<=i
 | [],_,i,_=>.inl (zaI _)
 | _::_,[],i,_=>.inr (zaI _)
 | x::xs,y::ys,0,h=>by simp[lP]at h
 | x::xs,y::ys,i+1,h=>(yY (xs:=xs) (ys:=ys) (i:=i) (by simpa[lP]using h)).imp (λz=>by simpa using z) λz=>by simpa using z
theorem xB{A:Av}{H:Hp}{K:zae}{d:D}{l:List D}{v:V}(h:gM d=some l)(r:Rep A H d v):∃t a xs,v=.ref a/\My.BF K t H a xs/\RepL A H l xs/\∀A' H',Rep A' H' d v->∃ys,My.BF K t H' a ys/\RepL A' H' l ys:=by
 cases d with
 | lst m=>
  cases h;obtain⟨a,xs,rfl,h1,r1⟩:=RepB.lst_inv (.of r);refine⟨false,a,xs,rfl,.inl h1,r1,λA' H' q=>?_⟩;obtain⟨z,ys,e,h2,r2⟩:=RepB.lst_inv (.of q);cases e;exact⟨ys,.inl h2,r2⟩
 | tup m=>
  cases h;obtain⟨a,xs,rfl,h1,r1⟩:=RepB.tup_inv (.of r);refine⟨true,a,xs,rfl,.inl (.inl h1),r1,λA' H' q=>?_⟩;obtain⟨z,ys,e,h2,r2⟩:=RepB.tup_inv (.of q);cases e;exact⟨ys,.inl (.inl h2),r2⟩
 | _=>exact nn h
theorem RS{X:Cx}{O:List Nat}{J:List Expr}{Y}{tp:Pos}{a b:Expr}{f:Lv}{p pos:Pos}(hg:Gl X "zip")(hm:X.mg "zip" = none)(ha:yF X O [a,b] f)(hs:zag [a,b] X.env=[(false,eval a X.env),(false,eval b X.env)]:=by rfl)(W:zag [b] X.env=[(false,eval b X.env)]:=by rfl) :
  PDI X O (.Tuple J Y tp) (.Call (.Name "zip" p) [a,b] [] pos) (R1 f):=PI.mono (My.V6 hg hm ha hs W) λσ H R ⟨H0,A0,A,E,ρ,items,st,e,q⟩=>by
 obtain⟨ds,e1,e⟩:=bind_some e;refine⟨H0,A0,A,E,ρ,ds,st,e1,λvs H1 Y r1=>?_⟩;split at e
 case h_2=>cases e
 rename_i da db;obtain⟨xs,e2,e⟩:=bind_some e;obtain⟨ys,e3,rfl⟩:=map_some e;obtain⟨v,w,rfl,r2,r3⟩:=r1.two;obtain⟨t1,U,us,rfl,q1,_,k1⟩:=xB (K:=X.K) e2 r2;obtain⟨t2,N,ws,rfl,q2,_,k2⟩:=xB (K:=X.K) e3 r3;refine⟨t1,t2,U,N,us,ws,rfl,q1,q2,q _ H1 [.rep da (.ref U),.rep db (.ref N)] Y (λp hp=>?_) ?_⟩
 ·rcases List.mem_cons.mp hp with z|z
  ·rw[z];exact r2
  ·rw[List.mem_singleton.mp z];exact r3
 ·intro A' H' lv hE i
  have a1:Rep A' H' da (.ref U):=hE (.rep da (.ref U)) (zas ..);have a2:Rep A' H' db (.ref N):=hE (.rep db (.ref N)) (zaq _ (zas ..));obtain⟨F,g1,M⟩:=k1 A' H' a1;obtain⟨B,g2,G⟩:=k2 A' H' a2;refine⟨λhi=>⟨F,B,g1,g2,(yY hi).imp (λz=>by rw[M.length];exact z) λz=>by rw[G.length];exact z⟩,λd hd=>?_⟩;obtain⟨x,y,ex,ey,rfl⟩:=AM hd;obtain⟨u,eu,ru⟩:=M.get' ex;obtain⟨w,ew,aa⟩:=G.get' ey;refine⟨⟨F,B,g1,g2,(List.getElem?_eq_some_iff.mp eu).1,(List.getElem?_eq_some_iff.mp ew).1⟩,λx' H2 ⟨p,u',w',e4,n,e5,e6⟩=>?_⟩;subst e4 e5;obtain⟨z1,z2⟩:=e6 F B g1 g2;rw[eu]at z1;cases z1;rw[ew]at z2;cases z2;exact⟨Ext.new n,.tup aH (.cons (ru.ext (Ext.new n)) (.cons (aa.ext (Ext.new n)) .nil))⟩
@[simp] theorem q_zip:R1 f ρ=(f ρ).bind λds=>match ds with
 | [a,b]=>(gM a).bind λxs=>(gM b).map λys=>lP xs ys
 | _=>none:=rfl
@[simp] theorem q_seqL:gM (.lst l)=some l:=rfl
@[simp] theorem q_seqT:gM (.tup l)=some l:=rfl
theorem C6(h1:-A<a)(h2:a<A)(z:-B<b)(F:b<B):-(A*B)<a*b/\a*b<A*B:=by
 have e:(a*b).natAbs<(A*B).natAbs:=by
  rw[Int.natAbs_mul,Int.natAbs_mul];exact Nat.mul_lt_mul_of_lt_of_le (by lia) (by lia) (by lia)
 have q:0<=A*B:=zcY (by lia) (by lia)
 lia
end P
namespace P
end P
namespace P
open PySem PySem.Spec PyProof.Rows L2
noncomputable def pick{α:Type}(l:List α)(lo hi st:Option Int):List α:=(sliceRange (zbJ lo hi st l.length).1 (zbJ lo hi st l.length).2.1 (zbJ lo hi st l.length).2.2).filterMap (l[·]?)
section
variable {X:Cx}{O:List Nat}
end
end P
namespace My
open PySem PySem.Spec PyProof.Rows L2 PySem.SeqAt
section
variable {X:Cx}
theorem Inv.gone(I:Inv X pins σ H s)(f:kB X pins H C)(hs:za4 C s.heap h'):Inv X pins σ H {s with heap:=h'}:=by
 obtain⟨F,f1,f2,M,G,U⟩:=f;refine I.call' (s':={s with heap:=h'}) (ch:=[C]) rfl ⟨λb o e n B hx=>?_,λb o e n B hx=>?_,λ_ _ _ n _=>n,λb o e hx=>?_,λ_ _ q=>q,λ_ _ _ q=>q,λ_ ps q=>⟨#[],by simpa using q⟩⟩ ?_ I.bare λb B=>?_
 ·exact(hs.2 b (λz=>hx (z ▸ List.mem_singleton.mpr rfl))).trans e
 ·exact⟨o.slots,(hs.2 b (λz=>hx (z ▸ List.mem_singleton.mpr rfl))).trans e⟩
 ·exact⟨o,(hs.2 b (λz=>hx (z ▸ List.mem_singleton.mpr rfl))).trans e⟩
 ·intro b N e
  refine(I.hok b N e).stay (λc W J q=>(hs.2 c ?_).trans q) (λ_ q=>q) λ_ _ q=>q
  rintro rfl;rcases J with z|z
  ·subst z;rw[F]at e;cases e
  ·rw[F]at z;cases z
 ·rw[List.mem_singleton.mp B]
  exact⟨M,f1,G,U⟩
theorem FM(hN:X.N.Nodup)(M:X.N[i]?=some x)(hx:Loc X.env.scope x)
  (hc:X.calm=true) (F:Clo X N scope cl) (hi:PI X tg iter wi) (hg:∀C s H fp,PG (aX X N scope cl C s H fp) tg g) (ht:∀C s H fp,DX (aX X N scope cl C s H fp) ifs tt) (he:∀C s H fp,PE (aX X N scope cl C s H fp) elt te)
  (hs:∀x,zba iter X.env x=pure x:=by intro _;rfl) (U:zaD (.ListComp elt [⟨tg,iter,ifs,0⟩] scope pos) (some (.Name x pos')) spos.line X.env=pure true:=by rfl)
  (hf:X.fn x=true\/X.env.scope.names.lookup x=some .local:=by first|exact .inl rfl|exact .inr rfl) :
  PS X (.Assign [.Name x pos'] (.ListComp elt [⟨tg,iter,ifs,0⟩] scope pos) spos) (NS (GE wi g tt te (Start X N scope)) (i6 i)):=by
 intro pins s σ H D I h;obtain⟨aw,sS,hw⟩:=h;rw[exec_Assign_Name_used _ _ _ _ U];refine zaa (zc7 (zaa ?_));show wpAny _ X.A (do let _ <- comprehension (.ListComp elt [⟨tg,iter,ifs,0⟩] scope pos) scope X.env _ (newList []) false (eval iter X.env) (some (zbf (.Name x pos') X.env))) _ _ s;refine zaa (za7 (wpAny_comprehension_free (use:=some (zbf (.Name x pos') X.env)) (Q:=λ_ s'=>SP X pins D .next s') rfl hs F.clos F.kind F.names
  (cR (hi pins s σ H _ I hw) λv s1 h1=>cR h1 λan s2 h2=>?_)) (λ_ s' hq=>zaf (zaf hq)) λ_ _ e=>e)
 obtain⟨it,fp,tn,J,H2,e,I2,T,G,f2,q2⟩:=h2;subst e;refine u5 (wi:=wi) (Q:=λv H1=>i6 i v σ H1 D.nx) (RR:=λacc C=>compPost (model X.prog X.w) X.A X.xe (some (zbf (.Name x pos') X.env)) (λ_ s'=>SP X pins D .next s') acc C) hc F hg ht he I2 T G f2 sS q2 ?_
 intro s3 s5 H3 H5 az D1 I3 f3 Y q;obtain⟨m,hn,_⟩:=id Y.loc;have I6:Inv X pins σ H5 s5:=comp_back I3 f3 Y (Heap.SameBut.refl _ _);have fc:kB X pins H5 s3.heap.objs.size:=I3.fpOk (zai _) Y.free;show wpAny _ X.A (zbf (.Name x pos') X.env (.ref D1)) _ _ s5;refine wpAny_assign_Name (vE (v:=.ref D1) I6 hN M hx rfl (λs7 I7 ⟨a,aa,B⟩=>?_) hf);have ne:s3.heap.objs.size≠a:=λz=>by
  rcases B with B|B
  ·exact fc.2.1 (z.trans B)
  ·exact fc.2.2.2.2.1 x a B z.symm
 exact⟨m,Heap.Ns.sameBut hn aa ne,λh' W=>⟨_,H5,Inv.gone I7 fc W,q⟩⟩
end
end My
namespace P
open PySem PySem.Spec PyProof.Rows L2 PySem.SeqAt
section
variable {X:Cx}{O O':List Nat}{L:Lp}
theorem B8(M:PS X (.Assign [.Name x pos'] e pos) (NS (tD Rep O f) (i6 i)))(h:Sub O' (O.filter (· != i))=true):PSD X L O (.Assign [.Name x pos'] e pos) (dX i f) O':=
 PS.mono M <| by
  rintro T σ H ⟨H0,A0,A,E,ρ,out,st,e,p⟩;obtain⟨d,N,rfl⟩:=map_some e;refine⟨H0,A0,A,E,ρ,d,st,N,λv H' x r=>?_⟩;have F:=(st.mono x).more r;obtain⟨A',B⟩:=F.shut (O':=O') λj J=>(Sub.er h J).1
  exact p A' _ H' ((B.put (B.ext _ (zas ..)) λz=>(Sub.er h z).2 rfl).less λq G=>zaq _ G)
theorem yX(G:PS X (.Assign [.Name x pos'] e pos) (NS (tF O f) (i6 i)))(h:Sub O' (i::O)=true)(B:O.contains i=false):PSD X L O (.Assign [.Name x pos'] e pos) (dX i f) O':=
 PS.mono G <| by
  rintro T σ H ⟨H0,A0,A,E,ρ,out,st,e,p⟩;obtain⟨d,N,rfl⟩:=map_some e;refine⟨H0,A0,A,E,ρ,d,st,N,λa H' x n F o=>?_⟩;have J:i∉O:=λz=>by
   have:O.contains i=true:=by simpa using z
   rw[B]at this;cases this
  obtain⟨M,q⟩:=(st.own_put x n F o J).shut (Sub.mem h);exact p M _ H' q
theorem Y3:tD Rep O f σ H Q->tF O f σ H Q:=λ⟨H0,A0,A,E,ρ,d,st,e,q⟩=>
 ⟨H0,A0,A,E,ρ,d,st,e,λa H' x n z o=>q _ H' x ((o.av (A':=A) λb B=>.inl (.inl B)).rep z)⟩
theorem J9(Y:X.N.Nodup)(B:X.N[i]?=some x)(hx:Loc X.env.scope x)
  (M:X.calm=true) (F:My.Clo X N scope cl) (q:dU X scope N ms) (G:(ms.all λo=>match o with|some i=>!O.contains i|none=>true)=true) (hi:PDI X O tg iter it) (J:∀C s H fp,BH (My.aX X N scope cl C s H fp) [] tg g)
  (ht:∀C s H fp,My.DX (My.aX X N scope cl C s H fp) ifs (tDT [] c)) (W:∀C s H fp,PD (My.aX X N scope cl C s H fp) [] elt f) (h:Sub O' (O.filter (· != i))=true:=by rfl) (hs:∀x,zba iter X.env x=pure x:=by intro _;rfl)
  (z:zaD (.ListComp elt [⟨tg,iter,ifs,0⟩] scope pos) (some (.Name x pos')) spos.line X.env=pure true:=by rfl) (U:X.fn x=true\/X.env.scope.names.lookup x=some .local:=by first|exact .inl rfl|exact .inr rfl) :
  PSD X L O (.Assign [.Name x pos'] (.ListComp elt [⟨tg,iter,ifs,0⟩] scope pos) spos) (dX i (d6 ms it g c f)) O':=
 B8 (PS.mono (My.FM Y B hx M F hi J ht W hs z U) λT σ H w=>sE q G _ _ _ (Y3 w)) h
theorem GX(hN:X.N.Nodup)(B:X.N[i]?=some x)(hx:Loc X.env.scope x)
  (U:X.calm=true) (G:My.Clo X N scope cl) (q:dU X scope N ms) (J:(ms.all λo=>match o with|some i=>!O.contains i|none=>true)=true) (hi:PDI X O tg iter it) (M:∀C s H fp,BH (My.aX X N scope cl C s H fp) [] tg g)
  (ht:∀C s H fp,My.DX (My.aX X N scope cl C s H fp) ifs (tDT [] c)) (Y:∀C s H fp,PD (My.aX X N scope cl C s H fp) [] elt f) (h:Sub O' (i::O)=true:=by rfl) (F:O.contains i=false:=by rfl) (hs:∀x,zba iter X.env x=pure x:=by intro _;rfl)
  (z:zaD (.ListComp elt [⟨tg,iter,ifs,0⟩] scope pos) (some (.Name x pos')) spos.line X.env=pure true:=by rfl) (W:X.fn x=true\/X.env.scope.names.lookup x=some .local:=by first|exact .inl rfl|exact .inr rfl) :
  PSD X L O (.Assign [.Name x pos'] (.ListComp elt [⟨tg,iter,ifs,0⟩] scope pos) spos) (dX i (d6 ms it g c f)) O':=
 yX (PS.mono (My.FM hN B hx U G hi M ht Y hs z W) λT σ H w=>sE q J _ _ _ w) h F
end
end P
namespace My
open PySem PySem.Spec PyProof.Rows L2 PySem.SeqAt
def ZX(K:zae)(n:Nat)(t:TR):TG:=λv σ H Q=>∃a xs,v=.ref a/\(SqT K H a xs\/SqL K H a xs)/\xs.length=n/\t xs σ H Q
theorem tG(G:X.calm=true)(h:PGs X es t)
  (F:(za1 es X.env).length=n:=by rfl) (z:(za1 es X.env).findIdx? (·.1)=none:=by rfl):PG X (.Tuple es k pos) (ZX X.K n t):=by
 intro pins s σ H v u Q I r hw;obtain⟨a,xs,Y,q,J,hw⟩:=hw;subst Y;rcases q with q|q
 ·exact C3 G h F z pins s σ H _ u Q I r ⟨a,xs,rfl,q,J,hw⟩
 ·cases r
  obtain⟨B,M,U,hz⟩:=I.list q;have hsz:(za1 es X.env).length=B.toArray.size:=by simp[F,<- J,M.length]
  rw[assign_Tuple];refine zaa (zc7 ?_);unfold unpack;rw[hsz,z];refine zaa (zbC (PySem.W.kun_itemsOf (I.ok.hd G) (My.PlainL.isList U) λh' hx=>?_));have N:Inv X pins σ H {s with heap:=h'}:=I.kept (t':=s.toks) λb o e=>hx b o (zaF (zap e)) e
  exact h pins _ σ H xs _ Q N (by simpa using M) hw
end My
namespace P
open PySem PySem.Spec PyProof.Rows L2 PySem.SeqAt
def t6(n:Nat)(k:TU):Gv:=λd ρ=>match d with
 | .tup l=>if l.length=n then k l ρ else none
 | .lst l=>if l.length=n then k l ρ else none
 | _=>none
theorem nG(F:PG X tg (My.ZX X.K n (tDGs O k))):BH X O tg (t6 n k):=PG.mono F <| by
 rintro v σ H Q ⟨H0,A0,A,E,ρ,d,ρ',st,r,e,q⟩;cases d with
 | tup l=>
  obtain⟨a,xs,rfl,h,B⟩:=RepB.tup_inv (.of r);by_cases z:l.length=n
  ·simp only[t6,if_pos z]at e
   exact⟨a,xs,rfl,.inl (.inl (.inl h)),by rw[B.length];exact z,H0,A0,A,E,ρ,l,ρ',st,B,e,q⟩
  ·simp only[t6,if_neg z]at e;cases e
 | lst l=>
  obtain⟨a,xs,rfl,h,B⟩:=RepB.lst_inv (.of r);by_cases z:l.length=n
  ·simp only[t6,if_pos z]at e
   exact⟨a,xs,rfl,.inr (.inl h),by rw[B.length];exact z,H0,A0,A,E,ρ,l,ρ',st,B,e,q⟩
  ·simp only[t6,if_neg z]at e;cases e
 | _=>exact nn e
@[simp] theorem q_gseqT:t6 n h (.tup l) ρ=if l.length=n then h l ρ else none:=rfl
@[simp] theorem q_gseqL:t6 n h (.lst l) ρ=if l.length=n then h l ρ else none:=rfl
end P
namespace P
open PySem PySem.Spec PyProof.Rows L2
theorem iY{f:Lv}{g:Gv}{b rest:Sv}{ρ:cU}{items:List D}{R:D->Prop}(z:f ρ=some items)(I:Nat->cU->Prop)(q:I 0 ρ)(hs:∀i x ρ,items[i]?=some x->I i ρ->∃ρ',turn g b x ρ=some (.nx ρ')/\I (i+1) ρ')(k:∀ρ',I items.length ρ'->∃d,rest ρ'=some (.rt d)/\R d):∃d,dD (BC f g b) rest ρ=some (.rt d)/\R d:=by
 obtain⟨ρ',e,h⟩:=xX (g:=g) (b:=b) I q hs;rw[aF (by rw[q_for,z];exact e)];exact k ρ' h
theorem dQ{n:Nat}{ds:List D}{R:D->Prop}(h:∃d,f (aG n ds)=some (.rt d)/\R d):∃d,bG n f ds=some d/\R d:=by
 obtain⟨d,e,r⟩:=h;exact⟨d,aL e,r⟩
theorem G6:cutD (as++bs) none (some (as.length:Int))=as:=by
 have e:HT.sIx (as++bs).length (as++bs).length (some (as.length:Int))=as.length:=by
  unfold HT.sIx;simp
  try lia
 unfold cutD;rw[e];show((as++bs).drop 0).take (as.length-0)=as;simp
end P
namespace My
open PySem PySem.Spec PyProof.Rows L2 PySem.SeqAt
end My
namespace P
open PySem PySem.Spec PyProof.Rows L2 PySem.SeqAt
section
variable {X:Cx}
end
end P
namespace My
open PySem PySem.Spec PyProof.Rows L2 PySem.SeqAt
end My
namespace P
open PySem PySem.Spec PyProof.Rows L2 PySem.SeqAt
end P
namespace My
open PySem PySem.Spec PyProof.Rows L2
section
variable {X:Cx}
theorem oP(ns:List Int):∀n,n<=ns.length->preSum (λi=>(ns[i]?).getD 0) n=(ns.take n).sum
 | 0,_=>by simp[preSum]
 | n+1,h=>by
  have e:ns[n]?=some (ns[n]'(by lia)):=by simp
  rw[preSum,oP ns n (by lia),zcZ,List.sum_append_int,e];simp
theorem AX{ns:List Int}{q:List Value}(r:Vals (ns.map V.int) q){i:Nat}(h:q[i]?=some v):∃t,v=.int ((ns[i]?).getD 0) t:=by
 have z:=r.length;rw[zal]at z;have hi:i<ns.length:=by rw[z];exact(List.getElem?_eq_some_iff.mp h).1
 have e:(ns.map V.int)[i]?=some (.int ns[i]):=by simp[hi]
 obtain⟨u,B,F⟩:=r.get e;rw[h]at B;cases B;obtain⟨t,rfl⟩:=F;exact⟨t,by simp[hi]⟩
theorem HB(hc:X.calm=true):CallR X (.builtin "sum") (λxs H Q=>∃(p:Addr) (ns:List Int),xs=[.ref p]/\SqL X.K H p (ns.map V.int)/\Q (.int ns.sum) H):=by
 intro pins s σ H xs us Q I r h;obtain⟨p,ns,rfl,hq,q⟩:=h;obtain⟨u,rfl,rx⟩:=vals1 r;cases rx;obtain⟨F,r',pl,hz⟩:=I.list hq;have J:s.heap.IsList p F.toArray:=pl.isList;obtain⟨o,Y,ak,n,hd⟩:=id J;have M:p≠s.heap.objs.size:=zaF (zap Y);have W:=(Walks.list (prog:=X.prog) (w:=X.w) (A:=X.A.in1) (I.ok.hd hc) s.heap.objs.size p M F.toArray).toS;refine call_sum_walkAnyS (zb6 J ?_);refine⟨s.heap.objs.size,_,_,_,_,_,_,(λi=>(ns[i]?).getD 0),rfl,W,⟨⟨_,zaE _ rfl,rfl,rfl⟩,J.at λo e=>zan _ e⟩,λb B=>?_,λi v hP=>AX r' (by simpa using hP),λs' t' G=>?_⟩
 ·rcases List.mem_cons.mp B with rfl|B
  ·exact zap (zaE _ rfl)
  ·obtain rfl:=List.mem_singleton.mp B
   exact zap (zan _ Y)
 ·obtain⟨h',g',d',U,N⟩:=s'
  have e1:g'=s.gens:=G.gens;have e2:d'=s.drawn:=G.drawn;have e3:N=s.os:=G.os;subst e1 e2 e3;have hk:∀b o,s.heap.get? b=some o->h'.get? b=some o:=λb o e=>G.heap b o (λB=>absurd (zap e) ((List.mem_singleton.mp B) ▸ zb4 _)) (zan _ e)
  refine⟨.int ns.sum,H,I.kept (t':=U) hk,⟨t',?_⟩,q⟩;have z:=r'.length;rw[zal]at z;rw[zax,<- z,oP ns ns.length (zai _),zbX]
theorem RE:OpR X (zaM .Add) (λx y H Q=>∃a b ys,x=.ref a/\y=.ref b/\SqT X.K H a []/\SqT X.K H b ys/\Q (.ref b) H):=by
 intro pins s σ H x y v u Q I rx ry h;obtain⟨a,b,ys,rfl,rfl,ha,hb,q⟩:=h;cases rx;cases ry;obtain⟨ab,r1,p1,_⟩:=I.tuple ha;obtain⟨z,r2,p2,_⟩:=I.tuple hb;have e1:ab=[]:=r1.nil_iff.mpr rfl;subst e1;obtain⟨⟨cls,dd,data,sl⟩,ho,hc,n,hd⟩:=p1;obtain⟨⟨M,W,B,U⟩,J,N,n2,aa⟩:=p2;have Y:cls=.type "tuple" := hc;have ac:data=.seq #[] n:=hd;have G:M=.type "tuple" := N;have F:B=.seq z.toArray n2:=aa;subst Y ac G F;exact concat_meets ⟨_,ho,rfl⟩ ⟨_,J,rfl⟩ zd1 seq_tuple_add zd2 zd3 (zd4 _ _)
  (tuple_addW0 a b #[] z.toArray n n2 dd W sl U rfl) ⟨ho,J,.ref b,H,I,rfl,q⟩
def zN:V->List V->Hp->VK->Prop:=λx vs H Q=>∃l b xs zs,x=.ref l/\vs=[.ref b]/\H l=some (.lst xs)/\Rd H b (.lst zs)/\xs.length+zs.length<=zaj/\Q .non (upd H l (.lst (xs++zs)))
theorem rH:MtM X "list.extend" zN:=by
 intro pins s σ H x vs v us Q I rx rv h;obtain⟨l,b,xs,zs,rfl,rfl,M,U,hz,q⟩:=h;cases rx;obtain⟨u,rfl,W⟩:=rv.one;cases W;obtain⟨z,G,n,r,hl,e⟩:=I.lstM M;obtain⟨z2,B,n2,r2,N,Y⟩:=P.Inv.lstR I U;have hsz:G.toArray.size+B.toArray.size<=zaj:=by rw[zax,zax];lia
 have J:¬ (!G.toArray.isEmpty && zd9 (G.toArray.size+B.toArray.size))=true:=by
  rw[JZ hsz,Bool.and_false];exact zaA
 refine zcT F.slot_list_extend ⟨_,e,rfl⟩ F.entry_list_extend (F.args_list_extend_2 _ _)
  (AutoSeq1.list_extend_list_list_0 l G.toArray n b B.toArray n2 J (by rw[zax];lia) (by lia)) ⟨e,Y,?_⟩
 refine⟨.non,_,I.lset (its':=G++B) M e (by simp) (r.append r2) ?_,rfl,q⟩;rw[zbc]
 lia
end
end My
namespace P
open PySem PySem.Spec PyProof.Rows L2
theorem aA{q β:Type}(a:q)(f:q->Option β):(some a).bind f=f a:=by rw[zac]
theorem aB{q β:Type}(a:q)(f:q->β):(some a).map f=some (f a):=by rw[zab]
section
variable {X:Cx}{O O':List Nat}{L:Lp}
noncomputable def DK:List D->Option D
 | [.int i]=>some (.int i)
 | [.bl b]=>some (.int (if b then 1 else 0))
 | _=>none
theorem U9:j9 X (.type "int") DK:=CallR.mono GQ <| by
 rintro xs H Q ⟨A,ds,d,B,r,e,q⟩;unfold DK at e;split at e
 ·cases e
  obtain⟨v,rfl,z⟩:=r.one;cases z.int_inv;exact .inl ⟨_,rfl,q _ H (Ext.refl _ _) (.int _)⟩
 ·cases e
  obtain⟨v,rfl,z⟩:=r.one;cases z.bl_inv;exact .inr ⟨_,rfl,q _ H (Ext.refl _ _) (.int _)⟩
 ·cases e
@[simp] theorem q_intB:DK [.bl b]=some (.int (if b then 1 else 0)):=rfl
@[simp] theorem q_intI:DK [.int i]=some (.int i):=rfl
open Classical in
def cT:D->D->Option D:=JJ λi j=>if My.DT i j then some (.int (i*j))else none
theorem EM:cT=F7:=by
 unfold cT F7;congr 1
theorem cL:lQ X (zaM .Mult) cT:=by rw[EM];exact WP
theorem VF(h:My.DT i j):cT (.int i) (.int j)=some (.int (i*j)):=by rw[EM];exact YJ h
theorem cG(h:-(10^250)<i)(h1:i<10^250)(h2:-(10^250)<j)(q:j<10^250):cT (.int i) (.int j)=some (.int (i*j)):=VF ⟨⟨h,h1⟩,h2,q⟩
def SG:List D->Option D
 | [.lst l]=>(iV l).map λns=>.int ns.sum
 | _=>none
theorem L6(z:X.calm=true):j9 X (.builtin "sum") SG:=CallR.mono (My.HB z) <| by
 rintro xs H Q ⟨A,ds,d,G,r,e,q⟩;unfold SG at e;split at e
 ·obtain⟨ns,F,rfl⟩:=map_some e
  obtain⟨v,rfl,B⟩:=r.one;obtain⟨a,J,rfl,h1,r1⟩:=B.lst_inv;rw[fU F r1]at h1;exact⟨a,ns,rfl,.inl h1,q _ H (Ext.refl _ _) (.int _)⟩
 ·cases e
theorem jC:∀ns:List Int,iV (ns.map .int)=some ns
 | []=>rfl
 | n::ns=>by rw[zak,iV,jC ns];rfl
@[simp] theorem q_sum{ns:List Int}:SG [.lst (ns.map .int)]=some (.int ns.sum):=by unfold SG;simp only[jC];rfl
theorem RepL.rep(r:RepL A H ds vs):∀k:Nat,RepL A H (zcl k ds).flatten (zcl k vs).flatten
 | 0=>.nil
 | k+1=>by rw[zdo,zdo,zdp,zdp];exact r.append (RepL.rep r k)
def dR(x y:D):Option D:=match x,y with
 | .tup l,.tup m=>if aZ (l.length+m.length)then some (.tup (l++m))else none
 | x,y=>v6 x y
theorem d8:lQ X (zaM .Add) dR:=OpR.mono (OpR.or W4 My.RE) <| by
 rintro x y H Q ⟨A,dx,J,d,G,z,B,e,q⟩;unfold dR at e;split at e
 ·rename_i l m
  cases l with
  | nil=>
   by_cases F:aZ (([]:List D).length+m.length)=true
   ·rw[if_pos F]at e
    cases e;obtain⟨a,xs,rfl,h1,r1⟩:=z.tup_inv;obtain⟨b,ys,rfl,h2,r2⟩:=B.tup_inv;cases r1;exact .inr ⟨a,b,ys,rfl,rfl,.inl (.inl h1),.inl (.inl h2),q _ H (Ext.refl _ _) (.tup h2 r2)⟩
   ·rw[if_neg F]at e;cases e
  | cons a l=>
   refine .inl ⟨A,_,_,d,G,z,B,?_,q⟩;rw[<- e];rfl
 ·exact .inl ⟨A,_,_,d,G,z,B,e,q⟩
@[simp] theorem q_addAI:dR (.int i) (.int j)=some (.int (i+j)):=rfl
@[simp] theorem q_addAT:dR (.tup l) (.tup m)=if aZ (l.length+m.length)then some (.tup (l++m))else none:=rfl
@[simp] theorem q_addAL:dR (.lst l) (.lst m)=if aZ (l.length+m.length)then some (.lst (l++m))else none:=rfl
@[simp] theorem q_addAS:dR (.str l) (.str m)=if aZ (l.length+m.length)then some (.str (l++m))else none:=rfl
def SD(i:Nat)(f:Ev):Sv:=λρ=>(aD i ρ).bind λx=>match x with
 | .lst l=>(f ρ).bind λd=>match d with
  | .lst m=>if aZ (l.length+m.length)then some (.nx (ρ.set i (some (.lst (l++m)))))else none
  | _=>none
 | _=>none
theorem qK(ho:PE X o (c7 i))(he:PD X O e f)(J:mem O i=true)(U:PE X (.Call (.Attribute o "extend" apos) [e] [] cpos) (tBM X.K "list" My.zN (c7 i) (v8 (tD Rep O f) SA)))
  (hs:zaD (.Call (.Attribute o "extend" apos) [e] [] cpos) none pos.line X.env=pure false:=by rfl) (h:Sub O' O=true:=by rfl):PSD X L O (.Expr (.Call (.Attribute o "extend" apos) [e] [] cpos) pos) (SD i f) O':=
 PS.mono (xH U hs) <| by
  rintro T σ H ⟨H0,A0,A,E,ρ,out,st,e,p⟩;obtain⟨x,ex,e⟩:=bind_some e;cases x with
  | lst l=>
   obtain⟨d,N,e⟩:=bind_some e;cases d with
   | lst m=>
    dsimp only at e;by_cases z:aZ (l.length+m.length)=true
    ·rw[if_pos z]at e
     cases e;obtain⟨a,M,q,e3,Y⟩:=st.own i _ (bW ex) (gP J);cases Y with
     | lst h4 r4=>
      refine⟨_,M,.inl ⟨rfl,_,SqL.of h4⟩,H0,A0,A,E,ρ,_,st,N,λv H' x r=>?_⟩;obtain⟨b,zs,rfl,W,F⟩:=RepB.lst_inv (.of r);refine⟨a,b,_,zs,rfl,rfl,x.ow _ _ q h4,W,by rw[r4.length,F.length];exact gJ z,?_⟩;have G:=x.ow _ _ q h4;obtain⟨A',B⟩:=((st.mono x).write (o:=.lst _) (bW ex) (gP J) M q e3 G trivial (.lst aH (((r4.ext x).append F).put q G trivial))).shut (Sub.mem h);exact p A' σ _ B
    ·rw[if_neg z]at e;cases e
   | _=>exact nn e
  | _=>exact nn e
def eU(c:Bv)(b:Sv):Nat->cU->Option Out
 | 0,_=>none
 | n+1,ρ=>(c ρ).bind λt=>if t=true then(b ρ).bind λo=>match o with
   | .nx ρ'=>eU c b n ρ'
   | .ct ρ'=>eU c b n ρ'
   | .bk ρ'=>some (.nx ρ')
   | .rt d=>some (.rt d)
  else some (.nx ρ)
def lF(c:Bv)(b:Sv):Sv:=λρ=>eU c b 100000 ρ
theorem HE(hp:zb5 (model X.prog X.w) X.A X.env X.xe)(W:uS X O1 c g)(hb:PSDs X ⟨Ob,O1⟩ O1 body b O1)(h1:Sub O1 O=true)(h2:Sub O' O1=true)(U:Sub O' Ob=true) :
  PSD X L O (.While c body [] pos) (lF g b) O':=PS.mono (LX hp W hb) λT σ H ⟨H0,A0,A,E,ρ,out,st,e,p⟩=>by
 obtain⟨A1,M⟩:=st.shut (Sub.mem h1);refine⟨λm σ H=>∃ρ A,ST H0 A0 A E O1 σ H ρ/\eU g b m ρ=some out,⟨100000,ρ,A1,M,e⟩,?_⟩;rintro m σ H ⟨ρ,A,st,e⟩;cases m with
 | zero=>cases e
 | succ m=>
  obtain⟨t,et,e⟩:=bind_some e;refine⟨H0,A0,A,E,ρ,t,st,et,λH1 N=>?_⟩;have fin:∀ {O2:List Nat} {A:Av} {σ:L2.St} {H:Hp} {ρ:cU},Sub O' O2=true->ST H0 A0 A E O2 σ H ρ->(∀A σ H,ST H0 A0 A E O' σ H ρ->T.nx σ H)->T.nx σ H:=λhs st k=>by
   obtain⟨z,J⟩:=st.shut (Sub.mem hs);exact k z _ _ J
  cases t with
  | true=>
   rw[if_pos rfl]at e;dsimp only;rw[if_pos rfl];obtain⟨o,eo,e⟩:=bind_some e;refine⟨λF H'=>∃q z,ST H0 A0 z E O1 F H' q/\eU g b m q=some out,λF H' ⟨q,z,B,Y⟩=>⟨m,zdd m,q,z,B,Y⟩,H0,A0,A,E,ρ,o,st.mono N,eo,?_⟩;cases o with
   | nx q=>exact λz G H2 B=>⟨q,z,B,e⟩
   | ct q=>exact λz G H2 B=>⟨q,z,B,e⟩
   | bk q=>cases e;exact λz G H2 B=>fin U B p
   | rt d=>cases e;exact p
  | false=>
   rw[if_neg zaA]at e;dsimp only;rw[if_neg zaA];cases e;exact fin h2 (st.mono N) p
end
theorem EF{P:zah}{w:World}{K:zae}{mg:Str->Option Value}{base:Heap}{x:Str}{st:Stmt}{N ps:List Str}{k:Nat}(F:My.DefAt K mg x st ps)(S:FnScope N ps (aK st)):Fn P w K mg base x (k+1) ps (λ_=>none):=
 My.BodyOk.ok (k:=k) (N:=N) (λM J A B s H vs Q E W ⟨G,ds,d,U,r,e,z,q⟩=>nomatch z) F S (λvs H Q E ⟨G,ds,d,_,_,e,z,_⟩=>nomatch z)
def gC(n:Nat)(b:(List D->Option D)->Sv):Nat->List D->Option D
 | 0=>λ_=>none
 | m+1=>bG n (b (gC n b m))
end P
namespace My
open PySem PySem.Spec PyProof.Rows L2
open AutoSeq1 (wpAny_loadPart')
theorem IC(l:Addr)(items:Array Value)(n:Nat)(z:Option Addr)(G:Array (Option Value)) :
  Meets (zb0.«enumerate.__new__» ⟨[.type "enumerate",.ref l],[]⟩) (λ_ R s=>s.heap.get? l=some {cls:=.type "tuple",dict:=z,data:=.seq items n,slots:=G} /\
   R (.ok (.ret (.ref (s.heap.push {cls:=.type "tuple_iterator",data:=.fields #[.ref l,.int 0 0]}).objs.size)))
    {s with heap:=(s.heap.push {cls:=.type "tuple_iterator",data:=.fields #[.ref l,.int 0 0]}).push {cls:=.type "enumerate",data:=.fields #[.none,.bool false,.ref s.heap.objs.size,za9 0,.none,.none]} }):=
 .of_wp λprog w A R s h=>by
  obtain⟨J,g,d,tk,M⟩:=s;obtain⟨q,h⟩:=h;have F:=sub_enumerate;have B:zcV (zbV ⟨J,g,d,tk,M⟩) l items:=⟨_,q,rfl,n,rfl⟩
  wp_walk using zbU q
  refine wpAny_stack_any λst=>zaf ?_
  split
  ·rename_i c _ _ _ _ _
   cases(c == Value.type "enumerate")
   ·wp_walk using zbU q,zbR B
    exact⟨_,rfl,h⟩
   ·wp_walk using zbU q,zbR B
    exact⟨_,rfl,h⟩
  ·wp_walk using zbU q,zbR B
   exact⟨_,rfl,h⟩
section
variable {prog:zah}{w:World}{A:zao}{E:Value->zad->Prop}{s:zad}
theorem HR(hl:SSq t s.heap l xs)
  (h:∀h',zbB h' (s.heap.objs.size+1) s.heap.objs.size 0 .none->SIt t h' s.heap.objs.size l 0->(∀b o,s.heap.get? b=some o->h'.get? b=some o)->Q (.ref (s.heap.objs.size+1)) {s with heap:=h'}) :
  wpAny (model prog w) A (call (.type "enumerate") [.ref l]) Q E s:=by
 obtain⟨⟨cls,G,data,U⟩,W,Y,n,hd⟩:=hl;have M:cls=.type (sqN t):=Y;have N:data=.seq xs n:=hd;subst M N;have J:(s.heap.push (GN t l)).objs.size=s.heap.objs.size+1:=zbT ..;have fin:zbB ((s.heap.push (GN t l)).push {cls:=.type "enumerate",data:=.fields #[.none,.bool false,.ref s.heap.objs.size,za9 0,.none,.none]}) (s.heap.objs.size+1) s.heap.objs.size 0 .none:=by
  have:=zaE (s.heap.push (GN t l)) (o:={cls:=.type "enumerate",data:=.fields #[.none,.bool false,.ref s.heap.objs.size,za9 0,.none,.none]}) rfl;rw[J]at this;exact this
 have q:=h _ fin ⟨_,zan _ (zaE _ rfl),rfl,rfl⟩ λb o x=>zan _ (zan _ x)
 cases t with
 | false=>
  refine callType_new F.called_enumerate (by decide) (F.typeCall_enumerate_1 _) (F.newCall_enumerate_1 _) (λz=>F.args_object_init_2 z _) F.entry_enumerate_new (meets_enumerate_newL l xs n G U) ⟨W,?_⟩;have B:(s.heap.push {cls:=.type "list_iterator",data:=.fields #[.ref l,.int 0 0]}).objs.size=s.heap.objs.size+1:=J;show _/\_;rw[B];exact⟨⟨_,fin,rfl⟩,q⟩
 | true=>
  refine callType_new F.called_enumerate (by decide) (F.typeCall_enumerate_1 _) (F.newCall_enumerate_1 _) (λz=>F.args_object_init_2 z _) F.entry_enumerate_new (IC l xs n G U) ⟨W,?_⟩;have B:(s.heap.push {cls:=.type "tuple_iterator",data:=.fields #[.ref l,.int 0 0]}).objs.size=s.heap.objs.size+1:=J;show _/\_;rw[B];exact⟨⟨_,fin,rfl⟩,q⟩
theorem IL{t:Bool}{e it l:Addr}{i:Nat}{items:Array Value}{x aj:Value}{Q:Value->zad->Prop}
  (he:zbB s.heap e it i aj) (ay:SIt t s.heap it l i) (hl:SSq t s.heap l items) (hx:items[i]?=some x) (ak:e≠it)
  (hQ:∀h', IsEnumOut h' e it ((i:Int)+1) x s.heap.objs.size -> SIt t h' it l (i+1) ->
   h'.get? s.heap.objs.size=some {cls:=.type "tuple",data:=.seq #[.int i s.toks,x]}->h'.objs.size=s.heap.objs.size+1->
   (∀b o,b≠e->b≠it->s.heap.get? b=some o->h'.get? b=some o)->Q (.ref s.heap.objs.size) {s with heap:=h',toks:=s.toks+1}) :
  wpAny (model prog w) A (zb0.«enumerate.__next__» ⟨[.ref e],[]⟩) (λfin s'=>∃v,fin=.done (.ret v)/\Q v s') E s:=by
 obtain⟨hp,g,d,tk,os⟩:=s;show wpAny _ _ (field (.ref e) 2 >>= _) _ _ _;refine zaa (zaR he rfl (x:=.ref it) rfl ?_);refine zaa (next_item ay hl hx λN ah z=>?_);replace z:za4 it hp N:=z;have W:zbB N e it i aj:=(z.2 e ak).trans he;show wpAny _ _ (field (.ref e) 3 >>= _) _ _ ⟨N,g,d,tk,os⟩;refine zaa (zaR W rfl (x:=za9 i) rfl ?_);show wpAny _ _ (field (.ref e) 4 >>= _) _ _ ⟨N,g,d,tk,os⟩;refine zaa (zaR W rfl (x:=.none) rfl ?_);show wpAny _ _ (mkInt i >>= _) _ _ ⟨N,g,d,tk,os⟩;refine zaa (wpAny_mkInt ?_);show wpAny _ _ (setField (.ref e) 3 (za9 ((i:Int)+1)) >>= _) _ _ ⟨N,g,d,tk+1,os⟩;refine zaa (zbA W (by simp) λac aa J=>?_);replace J:za4 e N ac:=J;replace aa:zbB ac e it ((i:Int)+1) aj:=aa;show wpAny _ _ (setField (.ref e) 4 .none >>= _) _ _ ⟨ac,g,d,tk+1,os⟩;refine zaa (zbA aa (by simp) λU Y B=>?_);replace B:za4 e ac U:=B;replace Y:zbB U e it ((i:Int)+1) aj:=Y;show wpAny _ _ (newTuple [.int i tk,x] >>= _) _ _ ⟨U,g,d,tk+1,os⟩;refine zaa (wpAny_newTuple ?_);have ab:zbB (U.push {cls:=.type "tuple",data:=.seq #[.int i tk,x]}) e it ((i:Int)+1) aj:=zan _ Y;generalize hh₄:U.push {cls:=.type "tuple",data:=.seq #[.int i tk,x]}=h₄ at ab;have hsz:U.objs.size=hp.objs.size:=by rw[B.1,J.1,z.1]
 have ar:e<hp.objs.size:=zap he;have au:h₄.get? hp.objs.size=some {cls:=.type "tuple",data:=.seq #[.int i tk,x]}:=by rw[<- hh₄,<- hsz];exact zaE _ rfl
 have aq:h₄.objs.size=hp.objs.size+1:=by rw[<- hh₄,zbT,hsz]
 have as:∀b o,b≠e->b≠it->hp.get? b=some o->h₄.get? b=some o:=λb o af aw hb=>by
  rw[<- hh₄];exact zan _ (B.extBut b o af (J.extBut b o af (z.extBut b o aw hb)))
 have ao:SIt t h₄ it l (i+1):=by
  rw[<- hh₄];exact ah.to λo q=>zan _ (B.extBut it o (zaU ak) (J.extBut it o (zaU ak) q))
 show wpAny _ _ (zcF (.ref e) >>= _) _ _ ⟨h₄,g,d,tk+1,os⟩;rw[hsz];clear hh₄ Y B aa J W z ah hsz U ac N;refine zaa ?_
 ·unfold zcF
  refine zaa (zaR ab rfl (x:=.none) rfl (zaf ?_));simp only[if_true];refine zaa (zbM ?_);refine zaa (zaR ab rfl (x:=aj) rfl ?_);refine zaa (zbA ab (by simp) λai ag F=>?_);replace F:za4 e h₄ ai:=F;replace ag:zbB ai e it ((i:Int)+1) x:=ag;show wpAny _ _ (zdC (.ref e) (.ref hp.objs.size) >>= _) _ _ ⟨ai,g,d,tk+1,os⟩;refine zaa ?_
  ·unfold zdC
   refine zaa (zbA ag (by simp) λal ad M=>?_);replace M:za4 e ai al:=M;replace ad:IsEnumOut al e it ((i:Int)+1) x hp.objs.size:=ad;refine zbA ad (by simp) λam ae G=>?_
   replace G:za4 e al am:=G;replace ae:IsEnumOut am e it ((i:Int)+1) x hp.objs.size:=ae;refine zaa (zdB (zaf ⟨_,rfl,hQ am ae ?_ ?_ ?_ ?_⟩))
   ·exact ao.to λo q=>G.extBut it o (zaU ak) (M.extBut it o (zaU ak) (F.extBut it o (zaU ak) q))
   ·exact G.extBut _ _ (zbt ar) (M.extBut _ _ (zbt ar) (F.extBut _ _ (zbt ar) au))
   ·rw[G.1,M.1,F.1,aq]
   ·exact λb o af aw hb=>G.extBut b o af (M.extBut b o af (F.extBut b o af (as b o af aw hb)))
theorem HQ{t:Bool}{e it l:Addr}{i:Nat}{items:Array Value}{x q:Value}{Q:Option Value->zad->Prop}
  (G:zbB s.heap e it i q) (B:SIt t s.heap it l i) (M:SSq t s.heap l items) (hx:items[i]?=some x) (z:e≠it)
  (J:∀h', IsEnumOut h' e it ((i:Int)+1) x s.heap.objs.size -> SIt t h' it l (i+1) ->
   h'.get? s.heap.objs.size=some {cls:=.type "tuple",data:=.seq #[.int i s.toks,x]}->h'.objs.size=s.heap.objs.size+1->
   (∀b o,b≠e->b≠it->s.heap.get? b=some o->h'.get? b=some o)->Q (some (.ref s.heap.objs.size)) {s with heap:=h',toks:=s.toks+1}) :
  wpAny (model prog w) A (za2 (.ref e)) Q E s:=by
 have hT:s.TypeIs (.ref e) "enumerate" := ⟨_,G,rfl⟩;unfold za2;exact zaa (zcE (zbH (name:=zbj "__next__") hT zdH
  (zbk zdH hT F.entry_enumerate_next
   (IL G B M hx z λh' a b c d k=>zaf (J h' a b c d k)) (F.args_enumerate_next_1 _))))
theorem K1{t:Bool}{i:Nat}{items:Array Value}{Q:Option Value->zad->Prop}(M:A.handled=none)
  (G:zbB s.heap e it i old) (B:SIt t s.heap it l i) (N:SSq t s.heap l items) (hx:items[i]?=none)
  (U:∀h',Heap.ExtBut it s.heap h'->Q none {s with heap:=h'}):wpAny (model prog w) A (za2 (.ref e)) Q E s:=by
 have hT:s.TypeIs (.ref e) "enumerate" := ⟨_,G,rfl⟩;unfold za2;refine zaa (zcE (zbH (name:=zbj "__next__") hT zdH
  (zbk zdH hT F.entry_enumerate_next ?_ (F.args_enumerate_next_1 _))))
 show wpAny _ _ (field (.ref e) 2 >>= _) _ _ _;refine zaa (zaR G rfl (x:=.ref it) rfl ?_);refine zaa (next_end M B N hx λh' x q z=>?_);obtain⟨o,W,J⟩:=z;refine zaa (zcw (T := "StopIteration") (b:=true) ⟨o,W,J⟩ isSubtype_stop ?_);exact zaf (U _ q)
end
def ItE(K:zae)(t:Bool)(l:Addr):It:=
 ⟨λi H => ∃xs, BF K t H l xs /\ i<xs.length, λi H x H' => ∃p u, x = .ref p /\ H p = none /\ H' = upd H p (.tup [.int (i:Int), u]) /\ ∀xs, BF K t H l xs -> xs[i]? = some u,
  λi H=>∃xs,BF K t H l xs/\xs.length<=i⟩
theorem G3{P:zah}{w:World}{K:zae}{W:List Expr}{x1}{tp:Pos}(t:Bool){e it l:Addr}(aa:e≠it) :
  Turn P w K (.Tuple W x1 tp) (ItE K t l) [e,it] e (λi h=>(∃F,zbB h e it (i:Nat) F)/\SIt t h it l i) where
 mem:=by simp
 obj:=by
  rintro i h ⟨⟨F,G⟩,⟨o1,e1,_,d1⟩⟩ c z;simp only[zaW,za0,or_false]at z;rcases z with rfl|rfl
  ·exact⟨_,G,λv q=>by cases q⟩
  ·exact⟨o1,e1,λv q=>by rw[d1]at q;cases q⟩
 keep:=λi h h' ⟨⟨F,G⟩,N⟩ k=>⟨⟨F,k e (by simp) _ G⟩,N.to λo q=>k it (by simp) o q⟩
 item:=by
  intro X hP hw hK z i pins s σ H E I Y st hg;subst hP hw hK;obtain⟨⟨F,G⟩,N⟩:=st;obtain⟨xs,q1,yE⟩:=hg;obtain⟨U,r1,p1⟩:=iT I q1;have e1:xs[i]?=some xs[i]:=by simp[yE]
  obtain⟨u,eu,ru⟩:=r1.get e1;refine HQ G N p1 (x:=u) (by simpa using eu) aa λh' a1 a2 a3 a4 J=>⟨_,rfl,?_⟩
  refine wpAny_letOwnedTupleGo_enum (s:={s with heap:=h',toks:=s.toks+1}) a1 λh2 ak sb=>?_
  have zz:∀c,c∈[e,it]->c<s.heap.objs.size:=λc z=>by
   simp only[zaW,za0,or_false]at z;rcases z with rfl|rfl
   ·exact zap G
   ·obtain⟨o,q,_⟩:=N;exact zap q
  have M:∀c o,c≠e->h'.get? c=some o->h2.get? c=some o:=λc o z q=>sb.extBut _ _ z q
  have I1:Inv X pins σ H {s with heap:=h2,toks:=s.toks+1}:=iE I Y λc o z q=>by
   simp only[zaW,za0,or_false,not_or]at z;exact M c o z.1 (J c o z.1 z.2 q)
  have B:H s.heap.objs.size=none:=I.fresh;have ae:h2.get? s.heap.objs.size=some {cls:=.type "tuple",data:=.seq #[.int i s.toks,u]}:=M _ _ (zbt (zz e (by simp))) a3;have I2:Inv X pins σ (upd H s.heap.objs.size (.tup [.int (i:Int),xs[i]])) {s with heap:=h2,toks:=s.toks+1}:=by
   have ai:HOk X.prog X.w (upd H s.heap.objs.size (.tup [.int (i:Int),xs[i]])) h2:=λc ob q=>by
    by_cases z:c=s.heap.objs.size
    ·subst z;rw[aH]at q;cases q
     exact⟨by show 2<=zaj;decide,[.int i s.toks,u],.cons ⟨_,rfl⟩ (.cons ru .nil),_,ae,rfl,0,rfl,rfl⟩
    ·rw[aE z]at q
     exact(I1.hok c ob q).stay (λ_ _ _ q=>q) (λd q=>by rw[aE (bE q B)];exact q) λd af q=>by rw[aE (bE q B)];exact q
   refine I.call' (s':={s with heap:=h2,toks:=s.toks+1}) (ch:=[e,it]) rfl ⟨λc o q _ _ hx=>?_,λc o q _ _ hx=>⟨o.slots,?_⟩,λc o q n hx=>by rw[aE (zaF (zap q))];exact n,λc o q hx=>⟨o,?_⟩,λc af q=>by rw[aE (bE q B)];exact q,λc o' u' q=>by rw[aE (bE q B)];exact q,λc ps q=>⟨#[],by rw[aE (bE q B),q];simp⟩⟩ ai I.bare λb hb=>?_
   ·simp only[zaW,za0,or_false,not_or]at hx
    exact M c o hx.1 (J c o hx.1 hx.2 q)
   ·simp only[zaW,za0,or_false,not_or]at hx
    exact M c o hx.1 (J c o hx.1 hx.2 q)
   ·simp only[zaW,za0,or_false,not_or]at hx
    exact M c o hx.1 (J c o hx.1 hx.2 q)
   ·obtain⟨_,f1,_,f3,f4,f5⟩:=Y b hb
    exact⟨f3,f1,f4,f5⟩
  refine⟨.ref s.heap.objs.size,_,I2,rfl,⟨_,_,rfl,B,rfl,λap g1=>by rw[<- wN I q1 g1];exact e1⟩,⟨⟨_,ak⟩,a2.to λo q=>M _ o (zaU aa) q⟩,λc z=>?_⟩;rw[aE (zaF (zz c z))];exact(Y c z).1
 done:=by
  intro X hP hw hK z i pins s σ H E I Y st hg;subst hP hw hK;obtain⟨⟨F,G⟩,N⟩:=st;obtain⟨xs,q1,am⟩:=hg;obtain⟨U,r1,p1⟩:=iT I q1;have n1:=r1.length;refine K1 (I.ok.hd z) G N p1 (by simp;lia) λh' J=>⟨rfl,iE (t':=s.toks) I Y λc o z q=>?_⟩
  simp only[zaW,za0,or_false,not_or]at z;exact J c o z.2 q
 self:=λ_ _ _ _ _ st h=>let ⟨⟨_,G⟩,_⟩:=st;wpAny_pyIter_enum G h
theorem boot_enumerate:zaH "enumerate" = some (.type "enumerate"):=by first|rfl|decide +kernel
def YT(K:zae)(ta:TA):TI:=λσ H R=>ta σ H λvs H1=>∃t l xs,vs=[.ref l]/\BF K t H1 l xs/\R (ItE K t l) H1
theorem QX{X:Cx}{z:List Expr}{x1}{tp:Pos}{a:Expr}{ta:TA}{p pos:Pos}(W:Gl X "enumerate")(hm:X.mg "enumerate" = none)(Y:PA X [a] ta)(hs:zag [a] X.env=[(false,eval a X.env)]:=by rfl) :
  PI X (.Tuple z x1 tp) (.Call (.Name "enumerate" p) [a] [] pos) (YT X.K ta):=by
 intro pins s σ H R I h;refine Call_ (lJ I W hm boot_enumerate (zcP (cR (Y pos pins s σ H _ I h) λus G ⟨vs,H1,F,r1,J⟩=>?_) (by rw[hs];rfl) rfl));obtain⟨t,l,xs,rfl,J,q⟩:=J;obtain⟨u,rfl,ru⟩:=vals1 r1;cases ru;obtain⟨U,_,p1⟩:=iT F J;refine HR p1 λh' N M k=>?_
 refine wpAny_pyIter_enum N ?_;have D:G.heap.objs.size+1≠G.heap.objs.size:=by lia
 refine⟨_,[_,_],_,_,H1,rfl,F.kept (t':=G.toks) k,G3 t D,⟨⟨_,N⟩,M⟩,λc B=>F.fpOk ?_ (F.hok.fresh ?_),q⟩
 ·simp only[zaW,za0,or_false]at B
  rcases B with rfl|rfl <;> lia
 ·simp only[zaW,za0,or_false]at B
  rcases B with rfl|rfl <;> lia
end My
namespace P
open PySem PySem.Spec PyProof.Rows L2
noncomputable def f7:Nat->List D->List D
 | _,[]=>[]
 | k,x::xs=>.tup [.int (k:Int),x]::f7 (k+1) xs
def GB(f:Lv):Lv:=λρ=>(f ρ).bind λds=>match ds with
 | [a]=>(gM a).map (f7 0)
 | _=>none
theorem gW:∀ {xs:List D} {k i:Nat} {d:D},(f7 k xs)[i]?=some d->∃x,xs[i]?=some x/\d=.tup [.int ((k+i:Nat):Int),x]
 | [],k,i,d,h=>by simp[f7]at h
 | x::xs,k,0,d,h=>by simp[f7]at h;exact⟨x,rfl,h.symm⟩
 | x::xs,k,i+1,d,h=>by
  obtain⟨y,z,q⟩:=gW (xs:=xs) (k:=k+1) (i:=i) (by simpa[f7]using h);exact⟨y,by simpa using z,by rw[q];congr 4;lia⟩
theorem fB:∀(xs:List D) (k:Nat),(f7 k xs).length=xs.length
 | [],_=>rfl
 | x::xs,k=>by simp[f7,fB xs]
theorem K8{G}(hg:Gl X "enumerate")(hm:X.mg "enumerate" = none)(ha:yF X O [a] f)(hs:zag [a] X.env=[(false,eval a X.env)]:=by rfl) :
  PDI X O (.Tuple elts G tp) (.Call (.Name "enumerate" p) [a] [] pos) (GB f):=PI.mono (My.QX hg hm ha hs) λσ H R ⟨H0,A0,A,E,ρ,items,st,e,q⟩=>by
 obtain⟨ds,e1,e⟩:=bind_some e;refine⟨H0,A0,A,E,ρ,ds,st,e1,λvs H1 G r1=>?_⟩;split at e
 case h_2=>cases e
 rename_i da;obtain⟨xs,N,rfl⟩:=map_some e;obtain⟨v,rfl,r2⟩:=r1.one;obtain⟨t1,F,us,rfl,q1,_,k1⟩:=xB (K:=X.K) N r2;refine⟨t1,F,us,rfl,q1,q _ H1 [.rep da (.ref F)] G (λp U=>?_) ?_⟩
 ·rw[List.mem_singleton.mp U];exact r2
 ·intro A' H' lv hE i
  have a1:Rep A' H' da (.ref F):=hE (.rep da (.ref F)) (zas ..);obtain⟨z,g1,B⟩:=k1 A' H' a1;refine⟨λhi=>⟨z,g1,by rw[B.length];rw[fB]at hi;exact hi⟩,λd hd=>?_⟩;obtain⟨x,ex,rfl⟩:=gW hd;obtain⟨u,J,Y⟩:=B.get' ex;refine⟨⟨z,g1,(List.getElem?_eq_some_iff.mp J).1⟩,λx' H2 ⟨p,u',e4,n,e5,W⟩=>?_⟩;subst e4 e5;have M:=W z g1;rw[J]at M;cases M;rw[zaO];exact⟨Ext.new n,.tup aH (.cons (.int _) (.cons (Y.ext (Ext.new n)) .nil))⟩
@[simp] theorem q_enum:GB f ρ=(f ρ).bind λds=>match ds with
 | [a]=>(gM a).map (f7 0)
 | _=>none:=rfl
end P
namespace P
open L2
structure Ro where
 j:Int
 k:Int
 a:Int
 b:Int
 p:Int
structure GR(M many:Int)(rs:List Ro):Prop where
 len:rs.length<=12
 jk:∀r∈rs,0<=r.j/\r.j<r.k/\r.k<many
 ab:∀r∈rs,(0<=r.a/\r.a<M)/\0<=r.b/\r.b<M
 pr:∀r∈rs,0<=r.p/\r.p<=10^30
noncomputable def i8(rs:List Ro)(n:Int):Option Ro:=if 0<=n then rs[n.toNat]? else none
theorem nD(h:i8 rs n=some r):r∈rs:=by
 unfold i8 at h;split at h
 ·exact zaw h
 ·cases h
theorem MP(h:i8 rs n=some r):0<=n/\n<(rs.length:Int):=by
 unfold i8 at h;split at h
 ·rename_i h0
  have:=(List.getElem?_eq_some_iff.mp h).1
  lia
 ·cases h
theorem T1(q:0<=n)(h:n<(rs.length:Int)):∃r,i8 rs n=some r:=by
 unfold i8;rw[if_pos q];have:n.toNat<rs.length:=by lia
 exact⟨rs[n.toNat],by simp[this]⟩
def gw(rs:List Ro):Int->List Int->Option Int
 | at_,[]=>some at_
 | at_,n::w=>(i8 rs n).bind λr=>if r.j=at_ then gw rs r.k w else none
theorem nR:∀ {at_:Int} {v w:List Int},gw rs at_ (v++w)=(gw rs at_ v).bind λe=>gw rs e w
 | at_,[],w=>rfl
 | at_,n::v,w=>by
  show((i8 rs n).bind λr=>if r.j=at_ then gw rs r.k (v++w)else none)=_;cases e:i8 rs n with
  | none=>simp[gw,e]
  | some r=>
   by_cases h:r.j=at_
   ·simp[gw,e,h,nR (v:=v) (w:=w)]
   ·simp[gw,e,h]
theorem Q1(h:gw rs at_ w=some e)(z:i8 rs n=some r)(q:r.j=e):gw rs at_ (w++[n])=some r.k:=by
 rw[nR,h];simp[gw,z,q]
theorem gS:∀ {at_ e:Int} {w:List Int},gw rs at_ w=some e->∀n∈w,∃r,i8 rs n=some r
 | at_,e,[],_,n,h=>nomatch h
 | at_,e,m::w,h,n,hn=>by
  unfold gw at h;cases er:i8 rs m with
  | none=>rw[er]at h;cases h
  | some r=>
   rw[er]at h;simp only[zcG]at h;split at h
   ·rcases List.mem_cons.mp hn with z|z
    ·rw[z];exact⟨r,er⟩
    ·exact gS h n z
   ·cases h
theorem jV(g:GR M many rs):∀ {at_ e:Int} {w:List Int},gw rs at_ w=some e->at_+(w.length:Int)<=e
 | at_,e,[],h=>by cases h;simp
 | at_,e,m::w,h=>by
  unfold gw at h;cases er:i8 rs m with
  | none=>rw[er]at h;cases h
  | some r=>
   rw[er]at h;simp only[zcG]at h;split at h
   ·have:=jV g h
    have:=(g.jk r (nD er)).2.1;simp only[zaz];lia
   ·cases h
def dH(rs:List Ro)(w:List Int):Int:=(w.map λn=>match i8 rs n with|some r=>r.p|none=>0).sum
theorem eI:dH rs (v++w)=dH rs v+dH rs w:=by
 unfold dH;rw[zaP,List.sum_append]
theorem SN(g:GR M many rs):∀ {at_ e:Int} {w:List Int},gw rs at_ w=some e->at_<many->e<many
 | at_,e,[],h,hl=>by cases h;exact hl
 | at_,e,m::w,h,hl=>by
  unfold gw at h;cases er:i8 rs m with
  | none=>rw[er]at h;cases h
  | some r=>
   rw[er]at h;simp only[zcG]at h;split at h
   ·exact SN g h (g.jk r (nD er)).2.2
   ·cases h
noncomputable def fl{α:Type}(h:Nat->Ro->List α):Nat->List Ro->List α
 | _,[]=>[]
 | m,r::rs=>h m r++fl h (m+1) rs
noncomputable def sg(q:Nat->Ro->Int):Nat->List Ro->Int
 | _,[]=>0
 | m,r::rs=>q m r+sg q (m+1) rs
theorem xV{B:Type}{h:Nat->Ro->List B}{a:B}:∀ {rs:List Ro} {m:Nat},a∈fl h m rs↔∃i r,rs[i]?=some r/\a∈h (m+i) r
 | [],m=>by simp[fl]
 | r::rs,m=>by
  unfold fl;rw[List.mem_append,xV (rs:=rs) (m:=m+1)];constructor
  ·rintro(z|⟨i,q,e,z⟩)
   ·exact⟨0,r,rfl,z⟩
   ·exact⟨i+1,q,by simpa using e,by rw[show m+(i+1)=m+1+i by lia];exact z⟩
  ·rintro⟨i,q,e,z⟩
   cases i with
   | zero=>simp at e;subst e;exact .inl z
   | succ i=>exact .inr ⟨i,q,by simpa using e,by rw[show m+1+i=m+(i+1) by lia];exact z⟩
theorem uV{q:Type}{h:Nat->Ro->List q}:∀ {a b:List Ro} {m:Nat},fl h m (a++b)=fl h m a++fl h (m+a.length) b
 | [],b,m=>by simp[fl]
 | r::a,b,m=>by
  show h m r++fl h (m+1) (a++b)=(h m r++fl h (m+1) a)++_;rw[uV,List.append_assoc,zaz,show m+1+a.length=m+(a.length+1) by lia]
theorem PL{q:Type}{h:Nat->Ro->List q}{rs:List Ro}{i:Nat}{r:Ro}(e:rs[i]?=some r):fl h 0 (rs.take (i+1))=fl h 0 (rs.take i)++h i r:=by
 have hi:i<rs.length:=(List.getElem?_eq_some_iff.mp e).1;rw[zcZ,e,uV];have:(rs.take i).length=i:=by simp;lia
 simp[this,fl]
theorem D0{G:Type}{R:G->G->Prop}{h:Nat->Ro->List G}:∀ {rs:List Ro} {m:Nat},(∀i r,rs[i]?=some r->(h (m+i) r).Pairwise R)->(∀i j r q,i<j->rs[i]?=some r->rs[j]?=some q->∀a∈h (m+i) r,∀b∈h (m+j) q,R a b)->(fl h m rs).Pairwise R
 | [],m,_,_=>zdq
 | r::rs,m,h1,h2=>by
  unfold fl;rw[List.pairwise_append];refine⟨h1 0 r rfl,D0 (rs:=rs) (m:=m+1) (λi q e=>?_) (λi j q F J e M a B b z=>?_),λa B b z=>?_⟩
  ·have:=h1 (i+1) q (by simpa using e)
   rw[show m+1+i=m+(i+1) by lia];exact this
  ·rw[show m+1+i=m+(i+1) by lia]at B
   rw[show m+1+j=m+(j+1) by lia]at z;exact h2 (i+1) (j+1) q F (by lia) (by simpa using e) (by simpa using M) a B b z
  ·obtain⟨j,q,e,z⟩:=xV.mp z
   rw[show m+1+j=m+(j+1) by lia]at z;exact h2 0 (j+1) r q (by lia) rfl (by simpa using e) a B b z
def bS(rs:List Ro)(k:Int):Nat->Int->List (List Int)
 | 0,_=>[]
 | n+1,x=>if x=k then [[]]else fl (λi r=>if r.j=x/\r.k<=k then(bS rs k n r.k).map λw=>(i:Int)::w else []) 0 rs
theorem D5{rs:List Ro}{i:Nat}:i8 rs (i:Int)=rs[i]?:=by unfold i8;rw[if_pos (by lia)];simp
theorem iJ{rs:List Ro}{k:Int}:∀ {n:Nat} {x:Int} {w:List Int},w∈bS rs k n x->gw rs x w=some k
 | 0,x,w,h=>nomatch h
 | n+1,x,w,h=>by
  unfold bS at h;split at h
  ·rename_i e
   rw[List.mem_singleton.mp h,e];rfl
  ·obtain⟨i,r,e,hw⟩:=xV.mp h
   rw[zaO]at hw;split at hw
   ·rename_i hc
    obtain⟨v,q,rfl⟩:=List.mem_map.mp hw;have:=iJ q;simp[gw,D5,e,hc.1,this]
   ·cases hw
theorem mX(g:GR M many rs):∀ {n:Nat} {x:Int} {w:List Int},k-x<(n:Int)->gw rs x w=some k->w∈bS rs k n x
 | 0,x,w,hn,h=>by have:=jV g h;simp at hn;lia
 | n+1,x,w,hn,h=>by
  unfold bS;cases w with
  | nil=>cases h;rw[if_pos rfl];exact List.mem_singleton.mpr rfl
  | cons m v=>
   have q:=jV g h;simp only[zaz]at q;rw[if_neg (by lia)];unfold gw at h;cases er:i8 rs m with
   | none=>rw[er]at h;cases h
   | some r=>
    rw[er]at h;simp only[zcG]at h;split at h
    ·rename_i hj
     have B:=MP er;obtain⟨i,rfl⟩:∃i:Nat,m=(i:Int):=⟨m.toNat,by lia⟩;rw[D5]at er;have F:=(g.jk r (zaw er)).2.1;have z:=jV g h;refine xV.mpr ⟨i,r,er,?_⟩;rw[zaO,if_pos ⟨hj,by lia⟩];exact List.mem_map.mpr ⟨v,mX g (by simp at hn;lia) h,rfl⟩
    ·cases h
theorem oJ{rs:List Ro}{k:Int}:∀(n:Nat) (x:Int),(bS rs k n x).Pairwise λa b=>HT.lexLt a b=true
 | 0,x=>zdq
 | n+1,x=>by
  unfold bS;split
  ·exact List.pairwise_singleton _ _
  ·refine D0 (λi r _=>?_) (λi j r F B _ _ a q b z=>?_)
   ·split
    ·rw[zeh]
     refine(oJ n r.k).imp λ{a b} h=>?_
     show(if _=_ then HT.lexLt a b else _)=true;rw[if_pos rfl];exact h
    ·exact zdq
   ·split at q
    ·split at z
     ·obtain⟨u,_,rfl⟩:=List.mem_map.mp q
      obtain⟨v,_,rfl⟩:=List.mem_map.mp z;show(if _=_ then HT.lexLt u v else _)=true;rw[if_neg (by lia)];exact decide_eq_true (by lia)
     ·cases z
    ·cases q
theorem uT:∀a:List Int,HT.lexLt a a=false
 | []=>rfl
 | x::a=>by show(if x=x then HT.lexLt a a else _)=false;rw[if_pos rfl];exact uT a
theorem BX(n:Nat)(x:Int):(bS rs k n x).Nodup:=
 (oJ n x).imp λ{a b} h e=>by rw[e,uT]at h;cases h
theorem qZ{z:Type}[DecidableEq z]:∀ {l K:List z},l.Nodup->(∀x∈l,x∈K)->l.length<=K.length
 | [],K,_,_=>zaI _
 | a::l,K,h,hs=>by
  have q:=hs a (zas ..);have h2:=List.nodup_cons.mp h;have:=qZ (l:=l) (K:=K.erase a) h2.2 λx hx=>(List.mem_erase_of_ne λe=>h2.1 (by rw[<- e];exact hx)).mpr (hs x (zaq _ hx))
  rw[List.length_erase_of_mem q]at this;have:=List.length_pos_of_mem q;simp only[zaz];lia
theorem jP{z:Type}{h:Nat->Ro->List z}{B:Nat}:∀ {rs:List Ro} {m:Nat},(∀i r,rs[i]?=some r->(h (m+i) r).length<=B)->(fl h m rs).length<=rs.length*B
 | [],m,_=>by simp[fl]
 | r::rs,m,hb=>by
  unfold fl;rw[zbc,zaz,Nat.succ_mul];have h1:=hb 0 r rfl;have h2:=jP (h:=h) (B:=B) (rs:=rs) (m:=m+1) λi q e=>by
   have:=hb (i+1) q (by simpa using e);rw[show m+1+i=m+(i+1) by lia];exact this
  simp only[Nat.add_zero]at h1
  lia
theorem mL{M many:Int}{rs:List Ro}(g:GR M many rs){k:Int}:∀(n:Nat) (x:Int) (d:Nat),k-x<=(d:Int)->(bS rs k n x).length<=12^d
 | 0,x,d,_=>zaI _
 | n+1,x,d,hd=>by
  unfold bS;split
  ·exact Nat.one_le_pow _ _ (by decide)
  ·by_cases hx:x<k
   ·obtain⟨e,rfl⟩:∃e,d=e+1:=⟨d-1,by lia⟩
    refine zaL (jP (B:=12^e) λi r er=>?_) ?_
    ·split
     ·rename_i hc
      rw[zal];have q:=g.jk r (zaw er);exact mL g n r.k e (by lia)
     ·exact zaI _
    ·rw[Nat.pow_succ,Nat.mul_comm]
     exact Nat.mul_le_mul_left _ g.len
   ·refine zaL (jP (B:=0) λi r er=>?_) (by simp)
    split
    ·rename_i hc
     have q:=g.jk r (zaw er)
     lia
    ·exact zaI _
end P
namespace P
open PySem PySem.Spec PyProof.Rows L2
theorem b8{n:Nat}(h:n<=1000000):bZ [.int (n:Int)]=some (aQ 0 1 n):=by
 show(if pN (n:Int)then _ else _)=_;rw[if_pos (by simp only[pN,zaQ,decide_eq_true_eq];lia)];simp
theorem eB(q:0<=y)(h:y<=1000000):bZ [.int y]=some (aQ 0 1 y.toNat):=by
 show(if pN y then _ else _)=_;rw[if_pos (by simp only[pN,zaQ,decide_eq_true_eq];lia)]
theorem JT(h:v.length+w.length<=1000000):dR (tupI v) (tupI w)=some (tupI (v++w)):=by
 unfold tupI;rw[q_addAT,if_pos (by simp only[aZ,zal];exact decide_eq_true h),zaP]
noncomputable def kR(r:Ro):D:=.tup [.int r.j,.int r.k,.int r.a,.int r.b,.int r.p]
theorem x9(h:i8 rs n=some r):fL (rs.map kR) n=some (kR r):=by
 have q:=MP h;obtain⟨j,rfl⟩:∃j:Nat,n=(j:Int):=⟨n.toNat,by lia⟩;unfold i8 at h;rw[if_pos (by lia)]at h;refine bV ?_;rw[zaB];simp at h;rw[h];rfl
theorem at0:fL (a::l) 0=some a:=bV (j:=0) rfl
theorem at1:fL (a::b::l) 1=some b:=bV (j:=1) rfl
theorem at2:fL (a::b::c::l) 2=some c:=bV (j:=2) rfl
theorem XT:fL (a::b::c::d::l) 3=some d:=bV (j:=3) rfl
theorem qx:fL (a::b::c::d::e::l) 4=some e:=bV (j:=4) rfl
theorem qf:aJ (kR r) (.int 0)=some (.int r.j):=by simp[kR,at0]
theorem ZW:aJ (kR r) (.int 1)=some (.int r.k):=by simp[kR,at1]
theorem qa2:aJ (kR r) (.int 4)=some (.int r.p):=by simp[kR,qx]
theorem gY{K:Nat}{f:Ev}{rest:List (Option D)}{F:Int->D}(h:∀k:Int,0<=k->k<(K:Int)->f (some (.int k)::rest)=some (F k)):∀(l:List Nat) (o:Option D),(∀k∈l,k<K)->bA (aS 0) eY f (l.map λ(k:Nat)=>D.int (k:Int)) (o::rest)=some (l.map λ(k:Nat)=>F (k:Int))
 | [],o,_=>rfl
 | k::l,o,hl=>by
  have ih:=gY h l (some (.int (k:Int))) λm q=>hl m (zaq _ q)
  have z:=h (k:Int) (by lia) (by have:=hl k (zas ..);lia);simp[bA,z,ih]
theorem qL:∀(ws:List (List Int)) (o:Option D),(∀w∈ws,w.length<=1000)->bA (aS 0) eY (a7 dR (eX (aC (aD 1) aY)) (aD 0)) (ws.map tupI) [o,some (.int t)]=some ((ws.map λw=>t::w).map tupI)
 | [],o,_=>rfl
 | w::ws,o,h=>by
  have ih:=qL (t:=t) ws (some (tupI w)) λv z=>h v (zaq _ z)
  have q:=JT (v:=[t]) (w:=w) (by have:=h w (zas ..);simp;lia);have tt:D.tup [.int t]=tupI [t]:=rfl;simp only[List.singleton_append]at q;simp[-zar,bA,tt,q,ih]
end P
namespace My
open PySem PySem.Spec PyProof.Rows L2
noncomputable def qp(a:Bool):String:=if a=true then "str_ascii_iterator" else "str_iterator"
def ItS(x:Str):It:=⟨λi H=>i<x.cps.size,λi H y H'=>H'=H/\∃c,x.cps[i]?=some c/\y=.str ⟨#[c]⟩,λi H=>x.cps.size<=i⟩
theorem J6{P:zah}{w:World}{K:zae}{tg:Expr}(a:Bool)(x:Str)(t:Tok)(it:Addr):Turn P w K tg (ItS x) [it] it (λi h=>h.IsStrIter it (qp a) x t i) where
 mem:=by simp
 obj:=λi h st b q=>by
  have e:b=it:=by simpa using q
  subst e;obtain⟨o,e,c,d⟩:=st;exact⟨o,e,λv z=>by rw[d]at z;cases z⟩
 keep:=λi h h' st k=>let ⟨o,ho,r⟩:=st;⟨o,k it (by simp) o ho,r⟩
 item:=by
  intro X hP hw Y hc i pins s σ H E I J st W;subst hP hw Y;obtain⟨G,f1,f2,M,F,N⟩:=J it (by simp);have hi:i<x.cps.size:=W;have hx:x.cps[i]?=some x.cps[i]:=by simp[hi]
  cases a with
  | true=>
   refine wpAny_pyNext_ascii_item st hx λh' B sb=>?_
   have I1:Inv X pins σ H {s with heap:=h',toks:=s.toks+1}:=I.turned (t':=s.toks+1) (λb o q e=>(sb.2 b q).trans e) G f1 M F N;obtain⟨o,e,c,d⟩:=id B;exact⟨_,rfl,t7 (s:={s with heap:=h',toks:=s.toks+1}) e c d (by decide) ⟨.str ⟨#[x.cps[i]]⟩,H,I1,⟨_,rfl⟩,⟨rfl,_,hx,rfl⟩,B,λb q=>(J b q).1⟩⟩
  | false=>
   refine wpAny_pyNext_wide_item st hx λh' B sb=>?_
   have I1:Inv X pins σ H {s with heap:=h',toks:=s.toks+1}:=I.turned (t':=s.toks+1) (λb o q e=>(sb.2 b q).trans e) G f1 M F N;obtain⟨o,e,c,d⟩:=id B;exact⟨_,rfl,t7 (s:={s with heap:=h',toks:=s.toks+1}) e c d (by decide) ⟨.str ⟨#[x.cps[i]]⟩,H,I1,⟨_,rfl⟩,⟨rfl,_,hx,rfl⟩,B,λb q=>(J b q).1⟩⟩
 done:=by
  intro X hP hw Y hc i pins s σ H E I J st W;subst hP hw Y;obtain⟨G,f1,f2,M,F,N⟩:=J it (by simp);have hi:x.cps.size<=i:=W;have hx:x.cps[i]?=none:=by simp[hi]
  cases a with
  | true=>exact wpAny_pyNext_ascii_end (I.ok.hd hc) st hx λh' U=>⟨rfl,I.turned (t':=s.toks) (λb o q e=>U b o q e) G f1 M F N⟩
  | false=>exact wpAny_pyNext_wide_end (I.ok.hd hc) st hx λh' U=>⟨rfl,I.turned (t':=s.toks) (λb o q e=>U b o q e) G f1 M F N⟩
 self:=λ_ _ _ _ _ st h=>by
  cases a with
  | true=>exact wpAny_pyIter_striter_ascii st h
  | false=>exact wpAny_pyIter_striter_wide st h
def qaz(tl:TE):TI:=λσ H R=>tl σ H λx H1=>∃y,x=.str y/\R (ItS y) H1
section
variable {X:Cx}{tg:Expr}
theorem U2{l:Expr}{tl:TE}(F:PE X l tl):PI X tg l (qaz tl):=by
 intro pins s σ H R I h;refine cR (F pins s σ H _ I h) λv z ⟨x,H1,B,r1,J⟩=>?_
 obtain⟨y,rfl,q⟩:=J;obtain⟨t,rfl⟩:=r1;have fin:∀a:Bool,PIE X pins σ tg R (.ref z.heap.objs.size) {z with heap:=z.heap.push {cls:=.type (qp a),data:=.fields #[.str y t,.int 0 0]} }:=λa=>by
  refine⟨z.heap.objs.size,[z.heap.objs.size],_,_,H1,rfl,B.kept (t':=z.toks) λb o e=>zan _ e,J6 a y t _,⟨_,zaE _ rfl,rfl,rfl⟩,λb G=>?_,q⟩;have e:b=z.heap.objs.size:=by simpa using G
  subst e;exact B.fpOk (zai _) (B.hok.fresh (zai _))
 cases ha:y.cps.all (·<128)
 ·exact wpAny_pyIter_wide ha (fin false)
 ·exact wpAny_pyIter_ascii ha (fin true)
theorem HF:OpR X (zaC .LtE) (λx y H Q=>∃i j,x=.str i/\y=.str j/\Q (.bl (!decide (j.cps.toList<i.cps.toList))) H):=by
 intro pins s σ H x y v u Q I z B h;obtain⟨i,j,rfl,rfl,q⟩:=h;obtain⟨t,rfl⟩:=z;obtain⟨t',rfl⟩:=B;exact PySem.P.le_str ⟨.bl _,H,I,rfl,q⟩
theorem zD:∀ {ss:List Str} {its:List Value},Vals (ss.map V.str) its->StrsAre its ss
 | [],_,.nil=>.nil
 | x::ss,_,.cons r t=>by
  obtain⟨k,rfl⟩:=r;exact .cons x k (zD t)
def rJoin(K:zae):V->List V->Hp->VK->Prop:=λx vs H Q=>∃(sep:Str) (p:Addr) (ss:List Str),x=.str sep/\vs=[.ref p]/\SqL K H p (ss.map V.str)/\(ss.map (·.length)).sum+ss.length*sep.length<=16777216/\Q (.str (Txt.join sep ss)) H
theorem E4:MtM X "str.join" (rJoin X.K):=by
 intro pins s σ H x vs v W Q I N U h;obtain⟨sep,p,ss,rfl,rfl,B,G,q⟩:=h;obtain⟨t,rfl⟩:=N;obtain⟨u,rfl,J⟩:=U.one;cases J;obtain⟨z,F,M,_⟩:=I.list B;exact join_list (items:=z.toArray) M.isList (by simpa using zD F) G λt' k=>⟨.str (Txt.join sep ss),H,I.kept (t':=k) λ_ _ e=>e,⟨_,rfl⟩,q⟩
end
end My
namespace P
open PySem PySem.Spec PyProof.Rows L2
section
variable {X:Cx}{O O':List Nat}{L:Lp}
noncomputable def NM:List D->Option (List Str)
 | []=>some []
 | .str b::l=>(NM l).map (b::·)
 | _=>none
theorem zI:∀ {ds:List D} {ns:List Str} {vs:List V},NM ds=some ns->RepL A H ds vs->vs=ns.map V.str
 | [],_,_,e,.nil=>by cases e;rfl
 | d::ds,ns,_,e,.cons h t=>by
  cases d with
  | str b=>
   obtain⟨m,q,rfl⟩:=map_some e;cases RepB.str_inv (.of h);rw[zI q t];rfl
  | _=>exact nn e
theorem vG:∀bs:List Str,NM (bs.map .str)=some bs
 | []=>rfl
 | b::bs=>by rw[zak,NM,vG bs];rfl
def A5:D->D->Option D
 | .str sep,.lst l=>(NM l).bind λss=>if(ss.map (·.length)).sum+ss.length*sep.length<=16777216 then some (.str (Txt.join sep ss))else none
 | _,_=>none
theorem EY(U:PB X O o fo)(J:PB X O e fe)(M:∀ {to:TE} {t:TA},PE X o to->PA X [e] t->PE X (.Call (.Attribute o "join" apos) [e] [] cpos) (tBM X.K "str" (My.rJoin X.K) to t))(hs:zag [e] X.env=(false,eval e X.env)::zag [] X.env:=by rfl):PD X O (.Call (.Attribute o "join" apos) [e] [] cpos) (a7 A5 fo fe):=
 PE.mono (M U (zK J FV hs)) <| by
  rintro σ H Q ⟨H0,A0,A,E,ρ,d,st,e,q⟩;obtain⟨x,ex,e⟩:=bind_some e;obtain⟨y,G,e⟩:=bind_some e;refine⟨H0,A0,A,E,ρ,x,st,ex,λv H1 F r1=>?_⟩;unfold A5 at e;split at e
  ·rename_i sep l _
   obtain⟨ss,es,e⟩:=bind_some e;by_cases z:(ss.map (·.length)).sum+ss.length*sep.length<=16777216
   ·rw[if_pos z]at e
    cases e;cases r1.str_inv;refine⟨rfl,H0,A0,A,E,ρ,[.lst l],st.mono F,by unfold aC aY;rw[G];rfl,λvs H2 N r2=>?_⟩;obtain⟨w,rfl,B⟩:=r2.one;obtain⟨p,W,rfl,h1,r3⟩:=B.lst_inv;rw[zI es r3]at h1;exact⟨sep,p,ss,rfl,rfl,.inl h1,z,q _ H2 (F.trans N) (.str _)⟩
   ·rw[if_neg z]at e;cases e
  ·cases e
theorem WW(h:(ss.map (·.length)).sum+ss.length*sep.length<=16777216):A5 (.str sep) (.lst (ss.map .str))=some (.str (Txt.join sep ss)):=by
 unfold A5;simp only[vG,zcG];rw[if_pos h]
noncomputable def SH:D->D->Option D
 | .int i,.int j=>some (.bl (decide (i<=j)))
 | .str i,.str j=>some (.bl (!decide (j.cps.toList<i.cps.toList)))
 | _,_=>none
theorem VQ:lQ X (zaC .LtE) SH:=OpR.mono (OpR.or Y4 My.HF) <| by
 rintro x y H Q ⟨A,dx,G,d,F,B,z,e,q⟩;unfold SH at e;split at e
 ·cases e
  cases B.int_inv;cases z.int_inv;exact .inl ⟨_,_,rfl,rfl,q _ H (Ext.refl _ _) (.bl _)⟩
 ·cases e
  cases B.str_inv;cases z.str_inv;exact .inr ⟨_,_,rfl,rfl,q _ H (Ext.refl _ _) (.bl _)⟩
 ·cases e
@[simp] theorem q_leAI:SH (.int i) (.int j)=some (.bl (decide (i<=j))):=rfl
@[simp] theorem q_leAS:SH (.str i) (.str j)=some (.bl (!decide (j.cps.toList<i.cps.toList))):=rfl
def nC(x y:D):Option D:=match x,y with
 | .str i,.str j=>some (.bl (!(!(Builtin.Str.occurrences j i 0 j.length 1).isEmpty)))
 | x,y=>yA x y
theorem II(G:X.A.units+64<cLine):lQ X (zaC .NotIn) nC:=OpR.mono (OpR.or (LJ G) wC) <| by
 rintro x y H Q ⟨A,dx,J,d,F,z,B,e,q⟩;unfold nC at e;split at e
 ·cases e
  cases z.str_inv;cases B.str_inv;exact .inr ⟨_,_,rfl,rfl,q _ H (Ext.refl _ _) (.bl _)⟩
 ·exact .inl ⟨A,_,_,d,F,z,B,e,q⟩
noncomputable def signs(x:Str):List D:=x.cps.toList.map λc=>.str ⟨#[c]⟩
theorem WD:IZ (My.ItS x) [] (signs x):=by
 intro A H J M i;have q:(signs x).length=x.cps.size:=by simp[signs]
 refine⟨λhi=>by rw[q]at hi;exact hi,λd hd=>?_⟩;have hi:i<x.cps.size:=by rw[<- q];exact(List.getElem?_eq_some_iff.mp hd).1
 refine⟨hi,λy H' ⟨e,c,B,z⟩=>?_⟩;subst e z;have:d=.str ⟨#[c]⟩:=by
  unfold signs at hd;rw[zaB]at hd;obtain⟨F,G,rfl⟩:=map_some hd;have:x.cps[i]?=some F:=by rw[<- zee];exact G
  rw[B]at this;cases this;rfl
 subst this;exact⟨Ext.refl _ _,.str _⟩
def fQ(f:Ev):Lv:=λρ=>(f ρ).bind λd=>match d with
 | .lst l=>some l
 | .tup l=>some l
 | .dT l=>some (l.map λp=>.tup (p.1.map JB))
 | .str x=>some (signs x)
 | _=>none
@[simp] theorem q_lSeqA:fQ f ρ=(f ρ).bind λd=>match d with
 | .lst l=>some l
 | .tup l=>some l
 | .dT l=>some (l.map λp=>.tup (p.1.map JB))
 | .str x=>some (signs x)
 | _=>none:=rfl
theorem KH(h:PD X O e f):PDI X O tg e (fQ f):=PI.mono (PI.or (OU h) (My.U2 h)) <| by
 rintro σ H R ⟨H0,A0,A,E,ρ,items,st,e,q⟩;obtain⟨d,z,e⟩:=bind_some e;cases d with
 | str x=>
  cases e;refine .inr ⟨H0,A0,A,E,ρ,_,st,z,λv H1 F r1=>?_⟩;cases RepB.str_inv (.of r1);exact⟨x,rfl,q _ H1 [] F (λp B=>nomatch B) WD⟩
 | lst l=>exact .inl ⟨H0,A0,A,E,ρ,items,st,by unfold NO;rw[z];exact e,q⟩
 | tup l=>exact .inl ⟨H0,A0,A,E,ρ,items,st,by unfold NO;rw[z];exact e,q⟩
 | dT l=>exact .inl ⟨H0,A0,A,E,ρ,items,st,by unfold NO;rw[z];exact e,q⟩
 | _=>exact nn e
end
structure GInt(mg:Str->Option Value)(x:Str)(i:Int):Prop where
 ex:∃t,mg x=some (.int i t)
section
variable {X:Cx}{O:List Nat}
end
@[simp] theorem q_eqS:i4 (.str a) (.str b)=some (.bl (decide (a=b))):=by
 unfold i4 GO;rw[if_pos (.inl rfl)];by_cases h:a=b
 ·subst h;simp
 ·have h2:¬ D.str a=D.str b:=λz=>h (by injection z)
  simp[h]
@[simp] theorem q_neS:uR (.str a) (.str b)=some (.bl (!decide (a=b))):=by
 unfold uR GO;rw[if_pos (.inl rfl)];by_cases h:a=b
 ·subst h;simp
 ·have h2:¬ D.str a=D.str b:=λz=>h (by injection z)
  simp[h]
theorem fR{f rest:Sv}{ρ:cU}{R:D->Prop}(W:cU->Prop)(h:∃ρ',f ρ=some (.nx ρ')/\W ρ')(k:∀ρ',W ρ'->∃d,rest ρ'=some (.rt d)/\R d):∃d,dD f rest ρ=some (.rt d)/\R d:=by
 obtain⟨ρ',e,w⟩:=h;rw[aF e];exact k ρ' w
theorem EV{c:Bv}{f rest:Sv}{ρ:cU}{R:D->Prop}(b:Bool)(q:c ρ=some b)(z:b=true->∃d,f ρ=some (.rt d)/\R d)(B:b=false->∃d,rest ρ=some (.rt d)/\R d):∃d,dD (BE c f JH) rest ρ=some (.rt d)/\R d:=by
 cases b with
 | true=>
  obtain⟨d,e,r⟩:=z rfl;exact⟨d,tH (by rw[qaN q];exact e),r⟩
 | false=>
  rw[aF (ρ':=ρ) (by rw[R0 q];rfl)];exact B rfl
def eqN(n:Nat)(d:D):Prop:=∃x,i9 d=some x/\x.nb=true/\x.dep<=n
theorem eqN.ok(h:eqN n d)(q:n<=60):kI d=true:=by
 obtain⟨x,e,a,b⟩:=h;unfold kI;rw[e];show(x.nb && decide (x.dep<=60))=true;rw[a,decide_eq_true (by lia)];rfl
theorem eqN.mono(h:eqN n d)(q:n<=m):eqN m d:=by
 obtain⟨x,e,a,b⟩:=h;exact⟨x,e,a,by lia⟩
theorem eqN.int:eqN n (.int i):=⟨.int i,rfl,rfl,zaI _⟩
theorem eqN.str:eqN n (.str s):=⟨.str s,rfl,rfl,zaI _⟩
theorem eqN.list:∀ {l:List D},(∀d∈l,eqN n d)->∃xs,lM l=some xs/\My.N4 xs=true/\My.uA xs<=n
 | [],_=>⟨[],rfl,rfl,zaI _⟩
 | d::l,h=>by
  obtain⟨x,e,a,b⟩:=h d (zas ..);obtain⟨xs,z,B,G⟩:=eqN.list (l:=l) λq F=>h q (zaq _ F)
  refine⟨x::xs,?_,?_,?_⟩
  ·rw[lM,e,z];rfl
  ·show(x.nb && My.N4 xs)=true
   rw[a,B];rfl
  ·show max x.dep (My.uA xs)<=n
   lia
theorem eqN.tup(h:∀d∈l,eqN n d):eqN (n+1) (.tup l):=by
 obtain⟨xs,e,a,b⟩:=eqN.list h;refine⟨.tup xs,?_,a,?_⟩
 ·rw[i9,e];rfl
 ·show My.uA xs+1<=n+1
  lia
theorem AJ{q:Type}{rest:List (Option D)}{g h:q->D}:∀(l:List q) (o:Option D),(∀a∈l,f (some (g a)::rest)=some (h a))->bA (aS 0) eY f (l.map g) (o::rest)=some (l.map h)
 | [],o,_=>rfl
 | a::l,o,hf=>by
  have ih:=AJ (f:=f) (rest:=rest) (g:=g) (h:=h) l (some (g a)) λb B=>hf b (zaq _ B)
  have z:=hf a (zas ..);simp[-zac,-zab,aA,aB,bA,z,ih]
theorem w8{f:Ev}{rest:List (Option D)}{R:D->Prop}:∀(l:List D) (o:Option D),(∀a∈l,∃d,f (some a::rest)=some d/\R d)->∃ds,bA (aS 0) eY f l (o::rest)=some ds/\ds.length=l.length/\∀d∈ds,R d
 | [],o,_=>⟨[],rfl,rfl,λ_ h=>nomatch h⟩
 | a::l,o,hf=>by
  obtain⟨ds,e,F,J⟩:=w8 (f:=f) (rest:=rest) (R:=R) l (some a) λb M=>hf b (zaq _ M)
  obtain⟨d,G,rd⟩:=hf a (zas ..);refine⟨d::ds,by simp[-zac,-zab,aA,aB,bA,G,e],by simp[F],λq B=>?_⟩;rcases List.mem_cons.mp B with z|z
  ·rw[z];exact rd
  ·exact J q z
theorem lE(q:0<=k)(h:k<(l.length:Int)):kH (.lst l) (.int k) e=some (.lst (l.set k.toNat e)):=by
 show(JE l.length k).map _=_;unfold JE;rw[if_pos q,if_pos h];rfl
theorem at_of(q:0<=k)(h:l[k.toNat]?=some d):fL l k=some d:=by
 obtain⟨j,rfl⟩:∃j:Nat,k=(j:Int):=⟨k.toNat,by lia⟩;exact bV (by simpa using h)
theorem tW(z:0<=k)(h:k<(l.length:Int)):∃d,d∈l/\l[k.toNat]?=some d/\fL l k=some d:=by
 have q:k.toNat<l.length:=by lia
 have e:l[k.toNat]?=some l[k.toNat]:=zaS q;exact⟨l[k.toNat],zei q,e,at_of z e⟩
theorem vH(hd:d∈aQ 0 1 n):∃i:Int,d=.int i/\0<=i/\i<(n:Int):=by
 unfold aQ at hd;obtain⟨j,q,rfl⟩:=List.mem_map.mp hd;have:=List.mem_range.mp q;exact⟨0+(j:Int)*1,rfl,by lia,by lia⟩
theorem FE:∀ {l:List D},(∀d∈l,∃s:Str,d=.str s)->∃ss:List Str,l=ss.map .str
 | [],_=>⟨[],rfl⟩
 | d::l,h=>by
  obtain⟨s,rfl⟩:=h d (zas ..);obtain⟨ss,e⟩:=FE (l:=l) λq z=>h q (zaq _ z)
  exact⟨s::ss,by rw[e];rfl⟩
theorem D7(I:Nat->cU->Prop)(J:cU->Prop)(h:∀n ρ,I n ρ->(c ρ=some true/\∃m ρ',m<n/\b ρ=some (.nx ρ')/\I m ρ')\/(c ρ=some false/\J ρ)):∀(fuel n:Nat) (ρ:cU),n<fuel->I n ρ->∃ρ',eU c b fuel ρ=some (.nx ρ')/\J ρ'
 | 0,n,ρ,hn,_=>absurd hn (Nat.not_lt_zero n)
 | fuel+1,n,ρ,hn,hi=>by
  rcases h n ρ hi with⟨F,m,ρ',M,G,q⟩|⟨F,B⟩
  ·obtain⟨z,e,B⟩:=D7 I J h fuel m ρ' (by lia) q
   refine⟨z,?_,B⟩;unfold eU;rw[F,aA,if_pos rfl,G,aA];exact e
  ·refine⟨ρ,?_,B⟩
   unfold eU;rw[F,aA,if_neg zaA]
theorem IQ{c:Bv}{b rest:Sv}{ρ:cU}{R:D->Prop}(I:Nat->cU->Prop)(J:cU->Prop)(n:Nat)(B:n<100000)(F:I n ρ)(h:∀n ρ,I n ρ->(c ρ=some true/\∃m ρ',m<n/\b ρ=some (.nx ρ')/\I m ρ')\/(c ρ=some false/\J ρ))(k:∀ρ',J ρ'->∃d,rest ρ'=some (.rt d)/\R d):∃d,dD (lF c b) rest ρ=some (.rt d)/\R d:=by
 obtain⟨ρ',e,q⟩:=D7 I J h 100000 n ρ B F;have z:lF c b ρ=some (.nx ρ'):=e;rw[aF z];exact k ρ' q
theorem PD.pe(h:PD X O e f):PE X e (tD Rep O f):=h
noncomputable def isStar:Expr->Bool
 | .Starred ..=>true
 | _=>false
theorem cX(h:isStar e=false):zag (e::es) env=(false,eval e env)::zag es env:=by
 cases e <;> first|rfl|cases h
theorem iM:∀ {es:List Expr},(es.all λe=>!isStar e)=true->(zaG pos (zag es env)).any (·.1)=false
 | [],_=>by simp[zag,zaG]
 | e::es,h=>by
  rw[List.all_cons,zaQ]at h;have q:isStar e=false:=by cases z:isStar e;rfl;rw[z]at h;exact absurd h.1 (by decide)
  have ih:=iM (pos:=pos) (env:=env) (es:=es) h.2;rw[cX q];simp only[zaG,zak,zb9,Bool.false_or]at ih ⊢;exact ih
end P
namespace My
open PySem PySem.Spec PyProof.Rows L2 PySem.SeqAt
section
variable {prog:zah}{w:World}{A:zao}{R:Result->zad->Prop}{I S:Addr}{fp wr:List Addr}{n:Nat}{P:Nat->Value->Prop}{St:Nat->Heap->Prop}{kw:List (Str×Value)}
end
section
variable {X:Cx}
end
end My
namespace P
open PySem PySem.Spec PyProof.Rows L2
section
variable {X:Cx}{O:List Nat}
end
end P
namespace My
open PySem PySem.Spec PyProof.Rows L2 PySem.SeqAt
theorem jB:entryFor table "dict.update.loop" = some zb0.«dict.update.loop»:=entryFor_of_tree (by kernel_rfl)
theorem dI:plainId "dict.update.loop" = true:=by decide +kernel
theorem qF:typeLookup (.type "list") (zbj "keys")=pure none:=by rw[typeLookup_type,builtinLookup_eq_fast];kernel_rfl
theorem pP:typeLookup (.type "tuple") (zbj "keys")=pure none:=by rw[typeLookup_type,builtinLookup_eq_fast];kernel_rfl
section
variable {prog:zah}{w:World}{A:zao}{E:Value->zad->Prop}{s:zad}
theorem qI(hx:s.heap.get? a=some o)(G:o.cls=.type "list")(q:o.data=.seq xs k)(hd:o.dict=none)(M:A.handled=none)
  (h:∀h' tk,(∀b o,s.heap.get? b=some o->h'.get? b=some o)->Q none {s with heap:=h',toks:=tk}):wpAny (model prog w) A (getAttr? (.ref a) "keys") Q E s:=by
 obtain⟨c,Y,J,N⟩:=o;simp only at G q hd;subst G q hd;obtain⟨U,g,d,tk,W⟩:=s;have hT:∀B,(⟨U,g,d,B,W⟩:zad).TypeIs (.ref a) "list" := λ_=>⟨_,hx,rfl⟩
 have f1:=sub_AttributeError;have f3:=PySem.F.slot_list_getattribute.lookup;have f4:=PySem.F.slot_list_getattribute.bind (.ref a);have f5:=am_list_getattr_none;unfold getAttr? getAttrBy? getAttrBy
 repeat (any_goals (first|assumption|exact hT _|((with_reducible show wpAny _ _ (call (Value.builtin "list.__getattribute__") _ _) _ _ _);refine zcT PySem.F.slot_list_getattribute (hT _) am_entry_list_getattribute (PySem.F.args_list_getattribute_2 _ _) (meets_getattribute_miss_list a xs k N (zbj "keys") _ qF (by decide) (by size_fits)) ⟨hx,M,λh' B e z=>?_⟩)|wp_step))
 obtain⟨t',u',he⟩:=z.there;show wpAny _ _ (zdI _ _ _ _ _ _ _) _ _ _;unfold zdI
 repeat (any_goals (first|assumption|wp_step))
 exact h _ _ z.keeps
theorem pO(hx:s.heap.get? a=some o)(G:o.cls=.type "tuple")(q:o.data=.seq xs k)(hd:o.dict=none)(M:A.handled=none)
  (h:∀h' tk,(∀b o,s.heap.get? b=some o->h'.get? b=some o)->Q none {s with heap:=h',toks:=tk}):wpAny (model prog w) A (getAttr? (.ref a) "keys") Q E s:=by
 obtain⟨c,Y,J,N⟩:=o;simp only at G q hd;subst G q hd;obtain⟨U,g,d,tk,W⟩:=s;have hT:∀B,(⟨U,g,d,B,W⟩:zad).TypeIs (.ref a) "tuple" := λ_=>⟨_,hx,rfl⟩
 have f1:=sub_AttributeError;have f3:=PySem.F.slot_tuple_getattribute.lookup;have f4:=PySem.F.slot_tuple_getattribute.bind (.ref a);have f5:=am_tuple_getattr_none;unfold getAttr? getAttrBy? getAttrBy
 repeat (any_goals (first|assumption|exact hT _|((with_reducible show wpAny _ _ (call (Value.builtin "tuple.__getattribute__") _ _) _ _ _);refine zcT PySem.F.slot_tuple_getattribute (hT _) am_entry_tuple_getattribute (PySem.F.args_tuple_getattribute_2 _ _) (meets_getattribute_miss_tuple a xs k N (zbj "keys") _ pP (by decide) (by size_fits)) ⟨hx,M,λh' B e z=>?_⟩)|wp_step))
 obtain⟨t',u',he⟩:=z.there;show wpAny _ _ (zdI _ _ _ _ _ _ _) _ _ _;unfold zdI
 repeat (any_goals (first|assumption|wp_step))
 exact h _ _ z.keeps
end
section
variable {X:Cx}{pins:List (Addr×Obj)}{σ:L2.St}{H:Hp}{s:zad}{a:Addr}{y v:V}{u r:Value}{A:zao}{E:Value->zad->Prop}
theorem HS(hu:A.units+1<cLine)(I:Inv X pins σ H s)(g:DPut H a y v H')(ry:RelV y u)(rv:RelV v r)(h:∀h' t',Inv X pins σ H' {s with heap:=h',toks:=t'}->za4 a s.heap h'->Q () {s with heap:=h',toks:=t'}) :
  wpAny (model X.prog X.w) A (dictSet a u r) Q E s:=by
 rcases g with⟨kvs,k,e,N,l,W⟩|⟨kvs,k,b,e,N,Y,l,W⟩
 ·subst N W
  obtain⟨z,hd,vs,B,J⟩:=SU I.hok e;have M:vs.length<=zaj:=by rw[<- B.length];exact z
  have U:(putK kvs k v).length<=zaj:=by have:=fJ kvs k v;lia
  refine wpAny_dictSet_pairs (hsz:=M) (v5 ry) J λh' F hs=>h _ _ ?_ hs
  have he:∃q,h'.get? a=some q:=let ⟨q,_,_,G,_⟩:=F;⟨q,G⟩;exact nF I (by rw[e];exact zaY) hs he (L5 U hd (B.put k rv) F)
 ·subst N W
  cases(show u=zau b from ry);obtain⟨z,hd,xs,B,J⟩:=TH I.hok e;have M:xs.length<=zaj:=by rw[<- zcL B];exact z
  have U:(putK kvs k v).length<=zaj:=by have:=fJ kvs k v;lia
  refine wpAny_dictSet_heap (hsz:=M) (show A.units<cLine by lia) (n9 I.hok Y) J λh' F hs=>h _ _ ?_ hs
  obtain⟨q,es,ep,G,h2,h3,h4,_,h5⟩:=F;refine nF I (by rw[e];exact zaY) hs ⟨q,G⟩ ⟨U,hd,_,(B.put k Y rv).keeps λc ys ec=>?_,q,es,ep,G,h2,h3,h4,h5⟩;rw[aE (t5 ec e (λz=>nomatch z))];exact ec
end
inductive Puts(d:Addr):Hp->List (V×V)->Hp->Prop where
 | nil {H:Hp}:Puts d H [] H
 | cons {H H1 H2:Hp} {y v:V} {l:List (V×V)} (h:DPut H d y v H1) (t:Puts d H1 l H2):Puts d H ((y,v)::l) H2
theorem zZ(g:DPut H a y v H'):(∃u,H a=some u/\(∀xs,u≠.tup xs)/\∀o w,u≠.frz o w)/\∀b,b≠a->H' b=H b:=by
 rcases g with⟨kvs,k,e,F,l,B⟩|⟨kvs,k,b,e,F,G,l,B⟩
 ·subst B;exact⟨⟨_,e,(λ_ z=>nomatch z),(λ_ _ z=>nomatch z)⟩,λb q=>aE q⟩
 ·subst B;exact⟨⟨_,e,(λ_ z=>nomatch z),(λ_ _ z=>nomatch z)⟩,λb q=>aE q⟩
theorem LF{K:zae}{H H':Hp}{a:Addr}{y v:V}(g:DPut H a y v H'){b:Addr}{xs:List V}(h:SqT K H b xs):SqT K H' b xs:=by
 obtain⟨⟨u,e,B,q⟩,same⟩:=zZ g;rcases h with(h|⟨o,h⟩)|h
 ·exact .inl (.inl (by rw[same b (λz=>by rw[z,e]at h;exact B _ (zay h))];exact h))
 ·exact .inl (.inr ⟨o,by rw[same b (λz=>by rw[z,e]at h;exact q _ _ (zay h))];exact h⟩)
 ·exact .inr h
section
variable {X:Cx}{pins:List (Addr×Obj)}{σ:L2.St}{A:zao}{R:Result->zad->Prop}{it d:Addr}{fp:List Addr}{n:Nat}{P:Nat->Value->Prop}{St:Nat->Heap->Prop}{H2:Hp}
theorem kX(W:Walks X.prog X.w A.in1 it fp [it] n P St)(hd:d∉fp)(Y:A.in1.units+1<cLine)(fin:∀s',Inv X pins σ H2 s'->R (.ok (.ret .none)) s'):∀(l:List (V×V)) (j:Nat) (s:zad) (H:Hp) (t:Tok) (i:Int),n-j=l.length->j<=n->St j s.heap->Inv X pins σ H s->kB X pins H it->
  (∀(m:Nat) (p:V×V) (v:Value),l[m]?=some p->P (j+m) v->∃b,v=.ref b/\SqT X.K H b [p.1,p.2])->Puts d H l H2->
  zbD (model X.prog X.w) A (.builtin "dict.update.loop" ⟨[.ref d,.ref it,.int i t,.none],[]⟩) R s
 | [],j,s,H,t,i,hn,hj,st,I,fo,facts,pu=>by
  cases pu;obtain⟨B,f1,f2,F,G,J⟩:=fo;have e:j=n:=by simp at hn;lia
  subst e;refine codeAny_builtin jB ?_;rw[Around.under_plainId dI _];show wpAny _ A.in1 (za2 (.ref it) >>= λ_=>_) _ _ s;refine zaa (W.done s _ _ st λh1 tk same=>?_);show wpAny _ _ (Builtin.Dict.addKeywords d [] >>= _) _ _ _;exact zaa (zaf (zaf (fin _ (I.turned (t':=tk) (λb o M e=>same b o (by simpa using M) e) B f1 F G J))))
 | (y,v)::l,j,s,H,t,i,hn,hj,st,I,fo,facts,pu=>by
  obtain⟨B,f1,f2,F,G,J⟩:=id fo;cases pu with
  | @cons _ H1 _ _ _ _ dp pu=>
  have lt:j<n:=by rw[zaz]at hn;lia
  refine codeAny_builtin jB ?_;rw[Around.under_plainId dI _];show wpAny _ A.in1 (za2 (.ref it) >>= λ_=>_) _ _ s;refine zaa (W.item j s _ _ lt st λv1 h1 tk pv U same=>?_);obtain⟨b,rfl,sq⟩:=facts 0 (y,v) v1 rfl pv;have I1:Inv X pins σ H {s with heap:=h1,toks:=tk}:=I.turned (t':=tk) (λb o M e=>same b o (by simpa using M) e) B f1 F G J;obtain⟨an,rv,ht,hz⟩:=I1.tuple sq;cases rv with
  | @cons _ u _ us ru rt=>
  cases rt with
  | @cons _ r _ us2 rr rt2=>
  cases rt2;obtain⟨o,ho,hc,nn,N⟩:=id ht;show wpAny _ A.in1 (zch [zau b] _ >>= λ_=>_) _ _ _;refine zaa (zbC ?_);refine zaa (wpAny_tryCatch ?_);unfold Builtin.Dict.pairItems;refine zaa (zcA ht.typeIs ?_);rw[if_pos (by decide)];refine zaa (zbr ho N (zaf ?_));show wpAny _ A.in1 (zch [u,r] (dictSet d u r)) _ _ _;refine zbC (HS Y I1 dp ru rr λh2 t2 I2 sb=>?_);obtain⟨⟨uo,eu,_,_⟩,q⟩:=zZ dp;have nd:it≠d:=λz=>by rw[<- z,B]at eu;cases eu
  refine zaf ⟨plainId_quiet dI _,kX W hd Y fin l (j+1) _ H1 _ _ (by rw[zaz]at hn;lia) lt (W.frame _ _ _ U λb bf o eb=>?_) I2 ⟨by rw[q it nd];exact B,f1,f2,F,G,J⟩ (λm p v2 hm hp=>?_) pu⟩
  ·exact(sb.2 b (λz=>hd (z ▸ bf))).trans eb
  ·obtain⟨c,e,sq⟩:=facts (m+1) p v2 (by simpa using hm) (by rw[show j+(m+1)=j+1+m by lia];exact hp)
   exact⟨c,e,LF dp sq⟩
end
section
variable {X:Cx}
def Src(X:Cx)(H:Hp)(p:Addr)(ys:List V):Prop:=SqL X.K H p ys\/Rd H p (.tup ys)
theorem BR(hc:X.calm=true)(hu:X.A.units+64<cLine):CallR X (.type "dict") (λxs H Q=>∃p ys l,xs=[.ref p]/\Src X H p ys/\l.length=ys.length/\(∀(m:Nat) (pr:V×V),l[m]?=some pr->∃b,ys[m]?=some (.ref b)/\SqT X.K H b [pr.1,pr.2]) /\
  ∀q,H q=none->∃H2,(Puts q (upd H q (.dK [])) l H2\/Puts q (upd H q (.dT [])) l H2)/\Q (.ref q) H2):=by
 intro pins s σ H xs us Q I r h;obtain⟨p,ys,l,rfl,az,hl,ao,q⟩:=h;obtain⟨u,rfl,rx⟩:=vals1 r;cases rx;obtain⟨H2,pu,q⟩:=q s.heap.objs.size (I.hok.fresh (zai _));refine callType_codes (Q₁:=λak ab=>ak=.ref s.heap.objs.size/\ab={s with heap:=s.heap.push {cls:=.type "dict",data:=.dict #[]} }) PySem.F.kt_called_dict (PySem.F.kt_typeCall_dict_1 _) PySem.F.entry_dict_init (kt_code_dict_new _ ⟨rfl,rfl⟩) ?_;rintro ak ab ⟨rfl,rfl⟩;have n1:(s.heap.push {cls:=.type "dict",data:=.dict #[]}).get? s.heap.objs.size=some {cls:=.type "dict",data:=.dict #[]}:=zaE _ rfl;have t1:Shared.TypeIs {s with heap:=s.heap.push {cls:=.type "dict",data:=.dict #[]} } (.ref s.heap.objs.size) "dict" := ⟨_,n1,rfl⟩;refine⟨t1,PySem.F.args_dict_init_2 _ _,?_⟩;unfold zb0.«dict.__init__»;refine zaa ?_;unfold Builtin.Dict.selfAndRest;refine zaa (wpAny_notOrdered_dict t1 ?_);show wpAny _ _ (pure (s.heap.objs.size,[zau p])) _ _ _;refine zaf ?_;show wpAny _ _ (Builtin.Dict.updateFrom "dict.__init__" s.heap.objs.size (.ref p) [] .none) _ _ _;unfold Builtin.Dict.updateFrom;obtain⟨u0,a5,IK,pu⟩:∃u0:HO,(u0=.dK []\/u0=.dT [])/\Inv X pins σ (upd H s.heap.objs.size u0) {s with heap:=s.heap.push {cls:=.type "dict",data:=.dict #[]} }/\Puts s.heap.objs.size (upd H s.heap.objs.size u0) l H2:=by
  rcases pu with pu|pu
  ·exact⟨_,.inl rfl,I.laid (a:=s.heap.objs.size) (o:=.dK []) (h':=s.heap.push {cls:=.type "dict",data:=.dict #[]}) (t':=s.toks) (λ_ _ q=>zan _ q) (zai _) (JP s.heap I.big),pu⟩
  ·exact⟨_,.inr rfl,I.laid (a:=s.heap.objs.size) (o:=.dT []) (h':=s.heap.push {cls:=.type "dict",data:=.dict #[]}) (t':=s.toks) (λ_ _ q=>zan _ q) (zai _) (zG s.heap I.big),pu⟩
 have al:∀b u,H b=some u->b≠s.heap.objs.size:=λb u e z=>zb4 _ (by have:=(I.hok b u e).lt;rw[z]at this;exact this)
 have am:∀ {b:Addr} {zs:List V},SqT X.K H b zs->SqT X.K (upd H s.heap.objs.size u0) b zs:=λ{b zs} h=>by
  rcases h with(h|⟨o,h⟩)|h
  ·exact .inl (.inl (by rw[aE (al _ _ h)];exact h))
  ·exact .inl (.inr ⟨o,by rw[aE (al _ _ h)];exact h⟩)
  ·exact .inr h
 have an:∀ {o:Obj},s.heap.get? p=some o->p<s.heap.objs.size:=λe=>zap e
 rcases az with sq|sq
 ·obtain⟨Y,rv,pl,hz⟩:=I.list sq
  obtain⟨o,n,ho,J,ah,M⟩:=id pl;have U:=rv.length;have G:(s.heap.push {cls:=.type "dict",data:=.dict #[]}).get? p=some o:=zan _ ho;refine zaa (zcA (s:={s with heap:=s.heap.push {cls:=.type "dict",data:=.dict #[]} }) ⟨o,G,J⟩ ?_);rw[if_pos (by decide)];refine zaa (qI (s:={s with heap:=s.heap.push {cls:=.type "dict",data:=.dict #[]} }) G J M ah (I.ok.hd hc) λh' tk B=>?_);simp only[Option.isNone_none,if_true];refine zaa (zbM (zaa (zb6 (s:={s with heap:=h',toks:=tk}) (items:=Y.toArray) ⟨o,B _ _ G,J,n,M⟩ ?_)));have N:Inv X pins σ (upd H s.heap.objs.size u0) {s with heap:=h',toks:=tk}:=IK.kept (t':=tk) B;have ad:Inv X pins σ (upd H s.heap.objs.size u0) {s with heap:=h'.push {cls:=.type "list_iterator",data:=.fields #[.ref p,.int 0 0]},toks:=tk}:=N.kept (t':=tk) λb o e=>zan _ e
  have lp:p<h'.objs.size:=zap (B _ _ G);have ld:s.heap.objs.size<h'.objs.size:=zap (B _ _ n1);have W:=Walks.list (prog:=X.prog) (w:=X.w) (A:=X.A.in1.in1) (I.ok.hd hc) h'.objs.size p (zaF lp) Y.toArray;refine zaf ⟨plainId_quiet dI _,kX (X:=X) (pins:=pins) (σ:=σ) (H2:=H2) W (d:=s.heap.objs.size) ?_ (by show X.A.units+1+1+1<cLine;lia) ?_ l 0 _ _ _ _ ?_ (zaI _) ?_ ad ?_ ?_ pu⟩
  ·intro z
   rcases List.mem_cons.mp z with z|z
   ·exact zaF ld z
   ·exact zbt (an ho) (List.mem_singleton.mp z)
  ·exact λs' I'=>⟨rfl,.ref s.heap.objs.size,H2,I',rfl,q⟩
  ·rw[zax,<- U,hl];lia
  ·exact⟨⟨_,zaE _ rfl,rfl,rfl⟩,⟨o,zan _ (B _ _ G),J,n,M⟩⟩
  ·exact N.fpOk (zai _) (N.hok.fresh (zai _))
  ·intro m pr v hm hv
   obtain⟨b,e1,e2⟩:=ao m pr hm;rw[zaO]at hv;refine⟨b,?_,am e2⟩;obtain⟨w',hw,ag⟩:=rv.get e1;rw[List.getElem?_toArray,hw]at hv;cases(show w'=zau b from ag);exact(zay hv).symm
 ·obtain⟨hz,Y,rv,o,ho,J,n,M,ah⟩:=(show ObjOk X.prog X.w H s.heap p (.tup ys)from sq.ok I.hok)
  have U:=rv.length;have G:(s.heap.push {cls:=.type "dict",data:=.dict #[]}).get? p=some o:=zan _ ho;refine zaa (zcA (s:={s with heap:=s.heap.push {cls:=.type "dict",data:=.dict #[]} }) ⟨o,G,J⟩ ?_);rw[if_pos (by decide)];refine zaa (pO (s:={s with heap:=s.heap.push {cls:=.type "dict",data:=.dict #[]} }) G J M ah (I.ok.hd hc) λh' tk B=>?_);simp only[Option.isNone_none,if_true];refine zaa (zbM (zaa (zbR (s:={s with heap:=h',toks:=tk}) (items:=Y.toArray) ⟨o,B _ _ G,J,n,M⟩ ?_)));have N:Inv X pins σ (upd H s.heap.objs.size u0) {s with heap:=h',toks:=tk}:=IK.kept (t':=tk) B;have ad:Inv X pins σ (upd H s.heap.objs.size u0) {s with heap:=h'.push {cls:=.type "tuple_iterator",data:=.fields #[.ref p,.int 0 0]},toks:=tk}:=N.kept (t':=tk) λb o e=>zan _ e
  have lp:p<h'.objs.size:=zap (B _ _ G);have ld:s.heap.objs.size<h'.objs.size:=zap (B _ _ n1);have W:=Walks.tuple (prog:=X.prog) (w:=X.w) (A:=X.A.in1.in1) (I.ok.hd hc) h'.objs.size p (zaF lp) Y.toArray;refine zaf ⟨plainId_quiet dI _,kX (X:=X) (pins:=pins) (σ:=σ) (H2:=H2) W (d:=s.heap.objs.size) ?_ (by show X.A.units+1+1+1<cLine;lia) ?_ l 0 _ _ _ _ ?_ (zaI _) ?_ ad ?_ ?_ pu⟩
  ·intro z
   rcases List.mem_cons.mp z with z|z
   ·exact zaF ld z
   ·exact zbt (an ho) (List.mem_singleton.mp z)
  ·exact λs' I'=>⟨rfl,.ref s.heap.objs.size,H2,I',rfl,q⟩
  ·rw[zax,<- U,hl];lia
  ·exact⟨⟨_,zaE _ rfl,rfl,rfl⟩,⟨o,zan _ (B _ _ G),J,n,M⟩⟩
  ·exact N.fpOk (zai _) (N.hok.fresh (zai _))
  ·intro m pr v hm hv
   obtain⟨b,e1,e2⟩:=ao m pr hm;rw[zaO]at hv;refine⟨b,?_,am e2⟩;obtain⟨w',hw,ag⟩:=rv.get e1;rw[List.getElem?_toArray,hw]at hv;cases(show w'=zau b from ag);exact(zay hv).symm
end
section
variable {X:Cx}
theorem CI:CallR X (.type "dict") (λxs H Q=>∃d kvs,xs=[.ref d]/\Rd H d (.dK kvs)/\∀p,H p=none->Q (.ref p) (upd H p (.dK kvs))):=by
 intro pins s σ H xs N Q I r h;obtain⟨d,kvs,rfl,hd,q⟩:=h;obtain⟨u,rfl,M⟩:=vals1 r;cases M;obtain⟨z,y,vs,B,G⟩:=vV I.hok hd;have J:vs.length<=zaj:=by rw[<- B.length];exact z
 refine kt_call_dict (knd:=bC X.prog X.w) y G J λh' F sb=>?_
 refine⟨.ref s.heap.objs.size,_,I.laid (t':=s.toks) (o:=.dK kvs) (λb U q=>(sb.2 b (zaF (zap q))).trans (zan _ q)) (zai _) ⟨z,beq_eq_false_iff_ne.mpr (zaU (zaF I.big)),vs,B,F⟩,rfl,q _ (I.hok.fresh (zai _))⟩
theorem WT(h:H2 q=some u)(k:∀b,b≠q->H2 b=H b):H2=upd H q u:=funext λb=>by
 by_cases e:b=q
 ·subst e;rw[aH];exact h
 ·rw[aE e];exact k b e
def tE{κ:Type}[DecidableEq κ](kvs more:List (κ×V)):List (κ×V):=more.foldl (λacc q=>putK acc q.1 q.2) kvs
theorem MG:∀(prs:List (Key×V)) (H:Hp) (xs:List (Key×V)),H q=some (.dK xs)->xs.length+prs.length<zaj->∃H2,Puts q H (prs.map λp=>(kV p.1,p.2)) H2/\H2 q=some (.dK (tE xs prs))/\∀b,b≠q->H2 b=H b
 | [],H,xs,e,hl=>⟨H,.nil,e,λ_ _=>rfl⟩
 | p::prs,H,xs,e,hl=>by
  have G:=fJ xs p.1 p.2;rw[zaz]at hl;obtain⟨H2,F,B,k⟩:=MG prs (upd H q (.dK (putK xs p.1 p.2))) (putK xs p.1 p.2) aH (by lia);exact⟨H2,.cons (DPut.k e (by lia)) F,B,λb z=>(k b z).trans (aE z)⟩
end
end My
namespace P
open PySem PySem.Spec PyProof.Rows L2
section
variable {X:Cx}{A:Av}{H:Hp}
def DL:List D->Option (List (Key×D))
 | []=>some []
 | .tup [k,v]::l=>(XN k).bind λkk=>(DL l).map λr=>(kk,v)::r
 | _=>none
def kN{κ:Type}[DecidableEq κ](l more:List (κ×D)):List (κ×D):=more.foldl (λm p=>putD m p.1 p.2) l
theorem RG{κ:Type}[DecidableEq κ]{more:List (κ×D)}{ys:List (κ×V)}(h:PP A H more ys):∀ {l:List (κ×D)} {xs:List (κ×V)},PP A H l xs->PP A H (kN l more) (My.tE xs ys):=by
 induction h with
 | nil=>intro l xs q;exact q
 | @cons p q ps qs h t ih=>
  intro l xs z;have:=ih (tQ p.1 h.2 z);rw[show kN l (p::ps)=kN (putD l p.1 p.2) ps from rfl,show My.tE xs (q::qs)=My.tE (putK xs q.1 q.2) qs from rfl,<- h.1];exact this
theorem y9:∀ {l:List D} {kvs:List (Key×D)} {xs:List V},DL l=some kvs->RepL A H l xs->∃q:List (Key×V),PP A H kvs q/\q.length=xs.length/\∀(m:Nat) (z:V×V),(q.map λp=>(kV p.1,p.2))[m]?=some z->∃b,xs[m]?=some (.ref b)/\H b=some (.tup [z.1,z.2])
 | _,kvs,_,e,.nil=>by cases e;exact⟨[],.nil,rfl,λm z h=>by simp at h⟩
 | d::l,kvs,v::xs,e,.cons h t=>by
  unfold DL at e;split at e
  ·cases ‹_::_=[]›
  ·rename_i k w l' heq
   injection heq with h1 h2
   subst h1 h2;obtain⟨N,Y,e⟩:=bind_some e;obtain⟨r,U,rfl⟩:=map_some e;obtain⟨q,F,W,M⟩:=y9 U t;obtain⟨a,zs,rfl,J,B⟩:=RepB.tup_inv (.of h);cases B with
   | @cons _ z1 _ zs1 q1 B=>
   cases B with
   | @cons _ z2 _ zs2 q2 B=>
   cases B;have G:=qD Y (.of q1);subst G;refine⟨(N,z2)::q,.cons ⟨rfl,q2⟩ F,by simp[W],λm z h=>?_⟩;cases m with
   | zero=>simp at h;subst h;exact⟨a,rfl,J⟩
   | succ m=>exact M m z (by simpa using h)
  ·cases e
noncomputable def TN:D->Option (List D)
 | .lst l=>some l
 | .tup l=>some l
 | _=>none
def fN:List D->Option D
 | [.dK l]=>some (.dK l)
 | [d]=>(TN d).bind λl=>if aZ l.length then(DL l).map λkvs=>.dK (kN [] kvs)else none
 | _=>none
theorem K2(h:TN d=some l)(r:RepB A H d v):∃p ys,v=.ref p/\My.Src X H p ys/\RepL A H l ys:=by
 cases d with
 | lst m=>cases h;obtain⟨a,xs,rfl,h1,h2⟩:=r.lst_inv;exact⟨a,xs,rfl,.inl (.inl h1),h2⟩
 | tup m=>cases h;obtain⟨a,xs,rfl,h1,h2⟩:=r.tup_inv;exact⟨a,xs,rfl,.inr (.inl h1),h2⟩
 | _=>exact nn h
theorem szL(h:aZ n=true):0+n<zaj:=by rw[zaO];exact iN h
theorem mQ(hc:X.calm=true)(hu:X.A.units+64<cLine):GG X (.type "dict") fN:=by
 intro pins s σ H xs Y Q I r h;obtain⟨A,ds,d,W,rl,e,q⟩:=h;unfold fN at e;split at e
 ·cases e
  obtain⟨v,rfl,h1⟩:=rl.one;obtain⟨a,ys,rfl,h2,U,r3⟩:=h1.dK_inv;exact My.CI pins s σ H _ Y Q I r ⟨a,ys,rfl,h2,λp J=>q p _ (Ext.new J) J (λz=>W p z J) (.dK aH U (r3.fresh J))⟩
 ·obtain⟨l,e1,e⟩:=bind_some e
  split at e
  ·rename_i hz
   obtain⟨kvs,e2,rfl⟩:=map_some e;obtain⟨v,rfl,h1⟩:=rl.one;obtain⟨p,ys,rfl,N,F⟩:=K2 (X:=X) e1 h1;obtain⟨B,pp,hl,hm⟩:=y9 e2 F;have G:=F.length;refine My.BR hc hu pins s σ H _ Y Q I r ⟨p,ys,B.map λp=>(kV p.1,p.2),rfl,N,by rw[zal];exact hl,λm pr h=>?_,λa M=>?_⟩
   ·obtain⟨b,x1,x2⟩:=hm m pr h
    exact⟨b,x1,.inl (.inl x2)⟩
   ·obtain⟨H2,pu,U,k⟩:=My.MG B (upd H a (.dK [])) [] aH (by rw[hl,G];exact szL hz)
    have eH:H2=upd H a (.dK (My.tE [] B)):=My.WT U λb hb=>(k b hb).trans (aE hb)
    obtain⟨f1,f2⟩:=vZ (RG pp (Paired.nil));refine⟨H2,.inl pu,?_⟩;rw[eH];exact q a _ (Ext.new M) M (λz=>W a z M) (.dK aH f1 (f2.fresh M))
  ·cases e
 ·cases e
end
end P
namespace My
open PySem PySem.Spec PyProof.Rows L2 PySem.SeqAt
theorem FZ:∀ {xs:List V} {us:List Value},xs.length=us.length->(∀(j:Nat) (x:V) (u:Value),xs[j]?=some x->us[j]?=some u->RelV x u)->Vals xs us
 | [],[],_,_=>.nil
 | [],_::_,h,_=>by simp at h
 | _::_,[],h,_=>by simp at h
 | x::xs,u::us,h,k=>.cons (k 0 x u rfl rfl) (FZ (by simpa using h) λj y v z q=>k (j+1) y v (by simpa using z) (by simpa using q))
section
variable {X:Cx}
theorem KF:CallR X (.type "range") (λxs H Q=>∃i,xs=[.int i]/\∀p,H p=none->Q (.ref p) (upd H p (.rng 0 i))):=by
 intro pins s σ H xs B Q I r h;obtain⟨i,rfl,q⟩:=h;obtain⟨u,rfl,t,rfl⟩:=vals1 r;exact call_range_1 ⟨.ref s.heap.objs.size,_,I.laid (t':=s.toks+1+1) (o:=.rng 0 i) (λb z q=>zan _ q) (zai _) ⟨_,_,_,zaE _ rfl⟩,rfl,q _ (I.hok.fresh (zai _))⟩
theorem BU(J:X.calm=true):CallR X (.type "list") (λxs H Q=>∃p i,xs=[.ref p]/\H p=some (.rng 0 i)/\0<=i/\i<=1000000/\∀l,H l=none->Q (.ref l) (upd H l (.lst ((zam i.toNat).map λ(j:Nat)=>V.int (j:Int))))):=by
 intro pins s σ H xs Y Q I r h;obtain⟨p,i,rfl,N,i0,i1,q⟩:=h;obtain⟨u,rfl,W⟩:=vals1 r;cases W;obtain⟨t,u,v,U⟩:=(show ObjOk X.prog X.w H s.heap p (.rng 0 i)from I.hok p _ N);refine call_list_range (n:=i.toNat) (I.ok.hd J) U (small_one (by lia) (by lia) (by lia) (by lia)) (by rw[rangeSize_one];split <;> lia) (by lia) λh' tk acc c z M items=>?_
 refine⟨.ref s.heap.objs.size,_,I.laid (t':=tk) (o:=.lst ((zam i.toNat).map λ(j:Nat)=>V.int (j:Int))) z (zai _) ⟨by rw[zal,zcq,zcQ];lia,acc.toList,c,FZ ?_ λj x u G F=>?_,by simpa using M⟩,rfl,q _ (I.hok.fresh (zai _))⟩
 ·rw[zal,zcq,zbQ,items.1]
 ·rw[zee]at F
  obtain⟨t,rfl⟩:=items.2 j u F;rw[zaB]at G;obtain⟨k,B,rfl⟩:=P.map_some G;have:k=j:=by
   rw[zcW]at B
   ·exact(zay B).symm
   ·have:=(List.getElem?_eq_some_iff.mp B).1;rwa [zcq]at this
  subst this;exact⟨t,by rw[show(0:Int)+(k:Int)*1=(k:Int) by lia]⟩
end
end My
namespace P
open PySem PySem.Spec PyProof.Rows L2
section
variable {X:Cx}{O:List Nat}
def xZ(d:D):Option D:=match d with
 | .int i=>if 0<=i/\i<=1000000 then some (.lst (aQ 0 1 i.toNat))else none
 | _=>none
theorem OG(q:0<=i)(h1:i<=1000000):xZ (.int i)=some (.lst (aQ 0 1 i.toNat)):=if_pos ⟨q,h1⟩
theorem CH(n:Nat):RepL A H (aQ 0 1 n) ((zam n).map λ(j:Nat)=>V.int (j:Int)):=by
 unfold aQ;have:∀l:List Nat,RepL A H (l.map λ(j:Nat)=>D.int (0+(j:Int)*1)) (l.map λ(j:Nat)=>V.int (j:Int)):=λl=>by
  induction l with
  | nil=>exact .nil
  | cons j l ih=>
   rw[zak,zak,show(0:Int)+(j:Int)*1=(j:Int) by lia];exact .cons (.int _) ih
 exact this _
theorem KS(hc:X.calm=true)(G:Gl X "list")(J:X.mg "list" = none)(F:Gl X "range")(M:X.mg "range" = none)(he:PB X O e f)(hs:isStar e=false) :
  PF X O (.Call (.Name "list" p) [.Call (.Name "range" p2) [e] [] pos2] [] pos) (TC xZ f):=
 PE.mono (kE (My.BU hc) G J My.boot_list (cV (kE My.KF F M My.boot_range (cV he fO (cX hs)) (by decide) (by decide) (cX hs) (iM rfl)) fO (cX rfl)) (by decide) (by decide) (cX rfl) (iM rfl)) <| by
  rintro σ H Q ⟨H0,A0,A,E,ρ,d,st,B,q⟩;obtain⟨x,ex,B⟩:=bind_some B;refine⟨H0,A0,A,E,ρ,x,st,ex,λv H1 N r1=>?_⟩;unfold xZ at B;split at B
  ·rename_i i
   split at B
   ·rename_i hi
    cases B;have:=r1.int_inv;subst this;refine⟨i,rfl,λa W=>⟨a,i,rfl,aH,hi.1,hi.2,λl Y=>?_⟩⟩;have U:H1 l=none:=(Ext.new (A:=A) (o:=HO.rng 0 i) W).free Y;exact q l _ (N.trans ((Ext.new W).trans (Ext.new Y))) (N.free U) (λz=>(st.mono N).live l z U) (.lst aH (CH _))
   ·cases B
  ·cases B
end
section
variable {X:Cx}{O:List Nat}{e:Expr}{es:List Expr}
theorem lS(q:PD X O e f)(z:yF X O es g)(hs:isStar e=false:=by rfl):yF X O (e::es) (aC f g):=J3 q z (cX hs)
theorem XO(q:PB X O e f)(z:v9 X O es g)(hs:isStar e=false:=by rfl):v9 X O (e::es) (aC f g):=zK q z (cX hs)
theorem lc(h:Len g n):Len (aC f g) (n+1):=L0 h
theorem l0:Len aY 0:=RO
variable {x:Str}{id T:String}{g:List D->Option D}{f:Lv}{p pos:Pos}
theorem cB(J:j9 X (.builtin id) g)(G:X.mg x=none)(N:zaH x=some (.builtin id))(F:v9 X O (e::es) f)(B:Gl X x:=by rfl)(z:x ≠ "__name__" := by decide)(q:(x == ("__debug__" : Str))=false:=by decide)(hs:isStar e=false:=by rfl)(M:(es.all λe=>!isStar e)=true:=by rfl) :
  PD X O (.Call (.Name x p) (e::es) [] pos) (aT g f):=KY J B G N F z q (cX hs) (iM M)
theorem XX(J:j9 X (.type T) g)(G:X.mg x=none)(N:zaH x=some (.type T))(F:v9 X O (e::es) f)(B:Gl X x:=by rfl)(z:x ≠ "__name__" := by decide)(q:(x == ("__debug__" : Str))=false:=by decide)(hs:isStar e=false:=by rfl)(M:(es.all λe=>!isStar e)=true:=by rfl) :
  PD X O (.Call (.Name x p) (e::es) [] pos) (aT g f):=HC J B G N F z q (cX hs) (iM M)
theorem qz(J:GG X (.type T) g)(G:X.mg x=none)(N:zaH x=some (.type T))(F:v9 X O (e::es) f)(B:Gl X x:=by rfl)(z:x ≠ "__name__" := by decide)(q:(x == ("__debug__" : Str))=false:=by decide)(hs:isStar e=false:=by rfl)(M:(es.all λe=>!isStar e)=true:=by rfl) :
  PF X O (.Call (.Name x p) (e::es) [] pos) (aT g f):=IN J B G N F z q (cX hs) (iM M)
theorem cD(O':Fn X.prog X.w X.K X.mg X.base x k ps F)(J:Room k X.A)(B:yF X O (e::es) f)(G:Len f ps.length)(z:Gl X x:=by rfl)(q:(x == ("__debug__" : Str))=false:=by decide)(hs:isStar e=false:=by rfl)(M:(es.all λe=>!isStar e)=true:=by rfl) :
  PD X O (.Call (.Name x p) (e::es) [] pos) (aT F f):=QE O' J z B G q (cX hs) (iM M)
theorem cn{L:Lp}{O1 O2 O3:List Nat}{st:Stmt}{q:List Stmt}{f g:Sv}(h:PSD X L O1 st f O2)(k:PSDs X L O2 q g O3):PSDs X L O1 (st::q) (dD f g) O3:=J7 h k
end
def ZOk(P:zah)(w:World)(K:zae)(mg:Str->Option Value)(base:Heap)(N:List Str)(x:Str)(st:Stmt)(k:Nat)(b:Sv):Prop:=
 ∀(fa:Addr) (cdv:Value) (A:zao) (outer:List Env) (s:zad) (H:Hp) (E:XK),Room k (A.deeper (zaJ x (aK st) s.heap.objs.size fa cdv))->∃g,PSDs (g9 uF P w K mg base N x (aK st) fa cdv A outer s H E).nox ⟨[],[]⟩ [] (bM st) g []/\g=b
end P
namespace My
open PySem PySem.Spec PyProof.Rows L2 PySem.SeqAt
section
variable {prog:zah}{w:World}{A:zao}{R:Result->zad->Prop}{I S:Addr}{fp wr:List Addr}{n:Nat}{P:Nat->Value->Prop}{St:Nat->Heap->Prop}
end
section
variable {X:Cx}
end
end My
namespace P
open PySem PySem.Spec PyProof.Rows L2
section
variable {X:Cx}{O O':List Nat}{L:Lp}
end
end P
namespace My
open PySem PySem.Spec PyProof.Rows L2
end My
namespace P
open PySem PySem.Spec PyProof.Rows L2
section
variable {X:Cx}{O:List Nat}
end
end P
namespace My
open PySem PySem.Spec PyProof.Rows L2
def ZZ(i j:Int):Prop:=(-(10^250*10^250)<i/\i<10^250*10^250)/\-(10^250*10^250)<j/\j<10^250*10^250
end My
namespace P
open PySem PySem.Spec PyProof.Rows L2
instance:∀i j,Decidable (My.ZZ i j):=λi j=>by unfold My.ZZ;infer_instance
end P
namespace My
open PySem PySem.Spec PyProof.Rows L2 PySem.SeqAt
theorem SY{scope:Scope}{env:Env}{x:Str}{z:zbw}(h:(zbd scope env).names.lookup x=some z):(x,z)∈scope.names\/(z=.cell/\(x,zbn)∈scope.names):=by
 obtain⟨⟨y,k⟩,B,e⟩:=List.mem_map.mp (zcz h);dsimp only at e;by_cases q:(k == zbn && env.scope.kind == .function && env.kindOf y == some .cell)=true
 ·rw[if_pos q]at e
  have:k=.free:=by simp only[zaQ]at q;simpa using q.1.1
  cases e;subst this;exact .inr ⟨rfl,B⟩
 ·rw[if_neg q]at e
  cases e;exact .inl B
section
variable {X:Cx}
end
end My
namespace P
open PySem PySem.Spec PyProof.Rows L2
noncomputable def inO(O:List Nat)(ms:List (Option Nat)):List Nat:=(zam ms.length).filter λj=>(((ms[j]?).join).map O.contains).getD false
theorem pZ{O:List Nat}{ms:List (Option Nat)}{j:Nat}:j∈inO O ms↔∃i,ms[j]?=some (some i)/\i∈O:=by
 unfold inO;rw[List.mem_filter];constructor
 ·rintro⟨_,h⟩
  cases e:ms[j]? with
  | none=>rw[e]at h;cases h
  | some o=>
   cases o with
   | none=>rw[e]at h;cases h
   | some i=>rw[e]at h;exact⟨i,rfl,by simpa using h⟩
 ·rintro⟨i,h,hi⟩
  refine⟨List.mem_range.mpr ?_,by rw[h];simpa using hi⟩;obtain⟨l,_⟩:=List.getElem?_eq_some_iff.mp h;exact l
theorem M4{q:Type}{ms:List (Option Nat)}{σ:List (Option q)}{j i:Nat}{v:q}(h:ms[j]?=some (some i))(e:σ[i]?=some (some v)):(i5 ms σ)[j]?=some (some v):=by
 unfold i5;rw[zaB,h];show some ((σ[i]?).join)=_;rw[e];rfl
theorem ST.innerO{H0:Hp}{A0 A:Av}{E:List Fact}{O Oi:List Nat}{σ:L2.St}{H:Hp}{ρ:cU}(s:ST H0 A0 A E O σ H ρ)(ms:List (Option Nat))(N:inO O ms=Oi)(Y:∀j∈Oi,∀k∈Oi,ms[j]?=ms[k]?->j=k):ST H0 A0 A E Oi (i5 ms σ) H (i5 ms ρ) where
 ex:=s.ex
 sub:=s.sub
 l0:=s.l0
 live:=s.live
 len:=by simp[i5]
 val:=λj d h n=>by
  obtain⟨i,B,F⟩:=gL h;obtain⟨v,e3,r⟩:=s.val i d F λz=>n (N ▸ pZ.mpr ⟨i,B,z⟩)
  exact⟨v,M4 B e3,r⟩
 own:=λj d h n=>by
  obtain⟨i,B,F⟩:=gL h;obtain⟨i',q,U⟩:=pZ.mp (N.symm ▸ n);rw[B]at q;cases q;obtain⟨a,h1,h2⟩:=s.own i d F U;exact⟨a,M4 B h1,h2⟩
 inj:=λj k d d' a M J h1 h2 W h4=>by
  obtain⟨i,B,F⟩:=gL h1;obtain⟨l,f1,f2⟩:=gL h2;obtain⟨i2,g1,g2⟩:=gL W;rw[B]at g1;cases g1;obtain⟨l2,k1,k2⟩:=gL h4;rw[f1]at k1;cases k1;obtain⟨i',q,U⟩:=pZ.mp (N.symm ▸ M);rw[B]at q;cases q;obtain⟨l',G,lO⟩:=pZ.mp (N.symm ▸ J);rw[f1]at G;cases G;have:=s.inj i l d d' a U lO F f2 g2 k2;subst this;exact Y j M k J (B.trans f1.symm)
 ext:=s.ext
section
variable {X:Cx}{O Oi:List Nat}
theorem HH{scope:Scope}{N:List Str}{ms:List (Option Nat)}{t:Nat}{it:Lv}{c:Bv}{f:Ev}(bb:dU X scope N ms)(hO:inO O ms=Oi)(hj:∀j∈Oi,∀k∈Oi,ms[j]?=ms[k]?->j=k)(al:t∉Oi)(σ:L2.St)(H:Hp)(Q:VK) :
  tF O (d6 ms it (aS t) c f) σ H Q->My.GE (tDI O it) (i6 t) (tDT Oi c) (tD Rep Oi f) (My.Start X N scope) σ H Q:=λ⟨H0,A0,A,E,ρ,d,st,e,q⟩=>by
 obtain⟨items,e1,e⟩:=bind_some e;by_cases hz:aZ items.length=true
 case neg=>rw[if_neg hz]at e;cases e
 rw[if_pos hz]at e;obtain⟨ds,e2,rfl⟩:=map_some e;refine⟨i5 ms σ,AH bb σ,H0,A0,A,E,ρ,items,st,e1,λJ H1 E1 x1 ao J1 D hD=>?_⟩;have a5:=(st.mono x1).live;have nA:¬ A D:=λz=>a5 D z hD
 have n0:H D=none:=x1.free hD;refine⟨λi m ad us H2=>m=items.length-i/\i<=items.length/\∃W done rest,ST H0 A0 (λb=>A b\/b=D) (E1++E) Oi ad H2 W/\H2 D=some (.lst us)/\Ext A H H2/\RepL (λb=>A b\/b=D) H2 done us/\bA (aS t) c f (items.drop i) W=some rest/\done++rest=ds/\done.length<=i/\∀j∈Oi,∀d a,W[j]?=some (some d)->ad[j]?=some (some (.ref a))->a≠D,⟨items.length,by simp,zaI _,i5 ms ρ,[],ds,?_,aH,x1.trans (Ext.new hD),.nil,e2,rfl,zai _,?_⟩,?_⟩
 ·have s1:=((st.mono x1).both ao).innerO ms hO hj
  have up:∀a,(A a\/a=D)->A a\/H1 a=none:=λa F=>F.imp id λz=>by rw[z];exact hD
  refine⟨s1.ex.trans (Ext.new hD),λa F=>.inl (s1.sub a F),s1.l0,λa F=>?_,s1.len,λi d h n=>?_,λi d h n=>?_,s1.inj,λp hp=>Fact.ext (Ext.new hD) (Fact.av up (s1.ext p hp))⟩
  ·rcases F with F|F
   ·rw[aE (λz=>by subst z;exact nA F)];exact s1.live a F
   ·subst F;rw[aH];exact λz=>nomatch z
  ·obtain⟨v,h1,h2⟩:=s1.val i d h n
   exact⟨v,h1,(h2.av up).ext (Ext.new hD)⟩
  ·obtain⟨a,h1,h2,h3,h4⟩:=s1.own i d h n
   exact⟨a,h1,.inl h2,h3,(h4.av up).ext (Ext.new hD) (.inl h2)⟩
 ·intro j ag d a h1 h2 z
  have s1:=((st.mono x1).both ao).innerO ms hO hj;obtain⟨a',g1,g2,_⟩:=s1.own j d h1 ag;rw[h2]at g1;cases g1;exact nA (z ▸ g2)
 ·rintro i m ad us H2 ⟨rfl,bv,W,done,rest,s2,aj,x2,af,G,ed,bg,ba⟩
  obtain⟨an,go⟩:=J1 _ H2 s2.live (λp hp=>s2.ext p (zbs _ hp)) i;by_cases ab:i<items.length
  ·have eg:items[i]?=some items[i]:=by simp[ab]
   obtain⟨be,hy⟩:=go _ eg;rw[zcX ab]at G;obtain⟨bp,e3,G⟩:=bind_some G;cases e3;obtain⟨b,e4,G⟩:=bind_some G;have ap:us.length<zaj:=by
    rw[af.length];exact zcU bg (zaX ab (gJ hz))
   refine .inr ⟨be,ap,λx H3 y=>?_⟩;obtain⟨x3,r3⟩:=hy x H3 y;have s3:=(s2.mono x3).put r3 al;have Y:∀j∈Oi,∀d a,(W.set t (some items[i]))[j]?=some (some d)->(ad.set t (some x))[j]?=some (some (.ref a))->a≠D:=λj ag d a h1 h2=>by
    have nt:t≠j:=λz=>al (z ▸ ag)
    rw[zbO nt]at h1 h2;exact ba j ag d a h1 h2
   refine⟨H0,A0,_,E1++E,_,b,s3,e4,λH5 x5=>?_⟩;have ac:=x3.trans x5;have as:H5 D=some (.lst us):=ac.ow D _ (.inr rfl) aj;have ar:Ext A H H5:=x2.trans (ac.mono λa F=>.inl F);cases b with
   | false=>
    rw[if_neg zaA]at G;exact qd ⟨as,items.length-(i+1),by lia,rfl,ab,_,done,rest,s3.mono x5,as,ar,af.ext ac,G,ed,by lia,Y⟩
   | true=>
    rw[if_pos rfl]at G;refine Z7 ?_;obtain⟨d,e6,G⟩:=bind_some G;obtain⟨ai,e7,G⟩:=bind_some G;cases G;refine⟨H0,A0,_,E1++E,_,d,s3.mono x5,e6,λv H6 x6 r6=>?_⟩;have au:=ac.trans x6;have U:H6 D=some (.lst us):=au.ow D _ (.inr rfl) aj;refine⟨U,items.length-(i+1),by lia,rfl,ab,_,done++[d],ai,?_,aH,?_,((af.ext au).append (.cons r6 .nil)).put (.inr rfl) U trivial,e7,by rw[<- ed];simp,by rw[zbc];show done.length+1<=i+1;lia,Y⟩
    ·have M:=s3.mono (x5.trans x6)
     have bh:H0 D=none:=st.ex.free n0;have B:∀b,H0 b≠none->b≠D:=λb hb z=>hb (by rw[z];exact bh)
     refine⟨⟨λb w r=>eV (B b (by rcases r with r|⟨_,r⟩ <;> (rw[r];exact λz=>nomatch z))) (M.ex.rd b w r),λb xs k r=>?_,λb w n r=>?_,λb q w r=>?_⟩,M.sub,M.l0,λa F=>?_,M.len,λi d h n=>?_,λi d h n=>?_,M.inj,λp hp=>Fact.put (.inr rfl) U trivial (M.ext p hp)⟩
     ·rw[aE (B b (by rw[r];exact λz=>nomatch z))];exact M.ex.kp b xs k r
     ·rw[aE (B b (by rw[r];exact λz=>nomatch z))];exact M.ex.ow b w n r
     ·rw[aE (B b (by rw[r];exact λz=>nomatch z))];exact M.ex.fz b q w r
     ·by_cases z:a=D
      ·subst z;rw[aH];exact λz=>nomatch z
      ·rw[aE z];exact M.live a F
     ·obtain⟨v,h1,h2⟩:=M.val i d h n
      exact⟨v,h1,h2.put (.inr rfl) U trivial⟩
     ·obtain⟨a,h1,h2,h3,h4⟩:=M.own i d h n
      exact⟨a,h1,h2,h3,h4.put (.inr rfl) U trivial (Y i n d a h h1)⟩
    ·have ae:Ext A H H6:=ar.trans (x6.mono λa F=>.inl F)
     have B:∀b,H b≠none->b≠D:=λb hb z=>hb (by rw[z];exact n0)
     exact⟨λb w r=>eV (B b (by rcases r with r|⟨_,r⟩ <;> (rw[r];exact λz=>nomatch z))) (ae.rd b w r),
      λb xs k r=>by rw[aE (B b (by rw[r];exact λz=>nomatch z))];exact ae.kp b xs k r,
      λb w n r=>by rw[aE (B b (by rw[r];exact λz=>nomatch z))];exact ae.ow b w n r,
      λb q w r=>by rw[aE (B b (by rw[r];exact λz=>nomatch z))];exact ae.fz b q w r⟩
  ·have az:i=items.length:=by lia
   subst az;rw[zdE]at G;cases G;rw[zbv]at ed;subst ed;exact .inl ⟨an (zai _),q D H2 x2 n0 nA (.lst aj af)⟩
theorem zR{B tg q:Expr}{z:List Expr}{scope:Scope}{pos:Pos}{N:List Str}{F:List (Str×Addr)}{ms:List (Option Nat)}{t:Nat}{it:Lv}{c:Bv}{f:Ev}
  (hc:X.calm=true) (U:My.Clo X N scope F) (J:dU X scope N ms) (hO:inO O ms=Oi) (Y:∀j∈Oi,∀k∈Oi,ms[j]?=ms[k]?->j=k) (G:t∉Oi) (hi:PDI X O tg q it) (W:∀C s H fp,PG (My.aX X N scope F C s H fp) tg (i6 t))
  (M:∀C s H fp,My.DX (My.aX X N scope F C s H fp) z (tDT Oi c)) (he:∀C s H fp,PD (My.aX X N scope F C s H fp) Oi B f) (hs:∀x,zba q X.env x=pure x:=by intro _;rfl) :
  PF X O (.ListComp B [⟨tg,q,z,0⟩] scope pos) (d6 ms it (aS t) c f):=PE.mono (My.E7 hc U hi W M he hs) (HH J hO Y G)
theorem EH{N:List Str}{scope:Scope}(Y:scope.kind=.function)(h:A7 scope.names X.env.scope.names=true)(W:∀x,X.env.scope.names.lookup x=some .cell->∃c,X.env.cells.lookup x=some c):My.Clo X N scope (gT X.env.cells scope.names []):=by
 have h':=List.all_eq_true.mp h;have J:∀y∈scope.names,y.2≠.cell:=λy F=>by
  have:=h' y F;simp only[zaQ]at this;simpa using this.1.1
 have c2:∀y∈scope.names,y.2=.local->scope.names.lookup y.1=some .local:=λy F e=>by
  have:=h' y F;simp only[zaQ,zdG]at this;rcases this.1.2 with z|z
  ·rw[e]at z;exact absurd z (by decide)
  ·simpa using z
 have G:∀y∈scope.names,y.2=.free->∃c,X.env.cells.lookup y.1=some c:=λy F e=>by
  have:=h' y F;simp only[zaQ,zdG]at this;rcases this.2 with z|z
  ·rw[e]at z;exact absurd z (by decide)
  ·exact W _ (by simpa using z)
 have q:∀x,((zbd scope X.env).names.lookup x=some .cell\/(zbd scope X.env).names.lookup x=some .free)->(x,zbn)∈scope.names:=λx hx=>by
  rcases hx with hx|hx
  ·rcases My.SY hx with z|⟨_,z⟩
   ·exact absurd rfl (J _ z)
   ·exact z
  ·rcases My.SY hx with z|⟨z,_⟩
   ·exact z
   ·cases z
 refine⟨E9 G,Y,J,c2,λx c e=>?_,λx hx=>sX (.inl (q x hx))⟩;rcases sF e with⟨c',z,_⟩|⟨U,M⟩
 ·cases z
 ·obtain⟨c0,B⟩:=G _ U rfl
  have B:X.env.cells.lookup x=some c0:=B;rw[M,B];rfl
theorem D2{n:Nat}(q:X.env.cells=zb7 n X.env.scope.names []):∀x,X.env.scope.names.lookup x=some .cell->∃c,X.env.cells.lookup x=some c:=λx h=>by
 rw[q];exact mU (sc:=X.env.scope) h
end
section
variable {X:Cx}{L:Lp}{O O' O2:List Nat}
def spF(n:Nat)(F:List D->Option D):Sp:=λvs H Q _=>∃A ds d,Live A H/\RepL A H ds vs/\vs.length=n/\F ds=some d/\∀a H',Ext A H H'->H a=none->¬ A a->Own (λb=>A b\/b=a) H' d a->Q (.ref a) H'
def FnF(P:zah)(w:World)(K:zae)(mg:Str->Option Value)(base:Heap)(x:Str)(k:Nat)(ps:List Str)(F:List D->Option D):Prop:=My.Ok P w K mg base x k ps (spF ps.length F)
inductive tSF(O:List Nat)(f:Sv)(T:Ends)(σ:L2.St)(H:Hp):Prop
 | mk (H0:Hp) (A0 A:Av) (E:List Fact) (ρ:cU) (d:D) (st:ST H0 A0 A E O σ H ρ) (e:f ρ=some (.rt d)) (p:∀a H',Ext A0 H0 H'->H0 a=none->¬ A0 a->Own (λb=>A0 b\/b=a) H' d a->T.rt (.ref a) H'):tSF O f T σ H
theorem PJ(F:PF X O e f):PSs X [.Return (some e) pos] (tSF O (BI f)):=PSs.mono (gI (DH F)) <| by
 rintro T σ H ⟨H0,A0,A,E,ρ,d,st,e,p⟩;obtain⟨d',J,B⟩:=map_some e;cases B;refine⟨H0,A0,A,E,ρ,d,st,J,λa H' x n q o=>p a H' (st.mono x).ex (st.ex.free n) (λz=>q (st.sub a z)) (o.av λb G=>.inl (G.imp (st.sub b) id))⟩
def NL(f g:Sv):Sv:=λρ=>(f ρ).bind λo=>match o with
 | .nx ρ'=>g ρ'
 | _=>none
theorem sR{st:Stmt}{rest:List Stmt}{f g:Sv}(h1:PSD X ⟨[],[]⟩ O st f O2)(h2:PSs X rest (tSF O2 g)):PSs X (st::rest) (tSF O (NL f g)):=PSs.mono (dC h1 h2) <| by
 rintro T σ H ⟨H0,A0,A,E,ρ,d,st,e,p⟩;obtain⟨o,z,e⟩:=bind_some e;cases o with
 | nx ρ'=>exact⟨H0,A0,A,E,ρ,_,st,z,λA' B H' q=>⟨H0,A0,A',E,ρ',d,q,e,p⟩⟩
 | rt d=>cases e
 | bk d=>cases e
 | ct d=>cases e
def NY(n:Nat)(f:Sv)(ds:List D):Option D:=(f (aG n ds)).bind λo=>match o with
 | .rt d=>some d
 | _=>none
theorem UX{P:zah}{w:World}{K:zae}{mg:Str->Option Value}{base:Heap}{x:Str}{st:Stmt}{N ps:List Str}{k:Nat}{f:Sv}(Y:My.DefAt K mg x st ps)(S:FnScope N ps (aK st))
  (h:∀(F:Addr) (B:Value) (A:zao) (z:List Env) (s:zad) (H:Hp) (E:XK),Room k (A.deeper (zaJ x (aK st) s.heap.objs.size F B))->∃g,PSs (g9 uF P w K mg base N x (aK st) F B A z s H E).nox (bM st) (tSF [] g)/\g=f) :
  FnF P w K mg base x (k+1) ps (NY N.length f):=by
 refine My.BodyOk.ok (λF B A z s H vs Q E hr hsp=>?_) Y S (λvs H Q E hsp=>by obtain⟨A,ds,d,_,_,e,_⟩:=hsp;exact e);obtain⟨J,ds,d,W,r,e,M,q⟩:=hsp;obtain⟨o,eo,G⟩:=bind_some M;obtain⟨g,U,rfl⟩:=h F B A z s H E hr;cases o with
 | rt d'=>cases G;exact⟨_,U,H,J,J,[],_,d,ST.begun W r,eo,q⟩
 | nx ρ=>cases G
 | bk _=>cases G
 | ct _=>cases G
theorem FnF.fn{P:zah}{w:World}{K:zae}{mg:Str->Option Value}{base:Heap}{x:Str}{k:Nat}{ps:List Str}{F:List D->Option D}(h:FnF P w K mg base x k ps F):Fn P w K mg base x k ps F:=by
 obtain⟨f,fd,N,z,G,U⟩:=My.Ok.ex h;exact⟨f,fd,N,z,G,U.imp λvs H Q E ⟨A,ds,d,J,r,e,B,q⟩=>⟨A,ds,d,J,r,e,B,λa H' x n M o=>q _ H' x ((o.av (A':=A) λb z=>.inl (.inl z)).rep M)⟩⟩
end
section
variable {X:Cx}{L:Lp}{O O' O2:List Nat}{Z:List Nat}
end
end P
namespace My
open PySem PySem.Spec PyProof.Rows L2
section
variable {X:Cx}
end
end My
namespace P
open PySem PySem.Spec PyProof.Rows L2
section
variable {X:Cx}
end
end P
namespace My
open PySem PySem.Spec PyProof.Rows L2
end My
namespace P
open PySem PySem.Spec PyProof.Rows L2
section
variable {X:Cx}{O:List Nat}
end
end P
namespace My
open PySem PySem.Spec PyProof.Rows L2
section
variable {X:Cx}
end
end My
namespace P
open PySem PySem.Spec PyProof.Rows L2
section
variable {X:Cx}{O:List Nat}
end
def Fe(K:zae)(x:Str)(st:Stmt)(f:Addr):Prop:=∃fd,Fun K x x st f fd
theorem Fe.mk{K:zae}{x:Str}{st:Stmt}{f:Addr}{J:Value}{od G:Option Addr}{z:Array (Option Value)}{kV B F q ct:Value}(l:K.lookup f=some ⟨J,od,.func (zbh x x (d7 st) (bM st) (aK st) .none kV B F G q ct),z⟩)(c:zcm K q x=true)(k:zbE K (.ref f)=true):Fe K x st f:=⟨_,DF l c k⟩
theorem Fe.d{K:zae}{mg:Str->Option Value}{x:Str}{st:Stmt}{f:Addr}{ps:List Str}(h:Fe K x st f)(a:mg x=some (.ref f))(q:∀(kV doc pm:Value) (an:Option Addr) (cdv ct:Value) (us:List Value),us.length=ps.length->bindArgs (zbh x x (d7 st) (bM st) (aK st) .none kV doc pm an cdv ct) ⟨us,[]⟩=pure (ps.zip us)):My.DefAt K mg x st ps:=let ⟨fd,F⟩:=h;⟨⟨f,fd,F,F.binds q,a⟩⟩
end P
namespace My
open PySem PySem.Spec PyProof.Rows L2
noncomputable def uP(ns:List Int):Int:=(ns[argBest (λi j=>decide ((ns[i]?).getD 0<(ns[j]?).getD 0)) (ns.length-1)]?).getD 0
section
variable {X:Cx}
theorem LY(z:ns≠[]):uP ns∈ns:=by
 have q:∀(f:Nat->Nat->Bool) k,argBest f k<=k:=λf k=>by
  induction k with
  | zero=>exact zai _
  | succ k ih=>rw[argBest];split <;> lia
 have h:=List.length_pos_iff.mpr z;have a:=q (λi j=>decide ((ns[i]?).getD 0<(ns[j]?).getD 0)) (ns.length-1);unfold uP;rw[zaS (by lia)];exact zei _
end
end My
namespace P
open PySem PySem.Spec PyProof.Rows L2
section
variable {X:Cx}
end
section
variable {X:Cx}{L:Lp}{O O':List Nat}
theorem c0{O1 O3:List Nat}{st:Stmt}{q:List Stmt}{f g:Sv}(h:PSD X L O1 st f [])(k:PSDs X L [] q g O3):PSDs X L O1 (st::q) (dD f g) O3:=cn h k
theorem ss(i:Nat)(z:X.N.Nodup)(q:PD X O e f)(hi:X.N[i]?=some x:=by rfl)(hx:Loc X.env.scope x:=by exact zaZ rfl)(h:Sub O' (O.filter (· != i))=true:=by rfl)(hs:zaD e (some (.Name x pos')) pos.line X.env=pure false:=by rfl)(B:X.fn x=true\/X.env.scope.names.lookup x=some .local:=by first|exact .inl rfl|exact .inr rfl):PSD X L O (.Assign [.Name x pos'] e pos) (dX i f) O':=D8 z hi hx q h hs B
theorem gc(h1:BH X O e g)(h2:DR X O es k)(a:(za1 (e::es) X.env).map (·.2)=zbf e X.env::(za1 es X.env).map (·.2):=by rfl):DR X O (e::es) (eG g k):=gX (λx y=>jT x y a) h1 h2
theorem gu(n:Nat)(h:DR X O es k)(q:X.calm=true:=by rfl)(a:(za1 es X.env).length=n:=by rfl)(b:List.findIdx? (λx=>x.fst) (za1 es X.env)=none:=by rfl):BH X O (.Tuple es j pos) (kQ n k):=FB (C3 q h a b)
theorem tc(z:lQ X (zaC op) g)(q:PB X O a fa)(B:PB X O b fb)(h1:op≠CmpOp.In:=by decide)(h2:op≠CmpOp.NotIn:=by decide):uS X O (.Compare a [op] [b] pos) (nO (a7 g fa fb)):=FK z q B (MY _ h1 h2)
end
variable {X:Cx}{O:List Nat}{e:Expr}
end P
namespace My
open PySem PySem.Spec PyProof.Rows L2
section
variable {prog:zah}{w:World}{A:zao}{E:Value->zad->Prop}{s:zad}
end
end My
namespace P
open PySem PySem.Spec PyProof.Rows L2
end P
namespace HT
open PySem PySem.Spec PyProof.Rows
section
open PySem.SeqAt
open PySem.AutoSeq1 (wpAny_loadPart')
open PySem.MeetsSeq PySem.MeetsSeq2 PySem.MeetsSeq3
end
section
variable {prog:zah}{w:World}{A:zao}{E:Value->zad->Prop}{s:zad}
end
end HT
namespace P
open PySem PySem.Spec PyProof.Rows L2
section
variable {X:Cx}
end
section
variable {X:Cx}
end
section
variable {X:Cx}{L:Lp}{O O':List Nat}
theorem cO(O2:List Nat){O1 O3:List Nat}{st:Stmt}{q:List Stmt}{f g:Sv}(h:PSD X L O1 st f O2)(k:PSDs X L O2 q g O3):PSDs X L O1 (st::q) (dD f g) O3:=cn h k
theorem wt{x1}(h:yF X O es g)(q:Len g es.length)(z:Nat.ble es.length 100=true:=by rfl):PD X O (.Tuple es x1 pos) (eX g):=oB h (λρ ds k=>by rw[q ρ ds k];exact zcr z)
theorem wl(h:yF X O es g)(q:Len g es.length)(z:Nat.ble es.length 100=true:=by rfl):PF X O (.List es pos) (N0 g):=UK h (λρ ds k=>by rw[q ρ ds k];exact zcr z)
theorem wE(O':Fn X.prog X.w X.K X.mg X.base x k ps F)(J:Room j X.A)(B:yF X O (e::es) f)(G:Len f ps.length)(M:k<=j)(z:Gl X x:=by rfl)(q:(x == ("__debug__" : Str))=false:=by decide)(hs:isStar e=false:=by rfl)(N:(es.all λe=>!isStar e)=true:=by rfl):PD X O (.Call (.Name x p) (e::es) [] pos) (aT F f):=cD O' (J.mono M) B G z q hs N
theorem qaH{e:Expr}{es:List Expr}{f:Lv}{p pos:Pos}(z:X.mg "len" = none)(q:v9 X O (e::es) f)(F:Gl X "len")(hs:isStar e=false)(B:((es:List Expr).all λe=>!isStar e)=true):PD X O (.Call (.Name "len" p) (e::es) [] pos) (aT gB f):=cB WS z My.boot_len q F (by decide) (by decide) hs B
theorem qao{e:Expr}{es:List Expr}{f:Lv}{p pos:Pos}(z:X.mg "tuple" = none)(q:v9 X O (e::es) f)(F:Gl X "tuple")(hs:isStar e=false)(B:((es:List Expr).all λe=>!isStar e)=true):PD X O (.Call (.Name "tuple" p) (e::es) [] pos) (aT jW f):=XX jS z My.boot_tuple q F (by decide) (by decide) hs B
theorem qaE{e:Expr}{es:List Expr}{f:Lv}{p pos:Pos}(z:X.mg "int" = none)(q:v9 X O (e::es) f)(F:Gl X "int")(hs:isStar e=false)(B:((es:List Expr).all λe=>!isStar e)=true):PD X O (.Call (.Name "int" p) (e::es) [] pos) (aT DK f):=XX U9 z My.boot_int q F (by decide) (by decide) hs B
theorem qaA{e:Expr}{es:List Expr}{f:Lv}{p pos:Pos}(z:X.mg "list" = none)(q:v9 X O (e::es) f)(F:Gl X "list")(hs:isStar e=false)(B:((es:List Expr).all λe=>!isStar e)=true):PF X O (.Call (.Name "list" p) (e::es) [] pos) (aT F9 f):=qz OY z My.boot_list q F (by decide) (by decide) hs B
theorem ZO{q:Expr}{e:Expr}{es:List Expr}{f:Lv}{p pos:Pos}(G:X.calm=true)(F:X.mg "min" = none)(B:v9 X O [e,q] f)(z:Gl X "min")(hs:isStar e=false)(J:(([q]:List Expr).all λe=>!isStar e)=true):PD X O (.Call (.Name "min" p) [e,q] [] pos) (aT A8 f):=cB (RX G) F My.boot_min B z (by decide) (by decide) hs J
theorem YZ{q:Expr}{e:Expr}{es:List Expr}{f:Lv}{p pos:Pos}(G:X.calm=true)(F:X.mg "max" = none)(B:v9 X O [e,q] f)(z:Gl X "max")(hs:isStar e=false)(J:(([q]:List Expr).all λe=>!isStar e)=true):PD X O (.Call (.Name "max" p) [e,q] [] pos) (aT GK f):=cB (RZ G) F My.boot_max B z (by decide) (by decide) hs J
theorem YG{e:Expr}{f:Ev}{p p2 pos:Pos}(J:PB X O e f)(G:X.mg "isinstance" = none)(z:X.mg "int" = none)(F:Gl X "isinstance")(q:Gl X "int")(h1:zag [e,.Name "int" p2] X.env=(false,eval e X.env)::zag [.Name "int" p2] X.env)(h2:(zaG pos (zag [.Name "int" p2] X.env)).any (·.1)=false)(B:zag [.Name "int" p2] X.env=(false,eval (.Name "int" p2) X.env)::zag [] X.env):PD X O (.Call (.Name "isinstance" p) [e,.Name "int" p2] [] pos) (NT "int" f):=DA OV F G q z My.boot_int J (by decide) (by decide) h1 h2 B
theorem VT{e:Expr}{f:Ev}{p p2 pos:Pos}(J:PB X O e f)(G:X.mg "isinstance" = none)(z:X.mg "bool" = none)(F:Gl X "isinstance")(q:Gl X "bool")(h1:zag [e,.Name "bool" p2] X.env=(false,eval e X.env)::zag [.Name "bool" p2] X.env)(h2:(zaG pos (zag [.Name "bool" p2] X.env)).any (·.1)=false)(B:zag [.Name "bool" p2] X.env=(false,eval (.Name "bool" p2) X.env)::zag [] X.env):PD X O (.Call (.Name "isinstance" p) [e,.Name "bool" p2] [] pos) (NT "bool" f):=DA K4 F G q z My.boot_bool J (by decide) (by decide) h1 h2 B
theorem WV{e:Expr}{f:Ev}{p p2 pos:Pos}(J:PB X O e f)(G:X.mg "isinstance" = none)(z:X.mg "list" = none)(F:Gl X "isinstance")(q:Gl X "list")(h1:zag [e,.Name "list" p2] X.env=(false,eval e X.env)::zag [.Name "list" p2] X.env)(h2:(zaG pos (zag [.Name "list" p2] X.env)).any (·.1)=false)(B:zag [.Name "list" p2] X.env=(false,eval (.Name "list" p2) X.env)::zag [] X.env):PD X O (.Call (.Name "isinstance" p) [e,.Name "list" p2] [] pos) (NT "list" f):=DA LQ F G q z My.boot_list J (by decide) (by decide) h1 h2 B
theorem rSl{e:Expr}{lo hi:Option Expr}{p2 pos:Pos}{f:Ev}{a b:Ov}(z:PB X O e f)(B:TX X O lo a)(q:TX X O hi b):PD X O (.Subscript e (.Slice lo hi none p2) pos) (XI pR f a b):=JU qas z B q
theorem rIt{a b:Expr}{pos:Pos}{q fb:Ev}(z:X.A.units+1<cLine)(B:PB X O a q)(F:PB X O b fb)(hs:xA b:=by exact λ_ _=>rfl):PD X O (.Subscript a b pos) (a7 aJ q fb):=RV z B F hs
theorem qaY{a b:Expr}{pos:Pos}{q fb:Ev}{j:Nat}(F:Room j X.A)(z:PB X O a q)(G:PB X O b fb)(B:zbP .NotIn b=false):uS X O (.Compare a [.NotIn] [b] pos) (nO (a7 nC q fb)):=FK (II F.units) z G B
theorem rCm{a b:Expr}{op:CmpOp}{pos:Pos}{g:D->D->Option D}{q fb:Ev}(B:lQ X (zaC op) g)(z:PB X O a q)(F:PB X O b fb)(h1:op≠CmpOp.In)(h2:op≠CmpOp.NotIn):PD X O (.Compare a [op] [b] pos) (a7 g q fb):=UW B z F (MY _ h1 h2)
theorem rJn{o e:Expr}{apos cpos:Pos}{q fe:Ev}(U:PB X O o q)(M:PB X O e fe)(N:zaN o "join" X.env (eval o X.env)=eval o X.env)(G:((((zaG cpos (zag [e] X.env)).all λx=>!x.fst) && (backToKw cpos (keywordEach [] X.env)).all λx=>x.fst.isSome) && decide (([e].length+([]:List zck).length+if([]:List zck).isEmpty=true then 0 else 1)<30))=true)(B:(apos.endLine == cpos.line)=true)(z:zag [e] X.env=(false,eval e X.env)::zag [] X.env)(J:((zaG cpos (zag [] X.env)).any λx=>x.fst)=false):PD X O (.Call (.Attribute o "join" apos) [e] [] cpos) (a7 A5 q fe):=EY U M (λa b=>vY PySem.F.plainAttrs_str PySem.F.slot_str_join PySem.F.type_str_join My.E4 a b N G B z J) z
theorem xEq{j:Nat}(q:Room j X.A):lQ X (zaC .Eq) i4:=YN q.units
theorem xNe{j:Nat}(q:Room j X.A):lQ X (zaC .NotEq) uR:=ZR q.units
theorem xLt{j:Nat}(q:Room j X.A):lQ X (zaC .Lt) qu:=T2 q.units0
def At(l:List Str)(x:Str)(i:Nat):Prop:=l[i]?=some x
theorem at_(i:Nat){l:List Str}{x:Str}(h:l[i]?=some x:=by eq_refl):At l x i:=h
theorem vB{i:Nat}{x:Str}{p:Pos}(h:At X.N x i)(q:XM X.env.scope x)(hd:(x == ("__debug__" : Str))=false)(z:(x == ("__classdict__" : Str))=false):PB X O (.Name x p) (aD i):=U0 i (pv i h q hd z)
theorem vD{i:Nat}{x:Str}{p:Pos}(h:At X.N x i)(n:O.contains i=false)(q:XM X.env.scope x)(hd:(x == ("__debug__" : Str))=false)(z:(x == ("__classdict__" : Str))=false):PD X O (.Name x p) (aD i):=tK i (pv i h q hd z) (by simpa using n)
theorem gV{i:Nat}{x:Str}{pos:Pos}(h:At X.N x i)(n:O.contains i=false)(q:X.N.Nodup)(hx:Loc X.env.scope x)(z:X.fn x=true\/X.env.scope.names.lookup x=some .local):BH X O (.Name x pos) (aS i):=mT (gK q h hx z) n
theorem aI(i:Nat)(q:PD X O e f:=by trivial)(z:X.N.Nodup:=by assumption)(hi:X.N[i]?=some x:=by rfl)(hx:Loc X.env.scope x:=by first|exact zaZ rfl|exact zbK rfl)(h:Sub O' (O.filter (· != i))=true:=by rfl)(hs:zaD e (some (.Name x pos')) pos.line X.env=pure false:=by rfl)(B:X.fn x=true\/X.env.scope.names.lookup x=some .local:=by first|exact .inl rfl|exact .inr rfl):PSD X L O (.Assign [.Name x pos'] e pos) (dX i f) O':=D8 z hi hx q h hs B
theorem eD(i:Nat)(q:PF X O e f:=by trivial)(z:X.N.Nodup:=by assumption)(hi:X.N[i]?=some x:=by rfl)(hx:Loc X.env.scope x:=by first|exact zaZ rfl|exact zbK rfl)(h:Sub O' (i::O)=true:=by rfl)(F:O.contains i=false:=by rfl)(hs:zaD e (some (.Name x pos')) pos.line X.env=pure false:=by rfl)(B:X.fn x=true\/X.env.scope.names.lookup x=some .local:=by first|exact .inl rfl|exact .inr rfl):PSD X L O (.Assign [.Name x pos'] e pos) (dX i f) O':=JX z hi hx q h F hs B
theorem kM(i:Nat)(q:PD X O e f:=by trivial)(z:PE X o (c7 i):=by exact pv _)(U:mem O i=true:=by rfl)(N:zaN o "append" X.env (eval o X.env)=eval o X.env:=by rfl)(J:((((zaG cpos (zag [e] X.env)).all λx=>!x.fst) && (backToKw cpos (keywordEach [] X.env)).all λx=>x.fst.isSome) && decide (([e].length+([]:List zck).length+if([]:List zck).isEmpty=true then 0 else 1)<30))=true:=by rfl)(G:(apos.endLine == cpos.line)=true:=by rfl)(B:zag [e] X.env=(false,eval e X.env)::zag [] X.env:=by rfl)(M:((zaG cpos (zag [] X.env)).any λx=>x.fst)=false:=by rfl)(hs:zaD (.Call (.Attribute o "append" apos) [e] [] cpos) none pos.line X.env=pure false:=by rfl)(h:Sub O' O=true:=by rfl):PSD X L O (.Expr (.Call (.Attribute o "append" apos) [e] [] cpos) pos) (IV i f) O':=CS z q U (vY zdJ PySem.F.slot_list_append PySem.F.type_list_append vI z (cV (PD.pe q) fO (hs:=B)) N J G B M) hs h
theorem aO(q:PD X O e f:=by trivial):PSDs X L O [.Return (some e) pos] (BI f) O':=aN (RI q)
theorem NQ(q:PSDs X L O a f O')(z:PSDs X L O b k O')(B:uS X O c g:=by trivial):PSD X L O (.If c a b pos) (BE g f k) O':=C9 B q z
theorem aV(q:PSDs X L O a f O')(z:uS X O c g:=by trivial)(h:Sub O' O=true:=by rfl):PSD X L O (.If c a [] pos) (BE g f JH) O':=C9 z q (EX h)
theorem Z8{st:Stmt}:PSDs X L O [st] R7 O':=aN GW
theorem YM{c:Expr}{st:Stmt}{pos:Pos}{g:Bv}(q:uS X O c g:=by trivial)(h:Sub O' O=true:=by rfl):PSD X L O (.If c [st] [] pos) (BE g R7 JH) O':=C9 q Z8 (EX h)
theorem eL(O1 q:List Nat)(J:PSDs X ⟨q,O1⟩ O1 body b O1)(hi:PDI X O tg iter f:=by trivial)(B:BH X O1 tg g:=by trivial)(G:zb5 (model X.prog X.w) X.A X.env X.xe:=by exact zej)(F:X.calm=true:=by rfl)(h1:Sub O1 O=true:=by rfl)(h2:Sub O' O1=true:=by rfl)(z:Sub O' q=true:=by rfl)(hs:∀x,zba iter X.env x=pure x:=by intro _;rfl):PSD X L O (.For tg iter body [] pos) (BC f g b) O':=OQ G F hi B J h1 h2 z hs
theorem ND(O1 q:List Nat)(G:PSDs X ⟨q,O1⟩ O1 body b O1)(B:uS X O1 c g:=by trivial)(F:zb5 (model X.prog X.w) X.A X.env X.xe:=by exact zej)(h1:Sub O1 O=true:=by rfl)(h2:Sub O' O1=true:=by rfl)(z:Sub O' q=true:=by rfl):PSD X L O (.While c body [] pos) (lF g b) O':=HE F B G h1 h2 z
theorem vW(i:Nat)(F:PD X O value fe:=by trivial)(B:PB X O k fk:=by trivial)(G:X.A.units+1<cLine:=by assumption)(M:PE X o (c7 i):=by exact pv _)(J:mem O i=true:=by rfl)(h:Sub O' O=true:=by rfl)(hs:zaD value (some (.Subscript o k pos')) pos.line X.env=pure false:=by rfl)(q:zc8 [.Subscript o k pos'] value pos.line X.env=pure false:=by rfl)(hw:zc9 [.Subscript o k pos'] value X.env=pure none:=by rfl)
  (z:∀ {to ti:TE} {t:NP},PE X o to->PE X k ti->R6 X t->PG X (.Subscript o k pos') (XC to ti t):=by intro _ _ _ a b c;exact MH a b c):PSD X L O (.Assign [.Subscript o k pos'] value pos) (DP i fk fe) O':=RW G M B F J h hs q hw z
theorem eE(σ:zad)(N:List Str)(ms:List (Option Nat))(hi:PDI X O tg iter it:=by trivial)(B:∀C s H fp,N.Nodup->BH (My.aX X N scope (gT X.env.cells scope.names []) C s H fp) [] tg g:=by intros;trivial)(U:∀C s H fp,My.DX (My.aX X N scope (gT X.env.cells scope.names []) C s H fp) ifs (tDT [] c):=by intros;trivial)(G:∀C s H fp,PD (My.aX X N scope (gT X.env.cells scope.names []) C s H fp) [] elt f:=by intros;trivial)
  (hx:X.env.cells=zb7 (σ.heap.objs.size+1) X.env.scope.names []:=by rfl) (q:dU X scope N ms:=by repeat' first|exact zaY|exact rfl|exact zaZ rfl|constructor) (M:N.Nodup:=by decide)
  (F:X.calm=true:=by rfl) (J:scope.kind=.function:=by rfl) (h:A7 scope.names X.env.scope.names=true:=by rfl) (z:(ms.all λo=>match o with|some i=>!O.contains i|none=>true)=true:=by rfl) (hs:∀x,zba iter X.env x=pure x:=by intro _;rfl):PF X O (.ListComp elt [⟨tg,iter,ifs,0⟩] scope pos) (d6 ms it g c f):=P7 F (C8 J h hx) q z hi (λC s H fp=>B C s H fp M) U G hs
theorem iU(i:Nat)(σ:zad)(N:List Str)(ms:List (Option Nat))(hi:PDI X O tg iter it:=by trivial)(J:∀C s H fp,N.Nodup->BH (My.aX X N scope (gT X.env.cells scope.names []) C s H fp) [] tg g:=by intros;trivial)(ht:∀C s H fp,My.DX (My.aX X N scope (gT X.env.cells scope.names []) C s H fp) ifs (tDT [] c):=by intros;trivial)(Y:∀C s H fp,PD (My.aX X N scope (gT X.env.cells scope.names []) C s H fp) [] elt f:=by intros;trivial)
  (hx:X.env.cells=zb7 (σ.heap.objs.size+1) X.env.scope.names []:=by rfl) (z:dU X scope N ms:=by repeat' first|exact zaY|exact rfl|exact zaZ rfl|constructor) (hN:N.Nodup:=by decide)
  (M:X.calm=true:=by rfl) (hk:scope.kind=.function:=by rfl) (h:A7 scope.names X.env.scope.names=true:=by rfl) (G:(ms.all λo=>match o with|some i=>!O.contains i|none=>true)=true:=by rfl) (hs:∀x,zba iter X.env x=pure x:=by intro _;rfl)
  (W:X.N.Nodup:=by assumption) (F:X.N[i]?=some x:=by rfl) (hl:Loc X.env.scope x:=by first|exact zaZ rfl|exact zbK rfl) (q:Sub O' (O.filter (· != i))=true:=by rfl) (B:zaD (.ListComp elt [⟨tg,iter,ifs,0⟩] scope pos) (some (.Name x pos')) spos.line X.env=pure true:=by rfl) (U:X.fn x=true\/X.env.scope.names.lookup x=some .local:=by first|exact .inl rfl|exact .inr rfl) :
  PSD X L O (.Assign [.Name x pos'] (.ListComp elt [⟨tg,iter,ifs,0⟩] scope pos) spos) (dX i (d6 ms it g c f)) O':=J9 W F hl M (C8 hk h hx) z G hi (λC s H fp=>J C s H fp hN) ht Y q hs B U
theorem RA(i:Nat)(σ:zad)(N:List Str)(ms:List (Option Nat))(hi:PDI X O tg iter it:=by trivial)(M:∀C s H fp,N.Nodup->BH (My.aX X N scope (gT X.env.cells scope.names []) C s H fp) [] tg g:=by intros;trivial)(ht:∀C s H fp,My.DX (My.aX X N scope (gT X.env.cells scope.names []) C s H fp) ifs (tDT [] c):=by intros;trivial)(he:∀C s H fp,PD (My.aX X N scope (gT X.env.cells scope.names []) C s H fp) [] elt f:=by intros;trivial)
  (hx:X.env.cells=zb7 (σ.heap.objs.size+1) X.env.scope.names []:=by rfl) (z:dU X scope N ms:=by repeat' first|exact zaY|exact rfl|exact zaZ rfl|constructor) (hN:N.Nodup:=by decide)
  (U:X.calm=true:=by rfl) (hk:scope.kind=.function:=by rfl) (h:A7 scope.names X.env.scope.names=true:=by rfl) (J:(ms.all λo=>match o with|some i=>!O.contains i|none=>true)=true:=by rfl) (hs:∀x,zba iter X.env x=pure x:=by intro _;rfl)
  (Y:X.N.Nodup:=by assumption) (F:X.N[i]?=some x:=by rfl) (hl:Loc X.env.scope x:=by first|exact zaZ rfl|exact zbK rfl) (q:Sub O' (i::O)=true:=by rfl) (G:O.contains i=false:=by rfl) (B:zaD (.ListComp elt [⟨tg,iter,ifs,0⟩] scope pos) (some (.Name x pos')) spos.line X.env=pure true:=by rfl) (W:X.fn x=true\/X.env.scope.names.lookup x=some .local:=by first|exact .inl rfl|exact .inr rfl) :
  PSD X L O (.Assign [.Name x pos'] (.ListComp elt [⟨tg,iter,ifs,0⟩] scope pos) spos) (dX i (d6 ms it g c f)) O':=GX Y F hl U (C8 hk h hx) z J hi (λC s H fp=>M C s H fp hN) ht he q G hs B W
end
theorem fx{Q:zah}{w:World}{K:zae}{mg:Str->Option Value}{base:Heap}{x:Str}{k:Nat}{ps:List Str}{F:List D->Option D}(B:List D->Option D)(h:Fn Q w K mg base x k ps F)(e:F=B:=by rfl):Fn Q w K mg base x k ps B:=e ▸ h
noncomputable def W9:List Str->(List Value->Prop)->Prop
 | [],Q=>Q []
 | _::ps,Q=>∀u,W9 ps λus=>Q (u::us)
theorem QQ{ps:List Str}{Q:List Value->Prop}(h:W9 ps Q){q:List Value}(e:q.length=ps.length):Q q:=by
 induction ps generalizing q Q with
 | nil=>rw[List.length_eq_zero_iff.mp e];exact h
 | cons a ps ih=>
  cases q with
  | nil=>cases e
  | cons u q=>exact ih (h u) (Nat.succ.inj e)
def Bd(st:Stmt)(x:Str)(ps:List Str):Prop:=∀(kV doc pm:Value) (an:Option Addr) (cdv ct:Value),W9 ps λq=>bindArgs (zbh x x (d7 st) (bM st) (aK st) .none kV doc pm an cdv ct) ⟨q,[]⟩=pure (ps.zip q)
def De(K:zae)(x:Str)(st:Stmt):Prop:=∃f,zbY K zaK x=some (some (.ref f))/\Fe K x st f
def Des(K:zae)(tp:Nat->Stmt)(t:List (Str×Nat×List Str)):Prop:=∀p∈t,De K p.1 (tp p.2.1)
theorem Des.nil{K:zae}{tp:Nat->Stmt}:Des K tp []:=λ_ h=>nomatch h
theorem Des.cons{K:zae}{tp:Nat->Stmt}{x:Str}{i:Nat}{ps:List Str}{t:List (Str×Nat×List Str)}{f:Addr}{F:Value}{od J:Option Addr}{z:Array (Option Value)}{kV B G q ct:Value}(a:zbY K zaK x=some (some (.ref f)))(l:K.lookup f=some ⟨F,od,.func (zbh x x (d7 (tp i)) (bM (tp i)) (aK (tp i)) .none kV B G J q ct),z⟩)(c:zcm K q x=true)(k:zbE K (.ref f)=true)(r:Des K tp t):Des K tp ((x,i,ps)::t):=
 zc0.2 ⟨⟨f,a,Fe.mk l c k⟩,r⟩
def Bds(tp:Nat->Stmt)(t:List (Str×Nat×List Str)):Prop:=∀p∈t,Bd (tp p.2.1) p.1 p.2.2
theorem Bds.nil:Bds tp []:=λ_ h=>nomatch h
theorem Bds.cons(a:Bd (tp i) x ps)(r:Bds tp t):Bds tp ((x,i,ps)::t):=zc0.2 ⟨a,r⟩
theorem Des.d{K:zae}{h:Heap}{mg:Str->Option Value}{tp:Nat->Stmt}{t:List (Str×Nat×List Str)}(X:K.In h)(G:h.Ns zaK mg)(D:Des K tp t)(B:Bds tp t):∀p∈t,My.DefAt K mg p.1 (tp p.2.1) p.2.2:=λp F=>let ⟨_,a,e⟩:=D p F;e.d (zdK X G a) λkV z J M q ct N=>QQ (B p F kV z J M q ct)
def Nos(K:zae)(t:List Str):Prop:=∀x∈t,zbY K zaK x=some none
theorem Nos.nil{K:zae}:Nos K []:=λ_ h=>nomatch h
theorem Nos.cons{K:zae}{x:Str}{t:List Str}(a:zbY K zaK x=some none)(r:Nos K t):Nos K (x::t):=zc0.2 ⟨a,r⟩
def Gis(K:zae)(t:List (Str×Int)):Prop:=∀p∈t,∃k,zbY K zaK p.1=some (some (.int p.2 k))
theorem Gis.nil{K:zae}:Gis K []:=λ_ h=>nomatch h
theorem Gis.cons{K:zae}{x:Str}{n:Int}{k:Tok}{t:List (Str×Int)}(a:zbY K zaK x=some (some (.int n k)))(r:Gis K t):Gis K ((x,n)::t):=zc0.2 ⟨⟨k,a⟩,r⟩
theorem Gis.d{K:zae}{h:Heap}{mg:Str->Option Value}{t:List (Str×Int)}(X:K.In h)(G:h.Ns zaK mg)(D:Gis K t):∀p∈t,GInt mg p.1 p.2:=λp q=>let ⟨_,a⟩:=D p q;⟨⟨_,zdK X G a⟩⟩
noncomputable def mon:List Int->List Int->Int
 | e::es,v::vs=>v^e.toNat*mon es vs
 | _,_=>1
def ev(vs:List Int)(F:List My.Tm):Int:=(F.map λt=>t.2*mon t.1 vs).sum
noncomputable def pw(S:Nat->Int)(a:Int):Nat->Int
 | 0=>0
 | n+1=>pw S a n+a^n*S n
noncomputable def la(k:List Int):Int:=(k.getLast?).getD 0
theorem DD{w:List D}{c:Int}(G:0<=c)(h1:c<=(w.length:Int)):cutD w none (some c)=w.take c.toNat/\cutD w (some c) none=w.drop c.toNat:=by
 have F:HT.sIx w.length w.length (some c)=c.toNat:=by
  show(if c<0 then _ else min c.toNat w.length)=_;rw[if_neg (by lia)];lia
 have q:HT.sIx w.length 0 (some c)=c.toNat:=by
  show(if c<0 then _ else min c.toNat w.length)=_;rw[if_neg (by lia)];lia
 have z:HT.sIx w.length 0 none=0:=rfl;have B:HT.sIx w.length w.length none=w.length:=rfl;unfold cutD;rw[F,q,z,B];constructor
 ·simp
 ·rw[zbZ (by simp)]
section
variable {ρ ρ':cU}{f g:Ev}{a b:Bv}{l:Lv}{x y d r:D}{xs:List D}{i j:Int}{k:Nat}{s t:Sv}{o:Option Out}
theorem WN(h:ρ[k]?=some (some x)):aD k ρ=some x:=by unfold aD;rw[h];rfl
theorem qa1:eC x ρ=some x:=rfl
theorem GJ{w:D->D->Option D}(z:f ρ=some x)(B:g ρ=some y)(q:w x y=some r):a7 w f g ρ=some r:=by unfold a7;rw[z,aA,B,aA,q]
theorem QD{F:List D->Option D}(h:l ρ=some xs)(k:F xs=some r):aT F l ρ=some r:=by unfold aT;rw[h,aA,k]
theorem QZ(h:f ρ=some x)(k:l ρ=some xs):aC f l ρ=some (x::xs):=by unfold aC;rw[h,aA,k,aA]
theorem UT(h:l ρ=some xs):eX l ρ=some (.tup xs):=by unfold eX;rw[h,aB]
theorem WG(h:l ρ=some xs):N0 l ρ=some (.lst xs):=by unfold N0;rw[h,aB]
theorem NG(h:f ρ=some (.int i)):v7 f ρ=some (some i):=by unfold v7;rw[h,aA];rfl
theorem NJ{w:D->Option Int->Option Int->Option D}{u v:Ov}{p q:Option Int}(B:f ρ=some x)(z:u ρ=some p)(G:v ρ=some q)(F:w x p q=some r):XI w f u v ρ=some r:=by unfold XI;rw[B,aA,z,aA,G,aA,F]
theorem VX(h:f ρ=some (.int i)):R4 f ρ=some (.int (-i)):=by unfold R4;rw[h,aA];rfl
theorem VP{c:Bool}(h:f ρ=some (.bl c)):nO f ρ=some c:=by unfold nO;rw[h,aA];rfl
theorem WR{c:Bool}(h:a ρ=some c):NV a ρ=some (!c):=by unfold NV;rw[h,aB]
noncomputable def XG{α:Type}(c:Bool)(u v:α):α:=if c=true then u else v
theorem ql{q:Type}{c:Bool}{u v w:q}(h:c=true)(k:u=w):XG c u v=w:=(if_pos h).trans k
theorem qg{q:Type}{c:Bool}{u v w:q}(h:c=false)(k:v=w):XG c u v=w:=(if_neg (by rw[h];exact nofun)).trans k
theorem VM{c:Bool}{z:Option Bool}(h:a ρ=some c)(k:XG c (b ρ) (some false)=z):JA a b ρ=z:=by unfold JA;rw[h,aA];exact k
theorem ZN{c:Bool}{z:Option Bool}(h:a ρ=some c)(k:XG c (some true) (b ρ)=z):TZ a b ρ=z:=by unfold TZ;rw[h,aA];exact k
theorem ZQ{c:Bool}(h:a ρ=some c)(k:XG c (s ρ) (t ρ)=o):BE a s t ρ=o:=by unfold BE;rw[h,aA];exact k
def sq(p:Out)(t:Sv):Option Out:=match p with
 | .nx ρ=>t ρ
 | p=>some p
theorem VC{p:Out}(h:s ρ=some p)(k:sq p t=o):dD s t ρ=o:=by unfold dD;rw[h,aA];exact k
theorem YO(k:t ρ=o):sq (.nx ρ) t=o:=k
theorem Y1(h:f ρ=some x):BI f ρ=some (.rt x):=qaI h
theorem UZ{w:Gv}(h:f ρ=some x)(k:w x ρ=some ρ'):R9 f w ρ=some (.nx ρ'):=by unfold R9;rw[h,aA,k,aB]
theorem MB(h:aD k ρ=some (.lst xs))(e:f ρ=some x)(z:xs.length<=1000000):IV k f ρ=some (.nx (ρ.set k (some (.lst (xs++[x]))))):=by
 unfold IV;rw[h,aA];show(f ρ).bind _=_;rw[e,aA];exact if_pos (decide_eq_true z)
theorem xW{u v:List D}(z:u.length+v.length<=1000000):dR (.lst u) (.lst v)=some (.lst (u++v)):=if_pos (decide_eq_true z)
theorem QY{u:List D}(z:u.length+1<=1000000):dR (.lst u) (.lst [x])=some (.lst (u++[x])):=xW z
theorem YW(h:fL xs i=some x):aJ (.lst xs) (.int i)=some x:=h
theorem T5(h:fL xs i=some x):aJ (.tup xs) (.int i)=some x:=h
theorem OJ{ms:List (Option Nat)}{w:Gv}{ds:List D}(h:l ρ=some xs)(z:xs.length<=1000000)(e:bA w a f xs (i5 ms ρ)=some ds):d6 ms l w a f ρ=some (.lst ds):=by unfold d6;rw[h,aA];exact(if_pos (decide_eq_true z)).trans (by rw[e,aB])
theorem UH{w:Gv}:bA w a f [] ρ=some []:=rfl
theorem RD{w:Gv}{ds:List D}(h:w x ρ=some ρ')(k:a ρ'=some true)(e:f ρ'=some y)(r:bA w a f xs ρ'=some ds):bA w a f (x::xs) ρ=some (y::ds):=by rw[bA,h,aA,k,aA,if_pos rfl,e,aA,r,aA]
theorem GI{w:Gv}(h:w x ρ=some ρ')(k:s ρ'=o):turn w s x ρ=o:=by unfold turn;rw[h,aA,k]
theorem wO{w:Gv}{Q:cU->Prop}(h:turn w s x ρ=some (.nx ρ'))(k:Q ρ'):∃ρ',turn w s x ρ=some (.nx ρ')/\Q ρ':=⟨_,h,k⟩
theorem VU{w:Gv}(h:l ρ=some xs)(k:kC w s xs ρ=o):BC l w s ρ=o:=by unfold BC;rw[h,aA,k]
theorem UV{w:Gv}:kC w s [] ρ=some (.nx ρ):=rfl
theorem QW{w:Gv}(h:turn w s x ρ=some (.nx ρ'))(k:kC w s xs ρ'=o):kC w s (x::xs) ρ=o:=by
 unfold turn at h;obtain⟨q,z,B⟩:=bind_some h;unfold kC;rw[z,aA,B,aA];exact k
theorem OI{ys:List D}(h:l ρ=some [x])(e:(gM x).map (f7 0)=some ys):GB l ρ=some ys:=by unfold GB;rw[h,aA];exact e
theorem YR{w:List D->Option (List D)}{ys:List D}(h:l ρ=some xs)(k:w xs=some ys):lR w l ρ=some ys:=by unfold lR;rw[h,aA,k]
theorem WM{u:Ev}{w:List D}(z:f ρ=some (.lst w))(q:g ρ=some (.int i))(hx:u ρ=some (.lst [x]))(B:0<=i)(h1:i<w.length)(F:w.length<=1000) :
  a7 dR (a7 dR (XI pR f GD (v7 g)) u) (XI pR f (v7 (a7 dR g (eC (.int 1)))) GD) ρ=some (.lst (w.take i.toNat++x::w.drop (i.toNat+1))):=by
 obtain⟨n,rfl⟩:=Int.eq_ofNat_of_zero_le B;refine(GJ (GJ (NJ z rfl (NG q) rfl) hx (xW ?_)) (NJ z (NG (GJ q rfl rfl)) rfl rfl) (xW ?_)).trans ?_
 all_goals rw[(DD B (by lia)).1]
 ·simp;lia
 ·rw[(DD (by lia) (by lia)).2];simp;lia
 ·rw[(DD (by lia) (by lia)).2];simp
end
end P
namespace My
open PySem PySem.Spec PyProof.Rows L2 PySem.SeqAt
def E6:V->List V->Hp->VK->Prop:=λx vs H Q=>∃l xs i y,x=.ref l/\vs=[.int i,y]/\H l=some (.lst xs)/\0<=i/\i<=(xs.length:Int)/\xs.length<zaj/\Q .non (upd H l (.lst (xs.take i.toNat++y::xs.drop i.toNat)))
theorem uX:∀ {xs:List V} {us:List Value} (n:Nat),Vals xs us->Vals (xs.take n) (us.take n)
 | _,_,0,_=>by simp;exact .nil
 | _,_,n+1,.nil=>.nil
 | _,_,n+1,.cons h t=>.cons h (uX n t)
theorem vQ:∀ {xs:List V} {us:List Value} (n:Nat),Vals xs us->Vals (xs.drop n) (us.drop n)
 | _,_,0,r=>r
 | _,_,n+1,.nil=>.nil
 | _,_,n+1,.cons h t=>vQ n t
theorem GZ{X:Cx}:MtM X "list.insert" E6:=by
 intro pins s σ H x vs v us Q I U W h;obtain⟨l,xs,i,y,rfl,rfl,J,h0,h1,hz,q⟩:=h;cases U;obtain⟨Y,M,rfl,r1,r2⟩:=vals2 W;obtain⟨t,rfl⟩:=r1;obtain⟨z,B,n,r,hl,e⟩:=I.lstM J;have G:¬ (!Builtin.List.listFitsIndex i)=true:=by
  have hs:zaj<=2^40:=by decide
  rw[fitsIndex_both (by lia) (by lia)];decide
 refine zcT F.slot_list_insert ⟨_,e,rfl⟩ F.entry_list_insert (F.args_list_insert_3 _ _ _) (AutoListH.list_insert_list_int_val_1 l B.toArray n i t M G (by rw[zax];lia)) ⟨e,?_⟩;refine⟨.non,_,I.lset (its':=B.take i.toNat++M::B.drop i.toNat) J e ?_ ((uX _ r).append (.cons r2 (vQ _ r))) ?_,rfl,q⟩
 ·have N:min i.toNat B.length=i.toNat:=by lia
  simp only[zax,if_neg (show ¬ i<0 by lia),N];apply Array.ext';simp;exact zbZ (by simp)
 ·simp only[zbc,zaz,zb8,zd6]
  lia
end My
namespace P
open PySem PySem.Spec PyProof.Rows L2
section
variable {X:Cx}{L:Lp}{O O':List Nat}
def XE(i:Nat)(fk fe:Ev):Sv:=λρ=>(aD i ρ).bind λx=>(fk ρ).bind λk=>(fe ρ).bind λd=>match x,k with
 | .lst l,.int j=>if aZ l.length=true/\0<=j/\j<=(l.length:Int)then some (.nx (ρ.set i (some (.lst (l.take j.toNat++d::l.drop j.toNat)))))else none
 | _,_=>none
theorem B5{o B z:Expr}{i:Nat}{apos cpos pos:Pos}{fk fe:Ev}(ho:PE X o (c7 i))(h1:PD X O B fk)(h2:PD X O z fe)(N:mem O i=true)(Y:PE X (.Call (.Attribute o "insert" apos) [B,z] [] cpos) (tBM X.K "list" My.E6 (c7 i) (v8 (tD Rep O fk) (v8 (tD Rep O fe) SA))))
  (hs:zaD (.Call (.Attribute o "insert" apos) [B,z] [] cpos) none pos.line X.env=pure false:=by rfl) (h:Sub O' O=true:=by rfl):PSD X L O (.Expr (.Call (.Attribute o "insert" apos) [B,z] [] cpos) pos) (XE i fk fe) O':=
 PS.mono (xH Y hs) <| by
  rintro T σ H ⟨H0,A0,A,E,ρ,out,st,e,p⟩;obtain⟨x,ex,e⟩:=bind_some e;obtain⟨k,U,e⟩:=bind_some e;obtain⟨d,W,e⟩:=bind_some e;cases x with
  | lst l=>
   cases k with
   | int j=>
    by_cases F:aZ l.length=true/\0<=j/\j<=(l.length:Int)
    ·replace e:(if aZ l.length=true/\0<=j/\j<=(l.length:Int)then some (Out.nx (ρ.set i (some (.lst (l.take j.toNat++d::l.drop j.toNat)))))else none)=some out:=e
     rw[if_pos F]at e;cases e;obtain⟨a,B,z,e3,e4⟩:=st.own i _ (bW ex) (gP N);cases e4 with
     | lst h4 r4=>
      refine⟨_,B,.inl ⟨rfl,_,SqL.of h4⟩,H0,A0,A,E,ρ,_,st,U,λv H1 M r1=>⟨H0,A0,A,E,ρ,d,st.mono M,W,λv2 H2 x2 r2=>?_⟩⟩;have:=RepB.int_inv (.of r1);subst this;have q:=M.trans x2;have J:=q.ow _ _ z h4;refine⟨a,_,j,v2,rfl,rfl,J,F.2.1,by rw[r4.length];exact F.2.2,by rw[r4.length];exact iN F.1,?_⟩;obtain⟨A',G⟩:=((st.mono q).write (o:=.lst _) (bW ex) (gP N) B z e3 J trivial (.lst aH ((((r4.ext q).take j.toNat).append (.cons r2 ((r4.ext q).drop j.toNat))).put z J trivial))).shut (Sub.mem h);exact p A' σ _ G
    ·replace e:(if aZ l.length=true/\0<=j/\j<=(l.length:Int)then some (Out.nx (ρ.set i (some (.lst (l.take j.toNat++d::l.drop j.toNat)))))else none)=some out:=e
     rw[if_neg F]at e;cases e
   | _=>exact nn e
  | _=>exact nn e
end
end P
namespace My
open PySem PySem.Spec PyProof.Rows L2
abbrev NK:=Key×List Key
abbrev Mf:=NK->Option (Int×Int)
section
variable {P:zah}{w:World}{H:Hp}{h:Heap}{a b:Addr}{dom:List NK}{f:Mf}{p:Option NK}
theorem pW{k:NK}(ok:HOk P w H h)(e:H a=some (.tup [kV k.1,.ref b]))(q:H b=some (.tup (k.2.map kV))):(cY (bC P w)).is h k a:=by
 obtain⟨_,B,r,o,h1,h2,n,z⟩:=(show ObjOk P w H h a (.tup [kV k.1,.ref b])from ok a _ e);cases r with
 | cons r1 r=>
  cases r with
  | cons r2 r=>
   cases r;cases(show _=zau b from r2);exact⟨o,n,_,b,h1,h2,z.1,v5 r1,n9 ok q⟩
def Ent(H:Hp)(dom:List NK)(f:Mf)(x:NK×Addr×Value):Prop:=x.1∈dom/\(∃b,H x.2.1=some (.tup [kV x.1.1,.ref b])/\H b=some (.tup (x.1.2.map kV)))/\MemV H (f x.1) x.2.2
theorem A4(ok:HOk P w H h)(e:H a=some (.memo dom f p)):(a == za6)=false/\∃xs,(∀x∈xs,Ent H dom f x)/\(∀k,p=some k->∃q,atKey xs k=some q)/\h.DictOfH (cY (bC P w)) a xs:=by
 obtain⟨y,xs,r,G,o,es,ep,h1,h2,z,B,J⟩:=(show ObjOk P w H h a (.memo dom f p)from ok a _ e);refine⟨y,xs,r,G,o,es,ep,h1,h2,z,B,λx hx=>?_,J⟩;obtain⟨_,⟨b,M,F⟩,_⟩:=r x hx;exact pW ok M F
theorem tW{xs:List (NK×Addr×Value)}{k:NK}{q:Addr×Value}(h:atKey xs k=some q):(k,q)∈xs:=by
 unfold atKey at h;obtain⟨x,hx,e⟩:=Option.map_eq_some_iff.mp h;have:=List.mem_of_find?_eq_some hx;have z:x.1=k:=by simpa using List.find?_some hx
 rw[<- z,<- e];exact this
end
def MemW(H:Hp):Option (Int×Int)->V->Prop
 | none,v=>v=.non
 | some p,v=>∃b,v=.ref b/\H b=some (.tup [.int p.1,.int p.2])
theorem MemV.of{H:Hp}{r:Option (Int×Int)}{u:Value}(h:MemV H r u):∃v,RelV v u/\MemW H r v:=by
 cases r with
 | none=>exact⟨.non,h,rfl⟩
 | some p=>obtain⟨b,z,q⟩:=h;exact⟨.ref b,z,b,rfl,q⟩
theorem MemW.to{H:Hp}{r:Option (Int×Int)}{v:V}{u:Value}(h:MemW H r v)(q:RelV v u):MemV H r u:=by
 cases r with
 | none=>cases(show v=.non from h);exact q
 | some p=>obtain⟨b,B,z⟩:=h;subst B;exact⟨b,q,z⟩
def j7(H:Hp)(k:NK)(y:V):Prop:=∃c b,y=.ref c/\H c=some (.tup [kV k.1,.ref b])/\H b=some (.tup (k.2.map kV))
section
variable {X:Cx}{pins:List (Addr×Obj)}{σ:L2.St}{H:Hp}{s:zad}{a:Addr}{y v:V}{u r:Value}{A:zao}{E:Value->zad->Prop}{dom:List NK}{f:Mf}{p:Option NK}{k:NK}
theorem T6(I:Inv X pins σ H s)(e:H a=some (.memo dom f p)):s.TypeIs (.ref a) "dict" := by
 obtain⟨_,_,_,_,o,es,ep,h1,h2,_⟩:=A4 I.hok e;exact⟨o,h1,h2.1⟩
theorem xE(I:Inv X pins σ H s)(e:H a=some (.memo dom f p)){p':Option NK}(h:∀xs:List (NK×Addr×Value),(∀k,p=some k->∃q,atKey xs k=some q)->s.heap.DictOfH (cY (bC X.prog X.w)) a xs->∀k,p'=some k->∃q,atKey xs k=some q){t':Nat}:Inv X pins σ (upd H a (.memo dom f p')) {s with toks:=t'}:=by
 obtain⟨y,xs,r,hp,o,es,ep,h1,h2,h3,h4,h5⟩:=(show ObjOk X.prog X.w H s.heap a (.memo dom f p)from I.hok a _ e);obtain⟨_,B,U,G,N⟩:=A4 I.hok e;have M:∀b ys,H b=some (.tup ys)->upd H a (.memo dom f p') b=some (.tup ys):=λb ys z=>by rw[aE (t5 z e (λq=>nomatch q))];exact z
 obtain⟨o',F,J,g1,g2,g3,W,_,g5⟩:=id N;refine I.write (x:=a) (e:=a) (h':=s.heap) (t':=t') (by rw[e];exact zaY) (.inl rfl) (λ_ _ _ z=>z) ⟨o',g1⟩ ⟨y,B,λx hx=>?_,h B G N,o',F,J,g1,g2,g3,W,g5⟩;obtain⟨d,⟨b,q1,q2⟩,m⟩:=U x hx;refine⟨d,⟨b,M _ _ q1,M _ _ q2⟩,?_⟩;revert m;cases f x.1 with
 | none=>exact id
 | some p=>exact λ⟨c,e1,Y⟩=>⟨c,e1,M _ _ Y⟩
theorem OW{Q:Value->zad->Prop}(hu:A.units+2<cLine)(I:Inv X pins σ H s)(e:H a=some (.memo dom f p))(ky:j7 H k y)(ry:RelV y u)(h1:∀s',Inv X pins σ (upd H a (.memo dom f none)) s'->Q (.bool true) s')(h2:∀s',Inv X pins σ (upd H a (.memo dom f (some k))) s'->Q (.bool false) s') :
  wpAny (model X.prog X.w) A (zaC .NotIn u (.ref a)) Q E s:=by
 obtain⟨c,b,rfl,e1,e2⟩:=ky;cases(show u=zau c from ry);obtain⟨hd,xs,rr,hp,W⟩:=A4 I.hok e;refine wpAny_notIn_heap (knd:=cY (bC X.prog X.w)) (show A.in1.units+1<cLine from hu) (pW I.hok e1 e2) hd W ?_;have B:∀ys,s.heap.DictOfH (cY (bC X.prog X.w)) a ys->∀q,atKey xs k=some q->∃q,atKey ys k=some q:=λys F q G=>by
  obtain⟨o,es,ep,g1,g2,g3,g4,g5,g6⟩:=W;obtain⟨o',aj,af,Y,j2,U,j4,j5,j6⟩:=F;rw[g1]at Y;cases Y;rw[g3]at U;cases U;have he:xs.map (zcg (cY (bC X.prog X.w)))=ys.map (zcg (cY (bC X.prog X.w))):=g4.symm.trans j4;have hm:=tW G;obtain⟨i,hi⟩:=List.mem_iff_getElem?.mp hm;have N:(ys.map (zcg (cY (bC X.prog X.w))))[i]?=some (zcg (cY (bC X.prog X.w)) (k,q)):=by rw[<- he,zaB,hi];rfl
  rw[zaB]at N;obtain⟨z,M,ez⟩:=Option.map_eq_some_iff.mp N;have ka:z.2.1=q.1:=by
   have:=congrArg DictEntry.key ez;injection this
  have kk:z.1=k:=(cY (bC X.prog X.w)).inj (h:=s.heap) (a:=q.1) (ka ▸ j5 z (zaw M)) (g5 _ hm);exact⟨z.2,atKey_of_get j6 (i:=i) (by rw[M,<- kk])⟩
 cases G:atKey xs k with
 | none=>exact h1 _ (xE (p':=none) I e λ_ _ _ k J=>by cases J)
 | some q=>exact h2 _ (xE I e λys _ F k' J=>by cases J;exact B ys F q G)
theorem IP{Q:Value->zad->Prop}(Y:A.units+2<cLine)(I:Inv X pins σ H s)(e:H a=some (.memo dom f (some k)))(W:j7 H k y)(ry:RelV y u)(h:∀v B s',Inv X pins σ H s'->RelV v B->MemW H (f k) v->Q B s') :
  wpAny (model X.prog X.w) A (zbx (.ref a) u) Q E s:=by
 obtain⟨c,b,rfl,e1,N⟩:=W;cases(show u=zau c from ry);obtain⟨hd,xs,M,U,F⟩:=A4 I.hok e;obtain⟨q,z⟩:=U k rfl;refine wpAny_getItem_heap (knd:=cY (bC X.prog X.w)) (show A.in1.units+1<cLine from Y) (pW I.hok e1 N) F z ?_;obtain⟨_,_,m⟩:=M _ (tW z);obtain⟨v,J,G⟩:=MemV.of m;exact h v _ _ (I.tok _) J G
theorem EE{x:NK}:∀ {l:List NK},x∈l->(l.filter λy=>decide (y≠x)).length<l.length
 | [],h=>nomatch h
 | y::l,h=>by
  by_cases e:y=x
  ·rw[List.filter_cons_of_neg (by simp[e])]
   exact Nat.lt_succ_of_le (zc1 _ _)
  ·rw[List.filter_cons_of_pos (by simp[e]),zaz,zaz]
   exact Nat.succ_lt_succ (EE ((List.mem_cons.mp h).resolve_left λz=>e z.symm))
theorem few:∀ {xs dom:List NK},xs.Nodup->(∀x∈xs,x∈dom)->xs.length<=dom.length
 | [],_,_,_=>zaI _
 | x::xs,dom,q,h=>by
  have q:=List.nodup_cons.mp q;have i:=few (xs:=xs) (dom:=dom.filter λy=>decide (y≠x)) q.2 λy B=>List.mem_filter.mpr ⟨h y (zaq _ B),decide_eq_true λz=>q.1 (by rw[<- z];exact B)⟩
  have:=EE (h x (zas ..));rw[zaz];lia
theorem G9{Q:Unit->zad->Prop}(hu:A.units+2<cLine)(I:Inv X pins σ H s)(e:H a=some (.memo dom f p))(ky:j7 H k y)(hk:k∈dom)(hl:dom.length<zaj)(Y:MemW H (f k) v)(ry:RelV y u)(rv:RelV v r)(h:∀s',Inv X pins σ (upd H a (.memo dom f (some k))) s'->Q () s') :
  wpAny (model X.prog X.w) A (setItem (.ref a) u r) Q E s:=by
 obtain⟨c,b,rfl,M,G⟩:=ky;cases(show u=zau c from ry);obtain⟨hd,xs,F,hp,dd⟩:=A4 I.hok e;have nd:(xs.map (·.1)).Nodup:=by obtain⟨_,_,_,_,_,_,_,_,z⟩:=dd;exact z
 have B:xs.length<=zaj:=by
  have:=few nd (λx hx=>by obtain⟨y,J,rfl⟩:=List.mem_map.mp hx;exact(F y J).1);rw[zal]at this
  lia
 refine wpAny_setItem_heap (knd:=cY (bC X.prog X.w)) (hsz:=B) (show A.in1.units+1<cLine from hu) (pW I.hok M G) dd λh' N hs=>h _ ?_
 obtain⟨q,es,ep,hq,h2,h3,h4,_,h5⟩:=N;have U:∀b ys,H b=some (.tup ys)->upd H a (.memo dom f (some k)) b=some (.tup ys):=λb ys z=>by rw[aE (t5 z e (λq=>nomatch q))];exact z
 have all:∀x∈storedH xs k c r,Ent H dom f x:=λx hx=>by
  unfold storedH at hx;split at hx
  ·obtain⟨y,J,rfl⟩:=List.mem_map.mp hx
   unfold putAt;split
   ·rename_i _ hyk
    obtain⟨a1,a2,a3⟩:=F y J;exact⟨a1,a2,by rw[hyk];exact Y.to rv⟩
   ·exact F y J
  ·rcases List.mem_append.mp hx with z|z
   ·exact F x z
   ·rw[List.mem_singleton.mp z];exact⟨hk,⟨b,M,G⟩,Y.to rv⟩
 refine nF I (by rw[e];exact zaY) hs ⟨q,hq⟩ ⟨hd,_,λx hx=>?_,λk' W=>?_,q,es,ep,hq,h2,h3,h4,h5⟩
 ·obtain⟨d,⟨b,q1,q2⟩,m⟩:=all x hx
  refine⟨d,⟨b,U _ _ q1,U _ _ q2⟩,?_⟩;revert m;cases f x.1 with
  | none=>exact id
  | some p=>exact λ⟨c,M,G⟩=>⟨c,M,U _ _ G⟩
 ·cases W
  have:∃q,(k,q)∈storedH xs k c r:=by
   unfold storedH;split
   ·rename_i hh
    obtain⟨z,B⟩:=Option.isSome_iff_exists.mp hh;exact⟨(z.1,r),List.mem_map.mpr ⟨(k,z),tW B,by unfold putAt;rw[if_pos rfl]⟩⟩
   ·exact⟨(c,r),zaV _ (List.mem_singleton.mpr rfl)⟩
  obtain⟨z,B⟩:=this;obtain⟨i,hi⟩:=List.mem_iff_getElem?.mp B;exact⟨z,atKey_of_get h5 hi⟩
end
end My
namespace P
open PySem PySem.Spec PyProof.Rows L2 My
def yG(C:Addr)(x:Str):D->Option D
 | .ob C' fs=>if C'=C then fs.lookup x else none
 | _=>none
def dW(C:Addr)(x:Str)(f:Ev):Ev:=λρ=>(f ρ).bind (yG C x)
theorem pU{A:Av}{H:Hp}{x:Str}:∀ {fs:List (Str×D)} {vs:List (Str×V)} {d:D},vs.map (·.1)=fs.map (·.1)->RepL A H (fs.map (·.2)) (vs.map (·.2))->fs.lookup x=some d->∃v,vs.lookup x=some v/\Rep A H d v
 | [],[],_,_,_,h=>nomatch h
 | [],_::_,_,e,_,_=>nomatch e
 | _::_,[],_,e,_,_=>nomatch e
 | (a,d0)::fs,(b,v0)::vs,d,e,r,h=>by
  injection e with z e2
  have z:b=a:=z;subst z;cases r with
  | cons r1 r2=>
   by_cases q:(x == b)=true
   ·rw[zbW,q]at h
    cases h;exact⟨v0,by rw[zbW,q],r1⟩
   ·rw[zbW,Bool.eq_false_iff.mpr q]at h
    obtain⟨v,F,B⟩:=pU e2 r2 h;exact⟨v,by rw[zbW,Bool.eq_false_iff.mpr q];exact F,B⟩
section
variable {X:Cx}{O:List Nat}
theorem kF{C:Addr}{e:Expr}{x:Str}{f:Ev}{pos:Pos}(c:Cls X.K C)(n:NoAttr X.K C x)(J:PB X O e f)(N:zaN e x X.env (eval e X.env)=eval e X.env:=by rfl):PD X O (.Attribute e x pos) (dW C x f):=
 PE.mono (jU J N) <| by
  rintro σ H Q ⟨H0,A0,A,E,ρ,d,st,e,q⟩;obtain⟨y,B,z⟩:=bind_some e;cases y with
  | ob C' fs=>
   unfold yG at z;dsimp only at z;split at z
   ·rename_i hC
    subst hC;refine⟨H0,A0,A,E,ρ,_,st,B,λv H1 G r1=>?_⟩;obtain⟨a,dx,vs,rfl,h,F,r⟩:=r1.ob_inv;obtain⟨v,M,U⟩:=pU F r z;exact⟨a,_,dx,vs,v,rfl,h,c,n,M,q v H1 G U⟩
   ·cases z
  | _=>cases z
end
def QL(ty td:TE):TE:=λσ H Q=>ty σ H λy H1=>td σ H1 λx H2=>∃a dom f p k,x=.ref a/\H2 a=some (.memo dom f p)/\j7 H2 k y/\Q (.bl true) (upd H2 a (.memo dom f none))/\Q (.bl false) (upd H2 a (.memo dom f (some k)))
def Y0(td ty tv:TE):TS:=λD σ H=>tv σ H λv H1=>td σ H1 λx H2=>ty σ H2 λy q=>∃a dom f p k,x=.ref a/\q a=some (.memo dom f p)/\j7 q k y/\k∈dom/\dom.length<zaj/\MemW q (f k) v/\D.nx σ (upd q a (.memo dom f (some k)))
def SV(td ty:TE):TE:=λσ H Q=>td σ H λx H1=>ty σ H1 λy H2=>∃a dom f k,x=.ref a/\H2 a=some (.memo dom f (some k))/\j7 H2 k y/\∀v,MemW H2 (f k) v->Q v (upd H2 a (.memo dom f none))
section
variable {X:Cx}{o i e value:Expr}{pos pos' tpos:Pos}{td ty tv:TE}
theorem HA(W:X.A.units+2<cLine)(hi:PE X i ty)(ho:PE X o td):PC X .NotIn i o (QL ty td):=by
 intro pins s σ H Q I h;refine cR (hi pins s σ H _ I h) λiv M ⟨y,H1,N,ry,Y⟩=>cR (ho pins M σ H1 _ N Y) λu s2 ⟨x,H2,B,G,a,dom,f,p,k,ex,g,U,J,F⟩=>?_
 subst ex;obtain rfl:u=zau a:=G;exact OW W B g U ry (λz q=>⟨.bl true,_,q,rfl,J⟩) λz q=>⟨.bl false,_,q,rfl,F⟩
theorem OK(F:X.A.units+2<cLine)(J:PE X o td)(hi:PE X i ty)(hv:PE X value tv)(hs:zaD value (some (.Subscript o i pos')) pos.line X.env=pure false) :
  PS X (.Assign [.Subscript o i pos'] value pos) (Y0 td ty tv):=by
 intro pins s σ H D I h;refine wpAny_Assign_Subscript (cR (hv pins s σ H _ I h) λr s1 ⟨v,H1,U,Y,W⟩=>cR (J pins s1 σ H1 _ U W) λu G ⟨x,H2,I2,rx,B⟩=>cR (hi pins G σ H2 _ I2 B) λiv s3 ⟨y,H3,I3,M,a,dom,f,p,k,ex,g,ky,z,kl,q,q3⟩=>?_) hs;subst ex;obtain rfl:u=zau a:=rx;exact G9 F I3 g ky z kl q M Y λs4 N=>⟨σ,_,N,q3⟩
theorem OS(hu:X.A.units+2<cLine)(ho:PE X o td)(hi:PE X i ty)(hs:IX i):PE X (.Subscript o i pos) (SV td ty):=by
 intro pins s σ H Q I h;refine ER PySem.F.slot_dict_getitem.lookup hs (cR (ho pins s σ H _ I h) λu W ⟨x,H1,U,M,q1⟩=>cR (hi pins W σ H1 _ U q1) λiv s2 ⟨y,H2,z,ry,a,dom,f,k,ex,g,Y,J⟩=>?_);subst ex;obtain rfl:u=zau a:=M;exact⟨T6 z g,IP hu z g Y ry λv w' B I3 q G=>⟨v,_,xE (p':=none) (t':=B.toks) I3 g (λ_ _ _ k N=>by cases N),q,J v G⟩⟩
end
noncomputable def intsOf:List D->Option (List Int)
 | []=>some []
 | .int i::l=>(intsOf l).map (i::·)
 | _=>none
def nkD:D->Option NK
 | .tup [.int i,.tup l]=>(intsOf l).map λns=>(.inl i,ns.map .inl)
 | _=>none
noncomputable def memD:Option (Int×Int)->D
 | none=>.non
 | some p=>.tup [.int p.1,.int p.2]
open Classical in
def S9(C:Addr)(nz kz tz:Nat)(f1 f2:Sv):Sv:=λρ=>(aD nz ρ).bind λnd=>(yG C "found" nd).bind λm=>match m with
 | .mem dom f=>(aD kz ρ).bind λkd=>(nkD kd).bind λk=>(f1 ρ).bind λo=>match o with
  | .nx ρ1=>(f2 ρ1).bind λo=>match o with
   | .nx ρ2=>(aD tz ρ2).bind λt=>if k∈dom/\dom.length<zaj/\t=memD (f k)/\ρ2[nz]?=ρ[nz]?/\ρ2[kz]?=ρ[kz]? then some (.rt t)else none
   | _=>none
  | _=>none
 | _=>none
theorem ints_rep{A:Av}{H:Hp}:∀ {l:List D} {vs:List V} {ns:List Int},intsOf l=some ns->RepL A H l vs->vs=(ns.map zbp:List Key).map kV
 | [],vs,ns,h,r=>by cases h;cases r;rfl
 | .int i::l,vs,ns,h,r=>by
  obtain⟨ms,e,rfl⟩:=map_some (show(intsOf l).map (i::·)=some ns from h);cases r with
  | cons r1 r2=>cases r1;rw[ints_rep e r2];rfl
theorem P6(h:nkD d=some k)(r:Rep A H d v):j7 H k v:=by
 unfold nkD at h;split at h
 ·rename_i i l
  obtain⟨ns,e,rfl⟩:=map_some h;cases r with
  | tup h1 r1=>
   cases r1 with
   | cons a1 r1=>
    cases a1;cases r1 with
    | cons a2 r1=>
     cases r1;cases a2 with
     | tup h2 r2=>exact⟨_,_,rfl,h1,by rw[h2,ints_rep e r2]⟩
 ·cases h
theorem QR{A:Av}{H:Hp}{r:Option (Int×Int)}{v:V}(h:Rep A H (memD r) v):MemW H r v:=by
 cases r with
 | none=>cases h;rfl
 | some p=>
  cases h with
  | tup h1 r1=>
   cases r1 with
   | cons a1 r1=>
    cases a1;cases r1 with
    | cons a2 r1=>cases a2;cases r1;exact⟨_,rfl,h1⟩
theorem Q4{A:Av}{H:Hp}{r:Option (Int×Int)}{v:V}(h:MemW H r v):Rep A H (memD r) v:=by
 cases r with
 | none=>cases(show v=.non from h);exact .non
 | some p=>obtain⟨b,rfl,e⟩:=h;exact .tup e (.cons (.int _) (.cons (.int _) .nil))
theorem M5{H:Hp}{a:Addr}{o:HO}(h:H a=some o):upd H a o=H:=by
 funext b;unfold upd;split
 ·rename_i q;rw[q,h]
 ·rfl
theorem V7{H:Hp}{a:Addr}{o o':HO}{k:NK}{v:V}(h:j7 H k v)(e:H a=some o)(n:∀xs,o≠.tup xs):j7 (upd H a o') k v:=by
 obtain⟨c,b,rfl,B,q⟩:=h;exact⟨c,b,rfl,by rw[aE (t5 B e (λz=>n _ z.symm))];exact B,by rw[aE (t5 q e (λz=>n _ z.symm))];exact q⟩
section
variable {X:Cx}{L:Lp}{O':List Nat}
theorem JN{C:Addr}(G J tz:Nat){Y n2 n3 k1 k2 k3 te:Expr}{M q:Stmt}{f1 f2:Sv}{p1 p2 p3 p4 p5 p6 p7 p8 p9:Pos}(c:Cls X.K C)(n:NoAttr X.K C "found")(hu:X.A.units+2<cLine)(h1:PSD X ⟨[],[]⟩ [] M f1 [])(h2:PSD X ⟨[],[]⟩ [] q f2 [])
  (a6:PE X Y (c7 G)) (a5:PE X n2 (c7 G)) (aq:PE X n3 (c7 G)) (az:PE X k1 (c7 J)) (ay:PE X k2 (c7 J)) (a2:PE X k3 (c7 J)) (ht:PE X te (c7 tz)) (hs:IX k3)
  (b1:zaN Y "found" X.env (eval Y X.env)=eval Y X.env:=by rfl) (b2:zaN n2 "found" X.env (eval n2 X.env)=eval n2 X.env:=by rfl) (b3:zaN n3 "found" X.env (eval n3 X.env)=eval n3 X.env:=by rfl)
  (hm:zbP .NotIn (.Attribute Y "found" p1)=false:=by rfl) (hw:zaD te (some (.Subscript (.Attribute n2 "found" p2) k2 p3)) p4.line X.env=pure false:=by rfl) :
  PSDs X L [] [.If (.Compare k1 [.NotIn] [.Attribute Y "found" p1] p5) [M,q,.Assign [.Subscript (.Attribute n2 "found" p2) k2 p3] te p4] [] p6,.Return (some (.Subscript (.Attribute n3 "found" p7) k3 p8)) p9] (S9 C G J tz f1 f2) O':=
 PSs.mono (dC (TJ (VV (HA hu az (jU a6 b1)) hm) (dC h1 (dC h2 (gI (OK hu (jU a5 b2) ay ht hw)))) D9) (gI (DH (OS hu (jU aq b3) a2 hs)))) <| by
  rintro T σ H ⟨H0,A0,A,E,ρ,out,st,e,ae⟩;obtain⟨nd,en,e⟩:=bind_some e;obtain⟨m,em,e⟩:=bind_some e;cases m with
  | mem dom f=>
   obtain⟨kd,ek,e⟩:=bind_some e;obtain⟨k,kk,e⟩:=bind_some e;obtain⟨o1,al,e⟩:=bind_some e;cases o1 with
   | nx ρ1=>
    obtain⟨o2,a0,e⟩:=bind_some e;cases o2 with
    | nx ρ2=>
     obtain⟨t,et,e⟩:=bind_some e;split at e
     ·rename_i hh
      obtain⟨hd,hl,tm,r1,r2⟩:=hh;cases e;subst tm;cases nd with
      | ob C' fs=>
       unfold yG at em;dsimp only at em;split at em
       ·rename_i hC
        subst hC
        -- what is true wherever the node and the key stand
        have U:∀ {A:Av} {σ:L2.St} {H:Hp} {ρ':cU},ST H0 A0 A E [] σ H ρ'->ρ'[G]?=ρ[G]?->ρ'[J]?=ρ[J]?->∃a dx vs B F,σ[G]?=some (some (.ref a))/\σ[J]?=some (some F)/\H a=some (.ins C' dx vs)/\vs.lookup ("found" : Str)=some (V.ref B)/\H B=some (.memo dom f none)/\j7 H k F:=λ{A σ H ρ'} st q1 q2=>by
         obtain⟨v,ev,rv⟩:=st.val G _ (q1.trans (bW en)) (λz=>nomatch z);obtain⟨F,aw,rk⟩:=st.val J _ (q2.trans (bW ek)) (λz=>nomatch z);obtain⟨a,dx,vs,rfl,h,am,r⟩:=RepB.ob_inv (.of rv);obtain⟨w,hw,a1⟩:=pU am r em;obtain⟨B,rfl,as⟩:=RepB.mem_inv (.of a1);exact⟨a,dx,vs,B,F,ev,aw,h,hw,as,P6 kk rk⟩
        have N:∀ {A:Av} {σ:L2.St} {H:Hp} {ρ':cU},ST H0 A0 A E [] σ H ρ'->∀ {a dx:Addr} {vs:List (Str×V)} {B:Addr} {F:V},σ[G]?=some (some (.ref a))->σ[J]?=some (some F)->H a=some (.ins C' dx vs)->vs.lookup ("found" : Str)=some (V.ref B)->H B=some (.memo dom f none)->j7 H k F->qj (SV (qk X.K (c7 G) "found") (c7 J)) T σ (upd H B (.memo dom f (some k))):=λ{A σ H ρ'} st {a dx vs B F} e1 e2 e3 e4 W e6=>by
         refine⟨_,e1,a,C',dx,vs,_,rfl,by rw[aE (t5 e3 W (λz=>nomatch z))];exact e3,c,n,e4,F,e2,B,dom,f,k,rfl,aH,V7 e6 W (λ_ z=>nomatch z),λv mw=>?_⟩;rw[PY,M5 W];have a3:MemW H (f k) v:=by
          revert mw;cases f k with
          | none=>exact id
          | some p=>exact λ⟨b,q1,q2⟩=>⟨b,q1,by
            by_cases z:b=B
            ·subst z;rw[aH]at q2;cases q2
            ·rw[aE z]at q2;exact q2⟩
         exact ae v H st.ex (Q4 a3)
        obtain⟨a,dx,vs,B,F,e1,e2,e3,e4,W,e6⟩:=U st rfl rfl;refine⟨F,e2,_,e1,a,C',dx,vs,_,rfl,e3,c,n,e4,B,dom,f,none,k,rfl,W,e6,⟨true,rfl,?_⟩,⟨false,rfl,?_⟩⟩
        ·rw[M5 W]
         dsimp only;rw[if_pos rfl];refine⟨H0,A0,A,E,ρ,_,st,al,λA1 b5 H1 M=>⟨H0,A0,A1,E,ρ1,_,M,a0,λA2 bi H2 q=>?_⟩⟩;obtain⟨tv,a4,rt⟩:=q.val tz _ (bW et) (λz=>nomatch z);obtain⟨a',ax,ap,ao,ak,g1,g2,g3,g4,g5,g6⟩:=U q r1 r2;exact⟨tv,a4,_,g1,a',C',ax,ap,_,rfl,g3,c,n,g4,ak,g2,ao,dom,f,none,k,rfl,g5,g6,hd,hl,QR rt,N q g1 g2 g3 g4 g5 g6⟩
        ·dsimp only
         rw[if_neg zaA];exact N st e1 e2 e3 e4 W e6
       ·cases em
      | _=>cases em
     ·cases e
    | _=>exact nn e
   | _=>exact nn e
  | _=>exact nn e
end
structure Exx(x:Addr)(A:Av)(H H':Hp):Prop where
 rd:∀b u,b≠x->Rd H b u->Rd H' b u
 kp:∀b u,b≠x->Kp u->H b=some u->H' b=some u
 ow:∀b u,b≠x->A b->H b=some u->H' b=some u
 fz:∀b o u,b≠x->H b=some (.frz o u)->H' b=some (.frz o u)
section
variable {x:Addr}{A A':Av}{H H' H2:Hp}
theorem Exx.trans(a:Exx x A H H')(b:Exx x A H' H2):Exx x A H H2:=
 ⟨λc u n h=>b.rd c u n (a.rd c u n h),λc u n k h=>b.kp c u n k (a.kp c u n k h),λc u n k h=>b.ow c u n k (a.ow c u n k h),λc o u n h=>b.fz c o u n (a.fz c o u n h)⟩
theorem Exx.of(a:Ext A H H'):Exx x A H H':=⟨λc u _ h=>a.rd c u h,λc u _ k h=>a.kp c u k h,λc u _ k h=>a.ow c u k h,λc o u _ h=>a.fz c o u h⟩
theorem Exx.put{o:HO}:Exx x A H (upd H x o):=⟨λb u n h=>eV n h,λb u n _ h=>by rw[aE n];exact h,λb u n _ h=>by rw[aE n];exact h,λb o u n h=>by rw[aE n];exact h⟩
theorem Exx.ext(a:Exx x A H H')(n:H x=none):Ext A H H':=
 have q:∀b,H b≠none->b≠x:=λb B z=>B (by rw[z];exact n)
 ⟨λb u r => a.rd b u (q b (by rcases r with r|⟨_, r⟩ <;> (rw[r];exact λz => nomatch z))) r, λb u k r => a.kp b u (q b (by rw[r];exact λz => nomatch z)) k r,
  λb u k r=>a.ow b u (q b (by rw[r];exact λz=>nomatch z)) k r,λb o u r=>a.fz b o u (q b (by rw[r];exact λz=>nomatch z)) r⟩
theorem Exx.mono(a:Exx x A H H')(s:∀b,A' b->A b):Exx x A' H H':=⟨a.rd,a.kp,λb u n k h=>a.ow b u n (s b k) h,a.fz⟩
mutual
/-- an object that is under way is written -/
theorem Rep.putI{a C dx:Addr}{fs:List (Str×V)}{o:HO}(q:A a)(B:H a=some (.ins C dx fs)){d:D}{v:V}:Rep A H d v->Rep A (upd H a o) d v
 | .non=>.non
 | .bl b=>.bl b
 | .int i=>.int i
 | .str s=>.str s
 | .tup (a:=b) h r=>.tup (by rw[aE (λz=>by subst z;rw[B]at h;cases h)];exact h) (RepL.putI q B r)
 | .lst (a:=b) n h r=>.lst n (eV (λz=>n (by rw[z];exact q)) h) (RepL.putI q B r)
 | .dK (a:=b) n h e r=>.dK n (eV (λz=>n (by rw[z];exact q)) h) e (RepL.putI q B r)
 | .dT (a:=b) n h e r=>.dT n (eV (λz=>n (by rw[z];exact q)) h) e (RepL.putI q B r)
 | .ob (a:=b) n h e r=>.ob n (by rw[aE (λz=>n (by rw[z];exact q))];exact h) e (RepL.putI q B r)
 | .mem (a:=b) h=>.mem (by rw[aE (λz=>by subst z;rw[B]at h;cases h)];exact h)
theorem RepL.putI{a C dx:Addr}{fs:List (Str×V)}{o:HO}(z:A a)(q:H a=some (.ins C dx fs)){ds:List D}{vs:List V}:RepL A H ds vs->RepL A (upd H a o) ds vs
 | .nil=>.nil
 | .cons h t=>.cons (Rep.putI z q h) (RepL.putI z q t)
end
end
structure IO(K:zae)(H0:Hp)(A:Av)(x C dx:Addr)(ds:List (Str×D))(σ:L2.St)(H:Hp)(ρ:cU):Prop where
 cls:Cls K C
 ax:A x
 live:Live A H
 hx:∃fs:List (Str×V),H x=some (.ins C dx fs)/\fs.map (·.1)=ds.map (·.1)/\RepL A H (ds.map (·.2)) (fs.map (·.2))
 s0:σ[0]?=some (some (.ref x))
 len:σ.length=ρ.length
 val:∀(i:Nat) (d:D),ρ[i]?=some (some d)->∃v,σ[i]?=some (some v)/\Rep A H d v
 ke:Exx x A H0 H
section
variable {K:zae}{H0:Hp}{A:Av}{x C dx:Addr}{ds:List (Str×D)}{σ:L2.St}{H H':Hp}{ρ:cU}
theorem IO.st(s:IO K H0 A x C dx ds σ H ρ):ST H A A [] [] σ H ρ:=
 ⟨Ext.refl _ _,λ_ z=>z,s.live,s.live,s.len,λi d h _=>s.val i d h,(λj d _ h=>nomatch h),(λj k d d' a h=>nomatch h),(λq B=>nomatch B)⟩
theorem IO.ext(s:IO K H0 A x C dx ds σ H ρ)(e:Ext A H H'):IO K H0 A x C dx ds σ H' ρ:=
 ⟨s.cls,s.ax,(s.st.mono e).live,by obtain⟨fs,h,m,r⟩:=s.hx;exact⟨fs,e.ow _ _ s.ax h,m,r.ext e⟩,s.s0,s.len,λi d h=>(s.st.mono e).val i d h (λz=>nomatch z),s.ke.trans (.of e)⟩
theorem sJ{f:Str}{v:V}:∀ {fs:List (Str×V)},f∉fs.map (·.1)->iZ f v fs=fs++[(f,v)]
 | [],_=>rfl
 | (g,y)::fs,h=>by
  have h1:¬ g=f:=λz=>h (by rw[zak,z];exact zas ..)
  have h2:f∉fs.map (·.1):=λz=>h (zaq _ z)
  rw[iZ,if_neg h1,sJ h2];rfl
theorem RepL.snoc{A:Av}{H:Hp}{ds:List D}{vs:List V}{d:D}{v:V}(r:RepL A H ds vs)(h:Rep A H d v):RepL A H (ds++[d]) (vs++[v]):=r.append (.cons h .nil)
theorem IO.put(s:IO K H0 A x C dx ds σ H ρ){f:Str}{d:D}{v:V}(B:f∉ds.map (·.1))(r:Rep A H d v):∃fs,H x=some (.ins C dx fs)/\fs.length=ds.length/\IO K H0 A x C dx (ds++[(f,d)]) σ (upd H x (.ins C dx (iZ f v fs))) ρ:=by
 obtain⟨fs,h,m,G⟩:=s.hx;refine⟨fs,h,by have:=congrArg zbm m;simpa using this,s.cls,s.ax,λa F z=>?_,⟨_,aH,?_,?_⟩,s.s0,s.len,λi d h'=>?_,s.ke.trans .put⟩
 ·by_cases q:a=x
  ·subst q;rw[aH]at z;cases z
  ·rw[aE q]at z;exact s.live a F z
 ·rw[sJ (by rw[m];exact B),zaP,zaP,m];rfl
 ·rw[sJ (by rw[m];exact B),zaP,zaP]
  exact RepL.putI s.ax h (G.snoc r)
 ·obtain⟨v,e,q⟩:=s.val i d h'
  exact⟨v,e,q.putI s.ax h⟩
end
inductive tIO(K:zae)(f:Str)(fe:Ev)(T:Ends)(σ:L2.St)(H:Hp):Prop
 | mk (H0:Hp) (A:Av) (x C dx:Addr) (ds:List (Str×D)) (ρ:cU) (d:D) (st:IO K H0 A x C dx ds σ H ρ) (e:fe ρ=some d) (nf:NoAttr K C f) (lf:ds.length<1000) (hf:f∉ds.map (·.1))
  (n:∀H',IO K H0 A x C dx (ds++[(f,d)]) σ H' ρ->T.nx σ H'):tIO K f fe T σ H
inductive tIC(K:zae)(f h:Str)(F:List D->Option D)(fe:Ev)(T:Ends)(σ:L2.St)(H:Hp):Prop
 | mk (H0:Hp) (A:Av) (x C dx:Addr) (ds:List (Str×D)) (ρ:cU) (d1 d2 d:D) (st:IO K H0 A x C dx ds σ H ρ) (e1:fe ρ=some d1) (e2:ds.lookup h=some d2) (e:F [d1,d2]=some d) (nf:NoAttr K C f) (nh:NoAttr K C h) (lf:ds.length<1000) (hf:f∉ds.map (·.1))
  (n:∀H',IO K H0 A x C dx (ds++[(f,d)]) σ H' ρ->T.nx σ H'):tIC K f h F fe T σ H
inductive tIM(K:zae)(f:Str)(dom:List NK)(g:Mf)(T:Ends)(σ:L2.St)(H:Hp):Prop
 | mk (H0:Hp) (A:Av) (x C dx:Addr) (ds:List (Str×D)) (ρ:cU) (st:IO K H0 A x C dx ds σ H ρ) (nf:NoAttr K C f) (lf:ds.length<1000) (hf:f∉ds.map (·.1))
  (n:∀H',IO K H0 A x C dx (ds++[(f,.mem dom g)]) σ H' ρ->T.nx σ H'):tIM K f dom g T σ H
def ZP(dom:List NK)(g:Mf):TE:=λ_ H Q=>∀p,H p=none->Q (.ref p) (upd H p (.memo dom g none))
section
variable {X:Cx}
theorem PR{dom:List NK}{g:Mf}{pos:Pos}:PE X (.Dict [] [] pos) (ZP dom g):=λpins s σ H Q I h=>
 wpAny_Dict_empty ⟨.ref s.heap.objs.size,_,I.laid (a:=s.heap.objs.size) (o:=.memo dom g none) (t':=s.toks) (λ_ _ q=>zan _ q) (zai _)
  ⟨beq_eq_false_iff_ne.mpr (zaU (zaF I.big)),[],(λ_ z=>nomatch z),(λ_ z=>nomatch z),_,#[],0,zaE _ rfl,⟨rfl,rfl,rfl⟩,rfl,rfl,List.nodup_nil⟩,rfl,h _ (I.hok.fresh (zai _))⟩
theorem C0{o e:Expr}{f:Str}{fe:Ev}{pos pos':Pos}(G:PE X o (c7 0))(B:PD X [] e fe)(hs:zaD e (some (.Attribute o f pos')) pos.line X.env=pure false:=by rfl):PS X (.Assign [.Attribute o f pos'] e pos) (tIO X.K f fe):=
 PS.mono (tN G B hs) λT σ H ⟨H0,A,x,C,dx,ds,ρ,d,st,e,nf,J,z,n⟩=>
  ⟨H, A, A, [], ρ, d, st.st, e, λv H1 q r1 => by
   obtain⟨fs,h,M,F⟩:=(st.ext q).put z r1;exact⟨_,st.s0,x,C,dx,fs,rfl,h,st.cls,nf,by lia,n _ F⟩⟩
theorem P0{o:Expr}{f:Str}{dom:List NK}{g:Mf}{pos pos' p:Pos}(G:PE X o (c7 0))(hs:zaD (.Dict [] [] p) (some (.Attribute o f pos')) pos.line X.env=pure false:=by rfl):PS X (.Assign [.Attribute o f pos'] (.Dict [] [] p) pos) (tIM X.K f dom g):=
 PS.mono (tN G (PR (dom:=dom) (g:=g)) hs) <| by
  rintro T σ H ⟨H0,A,x,C,dx,ds,ρ,st,nf,J,B,n⟩ q z;obtain⟨fs,h,M,F⟩:=(st.ext (Ext.new (o:=.memo dom g none) z)).put B (.mem (aH (H:=H) (a:=q)));exact⟨_,st.s0,x,C,dx,fs,rfl,h,st.cls,nf,by lia,n _ F⟩
theorem PZ{o o2 e:Expr}{f h g:Str}{k:Nat}{ps:List Str}{F:List D->Option D}{fe:Ev}{pos pos' p p2 cpos:Pos}(FF:Fn X.prog X.w X.K X.mg X.base g k ps F)(Y:ps.length=2)(hr:Room k X.A)(hg:Gl X g)(ho:PE X o (c7 0))(J:PE X o2 (c7 0))(he:PD X [] e fe)
  (hb:zaN o2 h X.env (eval o2 X.env)=eval o2 X.env:=by rfl) (B:(g == ("__debug__" : Str))=false:=by decide) (h1:zag [e,.Attribute o2 h p2] X.env=(false,eval e X.env)::zag [.Attribute o2 h p2] X.env:=by rfl) (h2:(zaG cpos (zag [.Attribute o2 h p2] X.env)).any (·.1)=false:=by rfl) (h3:zag [.Attribute o2 h p2] X.env=(false,eval (.Attribute o2 h p2) X.env)::zag [] X.env:=by rfl)
  (hs:zaD (.Call (.Name g p) [e,.Attribute o2 h p2] [] cpos) (some (.Attribute o f pos')) pos.line X.env=pure false:=by rfl):PS X (.Assign [.Attribute o f pos'] (.Call (.Name g p) [e,.Attribute o2 h p2] [] cpos) pos) (tIC X.K f h F fe):=by
 obtain⟨fa,fd,hk,G,hm,FO⟩:=My.Ok.ex FF;refine PS.mono (tN ho (xK FO hr hg hm hk G .nil GH (cV he (cV (jU J hb) fO h3) h1) B h1 h2) hs) λT σ H ⟨H0,A,x,C,dx,ds,ρ,N,d2,d,st,e1,W,e,nf,nh,lf,hf,n⟩=>?_
 refine⟨H,A,A,[],ρ,N,st.st,e1,λv H1 x1 r1=>?_⟩;have q:=st.ext x1;obtain⟨fs,hx,m,U⟩:=q.hx;obtain⟨v2,M,z⟩:=pU m U W;refine⟨_,q.s0,x,C,dx,fs,v2,rfl,hx,q.cls,nh,M,?_⟩;refine⟨A,[N,d2],d,q.live,.cons r1 (.cons z .nil),Y.symm,e,λv3 H3 x3 r3=>?_⟩;obtain⟨fs',h',hl,s2⟩:=(q.ext x3).put hf r3;exact⟨_,q.s0,x,C,dx,fs',rfl,h',q.cls,nf,by lia,n _ s2⟩
end
def XU(C:Addr)(G:D->D->Option D):Sp:=λvs H Q _=>∃(A:Av) (H1:Hp) (x dx:Addr) (v:V) (b d0 d:D),vs=[.ref x,v]/\H=upd (upd H1 dx (.own x)) x (.ins C dx [])/\H1 x=none/\H1 dx=none/\dx≠x/\Live A H1/\Rep A H1 d0 v/\G b d0=some d/\∀H2,Ext A H1 H2->Rep A H2 d (.ref x)->Q .non H2
structure MkO(P:zah)(w:World)(K:zae)(mg:Str->Option Value)(base:Heap)(k:Nat)(x:Str)(C:Addr)(p:Str)(G:D->D->Option D):Prop where
 ex:∃f fd,mg x=some (.ref C)/\Mk K C f/\Binds K fd ["self",p] []/\FnOk P w K mg base uF k f fd ["self",p] (XU C G)
def eNew(G:D->D->Option D)(β f:Ev):Ev:=λρ=>(β ρ).bind λb=>(f ρ).bind (G b)
section
variable {X:Cx}{O:List Nat}
theorem lD{k:Nat}{x p:Str}{C:Addr}{G:D->D->Option D}{β:Ev}{e:Expr}{fe:Ev}{N pos:Pos}(M:MkO X.prog X.w X.K X.mg X.base k x C p G)(hr:Room (k+1) X.A)(U:Gl X x)(he:PD X O e fe)(z:(x == ("__debug__" : Str))=false:=by decide)
  (h1:zag [e] X.env=(false,eval e X.env)::zag [] X.env:=by rfl) (h2:(zaG pos (zag [] X.env)).any (·.1)=false:=by rfl):PD X O (.Call (.Name x N) [e] [] pos) (eNew G β fe):=by
 obtain⟨f,fd,W,mk,hb,FO⟩:=M.ex;refine PE.mono (N8 mk FO hr U W hb .nil GH (cV he fO h1) z h1 h2) λσ H Q ⟨H0,A0,A,E,ρ,d,st,e,q⟩=>?_
 obtain⟨b,eb,e⟩:=bind_some e;obtain⟨B,J,e1⟩:=bind_some e;refine⟨H0,A0,A,E,ρ,B,st,J,λv H1 F r1=>λxa dx Y n2 ne=>?_⟩;exact⟨A,H1,xa,dx,v,b,B,d,rfl,rfl,Y,n2,ne,(st.mono F).live,r1,e1,λH2 x2 r2=>⟨rfl,q _ H2 (F.trans x2) r2⟩⟩
end
structure ObT(K:zae)(mg:Str->Option Value)(x q p:Str)(st:Stmt)(C:Addr)(fs:List Str):Prop where
 cls:Cls K C
 na:∀a∈fs,NoAttr K C a
 ex:∃f fd,mg x=some (.ref C)/\Mk K C f/\Binds K fd ["self",p] []/\Fun K "__init__" q st f fd
section
variable {P:zah}{w:World}{K:zae}{mg:Str->Option Value}{base:Heap}
theorem ObT.mko{x q p:Str}{st:Stmt}{C:Addr}{fs N:List Str}{k:Nat}{G:D->D->Option D}(T:ObT K mg x q p st C fs)(S:FnScope N ["self",p] (aK st))
  (h:∀(fa:Addr) (B:Value) (A:zao) (z:List Env) (s:zad) (H:Hp) (E:XK),Room k (A.deeper (zaJ q (aK st) s.heap.objs.size fa B))->∀(vs:List V) (Q:VK),XU C G vs H Q E->∃t,PSs (g9 uF P w K mg base N q (aK st) fa B A z s H E).nox (bM st) t/\t {nx:=λ_ H'=>Q .non H',rt:=Q} (start N vs) H) :
  MkO P w K mg base (k+1) x C p G:=by
 obtain⟨f,fd,J,M,W,F⟩:=T.ex;exact⟨f,fd,J,M,W,F.ok S (λvs H Q E hsp=>by obtain⟨_,_,_,_,_,_,_,_,rfl,_⟩:=hsp;rfl) λB A z s H vs Q E U hsp=>h f B A z s H E U vs Q hsp⟩
end
theorem IO.begun{K:zae}{C x dx:Addr}{A:Av}{H1:Hp}{v:V}{G:D}(cls:Cls K C)(J:H1 x=none)(M:H1 dx=none)(ne:dx≠x)(Y:Live A H1)(r:Rep A H1 G v)(m:List (Option V))(hm:∀o∈m,o=none):IO K H1 (λb=>A b\/b=x) x C dx [] (some (.ref x)::some v::m) (upd (upd H1 dx (.own x)) x (.ins C dx [])) (none::some G::m.map λ_=>none):=by
 have nx:upd H1 dx (.own x) x=none:=by rw[aE ne.symm];exact J
 have N:Ext (λb=>A b\/b=x) H1 (upd (upd H1 dx (.own x)) x (.ins C dx [])):=(Ext.new M).trans (Ext.new nx);have W:Rep (λb=>A b\/b=x) (upd (upd H1 dx (.own x)) x (.ins C dx [])) G v:=(r.av (A':=λb=>A b\/b=x) λa B=>B.imp id λz=>by rw[z];exact J).ext N;refine⟨cls,.inr rfl,λa B z=>?_,⟨[],aH,rfl,.nil⟩,rfl,by simp,λi d h=>?_,.of N⟩
 ·rcases B with B|rfl
  ·have F:=Y a B
   have a1:a≠x:=λq=>F (by rw[q];exact J)
   have U:a≠dx:=λq=>F (by rw[q];exact M)
   rw[aE a1,aE U]at z;exact F z
  ·rw[aH]at z;cases z
 ·match i,h with
  | 1,h=>cases h;exact⟨v,rfl,W⟩
  | i+2,h=>
   have:(m.map λ_=>(none:Option D))[i]?=some (some d):=h;rw[zaB]at this;obtain⟨_,_,q⟩:=Option.map_eq_some_iff.mp this;cases q
theorem IO.done{K:zae}{C x dx:Addr}{A:Av}{H1 H2:Hp}{ds:List (Str×D)}{σ:L2.St}{ρ:cU}(s:IO K H1 (λb=>A b\/b=x) x C dx ds σ H2 ρ)(B:H1 x=none)(F:Live A H1):Ext A H1 H2/\Rep A H2 (.ob C ds) (.ref x):=by
 refine⟨(s.ke.ext B).mono λa q=>.inl q,?_⟩;obtain⟨fs,h,m,r⟩:=s.hx;exact .ob (λz=>F x z B) h m (r.av λa q=>.inl (.inl q))
def GM(C:Addr)(fb:Ev)(z:List D->Option D)(B:D->List NK)(ff:D->Mf)(q:D):Option D:=(fb [none,some q]).bind λb=>(z [q,b]).bind λns=>some (.ob C [("part",q),("below",b),("names",ns),("found",.mem (B q) (ff q))])
section
variable {X:Cx}
theorem G7{C:Addr}{k:Nat}{gp:List Str}{o1 o2 o3 F Y e1 e2 N:Expr}{g:Str}{fb:D->Ev}{Nm:List D->Option D}{dm:D->D->List NK}{ff:D->D->Mf}{a1 a2 a3 a4 p1 p2 p3 p4 q2 G W d4:Pos}(cls:Cls X.K C)(J:∀a∈(["part", "below", "names", "found"]:List Str),NoAttr X.K C a)(FF:Fn X.prog X.w X.K X.mg X.base g k gp Nm)(hp:gp.length=2)(hr:Room k X.A)(hg:Gl X g)
  (ab:PE X o1 (c7 0)) (aj:PE X o2 (c7 0)) (ae:PE X o3 (c7 0)) (ac:PE X F (c7 0)) (ai:PE X Y (c7 0)) (U:PD X [] e1 (aD 1)) (ak:∀b,PD X [] e2 (fb b)) (af:PD X [] N (aD 1))
  (hb:zaN F "below" X.env (eval F X.env)=eval F X.env:=by rfl) (ad:(g == ("__debug__" : Str))=false:=by decide) (h1:zag [N,.Attribute F "below" G] X.env=(false,eval N X.env)::zag [.Attribute F "below" G] X.env:=by rfl) (h2:(zaG W (zag [.Attribute F "below" G] X.env)).any (·.1)=false:=by rfl) (h3:zag [.Attribute F "below" G] X.env=(false,eval (.Attribute F "below" G) X.env)::zag [] X.env:=by rfl)
  (s1:zaD e1 (some (.Attribute o1 "part" a1)) p1.line X.env=pure false:=by rfl) (s2:zaD e2 (some (.Attribute o2 "below" a2)) p2.line X.env=pure false:=by rfl) (s3:zaD (.Call (.Name g q2) [N,.Attribute F "below" G] [] W) (some (.Attribute o3 "names" a3)) p3.line X.env=pure false:=by rfl) (s4:zaD (.Dict [] [] d4) (some (.Attribute Y "found" a4)) p4.line X.env=pure false:=by rfl)
  {vs:List V} {H:Hp} {Q:VK} {E:XK} (hsp:XU C (λb=>GM C (fb b) Nm (dm b) (ff b)) vs H Q E) {R:VK}:∃t,PSs X [.Assign [.Attribute o1 "part" a1] e1 p1,.Assign [.Attribute o2 "below" a2] e2 p2,.Assign [.Attribute o3 "names" a3] (.Call (.Name g q2) [N,.Attribute F "below" G] [] W) p3,.Assign [.Attribute Y "found" a4] (.Dict [] [] d4) p4] t/\t {nx:=λ_ H'=>Q .non H',rt:=R} (vs.map some) H:=by
 obtain⟨A,H1,x,dx,v,bb,B,d,rfl,rfl,n1,n2,ne,lv,rp,M,q⟩:=hsp;obtain⟨b,eb,M⟩:=bind_some M;obtain⟨ns,en,M⟩:=bind_some M;cases M;refine⟨_,dC (C0 ab U s1) (dC (C0 aj (ak bb) s2) (dC (PZ FF hp hr hg ae ac af hb ad h1 h2 h3 s3) (gI (P0 (dom:=dm bb B) (g:=ff bb B) ai s4)))),?_⟩;have I0:=IO.begun cls n1 n2 ne lv rp [] (λ_ z=>nomatch z);refine⟨H1,_,x,C,dx,[],_,B,I0,rfl,J _ (by simp),by simp,by simp,λH2 I2=>?_⟩;refine⟨H1,_,x,C,dx,_,_,b,I2,eb,J _ (by simp),by simp,(show("below" : Str)∉(["part"]:List Str) by decide),λH3 I3=>?_⟩;refine⟨H1,_,x,C,dx,_,_,B,b,ns,I3,rfl,rfl,en,J _ (by simp),J _ (by simp),by simp,(show("names" : Str)∉(["part", "below"]:List Str) by decide),λH4 I4=>?_⟩;refine⟨H1,_,x,C,dx,_,_,I4,J _ (by simp),by simp,(show("found" : Str)∉(["part", "below", "names"]:List Str) by decide),λH5 I5=>?_⟩;obtain⟨x5,r5⟩:=I5.done n1 lv;exact q H5 x5 r5
end
noncomputable def kP{α:Type}(f:D->α->Option α):List D->α->Option α
 | [],a=>some a
 | x::l,a=>(f x a).bind (kP f l)
abbrev LT:=List (List Key×D)
theorem jR{A:Av}{Hs H1:Hp}{r:Addr}(e:Ext A Hs H1)(n:H1 r=none)(H:Hp)(o:HO)(x:Ext A Hs H):Ext A Hs (upd H r o) where
 rd:=λb u h=>by
  by_cases q:b=r
  ·subst q;rcases e.rd _ _ h with z|⟨_,z⟩ <;> (rw[n]at z;cases z)
  ·exact eV q (x.rd _ _ h)
 kp:=λb u k h=>by
  by_cases q:b=r
  ·subst q;have z:=e.kp _ _ k h;rw[n]at z;cases z
  ·rw[aE q];exact x.kp _ _ k h
 ow:=λb u k h=>by
  by_cases q:b=r
  ·subst q;have z:=e.ow _ _ k h;rw[n]at z;cases z
  ·rw[aE q];exact x.ow _ _ k h
 fz:=λb o u h=>by
  by_cases q:b=r
  ·subst q;have z:=e.fz _ _ _ h;rw[n]at z;cases z
  ·rw[aE q];exact x.fz _ _ _ h
structure IA(K:zae)(Hs:Hp)(A0 A:Av)(x C dx r s:Addr)(bk:D)(E:List Fact)(p:LT×LT)(σ:L2.St)(H:Hp)(ρ:cU):Prop where
 cls:Cls K C
 nr:NoAttr K C "routes"
 ns:NoAttr K C "spans"
 av:∀b,A b->A0 b\/b=x\/b=r\/b=s
 a0:∀b,A0 b->A b
 ax:A x
 ar:A r
 at':A s
 ne:r≠s
 fr:∀H o,Ext A0 Hs H->Ext A0 Hs (upd H r o)
 fs:∀H o,Ext A0 Hs H->Ext A0 Hs (upd H s o)
 live:Live A H
 hx:∃vb,H x=some (.ins C dx [("book",vb),("routes",.ref r),("spans",.ref s)])/\Rep A H bk vb
 o1:Own A H (.dT p.1) r
 o2:Own A H (.dT p.2) s
 s0:σ[0]?=some (some (.ref x))
 len:σ.length=ρ.length
 val:∀(i:Nat) (d:D),ρ[i]?=some (some d)->∃v,σ[i]?=some (some v)/\Rep A H d v
 fx:∀q∈E,q.Holds A H
 ke:Ext A0 Hs H
section
variable {K:zae}{Hs:Hp}{A0 A:Av}{x C dx r s:Addr}{bk:D}{E:List Fact}{p:LT×LT}{σ:L2.St}{H H':Hp}{ρ:cU}
theorem IA.st(t:IA K Hs A0 A x C dx r s bk E p σ H ρ):ST H A A E [] σ H ρ:=
 ⟨Ext.refl _ _,λ_ z=>z,t.live,t.live,t.len,λi d h _=>t.val i d h,(λj d _ h=>nomatch h),(λj k d d' a h=>nomatch h),t.fx⟩
theorem IA.ext(t:IA K Hs A0 A x C dx r s bk E p σ H ρ)(e:Ext A H H'):IA K Hs A0 A x C dx r s bk E p σ H' ρ:=
 {t with live:=(t.st.mono e).live,hx:=by obtain⟨B,h,q⟩:=t.hx;exact⟨B,e.ow _ _ t.ax h,q.ext e⟩,o1:=t.o1.ext e t.ar,o2:=t.o2.ext e t.at',val:=λi d h=>(t.st.mono e).val i d h (λz=>nomatch z),fx:=(t.st.mono e).ext,ke:=t.ke.trans (e.mono t.a0)}
theorem IA.more(t:IA K Hs A0 A x C dx r s bk E p σ H ρ){z:List Fact}(h:∀q∈z,q.Holds A H):IA K Hs A0 A x C dx r s bk (z++E) p σ H ρ:=
 {t with fx:=λq B=>(List.mem_append.mp B).elim (h q) (t.fx q)}
theorem IA.less(t:IA K Hs A0 A x C dx r s bk E p σ H ρ){z:List Fact}(h:∀q∈z,q∈E):IA K Hs A0 A x C dx r s bk z p σ H ρ:=
 {t with fx:=λq B=>t.fx q (h q B)}
theorem IA.set(t:IA K Hs A0 A x C dx r s bk E p σ H ρ){i:Nat}{d:D}{v:V}(h:Rep A H d v)(n:i≠0):IA K Hs A0 A x C dx r s bk E p (σ.set i (some v)) H (ρ.set i (some d)):=
 {t with
  s0:=by rw[zbO n];exact t.s0
  len:=by rw[zcS,zcS];exact t.len
  val:=λj e h'=>by
   rcases eT h' with⟨rfl,q,l⟩|⟨z,q⟩
   ·cases q
    exact⟨v,by rw[zcy (by rw[t.len];exact l)],h⟩
   ·rw[zbO z.symm];exact t.val j e q}
theorem AF{a:Addr}{o:HO}(B:Live A H):Live A (upd H a o):=λb F z=>by
 by_cases q:b=a
 ·subst q;rw[aH]at z;cases z
 ·rw[aE q]at z;exact B b F z
theorem IA.put1(t:IA K Hs A0 A x C dx r s bk E p σ H ρ):∃xs,H r=some (.dT xs)/\xs.length=p.1.length/\∀B w v,Rep A H w v->IA K Hs A0 A x C dx r s bk E (putD p.1 B w,p.2) σ (upd H r (.dT (putK xs B v))) ρ:=by
 cases t.o1 with
 | @dT _ _ xs h e rl=>
  refine⟨xs,h,by have:=congrArg zbm e;simpa using this,λB w v F=>?_⟩;obtain⟨G,N⟩:=vZ (tQ B F (tX e rl));obtain⟨M,hx,U⟩:=t.hx;exact {t with
   live:=AF t.live
   hx:=⟨M,by rw[aE (λz=>by rw[z,h]at hx;cases hx)];exact hx,U.put t.ar h trivial⟩
   o1:=.dT aH G (N.put t.ar h trivial)
   o2:=t.o2.put t.ar h trivial t.ne.symm
   val:=λi d hi=>by obtain⟨v,W,q⟩:=t.val i d hi;exact⟨v,W,q.put t.ar h trivial⟩
   fx:=λq J=>Fact.put t.ar h trivial (t.fx q J)
   ke:=t.fr _ _ t.ke}
theorem IA.put2(t:IA K Hs A0 A x C dx r s bk E p σ H ρ):∃xs,H s=some (.dT xs)/\xs.length=p.2.length/\∀B w v,Rep A H w v->IA K Hs A0 A x C dx r s bk E (p.1,putD p.2 B w) σ (upd H s (.dT (putK xs B v))) ρ:=by
 cases t.o2 with
 | @dT _ _ xs h e rl=>
  refine⟨xs,h,by have:=congrArg zbm e;simpa using this,λB w v F=>?_⟩;obtain⟨G,N⟩:=vZ (tQ B F (tX e rl));obtain⟨M,hx,U⟩:=t.hx;exact {t with
   live:=AF t.live
   hx:=⟨M,by rw[aE (λz=>by rw[z,h]at hx;cases hx)];exact hx,U.put t.at' h trivial⟩
   o1:=t.o1.put t.at' h trivial t.ne
   o2:=.dT aH G (N.put t.at' h trivial)
   val:=λi d hi=>by obtain⟨v,W,q⟩:=t.val i d hi;exact⟨v,W,q.put t.at' h trivial⟩
   fx:=λq J=>Fact.put t.at' h trivial (t.fx q J)
   ke:=t.fs _ _ t.ke}
theorem IA.done(t:IA K Hs A0 A x C dx r s bk E p σ H ρ)(M:Live A0 Hs)(B:¬ A0 x)(G:¬ A0 r)(z:¬ A0 s):Ext A0 Hs H/\Rep A0 H (.ob C [("book",bk),("routes",.dT p.1),("spans",.dT p.2)]) (.ref x):=by
 obtain⟨N,h,J⟩:=t.hx;have q:∀b,A0 b->A b\/H b=none:=λb F=>.inl (t.a0 b F)
 exact⟨t.ke,.ob B h rfl (.cons (J.av q) (.cons ((t.o1.av q).rep G) (.cons ((t.o2.av q).rep z) .nil)))⟩
inductive tA1(K:zae)(fk fv:Ev)(T:Ends)(σ:L2.St)(H:Hp):Prop
 | mk (Hs:Hp) (A0 A:Av) (x C dx r s:Addr) (bk:D) (E:List Fact) (p:LT×LT) (ρ:cU) (kd w:D) (kk:List Key) (st:IA K Hs A0 A x C dx r s bk E p σ H ρ) (ek:fk ρ=some kd) (et:TY kd=some kk) (ew:fv ρ=some w) (sz:aZ p.1.length=true)
  (n:∀H',IA K Hs A0 A x C dx r s bk E (putD p.1 kk w,p.2) σ H' ρ->T.nx σ H'):tA1 K fk fv T σ H
inductive tA2(K:zae)(fk fe:Ev)(F:List D->Option D)(T:Ends)(σ:L2.St)(H:Hp):Prop
 | mk (Hs:Hp) (A0 A:Av) (x C dx r s:Addr) (bk:D) (E:List Fact) (p:LT×LT) (ρ:cU) (kd w d z:D) (kk:List Key) (st:IA K Hs A0 A x C dx r s bk E p σ H ρ) (ek:fk ρ=some kd) (et:TY kd=some kk) (ev:eZ p.1 kk=some w) (ed:fe ρ=some d) (ez:F [d,w]=some z) (sz:aZ p.2.length=true)
  (n:∀H',IA K Hs A0 A x C dx r s bk E (p.1,putD p.2 kk z) σ H' ρ->T.nx σ H'):tA2 K fk fe F T σ H
end
section
variable {X:Cx}
theorem Q6{o k value:Expr}{fk fv:Ev}{F p2 pos:Pos}(hu:X.A.units+1<cLine)(ho:PE X o (c7 0))(Y:PB X [] k fk)(hv:PD X [] value fv)(z:zaN o "routes" X.env (eval o X.env)=eval o X.env:=by rfl)
  (hs:zaD value (some (.Subscript (.Attribute o "routes" F) k p2)) pos.line X.env=pure false:=by rfl):PS X (.Assign [.Subscript (.Attribute o "routes" F) k p2] value pos) (tA1 X.K fk fv):=
 PS.mono (xM hu (jU ho z) Y hv hs) <| by
  rintro T σ H ⟨Hs,A0,A,x,C,dx,r,s,bk,E,p,ρ,J,w,U,st,G,et,M,sz,n⟩;refine⟨_,A,A,E,ρ,w,st.st,M,λv H1 N r1=>?_⟩;have q:=st.ext N;obtain⟨vb,hx,_⟩:=q.hx;refine⟨_,q.s0,x,C,dx,_,.ref r,rfl,hx,q.cls,q.nr,rfl,_,A,A,E,ρ,J,q.st,G,λy H2 B r2=>?_⟩;have s2:=q.ext B;obtain⟨xs,h,W,go⟩:=s2.put1;obtain⟨b,rfl,z⟩:=pT et r2;exact⟨r,_,rfl,DPut.t h z (by rw[W];exact iN sz),n _ (go U w v (r1.ext B))⟩
theorem QS{o o2 k k2 e:Expr}{g:Str}{kn:Nat}{ps:List Str}{F:List D->Option D}{fk fe:Ev}{p1 p2 B q gp W pos:Pos}(FF:Fn X.prog X.w X.K X.mg X.base g kn ps F)(hp:ps.length=2)(hr:Room kn X.A)(hg:Gl X g)(hu:X.A.units+1<cLine)(ho:PE X o (c7 0))(ab:PE X o2 (c7 0))(hk:PB X [] k fk)(ac:PB X [] k2 fk)(he:PD X [] e fe)(hn:IX k2)
  (hb:zaN o "spans" X.env (eval o X.env)=eval o X.env:=by rfl) (ae:zaN o2 "routes" X.env (eval o2 X.env)=eval o2 X.env:=by rfl) (Y:(g == ("__debug__" : Str))=false:=by decide)
  (h1:zag [e,.Subscript (.Attribute o2 "routes" B) k2 q] X.env=(false,eval e X.env)::zag [.Subscript (.Attribute o2 "routes" B) k2 q] X.env:=by rfl) (h2:(zaG W (zag [.Subscript (.Attribute o2 "routes" B) k2 q] X.env)).any (·.1)=false:=by rfl) (h3:zag [.Subscript (.Attribute o2 "routes" B) k2 q] X.env=(false,eval (.Subscript (.Attribute o2 "routes" B) k2 q) X.env)::zag [] X.env:=by rfl)
  (hs:zaD (.Call (.Name g gp) [e,.Subscript (.Attribute o2 "routes" B) k2 q] [] W) (some (.Subscript (.Attribute o "spans" p1) k p2)) pos.line X.env=pure false:=by rfl) :
  PS X (.Assign [.Subscript (.Attribute o "spans" p1) k p2] (.Call (.Name g gp) [e,.Subscript (.Attribute o2 "routes" B) k2 q] [] W) pos) (tA2 X.K fk fe F):=by
 obtain⟨fa,fd,ag,aa,hm,FO⟩:=My.Ok.ex FF;refine PS.mono (xM hu (jU ho hb) hk (xK FO hr hg hm ag aa .nil GH (cV he (cV (FD hu (jU ab ae) ac hn) fO h3) h1) Y h1 h2) hs) λT σ H ⟨Hs,A0,A,x,C,dx,r,s,bk,E,p,ρ,N,w,d,z,kk,st,ek,et,ev,ed,ez,sz,n⟩=>?_
 refine⟨_,A,A,E,ρ,d,st.st,ed,λv1 H1 x1 r1=>?_⟩;have J:=st.ext x1;obtain⟨vb,hx,_⟩:=J.hx;refine⟨_,J.s0,x,C,dx,_,.ref r,rfl,hx,J.cls,J.nr,rfl,_,A,A,E,ρ,N,J.st,ek,λy H2 x2 r2=>?_⟩;have U:=J.ext x2;obtain⟨a,ov,e1,_,dg,M⟩:=sI (d:=.dT p.1) (k:=N) (o:=some w) (by simp only[nK,et,zab,ev]) U.o1.b r2;rcases M with⟨M,_⟩|⟨w',v2,M,e3,r3⟩
 ·cases M
 ·cases M;subst e3;cases e1
  refine⟨r,v2,rfl,dg,?_⟩;refine⟨A,[d,w],z,U.live,.cons (r1.ext x2) (.cons r3 .nil),hp.symm,ez,λv3 H3 x3 r4=>?_⟩;have G:=U.ext x3;obtain⟨be,ad,_⟩:=G.hx;refine⟨_,G.s0,x,C,dx,_,.ref s,rfl,ad,G.cls,G.ns,rfl,_,A,A,E,ρ,N,G.st,ek,λy4 H4 x4 r5=>?_⟩;have s4:=G.ext x4;obtain⟨xs,h,hl,go⟩:=s4.put2;obtain⟨b,rfl,hb⟩:=pT et r5;exact⟨s,_,rfl,DPut.t h hb (by rw[hl];exact iN sz),n _ (go kk z v3 (r4.ext x4))⟩
inductive tAF(K:zae)(f:Lv)(i:Nat)(tb:TS)(T:Ends)(σ:L2.St)(H:Hp):Prop
 | mk (Hs:Hp) (A0 A:Av) (x C dx r s:Addr) (bk:D) (E:List Fact) (p out:LT×LT) (ρ:cU) (items:List D) (step:D->LT×LT->Option (LT×LT)) (R:cU->Prop) (st:IA K Hs A0 A x C dx r s bk E p σ H ρ) (h0:R ρ) (e:f ρ=some items) (fo:kP step items p=some out)
  (turn:∀E' σ H ρ d p p' T',R ρ->step d p=some p'->IA K Hs A0 A x C dx r s bk E' p σ H (ρ.set i (some d))->(∀σ H ρ,R ρ->IA K Hs A0 A x C dx r s bk E' p' σ H ρ->T'.nx σ H)->tb T' σ H)
  (n:∀σ H ρ,R ρ->IA K Hs A0 A x C dx r s bk E out σ H ρ->T.nx σ H):tAF K f i tb T σ H
theorem MU{tg z:Expr}{F:List Stmt}{pos:Pos}{f:Lv}{i:Nat}{tb:TS}(hp:zb5 (model X.prog X.w) X.A X.env X.xe)(hc:X.calm=true)(hi:PDI X [] tg z f)(hg:PG X tg (i6 i))(hb:PSs X F tb)(hn:i≠0:=by decide)
  (hs:∀x,zba z X.env x=pure x:=by intro _;rfl):PS X (.For tg z F [] pos) (tAF X.K f i tb):=
 PS.mono (M6 hp hc hi hg hb hs) <| by
  rintro T σ H ⟨Hs,A0,A,x,C,dx,r,s,bk,E,p,out,ρ,items,step,R,st,h0,e,fo,turn,n⟩;refine⟨_,A,A,E,ρ,items,st.st,e,λJ H1 E1 x1 aa J1=>?_⟩;have ad:=(st.ext x1).more aa;refine⟨λi m σ H=>m=items.length-i/\i<=items.length/\∃ρ p,R ρ/\IA X.K Hs A0 A x C dx r s bk (E1++E) p σ H ρ/\kP step (items.drop i) p=some out,⟨items.length,by simp,zaI _,ρ,p,h0,ad,fo⟩,?_⟩;rintro i m σ H ⟨rfl,ap,ρ,p,hR,st,e⟩;obtain⟨M,go⟩:=J1 A H st.live (λq hq=>st.fx q (zbs _ hq)) i;by_cases G:i<items.length
  ·have ed:items[i]?=some items[i]:=by simp[G]
   obtain⟨ac,hy⟩:=go _ ed;rw[zcX G]at e;obtain⟨p1,es,e⟩:=bind_some e;refine .inr ⟨ac,λN H'=>∃B p2,R B/\IA X.K Hs A0 A x C dx r s bk (E1++E) p2 N H' B/\kP step (items.drop (i+1)) p2=some out,λN H' ⟨B,p2,r2,s2,e2⟩=>⟨items.length-(i+1),by lia,rfl,G,B,p2,r2,s2,e2⟩,λy H' Y=>?_⟩;obtain⟨x2,r2⟩:=hy y H' Y;exact turn _ _ _ ρ _ p p1 _ hR es ((st.ext x2).set r2 hn) λay H3 W R3 i3=>⟨W,p1,R3,i3,e⟩
  ·have U:i=items.length:=by lia
   subst U;rw[zdE]at e;cases e;exact .inl ⟨M (zai _),n _ _ ρ hR (st.less λq hq=>zaV _ hq)⟩
end
def lK(F G:List D->Option D)(bk j k:D)(p:LT×LT):Option (LT×LT):=(F [bk,j,k]).bind λw=>(TY (.tup [j,k])).bind λq=>if aZ p.1.length=true/\aZ p.2.length=true then(eZ (putD p.1 q w) q).bind λB=>(G [bk,B]).map λz=>(putD p.1 q w,putD p.2 q z)else none
def tJ(C:Addr)(g:D->Option (List D))(z B:List D->Option D)(bk:D):Option D:=(g bk).bind λq=>(kP (λj p=>(g bk).bind λks=>kP (lK z B bk j) ks p) q ([],[])).map λp=>.ob C [("book",bk),("routes",.dT p.1),("spans",.dT p.2)]
theorem JS{K:zae}{Hs:Hp}{A0:Av}{x C dx r s:Addr}{bk:D}{G:V}{σ:L2.St}{H:Hp}{ρ:cU}(nr:NoAttr K C "routes")(ns:NoAttr K C "spans")(t:IO K Hs (λb=>A0 b\/b=x) x C dx [("book",bk)] σ H ρ)(n1:Hs x=none)(nx:¬ A0 x)(hx:H x=some (.ins C dx [("book",G)]))(rb:Rep (λb=>A0 b\/b=x) H bk G)
  (J:H r=none) (hs:upd (upd H r (.dT [])) x (.ins C dx [("book",G),("routes",.ref r)]) s=none):IA K Hs A0 (λb=>A0 b\/b=x\/b=r\/b=s) x C dx r s bk [] ([],[]) σ (upd (upd (upd (upd H r (.dT [])) x (.ins C dx [("book",G),("routes",.ref r)])) s (.dT [])) x (.ins C dx [("book",G),("routes",.ref r),("spans",.ref s)])) ρ/\¬ A0 r/\¬ A0 s:=by
 have sx:s≠x:=λz=>by rw[z,aH]at hs;cases hs
 have F:upd H r (.dT []) s=none:=by rw[aE sx]at hs;exact hs
 have sr:s≠r:=λz=>by rw[z,aH]at F;cases F
 have B:H s=none:=by rw[aE sr]at F;exact F
 have rx:r≠x:=λz=>by rw[z,hx]at J;cases J
 have N:Ext A0 Hs H:=(t.ke.ext n1).mono λb M=>.inl M
 have ar:¬ A0 r:=λz=>t.live r (.inl z) J
 have aa:¬ A0 s:=λz=>t.live s (.inl z) B
 have up:∀a,(A0 a\/a=x\/a=r\/a=s)->(A0 a\/a=x)\/H a=none:=λa ha=>by
  rcases ha with h|h|h|h
  ·exact .inl (.inl h)
  ·exact .inl (.inr h)
  ·exact .inr (by rw[h];exact J)
  ·exact .inr (by rw[h];exact B)
 have U:∀d v,Rep (λb=>A0 b\/b=x) H d v->Rep (λb=>A0 b\/b=x\/b=r\/b=s) (upd (upd (upd (upd H r (.dT [])) x (.ins C dx [("book",G),("routes",.ref r)])) s (.dT [])) x (.ins C dx [("book",G),("routes",.ref r),("spans",.ref s)])) d v:=λd v h=>by
  have h1:=(h.av up).ext (Ext.new (o:=.dT []) J);have h2:=h1.putI (a:=x) (o:=.ins C dx [("book",G),("routes",.ref r)]) (.inr (.inl rfl)) (by rw[aE rx.symm];exact hx);have h3:=h2.ext (Ext.new (o:=.dT []) hs);exact h3.putI (a:=x) (.inr (.inl rfl)) (by rw[aE sx.symm];exact aH)
 refine⟨⟨t.cls,nr,ns,λb M=>M,λb M=>.inl M,.inr (.inl rfl),.inr (.inr (.inl rfl)),.inr (.inr (.inr rfl)),sr.symm,jR N J,jR N B,λb M z=>?_,⟨G,aH,U _ _ rb⟩,.dT (xs:=[]) ?_ rfl .nil,.dT (xs:=[]) ?_ rfl .nil,t.s0,t.len,λi d h=>?_,(λ_ z=>nomatch z),?_⟩,ar,aa⟩
 ·by_cases W:b=x
  ·rw[W,aH]at z;cases z
  ·rw[aE W]at z
   by_cases Y:b=s
   ·rw[Y,aH]at z;cases z
   ·rw[aE Y,aE W]at z
    by_cases q3:b=r
    ·rw[q3,aH]at z;cases z
    ·rw[aE q3]at z
     rcases M with h|h|h|h
     ·exact t.live b (.inl h) z
     ·exact W h
     ·exact q3 h
     ·exact Y h
 ·rw[aE rx,aE sr.symm,aE rx,aH]
 ·rw[aE sx,aH]
 ·obtain⟨v,e,q⟩:=t.val i d h
  exact⟨v,e,U _ _ q⟩
 ·have fx:=jR (Ext.refl A0 Hs) n1
  exact fx _ _ (jR N B _ _ (fx _ _ (jR N J _ _ N)))
section
variable {X:Cx}
theorem CJ{C:Addr}{kn:Nat}{gp:List Str}{g2:Str}{o0 o1 o2 o3 o4 F e0 e5 k3 k4 N value aa ad W Y:Expr}{g:D->Option (List D)}{f1 f2:Lv}{fk fv fe:Ev}{F1 F2:List D->Option D}{a0 a1 a2 a3 a4 U b3 b4 b5 p0 p1 p2 p3 p4 p5 p6 d1 d2 c5 q5:Pos}(cls:Cls X.K C)(na:∀a∈(["book", "routes", "spans"]:List Str),NoAttr X.K C a)(FF:Fn X.prog X.w X.K X.mg X.base g2 kn gp F2)(bo:gp.length=2)(hr:Room kn X.A)(a8:Gl X g2)(hu:X.A.units+1<cLine)
  (hp:zb5 (model X.prog X.w) X.A X.env X.xe) (hc:X.calm=true)
  (h0:PE X o0 (c7 0)) (h1:PE X o1 (c7 0)) (h2:PE X o2 (c7 0)) (h3:PE X o3 (c7 0)) (h4:PE X o4 (c7 0)) (h5:PE X F (c7 0)) (bl:PD X [] e0 (aD 1)) (bw:PDI X [] W aa f1) (bu:PDI X [] Y ad f2) (bm:PG X W (i6 2)) (be:PG X Y (i6 3)) (bq:PB X [] k3 fk) (b0:PB X [] k4 fk) (ax:PB X [] N fk) (hv:PD X [] value fv) (bg:PD X [] e5 fe) (hn:IX N)
  (bp:∀ {ρ:cU} {bk:D},ρ[1]?=some (some bk)->f1 ρ=g bk) (bn:∀ {ρ:cU} {bk:D},ρ[1]?=some (some bk)->f2 ρ=g bk) (al:∀ {ρ:cU} {j k:D},ρ[2]?=some (some j)->ρ[3]?=some (some k)->fk ρ=some (.tup [j,k])) (br:∀ {ρ:cU} {bk j k:D},ρ[1]?=some (some bk)->ρ[2]?=some (some j)->ρ[3]?=some (some k)->fv ρ=F1 [bk,j,k]) (bv:∀ {ρ:cU} {bk:D},ρ[1]?=some (some bk)->fe ρ=some bk)
  (as:zaN o3 "routes" X.env (eval o3 X.env)=eval o3 X.env:=by rfl) (bj:zaN o4 "spans" X.env (eval o4 X.env)=eval o4 X.env:=by rfl) (bz:zaN F "routes" X.env (eval F X.env)=eval F X.env:=by rfl) (bf:(g2 == ("__debug__" : Str))=false:=by decide)
  (z1:zag [e5,.Subscript (.Attribute F "routes" U) N b5] X.env=(false,eval e5 X.env)::zag [.Subscript (.Attribute F "routes" U) N b5] X.env:=by rfl) (z2:(zaG c5 (zag [.Subscript (.Attribute F "routes" U) N b5] X.env)).any (·.1)=false:=by rfl) (z3:zag [.Subscript (.Attribute F "routes" U) N b5] X.env=(false,eval (.Subscript (.Attribute F "routes" U) N b5) X.env)::zag [] X.env:=by rfl)
  (s0:zaD e0 (some (.Attribute o0 "book" a0)) p0.line X.env=pure false:=by rfl) (s1:zaD (.Dict [] [] d1) (some (.Attribute o1 "routes" a1)) p1.line X.env=pure false:=by rfl) (s2:zaD (.Dict [] [] d2) (some (.Attribute o2 "spans" a2)) p2.line X.env=pure false:=by rfl)
  (s3:zaD value (some (.Subscript (.Attribute o3 "routes" a3) k3 b3)) p3.line X.env=pure false:=by rfl) (s4:zaD (.Call (.Name g2 q5) [e5,.Subscript (.Attribute F "routes" U) N b5] [] c5) (some (.Subscript (.Attribute o4 "spans" a4) k4 b4)) p4.line X.env=pure false:=by rfl)
  (y1:∀x,zba aa X.env x=pure x:=by intro _;rfl) (y2:∀x,zba ad X.env x=pure x:=by intro _;rfl)
  {vs:List V} {H:Hp} {Q:VK} {E:XK} (hsp:XU C (λ_=>tJ C g F1 F2) vs H Q E) {R:VK} :
  ∃t,PSs X [.Assign [.Attribute o0 "book" a0] e0 p0,.Assign [.Attribute o1 "routes" a1] (.Dict [] [] d1) p1,.Assign [.Attribute o2 "spans" a2] (.Dict [] [] d2) p2,
   .For W aa [.For Y ad [.Assign [.Subscript (.Attribute o3 "routes" a3) k3 b3] value p3,.Assign [.Subscript (.Attribute o4 "spans" a4) k4 b4] (.Call (.Name g2 q5) [e5,.Subscript (.Attribute F "routes" U) N b5] [] c5) p4] [] p5] [] p6] t /\
   t {nx:=λ_ H'=>Q .non H',rt:=R} (vs.map some++[none,none]) H:=by
 obtain⟨A,H1,x,dx,v,_,bk,d,rfl,rfl,n1,n2,ne,lv,rp,ed,q⟩:=hsp;obtain⟨js,ej,ed⟩:=bind_some ed;obtain⟨out,eo,ed⟩:=map_some ed;subst ed;refine⟨_,dC (C0 h0 bl s0) (dC (tN h1 zH s1) (dC (tN h2 zH s2) (gI (MU hp hc bw bm (gI (MU hp hc bu be (dC (Q6 hu h3 bq hv as s3) (gI (QS FF bo hr a8 hu h4 h5 b0 ax bg hn bj bz bf z1 z2 z3 s4))) (by decide) y2)) (by decide) y1)))),?_⟩;have nx:¬ A x:=λz=>lv x z n1
 have I0:=IO.begun cls n1 n2 ne lv rp [none,none] (λo ho=>by simpa using ho);refine⟨H1,_,x,C,dx,[],_,bk,I0,rfl,na _ (by simp),by simp,by simp,λH2 I2=>λr ab=>?_⟩;obtain⟨fs,hx,em,rr⟩:=I2.hx;obtain⟨vb,rfl,rb⟩:∃vb,fs=[(("book" : Str),vb)]/\Rep (λb=>A b\/b=x) H2 bk vb:=by
  match fs,em,rr with
  | [(f,vb)],em,rr=>
   have:f = "book" := by simpa using em
   subst this;cases rr with
   | cons h _=>exact⟨vb,rfl,h⟩
  | [],em,_=>exact nomatch em
  | _::_::_,em,_=>simp at em
 have rx:r≠x:=λz=>by rw[z,hx]at ab;cases ab
 refine⟨_,I2.s0,x,C,dx,_,rfl,by rw[aE rx.symm];exact hx,cls,na _ (by simp),by simp,λs au=>?_⟩;have G:upd (upd H2 r (.dT [])) x (.ins C dx [("book",vb),("routes",.ref r)]) s=none:=au;have sx:s≠x:=λz=>by rw[z,aH]at G;cases G
 refine⟨_,I2.s0,x,C,dx,[("book",vb),("routes",.ref r)],rfl,by rw[aE sx.symm];exact aH,cls,na _ (by simp),by simp,?_⟩;obtain⟨J,ar,aw⟩:=JS (na _ (by simp)) (na _ (by simp)) I2 n1 nx hx rb ab G;refine⟨H1,A,_,x,C,dx,r,s,bk,[],([],[]),out,_,js,_,λρ=>ρ.length=4/\ρ[1]?=some (some bk),J,⟨rfl,rfl⟩,by rw[bp (bk:=bk) rfl];exact ej,eo,λE' σ H ρ j p p' T' M B I n=>?_,λσ H ρ M I=>?_⟩
 ·obtain⟨ks,ek,hf⟩:=bind_some B
  have b1:(ρ.set 2 (some j))[1]?=some (some bk):=by rw[zbO (by decide)];exact M.2
  refine⟨H1,A,_,x,C,dx,r,s,bk,E',p,p',_,ks,lK F1 F2 bk j,λρ=>ρ.length=4/\ρ[1]?=some (some bk)/\ρ[2]?=some (some j),I,⟨by rw[zcS];exact M.1,b1,by rw[zcy (by lia)]⟩,by rw[bn b1];exact ek,hf,λE2 σ H ρ k p p' T' M B I n=>?_,λσ H ρ M I=>n σ H ρ ⟨M.1,M.2.1⟩ I⟩;have c1:(ρ.set 3 (some k))[1]?=some (some bk):=by rw[zbO (by decide)];exact M.2.1
  have c2:(ρ.set 3 (some k))[2]?=some (some j):=by rw[zbO (by decide)];exact M.2.2
  have c3:(ρ.set 3 (some k))[3]?=some (some k):=by rw[zcy (by lia)]
  obtain⟨w,ew,B⟩:=bind_some B;obtain⟨kk,aj,B⟩:=bind_some B;split at B
  ·rename_i sz
   obtain⟨w',az,B⟩:=bind_some B;obtain⟨z,ez,rfl⟩:=map_some B;refine⟨H1,A,_,x,C,dx,r,s,bk,E2,p,_,_,w,kk,I,al c2 c3,aj,by rw[br c1 c2 c3];exact ew,sz.1,λH' I'=>?_⟩;exact⟨H1,A,_,x,C,dx,r,s,bk,E2,_,_,_,w',bk,z,kk,I',al c2 c3,aj,az,bv c1,ez,sz.2,λH' I'=>n _ _ _ ⟨by rw[zcS];exact M.1,c1,c2⟩ I'⟩
  ·cases B
 ·obtain⟨x5,r5⟩:=I.done lv nx ar aw
  exact q _ x5 r5
end
def Fas(K:zae)(C:Addr)(fs:List Str):Prop:=∀a∈fs,NoAttr K C a
theorem Fas.nil{K:zae}{C:Addr}:Fas K C []:=λ_ h=>nomatch h
theorem Fas.cons{K:zae}{C:Addr}{x:Str}{fs:List Str}(a:zbu K (.ref C) x=some none)(r:Fas K C fs):Fas K C (x::fs):=zc0.2 ⟨a,r⟩
structure ObQ(K:zae)(x q:Str)(st:Stmt)(C:Addr)(fs:List Str):Prop where
 cls:Cls K C
 na:Fas K C fs
 ex:∃f fd,zbY K zaK x=some (some (.ref C))/\Mk K C f/\Fun K "__init__" q st f fd
theorem obq{K:zae}{x q:Str}{st:Stmt}{C f:Addr}{fs:List Str}{G:Value}{od M:Option Addr}{B:Array (Option Value)}{kV F J z ct:Value}(a:zbY K zaK x=some (some (.ref C)))(m1:zdX K C=true)(m2:zbu K (.ref C) "__init__" = some (some (.ref f)))(m3:PySem.W.isFn K (.ref f)=true)(m4:zbE K (.ref C)=true)(m5:zdb K C Str.empty=true)(m6:zdc K C=true)(m7:zdV K C=true)(m8:zbu K (.ref C) "__setattr__" = some (some (.builtin "object.__setattr__")))
  (l:K.lookup f=some ⟨G,od,.func (zbh "__init__" q (d7 st) (bM st) (aK st) .none kV F J M z ct),B⟩) (c:zcm K z q=true) (k:zbE K (.ref f)=true) (n:Fas K C fs):ObQ K x q st C fs:=⟨⟨m5,m6,m7,m8⟩,n,f,_,a,⟨m1,m2,m3,m4⟩,DF l c k⟩
theorem ObQ.t{K:zae}{h:Heap}{mg:Str->Option Value}{x q p:Str}{st:Stmt}{C:Addr}{fs:List Str}(Q:ObQ K x q st C fs)(X:K.In h)(G:h.Ns zaK mg)(b:∀(kV B J:Value) (M:Option Addr) (z ct:Value) (u v:Value),bindArgs (zbh "__init__" q (d7 st) (bM st) (aK st) .none kV B J M z ct) ⟨[u,v],[]⟩=pure ((["self",p]:List Str).zip [u,v])):ObT K mg x q p st C fs:=by
 obtain⟨f,fd,a,m,F⟩:=Q.ex;exact⟨Q.cls,Q.na,f,fd,zdK X G a,m,F.binds (ps:=["self",p]) λkV B J M z ct N U=>match N,U with|[u,v],_=>b kV B J M z ct u v,F⟩
theorem M8{C:Addr}{G:D->D->Option D}{N:List Str}{vs:List V}{H:Hp}{Q:VK}{E:XK}(h:XU C G vs H Q E):start N vs=vs.map some++zcl (N.length-2) none:=by
 obtain⟨_,_,_,_,_,_,_,_,rfl,_⟩:=h;rfl
theorem OP{C:Addr}{G:D->D->Option D}{N:List Str}{vs:List V}{H:Hp}{Q:VK}{E:XK}(h:XU C G vs H Q E)(n:N.length=2):start N vs=vs.map some:=by
 rw[M8 h,n];exact zbv _
theorem pK{ρ:cU}{i:Nat}{d:D}(h:ρ[i]?=some (some d)):aD i ρ=some d:=by unfold aD;rw[h];rfl
theorem hu2{A:zao}{k:Nat}(q:Room k A):A.units+2<cLine:=zcU (Nat.add_le_add_left (by decide:2<=64) _) q.units
end P
namespace My
open PySem PySem.Spec PyProof.Rows L2
def Z2(K:zae)(a:Addr)(n:Nat):It:=
 ⟨λi H=>∃xs x,SqL K H a xs/\i<n/\xs[n-1-i]?=some x,λi H x H'=>H'=H/\∀xs,SqL K H a xs->xs[n-1-i]?=some x,λi H=>n<=i⟩
theorem JM{P:zah}{w:World}{K:zae}{tg:Expr}(a it:Addr)(n:Nat):Turn P w K tg (Z2 K a n) [it] it (λi h=>i<=n/\h.IsRevIter it a ((n:Int)-1-(i:Int))) where
 mem:=by simp
 obj:=λi h st b q=>by
  have e:b=it:=by simpa using q
  subst e;obtain⟨_,o,e,c,d⟩:=st;exact⟨o,e,λv z=>by rw[d]at z;cases z⟩
 keep:=λi h h' st k=>⟨st.1,st.2.at λo e=>k it (by simp) o e⟩
 item:=by
  intro X M hw hK hc i pins s σ H E I G st U;subst M hw hK;obtain⟨xs,x,hq,hi,hx⟩:=U;obtain⟨ak,rv,p,hz⟩:=I.list hq;obtain⟨u,hu,ru⟩:=rv.get hx;obtain⟨W,f1,f2,J,N,f5⟩:=G it (by simp);have Y:s.heap.IsRevIter it a ((n-1-i:Nat):Int):=by
   have e:((n-1-i:Nat):Int)=(n:Int)-1-(i:Int):=by lia
   rw[e];exact st.2
  refine wpAny_pyNext_rev_item Y p.isList (x:=u) (by simpa using hu) λh' F sb=>?_
  have I1:Inv X pins σ H {s with heap:=h'}:=I.turned (t':=s.toks) (λb o q e=>(sb.2 b q).trans e) W f1 J N f5;obtain⟨o,e,c,d⟩:=id F;refine⟨u,rfl,t7 (s:={s with heap:=h'}) e c d (by decide) ⟨x,H,I1,ru,⟨rfl,λys hy=>by rw[I.list_inj hy hq];exact hx⟩,⟨hi,?_⟩,λb q=>(G b q).1⟩⟩;have e:(n:Int)-1-((i+1:Nat):Int)=((n-1-i:Nat):Int)-1:=by lia
  rw[e];exact F
 done:=by
  intro X M hw hK hc i pins s σ H E I G st U;subst M hw hK;obtain⟨W,f1,f2,J,N,f5⟩:=G it (by simp);have hn:n<=i:=U;have e:(n:Int)-1-(i:Int)=-1:=by have:=st.1;lia
  have B:=st.2;rw[e]at B;exact wpAny_pyNext_rev_end (I.ok.hd hc) B λh' eb=>⟨rfl,I.turned (t':=s.toks) (λb o q e=>eb b o q e) W f1 J N f5⟩
 self:=λ_ _ _ _ _ st h=>wpAny_pyIter_revIter st.2 h
theorem boot_reversed:zaH "reversed" = some (.type "reversed"):=by first|rfl|decide +kernel
def qaX(K:zae)(ta:TA):TI:=λσ H R=>ta σ H λvs H1=>∃l xs,vs=[.ref l]/\SqL K H1 l xs/\R (Z2 K l xs.length) H1
theorem VL{X:Cx}{tg:Expr}{a:Expr}{ta:TA}{p pos:Pos}(M:Gl X "reversed")(N:X.mg "reversed" = none)(W:PA X [a] ta)(hs:zag [a] X.env=[(false,eval a X.env)]:=by rfl) :
  PI X tg (.Call (.Name "reversed" p) [a] [] pos) (qaX X.K ta):=by
 intro pins s σ H R I h;refine Call_ (lJ I M N boot_reversed (zcP (cR (W pos pins s σ H _ I h) λus G ⟨vs,H1,F,r1,J⟩=>?_) (by rw[hs];rfl) rfl));obtain⟨l,xs,rfl,J,q⟩:=J;obtain⟨u,rfl,U⟩:=vals1 r1;cases U;obtain⟨z,rv,p1,hz⟩:=F.list J;have hl:=rv.length;refine call_reversed_list p1.isList ?_;have B:(G.heap.push (revObj l ((z.toArray.size:Int)-1))).IsRevIter G.heap.objs.size l ((xs.length:Int)-1-((0:Nat):Int)):=by
  refine⟨_,zaE _ rfl,rfl,?_⟩;have e:(z.toArray.size:Int)-1=(xs.length:Int)-1-((0:Nat):Int):=by simp;lia
  rw[<- e];rfl
 refine wpAny_pyIter_revIter B ?_;refine⟨_,[_],_,_,H1,rfl,F.kept (t':=G.toks) λb o e=>zan _ e,JM l _ xs.length,⟨zaI _,B⟩,λb Y=>?_,q⟩;have e:b=G.heap.objs.size:=by simpa using Y
 subst e;exact F.fpOk (zai _) (F.hok.fresh (zai _))
end My
namespace P
open PySem PySem.Spec PyProof.Rows L2
def Z9(f:Lv):Lv:=λρ=>(f ρ).bind λds=>match ds with
 | [.lst l]=>some l.reverse
 | _=>none
theorem QF{X:Cx}{O:List Nat}{tg a:Expr}{f:Lv}{p pos:Pos}(J:Gl X "reversed")(N:X.mg "reversed" = none)(M:yF X O [a] f)(hs:zag [a] X.env=[(false,eval a X.env)]:=by rfl) :
  PDI X O tg (.Call (.Name "reversed" p) [a] [] pos) (Z9 f):=PI.mono (My.VL J N M hs) λσ H R ⟨H0,A0,A,E,ρ,items,st,e,q⟩=>by
 obtain⟨ds,B,e⟩:=bind_some e;refine⟨H0,A0,A,E,ρ,ds,st,B,λvs H1 U r1=>?_⟩;split at e
 case h_2=>cases e
 rename_i l;cases e;obtain⟨v,rfl,r2⟩:=r1.one;obtain⟨a,xs,rfl,h1,rl⟩:=RepB.lst_inv (.of r2);have W:=rl.length;refine⟨a,xs,rfl,.inl h1,q _ H1 [.rep (.lst l) (.ref a)] U (λp Y=>by rw[List.mem_singleton.mp Y];exact r2) ?_⟩;intro A' H' lv hE i;have a1:Rep A' H' (.lst l) (.ref a):=hE _ (List.mem_singleton.mpr rfl);obtain⟨a',ys,e,h2,z⟩:=RepB.lst_inv (.of a1);cases e;have G:=z.length;refine⟨λhi=>(show xs.length<=i by rw[List.length_reverse]at hi;lia),λd hd=>?_⟩;have hi:i<l.length:=by have:=(List.getElem?_eq_some_iff.mp hd).1;simpa using this
 have F:l[xs.length-1-i]?=some d:=by rw[List.getElem?_reverse hi]at hd;rw[W];exact hd
 obtain⟨v,B,r1⟩:=z.get' F;refine⟨⟨ys,v,.inl h2,by lia,B⟩,λx aa y=>?_⟩;obtain⟨rfl,y⟩:=y;have:=y ys (.inl h2);rw[B]at this;cases this;exact⟨Ext.refl _ _,r1⟩
def F6(i j:Int):Prop:=0<j/\j<10^500
instance:∀i j,Decidable (F6 i j):=λi j=>by unfold F6;infer_instance
theorem LR{j:Int}(q:0<j)(h:j<10^500):j.natAbs.log2<9000:=by
 have a:j.natAbs≠0:=by lia
 refine(Nat.log2_lt a).mpr ?_;have b:(10:Nat)^500<2^9000:=by decide +kernel
 have c:(j.natAbs:Int)<((10^500:Nat):Int):=by
  rw[Int.natAbs_of_nonneg (Int.le_of_lt q),show((10^500:Nat):Int)=(10:Int)^500 from by decide +kernel];exact h
 exact Nat.lt_trans (Int.ofNat_lt.mp c) b
section
variable {X:Cx}
theorem LW:OpR X (zaM .FloorDiv) (rI F6 λi j=>.int (i/j)):=qy λi j _ _ _ _ _ z q=>floordiv_int (zaT z.1) (by rw[Int.fdiv_eq_ediv_of_nonneg i (Int.le_of_lt z.1)];exact q) (.inl (PyProof.noPylong_of_log2 (LR z.1 z.2)))
def NH:D->D->Option D:=JJ λi j=>if F6 i j then some (.int (i/j))else none
theorem FI:lQ X (zaM .FloorDiv) NH:=tI LW
theorem MF{i j:Int}(h:0<j)(h2:j<10^500):NH (.int i) (.int j)=some (.int (i/j)):=if_pos ⟨h,h2⟩
end
end P
namespace My
open PySem PySem.Spec PyProof.Rows L2
section
variable {X:Cx}
theorem CP(hc:X.calm=true){pins:List (Addr×Obj)}{s:zad}{σ:L2.St}{H:Hp}{p:Addr}{ns:List Int}{Q:VK}(I:Inv X pins σ H s)(hq:SqL X.K H p (ns.map V.int))(Y:ns≠[])(q:Q (.int (uP ns)) H) :
  wpAny (model X.prog X.w) X.A (call (.builtin "min") [.ref p]) (EP X pins σ Q) X.xe s:=by
 obtain⟨B,M,pl,hz⟩:=I.list hq;have J:s.heap.IsList p B.toArray:=pl.isList;obtain⟨o,ho,ae,n,hd⟩:=id J;have lt:=zap ho;have W:=(Walks.list (prog:=X.prog) (w:=X.w) (A:=X.A.in1) (I.ok.hd hc) s.heap.objs.size p (zaF lt) B.toArray).toS;have F:=M.length;rw[zal]at F;have sz:B.toArray.size=ns.length:=by rw[zax];exact F.symm
 have U:∀(i:Nat) (v:Value),B.toArray[i]?=some v->∃t,v=zcv ((ns[i]?).getD 0) t:=λi v G=>AX M (by simpa using G)
 refine call_min_walkS (zb6 J ⟨s.heap.objs.size,_,_,_,_,_,_,_,rfl,W,⟨⟨_,zaE _ rfl,rfl,rfl⟩,J.at λo e=>zan _ e⟩,λb hb=>?_,by rw[sz];exact List.length_pos_iff.mpr Y,CmpOf.ints_lt (λi=>(ns[i]?).getD 0) U,λv s' G N=>?_⟩)
 ·rw[size_push']
  rcases List.mem_cons.mp hb with z|z
  ·rw[z];exact zdd _
  ·rw[List.mem_singleton.mp z];exact Nat.lt_succ_of_lt lt
 ·obtain⟨t,rfl⟩:=U _ v G
  rw[Moved.eq_with N];refine⟨.int (uP ns),H,I.kept (t':=s'.toks) λb o e=>N.heap b o (λz=>zaF (zap e) (List.mem_singleton.mp z)) (zan _ e),⟨t,?_⟩,q⟩;rw[sz];rfl
end
end My
namespace P
open PySem PySem.Spec PyProof.Rows L2
section
variable {X:Cx}
def DB:List D->Option D
 | [.lst l]=>(iV l).bind λns=>if ns=[]then none else some (.int (My.uP ns))
 | _=>none
theorem JW(B:X.calm=true):j9 X (.builtin "min") DB:=by
 intro pins s σ H xs M Q I r h;obtain⟨A,ds,d,J,F,e,q⟩:=h;unfold DB at e;split at e
 ·rename_i l
  obtain⟨ns,G,e⟩:=bind_some e;split at e
  ·cases e
  ·rename_i hn
   cases e;obtain⟨v,rfl,h1⟩:=F.one;obtain⟨a,ys,rfl,h2,r3⟩:=h1.lst_inv;rw[fU G r3]at h2;obtain⟨u,rfl,z⟩:=vals1 r;cases z;exact My.CP B I (.inl h2) hn (q _ H (Ext.refl _ _) (.int _))
 ·cases e
theorem PV{ns:List Int}(h:ns≠[]):DB [.lst (ns.map .int)]=some (.int (My.uP ns)):=by
 show(iV (ns.map .int)).bind _=_;rw[jC,aA,if_neg h]
end
section
variable {ρ ρ':cU}{f g:Ev}{a b:Bv}{l:Lv}{x y d r:D}{xs ys zs:List D}{i j:Int}{k:Nat}{s t:Sv}{o:Option Out}
theorem XZ{C:Addr}{n:Str}(h:f ρ=some x)(k:yG C n x=some r):dW C n f ρ=some r:=by unfold dW;rw[h,aA,k]
theorem ZC(h:f ρ=some x)(k:gM x=some xs):fQ f ρ=some xs:=by
 unfold fQ;rw[h,aA];cases x <;> first|exact k|cases k
theorem UD(h:l ρ=some [x,y])(k:gM x=some xs)(k2:gM y=some ys)(e:lP xs ys=zs):R1 l ρ=some zs:=by
 unfold R1;rw[h,aA];show(gM x).bind _=_;rw[k,aA,k2,aB,e]
theorem YI{c:Bool}{z:Option D}(h:a ρ=some c)(k:XG c (f ρ) (g ρ)=z):XH a f g ρ=z:=by unfold XH;rw[h,aA];exact k
theorem MQ(q:g ρ=some d)(hx:aD k ρ=some x)(z:f ρ=some y)(h:kH x y d=some r):DP k f g ρ=some (.nx (ρ.set k (some r))):=by unfold DP;rw[q,aA,hx,aA,z,aA,h,aB]
theorem T4{G:D->D->Option D}(h:f ρ=some x)(h2:g ρ=some y)(k:G x y=some r):eNew G f g ρ=some r:=by unfold eNew;rw[h,aA,h2,aA,k]
theorem V5{c:Bool}{z:Option D}(h:f ρ=some (.bl c))(k:XG c (g ρ) (some (.bl false))=z):NR f g ρ=z:=by unfold NR;rw[h,aA];exact k
theorem YK{i j:Nat}:kQ 2 (eG (aS i) (eG (aS j) tY)) (.tup [x,y]) ρ=some ((ρ.set i (some x)).set j (some y)):=rfl
theorem X1{i j k:Nat}{z:D}:kQ 3 (eG (aS i) (eG (aS j) (eG (aS k) tY))) (.tup [x,y,z]) ρ=some (((ρ.set i (some x)).set j (some y)).set k (some z)):=rfl
theorem qaD:aS k x ρ=some (ρ.set k (some x)):=rfl
end
section
variable {X:Cx}{O:List Nat}
theorem fxF{Q:zah}{w:World}{K:zae}{mg:Str->Option Value}{base:Heap}{x:Str}{k:Nat}{ps:List Str}{F:List D->Option D}(B:List D->Option D)(h:FnF Q w K mg base x k ps F)(e:F=B:=by rfl):FnF Q w K mg base x k ps B:=e ▸ h
theorem LZ{x:Str}{k:Nat}{ps:List Str}{F:List D->Option D}{e:Expr}{es:List Expr}{z:Lv}{p cpos:Pos}(FF:FnF X.prog X.w X.K X.mg X.base x k ps F)(hr:Room k X.A)(W:Gl X x)(Y:yF X O (e::es) z)(hl:Len z ps.length)
  (G:(x == ("__debug__" : Str))=false:=by decide) (he:zag (e::es) X.env=(false,eval e X.env)::zag es X.env:=by rfl) (J:(zaG cpos (zag es X.env)).any (·.1)=false:=by rfl) :
  PF X O (.Call (.Name x p) (e::es) [] cpos) (aT F z):=PE.mono (My.zO FF hr W Y G he J) λσ H Q ⟨H0,A0,A,E,ρ,d,st,e,q⟩=>by
 obtain⟨ds,M,U⟩:=bind_some e;exact⟨H0,A0,A,E,ρ,ds,st,M,λvs H1 B r1=>⟨A,ds,d,(st.mono B).live,r1.toL,by rw[r1.length];exact hl ρ ds M,U,λa H2 x2 n na N=>q a H2 (B.trans x2) (B.free n) na N⟩⟩
end
end P
namespace Law
open PySem PySem.Spec PyProof.Rows L2 P
local macro_rules | `(tactic|ac_rfl) => `(tactic|first
 | (with_reducible first|exact qa1|exact qaD|exact YK|exact X1|exact at0|exact at1|exact at2|exact XT|exact UH|exact UV|exact rfl|assumption)
 | ((with_reducible apply WN);exact rfl)
 | (with_reducible first|apply YO|apply VC|apply WM|apply GJ|apply QZ|apply QD|apply aM|apply UT|apply WG|apply NJ|apply NG|apply UZ|apply Y1|apply ZQ|apply VP|apply VX|apply OJ|apply RD|apply VU|apply QW|apply GI|apply OI|apply ZC|apply XZ|apply UD|apply YI|apply V5|apply MQ|apply T4|apply YR|apply WR|apply VM|apply ZN|apply MB) <;> ac_rfl
 | ((with_reducible apply ql);(with_reducible first|exact rfl|(apply decide_eq_true;assumption));ac_rfl)
 | ((with_reducible apply qg);(with_reducible first|exact rfl|(apply decide_eq_false;assumption));ac_rfl)
 | (with_reducible apply ql) <;> ac_rfl
 | (with_reducible apply qg) <;> ac_rfl
 | (with_reducible first|apply bR|apply g7|apply q_eqI|apply YW|apply T5|apply QY|apply xW|apply decide_eq_true|apply decide_eq_false) <;> ac_rfl
 | (show bA _ _ _ _ _=_;assumption)
 | (apply aM <;> ac_rfl)
 | (apply MB <;> ac_rfl)
 | (apply MQ <;> ac_rfl)
 | exact rfl
 | exact zcr rfl
 | decide
 | lia)
local macro_rules | `(tactic|simp_all[$xs,*]) => `(tactic|simp[-zac, -zab, aA, aB, $xs,*])
abbrev CN:Addr:=111
abbrev CA:Addr:=137
theorem at5{a b c d e f:D}{l:List D}:fL (a::b::c::d::e::f::l) 5=some f:=bV (j:=5) rfl
theorem at6{a b c d e f g:D}{l:List D}:fL (a::b::c::d::e::f::g::l) 6=some g:=bV (j:=6) rfl
structure Mk where
 nm:Str
 takes:List Int
 g:Int
 f:D
 pr:Int
def kD(m:Mk):D:=.tup [.str m.nm,tupI m.takes,.int m.g,m.f,.int m.pr]
structure Bk where
 M:Int
 kinds:List Str
 rs:List Ro
 makes:List Mk
def a9(C:Bk):D:=.tup [.int C.M,.tup (C.kinds.map .str),.tup (C.rs.map kR),.tup (C.makes.map kD)]
structure OkB(C:Bk):Prop where
 M3:3<=C.M
 M60:C.M<10^60
 k1:1<=C.kinds.length
 k6:C.kinds.length<=6
 gr:GR C.M (C.kinds.length:Int) C.rs
 tk:∀m∈C.makes,(∃t,m.takes=[t])\/∃t u,m.takes=[t,u]
 tb:∀m∈C.makes,∀t∈m.takes,0<=t/\t<(C.kinds.length:Int)
 gb:∀m∈C.makes,0<=m.g/\m.g<(C.kinds.length:Int)
 ml:C.makes.length<=6
 mp:∀m∈C.makes,0<=m.pr
inductive Rg where
 | name (x:Str) (j:Int) (w:List Int)
 | num (n j:Int) (w:List Int)
 | use1 (v:Nat) (nm:Str) (p:Rg) (w:List Int)
 | use2 (v:Nat) (nm:Str) (p q:Rg) (w:List Int)
 | lett (x:Str) (j:Int) (p q:Rg)
 | pick (c k:Int) (p q r:Rg) (w:List Int)
 | again (n k:Int) (x:Str) (p q:Rg) (w:List Int)
def pt:Rg->D
 | .name x _ _=>.tup [.str "name",.str x]
 | .num n j _=>.tup [.str "number",.int n,.int j]
 | .use1 _ nm p _=>.tup [.str "use",.str nm,.tup [pt p]]
 | .use2 _ nm p q _=>.tup [.str "use",.str nm,.tup [pt p,pt q]]
 | .lett x _ p q=>.tup [.str "let",.str x,pt p,pt q]
 | .pick c k p q r _=>.tup [.str "pick",.int c,.int k,pt p,pt q,pt r]
 | .again n k x p q _=>.tup [.str "again",.int n,.int k,.str x,pt p,pt q]
def rd:Rg->D
 | .name x _ w=>.tup [.str "name",.str x,tupI w]
 | .num n j w=>.tup [.str "number",.int n,.int j,tupI w]
 | .use1 v _ p w=>.tup [.str "use",.int (v:Int),.tup [rd p],tupI w]
 | .use2 v _ p q w=>.tup [.str "use",.int (v:Int),.tup [rd p,rd q],tupI w]
 | .lett x j p q=>.tup [.str "let",.str x,.int j,rd p,rd q]
 | .pick c k p q r w=>.tup [.str "pick",.int c,.int k,rd p,rd q,rd r,tupI w]
 | .again n k x p q w=>.tup [.str "again",.int n,.int k,.str x,rd p,rd q,tupI w]
def beh:Rg->List Int->Rg
 | .name x j w,v=>.name x j (w++v)
 | .num n j w,v=>.num n j (w++v)
 | .use1 u nm p w,v=>.use1 u nm p (w++v)
 | .use2 u nm p q w,v=>.use2 u nm p q (w++v)
 | .lett x j p q,v=>.lett x j p (beh q v)
 | .pick c k p q r w,v=>.pick c k p q r (w++v)
 | .again n k x p q w,v=>.again n k x p q (w++v)
def size:Rg->Nat
 | .name _ _ _=>1
 | .num _ _ _=>1
 | .use1 _ _ p _=>1+size p
 | .use2 _ _ p q _=>1+(size p+size q)
 | .lett _ _ p q=>1+(size p+size q)
 | .pick _ _ p q r _=>1+(size p+(size q+size r))
 | .again _ _ _ p q _=>1+(size p+size q)
def lets:Rg->Int
 | .name _ _ _=>0
 | .num _ _ _=>0
 | .use1 _ _ p _=>lets p
 | .use2 _ _ p q _=>lets p+lets q
 | .lett _ _ p q=>1+(lets p+lets q)
 | .pick _ _ p q r _=>lets p+(lets q+lets r)
 | .again _ _ _ p q _=>lets p+lets q
noncomputable def mpr(C:Bk)(v:Nat):Int:=((C.makes[v]?).map Mk.pr).getD 0
def cost(C:Bk):Rg->Int
 | .name _ _ w=>dH C.rs w
 | .num _ _ w=>dH C.rs w
 | .use1 v _ p w=>mpr C v+dH C.rs w+cost C p
 | .use2 v _ p q w=>mpr C v+dH C.rs w+(cost C p+cost C q)
 | .lett _ _ p q=>cost C p+cost C q
 | .pick _ _ p q r w=>dH C.rs w+(cost C p+(cost C q+cost C r))
 | .again _ _ _ p q w=>dH C.rs w+(cost C p+cost C q)
def WF(C:Bk):List (Str×Int)->Rg->Int->Prop
 | kn,.name x j w,e=>(x,j)∈kn/\gw C.rs j w=some e
 | kn,.num n j w,e=>(0<=n/\n<C.M)/\(0<=j/\j<(C.kinds.length:Int))/\gw C.rs j w=some e
 | kn,.use1 v nm p w,e=>∃m t,C.makes[v]?=some m/\m.nm=nm/\m.takes=[t]/\WF C kn p t/\gw C.rs m.g w=some e
 | kn,.use2 v nm p q w,e=>∃m t u,C.makes[v]?=some m/\m.nm=nm/\m.takes=[t,u]/\WF C kn p t/\WF C kn q u/\gw C.rs m.g w=some e
 | kn,.lett x j p q,e=>WF C kn p j/\WF C ((x,j)::kn) q e
 | kn,.pick c k p q r w,e=>(0<=c/\c<(C.kinds.length:Int))/\(0<=k/\k<(C.kinds.length:Int))/\WF C kn p c/\WF C kn q k/\WF C kn r k/\gw C.rs k w=some e
 | kn,.again n k x p q w,e=>(0<=n/\n<4)/\(0<=k/\k<(C.kinds.length:Int))/\WF C kn p k/\WF C ((x,k)::kn) q k/\gw C.rs k w=some e
theorem WF.mono{C:Bk}:∀ {g:Rg} {kn kn':List (Str×Int)} {e:Int},WF C kn g e->(∀p∈kn,p∈kn')->WF C kn' g e
 | .name x j w,kn,kn',e,⟨a,b⟩,h=>⟨h _ a,b⟩
 | .num n j w,kn,kn',e,a,h=>a
 | .use1 v nm p w,kn,kn',e,⟨m,t,a,b,c,d,f⟩,h=>⟨m,t,a,b,c,d.mono h,f⟩
 | .use2 v nm p q w,kn,kn',e,⟨m,t,u,a,b,c,d,d2,f⟩,h=>⟨m,t,u,a,b,c,d.mono h,d2.mono h,f⟩
 | .lett x j p q,kn,kn',e,⟨a,b⟩,h=>⟨a.mono h,b.mono λy B=>(List.mem_cons.mp B).elim (λz=>z ▸ zas ..) λz=>zaq _ (h y z)⟩
 | .pick c k p q r w,kn,kn',e,⟨a,b,c1,c2,c3,d⟩,h=>⟨a,b,c1.mono h,c2.mono h,c3.mono h,d⟩
 | .again n k x p q w,kn,kn',e,⟨a,b,c1,c2,d⟩,h=>⟨a,b,c1.mono h,c2.mono λy B=>(List.mem_cons.mp B).elim (λz=>z ▸ zas ..) λz=>zaq _ (h y z),d⟩
theorem vU{rs:List Ro}{j e f:Int}{v w:List Int}(h:gw rs j v=some e)(k:gw rs e w=some f):gw rs j (v++w)=some f:=by
 rw[nR,h];exact k
theorem WF.beh{C:Bk}{v:List Int}{f:Int}:∀ {g:Rg} {kn:List (Str×Int)} {e:Int},WF C kn g e->gw C.rs e v=some f->WF C kn (beh g v) f
 | .name x j w,kn,e,⟨a,b⟩,h=>⟨a,vU b h⟩
 | .num n j w,kn,e,⟨a,b,c⟩,h=>⟨a,b,vU c h⟩
 | .use1 u nm p w,kn,e,⟨m,t,a,b,c,d,f⟩,h=>⟨m,t,a,b,c,d,vU f h⟩
 | .use2 u nm p q w,kn,e,⟨m,t,u',a,b,c,d,d2,f⟩,h=>⟨m,t,u',a,b,c,d,d2,vU f h⟩
 | .lett x j p q,kn,e,⟨a,b⟩,h=>⟨a,b.beh h⟩
 | .pick c k p q r w,kn,e,⟨a,b,c1,c2,c3,d⟩,h=>⟨a,b,c1,c2,c3,vU d h⟩
 | .again n k x p q w,kn,e,⟨a,b,c1,c2,d⟩,h=>⟨a,b,c1,c2,vU d h⟩
theorem mV:∀(g:Rg) (v:List Int),size (beh g v)=size g
 | .name ..,_=>rfl
 | .num ..,_=>rfl
 | .use1 ..,_=>rfl
 | .use2 ..,_=>rfl
 | .lett x j p q,v=>by rw[beh,size,size,mV q v]
 | .pick ..,_=>rfl
 | .again ..,_=>rfl
theorem sY:∀(g:Rg) (v:List Int),lets (beh g v)=lets g
 | .name ..,_=>rfl
 | .num ..,_=>rfl
 | .use1 ..,_=>rfl
 | .use2 ..,_=>rfl
 | .lett x j p q,v=>by rw[beh,lets,lets,sY q v]
 | .pick ..,_=>rfl
 | .again ..,_=>rfl
theorem MD:∀(g:Rg) (v:List Int),pt (beh g v)=pt g
 | .name ..,_=>rfl
 | .num ..,_=>rfl
 | .use1 ..,_=>rfl
 | .use2 ..,_=>rfl
 | .lett x j p q,v=>by rw[beh,pt,pt,MD q v]
 | .pick ..,_=>rfl
 | .again ..,_=>rfl
theorem AG{C:Bk}:∀(g:Rg) (v:List Int),cost C (beh g v)=cost C g+dH C.rs v
 | .name ..,_=>by simp only[beh,cost,eI]
 | .num ..,_=>by simp only[beh,cost,eI]
 | .use1 ..,_=>by simp only[beh,cost,eI];lia
 | .use2 ..,_=>by simp only[beh,cost,eI];lia
 | .lett x j p q,v=>by simp only[beh,cost,AG q v];lia
 | .pick ..,_=>by simp only[beh,cost,eI];lia
 | .again ..,_=>by simp only[beh,cost,eI];lia
def JG(C:Bk):Rg->Prop
 | .name _ _ w=>∀n∈w,∃r,i8 C.rs n=some r
 | .num _ _ w=>∀n∈w,∃r,i8 C.rs n=some r
 | .use1 v _ p w=>(∃m,C.makes[v]?=some m)/\JG C p/\∀n∈w,∃r,i8 C.rs n=some r
 | .use2 v _ p q w=>(∃m,C.makes[v]?=some m)/\JG C p/\JG C q/\∀n∈w,∃r,i8 C.rs n=some r
 | .lett _ _ p q=>JG C p/\JG C q
 | .pick _ _ p q r w=>JG C p/\JG C q/\JG C r/\∀n∈w,∃r,i8 C.rs n=some r
 | .again _ _ _ p q w=>JG C p/\JG C q/\∀n∈w,∃r,i8 C.rs n=some r
theorem WF.fit{C:Bk}:∀ {g:Rg} {kn:List (Str×Int)} {e:Int},WF C kn g e->JG C g
 | .name x j w,kn,e,⟨a,b⟩=>gS b
 | .num n j w,kn,e,⟨a,b,c⟩=>gS c
 | .use1 v nm p w,kn,e,⟨m,t,a,b,c,d,f⟩=>⟨⟨m,a⟩,d.fit,gS f⟩
 | .use2 v nm p q w,kn,e,⟨m,t,u,a,b,c,d,d2,f⟩=>⟨⟨m,a⟩,d.fit,d2.fit,gS f⟩
 | .lett x j p q,kn,e,⟨a,b⟩=>⟨a.fit,b.fit⟩
 | .pick c k p q r w,kn,e,⟨a,b,c1,c2,c3,d⟩=>⟨c1.fit,c2.fit,c3.fit,gS d⟩
 | .again n k x p q w,kn,e,⟨a,b,c1,c2,d⟩=>⟨c1.fit,c2.fit,gS d⟩
def Short:Rg->Prop
 | .name _ _ w=>w.length<=6
 | .num _ _ w=>w.length<=6
 | .use1 _ _ p w=>Short p/\w.length<=6
 | .use2 _ _ p q w=>Short p/\Short q/\w.length<=6
 | .lett _ _ p q=>Short p/\Short q
 | .pick _ _ p q r w=>Short p/\Short q/\Short r/\w.length<=6
 | .again _ _ _ p q w=>Short p/\Short q/\w.length<=6
theorem d5{C:Bk}(B:OkB C){j e:Int}{w:List Int}(h:gw C.rs j w=some e)(z:0<=j)(q:j<(C.kinds.length:Int)):w.length<=6/\0<=e/\e<(C.kinds.length:Int):=by
 have a:=jV B.gr h;have b:=SN B.gr h q;have:=B.k6;exact⟨by lia,by lia,b⟩
def OkN(C:Bk)(kn:List (Str×Int)):Prop:=∀p∈kn,0<=p.2/\p.2<(C.kinds.length:Int)
theorem OkN.cons{C:Bk}{kn:List (Str×Int)}{x:Str}{j:Int}(h:OkN C kn)(a:0<=j)(b:j<(C.kinds.length:Int)):OkN C ((x,j)::kn):=λp q=>by
 rcases List.mem_cons.mp q with z|z
 ·rw[z];exact⟨a,b⟩
 ·exact h p z
theorem WF.short{C:Bk}(B:OkB C):∀ {g:Rg} {kn:List (Str×Int)} {e:Int},OkN C kn->WF C kn g e->Short g/\0<=e/\e<(C.kinds.length:Int)
 | .name x j w,kn,e,K,⟨a,b⟩=>d5 B b (K _ a).1 (K _ a).2
 | .num n j w,kn,e,K,⟨a,b,c⟩=>d5 B c b.1 b.2
 | .use1 v nm p w,kn,e,K,⟨m,t,a,b,c,d,f⟩=>by
  have z:=zaw a;have s:=d5 B f (B.gb m z).1 (B.gb m z).2;exact⟨⟨(d.short B K).1,s.1⟩,s.2⟩
 | .use2 v nm p q w,kn,e,K,⟨m,t,u,a,b,c,d,d2,f⟩=>by
  have z:=zaw a;have s:=d5 B f (B.gb m z).1 (B.gb m z).2;exact⟨⟨(d.short B K).1,(d2.short B K).1,s.1⟩,s.2⟩
 | .lett x j p q,kn,e,K,⟨a,b⟩=>by
  have F:=a.short B K;have G:=b.short B (K.cons F.2.1 F.2.2);exact⟨⟨F.1,G.1⟩,G.2⟩
 | .pick c k p q r w,kn,e,K,⟨a,b,c1,c2,c3,d⟩=>by
  have s:=d5 B d b.1 b.2;exact⟨⟨(c1.short B K).1,(c2.short B K).1,(c3.short B K).1,s.1⟩,s.2⟩
 | .again n k x p q w,kn,e,K,⟨a,b,c1,c2,d⟩=>by
  have s:=d5 B d b.1 b.2;exact⟨⟨(c1.short B K).1,(c2.short B (K.cons b.1 b.2)).1,s.1⟩,s.2⟩
def NF(U:List Str):List Str->Rg->Prop
 | _,.name _ _ _=>True
 | _,.num _ _ _=>True
 | N,.use1 _ _ p _=>NF U N p
 | N,.use2 _ _ p q _=>NF U N p/\NF U N q
 | N,.lett x _ p q=>NF U N p/\(x∉N/\x∈U)/\NF U (x::N) q
 | N,.pick _ _ p q r _=>NF U N p/\NF U N q/\NF U N r
 | N,.again _ _ x p q _=>NF U N p/\(x∉N/\x∈U)/\NF U (x::N) q
theorem NF.anti{U:List Str}:∀ {g:Rg} {N N':List Str},NF U N g->(∀y∈N',y∈N)->NF U N' g
 | .name ..,_,_,_,_=>trivial
 | .num ..,_,_,_,_=>trivial
 | .use1 u nm p w,N,N',h,k=>NF.anti (g:=p) (N:=N) h k
 | .use2 ..,N,N',⟨a,b⟩,k=>⟨NF.anti a k,NF.anti b k⟩
 | .lett x j p q,N,N',⟨a,b,c⟩,k=>⟨NF.anti a k,⟨λz=>b.1 (k _ z),b.2⟩,NF.anti c λy B=>(List.mem_cons.mp B).elim (λz=>z ▸ zas ..) λz=>zaq _ (k y z)⟩
 | .pick ..,N,N',⟨a,b,c⟩,k=>⟨NF.anti a k,NF.anti b k,NF.anti c k⟩
 | .again n k' x p q w,N,N',⟨a,b,c⟩,k=>⟨NF.anti a k,⟨λz=>b.1 (k _ z),b.2⟩,NF.anti c λy B=>(List.mem_cons.mp B).elim (λz=>z ▸ zas ..) λz=>zaq _ (k y z)⟩
theorem NF.beh{U:List Str}{v:List Int}:∀ {g:Rg} {N:List Str},NF U N g->NF U N (beh g v)
 | .name ..,_,_=>trivial
 | .num ..,_,_=>trivial
 | .use1 ..,N,h=>h
 | .use2 ..,N,h=>h
 | .lett x j p q,N,⟨a,b,c⟩=>⟨a,b,c.beh⟩
 | .pick ..,N,h=>h
 | .again ..,N,h=>h
inductive Pa where
 | name (x:Str)
 | num (n j:Int)
 | use1 (nm:Str) (p:Pa)
 | use2 (nm:Str) (p q:Pa)
 | lett (x:Str) (p q:Pa)
 | pick (c k:Int) (p q r:Pa)
 | again (n k:Int) (x:Str) (p q:Pa)
def pa:Rg->Pa
 | .name x _ _=>.name x
 | .num n j _=>.num n j
 | .use1 _ nm p _=>.use1 nm (pa p)
 | .use2 _ nm p q _=>.use2 nm (pa p) (pa q)
 | .lett x _ p q=>.lett x (pa p) (pa q)
 | .pick c k p q r _=>.pick c k (pa p) (pa q) (pa r)
 | .again n k x p q _=>.again n k x (pa p) (pa q)
def bI:Pa->D
 | .name x=>.tup [.str "name",.str x]
 | .num n j=>.tup [.str "number",.int n,.int j]
 | .use1 nm p=>.tup [.str "use",.str nm,.tup [bI p]]
 | .use2 nm p q=>.tup [.str "use",.str nm,.tup [bI p,bI q]]
 | .lett x p q=>.tup [.str "let",.str x,bI p,bI q]
 | .pick c k p q r=>.tup [.str "pick",.int c,.int k,bI p,bI q,bI r]
 | .again n k x p q=>.tup [.str "again",.int n,.int k,.str x,bI p,bI q]
def psz:Pa->Nat
 | .name _=>1
 | .num _ _=>1
 | .use1 _ p=>1+psz p
 | .use2 _ p q=>1+(psz p+psz q)
 | .lett _ p q=>1+(psz p+psz q)
 | .pick _ _ p q r=>1+(psz p+(psz q+psz r))
 | .again _ _ _ p q=>1+(psz p+psz q)
theorem cE:∀g:Rg,psz (pa g)=size g
 | .name ..=>rfl
 | .num ..=>rfl
 | .use1 _ _ p _=>by simp only[pa,psz,size,cE p]
 | .use2 _ _ p q _=>by simp only[pa,psz,size,cE p,cE q]
 | .lett _ _ p q=>by simp only[pa,psz,size,cE p,cE q]
 | .pick _ _ p q r _=>by simp only[pa,psz,size,cE p,cE q,cE r]
 | .again _ _ _ p q _=>by simp only[pa,psz,size,cE p,cE q]
theorem gN:∀g:Rg,pt g=bI (pa g)
 | .name ..=>rfl
 | .num ..=>rfl
 | .use1 _ _ p _=>by simp only[pa,bI,pt,gN p]
 | .use2 _ _ p q _=>by simp only[pa,bI,pt,gN p,gN q]
 | .lett _ _ p q=>by simp only[pa,bI,pt,gN p,gN q]
 | .pick _ _ p q r _=>by simp only[pa,bI,pt,gN p,gN q,gN r]
 | .again _ _ _ p q _=>by simp only[pa,bI,pt,gN p,gN q]
theorem xG:∀ {p q:Pa},bI p=bI q->p=q:=by
 intro p;induction p with
 | name x=>intro q h;cases q <;> simp[-zac,-zab,aA,aB,bI]at h ⊢ <;> exact h
 | num n j=>intro q h;cases q <;> simp[-zac,-zab,aA,aB,bI]at h ⊢ <;> exact h
 | use1 nm p ih=>intro q h;cases q <;> simp[-zac,-zab,aA,aB,bI]at h ⊢ <;> exact⟨h.1,ih h.2⟩
 | use2 nm p q ih1 ih2=>intro q h;cases q <;> simp[-zac,-zab,aA,aB,bI]at h ⊢ <;> exact⟨h.1,ih1 h.2.1,ih2 h.2.2⟩
 | lett x p q ih1 ih2=>intro q h;cases q <;> simp[-zac,-zab,aA,aB,bI]at h ⊢ <;> exact⟨h.1,ih1 h.2.1,ih2 h.2.2⟩
 | pick c k p q r ih1 ih2 ih3=>intro q h;cases q <;> simp[-zac,-zab,aA,aB,bI]at h ⊢ <;> first|exact⟨h.1,h.2.1,ih1 h.2.2.1,ih2 h.2.2.2.1,ih3 h.2.2.2.2⟩|exact absurd h.1 (by decide)
 | again n k x p q ih1 ih2=>intro q h;cases q <;> simp[-zac,-zab,aA,aB,bI]at h ⊢ <;> first|exact⟨h.1,h.2.1,h.2.2.1,ih1 h.2.2.2.1,ih2 h.2.2.2.2⟩|exact absurd h.1 (by decide)
theorem nE{q:Type}{f:q->D}(h:∀a b,f a=f b->a=b):∀ {l m:List q},l.map f=m.map f->l=m
 | [],[],_=>rfl
 | [],_::_,e=>nomatch e
 | _::_,[],e=>nomatch e
 | a::l,b::m,e=>by injection e with e1 e2;rw[h _ _ e1,nE h e2]
theorem QT(a b:Mk)(h:kD a=kD b):a=b:=by
 unfold kD tupI at h;simp only[D.tup.injEq,zek,D.str.injEq,D.int.injEq,and_true]at h;obtain⟨h1,h2,q,z,B⟩:=h;have:=nE (f:=D.int) (λ_ _ e=>by injection e) h2;cases a;cases b;simp only at *;subst h1 q z B this;rfl
theorem N9(a b:Ro)(h:kR a=kR b):a=b:=by
 unfold kR at h;simp only[D.tup.injEq,zek,D.int.injEq,and_true]at h;obtain⟨h1,h2,q,z,B⟩:=h;cases a;cases b;simp only at *;subst h1 h2 q z B;rfl
theorem wX{a b:Bk}(h:a9 a=a9 b):a=b:=by
 unfold a9 at h;simp only[D.tup.injEq,zek,D.int.injEq,and_true]at h;obtain⟨h1,h2,q,z⟩:=h;have B:=nE (f:=D.str) (λ_ _ e=>by injection e) h2;have F:=nE N9 q;have G:=nE QT z;cases a;cases b;simp only at *;subst h1 B F G;rfl
noncomputable def fE(h:Option Str)(acc l:List Str):List Str:=acc++l.filter λx=>!decide (some x=h) && !decide (x∈acc)
def aP:Pa->List Str
 | .name x=>[x]
 | .num _ _=>[]
 | .use1 _ p=>fE none [] (aP p)
 | .use2 _ p q=>fE none (fE none [] (aP p)) (aP q)
 | .lett x p q=>fE (some x) (fE none [] (aP p)) (aP q)
 | .pick _ _ p q r=>fE none (fE none (fE none [] (aP p)) (aP q)) (aP r)
 | .again _ _ x p q=>fE (some x) (fE none [] (aP p)) (aP q)
abbrev Sm:=Option (Int×Int)
def i7:Sm->Sm->Sm
 | some a,some b=>some (a.1*b.1,a.2+b.2)
 | _,_=>none
def bU:Sm->Sm->Sm
 | some a,some b=>some (a.1+b.1,min a.2 b.2)
 | none,b=>b
 | a,none=>a
def DU(C:Bk)(j k:Int):Sm:=
 if(bS C.rs k 8 j).length=0 then none else some (((bS C.rs k 8 j).length:Int),My.uP ((bS C.rs k 8 j).map (dH C.rs)))
def csum(C:Bk)(own j k:Int)(q:List Sm):Sm:=q.foldl i7 (i7 (some (1,own)) (DU C j k))
abbrev eM:=Str->Int
def eW(e:eM)(x:Str)(j:Int):eM:=λy=>if y=x then j else e y
noncomputable def aU(C:Bk)(v i:Nat):Int:=(((C.makes[v]?).map Mk.takes).getD [])[i]?.getD 0
noncomputable def dG(C:Bk)(v:Nat):Int:=((C.makes[v]?).map Mk.g).getD 0
noncomputable def nN(C:Bk)(nm:Str)(n:Nat):List Nat:=(zam C.makes.length).filter λv=>match C.makes[v]? with
 | some m=>decide (m.nm=nm) && decide (m.takes.length=n)
 | none=>false
def aR(C:Bk):Pa->eM->Int->Sm
 | .name x,e,k=>csum C 0 (e x) k []
 | .num _ j,_,k=>csum C 0 j k []
 | .use1 nm p,e,k=>(nN C nm 1).foldl (λt v=>bU t (csum C (mpr C v) (dG C v) k [aR C p e (aU C v 0)])) none
 | .use2 nm p q,e,k=>(nN C nm 2).foldl (λt v=>bU t (csum C (mpr C v) (dG C v) k [aR C p e (aU C v 0),aR C q e (aU C v 1)])) none
 | .lett x p q,e,k=>(zam C.kinds.length).foldl (λt (j:Nat)=>bU t (csum C 0 k k [aR C p e (j:Int),aR C q (eW e x (j:Int)) k])) none
 | .pick c k' p q r,e,k=>csum C 0 k' k [aR C p e c,aR C q e k',aR C r e k']
 | .again _ k' x p q,e,k=>csum C 0 k' k [aR C p e k',aR C q (eW e x k') k']
theorem bB{h:Option Str}{acc l:List Str}{x:Str}:x∈fE h acc l↔x∈acc\/(x∈l/\some x≠h):=by
 unfold fE;by_cases hx:x∈acc <;> simp_all[hx]
theorem cA(C:Bk):∀(p:Pa) (e f:eM) (k:Int),(∀x∈aP p,e x=f x)->aR C p e k=aR C p f k
 | .name x,e,f,k,h=>by simp only[aR,h x (by simp_all[aP])]
 | .num _ j,e,f,k,h=>rfl
 | .use1 nm p,e,f,k,h=>by
  have a:=λk=>cA C p e f k λx hx=>h x (by simp only[aP,bB];exact .inr ⟨hx,by simp[-zac,-zab,aA,aB]⟩)
  simp only[aR,a]
 | .use2 nm p q,e,f,k,h=>by
  have a:=λk=>cA C p e f k λx hx=>h x (by simp only[aP,bB];exact .inl (.inr ⟨hx,by simp[-zac,-zab,aA,aB]⟩))
  have b:=λk=>cA C q e f k λx hx=>h x (by simp only[aP,bB];exact .inr ⟨hx,by simp[-zac,-zab,aA,aB]⟩)
  simp only[aR,a,b]
 | .lett y p q,e,f,k,h=>by
  have a:=λk=>cA C p e f k λx hx=>h x (by simp only[aP,bB];exact .inl (.inr ⟨hx,by simp[-zac,-zab,aA,aB]⟩))
  have b:=λj k=>cA C q (eW e y j) (eW f y j) k λx hx=>by
   unfold eW;by_cases z:x=y
   ·rw[if_pos z,if_pos z]
   ·rw[if_neg z,if_neg z];exact h x (by simp only[aP,bB];exact .inr ⟨hx,by simpa using z⟩)
  simp only[aR,a,b]
 | .pick c k' p q r,e,f,k,h=>by
  have a:=λk=>cA C p e f k λx hx=>h x (by simp only[aP,bB];exact .inl (.inl (.inr ⟨hx,by simp[-zac,-zab,aA,aB]⟩)))
  have b:=λk=>cA C q e f k λx hx=>h x (by simp only[aP,bB];exact .inl (.inr ⟨hx,by simp[-zac,-zab,aA,aB]⟩))
  have c:=λk=>cA C r e f k λx hx=>h x (by simp only[aP,bB];exact .inr ⟨hx,by simp[-zac,-zab,aA,aB]⟩)
  simp only[aR,a,b,c]
 | .again n k' y p q,e,f,k,h=>by
  have a:=λk=>cA C p e f k λx hx=>h x (by simp only[aP,bB];exact .inl (.inr ⟨hx,by simp[-zac,-zab,aA,aB]⟩))
  have b:=λj k=>cA C q (eW e y j) (eW f y j) k λx hx=>by
   unfold eW;by_cases z:x=y
   ·rw[if_pos z,if_pos z]
   ·rw[if_neg z,if_neg z];exact h x (by simp only[aP,bB];exact .inr ⟨hx,by simpa using z⟩)
  simp only[aR,a,b]
def JC:List Str->List Int->eM
 | x::xs,j::js=>eW (JC xs js) x j
 | _,_=>λ_=>0
theorem y6(e:eM):∀ {xs:List Str} {x:Str},x∈xs->JC xs (xs.map e) x=e x
 | [],_,h=>nomatch h
 | y::ys,x,h=>by
  show eW (JC ys (ys.map e)) y (e y) x=e x;unfold eW;by_cases z:x=y
  ·rw[if_pos z,z]
  ·rw[if_neg z];exact y6 e ((List.mem_cons.mp h).resolve_left z)
def W8:Key->Int
 | .inl i=>i
 | .inr _=>0
noncomputable def v4(m:Nat):Nat->List (List Int)
 | 0=>[[]]
 | n+1=>(v4 m n).flatMap λl=>(zam m).map λ(j:Nat)=>(j:Int)::l
theorem vK(m:Nat):∀n,(v4 m n).length=m^n
 | 0=>rfl
 | n+1=>by
  have h:∀L:List (List Int),(L.flatMap λl=>(zam m).map λ(j:Nat)=>(j:Int)::l).length=L.length*m:=λL=>by
   induction L with
   | nil=>simp[-zac,-zab,aA,aB]
   | cons a L ih=>rw[List.flatMap_cons,zbc,ih,zal,zcq,zaz,Nat.succ_mul,Nat.add_comm]
  rw[v4,h,vK m n,Nat.pow_succ]
theorem uU(m:Nat):∀ {n:Nat} {l:List Int},l.length=n->(∀j∈l,0<=j/\j<(m:Int))->l∈v4 m n
 | 0,[],_,_=>by simp_all[v4]
 | n+1,j::l,hl,h=>by
  have a:=uU m (n:=n) (l:=l) (by simpa using hl) λi hi=>h i (zaq _ hi)
  have b:=h j (zas ..);refine List.mem_flatMap.mpr ⟨l,a,List.mem_map.mpr ⟨j.toNat,List.mem_range.mpr (by lia),?_⟩⟩;rw[show((j.toNat:Nat):Int)=j by lia]
open Classical in
def FF(b p:D):My.Mf:=λk=>if h:∃q:Bk×Pa,b=a9 q.1/\p=bI q.2 then aR h.choose.1 h.choose.2 (JC (aP h.choose.2) (k.2.map W8)) (W8 k.1)else none
open Classical in
def DM(b p:D):List My.NK:=if h:∃q:Bk×Pa,b=a9 q.1/\p=bI q.2 then(v4 h.choose.1.kinds.length ((aP h.choose.2).length+1)).map λl=>match l with
 | j::l=>(.inl j,l.map .inl)
 | []=>(.inl 0,[])else []
theorem ZT(C:Bk)(p:Pa)(k:Int)(l:List Int):FF (a9 C) (bI p) (.inl k,l.map .inl)=aR C p (JC (aP p) l) k:=by
 have h:∃q:Bk×Pa,a9 C=a9 q.1/\bI p=bI q.2:=⟨(C,p),rfl,rfl⟩;unfold FF;rw[dif_pos h];have B:=wX h.choose_spec.1;have z:=xG h.choose_spec.2;rw[<- B,<- z,zar];have e:(W8 ∘ zbp:Int->Int)=id:=rfl;rw[e,List.map_id];rfl
theorem ZH{C:Bk}{p:Pa}{k:Int}{l:List Int}(F:0<=k/\k<(C.kinds.length:Int))(M:l.length=(aP p).length)(h:∀j∈l,0<=j/\j<(C.kinds.length:Int)):((.inl k,l.map .inl):My.NK)∈DM (a9 C) (bI p):=by
 have B:∃q:Bk×Pa,a9 C=a9 q.1/\bI p=bI q.2:=⟨(C,p),rfl,rfl⟩;unfold DM;rw[dif_pos B];have N:=wX B.choose_spec.1;have J:=xG B.choose_spec.2;rw[<- N,<- J];refine List.mem_map.mpr ⟨k::l,uU _ (by rw[zaz,M]) (λj G=>?_),rfl⟩;rcases List.mem_cons.mp G with z|z
 ·rw[z];exact F
 ·exact h j z
theorem U6{C:Bk}{p:Pa}(F:C.kinds.length<=6)(J:(aP p).length<=8):(DM (a9 C) (bI p)).length<zaj:=by
 have z:∃q:Bk×Pa,a9 C=a9 q.1/\bI p=bI q.2:=⟨(C,p),rfl,rfl⟩;unfold DM;rw[dif_pos z];have G:=wX z.choose_spec.1;have B:=xG z.choose_spec.2;rw[<- G,<- B,zal,vK];have a:C.kinds.length^((aP p).length+1)<=6^((aP p).length+1):=Nat.pow_le_pow_left F _;have b:(6:Nat)^((aP p).length+1)<=6^9:=Nat.pow_le_pow_right (by decide) (by lia);have c:(6:Nat)^9<zaj:=by decide
 lia
noncomputable def top(i:Nat):Stmt:=PySem.Challenge.pw_chiefway_k62_least_prices.main.body.getD i (.Pass ⟨0,0,0,0⟩)
abbrev s_law:Stmt:=top 63
abbrev tb(x:Str)(i:Nat)(ps:List Str):=(x,i,ps)
def tab:List (Str×Nat×List Str):=[tb "_law_cell" 35 ["script", "k"],tb "_law_price" 37 ["cell"],tb "_law_road" 38 ["cell", "M", "j", "k"],tb "_law_roads" 39 ["script", "M", "many"],tb "_law_name" 36 ["cell", "n"],tb "_law_shape" 40 ["cell", "M", "n"],tb "_law_makes" 41 ["script", "M", "many"],tb "_law_book" 42 ["script"],tb "_law_heads" 56 ["script", "tome", "names"],tb "_law_back" 44 ["tome", "k", "cell"],tb "_law_cost" 45 ["tome", "way"],tb "_law_leaf" 47 ["tome", "known", "kind", "cell"],tb "_law_begun" 57 ["script", "tome", "names", "pairs"],tb "_law_walk" 43 ["tome", "j", "cell"],tb "_law_behind" 46 ["reading", "way"],tb "_law_walked" 54 ["tome", "state", "cell"],tb "_law_many" 58 ["script"],tb "_law_over" 48 ["part", "reading", "kind", "states", "cost"],tb "_law_used" 49 ["tome", "known", "state", "cell"],tb "_law_closed" 53 ["tome", "known", "state", "pair", "cell"],tb "_law_picked" 50 ["tome", "known", "state", "cell"],tb "_law_around" 51 ["tome", "known", "state", "name", "cell"],tb "_law_named" 52 ["tome", "known", "state", "name", "cell"],tb "_law_step" 55 ["tome", "names", "now", "cell"],tb "_law_grown" 59 ["script", "tome", "names", "pairs"],tb "ways" 7 ["book", "j", "k"],tb "way_price" 8 ["book", "way"],tb "ways_sum" 19 ["book", "routes"],tb "name_within" 5 ["part", "number"],tb "names_used" 17 ["part", "below"],tb "inner" 4 ["part"],tb "number_in" 25 ["total"],tb "choices" 10 ["book", "part"],tb "either" 21 ["one", "other"],tb "both" 20 ["one", "other"],tb "inner_kinds" 11 ["book", "part", "kind", "choice"],tb "inner_heads" 12 ["heads", "part", "number", "choice"],tb "spots" 24 ["atlas", "node", "heads", "kind", "choice"],tb "way_begins" 13 ["book", "heads", "part", "kind", "choice"],tb "sum_at" 22 ["atlas", "node", "heads", "kind"],tb "choice_sum" 23 ["atlas", "node", "heads", "kind", "choice"],tb "counts" 26 ["book", "heads", "part"],tb "least" 33 ["book", "heads", "part"],tb "_law_number" 60 ["script"],tb "parted" 31 ["n", "many"],tb "assembled" 14 ["part", "choice", "readings", "way"],tb "sizes" 30 ["atlas", "places", "routes"],tb "told_at" 28 ["atlas", "node", "heads", "kind", "n"],tb "told_choice" 29 ["atlas", "node", "heads", "kind", "choice", "n"],tb "told" 27 ["book", "heads", "part", "kind", "n"],tb "_law_priced" 62 ["tome", "reading"],tb "_law_whole" 61 ["found"]]
noncomputable def blt:List Str:=["bool", "dict", "enumerate", "int", "isinstance", "len", "list", "max", "min", "range", "reversed", "sum", "tuple", "zip"]
noncomputable def gis:List (Str×Int):=[]
theorem sc_law:FnScope ["script", "tome", "names", "pairs", "state", "part", "sizes_v", "handed", "found", "k", "n", "kind", "one", "kept"] ["script"] (aK s_law):=⟨rfl,rfl,rfl,by decide +kernel,rfl,by decide +kernel,by decide +kernel⟩
structure Txt(K:zae)(mg:Str->Option Value):Prop where
 d:∀p∈tab,My.DefAt K mg p.1 (top p.2.1) p.2.2
 b:∀x∈blt,mg x=none
 g:∀p∈gis,GInt mg p.1 p.2
 o_Node:ObT K mg "Node" "Node.__init__" "part" (inClass (top 16) 0) CN ["part", "below", "names", "found"]
 o_Atlas:ObT K mg "Atlas" "Atlas.__init__" "book" (inClass (top 18) 0) CA ["book", "routes", "spans"]
theorem Txt.n{K:zae}{mg:Str->Option Value}(T:Txt K mg){x:Str}(h:x∈blt:=by decide +kernel):mg x=none:=T.b x h
abbrev Tx(P:zah)(w:World)(K:zae)(mg:Str->Option Value)(base:Heap):Prop:=Txt K mg
abbrev Zt(x:Str)(ps:List Str)(k n:Nat):Type:={b:Sv // ∀ {P:zah} {w:World} {K:zae} {mg:Str->Option Value} {base:Heap},Tx P w K mg base->Fn P w K mg base x k ps (bG n b)}
def gD(N:List Str)(i:Nat){x:Str}{ps:List Str}{k:Nat}{b:Sv}(h:∀ {P:zah} {w:World} {K:zae} {mg:Str->Option Value} {base:Heap} {B:Addr} {z:Value} {A:zao} {q:List Env} {H:Hp} {E:XK} (T:Tx P w K mg base) (s:zad) (nd:N.Nodup) (F:Room k (A.deeper (zaJ x (aK (top i)) s.heap.objs.size B z))) (hu:(A.deeper (zaJ x (aK (top i)) s.heap.objs.size B z)).units+1<cLine),∃g,PSDs (g9 uF P w K mg base N x (aK (top i)) B z A q s H E).nox ⟨[],[]⟩ [] (bM (top i)) g []/\g=b)(m:(x,i,ps)∈tab:=by decide +kernel)(sc:FnScope N ps (aK (top i)):=by exact⟨rfl,rfl,rfl,by decide +kernel,rfl,by decide +kernel,by decide +kernel⟩):Zt x ps (k+1) N.length:=⟨b,λT=>A3 (T.d _ m) sc λB z A q s H E F=>h T s sc.nd F (nL F)⟩
abbrev ZtF(x:Str)(ps:List Str)(k n:Nat):Type:={b:Sv // ∀ {P:zah} {w:World} {K:zae} {mg:Str->Option Value} {base:Heap},Tx P w K mg base->FnF P w K mg base x k ps (NY n b)}
def qm(N:List Str)(i:Nat){x:Str}{ps:List Str}{k:Nat}{b:Sv}(h:∀ {P:zah} {w:World} {K:zae} {mg:Str->Option Value} {base:Heap} {B:Addr} {z:Value} {A:zao} {q:List Env} {H:Hp} {E:XK} (T:Tx P w K mg base) (s:zad) (nd:N.Nodup) (F:Room k (A.deeper (zaJ x (aK (top i)) s.heap.objs.size B z))) (hu:(A.deeper (zaJ x (aK (top i)) s.heap.objs.size B z)).units+1<cLine),∃g,PSs (g9 uF P w K mg base N x (aK (top i)) B z A q s H E).nox (bM (top i)) (tSF [] g)/\g=b)(m:(x,i,ps)∈tab:=by decide +kernel)(sc:FnScope N ps (aK (top i)):=by exact⟨rfl,rfl,rfl,by decide +kernel,rfl,by decide +kernel,by decide +kernel⟩):ZtF x ps (k+1) N.length:=⟨b,λT=>UX (T.d _ m) sc λB z A q s H E F=>h T s sc.nd F (nL F)⟩
abbrev Zr(x:Str)(ps:List Str)(k n m:Nat):Type:={b:(List D->Option D)->Sv // ∀ {P:zah} {w:World} {K:zae} {mg:Str->Option Value} {base:Heap},Tx P w K mg base->Fn P w K mg base x (k+m+1) ps (gC n b m)}
def DQ(N:List Str)(i:Nat){x:Str}{ps:List Str}{k m:Nat}{b:(List D->Option D)->Sv}(h:∀ {P:zah} {w:World} {K:zae} {mg:Str->Option Value} {base:Heap} {fa:Addr} {cdv:Value} {A:zao} {outer:List Env} {H:Hp} {E:XK} (T:Tx P w K mg base) (R:List D->Option D) (j:Nat) (hj:k<=j) (ih:Fn P w K mg base x j ps R) (s:zad) (nd:N.Nodup) (hr:Room j (A.deeper (zaJ x (aK (top i)) s.heap.objs.size fa cdv))) (hu:(A.deeper (zaJ x (aK (top i)) s.heap.objs.size fa cdv)).units+1<cLine),∃g,PSDs (g9 uF P w K mg base N x (aK (top i)) fa cdv A outer s H E).nox ⟨[],[]⟩ [] (bM (top i)) g []/\g=b R)(me:(x,i,ps)∈tab:=by decide +kernel)(sc:FnScope N ps (aK (top i)):=by exact⟨rfl,rfl,rfl,by decide +kernel,rfl,by decide +kernel,by decide +kernel⟩):Zr x ps k N.length m:=⟨b,λT=>by
 induction m with
 | zero=>exact EF (T.d _ me) sc
 | succ m ih=>exact A3 (T.d _ me) sc λfa cdv A outer s H E hr=>h T _ (k+m+1) (by lia) ih s sc.nd hr (nL hr)⟩
local macro_rules | `(tactic|exists $x:ident) => `(tactic|(refine' (?f:∀y:(List D -> Option D) -> Sv, zc2 $x = y -> (List D -> Option D) -> Sv) _ ?h;(case h => unfold $x;(try unfold DQ);(try dsimp only);try exact rfl);(case f => exact λy _ => y)))
local macro_rules | `(tactic|exists $x:ident) => `(tactic|(refine' (?f:∀y:Sv, zc2 $x = y -> Sv) _ ?h;(case h => unfold $x;(try unfold gD);(try unfold qm);(try dsimp only);try exact rfl);(case f => exact λy _ => y)))
theorem OE{X:Cx}{O:List Nat}{e:Expr}{f:Ev}{pos:Pos}(T:Txt X.K X.mg)(q:PB X O e f)(z:zaN e "part" X.env (eval e X.env)=eval e X.env):PD X O (.Attribute e "part" pos) (dW CN "part" f):=kF T.o_Node.cls (T.o_Node.na _ (by decide)) q z
theorem LI{X:Cx}{O:List Nat}{e:Expr}{f:Ev}{pos:Pos}(T:Txt X.K X.mg)(q:PB X O e f)(z:zaN e "below" X.env (eval e X.env)=eval e X.env):PD X O (.Attribute e "below" pos) (dW CN "below" f):=kF T.o_Node.cls (T.o_Node.na _ (by decide)) q z
theorem KR{X:Cx}{O:List Nat}{e:Expr}{f:Ev}{pos:Pos}(T:Txt X.K X.mg)(q:PB X O e f)(z:zaN e "names" X.env (eval e X.env)=eval e X.env):PD X O (.Attribute e "names" pos) (dW CN "names" f):=kF T.o_Node.cls (T.o_Node.na _ (by decide)) q z
theorem RB{X:Cx}{O:List Nat}{e:Expr}{f:Ev}{pos:Pos}(T:Txt X.K X.mg)(q:PB X O e f)(z:zaN e "book" X.env (eval e X.env)=eval e X.env):PD X O (.Attribute e "book" pos) (dW CA "book" f):=kF T.o_Atlas.cls (T.o_Atlas.na _ (by decide)) q z
theorem HM{X:Cx}{O:List Nat}{e:Expr}{f:Ev}{pos:Pos}(T:Txt X.K X.mg)(q:PB X O e f)(z:zaN e "routes" X.env (eval e X.env)=eval e X.env):PD X O (.Attribute e "routes" pos) (dW CA "routes" f):=kF T.o_Atlas.cls (T.o_Atlas.na _ (by decide)) q z
theorem KB{X:Cx}{O:List Nat}{e:Expr}{f:Ev}{pos:Pos}(T:Txt X.K X.mg)(q:PB X O e f)(z:zaN e "spans" X.env (eval e X.env)=eval e X.env):PD X O (.Attribute e "spans" pos) (dW CA "spans" f):=kF T.o_Atlas.cls (T.o_Atlas.na _ (by decide)) q z
local macro_rules | `(tactic|trivial) => `(tactic|first
 | (show PB _ _ _ _;first|(apply vB <;> trivial)|(apply PD.b <;> trivial))
 | (show PD _ _ _ _;first|(apply vD <;> trivial)|(apply wE <;> trivial)|((first|apply U3|apply bN|apply rSl|apply rIt|apply qaH|apply wt|apply ZD|apply UU|apply VY|apply qao|apply qaE|apply ZO|apply YZ|apply YG|apply VT|apply WV|apply OE|apply LI|apply KR|apply RB|apply HM|apply KB|apply rCm|apply V9|apply UB|apply VA|apply S3|apply VG|apply rJn|apply PF.d) <;> trivial))
 | (show yF _ _ _ _;((first|apply Q5|apply lS) <;> trivial))
 | (show v9 _ _ _ _;((first|apply FV|apply XO) <;> trivial))
 | (show Len _ _;((first|apply l0|apply lc) <;> trivial))
 | (show lQ _ _ _;((first|apply d8|apply gR|apply DE|apply VN|apply YL|apply VQ|apply VJ|apply V8|apply O5|apply xEq|apply xNe|apply xLt) <;> trivial))
 | (show At _ _ _;first|exact at_ 0|exact at_ 1|exact at_ 2|exact at_ 3|exact at_ 4|exact at_ 5|exact at_ 6|exact at_ 7|exact at_ 8|exact at_ 9|exact at_ 10|exact at_ 11|exact at_ 12|exact at_ 13)
 | (show uS _ _ _ _;first|((first|apply qaY|apply tc|apply O6) <;> trivial)|(apply PDW.pt <;> trivial)|(apply OX <;> trivial))
 | (show PDW _ _ _ _;((first|apply P2|apply U5|apply K5|apply RN) <;> trivial))
 | (show TX _ _ _ _;((first|apply KM|apply J4) <;> trivial))
 | (show PDI _ _ _ _ _;((first|apply BW|apply RS|apply K8|apply QF|apply KH) <;> trivial))
 | (show BH _ _ _ _;first|(apply gV <;> trivial)|(apply gu 2 <;> trivial)|(apply gu 3 <;> trivial))
 | (show DR _ _ _ _;((first|apply LA|apply gc) <;> trivial))
 | (show My.DX _ _ _;((first|apply LB|apply LH) <;> trivial))
 | (show PF _ _ _ _;((first|apply wl|apply qaA) <;> trivial))
 | rfl
 | assumption
 | exact Txt.n (by assumption)
 | exact .inl rfl
 | exact .inr rfl
 | exact .inr (.inl rfl)
 | exact .inr (.inr rfl)
 | exact λ_=>rfl
 | exact λ_ _=>rfl
 | (with_unfolding_all rfl)
 | (constructor <;> rfl)
 | exact zai _
 | (refine zaL ?_ (by assumption);decide))
seal PD PB PF yF v9 uS PDW PDI TX PSD PSDs Fn lQ zaC zaM
def c8:Zt "_law_cell" ["script", "k"] 1 3:=gD ["script", "k", "near"] 35 λT s q z B=>by exact⟨_,(c0 (aV aO) (c0 (aI 2 (bN d8 (by trivial) (PD.b (bN cL (by trivial) (by trivial))))) (c0 (aV (aN (aI 2 (bN d8 (by trivial) (PD.b (bN cL (PD.b (bN cL (by trivial) (by trivial))) (by trivial))))))) (aO (bN DE (PD.b (bN gR (PD.b (bN cL (by trivial) (by trivial))) (by trivial))) (by trivial)))))),rfl⟩
def iG:Sv:=by exists c8
def bY:=bG 3 iG
def jD:Zt "_law_price" ["cell"] 1 1:=gD ["cell"] 37 λT s q z B=>by exact⟨_,(c0 (aV aO) (aO (bN gR (PD.b (bN cL (by trivial) (by trivial))) (by trivial)))),rfl⟩
def jN:Sv:=by exists jD
def jI:=bG 1 jN
def rB:Zt "_law_road" ["cell", "M", "j", "k"] 2 6:=gD ["cell", "M", "j", "k", "a", "b"] 38 λT s q z B=>by have:=fx jI (jD.2 T);exact⟨_,(c0 (aI 4 (bN gR (PD.b (bN cL (by trivial) (by trivial))) (by trivial))) (c0 (aI 5 (bN gR (PD.b (bN d8 (by trivial) (PD.b (bN cL (by trivial) (by trivial))))) (by trivial))) (c0 (aV (aN (aI 4))) (c0 (aV (aN (aI 5))) aO)))),rfl⟩
def qU:Sv:=by exists rB
def kU:=bG 6 qU
def oW:Zt "_law_roads" ["script", "M", "many"] 3 9:=gD ["script", "M", "many", "cell", "roads", "n", "near", "j", "k"] 39 λT s q z B=>by have:=fx bY (c8.2 T);have:=fx kU (rB.2 T);exact⟨_,(c0 (aI 3) (cO [4] (eD 4) (c0 (eL [4] [] (cO [4] (aI 6) (aN (aV (cO [4] (aI 7) (cO [4] (aI 8) (cO [4] (aV (cO [4] (aI 7) (aN (aI 8)))) (aN (kM 4))))))))) aO))),rfl⟩
def oE:Sv:=by exists oW
def jJ:=bG 9 oE
def iF:Zt "_law_name" ["cell", "n"] 1 6:=gD ["cell", "n", "many", "some", "letters", "at"] 36 λT s q z B=>by exact⟨_,(c0 (aI 0) (c0 (aI 2) (c0 (aI 3) (c0 (aV (aN (aI 3))) (cO [4] (eD 4 (eE s ["k", "cell", "some"] [none,some 0,some 3] (by trivial) (by intros;trivial) (by intros;trivial) (λ_ _ _ _=>(bN gR (PD.b (bN d8 (PD.b (bN DE (by trivial) (PD.b (bN d8 (by trivial) (PD.b (bN cL (by trivial) (by trivial))))))) (PD.b (bN cL (by trivial) (by trivial))))) (by trivial))))) (c0 (NQ (cO [4] (aI 2) (aN (vW 4))) (cO [4] (aI 5) (aN (vW 4)))) (aO (EY (by trivial) (PD.b (PF.d (eE s ["k", "some", "letters"] [none,some 3,some 4]))) (λa b=>(vY PySem.F.plainAttrs_str PySem.F.slot_str_join PySem.F.type_str_join My.E4 a b)))))))))),rfl⟩
def qP:Sv:=by exists iF
def b9:=bG 6 qP
def oN:Zt "_law_shape" ["cell", "M", "n"] 1 8:=gD ["cell", "M", "n", "some", "terms", "k", "near", "c"] 40 λT s q z B=>by exact⟨_,(c0 (iU 3 s ["k"] [none]) (c0 (aV (aN (iU 3 s ["k"] [none]))) (cO [4] (eD 4) (c0 (eL [4] [] (cO [4] (aI 6 (bN d8 (by trivial) (PD.b (bN cL (by trivial) (by trivial))))) (cO [4] (aI 7 (bN gR (PD.b (bN cL (by trivial) (by trivial))) (by trivial))) (aN (aV (aN (kM 4))))))) aO)))),rfl⟩
def oK:Sv:=by exists oN
def jM:=bG 8 oK
def pB:Zt "_law_makes" ["script", "M", "many"] 2 10:=gD ["script", "M", "many", "cell", "makes", "n", "near", "takes", "name", "shape"] 41 λT s q z B=>by have:=fx bY (c8.2 T);have:=fx b9 (iF.2 T);have:=fx jI (jD.2 T);have:=fx jM (oN.2 T);exact⟨_,(c0 (aI 3) (cO [4] (eD 4) (c0 (eL [4] [] (cO [4] (aI 6) (cO [4] (aI 7) (cO [4] (aV (aN (aI 7))) (cO [4] (aV (aN (aI 7))) (cO [4] (aI 8) (cO [4] (aI 9) (aN (kM 4))))))))) aO))),rfl⟩
def pE:Sv:=by exists pB
def jO:=bG 10 pE
def rA:Zt "_law_book" ["script"] 4 5:=gD ["script", "cell", "M", "many", "kinds"] 42 λT s q z B=>by have:=fx bY (c8.2 T);have:=fx jO (pB.2 T);have:=fx b9 (iF.2 T);have:=fx jJ (oW.2 T);exact⟨_,(c0 (aI 1) (c0 (aI 2 (bN d8 (by trivial) (PD.b (bN cL (by trivial) (by trivial))))) (c0 (aV (aN (aI 2 (bN d8 (by trivial) (PD.b (bN cL (by trivial) (by trivial))))))) (c0 (aI 3) (c0 (aV (aN (aI 3))) (c0 (aI 4 (XX jS T.n My.boot_tuple (XO (PD.b (PF.d (eE s ["k", "script"] [none,some 0]))) (by trivial)))) aO)))))),rfl⟩
def rJ:Sv:=by exists rA
def kS:=bG 5 rJ
def oX:Zt "_law_heads" ["script", "tome", "names"] 2 5:=gD ["script", "tome", "names", "pairs", "k"] 56 λT s q z B=>by have:=fx bY (c8.2 T);exact⟨_,(cO [3] (eD 3) (c0 (eL [3] [] (aN (kM 3))) aO)),rfl⟩
def oO:Sv:=by exists oX
def jH:=bG 5 oO
def qQ:Zt "_law_back" ["tome", "k", "cell"] 1 5:=gD ["tome", "k", "cell", "way", "some"] 44 λT s q z B=>by exact⟨_,(c0 (aI 3) (c0 (ND [] [] (c0 (iU 4 s ["n", "tome", "k"] [none,some 0,some 1]) (c0 (aV aO) (c0 (aI 3) (c0 (aI 1) (aN (aI 2))))))) aO)),rfl⟩
def rF:Sv:=by exists qQ
def k9:=bG 5 rF
def iI:Zt "_law_cost" ["tome", "way"] 1 2:=gD ["tome", "way"] 45 λT s q z B=>by exact⟨_,(aO (cB (L6 rfl) T.n My.boot_sum (XO (PD.b (PF.d (eE s ["n", "tome"] [none,some 0]))) (by trivial)))),rfl⟩
def qY:Sv:=by exists iI
def iH:=bG 2 qY
def eA:Zt "_law_leaf" ["tome", "known", "kind", "cell"] 2 10:=gD ["tome", "known", "kind", "cell", "j", "way", "some", "cost", "name", "n"] 47 λT s q z B=>by have:=fx k9 (qQ.2 T);have:=fx iH (iI.2 T);exact⟨_,(c0 (nJ (by trivial) (nG (My.tG (n:=2) rfl (gX (λa b=>(jT a b)) (mT (gK (i:=4) q rfl (zbK rfl))) (by trivial))))) (c0 (iU 6 s ["name", "at", "j"] [none,none,some 4]) (c0 (aI 7) (c0 (aV (c0 (aI 8) aO)) (c0 (aI 9 (bN gR (PD.b (bN cL (by trivial) (by trivial))) (by trivial))) aO))))),rfl⟩
def rV:Sv:=by exists eA
def bO:=bG 10 rV
def oI:Zt "_law_begun" ["script", "tome", "names", "pairs"] 3 8:=gD ["script", "tome", "names", "pairs", "left", "k", "known", "kind"] 57 λT s q z B=>by have:=fx bY (c8.2 T);have:=fx bO (eA.2 T);exact⟨_,(cO [4] (eD 4) (c0 (eL [4] [] (aN (kM 4))) (c0 (aI 6) (c0 (aI 7) aO)))),rfl⟩
def oM:Sv:=by exists oI
def jK:=bG 8 oM
def rL:Zt "_law_walk" ["tome", "j", "cell"] 1 5:=gD ["tome", "j", "cell", "way", "some"] 43 λT s q z B=>by exact⟨_,(c0 (aI 3) (c0 (ND [] [] (c0 (iU 4 s ["n", "tome", "j"] [none,some 0,some 1]) (c0 (aV aO) (c0 (aI 3) (c0 (aI 1) (aN (aI 2))))))) aO)),rfl⟩
def rX:Sv:=by exists rL
def kZ:=bG 5 rX
def mH:Zr "_law_behind" ["reading", "way"] 0 3 24:=DQ ["reading", "way", "last"] 46 λT R j z ih s q B F=>by exact⟨_,(c0 (aI 2) (c0 (aV aO) aO)),rfl⟩
def eN:(List D->Option D)->Sv:=by exists mH
def mC:=gC 3 eN 24
def iA:Zt "_law_walked" ["tome", "state", "cell"] 26 5:=gD ["tome", "state", "cell", "kind", "way"] 54 λT s q z B=>by have:=fx mC (mH.2 T);have:=fx iH (iI.2 T);have:=fx kZ (rL.2 T);exact⟨_,(c0 (nJ (by trivial) (nG (My.tG (n:=2) rfl (by trivial)))) aO),rfl⟩
def mG:Sv:=by exists iA
def iC:=bG 5 mG
def qN:Zt "_law_many" ["script"] 2 1:=gD ["script"] 58 λT s q z B=>by have:=fx bY (c8.2 T);exact⟨_,aO,rfl⟩
def rN:Sv:=by exists qN
def rT:=bG 1 rN
def e8:Zt "_law_over" ["part", "reading", "kind", "states", "cost"] 1 10:=gD ["part", "reading", "kind", "states", "cost", "parts", "lets", "rounds", "k", "one"] 48 λT s q z B=>by exact⟨_,(c0 (aI 5) (c0 (aI 6) (c0 (aI 7) (c0 (eL [] [] (c0 (aI 9) (c0 (aI 5) (c0 (aI 6) (c0 (aI 7) (aN (aI 4))))))) aO)))),rfl⟩
def rW:Sv:=by exists e8
def aW:=bG 10 rW
def qR:Zt "_law_used" ["tome", "known", "state", "cell"] 3 11:=gD ["tome", "known", "state", "cell", "some", "v", "at", "make", "row", "part", "reading"] 49 λT s q z B=>by have:=fx bO (eA.2 T);have:=fx aW (e8.2 T);exact⟨_,(cO [4] (eD 4) (c0 (eL [4] [] (aN (eL [4] [4] (aN (aV (aN (kM 4))))))) (c0 (aV aO) (c0 (nJ (by trivial) (nG (My.tG (n:=2) rfl (by trivial)))) (c0 (aI 7) (cO [8] (RA 8 s ["kind", "tome", "known", "cell"] [none,some 0,some 1,some 3]) (c0 (vW 8) (c0 (aI 9 (oB (lS (by trivial) (lS (by trivial) (lS (XX jS T.n My.boot_tuple (XO (PD.b (PF.d (eE s ["one"] [none]))) (by trivial))) (by trivial)))) (λρ ds h=>(by have:=(lc (lc (lc l0))) ρ ds h;lia)))) (c0 (aI 10 (oB (lS (by trivial) (lS (by trivial) (lS (XX jS T.n My.boot_tuple (XO (PD.b (PF.d (eE s ["one"] [none]))) (by trivial))) (by trivial)))) (λρ ds h=>(by have:=(lc (lc (lc (lc l0)))) ρ ds h;lia)))) aO))))))))),rfl⟩
def rM:Sv:=by exists qR
def k7:=bG 11 rM
def mI:Zt "_law_closed" ["tome", "known", "state", "pair", "cell"] 3 12:=gD ["tome", "known", "state", "pair", "cell", "name", "j", "one", "row", "reading", "n", "part"] 53 λT s q z B=>by have:=fx bO (eA.2 T);have:=fx aW (e8.2 T);exact⟨_,(c0 (nJ (by trivial) (nG (My.tG (n:=2) rfl (by trivial)))) (c0 (aI 7) (c0 (aI 8) (c0 (aV (c0 (aI 9) aO)) (c0 (aI 10) (c0 (aI 11) aO)))))),rfl⟩
def mE:Sv:=by exists mI
def hG:=bG 12 mE
def lU:Zt "_law_picked" ["tome", "known", "state", "cell"] 3 9:=gD ["tome", "known", "state", "cell", "at", "c", "k", "row", "part"] 50 λT s q z B=>by have:=fx bO (eA.2 T);have:=fx aW (e8.2 T);exact⟨_,(c0 (aI 4) (c0 (aI 5) (c0 (aI 6) (c0 (NQ (aN (aI 6)) (aN (aI 5))) (cO [7] (eD 7) (cO [7] (kM 7) (c0 (vW 7) (c0 (aI 8) aO)))))))),rfl⟩
def lV:Sv:=by exists lU
def hJ:=bG 9 lV
def lY:Zt "_law_around" ["tome", "known", "state", "name", "cell"] 3 9:=gD ["tome", "known", "state", "name", "cell", "k", "n", "two", "part"] 51 λT s q z B=>by have:=fx bO (eA.2 T);have:=fx aW (e8.2 T);exact⟨_,(c0 (aI 5) (c0 (aI 6) (c0 (aI 7) (c0 (aI 8) aO)))),rfl⟩
def lZ:Sv:=by exists lY
def l9:=bG 9 lZ
def pC:Zt "_law_named" ["tome", "known", "state", "name", "cell"] 3 8:=gD ["tome", "known", "state", "name", "cell", "k", "two", "reading"] 52 λT s q z B=>by have:=fx bO (eA.2 T);have:=fx aW (e8.2 T);exact⟨_,(c0 (aI 5) (c0 (aI 6) (c0 (aI 7) aO))),rfl⟩
def oY:Sv:=by exists pC
def pF:=bG 8 oY
def kY:Zt "_law_step" ["tome", "names", "now", "cell"] 27 9:=gD ["tome", "names", "now", "cell", "state", "left", "known", "rest", "most"] 55 λT s q z B=>by have:=fx l9 (lY.2 T);have:=fx hG (mI.2 T);have:=fx pF (pC.2 T);have:=fx hJ (lU.2 T);have:=fx k7 (qR.2 T);have:=fx iC (iA.2 T);exact⟨_,(c0 (nJ (by trivial) (nG (My.tG (n:=3) rfl (gX (λa b=>(jT a b)) (by trivial) (gX (λa b=>(jT a b)) (mT (gK (i:=5) q rfl (zbK rfl))) (by trivial)))))) (c0 (aV (c0 (iU 7 s ["pair", "left"] [none,some 5]) aO)) (c0 (aI 4) (c0 (aI 8) (c0 (aV (aN (aI 8))) (c0 (NQ (aN (aI 4)) (aN (NQ (aN (aI 4)) (aN (NQ (aN (aI 4)) (aN (aV (aN (aI 4))))))))) aO)))))),rfl⟩
def rO:Sv:=by exists kY
def iL:=bG 9 rO
def pD:Zt "_law_grown" ["script", "tome", "names", "pairs"] 28 6:=gD ["script", "tome", "names", "pairs", "now", "k"] 59 λT s z q B=>by have:=fx jK (oI.2 T);have:=fx bY (c8.2 T);have:=fx rT (qN.2 T);have:=fx iL (kY.2 T);have:=fx iC (iA.2 T);exact⟨_,(c0 (aI 4) (c0 (eL [] [] (aN (aI 4))) (c0 (ND [] [] (aN (aI 4 (cD (fx iL (kY.2 T)) (q.mono (by decide)) (lS (by trivial) (lS (by trivial) (lS (by trivial) (lS (bN d8 (by trivial) (PD.b (bN cL (by trivial) (by trivial)))) (by trivial))))) (lc (lc (lc (lc l0)))))))) aO))),rfl⟩
def oQ:Sv:=by exists pD
def jG:=bG 6 oQ
def L9:Zr "ways" ["book", "j", "k"] 0 6 8:=DQ ["book", "j", "k", "told", "number", "road"] 7 λT R j z ih s q B G=>by exact⟨_,(c0 (aV aO) (cO [3] (eD 3) (c0 (eL [3] [] (aN (aV (aN (qK (i:=3) (pv 3) (PF.d (eE s ["way", "number"] [none,some 4])) rfl (vY zdJ PySem.F.slot_list_extend PySem.F.type_list_extend My.rH (pv 3) (cV (PD.pe (PF.d (eE s ["way", "number"] [none,some 4]))) fO)))))) (by trivial) (FB (C3 (n:=2) rfl (gX (λa b=>(jT a b)) (mT (gK (i:=4) q rfl (zbK rfl))) (by trivial))))) aO))),rfl⟩
def lH:(List D->Option D)->Sv:=by exists L9
def gQ:=gC 6 lH 8
def oR:Zt "way_price" ["book", "way"] 1 2:=gD ["book", "way"] 8 λT s q z B=>by exact⟨_,(aO (cB (L6 rfl) T.n My.boot_sum (XO (PD.b (PF.d (eE s ["number", "book"] [none,some 0]))) (by trivial)))),rfl⟩
def oV:Sv:=by exists oR
def jE:=bG 2 oV
def kW:Zt "ways_sum" ["book", "routes"] 2 3:=gD ["book", "routes", "prices"] 19 λT s q z B=>by have:=fx jE (oR.2 T);exact⟨_,(c0 (iU 2 s ["way", "book"] [none,some 0]) (aO (S3 (by trivial) (oB (lS (by trivial) (lS (cB (JW rfl) T.n My.boot_min (by trivial)) (by trivial))) (λρ ds h=>(by have:=(lc (lc l0)) ρ ds h;lia))) (by trivial)))),rfl⟩
def qV:Sv:=by exists kW
def cN:=bG 3 qV
theorem sc_Atlas:FnScope ["self", "book", "j", "k"] ["self", "book"] (aK (inClass (top 18) 0)):=⟨rfl,rfl,rfl,by decide +kernel,rfl,by decide +kernel,by decide +kernel⟩
def gA(bk:D):Option (List D):=(lR bZ (aC (aT gB (aC (a7 aJ (aD 1) (eC (.int 1))) aY)) aY)) [none,some bk]
theorem sZ{P:zah}{w:World}{K:zae}{mg:Str->Option Value}{base:Heap}(T:Tx P w K mg base):MkO P w K mg base 10 "Atlas" CA "book" (λ_=>tJ CA gA gQ cN):=T.o_Atlas.mko sc_Atlas λM F A q s H E J vs Q hsp=>by
  have N:=nL J;have G:=sc_Atlas.nd;have:=fx gQ (L9.2 T);have:=fx cN (kW.2 T);rw[M8 hsp];exact CJ (X:=(g9 uF P w K mg base ["self", "book", "j", "k"] "Atlas.__init__" (aK (inClass (top 18) 0)) M F A q s H E).nox) (f1:=(lR bZ (aC (aT gB (aC (a7 aJ (aD 1) (eC (.int 1))) aY)) aY))) (f2:=(lR bZ (aC (aT gB (aC (a7 aJ (aD 1) (eC (.int 1))) aY)) aY))) (fk:=(eX (aC (aD 2) (aC (aD 3) aY)))) (fv:=(aT gQ (aC (aD 1) (aC (aD 2) (aC (aD 3) aY))))) (fe:=aD 1) T.o_Atlas.cls T.o_Atlas.na (fx cN (kW.2 T)) rfl (J.mono (by decide)) rfl N zej rfl (pv 0) (pv 0) (pv 0) (pv 0) (pv 0) (pv 0) (tK 1 (pv 1) (by decide)) (by trivial) (by trivial) (gK (i:=2) G rfl (zaZ rfl)) (gK (i:=3) G rfl (zaZ rfl)) (by trivial) (by trivial) (by trivial) (by trivial) (tK 1 (pv 1) (by decide)) (λ_ _=>rfl)
   (λh=>by have e:=pK h;have z:∀bk:D,aD 1 [none,some bk]=some bk:=λ_=>rfl;simp only[gA,lR,aT,aC,a7,e,z];rfl) (λh=>by have e:=pK h;have z:∀bk:D,aD 1 [none,some bk]=some bk:=λ_=>rfl;simp only[gA,lR,aT,aC,a7,e,z];rfl) (λh h'=>by have e:=pK h;have B:=pK h';simp only[eX,aC,aY,e,B];rfl) (λh h' h2=>by have e:=pK h;have B:=pK h';have z:=pK h2;simp only[aT,aC,aY,e,B,z];rfl) (λh=>pK h) (hsp:=hsp)
def gO:Zt "name_within" ["part", "number"] 1 2:=gD ["part", "number"] 5 λT s q z B=>by exact⟨_,(c0 (aV aO) (c0 (aV aO) (c0 (aV aO) aO))),rfl⟩
def bJ:Sv:=by exists gO
def cM:=bG 2 bJ
def hV:Zt "names_used" ["part", "below"] 2 6:=gD ["part", "below", "names", "number", "node", "hidden"] 17 λT s G J M=>by have:=fx cM (gO.2 T);exact⟨_,(c0 (aV aO) (cO [2] (eD 2) (c0 (eL [2] [] (cO [2] (aI 5) (aN (qK (i:=2) (pv 2) (PF.d (zR (N:=["x", "hidden", "names"]) (ms:=[none,some 5,some 2]) (t:=0) (Oi:=[2]) rfl (EH rfl rfl (D2 (n:=s.heap.objs.size+1) rfl)) ⟨⟨rfl,rfl,zaZ rfl⟩,⟨⟨rfl,rfl,zaZ rfl⟩,trivial⟩⟩ rfl (by decide) (by decide) (by trivial) (λ_ _ _ _=>(gK (i:=0) (show(["x", "hidden", "names"]:List Str).Nodup from by decide) rfl (zaZ rfl))) (λz B H1 q=>(by trivial)) (λz B H1 q=>(by trivial)))) rfl (vY zdJ PySem.F.slot_list_extend PySem.F.type_list_extend My.rH (pv 2) (cV (PD.pe (PF.d (zR (N:=["x", "hidden", "names"]) (ms:=[none,some 5,some 2]) (t:=0) (Oi:=[2]) rfl (EH rfl rfl (D2 (n:=s.heap.objs.size+1) rfl)) ⟨⟨rfl,rfl,zaZ rfl⟩,⟨⟨rfl,rfl,zaZ rfl⟩,trivial⟩⟩ rfl (by decide) (by decide) (by trivial) (λ_ _ _ _=>(gK (i:=0) (show(["x", "hidden", "names"]:List Str).Nodup from by decide) rfl (zaZ rfl))) (λz B H1 q=>(by trivial)) (λz B H1 q=>(by trivial))))) fO)))))) aO))),rfl⟩
def iB:Sv:=by exists hV
def eO:=bG 6 iB
def xI:Zt "inner" ["part"] 1 1:=gD ["part"] 4 λT s q z B=>by exact⟨_,(c0 (aV aO) (c0 (aV aO) (c0 (aV aO) (c0 (aV aO) aO)))),rfl⟩
def gH:Sv:=by exists xI
def iR:=bG 1 gH
theorem sc_Node:FnScope ["self", "part"] ["self", "part"] (aK (inClass (top 16) 0)):=⟨rfl,rfl,rfl,by decide +kernel,rfl,by decide +kernel,by decide +kernel⟩
def pL:Nat->D->D->Option D
 | 0,_=>λ_=>none
 | m+1,b=>GM CN (d6 [none] (fQ (aT iR (aC (aD 1) aY))) (aS 0) eY (eNew (pL m) (λ_=>some b) (aD 0))) eO (DM b) (FF b)
theorem pS{P:zah}{w:World}{K:zae}{mg:Str->Option Value}{base:Heap}(T:Tx P w K mg base):∀m,MkO P w K mg base (3+2*m) "Node" CN "part" (pL m)
 | 0=>T.o_Node.mko sc_Node λF z A q s H E B vs Q hsp=>by
  obtain⟨_,_,_,_,_,_,_,_,_,_,_,_,_,_,_,h,_⟩:=hsp;cases h
 | m+1=>T.o_Node.mko (k:=3+2*m+1) sc_Node λF z A q s H E B vs Q hsp=>by
  have M:=nL B;have J:=sc_Node.nd;have G:3<=3+2*m+1:=(by lia);have:=fx iR (xI.2 T);have:=fx eO (hV.2 T);rw[OP hsp rfl];exact G7 (X:=(g9 uF P w K mg base ["self", "part"] "Node.__init__" (aK (inClass (top 16) 0)) F z A q s H E).nox) (fb:=λb=>(d6 [none] (fQ (aT iR (aC (aD 1) aY))) (aS 0) eY (eNew (pL m) (λ_=>some b) (aD 0)))) T.o_Node.cls T.o_Node.na (fx eO (hV.2 T)) rfl (B.mono (by lia)) rfl (pv 0) (pv 0) (pv 0) (pv 0) (pv 0) (tK 1 (pv 1) (by decide)) (λb=>by exact(PF.d (eE s ["one"] [none] (by trivial) (by intros;trivial) (by intros;trivial) (λ_ _ _ _=>(lD (β:=λ_=>some b) (pS T m) (B.mono (by lia)) rfl (by trivial)))))) (tK 1 (pv 1) (by decide)) (hsp:=hsp)
def fH:Zt "number_in" ["total"] 1 1:=gD ["total"] 25 λT s q z B=>by exact⟨_,aO,rfl⟩
def yP:Sv:=by exists fH
def dJ:=bG 1 yP
def nX:Zt "choices" ["book", "part"] 1 2:=gD ["book", "part"] 10 λT s q z B=>by exact⟨_,(c0 (aV (aO (PF.d (eE s ["v", "make", "part"] [none,none,some 1])))) (c0 (aV (aO (PF.d (KS rfl (by rfl) T.n (by rfl) T.n (by trivial) rfl)))) aO)),rfl⟩
def eK:Sv:=by exists nX
def fS:=bG 2 eK
def zV:Zt "either" ["one", "other"] 1 2:=gD ["one", "other"] 21 λT s q z B=>by exact⟨_,(c0 (aV aO) aO),rfl⟩
def zA:Sv:=by exists zV
def mW:=bG 2 zA
def MN:Zt "both" ["one", "other"] 1 2:=gD ["one", "other"] 20 λT s q z B=>by exact⟨_,(c0 (aV aO) (aO (oB (lS (bN cL (by trivial) (by trivial)) (by trivial)) (λρ ds h=>(by have:=(lc (lc l0)) ρ ds h;lia))))),rfl⟩
def M9:Sv:=by exists MN
def NC:=bG 2 M9
def kL:Zt "inner_kinds" ["book", "part", "kind", "choice"] 1 4:=gD ["book", "part", "kind", "choice"] 11 λT s q z B=>by exact⟨_,(c0 (aV aO) (c0 (aV aO) (c0 (aV aO) (c0 (aV aO) aO)))),rfl⟩
def b6:Sv:=by exists kL
def bT:=bG 4 b6
def kK:Zt "inner_heads" ["heads", "part", "number", "choice"] 2 6:=gD ["heads", "part", "number", "choice", "x", "more"] 12 λT s z q B=>by have:=fx cM (gO.2 T);exact⟨_,(c0 (aI 4) (c0 (aV aO) (cO [5] (eD 5 (qz (mQ rfl q.units) T.n My.boot_dict (by trivial))) (c0 (vW 5) aO)))),rfl⟩
def fG:Sv:=by exists kK
def dF:=bG 6 fG
def wV:Zt "spots" ["atlas", "node", "heads", "kind", "choice"] 3 9:=gD ["atlas", "node", "heads", "kind", "choice", "kinds", "places", "number", "one"] 24 λT s q z B=>by have:=fx dF (kK.2 T);have:=fx bT (kL.2 T);exact⟨_,(c0 (aI 5) (cO [6] (eD 6) (c0 (eL [6] [] (aN (kM 6))) aO))),rfl⟩
def FH:Sv:=by exists wV
def kG:=bG 9 FH
def hZ:Zt "way_begins" ["book", "heads", "part", "kind", "choice"] 1 5:=gD ["book", "heads", "part", "kind", "choice"] 13 λT s q z B=>by exact⟨_,(c0 (aV aO) (c0 (aV aO) (c0 (aV aO) aO))),rfl⟩
def cH:Sv:=by exists hZ
def bL:=bG 5 cH
abbrev Zv(x:Str)(ps:List Str)(k n:Nat):Type:={b:(List D->Option D)->Sv // ∀ {P:zah} {w:World} {K:zae} {mg:Str->Option Value} {base:Heap},Tx P w K mg base->∀(R:List D->Option D) (j:Nat),k<=j->Fn P w K mg base "sum_at" j ["atlas", "node", "heads", "kind"] R->Fn P w K mg base x (j+1) ps (bG n (b R))}
def ZU(N:List Str)(i:Nat){x:Str}{ps:List Str}{k:Nat}{b:(List D->Option D)->Sv}(h:∀ {P:zah} {w:World} {K:zae} {mg:Str->Option Value} {base:Heap} {B:Addr} {z:Value} {A:zao} {q:List Env} {H:Hp} {E:XK} (T:Tx P w K mg base) (R:List D->Option D) (j:Nat) (G:k<=j) (ih:Fn P w K mg base "sum_at" j ["atlas", "node", "heads", "kind"] R) (s:zad) (nd:N.Nodup) (F:Room (j) (A.deeper (zaJ x (aK (top i)) s.heap.objs.size B z))) (hu:(A.deeper (zaJ x (aK (top i)) s.heap.objs.size B z)).units+1<cLine),∃g,PSDs (g9 uF P w K mg base N x (aK (top i)) B z A q s H E).nox ⟨[],[]⟩ [] (bM (top i)) g []/\g=b R)(J:(x,i,ps)∈tab:=by decide +kernel)(sc:FnScope N ps (aK (top i)):=by exact⟨rfl,rfl,rfl,by decide +kernel,rfl,by decide +kernel,by decide +kernel⟩):Zv x ps k N.length:=⟨b,λT R j G ih=>A3 (T.d _ J) sc λB z A q s H E F=>h T R j G ih s sc.nd F (nL F)⟩
local macro_rules | `(tactic|exists $x:ident) => `(tactic|(refine' (?f:∀y:(List D -> Option D) -> Sv, zc2 $x = y -> (List D -> Option D) -> Sv) _ ?h;(case h => unfold $x;(try unfold ZU);(try unfold DQ);(try dsimp only);try exact rfl);(case f => exact λy _ => y)))
def h7:Zv "choice_sum" ["atlas", "node", "heads", "kind", "choice"] 3 10:=ZU ["atlas", "node", "heads", "kind", "choice", "own_price", "total", "one", "known", "at"] 23 λT R j z ih s q B F=>by have:=fx NC (MN.2 T);have:=fx kG (wV.2 T);have:=fx bL (hZ.2 T);exact⟨_,(c0 (aI 5) (c0 (aI 6) (c0 (eL [] [] (aN (aV (aN (aI 6))))) aO))),rfl⟩
def cJ:(List D->Option D)->Sv:=by exists h7
abbrev Zw(x:Str)(ps:List Str)(k n m:Nat):Type:={b:(List D->Option D)->Sv // ∀ {P:zah} {w:World} {K:zae} {mg:Str->Option Value} {base:Heap},Tx P w K mg base->Fn P w K mg base x (k+2*m+1) ps (gC n b m)}
def R8(N:List Str)(i:Nat){x:Str}{ps:List Str}{k m:Nat}{b:(List D->Option D)->Sv}(h:∀ {P:zah} {w:World} {K:zae} {mg:Str->Option Value} {base:Heap} {fa:Addr} {cdv:Value} {A:zao} {outer:List Env} {H:Hp} {E:XK} (T:Tx P w K mg base) (R:List D->Option D) (j:Nat) (hj:k<=j) (hj1:k<=j+1) (ih:Fn P w K mg base x j ps R) (s:zad) (nd:N.Nodup) (hr:Room (j+1) (A.deeper (zaJ x (aK (top i)) s.heap.objs.size fa cdv))) (hu:(A.deeper (zaJ x (aK (top i)) s.heap.objs.size fa cdv)).units+1<cLine),∃g,PSDs (g9 uF P w K mg base N x (aK (top i)) fa cdv A outer s H E).nox ⟨[],[]⟩ [] (bM (top i)) g []/\g=b R)(me:(x,i,ps)∈tab:=by decide +kernel)(sc:FnScope N ps (aK (top i)):=by exact⟨rfl,rfl,rfl,by decide +kernel,rfl,by decide +kernel,by decide +kernel⟩):Zw x ps k N.length m:=⟨b,λT=>by
 induction m with
 | zero=>exact EF (T.d _ me) sc
 | succ m ih=>exact A3 (T.d _ me) sc λfa cdv A outer s H E hr=>h T _ (k+2*m+1) (by lia) (by lia) ih s sc.nd hr (nL hr)⟩
local macro_rules | `(tactic|exists $x:ident) => `(tactic|(refine' (?f:∀y:(List D -> Option D) -> Sv, zc2 $x = y -> (List D -> Option D) -> Sv) _ ?h;(case h => unfold $x;(try unfold R8);(try unfold DQ);(try dsimp only);try exact rfl);(case f => exact λy _ => y)))
def fW:Zw "sum_at" ["atlas", "node", "heads", "kind"] 3 7 16:=R8 ["atlas", "node", "heads", "kind", "key", "total", "choice"] 22 λT R j z B ih s G F J=>by have:=fx fS (nX.2 T);have:=fx mW (zV.2 T);have q:=fx (bG 10 (cJ R)) (h7.2 T R j z ih);exact⟨_,(c0 (aI 4 (oB (lS (by trivial) (lS (XX jS T.n My.boot_tuple (XO (PD.b (PF.d (eE s ["x", "heads"] [none,some 2]))) (by trivial))) (by trivial))) (λρ ds h=>(by have:=(lc (lc l0)) ρ ds h;lia)))) (JN 1 4 5 T.o_Node.cls (T.o_Node.na _ (by decide)) (hu2 F) (aI 5) (eL [] [] (aN (aI 5))) (pv 1) (pv 1) (pv 1) (pv 4) (pv 4) (pv 4) (pv 5) (λ_ _=>rfl))),rfl⟩
def gZ:(List D->Option D)->Sv:=by exists fW
def cC:=gC 7 gZ 16
def lX:=bG 10 (cJ cC)
def AN:Zt "counts" ["book", "heads", "part"] 37 5:=gD ["book", "heads", "part", "atlas", "node"] 26 λT s z q B=>by have:=fx dJ (fH.2 T);have:=fx cC (fW.2 T);exact⟨_,(c0 (aI 3 (lD (β:=eC .non) (sZ T) (q.mono (by decide)) rfl (by trivial))) (c0 (aI 4 (lD (β:=aD 0) (pS T 16) (q.mono (by decide)) rfl (by trivial))) (aO (PF.d (eE s ["kind", "atlas", "node", "heads"] [none,some 3,some 4,some 1] (by trivial) (by intros;trivial) (by intros;trivial) (λ_ _ _ _=>(cD (fx dJ (fH.2 T)) (q.mono (by decide)) (lS (cD (fx cC (fW.2 T)) (q.mono (by decide)) (lS (by trivial) (lS (by trivial) (lS (PF.d (qz (mQ rfl q.units) T.n My.boot_dict (by trivial))) (by trivial)))) (lc (lc (lc (lc l0))))) (by trivial)) (lc l0)))))))),rfl⟩
def zL:Sv:=by exists AN
def AL:=bG 5 zL
def wR:ZtF "least" ["book", "heads", "part"] 37 6:=qm ["book", "heads", "part", "atlas", "node", "sums"] 33 λT s z q B=>by have:=fx cC (fW.2 T);exact⟨_,(sR (O2:=[]) (aI 3 (lD (β:=eC .non) (sZ T) (q.mono (by decide)) rfl (by trivial))) (sR (O2:=[]) (aI 4 (lD (β:=aD 0) (pS T 16) (q.mono (by decide)) rfl (by trivial))) (sR (O2:=[]) (iU 5 s ["kind", "atlas", "node", "heads"] [none,some 3,some 4,some 1] (by trivial) (by intros;trivial) (by intros;trivial) (λ_ _ _ _=>(cD (fx cC (fW.2 T)) (q.mono (by decide)) (lS (by trivial) (lS (by trivial) (lS (PF.d (qz (mQ rfl q.units) T.n My.boot_dict (by trivial))) (by trivial)))) (lc (lc (lc (lc l0))))))) (PJ (eE s ["total"] [none]))))),rfl⟩
def EN:Sv:=by exists wR
def w4:=NY 6 EN
def mD:Zt "_law_number" ["script"] 1 3:=gD ["script", "n", "cell"] 60 λT s q z B=>by exact⟨_,(c0 (aI 1) (c0 (eL [] [] (aN (aI 1 (bN gR (PD.b (bN d8 (PD.b (bN cL (by trivial) (by trivial))) (by trivial))) (by trivial))))) aO)),rfl⟩
def mJ:Sv:=by exists mD
def hW:=bG 3 mJ
def zQ:Zt "parted" ["n", "many"] 1 5:=gD ["n", "many", "numbers", "rest", "size"] 31 λT s q z B=>by exact⟨_,(cO [2] (eD 2) (cO [2] (aI 3) (c0 (eL [2] [] (cO [2] (B5 (i:=2) (pv 2) (by trivial) (by trivial) rfl (vY zdJ PySem.F.slot_list_insert PySem.F.type_list_insert My.GZ (pv 2) (cV (PD.pe (by trivial)) (cV (PD.pe (by trivial)) fO)))) (aN (aI 3 (bN FI (by trivial) (by trivial)))))) aO))),rfl⟩
def AK:Sv:=by exists zQ
def sP:=bG 5 AK
def oF:Zt "assembled" ["part", "choice", "readings", "way"] 2 4:=gD ["part", "choice", "readings", "way"] 14 λT s q z B=>by have:=fx iR (xI.2 T);exact⟨_,(c0 (aV aO) (c0 (aV aO) aO)),rfl⟩
def fK:Sv:=by exists oF
def gF:=bG 4 fK
def FT:Zt "sizes" ["atlas", "places", "routes"] 37 3:=gD ["atlas", "places", "routes"] 30 λT s q z B=>by have:=fx dJ (fH.2 T);have:=fx cC (fW.2 T);exact⟨_,(aO (bN d8 (PD.b (PF.d (eE s ["one", "known", "at", "atlas"] [none,none,none,some 0]))) (by trivial))),rfl⟩
def EL:Sv:=by exists FT
def xP:=bG 3 EL
abbrev Zv1(x:Str)(ps:List Str)(k n:Nat):Type:={b:(List D->Option D)->Sv // ∀ {P:zah} {w:World} {K:zae} {mg:Str->Option Value} {base:Heap},Tx P w K mg base->∀(R:List D->Option D) (j:Nat),k<=j->Fn P w K mg base "told_at" j ["atlas", "node", "heads", "kind", "n"] R->Fn P w K mg base x (j+1) ps (bG n (b R))}
def S8(N:List Str)(i:Nat){x:Str}{ps:List Str}{k:Nat}{b:(List D->Option D)->Sv}(h:∀ {P:zah} {w:World} {K:zae} {mg:Str->Option Value} {base:Heap} {B:Addr} {z:Value} {A:zao} {q:List Env} {H:Hp} {E:XK} (T:Tx P w K mg base) (R:List D->Option D) (j:Nat) (G:k<=j) (ih:Fn P w K mg base "told_at" j ["atlas", "node", "heads", "kind", "n"] R) (s:zad) (nd:N.Nodup) (F:Room (j) (A.deeper (zaJ x (aK (top i)) s.heap.objs.size B z))) (hu:(A.deeper (zaJ x (aK (top i)) s.heap.objs.size B z)).units+1<cLine),∃g,PSDs (g9 uF P w K mg base N x (aK (top i)) B z A q s H E).nox ⟨[],[]⟩ [] (bM (top i)) g []/\g=b R)(J:(x,i,ps)∈tab:=by decide +kernel)(sc:FnScope N ps (aK (top i)):=by exact⟨rfl,rfl,rfl,by decide +kernel,rfl,by decide +kernel,by decide +kernel⟩):Zv1 x ps k N.length:=⟨b,λT R j G ih=>A3 (T.d _ J) sc λB z A q s H E F=>h T R j G ih s sc.nd F (nL F)⟩
local macro_rules | `(tactic|exists $x:ident) => `(tactic|(refine' (?f:∀y:(List D -> Option D) -> Sv, zc2 $x = y -> (List D -> Option D) -> Sv) _ ?h;(case h => unfold $x;(try unfold S8);(try unfold DQ);(try unfold R8);(try dsimp only);try exact rfl);(case f => exact λy _ => y)))
def kJ:Zv1 "told_choice" ["atlas", "node", "heads", "kind", "choice", "n"] 37 12:=S8 ["atlas", "node", "heads", "kind", "choice", "n", "places", "routes", "numbers", "readings", "number", "spot"] 29 λT R j z ih s q B F=>by have:=fx gF (oF.2 T);have:=fx sP (zQ.2 T);have:=fx xP (FT.2 T);have:=fx kG (wV.2 T);have:=fx bL (hZ.2 T);exact⟨_,(c0 (aI 6) (c0 (aI 7) (c0 (aI 8) (cO [9] (eD 9) (c0 (eL [9] [] (aN (kM 9))) aO))))),rfl⟩
def fF:(List D->Option D)->Sv:=by exists kJ
def nT:Zw "told_at" ["atlas", "node", "heads", "kind", "n"] 37 8 16:=R8 ["atlas", "node", "heads", "kind", "n", "rest", "choice", "many"] 28 λT R j z B ih s F G J=>by have:=fx lX (h7.2 T cC _ (by decide) (fx cC (fW.2 T)));have:=fx fS (nX.2 T);have:=fx dJ (fH.2 T);have q:=fx (bG 12 (fF R)) (kJ.2 T R j z ih);exact⟨_,(c0 (aI 5) (c0 (eL [] [] (c0 (aI 7) (c0 (aV aO) (aN (aI 5))))) Z8)),rfl⟩
def fA:(List D->Option D)->Sv:=by exists nT
def nS:=gC 8 fA 16
def DC:Zt "told" ["book", "heads", "part", "kind", "n"] 71 5:=gD ["book", "heads", "part", "kind", "n"] 27 λT s z q B=>by have:=fx nS (nT.2 T);exact⟨_,(c0 YM (aO (cD (fx nS (nT.2 T)) (q.mono (by decide)) (lS (lD (β:=eC .non) (sZ T) (q.mono (by decide)) rfl (by trivial)) (lS (lD (β:=aD 0) (pS T 16) (q.mono (by decide)) rfl (by trivial)) (lS (PF.d (qz (mQ rfl q.units) T.n My.boot_dict (by trivial))) (by trivial)))) (lc (lc (lc (lc (lc l0)))))))),rfl⟩
def M0:Sv:=by exists DC
def x8:=bG 5 M0
def mB:Zr "_law_priced" ["tome", "reading"] 1 6 16:=DQ ["tome", "reading", "word", "inside", "cost", "one"] 62 λT R j z ih s q B F=>by have:=fx iH (iI.2 T);exact⟨_,(c0 (aI 2) (c0 (aI 3) (c0 (aI 4) (c0 (aV (c0 (aI 3) (aN (aI 4)))) (c0 (aV (aN (aI 3))) (c0 (aV (aN (aI 3))) (c0 (aV (aN (aI 3))) (c0 (aV (aN (aI 4))) (c0 (eL [] [] (aN (aI 4))) aO))))))))),rfl⟩
def bF:(List D->Option D)->Sv:=by exists mB
def mF:=gC 6 bF 16
def pI:Zt "_law_whole" ["found"] 1 1:=gD ["found"] 61 λT s q z B=>by exact⟨_,aO,rfl⟩
def yM:Sv:=by exists pI
def oG:=bG 1 yM
def SR:{b:Sv // ∀ {P:zah} {w:World} {K:zae} {mg:Str->Option Value} {base:Heap},Tx P w K mg base->ZOk P w K mg base ["script", "tome", "names", "pairs", "state", "part", "sizes_v", "handed", "found", "k", "n", "kind", "one", "kept"] "law" s_law 71 b}:=⟨_,λT F B A q s H E z=>by have J:=nL z;have G:=sc_law.nd;have:=fx AL (AN.2 T);have:=fx kS (rA.2 T);have:=fx bY (c8.2 T);have:=fx jG (pD.2 T);have:=fx jH (oX.2 T);have:=fx b9 (iF.2 T);have:=fx hW (mD.2 T);have:=fx mF (mB.2 T);have:=fx oG (pI.2 T);have:=fx w4 (FnF.fn (wR.2 T));have:=fx x8 (DC.2 T);exact⟨_,(c0 (aI 1) (c0 (iU 2 s ["k", "script"] [none,some 0]) (c0 (aI 3) (c0 (aI 4) (c0 (aI 5) (c0 (aI 6) (c0 (aI 7) (cO [8] (eD 8 (LZ (fxF w4 (wR.2 T)) (z.mono (by decide)) rfl (by trivial) (lc (lc (lc l0))))) (cO [8] (aV (PSDs.pre (O1:=[]) aO rfl)) (cO [8] (eL [8] [8] (cO [8] (aV (PSDs.pre (O1:=[]) aO rfl)) (aN (aV (PSDs.pre (O1:=[]) aO rfl))))) (cO [8] (aV (PSDs.pre (O1:=[]) aO rfl)) (cO [8] (aI 10) (cO [8] (aI 11) (cO [8] (aV (aN (aI 11))) (cO [8] (aI 12 (cD (fx x8 (DC.2 T)) (z.mono (by decide)) (lS (by trivial) (lS (by trivial) (lS (by trivial) (lS (by trivial) (lS (bN gR (PD.b (bN FI (by trivial) (by trivial))) (by trivial)) (by trivial)))))) (lc (lc (lc (lc (lc l0))))))) (cO [8] (aV (PSDs.pre (O1:=[]) aO rfl)) (cO [8] (aI 13) (cO [8] (kM 8) (c0 (vW 8) aO))))))))))))))))))),rfl⟩⟩
def NI:Sv:=by exists SR
theorem dN(ns:List Int):∃f:Int->Int,∀k:Int,0<=k->k<=1000->bY [.lst (ns.map .int),.int k]=some (.int (f k))/\0<=f k/\f k<10^60:=by
 have h:∀k:Int,∃c:Int,0<=k->k<=1000->bY [.lst (ns.map .int),.int k]=some (.int c)/\0<=c/\c<10^60:=λk=>by
  by_cases M:0<=k
  ·by_cases h1:k<=1000
   ·by_cases B:k<(ns.length:Int)
    ·obtain⟨c,F,_⟩:=fV M B
     have c0:=zat c (show(10^60:Int)≠0 by decide +kernel);have G:=zav c (show(0:Int)<10^60 by decide +kernel);refine⟨c%10^60,λ_ _=>⟨aL ?_,c0,G⟩⟩;simp_all[iG,aG,B,F,F8,bR]
    ·have fin:∀y:Int,(0<=y%2147483647/11)/\y%2147483647/11<10^60:=λy=>by
      have a:=zat y (show(2147483647:Int)≠0 by decide);have b:=zav y (show(0:Int)<2147483647 by decide);generalize y%2147483647=z at a b;have:(10:Int)^60=1000000000000000000000000000000000000000000000000000000000000:=by decide +kernel
      lia
     have m1:cT (.int k) (.int k)=some (.int (k*k)):=cG (by lia) (by lia) (by lia) (by lia);have U:=C6 (show -(10000:Int)<k by lia) (show k<10000 by lia) (show -(10000:Int)<k by lia) (show k<10000 by lia);generalize k*k=p at m1 U;by_cases J:(0:Int)<(ns.length:Int)
     ·have q:0<ns.length:=by lia
      have m5:cT (.int 5) (.int k)=some (.int (5*k)):=cG (by decide +kernel) (by decide +kernel) (by lia) (by lia);have Y:=zat k (zaT J);have W:=zav k J;obtain⟨c,F,_⟩:=fV Y W;have c0:=zat c (show(1000003:Int)≠0 by decide);have G:=zav c (show(0:Int)<1000003 by decide);generalize hx:c%1000003=x at c0 G;have m3:cT (.int (5*k)) (.int x)=some (.int (5*k*x)):=cG (by lia) (by lia) (by lia) (by lia);have N:=C6 (show -(100000:Int)<5*k by lia) (show 5*k<100000 by lia) (show -(1000000000:Int)<x by lia) (show x<1000000000 by lia);generalize 5*k*x=y at m3 N;have m4:cT (.int (3+p+y)) (.int 69621)=some (.int ((3+p+y)*69621)):=cG (by lia) (by lia) (by decide +kernel) (by decide +kernel);refine⟨(3+p+y)*69621%2147483647/11,λ_ _=>⟨aL ?_,(fin _).1,(fin _).2⟩⟩;simp_all[iG,aG,B,m1,q,m5,F,bR J,bR,g7,hx,m3,m4]
     ·have q:¬ 0<ns.length:=by lia
      have m4:cT (.int (3+p)) (.int 69621)=some (.int ((3+p)*69621)):=cG (by lia) (by lia) (by decide +kernel) (by decide +kernel);refine⟨(3+p)*69621%2147483647/11,λ_ _=>⟨aL ?_,(fin _).1,(fin _).2⟩⟩;simp_all[iG,aG,B,m1,q,bR,g7,m4]
   ·exact⟨0,λ_ z=>absurd z h1⟩
  ·exact⟨0,λz=>absurd z M⟩
 exact⟨λk=>(h k).choose,λk=>(h k).choose_spec⟩
theorem O4{ss:List Str}(h:∀s∈ss,∃n,s=⟨#[n]⟩):(ss.map (·.length)).sum=ss.length:=by
 induction ss with
 | nil=>rfl
 | cons s ss ih=>
  obtain⟨n,rfl⟩:=h s (zas ..);rw[zak,zbe,ih λt q=>h t (zaq _ q),zaz];show 1+ss.length=ss.length+1
  lia
theorem eP(n:Nat):aQ 0 1 n=((zam n).map λ(j:Nat)=>(j:Int)).map D.int:=by
 unfold aQ;rw[zar];refine List.map_congr_left λa _=>?_
 show D.int _=D.int _;have:(0:Int)+(a:Int)*1=(a:Int):=by lia
 rw[this]
noncomputable def sg(S:Str)(i:Int):Nat:=S.cps.toList.getD i.toNat 0
theorem OO(F:z.length<=1000)(G:0<=i)(h:i<(z.length:Int)):aJ (.str z) (.int i)=some (.str ⟨#[sg z i]⟩):=by
 obtain⟨j,rfl⟩:∃j:Nat,i=(j:Int):=⟨i.toNat,by lia⟩;have q:j<z.cps.toList.length:=by rw[zbQ];show j<z.length;lia
 have e:fL z.cps.toList (j:Int)=some z.cps.toList[j]:=bV (by simp_all[q]);have B:sg z (j:Int)=z.cps.toList[j]:=by
  unfold sg;rw[zbz,zc3,zaS q];rfl
 rw[B];show(if aZ z.length then(fL z.cps.toList (j:Int)).map (λc=>D.str ⟨#[c]⟩)else none)=_;rw[if_pos (show aZ z.length=true from decide_eq_true (by lia)),e];rfl
theorem join_ones:∀l:List Nat,(zcH "" (l.map λg=>(⟨#[g]⟩:Str))).cps.toList=l
 | []=>rfl
 | [g]=>rfl
 | g::g'::l=>by
  have ih:=join_ones (g'::l);show((⟨#[g]⟩:Str) ++ "" ++ zcH "" ((g'::l).map λg=>(⟨#[g]⟩:Str))).cps.toList=_;have e:∀a b:Str,(a++b).cps=a.cps++b.cps:=λ_ _=>rfl
  rw[e,e,Array.toList_append,Array.toList_append,ih];rfl
theorem K3:Txt.join sep ys=zcH sep ys:=by
 have:=join_closes (sep:=sep) (sep':=sep) (ys:=ys) rfl;simpa using this
theorem KI(l:List Nat):((l.map λg=>(⟨#[g]⟩:Str)).map (·.length)).sum=l.length:=by
 rw[O4 (ss:=l.map λg=>(⟨#[g]⟩:Str)) λs hs=>by obtain⟨g,_,rfl⟩:=List.mem_map.mp hs;exact⟨g,rfl⟩,zal]
noncomputable def S1:Str := "abcdfghjklmnopqrstuvwxyz"
noncomputable def S2:Str := "abcdfghjklmnopqrstuvwxyz" ++ "ei"
theorem C7:S1.length=24:=by decide +kernel
theorem ME:S2.length=26:=by decide +kernel
theorem YU:S1.cps.toList.Nodup:=by decide +kernel
theorem YD:S2.cps.toList.Nodup:=by decide +kernel
theorem MC{S:Str}(h:S.cps.toList.Nodup){i j:Int}(M:0<=i)(J:i<(S.length:Int))(G:0<=j)(F:j<(S.length:Int))(e:sg S i=sg S j):i=j:=by
 have q:i.toNat<S.cps.toList.length:=by rw[zbQ];show i.toNat<S.length;lia
 have B:j.toNat<S.cps.toList.length:=by rw[zbQ];show j.toNat<S.length;lia
 unfold sg at e;rw[zc3,zaS q,zc3,zaS B]at e;have z:S.cps.toList[i.toNat]=S.cps.toList[j.toNat]:=e;have:=(zdU h).mp z
 lia
def NmP(x n:Int)(s:Str):Prop:=(x%3=0->(s.length:Int)=1+n%8)/\(¬ x%3=0->∃(S:Str) (L a b:Int),((S=S1/\L=24/\¬ 5<1+x/3%8)\/(S=S2/\L=26/\5<1+x/3%8))/\a=x/24%(1+x/3%8)/\b=(x/(31+7*a)+a*a)%L/\s.cps.toList[a.toNat]?=some (sg S ((b+n)%L)))
theorem T3(N:0<=n/\n<=7)(U:0<=m/\m<=7)(a:NmP x n s)(b:NmP x m s):n=m:=by
 by_cases h:x%3=0
 ·have:=a.1 h
  have:=b.1 h
  lia
 ·obtain⟨S,L,p,q,M,rfl,rfl,e⟩:=a.2 h
  obtain⟨S',W,p',Y,B,rfl,rfl,J⟩:=b.2 h;rw[e]at J;have G:=zay J;rcases M with⟨rfl,rfl,z⟩|⟨rfl,rfl,z⟩
  ·rcases B with⟨rfl,rfl,F⟩|⟨rfl,rfl,F⟩
   ·generalize (x/(31+7*(x/24%(1+x/3%8)))+x/24%(1+x/3%8)*(x/24%(1+x/3%8)))%24=q at G
    have l:=C7;have:=MC YU (zat _ (by decide)) (by rw[l];exact zav _ (by decide)) (zat _ (by decide)) (by rw[l];exact zav _ (by decide)) G
    lia
   ·exact absurd F z
  ·rcases B with⟨rfl,rfl,F⟩|⟨rfl,rfl,F⟩
   ·exact absurd z F
   ·generalize (x/(31+7*(x/24%(1+x/3%8)))+x/24%(1+x/3%8)*(x/24%(1+x/3%8)))%26=q at G
    have l:=ME;have:=MC YD (zat _ (by decide)) (by rw[l];exact zav _ (by decide)) (zat _ (by decide)) (by rw[l];exact zav _ (by decide)) G
    lia
theorem pA{c n:Int}(h0:0<=n)(h1:n<=1000):∃s:Str,b9 [.int c,.int n]=some (.str s)/\NmP (c%10^9) n s:=by
 suffices h:∃d,b9 [.int c,.int n]=some d/\∃s:Str,d=.str s/\NmP (c%10^9) n s by
  obtain⟨d,e,s,rfl,h⟩:=h;exact⟨s,e,h⟩
 refine dQ ?_;unfold qP;have c0:=zat c (show(10^9:Int)≠0 by decide);have c1:=zav c (show(0:Int)<10^9 by decide);rw[aF (aM (d:=.int (c%10^9)) (by ac_rfl))];generalize c%10^9=x at c0 c1;have m0:=zat (x/3) (show(8:Int)≠0 by decide);have m1:=zav (x/3) (show(0:Int)<8 by decide);rw[aF (aM (d:=.int (1+x/3%8)) (by ac_rfl))];generalize hm:1+x/3%8=many;rw[aF (aM (d:=.str "abcdfghjklmnopqrstuvwxyz") (by simp[-zac,-zab,aA,aB]))];refine fR (λρ=>∃(S:Str) (L:Int),(S.length:Int)=L/\24<=L/\L<=26/\(x%3=0\/(S=S1/\L=24/\¬ 5<many)\/(S=S2/\L=26/\5<many))/\ρ=[some (.int x),some (.int n),some (.int many),some (.str S),none,none]) ?_ ?_
 ·have x0:=zat x (show(3:Int)≠0 by decide)
  by_cases G:0<x%3
  ·by_cases h5:5<many
   ·refine⟨_,?_,S2,26,by rw[ME];rfl,by decide,by decide,.inr (.inr ⟨rfl,rfl,h5⟩),rfl⟩
    have z:aZ (("abcdfghjklmnopqrstuvwxyz" : Str).length+("ei" : Str).length)=true:=by decide
    ac_rfl
   ·exact⟨_,by ac_rfl,S1,24,by rw[C7];rfl,by decide,by decide,.inr (.inl ⟨rfl,rfl,h5⟩),rfl⟩
  ·exact⟨_,by ac_rfl,S1,24,by rw[C7];rfl,by decide,by decide,.inl (by lia),rfl⟩
 ·rintro ρ ⟨S,L,aa,s1,s2,hS,rfl⟩
  have sL:gB [.str S]=some (.int L):=by rw[<- aa];exact if_pos (decide_eq_true (by lia))
  have sp:(0:Int)<L:=by lia
  have sl:(S.length:Int)=L:=aa;have r8:bZ [.int 8]=some (aQ 0 1 8):=b8 (n:=8) (by decide);have el:bA (aS 0) eY (a7 dS (a7 dR (a7 g8 (aD 1) (a7 dR (eC (.int 31)) (a7 cT (eC (.int 7)) (aD 0)))) (a7 cT (aD 0) (aD 0))) (aT gB (aC (aD 2) aY))) (aQ 0 1 8) [none,some (.int x),some (.str S)]=some (((zam 8).map λ(k:Nat)=>(x/(31+7*(k:Int))+(k:Int)*(k:Int))%L).map .int):=by
   have:=gY (K:=8) (f:=a7 dS (a7 dR (a7 g8 (aD 1) (a7 dR (eC (.int 31)) (a7 cT (eC (.int 7)) (aD 0)))) (a7 cT (aD 0) (aD 0))) (aT gB (aC (aD 2) aY))) (rest:=[some (.int x),some (.str S)]) (F:=λi=>.int ((x/(31+7*i)+i*i)%L)) (λi i0 i1=>by
    have q1:cT (.int 7) (.int i)=some (.int (7*i)):=cG (by decide +kernel) (by decide +kernel) (by lia) (by lia);have q2:cT (.int i) (.int i)=some (.int (i*i)):=cG (by lia) (by lia) (by lia) (by lia);have q3:g8 (.int x) (.int (31+7*i))=some (.int (x/(31+7*i))):=g7 (by lia) (by lia)
    ac_rfl) (zam 8) none λk hk=>List.mem_range.mp hk
   rw[zar];have er:aQ 0 1 8=(zam 8).map λ(k:Nat)=>D.int (k:Int):=by
    rw[eP,zar];rfl
   rw[er];exact this
  have U:∀i∈(zam 8).map λ(k:Nat)=>(x/(31+7*(k:Int))+(k:Int)*(k:Int))%L,0<=i/\i<L:=λi hi=>by
   obtain⟨k,_,rfl⟩:=List.mem_map.mp hi;exact⟨zat _ (zaT sp),zav _ sp⟩
  have ac:∀a:Int,0<=a->a<8->((zam 8).map λ(k:Nat)=>(x/(31+7*(k:Int))+(k:Int)*(k:Int))%L)[a.toNat]?=some ((x/(31+7*a)+a*a)%L):=λa a0 a8=>by
   obtain⟨j,rfl⟩:∃j:Nat,a=(j:Int):=⟨a.toNat,by lia⟩;rw[zbz,zaB,zcW (by lia)];rfl
  have N:((zam 8).map λ(k:Nat)=>(x/(31+7*(k:Int))+(k:Int)*(k:Int))%L).length=8:=by simp[-zac,-zab,aA,aB]
  rw[aF (aM (d:=.lst (((zam 8).map λ(k:Nat)=>(x/(31+7*(k:Int))+(k:Int)*(k:Int))%L).map .int)) (by
   simp only[q_comp,q_lR,q_lcons,q_lnil,q_c,aA,r8,bH,aZ,i5];exact congrArg (Option.map D.lst) el))]
  generalize ((zam 8).map λ(k:Nat)=>(x/(31+7*(k:Int))+(k:Int)*(k:Int))%L)=is at U ac N;refine fR (λρ=>∃(q:List Int) (m:Int) (o:Option D),0<=m/\m<=8/\q.length=8/\(∀j∈q,0<=j/\j<L)/\(x%3=0->m=1+n%8)/\(¬ x%3=0->m=many/\q[(x/24%many).toNat]?=some (((x/(31+7*(x/24%many))+(x/24%many)*(x/24%many))%L+n)%L))/\ρ=[some (.int x),some (.int n),some (.int m),some (.str S),some (.lst (q.map .int)),o]) ?_ ?_
  ·have put:∀k y:Int,0<=k->k<8->(is.set k.toNat (y%L)).length=8/\(∀j∈is.set k.toNat (y%L),0<=j/\j<L)/\kH (.lst (is.map .int)) (.int k) (.int (y%L))=some (.lst ((is.set k.toNat (y%L)).map .int)):=λk y k0 k8=>by
    refine⟨by simp_all[N],λj M=>?_,?_⟩
    ·rcases List.mem_or_eq_of_mem_set M with z|z
     ·exact U j z
     ·rw[z];exact⟨zat _ (zaT sp),zav _ sp⟩
    ·rw[lE k0 (by simp_all[N];lia),List.map_set]
   by_cases G:x%3=0
   ·have n0:=zat n (show(8:Int)≠0 by decide)
    have n1:=zav n (show(0:Int)<8 by decide);obtain⟨v,hv,_⟩:=fV (ns:=is) (k:=1+n%8-1) (by lia) (by rw[N];lia);obtain⟨W,M,ej⟩:=put (1+n%8-1) (v+n/8) (by lia) (by lia);refine⟨_,?_,is.set (1+n%8-1).toNat ((v+n/8)%L),1+n%8,none,by lia,by lia,W,M,λ_=>rfl,λz=>absurd G z,rfl⟩
    ac_rfl
   ·have Y:0<many:=by lia
    have a0:=zat (x/24) (zaT Y);have a1:=zav (x/24) Y;have ha:=ac (x/24%many) a0 (by lia);obtain⟨v,hv,B⟩:=fV (ns:=is) (k:=x/24%many) a0 (by rw[N];lia);rw[ha]at B;have ai:=zay B;obtain⟨W,M,ej⟩:=put (x/24%many) (v+n) a0 (by lia);refine⟨_,?_,is.set (x/24%many).toNat ((v+n)%L),many,some (.int (x/24%many)),by lia,by lia,W,M,λz=>absurd z G,λ_=>⟨rfl,?_⟩,rfl⟩
    ·ac_rfl
    ·rw[zcy (by rw[N];lia),ai]
  ·rintro ρ ⟨q,m,o,m0,m8,W,M,hA,hB,rfl⟩
   have rm:bZ [.int m]=some (aQ 0 1 m.toNat):=eB m0 (by lia);have ed:=gY (K:=m.toNat) (f:=a7 aJ (aD 1) (a7 aJ (aD 2) (aD 0))) (rest:=[some (.str S),some (.lst (q.map .int))]) (F:=λi=>.str ⟨#[sg S (q.getD i.toNat 0)]⟩) (λi i0 i1=>by
    obtain⟨v,hv,B⟩:=fV (ns:=q) (k:=i) i0 (by rw[W];lia);have b:=M v (zaw B);have e:q.getD i.toNat 0=v:=by rw[zc3,B];rfl
    have au:=OO (z:=S) (by lia) b.1 (by rw[sl];exact b.2);rw[e]
    ac_rfl) (zam m.toNat) none λk hk=>List.mem_range.mp hk
   have er:aQ 0 1 m.toNat=(zam m.toNat).map λ(k:Nat)=>D.int (k:Int):=by
    rw[eP,zar];rfl
   have es:((zam m.toNat).map λ(k:Nat)=>D.str ⟨#[sg S (q.getD ((k:Int)).toNat 0)]⟩)=(((zam m.toNat).map λ(k:Nat)=>sg S (q.getD k 0)).map λg=>(⟨#[g]⟩:Str)).map .str:=by
    rw[zar,zar];rfl
   rw[<- er,es]at ed;have hl:((zam m.toNat).map λ(k:Nat)=>sg S (q.getD k 0)).length=m.toNat:=by simp[-zac,-zab,aA,aB]
   have J:∀a:Int,0<=a->a<m->((zam m.toNat).map λ(k:Nat)=>sg S (q.getD k 0))[a.toNat]?=some (sg S (q.getD a.toNat 0)):=λa a0 am=>by
    rw[zaB,zcW (by lia)];rfl
   generalize ((zam m.toNat).map λ(k:Nat)=>sg S (q.getD k 0))=gs at ed hl J;have jn:=WW (sep := "") (ss:=gs.map λg=>(⟨#[g]⟩:Str)) (by
    rw[KI,zal];show gs.length+gs.length*0<=_
    lia)
   rw[K3]at jn;have zz:aZ m.toNat=true:=decide_eq_true (by lia);have jo:=join_ones gs;generalize (gs.map λg=>(⟨#[g]⟩:Str))=ss at ed jn jo;refine⟨.str (zcH "" ss),?_,_,rfl,λG=>?_,λG=>?_⟩
   ·simp_all[rm,bH,zz,i5,ed,jn]
   ·have e1:=hA G
    have:(zcH "" ss).length=m.toNat:=by
     show(zcH "" ss).cps.size=_;rw[<- zbQ,jo,hl]
    lia
   ·obtain⟨em,ej⟩:=hB G
    have ab:(S=S1/\L=24/\¬ 5<many)\/(S=S2/\L=26/\5<many):=hS.resolve_left G;have Y:0<many:=by lia
    have a0:=zat (x/24) (zaT Y);have a1:=zav (x/24) Y;rw[<- hm]at ab em ej a0 a1;refine⟨S,L,_,_,ab,rfl,rfl,?_⟩;rw[jo,J _ a0 (by lia),zc3,ej];rfl
theorem qS{c n:Int}(q:0<=n)(h1:n<=1000):∃s:Str,b9 [.int c,.int n]=some (.str s):=by
 obtain⟨s,h,_⟩:=pA (c:=c) q h1;exact⟨s,h⟩
theorem QU(c:Int):∃f:Int->Str,(∀n,0<=n->n<=7->b9 [.int c,.int n]=some (.str (f n)))/\∀n m,(0<=n/\n<=7)->(0<=m/\m<=7)->f n=f m->n=m:=by
 have h:∀n:Int,∃s:Str,0<=n->n<=7->b9 [.int c,.int n]=some (.str s)/\NmP (c%10^9) n s:=λn=>by
  by_cases F:0<=n/\n<=7
  ·obtain⟨s,e,p⟩:=pA (c:=c) (n:=n) F.1 (by lia)
   exact⟨s,λ_ _=>⟨e,p⟩⟩
  ·exact⟨"",λa b=>absurd ⟨a,b⟩ F⟩
 refine⟨λn=>(h n).choose,λn a b=>((h n).choose_spec a b).1,λn m B z e=>?_⟩;have p:=((h n).choose_spec B.1 B.2).2;have q:=((h m).choose_spec z.1 z.2).2;have G:(h n).choose=(h m).choose:=e;rw[G]at p;exact T3 B z p q
theorem oU{c:Int}(F:0<=c)(h1:c<10^61):∃p:Int,jI [.int c]=some (.int p)/\0<=p/\p<=10^30:=by
 have B:(10:Int)^30=1000000000000000000000000000000:=by decide +kernel
 by_cases h:c%2=0
 ·have a:=zat (c/2) (show(3:Int)≠0 by decide)
  have b:=zav (c/2) (show(0:Int)<3 by decide);exact⟨c/2%3,aL (by simp_all[jN,aG,bR,g7,h]),a,by lia⟩
 ·have q:cT (.int (c/2)) (.int 982451653)=some (.int (c/2*982451653)):=cG (by lia) (by lia) (by decide +kernel) (by decide +kernel)
  have a:=zat (c/2*982451653) (show(1000000000000000000000000000000:Int)≠0 by decide);have b:=zav (c/2*982451653) (show(0:Int)<1000000000000000000000000000000 by decide);have pw:NX (.int 10) (.int 30)=some (.int 1000000000000000000000000000000):=F8 (by decide) (by decide) (by decide);have z:dS (.int (c/2*982451653)) (.int 1000000000000000000000000000000)=some (.int (c/2*982451653%1000000000000000000000000000000)):=bR (by decide);exact⟨_,aL (by simp_all[jN,aG,bR,g7,h,q,pw,z]),a,by lia⟩
theorem rK{c M j k:Int}(hM:3<=M)(Y:0<=c)(h1:c<10^60):∃r:Ro,kU [.int c,.int M,.int j,.int k]=some (kR r)/\r.j=j/\r.k=k/\((0<=r.a/\r.a<M)/\0<=r.b/\r.b<M)/\0<=r.p/\r.p<=10^30:=by
 suffices h:∃d,kU [.int c,.int M,.int j,.int k]=some d/\∃r:Ro,d=kR r/\r.j=j/\r.k=k/\((0<=r.a/\r.a<M)/\0<=r.b/\r.b<M)/\0<=r.p/\r.p<=10^30 by
  obtain⟨d,e,r,rfl,h⟩:=h;exact⟨r,e,h⟩
 have U:(10:Int)^60=1000000000000000000000000000000000000000000000000000000000000:=by decide +kernel
 have q:0<M:=by lia
 refine dQ ?_;unfold qU;have m1:cT (.int (c/40+1)) (.int 48271)=some (.int ((c/40+1)*48271)):=cG (by lia) (by lia) (by decide +kernel) (by decide +kernel);have m2:cT (.int (c/640)) (.int 69621)=some (.int (c/640*69621)):=cG (by lia) (by lia) (by decide +kernel) (by decide +kernel);have a0:=zat ((c/40+1)*48271) (zaT q);have F:=zav ((c/40+1)*48271) q;have z:=zat (c/9+c/640*69621) (zaT q);have B:=zav (c/9+c/640*69621) q;rw[aF (aM (d:=.int ((c/40+1)*48271%M)) (by ac_rfl))];rw[aF (aM (d:=.int ((c/9+c/640*69621)%M)) (by ac_rfl))];generalize (c/40+1)*48271%M=a at a0 F;generalize (c/9+c/640*69621)%M=b at z B;refine fR (λρ=>∃a:Int,(0<=a/\a<M)/\ρ=[some (.int c),some (.int M),some (.int j),some (.int k),some (.int a),some (.int b)]) ?_ ?_
 ·by_cases h:c%5=0
  ·exact⟨_,by ac_rfl,1,⟨by decide,by lia⟩,rfl⟩
  ·exact⟨_,by ac_rfl,a,⟨a0,F⟩,rfl⟩
 ·rintro ρ ⟨a,G,rfl⟩
  refine fR (λρ=>∃b:Int,(0<=b/\b<M)/\ρ=[some (.int c),some (.int M),some (.int j),some (.int k),some (.int a),some (.int b)]) ?_ ?_
  ·by_cases h:c%3=0
   ·exact⟨_,by ac_rfl,0,⟨by decide,by lia⟩,rfl⟩
   ·exact⟨_,by ac_rfl,b,⟨z,B⟩,rfl⟩
  ·rintro ρ ⟨b,N,rfl⟩
   obtain⟨p,ep,J,W⟩:=oU (c:=c/16) (by lia) (by lia);exact⟨kR ⟨j,k,a,b,p⟩,by simp_all[g7,ep,kR],_,rfl,rfl,rfl,⟨G,N⟩,J,W⟩
theorem yJ{ns:List Int}{M many:Int}(hM:3<=M)(hm:1<=many/\many<=6):∃rs:List Ro,jJ [.lst (ns.map .int),.int M,.int many]=some (.tup (rs.map kR))/\GR M many rs:=by
 suffices h:∃d,jJ [.lst (ns.map .int),.int M,.int many]=some d/\∃rs:List Ro,d=.tup (rs.map kR)/\GR M many rs by
  obtain⟨d,e,r,rfl,h⟩:=h;exact⟨r,e,h⟩
 obtain⟨f,hf⟩:=dN ns;have f2:=(hf 2 (by decide) (by decide)).1;refine dQ ?_;unfold oE;rw[aF (aM (d:=.int (f 2)) (by ac_rfl))];generalize f 2=c2;rw[aF (aM (d:=.lst []) (by simp[-zac,-zab,aA,aB]))];have z0:=zat c2 (show(7:Int)≠0 by decide);have z1:=zav c2 (show(0:Int)<7 by decide);refine iY (items:=aQ 0 1 (c2%7).toNat) (by simp_all[aG,bR,eB z0 (show c2%7<=1000000 by lia)]) (λi ρ=>∃(rs:List Ro) (N Y G J:Option D),ρ=[some (.lst (ns.map .int)),some (.int M),some (.int many),some (.int c2),some (.lst (rs.map kR)),N,Y,G,J]/\rs.length<=i/\i<=6/\GR M many rs) ⟨[],none,none,none,none,by ac_rfl,by simp[-zac,-zab,aA,aB],by decide,⟨by simp[-zac,-zab,aA,aB],λ_ h=>(nomatch h),λ_ h=>(nomatch h),λ_ h=>(nomatch h)⟩⟩ ?_ ?_
 ·rintro i x ρ hx ⟨rs,N,Y,G,J,rfl,hl,hi,g⟩
  obtain⟨aq,rfl⟩:=bX hx;have hI:0<=(0:Int)+(i:Int)*1/\(0:Int)+(i:Int)*1<=6:=by lia
  generalize (0:Int)+(i:Int)*1=I at hI;have B:=hf (3+I) (by lia) (by lia);generalize f (3+I)=near at B;have f1:=B.1;by_cases h1:1<many
  ·have F:0<many-1:=by lia
   have j0:=zat near (zaT F);have j1:=zav near F;have dj:dS (.int near) (.int (many-1))=some (.int (near%(many-1))):=bR F;generalize near%(many-1)=j at j0 j1 dj;have W:0<many-1-j:=by lia
   have k0:=zat (near/8) (zaT W);have k1:=zav (near/8) W;have dk:dS (.int (near/8)) (.int (many-1-j))=some (.int (near/8%(many-1-j))):=bR W;generalize near/8%(many-1-j)=k at k0 k1 dk;have u0:=zat I (zaT F);have u1:=zav I F;have du:dS (.int I) (.int (many-1))=some (.int (I%(many-1))):=bR F;generalize I%(many-1)=u at u0 u1 du;have hz:(rs.map kR).length<=1000000:=by rw[zal];lia
   have dg:uE (.int many) (.int 1)=some (.bl true):=by simp_all[h1]
   have me:∀r,(rs++[r]).map kR=rs.map kR++[kR r]:=λr=>by simp[-zac,-zab,aA,aB]
   have fin:∀r:Ro,(0<=r.j/\r.j<r.k/\r.k<many)->((0<=r.a/\r.a<M)/\0<=r.b/\r.b<M)->(0<=r.p/\r.p<=10^30)->GR M many (rs++[r]):=λr a b c=>by
    have app:∀ {P:Ro->Prop},(∀r∈rs,P r)->P r->∀y∈rs++[r],P y:=λh1 h2 y hy=>by
     rcases List.mem_append.mp hy with z|z
     ·exact h1 y z
     ·rw[List.mem_singleton.mp z];exact h2
    exact⟨by simp[-zac,-zab,aA,aB];lia,app g.jk a,app g.ab b,app g.pr c⟩
   by_cases h2:c2/7%2=1
   ·obtain⟨r,er,rj,rk,q,U⟩:=rK (c:=near) (M:=M) (j:=u) (k:=u+1) hM B.2.1 B.2.2
    refine⟨[some (.lst (ns.map .int)),some (.int M),some (.int many),some (.int c2),some (.lst ((rs++[r]).map kR)),some (.int I),some (.int near),some (.int u),some (.int (u+1))],?_,_,_,_,_,_,rfl,by simp[-zac,-zab,aA,aB];lia,by lia,fin r (by lia) q U⟩;have de:i4 (.int (c2/7%2)) (.int 1)=some (.bl true):=by simp_all[h2]
    rw[me]
    ac_rfl
   ·obtain⟨r,er,rj,rk,q,U⟩:=rK (c:=near) (M:=M) (j:=j) (k:=j+1+k) hM B.2.1 B.2.2
    refine⟨[some (.lst (ns.map .int)),some (.int M),some (.int many),some (.int c2),some (.lst ((rs++[r]).map kR)),some (.int I),some (.int near),some (.int j),some (.int (j+1+k))],?_,_,_,_,_,_,rfl,by simp[-zac,-zab,aA,aB];lia,by lia,fin r (by lia) q U⟩;have de:i4 (.int (c2/7%2)) (.int 1)=some (.bl false):=by simp_all[h2]
    rw[me]
    ac_rfl
  ·refine⟨[some (.lst (ns.map .int)),some (.int M),some (.int many),some (.int c2),some (.lst (rs.map kR)),some (.int I),some (.int near),G,J],?_,rs,_,_,_,_,rfl,by lia,by lia,g⟩
   have dg:uE (.int many) (.int 1)=some (.bl false):=by simp_all[h1]
   ac_rfl
 ·rintro ρ ⟨rs,N,Y,G,J,rfl,hl,hi,g⟩
  exact⟨_,by simp[-zac,-zab,aA,aB],rs,rfl,g⟩
theorem pJ{c M n:Int}(hM:3<=M)(J:0<=c)(h1:c<10^60):∃l,jM [.int c,.int M,.int n]=some (.tup l):=by
 suffices h:∃d,jM [.int c,.int M,.int n]=some d/\∃l,d=.tup l by
  obtain⟨d,e,l,rfl⟩:=h;exact⟨l,e⟩
 have ae:(10:Int)^60=1000000000000000000000000000000000000000000000000000000000000:=by decide +kernel
 have Mp:0<M:=by lia
 refine dQ ?_;unfold oK;have r3:bZ [.int 3]=some [.int 0,.int 1,.int 2]:=rfl;have s3:aZ 3=true:=rfl;have s9:aZ 9=true:=rfl;rw[aF (aM (d:=.lst [.tup [.int 0],.tup [.int 1],.tup [.int 2]]) (by ac_rfl))];refine fR (λρ=>∃es:List D,1<=es.length/\es.length<=9/\ρ=[some (.int c),some (.int M),some (.int n),some (.lst es),none,none,none,none]) ?_ ?_
 ·by_cases h:n=2
  ·subst h
   obtain⟨es,ee,le,_⟩:=w8 (f:=eX (aC (a7 g8 (aD 0) (eC (.int 3))) (aC (a7 dS (aD 0) (eC (.int 3))) aY))) (rest:=[]) (R:=λ_=>True) (aQ 0 1 9) none λa ha=>by
    obtain⟨i,rfl,i0,i1⟩:=vH ha;exact⟨.tup [.int (i/3),.int (i%3)],by ac_rfl,trivial⟩
   have W:bZ [.int 9]=some (aQ 0 1 9):=b8 (n:=9) (by decide);rw[bH]at le;exact⟨[some (.int c),some (.int M),some (.int 2),some (.lst es),none,none,none,none],by simp_all[aG,W,s9,i5,bH,ee],es,by lia,by lia,rfl⟩
  ·exact⟨_,by ac_rfl,[.tup [.int 0],.tup [.int 1],.tup [.int 2]],by simp[-zac,-zab,aA,aB],by simp[-zac,-zab,aA,aB],rfl⟩
 ·rintro ρ ⟨es,e1,e9,rfl⟩
  rw[aF (aM (d:=.lst []) (by simp[-zac,-zab,aA,aB]))];refine iY (items:=aQ 0 1 es.length) (by simp_all[b8 (show es.length<=1000000 by lia)]) (λi ρ=>∃(l:List D) (q G B:Option D),ρ=[some (.int c),some (.int M),some (.int n),some (.lst es),some (.lst l),q,G,B]/\l.length<=i) ⟨[],none,none,none,by simp[-zac,-zab,aA,aB],by simp[-zac,-zab,aA,aB]⟩ ?_ ?_
  ·rintro i x ρ hx ⟨l,q,G,B,rfl,hl⟩
   obtain⟨af,rfl⟩:=bX hx;have U:(0:Int)+(i:Int)*1=(i:Int):=by lia
   rw[U];have hI:(i:Int)<=9:=by lia
   obtain⟨d,_,_,ed⟩:=tW (l:=es) (k:=(i:Int)) (by lia) (by lia);have F:(0:Int)<=(i:Int):=by lia
   generalize (i:Int)=I at hI ed F;have m1:cT (.int I) (.int I)=some (.int (I*I)):=cG (by lia) (by lia) (by lia) (by lia);have Y:=C6 (show -(100:Int)<I by lia) (show I<100 by lia) (show -(100:Int)<I by lia) (show I<100 by lia);have N:g8 (.int c) (.int (I+2))=some (.int (c/(I+2))):=g7 (by lia) (by lia);have c0:0<=c/(I+2):=Int.ediv_nonneg J (by lia);have c1:c/(I+2)<=c:=Int.ediv_le_self _ J;generalize c/(I+2)=y at N c0 c1;generalize I*I=z at m1 Y;have m2:cT (.int ((y+z)/3+1)) (.int 48271)=some (.int (((y+z)/3+1)*48271)):=cG (by lia) (by lia) (by decide +kernel) (by decide +kernel);have hz:aZ l.length=true:=decide_eq_true (by lia);by_cases a1:0<(y+z)%3
   ·by_cases a2:0<((y+z)/3+1)*48271%M
    ·refine⟨[some (.int c),some (.int M),some (.int n),some (.lst es),some (.lst (l++[.tup [d,.int (((y+z)/3+1)*48271%M)]])),some (.int I),some (.int (y+z)),some (.int (((y+z)/3+1)*48271%M))],?_,_,_,_,_,rfl,by simp[-zac,-zab,aA,aB];lia⟩
     ac_rfl
    ·refine⟨[some (.int c),some (.int M),some (.int n),some (.lst es),some (.lst l),some (.int I),some (.int (y+z)),some (.int (((y+z)/3+1)*48271%M))],?_,_,_,_,_,rfl,by lia⟩
     ac_rfl
   ·refine⟨[some (.int c),some (.int M),some (.int n),some (.lst es),some (.lst l),some (.int I),some (.int (y+z)),some (.int (((y+z)/3+1)*48271%M))],?_,_,_,_,_,rfl,by lia⟩
    ac_rfl
  ·rintro ρ ⟨l,q,G,B,rfl,hl⟩
   exact⟨_,by simp[-zac,-zab,aA,aB],l,rfl⟩
structure OkMs(many:Int)(ms:List Mk):Prop where
 tk:∀m∈ms,(∃t,m.takes=[t])\/∃t u,m.takes=[t,u]
 tb:∀m∈ms,∀t∈m.takes,0<=t/\t<many
 gb:∀m∈ms,0<=m.g/\m.g<many
 mp:∀m∈ms,0<=m.pr
theorem yT{ns:List Int}{M many:Int}(hM:3<=M)(hm:1<=many/\many<=6):∃ms:List Mk,jO [.lst (ns.map .int),.int M,.int many]=some (.tup (ms.map kD))/\OkMs many ms/\ms.length<=6:=by
 suffices h:∃d,jO [.lst (ns.map .int),.int M,.int many]=some d/\∃ms:List Mk,d=.tup (ms.map kD)/\OkMs many ms/\ms.length<=6 by
  obtain⟨d,e,r,rfl,h⟩:=h;exact⟨r,e,h⟩
 have an:(10:Int)^60=1000000000000000000000000000000000000000000000000000000000000:=by decide +kernel
 have ao:(10:Int)^61=10000000000000000000000000000000000000000000000000000000000000:=by decide +kernel
 obtain⟨f,N⟩:=dN ns;have f9:=(N 9 (by decide) (by decide)).1;have aj:=(N 15 (by decide) (by decide)).1;have W:0<many:=by lia
 refine dQ ?_;unfold pE;rw[aF (aM (d:=.int (f 9)) (by ac_rfl))];generalize f 9=c9;rw[aF (aM (d:=.lst []) (by simp[-zac,-zab,aA,aB]))];have z0:=zat c9 (show(6:Int)≠0 by decide);have z1:=zav c9 (show(0:Int)<6 by decide);refine iY (items:=aQ 0 1 (c9%6).toNat) (by simp_all[aG,bR,eB z0 (show c9%6<=1000000 by lia)]) (λi ρ=>∃(ms:List Mk) (J Y G F B:Option D),ρ=[some (.lst (ns.map .int)),some (.int M),some (.int many),some (.int c9),some (.lst (ms.map kD)),J,Y,G,F,B]/\ms.length=i/\i<=6/\OkMs many ms) ⟨[],none,none,none,none,none,by ac_rfl,rfl,by decide,⟨λ_ h=>(nomatch h),λ_ h=>(nomatch h),λ_ h=>(nomatch h),λ_ h=>(nomatch h)⟩⟩ ?_ ?_
 ·rintro i x ρ hx ⟨ms,J,Y,G,F,B,rfl,U,hi,K⟩
  obtain⟨ap,rfl⟩:=bX hx;have hI:0<=(0:Int)+(i:Int)*1/\(0:Int)+(i:Int)*1<=6:=by lia
  generalize (0:Int)+(i:Int)*1=I at hI;have fI:=N (10+I) (by lia) (by lia);generalize f (10+I)=near at fI;have hz:(ms.map kD).length<=1000000:=by rw[zal];lia
  have n0:=zat (near/2) (show(3:Int)≠0 by decide);have n1:=zav (near/2) (show(0:Int)<3 by decide);obtain⟨nm,ak⟩:=qS (c:=f 15) (n:=near/2%3/2) (by lia) (by lia);obtain⟨p,ep,p0,p1⟩:=oU (c:=near/17) (by lia) (by lia);have q:∀y:Int,0<=y%many/\y%many<many:=λy=>⟨zat _ (zaT W),zav _ W⟩
  have fin:∀m:Mk,((∃t,m.takes=[t])\/∃t u,m.takes=[t,u])->(∀t∈m.takes,0<=t/\t<many)->(0<=m.g/\m.g<many)->0<=m.pr->OkMs many (ms++[m]):=λm a b c c2=>by
   have app:∀ {P:Mk->Prop},(∀r∈ms,P r)->P m->∀y∈ms++[m],P y:=λh1 h2 y hy=>by
    rcases List.mem_append.mp hy with z|z
    ·exact h1 y z
    ·rw[List.mem_singleton.mp z];exact h2
   exact⟨app K.tk a,app K.tb b,app K.gb c,app K.mp c2⟩
  have ht:∃t u:Int,(0<=t/\t<many)/\(0<=u/\u<many)/\dD (dX 7 (eX (aC (a7 dS (a7 dR (aD 5) (a7 g8 (aD 3) (eC (.int 6)))) (aD 2)) (aC (a7 dS (a7 g8 (aD 6) (eC (.int 6))) (aD 2)) aY)))) (BE (nO (a7 i4 (a7 dS (a7 g8 (aD 6) (eC (.int 36))) (eC (.int 3))) (eC (.int 0)))) (dX 7 (eX (aC (a7 dS (a7 g8 (aD 6) (eC (.int 7))) (aD 2)) (aC (a7 dS (a7 g8 (aD 6) (eC (.int 6))) (aD 2)) aY)))) JH) [some (.lst (ns.map .int)),some (.int M),some (.int many),some (.int c9),some (.lst (ms.map kD)),some (.int I),some (.int near),G,F,B]=some (.nx [some (.lst (ns.map .int)),some (.int M),some (.int many),some (.int c9),some (.lst (ms.map kD)),some (.int I),some (.int near),some (.tup [.int t,.int u]),F,B]):=by
   by_cases h3:near/36%3=0
   ·exact⟨near/7%many,near/6%many,q _,q _,by ac_rfl⟩
   ·exact⟨(I+c9/6)%many,near/6%many,q _,q _,by ac_rfl⟩
  obtain⟨t,u,tb,ub,et⟩:=ht;have es:∀ {g h k:Sv} {ρ:cU},dD g (dD h k) ρ=dD (dD g h) k ρ:=by
   intro g h k ρ;unfold dD;cases g ρ with
   | none=>rfl
   | some o=>cases o <;> rfl
  have f1:=fI.1;have dm:dS (.int (near/12)) (.int many)=some (.int (near/12%many)):=bR W;by_cases h2:near%2=0
  ·obtain⟨l,el⟩:=pJ (c:=near/5) (M:=M) (n:=1) hM (by lia) (by lia)
   refine⟨[some (.lst (ns.map .int)),some (.int M),some (.int many),some (.int c9),some (.lst ((ms++[(⟨nm,[t],near/12%many,.tup l,p⟩:Mk)]).map kD)),some (.int I),some (.int near),some (.tup [.int t]),some (.str nm),some (.tup l)],?_,_,_,_,_,_,_,rfl,by simp_all[U],by lia,fin _ (.inl ⟨t,rfl⟩) (by simpa using tb) (q _) p0⟩;show(aS 5 _ _).bind _=_;rw[q_name,aA,aF (aM (d:=.int near) (by ac_rfl)),es,aF (by exact et)];have de:i4 (.int (near%2)) (.int 0)=some (.bl true):=by simp_all[h2]
   have cs:pR (.tup [.int t,.int u]) none (some 1)=some (.tup [.int t]):=rfl;have dl:gB [.tup [.int t]]=some (.int 1):=rfl;rw[show(ms++[(⟨nm,[t],near/12%many,.tup l,p⟩:Mk)]).map kD=ms.map kD++[.tup [.str nm,.tup [.int t],.int (near/12%many),.tup l,.int p]] by simp_all[kD,tupI]]
   ac_rfl
  ·obtain⟨l,el⟩:=pJ (c:=near/5) (M:=M) (n:=2) hM (by lia) (by lia)
   refine⟨[some (.lst (ns.map .int)),some (.int M),some (.int many),some (.int c9),some (.lst ((ms++[(⟨nm,[t,u],near/12%many,.tup l,p⟩:Mk)]).map kD)),some (.int I),some (.int near),some (.tup [.int t,.int u]),some (.str nm),some (.tup l)],?_,_,_,_,_,_,_,rfl,by simp_all[U],by lia,fin _ (.inr ⟨t,u,rfl⟩) (by simp[-zac,-zab,aA,aB];exact⟨tb,ub⟩) (q _) p0⟩;show(aS 5 _ _).bind _=_;rw[q_name,aA,aF (aM (d:=.int near) (by ac_rfl)),es,aF (by exact et)];have de:i4 (.int (near%2)) (.int 0)=some (.bl false):=by simp_all[h2]
   have dl:gB [.tup [.int t,.int u]]=some (.int 2):=rfl;rw[show(ms++[(⟨nm,[t,u],near/12%many,.tup l,p⟩:Mk)]).map kD=ms.map kD++[.tup [.str nm,.tup [.int t,.int u],.int (near/12%many),.tup l,.int p]] by simp_all[kD,tupI]]
   ac_rfl
 ·rintro ρ ⟨ms,J,Y,G,F,B,rfl,U,hi,K⟩
  exact⟨_,by simp[-zac,-zab,aA,aB],ms,rfl,K,by lia⟩
theorem BP(ns:List Int):∃C:Bk,kS [.lst (ns.map .int)]=some (a9 C)/\OkB C:=by
 suffices h:∃d,kS [.lst (ns.map .int)]=some d/\∃C:Bk,d=a9 C/\OkB C by
  obtain⟨d,e,C,rfl,h⟩:=h;exact⟨C,e,h⟩
 obtain⟨f,F⟩:=dN ns;have f0:=(F 0 (by decide) (by decide)).1;have f1:=(F 1 (by decide) (by decide)).1;have ah:=(F 16 (by decide) (by decide)).1;refine dQ ?_;unfold rJ;generalize f 0=c at f0;rw[aF (aM (d:=.int c) (by ac_rfl))];have G:(10:Int)^59=100000000000000000000000000000000000000000000000000000000000:=by decide +kernel
 have ai:(10:Int)^60=1000000000000000000000000000000000000000000000000000000000000:=by decide +kernel
 have w0:=zat (c/4) (show(10^59:Int)≠0 by decide +kernel);have w1:=zav (c/4) (show(0:Int)<10^59 by decide +kernel);have W:dS (.int (c/4)) (.int (10^59))=some (.int (c/4%10^59)):=bR (by decide +kernel);generalize c/4%10^59=w at w0 w1 W;have mw:cT (.int 2) (.int w)=some (.int (2*w)):=cG (by decide +kernel) (by decide +kernel) (by lia) (by lia);have pw:NX (.int 10) (.int 59)=some (.int (10^59)):=F8 (by decide) (by decide) (by decide);rw[G]at W pw;rw[aF (aM (d:=.int (3+2*w)) (by ac_rfl))];refine fR (λρ=>∃M:Int,3<=M/\M<10^60/\ρ=[some (.lst (ns.map .int)),some (.int c),some (.int M),none,none]) ?_ ?_
 ·by_cases hc:c%4=0
  ·have v0:=zat (c/4) (show(4:Int)≠0 by decide)
   have v1:=zav (c/4) (show(0:Int)<4 by decide);have mv:cT (.int 2) (.int (c/4%4))=some (.int (2*(c/4%4))):=cG (by decide +kernel) (by decide +kernel) (by lia) (by lia);exact⟨_,by ac_rfl,3+2*(c/4%4),by lia,by lia,rfl⟩
  ·exact⟨_,by ac_rfl,3+2*w,by lia,by lia,rfl⟩
 ·rintro ρ ⟨M,J,N,rfl⟩
  have n0:=zat (f 1) (show(4:Int)≠0 by decide);have n1:=zav (f 1) (show(0:Int)<4 by decide);rw[aF (aM (d:=.int (1+f 1%4)) (by ac_rfl))];refine fR (λρ=>∃many:Int,(1<=many/\many<=6)/\ρ=[some (.lst (ns.map .int)),some (.int c),some (.int M),some (.int many),none]) ?_ ?_
  ·by_cases h5:f 1/4%8=5
   ·exact⟨_,by ac_rfl,6,by decide,rfl⟩
   ·exact⟨_,by ac_rfl,1+f 1%4,by lia,rfl⟩
  ·rintro ρ ⟨many,Y,rfl⟩
   have rm:bZ [.int many]=some (aQ 0 1 many.toNat):=eB (by lia) (by lia);obtain⟨ks,ek,U,B⟩:=w8 (f:=aT b9 (aC (aT bY (aC (aD 1) (aC (eC (.int 16)) aY))) (aC (aD 0) aY))) (rest:=[some (.lst (ns.map .int))]) (R:=λd=>∃s:Str,d=.str s) (aQ 0 1 many.toNat) none λa ha=>by
    obtain⟨i,rfl,i0,i1⟩:=vH ha;obtain⟨s,hs⟩:=qS (c:=f 16) (n:=i) i0 (by lia);exact⟨_,by ac_rfl,s,rfl⟩
   obtain⟨q,rfl⟩:=FE B;have ac:q.length=many.toNat:=by rw[zal,bH]at U;exact U
   have zz:aZ many.toNat=true:=decide_eq_true (by lia);rw[aF (aM (d:=.tup (q.map .str)) (by simp_all[rm,bH,zz,i5,ek]))];obtain⟨rs,er,gr⟩:=yJ (ns:=ns) (M:=M) (many:=many) J Y;obtain⟨ms,em,K,ml⟩:=yT (ns:=ns) (M:=M) (many:=many) J Y;have z:(q.length:Int)=many:=by lia
   refine⟨a9 ⟨M,q,rs,ms⟩,by simp_all[er,em,a9],_,rfl,⟨J,N,by show 1<=q.length;lia,by show q.length<=6;lia,?_,K.tk,?_,?_,ml,K.mp⟩⟩
   ·show GR M (q.length:Int) rs
    rw[z];exact gr
   ·show ∀m∈ms,∀t∈m.takes,0<=t/\t<(q.length:Int)
    rw[z];exact K.tb
   ·show ∀m∈ms,0<=m.g/\m.g<(q.length:Int)
    rw[z];exact K.gb
theorem oA:¬ ("name" : Str) = "use" := by decide
theorem jY:¬ ("name" : Str) = "let" := by decide
theorem wQ:¬ ("name" : Str) = "pick" := by decide
theorem mO:¬ ("name" : Str) = "again" := by decide
theorem lC:¬ ("number" : Str) = "use" := by decide
theorem iW:¬ ("number" : Str) = "let" := by decide
theorem wU:¬ ("number" : Str) = "pick" := by decide
theorem mP:¬ ("number" : Str) = "again" := by decide
theorem jX:¬ ("use" : Str) = "let" := by decide
theorem lI:¬ ("let" : Str) = "use" := by decide
theorem lB:¬ ("pick" : Str) = "use" := by decide
theorem iX:¬ ("pick" : Str) = "let" := by decide
theorem lG:¬ ("again" : Str) = "use" := by decide
theorem fZ:¬ ("again" : Str) = "let" := by decide
theorem xJ:¬ ("again" : Str) = "pick" := by decide
theorem F3{c:Bv}{b:Sv}{R:D->Prop}(I:Nat->cU->Prop)(J:cU->Prop)(h:∀n ρ,I n ρ->(c ρ=some true/\((∃m ρ',m<n/\b ρ=some (.nx ρ')/\I m ρ')\/∃d,b ρ=some (.rt d)/\R d))\/(c ρ=some false/\J ρ)):∀(fuel n:Nat) (ρ:cU),n<fuel->I n ρ->(∃ρ',eU c b fuel ρ=some (.nx ρ')/\J ρ')\/∃d,eU c b fuel ρ=some (.rt d)/\R d
 | 0,n,ρ,hn,_=>absurd hn (Nat.not_lt_zero n)
 | fuel+1,n,ρ,hn,hi=>by
  rcases h n ρ hi with⟨q,⟨m,ρ',N,z,B⟩|⟨d,z,M⟩⟩|⟨q,G⟩
  ·rcases F3 I J h fuel m ρ' (by lia) B with⟨F,e,G⟩|⟨d,e,M⟩
   ·refine .inl ⟨F,?_,G⟩
    unfold eU;rw[q,aA,if_pos rfl,z,aA];exact e
   ·refine .inr ⟨d,?_,M⟩
    unfold eU;rw[q,aA,if_pos rfl,z,aA];exact e
  ·refine .inr ⟨d,?_,M⟩
   unfold eU;rw[q,aA,if_pos rfl,z,aA]
  ·refine .inl ⟨ρ,?_,G⟩
   unfold eU;rw[q,aA,if_neg zaA]
theorem qO{c:Bv}{b rest:Sv}{ρ:cU}{R:D->Prop}(I:Nat->cU->Prop)(J:cU->Prop)(n:Nat)(B:n<100000)(z:I n ρ)(h:∀n ρ,I n ρ->(c ρ=some true/\((∃m ρ',m<n/\b ρ=some (.nx ρ')/\I m ρ')\/∃d,b ρ=some (.rt d)/\R d))\/(c ρ=some false/\J ρ))(k:∀ρ',J ρ'->∃d,rest ρ'=some (.rt d)/\R d):∃d,dD (lF c b) rest ρ=some (.rt d)/\R d:=by
 rcases F3 I J h 100000 n ρ B z with⟨ρ',e,F⟩|⟨d,e,G⟩
 ·have q:lF c b ρ=some (.nx ρ'):=e
  rw[aF q];exact k ρ' F
 ·have q:lF c b ρ=some (.rt d):=e
  exact⟨d,tH q,G⟩
theorem BD{C:Bk}:aJ (a9 C) (.int 1)=some (.tup (C.kinds.map .str)):=by unfold a9;rw[q_itT];exact at1
theorem NW:aJ (a9 C) (.int 2)=some (.tup (C.rs.map kR)):=by unfold a9;rw[q_itT];exact at2
theorem uO:aJ (a9 C) (.int 3)=some (.tup (C.makes.map kD)):=by unfold a9;rw[q_itT];exact XT
theorem DJ:aJ (kD m) (.int 0)=some (.str m.nm):=by unfold kD;rw[q_itT];exact at0
theorem yC:aJ (kD m) (.int 1)=some (tupI m.takes):=by unfold kD;rw[q_itT];exact at1
theorem IU:aJ (kD m) (.int 2)=some (.int m.g):=by unfold kD;rw[q_itT];exact at2
theorem SE{m:Mk}:aJ (kD m) (.int 4)=some (.int m.pr):=by unfold kD;rw[q_itT];exact qx
theorem oH(n:Nat):aQ 0 1 n=((zam n).map λ(j:Nat)=>(j:Int)).map D.int:=by
 unfold aQ;rw[zar];refine List.map_congr_left λa _=>?_
 show D.int _=D.int _;have:(0:Int)+(a:Int)*1=(a:Int):=by lia
 rw[this]
theorem zJ{c:Bv}{rest:List (Option D)}{p:Int->Bool}:∀(l:List Int) (o:Option D),(∀n∈l,c (some (.int n)::rest)=some (p n))->bA (aS 0) c (aD 0) (l.map .int) (o::rest)=some ((l.filter p).map .int)
 | [],o,_=>rfl
 | n::l,o,h=>by
  have ih:=zJ (c:=c) (rest:=rest) (p:=p) l (some (.int n)) λm z=>h m (zaq _ z)
  have q:=h n (zas ..);cases hp:p n with
  | true=>simp_all[bA,q,hp,ih]
  | false=>simp_all[bA,q,hp,ih]
theorem rE{C:Bk}{i:Int}{get:Ro->Int}{e:Int}(G:∀r,aJ (kR r) (.int i)=some (.int (get r)))(o:Option D):∃F:List Int,bA (aS 0) (nO (a7 i4 (a7 aJ (a7 aJ (a7 aJ (aD 1) (eC (.int 2))) (aD 0)) (eC (.int i))) (aD 2))) (aD 0) (aQ 0 1 C.rs.length) [o,some (a9 C),some (.int e)]=some (F.map .int)/\F.length<=C.rs.length/\∀n∈F,∃r,i8 C.rs n=some r/\get r=e:=by
 have z:=zJ (c:=nO (a7 i4 (a7 aJ (a7 aJ (a7 aJ (aD 1) (eC (.int 2))) (aD 0)) (eC (.int i))) (aD 2))) (rest:=[some (a9 C),some (.int e)]) (p:=λn=>match i8 C.rs n with|some r=>decide (get r=e)|none=>false) ((zam C.rs.length).map λ(j:Nat)=>(j:Int)) o λn B=>by
  obtain⟨k,J,rfl⟩:=List.mem_map.mp B;have:=List.mem_range.mp J;obtain⟨r,q⟩:=T1 (rs:=C.rs) (n:=(k:Int)) (by lia) (by lia);simp_all[NW,x9 q,G,q]
 rw[<- oH]at z;refine⟨_,z,?_,λn B=>?_⟩
 ·refine zaL (zc1 ..) ?_
  rw[zal,zcq];exact zai _
 ·have:=(List.mem_filter.mp B).2
  cases q:i8 C.rs n with
  | none=>simp[-zac,-zab,aA,aB,q]at this
  | some r=>simp[-zac,-zab,aA,aB,q]at this;exact⟨r,rfl,this⟩
theorem CD{C:Bk}(B:OkB C){j c:Int}(j0:0<=j)(W:j<(C.kinds.length:Int)):∃(e:Int) (w:List Int),kZ [a9 C,.int j,.int c]=some (.tup [.int e,tupI w])/\gw C.rs j w=some e:=by
 suffices h:∃d,kZ [a9 C,.int j,.int c]=some d/\∃(e:Int) (w:List Int),d=.tup [.int e,tupI w]/\gw C.rs j w=some e by
  obtain⟨d,h1,e,w,rfl,h2⟩:=h;exact⟨e,w,h1,h2⟩
 have k6:=B.k6;refine dQ ?_;unfold rX;rw[aF (aM (d:=tupI []) (by ac_rfl))];refine qO (λn ρ=>∃(e c:Int) (w:List Int) (o:Option D),ρ=[some (a9 C),some (.int e),some (.int c),some (tupI w),o]/\gw C.rs j w=some e/\n=(6-e).toNat) (λρ=>∃(e c:Int) (w:List Int) (o:Option D),ρ=[some (a9 C),some (.int e),some (.int c),some (tupI w),o]/\gw C.rs j w=some e) (6-j).toNat (by lia) ⟨j,c,[],none,by ac_rfl,rfl,rfl⟩ ?_ ?_
 ·rintro n ρ ⟨e,c,w,o,rfl,g,hn⟩
  by_cases G:0<c%3
  ·refine .inl ⟨by simp_all[bR,G],?_⟩
   have s:=d5 B g j0 W;obtain⟨q,el,ll,U⟩:=rE (C:=C) (i:=0) (get:=(·.j)) (e:=e) (λr=>qf) none;have N:=B.gr.len;have b2:=@NW C;have rm:bZ [.int ((C.rs.map kR).length:Int)]=some (aQ 0 1 C.rs.length):=by rw[zal];exact b8 (by lia)
   have zz:(aQ 0 1 C.rs.length).length<=1000000:=by rw[bH];lia
   rw[aF (aM (d:=.lst (q.map .int)) (by ac_rfl))];by_cases J:q.length=0
   ·exact .inr ⟨.tup [.int e,tupI w],by simp_all[J],e,w,rfl,g⟩
   ·have F:(0:Int)<(q.length:Int):=by lia
    obtain⟨v,hv,Y⟩:=fV (ns:=q) (k:=c/3%(q.length:Int)) (zat _ (zaT F)) (zav _ F);obtain⟨r,z,M⟩:=U v (zaw Y);have up:=(B.gr.jk r (nD z)).2.1;refine .inl ⟨(6-r.k).toNat,[some (a9 C),some (.int r.k),some (.int (c/7)),some (tupI (w++[v])),some (.lst (q.map .int))],?_,?_,r.k,c/7,w++[v],_,rfl,Q1 g z M,rfl⟩
    ·have ab:r.j=e:=M
     lia
    ·have ad:dR (tupI w) (.tup [.int v])=some (tupI (w++[v])):=by
      unfold tupI;rw[zaP];exact if_pos (decide_eq_true (show(w.map D.int).length+1<=1000000 by rw[zal];lia))
     have ea:aJ (tupI (w++[v])) (.int ((w.length+1:Nat)-1:Int))=some (.int v):=by
      unfold tupI;rw[show((w.length+1:Nat)-1:Int)=(w.length:Int) by lia];exact bV (by simp[-zac,-zab,aA,aB])
     have dl:gB [tupI (w++[v])]=some (.int ((w.length+1:Nat):Int)):=by simp_all[tupI]
     have de:i4 (.int ((q.map D.int).length:Int)) (.int 0)=some (.bl false):=by simp_all[J]
     have md:dS (.int (c/3)) (.int ((q.map D.int).length:Int))=some (.int (c/3%(q.length:Int))):=by rw[zal];exact bR F
     have ar:=x9 z;have rk:=@ZW r;rw[aF (ρ':=[some (a9 C),some (.int e),some (.int c),some (tupI w),some (.lst (q.map .int))]) (by ac_rfl)];rw[aF (aM (d:=tupI (w++[v])) (by ac_rfl))];rw[aF (aM (d:=.int r.k) (by ac_rfl))]
     ac_rfl
  ·exact .inr ⟨by simp_all[bR,G],e,c,w,o,rfl,g⟩
 ·rintro ρ ⟨e,c,w,o,rfl,g⟩
  exact⟨_,by simp[-zac,-zab,aA,aB],e,w,rfl,g⟩
theorem KJ{rs:List Ro}{n f:Int}{w:List Int}{r:Ro}(q:i8 rs n=some r)(h:gw rs r.k w=some f):gw rs r.j (n::w)=some f:=by
 show((i8 rs n).bind λs=>if s.j=r.j then gw rs s.k w else none)=_;rw[q];show(if r.j=r.j then gw rs r.k w else none)=_;rw[if_pos rfl];exact h
theorem BV{C:Bk}(B:OkB C){k c:Int}(k0:0<=k)(k1:k<(C.kinds.length:Int)):∃(j:Int) (w:List Int),k9 [a9 C,.int k,.int c]=some (.tup [.int j,tupI w])/\gw C.rs j w=some k/\0<=j/\j<(C.kinds.length:Int):=by
 suffices h:∃d,k9 [a9 C,.int k,.int c]=some d/\∃(j:Int) (w:List Int),d=.tup [.int j,tupI w]/\gw C.rs j w=some k/\0<=j/\j<(C.kinds.length:Int) by
  obtain⟨d,h1,e,w,rfl,h2⟩:=h;exact⟨e,w,h1,h2⟩
 have k6:=B.k6;refine dQ ?_;unfold rF;rw[aF (aM (d:=tupI []) (by ac_rfl))];refine qO (λn ρ=>∃(e c:Int) (w:List Int) (o:Option D),ρ=[some (a9 C),some (.int e),some (.int c),some (tupI w),o]/\gw C.rs e w=some k/\0<=e/\e<(C.kinds.length:Int)/\n=e.toNat) (λρ=>∃(e c:Int) (w:List Int) (o:Option D),ρ=[some (a9 C),some (.int e),some (.int c),some (tupI w),o]/\gw C.rs e w=some k/\0<=e/\e<(C.kinds.length:Int)) k.toNat (by lia) ⟨k,c,[],none,by ac_rfl,rfl,k0,k1,rfl⟩ ?_ ?_
 ·rintro n ρ ⟨e,c,w,o,rfl,g,z,J,hn⟩
  by_cases N:0<c%3
  ·refine .inl ⟨by simp_all[bR,N],?_⟩
   have s:=d5 B g z J;obtain⟨q,el,ll,Y⟩:=rE (C:=C) (i:=1) (get:=(·.k)) (e:=e) (λr=>ZW) none;have W:=B.gr.len;have b2:=@NW C;have rm:bZ [.int ((C.rs.map kR).length:Int)]=some (aQ 0 1 C.rs.length):=by rw[zal];exact b8 (by lia)
   have zz:(aQ 0 1 C.rs.length).length<=1000000:=by rw[bH];lia
   rw[aF (aM (d:=.lst (q.map .int)) (by ac_rfl))];by_cases U:q.length=0
   ·exact .inr ⟨.tup [.int e,tupI w],by simp_all[U],e,w,rfl,g,z,J⟩
   ·have G:(0:Int)<(q.length:Int):=by lia
    obtain⟨v,hv,hm⟩:=fV (ns:=q) (k:=c/3%(q.length:Int)) (zat _ (zaT G)) (zav _ G);obtain⟨r,F,hj⟩:=Y v (zaw hm);have up:=B.gr.jk r (nD F);have M:r.k=e:=hj;refine .inl ⟨r.j.toNat,[some (a9 C),some (.int r.j),some (.int (c/7)),some (tupI (v::w)),some (.lst (q.map .int))],by lia,?_,r.j,c/7,v::w,_,rfl,KJ F (by rw[M];exact g),up.1,by lia,rfl⟩;have ad:dR (.tup [.int v]) (tupI w)=some (tupI (v::w)):=if_pos (decide_eq_true (show 1+(w.map D.int).length<=1000000 by rw[zal];lia));have ea:aJ (tupI (v::w)) (.int 0)=some (.int v):=at0;have de:i4 (.int ((q.map D.int).length:Int)) (.int 0)=some (.bl false):=by simp_all[U]
    have md:dS (.int (c/3)) (.int ((q.map D.int).length:Int))=some (.int (c/3%(q.length:Int))):=by rw[zal];exact bR G
    have ar:=x9 F;have rk:=@qf r;rw[aF (ρ':=[some (a9 C),some (.int e),some (.int c),some (tupI w),some (.lst (q.map .int))]) (by ac_rfl)];rw[aF (aM (d:=tupI (v::w)) (by ac_rfl))];rw[aF (aM (d:=.int r.j) (by ac_rfl))]
    ac_rfl
  ·exact .inr ⟨by simp_all[bR,N],e,c,w,o,rfl,g,z,J⟩
 ·rintro ρ ⟨e,c,w,o,rfl,g⟩
  exact⟨_,by simp[-zac,-zab,aA,aB],e,w,rfl,g⟩
theorem vC{C:Bk}{w:List Int}(h:∀n∈w,∃r,i8 C.rs n=some r):∃ns:List Int,bA (aS 0) eY (a7 aJ (a7 aJ (a7 aJ (aD 1) (eC (.int 2))) (aD 0)) (eC (.int 4))) (w.map .int) [none,some (a9 C)]=some (ns.map .int)/\ns.sum=dH C.rs w:=by
 refine⟨w.map λn=>match i8 C.rs n with|some r=>r.p|none=>0,?_,rfl⟩;rw[zar];refine AJ w none λn z=>?_
 obtain⟨r,q⟩:=h n z;simp_all[NW,x9 q,qa2,q]
theorem dM{C:Bk}{w:List Int}(h:∀n∈w,∃r,i8 C.rs n=some r)(z:w.length<=100):iH [a9 C,tupI w]=some (.int (dH C.rs w)):=by
 obtain⟨ns,e,hs⟩:=vC h;have q:aZ w.length=true:=decide_eq_true (by lia);refine aL ?_;simp_all[qY,aG,tupI,i5,q,e,hs]
theorem eJ{R:List D->Option D}{q:Str}{pre:List D}{v w:List Int}(F:fL (pre++[tupI w]) 0=some (.str q))(J:¬ q = "let")(N:pre.length<=10)(hw:w.length+v.length<=100):bG 3 (eN R) [.tup (pre++[tupI w]),tupI v]=some (.tup (pre++[tupI (w++v)])):=by
 have a:fL (pre++[tupI w]) (pre.length:Int)=some (tupI w):=bV (by rw[zdi (zai _),Nat.sub_self];rfl);have z:aZ (pre.length+1)=true:=decide_eq_true (by lia);have G:=G6 (as:=pre) (bs:=[tupI w]);have B:dR (tupI w) (tupI v)=some (tupI (w++v)):=by
  have M:aZ (w.length+v.length)=true:=decide_eq_true (by lia);simp_all[tupI,M]
 have e:((pre++[tupI w]).length:Int)-1=(pre.length:Int):=by simp[-zac,-zab,aA,aB]
 refine aL ?_;unfold eN;rw[aF (aM (d:=.int (pre.length:Int)) (by rw[<- e];rfl))];simp_all[aG,F,J,G,a,B,z]
theorem uZ{v:List Int}(F:v.length<=6):∀(n:Nat) (g:Rg),size g<=n->Short g->gC 3 eN n [rd g,tupI v]=some (rd (beh g v))
 | 0,g,h,_=>by cases g <;> simp[-zac,-zab,aA,aB,size]at h
 | n+1,.name x j w,h,s=>eJ (pre:=[.str "name",.str x]) at0 jY (by simp[-zac,-zab,aA,aB]) (by have:w.length<=6:=s;lia)
 | n+1,.num m j w,h,s=>eJ (pre:=[.str "number",.int m,.int j]) at0 iW (by simp[-zac,-zab,aA,aB]) (by have:w.length<=6:=s;lia)
 | n+1,.use1 u nm p w,h,s=>eJ (pre:=[.str "use",.int (u:Int),.tup [rd p]]) at0 jX (by simp[-zac,-zab,aA,aB]) (by have:w.length<=6:=s.2;lia)
 | n+1,.use2 u nm p q w,h,s=>eJ (pre:=[.str "use",.int (u:Int),.tup [rd p,rd q]]) at0 jX (by simp[-zac,-zab,aA,aB]) (by have:w.length<=6:=s.2.2;lia)
 | n+1,.lett x j p q,h,s=>by
  have ih:=uZ F n q (by simp only[size]at h;lia) s.2;have B:cutD [.str "let",.str x,.int j,rd p,rd q] none (some 4)=[.str "let",.str x,.int j,rd p]:=rfl;have z:aZ 5=true:=rfl;refine aL ?_;simp_all[eN,aG,rd,beh,at0,qx,B,ih,z]
 | n+1,.pick c k p q r w,h,s=>eJ (pre:=[.str "pick",.int c,.int k,rd p,rd q,rd r]) at0 iX (by simp[-zac,-zab,aA,aB]) (by have:w.length<=6:=s.2.2.2;lia)
 | n+1,.again c k x p q w,h,s=>eJ (pre:=[.str "again",.int c,.int k,.str x,rd p,rd q]) at0 fZ (by simp[-zac,-zab,aA,aB]) (by have:w.length<=6:=s.2.2;lia)
theorem wA{g:Rg}{v:List Int}(z:size g<=24)(s:Short g)(q:v.length<=6):mC [rd g,tupI v]=some (rd (beh g v)):=uZ q 24 g z s
noncomputable def bQ(p:Str×Int):D:=.tup [.str p.1,.int p.2]
def bD(C:Bk)(g:Rg)(k r:Int):D:=.tup [pt g,rd g,.int k,.int (size g:Int),.int (lets g),.int r,.int (cost C g)]
theorem uD{C:Bk}{g:Rg}{k r:Int}:aJ (bD C g k r) (.int 0)=some (pt g):=by unfold bD;rw[q_itT];exact at0
theorem uC{C:Bk}{g:Rg}{k r:Int}:aJ (bD C g k r) (.int 1)=some (rd g):=by unfold bD;rw[q_itT];exact at1
theorem BA{C:Bk}{g:Rg}{k r:Int}:aJ (bD C g k r) (.int 2)=some (.int k):=by unfold bD;rw[q_itT];exact at2
theorem qaG{C:Bk}{g:Rg}{k r:Int}:aJ (bD C g k r) (.int 3)=some (.int (size g:Int)):=by unfold bD;rw[q_itT];exact XT
theorem qaS{C:Bk}{g:Rg}{k r:Int}:aJ (bD C g k r) (.int 4)=some (.int (lets g)):=by unfold bD;rw[q_itT];exact qx
theorem qaq{C:Bk}{g:Rg}{k r:Int}:aJ (bD C g k r) (.int 5)=some (.int r):=by unfold bD;rw[q_itT];exact at5
theorem qax{C:Bk}{g:Rg}{k r:Int}:aJ (bD C g k r) (.int 6)=some (.int (cost C g)):=by unfold bD;rw[q_itT];exact at6
theorem rR{j:Int}:∀(kn:List (Str×Int)) (o p:Option D),∃ss:List Str,bA (kQ 2 (eG (aS 0) (eG (aS 1) tY))) (nO (a7 i4 (aD 1) (aD 2))) (aD 0) (kn.map bQ) [o,p,some (.int j)]=some (ss.map .str)/\∀s∈ss,(s,j)∈kn
 | [],o,p=>⟨[],rfl,λ_ h=>nomatch h⟩
 | (x,i)::kn,o,p=>by
  obtain⟨ss,e,hs⟩:=rR (j:=j) kn (some (.str x)) (some (.int i));by_cases h:i=j
  ·refine⟨x::ss,by simp[-zac,-zab,aA,aB,bA,bQ,h]at e ⊢;simp_all[e],λs q=>?_⟩
   rcases List.mem_cons.mp q with z|z
   ·rw[z,h];exact zas ..
   ·exact zaq _ (hs s z)
  ·exact⟨ss,by simp[-zac,-zab,aA,aB,bA,bQ,h]at e ⊢;simp_all[e],λs q=>zaq _ (hs s q)⟩
theorem dO{C:Bk}(B:OkB C){kn:List (Str×Int)}{k c:Int}(hl:kn.length<=100)(k0:0<=k)(k1:k<(C.kinds.length:Int))(c0:0<=c)(c1:c<10^60):∃g,bO [a9 C,.lst (kn.map bQ),.int k,.int c]=some (bD C g k 0)/\WF C kn g k/\size g=1/\lets g=0/\∀U N,NF U N g:=by
 suffices h:∃d,bO [a9 C,.lst (kn.map bQ),.int k,.int c]=some d/\∃g,d=bD C g k 0/\WF C kn g k/\size g=1/\lets g=0/\∀U N,NF U N g by
  obtain⟨d,h1,g,rfl,h2⟩:=h;exact⟨g,h1,h2⟩
 have ae:(10:Int)^60=1000000000000000000000000000000000000000000000000000000000000:=by decide +kernel
 obtain⟨j,w,eb,q,Y,W⟩:=BV B (k:=k) (c:=c/5) k0 k1;have sh:=d5 B q Y W;obtain⟨ss,es,hs⟩:=rR (j:=j) kn none none;have zk:aZ kn.length=true:=decide_eq_true (by lia);have ec:=dM (C:=C) (gS q) (by lia);have J:0<C.M:=by have:=B.M3;lia
 refine dQ ?_;unfold rV;rw[aF (ρ':=[some (a9 C),some (.lst (kn.map bQ)),some (.int k),some (.int c),some (.int j),some (tupI w),none,none,none,none]) (by ac_rfl)];rw[aF (aM (d:=.lst (ss.map .str)) (by simp_all[zk,i5,es]))];rw[aF (aM (d:=.int (dH C.rs w)) (by ac_rfl))];have num:∃d,dD (dX 9 (a7 dS (a7 cT (a7 g8 (aD 3) (eC (.int 11))) (eC (.int 982451653))) (a7 aJ (aD 0) (eC (.int 0)))))
   (BI (eX (aC (eX (aC (eC (.str "number")) (aC (aD 9) (aC (aD 4) aY)))) (aC (eX (aC (eC (.str "number")) (aC (aD 9) (aC (aD 4) (aC (aD 5) aY))))) (aC (aD 2) (aC (eC (.int 1)) (aC (eC (.int 0)) (aC (eC (.int 0)) (aC (aD 7) aY)))))))))
   [some (a9 C),some (.lst (kn.map bQ)),some (.int k),some (.int c),some (.int j),some (tupI w),some (.lst (ss.map .str)),some (.int (dH C.rs w)),none,none]=some (.rt d)/\∃g,d=bD C g k 0/\WF C kn g k/\size g=1/\lets g=0/\∀U N,NF U N g:=by
  have mu:cT (.int (c/11)) (.int 982451653)=some (.int (c/11*982451653)):=cG (by lia) (by lia) (by decide +kernel) (by decide +kernel);have n0:=zat (c/11*982451653) (zaT J);have n1:=zav (c/11*982451653) J;rw[aF (aM (d:=.int (c/11*982451653%C.M)) (by ac_rfl))];exact⟨_,by simp[-zac,-zab,aA,aB];rfl,.num (c/11*982451653%C.M) j w,by ac_rfl,⟨⟨n0,n1⟩,⟨Y,W⟩,q⟩,rfl,rfl,λ_ _=>trivial⟩
 by_cases h1:1<c%5
 ·by_cases h2:ss.length=0
  ·rw[aF (ρ':=[some (a9 C),some (.lst (kn.map bQ)),some (.int k),some (.int c),some (.int j),some (tupI w),some (.lst (ss.map .str)),some (.int (dH C.rs w)),none,none]) (by simp_all[bR,h1,h2])]
   exact num
  ·have F:(0:Int)<(ss.length:Int):=by lia
   have z:0<ss.length:=by lia
   obtain⟨d,hm,_,hd⟩:=tW (l:=ss.map D.str) (k:=c/7%(ss.length:Int)) (zat _ (zaT F)) (by rw[zal];exact zav _ F);obtain⟨s,G,rfl⟩:=List.mem_map.mp hm;refine⟨bD C (.name s j w) k 0,tH ?_,.name s j w,rfl,⟨hs s G,q⟩,rfl,rfl,λ_ _=>trivial⟩;simp_all[bR,h1,z,g7,bR F,hd,bD,pt,rd,size,lets,cost]
 ·rw[aF (ρ':=[some (a9 C),some (.lst (kn.map bQ)),some (.int k),some (.int c),some (.int j),some (tupI w),some (.lst (ss.map .str)),some (.int (dH C.rs w)),none,none]) (by ac_rfl)]
  exact num
local macro_rules | `(tactic|ac_rfl) => `(tactic|(with_reducible first|exact uD|exact uC|exact BA|exact qaG|exact qaS|exact BD|exact NW|exact uO|exact DJ|exact yC|exact IU|exact SE|exact at5|exact at6))
structure S7 where
 p:D
 q:D
 k:D
 a:Int
 b:Int
 r:Int
 c:Int
noncomputable def sD(s:S7):D:=.tup [s.p,s.q,s.k,.int s.a,.int s.b,.int s.r,.int s.c]
theorem s_3{s:S7}:aJ (sD s) (.int 3)=some (.int s.a):=by unfold sD;rw[q_itT];exact XT
theorem s_4{s:S7}:aJ (sD s) (.int 4)=some (.int s.b):=by unfold sD;rw[q_itT];exact qx
theorem s_5{s:S7}:aJ (sD s) (.int 5)=some (.int s.r):=by unfold sD;rw[q_itT];exact at5
theorem s_6{s:S7}:aJ (sD s) (.int 6)=some (.int s.c):=by unfold sD;rw[q_itT];exact at6
noncomputable def yE(w:Str):Int:=if w = "let" then 1 else 0
theorem lA{w0:Str}{l:List D}{q k:D}{ss:List S7}{own:Int}(hl:ss.length<=10):∃r:Int,aW [.tup (.str w0::l),q,k,.lst (ss.map sD),.int own]=some (.tup [.tup (.str w0::l),q,k,.int (1+(ss.map (·.a)).sum),.int (yE w0+(ss.map (·.b)).sum),.int r,.int (own+(ss.map (·.c)).sum)]):=by
 suffices h:∃d,aW [.tup (.str w0::l),q,k,.lst (ss.map sD),.int own]=some d/\∃r:Int,d=.tup [.tup (.str w0::l),q,k,.int (1+(ss.map (·.a)).sum),.int (yE w0+(ss.map (·.b)).sum),.int r,.int (own+(ss.map (·.c)).sum)] by
  obtain⟨d,e,r,rfl⟩:=h;exact⟨r,e⟩
 refine dQ ?_;unfold rW;rw[aF (aM (d:=.int 1) (by simp[-zac,-zab,aA,aB]))];rw[aF (aM (d:=.int (yE w0)) (by by_cases h:w0 = "let" <;> simp_all[aG,at0,yE,h]))];rw[aF (aM (d:=.int 0) (by simp[-zac,-zab,aA,aB]))];refine iY (items:=aQ 0 1 ss.length) (by simp_all[aG,b8 (show ss.length<=1000000 by lia)]) (λi ρ=>∃(r:Int) (J G:Option D),ρ=[some (.tup (.str w0::l)),some q,some k,some (.lst (ss.map sD)),some (.int (own+((ss.take i).map (·.c)).sum)),some (.int (1+((ss.take i).map (·.a)).sum)),some (.int (yE w0+((ss.take i).map (·.b)).sum)),some (.int r),J,G]) ⟨0,none,none,by simp_all[aG]⟩ ?_ ?_
 ·rintro i x ρ hx ⟨r,J,G,rfl⟩
  obtain⟨B,rfl⟩:=bX hx;have M:(0:Int)+(i:Int)*1=(i:Int):=by lia
  rw[M];obtain⟨s,hs⟩:∃s,ss[i]?=some s:=⟨ss[i],zaS B⟩;have N:fL (ss.map sD) (i:Int)=some (sD s):=bV (by rw[zaB,hs];rfl);have W:(ss.take (i+1))=ss.take i++[s]:=by rw[zcZ,hs];rfl
  rw[W];simp only[zaP,zak,zcB,List.sum_append_int,zbe,List.sum_nil,Int.add_zero];generalize ((ss.take i).map (·.a)).sum=A;generalize ((ss.take i).map (·.b)).sum=Bb;generalize ((ss.take i).map (·.c)).sum=Cc;have q3:=s_3 (s:=s);have Y:=s_4 (s:=s);have q5:=s_5 (s:=s);have q6:=s_6 (s:=s);have F:∃z:Int,aT GK (aC (aD 7) (aC (a7 dR (a7 aJ (aD 9) (eC (.int 5))) (aT DK (aC (NR (a7 i4 (a7 aJ (aD 0) (eC (.int 0))) (eC (.str "again"))) (a7 i4 (aD 8) (eC (.int 1)))) aY))) aY)) [some (.tup (.str w0::l)),some q,some k,some (.lst (ss.map sD)),some (.int (own+Cc)),some (.int (1+A+s.a)),some (.int (yE w0+Bb+s.b)),some (.int r),some (.int (i:Int)),some (sD s)]=some (.int z):=by
   obtain⟨b,hb⟩:∃b,i4 (.str w0) (.str "again")=some (.bl b):=⟨_,by simp[-zac,-zab,aA,aB];rfl⟩;obtain⟨b2,U⟩:∃b,i4 (.int (i:Int)) (.int 1)=some (.bl b):=⟨_,by simp[-zac,-zab,aA,aB];rfl⟩;cases b <;> exact⟨_,by ac_rfl⟩
  obtain⟨z,F⟩:=F;refine⟨[some (.tup (.str w0::l)),some q,some k,some (.lst (ss.map sD)),some (.int (own+(Cc+s.c))),some (.int (1+(A+s.a))),some (.int (yE w0+(Bb+s.b))),some (.int z),some (.int (i:Int)),some (sD s)],?_,z,_,_,rfl⟩;show(aS 8 _ _).bind _=_;rw[q_name,aA,<- zc4,<- zc4,<- zc4];rw[aF (aM (d:=sD s) (by ac_rfl))];rw[aF (aM (d:=.int (1+A+s.a)) (by ac_rfl))];rw[aF (aM (d:=.int (yE w0+Bb+s.b)) (by ac_rfl))];rw[aF (aM (d:=.int z) (by exact F))]
  ac_rfl
 ·rintro ρ ⟨r,J,G,rfl⟩
  rw[bH,zbX];exact⟨_,by simp[-zac,-zab,aA,aB],r,rfl⟩
def sG(C:Bk)(g:Rg)(k r:Int):S7:=⟨pt g,rd g,.int k,size g,lets g,r,cost C g⟩
structure Gs(U:List Str)(C:Bk)(kn:List (Str×Int))(g:Rg)(k:Int)(n:Nat):Prop where
 wf:WF C kn g k
 k0:0<=k
 k1:k<(C.kinds.length:Int)
 sz:size g<=n
 nf:NF U (kn.map (·.1)) g
theorem YC{C:Bk}{w0:Str}{l:List D}{q k:D}{g1:Rg}{k1 r1 own:Int}:∃r:Int,aW [.tup (.str w0::l),q,k,.lst [bD C g1 k1 r1],.int own]=some (.tup [.tup (.str w0::l),q,k,.int (1+(size g1:Int)),.int (yE w0+lets g1),.int r,.int (own+cost C g1)]):=by
 obtain⟨r,h⟩:=lA (w0:=w0) (l:=l) (q:=q) (k:=k) (ss:=[sG C g1 k1 r1]) (own:=own) (by simp[-zac,-zab,aA,aB]);exact⟨r,by simpa[sG,sD,bD]using h⟩
theorem NE{C:Bk}{w0:Str}{l:List D}{q k:D}{g1 g2:Rg}{k1 r1 k2 r2 own:Int}:∃r:Int,aW [.tup (.str w0::l),q,k,.lst [bD C g1 k1 r1,bD C g2 k2 r2],.int own]=some (.tup [.tup (.str w0::l),q,k,.int (1+((size g1:Int)+(size g2:Int))),.int (yE w0+(lets g1+lets g2)),.int r,.int (own+(cost C g1+cost C g2))]):=by
 obtain⟨r,h⟩:=lA (w0:=w0) (l:=l) (q:=q) (k:=k) (ss:=[sG C g1 k1 r1,sG C g2 k2 r2]) (own:=own) (by simp[-zac,-zab,aA,aB]);exact⟨r,by simpa[sG,sD,bD]using h⟩
theorem YY{C:Bk}{w0:Str}{l:List D}{q k:D}{g1 g2 g3:Rg}{k1 r1 k2 r2 k3 r3 own:Int}:∃r:Int,aW [.tup (.str w0::l),q,k,.lst [bD C g1 k1 r1,bD C g2 k2 r2,bD C g3 k3 r3],.int own]=some (.tup [.tup (.str w0::l),q,k,.int (1+((size g1:Int)+((size g2:Int)+(size g3:Int)))),.int (yE w0+(lets g1+(lets g2+lets g3))),.int r,.int (own+(cost C g1+(cost C g2+cost C g3)))]):=by
 obtain⟨r,h⟩:=lA (w0:=w0) (l:=l) (q:=q) (k:=k) (ss:=[sG C g1 k1 r1,sG C g2 k2 r2,sG C g3 k3 r3]) (own:=own) (by simp[-zac,-zab,aA,aB]);exact⟨r,by simpa[sG,sD,bD]using h⟩
theorem FG:yE "use" = 0:=by decide
theorem KU:yE "pick" = 0:=by decide
theorem HL:yE "again" = 0:=by decide
theorem RC:yE "let" = 1:=by decide
theorem qB{rs:List Ro}:dH rs []=0:=rfl
theorem MT{C:Bk}{v:Nat}{m:Mk}(h:C.makes[v]?=some m):mpr C v=m.pr:=by unfold mpr;rw[h];rfl
theorem l7{U:List Str}{C:Bk}(B:OkB C){kn:List (Str×Int)}(K:OkN C kn){g:Rg}{k r c:Int}{n:Nat}(G:Gs U C kn g k n)(hn:n<=24):∃g' z,iC [a9 C,bD C g k r,.int c]=some (bD C g' z r)/\Gs U C kn g' z n/\size g'=size g/\lets g'=lets g:=by
 obtain⟨e,w,W,q⟩:=CD B (j:=k) (c:=c) G.k0 G.k1;have s:=d5 B q G.k0 G.k1;have sh:=G.wf.short B K;have F:=wA (g:=g) (v:=w) (by have:=G.sz;lia) sh.1 s.1;have J:=dM (C:=C) (gS q) (by lia);refine⟨beh g w,e,aL ?_,⟨G.wf.beh q,s.2.1,s.2.2,by rw[mV];exact G.sz,G.nf.beh⟩,mV g w,sY g w⟩;unfold mG;rw[aF (ρ':=[some (a9 C),some (bD C g k r),some (.int c),some (.int e),some (tupI w)]) (by simp_all[aG,BA,W])];have M:pR (bD C g k r) (some 3) (some 6)=some (.tup [.int (size g:Int),.int (lets g),.int r]):=rfl;have Y:aZ 6=true:=rfl;have N:aZ 7=true:=rfl;simp_all[uD,uC,qax,F,J,M,Y,N];simp_all[bD,MD,mV,sY,AG]
theorem kO{C:Bk}{v:Nat}{m:Mk}(h:C.makes[v]?=some m):fL (C.makes.map kD) (v:Int)=some (kD m):=bV (by rw[zaB,h];rfl)
noncomputable def DY(p:Nat×Nat):D:=.tup [.int (p.1:Int),.int (p.2:Int)]
theorem RU{C:Bk}{v:Nat}{m:Mk}(z:C.makes[v]?=some m){g:Rg}{k1 r1:Int}:∃r,aW [.tup [.str "use",.str m.nm,.tup [pt g]],.tup [.str "use",.int (v:Int),.tup [rd g],.tup []],.int m.g,.lst [bD C g k1 r1],.int m.pr]=some (bD C (.use1 v m.nm g []) m.g r):=by
 obtain⟨r,h⟩:=YC (C:=C) (w0 := "use") (l:=[.str m.nm,.tup [pt g]]) (q:=.tup [.str "use",.int (v:Int),.tup [rd g],.tup []]) (k:=.int m.g) (g1:=g) (k1:=k1) (r1:=r1) (own:=m.pr);exact⟨r,h.trans (by simp_all[bD,pt,rd,size,lets,cost,tupI,MT z,qB,FG])⟩
theorem EB{C:Bk}{v:Nat}{m:Mk}(z:C.makes[v]?=some m){g g':Rg}{k1 r1 k2 r2:Int}:∃r,aW [.tup [.str "use",.str m.nm,.tup [pt g,pt g']],.tup [.str "use",.int (v:Int),.tup [rd g,rd g'],.tup []],.int m.g,.lst [bD C g k1 r1,bD C g' k2 r2],.int m.pr]=some (bD C (.use2 v m.nm g g' []) m.g r):=by
 obtain⟨r,h⟩:=NE (C:=C) (w0 := "use") (l:=[.str m.nm,.tup [pt g,pt g']]) (q:=.tup [.str "use",.int (v:Int),.tup [rd g,rd g'],.tup []]) (k:=.int m.g) (g1:=g) (k1:=k1) (r1:=r1) (g2:=g') (k2:=k2) (r2:=r2) (own:=m.pr);exact⟨r,h.trans (by simp_all[bD,pt,rd,size,lets,cost,tupI,MT z,qB,FG])⟩
theorem MA{C:Bk}{x:Str}{j k:Int}{g g':Rg}{k1 r1 k2 r2:Int}:∃r,aW [.tup [.str "let",.str x,pt g,pt g'],.tup [.str "let",.str x,.int j,rd g,rd g'],.int k,.lst [bD C g k1 r1,bD C g' k2 r2],.int 0]=some (bD C (.lett x j g g') k r):=by
 obtain⟨r,h⟩:=NE (C:=C) (w0 := "let") (l:=[.str x,pt g,pt g']) (q:=.tup [.str "let",.str x,.int j,rd g,rd g']) (k:=.int k) (g1:=g) (k1:=k1) (r1:=r1) (g2:=g') (k2:=k2) (r2:=r2) (own:=0);exact⟨r,h.trans (by simp_all[bD,pt,rd,size,lets,cost,RC])⟩
theorem AO{C:Bk}{x:Str}{n j k:Int}{g g':Rg}{k1 r1 k2 r2:Int}:∃r,aW [.tup [.str "again",.int n,.int j,.str x,pt g,pt g'],.tup [.str "again",.int n,.int j,.str x,rd g,rd g',.tup []],.int k,.lst [bD C g k1 r1,bD C g' k2 r2],.int 0]=some (bD C (.again n j x g g' []) k r):=by
 obtain⟨r,h⟩:=NE (C:=C) (w0 := "again") (l:=[.int n,.int j,.str x,pt g,pt g']) (q:=.tup [.str "again",.int n,.int j,.str x,rd g,rd g',.tup []]) (k:=.int k) (g1:=g) (k1:=k1) (r1:=r1) (g2:=g') (k2:=k2) (r2:=r2) (own:=0);exact⟨r,h.trans (by simp_all[bD,pt,rd,size,lets,cost,tupI,qB,HL])⟩
theorem xO{C:Bk}{c j k:Int}{g g' g2:Rg}{k1 r1 k2 r2 k3 r3:Int}:∃r,aW [.tup [.str "pick",.int c,.int j,pt g,pt g',pt g2],.tup [.str "pick",.int c,.int j,rd g,rd g',rd g2,.tup []],.int k,.lst [bD C g k1 r1,bD C g' k2 r2,bD C g2 k3 r3],.int 0]=some (bD C (.pick c j g g' g2 []) k r):=by
 obtain⟨r,h⟩:=YY (C:=C) (w0 := "pick") (l:=[.int c,.int j,pt g,pt g',pt g2]) (q:=.tup [.str "pick",.int c,.int j,rd g,rd g',rd g2,.tup []]) (k:=.int k) (g1:=g) (k1:=k1) (r1:=r1) (g2:=g') (k2:=k2) (r2:=r2) (g3:=g2) (k3:=k3) (r3:=r3) (own:=0);exact⟨r,h.trans (by simp_all[bD,pt,rd,size,lets,cost,tupI,qB,KU])⟩
theorem xD{bk K s c B z q R nm G pd:D}{o:Option D}{ts F zs ps rs:List D}(h1:aJ q (.int 1)=some (.tup ts))(N:aJ q (.int 0)=some nm)(h2:aJ q (.int 2)=some G)(W:aJ q (.int 4)=some pd)(tl:ts.length<=2)(U:zs.length<=2)(M:bA (aS 0) eY (aT bO (aC (aD 1) (aC (aD 2) (aC (aD 0) (aC (a7 g8 (aD 3) (eC (.int 6))) aY))))) ts [none,some bk,some K,some c]=some F)(pu:kH (.lst F) z s=some (.lst zs))
  (c0:bA (aS 0) eY (a7 aJ (aD 0) (eC (.int 0))) zs [none]=some ps) (Y:bA (aS 0) eY (a7 aJ (aD 0) (eC (.int 1))) zs [none]=some rs) (eo:aW [.tup [.str "use",nm,.tup ps],.tup [.str "use",B,.tup rs,.tup []],G,.lst zs,pd]=some R) :
  dD (dX 8 (d6 [none,some 0,some 1,some 3] (fQ (a7 aJ (aD 7) (eC (.int 1)))) (aS 0) eY (aT bO (aC (aD 1) (aC (aD 2) (aC (aD 0) (aC (a7 g8 (aD 3) (eC (.int 6))) aY)))))))
   (dD (DP 8 (aD 6) (aD 2))
   (dD (dX 9 (eX (aC (eC (.str "use")) (aC (a7 aJ (aD 7) (eC (.int 0))) (aC (aT jW (aC (d6 [none] (fQ (aD 8)) (aS 0) eY (a7 aJ (aD 0) (eC (.int 0)))) aY)) aY)))))
   (dD (dX 10 (eX (aC (eC (.str "use")) (aC (aD 5) (aC (aT jW (aC (d6 [none] (fQ (aD 8)) (aS 0) eY (a7 aJ (aD 0) (eC (.int 1)))) aY)) (aC (eX aY) aY))))))
   (BI (aT aW (aC (aD 9) (aC (aD 10) (aC (a7 aJ (aD 7) (eC (.int 2))) (aC (aD 8) (aC (a7 aJ (aD 7) (eC (.int 4))) aY)))))))))) [some bk,some K,some s,some c,o,some B,some z,some q,none,none,none]=some (.rt R):=by
 have J:bA (aS 0) eY (aT bO (aC (aD 1) (aC (aD 2) (aC (aD 0) (aC (a7 g8 (aD 3) (eC (.int 6))) aY))))) ts (i5 [none,some 0,some 1,some 3] [some bk,some K,some s,some c,o,some B,some z,some q,none,none,none])=some F:=M
 ac_rfl
theorem K9{U:List Str}{C:Bk}(B:OkB C){kn:List (Str×Int)}(hk:kn.length<=100){g:Rg}{k r c:Int}{n:Nat}(G:Gs U C kn g k n)(c0:0<=c)(c1:c<10^60){v a:Nat}{m:Mk}(W:C.makes[v]?=some m)(q:m.takes[a]?=some k)(o:Option D) :
  ∃g' k' N,dD (dX 8 (d6 [none,some 0,some 1,some 3] (fQ (a7 aJ (aD 7) (eC (.int 1)))) (aS 0) eY (aT bO (aC (aD 1) (aC (aD 2) (aC (aD 0) (aC (a7 g8 (aD 3) (eC (.int 6))) aY)))))))
   (dD (DP 8 (aD 6) (aD 2))
   (dD (dX 9 (eX (aC (eC (.str "use")) (aC (a7 aJ (aD 7) (eC (.int 0))) (aC (aT jW (aC (d6 [none] (fQ (aD 8)) (aS 0) eY (a7 aJ (aD 0) (eC (.int 0)))) aY)) aY)))))
   (dD (dX 10 (eX (aC (eC (.str "use")) (aC (aD 5) (aC (aT jW (aC (d6 [none] (fQ (aD 8)) (aS 0) eY (a7 aJ (aD 0) (eC (.int 1)))) aY)) (aC (eX aY) aY))))))
   (BI (aT aW (aC (aD 9) (aC (aD 10) (aC (a7 aJ (aD 7) (eC (.int 2))) (aC (aD 8) (aC (a7 aJ (aD 7) (eC (.int 4))) aY)))))))))) [some (a9 C),some (.lst (kn.map bQ)),some (bD C g k r),some (.int c),o,some (.int (v:Int)),some (.int (a:Int)),some (kD m),none,none,none]=some (.rt (bD C g' k' N))/\Gs U C kn g' k' (n+2):=by
 have M:=zaw W;have al:(10:Int)^60=1000000000000000000000000000000000000000000000000000000000000:=by decide +kernel
 have Y:=B.gb m M;have tb:=B.tb m M;have sz:=G.sz;rcases B.tk m M with⟨t,J⟩|⟨t,u,J⟩
 ·rw[J]at q tb
  have m1:aJ (kD m) (.int 1)=some (.tup [.int t]):=by rw[yC,J];rfl
  have z:=tb t (by simp[-zac,-zab,aA,aB]);obtain⟨g2,e2,w2,s2,l2,n2⟩:=dO B (kn:=kn) (k:=t) (c:=c/6) hk z.1 z.2 (by lia) (by lia)
  match a,q with
  | 0,q=>
   have F:t=k:=by simpa using q
   subst F;obtain⟨N,eo⟩:=RU W (g:=g) (k1:=t) (r1:=r);have pu:kH (.lst [bD C g2 t 0]) (.int 0) (bD C g t r)=some (.lst [bD C g t r]):=lE (by decide) (by simp[-zac,-zab,aA,aB]);exact⟨.use1 v m.nm g [],m.g,N,xD (bk:=a9 C) (K:=.lst (kn.map bQ)) (c:=.int c) m1 DJ IU SE (by simp[-zac,-zab,aA,aB]) (by simp[-zac,-zab,aA,aB]) (by ac_rfl) pu (by ac_rfl) (by ac_rfl) eo,⟨⟨m,t,W,rfl,J,G.wf,rfl⟩,Y.1,Y.2,by simp only[size];lia,G.nf⟩⟩
  | a+1,q=>simp[-zac,-zab,aA,aB]at q
 ·rw[J]at q tb
  have m1:aJ (kD m) (.int 1)=some (.tup [.int t,.int u]):=by rw[yC,J];rfl
  have z:=tb t (by simp[-zac,-zab,aA,aB]);have ac:=tb u (by simp[-zac,-zab,aA,aB]);obtain⟨g2,e2,w2,s2,l2,n2⟩:=dO B (kn:=kn) (k:=t) (c:=c/6) hk z.1 z.2 (by lia) (by lia);obtain⟨g3,e3,w3,s3,l3,n3⟩:=dO B (kn:=kn) (k:=u) (c:=c/6) hk ac.1 ac.2 (by lia) (by lia)
  match a,q with
  | 0,q=>
   have F:t=k:=by simpa using q
   subst F;obtain⟨N,eo⟩:=EB W (g:=g) (k1:=t) (r1:=r) (g':=g3) (k2:=u) (r2:=0);have pu:kH (.lst [bD C g2 t 0,bD C g3 u 0]) (.int 0) (bD C g t r)=some (.lst [bD C g t r,bD C g3 u 0]):=lE (by decide) (by simp[-zac,-zab,aA,aB]);exact⟨.use2 v m.nm g g3 [],m.g,N,xD (bk:=a9 C) (K:=.lst (kn.map bQ)) (c:=.int c) m1 DJ IU SE (by simp[-zac,-zab,aA,aB]) (by simp[-zac,-zab,aA,aB]) (by ac_rfl) pu (by ac_rfl) (by ac_rfl) eo,⟨⟨m,t,u,W,rfl,J,G.wf,w3,rfl⟩,Y.1,Y.2,by simp only[size];lia,⟨G.nf,n3 _ _⟩⟩⟩
  | 1,q=>
   have F:u=k:=by simpa using q
   subst F;obtain⟨N,eo⟩:=EB W (g:=g2) (k1:=t) (r1:=0) (g':=g) (k2:=u) (r2:=r);have pu:kH (.lst [bD C g2 t 0,bD C g3 u 0]) (.int 1) (bD C g u r)=some (.lst [bD C g2 t 0,bD C g u r]):=lE (by decide) (by simp[-zac,-zab,aA,aB]);exact⟨.use2 v m.nm g2 g [],m.g,N,xD (bk:=a9 C) (K:=.lst (kn.map bQ)) (c:=.int c) m1 DJ IU SE (by simp[-zac,-zab,aA,aB]) (by simp[-zac,-zab,aA,aB]) (by ac_rfl) pu (by ac_rfl) (by ac_rfl) eo,⟨⟨m,t,u,W,rfl,J,w2,G.wf,rfl⟩,Y.1,Y.2,by simp only[size];lia,⟨n2 _ _,G.nf⟩⟩⟩
  | a+2,q=>simp[-zac,-zab,aA,aB]at q
theorem Gs.mono{U:List Str}{C:Bk}{kn:List (Str×Int)}{g:Rg}{k:Int}{n n':Nat}(G:Gs U C kn g k n)(h:n<=n'):Gs U C kn g k n':=⟨G.wf,G.k0,G.k1,zaL G.sz h,G.nf⟩
theorem CB{U:List Str}{C:Bk}(B:OkB C){kn:List (Str×Int)}(hk:kn.length<=100){g:Rg}{k r c:Int}{n:Nat}(G:Gs U C kn g k n)(c0:0<=c)(c1:c<10^60):∃g' F M,k7 [a9 C,.lst (kn.map bQ),bD C g k r,.int c]=some (bD C g' F M)/\Gs U C kn g' F (n+2):=by
 suffices h:∃d,k7 [a9 C,.lst (kn.map bQ),bD C g k r,.int c]=some d/\∃g' F M,d=bD C g' F M/\Gs U C kn g' F (n+2) by
  obtain⟨d,h1,g',F,M,rfl,h2⟩:=h;exact⟨g',F,M,h1,h2⟩
 have ml:=B.ml;refine dQ ?_;unfold rM;rw[aF (aM (d:=.lst []) (by simp[-zac,-zab,aA,aB]))];refine iY (items:=aQ 0 1 C.makes.length) (by simp_all[aG,uO,b8 (show C.makes.length<=1000000 by lia)]) (λi ρ=>∃(ps:List (Nat×Nat)) (o5 q:Option D),ρ=[some (a9 C),some (.lst (kn.map bQ)),some (bD C g k r),some (.int c),some (.lst (ps.map DY)),o5,q,none,none,none,none]/\(∀p∈ps,∃m,C.makes[p.1]?=some m/\m.takes[p.2]?=some k)/\ps.length<=2*i) ⟨[],none,none,by simp_all[aG],(λ_ h=>nomatch h),by simp[-zac,-zab,aA,aB]⟩ ?_ ?_
 ·rintro i x ρ hx ⟨ps,o5,q,rfl,N,hl⟩
  obtain⟨J,rfl⟩:=bX hx;have e0:(0:Int)+(i:Int)*1=(i:Int):=by lia
  rw[e0];obtain⟨m,W⟩:∃m,C.makes[i]?=some m:=⟨C.makes[i],zaS J⟩;have af:=zaw W;have tl:m.takes.length<=2:=by rcases B.tk m af with⟨t,et⟩|⟨t,u,et⟩ <;> rw[et] <;> simp[-zac,-zab,aA,aB]
  obtain⟨ρ',e,ac,ak,rfl,aj,ag⟩:=xX (g:=aS 6) (b:=BE (nO (a7 i4 (a7 aJ (a7 aJ (a7 aJ (a7 aJ (aD 0) (eC (.int 3))) (aD 5)) (eC (.int 1))) (aD 6)) (a7 aJ (aD 2) (eC (.int 2))))) (IV 4 (eX (aC (aD 5) (aC (aD 6) aY)))) JH) (items:=aQ 0 1 m.takes.length) (ρ:=[some (a9 C),some (.lst (kn.map bQ)),some (bD C g k r),some (.int c),some (.lst (ps.map DY)),some (.int (i:Int)),q,none,none,none,none]) (λj ρ=>∃(ps:List (Nat×Nat)) (q:Option D),ρ=[some (a9 C),some (.lst (kn.map bQ)),some (bD C g k r),some (.int c),some (.lst (ps.map DY)),some (.int (i:Int)),q,none,none,none,none]/\(∀p∈ps,∃m,C.makes[p.1]?=some m/\m.takes[p.2]?=some k)/\ps.length<=2*i+j) ⟨ps,q,rfl,N,hl⟩ (by
   rintro j x ρ hx ⟨ps,q,rfl,N,hl⟩;obtain⟨J,rfl⟩:=bX hx;have e0:(0:Int)+(j:Int)*1=(j:Int):=by lia
   rw[e0];obtain⟨t,ht⟩:∃t,m.takes[j]?=some t:=⟨m.takes[j],zaS J⟩;have al:fL (m.takes.map D.int) (j:Int)=some (.int t):=bV (by rw[zaB,ht];rfl);have hz:(ps.map DY).length<=1000000:=by rw[zal];lia
   have e3:=kO W;have an:aJ (tupI m.takes) (.int (j:Int))=some (.int t):=al;by_cases h:t=k
   ·refine⟨[some (a9 C),some (.lst (kn.map bQ)),some (bD C g k r),some (.int c),some (.lst ((ps++[(i,j)]).map DY)),some (.int (i:Int)),some (.int (j:Int)),none,none,none,none],?_,ps++[(i,j)],_,rfl,λp ah=>?_,by simp[-zac,-zab,aA,aB];lia⟩
    ·have de:i4 (.int t) (.int k)=some (.bl true):=by simp_all[h]
     rw[show(ps++[(i,j)]).map DY=ps.map DY++[.tup [.int (i:Int),.int (j:Int)]] by simp_all[DY]]
     ac_rfl
    ·rcases List.mem_append.mp ah with z|z
     ·exact N p z
     ·rw[List.mem_singleton.mp z];exact⟨m,W,by rw[<- h];exact ht⟩
   ·refine⟨[some (a9 C),some (.lst (kn.map bQ)),some (bD C g k r),some (.int c),some (.lst (ps.map DY)),some (.int (i:Int)),some (.int (j:Int)),none,none,none,none],?_,ps,_,rfl,N,by lia⟩
    have de:i4 (.int t) (.int k)=some (.bl false):=by simp_all[h]
    ac_rfl)
  rw[bH]at ag;refine⟨_,?_,ac,some (.int (i:Int)),ak,rfl,aj,by lia⟩;show(aS 5 _ _).bind _=_;rw[q_name,aA,q_for];have hf:lR bZ (aC (aT gB (aC (a7 aJ (a7 aJ (a7 aJ (aD 0) (eC (.int 3))) (aD 5)) (eC (.int 1))) aY)) aY) [some (a9 C),some (.lst (kn.map bQ)),some (bD C g k r),some (.int c),some (.lst (ps.map DY)),some (.int (i:Int)),q,none,none,none,none]=some (aQ 0 1 m.takes.length):=by
   simp_all[uO,kO W,yC,tupI,b8 (show m.takes.length<=1000000 by lia)]
  exact(congrArg (λz=>zcG z _) hf).trans e
 ·rintro ρ ⟨ps,o5,q,rfl,N,hl⟩
  rw[bH]at hl;by_cases h0:ps.length=0
  ·exact⟨bD C g k r,tH (by simp_all[h0]),g,k,r,rfl,G.mono (by lia)⟩
  ·have lp:(0:Int)<(ps.length:Int):=by lia
   obtain⟨d,W,_,hd⟩:=tW (l:=ps.map DY) (k:=c%(ps.length:Int)) (zat _ (zaT lp)) (by rw[zal];exact zav _ lp);obtain⟨⟨v,a⟩,ad,rfl⟩:=List.mem_map.mp W;obtain⟨m,Y,ha⟩:=N _ ad;obtain⟨g',F,M,e,G'⟩:=K9 B hk (r:=r) G c0 c1 Y ha (some (.lst (ps.map DY)));rw[aF (ρ':=[some (a9 C),some (.lst (kn.map bQ)),some (bD C g k r),some (.int c),some (.lst (ps.map DY)),o5,q,none,none,none,none]) (by simp_all[h0])];rw[aF (ρ':=[some (a9 C),some (.lst (kn.map bQ)),some (bD C g k r),some (.int c),some (.lst (ps.map DY)),some (.int (v:Int)),some (.int (a:Int)),none,none,none,none]) (by simp_all[bR lp,hd];simp_all[DY])];rw[aF (aM (d:=kD m) (by simp_all[uO,kO Y]))];exact⟨_,e,g',F,M,rfl,G'⟩
theorem kT{bk K s R W J p2 r0 r1 r2 M U x2 B G F:D}{y a k c z:Int}{L:List D}(ha:dS (.int y) (.int 3)=some (.int a))(hs:aJ s (.int 2)=some (.int k))(Y:aJ bk (.int 1)=some (.tup L))(hq:∃q:Int,dS (.int (y/3)) (.int (L.length:Int))=some (.int q)/\((a=0/\c=k/\z=q)\/(¬ a=0/\c=q/\z=k)))(e0:bO [bk,K,.int c,.int (y/5)]=some M)(e1:bO [bk,K,.int z,.int (y/7)]=some U)(e2:bO [bk,K,.int z,.int (y/11)]=some x2)(pu:kH (.lst ([M,U]++[x2])) (.int a) s=some (.lst [B,G,F]))
  (a0:aJ B (.int 0)=some W) (a1:aJ G (.int 0)=some J) (a2:aJ F (.int 0)=some p2) (b0:aJ B (.int 1)=some r0) (b1:aJ G (.int 1)=some r1) (b2:aJ F (.int 1)=some r2) (eo:aW [.tup [.str "pick",.int c,.int z,W,J,p2],.tup [.str "pick",.int c,.int z,r0,r1,r2,.tup []],.int z,.lst [B,G,F],.int 0]=some R):hJ [bk,K,s,.int y]=some R:=by
 refine aL ?_;unfold lV;rw[aF (aM (d:=.int a) (by ac_rfl)),aF (aM (d:=.int k) (by ac_rfl)),aF (aM (d:=.int k) (by ac_rfl))];have ei:BE (nO (a7 i4 (aD 4) (eC (.int 0)))) (dX 6 (a7 dS (a7 g8 (aD 3) (eC (.int 3))) (aT gB (aC (a7 aJ (aD 0) (eC (.int 1))) aY)))) (dX 5 (a7 dS (a7 g8 (aD 3) (eC (.int 3))) (aT gB (aC (a7 aJ (aD 0) (eC (.int 1))) aY)))) [some bk,some K,some s,some (.int y),some (.int a),some (.int k),some (.int k),none,none]=some (.nx [some bk,some K,some s,some (.int y),some (.int a),some (.int c),some (.int z),none,none]):=by
  obtain⟨q,N,⟨h,rfl,rfl⟩|⟨h,rfl,rfl⟩⟩:=hq
  ·simp_all[h,Y,g7,N]
  ·simp_all[h,Y,g7,N]
 refine zcc (aF ei) ?_
 ac_rfl
theorem wD{U:List Str}{C:Bk}(B:OkB C){kn:List (Str×Int)}(hk:kn.length<=100){g:Rg}{k r y:Int}{n:Nat}(G:Gs U C kn g k n)(y0:0<=y)(y1:y<10^60):∃g' k' M,hJ [a9 C,.lst (kn.map bQ),bD C g k r,.int y]=some (bD C g' k' M)/\Gs U C kn g' k' (n+3):=by
 have as:(10:Int)^60=1000000000000000000000000000000000000000000000000000000000000:=by decide +kernel
 have mp:(0:Int)<(C.kinds.length:Int):=by have:=B.k1;lia
 have F:=zat (y/3) (zaT mp);have J:=zav (y/3) mp;have sz:=G.sz;have dm:∀ {a:Int},y%3=a->dS (.int y) (.int 3)=some (.int a):=λ{a} h=>by rw[bR (by decide),h]
 have dq:dS (.int (y/3)) (.int ((C.kinds.map D.str).length:Int))=some (.int (y/3%(C.kinds.length:Int))):=by rw[zal];exact bR mp
 have N:∀(k:Int),0<=k->k<(C.kinds.length:Int)->∀c:Int,0<=c->c<10^60->_:=λk h0 h1 c c0 c1=>dO B (kn:=kn) (k:=k) (c:=c) hk h0 h1 c0 c1
 generalize y/3%(C.kinds.length:Int)=q at F J dq;by_cases h:y%3=0
 ·obtain⟨z,e0,w0,s0,l0,o0⟩:=N k G.k0 G.k1 (y/5) (by lia) (by lia)
  obtain⟨g1,e1,w1,s1,l1,o1⟩:=N q F J (y/7) (by lia) (by lia);obtain⟨g2,e2,w2,s2,l2,o2⟩:=N q F J (y/11) (by lia) (by lia);obtain⟨M,W⟩:=xO (C:=C) (c:=k) (j:=q) (k:=q) (g:=g) (k1:=k) (r1:=r) (g':=g1) (k2:=q) (r2:=0) (g2:=g2) (k3:=q) (r3:=0);have Y:kH (.lst [bD C z k 0,bD C g1 q 0,bD C g2 q 0]) (.int 0) (bD C g k r)=some (.lst [bD C g k r,bD C g1 q 0,bD C g2 q 0]):=lE (by decide) (by simp[-zac,-zab,aA,aB]);exact⟨.pick k q g g1 g2 [],q,M,kT (dm h) BA BD ⟨q,dq,.inl ⟨rfl,rfl,rfl⟩⟩ e0 e1 e2 Y uD uD uD uC uC uC W,⟨⟨⟨G.k0,G.k1⟩,⟨F,J⟩,G.wf,w1,w2,rfl⟩,F,J,by simp only[size];lia,⟨G.nf,o1 _ _,o2 _ _⟩⟩⟩
 ·obtain⟨z,e0,w0,s0,l0,o0⟩:=N q F J (y/5) (by lia) (by lia)
  obtain⟨g1,e1,w1,s1,l1,o1⟩:=N k G.k0 G.k1 (y/7) (by lia) (by lia);obtain⟨g2,e2,w2,s2,l2,o2⟩:=N k G.k0 G.k1 (y/11) (by lia) (by lia);rcases(by lia:y%3=1\/y%3=2)with h|h
  ·obtain⟨M,W⟩:=xO (C:=C) (c:=q) (j:=k) (k:=k) (g:=z) (k1:=q) (r1:=0) (g':=g) (k2:=k) (r2:=r) (g2:=g2) (k3:=k) (r3:=0)
   have Y:kH (.lst [bD C z q 0,bD C g1 k 0,bD C g2 k 0]) (.int 1) (bD C g k r)=some (.lst [bD C z q 0,bD C g k r,bD C g2 k 0]):=lE (by decide) (by simp[-zac,-zab,aA,aB]);exact⟨.pick q k z g g2 [],k,M,kT (dm h) BA BD ⟨q,dq,.inr ⟨by decide,rfl,rfl⟩⟩ e0 e1 e2 Y uD uD uD uC uC uC W,⟨⟨⟨F,J⟩,⟨G.k0,G.k1⟩,w0,G.wf,w2,rfl⟩,G.k0,G.k1,by simp only[size];lia,⟨o0 _ _,G.nf,o2 _ _⟩⟩⟩
  ·obtain⟨M,W⟩:=xO (C:=C) (c:=q) (j:=k) (k:=k) (g:=z) (k1:=q) (r1:=0) (g':=g1) (k2:=k) (r2:=0) (g2:=g) (k3:=k) (r3:=r)
   have Y:kH (.lst [bD C z q 0,bD C g1 k 0,bD C g2 k 0]) (.int 2) (bD C g k r)=some (.lst [bD C z q 0,bD C g1 k 0,bD C g k r]):=lE (by decide) (by simp[-zac,-zab,aA,aB]);exact⟨.pick q k z g1 g [],k,M,kT (dm h) BA BD ⟨q,dq,.inr ⟨by decide,rfl,rfl⟩⟩ e0 e1 e2 Y uD uD uD uC uC uC W,⟨⟨⟨F,J⟩,⟨G.k0,G.k1⟩,w0,w1,G.wf,rfl⟩,G.k0,G.k1,by simp only[size];lia,⟨o0 _ _,o1 _ _,G.nf⟩⟩⟩
theorem FY{kn:List (Str×Int)}{x:Str}{k:Int}(z:kn.length<=99):dR (.lst (kn.map bQ)) (.lst [.tup [.str x,.int k]])=some (.lst ((kn++[(x,k)]).map bQ)):=by
 have q:aZ (kn.length+1)=true:=decide_eq_true (by lia);simp_all[q,bQ]
theorem vN{kn:List (Str×Int)}{x:Str×Int}:∀p∈kn++[x],p∈x::kn:=λp q=>by
 rcases List.mem_append.mp q with z|z
 ·exact zaq _ z
 ·rw[List.mem_singleton.mp z];exact zas ..
theorem wJ{U:List Str}{C:Bk}(B:OkB C){kn:List (Str×Int)}(M:kn.length<=99){g:Rg}{k r y:Int}{x:Str}{n:Nat}(hx:x∉kn.map (·.1))(N:x∈U)(G:Gs U C kn g k n)(y0:0<=y)(y1:y<10^60):∃g' z q,l9 [a9 C,.lst (kn.map bQ),bD C g k r,.str x,.int y]=some (bD C g' z q)/\Gs U C kn g' z (n+2):=by
 have aa:(10:Int)^60=1000000000000000000000000000000000000000000000000000000000000:=by decide +kernel
 have a0:=zat y (show(4:Int)≠0 by decide);have W:=zav y (show(0:Int)<4 by decide);have sz:=G.sz;obtain⟨F,Y,w0,s0,l0,J⟩:=dO B (kn:=kn++[(x,k)]) (k:=k) (c:=y/4) (by simp[-zac,-zab,aA,aB];lia) G.k0 G.k1 (by lia) (by lia);obtain⟨q,eo⟩:=AO (C:=C) (x:=x) (n:=y%4) (j:=k) (k:=k) (g:=g) (k1:=k) (r1:=r) (g':=F) (k2:=k) (r2:=0);refine⟨.again (y%4) k x g F [],k,q,aL ?_,⟨⟨⟨a0,W⟩,⟨G.k0,G.k1⟩,G.wf,w0.mono vN,rfl⟩,G.k0,G.k1,by simp only[size];lia,⟨G.nf,⟨hx,N⟩,J _ _⟩⟩⟩;have ks:=FY (x:=x) (k:=k) M;generalize D.lst ((kn++[(x,k)]).map bQ)=K at ks Y;generalize D.lst (kn.map bQ)=K0 at ks;unfold lZ
 ac_rfl
theorem yU{U:List Str}{C:Bk}(B:OkB C){kn:List (Str×Int)}(Y:kn.length<=99){g:Rg}{k r y:Int}{x:Str}{n:Nat}(hx:x∉kn.map (·.1))(hU:x∈U)(G:Gs U C kn g k n)(y0:0<=y)(y1:y<10^60):∃g' M z,pF [a9 C,.lst (kn.map bQ),bD C g k r,.str x,.int y]=some (bD C g' M z)/\Gs U C kn g' M (n+2):=by
 have ac:(10:Int)^60=1000000000000000000000000000000000000000000000000000000000000:=by decide +kernel
 have q:(0:Int)<(C.kinds.length:Int):=by have:=B.k1;lia
 have F:=zat y (zaT q);have J:=zav y q;have sz:=G.sz;obtain⟨N,e0,w0,s0,l0,W⟩:=dO B (kn:=kn++[(x,k)]) (k:=y%(C.kinds.length:Int)) (c:=y/4) (by simp[-zac,-zab,aA,aB];lia) F J (by lia) (by lia);obtain⟨z,eo⟩:=MA (C:=C) (x:=x) (j:=k) (k:=y%(C.kinds.length:Int)) (g:=g) (k1:=k) (r1:=r) (g':=N) (k2:=y%(C.kinds.length:Int)) (r2:=0);have dk:dS (.int y) (.int ((C.kinds.map D.str).length:Int))=some (.int (y%(C.kinds.length:Int))):=by rw[zal];exact bR q
 refine⟨.lett x k g N,y%(C.kinds.length:Int),z,aL ?_,⟨⟨G.wf,w0.mono vN⟩,F,J,by simp only[size];lia,⟨G.nf,⟨hx,hU⟩,W _ _⟩⟩⟩;have ks:=FY (x:=x) (k:=k) Y;generalize D.lst ((kn++[(x,k)]).map bQ)=K at ks e0;generalize D.lst (kn.map bQ)=K0 at ks;unfold oY
 ac_rfl
theorem wI{U:List Str}{C:Bk}(B:OkB C){kn:List (Str×Int)}(hk:kn.length<=99){g:Rg}{j k r y:Int}{x:Str}{n:Nat}(hx:x∉kn.map (·.1))(hU:x∈U)(G:Gs U C ((x,j)::kn) g k n)(W:0<=j)(N:j<(C.kinds.length:Int))(y0:0<=y)(y1:y<10^60):∃g' J q,hG [a9 C,.lst (kn.map bQ),bD C g k r,bQ (x,j),.int y]=some (bD C g' J q)/\Gs U C kn g' J (n+2):=by
 suffices h:∃d,hG [a9 C,.lst (kn.map bQ),bD C g k r,bQ (x,j),.int y]=some d/\∃g' J q,d=bD C g' J q/\Gs U C kn g' J (n+2) by
  obtain⟨d,h1,g',J,q,rfl,h2⟩:=h;exact⟨g',J,q,h1,h2⟩
 have ai:(10:Int)^60=1000000000000000000000000000000000000000000000000000000000000:=by decide +kernel
 have sz:=G.sz;obtain⟨F,e0,w0,s0,l0,Y⟩:=dO B (kn:=kn) (k:=j) (c:=y/8) (by lia) W N (by lia) (by lia);refine dQ ?_;unfold mE;rw[aF (ρ':=[some (a9 C),some (.lst (kn.map bQ)),some (bD C g k r),some (bQ (x,j)),some (.int y),some (.str x),some (.int j),none,none,none,none,none]) (by simp_all[aG];simp_all[bQ])];rw[aF (aM (d:=bD C F j 0) (by simp_all[g7,e0]))];rw[aF (aM (d:=.lst [bD C F j 0,bD C g k r]) (by simp[-zac,-zab,aA,aB]))];have hl:∃d,dD (dX 9 (eX (aC (eC (.str "let")) (aC (aD 5) (aC (aD 6) (aC (a7 aJ (aD 7) (eC (.int 1))) (aC (a7 aJ (aD 2) (eC (.int 1))) aY)))))))
   (BI (aT aW (aC (eX (aC (eC (.str "let")) (aC (aD 5) (aC (a7 aJ (aD 7) (eC (.int 0))) (aC (a7 aJ (aD 2) (eC (.int 0))) aY))))) (aC (aD 9) (aC (a7 aJ (aD 2) (eC (.int 2))) (aC (aD 8) (aC (eC (.int 0)) aY))))))) [some (a9 C),some (.lst (kn.map bQ)),some (bD C g k r),some (bQ (x,j)),some (.int y),some (.str x),some (.int j),some (bD C F j 0),some (.lst [bD C F j 0,bD C g k r]),none,none,none]=some (.rt d)/\∃g' J q,d=bD C g' J q/\Gs U C kn g' J (n+2):=by
  obtain⟨q,eo⟩:=MA (C:=C) (x:=x) (j:=j) (k:=k) (g:=F) (k1:=j) (r1:=0) (g':=g) (k2:=k) (r2:=r);refine⟨bD C (.lett x j F g) k q,?_,.lett x j F g,k,q,rfl,⟨⟨w0,G.wf⟩,G.k0,G.k1,by simp only[size];lia,⟨Y _ _,⟨hx,hU⟩,G.nf⟩⟩⟩
  ac_rfl
 have done:∀b:Bool,TZ (nO (a7 i4 (a7 dS (aD 4) (eC (.int 2))) (eC (.int 0)))) (TZ (nO (a7 uR (aD 6) (a7 aJ (aD 2) (eC (.int 2))))) (nO (a7 uE (a7 aJ (aD 2) (eC (.int 5))) (eC (.int 1))))) [some (a9 C),some (.lst (kn.map bQ)),some (bD C g k r),some (bQ (x,j)),some (.int y),some (.str x),some (.int j),some (bD C F j 0),some (.lst [bD C F j 0,bD C g k r]),none,none,none]=some b->(b=false->j=k)->∃d,dD (BE (TZ (nO (a7 i4 (a7 dS (aD 4) (eC (.int 2))) (eC (.int 0)))) (TZ (nO (a7 uR (aD 6) (a7 aJ (aD 2) (eC (.int 2))))) (nO (a7 uE (a7 aJ (aD 2) (eC (.int 5))) (eC (.int 1)))))) (dD (dX 9 (eX (aC (eC (.str "let")) (aC (aD 5) (aC (aD 6) (aC (a7 aJ (aD 7) (eC (.int 1))) (aC (a7 aJ (aD 2) (eC (.int 1))) aY)))))))
   (BI (aT aW (aC (eX (aC (eC (.str "let")) (aC (aD 5) (aC (a7 aJ (aD 7) (eC (.int 0))) (aC (a7 aJ (aD 2) (eC (.int 0))) aY))))) (aC (aD 9) (aC (a7 aJ (aD 2) (eC (.int 2))) (aC (aD 8) (aC (eC (.int 0)) aY)))))))) JH)
   (dD (dX 10 (a7 dS (a7 g8 (aD 4) (eC (.int 2))) (eC (.int 4))))
   (dD (dX 11 (eX (aC (eC (.str "again")) (aC (aD 10) (aC (aD 6) (aC (aD 5) (aC (a7 aJ (aD 7) (eC (.int 0))) (aC (a7 aJ (aD 2) (eC (.int 0))) aY))))))))
   (BI (aT aW (aC (aD 11) (aC (eX (aC (eC (.str "again")) (aC (aD 10) (aC (aD 6) (aC (aD 5) (aC (a7 aJ (aD 7) (eC (.int 1))) (aC (a7 aJ (aD 2) (eC (.int 1))) (aC (eX aY) aY)))))))) (aC (aD 6) (aC (aD 8) (aC (eC (.int 0)) aY))))))))) [some (a9 C),some (.lst (kn.map bQ)),some (bD C g k r),some (bQ (x,j)),some (.int y),some (.str x),some (.int j),some (bD C F j 0),some (.lst [bD C F j 0,bD C g k r]),none,none,none]=some (.rt d)/\∃g' J q,d=bD C g' J q/\Gs U C kn g' J (n+2):=by
  intro b hb hj;refine EV b hb (λ_=>hl) λhf=>?_
  have M:=hj hf;subst M;have a0:=zat (y/2) (show(4:Int)≠0 by decide);have a1:=zav (y/2) (show(0:Int)<4 by decide);obtain⟨q,eo⟩:=AO (C:=C) (x:=x) (n:=y/2%4) (j:=j) (k:=j) (g:=F) (k1:=j) (r1:=0) (g':=g) (k2:=j) (r2:=r);refine⟨bD C (.again (y/2%4) j x F g []) j q,?_,.again (y/2%4) j x F g [],j,q,rfl,⟨⟨⟨a0,a1⟩,⟨W,N⟩,w0,G.wf,rfl⟩,W,N,by simp only[size];lia,⟨Y _ _,⟨hx,hU⟩,G.nf⟩⟩⟩
  ac_rfl
 by_cases h1:y%2=0
 ·exact done true (by simp_all[bR,h1]) (λz=>nomatch z)
 ·by_cases h2:j=k
  ·exact done (decide (1<r)) (by simp_all[bR,h1,BA,h2,qaq]) λ_=>h2
  ·exact done true (by simp_all[bR,h1,BA,h2]) (λz=>nomatch z)
theorem OT{p q:Str×Int}(h:bQ p=bQ q):p=q:=by
 unfold bQ at h;injection h with h
 injection h with h1 h2
 injection h2 with h2 _
 injection h1 with h1
 injection h2 with h2
 exact Prod.ext h1 h2
theorem S6{p q:Str×Int}:uR (bQ p) (bQ q)=some (.bl (decide (p≠q))):=by
 have o:∀p:Str×Int,kI (bQ p)=true:=λp=>(eqN.tup (n:=0) (l:=[.str p.1,.int p.2]) (by
  intro d hd;rcases List.mem_cons.mp hd with z|z
  ·rw[z];exact eqN.str
  ·rw[List.mem_singleton.mp z];exact eqN.int)).ok (by decide)
 unfold uR GO;rw[if_pos (.inr ⟨rfl,rfl,o p,o q⟩)];by_cases h:p=q
 ·subst h;simp[-zac,-zab,aA,aB]
 ·have h2:¬ bQ p=bQ q:=λz=>h (OT z)
  simp_all[h,h2]
theorem vP{q:Str×Int}{left:List (Str×Int)}:∀(kn:List (Str×Int)) (o:Option D),bA (aS 0) (nO (a7 uR (aD 0) (a7 aJ (aD 1) (eC (.int 0))))) (aD 0) (kn.map bQ) [o,some (.lst ((q::left).map bQ))]=some ((kn.filter λp=>decide (p≠q)).map bQ)
 | [],o=>rfl
 | p::kn,o=>by
  have ih:=vP (q:=q) (left:=left) kn (some (bQ p));by_cases h:p=q
  ·simp[-zac,-zab,aA,aB,bA,at0,S6,h]at ih ⊢;simp_all[ih]
  ·simp[-zac,-zab,aA,aB,bA,at0,S6,h]at ih ⊢;simp_all[ih]
theorem CF{B:Type}[DecidableEq B]{q:B}{P L:List B}(J:q∉P)(G:q∉L):(P++q::L).filter (λp=>decide (p≠q))=P++L:=by
 have f:∀ {l:List B},q∉l->l.filter (λp=>decide (p≠q))=l:=λ{l} h=>List.filter_eq_self.mpr λa F=>decide_eq_true λz=>h (z ▸ F)
 rw[List.filter_append,zcC,if_neg (by simp[-zac,-zab,aA,aB]),f J,f G]
structure Sc(nms:List Str)(kn:List (Str×Int)):Prop where
 nd:(kn.map (·.1)).Nodup
 sub:∀p∈kn,p.1∈nms.take 5
theorem Sc.out{nms:List Str}(F:nms.Nodup){kn:List (Str×Int)}(S:Sc nms kn){i:Nat}(hi:5<=i){x:Str}(hx:nms[i]?=some x):x∉kn.map (·.1):=λz=>by
 obtain⟨p,J,e⟩:=List.mem_map.mp z;have h1:=S.sub p J;rw[e]at h1;obtain⟨j,q⟩:=List.mem_iff_getElem?.mp h1;have M:=(List.getElem?_eq_some_iff.mp q).1;rw[zb8]at M;rw[List.getElem?_take_of_lt (by lia)]at q;obtain⟨U,B⟩:=List.getElem?_eq_some_iff.mp q;obtain⟨N,G⟩:=List.getElem?_eq_some_iff.mp hx;have:=(zdU F).mp (B.trans G.symm)
 lia
def Now(C:Bk)(nms:List Str)(P:List (Str×Int))(m:Nat)(q:D):Prop:=∃g k r left,q=.tup [bD C g k r,.lst (left.map bQ),.lst ((P++left).map bQ)]/\Gs nms C (P++left) g k (15-2*m)/\OkN C (P++left)/\left.length=m/\m<=2/\P.length<=3/\Sc nms (P++left)
theorem qT{C:Bk}(B:OkB C){nms:List Str}(h8:nms.length=8)(af:nms.Nodup){P:List (Str×Int)}{m:Nat}{ab:D}{y:Int}(y0:0<=y)(y1:y<10^60)(N:Now C nms P m ab):∃Y U,iL [a9 C,.lst (nms.map .str),ab,.int y]=some Y/\Now C nms P U Y/\U<=m/\(4<y%7->0<m->U<m):=by
 suffices h:∃d,iL [a9 C,.lst (nms.map .str),ab,.int y]=some d/\∃U,Now C nms P U d/\U<=m/\(4<y%7->0<m->U<m) by
  obtain⟨d,h1,U,h2⟩:=h;exact⟨d,U,h1,h2⟩
 have be:(10:Int)^60=1000000000000000000000000000000000000000000000000000000000000:=by decide +kernel
 obtain⟨g,k,r,left,rfl,G,K,M,am,ah,S⟩:=N;have ac:(P++left).length<=10:=by rw[zbc];lia
 have zk:aZ (P++left).length=true:=decide_eq_true (by lia);refine dQ ?_;unfold rO;rw[aF (ρ':=[some (a9 C),some (.lst (nms.map .str)),some (.tup [bD C g k r,.lst (left.map bQ),.lst ((P++left).map bQ)]),some (.int y),some (bD C g k r),some (.lst (left.map bQ)),some (.lst ((P++left).map bQ)),none,none]) (by ac_rfl)];refine EV (decide (4<y%7) && decide (0<left.length)) ?_ ?_ ?_
 ·by_cases h1:4<y%7 <;> simp_all[bR,h1]
 ·intro W
  rw[zaQ]at W;have h1:4<y%7:=of_decide_eq_true W.1;have h2:0<left.length:=of_decide_eq_true W.2
  match left,h2,M,K,S,G,zk,ac with
  | (x,j)::left,h2,M,K,S,G,zk,ac=>
   have es:=vP (q:=(x,j)) (left:=left) (P++(x,j)::left) none;have nd:=S.nd;rw[zaP,zak,zel]at nd;have ag:=List.nodup_cons.mp nd.2.1;have x1:x∉P.map (·.1):=λz=>nd.2.2 _ z _ (zas ..) rfl
   have x2:x∉left.map (·.1):=ag.1;have q1:(x,j)∉P:=λz=>x1 (List.mem_map.mpr ⟨_,z,rfl⟩)
   have q2:(x,j)∉left:=λz=>x2 (List.mem_map.mpr ⟨_,z,rfl⟩)
   rw[CF q1 q2]at es;have lj:=K (x,j) (by simp[-zac,-zab,aA,aB]);have hx:x∉(P++left).map (·.1):=by
    rw[zaP];intro z;rcases List.mem_append.mp z with z|z
    ·exact x1 z
    ·exact x2 z
   have ar:∀p∈P++(x,j)::left,p∈(x,j)::(P++left):=λp hp=>by
    rcases List.mem_append.mp hp with z|z
    ·exact zaq _ (zbs _ z)
    ·rcases List.mem_cons.mp z with z|z
     ·rw[z];exact zas ..
     ·exact zaq _ (zaV _ z)
   have ai:∀y∈((x,j)::(P++left)).map (·.1),y∈(P++(x,j)::left).map (·.1):=λy hy=>by
    simp only[zak,zaP,zaW,List.mem_append]at hy ⊢;rcases hy with z|z|z
    ·exact .inr (.inl z)
    ·exact .inl z
    ·exact .inr (.inr z)
   rw[zbc,zaz]at ac;obtain⟨g',k',r',ec,G'⟩:=wI B (kn:=P++left) (by rw[zbc];lia) (g:=g) (j:=j) (k:=k) (r:=r) (y:=y/7) (x:=x) (n:=15-2*m) hx (List.mem_of_mem_take (S.sub (x,j) (by simp[-zac,-zab,aA,aB]))) ⟨G.wf.mono ar,G.k0,G.k1,G.sz,G.nf.anti ai⟩ lj.1 lj.2 (by lia) (by lia);have ms:∀p∈P++left,p∈P++(x,j)::left:=λp hp=>by
    rcases List.mem_append.mp hp with z|z
    ·exact zbs _ z
    ·exact zaV _ (zaq _ z)
   rw[aF (aM (d:=.lst ((P++left).map bQ)) (by
    generalize (P++(x,j)::left)=kn at es zk;simp_all[zk,i5];simp[-zac,-zab,aA,aB]at es;simp_all[es]))]
   have a4:left.length+1=m:=M;have cc:cutD (((x,j)::left).map bQ) (some 1) none=left.map bQ:=by
    rw[zak];unfold _root_.P.cutD;have s1:HT.sIx (bQ (x,j)::left.map bQ).length 0 (some 1)=1:=by
     unfold HT.sIx;simp[-zac,-zab,aA,aB]
    have s2:HT.sIx (bQ (x,j)::left.map bQ).length (bQ (x,j)::left.map bQ).length none=left.length+1:=by
     unfold HT.sIx;simp[-zac,-zab,aA,aB]
    rw[s1,s2];show(left.map bQ).take (left.length+1-1)=_;rw[Nat.add_sub_cancel,zbZ (by simp[-zac,-zab,aA,aB])]
   refine⟨.tup [bD C g' k' r',.lst (left.map bQ),.lst ((P++left).map bQ)],?_,left.length,⟨g',k',r',left,rfl,G'.mono (by lia),λp hp=>K p (ms p hp),rfl,by lia,ah,⟨by rw[zaP,zel];exact⟨nd.1,ag.2,λa ha b W=>nd.2.2 a ha b (zaq _ W)⟩,λp hp=>S.sub p (ms p hp)⟩⟩,by lia,λ_ _=>by lia⟩;rw[zak]at cc;have cs:pR (.lst (bQ (x,j)::left.map bQ)) (some 1) none=some (.lst (left.map bQ)):=by
    show some (D.lst _)=_;rw[cc]
   rw[zak]
   ac_rfl
 ·intro W
  obtain⟨g1,k1,ew,G1,sg,lg⟩:=l7 B K (r:=r) (c:=y/50) G (by lia);rw[aF (aM (d:=bD C g1 k1 r) (by ac_rfl))];rw[aF (aM (d:=.int 2) (by simp[-zac,-zab,aA,aB]))];refine fR (λρ=>∃F:Int,ρ=[some (a9 C),some (.lst (nms.map .str)),some (.tup [bD C g k r,.lst (left.map bQ),.lst ((P++left).map bQ)]),some (.int y),some (bD C g1 k1 r),some (.lst (left.map bQ)),some (.lst ((P++left).map bQ)),none,some (.int F)]) ?_ ?_
  ·by_cases h:(4:Int)<(C.kinds.length:Int)
   ·have dg:uE (.int ((C.kinds.map D.str).length:Int)) (.int 4)=some (.bl true):=by simp_all[h]
    exact⟨_,by ac_rfl,1,rfl⟩
   ·have dg:uE (.int ((C.kinds.map D.str).length:Int)) (.int 4)=some (.bl false):=by simp_all[h]
    exact⟨_,by ac_rfl,2,rfl⟩
  ·rintro ρ ⟨F,rfl⟩
   have n5:∃s:Str,fL (nms.map D.str) 5=some (.str s)/\s∉(P++left).map (·.1)/\s∈nms:=by
    obtain⟨s,hs⟩:∃s,nms[5]?=some s:=⟨nms[5],zaS (by lia)⟩;exact⟨s,bV (j:=5) (by rw[zaB,hs];rfl),S.out af (i:=5) (by decide) hs,zaw hs⟩
   have n6:∃s:Str,fL (nms.map D.str) 6=some (.str s)/\s∉(P++left).map (·.1)/\s∈nms:=by
    obtain⟨s,hs⟩:∃s,nms[6]?=some s:=⟨nms[6],zaS (by lia)⟩;exact⟨s,bV (j:=6) (by rw[zaB,hs];rfl),S.out af (i:=6) (by decide) hs,zaw hs⟩
   obtain⟨x5,n5,aq,as⟩:=n5;obtain⟨x6,n6,al,ao⟩:=n6;have dl:gB [.lst (left.map bQ)]=some (.int (left.length:Int)):=by simp[-zac,-zab,aA,aB]
   have nh:¬ (4<y%7/\0<left.length):=λ⟨a,b⟩=>by rw[decide_eq_true a,decide_eq_true b]at W;cases W
   refine fR (λρ=>∃g2 k2 r2,ρ=[some (a9 C),some (.lst (nms.map .str)),some (.tup [bD C g k r,.lst (left.map bQ),.lst ((P++left).map bQ)]),some (.int y),some (bD C g2 k2 r2),some (.lst (left.map bQ)),some (.lst ((P++left).map bQ)),none,some (.int F)]/\Gs nms C (P++left) g2 k2 (15-2*m)) ?_ ?_
   ·by_cases h9:size g1<9
    ·have G8:Gs nms C (P++left) g1 k1 8:=⟨G1.wf,G1.k0,G1.k1,by lia,G1.nf⟩
     have ap:(size g1:Int)<9:=by lia
     by_cases h3:y%7<3
     ·obtain⟨g2,k2,r2,e2,J⟩:=CB B (by lia) (r:=r) (c:=y/7) G8 (by lia) (by lia)
      exact⟨_,by ac_rfl,g2,k2,r2,rfl,J.mono (by lia)⟩
     ·by_cases h4:y%7=3
      ·obtain⟨g2,k2,r2,e2,J⟩:=wD B (by lia) (r:=r) (y:=y/7) G8 (by lia) (by lia)
       exact⟨_,by ac_rfl,g2,k2,r2,rfl,J.mono (by lia)⟩
      ·by_cases h5:y%7=4
       ·obtain⟨g2,k2,r2,e2,J⟩:=wJ B (by lia) (r:=r) (y:=y/7) (x:=x5) aq as G8 (by lia) (by lia)
        exact⟨_,by ac_rfl,g2,k2,r2,rfl,J.mono (by lia)⟩
       ·by_cases h6:lets g1+(left.length:Int)<F
        ·obtain⟨g2,k2,r2,e2,J⟩:=yU B (by lia) (r:=r) (y:=y/7) (x:=x6) al ao G8 (by lia) (by lia)
         exact⟨_,by ac_rfl,g2,k2,r2,rfl,J.mono (by lia)⟩
        ·exact⟨_,by ac_rfl,g1,k1,r,rfl,G1⟩
    ·have ap:¬ (size g1:Int)<9:=by lia
     exact⟨_,by ac_rfl,g1,k1,r,rfl,G1⟩
   ·rintro ρ ⟨g2,k2,r2,rfl,J⟩
    exact⟨_,by simp[-zac,-zab,aA,aB],m,⟨g2,k2,r2,left,rfl,J,K,M,am,ah,S⟩,zai _,λa b=>absurd ⟨a,by lia⟩ nh⟩
theorem OkN.snoc{C:Bk}{kn:List (Str×Int)}{p:Str×Int}(h:OkN C kn)(a:0<=p.2/\p.2<(C.kinds.length:Int)):OkN C (kn++[p]):=λq B=>by
 rcases List.mem_append.mp B with z|z
 ·exact h q z
 ·rw[List.mem_singleton.mp z];exact a
theorem OkN.app{C:Bk}{kn B:List (Str×Int)}(h:OkN C kn)(h':OkN C B):OkN C (kn++B):=λq F=>by
 rcases List.mem_append.mp F with z|z
 ·exact h q z
 ·exact h' q z
theorem TB{nms:List Str}{i:Int}(z:0<=i)(h:i<(nms.length:Int)):∃s:Str,fL (nms.map D.str) i=some (.str s)/\nms[i.toNat]?=some s:=by
 obtain⟨j,rfl⟩:∃j:Nat,i=(j:Int):=⟨i.toNat,by lia⟩;have q:j<nms.length:=by lia
 exact⟨nms[j],bV (by rw[zaB,zaS q];rfl),by rw[zbz];exact zaS q⟩
theorem yQ{ns:List Int}{C:Bk}(B:OkB C){nms:List Str}(U:nms.length=8):∃ps,jH [.lst (ns.map .int),a9 C,.lst (nms.map .str)]=some (.lst (ps.map bQ))/\OkN C ps/\ps.length<=3/\ps.map (·.1)=nms.take ps.length:=by
 suffices h:∃d,jH [.lst (ns.map .int),a9 C,.lst (nms.map .str)]=some d/\∃ps,d=.lst (ps.map bQ)/\OkN C ps/\ps.length<=3/\ps.map (·.1)=nms.take ps.length by
  obtain⟨d,h1,ps,rfl,h2⟩:=h;exact⟨ps,h1,h2⟩
 obtain⟨f,M⟩:=dN ns;have N:=(M 17 (by decide) (by decide)).1;have G:(0:Int)<(C.kinds.length:Int):=by have:=B.k1;lia
 have a0:=zat (f 17) (show(4:Int)≠0 by decide);have a1:=zav (f 17) (show(0:Int)<4 by decide);refine dQ ?_;unfold oO;rw[aF (aM (d:=.lst []) (by simp[-zac,-zab,aA,aB]))];refine iY (items:=aQ 0 1 (f 17%4).toNat) (by have r:=eB a0 (show f 17%4<=1000000 by lia);ac_rfl) (λi ρ=>∃(ps:List (Str×Int)) (o:Option D),ρ=[some (.lst (ns.map .int)),some (a9 C),some (.lst (nms.map .str)),some (.lst (ps.map bQ)),o]/\OkN C ps/\ps.length=i/\ps.map (·.1)=nms.take i) ⟨[],none,by ac_rfl,(λ_ h=>nomatch h),rfl,by simp[-zac,-zab,aA,aB]⟩ ?_ ?_
 ·rintro i x ρ hx ⟨ps,o,rfl,K,F,q⟩
  obtain⟨W,rfl⟩:=bX hx;have J:0<=(0:Int)+(i:Int)*1/\(0:Int)+(i:Int)*1<=3:=by lia
  have z:((0:Int)+(i:Int)*1).toNat=i:=by lia
  generalize (0:Int)+(i:Int)*1=I at J z;have Y:=(M (18+I) (by lia) (by lia)).1;obtain⟨s,es,hs⟩:=TB (nms:=nms) (i:=I) J.1 (by rw[U];lia);rw[z]at hs;have hz:(ps.map bQ).length<=1000000:=by rw[zal];lia
  have md:dS (.int (f (18+I))) (.int ((C.kinds.map D.str).length:Int))=some (.int (f (18+I)%(C.kinds.length:Int))):=by rw[zal];exact bR G
  apply wO
  ·exact GI rfl (by ac_rfl)
  refine⟨ps++[(s,f (18+I)%(C.kinds.length:Int))],_,by rw[zaP];rfl,K.snoc ⟨zat _ (zaT G),zav _ G⟩,by simp_all[F],by rw[zaP,q,zcZ,hs];rfl⟩
 ·rintro ρ ⟨ps,o,rfl,K,F,q⟩
  rw[bH]at F q;exact⟨_,by simp[-zac,-zab,aA,aB],ps,rfl,K,by lia,by rw[q,F]⟩
theorem yS{ns:List Int}{C:Bk}(B:OkB C){nms:List Str}(h8:nms.length=8){ps:List (Str×Int)}(aa:nms.Nodup)(P:OkN C ps)(N:ps.length<=3)(ac:ps.map (·.1)=nms.take ps.length):∃M m,jK [.lst (ns.map .int),a9 C,.lst (nms.map .str),.lst (ps.map bQ)]=some M/\Now C nms ps m M:=by
 suffices h:∃d,jK [.lst (ns.map .int),a9 C,.lst (nms.map .str),.lst (ps.map bQ)]=some d/\∃m,Now C nms ps m d by
  obtain⟨d,h1,m,h2⟩:=h;exact⟨d,m,h1,h2⟩
 obtain⟨f,Y⟩:=dN ns;have ae:=(Y 17 (by decide) (by decide)).1;have W:=Y 24 (by decide) (by decide);have U:(0:Int)<(C.kinds.length:Int):=by have:=B.k1;lia
 have an:(10:Int)^60=1000000000000000000000000000000000000000000000000000000000000:=by decide +kernel
 have J:∀y:Int,0<=y%(C.kinds.length:Int)/\y%(C.kinds.length:Int)<(C.kinds.length:Int):=λy=>⟨zat _ (zaT U),zav _ U⟩
 have a0:=zat (f 17/4) (show(3:Int)≠0 by decide);have a1:=zav (f 17/4) (show(0:Int)<3 by decide);obtain⟨b,hb⟩:∃b,qu (.int ((C.kinds.map D.str).length:Int)) (.int 5)=some (.bl b):=⟨_,rfl⟩;obtain⟨e,he,e0,e1⟩:∃e:Int,DK [.bl b]=some (.int e)/\0<=e/\e<=1:=by cases b <;> exact⟨_,rfl,by decide,by decide⟩
 obtain⟨q,eq,q0,q2⟩:∃q:Int,A8 [.int (f 17/4%3),.int (1+e)]=some (.int q)/\0<=q/\q<=2:=⟨_,q_min,by split <;> lia,by split <;> lia⟩;refine dQ ?_;unfold oM;rw[aF (aM (d:=.lst []) (by simp[-zac,-zab,aA,aB]))];refine iY (items:=aQ 0 1 q.toNat) (by have r:=eB q0 (show q<=1000000 by lia);ac_rfl) (λi ρ=>∃(z:List (Str×Int)) (o:Option D),ρ=[some (.lst (ns.map .int)),some (a9 C),some (.lst (nms.map .str)),some (.lst (ps.map bQ)),some (.lst (z.map bQ)),o,none,none]/\OkN C z/\z.length=i/\z.map (·.1)=(nms.drop 3).take i) ⟨[],none,by ac_rfl,(λ_ h=>nomatch h),rfl,by simp[-zac,-zab,aA,aB]⟩ ?_ ?_
 ·rintro i x ρ hx ⟨z,o,rfl,K,hl,F⟩
  obtain⟨ao,rfl⟩:=bX hx;have hI:0<=(0:Int)+(i:Int)*1/\(0:Int)+(i:Int)*1<=3:=by lia
  have G:(3+((0:Int)+(i:Int)*1)).toNat=3+i:=by lia
  generalize (0:Int)+(i:Int)*1=I at hI G;have fI:=(Y (21+I) (by lia) (by lia)).1;obtain⟨s,es,hs⟩:=TB (nms:=nms) (i:=3+I) (by lia) (by rw[h8];lia);rw[G]at hs;have hz:(z.map bQ).length<=1000000:=by rw[zal];lia
  have md:dS (.int (f (21+I))) (.int ((C.kinds.map D.str).length:Int))=some (.int (f (21+I)%(C.kinds.length:Int))):=by rw[zal];exact bR U
  apply wO
  ·exact GI rfl (by ac_rfl)
  refine⟨z++[(s,f (21+I)%(C.kinds.length:Int))],_,by rw[zaP];rfl,K.snoc (J _),by simp_all[hl],by rw[zaP,F,zcZ,List.getElem?_drop,hs];rfl⟩
 ·rintro ρ ⟨z,o,rfl,K,hl,F⟩
  rw[bH]at hl F;have hz:aZ (ps.length+z.length)=true:=decide_eq_true (by lia);have sb:((ps++z).map (·.1)).Sublist (nms.take 5):=by
   rw[zaP,ac,F];have e5:nms.take 5=nms.take 3++(nms.drop 3).take 2:=by rw[<- List.take_add]
   rw[e5];exact(zet N).append (zet (by lia))
  have Sk:Sc nms (ps++z):=⟨sb.nodup ((zdj ..).nodup aa),λp N=>sb.subset (List.mem_map.mpr ⟨p,N,rfl⟩)⟩;rw[aF (aM (d:=.lst ((ps++z).map bQ)) (by simp_all[hz]))];have md:dS (.int (f 24)) (.int ((C.kinds.map D.str).length:Int))=some (.int (f 24%(C.kinds.length:Int))):=by rw[zal];exact bR U
  have ag:=W.1;rw[aF (aM (d:=.int (f 24%(C.kinds.length:Int))) (by ac_rfl))];obtain⟨g,eg,wg,sg,lg,ng⟩:=dO B (kn:=ps++z) (k:=f 24%(C.kinds.length:Int)) (c:=f 24/6) (by simp[-zac,-zab,aA,aB];lia) (J _).1 (J _).2 (by lia) (by lia);refine⟨.tup [bD C g (f 24%(C.kinds.length:Int)) 0,.lst (z.map bQ),.lst ((ps++z).map bQ)],?_,z.length,g,_,0,z,rfl,⟨wg,(J _).1,(J _).2,by lia,ng _ _⟩,P.app K,rfl,by lia,N,Sk⟩
  ac_rfl
theorem BL{ns:List Int}(F:ns.length<=63):∃v:Int,rT [.lst (ns.map .int)]=some (.int v)/\0<=v/\v<=37:=by
 obtain⟨f,z⟩:=dN ns;have q:=(z 17 (by decide) (by decide)).1;have a0:=zat (f 17/12) (show(8:Int)≠0 by decide);have B:=zav (f 17/12) (show(0:Int)<8 by decide);refine⟨if f 17/12%8>(ns.length:Int)-26 then f 17/12%8 else(ns.length:Int)-26,aL ?_,?_,?_⟩
 ·simp_all[rN,aG,q,g7,bR]
 ·split <;> lia
 ·split <;> lia
theorem yK{ns:List Int}(hn:ns.length<=63){C:Bk}(B:OkB C){nms:List Str}(h8:nms.length=8){ps:List (Str×Int)}(M:nms.Nodup)(P:OkN C ps)(hp:ps.length<=3)(ad:ps.map (·.1)=nms.take ps.length):∃g k r,jG [.lst (ns.map .int),a9 C,.lst (nms.map .str),.lst (ps.map bQ)]=some (bD C g k r)/\Gs nms C ps g k 15:=by
 suffices h:∃d,jG [.lst (ns.map .int),a9 C,.lst (nms.map .str),.lst (ps.map bQ)]=some d/\∃g k r,d=bD C g k r/\Gs nms C ps g k 15 by
  obtain⟨d,h1,g,k,r,rfl,h2⟩:=h;exact⟨g,k,r,h1,h2⟩
 obtain⟨f,hf⟩:=dN ns;have ap:=(hf 25 (by decide) (by decide)).1;obtain⟨q,m,eb,N⟩:=yS (ns:=ns) B h8 M P hp ad;obtain⟨v,ev,v0,v1⟩:=BL hn;have an:(10:Int)^60=1000000000000000000000000000000000000000000000000000000000000:=by decide +kernel
 refine dQ ?_;unfold oQ;rw[aF (aM (d:=q) (by ac_rfl))];refine iY (items:=aQ 0 1 v.toNat) (by have r:=eB v0 (show v<=1000000 by lia);ac_rfl) (λi ρ=>∃(q:D) (m:Nat) (o:Option D),ρ=[some (.lst (ns.map .int)),some (a9 C),some (.lst (nms.map .str)),some (.lst (ps.map bQ)),some q,o]/\Now C nms ps m q) ⟨q,m,none,by ac_rfl,N⟩ ?_ ?_
 ·rintro i x ρ hx ⟨q,m,o,rfl,N⟩
  obtain⟨W,rfl⟩:=bX hx;have hI:0<=(0:Int)+(i:Int)*1/\(0:Int)+(i:Int)*1<=37:=by lia
  generalize (0:Int)+(i:Int)*1=I at hI;have fI:=hf (26+I) (by lia) (by lia);obtain⟨z,m',es,N',_⟩:=qT B h8 M fI.2.1 fI.2.2 N;have:=fI.1;apply wO
  ·exact GI rfl (by ac_rfl)
  exact⟨z,m',_,rfl,N'⟩
 ·rintro ρ ⟨q,m,o,rfl,N⟩
  have J:m<=2:=by obtain⟨g,k,r,left,rfl,G,K,F,J,_⟩:=N;exact J
  have b0:=zat (f 25/3) (show(16:Int)≠0 by decide);have b1:=zav (f 25/3) (show(0:Int)<16 by decide);have mu:cT (.int 7) (.int (f 25/3%16))=some (.int (7*(f 25/3%16))):=cG (by decide +kernel) (by decide +kernel) (by lia) (by lia);refine IQ (λm ρ=>∃(q:D) (o:Option D),ρ=[some (.lst (ns.map .int)),some (a9 C),some (.lst (nms.map .str)),some (.lst (ps.map bQ)),some q,o]/\Now C nms ps m q) (λρ=>∃(q:D) (o:Option D),ρ=[some (.lst (ns.map .int)),some (a9 C),some (.lst (nms.map .str)),some (.lst (ps.map bQ)),some q,o]/\Now C nms ps 0 q) m (by lia) ⟨q,o,rfl,N⟩ ?_ ?_
  ·rintro m ρ ⟨q,o,rfl,N⟩
   obtain⟨g,k,r,left,en,G,K,F,J,rest⟩:=N;have N:Now C nms ps m q:=⟨g,k,r,left,en,G,K,F,J,rest⟩;have el:aJ q (.int 1)=some (.lst (left.map bQ)):=by rw[en,q_itT];exact at1
   by_cases h0:0<m
   ·refine .inl ⟨by simp_all[el,F,h0],?_⟩
    obtain⟨z,m',es,N',_,W⟩:=qT B h8 M (y:=6+7*(f 25/3%16)) (by lia) (by lia) N;exact⟨m',[some (.lst (ns.map .int)),some (a9 C),some (.lst (nms.map .str)),some (.lst (ps.map bQ)),some z,o],W (by lia) h0,by ac_rfl,z,o,rfl,N'⟩
   ·have U:m=0:=by lia
    refine .inr ⟨by simp_all[el,F,U],q,o,rfl,U ▸ N⟩
  ·rintro ρ ⟨q,o,rfl,g,k,r,left,rfl,G,K,F,_,_,S⟩
   have Y:left=[]:=List.length_eq_zero_iff.mp F;subst Y;rw[zbv]at G;obtain⟨g1,k1,ew,G1,_,_⟩:=l7 B P (r:=r) (c:=f 25) (G.mono (show 15-2*0<=15 by lia)) (by lia);exact⟨bD C g1 k1 r,by ac_rfl,g1,k1,r,rfl,G1⟩
theorem all1{P:D->Prop}{a:D}(h:P a):∀d∈[a],P d:=λd hd=>by rw[List.mem_singleton.mp hd];exact h
theorem qar{P:D->Prop}{a:D}{l:List D}(h:P a)(t:∀d∈l,P d):∀d∈a::l,P d:=λd hd=>by
 rcases List.mem_cons.mp hd with z|z
 ·rw[z];exact h
 ·exact t d z
noncomputable def ch:Rg->D
 | .use1 v _ _ _=>.int (v:Int)
 | .use2 v _ _ _ _=>.int (v:Int)
 | .lett _ j _ _=>.int j
 | _=>.non
def ir:Rg->List D
 | .use1 _ _ p _=>[rd p]
 | .use2 _ _ p q _=>[rd p,rd q]
 | .lett _ _ p q=>[rd p,rd q]
 | .pick _ _ p q r _=>[rd p,rd q,rd r]
 | .again _ _ _ p q _=>[rd p,rd q]
 | _=>[]
def wy:Rg->List Int
 | .name _ _ w=>w
 | .num _ _ w=>w
 | .use1 _ _ _ w=>w
 | .use2 _ _ _ _ w=>w
 | .lett _ _ _ _=>[]
 | .pick _ _ _ _ _ w=>w
 | .again _ _ _ _ _ w=>w
theorem WY{a b c d:D}:cutD [a,b,c,d] (some 2) (some 4)=[c,d]:=rfl
theorem WZ{a b c d e f:D}:cutD [a,b,c,d,e,f] (some 3) (some 6)=[d,e,f]:=rfl
theorem W3{a b c d e f:D}:cutD [a,b,c,d,e,f] (some 4) (some 6)=[e,f]:=rfl
theorem sz5:aZ 5=true:=rfl
def Cons(d:List (Key×D))(kn:List (Str×Int)):Prop:=∀p∈kn,eZ d (.inr p.1:Key)=some (.int p.2)
theorem qA{κ:Type}[DecidableEq κ](l:List (κ×D))(k j:κ)(e:D):eZ (putD l k e) j=if j=k then some e else eZ l j:=by
 unfold putD;by_cases h:(l.any λp=>decide (p.1=k))=true
 ·rw[if_pos h]
  unfold eZ;by_cases B:j=k
  ·subst B
   rw[if_pos rfl];induction l with
   | nil=>simp[-zac,-zab,aA,aB]at h
   | cons p l ih=>
    rw[zak,zby];by_cases q:p.1=j
    ·simp_all[q]
    ·have:(l.any λp=>decide (p.1=j))=true:=by simpa[q]using h
     simp_all[q];simpa using ih this
  ·rw[if_neg B]
   clear h;induction l with
   | nil=>rfl
   | cons p l ih=>
    rw[zak,zby,zby];by_cases q:p.1=k
    ·have:¬ k=j:=λz=>B z.symm
     simp_all[q,this];simpa using ih
    ·by_cases F:p.1=j
     ·simp_all[q,F,B]
     ·simp_all[q,F]
      simpa using ih
 ·rw[if_neg h]
  unfold eZ;rw[List.find?_append];by_cases B:j=k
  ·subst B
   rw[if_pos rfl];have:l.find? (λp=>decide (p.1=j))=none:=by
    rw[List.find?_eq_none];intro p q G;exact h (List.any_eq_true.mpr ⟨p,q,G⟩)
   rw[this];simp[-zac,-zab,aA,aB]
  ·rw[if_neg B]
   cases e2:l.find? (λp=>decide (p.1=j))with
   | some u=>simp[-zac,-zab,aA,aB]
   | none=>simp_all[zaU B]
theorem Cons.put{d:List (Key×D)}{kn:List (Str×Int)}(h:Cons d kn){x:Str}{j:Int}(hx:x∉kn.map (·.1)):Cons (putD d (.inr x) (.int j)) ((x,j)::kn):=λp q=>by
 rw[qA];rcases List.mem_cons.mp q with z|z
 ·rw[z,if_pos rfl]
 ·rw[if_neg,h p z]
  intro e;injection e with e
  exact hx (List.mem_map.mpr ⟨p,z,e⟩)
theorem TQ{d:List (Key×D)}{x:Str}{e:D}(h:eZ d (.inr x:Key)=some e):aJ (.dK d) (.str x)=some e:=by
 show((XN (.str x)).map λk=>eZ d k).join=_;show(some (eZ d (.inr x:Key))).join=_;rw[h];rfl
theorem M7{d:List (Key×D)}{x:Str}{e:D}(h:d.length<=1000):kH (.dK d) (.str x) e=some (.dK (putD d (.inr x) e)):=by
 have q:kH (.dK d) (.str x) e=(if aZ d.length=true then some (.dK (putD d (.inr x) e))else none):=rfl;rw[q,if_pos (show aZ d.length=true from decide_eq_true (by lia))]
theorem sO{d:List (Key×D)}{k:Key}{e:D}:(putD d k e).length<=d.length+1:=by
 unfold putD;split <;> simp[-zac,-zab,aA,aB]
theorem E5{d:List (Key×D)}:fN [.dK d]=some (.dK d):=rfl
theorem B9{d:List (Key×D)}{p c:D}{i:Int}(h:cM [p,.int i]=some .non):dF [.dK d,p,.int i,c]=some (.dK d):=aL (by simp_all[fG,aG,h,fP])
theorem GU{d:List (Key×D)}{x:Str}{j:Int}{p q:D}(z:d.length<=1000):dF [.dK d,.tup [.str "let",.str x,p,q],.int 1,.int j]=some (.dK (putD d (.inr x) (.int j))):=by
 have h:cM [.tup [.str "let",.str x,p,q],.int 1]=some (.str x):=aL (by simp_all[bJ,aG,at0,at1]);exact aL (by simp_all[fG,aG,h,fP,E5,at0,M7 z])
theorem yH{d:List (Key×D)}{x:Str}{n k:Int}{p q c:D}(z:d.length<=1000):dF [.dK d,.tup [.str "again",.int n,.int k,.str x,p,q],.int 1,c]=some (.dK (putD d (.inr x) (.int k))):=by
 have h:cM [.tup [.str "again",.int n,.int k,.str x,p,q],.int 1]=some (.str x):=aL (by simp_all[bJ,aG,at0,XT,fZ]);exact aL (by simp_all[fG,aG,h,fP,E5,at0,at2,fZ,M7 z])
def nI:Sm->Int
 | none=>0
 | some p=>p.1
theorem FN(a b:Sm):nI (i7 a b)=nI a*nI b:=by
 cases a <;> cases b <;> simp_all[i7,nI]
theorem GP(a b:Sm):nI (bU a b)=nI a+nI b:=by
 cases a <;> cases b <;> simp_all[bU,nI]
noncomputable def jA:List Int->Int
 | []=>1
 | x::l=>x*jA l
theorem E8(l m:List Int):jA (l++m)=jA l*jA m:=by
 induction l with
 | nil=>simp_all[jA]
 | cons x l ih=>rw[zdL,jA,jA,ih,zdM]
theorem FQ:∀(l:List Sm) (t:Sm),nI (l.foldl i7 t)=nI t*jA (l.map nI)
 | [],t=>by simp_all[jA]
 | a::l,t=>by rw[zcs,FQ l,FN,zak,jA,zdM]
theorem CZ(C:Bk)(j k:Int):nI (DU C j k)=((bS C.rs k 8 j).length:Int):=by
 unfold DU;split
 ·rename_i h;rw[h];rfl
 ·rfl
theorem eS(C:Bk)(own j k:Int)(l:List Sm):nI (csum C own j k l)=jA (l.map nI++[((bS C.rs k 8 j).length:Int)]):=by
 unfold csum;rw[FQ,FN,CZ,E8];simp only[nI,jA,Int.one_mul,Int.mul_one];exact Int.mul_comm _ _
def NN(l:List Int):Prop:=∀x∈l,0<=x
theorem xY:∀ {l:List Int},NN l->0<=jA l
 | [],_=>by decide
 | x::l,h=>zcY (h x (zas ..)) (xY λy q=>h y (zaq _ q))
theorem iP{q:Type}(f:q->Sm):∀(l:List q) (t:Sm),nI (l.foldl (λt v=>bU t (f v)) t)=nI t+(l.map λv=>nI (f v)).sum
 | [],t=>by simp[-zac,-zab,aA,aB]
 | a::l,t=>by rw[zcs,iP f l,GP,zak,zbe,zc4]
theorem nY{q:Type}{f:q->Int}:∀ {l:List q},(∀v∈l,0<=f v)->0<=(l.map f).sum
 | [],_=>by simp[-zac,-zab,aA,aB]
 | a::l,h=>by
  rw[zak,zbe];have:=h a (zas ..);have:=nY (l:=l) λv z=>h v (zaq _ z)
  lia
theorem eR(C:Bk)(own j k:Int){l:List Sm}(h:NN (l.map nI)):0<=nI (csum C own j k l):=by
 rw[eS];refine xY λx hx=>?_
 rcases List.mem_append.mp hx with z|z
 ·exact h x z
 ·rw[List.mem_singleton.mp z];lia
theorem NN1{a:Int}(h:0<=a):NN [a]:=λx hx=>by rw[List.mem_singleton.mp hx];exact h
theorem XW{a b:Int}(h:0<=a)(h':0<=b):NN [a,b]:=λx hx=>by
 rcases List.mem_cons.mp hx with z|z
 ·rw[z];exact h
 ·exact NN1 h' x z
theorem NN3{a b c:Int}(h:0<=a)(h':0<=b)(h2:0<=c):NN [a,b,c]:=λx hx=>by
 rcases List.mem_cons.mp hx with z|z
 ·rw[z];exact h
 ·exact XW h' h2 x z
theorem cF(C:Bk):∀(p:Pa) (e:eM) (k:Int),0<=nI (aR C p e k)
 | .name x,e,k=>eR C _ _ _ (l:=[]) λ_ h=>nomatch h
 | .num _ j,e,k=>eR C _ _ _ (l:=[]) λ_ h=>nomatch h
 | .use1 nm p,e,k=>by
  rw[aR,iP];have:=nY (l:=nN C nm 1) (f:=λv=>nI (csum C (mpr C v) (dG C v) k [aR C p e (aU C v 0)])) λv _=>eR _ _ _ _ (NN1 (cF C p e _))
  simp only[nI,zbo]at *;exact this
 | .use2 nm p q,e,k=>by
  rw[aR,iP];have:=nY (l:=nN C nm 2) (f:=λv=>nI (csum C (mpr C v) (dG C v) k [aR C p e (aU C v 0),aR C q e (aU C v 1)])) λv _=>eR _ _ _ _ (XW (cF C p e _) (cF C q e _))
  simp only[nI,zbo]at *;exact this
 | .lett x p q,e,k=>by
  rw[aR,iP];have:=nY (l:=zam C.kinds.length) (f:=λ(j:Nat)=>nI (csum C 0 k k [aR C p e (j:Int),aR C q (eW e x (j:Int)) k])) λv _=>eR _ _ _ _ (XW (cF C p e _) (cF C q _ _))
  simp only[nI,zbo]at *;exact this
 | .pick c k' p q r,e,k=>eR _ _ _ _ (NN3 (cF C p e _) (cF C q e _) (cF C r e _))
 | .again n k' x p q,e,k=>eR _ _ _ _ (XW (cF C p e _) (cF C q _ _))
noncomputable def cS:Int->List (Int×Int)->Int
 | n,[]=>n
 | n,p::l=>cS (n*p.2+p.1) l
noncomputable def f6:Int->List Int->List Int->List Int
 | _,[],acc=>acc
 | n,s::l,acc=>f6 (n/s) l (n%s::acc)
def TV(l:List (Int×Int)):Prop:=∀p∈l,0<=p.1/\p.1<p.2
theorem u3:∀(l:List (Int×Int)) (n:Int) (t acc:List Int),TV l->f6 (cS n l) ((l.map (·.2)).reverse++t) acc=f6 n t (l.map (·.1)++acc)
 | [],n,t,acc,_=>rfl
 | (a,s)::l,n,t,acc,h=>by
  have q:=h (a,s) (zas ..);simp only at q;rw[cS,zak,zd8,List.append_assoc];have ih:=u3 l (n*s+a) ([s]++t) acc λp q=>h p (zaq _ q)
  rw[ih];show f6 ((n*s+a)/s) t ((n*s+a)%s::(l.map (·.1)++acc))=_;have B:(n*s+a)/s=n:=by
   rw[Int.add_comm,Int.add_mul_ediv_right _ _ (by lia),Int.ediv_eq_zero_of_lt q.1 q.2,zbo]
  have z:(n*s+a)%s=a:=by
   rw[Int.add_comm,Int.add_mul_emod_self_right,Int.emod_eq_of_lt q.1 q.2]
  rw[B,z];rfl
theorem AS:∀(l:List (Int×Int)) (n:Int),0<=n->TV l->0<=cS n l/\cS n l+1<=(n+1)*jA (l.map (·.2))
 | [],n,h0,_=>by simp_all[cS,jA,h0]
 | (a,s)::l,n,h0,h=>by
  have q:=h (a,s) (zas ..);simp only at q;have B:0<=n*s+a:=Int.add_nonneg (zcY h0 (by lia)) q.1;obtain⟨F,z⟩:=AS l (n*s+a) B λp q=>h p (zaq _ q)
  refine⟨F,zcI z ?_⟩;have G:0<=jA (l.map (·.2)):=xY λx hx=>by
   obtain⟨p,q,rfl⟩:=List.mem_map.mp hx;have:=h p (zaq _ q);lia
  rw[zak,jA,<- zdM];refine zeu ?_ G;rw[Int.add_mul];simp only;lia
def kA(C:Bk)(j k:Int)(w:List Int):Int×Int:=(((bS C.rs k 8 j).idxOf w:Nat),((bS C.rs k 8 j).length:Int))
def uQ(l:List Nat)(v:Nat)(f:Nat->Sm):Int:=((l.filter λu=>decide (u<v)).map λu=>nI (f u)).sum
def cQ(C:Bk):Rg->eM->Int->Int
 | .name x _ w,e,k=>cS 0 [kA C (e x) k w]
 | .num _ j w,_,k=>cS 0 [kA C j k w]
 | .use1 v nm p w,e,k=>uQ (nN C nm 1) v (λv=>csum C (mpr C v) (dG C v) k [aR C (pa p) e (aU C v 0)])+cS 0 [(cQ C p e (aU C v 0),nI (aR C (pa p) e (aU C v 0))),kA C (dG C v) k w]
 | .use2 v nm p q w,e,k=>uQ (nN C nm 2) v (λv=>csum C (mpr C v) (dG C v) k [aR C (pa p) e (aU C v 0),aR C (pa q) e (aU C v 1)])+cS 0 [(cQ C p e (aU C v 0),nI (aR C (pa p) e (aU C v 0))),(cQ C q e (aU C v 1),nI (aR C (pa q) e (aU C v 1))),kA C (dG C v) k w]
 | .lett x j p q,e,k=>uQ (zam C.kinds.length) j.toNat (λ(j:Nat)=>csum C 0 k k [aR C (pa p) e (j:Int),aR C (pa q) (eW e x (j:Int)) k])+cS 0 [(cQ C p e j,nI (aR C (pa p) e j)),(cQ C q (eW e x j) k,nI (aR C (pa q) (eW e x j) k)),kA C k k []]
 | .pick c k' p q r w,e,k=>cS 0 [(cQ C p e c,nI (aR C (pa p) e c)),(cQ C q e k',nI (aR C (pa q) e k')),(cQ C r e k',nI (aR C (pa r) e k')),kA C k' k w]
 | .again _ k' x p q w,e,k=>cS 0 [(cQ C p e k',nI (aR C (pa p) e k')),(cQ C q (eW e x k') k',nI (aR C (pa q) (eW e x k') k')),kA C k' k w]
def EC(e:eM)(kn:List (Str×Int)):Prop:=∀p∈kn,e p.1=p.2
theorem EC.put{e:eM}{kn:List (Str×Int)}(h:EC e kn){x:Str}{j:Int}(hx:x∉kn.map (·.1)):EC (eW e x j) ((x,j)::kn):=λp B=>by
 unfold eW;rcases List.mem_cons.mp B with z|z
 ·rw[z,if_pos rfl]
 ·rw[if_neg λq=>hx (List.mem_map.mpr ⟨p,z,q⟩)];exact h p z
theorem jZ{C:Bk}(B:OkB C){j k:Int}{w:List Int}(z:0<=j)(k1:k<(C.kinds.length:Int))(h:gw C.rs j w=some k):0<=(kA C j k w).1/\(kA C j k w).1<(kA C j k w).2:=by
 have q:=B.k6;have m:=mX B.gr (n:=8) (by lia) h;have:=zew m;exact⟨by unfold kA;simp only;lia,by unfold kA;simp only;lia⟩
theorem pM{l:List (Int×Int)}(h:TV l):0<=cS 0 l/\cS 0 l<jA (l.map (·.2)):=by
 have:=AS l 0 (by decide) h;rw[zbo,Int.one_mul]at this;exact⟨this.1,by lia⟩
theorem DO{a:Int×Int}(h:0<=a.1/\a.1<a.2):TV [a]:=λp q=>by rw[List.mem_singleton.mp q];exact h
theorem t8{a:Int×Int}{l:List (Int×Int)}(h:0<=a.1/\a.1<a.2)(t:TV l):TV (a::l):=λp q=>by
 rcases List.mem_cons.mp q with z|z
 ·rw[z];exact h
 ·exact t p z
theorem DG{l:List Nat}(F:l.Pairwise (·<·)){v:Nat}(J:v∈l){f:Nat->Sm}(G:∀u,0<=nI (f u)){x:Int}(U:0<=x)(hx:x<nI (f v)):0<=uQ l v f+x/\uQ l v f+x<nI (l.foldl (λt v=>bU t (f v)) none):=by
 rw[iP];have M:0<=uQ l v f:=nY λu _=>G u
 refine⟨by lia,?_⟩;have:uQ l v f+nI (f v)<=(l.map λv=>nI (f v)).sum:=by
  clear hx M;unfold uQ;induction l with
  | nil=>cases J
  | cons a l ih=>
   rw[List.pairwise_cons]at F;rw[zak,zbe];by_cases e:v=a
   ·subst e
    have z:((v::l).filter λu=>decide (u<v))=[]:=by
     rw[List.filter_eq_nil_iff];intro u N;rcases List.mem_cons.mp N with q|q
     ·rw[q];simp[-zac,-zab,aA,aB]
     ·have:=F.1 u q;simp[-zac,-zab,aA,aB];lia
    rw[z];have:=nY (l:=l) (f:=λv=>nI (f v)) λu _=>G u
    simp[-zac,-zab,aA,aB];lia
   ·have B:=(List.mem_cons.mp J).resolve_left e
    have la:=F.1 v B;rw[zcC,if_pos (by simpa using la),zak,zbe];have:=ih F.2 B
    lia
 simp only[nI,zbo]at *;lia
theorem iD(n:Nat):(zam n).Pairwise (·<·):=List.pairwise_lt_range
theorem gG(C:Bk)(nm:Str)(n:Nat):(nN C nm n).Pairwise (·<·):=(iD _).filter _
theorem mY{C:Bk}{v:Nat}{m:Mk}{n:Nat}(h:C.makes[v]?=some m)(q:m.takes.length=n):v∈nN C m.nm n:=by
 refine List.mem_filter.mpr ⟨List.mem_range.mpr (List.getElem?_eq_some_iff.mp h).1,?_⟩;rw[h];simp_all[q]
theorem eQ{C:Bk}{v:Nat}{m:Mk}(h:C.makes[v]?=some m)(i:Nat):aU C v i=(m.takes[i]?).getD 0:=by unfold aU;rw[h];rfl
theorem dZ{C:Bk}{v:Nat}{m:Mk}(h:C.makes[v]?=some m):dG C v=m.g:=by unfold dG;rw[h];rfl
theorem fY{U:List Str}{C:Bk}(B:OkB C):∀ {g:Rg} {kn:List (Str×Int)} {e:eM} {k:Int},OkN C kn->WF C kn g k->NF U (kn.map (·.1)) g->EC e kn->0<=cQ C g e k/\cQ C g e k<nI (aR C (pa g) e k)
 | .name x j w,kn,e,k,K,W,_,c=>by
  have s:=WF.short B K W;obtain⟨a,b⟩:=W;have ex:e x=j:=c _ a;have h:=pM (DO (jZ B (K _ a).1 s.2.2 b));simp only[cQ,pa,aR,eS,ex];exact h
 | .num n j w,kn,e,k,K,W,_,c=>by
  have s:=WF.short B K W;obtain⟨a,b,d⟩:=W;have h:=pM (DO (jZ B b.1 s.2.2 d));simp only[cQ,pa,aR,eS];exact h
 | .use1 v nm p w,kn,e,k,K,W,F,c=>by
  have s:=WF.short B K W;obtain⟨m,t,a,b,d,G,f⟩:=W;subst b;have et:aU C v 0=t:=by rw[eQ a,d];rfl
  have Y:=dZ a;have N:=zaw a;have z:=fY B (g:=p) K G F c;rw[<- et]at z;have h:=pM (t8 (a:=(cQ C p e (aU C v 0),nI (aR C (pa p) e (aU C v 0)))) z (DO (jZ B (B.gb m N).1 s.2.2 f)));rw[<- Y]at h;refine DG (gG C m.nm 1) (mY a (by rw[d];rfl)) (f:=λv=>csum C (mpr C v) (dG C v) k [aR C (pa p) e (aU C v 0)]) (λu=>eR _ _ _ _ (NN1 (cF ..))) h.1 ?_;simp only[eS];exact h.2
 | .use2 v nm p q w,kn,e,k,K,W,F,c=>by
  have s:=WF.short B K W;obtain⟨m,t,u,a,b,d,G,M,f⟩:=W;subst b;have et:aU C v 0=t:=by rw[eQ a,d];rfl
  have eu:aU C v 1=u:=by rw[eQ a,d];rfl
  have Y:=dZ a;have N:=zaw a;have z:=fY B (g:=p) K G F.1 c;have J:=fY B (g:=q) K M F.2 c;rw[<- et]at z;rw[<- eu]at J;have h:=pM (t8 (a:=(cQ C p e (aU C v 0),nI (aR C (pa p) e (aU C v 0)))) z (t8 (a:=(cQ C q e (aU C v 1),nI (aR C (pa q) e (aU C v 1)))) J (DO (jZ B (B.gb m N).1 s.2.2 f))));rw[<- Y]at h;refine DG (gG C m.nm 2) (mY a (by rw[d];rfl)) (f:=λv=>csum C (mpr C v) (dG C v) k [aR C (pa p) e (aU C v 0),aR C (pa q) e (aU C v 1)]) (λu=>eR _ _ _ _ (XW (cF ..) (cF ..))) h.1 ?_;simp only[eS];exact h.2
 | .lett x j p q,kn,e,k,K,W,F,c=>by
  have s:=WF.short B K W;obtain⟨G,M⟩:=W;have sp:=WF.short B K G;have z:=fY B (g:=p) K G F.1 c;have J:=fY B (g:=q) (K.cons sp.2.1 sp.2.2) M F.2.2 (c.put F.2.1.1);have ej:((j.toNat:Nat):Int)=j:=by lia
  have h:=pM (t8 (a:=(cQ C p e j,nI (aR C (pa p) e j))) z (t8 (a:=(cQ C q (eW e x j) k,nI (aR C (pa q) (eW e x j) k))) J (DO (jZ B s.2.1 s.2.2 (w:=[]) rfl))));refine DG (iD C.kinds.length) (List.mem_range.mpr (by lia)) (f:=λ(j:Nat)=>csum C 0 k k [aR C (pa p) e (j:Int),aR C (pa q) (eW e x (j:Int)) k]) (λu=>eR _ _ _ _ (XW (cF ..) (cF ..))) h.1 ?_;simp only[eS,ej];exact h.2
 | .pick c' k' p q r w,kn,e,k,K,W,F,c=>by
  have s:=WF.short B K W;obtain⟨a,b,G,M,wr,f⟩:=W;have z:=fY B (g:=p) K G F.1 c;have J:=fY B (g:=q) K M F.2.1 c;have i3:=fY B (g:=r) K wr F.2.2 c;have h:=pM (t8 (a:=(cQ C p e c',nI (aR C (pa p) e c'))) z (t8 (a:=(cQ C q e k',nI (aR C (pa q) e k'))) J (t8 (a:=(cQ C r e k',nI (aR C (pa r) e k'))) i3 (DO (jZ B b.1 s.2.2 f)))));simp only[cQ,pa,aR,eS];exact h
 | .again n k' x p q w,kn,e,k,K,W,F,c=>by
  have s:=WF.short B K W;obtain⟨a,b,G,M,f⟩:=W;have z:=fY B (g:=p) K G F.1 c;have J:=fY B (g:=q) (K.cons b.1 b.2) M F.2.2 (c.put F.2.1.1);have h:=pM (t8 (a:=(cQ C p e k',nI (aR C (pa p) e k'))) z (t8 (a:=(cQ C q (eW e x k') k',nI (aR C (pa q) (eW e x k') k'))) J (DO (jZ B b.1 s.2.2 f))));simp only[cQ,pa,aR,eS];exact h
def kids:Pa->List Pa
 | .use1 _ p=>[p]
 | .use2 _ p q=>[p,q]
 | .lett _ p q=>[p,q]
 | .pick _ _ p q r=>[p,q,r]
 | .again _ _ _ p q=>[p,q]
 | _=>[]
def SM(C:Bk)(p:Pa)(l:List D):D:=.ob CN [("part",bI p),("below",.lst l),("names",.lst ((aP p).map .str)),("found",.mem (DM (a9 C) (bI p)) (FF (a9 C) (bI p)))]
def dY(C:Bk):Pa->D
 | .name x=>SM C (.name x) []
 | .num n j=>SM C (.num n j) []
 | .use1 nm p=>SM C (.use1 nm p) [dY C p]
 | .use2 nm p q=>SM C (.use2 nm p q) [dY C p,dY C q]
 | .lett x p q=>SM C (.lett x p q) [dY C p,dY C q]
 | .pick c k p q r=>SM C (.pick c k p q r) [dY C p,dY C q,dY C r]
 | .again n k x p q=>SM C (.again n k x p q) [dY C p,dY C q]
theorem tU(C:Bk)(p:Pa):dY C p=SM C p ((kids p).map (dY C)):=by cases p <;> rfl
noncomputable def hid:Pa->Nat->Option Str
 | .lett x _ _,1=>some x
 | .again _ _ x _ _,1=>some x
 | _,_=>none
noncomputable def oS:Option Str->D
 | none=>.non
 | some x=>.str x
theorem m9:∀p:Pa,iR [bI p]=some (.tup ((kids p).map bI))
 | .name ..=>aL (by simp_all[gH,aG,bI,kids,at0,oA,jY,wQ,mO])
 | .num ..=>aL (by simp_all[gH,aG,bI,kids,at0,lC,iW,wU,mP])
 | .use1 ..=>aL (by simp_all[gH,aG,bI,kids,at0,at2])
 | .use2 ..=>aL (by simp_all[gH,aG,bI,kids,at0,at2])
 | .lett ..=>aL (by simp_all[gH,aG,bI,kids,at0,lI,WY])
 | .pick ..=>aL (by simp_all[gH,aG,bI,kids,at0,lB,iX,WZ])
 | .again ..=>aL (by simp_all[gH,aG,bI,kids,at0,lG,fZ,xJ,W3])
theorem mM:¬ ("use" : Str) = "again" := by decide
theorem AC:¬ ("pick" : Str) = "again" := by decide
theorem HY{p:D}{i:Nat}(h:¬ i=1):cM [p,.int (i:Int)]=some .non:=aL (by
 have h':¬ ((i:Int)=1):=λz=>h (by lia)
 simp_all[bJ,aG,h'])
theorem zT(p:Pa)(i:Nat):cM [bI p,.int (i:Int)]=some (oS (hid p i)):=by
 by_cases h:i=1
 ·subst h
  cases p with
  | name x=>exact aL (by simp_all[bJ,aG,bI,hid,oS,at0,jY,mO])
  | num n j=>exact aL (by simp_all[bJ,aG,bI,hid,oS,at0,iW,mP])
  | use1 nm p=>exact aL (by simp_all[bJ,aG,bI,hid,oS,at0,jX,mM])
  | use2 nm p q=>exact aL (by simp_all[bJ,aG,bI,hid,oS,at0,jX,mM])
  | lett x p q=>exact aL (by simp_all[bJ,aG,bI,hid,oS,at0,at1])
  | pick c k p q r=>exact aL (by simp_all[bJ,aG,bI,hid,oS,at0,iX,AC])
  | again n k x p q=>exact aL (by simp_all[bJ,aG,bI,hid,oS,at0,XT,fZ])
 ·rw[HY h]
  have:hid p i=none:=by
   unfold hid;split
   ·exact absurd rfl h
   ·exact absurd rfl h
   ·rfl
  rw[this];rfl
theorem CV{x:Str}{l:List Str}:nC (.str x) (.lst (l.map .str))=some (.bl (!decide (x∈l))):=by
 have h1:(l.map D.str).all kI=true:=by
  rw[List.all_map];exact List.all_eq_true.mpr λx _=>rfl
 show yA (.str x) (.lst (l.map .str))=_;unfold yA SJ;dsimp only;rw[if_pos ⟨rfl,h1⟩];simp only[aB];congr 3;rw[List.any_map];by_cases h:x∈l
 ·rw[decide_eq_true h]
  exact List.any_eq_true.mpr ⟨x,h,by simp[-zac,-zab,aA,aB]⟩
 ·rw[decide_eq_false h]
  refine List.any_eq_false.mpr λy q=>?_
  simp[-zac,-zab,aA,aB];rintro rfl;exact h q
theorem ne_sn{x:Str}:uR (.str x) .non=some (.bl true):=by
 unfold uR GO;rw[if_pos (.inl rfl)];simp[-zac,-zab,aA,aB]
theorem YX{x:Str}{h:Option Str}:uR (.str x) (oS h)=some (.bl (!decide (some x=h))):=by
 cases h with
 | none=>rw[show oS none=D.non from rfl,ne_sn];simp[-zac,-zab,aA,aB]
 | some y=>rw[show oS (some y)=D.str y from rfl,q_neS];simp[-zac,-zab,aA,aB]
theorem qW{h:Option Str}{acc:List Str}:∀(l:List Str) (o:Option D),bA (aS 0) (JA (nO (a7 uR (aD 0) (aD 1))) (nO (a7 nC (aD 0) (aD 2)))) (aD 0) (l.map .str) [o,some (oS h),some (.lst (acc.map .str))]=some ((l.filter λx=>!decide (some x=h) && !decide (x∈acc)).map .str)
 | [],o=>rfl
 | x::l,o=>by
  have ih:=qW (h:=h) (acc:=acc) l (some (.str x));have e:=YX (x:=x) (h:=h);have q:=CV (x:=x) (l:=acc);generalize oS h=dh at *;rw[zak,bA];by_cases h1:some x=h
  ·simp_all[e,q,h1,ih]
  ·by_cases h2:x∈acc
   ·simp_all[e,q,h1,h2,ih]
   ·simp_all[e,q,h1,h2,ih]
def accN(p:Pa):Nat->List Pa->List Str->List Str
 | _,[],acc=>acc
 | i,q::l,acc=>accN p (i+1) l (fE (hid p i) acc (aP q))
theorem PH(p:Pa)(h:∀x,p≠.name x):aP p=accN p 0 (kids p) []:=by
 cases p with
 | name x=>exact absurd rfl (h x)
 | _=>rfl
theorem dP{h:Option Str}{acc l:List Str}:(fE h acc l).length<=acc.length+l.length:=by
 unfold fE;rw[zbc];have:=zc1 (λx=>!decide (some x=h) && !decide (x∈acc)) l
 lia
theorem d9:∀p:Pa,(aP p).length<=psz p
 | .name x=>zai 1
 | .num _ _=>by simp_all[aP,psz]
 | .use1 _ p=>by
  have:=d9 p;have:=dP (h:=none) (acc:=[]) (l:=aP p);simp only[aP,psz,zbF]at *;lia
 | .use2 _ p q=>by
  have:=d9 p;have:=d9 q;have:=dP (h:=none) (acc:=[]) (l:=aP p);have:=dP (h:=none) (acc:=fE none [] (aP p)) (l:=aP q);simp only[aP,psz,zbF]at *;lia
 | .lett x p q=>by
  have:=d9 p;have:=d9 q;have:=dP (h:=none) (acc:=[]) (l:=aP p);have:=dP (h:=some x) (acc:=fE none [] (aP p)) (l:=aP q);simp only[aP,psz,zbF]at *;lia
 | .pick _ _ p q r=>by
  have:=d9 p;have:=d9 q;have:=d9 r;have:=dP (h:=none) (acc:=[]) (l:=aP p);have:=dP (h:=none) (acc:=fE none [] (aP p)) (l:=aP q);have:=dP (h:=none) (acc:=fE none (fE none [] (aP p)) (aP q)) (l:=aP r);simp only[aP,psz,zbF]at *;lia
 | .again _ _ x p q=>by
  have:=d9 p;have:=d9 q;have:=dP (h:=none) (acc:=[]) (l:=aP p);have:=dP (h:=some x) (acc:=fE none [] (aP p)) (l:=aP q);simp only[aP,psz,zbF]at *;lia
def R5:Pa->Str
 | .name _ => "name"
 | .num _ _ => "number"
 | .use1 _ _ => "use"
 | .use2 _ _ _ => "use"
 | .lett _ _ _ => "let"
 | .pick _ _ _ _ _ => "pick"
 | .again _ _ _ _ _ => "again"
theorem MR(p:Pa):aJ (bI p) (.int 0)=some (.str (R5 p)):=by
 cases p <;> (unfold bI;rw[q_itT];exact at0)
theorem JK(p:Pa)(h:∀x,p≠.name x):¬ R5 p = "name" := by
 cases p with
 | name x=>exact absurd rfl (h x)
 | num _ _=>exact(by decide:¬ ("number" : Str) = "name")
 | use1 _ _=>exact(by decide:¬ ("use" : Str) = "name")
 | use2 _ _ _=>exact(by decide:¬ ("use" : Str) = "name")
 | lett _ _ _=>exact(by decide:¬ ("let" : Str) = "name")
 | pick _ _ _ _ _=>exact(by decide:¬ ("pick" : Str) = "name")
 | again _ _ _ _ _=>exact(by decide:¬ ("again" : Str) = "name")
theorem nB(C:Bk)(p:Pa):yG CN "part" (dY C p)=some (bI p):=by rw[tU];rfl
theorem KG(C:Bk)(p:Pa):yG CN "below" (dY C p)=some (.lst ((kids p).map (dY C))):=by rw[tU];rfl
theorem zM(C:Bk)(p:Pa):yG CN "names" (dY C p)=some (.lst ((aP p).map .str)):=by rw[tU];rfl
theorem KN(C:Bk)(p:Pa):yG CN "found" (dY C p)=some (.mem (DM (a9 C) (bI p)) (FF (a9 C) (bI p))):=by rw[tU];rfl
theorem zB(p:Pa):∀(l:List Pa) (j i:Nat) (acc:List Str) (q:Pa),l[i]?=some q->accN p j (l.take (i+1)) acc=fE (hid p (j+i)) (accN p j (l.take i) acc) (aP q)
 | [],j,i,acc,q,h=>by simp[-zac,-zab,aA,aB]at h
 | a::l,j,0,acc,q,h=>by
  have:a=q:=by simpa using h
  subst this;rfl
 | a::l,j,i+1,acc,q,h=>by
  have ih:=zB p l (j+1) i (fE (hid p j) acc (aP a)) q (by simpa using h);rw[zct,zct,accN,accN,ih,show j+1+i=j+(i+1) by lia]
theorem E3(p:Pa):∀(l:List Pa) (j:Nat) (acc:List Str),(accN p j l acc).length<=acc.length+(l.map psz).sum
 | [],j,acc=>by simp_all[accN]
 | a::l,j,acc=>by
  have:=E3 p l (j+1) (fE (hid p j) acc (aP a));have:=dP (h:=hid p j) (acc:=acc) (l:=aP a);have:=d9 a;rw[accN,zak,zbe];lia
theorem dB(p:Pa):((kids p).map psz).sum+1=psz p:=by
 cases p <;> simp_all[kids,psz] <;> lia
theorem D4{q:Pa}:∀ {l:List Pa},q∈l->psz q<=(l.map psz).sum
 | [],h=>nomatch h
 | a::l,h=>by
  rw[zak,zbe];rcases List.mem_cons.mp h with z|z
  ·rw[z];lia
  ·have:=D4 z;lia
theorem fX{p q:Pa}(h:q∈kids p):psz q<psz p:=by
 have:=D4 h;have:=dB p;lia
theorem LM(l:List Pa)(i:Nat):((l.take i).map psz).sum<=(l.map psz).sum:=by
 induction l generalizing i with
 | nil=>simp[-zac,-zab,aA,aB]
 | cons a l ih=>
  cases i with
  | zero=>simp[-zac,-zab,aA,aB]
  | succ i=>have:=ih i;simp only[zct,zak,zbe];lia
theorem Q7(C:Bk)(p:Pa)(hs:psz p<=100):eO [bI p,.lst ((kids p).map (dY C))]=some (.lst ((aP p).map .str)):=by
 by_cases U:∃x,p=.name x
 ·obtain⟨x,rfl⟩:=U
  exact aL (by simp_all[iB,aG,bI,aP,at0,at1])
 have B:∀x,p≠.name x:=λx e=>U ⟨x,e⟩
 have tg:=JK p B;refine aL ?_;unfold iB;have w:=zT p;have ta:=MR p;have sm:=dB p;have ac:=E3 p;rw[PH p B];have Y:=@zB p (kids p) 0;have sz:∀q∈kids p,psz q<psz p:=λq F=>fX F
 have tk:=LM (kids p);generalize kids p=ks at *;generalize bI p=pd at *;rw[aF (ρ':=aG 6 [pd,.lst (ks.map (dY C))]) (by simp_all[aG,ta,tg])];rw[aF (aM (d:=.lst []) (by simp[-zac,-zab,aA,aB]))];refine iS (items:=f7 0 (ks.map (dY C))) (by simp_all[aG]) (λi ρ=>∃J M G,ρ=[some pd,some (.lst (ks.map (dY C))),some (.lst ((accN p 0 (ks.take i) []).map .str)),J,M,G]) ⟨none,none,none,by simp_all[aG,accN]⟩ ?_ ?_
 ·rintro i y ρ hy ⟨J,M,G,rfl⟩
  obtain⟨z,N,rfl⟩:=gW hy;rw[zaB]at N;obtain⟨q,F,rfl⟩:=map_some N;rw[zaO];have W:=Y i [] q F;rw[zaO]at W;have wi:=w i;have cn:=qW (h:=hid p i) (acc:=accN p 0 (ks.take i) []) (aP q) none;have nn:=zM C q;have l1:=ac (ks.take i) 0 [];have l2:=tk i;have l3:=d9 q;have l4:=sz q (zaw F);have l5:=zc1 (λx=>!decide (some x=hid p i) && !decide (x∈accN p 0 (ks.take i) [])) (aP q);have z1:aZ (aP q).length=true:=decide_eq_true (by lia);refine⟨[some pd,some (.lst (ks.map (dY C))),some (.lst ((accN p 0 (ks.take (i+1)) []).map .str)),some (.int (i:Int)),some (dY C q),some (oS (hid p i))],?_,_,_,_,rfl⟩;rw[W];unfold fE;have z2:aZ ((accN p 0 (ks.take i) []).length+((aP q).filter λx=>!decide (some x=hid p i) && !decide (x∈accN p 0 (ks.take i) [])).length)=true:=decide_eq_true (by simp only[zbF]at l1;lia);generalize (aP q).filter (λx=>!decide (some x=hid p i) && !decide (x∈accN p 0 (ks.take i) []))=fl' at *;simp_all[-zar,turn,wi,dW,nn,SD,i5,z1,cn,z2]
 ·rintro ρ' ⟨J,M,G,rfl⟩
  rw[fB,zal,zbX];simp[-zac,-zab,aA,aB]
theorem xT(C:Bk):∀(m:Nat) (p:Pa),psz p<=m->psz p<=100->pL m (a9 C) (bI p)=some (dY C p)
 | 0,p,h,_=>by have:=dB p;lia
 | m+1,p,h,h1=>by
  have ih:∀q∈kids p,pL m (a9 C) (bI q)=some (dY C q):=λq B=>xT C m q (by have:=fX B;lia) (by have:=fX B;lia)
  have wi:=m9 p;have J:=Q7 C p h1;have M:(kids p).length<=3:=by cases p <;> simp_all[kids]
  have G:∀(l:List Pa) (o:Option D),(∀q∈l,pL m (a9 C) (bI q)=some (dY C q))->bA (aS 0) eY (eNew (pL m) (λ_=>some (a9 C)) (aD 0)) (l.map bI) [o]=some (l.map (dY C)):=λl=>by
   induction l with
   | nil=>exact λ_ _=>rfl
   | cons a l il=>
    intro o B;have e:=il (some (bI a)) λq h=>B q (zaq _ h)
    have F:=B a (zas ..);rw[zak,bA];simp_all[eNew,F,e]
  have z:aZ (kids p).length=true:=decide_eq_true (by lia);have c:=G (kids p) none ih;rw[tU];show GM CN _ eO (DM (a9 C)) (FF (a9 C)) (bI p)=_;unfold GM SM;have fb:d6 [none] (fQ (aT iR (aC (aD 1) aY))) (aS 0) eY (eNew (pL m) (λ_=>some (a9 C)) (aD 0)) [none,some (bI p)]=some (.lst ((kids p).map (dY C))):=by
   simp_all[wi,i5,z,c]
  rw[fb,aA,J,aA]
theorem O7(a:Sm):JD (memD a) .non=some (.bl a.isNone):=by
 cases a <;> rfl
theorem gE(a:Sm):dJ [memD a]=some (.int (nI a)):=by
 cases a with
 | none=>exact aL (by ac_rfl)
 | some p=>exact aL (by ac_rfl)
theorem LD(a b:Sm):mW [memD a,memD b]=some (memD (bU a b)):=by
 cases a with
 | none=>
  cases b with
  | none=>exact aL (by ac_rfl)
  | some q=>exact aL (by ac_rfl)
 | some p=>
  cases b with
  | none=>exact aL (by ac_rfl)
  | some q=>
   have e:(if q.2<p.2 then q.2 else p.2)=min p.2 q.2:=by split <;> lia
   exact aL (by simp_all[zA,aG,memD,bU,fP,at0,at1,A8,e])
theorem MV{a b:Sm}(z:∀p,a=some p->0<=p.1/\p.1<10^250)(B:∀p,b=some p->0<=p.1/\p.1<10^250):NC [memD a,memD b]=some (memD (i7 a b)):=by
 cases a with
 | none=>
  cases b with
  | none=>exact aL (by ac_rfl)
  | some q=>exact aL (by ac_rfl)
 | some p=>
  cases b with
  | none=>exact aL (by ac_rfl)
  | some q=>
   have h1:=z p rfl;have h2:=B q rfl;have m:cT (.int p.1) (.int q.1)=some (.int (p.1*q.1)):=cG (zem (by decide) h1.1) h1.2 (zem (by decide) h2.1) h2.2;exact aL (by simp_all[M9,aG,memD,i7,fP,at0,at1,m])
def bP(C:Bk):Pa->List D
 | .use1 nm _=>(nN C nm 1).map λ(v:Nat)=>.int (v:Int)
 | .use2 nm _ _=>(nN C nm 2).map λ(v:Nat)=>.int (v:Int)
 | .lett _ _ _=>(zam C.kinds.length).map λ(v:Nat)=>.int (v:Int)
 | _=>[.non]
noncomputable def BB(p:Mk->Bool):Nat->List Mk->List Nat
 | _,[]=>[]
 | k,m::ms=>if p m then k::BB p (k+1) ms else BB p (k+1) ms
theorem EO(p:Mk->Bool):∀(ms:List Mk) (k:Nat),BB p k ms=((zam ms.length).filter λv=>match ms[v]? with
 | some m=>p m
 | none=>false).map (·+k)
 | [],k=>rfl
 | m::ms,k=>by
  rw[BB,EO p ms (k+1),zaz,List.range_succ_eq_map,zcC,List.filter_map];have e:(λv=>match (m::ms)[v]? with
   | some m=>p m
   | none=>false) ∘ Nat.succ=λv=>match ms[v]? with
   | some m=>p m
   | none=>false:=by funext v;rfl
  rw[e];have q:∀L:List Nat,((L.map Nat.succ).map (·+k))=L.map (·+(k+1)):=λL=>by
   rw[zar];congr 1;funext v;show v.succ+k=v+(k+1);lia
  show _=List.map (·+k) (if p m=true then _ else _);cases hp:p m with
  | true=>rw[if_pos rfl,if_pos rfl,zak,q,zaO]
  | false=>rw[if_neg zaA,if_neg zaA,q]
theorem nU{nm:Str}{l:List D}{pd:D}(h1:aJ pd (.int 1)=some (.str nm))(h2:aJ pd (.int 2)=some (.tup l)):∀(ms:List Mk) (k:Nat) (o o1:Option D),bA (kQ 2 (eG (aS 0) (eG (aS 1) tY))) (JA (nO (a7 i4 (a7 aJ (aD 1) (eC (.int 0))) (a7 aJ (aD 2) (eC (.int 1))))) (nO (a7 i4 (aT gB (aC (a7 aJ (aD 1) (eC (.int 1))) aY)) (aT gB (aC (a7 aJ (aD 2) (eC (.int 2))) aY))))) (aD 0) (f7 k (ms.map kD)) [o,o1,some pd]=some ((BB (λm=>decide (m.nm=nm) && decide (m.takes.length=l.length)) k ms).map λ(v:Nat)=>.int (v:Int))
 | [],k,o,o1=>rfl
 | m::ms,k,o,o1=>by
  have ih:=nU h1 h2 ms (k+1) (some (.int (k:Int))) (some (kD m));have q:gB [tupI m.takes]=some (.int (m.takes.length:Int)):=by simp_all[tupI]
  rw[zak,f7,bA,BB];generalize (BB (λm=>decide (m.nm=nm) && decide (m.takes.length=l.length)) (k+1) ms)=R at *;by_cases B:m.nm=nm
  ·by_cases F:m.takes.length=l.length
   ·simp_all[-zar,turn,DJ,yC,h1,h2,q,B,F,ih]
   ·have z:¬ (m.takes.length:Int)=(l.length:Int):=by lia
    simp_all[-zar,turn,DJ,yC,h1,h2,q,B,F,z,ih]
  ·simp_all[-zar,turn,DJ,yC,h1,h2,q,B,ih]
theorem AZ(C:Bk)(nm:Str)(n:Nat):BB (λm=>decide (m.nm=nm) && decide (m.takes.length=n)) 0 C.makes=nN C nm n:=by
 rw[EO,show(λx:Nat=>x+0)=id from rfl,List.map_id];rfl
theorem vM{C:Bk}(B:OkB C)(p:Pa):fS [a9 C,bI p]=some (.lst (bP C p)):=by
 have G:=B.k6;have J:=B.ml;have F:aZ C.makes.length=true:=decide_eq_true (by lia);have z:xZ (.int (C.kinds.length:Int))=some (.lst (aQ 0 1 C.kinds.length)):=by
  have:=OG (i:=(C.kinds.length:Int)) (by lia) (by lia)
  rwa [zbz]at this
 cases p with
 | name x=>exact aL (by simp_all[eK,aG,bI,bP,at0,oA,jY])
 | num n j=>exact aL (by simp_all[eK,aG,bI,bP,at0,lC,iW])
 | use1 nm p=>
  have c:=nU (pd:=bI (.use1 nm p)) (nm:=nm) (l:=[bI p]) (by rw[bI,q_itT];exact at1) (by rw[bI,q_itT];exact at2) C.makes 0 none none;rw[List.length_singleton,AZ]at c;simp only[bI]at c;exact aL (by simp_all[-zar,eK,aG,bI,bP,at0,uO,i5,F,fB,c])
 | use2 nm p q=>
  have c:=nU (pd:=bI (.use2 nm p q)) (nm:=nm) (l:=[bI p,bI q]) (by rw[bI,q_itT];exact at1) (by rw[bI,q_itT];exact at2) C.makes 0 none none;rw[show([bI p,bI q]:List D).length=2 from rfl,AZ]at c;simp only[bI]at c;exact aL (by simp_all[-zar,eK,aG,bI,bP,at0,uO,i5,F,fB,c])
 | lett x p q=>
  have er:aQ 0 1 C.kinds.length=(zam C.kinds.length).map λ(v:Nat)=>D.int (v:Int):=by
   rw[oH,zar];rfl
  rw[er]at z;exact aL (by simp_all[-zar,eK,aG,bI,bP,at0,lI,BD,z])
 | pick c k p q r=>exact aL (by simp_all[eK,aG,bI,bP,at0,lB,iX])
 | again n k x p q=>exact aL (by simp_all[eK,aG,bI,bP,at0,lG,fZ])
theorem CK{C:Bk}{d:List (Key×D)}{x:Str}{j:Int}{k c:D}(h:eZ d (.inr x:Key)=some (.int j)):bL [a9 C,.dK d,bI (.name x),k,c]=some (.int j):=by
 have e:=TQ h;exact aL (by simp_all[cH,aG,bI,at0,at1,e])
theorem HN{C:Bk}{d:List (Key×D)}{n j:Int}{k c:D}:bL [a9 C,.dK d,bI (.num n j),k,c]=some (.int j):=
 aL (by simp_all[cH,aG,bI,at0,at2,lC,iW,(by decide:¬ ("number" : Str) = "name")])
theorem EQ:¬ ("use" : Str) = "name" := by decide
theorem BO{C:Bk}{d:List (Key×D)}{nm:Str}{p:Pa}{k:D}{v:Nat}{m:Mk}(h:C.makes[v]?=some m):bL [a9 C,.dK d,bI (.use1 nm p),k,.int (v:Int)]=some (.int m.g):=by
 have e:=kO h;exact aL (by simp_all[-zar,cH,aG,bI,at0,EQ,uO,e,IU])
theorem CU{C:Bk}{d:List (Key×D)}{nm:Str}{p q:Pa}{k:D}{v:Nat}{m:Mk}(h:C.makes[v]?=some m):bL [a9 C,.dK d,bI (.use2 nm p q),k,.int (v:Int)]=some (.int m.g):=by
 have e:=kO h;exact aL (by simp_all[-zar,cH,aG,bI,at0,EQ,uO,e,IU])
theorem IF{C:Bk}{d:List (Key×D)}{x:Str}{p q:Pa}{k c:D}:bL [a9 C,.dK d,bI (.lett x p q),k,c]=some k:=
 aL (by simp_all[cH,aG,bI,at0,lI,(by decide:¬ ("let" : Str) = "name")])
theorem CW{C:Bk}{d:List (Key×D)}{B z:Int}{p q r:Pa}{k c:D}:bL [a9 C,.dK d,bI (.pick B z p q r),k,c]=some (.int z):=
 aL (by simp_all[cH,aG,bI,at0,at2,lB,iX,(by decide:¬ ("pick" : Str) = "name")])
theorem yW{C:Bk}{d:List (Key×D)}{n z:Int}{x:Str}{p q:Pa}{k c:D}:bL [a9 C,.dK d,bI (.again n z x p q),k,c]=some (.int z):=
 aL (by simp_all[cH,aG,bI,at0,at2,lG,fZ,(by decide:¬ ("again" : Str) = "name")])
theorem HV{C:Bk}{x:Str}{k c:D}:bT [a9 C,bI (.name x),k,c]=some (tupI []):=aL (by simp_all[b6,aG,bI,at0,oA,jY,wQ,mO,tupI])
theorem J0{C:Bk}{n j:Int}{k c:D}:bT [a9 C,bI (.num n j),k,c]=some (tupI []):=aL (by simp_all[b6,aG,bI,at0,lC,iW,wU,mP,tupI])
theorem HX{C:Bk}{nm:Str}{p:Pa}{k:D}{v:Nat}{m:Mk}(h:C.makes[v]?=some m):bT [a9 C,bI (.use1 nm p),k,.int (v:Int)]=some (tupI m.takes):=by
 have e:=kO h;exact aL (by simp_all[-zar,b6,aG,bI,at0,uO,e,yC])
theorem GT{C:Bk}{nm:Str}{p q:Pa}{k:D}{v:Nat}{m:Mk}(h:C.makes[v]?=some m):bT [a9 C,bI (.use2 nm p q),k,.int (v:Int)]=some (tupI m.takes):=by
 have e:=kO h;exact aL (by simp_all[-zar,b6,aG,bI,at0,uO,e,yC])
theorem LP{C:Bk}{x:Str}{p q:Pa}{k j:Int}:bT [a9 C,bI (.lett x p q),.int k,.int j]=some (tupI [j,k]):=aL (by simp_all[b6,aG,bI,at0,lI,tupI])
theorem G0{C:Bk}{B z:Int}{p q r:Pa}{k c:D}:bT [a9 C,bI (.pick B z p q r),k,c]=some (tupI [B,z,z]):=aL (by simp_all[b6,aG,bI,at0,at1,at2,lB,iX,tupI])
theorem B4{C:Bk}{n z:Int}{x:Str}{p q:Pa}{k c:D}:bT [a9 C,bI (.again n z x p q),k,c]=some (tupI [z,z]):=aL (by simp_all[b6,aG,bI,at0,at2,lG,fZ,xJ,tupI])
def DW(C:Bk)(hd:Nat->D):Nat->List Pa->List Int->List D
 | i,q::l,k::ks=>.tup [dY C q,hd i,.int k]::DW C hd (i+1) l ks
 | _,_,_=>[]
theorem AD{C:Bk}{hd:Nat->D}:∀(l:List Pa) (ks:List Int) (j i:Nat) (q:Pa) (k:Int),l[i]?=some q->ks[i]?=some k->DW C hd j (l.take (i+1)) ks=DW C hd j (l.take i) ks++[.tup [dY C q,hd (j+i),.int k]]
 | [],ks,j,i,q,k,h,_=>by simp[-zac,-zab,aA,aB]at h
 | a::l,[],j,i,q,k,_,h=>by simp[-zac,-zab,aA,aB]at h
 | a::l,b::ks,j,0,q,k,h,h'=>by
  have B:a=q:=by simpa using h
  have z:b=k:=by simpa using h'
  subst B z;rfl
 | a::l,b::ks,j,i+1,q,k,h,h'=>by
  have ih:=AD (C:=C) (hd:=hd) l ks (j+1) i q k (by simpa using h) (by simpa using h');rw[zct,zct,DW,DW,ih,show j+1+i=j+(i+1) by lia];rfl
theorem EZ{C:Bk}{hd:Nat->D}:∀(l:List Pa) (ks:List Int) (j:Nat),(DW C hd j l ks).length<=l.length
 | [],ks,j=>by cases ks <;> simp_all[DW]
 | a::l,[],j=>by ac_rfl
 | a::l,b::ks,j=>by have:=EZ (C:=C) (hd:=hd) l ks (j+1);simp only[DW,zaz];lia
theorem RF{C:Bk}{at_:D}{p:Pa}{d:List (Key×D)}{k c:D}{ks:List Int}{hd:Nat->D}(hb:yG CA "book" at_=some (a9 C))(hk:bT [a9 C,bI p,k,c]=some (tupI ks))(hl:(kids p).length<=ks.length)(hh:∀i,i<(kids p).length->dF [.dK d,bI p,.int (i:Int),c]=some (hd i)):kG [at_,dY C p,.dK d,k,c]=some (.lst (DW C hd 0 (kids p) ks)):=by
 refine aL ?_;unfold FH;have U:=nB C p;have nb:=KG C p;have h3:(kids p).length<=3:=by cases p <;> simp_all[kids]
 generalize kids p=l at *;generalize dY C p=nd at *;generalize bI p=pd at *;rw[aF (aM (d:=tupI ks) (by ac_rfl))];rw[aF (aM (d:=.lst []) (by simp[-zac,-zab,aA,aB]))];refine iS (items:=f7 0 (l.map (dY C))) (by ac_rfl) (λi ρ=>∃G J,ρ=[some at_,some nd,some (.dK d),some k,some c,some (tupI ks),some (.lst (DW C hd 0 (l.take i) ks)),G,J]) ⟨none,none,by ac_rfl⟩ ?_ ?_
 ·rintro i y ρ hy ⟨G,J,rfl⟩
  obtain⟨z,N,rfl⟩:=gW hy;rw[zaB]at N;obtain⟨q,M,rfl⟩:=map_some N;rw[zaO];have hi:=(List.getElem?_eq_some_iff.mp M).1;obtain⟨F,B⟩:∃F,ks[i]?=some F:=⟨ks[i],zaS (by lia)⟩;have e:=AD (C:=C) (hd:=hd) l ks 0 i q F M B;rw[zaO]at e;have hx:=hh i hi;have Y:fL (ks.map D.int) (i:Int)=some (.int F):=bV (by rw[zaB,B];rfl);have ln:=EZ (C:=C) (hd:=hd) (l.take i) ks 0;have W:aZ (DW C hd 0 (l.take i) ks).length=true:=decide_eq_true (by rw[zb8]at ln;lia);refine⟨[some at_,some nd,some (.dK d),some k,some c,some (tupI ks),some (.lst (DW C hd 0 (l.take (i+1)) ks)),some (.int (i:Int)),some (dY C q)],?_,_,_,rfl⟩;rw[e];generalize DW C hd 0 (l.take i) ks=sp at *;simp_all[-zar,turn,dW,U,hx,tupI,Y,W]
 ·rintro ρ' ⟨G,J,rfl⟩
  rw[fB,zal,zbX];simp[-zac,-zab,aA,aB]
def Small(a:Sm):Prop:=∀p,a=some p->0<=p.1/\p.1<10^250
def SX(C:Bk)(p:Pa)(c:D)(own:Int):Prop:=(R5 p = "use" /\ ∃(v:Nat) (m:Mk),c=.int (v:Int)/\C.makes[v]?=some m/\own=m.pr)\/(¬ R5 p = "use" /\ own=0)
theorem LG(a:Sm):GA (memD a) .non=some (.bl a.isSome):=by cases a <;> rfl
theorem SO{L:LT}{j k:Int}{e:D}(h:eZ L ([.inl j,.inl k]:List Key)=some e):aJ (.dT L) (.tup [.int j,.int k])=some e:=by
 show(some (eZ L ([.inl j,.inl k]:List Key))).join=_;rw[h];rfl
theorem wL{C:Bk}{at_:D}{L2:LT}{p:Pa}{d:List (Key×D)}{k j own:Int}{c:D}{R:List D->Option D}{Rs:List (D×D×D×Sm)}(hb:yG CA "book" at_=some (a9 C))(hs:yG CA "spans" at_=some (.dT L2))(hv:eZ L2 ([.inl j,.inl k]:List Key)=some (memD (DU C j k)))(ho:SX C p c own)
  (hg:bL [a9 C,.dK d,bI p,.int k,c]=some (.int j)) (G:kG [at_,dY C p,.dK d,.int k,c]=some (.lst (Rs.map λr=>.tup [r.1,r.2.1,r.2.2.1]))) (hR:∀r∈Rs,R [at_,r.1,r.2.1,r.2.2.1]=some (memD r.2.2.2)) (h0:Small (DU C j k)) (h1:∀r∈Rs,Small r.2.2.2) (h2:∀i,Small (csum C own j k ((Rs.map (·.2.2.2)).take i))) :
  bG 10 (cJ R) [at_,dY C p,.dK d,.int k,c]=some (memD (csum C own j k (Rs.map (·.2.2.2)))):=by
 refine aL ?_;unfold cJ;have U:=nB C p;have tg:=MR p;generalize dY C p=nd at *;have e1:(XH (nO (a7 i4 (a7 aJ (dW CN "part" (aD 1)) (eC (.int 0))) (eC (.str "use")))) (a7 aJ (a7 aJ (a7 aJ (dW CA "book" (aD 0)) (eC (.int 3))) (aD 4)) (eC (.int 4))) (eC (.int 0))) (aG 10 [at_,nd,.dK d,.int k,c])=some (.int own):=by
  rcases ho with⟨t,v,m,rfl,q,rfl⟩|⟨t,rfl⟩
  ·have e:=kO q
   ac_rfl
  ·ac_rfl
 rw[aF (aM (d:=.int own) e1)];have N:=MV (a:=some (1,own)) (b:=DU C j k) (λp G=>by cases G;exact⟨(by decide:(0:Int)<=1),(by decide:(1:Int)<10^250)⟩) h0;have Y:memD (some (1,own))=.tup [.int 1,.int own]:=rfl;rw[Y]at N;have es:=SO hv;rw[aF (aM (d:=memD (csum C own j k [])) (by simp_all[aG,dW,U,hb,hs,hg,es,N,csum]))];refine iS (items:=Rs.map λr=>.tup [r.1,r.2.1,r.2.2.1]) (by ac_rfl) (λi ρ=>∃B F z,ρ=[some at_,some nd,some (.dK d),some (.int k),some c,some (.int own),some (memD (csum C own j k ((Rs.map (·.2.2.2)).take i))),B,F,z]) ⟨none,none,none,by ac_rfl⟩ ?_ ?_
 ·rintro i y ρ J ⟨B,F,z,rfl⟩
  rw[zaB]at J;obtain⟨r,M,rfl⟩:=map_some J;have q:=zaw M;have er:=hR r q;have W:(Rs.map (·.2.2.2)).take (i+1)=(Rs.map (·.2.2.2)).take i++[r.2.2.2]:=by
   rw[zc5,zaB,M];rfl
  have ec:csum C own j k ((Rs.map (·.2.2.2)).take (i+1))=i7 (csum C own j k ((Rs.map (·.2.2.2)).take i)) r.2.2.2:=by
   rw[W];unfold csum;rw[List.foldl_append];rfl
  have bb:=MV (h2 i) (h1 r q);have nn:=LG (csum C own j k ((Rs.map (·.2.2.2)).take i));refine⟨[some at_,some nd,some (.dK d),some (.int k),some c,some (.int own),some (memD (csum C own j k ((Rs.map (·.2.2.2)).take (i+1)))),some r.1,some r.2.1,some r.2.2.1],?_,_,_,_,rfl⟩;rw[ec];generalize csum C own j k ((Rs.map (·.2.2.2)).take i)=t at *;cases t with
  | none=>
   have i0:fP (memD none)=true:=rfl
   ac_rfl
  | some t=>
   have i0:fP (memD (some t))=false:=rfl
   ac_rfl
 ·rintro ρ' ⟨B,F,z,rfl⟩
  rw[zal,zbZ (by rw[zal];exact zai _)];simp[-zac,-zab,aA,aB]
theorem CG(l:List Int):intsOf (l.map .int)=some l:=by
 induction l with
 | nil=>rfl
 | cons i l ih=>show(intsOf (l.map .int)).map (i::·)=_;rw[ih];rfl
theorem qJ{d:List (Key×D)}{e:eM}:∀(l:List Str) (o:Option D),(∀x∈l,eZ d (.inr x:Key)=some (.int (e x)))->bA (aS 0) eY (a7 aJ (aD 1) (aD 0)) (l.map .str) [o,some (.dK d)]=some ((l.map e).map .int)
 | [],o,_=>rfl
 | x::l,o,h=>by
  have ih:=qJ l (some (.str x)) λy q=>h y (zaq _ q)
  have z:=TQ (h x (zas ..));rw[zak,bA];simp_all[-zar,z,ih]
theorem BY{C:Bk}(B:OkB C){at_:D}{p:Pa}{d:List (Key×D)}{k:Int}{e:eM}{R:List D->Option D}{f:D->Sm}(hb:yG CA "book" at_=some (a9 C))(hk:0<=k/\k<(C.kinds.length:Int))(hd:∀x∈aP p,eZ d (.inr x:Key)=some (.int (e x)))(he:∀x∈aP p,0<=e x/\e x<(C.kinds.length:Int))(U:(aP p).length<=8)
  (G:∀c∈bP C p,bG 10 (cJ R) [at_,dY C p,.dK d,.int k,c]=some (memD (f c))) (Y:(bP C p).foldl (λt c=>bU t (f c)) none=aR C p e k):bG 7 (gZ R) [at_,dY C p,.dK d,.int k]=some (memD (aR C p e k)):=by
 refine aL ?_;unfold gZ;have F:=nB C p;have nn:=zM C p;have nf:=KN C p;have wc:=vM B p;have M:=qJ (d:=d) (e:=e) (aP p) none hd;have z1:aZ (aP p).length=true:=decide_eq_true (by lia);have J:nkD (.tup [.int k,.tup (((aP p).map e).map .int)])=some (.inl k,((aP p).map e).map .inl):=by
  show(intsOf _).map _=_;rw[CG];rfl
 have fk:=ZT C p k ((aP p).map e);have dm:=ZH (C:=C) (p:=p) (k:=k) (l:=(aP p).map e) hk (by rw[zal]) λj hj=>by
  obtain⟨x,hx,rfl⟩:=List.mem_map.mp hj;exact he x hx
 have W:=U6 (C:=C) (p:=p) B.k6 U;have cg:=cA C p (JC (aP p) ((aP p).map e)) e k λx hx=>y6 e hx
 rw[cg]at fk;generalize dY C p=nd at *;rw[aF (aM (d:=.tup [.int k,.tup (((aP p).map e).map .int)]) (by simp_all[-zar,aG,dW,nn,i5,z1,M]))];rw[show(aG 7 [at_,nd,.dK d,.int k]).set 4 (some (.tup [.int k,.tup (((aP p).map e).map .int)]))=[some at_,some nd,some (.dK d),some (.int k),some (.tup [.int k,.tup (((aP p).map e).map .int)]),none,none]from rfl];have lp:=xX (g:=aS 6) (b:=dX 5 (aT mW (aC (aD 5) (aC (aT (bG 10 (cJ R)) (aC (aD 0) (aC (aD 1) (aC (aD 2) (aC (aD 3) (aC (aD 6) aY)))))) aY)))) (items:=bP C p) (ρ:=[some at_,some nd,some (.dK d),some (.int k),some (.tup [.int k,.tup (((aP p).map e).map .int)]),some .non,none])
  (λi ρ => ∃q, ρ = [some at_, some nd, some (.dK d), some (.int k), some (.tup [.int k, .tup (((aP p).map e).map .int)]), some (memD (((bP C p).take i).foldl (λt c => bU t (f c)) none)), q]) ⟨none, rfl⟩ (by
   rintro i c ρ hi ⟨q,rfl⟩;have ec:=G c (zaw hi);have N:(bP C p).take (i+1)=(bP C p).take i++[c]:=by rw[zc5,hi];rfl
   have ee:=LD (((bP C p).take i).foldl (λt c=>bU t (f c)) none) (f c);refine⟨[some at_,some nd,some (.dK d),some (.int k),some (.tup [.int k,.tup (((aP p).map e).map .int)]),some (memD (((bP C p).take (i+1)).foldl (λt c=>bU t (f c)) none)),some c],?_,_,rfl⟩;rw[N,List.foldl_append];generalize ((bP C p).take i).foldl (λt c=>bU t (f c)) none=t at *;simp_all[-zar,turn,ec,ee])
 obtain⟨ρ',z,q,rfl⟩:=lp;rw[zbX,Y]at z;unfold S9;have f2:(BC (fQ (aT fS (aC (dW CA "book" (aD 0)) (aC (dW CN "part" (aD 1)) aY)))) (aS 6) (dX 5 (aT mW (aC (aD 5) (aC (aT (bG 10 (cJ R)) (aC (aD 0) (aC (aD 1) (aC (aD 2) (aC (aD 3) (aC (aD 6) aY)))))) aY))))) [some at_,some nd,some (.dK d),some (.int k),some (.tup [.int k,.tup (((aP p).map e).map .int)]),some .non,none]=some (.nx [some at_,some nd,some (.dK d),some (.int k),some (.tup [.int k,.tup (((aP p).map e).map .int)]),some (memD (aR C p e k)),q]):=by
  rw[q_for];have:fQ (aT fS (aC (dW CA "book" (aD 0)) (aC (dW CN "part" (aD 1)) aY))) [some at_,some nd,some (.dK d),some (.int k),some (.tup [.int k,.tup (((aP p).map e).map .int)]),some .non,none]=some (bP C p):=by simp_all[dW,hb,F,wc]
  rw[this];exact z
 have f1:(dX 5 (eC .non)) [some at_,some nd,some (.dK d),some (.int k),some (.tup [.int k,.tup (((aP p).map e).map .int)]),none,none]=some (.nx [some at_,some nd,some (.dK d),some (.int k),some (.tup [.int k,.tup (((aP p).map e).map .int)]),some .non,none]):=rfl;show(aD 1 [some at_,some nd,some (.dK d),some (.int k),some (.tup [.int k,.tup (((aP p).map e).map .int)]),none,none]).bind _=_;rw[show aD 1 [some at_,some nd,some (.dK d),some (.int k),some (.tup [.int k,.tup (((aP p).map e).map .int)]),none,none]=some nd from rfl,aA,nf,aA];dsimp only;rw[show aD 4 [some at_,some nd,some (.dK d),some (.int k),some (.tup [.int k,.tup (((aP p).map e).map .int)]),none,none]=some (.tup [.int k,.tup (((aP p).map e).map .int)])from rfl,aA,J,aA,f1,aA];dsimp only;rw[f2,aA];dsimp only;rw[show aD 5 [some at_,some nd,some (.dK d),some (.int k),some (.tup [.int k,.tup (((aP p).map e).map .int)]),some (memD (aR C p e k)),q]=some (memD (aR C p e k))from rfl,aA,if_pos ⟨dm,W,by rw[fk],rfl,rfl⟩]
theorem YH{s:Sv}{w:Gv}{x:D}{ρ q z:cU}(h:turn w s x ρ=some (.nx q))(k:q=z):turn w s x ρ=some (.nx z):=k ▸ h
theorem WK{k:Nat}{f:Ev}{ρ:cU}{xs ys:List D}(h:aD k ρ=some (.lst xs))(e:f ρ=some (.lst ys))(z:xs.length+ys.length<=1000000):SD k f ρ=some (.nx (ρ.set k (some (.lst (xs++ys))))):=by
 unfold SD;rw[h,aA];show(f ρ).bind _=_;rw[e,aA];exact if_pos (decide_eq_true z)
local macro_rules | `(tactic|ac_rfl) => `(tactic|(with_reducible apply WK) <;> ac_rfl)
theorem NA{C:Bk}{M many k:Int}(g:GR M many C.rs):∀(n:Nat) (x:Int),k-x<(n:Int)->0<n->k-x<=5->gC 6 lH n [a9 C,.int x,.int k]=some (.lst ((bS C.rs k n x).map tupI))
 | 0,x,_,h,_=>absurd h (zb4 0)
 | n+1,x,hn,_,h5=>by
  have IH:∀y:Int,k-y<(n:Int)->0<n->k-y<=5->gC 6 lH n [a9 C,.int y,.int k]=some (.lst ((bS C.rs k n y).map tupI)):=λy=>NA g n y
  show bG 6 (lH (gC 6 lH n)) _=_;generalize gC 6 lH n=R at IH ⊢;refine aL ?_;unfold lH bS;by_cases e:x=k
  ·rw[if_pos e]
   ac_rfl
  rw[if_neg e];rw[aF (ρ':=aG 6 [a9 C,.int x,.int k]) (by ac_rfl)];rw[aF (aM (d:=.lst []) (by simp[-zac,-zab,aA,aB]))];refine iS (items:=f7 0 (C.rs.map kR)) (by ac_rfl) (λi ρ=>∃U G,ρ=[some (a9 C),some (.int x),some (.int k),some (.lst ((fl (λi r=>if r.j=x/\r.k<=k then(bS C.rs k n r.k).map λw=>(i:Int)::w else []) 0 (C.rs.take i)).map tupI)),U,G]) ⟨none,none,by ac_rfl⟩ ?_ ?_
  ·rintro i y ρ hy ⟨U,G,rfl⟩
   obtain⟨z,Y,rfl⟩:=gW hy;rw[zaB]at Y;obtain⟨r,J,rfl⟩:=map_some Y;rw[zaO];have gr:=g.jk r (zaw J);have hi:i<C.rs.length:=(List.getElem?_eq_some_iff.mp J).1;have gl:=g.len;refine⟨[some (a9 C),some (.int x),some (.int k),some (.lst ((fl (λi r=>if r.j=x/\r.k<=k then(bS C.rs k n r.k).map λw=>(i:Int)::w else []) 0 (C.rs.take (i+1))).map tupI)),some (.int (i:Int)),some (kR r)],?_,_,_,rfl⟩;rw[PL J];by_cases q:r.j=x/\r.k<=k
   ·have F:(fl (λi r=>if r.j=x/\r.k<=k then(bS C.rs k n r.k).map λw=>(i:Int)::w else []) 0 (C.rs.take i)).length<=12*12^4:=by
     refine zaL (jP (B:=12^4) λt W er=>?_) (Nat.mul_le_mul_right _ (by simp[-zac,-zab,aA,aB];lia));split
     ·rw[zal]
      have N:C.rs[t]?=some W:=by rw[List.getElem?_take]at er;split at er;exact er;cases er
      have ac:=g.jk W (zaw N);exact mL g n W.k 4 (by lia)
     ·exact zaI _
    rw[if_pos q];generalize fl (λi r=>if r.j=x/\r.k<=k then(bS C.rs k n r.k).map λw=>(i:Int)::w else []) 0 (C.rs.take i)=told at F;have ih:=IH r.k (by lia) (by lia) (by lia);have al:=mL g n r.k 4 (k:=k) (by lia);have cm:=qL (t:=(i:Int)) (bS C.rs k n r.k) none λw hw=>by
     have:=jV g (iJ hw);lia
    have z1:((bS C.rs k n r.k).map tupI).length<=1000000:=by rw[zal];lia
    have z2:(told.map tupI).length+(((bS C.rs k n r.k).map λw=>(i:Int)::w).map tupI).length<=1000000:=by rw[zal,zal,zal];lia
    obtain⟨c1,c2⟩:=q;rw[zaP];apply YH
    ·ac_rfl
    ·rfl
   ·rw[if_neg q,zbv]
    by_cases h1:r.j=x
    ·have h2:¬ r.k<=k:=λz=>q ⟨h1,z⟩
     ac_rfl
    ·ac_rfl
  ·rintro ρ' ⟨U,G,rfl⟩
   rw[fB,zal,zbX];simp[-zac,-zab,aA,aB]
theorem yV{C:Bk}{w:List Int}(h:∀n∈w,∃r,i8 C.rs n=some r)(z:w.length<=100):jE [a9 C,tupI w]=some (.int (dH C.rs w)):=by
 obtain⟨ns,e,hs⟩:=vC h;have q:aZ w.length=true:=decide_eq_true (by lia);refine aL ?_;simp_all[oV,aG,tupI,i5,q,e,hs]
theorem pG{C:Bk}:∀(ws:List (List Int)) (o:Option D),(∀w∈ws,(∀n∈w,∃r,i8 C.rs n=some r)/\w.length<=100)->bA (aS 0) eY (aT jE (aC (aD 1) (aC (aD 0) aY))) (ws.map tupI) [o,some (a9 C)]=some ((ws.map (dH C.rs)).map .int)
 | [],o,_=>rfl
 | w::ws,o,h=>by
  have ih:=pG ws (some (tupI w)) λv q=>h v (zaq _ q)
  have e:=yV (h w (zas ..)).1 (h w (zas ..)).2;rw[zak,bA];simp_all[-zar,e,ih]
theorem BQ{C:Bk}(B:OkB C){j k:Int}(M:0<=j)(k1:k<(C.kinds.length:Int)):cN [a9 C,.lst ((bS C.rs k 8 j).map tupI)]=some (memD (DU C j k)):=by
 have J:=B.k6;have G:=mL B.gr (k:=k) 8 j 5 (by lia);have hw:∀w∈bS C.rs k 8 j,(∀n∈w,∃r,i8 C.rs n=some r)/\w.length<=100:=λw hw=>by
  have g:=iJ hw;have:=jV B.gr g;exact⟨gS g,by lia⟩
 have c:=pG (bS C.rs k 8 j) none hw;have z:aZ (bS C.rs k 8 j).length=true:=decide_eq_true (by lia);refine aL ?_;unfold qV DU;generalize bS C.rs k 8 j=ws at *;rw[aF (aM (d:=.lst ((ws.map (dH C.rs)).map .int)) (by simp_all[-zar,aG,i5,z,c]))];by_cases h:ws.length=0
 ·rw[if_pos h]
  have:ws=[]:=List.length_eq_zero_iff.mp h;subst this
  ac_rfl
 ·rw[if_neg h]
  have e:=PV (ns:=ws.map (dH C.rs)) (λz=>h (by rw[zen]at z;rw[z];rfl));have F:(0:Int)<(ws.length:Int):=by lia
  have q:¬ ws=[]:=λz=>h (by rw[z];rfl)
  simp_all[-zar,aG,e,F,q,memD]
theorem nV{z:Type}{f:D->z->Option z}(I:Nat->z->Prop):∀(l:List D) (k:Nat) (a:z),I k a->(∀i x a,l[i]?=some x->I (k+i) a->∃q,f x a=some q/\I (k+i+1) q)->∃q,kP f l a=some q/\I (k+l.length) q
 | [],k,a,h,_=>⟨a,rfl,h⟩
 | x::l,k,a,h,s=>by
  obtain⟨M,N,h1⟩:=s 0 x a rfl h;obtain⟨B,F,h2⟩:=nV I l (k+1) M h1 λi y b G J=>by
   have:=s (i+1) y b (by simpa using G) (by rw[show k+(i+1)=k+1+i by lia];exact J);rw[show k+(i+1)+1=k+1+i+1 by lia]at this;exact this
  refine⟨B,?_,by rw[zaz,show k+(l.length+1)=k+1+l.length by lia];exact h2⟩;show(f x a).bind (kP f l)=some B;rw[N];exact F
theorem zP{l:LT}{k:List Key}{e:D}:(putD l k e).length<=l.length+1:=by
 unfold putD;split <;> simp[-zac,-zab,aA,aB]
def IY(C:Bk)(P:Int->Int->Prop)(p:LT×LT):Prop:=∀j k,P j k->eZ p.1 ([.inl j,.inl k]:List Key)=some (.lst ((bS C.rs k 8 j).map tupI))/\eZ p.2 ([.inl j,.inl k]:List Key)=some (memD (DU C j k))
theorem QG{C:Bk}(B:OkB C):∃M L2,tJ CA gA gQ cN (a9 C)=some (.ob CA [("book",a9 C),("routes",.dT M),("spans",.dT L2)])/\IY C (λj k=>(0<=j/\j<(C.kinds.length:Int))/\0<=k/\k<(C.kinds.length:Int)) (M,L2):=by
 have k6:=B.k6;have g:gA (a9 C)=some (aQ 0 1 C.kinds.length):=by
  unfold gA;simp_all[BD,b8 (show C.kinds.length<=1000000 by lia)]
 have step:∀(j k:Int) (p:LT×LT),(0<=j/\j<(C.kinds.length:Int))->(0<=k/\k<(C.kinds.length:Int))->p.1.length<=100->p.2.length<=100->lK gQ cN (a9 C) (.int j) (.int k) p=some (putD p.1 ([.inl j,.inl k]:List Key) (.lst ((bS C.rs k 8 j).map tupI)),putD p.2 ([.inl j,.inl k]:List Key) (memD (DU C j k))):=λj k p W hk l1 J=>by
  have w:gQ [a9 C,.int j,.int k]=some (.lst ((bS C.rs k 8 j).map tupI)):=NA B.gr 8 j (by lia) (by decide) (by lia);have ws:=BQ B W.1 hk.2;unfold lK;rw[w,aA,show TY (.tup [.int j,.int k])=some ([.inl j,.inl k]:List Key)from rfl,aA,if_pos ⟨decide_eq_true (by lia),decide_eq_true (by lia)⟩,qA,if_pos rfl,aA,ws];rfl
 have inner:∀(j:Nat) (p:LT×LT),j<C.kinds.length->p.1.length<=6*j->p.2.length<=6*j->IY C (λa b=>(0<=a/\a<(j:Int))/\0<=b/\b<(C.kinds.length:Int)) p->∃p',kP (lK gQ cN (a9 C) (.int (j:Int))) (aQ 0 1 C.kinds.length) p=some p'/\p'.1.length<=6*(j+1)/\p'.2.length<=6*(j+1)/\IY C (λa b=>(0<=a/\a<((j+1:Nat):Int))/\0<=b/\b<(C.kinds.length:Int)) p':=λj p W l1 J ok=>by
  obtain⟨p',e,a1,a2,N⟩:=nV (f:=lK gQ cN (a9 C) (.int (j:Int))) (λi q=>q.1.length<=6*j+i/\q.2.length<=6*j+i/\IY C (λa b=>((0<=a/\a<(j:Int))/\0<=b/\b<(C.kinds.length:Int))\/(a=(j:Int)/\0<=b/\b<(i:Int))) q) (aQ 0 1 C.kinds.length) 0 p ⟨l1,J,λa b h=>by rcases h with h|h;exact ok a b h;lia⟩ (by
   intro i x q hx ⟨U,Y,G⟩;obtain⟨F,rfl⟩:=bX hx;rw[zaO]at *;rw[show(0:Int)+(i:Int)*1=(i:Int) by lia];have ak:=zP (l:=q.1) (k:=([.inl (j:Int),.inl (i:Int)]:List Key)) (e:=.lst ((bS C.rs (i:Int) 8 (j:Int)).map tupI));have ae:=zP (l:=q.2) (k:=([.inl (j:Int),.inl (i:Int)]:List Key)) (e:=memD (DU C (j:Int) (i:Int)));refine⟨_,step (j:Int) (i:Int) q ⟨by lia,by lia⟩ ⟨by lia,by lia⟩ (by lia) (by lia),by simp only;lia,by simp only;lia,λa b h=>?_⟩;simp only[qA];by_cases z:a=(j:Int)/\b=(i:Int)
   ·rw[z.1,z.2,if_pos rfl,if_pos rfl];exact⟨rfl,rfl⟩
   ·have ne:¬ ([.inl a,.inl b]:List Key)=[.inl (j:Int),.inl (i:Int)]:=λq=>z (by simpa using q)
    rw[if_neg ne,if_neg ne];refine G a b ?_;rcases h with h|h
    ·exact .inl h
    ·exact .inr ⟨h.1,h.2.1,by lia⟩)
  rw[bH,zaO]at a1 a2 N;refine⟨p',e,by lia,by lia,λa b h=>N a b ?_⟩;by_cases z:a=(j:Int)
  ·exact .inr ⟨z,h.2⟩
  ·exact .inl ⟨⟨h.1.1,by lia⟩,h.2⟩
 obtain⟨p',e,_,_,ok⟩:=nV (f:=λj p=>(gA (a9 C)).bind λks=>kP (lK gQ cN (a9 C) j) ks p) (λi q=>q.1.length<=6*i/\q.2.length<=6*i/\IY C (λa b=>(0<=a/\a<(i:Int))/\0<=b/\b<(C.kinds.length:Int)) q) (aQ 0 1 C.kinds.length) 0 ([],[]) ⟨zai _,zai _,λa b h=>by lia⟩ (by
  intro i x q hx ⟨U,Y,G⟩;obtain⟨F,rfl⟩:=bX hx;rw[zaO]at *;rw[show(0:Int)+(i:Int)*1=(i:Int) by lia];obtain⟨p',e,c1,c2,c3⟩:=inner i q F U Y G;exact⟨p',by rw[g];exact e,c1,c2,c3⟩)
 rw[bH,zaO]at ok;refine⟨p'.1,p'.2,?_,ok⟩;unfold tJ;rw[g,aA,<- g,e];rfl
theorem u6{M many:Int}{rs:List Ro}(g:GR M many rs){k:Int}:∀(n:Nat) (x:Int),(bS rs k n x).length<=12^n
 | 0,x=>zaI _
 | n+1,x=>by
  unfold bS;split
  ·exact Nat.pos_of_ne_zero (zbt (Nat.pow_pos (by decide)))
  ·refine zaL (jP (B:=12^n) λi r q=>?_) ?_
   ·split
    ·rw[zal];exact u6 g n r.k
    ·exact zaI _
   ·rw[Nat.pow_succ,Nat.mul_comm];exact Nat.mul_le_mul_left _ g.len
noncomputable def TT(m:Nat):Int:=((10000000000^m:Nat):Int)
theorem MS(m n:Nat):TT (m+n)=TT m*TT n:=by unfold TT;rw[Nat.pow_add,Int.natCast_mul]
theorem N7{m n:Nat}(h:m<=n):TT m<=TT n:=Int.ofNat_le.mpr (Nat.pow_le_pow_right (by decide) h)
theorem GC(m:Nat):0<=TT m:=Int.natCast_nonneg _
def LeT(m:Nat)(a:Int):Prop:=0<=a/\a<=TT m
theorem LeT.mul{m n:Nat}{a b:Int}(h:LeT m a)(k:LeT n b):LeT (m+n) (a*b):=⟨zcY h.1 k.1,by rw[MS];exact Int.mul_le_mul h.2 k.2 k.1 (GC m)⟩
theorem LeT.mono{m n:Nat}{a:Int}(h:LeT m a)(k:m<=n):LeT n a:=⟨h.1,zcI h.2 (N7 k)⟩
theorem LeT.one:LeT 0 1:=⟨by decide,by unfold TT;exact zbL _⟩
theorem rY{a:Sm}{m:Nat}(h:LeT m (nI a))(q:m<=16):Small a:=λp z=>by
 subst z;have b:=(h.mono q).2;have c:TT 16<10^250:=by decide +kernel
 exact⟨h.1,Int.lt_of_le_of_lt b c⟩
noncomputable def cI:D->Int
 | .int v=>v
 | _=>0
def lN(C:Bk):Pa->D->Int
 | .use1 ..,c=>mpr C (cI c).toNat
 | .use2 ..,c=>mpr C (cI c).toNat
 | _,_=>0
def dE(C:Bk):Pa->eM->Int->D->Int
 | .name x,e,_,_=>e x
 | .num _ j,_,_,_=>j
 | .use1 ..,_,_,c=>dG C (cI c).toNat
 | .use2 ..,_,_,c=>dG C (cI c).toNat
 | .lett ..,_,k,_=>k
 | .pick _ k' ..,_,_,_=>k'
 | .again _ k' ..,_,_,_=>k'
def BJ(C:Bk):Pa->Int->D->List Int
 | .use1 ..,_,c=>[aU C (cI c).toNat 0]
 | .use2 ..,_,c=>[aU C (cI c).toNat 0,aU C (cI c).toNat 1]
 | .lett ..,k,c=>[cI c,k]
 | .pick c' k' ..,_,_=>[c',k',k']
 | .again _ k' ..,_,_=>[k',k']
 | _,_,_=>[]
def DS:Pa->D->Int
 | .lett ..,c=>cI c
 | .again _ k' ..,_=>k'
 | _,_=>0
def N3(p:Pa)(e:eM)(c:D)(i:Nat):eM:=match hid p i with
 | none=>e
 | some x=>eW e x (DS p c)
def JI(p:Pa)(d:List (Key×D))(c:D)(i:Nat):List (Key×D):=match hid p i with
 | none=>d
 | some x=>putD d (.inr x) (.int (DS p c))
abbrev Sb:=Pa×List (Key×D)×eM×Int
def DV(hd:Nat->List (Key×D))(ev:Nat->eM):Nat->List Pa->List Int->List Sb
 | i,q::l,k::ks=>(q,hd i,ev i,k)::DV hd ev (i+1) l ks
 | _,_,_=>[]
def nP(C:Bk)(s:Sb):Sm:=aR C s.1 s.2.2.1 s.2.2.2
def sb(C:Bk)(p:Pa)(d:List (Key×D))(e:eM)(k:Int)(c:D):List Sb:=DV (JI p d c) (N3 p e c) 0 (kids p) (BJ C p k c)
def qE(C:Bk)(p:Pa)(d:List (Key×D))(e:eM)(k:Int)(c:D):Sm:=csum C (lN C p c) (dE C p e k c) k ((sb C p d e k c).map (nP C))
theorem nH(C:Bk)(p:Pa)(d:List (Key×D))(e:eM)(k:Int):(bP C p).foldl (λt c=>bU t (qE C p d e k c)) none=aR C p e k:=by
 cases p with
 | name x=>simp only[bP,aR,zcs,zdN];cases h:qE C (.name x) d e k .non <;> exact h.symm
 | num n j=>simp only[bP,aR,zcs,zdN];cases h:qE C (.num n j) d e k .non <;> exact h.symm
 | use1 nm p=>simp only[bP,aR,List.foldl_map];rfl
 | use2 nm p q=>simp only[bP,aR,List.foldl_map];rfl
 | lett x p q=>simp only[bP,aR,List.foldl_map];rfl
 | pick c' k' p q r=>simp only[bP,aR,zcs,zdN];cases h:qE C (.pick c' k' p q r) d e k .non <;> exact h.symm
 | again n k' x p q=>simp only[bP,aR,zcs,zdN];cases h:qE C (.again n k' x p q) d e k .non <;> exact h.symm
theorem iQ{hd:Nat->List (Key×D)}{ev:Nat->eM}:∀ {l:List Pa} {ks:List Int} {j i:Nat} {s:Sb},(DV hd ev j l ks)[i]?=some s->∃q k,l[i]?=some q/\ks[i]?=some k/\s=(q,hd (j+i),ev (j+i),k)
 | [],ks,j,i,s,h=>by cases ks <;> simp[-zac,-zab,aA,aB,DV]at h
 | q::l,[],j,i,s,h=>by simp[-zac,-zab,aA,aB,DV]at h
 | q::l,k::ks,j,0,s,h=>by
  have:(q,hd j,ev j,k)=s:=by simpa[DV]using h
  exact⟨q,k,rfl,rfl,this.symm⟩
 | q::l,k::ks,j,i+1,s,h=>by
  obtain⟨z,F,h1,h2,B⟩:=iQ (l:=l) (ks:=ks) (j:=j+1) (i:=i) (s:=s) (by simpa[DV]using h);exact⟨z,F,by simpa using h1,by simpa using h2,by rw[B,show j+1+i=j+(i+1) by lia]⟩
theorem xN{hd:Nat->List (Key×D)}{ev:Nat->eM}:∀ {l:List Pa} {ks:List Int} {j:Nat},l.length=ks.length->(DV hd ev j l ks).length=l.length
 | [],ks,j,h=>by cases ks <;> rfl
 | q::l,[],j,h=>by simp[-zac,-zab,aA,aB]at h
 | q::l,k::ks,j,h=>by rw[DV,zaz,zaz,xN (by simpa using h)]
theorem xF{hd:Nat->List (Key×D)}{ev:Nat->eM}:∀(l:List Pa) (ks:List Int) (j:Nat),((DV hd ev j l ks).map λs=>psz s.1).sum<=(l.map psz).sum
 | [],ks,j=>by cases ks <;> simp_all[DV]
 | q::l,[],j=>by simp_all[DV]
 | q::l,k::ks,j=>by
  have:=xF (hd:=hd) (ev:=ev) l ks (j+1);simp only[DV,zak,zbe];lia
theorem D3{C:Bk}{hd:Nat->List (Key×D)}{ev:Nat->eM}:∀(l:List Pa) (ks:List Int) (j:Nat),DW C (λi=>.dK (hd i)) j l ks=(DV hd ev j l ks).map λs=>.tup [dY C s.1,.dK s.2.1,.int s.2.2.2]
 | [],ks,j=>by cases ks <;> rfl
 | q::l,[],j=>rfl
 | q::l,k::ks,j=>by rw[DW,DV,zak,D3 l ks (j+1)]
theorem tV{C:Bk}{p:Pa}{d:List (Key×D)}{e:eM}{k:Int}{c:D}{s:Sb}(h:s∈sb C p d e k c):s.1∈kids p:=by
 obtain⟨i,hi⟩:=zcu h;obtain⟨q,z,h1,h2,rfl⟩:=iQ hi;exact zaw h1
theorem sC{C:Bk}:∀(l:List Sb) (i:Nat),(∀s∈l,LeT (psz s.1) (nI (nP C s)))->LeT (l.map λs=>psz s.1).sum (jA (((l.map (nP C)).take i).map nI))
 | [],i,_=>by simp only[zcB,List.take_nil,jA,List.sum_nil];exact .one
 | s::l,0,h=>by simp only[List.take_zero,zcB,jA];exact LeT.one.mono (zaI _)
 | s::l,i+1,h=>by
  simp only[zak,zct,jA,zbe];exact(h s (zas ..)).mul (sC l i λt q=>h t (zaq _ q))
theorem QJ{C:Bk}(B:OkB C)(p:Pa):(bP C p).length<=6:=by
 have z:=B.k6;have q:=B.ml;have u:∀nm n,(nN C nm n).length<=6:=λnm n=>by
  unfold nN;refine zaL (zc1 ..) ?_;rw[zcq];exact q
 cases p <;> simp_all[bP] <;> first|exact u _ _|lia
theorem XA{C:Bk}(B:OkB C)(j k:Int):((bS C.rs k 8 j).length:Int)<=429981696:=Int.ofNat_le.mpr (u6 B.gr 8 j)
theorem TL{C:Bk}(B:OkB C){own j k:Int}{l:List Sm}{m:Nat}(h:LeT m (jA (l.map nI))):0<=nI (csum C own j k l)/\nI (csum C own j k l)<=TT m*429981696:=by
 rw[eS,E8];have e:jA [((bS C.rs k 8 j).length:Int)]=((bS C.rs k 8 j).length:Int):=by simp_all[jA]
 rw[e];have a:=XA B j k;exact⟨zcY h.1 (by lia),Int.mul_le_mul h.2 a (by lia) (GC m)⟩
theorem MW{q:Type}{f:q->Int}{c:Int}:∀ {l:List q},(∀v∈l,f v<=c)->(l.map f).sum<=(l.length:Int)*c
 | [],_=>by simp[-zac,-zab,aA,aB]
 | a::l,h=>by
  have h1:=h a (zas ..);have h2:=MW (l:=l) λv z=>h v (zaq _ z)
  rw[zak,zbe,zaz,Int.natCast_succ,Int.add_mul];lia
theorem MO(m:Nat):TT (m+1)=TT m*10000000000:=by rw[MS];rfl
theorem qC{C:Bk}(B:OkB C):∀(n:Nat) (p:Pa),psz p<=n->∀(e:eM) (k:Int),LeT (psz p) (nI (aR C p e k))
 | 0,p,h,_,_=>by have:=dB p;lia
 | n+1,p,h,e,k=>by
  refine⟨cF C p e k,?_⟩;rw[<- nH C p [] e k,iP];have ks:=dB p;have G:=QJ B p;have q:∀c∈bP C p,nI (qE C p [] e k c)<=TT ((kids p).map psz).sum*429981696:=λc _=>by
   have a:=sC (C:=C) (sb C p [] e k c) (sb C p [] e k c).length λs hs=>qC B n s.1 (by have:=fX (tV hs);lia) _ _
   rw[zbZ (by rw[zal];exact zai _)]at a;exact(TL B (a.mono (xF ..))).2
  have:=MW q;rw[<- ks,MO];have z:=GC ((kids p).map psz).sum;generalize TT ((kids p).map psz).sum=T at *;have F:((bP C p).length:Int)*(T*429981696)<=6*(T*429981696):=zeu (by lia) (by lia);rw[show nI (none:Sm)=0 from rfl];lia
theorem LK{C:Bk}(B:OkB C){own j k:Int}{l:List Sb}{m:Nat}(z:(l.map λs=>psz s.1).sum+1<=m)(q:m<=16)(i:Nat):LeT m (nI (csum C own j k ((l.map (nP C)).take i)))/\Small (csum C own j k ((l.map (nP C)).take i)):=by
 have a:=TL B (own:=own) (j:=j) (k:=k) (sC (C:=C) l i λs _=>qC B _ s.1 (zai _) _ _);have b:LeT ((l.map λs=>psz s.1).sum+1) (nI (csum C own j k ((l.map (nP C)).take i))):=⟨a.1,by
  rw[MO];have F:=GC (l.map λs=>psz s.1).sum
  lia⟩
 exact⟨b.mono z,rY (b.mono z) q⟩
def PaOk(C:Bk)(U:List Str):Pa->Prop
 | .name x=>x∈U
 | .num _ j=>0<=j/\j<(C.kinds.length:Int)
 | .use1 _ p=>PaOk C U p
 | .use2 _ p q=>PaOk C U p/\PaOk C U q
 | .lett x p q=>x∈U/\PaOk C U p/\PaOk C U q
 | .pick c k p q r=>(0<=c/\c<(C.kinds.length:Int))/\(0<=k/\k<(C.kinds.length:Int))/\PaOk C U p/\PaOk C U q/\PaOk C U r
 | .again _ k x p q=>(0<=k/\k<(C.kinds.length:Int))/\x∈U/\PaOk C U p/\PaOk C U q
theorem N1{z:Type}{a q:z}{i:Nat}(h:[a][i]?=some q):i=0/\q=a:=by
 cases i with
 | zero=>exact⟨rfl,by simpa using h.symm⟩
 | succ i=>simp[-zac,-zab,aA,aB]at h
theorem uM{z:Type}{a b q:z}{i:Nat}(h:[a,b][i]?=some q):(i=0/\q=a)\/(i=1/\q=b):=by
 cases i with
 | zero=>exact .inl ⟨rfl,by simpa using h.symm⟩
 | succ i=>have:=N1 (a:=b) (q:=q) (i:=i) (by simpa using h);exact .inr ⟨by lia,this.2⟩
theorem get3{B:Type}{a b c q:B}{i:Nat}(h:[a,b,c][i]?=some q):(i=0/\q=a)\/(i=1/\q=b)\/(i=2/\q=c):=by
 cases i with
 | zero=>exact .inl ⟨rfl,by simpa using h.symm⟩
 | succ i=>
  rcases uM (a:=b) (b:=c) (q:=q) (i:=i) (by simpa using h)with z|z
  ·exact .inr (.inl ⟨by lia,z.2⟩)
  ·exact .inr (.inr ⟨by lia,z.2⟩)
theorem pY{p q:Pa}{i:Nat}{x:Str}(z:(kids p)[i]?=some q)(hx:x∈aP q)(B:some x≠hid p i):x∈aP p:=by
 cases p with
 | name y=>simp[-zac,-zab,aA,aB,kids]at z
 | num n j=>simp[-zac,-zab,aA,aB,kids]at z
 | use1 nm p=>obtain⟨rfl,rfl⟩:=N1 z;simp only[aP,bB];exact .inr ⟨hx,by simp[-zac,-zab,aA,aB]⟩
 | use2 nm p q=>
  simp only[aP,bB];rcases uM z with⟨rfl,rfl⟩|⟨rfl,rfl⟩
  ·exact .inl (.inr ⟨hx,by simp[-zac,-zab,aA,aB]⟩)
  ·exact .inr ⟨hx,by simp[-zac,-zab,aA,aB]⟩
 | lett y p q=>
  simp only[aP,bB];rcases uM z with⟨rfl,rfl⟩|⟨rfl,rfl⟩
  ·exact .inl (.inr ⟨hx,by simp[-zac,-zab,aA,aB]⟩)
  ·exact .inr ⟨hx,B⟩
 | pick c k p q r=>
  simp only[aP,bB];rcases get3 z with⟨rfl,rfl⟩|⟨rfl,rfl⟩|⟨rfl,rfl⟩
  ·exact .inl (.inl (.inr ⟨hx,by simp[-zac,-zab,aA,aB]⟩))
  ·exact .inl (.inr ⟨hx,by simp[-zac,-zab,aA,aB]⟩)
  ·exact .inr ⟨hx,by simp[-zac,-zab,aA,aB]⟩
 | again n k y p q=>
  simp only[aP,bB];rcases uM z with⟨rfl,rfl⟩|⟨rfl,rfl⟩
  ·exact .inl (.inr ⟨hx,by simp[-zac,-zab,aA,aB]⟩)
  ·exact .inr ⟨hx,B⟩
theorem PaOk.kid{C:Bk}{U:List Str}{p q:Pa}(h:PaOk C U p)(z:q∈kids p):PaOk C U q:=by
 cases p with
 | name y=>cases z
 | num n j=>cases z
 | use1 nm p=>rw[List.mem_singleton.mp z];exact h
 | use2 nm p q=>simp[-zac,-zab,aA,aB,kids]at z;rcases z with rfl|rfl;exact h.1;exact h.2
 | lett y p q=>simp[-zac,-zab,aA,aB,kids]at z;rcases z with rfl|rfl;exact h.2.1;exact h.2.2
 | pick c k p q r=>simp[-zac,-zab,aA,aB,kids]at z;rcases z with rfl|rfl|rfl;exact h.2.2.1;exact h.2.2.2.1;exact h.2.2.2.2
 | again n k y p q=>simp[-zac,-zab,aA,aB,kids]at z;rcases z with rfl|rfl;exact h.2.2.1;exact h.2.2.2
theorem PaOk.nms{C:Bk}{U:List Str}:∀ {p:Pa},PaOk C U p->∀x∈aP p,x∈U
 | .name y,h,x,hx=>by rw[List.mem_singleton.mp hx];exact h
 | .num _ _,h,x,hx=>by cases hx
 | .use1 _ p,h,x,hx=>by
  simp[-zac,-zab,aA,aB,aP,bB]at hx;exact PaOk.nms (p:=p) h x hx
 | .use2 _ p q,h,x,hx=>by
  simp[-zac,-zab,aA,aB,aP,bB]at hx;rcases hx with z|z
  ·exact PaOk.nms h.1 x z
  ·exact PaOk.nms h.2 x z
 | .lett _ p q,h,x,hx=>by
  simp[-zac,-zab,aA,aB,aP,bB]at hx;rcases hx with z|z
  ·exact PaOk.nms h.2.1 x z
  ·exact PaOk.nms h.2.2 x z.1
 | .pick _ _ p q r,h,x,hx=>by
  simp[-zac,-zab,aA,aB,aP,bB]at hx;rcases hx with(z|z)|z
  ·exact PaOk.nms h.2.2.1 x z
  ·exact PaOk.nms h.2.2.2.1 x z
  ·exact PaOk.nms h.2.2.2.2 x z
 | .again _ _ _ p q,h,x,hx=>by
  simp[-zac,-zab,aA,aB,aP,bB]at hx;rcases hx with z|z
  ·exact PaOk.nms h.2.2.1 x z
  ·exact PaOk.nms h.2.2.2 x z.1
theorem cP{h:Option Str}{a l:List Str}(q:a.Nodup)(z:l.Nodup):(fE h a l).Nodup:=by
 unfold fE;refine List.nodup_append.mpr ⟨q,z.filter _,λx hx y B e=>?_⟩;have:=(List.mem_filter.mp B).2;subst e;simp[-zac,-zab,aA,aB,hx]at this
theorem cW:∀p:Pa,(aP p).Nodup
 | .name y=>by simp_all[aP]
 | .num _ _=>by simp_all[aP]
 | .use1 _ p=>cP .nil (cW p)
 | .use2 _ p q=>cP (cP .nil (cW p)) (cW q)
 | .lett _ p q=>cP (cP .nil (cW p)) (cW q)
 | .pick _ _ p q r=>cP (cP (cP .nil (cW p)) (cW q)) (cW r)
 | .again _ _ _ p q=>cP (cP .nil (cW p)) (cW q)
theorem PaOk.n8{C:Bk}{U:List Str}{p:Pa}(h:PaOk C U p)(q:U.length<=8):(aP p).length<=8:=zaL (qZ (cW p) h.nms) q
theorem fM{C:Bk}{nm:Str}{n:Nat}{c:D}(h:c∈(nN C nm n).map λ(v:Nat)=>D.int (v:Int)):∃(v:Nat) (m:Mk),c=.int (v:Int)/\C.makes[v]?=some m/\m.nm=nm/\m.takes.length=n:=by
 obtain⟨v,q,rfl⟩:=List.mem_map.mp h;have:=(List.mem_filter.mp q).2;cases e:C.makes[v]? with
 | none=>rw[e]at this;cases this
 | some m=>
  rw[e]at this;simp[-zac,-zab,aA,aB]at this;exact⟨v,m,rfl,e,this.1,this.2⟩
theorem tM{C:Bk}{c:D}(h:c∈(zam C.kinds.length).map λ(v:Nat)=>D.int (v:Int)):∃v:Nat,c=.int (v:Int)/\v<C.kinds.length:=by
 obtain⟨v,q,rfl⟩:=List.mem_map.mp h;exact⟨v,rfl,List.mem_range.mp q⟩
theorem dA(v:Nat):(cI (.int (v:Int))).toNat=v:=zbz v
structure PI'(C:Bk)(U:List Str)(p:Pa)(d:List (Key×D))(e:eM)(k:Int):Prop where
 ok:PaOk C U p
 k0:0<=k
 k1:k<(C.kinds.length:Int)
 hd:∀x∈aP p,eZ d (.inr x:Key)=some (.int (e x))
 he:∀x∈aP p,0<=e x/\e x<(C.kinds.length:Int)
 dl:d.length+psz p<=1000
theorem C2{C:Bk}{v:Nat}{m:Mk}(h:C.makes[v]?=some m)(l:m.takes.length=1):m.takes=[aU C v 0]:=by
 rw[eQ h];obtain⟨a,e⟩:∃a,m.takes=[a]:=List.length_eq_one_iff.mp l;rw[e];rfl
theorem DI{C:Bk}{v:Nat}{m:Mk}(h:C.makes[v]?=some m)(l:m.takes.length=2):m.takes=[aU C v 0,aU C v 1]:=by
 rw[eQ h,eQ h]
 match e:m.takes,l with
 | [a,b],_=>rfl
theorem GL{C:Bk}(B:OkB C){U:List Str}{p:Pa}{k:Int}{c:D}(h:PaOk C U p)(k0:0<=k)(k1:k<(C.kinds.length:Int))(G:c∈bP C p):(BJ C p k c).length=(kids p).length/\∀j∈BJ C p k c,0<=j/\j<(C.kinds.length:Int):=by
 cases p with
 | name y=>exact⟨rfl,λ_ h=>nomatch h⟩
 | num n j=>exact⟨rfl,λ_ h=>nomatch h⟩
 | use1 nm p=>
  obtain⟨v,m,rfl,F,_,J⟩:=fM G;refine⟨rfl,?_⟩;have t:=C2 F J;simp only[BJ,dA];rw[<- t];exact B.tb m (zaw F)
 | use2 nm p q=>
  obtain⟨v,m,rfl,F,_,J⟩:=fM G;refine⟨rfl,?_⟩;have t:=DI F J;simp only[BJ,dA];rw[<- t];exact B.tb m (zaw F)
 | lett y p q=>
  obtain⟨v,rfl,M⟩:=tM G;refine⟨rfl,λj z=>?_⟩;simp[-zac,-zab,aA,aB,BJ,cI]at z
  lia
 | pick c' k' p q r=>
  refine⟨rfl,λj z=>?_⟩;simp[-zac,-zab,aA,aB,BJ]at z;rcases z with rfl|rfl
  ·exact h.1
  ·exact h.2.1
 | again n k' y p q=>
  refine⟨rfl,λj z=>?_⟩;simp[-zac,-zab,aA,aB,BJ]at z;rw[z];exact h.1
theorem WH{C:Bk}{U:List Str}{p:Pa}{c:D}{i:Nat}{x:Str}(h:PaOk C U p)(z:c∈bP C p)(q:hid p i=some x):0<=DS p c/\DS p c<(C.kinds.length:Int):=by
 unfold hid at q;split at q
 ·obtain⟨v,rfl,B⟩:=tM z
  simp only[DS,cI];lia
 ·exact h.1
 ·cases q
theorem PI'.kid{C:Bk}(B:OkB C){U:List Str}{p:Pa}{d:List (Key×D)}{e:eM}{k:Int}{c:D}(h:PI' C U p d e k)(W:c∈bP C p){i:Nat}{q:Pa}{N:Int}(J:(kids p)[i]?=some q)(hk:(BJ C p k c)[i]?=some N):PI' C U q (JI p d c i) (N3 p e c i) N:=by
 have M:=zaw J;have sz:=fX M;have G:=(GL B h.ok h.k0 h.k1 W).2 N (zaw hk);have dl:=h.dl;unfold JI N3;cases e1:hid p i with
 | none=>
  have F:∀x∈aP q,x∈aP p:=λx hx=>pY J hx (by rw[e1];simp[-zac,-zab,aA,aB])
  exact⟨h.ok.kid M,G.1,G.2,λx hx=>h.hd x (F x hx),λx hx=>h.he x (F x hx),by simp only;lia⟩
 | some y=>
  have F:∀x∈aP q,¬ x=y->x∈aP p:=λx hx n=>pY J hx (by rw[e1];intro z;injection z with z;exact n z)
  have Y:=WH h.ok W e1;refine⟨h.ok.kid M,G.1,G.2,λx hx=>?_,λx hx=>?_,?_⟩
  ·simp only[qA,eW]
   by_cases z:x=y
   ·rw[if_pos (by rw[z]),if_pos z]
   ·rw[if_neg (λw=>z (by injection w)),if_neg z];exact h.hd x (F x hx z)
  ·simp only[eW]
   by_cases z:x=y
   ·rw[if_pos z];exact Y
   ·rw[if_neg z];exact h.he x (F x hx z)
  ·have:=sO (d:=d) (k:=.inr y) (e:=.int (DS p c))
   simp only;lia
theorem RH{C:Bk}{p:Pa}{d:List (Key×D)}{c:D}(q:d.length<=1000)(z:c∈bP C p)(i:Nat):dF [.dK d,bI p,.int (i:Int),c]=some (.dK (JI p d c i)):=by
 have w:=zT p i;cases e1:hid p i with
 | none=>
  rw[e1]at w;rw[B9 w];unfold JI;rw[e1]
 | some y=>
  unfold JI;rw[e1];unfold hid at e1;split at e1
  ·cases e1
   obtain⟨v,rfl,B⟩:=tM z;exact GU q
  ·cases e1
   exact yH q
  ·cases e1
theorem SS{C:Bk}{U:List Str}{p:Pa}{d:List (Key×D)}{e:eM}{k:Int}{c:D}(h:PI' C U p d e k)(B:c∈bP C p):bL [a9 C,.dK d,bI p,.int k,c]=some (.int (dE C p e k c)):=by
 cases p with
 | name x=>exact CK (h.hd x (List.mem_singleton.mpr rfl))
 | num n j=>exact HN
 | use1 nm p=>
  obtain⟨v,m,rfl,z,_,_⟩:=fM B;rw[BO z];simp only[dE,dA,dZ z]
 | use2 nm p q=>
  obtain⟨v,m,rfl,z,_,_⟩:=fM B;rw[CU z];simp only[dE,dA,dZ z]
 | lett y p q=>exact IF
 | pick c' k' p q r=>exact CW
 | again n k' y p q=>exact yW
theorem qaW{C:Bk}{p:Pa}{k:Int}{c:D}(F:c∈bP C p):bT [a9 C,bI p,.int k,c]=some (tupI (BJ C p k c)):=by
 cases p with
 | name x=>exact HV
 | num n j=>exact J0
 | use1 nm p=>
  obtain⟨v,m,rfl,z,_,B⟩:=fM F;rw[HX z,C2 z B];simp only[BJ,dA]
 | use2 nm p q=>
  obtain⟨v,m,rfl,z,_,B⟩:=fM F;rw[GT z,DI z B];simp only[BJ,dA]
 | lett y p q=>
  obtain⟨v,rfl,G⟩:=tM F;exact LP
 | pick c' k' p q r=>exact G0
 | again n k' y p q=>exact B4
theorem xU{C:Bk}(B:OkB C){U:List Str}{p:Pa}{d:List (Key×D)}{e:eM}{k:Int}{c:D}(h:PI' C U p d e k)(F:c∈bP C p):0<=dE C p e k c/\dE C p e k c<(C.kinds.length:Int):=by
 cases p with
 | name x=>exact h.he x (List.mem_singleton.mpr rfl)
 | num n j=>exact h.ok
 | use1 nm p=>
  obtain⟨v,m,rfl,z,_,_⟩:=fM F;simp only[dE,dA,dZ z];exact B.gb m (zaw z)
 | use2 nm p q=>
  obtain⟨v,m,rfl,z,_,_⟩:=fM F;simp only[dE,dA,dZ z];exact B.gb m (zaw z)
 | lett y p q=>exact⟨h.k0,h.k1⟩
 | pick c' k' p q r=>exact h.ok.2.1
 | again n k' y p q=>exact h.ok.1
def AtD(C:Bk)(at_:D):Prop:=∃q L2,at_=.ob CA [("book",a9 C),("routes",.dT q),("spans",.dT L2)]/\IY C (λj k=>(0<=j/\j<(C.kinds.length:Int))/\0<=k/\k<(C.kinds.length:Int)) (q,L2)
theorem AtD.book{C:Bk}{at_:D}(h:AtD C at_):yG CA "book" at_=some (a9 C):=by
 obtain⟨q,L2,rfl,_⟩:=h;rfl
theorem TF{C:Bk}(B:OkB C){U:List Str}{at_:D}(A:AtD C at_){p:Pa}{d:List (Key×D)}{e:eM}{k:Int}{c:D}(h:PI' C U p d e k)(q:c∈bP C p):kG [at_,dY C p,.dK d,.int k,c]=some (.lst ((sb C p d e k c).map λs=>.tup [dY C s.1,.dK s.2.1,.int s.2.2.2])):=by
 have z:=h.dl;rw[RF (hd:=λi=>.dK (JI p d c i)) A.book (qaW q) (by rw[(GL B h.ok h.k0 h.k1 q).1];exact zai _) λi _=>RH (by lia) q i];rw[D3 (ev:=N3 p e c)];rfl
theorem T7{C:Bk}{p:Pa}{c:D}(B:c∈bP C p):SX C p c (lN C p c):=by
 cases p with
 | name x=>exact .inr ⟨oA,rfl⟩
 | num n j=>exact .inr ⟨lC,rfl⟩
 | use1 nm p=>
  obtain⟨v,m,rfl,z,_,_⟩:=fM B;exact .inl ⟨rfl,v,m,rfl,z,by simp only[lN,dA,mpr,z];rfl⟩
 | use2 nm p q=>
  obtain⟨v,m,rfl,z,_,_⟩:=fM B;exact .inl ⟨rfl,v,m,rfl,z,by simp only[lN,dA,mpr,z];rfl⟩
 | lett y p q=>exact .inr ⟨lI,rfl⟩
 | pick c' k' p q r=>exact .inr ⟨lB,rfl⟩
 | again n k' y p q=>exact .inr ⟨lG,rfl⟩
theorem UO{C:Bk}{p:Pa}{d:List (Key×D)}{e:eM}{k:Int}{c:D}:((sb C p d e k c).map λs=>psz s.1).sum+1<=psz p:=by
 have a:=xF (hd:=JI p d c) (ev:=N3 p e c) (kids p) (BJ C p k c) 0;have b:=dB p;unfold sb;lia
theorem M1{C:Bk}(B:OkB C){U:List Str}{at_:D}(A:AtD C at_){p:Pa}{d:List (Key×D)}{e:eM}{k:Int}{c:D}{R:List D->Option D}(h:PI' C U p d e k)(z:c∈bP C p)(sz:psz p<=16)(M:∀s∈sb C p d e k c,PI' C U s.1 s.2.1 s.2.2.1 s.2.2.2->psz s.1<psz p->R [at_,dY C s.1,.dK s.2.1,.int s.2.2.2]=some (memD (nP C s))) :
  bG 10 (cJ R) [at_,dY C p,.dK d,.int k,c]=some (memD (qE C p d e k c)):=by
 have N:=xU B h z;have hs:=TF B A h z;have bk:=A.book;have ss:=UO (C:=C) (p:=p) (d:=d) (e:=e) (k:=k) (c:=c);obtain⟨W,L2,rfl,ok⟩:=A;have F:∀s∈sb C p d e k c,PI' C U s.1 s.2.1 s.2.2.1 s.2.2.2/\psz s.1<psz p:=λs hs=>by
  obtain⟨i,hi⟩:=zcu hs;have J:=fX (tV hs);obtain⟨q,Y,h1,h2,rfl⟩:=iQ hi;rw[zaO];exact⟨h.kid B z h1 h2,J⟩
 have:=wL (C:=C) (p:=p) (d:=d) (k:=k) (j:=dE C p e k c) (own:=lN C p c) (c:=c) (R:=R) (L2:=L2) (Rs:=(sb C p d e k c).map λs=>(dY C s.1,.dK s.2.1,.int s.2.2.2,nP C s)) bk rfl (ok _ _ ⟨N,h.k0,h.k1⟩).2 (T7 z) (SS h z) (by rw[hs,zar];rfl)
  (λr G => by
   obtain⟨s,hs,rfl⟩:=List.mem_map.mp G;exact M s hs (F s hs).1 (F s hs).2) (rY (m:=1) ⟨by rw[CZ];lia,by rw[CZ];exact zcI (XA B _ _) (by decide)⟩ (by decide)) (λr G=>by
   obtain⟨s,hs,rfl⟩:=List.mem_map.mp G;exact rY (qC B _ s.1 (zai _) _ _) (by have:=(F s hs).2;lia)) λi=>by
   rw[zar];exact(LK B ss sz i).2
 rw[this,zar];rfl
theorem A9{C:Bk}(B:OkB C){U:List Str}(q:U.length<=8){at_:D}(A:AtD C at_):∀(n:Nat) (p:Pa) (d:List (Key×D)) (e:eM) (k:Int),psz p<=n->psz p<=16->PI' C U p d e k->gC 7 gZ n [at_,dY C p,.dK d,.int k]=some (memD (aR C p e k))
 | 0,p,d,e,k,h,_,_=>by have:=dB p;lia
 | n+1,p,d,e,k,h,h16,I=>by
  show bG 7 (gZ (gC 7 gZ n)) _=_;exact BY B A.book ⟨I.k0,I.k1⟩ I.hd I.he (I.ok.n8 q) (f:=qE C p d e k) (λc F=>M1 B A I F h16 λs _ z G=>A9 B q A n s.1 s.2.1 s.2.2.1 s.2.2.2 (by lia) (by lia) z) (nH C p d e k)
def b7:Rg->List Rg
 | .use1 _ _ p _=>[p]
 | .use2 _ _ p q _=>[p,q]
 | .lett _ _ p q=>[p,q]
 | .pick _ _ p q r _=>[p,q,r]
 | .again _ _ _ p q _=>[p,q]
 | _=>[]
theorem xS(g:Rg):kids (pa g)=(b7 g).map pa:=by cases g <;> rfl
theorem PM(g:Rg):ir g=(b7 g).map rd:=by cases g <;> rfl
theorem wW{g q:Rg}(h:q∈b7 g):size q<size g:=by
 rw[<- cE,<- cE];exact fX (by rw[xS];exact List.mem_map.mpr ⟨q,h,rfl⟩)
def IW(l:List D)(c:D)(f:D->Sm):Int:=((l.filter λu=>decide (cI u<cI c)).map λu=>nI (f u)).sum
def uG(C:Bk):List Rg->List Sb->List (Int×Int)
 | g::l,s::m=>(cQ C g s.2.2.1 s.2.2.2,nI (nP C s))::uG C l m
 | _,_=>[]
theorem xC(l:List Nat)(v:Nat){j:Int}(q:j.toNat=v)(f:D->Sm):IW (l.map λ(v:Nat)=>D.int (v:Int)) (.int j) f=uQ l v λu=>f (.int (u:Int)):=by
 unfold IW uQ;rw[List.filter_map,zar];have:((λu=>decide (cI u<cI (.int j))) ∘ λ(v:Nat)=>D.int (v:Int))=λu:Nat=>decide (u<v):=by
  funext u;show decide ((u:Int)<j)=decide (u<v);congr 1;exact propext ⟨λh=>by lia,λh=>by lia⟩
 rw[this];rfl
theorem pV(f:D->Sm):IW [.non] .non f=0:=rfl
theorem EG(C:Bk)(g:Rg)(d:List (Key×D))(e:eM)(k:Int):cQ C g e k=IW (bP C (pa g)) (ch g) (qE C (pa g) d e k)+cS 0 (uG C (b7 g) (sb C (pa g) d e k (ch g))++[kA C (dE C (pa g) e k (ch g)) k (wy g)]):=by
 cases g with
 | name x j w=>simp only[bP,pa,ch,pV,zbo];rfl
 | num n j w=>simp only[bP,pa,ch,pV,zbo];rfl
 | use1 v nm p w=>simp only[bP,pa,ch,xC _ v (zbz v)];rfl
 | use2 v nm p q w=>simp only[bP,pa,ch,xC _ v (zbz v)];rfl
 | lett x j p q=>simp only[bP,pa,ch,xC _ j.toNat rfl];rfl
 | pick c k' p q r w=>simp only[bP,pa,ch,pV,zbo];rfl
 | again n k' x p q w=>simp only[bP,pa,ch,pV,zbo];rfl
structure WI(C:Bk)(U:List Str)(kn:List (Str×Int))(g:Rg)(d:List (Key×D))(e:eM)(k:Int):Prop where
 wf:WF C kn g k
 nf:NF U (kn.map (·.1)) g
 ok:OkN C kn
 ec:EC e kn
 cd:Cons d kn
 un:∀p∈kn,p.1∈U
 dl:d.length+size g<=1000
theorem t9{C:Bk}(B:OkB C){U:List Str}:∀ {g:Rg} {kn:List (Str×Int)} {N:List Str} {k:Int},WF C kn g k->NF U N g->OkN C kn->(∀p∈kn,p.1∈U)->PaOk C U (pa g)
 | .name x j w,kn,N,k,W,_,_,hu=>hu _ W.1
 | .num n j w,kn,N,k,W,_,_,_=>W.2.1
 | .use1 v nm p w,kn,N,k,⟨m,t,a,b,c,d,f⟩,F,K,hu=>t9 B (g:=p) d F K hu
 | .use2 v nm p q w,kn,N,k,⟨m,t,u,a,b,c,d,d2,f⟩,F,K,hu=>⟨t9 B (g:=p) d F.1 K hu,t9 B (g:=q) d2 F.2 K hu⟩
 | .lett x j p q,kn,N,k,⟨a,b⟩,F,K,hu=>⟨F.2.1.2,t9 B (g:=p) a F.1 K hu,t9 B (g:=q) b F.2.2 (K.cons (a.short B K).2.1 (a.short B K).2.2) λp G=>by
   rcases List.mem_cons.mp G with z|z
   ·rw[z];exact F.2.1.2
   ·exact hu p z⟩
 | .pick c k' p q r w,kn,N,k,⟨a,b,c1,c2,c3,d⟩,F,K,hu=>⟨a,b,t9 B (g:=p) c1 F.1 K hu,t9 B (g:=q) c2 F.2.1 K hu,t9 B (g:=r) c3 F.2.2 K hu⟩
 | .again n k' x p q w,kn,N,k,⟨a,b,c1,c2,d⟩,F,K,hu=>⟨b,F.2.1.2,t9 B (g:=p) c1 F.1 K hu,t9 B (g:=q) c2 F.2.2 (K.cons b.1 b.2) λp G=>by
   rcases List.mem_cons.mp G with z|z
   ·rw[z];exact F.2.1.2
   ·exact hu p z⟩
theorem fD{C:Bk}:∀ {g:Rg} {kn:List (Str×Int)} {k:Int},WF C kn g k->∀x∈aP (pa g),∃j,(x,j)∈kn
 | .name x j w,kn,k,W,y,hy=>⟨j,by rw[List.mem_singleton.mp hy];exact W.1⟩
 | .num n j w,kn,k,W,y,hy=>by cases hy
 | .use1 v nm p w,kn,k,⟨m,t,a,b,c,d,f⟩,y,hy=>by
  simp[-zac,-zab,aA,aB,pa,aP,bB]at hy;exact fD (g:=p) d y hy
 | .use2 v nm p q w,kn,k,⟨m,t,u,a,b,c,d,d2,f⟩,y,hy=>by
  simp[-zac,-zab,aA,aB,pa,aP,bB]at hy;rcases hy with z|z
  ·exact fD d y z
  ·exact fD d2 y z
 | .lett x j p q,kn,k,⟨a,b⟩,y,hy=>by
  simp[-zac,-zab,aA,aB,pa,aP,bB]at hy;rcases hy with z|z
  ·exact fD a y z
  ·obtain⟨i,hi⟩:=fD b y z.1
   rcases List.mem_cons.mp hi with w|w
   ·injection w with w1 w2;exact absurd w1 z.2
   ·exact⟨i,w⟩
 | .pick c k' p q r w,kn,k,⟨a,b,c1,c2,c3,d⟩,y,hy=>by
  simp[-zac,-zab,aA,aB,pa,aP,bB]at hy;rcases hy with(z|z)|z
  ·exact fD c1 y z
  ·exact fD c2 y z
  ·exact fD c3 y z
 | .again n k' x p q w,kn,k,⟨a,b,c1,c2,d⟩,y,hy=>by
  simp[-zac,-zab,aA,aB,pa,aP,bB]at hy;rcases hy with z|z
  ·exact fD c1 y z
  ·obtain⟨i,hi⟩:=fD c2 y z.1
   rcases List.mem_cons.mp hi with w|w
   ·injection w with w1 w2;exact absurd w1 z.2
   ·exact⟨i,w⟩
theorem WI.pi{C:Bk}(B:OkB C){U:List Str}{kn:List (Str×Int)}{g:Rg}{d:List (Key×D)}{e:eM}{k:Int}(h:WI C U kn g d e k):PI' C U (pa g) d e k:=by
 have s:=WF.short B h.ok h.wf;refine⟨t9 B h.wf h.nf h.ok h.un,s.2.1,s.2.2,λx hx=>?_,λx hx=>?_,by rw[cE];exact h.dl⟩
 ·obtain⟨j,q⟩:=fD h.wf x hx
  rw[show e x=j from h.ec _ q];exact h.cd _ q
 ·obtain⟨j,q⟩:=fD h.wf x hx
  rw[show e x=j from h.ec _ q];exact h.ok _ q
theorem tR{C:Bk}(B:OkB C){kn:List (Str×Int)}{g:Rg}{k:Int}(K:OkN C kn)(W:WF C kn g k):ch g∈bP C (pa g):=by
 cases g with
 | name x j w=>exact List.mem_singleton.mpr rfl
 | num n j w=>exact List.mem_singleton.mpr rfl
 | use1 v nm p w=>
  obtain⟨m,t,a,rfl,c,d,f⟩:=W;exact List.mem_map.mpr ⟨v,mY a (by rw[c];rfl),rfl⟩
 | use2 v nm p q w=>
  obtain⟨m,t,u,a,rfl,c,d,f⟩:=W;exact List.mem_map.mpr ⟨v,mY a (by rw[c];rfl),rfl⟩
 | lett x j p q=>
  have s:=WF.short B K W.1;refine List.mem_map.mpr ⟨j.toNat,List.mem_range.mpr (by lia),?_⟩;show D.int ((j.toNat:Nat):Int)=.int j;congr 1;lia
 | pick c k' p q r w=>exact List.mem_singleton.mpr rfl
 | again n k' x p q w=>exact List.mem_singleton.mpr rfl
theorem C4{C:Bk}{kn:List (Str×Int)}{g:Rg}{e:eM}{k:Int}(E:EC e kn)(W:WF C kn g k):gw C.rs (dE C (pa g) e k (ch g)) (wy g)=some k:=by
 cases g with
 | name x j w=>show gw C.rs (e x) w=_;rw[E _ W.1];exact W.2
 | num n j w=>exact W.2.2
 | use1 v nm p w=>
  obtain⟨m,t,a,rfl,c,d,f⟩:=W;simp only[pa,ch,dE,dA,dZ a];exact f
 | use2 v nm p q w=>
  obtain⟨m,t,u,a,rfl,c,d,z,f⟩:=W;simp only[pa,ch,dE,dA,dZ a];exact f
 | lett x j p q=>rfl
 | pick c k' p q r w=>exact W.2.2.2.2.2
 | again n k' x p q w=>exact W.2.2.2.2
theorem WI.kid{C:Bk}(B:OkB C){U:List Str}{kn:List (Str×Int)}{g:Rg}{d:List (Key×D)}{e:eM}{k:Int}(h:WI C U kn g d e k){i:Nat}{q:Rg}{G:Int}(Y:(b7 g)[i]?=some q)(M:(BJ C (pa g) k (ch g))[i]?=some G):∃ac,WI C U ac q (JI (pa g) d (ch g) i) (N3 (pa g) e (ch g) i) G:=by
 have sz:=wW (zaw Y);obtain⟨W,F,K,E,N,un,dl⟩:=h;have put:∀ {x:Str} {j:Int} {q:Rg} {G:Int},size q<size g->WF C ((x,j)::kn) q G->0<=j/\j<(C.kinds.length:Int)->x∉kn.map (·.1)/\x∈U->NF U (x::kn.map (·.1)) q->WI C U ((x,j)::kn) q (putD d (.inr x) (.int j)) (eW e x j) G:=λ{x j q G} sz w hj hx f=>⟨w,f,K.cons hj.1 hj.2,E.put hx.1,N.put hx.1,λp hp=>by
   rcases List.mem_cons.mp hp with z|z
   ·rw[z];exact hx.2
   ·exact un p z,by have:=sO (d:=d) (k:=.inr x) (e:=.int j);lia⟩
 cases g with
 | name x j w=>simp[-zac,-zab,aA,aB,b7]at Y
 | num n j w=>simp[-zac,-zab,aA,aB,b7]at Y
 | use1 v nm p w=>
  obtain⟨m,t,a,rfl,c,wp,f⟩:=W;obtain⟨rfl,rfl⟩:=N1 Y;have J:G=aU C (cI (.int (v:Int))).toNat 0:=(N1 M).2;rw[dA,eQ a,c]at J;subst J;exact⟨kn,wp,F,K,E,N,un,by show d.length+_<=_;lia⟩
 | use2 v nm p q w=>
  obtain⟨m,t,u,a,rfl,c,wp,wq,f⟩:=W;rcases uM Y with⟨rfl,rfl⟩|⟨rfl,rfl⟩
  ·have J:G=aU C (cI (.int (v:Int))).toNat 0:=(zay (show some (aU C (cI (.int (v:Int))).toNat 0)=some G from M)).symm
   rw[dA,eQ a,c]at J;subst J;exact⟨kn,wp,F.1,K,E,N,un,by show d.length+_<=_;lia⟩
  ·have J:G=aU C (cI (.int (v:Int))).toNat 1:=(zay (show some (aU C (cI (.int (v:Int))).toNat 1)=some G from M)).symm
   rw[dA,eQ a,c]at J;subst J;exact⟨kn,wq,F.2,K,E,N,un,by show d.length+_<=_;lia⟩
 | lett x j p q=>
  have s:=WF.short B K W.1;rcases uM Y with⟨rfl,rfl⟩|⟨rfl,rfl⟩
  ·have J:G=j:=(zay (show some (j)=some G from M)).symm
   subst J;exact⟨kn,W.1,F.1,K,E,N,un,by show d.length+_<=_;lia⟩
  ·have J:G=k:=(zay (show some (k)=some G from M)).symm
   subst J;exact⟨_,put sz W.2 s.2 F.2.1 F.2.2⟩
 | pick c k' p q r w=>
  obtain⟨a,b,wp,wq,wr,f⟩:=W;rcases get3 Y with⟨rfl,rfl⟩|⟨rfl,rfl⟩|⟨rfl,rfl⟩
  ·have J:G=c:=(zay (show some (c)=some G from M)).symm
   subst J;exact⟨kn,wp,F.1,K,E,N,un,by show d.length+_<=_;lia⟩
  ·have J:G=k':=(zay (show some (k')=some G from M)).symm
   subst J;exact⟨kn,wq,F.2.1,K,E,N,un,by show d.length+_<=_;lia⟩
  ·have J:G=k':=(zay (show some (k')=some G from M)).symm
   subst J;exact⟨kn,wr,F.2.2,K,E,N,un,by show d.length+_<=_;lia⟩
 | again n k' x p q w=>
  obtain⟨a,b,wp,wq,f⟩:=W;rcases uM Y with⟨rfl,rfl⟩|⟨rfl,rfl⟩
  ·have J:G=k':=(zay (show some (k')=some G from M)).symm
   subst J;exact⟨kn,wp,F.1,K,E,N,un,by show d.length+_<=_;lia⟩
  ·have J:G=k':=(zay (show some (k')=some G from M)).symm
   subst J;exact⟨_,put sz wq b F.2.1 F.2.2⟩
theorem F4{g:Gv}{b:Sv}{d:D}:∀ {items:List D} {ρ:cU} (t:Nat) (I:Nat->cU->Prop),I 0 ρ->t<items.length->(∀i x ρ,i<t->items[i]?=some x->I i ρ->∃ρ',turn g b x ρ=some (.nx ρ')/\I (i+1) ρ')->(∀x ρ,items[t]?=some x->I t ρ->turn g b x ρ=some (.rt d))->kC g b items ρ=some (.rt d)
 | [],ρ,t,I,_,h,_,_=>by simp[-zac,-zab,aA,aB]at h
 | x::l,ρ,0,I,h0,_,_,h2=>by
  have B:=h2 x ρ rfl h0;unfold turn at B;obtain⟨q,G,F⟩:=bind_some B;unfold kC;rw[G];show(b q).bind _=_;rw[F];rfl
 | x::l,ρ,t+1,I,h0,hl,h1,h2=>by
  obtain⟨ρ',B,z⟩:=h1 0 x ρ (by lia) rfl h0;have ih:=F4 (items:=l) (ρ:=ρ') t (λi=>I (i+1)) z (by simpa using hl) (λi y ρ hi J z=>h1 (i+1) y ρ (by lia) (by simpa using J) z) λy ρ J z=>h2 y ρ (by simpa using J) z
  unfold turn at B;obtain⟨q,G,F⟩:=bind_some B;unfold kC;rw[G];show(b q).bind _=_;rw[F];exact ih
theorem vA:∀ {l:List D} {t:Nat} {c:D},l.Pairwise (λa b=>cI a<cI b)->l[t]?=some c->l.filter (λu=>decide (cI u<cI c))=l.take t
 | [],t,c,_,h=>by simp[-zac,-zab,aA,aB]at h
 | a::l,0,c,hl,h=>by
  have:a=c:=by simpa using h
  subst this;rw[List.take_zero,List.filter_eq_nil_iff];intro u B;rcases List.mem_cons.mp B with z|z
  ·rw[z];simp[-zac,-zab,aA,aB]
  ·have:=(List.pairwise_cons.mp hl).1 u z;simp[-zac,-zab,aA,aB];lia
 | a::l,t+1,c,hl,h=>by
  have q:l[t]?=some c:=by simpa using h
  have:=(List.pairwise_cons.mp hl).1 c (zaw q);rw[zcC,if_pos (by simpa using this),zct,vA (List.pairwise_cons.mp hl).2 q]
theorem jF{l:List Nat}(h:l.Pairwise (·<·)):(l.map λ(v:Nat)=>D.int (v:Int)).Pairwise λa b=>cI a<cI b:=by
 rw[zeh];exact h.imp λ{a b} h=>by show(a:Int)<(b:Int);lia
theorem B3(C:Bk)(p:Pa):(bP C p).Pairwise λa b=>cI a<cI b:=by
 cases p with
 | use1 nm p=>exact jF (gG ..)
 | use2 nm p q=>exact jF (gG ..)
 | lett x p q=>exact jF (iD _)
 | _=>exact List.pairwise_singleton ..
def cZ(l:List D)(f:D->Sm)(i:Nat):Int:=((l.take i).map λu=>nI (f u)).sum
theorem sH{l:List D}{f:D->Sm}{i:Nat}{c:D}(h:l[i]?=some c):cZ l f (i+1)=cZ l f i+nI (f c):=by
 unfold cZ;rw[zc5,h,zaP,List.sum_append];simp[-zac,-zab,aA,aB]
theorem AW{l:List D}{f:D->Sm}(q:∀c,0<=nI (f c)){i:Nat}:∀ {j:Nat},i<=j->cZ l f i<=cZ l f j
 | 0,h=>by rw[show i=0 by lia];exact zbL _
 | j+1,h=>by
  by_cases e:i=j+1
  ·rw[e];exact zbL _
  ·have ih:=AW q (l:=l) (i:=i) (j:=j) (by lia)
   cases hc:l[j]? with
   | some c=>have:=sH (f:=f) hc;have:=q c;lia
   | none=>
    have:l.length<=j:=List.getElem?_eq_none_iff.mp hc;have e:cZ l f (j+1)=cZ l f j:=by unfold cZ;rw[zbZ (by lia),zbZ this]
    lia
theorem MX(C:Bk)(p:Pa)(d:List (Key×D))(e:eM)(k:Int)(c:D):0<=nI (qE C p d e k c):=eR _ _ _ _ λx hx=>by
 rw[zar]at hx;obtain⟨s,_,rfl⟩:=List.mem_map.mp hx;exact cF ..
theorem ET{C:Bk}{p:Pa}{t:Nat}{c:D}{f:D->Sm}(h:(bP C p)[t]?=some c):IW (bP C p) c f=cZ (bP C p) f t:=by
 unfold IW cZ;rw[vA (B3 C p) h]
theorem PK(C:Bk)(p:Pa)(d:List (Key×D))(e:eM)(k:Int):cZ (bP C p) (qE C p d e k) (bP C p).length=nI (aR C p e k):=by
 rw[<- nH C p d e k,iP];unfold cZ;rw[zbX];simp_all[nI]
theorem WI.num{C:Bk}(B:OkB C){U:List Str}{kn:List (Str×Int)}{g:Rg}{d:List (Key×D)}{e:eM}{k:Int}(h:WI C U kn g d e k):0<=cQ C g e k/\cQ C g e k<nI (aR C (pa g) e k):=fY B h.ok h.wf h.nf h.ec
theorem FA{C:Bk}:∀ {gs:List Rg} {m:List Sb} {i:Nat} {x:Int×Int},(uG C gs m)[i]?=some x->∃g s,gs[i]?=some g/\m[i]?=some s/\x=(cQ C g s.2.2.1 s.2.2.2,nI (nP C s))
 | [],m,i,x,h=>by cases m <;> simp[-zac,-zab,aA,aB,uG]at h
 | g::gs,[],i,x,h=>by simp[-zac,-zab,aA,aB,uG]at h
 | g::gs,s::m,0,x,h=>⟨g,s,rfl,rfl,by simpa[uG]using h.symm⟩
 | g::gs,s::m,i+1,x,h=>by
  obtain⟨g',s',a,b,c⟩:=FA (C:=C) (gs:=gs) (m:=m) (i:=i) (x:=x) (by simpa[uG]using h);exact⟨g',s',by simpa using a,by simpa using b,c⟩
theorem WI.at{C:Bk}(B:OkB C){U:List Str}{kn:List (Str×Int)}{g:Rg}{d:List (Key×D)}{e:eM}{k:Int}(h:WI C U kn g d e k){i:Nat}{q:Rg}{s:Sb}(F:(b7 g)[i]?=some q)(hs:(sb C (pa g) d e k (ch g))[i]?=some s):s.1=pa q/\∃z,WI C U z q s.2.1 s.2.2.1 s.2.2.2:=by
 obtain⟨p,G,h1,h2,rfl⟩:=iQ hs;rw[xS,zaB,F]at h1;rw[zaO];exact⟨by simpa using h1.symm,h.kid B F h2⟩
theorem CY{C:Bk}(B:OkB C){U:List Str}{kn:List (Str×Int)}{g:Rg}{d:List (Key×D)}{e:eM}{k:Int}(h:WI C U kn g d e k):(sb C (pa g) d e k (ch g)).length=(b7 g).length:=by
 have I:=h.pi B;have:=(GL B I.ok I.k0 I.k1 (tR B h.ok h.wf)).1;unfold sb;rw[xN this.symm,xS,zal]
theorem w6{C:Bk}:∀ {gs:List Rg} {m:List Sb},m.length=gs.length->(uG C gs m).map (·.2)=m.map λs=>nI (nP C s)
 | [],m,h=>by rw[List.length_eq_zero_iff.mp h];rfl
 | g::gs,[],h=>by simp[-zac,-zab,aA,aB]at h
 | g::gs,s::m,h=>by rw[uG,zak,zak,w6 (by simpa using h)]
def BG(C:Bk)(g:Rg)(d:List (Key×D))(e:eM)(k:Int):List (Int×Int):=uG C (b7 g) (sb C (pa g) d e k (ch g))++[kA C (dE C (pa g) e k (ch g)) k (wy g)]
theorem WI.inr{C:Bk}(B:OkB C){U:List Str}{kn:List (Str×Int)}{g:Rg}{d:List (Key×D)}{e:eM}{k:Int}(h:WI C U kn g d e k):TV (BG C g d e k):=λx hx=>by
 rcases List.mem_append.mp hx with z|z
 ·obtain⟨i,hi⟩:=zcu z
  obtain⟨q,s,h1,h2,rfl⟩:=FA hi;obtain⟨G,F,w⟩:=h.at B h1 h2;have:=w.num B;unfold nP;rw[G];exact this
 ·have I:=h.pi B
  have b:=xU B I (tR B h.ok h.wf);rw[List.mem_singleton.mp z];exact jZ B b.1 I.k1 (C4 h.ec h.wf)
theorem WI.join{C:Bk}(B:OkB C){U:List Str}{kn:List (Str×Int)}{g:Rg}{d:List (Key×D)}{e:eM}{k:Int}(h:WI C U kn g d e k):0<=cS 0 (BG C g d e k)/\cS 0 (BG C g d e k)<nI (qE C (pa g) d e k (ch g)):=by
 have:=pM (h.inr B);refine⟨this.1,zem this.2 ?_⟩;unfold BG qE;rw[eS,zaP,w6 (CY B h),zar];exact zbL _
noncomputable def tZ:Int->List Int->Int
 | n,[]=>n
 | n,s::l=>tZ (n/s) l
theorem u7:∀(l:List Int) (s n:Int) (acc:List Int),f6 n (l++[s]) acc=tZ n l%s::f6 n l acc
 | [],s,n,acc=>rfl
 | a::l,s,n,acc=>u7 l s (n/a) (n%a::acc)
theorem vF:∀(l:List Int) (s n:Int),tZ n (l++[s])=tZ n l/s
 | [],s,n=>rfl
 | a::l,s,n=>vF l s (n/a)
theorem AI:∀(l:List Int) (n:Int) (acc:List Int),(f6 n l acc).length=l.length+acc.length
 | [],n,acc=>by simp_all[f6]
 | a::l,n,acc=>by rw[f6,AI l];simp[-zac,-zab,aA,aB];lia
theorem JL{l:List Int}(U:l.length<=100)(hs:∀s∈l,0<s/\s<10^500)(n:Int):sP [.int n,.lst (l.map .int)]=some (.lst ((f6 n l.reverse []).map .int)):=by
 refine aL ?_;unfold AK;have Y:(aG 5 [.int n,.lst (l.map .int)]).set 2 (some (.lst []))=[some (.int n),some (.lst (l.map .int)),some (.lst []),none,none]:=rfl;rw[aF (aM (d:=.lst []) rfl),Y,aF (aM (d:=.int n) rfl)];have er:(l.map D.int).reverse=l.reverse.map D.int:=by rw[List.map_reverse]
 have J:∀s∈l.reverse,0<s/\s<10^500:=λs h=>hs s (List.mem_reverse.mp h)
 have z:l.reverse.length<=100:=by rw[List.length_reverse];exact U
 generalize l.reverse=m at er J z ⊢;generalize l.map D.int=X at er ⊢;refine iS (items:=m.map .int) (by simp_all[Z9,er]) (λi ρ=>∃q,ρ=[some (.int n),some (.lst X),some (.lst ((f6 n (m.take i) []).map .int)),some (.int (tZ n (m.take i))),q]) ⟨none,rfl⟩ ?_ ?_
 ·rintro i y ρ G ⟨q,rfl⟩
  rw[zaB]at G;obtain⟨s,F,rfl⟩:=map_some G;have h:=J s (zaw F);have W:m.take (i+1)=m.take i++[s]:=by rw[zc5,F];rfl
  have N:=AI (m.take i) n [];have B:aZ (f6 n (m.take i) []).length=true:=decide_eq_true (by rw[N,zb8];simp[-zac,-zab,aA,aB];lia);refine⟨[some (.int n),some (.lst X),some (.lst ((f6 n (m.take (i+1)) []).map .int)),some (.int (tZ n (m.take (i+1)))),some (.int s)],?_,_,rfl⟩;rw[W,u7,vF];generalize f6 n (m.take i) []=P1 at B ⊢;generalize tZ n (m.take i)=r;have ei:XE 2 (eC (D.int 0)) (a7 dS (aD 3) (aD 4)) [some (.int n),some (.lst X),some (.lst (P1.map .int)),some (.int r),some (.int s)]=some (.nx [some (.int n),some (.lst X),some (.lst (.int (r%s)::P1.map .int)),some (.int r),some (.int s)]):=by
   unfold XE;simp_all[bR h.1,B]
  have M:aS 4 (.int s) [some (.int n),some (.lst X),some (.lst (P1.map .int)),some (.int r),q]=some [some (.int n),some (.lst X),some (.lst (P1.map .int)),some (.int r),some (.int s)]:=rfl;unfold turn;rw[M,aA,aF ei,aM (d:=.int (r/s)) (by simp_all[MF h.1 h.2])];rfl
 ·rintro ρ' ⟨q,rfl⟩
  rw[zal,zbX];simp[-zac,-zab,aA,aB]
theorem rQ{C:Bk}{at_:D}:∀(l:List Sb) (o1 o2 o3:Option D),(∀s∈l,cC [at_,dY C s.1,.dK s.2.1,.int s.2.2.2]=some (memD (nP C s)))->bA (kQ 3 (eG (aS 0) (eG (aS 1) (eG (aS 2) tY)))) eY (aT dJ (aC (aT cC (aC (aD 3) (aC (aD 0) (aC (aD 1) (aC (aD 2) aY))))) aY)) (l.map λs=>.tup [dY C s.1,.dK s.2.1,.int s.2.2.2]) [o1,o2,o3,some at_]=some ((l.map λs=>nI (nP C s)).map .int)
 | [],o1,o2,o3,_=>rfl
 | s::l,o1,o2,o3,h=>by
  have ih:=rQ l (some (dY C s.1)) (some (.dK s.2.1)) (some (.int s.2.2.2)) λt q=>h t (zaq _ q)
  have e:=h s (zas ..);have n:=gE (nP C s);rw[zak,bA];simp_all[-zar,e,n,ih]
theorem QH{C:Bk}{at_:D}{l:List Sb}{rs:List D}(B:l.length<=100)(h:∀s∈l,cC [at_,dY C s.1,.dK s.2.1,.int s.2.2.2]=some (memD (nP C s))):xP [at_,.lst (l.map λs=>.tup [dY C s.1,.dK s.2.1,.int s.2.2.2]),.lst rs]=some (.lst (((l.map λs=>nI (nP C s))++[(rs.length:Int)]).map .int)):=by
 have c:=rQ l none none none h;have z:aZ l.length=true:=decide_eq_true (by lia);have q:aZ (l.length+1)=true:=decide_eq_true (by lia);refine aL ?_;unfold EL;simp_all[-zar,aG,i5,z,q,c]
theorem RY{C:Bk}{at_:D}(A:AtD C at_){j k:Int}(q:0<=j/\j<(C.kinds.length:Int))(B:0<=k/\k<(C.kinds.length:Int)):∃r,yG CA "routes" at_=some r/\aJ r (.tup [.int j,.int k])=some (.lst ((bS C.rs k 8 j).map tupI)):=by
 obtain⟨z,L2,rfl,ok⟩:=A;exact⟨.dT z,rfl,SO (ok j k ⟨q,B⟩).1⟩
theorem MZ{m:Nat}{a:Int}(h:LeT m a)(q:m<=16):a<10^250:=Int.lt_of_le_of_lt (h.mono q).2 (by decide +kernel)
theorem FW{C:Bk}:∀(gs:List Rg) (m:List Sb),uG C gs m=(gs.zip m).map λz=>(cQ C z.1 z.2.2.2.1 z.2.2.2.2,nI (nP C z.2))
 | [],m=>by cases m <;> rfl
 | g::gs,[]=>rfl
 | g::gs,s::m=>by rw[uG,FW gs m];rfl
theorem zip_get{g:Rg}{l:List Sb}{i:Nat}{z:Rg×Sb}(h:((b7 g).zip l)[i]?=some z):(b7 g)[i]?=some z.1/\l[i]?=some z.2:=by
 rw[List.getElem?_zip_eq_some]at h;exact h
abbrev Y5:=D×D×D×D×D
theorem mK{q:Str}{l ks pre rs:List D}{c w:D}(F:fL l 0=some (.str q))(J:¬ q = "use")(N:¬ q = "let")(U:iR [.tup l]=some (.tup ks))(M:cutD l none (some ((l.length:Int)-(ks.length:Int)))=pre)(z:pre.length+rs.length<=1000):gF [.tup l,c,.lst rs,w]=some (.tup (pre++rs++[w])):=by
 have G:aZ (pre.length+rs.length)=true:=decide_eq_true (by lia);have B:aZ (pre.length+rs.length+1)=true:=decide_eq_true (by lia);exact aL (by simp_all[fK,aG,F,J,N,U,M,G,B])
theorem yN:∀g:Rg,gF [bI (pa g),ch g,.lst (ir g),tupI (wy g)]=some (rd g)
 | .name x j w=>mK (ks:=[]) (pre:=[_,_]) (rs:=[]) at0 oA jY (m9 (.name x)) rfl (zcr rfl)
 | .num n j w=>mK (ks:=[]) (pre:=[_,_,_]) (rs:=[]) at0 lC iW (m9 (.num n j)) rfl (zcr rfl)
 | .use1 ..=>aL (by simp_all[fK,aG,pa,bI,ch,ir,wy,rd,at0])
 | .use2 ..=>aL (by simp_all[fK,aG,pa,bI,ch,ir,wy,rd,at0])
 | .lett ..=>aL (by simp_all[fK,aG,pa,bI,ch,ir,wy,rd,at0,at1,lI,sz5])
 | .pick c k p q r w=>mK (ks:=[_,_,_]) (pre:=[_,_,_]) (rs:=[rd p,rd q,rd r]) at0 lB iX (m9 (.pick c k (pa p) (pa q) (pa r))) rfl (zcr rfl)
 | .again c k x p q w=>mK (ks:=[_,_]) (pre:=[_,_,_,_]) (rs:=[rd p,rd q]) at0 lG fZ (m9 (.again c k x (pa p) (pa q))) rfl (zcr rfl)
theorem AY{C:Bk}:∀(gs:List Rg) (m:List Sb) (x:D),m.length=gs.length->lP (((uG C gs m).map λp=>.int p.1)++[x]) (m.map λs=>.tup [dY C s.1,.dK s.2.1,.int s.2.2.2])=(gs.zip m).map λz=>.tup [.int (cQ C z.1 z.2.2.2.1 z.2.2.2.2),.tup [dY C z.2.1,.dK z.2.2.1,.int z.2.2.2.2]]
 | [],m,x,h=>by rw[List.length_eq_zero_iff.mp h];rfl
 | g::gs,[],x,h=>by simp[-zac,-zab,aA,aB]at h
 | g::gs,s::m,x,h=>by rw[uG,zak,zak,zdL,lP,AY gs m x (by simpa using h)];rfl
theorem RT{C:Bk}{gs:List Rg}{m:List Sb}(h:m.length=gs.length):(uG C gs m).length=gs.length:=by
 rw[FW,zal,List.length_zip];lia
theorem M2:∀(gs:List Rg) (m:List Sb),m.length=gs.length->(gs.zip m).map (λz=>rd z.1)=gs.map rd
 | [],m,h=>rfl
 | g::gs,[],h=>by simp[-zac,-zab,aA,aB]at h
 | g::gs,s::m,h=>by rw[zd0,zak,zak,M2 gs m (by simpa using h)]
theorem KQ{R:List D->Option D}{at_ M W F G Jd bk pd r bd N rg:D}{wi:Int}{SP SZ J wl U:List D}{Y:List Y5}(hb:yG CA "book" at_=some bk)(np:yG CN "part" M=some pd)(sp:kG [at_,M,W,F,G]=some (.lst SP))(er:yG CA "routes" at_=some r)(bg:bL [bk,W,pd,F,G]=some bd)(ew:aJ r (.tup [bd,F])=some (.lst wl))(zs:xP [at_,.lst SP,.lst wl]=some (.lst SZ))(aj:sP [Jd,.lst SZ]=some (.lst J))(zn:lP J SP=Y.map λy=>.tup [y.1,.tup [y.2.1,y.2.2.1,y.2.2.2.1]])(zl:Y.length<=3)(kf:∀y∈Y,R [at_,y.2.1,y.2.2.1,y.2.2.2.1,y.1]=some y.2.2.2.2)(zr:Y.map (·.2.2.2.2)=U)(ai:fL J (SP.length:Int)=some (.int wi))(ix:fL wl wi=some N)(ab:gF [pd,G,.lst U,N]=some rg) :
  fF R (aG 12 [at_,M,W,F,G,Jd])=some (.rt rg):=by
 unfold fF;rw[aF (aM (d:=.lst SP) (by ac_rfl))];rw[aF (aM (d:=.lst wl) (by ac_rfl))];rw[aF (aM (d:=.lst J) (by ac_rfl))];rw[aF (aM (d:=.lst []) rfl)];refine iS (items:=Y.map λy=>.tup [y.1,.tup [y.2.1,y.2.2.1,y.2.2.2.1]]) (by ac_rfl) (λi ρ=>∃q B,ρ=[some at_,some M,some W,some F,some G,some Jd,some (.lst SP),some (.lst wl),some (.lst J),some (.lst ((Y.take i).map (·.2.2.2.2))),q,B]) ⟨none,none,rfl⟩ ?_ ?_
 ·rintro i y ρ hy ⟨q,B,rfl⟩
  rw[zaB]at hy;obtain⟨z,hz,rfl⟩:=map_some hy;have et:Y.take (i+1)=Y.take i++[z]:=by rw[zc5,hz];rfl
  have ek:=kf z (zaw hz);refine⟨[some at_,some M,some W,some F,some G,some Jd,some (.lst SP),some (.lst wl),some (.lst J),some (.lst ((Y.take (i+1)).map (·.2.2.2.2))),some z.1,some (.tup [z.2.1,z.2.2.1,z.2.2.2.1])],?_,_,_,rfl⟩;rw[et,zaP];have z2:((Y.take i).map (·.2.2.2.2)).length<=1000000:=by rw[zal,zb8];lia
  ac_rfl
 ·rintro ρ' ⟨q,B,rfl⟩
  rw[zal,zbX,zr]
  ac_rfl
theorem uL{C:Bk}(B:OkB C){U:List Str}(hU:U.length<=8){at_:D}(A:AtD C at_){g:Rg}{kn:List (Str×Int)}{d:List (Key×D)}{e:eM}{k:Int}{R:List D->Option D}(ad:size g<=16)(w:WI C U kn g d e k)(IH:∀q,size q<size g->∀G d' e' k',WI C U G q d' e' k'->R [at_,dY C (pa q),.dK d',.int k',.int (cQ C q e' k')]=some (rd q)) :
  bG 12 (fF R) [at_,dY C (pa g),.dK d,.int k,ch g,.int (cS 0 (BG C g d e k))]=some (rd g):=by
 refine aL ?_;have I:=w.pi B;have N:=tR B w.ok w.wf;have sp:=TF B A I N;have bg:=SS I N;have bo:=xU B I N;have wk:=C4 w.ec w.wf;have hb:=A.book;have np:=nB C (pa g);obtain⟨r,er,ew⟩:=RY A bo ⟨I.k0,I.k1⟩;have J:=CY B w;have k3:(b7 g).length<=3:=by cases g <;> simp_all[b7]
 have ps:psz (pa g)<=16:=by rw[cE];exact ad
 have zs:=QH (C:=C) (at_:=at_) (l:=sb C (pa g) d e k (ch g)) (rs:=(bS C.rs k 8 (dE C (pa g) e k (ch g))).map tupI) (by lia) λs hs=>by
  obtain⟨i,hi⟩:=zcu hs;have sk:=fX (tV hs);obtain⟨q,kk,h1,h2,rfl⟩:=iQ hi;exact A9 B hU A 16 _ _ _ _ (by simp only at sk ⊢;lia) (by simp only at sk ⊢;lia) (by rw[zaO];exact I.kid B N h1 h2)
 have l8:=XA B (dE C (pa g) e k (ch g)) k;have F:(BG C g d e k).map (·.2)=(sb C (pa g) d e k (ch g)).map (λs=>nI (nP C s))++[((bS C.rs k 8 (dE C (pa g) e k (ch g))).length:Int)]:=by
  unfold BG;rw[zaP,w6 J];rfl
 have nl:(BG C g d e k).length=(b7 g).length+1:=by
  have:=congrArg zbm F;simp[-zac,-zab,aA,aB]at this;lia
 have inr:=w.inr B;have pd:=JL (l:=(BG C g d e k).map (·.2)) (by rw[zal];lia) (λs hs=>by
  obtain⟨p,hp,W⟩:=List.mem_map.mp hs;have a:=inr p hp;refine⟨by lia,?_⟩;rw[F]at hs;refine Int.lt_trans ?_ (show(10:Int)^250<10^500 by decide +kernel);rcases List.mem_append.mp hs with z|z
  ·obtain⟨s,hs,W⟩:=List.mem_map.mp z
   rw[<- W];exact MZ (qC B _ s.1 (zai _) _ _) (by have:=fX (tV hs);lia)
  ·rw[List.mem_singleton.mp z]
   exact MZ (m:=1) ⟨by lia,zcI l8 (by decide)⟩ (by decide)) (cS 0 (BG C g d e k))
 have pj:=u3 (BG C g d e k) 0 [] [] inr;rw[zbv,zbv]at pj;rw[pj,show f6 0 [] ((BG C g d e k).map (·.1))=(BG C g d e k).map (·.1)from rfl,F]at pd;rw[zal]at zs;have k6:=B.k6;have wm:=mX B.gr (n:=8) (by have:=I.k1;lia) wk;have ix:fL ((bS C.rs k 8 (dE C (pa g) e k (ch g))).map tupI) (((bS C.rs k 8 (dE C (pa g) e k (ch g))).idxOf (wy g):Nat):Int)=some (tupI (wy g)):=bV (by
  rw[zaB,zaS (zew wm),List.getElem_idxOf];rfl)
 have zn:=AY (C:=C) (b7 g) (sb C (pa g) d e k (ch g)) (.int ((bS C.rs k 8 (dE C (pa g) e k (ch g))).idxOf (wy g):Nat)) J;have aa:((BG C g d e k).map (·.1)).map D.int=(((uG C (b7 g) (sb C (pa g) d e k (ch g))).map λp=>D.int p.1)++[.int ((bS C.rs k 8 (dE C (pa g) e k (ch g))).idxOf (wy g):Nat)]):=by
  unfold BG;rw[zar,zaP];rfl
 rw[aa]at pd;have M:((uG C (b7 g) (sb C (pa g) d e k (ch g))).map λp=>D.int p.1).length=(sb C (pa g) d e k (ch g)).length:=by rw[zal,RT J,J]
 have ac:fL (((uG C (b7 g) (sb C (pa g) d e k (ch g))).map λp=>D.int p.1)++[.int ((bS C.rs k 8 (dE C (pa g) e k (ch g))).idxOf (wy g):Nat)]) ((sb C (pa g) d e k (ch g)).length:Int)=some (.int ((bS C.rs k 8 (dE C (pa g) e k (ch g))).idxOf (wy g):Nat)):=bV (by
  rw[zdi (by lia),M,Nat.sub_self];rfl)
 refine KQ (Y:=((b7 g).zip (sb C (pa g) d e k (ch g))).map λz=>(.int (cQ C z.1 z.2.2.2.1 z.2.2.2.2),dY C z.2.1,.dK z.2.2.1,.int z.2.2.2.2,rd z.1)) hb np sp er bg ew zs pd (by rw[zn,zar];rfl) (by rw[zal,List.length_zip];lia) (λy hy=>?_) (by rw[zar];exact(M2 (b7 g) (sb C (pa g) d e k (ch g)) J).trans (PM g).symm) (by rw[zal];exact ac) ix (yN g);obtain⟨z,hz,rfl⟩:=List.mem_map.mp hy;obtain⟨i,hi⟩:=zcu hz;obtain⟨a,b⟩:=zip_get hi;obtain⟨W,G,w'⟩:=w.at B a b;show R [at_,dY C z.2.1,.dK z.2.2.1,.int z.2.2.2.2,.int _]=_;rw[W];exact IH z.1 (wW (zaw a)) G _ _ _ w'
theorem L8{C:Bk}(B:OkB C){U:List Str}(M:U.length<=8){at_:D}(A:AtD C at_):∀(n:Nat) (g:Rg) (kn:List (Str×Int)) (d:List (Key×D)) (e:eM) (k:Int),size g<=n->size g<=16->WI C U kn g d e k->gC 8 fA n [at_,dY C (pa g),.dK d,.int k,.int (cQ C g e k)]=some (rd g)
 | 0,g,kn,d,e,k,h,_,_=>by have:=dB (pa g);rw[cE]at this;lia
 | n+1,g,kn,d,e,k,h,h16,w=>by
  show bG 8 (fA (gC 8 fA n)) _=_;have tc:=uL B M A (R:=gC 8 fA n) h16 w λq hq N d' e' k' w'=>L8 B M A n q N d' e' k' (by lia) (by lia) w'
  generalize gC 8 fA n=R at tc ⊢;refine aL ?_;have I:=w.pi B;have cm:=tR B w.ok w.wf;have wc:=vM B (pa g);have hb:=A.book;have np:=nB C (pa g);have ps:psz (pa g)<=16:=by rw[cE];exact h16
  have Y:∀c∈bP C (pa g),lX [at_,dY C (pa g),.dK d,.int k,c]=some (memD (qE C (pa g) d e k c)):=λc z=>M1 B A I z ps λs _ hI hz=>A9 B M A 16 s.1 s.2.1 s.2.2.1 s.2.2.2 (by lia) (by lia) hI
  obtain⟨t,F⟩:=zcu cm;have bp:=ET (f:=qE C (pa g) d e k) F;have jn:=w.join B;have nn:=MX C (pa g) d e k;rw[EG C g d e k,bp,show(uG C (b7 g) (sb C (pa g) d e k (ch g))++[kA C (dE C (pa g) e k (ch g)) k (wy g)])=BG C g d e k from rfl];generalize cS 0 (BG C g d e k)=J at *;generalize qE C (pa g) d e k=f at *;generalize bP C (pa g)=chs at *;generalize ch g=cg at *;generalize dY C (pa g)=nd at *;generalize rd g=rg at *;unfold fA;rw[aF (aM (d:=.int (cZ chs f t+J)) rfl)];refine tH ?_;rw[q_for];have ei:fQ (aT fS (aC (dW CA "book" (aD 0)) (aC (dW CN "part" (aD 1)) aY))) ((aG 8 [at_,nd,.dK d,.int k,.int (cZ chs f t+J)]).set 5 (some (.int (cZ chs f t+J))))=some chs:=by ac_rfl
  rw[ei];refine F4 t (λi ρ=>∃W G,ρ=[some at_,some nd,some (.dK d),some (.int k),some (.int (cZ chs f t+J)),some (.int (cZ chs f t+J-cZ chs f i)),W,G]) ⟨none,none,by rw[show cZ chs f 0=0 from rfl,Int.sub_zero];rfl⟩ (List.getElem?_eq_some_iff.mp F).1 ?_ ?_
  ·rintro i c ρ hi z ⟨W,G,rfl⟩
   have ec:=Y c (zaw z);have en:=gE (f c);have s:=sH (f:=f) z;have m:=AW nn (l:=chs) (i:=i+1) (j:=t) (by lia);have lt:¬ cZ chs f t+J-cZ chs f i<nI (f c):=by lia
   refine⟨[some at_,some nd,some (.dK d),some (.int k),some (.int (cZ chs f t+J)),some (.int (cZ chs f t+J-cZ chs f (i+1))),some c,some (.int (nI (f c)))],?_,_,_,rfl⟩;rw[s,show cZ chs f t+J-(cZ chs f i+nI (f c))=cZ chs f t+J-cZ chs f i-nI (f c) by lia];generalize cZ chs f t+J-cZ chs f i=x at lt ⊢
   ac_rfl
  ·rintro c ρ z ⟨W,G,rfl⟩
   have:c=cg:=by rw[F]at z;injection z with z;exact z.symm
   subst this;have ec:=Y c (zaw F);have en:=gE (f c);rw[show cZ chs f t+J-cZ chs f t=J by lia];have lt:=jn.2
   ac_rfl
theorem nW:∀(l:List (Int×Int)) (n:Int),cS n l=n*jA (l.map (·.2))+cS 0 l
 | [],n=>by simp_all[cS,jA]
 | (a,s)::l,n=>by
  rw[cS,nW l,cS,nW l (0*s+a),zak,jA,Int.zero_mul,zbo,Int.add_mul,zdM,zc4]
theorem digits:∀(l:List Int) (r:Int),NN l->0<=r->r<jA l->∃zs:List (Int×Int),zs.map (·.2)=l/\TV zs/\cS 0 zs=r
 | [],r,_,h0,h1=>⟨[],rfl,(λ_ h=>by cases h),by simp[-zac,-zab,aA,aB,jA]at h1;show(0:Int)=r;lia⟩
 | s::l,r,hn,h0,h1=>by
  have F:NN l:=λx hx=>hn x (zaq _ hx)
  have B:=xY F;have N:=hn s (zas ..);rw[jA]at h1;have q:0<jA l:=by
   rcases Int.lt_or_eq_of_le B with z|z
   ·exact z
   ·rw[<- z,Int.mul_zero]at h1;lia
  obtain⟨zs,G,J,M⟩:=digits l (r%jA l) F (zat _ (by lia)) (zav _ q);refine⟨(r/jA l,s)::zs,by rw[zak,G],t8 ⟨Int.ediv_nonneg h0 B,Int.ediv_lt_of_lt_mul q h1⟩ J,?_⟩;rw[cS,nW,G,M,Int.zero_mul,zbo];have:=Int.mul_ediv_add_emod r (jA l);rw[Int.mul_comm]at this;exact this
theorem zF{l:List D}{f:D->Sm}(B:∀c,0<=nI (f c)){n:Int}(F:0<=n):∀m,n<cZ l f m->∃t c,l[t]?=some c/\cZ l f t<=n/\n<cZ l f t+nI (f c)
 | 0,h=>by simp[-zac,-zab,aA,aB,cZ]at h;lia
 | m+1,h=>by
  by_cases z:n<cZ l f m
  ·exact zF B F m z
  ·cases hc:l[m]? with
   | some c=>rw[sH hc]at h;exact⟨m,c,hc,by lia,h⟩
   | none=>
    have q:l.length<=m:=List.getElem?_eq_none_iff.mp hc;have e:cZ l f (m+1)=cZ l f m:=by unfold cZ;rw[zbZ (by lia),zbZ q]
    lia
def PaW(C:Bk)(U:List Str):List Str->Pa->Prop
 | _,.name _=>True
 | _,.num n _=>0<=n/\n<C.M
 | N,.use1 _ p=>PaW C U N p
 | N,.use2 _ p q=>PaW C U N p/\PaW C U N q
 | N,.lett x p q=>PaW C U N p/\(x∉N/\x∈U)/\PaW C U (x::N) q
 | N,.pick _ _ p q r=>PaW C U N p/\PaW C U N q/\PaW C U N r
 | N,.again n _ x p q=>(0<=n/\n<4)/\PaW C U N p/\(x∉N/\x∈U)/\PaW C U (x::N) q
theorem N2{C:Bk}{U:List Str}:∀ {g:Rg} {kn:List (Str×Int)} {N:List Str} {k:Int},WF C kn g k->NF U N g->PaW C U N (pa g)
 | .name x j w,kn,N,k,W,F=>trivial
 | .num n j w,kn,N,k,W,F=>W.1
 | .use1 v nm p w,kn,N,k,⟨m,t,a,b,c,d,f⟩,F=>N2 (g:=p) d F
 | .use2 v nm p q w,kn,N,k,⟨m,t,u,a,b,c,d,d2,f⟩,F=>⟨N2 d F.1,N2 d2 F.2⟩
 | .lett x j p q,kn,N,k,⟨a,b⟩,F=>⟨N2 a F.1,F.2.1,N2 b F.2.2⟩
 | .pick c k' p q r w,kn,N,k,⟨a,b,c1,c2,c3,d⟩,F=>⟨N2 c1 F.1,N2 c2 F.2.1,N2 c3 F.2.2⟩
 | .again n k' x p q w,kn,N,k,⟨a,b,c1,c2,d⟩,F=>⟨a,N2 c1 F.1,F.2.1,N2 c2 F.2.2⟩
theorem PaW.nf{C:Bk}{U:List Str}:∀ {g:Rg} {N:List Str},PaW C U N (pa g)->NF U N g
 | .name x j w,N,h=>trivial
 | .num n j w,N,h=>trivial
 | .use1 v nm p w,N,h=>PaW.nf (g:=p) h
 | .use2 v nm p q w,N,h=>⟨PaW.nf h.1,PaW.nf h.2⟩
 | .lett x j p q,N,h=>⟨PaW.nf h.1,h.2.1,PaW.nf h.2.2⟩
 | .pick c k' p q r w,N,h=>⟨PaW.nf h.1,PaW.nf h.2.1,PaW.nf h.2.2⟩
 | .again n k' x p q w,N,h=>⟨PaW.nf h.2.1,h.2.2.1,PaW.nf h.2.2.2⟩
def XR(kn:List (Str×Int))(p:Pa)(c:D)(i:Nat):List (Str×Int):=match hid p i with
 | none=>kn
 | some x=>(x,DS p c)::kn
structure SI(C:Bk)(U:List Str)(kn:List (Str×Int))(p:Pa)(d:List (Key×D))(e:eM)(k:Int):Prop where
 pi:PI' C U p d e k
 pw:PaW C U (kn.map (·.1)) p
 nk:∀x∈aP p,(x,e x)∈kn
theorem PaW.kid{C:Bk}{U:List Str}{kn:List (Str×Int)}{p q:Pa}{c:D}{i:Nat}(h:PaW C U (kn.map (·.1)) p)(z:(kids p)[i]?=some q):PaW C U ((XR kn p c i).map (·.1)) q:=by
 cases p with
 | name y=>simp[-zac,-zab,aA,aB,kids]at z
 | num n j=>simp[-zac,-zab,aA,aB,kids]at z
 | use1 nm p=>obtain⟨rfl,rfl⟩:=N1 z;exact h
 | use2 nm p q=>rcases uM z with⟨rfl,rfl⟩|⟨rfl,rfl⟩;exact h.1;exact h.2
 | lett y p q=>rcases uM z with⟨rfl,rfl⟩|⟨rfl,rfl⟩;exact h.1;exact h.2.2
 | pick c k p q r=>rcases get3 z with⟨rfl,rfl⟩|⟨rfl,rfl⟩|⟨rfl,rfl⟩;exact h.1;exact h.2.1;exact h.2.2
 | again n k y p q=>rcases uM z with⟨rfl,rfl⟩|⟨rfl,rfl⟩;exact h.2.1;exact h.2.2.2
theorem SI.kid{C:Bk}(B:OkB C){U:List Str}{kn:List (Str×Int)}{p:Pa}{d:List (Key×D)}{e:eM}{k:Int}(h:SI C U kn p d e k){c:D}(M:c∈bP C p){i:Nat}{q:Pa}{G:Int}(F:(kids p)[i]?=some q)(J:(BJ C p k c)[i]?=some G):SI C U (XR kn p c i) q (JI p d c i) (N3 p e c i) G:=by
 refine⟨h.pi.kid B M F J,h.pw.kid F,λx hx=>?_⟩;unfold N3 XR;cases e1:hid p i with
 | none=>exact h.nk x (pY F hx (by rw[e1];simp[-zac,-zab,aA,aB]))
 | some y=>
  simp only[eW];by_cases z:x=y
  ·rw[if_pos z,z];exact zas ..
  ·rw[if_neg z]
   exact zaq _ (h.nk x (pY F hx (by rw[e1];intro w;injection w with w;exact z w)))
theorem Z1{q:Type}{l:List q}(h:l.length=1):∃a,l=[a]:=List.length_eq_one_iff.mp h
theorem XB{q:Type}{l:List q}(h:l.length=2):∃a b,l=[a,b]:=by
 match l,h with
 | [a,b],_=>exact⟨a,b,rfl⟩
theorem qaK{q:Type}{l:List q}(h:l.length=3):∃a b c,l=[a,b,c]:=by
 match l,h with
 | [a,b,c],_=>exact⟨a,b,c,rfl⟩
theorem OA{C:Bk}(B:OkB C){k:Int}{w:List Int}(h:gw C.rs k w=some k):w=[]:=by
 have:=jV B.gr h;exact List.length_eq_zero_iff.mp (by lia)
theorem build{C:Bk}(B:OkB C){U:List Str}{kn:List (Str×Int)}{p:Pa}{d:List (Key×D)}{e:eM}{k:Int}(h:SI C U kn p d e k){c:D}(N:c∈bP C p){gs:List Rg}(J:gs.length=(kids p).length)(F:∀(i:Nat) (q:Rg) (kk:Int),gs[i]?=some q->(BJ C p k c)[i]?=some kk->(kids p)[i]?=some (pa q)/\WF C (XR kn p c i) q kk){w:List Int}(hw:gw C.rs (dE C p e k c) w=some k) :
  ∃g,pa g=p/\ch g=c/\b7 g=gs/\wy g=w/\WF C kn g k:=by
 cases p with
 | name x=>
  refine⟨.name x (e x) w,rfl,(List.mem_singleton.mp N).symm,(List.length_eq_zero_iff.mp J).symm,rfl,h.nk x (List.mem_singleton.mpr rfl),hw⟩
 | num n j=>exact⟨.num n j w,rfl,(List.mem_singleton.mp N).symm,(List.length_eq_zero_iff.mp J).symm,rfl,h.pw,h.pi.ok,hw⟩
 | use1 nm p=>
  obtain⟨v,m,rfl,M,Y,hl⟩:=fM N;obtain⟨a,rfl⟩:=Z1 J;have z:=F 0 a _ rfl rfl;have t:=C2 M hl;simp only[dE,dA,dZ M]at hw;have G:p=pa a:=by simpa[kids]using z.1
  rw[dA]at z;exact⟨.use1 v nm a w,by rw[G];rfl,rfl,rfl,rfl,m,_,M,Y,t,z.2,hw⟩
 | use2 nm p q=>
  obtain⟨v,m,rfl,M,Y,hl⟩:=fM N;obtain⟨a,b,rfl⟩:=XB J;have z:=F 0 a _ rfl rfl;have h1:=F 1 b _ rfl rfl;have t:=DI M hl;simp only[dE,dA,dZ M]at hw;have G:p=pa a:=by simpa[kids]using z.1
  have W:q=pa b:=by simpa[kids]using h1.1
  rw[dA]at z h1;exact⟨.use2 v nm a b w,by rw[G,W];rfl,rfl,rfl,rfl,m,_,_,M,Y,t,z.2,h1.2,hw⟩
 | lett x p q=>
  obtain⟨v,rfl,hv⟩:=tM N;obtain⟨a,b,rfl⟩:=XB J;have z:=F 0 a _ rfl rfl;have h1:=F 1 b _ rfl rfl;have G:p=pa a:=by simpa[kids]using z.1
  have W:q=pa b:=by simpa[kids]using h1.1
  exact⟨.lett x (v:Int) a b,by rw[G,W];rfl,rfl,rfl,(OA B hw).symm,z.2,h1.2⟩
 | pick c' k' p q r=>
  obtain⟨a,b,c1,rfl⟩:=qaK J;have z:=F 0 a _ rfl rfl;have h1:=F 1 b _ rfl rfl;have h2:=F 2 c1 _ rfl rfl;have G:p=pa a:=by simpa[kids]using z.1
  have W:q=pa b:=by simpa[kids]using h1.1
  have e2:r=pa c1:=by simpa[kids]using h2.1
  exact⟨.pick c' k' a b c1 w,by rw[G,W,e2];rfl,(List.mem_singleton.mp N).symm,rfl,rfl,h.pi.ok.1,h.pi.ok.2.1,z.2,h1.2,h2.2,hw⟩
 | again n k' x p q=>
  obtain⟨a,b,rfl⟩:=XB J;have z:=F 0 a _ rfl rfl;have h1:=F 1 b _ rfl rfl;have G:p=pa a:=by simpa[kids]using z.1
  have W:q=pa b:=by simpa[kids]using h1.1
  exact⟨.again n k' x a b w,by rw[G,W];rfl,(List.mem_singleton.mp N).symm,rfl,rfl,h.pw.1,h.pi.ok.1,z.2,h1.2,hw⟩
theorem AQ{C:Bk}:∀ {gs:List Rg} {l:List Sb} {zs:List (Int×Int)},gs.length=l.length->zs.length=l.length->(∀(i:Nat) (q:Rg) (s:Sb) (z:Int×Int),gs[i]?=some q->l[i]?=some s->zs[i]?=some z->z=(cQ C q s.2.2.1 s.2.2.2,nI (nP C s)))->uG C gs l=zs
 | [],l,zs,h1,h2,_=>by
  have:l=[]:=List.length_eq_zero_iff.mp h1.symm;subst this;rw[List.length_eq_zero_iff.mp h2];rfl
 | g::gs,[],zs,h1,_,_=>by simp[-zac,-zab,aA,aB]at h1
 | g::gs,s::l,[],_,h2,_=>by simp[-zac,-zab,aA,aB]at h2
 | g::gs,s::l,z::zs,h1,h2,h=>by
  rw[uG,h 0 g s z rfl rfl rfl,AQ (by simpa using h1) (by simpa using h2) λi q s z a b c=>h (i+1) q s z (by simpa using a) (by simpa using b) (by simpa using c)]
theorem FP{B β:Type}(P:Nat->β->B->Prop):∀(l:List β) (j:Nat),(∀i b,l[i]?=some b->∃a,P (j+i) b a)->∃as:List B,as.length=l.length/\∀(i:Nat) (b:β) (a:B),l[i]?=some b->as[i]?=some a->P (j+i) b a
 | [],j,_=>⟨[],rfl,λi b a h=>by simp[-zac,-zab,aA,aB]at h⟩
 | b::l,j,h=>by
  obtain⟨a,G⟩:=h 0 b rfl;obtain⟨as,h1,h2⟩:=FP P l (j+1) λi b z=>by
   have:=h (i+1) b (by simpa using z)
   rwa [show j+(i+1)=j+1+i by lia]at this
  refine⟨a::as,by simp_all[h1],λi J F z q=>?_⟩;cases i with
  | zero=>cases z;cases q;exact G
  | succ i=>have:=h2 i J F (by simpa using z) (by simpa using q);rwa [show j+1+i=j+(i+1) by lia]at this
theorem Z3{C:Bk}(B:OkB C){U:List Str}:∀(m:Nat) (p:Pa) (kn:List (Str×Int)) (d:List (Key×D)) (e:eM) (k n:Int),psz p<=m->SI C U kn p d e k->0<=n->n<nI (aR C p e k)->∃g,pa g=p/\WF C kn g k/\cQ C g e k=n
 | 0,p,kn,d,e,k,n,h,_,_,_=>by have:=dB p;lia
 | m+1,p,kn,d,e,k,n,h,S,n0,n1=>by
  rw[<- PK C p d e k]at n1;obtain⟨t,c,ht,a1,a2⟩:=zF (MX C p d e k) n0 _ n1;have Y:=zaw ht;have kl:=GL B S.pi.ok S.pi.k0 S.pi.k1 Y;have sl:(sb C p d e k c).length=(kids p).length:=xN kl.1.symm;have e1:nI (qE C p d e k c)=jA ((sb C p d e k c).map (λs=>nI (nP C s))++[((bS C.rs k 8 (dE C p e k c)).length:Int)]):=by
   unfold qE;rw[eS,zar];rfl
  rw[e1]at a2;obtain⟨zs,z1,z2,z3⟩:=digits ((sb C p d e k c).map (λs=>nI (nP C s))++[((bS C.rs k 8 (dE C p e k c)).length:Int)]) (n-cZ (bP C p) (qE C p d e k) t) (λx hx=>by
   rcases List.mem_append.mp hx with z|z
   ·obtain⟨s,_,rfl⟩:=List.mem_map.mp z;exact cF ..
   ·rw[List.mem_singleton.mp z];lia) (by lia) (by lia)
  obtain⟨ys,w,rfl,y1,y2⟩:=List.map_eq_append_iff.mp z1;obtain⟨F,rfl⟩:∃x,w=[x]:=by
   have:=congrArg zbm y2;simp[-zac,-zab,aA,aB]at this;exact Z1 this
  have W:F.2=((bS C.rs k 8 (dE C p e k c)).length:Int):=by simpa using y2
  have wr:=z2 F (zaV _ (List.mem_singleton.mpr rfl));have yl:ys.length=(sb C p d e k c).length:=by have:=congrArg zbm y1;simpa using this
  -- the kids
  obtain⟨gs,g1,g2⟩:=FP (λi (s:Sb) q=>pa q=s.1/\WF C (XR kn p c i) q s.2.2.2/\∀z,ys[i]?=some z->z=(cQ C q s.2.2.1 s.2.2.2,nI (nP C s))) (sb C p d e k c) 0 λi s hs=>by
   obtain⟨q,kk,h1,h2,rfl⟩:=iQ hs;rw[zaO];have hi:=(List.getElem?_eq_some_iff.mp hs).1;have J:ys[i]?=some ys[i]:=zaS (by lia);have zi:=z2 ys[i] (zbs _ (zaw J));have G:(ys[i]).2=nI (nP C (q,JI p d c (0+i),N3 p e c (0+i),kk)):=by
    have a:=congrArg (λl=>l[i]?) y1;simp only[zaB,J,hs,zab]at a;injection a
   rw[zaO]at G;obtain⟨g,b1,b2,b3⟩:=Z3 B m q (XR kn p c i) (JI p d c i) (N3 p e c i) kk (ys[i]).1 (by have:=fX (zaw h1);lia) (S.kid B Y h1 h2) zi.1 (by rw[G]at zi;exact zi.2);refine⟨g,b1,b2,λz M=>?_⟩;rw[J]at M;cases M;rw[b3,<- G]
  -- the way
  have wi:F.1.toNat<(bS C.rs k 8 (dE C p e k c)).length:=by lia
  have wm:=zei wi;have wg:=iJ wm;have ix:(bS C.rs k 8 (dE C p e k c)).idxOf (bS C.rs k 8 (dE C p e k c))[F.1.toNat]=F.1.toNat:=List.Nodup.idxOf_getElem (BX 8 _) F.1.toNat wi;obtain⟨g,q1,q2,q3,q4,q5⟩:=build B S Y (gs:=gs) (by rw[g1,sl]) (λi q kk N hk=>by
   have hi:=(List.getElem?_eq_some_iff.mp N).1;have hs:(sb C p d e k c)[i]?=some (sb C p d e k c)[i]:=zaS (by lia);have:=g2 i _ q hs N;rw[zaO]at this;obtain⟨q',ar,h1,h2,h3⟩:=iQ hs;rw[h3]at this;rw[hk]at h2;cases h2;exact⟨by rw[h1,this.1],this.2.1⟩) wg
  refine⟨g,q1,q5,?_⟩;rw[EG C g d e k,q1,q2,q3,q4,ET ht];have nz:uG C gs (sb C p d e k c)=ys:=AQ g1 yl λi q s z N hs J=>by
   have:=(g2 i s q hs N).2.2;rw[zaO]at this;exact this z J
  rw[nz];have ww:kA C (dE C p e k c) k (bS C.rs k 8 (dE C p e k c))[F.1.toNat]=F:=by
   unfold kA;rw[ix];exact Prod.ext (by simp only;lia) W.symm
  rw[ww,z3];lia
theorem wH(ns:List Int):∃v:Int,hW [.lst (ns.map .int)]=some (.int v)/\0<=v:=by
 suffices h:∃d,hW [.lst (ns.map .int)]=some d/\∃v:Int,d=.int v/\0<=v by
  obtain⟨d,h1,v,rfl,h2⟩:=h;exact⟨v,h1,h2⟩
 have q:(10:Int)^60=1000000000000000000000000000000000000000000000000000000000000:=by decide +kernel
 have pw:NX (.int 10) (.int 60)=some (.int 1000000000000000000000000000000000000000000000000000000000000):=by
  rw[F8 (by decide) (by decide) (by decide)];exact congrArg (λx=>some (D.int x)) q
 refine dQ ?_;unfold mJ;rw[aF (aM (d:=.int 7) (by simp[-zac,-zab,aA,aB]))];refine iY (items:=ns.map .int) (by simp_all[aG]) (λi ρ=>∃(v:Int) (o:Option D),ρ=[some (.lst (ns.map .int)),some (.int v),o]/\0<=v/\v<10^60) ⟨7,none,by simp_all[aG],by decide,by decide +kernel⟩ ?_ ?_
 ·rintro i x ρ hx ⟨v,o,rfl,z,F⟩
  rw[zaB]at hx;obtain⟨c,_,rfl⟩:=Option.map_eq_some_iff.mp hx;have b:(10:Int)^60<10^250:=by decide +kernel
  have B:cT (.int v) (.int 1000003)=some (.int (v*1000003)):=cG (by lia) (by lia) (by decide +kernel) (by decide +kernel);refine⟨[some (.lst (ns.map .int)),some (.int ((v*1000003+c)%1000000000000000000000000000000000000000000000000000000000000)),some (.int c)],?_,_,_,rfl,zat _ (by decide),?_⟩
  ·simp_all[turn,B,pw,bR]
  ·rw[q];exact zav _ (by decide)
 ·rintro ρ ⟨v,o,rfl,z,F⟩
  exact⟨_,by simp[-zac,-zab,aA,aB],v,rfl,z⟩
def knK(p:Str×Int):Key×D:=(.inr p.1,.int p.2)
theorem ED:∀l:List (Str×Int),DL (l.map bQ)=some (l.map knK)
 | []=>rfl
 | p::l=>by
  show(XN (.str p.1)).bind _=_;show(some (.inr p.1:Key)).bind _=_;rw[aA,ED l];rfl
theorem vR:∀(l kn:List (Str×Int)) (acc:List (Key×D)),Cons acc kn->(l.map (·.1)++kn.map (·.1)).Nodup->Cons (kN acc (l.map knK)) (l++kn)
 | [],kn,acc,h,_=>h
 | p::l,kn,acc,h,nd=>by
  rw[zak,zdL,List.nodup_cons]at nd;have G:p.1∉kn.map (·.1):=λz=>nd.1 (zaV _ z)
  have h2:=h.put (j:=p.2) G;have B:(l.map (·.1)++((p.1,p.2)::kn).map (·.1)).Nodup:=by
   have a:=List.nodup_append.mp nd.2;rw[zak,zel];refine⟨a.1,List.nodup_cons.mpr ⟨G,a.2.1⟩,λy J z M=>?_⟩;rcases List.mem_cons.mp M with e|e
   ·intro w;exact nd.1 (zbs _ (by rw[<- e,<- w];exact J))
   ·exact a.2.2 y J z e
  have ih:=vR l ((p.1,p.2)::kn) (putD acc (.inr p.1) (.int p.2)) h2 B;show Cons (kN (putD acc (.inr p.1) (.int p.2)) (l.map knK)) _;intro q F;refine ih q ?_;rw[zdL]at F;rcases List.mem_cons.mp F with z|z
  ·rw[z];exact zaV _ (zas ..)
  ·rcases List.mem_append.mp z with z|z
   ·exact zbs _ z
   ·exact zaV _ (zaq _ z)
theorem AV:∀(l:List (Key×D)) (acc:List (Key×D)),(kN acc l).length<=acc.length+l.length
 | [],acc=>by show acc.length<=_;simp[-zac,-zab,aA,aB]
 | p::l,acc=>by
  have:=AV l (putD acc p.1 p.2);have:=sO (d:=acc) (k:=p.1) (e:=p.2);show(kN (putD acc p.1 p.2) l).length<=_;rw[zaz];lia
theorem CC{l:List (Str×Int)}(F:(l.map (·.1)).Nodup)(G:l.length<=100):∃d,fN [.lst (l.map bQ)]=some (.dK d)/\fN [.tup (l.map bQ)]=some (.dK d)/\Cons d l/\d.length<=100:=by
 have B:aZ (l.map bQ).length=true:=decide_eq_true (by rw[zal];lia);have z:fN [.lst (l.map bQ)]=(if aZ (l.map bQ).length=true then(DL (l.map bQ)).map λkvs=>D.dK (kN [] kvs)else none):=rfl;have q:fN [.tup (l.map bQ)]=(if aZ (l.map bQ).length=true then(DL (l.map bQ)).map λkvs=>D.dK (kN [] kvs)else none):=rfl;rw[if_pos B,ED,aB]at z q;have c:=vR l [] [] (λ_ h=>nomatch h) (by simpa using F);rw[zbv]at c;have:=AV (l.map knK) [];simp[-zac,-zab,aA,aB]at this;exact⟨_,z,q,c,by lia⟩
theorem eqN.lst{n:Nat}{l:List D}(h:∀d∈l,eqN n d):eqN (n+1) (.lst l):=by
 obtain⟨xs,e,a,b⟩:=eqN.list h;refine⟨.lst xs,?_,a,?_⟩
 ·rw[i9,e];rfl
 ·show My.uA xs+1<=n+1
  lia
theorem names8(ns:List Int):∃nms:List Str,nms.length=8/\nms.Nodup/\bA (aS 0) eY (aT b9 (aC (aT bY (aC (aD 1) (aC (eC (.int 23)) aY))) (aC (aD 0) aY))) (aQ 0 1 8) [none,some (.lst (ns.map .int))]=some (nms.map .str):=by
 obtain⟨f,J⟩:=dN ns;have q:=(J 23 (by decide) (by decide)).1;obtain⟨nm,e,inj⟩:=QU (f 23);have M:=gY (K:=8) (f:=aT b9 (aC (aT bY (aC (aD 1) (aC (eC (.int 23)) aY))) (aC (aD 0) aY))) (rest:=[some (.lst (ns.map .int))]) (F:=λi=>.str (nm i)) (λi W i1=>by simp_all[q,e i W (by lia)]) (zam 8) none λk N=>List.mem_range.mp N
 have er:aQ 0 1 8=(zam 8).map λ(k:Nat)=>D.int (k:Int):=by
  rw[eP,zar];rfl
 refine⟨(zam 8).map λ(k:Nat)=>nm (k:Int),by simp[-zac,-zab,aA,aB],?_,?_⟩
 ·refine List.nodup_iff_pairwise_ne.mpr ?_
  rw[zeh];refine List.Pairwise.imp_of_mem ?_ (List.nodup_range (n:=8));intro a b G U B z;have a1:=List.mem_range.mp G;have Y:=List.mem_range.mp U;have:=inj (a:Int) (b:Int) (by lia) (by lia) z;exact B (by lia)
 ·rw[er,zar]
  exact M
def oC(d:List (Key×D)):eM:=λx=>match eZ d (.inr x:Key)with
 | some (.int j)=>j
 | _=>0
theorem ZE{d:List (Key×D)}{kn:List (Str×Int)}(h:Cons d kn):EC (oC d) kn:=λp q=>by unfold oC;rw[h p q]
theorem xR{C:Bk}(B:OkB C):∃at_,tJ CA gA gQ cN (a9 C)=some at_/\AtD C at_:=by
 obtain⟨q,L2,e,ok⟩:=QG B;exact⟨_,e,q,L2,rfl,ok⟩
theorem UG{C:Bk}(B:OkB C){U:List Str}(M:U.length<=8){z:D}{d:List (Key×D)}(hd:fN [z]=some (.dK d)){kn:List (Str×Int)}{g:Rg}{k:Int}(q:size g<=16)(w:WI C U kn g d (oC d) k):x8 [a9 C,z,pt g,.int k,.int (cQ C g (oC d) k)]=some (rd g):=by
 obtain⟨at_,N,A⟩:=xR B;have G:=xT C 16 (pa g) (by rw[cE];exact q) (by rw[cE];lia);have J:nS [at_,dY C (pa g),.dK d,.int k,.int (cQ C g (oC d) k)]=some (rd g):=L8 B M A 16 g kn d (oC d) k q q w;have W:=(w.num B).1;rw[gN];refine aL ?_;unfold M0;generalize dY C (pa g)=nd at *;generalize rd g=rg at *;generalize cQ C g (oC d) k=n at *;have F:¬ n<0:=by lia
 simp_all[aG,eNew,N,G,J,hd,F]
theorem J8{C:Bk}(B:OkB C){U:List Str}(hU:U.length<=8){G:D}{d:List (Key×D)}(hd:fN [G]=some (.dK d)){p:Pa}{e:eM}{k:Int}(q:psz p<=16)(w:PI' C U p d e k):AL [a9 C,G,bI p]=some (.lst ((zam C.kinds.length).map λ(j:Nat)=>.int (nI (aR C p e (j:Int))))):=by
 obtain⟨at_,e1,A⟩:=xR B;have k6:=B.k6;have W:=xT C 16 p q (by lia);have e3:∀i:Int,0<=i->i<(C.kinds.length:Int)->cC [at_,dY C p,.dK d,.int i]=some (memD (aR C p e i)):=λi M J=>A9 B hU A 16 p d e i q q ⟨w.ok,M,J,w.hd,w.he,w.dl⟩
 generalize dY C p=nd at *;have Y:=gY (K:=C.kinds.length) (f:=aT dJ (aC (aT cC (aC (aD 1) (aC (aD 2) (aC (aT fN (aC (aD 3) aY)) (aC (aD 0) aY))))) aY)) (rest:=[some at_,some nd,some G]) (F:=λi=>.int (nI (aR C p e i))) (λi M J=>by
  have n:=gE (aR C p e i);simp_all[hd,e3 i M J,n]) (zam C.kinds.length) none λk hk=>List.mem_range.mp hk
 have er:aQ 0 1 C.kinds.length=(zam C.kinds.length).map λ(k:Nat)=>D.int (k:Int):=by
  rw[eP,zar];rfl
 have N:bZ [.int (C.kinds.length:Int)]=some (aQ 0 1 C.kinds.length):=b8 (by lia);have z:aZ C.kinds.length=true:=decide_eq_true (by lia);rw[er]at N;refine aL ?_;unfold zL;rw[aF (aM (d:=at_) (by simp_all[aG,eNew,e1]))];rw[aF (aM (d:=nd) (by simp_all[aG,eNew,W]))];simp_all[-zar,aG,BD,N,i5,z,Y]
def Pos(a:Sm):Prop:=∀p,a=some p->0<p.1/\0<=p.2
theorem Pos.both{a b:Sm}(h:Pos a)(k:Pos b):Pos (i7 a b):=λp q=>by
 cases a with
 | none=>cases b <;> cases q
 | some x=>
  cases b with
  | none=>cases q
  | some y=>
   cases q;have h1:=h x rfl;have h2:=k y rfl;exact⟨Int.mul_pos h1.1 h2.1,by show 0<=x.2+y.2;lia⟩
theorem Pos.either{a b:Sm}(h:Pos a)(k:Pos b):Pos (bU a b):=λp q=>by
 cases a with
 | none=>cases b <;> exact k p q
 | some x=>
  cases b with
  | none=>exact h p q
  | some y=>
   cases q;have h1:=h x rfl;have h2:=k y rfl;exact⟨by show 0<x.1+y.1;lia,by show 0<=min x.2 y.2;lia⟩
theorem Pos.folds{q:Type}{f:q->Sm}:∀ {l:List q} {t:Sm},Pos t->(∀c∈l,Pos (f c))->Pos (l.foldl (λt c=>bU t (f c)) t)
 | [],t,h,_=>h
 | c::l,t,h,k=>Pos.folds (f:=f) (l:=l) (t:=bU t (f c)) (h.either (k c (zas ..))) λx hx=>k x (zaq _ hx)
theorem Pos.foldb:∀ {l:List Sm} {t:Sm},Pos t->(∀a∈l,Pos a)->Pos (l.foldl i7 t)
 | [],t,h,_=>h
 | c::l,t,h,k=>Pos.foldb (l:=l) (t:=i7 t c) (h.both (k c (zas ..))) λx hx=>k x (zaq _ hx)
theorem UJ{M many:Int}{rs:List Ro}(g:GR M many rs)(w:List Int):0<=dH rs w:=by
 unfold dH;induction w with
 | nil=>simp[-zac,-zab,aA,aB]
 | cons n w ih=>
  rw[zak,zbe];refine Int.add_nonneg ?_ ih;cases h:i8 rs n with
  | none=>exact zbL 0
  | some r=>exact(g.pr r (nD h)).1
theorem y8{l:List Int}(q:l≠[]):My.uP l∈l/\∀x∈l,My.uP l<=x:=by
 refine⟨My.LY q,λx hx=>?_⟩;obtain⟨i,hi⟩:=zcu hx;have z:=(List.getElem?_eq_some_iff.mp hi).1;have a:=(argBest_lt (λi=>(l[i]?).getD 0) (l.length-1)).2 i (by lia);simp only[hi,Option.getD_some]at a;exact a
theorem QB{C:Bk}(B:OkB C)(j k:Int):Pos (DU C j k):=λp q=>by
 unfold DU at q;split at q
 ·cases q
 ·rename_i h
  cases q;have F:(bS C.rs k 8 j).map (dH C.rs)≠[]:=λz=>h (by rw[zen]at z;rw[z];rfl)
  obtain⟨w,_,e⟩:=List.mem_map.mp (y8 F).1;exact⟨by show(0:Int)<_;lia,by show 0<=My.uP _;rw[<- e];exact UJ B.gr w⟩
theorem WX{C:Bk}(B:OkB C){p:Pa}{c:D}:0<=lN C p c:=by
 have m:∀v,0<=mpr C v:=λv=>by
  unfold mpr;cases h:C.makes[v]? with
  | none=>simp[-zac,-zab,aA,aB]
  | some x=>exact B.mp x (zaw h)
 cases p <;> first|exact m _|exact zbL 0
theorem QO{C:Bk}(B:OkB C){p:Pa}{d:List (Key×D)}{e:eM}{k:Int}{c:D}(h:∀s∈sb C p d e k c,Pos (nP C s)):Pos (qE C p d e k c):=by
 unfold qE csum;refine Pos.foldb (Pos.both (λp z=>?_) (QB B _ _)) λa q=>?_
 ·cases z;exact⟨by show(0:Int)<1;decide,WX B⟩
 ·obtain⟨s,hs,rfl⟩:=List.mem_map.mp q
  exact h s hs
theorem D6{C:Bk}(B:OkB C):∀(n:Nat) (p:Pa) (e:eM) (k:Int),psz p<=n->Pos (aR C p e k)
 | 0,p,e,k,h=>by have:=dB p;lia
 | n+1,p,e,k,h=>by
  rw[<- nH C p [] e k];exact Pos.folds (λ_ h=>nomatch h) λc _=>QO B λs hs=>D6 B n s.1 _ _ (by have:=fX (tV hs);lia)
theorem sQ{M:Type}{f:M->Sm}:∀ {l:List M} {t:Sm} {q:Int×Int},t=some q\/(∃c∈l,f c=some q)->∃r,l.foldl (λt c=>bU t (f c)) t=some r/\r.2<=q.2
 | [],t,q,h=>by
  rcases h with h|⟨c,F,_⟩
  ·exact⟨q,h,zbL _⟩
  ·cases F
 | c::l,t,q,h=>by
  rw[zcs];have B:∀ {G:Int×Int},bU t (f c)=some G->G.2<=q.2->∃r,l.foldl (λt c=>bU t (f c)) (bU t (f c))=some r/\r.2<=q.2:=λ{G} W N=>by
   obtain⟨r,a,b⟩:=sQ (f:=f) (l:=l) (t:=bU t (f c)) (.inl W);exact⟨r,a,zcI b N⟩
  rcases h with h|⟨U,F,J⟩
  ·subst h
   cases e:f c with
   | none=>rw[e]at B;exact B rfl (zbL _)
   | some y=>rw[e]at B;exact B rfl (by show min q.2 y.2<=q.2;lia)
  ·rcases List.mem_cons.mp F with z|z
   ·subst z
    rw[J]at B ⊢;cases t with
    | none=>exact B rfl (zbL _)
    | some x=>exact B rfl (by show min x.2 q.2<=q.2;lia)
   ·exact sQ (.inr ⟨U,z,J⟩)
theorem qX:∀(l:List (Int×Int)) (p:Int×Int),∃q,(l.map some).foldl i7 (some p)=some q/\q.2=p.2+(l.map (·.2)).sum
 | [],p=>⟨p,rfl,by simp[-zac,-zab,aA,aB]⟩
 | x::l,p=>by
  obtain⟨q,a,b⟩:=qX l (p.1*x.1,p.2+x.2);refine⟨q,a,?_⟩;rw[b,zak,zbe];simp only;lia
theorem QP(C:Bk)(g:Rg):cost C g=lN C (pa g) (ch g)+dH C.rs (wy g)+((b7 g).map (cost C)).sum:=by
 cases g with
 | name x j w=>simp_all[cost,lN,wy,b7,pa]
 | num n j w=>simp_all[cost,lN,wy,b7,pa]
 | use1 v nm p w=>simp_all[cost,lN,wy,b7,pa,ch,cI]
 | use2 v nm p q w=>simp_all[cost,lN,wy,b7,pa,ch,cI]
 | lett x j p q=>simp_all[cost,lN,wy,b7,pa,dH]
 | pick c k p q r w=>simp_all[cost,lN,wy,b7,pa]
 | again n k x p q w=>simp_all[cost,lN,wy,b7,pa]
theorem sN{C:Bk}(B:OkB C){U:List Str}:∀(n:Nat) (g:Rg) (kn:List (Str×Int)) (d:List (Key×D)) (e:eM) (k:Int),size g<=n->WI C U kn g d e k->∃q,aR C (pa g) e k=some q/\q.2<=cost C g
 | 0,g,kn,d,e,k,h,_=>by have:=dB (pa g);rw[cE]at this;lia
 | n+1,g,kn,d,e,k,h,w=>by
  have I:=w.pi B;have N:=tR B w.ok w.wf;have k6:=B.k6;have bo:=xU B I N;have M:=mX B.gr (n:=8) (by have:=I.k1;lia) (C4 w.ec w.wf);have sl:=CY B w;have kid:∀(gs:List Rg) (l:List Sb),gs.length=l.length->(∀(i:Nat) (q:Rg) (s:Sb),gs[i]?=some q->l[i]?=some s->∃x,nP C s=some x/\x.2<=cost C q)->∃xs:List (Int×Int),l.map (nP C)=xs.map some/\(xs.map (·.2)).sum<=(gs.map (cost C)).sum:=by
   intro gs;induction gs with
   | nil=>intro l F _;have:l=[]:=List.length_eq_zero_iff.mp F.symm;subst this;exact⟨[],rfl,zbL _⟩
   | cons q gs ih=>
    intro l F Y;cases l with
    | nil=>simp[-zac,-zab,aA,aB]at F
    | cons s l=>
     obtain⟨x,a1,a2⟩:=Y 0 q s rfl rfl;obtain⟨xs,b1,b2⟩:=ih l (by simpa using F) λi q s G hs=>Y (i+1) q s (by simpa using G) (by simpa using hs)
     refine⟨x::xs,by rw[zak,zak,a1,b1],?_⟩;simp only[zak,zbe];lia
  obtain⟨xs,x1,x2⟩:=kid (b7 g) (sb C (pa g) d e k (ch g)) sl.symm λi q s G hs=>by
   obtain⟨e1,J,w'⟩:=w.at B G hs;obtain⟨x,a,b⟩:=sN B n q J s.2.1 s.2.2.1 s.2.2.2 (by have:=wW (zaw G);lia) w';exact⟨x,by unfold nP;rw[e1];exact a,b⟩
  have sp:∃y,DU C (dE C (pa g) e k (ch g)) k=some y/\y.2<=dH C.rs (wy g):=by
   unfold DU;have W:¬ (bS C.rs k 8 (dE C (pa g) e k (ch g))).length=0:=λz=>by rw[List.length_eq_zero_iff.mp z]at M;cases M
   rw[if_neg W];refine⟨_,rfl,(y8 (l:=(bS C.rs k 8 (dE C (pa g) e k (ch g))).map (dH C.rs)) λz=>W (by rw[zen]at z;rw[z];rfl)).2 _ (List.mem_map.mpr ⟨_,M,rfl⟩)⟩
  obtain⟨y,y1,y2⟩:=sp;have ec:∃q,qE C (pa g) d e k (ch g)=some q/\q.2<=cost C g:=by
   unfold qE csum;rw[y1,x1];obtain⟨q,a,b⟩:=qX xs (1*y.1,lN C (pa g) (ch g)+y.2);refine⟨q,a,?_⟩;rw[b,QP];simp only;lia
  obtain⟨q,q1,q2⟩:=ec;obtain⟨r,r1,r2⟩:=sQ (l:=bP C (pa g)) (t:=none) (f:=qE C (pa g) d e k) (.inr ⟨ch g,N,q1⟩);rw[nH]at r1;exact⟨r,r1,zcI r2 q2⟩
theorem FS:¬ ("use" : Str) = "pick" := by decide
theorem OC:¬ ("let" : Str) = "pick" := by decide
theorem J5:¬ ("let" : Str) = "again" := by decide
theorem ts{a b:Str}(h:¬ a=b):i4 (.str a) (.str b)=some (.bl false):=by simp_all[h]
theorem tt(a:Str):i4 (.str a) (.str a)=some (.bl true):=by simp[-zac,-zab,aA,aB]
theorem tn{a b:Str}(h:¬ a=b):uR (.str a) (.str b)=some (.bl true):=by simp_all[h]
theorem tm(a:Str):uR (.str a) (.str a)=some (.bl false):=by simp[-zac,-zab,aA,aB]
theorem lW{C:Bk}:∀(n:Nat) (g:Rg),size g<=n->JG C g->Short g->gC 6 bF n [a9 C,rd g]=some (.int (cost C g))
 | 0,g,h,_,_=>by have:=dB (pa g);rw[cE]at this;lia
 | n+1,g,h,F,S=>by
  have z:∀q,size q<size g->JG C q->Short q->gC 6 bF n [a9 C,rd q]=some (.int (cost C q)):=λq hq f s=>lW n q (by lia) f s
  show bG 6 (bF (gC 6 bF n)) _=_;generalize gC 6 bF n=R at z ⊢;cases g with
  | name x j w=>
   have e:=dM (C:=C) F (by have:=S;simp only[Short]at this;lia);have N:=ts oA;have J:=ts jY;have G:=ts wQ;have U:=ts mO;have M:=tn jY;refine aL (zcc (b:=some (.rt (.int (0+dH C.rs w)))) ?_ (by simp_all[cost]));unfold bF rd
   ac_rfl
  | num m j w=>
   have e:=dM (C:=C) F (by have:=S;simp only[Short]at this;lia);have N:=ts lC;have J:=ts iW;have G:=ts wU;have U:=ts mP;have M:=tn iW;refine aL (zcc (b:=some (.rt (.int (0+dH C.rs w)))) ?_ (by simp_all[cost]));unfold bF rd
   ac_rfl
  | use1 v nm p w=>
   obtain⟨⟨m,W⟩,fp,B⟩:=F;have e:=dM (C:=C) B (by have:=S.2;lia);have i:=z p (by simp only[size];lia) fp S.1;have em:=kO W;have N:=tt "use";have J:=ts jX;have G:=ts FS;have U:=ts mM;have M:=tn jX;have ep:mpr C v=m.pr:=by unfold mpr;rw[W];rfl
   refine aL (zcc (b:=some (.rt (.int (m.pr+dH C.rs w+cost C p)))) ?_ (by simp_all[cost,ep]));unfold bF rd
   ac_rfl
  | use2 v nm p q w=>
   obtain⟨⟨m,W⟩,fp,Y,B⟩:=F;have e:=dM (C:=C) B (by have:=S.2.2;lia);have i:=z p (by simp only[size];lia) fp S.1;have i2:=z q (by simp only[size];lia) Y S.2.1;have em:=kO W;have N:=tt "use";have J:=ts jX;have G:=ts FS;have U:=ts mM;have M:=tn jX;have ep:mpr C v=m.pr:=by unfold mpr;rw[W];rfl
   refine aL (zcc (b:=some (.rt (.int (m.pr+dH C.rs w+cost C p+cost C q)))) ?_ (by simp_all[cost,ep];lia));unfold bF rd
   ac_rfl
  | lett x j p q=>
   have i:=z p (by simp only[size];lia) F.1 S.1;have i2:=z q (by simp only[size];lia) F.2 S.2;have N:=ts lI;have J:=tt "let";have G:=ts OC;have U:=ts J5;have M:=tm "let";have cs:pR (.tup [.str "let",.str x,.int j,rd p,rd q]) (some 3) none=some (.tup [rd p,rd q]):=rfl;refine aL (zcc (b:=some (.rt (.int (0+cost C p+cost C q)))) ?_ (by simp_all[cost]));unfold bF rd
   ac_rfl
  | pick c k p q r w=>
   obtain⟨fp,Y,fr,B⟩:=F;have e:=dM (C:=C) B (by have:=S.2.2.2;lia);have i:=z p (by simp only[size];lia) fp S.1;have i2:=z q (by simp only[size];lia) Y S.2.1;have i3:=z r (by simp only[size];lia) fr S.2.2.1;have N:=ts lB;have J:=ts iX;have G:=tt "pick";have U:=ts AC;have M:=tn iX;have cs:pR (.tup [.str "pick",.int c,.int k,rd p,rd q,rd r,tupI w]) (some 3) (some 6)=some (.tup [rd p,rd q,rd r]):=rfl;refine aL (zcc (b:=some (.rt (.int (0+dH C.rs w+cost C p+cost C q+cost C r)))) ?_ (by simp_all[cost];lia));unfold bF rd
   ac_rfl
  | again m k x p q w=>
   obtain⟨fp,Y,B⟩:=F;have e:=dM (C:=C) B (by have:=S.2.2;lia);have i:=z p (by simp only[size];lia) fp S.1;have i2:=z q (by simp only[size];lia) Y S.2.1;have N:=ts lG;have J:=ts fZ;have G:=ts xJ;have U:=tt "again";have M:=tn fZ;have cs:pR (.tup [.str "again",.int m,.int k,.str x,rd p,rd q,tupI w]) (some 4) (some 6)=some (.tup [rd p,rd q]):=rfl;refine aL (zcc (b:=some (.rt (.int (0+dH C.rs w+cost C p+cost C q)))) ?_ (by simp_all[cost];lia));unfold bF rd
   ac_rfl
def DZ:Sm->D
 | none=>.non
 | some p=>.int p.2
theorem qM:∀(l:List Sm) (o:Option D),bA (aS 0) eY (XH (nO (a7 JD (aD 0) (eC .non))) (eC .non) (a7 aJ (aD 0) (eC (.int 1)))) (l.map memD) [o]=some (l.map DZ)
 | [],o=>rfl
 | a::l,o=>by
  have ih:=qM l (some (memD a));have n:=O7 a;rw[zak,bA];cases a with
  | none=>simp[-zac,-zab,aA,aB,-zar,memD,fP,DZ]at ih ⊢;rw[ih];rfl
  | some p=>simp[-zac,-zab,aA,aB,-zar,memD,fP,DZ,at1]at ih ⊢;rw[ih];rfl
theorem EK{C:Bk}(B:OkB C){U:List Str}(hU:U.length<=8){M:D}{d:List (Key×D)}(hd:fN [M]=some (.dK d)){p:Pa}{e:eM}{k:Int}(q:psz p<=16)(w:PI' C U p d e k):w4 [a9 C,M,bI p]=some (.lst ((zam C.kinds.length).map λ(j:Nat)=>DZ (aR C p e (j:Int)))):=by
 obtain⟨at_,e1,A⟩:=xR B;have k6:=B.k6;have e2:=xT C 16 p q (by lia);have e3:∀i:Int,0<=i->i<(C.kinds.length:Int)->cC [at_,dY C p,.dK d,.int i]=some (memD (aR C p e i)):=λi W N=>A9 B hU A 16 p d e i q q ⟨w.ok,W,N,w.hd,w.he,w.dl⟩
 generalize dY C p=nd at *;have ed:=gY (K:=C.kinds.length) (f:=aT cC (aC (aD 1) (aC (aD 2) (aC (aT fN (aC (aD 3) aY)) (aC (aD 0) aY))))) (rest:=[some at_,some nd,some M]) (F:=λi=>memD (aR C p e i)) (λi W N=>by simp_all[hd,e3 i W N]) (zam C.kinds.length) none λk hk=>List.mem_range.mp hk
 have er:aQ 0 1 C.kinds.length=(zam C.kinds.length).map λ(k:Nat)=>D.int (k:Int):=by
  rw[eP,zar];rfl
 have Y:bZ [.int (C.kinds.length:Int)]=some (aQ 0 1 C.kinds.length):=b8 (by lia);have z:aZ C.kinds.length=true:=decide_eq_true (by lia);rw[er]at Y;have G:=qM ((zam C.kinds.length).map λ(j:Nat)=>aR C p e (j:Int)) none;rw[zar,zar]at G;have rf:∀ {n:Nat} {f:Sv} {ds:List D} {d:D},f (aG n ds)=some (.rt d)->NY n f ds=some d:=λ{n f ds d} h=>by unfold NY;rw[h];rfl
 have J:∀ {f g:Sv} {ρ ρ':cU},f ρ=some (.nx ρ')->NL f g ρ=g ρ':=λ{f g ρ ρ'} h=>by unfold NL;rw[h];rfl
 refine rf ?_;unfold EN;rw[J (aM (d:=at_) (by simp_all[aG,eNew,e1]))];rw[J (aM (d:=nd) (by simp_all[aG,eNew,e2]))];rw[J (aM (d:=.lst ((zam C.kinds.length).map λ(j:Nat)=>memD (aR C p e (j:Int)))) (by simp_all[-zar,aG,BD,Y,i5,z,ed]))];have z2:aZ ((zam C.kinds.length).map λ(j:Nat)=>memD (aR C p e (j:Int))).length=true:=by rw[zal,zcq];exact z
 replace G:bA (aS 0) eY (XH (nO (a7 JD (aD 0) (eC .non))) (eC .non) (a7 aJ (aD 0) (eC (.int 1)))) ((zam C.kinds.length).map λ(j:Nat)=>memD (aR C p e (j:Int))) [none]=some ((zam C.kinds.length).map λ(j:Nat)=>DZ (aR C p e (j:Int))):=G;generalize ((zam C.kinds.length).map λ(j:Nat)=>memD (aR C p e (j:Int)))=ML at *;simp_all[-zar,aG,i5,z2,G]
theorem QA{n:Nat}:eqN n .non:=⟨.non,rfl,rfl,zaI _⟩
theorem UP(l:List Sm):i4 (.lst (l.map DZ)) (.lst (l.map DZ))=some (.bl true):=by
 have o:=(eqN.lst (n:=1) (l:=l.map DZ) λd hd=>by
  obtain⟨p,_,rfl⟩:=List.mem_map.mp hd;cases p with
  | none=>exact QA
  | some p=>exact eqN.int).ok (by decide)
 unfold i4 GO;rw[if_pos (.inr ⟨rfl,rfl,o,o⟩)];simp[-zac,-zab,aA,aB]
theorem WE(l:List (Str×Int)):uR (.lst (l.map bQ)) (.lst (l.map bQ))=some (.bl false):=by
 have o:=(eqN.lst (n:=1) (l:=l.map bQ) λd hd=>by
  obtain⟨p,_,rfl⟩:=List.mem_map.mp hd;exact eqN.tup (n:=0) (qar .str (all1 .int))).ok (by decide)
 unfold uR GO;rw[if_pos (.inr ⟨rfl,rfl,o,o⟩)];simp[-zac,-zab,aA,aB]
theorem PU(n:Int):oG [.int n]=some (.bl true):=aL (by ac_rfl)
theorem WI.si{C:Bk}(B:OkB C){U:List Str}{kn:List (Str×Int)}{g:Rg}{d:List (Key×D)}{e:eM}{k:Int}(w:WI C U kn g d e k):SI C U kn (pa g) d e k:=⟨w.pi B,N2 w.wf w.nf,λx hx=>by
 obtain⟨j,q⟩:=fD w.wf x hx;rw[w.ec _ q];exact q⟩
theorem LO{C:Bk}(B:OkB C){U:List Str}{kn:List (Str×Int)}{g:Rg}{d:List (Key×D)}{e:eM}{k0 k:Int}(w:WI C U kn g d e k0)(q:0<=k/\k<(C.kinds.length:Int)){n:Int}(F:0<=n)(G:n<nI (aR C (pa g) e k)):∃g',pa g'=pa g/\size g'=size g/\WI C U kn g' d e k/\cQ C g' e k=n:=by
 have s:=w.si B;obtain⟨g',h1,h2,z⟩:=Z3 B (psz (pa g)) (pa g) kn d e k n (zai _) ⟨⟨s.pi.ok,q.1,q.2,s.pi.hd,s.pi.he,s.pi.dl⟩,s.pw,s.nk⟩ F G;have sz:size g'=size g:=by rw[<- cE,h1,cE]
 exact⟨g',h1,sz,⟨h2,PaW.nf (by rw[h1];exact s.pw),w.ok,w.ec,w.cd,w.un,by rw[sz];exact w.dl⟩,z⟩
theorem zY{n:Nat}{F:Int->D}{k:Int}(k0:0<=k)(k1:k<(n:Int)):fL ((zam n).map λ(j:Nat)=>F (j:Int)) k=some (F k):=by
 have q:((k.toNat:Nat):Int)=k:=by lia
 have:((zam n).map λ(j:Nat)=>F (j:Int))[k.toNat]?=some (F k):=by
  rw[zaB,zcW (by lia),zab,q]
 have:=bV this
 rwa [q]at this
theorem X4(ns:List Int)(hn:ns.length<=63):bG 14 NI [.lst (ns.map .int)]=some (.bl true):=by
 obtain⟨C,hC,B⟩:=BP ns;obtain⟨nms,h8,af,en⟩:=names8 ns;obtain⟨ps,ep,P,hp,ab⟩:=yQ (ns:=ns) B h8;obtain⟨g,k,r,eg,G⟩:=yK hn B h8 af P hp ab;obtain⟨v,ev,v0⟩:=wH ns;have k6:=B.k6;have k1:=B.k1;have gs:=G.sz;have aa:=G.k0;have Y:=G.k1;have r8:bZ [.int 8]=some (aQ 0 1 8):=b8 (n:=8) (by decide);have z8:aZ 8=true:=rfl;have ao:(ps.map (·.1)).Nodup:=by rw[ab];exact(zdj ..).nodup af
 obtain⟨d,dl,dt,cd,ld⟩:=CC ao (by lia);have w:WI C nms ps g d (oC d) k:=⟨G.wf,G.nf,P,ZE cd,cd,λp hp=>(zdj ..).subset (ab ▸ List.mem_map.mpr ⟨p,hp,rfl⟩),by lia⟩;have hU:nms.length<=8:=by lia
 have pz:psz (pa g)<=16:=by rw[cE];lia
 have ct:=J8 B hU dl pz (w.pi B);have lt:=EK B hU dl pz (w.pi B);have ak:=EK B hU dt pz (w.pi B);rw[<- gN]at ct lt ak;have nn:=w.num B;have ad:∀i:Int,Pos (aR C (pa g) (oC d) i):=λi=>D6 B _ (pa g) _ i (zai _)
 have br:i4 (.lst ((zam C.kinds.length).map λ(j:Nat)=>DZ (aR C (pa g) (oC d) (j:Int)))) (.lst ((zam C.kinds.length).map λ(j:Nat)=>DZ (aR C (pa g) (oC d) (j:Int))))=some (.bl true):=by
  have:=UP ((zam C.kinds.length).map λ(j:Nat)=>aR C (pa g) (oC d) (j:Int))
  rwa [zar]at this
 have tk:∀i n,(0<=i/\i<(C.kinds.length:Int))->0<=n->n<nI (aR C (pa g) (oC d) i)->∃g',size g'=size g/\x8 [a9 C,.lst (ps.map bQ),pt g,.int i,.int n]=some (rd g')/\mF [a9 C,rd g']=some (.int (cost C g'))/\∃q,aR C (pa g) (oC d) i=some q/\q.2<=cost C g':=λi n hi n0 n1=>by
  obtain⟨g',a,b,c,e⟩:=LO B w hi n0 n1;have t:=UG B hU dl (by lia) c;rw[e,gN,a,<- gN]at t;obtain⟨q,q1,q2⟩:=sN B _ g' ps d (oC d) i (zai _) c;exact⟨g',b,t,lW 16 g' (by lia) c.wf.fit (WF.short B c.ok c.wf).1,q,a ▸ q1,q2⟩
 obtain⟨N,q1,q2⟩:=sN B _ g ps d (oC d) k (zai _) w;have ac:∀i:Int,0<=i->i<(C.kinds.length:Int)->fL ((zam C.kinds.length).map λ(j:Nat)=>D.int (nI (aR C (pa g) (oC d) (j:Int)))) i=some (.int (nI (aR C (pa g) (oC d) i))):=λi i0 i1=>zY (F:=λi=>.int (nI (aR C (pa g) (oC d) i))) i0 i1
 have al:∀i:Int,0<=i->i<(C.kinds.length:Int)->fL ((zam C.kinds.length).map λ(j:Nat)=>DZ (aR C (pa g) (oC d) (j:Int))) i=some (DZ (aR C (pa g) (oC d) i)):=λi i0 i1=>zY (F:=λi=>DZ (aR C (pa g) (oC d) i)) i0 i1
 have cl:((zam C.kinds.length).map λ(j:Nat)=>D.int (nI (aR C (pa g) (oC d) (j:Int)))).length=C.kinds.length:=by simp[-zac,-zab,aA,aB]
 have ll:((zam C.kinds.length).map λ(j:Nat)=>DZ (aR C (pa g) (oC d) (j:Int))).length=C.kinds.length:=by simp[-zac,-zab,aA,aB]
 generalize ((zam C.kinds.length).map λ(j:Nat)=>D.int (nI (aR C (pa g) (oC d) (j:Int))))=CL at *;generalize ((zam C.kinds.length).map λ(j:Nat)=>DZ (aR C (pa g) (oC d) (j:Int)))=LL at *;generalize aR C (pa g) (oC d)=S at *;have nk:=WE ps;refine aL ?_;unfold NI;rw[aF (aM (d:=a9 C) (by ac_rfl))];rw[aF (aM (d:=.lst (nms.map .str)) (by ac_rfl))];rw[aF (aM (d:=.lst (ps.map bQ)) (by ac_rfl))];rw[aF (aM (d:=bD C g k r) (by ac_rfl))];have s6:aJ (bD C g k r) (.int 6)=some (.int (cost C g)):=by unfold bD;rw[q_itT];exact at6
 generalize ps.map bQ=pl at *;rw[aF (aM (d:=pt g) (by ac_rfl))];generalize pt g=pg at *;rw[aF (aM (d:=.lst CL) (by ac_rfl))];rw[aF (aM (d:=.lst pl) (by ac_rfl))];rw[aF (ρ':=[some (.lst (ns.map .int)),some (a9 C),some (.lst (nms.map .str)),some (.lst pl),some (bD C g k r),some pg,some (.lst CL),some (.lst pl),some (.lst LL),none,none,none,none,none]) (by ac_rfl)];have ce:(LL.length:Int)=(CL.length:Int):=by rw[cl,ll]
 rw[aF (R0 (f:=BI (eC (.bl false))) (g:=JH) (c:=_) (by ac_rfl))];have rk:bZ [.int (CL.length:Int)]=some (aQ 0 1 C.kinds.length):=by rw[cl];exact b8 (by lia)
 have be:=BA (C:=C) (g:=g) (k:=k) (r:=r);generalize bD C g k r=sd at *;refine iS (items:=aQ 0 1 C.kinds.length) (by ac_rfl) (λi ρ=>∃J,ρ=[some (.lst (ns.map .int)),some (a9 C),some (.lst (nms.map .str)),some (.lst pl),some sd,some pg,some (.lst CL),some (.lst pl),some (.lst LL),J,none,none,none,none]) ⟨none,rfl⟩ ?_ ?_
 ·rintro i x ρ hx ⟨J,rfl⟩
  obtain⟨bq,rfl⟩:=bX hx;rw[show(0:Int)+(i:Int)*1=(i:Int) by lia];have W:=ac (i:Int) (by lia) (by lia);have U:=al (i:Int) (by lia) (by lia);refine⟨[some (.lst (ns.map .int)),some (a9 C),some (.lst (nms.map .str)),some (.lst pl),some sd,some pg,some (.lst CL),some (.lst pl),some (.lst LL),some (.int (i:Int)),none,none,none,none],?_,_,rfl⟩;have p:=ad (i:Int);cases e:S (i:Int)with
  | none=>
   rw[e]at W U
   ac_rfl
  | some q=>
   have N:=p q e;rw[e]at W U;have h1:¬ q.1=0:=by lia
   have h2:¬ q.2<0:=by lia
   have wh:=PU q.2;have b1:fL CL (i:Int)=some (.int q.1):=W;have b2:fL LL (i:Int)=some (.int q.2):=U;clear W U;have d1:i4 (.int q.1) (.int 0)=some (.bl false):=by simp_all[h1]
   have d2:uE (.int q.1) (.int 0)=some (.bl true):=by simp_all[N.1]
   have d3:qu (.int q.2) (.int 0)=some (.bl false):=by simp_all[h2]
   ac_rfl
 ·rintro ρ ⟨J,rfl⟩
  have W:=ac k aa Y;have U:=al k aa Y;rw[q1]at W U;have p:=(ad k) N q1;have h1:¬ N.1=0:=by lia
  have h2:¬ cost C g<N.2:=by lia
  have b1:fL CL k=some (.int N.1):=W;have b2:fL LL k=some (.int N.2):=U;clear W U;have d1:i4 (.int N.1) (.int 0)=some (.bl false):=by simp_all[h1]
  have d2:uE (.int N.2) (.int (cost C g))=some (.bl false):=by simp_all[h2]
  rw[aF (R0 (f:=BI (eC (.bl false))) (g:=JH) (c:=_) (by ac_rfl))];rw[aF (ρ':=[some (.lst (ns.map .int)),some (a9 C),some (.lst (nms.map .str)),some (.lst pl),some sd,some pg,some (.lst CL),some (.lst pl),some (.lst LL),J,some (.int v),none,none,none]) (by ac_rfl)];have kp:(0:Int)<(C.kinds.length:Int):=by lia
  have dl:gB [.lst CL]=some (.int (C.kinds.length:Int)):=by simp_all[cl]
  have dk:dS (.int v) (.int (C.kinds.length:Int))=some (.int (v%(C.kinds.length:Int))):=bR kp;have m0:0<=v%(C.kinds.length:Int):=zat _ (by lia);have m1:v%(C.kinds.length:Int)<(C.kinds.length:Int):=zav _ kp;rw[aF (ρ':=[some (.lst (ns.map .int)),some (a9 C),some (.lst (nms.map .str)),some (.lst pl),some sd,some pg,some (.lst CL),some (.lst pl),some (.lst LL),J,some (.int v),some (.int (v%(C.kinds.length:Int))),none,none]) (by ac_rfl)];clear dk dl;generalize v%(C.kinds.length:Int)=kd at m0 m1;obtain⟨z,M,np,ei⟩:∃z:Int,(0<=z/\z<(C.kinds.length:Int))/\0<nI (S z)/\(BE (nO (a7 i4 (a7 aJ (aD 6) (aD 11)) (eC (D.int 0)))) (dX 11 (a7 aJ (aD 4) (eC (D.int 2)))) JH) [some (.lst (ns.map .int)),some (a9 C),some (.lst (nms.map .str)),some (.lst pl),some sd,some pg,some (.lst CL),some (.lst pl),some (.lst LL),J,some (.int v),some (.int kd),none,none]=some (.nx [some (.lst (ns.map .int)),some (a9 C),some (.lst (nms.map .str)),some (.lst pl),some sd,some pg,some (.lst CL),some (.lst pl),some (.lst LL),J,some (.int v),some (.int z),none,none]):=by
   have a3:=ac kd m0 m1;by_cases h0:nI (S kd)=0
   ·exact⟨k,⟨aa,Y⟩,by rw[q1];exact p.1,by ac_rfl⟩
   ·refine⟨kd,⟨m0,m1⟩,?_,by ac_rfl⟩
    cases e:S kd with
    | none=>rw[e]at h0;exact absurd rfl h0
    | some q=>exact(ad kd q e).1
  rw[aF ei]
  ·obtain⟨g',_,t1,t2,q,t3,t4⟩:=tk z (v/6%nI (S z)) M (zat _ (by lia)) (zav _ np)
   have a3:=ac z M.1 M.2;have a4:=al z M.1 M.2;have dd:NH (.int v) (.int 6)=some (.int (v/6)):=MF (by decide) (by decide +kernel);have dm:dS (.int (v/6)) (.int (nI (S z)))=some (.int (v/6%nI (S z))):=bR np;rw[t3]at a4;generalize rd g'=rg at *;generalize v/6%nI (S z)=y at *;rw[aF (ρ':=[some (.lst (ns.map .int)),some (a9 C),some (.lst (nms.map .str)),some (.lst pl),some sd,some pg,some (.lst CL),some (.lst pl),some (.lst LL),J,some (.int v),some (.int z),some rg,none]) (by ac_rfl)];have h3:¬ cost C g'<q.2:=by lia
   have b4:fL LL z=some (.int q.2):=a4;clear a4;have d4:uE (.int q.2) (.int (cost C g'))=some (.bl false):=by simp_all[h3]
   rw[aF (R0 (f:=BI (eC (.bl false))) (g:=JH) (c:=_) (by ac_rfl))];rw[aF (ρ':=[some (.lst (ns.map .int)),some (a9 C),some (.lst (nms.map .str)),some (.lst pl),some sd,some pg,some (.lst CL),some (.lst pl),some (.lst LL),J,some (.int v),some (.int z),some rg,some (.lst LL)]) (by simp[-zac,-zab,aA,aB])];have zl:aZ LL.length=true:=decide_eq_true (by lia);rw[aF (ρ':=[some (.lst (ns.map .int)),some (a9 C),some (.lst (nms.map .str)),some (.lst pl),some sd,some pg,some (.lst CL),some (.lst pl),some (.lst (LL++[.non])),J,some (.int v),some (.int z),some rg,some (.lst LL)]) (by ac_rfl)];have pp:kH (.lst (LL++[D.non])) (.int 0) (.int (-1))=some (.lst ((LL++[D.non]).set 0 (.int (-1)))):=by
    have:JE (LL++[D.non]).length 0=some 0:=by
     unfold JE;simp[-zac,-zab,aA,aB]
    show(JE (LL++[D.non]).length 0).map _=_;rw[this];rfl
   generalize (LL++[D.non]).set 0 (.int (-1))=X8 at pp;rw[aF (ρ':=[some (.lst (ns.map .int)),some (a9 C),some (.lst (nms.map .str)),some (.lst pl),some sd,some pg,some (.lst CL),some (.lst pl),some (.lst X8),J,some (.int v),some (.int z),some rg,some (.lst LL)]) (by ac_rfl)]
   ac_rfl
theorem qaT:Bds top tab:=by
 unfold tab
 repeat (refine Bds.cons ?_ ?_;· (repeat intro _);rfl)
 exact Bds.nil
theorem VH{l:zeb}{w:World}{K:zae}{h:Heap}{mg:Str->Option Value}{fa:Addr}{k:Nat}(X:K.In h)(G:h.Ns zaK mg)(ac:mg "law" = some (.ref fa))(D:Des K top tab)(B:Nos K blt)(J:Gis K gis)
  {Y:Addr} {ab U:Option Addr} {aa:Array (Option Value)} {ad M z N q F:Value} (a0:zbY K zaK "law" = some (some (.ref Y))) (l0:K.lookup Y=some ⟨ad,ab,.func (zbh "law" "law" (d7 s_law) (bM s_law) (aK s_law) .none M z N U q F),aa⟩) (c0:zcm K q "law" = true) (k0:zbE K (.ref Y)=true)
  (oqNode:ObQ K "Node" "Node.__init__" (inClass (top 16) 0) CN ["part", "below", "names", "found"])
  (oqAtlas:ObQ K "Atlas" "Atlas.__init__" (inClass (top 18) 0) CA ["book", "routes", "spans"])
  (ok:∀base:Heap,K.In base->base.Ns zaK mg->Txt K mg->My.BodyOk l.prog w K mg base "law" s_law ["script", "tome", "names", "pairs", "state", "part", "sizes_v", "handed", "found", "k", "n", "kind", "one", "kept"] k (My.A6 K)) :
  ∃fd:zbb,(∀(s:zad) (v:Value),BindsTo s fd ⟨[v],[]⟩ [("script",v)])/\∀base:Heap,K.In base->base.Ns zaK mg->FnOk l.prog w K mg base uF (k+1) fa fd ["script"] (My.A6 K):=by
 have e:=ac.symm.trans (zdK X G a0);cases e;have F0:=DF (st:=s_law) l0 c0 k0;have T:Txt K mg:=⟨Des.d X G D qaT,λx hx=>PySem.W.mg_none_of X G (B x hx),Gis.d X G J,oqNode.t X G λ_ _ _ _ _ _ _ _=>rfl,oqAtlas.t X G λ_ _ _ _ _ _ _ _=>rfl⟩;refine⟨zbh "law" "law" (d7 s_law) (bM s_law) (aK s_law) .none M z N U q F,λs v=>.of_eq rfl,λbase kb nb=>?_⟩;exact(ok base kb nb T).fn F0 sc_law (λvs H Q E h=>by obtain⟨a,ns,e,_⟩:=h;rw[e];rfl)
end Law
namespace PySem.W.Fast
theorem tw3129501850262113115:0=0:=rfl
theorem tw16639772633270975564:0=0:=rfl
theorem tw673316307680750348:0=0:=rfl
theorem tw10922830780832605408:0=0:=rfl
theorem tw8297894371878277344:0=0:=rfl
theorem tw15990460753973171671:0=0:=rfl
theorem tw14815857291473206874:0=0:=rfl
theorem tw4684222109556210839:0=0:=rfl
theorem tw1568162053104089035:0=0:=rfl
theorem tw13297351278981229318:0=0:=rfl
theorem tw8375480212282567027:0=0:=rfl
theorem tw14886322658640118338:0=0:=rfl
theorem tw9387202182254077169:0=0:=rfl
theorem tw5514700626379759246:0=0:=rfl
theorem tw6503389664546271931:0=0:=rfl
theorem tw3736553234382245462:0=0:=rfl
theorem tw11432083720969740172:0=0:=rfl
theorem tw3951025210225030451:0=0:=rfl
theorem tw12742722712869701444:0=0:=rfl
theorem tw16444305563936278282:0=0:=rfl
theorem tw9681133028504064028:0=0:=rfl
theorem tw6840265374285738512:0=0:=rfl
theorem tw16580452077112127226:0=0:=rfl
theorem tw10865841529358736775:0=0:=rfl
theorem tw11061790407122244794:0=0:=rfl
theorem tw11176620974771640755:0=0:=rfl
theorem tw16929896963630016676:0=0:=rfl
theorem tw8921730732838348707:0=0:=rfl
theorem tw9089054610390833997:0=0:=rfl
theorem tw11729890104548302582:0=0:=rfl
theorem tw13362615740737126860:0=0:=rfl
theorem tw5967419963023086876:0=0:=rfl
theorem tw9295626110406703171:0=0:=rfl
theorem tw12882038929066403843:0=0:=rfl
theorem tw11245197908144282472:0=0:=rfl
theorem tw17953574408163536401:0=0:=rfl
theorem tw17457283348341614080:0=0:=rfl
theorem tw15734266033415570681:0=0:=rfl
theorem tw16174161673021537804:0=0:=rfl
theorem tw8080549470816216810:0=0:=rfl
theorem tw6399998839268096647:0=0:=rfl
theorem tw10752476677623413185:0=0:=rfl
theorem tw8239056440263435634:0=0:=rfl
theorem tw6598842682464802674:0=0:=rfl
theorem tw17757188087812837442:0=0:=rfl
theorem tw1471608245796408552:0=0:=rfl
theorem tw122794376351057752:0=0:=rfl
theorem tw15546251319555919505:0=0:=rfl
theorem tw8715374567545772397:0=0:=rfl
theorem tw6748140160863586568:0=0:=rfl
theorem tw4651347919446903460:0=0:=rfl
theorem tw4855100545860738950:0=0:=rfl
theorem tw18119997902494196594:0=0:=rfl
theorem tw8509155373863197027:0=0:=rfl
theorem tw6078190923264488652:0=0:=rfl
theorem tw14571926339347009350:0=0:=rfl
theorem tw11554621052192975469:0=0:=rfl
theorem tw1642125680745948941:0=0:=rfl
theorem tw9071412817848282764:0=0:=rfl
theorem tw16878765981056926355:0=0:=rfl
theorem tw934829969917931170:0=0:=rfl
theorem tw7047165657294505278:0=0:=rfl
theorem tw9374974724784796682:0=0:=rfl
theorem tw699358290087439785:0=0:=rfl
theorem tw14563195645655288073:0=0:=rfl
theorem tw16793912121092926332:0=0:=rfl
theorem tw7494590338972607286:0=0:=rfl
theorem tw3218967693378387546:0=0:=rfl
theorem tw10286681862813280742:0=0:=rfl
theorem tw12585942481283332420:0=0:=rfl
theorem tw4336763256385752562:0=0:=rfl
theorem tw7890942459420648599:0=0:=rfl
theorem tw7092996617926643237:0=0:=rfl
theorem tw10684899238610502354:0=0:=rfl
theorem tw16277597657611127111:0=0:=rfl
theorem tw7696376129385515289:0=0:=rfl
theorem tw15673330606728496849:0=0:=rfl
theorem tw5310885342052334679:0=0:=rfl
theorem tw11289046163097633359:0=0:=rfl
theorem tw9301906334524459625:0=0:=rfl
theorem tw11267162694280121099:0=0:=rfl
theorem tw6974931283962056920:0=0:=rfl
theorem tw16814993893595966913:0=0:=rfl
theorem tw7497394074637216651:0=0:=rfl
theorem tw4556240214577572149:0=0:=rfl
theorem tw5416367304809238225:0=0:=rfl
theorem tw6649083938980618259:0=0:=rfl
theorem tw14888915206309439919:0=0:=rfl
theorem tw13495553908036834179:0=0:=rfl
theorem tw7684278280339106800:0=0:=rfl
theorem tw17455109526495015506:0=0:=rfl
theorem tw4455642271031731706:0=0:=rfl
theorem tw15623997433165372555:0=0:=rfl
theorem tw13296457041643028649:0=0:=rfl
theorem tw2820699056073734774:0=0:=rfl
theorem tw4561650174633255067:0=0:=rfl
theorem tw4232865377387259902:0=0:=rfl
theorem tw7767041454685744937:0=0:=rfl
theorem tw5807363091005601898:0=0:=rfl
theorem tw346247378743727070:0=0:=rfl
theorem tw17839472433524565298:0=0:=rfl
theorem tw10241363380820911458:0=0:=rfl
theorem tw10803670932752526099:0=0:=rfl
theorem tw16852923226162240607:0=0:=rfl
theorem tw9026587395309078383:0=0:=rfl
theorem tw4164023799131690576:0=0:=rfl
theorem tw9080375619031220106:0=0:=rfl
theorem tw11758572260561692900:0=0:=rfl
theorem tw6642275276960231546:0=0:=rfl
theorem tw2352487326804158570:0=0:=rfl
theorem tw1930179265052385027:0=0:=rfl
theorem tw5720119752341861559:0=0:=rfl
theorem tw4427037904384681717:0=0:=rfl
theorem tw11836065898534722857:0=0:=rfl
theorem tw4447193729257681063:0=0:=rfl
theorem tw8800431947699366640:0=0:=rfl
theorem tw10677573063258032665:0=0:=rfl
theorem tw8305408796051257470:0=0:=rfl
theorem tw10712317392093171954:0=0:=rfl
theorem tw8902054915175462387:0=0:=rfl
theorem tw8946065908155510503:0=0:=rfl
theorem tw254806955901693265:0=0:=rfl
theorem tw13214871762332572696:0=0:=rfl
theorem tw2879348765766099611:0=0:=rfl
theorem tw14138010570213214054:0=0:=rfl
theorem tw17581530082560765:0=0:=rfl
theorem tw14759488506956300789:0=0:=rfl
theorem tw16607375541066411562:0=0:=rfl
theorem tw12225033256792399647:0=0:=rfl
theorem tw11983100974663537261:0=0:=rfl
theorem tw3728318557907035218:0=0:=rfl
theorem tw13825866416961028611:0=0:=rfl
theorem tw812428556977442725:0=0:=rfl
theorem tw9220966776603619953:0=0:=rfl
theorem tw16691763764772960807:0=0:=rfl
theorem tw2690126933979207980:0=0:=rfl
theorem tw6300434213255377567:0=0:=rfl
theorem tw1831096284340484977:0=0:=rfl
theorem tw10155622419134798409:0=0:=rfl
theorem tw16837999449678176048:0=0:=rfl
theorem tw15220771356611006830:0=0:=rfl
theorem tw17466932367637699238:0=0:=rfl
theorem tw7498963801493336243:0=0:=rfl
theorem tw4479069056351932755:0=0:=rfl
theorem tw4993796318059047612:0=0:=rfl
theorem tw10492328237458292376:0=0:=rfl
theorem tw5586650941105759605:0=0:=rfl
theorem tw10264628279530938870:0=0:=rfl
theorem tw6549247404458285986:0=0:=rfl
theorem tw14513812463198784299:0=0:=rfl
theorem tw15725071905198133583:0=0:=rfl
theorem tw12390478819703093292:0=0:=rfl
theorem tw8214939766760831095:0=0:=rfl
theorem tw10273294825728247346:0=0:=rfl
theorem tw9539372404476513254:0=0:=rfl
theorem tw3357299185622675569:0=0:=rfl
theorem tw10644225016316164880:0=0:=rfl
theorem tw12666659223388521757:0=0:=rfl
theorem tw1619648667682479436:0=0:=rfl
theorem tw11503865887873598812:0=0:=rfl
theorem tw12266477855793280690:0=0:=rfl
theorem tw11648307215257825584:0=0:=rfl
theorem tw4922375753610491398:0=0:=rfl
theorem tw16980470674753927754:0=0:=rfl
theorem tw2895843462026802994:0=0:=rfl
theorem tw502786639846028686:0=0:=rfl
theorem tw2212595056360452691:0=0:=rfl
theorem tw12853949002984341891:0=0:=rfl
theorem tw8551987127931442576:0=0:=rfl
theorem tw15132101539037217920:0=0:=rfl
theorem tw3362683990520768743:0=0:=rfl
theorem tw10321934667334922340:0=0:=rfl
theorem tw6081032982758698272:0=0:=rfl
theorem tw9497299899732537260:0=0:=rfl
theorem tw16693218214803855331:0=0:=rfl
theorem tw12755441824951804687:0=0:=rfl
theorem tw17150188168915827449:0=0:=rfl
theorem tw17177637605078277719:0=0:=rfl
theorem tw7650869930073174783:0=0:=rfl
theorem tw94380582394983426:0=0:=rfl
theorem tw7717965894679138062:0=0:=rfl
theorem tw5923751625213274709:0=0:=rfl
theorem tw4651713237789653778:0=0:=rfl
theorem tw18225003510719468589:0=0:=rfl
theorem tw3354394846649925448:0=0:=rfl
theorem tw18429321599286213529:0=0:=rfl
theorem tw11187538938198384115:0=0:=rfl
theorem tw7295568131983199127:0=0:=rfl
theorem tw10883818852088429458:0=0:=rfl
theorem tw15368855990276751956:0=0:=rfl
theorem tw8284669160252067472:0=0:=rfl
theorem tw2846668429638563557:0=0:=rfl
theorem tw14643156509458713394:0=0:=rfl
theorem tw5256273644733509001:0=0:=rfl
theorem tw2851140032026458322:0=0:=rfl
theorem tw10426765096633777478:0=0:=rfl
theorem tw12925048731930096637:0=0:=rfl
theorem tw7082484993611514567:0=0:=rfl
theorem tw6722159731875727757:0=0:=rfl
theorem tw8040754615237072115:0=0:=rfl
theorem tw12008647583992767577:0=0:=rfl
theorem tw799770935258020312:0=0:=rfl
theorem tw14010862110740993361:0=0:=rfl
theorem tw11991106985650076367:0=0:=rfl
theorem tw1993590764511522655:0=0:=rfl
theorem tw8171617759544352767:0=0:=rfl
theorem tw9706601392178981862:0=0:=rfl
theorem tw16047921110098529691:0=0:=rfl
theorem tw2245200605174501393:0=0:=rfl
theorem tw5756828551218219611:0=0:=rfl
theorem tw18293713285293415275:0=0:=rfl
theorem tw6405782354446028903:0=0:=rfl
theorem tw7861263408210718599:0=0:=rfl
theorem tw9489959507840321975:0=0:=rfl
theorem tw16759937568877389552:0=0:=rfl
theorem tw4750693621654592700:0=0:=rfl
theorem tw12213762133507749020:0=0:=rfl
theorem tw1011994161942777650:0=0:=rfl
theorem tw4384049943719044921:0=0:=rfl
theorem tw16194185735070797484:0=0:=rfl
theorem tw12756185421745061819:0=0:=rfl
theorem tw3193845476315615357:0=0:=rfl
theorem tw15833055705720633431:0=0:=rfl
theorem tw10155115264408017135:0=0:=rfl
theorem tw2501638628008468372:0=0:=rfl
theorem tw17940554789383016789:0=0:=rfl
theorem tw14188811098546273594:0=0:=rfl
theorem tw4440303405494963054:0=0:=rfl
theorem tw13721621349932260181:0=0:=rfl
theorem tw10494878685364829808:0=0:=rfl
theorem tw14323176337055719365:0=0:=rfl
theorem tw3744157929475534322:0=0:=rfl
theorem tw15858152343176321873:0=0:=rfl
theorem tw10467250799912508293:0=0:=rfl
theorem tw17591772195173615279:0=0:=rfl
theorem tw497423283554084727:0=0:=rfl
theorem tw8914563645308581552:0=0:=rfl
theorem tw4017053233064072497:0=0:=rfl
theorem tw6711016279029730790:0=0:=rfl
theorem tw7263727559449479591:0=0:=rfl
theorem tw14309330639106923060:0=0:=rfl
theorem tw8712171310619470116:0=0:=rfl
theorem tw3456373551882991905:0=0:=rfl
theorem tw16733376792836021749:0=0:=rfl
theorem tw10976007557269777406:0=0:=rfl
theorem tw7899277049699053571:0=0:=rfl
theorem tw4513800621280730690:0=0:=rfl
theorem tw10781866151151709080:0=0:=rfl
theorem tw10191540251135145830:0=0:=rfl
theorem tw3036519303695434575:0=0:=rfl
theorem tw13284562550524056267:0=0:=rfl
theorem tw3636612193292287436:0=0:=rfl
theorem tw14892315811690791516:0=0:=rfl
theorem tw6284072199752046837:0=0:=rfl
theorem tw4679246281849980113:0=0:=rfl
theorem tw11878867028016513165:0=0:=rfl
theorem tw9340367480915541308:0=0:=rfl
end PySem.W.Fast
open PySem PySem.W PyProof.Rows
set_option maxRecDepth 100000 in
set_option maxHeartbeats 0 in
theorem PySem.Challenge.cw_chiefway_k62_least_prices_holds : PySem.Challenge.rw_chiefway_k62_least_prices.Holds := by
 w_on;o_law;k_head;(case hw=>w_witness2)
 k_fill
 refine My.walk (l:=PySem.Challenge.rw_chiefway_k62_least_prices) (k:=72) (by decide) rfl rfl (λw h Y=>PySem.W.kIn_of Y) ?F
 case F=>
  intro w mg N h KX G z;refine' Law.VH (k:=71) KX G z ?D ?B ?J ?a0 ?l0 ?c0 ?k0 ?oqNode ?oqAtlas ?ok
  (case D=>unfold Law.tab;(repeat (apply P.Des.cons;(case a=>k_is);(case l=>k_is);(case c=>k_is);(case k=>k_is)));exact P.Des.nil)
  (case B=>unfold Law.blt;(repeat (apply P.Nos.cons;(case a=>k_is)));exact P.Nos.nil)
  (case J=>unfold Law.gis;(repeat (apply P.Gis.cons;(case a=>k_is)));exact P.Gis.nil)
  (case a0=>k_is)
  (case l0=>k_is)
  (case c0=>k_is)
  (case k0=>k_is)
  (case oqNode=>refine' P.obq ?a ?m1 ?m2 ?m3 ?m4 ?m5 ?m6 ?m7 ?m8 ?l ?c ?k ?n;(case a=>k_is);(case m1=>k_is);(case m2=>k_is);(case m3=>k_is);(case m4=>k_is);(case m5=>k_is);(case m6=>k_is);(case m7=>k_is);(case m8=>k_is);(case l=>k_is);(case c=>k_is);(case k=>k_is);(case n=>(repeat (apply P.Fas.cons;(case a=>k_is)));exact P.Fas.nil))
  (case oqAtlas=>refine' P.obq ?a ?m1 ?m2 ?m3 ?m4 ?m5 ?m6 ?m7 ?m8 ?l ?c ?k ?n;(case a=>k_is);(case m1=>k_is);(case m2=>k_is);(case m3=>k_is);(case m4=>k_is);(case m5=>k_is);(case m6=>k_is);(case m7=>k_is);(case m8=>k_is);(case l=>k_is);(case c=>k_is);(case k=>k_is);(case n=>(repeat (apply P.Fas.cons;(case a=>k_is)));exact P.Fas.nil))
  (case ok=>exact λbase kb nb T=>P.WA (f:=Law.NI) (O':=[]) rfl (λN M A q s H E U=>Law.SR.2 T N M A q s H E U) Law.X4)
