import PyProof.Rows.All
import Wide.All
import OpenK.AllK
import Wide.FinOn
import Lean
import PyProof.EqAt
import PyProof.EqKinds
import PyProof.TupleCall
import KE.KEqDict
import KE.KRevIter
import PySem.Challenge.RW_chiefway_k46_whole_every_reading_is_told
set_option autoImplicit true
set_option relaxedAutoImplicit true
set_option Elab.async false
set_option linter.all false
set_option maxRecDepth 100000
open PySem renaming wpAny_bind → zaa, Shared → zab, wpAny_pure → zaf, starEach → zag, Program → zah, sizeLine → zai, Around → zan, compareOp → zay, swapsWith → zaC, backTo → zaG, bootBuiltins → zaH, mainGlobals → zaJ, binaryOp → zaL, attributeBase → zaN, wpAny_field → zaQ, assignEach → za1, pyNext → za2, IsPair → za3, sysModules → za6, wpAny_mono → za7, rawInt → za9, foldedSetIterable → zba, relabel → zbc, assign → zbd, FuncData → zbe, wpAny_call_entry → zbj, wpAny_seqItems → zbp, NameKind → zbt, getItem → zbv, wpAny_setField_rec → zby, IsEnum → zbA, wpAny_holding → zbB, codeAny → zbD, IsPart → zbG, wpAny_callSpecial?_slot → zbH, wpAny_newObj_type → zbI, sliceBounds → zbJ, wpAny_rule → zbM, behindInMarks → zbP, wpAny_pyIter_tuple → zbR, wpAny_loadPart' → zbV, Builtin → zb0, tupleKind → zb2, PassesOwn → zb5, wpAny_pyIter_list → zb6, cellsFrom → zb7, tupleKeyHash → zch, entryOfKey → zci, holding → zcj, wpAny_passesOwn → zck, Keyword → zcm, valueAt → zcp, callerA → zcq, DictEntry → zcr, wpAny_isInstance → zcw, wpAny_truthy_bool → zcx, mem_of_lookup → zcz, wpAny_typeOf → zcA, call_meets → zcB, wpAny_attempt → zcD, wpAny_specialOf → zcM, wpAny_forIn_list → zcN, sizeLine_eq → zcQ, wpAny_execs_nil → zc7, wpAny_standAt → zc8, swapsWithSole → zc9, swappedStores → zda, letOwnedTupleGo → zdb, codeAny_mono → zdh, wpAny_Call_Name_kw → zdi, subscripted → zdo, wpAny_typeNameOfWhole_keyiter → zds, wpAny_typeNameOf_keyiter → zdt, wpAny_setField → zdu, firstArgMember → zdx, wpAny_onRaise → zdA, wpAny_letGo → zdB, getattributeRaised → zdI, wpAny_tupleItemsOf → zdO, isSubtype_tuple_tuple → zdQ, noFill_tuple_add → zd0, tupleKind_room_in1 → zd9, wpAny_dictEntries → zeb, wpAny_dictEpoch → zec, wpAny_updateSeq_pair → zef
open Option renaming map_some → zac, bind_some → zad, bind → zcF
open PySem.W renaming Frag → zae, fnOf → zbg, kia_one → zbk, findIn → zbr, keepIn → zbE, emptyDict → zbS, nsIn → zbY, instObj → zb3, codeIn → zco, plainGet → zdc, hasDictIn → zdd, kitOne → zdf, kitx_dict → zdg, mg_of → zdJ, methodObj → zdR, plainOver → zdU, takerIn → zdV, makesIn → zdW, OpenLaw → zea
open Nat renaming le_refl → zaj, ne_of_lt → zaE, zero_le → zaI, le_trans → zaK, zero_add → zaS, lt_of_lt_of_le → zaW, ne_of_gt → zbq, lt_irrefl → zb4, le_of_ble_eq_true → zcs, lt_of_le_of_lt → zcU, lt_succ_self → zde
open List renaming map_cons → zak, length_map → zam, mem_cons_of_mem → zap, map_map → zaq, range → zas, mem_cons_self → zat, mem_of_getElem? → zav, size_toArray → zax, length_cons → zaz, getElem?_map → zaB, map_append → zaO, getElem?_eq_getElem → zaR, mem_cons → zaV, mem_append_right → zaX, not_mem_nil → za0, length_append → zbb, sum_cons → zbm, append_nil → zbs, length → zbu, find?_cons → zbw, take_length → zbz, mem_append_left → zbC, length_nil → zbF, getElem?_set_ne → zbO, length_take → zbU, lookup_cons → zbX, take_of_length_le → zbZ, map_nil → zb8, any_cons → zb9, filter_cons → zca, take_succ → zcd, getElem?_of_mem → zce, lookup → zcl, replicate → zcn, take_succ_cons → zcu, getElem?_set_self → zcy, length_range → zcG, foldl_cons → zcI, length_set → zcT, getElem?_range → zcW, drop_eq_getElem_cons → zcX, cons_append → zcZ, take_add_one → zc0, forall_mem_cons → zc2, length_filter_le → zc3, getD_eq_getElem?_getD → zc5, getElem?_append_right → zdj, take_sublist → zdk, replicate_succ → zdp, flatten_cons → zdq, drop_length → zdE, foldl_nil → zdM, filterMap_cons → zdS, getElem_inj → zdT, of_mem_zip → zdX, getElem?_append_left → zdY, zip_cons_cons → zdZ, length_drop → zd5, reverse_cons → zd7, forIn_cons → zee, sum_append → zeg, nodup_append → zej, length_zip → zek, take_sublist_take_left → zeq, idxOf_lt_length_of_mem → zes
open PySem.Heap renaming get?_push_of_some → zal, lt_size → zao, get?_push_size → zaD, SameBut → za4, size_push → zbT, IsTuple → zcV, IsList → zdD, get?_update_self → zd6
open PySem.Value renaming ref → zar, none → za5, int → zcv, str → zcJ, bool → zcK
open Int renaming emod_nonneg → zau, emod_lt_of_pos → zaw, ne_of_gt → zaT, toNat_natCast → zbx, zero_add → zbL, le_trans → zct, mul_nonneg → zcY, lt_of_lt_of_le → zc6, add_assoc → zdK, le_refl → zdL, mul_le_mul_of_nonneg_right → zer
open Bool renaming false_ne_true → zaA, and_eq_true → zaP, false_eq_true → zbo, not_true → zb1, eq_iff_iff → zcO, not_eq_true → zdF, or_eq_true → zdG
open Option.some renaming inj → zaF
open PyProof.Rows renaming envOfC → zaM, kindOf → zbf, IntsAre → zbh, AllBare → zbN, callWith_type1 → zcP, slot_tuple_getitem → zdm
open Ne renaming symm → zaU
open True renaming intro → zaY
open Or renaming inl → zaZ, inr → zbK
open False renaming elim → za8
open PySem.Str renaming ofString → zbi, join → zcH
open PySem.NameKind renaming free → zbl
open Sum renaming inl → zbn, inr → zcf
open Array renaming length_toList → zbQ, forIn_toList → zdP, getElem?_toList → zed
open PySem.Shared renaming heap → zbW
open PySem.Builtin.SmallTypes renaming nextOf → zcb, ownedTupleIsFree → zcE, ownedTupleHandOut → zdC
open Classical renaming propDecidable → zcc
open PySem.Builtin.Tuple renaming tupleHashOf → zcg, tupleExact → zdn, tupleItemsOf → zdN
open ForInStep renaming yield → zcC
open PySem.Paired renaming length → zcL
open PySem.SeqAt renaming EqAt → zcR
open PySem.Obj renaming mapSeq → zcS, data_mapFields → zdv
open PySem.F renaming plainAttrs_list → zc1, slot_dict_keyiterator_next → zdr, slot_tuple_iterator_next → zdy, slot_zip_next → zdz, slot_enumerate_next → zdH, slot_tuple_add → zd1, entry_tuple_add → zd2, args_tuple_add_2 → zd3, entry_dict_keyiterator_next → zel, args_dict_keyiterator_next_1 → zem, entry_tuple_iterator_next → zeo, args_tuple_iterator_next_1 → zep
open Subtype renaming val → zc4
open PySem.Builtin.Slice renaming slicePlaces → zdl, sliceAdjust → zd4
open PySem.Heap.SameBut renaming update → zdw
open PySem.Builtin.List renaming listTooLong → zd8
open PySem.PassesOwn renaming never → zeh
open List.cons renaming injEq → zei
open PySem.Builtin.Dict_items renaming ownsTuple → zen
noncomputable section
namespace L2
open PySem PySem.Spec PyProof.Rows
abbrev Key:=Sum Int Str
def wA:Key->Value->Bool
 | .inl k,v=>Value.isInt k v
 | .inr x,v=>Value.isStrOf x v
def qat(w:World):Key->Int
 | .inl k=>hashInt k
 | .inr x=>hashStr w x
theorem cF:∀ {k:Key} {v:Value},wA k v=true->(∃i t,k=zbn i/\v=zcv i t)\/(∃x t,k=zcf x/\v=zcJ x t)
 | .inl i,v,h=>by
  obtain⟨t,e⟩:=Value.isInt_shape (k:=i) (v:=v) h;exact .inl ⟨i,t,rfl,e⟩
 | .inr x,v,h=>by
  obtain⟨t,e⟩:=Value.isStrOf_shape (x:=x) (v:=v) h;exact .inr ⟨x,t,rfl,e⟩
theorem HX(i:Int)(t:Tok):wA (.inl i) (.int i t)=true:=by simp[wA,Value.isInt]
theorem GY(x:Str)(t:Tok):wA (.inr x) (.str x t)=true:=by simp[wA,Value.isStrOf]
theorem V1(a b:Int):decide ((zbn a:Key)=zbn b)=(a == b):=by
 by_cases e:a=b
 ·subst e;simp
 ·have h:¬ (zbn a:Key)=zbn b:=λq=>e (Sum.inl.inj q)
  rw[decide_eq_false h];exact(beq_eq_false_iff_ne.mpr e).symm
theorem TV(a b:Str):decide ((zcf a:Key)=zcf b)=decide (a=b):=by
 by_cases e:a=b
 ·subst e;simp
 ·have h:¬ (zcf a:Key)=zcf b:=λq=>e (Sum.inr.inj q)
  rw[decide_eq_false h,decide_eq_false e]
theorem TU(a:Int)(b:Str):decide ((zbn a:Key)=zcf b)=false:=decide_eq_false (λq=>nomatch q)
theorem T9(a:Str)(b:Int):decide ((zcf a:Key)=zbn b)=false:=decide_eq_false (λq=>nomatch q)
def bA(prog:zah)(w:World):PySem.KeyKind prog w Key where
 is:=wA
 hash:=qat w
 inj:=λv a b F z=>by
  rcases cF F with⟨i,t,rfl,rfl⟩|⟨x,t,rfl,rfl⟩
  ·rcases cF z with⟨j,u,rfl,e⟩|⟨y,u,rfl,e⟩
   ·injection e with e1 _;rw[e1]
   ·exact nomatch e
  ·rcases cF z with⟨j,u,rfl,e⟩|⟨y,u,rfl,e⟩
   ·exact nomatch e
   ·injection e with e1 _;rw[e1]
 byValue:=λk v h=>by
  rcases cF h with⟨i,t,rfl,rfl⟩|⟨x,t,rfl,rfl⟩ <;> rfl
 pyHash:=λq h=>by
  rcases cF q with⟨i,t,rfl,rfl⟩|⟨x,t,rfl,rfl⟩
  ·exact wpAny_pyHash_int h
  ·exact wpAny_pyHash_str h
 eqBool:=λB q h=>by
  rcases cF B with⟨i,t,rfl,rfl⟩|⟨x,t,rfl,rfl⟩
  ·rcases cF q with⟨j,u,rfl,rfl⟩|⟨y,u,rfl,rfl⟩
   ·rw[V1]at h;exact wpAny_eqBool_int h
   ·rw[TU]at h;exact SeqAt.EqAt.int_str i t y u _ _ _ _ h
  ·rcases cF q with⟨j,u,rfl,rfl⟩|⟨y,u,rfl,rfl⟩
   ·rw[T9]at h;exact SeqAt.EqAt.str_int x t j u _ _ _ _ h
   ·rw[TV]at h;exact wpAny_eqBool_str h
 «strs»:=λk x t v h=>by
  rcases cF h with⟨i,u,rfl,e⟩|⟨y,u,rfl,e⟩
  ·exact nomatch e
  ·injection e with e1 _
   subst e1;cases v <;> rfl
theorem yT(prog:zah)(w:World)(i:Int)(t:Tok):(bA prog w).is (.inl i) (.int i t)=true:=HX i t
theorem yQ(prog:zah)(w:World)(x:Str)(t:Tok):(bA prog w).is (.inr x) (.str x t)=true:=GY x t
inductive V where
 | non|bl (b:Bool)|int (i:Int)|str (x:Str)|byt (b:Array UInt8)|flt (b:UInt64)|ref (a:Addr)|ty (n:String)
 deriving DecidableEq
noncomputable def RelV:V->Value->Prop
 | .non,u=>u=za5
 | .bl b,u=>u=zcK b
 | .int i,u=>∃t,u=zcv i t
 | .str x,u=>∃t,u=zcJ x t
 | .byt b,u=>∃t,u=Value.bytes b t
 | .flt b,u=>∃t,u=Value.float b t
 | .ref a,u=>u=zar a
 | .ty n,u=>u=Value.type n
abbrev Vals:List V->List Value->Prop:=Paired RelV
theorem Vals.length(r:Vals xs us):xs.length=us.length:=zcL r
theorem Vals.get:∀ {xs:List V} {us:List Value} {i:Nat} {x:V},Vals xs us->xs[i]?=some x->∃u,us[i]?=some u/\RelV x u
 | _,_,_,_,.nil,e=>by simp at e
 | _,_,0,_,.cons r _,e=>by simp at e;subst e;exact⟨_,rfl,r⟩
 | _,_,i+1,x,.cons _ t,e=>by
  obtain⟨u,h1,h2⟩:=Vals.get (i:=i) (x:=x) t (by simpa using e);exact⟨u,by simpa using h1,h2⟩
theorem Vals.set(r:RelV x u):∀ {xs:List V} {us:List Value} (i:Nat),Vals xs us->Vals (xs.set i x) (us.set i u)
 | _,_,_,.nil=>.nil
 | _,_,0,.cons _ t=>.cons r t
 | _,_,i+1,.cons q t=>.cons q (Vals.set r i t)
theorem Vals.append:∀ {xs ys:List V} {us ws:List Value},Vals xs us->Vals ys ws->Vals (xs++ys) (us++ws)
 | _,_,_,_,.nil,s=>s
 | _,_,_,_,.cons r t,s=>.cons r (Vals.append t s)
theorem Vals.take:∀ {xs:List V} {us:List Value} (n:Nat),Vals xs us->Vals (xs.take n) (us.take n)
 | _,_,0,_=>.nil
 | _,_,_+1,.nil=>.nil
 | _,_,n+1,.cons r t=>.cons r (Vals.take n t)
theorem Vals.drop:∀ {xs:List V} {us:List Value} (n:Nat),Vals xs us->Vals (xs.drop n) (us.drop n)
 | _,_,0,r=>r
 | _,_,_+1,.nil=>.nil
 | _,_,n+1,.cons _ t=>Vals.drop n t
def RelO:Option V->Option Value->Prop
 | some v,some u=>RelV v u
 | none,none=>True
 | _,_=>False
def KV{κ:Type}:List (κ×V)->List (κ×Value)->Prop:=Paired λ(p:κ×V) (q:κ×Value)=>p.1=q.1/\RelV p.2 q.2
def kV:Key->V
 | .inl i=>.int i
 | .inr x=>.str x
section
variable {prog:zah}{w:World}{K:Type}[DecidableEq K](knd:KeyKind prog w K)
def NestIs(h:Heap)(k:K×List K)(a:Addr):Prop:=∃o n v b,h.get? a=some o/\o.cls=.type "tuple" /\ o.data=.seq #[v,.ref b] n/\knd.is k.1 v=true/\IsTupleKey knd h k.2 b
noncomputable def tI(k:K×List K):Int:=reduceHash (zcg [knd.hash k.1,zch knd k.2])
variable {knd}{A:zan}{E:Value->zab->Prop}{s:zab}
theorem NestIs.typeIs{k:K×List K}{a:Addr}(x:NestIs knd s.heap k a):s.TypeIs (.ref a) "tuple" := let ⟨o,_,_,_,ho,hc,_⟩:=x;⟨o,ho,hc⟩
theorem NestIs.inj{h:Heap}{a:Addr}{x y:K×List K}(hx:NestIs knd h x a)(G:NestIs knd h y a):x=y:=by
 obtain⟨o,n,v,b,J,_,hd,hi,M⟩:=hx;obtain⟨o',N,W,U,B,_,q,F,z⟩:=G;obtain rfl:o=o':=zaF (J.symm.trans B);rw[hd]at q;injection q with h1 _
 simp at h1;obtain⟨rfl,rfl⟩:=h1;exact Prod.ext (knd.inj _ _ _ hi F) (M.inj z)
theorem NestIs.keeps{h h':Heap}{k:K×List K}{a d:Addr}{o:Obj}{es ep}(x:NestIs knd h k a)(F:h.get? d=some o)(hd:o.data=.dict es ep)(hs:za4 d h h'):NestIs knd h' k a:=by
 obtain⟨o',n,v,b,z,G,q,hi,J⟩:=x;have B:a≠d:=by
  rintro rfl;obtain rfl:o'=o:=zaF (z.symm.trans F);rw[hd]at q;exact nomatch q
 exact⟨o',n,v,b,(hs.2 a B).trans z,G,q,hi,J.keeps F hd hs⟩
theorem HE{k:K×List K}{a:Addr}{Q:Int->zab->Prop}(B:A.units+1<cLine)(z:NestIs knd s.heap k a)(h:Q (tI knd k) {s with toks:=s.toks+(k.2.length+3)}) :
  wpAny (model prog w) A (pyHash (.ref a)) Q E s:=by
 have hT:=z.typeIs;obtain⟨o,n,v,b,G,_,hd,hi,J⟩:=z;unfold pyHash
 first|unfold pyHashByItsType|skip
 first|refine zaa (wpAny_cRoomFor_or (.inr (by lia)) ?_)|skip
 refine zaa (zcM hT F.slot_tuple_hash.lookup ?_);show wpAny _ _ (if(some (Value.builtin "tuple.__hash__") == some za5)=true then _ else _) Q E s;rw[if_neg (by rw[beq_builtin_none];exact zaA)];refine zaa (zcM hT F.slot_tuple_hash.lookup ?_);show wpAny _ _ (callSpecialIfBoundUnlessNone? (.ref a) "__hash__" _ >>= _) Q E s;refine zaa (wpAny_callSpecialIfBoundUnlessNone?_slot hT F.slot_tuple_hash (zbj F.slot_tuple_hash hT F.entry_tuple_hash ?_ (F.args_tuple_hash_1 _)));show wpAny _ _ (zdN (.ref a) >>= _) _ _ s;refine zaa (zdO G hd ?_);refine zaa ?_;rw[<- zdP];refine zcN _
  (λrest (c:Array Int) s'=>(rest=[v,.ref b]/\c=#[]/\s'=s)\/(rest=[.ref b]/\c=#[knd.hash k.1]/\s'={s with toks:=s.toks+1})\/(rest=[]/\c=#[knd.hash k.1,zch knd k.2]/\s'={s with toks:=s.toks+(k.2.length+2)}))
  _ ?_ ?_ _ _ (.inl ⟨rfl,rfl,rfl⟩)
 ·rintro x rest c s' (⟨e,rfl,rfl⟩|⟨e,rfl,rfl⟩|⟨e,_⟩)
  ·cases e
   refine zaa (knd.pyHash hi ?_)
   first
    | exact zaf (.inr (.inl ⟨rfl,rfl,rfl⟩))
    | exact zaa (zaf (zaf (.inr (.inl ⟨rfl,rfl,rfl⟩))))
  ·cases e
   refine zaa (wpAny_pyHash_tuple (knd:=knd) (ks:=k.2) ?_ J ?_)
   ·exact B
   ·have e:({s with toks:=s.toks+1+(k.2.length+1)}:zab)={s with toks:=s.toks+(k.2.length+2)}:=by congr 1;lia
    show wpAny _ _ _ _ _ {s with toks:=s.toks+1+(k.2.length+1)};rw[e]
    first
     | exact zaf (.inr (.inr ⟨rfl,rfl,rfl⟩))
     | exact zaa (zaf (zaf (.inr (.inr ⟨rfl,rfl,rfl⟩))))
  ·cases e
 ·rintro c s' (⟨e,_⟩|⟨e,_⟩|⟨e,rfl,rfl⟩)
  ·cases e
  ·cases e
  show wpAny _ _ (retInt (zcg [knd.hash k.1,zch knd k.2])) _ _ _;refine wpAny_ret_mkInt ?_;show wpAny _ _ (if(decide (-(2:Int)^63<=zcg [knd.hash k.1,zch knd k.2]) && decide (zcg [knd.hash k.1,zch knd k.2]<2^63))=true then _ else _) Q E _;unfold tI reduceHash at h;by_cases q:(decide (-(2:Int)^63<=zcg [knd.hash k.1,zch knd k.2]) && decide (zcg [knd.hash k.1,zch knd k.2]<2^63))=true
  ·rw[if_pos q]
   rw[if_pos q]at h;exact zaf (by simpa[Nat.add_assoc]using h)
  ·rw[if_neg q]
   rw[if_neg q]at h;exact zaa (zbM (zaf (by simpa[Nat.add_assoc]using h)))
theorem wH{x y:K×List K}{a b:Addr}{P:Fin->zab->Prop}(hu:A.units<cLine)(hx:NestIs knd s.heap x a)(hy:NestIs knd s.heap y b)(h:P (.done (.ret (.bool (decide (x=y))))) s) :
  wpAny (model prog w) A (zb0.«tuple.__eq__» ⟨[.ref a,.ref b],[]⟩) P E s:=by
 have z:=hy.typeIs;obtain⟨oa,na,va,ba,W,_,U,N,B⟩:=hx;obtain⟨ob,nb,vb,bb,F,_,Y,aa,J⟩:=hy;show wpAny _ _ (isInstance (.ref b) (.type "tuple") >>= _) _ _ s;refine zaa (zcw z zdQ ?_);simp only[zb1,zbo,if_false];refine zaa (zdO W U ?_);refine zaa (zdO F Y ?_);refine zaa ?_;have ex:decide (x=y)=(decide (x.1=y.1) && decide (x.2=y.2)):=by
  rw[zcO,decide_eq_true_iff,zaP,decide_eq_true_iff,decide_eq_true_iff];exact⟨λe=>by rw[e];exact⟨rfl,rfl⟩,λe=>Prod.ext e.1 e.2⟩
 rw[ex]at h;refine zcN _
  (λrest r s'=>r.1=none/\s'=s/\(rest=[(va,vb),(.ref ba,.ref bb)]\/(rest=[(.ref ba,.ref bb)]/\x.1=y.1)\/(rest=[]/\x.1=y.1/\x.2=y.2)))
  _ ?_ ?_ _ _ ⟨rfl,rfl,.inl rfl⟩
 ·rintro⟨u,v⟩ rest r s' ⟨G,rfl,e|⟨e,M⟩|⟨e,_⟩⟩
  ·cases e
   refine zaa (knd.eqBool (a:=x.1) (b:=y.1) N aa ?_);by_cases q:x.1=y.1
   ·rw[decide_eq_true q]
    simp only[zb1,zbo,if_false];exact zaf ⟨rfl,rfl,.inr (.inl ⟨trivial,q⟩)⟩
   ·rw[decide_eq_false q]at h ⊢
    simp only[Bool.not_false,if_true];exact zaa (zaf (zaf (zaf h)))
  ·cases e
   refine zaa (wpAny_eqBool_tuple (knd:=knd) hu B J ?_);by_cases q:x.2=y.2
   ·rw[decide_eq_true q]
    simp only[zb1,zbo,if_false];exact zaf ⟨rfl,rfl,.inr (.inr ⟨trivial,M,q⟩)⟩
   ·rw[decide_eq_false q,Bool.and_false]at h
    rw[decide_eq_false q];simp only[Bool.not_false,if_true];exact zaa (zaf (zaf (zaf h)))
  ·cases e
 ·rintro⟨r1,r2⟩ s' ⟨G,rfl,e|⟨e,_⟩|⟨_,M,e2⟩⟩
  ·cases e
  ·cases e
  simp only at G;subst G;refine zaf ?_;rw[decide_eq_true M,decide_eq_true e2]at h;exact h
theorem N4{x y:K×List K}{a b:Addr}{Q:Bool->zab->Prop}(B:A.units+1<cLine)(hx:NestIs knd s.heap x a)(z:NestIs knd s.heap y b)(h:Q (decide (x=y)) s) :
  wpAny (model prog w) A (eqBool (.ref a) (.ref b)) Q E s:=by
 unfold eqBool
 try with_reducible refine zbB ?_
 show wpAny _ _ (if(zar a == zar b)=true then _ else _) Q E s;by_cases q:(zar a == zar b)=true
 ·rw[if_pos q]
  have e:a=b:=by have:=eq_of_beq q;injection this
  subst e;obtain rfl:=hx.inj z;exact zaa (zbM (zaf (by simpa using h)))
 ·rw[if_neg q]
  exact zaa (wpAny_richCompare_same_room (op:=.Eq) hx.typeIs z.typeIs F.slot_tuple_eq
   (zbj F.slot_tuple_eq hx.typeIs F.entry_tuple_eq (wH (show A.in1.units<cLine from B) hx z ⟨_,rfl,(λe=>nomatch e),zcx h⟩) (F.args_tuple_eq_2 _ _)) (by lia))
theorem GX(n:Nat){ks:List K}{a:Addr}{Q:Bool->zab->Prop}(G:IsTupleKey knd s.heap ks a)(h:Q true s):wpAny (model prog w) A (eqIsQuiet (n+1) (.ref a)) Q E s:=by
 have hT:=G.typeIs;obtain⟨o,items,m,J,_,hd,hi⟩:=G;unfold eqIsQuiet;refine zaa (zcM hT F.slot_tuple_eq.lookup ?_);show wpAny _ _ (isInstance (.ref a) (.type "tuple") >>= _) _ _ s;refine zaa (zcw hT zdQ ?_);simp only[zb1,zbo,if_false];refine zaa (zbp J hd ?_);refine zaa ?_;show wpAny _ _ (forIn items _ _) _ _ s;rw[<- zdP];refine zcN _ (λrest r s'=>r.1=none/\s'=s/\∀v∈rest,carriedByValue v=true) _ ?_ ?_ _ _ ⟨rfl,rfl,hi.byValue⟩
 ·rintro v rest r s' ⟨B,rfl,q⟩
  rw[eqIsQuiet_byValue _ (q v zat)];refine zaa (zaf ?_);simp only[zb1,zbo,if_false];exact zaf ⟨rfl,rfl,λu z=>q u (zap _ z)⟩
 ·rintro⟨r1,r2⟩ s' ⟨B,rfl,_⟩
  simp only at B;subst B;exact zaf h
theorem CV{k:K×List K}{a:Addr}{Q:Bool->zab->Prop}(z:NestIs knd s.heap k a)(h:Q true s):wpAny (model prog w) A (eqIsQuiet 8 (.ref a)) Q E s:=by
 have hT:=z.typeIs;obtain⟨o,m,v,b,G,_,hd,hi,B⟩:=z;unfold eqIsQuiet;refine zaa (zcM hT F.slot_tuple_eq.lookup ?_);show wpAny _ _ (isInstance (.ref a) (.type "tuple") >>= _) _ _ s;refine zaa (zcw hT zdQ ?_);simp only[zb1,zbo,if_false];refine zaa (zbp G hd ?_);refine zaa ?_;show wpAny _ _ (forIn _ _ _) _ _ s;rw[<- zdP];refine zcN _ (λrest r s'=>r.1=none/\s'=s/\(rest=[v,.ref b]\/rest=[.ref b]\/rest=[])) _ ?_ ?_ _ _ ⟨rfl,rfl,.inl rfl⟩
 ·rintro u rest r s' ⟨q,rfl,e|e|e⟩
  ·cases e
   rw[eqIsQuiet_byValue _ (knd.byValue _ _ hi)];refine zaa (zaf ?_);simp only[zb1,zbo,if_false];exact zaf ⟨rfl,rfl,.inr (.inl trivial)⟩
  ·cases e
   refine zaa (GX _ B ?_);simp only[zb1,zbo,if_false];exact zaf ⟨rfl,rfl,.inr (.inr trivial)⟩
  ·cases e
 ·rintro⟨r1,r2⟩ s' ⟨q,rfl,_⟩
  simp only at q;subst q;exact zaf h
end
def cW{prog:zah}{w:World}{K:Type}[DecidableEq K](knd:KeyKind prog w K):HeapKind prog w (K×List K) where
 is:=NestIs knd
 hash:=tI knd
 draws:=λk=>k.2.length+3
 room:=λA=>A.units+1<cLine
 inj:=λhx z=>hx.inj z
 keeps:=λx F hd hs=>x.keeps F hd hs
 pyHash:=λq B h=>HE q B h
 eqBool:=λq hx z h=>N4 q hx z h
 quiet:=λB h=>CV B h
inductive HO where
 | memo (dom:List (Key×List Key)) (f:Key×List Key->Option (Int×Int)) (p:Option (Key×List Key))
 /-- a list -/
 | lst (xs:List V)
 /-- a tuple (never changes) -/
 | tup (xs:List V)
 /-- a dict whose keys are ints and texts;one whose keys are tuples of ints and texts (the empty one is both) -/
 | dK (kvs:List (Key×V))|dT (kvs:List (List Key×V))
 /-- a set of ints: its members, its size -/
 | set (S:Int->Bool) (n:Nat)
 /-- an instance of the class at C, its dict at dx, its attributes -/
 | ins (C dx:Addr) (fs:List (Str×V))
 /-- the dict of the instance at x -/
 | own (x:Addr)
 /-- the dict of an exception -/
 | xd (fs:List (Str×V))
 /-- a bound method, f of x -/
 | met (f x:Addr)
 /-- a range object lo, lo+1, .. below hi -/
 | rng (lo hi:Int)
 /-- a thing that is known to the object (the script;a dict while a loop walks it): read, never written while it is so -/
 | frz (o:Obj) (u:HO)
 /-- a code object's table -/
 | tbl (ps:Array Value)
 /-- any other thing, by what is true of its one object (a def of one's own: SetO a S n:=HO.ext λh => ..) -/
 | ext (φ:Heap->Prop)
abbrev Hp:=Addr->Option HO
def upd(H:Hp)(a:Addr)(o:HO):Hp:=λb=>if b=a then some o else H b
def MemV(H:Hp):Option (Int×Int)->Value->Prop
 | none,v=>v=.none
 | some p,v=>∃b,v=.ref b/\H b=some (.tup [.int p.1,.int p.2])
theorem aI:upd H a o a=some o:=by unfold upd;rw[if_pos rfl]
theorem aF(h:b≠a):upd H a o b=H b:=by unfold upd;rw[if_neg h]
theorem O6:upd (upd H a o) a u=upd H a u:=by
 funext b;unfold upd;split <;> rfl
theorem uH{H:Hp}{a b:Addr}{o u:HO}(h:H a=some o)(h':H b=some u)(d:o≠u):a≠b:=by
 intro e;subst e;rw[h]at h';exact d (zaF h')
theorem bH{H:Hp}{a b:Addr}{o:HO}(h:H a=some o)(h':H b=none):a≠b:=by
 intro e;subst e;rw[h]at h';cases h'
section
variable (P:zah)(w:World)
def IsTupN(h:Heap)(a:Addr)(items:Array Value):Prop:=∃o,h.get? a=some o/\o.cls=.type "tuple" /\ ∃n,o.data=.seq items n/\o.dict=none
theorem IsTupN.tup{h:Heap}{a:Addr}{items:Array Value}(x:IsTupN h a items):IsTup h a items:=let ⟨o,e,c,n,d,_⟩:=x;⟨o,e,c,n,d⟩
theorem IsTupN.lt(x:IsTupN h a items):a<h.objs.size:=x.tup.lt
theorem IsTupN.new(h:Heap)(items:Array Value):IsTupN (h.push {cls:=.type "tuple",data:=.seq items}) h.objs.size items:=⟨_,zaD _ rfl,rfl,_,rfl,rfl⟩
def ObjOk(H:Hp)(h:Heap)(a:Addr):HO->Prop
 | .lst xs=>xs.length<=zai/\∃(its:List Value) (n:Nat),Vals xs its/\h.get? a=some {cls:=.type "list",data:=.seq its.toArray n}
 | .tup xs=>xs.length<=zai/\∃its:List Value,Vals xs its/\IsTupN h a its.toArray
 | .dK kvs=>kvs.length<=zai/\(a == za6)=false/\∃vs,KV kvs vs/\h.DictOf (bA P w) a vs
 | .dT kvs=>kvs.length<=zai/\(a == za6)=false/\∃xs:List (List Key×Addr×Value),
   Paired (λ(p:List Key×V) (q:List Key×Addr×Value)=>p.1=q.1/\H q.2.1=some (.tup (p.1.map kV))/\RelV p.2 q.2.2) kvs xs /\
   ∃o es ep,h.get? a=some o/\o.ExactDict/\o.data=.dict es ep/\es.toList=xs.map (zci (zb2 (bA P w)))/\(xs.map (·.1)).Nodup
 | .set S n=>h.SetOf (intKind P w) a S n
 | .memo dom f p=>(a == za6)=false/\∃xs:List ((Key×List Key)×Addr×Value),(∀x∈xs,x.1∈dom/\(∃b,H x.2.1=some (.tup [kV x.1.1,.ref b])/\H b=some (.tup (x.1.2.map kV)))/\MemV H (f x.1) x.2.2)/\(∀k,p=some k->∃q,atKey xs k=some q) /\
   ∃o es ep,h.get? a=some o/\o.ExactDict/\o.data=.dict es ep/\es.toList=xs.map (zci (cW (bA P w)))/\(xs.map (·.1)).Nodup
 | .ins C dx fs=>H dx=some (.own a)/\fs.length<=1000/\dx≠a/\h.get? a=some (zb3 C dx) /\
   ∃mA,h.Ns1 dx mA/\(∀f,RelO (fs.lookup f) (mA f))/\PySem.Within mA (fs.map (·.1))
 | .own _=>∃o,h.get? a=some o
 | .xd fs=>∃mA,h.Ns1 a mA/\∀f,RelO (fs.lookup f) (mA f)
 | .rng lo hi=>∃t u v,h.get? a=some {cls:=.type "range",data:=.fields #[.int lo t,.int hi u,.int 1 v]}
 | .frz o u=>h.get? a=some o/\ObjOk H h a u
 | .tbl ps=>h.get? a=some {cls:=.none,data:=.fields ps}
 | .met f x=>h.get? a=some (zdR (.ref f) (.ref x))
 | .ext φ=>φ h/\(∃o,h.get? a=some o)/\∀h1 h2:Heap,φ h1->(∀o,h1.get? a=some o->h2.get? a=some o)->φ h2
def HOk(H:Hp)(h:Heap):Prop:=∀a o,H a=some o->ObjOk P w H h a o
end
section
variable {P:zah}{w:World}{H H':Hp}{h h':Heap}{a:Addr}{o:HO}
theorem ObjOk.lt(x:ObjOk P w H h a o):a<h.objs.size:=by
 cases o with
 | lst xs=>obtain⟨_,_,_,_,e⟩:=x;exact zao e
 | tup xs=>obtain⟨_,_,_,p⟩:=x;exact p.lt
 | dK kvs=>obtain⟨_,_,_,_,o,_,_,e,_⟩:=x;exact zao e
 | dT kvs=>obtain⟨_,_,_,_,o,_,_,e,_⟩:=x;exact zao e
 | set S n=>obtain⟨o,_,_,_,e,_⟩:=x;exact zao e
 | memo dom f p=>obtain⟨_,_,_,_,o,_,_,e,_⟩:=x;exact zao e
 | ins C dx fs=>obtain⟨_,_,_,e,_⟩:=x;exact zao e
 | own y=>obtain⟨_,e⟩:=x;exact zao e
 | xd fs=>obtain⟨_,⟨_,_,_,e,_⟩,_⟩:=x;exact zao e
 | rng lo hi=>obtain⟨_,_,_,e⟩:=x;exact zao e
 | frz ob u=>obtain⟨e,_⟩:=x;exact zao e
 | tbl ps=>exact zao (show h.get? a=some _ from x)
 | met f y=>exact zao (show h.get? a=some _ from x)
 | ext φ=>obtain⟨_,⟨_,e⟩,_⟩:=x;exact zao e
theorem Paired.mapP{q β:Type}{F G:q->β->Prop}:∀ {l₁:List q} {l₂:List β},Paired F l₁ l₂->(∀a b,F a b->G a b)->Paired G l₁ l₂
 | _,_,.nil,_=>.nil
 | _,_,.cons r t,f=>.cons (f _ _ r) (Paired.mapP t f)
theorem ObjOk.stay(x:ObjOk P w H h a o)(k:∀b u,(b=a\/H b=some (.own a))->h.get? b=some u->h'.get? b=some u)
  (Y:∀b,H b=some (.own a)->H' b=some (.own a)) (G:∀b xs,H b=some (.tup xs)->H' b=some (.tup xs)):ObjOk P w H' h' a o:=by
 induction o with
 | lst xs=>obtain⟨z,F,n,r,e⟩:=x;exact⟨z,F,n,r,k _ _ (.inl rfl) e⟩
 | tup xs=>obtain⟨z,F,r,B,e,c⟩:=x;exact⟨z,F,r,B,k _ _ (.inl rfl) e,c⟩
 | dK kvs=>obtain⟨z,y,vs,r,B,es,ep,e,c⟩:=x;exact⟨z,y,vs,r,B,es,ep,k _ _ (.inl rfl) e,c⟩
 | dT kvs=>
  obtain⟨z,y,xs,r,B,es,ep,e,c⟩:=x;exact⟨z,y,xs,Paired.mapP r λp q z=>⟨z.1,G _ _ z.2.1,z.2.2⟩,B,es,ep,k _ _ (.inl rfl) e,c⟩
 | set S n=>obtain⟨B,es,ep,t,e,c⟩:=x;exact⟨B,es,ep,t,k _ _ (.inl rfl) e,c⟩
 | memo dom f p=>
  obtain⟨y,xs,r,M,B,es,ep,e,c⟩:=x;refine⟨y,xs,λx hx=>?_,M,B,es,ep,k _ _ (.inl rfl) e,c⟩;obtain⟨d,⟨b,q1,U⟩,m⟩:=r x hx;refine⟨d,⟨b,G _ _ q1,G _ _ U⟩,?_⟩;revert m;cases f x.1 with
  | none=>exact id
  | some p=>exact λ⟨c,N,J⟩=>⟨c,N,G _ _ J⟩
 | ins C dx fs=>
  obtain⟨d,z,W,e,mA,⟨od,es,ep,J,c⟩,r⟩:=x;exact⟨Y _ d,z,W,k _ _ (.inl rfl) e,mA,⟨od,es,ep,k _ _ (.inr d) J,c⟩,r⟩
 | own y=>obtain⟨B,e⟩:=x;exact⟨B,k _ _ (.inl rfl) e⟩
 | xd fs=>obtain⟨mA,⟨od,es,ep,e,c⟩,r⟩:=x;exact⟨mA,⟨od,es,ep,k _ _ (.inl rfl) e,c⟩,r⟩
 | rng lo hi=>obtain⟨t,u,v,e⟩:=x;exact⟨t,u,v,k _ _ (.inl rfl) e⟩
 | frz B u ih=>obtain⟨e,q⟩:=x;exact⟨k _ _ (.inl rfl) e,ih q⟩
 | tbl ps=>
  have e:h.get? a=some {cls:=.none,data:=.fields ps}:=x;show h'.get? a=some {cls:=.none,data:=.fields ps};exact k a _ (.inl rfl) e
 | met f y=>
  have e:h.get? a=some (zdR (.ref f) (.ref y)):=x;show h'.get? a=some (zdR (.ref f) (.ref y));exact k a _ (.inl rfl) e
 | ext φ=>obtain⟨p,⟨o,e⟩,st⟩:=x;exact⟨st _ _ p λo q=>k _ _ (.inl rfl) q,⟨o,k _ _ (.inl rfl) e⟩,st⟩
theorem HOk.lt(x:HOk P w H h)(e:H a=some o):a<h.objs.size:=(x a o e).lt
theorem HOk.fresh(x:HOk P w H h)(e:h.objs.size<=a):H a=none:=by
 cases q:H a with
 | none=>rfl
 | some u=>exact absurd (zaW (x.lt q) e) (zb4 _)
theorem HOk.kept(x:HOk P w H h)(k:∀b u,h.get? b=some u->h'.get? b=some u):HOk P w H h':=λa o e=>
 (x a o e).stay (λb u _ q=>k b u q) (λ_ q=>q) λ_ _ q=>q
theorem HOk.laid(x:HOk P w H h)(k:∀b u,h.get? b=some u->h'.get? b=some u)(F:h.objs.size<=a)(new:ObjOk P w (upd H a o) h' a o):HOk P w (upd H a o) h':=λb u e=>by
 have z:=x.fresh F;by_cases B:b=a
 ·subst B;rw[aI]at e;cases e;exact new
 ·rw[aF B]at e
  exact(x b u e).stay (λc v _ q=>k c v q) (λc q=>by rw[aF (bH q z)];exact q) λc xs q=>by rw[aF (bH q z)];exact q
end
def Rd(H:Hp)(a:Addr)(u:HO):Prop:=H a=some u\/∃o,H a=some (.frz o u)
theorem Rd.of(h:H a=some u):Rd H a u:=.inl h
theorem Rd.ok(r:Rd H a u)(x:HOk P w H h):ObjOk P w H h a u:=by
 rcases r with r|⟨o,r⟩
 ·exact x a u r
 ·obtain⟨_,q⟩:=x a _ r
  exact q
def qm:Option HO->Prop
 | some (.lst _)=>True
 | some (.dK _)=>True
 | some (.dT _)=>True
 | some (.set _ _)=>True
 | some (.memo _ _ _)=>True
 | some (.ins _ _ _)=>True
 | some (.ext _)=>True
 | _=>False
section
variable {P:zah}{w:World}{H:Hp}{h h':Heap}{x e:Addr}{o':HO}
theorem HOk.write(ok:HOk P w H h)(M:qm (H x))(Y:e=x\/H e=some (.own x))(k:∀b u,b≠e->h.get? b=some u->h'.get? b=some u)(U:∃u,h'.get? e=some u)
  (new:ObjOk P w (upd H x o') h' x o'):HOk P w (upd H x o') h':=λb u q=>by
 have F:∀c y,H c=some (.own y)->c≠x:=λc y r z=>by subst z;rw[r]at M;exact M
 have G:∀c xs,H c=some (.tup xs)->c≠x:=λc xs r z=>by subst z;rw[r]at M;exact M
 by_cases N:b=x
 ·subst N;rw[aI]at q;cases q;exact new
 ·rw[aF N]at q
  by_cases B:b=e
  ·have W:H b=some (.own x):=by
    rcases Y with z|z
    ·exact absurd (B.trans z) N
    ·rw[B];exact z
   rw[q]at W;cases W;obtain⟨v,hv⟩:=U;exact⟨v,by rw[B];exact hv⟩
  ·refine(ok b u q).stay (λc v J r=>k c v ?_ r) (λc r=>by rw[aF (F c b r)];exact r) λc xs r=>by rw[aF (G c xs r)];exact r
   rcases J with rfl|J
   ·exact B
   ·rintro rfl
    rcases Y with z|z
    ·exact F c b J z
    ·rw[J]at z;cases z;exact N rfl
end
structure Un(fs ex:List Addr)(H H':Hp)(h h':Heap):Prop where
 keep:∀b o,h.get? b=some o->H b=none->b∉fs->b∉ex->h'.get? b=some o
 slot:∀b o,h.get? b=some o->H b=none->b∈fs->b∉ex->∃sl,h'.get? b=some {o with slots:=sl}
 free:∀b o,h.get? b=some o->H b=none->b∉ex->H' b=none
 there:∀b o,h.get? b=some o->b∉ex->∃o',h'.get? b=some o'
 tups:∀b xs,H b=some (.tup xs)->H' b=some (.tup xs)
 frzs:∀b o u,H b=some (.frz o u)->H' b=some (.frz o u)
 tbls:∀b ps,H b=some (.tbl ps)->∃more,H' b=some (.tbl (ps++more))
section
variable {fs fs' ex ex':List Addr}{H H1 H2:Hp}{h h1 h2 h':Heap}{a x e:Addr}{o:HO}
theorem Un.any(u:Un fs ex H H1 h h1)(q:h.get? b=some ob)(n:H b=none)(hx:b∉ex):∃B,h1.get? b=some {ob with slots:=B}:=by
 by_cases z:b∈fs
 ·exact u.slot b ob q n z hx
 ·exact⟨ob.slots,u.keep b ob q n z hx⟩
theorem Un.trans(a:Un fs ex H H1 h h1)(b:Un fs ex H1 H2 h1 h2):Un fs ex H H2 h h2 where
 keep:=λc z q n F hx=>b.keep c z (a.keep c z q n F hx) (a.free c z q n hx) F hx
 slot:=λc z q n F hx=>by
  obtain⟨M,B⟩:=a.slot c z q n F hx;obtain⟨G,J⟩:=b.slot c _ B (a.free c z q n hx) F hx;exact⟨G,J⟩
 free:=λc z q n hx=>by
  obtain⟨o',B⟩:=a.there c z q hx;exact b.free c o' B (a.free c z q n hx) hx
 there:=λc z q hx=>by
  obtain⟨o',B⟩:=a.there c z q hx;exact b.there c o' B hx
 tups:=λc xs q=>b.tups c xs (a.tups c xs q)
 frzs:=λc z xs q=>b.frzs c z xs (a.frzs c z xs q)
 tbls:=λc ps q=>by
  obtain⟨m1,B⟩:=a.tbls c ps q;obtain⟨m2,J⟩:=b.tbls c _ B;exact⟨m1++m2,by rw[J,Array.append_assoc]⟩
theorem Un.kept(k:∀b u,h.get? b=some u->h'.get? b=some u):Un fs ex H H h h':=
 ⟨λb z q _ _ _=>k b z q,λb z q _ _ _=>⟨z.slots,k b z q⟩,λ_ _ _ n _=>n,λb z q _=>⟨z,k b z q⟩,λ_ _ q=>q,λ_ _ _ q=>q,λ_ ps q=>⟨#[],by rw[q];simp⟩⟩
theorem Un.refl:Un fs ex H H h h:=Un.kept λ_ _ q=>q
theorem Un.laid(k:∀b u,h.get? b=some u->h'.get? b=some u)(B:h.objs.size<=a)(z:H a=none):Un fs ex H (upd H a o) h h' where
 keep:=λb u q _ _ _=>k b u q
 slot:=λb u q _ _ _=>⟨u.slots,k b u q⟩
 free:=λb u q n _=>by rw[aF (zaE (zaW (zao q) B))];exact n
 there:=λb u q _=>⟨u,k b u q⟩
 tups:=λb xs q=>by rw[aF (bH q z)];exact q
 frzs:=λb u xs q=>by rw[aF (bH q z)];exact q
 tbls:=λb ps q=>⟨#[],by rw[aF (bH q z),q];simp⟩
theorem Un.write(F:qm (H x))(N:e=x\/H e=some (.own x))(k:∀b u,b≠e->h.get? b=some u->h'.get? b=some u)(J:∃u,h'.get? e=some u):Un fs ex H (upd H x o) h h':=by
 have hx:∀b,H b=none->b≠x:=λb n z=>by subst z;rw[n]at F;exact F
 have M:∀b,H b=none->b≠e:=λb n z=>by
  subst z;rcases N with r|r
  ·exact hx b n r
  ·rw[n]at r;cases r
 have G:∀b u,H b=some u->¬ qm (some u)->b≠x:=λb u q nm z=>by subst z;rw[q]at F;exact nm F
 refine⟨λb u q n _ _=>k b u (M b n) q,λb u q n _ _=>⟨u.slots,k b u (M b n) q⟩,λb u q n _=>by rw[aF (hx b n)];exact n,λb u q _=>?_,
  λb xs q=>by rw[aF (G b _ q λz=>z)];exact q,λb u xs q=>by rw[aF (G b _ q λz=>z)];exact q,λb ps q=>⟨#[],by rw[aF (G b _ q λz=>z),q];simp⟩⟩
 by_cases B:b=e
 ·subst B;exact J
 ·exact⟨u,k b u B q⟩
theorem Un.mono(u:Un fs ex H H1 h h1)(hs:∀b∈fs,b∈fs')(hx:∀b∈ex,b∈ex'):Un fs' ex' H H1 h h1:=
 ⟨λb F q n G B=>u.keep b F q n (λz=>G (hs b z)) λz=>B (hx b z),λ_ _ q n _ B=>u.any q n λz=>B (hx _ z),λb F q n B=>u.free b F q n λz=>B (hx b z),λb F q B=>u.there b F q λz=>B (hx b z),u.tups,u.frzs,u.tbls⟩
end
def qu(h:Heap)(H:Hp):List Addr:=(zas h.objs.size).filter λa=>(H a).isSome
def x9(h:Heap)(H:Hp):Heap:=PySem.W.hideAll h (qu h H)
theorem GQ(h:Heap)(H:Hp):(x9 h H).objs.size=h.objs.size:=PySem.W.hideAll_size _ _
theorem KA(e:h.get? b=some o)(n:H b=none):(x9 h H).get? b=some o:=
 PySem.W.hideAll_get _ e λz=>by
  have q:(H b).isSome=true:=(List.mem_filter.mp z).2;rw[n]at q;simp at q
theorem O7(e:(x9 h H).get? b=some o):h.get? b=some o/\H b=none:=by
 have B:h.get? b=some o:=PySem.W.of_hideAll (qu h H) e;refine⟨B,?_⟩;cases q:H b with
 | none=>rfl
 | some x=>
  have F:b∈qu h H:=List.mem_filter.mpr ⟨List.mem_range.mpr (zao B),by simp[q]⟩;have z:(x9 h H).get? b=none:=PySem.W.hideAll_none (qu h H) F;rw[z]at e;cases e
def RJ(g h:Heap)(L:Addr):List (Addr×Obj):=(zas h.objs.size).filterMap λa=>if a=L\/(g.get? a).isSome=true then none else(h.get? a).map λo=>(a,o)
def rest(g h:Heap)(L d:Addr):List (Addr×Obj):=(RJ g h L).filter λp=>decide (p.1≠d)
structure Mod(K:zae)(mg:Str->Option Value)(base:Heap):Prop where
 kin:K.In base
 glob:base.Ns zaJ mg
 blt:∃mb,base.Ns builtinsNs mb/\∀x:Str,x ≠ "__name__" -> mb x=zaH x
 nolimit:base.NoLimit
structure Cx where
 prog:zah
 w:World
 K:zae
 mg:Str->Option Value
 base:Heap
 A:zan
 N:List Str
 s₀:zab
 H₀:Hp
 env:Env
 outer:List Env
 stack:List Env
 ex:List Addr
 fn:Str->Bool
 calm:Bool
 pn:List (Addr×Obj)
 xe:Value->zab->Prop
noncomputable def frs(l:List Env):List Addr:=l.filterMap (·.frame)
abbrev Cx.fs(X:Cx):List Addr:=frs X.outer
def W8(sc:Scope)(x:Str):Prop:=sc.names.lookup x=some .local\/sc.names.lookup x=some .cell\/sc.names.lookup x=some .free
def Loc(sc:Scope)(x:Str):Prop:=sc.names.lookup x=some .local\/sc.names.lookup x=some .cell
def Look(env:Env)(h:Heap)(m:Str->Option Value)(x:Str)(u:Value):Prop:=
 (env.kindOf x=some .local/\m x=some u)\/((env.kindOf x=some .cell\/env.kindOf x=some .free)/\∃c,env.cells.lookup x=some c/\h.IsCell c (some u))
structure Cx.Ok(X:Cx):Prop where
 mod:Mod X.K X.mg X.base
 kind:X.env.scope.kind=.function
 glob:X.env.globals=zaJ
 blt:X.env.builtins=builtinsNs
 above:X.s₀.heap.objs.size<=X.env.locals
 inj:∀x y c,X.env.cells.lookup x=some c->X.env.cells.lookup y=some c->x=y
 has:∀x,(X.env.kindOf x=some .cell\/X.env.kindOf x=some .free)->∃c,X.env.cells.lookup x=some c
 cab:∀x c,X.fn x=true->X.env.cells.lookup x=some c->X.s₀.heap.objs.size<=c
 hd:X.calm=true->X.A.handled=none
 frames:X.A.frames=some X.stack
 stk:X.stack=X.outer\/(X.stack=X.env::X.outer/\X.env.frame=some X.env.locals)
 exf:∀b∈X.ex,b≠X.env.locals/\∀x c,X.env.cells.lookup x=some c->c≠b
 bs:∀b o,X.base.get? b=some o->X.s₀.heap.get? b=some o/\X.H₀ b=none
 bsz:X.base.objs.size<=X.s₀.heap.objs.size
 noex:∀b o,X.base.get? b=some o->b∉X.ex
 exfs:∀b∈X.ex,b∉X.fs
 funs:X.s₀.heap.FunFrames X.base X.outer
 frf:∀b∈X.fs,X.H₀ b=none
structure Inv(X:Cx)(pins:List (Addr×Obj))(σ:List (Option V))(H:Hp)(s:zab):Prop where
 ok:X.Ok
 os:s.os=X.s₀.os
 bare:zbN s.gens
 base:Un X.fs X.ex X.H₀ H X.s₀.heap s.heap
 loc:∃m,s.heap.Ns X.env.locals m/\∀(i:Nat) (x:Str) (v:V),X.N[i]?=some x->σ[i]?=some (some v)->W8 X.env.scope x->∃u,RelV v u/\Look X.env s.heap m x u
 cell:∀x c,X.env.cells.lookup x=some c->∃v,s.heap.IsCell c v
 free:H X.env.locals=none
 freeC:∀x c,X.env.cells.lookup x=some c->H c=none
 pin:∀p∈X.pn++pins,s.heap.get? p.1=some p.2/\H p.1=none/\p.1≠X.env.locals/\p.1∉X.fs/\∀v,p.2.data≠.cell v
 hok:HOk X.prog X.w H s.heap
 len:σ.length=X.N.length
section
variable {X:Cx}{pins:List (Addr×Obj)}{σ:List (Option V)}{H H':Hp}{s:zab}{h':Heap}
theorem Cx.Ok.nofr(ok:X.Ok)(e:X.base.get? b=some o):b∉X.fs:=λq=>by
 have:=(ok.funs.mem q).1;rw[e]at this;cases this
theorem Inv.bs(I:Inv X pins σ H s):∀b o,X.base.get? b=some o->s.heap.get? b=some o/\H b=none:=λb o e=>
 ⟨I.base.keep b o (I.ok.bs b o e).1 (I.ok.bs b o e).2 (I.ok.nofr e) (I.ok.noex b o e),I.base.free b o (I.ok.bs b o e).1 (I.ok.bs b o e).2 (I.ok.noex b o e)⟩
theorem Inv.bk(I:Inv X pins σ H s):∀b o,X.base.get? b=some o->s.heap.get? b=some o:=λb o e=>(I.bs b o e).1
theorem Inv.mod(I:Inv X pins σ H s):Mod X.K X.mg X.base:=I.ok.mod
theorem Inv.kIn(I:Inv X pins σ H s):X.K.In s.heap:=I.ok.mod.kin.keeps I.bk
theorem Inv.lt(I:Inv X pins σ H s):X.env.locals<s.heap.objs.size:=let ⟨_,hn,_⟩:=I.loc;hn.lt
theorem Inv.sz(I:Inv X pins σ H s):X.s₀.heap.objs.size<=s.heap.objs.size:=zaK I.ok.above (Nat.le_of_lt I.lt)
theorem Inv.nofs(I:Inv X pins σ H s)(h:s.heap.objs.size<=a):a∉X.fs:=λq=>by
 obtain⟨_,o,z,_⟩:=I.ok.funs.mem q;exact absurd (zaW (zao z) (zaK I.sz h)) (zb4 _)
theorem Inv.cne(I:Inv X pins σ H s):∀x c,X.env.cells.lookup x=some c->c≠X.env.locals:=λx c e z=>by
 obtain⟨v,o,F,hd⟩:=I.cell x c e;obtain⟨m,⟨o',es,ep,B,q,_⟩,_⟩:=I.loc;rw[z,B]at F;cases F;rw[q]at hd;cases hd
theorem Inv.funs(I:Inv X pins σ H s):s.heap.FunFrames X.base X.outer:=by
 have all:∀(l:List Env),(∀b∈frs l,b∈X.fs)->X.s₀.heap.FunFrames X.base l->s.heap.FunFrames X.base l:=by
  intro l;induction l with
  | nil=>intro _ _;trivial
  | cons env r ih=>
   intro hs G;obtain⟨U,⟨L,o,q,J,N,hd⟩,M⟩:=G;have F:L∈X.fs:=hs L (by unfold frs;rw[zdS,q];exact zat);obtain⟨W,e⟩:=I.base.slot L o N (I.ok.frf L F) F λz=>I.ok.exfs L z F
   exact⟨U,⟨L,_,q,J,e,hd⟩,ih (λb B=>hs b (by unfold frs;rw[zdS,q];exact zap _ B)) M⟩
 exact all X.outer (λ_ B=>B) I.ok.funs
theorem Inv.stack(I:Inv X pins σ H s):s.heap.FunFrames X.base X.stack:=by
 rcases I.ok.stk with e|⟨e,z⟩
 ·rw[e];exact I.funs
 ·rw[e]
  obtain⟨m,q,_⟩:=I.loc;refine .cons (by rw[I.ok.kind];decide) z q ?_ I.funs;exact Heap.get?_none_of_le (zaK I.ok.bsz I.ok.above)
theorem Inv.stkSub(I:Inv X pins σ H s):∀b∈frs X.stack,b∈X.env.locals::X.fs:=λb q=>by
 rcases I.ok.stk with e|⟨e,z⟩
 ·rw[e]at q;exact zap _ q
 ·rw[e]at q
  unfold frs at q;rw[zdS,z]at q;exact q
theorem Inv.stkFree(I:Inv X pins σ H s):∀b∈frs X.stack,H b=none:=λb q=>by
 rcases List.mem_cons.mp (I.stkSub b q)with e|q
 ·rw[e];exact I.free
 ·obtain⟨_,o,B,_⟩:=I.ok.funs.mem q
  exact I.base.free b o B (I.ok.frf b q) λz=>I.ok.exfs b z q
theorem Inv.step{g':Array GenState}{t':Nat}{d':Drawn}{ch:List Addr}(I:Inv X pins σ H s)
  (J:∀b∈ch,(b∈X.ex\/X.s₀.heap.objs.size<=b)/\b≠X.env.locals/\(∀x c,X.env.cells.lookup x=some c->c≠b)/\∀p∈X.pn++pins,p.1≠b)
  (G:∀b o,b≠X.env.locals->b∉X.fs->b∉ch->s.heap.get? b=some o->H b=none->h'.get? b=some o)
  (U:∀b o,b≠X.env.locals->b∈X.fs->b∉ch->s.heap.get? b=some o->H b=none->∃sl,h'.get? b=some {o with slots:=sl}) (free:∀b o,b∉ch->s.heap.get? b=some o->H b=none->H' b=none)
  (there:∀b o,b∉ch->s.heap.get? b=some o->∃o',h'.get? b=some o')
  (ac:∀b xs,H b=some (.tup xs)->H' b=some (.tup xs)) (ab:∀b o u,H b=some (.frz o u)->H' b=some (.frz o u)) (ae:∀b ps,H b=some (.tbl ps)->∃more,H' b=some (.tbl (ps++more)))
  (ns:∀m,s.heap.Ns X.env.locals m->h'.Ns X.env.locals m) (ah:HOk X.prog X.w H' h') (hg:zbN g') :
  Inv X pins σ H' {s with heap:=h',gens:=g',drawn:=d',toks:=t'}:=by
 have aa:∀b o,X.s₀.heap.get? b=some o->b≠X.env.locals:=λb o e=>zaE (zaW (zao e) I.ok.above)
 have M:∀b o,X.s₀.heap.get? b=some o->b∉X.ex->b∉ch:=λb o e hx W=>by
  rcases(J b W).1 with z|z
  ·exact hx z
  ·exact absurd (zaW (zao e) z) (zb4 _)
 have F:∀x c,X.env.cells.lookup x=some c->∀v,s.heap.IsCell c v->h'.IsCell c v:=by
  rintro x c e v ⟨o,Y,hd⟩;have B:c∉ch:=λz=>(J c z).2.2.1 x c e rfl
  by_cases hc:c∈X.fs
  ·obtain⟨sl,q⟩:=U c o (I.cne x c e) hc B Y (I.freeC x c e)
   exact⟨_,q,hd⟩
  ·exact⟨o,G c o (I.cne x c e) hc B Y (I.freeC x c e),hd⟩
 refine⟨I.ok,I.os,hg,⟨λb o e n W hx=>?_,λb o e n W hx=>?_,λb o e n hx=>?_,λb o e hx=>?_,λb xs e=>ac b xs (I.base.tups b xs e),λb o xs e=>ab b o xs (I.base.frzs b o xs e),λb ps e=>?_⟩,?_,λx c e=>?_,?_,λx c e=>?_,λp hp=>?_,ah,I.len⟩
 ·exact G b o (aa b o e) W (M b o e hx) (I.base.keep b o e n W hx) (I.base.free b o e n hx)
 ·obtain⟨sl,N⟩:=I.base.slot b o e n W hx
  obtain⟨af,e2⟩:=U b _ (aa b o e) W (M b o e hx) N (I.base.free b o e n hx);exact⟨af,e2⟩
 ·obtain⟨o',N⟩:=I.base.there b o e hx
  exact free b o' (M b o e hx) N (I.base.free b o e n hx)
 ·obtain⟨o',N⟩:=I.base.there b o e hx
  exact there b o' (M b o e hx) N
 ·obtain⟨m1,N⟩:=I.base.tbls b ps e
  obtain⟨m2,e2⟩:=ae b _ N;exact⟨m1++m2,by rw[e2,Array.append_assoc]⟩
 ·obtain⟨m,hn,hl⟩:=I.loc
  refine⟨m,ns m hn,λi x v N e2 e3=>?_⟩;obtain⟨u,r,l⟩:=hl i x v N e2 e3;refine⟨u,r,?_⟩;rcases l with l|⟨k,c,e,z⟩
  ·exact .inl l
  ·exact .inr ⟨k,c,e,F x c e _ z⟩
 ·obtain⟨v,z⟩:=I.cell x c e
  exact⟨v,F x c e v z⟩
 ·obtain⟨m,⟨o,_,_,Y,_⟩,_⟩:=I.loc
  exact free _ o (λz=>(J _ z).2.1 rfl) Y I.free
 ·obtain⟨v,o,Y,hd⟩:=I.cell x c e
  exact free c o (λz=>(J c z).2.2.1 x c e rfl) Y (I.freeC x c e)
 ·obtain⟨e,n,ne,nf,d⟩:=I.pin p hp
  have B:p.1∉ch:=λz=>(J p.1 z).2.2.2 p hp rfl
  exact⟨G p.1 p.2 ne nf B e n,free p.1 p.2 B e n,ne,nf,d⟩
theorem Inv.un{t':Nat}(I:Inv X pins σ H s)(u:Un X.fs [] H H' s.heap h')(B:HOk X.prog X.w H' h'):Inv X pins σ H' {s with heap:=h',toks:=t'}:=by
 obtain⟨m,⟨o,es,ep,M,r⟩,_⟩:=id I.loc;obtain⟨Y,W⟩:=u.any M I.free (by simp);exact I.step (g':=s.gens) (d':=s.drawn) (ch:=[]) (λ_ z=>nomatch z) (λb o _ J _ e n=>u.keep b o e n J (by simp)) (λb o _ J _ e n=>u.slot b o e n J (by simp)) (λb o _ e n=>u.free b o e n (by simp)) (λb o _ e=>u.there b o e (by simp)) u.tups u.frzs u.tbls (λm' U=>by
  obtain⟨o',G,F,q,N⟩:=U;rw[M]at q;cases q;exact⟨_,G,F,W,N⟩) B I.bare
theorem Inv.call{g':Array GenState}{t':Nat}{d':Drawn}{ch:List Addr}(I:Inv X pins σ H s)(u:Un (frs X.stack) ch H H' s.heap h')(G:HOk X.prog X.w H' h')(Y:zbN g')
  (B:∀b∈ch,(b∈X.ex\/X.s₀.heap.objs.size<=b)/\b≠X.env.locals/\(∀x c,X.env.cells.lookup x=some c->c≠b)/\∀p∈X.pn++pins,p.1≠b) :
  Inv X pins σ H' {s with heap:=h',gens:=g',drawn:=d',toks:=t'}:=by
 obtain⟨m,⟨o,es,ep,U,r⟩,_⟩:=id I.loc;obtain⟨sl,N⟩:=u.any U I.free λz=>(B _ z).2.1 rfl
 exact I.step (ch:=ch) B (λb o N hb q e n=>u.keep b o e n (λz=>(List.mem_cons.mp (I.stkSub b z)).elim N hb) q) (λb o _ _ q e n=>u.any e n q) (λb o q e n=>u.free b o e n q) (λb o q e=>u.there b o e q) u.tups u.frzs u.tbls (λm' hm=>by
  obtain⟨o',M,J,F,W⟩:=hm;rw[U]at F;cases F;exact⟨_,M,J,N,W⟩) G Y
theorem Inv.turned{t':Nat}{it:Addr}(I:Inv X pins σ H s)(k:∀b o,b≠it->s.heap.get? b=some o->h'.get? b=some o)(J:H it=none)(G:it≠X.env.locals)
  (h1:it∈X.ex\/X.s₀.heap.objs.size<=it) (h2:∀x c,X.env.cells.lookup x=some c->c≠it) (M:∀p∈X.pn++pins,p.1≠it):Inv X pins σ H {s with heap:=h',toks:=t'}:=by
 have F:∀b u,H b=some u->b≠it:=λb u e z=>by rw[z,J]at e;cases e
 refine I.step (g':=s.gens) (d':=s.drawn) (ch:=[it]) (λb U=>?_) (λb o _ _ B e _=>k b o (λz=>B (by simp[z])) e) (λb o _ _ B e _=>⟨o.slots,k b o (λz=>B (by simp[z])) e⟩) (λ_ _ _ _ n=>n)
  (λb o B e=>⟨o,k b o (λz=>B (by simp[z])) e⟩) (λ_ _ e=>e) (λ_ _ _ e=>e) (λb ps e=>⟨#[],by rw[e];simp⟩) (λm N=>?_) (λb u e=>?_) I.bare
 ·have e:b=it:=by simpa using U
  subst e;exact⟨h1,G,h2,M⟩
 ·obtain⟨o,es,ep,W,r⟩:=N
  exact⟨o,es,ep,k _ o (zaU G) W,r⟩
 ·refine(I.hok b u e).stay (λc v B q=>k c v ?_ q) (λ_ q=>q) λ_ _ q=>q
  rcases B with z|z
  ·rw[z];exact F b u e
  ·exact F c _ z
theorem Inv.tok(I:Inv X pins σ H s)(t:Nat):Inv X pins σ H {s with toks:=t}:=I.un (h':=s.heap) (t':=t) Un.refl I.hok
theorem Inv.kept(I:Inv X pins σ H s)(k:∀b u,s.heap.get? b=some u->h'.get? b=some u):Inv X pins σ H {s with heap:=h',toks:=t'}:=I.un (Un.kept k) (I.hok.kept k)
theorem Inv.laid(I:Inv X pins σ H s)(k:∀b u,s.heap.get? b=some u->h'.get? b=some u)(q:s.heap.objs.size<=a)(new:ObjOk X.prog X.w (upd H a o) h' a o) :
  Inv X pins σ (upd H a o) {s with heap:=h',toks:=t'}:=I.un (Un.laid k q (I.hok.fresh q)) (I.hok.laid k q new)
theorem Inv.write(I:Inv X pins σ H s)(z:qm (H x))(B:e=x\/H e=some (.own x))(k:∀b u,b≠e->s.heap.get? b=some u->h'.get? b=some u)(q:∃u,h'.get? e=some u)
  (new:ObjOk X.prog X.w (upd H x o) h' x o):Inv X pins σ (upd H x o) {s with heap:=h',toks:=t'}:=I.un (Un.write z B k q) (I.hok.write z B k q new)
theorem Inv.pins_of(I:Inv X pins σ H s)(h:∀p∈pins',s.heap.get? p.1=some p.2/\H p.1=none/\p.1≠X.env.locals/\p.1∉X.fs/\∀v,p.2.data≠.cell v):Inv X pins' σ H s:=
 ⟨I.ok,I.os,I.bare,I.base,I.loc,I.cell,I.free,I.freeC,λp q=>(List.mem_append.mp q).elim (λz=>I.pin p (zbC _ z)) (h p),I.hok,I.len⟩
theorem AG{N:List Str}(q:N.Nodup){i j:Nat}{x:Str}(a:N[i]?=some x)(b:N[j]?=some x):i=j:=by
 obtain⟨h1,z⟩:=List.getElem?_eq_some_iff.mp a;obtain⟨h2,B⟩:=List.getElem?_eq_some_iff.mp b;exact(zdT q).mp (z.trans B.symm)
theorem vI{M:Model}{A:zan}{E:Value->zab->Prop}{i:Nat}{x:Str}{v:V}{u:Value}{Q:Unit->zab->Prop}(I:Inv X pins σ H s)(hN:X.N.Nodup)(hi:X.N[i]?=some x)(hx:Loc X.env.scope x)(r:RelV v u)
  (h:∀s',Inv X pins (σ.set i (some v)) H s'->(∃a,za4 a s.heap s'.heap/\(a=X.env.locals\/X.env.cells.lookup x=some a))->Q () s') (hf:X.fn x=true\/X.env.scope.names.lookup x=some .local:=by first|exact .inl rfl|exact .inr rfl|assumption):wpAny M A (storeName X.env x u) Q E s:=by
 obtain⟨m,hn,hl⟩:=id I.loc;have ae:(X.env.scope.kind == .class || (X.env.scope.kind == .module && X.env.locals != X.env.globals))=false:=by rw[I.ok.kind];rfl
 have Y:i<σ.length:=by rw[I.len];exact(List.getElem?_eq_some_iff.mp hi).1
 have cne:=I.cne;have F:∀ {a:Addr} {h':Heap},(∃o,s.heap.get? a=some o/\H a=none)->za4 a s.heap h'->HOk X.prog X.w H h':=λ{a h'} ha hs b ob e=>by
  obtain⟨_,_,J⟩:=ha;refine(I.hok b ob e).stay (λc w' G q=>(hs.2 c ?_).trans q) (λ_ q=>q) λ_ _ q=>q
  rintro rfl;rcases G with rfl|G
  ·rw[J]at e;cases e
  ·rw[J]at G;cases G
 rcases hx with W|W
 ·refine wpAny_storeName_local W hn (λh' al hs=>?_) ae
  obtain⟨oL,_,_,ap,_⟩:=id hn;refine h _ ⟨I.ok,I.os,I.bare,⟨λb o e n hb hx=>?_,λb o e n hb hx=>?_,I.base.free,λb o e hx=>?_,I.base.tups,I.base.frzs,I.base.tbls⟩,⟨_,al,λj y v' B U e3=>?_⟩,λy c e=>?_,I.free,I.freeC,λp hp=>?_,F ⟨oL,ap,I.free⟩ hs,by simpa using I.len⟩ ⟨_,hs,.inl rfl⟩
  ·exact(hs.2 b (zaE (zaW (zao e) I.ok.above))).trans (I.base.keep b o e n hb hx)
  ·obtain⟨sl,B⟩:=I.base.slot b o e n hb hx
   exact⟨sl,(hs.2 b (zaE (zaW (zao e) I.ok.above))).trans B⟩
  ·obtain⟨o',B⟩:=I.base.there b o e hx
   exact⟨o',(hs.2 b (zaE (zaW (zao e) I.ok.above))).trans B⟩
  ·by_cases hj:j=i
   ·subst hj
    rw[hi]at B;cases B;rw[zcy Y]at U;cases U;exact⟨u,r,.inl ⟨W,by simp⟩⟩
   ·rw[zbO (zaU hj)]at U
    obtain⟨u',r',q⟩:=hl j y v' B U e3;refine⟨u',r',?_⟩;rcases q with⟨k,e⟩|⟨k,c,e,z⟩
    ·refine .inl ⟨k,?_⟩
     have:y≠x:=λe=>hj (AG hN B (e ▸ hi))
     simp[this,e]
    ·exact .inr ⟨k,c,e,z.sameBut hs (cne y c e)⟩
  ·obtain⟨w',z⟩:=I.cell y c e
   exact⟨w',z.sameBut hs (cne y c e)⟩
  ·obtain⟨e,n,ne,nf,d⟩:=I.pin p hp
   exact⟨(hs.2 p.1 ne).trans e,n,ne,nf,d⟩
 ·have ab:X.fn x=true:=by
   rcases hf with z|z
   ·exact z
   ·rw[z]at W;cases W
  obtain⟨c,G⟩:=I.ok.has x (.inl W);obtain⟨w',z⟩:=I.cell x c G;refine wpAny_storeName_cell I.ok.kind W G z (λh' ah hs=>?_);obtain⟨oc,af,ad⟩:=id z;refine h {s with heap:=h'} ⟨I.ok,I.os,I.bare,⟨λb o e n hb hx=>?_,λb o e n hb hx=>?_,I.base.free,λb o e hx=>?_,I.base.tups,I.base.frzs,I.base.tbls⟩,⟨m,hn.sameBut hs (zaU (cne x c G)),λj y v' B U e3=>?_⟩,λy c' e=>?_,I.free,I.freeC,λp hp=>?_,F ⟨oc,af,I.freeC x c G⟩ hs,by simpa using I.len⟩ ⟨c,hs,.inr G⟩
  ·exact(hs.2 b (zaE (zaW (zao e) (I.ok.cab x c ab G)))).trans (I.base.keep b o e n hb hx)
  ·obtain⟨sl,B⟩:=I.base.slot b o e n hb hx
   exact⟨sl,(hs.2 b (zaE (zaW (zao e) (I.ok.cab x c ab G)))).trans B⟩
  ·obtain⟨o',B⟩:=I.base.there b o e hx
   exact⟨o',(hs.2 b (zaE (zaW (zao e) (I.ok.cab x c ab G)))).trans B⟩
  ·by_cases hj:j=i
   ·subst hj
    rw[hi]at B;cases B;rw[zcy Y]at U;cases U;exact⟨u,r,.inr ⟨.inl W,c,G,ah⟩⟩
   ·rw[zbO (zaU hj)]at U
    obtain⟨u',r',q⟩:=hl j y v' B U e3;refine⟨u',r',?_⟩;rcases q with q|⟨k,c',e,z'⟩
    ·exact .inl q
    ·refine .inr ⟨k,c',e,z'.sameBut hs ?_⟩
     rintro rfl;exact hj (AG hN B (I.ok.inj _ _ _ e G ▸ hi))
  ·by_cases ag:c'=c
   ·subst ag;exact⟨_,ah⟩
   ·obtain⟨w2,z2⟩:=I.cell y c' e
    exact⟨w2,z2.sameBut hs ag⟩
  ·obtain⟨e,n,ne,nf,d⟩:=I.pin p hp
   refine⟨(hs.2 p.1 ?_).trans e,n,ne,nf,d⟩;intro q;rw[q,af]at e;have q':oc=p.2:=zaF e;exact d w' (by rw[<- q'];exact ad)
theorem AJ(I:Inv X pins σ H s)(q:X.N.Nodup)(hi:X.N[i]?=some x)(hx:Loc X.env.scope x)(r:RelV v u)
  (h:∀s',Inv X pins (σ.set i (some v)) H s'->Q () s') (z:X.fn x=true\/X.env.scope.names.lookup x=some .local:=by first|exact .inl rfl|exact .inr rfl|assumption):wpAny M A (storeName X.env x u) Q E s:=
 vI I q hi hx r (λs' B _=>h s' B) z
theorem Inv.call'(I:Inv X pins σ H s)(F:s'.os=s.os)(u:Un (frs X.stack) ch H H' s.heap s'.heap)(q:HOk X.prog X.w H' s'.heap)(B:zbN s'.gens)
  (z:∀b∈ch,(b∈X.ex\/X.s₀.heap.objs.size<=b)/\b≠X.env.locals/\(∀x c,X.env.cells.lookup x=some c->c≠b)/\∀p∈X.pn++pins,p.1≠b):Inv X pins σ H' s':=by
 obtain⟨h',g',d',t',o'⟩:=s';have e:o'=s.os:=F;subst e;exact I.call (g':=g') (t':=t') (d':=d') u q B z
end
abbrev XK:=Value->Option Addr->Hp->Prop
abbrev St:=List (Option V)
abbrev VK:=V->Hp->Prop
abbrev TE:=St->Hp->VK->Prop
abbrev TT:=St->Hp->(Bool->Hp->Prop)->Prop
abbrev TA:=St->Hp->(List V->Hp->Prop)->Prop
structure Ends where
 nx:St->Hp->Prop
 rt:VK
 bk:St->Hp->Prop:=λ_ _=>False
 ct:St->Hp->Prop:=λ_ _=>False
abbrev TS:=Ends->St->Hp->Prop
inductive EP(X:Cx)(pins:List (Addr×Obj))(σ:St)(Q:VK)(u:Value)(s':zab):Prop
 | mk (v:V) (H':Hp) (i:Inv X pins σ H' s') (r:RelV v u) (q:Q v H'):EP X pins σ Q u s'
inductive TP(X:Cx)(pins:List (Addr×Obj))(σ:St)(Q:Bool->Hp->Prop)(b:Bool)(s':zab):Prop
 | mk (H':Hp) (i:Inv X pins σ H' s') (q:Q b H'):TP X pins σ Q b s'
inductive AP(X:Cx)(pins:List (Addr×Obj))(σ:St)(Q:List V->Hp->Prop)(us:List Value)(s':zab):Prop
 | mk (vs:List V) (H':Hp) (i:Inv X pins σ H' s') (r:Vals vs us) (q:Q vs H'):AP X pins σ Q us s'
def SP(X:Cx)(pins:List (Addr×Obj))(D:Ends)(f:Flow)(s':zab):Prop:=
 match f with
 | .next=>∃σ' H',Inv X pins σ' H' s'/\D.nx σ' H'
 | .brk=>∃σ' H',Inv X pins σ' H' s'/\D.bk σ' H'
 | .cont=>∃σ' H',Inv X pins σ' H' s'/\D.ct σ' H'
 | .ret u=>∃v σ' H',Inv X pins σ' H' s'/\RelV v u/\D.rt v H'
def PE(X:Cx)(e:Expr)(t:TE):Prop:=
 ∀(pins:List (Addr×Obj)) (s:zab) (σ:St) (H:Hp) (Q:VK),Inv X pins σ H s->t σ H Q->wpAny (model X.prog X.w) X.A (eval e X.env) (EP X pins σ Q) X.xe s
def PT(X:Cx)(e:Expr)(t:TT):Prop:=
 ∀(pins:List (Addr×Obj)) (s:zab) (σ:St) (H:Hp) (Q:Bool->Hp->Prop),Inv X pins σ H s->t σ H Q->wpAny (model X.prog X.w) X.A (isTrue e X.env (eval e X.env)) (TP X pins σ Q) X.xe s
def PW(X:Cx)(e:Expr)(t:TT):Prop:=
 ∀(whole:Sem Value) (pins:List (Addr×Obj)) (s:zab) (σ:St) (H:Hp) (Q:Bool->Hp->Prop),Inv X pins σ H s->t σ H Q->wpAny (model X.prog X.w) X.A (isTrue e X.env whole) (TP X pins σ Q) X.xe s
theorem PW.pt{X:Cx}{e:Expr}{t:TT}(h:PW X e t):PT X e t:=h _
def PA(X:Cx)(es:List Expr)(t:TA):Prop:=
 ∀(pos:Pos) (pins:List (Addr×Obj)) (s:zab) (σ:St) (H:Hp) (Q:List V->Hp->Prop),Inv X pins σ H s->t σ H Q->wpAny (model X.prog X.w) X.A (spliced (zaG pos (zag es X.env))) (AP X pins σ Q) X.xe s
def PS(X:Cx)(st:Stmt)(t:TS):Prop:=
 ∀(pins:List (Addr×Obj)) (s:zab) (σ:St) (H:Hp) (D:Ends),Inv X pins σ H s->t D σ H->wpAny (model X.prog X.w) X.A (exec st X.env) (SP X pins D) X.xe s
def PSs(X:Cx)(st:List Stmt)(t:TS):Prop:=
 ∀(pins:List (Addr×Obj)) (s:zab) (σ:St) (H:Hp) (D:Ends),Inv X pins σ H s->t D σ H->wpAny (model X.prog X.w) X.A (execs st X.env) (SP X pins D) X.xe s
theorem cS{z:Type}{t:Sem z}{Q q:z->zab->Prop}{M:Model}{A:zan}{E:Value->zab->Prop}{s:zab}(h:wpAny M A t Q E s)(B:∀a s,Q a s->q a s):wpAny M A t q E s:=za7 h B λ_ _ x=>x
section
variable {X:Cx}
def cX(i:Nat):TE:=λσ H Q=>∃v,σ[i]?=some (some v)/\Q v H
def tC(v:V):TE:=λ_ H Q=>Q v H
theorem UH(U:X.N[i]?=some x)(W:W8 X.env.scope x)(hd:(x == ("__debug__" : Str))=false:=by decide)(B:(x == ("__classdict__" : Str))=false:=by decide):PE X (.Name x pos) (cX i):=by
 intro pins s σ H Q I h;obtain⟨v,e,h⟩:=h;obtain⟨m,J,G⟩:=I.loc;obtain⟨u,r,l⟩:=G i x v U e W;have fin:EP X pins σ Q u s:=⟨v,H,I,r,h⟩;rcases l with⟨z,M⟩|⟨z,c,F,q⟩
 ·exact wpAny_Name (wpAny_loadName_local I.ok.kind z J M fin) hd
 ·rcases z with z|z
  ·exact wpAny_Name (wpAny_loadName_cell I.ok.kind z F q fin) hd
  ·exact wpAny_Name (wpAny_loadName_free I.ok.kind z F q fin B) hd
theorem WM{i j pos}:PE X (.Constant (.int i) j pos) (tC (.int i)):=λ_ _ _ H _ I h=>wpAny_Constant_int ⟨.int i,H,I.tok _,⟨_,rfl⟩,h⟩
theorem XO{b j pos}:PE X (.Constant (.bool b) j pos) (tC (.bl b)):=λ_ _ _ H _ I h=>Constant_bool ⟨.bl b,H,I,rfl,h⟩
theorem U0{j pos}:PE X (.Constant .none j pos) (tC .non):=λ_ _ _ H _ I h=>Constant_none ⟨.non,H,I,rfl,h⟩
theorem VG{x j pos}:PE X (.Constant (.str x) j pos) (tC (.str x)):=λ_ _ _ H _ I h=>Calls.Constant_str ⟨.str x,H,I.tok _,⟨_,rfl⟩,h⟩
def Gl(X:Cx)(x:Str):Prop:=X.env.kindOf x=some .globalImplicit
theorem E7(I:Inv X pins σ H s)(q:Gl X x)(z:X.mg x=some u)(h:Q u s)
  (hd:(x == ("__debug__" : Str))=false:=by decide):wpAny (model X.prog X.w) X.A (eval (.Name x pos) X.env) Q E s:=
 Calls.Name_function_global I.ok.kind q (Calls.loadGlobal_global (by rw[I.ok.glob];exact I.mod.glob.keeps I.bk) z h) hd
theorem lS{E:Value->zab->Prop}{pins:List (Addr×Obj)}{s:zab}{σ:St}{H:Hp}{x:Str}{u:Value}{pos:Pos}{Q:Value->zab->Prop}(I:Inv X pins σ H s)(q:Gl X x)(B:X.mg x=none)(F:zaH x=some u)(h:Q u s)
  (z:x ≠ "__name__" := by decide) (hd:(x == ("__debug__" : Str))=false:=by decide):wpAny (model X.prog X.w) X.A (eval (.Name x pos) X.env) Q E s:=by
 obtain⟨G,h1,h2⟩:=I.mod.blt;exact Calls.Name_function_global I.ok.kind q (Calls.loadGlobal_builtin (by rw[I.ok.glob];exact I.mod.glob.keeps I.bk) B (by rw[I.ok.blt];exact h1.keeps I.bk) ((h2 x z).trans F) h) hd
theorem RK(q:Gl X x)(F:X.mg x=none)(z:zaH x=some u)(r:RelV v u)(B:x ≠ "__name__" := by decide)(hd:(x == ("__debug__" : Str))=false:=by decide):PE X (.Name x pos) (tC v):=
 λ_ _ _ H _ I h=>lS I q F z ⟨v,H,I,r,h⟩ B hd
variable {a b:Expr}{ta tb:TE}{pos:Pos}
def PC(X:Cx)(op:CmpOp)(a b:Expr)(t:TE):Prop:=
 ∀(pins:List (Addr×Obj)) (s:zab) (σ:St) (H:Hp) (Q:VK),Inv X pins σ H s->t σ H Q->
  wpAny (model X.prog X.w) X.A (eval a X.env) (λv z=>wpAny (model X.prog X.w) X.A (eval b X.env) (λu q=>wpAny (model X.prog X.w) X.A (zay op v u) (EP X pins σ Q) X.xe q) X.xe z) X.xe s
def tB(t:TE):TT:=λσ H Q=>t σ H λx H1=>∃c,x=.bl c/\Q c H1
theorem UW{op:CmpOp}{t:TE}(h:PC X op a b t)(h1:zbP op b=false:=by first|exact nobehind _ (by decide) (by decide)|rfl):PT X (.Compare a [op] [b] pos) (tB t):=by
 intro pins s σ H Q I hw;refine wpAny_isTrue_Compare1 (cS (h pins s σ H _ I hw) λv G h1=>cS h1 λu F h2=>cS h2 λc J ⟨x,H1,z,r1,B⟩=>?_) h1;obtain⟨d,rfl,q⟩:=B;cases r1;exact zcx ⟨H1,z,q⟩
theorem V9{e:Expr}{t:TE}(h:PE X e t)(F:∀z,isTrue e X.env z=(do let v <- z;standAt e.pos;zcj [v] (truthy v)):=by intro _;rfl):PT X e (tB t):=by
 intro pins s σ H Q I hw;refine isTrue_plain (cS (h pins s σ H _ I hw) λv J ⟨x,H1,B,r1,G⟩=>?_) (F _);obtain⟨d,rfl,q⟩:=G;cases r1;exact zcx ⟨H1,B,q⟩
variable {tA tB':TT}{rest:List Expr}
def qaF(t u:TT):TT:=λσ H Q=>t σ H λc H1=>if c=true then u σ H1 Q else Q false H1
def tOr(t u:TT):TT:=λσ H Q=>t σ H λc H1=>if c=true then Q true H1 else u σ H1 Q
def qaw(t:TT):TT:=λσ H Q=>t σ H λc H1=>Q (!c) H1
theorem P2(q:PT X a tA):PW X (.BoolOp .And [a] pos) tA:=by
 intro z pins s σ H Q I h;refine isTrue_and (cS (q pins s σ H Q I h) λc B e=>?_);cases c with
 | true=>exact isTrue_and_nil e
 | false=>exact e
theorem UC(q:PT X a tA):PW X (.BoolOp .Or [a] pos) tA:=by
 intro z pins s σ H Q I h;refine isTrue_or (cS (q pins s σ H Q I h) λc B e=>?_);cases c with
 | false=>exact isTrue_or_nil e
 | true=>exact e
theorem T2(G:PT X a tA)(J:PW X (.BoolOp .And (b::rest) pos) tB'):PW X (.BoolOp .And (a::b::rest) pos) (qaF tA tB'):=by
 intro B pins s σ H Q I h;refine isTrue_and (cS (G pins s σ H _ I h) λc F ⟨H1,q,z⟩=>?_);cases c with
 | true=>exact J B pins F σ H1 Q q z
 | false=>exact⟨H1,q,z⟩
theorem YH(G:PT X a tA)(J:PW X (.BoolOp .Or (b::rest) pos) tB'):PW X (.BoolOp .Or (a::b::rest) pos) (tOr tA tB'):=by
 intro B pins s σ H Q I h;refine isTrue_or (cS (G pins s σ H _ I h) λc F ⟨H1,q,z⟩=>?_);cases c with
 | true=>exact⟨H1,q,z⟩
 | false=>exact J B pins F σ H1 Q q z
theorem VE(z:PT X a tA):PT X (.UnaryOp .Not a pos) (qaw tA):=by
 intro pins s σ H Q I h;exact isTrue_not (cS (z pins s σ H (λc H1=>Q (!c) H1) I h) λ_ _ ⟨H',i,q⟩=>⟨H',i,q⟩)
def ZD(ta tb:TE):TE:=λσ H Q=>ta σ H λx H1=>∃c,x=.bl c/\if c=true then tb σ H1 Q else Q (.bl false) H1
def XM(ta:TE):TE:=λσ H Q=>ta σ H λx H1=>∃c,x=.bl c/\Q (.bl (!c)) H1
theorem VA{op}(h:PE X a t):PE X (.BoolOp op [a] pos) t:=λpins s σ H Q I hw=>BoolOp_one (h pins s σ H Q I hw)
theorem VV(F:PE X a ta)(G:PE X (.BoolOp .And (b::rest) pos) tb):PE X (.BoolOp .And (a::b::rest) pos) (ZD ta tb):=by
 intro pins s σ H Q I h;refine BoolOp_and (cS (F pins s σ H _ I h) λv B ⟨x,H1,z,r1,q⟩=>?_);obtain⟨c,rfl,q⟩:=q;cases r1;refine zcx ?_;cases c with
 | true=>exact G pins B σ H1 Q z q
 | false=>exact⟨.bl false,H1,z,rfl,q⟩
theorem VQ(z:PE X a ta):PE X (.UnaryOp .Not a pos) (XM ta):=by
 intro pins s σ H Q I h;refine UnaryOp_ (cS (z pins s σ H _ I h) λv F ⟨x,H1,B,r1,q⟩=>?_);obtain⟨c,rfl,q⟩:=q;cases r1;exact not_of (zcx ⟨.bl (!c),H1,B,rfl,q⟩)
def tIf(t:TT)(ta tb:TE):TE:=λσ H Q=>t σ H λc H1=>if c=true then ta σ H1 Q else tb σ H1 Q
theorem JI{c:Expr}(F:PT X c tA)(G:PE X a ta)(J:PE X b tb):PE X (.IfExp c a b pos) (tIf tA ta tb):=by
 intro pins s σ H Q I h;refine wpAny_IfExp (cS (F pins s σ H _ I h) λd z ⟨H1,q,B⟩=>?_);cases d with
 | true=>exact G pins z σ H1 Q q B
 | false=>exact J pins z σ H1 Q q B
end
def SqL(K:zae)(H:Hp)(a:Addr)(xs:List V):Prop:=
 Rd H a (.lst xs) \/
  ∃(o:Obj) (its:Array Value) (n:Nat),K.lookup a=some o/\o.cls=.type "list" /\ o.dict=none/\o.data=.seq its n/\its.size<=zai/\Vals xs its.toList
def SqT(K:zae)(H:Hp)(a:Addr)(xs:List V):Prop:=
 Rd H a (.tup xs) \/
  ∃(o:Obj) (its:Array Value) (n:Nat),K.lookup a=some o/\o.cls=.type "tuple" /\ o.data=.seq its n/\its.size<=zai/\Vals xs its.toList
noncomputable def qau:Value->Option V
 | .none=>some .non
 | .bool b=>some (.bl b)
 | .int i _=>some (.int i)
 | .str x _=>some (.str x)
 | .bytes b _=>some (.byt b)
 | .float b _=>some (.flt b)
 | .ref a=>some (.ref a)
 | .type n=>some (.ty n)
 | _=>none
theorem RelV.abs(r:RelV x u):qau u=some x:=by
 cases x with
 | non=>cases r;rfl
 | bl _=>cases r;rfl
 | int _=>obtain⟨t,rfl⟩:=r;rfl
 | str _=>obtain⟨t,rfl⟩:=r;rfl
 | byt _=>obtain⟨t,rfl⟩:=r;rfl
 | flt _=>obtain⟨t,rfl⟩:=r;rfl
 | ref _=>cases r;rfl
 | ty _=>cases r;rfl
theorem RelV.inj(r:RelV x u)(q:RelV y u):x=y:=zaF (r.abs.symm.trans q.abs)
theorem Vals.inj:∀ {xs ys:List V} {us:List Value},Vals xs us->Vals ys us->xs=ys
 | _,_,_,.nil,.nil=>rfl
 | _,_,_,.cons r t,.cons r' t'=>by rw[r.inj r',Vals.inj t t']
section
variable {X:Cx}{pins:List (Addr×Obj)}{σ:St}{H:Hp}{s:zab}{a:Addr}{xs ys:List V}
theorem SqL.of{K:zae}(h:H a=some (.lst xs)):SqL K H a xs:=.inl (.inl h)
theorem SqT.of{K:zae}(h:H a=some (.tup xs)):SqT K H a xs:=.inl (.inl h)
theorem Inv.list(I:Inv X pins σ H s)(h:SqL X.K H a xs):∃q:List Value,Vals xs q/\PlainL s.heap a q.toArray/\xs.length<=zai:=by
 rcases h with h|⟨o,q,n,F,B,hd,hs,G,r⟩
 ·obtain⟨z,q,n,r,e⟩:=h.ok I.hok
  exact⟨q,r,⟨_,n,e,rfl,rfl,rfl⟩,z⟩
 ·refine⟨q.toList,r,⟨o,n,I.kIn a o F,B,hd,by simpa using hs⟩,?_⟩
  have e:=r.length;simp only[zbQ]at e
  lia
theorem Inv.tuple(I:Inv X pins σ H s)(h:SqT X.K H a xs):∃q:List Value,Vals xs q/\IsTup s.heap a q.toArray/\xs.length<=zai:=by
 rcases h with h|⟨o,q,n,F,B,hs,G,r⟩
 ·obtain⟨z,q,r,p⟩:=h.ok I.hok
  exact⟨q,r,p.tup,z⟩
 ·refine⟨q.toList,r,⟨o,I.kIn a o F,B,n,by simpa using hs⟩,?_⟩
  have e:=r.length;simp only[zbQ]at e
  lia
theorem Inv.list_inj(I:Inv X pins σ H s)(h:SqL X.K H a xs)(h':SqL X.K H a ys):xs=ys:=by
 obtain⟨q,r,⟨o,n,e,_,_,d⟩,_⟩:=I.list h;obtain⟨its',B,⟨o',F,z,_,_,d'⟩,_⟩:=I.list h';rw[e]at z;cases z;rw[d]at d';injection d' with d1 _
 have:q=its':=by simpa using congrArg Array.toList d1
 subst this;exact r.inj B
theorem Inv.tuple_inj(I:Inv X pins σ H s)(h:SqT X.K H a xs)(h':SqT X.K H a ys):xs=ys:=by
 obtain⟨q,r,⟨o,e,_,n,d⟩,_⟩:=I.tuple h;obtain⟨its',B,⟨o',z,_,F,d'⟩,_⟩:=I.tuple h';rw[e]at z;cases z;rw[d]at d';injection d' with d1 _
 have:q=its':=by simpa using congrArg Array.toList d1
 subst this;exact r.inj B
end
abbrev Cx.wish(X:Cx)(E:Value->zab->Prop):Cx:={X with xe:=E}
abbrev Cx.nox(X:Cx):Cx:=X.wish λ_ _=>False
theorem Cx.Ok.wish{X:Cx}(ok:X.Ok)(E:Value->zab->Prop):(X.wish E).Ok:=
 ⟨ok.mod,ok.kind,ok.glob,ok.blt,ok.above,ok.inj,ok.has,ok.cab,ok.hd,ok.frames,ok.stk,ok.exf,ok.bs,ok.bsz,ok.noex,ok.exfs,ok.funs,ok.frf⟩
theorem Cx.Ok.unwish{X:Cx}{E:Value->zab->Prop}(ok:(X.wish E).Ok):X.Ok:=
 ⟨ok.mod,ok.kind,ok.glob,ok.blt,ok.above,ok.inj,ok.has,ok.cab,ok.hd,ok.frames,ok.stk,ok.exf,ok.bs,ok.bsz,ok.noex,ok.exfs,ok.funs,ok.frf⟩
section
variable {X:Cx}{pins:List (Addr×Obj)}{σ:St}{H:Hp}{s:zab}{E:Value->zab->Prop}
theorem Inv.wish(I:Inv X pins σ H s)(E:Value->zab->Prop):Inv (X.wish E) pins σ H s:=⟨I.ok.wish E,I.os,I.bare,I.base,I.loc,I.cell,I.free,I.freeC,I.pin,I.hok,I.len⟩
theorem Inv.unwish(I:Inv (X.wish E) pins σ H s):Inv X pins σ H s:=⟨I.ok.unwish,I.os,I.bare,I.base,I.loc,I.cell,I.free,I.freeC,I.pin,I.hok,I.len⟩
theorem SP.unwish(h:SP (X.wish E) pins D f s'):SP X pins D f s':=by
 cases f with
 | next=>obtain⟨z,H',I,q⟩:=h;exact⟨z,H',I.unwish,q⟩
 | brk=>obtain⟨z,H',I,q⟩:=h;exact⟨z,H',I.unwish,q⟩
 | cont=>obtain⟨z,H',I,q⟩:=h;exact⟨z,H',I.unwish,q⟩
 | ret u=>obtain⟨v,z,H',I,r,q⟩:=h;exact⟨v,z,H',I.unwish,r,q⟩
theorem PE.nox(h:PE X.nox e t):PE X e t:=λpins s σ H Q I hw=>
 za7 (h pins s σ H Q (I.wish _) hw) (λ_ _ ⟨v,H',B,r,q⟩=>⟨v,H',B.unwish,r,q⟩) λ_ _ z=>za8 z
theorem PT.nox(h:PT X.nox e t):PT X e t:=λpins s σ H Q I hw=>
 za7 (h pins s σ H Q (I.wish _) hw) (λ_ _ ⟨H',B,q⟩=>⟨H',B.unwish,q⟩) λ_ _ z=>za8 z
theorem PSs.nox{st:List Stmt}{t:TS}(h:PSs X.nox st t):PSs X st t:=λpins s σ H D I hw=>
 za7 (h pins s σ H D (I.wish _) hw) (λ_ _ q=>q.unwish) λ_ _ z=>za8 z
end
section
variable {X:Cx}{st:Stmt}{rest:List Stmt}{t u:TS}{e:Expr}{te:TE}{pos:Pos}
def X2:TS:=λD σ H=>D.nx σ H
def ZR(t u:TS):TS:=λD σ H=>t {D with nx:=u D} σ H
theorem EN:PSs X [] X2:=λ_ _ σ H _ I h=>zc7 ⟨σ,H,I,h⟩
theorem dJ(h1:PS X st t)(h2:PSs X rest u):PSs X (st::rest) (ZR t u):=by
 intro pins s σ H D I h;refine wpAny_execs_cons (cS (h1 pins s σ H {D with nx:=u D} I h) λf F q=>?_);cases f with
 | next=>
  obtain⟨z,H',B,q⟩:=q;exact h2 pins F z H' D B q
 | ret v=>exact q
 | brk=>exact q
 | cont=>exact q
theorem iY(h1:PS X st t):PSs X [st] t:=by
 intro pins s σ H D I h;refine wpAny_execs_cons (cS (h1 pins s σ H D I h) λf z q=>?_);cases f with
 | next=>exact zc7 q
 | ret v=>exact q
 | brk=>exact q
 | cont=>exact q
theorem Inv.quiet(I:Inv X pins σ H s):interactive X.env=false:=by simp[interactive,I.ok.kind]
def XZ(te:TE):TS:=λD σ H=>te σ H λ_ H1=>D.nx σ H1
theorem wX(q:PE X e te)(hs:zaC e none pos.line X.env=pure false:=by rfl):PS X (.Expr e pos) (XZ te):=by
 intro pins s σ H D I h;exact wpAny_Expr_any (cS (q pins s σ H _ I h) λv F ⟨x,H1,z,r1,B⟩=>⟨σ,H1,z,B⟩) I.quiet hs
def Z9(te:TE):TS:=λD σ H=>te σ H D.rt
theorem L3(q:PE X e te):PS X (.Return (some e) pos) (Z9 te):=by
 intro pins s σ H D I h;exact wpAny_Return_some (cS (q pins s σ H _ I h) λv F ⟨x,H1,z,r1,B⟩=>⟨x,σ,H1,z,r1,B⟩)
def qaB(c:TT)(t u:TS):TS:=λD σ H=>c σ H λb H1=>if b=true then t D σ H1 else u D σ H1
theorem S5{c:Expr}{a b:List Stmt}{tc:TT}(F:PT X c tc)(G:PSs X a t)(J:PSs X b u):PS X (.If c a b pos) (qaB tc t u):=by
 intro pins s σ H D I h;refine wpAny_If (cS (F pins s σ H _ I h) λd z ⟨H1,q,B⟩=>?_);cases d with
 | true=>exact G pins z σ H1 D q B
 | false=>exact J pins z σ H1 D q B
end
abbrev TG:=V->St->Hp->(St->Hp->Prop)->Prop
abbrev TC:=List V->St->Hp->(St->Hp->Prop)->Prop
def PG(X:Cx)(q:Expr)(t:TG):Prop:=
 ∀(pins:List (Addr×Obj)) (s:zab) (σ:St) (H:Hp) (v:V) (u:Value) (Q:St->Hp->Prop),Inv X pins σ H s->RelV v u->t v σ H Q->
  wpAny (model X.prog X.w) X.A (zbd q X.env u) (λ_ s'=>∃z H',Inv X pins z H' s'/\Q z H') X.xe s
def PGs(X:Cx)(z:List Expr)(t:TC):Prop:=
 ∀(pins:List (Addr×Obj)) (s:zab) (σ:St) (H:Hp) (vs:List V) (us:List Value) (Q:St->Hp->Prop),Inv X pins σ H s->Vals vs us->t vs σ H Q->
  wpAny (model X.prog X.w) X.A (assignInOrder ((za1 z X.env).map (·.2)) us) (λ_ s'=>∃q H',Inv X pins q H' s'/\Q q H') X.xe s
abbrev NM:=V->V->V->Hp->(Hp->Prop)->Prop
def RS(X:Cx)(t:NM):Prop:=
 ∀(pins:List (Addr×Obj)) (s:zab) (σ:St) (H:Hp) (o i v:V) (ov iv u:Value) (Q:Hp->Prop),Inv X pins σ H s->RelV o ov->RelV i iv->RelV v u->t o i v H Q->
  wpAny (model X.prog X.w) X.A (setItem ov iv u) (λ_ s'=>∃H',Inv X pins σ H' s'/\Q H') X.xe s
section
variable {X:Cx}{pos:Pos}
def i7(i:Nat):TG:=λv σ H Q=>Q (σ.set i (some v)) H
theorem gT(q:X.N.Nodup)(hi:X.N[i]?=some x)(hx:Loc X.env.scope x)(z:X.fn x=true\/X.env.scope.names.lookup x=some .local:=by first|exact .inl rfl|exact .inr rfl|assumption):PG X (.Name x pos) (i7 i):=by
 intro pins s σ H v u Q I r h;exact wpAny_assign_Name (AJ I q hi hx r (λs' B=>⟨_,H,B,h⟩) z)
def qap:TC:=λvs σ H Q=>vs=[]/\Q σ H
def SF(t:TG)(u:TC):TC:=λvs σ H Q=>∃v r,vs=v::r/\t v σ H λq H'=>u r q H' Q
theorem RE:PGs X [] qap:=by
 intro pins s σ H vs q Q I r h;obtain⟨e,h⟩:=h;subst e;cases r;exact assignInOrder_nil ⟨σ,H,I,h⟩
theorem jU{e:Expr}{es:List Expr}{t:TG}{u:TC}(h1:PG X e t)(h2:PGs X es u)
  (hs:(za1 (e::es) X.env).map (·.2)=zbd e X.env::(za1 es X.env).map (·.2):=by rfl):PGs X (e::es) (SF t u):=by
 intro pins s σ H vs M Q I r h;obtain⟨v,J,B,h⟩:=h;subst B;cases r with
 | cons r rr=>
  rw[hs];refine assignInOrder_cons (cS (h1 pins s σ H _ _ _ I r h) λ_ F ⟨q,H1,z,G⟩=>?_);exact h2 pins F q H1 _ _ Q z rr G
def ZY(K:zae)(n:Nat)(t:TC):TG:=λv σ H Q=>∃a xs,v=.ref a/\SqT K H a xs/\xs.length=n/\t xs σ H Q
theorem DF(B:X.calm=true)(h:PGs X es t)
  (J:(za1 es X.env).length=n:=by rfl) (q:(za1 es X.env).findIdx? (·.1)=none:=by rfl):PG X (.Tuple es k pos) (ZY X.K n t):=by
 intro pins s σ H v u Q I r hw;obtain⟨a,xs,U,M,G,hw⟩:=hw;subst U;cases r;obtain⟨F,z,W,Y⟩:=I.tuple M;refine assign_Tuple_tuple (I.ok.hd B) W (by simp[J,<- G,z.length]) q λh' hx=>?_
 have N:Inv X pins σ H {s with heap:=h'}:=I.kept (t':=s.toks) λb o e=>hx b o (zaE (zao e)) e
 exact h pins _ σ H xs _ Q N (by simpa using z) hw
def WX(to q:TE)(t:NM):TG:=λv σ H Q=>to σ H λo H1=>q σ H1 λi H2=>t o i v H2 λz=>Q σ z
theorem L0{o i:Expr}{to B:TE}{t:NM}(ho:PE X o to)(hi:PE X i B)(hs:RS X t)
  (Y:∀v, zbd (.Subscript o i pos) X.env v = (do
   let q <- zcj [v] (eval o X.env);let z <- zcj [v,q] (eval i X.env)
   standAt pos
   zcj [v,q,z] (setItem q z v)
   release [v,q,z] []):=by intro _;rfl):PG X (.Subscript o i pos) (WX to B t):=by
 intro pins s σ H v u Q I r h;rw[Y];refine zaa (zbB (cS (ho pins s σ H _ I h) λq W ⟨x,H1,G,r1,q1⟩=>?_));refine zaa (zbB (cS (hi pins W σ H1 _ G q1) λz M ⟨y,H2,U,r2,N⟩=>?_));refine zaa (zc8 (zaa (zbB (cS (hs pins M σ H2 x y v q z u _ U r1 r2 r N) λ_ s3 ⟨H3,F,J⟩=>?_))));exact wpAny_release ⟨σ,H3,F,J⟩
def NI(te:TE)(g:TG):TS:=λD σ H=>te σ H λx H1=>g x σ H1 D.nx
theorem L5{tg e:Expr}{te:TE}{g:TG}(F:PE X e te)(z:PG X tg g)(hs:zc9 [tg] e pos.line X.env=pure false:=by rfl)(hw:zda [tg] e X.env=pure none:=by rfl)
  (h1:(za1 [tg] X.env).map (·.2)=[zbd tg X.env]:=by rfl):PS X (.Assign [tg] e pos) (NI te g):=by
 intro pins s σ H D I h;refine wpAny_Assign_stores (cS (F pins s σ H _ I h) λv G ⟨x,H1,B,r1,J⟩=>?_) hs hw;rw[h1];exact cS (z pins G σ H1 x v _ B r1 J) λ_ M q=>q
theorem MZ{i:Nat}{x:Str}{e:Expr}{te:TE}{pos':Pos}(q:X.N.Nodup)(hi:X.N[i]?=some x)(hx:Loc X.env.scope x)(B:PE X e te)(hs:zaC e (some (.Name x pos')) pos.line X.env=pure false:=by rfl)(G:X.fn x=true\/X.env.scope.names.lookup x=some .local:=by first|exact .inl rfl|exact .inr rfl|assumption) :
  PS X (.Assign [.Name x pos'] e pos) (NI te (i7 i)):=by
 intro pins s σ H D I h;refine wpAny_Assign_Name (cS (B pins s σ H _ I h) λv U ⟨y,H1,z,r1,J⟩=>?_) hs;exact AJ z q hi hx r1 (λM F=>⟨_,H1,F,J⟩) G
end
section
variable {X:Cx}{pos:Pos}
def UD(c:TT)(tb:TS):TS:=λD σ H=>∃W:Nat->St->Hp->Prop,(∃m,W m σ H)/\∀m σ H,W m σ H->
 c σ H λb H1=>if b=true then ∃N:St->Hp->Prop,(∀q H',N q H'->∃z,z<m/\W z q H')/\tb {D with nx:=N,ct:=N,bk:=D.nx} σ H1 else D.nx σ H1
theorem JD{c:Expr}{B:List Stmt}{tc:TT}{tb:TS}(hp:zb5 (model X.prog X.w) X.A X.env X.xe)(hc:PT X c tc)(hb:PSs X B tb):PS X (.While c B [] pos) (UD tc tb):=by
 intro pins s σ H D I h;obtain⟨W,⟨m0,w0⟩,turn⟩:=h;refine wpAny_While (codeAny_whileLoop (λn s'=>∃F H',Inv X pins F H' s'/\W n F H') ?_ m0 ⟨σ,H,I,w0⟩);rintro n s1 ⟨z,H1,I1,w1⟩;refine zck hp (cS (hc pins s1 z H1 _ I1 (turn n z H1 w1)) λb s2 ⟨H2,I2,M⟩=>?_);cases b with
 | true=>
  obtain⟨N,hN,M⟩:=M;rw[if_pos rfl];refine zck hp (cS (hb pins s2 z H2 _ I2 M) λf s3 J=>?_);cases f with
  | next=>
   obtain⟨q,G,U,Y⟩:=J;obtain⟨m',hm,w3⟩:=hN q G Y;exact⟨m',hm,q,G,U,w3⟩
  | cont=>
   obtain⟨q,G,U,Y⟩:=J;obtain⟨m',hm,w3⟩:=hN q G Y;exact⟨m',hm,q,G,U,w3⟩
  | brk=>exact J
  | ret v=>exact J
 | false=>
  rw[if_neg zaA];exact zc7 ⟨z,H2,I2,M⟩
end
structure It where
 go:Nat->Hp->Prop
 yld:Nat->Hp->V->Hp->Prop
 stop:Nat->Hp->Prop
def kK(X:Cx)(pins:List (Addr×Obj))(H:Hp)(b:Addr):Prop:=
 H b=none/\b≠X.env.locals/\b∉X.fs/\(b∈X.ex\/X.s₀.heap.objs.size<=b)/\(∀x c,X.env.cells.lookup x=some c->c≠b)/\∀p∈X.pn++pins,p.1≠b
theorem Inv.fpOk(I:Inv X pins σ H s)(B:s.heap.objs.size<=b)(F:H' b=none):kK X pins H' b:=by
 refine⟨F,zbq (zaW I.lt B),I.nofs B,.inr (zaK I.sz B),λx c e z=>?_,λp G z=>?_⟩
 ·obtain⟨v,q⟩:=I.cell x c e
  exact absurd (zaW q.lt (by rw[z];exact B)) (zb4 _)
 ·exact absurd (zaW (zao (I.pin p G).1) (by rw[z];exact B)) (zb4 _)
structure Turn(P:zah)(w:World)(K:zae)(tg:Expr)(J:It)(fp:List Addr)(it:Addr)(tn:Nat->Heap->Prop):Prop where
 mem:it∈fp
 obj:∀i h,tn i h->∀b∈fp,∃o,h.get? b=some o/\∀v,o.data≠.cell v
 keep:∀i h h',tn i h->(∀b∈fp,∀o,h.get? b=some o->h'.get? b=some o)->tn i h'
 item:∀(X:Cx),X.prog=P->X.w=w->X.K=K->X.calm=true->∀(i:Nat) (pins:List (Addr×Obj)) (s:zab) (σ:St) (H:Hp) (E:Value->zab->Prop),Inv X pins σ H s->(∀b∈fp,kK X pins H b)->tn i s.heap->J.go i H->
  wpAny (model P w) X.A (za2 (.ref it)) (λr s1=>∃u,r=some u /\
   wpAny (model P w) X.A (zdb tg (.ref it) u) (λ_ s2=>∃x H',Inv X pins σ H' s2/\RelV x u/\J.yld i H x H'/\tn (i+1) s2.heap/\∀b∈fp,H' b=none) E s1) E s
 done:∀(X:Cx),X.prog=P->X.w=w->X.K=K->X.calm=true->∀(i:Nat) (pins:List (Addr×Obj)) (s:zab) (σ:St) (H:Hp) (E:Value->zab->Prop),Inv X pins σ H s->(∀b∈fp,kK X pins H b)->tn i s.heap->J.stop i H->
  wpAny (model P w) X.A (za2 (.ref it)) (λr s1=>r=none/\Inv X pins σ H s1) E s
 self:∀(A:zan) (i:Nat) (s:zab) (Q:Value->zab->Prop) (E:Value->zab->Prop),tn i s.heap->Q (.ref it) s->wpAny (model P w) A (pyIter (.ref it)) Q E s
abbrev TI:=St->Hp->(It->Hp->Prop)->Prop
def PIE(X:Cx)(pins:List (Addr×Obj))(σ:St)(tg:Expr)(R:It->Hp->Prop)(q:Value)(z:zab):Prop:=
 ∃(it:Addr) (fp:List Addr) (tn:Nat->Heap->Prop) (J:It) (H':Hp),q=.ref it/\Inv X pins σ H' z/\Turn X.prog X.w X.K tg J fp it tn/\tn 0 z.heap/\(∀b∈fp,kK X pins H' b)/\R J H'
def PI(X:Cx)(tg q:Expr)(wi:TI):Prop:=
 ∀(pins:List (Addr×Obj)) (s:zab) (σ:St) (H:Hp) (R:It->Hp->Prop),Inv X pins σ H s->wi σ H R->
  wpAny (model X.prog X.w) X.A (eval q X.env) (λv z=>wpAny (model X.prog X.w) X.A (pyIter v) (PIE X pins σ tg R) X.xe z) X.xe s
theorem uF(F:s.heap.get? it=some o)(z:o.cls=.type n)(hd:o.data=.fields vs)
    (B:["enumerate", "zip", "dict_itemiterator", "dict_reverseitemiterator", "odict_iterator", "itertools.zip_longest", "itertools.pairwise"].contains n=false) (q:Q () s):wpAny M A (zdb tg (.ref it) u) Q E s:=by
  unfold zdb;cases tg <;> first
    | exact zaf q
    | (cases u <;> first
        | exact zaf q
        | (refine zaa (wpAny_load F ?_)
           rw[z,hd];show wpAny M A (if(["enumerate", "zip", "dict_itemiterator", "dict_reverseitemiterator", "odict_iterator", "itertools.zip_longest", "itertools.pairwise"].contains n && vs[0]? == some (za9 _))=true then _ else _) Q E s;rw[if_neg (by intro h;rw[B,Bool.false_and]at h;cases h)];exact zaf q))
def Itl(K:zae)(a:Addr):It:=
 ⟨λi H=>∃xs x,SqL K H a xs/\xs[i]?=some x,λi H x H'=>H'=H/\∀xs,SqL K H a xs->xs[i]?=some x,λi H=>∃xs,SqL K H a xs/\xs.length<=i⟩
def Itt(K:zae)(a:Addr):It:=
 ⟨λi H=>∃xs x,SqT K H a xs/\xs[i]?=some x,λi H x H'=>H'=H/\∀xs,SqT K H a xs->xs[i]?=some x,λi H=>∃xs,SqT K H a xs/\xs.length<=i⟩
noncomputable def qp(lo:Int)(n:Nat):It:=⟨λi _=>i<n,λi H x H'=>H'=H/\x=.int (lo+i),λi _=>n<=i⟩
theorem HD{P:zah}{w:World}{K:zae}{tg:Expr}(a it:Addr):Turn P w K tg (Itl K a) [it] it (λi h=>h.IsListIter it a i) where
 mem:=by simp
 obj:=λi h st b q=>by
  have e:b=it:=by simpa using q
  subst e;obtain⟨o,e,c,d⟩:=st;exact⟨o,e,λv z=>by rw[d]at z;cases z⟩
 keep:=λi h h' st k=>st.at λo e=>k it (by simp) o e
 item:=by
  intro X Y hw U hc i pins s σ H E I F st W;subst Y hw U;obtain⟨xs,x,G,hx⟩:=W;obtain⟨J,rv,p,hz⟩:=I.list G;obtain⟨u,hu,ru⟩:=rv.get hx;obtain⟨M,f1,f2,N,f4,f5⟩:=F it (by simp);refine wpAny_pyNext_list_item st p.isList (x:=u) (by simpa using hu) λh' B sb=>?_
  have I1:Inv X pins σ H {s with heap:=h'}:=I.turned (t':=s.toks) (λb o q e=>(sb.2 b q).trans e) M f1 N f4 f5;obtain⟨o,e,c,d⟩:=id B;exact⟨u,rfl,uF (s:={s with heap:=h'}) e c d (by decide) ⟨x,H,I1,ru,⟨rfl,λys hy=>by rw[I.list_inj hy G];exact hx⟩,B,λb q=>(F b q).1⟩⟩
 done:=by
  intro X Y hw U hc i pins s σ H E I F st W;subst Y hw U;obtain⟨xs,G,hx⟩:=W;obtain⟨J,rv,p,hz⟩:=I.list G;obtain⟨M,f1,f2,N,f4,f5⟩:=F it (by simp);have hl:=rv.length;exact wpAny_pyNext_list_end (I.ok.hd hc) st p.isList (by simp;lia) λh' eb=>⟨rfl,I.turned (t':=s.toks) (λb o q e=>eb b o q e) M f1 N f4 f5⟩
 self:=λ_ _ _ _ _ st h=>wpAny_pyIter_listiter st h
theorem CJ{P:zah}{w:World}{K:zae}{tg:Expr}(a it:Addr):Turn P w K tg (Itt K a) [it] it (λi h=>h.IsTupleIter it a i) where
 mem:=by simp
 obj:=λi h st b q=>by
  have e:b=it:=by simpa using q
  subst e;obtain⟨o,e,c,d⟩:=st;exact⟨o,e,λv z=>by rw[d]at z;cases z⟩
 keep:=λi h h' st k=>st.at λo e=>k it (by simp) o e
 item:=by
  intro X Y hw U hc i pins s σ H E I G st W;subst Y hw U;obtain⟨xs,x,J,hx⟩:=W;obtain⟨B,rv,p,hz⟩:=I.tuple J;obtain⟨u,hu,ru⟩:=rv.get hx;obtain⟨M,f1,f2,N,f4,f5⟩:=G it (by simp);refine wpAny_pyNext_tuple_item st (show s.heap.IsTuple a B.toArray from p) (x:=u) (by simpa using hu) λh' F sb=>?_
  have I1:Inv X pins σ H {s with heap:=h'}:=I.turned (t':=s.toks) (λb o q e=>(sb.2 b q).trans e) M f1 N f4 f5;obtain⟨o,e,c,d⟩:=id F;exact⟨u,rfl,uF (s:={s with heap:=h'}) e c d (by decide) ⟨x,H,I1,ru,⟨rfl,λys hy=>by rw[I.tuple_inj hy J];exact hx⟩,F,λb q=>(G b q).1⟩⟩
 done:=by
  intro X Y hw U hc i pins s σ H E I G st W;subst Y hw U;obtain⟨xs,J,hx⟩:=W;obtain⟨B,rv,p,hz⟩:=I.tuple J;obtain⟨M,f1,f2,N,f4,f5⟩:=G it (by simp);have hl:=rv.length;exact wpAny_pyNext_tuple_end (I.ok.hd hc) st (show s.heap.IsTuple a B.toArray from p) (by simp;lia) λh' eb=>⟨rfl,I.turned (t':=s.toks) (λb o q e=>eb b o q e) M f1 N f4 f5⟩
 self:=λ_ _ _ _ _ st h=>wpAny_pyIter_tupleiter st h
theorem B7{P:zah}{w:World}{K:zae}{tg:Expr}(it:Addr)(lo:Int)(n:Nat):Turn P w K tg (qp lo n) [it] it (λi h=>IsRangeIter h it (lo+(i:Nat)*1) ((n:Int)-(i:Nat)) 1) where
 mem:=by simp
 obj:=λi h st b q=>by
  have e:b=it:=by simpa using q
  subst e;exact⟨_,st,λv z=>by
   have z':Data.fields _=Data.cell v:=z;cases z'⟩
 keep:=λi h h' st k=>k it (by simp) _ st
 item:=by
  intro X Y hw J G i pins s σ H E I F st M;subst Y hw J;obtain⟨N,f1,f2,U,f4,f5⟩:=F it (by simp);have W:=Walks.range (prog:=X.prog) (w:=X.w) (I.ok.hd G) it lo 1 n;refine W.item i s _ _ M st λv h' tk hv B kk=>?_
  obtain⟨t,rfl⟩:=hv;have I1:Inv X pins σ H {s with heap:=h',toks:=tk}:=I.turned (λb o q e=>kk b o (by simpa using q) e) N f1 U f4 f5;refine⟨_,rfl,uF (s:={s with heap:=h',toks:=tk}) (n := "range_iterator") B rfl rfl (by decide) ⟨.int (lo+i),H,I1,⟨t,?_⟩,⟨rfl,rfl⟩,B,λb q=>(F b q).1⟩⟩;rw[Int.mul_one]
 done:=by
  intro X Y hw J G i pins s σ H E I F st M;subst Y hw J;obtain⟨N,f1,f2,U,f4,f5⟩:=F it (by simp);exact wpAny_pyNext_range_end (I.ok.hd G) st (by have:n<=i:=M;lia) λh' eb=>⟨rfl,I.turned (t':=s.toks) (λb o q e=>eb b o q e) N f1 U f4 f5⟩
 self:=λ_ _ _ _ _ st h=>wpAny_pyIter_rangeiter st h
section
variable {X:Cx}{tg:Expr}
def Y8(K:zae)(tl:TE):TI:=λσ H R=>tl σ H λx H1=>∃a,x=.ref a/\(∃xs,SqL K H1 a xs)/\R (Itl K a) H1
def qaA(K:zae)(tl:TE):TI:=λσ H R=>tl σ H λx H1=>∃a,x=.ref a/\(∃xs,SqT K H1 a xs)/\R (Itt K a) H1
theorem Q9{l:Expr}{tl:TE}(J:PE X l tl):PI X tg l (Y8 X.K tl):=by
 intro pins s σ H R I h;refine cS (J pins s σ H _ I h) λv B ⟨x,H1,z,r1,N⟩=>?_
 obtain⟨a,e,⟨xs,G⟩,q⟩:=N;subst e;cases r1;obtain⟨F,W,p,U⟩:=z.list G;refine zb6 p.isList ?_;refine⟨B.heap.objs.size,[B.heap.objs.size],_,_,H1,rfl,z.kept (t':=B.toks) λb o e=>zal _ e,HD a _,⟨_,zaD _ rfl,rfl,rfl⟩,λb M=>?_,q⟩;have e:b=B.heap.objs.size:=by simpa using M
 subst e;exact z.fpOk (zaj _) (z.hok.fresh (zaj _))
theorem WO{l:Expr}{tl:TE}(J:PE X l tl):PI X tg l (qaA X.K tl):=by
 intro pins s σ H R I h;refine cS (J pins s σ H _ I h) λv z ⟨x,H1,B,r1,N⟩=>?_
 obtain⟨a,e,⟨xs,G⟩,q⟩:=N;subst e;cases r1;obtain⟨F,W,p,U⟩:=B.tuple G;refine zbR (show z.heap.IsTuple a F.toArray from p) ?_;refine⟨z.heap.objs.size,[z.heap.objs.size],_,_,H1,rfl,B.kept (t':=z.toks) λb o e=>zal _ e,CJ a _,⟨_,zaD _ rfl,rfl,rfl⟩,λb M=>?_,q⟩;have e:b=z.heap.objs.size:=by simpa using M
 subst e;exact B.fpOk (zaj _) (B.hok.fresh (zaj _))
theorem LN{pins:List (Addr×Obj)}{σ:St}{H:Hp}{s:zab}{R:It->Hp->Prop}{E:Value->zab->Prop}{lo hi:Int}{t u v:Tok}{tk:Nat}(I:Inv X pins σ H s)(h1:-(2^62)<=lo)(h2:lo<2^62)(B:-(2^62)<=hi)(F:hi<2^62)
  (q:R (qp lo (hi-lo).toNat) H):wpAny (model X.prog X.w) X.A (pyIter (.ref s.heap.objs.size)) (PIE X pins σ tg R) E {s with heap:=s.heap.push {cls:=.type "range",data:=.fields #[.int lo t,.int hi u,.int 1 v]},toks:=tk}:=by
 refine wpAny_pyIter_range (IsRange.new ..) (small_one h1 h2 B F) ?_;have z:Inv X pins σ H {s with heap:=s.heap.push {cls:=.type "range",data:=.fields #[.int lo t,.int hi u,.int 1 v]},toks:=tk}:=I.kept λb o e=>zal _ e
 refine⟨(s.heap.push {cls:=.type "range",data:=.fields #[.int lo t,.int hi u,.int 1 v]}).objs.size,[(s.heap.push {cls:=.type "range",data:=.fields #[.int lo t,.int hi u,.int 1 v]}).objs.size],_,_,H,rfl,
  z.kept (t':=tk) λb o e=>zal _ e,B7 _ lo (hi-lo).toNat,?_,λb M=>?_,q⟩
 ·have G:lo+((0:Nat):Int)*1=lo:=by simp
  have J:(((hi-lo).toNat:Nat):Int)-((0:Nat):Int)=Builtin.Range.rangeSize lo hi 1:=by rw[rangeSize_one];split <;> lia
  show IsRangeIter _ _ (lo+((0:Nat):Int)*1) ((((hi-lo).toNat:Nat):Int)-((0:Nat):Int)) 1;rw[G,J];exact zaD _ rfl
 ·have e:b=(s.heap.push {cls:=.type "range",data:=.fields #[.int lo t,.int hi u,.int 1 v]}).objs.size:=by simpa using M
  subst e;exact z.fpOk (zaj _) (z.hok.fresh (zaj _))
def YB(ta:TA):TI:=λσ H R=>ta σ H λvs H1=>∃j:Int,vs=[.int j]/\-(2^62)<=j/\j<2^62/\R (qp 0 j.toNat) H1
theorem HP{a:Expr}{ta:TA}{p pos:Pos}(B:Gl X "range")(F:X.mg "range" = none)(M:PA X [a] ta)(hs:zag [a] X.env=[(false,eval a X.env)]:=by rfl):PI X tg (.Call (.Name "range" p) [a] [] pos) (YB ta):=by
 intro pins s σ H R I h;refine Call_ (lS I B F boot_range (zcP (cS (M pos pins s σ H _ I h) λU N ⟨vs,H1,G,r1,z⟩=>?_) hs rfl));obtain⟨j,e,z,J,q⟩:=z;subst e;cases r1 with
 | cons r rr=>
  cases rr;obtain⟨t,rfl⟩:=r;exact call_range_1 (LN G (by lia) (by lia) z J (by simpa using q))
def qaL(wi:TI)(g:TG)(tb:TS):TS:=λD σ H=>wi σ H λJ H1=>∃W:Nat->Nat->St->Hp->Prop,(∃m,W 0 m σ H1)/\∀i m σ H,W i m σ H->
 (J.stop i H/\D.nx σ H)\/(J.go i H/\∃N:St->Hp->Prop,(∀q H',N q H'->∃B,B<m/\W (i+1) B q H')/\∀x H',J.yld i H x H'->g x σ H' λz H2=>tb {D with nx:=N,ct:=N,bk:=D.nx} z H2)
noncomputable def t5(fp:List Addr)(h:Heap):List (Addr×Obj):=fp.filterMap λb=>(h.get? b).map λo=>(b,o)
theorem iT(q:b∈fp)(e:h.get? b=some o):(b,o)∈t5 fp h:=List.mem_filterMap.mpr ⟨b,q,by rw[e];rfl⟩
theorem HW(z:p∈t5 fp h):p.1∈fp/\h.get? p.1=some p.2:=by
 obtain⟨b,F,e⟩:=List.mem_filterMap.mp z;cases q:h.get? b with
 | none=>rw[q]at e;cases e
 | some o=>
  rw[q]at e;have B:(b,o)=p:=zaF e;subst B;exact⟨F,q⟩
theorem Inv.pinned(I:Inv X pins σ H s)(M:∀b∈fp,kK X pins H b)(F:∀b∈fp,∃o,s.heap.get? b=some o/\∀v,o.data≠.cell v):Inv X (pins++t5 fp s.heap) σ H s:=
 I.pins_of λp J=>(List.mem_append.mp J).elim (λz=>I.pin p (zaX _ z)) λz=>by
  obtain⟨q,e⟩:=HW z;obtain⟨G,f1,f2,_⟩:=M p.1 q;obtain⟨o,B,d⟩:=F p.1 q;rw[e]at B;cases B;exact⟨e,G,f1,f2,d⟩
theorem Inv.unpinned(I:Inv X (pins++pl) σ H s):Inv X pins σ H s:=I.pins_of λp q=>I.pin p (zaX _ (zbC _ q))
theorem L8{F:Expr}{ac:List Stmt}{wi:TI}{g:TG}{tb:TS}{pos:Pos}(hp:zb5 (model X.prog X.w) X.A X.env X.xe)(hc:X.calm=true)(hi:PI X tg F wi)(hg:PG X tg g)(z:PSs X ac tb)
  (hs:∀x,zba F X.env x=pure x:=by intro _;rfl):PS X (.For tg F ac [] pos) (qaL wi g tb):=by
 intro pins s σ H D I h;refine wpAny_For (cS (hi pins s σ H _ I h) λv s1 h1=>cS h1 λa4 s2 h2=>?_) hs;obtain⟨it,fp,tn,J,H2,e,I2,T,ap,f2,W,⟨m0,w0⟩,turn⟩:=h2;subst e
 -- what stays true of the iterator's objects through the loop
 have B:∀ {H':Hp},(∀b∈fp,H' b=none)->∀b∈fp,kK X pins H' b:=λhn b z=>⟨hn b z,(f2 b z).2⟩
 refine codeAny_forLoop_any (λn s'=>∃i G H',Inv X pins G H' s'/\tn i s'.heap/\(∀b∈fp,H' b=none)/\W i n G H') ?_ m0 ⟨0,σ,H2,I2,ap,λb z=>(f2 b z).1,w0⟩;rintro n s3 ⟨i,U,H3,I3,ag,ah,w3⟩;rcases turn i n U H3 w3 with⟨ae,qn⟩|⟨go,N,hN,step⟩
 ·refine zck hp (cS (T.done X rfl rfl rfl hc i pins s3 U H3 X.xe I3 (B ah) ag ae) λr s4 ⟨hr,I4⟩=>?_)
  subst hr;exact zc7 ⟨U,H3,I4,qn⟩
 ·refine zck hp (cS (T.item X rfl rfl rfl hc i pins s3 U H3 X.xe I3 (B ah) ag go) λr s4 ⟨u,hr,h4⟩=>?_)
  subst hr;refine zck hp (cS h4 λ_ s5 ⟨x,H5,I5,r5,y5,ad,am⟩=>?_);have ak:=I5.pinned (B am) (T.obj _ _ ad);refine zck hp (cS (hg _ s5 U H5 x u _ ak r5 (step x H5 y5)) λ_ s6 ⟨an,H6,I6,q6⟩=>?_);refine zck hp (cS (z _ s6 an H6 _ I6 q6) λf s7 q7=>?_);have M:∀ {q:St} {Y:Hp},Inv X (pins++t5 fp s5.heap) q Y s7->N q Y->∃m,m<n/\∃i G H',Inv X pins G H' s7/\tn i s7.heap/\(∀b∈fp,H' b=none)/\W i m G H':=λ{q Y} I7 n7=>by
   obtain⟨m',hm,w7⟩:=hN q Y n7;refine⟨m',hm,i+1,q,Y,I7.unpinned,T.keep _ _ _ ad λb z o e=>(I7.pin (b,o) (zaX _ (zaX _ (iT z e)))).1,λb z=>?_,w7⟩;obtain⟨o,e,d⟩:=T.obj _ _ ad b z;exact(I7.pin (b,o) (zaX _ (zaX _ (iT z e)))).2.1
  cases f with
  | next=>obtain⟨q,Y,I7,n7⟩:=q7;exact M I7 n7
  | cont=>obtain⟨q,Y,I7,n7⟩:=q7;exact M I7 n7
  | brk=>obtain⟨q,Y,I7,q7⟩:=q7;exact⟨q,Y,I7.unpinned,q7⟩
  | ret v=>obtain⟨x7,q,Y,I7,r7,q7⟩:=q7;exact⟨x7,q,Y,I7.unpinned,r7,q7⟩
end
abbrev R2:=V->V->Hp->VK->Prop
def OpR(X:Cx)(f:Value->Value->Sem Value)(r:R2):Prop:=
 ∀(pins:List (Addr×Obj)) (s:zab) (σ:St) (H:Hp) (x y:V) (v u:Value) (Q:VK),Inv X pins σ H s->RelV x v->RelV y u->r x y H Q->
  wpAny (model X.prog X.w) X.A (f v u) (EP X pins σ Q) X.xe s
def CallR(X:Cx)(f:Value)(r:List V->Hp->VK->Prop):Prop:=
 ∀(pins:List (Addr×Obj)) (s:zab) (σ:St) (H:Hp) (xs:List V) (us:List Value) (Q:VK),Inv X pins σ H s->Vals xs us->r xs H Q->
  wpAny (model X.prog X.w) X.A (call f us) (EP X pins σ Q) X.xe s
def qo(r:R2)(ta tb:TE):TE:=λσ H Q=>ta σ H λx H1=>tb σ H1 λy H2=>r x y H2 Q
def rI(C:Int->Int->Prop)(g:Int->Int->V):R2:=λx y H Q=>∃i j,x=.int i/\y=.int j/\C i j/\Q (g i j) H
def NX(g:Int->Int->V):R2:=λx y H Q=>∃i j,x=.int i/\y=.int j/\Q (g i j) H
section
variable {X:Cx}{a b c:Expr}{ta tb tc:TE}{pos:Pos}
theorem WW(N:PE X a ta)(U:PE X b tb){pins:List (Addr×Obj)}{s:zab}{σ:St}{H:Hp}{R:V->V->Hp->Prop}(I:Inv X pins σ H s)
  (h:ta σ H λx H1=>tb σ H1 λy H2=>R x y H2) {Q:Value->zab->Prop} {f:Value->Value->Sem Value}
  (W:∀v u B x y H2,Inv X pins σ H2 B->RelV x v->RelV y u->R x y H2->wpAny (model X.prog X.w) X.A (f v u) Q X.xe B) :
  wpAny (model X.prog X.w) X.A (eval a X.env) (λv z=>wpAny (model X.prog X.w) X.A (eval b X.env) (λu q=>wpAny (model X.prog X.w) X.A (f v u) Q X.xe q) X.xe z) X.xe s:=by
 refine cS (N pins s σ H _ I h) λv M ⟨x,H1,F,r1,Y⟩=>?_
 refine cS (U pins M σ H1 _ F Y) λu B ⟨y,H2,J,r2,G⟩=>?_
 exact W v u B x y H2 J r1 r2 G
theorem XU{op:Operator}{r:R2}(M:OpR X (zaL op) r)(G:PE X a ta)(J:PE X b tb):PE X (.BinOp a op b pos) (qo r ta tb):=by
 intro pins s σ H Q I h;exact wpAny_BinOp (WW G J I h λv u B x y H2 F N z q=>M pins B σ H2 x y v u Q F N z q)
theorem qg{f:Value->Value->Sem Value}{C:Int->Int->Prop}{g:Int->Int->Int}
  (z:∀(i j:Int) (t u:Tok) (s:zab) (Q:Value->zab->Prop) (E:Value->zab->Prop),C i j->Q (.int (g i j) s.toks) {s with toks:=s.toks+1}->wpAny (model X.prog X.w) X.A (f (.int i t) (.int j u)) Q E s) :
  OpR X f (rI C λi j=>.int (g i j)):=by
 intro pins s σ H x y v u Q I G F h;obtain⟨i,j,rfl,rfl,B,q⟩:=h;obtain⟨t,rfl⟩:=G;obtain⟨t',rfl⟩:=F;exact z i j t t' s _ _ B ⟨.int (g i j),H,I.tok _,⟨_,rfl⟩,q⟩
theorem Z4{f:Value->Value->Sem Value}{g:Int->Int->Int}
  (z:∀(i j:Int) (t u:Tok) (s:zab) (Q:Value->zab->Prop) (E:Value->zab->Prop),Q (.int (g i j) s.toks) {s with toks:=s.toks+1}->wpAny (model X.prog X.w) X.A (f (.int i t) (.int j u)) Q E s) :
  OpR X f (NX λi j=>.int (g i j)):=by
 intro pins s σ H x y v u Q I F B h;obtain⟨i,j,rfl,rfl,q⟩:=h;obtain⟨t,rfl⟩:=F;obtain⟨t',rfl⟩:=B;exact z i j t t' s _ _ ⟨.int (g i j),H,I.tok _,⟨_,rfl⟩,q⟩
theorem RU{f:Value->Value->Sem Value}{g:Int->Int->Bool}
  (z:∀(i j:Int) (t u:Tok) (s:zab) (Q:Value->zab->Prop) (E:Value->zab->Prop),Q (.bool (g i j)) s->wpAny (model X.prog X.w) X.A (f (.int i t) (.int j u)) Q E s) :
  OpR X f (NX λi j=>.bl (g i j)):=by
 intro pins s σ H x y v u Q I F B h;obtain⟨i,j,rfl,rfl,q⟩:=h;obtain⟨t,rfl⟩:=F;obtain⟨t',rfl⟩:=B;exact z i j t t' s _ _ ⟨.bl (g i j),H,I,rfl,q⟩
def RX(i j:Int):Prop:=0<j/\j<1073741824
def R6(i j:Int):Prop:=0<=j/\j<=1000000/\i.natAbs<2^64
theorem UQ:OpR X (zaL .Add) (NX λi j=>.int (i+j)):=Z4 λ_ _ _ _ _ _ _ q=>add_int q
theorem UP:OpR X (zaL .Sub) (NX λi j=>.int (i-j)):=Z4 λ_ _ _ _ _ _ _ q=>sub_int q
theorem QQ:OpR X (zaL .FloorDiv) (rI RX λi j=>.int (i/j)):=qg λi j _ _ _ _ _ z q=>by
 have h1:(0:Int)<j:=z.1;have h2:j<1073741824:=z.2;exact floordiv_int (by lia) (by rw[Int.fdiv_eq_ediv_of_nonneg i (by lia)];exact q) (.inl (PyProof.noPylong_small (by lia)))
theorem WG:OpR X (zaL .Mod) (rI (λ_ j=>0<j) λi j=>.int (i%j)):=qg λi j _ _ _ _ _ z q=>by
 have h1:(0:Int)<j:=z;exact mod_int' (by lia) (by rw[Int.fmod_eq_emod_of_nonneg i (by lia)];exact q)
theorem UT:OpR X (zaL .Pow) (rI R6 λi j=>.int (i^j.toNat)):=qg λ_ _ _ _ _ _ _ z q=>pow_int_small z.1 z.2.1 z.2.2 q
end
noncomputable def WS:V->V->Bool
 | .non,.non=>true | .non,.int _=>true | .int _,.non=>true | .non,.bl _=>true | .bl _,.non=>true | .non,.str _=>true | .str _,.non=>true
 | .int _,.int _=>true | .bl _,.bl _=>true | .str _,.str _=>true | .byt _,.byt _=>true
 | .int _,.str _=>true | .str _,.int _=>true | .bl _,.str _=>true | .str _,.bl _=>true
 | _,_=>false
def rEq:R2:=λx y H Q=>WS x y=true/\Q (.bl (decide (x=y))) H
def rNe:R2:=λx y H Q=>WS x y=true/\Q (.bl (!decide (x=y))) H
theorem FA:decide (V.int i=V.int j)=(i == j):=by
 rw[zcO];simp
theorem MH:decide (V.bl i=V.bl j)=(i == j):=by
 rw[zcO];simp
theorem FM:decide (V.str i=V.str j)=(i == j):=by
 rw[zcO];simp
theorem FI:decide (V.byt i=V.byt j)=(i.toList == j.toList):=by
 rw[zcO];cases i;cases j;simp
section
variable {X:Cx}{a b c:Expr}{ta tb tc:TE}{pos:Pos}
theorem bK(I:Inv X pins σ H s)(q:Q (.bl k) H)(e:k=k'):EP X pins σ Q (.bool k') s:=by
 subst e;exact⟨.bl k,H,I,rfl,q⟩
theorem X7:OpR X (zay .Eq) rEq:=by
 intro pins s σ H x y v u Q I B z h;obtain⟨hs,q⟩:=h;cases x with
 | non=>
  cases B;cases y with
  | non=>cases z;exact PySem.EqNone.eq_none_none (bK I q (by simp))
  | bl j=>cases z;exact PySem.EqNone.eq_none_bool (bK I q (by simp))
  | int j=>obtain⟨t',rfl⟩:=z;exact PySem.EqNone.eq_none_int (bK I q (by simp))
  | str j=>obtain⟨t',rfl⟩:=z;exact PySem.EqNone.eq_none_str (bK I q (by simp))
  | _=>exact absurd (show false=true from hs) zaA
 | bl i=>
  cases B;cases y with
  | non=>cases z;exact PySem.EqNone.eq_bool_none (bK I q (by simp))
  | bl j=>cases z;exact eq_bool (bK I q MH)
  | str j=>obtain⟨t',rfl⟩:=z;exact PySem.EqMixed.eq_bool_str (bK I q (by simp))
  | _=>exact absurd (show false=true from hs) zaA
 | int i=>
  obtain⟨t,rfl⟩:=B;cases y with
  | non=>cases z;exact PySem.EqNone.eq_int_none (bK I q (by simp))
  | int j=>obtain⟨t',rfl⟩:=z;exact eq_int (bK I q FA)
  | str j=>obtain⟨t',rfl⟩:=z;exact PySem.EqMixed.eq_int_str (bK I q (by simp))
  | _=>exact absurd (show false=true from hs) zaA
 | str i=>
  obtain⟨t,rfl⟩:=B;cases y with
  | non=>cases z;exact PySem.EqNone.eq_str_none (bK I q (by simp))
  | bl j=>cases z;exact PySem.EqMixed.eq_str_bool (bK I q (by simp))
  | int j=>obtain⟨t',rfl⟩:=z;exact PySem.EqMixed.eq_str_int (bK I q (by simp))
  | str j=>obtain⟨t',rfl⟩:=z;exact eq_str (bK I q FM)
  | _=>exact absurd (show false=true from hs) zaA
 | byt i=>
  obtain⟨t,rfl⟩:=B;cases y with
  | byt j=>obtain⟨t',rfl⟩:=z;exact PySem.W.eq_bytes (bK I q FI)
  | _=>exact absurd (show false=true from hs) zaA
 | _=>cases y <;> exact absurd (show false=true from hs) zaA
theorem XS:OpR X (zay .NotEq) rNe:=by
 intro pins s σ H x y v u Q I B z h;obtain⟨hs,q⟩:=h;cases x with
 | non=>
  cases B;cases y with
  | non=>cases z;exact PySem.EqNone.ne_none_none (bK I q (by simp))
  | bl j=>cases z;exact PySem.EqNone.ne_none_bool (bK I q (by simp))
  | int j=>obtain⟨t',rfl⟩:=z;exact PySem.EqNone.ne_none_int (bK I q (by simp))
  | str j=>obtain⟨t',rfl⟩:=z;exact PySem.EqNone.ne_none_str (bK I q (by simp))
  | _=>exact absurd (show false=true from hs) zaA
 | bl i=>
  cases B;cases y with
  | non=>cases z;exact PySem.EqNone.ne_bool_none (bK I q (by simp))
  | bl j=>cases z;exact ne_bool (bK I q (congrArg not MH))
  | str j=>obtain⟨t',rfl⟩:=z;exact PySem.EqMixed.ne_bool_str (bK I q (by simp))
  | _=>exact absurd (show false=true from hs) zaA
 | int i=>
  obtain⟨t,rfl⟩:=B;cases y with
  | non=>cases z;exact PySem.EqNone.ne_int_none (bK I q (by simp))
  | int j=>obtain⟨t',rfl⟩:=z;exact ne_int (bK I q (congrArg not FA))
  | str j=>obtain⟨t',rfl⟩:=z;exact PySem.EqMixed.ne_int_str (bK I q (by simp))
  | _=>exact absurd (show false=true from hs) zaA
 | str i=>
  obtain⟨t,rfl⟩:=B;cases y with
  | non=>cases z;exact PySem.EqNone.ne_str_none (bK I q (by simp))
  | bl j=>cases z;exact PySem.EqMixed.ne_str_bool (bK I q (by simp))
  | int j=>obtain⟨t',rfl⟩:=z;exact PySem.EqMixed.ne_str_int (bK I q (by simp))
  | str j=>obtain⟨t',rfl⟩:=z;exact ne_str (bK I q (congrArg not FM))
  | _=>exact absurd (show false=true from hs) zaA
 | byt i=>
  obtain⟨t,rfl⟩:=B;cases y with
  | byt j=>obtain⟨t',rfl⟩:=z;exact PySem.W.ne_bytes (bK I q (congrArg not FI))
  | _=>exact absurd (show false=true from hs) zaA
 | _=>cases y <;> exact absurd (show false=true from hs) zaA
theorem YG:OpR X (zay .Lt) (NX λi j=>.bl (decide (i<j))):=RU λ_ _ _ _ _ _ _ q=>lt_int q
theorem YA:OpR X (zay .LtE) (NX λi j=>.bl (decide (i<=j))):=RU λ_ _ _ _ _ _ _ q=>le_int q
theorem Y4:OpR X (zay .Gt) (NX λi j=>.bl (decide (j<i))):=RU λ_ _ _ _ _ _ _ q=>gt_int q
theorem XT:OpR X (zay .GtE) (NX λi j=>.bl (decide (j<=i))):=RU λ_ _ _ _ _ _ _ q=>ge_int q
theorem U7:OpR X (zay .Is) (λx y H Q=>y=.non/\Q (.bl (decide (x=.non))) H):=by
 intro pins s σ H x y v u Q I z B h;obtain⟨rfl,q⟩:=h;cases B;refine is_none_gen (bK I q ?_);cases x <;> first
  | (cases z;rfl)
  | (obtain⟨t,rfl⟩:=z;rfl)
theorem O4:OpR X (zay .IsNot) (λx y H Q=>y=.non/\Q (.bl (!decide (x=.non))) H):=by
 intro pins s σ H x y v u Q I z B h;obtain⟨rfl,q⟩:=h;cases B;refine isnot_none_gen (bK I q ?_);cases x <;> first
  | (cases z;rfl)
  | (obtain⟨t,rfl⟩:=z;rfl)
theorem OpR.or(h:OpR X f r)(h':OpR X f r'):OpR X f (λx y H Q=>r x y H Q\/r' x y H Q):=by
 intro pins s σ H x y v u Q I B z q;rcases q with q|q
 ·exact h pins s σ H x y v u Q I B z q
 ·exact h' pins s σ H x y v u Q I B z q
theorem MN(b:Expr)(h:op≠.In:=by decide)(h2:op≠.NotIn:=by decide):zbP op b=false:=by
 have q:(op == CmpOp.In)=false:=by cases op <;> first|rfl|exact absurd rfl h
 have z:(op == CmpOp.NotIn)=false:=by cases op <;> first|rfl|exact absurd rfl h2
 cases b <;> simp[zbP,q,z]
theorem RF(N:OpR X (zay op) r)(J:PE X a ta)(M:PE X b tb)(B:zbP op b=false):PE X (.Compare a [op] [b] pos) (qo r ta tb):=by
 intro pins s σ H Q I h;exact wpAny_Compare1 (WW J M I h λv u F x y H2 G U z q=>N pins F σ H2 x y v u Q G U z q) B
def XJ(t:TE):TT:=λσ H Q=>t σ H λx H'=>∃k,x=.bl k/\Q k H'
theorem Q7{op:CmpOp}{r:R2}(ho:OpR X (zay op) r)(W:PE X a ta)(Y:PE X b tb)(q:zbP op b=false):PT X (.Compare a [op] [b] pos) (XJ (qo r ta tb)):=by
 intro pins s σ H Q I h;refine wpAny_isTrue_Compare1 (cS (W pins s σ H _ I h) λv U ⟨x,H1,F,r1,q1⟩=>cS (Y pins U σ H1 _ F q1) λu J ⟨y,H2,N,r2,M⟩=>
  cS (ho pins J σ H2 x y v u _ N r1 r2 M) λc s3 ⟨z,H3,B,r3,k,e,G⟩=>?_) q
 subst e;cases r3;exact zcx ⟨H3,B,G⟩
theorem tV:(zai:Nat)<2^63:=by rw[zcQ];decide
theorem BY:OpR X (zaL .Add) (λx y H Q=>∃i j,x=.str i/\y=.str j/\i.length+j.length<=zai/\Q (.str (i++j)) H):=by
 intro pins s σ H x y v u Q I F B h;obtain⟨i,j,rfl,rfl,z,q⟩:=h;obtain⟨t,rfl⟩:=F;obtain⟨t',rfl⟩:=B;exact add_str (λt' tk=>⟨.str (i++j),H,I.tok _,⟨_,rfl⟩,q⟩) z
theorem vals1(r:Vals [x] us):∃u,us=[u]/\RelV x u:=by
 cases r with
 | cons r1 r2=>cases r2;exact⟨_,rfl,r1⟩
theorem vals2(r:Vals [x,y] us):∃u q,us=[u,q]/\RelV x u/\RelV y q:=by
 cases r with
 | cons r1 r2=>
  cases r2 with
  | cons r3 r4=>cases r4;exact⟨_,_,rfl,r1,r3⟩
theorem GJ(B:X.calm=true):CallR X (.builtin "max") (λxs H Q=>∃i j,xs=[.int i,.int j]/\Q (.int (if j>i then j else i)) H):=by
 intro pins s σ H xs G Q I r h;obtain⟨i,j,rfl,q⟩:=h;obtain⟨u,F,rfl,⟨t,rfl⟩,⟨t',rfl⟩⟩:=vals2 r;refine max_two_ints (I.ok.hd B) λh' tk k=>⟨_,H,I.kept k,?_,q⟩
 by_cases z:j>i
 ·rw[if_pos z,if_pos z];exact⟨_,rfl⟩
 ·rw[if_neg z,if_neg z];exact⟨_,rfl⟩
theorem HC(B:X.calm=true):CallR X (.builtin "min") (λxs H Q=>∃i j,xs=[.int i,.int j]/\Q (.int (if j<i then j else i)) H):=by
 intro pins s σ H xs G Q I r h;obtain⟨i,j,rfl,q⟩:=h;obtain⟨u,F,rfl,⟨t,rfl⟩,⟨t',rfl⟩⟩:=vals2 r;refine min_two_ints (I.ok.hd B) λh' tk k=>⟨_,H,I.kept k,?_,q⟩
 by_cases z:j<i
 ·rw[if_pos z,if_pos z];exact⟨_,rfl⟩
 ·rw[if_neg z,if_neg z];exact⟨_,rfl⟩
theorem II:CallR X (.type "int") (λxs H Q=>(∃i,xs=[.int i]/\Q (.int i) H)\/∃k,xs=[.bl k]/\Q (.int (if k then 1 else 0)) H):=by
 intro pins s σ H xs z Q I r h;rcases h with⟨i,rfl,q⟩|⟨k,rfl,q⟩
 ·obtain⟨u,rfl,t,rfl⟩:=vals1 r
  exact call_int_int ⟨.int i,H,I,⟨_,rfl⟩,q⟩
 ·obtain⟨u,rfl,r1⟩:=vals1 r
  cases r1;exact call_int_bool ⟨.int (if k then 1 else 0),H,I.tok _,⟨_,rfl⟩,q⟩
def qaz(K:zae)(x:V)(H:Hp)(n:Nat):Prop:=
 match x with
 | .str y=>y.length<=zai/\n=y.length
 | .byt y=>y.size<=zai/\n=y.size
 | .ref p=>(∃xs,SqL K H p xs/\n=xs.length)\/∃xs,SqT K H p xs/\n=xs.length
 | _=>False
theorem tP:CallR X (.builtin "len") (λxs H Q=>∃x n,xs=[x]/\qaz X.K x H n/\Q (.int n) H):=by
 intro pins s σ H xs us Q I r h;obtain⟨x,n,rfl,e,q⟩:=h;obtain⟨u,rfl,M⟩:=vals1 r;have Y:=tV;have hs:zai=16777216:=zcQ;cases x with
 | str y=>
  obtain⟨t,rfl⟩:=M;obtain⟨N,B⟩:y.length<=zai/\n=y.length:=e;subst B;exact len_str (by lia) ⟨.int _,H,I.tok _,⟨_,rfl⟩,q⟩
 | byt y=>
  obtain⟨t,rfl⟩:=M;obtain⟨N,B⟩:y.size<=zai/\n=y.size:=e;subst B;exact PySem.W.len_bytes (by lia) ⟨.int _,H,I.tok _,⟨_,rfl⟩,q⟩
 | ref p=>
  cases M;have B:(∃xs,SqL X.K H p xs/\n=xs.length)\/∃xs,SqT X.K H p xs/\n=xs.length:=e;rcases B with⟨xs,hx,B⟩|⟨xs,hx,B⟩
  ·subst B
   obtain⟨G,F,J,U⟩:=I.list hx;have z:=F.length;exact Calls.call_len_list J.isList (by simp only[zax];lia) ⟨.int xs.length,H,I.tok _,⟨_,by simp only[zax];rw[z]⟩,q⟩
  ·subst B
   obtain⟨G,F,J,U⟩:=I.tuple hx;have z:=F.length;exact len_tuple J (by simp only[zax];lia) ⟨.int xs.length,H,I.tok _,⟨_,by simp only[zax];rw[z]⟩,q⟩
 | _=>exact(show False from e).elim
end
structure ObjM(h:Heap)(x dx C:Addr)(mA:Str->Option Value):Prop where
 obj:h.get? x=some (zb3 C dx)
 ns:h.Ns1 dx mA
 ne:dx≠x
theorem IF{h:Heap}{dx:Addr}{mA:Str->Option Value}(n:h.Ns1 dx mA):∃od,h.get? dx=some od/\∀name,PySem.W.lookIn name od=some (mA name):=by
 obtain⟨o,es,ep,M,hd,N,_,G⟩:=n;refine⟨o,M,λname=>?_⟩;have e:=G name;unfold nsFind findBy at e;rw[<- Array.find?_toList]at e;unfold PySem.W.lookIn;rw[hd];dsimp only;split
 ·rename_i y q
  rw[q]at e;exact congrArg some e
 ·rename_i q
  rw[q]at e;have a:es.toList.any (·.refKey)=false:=by
   rw[List.any_eq_false];intro y F;obtain⟨z,t,B⟩:=N y (Array.mem_toList_iff.mp F);simp[DictEntry.refKey,B]
  have J:¬ es.toList.any (·.refKey)=true:=by rw[a];exact zaA
  rw[if_neg J];exact congrArg some e
theorem ObjM.look(I:ObjM h x dx C mA):∃od,PySem.W.InstAt h x (zb3 C dx) C (some od)/\∀name,PySem.W.lookIn name od=some (mA name):=
 let ⟨od,ho,hl⟩:=IF I.ns
 ⟨od,⟨I.obj,rfl,rfl,ho⟩,hl⟩
section
variable {prog:zah}{w:World}{A:zan}{E:Value->zab->Prop}{s:zab}{K:zae}{x dx C f:Addr}{mA:Str->Option Value}{name:Str}{v:Value}
theorem Q6(X:K.In s.heap)(I:ObjM s.heap x dx C mA)(z:zdc K C name=true)(F:zdd K C=true)
  (G:zbr K (.ref C) name=some none) (M:mA name=some v) (q:PySem.W.handedIn v=true) (h:Q v {s with toks:=s.toks+1}) :
  wpAny (model prog w) A (getAttr (.ref x) name expr) Q E s:=by
 obtain⟨od,J,B⟩:=I.look;exact PySem.W.get_value X J (PySem.W.plainGet_of z).1 (PySem.W.findObj_own F G rfl (by rw[B,M])) q h
theorem PY(X:K.In s.heap)(I:ObjM s.heap x dx C mA)
  (hs:zbr K (.ref C) "__setattr__" = some (some (.builtin "object.__setattr__"))) (Y:zdU K C=true) (ht:zdV K C name=some none) (hh:zdd K C=true)
  (hw:PySem.Within mA ns) (hsz:ns.length<=zai)
  (h:∀h',ObjM h' x dx C (λy=>if y=name then some v else mA y)->za4 dx s.heap h'->Q () {s with heap:=h',toks:=s.toks+2}) :
  wpAny (model prog w) A (setAttr (.ref x) name v) Q E s:=by
 obtain⟨od,J,hl⟩:=I.look;refine PySem.W.set_plain X J hs (PySem.W.osa_open (s:={s with toks:=s.toks+1}) (r:=none) X J Y ht λb=>?_);obtain⟨cd,N,B⟩:=PySem.W.any_some hh;have hx:s.heap.get? x=some ⟨.ref C,some dx,.plain,#[]⟩:=I.obj;refine zaa (zaf (zaa (zaa (wpAny_loadPart hx (zaa (PySem.W.Looks.here (s:={s with toks:=s.toks+1}) (PySem.W.looks_clsIn X N) ?_))))));rw[B];refine zaf (a:=some dx) (zaa (zaf (zaa ?_)));refine wpAny_nsSet1 (s:={s with toks:=s.toks+1}) I.ns λh' q z=>?_
 obtain⟨oD,U,ac,G,M,F⟩:=q.count (PySem.Within.cons name v hw);refine zaa (wpAny_lookBehind G (by rw[M];exact pastItsLine_dict (zaK F (by rw[zaz];lia))) ?_);exact zaf (h _ ⟨(z.2 _ (zaU I.ne)).trans I.obj,q,I.ne⟩ z)
theorem J6(X:K.In s.heap)(z:zdW K C=true)
  (hi:zbr K (.ref C) "__init__" = some (some (.ref f))) (B:PySem.W.typeIn K (.ref f)=some (.type "function"))
  (h:zbD (model prog w) (A.under (.builtin "type.__call__" ⟨.ref C::vs, kw⟩)) (.call (.ref f) ⟨.ref (s.heap.objs.size+1)::vs, kw⟩) (PySem.W.InitBack (s.heap.objs.size+1) R)
   {s with heap:=(s.heap.push zbS).push (zb3 C s.heap.objs.size)}) :
  zbD (model prog w) A (.call (.ref C) ⟨vs,kw⟩) R s:=by
 obtain⟨F,g,d,t,G⟩:=s;exact PySem.W.make_core (PySem.W.makes_of X z) (PySem.W.looks_findIn X hi) (λq=>PySem.W.bind_fn X q B) (.inl rfl) h
end
noncomputable def i6(f:Str)(v:V):List (Str×V)->List (Str×V)
 | []=>[(f,v)]
 | (g,x)::r=>if g=f then(g,v)::r else(g,x)::i6 f v r
theorem pF(f g:Str)(v:V):∀fs:List (Str×V),(i6 f v fs).lookup g=if g=f then some v else fs.lookup g
 | []=>by
  show zcl g [(f,v)]=_;by_cases h:g=f
  ·have q:(g == f)=true:=beq_iff_eq.mpr h
   simp only[zcl,q,if_pos h]
  ·have q:(g == f)=false:=beq_eq_false_iff_ne.mpr h
   simp only[zcl,q,if_neg h]
 | (k,x)::r=>by
  have ih:=pF f g v r;rw[show i6 f v ((k,x)::r)=(if k=f then(k,v)::r else(k,x)::i6 f v r)from rfl];by_cases z:k=f
  ·rw[if_pos z]
   by_cases h:g=k
   ·have q:(g == k)=true:=beq_iff_eq.mpr h
    simp only[zcl,q,if_pos (h.trans z)]
   ·have q:(g == k)=false:=beq_eq_false_iff_ne.mpr h
    simp only[zcl,q,if_neg (λe:g=f=>h (e.trans z.symm))]
  ·rw[if_neg z]
   by_cases h:g=k
   ·have q:(g == k)=true:=beq_iff_eq.mpr h
    simp only[zcl,q,if_neg (λe:g=f=>z (h.symm.trans e))]
   ·have q:(g == k)=false:=beq_eq_false_iff_ne.mpr h
    simp only[zcl,q];exact ih
theorem nX(f:Str)(v:V):∀fs:List (Str×V),f∈(i6 f v fs).map (·.1)/\∀g,g∈fs.map (·.1)->g∈(i6 f v fs).map (·.1)
 | []=>⟨by simp[i6],λg h=>by simp at h⟩
 | (k,x)::r=>by
  obtain⟨B,z⟩:=nX f v r;rw[show i6 f v ((k,x)::r)=(if k=f then(k,v)::r else(k,x)::i6 f v r)from rfl];by_cases q:k=f
  ·rw[if_pos q]
   subst q;exact⟨by simp,λg h=>by simpa using h⟩
  ·rw[if_neg q]
   refine⟨?_,λg h=>?_⟩
   ·rw[zak]
    exact zap _ B
   ·rw[zak]at h ⊢
    rcases List.mem_cons.mp h with e|e
    ·exact List.mem_cons.mpr (.inl e)
    ·exact zap _ (z g e)
theorem oT(f:Str)(v:V):∀fs:List (Str×V),(i6 f v fs).length<=fs.length+1
 | []=>by simp[i6]
 | (k,x)::r=>by
  have ih:=oT f v r;rw[show i6 f v ((k,x)::r)=(if k=f then(k,v)::r else(k,x)::i6 f v r)from rfl];by_cases q:k=f
  ·rw[if_pos q,zaz,zaz];lia
  ·rw[if_neg q,zaz,zaz];lia
theorem RelO.some_of(r:RelO (some v) o):∃u,o=some u/\RelV v u:=by
 cases o with
 | none=>exact(show False from r).elim
 | some u=>exact⟨u,rfl,r⟩
theorem IL(r:RelV v u):PySem.W.handedIn u=true:=by
 cases v with
 | non=>cases(show u=za5 from r);rfl
 | bl b=>cases(show u=zcK b from r);rfl
 | int i=>obtain⟨t,e⟩:=(show ∃t,u=zcv i t from r);cases e;rfl
 | str x=>obtain⟨t,e⟩:=(show ∃t,u=zcJ x t from r);cases e;rfl
 | byt b=>obtain⟨t,e⟩:=(show ∃t,u=Value.bytes b t from r);cases e;rfl
 | flt b=>obtain⟨t,e⟩:=(show ∃t,u=Value.float b t from r);cases e;rfl
 | ref a=>cases(show u=zar a from r);rfl
 | ty n=>cases(show u=Value.type n from r);rfl
section
variable {P:zah}{w:World}{H H':Hp}{h h':Heap}{a C dx:Addr}{fs fs':List (Str×V)}
theorem xA(B:HOk P w H h)(e:H a=some (.ins C dx fs)):∃mA,ObjM h a dx C mA/\(∀f,RelO (fs.lookup f) (mA f))/\PySem.Within mA (fs.map (·.1))/\fs.length<=1000/\H dx=some (.own a):=by
 obtain⟨d,z,F,G,mA,n,r,q⟩:=(show ObjOk P w H h a (.ins C dx fs)from B a _ e);exact⟨mA,⟨G,n,F⟩,r,q,z,d⟩
end
structure Cls(K:zae)(C:Addr):Prop where
 pg:zdc K C Str.empty=true
 hd:zdd K C=true
 po:zdU K C=true
 sa:zbr K (.ref C) "__setattr__" = some (some (.builtin "object.__setattr__"))
theorem Cls.get{K:zae}{C:Addr}(c:Cls K C)(f:Str):zdc K C f=true:=c.pg
def NoAttr(K:zae)(C:Addr)(f:Str):Prop:=zbr K (.ref C) f=some none
theorem NoAttr.taker{K:zae}{C:Addr}{f:Str}(n:NoAttr K C f):zdV K C f=some none:=by
 unfold zdV;rw[show zbr K (.ref C) f=some none from n];rfl
section
variable {X:Cx}{pins:List (Addr×Obj)}{σ:St}{H:Hp}{s:zab}{a C dx:Addr}{fs:List (Str×V)}{f:Str}{v:V}{A:zan}{E:Value->zab->Prop}
theorem CC(I:Inv X pins σ H s)(e:H a=some (.ins C dx fs))(c:Cls X.K C)(n:NoAttr X.K C f)(l:fs.lookup f=some v)
  (h:∀u s',Inv X pins σ H s'->RelV v u->Q u s'):wpAny (model X.prog X.w) A (getAttr (.ref a) f b) Q E s:=by
 obtain⟨mA,O,r,_,_,_⟩:=xA I.hok e;obtain⟨u,z,q⟩:=RelO.some_of (v:=v) (o:=mA f) (by rw[<- l];exact r f);exact Q6 I.kIn O (c.get f) c.hd n z (IL q) (h u _ (I.tok _) q)
theorem B5(I:Inv X pins σ H s)(e:H a=some (.ins C dx fs))(c:Cls X.K C)(n:NoAttr X.K C f)(N:fs.length<1000)(F:RelV y u)
  (h:∀s',Inv X pins σ (upd H a (.ins C dx (i6 f y fs))) s'->Q () s'):wpAny (model X.prog X.w) A (setAttr (.ref a) f u) Q E s:=by
 obtain⟨mA,O,r,wi,_,B⟩:=xA I.hok e;have J:(fs.map (·.1)).length<=zai:=by rw[zam,zcQ];lia
 refine PY I.kIn O c.sa c.po n.taker c.hd wi J λh' O' sb=>h _ ?_
 have hd:∃o,h'.get? dx=some o:=let ⟨o,_,_,e',_⟩:=O'.ns;⟨o,e'⟩;refine I.write (x:=a) (e:=dx) (by rw[e];exact zaY) (.inr B) (λb q M z=>(sb.2 b M).trans z) hd ?_;refine⟨by rw[aF O.ne];exact B,?_,O.ne,O'.obj,_,O'.ns,λg=>?_,λg G=>?_⟩
 ·have:=oT f y fs;lia
 ·show RelO ((i6 f y fs).lookup g) (if g=f then some u else mA g)
  rw[pF];by_cases q:g=f
  ·rw[if_pos q,if_pos q];exact F
  ·rw[if_neg q,if_neg q];exact r g
 ·by_cases q:g=f
  ·rw[q];exact(nX f y fs).1
  ·refine(nX f y fs).2 g (wi g λz=>G ?_)
   show(if g=f then some u else mA g)=none;rw[if_neg q];exact z
theorem Inv.made(I:Inv X pins σ H s):Inv X pins σ (upd (upd H s.heap.objs.size (.own (s.heap.objs.size+1))) (s.heap.objs.size+1) (.ins C s.heap.objs.size []))
  {s with heap:=(s.heap.push zbS).push (zb3 C s.heap.objs.size)}:=by
 have z:(s.heap.push zbS).get? s.heap.objs.size=some zbS:=zaD s.heap rfl;have N:((s.heap.push zbS).push (zb3 C s.heap.objs.size)).get? (s.heap.objs.size+1)=some (zb3 C s.heap.objs.size):=by
  have:=zaD (s.heap.push zbS) (o:=zb3 C s.heap.objs.size) rfl
  rwa [zbT]at this
 have F:(s.heap.push zbS).Ns s.heap.objs.size (λ_=>none):=⟨zbS,#[],_,z,rfl,(λe M=>absurd M (by simp)),λ_=>rfl⟩;have J:=I.laid (a:=s.heap.objs.size) (o:=.own (s.heap.objs.size+1)) (h':=s.heap.push zbS) (t':=s.toks) (λb u q=>zal _ q) (zaj _) ⟨_,z⟩;refine J.laid (a:=s.heap.objs.size+1) (o:=.ins C s.heap.objs.size []) (t':=s.toks) (λb u q=>zal _ q) (Nat.le_of_eq (zbT _ _)) ?_;have B:s.heap.objs.size≠s.heap.objs.size+1:=zaE (zde _);refine⟨by rw[aF B,aI],zaI _,B,N,λ_=>none,(Heap.Ns1.of_empty F).at λo q=>zal _ q,λ_=>zaY,λy G=>absurd rfl G⟩
theorem QF{prog:zah}{w:World}{env:Env}{e:Expr}{f:Str}{pos:Pos}{s:zab}{Q:Value->zab->Prop}(z:zaN e f env (eval e env)=eval e env)
  (h:wpAny (model prog w) A (eval e env) (λo q=>wpAny (model prog w) A (getAttr o f true) Q E q) E s):wpAny (model prog w) A (eval (.Attribute e f pos) env) Q E s:=
 Attribute_any_ h (by rw[arm_eval_Attribute,z])
end
def ZU(K:zae)(ta:TE)(f:Str):TE:=λσ H Q=>ta σ H λx H1=>∃a C dx fs v,x=.ref a/\H1 a=some (.ins C dx fs)/\Cls K C/\NoAttr K C f/\fs.lookup f=some v/\Q v H1
def qaq(K:zae)(ta tv:TE)(f:Str):TS:=λD σ H=>tv σ H λy H1=>ta σ H1 λx H2=>∃a C dx fs,x=.ref a/\H2 a=some (.ins C dx fs)/\Cls K C/\NoAttr K C f/\fs.length<1000 /\
 D.nx σ (upd H2 a (.ins C dx (i6 f y fs)))
section
variable {X:Cx}{o e value:Expr}{f:Str}{pos pos' tpos:Pos}{ta tv:TE}
theorem kA(F:PE X e ta)(M:zaN e f X.env (eval e X.env)=eval e X.env):PE X (.Attribute e f pos) (ZU X.K ta f):=by
 intro pins s σ H Q I h;refine QF M (cS (F pins s σ H _ I h) λu W ⟨x,H1,B,N,a,C,dx,fs,v,ex,J,c,n,l,q⟩=>?_);subst ex;obtain rfl:u=zar a:=N;exact CC B J c n l λY U G z=>⟨v,H1,G,z,q⟩
theorem tX(U:PE X o ta)(hv:PE X value tv)(hs:zaC value (some (.Attribute o f pos')) pos.line X.env=pure false):PS X (.Assign [.Attribute o f pos'] value pos) (qaq X.K ta tv f):=by
 intro pins s σ H D I h;refine plainObj_wpAny_Assign_Attribute (cS (hv pins s σ H _ I h) λu N ⟨y,H1,G,z,q⟩=>cS (U pins N σ H1 _ G q) λB s2 ⟨x,H2,M,Y,a,C,dx,fs,ex,W,c,n,l,J⟩=>?_) hs;subst ex;obtain rfl:B=zar a:=Y;exact B5 M W c n l z λs3 F=>⟨σ,_,F,J⟩
end
section
variable {X:Cx}{pins:List (Addr×Obj)}{σ:St}{H:Hp}{s:zab}{A:zan}{E:Value->zab->Prop}{Q:Value->zab->Prop}{c:Value}{b:Bool}
inductive TyOf(K:zae)(H:Hp):V->Value->Prop where
 | non:TyOf K H .non (.type "NoneType")
 | bl (x:Bool):TyOf K H (.bl x) (.type "bool")
 | int (i:Int):TyOf K H (.int i) (.type "int")
 | str (x:Str):TyOf K H (.str x) (.type "str")
 | flt (x:UInt64):TyOf K H (.flt x) (.type "float")
 | lst {a:Addr} {xs:List V} (e:H a=some (.lst xs)):TyOf K H (.ref a) (.type "list")
 | frz {a:Addr} {o:Obj} {xs:List V} (e:H a=some (.frz o (.lst xs))):TyOf K H (.ref a) (.type "list")
 | tup {a:Addr} {xs:List V} (e:H a=some (.tup xs)):TyOf K H (.ref a) (.type "tuple")
 | dK {a:Addr} {kvs:List (Key×V)} (e:H a=some (.dK kvs)):TyOf K H (.ref a) (.type "dict")
 | dT {a:Addr} {kvs:List (List Key×V)} (e:H a=some (.dT kvs)):TyOf K H (.ref a) (.type "dict")
 | ins {a C dx:Addr} {fs:List (Str×V)} (e:H a=some (.ins C dx fs)) (cl:Cls K C) (ha:zbr K (.ref C) "__class__" = some (some (.builtin "object.__class__")))
   (hn:PySem.W.specialIn K (.builtin "object.__class__") "__get__" = some (some (.builtin "getset_descriptor.__get__"))) (htk:PySem.W.takesIn K (.builtin "object.__class__")=some true)
   (hm:PySem.W.mroIn K C (.type "object")=some true):TyOf K H (.ref a) (.ref C)
theorem HK(I:Inv X pins σ H s)(B:RelV x u)(ty:TyOf X.K H x t)(e:zdf X.K t c=some b)(h:∀tk,Q (.bool b) {s with toks:=tk}) :
  wpAny (model X.prog X.w) A (call (.builtin "isinstance") [u,c]) Q E s:=by
 cases ty with
 | non=>cases(show u=za5 from B);exact zbk PySem.W.kitx_none I.kIn zaY e (λz=>nomatch z) h
 | bl y=>cases(show u=zcK y from B);exact zbk PySem.W.kitx_bool I.kIn zaY e (λz=>nomatch z) h
 | int i=>obtain⟨t,q⟩:=(show ∃t,u=zcv i t from B);cases q;exact zbk PySem.W.kitx_int I.kIn zaY e (λz=>nomatch z) h
 | str y=>obtain⟨t,q⟩:=(show ∃t,u=zcJ y t from B);cases q;exact zbk PySem.W.kitx_str I.kIn zaY e (λz=>nomatch z) h
 | flt y=>obtain⟨t,q⟩:=(show ∃t,u=Value.float y t from B);cases q;exact zbk PySem.W.kitx_float I.kIn zaY e (λz=>nomatch z) h
 | @lst a xs ea=>
  cases(show u=zar a from B);obtain⟨_,_,n,_,h1⟩:=(show ObjOk X.prog X.w H s.heap a (.lst xs)from I.hok a _ ea);exact zbk PySem.W.kitx_list I.kIn ⟨_,h1,rfl⟩ e (λz=>nomatch z) h
 | @frz a ob xs ea=>
  cases(show u=zar a from B);obtain⟨_,_,_,n,_,h1⟩:=(show ObjOk X.prog X.w H s.heap a (.frz ob (.lst xs))from I.hok a _ ea);exact zbk PySem.W.kitx_list I.kIn ⟨_,h1,rfl⟩ e (λz=>nomatch z) h
 | @tup a xs ea=>
  cases(show u=zar a from B);obtain⟨_,_,_,p⟩:=(show ObjOk X.prog X.w H s.heap a (.tup xs)from I.hok a _ ea);obtain⟨o,h1,h2,_⟩:=p;exact zbk PySem.W.kitx_tuple I.kIn ⟨o,h1,h2⟩ e (λz=>nomatch z) h
 | @dK a kvs ea=>
  cases(show u=zar a from B);obtain⟨_,_,vs,_,p⟩:=(show ObjOk X.prog X.w H s.heap a (.dK kvs)from I.hok a _ ea);obtain⟨o,es,ep,h1,h2,_⟩:=p;exact zbk zdg I.kIn ⟨o,h1,h2.1⟩ e (λz=>nomatch z) h
 | @dT a kvs ea=>
  cases(show u=zar a from B);obtain⟨_,_,xs,_,o,es,ep,h1,h2,_⟩:=(show ObjOk X.prog X.w H s.heap a (.dT kvs)from I.hok a _ ea);exact zbk zdg I.kIn ⟨o,h1,h2.1⟩ e (λz=>nomatch z) h
 | @ins a C dx fs ea cl ha hn htk hm=>
  cases(show u=zar a from B);obtain⟨mA,O,_⟩:=xA I.hok ea;obtain⟨od,J,_⟩:=O.look;exact zbk (PySem.W.kitx_own (cl.get _) cl.hd ha hn htk hm) I.kIn J e (λz=>nomatch z) h
end
structure Room(k:Nat)(A:zan):Prop where
 hd:A.handled=none
 dp:A.depth+3*k+5<recursionLimit
 un:A.units+16*k+200<cLine
theorem Room.mono(r:Room k A)(h:j<=k):Room j A:=⟨r.hd,by have:=r.dp;lia,by have:=r.un;lia⟩
theorem Room.deeper(r:Room (k+1) A)(env:Env):Room k (A.deeper env):=
 ⟨r.hd,by have:=r.dp;show A.depth+1+3*k+5<_;lia,by have:=r.un;show A.units+3+16*k+200<_;lia⟩
theorem BK{A:zan}{C:Addr}{q:List Value}{kw:List (Str×Value)}:(A.under (.builtin "type.__call__" ⟨.ref C::q,kw⟩)).depth=A.depth+1:=by
 first|rfl|simp[Around.under,Code.weight,Code.isCreation,Code.isGuard,Code.isCaller,Code.frames,Code.isFrame,guardIds]
theorem BX{A:zan}{C:Addr}{q:List Value}{kw:List (Str×Value)}:(A.under (.builtin "type.__call__" ⟨.ref C::q,kw⟩)).units=A.units+1:=by
 first|rfl|simp[Around.under,Code.cUnits,Code.frames,Code.isFrame]
theorem Room.make(r:Room (k+1) A)(C:Addr)(q:List Value)(kw:List (Str×Value)):Room k (A.under (.builtin "type.__call__" ⟨.ref C::q,kw⟩)):=
 ⟨r.hd,by have:=r.dp;rw[BK];lia,by have:=r.un;rw[BX];lia⟩
theorem Room.depth(r:Room k A):A.depth<recursionLimit:=by have:=r.dp;lia
theorem Room.units(r:Room k A):A.units+64<cLine:=by have:=r.un;lia
theorem Room.units0(r:Room k A):A.units<cLine:=by have:=r.un;lia
def RP:TA:=λ_ H Q=>Q [] H
def wB(ta:TE)(q:TA):TA:=λσ H Q=>ta σ H λx H1=>q σ H1 λxs H2=>Q (x::xs) H2
section
variable {X:Cx}{e:Expr}{es:List Expr}{te:TE}{t:TA}{pos:Pos}
theorem fD:PA X [] RP:=λ_ _ _ _ H Q I h=>Calls.spliced_nil ⟨[],H,I,.nil,h⟩
theorem cK(G:PE X e te)(J:PA X es t)(hs:zag (e::es) X.env=(false,eval e X.env)::zag es X.env:=by rfl):PA X (e::es) (wB te t):=by
 intro pos pins s σ H Q I h;rw[hs];show wpAny _ _ (spliced ((false,eval e X.env)::zaG pos (zag es X.env))) _ _ s;refine Calls.spliced_cons (cS (G pins s σ H _ I h) λu F ⟨x,H1,q,r1,M⟩=>?_);exact cS (J pos pins F σ H1 _ q M) λU N ⟨xs,H2,B,r2,z⟩=>⟨x::xs,H2,B,.cons r1 r2,z⟩
def qav(t:TA):TE:=λσ H Q=>t σ H λxs H1=>xs.length<=zai/\∀p,H1 p=none->Q (.ref p) (upd H1 p (.tup xs))
def qar(t:TA):TE:=λσ H Q=>t σ H λxs H1=>xs.length<=zai/\∀p,H1 p=none->Q (.ref p) (upd H1 p (.lst xs))
theorem U4{x1}(h:PA X es t):PE X (.Tuple es x1 pos) (qav t):=by
 intro pins s σ H Q I G;refine wpAny_Tuple_spliced (cS (h pos pins s σ H _ I G) λM B ⟨xs,H1,F,r,z,q⟩=>⟨by rw[<- r.length];exact z,?_⟩);have J:H1 B.heap.objs.size=none:=F.hok.fresh (zaj _);refine⟨.ref B.heap.objs.size,upd H1 B.heap.objs.size (.tup xs),F.laid (t':=B.toks) (λb u e=>zal _ e) (zaj _) ?_,rfl,q _ J⟩;exact⟨z,M,r,⟨_,zaD _ rfl,rfl,_,rfl,rfl⟩⟩
theorem VS(h:PA X es t):PE X (.List es pos) (qar t):=by
 intro pins s σ H Q I G;refine wpAny_List_spliced (cS (h pos pins s σ H _ I G) λM B ⟨xs,H1,F,r,z,q⟩=>⟨by rw[<- r.length];exact z,?_⟩);have J:H1 B.heap.objs.size=none:=F.hok.fresh (zaj _);refine⟨.ref B.heap.objs.size,upd H1 B.heap.objs.size (.lst xs),F.laid (t':=B.toks) (λb u e=>zal _ e) (zaj _) ?_,rfl,q _ J⟩;exact⟨z,M,0,r,zaD _ rfl⟩
end
abbrev Sp:=List V->Hp->VK->XK->Prop
abbrev IZ:=List Env->Hp->zab->XK->Value->zab->Prop
structure Env0(P:zah)(w:World)(K:zae)(mg:Str->Option Value)(base:Heap)(A:zan)(outer:List Env)(s:zab)(H:Hp):Prop where
 frames:A.frames=some outer
 mod:Mod K mg base
 bs:∀b o,base.get? b=some o->s.heap.get? b=some o/\H b=none
 bsz:base.objs.size<=s.heap.objs.size
 funs:s.heap.FunFrames base outer
 frf:∀b∈frs outer,H b=none
 hok:HOk P w H s.heap
 bare:zbN s.gens
def CE(q:List Env)(P:zah)(w:World)(H:Hp)(s:zab)(Q:VK)(u:Value)(s':zab):Prop:=
 ∃v H',s'.os=s.os/\zbN s'.gens/\Un (frs q) [] H H' s.heap s'.heap/\HOk P w H' s'.heap/\RelV v u/\Q v H'
def CR(CX:IZ)(outer:List Env)(P:zah)(w:World)(H:Hp)(s:zab)(Q:VK)(E:XK)(r:Result)(s':zab):Prop:=
 match r with
 | .ok (.ret u)=>CE outer P w H s Q u s'
 | .ok _=>False
 | .error e=>CX outer H s E e s'
structure FnOk(P:zah)(w:World)(K:zae)(mg:Str->Option Value)(base:Heap)(CX:IZ)(k:Nat)(f:Addr)(fd:zbe)(ps:List Str)(sp:Sp):Prop where
 len:∀vs H Q E,sp vs H Q E->vs.length=ps.length
 run:∀(A:zan) (outer:List Env) (s:zab) (H:Hp) (args:Args) (us:List Value) (vs:List V) (Q:VK) (E:XK),Room k A->Env0 P w K mg base A outer s H->BindsTo s fd args (ps.zip us)->Vals vs us->sp vs H Q E->
  zbD (model P w) A (.call (.ref f) args) (CR CX outer P w H s Q E) s
theorem FnOk.mono{P:zah}{w:World}{K:zae}{mg:Str->Option Value}{base:Heap}{CX:IZ}{j k:Nat}{f:Addr}{fd:zbe}{ps:List Str}{sp:Sp}(F:FnOk P w K mg base CX j f fd ps sp)(h:j<=k) :
  FnOk P w K mg base CX k f fd ps sp:=⟨F.len,λA q s H args B vs Q E z=>F.run A q s H args B vs Q E (z.mono h)⟩
theorem Env0.make{P:zah}{w:World}{K:zae}{mg:Str->Option Value}{base:Heap}{A:zan}{q:List Env}{s:zab}{H:Hp}(e:Env0 P w K mg base A q s H)(C:Addr)(z:List Value)(kw:List (Str×Value)) :
  Env0 P w K mg base (A.under (.builtin "type.__call__" ⟨.ref C::z,kw⟩)) q s H:=⟨by first|exact e.frames|(simpa[Around.under,Code.envs,Code.isFrame,pushEnvs]using e.frames),e.mod,e.bs,e.bsz,e.funs,e.frf,e.hok,e.bare⟩
section
variable {X:Cx}{pins:List (Addr×Obj)}{σ:St}{H:Hp}{s s':zab}
theorem Inv.env0(I:Inv X pins σ H s):Env0 X.prog X.w X.K X.mg X.base X.A X.stack s H:=
 ⟨I.ok.frames,I.ok.mod,I.bs,zaK I.ok.bsz I.sz,I.stack,I.stkFree,I.hok,I.bare⟩
theorem Inv.after(I:Inv X pins σ H s)(h:CE X.stack X.prog X.w H s Q u s'):EP X pins σ Q u s':=by
 obtain⟨v,H',M,B,un,F,r,q⟩:=h;obtain⟨J,g,d,t,G⟩:=s';obtain rfl:G=s.os:=M;exact⟨v,H',I.call (h':=J) (g':=g) (d':=d) (t':=t) (ch:=[]) un F B (λb z=>absurd z (by simp)),r,q⟩
end
def YN(sp:Sp)(dvs:List V)(E:XK)(t:TA):TE:=λσ H Q=>t σ H λvs H1=>sp (vs++dvs) H1 Q E
def ZH(C:Addr)(sp:Sp)(dvs:List V)(E:XK)(t:TA):TE:=λσ H Q=>t σ H λvs H1=>∀x dx,H1 x=none->H1 dx=none->dx≠x->
 sp (.ref x::(vs++dvs)) (upd (upd H1 dx (.own x)) x (.ins C dx [])) (λv H2=>v=.non/\Q (.ref x) H2) E
def Binds(K:zae)(fd:zbe)(ps:List Str)(ds:List Value):Prop:=
 ∀(s:zab) (us:List Value),K.In s.heap->(us++ds).length=ps.length->BindsTo s fd ⟨us,[]⟩ (ps.zip (us++ds))
theorem Binds.all{K:zae}{fd:zbe}{ps:List Str}(h:∀q:List Value,q.length=ps.length->bindArgs fd ⟨q,[]⟩=pure (ps.zip q)):Binds K fd ps []:=λs q _ z=>by
 rw[zbs]at z ⊢;exact .of_eq (h q z)
def t8(CX:IZ)(X:Cx)(E:XK):Prop:=∀(pins:List (Addr×Obj)) (σ:St) (H:Hp) (s:zab) (e:Value) (s':zab),Inv X pins σ H s->CX X.stack H s E e s'->X.xe e s'
section
variable {X:Cx}{CX:IZ}{k:Nat}{f C:Addr}{fd:zbe}{ps:List Str}{sp:Sp}{dvs:List V}{ds:List Value}{E:XK}{x m:Str}{p pos apos:Pos}{e o:Expr}{es:List Expr}{ta:TE}{t:TA}
theorem TL(F:FnOk X.prog X.w X.K X.mg X.base CX k f fd ps sp)(B:Room k X.A)(G:Binds X.K fd ps ds)(hd:Vals dvs ds)(hx:t8 CX X E)
  (I:Inv X pins σ H s) (r:Vals vs us) (h:sp (vs++dvs) H Q E):wpAny (model X.prog X.w) X.A (call (.ref f) us) (EP X pins σ Q) X.xe s:=by
 have r2:Vals (vs++dvs) (us++ds):=r.append hd;have z:(us++ds).length=ps.length:=by rw[<- r2.length];exact F.len _ _ _ _ h
 refine wpAny_call (zdh (F.run X.A X.stack s H ⟨us,[]⟩ (us++ds) (vs++dvs) Q E B I.env0 (G s us I.kIn z) r2 h) λr s' q=>?_);cases r with
 | error e=>exact hx pins σ H s e s' I q
 | ok fl=>
  cases fl with
  | ret u=>exact I.after q
  | next=>exact za8 q
  | brk=>exact za8 q
  | cont=>exact za8 q
theorem xP(F:FnOk X.prog X.w X.K X.mg X.base CX k f fd ps sp)(Y:Room k X.A)(J:Gl X x)(M:X.mg x=some (.ref f))(hk:zbE X.K (.ref f)=true)(hb:Binds X.K fd ps ds)(hd:Vals dvs ds)(hx:t8 CX X E)
  (U:PA X (e::es) t) (z:(x == ("__debug__" : Str))=false:=by decide) (N:zag (e::es) X.env=(false,eval e X.env)::zag es X.env:=by rfl) (B:(zaG pos (zag es X.env)).any (·.1)=false:=by rfl) :
  PE X (.Call (.Name x p) (e::es) [] pos) (YN sp dvs E t):=by
 intro pins s σ H Q I h;refine zdi (E7 I J M ?_ z);refine PySem.W.callWith_K (h₀:=X.base) I.ok.mod.kin hk (cS (U pos pins s σ H _ I h) λus s1 ⟨vs,H1,G,r,q⟩=>⟨G.kIn,?_⟩) N B;exact TL F Y hb hd hx G r q
structure Mk(K:zae)(C f:Addr):Prop where
 makes:zdW K C=true
 init:zbr K (.ref C) "__init__" = some (some (.ref f))
 fn:PySem.W.isFn K (.ref f)=true
 kp:zbE K (.ref C)=true
theorem J2(M:Mk X.K C f)(F:FnOk X.prog X.w X.K X.mg X.base CX k f fd ps sp)(U:Room (k+1) X.A)(W:Binds X.K fd ps ds)(hd:Vals dvs ds)
  (hx:t8 CX X E) (I:Inv X pins σ H s) (r:Vals vs us)
  (h:∀x dx,H x=none->H dx=none->dx≠x->sp (.ref x::(vs++dvs)) (upd (upd H dx (.own x)) x (.ins C dx [])) (λv H2=>v=.non/\Q (.ref x) H2) E) :
  wpAny (model X.prog X.w) X.A (call (.ref C) us) (EP X pins σ Q) X.xe s:=by
 have B:=h (s.heap.objs.size+1) s.heap.objs.size (I.hok.fresh (Nat.le_succ _)) (I.hok.fresh (zaj _)) (zaE (zde _));have z:=Inv.made (C:=C) I;have r2:Vals (V.ref (s.heap.objs.size+1)::(vs++dvs)) (zar (s.heap.objs.size+1)::(us++ds)):=.cons rfl (r.append hd);have G:(zar (s.heap.objs.size+1)::us++ds).length=ps.length:=by
  have e:=r2.length;rw[F.len _ _ _ _ B]at e;exact e.symm
 refine wpAny_call (J6 (f:=f) I.kIn M.makes M.init (beq_iff_eq.mp M.fn) (zdh (F.run _ X.stack _ _ ⟨zar (s.heap.objs.size+1)::us,[]⟩ (zar (s.heap.objs.size+1)::(us++ds)) _ _ E (U.make C us [])
  (z.env0.make C us []) (W _ (zar (s.heap.objs.size+1)::us) z.kIn G) r2 B) λr s' q=>?_))
 cases r with
 | error e=>exact hx pins σ _ _ e s' z q
 | ok fl=>
  cases fl with
  | ret u=>
   obtain⟨v,H',J,Y,ev,N⟩:=z.after q;subst ev;exact⟨Y,⟨V.ref (s.heap.objs.size+1),H',J,rfl,N⟩⟩
  | next=>exact za8 q
  | brk=>exact za8 q
  | cont=>exact za8 q
theorem OD(M:Mk X.K C f)(F:FnOk X.prog X.w X.K X.mg X.base CX k f fd ps sp)(hr:Room (k+1) X.A)(J:Gl X x)(N:X.mg x=some (.ref C))(hb:Binds X.K fd ps ds)(hd:Vals dvs ds)(hx:t8 CX X E)
  (Y:PA X (e::es) t) (z:(x == ("__debug__" : Str))=false:=by decide) (U:zag (e::es) X.env=(false,eval e X.env)::zag es X.env:=by rfl) (B:(zaG pos (zag es X.env)).any (·.1)=false:=by rfl) :
  PE X (.Call (.Name x p) (e::es) [] pos) (ZH C sp dvs E t):=by
 intro pins s σ H Q I h;refine zdi (E7 I J N ?_ z);refine PySem.W.callWith_K (h₀:=X.base) I.ok.mod.kin M.kp (cS (Y pos pins s σ H _ I h) λus s1 ⟨vs,H1,G,r,q⟩=>⟨G.kIn,?_⟩) U B;exact J2 M F hr hb hd hx G r q
end
section
variable {X:Cx}{CX:IZ}{k:Nat}{f C:Addr}{fd:zbe}{ps ks:List Str}{sp:Sp}{E:XK}{x m:Str}{p pos apos kpos:Pos}{e o:Expr}{es:List Expr}{kws:List zcm}{te ta:TE}{t tk:TA}{nm:Option Str}
variable {g:List Value->List Value->List Value}{gV:List V->List V->List V}
end
structure FnScope(N P:List Str)(sc:Scope):Prop where
 kind:sc.kind=.function
 co:sc.isCoroutine=false
 gen:sc.isGenerator=false
 nd:N.Nodup
 pre:N.take P.length=P
 par:∀x∈P,sc.names.lookup x=some .local\/sc.names.lookup x=some .cell
 nofree:∀y∈sc.names,y.2≠.free
theorem u7{zbf:Str->Option zbt}:∀ {binds:List (Str×Value)} {m:Str->Option Value},(∀v,(x,v)∉binds)->bindL zbf binds m x=m x
 | [],_,_=>rfl
 | (n,v)::r,m,h=>by
  unfold bindL;rw[u7 λw hw=>h w (zap _ hw)];split
  ·have:x≠n:=by rintro rfl;exact h v zat
   simp[this]
  ·rfl
theorem vS{zbf:Str->Option zbt}:∀ {binds:List (Str×Value)} {m:Str->Option Value},(∀v,(x,v)∉binds)->bindC zbf binds m x=m x
 | [],_,_=>rfl
 | (n,v)::r,m,h=>by
  unfold bindC;rw[vS λw hw=>h w (zap _ hw)];split
  ·rfl
  ·have:x≠n:=by rintro rfl;exact h v zat
   simp[this]
theorem vV{zbf:Str->Option zbt}{x:Str}{v:Value}:∀ {P:List Str} {vs:List Value} {i:Nat} {m:Str->Option Value},P.Nodup->P[i]?=some x->vs[i]?=some v->zbf x=some .local->
  bindL zbf (P.zip vs) m x=some v
 | [],_,_,_,_,h,_,_=>by simp at h
 | _::_,[],_,_,_,_,h,_=>by simp at h
 | p::P,w::vs,0,m,nd,h1,h2,hk=>by
  simp at h1 h2;subst h1;subst h2;show bindL zbf ((p,w)::P.zip vs) m p=_;unfold bindL;rw[u7 λv q=>(List.nodup_cons.mp nd).1 (zdX q).1,if_pos hk];simp
 | p::P,w::vs,i+1,m,nd,h1,h2,hk=>by
  show bindL zbf ((p,w)::P.zip vs) m x=_;unfold bindL;exact vV (i:=i) (List.nodup_cons.mp nd).2 (by simpa using h1) (by simpa using h2) hk
theorem vY{zbf:Str->Option zbt}{x:Str}{v:Value}:∀ {P:List Str} {vs:List Value} {i:Nat} {m:Str->Option Value},P.Nodup->P[i]?=some x->vs[i]?=some v->zbf x≠some .local->
  bindC zbf (P.zip vs) m x=some v
 | [],_,_,_,_,h,_,_=>by simp at h
 | _::_,[],_,_,_,_,h,_=>by simp at h
 | p::P,w::vs,0,m,nd,h1,h2,hk=>by
  simp at h1 h2;subst h1;subst h2;show bindC zbf ((p,w)::P.zip vs) m p=_;unfold bindC;rw[vS λv q=>(List.nodup_cons.mp nd).1 (zdX q).1,if_neg hk];simp
 | p::P,w::vs,i+1,m,nd,h1,h2,hk=>by
  show bindC zbf ((p,w)::P.zip vs) m x=_;unfold bindC;exact vY (i:=i) (List.nodup_cons.mp nd).2 (by simpa using h1) (by simpa using h2) hk
def start(N:List Str)(vs:List V):St:=vs.map some++zcn (N.length-vs.length) none
def i8(CX:IZ)(P:zah)(w:World)(K:zae)(mg:Str->Option Value)(base:Heap)(N:List Str)(q:Str)(scope:Scope)(f:Addr)(B:Value)(A:zan)(outer:List Env)(s:zab)(H:Hp)(E:XK):Cx where
 prog:=P
 w:=w
 K:=K
 mg:=mg
 base:=base
 A:=A.deeper (zaM q scope s.heap.objs.size f B)
 N:=N
 s₀:=s
 H₀:=H
 env:=zaM q scope s.heap.objs.size f B
 outer:=outer
 stack:=zaM q scope s.heap.objs.size f B::outer
 ex:=[]
 calm:=true
 fn:=λ_=>true
 pn:=[]
 xe:=λe s'=>wpAny (model P w) (A.deeper (zaM q scope s.heap.objs.size f B)) (leaving (zaM q scope s.heap.objs.size f B) e) (λ_ z=>CX outer H s E e z) (λF z=>CX outer H s E F z) s'
theorem mU{sc:Scope}{n:Nat}{x:Str}(h:sc.names.lookup x=some .cell):∃c,(zb7 n sc.names []).lookup x=some c:=by
 have q:=PySem.W.cellsFrom_some sc.names n [] (.inl h);exact Option.isSome_iff_exists.mp q
theorem HS{CX:IZ}{P:zah}{w:World}{K:zae}{mg:Str->Option Value}{base:Heap}{N ps:List Str}{F:Str}{scope:Scope}{f:Addr}{Y:Value}{A:zan}{B:List Env}{s s1:zab}{H:Hp}{E:XK}{us:List Value}{vs:List V}
  (S:FnScope N ps scope) (hd:A.handled=none) (G:Env0 P w K mg base A B s H) (hl:vs.length=ps.length) (r:Vals vs us)
  (x:InCallC s s.heap.objs.size (bindL (zaM F scope s.heap.objs.size f Y).kindOf (ps.zip us) λ_=>none) (zb7 (s.heap.objs.size+1) scope.names []) (bindC (zaM F scope s.heap.objs.size f Y).kindOf (ps.zip us) λ_=>none) s1) :
  Inv (i8 CX P w K mg base N F scope f Y A B s H E) [] (start N vs) H s1:=by
 have ae:ps.length<=N.length:=by have:=congrArg zbu S.pre;rw[zbU]at this;lia
 obtain⟨h1,tk,rfl,hk⟩:=x.done;have M:∀b:Addr,b∉(i8 CX P w K mg base N F scope f Y A B s H E).ex:=λb z=>absurd (show b∈([]:List Addr)from z) (by simp)
 refine⟨⟨G.mod,S.kind,rfl,rfl,zaj _,λy z c h1 h2=>?_,λy J=>?_,λy c _ h=>?_,λ_=>hd,Around.frames_deeper G.frames,.inr ⟨rfl,rfl⟩,λb z=>absurd z (M b),G.bs,G.bsz,λb _ _=>M b,λb z=>absurd z (M b),G.funs,G.frf⟩,
  rfl,G.bare,Un.kept hk,⟨_,x.toInCall.ns,λi y v h1 h2 h3=>?_⟩,λy c h=>⟨_,x.cell y c h⟩,G.hok.fresh (zaj _),λy c h=>?_,λp U=>absurd (show p∈([]:List (Addr×Obj))from U) (by simp),G.hok.kept hk,?_⟩
 ·exact name_of_addr x.apart (zcz h1) (zcz h2)
 ·have J:scope.names.lookup y=some .cell\/scope.names.lookup y=some .free:=J
  rcases J with J|J
  ·exact mU J
  ·exact absurd rfl (S.nofree _ (zcz J))
 ·exact Nat.le_of_lt (x.above y c (zcz h))
 ·have hi:i<vs.length:=by
   unfold start at h2;by_cases hi:i<vs.length
   ·exact hi
   ·rw[zdj (by simpa using hi)]at h2
    rw[List.getElem?_replicate]at h2;split at h2 <;> cases h2
  have ha:vs[i]?=some v:=by
   unfold start at h2;rw[zdY (by simpa using hi),zaB]at h2;cases e:vs[i]? with
   | none=>rw[e]at h2;cases h2
   | some a=>rw[e]at h2;cases h2;rfl
  obtain⟨u,hu,rv⟩:=r.get ha;have U:ps[i]?=some y:=by
   rw[<- S.pre,List.getElem?_take_of_lt (by lia)];exact h1
  have W:ps.Nodup:=by rw[<- S.pre];exact S.nd.sublist (zdk _ _)
  refine⟨u,rv,?_⟩;rcases S.par y (zav U)with k|k
  ·exact .inl ⟨k,vV W U hu k⟩
  ·obtain⟨c,e⟩:=mU (n:=s.heap.objs.size+1) k
   refine .inr ⟨.inl k,c,e,?_⟩;have q:=x.cell y c e;rw[vY W U hu (by show scope.names.lookup y≠_;rw[k];decide)]at q;exact q
 ·exact G.hok.fresh (Nat.le_of_lt (x.above y c (zcz h)))
 ·unfold start
  show _=N.length;rw[zbb,zam,List.length_replicate]
  lia
theorem YQ{CX:IZ}{P:zah}{w:World}{K:zae}{mg:Str->Option Value}{base:Heap}{k:Nat}{f:Addr}{name B:Str}{G:Arguments}{M:List Stmt}{scope:Scope}{dV kV ac pm F ct oc:Value}{an od:Option Addr}
  {ag:Array (Option Value)} {N ps:List Str} {sp:Sp} (lk:K.lookup f=some ⟨oc,od,.func (zbg name B G M scope dV kV ac pm an F ct),ag⟩) (ah:zco K F B=true) (S:FnScope N ps scope)
  (ab:∀vs H Q E,sp vs H Q E->vs.length=ps.length)
  (Y:∀(A:zan) (z:List Env) (s:zab) (H:Hp) (vs:List V) (Q:VK) (E:XK), Room k (A.deeper (zaM B scope s.heap.objs.size f F)) -> sp vs H Q E ->
   ∃t,PSs (i8 CX P w K mg base N B scope f F A z s H E) M t/\t {nx:=λ_ H'=>Q .non H',rt:=Q} (start N vs) H) :
  FnOk P w K mg base CX (k+1) f (zbg name B G M scope dV kV ac pm an F ct) ps sp:=by
 refine⟨ab,λA z s H args us vs Q E hr e0 hb r hsp=>?_⟩;have hl:=ab _ _ _ _ hsp;have KX:K.In s.heap:=e0.mod.kin.keeps λb o e=>(e0.bs b o e).1
 have ae:s.heap.NoLimit:=e0.mod.nolimit.keeps λb o e=>(e0.bs b o e).1
 have aa:∀y∈ps.zip us,scope.names.lookup y.1=some .local\/(scope.names.lookup y.1=some .cell/\((zb7 (s.heap.objs.size+1) scope.names []).lookup y.1).isSome=true):=by
  rintro⟨n,v⟩ hy;rcases S.par n (zdX hy).1 with q|q
  ·exact .inl q
  ·exact .inr ⟨q,PySem.W.cellsFrom_some _ _ _ (.inl q)⟩
 refine codeAny_call_function hr.depth (KX _ _ lk) rfl S.co S.gen rfl (PySem.W.codeRec_of KX ah) (hb _ _ _ _ ?_);refine wpAny_newFunctionEnv_cells S.kind aa λenv he s1 x=>?_
 subst he;refine⟨ae.keeps x.toInCall.keep,codeAny_func ?_⟩;obtain⟨t,ht,hq⟩:=Y A z s H vs Q E (hr.deeper _) hsp;have I:Inv (i8 CX P w K mg base N B scope f F A z s H E) [] (start N vs) H s1:=HS S hr.hd e0 hl r x;refine za7 (ht [] s1 (start N vs) H _ I hq) (λfl s' hs=>?_) λe s' hs=>hs
 have fin:∀ {U:St} {H':Hp} {v:V} {u:Value},Inv (i8 CX P w K mg base N B scope f F A z s H E) [] U H' s'->RelV v u->Q v H'->CE z P w H s Q u s':=
  λ{U H' v u} J rv q=>⟨v,H',J.os,J.bare,J.base,J.hok,rv,q⟩
 cases fl with
 | ret u=>
  obtain⟨v,U,H',J,rv,q⟩:=hs;exact fin J rv q
 | next=>
  obtain⟨U,H',J,q⟩:=hs;exact fin (v:=V.non) (u:=za5) J rfl q
 | brk=>
  obtain⟨_,_,_,q⟩:=hs;exact za8 q
 | cont=>
  obtain⟨_,_,_,q⟩:=hs;exact za8 q
section
variable {X:Cx}{x:Str}{p pos:Pos}{e:Expr}{es:List Expr}{t:TA}{id T:String}{r:List V->Hp->VK->Prop}
def qw(r:List V->Hp->VK->Prop)(t:TA):TE:=λσ H Q=>t σ H λvs H1=>r vs H1 Q
theorem y8(B:CallR X (.builtin id) r)(F:Gl X x)(J:X.mg x=none)(hv:zaH x=some (.builtin id))(W:PA X (e::es) t)(G:x ≠ "__name__" := by decide)(q:(x == ("__debug__" : Str))=false:=by decide)
  (N:zag (e::es) X.env=(false,eval e X.env)::zag es X.env:=by rfl) (z:(zaG pos (zag es X.env)).any (·.1)=false:=by rfl):PE X (.Call (.Name x p) (e::es) [] pos) (qw r t):=by
 intro pins s σ H Q I h;refine zdi (lS I F J hv ?_ G q);exact PyProof.Rows.callWith_builtin1 (cS (W pos pins s σ H _ I h) λY U ⟨vs,H1,M,r1,q1⟩=>B pins U σ H1 vs Y Q M r1 q1) N z
theorem kN(B:CallR X (.type T) r)(F:Gl X x)(J:X.mg x=none)(hv:zaH x=some (.type T))(W:PA X (e::es) t)(G:x ≠ "__name__" := by decide)(q:(x == ("__debug__" : Str))=false:=by decide)
  (N:zag (e::es) X.env=(false,eval e X.env)::zag es X.env:=by rfl) (z:(zaG pos (zag es X.env)).any (·.1)=false:=by rfl):PE X (.Call (.Name x p) (e::es) [] pos) (qw r t):=by
 intro pins s σ H Q I h;refine zdi (lS I F J hv ?_ G q);exact zcP (cS (W pos pins s σ H _ I h) λY U ⟨vs,H1,M,r1,q1⟩=>B pins U σ H1 vs Y Q M r1 q1) N z
end
end L2
namespace HT
open PySem PyProof.Rows
noncomputable def lexLt:List Int->List Int->Bool
 | [],[]=>false
 | [],_::_=>true
 | _::_,[]=>false
 | x::xs,y::ys=>if x=y then lexLt xs ys else decide (x<y)
theorem CW(x y:Int)(xs ys:List Int):lexLt (x::xs) (y::ys)=if x=y then lexLt xs ys else decide (x<y):=rfl
theorem uP:lexLt [] []=false:=rfl
theorem rE(y:Int)(ys:List Int):lexLt [] (y::ys)=true:=rfl
theorem rB(x:Int)(xs:List Int):lexLt (x::xs) []=false:=rfl
theorem LI(A:zan)(s:zab)(a:Int)(t:Tok)(c:Int)(u:Tok):∃e,zcR A s (.int a t) (.int c u) e/\(e=true↔a=c):=
 ⟨(a == c),SeqAt.EqAt.int_int a t c u,by simp⟩
theorem LC(A:zan)(s:zab)(a:Int)(t:Tok)(c:Int)(u:Tok)(prog:zah)(w:World)(E:Value->zab->Prop)(Q:Value->zab->Prop)(h:Q (.bool (decide (a<c))) s) :
  wpAny (model prog w) A (richCompare .Lt (.int a t) (.int c u)) Q E s:=
 (PyProof.Rows.lt_int h:wpAny (model prog w) A (zay .Lt (.int a t) (.int c u)) Q E s)
section
open PySem.SeqAt
open PySem.AutoSeq1 (wpAny_loadPart')
open PySem.MeetsSeq PySem.MeetsSeq2 PySem.MeetsSeq3
theorem uT(l b:Addr)(items z:Array Value)(n n2:Nat)(dd ad:Option Addr)(sl ae:Array (Option Value))(ns ms:List Int)(hi:zbh items.toList ns)(hj:zbh z.toList ms) :
  Meets (zb0.«tuple.__lt__» ⟨[.ref l,.ref b],[]⟩)
   (λ_ R s => s.heap.get? l = some {cls := .type "tuple", dict:=dd, data := .seq items n, slots:=sl} /\ s.heap.get? b = some {cls := .type "tuple", dict:=ad, data := .seq z n2, slots:=ae} /\
    R (.ok (.ret (.bool (lexLt ns ms)))) s):=
 .of_wp λprog w A R s h=>by
  obtain⟨hp,g,d,tk,os⟩:=s;obtain⟨hl,hb,h⟩:=h;have f2:=AutoSeq1.sub_tuple_tuple;have z1:items.size=ns.length:=by rw[<- hi.length];simp
  have z2:z.size=ms.length:=by rw[<- hj.length];simp
  wp_walk using zbV hl,zbV hb,zcN _ (λrest b s'=>b.1=none/\s'=⟨hp,g,d,tk,os⟩/\∃(vs ws:List Value) (F G:List Int),rest=vs.zip ws /\
   zbh vs F/\zbh ws G/\F.length+z.size=G.length+items.size/\R (.ok (.ret (.bool (lexLt F G)))) ⟨hp,g,d,tk,os⟩) _
  case turn=>
   rintro⟨y,x⟩ rest b s' ⟨W,rfl,vs,ws,F,G,J,Y,M,B,N⟩;cases Y with
   | nil=>rw[List.zip_nil_left]at J;cases J
   | cons a t hvi'=>
    cases M with
    | nil=>rw[List.zip_nil_right]at J;cases J
    | cons c u hwi'=>
     rw[zdZ]at J;injection J with hyx hrest
     injection hyx with hy hx
     subst hy hx;rw[CW]at N;simp only[zaz]at B;obtain⟨e,he,U⟩:=LI A.in1 ⟨hp,g,d,tk,os⟩ a t c u;refine zaa (he prog w _ _ ?_);cases e with
     | true=>
      rw[if_pos (U.mp rfl)]at N
      wp_walk
      exact⟨rfl,rfl,_,_,_,_,hrest,hvi',hwi',by lia,N⟩
     | false=>
      rw[if_neg (λq=>absurd (U.mpr q) zaA)]at N;have af:=LC A.in1 ⟨hp,g,d,tk,os⟩ a t c u prog w
      wp_walk using af
      exact⟨_,rfl,by simpa using N⟩
  case fin=>
   rintro⟨b1,b2⟩ s' ⟨W,rfl,vs,ws,F,G,J,Y,M,B,N⟩;simp only at W;subst W;have hv:lexLt F G=decide (items.size<z.size):=by
    cases Y with
    | nil=>
     cases M with
     | nil=>
      simp only[zbF]at B;rw[uP];exact(decide_eq_false (by lia)).symm
     | cons c u hw=>
      simp only[zbF,zaz]at B;rw[rE];exact(decide_eq_true (by lia)).symm
    | cons a t hv=>
     cases M with
     | nil=>
      simp only[zbF,zaz]at B;rw[rB];exact(decide_eq_false (by lia)).symm
     | cons c u hw=>
      rw[zdZ]at J;cases J
   rw[hv]at N
   wp_walk
   exact⟨_,rfl,by simpa[Builtin.Tuple.tupleCompareSizes]using N⟩
  case h=>
   exact⟨rfl,rfl,items.toList,z.toList,ns,ms,rfl,hi,hj,by lia,h⟩
end
section
variable {prog:zah}{w:World}{A:zan}{E:Value->zab->Prop}{s:zab}
theorem B1(hl:IsTup s.heap l items)(hb:IsTup s.heap b items2)(hi:zbh items.toList ns)(hj:zbh items2.toList ms)
  (hu:A.units<cLine) (h:Q (.bool (lexLt ns ms)) s):wpAny (model prog w) A (zay .Lt (.ref l) (.ref b)) Q E s:=by
 obtain⟨⟨cls,dd,data,sl⟩,U,N,n,hd⟩:=id hl;obtain⟨⟨W,G,M,J⟩,q,B,Y,z⟩:=id hb;simp only at N hd B z;subst N hd B z;exact richCompare_meets_room (op:=.Lt) ⟨_,U,rfl⟩ ⟨_,q,rfl⟩ PySem.F.slot_tuple_lt PySem.F.entry_tuple_lt (PySem.F.args_tuple_lt_2 _ _) (uT l b items items2 n Y dd G sl J ns ms hi hj)
  ⟨U,q,show zcK (lexLt ns ms)≠Value.notImplemented/\Q (.bool (lexLt ns ms)) s from⟨(λx=>nomatch x),h⟩⟩ hu
theorem QB(ht:IsTup s.heap t vs.toArray)(hb:IsTup s.heap b ws.toArray)(hv:vs≠[])
  (h1:ws=[]->Q (.ref t) s) (h2:ws≠[]->Q (.ref s.heap.objs.size) {s with heap:=s.heap.push {cls:=.type "tuple",data:=.seq (vs++ws).toArray} })
  (hsz:vs.length+ws.length<=zai):wpAny (model prog w) A (zaL .Add (.ref t) (.ref b)) Q E s:=by
 obtain⟨⟨cls,Y,data,W⟩,J,N,n,hd⟩:=id ht;obtain⟨⟨ab,z,M,B⟩,q,G,U,F⟩:=id hb;simp only at N hd G F;subst N hd G F;have e:vs.toArray++ws.toArray=(vs++ws).toArray:=by simp
 by_cases hw:ws=[]
 ·exact concat_meets ⟨_,J,rfl⟩ ⟨_,q,rfl⟩ zd0 seq_tuple_add zd1 zd2 (zd3 _ _)
   (tuple_addW1 t b vs.toArray ws.toArray n U Y z W B (by simpa using hv) (by simp[hw])) ⟨J,q,h1 hw⟩
 ·refine concat_meets ⟨_,J,rfl⟩ ⟨_,q,rfl⟩ zd0 seq_tuple_add zd1 zd2 (zd3 _ _)
   (tuple_addW2 t b vs.toArray ws.toArray n U Y z W B (by simpa using hv) (by simpa using hw) (by rw[zax,zax];exact hsz)) ⟨J,q,?_⟩
  rw[e];exact h2 hw
noncomputable def sIx(n d:Nat):Option Int->Nat
 | none=>d
 | some v=>if v<0 then(v+(n:Int)).toNat else min v.toNat n
theorem UY(n d:Nat)(hd:d<=n)(o:Option Int):sIx n d o<=n:=by
 cases o with
 | none=>exact hd
 | some v=>
  show(if v<0 then(v+(n:Int)).toNat else min v.toNat n)<=n;by_cases q:v<0
  ·rw[if_pos q];lia
  ·rw[if_neg q];exact Nat.min_le_right _ _
theorem FE(v:Int)(n d:Nat):(if v<0 then max (v+(n:Int)) 0 else min v (n:Int))=((sIx n d (some v):Nat):Int):=by
 show(if v<0 then max (v+(n:Int)) 0 else min v (n:Int))=(((if v<0 then(v+(n:Int)).toNat else min v.toNat n):Nat):Int);by_cases q:v<0
 ·simp only[if_pos q];lia
 ·simp only[if_neg q];lia
theorem CD(lo hi:Option Int)(n:Nat):zd4 lo hi 1 (n:Int)=(((sIx n 0 lo:Nat):Int),((sIx n n hi:Nat):Int)):=by
 have h1:¬ ((1:Int)<0):=by lia
 unfold zd4;simp only[h1,if_false];refine Prod.ext ?_ ?_
 ·cases lo with
  | none=>rfl
  | some v=>exact FE v n 0
 ·cases hi with
  | none=>rfl
  | some v=>exact FE v n n
theorem CI(i j:Nat):zdl (i:Int) (j:Int) 1=j-i:=by
 unfold zdl;have h1:(1:Int)>0:=by lia
 simp only[h1,if_true,Int.ediv_one];split <;> lia
theorem sM(p:zbG v o)(h:Q o s):wpAny (model prog w) A (Builtin.Slice.slicePartIndex v) Q E s:=by
 cases p with
 | none=>exact slicePart_none h
 | int i t=>exact slicePart_int h
theorem hW{G:Addr}{F B:Value}{lo hi:Option Int}{n:Nat}{Q:Int×Int×Nat->zab->Prop}(hs:s.heap.IsSliceOf G F B .none)(J:zbG F lo)(N:zbG B hi)
  (h:Q (((sIx n 0 lo:Nat):Int),1,sIx n n hi-sIx n 0 lo) s):wpAny (model prog w) A (Builtin.Slice.sliceApplied (.ref G) (pure (n:Int))) Q E s:=by
 obtain⟨U,z,M,q⟩:=id hs;unfold Builtin.Slice.sliceApplied Builtin.Slice.sliceFields;refine zaa (zaa (zaQ z q (x:=F) rfl (zaa (zaQ z q (x:=B) rfl (zaa (zaQ z q (x:=.none) rfl (zaf ?_)))))));refine zaa (slicePart_none ?_);show wpAny _ _ (if((1:Int) == 0)=true then _ else _) _ _ s;rw[if_neg (by decide)];refine zaa (sM J (zaa (sM N (zaa (zaf ?_)))));show wpAny _ _ (match zd4 lo hi 1 (n:Int)with|(lo,hi)=>pure (lo,(1:Int),zdl lo hi 1)) _ _ s;rw[CD lo hi n];show wpAny _ _ (pure (((sIx n 0 lo:Nat):Int),(1:Int),zdl ((sIx n 0 lo:Nat):Int) ((sIx n n hi:Nat):Int) 1)) _ _ s;rw[CI];exact zaf h
theorem K8(xs:Array Value)(i k:Nat):((zas k).filterMap λ(m:Nat)=>xs[((i:Int)+(m:Int)*1).toNat]?).toArray=((xs.toList.drop i).take k).toArray:=by
 have e:(λ(m:Nat)=>xs[((i:Int)+(m:Int)*1).toNat]?)=λm=>xs[i+m]?:=by
  funext m;have:((i:Int)+(m:Int)*1).toNat=i+m:=by lia
  rw[this]
 rw[e];have:=pick_run xs i k;rw[List.filterMap_map]at this;have q:((λx=>xs[x]?) ∘ λx=>i+x)=λm=>xs[i+m]?:=rfl
 rw[q]at this;rw[this]
theorem mF{t G:Addr}{items:Array Value}{W U:Value}{lo hi:Option Int}{Q:Value->zab->Prop}(B:IsTup s.heap t items)(hs:s.heap.IsSliceOf G W U .none)(pl:zbG W lo)(pu:zbG U hi)
  (hw:¬ (sIx items.size 0 lo=0/\sIx items.size items.size hi=items.size))
  (h:Q (.ref s.heap.objs.size) {s with heap:=s.heap.push {cls:=.type "tuple",data:=.seq ((items.toList.drop (sIx items.size 0 lo)).take (sIx items.size items.size hi-sIx items.size 0 lo)).toArray} })
  (hsz:items.size<=zai):wpAny (model prog w) A (zbv (.ref t) (.ref G)) Q E s:=by
 have z:sizeOk (.seq ((items.toList.drop (sIx items.size 0 lo)).take (sIx items.size items.size hi-sIx items.size 0 lo)).toArray):=by
  show((items.toList.drop (sIx items.size 0 lo)).take (sIx items.size items.size hi-sIx items.size 0 lo)).toArray.size<=zai;rw[zax,zbU,zd5,zbQ]
  lia
 have hj:sIx items.size items.size hi<=items.size:=UY _ _ (zaj _) hi;obtain⟨os,N,J,Y⟩:=id hs;have F:s.TypeIs (.ref G) "slice" := ⟨os,N,J⟩;unfold zbv
 try with_reducible refine zbB ?_
 first|refine zaa (zaf ?_)|skip
 refine zaa (wpAny_sequenceKey B.typeIs (by decide) ?_);refine zaa (zbH (name:=zbi "__getitem__") B.typeIs zdm
  (zbj zdm B.typeIs entry_tuple_getitem ?_ (args_tuple_getitem _ _)))
 show wpAny _ _ (zdN (.ref t) >>= _) _ _ s;refine zaa (tupleItemsOf_ B ?_);refine zaa (zcA F ?_);rw[if_pos (by decide)];refine zaa (hW hs pl pu ?_);have M:¬ ((((sIx items.size 0 lo:Nat):Int) == 0 && (1:Int) == 1 && (sIx items.size items.size hi-sIx items.size 0 lo) == items.size)=true):=by
  intro q;rw[zaP,zaP]at q;have q1:((sIx items.size 0 lo:Nat):Int)=0:=eq_of_beq q.1.1;have q2:sIx items.size items.size hi-sIx items.size 0 lo=items.size:=eq_of_beq q.2;exact hw ⟨by lia,by lia⟩
 show wpAny _ _ (if(((sIx items.size 0 lo:Nat):Int) == 0 && (1:Int) == 1 && (sIx items.size items.size hi-sIx items.size 0 lo) == items.size)=true then _ else _) _ _ s;rw[if_neg M,K8]
 first
  | exact zaa (m:=zdn _) (zbI (zaf ⟨_,rfl,zaf h⟩) z)
  | exact zaa (m:=zdn _) (zbI (zaa (zaf (zaf ⟨_,rfl,zaf h⟩))) z)
  | exact zaa (zaa (m:=zdn _) (zbI (zaf (zaf ⟨_,rfl,zaf h⟩)) z))
  | exact zaa (zaa (m:=zdn _) (zbI (zaf ⟨_,rfl,zaf h⟩) z))
end
end HT
namespace L2
open PySem PySem.Spec PyProof.Rows
abbrev TO:=St->Hp->(Option Int->Hp->Prop)->Prop
def PO(X:Cx)(e:Option Expr)(t:TO):Prop:=
 ∀(pins:List (Addr×Obj)) (s:zab) (σ:St) (H:Hp) (Q:Option Int->Hp->Prop),Inv X pins σ H s->t σ H Q->
  wpAny (model X.prog X.w) X.A (evalPart e X.env) (λu s'=>∃o H',Inv X pins σ H' s'/\zbG u o/\Q o H') X.xe s
def QW:TO:=λ_ H Q=>Q none H
def XN(t:TE):TO:=λσ H Q=>t σ H λx H1=>∃i,x=.int i/\Q (some i) H1
theorem intsAre_of:∀ {q:List Value},Vals (ns.map V.int) q->zbh q ns:=by
 induction ns with
 | nil=>intro q r;rw[zb8]at r;cases r;exact .nil
 | cons n ns ih=>
  intro q r;rw[zak]at r;cases r with
  | cons r1 r2=>
   obtain⟨t,e⟩:=r1;subst e;exact .cons n t (ih r2)
section
variable {X:Cx}{e:Expr}{te:TE}{lo hi:Option Expr}{tl th:TO}{pos p2:Pos}
theorem N8:PO X none QW:=by
 intro pins s σ H Q I h;rw[evalPart_none];exact zaf ⟨none,H,I,.none,h⟩
theorem OS(h:PE X e te):PO X (some e) (XN te):=by
 intro pins s σ H Q I hw;rw[evalPart_some];refine cS (h pins s σ H _ I hw) λu F ⟨x,H1,B,r1,z⟩=>?_
 obtain⟨i,rfl,q⟩:=z;obtain⟨t,rfl⟩:=r1;exact⟨some i,H1,B,.int i t,q⟩
def SlR(X:Cx)(r:V->Option Int->Option Int->Hp->VK->Prop):Prop:=
 ∀(pins:List (Addr×Obj)) (s:zab) (σ:St) (H:Hp) (x:V) (v vl vu:Value) (lo hi:Option Int) (sl:Addr) (Q:VK),Inv X pins σ H s->RelV x v->s.heap.IsSliceOf sl vl vu .none->zbG vl lo->zbG vu hi->r x lo hi H Q->
  ∃T id,typeLookup (.type T) "__getitem__" = pure (some (.builtin id))/\s.TypeIs v T/\wpAny (model X.prog X.w) X.A (zbv v (.ref sl)) (EP X pins σ Q) X.xe s
theorem SlR.or(h:SlR X r)(h':SlR X r'):SlR X (λx lo hi H Q=>r x lo hi H Q\/r' x lo hi H Q):=by
 intro pins s σ H x v G z lo hi F Q I M hs B J q;rcases q with q|q
 ·exact h pins s σ H x v G z lo hi F Q I M hs B J q
 ·exact h' pins s σ H x v G z lo hi F Q I M hs B J q
def tSl(r:V->Option Int->Option Int->Hp->VK->Prop)(te:TE)(tl th:TO):TE:=λσ H Q=>te σ H λx H1=>tl σ H1 λl H2=>th σ H2 λu q=>r x l u q Q
theorem LV(W:SlR X r)(he:PE X e te)(hl:PO X lo tl)(N:PO X hi th):PE X (.Subscript e (.Slice lo hi none p2) pos) (tSl r te tl th):=by
 intro pins s σ H Q I h;refine Subscript_ (cS (he pins s σ H _ I h) λv s1 ⟨x,H1,I1,r1,q1⟩=>?_);refine wpAny_Slice (cS (hl pins s1 σ H1 _ I1 q1) λF M ⟨l,H2,U,pl,q2⟩=>cS (N pins M σ H2 _ U q2) λB z ⟨u,G,Y,pu,q3⟩=>?_);rw[evalPart_none];refine zaf ?_;have J:Inv X pins σ G {z with heap:=z.heap.push {cls:=.type "slice",data:=.fields #[F,B,.none]} }:=Y.kept (t':=z.toks) λb ob q=>zal _ q
 obtain⟨T,id,hT,ht,hg⟩:=W pins {z with heap:=z.heap.push {cls:=.type "slice",data:=.fields #[F,B,.none]} } σ G x v F B l u z.heap.objs.size Q J r1 (Heap.IsSliceOf.new ..) pl pu q3;show wpAny (model X.prog X.w) X.A (subscriptTail e (.Slice lo hi none p2) v (.ref z.heap.objs.size)) (EP X pins σ Q) X.xe {z with heap:=z.heap.push {cls:=.type "slice",data:=.fields #[F,B,.none]} };exact tail_any (ops:=[.ref z.heap.objs.size,v]) ht hT hg (by with_unfolding_all rfl)
def uU(xs:List V)(lo hi:Option Int):List V:=(xs.drop (HT.sIx xs.length 0 lo)).take (HT.sIx xs.length xs.length hi-HT.sIx xs.length 0 lo)
theorem pL(xs:List V)(lo hi:Option Int):(uU xs lo hi).length<=xs.length:=by
 unfold uU;rw[zbU,zd5]
 lia
def ZW(K:zae):V->Option Int->Option Int->Hp->VK->Prop:=λx lo hi H Q=>∃a xs,x=.ref a/\SqT K H a xs /\
 ¬ (HT.sIx xs.length 0 lo=0/\HT.sIx xs.length xs.length hi=xs.length)/\∀p,H p=none->Q (.ref p) (upd H p (.tup (uU xs lo hi)))
theorem WH:SlR X (ZW X.K):=by
 intro pins s σ H x v vl U lo hi Y Q I N hs J M h;obtain⟨a,xs,rfl,hx,hw,q⟩:=h;cases N;obtain⟨B,r,G,F⟩:=I.tuple hx;have z:B.toArray.size=xs.length:=by rw[zax];exact r.length.symm
 refine⟨"tuple",_,PyProof.Rows.slot_tuple_getitem.lookup,G.typeIs,?_⟩;refine HT.mF G hs J M (by rw[z];exact hw) ?_ (by rw[z];exact F);rw[z];refine⟨.ref s.heap.objs.size,_,I.laid (t':=s.toks) (o:=.tup (uU xs lo hi)) (λb W q=>zal _ q) (zaj _) ?_,rfl,q _ (I.hok.fresh (zaj _))⟩;exact⟨zaK (pL xs lo hi) F,_,(r.drop (HT.sIx xs.length 0 lo)).take (HT.sIx xs.length xs.length hi-HT.sIx xs.length 0 lo),IsTupN.new _ _⟩
def qah(K:zae):R2:=λx y H Q=>∃a b ns ms,x=.ref a/\y=.ref b/\SqT K H a (ns.map V.int)/\SqT K H b (ms.map V.int)/\Q (.bl (HT.lexLt ns ms)) H
theorem VW(M:X.A.units<cLine):OpR X (zay .Lt) (qah X.K):=by
 intro pins s σ H x y v u Q I Y F h;obtain⟨a,b,ns,ms,rfl,rfl,N,U,q⟩:=h;cases Y;cases F;obtain⟨B,r1,W,_⟩:=I.tuple N;obtain⟨z,r2,p2,_⟩:=I.tuple U;have J:zbh B.toArray.toList ns:=intsAre_of r1;have G:zbh z.toArray.toList ms:=intsAre_of r2;exact HT.B1 W p2 J G M ⟨.bl (HT.lexLt ns ms),H,I,rfl,q⟩
def X1(K:zae):R2:=λx y H Q=>∃a b xs ys,x=.ref a/\y=.ref b/\SqT K H a xs/\SqT K H b ys/\xs≠[]/\xs.length+ys.length<=zai /\
 (ys=[]->Q (.ref a) H)/\(ys≠[]->∀p,H p=none->Q (.ref p) (upd H p (.tup (xs++ys))))
theorem Vals.nil_iff(r:Vals xs us):us=[]↔xs=[]:=by
 cases r with
 | nil=>simp
 | cons _ _=>simp
theorem QK:OpR X (zaL .Add) (X1 X.K):=by
 intro pins s σ H x y v u Q I rx G h;obtain⟨a,b,xs,ys,rfl,rfl,U,W,hx,B,M,N⟩:=h;cases rx;cases G;obtain⟨J,r1,Y,_⟩:=I.tuple U;obtain⟨F,r2,p2,_⟩:=I.tuple W;refine HT.QB Y p2 (λz=>hx (r1.nil_iff.mp z)) (λz=>⟨.ref a,H,I,rfl,M (r2.nil_iff.mp z)⟩) (λz=>?_) (by rw[<- r1.length,<- r2.length];exact B);refine⟨.ref s.heap.objs.size,_,I.laid (t':=s.toks) (o:=.tup (xs++ys)) (λb ob q=>zal _ q) (zaj _) ?_,rfl,N (λw=>z (r2.nil_iff.mpr w)) _ (I.hok.fresh (zaj _))⟩;exact⟨by rw[zbb];exact B,_,r1.append r2,IsTupN.new _ _⟩
end
noncomputable def NY(n:Nat)(i:Int):Option Nat:=if 0<=i then(if i<n then some i.toNat else none)else if -(n:Int)<=i then some (i+n).toNat else none
def gN{α:Type}(xs:List α)(i:Int):Option α:=(NY xs.length i).bind λj=>xs[j]?
theorem EL(h:NY n i=some j):seqIndex? i n=some j/\j<n/\-(n:Int)<=i/\i<n:=by
 unfold NY at h;by_cases q:0<=i
 ·rw[if_pos q]at h
  by_cases h1:i<n
  ·rw[if_pos h1]at h
   have e:i.toNat=j:=zaF h;exact⟨by rw[seqIndex_of q h1,e],by lia,by lia,h1⟩
  ·rw[if_neg h1]at h;cases h
 ·rw[if_neg q]at h
  by_cases h1:-(n:Int)<=i
  ·rw[if_pos h1]at h
   have e:(i+n).toNat=j:=zaF h;exact⟨by rw[seqIndex_neg (by lia) h1,e],by lia,h1,by lia⟩
  ·rw[if_neg h1]at h;cases h
theorem xJ{q:Type}{xs:List q}{i:Int}{v:q}(h:gN xs i=some v):∃j,seqIndex? i xs.length=some j/\xs[j]?=some v/\j<xs.length/\-(xs.length:Int)<=i/\i<xs.length:=by
 unfold gN at h;cases e:NY xs.length i with
 | none=>rw[e]at h;cases h
 | some j=>
  rw[e]at h;obtain⟨h1,h2,B,z⟩:=EL e;exact⟨j,h1,h,h2,B,z⟩
theorem bR{q:Type}{xs:List q}{j:Nat}{v:q}(h:xs[j]?=some v):gN xs (j:Int)=some v:=by
 have z:j<xs.length:=(List.getElem?_eq_some_iff.mp h).1;have e:NY xs.length (j:Int)=some j:=by
  unfold NY;rw[if_pos (by lia),if_pos (by lia)];simp
 unfold gN;rw[e];exact h
def xF(b:Expr):Prop:=∀o i,zdo b false o i=operate [o,i] (zbv o i)
def IxR(X:Cx)(r:R2):Prop:=
 ∀(value slice:Expr) (pins:List (Addr×Obj)) (s:zab) (σ:St) (H:Hp) (x y:V) (v u:Value) (Q:VK),Inv X pins σ H s->RelV x v->RelV y u->r x y H Q->
  zdo slice false v u=operate [v,u] (zbv v u)->wpAny (model X.prog X.w) X.A (subscriptTail value slice v u) (EP X pins σ Q) X.xe s
def MtR(X:Cx)(id:String)(r:V->List V->Hp->VK->Prop):Prop:=
 ∀(pins:List (Addr×Obj)) (s:zab) (σ:St) (H:Hp) (x:V) (xs:List V) (v:Value) (us:List Value) (Q:VK),Inv X pins σ H s->RelV x v->Vals xs us->r x xs H Q->
  wpAny (model X.prog X.w) X.A (call (.builtin id) (v::us)) (EP X pins σ Q) X.xe s
section
variable {X:Cx}{a b:Expr}{ta tb:TE}{pos:Pos}
theorem IxR.or(h:IxR X r)(h':IxR X r'):IxR X (λx y H Q=>r x y H Q\/r' x y H Q):=by
 intro value z pins s σ H x y v u Q I F B q hs;rcases q with q|q
 ·exact h value z pins s σ H x y v u Q I F B q hs
 ·exact h' value z pins s σ H x y v u Q I F B q hs
theorem MtR.or{id:String}{r z:V->List V->Hp->VK->Prop}(h:MtR X id r)(h':MtR X id z):MtR X id (λx xs H Q=>r x xs H Q\/z x xs H Q):=by
 intro pins s σ H x xs v F Q I B rs q;rcases q with q|q
 ·exact h pins s σ H x xs v F Q I B rs q
 ·exact h' pins s σ H x xs v F Q I B rs q
theorem Y7(J:IxR X r)(G:PE X a ta)(M:PE X b tb)(hs:xF b):PE X (.Subscript a b pos) (qo r ta tb):=by
 intro pins s σ H Q I h;exact Subscript_ (WW G M I h λv u B x y H2 F N z q=>J a b pins B σ H2 x y v u Q F N z q (hs _ _))
def Z3(K:zae):R2:=λx y H Q=>∃p xs i v,x=.ref p/\y=.int i/\SqL K H p xs/\gN xs i=some v/\Q v H
def ZN(K:zae):R2:=λx y H Q=>∃p xs i v,x=.ref p/\y=.int i/\SqT K H p xs/\gN xs i=some v/\Q v H
def Z5:R2:=λx y H Q=>∃z i c,x=.str z/\y=.int i/\z.length<=zai/\gN z.cps.toList i=some c/\Q (.str ⟨#[c]⟩) H
theorem PL:IxR X (Z3 X.K):=by
 intro value B pins s σ H x y v u Q I rx W h hs;obtain⟨p,xs,i,z,rfl,rfl,hq,he,q⟩:=h;cases rx;obtain⟨t,rfl⟩:=W;obtain⟨F,r,G,hz⟩:=I.list hq;obtain⟨j,h1,h2,h3,h4,Y⟩:=xJ he;obtain⟨w,N,M⟩:=r.get h2;have hl:=r.length;have hn:=tV;have fin:EP X pins σ Q w s:=⟨z,H,I,M,q⟩;by_cases U:0<=i
 ·have J:i.toNat=j:=by
   rw[seqIndex_of U Y]at h1;exact zaF h1
  exact item_listR G.isList U (by lia) (by rw[J];simpa using N) fin hs
 ·have J:(i+(F.toArray.size:Int)).toNat=j:=by
   rw[seqIndex_neg (by lia) h4]at h1;rw[zax,<- hl];exact zaF h1
  exact subscriptTail_builtinR (x:=w) G.isList.typeIs slot_list_getitem.lookup
   (wpAny_getItem_list_neg (Q:=λr s'=>r=w/\EP X pins σ Q r s') G.isList (by lia) (by rw[zax] <;> lia) (by lia) (by rw[J];simpa using N) ⟨rfl,fin⟩) hs
theorem VF:IxR X (ZN X.K):=by
 intro value B pins s σ H x y v u Q I rx J h hs;obtain⟨p,xs,i,z,rfl,rfl,U,Y,q⟩:=h;cases rx;obtain⟨t,rfl⟩:=J;obtain⟨M,r,G,hz⟩:=I.tuple U;obtain⟨j,h1,h2,h3,h4,h5⟩:=xJ Y;obtain⟨w,N,F⟩:=r.get h2;have W:=r.length;have hn:=tV;have fin:EP X pins σ Q w s:=⟨z,H,I,F,q⟩;exact subscriptTail_builtinR (x:=w) G.typeIs slot_tuple_getitem.lookup
  (getItem_tuple (j:=j) (Q:=λr s'=>r=w/\EP X pins σ Q r s') G (by lia) (by lia) (by rw[zax,<- W];exact h1) (by simpa using N) ⟨rfl,fin⟩) hs
theorem UB:IxR X Z5:=by
 intro value B pins s σ H x y v u Q I Y F h hs;obtain⟨z,i,c,rfl,rfl,hz,N,q⟩:=h;obtain⟨t,rfl⟩:=Y;obtain⟨t',rfl⟩:=F;obtain⟨j,h1,h2,h3,M,J⟩:=xJ N;have G:z.cps.toList.length=z.length:=by simp[Str.length]
 rw[G]at h1 M J;have hn:=tV;exact tail_any (typeIs_str s z t) slot_str_getitem.lookup (getItem_str (c:=c) (by
  have U:decide (i < -(2^63:Int))=false:=decide_eq_false (by lia);have W:decide (i ≥ 2^63)=false:=decide_eq_false (by lia);rw[U,W,Bool.or_false]) (by rw[h1];simpa using h2) ⟨.str ⟨#[c]⟩,H,I.tok _,⟨_,rfl⟩,q⟩) hs
def rIx(K:zae):R2:=λx y H Q=>Z3 K x y H Q\/ZN K x y H Q\/Z5 x y H Q
theorem VR:IxR X (rIx X.K):=PL.or (VF.or UB)
theorem BO(q:List Value)(n j:Nat)(u:Value):zcS (·.setIfInBounds j u) {cls:=.type "list",data:=.seq q.toArray n}={cls:=.type "list",data:=.seq (q.set j u).toArray n}:=by
 simp[zcS]
theorem Inv.lst{pins:List (Addr×Obj)}{σ:St}{H:Hp}{s:zab}{p:Addr}{xs:List V}(I:Inv X pins σ H s)(h:H p=some (.lst xs)) :
  ∃(q:List Value) (n:Nat),Vals xs q/\s.heap.get? p=some {cls:=.type "list",data:=.seq q.toArray n}/\xs.length<=zai:=by
 obtain⟨z,q,n,r,e⟩:=I.hok p _ h;exact⟨q,n,r,e,z⟩
theorem Inv.lstUpd{pins:List (Addr×Obj)}{xs ys:List V}{z its':List Value}{n B:Nat}{f:Obj->Obj}(I:Inv X pins σ H s)(h:H p=some (.lst xs))
  (M:s.heap.get? p=some {cls:=.type "list",data:=.seq z.toArray n}) (F:f {cls:=.type "list",data:=.seq z.toArray n}={cls:=.type "list",data:=.seq its'.toArray B}) (r:Vals ys its') (G:ys.length<=zai) (t:Nat) :
  Inv X pins σ (upd H p (.lst ys)) {s with heap:=s.heap.update p f,toks:=t}:=by
 have e:(s.heap.update p f).get? p=some {cls:=.type "list",data:=.seq its'.toArray B}:=by
  rw[zd6 f M (by rw[F] <;> rfl),F]
 refine I.write (x:=p) (e:=p) (by rw[h];trivial) (.inl rfl) (λb u J q=>(Heap.get?_update_other _ _ (zaU J)).trans q) ⟨_,e⟩ ?_;exact⟨G,its',B,r,e⟩
def XX:V->V->V->Hp->(Hp->Prop)->Prop:=λo i v H Q=>∃p xs k j,o=.ref p/\i=.int k/\H p=some (.lst xs)/\NY xs.length k=some j/\Q (upd H p (.lst (xs.set j v)))
theorem set_list:RS X XX:=by
 intro pins s σ H o i v ov iv u Q I ro ri rv h;obtain⟨p,xs,k,j,rfl,rfl,J,hj,q⟩:=h;cases ro;obtain⟨t,rfl⟩:=ri;obtain⟨z,n,r,G,hz⟩:=I.lst J;obtain⟨h1,h2,M,N⟩:=EL hj;have B:=r.length;have hn:=tV;have Y:Inv X pins σ (upd H p (.lst (xs.set j v))) {s with heap:=s.heap.update p (zcS (·.setIfInBounds j u))}:=
  I.lstUpd J G (BO z n j u) (r.set rv j) (by rw[zcT];exact hz) s.toks
 by_cases U:0<=k
 ·have F:k.toNat=j:=by
   rw[seqIndex_of U N]at h1;exact zaF h1
  exact PySem.W.ki_setAt G U (by lia) (by rw[zax,<- B];exact N) (by rw[F];exact⟨_,Y,q⟩)
 ·have F:(k+(z.toArray.size:Int)).toNat=j:=by
   rw[seqIndex_neg (by lia) M]at h1;rw[zax,<- B];exact zaF h1
  exact PySem.W.ki_setBack G (by lia) (by rw[zax,<- B];exact M) (by lia) (by rw[F];exact⟨_,Y,q⟩)
theorem wM(lo hi:Option Int)(n:Nat):(zbJ lo hi none n).1=((HT.sIx n 0 lo:Nat):Int)/\(zbJ lo hi none n).2.1=((HT.sIx n n hi:Nat):Int)/\(zbJ lo hi none n).2.2=1:=by
 refine⟨?_,?_,rfl⟩
 ·cases lo with
  | none=>simp[zbJ,HT.sIx]
  | some i=>
   simp only[zbJ,HT.sIx,Option.getD_none,show(1:Int)>0 by decide,if_true];by_cases h:i<0
   ·simp only[h,if_true] <;> lia
   ·simp only[h,if_false] <;> lia
 ·cases hi with
  | none=>simp[zbJ,HT.sIx]
  | some i=>
   simp only[zbJ,HT.sIx,Option.getD_none,show(1:Int)>0 by decide,if_true];by_cases h:i<0
   ·simp only[h,if_true] <;> lia
   ·simp only[h,if_false] <;> lia
theorem uS(q:List Value)(lo hi:Option Int):slicePick q.toArray lo hi none=((q.drop (HT.sIx q.length 0 lo)).take (HT.sIx q.length q.length hi-HT.sIx q.length 0 lo)).toArray:=by
 obtain⟨h1,h2,z⟩:=wM lo hi q.toArray.size;unfold slicePick;rw[h1,h2,z];simp only[sliceRange_one,pick_run,zax] <;> rfl
def qag(K:zae):V->Option Int->Option Int->Hp->VK->Prop:=λx lo hi H Q=>∃a xs,x=.ref a/\SqL K H a xs/\∀p,H p=none->Q (.ref p) (upd H p (.lst (uU xs lo hi)))
theorem OM:SlR X (qag X.K):=by
 intro pins s σ H x v vl U lo hi Y Q I N hs J M h;obtain⟨a,xs,rfl,hx,q⟩:=h;cases N;obtain⟨F,r,B,G⟩:=I.list hx;have z:=r.length;refine⟨"list",_,slot_list_getitem.lookup,B.isList.typeIs,?_⟩;refine wpAny_getItem_list_slice B.isList hs J M .none (by simp) ?_ (by rw[zax] <;> lia);rw[uS,<- z];refine⟨.ref s.heap.objs.size,_,I.laid (t':=s.toks) (o:=.lst (uU xs lo hi)) (λb W q=>zal _ q) (zaj _) ?_,rfl,q _ (I.hok.fresh (zaj _))⟩;exact⟨zaK (pL xs lo hi) G,_,0,(r.drop (HT.sIx xs.length 0 lo)).take (HT.sIx xs.length xs.length hi-HT.sIx xs.length 0 lo),zaD _ rfl⟩
theorem wG:OpR X (zay .NotIn) (λx y H Q=>∃i j,x=.str i/\y=.str j/\Q (.bl (!(!(Builtin.Str.occurrences j i 0 j.length 1).isEmpty))) H):=by
 intro pins s σ H x y v u Q I B z h;obtain⟨i,j,rfl,rfl,q⟩:=h;obtain⟨t,rfl⟩:=B;obtain⟨t',rfl⟩:=z;exact notIn_str ⟨.bl _,H,I,rfl,q⟩
theorem CallR.or(h:CallR X f r)(h':CallR X f r'):CallR X f (λxs H Q=>r xs H Q\/r' xs H Q):=by
 intro pins s σ H xs z Q I rs q;rcases q with q|q
 ·exact h pins s σ H xs z Q I rs q
 ·exact h' pins s σ H xs z Q I rs q
theorem wJ:CallR X (.type "list") (λxs H Q=>∃p ys,xs=[.ref p]/\(SqL X.K H p ys\/SqT X.K H p ys)/\∀l,H l=none->Q (.ref l) (upd H l (.lst ys))):=by
 intro pins s σ H xs us Q I r h;obtain⟨p,ys,rfl,G,q⟩:=h;obtain⟨u,rfl,rx⟩:=vals1 r;cases rx;have fin:∀(z:List Value),Vals ys z->ys.length<=zai->∀(h':Heap) (F:Nat),(∀b o',s.heap.get? b=some o'->h'.get? b=some o')->
   h'.get? s.heap.objs.size=some {cls:=.type "list",dict:=none,data:=.seq z.toArray F,slots:=#[]}->EP X pins σ Q (.ref s.heap.objs.size) {s with heap:=h'}:=λz B J h' F M e=>
  ⟨.ref s.heap.objs.size,_,I.laid (t':=s.toks) M (zaj _) (show ObjOk X.prog X.w _ h' _ (.lst ys)from⟨J,z,F,B,e⟩),rfl,q _ (I.hok.fresh (zaj _))⟩
 rcases G with G|G
 ·obtain⟨z,B,Y,J⟩:=I.list G
  have N:=B.length;obtain⟨o,W,U,n,hd⟩:=Y.isList;exact call_list_seq p (.inl rfl) W U hd (λh' F M e=>fin z B J h' F M e) (by simp only[zax] <;> lia)
 ·obtain⟨z,B,Y,J⟩:=I.tuple G
  have N:=B.length;obtain⟨o,W,U,n,hd⟩:=Y;exact call_list_seq p (.inr rfl) W U hd (λh' F M e=>fin z B J h' F M e) (by simp only[zax] <;> lia)
theorem uQ:CallR X (.type "tuple") (λxs H Q=>∃p ys,xs=[.ref p]/\((SqL X.K H p ys/\∀l,H l=none->Q (.ref l) (upd H l (.tup ys)))\/(SqT X.K H p ys/\Q (.ref p) H))):=by
 intro pins s σ H xs us Q I r h;obtain⟨p,ys,rfl,h⟩:=h;obtain⟨u,rfl,Y⟩:=vals1 r;cases Y;rcases h with⟨F,q⟩|⟨F,q⟩
 ·obtain⟨z,B,G,J⟩:=I.list F
  have N:=B.length;refine call_tuple_list G.isList (λh' U=>?_) (by simp only[zax] <;> lia);have M:Inv X pins σ H {s with heap:=h'}:=I.kept (t':=s.toks) U;have W:Inv X pins σ (upd H h'.objs.size (.tup ys)) {s with heap:=h'.push {cls:=.type "tuple",data:=.seq z.toArray} }:=
   M.laid (t':=s.toks) (λb o e=>zal _ e) (zaj _) (show ObjOk X.prog X.w _ _ _ (.tup ys)from⟨J,z,B,IsTupN.new _ _⟩)
  exact⟨.ref h'.objs.size,_,W,rfl,q _ (M.hok.fresh (zaj _))⟩
 ·obtain⟨z,B,G,J⟩:=I.tuple F
  exact call_tuple_same G ⟨.ref p,H,I,rfl,q⟩
def tyV(K:zae)(T:String)(x:V)(H:Hp):Prop:=match x with
 | .str _=>T = "str"
 | .int _=>T = "int"
 | .ref p=>(T = "list" /\ ∃xs,SqL K H p xs)\/(T = "tuple" /\ ∃o,K.lookup p=some o/\o.cls=.type "tuple" /\ o.dict=none) \/
   (T = "dict" /\ ((∃kvs,H p=some (.dK kvs))\/∃kvs,H p=some (.dT kvs)))\/(T = "set" /\ ∃S n,H p=some (.set S n))
 | _=>False
theorem VU(I:Inv X pins σ H s)(r:RelV x v)(ty:tyV X.K T x H) :
  s.TypeIs v T/\∀a,v=.ref a->∃F,s.heap.get? a=some F/\F.dict=none:=by
 cases x with
 | str z=>
  obtain⟨t,rfl⟩:=r;cases(show T = "str" from ty);exact⟨typeIs_str s z t,λ_ e=>nomatch e⟩
 | int i=>
  obtain⟨t,rfl⟩:=r;cases(show T = "int" from ty);exact⟨typeIs_int s i t,λ_ e=>nomatch e⟩
 | ref p=>
  cases r;rcases ty with⟨rfl,xs,N⟩|⟨rfl,o,q,J,hd⟩|⟨rfl,q⟩|⟨rfl,S,n,q⟩
  ·obtain⟨M,_,G,_⟩:=I.list N
   refine⟨G.isList.typeIs,λa e=>?_⟩;cases e;obtain⟨o,n,e,c,hd,_⟩:=G;exact⟨o,e,hd⟩
  ·refine⟨⟨o,I.kIn p o q,J⟩,λa e=>?_⟩
   cases e;exact⟨o,I.kIn _ o q,hd⟩
  ·have z:∃o,s.heap.get? p=some o/\o.ExactDict:=by
    rcases q with⟨kvs,q⟩|⟨kvs,q⟩
    ·obtain⟨_,_,_,_,o,_,_,e,ex,_⟩:=I.hok p _ q
     exact⟨o,e,ex⟩
    ·obtain⟨_,_,_,_,o,_,_,e,ex,_⟩:=I.hok p _ q
     exact⟨o,e,ex⟩
   obtain⟨o,e,ex⟩:=z;refine⟨⟨o,e,ex.1⟩,λa B=>?_⟩;cases B;exact⟨o,e,ex.2.1⟩
  ·obtain⟨o,_,_,_,e,ex,_⟩:=I.hok p _ q
   refine⟨⟨o,e,ex.1⟩,λa B=>?_⟩;cases B;exact⟨o,e,ex.2.1⟩
 | _=>exact za8 ty
def XB(K:zae)(T:String)(r:V->List V->Hp->VK->Prop)(to:TE)(t:TA):TE:=λσ H Q=>to σ H λx H1=>tyV K T x H1/\t σ H1 λxs H2=>r x xs H2 Q
variable {o e:Expr}{es:List Expr}{to:TE}{t:TA}{name:Str}{apos cpos:Pos}{T id:String}{r:V->List V->Hp->VK->Prop}
theorem uJ(pa:PlainAttrs T)(F:Slot T name id)(J:typeOf (.builtin id)=pure (.type "method_descriptor"))(W:MtR X id r)(ho:PE X o to)(ha:PA X (e::es) t)
  (B:zaN o name X.env (eval o X.env)=eval o X.env:=by rfl)
  (G:((zaG cpos (zag (e::es) X.env)).all (λx => !x.1) && (backToKw cpos (keywordEach [] X.env)).all (λx => x.1.isSome)
   && decide ((e::es).length+([]:List zcm).length+(if([]:List zcm).isEmpty then 0 else 1)<30))=true:=by rfl)
  (z:(apos.endLine == cpos.line)=true:=by rfl) (hs:zag (e::es) X.env=(false,eval e X.env)::zag es X.env:=by rfl) (q:(zaG cpos (zag es X.env)).any (·.1)=false:=by rfl) :
  PE X (.Call (.Attribute o name apos) (e::es) [] cpos) (XB X.K T r to t):=by
 intro pins s σ H Q I h;refine wpAny_Call_method_late B G z rfl (cS (ho pins s σ H _ I h) λv s1 ⟨x,H1,M,r1,ty,U⟩=>?_);obtain⟨h1,h2⟩:=VU M r1 ty;refine⟨T,id,pa,F,J,h1,h2,?_⟩;have N:=ha cpos pins s1 σ H1 _ M U;rw[hs]at N ⊢;refine Calls.callWith_builtin (by show(false || (zaG cpos (zag es X.env)).any (·.1))=false;rw[q] <;> rfl) (Calls.evalArgs_plain ?_);exact cS N λus Y ⟨vs,H2,I2,r2,q2⟩=>W pins Y σ H2 x vs v us Q I2 r1 r2 q2
end
def qf(X:Cx)(id:String)(r:V->List V->Hp->VK->Prop):Prop:=
 ∀(pins:List (Addr×Obj)) (s:zab) (σ:St) (H:Hp) (x:V) (xs:List V) (v:Value) (us:List Value) (Q:VK),Inv X pins σ H s->RelV x v->Vals xs us->r x xs H Q->
  wpAny (model X.prog X.w) X.A (call (.builtin id) (v::us)) (EP X pins σ Q) X.xe s
theorem Vals.one:∀ {x:V} {us:List Value},Vals [x] us->∃u,us=[u]/\RelV x u
 | _,_,.cons r .nil=>⟨_,rfl,r⟩
theorem Vals.reverse(h:Vals xs us):Vals xs.reverse us.reverse:=by
 induction h with
 | nil=>exact .nil
 | cons r t ih=>rw[zd7,zd7];exact Vals.append ih (.cons r .nil)
theorem Vals.rep(h:Vals xs us):∀k:Nat,Vals (zcn k xs).flatten (zcn k us).flatten
 | 0=>.nil
 | k+1=>by
  rw[zdp,zdp,zdq,zdq];exact Vals.append h (Vals.rep h k)
section
variable {X:Cx}{pins:List (Addr×Obj)}{σ:St}{H:Hp}{s:zab}{l b:Addr}{xs ys zs:List V}
theorem Inv.lset{z its':List Value}{n:Nat}{f:Array Value->Array Value}{t':Nat}(I:Inv X pins σ H s)(B:H l=some (.lst xs))
  (e:s.heap.get? l=some {cls:=.type "list",data:=.seq z.toArray n}) (J:f z.toArray=its'.toArray) (N:Vals ys its') (F:ys.length<=zai) :
  Inv X pins σ (upd H l (.lst ys)) {s with heap:=s.heap.update l (zcS f),toks:=t'}:=by
 have q:=PySem.IsL.update e f;rw[J]at q;refine I.write (x:=l) (e:=l) (by rw[B];exact trivial) (.inl rfl) (λU u M G=>(Heap.get?_update_other s.heap (zcS f) (zaU M)).trans G) ⟨_,q⟩ ?_;exact⟨F,its',_,N,q⟩
theorem Inv.lnew(I:Inv X pins σ H s)(B:Vals ys its)(z:ys.length<=zai) :
  Inv X pins σ (upd H s.heap.objs.size (.lst ys)) {s with heap:=s.heap.push {cls:=.type "list",data:=.seq its.toArray},toks:=t'}:=
 I.laid (λ_ _ q=>zal _ q) (zaj _) ⟨z,its,0,B,zaD _ rfl⟩
theorem Inv.fresh(I:Inv X pins σ H s):H s.heap.objs.size=none:=I.hok.fresh (zaj _)
theorem Inv.lstM(I:Inv X pins σ H s)(B:H l=some (.lst xs)):xs.length<=zai/\∃(q:List Value) (n:Nat),Vals xs q/\xs.length=q.length/\s.heap.get? l=some {cls:=.type "list",data:=.seq q.toArray n}:=by
 obtain⟨z,q,n,r,e⟩:=I.hok l _ B;exact⟨z,q,n,r,r.length,e⟩
theorem K5(h:n<=zai):zd8 n=false:=by
 unfold zd8;exact decide_eq_false (by lia)
end
section
variable {X:Cx}
def EZ:V->List V->Hp->VK->Prop:=λx vs H Q=>∃l xs y,x=.ref l/\vs=[y]/\H l=some (.lst xs)/\xs.length<zai/\Q .non (upd H l (.lst (xs++[y])))
theorem vC:qf X "list.append" EZ:=by
 intro pins s σ H x vs v Y Q I M N h;obtain⟨l,xs,y,rfl,rfl,G,W,q⟩:=h;cases M;obtain⟨u,rfl,J⟩:=N.one;obtain⟨z,B,n,r,U,e⟩:=I.lstM G;refine zcB F.slot_list_append ⟨_,e,rfl⟩ F.entry_list_append (F.args_list_append_2 _ _) (PySem.list_append l B.toArray n u (by rw[zax];lia)) ⟨e,?_⟩;refine⟨.non,_,I.lset (its':=B++[u]) G e (by simp) (r.append (.cons J .nil)) ?_,rfl,q⟩;rw[zbb,List.length_singleton]
 lia
end
section
variable {prog:zah}{w:World}{A:zan}{E:Value->zab->Prop}{s:zab}
end
section
variable {X:Cx}
end
section
variable {κ:Type}[DecidableEq κ]
noncomputable def nT(kvs:List (κ×V))(k:κ):Option V:=(kvs.find? λq=>decide (q.1=k)).map (·.2)
noncomputable def putK(kvs:List (κ×V))(k:κ)(v:V):List (κ×V):=
 if(kvs.any λq=>decide (q.1=k))=true then kvs.map (λq=>if q.1=k then(q.1,v)else q)else kvs++[(k,v)]
noncomputable def S4(kvs:List (κ×V))(k:κ):List (κ×V):=kvs.filter λq=>decide (q.1≠k)
theorem nE{p:κ×V}{r:List (κ×V)}{k:κ}(e:p.1=k):nT (p::r) k=some p.2:=by simp[nT,zbw,e]
theorem mW{p:κ×V}{r:List (κ×V)}{k:κ}(e:¬ p.1=k):nT (p::r) k=nT r k:=by simp[nT,zbw,e]
theorem AV(k:κ):∀kvs:List (κ×V),(kvs.any λq=>decide (q.1=k))=(nT kvs k).isSome
 | []=>rfl
 | p::r=>by
  rw[zb9];by_cases e:p.1=k
  ·simp only[nE e,decide_eq_true e,Bool.true_or,Option.isSome_some]
  ·rw[mW e,decide_eq_false e,Bool.false_or];exact AV k r
theorem fM(kvs:List (κ×V))(k:κ)(v:V):(putK kvs k v).length<=kvs.length+1:=by
 unfold putK;split
 ·rw[zam];lia
 ·rw[zbb,zaz,zbF];lia
theorem RelO.isSome_eq(r:RelO o u):o.isSome=u.isSome:=by
 cases o with
 | none=>cases u with
  | none=>rfl
  | some _=>exact(show False from r).elim
 | some _=>cases u with
  | none=>exact(show False from r).elim
  | some _=>rfl
theorem RelO.getD(r:RelO o u)(rd:RelV d d'):RelV (o.getD d) (u.getD d'):=by
 cases o with
 | none=>cases u with
  | none=>exact rd
  | some _=>exact(show False from r).elim
 | some _=>cases u with
  | none=>exact(show False from r).elim
  | some _=>exact r
theorem KV.val(r:KV kvs vs)(k:κ):RelO (nT kvs k) (zcp vs k):=by
 unfold KV at r;induction r with
 | nil=>exact zaY
 | @cons p q ps qs h t ih=>
  obtain⟨h1,h2⟩:=h;by_cases e:p.1=k
  ·have B:q.1=k:=h1.symm.trans e
   have b:zcp (q::qs) k=some q.2:=by simp[zcp,zbw,B]
   rw[nE e,b];exact h2
  ·have B:¬ q.1=k:=λz=>e (h1.trans z)
   have b:zcp (q::qs) k=zcp qs k:=by simp[zcp,zbw,B]
   rw[mW e,b];exact ih
theorem KV.any(r:KV kvs vs)(k:κ):(kvs.any λq=>decide (q.1=k))=vs.any λq=>decide (q.1=k):=by
 unfold KV at r;induction r with
 | nil=>rfl
 | cons h t ih=>rw[zb9,zb9,ih,h.1]
theorem KV.repl(r:KV kvs vs)(k:κ)(F:RelV y u) :
  KV (kvs.map λB=>if B.1=k then(B.1,y)else B) (vs.map λB=>if B.1=k then(B.1,u)else B):=by
 unfold KV at r ⊢;induction r with
 | nil=>exact .nil
 | @cons p q ps qs h t ih=>
  rw[zak,zak];refine .cons ?_ ih;obtain⟨h1,h2⟩:=h;by_cases e:p.1=k
  ·rw[if_pos e,if_pos (h1.symm.trans e)];exact⟨h1,F⟩
  ·rw[if_neg e,if_neg (λz=>e (h1.trans z))];exact⟨h1,h2⟩
theorem KV.put(r:KV kvs vs)(k:κ)(q:RelV y u):KV (putK kvs k y) (stored vs k u):=by
 unfold putK stored;rw[r.any k];by_cases e:(vs.any λz=>decide (z.1=k))=true
 ·rw[if_pos e,if_pos e];exact r.repl k q
 ·rw[if_neg e,if_neg e];exact Paired.snoc r ⟨rfl,q⟩
theorem KV.drop(r:KV kvs vs)(k:κ):KV (S4 kvs k) (without vs k):=by
 unfold KV at r ⊢;unfold S4 without;induction r with
 | nil=>exact .nil
 | @cons p q ps qs h t ih=>
  obtain⟨h1,h2⟩:=h;rw[zca,zca];by_cases e:p.1=k
  ·have a:¬ decide (p.1≠k)=true:=by simp[e]
   have b:¬ decide (q.1≠k)=true:=by simp[h1.symm.trans e]
   rw[if_neg a,if_neg b];exact ih
  ·have B:¬ q.1=k:=λz=>e (h1.trans z)
   have a:decide (p.1≠k)=true:=by simp[e]
   have b:decide (q.1≠k)=true:=by simp[B]
   rw[if_pos a,if_pos b];exact .cons ⟨h1,h2⟩ ih
theorem KV.length(r:KV kvs vs):kvs.length=vs.length:=zcL r
end
theorem v7(r:RelV (kV k) u):(bA P w).is k u=true:=by
 cases k with
 | inl i=>obtain⟨t,e⟩:=(show ∃t,u=zcv i t from r);subst e;exact yT P w i t
 | inr x=>obtain⟨t,e⟩:=(show ∃t,u=zcJ x t from r);subst e;exact yQ P w x t
theorem vR:∀ {ks:List Key} {us:List Value},Vals (ks.map kV) us->ItemsAre (bA P w) ks us
 | [],_,r=>by rw[zb8]at r;cases r;exact .nil
 | k::ks,_,r=>by
  rw[zak]at r;cases r with
  | cons h t=>exact .cons (v7 h) (vR t)
abbrev KT(H:Hp):List (List Key×V)->List (List Key×Addr×Value)->Prop:=Paired λp q=>p.1=q.1/\H q.2.1=some (.tup (p.1.map kV))/\RelV p.2 q.2.2
theorem KT.val(r:KT H kvs xs)(k:List Key):RelO (nT kvs k) ((atKey xs k).map (·.2)):=by
 induction r with
 | nil=>exact zaY
 | @cons p q ps qs h t ih=>
  obtain⟨h1,_,h2⟩:=h;by_cases e:p.1=k
  ·have B:q.1=k:=h1.symm.trans e
   have b:atKey (q::qs) k=some q.2:=by simp[atKey,zbw,B]
   rw[nE e,b];exact h2
  ·have B:¬ q.1=k:=λz=>e (h1.trans z)
   have b:atKey (q::qs) k=atKey qs k:=by simp[atKey,zbw,B]
   rw[mW e,b];exact ih
theorem KT.repl(r:KT H kvs xs)(k:List Key)(F:RelV y u) :
  KT H (kvs.map λB=>if B.1=k then(B.1,y)else B) (xs.map (putAt k u)):=by
 induction r with
 | nil=>exact .nil
 | @cons p q ps qs h t ih=>
  rw[zak,zak];refine .cons ?_ ih;obtain⟨h1,h2,G⟩:=h;unfold putAt;by_cases e:p.1=k
  ·rw[if_pos e,if_pos (h1.symm.trans e)];exact⟨h1,h2,F⟩
  ·rw[if_neg e,if_neg (λz=>e (h1.trans z))];exact⟨h1,h2,G⟩
theorem KT.put(r:KT H kvs xs)(k:List Key)(F:H b=some (.tup (k.map kV)))(z:RelV y u) :
  KT H (putK kvs k y) (storedH xs k b u):=by
 have e:(kvs.any λB=>decide (B.1=k))=(atKey xs k).isSome:=by
  rw[AV,(r.val k).isSome_eq,Option.isSome_map]
 unfold putK storedH;rw[e];by_cases q:(atKey xs k).isSome=true
 ·rw[if_pos q,if_pos q];exact r.repl k z
 ·rw[if_neg q,if_neg q];exact Paired.snoc r ⟨rfl,F,z⟩
theorem KT.keeps(r:KT H kvs xs)(q:∀b ys,H b=some (.tup ys)->H' b=some (.tup ys)):KT H' kvs xs:=
 Paired.mapP r λ_ _ z=>⟨z.1,q _ _ z.2.1,z.2.2⟩
section
variable {P:zah}{w:World}{H:Hp}{h:Heap}{a:Addr}
theorem S6(ok:HOk P w H h)(e:Rd H a u):ObjOk P w H h a u:=e.ok ok
theorem wC(ok:HOk P w H h)(e:Rd H a (.dK kvs)):kvs.length<=zai/\(a == za6)=false/\∃vs,KV kvs vs/\h.DictOf (bA P w) a vs:=
 show ObjOk P w H h a (.dK kvs)from S6 ok e
theorem S3(ok:HOk P w H h)(e:H a=some (.dK kvs)):kvs.length<=zai/\(a == za6)=false/\∃vs,KV kvs vs/\h.DictOf (bA P w) a vs:=wC ok (.inl e)
theorem oE(ok:HOk P w H h)(e:H a=some (.tup (ks.map kV))):(zb2 (bA P w)).is h ks a:=by
 obtain⟨_,q,r,o,h1,h2,n,z⟩:=(show ObjOk P w H h a (.tup (ks.map kV))from ok a _ e);exact⟨o,q.toArray,n,h1,h2,z.1,by simpa using vR r⟩
theorem F5(ok:HOk P w H h)(e:Rd H a (.dT kvs)):kvs.length<=zai/\(a == za6)=false /\
  ∃xs,KT H kvs xs/\h.DictOfH (zb2 (bA P w)) a xs:=by
 obtain⟨z,y,xs,r,o,es,ep,h1,h2,F,B,G⟩:=(show ObjOk P w H h a (.dT kvs)from S6 ok e);refine⟨z,y,xs,r,o,es,ep,h1,h2,F,B,λx hx=>?_,G⟩;have all:∀ {l:List (List Key×V)} {m:List (List Key×Addr×Value)},KT H l m->∀x∈m,(zb2 (bA P w)).is h x.1 x.2.1:=by
  intro l m q;induction q with
  | nil=>intro x hx;exact nomatch hx
  | @cons p q ps qs hq t ih=>
   intro x hx;rcases List.mem_cons.mp hx with e|hx
   ·subst e
    exact oE ok (by rw[<- hq.1];exact hq.2.1)
   ·exact ih x hx
 exact all r x hx
theorem SK(ok:HOk P w H h)(e:H a=some (.dT kvs)):kvs.length<=zai/\(a == za6)=false /\
  ∃xs,KT H kvs xs/\h.DictOfH (zb2 (bA P w)) a xs:=F5 ok (.inl e)
end
def DGet(H:Hp)(a:Addr)(y:V)(r:Option V):Prop:=
 (∃kvs k,Rd H a (.dK kvs)/\y=kV k/\r=nT kvs k)\/∃kvs k b,Rd H a (.dT kvs)/\y=.ref b/\H b=some (.tup (k.map kV))/\r=nT kvs k
def DPut(H:Hp)(a:Addr)(y v:V)(H':Hp):Prop:=
 (∃kvs k,H a=some (.dK kvs)/\y=kV k/\kvs.length<zai/\H'=upd H a (.dK (putK kvs k v))) \/
 ∃kvs k b,H a=some (.dT kvs)/\y=.ref b/\H b=some (.tup (k.map kV))/\kvs.length<zai/\H'=upd H a (.dT (putK kvs k v))
theorem DGet.k{H:Hp}{a:Addr}{kvs:List (Key×V)}{k:Key}(e:H a=some (.dK kvs)):DGet H a (kV k) (nT kvs k):=.inl ⟨kvs,k,.inl e,rfl,rfl⟩
theorem DGet.t{H:Hp}{a b:Addr}{kvs:List (List Key×V)}{k:List Key}(e:H a=some (.dT kvs))(q:H b=some (.tup (k.map kV))):DGet H a (.ref b) (nT kvs k):=.inr ⟨kvs,k,b,.inl e,rfl,q,rfl⟩
theorem DPut.k{H:Hp}{a:Addr}{kvs:List (Key×V)}{k:Key}{v:V}(e:H a=some (.dK kvs))(q:kvs.length<zai):DPut H a (kV k) v (upd H a (.dK (putK kvs k v))):=.inl ⟨kvs,k,e,rfl,q,rfl⟩
theorem DPut.t{H:Hp}{a b:Addr}{kvs:List (List Key×V)}{k:List Key}{v:V}(e:H a=some (.dT kvs))(z:H b=some (.tup (k.map kV)))(q:kvs.length<zai) :
  DPut H a (.ref b) v (upd H a (.dT (putK kvs k v))):=.inr ⟨kvs,k,b,e,rfl,z,q,rfl⟩
section
variable {X:Cx}{pins:List (Addr×Obj)}{σ:St}{H:Hp}{s:zab}{a:Addr}{y v:V}{u r:Value}{o:Option V}{A:zan}{E:Value->zab->Prop}
theorem Inv.big(I:Inv X pins σ H s):za6<s.heap.objs.size:=by
 have h:zaJ<s.heap.objs.size:=(I.mod.glob.keeps I.bk).lt;exact Nat.lt_trans (by decide) h
theorem HY(W:A.units+1<cLine)(I:Inv X pins σ H s)(g:DGet H a y (some v))(N:RelV y u)(h:∀F s',Inv X pins σ H s'->RelV v F->Q F s') :
  wpAny (model X.prog X.w) A (zbv (.ref a) u) Q E s:=by
 rcases g with⟨kvs,k,e,G,l⟩|⟨kvs,k,b,e,G,Y,l⟩
 ·subst G
  obtain⟨z,hd,vs,B,M⟩:=wC I.hok e;obtain⟨F,hw,q⟩:=RelO.some_of (v:=v) (o:=zcp vs k) (by rw[l];exact B.val k);exact wpAny_getItem_of (v7 N) M.mapOf hw (h F _ (I.tok _) q)
 ·subst G
  cases(show u=zar b from N);obtain⟨z,hd,xs,B,M⟩:=F5 I.hok e;obtain⟨F,hw,q⟩:=RelO.some_of (v:=v) (o:=(atKey xs k).map (·.2)) (by rw[l];exact B.val k);obtain⟨p,U,J⟩:=Option.map_eq_some_iff.mp hw;refine wpAny_getItem_heap (zd9 W) (oE I.hok Y) M U ?_;rw[J];exact h F _ (I.tok _) q
theorem OY(M:A.units+1<cLine)(I:Inv X pins σ H s)(g:DGet H a y o)(J:RelV y u)(h:∀s',Inv X pins σ H s'->Q (.bool (!o.isSome)) s') :
  wpAny (model X.prog X.w) A (zay .NotIn u (.ref a)) Q E s:=by
 rcases g with⟨kvs,k,e,F,l⟩|⟨kvs,k,b,e,F,N,l⟩
 ·subst F
  obtain⟨z,hd,vs,B,G⟩:=wC I.hok e;refine wpAny_notIn_of (v7 J) hd G.mapOf ?_;rw[<- (B.val k).isSome_eq,<- l];exact h _ (I.tok _)
 ·subst F
  cases(show u=zar b from J);obtain⟨z,hd,xs,B,G⟩:=F5 I.hok e;refine wpAny_notIn_heap (zd9 M) (oE I.hok N) hd G ?_;have q:=(B.val k).isSome_eq;rw[Option.isSome_map]at q;rw[<- q,<- l];exact h _ (I.tok _)
theorem nO(I:Inv X pins σ H s)(B:qm (H a))(hs:za4 a s.heap h')(F:∃q,h'.get? a=some q)(new:ObjOk X.prog X.w (upd H a ob) h' a ob) :
  Inv X pins σ (upd H a ob) {s with heap:=h',toks:=t'}:=
 I.write (x:=a) (e:=a) B (.inl rfl) (λb q G z=>(hs.2 b G).trans z) F new
theorem L4(z:kvs.length<=zai)(hd:(a == za6)=false)(q:KV kvs vs)(B:h'.DictOf (bA P w) a vs) :
  ObjOk P w H' h' a (.dK kvs):=⟨z,hd,vs,q,B⟩
theorem G9(hu:A.units+1<cLine)(I:Inv X pins σ H s)(g:DPut H a y v H')(Y:RelV y u)(rv:RelV v r)(h:∀s',Inv X pins σ H' s'->Q () s') :
  wpAny (model X.prog X.w) A (setItem (.ref a) u r) Q E s:=by
 rcases g with⟨kvs,k,e,U,l,J⟩|⟨kvs,k,b,e,U,eb,l,J⟩
 ·subst U J
  obtain⟨z,hd,vs,B,W⟩:=S3 I.hok e;have M:vs.length<=zai:=by rw[<- B.length];exact z
  have N:(putK kvs k v).length<=zai:=by have:=fM kvs k v;lia
  refine wpAny_setItem_pairs (hsz:=M) (v7 Y) W λh' F hs=>h _ ?_
  have he:∃q,h'.get? a=some q:=let ⟨q,_,_,G,_⟩:=F;⟨q,G⟩;exact nO I (by rw[e];exact zaY) hs he (L4 N hd (B.put k rv) F)
 ·subst U J
  cases(show u=zar b from Y);obtain⟨z,hd,xs,B,W⟩:=SK I.hok e;have M:xs.length<=zai:=by rw[<- zcL B];exact z
  have N:(putK kvs k v).length<=zai:=by have:=fM kvs k v;lia
  refine wpAny_setItem_heap (hsz:=M) (zd9 hu) (oE I.hok eb) W λh' F hs=>h _ ?_
  obtain⟨q,es,ep,G,h2,h3,h4,_,h5⟩:=F;refine nO I (by rw[e];exact zaY) hs ⟨q,G⟩ ⟨N,hd,_,(B.put k eb rv).keeps λc ys ec=>?_,q,es,ep,G,h2,h3,h4,h5⟩;rw[aF (uH ec e (λz=>nomatch z))];exact ec
end
section
variable {X:Cx}{pins:List (Addr×Obj)}{σ:St}{H:Hp}{s:zab}{a:Addr}{kvs:List (Key×V)}{k:Key}{u:Value}{A:zan}{E:Value->zab->Prop}
theorem YF(I:Inv X pins σ H s)(e:Rd H a (.dK kvs))(h:∀t s',Inv X pins σ H s'->Q (.int kvs.length t) s'):wpAny (model X.prog X.w) A (call (.builtin "len") [.ref a]) Q E s:=by
 obtain⟨z,hd,vs,q,B⟩:=wC I.hok e;refine call_len_dict hd B (by rw[<- q.length];rw[zcQ]at z;lia) ?_;rw[<- q.length];exact h _ _ (I.tok _)
end
def IR(i:Expr):Prop:=∀q z,zdo i false q z=operate [q,z] (zbv q z)
theorem FT{E:Value->zab->Prop}{T id:String}{Q:Value->zab->Prop}
  (M:typeLookup (.type T) "__getitem__" = pure (some (.builtin id))) (hs:IR slice)
  (h:wpAny (model prog w) A (eval value env) (λo B=>wpAny (model prog w) A (eval slice env) (λi q=>q.TypeIs o T/\wpAny (model prog w) A (zbv o i) Q E q) E B) E s) :
  wpAny (model prog w) A (eval (.Subscript value slice pos) env) Q E s:=by
 refine Subscript_ (za7 h (λo B J=>za7 J (λi q z=>?_) λ_ _ x=>x) λ_ _ x=>x);obtain⟨hT,z⟩:=z;unfold subscriptTail;refine zaa ?_;rw[getitemInPython_of_ne hT.not_modules];refine zaa (zcM hT M ?_);have fin:wpAny (model prog w) A (zdo slice false o i) (λr F=>wpAny (model prog w) A (letTemporaryGo value o r >>= λ_=>pure r) Q E F) E q:=by
  rw[hs o i];exact wpAny_operating (za7 z (λr F G=>zaa (wpAny_letTemporaryGo (zaf G))) λ_ _ x=>x)
 first
  | exact zaf (zaa fin)
  | exact zaa (zaf (zaa fin))
  | exact zaa fin
theorem yI(I:Inv X pins σ H s)(g:DGet H a y o):s.TypeIs (.ref a) "dict" := by
 rcases g with⟨kvs,k,e,_,_⟩|⟨kvs,k,b,e,_,_,_⟩
 ·obtain⟨_,_,vs,_,q⟩:=wC I.hok e
  exact q.typeIs
 ·obtain⟨_,_,xs,_,q⟩:=F5 I.hok e
  exact q.typeIs
def SW(td ty:TE):TE:=λσ H Q=>td σ H λx H1=>ty σ H1 λy H2=>∃a v,x=.ref a/\DGet H2 a y (some v)/\Q v H2
def YW(td ty tv:TE):TS:=λD σ H=>tv σ H λv H1=>td σ H1 λx H2=>ty σ H2 λy z=>∃a q,x=.ref a/\DPut z a y v q/\D.nx σ q
section
variable {X:Cx}{o i e value:Expr}{pos pos' tpos:Pos}{td ty tv:TE}
theorem FS(U:X.A.units+1<cLine)(Y:PE X o td)(hi:PE X i ty)(hs:IR i):PE X (.Subscript o i pos) (SW td ty):=by
 intro pins s σ H Q I h;refine FT PySem.F.slot_dict_getitem.lookup hs (cS (Y pins s σ H _ I h) λu W ⟨x,H1,M,rx,G⟩=>cS (hi pins W σ H1 _ M G) λiv s2 ⟨y,H2,z,B,a,v,ex,g,N⟩=>?_);subst ex;obtain rfl:u=zar a:=rx;exact⟨yI z g,HY U z g B λw' s3 J q=>⟨v,H2,J,q,N⟩⟩
theorem xG(B:X.A.units+1<cLine)(J:PE X o td)(hi:PE X i ty)(hv:PE X value tv)(hs:zaC value (some (.Subscript o i pos')) pos.line X.env=pure false) :
  PS X (.Assign [.Subscript o i pos'] value pos) (YW td ty tv):=by
 intro pins s σ H D I h;refine wpAny_Assign_Subscript (cS (hv pins s σ H _ I h) λr s1 ⟨v,H1,U,rv,q1⟩=>cS (J pins s1 σ H1 _ U q1) λu z ⟨x,H2,F,M,Y⟩=>cS (hi pins z σ H2 _ F Y) λiv s3 ⟨y,H3,G,ry,a,N,ex,g,W⟩=>?_) hs;subst ex;obtain rfl:u=zar a:=M;exact G9 B G g ry rv λs4 q=>⟨σ,N,q,W⟩
end
theorem K2(h:Heap)(q:za6<h.objs.size):ObjOk P w H (h.push {cls:=.type "dict",data:=.dict #[]}) h.objs.size (.dK []):=
 ⟨zaI _,beq_eq_false_iff_ne.mpr (zaU (zaE q)),[],.nil,Heap.DictOf.new h⟩
theorem zI(h:Heap)(q:za6<h.objs.size):ObjOk P w H (h.push {cls:=.type "dict",data:=.dict #[]}) h.objs.size (.dT []):=
 ⟨zaI _,beq_eq_false_iff_ne.mpr (zaU (zaE q)),[],.nil,_,#[],0,zaD _ rfl,⟨rfl,rfl,rfl⟩,rfl,rfl,List.nodup_nil⟩
def WN:TE:=λ_ H Q=>∀p,H p=none->Q (.ref p) (upd H p (.dT []))
section
variable {X:Cx}{pos:Pos}
theorem zU:PE X (.Dict [] [] pos) WN:=λpins s σ H Q I h=>
 wpAny_Dict_empty ⟨.ref s.heap.objs.size,_,I.laid (a:=s.heap.objs.size) (o:=.dT []) (t':=s.toks) (λ_ _ q=>zal _ q) (zaj _) (zI s.heap I.big),rfl,h _ (I.hok.fresh (zaj _))⟩
end
def IsD(H:Hp)(a:Addr):Prop:=(∃kvs,Rd H a (.dK kvs))\/∃kvs,Rd H a (.dT kvs)
section
variable {X:Cx}{pins:List (Addr×Obj)}{σ:St}{H:Hp}{s:zab}{a:Addr}{y d:V}{u r:Value}{o:Option V}{A:zan}{E:Value->zab->Prop}
end
section
variable {X:Cx}{o e f:Expr}{apos cpos:Pos}{td ty tx:TE}
end
section
variable {X:Cx}{pins:List (Addr×Obj)}{σ:St}{H:Hp}{s:zab}{a:Addr}{kvs:List (Key×V)}{A:zan}{E:Value->zab->Prop}
end
section
variable {X:Cx}{pins:List (Addr×Obj)}{σ:St}{H:Hp}{s:zab}{a:Addr}{y:V}{u:Value}{A:zan}{E:Value->zab->Prop}
end
end L2
namespace Att
open PySem PySem.W PySem.Calls PyProof.Rows
theorem qE:∀(ns:List Int) (vs:List Value),WellAll P h vs (ns.map WData.int)->zbh vs ns:=by
 intro ns;induction ns with
 | nil=>
  intro vs w;rw[zb8]at w;cases w;exact .nil
 | cons n ns ih=>
  intro vs w;rw[zak]at w;cases w with
  | cons a b=>
   cases a;exact .cons _ _ (ih _ b)
theorem HU{l:OpenLaw}{n:Nat}(W:l.most=some n){P:Params}{h:Heap}{args:List WData}{B:List Value}
  (z:l.row.toRowW.claim.pre args=true) (N:WellAll P h B args) :
  ∃a vs ns,B=[zar a]/\args=[WData.list (ns.map WData.int)]/\h.get? a=some {cls:=.type "list",data:=.seq vs.toArray}/\zbh vs ns/\ns.length<=n:=by
 have M:WShape.hasAll [] args [.list .int]=true:=(pre_splitW z).1;have U:l.pre.holds [] {args:=args}=true:=(pre_splitW z).2;obtain⟨d,r,rfl,h1,h2⟩:=hasAllW_cons M;obtain rfl:=hasAllW_nil h2;obtain⟨xs,rfl,h3⟩:=hasW_list h1;obtain⟨ns,rfl⟩:=items_int h3;have F:ns.length<=n:=by
  unfold OpenLaw.pre at U;have J:(WTm.not (.lt (.lit (.int (n:Int))) (.len (.arg 0)))).holds [] {args:=[.list (ns.map .int)]}=true:=by
   have J:=(holds_andW U).1;rw[W]at J;exact J
  have G:=condW_of J (w_not (w_lt w_lit (w_len_list (w_arg rfl))));rw[zam]at G;refine Nat.le_of_not_lt λq=>?_
  have Y:(n:Int)<((ns.length:Nat):Int):=by lia
  first
   | (rw[decide_eq_true Y]at G;exact absurd G (by decide))
   | (simp at G;lia)
 cases N with
 | cons w1 w2=>
  cases w2;cases w1 with
  | list ho hall=>exact⟨_,_,ns,rfl,rfl,ho,qE ns _ hall,F⟩
theorem IC(l:OpenLaw)(args:List WData):l.row.toRowW.claim.post args (.bool true) args=true:=
 postW_of (r:=l.row.toRowW) (X:=(true == true))
  (show WShape.has [] (.bool true) .bool=true by first|rfl|decide|simp[WShape.has,WShape.arms,WShape.armsAll])
  (show(WTm.eq .res (.lit (.bool true))).value [] {args:=args,res:=some (.bool true),after:=args}=some (.bool (true == true))from w_eq_bool (w_res rfl) w_lit) rfl
theorem yS{l:OpenLaw}{n:Nat}{q:zah}{F:List Str}{XP:(Str->Option Value)->Heap->Prop}{YP:World->Heap->Prop}{d:DefRec}
  (hn:l.most=some n) (ac:d.params.defaults=[])
  (call:∀(w:World) (B z:zab) (mg mb:Str -> Option Value) (N:Addr) (o:Obj) (pm cd J:Value) (a:Addr) (vs:List Value) (ns:List Int),
   Ground q F [] XP w B mg mb z.heap->YP w z.heap->
   z.heap.get? N=some o->o.data=.func (docDef d.name d.params d.body d.scope pm cd J)->z.heap.CodeRec cd d.name->mg d.name=some (.ref N)->
   z.heap.get? a=some {cls:=.type "list",data:=.seq vs.toArray}->zbh vs ns->ns.length<=n->z.gens=#[]->
   zbD (model l.prog w) zcq (.call (.ref N) ⟨[.ref a],[]⟩) (λr s'=>r=.ok (.ret (.bool true))/\OldK z.heap s'.heap/\s'.os=z.os/\zbN s'.gens) z) :
  WalkO q F XP YP l.row.toRowW d [] (λf vs=>PySem.call f vs):=by
 intro w B z mg mb G Y N o pm cd J dV kV ho hd af hD ad hg args aj as aa ak aq ah ao;obtain rfl:dV=.none:=Dflts.none hD ac;obtain rfl:kV=.none:=Dflts.noKw hD;obtain⟨a,vs,ns,rfl,rfl,W,M,U⟩:=HU hn aa ah;refine enter_call (zdh (call w B z mg mb N o pm cd J a vs ns G Y ho (fd_plain hd) af ad W M U hg) λr s' hq=>?_);obtain⟨rfl,h2,h3,h4⟩:=hq;exact⟨.inl ⟨.bool true,.bool true,[],rfl,λ_=>rfl,.bool true,IC l _,λ_=>⟨List.Pairwise.nil,λ_ hm=>(nomatch hm)⟩⟩,h2,h3,h4⟩
section
variable {prog:zah}{w:World}{A:zan}{E:Value->zab->Prop}{s:zab}{K:Frag}
end
end Att
namespace L2
open PySem PySem.Spec PyProof.Rows
theorem vF:∀ {vs:List Value} {ns:List Int},zbh vs ns->Vals (ns.map V.int) vs
 | _,_,.nil=>.nil
 | _,_,.cons n t h=>.cons ⟨t,rfl⟩ (vF h)
def Only(H:Hp):Prop:=∀b,H b=none\/∃o xs,H b=some (.frz o (.lst xs))
theorem J7{P:zah}{w:World}{K:zae}{mg mb:Str->Option Value}{CX:IZ}{k:Nat}{fa a:Addr}{fd:zbe}{x:Str}{sp:Sp}{B:zab}{vs:List Value}{ns:List Int}
  (KX:K.In B.heap) (aa:B.heap.Ns zaJ mg) (J:B.heap.Ns builtinsNs mb) (aj:∀x:Str,x ≠ "__name__" -> mb x=zaH x) (ae:B.heap.NoLimit) (hg:B.gens=#[])
  (ha:B.heap.get? a=some {cls:=.type "list",data:=.seq vs.toArray}) (hi:zbh vs ns) (hl:ns.length<=zai) (hr:Room k zcq)
  (F:∀base:Heap,K.In base->base.Ns zaJ mg->FnOk P w K mg base CX k fa fd [x] sp) (U:∀(s:zab) (u:Value),BindsTo s fd ⟨[u],[]⟩ [(x,u)])
  (hsp:∀H:Hp,Only H->SqL K H a (ns.map V.int)->sp [.ref a] H (λv _=>v=.bl true) λ_ _ _=>False)
  (ak:∀H e s',CX [] H B (λ_ _ _=>False) e s'->False) :
  zbD (model P w) zcq (.call (.ref fa) ⟨[.ref a],[]⟩) (λr s'=>r=.ok (.ret (.bool true))/\OldK B.heap s'.heap/\s'.os=B.os/\zbN s'.gens) B:=by
 have rv:=vF hi;have Y:=hi.length
 -- from an abstract heap in which nothing but the script may be tracked
 have N:∀H:Hp,Only H->SqL K H a (ns.map V.int)->HOk P w H B.heap->(∀b,H b≠none->b=a)->(H a≠none->K.lookup a=none)->
   zbD (model P w) zcq (.call (.ref fa) ⟨[.ref a],[]⟩) (λr s'=>r=.ok (.ret (.bool true))/\OldK B.heap s'.heap/\s'.os=B.os/\zbN s'.gens) B:=by
  intro H hO hS W hA hK;have G:∀ {b:Addr} {o:Obj},B.heap.get? b=some o->H b=none->(x9 B.heap H).get? b=some o:=λe n=>KA e n
  have al:∀ {b:Addr} {o:Obj} {es:Array zcr} {ep:Nat},B.heap.get? b=some o->o.data=.dict es ep->H b=none:=λ{b o es ep} e d=>by
   cases q:H b with
   | none=>rfl
   | some u=>
    have e':b=a:=hA b (by rw[q];simp);subst e';rw[ha]at e;cases e;have d':Data.seq vs.toArray _=Data.dict es ep:=d;cases d'
  have M:∀ {b:Addr} {m:Str->Option Value},B.heap.Ns b m->(x9 B.heap H).Ns b m:=λ{b m} ⟨o,es,ep,e,d,r⟩=>⟨o,es,ep,G e (al e d),d,r⟩
  have ad:K.In (x9 B.heap H):=λb o e=>G (KX b o e) (by
   cases q:H b with
   | none=>rfl
   | some u=>
    have e':b=a:=hA b (by rw[q];simp);subst e';rw[hK (by rw[q];simp)]at e;cases e)
  have hM:Mod K mg (x9 B.heap H):=⟨ad,M aa,⟨mb,M J,aj⟩,let ⟨mc,h1,h2⟩:=ae;⟨mc,M h1,h2⟩⟩;have e0:Env0 P w K mg (x9 B.heap H) zcq [] B H:=⟨rfl,hM,λb o e=>O7 e,Nat.le_of_eq (GQ _ _),trivial,λb J=>absurd (show b∈([]:List Addr)from J) (by simp),W,.of_eq hg⟩;refine zdh ((F _ ad (M aa)).run zcq [] B H ⟨[.ref a],[]⟩ [.ref a] [.ref a] _ _ hr e0 (U B (.ref a)) (.cons rfl .nil) (hsp H hO hS)) λr s' h=>?_
  cases r with
  | error e=>exact(ak H e s' h).elim
  | ok fl=>
   cases fl with
   | next=>exact za8 h
   | brk=>exact za8 h
   | cont=>exact za8 h
   | ret u=>
    obtain⟨v,H',os,af,un,ac,r',q⟩:=h;have q':v=.bl true:=q;subst q';obtain rfl:u=zcK true:=r';refine⟨rfl,OldK.of_keep λb o e=>?_,os,af⟩;cases q:H b with
    | none=>exact un.keep b o e q (by intro z;exact absurd (show b∈([]:List Addr)from z) (by simp)) (by simp)
    | some u=>
     rcases hO b with z|⟨ob,xs,z⟩
     ·rw[q]at z;cases z
     ·have z2:=un.frzs b ob _ z
      obtain⟨e1,_⟩:=W b _ z;obtain⟨e2,_⟩:=ac b _ z2;rw[e]at e1;cases e1;exact e2
 cases hk:K.lookup a with
 | some o=>
  -- the script is one of the module's own objects
  have e:=KX a o hk;rw[ha]at e;cases e;refine N (λ_=>none) (λ_=>.inl rfl) (.inr ⟨_,vs.toArray,_,hk,rfl,rfl,rfl,by rw[zax,Y];exact hl,by simpa using rv⟩) (λb u z=>by have z':(none:Option HO)=some u:=z;cases z') (λb z=>absurd rfl z) λz=>absurd rfl z
 | none=>
  refine N (λb=>if b=a then some (.frz {cls:=.type "list",data:=.seq vs.toArray} (.lst (ns.map V.int)))else none) (λb=>?_) (.inl (.inr ⟨{cls:=.type "list",data:=.seq vs.toArray},if_pos rfl⟩)) (λb u z=>?_) (λb z=>?_) λ_=>hk
  ·by_cases J:b=a
   ·exact .inr ⟨_,_,if_pos J⟩
   ·exact .inl (if_neg J)
  ·by_cases J:b=a
   ·have z':=(if_pos J).symm.trans z
    cases z';subst J;exact⟨ha,by rw[zam];exact hl,vs,_,rv,ha⟩
   ·have z':=(if_neg J).symm.trans z
    cases z'
  ·by_cases J:b=a
   ·exact J
   ·exact absurd (if_neg J) z
theorem OT{l:zea}{n k:Nat}{q:zah}{B:List Str}{XP:(Str->Option Value)->Heap->Prop}{YP:World->Heap->Prop}{d:DefRec}{K:Params->zae}{CX:World->IZ}{sp:World->Sp}{x:Str}
  (hn:l.most=some n) (ad:n<=zai) (aa:d.params.defaults=[]) (hr:Room k zcq)
  (hY:∀(w:World) (h:Heap),YP w h->(K w.params).In h)
  (F:∀(w:World) (mg:Str -> Option Value) (U:Addr) (h:Heap), (K w.params).In h -> h.Ns zaJ mg -> mg d.name = some (.ref U) ->
   ∃fd:zbe,(∀(s:zab) (u:Value),BindsTo s fd ⟨[u],[]⟩ [(x,u)]) /\
    ∀base:Heap,(K w.params).In base->base.Ns zaJ mg->FnOk l.prog w (K w.params) mg base (CX w) k U fd [x] (sp w))
  (hsp:∀(w:World) (H:Hp) (a:Addr) (ns:List Int),ns.length<=n->Only H->SqL (K w.params) H a (ns.map V.int)->sp w [.ref a] H (λv _=>v=.bl true) λ_ _ _=>False)
  (ab:∀(w:World) (H:Hp) (s:zab) (e:Value) (s':zab),CX w [] H s (λ_ _ _=>False) e s'->False) :
  PySem.W.WalkO q B XP YP l.row.toRowW d [] (λf vs=>PySem.call f vs):=by
 refine Att.yS hn aa λw ae M mg mb U o pm cd al a vs ns G Y ho hd aq ac N J z hg=>?_
 have KX:=hY w _ Y;obtain⟨fd,hb,hF⟩:=F w mg U _ KX G.T.g ac;exact J7 KX G.T.g G.T.b G.T.builtins G.T.nolimit hg N J (zaK z ad) hr hF hb (λH hO hS=>hsp w H a ns z hO hS) λH e s'=>ab w H M e s'
noncomputable def inClass(s:Stmt)(j:Nat):Stmt:=match s with
 | .ClassDef _ _ _ body _ _ _ _ _ _ _=>body.getD j (.Pass ⟨0,0,0,0⟩)
 | _=>.Pass ⟨0,0,0,0⟩
noncomputable def dW(s:Stmt):Arguments:=match s with
 | .FunctionDef _ a _ _ _ _ _ _ _ _=>a
 | _=>{posonlyargs:=[],args:=[],vararg:=none,kwonlyargs:=[],kw_defaults:=[],kwarg:=none,defaults:=[]}
noncomputable def bQ(s:Stmt):List Stmt:=match s with
 | .FunctionDef _ _ b _ _ _ _ _ _ _=>b
 | _=>[]
noncomputable def aM(s:Stmt):Scope:=match s with
 | .FunctionDef _ _ _ _ _ _ sc _ _ _=>sc
 | _=>{kind:=.function,names:=[],isGenerator:=false,isCoroutine:=false}
abbrev u3:IZ:=λ_ _ _ _ _ _=>False
abbrev E0:XK:=λ_ _ _=>False
theorem F9:t8 u3 X E0:=λ_ _ _ _ _ _ _ h=>h.elim
structure Fun(K:zae)(x qual:Str)(st:Stmt)(f:Addr)(fd:zbe):Prop where
 ex:∃(oc:Value) (od:Option Addr) (kV doc pm:Value) (an:Option Addr) (cdv ct:Value) (osl:Array (Option Value)),
  fd=zbg x qual (dW st) (bQ st) (aM st) .none kV doc pm an cdv ct/\K.lookup f=some ⟨oc,od,.func fd,osl⟩/\zco K cdv qual=true
 kp:zbE K (.ref f)=true
section
variable {P:zah}{w:World}{K:zae}{mg:Str->Option Value}{base:Heap}
theorem Fun.ok{x B:Str}{st:Stmt}{f:Addr}{fd:zbe}{N ps:List Str}{k:Nat}{sp:Sp}(F:Fun K x B st f fd)(S:FnScope N ps (aM st))(M:∀vs H Q E,sp vs H Q E->vs.length=ps.length)
  (J:∀(G:Value) (A:zan) (z:List Env) (s:zab) (H:Hp) (vs:List V) (Q:VK) (E:XK), Room k (A.deeper (zaM B (aM st) s.heap.objs.size f G)) -> sp vs H Q E ->
   ∃t,PSs (i8 u3 P w K mg base N B (aM st) f G A z s H E).nox (bQ st) t/\t {nx:=λ_ H'=>Q .non H',rt:=Q} (start N vs) H):FnOk P w K mg base u3 (k+1) f fd ps sp:=by
 obtain⟨oc,od,kV,Y,pm,an,G,ct,W,rfl,lk,U⟩:=F.ex;refine YQ lk U S M λA z s H vs Q E hr hsp=>?_
 obtain⟨t,h,q⟩:=J G A z s H vs Q E hr hsp;exact⟨t,h.nox,q⟩
theorem Fun.binds{x q:Str}{st:Stmt}{f:Addr}{fd:zbe}{ps:List Str}(F:Fun K x q st f fd)
  (h:∀(kV B J:Value) (G:Option Addr) (z ct:Value) (us:List Value),us.length=ps.length->bindArgs (zbg x q (dW st) (bQ st) (aM st) .none kV B J G z ct) ⟨us,[]⟩=pure (ps.zip us)):Binds K fd ps []:=by
 obtain⟨U,od,kV,B,J,G,z,ct,M,rfl,W,N⟩:=F.ex;exact .all (h kV B J G z ct)
theorem C5{x q:Str}{st:Stmt}{f:Addr}{M:Value}{od G:Option Addr}{F:Array (Option Value)}{kV B J z ct:Value}(l:K.lookup f=some ⟨M,od,.func (zbg x q (dW st) (bQ st) (aM st) .none kV B J G z ct),F⟩)
  (c:zco K z q=true) (k:zbE K (.ref f)=true):Fun K x q st f (zbg x q (dW st) (bQ st) (aM st) .none kV B J G z ct):=⟨⟨M,od,kV,B,J,G,z,ct,F,rfl,l,c⟩,k⟩
end
theorem pX(q:Room k A):A.units+1<cLine:=zcU (Nat.add_le_add_left (by decide:1<=64) _) q.units
section
variable {X:Cx}
theorem pv(i:Nat)(z:X.N[i]?=some x:=by rfl)(B:W8 X.env.scope x:=by first|exact zaZ rfl|exact zbK (zaZ rfl)|exact zbK (zbK rfl))(hd:(x == ("__debug__" : Str))=false:=by decide)
  (q:(x == ("__classdict__" : Str))=false:=by decide):PE X (.Name x pos) (cX i):=UH z B hd q
end
theorem ZS{A B:Prop}(h:B):if false=true then A else B:=by
 rw[if_neg zaA];exact h
theorem ZP{A B:Prop}(h:A):if true=true then A else B:=by
 rw[if_pos rfl];exact h
def Same(H H':Hp):Prop:=∀b o,H b=some o->H' b=some o
theorem Same.trans(a:Same H H1)(b:Same H1 H2):Same H H2:=λc o h=>b c o (a c o h)
theorem Same.free(e:Same H H')(h:H' l=Option.none):H l=Option.none:=by
 cases q:H l with
 | none=>rfl
 | some o=>
  rw[e l o q]at h;cases h
theorem Same.seq{K:zae}{H H':Hp}{a:Addr}{xs:List V}(e:Same H H')(h:SqL K H a xs):SqL K H' a xs:=by
 rcases h with(h|⟨o,h⟩)|h
 ·exact .inl (.inl (e _ _ h))
 ·exact .inl (.inr ⟨o,e _ _ h⟩)
 ·exact .inr h
section
variable {X:Cx}
end
section
variable {κ:Type}[DecidableEq κ]
end
end L2
set_option maxHeartbeats 4000000
namespace My
open PySem PySem.Spec PyProof.Rows L2
def DO(i j:Int):Prop:=(-(10^250)<i/\i<10^250)/\-(10^250)<j/\j<10^250
theorem zZ(h1:-(10^250)<i)(h2:i<10^250):Builtin.Int.intBits i<=2^20:=by
 have h:i.natAbs<10^250:=by lia
 have e:(10:Nat)^250<=2^(4*250):=by
  rw[Nat.pow_mul];exact Nat.pow_le_pow_left (by decide) 250
 exact zaK (PyProof.Rows.intBits_le (zaW h e)) (by decide)
section
variable {X:Cx}
theorem PM:OpR X (zaL .Mult) (rI DO λi j=>.int (i*j)):=qg λ_ _ _ _ _ _ _ z q=>mul_int q (IntMulOk.of_bits (zZ z.1.1 z.1.2) (zZ z.2.1 z.2.2))
def qai(K:zae):List V->Hp->VK->Prop:=λxs H Q=>∃x n t b,xs=[x,.ty n]/\TyOf K H x t/\zdf K t (.type n)=some b/\Q (.bl b) H
theorem JY:CallR X (.builtin "isinstance") (qai X.K):=by
 intro pins s σ H xs B Q I r h;obtain⟨x,n,t,b,rfl,ty,e,q⟩:=h;obtain⟨u,z,rfl,r1,r2⟩:=vals2 r;cases r2;exact HK I r1 ty e λtk=>⟨.bl b,H,I.tok tk,rfl,q⟩
end
structure Ok(P:zah)(w:World)(K:zae)(mg:Str->Option Value)(base:Heap)(x:Str)(k:Nat)(ps:List Str)(sp:Sp):Prop where
 ex:∃f fd,zbE K (.ref f)=true/\Binds K fd ps []/\mg x=some (.ref f)/\FnOk P w K mg base u3 k f fd ps sp
structure DefAt(K:zae)(mg:Str->Option Value)(x:Str)(st:Stmt)(ps:List Str):Prop where
 ex:∃f fd,Fun K x x st f fd/\Binds K fd ps []/\mg x=some (.ref f)
def TX(sp:Sp)(t:TA):TE:=λσ H Q=>t σ H λvs H1=>sp vs H1 Q E0
section
variable {X:Cx}{x:Str}{k:Nat}{ps:List Str}{sp:Sp}{e:Expr}{es:List Expr}{t:TA}{p pos:Pos}
theorem K9(O:Ok X.prog X.w X.K X.mg X.base x k ps sp)(N:Room k X.A)(B:Gl X x)(M:PA X (e::es) t)(q:(x == ("__debug__" : Str))=false:=by decide)
  (J:zag (e::es) X.env=(false,eval e X.env)::zag es X.env:=by rfl) (z:(zaG pos (zag es X.env)).any (·.1)=false:=by rfl) :
  PE X (.Call (.Name x p) (e::es) [] pos) (TX sp t):=by
 obtain⟨f,fd,W,U,G,F⟩:=O.ex;have h:=xP (p:=p) (pos:=pos) F N B G W U .nil F9 M q J z;intro pins s σ H Q I hw;refine h pins s σ H Q I ?_;have e:(λ(vs:List V) (H1:Hp)=>sp (vs++[]) H1 Q E0)=λvs H1=>sp vs H1 Q E0:=by
  funext vs H1;rw[zbs]
 show t σ H λvs H1=>sp (vs++[]) H1 Q E0
 rw[e];exact hw
end
section
variable {P:zah}{w:World}{K:zae}{mg:Str->Option Value}{base:Heap}
def BodyOk(P:zah)(w:World)(K:zae)(mg:Str->Option Value)(base:Heap)(x:Str)(st:Stmt)(N:List Str)(k:Nat)(sp:Sp):Prop:=
 ∀(f:Addr) (cdv:Value) (A:zan) (outer:List Env) (s:zab) (H:Hp) (vs:List V) (Q:VK) (E:XK),Room k (A.deeper (zaM x (aM st) s.heap.objs.size f cdv))->sp vs H Q E->
   ∃t,PSs (i8 u3 P w K mg base N x (aM st) f cdv A outer s H E).nox (bQ st) t/\t {nx:=λ_ H'=>Q .non H',rt:=Q} (start N vs) H
theorem BodyOk.fn{x:Str}{st:Stmt}{N ps:List Str}{k:Nat}{sp:Sp}{f:Addr}{fd:zbe}(z:BodyOk P w K mg base x st N k sp)(F:Fun K x x st f fd)(S:FnScope N ps (aM st))(G:∀vs H Q E,sp vs H Q E->vs.length=ps.length) :
  FnOk P w K mg base u3 (k+1) f fd ps sp:=F.ok S G λB A q s H vs Q E J h=>z f B A q s H vs Q E J h
theorem BodyOk.ok{x:Str}{st:Stmt}{N ps:List Str}{k:Nat}{sp:Sp}(q:BodyOk P w K mg base x st N k sp)(D:DefAt K mg x st ps)(S:FnScope N ps (aM st))(z:∀vs H Q E,sp vs H Q E->vs.length=ps.length) :
  Ok P w K mg base x (k+1) ps sp:=by
 obtain⟨f,fd,F,B,G⟩:=D.ex;exact⟨f,fd,F.kp,B,G,q.fn F S z⟩
theorem Ok.mono(O:Ok P w K mg base x j ps sp)(h:j<=k):Ok P w K mg base x k ps sp:=by
 obtain⟨f,fd,q,z,B,F⟩:=O.ex;exact⟨f,fd,q,z,B,F.mono h⟩
end
def A8(K:zae):Sp:=λvs H Q _=>∃(a:Addr) (ns:List Int),vs=[.ref a]/\SqL K H a (ns.map V.int)/\ns.length<=63/\∀H',Q (.bl true) H'
theorem walk{l:zea}{q:zah}{B:List Str}{XP:(Str->Option Value)->Heap->Prop}{J:World->Heap->Prop}{d:DefRec}{K:Params->zae}{k:Nat}(hk:k<=100)(N:l.most=some 63)(G:d.params.defaults=[])
  (U:∀(w:World) (h:Heap),J w h->(K w.params).In h)
  (F:∀(w:World) (mg:Str -> Option Value) (fa:Addr) (h:Heap), (K w.params).In h -> h.Ns zaJ mg -> mg d.name = some (.ref fa) ->
   ∃fd:zbe,(∀(s:zab) (u:Value),BindsTo s fd ⟨[u],[]⟩ [("script",u)])/\∀base:Heap,(K w.params).In base->base.Ns zaJ mg->FnOk l.prog w (K w.params) mg base u3 k fa fd ["script"] (A8 (K w.params))) :
  PySem.W.WalkO q B XP J l.row.toRowW d [] (λf vs=>PySem.call f vs):=
 L2.OT (n:=63) (k:=k) (x := "script") (CX:=λ_=>u3) (sp:=λw=>A8 (K w.params)) N (by decide) G (Room.mono (k:=100) ⟨rfl,by decide,by decide⟩ hk) U F (λ_ _ a ns M _ Y=>⟨a,ns,rfl,Y,M,λ_=>rfl⟩) λ_ _ _ _ _ z=>z
theorem KP(h:H p=none):Same H (upd H p o):=λb u e=>by
 rw[aF (bH e h)];exact e
theorem Same.tupR{K:zae}{H H':Hp}{a:Addr}{xs:List V}(e:Same H H')(h:SqT K H a xs):SqT K H' a xs:=by
 rcases h with(h|⟨o,h⟩)|h
 ·exact .inl (.inl (e _ _ h))
 ·exact .inl (.inr ⟨o,e _ _ h⟩)
 ·exact .inr h
noncomputable def num(c:Int):Int:=if c%3=0 then c/3%21-10 else c/3%(2*10^60-1)-(10^60-1)
theorem boot_len:zaH "len" = some (.builtin "len"):=by decide +kernel
theorem boot_max:zaH "max" = some (.builtin "max"):=by decide +kernel
theorem boot_min:zaH "min" = some (.builtin "min"):=by decide +kernel
theorem boot_isinstance:zaH "isinstance" = some (.builtin "isinstance"):=by decide +kernel
theorem boot_int:zaH "int" = some (.type "int"):=by decide +kernel
theorem boot_bool:zaH "bool" = some (.type "bool"):=by decide +kernel
theorem boot_tuple:zaH "tuple" = some (.type "tuple"):=by decide +kernel
theorem boot_list:zaH "list" = some (.type "list"):=by decide +kernel
theorem boot_dict:zaH "dict" = some (.type "dict"):=by decide +kernel
theorem boot_range:zaH "range" = some (.type "range"):=by decide +kernel
theorem boot_zip:zaH "zip" = some (.type "zip"):=by decide +kernel
theorem boot_sum:zaH "sum" = some (.builtin "sum"):=by decide +kernel
end My
namespace My
open PySem PySem.Spec PyProof.Rows L2 PySem.SeqAt
inductive Dx where
 | non|bl (b:Bool)|int (i:Int)|str (x:Str)|tup (l:List Dx)|lst (l:List Dx)
mutual
def Rep(K:zae)(H:Hp):Dx->V->Prop
 | .non,v=>v=.non
 | .bl b,v=>v=.bl b
 | .int i,v=>v=.int i
 | .str x,v=>v=.str x
 | .tup l,v=>∃a xs,v=.ref a/\SqT K H a xs/\RepL K H l xs
 | .lst l,v=>∃a xs,v=.ref a/\SqL K H a xs/\RepL K H l xs
def RepL(K:zae)(H:Hp):List Dx->List V->Prop
 | [],vs=>vs=[]
 | d::ds,vs=>∃x xs,vs=x::xs/\Rep K H d x/\RepL K H ds xs
end
section
variable {K:zae}{H H':Hp}
mutual
theorem Rep.same(e:Same H H'):∀(d:Dx) (v:V),Rep K H d v->Rep K H' d v
 | .non,v,h=>by rw[Rep]at h ⊢;exact h
 | .bl b,v,h=>by rw[Rep]at h ⊢;exact h
 | .int i,v,h=>by rw[Rep]at h ⊢;exact h
 | .str x,v,h=>by rw[Rep]at h ⊢;exact h
 | .tup l,v,h=>by
  rw[Rep]at h ⊢;obtain⟨a,xs,q,h1,h2⟩:=h;exact⟨a,xs,q,Same.tupR e h1,RepL.same e l xs h2⟩
 | .lst l,v,h=>by
  rw[Rep]at h ⊢;obtain⟨a,xs,q,h1,h2⟩:=h;exact⟨a,xs,q,e.seq h1,RepL.same e l xs h2⟩
theorem RepL.same(e:Same H H'):∀(ds:List Dx) (vs:List V),RepL K H ds vs->RepL K H' ds vs
 | [],vs,h=>by rw[RepL]at h ⊢;exact h
 | d::ds,vs,h=>by
  rw[RepL]at h ⊢;obtain⟨x,xs,q,h1,h2⟩:=h;exact⟨x,xs,q,Rep.same e d x h1,RepL.same e ds xs h2⟩
end
theorem RepL.nil:RepL K H [] []:=by rw[RepL]
theorem RepL.cons(h1:Rep K H d v)(h2:RepL K H ds vs):RepL K H (d::ds) (v::vs):=by
 rw[RepL];exact⟨v,vs,rfl,h1,h2⟩
theorem RepL.length:∀ {ds:List Dx} {vs:List V},RepL K H ds vs->vs.length=ds.length
 | [],vs,h=>by rw[RepL]at h;rw[h];rfl
 | d::ds,vs,h=>by
  rw[RepL]at h;obtain⟨x,xs,rfl,_,h2⟩:=h;rw[zaz,zaz,RepL.length h2]
theorem RepL.get':∀ {ds:List Dx} {vs:List V} {i:Nat} {d:Dx},RepL K H ds vs->ds[i]?=some d->∃v,vs[i]?=some v/\Rep K H d v
 | [],vs,i,d,h,e=>by simp at e
 | d'::ds,vs,i,d,h,e=>by
  rw[RepL]at h;obtain⟨x,xs,rfl,h1,h2⟩:=h;cases i with
  | zero=>simp at e;subst e;exact⟨x,rfl,h1⟩
  | succ i=>exact RepL.get' (i:=i) (ds:=ds) h2 (by simpa using e)
theorem RepL.append:∀ {ds es:List Dx} {vs us:List V},RepL K H ds vs->RepL K H es us->RepL K H (ds++es) (vs++us)
 | [],es,vs,us,h,h'=>by rw[RepL]at h;rw[h];exact h'
 | d::ds,es,vs,us,h,h'=>by
  rw[RepL]at h;obtain⟨x,xs,rfl,h1,h2⟩:=h;exact RepL.cons h1 (RepL.append h2 h')
mutual
def Dx.dep:Dx->Nat
 | .tup l=>l7 l+1
 | .lst l=>l7 l+1
 | .non=>0
 | .bl _=>0
 | .int _=>0
 | .str _=>0
def l7:List Dx->Nat
 | []=>0
 | d::ds=>max d.dep (l7 ds)
end
mutual
def Dx.nb:Dx->Bool
 | .bl _=>false
 | .tup l=>GE l
 | .lst l=>GE l
 | .non=>true
 | .int _=>true
 | .str _=>true
def GE:List Dx->Bool
 | []=>true
 | d::ds=>d.nb && GE ds
end
theorem EJ:∀ {ds:List Dx} {i:Nat} {d:Dx},ds[i]?=some d->d.dep<=l7 ds
 | [],i,d,e=>by simp at e
 | d'::ds,0,d,e=>by simp at e;subst e;rw[l7];lia
 | d'::ds,i+1,d,e=>by
  have:=EJ (ds:=ds) (i:=i) (by simpa using e);rw[l7];lia
theorem DD:∀ {ds:List Dx} {i:Nat} {d:Dx},GE ds=true->ds[i]?=some d->d.nb=true
 | [],i,d,_,e=>by simp at e
 | d'::ds,0,d,h,e=>by simp at e;subst e;rw[GE,zaP]at h;exact h.1
 | d'::ds,i+1,d,h,e=>by
  rw[GE,zaP]at h;exact DD h.2 (by simpa using e)
end
section
variable {X:Cx}{pins:List (Addr×Obj)}{σ:L2.St}{H:Hp}{s:zab}
theorem D6(I:Inv X pins σ H s)(h1:SqL X.K H a xs)(h2:SqT X.K H a ys):False:=by
 obtain⟨B,_,⟨o,n,e,c,_⟩,_⟩:=I.list h1;obtain⟨its',_,⟨o',z,q,_⟩,_⟩:=I.tuple h2;rw[e]at z;cases z;rw[c]at q;exact absurd q (by decide)
mutual
theorem Rep.inj(I:Inv X pins σ H s):∀(d e:Dx) (v:V),Rep X.K H d v->Rep X.K H e v->d=e
 | .non,e,v,h,h'=>by
  rw[Rep]at h;subst h;cases e <;> (rw[Rep]at h') <;> first|rfl|(cases h';done)|(obtain⟨_,_,z,_⟩:=h';cases z)
 | .bl b,e,v,h,h'=>by
  rw[Rep]at h;subst h;cases e <;> (rw[Rep]at h') <;> first|(cases h';rfl)|(cases h';done)|(obtain⟨_,_,z,_⟩:=h';cases z)
 | .int i,e,v,h,h'=>by
  rw[Rep]at h;subst h;cases e <;> (rw[Rep]at h') <;> first|(cases h';rfl)|(cases h';done)|(obtain⟨_,_,z,_⟩:=h';cases z)
 | .str x,e,v,h,h'=>by
  rw[Rep]at h;subst h;cases e <;> (rw[Rep]at h') <;> first|(cases h';rfl)|(cases h';done)|(obtain⟨_,_,z,_⟩:=h';cases z)
 | .tup l,e,v,h,h'=>by
  rw[Rep]at h;obtain⟨a,xs,rfl,h1,h2⟩:=h;cases e with
  | tup m=>
   rw[Rep]at h';obtain⟨b,ys,B,q,F⟩:=h';cases B;have G:=I.tuple_inj h1 q;subst G;rw[RepL.inj I l m xs h2 F]
  | lst m=>
   rw[Rep]at h';obtain⟨b,ys,B,q,F⟩:=h';cases B;exact(D6 I q h1).elim
  | non=>rw[Rep]at h';cases h'
  | bl b=>rw[Rep]at h';cases h'
  | int i=>rw[Rep]at h';cases h'
  | str x=>rw[Rep]at h';cases h'
 | .lst l,e,v,h,h'=>by
  rw[Rep]at h;obtain⟨a,xs,rfl,h1,h2⟩:=h;cases e with
  | lst m=>
   rw[Rep]at h';obtain⟨b,ys,B,q,F⟩:=h';cases B;have G:=I.list_inj h1 q;subst G;rw[RepL.inj I l m xs h2 F]
  | tup m=>
   rw[Rep]at h';obtain⟨b,ys,B,q,F⟩:=h';cases B;exact(D6 I h1 q).elim
  | non=>rw[Rep]at h';cases h'
  | bl b=>rw[Rep]at h';cases h'
  | int i=>rw[Rep]at h';cases h'
  | str x=>rw[Rep]at h';cases h'
theorem RepL.inj(I:Inv X pins σ H s):∀(ds es:List Dx) (vs:List V),RepL X.K H ds vs->RepL X.K H es vs->ds=es
 | [],es,vs,h,h'=>by
  rw[RepL]at h;subst h;cases es with
  | nil=>rfl
  | cons e es=>rw[RepL]at h';obtain⟨_,_,z,_⟩:=h';cases z
 | d::ds,es,vs,h,h'=>by
  rw[RepL]at h;obtain⟨x,xs,rfl,h1,h2⟩:=h;cases es with
  | nil=>rw[RepL]at h';cases h'
  | cons e es=>
   rw[RepL]at h';obtain⟨_,_,z,B,q⟩:=h';cases z;rw[Rep.inj I d e x h1 B,RepL.inj I ds es xs h2 q]
end
end
open Classical in
theorem wR:∀(ds es:List Dx),((zas (min ds.length es.length)).all (λj=>decide (ds.getD j .non=es.getD j .non)) && ds.length == es.length)=decide (ds=es):=by
 intro ds es;by_cases h:ds=es
 ·subst h
  simp
 ·rw[decide_eq_false h]
  by_cases q:ds.length=es.length
  ·simp only[q,Nat.min_self,beq_self_eq_true,Bool.and_true]
   rw[Bool.eq_false_iff];intro z;rw[List.all_eq_true]at z;refine h (List.ext_getElem q λi h1 h2=>?_);have:=of_decide_eq_true (z i (List.mem_range.mpr h2));simpa[List.getD,h1,h2]using this
  ·have:(ds.length == es.length)=false:=by simpa using q
   rw[this,Bool.and_false]
open Classical in
theorem zA(ds es:List Dx)(h:ds.length=es.length):((zas ds.length).all (λj=>decide (ds.getD j .non=es.getD j .non)))=decide (ds=es):=by
 have:=wR ds es;rw[h,Nat.min_self,beq_self_eq_true,Bool.and_true]at this;rw[h];exact this
section
variable {X:Cx}{pins:List (Addr×Obj)}{σ:L2.St}{H:Hp}{s:zab}
theorem EqAt.to(h:EqAt A s u v b)(e:b=c):EqAt A s u v c:=e ▸ h
open Classical in
theorem nF(I:Inv X pins σ H s){n:Nat}(ih:∀(A:zan) (d e:Dx) (x y:V) (u v:Value),d.dep<=n->A.units+n<cLine->d.nb=true->e.nb=true->Rep X.K H d x->Rep X.K H e y->RelV x u->RelV y v->EqAt A s u v (decide (d=e)))
  {A:zan} {ds es:List Dx} {xs ys:List V} {q vs:List Value} (hd:l7 ds<=n) (hu:A.units+(n+1)<cLine) (h1:GE ds=true) (h2:GE es=true) (r1:RepL X.K H ds xs) (r2:RepL X.K H es ys) (G:Vals xs q) (F:Vals ys vs) :
  ∀j (h1:j<q.toArray.size) (h2:j<vs.toArray.size),EqAt A.in1 s q.toArray[j] vs.toArray[j] (decide (ds.getD j .non=es.getD j .non)):=by
 intro j U j2;have l1:=r1.length;have l2:=r2.length;have l3:=G.length;have l4:=F.length;have k1:j<q.length:=by simpa using U
 have k2:j<vs.length:=by simpa using j2
 have z:ds[j]?=some (ds.getD j .non):=by simp[List.getD,show j<ds.length by lia]
 have J:es[j]?=some (es.getD j .non):=by simp[List.getD,show j<es.length by lia]
 obtain⟨x,ex,Y⟩:=r1.get' z;obtain⟨y,N,ry⟩:=r2.get' J;obtain⟨u,B,ru⟩:=G.get ex;obtain⟨v,ev,rv⟩:=F.get N;have W:q.toArray[j]=u:=by
  rw[zaR k1]at B;simpa using zaF B
 have M:vs.toArray[j]=v:=by
  rw[zaR k2]at ev;simpa using zaF ev
 rw[W,M];exact ih A.in1 _ _ x y u v (zaK (EJ z) hd) (by show A.units+1+n<cLine;lia) (DD h1 z) (DD h2 J) Y ry ru rv
end
section
variable {X:Cx}{pins:List (Addr×Obj)}{σ:L2.St}{H:Hp}{s:zab}
theorem PlainL.isList(p:PlainL h a its):h.IsList a its:=by
 obtain⟨o,n,e,c,_,d⟩:=p;exact⟨o,e,c,n,d⟩
open Classical in
theorem qX(I:Inv X pins σ H s) :
  ∀(n:Nat) (A:zan) (d e:Dx) (x y:V) (u v:Value),d.dep<=n->A.units+n<cLine->d.nb=true->e.nb=true->Rep X.K H d x->Rep X.K H e y->RelV x u->RelV y v->EqAt A s u v (decide (d=e)):=by
 intro n;induction n with
 | zero=>
  intro A d e x y u v hd hu U J r1 r2 W B;have q:A.units<cLine:=by lia
  cases d with
  | bl b=>rw[Dx.nb]at U;cases U
  | tup l=>rw[Dx.dep]at hd;lia
  | lst l=>rw[Dx.dep]at hd;lia
  | non=>
   rw[Rep]at r1;subst r1;cases W;cases e with
   | bl b=>rw[Dx.nb]at J;cases J
   | non=>rw[Rep]at r2;subst r2;cases B;exact EqAt.to (EqAt.same _) (by simp)
   | int i=>rw[Rep]at r2;subst r2;obtain⟨t,rfl⟩:=B;exact EqAt.to (EqAt.none_int _ _) (by simp)
   | str i=>rw[Rep]at r2;subst r2;obtain⟨t,rfl⟩:=B;exact EqAt.to (EqAt.none_str _ _) (by simp)
   | tup l=>
    rw[Rep]at r2;obtain⟨a,xs,rfl,h1,_⟩:=r2;cases B;obtain⟨G,_,F,_⟩:=I.tuple h1;exact EqAt.to (EqAt.none_tuple F q) (by simp)
   | lst l=>
    rw[Rep]at r2;obtain⟨a,xs,rfl,h1,_⟩:=r2;cases B;obtain⟨G,_,F,_⟩:=I.list h1;exact EqAt.to (EqAt.none_list F.isList q) (by simp)
  | int i=>
   rw[Rep]at r1;subst r1;obtain⟨t,rfl⟩:=W;cases e with
   | bl b=>rw[Dx.nb]at J;cases J
   | non=>rw[Rep]at r2;subst r2;cases B;exact EqAt.to (EqAt.int_none _ _) (by simp)
   | int j=>rw[Rep]at r2;subst r2;obtain⟨t',rfl⟩:=B;exact EqAt.to (EqAt.int_int _ _ _ _) (by simp[Bool.beq_eq_decide_eq])
   | str j=>rw[Rep]at r2;subst r2;obtain⟨t',rfl⟩:=B;exact EqAt.to (EqAt.int_str _ _ _ _) (by simp)
   | tup l=>
    rw[Rep]at r2;obtain⟨a,xs,rfl,h1,_⟩:=r2;cases B;obtain⟨G,_,F,_⟩:=I.tuple h1;exact EqAt.to (EqAt.int_tuple _ _ F q) (by simp)
   | lst l=>
    rw[Rep]at r2;obtain⟨a,xs,rfl,h1,_⟩:=r2;cases B;obtain⟨G,_,F,_⟩:=I.list h1;exact EqAt.to (EqAt.int_list _ _ F.isList q) (by simp)
  | str i=>
   rw[Rep]at r1;subst r1;obtain⟨t,rfl⟩:=W;cases e with
   | bl b=>rw[Dx.nb]at J;cases J
   | non=>rw[Rep]at r2;subst r2;cases B;exact EqAt.to (EqAt.str_none _ _) (by simp)
   | int j=>rw[Rep]at r2;subst r2;obtain⟨t',rfl⟩:=B;exact EqAt.to (EqAt.str_int _ _ _ _) (by simp)
   | str j=>rw[Rep]at r2;subst r2;obtain⟨t',rfl⟩:=B;exact EqAt.to (EqAt.str_str _ _ _ _) (by simp[Bool.beq_eq_decide_eq])
   | tup l=>
    rw[Rep]at r2;obtain⟨a,xs,rfl,h1,_⟩:=r2;cases B;obtain⟨G,_,F,_⟩:=I.tuple h1;exact EqAt.to (EqAt.str_tuple _ _ F q) (by simp)
   | lst l=>
    rw[Rep]at r2;obtain⟨a,xs,rfl,h1,_⟩:=r2;cases B;obtain⟨G,_,F,_⟩:=I.list h1;exact EqAt.to (EqAt.str_list _ _ F.isList q) (by simp)
 | succ n ih=>
  intro A d e x y u v hd hu U J r1 r2 W B;have q:A.units<cLine:=by lia
  cases d with
  | bl b=>rw[Dx.nb]at U;cases U
  | non=>exact ih A _ e x y u v (by rw[Dx.dep];lia) (by lia) U J r1 r2 W B
  | int i=>exact ih A _ e x y u v (by rw[Dx.dep];lia) (by lia) U J r1 r2 W B
  | str i=>exact ih A _ e x y u v (by rw[Dx.dep];lia) (by lia) U J r1 r2 W B
  | tup l=>
   have aa:=r1;rw[Rep]at r1;obtain⟨a,xs,rfl,h1,q1⟩:=r1;cases W;obtain⟨G,v1,F,_⟩:=I.tuple h1;cases e with
   | bl b=>rw[Dx.nb]at J;cases J
   | non=>rw[Rep]at r2;subst r2;cases B;exact EqAt.to (EqAt.tuple_none F q) (by simp)
   | int j=>rw[Rep]at r2;subst r2;obtain⟨t',rfl⟩:=B;exact EqAt.to (EqAt.tuple_int _ _ F q) (by simp)
   | str j=>rw[Rep]at r2;subst r2;obtain⟨t',rfl⟩:=B;exact EqAt.to (EqAt.tuple_str _ _ F q) (by simp)
   | lst m=>
    rw[Rep]at r2;obtain⟨b,ys,rfl,h2,q2⟩:=r2;cases B;obtain⟨M,Y,N,_⟩:=I.list h2;exact EqAt.to (EqAt.tuple_list F N.isList q) (by simp)
   | tup m=>
    by_cases hv:v=zar a
    ·subst hv
     obtain rfl:y=V.ref a:=RelV.inj B rfl;have:=Rep.inj I _ _ _ aa r2;rw[this];exact EqAt.to (EqAt.same _) (by simp)
    ·rw[Rep]at r2;obtain⟨b,ys,rfl,h2,q2⟩:=r2;cases B
     obtain⟨M,Y,N,_⟩:=I.tuple h2;rw[Dx.dep]at hd;rw[Dx.nb]at U J;refine EqAt.to (EqAt.of_refs (λz=>hv (by rw[z])) (RcAt.tuples F N q (nF I ih (by lia) hu U J q1 q2 v1 Y))) ?_;have e1:G.toArray.size=l.length:=by rw[zax,<- v1.length,q1.length]
     have e2:M.toArray.size=m.length:=by rw[zax,<- Y.length,q2.length]
     rw[e1,e2,wR];simp
  | lst l=>
   have aa:=r1;rw[Rep]at r1;obtain⟨a,xs,rfl,h1,q1⟩:=r1;cases W;obtain⟨G,v1,F,_⟩:=I.list h1;cases e with
   | bl b=>rw[Dx.nb]at J;cases J
   | non=>rw[Rep]at r2;subst r2;cases B;exact EqAt.to (EqAt.list_none F.isList q) (by simp)
   | int j=>rw[Rep]at r2;subst r2;obtain⟨t',rfl⟩:=B;exact EqAt.to (EqAt.list_int _ _ F.isList q) (by simp)
   | str j=>rw[Rep]at r2;subst r2;obtain⟨t',rfl⟩:=B;exact EqAt.to (EqAt.list_str _ _ F.isList q) (by simp)
   | tup m=>
    rw[Rep]at r2;obtain⟨b,ys,rfl,h2,q2⟩:=r2;cases B;obtain⟨M,Y,N,_⟩:=I.tuple h2;exact EqAt.to (EqAt.list_tuple F.isList N q) (by simp)
   | lst m=>
    by_cases hv:v=zar a
    ·subst hv
     obtain rfl:y=V.ref a:=RelV.inj B rfl;have:=Rep.inj I _ _ _ aa r2;rw[this];exact EqAt.to (EqAt.same _) (by simp)
    ·rw[Rep]at r2;obtain⟨b,ys,rfl,h2,q2⟩:=r2;cases B
     obtain⟨M,Y,N,_⟩:=I.list h2;rw[Dx.dep]at hd;rw[Dx.nb]at U J;have e1:G.toArray.size=l.length:=by rw[zax,<- v1.length,q1.length]
     have e2:M.toArray.size=m.length:=by rw[zax,<- Y.length,q2.length]
     by_cases hl:l.length=m.length
     ·refine EqAt.to (EqAt.of_refs (λz=>hv (by rw[z])) (RcAt.lists F.isList N.isList (by rw[e1,e2,hl]) q (nF I ih (by lia) hu U J q1 q2 v1 Y))) ?_
      rw[e1,zA _ _ hl];simp
     ·refine EqAt.to (EqAt.of_refs (λz=>hv (by rw[z])) (RcAt.lists_lengths F.isList N.isList (by rw[e1,e2];simpa using hl) q)) ?_
      rw[decide_eq_false];intro z;cases z;exact hl rfl
end
noncomputable def Dx.seq:Dx->Bool
 | .tup _=>true | .lst _=>true | .non=>false | .bl _=>false | .int _=>false | .str _=>false
open Classical in
def Z1(K:zae)(neg:Bool):R2:=λx y H Q=>∃d e,Rep K H d x/\Rep K H e y/\d.seq=true/\e.seq=true/\d.nb=true/\e.nb=true/\d.dep<=60/\Q (.bl (if neg then !decide (d=e)else decide (d=e))) H
section
variable {X:Cx}{pins:List (Addr×Obj)}{σ:L2.St}{H:Hp}{s:zab}
open Classical in
theorem SS(I:Inv X pins σ H s)(hu:X.A.units+64<cLine)(r1:Rep X.K H d x)(r2:Rep X.K H e y)(q1:d.seq=true)(J:e.seq=true)(n1:d.nb=true)(n2:e.nb=true)(hd:d.dep<=60)(ru:RelV x u)(rv:RelV y v) :
  RcAt X.A s u v (decide (d=e))/\RcNeAt X.A s u v (!decide (d=e)):=by
 have B:X.A.units<cLine:=by lia
 cases d with
 | bl b=>cases q1
 | non=>cases q1
 | int b=>cases q1
 | str b=>cases q1
 | tup l=>
  rw[Rep]at r1;obtain⟨a,xs,rfl,h1,k1⟩:=r1;cases ru;obtain⟨N,v1,G,_⟩:=I.tuple h1;have U:N.toArray.size=l.length:=by rw[zax,<- v1.length,k1.length]
  cases e with
  | bl b=>cases J
  | non=>cases J
  | int b=>cases J
  | str b=>cases J
  | tup m=>
   rw[Rep]at r2;obtain⟨b,ys,rfl,h2,k2⟩:=r2;cases rv;obtain⟨F,M,q,_⟩:=I.tuple h2;have Y:F.toArray.size=m.length:=by rw[zax,<- M.length,k2.length]
   rw[Dx.dep]at hd;rw[Dx.nb]at n1 n2;have he:=nF I (qX I 60) (A:=X.A) (by lia) (by lia) n1 n2 k1 k2 v1 M;have a1:=RcAt.tuples G q B he;have a2:=RcNeAt.tuples G q B he;rw[U,Y,wR]at a1 a2;have z:decide (Dx.tup l=Dx.tup m)=decide (l=m):=by simp
   rw[z];exact⟨a1,a2⟩
  | lst m=>
   rw[Rep]at r2;obtain⟨b,ys,rfl,h2,k2⟩:=r2;cases rv;obtain⟨F,M,q,_⟩:=I.list h2;have z:decide (Dx.tup l=Dx.lst m)=false:=by simp
   rw[z];exact⟨RcAt.tuple_list G q.isList B,RcNeAt.tuple_list G q.isList B⟩
 | lst l=>
  rw[Rep]at r1;obtain⟨a,xs,rfl,h1,k1⟩:=r1;cases ru;obtain⟨N,v1,G,_⟩:=I.list h1;have U:N.toArray.size=l.length:=by rw[zax,<- v1.length,k1.length]
  cases e with
  | bl b=>cases J
  | non=>cases J
  | int b=>cases J
  | str b=>cases J
  | tup m=>
   rw[Rep]at r2;obtain⟨b,ys,rfl,h2,k2⟩:=r2;cases rv;obtain⟨F,M,q,_⟩:=I.tuple h2;have z:decide (Dx.lst l=Dx.tup m)=false:=by simp
   rw[z];exact⟨RcAt.list_tuple G.isList q B,RcNeAt.list_tuple G.isList q B⟩
  | lst m=>
   rw[Rep]at r2;obtain⟨b,ys,rfl,h2,k2⟩:=r2;cases rv;obtain⟨F,M,q,_⟩:=I.list h2;have Y:F.toArray.size=m.length:=by rw[zax,<- M.length,k2.length]
   rw[Dx.dep]at hd;rw[Dx.nb]at n1 n2;have z:decide (Dx.lst l=Dx.lst m)=decide (l=m):=by simp
   rw[z];by_cases W:l.length=m.length
   ·have he:=nF I (qX I 60) (A:=X.A) (by lia) (by lia) n1 n2 k1 k2 v1 M
    have a1:=RcAt.lists G.isList q.isList (by rw[U,Y,W]) B he;have a2:=RcNeAt.lists G.isList q.isList (by rw[U,Y,W]) B he;rw[U,zA _ _ W]at a1 a2;exact⟨a1,a2⟩
   ·have z2:decide (l=m)=false:=decide_eq_false λz=>W (by rw[z])
    rw[z2];exact⟨RcAt.lists_lengths G.isList q.isList (by rw[U,Y];simpa using W) B,RcNeAt.lists_lengths G.isList q.isList (by rw[U,Y];simpa using W) B⟩
end
section
variable {X:Cx}
theorem VO(G:X.A.units+64<cLine):OpR X (zay .Eq) (Z1 X.K false):=by
 intro pins s σ H x y v u Q I N z h;obtain⟨d,e,r1,r2,B,F,J,M,hd,q⟩:=h;exact(SS I G r1 r2 B F J M hd N z).1 X.prog X.w X.xe _ ⟨.bl _,H,I,rfl,q⟩
theorem TQ(G:X.A.units+64<cLine):OpR X (zay .NotEq) (Z1 X.K true):=by
 intro pins s σ H x y v u Q I N z h;obtain⟨d,e,r1,r2,B,F,J,M,hd,q⟩:=h;exact(SS I G r1 r2 B F J M hd N z).2 X.prog X.w X.xe _ ⟨.bl _,H,I,rfl,q⟩
end
def TSame(H H':Hp):Prop:=∀b xs,Rd H b (.tup xs)->Rd H' b (.tup xs)
theorem Same.t(e:Same H H'):TSame H H':=λb xs h=>by
 rcases h with h|⟨o,h⟩
 ·exact .inl (e _ _ h)
 ·exact .inr ⟨o,e _ _ h⟩
theorem TSame.trans(a:TSame H H1)(b:TSame H1 H2):TSame H H2:=λc o h=>b c o (a c o h)
theorem TSame.put(h:H l=some (.lst us)):TSame H (upd H l o):=λb xs q=>by
 have B:b≠l:=λz=>by
  subst z;rcases q with q|⟨F,q⟩ <;> (rw[h]at q;cases q)
 rcases q with q|⟨F,q⟩
 ·exact .inl (by rw[aF B];exact q)
 ·exact .inr ⟨F,by rw[aF B];exact q⟩
theorem TSame.sq{K:zae}{H H':Hp}{a:Addr}{xs:List V}(e:TSame H H')(h:SqT K H a xs):SqT K H' a xs:=by
 rcases h with h|h
 ·exact .inl (e _ _ h)
 ·exact .inr h
mutual
def Dx.nl:Dx->Bool
 | .lst _=>false
 | .tup l=>qy l
 | .non=>true
 | .bl _=>true
 | .int _=>true
 | .str _=>true
def qy:List Dx->Bool
 | []=>true
 | d::ds=>d.nl && qy ds
end
section
variable {K:zae}{H H':Hp}
mutual
theorem Rep.tsame(e:TSame H H'):∀(d:Dx) (v:V),d.nl=true->Rep K H d v->Rep K H' d v
 | .non,v,_,h=>by rw[Rep]at h ⊢;exact h
 | .bl b,v,_,h=>by rw[Rep]at h ⊢;exact h
 | .int i,v,_,h=>by rw[Rep]at h ⊢;exact h
 | .str x,v,_,h=>by rw[Rep]at h ⊢;exact h
 | .tup l,v,n,h=>by
  rw[Rep]at h ⊢;rw[Dx.nl]at n;obtain⟨a,xs,q,h1,h2⟩:=h;exact⟨a,xs,q,e.sq h1,RepL.tsame e l xs n h2⟩
 | .lst l,v,n,h=>by rw[Dx.nl]at n;cases n
theorem RepL.tsame(e:TSame H H'):∀(ds:List Dx) (vs:List V),qy ds=true->RepL K H ds vs->RepL K H' ds vs
 | [],vs,_,h=>by rw[RepL]at h ⊢;exact h
 | d::ds,vs,n,h=>by
  rw[RepL]at h ⊢;rw[qy,zaP]at n;obtain⟨x,xs,q,h1,h2⟩:=h;exact⟨x,xs,q,Rep.tsame e d x n.1 h1,RepL.tsame e ds xs n.2 h2⟩
end
theorem FJ{q:Type}{f:q->Dx}(h:∀x,(f x).nb=true):∀l:List q,GE (l.map f)=true
 | []=>by rw[zb8,GE]
 | x::l=>by rw[zak,GE,h x,FJ h l];rfl
theorem zB{q:Type}{f:q->Dx}{n:Nat}(h:∀x,(f x).dep<=n):∀l:List q,l7 (l.map f)<=n
 | []=>by rw[zb8,l7];lia
 | x::l=>by
  have a:=h x;have b:=zB h l;rw[zak,l7]
  lia
end
theorem Same.put(e:Same H H')(h:H l=none):Same H (upd H' l o):=λb u q=>by
 rw[aF (bH q h)];exact e b u q
def aZ(X:Cx)(N:List Str)(scope:Scope)(q:List (Str×Addr))(C:Addr)(s:zab)(H:Hp)(fp:List Addr):Cx where
 prog:=X.prog
 w:=X.w
 K:=X.K
 mg:=X.mg
 base:=X.base
 A:=X.A
 N:=N
 s₀:=s
 H₀:=H
 env:=compEnvC scope q C X.env
 outer:=X.stack
 stack:=X.stack
 ex:=fp
 fn:=λ_=>false
 calm:=X.calm
 pn:=[]
 xe:=λ_ _=>False
def DT(X:Cx)(q:List Expr)(t:TT):Prop:=
 ∀(pins:List (Addr×Obj)) (s:zab) (σ:L2.St) (H:Hp) (Q:Bool->Hp->Prop),Inv X pins σ H s->t σ H Q->
  wpAny (model X.prog X.w) X.A (forIn q true λc r=>if r=true then do let ok <- isTrue c X.env (eval c X.env);pure (zcC ok)else pure (zcC r)) (TP X pins σ Q) X.xe s
def qaa:TT:=λ_ H Q=>Q true H
theorem PJ:DT X [] qaa:=λpins s σ H Q I h=>wpAny_tests_nil ⟨H,I,h⟩
theorem P7(h:PT X c t):DT X [c] t:=λpins s σ H Q I hw=>wpAny_tests_one (h pins s σ H Q I hw)
structure Clo(X:Cx)(N:List Str)(scope:Scope)(cl:List (Str×Addr)):Prop where
 clos:closureFor scope X.env=pure cl
 kind:scope.kind=.function
 nocell:∀y∈scope.names,y.2≠.cell
 names:∀y∈scope.names,y.2=.local->scope.names.lookup y.1=some .local
 sub:∀x c,cl.lookup x=some c->X.env.cells.lookup x=some c
 has:∀x,((zbc scope X.env).names.lookup x=some .cell\/(zbc scope X.env).names.lookup x=some .free)->∃c,cl.lookup x=some c
def Start(X:Cx)(N:List Str)(scope:Scope)(σ q:L2.St):Prop:=
 q.length=N.length/\∀(j:Nat) (x:Str) (v:V),N[j]?=some x->q[j]?=some (some v)->W8 (zbc scope X.env) x->¬ (zbc scope X.env).names.lookup x=some .local/\∃i:Nat,X.N[i]?=some x/\σ[i]?=some (some v)/\(X.env.kindOf x=some .cell\/X.env.kindOf x=some .free)
def GA(wi:TI)(g:TG)(tt:TT)(te:TE)(S:L2.St->L2.St->Prop):TE:=λσ H Q=>∃G,S σ G/\wi σ H λJ H1=>∀D,H1 D=none->∃W:Nat->Nat->L2.St->List V->Hp->Prop,(∃m,W 0 m G [] (upd H1 D (.lst []))) /\
 ∀i m B z H2,W i m B z H2->(J.stop i H2/\Q (.ref D) H2)\/(J.go i H2/\z.length<zai/\∀x U,J.yld i H2 x U->g x B U λq Y=>tt q Y λok M=>
  if ok=true then te q M λv N=>N D=some (.lst z)/\∃F,F<m/\W (i+1) F q (z++[v]) (upd N D (.lst (z++[v])))else M D=some (.lst z)/\∃F,F<m/\W (i+1) F q z M)
section
variable {X:Cx}
theorem PQ(B:Inv X pins σ H3 s3)(G:Clo X N scope cl)(J:∀b∈fp,kK X pins H3 b)(fe:∀b∈fp,∃o,s3.heap.get? b=some o) :
  (aZ X N scope cl s3.heap.objs.size s3 H3 fp).Ok where
 mod:=B.ok.mod
 kind:=G.kind
 glob:=B.ok.glob
 blt:=B.ok.blt
 above:=zaj _
 inj:=λx y c h1 h2=>B.ok.inj x y c (G.sub x c h1) (G.sub y c h2)
 has:=λx h=>G.has x h
 cab:=λx c h _=>nomatch h
 hd:=B.ok.hd
 frames:=B.ok.frames
 stk:=.inl rfl
 exf:=λb F=>by
  obtain⟨o,e⟩:=fe b F;exact⟨zaE (zao e),λx c h=>(J b F).2.2.2.2.1 x c (G.sub x c h)⟩
 bs:=B.bs
 bsz:=zaK B.ok.bsz B.sz
 noex:=λb o e F=>by
  rcases(J b F).2.2.2.1 with z|z
  ·exact B.ok.noex b o e z
  ·exact absurd (zaW (zao e) B.ok.bsz) (Nat.not_lt.mpr z)
 exfs:=λb F z=>by
  rcases List.mem_cons.mp (B.stkSub b z)with q|q
  ·exact(J b F).2.1 q
  ·exact(J b F).2.2.1 q
 funs:=B.stack
 frf:=B.stkFree
theorem JG(B:Inv X pins σ H3 s3)(J:Clo X N scope cl)(ff:∀b∈fp,kK X pins H3 b)(fe:∀b∈fp,∃o,s3.heap.get? b=some o)
  (st:Start X N scope σ σ') (ho:s4.os=s3.os) (hg:s4.gens=s3.gens) (M:∀b o,s3.heap.get? b=some o->s4.heap.get? b=some o) (hn:s4.heap.Ns s3.heap.objs.size m) :
  Inv (aZ X N scope cl s3.heap.objs.size s3 H3 fp) [] σ' H3 s4 where
 ok:=PQ B J ff fe
 os:=ho
 bare:=by rw[hg];exact B.bare
 base:=Un.kept M
 loc:=by
  refine⟨m,hn,λj x v h1 h2 z=>?_⟩;obtain⟨nl,i,W,e2,q⟩:=st.2 j x v h1 h2 z;obtain⟨m0,ao,U⟩:=B.loc;have ab:W8 X.env.scope x:=by
   rcases q with q|q
   ·exact .inr (.inl q)
   ·exact .inr (.inr q)
  obtain⟨u,ru,l⟩:=U i x v W e2 ab;refine⟨u,ru,?_⟩;rcases l with⟨lk,_⟩|⟨_,c,hc,F⟩
  ·rcases q with q|q <;> (rw[lk]at q;cases q)
  ·have kk:(zbc scope X.env).names.lookup x=some .cell\/(zbc scope X.env).names.lookup x=some .free:=by
    rcases z with z|z|z
    ·exact absurd z nl
    ·exact .inl z
    ·exact .inr z
   obtain⟨c',G⟩:=J.has x kk;have ec:=J.sub x c' G;rw[hc]at ec;cases ec;obtain⟨o,aa,Y⟩:=F;exact .inr ⟨kk,c,G,o,M c o aa,Y⟩
 cell:=λx c e=>by
  obtain⟨v,o,W,d1⟩:=B.cell x c (J.sub x c e);exact⟨v,o,M c o W,d1⟩
 free:=B.hok.fresh (zaj _)
 freeC:=λx c e=>B.freeC x c (J.sub x c e)
 pin:=λp hp=>nomatch hp
 hok:=B.hok.kept M
 len:=st.1
theorem comp_back(I3:Inv X pins σ H3 s3)(ff:∀b∈fp,kK X pins H3 b)
  (B:Inv (aZ X N scope cl s3.heap.objs.size s3 H3 fp) [] σ5 H5 s5) (hs:za4 s3.heap.objs.size s5.heap h'):Inv X pins σ H5 {s5 with heap:=h'}:=by
 have G:∀b o,s3.heap.get? b=some o->b≠s3.heap.objs.size:=λb o e=>zaE (zao e)
 have u:=B.base;refine I3.call' (s':={s5 with heap:=h'}) (ch:=fp) B.os ⟨λb o e n F hx=>?_,λb o e n F hx=>?_,u.free,λb o e hx=>?_,u.tups,u.frzs,u.tbls⟩ ?_ B.bare λb F=>?_
 ·exact(hs.2 b (G b o e)).trans (u.keep b o e n F hx)
 ·obtain⟨sl,q⟩:=u.slot b o e n F hx
  exact⟨sl,(hs.2 b (G b o e)).trans q⟩
 ·obtain⟨o',q⟩:=u.there b o e hx
  exact⟨o',(hs.2 b (G b o e)).trans q⟩
 ·intro b W e
  have J:H5 s3.heap.objs.size=none:=B.free;refine(B.hok b W e).stay (λc w' M q=>(hs.2 c ?_).trans q) (λ_ q=>q) λ_ _ q=>q
  rintro rfl;rcases M with z|z
  ·subst z;rw[J]at e;cases e
  ·rw[J]at z;cases z
 ·obtain⟨_,f1,_,U,Y,f5⟩:=ff b F
  exact⟨U,f1,Y,f5⟩
theorem HQ(I:Nat->zab->Prop)
  (turn:∀n s, I n s -> wpAny (model prog w) A (za2 it) (λr z => match r with
   | none=>R (.ok .next) z
   | some v=>wpAny (model prog w) A (zdb target it v) (λ_ q=>wpAny (model prog w) A (zbd target env v) (λ_ J=>
     wpAny (model prog w) A (forIn ifs true λc r=>if r=true then do let ok <- isTrue c env (eval c env);pure (zcC ok)else pure (zcC r)) (λok B=>
      if ok=true then wpAny (model prog w) A (eval elt env) (λx G=>
       wpAny (model prog w) A (call (.builtin "list.append") [acc,x]) (λ_ M=>∃m,m<n/\I m M) (λ_ _=>False) G) (λ_ _=>False) B
      else ∃m,m<n/\I m B) (λ_ _=>False) J) (λ_ _=>False) q) (λ_ _=>False) z) (λ_ _=>False) s)
  (n:Nat) (h:I n s) :
  zbD (model prog w) A (.compLoop (.ListComp elt [⟨target,iter,ifs,0⟩] scope pos) 0 it acc env) R s:=by
 refine codeAny_loop rfl I (λn s hI=>?_) n h;show wpAny _ A ((compTurn (.ListComp elt [⟨target,iter,ifs,0⟩] scope pos) 0 it acc env).onRaise (λx=>do noteFrame x env;theTreesLotGoes x)) _ _ s;refine wpAny_noted ?_;rw[compTurn_list];have W:∀(e:Value) (s':zab),False->notedBy (model prog w) A env (λe s'=>R (.error e) s') e s':=λ_ _ h=>h.elim
 refine zaa (zc8 (zaa (za7 (turn n s hI) (λr z N=>?_) W)));cases r with
 | none=>exact zaf N
 | some v=>
  refine zaa (za7 N (λ_ q U=>?_) W);refine zaa (za7 U (λ_ J Y=>zaa (za7 Y (λok B F=>?_) W)) W);cases ok with
  | false=>exact zaf ⟨rfl,F⟩
  | true=>
   exact zaa (zaa (za7 F (λx G ab=>zaa (za7 ab (λ_ M aa=>zaf (zaf ⟨rfl,aa⟩)) W)) W))
theorem vG{aq tg am:Expr}{ao:List Expr}{scope:Scope}{pos:Pos}{N:List Str}{Y:List (Str×Addr)}{wi:TI}{g:TG}{tt:TT}{te:TE}{RR:Value->Addr->Result->zab->Prop}{pins:List (Addr×Obj)}{σ aj:L2.St}{Q:VK}{J:It}{H2:Hp}{B:zab}{it:Addr}{fp:List Addr}{tn:Nat->Heap->Prop}{E:Value->zab->Prop}
  (hc:X.calm=true) (cc:Clo X N scope Y) (hg:∀C s H fp,PG (aZ X N scope Y C s H fp) tg g) (ht:∀C s H fp,DT (aZ X N scope Y C s H fp) ao tt) (he:∀C s H fp,PE (aZ X N scope Y C s H fp) aq te)
  (I2:Inv X pins σ H2 B) (T:Turn X.prog X.w X.K tg J fp it tn) (ap:tn 0 B.heap) (f2:∀b∈fp,kK X pins H2 b) (sS:Start X N scope σ aj)
  (q2:∀D, H2 D = none -> ∃W:Nat -> Nat -> L2.St -> List V -> Hp -> Prop, (∃m, W 0 m aj [] (upd H2 D (.lst []))) /\
   ∀i m M G H2,W i m M G H2->(J.stop i H2/\Q (.ref D) H2)\/(J.go i H2/\G.length<zai/\∀x F,J.yld i H2 x F->g x M F λai H4=>tt ai H4 λok H5=>
    if ok=true then te ai H5 λv H6=>H6 D=some (.lst G)/\∃m',m'<m/\W (i+1) m' ai (G++[v]) (upd H6 D (.lst (G++[v])))else H5 D=some (.lst G)/\∃m',m'<m/\W (i+1) m' ai G H5))
  (be:∀(s3 s5:zab) (F H5:Hp) (U:L2.St) (D:Addr),Inv X pins σ F s3->(∀b∈fp,kK X pins F b)->Inv (aZ X N scope Y s3.heap.objs.size s3 F fp) [] U H5 s5->Q (.ref D) H5->RR (.ref D) s3.heap.objs.size (.ok .next) s5) :
  wpAny (model X.prog X.w) X.A (newList []) (λacc a6=>wpAny (model X.prog X.w) X.A (newFunctionEnv scope X.env.globals Y [] X.env.qual none .none (some X.env)) (λal a1=>
   zbD (model X.prog X.w) X.A (.compStart (.ListComp aq [⟨tg,am,ao,0⟩] scope pos) 0 (.ref it) acc {al with scope:=zbc scope X.env}) (RR acc al.locals) a1) E a6) E B:=by
 refine zbI (wpAny_newFunctionEnv cc.nocell (by intro y hy;simp at hy) (λh1 ah ae=>?_) cc.kind);dsimp only at ah ae ⊢;have I3:Inv X pins σ (upd H2 B.heap.objs.size (.lst [])) {B with heap:=B.heap.push {cls:=.type "list",dict:=none,data:=.seq ([]:List Value).toArray} }:=I2.lnew (t':=B.toks) .nil (zaI _);have hD:H2 B.heap.objs.size=none:=I2.fresh;have bh:∀b∈fp,b≠B.heap.objs.size:=λb q=>by
  obtain⟨o,e,_⟩:=T.obj 0 _ ap b q;exact zaE (zao e)
 have fe:∀b∈fp,∃o,(B.heap.push {cls:=.type "list",dict:=none,data:=.seq ([]:List Value).toArray}).get? b=some o:=λb q=>by
  obtain⟨o,e,_⟩:=T.obj 0 _ ap b q;exact⟨o,zal _ e⟩
 have f3:∀b∈fp,kK X pins (upd H2 B.heap.objs.size (.lst [])) b:=λb q=>⟨by rw[aF (bh b q)];exact(f2 b q).1,(f2 b q).2⟩
 obtain⟨W,⟨m0,w0⟩,turn⟩:=q2 B.heap.objs.size hD;have bc:(upd H2 B.heap.objs.size (.lst [])) B.heap.objs.size=some (.lst []):=aI;generalize hs3:({B with heap:=B.heap.push {cls:=.type "list",dict:=none,data:=.seq ([]:List Value).toArray} }:zab)=s3 at I3;have e3:B.heap.push {cls:=.type "list",dict:=none,data:=.seq ([]:List Value).toArray}=s3.heap:=by rw[<- hs3]
 rw[e3]at ah ae fe ⊢;generalize B.heap.objs.size=D at *;generalize upd H2 D (.lst [])=F at *;have an:∀b o,s3.heap.get? b=some o->h1.get? b=some o:=λb o e=>(ae.2 b (zaE (zao e))).trans (zal _ e)
 have az:tn 0 s3.heap:=by
  refine T.keep 0 _ _ ap λb q o e=>?_
  rw[<- e3];exact zal _ e
 have ak:∀s4:zab,s4={B with heap:=h1,toks:=B.toks+([]:List (Str×Value)).length}->
   zbD (model X.prog X.w) X.A (.compLoop (.ListComp aq [⟨tg,am,ao,0⟩] scope pos) 0 (.ref it) (.ref D) (compEnvC scope Y s3.heap.objs.size X.env)) (RR (.ref D) s3.heap.objs.size) s4:=by
  rintro s4 rfl;have I4:Inv (aZ X N scope Y s3.heap.objs.size s3 F fp) [] aj F {B with heap:=h1,toks:=B.toks+([]:List (Str×Value)).length}:=
   JG (m:=λx=>([]:List (Str×Value)).reverse.lookup x) I3 cc f3 fe sS (by rw[<- hs3]) (by rw[<- hs3]) an ah
  have as:∀ {H':Hp},(∀b∈fp,H' b=none)->∀b∈fp,kK (aZ X N scope Y s3.heap.objs.size s3 F fp) [] H' b:=λhn b q=>by
   have ok:=I4.ok;exact⟨hn b q,(ok.exf b q).1,ok.exfs b q,.inl q,(ok.exf b q).2,λp hp=>nomatch hp⟩
  refine HQ (λn s'=>∃i M G H',Inv (aZ X N scope Y s3.heap.objs.size s3 F fp) [] M H' s'/\tn i s'.heap/\(∀b∈fp,H' b=none)/\H' D=some (.lst G)/\W i n M G H') ?_ m0 ⟨0,aj,[],F,I4,T.keep 0 _ _ az λb q o e=>an b o e,λb q=>(f3 b q).1,bc,w0⟩;rintro n s5 ⟨i,U,G,H5,I5,a4,a2,cu,w5⟩;rcases turn i n U G H5 w5 with⟨ax,qn⟩|⟨go,a5,step⟩
  ·refine cS (T.done (aZ X N scope Y s3.heap.objs.size s3 F fp) rfl rfl rfl hc i [] s5 U H5 _ I5 (as a2) a4 ax) λr s6 ⟨hr,I6⟩=>?_
   subst hr;exact be s3 s6 F H5 U D I3 f3 I6 qn
  ·refine cS (T.item (aZ X N scope Y s3.heap.objs.size s3 F fp) rfl rfl rfl hc i [] s5 U H5 _ I5 (as a2) a4 go) λr s6 ⟨u,hr,h6⟩=>?_
   subst hr;refine cS h6 λ_ s7 ⟨x,H7,I7,r7,y7,ar,bi⟩=>?_
   have bb:=I7.pinned (as bi) (T.obj _ _ ar);refine cS (hg _ _ _ _ _ s7 U H7 x u _ bb r7 (step x H7 y7)) λ_ s8 ⟨ab,H8,I8,q8⟩=>?_
   refine cS (ht _ _ _ _ _ s8 ab H8 _ I8 q8) λok s9 ⟨H9,I9,q9⟩=>?_
   have fin:∀ {ad:zab} {aa:Hp} {vs:List V},Inv (aZ X N scope Y s3.heap.objs.size s3 F fp) ([]++t5 fp s7.heap) ab aa ad->aa D=some (.lst vs)->(∃m',m'<n/\W (i+1) m' ab vs aa)->
     ∃m,m<n/\∃i M G H',Inv (aZ X N scope Y s3.heap.objs.size s3 F fp) [] M H' ad/\tn i ad.heap/\(∀b∈fp,H' b=none)/\H' D=some (.lst G)/\W i m M G H':=λ{ad aa vs} ag hd ⟨m',hm,bj⟩=>by
    refine⟨m',hm,i+1,ab,vs,aa,ag.unpinned,T.keep _ _ _ ar λb q o e=>(ag.pin (b,o) (zaX _ (zaX _ (iT q e)))).1,λb q=>?_,hd,bj⟩;obtain⟨o,e,d⟩:=T.obj _ _ ar b q;exact(ag.pin (b,o) (zaX _ (zaX _ (iT q e)))).2.1
   cases ok with
   | false=>
    rw[if_neg zaA]at q9 ⊢;exact fin I9 q9.1 q9.2
   | true=>
    rw[if_pos rfl]at q9 ⊢;refine cS (he _ _ _ _ _ s9 ab H9 _ I9 q9) λy ad ⟨v,aa,ag,bd,ay,ba⟩=>?_
    refine cS (vC (X:=aZ X N scope Y s3.heap.objs.size s3 F fp) _ ad ab aa (.ref D) [v] (.ref D) [y] (λ_ au=>au D=some (.lst (G++[v]))/\∃m',m'<n/\W (i+1) m' ab (G++[v]) au) ag rfl (.cons bd .nil) ⟨D,G,v,rfl,rfl,ay,a5,aI,ba⟩) λ_ ce ⟨z,au,bg,_,a3,bf⟩=>?_
    exact fin bg a3 bf
 exact codeAny_compStart_list (ak _ rfl) (T.self X.A 0 _ _ _ (T.keep 0 _ _ az λb q o e=>an b o e) (ak _ rfl))
theorem EU{F tg z:Expr}{B:List Expr}{scope:Scope}{pos:Pos}{N:List Str}{G:List (Str×Addr)}{wi:TI}{g:TG}{tt:TT}{te:TE}
  (hc:X.calm=true) (M:Clo X N scope G) (hi:PI X tg z wi) (hg:∀C s H fp,PG (aZ X N scope G C s H fp) tg g) (ht:∀C s H fp,DT (aZ X N scope G C s H fp) B tt) (he:∀C s H fp,PE (aZ X N scope G C s H fp) F te)
  (hs:∀x,zba z X.env x=pure x:=by intro _;rfl) :
  PE X (.ListComp F [⟨tg,z,B,0⟩] scope pos) (GA wi g tt te (Start X N scope)):=by
 intro pins s σ H Q I h;obtain⟨am,sS,hw⟩:=h;rw[eval_ListComp];refine wpAny_comprehension_free (use:=none) rfl hs M.clos M.kind M.names (cS (hi pins s σ H _ I hw) λv s1 h1=>cS h1 λad s2 h2=>?_);obtain⟨it,fp,tn,J,H2,e,I2,T,W,f2,q2⟩:=h2;subst e;refine vG (wi:=wi) (Q:=Q) (RR:=λacc C=>compPost (model X.prog X.w) X.A X.xe none (EP X pins σ Q) acc C) hc M hg ht he I2 T W f2 sS q2 ?_;intro s3 s5 H3 H5 ae D I3 f3 Y q;obtain⟨m,hn,_⟩:=id Y.loc;exact⟨m,hn,λh' U=>⟨.ref D,H5,comp_back I3 f3 Y U,rfl,q⟩⟩
end
end My
namespace My
open PySem PySem.W PyProof.Rows
structure Ord(n:Nat)(lt:Nat->Nat->Bool):Prop where
 irr:∀i,i<n->lt i i=false
 tr:∀i j k,i<n->j<n->k<n->lt i j=true->lt j k=true->lt i k=true
 tot:∀i j,i<n->j<n->i≠j->lt i j=true\/lt j i=true
section
variable {n:Nat}{lt:Nat->Nat->Bool}(O:Ord n lt)
include O
end
end My
namespace My
open PySem PySem.Spec PyProof.Rows PySem.W
section
variable {prog:zah}{w:World}{A:zan}{E:Value->zab->Prop}{s:zab}{it d:Addr}{i ep:Nat}{od:Obj}{es:Array zcr}
def RawD(h:Heap)(d:Addr)(es:Array zcr)(ep:Nat):Prop:=∃o,h.get? d=some o/\o.ExactDict/\o.data=.dict es ep
theorem RawD.typ(x:RawD s.heap d es ep):s.TypeIs (.ref d) "dict" := let ⟨o,a,b,_⟩:=x;⟨o,a,b.1⟩
theorem LB(hd:(d == za6)=false)(z:RawD s.heap d es ep)
  (B:Q (.ref s.heap.objs.size) {s with heap:=s.heap.push {cls:=.type "dict_keyiterator",data:=.fields #[.ref d,.int 0 0,.int es.size 0,.int ep 0]} }):wpAny (model prog w) A (pyIter (.ref d)) Q E s:=by
 have q:=z.typ;obtain⟨o,g1,g2,g3⟩:=z;refine wpAny_pyIter_slot q PySem.F.slot_dict_iter (zbj PySem.F.slot_dict_iter q PySem.F.entry_dict_iter ?_ (PySem.F.args_dict_iter_1 _));unfold zb0.«dict.__iter__»;refine zaa ?_;unfold Builtin.Dict.dictSlotNone;refine zaa (wpAny_notOrdered_dict q ?_);show wpAny _ _ (pure (zar d)) _ _ s;refine zaf ?_;show wpAny _ _ (Builtin.Dict.showsAll d >>= _) _ _ s;unfold Builtin.Dict.showsAll;rw[if_neg (by rw[hd];exact zaA)];refine zaa (zaf (zaa (zeb g1 g3 (zaa (zec g1 g3 ?_)))));refine zaa (zbI (zaf ⟨_,rfl, "dict_keyiterator",_,⟨_,zaD _ rfl,rfl⟩,PySem.F.slot_dict_keyiterator_next.lookup,?_⟩));simpa[za9]using B
theorem J9(z:s.heap.IsKeyIter it d i es.size ep)(G:RawD s.heap d es ep)(hx:i<es.size)
  (J:∀h',h'.IsKeyIter it d (i+1) es.size ep->za4 it s.heap h'->Q (some es[i].key) {s with heap:=h'}):wpAny (model prog w) A (za2 (.ref it)) Q E s:=by
 have q:=z.typeIs;obtain⟨o,B,F,hd⟩:=id z;obtain⟨od,g1,g2,g3⟩:=G;unfold za2;refine zaa (zcD (zbH (name:=zbi "__next__") q zdr (zbj zdr q zel ?_ (zem _))));refine zaa (zaf (zaa (zaa ?_)))
 first|refine zaa (zds q (zaf ?_))|refine zaa (zdt q (zaf ?_))
 refine zaa (wpAny_fieldsOf B hd ?_);simp only[show zen "dict_keyiterator" = false by decide,zbo,if_false];show wpAny _ _ (if(zar d == za5)=true then _ else _) _ _ s;rw[if_neg (show ¬ ((zar d == za5)=true)from zaA)];refine zaa (zaf (zaa (zeb g1 g3 ?_)));rw[if_neg (by simp)];refine zaa (zaf (zaa (zec g1 g3 ?_)));rw[if_neg (by simp)];refine zaf ?_;simp only[show ¬ ((i:Int)<0)from by lia,if_false,zbx,Array.getElem?_eq_getElem hx];refine zaa ?_;first|refine zaa (zds q (zaf ?_))|refine zaa (zdt q (zaf ?_))
 refine zaa (wpAny_isOneOf_keyiter q ?_);show wpAny _ _ (setField (.ref it) 1 (za9 ((i:Int)+1)) >>= _) _ _ s;refine zaa (zdu B hd (by simp) ?_);have nx:(s.heap.update it (Obj.mapFields (·.setIfInBounds 1 (za9 ((i:Int)+1))))).IsKeyIter it d (i+1) es.size ep:=⟨_,zd6 _ B (Obj.isFreed_of_fields (zdv hd _)),(Obj.cls_mapFields ..).trans F,by rw[zdv hd];simp[za9]⟩;refine zaa (zbB (zaa (wpAny_isOneOf_keyiter (s:={s with heap:=s.heap.update it (Obj.mapFields (·.setIfInBounds 1 (za9 ((i:Int)+1))))}) nx.typeIs ?_)));show wpAny _ _ (pure es[i].key) _ _ _;exact zaf (zaf ⟨_,rfl,zaf (J _ nx (zdw ..))⟩)
theorem OO(G:A.handled=none)(z:s.heap.IsKeyIter it d i es.size ep)(F:RawD s.heap d es ep)(hx:es.size<=i)
  (J:∀h',Heap.ExtBut it s.heap h'->Q none {s with heap:=h'}):wpAny (model prog w) A (za2 (.ref it)) Q E s:=by
 have q:=z.typeIs;obtain⟨o,B,M,hd⟩:=id z;obtain⟨od,g1,g2,g3⟩:=F;unfold za2;refine zaa (zcD (zbH (name:=zbi "__next__") q zdr (zbj zdr q zel ?_ (zem _))));refine zaa (zaf (zaa (zaa ?_)))
 first|refine zaa (zds q (zaf ?_))|refine zaa (zdt q (zaf ?_))
 refine zaa (wpAny_fieldsOf B hd ?_);simp only[show zen "dict_keyiterator" = false by decide,zbo,if_false];show wpAny _ _ (if(zar d == za5)=true then _ else _) _ _ s;rw[if_neg (show ¬ ((zar d == za5)=true)from zaA)];refine zaa (zaf (zaa (zeb g1 g3 ?_)));rw[if_neg (by simp)];refine zaa (zaf (zaa (zec g1 g3 ?_)));rw[if_neg (by simp)];refine zaf ?_;simp only[show ¬ ((i:Int)<0)from by lia,if_false,zbx,Array.getElem?_eq_none hx];refine zaa ?_;first|refine zaa (zds q (zaf ?_))|refine zaa (zdt q (zaf ?_))
 show wpAny _ _ (setField (.ref it) 0 .none >>= _) _ _ s;refine zaa (zdu B hd (by simp) ?_);show wpAny _ _ (newExc (.type "StopIteration") [] >>= _) _ _ _;refine zaa ?_;simp only[newExc,newTuple];refine zaa (zbI ?_ (by size_fits));refine zaa (m:=zdx _ _) (wpAny_of_eq (a:=za5) (by first|rfl|(simp only[zdx];rfl)) ?_)
 refine zbI ?_ (by size_fits);simp only[raiseNew];refine zaa (wpAny_handled ?_);rw[show A.in1.handled=none from G];refine zaa (zaf (wpAny_throw ?_));refine zaa (zcw (T := "StopIteration") (b:=true) ⟨_,zaD _ rfl,rfl⟩ isSubtype_stop ?_);exact zaf (J _ (((zdw ..).extBut.push _).push _))
end
section
variable {prog:zah}{w:World}{A:zan}{s:zab}{R:Result->zab->Prop}{es:Array zcr}{ep:Nat}
end
section
variable {prog:zah}{w:World}{A:zan}{E:Value->zab->Prop}{s:zab}{r d:Addr}{es:Array zcr}{ep:Nat}
end
section
variable {prog:zah}{w:World}{A:zan}{E:Value->zab->Prop}{s:zab}{a L:Addr}{vs:List Value}{m:Str->Option Value}
end
end My
namespace My
open PySem PySem.Spec PyProof.Rows PySem.W PySem.SeqAt
section
variable {prog:zah}{w:World}{A:zan}{E:Value->zab->Prop}{s:zab}
end
end My
namespace My
open PySem PySem.Spec PyProof.Rows L2 PySem.SeqAt
end My
namespace My
open PySem PySem.Spec PyProof.Rows L2 PySem.SeqAt PySem.W
section
variable {X:Cx}
end
theorem HI{prog:zah}{w:World}{A:zan}{E:Value->zab->Prop}{s:zab}{t z:Addr}{items:Array Value}{M J:Value}{lo hi:Option Int}{Q:Value->zab->Prop}(q:IsTup s.heap t items)(hs:s.heap.IsSliceOf z M J .none)(W:zbG M lo)(pu:zbG J hi)
  (hw:HT.sIx items.size 0 lo=0/\HT.sIx items.size items.size hi=items.size) (h:Q (.ref t) s):wpAny (model prog w) A (zbv (.ref t) (.ref z)) Q E s:=by
 obtain⟨Y,G,B,N⟩:=id hs;have U:s.TypeIs (.ref z) "slice" := ⟨Y,G,B⟩;unfold zbv;try with_reducible refine zbB ?_
 first|refine zaa (zaf ?_)|skip
 refine zaa (wpAny_sequenceKey q.typeIs (by decide) ?_);refine zaa (zbH (name:=zbi "__getitem__") q.typeIs zdm (zbj zdm q.typeIs entry_tuple_getitem ?_ (args_tuple_getitem _ _)));show wpAny _ _ (zdN (.ref t) >>= _) _ _ s;refine zaa (tupleItemsOf_ q (zaa (zcA U ?_)));rw[if_pos (by decide)];refine zaa (HT.hW hs W pu ?_);have F:(((HT.sIx items.size 0 lo:Nat):Int) == 0 && (1:Int) == 1 && (HT.sIx items.size items.size hi-HT.sIx items.size 0 lo) == items.size)=true:=by
  rw[hw.1,hw.2];simp
 show wpAny _ _ (if(((HT.sIx items.size 0 lo:Nat):Int) == 0 && (1:Int) == 1 && (HT.sIx items.size items.size hi-HT.sIx items.size 0 lo) == items.size)=true then _ else _) _ _ s;rw[if_pos F];refine zaa (m:=Builtin.Tuple.tupleIsExact _) ?_;unfold Builtin.Tuple.tupleIsExact;refine zaa (zcA q.typeIs (zaf ?_));rw[if_pos (by decide)];exact zaa (zbM (zaf ⟨_,rfl,zaf h⟩))
section
variable {X:Cx}
def ZT(K:zae):V->Option Int->Option Int->Hp->VK->Prop:=λx lo hi H Q=>∃a xs,x=.ref a/\SqT K H a xs/\(HT.sIx xs.length 0 lo=0/\HT.sIx xs.length xs.length hi=xs.length)/\Q (.ref a) H
theorem NZ:SlR X (ZT X.K):=by
 intro pins s σ H x v Y N lo hi W Q I M hs G J h;obtain⟨a,xs,rfl,hx,hw,q⟩:=h;cases M;obtain⟨B,r,F,U⟩:=I.tuple hx;have z:B.toArray.size=xs.length:=by rw[zax];exact r.length.symm
 exact⟨"tuple",_,PyProof.Rows.slot_tuple_getitem.lookup,F.typeIs,HI F hs G J (by rw[z];exact hw) ⟨.ref a,H,I,rfl,q⟩⟩
theorem OH:SlR X (λx lo hi H Q=>ZW X.K x lo hi H Q\/ZT X.K x lo hi H Q):=WH.or NZ
end
theorem t9(x:ObjOk P w H h d (.dT kvs)):(d == za6)=false/\kvs.length<=zai/\∃es ep,RawD h d es ep/\es.size=kvs.length /\
  ∀(j:Nat) (p:List Key×V),kvs[j]?=some p->∃(e:zcr) (b:Addr),es[j]?=some e/\e.key=.ref b/\H b=some (.tup (p.1.map kV))/\RelV p.2 e.val/\e.hash=(zb2 (bA P w)).hash p.1:=by
 obtain⟨z,y,xs,r,o,es,ep,h1,h2,M,F,h5⟩:=x;have Y:xs.length=kvs.length:=(zcL r).symm;have B:es.size=kvs.length:=by
  have:=congrArg zbu F;rw[zbQ,zam]at this
  lia
 have get:∀ {kvs:List (List Key×V)} {xs:List (List Key×Addr×Value)},Paired (λ(p:List Key×V) (q:List Key×Addr×Value)=>p.1=q.1/\H q.2.1=some (.tup (p.1.map kV))/\RelV p.2 q.2.2) kvs xs->
   ∀(j:Nat) (p:List Key×V),kvs[j]?=some p->∃q,xs[j]?=some q/\p.1=q.1/\H q.2.1=some (.tup (p.1.map kV))/\RelV p.2 q.2.2:=by
  intro kvs xs r;induction r with
  | nil=>intro j p e;simp at e
  | cons h t ih=>
   intro j p e;cases j with
   | zero=>simp at e;subst e;exact⟨_,rfl,h⟩
   | succ j=>exact ih j p (by simpa using e)
 refine⟨y,z,es,ep,⟨o,h1,h2,M⟩,B,λj p e=>?_⟩;obtain⟨q,U,W,J,N⟩:=get r j p e;have G:es[j]?=some (zci (zb2 (bA P w)) q):=by
  rw[<- zed,F,zaB,U];rfl
 exact⟨_,q.2.1,G,rfl,J,N,by show(zb2 (bA P w)).hash q.1=_;rw[W]⟩
def qh(d:Addr)(o:Obj)(kvs:List (List Key×V)):It:=
 ⟨λi H=>H d=some (.frz o (.dT kvs))/\i<kvs.length,λi H x H'=>H'=H/\∃k v b,kvs[i]?=some (k,v)/\x=.ref b/\H b=some (.tup (k.map kV)),λi H=>H d=some (.frz o (.dT kvs))/\kvs.length<=i⟩
theorem GN{P:zah}{w:World}{K:zae}{tg:Expr}(d it:Addr)(o:Obj)(kvs:List (List Key×V))(es:Array zcr)(ep:Nat)(hd:o.data=.dict es ep)(ao:es.size=kvs.length):Turn P w K tg (qh d o kvs) [it] it (λi h=>h.IsKeyIter it d i es.size ep) where
 mem:=by simp
 obj:=λi h st b B=>by
  have e:b=it:=by simpa using B
  subst e;obtain⟨o,M,e2,e3⟩:=st;exact⟨o,M,λv z=>by rw[e3]at z;cases z⟩
 keep:=λi h h' st k=>st.at λo e=>k it (by simp) o e
 item:=by
  intro X hP hw W hc i pins s σ H E I J st Y;subst hP hw W;obtain⟨h1,h2⟩:=Y;obtain⟨g1,g2⟩:=(show ObjOk X.prog X.w H s.heap d (.frz o (.dT kvs))from I.hok d _ h1);obtain⟨_,_,ac,ab,⟨o',r1,r2,r3⟩,F,q⟩:=t9 g2;rw[g1]at r1;cases r1;rw[hd]at r3;injection r3 with r4 r5
  subst r4 r5;obtain⟨N,f1,f2,U,f4,f5⟩:=J it (by simp);have hi:i<es.size:=by lia
  refine J9 st ⟨o,g1,r2,hd⟩ hi λh' G sb=>?_
  have I1:Inv X pins σ H {s with heap:=h'}:=I.turned (t':=s.toks) (λb o B e=>(sb.2 b B).trans e) N f1 U f4 f5;obtain⟨e,b,M,e2,e3,_⟩:=q i _ (zaR h2);have ee:es[i]=e:=by
   rw[Array.getElem?_eq_getElem hi]at M;exact zaF M
  obtain⟨o2,q1,q2,q3⟩:=id G;refine⟨_,rfl,uF (s:={s with heap:=h'}) (n := "dict_keyiterator") q1 q2 q3 (by decide) ⟨.ref b,H,I1,?_,⟨rfl,kvs[i].1,kvs[i].2,b,zaR h2,rfl,e3⟩,G,λc B=>(J c B).1⟩⟩;rw[ee,e2];rfl
 done:=by
  intro X hP hw W hc i pins s σ H E I J st Y;subst hP hw W;obtain⟨h1,h2⟩:=Y;obtain⟨g1,g2⟩:=(show ObjOk X.prog X.w H s.heap d (.frz o (.dT kvs))from I.hok d _ h1);obtain⟨_,_,ac,ab,⟨o',r1,r2,r3⟩,F,q⟩:=t9 g2;rw[g1]at r1;cases r1;obtain⟨N,f1,f2,U,f4,f5⟩:=J it (by simp);exact OO (I.ok.hd hc) st ⟨o,g1,r2,hd⟩ (by lia) λh' eb=>⟨rfl,I.turned (t':=s.toks) (λb o B e=>eb b o B e) N f1 U f4 f5⟩
 self:=λ_ _ _ _ _ st h=>wpAny_pyIter_keyiter st h
theorem BW(I:Inv X pins σ H s)(hd:H d=some (.dT kvs))(G:s.heap.get? d=some o):Inv X pins σ (upd H d (.frz o (.dT kvs))) s:=by
 have B:∀b u,H b=some u->(∀z,u≠.dT z)->b≠d:=λb u e n z=>by
  subst z;rw[hd]at e;exact n kvs (zaF e).symm
 have J:=I.un (h':=s.heap) (t':=s.toks) (H':=upd H d (.frz o (.dT kvs))) ⟨λb u q _ _ _=>q,λb u q _ _ _=>⟨u.slots,q⟩,λb u q n _=>by rw[aF (λz=>by rw[z,hd]at n;cases n)];exact n,λb u q _=>⟨u,q⟩,
  λb xs q=>by rw[aF (B b _ q (λz h=>by cases h))];exact q,λb u xs q=>by rw[aF (B b _ q (λz h=>by cases h))];exact q,λb ps q=>⟨#[],by rw[aF (B b _ q (λz h=>by cases h)),q];simp⟩⟩ (λb u e=>?_)
 ·exact J
 ·have st:∀ {b:Addr} {u:HO},ObjOk X.prog X.w H s.heap b u->ObjOk X.prog X.w (upd H d (.frz o (.dT kvs))) s.heap b u:=λx=>x.stay (λ_ _ _ q=>q) (λc q=>by rw[aF (B c _ q (λz h=>by cases h))];exact q) λc xs q=>by rw[aF (B c _ q (λz h=>by cases h))];exact q
  by_cases F:b=d
  ·subst F
   rw[aI]at e;cases e;exact⟨G,st (I.hok b _ hd)⟩
  ·rw[aF F]at e
   exact st (I.hok b u e)
section
variable {X:Cx}{tg:Expr}
end
section
variable {X:Cx}
end
end My
namespace My
open PySem PySem.Spec PyProof.Rows L2 PySem.SeqAt
abbrev Tm:=List Int×Int
def look(q:List Tm)(k:List Int):Option Int:=(q.find? λt=>decide (t.1=k)).map (·.2)
def put(q:List Tm)(k:List Int)(c:Int):List Tm:=if(q.any λt=>decide (t.1=k))=true then q.map (λt=>if t.1=k then(t.1,c)else t)else q++[(k,c)]
def ZI(q:List Tm)(t:Tm):List Tm:=put q t.1 ((look q t.1).getD 0+t.2)
def US(q:List Tm):List Tm:=q.foldl ZI []
def X9(M:Int)(q:List Tm):List Tm:=(q.filter λt=>decide (t.2%M≠0)).map λt=>(t.1,t.2%M)
def TS(H H':Hp):Prop:=∀b xs,H b=some (.tup xs)->H' b=some (.tup xs)
theorem TS.trans(a:TS H H1)(b:TS H1 H2):TS H H2:=λc xs h=>b c xs (a c xs h)
theorem TS.put(h:H l=some u)(n:∀xs,u≠.tup xs):TS H (upd H l o):=λb xs q=>by
 rw[aF (λz=>by subst z;rw[h]at q;exact n xs (zaF q))];exact q
theorem N3:∀ns:List Int,GE (ns.map Dx.int)=true:=λns=>FJ (f:=Dx.int) (λ_=>by rw[Dx.nb]) ns
theorem JW:∀ns:List Int,l7 (ns.map Dx.int)<=0:=λns=>zB (f:=Dx.int) (λ_=>by rw[Dx.dep];exact zaj _) ns
noncomputable def hT(ns:List Int):Int:=reduceHash (zcg (ns.map hashInt))
end My
namespace My
open PySem PySem.Spec PyProof.Rows L2
noncomputable def itN(t:Bool):String:=if t=true then "tuple_iterator" else "list_iterator"
noncomputable def sqN(t:Bool):String:=if t=true then "tuple" else "list"
def SIt(t:Bool)(h:Heap)(i l:Addr)(k:Nat):Prop:=∃o,h.get? i=some o/\o.cls=.type (itN t)/\o.data=.fields #[.ref l,.int k 0]
def SSq(t:Bool)(h:Heap)(l:Addr)(xs:Array Value):Prop:=∃o,h.get? l=some o/\o.cls=.type (sqN t)/\∃n,o.data=.seq xs n
theorem SIt.to(x:SIt t h i l k)(e:∀o,h.get? i=some o->h'.get? i=some o):SIt t h' i l k:=let ⟨o,ho,r⟩:=x;⟨o,e o ho,r⟩
theorem SSq.to(x:SSq t h l xs)(e:∀o,h.get? l=some o->h'.get? l=some o):SSq t h' l xs:=let ⟨o,ho,r⟩:=x;⟨o,e o ho,r⟩
section
variable {prog:zah}{w:World}{A:zan}{E:Value->zab->Prop}{s:zab}
theorem next_item(z:SIt t s.heap it l i)(J:SSq t s.heap l xs)(hx:xs[i]?=some x)
  (M:∀h',SIt t h' it l (i+1)->za4 it s.heap h'->Q x {s with heap:=h'}):wpAny (model prog w) A (zcb (.ref it)) Q E s:=by
 cases t with
 | false=>exact wpAny_nextOf_list_item (it:=it) (l:=l) (items:=xs) z J hx M
 | true=>
  have q:s.heap.IsTupleIter it l i:=z;obtain⟨o,B,N,hd⟩:=z;obtain⟨U,G,_,nl,F⟩:=J;unfold zcb;refine zaa (zbH (name:=zbi "__next__") q.typeIs zdy (zbj zdy q.typeIs zeo ?_ (zep _)));show wpAny _ _ (field (.ref it) 0 >>= _) _ _ _;refine zaa (zaQ B hd (x:=.ref l) rfl ?_);show wpAny _ _ (if(zar l == za5)=true then _ else _) _ _ _;rw[if_neg (show ¬ ((zar l == za5)=true)from zaA)];show wpAny _ _ (field (.ref it) 1 >>= _) _ _ _;refine zaa (zaQ B hd (x:=.int i 0) rfl ?_);show wpAny _ _ (seqItems? (.ref l) >>= _) _ _ _;refine zaa (zbp G F ?_);simp only[zbx,hx];refine zaa (zdu B hd (by simp) (zaf ⟨x,rfl,zaf (M _ ⟨_,zd6 _ B (Obj.isFreed_of_fields (zdv hd _)),(Obj.cls_mapFields ..).trans N,by rw[zdv hd];simp[za9]⟩ (zdw ..))⟩))
theorem next_end(G:A.handled=none)(z:SIt t s.heap it l i)(M:SSq t s.heap l xs)(hx:xs[i]?=none)
  (N:∀h' e,Heap.ExtBut it s.heap h'->(∃o,h'.get? e=some o/\o.cls=.type "StopIteration")->E (.ref e) {s with heap:=h'}):wpAny (model prog w) A (zcb (.ref it)) Q E s:=by
 cases t with
 | false=>exact wpAny_nextOf_list_end (it:=it) (l:=l) (items:=xs) G z M hx N
 | true=>
  have q:s.heap.IsTupleIter it l i:=z;obtain⟨o,J,U,hd⟩:=z;obtain⟨W,F,_,nl,B⟩:=M;unfold zcb;refine zaa (zbH (name:=zbi "__next__") q.typeIs zdy (zbj zdy q.typeIs zeo ?_ (zep _)));show wpAny _ _ (field (.ref it) 0 >>= _) _ _ _;refine zaa (zaQ J hd (x:=.ref l) rfl ?_);show wpAny _ _ (if(zar l == za5)=true then _ else _) _ _ _;rw[if_neg (show ¬ ((zar l == za5)=true)from zaA)];show wpAny _ _ (field (.ref it) 1 >>= _) _ _ _;refine zaa (zaQ J hd (x:=.int i 0) rfl ?_);show wpAny _ _ (seqItems? (.ref l) >>= _) _ _ _;refine zaa (zbp F B ?_);simp only[zbx,hx];refine zaa (zbM (zaa (zdu J hd (by simp) ?_)));show wpAny _ _ (newExc (.type "StopIteration") [] >>= _) _ _ _;refine zaa ?_;simp only[newExc,newTuple];refine zaa (zbI ?_ (by size_fits));refine zaa (m:=zdx _ _) (wpAny_of_eq (a:=za5) (by first|rfl|(simp only[zdx];rfl)) ?_);refine zbI ?_ (by size_fits);simp only[raiseNew]
  refine zaa (wpAny_handled ?_);first|rw[show A.in1.handled=none from G]|rw[G]
  refine zaa (zaf (wpAny_throw ?_));exact N _ _ (((zdw ..).extBut.push _).push _) ⟨_,zaD _ rfl,rfl⟩
structure ZA(z TI TO i1 i2 l1 l2:Addr):Prop where
 z1:TI≠z
 z2:TO≠z
 z3:i1≠z
 z4:i2≠z
 z5:TI≠TO
 z6:TI≠i1
 z7:TI≠i2
 z8:TO≠i1
 z9:TO≠i2
 za:i1≠i2
 zb:l1≠z/\l1≠TO/\l1≠i1/\l1≠i2
 zc:l2≠z/\l2≠TO/\l2≠i1/\l2≠i2
theorem JR{t1 t2:Bool}{z TI TO N U l1 l2:Addr}{k1 k2:Nat}{xs ys:Array Value}{x y a b:Value}{Q:Option Value->zab->Prop}(D:ZA z TI TO N U l1 l2)
  (hz:IsZip s.heap z TI TO .none) (a1:za3 s.heap TI (.ref N) (.ref U)) (ay:za3 s.heap TO a b) (h1:SIt t1 s.heap N l1 k1) (h2:SIt t2 s.heap U l2 k2) (aw:SSq t1 s.heap l1 xs) (a6:SSq t2 s.heap l2 ys) (hx:xs[k1]?=some x) (hy:ys[k2]?=some y)
  (hQ:∀h',IsZip h' z TI TO (za9 s.heap.objs.size)->za3 h' TO x y->SIt t1 h' N l1 (k1+1)->SIt t2 h' U l2 (k2+1)->za3 h' s.heap.objs.size x y->h'.objs.size=s.heap.objs.size+1->(∀c o,c≠z->c≠TO->c≠N->c≠U->s.heap.get? c=some o->h'.get? c=some o)->Q (some (.ref s.heap.objs.size)) {s with heap:=h'}) :
  wpAny (model prog w) A (za2 (.ref z)) Q E s:=by
 have hT:s.TypeIs (.ref z) "zip" := ⟨_,hz,rfl⟩;unfold za2;refine zaa (zcD (zbH (name:=zbi "__next__") hT zdz (zbj zdz hT F.entry_zip_next ?_ (F.args_zip_next_1 _))));show wpAny _ _ (field (.ref z) 2 >>= _) _ _ s;refine zaa (zaQ hz rfl (x:=.bool false) rfl ?_);show wpAny _ _ (field (.ref z) 3 >>= _) _ _ s;refine zaa (zaQ hz rfl (x:=.ref TI) rfl (zaa (zbp a1 rfl ?_)));show wpAny _ _ (zcE (.ref z) >>= _) _ _ s;refine zaa ?_;unfold zcE;refine zaa (zaQ hz rfl (x:=.none) rfl (zaf ?_));simp only[if_true];refine zaa (zbM (zaa (zaQ hz rfl (x:=.ref TO) rfl (zaa (zby hz (by simp) λha aa sa=>?_)))));replace aa:IsZip ha z TI TO .ellipsis:=aa;refine zaa ?_;simp only[List.zipIdx_cons,List.zipIdx_nil,zee,List.forIn_nil];refine zaa (zaa (zdA ?_));show wpAny _ _ (zcb (.ref N) >>= _) _ _ {s with heap:=ha};have ea:=sa.extBut;refine zaa (next_item (t:=t1) (xs:=xs) (h1.to λo e=>ea _ _ D.z3 e) (aw.to λo e=>ea _ _ D.zb.1 e) hx λhb az sb=>zaf ?_);have eb:=sb.extBut;have M:za3 hb TO a b:=eb _ _ D.z8 (ea _ _ D.z2 ay);refine zaa (zbp M rfl (zaa (zef M λhc G sc=>?_)));replace G:za3 hc TO x b:=G;have ec:=sc.extBut;refine zaa (zdB (zaf ?_));refine zaa (zaa (zdA ?_));show wpAny _ _ (zcb (.ref U) >>= _) _ _ {s with heap:=hc};refine zaa (next_item (t:=t2) (xs:=ys) (h2.to λo e=>ec _ _ D.z9.symm (eb _ _ D.za.symm (ea _ _ D.z4 e))) (a6.to λo e=>ec _ _ D.zc.2.1 (eb _ _ D.zc.2.2.1 (ea _ _ D.zc.1 e))) hy λhd a0 sd=>zaf ?_);have ed:=sd.extBut;have W:za3 hd TO x b:=ed _ _ D.z9 G;refine zaa (zbp W rfl (zaa (zef W λq B se=>?_)));replace B:za3 q TO x y:=B;have ee:=se.extBut;refine zaa (zdB (zaf (zaf ?_)));refine zaa (zbp B rfl (zaa (wpAny_newTuple ?_)));have hsz:q.objs.size=s.heap.objs.size:=by rw[se.1,sd.1,sc.1,sb.1,sa.1]
 have al:IsZip q z TI TO .ellipsis:=ee _ _ D.z2.symm (ed _ _ D.z4.symm (ec _ _ D.z2.symm (eb _ _ D.z3.symm aa)));have as:∀c o,c≠z->c≠TO->c≠N->c≠U->s.heap.get? c=some o->q.get? c=some o:=λc o Y c2 c3 c4 e=>ee _ _ c2 (ed _ _ c4 (ec _ _ c2 (eb _ _ c3 (ea _ _ Y e))))
 have a4:SIt t1 q N l1 (k1+1):=az.to λo e=>ee _ _ D.z8.symm (ed _ _ D.za (ec _ _ D.z8.symm e))
 have a5:SIt t2 q U l2 (k2+1):=a0.to λo e=>ee _ _ D.z9.symm e
 have an:z<q.objs.size:=zao al;show wpAny _ _ (zdC (.ref z) (.ref q.objs.size) >>= _) _ _ _;refine zaa ?_;unfold zdC;have a3:IsZip (q.push {cls:=.type "tuple",data:=.seq #[x,y]}) z TI TO .ellipsis:=zal _ al;refine zaa (zby a3 (by simp) λhg ab sg=>?_);replace ab:IsZip hg z TI TO (za9 q.objs.size):=ab;refine zby ab (by simp) λhi J si=>?_;replace J:IsZip hi z TI TO (za9 q.objs.size):=J
 have up:∀c o,c≠z->q.get? c=some o->hi.get? c=some o:=λc o Y e=>si.extBut _ _ Y (sg.extBut _ _ Y (zal _ e))
 have ah:za3 hi q.objs.size x y:=si.extBut _ _ (zbq an) (sg.extBut _ _ (zbq an) (zaD _ rfl));have ai:hi.objs.size=q.objs.size+1:=by rw[si.1,sg.1,zbT]
 rw[hsz]at J ah ai;refine zaf ⟨_,rfl,zaf ?_⟩;show Q (some (.ref q.objs.size)) _;rw[hsz];exact hQ hi J (up _ _ D.z2 B) (a4.to λo e=>up _ o D.z3 e) (a5.to λo e=>up _ o D.z4 e) ah ai λc o Y c2 c3 c4 e=>up c o Y (as c o Y c2 c3 c4 e)
theorem JM{t1 t2:Bool}{z TI TO Y i2 l1 l2:Addr}{k1 k2:Nat}{xs ys:Array Value}{a b:Value}{Q:Option Value->zab->Prop}(hh:A.handled=none)(D:ZA z TI TO Y i2 l1 l2)
  (W:IsZip s.heap z TI TO .none) (aq:za3 s.heap TI (.ref Y) (.ref i2)) (ap:za3 s.heap TO a b) (h1:SIt t1 s.heap Y l1 k1) (h2:SIt t2 s.heap i2 l2 k2) (ad:SSq t1 s.heap l1 xs) (au:SSq t2 s.heap l2 ys) (ai:xs[k1]?=none\/ys[k2]?=none)
  (hQ:∀h',(∀c o,c≠z->c≠TO->c≠Y->c≠i2->s.heap.get? c=some o->h'.get? c=some o)->Q none {s with heap:=h'}):wpAny (model prog w) A (za2 (.ref z)) Q E s:=by
 have hT:s.TypeIs (.ref z) "zip" := ⟨_,W,rfl⟩;have fin:∀(h':Heap) (e:Addr),(∀c o,c≠z->c≠TO->c≠Y->c≠i2->s.heap.get? c=some o->h'.get? c=some o)->(∃o,h'.get? e=some o/\o.cls=.type "StopIteration")->wpAny (model prog w) A (do if <- isInstance (.ref e) (.type "StopIteration")then pure none else throw (.ref e)) Q E {s with heap:=h'}:=λh' e hk he=>by
  obtain⟨o,ho,hc⟩:=he;refine zaa (zcw (T := "StopIteration") (b:=true) ⟨o,ho,hc⟩ isSubtype_stop ?_);exact zaf (hQ _ hk)
 unfold za2;refine zaa (zcD (zbH (name:=zbi "__next__") hT zdz (zbj zdz hT F.entry_zip_next ?_ (F.args_zip_next_1 _))));show wpAny _ _ (field (.ref z) 2 >>= _) _ _ s;refine zaa (zaQ W rfl (x:=.bool false) rfl ?_);show wpAny _ _ (field (.ref z) 3 >>= _) _ _ s;refine zaa (zaQ W rfl (x:=.ref TI) rfl (zaa (zbp aq rfl ?_)));show wpAny _ _ (zcE (.ref z) >>= _) _ _ s;refine zaa ?_;unfold zcE;refine zaa (zaQ W rfl (x:=.none) rfl (zaf ?_));simp only[if_true];refine zaa (zbM (zaa (zaQ W rfl (x:=.ref TO) rfl (zaa (zby W (by simp) λha J sa=>?_)))));replace J:IsZip ha z TI TO .ellipsis:=J;refine zaa ?_;simp only[List.zipIdx_cons,List.zipIdx_nil,zee,List.forIn_nil];refine zaa (zaa (zdA ?_));show wpAny _ _ (zcb (.ref Y) >>= _) _ _ {s with heap:=ha};have M:=sa.extBut;cases hx:xs[k1]? with
 | none=>
  refine zaa (next_end (t:=t1) (xs:=xs) hh (h1.to λo e=>M _ _ D.z3 e) (ad.to λo e=>M _ _ D.zb.1 e) hx λhb e sb he=>?_);obtain⟨oe,B,G⟩:=he;have ag:IsZip hb z TI TO .ellipsis:=sb _ _ D.z3.symm J;have U:e≠z:=λq=>by subst q;rw[ag]at B;cases B;simp at G
  exact zby ag (by simp) λhc _ sc=>fin hc e (λc o c1 _ c3 _ q=>sc.extBut _ _ c1 (sb _ _ c3 (M _ _ c1 q))) ⟨oe,sc.extBut _ _ U B,G⟩
 | some x=>
  have hy:ys[k2]?=none:=by rcases ai with h|h;rw[hx]at h;cases h;exact h
  refine zaa (next_item (t:=t1) (xs:=xs) (h1.to λo e=>M _ _ D.z3 e) (ad.to λo e=>M _ _ D.zb.1 e) hx λhb ba sb=>zaf ?_);have eb:=sb.extBut;have N:za3 hb TO a b:=eb _ _ D.z8 (M _ _ D.z2 ap);refine zaa (zbp N rfl (zaa (zef N λhc aw sc=>?_)));have ec:=sc.extBut;refine zaa (zdB (zaf ?_));refine zaa (zaa (zdA ?_));show wpAny _ _ (zcb (.ref i2) >>= _) _ _ {s with heap:=hc};refine zaa (next_end (t:=t2) (xs:=ys) hh (h2.to λo e=>ec _ _ D.z9.symm (eb _ _ D.za.symm (M _ _ D.z4 e))) (au.to λo e=>ec _ _ D.zc.2.1 (eb _ _ D.zc.2.2.1 (M _ _ D.zc.1 e))) hy λhd e sd he=>?_);obtain⟨oe,B,G⟩:=he;have ah:IsZip hd z TI TO .ellipsis:=sd _ _ D.z4.symm (ec _ _ D.z2.symm (eb _ _ D.z3.symm J));have U:e≠z:=λq=>by subst q;rw[ah]at B;cases B;simp at G
  exact zby ah (by simp) λhf _ sf=>fin hf e (λc o c1 c2 c3 c4 q=>sf.extBut _ _ c1 (sd _ _ c4 (ec _ _ c2 (eb _ _ c3 (M _ _ c1 q))))) ⟨oe,sf.extBut _ _ U B,G⟩
abbrev GD(t:Bool)(l:Addr):Obj:={cls:=.type (itN t),data:=.fields #[.ref l,.int 0 0]}
abbrev W6(t1 t2:Bool)(h:Heap)(l1 l2:Addr):Heap:=(h.push (GD t1 l1)).push (GD t2 l2)
abbrev qv(t1 t2:Bool)(h:Heap)(l1 l2:Addr):Heap:=((W6 t1 t2 h l1 l2).push {cls:=.type "tuple",data:=.seq #[.ref h.objs.size,.ref (h.push (GD t1 l1)).objs.size]}).push {cls:=.type "tuple",data:=.seq #[.none,.none]}
abbrev XA(t1 t2:Bool)(h:Heap)(l1 l2:Addr):Heap:=(qv t1 t2 h l1 l2).push {cls:=.type "zip",data:=.fields #[.none,.bool false,.bool false,.ref (W6 t1 t2 h l1 l2).objs.size,.ref ((W6 t1 t2 h l1 l2).push {cls:=.type "tuple",data:=.seq #[.ref h.objs.size,.ref (h.push (GD t1 l1)).objs.size]}).objs.size]}
theorem RC(U W:Bool)(F J:Addr)(xs ys:Array Value):Meets (zb0.«zip.__new__» ⟨[.type "zip",.ref F,.ref J],[]⟩) (λ_ R s=>SSq U s.heap F xs/\SSq W s.heap J ys/\R (.ok (.ret (.ref (qv U W s.heap F J).objs.size))) {s with heap:=XA U W s.heap F J}):=
 .of_wp λprog w A R s h=>by
  obtain⟨G,g,d,tk,N⟩:=s;obtain⟨M,Y,h⟩:=h;have aa:=sub_zip;have B:SSq W (G.push (GD U F)) J ys:=Y.to λo e=>zal _ e
  cases U <;> cases W
  ·have z:zdD (zbW ⟨G,g,d,tk,N⟩) F xs:=M
   have q:zdD (zbW ⟨G.push {cls:=.type "list_iterator",data:=.fields #[.ref F,.int 0 0]},g,d,tk,N⟩) J ys:=B
   wp_walk using zb6 z,zb6 q
   exact⟨_,rfl,h⟩
  ·have z:zdD (zbW ⟨G,g,d,tk,N⟩) F xs:=M
   have q:zcV (zbW ⟨G.push {cls:=.type "list_iterator",data:=.fields #[.ref F,.int 0 0]},g,d,tk,N⟩) J ys:=B
   wp_walk using zb6 z,zbR q
   exact⟨_,rfl,h⟩
  ·have z:zcV (zbW ⟨G,g,d,tk,N⟩) F xs:=M
   have q:zdD (zbW ⟨G.push {cls:=.type "tuple_iterator",data:=.fields #[.ref F,.int 0 0]},g,d,tk,N⟩) J ys:=B
   wp_walk using zbR z,zb6 q
   exact⟨_,rfl,h⟩
  ·have z:zcV (zbW ⟨G,g,d,tk,N⟩) F xs:=M
   have q:zcV (zbW ⟨G.push {cls:=.type "tuple_iterator",data:=.fields #[.ref F,.int 0 0]},g,d,tk,N⟩) J ys:=B
   wp_walk using zbR z,zbR q
   exact⟨_,rfl,h⟩
theorem KB(G:SSq t1 s.heap l1 xs)(J:SSq t2 s.heap l2 ys)
  (h:∀h', IsZip h' (s.heap.objs.size+4) (s.heap.objs.size+2) (s.heap.objs.size+3) .none -> za3 h' (s.heap.objs.size+2) (.ref s.heap.objs.size) (.ref (s.heap.objs.size+1)) -> za3 h' (s.heap.objs.size+3) .none .none ->
   SIt t1 h' s.heap.objs.size l1 0->SIt t2 h' (s.heap.objs.size+1) l2 0->(∀c o,s.heap.get? c=some o->h'.get? c=some o)->Q (.ref (s.heap.objs.size+4)) {s with heap:=h'}):wpAny (model prog w) A (call (.type "zip") [.ref l1,.ref l2]) Q E s:=by
 refine callType_new F.called_zip (by decide) (F.typeCall_zip_2 _ _) (F.newCall_zip_2 _ _) (λN=>F.args_object_init_3 N _ _) F.entry_zip_new (RC t1 t2 l1 l2 xs ys) ⟨G,J,?_⟩;have B:(s.heap.push (GD t1 l1)).objs.size=s.heap.objs.size+1:=zbT ..;have M:(W6 t1 t2 s.heap l1 l2).objs.size=s.heap.objs.size+2:=by rw[zbT,B]
 have q:((W6 t1 t2 s.heap l1 l2).push {cls:=.type "tuple",data:=.seq #[.ref s.heap.objs.size,.ref (s.heap.push (GD t1 l1)).objs.size]}).objs.size=s.heap.objs.size+3:=by rw[zbT,M]
 have U:(qv t1 t2 s.heap l1 l2).objs.size=s.heap.objs.size+4:=by rw[zbT,q]
 have z:(XA t1 t2 s.heap l1 l2).get? (qv t1 t2 s.heap l1 l2).objs.size=some _:=zaD _ rfl;have W:(XA t1 t2 s.heap l1 l2).get? ((W6 t1 t2 s.heap l1 l2).push {cls:=.type "tuple",data:=.seq #[.ref s.heap.objs.size,.ref (s.heap.push (GD t1 l1)).objs.size]}).objs.size=some _:=zal _ (zaD _ rfl);have g3:(XA t1 t2 s.heap l1 l2).get? (W6 t1 t2 s.heap l1 l2).objs.size=some _:=zal _ (zal _ (zaD _ rfl));have g2:(XA t1 t2 s.heap l1 l2).get? (s.heap.push (GD t1 l1)).objs.size=some (GD t2 l2):=zal _ (zal _ (zal _ (zaD _ rfl)));have g1:(XA t1 t2 s.heap l1 l2).get? s.heap.objs.size=some (GD t1 l1):=zal _ (zal _ (zal _ (zal _ (zaD _ rfl))));show _/\_;rw[M,q,U]at z;rw[B,M]at g3;rw[q]at W;rw[B]at g2;rw[U];exact⟨⟨_,z,rfl⟩,h _ z g3 W ⟨_,g1,rfl,rfl⟩ ⟨_,g2,rfl,rfl⟩ λc o x=>zal _ (zal _ (zal _ (zal _ (zal _ x))))⟩
end
def BH(K:zae)(t:Bool)(H:Hp)(a:Addr)(xs:List V):Prop:=if t=true then SqT K H a xs else SqL K H a xs
def ItZ(K:zae)(B z:Bool)(q F:Addr):It:=
 ⟨λi H => ∃xs ys, BH K B H q xs /\ BH K z H F ys /\ i<xs.length /\ i<ys.length, λi H x H' => ∃p u v, x = .ref p /\ H p = none /\ H' = upd H p (.tup [u, v]) /\ ∀xs ys, BH K B H q xs -> BH K z H F ys -> xs[i]? = some u /\ ys[i]? = some v,
  λi H=>∃xs ys,BH K B H q xs/\BH K z H F ys/\(xs.length<=i\/ys.length<=i)⟩
theorem i4(I:Inv X pins σ H s)(h:BH X.K t H a xs):∃q:List Value,Vals xs q/\SSq t s.heap a q.toArray:=by
 cases t with
 | true=>
  obtain⟨q,r,p,_⟩:=I.tuple (show SqT X.K H a xs from h);exact⟨q,r,p⟩
 | false=>
  obtain⟨q,r,p,_⟩:=I.list (show SqL X.K H a xs from h);exact⟨q,r,PlainL.isList p⟩
theorem wU(I:Inv X pins σ H s)(h:BH X.K t H a xs)(h':BH X.K t H a ys):xs=ys:=by
 cases t with
 | true=>exact I.tuple_inj (show SqT X.K H a xs from h) h'
 | false=>exact I.list_inj (show SqL X.K H a xs from h) h'
theorem iS{pins:List (Addr×Obj)}{t':Nat}{fp:List Addr}(I:Inv X pins σ H s)(F:∀b∈fp,kK X pins H b)(k:∀b o,b∉fp->s.heap.get? b=some o->h'.get? b=some o):Inv X pins σ H {s with heap:=h',toks:=t'}:=by
 have B:∀b u,H b=some u->b∉fp:=λb u e z=>by rw[(F b z).1]at e;cases e
 refine I.call' (s':={s with heap:=h',toks:=t'}) (ch:=fp) rfl ⟨λb o e _ _ hx=>k b o hx e,λb o e _ _ hx=>⟨o.slots,k b o hx e⟩,λ_ _ _ n _=>n,λb o e hx=>⟨o,k b o hx e⟩,λ_ _ q=>q,λ_ _ _ q=>q,λb ps q=>⟨#[],by rw[q];simp⟩⟩ (λb u e=>?_) I.bare λb M=>?_
 ·refine(I.hok b u e).stay (λc v G q=>k c v ?_ q) (λ_ q=>q) λ_ _ q=>q
  rcases G with z|z
  ·rw[z];exact B b u e
  ·exact B c _ z
 ·obtain⟨_,f1,_,J,U,N⟩:=F b M
  exact⟨J,f1,U,N⟩
theorem LS{P:zah}{w:World}{K:zae}{ae:List Expr}{x1}{tp:Pos}(t1 t2:Bool){z TI TO U W l1 l2:Addr}(D:ZA z TI TO U W l1 l2) :
  Turn P w K (.Tuple ae x1 tp) (ItZ K t1 t2 l1 l2) [z,TI,TO,U,W] z (λi h=>IsZip h z TI TO .none/\za3 h TI (.ref U) (.ref W)/\(∃a b,za3 h TO a b)/\SIt t1 h U l1 i/\SIt t2 h W l2 i) where
 mem:=by simp
 obj:=by
  rintro i h ⟨N,G,⟨a,b,J⟩,⟨o1,e1,_,d1⟩,⟨o2,e2,_,d2⟩⟩ c B;simp only[zaV,za0,or_false]at B;rcases B with rfl|rfl|rfl|rfl|rfl
  ·exact⟨_,N,λv q=>by cases q⟩
  ·exact⟨_,G,λv q=>by cases q⟩
  ·exact⟨_,J,λv q=>by cases q⟩
  ·exact⟨o1,e1,λv q=>by rw[d1]at q;cases q⟩
  ·exact⟨o2,e2,λv q=>by rw[d2]at q;cases q⟩
 keep:=λi h h' ⟨N,G,⟨a,b,J⟩,s1,s2⟩ k=>⟨k z (by simp) _ N,k TI (by simp) _ G,⟨a,b,k TO (by simp) _ J⟩,s1.to λo e=>k U (by simp) o e,s2.to λo e=>k W (by simp) o e⟩
 item:=by
  intro X hP hw hK B i pins s σ H E I hf st hg;subst hP hw hK;obtain⟨N,G,⟨a,b,J⟩,s1,s2⟩:=st;obtain⟨xs,ys,q1,q2,yC,ax⟩:=hg;obtain⟨ag,r1,p1⟩:=i4 I q1;obtain⟨ah,r2,p2⟩:=i4 I q2;have e1:xs[i]?=some xs[i]:=by simp[yC]
  have e2:ys[i]?=some ys[i]:=by simp[ax]
  obtain⟨u,eu,ru⟩:=r1.get e1;obtain⟨v,ev,rv⟩:=r2.get e2;refine JR D N G J s1 s2 p1 p2 (x:=u) (y:=v) (by simpa using eu) (by simpa using ev) λh' a1 a2 a3 a4 a5 a6 Y=>⟨_,rfl,?_⟩
  refine wpAny_letOwnedTupleGo_zip (s:={s with heap:=h'}) a1 λh2 ap sb=>?_
  have zz:∀c,c∈[z,TI,TO,U,W]->c<s.heap.objs.size:=λc B=>by
   simp only[zaV,za0,or_false]at B;rcases B with rfl|rfl|rfl|rfl|rfl
   ·exact zao N
   ·exact zao G
   ·exact zao J
   ·obtain⟨o,e,_⟩:=s1;exact zao e
   ·obtain⟨o,e,_⟩:=s2;exact zao e
  have M:∀c o,c≠z->h'.get? c=some o->h2.get? c=some o:=λc o B e=>sb.extBut _ _ B e
  have I1:Inv X pins σ H {s with heap:=h2,toks:=s.toks}:=iS I hf λc o B e=>by
   simp only[zaV,za0,or_false,not_or]at B;exact M c o B.1 (Y c o B.1 B.2.2.1 B.2.2.2.1 B.2.2.2.2 e)
  have F:H s.heap.objs.size=none:=I.fresh;have am:za3 h2 s.heap.objs.size u v:=M _ _ (zbq (zz z (by simp))) a5;have I2:Inv X pins σ (upd H s.heap.objs.size (.tup [xs[i],ys[i]])) {s with heap:=h2}:=by
   have aq:HOk X.prog X.w (upd H s.heap.objs.size (.tup [xs[i],ys[i]])) h2:=λc ob e=>by
    by_cases B:c=s.heap.objs.size
    ·subst B;rw[aI]at e;cases e
     exact⟨by show 2<=zai;decide,[u,v],.cons ru (.cons rv .nil),_,am,rfl,0,rfl,rfl⟩
    ·rw[aF B]at e
     exact(I1.hok c ob e).stay (λ_ _ _ q=>q) (λd q=>by rw[aF (bH q F)];exact q) λd ad q=>by rw[aF (bH q F)];exact q
   refine I.call' (s':={s with heap:=h2}) (ch:=[z,TI,TO,U,W]) rfl ⟨λc o e _ _ hx=>?_,λc o e _ _ hx=>⟨o.slots,?_⟩,λc o e n hx=>by rw[aF (zaE (zao e))];exact n,λc o e hx=>⟨o,?_⟩,λc ad q=>by rw[aF (bH q F)];exact q,λc o' u' q=>by rw[aF (bH q F)];exact q,λc ps q=>⟨#[],by rw[aF (bH q F),q];simp⟩⟩ aq I.bare λb hb=>?_
   ·simp only[zaV,za0,or_false,not_or]at hx
    exact M c o hx.1 (Y c o hx.1 hx.2.2.1 hx.2.2.2.1 hx.2.2.2.2 e)
   ·simp only[zaV,za0,or_false,not_or]at hx
    exact M c o hx.1 (Y c o hx.1 hx.2.2.1 hx.2.2.2.1 hx.2.2.2.2 e)
   ·simp only[zaV,za0,or_false,not_or]at hx
    exact M c o hx.1 (Y c o hx.1 hx.2.2.1 hx.2.2.2.1 hx.2.2.2.2 e)
   ·obtain⟨_,f1,_,f3,f4,f5⟩:=hf b hb
    exact⟨f3,f1,f4,f5⟩
  refine⟨.ref s.heap.objs.size,_,I2,rfl,⟨_,_,_,rfl,F,rfl,λbi ad g1 g2=>by rw[<- wU I q1 g1,<- wU I q2 g2];exact⟨e1,e2⟩⟩,⟨ap,M _ _ D.z1 (Y _ _ D.z1 D.z5 D.z6 D.z7 G),⟨_,_,M _ _ D.z2 a2⟩,a3.to λo e=>M _ o D.z3 e,a4.to λo e=>M _ o D.z4 e⟩,λc B=>?_⟩;rw[aF (zaE (zz c B))];exact(hf c B).1
 done:=by
  intro X hP hw hK B i pins s σ H E I hf st hg;subst hP hw hK;obtain⟨N,G,⟨a,b,J⟩,s1,s2⟩:=st;obtain⟨xs,ys,q1,q2,af⟩:=hg;obtain⟨ag,r1,p1⟩:=i4 I q1;obtain⟨ah,r2,p2⟩:=i4 I q2;have n1:=r1.length;have n2:=r2.length;refine JM (I.ok.hd B) D N G J s1 s2 p1 p2 (af.imp (λh=>by simp;lia) λh=>by simp;lia) λh' Y=>⟨rfl,iS (t':=s.toks) I hf λc o B e=>?_⟩
  simp only[zaV,za0,or_false,not_or]at B;exact Y c o B.1 B.2.2.1 B.2.2.2.1 B.2.2.2.2 e
 self:=λ_ _ _ _ _ st h=>wpAny_pyIter_zip st.1 h
theorem YE(n q z:Nat)(h1:q<n)(h2:z<n):ZA (n+4) (n+2) (n+3) n (n+1) q z:=⟨(show(n+2:Nat)≠n+4 by lia),(show(n+3:Nat)≠n+4 by lia),(show(n:Nat)≠n+4 by lia),(show(n+1:Nat)≠n+4 by lia),(show(n+2:Nat)≠n+3 by lia),(show(n+2:Nat)≠n by lia),(show(n+2:Nat)≠n+1 by lia),(show(n+3:Nat)≠n by lia),(show(n+3:Nat)≠n+1 by lia),(show(n:Nat)≠n+1 by lia),⟨(show(q:Nat)≠n+4 by lia),(show(q:Nat)≠n+3 by lia),(show(q:Nat)≠n by lia),(show(q:Nat)≠n+1 by lia)⟩,⟨(show(z:Nat)≠n+4 by lia),(show(z:Nat)≠n+3 by lia),(show(z:Nat)≠n by lia),(show(z:Nat)≠n+1 by lia)⟩⟩
def qal(K:zae)(ta:TA):TI:=λσ H R=>ta σ H λvs H1=>∃F B q z xs ys,vs=[.ref q,.ref z]/\BH K F H1 q xs/\BH K B H1 z ys/\R (ItZ K F B q z) H1
theorem UZ{G:List Expr}{x1}(hg:Gl X "zip")(hm:X.mg "zip" = none)(ha:PA X [a,b] ta)(hs:zag [a,b] X.env=[(false,eval a X.env),(false,eval b X.env)]:=by rfl)(B:zag [b] X.env=[(false,eval b X.env)]:=by rfl) :
  PI X (.Tuple G x1 tp) (.Call (.Name "zip" p) [a,b] [] pos) (qal X.K ta):=by
 intro pins s σ H R I h;refine Call_ (lS I hg hm My.boot_zip (zcP (cS (ha pos pins s σ H _ I h) λus z ⟨vs,H1,F,r1,Y⟩=>?_) (by rw[hs,B]) (by rw[B];rfl)));obtain⟨t1,t2,l1,l2,xs,ys,rfl,Y,q2,q⟩:=Y;obtain⟨u,v,rfl,ru,rv⟩:=vals2 r1;cases ru;cases rv;obtain⟨ac,_,p1⟩:=i4 F Y;obtain⟨ad,_,p2⟩:=i4 F q2;have b1:l1<z.heap.objs.size:=by obtain⟨o,e,_⟩:=p1;exact zao e
 have b2:l2<z.heap.objs.size:=by obtain⟨o,e,_⟩:=p2;exact zao e
 refine KB p1 p2 λh' hz W N M U k=>?_
 refine wpAny_pyIter_zip hz ?_;have D:ZA (z.heap.objs.size+4) (z.heap.objs.size+2) (z.heap.objs.size+3) z.heap.objs.size (z.heap.objs.size+1) l1 l2:=YE _ _ _ b1 b2;refine⟨_,[_,_,_,_,_],_,_,H1,rfl,F.kept (t':=z.toks) k,LS t1 t2 D,⟨hz,W,⟨_,_,N⟩,M,U⟩,λc J=>F.fpOk ?_ (F.hok.fresh ?_),q⟩
 ·simp only[zaV,za0,or_false]at J
  rcases J with rfl|rfl|rfl|rfl|rfl <;> lia
 ·simp only[zaV,za0,or_false]at J
  rcases J with rfl|rfl|rfl|rfl|rfl <;> lia
end My
namespace P
open PySem PySem.Spec PyProof.Rows L2
inductive D where
 | non|bl (b:Bool)|int (i:Int)|str (x:Str)|tup (l:List D)|lst (l:List D)
 | dK (l:List (Key×D))|dT (l:List (List Key×D))
 | ob (C:Addr) (fs:List (Str×D))|mem (dom:List (Key×List Key)) (f:Key×List Key->Option (Int×Int))
abbrev Av:=Addr->Prop
section
variable (A:Av)(H:Hp)
mutual
/-- a heap bears a value that stays (the things that may still be written are in A) -/
inductive Rep:D->V->Prop where
 | non:Rep .non .non
 | bl (b:Bool):Rep (.bl b) (.bl b)
 | int (i:Int):Rep (.int i) (.int i)
 | str (x:Str):Rep (.str x) (.str x)
 | tup {l:List D} {a:Addr} {xs:List V} (h:H a=some (.tup xs)) (r:RepL l xs):Rep (.tup l) (.ref a)
 | lst {l:List D} {a:Addr} {xs:List V} (n:¬ A a) (h:Rd H a (.lst xs)) (r:RepL l xs):Rep (.lst l) (.ref a)
 | dK {l:List (Key×D)} {a:Addr} {xs:List (Key×V)} (n:¬ A a) (h:Rd H a (.dK xs)) (e:xs.map (·.1)=l.map (·.1)) (r:RepL (l.map (·.2)) (xs.map (·.2))):Rep (.dK l) (.ref a)
 | dT {l:List (List Key×D)} {a:Addr} {xs:List (List Key×V)} (n:¬ A a) (h:Rd H a (.dT xs)) (e:xs.map (·.1)=l.map (·.1)) (r:RepL (l.map (·.2)) (xs.map (·.2))):Rep (.dT l) (.ref a)
 | ob {C a dx:Addr} {fs:List (Str×D)} {vs:List (Str×V)} (n:¬ A a) (h:H a=some (.ins C dx vs)) (e:vs.map (·.1)=fs.map (·.1)) (r:RepL (fs.map (·.2)) (vs.map (·.2))):Rep (.ob C fs) (.ref a)
 | mem {dom:List (Key×List Key)} {f:Key×List Key->Option (Int×Int)} {a:Addr} (h:H a=some (.memo dom f none)):Rep (.mem dom f) (.ref a)
inductive RepL:List D->List V->Prop where
 | nil:RepL [] []
 | cons {d:D} {v:V} {ds:List D} {vs:List V} (h:Rep d v) (t:RepL ds vs):RepL (d::ds) (v::vs)
end
inductive RepB:D->V->Prop where
 | of {d:D} {v:V} (h:Rep A H d v):RepB d v
 | lst {l:List D} {a:Addr} {xs:List V} (h:Rd H a (.lst xs)) (r:RepL A H l xs):RepB (.lst l) (.ref a)
 | dK {l:List (Key×D)} {a:Addr} {xs:List (Key×V)} (h:Rd H a (.dK xs)) (e:xs.map (·.1)=l.map (·.1)) (r:RepL A H (l.map (·.2)) (xs.map (·.2))):RepB (.dK l) (.ref a)
 | dT {l:List (List Key×D)} {a:Addr} {xs:List (List Key×V)} (h:Rd H a (.dT xs)) (e:xs.map (·.1)=l.map (·.1)) (r:RepL A H (l.map (·.2)) (xs.map (·.2))):RepB (.dT l) (.ref a)
inductive Own:D->Addr->Prop where
 | lst {l:List D} {a:Addr} {xs:List V} (h:H a=some (.lst xs)) (r:RepL A H l xs):Own (.lst l) a
 | dK {l:List (Key×D)} {a:Addr} {xs:List (Key×V)} (h:H a=some (.dK xs)) (e:xs.map (·.1)=l.map (·.1)) (r:RepL A H (l.map (·.2)) (xs.map (·.2))):Own (.dK l) a
 | dT {l:List (List Key×D)} {a:Addr} {xs:List (List Key×V)} (h:H a=some (.dT xs)) (e:xs.map (·.1)=l.map (·.1)) (r:RepL A H (l.map (·.2)) (xs.map (·.2))):Own (.dT l) a
end
def Kp:HO->Prop
 | .tup _=>True | .lst _=>True | .ins _ _ _=>True | .memo _ _ _=>True|_=>False
structure Ext(A:Av)(H H':Hp):Prop where
 rd:∀b u,Rd H b u->Rd H' b u
 kp:∀b u,Kp u->H b=some u->H' b=some u
 ow:∀b u,A b->H b=some u->H' b=some u
 fz:∀b o u,H b=some (.frz o u)->H' b=some (.frz o u)
theorem Ext.refl(A:Av)(H:Hp):Ext A H H:=⟨λ_ _ h=>h,λ_ _ _ h=>h,λ_ _ _ h=>h,λ_ _ _ h=>h⟩
theorem Ext.trans(a:Ext A H H1)(b:Ext A H1 H2):Ext A H H2:=
 ⟨λc u h=>b.rd c u (a.rd c u h),λc u k h=>b.kp c u k (a.kp c u k h),λc u n h=>b.ow c u n (a.ow c u n h),λc o u h=>b.fz c o u (a.fz c o u h)⟩
theorem Ext.mono(h:Ext A H H')(s:∀a,A' a->A a):Ext A' H H':=⟨h.rd,h.kp,λb u n e=>h.ow b u (s b n) e,h.fz⟩
theorem Ext.same(h:Same H H'):Ext A H H':=
 ⟨λb u r=>by rcases r with r|⟨o,r⟩;exact .inl (h _ _ r);exact .inr ⟨o,h _ _ r⟩,λb u _ r=>h _ _ r,λb u _ r=>h _ _ r,λb o u r=>h _ _ r⟩
theorem Ext.tp(x:Ext A H H')(b:Addr)(xs:List V)(h:H b=some (.tup xs)):H' b=some (.tup xs):=x.kp b _ trivial h
theorem Ext.new(h:H p=none):Ext A H (upd H p o):=Ext.same (My.KP h)
mutual
theorem Rep.ext(x:Ext A H H'):Rep A H d v->Rep A H' d v
 | .non=>.non
 | .bl b=>.bl b
 | .int i=>.int i
 | .str s=>.str s
 | .tup h r=>.tup (x.tp _ _ h) (RepL.ext x r)
 | .lst n h r=>.lst n (x.rd _ _ h) (RepL.ext x r)
 | .dK n h e r=>.dK n (x.rd _ _ h) e (RepL.ext x r)
 | .dT n h e r=>.dT n (x.rd _ _ h) e (RepL.ext x r)
 | .ob n h e r=>.ob n (x.kp _ _ trivial h) e (RepL.ext x r)
 | .mem h=>.mem (x.kp _ _ trivial h)
theorem RepL.ext(x:Ext A H H'):RepL A H ds vs->RepL A H' ds vs
 | .nil=>.nil
 | .cons h t=>.cons (Rep.ext x h) (RepL.ext x t)
end
theorem RepB.ext(x:Ext A H H'):RepB A H d v->RepB A H' d v
 | .of h=>.of (h.ext x)
 | .lst h r=>.lst (x.rd _ _ h) (r.ext x)
 | .dK h e r=>.dK (x.rd _ _ h) e (r.ext x)
 | .dT h e r=>.dT (x.rd _ _ h) e (r.ext x)
theorem Own.ext(x:Ext A H H')(q:A a):Own A H d a->Own A H' d a
 | .lst h r=>.lst (x.ow _ _ q h) (r.ext x)
 | .dK h e r=>.dK (x.ow _ _ q h) e (r.ext x)
 | .dT h e r=>.dT (x.ow _ _ q h) e (r.ext x)
theorem Own.b:Own A H d a->RepB A H d (.ref a)
 | .lst h r=>.lst (.inl h) r
 | .dK h e r=>.dK (.inl h) e r
 | .dT h e r=>.dT (.inl h) e r
mutual
/-- avoid other things: those that were not there, or fewer -/
theorem Rep.av(x:∀a,A' a->A a\/H a=none):Rep A H d v->Rep A' H d v
 | .non=>.non
 | .bl b=>.bl b
 | .int i=>.int i
 | .str s=>.str s
 | .tup h r=>.tup h (RepL.av x r)
 | .lst n h r=>.lst (λz=>(x _ z).elim n λz=>by rcases h with h|⟨o,h⟩ <;> (rw[z]at h;cases h)) h (RepL.av x r)
 | .dK n h e r=>.dK (λz=>(x _ z).elim n λz=>by rcases h with h|⟨o,h⟩ <;> (rw[z]at h;cases h)) h e (RepL.av x r)
 | .dT n h e r=>.dT (λz=>(x _ z).elim n λz=>by rcases h with h|⟨o,h⟩ <;> (rw[z]at h;cases h)) h e (RepL.av x r)
 | .ob n h e r=>.ob (λz=>(x _ z).elim n λz=>by rw[z]at h;cases h) h e (RepL.av x r)
 | .mem h=>.mem h
theorem RepL.av(x:∀a,A' a->A a\/H a=none):RepL A H ds vs->RepL A' H ds vs
 | .nil=>.nil
 | .cons h t=>.cons (Rep.av x h) (RepL.av x t)
end
noncomputable def XF:HO->Prop
 | .lst _=>True | .dK _=>True | .dT _=>True|_=>False
theorem eS(n:b≠a)(h:Rd H b u):Rd (upd H a o) b u:=by
 rcases h with h|⟨x,h⟩
 ·exact .inl (by rw[aF n];exact h)
 ·exact .inr ⟨x,by rw[aF n];exact h⟩
mutual
theorem Rep.put(B:A a)(q:H a=some u)(F:XF u):Rep A H d v->Rep A (upd H a o) d v
 | .non=>.non
 | .bl b=>.bl b
 | .int i=>.int i
 | .str s=>.str s
 | .tup (a:=b) h r=>.tup (by rw[aF (λz=>by subst z;rw[q]at h;cases h;exact F)];exact h) (RepL.put B q F r)
 | .lst (a:=b) n h r=>.lst n (eS (λz=>n (by rw[z];exact B)) h) (RepL.put B q F r)
 | .dK (a:=b) n h e r=>.dK n (eS (λz=>n (by rw[z];exact B)) h) e (RepL.put B q F r)
 | .dT (a:=b) n h e r=>.dT n (eS (λz=>n (by rw[z];exact B)) h) e (RepL.put B q F r)
 | .ob (a:=b) n h e r=>.ob n (by rw[aF (λz=>by subst z;rw[q]at h;cases h;exact F)];exact h) e (RepL.put B q F r)
 | .mem (a:=b) h=>.mem (by rw[aF (λz=>by subst z;rw[q]at h;cases h;exact F)];exact h)
theorem RepL.put(z:A a)(q:H a=some u)(B:XF u):RepL A H ds vs->RepL A (upd H a o) ds vs
 | .nil=>.nil
 | .cons h t=>.cons (Rep.put z q B h) (RepL.put z q B t)
end
theorem Own.put{A:Av}{H:Hp}{a b:Addr}{o u:HO}(z:A a)(q:H a=some u)(B:XF u)(F:b≠a){d:D}:Own A H d b->Own A (upd H a o) d b
 | .lst h r=>.lst (by rw[aF F];exact h) (r.put z q B)
 | .dK h e r=>.dK (by rw[aF F];exact h) e (r.put z q B)
 | .dT h e r=>.dT (by rw[aF F];exact h) e (r.put z q B)
theorem Own.av(x:∀a,A' a->A a\/H a=none):Own A H d a->Own A' H d a
 | .lst h r=>.lst h (r.av x)
 | .dK h e r=>.dK h e (r.av x)
 | .dT h e r=>.dT h e (r.av x)
theorem Own.rep(n:¬ A a):Own A H d a->Rep A H d (.ref a)
 | .lst h r=>.lst n (.inl h) r
 | .dK h e r=>.dK n (.inl h) e r
 | .dT h e r=>.dT n (.inl h) e r
section
variable {A:Av}{H:Hp}
theorem RepL.length:∀ {ds:List D} {vs:List V},RepL A H ds vs->vs.length=ds.length
 | _,_,.nil=>rfl
 | _,_,.cons _ t=>by rw[zaz,zaz,RepL.length t]
theorem RepL.get:∀ {ds:List D} {vs:List V} {i:Nat} {v:V},RepL A H ds vs->vs[i]?=some v->∃d,ds[i]?=some d/\Rep A H d v
 | _,_,i,v,.nil,e=>by simp at e
 | _,_,0,v,.cons h t,e=>by simp at e;subst e;exact⟨_,rfl,h⟩
 | _,_,i+1,v,.cons h t,e=>RepL.get (i:=i) t (by simpa using e)
theorem RepL.get':∀ {ds:List D} {vs:List V} {i:Nat} {d:D},RepL A H ds vs->ds[i]?=some d->∃v,vs[i]?=some v/\Rep A H d v
 | _,_,i,v,.nil,e=>by simp at e
 | _,_,0,v,.cons h t,e=>by simp at e;subst e;exact⟨_,rfl,h⟩
 | _,_,i+1,v,.cons h t,e=>RepL.get' (i:=i) t (by simpa using e)
theorem RepL.append:∀ {ds es:List D} {vs us:List V},RepL A H ds vs->RepL A H es us->RepL A H (ds++es) (vs++us)
 | _,_,_,_,.nil,s=>s
 | _,_,_,_,.cons h t,s=>.cons h (RepL.append t s)
theorem RepL.take:∀ {ds:List D} {vs:List V} (n:Nat),RepL A H ds vs->RepL A H (ds.take n) (vs.take n)
 | _,_,0,_=>by simp;exact .nil
 | _,_,n+1,.nil=>.nil
 | _,_,n+1,.cons h t=>.cons h (RepL.take n t)
theorem RepL.drop:∀ {ds:List D} {vs:List V} (n:Nat),RepL A H ds vs->RepL A H (ds.drop n) (vs.drop n)
 | _,_,0,r=>r
 | _,_,n+1,.nil=>.nil
 | _,_,n+1,.cons h t=>RepL.drop n t
theorem RepL.set:∀ {ds:List D} {vs:List V} {d:D} {v:V} (n:Nat),Rep A H d v->RepL A H ds vs->RepL A H (ds.set n d) (vs.set n v)
 | _,_,_,_,_,_,.nil=>.nil
 | _,_,_,_,0,r,.cons h t=>.cons r t
 | _,_,_,_,n+1,r,.cons h t=>.cons h (RepL.set n r t)
theorem Rep.b(h:Rep A H d v):RepB A H d v:=.of h
theorem RepB.int_inv(h:RepB A H (.int i) v):v=.int i:=by cases h with|of h=>cases h;rfl
theorem RepB.bl_inv(h:RepB A H (.bl i) v):v=.bl i:=by cases h with|of h=>cases h;rfl
theorem RepB.str_inv(h:RepB A H (.str i) v):v=.str i:=by cases h with|of h=>cases h;rfl
theorem RepB.non_inv(h:RepB A H .non v):v=.non:=by cases h with|of h=>cases h;rfl
theorem RepB.tup_inv(h:RepB A H (.tup l) v):∃a xs,v=.ref a/\H a=some (.tup xs)/\RepL A H l xs:=by
 cases h with|of h=>cases h with|tup h r=>exact⟨_,_,rfl,h,r⟩
theorem RepB.ob_inv{C:Addr}{fs:List (Str×D)}{v:V}(h:RepB A H (.ob C fs) v):∃a dx vs,v=.ref a/\H a=some (.ins C dx vs)/\vs.map (·.1)=fs.map (·.1)/\RepL A H (fs.map (·.2)) (vs.map (·.2)):=by
 cases h with
 | of h=>cases h with
  | ob n h e r=>exact⟨_,_,_,rfl,h,e,r⟩
theorem RepB.mem_inv{dom:List (Key×List Key)}{f:Key×List Key->Option (Int×Int)}{v:V}(h:RepB A H (.mem dom f) v):∃a,v=.ref a/\H a=some (.memo dom f none):=by
 cases h with
 | of h=>cases h with
  | mem h=>exact⟨_,rfl,h⟩
theorem RepB.lst_inv(h:RepB A H (.lst l) v):∃a xs,v=.ref a/\Rd H a (.lst xs)/\RepL A H l xs:=by
 cases h with
 | of h=>cases h with|lst n h r=>exact⟨_,_,rfl,h,r⟩
 | lst h r=>exact⟨_,_,rfl,h,r⟩
theorem RepB.dK_inv(h:RepB A H (.dK l) v):∃a xs,v=.ref a/\Rd H a (.dK xs)/\xs.map (·.1)=l.map (·.1)/\RepL A H (l.map (·.2)) (xs.map (·.2)):=by
 cases h with
 | of h=>cases h with|dK n h e r=>exact⟨_,_,rfl,h,e,r⟩
 | dK h e r=>exact⟨_,_,rfl,h,e,r⟩
theorem RepB.dT_inv(h:RepB A H (.dT l) v):∃a xs,v=.ref a/\Rd H a (.dT xs)/\xs.map (·.1)=l.map (·.1)/\RepL A H (l.map (·.2)) (xs.map (·.2)):=by
 cases h with
 | of h=>cases h with|dT n h e r=>exact⟨_,_,rfl,h,e,r⟩
 | dT h e r=>exact⟨_,_,rfl,h,e,r⟩
end
abbrev cY:=List (Option D)
inductive Fact where
 | rep (d:D) (v:V)|fz (a:Addr) (o:Obj) (u:HO)
def Fact.Holds(A:Av)(H:Hp):Fact->Prop
 | .rep d v=>Rep A H d v
 | .fz a o u=>H a=some (.frz o u)
theorem Fact.ext(x:Ext A H H'):∀ {p:Fact},p.Holds A H->p.Holds A H'
 | .rep _ _,h=>Rep.ext x h
 | .fz _ _ _,h=>x.fz _ _ _ h
theorem Fact.av(x:∀a,A' a->A a\/H a=none):∀ {p:Fact},p.Holds A H->p.Holds A' H
 | .rep _ _,h=>Rep.av x h
 | .fz _ _ _,h=>h
theorem Fact.put(G:A a)(B:H a=some u)(F:XF u):∀ {p:Fact},p.Holds A H->p.Holds A (upd H a o)
 | .rep _ _,h=>Rep.put G B F h
 | .fz b q w,h=>by
  have h:H b=some (.frz q w):=h;show upd H a o b=some (.frz q w);rw[aF (λz=>by subst z;rw[B]at h;cases h;exact F)];exact h
structure ST(H0:Hp)(A0 A:Av)(E:List Fact)(O:List Nat)(σ:L2.St)(H:Hp)(ρ:cY):Prop where
 ex:Ext A0 H0 H
 sub:∀a,A0 a->A a
 l0:∀a,A0 a->H0 a≠none
 live:∀a,A a->H a≠none
 len:σ.length=ρ.length
 val:∀i d,ρ[i]?=some (some d)->i∉O->∃v,σ[i]?=some (some v)/\Rep A H d v
 own:∀i d,ρ[i]?=some (some d)->i∈O->∃a,σ[i]?=some (some (.ref a))/\A a/\H0 a=none/\Own A H d a
 inj:∀i j d d' a,i∈O->j∈O->ρ[i]?=some (some d)->ρ[j]?=some (some d')->σ[i]?=some (some (.ref a))->σ[j]?=some (some (.ref a))->i=j
 ext:∀p∈E,p.Holds A H
section
variable {H0:Hp}{A0 A:Av}{E:List Fact}{O:List Nat}{σ:L2.St}{H H':Hp}{ρ:cY}
theorem ST.mono(s:ST H0 A0 A E O σ H ρ)(x:Ext A H H'):ST H0 A0 A E O σ H' ρ where
 ex:=s.ex.trans (x.mono s.sub)
 sub:=s.sub
 l0:=s.l0
 live:=λa q=>by
  have:=s.live a q;cases e:H a with
  | none=>exact absurd e this
  | some u=>rw[x.ow a u q e];exact λz=>nomatch z
 len:=s.len
 val:=λi d h n=>by obtain⟨v,h1,h2⟩:=s.val i d h n;exact⟨v,h1,h2.ext x⟩
 own:=λi d h n=>by obtain⟨a,h1,h2,G,B⟩:=s.own i d h n;exact⟨a,h1,h2,G,B.ext x h2⟩
 inj:=s.inj
 ext:=λp F=>Fact.ext x (s.ext p F)
theorem ST.more(s:ST H0 A0 A E O σ H ρ)(h:Rep A H d v):ST H0 A0 A (.rep d v::E) O σ H ρ:=
 {s with ext:=λp q=>by rcases List.mem_cons.mp q with e|e;rw[e];exact h;exact s.ext p e}
theorem ST.less(s:ST H0 A0 A E O σ H ρ)(h:∀p∈E',p∈E):ST H0 A0 A E' O σ H ρ:=
 {s with ext:=λp q=>s.ext p (h p q)}
theorem eR(h:(ρ.set i o)[j]?=some (some d)):(j=i/\o=some d/\i<ρ.length)\/(j≠i/\ρ[j]?=some (some d)):=by
 rw[List.getElem?_set]at h;by_cases e:i=j
 ·rw[if_pos e]at h
  by_cases l:i<ρ.length
  ·rw[if_pos l]at h
   exact .inl ⟨e.symm,zaF h,l⟩
  ·rw[if_neg l]at h;cases h
 ·rw[if_neg e]at h
  exact .inr ⟨λz=>e z.symm,h⟩
theorem sig_set(h:i<σ.length):(σ.set i (some v))[i]?=some (some v):=by simp[h]
theorem lQ(h:j≠i):(σ.set i (some v))[j]?=σ[j]?:=by rw[zbO (zaU h)]
theorem ST.put(s:ST H0 A0 A E O σ H ρ)(h:Rep A H d v)(n:i∉O):ST H0 A0 A E O (σ.set i (some v)) H (ρ.set i (some d)) where
 ex:=s.ex
 sub:=s.sub
 l0:=s.l0
 live:=s.live
 len:=by simp[s.len]
 val:=λj d' h' B=>by
  rcases eR h' with⟨e,q,l⟩|⟨e,q⟩
  ·subst e;cases q;exact⟨v,sig_set (by rw[s.len];exact l),h⟩
  ·obtain⟨w,h1,h2⟩:=s.val j d' q B;exact⟨w,by rw[lQ e];exact h1,h2⟩
 own:=λj d' h' B=>by
  rcases eR h' with⟨e,q,l⟩|⟨e,q⟩
  ·subst e;exact absurd B n
  ·obtain⟨w,h1,h2⟩:=s.own j d' q B;exact⟨w,by rw[lQ e];exact h1,h2⟩
 inj:=λj k Y W a N U h1 h2 F M=>by
  have J:j≠i:=λz=>n (z ▸ N)
  have G:k≠i:=λz=>n (z ▸ U)
  rcases eR h1 with⟨e,_⟩|⟨_,h1⟩
  ·exact absurd e J
  rcases eR h2 with⟨e,_⟩|⟨_,h2⟩
  ·exact absurd e G
  exact s.inj j k Y W a N U h1 h2 (by rw[lQ J]at F;exact F) (by rw[lQ G]at M;exact M)
 ext:=s.ext
theorem ST.shut(s:ST H0 A0 A E O σ H ρ)(h:∀i,i∈O'->i∈O):∃A',ST H0 A0 A' E O' σ H ρ:=by
 let F:Av:=λa=>∃i d,i∈O/\i∉O'/\ρ[i]?=some (some d)/\σ[i]?=some (some (.ref a))
 have cut:∀a,(A a/\¬ F a)->A a\/H a=none:=λa z=>.inl z.1
 refine⟨λa=>A a/\¬ F a,s.ex,λa M=>⟨s.sub a M,?_⟩,s.l0,λa M=>s.live a M.1,s.len,λi d hi n=>?_,λi d hi n=>?_,λi j d d' a hi hj=>s.inj i j d d' a (h i hi) (h j hj),λp Y=>Fact.av cut (s.ext p Y)⟩
 ·rintro⟨i,d,h1,h2,N,U⟩
  obtain⟨b,q,B,G,J⟩:=s.own i d N h1;rw[U]at q;cases q;exact s.l0 a M G
 ·by_cases W:i∈O
  ·obtain⟨a,q,B,G,J⟩:=s.own i d hi W
   exact⟨.ref a,q,(J.av cut).rep λz=>z.2 ⟨i,d,W,n,hi,q⟩⟩
  ·obtain⟨v,q,B⟩:=s.val i d hi W
   exact⟨v,q,B.av cut⟩
 ·obtain⟨a,q,B,G,J⟩:=s.own i d hi (h i n)
  refine⟨a,q,⟨B,?_⟩,G,J.av cut⟩;rintro⟨j,d',h1,h2,N,U⟩;have:=s.inj i j d d' a (h i n) h1 hi N q U;subst this;exact h2 n
end
abbrev Ev:=cY->Option D
abbrev Bv:=cY->Option Bool
abbrev Lv:=cY->Option (List D)
abbrev RR:=Av->Hp->D->V->Prop
inductive tD(R:RR)(O:List Nat)(f:Ev)(σ:L2.St)(H:Hp)(Q:VK):Prop
 | mk (H0:Hp) (A0 A:Av) (E:List Fact) (ρ:cY) (d:D) (st:ST H0 A0 A E O σ H ρ) (e:f ρ=some d) (q:∀v H',Ext A H H'->R A H' d v->Q v H'):tD R O f σ H Q
inductive tDT(O:List Nat)(g:Bv)(σ:L2.St)(H:Hp)(Q:Bool->Hp->Prop):Prop
 | mk (H0:Hp) (A0 A:Av) (E:List Fact) (ρ:cY) (b:Bool) (st:ST H0 A0 A E O σ H ρ) (e:g ρ=some b) (q:∀H',Ext A H H'->Q b H'):tDT O g σ H Q
def PD(X:Cx)(O:List Nat)(e:Expr)(f:Ev):Prop:=PE X e (tD Rep O f)
def PB(X:Cx)(O:List Nat)(e:Expr)(f:Ev):Prop:=PE X e (tD RepB O f)
def uZ(X:Cx)(O:List Nat)(e:Expr)(g:Bv):Prop:=PT X e (tDT O g)
def PDW(X:Cx)(O:List Nat)(e:Expr)(g:Bv):Prop:=PW X e (tDT O g)
theorem PDW.pt(h:PDW X O e g):uZ X O e g:=PW.pt h
inductive RL(R:RR)(A:Av)(H:Hp):List D->List V->Prop where
 | nil:RL R A H [] []
 | cons {d v ds vs} (h:R A H d v) (t:RL R A H ds vs):RL R A H (d::ds) (v::vs)
inductive tDA(R:RR)(O:List Nat)(f:Lv)(σ:L2.St)(H:Hp)(Q:List V->Hp->Prop):Prop
 | mk (H0:Hp) (A0 A:Av) (E:List Fact) (ρ:cY) (ds:List D) (st:ST H0 A0 A E O σ H ρ) (e:f ρ=some ds) (q:∀vs H',Ext A H H'->RL R A H' ds vs->Q vs H'):tDA R O f σ H Q
def BG(X:Cx)(O:List Nat)(es:List Expr)(f:Lv):Prop:=PA X es (tDA Rep O f)
def wD(X:Cx)(O:List Nat)(es:List Expr)(f:Lv):Prop:=PA X es (tDA RepB O f)
section
variable {X:Cx}{O:List Nat}
theorem PE.mono(h:PE X e t)(x:∀σ H Q,t' σ H Q->t σ H Q):PE X e t':=λpins s σ H Q I w=>h pins s σ H Q I (x σ H Q w)
theorem PT.mono(h:PT X e t)(x:∀σ H Q,t' σ H Q->t σ H Q):PT X e t':=λpins s σ H Q I w=>h pins s σ H Q I (x σ H Q w)
theorem PW.mono(h:PW X e t)(x:∀σ H Q,t' σ H Q->t σ H Q):PW X e t':=λq pins s σ H Q I w=>h q pins s σ H Q I (x σ H Q w)
theorem PA.mono(h:PA X es t)(x:∀σ H Q,t' σ H Q->t σ H Q):PA X es t':=λpos pins s σ H Q I w=>h pos pins s σ H Q I (x σ H Q w)
theorem PD.b{e:Expr}{f:Ev}(h:PD X O e f):PB X O e f:=PE.mono h λσ H Q ⟨H0,A0,A,E,ρ,d,st,e,q⟩=>⟨H0,A0,A,E,ρ,d,st,e,λv H' x r=>q v H' x (.of r)⟩
theorem RL.toL:∀ {ds:List D} {vs:List V},RL Rep A H ds vs->RepL A H ds vs
 | _,_,.nil=>.nil
 | _,_,.cons h t=>.cons h (RL.toL t)
def aD(i:Nat):Ev:=λρ=>(ρ[i]?).join
def eC(d:D):Ev:=λ_=>some d
theorem bU{ρ:cY}{i:Nat}{d:D}(h:(ρ[i]?).join=some d):ρ[i]?=some (some d):=by
 cases e:ρ[i]? with
 | none=>rw[e]at h;cases h
 | some o=>rw[e]at h;cases o with
  | none=>cases h
  | some x=>cases h;rfl
theorem tY{e:Expr}(i:Nat)(h:PE X e (cX i))(n:i∉O):PD X O e (aD i):=PE.mono h <| by
 rintro σ H Q ⟨H0,A0,A,E,ρ,d,st,e,q⟩;obtain⟨v,z,r⟩:=st.val i d (bU e) n;exact⟨v,z,q v H (Ext.refl _ _) r⟩
theorem V5{e:Expr}(i:Nat)(h:PE X e (cX i)):PB X O e (aD i):=PE.mono h <| by
 rintro σ H Q ⟨H0,A0,A,E,ρ,d,st,e,q⟩;by_cases n:i∈O
 ·obtain⟨a,z,_,_,r⟩:=st.own i d (bU e) n
  exact⟨_,z,q _ H (Ext.refl _ _) r.b⟩
 ·obtain⟨v,z,r⟩:=st.val i d (bU e) n
  exact⟨v,z,q v H (Ext.refl _ _) (.of r)⟩
theorem VM{i j pos}:PD X O (.Constant (.int i) j pos) (eC (.int i)):=PE.mono WM λσ H Q ⟨H0,A0,A,E,ρ,d,st,e,q⟩=>by cases e;exact q _ H (Ext.refl _ _) (.int _)
theorem YR{i j pos}:PD X O (.Constant (.bool i) j pos) (eC (.bl i)):=PE.mono XO λσ H Q ⟨H0,A0,A,E,ρ,d,st,e,q⟩=>by cases e;exact q _ H (Ext.refl _ _) (.bl _)
theorem VC{i j pos}:PD X O (.Constant (.str i) j pos) (eC (.str i)):=PE.mono VG λσ H Q ⟨H0,A0,A,E,ρ,d,st,e,q⟩=>by cases e;exact q _ H (Ext.refl _ _) (.str _)
theorem U5{j pos}:PD X O (.Constant .none j pos) (eC .non):=PE.mono U0 λσ H Q ⟨H0,A0,A,E,ρ,d,st,e,q⟩=>by cases e;exact q _ H (Ext.refl _ _) .non
def Live(A:Av)(H:Hp):Prop:=∀a,A a->H a≠none
theorem Live.ext(l:Live A H)(x:Ext A H H'):Live A H':=λa q=>by
 cases e:H a with
 | none=>exact absurd e (l a q)
 | some u=>rw[x.ow a u q e];exact λz=>nomatch z
inductive rD(g:D->D->Option D)(x y:V)(H:Hp)(Q:VK):Prop
 | mk (A:Av) (dx dy d:D) (lv:Live A H) (rx:RepB A H dx x) (ry:RepB A H dy y) (e:g dx dy=some d) (q:∀v H',Ext A H H'->Rep A H' d v->Q v H'):rD g x y H Q
def lA(X:Cx)(f:Value->Value->Sem Value)(g:D->D->Option D):Prop:=OpR X f (rD g)
theorem OpR.mono(h:OpR X f r)(x:∀a b H Q,r' a b H Q->r a b H Q):OpR X f r':=λpins s σ H a b v u Q I z q w=>h pins s σ H a b v u Q I z q (x a b H Q w)
def a7(g:D->D->Option D)(q fb:Ev):Ev:=λρ=>(q ρ).bind λx=>(fb ρ).bind λy=>g x y
theorem bind_some{q β:Type}{o:Option q}{f:q->Option β}{b:β}(h:o.bind f=some b):∃a,o=some a/\f a=some b:=by
 cases o with
 | none=>cases h
 | some a=>exact⟨a,rfl,h⟩
theorem xS{g:D->D->Option D}{G fb:Ev}{σ:L2.St}{H:Hp}{Q:VK}(h:tD Rep O (a7 g G fb) σ H Q):qo (rD g) (tD RepB O G) (tD RepB O fb) σ H Q:=by
 obtain⟨H0,A0,A,E,ρ,d,st,e,q⟩:=h;obtain⟨x,ex,e⟩:=bind_some e;obtain⟨y,J,e⟩:=bind_some e;exact⟨H0,A0,A,E,ρ,x,st,ex,λv H1 B r1=>⟨H0,A0,A,E,ρ,y,st.mono B,J,λw H2 F r2=>⟨A,x,y,d,(st.mono (B.trans F)).live,r1.ext F,r2,e,λz M N r3=>q z M ((B.trans F).trans N) r3⟩⟩⟩
theorem bS(B:lA X (zaL op) g)(q:PB X O a fa)(z:PB X O b fb):PD X O (.BinOp a op b pos) (a7 g fa fb):=
 PE.mono (XU B q z) λσ H Q h=>xS h
theorem WK(F:lA X (zay op) g)(z:PB X O a fa)(B:PB X O b fb)(q:zbP op b=false):PD X O (.Compare a [op] [b] pos) (a7 g fa fb):=
 PE.mono (RF F z B q) λσ H Q h=>xS h
noncomputable def R8:D->Option Bool
 | .bl b=>some b
 | _=>none
theorem tR(h:R8 d=some b):d=.bl b:=by
 cases d <;> cases h;rfl
def qC(f:Ev):Bv:=λρ=>(f ρ).bind R8
theorem AQ{f:Ev}{σ:L2.St}{H:Hp}{Q:Bool->Hp->Prop}(h:tDT O (qC f) σ H Q):tD Rep O f σ H λx H'=>∃k,x=.bl k/\Q k H':=by
 obtain⟨H0,A0,A,E,ρ,b,st,e,q⟩:=h;obtain⟨x,ex,e⟩:=bind_some e;rw[tR e]at ex;exact⟨H0,A0,A,E,ρ,_,st,ex,λv H1 z r1=>⟨b,RepB.bl_inv (.of r1),q H1 z⟩⟩
theorem EW(F:lA X (zay op) g)(z:PB X O a fa)(B:PB X O b fb)(q:zbP op b=false):uZ X O (.Compare a [op] [b] pos) (qC (a7 g fa fb)):=
 PT.mono (Q7 F z B q) λσ H Q h=>xS (AQ h)
theorem RH(h:PD X O e f)(z:∀q,isTrue e X.env q=(do let v <- q;standAt e.pos;zcj [v] (truthy v)):=by intro _;rfl):uZ X O e (qC f):=
 PT.mono (V9 h z) λσ H Q h=>AQ h
def NS(g:Bv):Bv:=λρ=>(g ρ).map (!·)
def IW(g h:Bv):Bv:=λρ=>(g ρ).bind λb=>if b=true then h ρ else some false
def TH(g h:Bv):Bv:=λρ=>(g ρ).bind λb=>if b=true then some true else h ρ
theorem QU(h:uZ X O a g):uZ X O (.UnaryOp .Not a pos) (NS g):=PT.mono (VE h) <| by
 rintro σ H Q ⟨H0,A0,A,E,ρ,b,st,e,q⟩;unfold NS at e;cases z:g ρ with
 | none=>rw[z]at e;cases e
 | some c=>rw[z]at e;cases e;exact⟨H0,A0,A,E,ρ,c,st,z,q⟩
theorem KJ(h:uZ X O a g):PDW X O (.BoolOp .And [a] pos) g:=P2 h
theorem QT(h:uZ X O a g):PDW X O (.BoolOp .Or [a] pos) g:=UC h
theorem QA{a b:Expr}{rest:List Expr}{pos:Pos}{g k:Bv}(F:uZ X O a g)(G:PDW X O (.BoolOp .And (b::rest) pos) k):PDW X O (.BoolOp .And (a::b::rest) pos) (IW g k):=
 PW.mono (T2 F G) <| by
  rintro σ H Q ⟨H0,A0,A,E,ρ,b,st,e,q⟩;obtain⟨x,ex,e⟩:=bind_some e;refine⟨H0,A0,A,E,ρ,x,st,ex,λH1 z=>?_⟩;cases x with
  | false=>rw[if_neg zaA]at e ⊢;cases e;exact q H1 z
  | true=>rw[if_pos rfl]at e ⊢;exact⟨H0,A0,A,E,ρ,b,st.mono z,e,λH2 B=>q H2 (z.trans B)⟩
theorem WQ{a b:Expr}{rest:List Expr}{pos:Pos}{g k:Bv}(F:uZ X O a g)(G:PDW X O (.BoolOp .Or (b::rest) pos) k):PDW X O (.BoolOp .Or (a::b::rest) pos) (TH g k):=
 PW.mono (YH F G) <| by
  rintro σ H Q ⟨H0,A0,A,E,ρ,b,st,e,q⟩;obtain⟨x,ex,e⟩:=bind_some e;refine⟨H0,A0,A,E,ρ,x,st,ex,λH1 z=>?_⟩;cases x with
  | true=>rw[if_pos rfl]at e ⊢;cases e;exact q H1 z
  | false=>rw[if_neg zaA]at e ⊢;exact⟨H0,A0,A,E,ρ,b,st.mono z,e,λH2 B=>q H2 (z.trans B)⟩
def W1(f g:Ev):Ev:=λρ=>(f ρ).bind λx=>(R8 x).bind λb=>if b=true then g ρ else some (.bl false)
def Z6(f:Ev):Ev:=λρ=>(f ρ).bind λx=>(R8 x).map λb=>.bl (!b)
def qi(c:Bv)(f g:Ev):Ev:=λρ=>(c ρ).bind λb=>if b=true then f ρ else g ρ
theorem U8{op}(h:PD X O a f):PD X O (.BoolOp op [a] pos) f:=VA h
theorem V4{a b:Expr}{rest:List Expr}{pos:Pos}{f g:Ev}(F:PD X O a f)(G:PD X O (.BoolOp .And (b::rest) pos) g):PD X O (.BoolOp .And (a::b::rest) pos) (W1 f g):=
 PE.mono (VV F G) <| by
  rintro σ H Q ⟨H0,A0,A,E,ρ,d,st,e,q⟩;obtain⟨x,ex,e⟩:=bind_some e;obtain⟨b,J,e⟩:=bind_some e;rw[tR J]at ex;refine⟨H0,A0,A,E,ρ,_,st,ex,λv H1 z r1=>⟨b,RepB.bl_inv (.of r1),?_⟩⟩;cases b with
  | false=>rw[if_neg zaA]at e ⊢;cases e;exact q _ H1 z (.bl _)
  | true=>rw[if_pos rfl]at e ⊢;exact⟨H0,A0,A,E,ρ,d,st.mono z,e,λw H2 B=>q w H2 (z.trans B)⟩
theorem VP{a:Expr}{pos:Pos}{f:Ev}(F:PD X O a f):PD X O (.UnaryOp .Not a pos) (Z6 f):=
 PE.mono (VQ F) <| by
  rintro σ H Q ⟨H0,A0,A,E,ρ,d,st,e,q⟩;obtain⟨x,ex,e⟩:=bind_some e;cases z:R8 x with
  | none=>rw[z]at e;cases e
  | some b=>
   rw[z]at e;cases e;rw[tR z]at ex;exact⟨H0,A0,A,E,ρ,_,st,ex,λv H1 B r1=>⟨b,RepB.bl_inv (.of r1),q _ H1 B (.bl _)⟩⟩
theorem SI{c a b:Expr}{pos:Pos}{g:Bv}{f k:Ev}(F:uZ X O c g)(G:PD X O a f)(J:PD X O b k):PD X O (.IfExp c a b pos) (qi g f k):=
 PE.mono (JI F G J) <| by
  rintro σ H Q ⟨H0,A0,A,E,ρ,d,st,e,q⟩;obtain⟨b,M,e⟩:=bind_some e;refine⟨H0,A0,A,E,ρ,b,st,M,λH1 z=>?_⟩;cases b with
  | true=>rw[if_pos rfl]at e ⊢;exact⟨H0,A0,A,E,ρ,d,st.mono z,e,λw H2 B=>q w H2 (z.trans B)⟩
  | false=>rw[if_neg zaA]at e ⊢;exact⟨H0,A0,A,E,ρ,d,st.mono z,e,λw H2 B=>q w H2 (z.trans B)⟩
end
section
variable {X:Cx}{O:List Nat}
def aW:Lv:=λ_=>some []
def aB(f:Ev)(g:Lv):Lv:=λρ=>(f ρ).bind λx=>(g ρ).bind λxs=>some (x::xs)
theorem OA:BG X O [] aW:=PA.mono fD λσ H Q ⟨H0,A0,A,E,ρ,d,st,e,q⟩=>by cases e;exact q [] H (Ext.refl _ _) .nil
theorem EX:wD X O [] aW:=PA.mono fD λσ H Q ⟨H0,A0,A,E,ρ,d,st,e,q⟩=>by cases e;exact q [] H (Ext.refl _ _) .nil
theorem AX(G:∀A H H' d v,Ext A H H'->R A H d v->R A H' d v)(h:tDA R O (aB f g) σ H Q):wB (tD R O f) (tDA R O g) σ H Q:=by
 obtain⟨H0,A0,A,E,ρ,d,st,e,q⟩:=h;obtain⟨x,ex,e⟩:=bind_some e;obtain⟨xs,z,e⟩:=bind_some e;cases e;exact⟨H0,A0,A,E,ρ,x,st,ex,λv H1 B r1=>⟨H0,A0,A,E,ρ,xs,st.mono B,z,λvs H2 F r2=>q (v::vs) H2 (B.trans F) (.cons (G _ _ _ _ _ F r1) r2)⟩⟩
theorem J5(q:PD X O e f)(z:BG X O es g)(hs:zag (e::es) X.env=(false,eval e X.env)::zag es X.env:=by rfl):BG X O (e::es) (aB f g):=
 PA.mono (cK q z hs) λσ H Q h=>AX (λ_ _ _ _ _ x r=>r.ext x) h
theorem zY(q:PB X O e f)(z:wD X O es g)(hs:zag (e::es) X.env=(false,eval e X.env)::zag es X.env:=by rfl):wD X O (e::es) (aB f g):=
 PA.mono (cK q z hs) λσ H Q h=>AX (λ_ _ _ _ _ x r=>r.ext x) h
inductive tF(O:List Nat)(f:Ev)(σ:L2.St)(H:Hp)(Q:VK):Prop
 | mk (H0:Hp) (A0 A:Av) (E:List Fact) (ρ:cY) (d:D) (st:ST H0 A0 A E O σ H ρ) (e:f ρ=some d) (q:∀a H',Ext A H H'->H a=none->¬ A a->Own (λb=>A b\/b=a) H' d a->Q (.ref a) H'):tF O f σ H Q
def PF(X:Cx)(O:List Nat)(e:Expr)(f:Ev):Prop:=PE X e (tF O f)
theorem PF.d(h:PF X O e f):PD X O e f:=PE.mono h λσ H Q ⟨H0,A0,A,E,ρ,d,st,e,q⟩=>
 ⟨H0,A0,A,E,ρ,d,st,e,λa H' x n z o=>q _ H' x ((o.av (A':=A) λb B=>.inl (.inl B)).rep z)⟩
theorem RepL.fresh(n:H p=none)(r:RepL A H ds vs):RepL (λb=>A b\/b=p) (upd H p o) ds vs:=by
 have r1:RepL (λb=>A b\/b=p) H ds vs:=r.av λb q=>by
  rcases q with q|q
  ·exact .inl q
  ·exact .inr (q ▸ n)
 exact r1.ext (Ext.new n)
theorem Ext.free(x:Ext A H H')(n:H' p=none):H p=none:=by
 cases e:H p with
 | none=>rfl
 | some u=>rcases x.rd p u (.inl e)with h|⟨o,h⟩ <;> (rw[n]at h;cases h)
def eY(g:Lv):Ev:=λρ=>(g ρ).map .tup
def NJ(g:Lv):Ev:=λρ=>(g ρ).map .lst
theorem RL.length:∀ {ds:List D} {vs:List V},RL R A H ds vs->vs.length=ds.length
 | _,_,.nil=>rfl
 | _,_,.cons _ t=>by rw[zaz,zaz,RL.length t]
noncomputable def aU(n:Nat):Bool:=decide (n<=1000000)
theorem f6(h:aU n=true):n<=zai:=zaK (of_decide_eq_true h) (by decide)
theorem iX(h:aU n=true):n<zai:=zcU (of_decide_eq_true h) (by decide)
theorem map_some{q β:Type}{o:Option q}{f:q->β}{b:β}(h:o.map f=some b):∃a,o=some a/\f a=b:=by
 cases o with
 | none=>cases h
 | some a=>exact⟨a,rfl,zaF h⟩
def Len(g:Lv)(n:Nat):Prop:=∀ρ ds,g ρ=some ds->ds.length=n
theorem OU:Len aW 0:=λρ ds h=>by cases h;rfl
theorem LD(h:Len g n):Len (aB f g) (n+1):=λρ ds e=>by
 obtain⟨x,ex,e⟩:=bind_some e;obtain⟨xs,q,e⟩:=bind_some e;cases e;rw[zaz,h ρ xs q]
theorem oH{es:List Expr}{z}{pos:Pos}{g:Lv}(h:BG X O es g)(G:∀ρ ds,g ρ=some ds->ds.length<=100):PD X O (.Tuple es z pos) (eY g):=PE.mono (U4 h) <| by
 rintro σ H Q ⟨H0,A0,A,E,ρ,d,st,e,q⟩;obtain⟨ds,F,rfl⟩:=map_some e;refine⟨H0,A0,A,E,ρ,ds,st,F,λvs H1 z r1=>⟨by rw[r1.length];exact zaK (G ρ ds F) (by decide),λp B=>?_⟩⟩;exact q _ _ (z.trans (Ext.new B)) (.tup aI (r1.toL.ext (Ext.new B)))
theorem U3{es:List Expr}{pos:Pos}{g:Lv}(h:BG X O es g)(J:∀ρ ds,g ρ=some ds->ds.length<=100):PF X O (.List es pos) (NJ g):=PE.mono (VS h) <| by
 rintro σ H Q ⟨H0,A0,A,E,ρ,d,st,e,q⟩;obtain⟨ds,G,rfl⟩:=map_some e;refine⟨H0,A0,A,E,ρ,ds,st,G,λvs H1 F r1=>⟨by rw[r1.length];exact zaK (J ρ ds G) (by decide),λp B=>?_⟩⟩;exact q p _ (F.trans (Ext.new B)) (F.free B) (λz=>(st.mono F).live p z B) (.lst aI (r1.toL.fresh B))
inductive rC(g:List D->Option D)(xs:List V)(H:Hp)(Q:VK):Prop
 | mk (A:Av) (ds:List D) (d:D) (lv:Live A H) (r:RL RepB A H ds xs) (e:g ds=some d) (q:∀v H',Ext A H H'->Rep A H' d v->Q v H'):rC g xs H Q
inductive rCF(g:List D->Option D)(xs:List V)(H:Hp)(Q:VK):Prop
 | mk (A:Av) (ds:List D) (d:D) (lv:Live A H) (r:RL RepB A H ds xs) (e:g ds=some d) (q:∀a H',Ext A H H'->H a=none->¬ A a->Own (λb=>A b\/b=a) H' d a->Q (.ref a) H'):rCF g xs H Q
def kJ(X:Cx)(f:Value)(g:List D->Option D):Prop:=CallR X f (rC g)
def FX(X:Cx)(f:Value)(g:List D->Option D):Prop:=CallR X f (rCF g)
theorem CallR.mono(h:CallR X f r)(x:∀a H Q,r' a H Q->r a H Q):CallR X f r':=λpins s σ H a v Q I q w=>h pins s σ H a v Q I q (x a H Q w)
def aQ(g:List D->Option D)(f:Lv):Ev:=λρ=>(f ρ).bind g
theorem vU(h:tD Rep O (aQ g f) σ H Q):qw (rC g) (tDA RepB O f) σ H Q:=by
 obtain⟨H0,A0,A,E,ρ,d,st,e,q⟩:=h;obtain⟨ds,F,e⟩:=bind_some e;exact⟨H0,A0,A,E,ρ,ds,st,F,λvs H1 z r1=>⟨A,ds,d,(st.mono z).live,r1,e,λv H2 B r2=>q v H2 (z.trans B) r2⟩⟩
theorem GV(h:tF O (aQ g f) σ H Q):qw (rCF g) (tDA RepB O f) σ H Q:=by
 obtain⟨H0,A0,A,E,ρ,d,st,e,q⟩:=h;obtain⟨ds,G,e⟩:=bind_some e;exact⟨H0,A0,A,E,ρ,ds,st,G,λvs H1 z r1=>⟨A,ds,d,(st.mono z).live,r1,e,λa H2 B n F o=>q a H2 (z.trans B) (z.free n) F o⟩⟩
section
variable {x:Str}{id T:String}{g:List D->Option D}{e:Expr}{es:List Expr}{f:Lv}{p pos:Pos}
theorem KW(B:kJ X (.builtin id) g)(F:Gl X x)(J:X.mg x=none)(U:zaH x=some (.builtin id))(N:wD X O (e::es) f)(G:x ≠ "__name__" := by decide)(q:(x == ("__debug__" : Str))=false:=by decide)
  (M:zag (e::es) X.env=(false,eval e X.env)::zag es X.env:=by rfl) (z:(zaG pos (zag es X.env)).any (·.1)=false:=by rfl) :
  PD X O (.Call (.Name x p) (e::es) [] pos) (aQ g f):=PE.mono (y8 B F J U N G q M z) λσ H Q h=>vU h
theorem G4(B:kJ X (.type T) g)(F:Gl X x)(J:X.mg x=none)(U:zaH x=some (.type T))(N:wD X O (e::es) f)(G:x ≠ "__name__" := by decide)(q:(x == ("__debug__" : Str))=false:=by decide)
  (M:zag (e::es) X.env=(false,eval e X.env)::zag es X.env:=by rfl) (z:(zaG pos (zag es X.env)).any (·.1)=false:=by rfl) :
  PD X O (.Call (.Name x p) (e::es) [] pos) (aQ g f):=PE.mono (kN B F J U N G q M z) λσ H Q h=>vU h
theorem GS(B:FX X (.type T) g)(F:Gl X x)(J:X.mg x=none)(U:zaH x=some (.type T))(N:wD X O (e::es) f)(G:x ≠ "__name__" := by decide)(q:(x == ("__debug__" : Str))=false:=by decide)
  (M:zag (e::es) X.env=(false,eval e X.env)::zag es X.env:=by rfl) (z:(zaG pos (zag es X.env)).any (·.1)=false:=by rfl) :
  PF X O (.Call (.Name x p) (e::es) [] pos) (aQ g f):=PE.mono (kN B F J U N G q M z) λσ H Q h=>GV h
end
def spD(n:Nat)(F:List D->Option D):Sp:=λvs H Q _=>∃A ds d,Live A H/\RepL A H ds vs/\vs.length=n/\F ds=some d/\∀v H',Ext A H H'->Rep A H' d v->Q v H'
def Fn(P:zah)(w:World)(K:zae)(mg:Str->Option Value)(base:Heap)(x:Str)(k:Nat)(ps:List Str)(F:List D->Option D):Prop:=My.Ok P w K mg base x k ps (spD ps.length F)
theorem Fn.mono{P:zah}{w:World}{K:zae}{mg:Str->Option Value}{base:Heap}{x:Str}{j k:Nat}{ps:List Str}{F:List D->Option D}(h:Fn P w K mg base x j ps F)(l:j<=k):Fn P w K mg base x k ps F:=My.Ok.mono h l
theorem OK(O':Fn X.prog X.w X.K X.mg X.base x k ps F)(hr:Room k X.A)(M:Gl X x)(Y:BG X O (e::es) f)(U:∀ρ ds,f ρ=some ds->ds.length=ps.length)(B:(x == ("__debug__" : Str))=false:=by decide)
  (W:zag (e::es) X.env=(false,eval e X.env)::zag es X.env:=by rfl) (z:(zaG pos (zag es X.env)).any (·.1)=false:=by rfl) :
  PD X O (.Call (.Name x p) (e::es) [] pos) (aQ F f):=PE.mono (My.K9 O' hr M Y B W z) λσ H Q ⟨H0,A0,A,E,ρ,d,st,e,q⟩=>by
 obtain⟨ds,J,e⟩:=bind_some e;exact⟨H0,A0,A,E,ρ,ds,st,J,λvs H1 G r1=>⟨A,ds,d,(st.mono G).live,r1.toL,by rw[r1.length];exact U ρ ds J,e,λv H2 N r2=>q v H2 (G.trans N) r2⟩⟩
theorem IxR.mono(h:IxR X r)(x:∀a b H Q,r' a b H Q->r a b H Q):IxR X r':=λq B pins s σ H a b v u Q I F z w=>h q B pins s σ H a b v u Q I F z (x a b H Q w)
def qx:D->D->Option D
 | .lst l,.int i=>gN l i
 | .tup l,.int i=>gN l i
 | .str z,.int i=>if aU z.length then(gN z.cps.toList i).map λc=>.str ⟨#[c]⟩else none
 | _,_=>none
theorem RepL.at(r:RepL A H ds vs)(h:gN ds i=some d):∃v,gN vs i=some v/\Rep A H d v:=by
 obtain⟨j,B,F⟩:=bind_some h;obtain⟨v,q,z⟩:=r.get' F;refine⟨v,?_,z⟩;unfold gN;rw[r.length,B];exact q
theorem qaG:IxR X (rD qx):=IxR.mono VR <| by
 rintro x y H Q ⟨A,dx,N,d,U,M,F,e,q⟩;cases dx with
 | lst l=>
  cases N with
  | int i=>
   have:=F.int_inv;subst this;obtain⟨a,xs,rfl,h,r⟩:=M.lst_inv;obtain⟨v,B,J⟩:=r.at e;exact .inl ⟨a,xs,i,v,rfl,rfl,.inl h,B,q v H (Ext.refl _ _) J⟩
  | _=>cases e
 | tup l=>
  cases N with
  | int i=>
   have:=F.int_inv;subst this;obtain⟨a,xs,rfl,h,r⟩:=M.tup_inv;obtain⟨v,B,J⟩:=r.at e;exact .inr (.inl ⟨a,xs,i,v,rfl,rfl,.inl (.inl h),B,q v H (Ext.refl _ _) J⟩)
  | _=>cases e
 | str z=>
  cases N with
  | int i=>
   have:=F.int_inv;subst this;have:=M.str_inv;subst this;simp only[qx]at e;by_cases G:aU z.length=true
   ·rw[if_pos G]at e
    obtain⟨c,B,rfl⟩:=map_some e;exact .inr (.inr ⟨z,i,c,rfl,rfl,f6 G,B,q _ H (Ext.refl _ _) (.str _)⟩)
   ·rw[if_neg G]at e;cases e
  | _=>cases e
 | _=>cases e
abbrev Ov:=cY->Option (Option Int)
inductive tDO(O:List Nat)(g:Ov)(σ:L2.St)(H:Hp)(Q:Option Int->Hp->Prop):Prop
 | mk (H0:Hp) (A0 A:Av) (E:List Fact) (ρ:cY) (o:Option Int) (st:ST H0 A0 A E O σ H ρ) (e:g ρ=some o) (q:∀H',Ext A H H'->Q o H'):tDO O g σ H Q
def S9(X:Cx)(O:List Nat)(e:Option Expr)(g:Ov):Prop:=PO X e (tDO O g)
theorem PO.mono(h:PO X e t)(x:∀σ H Q,t' σ H Q->t σ H Q):PO X e t':=λpins s σ H Q I w=>h pins s σ H Q I (x σ H Q w)
def GB:Ov:=λ_=>some none
noncomputable def W4:D->Option Int
 | .int i=>some i
 | _=>none
theorem zQ(h:W4 d=some i):d=.int i:=by cases d <;> cases h;rfl
def v9(f:Ev):Ov:=λρ=>(f ρ).bind λd=>(W4 d).map some
theorem JX:S9 X O none GB:=PO.mono N8 λσ H Q ⟨H0,A0,A,E,ρ,d,st,e,q⟩=>by cases e;exact q H (Ext.refl _ _)
theorem KQ{e:Expr}{f:Ev}(h:PD X O e f):S9 X O (some e) (v9 f):=PO.mono (OS h) <| by
 rintro σ H Q ⟨H0,A0,A,E,ρ,d,st,e,q⟩;obtain⟨x,ex,e⟩:=bind_some e;obtain⟨i,B,rfl⟩:=map_some e;rw[zQ B]at ex;exact⟨H0,A0,A,E,ρ,_,st,ex,λv H1 z r1=>⟨i,RepB.int_inv (.of r1),q H1 z⟩⟩
def cutD(xs:List D)(lo hi:Option Int):List D:=(xs.drop (HT.sIx xs.length 0 lo)).take (HT.sIx xs.length xs.length hi-HT.sIx xs.length 0 lo)
theorem RepL.cut{ds:List D}{vs:List V}{lo hi:Option Int}(r:RepL A H ds vs):RepL A H (cutD ds lo hi) (uU vs lo hi):=by
 unfold cutD uU;rw[r.length];exact(r.drop _).take _
def W9(g:D->Option Int->Option Int->Option D)(f:Ev)(a b:Ov):Ev:=λρ=>(f ρ).bind λx=>(a ρ).bind λlo=>(b ρ).bind λhi=>g x lo hi
inductive rS(g:D->Option Int->Option Int->Option D)(x:V)(lo hi:Option Int)(H:Hp)(Q:VK):Prop
 | mk (A:Av) (dx d:D) (lv:Live A H) (r:RepB A H dx x) (e:g dx lo hi=some d) (q:∀v H',Ext A H H'->Rep A H' d v->Q v H'):rS g x lo hi H Q
inductive rSF(g:D->Option Int->Option Int->Option D)(x:V)(lo hi:Option Int)(H:Hp)(Q:VK):Prop
 | mk (A:Av) (dx d:D) (lv:Live A H) (r:RepB A H dx x) (e:g dx lo hi=some d) (q:∀a H',Ext A H H'->H a=none->¬ A a->Own (λb=>A b\/b=a) H' d a->Q (.ref a) H'):rSF g x lo hi H Q
theorem SlR.mono(h:SlR X r)(x:∀a b c H Q,r' a b c H Q->r a b c H Q):SlR X r':=λpins s σ H a v F q lo hi B Q I J hs z G w=>h pins s σ H a v F q lo hi B Q I J hs z G (x a lo hi H Q w)
def qak:D->Option Int->Option Int->Option D
 | .tup l,lo,hi=>some (.tup (cutD l lo hi))
 | _,_,_=>none
def ZK:D->Option Int->Option Int->Option D
 | .lst l,lo,hi=>some (.lst (cutD l lo hi))
 | _,_,_=>none
theorem JO{lo hi:Option Expr}{g:D->Option Int->Option Int->Option D}{a b:Ov}(hr:SlR X (rS g))(N:PB X O e f)(J:S9 X O lo a)(Y:S9 X O hi b):PD X O (.Subscript e (.Slice lo hi none p2) pos) (W9 g f a b):=
 PE.mono (LV hr N J Y) <| by
  rintro σ H Q ⟨H0,A0,A,E,ρ,d,st,e,q⟩;obtain⟨x,ex,e⟩:=bind_some e;obtain⟨l,el,e⟩:=bind_some e;obtain⟨h,W,e⟩:=bind_some e;exact⟨H0,A0,A,E,ρ,x,st,ex,λv H1 z r1=>⟨H0,A0,A,E,ρ,l,st.mono z,el,λH2 B=>⟨H0,A0,A,E,ρ,h,st.mono (z.trans B),W,λH3 F=>⟨A,x,d,(st.mono ((z.trans B).trans F)).live,r1.ext (B.trans F),e,λv G U M=>q v G (((z.trans B).trans F).trans U) M⟩⟩⟩⟩
theorem qan:SlR X (rS qak):=SlR.mono My.OH <| by
 rintro x lo hi H Q ⟨A,dx,d,G,B,e,q⟩;cases dx with
 | tup l=>
  obtain⟨a,xs,rfl,h,r⟩:=B.tup_inv;cases e;by_cases w:HT.sIx xs.length 0 lo=0/\HT.sIx xs.length xs.length hi=xs.length
  ·refine .inr ⟨a,xs,rfl,.inl (.inl h),w,q _ H (Ext.refl _ _) (.tup h ?_)⟩
   have F:uU xs lo hi=xs:=by unfold uU;rw[w.1,w.2];simp
   rw[<- F];exact r.cut
  ·exact .inl ⟨a,xs,rfl,.inl (.inl h),w,λp z=>q _ _ (Ext.new z) (.tup aI (r.cut.ext (Ext.new z)))⟩
 | _=>cases e
theorem qab:SlR X (rSF ZK):=SlR.mono OM <| by
 rintro x lo hi H Q ⟨A,dx,d,F,G,e,q⟩;cases dx with
 | lst l=>
  obtain⟨a,xs,rfl,h,r⟩:=G.lst_inv;cases e;exact⟨a,xs,rfl,.inl h,λp B=>q p _ (Ext.new B) B (λz=>F p z B) (.lst aI (r.cut.fresh B))⟩
 | _=>cases e
end
inductive Out where
 | nx (ρ:cY)|rt (d:D)|bk (ρ:cY)|ct (ρ:cY)
abbrev Sv:=cY->Option Out
structure Lp where
 ob:List Nat
 oc:List Nat
def qaN(L:Lp)(H0:Hp)(A0:Av)(E:List Fact)(O':List Nat)(T:Ends):Out->Prop
 | .nx ρ=>∀A σ H,ST H0 A0 A E O' σ H ρ->T.nx σ H
 | .rt d=>∀v H,Ext A0 H0 H->Rep A0 H d v->T.rt v H
 | .bk ρ=>∀A σ H,ST H0 A0 A E L.ob σ H ρ->T.bk σ H
 | .ct ρ=>∀A σ H,ST H0 A0 A E L.oc σ H ρ->T.ct σ H
inductive tS(L:Lp)(O:List Nat)(f:Sv)(O':List Nat)(T:Ends)(σ:L2.St)(H:Hp):Prop
 | mk (H0:Hp) (A0 A:Av) (E:List Fact) (ρ:cY) (out:Out) (st:ST H0 A0 A E O σ H ρ) (e:f ρ=some out) (p:qaN L H0 A0 E O' T out):tS L O f O' T σ H
def jA(X:Cx)(L:Lp)(O:List Nat)(st:Stmt)(f:Sv)(O':List Nat):Prop:=PS X st (tS L O f O')
def d9(X:Cx)(L:Lp)(O:List Nat)(st:List Stmt)(f:Sv)(O':List Nat):Prop:=PSs X st (tS L O f O')
section
variable {X:Cx}{L:Lp}{O O' O2:List Nat}
theorem PS.mono{st:Stmt}{t t':TS}(h:PS X st t)(x:∀T σ H,t' T σ H->t T σ H):PS X st t':=λpins s σ H T I w=>h pins s σ H T I (x T σ H w)
theorem PSs.mono{st:List Stmt}{t t':TS}(h:PSs X st t)(x:∀T σ H,t' T σ H->t T σ H):PSs X st t':=λpins s σ H T I w=>h pins s σ H T I (x T σ H w)
noncomputable def Sub(a b:List Nat):Bool:=a.all λi=>b.contains i
theorem Sub.mem(h:Sub a b=true)(i:Nat)(hi:i∈a):i∈b:=by
 have:=(List.all_eq_true.mp h) i hi;simpa using this
def SD:Sv:=λρ=>some (.nx ρ)
def dC(f g:Sv):Sv:=λρ=>(f ρ).bind λo=>match o with
 | .nx ρ'=>g ρ'
 | o=>some o
theorem FB(h:Sub O' O=true:=by rfl):d9 X L O [] SD O':=PSs.mono EN <| by
 rintro T σ H ⟨H0,A0,A,E,ρ,out,st,e,p⟩;cases e;obtain⟨A',q⟩:=st.shut (Sub.mem h);exact p A' σ H q
theorem O8(h:tS L O (dC f g) O' T σ H):ZR (tS L O f O2) (tS L O2 g O') T σ H:=by
 obtain⟨H0,A0,A,E,ρ,out,st,e,p⟩:=h;obtain⟨o,z,e⟩:=bind_some e;refine⟨H0,A0,A,E,ρ,o,st,z,?_⟩;cases o with
 | nx ρ'=>exact λA' B H' q=>⟨H0,A0,A',E,ρ',out,q,e,p⟩
 | rt d=>cases e;exact p
 | bk d=>cases e;exact p
 | ct d=>cases e;exact p
theorem KC{st:Stmt}{rest:List Stmt}{f g:Sv}(h1:jA X L O st f O2)(h2:d9 X L O2 rest g O'):d9 X L O (st::rest) (dC f g) O':=PSs.mono (dJ h1 h2) λT σ H h=>O8 h
theorem aO{st:Stmt}{f:Sv}(h1:jA X L O st f O'):d9 X L O [st] f O':=iY h1
def IX(f:Ev):Sv:=λρ=>(f ρ).map .rt
theorem RI{e:Expr}{pos:Pos}{f:Ev}(z:PD X O e f):jA X L O (.Return (some e) pos) (IX f) O':=PS.mono (L3 z) <| by
 rintro T σ H ⟨H0,A0,A,E,ρ,out,st,e,p⟩;obtain⟨d,B,rfl⟩:=map_some e;exact⟨H0,A0,A,E,ρ,d,st,B,λv H' x r=>p v H' (st.mono x).ex (r.av λa q=>.inl (st.sub a q))⟩
def BJ(c:Bv)(f g:Sv):Sv:=λρ=>(c ρ).bind λb=>if b=true then f ρ else g ρ
theorem DC{c:Expr}{a b:List Stmt}{pos:Pos}{g:Bv}{f k:Sv}(z:uZ X O c g)(B:d9 X L O a f O')(F:d9 X L O b k O'):jA X L O (.If c a b pos) (BJ g f k) O':=PS.mono (S5 z B F) <| by
 rintro T σ H ⟨H0,A0,A,E,ρ,out,st,e,p⟩;obtain⟨b,G,e⟩:=bind_some e;refine⟨H0,A0,A,E,ρ,b,st,G,λH1 q=>?_⟩;cases b with
 | true=>rw[if_pos rfl]at e ⊢;exact⟨H0,A0,A,E,ρ,out,st.mono q,e,p⟩
 | false=>rw[if_neg zaA]at e ⊢;exact⟨H0,A0,A,E,ρ,out,st.mono q,e,p⟩
def dU(i:Nat)(f:Ev):Sv:=λρ=>(f ρ).map λd=>.nx (ρ.set i (some d))
theorem Sub.er{a b:List Nat}{i j:Nat}(h:Sub a (b.filter (· != i))=true)(q:j∈a):j∈b/\j≠i:=by
 have:=Sub.mem h j q;rw[List.mem_filter]at this;exact⟨this.1,by simpa using this.2⟩
theorem D7{i:Nat}{x:Str}{e:Expr}{pos pos':Pos}{f:Ev}(J:X.N.Nodup)(hi:X.N[i]?=some x)(hx:Loc X.env.scope x)(M:PD X O e f)(h:Sub O' (O.filter (· != i))=true:=by rfl)
  (hs:zaC e (some (.Name x pos')) pos.line X.env=pure false:=by rfl) (Y:X.fn x=true\/X.env.scope.names.lookup x=some .local:=by first|exact .inl rfl|exact .inr rfl):jA X L O (.Assign [.Name x pos'] e pos) (dU i f) O':=
 PS.mono (MZ J hi hx M hs Y) <| by
  rintro T σ H ⟨H0,A0,A,E,ρ,out,st,e,p⟩;obtain⟨d,U,rfl⟩:=map_some e;refine⟨H0,A0,A,E,ρ,d,st,U,λv H' x r=>?_⟩
  -- i leaves what may be written ahead of the store: the value is borne by fewer too
  have F:=(st.mono x).more r;obtain⟨A',B⟩:=F.shut (O':=O') λj W=>(Sub.er h W).1
  exact p A' _ H' ((B.put (B.ext _ (zat ..)) λz=>(Sub.er h z).2 rfl).less λq G=>zap _ G)
theorem Own.there:Own A H d a->H a≠none
 | .lst h _=>by rw[h];exact λz=>nomatch z
 | .dK h _ _=>by rw[h];exact λz=>nomatch z
 | .dT h _ _=>by rw[h];exact λz=>nomatch z
theorem ST.own_put(s:ST H0 A0 A E O σ H ρ)(x:Ext A H H')(n:H a=none)(na:¬ A a)(o:Own (λb=>A b\/b=a) H' d a)(ni:i∉O) :
  ST H0 A0 (λb=>A b\/b=a) E (i::O) (σ.set i (some (.ref a))) H' (ρ.set i (some d)):=by
 have s':=s.mono x;have n0:H0 a=none:=s.ex.free n
 -- whatever was borne ahead avoids a
 have G:Ext (λb=>A b\/b=a) H H':=⟨x.rd,x.kp,λb u q e=>q.elim (λq=>x.ow b u q e) λq=>(by subst q;rw[n]at e;exact nomatch e),x.fz⟩;have Y:∀ {p:Fact},p.Holds A H->p.Holds (λb=>A b\/b=a) H':=λr=>Fact.ext G (Fact.av (A':=λb=>A b\/b=a) (λb q=>by
   rcases q with q|q
   ·exact .inl q
   ·exact .inr (q ▸ n)) r)
 have up:∀ {d:D} {v:V},Rep A H d v->Rep (λb=>A b\/b=a) H' d v:=λr=>by
  have r1:Rep (λb=>A b\/b=a) H _ _:=r.av λb q=>by
   rcases q with q|q
   ·exact .inl q
   ·exact .inr (q ▸ n)
  exact r1.ext G
 have W:∀ {d:D} {b:Addr},A b->Own A H d b->Own (λc=>A c\/c=a) H' d b:=λq r=>by
  have r1:Own (λc=>A c\/c=a) H _ _:=r.av λb q=>by
   rcases q with q|q
   ·exact .inl q
   ·exact .inr (q ▸ n)
  exact r1.ext G (.inl q)
 have ha:H' a≠none:=o.there;refine⟨s'.ex,λb q=>.inl (s.sub b q),s.l0,λb q=>?_,by simp[s.len],λj d' h' N=>?_,λj d' h' N=>?_,λj k M d2 b hj hk h1 h2 F U=>?_,λp hp=>Y (s.ext p hp)⟩
 ·rcases q with q|q
  ·exact s'.live b q
  ·subst q;exact ha
 ·rcases eR h' with⟨e,B,l⟩|⟨e,B⟩
  ·exact absurd (List.mem_cons.mpr (.inl e)) N
  ·obtain⟨w,h1,h2⟩:=s.val j d' B λz=>N (zap _ z)
   exact⟨w,by rw[lQ e];exact h1,up h2⟩
 ·rcases eR h' with⟨e,B,l⟩|⟨e,B⟩
  ·subst e;cases B
   exact⟨a,sig_set (by rw[s.len];exact l),.inr rfl,n0,o⟩
  ·rcases List.mem_cons.mp N with z|z
   ·exact absurd z e
   ·obtain⟨w,h1,h2,F,U⟩:=s.own j d' B z
    exact⟨w,by rw[lQ e];exact h1,.inl h2,F,W h2 U⟩
 ·have J:∀ {j:Nat} {M:D},j∈i::O->(ρ.set i (some d))[j]?=some (some M)->(σ.set i (some (.ref a)))[j]?=some (some (.ref b))->(j=i/\b=a)\/(j≠i/\j∈O/\ρ[j]?=some (some M)/\σ[j]?=some (some (.ref b))/\b≠a):=by
   intro j M hj h1 F;rcases eR h1 with⟨e,B,l⟩|⟨e,B⟩
   ·subst e
    rw[sig_set (by rw[s.len];exact l)]at F;cases F;exact .inl ⟨rfl,rfl⟩
   ·rcases List.mem_cons.mp hj with z|z
    ·exact absurd z e
    ·rw[lQ e]at F
     obtain⟨w,q1,q2,_⟩:=s.own j M B z;rw[F]at q1;cases q1;exact .inr ⟨e,z,B,F,λz=>na (z ▸ q2)⟩
  rcases J hj h1 F with⟨e1,B⟩|⟨e1,B,e3,e4,e5⟩
  ·rcases J hk h2 U with⟨f1,f2⟩|⟨f1,f2,f3,f4,f5⟩
   ·rw[e1,f1]
   ·exact absurd B f5
  ·rcases J hk h2 U with⟨f1,f2⟩|⟨f1,f2,f3,f4,f5⟩
   ·exact absurd f2 e5
   ·exact s.inj j k M d2 b B f2 e3 f3 e4 f4
theorem LF{i:Nat}{x:Str}{e:Expr}{pos pos':Pos}{f:Ev}(G:X.N.Nodup)(hi:X.N[i]?=some x)(hx:Loc X.env.scope x)(J:PF X O e f)(h:Sub O' (i::O)=true:=by rfl)(B:O.contains i=false:=by rfl)
  (hs:zaC e (some (.Name x pos')) pos.line X.env=pure false:=by rfl) (W:X.fn x=true\/X.env.scope.names.lookup x=some .local:=by first|exact .inl rfl|exact .inr rfl):jA X L O (.Assign [.Name x pos'] e pos) (dU i f) O':=
 PS.mono (MZ G hi hx J hs W) <| by
  rintro T σ H ⟨H0,A0,A,E,ρ,out,st,e,p⟩;obtain⟨d,M,rfl⟩:=map_some e;refine⟨H0,A0,A,E,ρ,d,st,M,λa H' x n Y o=>?_⟩;have F:i∉O:=λz=>by
   have:O.contains i=true:=by simpa using z
   rw[B]at this;cases this
  obtain⟨U,q⟩:=(st.own_put x n Y o F).shut (Sub.mem h);exact p U _ H' q
theorem ST.write(s:ST H0 A0 A E O σ H ρ)(hi:ρ[i]?=some (some d))(hO:i∈O)(hs:σ[i]?=some (some (.ref a)))(N:A a)(h0:H0 a=none)(W:H a=some u)(ob:XF u)(hn:Own A (upd H a o) d' a) :
  ST H0 A0 A E O σ (upd H a o) (ρ.set i (some d')):=by
 have B:∀b,H0 b≠none->b≠a:=λb Y z=>Y (z ▸ h0)
 refine⟨⟨λb w r=>?_,λb xs k r=>?_,λb w n r=>?_,λb q w r=>?_⟩,s.sub,s.l0,λb Y=>?_,by simp[s.len],λj G h' J=>?_,λj G h' J=>?_,λj k U G b hj hk h1 h2 h3 h4=>?_,λp hp=>Fact.put N W ob (s.ext p hp)⟩
 ·refine eS (B b ?_) (s.ex.rd b w r)
  rcases r with r|⟨_,r⟩ <;> (rw[r];exact λz=>nomatch z)
 ·rw[aF (B b (by rw[r];exact λz=>nomatch z))];exact s.ex.kp b xs k r
 ·rw[aF (B b (by rw[r];exact λz=>nomatch z))];exact s.ex.ow b w n r
 ·rw[aF (B b (by rw[r];exact λz=>nomatch z))];exact s.ex.fz b q w r
 ·by_cases e:b=a
  ·subst e;rw[aI];exact λz=>nomatch z
  ·rw[aF e];exact s.live b Y
 ·rcases eR h' with⟨e,F,l⟩|⟨e,F⟩
  ·subst e;exact absurd hO J
  ·obtain⟨w,h1,h2⟩:=s.val j G F J
   exact⟨w,h1,h2.put N W ob⟩
 ·rcases eR h' with⟨e,F,l⟩|⟨e,F⟩
  ·subst e;cases F;exact⟨a,hs,N,h0,hn⟩
  ·obtain⟨b,h1,h2,h3,h4⟩:=s.own j G F J
   refine⟨b,h1,h2,h3,h4.put N W ob λz=>?_⟩;subst z;exact e (s.inj j i G d b J hO F hi h1 hs)
 ·have M:∀ {j:Nat} {U:D},(ρ.set i (some d'))[j]?=some (some U)->∃d0,ρ[j]?=some (some d0):=by
   intro j U h;rcases eR h with⟨e,_,_⟩|⟨_,e⟩
   ·subst e;exact⟨d,hi⟩
   ·exact⟨U,e⟩
  obtain⟨x,hx⟩:=M h1;obtain⟨y,hy⟩:=M h2;exact s.inj j k x y b hj hk hx hy h3 h4
noncomputable def mem(O:List Nat)(i:Nat):Bool:=O.contains i
theorem hG(h:mem O i=true):i∈O:=by simpa[mem]using h
def IN(i:Nat)(f:Ev):Sv:=λρ=>(aD i ρ).bind λx=>match x with
 | .lst l=>(f ρ).bind λd=>if aU l.length then some (.nx (ρ.set i (some (.lst (l++[d])))))else none
 | _=>none
theorem BR{o e:Expr}{i:Nat}{apos cpos pos:Pos}{f:Ev}(ho:PE X o (cX i))(Y:PD X O e f)(J:mem O i=true)(N:PE X (.Call (.Attribute o "append" apos) [e] [] cpos) (XB X.K "list" EZ (cX i) (wB (tD Rep O f) RP)))
  (hs:zaC (.Call (.Attribute o "append" apos) [e] [] cpos) none pos.line X.env=pure false:=by rfl) (h:Sub O' O=true:=by rfl):jA X L O (.Expr (.Call (.Attribute o "append" apos) [e] [] cpos) pos) (IN i f) O':=
 PS.mono (wX N hs) <| by
  rintro T σ H ⟨H0,A0,A,E,ρ,out,st,e,p⟩;obtain⟨x,ex,e⟩:=bind_some e;cases x with
  | lst l=>
   obtain⟨d,W,e⟩:=bind_some e;by_cases z:aU l.length=true
   ·rw[if_pos z]at e
    cases e;obtain⟨a,F,q,M,U⟩:=st.own i _ (bU ex) (hG J);cases U with
    | lst h4 r4=>
     refine⟨_,F,.inl ⟨rfl,_,SqL.of h4⟩,H0,A0,A,E,ρ,d,st,W,λv H' x r=>⟨a,_,v,rfl,rfl,x.ow _ _ q h4,by rw[r4.length];exact iX z,?_⟩⟩;have G:=x.ow _ _ q h4;obtain⟨A',B⟩:=((st.mono x).write (o:=.lst _) (bU ex) (hG J) F q M G trivial (.lst aI (((r4.ext x).append (.cons r .nil)).put q G trivial))).shut (Sub.mem h);exact p A' σ _ B
   ·rw[if_neg z]at e;cases e
  | _=>cases e
def W5:D->Option Key
 | .int i=>some (.inl i)
 | .str x=>some (.inr x)
 | _=>none
def NO:List D->Option (List Key)
 | []=>some []
 | d::ds=>(W5 d).bind λk=>(NO ds).bind λks=>some (k::ks)
def TB:D->Option (List Key)
 | .tup l=>NO l
 | _=>none
noncomputable def eW{κ:Type}[DecidableEq κ](l:List (κ×D))(k:κ):Option D:=(l.find? λp=>decide (p.1=k)).map (·.2)
noncomputable def putD{κ:Type}[DecidableEq κ](l:List (κ×D))(k:κ)(d:D):List (κ×D):=if l.any (λp=>decide (p.1=k))then l.map (λp=>if p.1=k then(p.1,d)else p)else l++[(k,d)]
end
section
variable {A:Av}{H:Hp}
section
variable {κ:Type}[DecidableEq κ]
abbrev PP(A:Av)(H:Hp):List (κ×D)->List (κ×V)->Prop:=Paired λ(p:κ×D) (q:κ×V)=>p.1=q.1/\Rep A H p.2 q.2
theorem uD:∀ {l:List (κ×D)} {xs:List (κ×V)},xs.map (·.1)=l.map (·.1)->RepL A H (l.map (·.2)) (xs.map (·.2))->PP A H l xs
 | [],[],_,_=>.nil
 | [],_::_,e,_=>by cases e
 | _::_,[],e,_=>by cases e
 | p::l,q::xs,e,r=>by
  rw[zak,zak]at e r;injection e with e1 e2
  cases r with
  | cons h t=>exact .cons ⟨e1.symm,h⟩ (uD e2 t)
theorem v5:∀ {l:List (κ×D)} {xs:List (κ×V)},PP A H l xs->xs.map (·.1)=l.map (·.1)/\RepL A H (l.map (·.2)) (xs.map (·.2))
 | _,_,.nil=>⟨rfl,.nil⟩
 | _,_,.cons h t=>by
  obtain⟨e,r⟩:=v5 t;exact⟨by rw[zak,zak,h.1,e],.cons h.2 r⟩
theorem MO(k:κ)(h:PP A H l xs):(eW l k=none/\nT xs k=none)\/∃d v,eW l k=some d/\nT xs k=some v/\Rep A H d v:=by
 induction h with
 | nil=>exact .inl ⟨rfl,rfl⟩
 | @cons p q l xs h t ih=>
  by_cases e:p.1=k
  ·refine .inr ⟨p.2,q.2,?_,nE (h.1 ▸ e),h.2⟩
   simp[eW,zbw,e]
  ·have B:¬ q.1=k:=λz=>e (h.1.trans z)
   have a:eW (p::l) k=eW l k:=by simp[eW,zbw,e]
   rw[a,mW B];exact ih
theorem T4(k:κ)(h:PP A H l xs):(l.any λp=>decide (p.1=k))=xs.any λp=>decide (p.1=k):=by
 induction h with
 | nil=>rfl
 | cons h t ih=>rw[zb9,zb9,ih,h.1]
theorem UU(k:κ)(r:Rep A H d v)(h:PP A H l xs):PP A H (l.map λp=>if p.1=k then(p.1,d)else p) (xs.map λp=>if p.1=k then(p.1,v)else p):=by
 induction h with
 | nil=>exact .nil
 | @cons p q l xs h t ih=>
  rw[zak,zak];refine .cons ?_ ih;by_cases e:p.1=k
  ·rw[if_pos e,if_pos (h.1 ▸ e)];exact⟨h.1,r⟩
  ·rw[if_neg e,if_neg (λz=>e (h.1.trans z))];exact h
theorem UX(h:PP A H l xs)(h':PP A H m ys):PP A H (l++m) (xs++ys):=by
 induction h with
 | nil=>exact h'
 | cons h t ih=>exact .cons h ih
theorem tU(k:κ)(r:Rep A H d v)(h:PP A H l xs):PP A H (putD l k d) (putK xs k v):=by
 unfold putD putK;rw[T4 k h];by_cases e:(xs.any λp=>decide (p.1=k))=true
 ·rw[if_pos e,if_pos e];exact UU k r h
 ·rw[if_neg e,if_neg e];exact UX h (.cons ⟨rfl,r⟩ .nil)
end
theorem qQ(h:W5 d=some k)(r:RepB A H d v):v=kV k:=by
 cases d <;> cases h
 ·exact r.int_inv
 ·exact r.str_inv
theorem AH:∀ {ds:List D} {ks:List Key} {vs:List V},NO ds=some ks->RepL A H ds vs->vs=ks.map kV
 | _,_,_,h,.nil=>by cases h;rfl
 | _,_,_,h,.cons r t=>by
  obtain⟨k,q,h⟩:=bind_some h;obtain⟨ks,z,h⟩:=bind_some h;cases h;rw[zak,qQ q (.of r),AH z t]
theorem qL(h:TB d=some k)(r:RepB A H d v):∃b,v=.ref b/\H b=some (.tup (k.map kV)):=by
 cases d <;> try cases h
 rename_i l;obtain⟨a,xs,rfl,h1,h2⟩:=r.tup_inv;exact⟨a,rfl,by rw[h1,AH h h2]⟩
def nQ:D->D->Option (Option D)
 | .dK l,k=>(W5 k).map λk=>eW l k
 | .dT l,k=>(TB k).map λk=>eW l k
 | _,_=>none
theorem tN{d k:D}{x y:V}{o:Option D}(h:nQ d k=some o)(J:RepB A H d x)(G:RepB A H k y):∃a B,x=.ref a/\IsD H a/\DGet H a y B/\((o=none/\B=none)\/∃z v,o=some z/\B=some v/\Rep A H z v):=by
 cases d with
 | dK l=>
  obtain⟨q,F,rfl⟩:=map_some h;obtain⟨a,xs,rfl,h1,e,r⟩:=J.dK_inv;have:=qQ F G;subst this;refine⟨a,_,rfl,.inl ⟨xs,h1⟩,.inl ⟨xs,q,h1,rfl,rfl⟩,MO q (uD e r)⟩
 | dT l=>
  obtain⟨q,F,rfl⟩:=map_some h;obtain⟨a,xs,rfl,h1,e,r⟩:=J.dT_inv;obtain⟨b,rfl,M⟩:=qL F G;exact⟨a,_,rfl,.inr ⟨xs,h1⟩,.inr ⟨xs,q,b,h1,rfl,M,rfl⟩,MO q (uD e r)⟩
 | _=>cases h
end
section
variable {X:Cx}{O O':List Nat}{L:Lp}
theorem PE.or(h:PE X e t)(k:PE X e u):PE X e (λσ H Q=>t σ H Q\/u σ H Q):=λpins s σ H Q I w=>w.elim (h pins s σ H Q I) (k pins s σ H Q I)
def aJ(d k:D):Option D:=match d with
 | .dK _=>(nQ d k).join
 | .dT _=>(nQ d k).join
 | _=>qx d k
theorem sE{q:Type}{o:Option (Option q)}{d:q}(h:o.join=some d):o=some (some d):=by
 cases o with
 | none=>cases h
 | some o=>cases o with
  | none=>cases h
  | some x=>cases h;rfl
theorem zJ{J fb:Ev}{σ:L2.St}{H:Hp}{Q:VK}(h:tD Rep O (a7 (λd k=>(nQ d k).join) J fb) σ H Q):SW (tD RepB O J) (tD RepB O fb) σ H Q:=by
 obtain⟨H0,A0,A,E,ρ,d,st,e,q⟩:=h;obtain⟨x,ex,e⟩:=bind_some e;obtain⟨y,U,e⟩:=bind_some e;refine⟨H0,A0,A,E,ρ,x,st,ex,λv H1 F r1=>⟨H0,A0,A,E,ρ,y,st.mono F,U,λw H2 G r2=>?_⟩⟩;obtain⟨a,Y,W,_,g,B⟩:=tN (sE e) (r1.ext G) r2;rcases B with⟨B,_⟩|⟨z,M,B,N,r3⟩
 ·cases B
 ·cases B;subst N
  exact⟨a,M,W,g,q M H2 (F.trans G) r3⟩
theorem QL(M:X.A.units+1<cLine)(F:PB X O a fa)(G:PB X O b fb)(hs:xF b):PD X O (.Subscript a b pos) (a7 aJ fa fb):=
 PE.mono (PE.or (Y7 qaG F G hs) (FS M F G hs)) <| by
  rintro σ H Q ⟨H0,A0,A,E,ρ,d,st,e,q⟩;obtain⟨x,ex,B⟩:=bind_some e;obtain⟨y,J,B⟩:=bind_some B;have z:∀g:D->D->Option D,g x y=some d->tD Rep O (a7 g fa fb) σ H Q:=λg h=>⟨H0,A0,A,E,ρ,d,st,by unfold a7;rw[ex,J];exact h,q⟩
  cases x with
  | dK l=>exact .inr (zJ (z _ B))
  | dT l=>exact .inr (zJ (z _ B))
  | _=>exact .inl (xS (z qx B))
def mB(d k e:D):Option D:=match d with
 | .dK l=>(W5 k).bind λk=>if aU l.length then some (.dK (putD l k e))else none
 | .dT l=>(TB k).bind λk=>if aU l.length then some (.dT (putD l k e))else none
 | .lst l=>(W4 k).bind λk=>(NY l.length k).map λj=>.lst (l.set j e)
 | _=>none
def DR(i:Nat)(fk fe:Ev):Sv:=λρ=>(fe ρ).bind λe=>(aD i ρ).bind λx=>(fk ρ).bind λk=>(mB x k e).map λd=>.nx (ρ.set i (some d))
theorem PS.or{st:Stmt}{t u:TS}(h:PS X st t)(k:PS X st u):PS X st (λT σ H=>t T σ H\/u T σ H):=λpins s σ H T I w=>w.elim (h pins s σ H T I) (k pins s σ H T I)
theorem QZ{o k value:Expr}{i:Nat}{pos pos':Pos}{fk fe:Ev}(B:X.A.units+1<cLine)(ho:PE X o (cX i))(hk:PB X O k fk)(hv:PD X O value fe)(hO:mem O i=true)(h:Sub O' O=true:=by rfl)
  (hs:zaC value (some (.Subscript o k pos')) pos.line X.env=pure false:=by rfl) (af:zc9 [.Subscript o k pos'] value pos.line X.env=pure false:=by rfl) (hw:zda [.Subscript o k pos'] value X.env=pure none:=by rfl)
  (hg:∀ {to ti:TE} {t:NM},PE X o to->PE X k ti->RS X t->PG X (.Subscript o k pos') (WX to ti t):=by intro _ _ _ a b c;exact L0 a b c) :
  jA X L O (.Assign [.Subscript o k pos'] value pos) (DR i fk fe) O':=
 PS.mono (PS.or (xG B ho hk hv hs) (L5 hv (hg ho hk set_list) af hw)) <| by
  rintro T σ H ⟨H0,A0,A,E,ρ,out,st,e,p⟩;obtain⟨z,ez,e⟩:=bind_some e;obtain⟨x,ex,e⟩:=bind_some e;obtain⟨y,ey,e⟩:=bind_some e;obtain⟨d,ed,rfl⟩:=map_some e;obtain⟨a,W,J,e3,e4⟩:=st.own i _ (bU ex) (hG hO);cases x with
  | dK l=>
   obtain⟨kk,e5,G⟩:=bind_some ed;by_cases U:aU l.length=true
   ·rw[if_pos U]at G;cases G
    refine .inl ⟨H0,A0,A,E,ρ,z,st,ez,λv H1 M r1=>⟨_,W,H0,A0,A,E,ρ,y,st.mono M,ey,λw H2 N r2=>?_⟩⟩;have q:=M.trans N;cases e4 with
    | @dK _ _ xs h4 ee r4=>
     have B:=q.ow _ _ J h4;have hl:xs.length=l.length:=by have:=congrArg zbu ee;simpa using this
     have:=qQ e5 r2;subst this;refine⟨a,_,rfl,DPut.k B (by rw[hl];exact iX U),?_⟩;obtain⟨Y,r7⟩:=v5 (tU kk (r1.ext N) (uD ee (r4.ext q)));obtain⟨A',F⟩:=((st.mono q).write (o:=.dK _) (bU ex) (hG hO) W J e3 B trivial (.dK aI Y (r7.put J B trivial))).shut (Sub.mem h);exact p A' σ _ F
   ·rw[if_neg U]at G;cases G
  | dT l=>
   obtain⟨kk,e5,G⟩:=bind_some ed;by_cases U:aU l.length=true
   ·rw[if_pos U]at G;cases G
    refine .inl ⟨H0,A0,A,E,ρ,z,st,ez,λv H1 M r1=>⟨_,W,H0,A0,A,E,ρ,y,st.mono M,ey,λw H2 N r2=>?_⟩⟩;have q:=M.trans N;cases e4 with
    | @dT _ _ xs h4 ee r4=>
     have B:=q.ow _ _ J h4;have hl:xs.length=l.length:=by have:=congrArg zbu ee;simpa using this
     obtain⟨b,rfl,hb⟩:=qL e5 r2;refine⟨a,_,rfl,DPut.t B hb (by rw[hl];exact iX U),?_⟩;obtain⟨Y,r7⟩:=v5 (tU kk (r1.ext N) (uD ee (r4.ext q)));obtain⟨A',F⟩:=((st.mono q).write (o:=.dT _) (bU ex) (hG hO) W J e3 B trivial (.dT aI Y (r7.put J B trivial))).shut (Sub.mem h);exact p A' σ _ F
   ·rw[if_neg U]at G;cases G
  | lst l=>
   obtain⟨kk,e5,G⟩:=bind_some ed;obtain⟨j,Y,rfl⟩:=map_some G;refine .inr ⟨H0,A0,A,E,ρ,z,st,ez,λv H1 M r1=>⟨_,W,H0,A0,A,E,ρ,y,st.mono M,ey,λw H2 N r2=>?_⟩⟩;have q:=M.trans N;cases e4 with
   | @lst _ _ xs h4 r4=>
    have B:=q.ow _ _ J h4;rw[zQ e5]at r2;have:=r2.int_inv;subst this;refine⟨a,xs,kk,j,rfl,rfl,B,by rw[r4.length];exact Y,?_⟩;obtain⟨A',F⟩:=((st.mono q).write (o:=.lst _) (bU ex) (hG hO) W J e3 B trivial (.lst aI (((r4.ext q).set j (r1.ext N)).put J B trivial))).shut (Sub.mem h);exact p A' σ _ F
  | _=>cases ed
noncomputable def IY(g:Int->Int->Option D):D->D->Option D
 | .int i,.int j=>g i j
 | _,_=>none
theorem tK(h:IY g x y=some d):∃i j,x=.int i/\y=.int j/\g i j=some d:=by
 cases x with
 | int i=>
  cases y with
  | int j=>exact⟨_,_,rfl,rfl,h⟩
  | _=>cases h
 | _=>cases h
theorem tW{f:Value->Value->Sem Value}{C:Int->Int->Prop}[∀i j,Decidable (C i j)]{g:Int->Int->Int}(h:OpR X f (rI C λi j=>.int (g i j))):lA X f (IY λi j=>if C i j then some (.int (g i j))else none):=
 OpR.mono h <| by
  rintro x y H Q ⟨A,dx,M,d,J,G,F,e,q⟩;obtain⟨i,j,rfl,rfl,z⟩:=tK e;have:=G.int_inv;subst this;have:=F.int_inv;subst this;by_cases B:C i j
  ·rw[if_pos B]at z;cases z
   exact⟨i,j,rfl,rfl,B,q _ H (Ext.refl _ _) (.int _)⟩
  ·rw[if_neg B]at z;cases z
theorem O0{f:Value->Value->Sem Value}{g:Int->Int->Int}(h:OpR X f (NX λi j=>.int (g i j))):lA X f (IY λi j=>some (.int (g i j))):=
 OpR.mono h <| by
  rintro x y H Q ⟨A,dx,G,d,F,B,z,e,q⟩;obtain⟨i,j,rfl,rfl,e⟩:=tK e;have:=B.int_inv;subst this;have:=z.int_inv;subst this;cases e;exact⟨i,j,rfl,rfl,q _ H (Ext.refl _ _) (.int _)⟩
theorem AA{f:Value->Value->Sem Value}{g:Int->Int->Bool}(h:OpR X f (NX λi j=>.bl (g i j))):lA X f (IY λi j=>some (.bl (g i j))):=
 OpR.mono h <| by
  rintro x y H Q ⟨A,dx,G,d,F,B,z,e,q⟩;obtain⟨i,j,rfl,rfl,e⟩:=tK e;have:=B.int_inv;subst this;have:=z.int_inv;subst this;cases e;exact⟨i,j,rfl,rfl,q _ H (Ext.refl _ _) (.bl _)⟩
instance:∀i j,Decidable (My.DO i j):=λi j=>by unfold My.DO;infer_instance
instance:∀i j,Decidable (RX i j):=λi j=>by unfold RX;infer_instance
instance:∀i j,Decidable (R6 i j):=λi j=>by unfold R6;infer_instance
def Z8:D->D->Option D:=IY λi j=>some (.int (i-j))
def F8:D->D->Option D:=IY λi j=>if My.DO i j then some (.int (i*j))else none
def eJ:D->D->Option D:=IY λi j=>if 0<j then some (.int (i%j))else none
def gO:D->D->Option D:=IY λi j=>if RX i j then some (.int (i/j))else none
def RT:D->D->Option D:=IY λi j=>if R6 i j then some (.int (i^j.toNat))else none
def BD:D->D->Option D:=IY λi j=>some (.bl (decide (j<i)))
def ZX:D->D->Option D:=IY λi j=>some (.bl (decide (j<=i)))
theorem VJ:lA X (zaL .Sub) Z8:=O0 UP
theorem UL:lA X (zaL .Mult) F8:=tW My.PM
theorem kD:lA X (zaL .Mod) eJ:=tW WG
theorem CZ:lA X (zaL .FloorDiv) gO:=tW QQ
theorem UK:lA X (zaL .Pow) RT:=tW UT
theorem X4:lA X (zay .Gt) BD:=AA Y4
theorem Y6:lA X (zay .GtE) ZX:=AA XT
def WY(f:Ev):Ev:=λρ=>(f ρ).bind λd=>(W4 d).map λi=>.int (-i)
end
section
variable {X:Cx}{L:Lp}{O O':List Nat}
def R1:Sv:=λ_=>none
theorem HB{st:Stmt}:jA X L O st R1 O':=λ_ _ _ _ _ _ ⟨_,_,_,_,_,_,_,e,_⟩=>nomatch e
abbrev Gv:=D->cY->Option cY
inductive tDG(O:List Nat)(g:Gv)(v:V)(σ:L2.St)(H:Hp)(Q:L2.St->Hp->Prop):Prop
 | mk (H0:Hp) (A0 A:Av) (E:List Fact) (ρ:cY) (d:D) (ρ':cY) (st:ST H0 A0 A E O σ H ρ) (r:Rep A H d v) (e:g d ρ=some ρ') (q:∀σ',ST H0 A0 A E O σ' H ρ'->Q σ' H):tDG O g v σ H Q
def BF(X:Cx)(O:List Nat)(tg:Expr)(g:Gv):Prop:=PG X tg (tDG O g)
abbrev TJ:=List D->cY->Option cY
inductive tDGs(O:List Nat)(g:TJ)(vs:List V)(σ:L2.St)(H:Hp)(Q:L2.St->Hp->Prop):Prop
 | mk (H0:Hp) (A0 A:Av) (E:List Fact) (ρ:cY) (ds:List D) (ρ':cY) (st:ST H0 A0 A E O σ H ρ) (r:RepL A H ds vs) (e:g ds ρ=some ρ') (q:∀σ',ST H0 A0 A E O σ' H ρ'->Q σ' H):tDGs O g vs σ H Q
def DQ(X:Cx)(O:List Nat)(q:List Expr)(g:TJ):Prop:=PGs X q (tDGs O g)
theorem PG.mono(h:PG X tg t)(x:∀v σ H Q,t' v σ H Q->t v σ H Q):PG X tg t':=λpins s σ H v u Q I r w=>h pins s σ H v u Q I r (x v σ H Q w)
theorem PGs.mono(h:PGs X ts t)(x:∀v σ H Q,t' v σ H Q->t v σ H Q):PGs X ts t':=λpins s σ H v u Q I r w=>h pins s σ H v u Q I r (x v σ H Q w)
def aR(i:Nat):Gv:=λd ρ=>some (ρ.set i (some d))
theorem mY(h:PG X tg (i7 i))(n:O.contains i=false:=by rfl):BF X O tg (aR i):=PG.mono h <| by
 rintro v σ H Q ⟨H0,A0,A,E,ρ,d,ρ',st,r,e,q⟩;cases e;exact q _ (st.put r λz=>by
  have:O.contains i=true:=by simpa using z
  rw[n]at this;cases this)
def uE:TJ:=λds ρ=>match ds with
 | []=>some ρ
 | _=>none
def d7(g:Gv)(k:TJ):TJ:=λds ρ=>match ds with
 | d::ds=>(g d ρ).bind λρ'=>k ds ρ'
 | _=>none
theorem K3:DQ X O [] uE:=PGs.mono RE <| by
 rintro v σ H Q ⟨H0,A0,A,E,ρ,ds,ρ',st,r,e,q⟩;cases r with
 | nil=>cases e;exact⟨rfl,q _ st⟩
 | cons _ _=>cases e
theorem hZ(F:∀ {t:TG} {u:TC},PG X e t->PGs X es u->PGs X (e::es) (SF t u))(h1:BF X O e g)(h2:DQ X O es k):DQ X O (e::es) (d7 g k):=
 PGs.mono (F h1 h2) <| by
  rintro v σ H Q ⟨H0,A0,A,E,ρ,ds,ρ',st,r,e,q⟩;cases r with
  | nil=>cases e
  | cons h t=>
   obtain⟨z,G,e⟩:=bind_some e;exact⟨_,_,rfl,H0,A0,A,E,ρ,_,z,st,h,G,λJ B=>⟨H0,A0,A,E,z,_,ρ',B,t,e,q⟩⟩
def k7(n:Nat)(k:TJ):Gv:=λd ρ=>match d with
 | .tup l=>if l.length=n then k l ρ else none
 | _=>none
theorem E8(F:PG X tg (ZY X.K n (tDGs O k))):BF X O tg (k7 n k):=PG.mono F <| by
 rintro v σ H Q ⟨H0,A0,A,E,ρ,d,ρ',st,r,e,q⟩;cases d with
 | tup l=>
  obtain⟨a,xs,rfl,h,B⟩:=RepB.tup_inv (.of r);by_cases z:l.length=n
  ·simp only[k7,if_pos z]at e
   exact⟨a,xs,rfl,.inl (.inl h),by rw[B.length];exact z,H0,A0,A,E,ρ,l,ρ',st,B,e,q⟩
  ·simp only[k7,if_neg z]at e;cases e
 | _=>cases e
def RZ(f:Ev)(g:Gv):Sv:=λρ=>(f ρ).bind λd=>(g d ρ).map .nx
theorem nM(G:PD X O e f)(F:BF X O tg g)(hs:zc9 [tg] e pos.line X.env=pure false:=by rfl)(hw:zda [tg] e X.env=pure none:=by rfl)(h:Sub O' O=true:=by rfl)(h1:(za1 [tg] X.env).map (·.2)=[zbd tg X.env]:=by rfl)(h1:(za1 [tg] X.env).map (·.2)=[zbd tg X.env]:=by rfl)(h1:(za1 [tg] X.env).map (·.2)=[zbd tg X.env]:=by rfl)(h1:(za1 [tg] X.env).map (·.2)=[zbd tg X.env]:=by rfl):jA X L O (.Assign [tg] e pos) (RZ f g) O':=
 PS.mono (L5 G F hs hw h1) <| by
  rintro T σ H ⟨H0,A0,A,E,ρ,out,st,e,p⟩;obtain⟨d,J,e⟩:=bind_some e;obtain⟨ρ',M,rfl⟩:=map_some e;refine⟨H0,A0,A,E,ρ,d,st,J,λv H' x r=>⟨H0,A0,A,E,ρ,d,ρ',st.mono x,r,M,λz B=>?_⟩⟩;obtain⟨A',q⟩:=B.shut (Sub.mem h);exact p A' z H' q
def IP(J:It)(q:List Fact)(items:List D):Prop:=
 ∀(A:Av) (H:Hp),Live A H->(∀p∈q,p.Holds A H)->∀i,(items.length<=i->J.stop i H)/\∀d,items[i]?=some d->J.go i H/\∀x H',J.yld i H x H'->Ext A H H'/\Rep A H' d x
inductive tDI(O:List Nat)(f:Lv)(σ:L2.St)(H:Hp)(R:It->Hp->Prop):Prop
 | mk (H0:Hp) (A0 A:Av) (E:List Fact) (ρ:cY) (items:List D) (st:ST H0 A0 A E O σ H ρ) (e:f ρ=some items) (q:∀J H' E1,Ext A H H'->(∀p∈E1,p.Holds A H')->IP J E1 items->R J H'):tDI O f σ H R
def PDI(X:Cx)(O:List Nat)(tg e:Expr)(f:Lv):Prop:=PI X tg e (tDI O f)
theorem PI.mono(h:PI X tg e t)(x:∀σ H Q,t' σ H Q->t σ H Q):PI X tg e t':=λpins s σ H Q I w=>h pins s σ H Q I (x σ H Q w)
theorem PI.or(h:PI X tg e t)(k:PI X tg e u):PI X tg e (λσ H Q=>t σ H Q\/u σ H Q):=λpins s σ H Q I w=>w.elim (h pins s σ H Q I) (k pins s σ H Q I)
theorem QO{a:Addr}{l:List D}{K:zae}:IP (Itl K a) [.rep (.lst l) (.ref a)] l:=by
 intro A H B h i;have r:Rep A H (.lst l) (.ref a):=h _ (List.mem_singleton.mpr rfl);obtain⟨F,xs,e,h1,q⟩:=RepB.lst_inv (.of r);cases e;refine⟨λhi=>⟨xs,.inl h1,by rw[q.length];exact hi⟩,λd hd=>?_⟩;obtain⟨v,z,r1⟩:=q.get' hd;refine⟨⟨xs,v,.inl h1,z⟩,λx H' y=>?_⟩;obtain⟨rfl,y⟩:=y;have:=y xs (.inl h1);rw[z]at this;cases this;exact⟨Ext.refl _ _,r1⟩
theorem V7{a:Addr}{l:List D}{K:zae}:IP (Itt K a) [.rep (.tup l) (.ref a)] l:=by
 intro A H B h i;have r:Rep A H (.tup l) (.ref a):=h _ (List.mem_singleton.mpr rfl);obtain⟨F,xs,e,h1,q⟩:=RepB.tup_inv (.of r);cases e;refine⟨λhi=>⟨xs,.inl (.inl h1),by rw[q.length];exact hi⟩,λd hd=>?_⟩;obtain⟨v,z,r1⟩:=q.get' hd;refine⟨⟨xs,v,.inl (.inl h1),z⟩,λx H' y=>?_⟩;obtain⟨rfl,y⟩:=y;have:=y xs (.inl (.inl h1));rw[z]at this;cases this;exact⟨Ext.refl _ _,r1⟩
noncomputable def aS(lo c:Int)(n:Nat):List D:=(zas n).map λ(i:Nat)=>.int (lo+(i:Int)*c)
theorem bG(lo c:Int)(n:Nat):(aS lo c n).length=n:=by simp[aS]
theorem bW{lo c:Int}{n i:Nat}(h:(aS lo c n)[i]?=some d):i<n/\d=.int (lo+(i:Int)*c):=by
 unfold aS at h;rw[zaB]at h;by_cases hi:i<n
 ·rw[zcW hi]at h;cases h;exact⟨hi,rfl⟩
 ·rw[List.getElem?_eq_none (by simpa using hi)]at h;cases h
theorem KH{lo:Int}{n:Nat}:IP (qp lo n) [] (aS lo 1 n):=by
 intro A H q h i;refine⟨λhi=>by rw[bG]at hi;exact hi,λd hd=>?_⟩;obtain⟨hi,rfl⟩:=bW hd;exact⟨hi,λx H' ⟨e,y⟩=>by subst e y;rw[Int.mul_one];exact⟨Ext.refl _ _,.int _⟩⟩
noncomputable def pY(i:Int):Bool:=decide (-1000000<=i) && decide (i<=1000000)
def b8:List D->Option (List D)
 | [.int j]=>if pY j then some (aS 0 1 j.toNat)else none
 | _=>none
theorem yX(h:pY i=true):-(2^62)<=i/\i<2^62:=by
 simp only[pY,zaP,decide_eq_true_eq]at h
 lia
def lR(g:List D->Option (List D))(f:Lv):Lv:=λρ=>(f ρ).bind g
theorem RL.one(r:RL R A H [d] vs):∃v,vs=[v]/\R A H d v:=by
 cases r with|cons h t=>cases t;exact⟨_,rfl,h⟩
theorem RL.two(r:RL R A H [d,e] vs):∃v w,vs=[v,w]/\R A H d v/\R A H e w:=by
 cases r with|cons h t=>obtain⟨w,rfl,h2⟩:=RL.one t;exact⟨_,w,rfl,h,h2⟩
theorem wK(h:b8 ds=some l):∃j,ds=[.int j]/\pY j=true/\l=aS 0 1 j.toNat:=by
 unfold b8 at h;split at h
 ·split at h
  ·cases h;exact⟨_,rfl,by assumption,rfl⟩
  ·cases h
 ·cases h
section
variable {tg a b c:Expr}{f:Lv}{p pos:Pos}
theorem CG(B:Gl X "range")(F:X.mg "range" = none)(J:wD X O [a] f)(hs:zag [a] X.env=[(false,eval a X.env)]:=by rfl):PDI X O tg (.Call (.Name "range" p) [a] [] pos) (lR b8 f):=PI.mono (HP B F J hs) <| by
 rintro σ H R ⟨H0,A0,A,E,ρ,items,st,e,q⟩;obtain⟨ds,G,e⟩:=bind_some e;refine⟨H0,A0,A,E,ρ,ds,st,G,λvs H1 z r1=>?_⟩;obtain⟨j,rfl,h,rfl⟩:=wK e;obtain⟨v,rfl,h1⟩:=r1.one;have:=h1.int_inv;subst this;exact⟨j,rfl,(yX h).1,(yX h).2,q _ H1 [] z (λ_ h=>nomatch h) KH⟩
end
def IV:Key->D
 | .inl i=>.int i
 | .inr x=>.str x
def NL(f:Ev):Lv:=λρ=>(f ρ).bind λd=>match d with
 | .lst l=>some l
 | .tup l=>some l
 | .dT l=>some (l.map λp=>.tup (p.1.map IV))
 | _=>none
theorem tG:∀k:List Key,RepL A H (k.map IV) (k.map kV)
 | []=>.nil
 | .inl i::k=>.cons (.int i) (tG k)
 | .inr x::k=>.cons (.str x) (tG k)
def U6(tl:TE):TI:=λσ H R=>tl σ H λx H1=>∃d kvs,x=.ref d/\((H1 d=some (.dT kvs)/\∀o,R (My.qh d o kvs) (upd H1 d (.frz o (.dT kvs))))\/∃o,H1 d=some (.frz o (.dT kvs))/\R (My.qh d o kvs) H1)
theorem JH(U:PE X l tl):PI X tg l (U6 tl):=by
 intro pins s σ H R I h;refine cS (U pins s σ H _ I h) λv z ⟨x,H1,J,r1,Y⟩=>?_
 obtain⟨d,kvs,rfl,q⟩:=Y;cases r1;have F:∀(o:Obj) (H2:Hp),(d == za6)=false->Inv X pins σ H2 z->z.heap.get? d=some o->ObjOk X.prog X.w H2 z.heap d (.dT kvs)->R (My.qh d o kvs) H2->wpAny (model X.prog X.w) X.A (pyIter (.ref d)) (PIE X pins σ tg R) X.xe z:=λo H2 lo B N ok q=>by
  obtain⟨_,_,es,ep,⟨o',r1,r2,r3⟩,G,_⟩:=My.t9 ok;rw[N]at r1;cases r1;refine My.LB lo ⟨o,N,r2,r3⟩ ?_;refine⟨z.heap.objs.size,[z.heap.objs.size],_,_,_,rfl,B.kept (t':=z.toks) λb o e=>zal _ e,My.GN d _ o kvs es ep r3 G,⟨_,zaD _ rfl,rfl,rfl⟩,λb W=>?_,q⟩;have e:b=z.heap.objs.size:=by simpa using W
  subst e;exact B.fpOk (zaj _) (B.hok.fresh (zaj _))
 rcases q with⟨hd,q⟩|⟨o,hd,q⟩
 ·have ok:=(show ObjOk X.prog X.w H1 z.heap d (.dT kvs)from J.hok d _ hd)
  obtain⟨lo,_,es,ep,⟨o,r1,r2,r3⟩,G,_⟩:=My.t9 ok;have B:=My.BW J hd r1;have M:=(show ObjOk X.prog X.w _ z.heap d (.frz o (.dT kvs))from B.hok d _ aI);exact F o _ lo B r1 M.2 (q o)
 ·have ok:=(show ObjOk X.prog X.w H1 z.heap d (.frz o (.dT kvs))from J.hok d _ hd)
  obtain⟨lo,_⟩:=My.t9 ok.2;exact F o H1 lo J ok.1 ok.2 q
theorem FK{a:Addr}{o:Obj}{xs:List (List Key×V)}{l:List (List Key×D)}(e:xs.map (·.1)=l.map (·.1)):IP (My.qh a o xs) [.fz a o (.dT xs)] (l.map λp=>.tup (p.1.map IV)):=by
 intro A H N h i;have z:H a=some (.frz o (.dT xs)):=h _ (List.mem_singleton.mpr rfl);have M:xs.length=l.length:=by have:=congrArg zbu e;simpa using this
 refine⟨λhi=>⟨z,by rw[zam]at hi;lia⟩,λd hd=>?_⟩;rw[zaB]at hd;obtain⟨p,q,rfl⟩:=map_some hd;have hi:i<l.length:=(List.getElem?_eq_some_iff.mp q).1;refine⟨⟨z,by lia⟩,λx H' ⟨J,k,v,b,F,G,B⟩=>?_⟩;subst J G;have:k=p.1:=by
  have h1:(xs.map (·.1))[i]?=some k:=by rw[zaB,F];rfl
  rw[e,zaB,q]at h1;exact(zaF h1).symm
 subst this;exact⟨Ext.refl _ _,.tup B (tG _)⟩
theorem PU(n:¬ A d)(hd:H d=some u)(B:XF u)(F:¬ Kp u):Ext A H (upd H d (.frz o u)) where
 rd:=λb w r=>by
  by_cases e:b=d
  ·subst e
   rcases r with r|⟨q,r⟩
   ·rw[hd]at r;cases r;exact .inr ⟨o,aI⟩
   ·rw[hd]at r;cases r;exact B.elim
  ·exact eS e r
 kp:=λb w k r=>by rw[aF (λz=>by subst z;rw[hd]at r;cases r;exact F k)];exact r
 ow:=λb w G r=>by rw[aF (λz=>n (by rw[<- z];exact G))];exact r
 fz:=λb q w r=>by rw[aF (λz=>by subst z;rw[hd]at r;cases r;exact B)];exact r
theorem N9(h:PD X O e f):PDI X O tg e (NL f):=PI.mono (PI.or (PI.or (Q9 h) (WO h)) (JH h)) <| by
 rintro σ H R ⟨H0,A0,A,E,ρ,items,st,e,q⟩;obtain⟨d,G,e⟩:=bind_some e;cases d with
 | lst l=>
  cases e;refine .inl (.inl ⟨H0,A0,A,E,ρ,_,st,G,λv H1 F r1=>?_⟩);obtain⟨a,xs,rfl,h1,J⟩:=RepB.lst_inv (.of r1);exact⟨a,rfl,⟨xs,.inl h1⟩,q _ H1 [.rep (.lst items) (.ref a)] F (λp B=>by rw[List.mem_singleton.mp B];exact r1) QO⟩
 | tup l=>
  cases e;refine .inl (.inr ⟨H0,A0,A,E,ρ,_,st,G,λv H1 F r1=>?_⟩);obtain⟨a,xs,rfl,h1,J⟩:=RepB.tup_inv (.of r1);exact⟨a,rfl,⟨xs,.inl (.inl h1)⟩,q _ H1 [.rep (.tup items) (.ref a)] F (λp B=>by rw[List.mem_singleton.mp B];exact r1) V7⟩
 | dT l=>
  cases e;refine .inr ⟨H0,A0,A,E,ρ,_,st,G,λv H1 F r1=>?_⟩;cases r1 with
  | @dT _ a xs n h ee J=>
   refine⟨a,xs,rfl,?_⟩;rcases h with h|⟨o,h⟩
   ·refine .inl ⟨h,λo=>q _ _ [.fz a o (.dT xs)] (F.trans (PU n h trivial λz=>z)) (λp B=>by rw[List.mem_singleton.mp B];exact aI) (FK ee)⟩
   ·exact .inr ⟨o,h,q _ H1 [.fz a o (.dT xs)] F (λp B=>by rw[List.mem_singleton.mp B];exact h) (FK ee)⟩
 | _=>cases e
def kL(g:Gv)(body:Sv):List D->cY->Option Out
 | [],ρ=>some (.nx ρ)
 | x::xs,ρ=>(g x ρ).bind λρ1=>(body ρ1).bind λo=>match o with
  | .nx ρ2=>kL g body xs ρ2
  | .ct ρ2=>kL g body xs ρ2
  | .bk ρ2=>some (.nx ρ2)
  | .rt d=>some (.rt d)
def BE(f:Lv)(g:Gv)(q:Sv):Sv:=λρ=>(f ρ).bind λitems=>kL g q items ρ
theorem ST.both(s:ST H0 A0 A E O σ H ρ)(h:∀p∈E1,p.Holds A H):ST H0 A0 A (E1++E) O σ H ρ:=
 {s with ext:=λp q=>by rcases List.mem_append.mp q with e|e;exact h p e;exact s.ext p e}
theorem RB(hp:zb5 (model X.prog X.w) X.A X.env X.xe)(hc:X.calm=true)(hi:PDI X O tg iter f)(hg:BF X O1 tg g)(hb:d9 X ⟨Ob,O1⟩ O1 body b O1)(h1:Sub O1 O=true)(h2:Sub O' O1=true)(h3:Sub O' Ob=true)
  (hs:∀x,zba iter X.env x=pure x:=by intro _;rfl):jA X L O (.For tg iter body [] pos) (BE f g b) O':=PS.mono (L8 hp hc hi hg hb hs) λT σ H ⟨H0,A0,A,E,ρ,out,st,e,p⟩=>by
 obtain⟨items,e1,e⟩:=bind_some e;refine⟨H0,A0,A,E,ρ,items,st,e1,λJ H1 M x1 ab J1=>?_⟩;obtain⟨A1,ac⟩:=((st.mono x1).both ab).shut (Sub.mem h1);refine⟨λi m σ H=>m=items.length-i/\i<=items.length/\∃ρ A,ST H0 A0 A (M++E) O1 σ H ρ/\kL g b (items.drop i) ρ=some out,⟨items.length,by simp,zaI _,ρ,A1,ac,e⟩,?_⟩;rintro i m σ H ⟨rfl,ap,ρ,A,st,e⟩;have hE:∀p∈M,p.Holds A H:=λp hp=>st.ext p (zbC _ hp)
 obtain⟨N,go⟩:=J1 A H st.live hE i;have fin:∀ {O2:List Nat} {A:Av} {σ:L2.St} {H:Hp} {ρ:cY},Sub O' O2=true->ST H0 A0 A (M++E) O2 σ H ρ->(∀A σ H,ST H0 A0 A E O' σ H ρ->T.nx σ H)->T.nx σ H:=λhs st k=>by
  obtain⟨B,af⟩:=(st.less (E':=E) λq hq=>zaX _ hq).shut (Sub.mem hs);exact k B _ _ af
 by_cases G:i<items.length
 ·have ed:items[i]?=some items[i]:=by simp[G]
  obtain⟨aa,hy⟩:=go _ ed;rw[zcX G]at e;obtain⟨W,eg,e⟩:=bind_some e;obtain⟨o,eo,e⟩:=bind_some e;refine .inr ⟨aa,λY H'=>∃z B,ST H0 A0 B (M++E) O1 Y H' z/\kL g b (items.drop (i+1)) z=some out,λY H' ⟨z,B,F,e2⟩=>⟨items.length-(i+1),by lia,rfl,G,z,B,F,e2⟩,λx H' y=>?_⟩;obtain⟨x2,r2⟩:=hy x H' y;refine⟨H0,A0,A,M++E,ρ,_,W,st.mono x2,r2,eg,λa1 s1=>⟨H0,A0,A,M++E,W,o,s1,eo,?_⟩⟩;cases o with
  | nx z=>exact λB U H2 F=>⟨z,B,F,e⟩
  | ct z=>exact λB U H2 F=>⟨z,B,F,e⟩
  | bk z=>cases e;exact λB U H2 F=>fin h3 F p
  | rt d=>cases e;exact p
 ·have ad:i=items.length:=by lia
  subst ad;rw[zdE]at e;cases e;exact .inl ⟨N (zaj _),fin h2 st p⟩
end
noncomputable def hJ(cells:List (Str×Addr)):List (Str×zbt)->List (Str×Addr)->List (Str×Addr)
 | [],cs=>cs
 | (x,k)::r,cs=>hJ cells r (if k == .free then(x,(cells.lookup x).getD 0)::cs else cs)
theorem vH:∀(names:List (Str×zbt)) (q:List (Str×Addr)),(∀y∈names,y.2=.free->∃c,env.cells.lookup y.1=some c)->
  (forIn names q (λ(p:Str×zbt) (r:List (Str×Addr))=>if(p.2 == .free)=true then(do let c <- cellOf env p.1;pure (zcC ((p.1,c)::r)))else(pure (zcC r):Sem _)))=(pure (hJ env.cells names q):Sem _)
 | [],q,_=>by simp[hJ]
 | (x,k)::r,q,h=>by
  have ih:=λq=>vH r q λy F=>h y (zap _ F)
  rw[zee];by_cases e:(k == zbl)=true
  ·have G:k=.free:=by simpa using e
   obtain⟨c,B⟩:=h (x,k) (zat ..) G;have z:env.cells.lookup x=some c:=B;simp only[e,if_true,hJ];have:cellOf env x=pure c:=by unfold cellOf;rw[z]
   rw[this];simp only[pure_bind,z,Option.getD_some];exact ih _
  ·simp only[e,hJ]
   simp only[zbo,if_false,pure_bind];exact ih _
theorem E4(h:∀y∈scope.names,y.2=.free->∃c,env.cells.lookup y.1=some c):closureFor scope env=pure (hJ env.cells scope.names []):=by
 have:=vH scope.names [] h;unfold closureFor;simp only[bind_pure];exact this
theorem tL:∀ {names:List (Str×zbt)} {cs:List (Str×Addr)} {c:Addr},(hJ cells names cs).lookup x=some c->(∃q,cs.lookup x=some q/\c=q)\/((x,zbl)∈names/\c=(cells.lookup x).getD 0)
 | [],cs,c,h=>.inl ⟨c,h,rfl⟩
 | (y,k)::r,cs,c,h=>by
  rw[hJ]at h;rcases tL h with⟨q,h1,h2⟩|⟨h1,h2⟩
  ·by_cases e:(k == zbl)=true
   ·rw[if_pos e,zbX]at h1
    by_cases ex:(x == y)=true
    ·rw[ex]at h1
     have z:x=y:=by simpa using ex
     have B:k=.free:=by simpa using e
     subst z B;cases h1;exact .inr ⟨zat ..,h2⟩
    ·rw[zdF]at ex
     rw[ex]at h1;exact .inl ⟨q,h1,h2⟩
   ·rw[if_neg e]at h1
    exact .inl ⟨q,h1,h2⟩
  ·exact .inr ⟨zap _ h1,h2⟩
theorem tE:∀ {names:List (Str×zbt)} {cs:List (Str×Addr)},((x,zbl)∈names\/∃c,cs.lookup x=some c)->∃c,(hJ cells names cs).lookup x=some c
 | [],cs,h=>h.elim (λh=>nomatch h) id
 | (y,k)::r,cs,h=>by
  rw[hJ];apply tE;rcases h with h|⟨c,h⟩
  ·rcases List.mem_cons.mp h with e|e
   ·cases e
    refine .inr ⟨(cells.lookup x).getD 0,?_⟩;simp[zbX]
   ·exact .inl e
  ·right
   by_cases e:(k == zbl)=true
   ·rw[if_pos e,zbX]
    by_cases ex:(x == y)=true
    ·rw[ex];exact⟨_,rfl⟩
    ·rw[zdF]at ex;rw[ex];exact⟨c,h⟩
   ·rw[if_neg e];exact⟨c,h⟩
theorem gB{q:Type}{v:q}:∀ {l:List (Str×q)},l.lookup x=some v->(x,v)∈l
 | (y,w)::r,h=>by
  rw[zbX]at h;by_cases ex:(x == y)=true
  ·rw[ex]at h;cases h;rw[show x=y by simpa using ex];exact zat ..
  ·rw[zdF]at ex;rw[ex]at h;exact zap _ (gB h)
noncomputable def A6(names q:List (Str×zbt)):Bool:=
 names.all λy=>y.2 != .cell && (y.2 != .local || names.lookup y.1 == some .local) && (y.2 != .free || q.lookup y.1 == some .cell)
theorem C3{X:Cx}{N:List Str}{scope:Scope}{n:Nat}(hk:scope.kind=.function)(h:A6 scope.names X.env.scope.names=true)(hc:X.env.cells=zb7 n X.env.scope.names []):My.Clo X N scope (hJ X.env.cells scope.names []):=by
 have h':=List.all_eq_true.mp h;have W:∀y∈scope.names,y.2≠.cell:=λy F=>by
  have:=h' y F;simp only[zaP]at this;simpa using this.1.1
 have c2:∀y∈scope.names,y.2=.local->scope.names.lookup y.1=some .local:=λy F e=>by
  have:=h' y F;simp only[zaP,zdG]at this;rcases this.1.2 with z|z
  ·rw[e]at z;exact absurd z (by decide)
  ·simpa using z
 have Y:∀y∈scope.names,y.2=.free->∃c,X.env.cells.lookup y.1=some c:=λy F e=>by
  have:=h' y F;simp only[zaP,zdG]at this;rcases this.2 with z|z
  ·rw[e]at z;exact absurd z (by decide)
  ·rw[hc];exact mU (sc:=X.env.scope) (by simpa using z)
 have B:∀x,((zbc scope X.env).names.lookup x=some .cell\/(zbc scope X.env).names.lookup x=some .free)->(x,zbl)∈scope.names:=λx hx=>by
  have J:∀M,(M=NameKind.cell\/M=zbl)->(x,M)∈(zbc scope X.env).names->(x,zbl)∈scope.names:=λM U hm=>by
   obtain⟨⟨y,k⟩,F,e⟩:=List.mem_map.mp hm;dsimp only at e;by_cases q:(k == zbl && X.env.scope.kind == .function && X.env.kindOf y == some .cell)=true
   ·rw[if_pos q]at e
    have:k=.free:=by simp only[zaP]at q;simpa using q.1.1
    cases e;subst this;exact F
   ·rw[if_neg q]at e
    cases e;rcases U with z|z
    ·exact absurd z (W _ F)
    ·subst z;exact F
  rcases hx with hx|hx
  ·exact J _ (.inl rfl) (gB hx)
  ·exact J _ (.inr rfl) (gB hx)
 refine⟨E4 Y,hk,W,c2,λx c e=>?_,λx hx=>tE (.inl (B x hx))⟩;rcases tL e with⟨c',z,_⟩|⟨z1,z2⟩
 ·cases z
 ·obtain⟨c0,G⟩:=Y _ z1 rfl
  have G:X.env.cells.lookup x=some c0:=G;rw[z2,G];rfl
noncomputable def dO(X:Cx)(scope:Scope):List Str->List (Option Nat)->Prop
 | [],[]=>True
 | _::N,none::ms=>dO X scope N ms
 | x::N,some i::ms=>(X.N[i]?=some x/\((zbc scope X.env).names.lookup x == some NameKind.local)=false/\(X.env.kindOf x=some .cell\/X.env.kindOf x=some .free))/\dO X scope N ms
 | _,_=>False
noncomputable def iG{q:Type}(ms:List (Option Nat))(σ:List (Option q)):List (Option q):=ms.map λo=>o.bind λi=>(σ[i]?).join
theorem jP:∀ {N:List Str} {ms:List (Option Nat)},dO X scope N ms->ms.length=N.length/\∀(j:Nat) (x:Str) (i:Nat),N[j]?=some x->ms[j]?=some (some i)->X.N[i]?=some x/\(zbc scope X.env).names.lookup x≠some .local/\(X.env.kindOf x=some .cell\/X.env.kindOf x=some .free)
 | [],[],_=>⟨rfl,λj x i h _=>by simp at h⟩
 | y::N,none::ms,h=>by
  obtain⟨l,g⟩:=jP (N:=N) (ms:=ms) h;refine⟨by simp[l],λj x i h1 h2=>?_⟩;cases j with
  | zero=>simp at h2
  | succ j=>exact g j x i (by simpa using h1) (by simpa using h2)
 | y::N,some k::ms,h=>by
  obtain⟨l,g⟩:=jP (N:=N) (ms:=ms) h.2;refine⟨by simp[l],λj x i h1 h2=>?_⟩;cases j with
  | zero=>simp at h1 h2;subst h1 h2;exact⟨h.1.1,λz=>by have:=h.1.2.1;rw[z]at this;exact absurd this (by decide),h.1.2.2⟩
  | succ j=>exact g j x i (by simpa using h1) (by simpa using h2)
 | [],_::_,h=>h.elim
 | _::_,[],h=>h.elim
theorem gU{z:Type}{ms:List (Option Nat)}{σ:List (Option z)}{j:Nat}{v:z}(h:(iG ms σ)[j]?=some (some v)):∃i:Nat,ms[j]?=some (some i)/\σ[i]?=some (some v):=by
 unfold iG at h;rw[zaB]at h;obtain⟨o,B,q⟩:=map_some h;cases o with
 | none=>cases q
 | some i=>exact⟨i,B,sE q⟩
theorem yZ{N:List Str}{ms:List (Option Nat)}(h:dO X scope N ms)(σ:L2.St):My.Start X N scope σ (iG ms σ):=by
 obtain⟨l,g⟩:=jP h;refine⟨by unfold iG;rw[zam];exact l,λj x v h1 h2 _=>?_⟩;obtain⟨i,q,z⟩:=gU h2;obtain⟨a,b,c⟩:=g j x i h1 q;exact⟨b,i,a,z,c⟩
theorem ST.inner{E:List Fact}{O:List Nat}(s:ST H0 A0 A E O σ H ρ)(ms:List (Option Nat))(n:∀i,some i∈ms->i∉O):ST H0 A0 A E [] (iG ms σ) H (iG ms ρ) where
 ex:=s.ex
 sub:=s.sub
 l0:=s.l0
 live:=s.live
 len:=by simp[iG]
 val:=λj d h _=>by
  obtain⟨i,q,B⟩:=gU h;obtain⟨v,z,r⟩:=s.val i d B (n i (zav q));refine⟨v,?_,r⟩;unfold iG;rw[zaB,q];show some ((σ[i]?).join)=_;rw[z];rfl
 own:=λj d _ h=>nomatch h
 inj:=λi j d d' a hi=>nomatch hi
 ext:=s.ext
def bD(g:Gv)(c:Bv)(f:Ev):List D->cY->Option (List D)
 | [],_=>some []
 | x::xs,ρ=>(g x ρ).bind λρ1=>(c ρ1).bind λb=>if b=true then(f ρ1).bind λd=>(bD g c f xs ρ1).bind λds=>some (d::ds)else bD g c f xs ρ1
def dS(ms:List (Option Nat))(it:Lv)(g:Gv)(c:Bv)(f:Ev):Ev:=λρ=>(it ρ).bind λitems=>if aU items.length then(bD g c f items (iG ms ρ)).map .lst else none
def fQ:Bv:=λ_=>some true
theorem J3:My.DT X [] (tDT O fQ):=λpins s σ H Q I ⟨H0,A0,A,E,ρ,b,st,e,q⟩=>My.PJ pins s σ H Q I (by cases e;exact q H (Ext.refl _ _))
theorem JT(h:uZ X O c g):My.DT X [c] (tDT O g):=My.P7 h
section
variable {X:Cx}{O:List Nat}
theorem tQ(ay:dO X scope N ms)(hn:(ms.all λo=>match o with|some i=>!O.contains i|none=>true)=true)(σ:L2.St)(H:Hp)(Q:VK) :
  tF O (dS ms it g c f) σ H Q->My.GA (tDI O it) (tDG [] g) (tDT [] c) (tD Rep [] f) (My.Start X N scope) σ H Q:=λ⟨H0,A0,A,E,ρ,d,st,e,q⟩=>by
 obtain⟨items,e1,e⟩:=bind_some e;by_cases hz:aU items.length=true
 case neg=>rw[if_neg hz]at e;cases e
 rw[if_pos hz]at e;obtain⟨ds,e2,rfl⟩:=map_some e;have a3:∀i,some i∈ms->i∉O:=λi hi z=>by
  have:=List.all_eq_true.mp hn _ hi;simp only[Bool.not_eq_true']at this;have z':O.contains i=true:=by simpa using z
  rw[z']at this;cases this
 refine⟨iG ms σ,yZ ay σ,H0,A0,A,E,ρ,items,st,e1,λJ H1 E1 x1 a5 J1 D hD=>?_⟩;have bb:=(st.mono x1).live;have nA:¬ A D:=λz=>bb D z hD
 have n0:H D=none:=x1.free hD
 -- the state of the block: the list that grows stands outside all that is borne
 refine⟨λi m an us H2=>m=items.length-i/\i<=items.length/\∃ab done rest,ST H0 A0 (λb=>A b\/b=D) (E1++E) [] an H2 ab/\H2 D=some (.lst us)/\Ext A H H2/\RepL (λb=>A b\/b=D) H2 done us/\bD g c f (items.drop i) ab=some rest/\done++rest=ds/\done.length<=i,⟨items.length,by simp,zaI _,iG ms ρ,[],ds,?_,aI,x1.trans (Ext.new hD),.nil,e2,rfl,zaj _⟩,?_⟩
 ·have s1:=((st.mono x1).both a5).inner ms a3
  have up:∀a,(A a\/a=D)->A a\/H1 a=none:=λa F=>F.imp id λz=>by rw[z];exact hD
  refine⟨s1.ex.trans (Ext.new hD),λa F=>.inl (s1.sub a F),s1.l0,λa F=>?_,s1.len,λi d h n=>?_,(λi d _ h=>nomatch h),(λi j d d' a hi=>nomatch hi),λp hp=>Fact.ext (Ext.new hD) (Fact.av up (s1.ext p hp))⟩
  ·rcases F with F|F
   ·rw[aF (λz=>by subst z;exact nA F)];exact s1.live a F
   ·subst F;rw[aI];exact λz=>nomatch z
  ·obtain⟨v,h1,h2⟩:=s1.val i d h n
   exact⟨v,h1,(h2.av up).ext (Ext.new hD)⟩
 ·rintro i m an us H2 ⟨rfl,bm,ab,done,rest,s2,ae,x2,aa,G,ed,ax⟩
  obtain⟨aj,go⟩:=J1 _ H2 s2.live (λp hp=>s2.ext p (zbC _ hp)) i;by_cases M:i<items.length
  ·have eg:items[i]?=some items[i]:=by simp[M]
   obtain⟨a2,hy⟩:=go _ eg;rw[zcX M]at G;obtain⟨U,e3,G⟩:=bind_some G;obtain⟨b,e4,G⟩:=bind_some G;have al:us.length<zai:=by
    rw[aa.length];exact zcU ax (zaW M (f6 hz))
   refine .inr ⟨a2,al,λx H3 y=>?_⟩;obtain⟨x3,r3⟩:=hy x H3 y;refine⟨H0,A0,_,E1++E,ab,_,U,s2.mono x3,r3,e3,λbu s3=>⟨H0,A0,_,E1++E,U,b,s3,e4,λH5 x5=>?_⟩⟩;have ac:=x3.trans x5;have am:H5 D=some (.lst us):=ac.ow D _ (.inr rfl) ae;have ak:Ext A H H5:=x2.trans (ac.mono λa F=>.inl F);cases b with
   | false=>
    rw[if_neg zaA]at G;exact ZS ⟨am,items.length-(i+1),by lia,rfl,M,U,done,rest,s3.mono x5,am,ak,aa.ext ac,G,ed,by lia⟩
   | true=>
    rw[if_pos rfl]at G;refine ZP ?_;obtain⟨d,e6,G⟩:=bind_some G;obtain⟨ah,e7,G⟩:=bind_some G;cases G;refine⟨H0,A0,_,E1++E,U,d,s3.mono x5,e6,λv H6 x6 r6=>?_⟩;have ap:=ac.trans x6;have Y:H6 D=some (.lst us):=ap.ow D _ (.inr rfl) ae;refine⟨Y,items.length-(i+1),by lia,rfl,M,U,done++[d],ah,?_,aI,?_,((aa.ext ap).append (.cons r6 .nil)).put (.inr rfl) Y trivial,e7,by rw[<- ed];simp,by rw[zbb];show done.length+1<=i+1;lia⟩
    ·have W:=s3.mono (x5.trans x6)
     have ba:H0 D=none:=st.ex.free n0;have B:∀b,H0 b≠none->b≠D:=λb hb z=>hb (by rw[z];exact ba)
     refine⟨⟨λb w r=>eS (B b (by rcases r with r|⟨_,r⟩ <;> (rw[r];exact λz=>nomatch z))) (W.ex.rd b w r),λb xs k r=>?_,λb w n r=>?_,λb q w r=>?_⟩,W.sub,W.l0,λa F=>?_,W.len,λi d h n=>?_,(λi d _ h=>nomatch h),(λi j d d' a hi=>nomatch hi),λp hp=>Fact.put (.inr rfl) Y trivial (W.ext p hp)⟩
     ·rw[aF (B b (by rw[r];exact λz=>nomatch z))];exact W.ex.kp b xs k r
     ·rw[aF (B b (by rw[r];exact λz=>nomatch z))];exact W.ex.ow b w n r
     ·rw[aF (B b (by rw[r];exact λz=>nomatch z))];exact W.ex.fz b q w r
     ·by_cases z:a=D
      ·subst z;rw[aI];exact λz=>nomatch z
      ·rw[aF z];exact W.live a F
     ·obtain⟨v,h1,h2⟩:=W.val i d h n
      exact⟨v,h1,h2.put (.inr rfl) Y trivial⟩
    ·have ad:Ext A H H6:=ak.trans (x6.mono λa F=>.inl F)
     have B:∀b,H b≠none->b≠D:=λb hb z=>hb (by rw[z];exact n0)
     exact⟨λb w r=>eS (B b (by rcases r with r|⟨_,r⟩ <;> (rw[r];exact λz=>nomatch z))) (ad.rd b w r),
      λb xs k r=>by rw[aF (B b (by rw[r];exact λz=>nomatch z))];exact ad.kp b xs k r,
      λb w n r=>by rw[aF (B b (by rw[r];exact λz=>nomatch z))];exact ad.ow b w n r,
      λb q w r=>by rw[aF (B b (by rw[r];exact λz=>nomatch z))];exact ad.fz b q w r⟩
  ·have a8:i=items.length:=by lia
   subst a8;rw[zdE]at G;cases G;rw[zbs]at ed;subst ed;exact .inl ⟨aj (zaj _),q D H2 x2 n0 nA (.lst ae aa)⟩
theorem N5
  (z:X.calm=true) (J:My.Clo X N scope cl) (q:dO X scope N ms) (F:(ms.all λo=>match o with|some i=>!O.contains i|none=>true)=true) (hi:PDI X O tg iter it) (B:∀C s H fp,BF (My.aZ X N scope cl C s H fp) [] tg g)
  (M:∀C s H fp,My.DT (My.aZ X N scope cl C s H fp) ifs (tDT [] c)) (G:∀C s H fp,PD (My.aZ X N scope cl C s H fp) [] elt f) (hs:∀x,zba iter X.env x=pure x:=by intro _;rfl) :
  PF X O (.ListComp elt [⟨tg,iter,ifs,0⟩] scope pos) (dS ms it g c f):=PE.mono (My.EU z J hi B M G hs) (tQ q F)
def aE(n:Nat)(ds:List D):cY:=ds.map some++zcn (n-ds.length) none
def bF(n:Nat)(f:Sv)(ds:List D):Option D:=(f (aE n ds)).bind λo=>match o with
 | .rt d=>some d
 | .nx _=>some .non
 | _=>none
theorem ST.begun(q:Live A H)(r:RepL A H ds vs):ST H A A [] [] (L2.start N vs) H (aE N.length ds) where
 ex:=Ext.refl _ _
 sub:=λ_ h=>h
 l0:=q
 live:=q
 len:=by unfold L2.start aE;simp[r.length]
 val:=λi d h _=>by
  unfold aE at h;by_cases hi:i<ds.length
  ·rw[zdY (by simpa using hi),zaB]at h
   obtain⟨d',F,G⟩:=map_some h;cases G;obtain⟨v,z,r3⟩:=r.get' F;refine⟨v,?_,r3⟩;unfold L2.start;rw[zdY (by rw[zam,r.length];exact hi),zaB,z];rfl
  ·rw[zdj (by simpa using hi),List.getElem?_replicate]at h
   split at h <;> cases h
 own:=λi d _ h=>nomatch h
 inj:=λi j d d' a hi=>nomatch hi
 ext:=λp B=>nomatch B
theorem A4{P:zah}{w:World}{K:zae}{mg:Str->Option Value}{base:Heap}{x:Str}{st:Stmt}{N ps:List Str}{k:Nat}{f:Sv}{O':List Nat}(Df:My.DefAt K mg x st ps)(S:FnScope N ps (aM st))
  (h:∀(G:Addr) (B:Value) (A:zan) (z:List Env) (s:zab) (H:Hp) (E:XK),Room k (A.deeper (zaM x (aM st) s.heap.objs.size G B))->∃g,d9 (i8 u3 P w K mg base N x (aM st) G B A z s H E).nox ⟨[],[]⟩ [] (bQ st) g O'/\g=f) :
  Fn P w K mg base x (k+1) ps (bF N.length f):=by
 refine My.BodyOk.ok (λG B A z s H vs Q E hr hsp=>?_) Df S (λvs H Q E hsp=>by obtain⟨A,ds,d,_,_,e,_⟩:=hsp;exact e);obtain⟨J,ds,d,lv,r,e,Y,q⟩:=hsp;obtain⟨o,eo,F⟩:=bind_some Y;obtain⟨g,W,rfl⟩:=h G B A z s H E hr;refine⟨_,W,H,J,J,[],_,o,ST.begun lv r,eo,?_⟩;cases o with
 | nx ρ=>cases F;exact λA2 U H2 s2=>q .non H2 s2.ex .non
 | rt d'=>cases F;exact λv H2 M r2=>q v H2 M r2
 | bk _=>cases F
 | ct _=>cases F
noncomputable def MU(K:zae):Bool:=K.all λp=>match p.2.cls with
 | .type "list" => false
 | _=>true
theorem IM{K:zae}(h:MU K=true){a:Addr}{o:Obj}(e:K.lookup a=some o):o.cls≠.type "list" := λz=>by
 have m:∀ {K:zae},K.lookup a=some o->(a,o)∈K:=by
  intro K;induction K with
  | nil=>intro e;cases e
  | cons p r ih=>
   intro e;rw[zbX]at e;by_cases q:(a == p.1)=true
   ·rw[q]at e;cases e;rw[show a=p.1 by simpa using q];exact zat ..
   ·rw[zdF]at q;rw[q]at e;exact zap _ (ih e)
 have:=List.all_eq_true.mp h _ (m e);dsimp only at this;rw[z]at this;exact absurd this (by decide)
theorem VN{P:zah}{w:World}{K:zae}{mg:Str->Option Value}{base:Heap}{st:Stmt}{N:List Str}{k:Nat}{f:Sv}{O':List Nat}(hK:MU K=true)
  (h:∀(M:Addr) (F:Value) (A:zan) (B:List Env) (s:zab) (H:Hp) (E:XK),Room k (A.deeper (zaM "law" (aM st) s.heap.objs.size M F))->∃g,d9 (i8 u3 P w K mg base N "law" (aM st) M F A B s H E).nox ⟨[],[]⟩ [] (bQ st) g O'/\g=f)
  (hv:∀ns:List Int,ns.length<=63->bF N.length f [.lst (ns.map .int)]=some (.bl true)):My.BodyOk P w K mg base "law" st N k (My.A8 K):=by
 refine λM F A B s H vs Q E hr hsp=>?_
 obtain⟨a,ns,rfl,U,Y,q⟩:=hsp;have hR:Rd H a (.lst (ns.map V.int)):=by
  rcases U with U|⟨o,_,_,e,c,_⟩
  ·exact U
  ·exact absurd c (IM hK e)
 have lv:Live (λ_=>False) H:=λa h=>h.elim
 have G:∀ns:List Int,RepL (λ_=>False) H (ns.map .int) (ns.map V.int):=λns=>by
  induction ns with
  | nil=>exact .nil
  | cons n ns ih=>exact .cons (.int n) ih
 obtain⟨o,eo,J⟩:=bind_some (hv ns Y);obtain⟨g,W,rfl⟩:=h M F A B s H E hr;refine⟨_,W,H,λ_=>False,λ_=>False,[],_,o,ST.begun lv (.cons (.lst (λz=>z) hR (G ns)) .nil),eo,?_⟩;cases o with
 | nx ρ=>cases J
 | rt d'=>cases J;exact λv H2 x2 r2=>by cases r2;exact q _
 | bk _=>cases J
 | ct _=>cases J
end
mutual
def iH:D->Option My.Dx
 | .non=>some .non
 | .bl b=>some (.bl b)
 | .int i=>some (.int i)
 | .str x=>some (.str x)
 | .tup l=>(i9 l).map .tup
 | .lst l=>(i9 l).map .lst
 | .dK _=>none
 | .dT _=>none
 | .ob _ _=>none
 | .mem _ _=>none
def i9:List D->Option (List My.Dx)
 | []=>some []
 | d::ds=>(iH d).bind λx=>(i9 ds).bind λxs=>some (x::xs)
end
mutual
theorem nG:∀ {d e:D} {x:My.Dx},iH d=some x->iH e=some x->d=e
 | .non,e,x,h,k=>by cases h;cases e <;> simp[iH]at k <;> first|rfl|(obtain⟨_,_,z⟩:=k;cases z)
 | .bl b,e,x,h,k=>by cases h;cases e <;> simp[iH]at k <;> first|(rw[k])|(obtain⟨_,_,z⟩:=k;cases z)
 | .int b,e,x,h,k=>by cases h;cases e <;> simp[iH]at k <;> first|(rw[k])|(obtain⟨_,_,z⟩:=k;cases z)
 | .str b,e,x,h,k=>by cases h;cases e <;> simp[iH]at k <;> first|(rw[k])|(obtain⟨_,_,z⟩:=k;cases z)
 | .tup l,e,x,h,k=>by
  rw[iH]at h;obtain⟨xs,h1,rfl⟩:=map_some h;cases e with
  | tup m=>
   rw[iH]at k;obtain⟨ys,k1,k2⟩:=map_some k;cases k2;rw[sZ h1 k1]
  | lst m=>rw[iH]at k;obtain⟨ys,k1,k2⟩:=map_some k;cases k2
  | _=>simp[iH]at k
 | .lst l,e,x,h,k=>by
  rw[iH]at h;obtain⟨xs,h1,rfl⟩:=map_some h;cases e with
  | lst m=>
   rw[iH]at k;obtain⟨ys,k1,k2⟩:=map_some k;cases k2;rw[sZ h1 k1]
  | tup m=>rw[iH]at k;obtain⟨ys,k1,k2⟩:=map_some k;cases k2
  | _=>simp[iH]at k
 | .dK _,e,x,h,k=>by rw[iH]at h;cases h
 | .dT _,e,x,h,k=>by rw[iH]at h;cases h
 | .ob _ _,e,x,h,k=>by rw[iH]at h;cases h
 | .mem _ _,e,x,h,k=>by rw[iH]at h;cases h
theorem sZ:∀ {d e:List D} {x:List My.Dx},i9 d=some x->i9 e=some x->d=e
 | [],e,x,h,k=>by
  rw[i9]at h;cases h;cases e with
  | nil=>rfl
  | cons e es=>
   rw[i9]at k;obtain⟨_,_,k⟩:=bind_some k;obtain⟨_,_,k⟩:=bind_some k;cases k
 | d::ds,e,x,h,k=>by
  rw[i9]at h;obtain⟨y,h1,h⟩:=bind_some h;obtain⟨ys,h2,h⟩:=bind_some h;cases h;cases e with
  | nil=>rw[i9]at k;cases k
  | cons e es=>
   rw[i9]at k;obtain⟨z,k1,k⟩:=bind_some k;obtain⟨zs,k2,k⟩:=bind_some k;cases k;rw[nG h1 k1,sZ h2 k2]
end
mutual
theorem qY{K:zae}{A:Av}{H:Hp}:∀ {d:D} {x:My.Dx} {v:V},iH d=some x->Rep A H d v->My.Rep K H x v
 | .non,x,v,h,r=>by cases h;cases r;rw[My.Rep]
 | .bl b,x,v,h,r=>by cases h;cases r;rw[My.Rep]
 | .int b,x,v,h,r=>by cases h;cases r;rw[My.Rep]
 | .str b,x,v,h,r=>by cases h;cases r;rw[My.Rep]
 | .tup l,x,v,h,r=>by
  rw[iH]at h;obtain⟨xs,h1,rfl⟩:=map_some h;cases r with
  | tup hh rl=>rw[My.Rep];exact⟨_,_,rfl,.inl (.inl hh),mZ h1 rl⟩
 | .lst l,x,v,h,r=>by
  rw[iH]at h;obtain⟨xs,h1,rfl⟩:=map_some h;cases r with
  | lst n hh rl=>rw[My.Rep];exact⟨_,_,rfl,.inl hh,mZ h1 rl⟩
 | .dK _,x,v,h,r=>by rw[iH]at h;cases h
 | .dT _,x,v,h,r=>by rw[iH]at h;cases h
theorem mZ{K:zae}{A:Av}{H:Hp}:∀ {d:List D} {x:List My.Dx} {v:List V},i9 d=some x->RepL A H d v->My.RepL K H x v
 | [],x,v,h,r=>by rw[i9]at h;cases h;cases r;rw[My.RepL]
 | d::ds,x,v,h,r=>by
  rw[i9]at h;obtain⟨y,h1,h⟩:=bind_some h;obtain⟨ys,h2,h⟩:=bind_some h;cases h;cases r with
  | cons r rs=>rw[My.RepL];exact⟨_,_,rfl,qY h1 r,mZ h2 rs⟩
end
theorem iD{K:zae}{A:Av}{H:Hp}{d:D}{x:My.Dx}{v:V}(h:iH d=some x)(r:RepB A H d v):My.Rep K H x v:=by
 cases r with
 | of r=>exact qY h r
 | lst hh rl=>
  rw[iH]at h;obtain⟨xs,h1,rfl⟩:=map_some h;rw[My.Rep];exact⟨_,_,rfl,.inl hh,mZ h1 rl⟩
 | dK=>rw[iH]at h;cases h
 | dT=>rw[iH]at h;cases h
def fF(d:D):Bool:=match iH d with
 | some x=>x.nb && decide (x.dep<=60)
 | none=>false
noncomputable def W2:D->Bool
 | .tup _=>true | .lst _=>true|_=>false
noncomputable def SY:D->D->Bool
 | .non,.non=>true | .non,.int _=>true | .int _,.non=>true | .non,.bl _=>true | .bl _,.non=>true | .non,.str _=>true | .str _,.non=>true
 | .int _,.int _=>true | .bl _,.bl _=>true | .str _,.str _=>true
 | .int _,.str _=>true | .str _,.int _=>true | .bl _,.str _=>true | .str _,.bl _=>true
 | _,_=>false
open Classical in
def GF(d e:D):Option Bool:=if SY d e=true\/(W2 d=true/\W2 e=true/\fF d=true/\fF e=true)then some (decide (d=e))else none
def qJ(d e:D):Option D:=(GF d e).map .bl
def uX(d e:D):Option D:=(GF d e).map λb=>.bl (!b)
theorem MF(h:SY d e=true)(r:RepB A H d v)(s:RepB A H e w):WS v w=true/\(v=w↔d=e):=by
 cases d with
 | non=>have:=r.non_inv;subst this;cases e <;> first|(cases h;done)|(have:=s.non_inv;subst this;exact⟨rfl,by simp⟩)|(have:=s.int_inv;subst this;exact⟨rfl,by simp⟩)|(have:=s.bl_inv;subst this;exact⟨rfl,by simp⟩)|(have:=s.str_inv;subst this;exact⟨rfl,by simp⟩)
 | int i=>have:=r.int_inv;subst this;cases e <;> first|(cases h;done)|(have:=s.non_inv;subst this;exact⟨rfl,by simp⟩)|(have:=s.int_inv;subst this;exact⟨rfl,by simp⟩)|(have:=s.bl_inv;subst this;exact⟨rfl,by simp⟩)|(have:=s.str_inv;subst this;exact⟨rfl,by simp⟩)
 | bl b=>have:=r.bl_inv;subst this;cases e <;> first|(cases h;done)|(have:=s.non_inv;subst this;exact⟨rfl,by simp⟩)|(have:=s.int_inv;subst this;exact⟨rfl,by simp⟩)|(have:=s.bl_inv;subst this;exact⟨rfl,by simp⟩)|(have:=s.str_inv;subst this;exact⟨rfl,by simp⟩)
 | str x=>have:=r.str_inv;subst this;cases e <;> first|(cases h;done)|(have:=s.non_inv;subst this;exact⟨rfl,by simp⟩)|(have:=s.int_inv;subst this;exact⟨rfl,by simp⟩)|(have:=s.bl_inv;subst this;exact⟨rfl,by simp⟩)|(have:=s.str_inv;subst this;exact⟨rfl,by simp⟩)
 | _=>cases h
section
variable {X:Cx}{O:List Nat}
theorem OpR.orM(h:OpR X f r)(h':OpR X f r')(x:∀a b H Q,r2 a b H Q->r a b H Q\/r' a b H Q):OpR X f r2:=OpR.mono (OpR.or h h') x
theorem j7(h:fF d=true):∃x,iH d=some x/\x.nb=true/\x.dep<=60:=by
 unfold fF at h;cases e:iH d with
 | none=>rw[e]at h;cases h
 | some x=>rw[e]at h;simp only[zaP,decide_eq_true_eq]at h;exact⟨x,rfl,h.1,h.2⟩
theorem F4(h:W2 d=true)(e:iH d=some x):x.seq=true:=by
 cases d with
 | tup l=>rw[iH]at e;obtain⟨xs,_,rfl⟩:=map_some e;rfl
 | lst l=>rw[iH]at e;obtain⟨xs,_,rfl⟩:=map_some e;rfl
 | _=>cases h
theorem YX(hu:X.A.units+64<cLine):lA X (zay .Eq) qJ:=OpR.orM X7 (My.VO hu) <| by
 rintro x y H Q ⟨A,dx,W,d,lv,U,N,e,q⟩;obtain⟨b,G,rfl⟩:=map_some e;unfold GF at G;split at G
 case isFalse=>cases G
 rename_i hc;cases G;rcases hc with hs|⟨s1,s2,k1,k2⟩
 ·left
  obtain⟨h1,h2⟩:=MF hs U N;refine⟨h1,?_⟩;have:decide (x=y)=@decide (dx=W) (zcc _):=decide_eq_decide.mpr h2;rw[this];exact q _ H (Ext.refl _ _) (.bl _)
 ·right
  obtain⟨J,F,Y,a3⟩:=j7 k1;obtain⟨M,B,b2,b3⟩:=j7 k2;refine⟨J,M,iD F U,iD B N,F4 s1 F,F4 s2 B,Y,b2,a3,?_⟩;have:@decide (J=M) (zcc _)=@decide (dx=W) (zcc _):=decide_eq_decide.mpr ⟨λz=>nG F (z ▸ B),λz=>by subst z;rw[F]at B;exact zaF B⟩;show Q (.bl (@decide (J=M) (zcc _))) H;rw[this];exact q _ H (Ext.refl _ _) (.bl _)
theorem YL(hu:X.A.units+64<cLine):lA X (zay .NotEq) uX:=OpR.orM XS (My.TQ hu) <| by
 rintro x y H Q ⟨A,dx,W,d,lv,U,N,e,q⟩;obtain⟨b,G,rfl⟩:=map_some e;unfold GF at G;split at G
 case isFalse=>cases G
 rename_i hc;cases G;rcases hc with hs|⟨s1,s2,k1,k2⟩
 ·left
  obtain⟨h1,h2⟩:=MF hs U N;refine⟨h1,?_⟩;have:decide (x=y)=@decide (dx=W) (zcc _):=decide_eq_decide.mpr h2;rw[this];exact q _ H (Ext.refl _ _) (.bl _)
 ·right
  obtain⟨J,F,Y,a3⟩:=j7 k1;obtain⟨M,B,b2,b3⟩:=j7 k2;refine⟨J,M,iD F U,iD B N,F4 s1 F,F4 s2 B,Y,b2,a3,?_⟩;have:@decide (J=M) (zcc _)=@decide (dx=W) (zcc _):=decide_eq_decide.mpr ⟨λz=>nG F (z ▸ B),λz=>by subst z;rw[F]at B;exact zaF B⟩;show Q (.bl (!@decide (J=M) (zcc _))) H;rw[this];exact q _ H (Ext.refl _ _) (.bl _)
noncomputable def gW:D->Bool
 | .non=>true|_=>false
def WZ(d e:D):Option D:=if gW e then some (.bl (gW d))else none
def FZ(d e:D):Option D:=if gW e then some (.bl (!gW d))else none
theorem EH(r:RepB A H d v):decide (v=.non)=gW d:=by
 cases d with
 | non=>have:=r.non_inv;subst this;rfl
 | bl b=>have:=r.bl_inv;subst this;rfl
 | int b=>have:=r.int_inv;subst this;rfl
 | str b=>have:=r.str_inv;subst this;rfl
 | tup l=>obtain⟨_,_,rfl,_⟩:=r.tup_inv;rfl
 | lst l=>obtain⟨_,_,rfl,_⟩:=r.lst_inv;rfl
 | dK l=>obtain⟨_,_,rfl,_⟩:=r.dK_inv;rfl
 | dT l=>obtain⟨_,_,rfl,_⟩:=r.dT_inv;rfl
 | ob C l=>obtain⟨_,_,_,rfl,_⟩:=r.ob_inv;rfl
 | mem d f=>obtain⟨_,rfl,_⟩:=r.mem_inv;rfl
theorem T7:lA X (zay .Is) WZ:=OpR.mono U7 <| by
 rintro x y H Q ⟨A,dx,F,d,G,B,z,e,q⟩;unfold WZ at e;cases F with
 | non=>cases e;have:=z.non_inv;subst this;exact⟨rfl,by rw[EH B];exact q _ H (Ext.refl _ _) (.bl _)⟩
 | _=>cases e
theorem QE:lA X (zay .IsNot) FZ:=OpR.mono O4 <| by
 rintro x y H Q ⟨A,dx,F,d,G,B,z,e,q⟩;unfold FZ at e;cases F with
 | non=>cases e;have:=z.non_inv;subst this;exact⟨rfl,by rw[EH B];exact q _ H (Ext.refl _ _) (.bl _)⟩
 | _=>cases e
theorem Inv.lstR(I:Inv X pins σ H s)(B:Rd H l (.lst xs)):xs.length<=zai/\∃(q:List Value) (n:Nat),Vals xs q/\xs.length=q.length/\s.heap.get? l=some {cls:=.type "list",data:=.seq q.toArray n}:=by
 obtain⟨z,q,n,r,e⟩:=(show ObjOk X.prog X.w H s.heap l (.lst xs)from B.ok I.hok);exact⟨z,q,n,r,r.length,e⟩
def XW:R2:=λx y H Q=>∃l b xs zs,x=.ref l/\y=.ref b/\Rd H l (.lst xs)/\Rd H b (.lst zs)/\xs.length+zs.length<=zai/\∀p,H p=none->Q (.ref p) (upd H p (.lst (xs++zs)))
theorem Q8:OpR X (zaL .Add) XW:=by
 intro pins s σ H x y v u Q I Y G h;obtain⟨l,b,xs,zs,rfl,rfl,M,J,hz,q⟩:=h;cases Y;cases G;obtain⟨z,F,n,r,hl,e⟩:=Inv.lstR I M;obtain⟨z2,B,n2,r2,W,N⟩:=Inv.lstR I J;refine PySem.P.add_list e N ?_ (by rw[zax,zax];lia);have U:F.toArray++B.toArray=(F++B).toArray:=by simp
 rw[U];exact⟨.ref _,_,I.lnew (t':=s.toks) (r.append r2) (by rw[zbb];lia),rfl,q _ I.fresh⟩
end
section
variable {X:Cx}{O:List Nat}
theorem RepL.nil_iff(r:RepL A H ds vs):vs=[]↔ds=[]:=by cases r <;> simp
def v6:D->D->Option D
 | .int i,.int j=>some (.int (i+j))
 | .str i,.str j=>if aU (i.length+j.length)then some (.str (i++j))else none
 | .lst l,.lst m=>if aU (l.length+m.length)then some (.lst (l++m))else none
 | .tup (a::l),.tup m=>if aU (l.length+1+m.length)then some (.tup (a::l++m))else none
 | _,_=>none
theorem U1:lA X (zaL .Add) v6:=OpR.mono (OpR.or (OpR.or UQ BY) (OpR.or Q8 QK)) <| by
 rintro x y H Q ⟨A,dx,G,d,N,M,J,e,q⟩;cases dx with
 | int i=>
  cases G with
  | int j=>cases e;have:=M.int_inv;subst this;have:=J.int_inv;subst this;exact .inl (.inl ⟨i,j,rfl,rfl,q _ H (Ext.refl _ _) (.int _)⟩)
  | _=>cases e
 | str i=>
  cases G with
  | str j=>
   simp only[v6]at e;by_cases B:aU (i.length+j.length)=true
   ·rw[if_pos B]at e;cases e;have:=M.str_inv;subst this;have:=J.str_inv;subst this
    exact .inl (.inr ⟨i,j,rfl,rfl,f6 B,q _ H (Ext.refl _ _) (.str _)⟩)
   ·rw[if_neg B]at e;cases e
  | _=>cases e
 | lst l=>
  cases G with
  | lst m=>
   simp only[v6]at e;by_cases B:aU (l.length+m.length)=true
   ·rw[if_pos B]at e;cases e
    obtain⟨a,xs,rfl,h1,r1⟩:=M.lst_inv;obtain⟨b,ys,rfl,h2,r2⟩:=J.lst_inv;exact .inr (.inl ⟨a,b,xs,ys,rfl,rfl,h1,h2,by rw[r1.length,r2.length];exact f6 B,λp F=>q _ _ (Ext.new F) (.lst (λz=>N p z F) (.inl aI) ((r1.append r2).ext (Ext.new F)))⟩)
   ·rw[if_neg B]at e;cases e
  | _=>cases e
 | tup l=>
  cases l with
  | nil=>cases G <;> cases e
  | cons a0 l=>
   cases G with
   | tup m=>
    simp only[v6]at e;by_cases B:aU (l.length+1+m.length)=true
    ·rw[if_pos B]at e;cases e
     obtain⟨a,xs,rfl,h1,r1⟩:=M.tup_inv;obtain⟨b,ys,rfl,h2,r2⟩:=J.tup_inv;refine .inr (.inr ⟨a,b,xs,ys,rfl,rfl,.inl (.inl h1),.inl (.inl h2),λz=>(by have:=r1.nil_iff.mp z;cases this),by rw[r1.length,r2.length];exact f6 B,λz=>?_,λ_ p F=>q _ _ (Ext.new F) (.tup aI ((r1.append r2).ext (Ext.new F)))⟩);refine q _ H (Ext.refl _ _) (.tup h1 ?_);have:=r2.nil_iff.mp z;subst this;rw[zbs];exact r1
    ·rw[if_neg B]at e;cases e
   | _=>cases e
 | _=>cases e
noncomputable def iZ:List D->Option (List Int)
 | []=>some []
 | .int i::ds=>(iZ ds).map (i::·)
 | _=>none
theorem gC:∀ {ds:List D} {ns:List Int} {vs:List V},iZ ds=some ns->RepL A H ds vs->vs=ns.map V.int
 | [],ns,vs,h,r=>by cases h;cases r;rfl
 | .int i::ds,ns,vs,h,r=>by
  obtain⟨ms,h1,rfl⟩:=map_some h;cases r with
  | cons r rs=>cases r;rw[gC h1 rs];rfl
def qe:D->D->Option D
 | .int i,.int j=>some (.bl (decide (i<j)))
 | .tup l,.tup m=>(iZ l).bind λns=>(iZ m).map λms=>.bl (HT.lexLt ns ms)
 | _,_=>none
theorem UG(M:X.A.units<cLine):lA X (zay .Lt) qe:=OpR.mono (OpR.or YG (VW M)) <| by
 rintro x y H Q ⟨A,dx,F,d,N,B,z,e,q⟩;cases dx with
 | int i=>
  cases F with
  | int j=>cases e;have:=B.int_inv;subst this;have:=z.int_inv;subst this;exact .inl ⟨i,j,rfl,rfl,q _ H (Ext.refl _ _) (.bl _)⟩
  | _=>cases e
 | tup l=>
  cases F with
  | tup m=>
   obtain⟨ns,G,e⟩:=bind_some e;obtain⟨ms,J,rfl⟩:=map_some e;obtain⟨a,xs,rfl,h1,r1⟩:=B.tup_inv;obtain⟨b,ys,rfl,h2,r2⟩:=z.tup_inv;have:=gC G r1;subst this;have:=gC J r2;subst this;exact .inr ⟨a,b,ns,ms,rfl,rfl,.inl (.inl h1),.inl (.inl h2),q _ H (Ext.refl _ _) (.bl _)⟩
  | _=>cases e
 | _=>cases e
open Classical in
def RQ(x y:D):Option Bool:=match y with
 | .dK _=>(nQ y x).map (·.isSome)
 | .dT _=>(nQ y x).map (·.isSome)
 | .lst l=>if fF x=true/\l.all fF=true then some (l.any λd=>decide (d=x))else none
 | .tup l=>if fF x=true/\l.all fF=true then some (l.any λd=>decide (d=x))else none
 | _=>none
def xT(x y:D):Option D:=(RQ x y).map λb=>.bl (!b)
open Classical in
theorem AO(I:Inv X pins σ H s)(hu:Ar.units+60<cLine)(kx:fF x=true)(rx:RepB A H x v)(ru:RelV v u)(kl:l.all fF=true)(rl:RepL A H l xs)(Y:Vals xs B) :
  ∃f:Value->Bool,(∀y∈B,zcR Ar s y u (f y))/\B.any f=l.any λd=>decide (d=x):=by
 obtain⟨F,G,a2,a3⟩:=j7 kx;have M:My.Rep X.K H F v:=iD G rx;let g:Value->Bool:=λy=>decide (∃w z,RelV w y/\My.Rep X.K H z w/\z=F)
 have one:∀ {d:D} {w:V} {y:Value},fF d=true->Rep A H d w->RelV w y->g y=decide (d=x)/\zcR Ar s y u (g y):=by
  intro d w y kd rd U;obtain⟨z,J,b2,b3⟩:=j7 kd;have N:My.Rep X.K H z w:=qY J rd;have e:g y=decide (z=F):=by
   refine decide_eq_decide.mpr ⟨λ⟨w',z',q1,q2,q3⟩=>?_,λe=>⟨w,z,U,N,e⟩⟩;have:=RelV.inj U q1;subst this;rw[My.Rep.inj I _ _ _ N q2,q3]
  have W:decide (z=F)=decide (d=x):=decide_eq_decide.mpr ⟨λq=>nG J (q ▸ G),λq=>by subst q;rw[J]at G;exact zaF G⟩;refine⟨e.trans W,?_⟩;rw[e];exact My.qX I 60 Ar z F w v y u b3 hu b2 a2 N M U ru
 refine⟨g,?_,?_⟩
 ·intro y hy
  obtain⟨j,hj⟩:=List.mem_iff_getElem?.mp hy;have ab:=Y.length;have am:j<B.length:=(List.getElem?_eq_some_iff.mp hj).1;have hx:xs[j]?=some (xs[j]'(by lia)):=zaR (by lia);obtain⟨u',e1,r1⟩:=Y.get hx;rw[hj]at e1;cases e1;obtain⟨d,W,r2⟩:=rl.get hx;exact(one (List.all_eq_true.mp kl _ (zav W)) r2 r1).2
 ·have all:∀(l:List D) (xs:List V) (B:List Value),l.all fF=true->RepL A H l xs->Vals xs B->B.any g=l.any λd=>decide (d=x):=by
   intro l;induction l with
   | nil=>intro xs B _ r v;cases r;cases v;rfl
   | cons d l ih=>
    intro xs B k r v;cases r with
    | cons h t=>
     cases v with
     | cons r rs=>
      rw[List.all_cons,zaP]at k;rw[zb9,zb9,(one k.1 h r).1,ih _ _ k.2 t rs]
  exact all l xs B kl rl Y
open Classical in
theorem QI(I:Inv X pins σ H s)(hu:Ar.units+60<cLine)(kx:fF x=true)(rx:RepB A H x v)(ru:RelV v u)(kl:l.all fF=true)(rl:RepL A H l xs)(rv:Vals xs its) :
  ∃f:Value->Bool,(∀y∈its,zcR Ar s y u (f y))/\∀(j:Nat) (d:D) (y:Value),l[j]?=some d->its[j]?=some y->f y=decide (d=x):=by
 obtain⟨F,G,a2,a3⟩:=j7 kx;have U:My.Rep X.K H F v:=iD G rx;let g:Value->Bool:=λy=>decide (∃w z,RelV w y/\My.Rep X.K H z w/\z=F)
 have one:∀ {d:D} {w:V} {y:Value},fF d=true->Rep A H d w->RelV w y->g y=decide (d=x)/\zcR Ar s y u (g y):=by
  intro d w y kd rd Y;obtain⟨z,N,b2,b3⟩:=j7 kd;have W:My.Rep X.K H z w:=qY N rd;have e:g y=decide (z=F):=by
   refine decide_eq_decide.mpr ⟨λ⟨w',z',q1,q2,q3⟩=>?_,λe=>⟨w,z,Y,W,e⟩⟩;have:=RelV.inj Y q1;subst this;rw[My.Rep.inj I _ _ _ W q2,q3]
  have B:decide (z=F)=decide (d=x):=decide_eq_decide.mpr ⟨λq=>nG N (q ▸ G),λq=>by subst q;rw[N]at G;exact zaF G⟩;refine⟨e.trans B,?_⟩;rw[e];exact My.qX I 60 Ar z F w v y u b3 hu b2 a2 W U Y ru
 refine⟨g,?_,?_⟩
 ·intro y M
  obtain⟨j,hj⟩:=List.mem_iff_getElem?.mp M;have ac:=rv.length;have am:j<its.length:=(List.getElem?_eq_some_iff.mp hj).1;have hx:xs[j]?=some (xs[j]'(by lia)):=zaR (by lia);obtain⟨u',J,r1⟩:=rv.get hx;rw[hj]at J;cases J;obtain⟨d,B,r2⟩:=rl.get hx;exact(one (List.all_eq_true.mp kl _ (zav B)) r2 r1).2
 ·intro j d y hd M
  obtain⟨w,J,r1⟩:=rl.get' hd;obtain⟨u',B,r2⟩:=rv.get J;rw[M]at B;cases B;exact(one (List.all_eq_true.mp kl _ (zav hd)) r1 r2).1
theorem JZ(hu:X.A.units+64<cLine):lA X (zay .NotIn) xT:=by
 intro pins s σ H x y v u Q I Y N h;obtain⟨A,dx,dy,d,lv,W,J,e,q⟩:=h;obtain⟨b,z,rfl⟩:=map_some e;have fin:∀k,k=(!b)->EP X pins σ Q (.bool k) s:=λk hk=>⟨.bl (!b),H,I,by rw[hk];rfl,q _ H (Ext.refl _ _) (.bl _)⟩
 have G:X.A.units+1<cLine:=by lia
 have dict:∀o,nQ dy dx=some o->o.isSome=b->wpAny (model X.prog X.w) X.A (zay .NotIn v u) (EP X pins σ Q) X.xe s:=λo F B=>by
  obtain⟨a,ov,rfl,_,g,e3⟩:=tN F J W;cases N;refine OY G I g Y λs' I'=>⟨.bl (!b),H,I',?_,q _ H (Ext.refl _ _) (.bl _)⟩
  have:ov.isSome=b:=by rw[<- B];rcases e3 with⟨rfl,rfl⟩|⟨_,_,rfl,rfl,_⟩ <;> rfl
  rw[this];rfl
 cases dy with
 | dK l=>obtain⟨o,F,B⟩:=map_some z;exact dict o F B
 | dT l=>obtain⟨o,F,B⟩:=map_some z;exact dict o F B
 | lst l=>
  simp only[RQ]at z;split at z
  case isFalse=>cases z
  rename_i hc;cases z;obtain⟨a,xs,rfl,h1,r1⟩:=J.lst_inv;cases N;obtain⟨M,r,U,hz⟩:=I.list (.inl h1);obtain⟨f,f1,f2⟩:=AO (Ar:=X.A.in1) I (by show X.A.units+1+60<cLine;lia) hc.1 W Y hc.2 r1 r;refine SeqAt.notIn_listAt f (My.PlainL.isList U) (λw hw=>f1 w (by simpa using hw)) (fin _ ?_);rw[<- f2];simp
 | tup l=>
  simp only[RQ]at z;split at z
  case isFalse=>cases z
  rename_i hc;cases z;obtain⟨a,xs,rfl,h1,r1⟩:=J.tup_inv;cases N;obtain⟨M,r,U,hz⟩:=I.tuple (.inl (.inl h1));obtain⟨f,f1,f2⟩:=AO (Ar:=X.A.in1) I (by show X.A.units+1+60<cLine;lia) hc.1 W Y hc.2 r1 r;refine SeqAt.notIn_tupleAt f U (λw hw=>f1 w (by simpa using hw)) (fin _ ?_);rw[<- f2];simp
 | _=>cases z
def gM:List D->Option D
 | [.lst l]=>some (.int l.length)
 | [.tup l]=>some (.int l.length)
 | [.str z]=>if aU z.length then some (.int z.length)else none
 | [.dK l]=>some (.int l.length)
 | _=>none
theorem VL:kJ X (.builtin "len") gM:=by
 intro pins s σ H xs G Q I r h;obtain⟨A,ds,d,W,B,e,q⟩:=h
 match ds,B,e with
 | [.lst l],B,e=>
  cases e;obtain⟨v,rfl,h1⟩:=B.one;obtain⟨a,xs,rfl,h2,r2⟩:=h1.lst_inv;exact tP pins s σ H _ G Q I r ⟨_,_,rfl,.inl ⟨xs,.inl h2,rfl⟩,by rw[r2.length];exact q _ H (Ext.refl _ _) (.int _)⟩
 | [.tup l],B,e=>
  cases e;obtain⟨v,rfl,h1⟩:=B.one;obtain⟨a,xs,rfl,h2,r2⟩:=h1.tup_inv;exact tP pins s σ H _ G Q I r ⟨_,_,rfl,.inr ⟨xs,.inl (.inl h2),rfl⟩,by rw[r2.length];exact q _ H (Ext.refl _ _) (.int _)⟩
 | [.str z],B,e=>
  simp only[gM]at e;by_cases F:aU z.length=true
  ·rw[if_pos F]at e;cases e
   obtain⟨v,rfl,h1⟩:=B.one;have:=h1.str_inv;subst this;exact tP pins s σ H _ G Q I r ⟨_,_,rfl,⟨f6 F,rfl⟩,q _ H (Ext.refl _ _) (.int _)⟩
  ·rw[if_neg F]at e;cases e
 | [.dK l],B,e=>
  cases e;obtain⟨v,rfl,h1⟩:=B.one;obtain⟨a,xs,rfl,h2,N,r2⟩:=h1.dK_inv;obtain⟨u,rfl,M⟩:=vals1 r;cases M;have J:xs.length=l.length:=by have:=congrArg zbu N;simpa using this
  exact YF I h2 λt s' U=>⟨.int xs.length,H,U,⟨t,rfl⟩,by rw[J];exact q _ H (Ext.refl _ _) (.int _)⟩
 | [],_,e=>cases e
 | [.non],_,e=>cases e
 | [.bl _],_,e=>cases e
 | [.int _],_,e=>cases e
 | [.dT _],_,e=>cases e
 | _::_::_,_,e=>simp[gM]at e
noncomputable def uK:List D->Option D
 | [.int i,.int j]=>some (.int (if j<i then j else i))
 | _=>none
noncomputable def FV:List D->Option D
 | [.int i,.int j]=>some (.int (if j>i then j else i))
 | _=>none
theorem zE{ds:List D}{g:Int->Int->D}(h:(match ds with|[.int i,.int j]=>some (g i j)|_=>none)=some d):∃i j,ds=[.int i,.int j]/\d=g i j:=by
 split at h
 ·cases h;exact⟨_,_,rfl,rfl⟩
 ·cases h
theorem QS(z:X.calm=true):kJ X (.builtin "min") uK:=CallR.mono (HC z) <| by
 rintro xs H Q ⟨A,ds,d,B,r,e,q⟩;obtain⟨i,j,rfl,rfl⟩:=zE (g:=λi j=>.int (if j<i then j else i)) e;obtain⟨v,w,rfl,h1,h2⟩:=r.two;have:=h1.int_inv;subst this;have:=h2.int_inv;subst this;exact⟨i,j,rfl,q _ H (Ext.refl _ _) (.int _)⟩
theorem RM(z:X.calm=true):kJ X (.builtin "max") FV:=CallR.mono (GJ z) <| by
 rintro xs H Q ⟨A,ds,d,B,r,e,q⟩;obtain⟨i,j,rfl,rfl⟩:=zE (g:=λi j=>.int (if j>i then j else i)) e;obtain⟨v,w,rfl,h1,h2⟩:=r.two;have:=h1.int_inv;subst this;have:=h2.int_inv;subst this;exact⟨i,j,rfl,q _ H (Ext.refl _ _) (.int _)⟩
noncomputable def kE:List D->Option D
 | [.lst l]=>some (.tup l)
 | [.tup l]=>some (.tup l)
 | _=>none
noncomputable def GC:List D->Option D
 | [.lst l]=>some (.lst l)
 | [.tup l]=>some (.lst l)
 | _=>none
theorem ED{ds:List D}{g:List D->D}(h:(match ds with|[.lst l]=>some (g l)|[.tup l]=>some (g l)|_=>none)=some d):∃l,(ds=[.lst l]\/ds=[.tup l])/\d=g l:=by
 split at h
 ·cases h;exact⟨_,.inl rfl,rfl⟩
 ·cases h;exact⟨_,.inr rfl,rfl⟩
 ·cases h
theorem jW:kJ X (.type "tuple") kE:=CallR.mono uQ <| by
 rintro xs H Q ⟨A,ds,d,F,r,e,q⟩;obtain⟨l,B,rfl⟩:=ED (g:=.tup) e;rcases B with rfl|rfl
 ·obtain⟨v,rfl,h1⟩:=r.one
  obtain⟨a,xs,rfl,h2,r2⟩:=h1.lst_inv;exact⟨a,xs,rfl,.inl ⟨.inl h2,λp z=>q _ _ (Ext.new z) (.tup aI (r2.ext (Ext.new z)))⟩⟩
 ·obtain⟨v,rfl,h1⟩:=r.one
  obtain⟨a,xs,rfl,h2,r2⟩:=h1.tup_inv;exact⟨a,xs,rfl,.inr ⟨.inl (.inl h2),q _ H (Ext.refl _ _) (.tup h2 r2)⟩⟩
theorem RD:FX X (.type "list") GC:=CallR.mono wJ <| by
 rintro xs H Q ⟨A,ds,d,F,r,e,q⟩;obtain⟨l,G,rfl⟩:=ED (g:=.lst) e;rcases G with rfl|rfl
 ·obtain⟨v,rfl,h1⟩:=r.one
  obtain⟨a,xs,rfl,h2,r2⟩:=h1.lst_inv;exact⟨a,xs,rfl,.inl (.inl h2),λp B=>q p _ (Ext.new B) B (λz=>F p z B) (.lst aI (r2.fresh B))⟩
 ·obtain⟨v,rfl,h1⟩:=r.one
  obtain⟨a,xs,rfl,h2,r2⟩:=h1.tup_inv;exact⟨a,xs,rfl,.inr (.inl (.inl h2)),λp B=>q p _ (Ext.new B) B (λz=>F p z B) (.lst aI (r2.fresh B))⟩
end
section
variable {X:Cx}{O:List Nat}
def tyN:D->String
 | .non => "NoneType" | .bl _ => "bool" | .int _ => "int" | .str _ => "str" | .tup _ => "tuple" | .lst _ => "list" | .dK _ => "dict" | .dT _ => "dict" | .ob _ _ => "" | .mem _ _ => ""
def qH:D->Bool
 | .ob _ _=>false | .mem _ _=>false|_=>true
def qac(K:zae):List V->Hp->VK->Prop:=λxs H Q=>∃A d x n b,xs=[x,.ty n]/\qH d=true/\RepB A H d x/\zdf K (.type (tyN d)) (.type n)=some b/\Q (.bl b) H
theorem JE:CallR X (.builtin "isinstance") (qac X.K):=by
 intro pins s σ H xs J Q I r h;obtain⟨A,d,x,n,b,rfl,G,B,e,q⟩:=h;have F:∀t,TyOf X.K H x t->t=.type (tyN d)->wpAny (model X.prog X.w) X.A (call (.builtin "isinstance") J) (EP X pins σ Q) X.xe s:=λt N M=>by
  subst M;exact My.JY pins s σ H _ J Q I r ⟨x,n,_,b,rfl,N,e,q⟩
 cases d with
 | non=>have:=B.non_inv;subst this;exact F _ .non rfl
 | bl c=>have:=B.bl_inv;subst this;exact F _ (.bl c) rfl
 | int c=>have:=B.int_inv;subst this;exact F _ (.int c) rfl
 | str c=>have:=B.str_inv;subst this;exact F _ (.str c) rfl
 | tup l=>obtain⟨a,xs,rfl,h1,_⟩:=B.tup_inv;exact F _ (.tup h1) rfl
 | lst l=>
  obtain⟨a,xs,rfl,h1,_⟩:=B.lst_inv;rcases h1 with h1|⟨o,h1⟩
  ·exact F _ (.lst h1) rfl
  ·exact F _ (.frz h1) rfl
 | dK l=>
  obtain⟨a,xs,rfl,h1,_⟩:=B.dK_inv;obtain⟨u,U,rfl,r1,r2⟩:=vals2 r;cases r1;cases r2;obtain⟨_,_,vs,_,p⟩:=(show ObjOk X.prog X.w H s.heap a (.dK xs)from h1.ok I.hok);obtain⟨o,es,ep,h1,h2,_⟩:=p;exact zbk zdg I.kIn ⟨o,h1,h2.1⟩ e (λz=>nomatch z) λtk=>⟨.bl b,H,I.tok tk,rfl,q⟩
 | dT l=>
  obtain⟨a,xs,rfl,h1,_⟩:=B.dT_inv;obtain⟨u,U,rfl,r1,r2⟩:=vals2 r;cases r1;cases r2;obtain⟨_,_,xs,_,o,es,ep,h1,h2,_⟩:=(show ObjOk X.prog X.w H s.heap a (.dT xs)from h1.ok I.hok);exact zbk zdg I.kIn ⟨o,h1,h2.1⟩ e (λz=>nomatch z) λtk=>⟨.bl b,H,I.tok tk,rfl,q⟩
 | ob _ _=>cases G
 | mem _ _=>cases G
noncomputable def BA(n:String)(d:D):Bool:=match d with
 | .non=>false
 | .bl _=>n == "bool" || n == "int"
 | .int _=>n == "int"
 | .str _=>n == "str"
 | .tup _=>n == "tuple"
 | .lst _=>n == "list"
 | .dK _=>n == "dict"
 | .dT _=>n == "dict"
 | _=>false
def qq(n:String):Prop:=∀(K:zae) (d:D),qH d=true->zdf K (.type (tyN d)) (.type n)=some (BA n d)
theorem PN:qq "int" := λK d h=>by cases d <;> first|rfl|cases h
theorem K6:qq "bool" := λK d h=>by cases d <;> first|rfl|cases h
theorem kit_tuple:qq "tuple" := λK d h=>by cases d <;> first|rfl|cases h
def NQ(n:String)(f:Ev):Ev:=λρ=>(f ρ).bind λd=>if qH d=true then some (.bl (BA n d))else none
theorem DH(F:qq n)(M:Gl X "isinstance")(U:X.mg "isinstance" = none)(B:Gl X x)(G:X.mg x=none)(Y:zaH x=some (.type n))(W:PB X O e f)(z:x ≠ "__name__" := by decide)(hd:(x == ("__debug__" : Str))=false:=by decide)
  (h1:zag [e,.Name x p2] X.env=(false,eval e X.env)::zag [.Name x p2] X.env:=by rfl) (h2:(zaG pos (zag [.Name x p2] X.env)).any (·.1)=false:=by rfl) (N:zag [.Name x p2] X.env=(false,eval (.Name x p2) X.env)::zag [] X.env:=by rfl) :
  PD X O (.Call (.Name "isinstance" p) [e,.Name x p2] [] pos) (NQ n f):=
 PE.mono (y8 JE M U My.boot_isinstance (cK W (cK (RK (v:=.ty n) B G Y rfl z hd) fD N) h1) (by decide) (by decide) h1 h2) <| by
  rintro σ H Q ⟨H0,A0,A,E,ρ,d,st,e,q⟩;obtain⟨x,ex,e⟩:=bind_some e;by_cases z:qH x=true
  ·rw[if_pos z]at e
   cases e;exact⟨H0,A0,A,E,ρ,x,st,ex,λv H1 J r1=>⟨A,x,v,n,_,rfl,z,r1,F _ _ z,q _ H1 J (.bl _)⟩⟩
  ·rw[if_neg z]at e;cases e
def ins{α:Type}(p:List Int×α):List (List Int×α)->List (List Int×α)
 | []=>[p]
 | q::r=>if HT.lexLt p.1 q.1=true then p::q::r else q::ins p r
def SH(g:D->Option D)(f:Ev):Ev:=λρ=>(f ρ).bind g
end
def yA:D->Option Int->Option Int->Option D
 | .tup l,lo,hi=>some (.tup (cutD l lo hi))
 | .lst l,lo,hi=>some (.lst (cutD l lo hi))
 | _,_,_=>none
theorem qam:SlR X (rS yA):=SlR.mono (SlR.or qan (SlR.mono qab λx lo hi H Q (h:rS ZK x lo hi H Q)=>by
  obtain⟨A,dx,d,z,B,e,q⟩:=h;exact⟨A,dx,d,z,B,e,λa H' x n F o=>q _ H' x ((o.av (A':=A) λb G=>.inl (.inl G)).rep F)⟩)) λx lo hi H Q ⟨A,dx,d,z,B,e,q⟩=>by
 cases dx with
 | tup l=>exact .inl ⟨A,_,d,z,B,e,q⟩
 | lst l=>exact .inr ⟨A,_,d,z,B,e,q⟩
 | _=>cases e
section
variable {ρ:cY}{f g:Ev}{d x y:D}{i j:Int}{k:Nat}
@[simp] theorem q_seq{f g:Sv}:dC f g ρ=(f ρ).bind λo=>match o with | .nx ρ'=>g ρ'|o=>some o:=rfl
@[simp] theorem q_set:dU k f ρ=(f ρ).map λd=>.nx (ρ.set k (some d)):=rfl
@[simp] theorem q_if{c:Bv}{f g:Sv}:BJ c f g ρ=(c ρ).bind λb=>if b=true then f ρ else g ρ:=rfl
@[simp] theorem q_rt:IX f ρ=(f ρ).map .rt:=rfl
@[simp] theorem q_nx:SD ρ=some (.nx ρ):=rfl
@[simp] theorem q_bad:R1 ρ=none:=rfl
@[simp] theorem q_asg{g:Gv}:RZ f g ρ=(f ρ).bind λd=>(g d ρ).map .nx:=rfl
@[simp] theorem q_for{f:Lv}{g:Gv}{b:Sv}:BE f g b ρ=(f ρ).bind λitems=>kL g b items ρ:=rfl
@[simp] theorem q_app:IN k f ρ=(aD k ρ).bind λx=>match x with
 | .lst l=>(f ρ).bind λd=>if aU l.length then some (.nx (ρ.set k (some (.lst (l++[d])))))else none
 | _=>none:=rfl
@[simp] theorem q_put:DR k f g ρ=(g ρ).bind λe=>(aD k ρ).bind λx=>(f ρ).bind λq=>(mB x q e).map λd=>.nx (ρ.set k (some d)):=rfl
@[simp] theorem q_var:aD k ρ=(ρ[k]?).join:=rfl
@[simp] theorem q_c:eC d ρ=some d:=rfl
@[simp] theorem q_op:a7 o f g ρ=(f ρ).bind λx=>(g ρ).bind λy=>o x y:=rfl
@[simp] theorem q_call:aQ F l ρ=(l ρ).bind F:=rfl
@[simp] theorem q_lnil:aW ρ=some []:=rfl
@[simp] theorem q_lcons:aB f l ρ=(f ρ).bind λx=>(l ρ).bind λxs=>some (x::xs):=rfl
@[simp] theorem q_tup:eY l ρ=(l ρ).map .tup:=rfl
@[simp] theorem q_lst:NJ l ρ=(l ρ).map .lst:=rfl
@[simp] theorem q_bind:SH o f ρ=(f ρ).bind o:=rfl
@[simp] theorem q_bof:qC f ρ=(f ρ).bind R8:=rfl
@[simp] theorem q_asB:R8 (.bl b)=some b:=rfl
@[simp] theorem q_asI:W4 (.int i)=some i:=rfl
@[simp] theorem q_bnot:NS c ρ=(c ρ).map (!·):=rfl
@[simp] theorem q_band:IW a b ρ=(a ρ).bind λx=>if x=true then b ρ else some false:=rfl
@[simp] theorem q_bor:TH a b ρ=(a ρ).bind λx=>if x=true then some true else b ρ:=rfl
@[simp] theorem q_and:W1 f g ρ=(f ρ).bind λx=>(R8 x).bind λb=>if b=true then g ρ else some (.bl false):=rfl
@[simp] theorem q_not:Z6 f ρ=(f ρ).bind λx=>(R8 x).map λb=>.bl (!b):=rfl
@[simp] theorem q_neg:WY f ρ=(f ρ).bind λd=>(W4 d).map λi=>.int (-i):=rfl
@[simp] theorem q_ifx:qi c f g ρ=(c ρ).bind λb=>if b=true then f ρ else g ρ:=rfl
@[simp] theorem q_isi:NQ n f ρ=(f ρ).bind λd=>if qH d=true then some (.bl (BA n d))else none:=rfl
@[simp] theorem no_int:qH (.int i)=true:=rfl
@[simp] theorem no_tup{l:List D}:qH (.tup l)=true:=rfl
@[simp] theorem no_lst{l:List D}:qH (.lst l)=true:=rfl
@[simp] theorem no_bl{b:Bool}:qH (.bl b)=true:=rfl
@[simp] theorem no_str{x:Str}:qH (.str x)=true:=rfl
@[simp] theorem no_non:qH .non=true:=rfl
@[simp] theorem q_sl:W9 o f a b ρ=(f ρ).bind λx=>(a ρ).bind λlo=>(b ρ).bind λhi=>o x lo hi:=rfl
@[simp] theorem q_oN:GB ρ=some none:=rfl
@[simp] theorem q_oS:v9 f ρ=(f ρ).bind λd=>(W4 d).map some:=rfl
@[simp] theorem q_lR:lR o l ρ=(l ρ).bind o:=rfl
@[simp] theorem q_lSeq:NL f ρ=(f ρ).bind λd=>match d with
 | .lst l=>some l
 | .tup l=>some l
 | .dT l=>some (l.map λp=>.tup (p.1.map IV))
 | _=>none:=rfl
@[simp] theorem q_comp{ms:List (Option Nat)}{it:Lv}{g:Gv}{c:Bv}:dS ms it g c f ρ=(it ρ).bind λitems=>if aU items.length then(bD g c f items (iG ms ρ)).map .lst else none:=rfl
@[simp] theorem q_yes:fQ ρ=some true:=rfl
@[simp] theorem q_name:aR k d ρ=some (ρ.set k (some d)):=rfl
@[simp] theorem q_gnil:uE [] ρ=some ρ:=rfl
@[simp] theorem q_gcons{g:Gv}{h:TJ}{ds:List D}:d7 g h (d::ds) ρ=(g d ρ).bind λρ'=>h ds ρ':=rfl
@[simp] theorem q_gtup:k7 n h (.tup l) ρ=if l.length=n then h l ρ else none:=rfl
@[simp] theorem q_sub:Z8 (.int i) (.int j)=some (.int (i-j)):=rfl
@[simp] theorem q_addI:v6 (.int i) (.int j)=some (.int (i+j)):=rfl
@[simp] theorem q_ltI:qe (.int i) (.int j)=some (.bl (decide (i<j))):=rfl
@[simp] theorem q_gtI:BD (.int i) (.int j)=some (.bl (decide (j<i))):=rfl
@[simp] theorem q_geI:ZX (.int i) (.int j)=some (.bl (decide (j<=i))):=rfl
@[simp] theorem q_eqI:qJ (.int i) (.int j)=some (.bl (decide (i=j))):=by
 unfold qJ GF;rw[if_pos (.inl rfl)];simp
@[simp] theorem q_neI:uX (.int i) (.int j)=some (.bl (!decide (i=j))):=by
 unfold uX GF;rw[if_pos (.inl rfl)];simp
@[simp] theorem q_eqB:qJ (.bl a) (.bl b)=some (.bl (decide (a=b))):=by
 unfold qJ GF;rw[if_pos (.inl rfl)];simp
@[simp] theorem q_neB:uX (.bl a) (.bl b)=some (.bl (!decide (a=b))):=by
 unfold uX GF;rw[if_pos (.inl rfl)];simp
theorem bT(h:0<j):eJ (.int i) (.int j)=some (.int (i%j)):=if_pos h
theorem fP(h:0<j)(h2:j<1073741824):gO (.int i) (.int j)=some (.int (i/j)):=if_pos ⟨h,h2⟩
theorem YI(h:My.DO i j):F8 (.int i) (.int j)=some (.int (i*j)):=if_pos h
theorem NE(h:0<=j)(h2:j<=1000000)(q:i.natAbs<2^64):RT (.int i) (.int j)=some (.int (i^j.toNat)):=if_pos ⟨h,h2,q⟩
@[simp] theorem q_isN:WZ d .non=some (.bl (gW d)):=rfl
@[simp] theorem q_notN:FZ d .non=some (.bl (!gW d)):=rfl
@[simp] theorem q_lenL:gM [.lst l]=some (.int l.length):=rfl
@[simp] theorem q_lenT:gM [.tup l]=some (.int l.length):=rfl
@[simp] theorem q_min:uK [.int i,.int j]=some (.int (if j<i then j else i)):=rfl
@[simp] theorem q_max:FV [.int i,.int j]=some (.int (if j>i then j else i)):=rfl
@[simp] theorem q_tuL:kE [.lst l]=some (.tup l):=rfl
@[simp] theorem q_tuT:kE [.tup l]=some (.tup l):=rfl
@[simp] theorem q_liL:GC [.lst l]=some (.lst l):=rfl
@[simp] theorem q_liT:GC [.tup l]=some (.lst l):=rfl
@[simp] theorem q_slT{l:List D}{lo hi:Option Int}:yA (.tup l) lo hi=some (.tup (cutD l lo hi)):=rfl
@[simp] theorem q_slL{l:List D}{lo hi:Option Int}:yA (.lst l) lo hi=some (.lst (cutD l lo hi)):=rfl
@[simp] theorem q_itL:aJ (.lst l) (.int i)=gN l i:=rfl
@[simp] theorem q_itT:aJ (.tup l) (.int i)=gN l i:=rfl
@[simp] theorem q_itD:aJ (.dT l) d=(nQ (.dT l) d).join:=rfl
@[simp] theorem isi_int_int:BA "int" (.int i)=true:=rfl
@[simp] theorem isi_bool_int:BA "bool" (.int i)=false:=rfl
@[simp] theorem isi_tuple_tup:BA "tuple" (.tup l)=true:=rfl
@[simp] theorem isi_list_lst:BA "list" (.lst l)=true:=rfl
end
def turn(g:Gv)(b:Sv)(x:D):Sv:=λρ=>(g x ρ).bind b
theorem xW(I:Nat->cY->Prop)(U:I 0 ρ)(hs:∀i x ρ,items[i]?=some x->I i ρ->∃ρ',turn g b x ρ=some (.nx ρ')/\I (i+1) ρ'):∃ρ',kL g b items ρ=some (.nx ρ')/\I items.length ρ':=by
 have B:∀(m:List D) (k:Nat) (ρ:cY),items.drop k=m->k<=items.length->I k ρ->∃ρ',kL g b m ρ=some (.nx ρ')/\I items.length ρ':=by
  intro m;induction m with
  | nil=>
   intro k ρ e Y h;have:items.length<=k:=by rw[List.drop_eq_nil_iff]at e;exact e
   have:k=items.length:=by lia
   subst this;exact⟨ρ,rfl,h⟩
  | cons x m ih=>
   intro k ρ e Y h;have q:k<items.length:=by
    rcases Nat.lt_or_ge k items.length with z|z
    ·exact z
    ·rw[List.drop_eq_nil_iff.mpr z]at e;cases e
   rw[zcX q]at e;injection e with e1 e2
   obtain⟨ρ',h1,h2⟩:=hs k x ρ (by rw[<- e1];simp[q]) h;obtain⟨F,M,N⟩:=ih (k+1) ρ' e2 q h2;refine⟨F,?_,N⟩;unfold turn at h1;obtain⟨G,W,J⟩:=bind_some h1;unfold kL;rw[W];show(b G).bind _=_;rw[J];exact M
 exact B items 0 ρ rfl (zaI _) U
theorem aG(h:f (aE n ds)=some (.rt d)):bF n f ds=some d:=by
 unfold bF;rw[h];rfl
theorem aH(h:f ρ=some (.nx ρ')):dC f g ρ=g ρ':=by
 unfold dC;rw[h];rfl
theorem uB(h:f ρ=some (.rt d)):dC f g ρ=some (.rt d):=by
 unfold dC;rw[h];rfl
theorem qaO(h:c ρ=some true):BJ c f g ρ=f ρ:=by
 unfold BJ;rw[h];rfl
theorem Z0(h:c ρ=some false):BJ c f g ρ=g ρ:=by
 unfold BJ;rw[h];rfl
theorem aL(h:f ρ=some d):dU k f ρ=some (.nx (ρ.set k (some d))):=by
 unfold dU;rw[h];rfl
theorem qax(h:f ρ=some d):IX f ρ=some (.rt d):=by
 unfold IX;rw[h];rfl
theorem fY{f:Lv}{g:Gv}{b rest:Sv}{ρ:cY}{items:List D}{out:Option Out}(z:f ρ=some items)(I:Nat->cY->Prop)(q:I 0 ρ)(hs:∀i x ρ,items[i]?=some x->I i ρ->∃ρ',turn g b x ρ=some (.nx ρ')/\I (i+1) ρ')(k:∀ρ',I items.length ρ'->rest ρ'=out):dC (BE f g b) rest ρ=out:=by
 obtain⟨ρ',e,h⟩:=xW (g:=g) (b:=b) I q hs;rw[aH (by rw[q_for,z];exact e)];exact k ρ' h
open My (look put US ZI X9)
noncomputable def tupI(k:List Int):D:=.tup (k.map .int)
theorem vP:∀k:List Int,NO (k.map .int)=some (k.map zbn)
 | []=>rfl
 | i::k=>by rw[zak,NO,vP k];rfl
@[simp] theorem asT_tupI(k:List Int):TB (tupI k)=some (k.map zbn):=vP k
theorem zP{q:Type}{f:q->D}{g:q->My.Dx}(h:∀a,iH (f a)=some (g a)):∀l:List q,i9 (l.map f)=some (l.map g)
 | []=>rfl
 | a::l=>by rw[zak,i9,h a,zP h l];rfl
theorem gD{ns:List Int}{k:Int}(z:0<=k)(h:k<(ns.length:Int)):∃c,gN (ns.map D.int) k=some (.int c)/\ns[k.toNat]?=some c:=by
 obtain⟨j,rfl⟩:∃j:Nat,k=(j:Int):=⟨k.toNat,by lia⟩;have q:j<ns.length:=by lia
 exact⟨ns[j],bR (by simp[q]),by simp[q]⟩
noncomputable def gX:D->Option (List D)
 | .lst l=>some l
 | .tup l=>some l
 | _=>none
noncomputable def iF:List D->List D->List D
 | x::xs,y::ys=>.tup [x,y]::iF xs ys
 | _,_=>[]
def R7(f:Lv):Lv:=λρ=>(f ρ).bind λds=>match ds with
 | [a,b]=>(gX a).bind λxs=>(gX b).map λys=>iF xs ys
 | _=>none
theorem yW:∀ {xs ys:List D} {i:Nat} {d:D},(iF xs ys)[i]?=some d->∃x y,xs[i]?=some x/\ys[i]?=some y/\d=.tup [x,y]
 | [],_,i,d,h=>by simp[iF]at h
 | _::_,[],i,d,h=>by simp[iF]at h
 | x::xs,y::ys,0,d,h=>by simp[iF]at h;exact⟨x,y,rfl,rfl,h.symm⟩
 | x::xs,y::ys,i+1,d,h=>yW (xs:=xs) (ys:=ys) (i:=i) (by simpa[iF]using h)
theorem zT:∀ {xs ys:List D} {i:Nat},(iF xs ys).length<=i->xs.length<=i\/ys.length<=i
 | [],_,i,_=>.inl (zaI _)
 | _::_,[],i,_=>.inr (zaI _)
 | x::xs,y::ys,0,h=>by simp[iF]at h
 | x::xs,y::ys,i+1,h=>(zT (xs:=xs) (ys:=ys) (i:=i) (by simpa[iF]using h)).imp (λz=>by simpa using z) λz=>by simpa using z
theorem wZ{A:Av}{H:Hp}{K:zae}{d:D}{l:List D}{v:V}(h:gX d=some l)(r:Rep A H d v):∃t a xs,v=.ref a/\My.BH K t H a xs/\RepL A H l xs/\∀A' H',Rep A' H' d v->∃ys,My.BH K t H' a ys/\RepL A' H' l ys:=by
 cases d with
 | lst m=>
  cases h;obtain⟨a,xs,rfl,h1,r1⟩:=RepB.lst_inv (.of r);refine⟨false,a,xs,rfl,.inl h1,r1,λA' H' q=>?_⟩;obtain⟨z,ys,e,h2,r2⟩:=RepB.lst_inv (.of q);cases e;exact⟨ys,.inl h2,r2⟩
 | tup m=>
  cases h;obtain⟨a,xs,rfl,h1,r1⟩:=RepB.tup_inv (.of r);refine⟨true,a,xs,rfl,.inl (.inl h1),r1,λA' H' q=>?_⟩;obtain⟨z,ys,e,h2,r2⟩:=RepB.tup_inv (.of q);cases e;exact⟨ys,.inl (.inl h2),r2⟩
 | _=>cases h
theorem OG{X:Cx}{O:List Nat}{G:List Expr}{W}{tp:Pos}{a b:Expr}{f:Lv}{p pos:Pos}(hg:Gl X "zip")(hm:X.mg "zip" = none)(ha:BG X O [a,b] f)(hs:zag [a,b] X.env=[(false,eval a X.env),(false,eval b X.env)]:=by rfl)(Y:zag [b] X.env=[(false,eval b X.env)]:=by rfl) :
  PDI X O (.Tuple G W tp) (.Call (.Name "zip" p) [a,b] [] pos) (R7 f):=PI.mono (My.UZ hg hm ha hs Y) λσ H R ⟨H0,A0,A,E,ρ,items,st,e,q⟩=>by
 obtain⟨ds,e1,e⟩:=bind_some e;refine⟨H0,A0,A,E,ρ,ds,st,e1,λvs H1 W r1=>?_⟩;split at e
 case h_2=>cases e
 rename_i da db;obtain⟨xs,e2,e⟩:=bind_some e;obtain⟨ys,e3,rfl⟩:=map_some e;obtain⟨v,w,rfl,r2,r3⟩:=r1.two;obtain⟨t1,N,us,rfl,q1,_,k1⟩:=wZ (K:=X.K) e2 r2;obtain⟨t2,U,ws,rfl,q2,_,k2⟩:=wZ (K:=X.K) e3 r3;refine⟨t1,t2,N,U,us,ws,rfl,q1,q2,q _ H1 [.rep da (.ref N),.rep db (.ref U)] W (λp hp=>?_) ?_⟩
 ·rcases List.mem_cons.mp hp with z|z
  ·rw[z];exact r2
  ·rw[List.mem_singleton.mp z];exact r3
 ·intro A' H' lv hE i
  have a1:Rep A' H' da (.ref N):=hE (.rep da (.ref N)) (zat ..);have a2:Rep A' H' db (.ref U):=hE (.rep db (.ref U)) (zap _ (zat ..));obtain⟨F,g1,M⟩:=k1 A' H' a1;obtain⟨B,g2,J⟩:=k2 A' H' a2;refine⟨λhi=>⟨F,B,g1,g2,(zT hi).imp (λz=>by rw[M.length];exact z) λz=>by rw[J.length];exact z⟩,λd hd=>?_⟩;obtain⟨x,y,ex,ey,rfl⟩:=yW hd;obtain⟨u,eu,ru⟩:=M.get' ex;obtain⟨w,ew,aa⟩:=J.get' ey;refine⟨⟨F,B,g1,g2,(List.getElem?_eq_some_iff.mp eu).1,(List.getElem?_eq_some_iff.mp ew).1⟩,λx' H2 ⟨p,u',w',e4,n,e5,e6⟩=>?_⟩;subst e4 e5;obtain⟨z1,z2⟩:=e6 F B g1 g2;rw[eu]at z1;cases z1;rw[ew]at z2;cases z2;exact⟨Ext.new n,.tup aI (.cons (ru.ext (Ext.new n)) (.cons (aa.ext (Ext.new n)) .nil))⟩
@[simp] theorem q_zip:R7 f ρ=(f ρ).bind λds=>match ds with
 | [a,b]=>(gX a).bind λxs=>(gX b).map λys=>iF xs ys
 | _=>none:=rfl
@[simp] theorem q_seqL:gX (.lst l)=some l:=rfl
@[simp] theorem q_seqT:gX (.tup l)=some l:=rfl
theorem C6(h1:-A<a)(h2:a<A)(F:-B<b)(q:b<B):-(A*B)<a*b/\a*b<A*B:=by
 have e:(a*b).natAbs<(A*B).natAbs:=by
  rw[Int.natAbs_mul,Int.natAbs_mul];exact Nat.mul_lt_mul_of_lt_of_le (by lia) (by lia) (by lia)
 have z:0<=A*B:=zcY (by lia) (by lia)
 lia
end P
namespace P
end P
namespace P
open PySem PySem.Spec PyProof.Rows L2
theorem G3(vs:List Int):fF (.lst (vs.map .int))=true/\fF (.tup (vs.map .int))=true:=by
 have e:i9 (vs.map D.int)=some (vs.map My.Dx.int):=zP (g:=My.Dx.int) (λ_=>rfl) vs;have n:=My.N3 vs;have d:=My.JW vs;constructor
 ·unfold fF
  rw[iH,e];show(My.Dx.nb _ && decide (My.Dx.dep _<=60))=true;rw[My.Dx.nb,My.Dx.dep,n,Bool.true_and];exact decide_eq_true (by lia)
 ·unfold fF
  rw[iH,e];show(My.Dx.nb _ && decide (My.Dx.dep _<=60))=true;rw[My.Dx.nb,My.Dx.dep,n,Bool.true_and];exact decide_eq_true (by lia)
noncomputable def pick{α:Type}(l:List α)(lo hi st:Option Int):List α:=(sliceRange (zbJ lo hi st l.length).1 (zbJ lo hi st l.length).2.1 (zbJ lo hi st l.length).2.2).filterMap (l[·]?)
section
variable {X:Cx}{O:List Nat}
open Classical in
def lZ(d x:D):Option D:=match d with
 | .lst l=>if fF x=true/\l.all fF=true/\aU l.length=true then(l.findIdx? λy=>decide (y=x)).map λ(j:Nat)=>.int (j:Int)else none
 | _=>none
open Classical in
theorem KY(hu:X.A.units+64<cLine):qf X "list.index" (λv vs H Q=>∃A d x y d',vs=[y]/\Live A H/\RepB A H d v/\RepB A H x y/\lZ d x=some d'/\∀v H',Ext A H H'->Rep A H' d' v->Q v H'):=by
 intro pins s σ H v vs u us Q I rv ru h;obtain⟨A,d,x,y,d',rfl,lv,rd,rx,e,q⟩:=h;obtain⟨w,rfl,ab⟩:=ru.one;cases d with
 | lst l=>
  simp only[lZ]at e;split at e
  case isFalse=>cases e
  rename_i hc;obtain⟨j,ej,rfl⟩:=map_some e;obtain⟨a,xs,rfl,h1,r1⟩:=rd.lst_inv;cases rv;obtain⟨_,B,n,r,G,eo⟩:=Inv.lstR I h1;obtain⟨f,f1,f2⟩:=QI (Ar:=X.A.in1) I (by show X.A.units+1+60<cLine;lia) hc.1 rx ab hc.2.1 r1 r;obtain⟨hj,Y,M⟩:=List.findIdx?_eq_some_iff_getElem.mp ej;have J:j<B.length:=by rw[<- G,r1.length];exact hj
  have hsz:=f6 hc.2.2;have U:(j:Int)<2^63-1:=by
   have:(zai:Nat)<2^62:=by decide
   lia
  refine zcB F.slot_list_index ⟨_,eo,rfl⟩ F.entry_list_index (F.args_list_index_2 _ _) (PySem.SeqAt.list_indexAt a B.toArray n none #[] w f j (by simpa using J) U ?_ ?_) ⟨eo,λz hz=>f1 z (by simpa using hz),?_⟩
  ·rw[f2 j _ _ (zaR hj) (by simp[J])]
   exact Y
  ·intro m hm N
   have W:m<l.length:=by lia
   have aa:m<B.length:=by simpa using hm
   rw[f2 m _ _ (zaR W) (by simp[aa])];have:=M m N;simpa using this
  ·exact⟨.int j,H,I.tok _,⟨_,rfl⟩,q _ H (Ext.refl _ _) (.int _)⟩
 | _=>cases e
theorem KD(M:X.A.units+64<cLine)(U:PB X O o f)(J:PB X O e g)
  (F:∀ {r:V->List V->Hp->VK->Prop} {to:TE} {t:TA},MtR X "list.index" r->PE X o to->PA X [e] t->PE X (.Call (.Attribute o "index" apos) [e] [] cpos) (XB X.K "list" r to t)) (hs:zag [e] X.env=(false,eval e X.env)::zag [] X.env:=by rfl) :
  PD X O (.Call (.Attribute o "index" apos) [e] [] cpos) (a7 lZ f g):=PE.mono (F (KY M) U (cK J fD hs)) λσ H Q ⟨H0,A0,A,E,ρ,d,st,e,q⟩=>by
 obtain⟨x,ex,e⟩:=bind_some e;obtain⟨y,G,e⟩:=bind_some e;refine⟨H0,A0,A,E,ρ,x,st,ex,λv H1 z r1=>⟨?_,H0,A0,A,E,ρ,y,st.mono z,G,λw H2 B r2=>⟨A,x,y,w,d,rfl,(st.mono (z.trans B)).live,r1.ext B,r2,e,λv N W r3=>q v N ((z.trans B).trans W) r3⟩⟩⟩;cases x with
 | lst l=>obtain⟨a,xs,rfl,h1,_⟩:=r1.lst_inv;exact .inl ⟨rfl,xs,.inl h1⟩
 | _=>cases e
end
end P
namespace My
open PySem PySem.Spec PyProof.Rows L2 PySem.SeqAt
section
variable {X:Cx}
theorem Inv.gone(I:Inv X pins σ H s)(f:kK X pins H C)(hs:za4 C s.heap h'):Inv X pins σ H {s with heap:=h'}:=by
 obtain⟨F,f1,f2,J,U,N⟩:=f;refine I.call' (s':={s with heap:=h'}) (ch:=[C]) rfl ⟨λb o e n B hx=>?_,λb o e n B hx=>?_,λ_ _ _ n _=>n,λb o e hx=>?_,λ_ _ q=>q,λ_ _ _ q=>q,λ_ ps q=>⟨#[],by simpa using q⟩⟩ ?_ I.bare λb B=>?_
 ·exact(hs.2 b (λz=>hx (z ▸ List.mem_singleton.mpr rfl))).trans e
 ·exact⟨o.slots,(hs.2 b (λz=>hx (z ▸ List.mem_singleton.mpr rfl))).trans e⟩
 ·exact⟨o,(hs.2 b (λz=>hx (z ▸ List.mem_singleton.mpr rfl))).trans e⟩
 ·intro b M e
  refine(I.hok b M e).stay (λc W G q=>(hs.2 c ?_).trans q) (λ_ q=>q) λ_ _ q=>q
  rintro rfl;rcases G with z|z
  ·subst z;rw[F]at e;cases e
  ·rw[F]at z;cases z
 ·rw[List.mem_singleton.mp B]
  exact⟨J,f1,U,N⟩
theorem FL(hN:X.N.Nodup)(U:X.N[i]?=some x)(hx:Loc X.env.scope x)
  (hc:X.calm=true) (F:Clo X N scope cl) (hi:PI X tg iter wi) (hg:∀C s H fp,PG (aZ X N scope cl C s H fp) tg g) (ht:∀C s H fp,DT (aZ X N scope cl C s H fp) ifs tt) (he:∀C s H fp,PE (aZ X N scope cl C s H fp) elt te)
  (hs:∀x,zba iter X.env x=pure x:=by intro _;rfl) (Y:zaC (.ListComp elt [⟨tg,iter,ifs,0⟩] scope pos) (some (.Name x pos')) spos.line X.env=pure true:=by rfl)
  (hf:X.fn x=true\/X.env.scope.names.lookup x=some .local:=by first|exact .inl rfl|exact .inr rfl) :
  PS X (.Assign [.Name x pos'] (.ListComp elt [⟨tg,iter,ifs,0⟩] scope pos) spos) (NI (GA wi g tt te (Start X N scope)) (i7 i)):=by
 intro pins s σ H D I h;obtain⟨aw,sS,hw⟩:=h;rw[exec_Assign_Name_used _ _ _ _ Y];refine zaa (zc8 (zaa ?_));show wpAny _ X.A (do let _ <- comprehension (.ListComp elt [⟨tg,iter,ifs,0⟩] scope pos) scope X.env _ (newList []) false (eval iter X.env) (some (zbd (.Name x pos') X.env))) _ _ s;refine zaa (za7 (wpAny_comprehension_free (use:=some (zbd (.Name x pos') X.env)) (Q:=λ_ s'=>SP X pins D .next s') rfl hs F.clos F.kind F.names
  (cS (hi pins s σ H _ I hw) λv s1 h1=>cS h1 λam s2 h2=>?_)) (λ_ s' hq=>zaf (zaf hq)) λ_ _ e=>e)
 obtain⟨it,fp,tn,J,H2,e,I2,T,ac,f2,q2⟩:=h2;subst e;refine vG (wi:=wi) (Q:=λv H1=>i7 i v σ H1 D.nx) (RR:=λacc C=>compPost (model X.prog X.w) X.A X.xe (some (zbd (.Name x pos') X.env)) (λ_ s'=>SP X pins D .next s') acc C) hc F hg ht he I2 T ac f2 sS q2 ?_
 intro s3 s5 H3 H5 an D1 I3 f3 M q;obtain⟨m,hn,_⟩:=id M.loc;have I6:Inv X pins σ H5 s5:=comp_back I3 f3 M (Heap.SameBut.refl _ _);have W:kK X pins H5 s3.heap.objs.size:=I3.fpOk (zaj _) M.free;show wpAny _ X.A (zbd (.Name x pos') X.env (.ref D1)) _ _ s5;refine wpAny_assign_Name (vI (v:=.ref D1) I6 hN U hx rfl (λs7 I7 ⟨a,aa,B⟩=>?_) hf);have ne:s3.heap.objs.size≠a:=λz=>by
  rcases B with B|B
  ·exact W.2.1 (z.trans B)
  ·exact W.2.2.2.2.1 x a B z.symm
 exact⟨m,Heap.Ns.sameBut hn aa ne,λh' G=>⟨_,H5,Inv.gone I7 W G,q⟩⟩
end
end My
namespace P
open PySem PySem.Spec PyProof.Rows L2 PySem.SeqAt
section
variable {X:Cx}{O O':List Nat}{L:Lp}
theorem B0(J:PS X (.Assign [.Name x pos'] e pos) (NI (tD Rep O f) (i7 i)))(h:Sub O' (O.filter (· != i))=true):jA X L O (.Assign [.Name x pos'] e pos) (dU i f) O':=
 PS.mono J <| by
  rintro T σ H ⟨H0,A0,A,E,ρ,out,st,e,p⟩;obtain⟨d,M,rfl⟩:=map_some e;refine⟨H0,A0,A,E,ρ,d,st,M,λv H' x r=>?_⟩;have F:=(st.mono x).more r;obtain⟨A',B⟩:=F.shut (O':=O') λj N=>(Sub.er h N).1
  exact p A' _ H' ((B.put (B.ext _ (zat ..)) λz=>(Sub.er h z).2 rfl).less λq G=>zap _ G)
theorem yH(G:PS X (.Assign [.Name x pos'] e pos) (NI (tF O f) (i7 i)))(h:Sub O' (i::O)=true)(B:O.contains i=false):jA X L O (.Assign [.Name x pos'] e pos) (dU i f) O':=
 PS.mono G <| by
  rintro T σ H ⟨H0,A0,A,E,ρ,out,st,e,p⟩;obtain⟨d,J,rfl⟩:=map_some e;refine⟨H0,A0,A,E,ρ,d,st,J,λa H' x n N o=>?_⟩;have F:i∉O:=λz=>by
   have:O.contains i=true:=by simpa using z
   rw[B]at this;cases this
  obtain⟨M,q⟩:=(st.own_put x n N o F).shut (Sub.mem h);exact p M _ H' q
theorem XY:tD Rep O f σ H Q->tF O f σ H Q:=λ⟨H0,A0,A,E,ρ,d,st,e,q⟩=>
 ⟨H0,A0,A,E,ρ,d,st,e,λa H' x n z o=>q _ H' x ((o.av (A':=A) λb B=>.inl (.inl B)).rep z)⟩
theorem LR(M:X.N.Nodup)(B:X.N[i]?=some x)(hx:Loc X.env.scope x)
  (F:X.calm=true) (W:My.Clo X N scope cl) (q:dO X scope N ms) (J:(ms.all λo=>match o with|some i=>!O.contains i|none=>true)=true) (hi:PDI X O tg iter it) (G:∀C s H fp,BF (My.aZ X N scope cl C s H fp) [] tg g)
  (ht:∀C s H fp,My.DT (My.aZ X N scope cl C s H fp) ifs (tDT [] c)) (U:∀C s H fp,PD (My.aZ X N scope cl C s H fp) [] elt f) (h:Sub O' (O.filter (· != i))=true:=by rfl) (hs:∀x,zba iter X.env x=pure x:=by intro _;rfl)
  (z:zaC (.ListComp elt [⟨tg,iter,ifs,0⟩] scope pos) (some (.Name x pos')) spos.line X.env=pure true:=by rfl) (Y:X.fn x=true\/X.env.scope.names.lookup x=some .local:=by first|exact .inl rfl|exact .inr rfl) :
  jA X L O (.Assign [.Name x pos'] (.ListComp elt [⟨tg,iter,ifs,0⟩] scope pos) spos) (dU i (dS ms it g c f)) O':=
 B0 (PS.mono (My.FL M B hx F W hi G ht U hs z Y) λT σ H w=>tQ q J _ _ _ (XY w)) h
theorem HM(U:X.N.Nodup)(B:X.N[i]?=some x)(hx:Loc X.env.scope x)
  (G:X.calm=true) (Y:My.Clo X N scope cl) (q:dO X scope N ms) (M:(ms.all λo=>match o with|some i=>!O.contains i|none=>true)=true) (hi:PDI X O tg iter it) (J:∀C s H fp,BF (My.aZ X N scope cl C s H fp) [] tg g)
  (ht:∀C s H fp,My.DT (My.aZ X N scope cl C s H fp) ifs (tDT [] c)) (W:∀C s H fp,PD (My.aZ X N scope cl C s H fp) [] elt f) (h:Sub O' (i::O)=true:=by rfl) (F:O.contains i=false:=by rfl) (hs:∀x,zba iter X.env x=pure x:=by intro _;rfl)
  (z:zaC (.ListComp elt [⟨tg,iter,ifs,0⟩] scope pos) (some (.Name x pos')) spos.line X.env=pure true:=by rfl) (hf:X.fn x=true\/X.env.scope.names.lookup x=some .local:=by first|exact .inl rfl|exact .inr rfl) :
  jA X L O (.Assign [.Name x pos'] (.ListComp elt [⟨tg,iter,ifs,0⟩] scope pos) spos) (dU i (dS ms it g c f)) O':=
 yH (PS.mono (My.FL U B hx G Y hi J ht W hs z hf) λT σ H w=>tQ q M _ _ _ w) h F
end
end P
namespace My
open PySem PySem.Spec PyProof.Rows L2 PySem.SeqAt
def ZL(K:zae)(n:Nat)(t:TC):TG:=λv σ H Q=>∃a xs,v=.ref a/\(SqT K H a xs\/SqL K H a xs)/\xs.length=n/\t xs σ H Q
theorem t6(F:X.calm=true)(h:PGs X es t)
  (J:(za1 es X.env).length=n:=by rfl) (q:(za1 es X.env).findIdx? (·.1)=none:=by rfl):PG X (.Tuple es k pos) (ZL X.K n t):=by
 intro pins s σ H v u Q I r hw;obtain⟨a,xs,U,z,G,hw⟩:=hw;subst U;rcases z with z|z
 ·exact DF F h J q pins s σ H _ u Q I r ⟨a,xs,rfl,z,G,hw⟩
 ·cases r
  obtain⟨B,M,Y,hz⟩:=I.list z;have hsz:(za1 es X.env).length=B.toArray.size:=by simp[J,<- G,M.length]
  rw[assign_Tuple];refine zaa (zc8 ?_);unfold unpack;rw[hsz,q];refine zaa (zbB (PySem.W.kun_itemsOf (I.ok.hd F) (My.PlainL.isList Y) λh' hx=>?_));have N:Inv X pins σ H {s with heap:=h'}:=I.kept (t':=s.toks) λb o e=>hx b o (zaE (zao e)) e
  exact h pins _ σ H xs _ Q N (by simpa using M) hw
end My
namespace P
open PySem PySem.Spec PyProof.Rows L2 PySem.SeqAt
def uG(n:Nat)(k:TJ):Gv:=λd ρ=>match d with
 | .tup l=>if l.length=n then k l ρ else none
 | .lst l=>if l.length=n then k l ρ else none
 | _=>none
theorem nH(F:PG X tg (My.ZL X.K n (tDGs O k))):BF X O tg (uG n k):=PG.mono F <| by
 rintro v σ H Q ⟨H0,A0,A,E,ρ,d,ρ',st,r,e,q⟩;cases d with
 | tup l=>
  obtain⟨a,xs,rfl,h,B⟩:=RepB.tup_inv (.of r);by_cases z:l.length=n
  ·simp only[uG,if_pos z]at e
   exact⟨a,xs,rfl,.inl (.inl (.inl h)),by rw[B.length];exact z,H0,A0,A,E,ρ,l,ρ',st,B,e,q⟩
  ·simp only[uG,if_neg z]at e;cases e
 | lst l=>
  obtain⟨a,xs,rfl,h,B⟩:=RepB.lst_inv (.of r);by_cases z:l.length=n
  ·simp only[uG,if_pos z]at e
   exact⟨a,xs,rfl,.inr (.inl h),by rw[B.length];exact z,H0,A0,A,E,ρ,l,ρ',st,B,e,q⟩
  ·simp only[uG,if_neg z]at e;cases e
 | _=>cases e
@[simp] theorem q_gseqT:uG n h (.tup l) ρ=if l.length=n then h l ρ else none:=rfl
@[simp] theorem q_gseqL:uG n h (.lst l) ρ=if l.length=n then h l ρ else none:=rfl
end P
namespace P
open PySem PySem.Spec PyProof.Rows L2
theorem j9{f:Lv}{g:Gv}{b rest:Sv}{ρ:cY}{items:List D}{R:D->Prop}(z:f ρ=some items)(I:Nat->cY->Prop)(q:I 0 ρ)(hs:∀i x ρ,items[i]?=some x->I i ρ->∃ρ',turn g b x ρ=some (.nx ρ')/\I (i+1) ρ')(k:∀ρ',I items.length ρ'->∃d,rest ρ'=some (.rt d)/\R d):∃d,dC (BE f g b) rest ρ=some (.rt d)/\R d:=by
 obtain⟨ρ',e,h⟩:=xW (g:=g) (b:=b) I q hs;rw[aH (by rw[q_for,z];exact e)];exact k ρ' h
theorem dQ{n:Nat}{ds:List D}{R:D->Prop}(h:∃d,f (aE n ds)=some (.rt d)/\R d):∃d,bF n f ds=some d/\R d:=by
 obtain⟨d,e,r⟩:=h;exact⟨d,aG e,r⟩
theorem JK(h:tupI a=tupI b):a=b:=by
 have g:∀ {a b:List Int},a.map D.int=b.map D.int->a=b:=by
  intro a;induction a with
  | nil=>intro b h;cases b with
   | nil=>rfl
   | cons _ _=>cases h
  | cons x a ih=>intro b h;cases b with
   | nil=>cases h
   | cons y b=>
    rw[zak,zak]at h;injection h with h1 h2
    rw[D.int.inj h1,ih h2]
 exact g (D.tup.inj h)
theorem FN(k:List Int):fF (tupI k)=true:=(G3 k).2
open Classical in
theorem HJ(h:v∉as)(q:aU (as++v::bs).length=true):lZ (.lst ((as++v::bs).map tupI)) (tupI v)=some (.int (as.length:Int)):=by
 unfold lZ;have a:((as++v::bs).map tupI).all fF=true:=List.all_eq_true.mpr λx hx=>by
  obtain⟨w,_,rfl⟩:=List.mem_map.mp hx;exact FN w
 dsimp only;rw[if_pos ⟨FN v,a,by rw[zam];exact q⟩];have e:((as++v::bs).map tupI).findIdx? (λy=>decide (y=tupI v))=some as.length:=by
  clear a q;induction as with
  | nil=>simp[List.findIdx?_cons]
  | cons x as ih=>
   have B:¬ tupI x=tupI v:=λz=>h (by rw[JK z];exact zat ..)
   rw[zcZ,zak,List.findIdx?_cons,if_neg (by simpa using B),ih λz=>h (zap _ z)];rfl
 rw[e];rfl
theorem G6:cutD (as++bs) none (some (as.length:Int))=as:=by
 have e:HT.sIx (as++bs).length (as++bs).length (some (as.length:Int))=as.length:=by
  unfold HT.sIx;simp
  try lia
 unfold cutD;rw[e];show((as++bs).drop 0).take (as.length-0)=as;simp
end P
namespace My
open PySem PySem.Spec PyProof.Rows L2 PySem.SeqAt
end My
namespace P
open PySem PySem.Spec PyProof.Rows L2 PySem.SeqAt
section
variable {X:Cx}
end
end P
namespace My
open PySem PySem.Spec PyProof.Rows L2 PySem.SeqAt
end My
namespace P
open PySem PySem.Spec PyProof.Rows L2 PySem.SeqAt
end P
namespace My
open PySem PySem.Spec PyProof.Rows L2
section
variable {X:Cx}
theorem pH(ns:List Int):∀n,n<=ns.length->preSum (λi=>(ns[i]?).getD 0) n=(ns.take n).sum
 | 0,_=>by simp[preSum]
 | n+1,h=>by
  have e:ns[n]?=some (ns[n]'(by lia)):=by simp
  rw[preSum,pH ns n (by lia),zc0,List.sum_append_int,e];simp
theorem yV{ns:List Int}{q:List Value}(r:Vals (ns.map V.int) q){i:Nat}(h:q[i]?=some v):∃t,v=.int ((ns[i]?).getD 0) t:=by
 have B:=r.length;rw[zam]at B;have hi:i<ns.length:=by rw[B];exact(List.getElem?_eq_some_iff.mp h).1
 have e:(ns.map V.int)[i]?=some (.int ns[i]):=by simp[hi]
 obtain⟨u,z,F⟩:=r.get e;rw[h]at z;cases z;obtain⟨t,rfl⟩:=F;exact⟨t,by simp[hi]⟩
theorem ID(hc:X.calm=true):CallR X (.builtin "sum") (λxs H Q=>∃(p:Addr) (ns:List Int),xs=[.ref p]/\SqL X.K H p (ns.map V.int)/\Q (.int ns.sum) H):=by
 intro pins s σ H xs us Q I r h;obtain⟨p,ns,rfl,hq,q⟩:=h;obtain⟨u,rfl,rx⟩:=vals1 r;cases rx;obtain⟨F,Y,pl,hz⟩:=I.list hq;have N:s.heap.IsList p F.toArray:=pl.isList;obtain⟨o,ho,af,n,hd⟩:=id N;have J:p≠s.heap.objs.size:=zaE (zao ho);have W:=(Walks.list (prog:=X.prog) (w:=X.w) (A:=X.A.in1) (I.ok.hd hc) s.heap.objs.size p J F.toArray).toS;refine call_sum_walkAnyS (zb6 N ?_);refine⟨s.heap.objs.size,_,_,_,_,_,_,(λi=>(ns[i]?).getD 0),rfl,W,⟨⟨_,zaD _ rfl,rfl,rfl⟩,N.at λo e=>zal _ e⟩,λb B=>?_,λi v hP=>yV Y (by simpa using hP),λs' t' G=>?_⟩
 ·rcases List.mem_cons.mp B with rfl|B
  ·exact zao (zaD _ rfl)
  ·obtain rfl:=List.mem_singleton.mp B
   exact zao (zal _ ho)
 ·obtain⟨h',g',d',M,U⟩:=s'
  have e1:g'=s.gens:=G.gens;have e2:d'=s.drawn:=G.drawn;have e3:U=s.os:=G.os;subst e1 e2 e3;have hk:∀b o,s.heap.get? b=some o->h'.get? b=some o:=λb o e=>G.heap b o (λB=>absurd (zao e) ((List.mem_singleton.mp B) ▸ zb4 _)) (zal _ e)
  refine⟨.int ns.sum,H,I.kept (t':=M) hk,⟨t',?_⟩,q⟩;have z:=Y.length;rw[zam]at z;rw[zax,<- z,pH ns ns.length (zaj _),zbz]
theorem OC:OpR X (zaL .Add) (λx y H Q=>∃a b ys,x=.ref a/\y=.ref b/\SqT X.K H a []/\SqT X.K H b ys/\Q (.ref b) H):=by
 intro pins s σ H x y v u Q I rx ry h;obtain⟨a,b,ys,rfl,rfl,ha,hb,q⟩:=h;cases rx;cases ry;obtain⟨U,r1,p1,_⟩:=I.tuple ha;obtain⟨z,r2,p2,_⟩:=I.tuple hb;have e1:U=[]:=r1.nil_iff.mpr rfl;subst e1;obtain⟨⟨cls,dd,data,sl⟩,ho,hc,n,hd⟩:=p1;obtain⟨⟨F,N,B,W⟩,M,Y,n2,ab⟩:=p2;have aa:cls=.type "tuple" := hc;have ac:data=.seq #[] n:=hd;have J:F=.type "tuple" := Y;have G:B=.seq z.toArray n2:=ab;subst aa ac J G;exact concat_meets ⟨_,ho,rfl⟩ ⟨_,M,rfl⟩ zd0 seq_tuple_add zd1 zd2 (zd3 _ _)
  (tuple_addW0 a b #[] z.toArray n n2 dd N sl W rfl) ⟨ho,M,.ref b,H,I,rfl,q⟩
def y3:V->List V->Hp->VK->Prop:=λx vs H Q=>∃l b xs zs,x=.ref l/\vs=[.ref b]/\H l=some (.lst xs)/\Rd H b (.lst zs)/\xs.length+zs.length<=zai/\Q .non (upd H l (.lst (xs++zs)))
theorem sP:qf X "list.extend" y3:=by
 intro pins s σ H x vs v us Q I rx rv h;obtain⟨l,b,xs,zs,rfl,rfl,M,N,hz,q⟩:=h;cases rx;obtain⟨u,rfl,U⟩:=rv.one;cases U;obtain⟨z,G,n,r,hl,e⟩:=I.lstM M;obtain⟨z2,B,n2,r2,Y,W⟩:=P.Inv.lstR I N;have hsz:G.toArray.size+B.toArray.size<=zai:=by rw[zax,zax];lia
 have J:¬ (!G.toArray.isEmpty && zd8 (G.toArray.size+B.toArray.size))=true:=by
  rw[K5 hsz,Bool.and_false];exact zaA
 refine zcB F.slot_list_extend ⟨_,e,rfl⟩ F.entry_list_extend (F.args_list_extend_2 _ _)
  (AutoSeq1.list_extend_list_list_0 l G.toArray n b B.toArray n2 J (by rw[zax];lia) (by lia)) ⟨e,W,?_⟩
 refine⟨.non,_,I.lset (its':=G++B) M e (by simp) (r.append r2) ?_,rfl,q⟩;rw[zbb]
 lia
end
end My
namespace P
open PySem PySem.Spec PyProof.Rows L2
theorem aA{q β:Type}(a:q)(f:q->Option β):(some a).bind f=f a:=by rw[zad]
theorem aC{q β:Type}(a:q)(f:q->β):(some a).map f=some (f a):=by rw[zac]
section
variable {X:Cx}{O O':List Nat}{L:Lp}
noncomputable def BB:List D->Option D
 | [.int i]=>some (.int i)
 | [.bl b]=>some (.int (if b then 1 else 0))
 | _=>none
theorem WD:kJ X (.type "int") BB:=CallR.mono II <| by
 rintro xs H Q ⟨A,ds,d,B,r,e,q⟩;unfold BB at e;split at e
 ·cases e
  obtain⟨v,rfl,z⟩:=r.one;cases z.int_inv;exact .inl ⟨_,rfl,q _ H (Ext.refl _ _) (.int _)⟩
 ·cases e
  obtain⟨v,rfl,z⟩:=r.one;cases z.bl_inv;exact .inr ⟨_,rfl,q _ H (Ext.refl _ _) (.int _)⟩
 ·cases e
@[simp] theorem q_intB:BB [.bl b]=some (.int (if b then 1 else 0)):=rfl
@[simp] theorem q_intI:BB [.int i]=some (.int i):=rfl
open Classical in
def cR:D->D->Option D:=IY λi j=>if My.DO i j then some (.int (i*j))else none
theorem D0:cR=F8:=by
 unfold cR F8;congr 1
theorem cH:lA X (zaL .Mult) cR:=by rw[D0];exact UL
theorem TN(h:My.DO i j):cR (.int i) (.int j)=some (.int (i*j)):=by rw[D0];exact YI h
theorem b9(h:-(10^250)<i)(h1:i<10^250)(h2:-(10^250)<j)(q:j<10^250):cR (.int i) (.int j)=some (.int (i*j)):=TN ⟨⟨h,h1⟩,h2,q⟩
def RW:List D->Option D
 | [.lst l]=>(iZ l).map λns=>.int ns.sum
 | _=>none
theorem M2(z:X.calm=true):kJ X (.builtin "sum") RW:=CallR.mono (My.ID z) <| by
 rintro xs H Q ⟨A,ds,d,J,r,e,q⟩;unfold RW at e;split at e
 ·obtain⟨ns,B,rfl⟩:=map_some e
  obtain⟨v,rfl,F⟩:=r.one;obtain⟨a,G,rfl,h1,r1⟩:=F.lst_inv;rw[gC B r1]at h1;exact⟨a,ns,rfl,.inl h1,q _ H (Ext.refl _ _) (.int _)⟩
 ·cases e
theorem jJ:∀ns:List Int,iZ (ns.map .int)=some ns
 | []=>rfl
 | n::ns=>by rw[zak,iZ,jJ ns];rfl
@[simp] theorem q_sum{ns:List Int}:RW [.lst (ns.map .int)]=some (.int ns.sum):=by unfold RW;simp only[jJ];rfl
theorem RepL.rep(r:RepL A H ds vs):∀k:Nat,RepL A H (zcn k ds).flatten (zcn k vs).flatten
 | 0=>.nil
 | k+1=>by rw[zdp,zdp,zdq,zdq];exact r.append (RepL.rep r k)
def dN(x y:D):Option D:=match x,y with
 | .tup l,.tup m=>if aU (l.length+m.length)then some (.tup (l++m))else none
 | x,y=>v6 x y
theorem dY:lA X (zaL .Add) dN:=OpR.mono (OpR.or U1 My.OC) <| by
 rintro x y H Q ⟨A,dx,J,d,G,B,z,e,q⟩;unfold dN at e;split at e
 ·rename_i l m
  cases l with
  | nil=>
   by_cases F:aU (([]:List D).length+m.length)=true
   ·rw[if_pos F]at e
    cases e;obtain⟨a,xs,rfl,h1,r1⟩:=B.tup_inv;obtain⟨b,ys,rfl,h2,r2⟩:=z.tup_inv;cases r1;exact .inr ⟨a,b,ys,rfl,rfl,.inl (.inl h1),.inl (.inl h2),q _ H (Ext.refl _ _) (.tup h2 r2)⟩
   ·rw[if_neg F]at e;cases e
  | cons a l=>
   refine .inl ⟨A,_,_,d,G,B,z,?_,q⟩;rw[<- e];rfl
 ·exact .inl ⟨A,_,_,d,G,B,z,e,q⟩
@[simp] theorem q_addAI:dN (.int i) (.int j)=some (.int (i+j)):=rfl
@[simp] theorem q_addAT:dN (.tup l) (.tup m)=if aU (l.length+m.length)then some (.tup (l++m))else none:=rfl
@[simp] theorem q_addAL:dN (.lst l) (.lst m)=if aU (l.length+m.length)then some (.lst (l++m))else none:=rfl
@[simp] theorem q_addAS:dN (.str l) (.str m)=if aU (l.length+m.length)then some (.str (l++m))else none:=rfl
def WR(i:Nat)(f:Ev):Sv:=λρ=>(aD i ρ).bind λx=>match x with
 | .lst l=>(f ρ).bind λd=>match d with
  | .lst m=>if aU (l.length+m.length)then some (.nx (ρ.set i (some (.lst (l++m)))))else none
  | _=>none
 | _=>none
theorem rY(ho:PE X o (cX i))(he:PD X O e f)(M:mem O i=true)(U:PE X (.Call (.Attribute o "extend" apos) [e] [] cpos) (XB X.K "list" My.y3 (cX i) (wB (tD Rep O f) RP)))
  (hs:zaC (.Call (.Attribute o "extend" apos) [e] [] cpos) none pos.line X.env=pure false:=by rfl) (h:Sub O' O=true:=by rfl):jA X L O (.Expr (.Call (.Attribute o "extend" apos) [e] [] cpos) pos) (WR i f) O':=
 PS.mono (wX U hs) <| by
  rintro T σ H ⟨H0,A0,A,E,ρ,out,st,e,p⟩;obtain⟨x,ex,e⟩:=bind_some e;cases x with
  | lst l=>
   obtain⟨d,Y,e⟩:=bind_some e;cases d with
   | lst m=>
    dsimp only at e;by_cases z:aU (l.length+m.length)=true
    ·rw[if_pos z]at e
     cases e;obtain⟨a,F,q,N,W⟩:=st.own i _ (bU ex) (hG M);cases W with
     | lst h4 r4=>
      refine⟨_,F,.inl ⟨rfl,_,SqL.of h4⟩,H0,A0,A,E,ρ,_,st,Y,λv H' x r=>?_⟩;obtain⟨b,zs,rfl,hb,J⟩:=RepB.lst_inv (.of r);refine⟨a,b,_,zs,rfl,rfl,x.ow _ _ q h4,hb,by rw[r4.length,J.length];exact f6 z,?_⟩;have G:=x.ow _ _ q h4;obtain⟨A',B⟩:=((st.mono x).write (o:=.lst _) (bU ex) (hG M) F q N G trivial (.lst aI (((r4.ext x).append J).put q G trivial))).shut (Sub.mem h);exact p A' σ _ B
    ·rw[if_neg z]at e;cases e
   | _=>cases e
  | _=>cases e
def eT(c:Bv)(b:Sv):Nat->cY->Option Out
 | 0,_=>none
 | n+1,ρ=>(c ρ).bind λt=>if t=true then(b ρ).bind λo=>match o with
   | .nx ρ'=>eT c b n ρ'
   | .ct ρ'=>eT c b n ρ'
   | .bk ρ'=>some (.nx ρ')
   | .rt d=>some (.rt d)
  else some (.nx ρ)
def lP(c:Bv)(b:Sv):Sv:=λρ=>eT c b 100000 ρ
theorem HZ(W:zb5 (model X.prog X.w) X.A X.env X.xe)(U:uZ X O1 c g)(hb:d9 X ⟨Ob,O1⟩ O1 body b O1)(h1:Sub O1 O=true)(h2:Sub O' O1=true)(Y:Sub O' Ob=true) :
  jA X L O (.While c body [] pos) (lP g b) O':=PS.mono (JD W U hb) λT σ H ⟨H0,A0,A,E,ρ,out,st,e,p⟩=>by
 obtain⟨A1,M⟩:=st.shut (Sub.mem h1);refine⟨λm σ H=>∃ρ A,ST H0 A0 A E O1 σ H ρ/\eT g b m ρ=some out,⟨100000,ρ,A1,M,e⟩,?_⟩;rintro m σ H ⟨ρ,A,st,e⟩;cases m with
 | zero=>cases e
 | succ m=>
  obtain⟨t,et,e⟩:=bind_some e;refine⟨H0,A0,A,E,ρ,t,st,et,λH1 N=>?_⟩;have fin:∀ {O2:List Nat} {A:Av} {σ:L2.St} {H:Hp} {ρ:cY},Sub O' O2=true->ST H0 A0 A E O2 σ H ρ->(∀A σ H,ST H0 A0 A E O' σ H ρ->T.nx σ H)->T.nx σ H:=λhs st k=>by
   obtain⟨z,J⟩:=st.shut (Sub.mem hs);exact k z _ _ J
  cases t with
  | true=>
   rw[if_pos rfl]at e;dsimp only;rw[if_pos rfl];obtain⟨o,eo,e⟩:=bind_some e;refine⟨λG H'=>∃q z,ST H0 A0 z E O1 G H' q/\eT g b m q=some out,λG H' ⟨q,z,B,e2⟩=>⟨m,zde m,q,z,B,e2⟩,H0,A0,A,E,ρ,o,st.mono N,eo,?_⟩;cases o with
   | nx q=>exact λz F H2 B=>⟨q,z,B,e⟩
   | ct q=>exact λz F H2 B=>⟨q,z,B,e⟩
   | bk q=>cases e;exact λz F H2 B=>fin Y B p
   | rt d=>cases e;exact p
  | false=>
   rw[if_neg zaA]at e;dsimp only;rw[if_neg zaA];cases e;exact fin h2 (st.mono N) p
end
theorem D8{P:zah}{w:World}{K:zae}{mg:Str->Option Value}{base:Heap}{x:Str}{st:Stmt}{N ps:List Str}{k:Nat}(F:My.DefAt K mg x st ps)(S:FnScope N ps (aM st)):Fn P w K mg base x (k+1) ps (λ_=>none):=
 My.BodyOk.ok (k:=k) (N:=N) (λM G A z s H vs Q E U ⟨J,ds,d,W,r,e,B,q⟩=>nomatch B) F S (λvs H Q E ⟨J,ds,d,_,_,e,B,_⟩=>nomatch B)
def gK(n:Nat)(b:(List D->Option D)->Sv):Nat->List D->Option D
 | 0=>λ_=>none
 | m+1=>bF n (b (gK n b m))
end P
namespace My
open PySem PySem.Spec PyProof.Rows L2
open AutoSeq1 (wpAny_loadPart')
theorem G7(l:Addr)(items:Array Value)(n:Nat)(B:Option Addr)(M:Array (Option Value)) :
  Meets (zb0.«enumerate.__new__» ⟨[.type "enumerate",.ref l],[]⟩) (λ_ R s=>s.heap.get? l=some {cls:=.type "tuple",dict:=B,data:=.seq items n,slots:=M} /\
   R (.ok (.ret (.ref (s.heap.push {cls:=.type "tuple_iterator",data:=.fields #[.ref l,.int 0 0]}).objs.size)))
    {s with heap:=(s.heap.push {cls:=.type "tuple_iterator",data:=.fields #[.ref l,.int 0 0]}).push {cls:=.type "enumerate",data:=.fields #[.none,.bool false,.ref s.heap.objs.size,za9 0,.none,.none]} }):=
 .of_wp λprog w A R s h=>by
  obtain⟨G,g,d,tk,J⟩:=s;obtain⟨q,h⟩:=h;have F:=sub_enumerate;have z:zcV (zbW ⟨G,g,d,tk,J⟩) l items:=⟨_,q,rfl,n,rfl⟩
  wp_walk using zbV q
  refine wpAny_stack_any λst=>zaf ?_
  split
  ·rename_i c _ _ _ _ _
   cases(c == Value.type "enumerate")
   ·wp_walk using zbV q,zbR z
    exact⟨_,rfl,h⟩
   ·wp_walk using zbV q,zbR z
    exact⟨_,rfl,h⟩
  ·wp_walk using zbV q,zbR z
   exact⟨_,rfl,h⟩
section
variable {prog:zah}{w:World}{A:zan}{E:Value->zab->Prop}{s:zab}
theorem HV(hl:SSq t s.heap l xs)
  (h:∀h',zbA h' (s.heap.objs.size+1) s.heap.objs.size 0 .none->SIt t h' s.heap.objs.size l 0->(∀b o,s.heap.get? b=some o->h'.get? b=some o)->Q (.ref (s.heap.objs.size+1)) {s with heap:=h'}) :
  wpAny (model prog w) A (call (.type "enumerate") [.ref l]) Q E s:=by
 obtain⟨⟨cls,G,data,U⟩,W,Y,n,hd⟩:=hl;have M:cls=.type (sqN t):=Y;have J:data=.seq xs n:=hd;subst M J;have N:(s.heap.push (GD t l)).objs.size=s.heap.objs.size+1:=zbT ..;have fin:zbA ((s.heap.push (GD t l)).push {cls:=.type "enumerate",data:=.fields #[.none,.bool false,.ref s.heap.objs.size,za9 0,.none,.none]}) (s.heap.objs.size+1) s.heap.objs.size 0 .none:=by
  have:=zaD (s.heap.push (GD t l)) (o:={cls:=.type "enumerate",data:=.fields #[.none,.bool false,.ref s.heap.objs.size,za9 0,.none,.none]}) rfl;rw[N]at this;exact this
 have q:=h _ fin ⟨_,zal _ (zaD _ rfl),rfl,rfl⟩ λb o x=>zal _ (zal _ x)
 cases t with
 | false=>
  refine callType_new F.called_enumerate (by decide) (F.typeCall_enumerate_1 _) (F.newCall_enumerate_1 _) (λB=>F.args_object_init_2 B _) F.entry_enumerate_new (meets_enumerate_newL l xs n G U) ⟨W,?_⟩;have z:(s.heap.push {cls:=.type "list_iterator",data:=.fields #[.ref l,.int 0 0]}).objs.size=s.heap.objs.size+1:=N;show _/\_;rw[z];exact⟨⟨_,fin,rfl⟩,q⟩
 | true=>
  refine callType_new F.called_enumerate (by decide) (F.typeCall_enumerate_1 _) (F.newCall_enumerate_1 _) (λB=>F.args_object_init_2 B _) F.entry_enumerate_new (G7 l xs n G U) ⟨W,?_⟩;have z:(s.heap.push {cls:=.type "tuple_iterator",data:=.fields #[.ref l,.int 0 0]}).objs.size=s.heap.objs.size+1:=N;show _/\_;rw[z];exact⟨⟨_,fin,rfl⟩,q⟩
theorem IJ{t:Bool}{e it l:Addr}{i:Nat}{items:Array Value}{x ak:Value}{Q:Value->zab->Prop}
  (he:zbA s.heap e it i ak) (ay:SIt t s.heap it l i) (hl:SSq t s.heap l items) (hx:items[i]?=some x) (aj:e≠it)
  (hQ:∀h', IsEnumOut h' e it ((i:Int)+1) x s.heap.objs.size -> SIt t h' it l (i+1) ->
   h'.get? s.heap.objs.size=some {cls:=.type "tuple",data:=.seq #[.int i s.toks,x]}->h'.objs.size=s.heap.objs.size+1->
   (∀b o,b≠e->b≠it->s.heap.get? b=some o->h'.get? b=some o)->Q (.ref s.heap.objs.size) {s with heap:=h',toks:=s.toks+1}) :
  wpAny (model prog w) A (zb0.«enumerate.__next__» ⟨[.ref e],[]⟩) (λfin s'=>∃v,fin=.done (.ret v)/\Q v s') E s:=by
 obtain⟨hp,g,d,tk,os⟩:=s;show wpAny _ _ (field (.ref e) 2 >>= _) _ _ _;refine zaa (zaQ he rfl (x:=.ref it) rfl ?_);refine zaa (next_item ay hl hx λN ah G=>?_);replace G:za4 it hp N:=G;have Y:zbA N e it i ak:=(G.2 e aj).trans he;show wpAny _ _ (field (.ref e) 3 >>= _) _ _ ⟨N,g,d,tk,os⟩;refine zaa (zaQ Y rfl (x:=za9 i) rfl ?_);show wpAny _ _ (field (.ref e) 4 >>= _) _ _ ⟨N,g,d,tk,os⟩;refine zaa (zaQ Y rfl (x:=.none) rfl ?_);show wpAny _ _ (mkInt i >>= _) _ _ ⟨N,g,d,tk,os⟩;refine zaa (wpAny_mkInt ?_);show wpAny _ _ (setField (.ref e) 3 (za9 ((i:Int)+1)) >>= _) _ _ ⟨N,g,d,tk+1,os⟩;refine zaa (zby Y (by simp) λac W M=>?_);replace M:za4 e N ac:=M;replace W:zbA ac e it ((i:Int)+1) ak:=W;show wpAny _ _ (setField (.ref e) 4 .none >>= _) _ _ ⟨ac,g,d,tk+1,os⟩;refine zaa (zby W (by simp) λU aa B=>?_);replace B:za4 e ac U:=B;replace aa:zbA U e it ((i:Int)+1) ak:=aa;show wpAny _ _ (newTuple [.int i tk,x] >>= _) _ _ ⟨U,g,d,tk+1,os⟩;refine zaa (wpAny_newTuple ?_);have ab:zbA (U.push {cls:=.type "tuple",data:=.seq #[.int i tk,x]}) e it ((i:Int)+1) ak:=zal _ aa;generalize hh₄:U.push {cls:=.type "tuple",data:=.seq #[.int i tk,x]}=h₄ at ab;have hsz:U.objs.size=hp.objs.size:=by rw[B.1,M.1,G.1]
 have as:e<hp.objs.size:=zao he;have aq:h₄.get? hp.objs.size=some {cls:=.type "tuple",data:=.seq #[.int i tk,x]}:=by rw[<- hh₄,<- hsz];exact zaD _ rfl
 have au:h₄.objs.size=hp.objs.size+1:=by rw[<- hh₄,zbT,hsz]
 have aw:∀b o,b≠e->b≠it->hp.get? b=some o->h₄.get? b=some o:=λb o af ar hb=>by
  rw[<- hh₄];exact zal _ (B.extBut b o af (M.extBut b o af (G.extBut b o ar hb)))
 have an:SIt t h₄ it l (i+1):=by
  rw[<- hh₄];exact ah.to λo q=>zal _ (B.extBut it o (zaU aj) (M.extBut it o (zaU aj) q))
 show wpAny _ _ (zcE (.ref e) >>= _) _ _ ⟨h₄,g,d,tk+1,os⟩;rw[hsz];clear hh₄ aa B W M Y G ah hsz U ac N;refine zaa ?_
 ·unfold zcE
  refine zaa (zaQ ab rfl (x:=.none) rfl (zaf ?_));simp only[if_true];refine zaa (zbM ?_);refine zaa (zaQ ab rfl (x:=ak) rfl ?_);refine zaa (zby ab (by simp) λai ag z=>?_);replace z:za4 e h₄ ai:=z;replace ag:zbA ai e it ((i:Int)+1) x:=ag;show wpAny _ _ (zdC (.ref e) (.ref hp.objs.size) >>= _) _ _ ⟨ai,g,d,tk+1,os⟩;refine zaa ?_
  ·unfold zdC
   refine zaa (zby ag (by simp) λal ad J=>?_);replace J:za4 e ai al:=J;replace ad:IsEnumOut al e it ((i:Int)+1) x hp.objs.size:=ad;refine zby ad (by simp) λam ae F=>?_
   replace F:za4 e al am:=F;replace ae:IsEnumOut am e it ((i:Int)+1) x hp.objs.size:=ae;refine zaa (zdB (zaf ⟨_,rfl,hQ am ae ?_ ?_ ?_ ?_⟩))
   ·exact an.to λo q=>F.extBut it o (zaU aj) (J.extBut it o (zaU aj) (z.extBut it o (zaU aj) q))
   ·exact F.extBut _ _ (zbq as) (J.extBut _ _ (zbq as) (z.extBut _ _ (zbq as) aq))
   ·rw[F.1,J.1,z.1,au]
   ·exact λb o af ar hb=>F.extBut b o af (J.extBut b o af (z.extBut b o af (aw b o af ar hb)))
theorem IB{t:Bool}{e it l:Addr}{i:Nat}{items:Array Value}{x B:Value}{Q:Option Value->zab->Prop}
  (G:zbA s.heap e it i B) (q:SIt t s.heap it l i) (J:SSq t s.heap l items) (hx:items[i]?=some x) (z:e≠it)
  (M:∀h', IsEnumOut h' e it ((i:Int)+1) x s.heap.objs.size -> SIt t h' it l (i+1) ->
   h'.get? s.heap.objs.size=some {cls:=.type "tuple",data:=.seq #[.int i s.toks,x]}->h'.objs.size=s.heap.objs.size+1->
   (∀b o,b≠e->b≠it->s.heap.get? b=some o->h'.get? b=some o)->Q (some (.ref s.heap.objs.size)) {s with heap:=h',toks:=s.toks+1}) :
  wpAny (model prog w) A (za2 (.ref e)) Q E s:=by
 have hT:s.TypeIs (.ref e) "enumerate" := ⟨_,G,rfl⟩;unfold za2;exact zaa (zcD (zbH (name:=zbi "__next__") hT zdH
  (zbj zdH hT F.entry_enumerate_next
   (IJ G q J hx z λh' a b c d k=>zaf (M h' a b c d k)) (F.args_enumerate_next_1 _))))
theorem LM{t:Bool}{i:Nat}{items:Array Value}{Q:Option Value->zab->Prop}(U:A.handled=none)
  (G:zbA s.heap e it i old) (B:SIt t s.heap it l i) (M:SSq t s.heap l items) (hx:items[i]?=none)
  (N:∀h',Heap.ExtBut it s.heap h'->Q none {s with heap:=h'}):wpAny (model prog w) A (za2 (.ref e)) Q E s:=by
 have hT:s.TypeIs (.ref e) "enumerate" := ⟨_,G,rfl⟩;unfold za2;refine zaa (zcD (zbH (name:=zbi "__next__") hT zdH
  (zbj zdH hT F.entry_enumerate_next ?_ (F.args_enumerate_next_1 _))))
 show wpAny _ _ (field (.ref e) 2 >>= _) _ _ _;refine zaa (zaQ G rfl (x:=.ref it) rfl ?_);refine zaa (next_end U B M hx λh' x q z=>?_);obtain⟨o,W,J⟩:=z;refine zaa (zcw (T := "StopIteration") (b:=true) ⟨o,W,J⟩ isSubtype_stop ?_);exact zaf (N _ q)
end
def ItE(K:zae)(t:Bool)(l:Addr):It:=
 ⟨λi H => ∃xs, BH K t H l xs /\ i<xs.length, λi H x H' => ∃p u, x = .ref p /\ H p = none /\ H' = upd H p (.tup [.int (i:Int), u]) /\ ∀xs, BH K t H l xs -> xs[i]? = some u,
  λi H=>∃xs,BH K t H l xs/\xs.length<=i⟩
theorem GH{P:zah}{w:World}{K:zae}{Y:List Expr}{x1}{tp:Pos}(t:Bool){e it l:Addr}(W:e≠it) :
  Turn P w K (.Tuple Y x1 tp) (ItE K t l) [e,it] e (λi h=>(∃F,zbA h e it (i:Nat) F)/\SIt t h it l i) where
 mem:=by simp
 obj:=by
  rintro i h ⟨⟨F,G⟩,⟨o1,e1,_,d1⟩⟩ c z;simp only[zaV,za0,or_false]at z;rcases z with rfl|rfl
  ·exact⟨_,G,λv q=>by cases q⟩
  ·exact⟨o1,e1,λv q=>by rw[d1]at q;cases q⟩
 keep:=λi h h' ⟨⟨F,G⟩,N⟩ k=>⟨⟨F,k e (by simp) _ G⟩,N.to λo q=>k it (by simp) o q⟩
 item:=by
  intro X hP hw hK z i pins s σ H E I U st hg;subst hP hw hK;obtain⟨⟨F,G⟩,N⟩:=st;obtain⟨xs,q1,yC⟩:=hg;obtain⟨aa,r1,p1⟩:=i4 I q1;have e1:xs[i]?=some xs[i]:=by simp[yC]
  obtain⟨u,eu,ru⟩:=r1.get e1;refine IB G N p1 (x:=u) (by simpa using eu) W λh' a1 a2 a3 a4 J=>⟨_,rfl,?_⟩
  refine wpAny_letOwnedTupleGo_enum (s:={s with heap:=h',toks:=s.toks+1}) a1 λh2 ae sb=>?_
  have zz:∀c,c∈[e,it]->c<s.heap.objs.size:=λc z=>by
   simp only[zaV,za0,or_false]at z;rcases z with rfl|rfl
   ·exact zao G
   ·obtain⟨o,q,_⟩:=N;exact zao q
  have M:∀c o,c≠e->h'.get? c=some o->h2.get? c=some o:=λc o z q=>sb.extBut _ _ z q
  have I1:Inv X pins σ H {s with heap:=h2,toks:=s.toks+1}:=iS I U λc o z q=>by
   simp only[zaV,za0,or_false,not_or]at z;exact M c o z.1 (J c o z.1 z.2 q)
  have B:H s.heap.objs.size=none:=I.fresh;have ad:h2.get? s.heap.objs.size=some {cls:=.type "tuple",data:=.seq #[.int i s.toks,u]}:=M _ _ (zbq (zz e (by simp))) a3;have I2:Inv X pins σ (upd H s.heap.objs.size (.tup [.int (i:Int),xs[i]])) {s with heap:=h2,toks:=s.toks+1}:=by
   have af:HOk X.prog X.w (upd H s.heap.objs.size (.tup [.int (i:Int),xs[i]])) h2:=λc ob q=>by
    by_cases z:c=s.heap.objs.size
    ·subst z;rw[aI]at q;cases q
     exact⟨by show 2<=zai;decide,[.int i s.toks,u],.cons ⟨_,rfl⟩ (.cons ru .nil),_,ad,rfl,0,rfl,rfl⟩
    ·rw[aF z]at q
     exact(I1.hok c ob q).stay (λ_ _ _ q=>q) (λd q=>by rw[aF (bH q B)];exact q) λd ag q=>by rw[aF (bH q B)];exact q
   refine I.call' (s':={s with heap:=h2,toks:=s.toks+1}) (ch:=[e,it]) rfl ⟨λc o q _ _ hx=>?_,λc o q _ _ hx=>⟨o.slots,?_⟩,λc o q n hx=>by rw[aF (zaE (zao q))];exact n,λc o q hx=>⟨o,?_⟩,λc ag q=>by rw[aF (bH q B)];exact q,λc o' u' q=>by rw[aF (bH q B)];exact q,λc ps q=>⟨#[],by rw[aF (bH q B),q];simp⟩⟩ af I.bare λb hb=>?_
   ·simp only[zaV,za0,or_false,not_or]at hx
    exact M c o hx.1 (J c o hx.1 hx.2 q)
   ·simp only[zaV,za0,or_false,not_or]at hx
    exact M c o hx.1 (J c o hx.1 hx.2 q)
   ·simp only[zaV,za0,or_false,not_or]at hx
    exact M c o hx.1 (J c o hx.1 hx.2 q)
   ·obtain⟨_,f1,_,f3,f4,f5⟩:=U b hb
    exact⟨f3,f1,f4,f5⟩
  refine⟨.ref s.heap.objs.size,_,I2,rfl,⟨_,_,rfl,B,rfl,λas g1=>by rw[<- wU I q1 g1];exact e1⟩,⟨⟨_,ae⟩,a2.to λo q=>M _ o (zaU W) q⟩,λc z=>?_⟩;rw[aF (zaE (zz c z))];exact(U c z).1
 done:=by
  intro X hP hw hK z i pins s σ H E I U st hg;subst hP hw hK;obtain⟨⟨F,G⟩,N⟩:=st;obtain⟨xs,q1,am⟩:=hg;obtain⟨aa,r1,p1⟩:=i4 I q1;have n1:=r1.length;refine LM (I.ok.hd z) G N p1 (by simp;lia) λh' J=>⟨rfl,iS (t':=s.toks) I U λc o z q=>?_⟩
  simp only[zaV,za0,or_false,not_or]at z;exact J c o z.2 q
 self:=λ_ _ _ _ _ st h=>let ⟨⟨_,G⟩,_⟩:=st;wpAny_pyIter_enum G h
theorem boot_enumerate:zaH "enumerate" = some (.type "enumerate"):=by first|rfl|decide +kernel
def YV(K:zae)(ta:TA):TI:=λσ H R=>ta σ H λvs H1=>∃t l xs,vs=[.ref l]/\BH K t H1 l xs/\R (ItE K t l) H1
theorem QH{X:Cx}{z:List Expr}{x1}{tp:Pos}{a:Expr}{ta:TA}{p pos:Pos}(W:Gl X "enumerate")(Y:X.mg "enumerate" = none)(ha:PA X [a] ta)(hs:zag [a] X.env=[(false,eval a X.env)]:=by rfl) :
  PI X (.Tuple z x1 tp) (.Call (.Name "enumerate" p) [a] [] pos) (YV X.K ta):=by
 intro pins s σ H R I h;refine Call_ (lS I W Y boot_enumerate (zcP (cS (ha pos pins s σ H _ I h) λus J ⟨vs,H1,F,r1,M⟩=>?_) (by rw[hs];rfl) rfl));obtain⟨t,l,xs,rfl,M,q⟩:=M;obtain⟨u,rfl,ru⟩:=vals1 r1;cases ru;obtain⟨N,_,p1⟩:=i4 F M;refine HV p1 λh' U G k=>?_
 refine wpAny_pyIter_enum U ?_;have D:J.heap.objs.size+1≠J.heap.objs.size:=by lia
 refine⟨_,[_,_],_,_,H1,rfl,F.kept (t':=J.toks) k,GH t D,⟨⟨_,U⟩,G⟩,λc B=>F.fpOk ?_ (F.hok.fresh ?_),q⟩
 ·simp only[zaV,za0,or_false]at B
  rcases B with rfl|rfl <;> lia
 ·simp only[zaV,za0,or_false]at B
  rcases B with rfl|rfl <;> lia
end My
namespace P
open PySem PySem.Spec PyProof.Rows L2
noncomputable def gI:Nat->List D->List D
 | _,[]=>[]
 | k,x::xs=>.tup [.int (k:Int),x]::gI (k+1) xs
def F6(f:Lv):Lv:=λρ=>(f ρ).bind λds=>match ds with
 | [a]=>(gX a).map (gI 0)
 | _=>none
theorem h7:∀ {xs:List D} {k i:Nat} {d:D},(gI k xs)[i]?=some d->∃x,xs[i]?=some x/\d=.tup [.int ((k+i:Nat):Int),x]
 | [],k,i,d,h=>by simp[gI]at h
 | x::xs,k,0,d,h=>by simp[gI]at h;exact⟨x,rfl,h.symm⟩
 | x::xs,k,i+1,d,h=>by
  obtain⟨y,q,z⟩:=h7 (xs:=xs) (k:=k+1) (i:=i) (by simpa[gI]using h);exact⟨y,by simpa using q,by rw[z];congr 4;lia⟩
theorem fA:∀(xs:List D) (k:Nat),(gI k xs).length=xs.length
 | [],_=>rfl
 | x::xs,k=>by simp[gI,fA xs]
theorem J0{G}(hg:Gl X "enumerate")(hm:X.mg "enumerate" = none)(U:BG X O [a] f)(hs:zag [a] X.env=[(false,eval a X.env)]:=by rfl) :
  PDI X O (.Tuple elts G tp) (.Call (.Name "enumerate" p) [a] [] pos) (F6 f):=PI.mono (My.QH hg hm U hs) λσ H R ⟨H0,A0,A,E,ρ,items,st,e,q⟩=>by
 obtain⟨ds,e1,e⟩:=bind_some e;refine⟨H0,A0,A,E,ρ,ds,st,e1,λvs H1 G r1=>?_⟩;split at e
 case h_2=>cases e
 rename_i da;obtain⟨xs,e2,rfl⟩:=map_some e;obtain⟨v,rfl,r2⟩:=r1.one;obtain⟨Y,F,us,rfl,q1,_,k1⟩:=wZ (K:=X.K) e2 r2;refine⟨Y,F,us,rfl,q1,q _ H1 [.rep da (.ref F)] G (λp hp=>?_) ?_⟩
 ·rw[List.mem_singleton.mp hp];exact r2
 ·intro A' H' lv N i
  have W:Rep A' H' da (.ref F):=N (.rep da (.ref F)) (zat ..);obtain⟨z,g1,B⟩:=k1 A' H' W;refine⟨λhi=>⟨z,g1,by rw[B.length];rw[fA]at hi;exact hi⟩,λd hd=>?_⟩;obtain⟨x,ex,rfl⟩:=h7 hd;obtain⟨u,J,ru⟩:=B.get' ex;refine⟨⟨z,g1,(List.getElem?_eq_some_iff.mp J).1⟩,λx' H2 ⟨p,u',e4,n,e5,e6⟩=>?_⟩;subst e4 e5;have M:=e6 z g1;rw[J]at M;cases M;rw[zaS];exact⟨Ext.new n,.tup aI (.cons (.int _) (.cons (ru.ext (Ext.new n)) .nil))⟩
@[simp] theorem q_enum:F6 f ρ=(f ρ).bind λds=>match ds with
 | [a]=>(gX a).map (gI 0)
 | _=>none:=rfl
end P
namespace P
open L2
structure Ro where
 j:Int
 k:Int
 a:Int
 b:Int
 p:Int
structure GR(M many:Int)(rs:List Ro):Prop where
 len:rs.length<=12
 jk:∀r∈rs,0<=r.j/\r.j<r.k/\r.k<many
 ab:∀r∈rs,(0<=r.a/\r.a<M)/\0<=r.b/\r.b<M
 pr:∀r∈rs,0<=r.p/\r.p<=10^30
noncomputable def mC(rs:List Ro)(n:Int):Option Ro:=if 0<=n then rs[n.toNat]? else none
theorem qS(h:mC rs n=some r):r∈rs:=by
 unfold mC at h;split at h
 ·exact zav h
 ·cases h
theorem ML(h:mC rs n=some r):0<=n/\n<(rs.length:Int):=by
 unfold mC at h;split at h
 ·rename_i h0
  have:=(List.getElem?_eq_some_iff.mp h).1
  lia
 ·cases h
theorem TY(q:0<=n)(h:n<(rs.length:Int)):∃r,mC rs n=some r:=by
 unfold mC;rw[if_pos q];have:n.toNat<rs.length:=by lia
 exact⟨rs[n.toNat],by simp[this]⟩
def gw(rs:List Ro):Int->List Int->Option Int
 | at_,[]=>some at_
 | at_,n::w=>(mC rs n).bind λr=>if r.j=at_ then gw rs r.k w else none
theorem nY:∀ {at_:Int} {v w:List Int},gw rs at_ (v++w)=(gw rs at_ v).bind λe=>gw rs e w
 | at_,[],w=>rfl
 | at_,n::v,w=>by
  show((mC rs n).bind λr=>if r.j=at_ then gw rs r.k (v++w)else none)=_;cases e:mC rs n with
  | none=>simp[gw,e]
  | some r=>
   by_cases h:r.j=at_
   ·simp[gw,e,h,nY (v:=v) (w:=w)]
   ·simp[gw,e,h]
theorem Q0(h:gw rs at_ w=some e)(z:mC rs n=some r)(q:r.j=e):gw rs at_ (w++[n])=some r.k:=by
 rw[nY,h];simp[gw,z,q]
theorem xV:∀ {at_ e:Int} {w:List Int},gw rs at_ w=some e->∀n∈w,∃r,mC rs n=some r
 | at_,e,[],_,n,h=>nomatch h
 | at_,e,m::w,h,n,hn=>by
  unfold gw at h;cases er:mC rs m with
  | none=>rw[er]at h;cases h
  | some r=>
   rw[er]at h;simp only[zcF]at h;split at h
   ·rcases List.mem_cons.mp hn with z|z
    ·rw[z];exact⟨r,er⟩
    ·exact xV h n z
   ·cases h
theorem lW(g:GR M many rs):∀ {at_ e:Int} {w:List Int},gw rs at_ w=some e->at_+(w.length:Int)<=e
 | at_,e,[],h=>by cases h;simp
 | at_,e,m::w,h=>by
  unfold gw at h;cases er:mC rs m with
  | none=>rw[er]at h;cases h
  | some r=>
   rw[er]at h;simp only[zcF]at h;split at h
   ·have:=lW g h
    have:=(g.jk r (qS er)).2.1;simp only[zaz];lia
   ·cases h
def gL(rs:List Ro)(w:List Int):Int:=(w.map λn=>match mC rs n with|some r=>r.p|none=>0).sum
theorem eD:gL rs (v++w)=gL rs v+gL rs w:=by
 unfold gL;rw[zaO,zeg]
theorem S8(g:GR M many rs):∀ {at_ e:Int} {w:List Int},gw rs at_ w=some e->at_<many->e<many
 | at_,e,[],h,hl=>by cases h;exact hl
 | at_,e,m::w,h,hl=>by
  unfold gw at h;cases er:mC rs m with
  | none=>rw[er]at h;cases h
  | some r=>
   rw[er]at h;simp only[zcF]at h;split at h
   ·exact S8 g h (g.jk r (qS er)).2.2
   ·cases h
noncomputable def fl{α:Type}(h:Nat->Ro->List α):Nat->List Ro->List α
 | _,[]=>[]
 | m,r::rs=>h m r++fl h (m+1) rs
noncomputable def sg(q:Nat->Ro->Int):Nat->List Ro->Int
 | _,[]=>0
 | m,r::rs=>q m r+sg q (m+1) rs
theorem C0{B:Type}{h:Nat->Ro->List B}{a:B}:∀ {rs:List Ro} {m:Nat},a∈fl h m rs↔∃i r,rs[i]?=some r/\a∈h (m+i) r
 | [],m=>by simp[fl]
 | r::rs,m=>by
  unfold fl;rw[List.mem_append,C0 (rs:=rs) (m:=m+1)];constructor
  ·rintro(z|⟨i,q,e,z⟩)
   ·exact⟨0,r,rfl,z⟩
   ·exact⟨i+1,q,by simpa using e,by rw[show m+(i+1)=m+1+i by lia];exact z⟩
  ·rintro⟨i,q,e,z⟩
   cases i with
   | zero=>simp at e;subst e;exact .inl z
   | succ i=>exact .inr ⟨i,q,by simpa using e,by rw[show m+1+i=m+(i+1) by lia];exact z⟩
theorem u4{q:Type}{h:Nat->Ro->List q}:∀ {a b:List Ro} {m:Nat},fl h m (a++b)=fl h m a++fl h (m+a.length) b
 | [],b,m=>by simp[fl]
 | r::a,b,m=>by
  show h m r++fl h (m+1) (a++b)=(h m r++fl h (m+1) a)++_;rw[u4,List.append_assoc,zaz,show m+1+a.length=m+(a.length+1) by lia]
theorem PV{q:Type}{h:Nat->Ro->List q}{rs:List Ro}{i:Nat}{r:Ro}(e:rs[i]?=some r):fl h 0 (rs.take (i+1))=fl h 0 (rs.take i)++h i r:=by
 have hi:i<rs.length:=(List.getElem?_eq_some_iff.mp e).1;rw[zc0,e,u4];have:(rs.take i).length=i:=by simp;lia
 simp[this,fl]
def bX(rs:List Ro)(k:Int):Nat->Int->List (List Int)
 | 0,_=>[]
 | n+1,x=>if x=k then [[]]else fl (λi r=>if r.j=x/\r.k<=k then(bX rs k n r.k).map λw=>(i:Int)::w else []) 0 rs
theorem EF{rs:List Ro}{i:Nat}:mC rs (i:Int)=rs[i]?:=by unfold mC;rw[if_pos (by lia)];simp
theorem lH{rs:List Ro}{k:Int}:∀ {n:Nat} {x:Int} {w:List Int},w∈bX rs k n x->gw rs x w=some k
 | 0,x,w,h=>nomatch h
 | n+1,x,w,h=>by
  unfold bX at h;split at h
  ·rename_i e
   rw[List.mem_singleton.mp h,e];rfl
  ·obtain⟨i,r,e,hw⟩:=C0.mp h
   rw[zaS]at hw;split at hw
   ·rename_i hc
    obtain⟨v,q,rfl⟩:=List.mem_map.mp hw;have:=lH q;simp[gw,EF,e,hc.1,this]
   ·cases hw
theorem mX(g:GR M many rs):∀ {n:Nat} {x:Int} {w:List Int},k-x<(n:Int)->gw rs x w=some k->w∈bX rs k n x
 | 0,x,w,hn,h=>by have:=lW g h;simp at hn;lia
 | n+1,x,w,hn,h=>by
  unfold bX;cases w with
  | nil=>cases h;rw[if_pos rfl];exact List.mem_singleton.mpr rfl
  | cons m v=>
   have q:=lW g h;simp only[zaz]at q;rw[if_neg (by lia)];unfold gw at h;cases er:mC rs m with
   | none=>rw[er]at h;cases h
   | some r=>
    rw[er]at h;simp only[zcF]at h;split at h
    ·rename_i hj
     have F:=ML er;obtain⟨i,rfl⟩:∃i:Nat,m=(i:Int):=⟨m.toNat,by lia⟩;rw[EF]at er;have z:=(g.jk r (zav er)).2.1;have B:=lW g h;refine C0.mpr ⟨i,r,er,?_⟩;rw[zaS,if_pos ⟨hj,by lia⟩];exact List.mem_map.mpr ⟨v,mX g (by simp at hn;lia) h,rfl⟩
    ·cases h
theorem sN{z:Type}[DecidableEq z]:∀ {l K:List z},l.Nodup->(∀x∈l,x∈K)->l.length<=K.length
 | [],K,_,_=>zaI _
 | a::l,K,h,hs=>by
  have q:=hs a (zat ..);have h2:=List.nodup_cons.mp h;have:=sN (l:=l) (K:=K.erase a) h2.2 λx hx=>(List.mem_erase_of_ne λe=>h2.1 (by rw[<- e];exact hx)).mpr (hs x (zap _ hx))
  rw[List.length_erase_of_mem q]at this;have:=List.length_pos_of_mem q;simp only[zaz];lia
theorem jX{z:Type}{h:Nat->Ro->List z}{B:Nat}:∀ {rs:List Ro} {m:Nat},(∀i r,rs[i]?=some r->(h (m+i) r).length<=B)->(fl h m rs).length<=rs.length*B
 | [],m,_=>by simp[fl]
 | r::rs,m,hb=>by
  unfold fl;rw[zbb,zaz,Nat.succ_mul];have h1:=hb 0 r rfl;have h2:=jX (h:=h) (B:=B) (rs:=rs) (m:=m+1) λi q e=>by
   have:=hb (i+1) q (by simpa using e);rw[show m+1+i=m+(i+1) by lia];exact this
  simp only[Nat.add_zero]at h1
  lia
theorem jT{M many:Int}{rs:List Ro}(g:GR M many rs){k:Int}:∀(n:Nat) (x:Int) (d:Nat),k-x<=(d:Int)->(bX rs k n x).length<=12^d
 | 0,x,d,_=>zaI _
 | n+1,x,d,hd=>by
  unfold bX;split
  ·exact Nat.one_le_pow _ _ (by decide)
  ·by_cases hx:x<k
   ·obtain⟨e,rfl⟩:∃e,d=e+1:=⟨d-1,by lia⟩
    refine zaK (jX (B:=12^e) λi r er=>?_) ?_
    ·split
     ·rename_i hc
      rw[zam];have q:=g.jk r (zav er);exact jT g n r.k e (by lia)
     ·exact zaI _
    ·rw[Nat.pow_succ,Nat.mul_comm]
     exact Nat.mul_le_mul_left _ g.len
   ·refine zaK (jX (B:=0) λi r er=>?_) (by simp)
    split
    ·rename_i hc
     have q:=g.jk r (zav er)
     lia
    ·exact zaI _
end P
namespace P
open PySem PySem.Spec PyProof.Rows L2
theorem cV{n:Nat}(h:n<=1000000):b8 [.int (n:Int)]=some (aS 0 1 n):=by
 show(if pY (n:Int)then _ else _)=_;rw[if_pos (by simp only[pY,zaP,decide_eq_true_eq];lia)];simp
theorem dZ(q:0<=y)(h:y<=1000000):b8 [.int y]=some (aS 0 1 y.toNat):=by
 show(if pY y then _ else _)=_;rw[if_pos (by simp only[pY,zaP,decide_eq_true_eq];lia)]
theorem LH(h:v.length+w.length<=1000000):dN (tupI v) (tupI w)=some (tupI (v++w)):=by
 unfold tupI;rw[q_addAT,if_pos (by simp only[aU,zam];exact decide_eq_true h),zaO]
noncomputable def mD(r:Ro):D:=.tup [.int r.j,.int r.k,.int r.a,.int r.b,.int r.p]
theorem xY(h:mC rs n=some r):gN (rs.map mD) n=some (mD r):=by
 have q:=ML h;obtain⟨j,rfl⟩:∃j:Nat,n=(j:Int):=⟨n.toNat,by lia⟩;unfold mC at h;rw[if_pos (by lia)]at h;refine bR ?_;rw[zaB];simp at h;rw[h];rfl
theorem at0:gN (a::l) 0=some a:=bR (j:=0) rfl
theorem at1:gN (a::b::l) 1=some b:=bR (j:=1) rfl
theorem at2:gN (a::b::c::l) 2=some c:=bR (j:=2) rfl
theorem SA:gN (a::b::c::d::l) 3=some d:=bR (j:=3) rfl
theorem qj:gN (a::b::c::d::e::l) 4=some e:=bR (j:=4) rfl
theorem W3:aJ (mD r) (.int 0)=some (.int r.j):=by simp[mD,at0]
theorem WU:aJ (mD r) (.int 1)=some (.int r.k):=by simp[mD,at1]
theorem qaf:aJ (mD r) (.int 4)=some (.int r.p):=by simp[mD,qj]
theorem jS{K:Nat}{f:Ev}{rest:List (Option D)}{F:Int->D}(h:∀k:Int,0<=k->k<(K:Int)->f (some (.int k)::rest)=some (F k)):∀(l:List Nat) (o:Option D),(∀k∈l,k<K)->bD (aR 0) fQ f (l.map λ(k:Nat)=>D.int (k:Int)) (o::rest)=some (l.map λ(k:Nat)=>F (k:Int))
 | [],o,_=>rfl
 | k::l,o,hl=>by
  have ih:=jS h l (some (.int (k:Int))) λm z=>hl m (zap _ z)
  have q:=h (k:Int) (by lia) (by have:=hl k (zat ..);lia);simp[bD,q,ih]
theorem rJ:∀(ws:List (List Int)) (o:Option D),(∀w∈ws,w.length<=1000)->bD (aR 0) fQ (a7 dN (eY (aB (aD 1) aW)) (aD 0)) (ws.map tupI) [o,some (.int t)]=some ((ws.map λw=>t::w).map tupI)
 | [],o,_=>rfl
 | w::ws,o,h=>by
  have ih:=rJ (t:=t) ws (some (tupI w)) λv z=>h v (zap _ z)
  have q:=LH (v:=[t]) (w:=w) (by have:=h w (zat ..);simp;lia);have B:D.tup [.int t]=tupI [t]:=rfl;simp only[List.singleton_append]at q;simp[-zaq,bD,B,q,ih]
end P
namespace My
open PySem PySem.Spec PyProof.Rows L2
noncomputable def ZQ(a:Bool):String:=if a=true then "str_ascii_iterator" else "str_iterator"
def ItS(x:Str):It:=⟨λi H=>i<x.cps.size,λi H y H'=>H'=H/\∃c,x.cps[i]?=some c/\y=.str ⟨#[c]⟩,λi H=>x.cps.size<=i⟩
theorem LA{P:zah}{w:World}{K:zae}{tg:Expr}(a:Bool)(x:Str)(t:Tok)(it:Addr):Turn P w K tg (ItS x) [it] it (λi h=>h.IsStrIter it (ZQ a) x t i) where
 mem:=by simp
 obj:=λi h st b q=>by
  have e:b=it:=by simpa using q
  subst e;obtain⟨o,e,c,d⟩:=st;exact⟨o,e,λv z=>by rw[d]at z;cases z⟩
 keep:=λi h h' st k=>let ⟨o,ho,r⟩:=st;⟨o,k it (by simp) o ho,r⟩
 item:=by
  intro X hP hw W U i pins s σ H E I J st Y;subst hP hw W;obtain⟨F,f1,f2,G,N,M⟩:=J it (by simp);have hi:i<x.cps.size:=Y;have hx:x.cps[i]?=some x.cps[i]:=by simp[hi]
  cases a with
  | true=>
   refine wpAny_pyNext_ascii_item st hx λh' B sb=>?_
   have I1:Inv X pins σ H {s with heap:=h',toks:=s.toks+1}:=I.turned (t':=s.toks+1) (λb o q e=>(sb.2 b q).trans e) F f1 G N M;obtain⟨o,e,c,d⟩:=id B;exact⟨_,rfl,uF (s:={s with heap:=h',toks:=s.toks+1}) e c d (by decide) ⟨.str ⟨#[x.cps[i]]⟩,H,I1,⟨_,rfl⟩,⟨rfl,_,hx,rfl⟩,B,λb q=>(J b q).1⟩⟩
  | false=>
   refine wpAny_pyNext_wide_item st hx λh' B sb=>?_
   have I1:Inv X pins σ H {s with heap:=h',toks:=s.toks+1}:=I.turned (t':=s.toks+1) (λb o q e=>(sb.2 b q).trans e) F f1 G N M;obtain⟨o,e,c,d⟩:=id B;exact⟨_,rfl,uF (s:={s with heap:=h',toks:=s.toks+1}) e c d (by decide) ⟨.str ⟨#[x.cps[i]]⟩,H,I1,⟨_,rfl⟩,⟨rfl,_,hx,rfl⟩,B,λb q=>(J b q).1⟩⟩
 done:=by
  intro X hP hw W U i pins s σ H E I J st Y;subst hP hw W;obtain⟨F,f1,f2,G,N,M⟩:=J it (by simp);have hi:x.cps.size<=i:=Y;have hx:x.cps[i]?=none:=by simp[hi]
  cases a with
  | true=>exact wpAny_pyNext_ascii_end (I.ok.hd U) st hx λh' eb=>⟨rfl,I.turned (t':=s.toks) (λb o q e=>eb b o q e) F f1 G N M⟩
  | false=>exact wpAny_pyNext_wide_end (I.ok.hd U) st hx λh' eb=>⟨rfl,I.turned (t':=s.toks) (λb o q e=>eb b o q e) F f1 G N M⟩
 self:=λ_ _ _ _ _ st h=>by
  cases a with
  | true=>exact wpAny_pyIter_striter_ascii st h
  | false=>exact wpAny_pyIter_striter_wide st h
def qaI(tl:TE):TI:=λσ H R=>tl σ H λx H1=>∃y,x=.str y/\R (ItS y) H1
section
variable {X:Cx}{tg:Expr}
theorem T5{l:Expr}{tl:TE}(F:PE X l tl):PI X tg l (qaI tl):=by
 intro pins s σ H R I h;refine cS (F pins s σ H _ I h) λv z ⟨x,H1,B,r1,J⟩=>?_
 obtain⟨y,rfl,q⟩:=J;obtain⟨t,rfl⟩:=r1;have fin:∀a:Bool,PIE X pins σ tg R (.ref z.heap.objs.size) {z with heap:=z.heap.push {cls:=.type (ZQ a),data:=.fields #[.str y t,.int 0 0]} }:=λa=>by
  refine⟨z.heap.objs.size,[z.heap.objs.size],_,_,H1,rfl,B.kept (t':=z.toks) λb o e=>zal _ e,LA a y t _,⟨_,zaD _ rfl,rfl,rfl⟩,λb G=>?_,q⟩;have e:b=z.heap.objs.size:=by simpa using G
  subst e;exact B.fpOk (zaj _) (B.hok.fresh (zaj _))
 cases ha:y.cps.all (·<128)
 ·exact wpAny_pyIter_wide ha (fin false)
 ·exact wpAny_pyIter_ascii ha (fin true)
theorem GZ:OpR X (zay .LtE) (λx y H Q=>∃i j,x=.str i/\y=.str j/\Q (.bl (!decide (j.cps.toList<i.cps.toList))) H):=by
 intro pins s σ H x y v u Q I B z h;obtain⟨i,j,rfl,rfl,q⟩:=h;obtain⟨t,rfl⟩:=B;obtain⟨t',rfl⟩:=z;exact PySem.P.le_str ⟨.bl _,H,I,rfl,q⟩
theorem zX:∀ {ss:List Str} {its:List Value},Vals (ss.map V.str) its->StrsAre its ss
 | [],_,.nil=>.nil
 | x::ss,_,.cons r t=>by
  obtain⟨k,rfl⟩:=r;exact .cons x k (zX t)
def rJoin(K:zae):V->List V->Hp->VK->Prop:=λx vs H Q=>∃(sep:Str) (p:Addr) (ss:List Str),x=.str sep/\vs=[.ref p]/\SqL K H p (ss.map V.str)/\(ss.map (·.length)).sum+ss.length*sep.length<=16777216/\Q (.str (Txt.join sep ss)) H
theorem FU:qf X "str.join" (rJoin X.K):=by
 intro pins s σ H x vs v W Q I N U h;obtain⟨sep,p,ss,rfl,rfl,F,G,q⟩:=h;obtain⟨t,rfl⟩:=N;obtain⟨u,rfl,J⟩:=U.one;cases J;obtain⟨z,B,M,_⟩:=I.list F;exact join_list (items:=z.toArray) M.isList (by simpa using zX B) G λt' k=>⟨.str (Txt.join sep ss),H,I.kept (t':=k) λ_ _ e=>e,⟨_,rfl⟩,q⟩
end
end My
namespace P
open PySem PySem.Spec PyProof.Rows L2
section
variable {X:Cx}{O O':List Nat}{L:Lp}
noncomputable def NV:List D->Option (List Str)
 | []=>some []
 | .str b::l=>(NV l).map (b::·)
 | _=>none
theorem yU:∀ {ds:List D} {ns:List Str} {vs:List V},NV ds=some ns->RepL A H ds vs->vs=ns.map V.str
 | [],_,_,e,.nil=>by cases e;rfl
 | d::ds,ns,_,e,.cons h t=>by
  cases d with
  | str b=>
   obtain⟨m,q,rfl⟩:=map_some e;cases RepB.str_inv (.of h);rw[yU q t];rfl
  | _=>cases e
theorem vT:∀bs:List Str,NV (bs.map .str)=some bs
 | []=>rfl
 | b::bs=>by rw[zak,NV,vT bs];rfl
def A5:D->D->Option D
 | .str sep,.lst l=>(NV l).bind λss=>if(ss.map (·.length)).sum+ss.length*sep.length<=16777216 then some (.str (Txt.join sep ss))else none
 | _,_=>none
theorem ET(J:PB X O o fo)(U:PB X O e fe)(M:∀ {to:TE} {t:TA},PE X o to->PA X [e] t->PE X (.Call (.Attribute o "join" apos) [e] [] cpos) (XB X.K "str" (My.rJoin X.K) to t))(hs:zag [e] X.env=(false,eval e X.env)::zag [] X.env:=by rfl):PD X O (.Call (.Attribute o "join" apos) [e] [] cpos) (a7 A5 fo fe):=
 PE.mono (M J (zY U EX hs)) <| by
  rintro σ H Q ⟨H0,A0,A,E,ρ,d,st,e,q⟩;obtain⟨x,ex,e⟩:=bind_some e;obtain⟨y,N,e⟩:=bind_some e;refine⟨H0,A0,A,E,ρ,x,st,ex,λv H1 F r1=>?_⟩;unfold A5 at e;split at e
  ·rename_i sep l _
   obtain⟨ss,es,e⟩:=bind_some e;by_cases z:(ss.map (·.length)).sum+ss.length*sep.length<=16777216
   ·rw[if_pos z]at e
    cases e;cases r1.str_inv;refine⟨rfl,H0,A0,A,E,ρ,[.lst l],st.mono F,by unfold aB aW;rw[N];rfl,λvs H2 G r2=>?_⟩;obtain⟨w,rfl,B⟩:=r2.one;obtain⟨p,W,rfl,h1,r3⟩:=B.lst_inv;rw[yU es r3]at h1;exact⟨sep,p,ss,rfl,rfl,.inl h1,z,q _ H2 (F.trans G) (.str _)⟩
   ·rw[if_neg z]at e;cases e
  ·cases e
theorem V8(h:(ss.map (·.length)).sum+ss.length*sep.length<=16777216):A5 (.str sep) (.lst (ss.map .str))=some (.str (Txt.join sep ss)):=by
 unfold A5;simp only[vT,zcF];rw[if_pos h]
noncomputable def RY:D->D->Option D
 | .int i,.int j=>some (.bl (decide (i<=j)))
 | .str i,.str j=>some (.bl (!decide (j.cps.toList<i.cps.toList)))
 | _,_=>none
theorem VZ:lA X (zay .LtE) RY:=OpR.mono (OpR.or YA My.GZ) <| by
 rintro x y H Q ⟨A,dx,G,d,F,B,z,e,q⟩;unfold RY at e;split at e
 ·cases e
  cases B.int_inv;cases z.int_inv;exact .inl ⟨_,_,rfl,rfl,q _ H (Ext.refl _ _) (.bl _)⟩
 ·cases e
  cases B.str_inv;cases z.str_inv;exact .inr ⟨_,_,rfl,rfl,q _ H (Ext.refl _ _) (.bl _)⟩
 ·cases e
@[simp] theorem q_leAI:RY (.int i) (.int j)=some (.bl (decide (i<=j))):=rfl
@[simp] theorem q_leAS:RY (.str i) (.str j)=some (.bl (!decide (j.cps.toList<i.cps.toList))):=rfl
def nJ(x y:D):Option D:=match x,y with
 | .str i,.str j=>some (.bl (!(!(Builtin.Str.occurrences j i 0 j.length 1).isEmpty)))
 | x,y=>xT x y
theorem GK(F:X.A.units+64<cLine):lA X (zay .NotIn) nJ:=OpR.mono (OpR.or (JZ F) wG) <| by
 rintro x y H Q ⟨A,dx,J,d,G,B,z,e,q⟩;unfold nJ at e;split at e
 ·cases e
  cases B.str_inv;cases z.str_inv;exact .inr ⟨_,_,rfl,rfl,q _ H (Ext.refl _ _) (.bl _)⟩
 ·exact .inl ⟨A,_,_,d,G,B,z,e,q⟩
noncomputable def signs(x:Str):List D:=x.cps.toList.map λc=>.str ⟨#[c]⟩
theorem TR:IP (My.ItS x) [] (signs x):=by
 intro A H M J i;have q:(signs x).length=x.cps.size:=by simp[signs]
 refine⟨λhi=>by rw[q]at hi;exact hi,λd hd=>?_⟩;have hi:i<x.cps.size:=by rw[<- q];exact(List.getElem?_eq_some_iff.mp hd).1
 refine⟨hi,λy H' ⟨e,c,z,B⟩=>?_⟩;subst e B;have:d=.str ⟨#[c]⟩:=by
  unfold signs at hd;rw[zaB]at hd;obtain⟨G,F,rfl⟩:=map_some hd;have:x.cps[i]?=some G:=by rw[<- zed];exact F
  rw[z]at this;cases this;rfl
 subst this;exact⟨Ext.refl _ _,.str _⟩
def fU(f:Ev):Lv:=λρ=>(f ρ).bind λd=>match d with
 | .lst l=>some l
 | .tup l=>some l
 | .dT l=>some (l.map λp=>.tup (p.1.map IV))
 | .str x=>some (signs x)
 | _=>none
@[simp] theorem q_lSeqA:fU f ρ=(f ρ).bind λd=>match d with
 | .lst l=>some l
 | .tup l=>some l
 | .dT l=>some (l.map λp=>.tup (p.1.map IV))
 | .str x=>some (signs x)
 | _=>none:=rfl
theorem JC(h:PD X O e f):PDI X O tg e (fU f):=PI.mono (PI.or (N9 h) (My.T5 h)) <| by
 rintro σ H R ⟨H0,A0,A,E,ρ,items,st,e,q⟩;obtain⟨d,z,e⟩:=bind_some e;cases d with
 | str x=>
  cases e;refine .inr ⟨H0,A0,A,E,ρ,_,st,z,λv H1 B r1=>?_⟩;cases RepB.str_inv (.of r1);exact⟨x,rfl,q _ H1 [] B (λp F=>nomatch F) TR⟩
 | lst l=>exact .inl ⟨H0,A0,A,E,ρ,items,st,by unfold NL;rw[z];exact e,q⟩
 | tup l=>exact .inl ⟨H0,A0,A,E,ρ,items,st,by unfold NL;rw[z];exact e,q⟩
 | dT l=>exact .inl ⟨H0,A0,A,E,ρ,items,st,by unfold NL;rw[z];exact e,q⟩
 | _=>cases e
end
structure GInt(mg:Str->Option Value)(x:Str)(i:Int):Prop where
 ex:∃t,mg x=some (.int i t)
section
variable {X:Cx}{O:List Nat}
end
@[simp] theorem q_eqS:qJ (.str a) (.str b)=some (.bl (decide (a=b))):=by
 unfold qJ GF;rw[if_pos (.inl rfl)];by_cases h:a=b
 ·subst h;simp
 ·have h2:¬ D.str a=D.str b:=λz=>h (by injection z)
  simp[h]
@[simp] theorem q_neS:uX (.str a) (.str b)=some (.bl (!decide (a=b))):=by
 unfold uX GF;rw[if_pos (.inl rfl)];by_cases h:a=b
 ·subst h;simp
 ·have h2:¬ D.str a=D.str b:=λz=>h (by injection z)
  simp[h]
theorem fZ{f rest:Sv}{ρ:cY}{R:D->Prop}(W:cY->Prop)(h:∃ρ',f ρ=some (.nx ρ')/\W ρ')(k:∀ρ',W ρ'->∃d,rest ρ'=some (.rt d)/\R d):∃d,dC f rest ρ=some (.rt d)/\R d:=by
 obtain⟨ρ',e,w⟩:=h;rw[aH e];exact k ρ' w
theorem FP{c:Bv}{f rest:Sv}{ρ:cY}{R:D->Prop}(b:Bool)(q:c ρ=some b)(B:b=true->∃d,f ρ=some (.rt d)/\R d)(z:b=false->∃d,rest ρ=some (.rt d)/\R d):∃d,dC (BJ c f SD) rest ρ=some (.rt d)/\R d:=by
 cases b with
 | true=>
  obtain⟨d,e,r⟩:=B rfl;exact⟨d,uB (by rw[qaO q];exact e),r⟩
 | false=>
  rw[aH (ρ':=ρ) (by rw[Z0 q];rfl)];exact z rfl
def eqN(n:Nat)(d:D):Prop:=∃x,iH d=some x/\x.nb=true/\x.dep<=n
theorem eqN.ok(h:eqN n d)(q:n<=60):fF d=true:=by
 obtain⟨x,e,a,b⟩:=h;unfold fF;rw[e];show(x.nb && decide (x.dep<=60))=true;rw[a,decide_eq_true (by lia)];rfl
theorem eqN.mono(h:eqN n d)(q:n<=m):eqN m d:=by
 obtain⟨x,e,a,b⟩:=h;exact⟨x,e,a,by lia⟩
theorem eqN.int:eqN n (.int i):=⟨.int i,rfl,rfl,zaI _⟩
theorem eqN.str:eqN n (.str s):=⟨.str s,rfl,rfl,zaI _⟩
theorem eqN.list:∀ {l:List D},(∀d∈l,eqN n d)->∃xs,i9 l=some xs/\My.GE xs=true/\My.l7 xs<=n
 | [],_=>⟨[],rfl,rfl,zaI _⟩
 | d::l,h=>by
  obtain⟨x,e,a,b⟩:=h d (zat ..);obtain⟨xs,F,z,G⟩:=eqN.list (l:=l) λq B=>h q (zap _ B)
  refine⟨x::xs,?_,?_,?_⟩
  ·rw[i9,e,F];rfl
  ·show(x.nb && My.GE xs)=true
   rw[a,z];rfl
  ·show max x.dep (My.l7 xs)<=n
   lia
theorem eqN.tup(h:∀d∈l,eqN n d):eqN (n+1) (.tup l):=by
 obtain⟨xs,e,a,b⟩:=eqN.list h;refine⟨.tup xs,?_,a,?_⟩
 ·rw[iH,e];rfl
 ·show My.l7 xs+1<=n+1
  lia
theorem zC{q:Type}{rest:List (Option D)}{g h:q->D}:∀(l:List q) (o:Option D),(∀a∈l,f (some (g a)::rest)=some (h a))->bD (aR 0) fQ f (l.map g) (o::rest)=some (l.map h)
 | [],o,_=>rfl
 | a::l,o,hf=>by
  have ih:=zC (f:=f) (rest:=rest) (g:=g) (h:=h) l (some (g a)) λb B=>hf b (zap _ B)
  have z:=hf a (zat ..);simp[-zad,-zac,aA,aC,bD,z,ih]
theorem xO{f:Ev}{rest:List (Option D)}{R:D->Prop}:∀(l:List D) (o:Option D),(∀a∈l,∃d,f (some a::rest)=some d/\R d)->∃ds,bD (aR 0) fQ f l (o::rest)=some ds/\ds.length=l.length/\∀d∈ds,R d
 | [],o,_=>⟨[],rfl,rfl,λ_ h=>nomatch h⟩
 | a::l,o,hf=>by
  obtain⟨ds,e,F,J⟩:=xO (f:=f) (rest:=rest) (R:=R) l (some a) λb M=>hf b (zap _ M)
  obtain⟨d,G,rd⟩:=hf a (zat ..);refine⟨d::ds,by simp[-zad,-zac,aA,aC,bD,G,e],by simp[F],λq B=>?_⟩;rcases List.mem_cons.mp B with z|z
  ·rw[z];exact rd
  ·exact J q z
theorem lT(q:0<=k)(h:k<(l.length:Int)):mB (.lst l) (.int k) e=some (.lst (l.set k.toNat e)):=by
 show(NY l.length k).map _=_;unfold NY;rw[if_pos q,if_pos h];rfl
theorem at_of(q:0<=k)(h:l[k.toNat]?=some d):gN l k=some d:=by
 obtain⟨j,rfl⟩:∃j:Nat,k=(j:Int):=⟨k.toNat,by lia⟩;exact bR (by simpa using h)
theorem uC(z:0<=k)(h:k<(l.length:Int)):∃d,d∈l/\l[k.toNat]?=some d/\gN l k=some d:=by
 have q:k.toNat<l.length:=by lia
 have e:l[k.toNat]?=some l[k.toNat]:=zaR q;exact⟨l[k.toNat],List.getElem_mem q,e,at_of z e⟩
theorem vQ(hd:d∈aS 0 1 n):∃i:Int,d=.int i/\0<=i/\i<(n:Int):=by
 unfold aS at hd;obtain⟨j,q,rfl⟩:=List.mem_map.mp hd;have:=List.mem_range.mp q;exact⟨0+(j:Int)*1,rfl,by lia,by lia⟩
theorem EQ:∀ {l:List D},(∀d∈l,∃s:Str,d=.str s)->∃ss:List Str,l=ss.map .str
 | [],_=>⟨[],rfl⟩
 | d::l,h=>by
  obtain⟨s,rfl⟩:=h d (zat ..);obtain⟨ss,e⟩:=EQ (l:=l) λq z=>h q (zap _ z)
  exact⟨s::ss,by rw[e];rfl⟩
theorem FD(I:Nat->cY->Prop)(J:cY->Prop)(h:∀n ρ,I n ρ->(c ρ=some true/\∃m ρ',m<n/\b ρ=some (.nx ρ')/\I m ρ')\/(c ρ=some false/\J ρ)):∀(fuel n:Nat) (ρ:cY),n<fuel->I n ρ->∃ρ',eT c b fuel ρ=some (.nx ρ')/\J ρ'
 | 0,n,ρ,hn,_=>absurd hn (Nat.not_lt_zero n)
 | fuel+1,n,ρ,hn,hi=>by
  rcases h n ρ hi with⟨q,m,ρ',M,G,F⟩|⟨q,B⟩
  ·obtain⟨z,e,B⟩:=FD I J h fuel m ρ' (by lia) F
   refine⟨z,?_,B⟩;unfold eT;rw[q,aA,if_pos rfl,G,aA];exact e
  ·refine⟨ρ,?_,B⟩
   unfold eT;rw[q,aA,if_neg zaA]
theorem G5{c:Bv}{b rest:Sv}{ρ:cY}{R:D->Prop}(I:Nat->cY->Prop)(J:cY->Prop)(n:Nat)(z:n<100000)(q:I n ρ)(h:∀n ρ,I n ρ->(c ρ=some true/\∃m ρ',m<n/\b ρ=some (.nx ρ')/\I m ρ')\/(c ρ=some false/\J ρ))(k:∀ρ',J ρ'->∃d,rest ρ'=some (.rt d)/\R d):∃d,dC (lP c b) rest ρ=some (.rt d)/\R d:=by
 obtain⟨ρ',e,B⟩:=FD I J h 100000 n ρ z q;have F:lP c b ρ=some (.nx ρ'):=e;rw[aH F];exact k ρ' B
theorem PD.pe(h:PD X O e f):PE X e (tD Rep O f):=h
noncomputable def isStar:Expr->Bool
 | .Starred ..=>true
 | _=>false
theorem cT(h:isStar e=false):zag (e::es) env=(false,eval e env)::zag es env:=by
 cases e <;> first|rfl|cases h
theorem iW:∀ {es:List Expr},(es.all λe=>!isStar e)=true->(zaG pos (zag es env)).any (·.1)=false
 | [],_=>by simp[zag,zaG]
 | e::es,h=>by
  rw[List.all_cons,zaP]at h;have q:isStar e=false:=by cases z:isStar e;rfl;rw[z]at h;exact absurd h.1 (by decide)
  have ih:=iW (pos:=pos) (env:=env) (es:=es) h.2;rw[cT q];simp only[zaG,zak,zb9,Bool.false_or]at ih ⊢;exact ih
end P
namespace My
open PySem PySem.Spec PyProof.Rows L2 PySem.SeqAt
section
variable {prog:zah}{w:World}{A:zan}{R:Result->zab->Prop}{I S:Addr}{fp wr:List Addr}{n:Nat}{P:Nat->Value->Prop}{St:Nat->Heap->Prop}{kw:List (Str×Value)}
end
section
variable {X:Cx}
end
end My
namespace P
open PySem PySem.Spec PyProof.Rows L2
section
variable {X:Cx}{O:List Nat}
end
end P
namespace My
open PySem PySem.Spec PyProof.Rows L2 PySem.SeqAt
theorem jB:entryFor table "dict.update.loop" = some zb0.«dict.update.loop»:=entryFor_of_tree (by kernel_rfl)
theorem dG:plainId "dict.update.loop" = true:=by decide +kernel
theorem qZ:typeLookup (.type "list") (zbi "keys")=pure none:=by rw[typeLookup_type,builtinLookup_eq_fast];kernel_rfl
theorem qG:typeLookup (.type "tuple") (zbi "keys")=pure none:=by rw[typeLookup_type,builtinLookup_eq_fast];kernel_rfl
section
variable {prog:zah}{w:World}{A:zan}{E:Value->zab->Prop}{s:zab}
theorem rA(hx:s.heap.get? a=some o)(G:o.cls=.type "list")(q:o.data=.seq xs k)(hd:o.dict=none)(W:A.handled=none)
  (h:∀h' tk,(∀b o,s.heap.get? b=some o->h'.get? b=some o)->Q none {s with heap:=h',toks:=tk}):wpAny (model prog w) A (getAttr? (.ref a) "keys") Q E s:=by
 obtain⟨c,M,Y,N⟩:=o;simp only at G q hd;subst G q hd;obtain⟨J,g,d,tk,U⟩:=s;have hT:∀z,(⟨J,g,d,z,U⟩:zab).TypeIs (.ref a) "list" := λ_=>⟨_,hx,rfl⟩
 have f1:=sub_AttributeError;have f3:=PySem.F.slot_list_getattribute.lookup;have f4:=PySem.F.slot_list_getattribute.bind (.ref a);have f5:=am_list_getattr_none;unfold getAttr? getAttrBy? getAttrBy
 repeat (any_goals (first|assumption|exact hT _|((with_reducible show wpAny _ _ (call (Value.builtin "list.__getattribute__") _ _) _ _ _);refine zcB PySem.F.slot_list_getattribute (hT _) am_entry_list_getattribute (PySem.F.args_list_getattribute_2 _ _) (meets_getattribute_miss_list a xs k N (zbi "keys") _ qZ (by decide) (by size_fits)) ⟨hx,W,λh' z e B=>?_⟩)|wp_step))
 obtain⟨t',u',he⟩:=B.there;show wpAny _ _ (zdI _ _ _ _ _ _ _) _ _ _;unfold zdI
 repeat (any_goals (first|assumption|wp_step))
 exact h _ _ B.keeps
theorem qF(hx:s.heap.get? a=some o)(G:o.cls=.type "tuple")(q:o.data=.seq xs k)(hd:o.dict=none)(W:A.handled=none)
  (h:∀h' tk,(∀b o,s.heap.get? b=some o->h'.get? b=some o)->Q none {s with heap:=h',toks:=tk}):wpAny (model prog w) A (getAttr? (.ref a) "keys") Q E s:=by
 obtain⟨c,M,Y,N⟩:=o;simp only at G q hd;subst G q hd;obtain⟨J,g,d,tk,U⟩:=s;have hT:∀z,(⟨J,g,d,z,U⟩:zab).TypeIs (.ref a) "tuple" := λ_=>⟨_,hx,rfl⟩
 have f1:=sub_AttributeError;have f3:=PySem.F.slot_tuple_getattribute.lookup;have f4:=PySem.F.slot_tuple_getattribute.bind (.ref a);have f5:=am_tuple_getattr_none;unfold getAttr? getAttrBy? getAttrBy
 repeat (any_goals (first|assumption|exact hT _|((with_reducible show wpAny _ _ (call (Value.builtin "tuple.__getattribute__") _ _) _ _ _);refine zcB PySem.F.slot_tuple_getattribute (hT _) am_entry_tuple_getattribute (PySem.F.args_tuple_getattribute_2 _ _) (meets_getattribute_miss_tuple a xs k N (zbi "keys") _ qG (by decide) (by size_fits)) ⟨hx,W,λh' z e B=>?_⟩)|wp_step))
 obtain⟨t',u',he⟩:=B.there;show wpAny _ _ (zdI _ _ _ _ _ _ _) _ _ _;unfold zdI
 repeat (any_goals (first|assumption|wp_step))
 exact h _ _ B.keeps
end
section
variable {X:Cx}{pins:List (Addr×Obj)}{σ:L2.St}{H:Hp}{s:zab}{a:Addr}{y v:V}{u r:Value}{A:zan}{E:Value->zab->Prop}
theorem GP(hu:A.units+1<cLine)(I:Inv X pins σ H s)(g:DPut H a y v H')(Y:RelV y u)(rv:RelV v r)(h:∀h' t',Inv X pins σ H' {s with heap:=h',toks:=t'}->za4 a s.heap h'->Q () {s with heap:=h',toks:=t'}) :
  wpAny (model X.prog X.w) A (dictSet a u r) Q E s:=by
 rcases g with⟨kvs,k,e,U,l,J⟩|⟨kvs,k,b,e,U,eb,l,J⟩
 ·subst U J
  obtain⟨z,hd,vs,B,W⟩:=S3 I.hok e;have M:vs.length<=zai:=by rw[<- B.length];exact z
  have N:(putK kvs k v).length<=zai:=by have:=fM kvs k v;lia
  refine wpAny_dictSet_pairs (hsz:=M) (v7 Y) W λh' F hs=>h _ _ ?_ hs
  have he:∃q,h'.get? a=some q:=let ⟨q,_,_,G,_⟩:=F;⟨q,G⟩;exact nO I (by rw[e];exact zaY) hs he (L4 N hd (B.put k rv) F)
 ·subst U J
  cases(show u=zar b from Y);obtain⟨z,hd,xs,B,W⟩:=SK I.hok e;have M:xs.length<=zai:=by rw[<- zcL B];exact z
  have N:(putK kvs k v).length<=zai:=by have:=fM kvs k v;lia
  refine wpAny_dictSet_heap (hsz:=M) (show A.units<cLine by lia) (oE I.hok eb) W λh' F hs=>h _ _ ?_ hs
  obtain⟨q,es,ep,G,h2,h3,h4,_,h5⟩:=F;refine nO I (by rw[e];exact zaY) hs ⟨q,G⟩ ⟨N,hd,_,(B.put k eb rv).keeps λc ys ec=>?_,q,es,ep,G,h2,h3,h4,h5⟩;rw[aF (uH ec e (λz=>nomatch z))];exact ec
end
inductive Puts(d:Addr):Hp->List (V×V)->Hp->Prop where
 | nil {H:Hp}:Puts d H [] H
 | cons {H H1 H2:Hp} {y v:V} {l:List (V×V)} (h:DPut H d y v H1) (t:Puts d H1 l H2):Puts d H ((y,v)::l) H2
theorem zV(g:DPut H a y v H'):(∃u,H a=some u/\(∀xs,u≠.tup xs)/\∀o w,u≠.frz o w)/\∀b,b≠a->H' b=H b:=by
 rcases g with⟨kvs,k,e,F,l,q⟩|⟨kvs,k,b,e,F,G,l,q⟩
 ·subst q;exact⟨⟨_,e,(λ_ z=>nomatch z),(λ_ _ z=>nomatch z)⟩,λb B=>aF B⟩
 ·subst q;exact⟨⟨_,e,(λ_ z=>nomatch z),(λ_ _ z=>nomatch z)⟩,λb B=>aF B⟩
theorem J4{K:zae}{H H':Hp}{a:Addr}{y v:V}(g:DPut H a y v H'){b:Addr}{xs:List V}(h:SqT K H b xs):SqT K H' b xs:=by
 obtain⟨⟨u,e,q,B⟩,same⟩:=zV g;rcases h with(h|⟨o,h⟩)|h
 ·exact .inl (.inl (by rw[same b (λz=>by rw[z,e]at h;exact q _ (zaF h))];exact h))
 ·exact .inl (.inr ⟨o,by rw[same b (λz=>by rw[z,e]at h;exact B _ _ (zaF h))];exact h⟩)
 ·exact .inr h
section
variable {X:Cx}{pins:List (Addr×Obj)}{σ:L2.St}{A:zan}{R:Result->zab->Prop}{it d:Addr}{fp:List Addr}{n:Nat}{P:Nat->Value->Prop}{St:Nat->Heap->Prop}{H2:Hp}
theorem lN(W:Walks X.prog X.w A.in1 it fp [it] n P St)(hd:d∉fp)(hu:A.in1.units+1<cLine)(fin:∀s',Inv X pins σ H2 s'->R (.ok (.ret .none)) s'):∀(l:List (V×V)) (j:Nat) (s:zab) (H:Hp) (t:Tok) (i:Int),n-j=l.length->j<=n->St j s.heap->Inv X pins σ H s->kK X pins H it->
  (∀(m:Nat) (p:V×V) (v:Value),l[m]?=some p->P (j+m) v->∃b,v=.ref b/\SqT X.K H b [p.1,p.2])->Puts d H l H2->
  zbD (model X.prog X.w) A (.builtin "dict.update.loop" ⟨[.ref d,.ref it,.int i t,.none],[]⟩) R s
 | [],j,s,H,t,i,hn,hj,st,I,fo,facts,pu=>by
  cases pu;obtain⟨B,f1,f2,F,J,G⟩:=fo;have e:j=n:=by simp at hn;lia
  subst e;refine codeAny_builtin jB ?_;rw[Around.under_plainId dG _];show wpAny _ A.in1 (za2 (.ref it) >>= λ_=>_) _ _ s;refine zaa (W.done s _ _ st λh1 tk same=>?_);show wpAny _ _ (Builtin.Dict.addKeywords d [] >>= _) _ _ _;exact zaa (zaf (zaf (fin _ (I.turned (t':=tk) (λb o M e=>same b o (by simpa using M) e) B f1 F J G))))
 | (y,v)::l,j,s,H,t,i,hn,hj,st,I,fo,facts,pu=>by
  obtain⟨B,f1,f2,F,J,G⟩:=id fo;cases pu with
  | @cons _ H1 _ _ _ _ dp pu=>
  have lt:j<n:=by rw[zaz]at hn;lia
  refine codeAny_builtin jB ?_;rw[Around.under_plainId dG _];show wpAny _ A.in1 (za2 (.ref it) >>= λ_=>_) _ _ s;refine zaa (W.item j s _ _ lt st λv1 h1 tk pv U same=>?_);obtain⟨b,rfl,sq⟩:=facts 0 (y,v) v1 rfl pv;have I1:Inv X pins σ H {s with heap:=h1,toks:=tk}:=I.turned (t':=tk) (λb o M e=>same b o (by simpa using M) e) B f1 F J G;obtain⟨ag,rv,ht,hz⟩:=I1.tuple sq;cases rv with
  | @cons _ u _ us ru rt=>
  cases rt with
  | @cons _ r _ us2 rr rt2=>
  cases rt2;obtain⟨o,ho,hc,nn,N⟩:=id ht;show wpAny _ A.in1 (zcj [zar b] _ >>= λ_=>_) _ _ _;refine zaa (zbB ?_);refine zaa (wpAny_tryCatch ?_);unfold Builtin.Dict.pairItems;refine zaa (zcA ht.typeIs ?_);rw[if_pos (by decide)];refine zaa (zbp ho N (zaf ?_));show wpAny _ A.in1 (zcj [u,r] (dictSet d u r)) _ _ _;refine zbB (GP hu I1 dp ru rr λh2 t2 I2 sb=>?_);obtain⟨⟨uo,Y,_,_⟩,q⟩:=zV dp;have nd:it≠d:=λz=>by rw[<- z,B]at Y;cases Y
  refine zaf ⟨plainId_quiet dG _,lN W hd hu fin l (j+1) _ H1 _ _ (by rw[zaz]at hn;lia) lt (W.frame _ _ _ U λb bf o eb=>?_) I2 ⟨by rw[q it nd];exact B,f1,f2,F,J,G⟩ (λm p v2 hm hp=>?_) pu⟩
  ·exact(sb.2 b (λz=>hd (z ▸ bf))).trans eb
  ·obtain⟨c,e,sq⟩:=facts (m+1) p v2 (by simpa using hm) (by rw[show j+(m+1)=j+1+m by lia];exact hp)
   exact⟨c,e,J4 dp sq⟩
end
section
variable {X:Cx}
def Src(X:Cx)(H:Hp)(p:Addr)(ys:List V):Prop:=SqL X.K H p ys\/Rd H p (.tup ys)
theorem CM(hc:X.calm=true)(hu:X.A.units+64<cLine):CallR X (.type "dict") (λxs H Q=>∃p ys l,xs=[.ref p]/\Src X H p ys/\l.length=ys.length/\(∀(m:Nat) (pr:V×V),l[m]?=some pr->∃b,ys[m]?=some (.ref b)/\SqT X.K H b [pr.1,pr.2]) /\
  ∀q,H q=none->∃H2,(Puts q (upd H q (.dK [])) l H2\/Puts q (upd H q (.dT [])) l H2)/\Q (.ref q) H2):=by
 intro pins s σ H xs us Q I r h;obtain⟨p,ys,l,rfl,ar,hl,am,q⟩:=h;obtain⟨u,rfl,rx⟩:=vals1 r;cases rx;obtain⟨H2,pu,q⟩:=q s.heap.objs.size (I.hok.fresh (zaj _));refine callType_codes (Q₁:=λal ab=>al=.ref s.heap.objs.size/\ab={s with heap:=s.heap.push {cls:=.type "dict",data:=.dict #[]} }) PySem.F.kt_called_dict (PySem.F.kt_typeCall_dict_1 _) PySem.F.entry_dict_init (kt_code_dict_new _ ⟨rfl,rfl⟩) ?_;rintro al ab ⟨rfl,rfl⟩;have n1:(s.heap.push {cls:=.type "dict",data:=.dict #[]}).get? s.heap.objs.size=some {cls:=.type "dict",data:=.dict #[]}:=zaD _ rfl;have t1:Shared.TypeIs {s with heap:=s.heap.push {cls:=.type "dict",data:=.dict #[]} } (.ref s.heap.objs.size) "dict" := ⟨_,n1,rfl⟩;refine⟨t1,PySem.F.args_dict_init_2 _ _,?_⟩;unfold zb0.«dict.__init__»;refine zaa ?_;unfold Builtin.Dict.selfAndRest;refine zaa (wpAny_notOrdered_dict t1 ?_);show wpAny _ _ (pure (s.heap.objs.size,[zar p])) _ _ _;refine zaf ?_;show wpAny _ _ (Builtin.Dict.updateFrom "dict.__init__" s.heap.objs.size (.ref p) [] .none) _ _ _;unfold Builtin.Dict.updateFrom;obtain⟨u0,a5,IK,pu⟩:∃u0:HO,(u0=.dK []\/u0=.dT [])/\Inv X pins σ (upd H s.heap.objs.size u0) {s with heap:=s.heap.push {cls:=.type "dict",data:=.dict #[]} }/\Puts s.heap.objs.size (upd H s.heap.objs.size u0) l H2:=by
  rcases pu with pu|pu
  ·exact⟨_,.inl rfl,I.laid (a:=s.heap.objs.size) (o:=.dK []) (h':=s.heap.push {cls:=.type "dict",data:=.dict #[]}) (t':=s.toks) (λ_ _ q=>zal _ q) (zaj _) (K2 s.heap I.big),pu⟩
  ·exact⟨_,.inr rfl,I.laid (a:=s.heap.objs.size) (o:=.dT []) (h':=s.heap.push {cls:=.type "dict",data:=.dict #[]}) (t':=s.toks) (λ_ _ q=>zal _ q) (zaj _) (zI s.heap I.big),pu⟩
 have aj:∀b u,H b=some u->b≠s.heap.objs.size:=λb u e z=>zb4 _ (by have:=(I.hok b u e).lt;rw[z]at this;exact this)
 have an:∀ {b:Addr} {zs:List V},SqT X.K H b zs->SqT X.K (upd H s.heap.objs.size u0) b zs:=λ{b zs} h=>by
  rcases h with(h|⟨o,h⟩)|h
  ·exact .inl (.inl (by rw[aF (aj _ _ h)];exact h))
  ·exact .inl (.inr ⟨o,by rw[aF (aj _ _ h)];exact h⟩)
  ·exact .inr h
 have ai:∀ {o:Obj},s.heap.get? p=some o->p<s.heap.objs.size:=λe=>zao e
 rcases ar with sq|sq
 ·obtain⟨Y,rv,pl,hz⟩:=I.list sq
  obtain⟨o,n,ho,J,ad,M⟩:=id pl;have U:=rv.length;have G:(s.heap.push {cls:=.type "dict",data:=.dict #[]}).get? p=some o:=zal _ ho;refine zaa (zcA (s:={s with heap:=s.heap.push {cls:=.type "dict",data:=.dict #[]} }) ⟨o,G,J⟩ ?_);rw[if_pos (by decide)];refine zaa (rA (s:={s with heap:=s.heap.push {cls:=.type "dict",data:=.dict #[]} }) G J M ad (I.ok.hd hc) λh' tk B=>?_);simp only[Option.isNone_none,if_true];refine zaa (zbM (zaa (zb6 (s:={s with heap:=h',toks:=tk}) (items:=Y.toArray) ⟨o,B _ _ G,J,n,M⟩ ?_)));have N:Inv X pins σ (upd H s.heap.objs.size u0) {s with heap:=h',toks:=tk}:=IK.kept (t':=tk) B;have af:Inv X pins σ (upd H s.heap.objs.size u0) {s with heap:=h'.push {cls:=.type "list_iterator",data:=.fields #[.ref p,.int 0 0]},toks:=tk}:=N.kept (t':=tk) λb o e=>zal _ e
  have lp:p<h'.objs.size:=zao (B _ _ G);have ld:s.heap.objs.size<h'.objs.size:=zao (B _ _ n1);have W:=Walks.list (prog:=X.prog) (w:=X.w) (A:=X.A.in1.in1) (I.ok.hd hc) h'.objs.size p (zaE lp) Y.toArray;refine zaf ⟨plainId_quiet dG _,lN (X:=X) (pins:=pins) (σ:=σ) (H2:=H2) W (d:=s.heap.objs.size) ?_ (by show X.A.units+1+1+1<cLine;lia) ?_ l 0 _ _ _ _ ?_ (zaI _) ?_ af ?_ ?_ pu⟩
  ·intro z
   rcases List.mem_cons.mp z with z|z
   ·exact zaE ld z
   ·exact zbq (ai ho) (List.mem_singleton.mp z)
  ·exact λs' I'=>⟨rfl,.ref s.heap.objs.size,H2,I',rfl,q⟩
  ·rw[zax,<- U,hl];lia
  ·exact⟨⟨_,zaD _ rfl,rfl,rfl⟩,⟨o,zal _ (B _ _ G),J,n,M⟩⟩
  ·exact N.fpOk (zaj _) (N.hok.fresh (zaj _))
  ·intro m pr v hm hv
   obtain⟨b,e1,e2⟩:=am m pr hm;rw[zaS]at hv;refine⟨b,?_,an e2⟩;obtain⟨w',hw,ah⟩:=rv.get e1;rw[List.getElem?_toArray,hw]at hv;cases(show w'=zar b from ah);exact(zaF hv).symm
 ·obtain⟨hz,Y,rv,o,ho,J,n,M,ad⟩:=(show ObjOk X.prog X.w H s.heap p (.tup ys)from sq.ok I.hok)
  have U:=rv.length;have G:(s.heap.push {cls:=.type "dict",data:=.dict #[]}).get? p=some o:=zal _ ho;refine zaa (zcA (s:={s with heap:=s.heap.push {cls:=.type "dict",data:=.dict #[]} }) ⟨o,G,J⟩ ?_);rw[if_pos (by decide)];refine zaa (qF (s:={s with heap:=s.heap.push {cls:=.type "dict",data:=.dict #[]} }) G J M ad (I.ok.hd hc) λh' tk B=>?_);simp only[Option.isNone_none,if_true];refine zaa (zbM (zaa (zbR (s:={s with heap:=h',toks:=tk}) (items:=Y.toArray) ⟨o,B _ _ G,J,n,M⟩ ?_)));have N:Inv X pins σ (upd H s.heap.objs.size u0) {s with heap:=h',toks:=tk}:=IK.kept (t':=tk) B;have af:Inv X pins σ (upd H s.heap.objs.size u0) {s with heap:=h'.push {cls:=.type "tuple_iterator",data:=.fields #[.ref p,.int 0 0]},toks:=tk}:=N.kept (t':=tk) λb o e=>zal _ e
  have lp:p<h'.objs.size:=zao (B _ _ G);have ld:s.heap.objs.size<h'.objs.size:=zao (B _ _ n1);have W:=Walks.tuple (prog:=X.prog) (w:=X.w) (A:=X.A.in1.in1) (I.ok.hd hc) h'.objs.size p (zaE lp) Y.toArray;refine zaf ⟨plainId_quiet dG _,lN (X:=X) (pins:=pins) (σ:=σ) (H2:=H2) W (d:=s.heap.objs.size) ?_ (by show X.A.units+1+1+1<cLine;lia) ?_ l 0 _ _ _ _ ?_ (zaI _) ?_ af ?_ ?_ pu⟩
  ·intro z
   rcases List.mem_cons.mp z with z|z
   ·exact zaE ld z
   ·exact zbq (ai ho) (List.mem_singleton.mp z)
  ·exact λs' I'=>⟨rfl,.ref s.heap.objs.size,H2,I',rfl,q⟩
  ·rw[zax,<- U,hl];lia
  ·exact⟨⟨_,zaD _ rfl,rfl,rfl⟩,⟨o,zal _ (B _ _ G),J,n,M⟩⟩
  ·exact N.fpOk (zaj _) (N.hok.fresh (zaj _))
  ·intro m pr v hm hv
   obtain⟨b,e1,e2⟩:=am m pr hm;rw[zaS]at hv;refine⟨b,?_,an e2⟩;obtain⟨w',hw,ah⟩:=rv.get e1;rw[List.getElem?_toArray,hw]at hv;cases(show w'=zar b from ah);exact(zaF hv).symm
end
section
variable {X:Cx}
theorem BU:CallR X (.type "dict") (λxs H Q=>∃d kvs,xs=[.ref d]/\Rd H d (.dK kvs)/\∀p,H p=none->Q (.ref p) (upd H p (.dK kvs))):=by
 intro pins s σ H xs U Q I r h;obtain⟨d,kvs,rfl,hd,q⟩:=h;obtain⟨u,rfl,J⟩:=vals1 r;cases J;obtain⟨z,y,vs,B,M⟩:=wC I.hok hd;have G:vs.length<=zai:=by rw[<- B.length];exact z
 refine kt_call_dict (knd:=bA X.prog X.w) y M G λh' F sb=>?_
 refine⟨.ref s.heap.objs.size,_,I.laid (t':=s.toks) (o:=.dK kvs) (λb N q=>(sb.2 b (zaE (zao q))).trans (zal _ q)) (zaj _) ⟨z,beq_eq_false_iff_ne.mpr (zaU (zaE I.big)),vs,B,F⟩,rfl,q _ (I.hok.fresh (zaj _))⟩
theorem U2(h:H2 q=some u)(k:∀b,b≠q->H2 b=H b):H2=upd H q u:=funext λb=>by
 by_cases e:b=q
 ·subst e;rw[aI];exact h
 ·rw[aF e];exact k b e
def t7{κ:Type}[DecidableEq κ](kvs more:List (κ×V)):List (κ×V):=more.foldl (λacc q=>putK acc q.1 q.2) kvs
theorem LY:∀(prs:List (Key×V)) (H:Hp) (xs:List (Key×V)),H q=some (.dK xs)->xs.length+prs.length<zai->∃H2,Puts q H (prs.map λp=>(kV p.1,p.2)) H2/\H2 q=some (.dK (t7 xs prs))/\∀b,b≠q->H2 b=H b
 | [],H,xs,e,hl=>⟨H,.nil,e,λ_ _=>rfl⟩
 | p::prs,H,xs,e,hl=>by
  have G:=fM xs p.1 p.2;rw[zaz]at hl;obtain⟨H2,F,B,k⟩:=LY prs (upd H q (.dK (putK xs p.1 p.2))) (putK xs p.1 p.2) aI (by lia);exact⟨H2,.cons (DPut.k e (by lia)) F,B,λb z=>(k b z).trans (aF z)⟩
end
end My
namespace P
open PySem PySem.Spec PyProof.Rows L2
section
variable {X:Cx}{A:Av}{H:Hp}
def DI:List D->Option (List (Key×D))
 | []=>some []
 | .tup [k,v]::l=>(W5 k).bind λkk=>(DI l).map λr=>(kk,v)::r
 | _=>none
def k9{κ:Type}[DecidableEq κ](l more:List (κ×D)):List (κ×D):=more.foldl (λm p=>putD m p.1 p.2) l
theorem QG{κ:Type}[DecidableEq κ]{more:List (κ×D)}{ys:List (κ×V)}(h:PP A H more ys):∀ {l:List (κ×D)} {xs:List (κ×V)},PP A H l xs->PP A H (k9 l more) (My.t7 xs ys):=by
 induction h with
 | nil=>intro l xs q;exact q
 | @cons p q ps qs h t ih=>
  intro l xs z;have:=ih (tU p.1 h.2 z);rw[show k9 l (p::ps)=k9 (putD l p.1 p.2) ps from rfl,show My.t7 xs (q::qs)=My.t7 (putK xs q.1 q.2) qs from rfl,<- h.1];exact this
theorem AZ:∀ {l:List D} {kvs:List (Key×D)} {xs:List V},DI l=some kvs->RepL A H l xs->∃q:List (Key×V),PP A H kvs q/\q.length=xs.length/\∀(m:Nat) (z:V×V),(q.map λp=>(kV p.1,p.2))[m]?=some z->∃b,xs[m]?=some (.ref b)/\H b=some (.tup [z.1,z.2])
 | _,kvs,_,e,.nil=>by cases e;exact⟨[],.nil,rfl,λm z h=>by simp at h⟩
 | d::l,kvs,v::xs,e,.cons h t=>by
  unfold DI at e;split at e
  ·cases ‹_::_=[]›
  ·rename_i k w l' heq
   injection heq with h1 h2
   subst h1 h2;obtain⟨G,N,e⟩:=bind_some e;obtain⟨r,U,rfl⟩:=map_some e;obtain⟨q,Y,F,J⟩:=AZ U t;obtain⟨a,zs,rfl,W,B⟩:=RepB.tup_inv (.of h);cases B with
   | @cons _ z1 _ zs1 q1 B=>
   cases B with
   | @cons _ z2 _ zs2 q2 B=>
   cases B;have M:=qQ N (.of q1);subst M;refine⟨(G,z2)::q,.cons ⟨rfl,q2⟩ Y,by simp[F],λm z h=>?_⟩;cases m with
   | zero=>simp at h;subst h;exact⟨a,rfl,W⟩
   | succ m=>exact J m z (by simpa using h)
  ·cases e
noncomputable def SU:D->Option (List D)
 | .lst l=>some l
 | .tup l=>some l
 | _=>none
def gF:List D->Option D
 | [.dK l]=>some (.dK l)
 | [d]=>(SU d).bind λl=>if aU l.length then(DI l).map λkvs=>.dK (k9 [] kvs)else none
 | _=>none
theorem KR(h:SU d=some l)(r:RepB A H d v):∃p ys,v=.ref p/\My.Src X H p ys/\RepL A H l ys:=by
 cases d with
 | lst m=>cases h;obtain⟨a,xs,rfl,h1,h2⟩:=r.lst_inv;exact⟨a,xs,rfl,.inl (.inl h1),h2⟩
 | tup m=>cases h;obtain⟨a,xs,rfl,h1,h2⟩:=r.tup_inv;exact⟨a,xs,rfl,.inr (.inl h1),h2⟩
 | _=>cases h
theorem szL(h:aU n=true):0+n<zai:=by rw[zaS];exact iX h
theorem nD(hc:X.calm=true)(hu:X.A.units+64<cLine):FX X (.type "dict") gF:=by
 intro pins s σ H xs us Q I r h;obtain⟨A,ds,d,Y,rl,e,q⟩:=h;unfold gF at e;split at e
 ·cases e
  obtain⟨v,rfl,h1⟩:=rl.one;obtain⟨a,ys,rfl,h2,U,r3⟩:=h1.dK_inv;exact My.BU pins s σ H _ us Q I r ⟨a,ys,rfl,h2,λp M=>q p _ (Ext.new M) M (λz=>Y p z M) (.dK aI U (r3.fresh M))⟩
 ·obtain⟨l,e1,e⟩:=bind_some e
  split at e
  ·rename_i hz
   obtain⟨kvs,e2,rfl⟩:=map_some e;obtain⟨v,rfl,h1⟩:=rl.one;obtain⟨p,ys,rfl,N,G⟩:=KR (X:=X) e1 h1;obtain⟨B,pp,hl,hm⟩:=AZ e2 G;have F:=G.length;refine My.CM hc hu pins s σ H _ us Q I r ⟨p,ys,B.map λp=>(kV p.1,p.2),rfl,N,by rw[zam];exact hl,λm pr h=>?_,λa J=>?_⟩
   ·obtain⟨b,x1,x2⟩:=hm m pr h
    exact⟨b,x1,.inl (.inl x2)⟩
   ·obtain⟨H2,pu,U,k⟩:=My.LY B (upd H a (.dK [])) [] aI (by rw[hl,F];exact szL hz)
    have eH:H2=upd H a (.dK (My.t7 [] B)):=My.U2 U λb W=>(k b W).trans (aF W)
    obtain⟨f1,f2⟩:=v5 (QG pp (Paired.nil));refine⟨H2,.inl pu,?_⟩;rw[eH];exact q a _ (Ext.new J) J (λz=>Y a z J) (.dK aI f1 (f2.fresh J))
  ·cases e
 ·cases e
end
end P
namespace My
open PySem PySem.Spec PyProof.Rows L2 PySem.SeqAt
theorem E3:∀ {xs:List V} {us:List Value},xs.length=us.length->(∀(j:Nat) (x:V) (u:Value),xs[j]?=some x->us[j]?=some u->RelV x u)->Vals xs us
 | [],[],_,_=>.nil
 | [],_::_,h,_=>by simp at h
 | _::_,[],h,_=>by simp at h
 | x::xs,u::us,h,k=>.cons (k 0 x u rfl rfl) (E3 (by simpa using h) λj y v q z=>k (j+1) y v (by simpa using q) (by simpa using z))
section
variable {X:Cx}
theorem K7:CallR X (.type "range") (λxs H Q=>∃i,xs=[.int i]/\∀p,H p=none->Q (.ref p) (upd H p (.rng 0 i))):=by
 intro pins s σ H xs B Q I r h;obtain⟨i,rfl,q⟩:=h;obtain⟨u,rfl,t,rfl⟩:=vals1 r;exact call_range_1 ⟨.ref s.heap.objs.size,_,I.laid (t':=s.toks+1+1) (o:=.rng 0 i) (λb z q=>zal _ q) (zaj _) ⟨_,_,_,zaD _ rfl⟩,rfl,q _ (I.hok.fresh (zaj _))⟩
theorem B2(J:X.calm=true):CallR X (.type "list") (λxs H Q=>∃p i,xs=[.ref p]/\H p=some (.rng 0 i)/\0<=i/\i<=1000000/\∀l,H l=none->Q (.ref l) (upd H l (.lst ((zas i.toNat).map λ(j:Nat)=>V.int (j:Int))))):=by
 intro pins s σ H xs us Q I r h;obtain⟨p,i,rfl,N,i0,Y,q⟩:=h;obtain⟨u,rfl,W⟩:=vals1 r;cases W;obtain⟨t,u,v,U⟩:=(show ObjOk X.prog X.w H s.heap p (.rng 0 i)from I.hok p _ N);refine call_list_range (n:=i.toNat) (I.ok.hd J) U (small_one (by lia) (by lia) (by lia) (by lia)) (by rw[rangeSize_one];split <;> lia) (by lia) λh' tk acc c z M items=>?_
 refine⟨.ref s.heap.objs.size,_,I.laid (t':=tk) (o:=.lst ((zas i.toNat).map λ(j:Nat)=>V.int (j:Int))) z (zaj _) ⟨by rw[zam,zcG,zcQ];lia,acc.toList,c,E3 ?_ λj x u F G=>?_,by simpa using M⟩,rfl,q _ (I.hok.fresh (zaj _))⟩
 ·rw[zam,zcG,zbQ,items.1]
 ·rw[zed]at G
  obtain⟨t,rfl⟩:=items.2 j u G;rw[zaB]at F;obtain⟨k,B,rfl⟩:=P.map_some F;have:k=j:=by
   rw[zcW]at B
   ·exact(zaF B).symm
   ·have:=(List.getElem?_eq_some_iff.mp B).1;rwa [zcG]at this
  subst this;exact⟨t,by rw[show(0:Int)+(k:Int)*1=(k:Int) by lia]⟩
end
end My
namespace P
open PySem PySem.Spec PyProof.Rows L2
section
variable {X:Cx}{O:List Nat}
def xX(d:D):Option D:=match d with
 | .int i=>if 0<=i/\i<=1000000 then some (.lst (aS 0 1 i.toNat))else none
 | _=>none
theorem O5(q:0<=i)(h1:i<=1000000):xX (.int i)=some (.lst (aS 0 1 i.toNat)):=if_pos ⟨q,h1⟩
theorem B3(n:Nat):RepL A H (aS 0 1 n) ((zas n).map λ(j:Nat)=>V.int (j:Int)):=by
 unfold aS;have:∀l:List Nat,RepL A H (l.map λ(j:Nat)=>D.int (0+(j:Int)*1)) (l.map λ(j:Nat)=>V.int (j:Int)):=λl=>by
  induction l with
  | nil=>exact .nil
  | cons j l ih=>
   rw[zak,zak,show(0:Int)+(j:Int)*1=(j:Int) by lia];exact .cons (.int _) ih
 exact this _
theorem J8(hc:X.calm=true)(M:Gl X "list")(J:X.mg "list" = none)(G:Gl X "range")(N:X.mg "range" = none)(he:PB X O e f)(hs:isStar e=false) :
  PF X O (.Call (.Name "list" p) [.Call (.Name "range" p2) [e] [] pos2] [] pos) (SH xX f):=
 PE.mono (kN (My.B2 hc) M J My.boot_list (cK (kN My.K7 G N My.boot_range (cK he fD (cT hs)) (by decide) (by decide) (cT hs) (iW rfl)) fD (cT rfl)) (by decide) (by decide) (cT rfl) (iW rfl)) <| by
  rintro σ H Q ⟨H0,A0,A,E,ρ,d,st,B,q⟩;obtain⟨x,ex,B⟩:=bind_some B;refine⟨H0,A0,A,E,ρ,x,st,ex,λv H1 F r1=>?_⟩;unfold xX at B;split at B
  ·rename_i i
   split at B
   ·rename_i hi
    cases B;have:=r1.int_inv;subst this;refine⟨i,rfl,λa Y=>⟨a,i,rfl,aI,hi.1,hi.2,λl U=>?_⟩⟩;have W:H1 l=none:=(Ext.new (A:=A) (o:=HO.rng 0 i) Y).free U;exact q l _ (F.trans ((Ext.new Y).trans (Ext.new U))) (F.free W) (λz=>(st.mono F).live l z W) (.lst aI (B3 _))
   ·cases B
  ·cases B
end
section
variable {X:Cx}{O:List Nat}{e:Expr}{es:List Expr}
theorem qD(q:PD X O e f)(z:BG X O es g)(hs:isStar e=false:=by rfl):BG X O (e::es) (aB f g):=J5 q z (cT hs)
theorem W7(q:PB X O e f)(z:wD X O es g)(hs:isStar e=false:=by rfl):wD X O (e::es) (aB f g):=zY q z (cT hs)
theorem lc(h:Len g n):Len (aB f g) (n+1):=LD h
theorem l0:Len aW 0:=OU
variable {x:Str}{id T:String}{g:List D->Option D}{f:Lv}{p pos:Pos}
theorem cB(z:kJ X (.builtin id) g)(J:X.mg x=none)(N:zaH x=some (.builtin id))(M:wD X O (e::es) f)(B:Gl X x:=by rfl)(F:x ≠ "__name__" := by decide)(q:(x == ("__debug__" : Str))=false:=by decide)(hs:isStar e=false:=by rfl)(G:(es.all λe=>!isStar e)=true:=by rfl) :
  PD X O (.Call (.Name x p) (e::es) [] pos) (aQ g f):=KW z B J N M F q (cT hs) (iW G)
theorem XH(z:kJ X (.type T) g)(J:X.mg x=none)(N:zaH x=some (.type T))(M:wD X O (e::es) f)(B:Gl X x:=by rfl)(F:x ≠ "__name__" := by decide)(q:(x == ("__debug__" : Str))=false:=by decide)(hs:isStar e=false:=by rfl)(G:(es.all λe=>!isStar e)=true:=by rfl) :
  PD X O (.Call (.Name x p) (e::es) [] pos) (aQ g f):=G4 z B J N M F q (cT hs) (iW G)
theorem qd(z:FX X (.type T) g)(J:X.mg x=none)(N:zaH x=some (.type T))(M:wD X O (e::es) f)(B:Gl X x:=by rfl)(F:x ≠ "__name__" := by decide)(q:(x == ("__debug__" : Str))=false:=by decide)(hs:isStar e=false:=by rfl)(G:(es.all λe=>!isStar e)=true:=by rfl) :
  PF X O (.Call (.Name x p) (e::es) [] pos) (aQ g f):=GS z B J N M F q (cT hs) (iW G)
theorem cD(O':Fn X.prog X.w X.K X.mg X.base x k ps F)(M:Room k X.A)(J:BG X O (e::es) f)(B:Len f ps.length)(z:Gl X x:=by rfl)(q:(x == ("__debug__" : Str))=false:=by decide)(hs:isStar e=false:=by rfl)(G:(es.all λe=>!isStar e)=true:=by rfl) :
  PD X O (.Call (.Name x p) (e::es) [] pos) (aQ F f):=OK O' M z J B q (cT hs) (iW G)
theorem cn{L:Lp}{z O2 O3:List Nat}{st:Stmt}{q:List Stmt}{f g:Sv}(h:jA X L z st f O2)(k:d9 X L O2 q g O3):d9 X L z (st::q) (dC f g) O3:=KC h k
end
def ZOk(P:zah)(w:World)(K:zae)(mg:Str->Option Value)(base:Heap)(N:List Str)(x:Str)(st:Stmt)(k:Nat)(b:Sv):Prop:=
 ∀(fa:Addr) (cdv:Value) (A:zan) (outer:List Env) (s:zab) (H:Hp) (E:XK),Room k (A.deeper (zaM x (aM st) s.heap.objs.size fa cdv))->∃g,d9 (i8 u3 P w K mg base N x (aM st) fa cdv A outer s H E).nox ⟨[],[]⟩ [] (bQ st) g []/\g=b
end P
namespace My
open PySem PySem.Spec PyProof.Rows L2 PySem.SeqAt
section
variable {prog:zah}{w:World}{A:zan}{R:Result->zab->Prop}{I S:Addr}{fp wr:List Addr}{n:Nat}{P:Nat->Value->Prop}{St:Nat->Heap->Prop}
end
section
variable {X:Cx}
end
end My
namespace P
open PySem PySem.Spec PyProof.Rows L2
section
variable {X:Cx}{O O':List Nat}{L:Lp}
end
end P
namespace My
open PySem PySem.Spec PyProof.Rows L2
end My
namespace P
open PySem PySem.Spec PyProof.Rows L2
section
variable {X:Cx}{O:List Nat}
end
end P
namespace My
open PySem PySem.Spec PyProof.Rows L2
def ZZ(i j:Int):Prop:=(-(10^250*10^250)<i/\i<10^250*10^250)/\-(10^250*10^250)<j/\j<10^250*10^250
end My
namespace P
open PySem PySem.Spec PyProof.Rows L2
instance:∀i j,Decidable (My.ZZ i j):=λi j=>by unfold My.ZZ;infer_instance
end P
namespace My
open PySem PySem.Spec PyProof.Rows L2 PySem.SeqAt
theorem SL{scope:Scope}{env:Env}{x:Str}{z:zbt}(h:(zbc scope env).names.lookup x=some z):(x,z)∈scope.names\/(z=.cell/\(x,zbl)∈scope.names):=by
 obtain⟨⟨y,k⟩,B,e⟩:=List.mem_map.mp (zcz h);dsimp only at e;by_cases q:(k == zbl && env.scope.kind == .function && env.kindOf y == some .cell)=true
 ·rw[if_pos q]at e
  have:k=.free:=by simp only[zaP]at q;simpa using q.1.1
  cases e;subst this;exact .inr ⟨rfl,B⟩
 ·rw[if_neg q]at e
  cases e;exact .inl B
section
variable {X:Cx}
end
end My
namespace P
open PySem PySem.Spec PyProof.Rows L2
noncomputable def qc(O:List Nat)(ms:List (Option Nat)):List Nat:=(zas ms.length).filter λj=>(((ms[j]?).join).map O.contains).getD false
theorem qR{O:List Nat}{ms:List (Option Nat)}{j:Nat}:j∈qc O ms↔∃i,ms[j]?=some (some i)/\i∈O:=by
 unfold qc;rw[List.mem_filter];constructor
 ·rintro⟨_,h⟩
  cases e:ms[j]? with
  | none=>rw[e]at h;cases h
  | some o=>
   cases o with
   | none=>rw[e]at h;cases h
   | some i=>rw[e]at h;exact⟨i,rfl,by simpa using h⟩
 ·rintro⟨i,h,hi⟩
  refine⟨List.mem_range.mpr ?_,by rw[h];simpa using hi⟩;obtain⟨l,_⟩:=List.getElem?_eq_some_iff.mp h;exact l
theorem MQ{q:Type}{ms:List (Option Nat)}{σ:List (Option q)}{j i:Nat}{v:q}(h:ms[j]?=some (some i))(e:σ[i]?=some (some v)):(iG ms σ)[j]?=some (some v):=by
 unfold iG;rw[zaB,h];show some ((σ[i]?).join)=_;rw[e];rfl
theorem ST.innerO{H0:Hp}{A0 A:Av}{E:List Fact}{O Oi:List Nat}{σ:L2.St}{H:Hp}{ρ:cY}(s:ST H0 A0 A E O σ H ρ)(ms:List (Option Nat))(N:qc O ms=Oi)(hj:∀j∈Oi,∀k∈Oi,ms[j]?=ms[k]?->j=k):ST H0 A0 A E Oi (iG ms σ) H (iG ms ρ) where
 ex:=s.ex
 sub:=s.sub
 l0:=s.l0
 live:=s.live
 len:=by simp[iG]
 val:=λj d h n=>by
  obtain⟨i,B,G⟩:=gU h;obtain⟨v,W,r⟩:=s.val i d G λz=>n (N ▸ qR.mpr ⟨i,B,z⟩)
  exact⟨v,MQ B W,r⟩
 own:=λj d h n=>by
  obtain⟨i,B,G⟩:=gU h;obtain⟨i',q,U⟩:=qR.mp (N.symm ▸ n);rw[B]at q;cases q;obtain⟨a,h1,h2⟩:=s.own i d G U;exact⟨a,MQ B h1,h2⟩
 inj:=λj k d d' a M F h1 h2 Y h4=>by
  obtain⟨i,B,G⟩:=gU h1;obtain⟨l,f1,f2⟩:=gU h2;obtain⟨i2,g1,g2⟩:=gU Y;rw[B]at g1;cases g1;obtain⟨l2,k1,k2⟩:=gU h4;rw[f1]at k1;cases k1;obtain⟨i',q,U⟩:=qR.mp (N.symm ▸ M);rw[B]at q;cases q;obtain⟨l',J,lO⟩:=qR.mp (N.symm ▸ F);rw[f1]at J;cases J;have:=s.inj i l d d' a U lO G f2 g2 k2;subst this;exact hj j M k F (B.trans f1.symm)
 ext:=s.ext
section
variable {X:Cx}{O Oi:List Nat}
theorem GU{scope:Scope}{N:List Str}{ms:List (Option Nat)}{t:Nat}{it:Lv}{c:Bv}{f:Ev}(a0:dO X scope N ms)(hO:qc O ms=Oi)(hj:∀j∈Oi,∀k∈Oi,ms[j]?=ms[k]?->j=k)(aq:t∉Oi)(σ:L2.St)(H:Hp)(Q:VK) :
  tF O (dS ms it (aR t) c f) σ H Q->My.GA (tDI O it) (i7 t) (tDT Oi c) (tD Rep Oi f) (My.Start X N scope) σ H Q:=λ⟨H0,A0,A,E,ρ,d,st,e,q⟩=>by
 obtain⟨items,e1,e⟩:=bind_some e;by_cases hz:aU items.length=true
 case neg=>rw[if_neg hz]at e;cases e
 rw[if_pos hz]at e;obtain⟨ds,e2,rfl⟩:=map_some e;refine⟨iG ms σ,yZ a0 σ,H0,A0,A,E,ρ,items,st,e1,λJ H1 E1 x1 ar J1 D hD=>?_⟩;have bh:=(st.mono x1).live;have nA:¬ A D:=λz=>bh D z hD
 have n0:H D=none:=x1.free hD;refine⟨λi m ac us H2=>m=items.length-i/\i<=items.length/\∃Y done rest,ST H0 A0 (λb=>A b\/b=D) (E1++E) Oi ac H2 Y/\H2 D=some (.lst us)/\Ext A H H2/\RepL (λb=>A b\/b=D) H2 done us/\bD (aR t) c f (items.drop i) Y=some rest/\done++rest=ds/\done.length<=i/\∀j∈Oi,∀d a,Y[j]?=some (some d)->ac[j]?=some (some (.ref a))->a≠D,⟨items.length,by simp,zaI _,iG ms ρ,[],ds,?_,aI,x1.trans (Ext.new hD),.nil,e2,rfl,zaj _,?_⟩,?_⟩
 ·have s1:=((st.mono x1).both ar).innerO ms hO hj
  have up:∀a,(A a\/a=D)->A a\/H1 a=none:=λa F=>F.imp id λz=>by rw[z];exact hD
  refine⟨s1.ex.trans (Ext.new hD),λa F=>.inl (s1.sub a F),s1.l0,λa F=>?_,s1.len,λi d h n=>?_,λi d h n=>?_,s1.inj,λp hp=>Fact.ext (Ext.new hD) (Fact.av up (s1.ext p hp))⟩
  ·rcases F with F|F
   ·rw[aF (λz=>by subst z;exact nA F)];exact s1.live a F
   ·subst F;rw[aI];exact λz=>nomatch z
  ·obtain⟨v,h1,h2⟩:=s1.val i d h n
   exact⟨v,h1,(h2.av up).ext (Ext.new hD)⟩
  ·obtain⟨a,h1,h2,h3,h4⟩:=s1.own i d h n
   exact⟨a,h1,.inl h2,h3,(h4.av up).ext (Ext.new hD) (.inl h2)⟩
 ·intro j af d a h1 h2 z
  have s1:=((st.mono x1).both ar).innerO ms hO hj;obtain⟨a',g1,g2,_⟩:=s1.own j d h1 af;rw[h2]at g1;cases g1;exact nA (z ▸ g2)
 ·rintro i m ac us H2 ⟨rfl,bu,Y,done,rest,s2,ai,x2,ad,G,ed,az,a4⟩
  obtain⟨al,go⟩:=J1 _ H2 s2.live (λp hp=>s2.ext p (zbC _ hp)) i;by_cases W:i<items.length
  ·have eg:items[i]?=some items[i]:=by simp[W]
   obtain⟨a6,hy⟩:=go _ eg;rw[zcX W]at G;obtain⟨br,e3,G⟩:=bind_some G;cases e3;obtain⟨b,e4,G⟩:=bind_some G;have ao:us.length<zai:=by
    rw[ad.length];exact zcU az (zaW W (f6 hz))
   refine .inr ⟨a6,ao,λx H3 y=>?_⟩;obtain⟨x3,r3⟩:=hy x H3 y;have s3:=(s2.mono x3).put r3 aq;have aa:∀j∈Oi,∀d a,(Y.set t (some items[i]))[j]?=some (some d)->(ac.set t (some x))[j]?=some (some (.ref a))->a≠D:=λj af d a h1 h2=>by
    have nt:t≠j:=λz=>aq (z ▸ af)
    rw[zbO nt]at h1 h2;exact a4 j af d a h1 h2
   refine⟨H0,A0,_,E1++E,_,b,s3,e4,λH5 x5=>?_⟩;have ae:=x3.trans x5;have ap:H5 D=some (.lst us):=ae.ow D _ (.inr rfl) ai;have an:Ext A H H5:=x2.trans (ae.mono λa F=>.inl F);cases b with
   | false=>
    rw[if_neg zaA]at G;exact ZS ⟨ap,items.length-(i+1),by lia,rfl,W,_,done,rest,s3.mono x5,ap,an,ad.ext ae,G,ed,by lia,aa⟩
   | true=>
    rw[if_pos rfl]at G;refine ZP ?_;obtain⟨d,e6,G⟩:=bind_some G;obtain⟨aj,e7,G⟩:=bind_some G;cases G;refine⟨H0,A0,_,E1++E,_,d,s3.mono x5,e6,λv H6 x6 r6=>?_⟩;have au:=ae.trans x6;have U:H6 D=some (.lst us):=au.ow D _ (.inr rfl) ai;refine⟨U,items.length-(i+1),by lia,rfl,W,_,done++[d],aj,?_,aI,?_,((ad.ext au).append (.cons r6 .nil)).put (.inr rfl) U trivial,e7,by rw[<- ed];simp,by rw[zbb];show done.length+1<=i+1;lia,aa⟩
    ·have M:=s3.mono (x5.trans x6)
     have bd:H0 D=none:=st.ex.free n0;have B:∀b,H0 b≠none->b≠D:=λb hb z=>hb (by rw[z];exact bd)
     refine⟨⟨λb w r=>eS (B b (by rcases r with r|⟨_,r⟩ <;> (rw[r];exact λz=>nomatch z))) (M.ex.rd b w r),λb xs k r=>?_,λb w n r=>?_,λb q w r=>?_⟩,M.sub,M.l0,λa F=>?_,M.len,λi d h n=>?_,λi d h n=>?_,M.inj,λp hp=>Fact.put (.inr rfl) U trivial (M.ext p hp)⟩
     ·rw[aF (B b (by rw[r];exact λz=>nomatch z))];exact M.ex.kp b xs k r
     ·rw[aF (B b (by rw[r];exact λz=>nomatch z))];exact M.ex.ow b w n r
     ·rw[aF (B b (by rw[r];exact λz=>nomatch z))];exact M.ex.fz b q w r
     ·by_cases z:a=D
      ·subst z;rw[aI];exact λz=>nomatch z
      ·rw[aF z];exact M.live a F
     ·obtain⟨v,h1,h2⟩:=M.val i d h n
      exact⟨v,h1,h2.put (.inr rfl) U trivial⟩
     ·obtain⟨a,h1,h2,h3,h4⟩:=M.own i d h n
      exact⟨a,h1,h2,h3,h4.put (.inr rfl) U trivial (aa i n d a h h1)⟩
    ·have ag:Ext A H H6:=an.trans (x6.mono λa F=>.inl F)
     have B:∀b,H b≠none->b≠D:=λb hb z=>hb (by rw[z];exact n0)
     exact⟨λb w r=>eS (B b (by rcases r with r|⟨_,r⟩ <;> (rw[r];exact λz=>nomatch z))) (ag.rd b w r),
      λb xs k r=>by rw[aF (B b (by rw[r];exact λz=>nomatch z))];exact ag.kp b xs k r,
      λb w n r=>by rw[aF (B b (by rw[r];exact λz=>nomatch z))];exact ag.ow b w n r,
      λb q w r=>by rw[aF (B b (by rw[r];exact λz=>nomatch z))];exact ag.fz b q w r⟩
  ·have bc:i=items.length:=by lia
   subst bc;rw[zdE]at G;cases G;rw[zbs]at ed;subst ed;exact .inl ⟨al (zaj _),q D H2 x2 n0 nA (.lst ai ad)⟩
theorem zW{B tg q:Expr}{z:List Expr}{scope:Scope}{pos:Pos}{N:List Str}{F:List (Str×Addr)}{ms:List (Option Nat)}{t:Nat}{it:Lv}{c:Bv}{f:Ev}
  (M:X.calm=true) (cc:My.Clo X N scope F) (G:dO X scope N ms) (hO:qc O ms=Oi) (Y:∀j∈Oi,∀k∈Oi,ms[j]?=ms[k]?->j=k) (J:t∉Oi) (hi:PDI X O tg q it) (U:∀C s H fp,PG (My.aZ X N scope F C s H fp) tg (i7 t))
  (ht:∀C s H fp,My.DT (My.aZ X N scope F C s H fp) z (tDT Oi c)) (W:∀C s H fp,PD (My.aZ X N scope F C s H fp) Oi B f) (hs:∀x,zba q X.env x=pure x:=by intro _;rfl) :
  PF X O (.ListComp B [⟨tg,q,z,0⟩] scope pos) (dS ms it (aR t) c f):=PE.mono (My.EU M cc hi U ht W hs) (GU G hO Y J)
theorem EE{N:List Str}{scope:Scope}(hk:scope.kind=.function)(h:A6 scope.names X.env.scope.names=true)(U:∀x,X.env.scope.names.lookup x=some .cell->∃c,X.env.cells.lookup x=some c):My.Clo X N scope (hJ X.env.cells scope.names []):=by
 have h':=List.all_eq_true.mp h;have G:∀y∈scope.names,y.2≠.cell:=λy F=>by
  have:=h' y F;simp only[zaP]at this;simpa using this.1.1
 have Y:∀y∈scope.names,y.2=.local->scope.names.lookup y.1=some .local:=λy F e=>by
  have:=h' y F;simp only[zaP,zdG]at this;rcases this.1.2 with z|z
  ·rw[e]at z;exact absurd z (by decide)
  ·simpa using z
 have J:∀y∈scope.names,y.2=.free->∃c,X.env.cells.lookup y.1=some c:=λy F e=>by
  have:=h' y F;simp only[zaP,zdG]at this;rcases this.2 with z|z
  ·rw[e]at z;exact absurd z (by decide)
  ·exact U _ (by simpa using z)
 have q:∀x,((zbc scope X.env).names.lookup x=some .cell\/(zbc scope X.env).names.lookup x=some .free)->(x,zbl)∈scope.names:=λx hx=>by
  rcases hx with hx|hx
  ·rcases My.SL hx with z|⟨_,z⟩
   ·exact absurd rfl (G _ z)
   ·exact z
  ·rcases My.SL hx with z|⟨z,_⟩
   ·exact z
   ·cases z
 refine⟨E4 J,hk,G,Y,λx c e=>?_,λx hx=>tE (.inl (q x hx))⟩;rcases tL e with⟨c',z,_⟩|⟨W,M⟩
 ·cases z
 ·obtain⟨c0,B⟩:=J _ W rfl
  have B:X.env.cells.lookup x=some c0:=B;rw[M,B];rfl
theorem E9{n:Nat}(q:X.env.cells=zb7 n X.env.scope.names []):∀x,X.env.scope.names.lookup x=some .cell->∃c,X.env.cells.lookup x=some c:=λx h=>by
 rw[q];exact mU (sc:=X.env.scope) h
end
section
variable {X:Cx}{L:Lp}{O O' O2:List Nat}
end
section
variable {X:Cx}{L:Lp}{O O' O2:List Nat}{Z:List Nat}
end
end P
namespace My
open PySem PySem.Spec PyProof.Rows L2
section
variable {X:Cx}
end
end My
namespace P
open PySem PySem.Spec PyProof.Rows L2
section
variable {X:Cx}
end
end P
namespace My
open PySem PySem.Spec PyProof.Rows L2
end My
namespace P
open PySem PySem.Spec PyProof.Rows L2
section
variable {X:Cx}{O:List Nat}
end
end P
namespace My
open PySem PySem.Spec PyProof.Rows L2
section
variable {X:Cx}
end
end My
namespace P
open PySem PySem.Spec PyProof.Rows L2
section
variable {X:Cx}{O:List Nat}
end
def Fe(K:zae)(x:Str)(st:Stmt)(f:Addr):Prop:=∃fd,Fun K x x st f fd
theorem Fe.mk{K:zae}{x:Str}{st:Stmt}{f:Addr}{G:Value}{od F:Option Addr}{z:Array (Option Value)}{kV B J q ct:Value}(l:K.lookup f=some ⟨G,od,.func (zbg x x (dW st) (bQ st) (aM st) .none kV B J F q ct),z⟩)(c:zco K q x=true)(k:zbE K (.ref f)=true):Fe K x st f:=⟨_,C5 l c k⟩
theorem Fe.d{K:zae}{mg:Str->Option Value}{x:Str}{st:Stmt}{f:Addr}{ps:List Str}(h:Fe K x st f)(a:mg x=some (.ref f))(q:∀(kV doc pm:Value) (an:Option Addr) (cdv ct:Value) (us:List Value),us.length=ps.length->bindArgs (zbg x x (dW st) (bQ st) (aM st) .none kV doc pm an cdv ct) ⟨us,[]⟩=pure (ps.zip us)):My.DefAt K mg x st ps:=let ⟨fd,F⟩:=h;⟨⟨f,fd,F,F.binds q,a⟩⟩
end P
namespace My
open PySem PySem.Spec PyProof.Rows L2
noncomputable def NT(ns:List Int):Int:=(ns[argBest (λi j=>decide ((ns[i]?).getD 0<(ns[j]?).getD 0)) (ns.length-1)]?).getD 0
section
variable {X:Cx}
end
end My
namespace P
open PySem PySem.Spec PyProof.Rows L2
section
variable {X:Cx}
end
section
variable {X:Cx}{L:Lp}{O O':List Nat}
theorem c0{z O3:List Nat}{st:Stmt}{q:List Stmt}{f g:Sv}(h:jA X L z st f [])(k:d9 X L [] q g O3):d9 X L z (st::q) (dC f g) O3:=cn h k
theorem ss(i:Nat)(q:X.N.Nodup)(z:PD X O e f)(hi:X.N[i]?=some x:=by rfl)(hx:Loc X.env.scope x:=by exact zaZ rfl)(h:Sub O' (O.filter (· != i))=true:=by rfl)(hs:zaC e (some (.Name x pos')) pos.line X.env=pure false:=by rfl)(B:X.fn x=true\/X.env.scope.names.lookup x=some .local:=by first|exact .inl rfl|exact .inr rfl):jA X L O (.Assign [.Name x pos'] e pos) (dU i f) O':=D7 q hi hx z h hs B
theorem gc(h1:BF X O e g)(h2:DQ X O es k)(a:(za1 (e::es) X.env).map (·.2)=zbd e X.env::(za1 es X.env).map (·.2):=by rfl):DQ X O (e::es) (d7 g k):=hZ (λx y=>jU x y a) h1 h2
theorem gu(n:Nat)(h:DQ X O es k)(q:X.calm=true:=by rfl)(a:(za1 es X.env).length=n:=by rfl)(b:List.findIdx? (λx=>x.fst) (za1 es X.env)=none:=by rfl):BF X O (.Tuple es j pos) (k7 n k):=E8 (DF q h a b)
theorem tc(B:lA X (zay op) g)(q:PB X O a fa)(z:PB X O b fb)(h1:op≠CmpOp.In:=by decide)(h2:op≠CmpOp.NotIn:=by decide):uZ X O (.Compare a [op] [b] pos) (qC (a7 g fa fb)):=EW B q z (MN _ h1 h2)
end
variable {X:Cx}{O:List Nat}{e:Expr}
end P
namespace My
open PySem PySem.Spec PyProof.Rows L2
section
variable {prog:zah}{w:World}{A:zan}{E:Value->zab->Prop}{s:zab}
end
end My
namespace P
open PySem PySem.Spec PyProof.Rows L2
end P
namespace HT
open PySem PySem.Spec PyProof.Rows
section
open PySem.SeqAt
open PySem.AutoSeq1 (wpAny_loadPart')
open PySem.MeetsSeq PySem.MeetsSeq2 PySem.MeetsSeq3
end
section
variable {prog:zah}{w:World}{A:zan}{E:Value->zab->Prop}{s:zab}
end
end HT
namespace P
open PySem PySem.Spec PyProof.Rows L2
section
variable {X:Cx}
end
section
variable {X:Cx}
end
section
variable {X:Cx}{L:Lp}{O O':List Nat}
theorem cO(O2:List Nat){z O3:List Nat}{st:Stmt}{q:List Stmt}{f g:Sv}(h:jA X L z st f O2)(k:d9 X L O2 q g O3):d9 X L z (st::q) (dC f g) O3:=cn h k
theorem wt{x1}(h:BG X O es g)(z:Len g es.length)(q:Nat.ble es.length 100=true:=by rfl):PD X O (.Tuple es x1 pos) (eY g):=oH h (λρ ds k=>by rw[z ρ ds k];exact zcs q)
theorem wl(h:BG X O es g)(z:Len g es.length)(q:Nat.ble es.length 100=true:=by rfl):PF X O (.List es pos) (NJ g):=U3 h (λρ ds k=>by rw[z ρ ds k];exact zcs q)
theorem wE(O':Fn X.prog X.w X.K X.mg X.base x k ps F)(M:Room j X.A)(J:BG X O (e::es) f)(B:Len f ps.length)(N:k<=j)(z:Gl X x:=by rfl)(q:(x == ("__debug__" : Str))=false:=by decide)(hs:isStar e=false:=by rfl)(G:(es.all λe=>!isStar e)=true:=by rfl):PD X O (.Call (.Name x p) (e::es) [] pos) (aQ F f):=cD O' (M.mono N) J B z q hs G
theorem qaK{e:Expr}{es:List Expr}{f:Lv}{p pos:Pos}(F:X.mg "len" = none)(z:wD X O (e::es) f)(q:Gl X "len")(hs:isStar e=false)(B:((es:List Expr).all λe=>!isStar e)=true):PD X O (.Call (.Name "len" p) (e::es) [] pos) (aQ gM f):=cB VL F My.boot_len z q (by decide) (by decide) hs B
theorem qad{e:Expr}{es:List Expr}{f:Lv}{p pos:Pos}(F:X.mg "tuple" = none)(z:wD X O (e::es) f)(q:Gl X "tuple")(hs:isStar e=false)(B:((es:List Expr).all λe=>!isStar e)=true):PD X O (.Call (.Name "tuple" p) (e::es) [] pos) (aQ kE f):=XH jW F My.boot_tuple z q (by decide) (by decide) hs B
theorem qao{e:Expr}{es:List Expr}{f:Lv}{p pos:Pos}(F:X.mg "int" = none)(z:wD X O (e::es) f)(q:Gl X "int")(hs:isStar e=false)(B:((es:List Expr).all λe=>!isStar e)=true):PD X O (.Call (.Name "int" p) (e::es) [] pos) (aQ BB f):=XH WD F My.boot_int z q (by decide) (by decide) hs B
theorem qaE{e:Expr}{es:List Expr}{f:Lv}{p pos:Pos}(F:X.mg "list" = none)(z:wD X O (e::es) f)(q:Gl X "list")(hs:isStar e=false)(B:((es:List Expr).all λe=>!isStar e)=true):PF X O (.Call (.Name "list" p) (e::es) [] pos) (aQ GC f):=qd RD F My.boot_list z q (by decide) (by decide) hs B
theorem X5{q:Expr}{e:Expr}{es:List Expr}{f:Lv}{p pos:Pos}(z:X.calm=true)(G:X.mg "min" = none)(J:wD X O [e,q] f)(B:Gl X "min")(hs:isStar e=false)(F:(([q]:List Expr).all λe=>!isStar e)=true):PD X O (.Call (.Name "min" p) [e,q] [] pos) (aQ uK f):=cB (QS z) G My.boot_min J B (by decide) (by decide) hs F
theorem YD{q:Expr}{e:Expr}{es:List Expr}{f:Lv}{p pos:Pos}(z:X.calm=true)(G:X.mg "max" = none)(J:wD X O [e,q] f)(B:Gl X "max")(hs:isStar e=false)(F:(([q]:List Expr).all λe=>!isStar e)=true):PD X O (.Call (.Name "max" p) [e,q] [] pos) (aQ FV f):=cB (RM z) G My.boot_max J B (by decide) (by decide) hs F
theorem ZC{e:Expr}{f:Ev}{p p2 pos:Pos}(J:PB X O e f)(G:X.mg "isinstance" = none)(z:X.mg "int" = none)(B:Gl X "isinstance")(q:Gl X "int")(h1:zag [e,.Name "int" p2] X.env=(false,eval e X.env)::zag [.Name "int" p2] X.env)(h2:(zaG pos (zag [.Name "int" p2] X.env)).any (·.1)=false)(F:zag [.Name "int" p2] X.env=(false,eval (.Name "int" p2) X.env)::zag [] X.env):PD X O (.Call (.Name "isinstance" p) [e,.Name "int" p2] [] pos) (NQ "int" f):=DH PN B G q z My.boot_int J (by decide) (by decide) h1 h2 F
theorem UF{e:Expr}{f:Ev}{p p2 pos:Pos}(J:PB X O e f)(G:X.mg "isinstance" = none)(z:X.mg "bool" = none)(B:Gl X "isinstance")(q:Gl X "bool")(h1:zag [e,.Name "bool" p2] X.env=(false,eval e X.env)::zag [.Name "bool" p2] X.env)(h2:(zaG pos (zag [.Name "bool" p2] X.env)).any (·.1)=false)(F:zag [.Name "bool" p2] X.env=(false,eval (.Name "bool" p2) X.env)::zag [] X.env):PD X O (.Call (.Name "isinstance" p) [e,.Name "bool" p2] [] pos) (NQ "bool" f):=DH K6 B G q z My.boot_bool J (by decide) (by decide) h1 h2 F
theorem QX{e:Expr}{f:Ev}{p p2 pos:Pos}(J:PB X O e f)(G:X.mg "isinstance" = none)(z:X.mg "tuple" = none)(B:Gl X "isinstance")(q:Gl X "tuple")(h1:zag [e,.Name "tuple" p2] X.env=(false,eval e X.env)::zag [.Name "tuple" p2] X.env)(h2:(zaG pos (zag [.Name "tuple" p2] X.env)).any (·.1)=false)(F:zag [.Name "tuple" p2] X.env=(false,eval (.Name "tuple" p2) X.env)::zag [] X.env):PD X O (.Call (.Name "isinstance" p) [e,.Name "tuple" p2] [] pos) (NQ "tuple" f):=DH kit_tuple B G q z My.boot_tuple J (by decide) (by decide) h1 h2 F
theorem rSl{e:Expr}{lo hi:Option Expr}{p2 pos:Pos}{f:Ev}{a b:Ov}(B:PB X O e f)(z:S9 X O lo a)(q:S9 X O hi b):PD X O (.Subscript e (.Slice lo hi none p2) pos) (W9 yA f a b):=JO qam B z q
theorem rIt{a b:Expr}{pos:Pos}{q fb:Ev}(z:X.A.units+1<cLine)(B:PB X O a q)(F:PB X O b fb)(hs:xF b:=by exact λ_ _=>rfl):PD X O (.Subscript a b pos) (a7 aJ q fb):=QL z B F hs
theorem qaD{a b:Expr}{pos:Pos}{q fb:Ev}{j:Nat}(F:Room j X.A)(B:PB X O a q)(G:PB X O b fb)(z:zbP .NotIn b=false):uZ X O (.Compare a [.NotIn] [b] pos) (qC (a7 nJ q fb)):=EW (GK F.units) B G z
theorem rCm{a b:Expr}{op:CmpOp}{pos:Pos}{g:D->D->Option D}{q fb:Ev}(F:lA X (zay op) g)(z:PB X O a q)(B:PB X O b fb)(h1:op≠CmpOp.In)(h2:op≠CmpOp.NotIn):PD X O (.Compare a [op] [b] pos) (a7 g q fb):=WK F z B (MN _ h1 h2)
theorem rJn{o e:Expr}{apos cpos:Pos}{q fe:Ev}(N:PB X O o q)(M:PB X O e fe)(B:zaN o "join" X.env (eval o X.env)=eval o X.env)(G:((((zaG cpos (zag [e] X.env)).all λx=>!x.fst) && (backToKw cpos (keywordEach [] X.env)).all λx=>x.fst.isSome) && decide (([e].length+([]:List zcm).length+if([]:List zcm).isEmpty=true then 0 else 1)<30))=true)(U:(apos.endLine == cpos.line)=true)(z:zag [e] X.env=(false,eval e X.env)::zag [] X.env)(J:((zaG cpos (zag [] X.env)).any λx=>x.fst)=false):PD X O (.Call (.Attribute o "join" apos) [e] [] cpos) (a7 A5 q fe):=ET N M (λa b=>uJ PySem.F.plainAttrs_str PySem.F.slot_str_join PySem.F.type_str_join My.FU a b B G U z J) z
theorem xEq{j:Nat}(q:Room j X.A):lA X (zay .Eq) qJ:=YX q.units
theorem xNe{j:Nat}(q:Room j X.A):lA X (zay .NotEq) uX:=YL q.units
theorem xLt{j:Nat}(q:Room j X.A):lA X (zay .Lt) qe:=UG q.units0
def At(l:List Str)(x:Str)(i:Nat):Prop:=l[i]?=some x
theorem at_(i:Nat){l:List Str}{x:Str}(h:l[i]?=some x:=by eq_refl):At l x i:=h
theorem vB{i:Nat}{x:Str}{p:Pos}(h:At X.N x i)(z:W8 X.env.scope x)(hd:(x == ("__debug__" : Str))=false)(q:(x == ("__classdict__" : Str))=false):PB X O (.Name x p) (aD i):=V5 i (pv i h z hd q)
theorem vD{i:Nat}{x:Str}{p:Pos}(h:At X.N x i)(n:O.contains i=false)(z:W8 X.env.scope x)(hd:(x == ("__debug__" : Str))=false)(q:(x == ("__classdict__" : Str))=false):PD X O (.Name x p) (aD i):=tY i (pv i h z hd q) (by simpa using n)
theorem gV{i:Nat}{x:Str}{pos:Pos}(h:At X.N x i)(n:O.contains i=false)(q:X.N.Nodup)(hx:Loc X.env.scope x)(z:X.fn x=true\/X.env.scope.names.lookup x=some .local):BF X O (.Name x pos) (aR i):=mY (gT q h hx z) n
theorem aK(i:Nat)(z:PD X O e f:=by trivial)(q:X.N.Nodup:=by assumption)(hi:X.N[i]?=some x:=by rfl)(hx:Loc X.env.scope x:=by first|exact zaZ rfl|exact zbK rfl)(h:Sub O' (O.filter (· != i))=true:=by rfl)(hs:zaC e (some (.Name x pos')) pos.line X.env=pure false:=by rfl)(B:X.fn x=true\/X.env.scope.names.lookup x=some .local:=by first|exact .inl rfl|exact .inr rfl):jA X L O (.Assign [.Name x pos'] e pos) (dU i f) O':=D7 q hi hx z h hs B
theorem d6(i:Nat)(B:PF X O e f:=by trivial)(q:X.N.Nodup:=by assumption)(hi:X.N[i]?=some x:=by rfl)(hx:Loc X.env.scope x:=by first|exact zaZ rfl|exact zbK rfl)(h:Sub O' (i::O)=true:=by rfl)(z:O.contains i=false:=by rfl)(hs:zaC e (some (.Name x pos')) pos.line X.env=pure false:=by rfl)(F:X.fn x=true\/X.env.scope.names.lookup x=some .local:=by first|exact .inl rfl|exact .inr rfl):jA X L O (.Assign [.Name x pos'] e pos) (dU i f) O':=LF q hi hx B h z hs F
theorem kI(i:Nat)(q:PD X O e f:=by trivial)(z:PE X o (cX i):=by exact pv _)(N:mem O i=true:=by rfl)(G:zaN o "append" X.env (eval o X.env)=eval o X.env:=by rfl)(J:((((zaG cpos (zag [e] X.env)).all λx=>!x.fst) && (backToKw cpos (keywordEach [] X.env)).all λx=>x.fst.isSome) && decide (([e].length+([]:List zcm).length+if([]:List zcm).isEmpty=true then 0 else 1)<30))=true:=by rfl)(U:(apos.endLine == cpos.line)=true:=by rfl)(B:zag [e] X.env=(false,eval e X.env)::zag [] X.env:=by rfl)(M:((zaG cpos (zag [] X.env)).any λx=>x.fst)=false:=by rfl)(hs:zaC (.Call (.Attribute o "append" apos) [e] [] cpos) none pos.line X.env=pure false:=by rfl)(h:Sub O' O=true:=by rfl):jA X L O (.Expr (.Call (.Attribute o "append" apos) [e] [] cpos) pos) (IN i f) O':=BR z q N (uJ zc1 PySem.F.slot_list_append PySem.F.type_list_append vC z (cK (PD.pe q) fD (hs:=B)) G J U B M) hs h
theorem aN(q:PD X O e f:=by trivial):d9 X L O [.Return (some e) pos] (IX f) O':=aO (RI q)
theorem NR(z:d9 X L O a f O')(B:d9 X L O b k O')(q:uZ X O c g:=by trivial):jA X L O (.If c a b pos) (BJ g f k) O':=DC q z B
theorem aY(z:d9 X L O a f O')(q:uZ X O c g:=by trivial)(h:Sub O' O=true:=by rfl):jA X L O (.If c a [] pos) (BJ g f SD) O':=DC q z (FB h)
theorem ZO{st:Stmt}:d9 X L O [st] R1 O':=aO HB
theorem Y9{c:Expr}{st:Stmt}{pos:Pos}{g:Bv}(q:uZ X O c g:=by trivial)(h:Sub O' O=true:=by rfl):jA X L O (.If c [st] [] pos) (BJ g R1 SD) O':=DC q ZO (FB h)
theorem eI(q z:List Nat)(M:d9 X ⟨z,q⟩ q body b q)(hi:PDI X O tg iter f:=by trivial)(F:BF X q tg g:=by trivial)(G:zb5 (model X.prog X.w) X.A X.env X.xe:=by exact zeh)(B:X.calm=true:=by rfl)(h1:Sub q O=true:=by rfl)(h2:Sub O' q=true:=by rfl)(J:Sub O' z=true:=by rfl)(hs:∀x,zba iter X.env x=pure x:=by intro _;rfl):jA X L O (.For tg iter body [] pos) (BE f g b) O':=RB G B hi F M h1 h2 J hs
theorem NC(q z:List Nat)(J:d9 X ⟨z,q⟩ q body b q)(B:uZ X q c g:=by trivial)(F:zb5 (model X.prog X.w) X.A X.env X.xe:=by exact zeh)(h1:Sub q O=true:=by rfl)(h2:Sub O' q=true:=by rfl)(G:Sub O' z=true:=by rfl):jA X L O (.While c body [] pos) (lP g b) O':=HZ F B J h1 h2 G
theorem A7(i:Nat)(J:PD X O value fe:=by trivial)(M:PB X O k fk:=by trivial)(B:X.A.units+1<cLine:=by assumption)(F:PE X o (cX i):=by exact pv _)(G:mem O i=true:=by rfl)(h:Sub O' O=true:=by rfl)(hs:zaC value (some (.Subscript o k pos')) pos.line X.env=pure false:=by rfl)(q:zc9 [.Subscript o k pos'] value pos.line X.env=pure false:=by rfl)(hw:zda [.Subscript o k pos'] value X.env=pure none:=by rfl)
  (z:∀ {to ti:TE} {t:NM},PE X o to->PE X k ti->RS X t->PG X (.Subscript o k pos') (WX to ti t):=by intro _ _ _ a b c;exact L0 a b c):jA X L O (.Assign [.Subscript o k pos'] value pos) (DR i fk fe) O':=QZ B F M J G h hs q hw z
theorem eU(σ:zab)(N:List Str)(ms:List (Option Nat))(hi:PDI X O tg iter it:=by trivial)(B:∀C s H fp,N.Nodup->BF (My.aZ X N scope (hJ X.env.cells scope.names []) C s H fp) [] tg g:=by intros;trivial)(M:∀C s H fp,My.DT (My.aZ X N scope (hJ X.env.cells scope.names []) C s H fp) ifs (tDT [] c):=by intros;trivial)(J:∀C s H fp,PD (My.aZ X N scope (hJ X.env.cells scope.names []) C s H fp) [] elt f:=by intros;trivial)
  (hx:X.env.cells=zb7 (σ.heap.objs.size+1) X.env.scope.names []:=by rfl) (q:dO X scope N ms:=by repeat' first|exact zaY|exact rfl|exact zaZ rfl|constructor) (G:N.Nodup:=by decide)
  (z:X.calm=true:=by rfl) (U:scope.kind=.function:=by rfl) (h:A6 scope.names X.env.scope.names=true:=by rfl) (F:(ms.all λo=>match o with|some i=>!O.contains i|none=>true)=true:=by rfl) (hs:∀x,zba iter X.env x=pure x:=by intro _;rfl):PF X O (.ListComp elt [⟨tg,iter,ifs,0⟩] scope pos) (dS ms it g c f):=N5 z (C3 U h hx) q F hi (λC s H fp=>B C s H fp G) M J hs
theorem jZ(i:Nat)(σ:zab)(N:List Str)(ms:List (Option Nat))(hi:PDI X O tg iter it:=by trivial)(J:∀C s H fp,N.Nodup->BF (My.aZ X N scope (hJ X.env.cells scope.names []) C s H fp) [] tg g:=by intros;trivial)(ht:∀C s H fp,My.DT (My.aZ X N scope (hJ X.env.cells scope.names []) C s H fp) ifs (tDT [] c):=by intros;trivial)(Y:∀C s H fp,PD (My.aZ X N scope (hJ X.env.cells scope.names []) C s H fp) [] elt f:=by intros;trivial)
  (hx:X.env.cells=zb7 (σ.heap.objs.size+1) X.env.scope.names []:=by rfl) (z:dO X scope N ms:=by repeat' first|exact zaY|exact rfl|exact zaZ rfl|constructor) (W:N.Nodup:=by decide)
  (G:X.calm=true:=by rfl) (hk:scope.kind=.function:=by rfl) (h:A6 scope.names X.env.scope.names=true:=by rfl) (M:(ms.all λo=>match o with|some i=>!O.contains i|none=>true)=true:=by rfl) (hs:∀x,zba iter X.env x=pure x:=by intro _;rfl)
  (hX:X.N.Nodup:=by assumption) (F:X.N[i]?=some x:=by rfl) (U:Loc X.env.scope x:=by first|exact zaZ rfl|exact zbK rfl) (q:Sub O' (O.filter (· != i))=true:=by rfl) (B:zaC (.ListComp elt [⟨tg,iter,ifs,0⟩] scope pos) (some (.Name x pos')) spos.line X.env=pure true:=by rfl) (hf:X.fn x=true\/X.env.scope.names.lookup x=some .local:=by first|exact .inl rfl|exact .inr rfl) :
  jA X L O (.Assign [.Name x pos'] (.ListComp elt [⟨tg,iter,ifs,0⟩] scope pos) spos) (dU i (dS ms it g c f)) O':=LR hX F U G (C3 hk h hx) z M hi (λC s H fp=>J C s H fp W) ht Y q hs B hf
theorem P3(i:Nat)(σ:zab)(N:List Str)(ms:List (Option Nat))(hi:PDI X O tg iter it:=by trivial)(M:∀C s H fp,N.Nodup->BF (My.aZ X N scope (hJ X.env.cells scope.names []) C s H fp) [] tg g:=by intros;trivial)(ht:∀C s H fp,My.DT (My.aZ X N scope (hJ X.env.cells scope.names []) C s H fp) ifs (tDT [] c):=by intros;trivial)(he:∀C s H fp,PD (My.aZ X N scope (hJ X.env.cells scope.names []) C s H fp) [] elt f:=by intros;trivial)
  (hx:X.env.cells=zb7 (σ.heap.objs.size+1) X.env.scope.names []:=by rfl) (z:dO X scope N ms:=by repeat' first|exact zaY|exact rfl|exact zaZ rfl|constructor) (Y:N.Nodup:=by decide)
  (J:X.calm=true:=by rfl) (hk:scope.kind=.function:=by rfl) (h:A6 scope.names X.env.scope.names=true:=by rfl) (U:(ms.all λo=>match o with|some i=>!O.contains i|none=>true)=true:=by rfl) (hs:∀x,zba iter X.env x=pure x:=by intro _;rfl)
  (hX:X.N.Nodup:=by assumption) (F:X.N[i]?=some x:=by rfl) (W:Loc X.env.scope x:=by first|exact zaZ rfl|exact zbK rfl) (q:Sub O' (i::O)=true:=by rfl) (G:O.contains i=false:=by rfl) (B:zaC (.ListComp elt [⟨tg,iter,ifs,0⟩] scope pos) (some (.Name x pos')) spos.line X.env=pure true:=by rfl) (hf:X.fn x=true\/X.env.scope.names.lookup x=some .local:=by first|exact .inl rfl|exact .inr rfl) :
  jA X L O (.Assign [.Name x pos'] (.ListComp elt [⟨tg,iter,ifs,0⟩] scope pos) spos) (dU i (dS ms it g c f)) O':=HM hX F W J (C3 hk h hx) z U hi (λC s H fp=>M C s H fp Y) ht he q G hs B hf
end
theorem fx{Q:zah}{w:World}{K:zae}{mg:Str->Option Value}{base:Heap}{x:Str}{k:Nat}{ps:List Str}{F:List D->Option D}(B:List D->Option D)(h:Fn Q w K mg base x k ps F)(e:F=B:=by rfl):Fn Q w K mg base x k ps B:=e ▸ h
noncomputable def WT:List Str->(List Value->Prop)->Prop
 | [],Q=>Q []
 | _::ps,Q=>∀u,WT ps λus=>Q (u::us)
theorem P0{ps:List Str}{Q:List Value->Prop}(h:WT ps Q){q:List Value}(e:q.length=ps.length):Q q:=by
 induction ps generalizing q Q with
 | nil=>rw[List.length_eq_zero_iff.mp e];exact h
 | cons a ps ih=>
  cases q with
  | nil=>cases e
  | cons u q=>exact ih (h u) (Nat.succ.inj e)
def Bd(st:Stmt)(x:Str)(ps:List Str):Prop:=∀(kV doc pm:Value) (an:Option Addr) (cdv ct:Value),WT ps λq=>bindArgs (zbg x x (dW st) (bQ st) (aM st) .none kV doc pm an cdv ct) ⟨q,[]⟩=pure (ps.zip q)
def De(K:zae)(x:Str)(st:Stmt):Prop:=∃f,zbY K zaJ x=some (some (.ref f))/\Fe K x st f
def Des(K:zae)(tp:Nat->Stmt)(t:List (Str×Nat×List Str)):Prop:=∀p∈t,De K p.1 (tp p.2.1)
theorem Des.nil{K:zae}{tp:Nat->Stmt}:Des K tp []:=λ_ h=>nomatch h
theorem Des.cons{K:zae}{tp:Nat->Stmt}{x:Str}{i:Nat}{ps:List Str}{t:List (Str×Nat×List Str)}{f:Addr}{G:Value}{od F:Option Addr}{z:Array (Option Value)}{kV B J q ct:Value}(a:zbY K zaJ x=some (some (.ref f)))(l:K.lookup f=some ⟨G,od,.func (zbg x x (dW (tp i)) (bQ (tp i)) (aM (tp i)) .none kV B J F q ct),z⟩)(c:zco K q x=true)(k:zbE K (.ref f)=true)(r:Des K tp t):Des K tp ((x,i,ps)::t):=
 zc2.2 ⟨⟨f,a,Fe.mk l c k⟩,r⟩
def Bds(tp:Nat->Stmt)(t:List (Str×Nat×List Str)):Prop:=∀p∈t,Bd (tp p.2.1) p.1 p.2.2
theorem Bds.nil:Bds tp []:=λ_ h=>nomatch h
theorem Bds.cons(a:Bd (tp i) x ps)(r:Bds tp t):Bds tp ((x,i,ps)::t):=zc2.2 ⟨a,r⟩
theorem Des.d{K:zae}{h:Heap}{mg:Str->Option Value}{tp:Nat->Stmt}{t:List (Str×Nat×List Str)}(X:K.In h)(G:h.Ns zaJ mg)(D:Des K tp t)(B:Bds tp t):∀p∈t,My.DefAt K mg p.1 (tp p.2.1) p.2.2:=λp F=>let ⟨_,a,e⟩:=D p F;e.d (zdJ X G a) λkV z M J q ct N=>P0 (B p F kV z M J q ct)
def Nos(K:zae)(t:List Str):Prop:=∀x∈t,zbY K zaJ x=some none
theorem Nos.nil{K:zae}:Nos K []:=λ_ h=>nomatch h
theorem Nos.cons{K:zae}{x:Str}{t:List Str}(a:zbY K zaJ x=some none)(r:Nos K t):Nos K (x::t):=zc2.2 ⟨a,r⟩
def Gis(K:zae)(t:List (Str×Int)):Prop:=∀p∈t,∃k,zbY K zaJ p.1=some (some (.int p.2 k))
theorem Gis.nil{K:zae}:Gis K []:=λ_ h=>nomatch h
theorem Gis.cons{K:zae}{x:Str}{n:Int}{k:Tok}{t:List (Str×Int)}(a:zbY K zaJ x=some (some (.int n k)))(r:Gis K t):Gis K ((x,n)::t):=zc2.2 ⟨⟨k,a⟩,r⟩
theorem Gis.d{K:zae}{h:Heap}{mg:Str->Option Value}{t:List (Str×Int)}(X:K.In h)(G:h.Ns zaJ mg)(D:Gis K t):∀p∈t,GInt mg p.1 p.2:=λp q=>let ⟨_,a⟩:=D p q;⟨⟨_,zdJ X G a⟩⟩
noncomputable def mon:List Int->List Int->Int
 | e::es,v::vs=>v^e.toNat*mon es vs
 | _,_=>1
def ev(vs:List Int)(F:List My.Tm):Int:=(F.map λt=>t.2*mon t.1 vs).sum
noncomputable def pw(S:Nat->Int)(a:Int):Nat->Int
 | 0=>0
 | n+1=>pw S a n+a^n*S n
noncomputable def la(k:List Int):Int:=(k.getLast?).getD 0
theorem DA{w:List D}{c:Int}(G:0<=c)(h1:c<=(w.length:Int)):cutD w none (some c)=w.take c.toNat/\cutD w (some c) none=w.drop c.toNat:=by
 have B:HT.sIx w.length w.length (some c)=c.toNat:=by
  show(if c<0 then _ else min c.toNat w.length)=_;rw[if_neg (by lia)];lia
 have F:HT.sIx w.length 0 (some c)=c.toNat:=by
  show(if c<0 then _ else min c.toNat w.length)=_;rw[if_neg (by lia)];lia
 have q:HT.sIx w.length 0 none=0:=rfl;have z:HT.sIx w.length w.length none=w.length:=rfl;unfold cutD;rw[B,F,q,z];constructor
 ·simp
 ·rw[zbZ (by simp)]
section
variable {ρ ρ':cY}{f g:Ev}{a b:Bv}{l:Lv}{x y d r:D}{xs:List D}{i j:Int}{k:Nat}{s t:Sv}{o:Option Out}
theorem U9(h:ρ[k]?=some (some x)):aD k ρ=some x:=by unfold aD;rw[h];rfl
theorem qz:eC x ρ=some x:=rfl
theorem F3{w:D->D->Option D}(z:f ρ=some x)(q:g ρ=some y)(B:w x y=some r):a7 w f g ρ=some r:=by unfold a7;rw[z,aA,q,aA,B]
theorem PK{F:List D->Option D}(h:l ρ=some xs)(k:F xs=some r):aQ F l ρ=some r:=by unfold aQ;rw[h,aA,k]
theorem OJ(h:f ρ=some x)(k:l ρ=some xs):aB f l ρ=some (x::xs):=by unfold aB;rw[h,aA,k,aA]
theorem UE(h:l ρ=some xs):eY l ρ=some (.tup xs):=by unfold eY;rw[h,aC]
theorem WC(h:l ρ=some xs):NJ l ρ=some (.lst xs):=by unfold NJ;rw[h,aC]
theorem ND(h:f ρ=some (.int i)):v9 f ρ=some (some i):=by unfold v9;rw[h,aA];rfl
theorem NG{w:D->Option Int->Option Int->Option D}{u v:Ov}{p q:Option Int}(F:f ρ=some x)(z:u ρ=some p)(B:v ρ=some q)(G:w x p q=some r):W9 w f u v ρ=some r:=by unfold W9;rw[F,aA,z,aA,B,aA,G]
theorem WA(h:f ρ=some (.int i)):WY f ρ=some (.int (-i)):=by unfold WY;rw[h,aA];rfl
theorem T6{c:Bool}(h:f ρ=some (.bl c)):qC f ρ=some c:=by unfold qC;rw[h,aA];rfl
theorem UM{c:Bool}(h:a ρ=some c):NS a ρ=some (!c):=by unfold NS;rw[h,aC]
noncomputable def XC{α:Type}(c:Bool)(u v:α):α:=if c=true then u else v
theorem ZM{q:Type}{c:Bool}{u v w:q}(h:c=true)(k:u=w):XC c u v=w:=(if_pos h).trans k
theorem Z7{q:Type}{c:Bool}{u v w:q}(h:c=false)(k:v=w):XC c u v=w:=(if_neg (by rw[h];exact nofun)).trans k
theorem UJ{c:Bool}{z:Option Bool}(h:a ρ=some c)(k:XC c (b ρ) (some false)=z):IW a b ρ=z:=by unfold IW;rw[h,aA];exact k
theorem YK{c:Bool}{z:Option Bool}(h:a ρ=some c)(k:XC c (some true) (b ρ)=z):TH a b ρ=z:=by unfold TH;rw[h,aA];exact k
theorem YM{c:Bool}(h:a ρ=some c)(k:XC c (s ρ) (t ρ)=o):BJ a s t ρ=o:=by unfold BJ;rw[h,aA];exact k
def sq(p:Out)(t:Sv):Option Out:=match p with
 | .nx ρ=>t ρ
 | p=>some p
theorem UV{p:Out}(h:s ρ=some p)(k:sq p t=o):dC s t ρ=o:=by unfold dC;rw[h,aA];exact k
theorem XI(k:t ρ=o):sq (.nx ρ) t=o:=k
theorem XR(h:f ρ=some x):IX f ρ=some (.rt x):=qax h
theorem V3{w:Gv}(h:f ρ=some x)(k:w x ρ=some ρ'):RZ f w ρ=some (.nx ρ'):=by unfold RZ;rw[h,aA,k,aC]
theorem MR(h:aD k ρ=some (.lst xs))(e:f ρ=some x)(z:xs.length<=1000000):IN k f ρ=some (.nx (ρ.set k (some (.lst (xs++[x]))))):=by
 unfold IN;rw[h,aA];show(f ρ).bind _=_;rw[e,aA];exact if_pos (decide_eq_true z)
theorem x8{u v:List D}(z:u.length+v.length<=1000000):dN (.lst u) (.lst v)=some (.lst (u++v)):=if_pos (decide_eq_true z)
theorem N0{u:List D}(z:u.length+1<=1000000):dN (.lst u) (.lst [x])=some (.lst (u++[x])):=x8 z
theorem YJ(h:gN xs i=some x):aJ (.lst xs) (.int i)=some x:=h
theorem TZ(h:gN xs i=some x):aJ (.tup xs) (.int i)=some x:=h
theorem ON{ms:List (Option Nat)}{w:Gv}{ds:List D}(h:l ρ=some xs)(z:xs.length<=1000000)(e:bD w a f xs (iG ms ρ)=some ds):dS ms l w a f ρ=some (.lst ds):=by unfold dS;rw[h,aA];exact(if_pos (decide_eq_true z)).trans (by rw[e,aC])
theorem WL{w:Gv}:bD w a f [] ρ=some []:=rfl
theorem QD{w:Gv}{ds:List D}(h:w x ρ=some ρ')(k:a ρ'=some true)(e:f ρ'=some y)(r:bD w a f xs ρ'=some ds):bD w a f (x::xs) ρ=some (y::ds):=by rw[bD,h,aA,k,aA,if_pos rfl,e,aA,r,aA]
theorem YC{w:Gv}(h:w x ρ=some ρ')(k:s ρ'=o):turn w s x ρ=o:=by unfold turn;rw[h,aA,k]
theorem VT{w:Gv}(h:l ρ=some xs)(k:kL w s xs ρ=o):BE l w s ρ=o:=by unfold BE;rw[h,aA,k]
theorem T3{w:Gv}:kL w s [] ρ=some (.nx ρ):=rfl
theorem N6{w:Gv}(h:turn w s x ρ=some (.nx ρ'))(k:kL w s xs ρ'=o):kL w s (x::xs) ρ=o:=by
 unfold turn at h;obtain⟨z,B,q⟩:=bind_some h;unfold kL;rw[B,aA,q,aA];exact k
theorem P5{ys:List D}(h:l ρ=some [x])(e:(gX x).map (gI 0)=some ys):F6 l ρ=some ys:=by unfold F6;rw[h,aA];exact e
theorem X6{w:List D->Option (List D)}{ys:List D}(h:l ρ=some xs)(k:w xs=some ys):lR w l ρ=some ys:=by unfold lR;rw[h,aA,k]
theorem TK{u:Ev}{w:List D}(B:f ρ=some (.lst w))(z:g ρ=some (.int i))(hx:u ρ=some (.lst [x]))(q:0<=i)(h1:i<w.length)(F:w.length<=1000) :
  a7 dN (a7 dN (W9 yA f GB (v9 g)) u) (W9 yA f (v9 (a7 dN g (eC (.int 1)))) GB) ρ=some (.lst (w.take i.toNat++x::w.drop (i.toNat+1))):=by
 obtain⟨n,rfl⟩:=Int.eq_ofNat_of_zero_le q;refine(F3 (F3 (NG B rfl (ND z) rfl) hx (x8 ?_)) (NG B (ND (F3 z rfl rfl)) rfl rfl) (x8 ?_)).trans ?_
 all_goals rw[(DA q (by lia)).1]
 ·simp;lia
 ·rw[(DA (by lia) (by lia)).2];simp;lia
 ·rw[(DA (by lia) (by lia)).2];simp
end
end P
namespace My
open PySem PySem.Spec PyProof.Rows L2 PySem.SeqAt
def D2:V->List V->Hp->VK->Prop:=λx vs H Q=>∃l xs i y,x=.ref l/\vs=[.int i,y]/\H l=some (.lst xs)/\0<=i/\i<=(xs.length:Int)/\xs.length<zai/\Q .non (upd H l (.lst (xs.take i.toNat++y::xs.drop i.toNat)))
theorem vX:∀ {xs:List V} {us:List Value} (n:Nat),Vals xs us->Vals (xs.take n) (us.take n)
 | _,_,0,_=>by simp;exact .nil
 | _,_,n+1,.nil=>.nil
 | _,_,n+1,.cons h t=>.cons h (vX n t)
theorem vL:∀ {xs:List V} {us:List Value} (n:Nat),Vals xs us->Vals (xs.drop n) (us.drop n)
 | _,_,0,r=>r
 | _,_,n+1,.nil=>.nil
 | _,_,n+1,.cons h t=>vL n t
theorem HN{X:Cx}:qf X "list.insert" D2:=by
 intro pins s σ H x vs v us Q I N U h;obtain⟨l,xs,i,y,rfl,rfl,J,h0,h1,hz,q⟩:=h;cases N;obtain⟨u1,M,rfl,r1,r2⟩:=vals2 U;obtain⟨t,rfl⟩:=r1;obtain⟨z,B,n,r,Y,e⟩:=I.lstM J;have G:¬ (!Builtin.List.listFitsIndex i)=true:=by
  have hs:zai<=2^40:=by decide
  rw[fitsIndex_both (by lia) (by lia)];decide
 refine zcB F.slot_list_insert ⟨_,e,rfl⟩ F.entry_list_insert (F.args_list_insert_3 _ _ _) (AutoListH.list_insert_list_int_val_1 l B.toArray n i t M G (by rw[zax];lia)) ⟨e,?_⟩;refine⟨.non,_,I.lset (its':=B.take i.toNat++M::B.drop i.toNat) J e ?_ ((vX _ r).append (.cons r2 (vL _ r))) ?_,rfl,q⟩
 ·have W:min i.toNat B.length=i.toNat:=by lia
  simp only[zax,if_neg (show ¬ i<0 by lia),W];apply Array.ext';simp;exact zbZ (by simp)
 ·simp only[zbb,zaz,zbU,zd5]
  lia
end My
namespace P
open PySem PySem.Spec PyProof.Rows L2
section
variable {X:Cx}{L:Lp}{O O':List Nat}
def WV(i:Nat)(fk fe:Ev):Sv:=λρ=>(aD i ρ).bind λx=>(fk ρ).bind λk=>(fe ρ).bind λd=>match x,k with
 | .lst l,.int j=>if aU l.length=true/\0<=j/\j<=(l.length:Int)then some (.nx (ρ.set i (some (.lst (l.take j.toNat++d::l.drop j.toNat)))))else none
 | _,_=>none
theorem CB{o B z:Expr}{i:Nat}{apos cpos pos:Pos}{fk fe:Ev}(ho:PE X o (cX i))(h1:PD X O B fk)(h2:PD X O z fe)(N:mem O i=true)(Y:PE X (.Call (.Attribute o "insert" apos) [B,z] [] cpos) (XB X.K "list" My.D2 (cX i) (wB (tD Rep O fk) (wB (tD Rep O fe) RP))))
  (hs:zaC (.Call (.Attribute o "insert" apos) [B,z] [] cpos) none pos.line X.env=pure false:=by rfl) (h:Sub O' O=true:=by rfl):jA X L O (.Expr (.Call (.Attribute o "insert" apos) [B,z] [] cpos) pos) (WV i fk fe) O':=
 PS.mono (wX Y hs) <| by
  rintro T σ H ⟨H0,A0,A,E,ρ,out,st,e,p⟩;obtain⟨x,ex,e⟩:=bind_some e;obtain⟨k,ek,e⟩:=bind_some e;obtain⟨d,ed,e⟩:=bind_some e;cases x with
  | lst l=>
   cases k with
   | int j=>
    by_cases F:aU l.length=true/\0<=j/\j<=(l.length:Int)
    ·replace e:(if aU l.length=true/\0<=j/\j<=(l.length:Int)then some (Out.nx (ρ.set i (some (.lst (l.take j.toNat++d::l.drop j.toNat)))))else none)=some out:=e
     rw[if_pos F]at e;cases e;obtain⟨a,B,z,W,e4⟩:=st.own i _ (bU ex) (hG N);cases e4 with
     | lst h4 r4=>
      refine⟨_,B,.inl ⟨rfl,_,SqL.of h4⟩,H0,A0,A,E,ρ,_,st,ek,λv H1 M r1=>⟨H0,A0,A,E,ρ,d,st.mono M,ed,λv2 H2 U r2=>?_⟩⟩;have:=RepB.int_inv (.of r1);subst this;have q:=M.trans U;have G:=q.ow _ _ z h4;refine⟨a,_,j,v2,rfl,rfl,G,F.2.1,by rw[r4.length];exact F.2.2,by rw[r4.length];exact iX F.1,?_⟩;obtain⟨A',J⟩:=((st.mono q).write (o:=.lst _) (bU ex) (hG N) B z W G trivial (.lst aI ((((r4.ext q).take j.toNat).append (.cons r2 ((r4.ext q).drop j.toNat))).put z G trivial))).shut (Sub.mem h);exact p A' σ _ J
    ·replace e:(if aU l.length=true/\0<=j/\j<=(l.length:Int)then some (Out.nx (ρ.set i (some (.lst (l.take j.toNat++d::l.drop j.toNat)))))else none)=some out:=e
     rw[if_neg F]at e;cases e
   | _=>cases e
  | _=>cases e
end
end P
namespace My
open PySem PySem.Spec PyProof.Rows L2
abbrev NK:=Key×List Key
abbrev Mf:=NK->Option (Int×Int)
section
variable {P:zah}{w:World}{H:Hp}{h:Heap}{a b:Addr}{dom:List NK}{f:Mf}{p:Option NK}
theorem qU{k:NK}(ok:HOk P w H h)(e:H a=some (.tup [kV k.1,.ref b]))(B:H b=some (.tup (k.2.map kV))):(cW (bA P w)).is h k a:=by
 obtain⟨_,q,r,o,h1,h2,n,z⟩:=(show ObjOk P w H h a (.tup [kV k.1,.ref b])from ok a _ e);cases r with
 | cons r1 r=>
  cases r with
  | cons r2 r=>
   cases r;cases(show _=zar b from r2);exact⟨o,n,_,b,h1,h2,z.1,v7 r1,oE ok B⟩
def Ent(H:Hp)(dom:List NK)(f:Mf)(x:NK×Addr×Value):Prop:=x.1∈dom/\(∃b,H x.2.1=some (.tup [kV x.1.1,.ref b])/\H b=some (.tup (x.1.2.map kV)))/\MemV H (f x.1) x.2.2
theorem A3(ok:HOk P w H h)(e:H a=some (.memo dom f p)):(a == za6)=false/\∃xs,(∀x∈xs,Ent H dom f x)/\(∀k,p=some k->∃q,atKey xs k=some q)/\h.DictOfH (cW (bA P w)) a xs:=by
 obtain⟨y,xs,r,B,o,es,ep,h1,h2,F,G,z⟩:=(show ObjOk P w H h a (.memo dom f p)from ok a _ e);refine⟨y,xs,r,B,o,es,ep,h1,h2,F,G,λx hx=>?_,z⟩;obtain⟨_,⟨b,J,M⟩,_⟩:=r x hx;exact qU ok J M
theorem uC{xs:List (NK×Addr×Value)}{k:NK}{q:Addr×Value}(h:atKey xs k=some q):(k,q)∈xs:=by
 unfold atKey at h;obtain⟨x,hx,e⟩:=Option.map_eq_some_iff.mp h;have:=List.mem_of_find?_eq_some hx;have z:x.1=k:=by simpa using List.find?_some hx
 rw[<- z,<- e];exact this
end
def MemW(H:Hp):Option (Int×Int)->V->Prop
 | none,v=>v=.non
 | some p,v=>∃b,v=.ref b/\H b=some (.tup [.int p.1,.int p.2])
theorem MemV.of{H:Hp}{r:Option (Int×Int)}{u:Value}(h:MemV H r u):∃v,RelV v u/\MemW H r v:=by
 cases r with
 | none=>exact⟨.non,h,rfl⟩
 | some p=>obtain⟨b,q,z⟩:=h;exact⟨.ref b,q,b,rfl,z⟩
theorem MemW.to{H:Hp}{r:Option (Int×Int)}{v:V}{u:Value}(h:MemW H r v)(q:RelV v u):MemV H r u:=by
 cases r with
 | none=>cases(show v=.non from h);exact q
 | some p=>obtain⟨b,z,B⟩:=h;subst z;exact⟨b,q,B⟩
def kH(H:Hp)(k:NK)(y:V):Prop:=∃c b,y=.ref c/\H c=some (.tup [kV k.1,.ref b])/\H b=some (.tup (k.2.map kV))
section
variable {X:Cx}{pins:List (Addr×Obj)}{σ:L2.St}{H:Hp}{s:zab}{a:Addr}{y v:V}{u r:Value}{A:zan}{E:Value->zab->Prop}{dom:List NK}{f:Mf}{p:Option NK}{k:NK}
theorem T1(I:Inv X pins σ H s)(e:H a=some (.memo dom f p)):s.TypeIs (.ref a) "dict" := by
 obtain⟨_,_,_,_,o,es,ep,h1,h2,_⟩:=A3 I.hok e;exact⟨o,h1,h2.1⟩
theorem xE(I:Inv X pins σ H s)(e:H a=some (.memo dom f p)){p':Option NK}(h:∀xs:List (NK×Addr×Value),(∀k,p=some k->∃q,atKey xs k=some q)->s.heap.DictOfH (cW (bA X.prog X.w)) a xs->∀k,p'=some k->∃q,atKey xs k=some q){t':Nat}:Inv X pins σ (upd H a (.memo dom f p')) {s with toks:=t'}:=by
 obtain⟨y,xs,r,hp,o,es,ep,h1,h2,h3,h4,h5⟩:=(show ObjOk X.prog X.w H s.heap a (.memo dom f p)from I.hok a _ e);obtain⟨_,B,U,F,N⟩:=A3 I.hok e;have G:∀b ys,H b=some (.tup ys)->upd H a (.memo dom f p') b=some (.tup ys):=λb ys z=>by rw[aF (uH z e (λq=>nomatch q))];exact z
 obtain⟨o',M,J,g1,g2,g3,g4,_,g5⟩:=id N;refine I.write (x:=a) (e:=a) (h':=s.heap) (t':=t') (by rw[e];exact zaY) (.inl rfl) (λ_ _ _ z=>z) ⟨o',g1⟩ ⟨y,B,λx hx=>?_,h B F N,o',M,J,g1,g2,g3,g4,g5⟩;obtain⟨d,⟨b,q1,q2⟩,m⟩:=U x hx;refine⟨d,⟨b,G _ _ q1,G _ _ q2⟩,?_⟩;revert m;cases f x.1 with
 | none=>exact id
 | some p=>exact λ⟨c,W,Y⟩=>⟨c,W,G _ _ Y⟩
theorem OE{Q:Value->zab->Prop}(hu:A.units+2<cLine)(I:Inv X pins σ H s)(e:H a=some (.memo dom f p))(ky:kH H k y)(ry:RelV y u)(h1:∀s',Inv X pins σ (upd H a (.memo dom f none)) s'->Q (.bool true) s')(h2:∀s',Inv X pins σ (upd H a (.memo dom f (some k))) s'->Q (.bool false) s') :
  wpAny (model X.prog X.w) A (zay .NotIn u (.ref a)) Q E s:=by
 obtain⟨c,b,rfl,e1,e2⟩:=ky;cases(show u=zar c from ry);obtain⟨hd,xs,rr,hp,W⟩:=A3 I.hok e;refine wpAny_notIn_heap (knd:=cW (bA X.prog X.w)) (show A.in1.units+1<cLine from hu) (qU I.hok e1 e2) hd W ?_;have B:∀ys,s.heap.DictOfH (cW (bA X.prog X.w)) a ys->∀q,atKey xs k=some q->∃q,atKey ys k=some q:=λys G q J=>by
  obtain⟨o,es,ep,g1,g2,g3,g4,g5,g6⟩:=W;obtain⟨o',am,al,N,j2,U,j4,j5,j6⟩:=G;rw[g1]at N;cases N;rw[g3]at U;cases U;have he:xs.map (zci (cW (bA X.prog X.w)))=ys.map (zci (cW (bA X.prog X.w))):=g4.symm.trans j4;have Y:=uC J;obtain⟨i,hi⟩:=List.mem_iff_getElem?.mp Y;have hl:(ys.map (zci (cW (bA X.prog X.w))))[i]?=some (zci (cW (bA X.prog X.w)) (k,q)):=by rw[<- he,zaB,hi];rfl
  rw[zaB]at hl;obtain⟨z,M,ez⟩:=Option.map_eq_some_iff.mp hl;have ka:z.2.1=q.1:=by
   have:=congrArg DictEntry.key ez;injection this
  have kk:z.1=k:=(cW (bA X.prog X.w)).inj (h:=s.heap) (a:=q.1) (ka ▸ j5 z (zav M)) (g5 _ Y);exact⟨z.2,atKey_of_get j6 (i:=i) (by rw[M,<- kk])⟩
 cases J:atKey xs k with
 | none=>exact h1 _ (xE (p':=none) I e λ_ _ _ k F=>by cases F)
 | some q=>exact h2 _ (xE I e λys _ G k' F=>by cases F;exact B ys G q J)
theorem GG{Q:Value->zab->Prop}(U:A.units+2<cLine)(I:Inv X pins σ H s)(e:H a=some (.memo dom f (some k)))(Y:kH H k y)(F:RelV y u)(h:∀v B s',Inv X pins σ H s'->RelV v B->MemW H (f k) v->Q B s') :
  wpAny (model X.prog X.w) A (zbv (.ref a) u) Q E s:=by
 obtain⟨c,b,rfl,J,M⟩:=Y;cases(show u=zar c from F);obtain⟨hd,xs,N,G,dd⟩:=A3 I.hok e;obtain⟨q,z⟩:=G k rfl;refine wpAny_getItem_heap (knd:=cW (bA X.prog X.w)) (show A.in1.units+1<cLine from U) (qU I.hok J M) dd z ?_;obtain⟨_,_,m⟩:=N _ (uC z);obtain⟨v,rv,W⟩:=MemV.of m;exact h v _ _ (I.tok _) rv W
theorem DV{x:NK}:∀ {l:List NK},x∈l->(l.filter λy=>decide (y≠x)).length<l.length
 | [],h=>nomatch h
 | y::l,h=>by
  by_cases e:y=x
  ·rw[List.filter_cons_of_neg (by simp[e])]
   exact Nat.lt_succ_of_le (zc3 _ _)
  ·rw[List.filter_cons_of_pos (by simp[e]),zaz,zaz]
   exact Nat.succ_lt_succ (DV ((List.mem_cons.mp h).resolve_left λz=>e z.symm))
theorem few:∀ {xs dom:List NK},xs.Nodup->(∀x∈xs,x∈dom)->xs.length<=dom.length
 | [],_,_,_=>zaI _
 | x::xs,dom,q,h=>by
  have q:=List.nodup_cons.mp q;have i:=few (xs:=xs) (dom:=dom.filter λy=>decide (y≠x)) q.2 λy B=>List.mem_filter.mpr ⟨h y (zap _ B),decide_eq_true λz=>q.1 (by rw[<- z];exact B)⟩
  have:=DV (h x (zat ..));rw[zaz];lia
theorem HG{Q:Unit->zab->Prop}(hu:A.units+2<cLine)(I:Inv X pins σ H s)(e:H a=some (.memo dom f p))(ky:kH H k y)(hk:k∈dom)(hl:dom.length<zai)(mv:MemW H (f k) v)(ry:RelV y u)(rv:RelV v r)(h:∀s',Inv X pins σ (upd H a (.memo dom f (some k))) s'->Q () s') :
  wpAny (model X.prog X.w) A (setItem (.ref a) u r) Q E s:=by
 obtain⟨c,b,rfl,G,J⟩:=ky;cases(show u=zar c from ry);obtain⟨hd,xs,M,hp,Y⟩:=A3 I.hok e;have nd:(xs.map (·.1)).Nodup:=by obtain⟨_,_,_,_,_,_,_,_,z⟩:=Y;exact z
 have B:xs.length<=zai:=by
  have:=few nd (λx hx=>by obtain⟨y,F,rfl⟩:=List.mem_map.mp hx;exact(M y F).1);rw[zam]at this
  lia
 refine wpAny_setItem_heap (knd:=cW (bA X.prog X.w)) (hsz:=B) (show A.in1.units+1<cLine from hu) (qU I.hok G J) Y λh' W hs=>h _ ?_
 obtain⟨q,es,ep,hq,h2,h3,h4,_,h5⟩:=W;have N:∀b ys,H b=some (.tup ys)->upd H a (.memo dom f (some k)) b=some (.tup ys):=λb ys z=>by rw[aF (uH z e (λq=>nomatch q))];exact z
 have all:∀x∈storedH xs k c r,Ent H dom f x:=λx hx=>by
  unfold storedH at hx;split at hx
  ·obtain⟨y,F,rfl⟩:=List.mem_map.mp hx
   unfold putAt;split
   ·rename_i _ hyk
    obtain⟨a1,a2,a3⟩:=M y F;exact⟨a1,a2,by rw[hyk];exact mv.to rv⟩
   ·exact M y F
  ·rcases List.mem_append.mp hx with z|z
   ·exact M x z
   ·rw[List.mem_singleton.mp z];exact⟨hk,⟨b,G,J⟩,mv.to rv⟩
 refine nO I (by rw[e];exact zaY) hs ⟨q,hq⟩ ⟨hd,_,λx hx=>?_,λk' U=>?_,q,es,ep,hq,h2,h3,h4,h5⟩
 ·obtain⟨d,⟨b,q1,q2⟩,m⟩:=all x hx
  refine⟨d,⟨b,N _ _ q1,N _ _ q2⟩,?_⟩;revert m;cases f x.1 with
  | none=>exact id
  | some p=>exact λ⟨c,G,J⟩=>⟨c,G,N _ _ J⟩
 ·cases U
  have:∃q,(k,q)∈storedH xs k c r:=by
   unfold storedH;split
   ·rename_i hh
    obtain⟨z,B⟩:=Option.isSome_iff_exists.mp hh;exact⟨(z.1,r),List.mem_map.mpr ⟨(k,z),uC B,by unfold putAt;rw[if_pos rfl]⟩⟩
   ·exact⟨(c,r),zaX _ (List.mem_singleton.mpr rfl)⟩
  obtain⟨z,B⟩:=this;obtain⟨i,hi⟩:=List.mem_iff_getElem?.mp B;exact⟨z,atKey_of_get h5 hi⟩
end
end My
namespace P
open PySem PySem.Spec PyProof.Rows L2 My
def uY(C:Addr)(x:Str):D->Option D
 | .ob C' fs=>if C'=C then fs.lookup x else none
 | _=>none
def dP(C:Addr)(x:Str)(f:Ev):Ev:=λρ=>(f ρ).bind (uY C x)
theorem qV{A:Av}{H:Hp}{x:Str}:∀ {fs:List (Str×D)} {vs:List (Str×V)} {d:D},vs.map (·.1)=fs.map (·.1)->RepL A H (fs.map (·.2)) (vs.map (·.2))->fs.lookup x=some d->∃v,vs.lookup x=some v/\Rep A H d v
 | [],[],_,_,_,h=>nomatch h
 | [],_::_,_,e,_,_=>nomatch e
 | _::_,[],_,e,_,_=>nomatch e
 | (a,d0)::fs,(b,v0)::vs,d,e,r,h=>by
  injection e with z e2
  have z:b=a:=z;subst z;cases r with
  | cons r1 r2=>
   by_cases q:(x == b)=true
   ·rw[zbX,q]at h
    cases h;exact⟨v0,by rw[zbX,q],r1⟩
   ·rw[zbX,Bool.eq_false_iff.mpr q]at h
    obtain⟨v,B,F⟩:=qV e2 r2 h;exact⟨v,by rw[zbX,Bool.eq_false_iff.mpr q];exact B,F⟩
section
variable {X:Cx}{O:List Nat}
theorem kT{C:Addr}{e:Expr}{x:Str}{f:Ev}{pos:Pos}(c:Cls X.K C)(n:NoAttr X.K C x)(G:PB X O e f)(J:zaN e x X.env (eval e X.env)=eval e X.env:=by rfl):PD X O (.Attribute e x pos) (dP C x f):=
 PE.mono (kA G J) <| by
  rintro σ H Q ⟨H0,A0,A,E,ρ,d,st,e,q⟩;obtain⟨y,F,z⟩:=bind_some e;cases y with
  | ob C' fs=>
   unfold uY at z;dsimp only at z;split at z
   ·rename_i hC
    subst hC;refine⟨H0,A0,A,E,ρ,_,st,F,λv H1 B r1=>?_⟩;obtain⟨a,dx,vs,rfl,h,M,r⟩:=r1.ob_inv;obtain⟨v,U,N⟩:=qV M r z;exact⟨a,_,dx,vs,v,rfl,h,c,n,U,q v H1 B N⟩
   ·cases z
  | _=>cases z
end
def RG(ty td:TE):TE:=λσ H Q=>ty σ H λy H1=>td σ H1 λx H2=>∃a dom f p k,x=.ref a/\H2 a=some (.memo dom f p)/\kH H2 k y/\Q (.bl true) (upd H2 a (.memo dom f none))/\Q (.bl false) (upd H2 a (.memo dom f (some k)))
def YT(td ty tv:TE):TS:=λD σ H=>tv σ H λv H1=>td σ H1 λx H2=>ty σ H2 λy q=>∃a dom f p k,x=.ref a/\q a=some (.memo dom f p)/\kH q k y/\k∈dom/\dom.length<zai/\MemW q (f k) v/\D.nx σ (upd q a (.memo dom f (some k)))
def SV(td ty:TE):TE:=λσ H Q=>td σ H λx H1=>ty σ H1 λy H2=>∃a dom f k,x=.ref a/\H2 a=some (.memo dom f (some k))/\kH H2 k y/\∀v,MemW H2 (f k) v->Q v (upd H2 a (.memo dom f none))
section
variable {X:Cx}{o i e value:Expr}{pos pos' tpos:Pos}{td ty tv:TE}
theorem GO(J:X.A.units+2<cLine)(hi:PE X i ty)(W:PE X o td):PC X .NotIn i o (RG ty td):=by
 intro pins s σ H Q I h;refine cS (hi pins s σ H _ I h) λiv N ⟨y,H1,F,z,B⟩=>cS (W pins N σ H1 _ F B) λu s2 ⟨x,H2,M,rx,a,dom,f,p,k,ex,g,Y,U,G⟩=>?_
 subst ex;obtain rfl:u=zar a:=rx;exact OE J M g Y z (λs3 q=>⟨.bl true,_,q,rfl,U⟩) λs3 q=>⟨.bl false,_,q,rfl,G⟩
theorem N7(F:X.A.units+2<cLine)(U:PE X o td)(hi:PE X i ty)(hv:PE X value tv)(hs:zaC value (some (.Subscript o i pos')) pos.line X.env=pure false) :
  PS X (.Assign [.Subscript o i pos'] value pos) (YT td ty tv):=by
 intro pins s σ H D I h;refine wpAny_Assign_Subscript (cS (hv pins s σ H _ I h) λr s1 ⟨v,H1,Y,rv,q1⟩=>cS (U pins s1 σ H1 _ Y q1) λu B ⟨x,H2,G,W,q2⟩=>cS (hi pins B σ H2 _ G q2) λiv s3 ⟨y,H3,N,ry,a,dom,f,p,k,ex,g,M,q,J,mw,q3⟩=>?_) hs;subst ex;obtain rfl:u=zar a:=W;exact HG F N g M q J mw ry rv λs4 z=>⟨σ,_,z,q3⟩
theorem OB(M:X.A.units+2<cLine)(ho:PE X o td)(hi:PE X i ty)(hs:IR i):PE X (.Subscript o i pos) (SV td ty):=by
 intro pins s σ H Q I h;refine FT PySem.F.slot_dict_getitem.lookup hs (cS (ho pins s σ H _ I h) λu U ⟨x,H1,J,W,q1⟩=>cS (hi pins U σ H1 _ J q1) λiv s2 ⟨y,H2,z,B,a,dom,f,k,ex,g,ky,N⟩=>?_);subst ex;obtain rfl:u=zar a:=W;exact⟨T1 z g,GG M z g ky B λv w' s3 G q mw=>⟨v,_,xE (p':=none) (t':=s3.toks) G g (λ_ _ _ k Y=>by cases Y),q,N v mw⟩⟩
end
noncomputable def intsOf:List D->Option (List Int)
 | []=>some []
 | .int i::l=>(intsOf l).map (i::·)
 | _=>none
def qt:D->Option NK
 | .tup [.int i,.tup l]=>(intsOf l).map λns=>(.inl i,ns.map .inl)
 | _=>none
noncomputable def memD:Option (Int×Int)->D
 | none=>.non
 | some p=>.tup [.int p.1,.int p.2]
open Classical in
def SJ(C:Addr)(nz kz tz:Nat)(f1 f2:Sv):Sv:=λρ=>(aD nz ρ).bind λnd=>(uY C "found" nd).bind λm=>match m with
 | .mem dom f=>(aD kz ρ).bind λkd=>(qt kd).bind λk=>(f1 ρ).bind λo=>match o with
  | .nx ρ1=>(f2 ρ1).bind λo=>match o with
   | .nx ρ2=>(aD tz ρ2).bind λt=>if k∈dom/\dom.length<zai/\t=memD (f k)/\ρ2[nz]?=ρ[nz]?/\ρ2[kz]?=ρ[kz]? then some (.rt t)else none
   | _=>none
  | _=>none
 | _=>none
theorem ints_rep{A:Av}{H:Hp}:∀ {l:List D} {vs:List V} {ns:List Int},intsOf l=some ns->RepL A H l vs->vs=(ns.map zbn:List Key).map kV
 | [],vs,ns,h,r=>by cases h;cases r;rfl
 | .int i::l,vs,ns,h,r=>by
  obtain⟨ms,e,rfl⟩:=map_some (show(intsOf l).map (i::·)=some ns from h);cases r with
  | cons r1 r2=>cases r1;rw[ints_rep e r2];rfl
theorem P8(h:qt d=some k)(r:Rep A H d v):kH H k v:=by
 unfold qt at h;split at h
 ·rename_i i l
  obtain⟨ns,e,rfl⟩:=map_some h;cases r with
  | tup h1 r1=>
   cases r1 with
   | cons a1 r1=>
    cases a1;cases r1 with
    | cons a2 r1=>
     cases r1;cases a2 with
     | tup h2 r2=>exact⟨_,_,rfl,h1,by rw[h2,ints_rep e r2]⟩
 ·cases h
theorem PR{A:Av}{H:Hp}{r:Option (Int×Int)}{v:V}(h:Rep A H (memD r) v):MemW H r v:=by
 cases r with
 | none=>cases h;rfl
 | some p=>
  cases h with
  | tup h1 r1=>
   cases r1 with
   | cons a1 r1=>
    cases a1;cases r1 with
    | cons a2 r1=>cases a2;cases r1;exact⟨_,rfl,h1⟩
theorem O9{A:Av}{H:Hp}{r:Option (Int×Int)}{v:V}(h:MemW H r v):Rep A H (memD r) v:=by
 cases r with
 | none=>cases(show v=.non from h);exact .non
 | some p=>obtain⟨b,rfl,e⟩:=h;exact .tup e (.cons (.int _) (.cons (.int _) .nil))
theorem MT{H:Hp}{a:Addr}{o:HO}(h:H a=some o):upd H a o=H:=by
 funext b;unfold upd;split
 ·rename_i q;rw[q,h]
 ·rfl
theorem UI{H:Hp}{a:Addr}{o o':HO}{k:NK}{v:V}(h:kH H k v)(e:H a=some o)(n:∀xs,o≠.tup xs):kH (upd H a o') k v:=by
 obtain⟨c,b,rfl,q,B⟩:=h;exact⟨c,b,rfl,by rw[aF (uH q e (λz=>n _ z.symm))];exact q,by rw[aF (uH B e (λz=>n _ z.symm))];exact B⟩
section
variable {X:Cx}{L:Lp}{O':List Nat}
theorem K4{C:Addr}(J G tz:Nat){Y n2 n3 k1 k2 k3 te:Expr}{M B:Stmt}{f1 f2:Sv}{p1 p2 p3 p4 p5 p6 p7 p8 p9:Pos}(c:Cls X.K C)(n:NoAttr X.K C "found")(hu:X.A.units+2<cLine)(h1:jA X ⟨[],[]⟩ [] M f1 [])(h2:jA X ⟨[],[]⟩ [] B f2 [])
  (an:PE X Y (cX J)) (az:PE X n2 (cX J)) (a0:PE X n3 (cX J)) (a2:PE X k1 (cX G)) (ap:PE X k2 (cX G)) (ak:PE X k3 (cX G)) (ht:PE X te (cX tz)) (hs:IR k3)
  (b1:zaN Y "found" X.env (eval Y X.env)=eval Y X.env:=by rfl) (b2:zaN n2 "found" X.env (eval n2 X.env)=eval n2 X.env:=by rfl) (b3:zaN n3 "found" X.env (eval n3 X.env)=eval n3 X.env:=by rfl)
  (hm:zbP .NotIn (.Attribute Y "found" p1)=false:=by rfl) (hw:zaC te (some (.Subscript (.Attribute n2 "found" p2) k2 p3)) p4.line X.env=pure false:=by rfl) :
  d9 X L [] [.If (.Compare k1 [.NotIn] [.Attribute Y "found" p1] p5) [M,B,.Assign [.Subscript (.Attribute n2 "found" p2) k2 p3] te p4] [] p6,.Return (some (.Subscript (.Attribute n3 "found" p7) k3 p8)) p9] (SJ C J G tz f1 f2) O':=
 PSs.mono (dJ (S5 (UW (GO hu a2 (kA an b1)) hm) (dJ h1 (dJ h2 (iY (N7 hu (kA az b2) ap ht hw)))) EN) (iY (L3 (OB hu (kA a0 b3) ak hs)))) <| by
  rintro T σ H ⟨H0,A0,A,E,ρ,out,st,e,ae⟩;obtain⟨nd,en,e⟩:=bind_some e;obtain⟨m,em,e⟩:=bind_some e;cases m with
  | mem dom f=>
   obtain⟨kd,ek,e⟩:=bind_some e;obtain⟨k,kk,e⟩:=bind_some e;obtain⟨o1,aw,e⟩:=bind_some e;cases o1 with
   | nx ρ1=>
    obtain⟨o2,a5,e⟩:=bind_some e;cases o2 with
    | nx ρ2=>
     obtain⟨t,et,e⟩:=bind_some e;split at e
     ·rename_i hh
      obtain⟨hd,hl,tm,r1,r2⟩:=hh;cases e;subst tm;cases nd with
      | ob C' fs=>
       unfold uY at em;dsimp only at em;split at em
       ·rename_i hC
        subst hC
        -- what is true wherever the node and the key stand
        have U:∀ {A:Av} {σ:L2.St} {H:Hp} {ρ':cY},ST H0 A0 A E [] σ H ρ'->ρ'[J]?=ρ[J]?->ρ'[G]?=ρ[G]?->∃a dx vs q F,σ[J]?=some (some (.ref a))/\σ[G]?=some (some F)/\H a=some (.ins C' dx vs)/\vs.lookup ("found" : Str)=some (V.ref q)/\H q=some (.memo dom f none)/\kH H k F:=λ{A σ H ρ'} st q1 q2=>by
         obtain⟨v,ev,rv⟩:=st.val J _ (q1.trans (bU en)) (λz=>nomatch z);obtain⟨F,ao,rk⟩:=st.val G _ (q2.trans (bU ek)) (λz=>nomatch z);obtain⟨a,dx,vs,rfl,h,al,r⟩:=RepB.ob_inv (.of rv);obtain⟨w,hw,as⟩:=qV al r em;obtain⟨q,rfl,a3⟩:=RepB.mem_inv (.of as);exact⟨a,dx,vs,q,F,ev,ao,h,hw,a3,P8 kk rk⟩
        have N:∀ {A:Av} {σ:L2.St} {H:Hp} {ρ':cY},ST H0 A0 A E [] σ H ρ'->∀ {a dx:Addr} {vs:List (Str×V)} {q:Addr} {F:V},σ[J]?=some (some (.ref a))->σ[G]?=some (some F)->H a=some (.ins C' dx vs)->vs.lookup ("found" : Str)=some (V.ref q)->H q=some (.memo dom f none)->kH H k F->Z9 (SV (ZU X.K (cX J) "found") (cX G)) T σ (upd H q (.memo dom f (some k))):=λ{A σ H ρ'} st {a dx vs q F} e1 e2 e3 e4 W e6=>by
         refine⟨_,e1,a,C',dx,vs,_,rfl,by rw[aF (uH e3 W (λz=>nomatch z))];exact e3,c,n,e4,F,e2,q,dom,f,k,rfl,aI,UI e6 W (λ_ z=>nomatch z),λv mw=>?_⟩;rw[O6,MT W];have ar:MemW H (f k) v:=by
          revert mw;cases f k with
          | none=>exact id
          | some p=>exact λ⟨b,q1,q2⟩=>⟨b,q1,by
            by_cases z:b=q
            ·subst z;rw[aI]at q2;cases q2
            ·rw[aF z]at q2;exact q2⟩
         exact ae v H st.ex (O9 ar)
        obtain⟨a,dx,vs,q,F,e1,e2,e3,e4,W,e6⟩:=U st rfl rfl;refine⟨F,e2,_,e1,a,C',dx,vs,_,rfl,e3,c,n,e4,q,dom,f,none,k,rfl,W,e6,⟨true,rfl,?_⟩,⟨false,rfl,?_⟩⟩
        ·rw[MT W]
         dsimp only;rw[if_pos rfl];refine⟨H0,A0,A,E,ρ,_,st,aw,λA1 cb H1 M=>⟨H0,A0,A1,E,ρ1,_,M,a5,λA2 bl H2 B=>?_⟩⟩;obtain⟨tv,aq,rt⟩:=B.val tz _ (bU et) (λz=>nomatch z);obtain⟨a',a6,a4,au,ax,g1,g2,g3,g4,g5,g6⟩:=U B r1 r2;exact⟨tv,aq,_,g1,a',C',a6,a4,_,rfl,g3,c,n,g4,ax,g2,au,dom,f,none,k,rfl,g5,g6,hd,hl,PR rt,N B g1 g2 g3 g4 g5 g6⟩
        ·dsimp only
         rw[if_neg zaA];exact N st e1 e2 e3 e4 W e6
       ·cases em
      | _=>cases em
     ·cases e
    | _=>cases e
   | _=>cases e
  | _=>cases e
end
structure Exx(x:Addr)(A:Av)(H H':Hp):Prop where
 rd:∀b u,b≠x->Rd H b u->Rd H' b u
 kp:∀b u,b≠x->Kp u->H b=some u->H' b=some u
 ow:∀b u,b≠x->A b->H b=some u->H' b=some u
 fz:∀b o u,b≠x->H b=some (.frz o u)->H' b=some (.frz o u)
section
variable {x:Addr}{A A':Av}{H H' H2:Hp}
theorem Exx.trans(a:Exx x A H H')(b:Exx x A H' H2):Exx x A H H2:=
 ⟨λc u n h=>b.rd c u n (a.rd c u n h),λc u n k h=>b.kp c u n k (a.kp c u n k h),λc u n k h=>b.ow c u n k (a.ow c u n k h),λc o u n h=>b.fz c o u n (a.fz c o u n h)⟩
theorem Exx.of(a:Ext A H H'):Exx x A H H':=⟨λc u _ h=>a.rd c u h,λc u _ k h=>a.kp c u k h,λc u _ k h=>a.ow c u k h,λc o u _ h=>a.fz c o u h⟩
theorem Exx.put{o:HO}:Exx x A H (upd H x o):=⟨λb u n h=>eS n h,λb u n _ h=>by rw[aF n];exact h,λb u n _ h=>by rw[aF n];exact h,λb o u n h=>by rw[aF n];exact h⟩
theorem Exx.ext(a:Exx x A H H')(n:H x=none):Ext A H H':=
 have q:∀b,H b≠none->b≠x:=λb B z=>B (by rw[z];exact n)
 ⟨λb u r => a.rd b u (q b (by rcases r with r|⟨_, r⟩ <;> (rw[r];exact λz => nomatch z))) r, λb u k r => a.kp b u (q b (by rw[r];exact λz => nomatch z)) k r,
  λb u k r=>a.ow b u (q b (by rw[r];exact λz=>nomatch z)) k r,λb o u r=>a.fz b o u (q b (by rw[r];exact λz=>nomatch z)) r⟩
theorem Exx.mono(a:Exx x A H H')(s:∀b,A' b->A b):Exx x A' H H':=⟨a.rd,a.kp,λb u n k h=>a.ow b u n (s b k) h,a.fz⟩
mutual
/-- an object that is under way is written -/
theorem Rep.putI{a C dx:Addr}{fs:List (Str×V)}{o:HO}(q:A a)(B:H a=some (.ins C dx fs)){d:D}{v:V}:Rep A H d v->Rep A (upd H a o) d v
 | .non=>.non
 | .bl b=>.bl b
 | .int i=>.int i
 | .str s=>.str s
 | .tup (a:=b) h r=>.tup (by rw[aF (λz=>by subst z;rw[B]at h;cases h)];exact h) (RepL.putI q B r)
 | .lst (a:=b) n h r=>.lst n (eS (λz=>n (by rw[z];exact q)) h) (RepL.putI q B r)
 | .dK (a:=b) n h e r=>.dK n (eS (λz=>n (by rw[z];exact q)) h) e (RepL.putI q B r)
 | .dT (a:=b) n h e r=>.dT n (eS (λz=>n (by rw[z];exact q)) h) e (RepL.putI q B r)
 | .ob (a:=b) n h e r=>.ob n (by rw[aF (λz=>n (by rw[z];exact q))];exact h) e (RepL.putI q B r)
 | .mem (a:=b) h=>.mem (by rw[aF (λz=>by subst z;rw[B]at h;cases h)];exact h)
theorem RepL.putI{a C dx:Addr}{fs:List (Str×V)}{o:HO}(z:A a)(q:H a=some (.ins C dx fs)){ds:List D}{vs:List V}:RepL A H ds vs->RepL A (upd H a o) ds vs
 | .nil=>.nil
 | .cons h t=>.cons (Rep.putI z q h) (RepL.putI z q t)
end
end
structure IO(K:zae)(H0:Hp)(A:Av)(x C dx:Addr)(ds:List (Str×D))(σ:L2.St)(H:Hp)(ρ:cY):Prop where
 cls:Cls K C
 ax:A x
 live:Live A H
 hx:∃fs:List (Str×V),H x=some (.ins C dx fs)/\fs.map (·.1)=ds.map (·.1)/\RepL A H (ds.map (·.2)) (fs.map (·.2))
 s0:σ[0]?=some (some (.ref x))
 len:σ.length=ρ.length
 val:∀(i:Nat) (d:D),ρ[i]?=some (some d)->∃v,σ[i]?=some (some v)/\Rep A H d v
 ke:Exx x A H0 H
section
variable {K:zae}{H0:Hp}{A:Av}{x C dx:Addr}{ds:List (Str×D)}{σ:L2.St}{H H':Hp}{ρ:cY}
theorem IO.st(s:IO K H0 A x C dx ds σ H ρ):ST H A A [] [] σ H ρ:=
 ⟨Ext.refl _ _,λ_ z=>z,s.live,s.live,s.len,λi d h _=>s.val i d h,(λj d _ h=>nomatch h),(λj k d d' a h=>nomatch h),(λq B=>nomatch B)⟩
theorem IO.ext(s:IO K H0 A x C dx ds σ H ρ)(e:Ext A H H'):IO K H0 A x C dx ds σ H' ρ:=
 ⟨s.cls,s.ax,(s.st.mono e).live,by obtain⟨fs,h,m,r⟩:=s.hx;exact⟨fs,e.ow _ _ s.ax h,m,r.ext e⟩,s.s0,s.len,λi d h=>(s.st.mono e).val i d h (λz=>nomatch z),s.ke.trans (.of e)⟩
theorem tJ{f:Str}{v:V}:∀ {fs:List (Str×V)},f∉fs.map (·.1)->i6 f v fs=fs++[(f,v)]
 | [],_=>rfl
 | (g,y)::fs,h=>by
  have h1:¬ g=f:=λz=>h (by rw[zak,z];exact zat ..)
  have h2:f∉fs.map (·.1):=λz=>h (zap _ z)
  rw[i6,if_neg h1,tJ h2];rfl
theorem RepL.snoc{A:Av}{H:Hp}{ds:List D}{vs:List V}{d:D}{v:V}(r:RepL A H ds vs)(h:Rep A H d v):RepL A H (ds++[d]) (vs++[v]):=r.append (.cons h .nil)
theorem IO.put(s:IO K H0 A x C dx ds σ H ρ){f:Str}{d:D}{v:V}(B:f∉ds.map (·.1))(r:Rep A H d v):∃fs,H x=some (.ins C dx fs)/\fs.length=ds.length/\IO K H0 A x C dx (ds++[(f,d)]) σ (upd H x (.ins C dx (i6 f v fs))) ρ:=by
 obtain⟨fs,h,m,F⟩:=s.hx;refine⟨fs,h,by have:=congrArg zbu m;simpa using this,s.cls,s.ax,λa G z=>?_,⟨_,aI,?_,?_⟩,s.s0,s.len,λi d h'=>?_,s.ke.trans .put⟩
 ·by_cases q:a=x
  ·subst q;rw[aI]at z;cases z
  ·rw[aF q]at z;exact s.live a G z
 ·rw[tJ (by rw[m];exact B),zaO,zaO,m];rfl
 ·rw[tJ (by rw[m];exact B),zaO,zaO]
  exact RepL.putI s.ax h (F.snoc r)
 ·obtain⟨v,e,q⟩:=s.val i d h'
  exact⟨v,e,q.putI s.ax h⟩
end
inductive tIO(K:zae)(f:Str)(fe:Ev)(T:Ends)(σ:L2.St)(H:Hp):Prop
 | mk (H0:Hp) (A:Av) (x C dx:Addr) (ds:List (Str×D)) (ρ:cY) (d:D) (st:IO K H0 A x C dx ds σ H ρ) (e:fe ρ=some d) (nf:NoAttr K C f) (lf:ds.length<1000) (hf:f∉ds.map (·.1))
  (n:∀H',IO K H0 A x C dx (ds++[(f,d)]) σ H' ρ->T.nx σ H'):tIO K f fe T σ H
inductive tIC(K:zae)(f h:Str)(F:List D->Option D)(fe:Ev)(T:Ends)(σ:L2.St)(H:Hp):Prop
 | mk (H0:Hp) (A:Av) (x C dx:Addr) (ds:List (Str×D)) (ρ:cY) (d1 d2 d:D) (st:IO K H0 A x C dx ds σ H ρ) (e1:fe ρ=some d1) (e2:ds.lookup h=some d2) (e:F [d1,d2]=some d) (nf:NoAttr K C f) (nh:NoAttr K C h) (lf:ds.length<1000) (hf:f∉ds.map (·.1))
  (n:∀H',IO K H0 A x C dx (ds++[(f,d)]) σ H' ρ->T.nx σ H'):tIC K f h F fe T σ H
inductive tIM(K:zae)(f:Str)(dom:List NK)(g:Mf)(T:Ends)(σ:L2.St)(H:Hp):Prop
 | mk (H0:Hp) (A:Av) (x C dx:Addr) (ds:List (Str×D)) (ρ:cY) (st:IO K H0 A x C dx ds σ H ρ) (nf:NoAttr K C f) (lf:ds.length<1000) (hf:f∉ds.map (·.1))
  (n:∀H',IO K H0 A x C dx (ds++[(f,.mem dom g)]) σ H' ρ->T.nx σ H'):tIM K f dom g T σ H
def Y3(dom:List NK)(g:Mf):TE:=λ_ H Q=>∀p,H p=none->Q (.ref p) (upd H p (.memo dom g none))
section
variable {X:Cx}
theorem P6{dom:List NK}{g:Mf}{pos:Pos}:PE X (.Dict [] [] pos) (Y3 dom g):=λpins s σ H Q I h=>
 wpAny_Dict_empty ⟨.ref s.heap.objs.size,_,I.laid (a:=s.heap.objs.size) (o:=.memo dom g none) (t':=s.toks) (λ_ _ q=>zal _ q) (zaj _)
  ⟨beq_eq_false_iff_ne.mpr (zaU (zaE I.big)),[],(λ_ z=>nomatch z),(λ_ z=>nomatch z),_,#[],0,zaD _ rfl,⟨rfl,rfl,rfl⟩,rfl,rfl,List.nodup_nil⟩,rfl,h _ (I.hok.fresh (zaj _))⟩
theorem C7{o e:Expr}{f:Str}{fe:Ev}{pos pos':Pos}(G:PE X o (cX 0))(z:PD X [] e fe)(hs:zaC e (some (.Attribute o f pos')) pos.line X.env=pure false:=by rfl):PS X (.Assign [.Attribute o f pos'] e pos) (tIO X.K f fe):=
 PS.mono (tX G z hs) λT σ H ⟨H0,A,x,C,dx,ds,ρ,d,st,e,J,N,F,n⟩=>
  ⟨H, A, A, [], ρ, d, st.st, e, λv H1 q r1 => by
   obtain⟨fs,h,M,B⟩:=(st.ext q).put F r1;exact⟨_,st.s0,x,C,dx,fs,rfl,h,st.cls,J,by lia,n _ B⟩⟩
theorem QP{o:Expr}{f:Str}{dom:List NK}{g:Mf}{pos pos' p:Pos}(G:PE X o (cX 0))(hs:zaC (.Dict [] [] p) (some (.Attribute o f pos')) pos.line X.env=pure false:=by rfl):PS X (.Assign [.Attribute o f pos'] (.Dict [] [] p) pos) (tIM X.K f dom g):=
 PS.mono (tX G (P6 (dom:=dom) (g:=g)) hs) <| by
  rintro T σ H ⟨H0,A,x,C,dx,ds,ρ,st,J,N,F,n⟩ q z;obtain⟨fs,h,M,B⟩:=(st.ext (Ext.new (o:=.memo dom g none) z)).put F (.mem (aI (H:=H) (a:=q)));exact⟨_,st.s0,x,C,dx,fs,rfl,h,st.cls,J,by lia,n _ B⟩
theorem N1{o o2 e:Expr}{f h g:Str}{k:Nat}{ps:List Str}{F:List D->Option D}{fe:Ev}{pos pos' p p2 cpos:Pos}(FF:Fn X.prog X.w X.K X.mg X.base g k ps F)(hp:ps.length=2)(hr:Room k X.A)(hg:Gl X g)(ho:PE X o (cX 0))(M:PE X o2 (cX 0))(he:PD X [] e fe)
  (hb:zaN o2 h X.env (eval o2 X.env)=eval o2 X.env:=by rfl) (J:(g == ("__debug__" : Str))=false:=by decide) (h1:zag [e,.Attribute o2 h p2] X.env=(false,eval e X.env)::zag [.Attribute o2 h p2] X.env:=by rfl) (h2:(zaG cpos (zag [.Attribute o2 h p2] X.env)).any (·.1)=false:=by rfl) (h3:zag [.Attribute o2 h p2] X.env=(false,eval (.Attribute o2 h p2) X.env)::zag [] X.env:=by rfl)
  (hs:zaC (.Call (.Name g p) [e,.Attribute o2 h p2] [] cpos) (some (.Attribute o f pos')) pos.line X.env=pure false:=by rfl):PS X (.Assign [.Attribute o f pos'] (.Call (.Name g p) [e,.Attribute o2 h p2] [] cpos) pos) (tIC X.K f h F fe):=by
 obtain⟨fa,fd,hk,G,hm,Y⟩:=My.Ok.ex FF;refine PS.mono (tX ho (xP Y hr hg hm hk G .nil F9 (cK he (cK (kA M hb) fD h3) h1) J h1 h2) hs) λT σ H ⟨H0,A,x,C,dx,ds,ρ,N,W,d,st,e1,e2,e,nf,nh,lf,hf,n⟩=>?_
 refine⟨H,A,A,[],ρ,N,st.st,e1,λv H1 U r1=>?_⟩;have q:=st.ext U;obtain⟨fs,hx,m,rr⟩:=q.hx;obtain⟨v2,z,B⟩:=qV m rr e2;refine⟨_,q.s0,x,C,dx,fs,v2,rfl,hx,q.cls,nh,z,?_⟩;refine⟨A,[N,W],d,q.live,.cons r1 (.cons B .nil),hp.symm,e,λv3 H3 x3 r3=>?_⟩;obtain⟨fs',h',hl,s2⟩:=(q.ext x3).put hf r3;exact⟨_,q.s0,x,C,dx,fs',rfl,h',q.cls,nf,by lia,n _ s2⟩
end
def XD(C:Addr)(G:D->D->Option D):Sp:=λvs H Q _=>∃(A:Av) (H1:Hp) (x dx:Addr) (v:V) (b d0 d:D),vs=[.ref x,v]/\H=upd (upd H1 dx (.own x)) x (.ins C dx [])/\H1 x=none/\H1 dx=none/\dx≠x/\Live A H1/\Rep A H1 d0 v/\G b d0=some d/\∀H2,Ext A H1 H2->Rep A H2 d (.ref x)->Q .non H2
structure MkO(P:zah)(w:World)(K:zae)(mg:Str->Option Value)(base:Heap)(k:Nat)(x:Str)(C:Addr)(p:Str)(G:D->D->Option D):Prop where
 ex:∃f fd,mg x=some (.ref C)/\Mk K C f/\Binds K fd ["self",p] []/\FnOk P w K mg base u3 k f fd ["self",p] (XD C G)
def eNew(G:D->D->Option D)(β f:Ev):Ev:=λρ=>(β ρ).bind λb=>(f ρ).bind (G b)
section
variable {X:Cx}{O:List Nat}
theorem lY{k:Nat}{x p:Str}{C:Addr}{G:D->D->Option D}{β:Ev}{e:Expr}{fe:Ev}{pp pos:Pos}(M:MkO X.prog X.w X.K X.mg X.base k x C p G)(hr:Room (k+1) X.A)(N:Gl X x)(Y:PD X O e fe)(z:(x == ("__debug__" : Str))=false:=by decide)
  (h1:zag [e] X.env=(false,eval e X.env)::zag [] X.env:=by rfl) (h2:(zaG pos (zag [] X.env)).any (·.1)=false:=by rfl):PD X O (.Call (.Name x pp) [e] [] pos) (eNew G β fe):=by
 obtain⟨f,fd,U,mk,hb,W⟩:=M.ex;refine PE.mono (OD mk W hr N U hb .nil F9 (cK Y fD h1) z h1 h2) λσ H Q ⟨H0,A0,A,E,ρ,d,st,e,q⟩=>?_
 obtain⟨b,eb,e⟩:=bind_some e;obtain⟨F,e0,e1⟩:=bind_some e;refine⟨H0,A0,A,E,ρ,F,st,e0,λv H1 B r1=>λxa dx n1 n2 ne=>?_⟩;exact⟨A,H1,xa,dx,v,b,F,d,rfl,rfl,n1,n2,ne,(st.mono B).live,r1,e1,λH2 J r2=>⟨rfl,q _ H2 (B.trans J) r2⟩⟩
end
structure ObT(K:zae)(mg:Str->Option Value)(x q p:Str)(st:Stmt)(C:Addr)(fs:List Str):Prop where
 cls:Cls K C
 na:∀a∈fs,NoAttr K C a
 ex:∃f fd,mg x=some (.ref C)/\Mk K C f/\Binds K fd ["self",p] []/\Fun K "__init__" q st f fd
section
variable {P:zah}{w:World}{K:zae}{mg:Str->Option Value}{base:Heap}
theorem ObT.mko{x q p:Str}{st:Stmt}{C:Addr}{fs N:List Str}{k:Nat}{G:D->D->Option D}(T:ObT K mg x q p st C fs)(S:FnScope N ["self",p] (aM st))
  (h:∀(fa:Addr) (B:Value) (A:zan) (z:List Env) (s:zab) (H:Hp) (E:XK),Room k (A.deeper (zaM q (aM st) s.heap.objs.size fa B))->∀(vs:List V) (Q:VK),XD C G vs H Q E->∃t,PSs (i8 u3 P w K mg base N q (aM st) fa B A z s H E).nox (bQ st) t/\t {nx:=λ_ H'=>Q .non H',rt:=Q} (start N vs) H) :
  MkO P w K mg base (k+1) x C p G:=by
 obtain⟨f,fd,J,M,W,F⟩:=T.ex;exact⟨f,fd,J,M,W,F.ok S (λvs H Q E hsp=>by obtain⟨_,_,_,_,_,_,_,_,rfl,_⟩:=hsp;rfl) λB A z s H vs Q E U hsp=>h f B A z s H E U vs Q hsp⟩
end
theorem IO.begun{K:zae}{C x dx:Addr}{A:Av}{H1:Hp}{v:V}{F:D}(cls:Cls K C)(G:H1 x=none)(N:H1 dx=none)(ne:dx≠x)(lv:Live A H1)(r:Rep A H1 F v)(m:List (Option V))(hm:∀o∈m,o=none):IO K H1 (λb=>A b\/b=x) x C dx [] (some (.ref x)::some v::m) (upd (upd H1 dx (.own x)) x (.ins C dx [])) (none::some F::m.map λ_=>none):=by
 have nx:upd H1 dx (.own x) x=none:=by rw[aF ne.symm];exact G
 have M:Ext (λb=>A b\/b=x) H1 (upd (upd H1 dx (.own x)) x (.ins C dx [])):=(Ext.new N).trans (Ext.new nx);have U:Rep (λb=>A b\/b=x) (upd (upd H1 dx (.own x)) x (.ins C dx [])) F v:=(r.av (A':=λb=>A b\/b=x) λa B=>B.imp id λz=>by rw[z];exact G).ext M;refine⟨cls,.inr rfl,λa B z=>?_,⟨[],aI,rfl,.nil⟩,rfl,by simp,λi d h=>?_,.of M⟩
 ·rcases B with B|rfl
  ·have J:=lv a B
   have W:a≠x:=λq=>J (by rw[q];exact G)
   have Y:a≠dx:=λq=>J (by rw[q];exact N)
   rw[aF W,aF Y]at z;exact J z
  ·rw[aI]at z;cases z
 ·match i,h with
  | 1,h=>cases h;exact⟨v,rfl,U⟩
  | i+2,h=>
   have:(m.map λ_=>(none:Option D))[i]?=some (some d):=h;rw[zaB]at this;obtain⟨_,_,q⟩:=Option.map_eq_some_iff.mp this;cases q
theorem IO.done{K:zae}{C x dx:Addr}{A:Av}{H1 H2:Hp}{ds:List (Str×D)}{σ:L2.St}{ρ:cY}(s:IO K H1 (λb=>A b\/b=x) x C dx ds σ H2 ρ)(B:H1 x=none)(F:Live A H1):Ext A H1 H2/\Rep A H2 (.ob C ds) (.ref x):=by
 refine⟨(s.ke.ext B).mono λa q=>.inl q,?_⟩;obtain⟨fs,h,m,r⟩:=s.hx;exact .ob (λz=>F x z B) h m (r.av λa q=>.inl (.inl q))
def FW(C:Addr)(fb:Ev)(B:List D->Option D)(z:D->List NK)(F:D->Mf)(q:D):Option D:=(fb [none,some q]).bind λb=>(B [q,b]).bind λns=>some (.ob C [("part",q),("below",b),("names",ns),("found",.mem (z q) (F q))])
section
variable {X:Cx}
theorem IE{C:Addr}{k:Nat}{gp:List Str}{o1 o2 o3 F o5 e1 e2 N:Expr}{g:Str}{fb:D->Ev}{Nm:List D->Option D}{dm:D->D->List NK}{ff:D->D->Mf}{a1 a2 a3 a4 p1 p2 p3 p4 q2 G U d4:Pos}(cls:Cls X.K C)(M:∀a∈(["part", "below", "names", "found"]:List Str),NoAttr X.K C a)(FF:Fn X.prog X.w X.K X.mg X.base g k gp Nm)(hp:gp.length=2)(hr:Room k X.A)(hg:Gl X g)
  (af:PE X o1 (cX 0)) (aj:PE X o2 (cX 0)) (ac:PE X o3 (cX 0)) (al:PE X F (cX 0)) (ad:PE X o5 (cX 0)) (ab:PD X [] e1 (aD 1)) (W:∀b,PD X [] e2 (fb b)) (Y:PD X [] N (aD 1))
  (hb:zaN F "below" X.env (eval F X.env)=eval F X.env:=by rfl) (ae:(g == ("__debug__" : Str))=false:=by decide) (h1:zag [N,.Attribute F "below" G] X.env=(false,eval N X.env)::zag [.Attribute F "below" G] X.env:=by rfl) (h2:(zaG U (zag [.Attribute F "below" G] X.env)).any (·.1)=false:=by rfl) (h3:zag [.Attribute F "below" G] X.env=(false,eval (.Attribute F "below" G) X.env)::zag [] X.env:=by rfl)
  (s1:zaC e1 (some (.Attribute o1 "part" a1)) p1.line X.env=pure false:=by rfl) (s2:zaC e2 (some (.Attribute o2 "below" a2)) p2.line X.env=pure false:=by rfl) (s3:zaC (.Call (.Name g q2) [N,.Attribute F "below" G] [] U) (some (.Attribute o3 "names" a3)) p3.line X.env=pure false:=by rfl) (s4:zaC (.Dict [] [] d4) (some (.Attribute o5 "found" a4)) p4.line X.env=pure false:=by rfl)
  {vs:List V} {H:Hp} {Q:VK} {E:XK} (hsp:XD C (λb=>FW C (fb b) Nm (dm b) (ff b)) vs H Q E) {R:VK}:∃t,PSs X [.Assign [.Attribute o1 "part" a1] e1 p1,.Assign [.Attribute o2 "below" a2] e2 p2,.Assign [.Attribute o3 "names" a3] (.Call (.Name g q2) [N,.Attribute F "below" G] [] U) p3,.Assign [.Attribute o5 "found" a4] (.Dict [] [] d4) p4] t/\t {nx:=λ_ H'=>Q .non H',rt:=R} (vs.map some) H:=by
 obtain⟨A,H1,x,dx,v,bb,B,d,rfl,rfl,n1,n2,ne,lv,rp,J,q⟩:=hsp;obtain⟨b,eb,J⟩:=bind_some J;obtain⟨ns,en,J⟩:=bind_some J;cases J;refine⟨_,dJ (C7 af ab s1) (dJ (C7 aj (W bb) s2) (dJ (N1 FF hp hr hg ac al Y hb ae h1 h2 h3 s3) (iY (QP (dom:=dm bb B) (g:=ff bb B) ad s4)))),?_⟩;have I0:=IO.begun cls n1 n2 ne lv rp [] (λ_ z=>nomatch z);refine⟨H1,_,x,C,dx,[],_,B,I0,rfl,M _ (by simp),by simp,by simp,λH2 I2=>?_⟩;refine⟨H1,_,x,C,dx,_,_,b,I2,eb,M _ (by simp),by simp,(show("below" : Str)∉(["part"]:List Str) by decide),λH3 I3=>?_⟩;refine⟨H1,_,x,C,dx,_,_,B,b,ns,I3,rfl,rfl,en,M _ (by simp),M _ (by simp),by simp,(show("names" : Str)∉(["part", "below"]:List Str) by decide),λH4 I4=>?_⟩;refine⟨H1,_,x,C,dx,_,_,I4,M _ (by simp),by simp,(show("found" : Str)∉(["part", "below", "names"]:List Str) by decide),λH5 I5=>?_⟩;obtain⟨x5,r5⟩:=I5.done n1 lv;exact q H5 x5 r5
end
noncomputable def kZ{α:Type}(f:D->α->Option α):List D->α->Option α
 | [],a=>some a
 | x::l,a=>(f x a).bind (kZ f l)
abbrev LT:=List (List Key×D)
theorem jV{A:Av}{Hs H1:Hp}{r:Addr}(e:Ext A Hs H1)(n:H1 r=none)(H:Hp)(o:HO)(x:Ext A Hs H):Ext A Hs (upd H r o) where
 rd:=λb u h=>by
  by_cases q:b=r
  ·subst q;rcases e.rd _ _ h with z|⟨_,z⟩ <;> (rw[n]at z;cases z)
  ·exact eS q (x.rd _ _ h)
 kp:=λb u k h=>by
  by_cases q:b=r
  ·subst q;have z:=e.kp _ _ k h;rw[n]at z;cases z
  ·rw[aF q];exact x.kp _ _ k h
 ow:=λb u k h=>by
  by_cases q:b=r
  ·subst q;have z:=e.ow _ _ k h;rw[n]at z;cases z
  ·rw[aF q];exact x.ow _ _ k h
 fz:=λb o u h=>by
  by_cases q:b=r
  ·subst q;have z:=e.fz _ _ _ h;rw[n]at z;cases z
  ·rw[aF q];exact x.fz _ _ _ h
structure IA(K:zae)(Hs:Hp)(A0 A:Av)(x C dx r s:Addr)(bk:D)(E:List Fact)(p:LT×LT)(σ:L2.St)(H:Hp)(ρ:cY):Prop where
 cls:Cls K C
 nr:NoAttr K C "routes"
 ns:NoAttr K C "spans"
 av:∀b,A b->A0 b\/b=x\/b=r\/b=s
 a0:∀b,A0 b->A b
 ax:A x
 ar:A r
 at':A s
 ne:r≠s
 fr:∀H o,Ext A0 Hs H->Ext A0 Hs (upd H r o)
 fs:∀H o,Ext A0 Hs H->Ext A0 Hs (upd H s o)
 live:Live A H
 hx:∃vb,H x=some (.ins C dx [("book",vb),("routes",.ref r),("spans",.ref s)])/\Rep A H bk vb
 o1:Own A H (.dT p.1) r
 o2:Own A H (.dT p.2) s
 s0:σ[0]?=some (some (.ref x))
 len:σ.length=ρ.length
 val:∀(i:Nat) (d:D),ρ[i]?=some (some d)->∃v,σ[i]?=some (some v)/\Rep A H d v
 fx:∀q∈E,q.Holds A H
 ke:Ext A0 Hs H
section
variable {K:zae}{Hs:Hp}{A0 A:Av}{x C dx r s:Addr}{bk:D}{E:List Fact}{p:LT×LT}{σ:L2.St}{H H':Hp}{ρ:cY}
theorem IA.st(t:IA K Hs A0 A x C dx r s bk E p σ H ρ):ST H A A E [] σ H ρ:=
 ⟨Ext.refl _ _,λ_ z=>z,t.live,t.live,t.len,λi d h _=>t.val i d h,(λj d _ h=>nomatch h),(λj k d d' a h=>nomatch h),t.fx⟩
theorem IA.ext(t:IA K Hs A0 A x C dx r s bk E p σ H ρ)(e:Ext A H H'):IA K Hs A0 A x C dx r s bk E p σ H' ρ:=
 {t with live:=(t.st.mono e).live,hx:=by obtain⟨B,h,q⟩:=t.hx;exact⟨B,e.ow _ _ t.ax h,q.ext e⟩,o1:=t.o1.ext e t.ar,o2:=t.o2.ext e t.at',val:=λi d h=>(t.st.mono e).val i d h (λz=>nomatch z),fx:=(t.st.mono e).ext,ke:=t.ke.trans (e.mono t.a0)}
theorem IA.more(t:IA K Hs A0 A x C dx r s bk E p σ H ρ){z:List Fact}(h:∀q∈z,q.Holds A H):IA K Hs A0 A x C dx r s bk (z++E) p σ H ρ:=
 {t with fx:=λq B=>(List.mem_append.mp B).elim (h q) (t.fx q)}
theorem IA.less(t:IA K Hs A0 A x C dx r s bk E p σ H ρ){z:List Fact}(h:∀q∈z,q∈E):IA K Hs A0 A x C dx r s bk z p σ H ρ:=
 {t with fx:=λq B=>t.fx q (h q B)}
theorem IA.set(t:IA K Hs A0 A x C dx r s bk E p σ H ρ){i:Nat}{d:D}{v:V}(h:Rep A H d v)(n:i≠0):IA K Hs A0 A x C dx r s bk E p (σ.set i (some v)) H (ρ.set i (some d)):=
 {t with
  s0:=by rw[zbO n];exact t.s0
  len:=by rw[zcT,zcT];exact t.len
  val:=λj e h'=>by
   rcases eR h' with⟨rfl,q,l⟩|⟨z,q⟩
   ·cases q
    exact⟨v,by rw[zcy (by rw[t.len];exact l)],h⟩
   ·rw[zbO z.symm];exact t.val j e q}
theorem AC{a:Addr}{o:HO}(B:Live A H):Live A (upd H a o):=λb F z=>by
 by_cases q:b=a
 ·subst q;rw[aI]at z;cases z
 ·rw[aF q]at z;exact B b F z
theorem IA.put1(t:IA K Hs A0 A x C dx r s bk E p σ H ρ):∃xs,H r=some (.dT xs)/\xs.length=p.1.length/\∀B w v,Rep A H w v->IA K Hs A0 A x C dx r s bk E (putD p.1 B w,p.2) σ (upd H r (.dT (putK xs B v))) ρ:=by
 cases t.o1 with
 | @dT _ _ xs h e rl=>
  refine⟨xs,h,by have:=congrArg zbu e;simpa using this,λB w v F=>?_⟩;obtain⟨G,U⟩:=v5 (tU B F (uD e rl));obtain⟨N,hx,W⟩:=t.hx;exact {t with
   live:=AC t.live
   hx:=⟨N,by rw[aF (λz=>by rw[z,h]at hx;cases hx)];exact hx,W.put t.ar h trivial⟩
   o1:=.dT aI G (U.put t.ar h trivial)
   o2:=t.o2.put t.ar h trivial t.ne.symm
   val:=λi d hi=>by obtain⟨v,M,q⟩:=t.val i d hi;exact⟨v,M,q.put t.ar h trivial⟩
   fx:=λq J=>Fact.put t.ar h trivial (t.fx q J)
   ke:=t.fr _ _ t.ke}
theorem IA.put2(t:IA K Hs A0 A x C dx r s bk E p σ H ρ):∃xs,H s=some (.dT xs)/\xs.length=p.2.length/\∀B w v,Rep A H w v->IA K Hs A0 A x C dx r s bk E (p.1,putD p.2 B w) σ (upd H s (.dT (putK xs B v))) ρ:=by
 cases t.o2 with
 | @dT _ _ xs h e rl=>
  refine⟨xs,h,by have:=congrArg zbu e;simpa using this,λB w v F=>?_⟩;obtain⟨G,U⟩:=v5 (tU B F (uD e rl));obtain⟨N,hx,W⟩:=t.hx;exact {t with
   live:=AC t.live
   hx:=⟨N,by rw[aF (λz=>by rw[z,h]at hx;cases hx)];exact hx,W.put t.at' h trivial⟩
   o1:=t.o1.put t.at' h trivial t.ne
   o2:=.dT aI G (U.put t.at' h trivial)
   val:=λi d hi=>by obtain⟨v,M,q⟩:=t.val i d hi;exact⟨v,M,q.put t.at' h trivial⟩
   fx:=λq J=>Fact.put t.at' h trivial (t.fx q J)
   ke:=t.fs _ _ t.ke}
theorem IA.done(t:IA K Hs A0 A x C dx r s bk E p σ H ρ)(M:Live A0 Hs)(B:¬ A0 x)(G:¬ A0 r)(z:¬ A0 s):Ext A0 Hs H/\Rep A0 H (.ob C [("book",bk),("routes",.dT p.1),("spans",.dT p.2)]) (.ref x):=by
 obtain⟨N,h,J⟩:=t.hx;have q:∀b,A0 b->A b\/H b=none:=λb F=>.inl (t.a0 b F)
 exact⟨t.ke,.ob B h rfl (.cons (J.av q) (.cons ((t.o1.av q).rep G) (.cons ((t.o2.av q).rep z) .nil)))⟩
inductive tA1(K:zae)(fk fv:Ev)(T:Ends)(σ:L2.St)(H:Hp):Prop
 | mk (Hs:Hp) (A0 A:Av) (x C dx r s:Addr) (bk:D) (E:List Fact) (p:LT×LT) (ρ:cY) (kd w:D) (kk:List Key) (st:IA K Hs A0 A x C dx r s bk E p σ H ρ) (ek:fk ρ=some kd) (et:TB kd=some kk) (ew:fv ρ=some w) (sz:aU p.1.length=true)
  (n:∀H',IA K Hs A0 A x C dx r s bk E (putD p.1 kk w,p.2) σ H' ρ->T.nx σ H'):tA1 K fk fv T σ H
inductive tA2(K:zae)(fk fe:Ev)(F:List D->Option D)(T:Ends)(σ:L2.St)(H:Hp):Prop
 | mk (Hs:Hp) (A0 A:Av) (x C dx r s:Addr) (bk:D) (E:List Fact) (p:LT×LT) (ρ:cY) (kd w d z:D) (kk:List Key) (st:IA K Hs A0 A x C dx r s bk E p σ H ρ) (ek:fk ρ=some kd) (et:TB kd=some kk) (ev:eW p.1 kk=some w) (ed:fe ρ=some d) (ez:F [d,w]=some z) (sz:aU p.2.length=true)
  (n:∀H',IA K Hs A0 A x C dx r s bk E (p.1,putD p.2 kk z) σ H' ρ->T.nx σ H'):tA2 K fk fe F T σ H
end
section
variable {X:Cx}
theorem QN{o k value:Expr}{fk fv:Ev}{F p2 pos:Pos}(hu:X.A.units+1<cLine)(ho:PE X o (cX 0))(hk:PB X [] k fk)(hv:PD X [] value fv)(z:zaN o "routes" X.env (eval o X.env)=eval o X.env:=by rfl)
  (hs:zaC value (some (.Subscript (.Attribute o "routes" F) k p2)) pos.line X.env=pure false:=by rfl):PS X (.Assign [.Subscript (.Attribute o "routes" F) k p2] value pos) (tA1 X.K fk fv):=
 PS.mono (xG hu (kA ho z) hk hv hs) <| by
  rintro T σ H ⟨Hs,A0,A,x,C,dx,r,s,bk,E,p,ρ,N,w,M,st,W,et,U,sz,n⟩;refine⟨_,A,A,E,ρ,w,st.st,U,λv H1 G r1=>?_⟩;have q:=st.ext G;obtain⟨vb,hx,_⟩:=q.hx;refine⟨_,q.s0,x,C,dx,_,.ref r,rfl,hx,q.cls,q.nr,rfl,_,A,A,E,ρ,N,q.st,W,λy H2 B r2=>?_⟩;have Y:=q.ext B;obtain⟨xs,h,J,go⟩:=Y.put1;obtain⟨b,rfl,z⟩:=qL et r2;exact⟨r,_,rfl,DPut.t h z (by rw[J];exact iX sz),n _ (go M w v (r1.ext B))⟩
theorem OI{o o2 k k2 e:Expr}{g:Str}{kn:Nat}{ps:List Str}{F:List D->Option D}{fk fe:Ev}{p1 p2 q B gp cp pos:Pos}(FF:Fn X.prog X.w X.K X.mg X.base g kn ps F)(hp:ps.length=2)(hr:Room kn X.A)(hg:Gl X g)(hu:X.A.units+1<cLine)(ho:PE X o (cX 0))(ag:PE X o2 (cX 0))(hk:PB X [] k fk)(aa:PB X [] k2 fk)(he:PD X [] e fe)(hn:IR k2)
  (Y:zaN o "spans" X.env (eval o X.env)=eval o X.env:=by rfl) (ac:zaN o2 "routes" X.env (eval o2 X.env)=eval o2 X.env:=by rfl) (ae:(g == ("__debug__" : Str))=false:=by decide)
  (h1:zag [e,.Subscript (.Attribute o2 "routes" q) k2 B] X.env=(false,eval e X.env)::zag [.Subscript (.Attribute o2 "routes" q) k2 B] X.env:=by rfl) (h2:(zaG cp (zag [.Subscript (.Attribute o2 "routes" q) k2 B] X.env)).any (·.1)=false:=by rfl) (h3:zag [.Subscript (.Attribute o2 "routes" q) k2 B] X.env=(false,eval (.Subscript (.Attribute o2 "routes" q) k2 B) X.env)::zag [] X.env:=by rfl)
  (hs:zaC (.Call (.Name g gp) [e,.Subscript (.Attribute o2 "routes" q) k2 B] [] cp) (some (.Subscript (.Attribute o "spans" p1) k p2)) pos.line X.env=pure false:=by rfl) :
  PS X (.Assign [.Subscript (.Attribute o "spans" p1) k p2] (.Call (.Name g gp) [e,.Subscript (.Attribute o2 "routes" q) k2 B] [] cp) pos) (tA2 X.K fk fe F):=by
 obtain⟨fa,fd,ab,ad,hm,FO⟩:=My.Ok.ex FF;refine PS.mono (xG hu (kA ho Y) hk (xP FO hr hg hm ab ad .nil F9 (cK he (cK (FS hu (kA ag ac) aa hn) fD h3) h1) ae h1 h2) hs) λT σ H ⟨Hs,A0,A,x,C,dx,r,s,bk,E,p,ρ,N,w,d,z,kk,st,ek,et,ev,ed,ez,sz,n⟩=>?_
 refine⟨_,A,A,E,ρ,d,st.st,ed,λv1 H1 x1 r1=>?_⟩;have J:=st.ext x1;obtain⟨vb,hx,_⟩:=J.hx;refine⟨_,J.s0,x,C,dx,_,.ref r,rfl,hx,J.cls,J.nr,rfl,_,A,A,E,ρ,N,J.st,ek,λy H2 x2 r2=>?_⟩;have U:=J.ext x2;obtain⟨a,ov,e1,_,dg,M⟩:=tN (d:=.dT p.1) (k:=N) (o:=some w) (by simp only[nQ,et,zac,ev]) U.o1.b r2;rcases M with⟨M,_⟩|⟨w',v2,M,e3,r3⟩
 ·cases M
 ·cases M;subst e3;cases e1
  refine⟨r,v2,rfl,dg,?_⟩;refine⟨A,[d,w],z,U.live,.cons (r1.ext x2) (.cons r3 .nil),hp.symm,ez,λv3 H3 x3 r4=>?_⟩;have G:=U.ext x3;obtain⟨aq,W,_⟩:=G.hx;refine⟨_,G.s0,x,C,dx,_,.ref s,rfl,W,G.cls,G.ns,rfl,_,A,A,E,ρ,N,G.st,ek,λy4 H4 x4 r5=>?_⟩;have s4:=G.ext x4;obtain⟨xs,h,hl,go⟩:=s4.put2;obtain⟨b,rfl,Y⟩:=qL et r5;exact⟨s,_,rfl,DPut.t h Y (by rw[hl];exact iX sz),n _ (go kk z v3 (r4.ext x4))⟩
inductive tAF(K:zae)(f:Lv)(i:Nat)(tb:TS)(T:Ends)(σ:L2.St)(H:Hp):Prop
 | mk (Hs:Hp) (A0 A:Av) (x C dx r s:Addr) (bk:D) (E:List Fact) (p out:LT×LT) (ρ:cY) (items:List D) (step:D->LT×LT->Option (LT×LT)) (R:cY->Prop) (st:IA K Hs A0 A x C dx r s bk E p σ H ρ) (h0:R ρ) (e:f ρ=some items) (fo:kZ step items p=some out)
  (turn:∀E' σ H ρ d p p' T',R ρ->step d p=some p'->IA K Hs A0 A x C dx r s bk E' p σ H (ρ.set i (some d))->(∀σ H ρ,R ρ->IA K Hs A0 A x C dx r s bk E' p' σ H ρ->T'.nx σ H)->tb T' σ H)
  (n:∀σ H ρ,R ρ->IA K Hs A0 A x C dx r s bk E out σ H ρ->T.nx σ H):tAF K f i tb T σ H
theorem L9{tg z:Expr}{F:List Stmt}{pos:Pos}{f:Lv}{i:Nat}{tb:TS}(hp:zb5 (model X.prog X.w) X.A X.env X.xe)(hc:X.calm=true)(hi:PDI X [] tg z f)(hg:PG X tg (i7 i))(hb:PSs X F tb)(hn:i≠0:=by decide)
  (hs:∀x,zba z X.env x=pure x:=by intro _;rfl):PS X (.For tg z F [] pos) (tAF X.K f i tb):=
 PS.mono (L8 hp hc hi hg hb hs) <| by
  rintro T σ H ⟨Hs,A0,A,x,C,dx,r,s,bk,E,p,out,ρ,items,step,R,st,h0,e,fo,turn,n⟩;refine⟨_,A,A,E,ρ,items,st.st,e,λJ H1 E1 x1 Y J1=>?_⟩;have aa:=(st.ext x1).more Y;refine⟨λi m σ H=>m=items.length-i/\i<=items.length/\∃ρ p,R ρ/\IA X.K Hs A0 A x C dx r s bk (E1++E) p σ H ρ/\kZ step (items.drop i) p=some out,⟨items.length,by simp,zaI _,ρ,p,h0,aa,fo⟩,?_⟩;rintro i m σ H ⟨rfl,aq,ρ,p,hR,st,e⟩;obtain⟨M,go⟩:=J1 A H st.live (λq hq=>st.fx q (zbC _ hq)) i;by_cases G:i<items.length
  ·have ed:items[i]?=some items[i]:=by simp[G]
   obtain⟨W,hy⟩:=go _ ed;rw[zcX G]at e;obtain⟨p1,es,e⟩:=bind_some e;refine .inr ⟨W,λN H'=>∃B p2,R B/\IA X.K Hs A0 A x C dx r s bk (E1++E) p2 N H' B/\kZ step (items.drop (i+1)) p2=some out,λN H' ⟨B,p2,r2,s2,e2⟩=>⟨items.length-(i+1),by lia,rfl,G,B,p2,r2,s2,e2⟩,λy H' ad=>?_⟩;obtain⟨x2,r2⟩:=hy y H' ad;exact turn _ _ _ ρ _ p p1 _ hR es ((st.ext x2).set r2 hn) λaz H3 U R3 i3=>⟨U,p1,R3,i3,e⟩
  ·have ab:i=items.length:=by lia
   subst ab;rw[zdE]at e;cases e;exact .inl ⟨M (zaj _),n _ _ ρ hR (st.less λq hq=>zaX _ hq)⟩
end
def lV(G B:List D->Option D)(bk j k:D)(p:LT×LT):Option (LT×LT):=(G [bk,j,k]).bind λw=>(TB (.tup [j,k])).bind λq=>if aU p.1.length=true/\aU p.2.length=true then(eW (putD p.1 q w) q).bind λF=>(B [bk,F]).map λz=>(putD p.1 q w,putD p.2 q z)else none
def tZ(C:Addr)(g:D->Option (List D))(B q:List D->Option D)(bk:D):Option D:=(g bk).bind λz=>(kZ (λj p=>(g bk).bind λks=>kZ (lV B q bk j) ks p) z ([],[])).map λp=>.ob C [("book",bk),("routes",.dT p.1),("spans",.dT p.2)]
theorem LU{K:zae}{Hs:Hp}{A0:Av}{x C dx r s:Addr}{bk:D}{G:V}{σ:L2.St}{H:Hp}{ρ:cY}(nr:NoAttr K C "routes")(ns:NoAttr K C "spans")(t:IO K Hs (λb=>A0 b\/b=x) x C dx [("book",bk)] σ H ρ)(n1:Hs x=none)(nx:¬ A0 x)(hx:H x=some (.ins C dx [("book",G)]))(rb:Rep (λb=>A0 b\/b=x) H bk G)
  (J:H r=none) (hs:upd (upd H r (.dT [])) x (.ins C dx [("book",G),("routes",.ref r)]) s=none):IA K Hs A0 (λb=>A0 b\/b=x\/b=r\/b=s) x C dx r s bk [] ([],[]) σ (upd (upd (upd (upd H r (.dT [])) x (.ins C dx [("book",G),("routes",.ref r)])) s (.dT [])) x (.ins C dx [("book",G),("routes",.ref r),("spans",.ref s)])) ρ/\¬ A0 r/\¬ A0 s:=by
 have sx:s≠x:=λz=>by rw[z,aI]at hs;cases hs
 have F:upd H r (.dT []) s=none:=by rw[aF sx]at hs;exact hs
 have sr:s≠r:=λz=>by rw[z,aI]at F;cases F
 have B:H s=none:=by rw[aF sr]at F;exact F
 have Y:r≠x:=λz=>by rw[z,hx]at J;cases J
 have N:Ext A0 Hs H:=(t.ke.ext n1).mono λb M=>.inl M
 have ar:¬ A0 r:=λz=>t.live r (.inl z) J
 have ae:¬ A0 s:=λz=>t.live s (.inl z) B
 have up:∀a,(A0 a\/a=x\/a=r\/a=s)->(A0 a\/a=x)\/H a=none:=λa ha=>by
  rcases ha with h|h|h|h
  ·exact .inl (.inl h)
  ·exact .inl (.inr h)
  ·exact .inr (by rw[h];exact J)
  ·exact .inr (by rw[h];exact B)
 have U:∀d v,Rep (λb=>A0 b\/b=x) H d v->Rep (λb=>A0 b\/b=x\/b=r\/b=s) (upd (upd (upd (upd H r (.dT [])) x (.ins C dx [("book",G),("routes",.ref r)])) s (.dT [])) x (.ins C dx [("book",G),("routes",.ref r),("spans",.ref s)])) d v:=λd v h=>by
  have h1:=(h.av up).ext (Ext.new (o:=.dT []) J);have h2:=h1.putI (a:=x) (o:=.ins C dx [("book",G),("routes",.ref r)]) (.inr (.inl rfl)) (by rw[aF Y.symm];exact hx);have h3:=h2.ext (Ext.new (o:=.dT []) hs);exact h3.putI (a:=x) (.inr (.inl rfl)) (by rw[aF sx.symm];exact aI)
 refine⟨⟨t.cls,nr,ns,λb M=>M,λb M=>.inl M,.inr (.inl rfl),.inr (.inr (.inl rfl)),.inr (.inr (.inr rfl)),sr.symm,jV N J,jV N B,λb M z=>?_,⟨G,aI,U _ _ rb⟩,.dT (xs:=[]) ?_ rfl .nil,.dT (xs:=[]) ?_ rfl .nil,t.s0,t.len,λi d h=>?_,(λ_ z=>nomatch z),?_⟩,ar,ae⟩
 ·by_cases W:b=x
  ·rw[W,aI]at z;cases z
  ·rw[aF W]at z
   by_cases q2:b=s
   ·rw[q2,aI]at z;cases z
   ·rw[aF q2,aF W]at z
    by_cases q3:b=r
    ·rw[q3,aI]at z;cases z
    ·rw[aF q3]at z
     rcases M with h|h|h|h
     ·exact t.live b (.inl h) z
     ·exact W h
     ·exact q3 h
     ·exact q2 h
 ·rw[aF Y,aF sr.symm,aF Y,aI]
 ·rw[aF sx,aI]
 ·obtain⟨v,e,q⟩:=t.val i d h
  exact⟨v,e,U _ _ q⟩
 ·have fx:=jV (Ext.refl A0 Hs) n1
  exact fx _ _ (jV N B _ _ (fx _ _ (jV N J _ _ N)))
section
variable {X:Cx}
theorem B6{C:Addr}{kn:Nat}{gp:List Str}{g2:Str}{o0 o1 o2 o3 o4 G e0 e5 k3 k4 N value U aa ad ac:Expr}{g:D->Option (List D)}{f1 f2:Lv}{fk fv fe:Ev}{F1 F2:List D->Option D}{a0 a1 a2 a3 a4 a5 b3 b4 W p0 p1 p2 p3 p4 p5 p6 d1 d2 c5 q5:Pos}(cls:Cls X.K C)(na:∀a∈(["book", "routes", "spans"]:List Str),NoAttr X.K C a)(FF:Fn X.prog X.w X.K X.mg X.base g2 kn gp F2)(bg:gp.length=2)(hr:Room kn X.A)(a6:Gl X g2)(hu:X.A.units+1<cLine)
  (hp:zb5 (model X.prog X.w) X.A X.env X.xe) (hc:X.calm=true)
  (h0:PE X o0 (cX 0)) (h1:PE X o1 (cX 0)) (h2:PE X o2 (cX 0)) (h3:PE X o3 (cX 0)) (h4:PE X o4 (cX 0)) (h5:PE X G (cX 0)) (a8:PD X [] e0 (aD 1)) (bw:PDI X [] ad U f1) (bi:PDI X [] ac aa f2) (bf:PG X ad (i7 2)) (b0:PG X ac (i7 3)) (bo:PB X [] k3 fk) (ay:PB X [] k4 fk) (bh:PB X [] N fk) (hv:PD X [] value fv) (bb:PD X [] e5 fe) (hn:IR N)
  (bp:∀ {ρ:cY} {bk:D},ρ[1]?=some (some bk)->f1 ρ=g bk) (bu:∀ {ρ:cY} {bk:D},ρ[1]?=some (some bk)->f2 ρ=g bk) (ak:∀ {ρ:cY} {j k:D},ρ[2]?=some (some j)->ρ[3]?=some (some k)->fk ρ=some (.tup [j,k])) (bt:∀ {ρ:cY} {bk j k:D},ρ[1]?=some (some bk)->ρ[2]?=some (some j)->ρ[3]?=some (some k)->fv ρ=F1 [bk,j,k]) (bj:∀ {ρ:cY} {bk:D},ρ[1]?=some (some bk)->fe ρ=some bk)
  (bz:zaN o3 "routes" X.env (eval o3 X.env)=eval o3 X.env:=by rfl) (bx:zaN o4 "spans" X.env (eval o4 X.env)=eval o4 X.env:=by rfl) (bq:zaN G "routes" X.env (eval G X.env)=eval G X.env:=by rfl) (aw:(g2 == ("__debug__" : Str))=false:=by decide)
  (z1:zag [e5,.Subscript (.Attribute G "routes" a5) N W] X.env=(false,eval e5 X.env)::zag [.Subscript (.Attribute G "routes" a5) N W] X.env:=by rfl) (z2:(zaG c5 (zag [.Subscript (.Attribute G "routes" a5) N W] X.env)).any (·.1)=false:=by rfl) (z3:zag [.Subscript (.Attribute G "routes" a5) N W] X.env=(false,eval (.Subscript (.Attribute G "routes" a5) N W) X.env)::zag [] X.env:=by rfl)
  (s0:zaC e0 (some (.Attribute o0 "book" a0)) p0.line X.env=pure false:=by rfl) (s1:zaC (.Dict [] [] d1) (some (.Attribute o1 "routes" a1)) p1.line X.env=pure false:=by rfl) (s2:zaC (.Dict [] [] d2) (some (.Attribute o2 "spans" a2)) p2.line X.env=pure false:=by rfl)
  (s3:zaC value (some (.Subscript (.Attribute o3 "routes" a3) k3 b3)) p3.line X.env=pure false:=by rfl) (s4:zaC (.Call (.Name g2 q5) [e5,.Subscript (.Attribute G "routes" a5) N W] [] c5) (some (.Subscript (.Attribute o4 "spans" a4) k4 b4)) p4.line X.env=pure false:=by rfl)
  (y1:∀x,zba U X.env x=pure x:=by intro _;rfl) (y2:∀x,zba aa X.env x=pure x:=by intro _;rfl)
  {vs:List V} {H:Hp} {Q:VK} {E:XK} (hsp:XD C (λ_=>tZ C g F1 F2) vs H Q E) {R:VK} :
  ∃t,PSs X [.Assign [.Attribute o0 "book" a0] e0 p0,.Assign [.Attribute o1 "routes" a1] (.Dict [] [] d1) p1,.Assign [.Attribute o2 "spans" a2] (.Dict [] [] d2) p2,
   .For ad U [.For ac aa [.Assign [.Subscript (.Attribute o3 "routes" a3) k3 b3] value p3,.Assign [.Subscript (.Attribute o4 "spans" a4) k4 b4] (.Call (.Name g2 q5) [e5,.Subscript (.Attribute G "routes" a5) N W] [] c5) p4] [] p5] [] p6] t /\
   t {nx:=λ_ H'=>Q .non H',rt:=R} (vs.map some++[none,none]) H:=by
 obtain⟨A,H1,x,dx,v,_,bk,d,rfl,rfl,n1,n2,ne,lv,rp,ed,q⟩:=hsp;obtain⟨js,ej,ed⟩:=bind_some ed;obtain⟨out,eo,ed⟩:=map_some ed;subst ed;refine⟨_,dJ (C7 h0 a8 s0) (dJ (tX h1 zU s1) (dJ (tX h2 zU s2) (iY (L9 hp hc bw bf (iY (L9 hp hc bi b0 (dJ (QN hu h3 bo hv bz s3) (iY (OI FF bg hr a6 hu h4 h5 ay bh bb hn bx bq aw z1 z2 z3 s4))) (by decide) y2)) (by decide) y1)))),?_⟩;have nx:¬ A x:=λz=>lv x z n1
 have I0:=IO.begun cls n1 n2 ne lv rp [none,none] (λo ho=>by simpa using ho);refine⟨H1,_,x,C,dx,[],_,bk,I0,rfl,na _ (by simp),by simp,by simp,λH2 I2=>λr Y=>?_⟩;obtain⟨fs,hx,em,rr⟩:=I2.hx;obtain⟨vb,rfl,rb⟩:∃vb,fs=[(("book" : Str),vb)]/\Rep (λb=>A b\/b=x) H2 bk vb:=by
  match fs,em,rr with
  | [(f,vb)],em,rr=>
   have:f = "book" := by simpa using em
   subst this;cases rr with
   | cons h _=>exact⟨vb,rfl,h⟩
  | [],em,_=>exact nomatch em
  | _::_::_,em,_=>simp at em
 have rx:r≠x:=λz=>by rw[z,hx]at Y;cases Y
 refine⟨_,I2.s0,x,C,dx,_,rfl,by rw[aF rx.symm];exact hx,cls,na _ (by simp),by simp,λs aq=>?_⟩;have F:upd (upd H2 r (.dT [])) x (.ins C dx [("book",vb),("routes",.ref r)]) s=none:=aq;have sx:s≠x:=λz=>by rw[z,aI]at F;cases F
 refine⟨_,I2.s0,x,C,dx,[("book",vb),("routes",.ref r)],rfl,by rw[aF sx.symm];exact aI,cls,na _ (by simp),by simp,?_⟩;obtain⟨J,ar,bm⟩:=LU (na _ (by simp)) (na _ (by simp)) I2 n1 nx hx rb Y F;refine⟨H1,A,_,x,C,dx,r,s,bk,[],([],[]),out,_,js,_,λρ=>ρ.length=4/\ρ[1]?=some (some bk),J,⟨rfl,rfl⟩,by rw[bp (bk:=bk) rfl];exact ej,eo,λE' σ H ρ j p p' T' M B I n=>?_,λσ H ρ M I=>?_⟩
 ·obtain⟨ks,ek,hf⟩:=bind_some B
  have b1:(ρ.set 2 (some j))[1]?=some (some bk):=by rw[zbO (by decide)];exact M.2
  refine⟨H1,A,_,x,C,dx,r,s,bk,E',p,p',_,ks,lV F1 F2 bk j,λρ=>ρ.length=4/\ρ[1]?=some (some bk)/\ρ[2]?=some (some j),I,⟨by rw[zcT];exact M.1,b1,by rw[zcy (by lia)]⟩,by rw[bu b1];exact ek,hf,λE2 σ H ρ k p p' T' M B I n=>?_,λσ H ρ M I=>n σ H ρ ⟨M.1,M.2.1⟩ I⟩;have c1:(ρ.set 3 (some k))[1]?=some (some bk):=by rw[zbO (by decide)];exact M.2.1
  have c2:(ρ.set 3 (some k))[2]?=some (some j):=by rw[zbO (by decide)];exact M.2.2
  have c3:(ρ.set 3 (some k))[3]?=some (some k):=by rw[zcy (by lia)]
  obtain⟨w,ew,B⟩:=bind_some B;obtain⟨kk,al,B⟩:=bind_some B;split at B
  ·rename_i sz
   obtain⟨w',ax,B⟩:=bind_some B;obtain⟨z,ez,rfl⟩:=map_some B;refine⟨H1,A,_,x,C,dx,r,s,bk,E2,p,_,_,w,kk,I,ak c2 c3,al,by rw[bt c1 c2 c3];exact ew,sz.1,λH' I'=>?_⟩;exact⟨H1,A,_,x,C,dx,r,s,bk,E2,_,_,_,w',bk,z,kk,I',ak c2 c3,al,ax,bj c1,ez,sz.2,λH' I'=>n _ _ _ ⟨by rw[zcT];exact M.1,c1,c2⟩ I'⟩
  ·cases B
 ·obtain⟨x5,r5⟩:=I.done lv nx ar bm
  exact q _ x5 r5
end
def Fas(K:zae)(C:Addr)(fs:List Str):Prop:=∀a∈fs,NoAttr K C a
theorem Fas.nil{K:zae}{C:Addr}:Fas K C []:=λ_ h=>nomatch h
theorem Fas.cons{K:zae}{C:Addr}{x:Str}{fs:List Str}(a:zbr K (.ref C) x=some none)(r:Fas K C fs):Fas K C (x::fs):=zc2.2 ⟨a,r⟩
structure ObQ(K:zae)(x q:Str)(st:Stmt)(C:Addr)(fs:List Str):Prop where
 cls:Cls K C
 na:Fas K C fs
 ex:∃f fd,zbY K zaJ x=some (some (.ref C))/\Mk K C f/\Fun K "__init__" q st f fd
theorem obq{K:zae}{x q:Str}{st:Stmt}{C f:Addr}{fs:List Str}{J:Value}{od G:Option Addr}{B:Array (Option Value)}{kV F M z ct:Value}(a:zbY K zaJ x=some (some (.ref C)))(m1:zdW K C=true)(m2:zbr K (.ref C) "__init__" = some (some (.ref f)))(m3:PySem.W.isFn K (.ref f)=true)(m4:zbE K (.ref C)=true)(m5:zdc K C Str.empty=true)(m6:zdd K C=true)(m7:zdU K C=true)(m8:zbr K (.ref C) "__setattr__" = some (some (.builtin "object.__setattr__")))
  (l:K.lookup f=some ⟨J,od,.func (zbg "__init__" q (dW st) (bQ st) (aM st) .none kV F M G z ct),B⟩) (c:zco K z q=true) (k:zbE K (.ref f)=true) (n:Fas K C fs):ObQ K x q st C fs:=⟨⟨m5,m6,m7,m8⟩,n,f,_,a,⟨m1,m2,m3,m4⟩,C5 l c k⟩
theorem ObQ.t{K:zae}{h:Heap}{mg:Str->Option Value}{x q p:Str}{st:Stmt}{C:Addr}{fs:List Str}(Q:ObQ K x q st C fs)(X:K.In h)(G:h.Ns zaJ mg)(b:∀(kV B M:Value) (J:Option Addr) (z ct:Value) (u v:Value),bindArgs (zbg "__init__" q (dW st) (bQ st) (aM st) .none kV B M J z ct) ⟨[u,v],[]⟩=pure ((["self",p]:List Str).zip [u,v])):ObT K mg x q p st C fs:=by
 obtain⟨f,fd,a,m,F⟩:=Q.ex;exact⟨Q.cls,Q.na,f,fd,zdJ X G a,m,F.binds (ps:=["self",p]) λkV B M J z ct U N=>match U,N with|[u,v],_=>b kV B M J z ct u v,F⟩
theorem MM{C:Addr}{G:D->D->Option D}{N:List Str}{vs:List V}{H:Hp}{Q:VK}{E:XK}(h:XD C G vs H Q E):start N vs=vs.map some++zcn (N.length-2) none:=by
 obtain⟨_,_,_,_,_,_,_,_,rfl,_⟩:=h;rfl
theorem QM{C:Addr}{G:D->D->Option D}{N:List Str}{vs:List V}{H:Hp}{Q:VK}{E:XK}(h:XD C G vs H Q E)(n:N.length=2):start N vs=vs.map some:=by
 rw[MM h,n];exact zbs _
theorem qA{ρ:cY}{i:Nat}{d:D}(h:ρ[i]?=some (some d)):aD i ρ=some d:=by unfold aD;rw[h];rfl
theorem hu2{A:zan}{k:Nat}(q:Room k A):A.units+2<cLine:=zcU (Nat.add_le_add_left (by decide:2<=64) _) q.units
end P
namespace My
open PySem PySem.Spec PyProof.Rows L2
def Z2(K:zae)(a:Addr)(n:Nat):It:=
 ⟨λi H=>∃xs x,SqL K H a xs/\i<n/\xs[n-1-i]?=some x,λi H x H'=>H'=H/\∀xs,SqL K H a xs->xs[n-1-i]?=some x,λi H=>n<=i⟩
theorem JP{P:zah}{w:World}{K:zae}{tg:Expr}(a it:Addr)(n:Nat):Turn P w K tg (Z2 K a n) [it] it (λi h=>i<=n/\h.IsRevIter it a ((n:Int)-1-(i:Int))) where
 mem:=by simp
 obj:=λi h st b q=>by
  have e:b=it:=by simpa using q
  subst e;obtain⟨_,o,e,c,d⟩:=st;exact⟨o,e,λv z=>by rw[d]at z;cases z⟩
 keep:=λi h h' st k=>⟨st.1,st.2.at λo e=>k it (by simp) o e⟩
 item:=by
  intro X W hw N hc i pins s σ H E I G st U;subst W hw N;obtain⟨xs,x,hq,hi,hx⟩:=U;obtain⟨af,rv,p,hz⟩:=I.list hq;obtain⟨u,hu,ru⟩:=rv.get hx;obtain⟨J,f1,f2,M,f4,Y⟩:=G it (by simp);have aa:s.heap.IsRevIter it a ((n-1-i:Nat):Int):=by
   have e:((n-1-i:Nat):Int)=(n:Int)-1-(i:Int):=by lia
   rw[e];exact st.2
  refine wpAny_pyNext_rev_item aa p.isList (x:=u) (by simpa using hu) λh' B sb=>?_
  have I1:Inv X pins σ H {s with heap:=h'}:=I.turned (t':=s.toks) (λb o q e=>(sb.2 b q).trans e) J f1 M f4 Y;obtain⟨o,e,c,d⟩:=id B;refine⟨u,rfl,uF (s:={s with heap:=h'}) e c d (by decide) ⟨x,H,I1,ru,⟨rfl,λys hy=>by rw[I.list_inj hy hq];exact hx⟩,⟨hi,?_⟩,λb q=>(G b q).1⟩⟩;have e:(n:Int)-1-((i+1:Nat):Int)=((n-1-i:Nat):Int)-1:=by lia
  rw[e];exact B
 done:=by
  intro X W hw N hc i pins s σ H E I G st U;subst W hw N;obtain⟨J,f1,f2,M,f4,Y⟩:=G it (by simp);have hn:n<=i:=U;have e:(n:Int)-1-(i:Int)=-1:=by have:=st.1;lia
  have F:=st.2;rw[e]at F;exact wpAny_pyNext_rev_end (I.ok.hd hc) F λh' eb=>⟨rfl,I.turned (t':=s.toks) (λb o q e=>eb b o q e) J f1 M f4 Y⟩
 self:=λ_ _ _ _ _ st h=>wpAny_pyIter_revIter st.2 h
theorem boot_reversed:zaH "reversed" = some (.type "reversed"):=by first|rfl|decide +kernel
def qas(K:zae)(ta:TA):TI:=λσ H R=>ta σ H λvs H1=>∃l xs,vs=[.ref l]/\SqL K H1 l xs/\R (Z2 K l xs.length) H1
theorem UN{X:Cx}{tg:Expr}{a:Expr}{ta:TA}{p pos:Pos}(M:Gl X "reversed")(N:X.mg "reversed" = none)(W:PA X [a] ta)(hs:zag [a] X.env=[(false,eval a X.env)]:=by rfl) :
  PI X tg (.Call (.Name "reversed" p) [a] [] pos) (qas X.K ta):=by
 intro pins s σ H R I h;refine Call_ (lS I M N boot_reversed (zcP (cS (W pos pins s σ H _ I h) λus G ⟨vs,H1,F,r1,J⟩=>?_) (by rw[hs];rfl) rfl));obtain⟨l,xs,rfl,J,q⟩:=J;obtain⟨u,rfl,U⟩:=vals1 r1;cases U;obtain⟨z,rv,p1,hz⟩:=F.list J;have hl:=rv.length;refine call_reversed_list p1.isList ?_;have B:(G.heap.push (revObj l ((z.toArray.size:Int)-1))).IsRevIter G.heap.objs.size l ((xs.length:Int)-1-((0:Nat):Int)):=by
  refine⟨_,zaD _ rfl,rfl,?_⟩;have e:(z.toArray.size:Int)-1=(xs.length:Int)-1-((0:Nat):Int):=by simp;lia
  rw[<- e];rfl
 refine wpAny_pyIter_revIter B ?_;refine⟨_,[_],_,_,H1,rfl,F.kept (t':=G.toks) λb o e=>zal _ e,JP l _ xs.length,⟨zaI _,B⟩,λb Y=>?_,q⟩;have e:b=G.heap.objs.size:=by simpa using Y
 subst e;exact F.fpOk (zaj _) (F.hok.fresh (zaj _))
end My
namespace P
open PySem PySem.Spec PyProof.Rows L2
def ZV(f:Lv):Lv:=λρ=>(f ρ).bind λds=>match ds with
 | [.lst l]=>some l.reverse
 | _=>none
theorem Q5{X:Cx}{O:List Nat}{tg a:Expr}{f:Lv}{p pos:Pos}(M:Gl X "reversed")(Y:X.mg "reversed" = none)(ha:BG X O [a] f)(hs:zag [a] X.env=[(false,eval a X.env)]:=by rfl) :
  PDI X O tg (.Call (.Name "reversed" p) [a] [] pos) (ZV f):=PI.mono (My.UN M Y ha hs) λσ H R ⟨H0,A0,A,E,ρ,items,st,e,q⟩=>by
 obtain⟨ds,B,e⟩:=bind_some e;refine⟨H0,A0,A,E,ρ,ds,st,B,λvs H1 J r1=>?_⟩;split at e
 case h_2=>cases e
 rename_i l;cases e;obtain⟨v,rfl,r2⟩:=r1.one;obtain⟨a,xs,rfl,h1,U⟩:=RepB.lst_inv (.of r2);have W:=U.length;refine⟨a,xs,rfl,.inl h1,q _ H1 [.rep (.lst l) (.ref a)] J (λp hp=>by rw[List.mem_singleton.mp hp];exact r2) ?_⟩;intro A' H' lv hE i;have G:Rep A' H' (.lst l) (.ref a):=hE _ (List.mem_singleton.mpr rfl);obtain⟨a',ys,e,h2,z⟩:=RepB.lst_inv (.of G);cases e;have ad:=z.length;refine⟨λhi=>(show xs.length<=i by rw[List.length_reverse]at hi;lia),λd hd=>?_⟩;have hi:i<l.length:=by have:=(List.getElem?_eq_some_iff.mp hd).1;simpa using this
 have F:l[xs.length-1-i]?=some d:=by rw[List.getElem?_reverse hi]at hd;rw[W];exact hd
 obtain⟨v,B,r1⟩:=z.get' F;refine⟨⟨ys,v,.inl h2,by lia,B⟩,λx N y=>?_⟩;obtain⟨rfl,y⟩:=y;have:=y ys (.inl h2);rw[B]at this;cases this;exact⟨Ext.refl _ _,r1⟩
def F7(i j:Int):Prop:=0<j/\j<10^500
instance:∀i j,Decidable (F7 i j):=λi j=>by unfold F7;infer_instance
theorem K1{j:Int}(q:0<j)(h:j<10^500):j.natAbs.log2<9000:=by
 have a:j.natAbs≠0:=by lia
 refine(Nat.log2_lt a).mpr ?_;have b:(10:Nat)^500<2^9000:=by decide +kernel
 have c:(j.natAbs:Int)<((10^500:Nat):Int):=by
  rw[Int.natAbs_of_nonneg (Int.le_of_lt q),show((10^500:Nat):Int)=(10:Int)^500 from by decide +kernel];exact h
 exact Nat.lt_trans (Int.ofNat_lt.mp c) b
section
variable {X:Cx}
theorem KG:OpR X (zaL .FloorDiv) (rI F7 λi j=>.int (i/j)):=qg λi j _ _ _ _ _ z q=>floordiv_int (zaT z.1) (by rw[Int.fdiv_eq_ediv_of_nonneg i (Int.le_of_lt z.1)];exact q) (.inl (PyProof.noPylong_of_log2 (K1 z.1 z.2)))
def SM:D->D->Option D:=IY λi j=>if F7 i j then some (.int (i/j))else none
theorem Q3:lA X (zaL .FloorDiv) SM:=tW KG
theorem VD{i j:Int}(h:0<j)(h2:j<10^500):SM (.int i) (.int j)=some (.int (i/j)):=if_pos ⟨h,h2⟩
end
end P
namespace My
open PySem PySem.Spec PyProof.Rows L2
section
variable {X:Cx}
theorem CP(Y:X.calm=true){pins:List (Addr×Obj)}{s:zab}{σ:L2.St}{H:Hp}{p:Addr}{ns:List Int}{Q:VK}(I:Inv X pins σ H s)(hq:SqL X.K H p (ns.map V.int))(hn:ns≠[])(q:Q (.int (NT ns)) H) :
  wpAny (model X.prog X.w) X.A (call (.builtin "min") [.ref p]) (EP X pins σ Q) X.xe s:=by
 obtain⟨B,M,pl,hz⟩:=I.list hq;have G:s.heap.IsList p B.toArray:=pl.isList;obtain⟨o,ho,aa,n,hd⟩:=id G;have lt:=zao ho;have W:=(Walks.list (prog:=X.prog) (w:=X.w) (A:=X.A.in1) (I.ok.hd Y) s.heap.objs.size p (zaE lt) B.toArray).toS;have F:=M.length;rw[zam]at F;have sz:B.toArray.size=ns.length:=by rw[zax];exact F.symm
 have U:∀(i:Nat) (v:Value),B.toArray[i]?=some v->∃t,v=zcv ((ns[i]?).getD 0) t:=λi v J=>yV M (by simpa using J)
 refine call_min_walkS (zb6 G ⟨s.heap.objs.size,_,_,_,_,_,_,_,rfl,W,⟨⟨_,zaD _ rfl,rfl,rfl⟩,G.at λo e=>zal _ e⟩,λb hb=>?_,by rw[sz];exact List.length_pos_iff.mpr hn,CmpOf.ints_lt (λi=>(ns[i]?).getD 0) U,λv s' J N=>?_⟩)
 ·rw[size_push']
  rcases List.mem_cons.mp hb with z|z
  ·rw[z];exact zde _
  ·rw[List.mem_singleton.mp z];exact Nat.lt_succ_of_lt lt
 ·obtain⟨t,rfl⟩:=U _ v J
  rw[Moved.eq_with N];refine⟨.int (NT ns),H,I.kept (t':=s'.toks) λb o e=>N.heap b o (λz=>zaE (zao e) (List.mem_singleton.mp z)) (zal _ e),⟨t,?_⟩,q⟩;rw[sz];rfl
end
end My
namespace P
open PySem PySem.Spec PyProof.Rows L2
section
variable {X:Cx}
def C8:List D->Option D
 | [.lst l]=>(iZ l).bind λns=>if ns=[]then none else some (.int (My.NT ns))
 | _=>none
theorem JQ(z:X.calm=true):kJ X (.builtin "min") C8:=by
 intro pins s σ H xs J Q I r h;obtain⟨A,ds,d,M,B,e,q⟩:=h;unfold C8 at e;split at e
 ·rename_i l
  obtain⟨ns,G,e⟩:=bind_some e;split at e
  ·cases e
  ·rename_i hn
   cases e;obtain⟨v,rfl,h1⟩:=B.one;obtain⟨a,ys,rfl,h2,r3⟩:=h1.lst_inv;rw[gC G r3]at h2;obtain⟨u,rfl,F⟩:=vals1 r;cases F;exact My.CP z I (.inl h2) hn (q _ H (Ext.refl _ _) (.int _))
 ·cases e
theorem N2{ns:List Int}(h:ns≠[]):C8 [.lst (ns.map .int)]=some (.int (My.NT ns)):=by
 show(iZ (ns.map .int)).bind _=_;rw[jJ,aA,if_neg h]
end
section
variable {ρ ρ':cY}{f g:Ev}{a b:Bv}{l:Lv}{x y d r:D}{xs ys zs:List D}{i j:Int}{k:Nat}{s t:Sv}{o:Option Out}
theorem YU{C:Addr}{n:Str}(h:f ρ=some x)(k:uY C n x=some r):dP C n f ρ=some r:=by unfold dP;rw[h,aA,k]
theorem YS(h:f ρ=some x)(k:gX x=some xs):fU f ρ=some xs:=by
 unfold fU;rw[h,aA];cases x <;> first|exact k|cases k
theorem V0(h:l ρ=some [x,y])(k:gX x=some xs)(k2:gX y=some ys)(e:iF xs ys=zs):R7 l ρ=some zs:=by
 unfold R7;rw[h,aA];show(gX x).bind _=_;rw[k,aA,k2,aC,e]
theorem ZG{c:Bool}{z:Option D}(h:a ρ=some c)(k:XC c (f ρ) (g ρ)=z):qi a f g ρ=z:=by unfold qi;rw[h,aA];exact k
theorem M4(q:g ρ=some d)(hx:aD k ρ=some x)(z:f ρ=some y)(h:mB x y d=some r):DR k f g ρ=some (.nx (ρ.set k (some r))):=by unfold DR;rw[q,aA,hx,aA,z,aA,h,aC]
theorem VB{G:D->D->Option D}(h:f ρ=some x)(h2:g ρ=some y)(k:G x y=some r):eNew G f g ρ=some r:=by unfold eNew;rw[h,aA,h2,aA,k]
theorem YZ{i j:Nat}:k7 2 (d7 (aR i) (d7 (aR j) uE)) (.tup [x,y]) ρ=some ((ρ.set i (some x)).set j (some y)):=rfl
theorem Y2{i j k:Nat}{z:D}:k7 3 (d7 (aR i) (d7 (aR j) (d7 (aR k) uE))) (.tup [x,y,z]) ρ=some (((ρ.set i (some x)).set j (some y)).set k (some z)):=rfl
theorem qaM:aR k x ρ=some (ρ.set k (some x)):=rfl
end
end P
namespace Law
open PySem PySem.Spec PyProof.Rows L2 P
local macro_rules | `(tactic|ac_rfl) => `(tactic|first
 | (with_reducible first|exact qz|exact qaM|exact YZ|exact Y2|exact at0|exact at1|exact at2|exact SA|exact WL|exact T3|exact rfl|assumption)
 | ((with_reducible apply U9);exact rfl)
 | (with_reducible first|apply XI|apply UV|apply TK|apply F3|apply OJ|apply PK|apply aL|apply UE|apply WC|apply NG|apply ND|apply V3|apply XR|apply YM|apply T6|apply WA|apply ON|apply QD|apply VT|apply N6|apply YC|apply P5|apply YS|apply YU|apply V0|apply ZG|apply M4|apply VB|apply X6|apply UM|apply UJ|apply YK|apply MR) <;> ac_rfl
 | ((with_reducible apply ZM);(with_reducible first|exact rfl|(apply decide_eq_true;assumption));ac_rfl)
 | ((with_reducible apply Z7);(with_reducible first|exact rfl|(apply decide_eq_false;assumption));ac_rfl)
 | (with_reducible apply ZM) <;> ac_rfl
 | (with_reducible apply Z7) <;> ac_rfl
 | (with_reducible first|apply bT|apply fP|apply q_eqI|apply YJ|apply TZ|apply N0|apply x8|apply decide_eq_true|apply decide_eq_false) <;> ac_rfl
 | (show bD _ _ _ _ _=_;assumption)
 | (apply aL <;> ac_rfl)
 | (apply MR <;> ac_rfl)
 | (apply M4 <;> ac_rfl)
 | exact rfl
 | exact zcs rfl
 | decide
 | lia)
local macro_rules | `(tactic|simp_all[$xs,*]) => `(tactic|simp[-zad, -zac, aA, aC, $xs,*])
abbrev CN:Addr:=132
abbrev CA:Addr:=158
theorem at5{a b c d e f:D}{l:List D}:gN (a::b::c::d::e::f::l) 5=some f:=bR (j:=5) rfl
theorem qk{a b c d e f g:D}{l:List D}:gN (a::b::c::d::e::f::g::l) 6=some g:=bR (j:=6) rfl
structure Mk where
 nm:Str
 takes:List Int
 g:Int
 f:D
 pr:Int
def kM(m:Mk):D:=.tup [.str m.nm,tupI m.takes,.int m.g,m.f,.int m.pr]
structure Bk where
 M:Int
 kinds:List Str
 rs:List Ro
 makes:List Mk
def bB(C:Bk):D:=.tup [.int C.M,.tup (C.kinds.map .str),.tup (C.rs.map mD),.tup (C.makes.map kM)]
structure OkB(C:Bk):Prop where
 M3:3<=C.M
 M60:C.M<10^60
 k1:1<=C.kinds.length
 k6:C.kinds.length<=6
 gr:GR C.M (C.kinds.length:Int) C.rs
 tk:∀m∈C.makes,(∃t,m.takes=[t])\/∃t u,m.takes=[t,u]
 tb:∀m∈C.makes,∀t∈m.takes,0<=t/\t<(C.kinds.length:Int)
 gb:∀m∈C.makes,0<=m.g/\m.g<(C.kinds.length:Int)
 ml:C.makes.length<=6
inductive Rg where
 | name (x:Str) (j:Int) (w:List Int)
 | num (n j:Int) (w:List Int)
 | use1 (v:Nat) (nm:Str) (p:Rg) (w:List Int)
 | use2 (v:Nat) (nm:Str) (p q:Rg) (w:List Int)
 | lett (x:Str) (j:Int) (p q:Rg)
 | pick (c k:Int) (p q r:Rg) (w:List Int)
 | again (n k:Int) (x:Str) (p q:Rg) (w:List Int)
def pt:Rg->D
 | .name x _ _=>.tup [.str "name",.str x]
 | .num n j _=>.tup [.str "number",.int n,.int j]
 | .use1 _ nm p _=>.tup [.str "use",.str nm,.tup [pt p]]
 | .use2 _ nm p q _=>.tup [.str "use",.str nm,.tup [pt p,pt q]]
 | .lett x _ p q=>.tup [.str "let",.str x,pt p,pt q]
 | .pick c k p q r _=>.tup [.str "pick",.int c,.int k,pt p,pt q,pt r]
 | .again n k x p q _=>.tup [.str "again",.int n,.int k,.str x,pt p,pt q]
def rd:Rg->D
 | .name x _ w=>.tup [.str "name",.str x,tupI w]
 | .num n j w=>.tup [.str "number",.int n,.int j,tupI w]
 | .use1 v _ p w=>.tup [.str "use",.int (v:Int),.tup [rd p],tupI w]
 | .use2 v _ p q w=>.tup [.str "use",.int (v:Int),.tup [rd p,rd q],tupI w]
 | .lett x j p q=>.tup [.str "let",.str x,.int j,rd p,rd q]
 | .pick c k p q r w=>.tup [.str "pick",.int c,.int k,rd p,rd q,rd r,tupI w]
 | .again n k x p q w=>.tup [.str "again",.int n,.int k,.str x,rd p,rd q,tupI w]
def beh:Rg->List Int->Rg
 | .name x j w,v=>.name x j (w++v)
 | .num n j w,v=>.num n j (w++v)
 | .use1 u nm p w,v=>.use1 u nm p (w++v)
 | .use2 u nm p q w,v=>.use2 u nm p q (w++v)
 | .lett x j p q,v=>.lett x j p (beh q v)
 | .pick c k p q r w,v=>.pick c k p q r (w++v)
 | .again n k x p q w,v=>.again n k x p q (w++v)
def size:Rg->Nat
 | .name _ _ _=>1
 | .num _ _ _=>1
 | .use1 _ _ p _=>1+size p
 | .use2 _ _ p q _=>1+(size p+size q)
 | .lett _ _ p q=>1+(size p+size q)
 | .pick _ _ p q r _=>1+(size p+(size q+size r))
 | .again _ _ _ p q _=>1+(size p+size q)
def lets:Rg->Int
 | .name _ _ _=>0
 | .num _ _ _=>0
 | .use1 _ _ p _=>lets p
 | .use2 _ _ p q _=>lets p+lets q
 | .lett _ _ p q=>1+(lets p+lets q)
 | .pick _ _ p q r _=>lets p+(lets q+lets r)
 | .again _ _ _ p q _=>lets p+lets q
noncomputable def mpr(C:Bk)(v:Nat):Int:=((C.makes[v]?).map Mk.pr).getD 0
def cost(C:Bk):Rg->Int
 | .name _ _ w=>gL C.rs w
 | .num _ _ w=>gL C.rs w
 | .use1 v _ p w=>mpr C v+gL C.rs w+cost C p
 | .use2 v _ p q w=>mpr C v+gL C.rs w+(cost C p+cost C q)
 | .lett _ _ p q=>cost C p+cost C q
 | .pick _ _ p q r w=>gL C.rs w+(cost C p+(cost C q+cost C r))
 | .again _ _ _ p q w=>gL C.rs w+(cost C p+cost C q)
def WF(C:Bk):List (Str×Int)->Rg->Int->Prop
 | kn,.name x j w,e=>(x,j)∈kn/\gw C.rs j w=some e
 | kn,.num n j w,e=>(0<=n/\n<C.M)/\(0<=j/\j<(C.kinds.length:Int))/\gw C.rs j w=some e
 | kn,.use1 v nm p w,e=>∃m t,C.makes[v]?=some m/\m.nm=nm/\m.takes=[t]/\WF C kn p t/\gw C.rs m.g w=some e
 | kn,.use2 v nm p q w,e=>∃m t u,C.makes[v]?=some m/\m.nm=nm/\m.takes=[t,u]/\WF C kn p t/\WF C kn q u/\gw C.rs m.g w=some e
 | kn,.lett x j p q,e=>WF C kn p j/\WF C ((x,j)::kn) q e
 | kn,.pick c k p q r w,e=>(0<=c/\c<(C.kinds.length:Int))/\(0<=k/\k<(C.kinds.length:Int))/\WF C kn p c/\WF C kn q k/\WF C kn r k/\gw C.rs k w=some e
 | kn,.again n k x p q w,e=>(0<=n/\n<4)/\(0<=k/\k<(C.kinds.length:Int))/\WF C kn p k/\WF C ((x,k)::kn) q k/\gw C.rs k w=some e
theorem WF.mono{C:Bk}:∀ {g:Rg} {kn kn':List (Str×Int)} {e:Int},WF C kn g e->(∀p∈kn,p∈kn')->WF C kn' g e
 | .name x j w,kn,kn',e,⟨a,b⟩,h=>⟨h _ a,b⟩
 | .num n j w,kn,kn',e,a,h=>a
 | .use1 v nm p w,kn,kn',e,⟨m,t,a,b,c,d,f⟩,h=>⟨m,t,a,b,c,d.mono h,f⟩
 | .use2 v nm p q w,kn,kn',e,⟨m,t,u,a,b,c,d,d2,f⟩,h=>⟨m,t,u,a,b,c,d.mono h,d2.mono h,f⟩
 | .lett x j p q,kn,kn',e,⟨a,b⟩,h=>⟨a.mono h,b.mono λy B=>(List.mem_cons.mp B).elim (λz=>z ▸ zat ..) λz=>zap _ (h y z)⟩
 | .pick c k p q r w,kn,kn',e,⟨a,b,c1,c2,c3,d⟩,h=>⟨a,b,c1.mono h,c2.mono h,c3.mono h,d⟩
 | .again n k x p q w,kn,kn',e,⟨a,b,c1,c2,d⟩,h=>⟨a,b,c1.mono h,c2.mono λy B=>(List.mem_cons.mp B).elim (λz=>z ▸ zat ..) λz=>zap _ (h y z),d⟩
theorem v4{rs:List Ro}{j e f:Int}{v w:List Int}(h:gw rs j v=some e)(k:gw rs e w=some f):gw rs j (v++w)=some f:=by
 rw[nY,h];exact k
theorem WF.beh{C:Bk}{v:List Int}{f:Int}:∀ {g:Rg} {kn:List (Str×Int)} {e:Int},WF C kn g e->gw C.rs e v=some f->WF C kn (beh g v) f
 | .name x j w,kn,e,⟨a,b⟩,h=>⟨a,v4 b h⟩
 | .num n j w,kn,e,⟨a,b,c⟩,h=>⟨a,b,v4 c h⟩
 | .use1 u nm p w,kn,e,⟨m,t,a,b,c,d,f⟩,h=>⟨m,t,a,b,c,d,v4 f h⟩
 | .use2 u nm p q w,kn,e,⟨m,t,u',a,b,c,d,d2,f⟩,h=>⟨m,t,u',a,b,c,d,d2,v4 f h⟩
 | .lett x j p q,kn,e,⟨a,b⟩,h=>⟨a,b.beh h⟩
 | .pick c k p q r w,kn,e,⟨a,b,c1,c2,c3,d⟩,h=>⟨a,b,c1,c2,c3,v4 d h⟩
 | .again n k x p q w,kn,e,⟨a,b,c1,c2,d⟩,h=>⟨a,b,c1,c2,v4 d h⟩
theorem nC:∀(g:Rg) (v:List Int),size (beh g v)=size g
 | .name ..,_=>rfl
 | .num ..,_=>rfl
 | .use1 ..,_=>rfl
 | .use2 ..,_=>rfl
 | .lett x j p q,v=>by rw[beh,size,size,nC q v]
 | .pick ..,_=>rfl
 | .again ..,_=>rfl
theorem tH:∀(g:Rg) (v:List Int),lets (beh g v)=lets g
 | .name ..,_=>rfl
 | .num ..,_=>rfl
 | .use1 ..,_=>rfl
 | .use2 ..,_=>rfl
 | .lett x j p q,v=>by rw[beh,lets,lets,tH q v]
 | .pick ..,_=>rfl
 | .again ..,_=>rfl
theorem MX:∀(g:Rg) (v:List Int),pt (beh g v)=pt g
 | .name ..,_=>rfl
 | .num ..,_=>rfl
 | .use1 ..,_=>rfl
 | .use2 ..,_=>rfl
 | .lett x j p q,v=>by rw[beh,pt,pt,MX q v]
 | .pick ..,_=>rfl
 | .again ..,_=>rfl
theorem AU{C:Bk}:∀(g:Rg) (v:List Int),cost C (beh g v)=cost C g+gL C.rs v
 | .name ..,_=>by simp only[beh,cost,eD]
 | .num ..,_=>by simp only[beh,cost,eD]
 | .use1 ..,_=>by simp only[beh,cost,eD];lia
 | .use2 ..,_=>by simp only[beh,cost,eD];lia
 | .lett x j p q,v=>by simp only[beh,cost,AU q v];lia
 | .pick ..,_=>by simp only[beh,cost,eD];lia
 | .again ..,_=>by simp only[beh,cost,eD];lia
def Short:Rg->Prop
 | .name _ _ w=>w.length<=6
 | .num _ _ w=>w.length<=6
 | .use1 _ _ p w=>Short p/\w.length<=6
 | .use2 _ _ p q w=>Short p/\Short q/\w.length<=6
 | .lett _ _ p q=>Short p/\Short q
 | .pick _ _ p q r w=>Short p/\Short q/\Short r/\w.length<=6
 | .again _ _ _ p q w=>Short p/\Short q/\w.length<=6
theorem dR{C:Bk}(B:OkB C){j e:Int}{w:List Int}(h:gw C.rs j w=some e)(z:0<=j)(q:j<(C.kinds.length:Int)):w.length<=6/\0<=e/\e<(C.kinds.length:Int):=by
 have a:=lW B.gr h;have b:=S8 B.gr h q;have:=B.k6;exact⟨by lia,by lia,b⟩
def OkN(C:Bk)(kn:List (Str×Int)):Prop:=∀p∈kn,0<=p.2/\p.2<(C.kinds.length:Int)
theorem OkN.cons{C:Bk}{kn:List (Str×Int)}{x:Str}{j:Int}(h:OkN C kn)(a:0<=j)(b:j<(C.kinds.length:Int)):OkN C ((x,j)::kn):=λp q=>by
 rcases List.mem_cons.mp q with z|z
 ·rw[z];exact⟨a,b⟩
 ·exact h p z
theorem WF.short{C:Bk}(B:OkB C):∀ {g:Rg} {kn:List (Str×Int)} {e:Int},OkN C kn->WF C kn g e->Short g/\0<=e/\e<(C.kinds.length:Int)
 | .name x j w,kn,e,K,⟨a,b⟩=>dR B b (K _ a).1 (K _ a).2
 | .num n j w,kn,e,K,⟨a,b,c⟩=>dR B c b.1 b.2
 | .use1 v nm p w,kn,e,K,⟨m,t,a,b,c,d,f⟩=>by
  have z:=zav a;have s:=dR B f (B.gb m z).1 (B.gb m z).2;exact⟨⟨(d.short B K).1,s.1⟩,s.2⟩
 | .use2 v nm p q w,kn,e,K,⟨m,t,u,a,b,c,d,d2,f⟩=>by
  have z:=zav a;have s:=dR B f (B.gb m z).1 (B.gb m z).2;exact⟨⟨(d.short B K).1,(d2.short B K).1,s.1⟩,s.2⟩
 | .lett x j p q,kn,e,K,⟨a,b⟩=>by
  have F:=a.short B K;have G:=b.short B (K.cons F.2.1 F.2.2);exact⟨⟨F.1,G.1⟩,G.2⟩
 | .pick c k p q r w,kn,e,K,⟨a,b,c1,c2,c3,d⟩=>by
  have s:=dR B d b.1 b.2;exact⟨⟨(c1.short B K).1,(c2.short B K).1,(c3.short B K).1,s.1⟩,s.2⟩
 | .again n k x p q w,kn,e,K,⟨a,b,c1,c2,d⟩=>by
  have s:=dR B d b.1 b.2;exact⟨⟨(c1.short B K).1,(c2.short B (K.cons b.1 b.2)).1,s.1⟩,s.2⟩
def NF(U:List Str):List Str->Rg->Prop
 | _,.name _ _ _=>True
 | _,.num _ _ _=>True
 | N,.use1 _ _ p _=>NF U N p
 | N,.use2 _ _ p q _=>NF U N p/\NF U N q
 | N,.lett x _ p q=>NF U N p/\(x∉N/\x∈U)/\NF U (x::N) q
 | N,.pick _ _ p q r _=>NF U N p/\NF U N q/\NF U N r
 | N,.again _ _ x p q _=>NF U N p/\(x∉N/\x∈U)/\NF U (x::N) q
theorem NF.anti{U:List Str}:∀ {g:Rg} {N N':List Str},NF U N g->(∀y∈N',y∈N)->NF U N' g
 | .name ..,_,_,_,_=>trivial
 | .num ..,_,_,_,_=>trivial
 | .use1 u nm p w,N,N',h,k=>NF.anti (g:=p) (N:=N) h k
 | .use2 ..,N,N',⟨a,b⟩,k=>⟨NF.anti a k,NF.anti b k⟩
 | .lett x j p q,N,N',⟨a,b,c⟩,k=>⟨NF.anti a k,⟨λz=>b.1 (k _ z),b.2⟩,NF.anti c λy B=>(List.mem_cons.mp B).elim (λz=>z ▸ zat ..) λz=>zap _ (k y z)⟩
 | .pick ..,N,N',⟨a,b,c⟩,k=>⟨NF.anti a k,NF.anti b k,NF.anti c k⟩
 | .again n k' x p q w,N,N',⟨a,b,c⟩,k=>⟨NF.anti a k,⟨λz=>b.1 (k _ z),b.2⟩,NF.anti c λy B=>(List.mem_cons.mp B).elim (λz=>z ▸ zat ..) λz=>zap _ (k y z)⟩
theorem NF.beh{U:List Str}{v:List Int}:∀ {g:Rg} {N:List Str},NF U N g->NF U N (beh g v)
 | .name ..,_,_=>trivial
 | .num ..,_,_=>trivial
 | .use1 ..,N,h=>h
 | .use2 ..,N,h=>h
 | .lett x j p q,N,⟨a,b,c⟩=>⟨a,b,c.beh⟩
 | .pick ..,N,h=>h
 | .again ..,N,h=>h
inductive Pa where
 | name (x:Str)
 | num (n j:Int)
 | use1 (nm:Str) (p:Pa)
 | use2 (nm:Str) (p q:Pa)
 | lett (x:Str) (p q:Pa)
 | pick (c k:Int) (p q r:Pa)
 | again (n k:Int) (x:Str) (p q:Pa)
def pa:Rg->Pa
 | .name x _ _=>.name x
 | .num n j _=>.num n j
 | .use1 _ nm p _=>.use1 nm (pa p)
 | .use2 _ nm p q _=>.use2 nm (pa p) (pa q)
 | .lett x _ p q=>.lett x (pa p) (pa q)
 | .pick c k p q r _=>.pick c k (pa p) (pa q) (pa r)
 | .again n k x p q _=>.again n k x (pa p) (pa q)
def bI:Pa->D
 | .name x=>.tup [.str "name",.str x]
 | .num n j=>.tup [.str "number",.int n,.int j]
 | .use1 nm p=>.tup [.str "use",.str nm,.tup [bI p]]
 | .use2 nm p q=>.tup [.str "use",.str nm,.tup [bI p,bI q]]
 | .lett x p q=>.tup [.str "let",.str x,bI p,bI q]
 | .pick c k p q r=>.tup [.str "pick",.int c,.int k,bI p,bI q,bI r]
 | .again n k x p q=>.tup [.str "again",.int n,.int k,.str x,bI p,bI q]
def psz:Pa->Nat
 | .name _=>1
 | .num _ _=>1
 | .use1 _ p=>1+psz p
 | .use2 _ p q=>1+(psz p+psz q)
 | .lett _ p q=>1+(psz p+psz q)
 | .pick _ _ p q r=>1+(psz p+(psz q+psz r))
 | .again _ _ _ p q=>1+(psz p+psz q)
theorem b7:∀g:Rg,psz (pa g)=size g
 | .name ..=>rfl
 | .num ..=>rfl
 | .use1 _ _ p _=>by simp only[pa,psz,size,b7 p]
 | .use2 _ _ p q _=>by simp only[pa,psz,size,b7 p,b7 q]
 | .lett _ _ p q=>by simp only[pa,psz,size,b7 p,b7 q]
 | .pick _ _ p q r _=>by simp only[pa,psz,size,b7 p,b7 q,b7 r]
 | .again _ _ _ p q _=>by simp only[pa,psz,size,b7 p,b7 q]
theorem iE:∀g:Rg,pt g=bI (pa g)
 | .name ..=>rfl
 | .num ..=>rfl
 | .use1 _ _ p _=>by simp only[pa,bI,pt,iE p]
 | .use2 _ _ p q _=>by simp only[pa,bI,pt,iE p,iE q]
 | .lett _ _ p q=>by simp only[pa,bI,pt,iE p,iE q]
 | .pick _ _ p q r _=>by simp only[pa,bI,pt,iE p,iE q,iE r]
 | .again _ _ _ p q _=>by simp only[pa,bI,pt,iE p,iE q]
theorem xD:∀ {p q:Pa},bI p=bI q->p=q:=by
 intro p;induction p with
 | name x=>intro q h;cases q <;> simp[-zad,-zac,aA,aC,bI]at h ⊢ <;> exact h
 | num n j=>intro q h;cases q <;> simp[-zad,-zac,aA,aC,bI]at h ⊢ <;> exact h
 | use1 nm p ih=>intro q h;cases q <;> simp[-zad,-zac,aA,aC,bI]at h ⊢ <;> exact⟨h.1,ih h.2⟩
 | use2 nm p q ih1 ih2=>intro q h;cases q <;> simp[-zad,-zac,aA,aC,bI]at h ⊢ <;> exact⟨h.1,ih1 h.2.1,ih2 h.2.2⟩
 | lett x p q ih1 ih2=>intro q h;cases q <;> simp[-zad,-zac,aA,aC,bI]at h ⊢ <;> exact⟨h.1,ih1 h.2.1,ih2 h.2.2⟩
 | pick c k p q r ih1 ih2 ih3=>intro q h;cases q <;> simp[-zad,-zac,aA,aC,bI]at h ⊢ <;> first|exact⟨h.1,h.2.1,ih1 h.2.2.1,ih2 h.2.2.2.1,ih3 h.2.2.2.2⟩|exact absurd h.1 (by decide)
 | again n k x p q ih1 ih2=>intro q h;cases q <;> simp[-zad,-zac,aA,aC,bI]at h ⊢ <;> first|exact⟨h.1,h.2.1,h.2.2.1,ih1 h.2.2.2.1,ih2 h.2.2.2.2⟩|exact absurd h.1 (by decide)
theorem nL{q:Type}{f:q->D}(h:∀a b,f a=f b->a=b):∀ {l m:List q},l.map f=m.map f->l=m
 | [],[],_=>rfl
 | [],_::_,e=>nomatch e
 | _::_,[],e=>nomatch e
 | a::l,b::m,e=>by injection e with e1 e2;rw[h _ _ e1,nL h e2]
theorem OZ(a b:Mk)(h:kM a=kM b):a=b:=by
 unfold kM tupI at h;simp only[D.tup.injEq,zei,D.str.injEq,D.int.injEq,and_true]at h;obtain⟨h1,h2,z,q,B⟩:=h;have:=nL (f:=D.int) (λ_ _ e=>by injection e) h2;cases a;cases b;simp only at *;subst h1 z q B this;rfl
theorem P4(a b:Ro)(h:mD a=mD b):a=b:=by
 unfold mD at h;simp only[D.tup.injEq,zei,D.int.injEq,and_true]at h;obtain⟨h1,h2,z,q,B⟩:=h;cases a;cases b;simp only at *;subst h1 h2 z q B;rfl
theorem xM{a b:Bk}(h:bB a=bB b):a=b:=by
 unfold bB at h;simp only[D.tup.injEq,zei,D.int.injEq,and_true]at h;obtain⟨h1,h2,z,F⟩:=h;have G:=nL (f:=D.str) (λ_ _ e=>by injection e) h2;have q:=nL P4 z;have B:=nL OZ F;cases a;cases b;simp only at *;subst h1 G q B;rfl
noncomputable def fE(h:Option Str)(acc l:List Str):List Str:=acc++l.filter λx=>!decide (some x=h) && !decide (x∈acc)
def aP:Pa->List Str
 | .name x=>[x]
 | .num _ _=>[]
 | .use1 _ p=>fE none [] (aP p)
 | .use2 _ p q=>fE none (fE none [] (aP p)) (aP q)
 | .lett x p q=>fE (some x) (fE none [] (aP p)) (aP q)
 | .pick _ _ p q r=>fE none (fE none (fE none [] (aP p)) (aP q)) (aP r)
 | .again _ _ x p q=>fE (some x) (fE none [] (aP p)) (aP q)
abbrev Sm:=Option (Int×Int)
def pZ:Sm->Sm->Sm
 | some a,some b=>some (a.1*b.1,a.2+b.2)
 | _,_=>none
def dB:Sm->Sm->Sm
 | some a,some b=>some (a.1+b.1,min a.2 b.2)
 | none,b=>b
 | a,none=>a
def NW(C:Bk)(j k:Int):Sm:=
 if(bX C.rs k 8 j).length=0 then none else some (((bX C.rs k 8 j).length:Int),My.NT ((bX C.rs k 8 j).map (gL C.rs)))
def csum(C:Bk)(own j k:Int)(q:List Sm):Sm:=q.foldl pZ (pZ (some (1,own)) (NW C j k))
abbrev fR:=Str->Int
def eX(e:fR)(x:Str)(j:Int):fR:=λy=>if y=x then j else e y
noncomputable def aT(C:Bk)(v i:Nat):Int:=(((C.makes[v]?).map Mk.takes).getD [])[i]?.getD 0
noncomputable def dF(C:Bk)(v:Nat):Int:=((C.makes[v]?).map Mk.g).getD 0
noncomputable def nS(C:Bk)(nm:Str)(n:Nat):List Nat:=(zas C.makes.length).filter λv=>match C.makes[v]? with
 | some m=>decide (m.nm=nm) && decide (m.takes.length=n)
 | none=>false
def aX(C:Bk):Pa->fR->Int->Sm
 | .name x,e,k=>csum C 0 (e x) k []
 | .num _ j,_,k=>csum C 0 j k []
 | .use1 nm p,e,k=>(nS C nm 1).foldl (λt v=>dB t (csum C (mpr C v) (dF C v) k [aX C p e (aT C v 0)])) none
 | .use2 nm p q,e,k=>(nS C nm 2).foldl (λt v=>dB t (csum C (mpr C v) (dF C v) k [aX C p e (aT C v 0),aX C q e (aT C v 1)])) none
 | .lett x p q,e,k=>(zas C.kinds.length).foldl (λt (j:Nat)=>dB t (csum C 0 k k [aX C p e (j:Int),aX C q (eX e x (j:Int)) k])) none
 | .pick c k' p q r,e,k=>csum C 0 k' k [aX C p e c,aX C q e k',aX C r e k']
 | .again _ k' x p q,e,k=>csum C 0 k' k [aX C p e k',aX C q (eX e x k') k']
theorem a9{h:Option Str}{acc l:List Str}{x:Str}:x∈fE h acc l↔x∈acc\/(x∈l/\some x≠h):=by
 unfold fE;by_cases hx:x∈acc <;> simp_all[hx]
theorem b6(C:Bk):∀(p:Pa) (e f:fR) (k:Int),(∀x∈aP p,e x=f x)->aX C p e k=aX C p f k
 | .name x,e,f,k,h=>by simp only[aX,h x (by simp_all[aP])]
 | .num _ j,e,f,k,h=>rfl
 | .use1 nm p,e,f,k,h=>by
  have a:=λk=>b6 C p e f k λx hx=>h x (by simp only[aP,a9];exact .inr ⟨hx,by simp[-zad,-zac,aA,aC]⟩)
  simp only[aX,a]
 | .use2 nm p q,e,f,k,h=>by
  have a:=λk=>b6 C p e f k λx hx=>h x (by simp only[aP,a9];exact .inl (.inr ⟨hx,by simp[-zad,-zac,aA,aC]⟩))
  have b:=λk=>b6 C q e f k λx hx=>h x (by simp only[aP,a9];exact .inr ⟨hx,by simp[-zad,-zac,aA,aC]⟩)
  simp only[aX,a,b]
 | .lett y p q,e,f,k,h=>by
  have a:=λk=>b6 C p e f k λx hx=>h x (by simp only[aP,a9];exact .inl (.inr ⟨hx,by simp[-zad,-zac,aA,aC]⟩))
  have b:=λj k=>b6 C q (eX e y j) (eX f y j) k λx hx=>by
   unfold eX;by_cases z:x=y
   ·rw[if_pos z,if_pos z]
   ·rw[if_neg z,if_neg z];exact h x (by simp only[aP,a9];exact .inr ⟨hx,by simpa using z⟩)
  simp only[aX,a,b]
 | .pick c k' p q r,e,f,k,h=>by
  have a:=λk=>b6 C p e f k λx hx=>h x (by simp only[aP,a9];exact .inl (.inl (.inr ⟨hx,by simp[-zad,-zac,aA,aC]⟩)))
  have b:=λk=>b6 C q e f k λx hx=>h x (by simp only[aP,a9];exact .inl (.inr ⟨hx,by simp[-zad,-zac,aA,aC]⟩))
  have c:=λk=>b6 C r e f k λx hx=>h x (by simp only[aP,a9];exact .inr ⟨hx,by simp[-zad,-zac,aA,aC]⟩)
  simp only[aX,a,b,c]
 | .again n k' y p q,e,f,k,h=>by
  have a:=λk=>b6 C p e f k λx hx=>h x (by simp only[aP,a9];exact .inl (.inr ⟨hx,by simp[-zad,-zac,aA,aC]⟩))
  have b:=λj k=>b6 C q (eX e y j) (eX f y j) k λx hx=>by
   unfold eX;by_cases z:x=y
   ·rw[if_pos z,if_pos z]
   ·rw[if_neg z,if_neg z];exact h x (by simp only[aP,a9];exact .inr ⟨hx,by simpa using z⟩)
  simp only[aX,a,b]
def IU:List Str->List Int->fR
 | x::xs,j::js=>eX (IU xs js) x j
 | _,_=>λ_=>0
theorem AM(e:fR):∀ {xs:List Str} {x:Str},x∈xs->IU xs (xs.map e) x=e x
 | [],_,h=>nomatch h
 | y::ys,x,h=>by
  show eX (IU ys (ys.map e)) y (e y) x=e x;unfold eX;by_cases z:x=y
  ·rw[if_pos z,z]
  ·rw[if_neg z];exact AM e ((List.mem_cons.mp h).resolve_left z)
def W0:Key->Int
 | .inl i=>i
 | .inr _=>0
noncomputable def v8(m:Nat):Nat->List (List Int)
 | 0=>[[]]
 | n+1=>(v8 m n).flatMap λl=>(zas m).map λ(j:Nat)=>(j:Int)::l
theorem vW(m:Nat):∀n,(v8 m n).length=m^n
 | 0=>rfl
 | n+1=>by
  have h:∀L:List (List Int),(L.flatMap λl=>(zas m).map λ(j:Nat)=>(j:Int)::l).length=L.length*m:=λL=>by
   induction L with
   | nil=>simp[-zad,-zac,aA,aC]
   | cons a L ih=>rw[List.flatMap_cons,zbb,ih,zam,zcG,zaz,Nat.succ_mul,Nat.add_comm]
  rw[v8,h,vW m n,Nat.pow_succ]
theorem u5(m:Nat):∀ {n:Nat} {l:List Int},l.length=n->(∀j∈l,0<=j/\j<(m:Int))->l∈v8 m n
 | 0,[],_,_=>by simp_all[v8]
 | n+1,j::l,hl,h=>by
  have a:=u5 m (n:=n) (l:=l) (by simpa using hl) λi hi=>h i (zap _ hi)
  have b:=h j (zat ..);refine List.mem_flatMap.mpr ⟨l,a,List.mem_map.mpr ⟨j.toNat,List.mem_range.mpr (by lia),?_⟩⟩;rw[show((j.toNat:Nat):Int)=j by lia]
open Classical in
def FF(b p:D):My.Mf:=λk=>if h:∃q:Bk×Pa,b=bB q.1/\p=bI q.2 then aX h.choose.1 h.choose.2 (IU (aP h.choose.2) (k.2.map W0)) (W0 k.1)else none
open Classical in
def DM(b p:D):List My.NK:=if h:∃q:Bk×Pa,b=bB q.1/\p=bI q.2 then(v8 h.choose.1.kinds.length ((aP h.choose.2).length+1)).map λl=>match l with
 | j::l=>(.inl j,l.map .inl)
 | []=>(.inl 0,[])else []
theorem X3(C:Bk)(p:Pa)(k:Int)(l:List Int):FF (bB C) (bI p) (.inl k,l.map .inl)=aX C p (IU (aP p) l) k:=by
 have h:∃q:Bk×Pa,bB C=bB q.1/\bI p=bI q.2:=⟨(C,p),rfl,rfl⟩;unfold FF;rw[dif_pos h];have z:=xM h.choose_spec.1;have B:=xD h.choose_spec.2;rw[<- z,<- B,zaq];have e:(W0 ∘ zbn:Int->Int)=id:=rfl;rw[e,List.map_id];rfl
theorem Y1{C:Bk}{p:Pa}{k:Int}{l:List Int}(M:0<=k/\k<(C.kinds.length:Int))(F:l.length=(aP p).length)(h:∀j∈l,0<=j/\j<(C.kinds.length:Int)):((.inl k,l.map .inl):My.NK)∈DM (bB C) (bI p):=by
 have B:∃q:Bk×Pa,bB C=bB q.1/\bI p=bI q.2:=⟨(C,p),rfl,rfl⟩;unfold DM;rw[dif_pos B];have G:=xM B.choose_spec.1;have J:=xD B.choose_spec.2;rw[<- G,<- J];refine List.mem_map.mpr ⟨k::l,u5 _ (by rw[zaz,F]) (λj N=>?_),rfl⟩;rcases List.mem_cons.mp N with z|z
 ·rw[z];exact M
 ·exact h j z
theorem V6{C:Bk}{p:Pa}(G:C.kinds.length<=6)(J:(aP p).length<=8):(DM (bB C) (bI p)).length<zai:=by
 have z:∃q:Bk×Pa,bB C=bB q.1/\bI p=bI q.2:=⟨(C,p),rfl,rfl⟩;unfold DM;rw[dif_pos z];have B:=xM z.choose_spec.1;have F:=xD z.choose_spec.2;rw[<- B,<- F,zam,vW];have a:C.kinds.length^((aP p).length+1)<=6^((aP p).length+1):=Nat.pow_le_pow_left G _;have b:(6:Nat)^((aP p).length+1)<=6^9:=Nat.pow_le_pow_right (by decide) (by lia);have c:(6:Nat)^9<zai:=by decide
 lia
noncomputable def top(i:Nat):Stmt:=PySem.Challenge.pw_chiefway_k46_whole_every_reading_is_told.main.body.getD i (.Pass ⟨0,0,0,0⟩)
abbrev s_law:Stmt:=top 65
abbrev tb(x:Str)(i:Nat)(ps:List Str):=(x,i,ps)
def tab:List (Str×Nat×List Str):=[tb "_law_cell" 39 ["script", "k"],tb "_law_price" 41 ["cell"],tb "_law_road" 42 ["cell", "M", "j", "k"],tb "_law_roads" 43 ["script", "M", "many"],tb "_law_name" 40 ["cell", "n"],tb "_law_shape" 44 ["cell", "M", "n"],tb "_law_makes" 45 ["script", "M", "many"],tb "_law_book" 46 ["script"],tb "_law_heads" 60 ["script", "tome", "names"],tb "_law_back" 48 ["tome", "k", "cell"],tb "_law_cost" 49 ["tome", "way"],tb "_law_leaf" 51 ["tome", "known", "kind", "cell"],tb "_law_begun" 61 ["script", "tome", "names", "pairs"],tb "_law_walk" 47 ["tome", "j", "cell"],tb "_law_behind" 50 ["reading", "way"],tb "_law_walked" 58 ["tome", "state", "cell"],tb "_law_many" 62 ["script"],tb "_law_over" 52 ["part", "reading", "kind", "states", "cost"],tb "_law_used" 53 ["tome", "known", "state", "cell"],tb "_law_closed" 57 ["tome", "known", "state", "pair", "cell"],tb "_law_picked" 54 ["tome", "known", "state", "cell"],tb "_law_around" 55 ["tome", "known", "state", "name", "cell"],tb "_law_named" 56 ["tome", "known", "state", "name", "cell"],tb "_law_step" 59 ["tome", "names", "now", "cell"],tb "_law_grown" 63 ["script", "tome", "names", "pairs"],tb "choice_of" 14 ["reading"],tb "choices" 10 ["book", "part"],tb "inner_kinds" 11 ["book", "part", "kind", "choice"],tb "name_within" 5 ["part", "number"],tb "inner_heads" 12 ["heads", "part", "number", "choice"],tb "spots" 27 ["atlas", "node", "heads", "kind", "choice"],tb "inner_readings" 15 ["reading"],tb "joined" 35 ["numbers", "many"],tb "way_begins" 13 ["book", "heads", "part", "kind", "choice"],tb "way_of" 16 ["reading"],tb "number_in" 28 ["total"],tb "either" 24 ["one", "other"],tb "both" 23 ["one", "other"],tb "sum_at" 25 ["atlas", "node", "heads", "kind"],tb "choice_sum" 26 ["atlas", "node", "heads", "kind", "choice"],tb "sizes" 33 ["atlas", "places", "routes"],tb "number_at" 37 ["atlas", "node", "heads", "kind", "reading"],tb "ways" 7 ["book", "j", "k"],tb "way_price" 8 ["book", "way"],tb "ways_sum" 22 ["book", "routes"],tb "names_used" 20 ["part", "below"],tb "inner" 4 ["part"],tb "number_of" 36 ["book", "heads", "part", "kind", "reading"],tb "parted" 34 ["n", "many"],tb "assembled" 17 ["part", "choice", "readings", "way"],tb "told_at" 31 ["atlas", "node", "heads", "kind", "n"],tb "told_choice" 32 ["atlas", "node", "heads", "kind", "choice", "n"],tb "told" 30 ["book", "heads", "part", "kind", "n"],tb "_law_whole" 64 ["found"],tb "counts" 29 ["book", "heads", "part"]]
noncomputable def blt:List Str:=["bool", "dict", "enumerate", "int", "isinstance", "len", "list", "max", "min", "range", "reversed", "sum", "tuple", "zip"]
noncomputable def gis:List (Str×Int):=[]
theorem sc_law:FnScope ["script", "tome", "names", "pairs", "state", "handed", "n", "found"] ["script"] (aM s_law):=⟨rfl,rfl,rfl,by decide +kernel,rfl,by decide +kernel,by decide +kernel⟩
structure Txt(K:zae)(mg:Str->Option Value):Prop where
 d:∀p∈tab,My.DefAt K mg p.1 (top p.2.1) p.2.2
 b:∀x∈blt,mg x=none
 g:∀p∈gis,GInt mg p.1 p.2
 o_Node:ObT K mg "Node" "Node.__init__" "part" (inClass (top 19) 0) CN ["part", "below", "names", "found"]
 o_Atlas:ObT K mg "Atlas" "Atlas.__init__" "book" (inClass (top 21) 0) CA ["book", "routes", "spans"]
theorem Txt.n{K:zae}{mg:Str->Option Value}(T:Txt K mg){x:Str}(h:x∈blt:=by decide +kernel):mg x=none:=T.b x h
abbrev Tx(P:zah)(w:World)(K:zae)(mg:Str->Option Value)(base:Heap):Prop:=Txt K mg
abbrev Zt(x:Str)(ps:List Str)(k n:Nat):Type:={b:Sv // ∀ {P:zah} {w:World} {K:zae} {mg:Str->Option Value} {base:Heap},Tx P w K mg base->Fn P w K mg base x k ps (bF n b)}
def f7(N:List Str)(i:Nat){x:Str}{ps:List Str}{k:Nat}{b:Sv}(h:∀ {P:zah} {w:World} {K:zae} {mg:Str->Option Value} {base:Heap} {B:Addr} {z:Value} {A:zan} {q:List Env} {H:Hp} {E:XK} (T:Tx P w K mg base) (s:zab) (nd:N.Nodup) (F:Room k (A.deeper (zaM x (aM (top i)) s.heap.objs.size B z))) (hu:(A.deeper (zaM x (aM (top i)) s.heap.objs.size B z)).units+1<cLine),∃g,d9 (i8 u3 P w K mg base N x (aM (top i)) B z A q s H E).nox ⟨[],[]⟩ [] (bQ (top i)) g []/\g=b)(m:(x,i,ps)∈tab:=by decide +kernel)(sc:FnScope N ps (aM (top i)):=by exact⟨rfl,rfl,rfl,by decide +kernel,rfl,by decide +kernel,by decide +kernel⟩):Zt x ps (k+1) N.length:=⟨b,λT=>A4 (T.d _ m) sc λB z A q s H E F=>h T s sc.nd F (pX F)⟩
abbrev Zr(x:Str)(ps:List Str)(k n m:Nat):Type:={b:(List D->Option D)->Sv // ∀ {P:zah} {w:World} {K:zae} {mg:Str->Option Value} {base:Heap},Tx P w K mg base->Fn P w K mg base x (k+m+1) ps (gK n b m)}
def DL(N:List Str)(i:Nat){x:Str}{ps:List Str}{k m:Nat}{b:(List D->Option D)->Sv}(h:∀ {P:zah} {w:World} {K:zae} {mg:Str->Option Value} {base:Heap} {fa:Addr} {cdv:Value} {A:zan} {outer:List Env} {H:Hp} {E:XK} (T:Tx P w K mg base) (R:List D->Option D) (j:Nat) (hj:k<=j) (ih:Fn P w K mg base x j ps R) (s:zab) (nd:N.Nodup) (hr:Room j (A.deeper (zaM x (aM (top i)) s.heap.objs.size fa cdv))) (hu:(A.deeper (zaM x (aM (top i)) s.heap.objs.size fa cdv)).units+1<cLine),∃g,d9 (i8 u3 P w K mg base N x (aM (top i)) fa cdv A outer s H E).nox ⟨[],[]⟩ [] (bQ (top i)) g []/\g=b R)(me:(x,i,ps)∈tab:=by decide +kernel)(sc:FnScope N ps (aM (top i)):=by exact⟨rfl,rfl,rfl,by decide +kernel,rfl,by decide +kernel,by decide +kernel⟩):Zr x ps k N.length m:=⟨b,λT=>by
 induction m with
 | zero=>exact D8 (T.d _ me) sc
 | succ m ih=>exact A4 (T.d _ me) sc λfa cdv A outer s H E hr=>h T _ (k+m+1) (by lia) ih s sc.nd hr (pX hr)⟩
local macro_rules | `(tactic|exists $x:ident) => `(tactic|(refine' (?f:∀y:(List D -> Option D) -> Sv, zc4 $x = y -> (List D -> Option D) -> Sv) _ ?h;(case h => unfold $x;(try unfold DL);(try dsimp only);try exact rfl);(case f => exact λy _ => y)))
local macro_rules | `(tactic|exists $x:ident) => `(tactic|(refine' (?f:∀y:Sv, zc4 $x = y -> Sv) _ ?h;(case h => unfold $x;(try unfold f7);(try dsimp only);try exact rfl);(case f => exact λy _ => y)))
theorem OW{X:Cx}{O:List Nat}{e:Expr}{f:Ev}{pos:Pos}(T:Txt X.K X.mg)(q:PB X O e f)(z:zaN e "part" X.env (eval e X.env)=eval e X.env):PD X O (.Attribute e "part" pos) (dP CN "part" f):=kT T.o_Node.cls (T.o_Node.na _ (by decide)) q z
theorem KL{X:Cx}{O:List Nat}{e:Expr}{f:Ev}{pos:Pos}(T:Txt X.K X.mg)(q:PB X O e f)(z:zaN e "below" X.env (eval e X.env)=eval e X.env):PD X O (.Attribute e "below" pos) (dP CN "below" f):=kT T.o_Node.cls (T.o_Node.na _ (by decide)) q z
theorem JV{X:Cx}{O:List Nat}{e:Expr}{f:Ev}{pos:Pos}(T:Txt X.K X.mg)(q:PB X O e f)(z:zaN e "names" X.env (eval e X.env)=eval e X.env):PD X O (.Attribute e "names" pos) (dP CN "names" f):=kT T.o_Node.cls (T.o_Node.na _ (by decide)) q z
theorem QY{X:Cx}{O:List Nat}{e:Expr}{f:Ev}{pos:Pos}(T:Txt X.K X.mg)(q:PB X O e f)(z:zaN e "book" X.env (eval e X.env)=eval e X.env):PD X O (.Attribute e "book" pos) (dP CA "book" f):=kT T.o_Atlas.cls (T.o_Atlas.na _ (by decide)) q z
theorem HA{X:Cx}{O:List Nat}{e:Expr}{f:Ev}{pos:Pos}(T:Txt X.K X.mg)(q:PB X O e f)(z:zaN e "routes" X.env (eval e X.env)=eval e X.env):PD X O (.Attribute e "routes" pos) (dP CA "routes" f):=kT T.o_Atlas.cls (T.o_Atlas.na _ (by decide)) q z
theorem LK{X:Cx}{O:List Nat}{e:Expr}{f:Ev}{pos:Pos}(T:Txt X.K X.mg)(q:PB X O e f)(z:zaN e "spans" X.env (eval e X.env)=eval e X.env):PD X O (.Attribute e "spans" pos) (dP CA "spans" f):=kT T.o_Atlas.cls (T.o_Atlas.na _ (by decide)) q z
local macro_rules | `(tactic|trivial) => `(tactic|first
 | (show PB _ _ _ _;first|(apply vB <;> trivial)|(apply PD.b <;> trivial))
 | (show PD _ _ _ _;first|(apply vD <;> trivial)|(apply wE <;> trivial)|((first|apply VM|apply bS|apply rSl|apply rIt|apply qaK|apply wt|apply YR|apply VC|apply U5|apply qad|apply qao|apply X5|apply YD|apply ZC|apply UF|apply QX|apply OW|apply KL|apply JV|apply QY|apply HA|apply LK|apply rCm|apply U8|apply V4|apply VP|apply SI|apply rJn|apply PF.d) <;> trivial))
 | (show BG _ _ _ _;((first|apply OA|apply qD) <;> trivial))
 | (show wD _ _ _ _;((first|apply EX|apply W7) <;> trivial))
 | (show Len _ _;((first|apply l0|apply lc) <;> trivial))
 | (show lA _ _ _;((first|apply dY|apply kD|apply CZ|apply VJ|apply X4|apply Y6|apply VZ|apply UK|apply T7|apply QE|apply xEq|apply xNe|apply xLt) <;> trivial))
 | (show At _ _ _;first|exact at_ 0|exact at_ 1|exact at_ 2|exact at_ 3|exact at_ 4|exact at_ 5|exact at_ 6|exact at_ 7|exact at_ 8|exact at_ 9|exact at_ 10|exact at_ 11|exact at_ 12)
 | (show uZ _ _ _ _;first|((first|apply qaD|apply tc|apply QU) <;> trivial)|(apply PDW.pt <;> trivial)|(apply RH <;> trivial))
 | (show PDW _ _ _ _;((first|apply QT|apply WQ|apply KJ|apply QA) <;> trivial))
 | (show S9 _ _ _ _;((first|apply JX|apply KQ) <;> trivial))
 | (show PDI _ _ _ _ _;((first|apply CG|apply OG|apply J0|apply Q5|apply JC) <;> trivial))
 | (show BF _ _ _ _;first|(apply gV <;> trivial)|(apply gu 2 <;> trivial)|(apply gu 3 <;> trivial))
 | (show DQ _ _ _ _;((first|apply K3|apply gc) <;> trivial))
 | (show My.DT _ _ _;((first|apply J3|apply JT) <;> trivial))
 | (show PF _ _ _ _;((first|apply wl|apply qaE) <;> trivial))
 | rfl
 | assumption
 | exact Txt.n (by assumption)
 | exact .inl rfl
 | exact .inr rfl
 | exact .inr (.inl rfl)
 | exact .inr (.inr rfl)
 | exact λ_=>rfl
 | exact λ_ _=>rfl
 | (with_unfolding_all rfl)
 | (constructor <;> rfl)
 | exact zaj _
 | (refine zaK ?_ (by assumption);decide))
seal PD PB PF BG wD uZ PDW PDI S9 jA d9 Fn lA zay zaL
def dA:Zt "_law_cell" ["script", "k"] 1 3:=f7 ["script", "k", "near"] 39 λT s z B q=>by exact⟨_,(c0 (aY aN) (c0 (aK 2 (bS dY (by trivial) (PD.b (bS cH (by trivial) (by trivial))))) (c0 (aY (aO (aK 2 (bS dY (by trivial) (PD.b (bS cH (PD.b (bS cH (by trivial) (by trivial))) (by trivial))))))) (aN (bS CZ (PD.b (bS kD (PD.b (bS cH (by trivial) (by trivial))) (by trivial))) (by trivial)))))),rfl⟩
def iQ:Sv:=by exists dA
def bN:=bF 3 iQ
def jL:Zt "_law_price" ["cell"] 1 1:=f7 ["cell"] 41 λT s z B q=>by exact⟨_,(c0 (aY aN) (aN (bS kD (PD.b (bS cH (by trivial) (by trivial))) (by trivial)))),rfl⟩
def jQ:Sv:=by exists jL
def jK:=bF 1 jQ
def rO:Zt "_law_road" ["cell", "M", "j", "k"] 2 6:=f7 ["cell", "M", "j", "k", "a", "b"] 42 λT s z B q=>by have:=fx jK (jL.2 T);exact⟨_,(c0 (aK 4 (bS kD (PD.b (bS cH (by trivial) (by trivial))) (by trivial))) (c0 (aK 5 (bS kD (PD.b (bS dY (by trivial) (PD.b (bS cH (by trivial) (by trivial))))) (by trivial))) (c0 (aY (aO (aK 4))) (c0 (aY (aO (aK 5))) aN)))),rfl⟩
def rM:Sv:=by exists rO
def lD:=bF 6 rM
def pE:Zt "_law_roads" ["script", "M", "many"] 3 9:=f7 ["script", "M", "many", "cell", "roads", "n", "near", "j", "k"] 43 λT s z B q=>by have:=fx bN (dA.2 T);have:=fx lD (rO.2 T);exact⟨_,(c0 (aK 3) (cO [4] (d6 4) (c0 (eI [4] [] (cO [4] (aK 6) (aO (aY (cO [4] (aK 7) (cO [4] (aK 8) (cO [4] (aY (cO [4] (aK 7) (aO (aK 8)))) (aO (kI 4))))))))) aN))),rfl⟩
def pB:Sv:=by exists pE
def jR:=bF 9 pB
def iU:Zt "_law_name" ["cell", "n"] 1 6:=f7 ["cell", "n", "many", "some", "letters", "at"] 40 λT s z B q=>by exact⟨_,(c0 (aK 0) (c0 (aK 2) (c0 (aK 3) (c0 (aY (aO (aK 3))) (cO [4] (d6 4 (eU s ["k", "cell", "some"] [none,some 0,some 3] (by trivial) (by intros;trivial) (by intros;trivial) (λ_ _ _ _=>(bS kD (PD.b (bS dY (PD.b (bS CZ (by trivial) (PD.b (bS dY (by trivial) (PD.b (bS cH (by trivial) (by trivial))))))) (PD.b (bS cH (by trivial) (by trivial))))) (by trivial))))) (c0 (NR (cO [4] (aK 2) (aO (A7 4))) (cO [4] (aK 5) (aO (A7 4)))) (aN (ET (by trivial) (PD.b (PF.d (eU s ["k", "some", "letters"] [none,some 3,some 4]))) (λa b=>(uJ PySem.F.plainAttrs_str PySem.F.slot_str_join PySem.F.type_str_join My.FU a b)))))))))),rfl⟩
def rT:Sv:=by exists iU
def bZ:=bF 6 rT
def oO:Zt "_law_shape" ["cell", "M", "n"] 1 8:=f7 ["cell", "M", "n", "some", "terms", "k", "near", "c"] 44 λT s z B q=>by exact⟨_,(c0 (jZ 3 s ["k"] [none]) (c0 (aY (aO (jZ 3 s ["k"] [none]))) (cO [4] (d6 4) (c0 (eI [4] [] (cO [4] (aK 6 (bS dY (by trivial) (PD.b (bS cH (by trivial) (by trivial))))) (cO [4] (aK 7 (bS kD (PD.b (bS cH (by trivial) (by trivial))) (by trivial))) (aO (aY (aO (kI 4))))))) aN)))),rfl⟩
def pV:Sv:=by exists oO
def jD:=bF 8 pV
def pO:Zt "_law_makes" ["script", "M", "many"] 2 10:=f7 ["script", "M", "many", "cell", "makes", "n", "near", "takes", "name", "shape"] 45 λT s z B q=>by have:=fx bN (dA.2 T);have:=fx bZ (iU.2 T);have:=fx jK (jL.2 T);have:=fx jD (oO.2 T);exact⟨_,(c0 (aK 3) (cO [4] (d6 4) (c0 (eI [4] [] (cO [4] (aK 6) (cO [4] (aK 7) (cO [4] (aY (aO (aK 7))) (cO [4] (aY (aO (aK 7))) (cO [4] (aK 8) (cO [4] (aK 9) (aO (kI 4))))))))) aN))),rfl⟩
def pT:Sv:=by exists pO
def jH:=bF 10 pT
def rW:Zt "_law_book" ["script"] 4 5:=f7 ["script", "cell", "M", "many", "kinds"] 46 λT s z B q=>by have:=fx bN (dA.2 T);have:=fx jH (pO.2 T);have:=fx bZ (iU.2 T);have:=fx jR (pE.2 T);exact⟨_,(c0 (aK 1) (c0 (aK 2 (bS dY (by trivial) (PD.b (bS cH (by trivial) (by trivial))))) (c0 (aY (aO (aK 2 (bS dY (by trivial) (PD.b (bS cH (by trivial) (by trivial))))))) (c0 (aK 3) (c0 (aY (aO (aK 3))) (c0 (aK 4 (XH jW T.n My.boot_tuple (W7 (PD.b (PF.d (eU s ["k", "script"] [none,some 0]))) (by trivial)))) aN)))))),rfl⟩
def rH:Sv:=by exists rW
def lL:=bF 5 rH
def oW:Zt "_law_heads" ["script", "tome", "names"] 2 5:=f7 ["script", "tome", "names", "pairs", "k"] 60 λT s z B q=>by have:=fx bN (dA.2 T);exact⟨_,(cO [3] (d6 3) (c0 (eI [3] [] (aO (kI 3))) aN)),rfl⟩
def pW:Sv:=by exists oW
def jC:=bF 5 pW
def rU:Zt "_law_back" ["tome", "k", "cell"] 1 5:=f7 ["tome", "k", "cell", "way", "some"] 48 λT s z B q=>by exact⟨_,(c0 (aK 3) (c0 (NC [] [] (c0 (jZ 4 s ["n", "tome", "k"] [none,some 0,some 1]) (c0 (aY aN) (c0 (aK 3) (c0 (aK 1) (aO (aK 2))))))) aN)),rfl⟩
def sJ:Sv:=by exists rU
def lE:=bF 5 sJ
def lK:Zt "_law_cost" ["tome", "way"] 1 2:=f7 ["tome", "way"] 49 λT s z B q=>by exact⟨_,(aN (cB (M2 rfl) T.n My.boot_sum (W7 (PD.b (PF.d (eU s ["n", "tome"] [none,some 0]))) (by trivial)))),rfl⟩
def sQ:Sv:=by exists lK
def lJ:=bF 2 sQ
def d3:Zt "_law_leaf" ["tome", "known", "kind", "cell"] 2 10:=f7 ["tome", "known", "kind", "cell", "j", "way", "some", "cost", "name", "n"] 51 λT s q B z=>by have:=fx lE (rU.2 T);have:=fx lJ (lK.2 T);exact⟨_,(c0 (nM (by trivial) (nH (My.t6 (n:=2) rfl (hZ (λa b=>(jU a b)) (mY (gT (i:=4) q rfl (zbK rfl))) (by trivial))))) (c0 (jZ 6 s ["name", "at", "j"] [none,none,some 4]) (c0 (aK 7) (c0 (aY (c0 (aK 8) aN)) (c0 (aK 9 (bS kD (PD.b (bS cH (by trivial) (by trivial))) (by trivial))) aN))))),rfl⟩
def rV:Sv:=by exists d3
def bM:=bF 10 rV
def pM:Zt "_law_begun" ["script", "tome", "names", "pairs"] 3 8:=f7 ["script", "tome", "names", "pairs", "left", "k", "known", "kind"] 61 λT s z B q=>by have:=fx bN (dA.2 T);have:=fx bM (d3.2 T);exact⟨_,(cO [4] (d6 4) (c0 (eI [4] [] (aO (kI 4))) (c0 (aK 6) (c0 (aK 7) aN)))),rfl⟩
def oQ:Sv:=by exists pM
def jI:=bF 8 oQ
def sI:Zt "_law_walk" ["tome", "j", "cell"] 1 5:=f7 ["tome", "j", "cell", "way", "some"] 47 λT s z B q=>by exact⟨_,(c0 (aK 3) (c0 (NC [] [] (c0 (jZ 4 s ["n", "tome", "j"] [none,some 0,some 1]) (c0 (aY aN) (c0 (aK 3) (c0 (aK 1) (aO (aK 2))))))) aN)),rfl⟩
def rZ:Sv:=by exists sI
def lG:=bF 5 rZ
def mM:Zr "_law_behind" ["reading", "way"] 0 3 24:=DL ["reading", "way", "last"] 50 λT R j B ih s z F q=>by exact⟨_,(c0 (aK 2) (c0 (aY aN) aN)),rfl⟩
def eL:(List D->Option D)->Sv:=by exists mM
def mK:=gK 3 eL 24
def iP:Zt "_law_walked" ["tome", "state", "cell"] 26 5:=f7 ["tome", "state", "cell", "kind", "way"] 58 λT s z B q=>by have:=fx mK (mM.2 T);have:=fx lJ (lK.2 T);have:=fx lG (sI.2 T);exact⟨_,(c0 (nM (by trivial) (nH (My.t6 (n:=2) rfl (by trivial)))) aN),rfl⟩
def mP:Sv:=by exists iP
def iN:=bF 5 mP
def sH:Zt "_law_many" ["script"] 2 1:=f7 ["script"] 62 λT s z B q=>by have:=fx bN (dA.2 T);exact⟨_,aN,rfl⟩
def sC:Sv:=by exists sH
def rN:=bF 1 sC
def e8:Zt "_law_over" ["part", "reading", "kind", "states", "cost"] 1 10:=f7 ["part", "reading", "kind", "states", "cost", "parts", "lets", "rounds", "k", "one"] 52 λT s z B q=>by exact⟨_,(c0 (aK 5) (c0 (aK 6) (c0 (aK 7) (c0 (eI [] [] (c0 (aK 9) (c0 (aK 5) (c0 (aK 6) (c0 (aK 7) (aO (aK 4))))))) aN)))),rfl⟩
def rL:Sv:=by exists e8
def aV:=bF 10 rL
def sA:Zt "_law_used" ["tome", "known", "state", "cell"] 3 11:=f7 ["tome", "known", "state", "cell", "some", "v", "at", "make", "row", "part", "reading"] 53 λT s z B q=>by have:=fx bM (d3.2 T);have:=fx aV (e8.2 T);exact⟨_,(cO [4] (d6 4) (c0 (eI [4] [] (aO (eI [4] [4] (aO (aY (aO (kI 4))))))) (c0 (aY aN) (c0 (nM (by trivial) (nH (My.t6 (n:=2) rfl (by trivial)))) (c0 (aK 7) (cO [8] (P3 8 s ["kind", "tome", "known", "cell"] [none,some 0,some 1,some 3]) (c0 (A7 8) (c0 (aK 9 (oH (qD (by trivial) (qD (by trivial) (qD (XH jW T.n My.boot_tuple (W7 (PD.b (PF.d (eU s ["one"] [none]))) (by trivial))) (by trivial)))) (λρ ds h=>(by have:=(lc (lc (lc l0))) ρ ds h;lia)))) (c0 (aK 10 (oH (qD (by trivial) (qD (by trivial) (qD (XH jW T.n My.boot_tuple (W7 (PD.b (PF.d (eU s ["one"] [none]))) (by trivial))) (by trivial)))) (λρ ds h=>(by have:=(lc (lc (lc (lc l0)))) ρ ds h;lia)))) aN))))))))),rfl⟩
def sT:Sv:=by exists sA
def lC:=bF 11 sT
def mJ:Zt "_law_closed" ["tome", "known", "state", "pair", "cell"] 3 12:=f7 ["tome", "known", "state", "pair", "cell", "name", "j", "one", "row", "reading", "n", "part"] 57 λT s z B q=>by have:=fx bM (d3.2 T);have:=fx aV (e8.2 T);exact⟨_,(c0 (nM (by trivial) (nH (My.t6 (n:=2) rfl (by trivial)))) (c0 (aK 7) (c0 (aK 8) (c0 (aY (c0 (aK 9) aN)) (c0 (aK 10) (c0 (aK 11) aN)))))),rfl⟩
def mH:Sv:=by exists mJ
def iL:=bF 12 mH
def mQ:Zt "_law_picked" ["tome", "known", "state", "cell"] 3 9:=f7 ["tome", "known", "state", "cell", "at", "c", "k", "row", "part"] 54 λT s z B q=>by have:=fx bM (d3.2 T);have:=fx aV (e8.2 T);exact⟨_,(c0 (aK 4) (c0 (aK 5) (c0 (aK 6) (c0 (NR (aO (aK 6)) (aO (aK 5))) (cO [7] (d6 7) (cO [7] (kI 7) (c0 (A7 7) (c0 (aK 8) aN)))))))),rfl⟩
def mN:Sv:=by exists mQ
def iK:=bF 9 mN
def mI:Zt "_law_around" ["tome", "known", "state", "name", "cell"] 3 9:=f7 ["tome", "known", "state", "name", "cell", "k", "n", "two", "part"] 55 λT s z B q=>by have:=fx bM (d3.2 T);have:=fx aV (e8.2 T);exact⟨_,(c0 (aK 5) (c0 (aK 6) (c0 (aK 7) (c0 (aK 8) aN)))),rfl⟩
def mO:Sv:=by exists mI
def mL:=bF 9 mO
def oV:Zt "_law_named" ["tome", "known", "state", "name", "cell"] 3 8:=f7 ["tome", "known", "state", "name", "cell", "k", "two", "reading"] 56 λT s z B q=>by have:=fx bM (d3.2 T);have:=fx aV (e8.2 T);exact⟨_,(c0 (aK 5) (c0 (aK 6) (c0 (aK 7) aN))),rfl⟩
def pR:Sv:=by exists oV
def pI:=bF 8 pR
def lM:Zt "_law_step" ["tome", "names", "now", "cell"] 27 9:=f7 ["tome", "names", "now", "cell", "state", "left", "known", "rest", "most"] 59 λT s q B z=>by have:=fx mL (mI.2 T);have:=fx iL (mJ.2 T);have:=fx pI (oV.2 T);have:=fx iK (mQ.2 T);have:=fx lC (sA.2 T);have:=fx iN (iP.2 T);exact⟨_,(c0 (nM (by trivial) (nH (My.t6 (n:=3) rfl (hZ (λa b=>(jU a b)) (by trivial) (hZ (λa b=>(jU a b)) (mY (gT (i:=5) q rfl (zbK rfl))) (by trivial)))))) (c0 (aY (c0 (jZ 7 s ["pair", "left"] [none,some 5]) aN)) (c0 (aK 4) (c0 (aK 8) (c0 (aY (aO (aK 8))) (c0 (NR (aO (aK 4)) (aO (NR (aO (aK 4)) (aO (NR (aO (aK 4)) (aO (aY (aO (aK 4))))))))) aN)))))),rfl⟩
def sR:Sv:=by exists lM
def iR:=bF 9 sR
def pJ:Zt "_law_grown" ["script", "tome", "names", "pairs"] 28 6:=f7 ["script", "tome", "names", "pairs", "now", "k"] 63 λT s B q z=>by have:=fx jI (pM.2 T);have:=fx bN (dA.2 T);have:=fx rN (sH.2 T);have:=fx iR (lM.2 T);have:=fx iN (iP.2 T);exact⟨_,(c0 (aK 4) (c0 (eI [] [] (aO (aK 4))) (c0 (NC [] [] (aO (aK 4 (cD (fx iR (lM.2 T)) (q.mono (by decide)) (qD (by trivial) (qD (by trivial) (qD (by trivial) (qD (bS dY (by trivial) (PD.b (bS cH (by trivial) (by trivial)))) (by trivial))))) (lc (lc (lc (lc l0)))))))) aN))),rfl⟩
def oP:Sv:=by exists pJ
def jF:=bF 6 oP
def pA:Zt "choice_of" ["reading"] 1 1:=f7 ["reading"] 14 λT s z B q=>by exact⟨_,(c0 (aY aN) (c0 (aY aN) aN)),rfl⟩
def c7:Sv:=by exists pA
def jO:=bF 1 c7
def kO:Zt "choices" ["book", "part"] 1 2:=f7 ["book", "part"] 10 λT s z B q=>by exact⟨_,(c0 (aY (aN (PF.d (eU s ["v", "make", "part"] [none,none,some 1])))) (c0 (aY (aN (PF.d (J8 rfl (by rfl) T.n (by rfl) T.n (by trivial) rfl)))) aN)),rfl⟩
def eE:Sv:=by exists kO
def eG:=bF 2 eE
def kW:Zt "inner_kinds" ["book", "part", "kind", "choice"] 1 4:=f7 ["book", "part", "kind", "choice"] 11 λT s z B q=>by exact⟨_,(c0 (aY aN) (c0 (aY aN) (c0 (aY aN) (c0 (aY aN) aN)))),rfl⟩
def bY:Sv:=by exists kW
def bP:=bF 4 bY
def gY:Zt "name_within" ["part", "number"] 1 2:=f7 ["part", "number"] 5 λT s z B q=>by exact⟨_,(c0 (aY aN) (c0 (aY aN) (c0 (aY aN) aN))),rfl⟩
def bJ:Sv:=by exists gY
def cN:=bF 2 bJ
def kX:Zt "inner_heads" ["heads", "part", "number", "choice"] 2 6:=f7 ["heads", "part", "number", "choice", "x", "more"] 12 λT s B q z=>by have:=fx cN (gY.2 T);exact⟨_,(c0 (aK 4) (c0 (aY aN) (cO [5] (d6 5 (qd (nD rfl q.units) T.n My.boot_dict (by trivial))) (c0 (A7 5) aN)))),rfl⟩
def fH:Sv:=by exists kX
def dD:=bF 6 fH
def qW:Zt "spots" ["atlas", "node", "heads", "kind", "choice"] 3 9:=f7 ["atlas", "node", "heads", "kind", "choice", "kinds", "places", "number", "one"] 27 λT s z B q=>by have:=fx dD (kX.2 T);have:=fx bP (kW.2 T);exact⟨_,(c0 (aK 5) (cO [6] (d6 6) (c0 (eI [6] [] (aO (kI 6))) aN))),rfl⟩
def E5:Sv:=by exists qW
def gS:=bF 9 E5
def hV:Zt "inner_readings" ["reading"] 1 1:=f7 ["reading"] 15 λT s z B q=>by exact⟨_,(c0 (aY aN) (c0 (aY aN) (c0 (aY aN) (c0 (aY aN) aN)))),rfl⟩
def bO:Sv:=by exists hV
def eZ:=bF 1 bO
def AL:Zt "joined" ["numbers", "many"] 1 5:=f7 ["numbers", "many", "n", "number", "size"] 35 λT s z B q=>by exact⟨_,(c0 (aK 2) (c0 (eI [] [] (aO (aK 2 (bS dY (PD.b (bS cH (by trivial) (by trivial))) (by trivial))))) aN)),rfl⟩
def AI:Sv:=by exists AL
def tM:=bF 5 AI
def fW:Zt "way_begins" ["book", "heads", "part", "kind", "choice"] 1 5:=f7 ["book", "heads", "part", "kind", "choice"] 13 λT s z B q=>by exact⟨_,(c0 (aY aN) (c0 (aY aN) (c0 (aY aN) aN))),rfl⟩
def cE:Sv:=by exists fW
def bC:=bF 5 cE
def zO:Zt "way_of" ["reading"] 1 1:=f7 ["reading"] 16 λT s z B q=>by exact⟨_,aN,rfl⟩
def fO:Sv:=by exists zO
def sX:=bF 1 fO
def eA:Zt "number_in" ["total"] 1 1:=f7 ["total"] 28 λT s z B q=>by exact⟨_,aN,rfl⟩
def yN:Sv:=by exists eA
def cZ:=bF 1 yN
def zM:Zt "either" ["one", "other"] 1 2:=f7 ["one", "other"] 24 λT s z B q=>by exact⟨_,(c0 (aY aN) aN),rfl⟩
def AR:Sv:=by exists zM
def nB:=bF 2 AR
def M1:Zt "both" ["one", "other"] 1 2:=f7 ["one", "other"] 23 λT s z B q=>by exact⟨_,(c0 (aY aN) (aN (oH (qD (bS cH (by trivial) (by trivial)) (by trivial)) (λρ ds h=>(by have:=(lc (lc l0)) ρ ds h;lia))))),rfl⟩
def MI:Sv:=by exists M1
def MC:=bF 2 MI
abbrev Zv(x:Str)(ps:List Str)(k n:Nat):Type:={b:(List D->Option D)->Sv // ∀ {P:zah} {w:World} {K:zae} {mg:Str->Option Value} {base:Heap},Tx P w K mg base->∀(R:List D->Option D) (j:Nat),k<=j->Fn P w K mg base "sum_at" j ["atlas", "node", "heads", "kind"] R->Fn P w K mg base x (j+1) ps (bF n (b R))}
def ZJ(N:List Str)(i:Nat){x:Str}{ps:List Str}{k:Nat}{b:(List D->Option D)->Sv}(h:∀ {P:zah} {w:World} {K:zae} {mg:Str->Option Value} {base:Heap} {B:Addr} {z:Value} {A:zan} {q:List Env} {H:Hp} {E:XK} (T:Tx P w K mg base) (R:List D->Option D) (j:Nat) (G:k<=j) (ih:Fn P w K mg base "sum_at" j ["atlas", "node", "heads", "kind"] R) (s:zab) (nd:N.Nodup) (F:Room (j) (A.deeper (zaM x (aM (top i)) s.heap.objs.size B z))) (hu:(A.deeper (zaM x (aM (top i)) s.heap.objs.size B z)).units+1<cLine),∃g,d9 (i8 u3 P w K mg base N x (aM (top i)) B z A q s H E).nox ⟨[],[]⟩ [] (bQ (top i)) g []/\g=b R)(J:(x,i,ps)∈tab:=by decide +kernel)(sc:FnScope N ps (aM (top i)):=by exact⟨rfl,rfl,rfl,by decide +kernel,rfl,by decide +kernel,by decide +kernel⟩):Zv x ps k N.length:=⟨b,λT R j G ih=>A4 (T.d _ J) sc λB z A q s H E F=>h T R j G ih s sc.nd F (pX F)⟩
local macro_rules | `(tactic|exists $x:ident) => `(tactic|(refine' (?f:∀y:(List D -> Option D) -> Sv, zc4 $x = y -> (List D -> Option D) -> Sv) _ ?h;(case h => unfold $x;(try unfold ZJ);(try unfold DL);(try dsimp only);try exact rfl);(case f => exact λy _ => y)))
def fX:Zv "choice_sum" ["atlas", "node", "heads", "kind", "choice"] 3 10:=ZJ ["atlas", "node", "heads", "kind", "choice", "own_price", "total", "one", "known", "at"] 26 λT R j B ih s z F q=>by have:=fx MC (M1.2 T);have:=fx gS (qW.2 T);have:=fx bC (fW.2 T);exact⟨_,(c0 (aK 5) (c0 (aK 6) (c0 (eI [] [] (aO (aY (aO (aK 6))))) aN))),rfl⟩
def cC:(List D->Option D)->Sv:=by exists fX
abbrev Zw(x:Str)(ps:List Str)(k n m:Nat):Type:={b:(List D->Option D)->Sv // ∀ {P:zah} {w:World} {K:zae} {mg:Str->Option Value} {base:Heap},Tx P w K mg base->Fn P w K mg base x (k+2*m+1) ps (gK n b m)}
def R0(N:List Str)(i:Nat){x:Str}{ps:List Str}{k m:Nat}{b:(List D->Option D)->Sv}(h:∀ {P:zah} {w:World} {K:zae} {mg:Str->Option Value} {base:Heap} {fa:Addr} {cdv:Value} {A:zan} {outer:List Env} {H:Hp} {E:XK} (T:Tx P w K mg base) (R:List D->Option D) (j:Nat) (hj:k<=j) (hj1:k<=j+1) (ih:Fn P w K mg base x j ps R) (s:zab) (nd:N.Nodup) (hr:Room (j+1) (A.deeper (zaM x (aM (top i)) s.heap.objs.size fa cdv))) (hu:(A.deeper (zaM x (aM (top i)) s.heap.objs.size fa cdv)).units+1<cLine),∃g,d9 (i8 u3 P w K mg base N x (aM (top i)) fa cdv A outer s H E).nox ⟨[],[]⟩ [] (bQ (top i)) g []/\g=b R)(me:(x,i,ps)∈tab:=by decide +kernel)(sc:FnScope N ps (aM (top i)):=by exact⟨rfl,rfl,rfl,by decide +kernel,rfl,by decide +kernel,by decide +kernel⟩):Zw x ps k N.length m:=⟨b,λT=>by
 induction m with
 | zero=>exact D8 (T.d _ me) sc
 | succ m ih=>exact A4 (T.d _ me) sc λfa cdv A outer s H E hr=>h T _ (k+2*m+1) (by lia) (by lia) ih s sc.nd hr (pX hr)⟩
local macro_rules | `(tactic|exists $x:ident) => `(tactic|(refine' (?f:∀y:(List D -> Option D) -> Sv, zc4 $x = y -> (List D -> Option D) -> Sv) _ ?h;(case h => unfold $x;(try unfold R0);(try unfold DL);(try dsimp only);try exact rfl);(case f => exact λy _ => y)))
def iC:Zw "sum_at" ["atlas", "node", "heads", "kind"] 3 7 16:=R0 ["atlas", "node", "heads", "kind", "key", "total", "choice"] 25 λT R j B z ih s G F J=>by have:=fx eG (kO.2 T);have:=fx nB (zM.2 T);have q:=fx (bF 10 (cC R)) (fX.2 T R j B ih);exact⟨_,(c0 (aK 4 (oH (qD (by trivial) (qD (XH jW T.n My.boot_tuple (W7 (PD.b (PF.d (eU s ["x", "heads"] [none,some 2]))) (by trivial))) (by trivial))) (λρ ds h=>(by have:=(lc (lc l0)) ρ ds h;lia)))) (K4 1 4 5 T.o_Node.cls (T.o_Node.na _ (by decide)) (hu2 F) (aK 5) (eI [] [] (aO (aK 5))) (pv 1) (pv 1) (pv 1) (pv 4) (pv 4) (pv 4) (pv 5) (λ_ _=>rfl))),rfl⟩
def iB:(List D->Option D)->Sv:=by exists iC
def cG:=gK 7 iB 16
def eM:=bF 10 (cC cG)
def w6:Zt "sizes" ["atlas", "places", "routes"] 37 3:=f7 ["atlas", "places", "routes"] 33 λT s z B q=>by have:=fx cZ (eA.2 T);have:=fx cG (iC.2 T);exact⟨_,(aN (bS dY (PD.b (PF.d (eU s ["one", "known", "at", "atlas"] [none,none,none,some 0]))) (by trivial))),rfl⟩
def FG:Sv:=by exists w6
def nN:=bF 3 FG
def jE:Zr "number_at" ["atlas", "node", "heads", "kind", "reading"] 37 13 16:=DL ["atlas", "node", "heads", "kind", "reading", "chosen", "n", "choice", "places", "routes", "numbers", "one", "spot"] 37 λT R j G ih s B q z=>by have:=fx jO (pA.2 T);have:=fx eM (fX.2 T cG _ (by decide) (fx cG (iC.2 T)));have:=fx eG (kO.2 T);have:=fx eZ (hV.2 T);have:=fx tM (AL.2 T);have:=fx cZ (eA.2 T);have:=fx nN (w6.2 T);have:=fx gS (qW.2 T);have:=fx bC (fW.2 T);have:=fx sX (zO.2 T);exact⟨_,(c0 (aK 5) (c0 (aK 6) (c0 (eI [] [] (aO (aY (aO (aK 6))))) (c0 (aK 8) (c0 (aK 9) (cO [10] (d6 10) (cO [10] (eI [10] [10] (aO (kI 10))) (c0 (kI 10 (KD q.units (by trivial) (by trivial) (λm h k=>(uJ zc1 PySem.F.slot_list_index PySem.F.type_list_index m h k)))) aN)))))))),rfl⟩
def c8:(List D->Option D)->Sv:=by exists jE
def jN:=gK 13 c8 16
def ME:Zr "ways" ["book", "j", "k"] 0 6 8:=DL ["book", "j", "k", "told", "number", "road"] 7 λT R j B ih s q G z=>by exact⟨_,(c0 (aY aN) (cO [3] (d6 3) (c0 (eI [3] [] (aO (aY (aO (rY (i:=3) (pv 3) (PF.d (eU s ["way", "number"] [none,some 4])) rfl (uJ zc1 PySem.F.slot_list_extend PySem.F.type_list_extend My.sP (pv 3) (cK (PD.pe (PF.d (eU s ["way", "number"] [none,some 4]))) fD)))))) (by trivial) (E8 (DF (n:=2) rfl (hZ (λa b=>(jU a b)) (mY (gT (i:=4) q rfl (zbK rfl))) (by trivial))))) aN))),rfl⟩
def lX:(List D->Option D)->Sv:=by exists ME
def gZ:=gK 6 lX 8
def pD:Zt "way_price" ["book", "way"] 1 2:=f7 ["book", "way"] 8 λT s z B q=>by exact⟨_,(aN (cB (M2 rfl) T.n My.boot_sum (W7 (PD.b (PF.d (eU s ["number", "book"] [none,some 0]))) (by trivial)))),rfl⟩
def pP:Sv:=by exists pD
def jM:=bF 2 pP
def lB:Zt "ways_sum" ["book", "routes"] 2 3:=f7 ["book", "routes", "prices"] 22 λT s z B q=>by have:=fx jM (pD.2 T);exact⟨_,(c0 (jZ 2 s ["way", "book"] [none,some 0]) (aN (SI (by trivial) (oH (qD (by trivial) (qD (cB (JQ rfl) T.n My.boot_min (by trivial)) (by trivial))) (λρ ds h=>(by have:=(lc (lc l0)) ρ ds h;lia))) (by trivial)))),rfl⟩
def rR:Sv:=by exists lB
def cP:=bF 3 rR
theorem sc_Atlas:FnScope ["self", "book", "j", "k"] ["self", "book"] (aM (inClass (top 21) 0)):=⟨rfl,rfl,rfl,by decide +kernel,rfl,by decide +kernel,by decide +kernel⟩
def gA(bk:D):Option (List D):=(lR b8 (aB (aQ gM (aB (a7 aJ (aD 1) (eC (.int 1))) aW)) aW)) [none,some bk]
theorem tO{P:zah}{w:World}{K:zae}{mg:Str->Option Value}{base:Heap}(T:Tx P w K mg base):MkO P w K mg base 10 "Atlas" CA "book" (λ_=>tZ CA gA gZ cP):=T.o_Atlas.mko sc_Atlas λN B A q s H E J vs Q hsp=>by
  have M:=pX J;have G:=sc_Atlas.nd;have:=fx gZ (ME.2 T);have:=fx cP (lB.2 T);rw[MM hsp];exact B6 (X:=(i8 u3 P w K mg base ["self", "book", "j", "k"] "Atlas.__init__" (aM (inClass (top 21) 0)) N B A q s H E).nox) (f1:=(lR b8 (aB (aQ gM (aB (a7 aJ (aD 1) (eC (.int 1))) aW)) aW))) (f2:=(lR b8 (aB (aQ gM (aB (a7 aJ (aD 1) (eC (.int 1))) aW)) aW))) (fk:=(eY (aB (aD 2) (aB (aD 3) aW)))) (fv:=(aQ gZ (aB (aD 1) (aB (aD 2) (aB (aD 3) aW))))) (fe:=aD 1) T.o_Atlas.cls T.o_Atlas.na (fx cP (lB.2 T)) rfl (J.mono (by decide)) rfl M zeh rfl (pv 0) (pv 0) (pv 0) (pv 0) (pv 0) (pv 0) (tY 1 (pv 1) (by decide)) (by trivial) (by trivial) (gT (i:=2) G rfl (zaZ rfl)) (gT (i:=3) G rfl (zaZ rfl)) (by trivial) (by trivial) (by trivial) (by trivial) (tY 1 (pv 1) (by decide)) (λ_ _=>rfl)
   (λh=>by have e:=qA h;have z:∀bk:D,aD 1 [none,some bk]=some bk:=λ_=>rfl;simp only[gA,lR,aQ,aB,a7,e,z];rfl) (λh=>by have e:=qA h;have z:∀bk:D,aD 1 [none,some bk]=some bk:=λ_=>rfl;simp only[gA,lR,aQ,aB,a7,e,z];rfl) (λh h'=>by have e:=qA h;have F:=qA h';simp only[eY,aB,aW,e,F];rfl) (λh h' h2=>by have e:=qA h;have F:=qA h';have z:=qA h2;simp only[aQ,aB,aW,e,F,z];rfl) (λh=>qA h) (hsp:=hsp)
def iI:Zt "names_used" ["part", "below"] 2 6:=f7 ["part", "below", "names", "number", "node", "hidden"] 20 λT s G M J=>by have:=fx cN (gY.2 T);exact⟨_,(c0 (aY aN) (cO [2] (d6 2) (c0 (eI [2] [] (cO [2] (aK 5) (aO (rY (i:=2) (pv 2) (PF.d (zW (N:=["x", "hidden", "names"]) (ms:=[none,some 5,some 2]) (t:=0) (Oi:=[2]) rfl (EE rfl rfl (E9 (n:=s.heap.objs.size+1) rfl)) ⟨⟨rfl,rfl,zaZ rfl⟩,⟨⟨rfl,rfl,zaZ rfl⟩,trivial⟩⟩ rfl (by decide) (by decide) (by trivial) (λ_ _ _ _=>(gT (i:=0) (show(["x", "hidden", "names"]:List Str).Nodup from by decide) rfl (zaZ rfl))) (λB z H1 q=>(by trivial)) (λB z H1 q=>(by trivial)))) rfl (uJ zc1 PySem.F.slot_list_extend PySem.F.type_list_extend My.sP (pv 2) (cK (PD.pe (PF.d (zW (N:=["x", "hidden", "names"]) (ms:=[none,some 5,some 2]) (t:=0) (Oi:=[2]) rfl (EE rfl rfl (E9 (n:=s.heap.objs.size+1) rfl)) ⟨⟨rfl,rfl,zaZ rfl⟩,⟨⟨rfl,rfl,zaZ rfl⟩,trivial⟩⟩ rfl (by decide) (by decide) (by trivial) (λ_ _ _ _=>(gT (i:=0) (show(["x", "hidden", "names"]:List Str).Nodup from by decide) rfl (zaZ rfl))) (λB z H1 q=>(by trivial)) (λB z H1 q=>(by trivial))))) fD)))))) aN))),rfl⟩
def iJ:Sv:=by exists iI
def eN:=bF 6 iJ
def w8:Zt "inner" ["part"] 1 1:=f7 ["part"] 4 λT s z B q=>by exact⟨_,(c0 (aY aN) (c0 (aY aN) (c0 (aY aN) (c0 (aY aN) aN)))),rfl⟩
def gR:Sv:=by exists w8
def iV:=bF 1 gR
theorem sc_Node:FnScope ["self", "part"] ["self", "part"] (aM (inClass (top 19) 0)):=⟨rfl,rfl,rfl,by decide +kernel,rfl,by decide +kernel,by decide +kernel⟩
def qB:Nat->D->D->Option D
 | 0,_=>λ_=>none
 | m+1,b=>FW CN (dS [none] (fU (aQ iV (aB (aD 1) aW))) (aR 0) fQ (eNew (qB m) (λ_=>some b) (aD 0))) eN (DM b) (FF b)
theorem qP{P:zah}{w:World}{K:zae}{mg:Str->Option Value}{base:Heap}(T:Tx P w K mg base):∀m,MkO P w K mg base (3+2*m) "Node" CN "part" (qB m)
 | 0=>T.o_Node.mko sc_Node λF z A q s H E B vs Q hsp=>by
  obtain⟨_,_,_,_,_,_,_,_,_,_,_,_,_,_,_,h,_⟩:=hsp;cases h
 | m+1=>T.o_Node.mko (k:=3+2*m+1) sc_Node λF z A q s H E B vs Q hsp=>by
  have J:=pX B;have G:=sc_Node.nd;have M:3<=3+2*m+1:=(by lia);have:=fx iV (w8.2 T);have:=fx eN (iI.2 T);rw[QM hsp rfl];exact IE (X:=(i8 u3 P w K mg base ["self", "part"] "Node.__init__" (aM (inClass (top 19) 0)) F z A q s H E).nox) (fb:=λb=>(dS [none] (fU (aQ iV (aB (aD 1) aW))) (aR 0) fQ (eNew (qB m) (λ_=>some b) (aD 0)))) T.o_Node.cls T.o_Node.na (fx eN (iI.2 T)) rfl (B.mono (by lia)) rfl (pv 0) (pv 0) (pv 0) (pv 0) (pv 0) (tY 1 (pv 1) (by decide)) (λb=>by exact(PF.d (eU s ["one"] [none] (by trivial) (by intros;trivial) (by intros;trivial) (λ_ _ _ _=>(lY (β:=λ_=>some b) (qP T m) (B.mono (by lia)) rfl (by trivial)))))) (tY 1 (pv 1) (by decide)) (hsp:=hsp)
def pS:Zt "number_of" ["book", "heads", "part", "kind", "reading"] 55 5:=f7 ["book", "heads", "part", "kind", "reading"] 36 λT s B q z=>by have:=fx jN (jE.2 T);exact⟨_,(aN (cD (fx jN (jE.2 T)) (q.mono (by decide)) (qD (lY (β:=eC .non) (tO T) (q.mono (by decide)) rfl (by trivial)) (qD (lY (β:=aD 0) (qP T 16) (q.mono (by decide)) rfl (by trivial)) (qD (PF.d (qd (nD rfl q.units) T.n My.boot_dict (by trivial))) (by trivial)))) (lc (lc (lc (lc (lc l0))))))),rfl⟩
def pG:Sv:=by exists pS
def pK:=bF 5 pG
def AK:Zt "parted" ["n", "many"] 1 5:=f7 ["n", "many", "numbers", "rest", "size"] 34 λT s z B q=>by exact⟨_,(cO [2] (d6 2) (cO [2] (aK 3) (c0 (eI [2] [] (cO [2] (CB (i:=2) (pv 2) (by trivial) (by trivial) rfl (uJ zc1 PySem.F.slot_list_insert PySem.F.type_list_insert My.HN (pv 2) (cK (PD.pe (by trivial)) (cK (PD.pe (by trivial)) fD)))) (aO (aK 3 (bS Q3 (by trivial) (by trivial)))))) aN))),rfl⟩
def zS:Sv:=by exists AK
def sW:=bF 5 zS
def pC:Zt "assembled" ["part", "choice", "readings", "way"] 2 4:=f7 ["part", "choice", "readings", "way"] 17 λT s z B q=>by have:=fx iV (w8.2 T);exact⟨_,(c0 (aY aN) (c0 (aY aN) aN)),rfl⟩
def fL:Sv:=by exists pC
def gP:=bF 4 fL
abbrev Zv1(x:Str)(ps:List Str)(k n:Nat):Type:={b:(List D->Option D)->Sv // ∀ {P:zah} {w:World} {K:zae} {mg:Str->Option Value} {base:Heap},Tx P w K mg base->∀(R:List D->Option D) (j:Nat),k<=j->Fn P w K mg base "told_at" j ["atlas", "node", "heads", "kind", "n"] R->Fn P w K mg base x (j+1) ps (bF n (b R))}
def SO(N:List Str)(i:Nat){x:Str}{ps:List Str}{k:Nat}{b:(List D->Option D)->Sv}(h:∀ {P:zah} {w:World} {K:zae} {mg:Str->Option Value} {base:Heap} {B:Addr} {z:Value} {A:zan} {q:List Env} {H:Hp} {E:XK} (T:Tx P w K mg base) (R:List D->Option D) (j:Nat) (G:k<=j) (ih:Fn P w K mg base "told_at" j ["atlas", "node", "heads", "kind", "n"] R) (s:zab) (nd:N.Nodup) (F:Room (j) (A.deeper (zaM x (aM (top i)) s.heap.objs.size B z))) (hu:(A.deeper (zaM x (aM (top i)) s.heap.objs.size B z)).units+1<cLine),∃g,d9 (i8 u3 P w K mg base N x (aM (top i)) B z A q s H E).nox ⟨[],[]⟩ [] (bQ (top i)) g []/\g=b R)(J:(x,i,ps)∈tab:=by decide +kernel)(sc:FnScope N ps (aM (top i)):=by exact⟨rfl,rfl,rfl,by decide +kernel,rfl,by decide +kernel,by decide +kernel⟩):Zv1 x ps k N.length:=⟨b,λT R j G ih=>A4 (T.d _ J) sc λB z A q s H E F=>h T R j G ih s sc.nd F (pX F)⟩
local macro_rules | `(tactic|exists $x:ident) => `(tactic|(refine' (?f:∀y:(List D -> Option D) -> Sv, zc4 $x = y -> (List D -> Option D) -> Sv) _ ?h;(case h => unfold $x;(try unfold SO);(try unfold DL);(try unfold R0);(try dsimp only);try exact rfl);(case f => exact λy _ => y)))
def kY:Zv1 "told_choice" ["atlas", "node", "heads", "kind", "choice", "n"] 37 12:=SO ["atlas", "node", "heads", "kind", "choice", "n", "places", "routes", "numbers", "readings", "number", "spot"] 32 λT R j B ih s z F q=>by have:=fx gP (pC.2 T);have:=fx sW (AK.2 T);have:=fx nN (w6.2 T);have:=fx gS (qW.2 T);have:=fx bC (fW.2 T);exact⟨_,(c0 (aK 6) (c0 (aK 7) (c0 (aK 8) (cO [9] (d6 9) (c0 (eI [9] [] (aO (kI 9))) aN))))),rfl⟩
def fG:(List D->Option D)->Sv:=by exists kY
def n9:Zw "told_at" ["atlas", "node", "heads", "kind", "n"] 37 8 16:=R0 ["atlas", "node", "heads", "kind", "n", "rest", "choice", "many"] 31 λT R j B z ih s F J G=>by have:=fx eM (fX.2 T cG _ (by decide) (fx cG (iC.2 T)));have:=fx eG (kO.2 T);have:=fx cZ (eA.2 T);have q:=fx (bF 12 (fG R)) (kY.2 T R j B ih);exact⟨_,(c0 (aK 5) (c0 (eI [] [] (c0 (aK 7) (c0 (aY aN) (aO (aK 5))))) ZO)),rfl⟩
def fB:(List D->Option D)->Sv:=by exists n9
def oB:=gK 8 fB 16
def LX:Zt "told" ["book", "heads", "part", "kind", "n"] 71 5:=f7 ["book", "heads", "part", "kind", "n"] 30 λT s B q z=>by have:=fx oB (n9.2 T);exact⟨_,(c0 Y9 (aN (cD (fx oB (n9.2 T)) (q.mono (by decide)) (qD (lY (β:=eC .non) (tO T) (q.mono (by decide)) rfl (by trivial)) (qD (lY (β:=aD 0) (qP T 16) (q.mono (by decide)) rfl (by trivial)) (qD (PF.d (qd (nD rfl q.units) T.n My.boot_dict (by trivial))) (by trivial)))) (lc (lc (lc (lc (lc l0)))))))),rfl⟩
def MK:Sv:=by exists LX
def M6:=bF 5 MK
def oU:Zt "_law_whole" ["found"] 1 1:=f7 ["found"] 64 λT s z B q=>by exact⟨_,aN,rfl⟩
def oR:Sv:=by exists oU
def oN:=bF 1 oR
def AF:Zt "counts" ["book", "heads", "part"] 37 5:=f7 ["book", "heads", "part", "atlas", "node"] 29 λT s B q z=>by have:=fx cZ (eA.2 T);have:=fx cG (iC.2 T);exact⟨_,(c0 (aK 3 (lY (β:=eC .non) (tO T) (q.mono (by decide)) rfl (by trivial))) (c0 (aK 4 (lY (β:=aD 0) (qP T 16) (q.mono (by decide)) rfl (by trivial))) (aN (PF.d (eU s ["kind", "atlas", "node", "heads"] [none,some 3,some 4,some 1] (by trivial) (by intros;trivial) (by intros;trivial) (λ_ _ _ _=>(cD (fx cZ (eA.2 T)) (q.mono (by decide)) (qD (cD (fx cG (iC.2 T)) (q.mono (by decide)) (qD (by trivial) (qD (by trivial) (qD (PF.d (qd (nD rfl q.units) T.n My.boot_dict (by trivial))) (by trivial)))) (lc (lc (lc (lc l0))))) (by trivial)) (lc l0)))))))),rfl⟩
def AN:Sv:=by exists AF
def zH:=bF 5 AN
def S0:{b:Sv // ∀ {P:zah} {w:World} {K:zae} {mg:Str->Option Value} {base:Heap},Tx P w K mg base->ZOk P w K mg base ["script", "tome", "names", "pairs", "state", "handed", "n", "found"] "law" s_law 71 b}:=⟨_,λT J z A q s H E B=>by have G:=pX B;have F:=sc_law.nd;have:=fx zH (AF.2 T);have:=fx lL (rW.2 T);have:=fx bN (dA.2 T);have:=fx jF (pJ.2 T);have:=fx jC (oW.2 T);have:=fx bZ (iU.2 T);have:=fx oN (oU.2 T);have:=fx pK (pS.2 T);have:=fx M6 (LX.2 T);exact⟨_,(c0 (aK 1) (c0 (jZ 2 s ["k", "script"] [none,some 0]) (c0 (aK 3) (c0 (aK 4) (c0 (aK 5) (c0 (aK 6) (c0 (aY aN) (c0 (aK 7) (c0 (aY aN) aN))))))))),rfl⟩⟩
def M9:Sv:=by exists S0
theorem dI(ns:List Int):∃f:Int->Int,∀k:Int,0<=k->k<=1000->bN [.lst (ns.map .int),.int k]=some (.int (f k))/\0<=f k/\f k<10^60:=by
 have h:∀k:Int,∃c:Int,0<=k->k<=1000->bN [.lst (ns.map .int),.int k]=some (.int c)/\0<=c/\c<10^60:=λk=>by
  by_cases M:0<=k
  ·by_cases h1:k<=1000
   ·by_cases B:k<(ns.length:Int)
    ·obtain⟨c,F,_⟩:=gD M B
     have c0:=zau c (show(10^60:Int)≠0 by decide +kernel);have J:=zaw c (show(0:Int)<10^60 by decide +kernel);refine⟨c%10^60,λ_ _=>⟨aG ?_,c0,J⟩⟩;simp_all[iQ,aE,B,F,NE,bT]
    ·have fin:∀y:Int,(0<=y%2147483647/11)/\y%2147483647/11<10^60:=λy=>by
      have a:=zau y (show(2147483647:Int)≠0 by decide);have b:=zaw y (show(0:Int)<2147483647 by decide);generalize y%2147483647=z at a b;have:(10:Int)^60=1000000000000000000000000000000000000000000000000000000000000:=by decide +kernel
      lia
     have m1:cR (.int k) (.int k)=some (.int (k*k)):=b9 (by lia) (by lia) (by lia) (by lia);have N:=C6 (show -(10000:Int)<k by lia) (show k<10000 by lia) (show -(10000:Int)<k by lia) (show k<10000 by lia);generalize k*k=p at m1 N;by_cases G:(0:Int)<(ns.length:Int)
     ·have q:0<ns.length:=by lia
      have m5:cR (.int 5) (.int k)=some (.int (5*k)):=b9 (by decide +kernel) (by decide +kernel) (by lia) (by lia);have W:=zau k (zaT G);have U:=zaw k G;obtain⟨c,F,_⟩:=gD W U;have c0:=zau c (show(1000003:Int)≠0 by decide);have J:=zaw c (show(0:Int)<1000003 by decide);generalize hx:c%1000003=x at c0 J;have m3:cR (.int (5*k)) (.int x)=some (.int (5*k*x)):=b9 (by lia) (by lia) (by lia) (by lia);have Y:=C6 (show -(100000:Int)<5*k by lia) (show 5*k<100000 by lia) (show -(1000000000:Int)<x by lia) (show x<1000000000 by lia);generalize 5*k*x=y at m3 Y;have m4:cR (.int (3+p+y)) (.int 69621)=some (.int ((3+p+y)*69621)):=b9 (by lia) (by lia) (by decide +kernel) (by decide +kernel);refine⟨(3+p+y)*69621%2147483647/11,λ_ _=>⟨aG ?_,(fin _).1,(fin _).2⟩⟩;simp_all[iQ,aE,B,m1,q,m5,F,bT G,bT,fP,hx,m3,m4]
     ·have q:¬ 0<ns.length:=by lia
      have m4:cR (.int (3+p)) (.int 69621)=some (.int ((3+p)*69621)):=b9 (by lia) (by lia) (by decide +kernel) (by decide +kernel);refine⟨(3+p)*69621%2147483647/11,λ_ _=>⟨aG ?_,(fin _).1,(fin _).2⟩⟩;simp_all[iQ,aE,B,m1,q,bT,fP,m4]
   ·exact⟨0,λ_ z=>absurd z h1⟩
  ·exact⟨0,λz=>absurd z M⟩
 exact⟨λk=>(h k).choose,λk=>(h k).choose_spec⟩
theorem OV{ss:List Str}(h:∀s∈ss,∃n,s=⟨#[n]⟩):(ss.map (·.length)).sum=ss.length:=by
 induction ss with
 | nil=>rfl
 | cons s ss ih=>
  obtain⟨n,rfl⟩:=h s (zat ..);rw[zak,zbm,ih λt q=>h t (zap _ q),zaz];show 1+ss.length=ss.length+1
  lia
theorem fV(n:Nat):aS 0 1 n=((zas n).map λ(j:Nat)=>(j:Int)).map D.int:=by
 unfold aS;rw[zaq];refine List.map_congr_left λa _=>?_
 show D.int _=D.int _;have:(0:Int)+(a:Int)*1=(a:Int):=by lia
 rw[this]
noncomputable def sg(S:Str)(i:Int):Nat:=S.cps.toList.getD i.toNat 0
theorem QV(F:z.length<=1000)(G:0<=i)(h:i<(z.length:Int)):aJ (.str z) (.int i)=some (.str ⟨#[sg z i]⟩):=by
 obtain⟨j,rfl⟩:∃j:Nat,i=(j:Int):=⟨i.toNat,by lia⟩;have q:j<z.cps.toList.length:=by rw[zbQ];show j<z.length;lia
 have e:gN z.cps.toList (j:Int)=some z.cps.toList[j]:=bR (by simp_all[q]);have B:sg z (j:Int)=z.cps.toList[j]:=by
  unfold sg;rw[zbx,zc5,zaR q];rfl
 rw[B];show(if aU z.length then(gN z.cps.toList (j:Int)).map (λc=>D.str ⟨#[c]⟩)else none)=_;rw[if_pos (show aU z.length=true from decide_eq_true (by lia)),e];rfl
theorem join_ones:∀l:List Nat,(zcH "" (l.map λg=>(⟨#[g]⟩:Str))).cps.toList=l
 | []=>rfl
 | [g]=>rfl
 | g::g'::l=>by
  have ih:=join_ones (g'::l);show((⟨#[g]⟩:Str) ++ "" ++ zcH "" ((g'::l).map λg=>(⟨#[g]⟩:Str))).cps.toList=_;have e:∀a b:Str,(a++b).cps=a.cps++b.cps:=λ_ _=>rfl
  rw[e,e,Array.toList_append,Array.toList_append,ih];rfl
theorem JN:Txt.join sep ys=zcH sep ys:=by
 have:=join_closes (sep:=sep) (sep':=sep) (ys:=ys) rfl;simpa using this
theorem LO(l:List Nat):((l.map λg=>(⟨#[g]⟩:Str)).map (·.length)).sum=l.length:=by
 rw[OV (ss:=l.map λg=>(⟨#[g]⟩:Str)) λs hs=>by obtain⟨g,_,rfl⟩:=List.mem_map.mp hs;exact⟨g,rfl⟩,zam]
noncomputable def S1:Str := "abcdfghjklmnopqrstuvwxyz"
noncomputable def S2:Str := "abcdfghjklmnopqrstuvwxyz" ++ "ei"
theorem DG:S1.length=24:=by decide +kernel
theorem M7:S2.length=26:=by decide +kernel
theorem ZF:S1.cps.toList.Nodup:=by decide +kernel
theorem ZE:S2.cps.toList.Nodup:=by decide +kernel
theorem LZ{S:Str}(h:S.cps.toList.Nodup){i j:Int}(M:0<=i)(J:i<(S.length:Int))(F:0<=j)(G:j<(S.length:Int))(e:sg S i=sg S j):i=j:=by
 have z:i.toNat<S.cps.toList.length:=by rw[zbQ];show i.toNat<S.length;lia
 have q:j.toNat<S.cps.toList.length:=by rw[zbQ];show j.toNat<S.length;lia
 unfold sg at e;rw[zc5,zaR z,zc5,zaR q]at e;have B:S.cps.toList[i.toNat]=S.cps.toList[j.toNat]:=e;have:=(zdT h).mp B
 lia
def ql(x n:Int)(s:Str):Prop:=(x%3=0->(s.length:Int)=1+n%8)/\(¬ x%3=0->∃(S:Str) (L a b:Int),((S=S1/\L=24/\¬ 5<1+x/3%8)\/(S=S2/\L=26/\5<1+x/3%8))/\a=x/24%(1+x/3%8)/\b=(x/(31+7*a)+a*a)%L/\s.cps.toList[a.toNat]?=some (sg S ((b+n)%L)))
theorem VH(N:0<=n/\n<=7)(U:0<=m/\m<=7)(a:ql x n s)(b:ql x m s):n=m:=by
 by_cases h:x%3=0
 ·have:=a.1 h
  have:=b.1 h
  lia
 ·obtain⟨S,L,p,q,M,rfl,rfl,e⟩:=a.2 h
  obtain⟨Y,L',p',W,B,rfl,rfl,J⟩:=b.2 h;rw[e]at J;have G:=zaF J;rcases M with⟨rfl,rfl,z⟩|⟨rfl,rfl,z⟩
  ·rcases B with⟨rfl,rfl,F⟩|⟨rfl,rfl,F⟩
   ·generalize (x/(31+7*(x/24%(1+x/3%8)))+x/24%(1+x/3%8)*(x/24%(1+x/3%8)))%24=q at G
    have l:=DG;have:=LZ ZF (zau _ (by decide)) (by rw[l];exact zaw _ (by decide)) (zau _ (by decide)) (by rw[l];exact zaw _ (by decide)) G
    lia
   ·exact absurd F z
  ·rcases B with⟨rfl,rfl,F⟩|⟨rfl,rfl,F⟩
   ·exact absurd z F
   ·generalize (x/(31+7*(x/24%(1+x/3%8)))+x/24%(1+x/3%8)*(x/24%(1+x/3%8)))%26=q at G
    have l:=M7;have:=LZ ZE (zau _ (by decide)) (by rw[l];exact zaw _ (by decide)) (zau _ (by decide)) (by rw[l];exact zaw _ (by decide)) G
    lia
theorem oZ{c n:Int}(h0:0<=n)(h1:n<=1000):∃s:Str,bZ [.int c,.int n]=some (.str s)/\ql (c%10^9) n s:=by
 suffices h:∃d,bZ [.int c,.int n]=some d/\∃s:Str,d=.str s/\ql (c%10^9) n s by
  obtain⟨d,e,s,rfl,h⟩:=h;exact⟨s,e,h⟩
 refine dQ ?_;unfold rT;have c0:=zau c (show(10^9:Int)≠0 by decide);have c1:=zaw c (show(0:Int)<10^9 by decide);rw[aH (aL (d:=.int (c%10^9)) (by ac_rfl))];generalize c%10^9=x at c0 c1;have m0:=zau (x/3) (show(8:Int)≠0 by decide);have m1:=zaw (x/3) (show(0:Int)<8 by decide);rw[aH (aL (d:=.int (1+x/3%8)) (by ac_rfl))];generalize hm:1+x/3%8=many;rw[aH (aL (d:=.str "abcdfghjklmnopqrstuvwxyz") (by simp[-zad,-zac,aA,aC]))];refine fZ (λρ=>∃(S:Str) (L:Int),(S.length:Int)=L/\24<=L/\L<=26/\(x%3=0\/(S=S1/\L=24/\¬ 5<many)\/(S=S2/\L=26/\5<many))/\ρ=[some (.int x),some (.int n),some (.int many),some (.str S),none,none]) ?_ ?_
 ·have x0:=zau x (show(3:Int)≠0 by decide)
  by_cases G:0<x%3
  ·by_cases h5:5<many
   ·refine⟨_,?_,S2,26,by rw[M7];rfl,by decide,by decide,.inr (.inr ⟨rfl,rfl,h5⟩),rfl⟩
    have z:aU (("abcdfghjklmnopqrstuvwxyz" : Str).length+("ei" : Str).length)=true:=by decide
    ac_rfl
   ·exact⟨_,by ac_rfl,S1,24,by rw[DG];rfl,by decide,by decide,.inr (.inl ⟨rfl,rfl,h5⟩),rfl⟩
  ·exact⟨_,by ac_rfl,S1,24,by rw[DG];rfl,by decide,by decide,.inl (by lia),rfl⟩
 ·rintro ρ ⟨S,L,aa,s1,s2,hS,rfl⟩
  have sL:gM [.str S]=some (.int L):=by rw[<- aa];exact if_pos (decide_eq_true (by lia))
  have sp:(0:Int)<L:=by lia
  have sl:(S.length:Int)=L:=aa;have r8:b8 [.int 8]=some (aS 0 1 8):=cV (n:=8) (by decide);have el:bD (aR 0) fQ (a7 eJ (a7 dN (a7 gO (aD 1) (a7 dN (eC (.int 31)) (a7 cR (eC (.int 7)) (aD 0)))) (a7 cR (aD 0) (aD 0))) (aQ gM (aB (aD 2) aW))) (aS 0 1 8) [none,some (.int x),some (.str S)]=some (((zas 8).map λ(k:Nat)=>(x/(31+7*(k:Int))+(k:Int)*(k:Int))%L).map .int):=by
   have:=jS (K:=8) (f:=a7 eJ (a7 dN (a7 gO (aD 1) (a7 dN (eC (.int 31)) (a7 cR (eC (.int 7)) (aD 0)))) (a7 cR (aD 0) (aD 0))) (aQ gM (aB (aD 2) aW))) (rest:=[some (.int x),some (.str S)]) (F:=λi=>.int ((x/(31+7*i)+i*i)%L)) (λi i0 i1=>by
    have q1:cR (.int 7) (.int i)=some (.int (7*i)):=b9 (by decide +kernel) (by decide +kernel) (by lia) (by lia);have q2:cR (.int i) (.int i)=some (.int (i*i)):=b9 (by lia) (by lia) (by lia) (by lia);have q3:gO (.int x) (.int (31+7*i))=some (.int (x/(31+7*i))):=fP (by lia) (by lia)
    ac_rfl) (zas 8) none λk hk=>List.mem_range.mp hk
   rw[zaq];have er:aS 0 1 8=(zas 8).map λ(k:Nat)=>D.int (k:Int):=by
    rw[fV,zaq];rfl
   rw[er];exact this
  have U:∀i∈(zas 8).map λ(k:Nat)=>(x/(31+7*(k:Int))+(k:Int)*(k:Int))%L,0<=i/\i<L:=λi hi=>by
   obtain⟨k,_,rfl⟩:=List.mem_map.mp hi;exact⟨zau _ (zaT sp),zaw _ sp⟩
  have W:∀a:Int,0<=a->a<8->((zas 8).map λ(k:Nat)=>(x/(31+7*(k:Int))+(k:Int)*(k:Int))%L)[a.toNat]?=some ((x/(31+7*a)+a*a)%L):=λa a0 a8=>by
   obtain⟨j,rfl⟩:∃j:Nat,a=(j:Int):=⟨a.toNat,by lia⟩;rw[zbx,zaB,zcW (by lia)];rfl
  have N:((zas 8).map λ(k:Nat)=>(x/(31+7*(k:Int))+(k:Int)*(k:Int))%L).length=8:=by simp[-zad,-zac,aA,aC]
  rw[aH (aL (d:=.lst (((zas 8).map λ(k:Nat)=>(x/(31+7*(k:Int))+(k:Int)*(k:Int))%L).map .int)) (by
   simp only[q_comp,q_lR,q_lcons,q_lnil,q_c,aA,r8,bG,aU,iG];exact congrArg (Option.map D.lst) el))]
  generalize ((zas 8).map λ(k:Nat)=>(x/(31+7*(k:Int))+(k:Int)*(k:Int))%L)=is at U W N;refine fZ (λρ=>∃(q:List Int) (m:Int) (o:Option D),0<=m/\m<=8/\q.length=8/\(∀j∈q,0<=j/\j<L)/\(x%3=0->m=1+n%8)/\(¬ x%3=0->m=many/\q[(x/24%many).toNat]?=some (((x/(31+7*(x/24%many))+(x/24%many)*(x/24%many))%L+n)%L))/\ρ=[some (.int x),some (.int n),some (.int m),some (.str S),some (.lst (q.map .int)),o]) ?_ ?_
  ·have put:∀k y:Int,0<=k->k<8->(is.set k.toNat (y%L)).length=8/\(∀j∈is.set k.toNat (y%L),0<=j/\j<L)/\mB (.lst (is.map .int)) (.int k) (.int (y%L))=some (.lst ((is.set k.toNat (y%L)).map .int)):=λk y k0 k8=>by
    refine⟨by simp_all[N],λj M=>?_,?_⟩
    ·rcases List.mem_or_eq_of_mem_set M with z|z
     ·exact U j z
     ·rw[z];exact⟨zau _ (zaT sp),zaw _ sp⟩
    ·rw[lT k0 (by simp_all[N];lia),List.map_set]
   by_cases G:x%3=0
   ·have n0:=zau n (show(8:Int)≠0 by decide)
    have n1:=zaw n (show(0:Int)<8 by decide);obtain⟨v,hv,_⟩:=gD (ns:=is) (k:=1+n%8-1) (by lia) (by rw[N];lia);obtain⟨j8,M,ej⟩:=put (1+n%8-1) (v+n/8) (by lia) (by lia);refine⟨_,?_,is.set (1+n%8-1).toNat ((v+n/8)%L),1+n%8,none,by lia,by lia,j8,M,λ_=>rfl,λz=>absurd G z,rfl⟩
    ac_rfl
   ·have mp:0<many:=by lia
    have a0:=zau (x/24) (zaT mp);have a1:=zaw (x/24) mp;have ha:=W (x/24%many) a0 (by lia);obtain⟨v,hv,B⟩:=gD (ns:=is) (k:=x/24%many) a0 (by rw[N];lia);rw[ha]at B;have ai:=zaF B;obtain⟨j8,M,ej⟩:=put (x/24%many) (v+n) a0 (by lia);refine⟨_,?_,is.set (x/24%many).toNat ((v+n)%L),many,some (.int (x/24%many)),by lia,by lia,j8,M,λz=>absurd z G,λ_=>⟨rfl,?_⟩,rfl⟩
    ·ac_rfl
    ·rw[zcy (by rw[N];lia),ai]
  ·rintro ρ ⟨q,m,o,m0,m8,j8,M,hA,hB,rfl⟩
   have rm:b8 [.int m]=some (aS 0 1 m.toNat):=dZ m0 (by lia);have ed:=jS (K:=m.toNat) (f:=a7 aJ (aD 1) (a7 aJ (aD 2) (aD 0))) (rest:=[some (.str S),some (.lst (q.map .int))]) (F:=λi=>.str ⟨#[sg S (q.getD i.toNat 0)]⟩) (λi i0 i1=>by
    obtain⟨v,hv,B⟩:=gD (ns:=q) (k:=i) i0 (by rw[j8];lia);have b:=M v (zav B);have e:q.getD i.toNat 0=v:=by rw[zc5,B];rfl
    have a4:=QV (z:=S) (by lia) b.1 (by rw[sl];exact b.2);rw[e]
    ac_rfl) (zas m.toNat) none λk hk=>List.mem_range.mp hk
   have er:aS 0 1 m.toNat=(zas m.toNat).map λ(k:Nat)=>D.int (k:Int):=by
    rw[fV,zaq];rfl
   have es:((zas m.toNat).map λ(k:Nat)=>D.str ⟨#[sg S (q.getD ((k:Int)).toNat 0)]⟩)=(((zas m.toNat).map λ(k:Nat)=>sg S (q.getD k 0)).map λg=>(⟨#[g]⟩:Str)).map .str:=by
    rw[zaq,zaq];rfl
   rw[<- er,es]at ed;have hl:((zas m.toNat).map λ(k:Nat)=>sg S (q.getD k 0)).length=m.toNat:=by simp[-zad,-zac,aA,aC]
   have J:∀a:Int,0<=a->a<m->((zas m.toNat).map λ(k:Nat)=>sg S (q.getD k 0))[a.toNat]?=some (sg S (q.getD a.toNat 0)):=λa a0 am=>by
    rw[zaB,zcW (by lia)];rfl
   generalize ((zas m.toNat).map λ(k:Nat)=>sg S (q.getD k 0))=gs at ed hl J;have jn:=V8 (sep := "") (ss:=gs.map λg=>(⟨#[g]⟩:Str)) (by
    rw[LO,zam];show gs.length+gs.length*0<=_
    lia)
   rw[JN]at jn;have zz:aU m.toNat=true:=decide_eq_true (by lia);have jo:=join_ones gs;generalize (gs.map λg=>(⟨#[g]⟩:Str))=ss at ed jn jo;refine⟨.str (zcH "" ss),?_,_,rfl,λG=>?_,λG=>?_⟩
   ·simp_all[rm,bG,zz,iG,ed,jn]
   ·have e1:=hA G
    have:(zcH "" ss).length=m.toNat:=by
     show(zcH "" ss).cps.size=_;rw[<- zbQ,jo,hl]
    lia
   ·obtain⟨em,ej⟩:=hB G
    have Y:(S=S1/\L=24/\¬ 5<many)\/(S=S2/\L=26/\5<many):=hS.resolve_left G;have mp:0<many:=by lia
    have a0:=zau (x/24) (zaT mp);have a1:=zaw (x/24) mp;rw[<- hm]at Y em ej a0 a1;refine⟨S,L,_,_,Y,rfl,rfl,?_⟩;rw[jo,J _ a0 (by lia),zc5,ej];rfl
theorem rQ{c n:Int}(q:0<=n)(h1:n<=1000):∃s:Str,bZ [.int c,.int n]=some (.str s):=by
 obtain⟨s,h,_⟩:=oZ (c:=c) q h1;exact⟨s,h⟩
theorem OX(c:Int):∃f:Int->Str,(∀n,0<=n->n<=7->bZ [.int c,.int n]=some (.str (f n)))/\∀n m,(0<=n/\n<=7)->(0<=m/\m<=7)->f n=f m->n=m:=by
 have h:∀n:Int,∃s:Str,0<=n->n<=7->bZ [.int c,.int n]=some (.str s)/\ql (c%10^9) n s:=λn=>by
  by_cases F:0<=n/\n<=7
  ·obtain⟨s,e,p⟩:=oZ (c:=c) (n:=n) F.1 (by lia)
   exact⟨s,λ_ _=>⟨e,p⟩⟩
  ·exact⟨"",λa b=>absurd ⟨a,b⟩ F⟩
 refine⟨λn=>(h n).choose,λn a b=>((h n).choose_spec a b).1,λn m z B e=>?_⟩;have p:=((h n).choose_spec z.1 z.2).2;have q:=((h m).choose_spec B.1 B.2).2;have G:(h n).choose=(h m).choose:=e;rw[G]at p;exact VH z B p q
theorem oY{c:Int}(F:0<=c)(h1:c<10^61):∃p:Int,jK [.int c]=some (.int p)/\0<=p/\p<=10^30:=by
 have q:(10:Int)^30=1000000000000000000000000000000:=by decide +kernel
 by_cases h:c%2=0
 ·have a:=zau (c/2) (show(3:Int)≠0 by decide)
  have b:=zaw (c/2) (show(0:Int)<3 by decide);exact⟨c/2%3,aG (by simp_all[jQ,aE,bT,fP,h]),a,by lia⟩
 ·have z:cR (.int (c/2)) (.int 982451653)=some (.int (c/2*982451653)):=b9 (by lia) (by lia) (by decide +kernel) (by decide +kernel)
  have a:=zau (c/2*982451653) (show(1000000000000000000000000000000:Int)≠0 by decide);have b:=zaw (c/2*982451653) (show(0:Int)<1000000000000000000000000000000 by decide);have pw:RT (.int 10) (.int 30)=some (.int 1000000000000000000000000000000):=NE (by decide) (by decide) (by decide);have B:eJ (.int (c/2*982451653)) (.int 1000000000000000000000000000000)=some (.int (c/2*982451653%1000000000000000000000000000000)):=bT (by decide);exact⟨_,aG (by simp_all[jQ,aE,bT,fP,h,z,pw,B]),a,by lia⟩
theorem sU{c M j k:Int}(Y:3<=M)(h0:0<=c)(h1:c<10^60):∃r:Ro,lD [.int c,.int M,.int j,.int k]=some (mD r)/\r.j=j/\r.k=k/\((0<=r.a/\r.a<M)/\0<=r.b/\r.b<M)/\0<=r.p/\r.p<=10^30:=by
 suffices h:∃d,lD [.int c,.int M,.int j,.int k]=some d/\∃r:Ro,d=mD r/\r.j=j/\r.k=k/\((0<=r.a/\r.a<M)/\0<=r.b/\r.b<M)/\0<=r.p/\r.p<=10^30 by
  obtain⟨d,e,r,rfl,h⟩:=h;exact⟨r,e,h⟩
 have U:(10:Int)^60=1000000000000000000000000000000000000000000000000000000000000:=by decide +kernel
 have q:0<M:=by lia
 refine dQ ?_;unfold rM;have m1:cR (.int (c/40+1)) (.int 48271)=some (.int ((c/40+1)*48271)):=b9 (by lia) (by lia) (by decide +kernel) (by decide +kernel);have m2:cR (.int (c/640)) (.int 69621)=some (.int (c/640*69621)):=b9 (by lia) (by lia) (by decide +kernel) (by decide +kernel);have a0:=zau ((c/40+1)*48271) (zaT q);have z:=zaw ((c/40+1)*48271) q;have B:=zau (c/9+c/640*69621) (zaT q);have F:=zaw (c/9+c/640*69621) q;rw[aH (aL (d:=.int ((c/40+1)*48271%M)) (by ac_rfl))];rw[aH (aL (d:=.int ((c/9+c/640*69621)%M)) (by ac_rfl))];generalize (c/40+1)*48271%M=a at a0 z;generalize (c/9+c/640*69621)%M=b at B F;refine fZ (λρ=>∃a:Int,(0<=a/\a<M)/\ρ=[some (.int c),some (.int M),some (.int j),some (.int k),some (.int a),some (.int b)]) ?_ ?_
 ·by_cases h:c%5=0
  ·exact⟨_,by ac_rfl,1,⟨by decide,by lia⟩,rfl⟩
  ·exact⟨_,by ac_rfl,a,⟨a0,z⟩,rfl⟩
 ·rintro ρ ⟨a,J,rfl⟩
  refine fZ (λρ=>∃b:Int,(0<=b/\b<M)/\ρ=[some (.int c),some (.int M),some (.int j),some (.int k),some (.int a),some (.int b)]) ?_ ?_
  ·by_cases h:c%3=0
   ·exact⟨_,by ac_rfl,0,⟨by decide,by lia⟩,rfl⟩
   ·exact⟨_,by ac_rfl,b,⟨B,F⟩,rfl⟩
  ·rintro ρ ⟨b,N,rfl⟩
   obtain⟨p,ep,G,W⟩:=oY (c:=c/16) (by lia) (by lia);exact⟨mD ⟨j,k,a,b,p⟩,by simp_all[fP,ep,mD],_,rfl,rfl,rfl,⟨J,N⟩,G,W⟩
theorem yR{ns:List Int}{M many:Int}(hM:3<=M)(hm:1<=many/\many<=6):∃rs:List Ro,jR [.lst (ns.map .int),.int M,.int many]=some (.tup (rs.map mD))/\GR M many rs:=by
 suffices h:∃d,jR [.lst (ns.map .int),.int M,.int many]=some d/\∃rs:List Ro,d=.tup (rs.map mD)/\GR M many rs by
  obtain⟨d,e,r,rfl,h⟩:=h;exact⟨r,e,h⟩
 obtain⟨f,hf⟩:=dI ns;have f2:=(hf 2 (by decide) (by decide)).1;refine dQ ?_;unfold pB;rw[aH (aL (d:=.int (f 2)) (by ac_rfl))];generalize f 2=c2;rw[aH (aL (d:=.lst []) (by simp[-zad,-zac,aA,aC]))];have z0:=zau c2 (show(7:Int)≠0 by decide);have z1:=zaw c2 (show(0:Int)<7 by decide);refine j9 (items:=aS 0 1 (c2%7).toNat) (by simp_all[aE,bT,dZ z0 (show c2%7<=1000000 by lia)]) (λi ρ=>∃(rs:List Ro) (Y N G J:Option D),ρ=[some (.lst (ns.map .int)),some (.int M),some (.int many),some (.int c2),some (.lst (rs.map mD)),Y,N,G,J]/\rs.length<=i/\i<=6/\GR M many rs) ⟨[],none,none,none,none,by ac_rfl,by simp[-zad,-zac,aA,aC],by decide,⟨by simp[-zad,-zac,aA,aC],λ_ h=>(nomatch h),λ_ h=>(nomatch h),λ_ h=>(nomatch h)⟩⟩ ?_ ?_
 ·rintro i x ρ hx ⟨rs,Y,N,G,J,rfl,hl,hi,g⟩
  obtain⟨ah,rfl⟩:=bW hx;have hI:0<=(0:Int)+(i:Int)*1/\(0:Int)+(i:Int)*1<=6:=by lia
  generalize (0:Int)+(i:Int)*1=I at hI;have F:=hf (3+I) (by lia) (by lia);generalize f (3+I)=near at F;have f1:=F.1;by_cases h1:1<many
  ·have B:0<many-1:=by lia
   have j0:=zau near (zaT B);have j1:=zaw near B;have dj:eJ (.int near) (.int (many-1))=some (.int (near%(many-1))):=bT B;generalize near%(many-1)=j at j0 j1 dj;have U:0<many-1-j:=by lia
   have k0:=zau (near/8) (zaT U);have k1:=zaw (near/8) U;have dk:eJ (.int (near/8)) (.int (many-1-j))=some (.int (near/8%(many-1-j))):=bT U;generalize near/8%(many-1-j)=k at k0 k1 dk;have u0:=zau I (zaT B);have u1:=zaw I B;have du:eJ (.int I) (.int (many-1))=some (.int (I%(many-1))):=bT B;generalize I%(many-1)=u at u0 u1 du;have hz:(rs.map mD).length<=1000000:=by rw[zam];lia
   have dg:BD (.int many) (.int 1)=some (.bl true):=by simp_all[h1]
   have me:∀r,(rs++[r]).map mD=rs.map mD++[mD r]:=λr=>by simp[-zad,-zac,aA,aC]
   have fin:∀r:Ro,(0<=r.j/\r.j<r.k/\r.k<many)->((0<=r.a/\r.a<M)/\0<=r.b/\r.b<M)->(0<=r.p/\r.p<=10^30)->GR M many (rs++[r]):=λr a b c=>by
    have app:∀ {P:Ro->Prop},(∀r∈rs,P r)->P r->∀y∈rs++[r],P y:=λh1 h2 y hy=>by
     rcases List.mem_append.mp hy with z|z
     ·exact h1 y z
     ·rw[List.mem_singleton.mp z];exact h2
    exact⟨by simp[-zad,-zac,aA,aC];lia,app g.jk a,app g.ab b,app g.pr c⟩
   by_cases h2:c2/7%2=1
   ·obtain⟨r,er,rj,rk,q,W⟩:=sU (c:=near) (M:=M) (j:=u) (k:=u+1) hM F.2.1 F.2.2
    refine⟨[some (.lst (ns.map .int)),some (.int M),some (.int many),some (.int c2),some (.lst ((rs++[r]).map mD)),some (.int I),some (.int near),some (.int u),some (.int (u+1))],?_,_,_,_,_,_,rfl,by simp[-zad,-zac,aA,aC];lia,by lia,fin r (by lia) q W⟩;have de:qJ (.int (c2/7%2)) (.int 1)=some (.bl true):=by simp_all[h2]
    rw[me]
    ac_rfl
   ·obtain⟨r,er,rj,rk,q,W⟩:=sU (c:=near) (M:=M) (j:=j) (k:=j+1+k) hM F.2.1 F.2.2
    refine⟨[some (.lst (ns.map .int)),some (.int M),some (.int many),some (.int c2),some (.lst ((rs++[r]).map mD)),some (.int I),some (.int near),some (.int j),some (.int (j+1+k))],?_,_,_,_,_,_,rfl,by simp[-zad,-zac,aA,aC];lia,by lia,fin r (by lia) q W⟩;have de:qJ (.int (c2/7%2)) (.int 1)=some (.bl false):=by simp_all[h2]
    rw[me]
    ac_rfl
  ·refine⟨[some (.lst (ns.map .int)),some (.int M),some (.int many),some (.int c2),some (.lst (rs.map mD)),some (.int I),some (.int near),G,J],?_,rs,_,_,_,_,rfl,by lia,by lia,g⟩
   have dg:BD (.int many) (.int 1)=some (.bl false):=by simp_all[h1]
   ac_rfl
 ·rintro ρ ⟨rs,Y,N,G,J,rfl,hl,hi,g⟩
  exact⟨_,by simp[-zad,-zac,aA,aC],rs,rfl,g⟩
theorem pQ{c M n:Int}(hM:3<=M)(J:0<=c)(h1:c<10^60):∃l,jD [.int c,.int M,.int n]=some (.tup l):=by
 suffices h:∃d,jD [.int c,.int M,.int n]=some d/\∃l,d=.tup l by
  obtain⟨d,e,l,rfl⟩:=h;exact⟨l,e⟩
 have ai:(10:Int)^60=1000000000000000000000000000000000000000000000000000000000000:=by decide +kernel
 have Mp:0<M:=by lia
 refine dQ ?_;unfold pV;have r3:b8 [.int 3]=some [.int 0,.int 1,.int 2]:=rfl;have s3:aU 3=true:=rfl;have N:aU 9=true:=rfl;rw[aH (aL (d:=.lst [.tup [.int 0],.tup [.int 1],.tup [.int 2]]) (by ac_rfl))];refine fZ (λρ=>∃es:List D,1<=es.length/\es.length<=9/\ρ=[some (.int c),some (.int M),some (.int n),some (.lst es),none,none,none,none]) ?_ ?_
 ·by_cases h:n=2
  ·subst h
   obtain⟨es,ee,le,_⟩:=xO (f:=eY (aB (a7 gO (aD 0) (eC (.int 3))) (aB (a7 eJ (aD 0) (eC (.int 3))) aW))) (rest:=[]) (R:=λ_=>True) (aS 0 1 9) none λa Y=>by
    obtain⟨i,rfl,i0,i1⟩:=vQ Y;exact⟨.tup [.int (i/3),.int (i%3)],by ac_rfl,trivial⟩
   have r9:b8 [.int 9]=some (aS 0 1 9):=cV (n:=9) (by decide);rw[bG]at le;exact⟨[some (.int c),some (.int M),some (.int 2),some (.lst es),none,none,none,none],by simp_all[aE,r9,N,iG,bG,ee],es,by lia,by lia,rfl⟩
  ·exact⟨_,by ac_rfl,[.tup [.int 0],.tup [.int 1],.tup [.int 2]],by simp[-zad,-zac,aA,aC],by simp[-zad,-zac,aA,aC],rfl⟩
 ·rintro ρ ⟨es,e1,e9,rfl⟩
  rw[aH (aL (d:=.lst []) (by simp[-zad,-zac,aA,aC]))];refine j9 (items:=aS 0 1 es.length) (by simp_all[cV (show es.length<=1000000 by lia)]) (λi ρ=>∃(l:List D) (G q B:Option D),ρ=[some (.int c),some (.int M),some (.int n),some (.lst es),some (.lst l),G,q,B]/\l.length<=i) ⟨[],none,none,none,by simp[-zad,-zac,aA,aC],by simp[-zad,-zac,aA,aC]⟩ ?_ ?_
  ·rintro i x ρ hx ⟨l,G,q,B,rfl,hl⟩
   obtain⟨aa,rfl⟩:=bW hx;have e0:(0:Int)+(i:Int)*1=(i:Int):=by lia
   rw[e0];have hI:(i:Int)<=9:=by lia
   obtain⟨d,_,_,W⟩:=uC (l:=es) (k:=(i:Int)) (by lia) (by lia);have F:(0:Int)<=(i:Int):=by lia
   generalize (i:Int)=I at hI W F;have m1:cR (.int I) (.int I)=some (.int (I*I)):=b9 (by lia) (by lia) (by lia) (by lia);have b1:=C6 (show -(100:Int)<I by lia) (show I<100 by lia) (show -(100:Int)<I by lia) (show I<100 by lia);have d1:gO (.int c) (.int (I+2))=some (.int (c/(I+2))):=fP (by lia) (by lia);have c0:0<=c/(I+2):=Int.ediv_nonneg J (by lia);have U:c/(I+2)<=c:=Int.ediv_le_self _ J;generalize c/(I+2)=y at d1 c0 U;generalize I*I=z at m1 b1;have m2:cR (.int ((y+z)/3+1)) (.int 48271)=some (.int (((y+z)/3+1)*48271)):=b9 (by lia) (by lia) (by decide +kernel) (by decide +kernel);have hz:aU l.length=true:=decide_eq_true (by lia);by_cases a1:0<(y+z)%3
   ·by_cases a2:0<((y+z)/3+1)*48271%M
    ·refine⟨[some (.int c),some (.int M),some (.int n),some (.lst es),some (.lst (l++[.tup [d,.int (((y+z)/3+1)*48271%M)]])),some (.int I),some (.int (y+z)),some (.int (((y+z)/3+1)*48271%M))],?_,_,_,_,_,rfl,by simp[-zad,-zac,aA,aC];lia⟩
     ac_rfl
    ·refine⟨[some (.int c),some (.int M),some (.int n),some (.lst es),some (.lst l),some (.int I),some (.int (y+z)),some (.int (((y+z)/3+1)*48271%M))],?_,_,_,_,_,rfl,by lia⟩
     ac_rfl
   ·refine⟨[some (.int c),some (.int M),some (.int n),some (.lst es),some (.lst l),some (.int I),some (.int (y+z)),some (.int (((y+z)/3+1)*48271%M))],?_,_,_,_,_,rfl,by lia⟩
    ac_rfl
  ·rintro ρ ⟨l,G,q,B,rfl,hl⟩
   exact⟨_,by simp[-zad,-zac,aA,aC],l,rfl⟩
structure OkMs(many:Int)(ms:List Mk):Prop where
 tk:∀m∈ms,(∃t,m.takes=[t])\/∃t u,m.takes=[t,u]
 tb:∀m∈ms,∀t∈m.takes,0<=t/\t<many
 gb:∀m∈ms,0<=m.g/\m.g<many
theorem yE{ns:List Int}{M many:Int}(hM:3<=M)(hm:1<=many/\many<=6):∃ms:List Mk,jH [.lst (ns.map .int),.int M,.int many]=some (.tup (ms.map kM))/\OkMs many ms/\ms.length<=6:=by
 suffices h:∃d,jH [.lst (ns.map .int),.int M,.int many]=some d/\∃ms:List Mk,d=.tup (ms.map kM)/\OkMs many ms/\ms.length<=6 by
  obtain⟨d,e,r,rfl,h⟩:=h;exact⟨r,e,h⟩
 have ao:(10:Int)^60=1000000000000000000000000000000000000000000000000000000000000:=by decide +kernel
 have ap:(10:Int)^61=10000000000000000000000000000000000000000000000000000000000000:=by decide +kernel
 obtain⟨f,N⟩:=dI ns;have f9:=(N 9 (by decide) (by decide)).1;have am:=(N 15 (by decide) (by decide)).1;have Y:0<many:=by lia
 refine dQ ?_;unfold pT;rw[aH (aL (d:=.int (f 9)) (by ac_rfl))];generalize f 9=c9;rw[aH (aL (d:=.lst []) (by simp[-zad,-zac,aA,aC]))];have z0:=zau c9 (show(6:Int)≠0 by decide);have z1:=zaw c9 (show(0:Int)<6 by decide);refine j9 (items:=aS 0 1 (c9%6).toNat) (by simp_all[aE,bT,dZ z0 (show c9%6<=1000000 by lia)]) (λi ρ=>∃(ms:List Mk) (W J G B F:Option D),ρ=[some (.lst (ns.map .int)),some (.int M),some (.int many),some (.int c9),some (.lst (ms.map kM)),W,J,G,B,F]/\ms.length=i/\i<=6/\OkMs many ms) ⟨[],none,none,none,none,none,by ac_rfl,rfl,by decide,⟨λ_ h=>(nomatch h),λ_ h=>(nomatch h),λ_ h=>(nomatch h)⟩⟩ ?_ ?_
 ·rintro i x ρ hx ⟨ms,W,J,G,B,F,rfl,U,hi,K⟩
  obtain⟨af,rfl⟩:=bW hx;have hI:0<=(0:Int)+(i:Int)*1/\(0:Int)+(i:Int)*1<=6:=by lia
  generalize (0:Int)+(i:Int)*1=I at hI;have fI:=N (10+I) (by lia) (by lia);generalize f (10+I)=near at fI;have hz:(ms.map kM).length<=1000000:=by rw[zam];lia
  have n0:=zau (near/2) (show(3:Int)≠0 by decide);have n1:=zaw (near/2) (show(0:Int)<3 by decide);obtain⟨nm,an⟩:=rQ (c:=f 15) (n:=near/2%3/2) (by lia) (by lia);obtain⟨p,ep,p0,p1⟩:=oY (c:=near/17) (by lia) (by lia);have q:∀y:Int,0<=y%many/\y%many<many:=λy=>⟨zau _ (zaT Y),zaw _ Y⟩
  have fin:∀m:Mk,((∃t,m.takes=[t])\/∃t u,m.takes=[t,u])->(∀t∈m.takes,0<=t/\t<many)->(0<=m.g/\m.g<many)->OkMs many (ms++[m]):=λm a b c=>by
   have app:∀ {P:Mk->Prop},(∀r∈ms,P r)->P m->∀y∈ms++[m],P y:=λh1 h2 y hy=>by
    rcases List.mem_append.mp hy with z|z
    ·exact h1 y z
    ·rw[List.mem_singleton.mp z];exact h2
   exact⟨app K.tk a,app K.tb b,app K.gb c⟩
  have ht:∃t u:Int,(0<=t/\t<many)/\(0<=u/\u<many)/\dC (dU 7 (eY (aB (a7 eJ (a7 dN (aD 5) (a7 gO (aD 3) (eC (.int 6)))) (aD 2)) (aB (a7 eJ (a7 gO (aD 6) (eC (.int 6))) (aD 2)) aW)))) (BJ (qC (a7 qJ (a7 eJ (a7 gO (aD 6) (eC (.int 36))) (eC (.int 3))) (eC (.int 0)))) (dU 7 (eY (aB (a7 eJ (a7 gO (aD 6) (eC (.int 7))) (aD 2)) (aB (a7 eJ (a7 gO (aD 6) (eC (.int 6))) (aD 2)) aW)))) SD) [some (.lst (ns.map .int)),some (.int M),some (.int many),some (.int c9),some (.lst (ms.map kM)),some (.int I),some (.int near),G,B,F]=some (.nx [some (.lst (ns.map .int)),some (.int M),some (.int many),some (.int c9),some (.lst (ms.map kM)),some (.int I),some (.int near),some (.tup [.int t,.int u]),B,F]):=by
   by_cases h3:near/36%3=0
   ·exact⟨near/7%many,near/6%many,q _,q _,by ac_rfl⟩
   ·exact⟨(I+c9/6)%many,near/6%many,q _,q _,by ac_rfl⟩
  obtain⟨t,u,tb,ub,et⟩:=ht;have es:∀ {g h k:Sv} {ρ:cY},dC g (dC h k) ρ=dC (dC g h) k ρ:=by
   intro g h k ρ;unfold dC;cases g ρ with
   | none=>rfl
   | some o=>cases o <;> rfl
  have f1:=fI.1;have dm:eJ (.int (near/12)) (.int many)=some (.int (near/12%many)):=bT Y;by_cases h2:near%2=0
  ·obtain⟨l,el⟩:=pQ (c:=near/5) (M:=M) (n:=1) hM (by lia) (by lia)
   refine⟨[some (.lst (ns.map .int)),some (.int M),some (.int many),some (.int c9),some (.lst ((ms++[(⟨nm,[t],near/12%many,.tup l,p⟩:Mk)]).map kM)),some (.int I),some (.int near),some (.tup [.int t]),some (.str nm),some (.tup l)],?_,_,_,_,_,_,_,rfl,by simp_all[U],by lia,fin _ (.inl ⟨t,rfl⟩) (by simpa using tb) (q _)⟩;show(aR 5 _ _).bind _=_;rw[q_name,aA,aH (aL (d:=.int near) (by ac_rfl)),es,aH (by exact et)];have de:qJ (.int (near%2)) (.int 0)=some (.bl true):=by simp_all[h2]
   have cs:yA (.tup [.int t,.int u]) none (some 1)=some (.tup [.int t]):=rfl;have dl:gM [.tup [.int t]]=some (.int 1):=rfl;rw[show(ms++[(⟨nm,[t],near/12%many,.tup l,p⟩:Mk)]).map kM=ms.map kM++[.tup [.str nm,.tup [.int t],.int (near/12%many),.tup l,.int p]] by simp_all[kM,tupI]]
   ac_rfl
  ·obtain⟨l,el⟩:=pQ (c:=near/5) (M:=M) (n:=2) hM (by lia) (by lia)
   refine⟨[some (.lst (ns.map .int)),some (.int M),some (.int many),some (.int c9),some (.lst ((ms++[(⟨nm,[t,u],near/12%many,.tup l,p⟩:Mk)]).map kM)),some (.int I),some (.int near),some (.tup [.int t,.int u]),some (.str nm),some (.tup l)],?_,_,_,_,_,_,_,rfl,by simp_all[U],by lia,fin _ (.inr ⟨t,u,rfl⟩) (by simp[-zad,-zac,aA,aC];exact⟨tb,ub⟩) (q _)⟩;show(aR 5 _ _).bind _=_;rw[q_name,aA,aH (aL (d:=.int near) (by ac_rfl)),es,aH (by exact et)];have de:qJ (.int (near%2)) (.int 0)=some (.bl false):=by simp_all[h2]
   have dl:gM [.tup [.int t,.int u]]=some (.int 2):=rfl;rw[show(ms++[(⟨nm,[t,u],near/12%many,.tup l,p⟩:Mk)]).map kM=ms.map kM++[.tup [.str nm,.tup [.int t,.int u],.int (near/12%many),.tup l,.int p]] by simp_all[kM,tupI]]
   ac_rfl
 ·rintro ρ ⟨ms,W,J,G,B,F,rfl,U,hi,K⟩
  exact⟨_,by simp[-zad,-zac,aA,aC],ms,rfl,K,by lia⟩
theorem B8(ns:List Int):∃C:Bk,lL [.lst (ns.map .int)]=some (bB C)/\OkB C:=by
 suffices h:∃d,lL [.lst (ns.map .int)]=some d/\∃C:Bk,d=bB C/\OkB C by
  obtain⟨d,e,C,rfl,h⟩:=h;exact⟨C,e,h⟩
 obtain⟨f,F⟩:=dI ns;have f0:=(F 0 (by decide) (by decide)).1;have f1:=(F 1 (by decide) (by decide)).1;have ak:=(F 16 (by decide) (by decide)).1;refine dQ ?_;unfold rH;generalize f 0=c at f0;rw[aH (aL (d:=.int c) (by ac_rfl))];have G:(10:Int)^59=100000000000000000000000000000000000000000000000000000000000:=by decide +kernel
 have ah:(10:Int)^60=1000000000000000000000000000000000000000000000000000000000000:=by decide +kernel
 have w0:=zau (c/4) (show(10^59:Int)≠0 by decide +kernel);have w1:=zaw (c/4) (show(0:Int)<10^59 by decide +kernel);have U:eJ (.int (c/4)) (.int (10^59))=some (.int (c/4%10^59)):=bT (by decide +kernel);generalize c/4%10^59=w at w0 w1 U;have mw:cR (.int 2) (.int w)=some (.int (2*w)):=b9 (by decide +kernel) (by decide +kernel) (by lia) (by lia);have pw:RT (.int 10) (.int 59)=some (.int (10^59)):=NE (by decide) (by decide) (by decide);rw[G]at U pw;rw[aH (aL (d:=.int (3+2*w)) (by ac_rfl))];refine fZ (λρ=>∃M:Int,3<=M/\M<10^60/\ρ=[some (.lst (ns.map .int)),some (.int c),some (.int M),none,none]) ?_ ?_
 ·by_cases hc:c%4=0
  ·have v0:=zau (c/4) (show(4:Int)≠0 by decide)
   have v1:=zaw (c/4) (show(0:Int)<4 by decide);have mv:cR (.int 2) (.int (c/4%4))=some (.int (2*(c/4%4))):=b9 (by decide +kernel) (by decide +kernel) (by lia) (by lia);exact⟨_,by ac_rfl,3+2*(c/4%4),by lia,by lia,rfl⟩
  ·exact⟨_,by ac_rfl,3+2*w,by lia,by lia,rfl⟩
 ·rintro ρ ⟨M,J,B,rfl⟩
  have n0:=zau (f 1) (show(4:Int)≠0 by decide);have n1:=zaw (f 1) (show(0:Int)<4 by decide);rw[aH (aL (d:=.int (1+f 1%4)) (by ac_rfl))];refine fZ (λρ=>∃many:Int,(1<=many/\many<=6)/\ρ=[some (.lst (ns.map .int)),some (.int c),some (.int M),some (.int many),none]) ?_ ?_
  ·by_cases h5:f 1/4%8=5
   ·exact⟨_,by ac_rfl,6,by decide,rfl⟩
   ·exact⟨_,by ac_rfl,1+f 1%4,by lia,rfl⟩
  ·rintro ρ ⟨many,Y,rfl⟩
   have rm:b8 [.int many]=some (aS 0 1 many.toNat):=dZ (by lia) (by lia);obtain⟨ks,ek,W,N⟩:=xO (f:=aQ bZ (aB (aQ bN (aB (aD 1) (aB (eC (.int 16)) aW))) (aB (aD 0) aW))) (rest:=[some (.lst (ns.map .int))]) (R:=λd=>∃s:Str,d=.str s) (aS 0 1 many.toNat) none λa ha=>by
    obtain⟨i,rfl,i0,i1⟩:=vQ ha;obtain⟨s,hs⟩:=rQ (c:=f 16) (n:=i) i0 (by lia);exact⟨_,by ac_rfl,s,rfl⟩
   obtain⟨q,rfl⟩:=EQ N;have ae:q.length=many.toNat:=by rw[zam,bG]at W;exact W
   have zz:aU many.toNat=true:=decide_eq_true (by lia);rw[aH (aL (d:=.tup (q.map .str)) (by simp_all[rm,bG,zz,iG,ek]))];obtain⟨rs,er,gr⟩:=yR (ns:=ns) (M:=M) (many:=many) J Y;obtain⟨ms,em,K,ml⟩:=yE (ns:=ns) (M:=M) (many:=many) J Y;have z:(q.length:Int)=many:=by lia
   refine⟨bB ⟨M,q,rs,ms⟩,by simp_all[er,em,bB],_,rfl,⟨J,B,by show 1<=q.length;lia,by show q.length<=6;lia,?_,K.tk,?_,?_,ml⟩⟩
   ·show GR M (q.length:Int) rs
    rw[z];exact gr
   ·show ∀m∈ms,∀t∈m.takes,0<=t/\t<(q.length:Int)
    rw[z];exact K.tb
   ·show ∀m∈ms,0<=m.g/\m.g<(q.length:Int)
    rw[z];exact K.gb
theorem lU:¬ ("name" : Str) = "use" := by decide
theorem i5:¬ ("name" : Str) = "let" := by decide
theorem xN:¬ ("name" : Str) = "pick" := by decide
theorem mT:¬ ("name" : Str) = "again" := by decide
theorem kG:¬ ("number" : Str) = "use" := by decide
theorem g7:¬ ("number" : Str) = "let" := by decide
theorem xB:¬ ("number" : Str) = "pick" := by decide
theorem m9:¬ ("number" : Str) = "again" := by decide
theorem oF:¬ ("use" : Str) = "let" := by decide
theorem kB:¬ ("let" : Str) = "use" := by decide
theorem jY:¬ ("pick" : Str) = "use" := by decide
theorem g8:¬ ("pick" : Str) = "let" := by decide
theorem kF:¬ ("again" : Str) = "use" := by decide
theorem fT:¬ ("again" : Str) = "let" := by decide
theorem wY:¬ ("again" : Str) = "pick" := by decide
theorem DX{c:Bv}{b:Sv}{R:D->Prop}(I:Nat->cY->Prop)(J:cY->Prop)(h:∀n ρ,I n ρ->(c ρ=some true/\((∃m ρ',m<n/\b ρ=some (.nx ρ')/\I m ρ')\/∃d,b ρ=some (.rt d)/\R d))\/(c ρ=some false/\J ρ)):∀(fuel n:Nat) (ρ:cY),n<fuel->I n ρ->(∃ρ',eT c b fuel ρ=some (.nx ρ')/\J ρ')\/∃d,eT c b fuel ρ=some (.rt d)/\R d
 | 0,n,ρ,hn,_=>absurd hn (Nat.not_lt_zero n)
 | fuel+1,n,ρ,hn,hi=>by
  rcases h n ρ hi with⟨q,⟨m,ρ',N,z,M⟩|⟨d,z,F⟩⟩|⟨q,G⟩
  ·rcases DX I J h fuel m ρ' (by lia) M with⟨B,e,G⟩|⟨d,e,F⟩
   ·refine .inl ⟨B,?_,G⟩
    unfold eT;rw[q,aA,if_pos rfl,z,aA];exact e
   ·refine .inr ⟨d,?_,F⟩
    unfold eT;rw[q,aA,if_pos rfl,z,aA];exact e
  ·refine .inr ⟨d,?_,F⟩
   unfold eT;rw[q,aA,if_pos rfl,z,aA]
  ·refine .inl ⟨ρ,?_,G⟩
   unfold eT;rw[q,aA,if_neg zaA]
theorem sO{c:Bv}{b rest:Sv}{ρ:cY}{R:D->Prop}(I:Nat->cY->Prop)(J:cY->Prop)(n:Nat)(z:n<100000)(B:I n ρ)(h:∀n ρ,I n ρ->(c ρ=some true/\((∃m ρ',m<n/\b ρ=some (.nx ρ')/\I m ρ')\/∃d,b ρ=some (.rt d)/\R d))\/(c ρ=some false/\J ρ))(k:∀ρ',J ρ'->∃d,rest ρ'=some (.rt d)/\R d):∃d,dC (lP c b) rest ρ=some (.rt d)/\R d:=by
 rcases DX I J h 100000 n ρ z B with⟨ρ',e,F⟩|⟨d,e,G⟩
 ·have q:lP c b ρ=some (.nx ρ'):=e
  rw[aH q];exact k ρ' F
 ·have q:lP c b ρ=some (.rt d):=e
  exact⟨d,uB q,G⟩
theorem uM{C:Bk}:aJ (bB C) (.int 1)=some (.tup (C.kinds.map .str)):=by unfold bB;rw[q_itT];exact at1
theorem DN:aJ (bB C) (.int 2)=some (.tup (C.rs.map mD)):=by unfold bB;rw[q_itT];exact at2
theorem qI:aJ (bB C) (.int 3)=some (.tup (C.makes.map kM)):=by unfold bB;rw[q_itT];exact SA
theorem DJ:aJ (kM m) (.int 0)=some (.str m.nm):=by unfold kM;rw[q_itT];exact at0
theorem uL:aJ (kM m) (.int 1)=some (tupI m.takes):=by unfold kM;rw[q_itT];exact at1
theorem IT:aJ (kM m) (.int 2)=some (.int m.g):=by unfold kM;rw[q_itT];exact at2
theorem RO{m:Mk}:aJ (kM m) (.int 4)=some (.int m.pr):=by unfold kM;rw[q_itT];exact qj
theorem pN(n:Nat):aS 0 1 n=((zas n).map λ(j:Nat)=>(j:Int)).map D.int:=by
 unfold aS;rw[zaq];refine List.map_congr_left λa _=>?_
 show D.int _=D.int _;have:(0:Int)+(a:Int)*1=(a:Int):=by lia
 rw[this]
theorem zR{c:Bv}{rest:List (Option D)}{p:Int->Bool}:∀(l:List Int) (o:Option D),(∀n∈l,c (some (.int n)::rest)=some (p n))->bD (aR 0) c (aD 0) (l.map .int) (o::rest)=some ((l.filter p).map .int)
 | [],o,_=>rfl
 | n::l,o,h=>by
  have ih:=zR (c:=c) (rest:=rest) (p:=p) l (some (.int n)) λm z=>h m (zap _ z)
  have q:=h n (zat ..);cases hp:p n with
  | true=>simp_all[bD,q,hp,ih]
  | false=>simp_all[bD,q,hp,ih]
theorem rF{C:Bk}{i:Int}{get:Ro->Int}{e:Int}(G:∀r,aJ (mD r) (.int i)=some (.int (get r)))(o:Option D):∃F:List Int,bD (aR 0) (qC (a7 qJ (a7 aJ (a7 aJ (a7 aJ (aD 1) (eC (.int 2))) (aD 0)) (eC (.int i))) (aD 2))) (aD 0) (aS 0 1 C.rs.length) [o,some (bB C),some (.int e)]=some (F.map .int)/\F.length<=C.rs.length/\∀n∈F,∃r,mC C.rs n=some r/\get r=e:=by
 have q:=zR (c:=qC (a7 qJ (a7 aJ (a7 aJ (a7 aJ (aD 1) (eC (.int 2))) (aD 0)) (eC (.int i))) (aD 2))) (rest:=[some (bB C),some (.int e)]) (p:=λn=>match mC C.rs n with|some r=>decide (get r=e)|none=>false) ((zas C.rs.length).map λ(j:Nat)=>(j:Int)) o λn B=>by
  obtain⟨k,J,rfl⟩:=List.mem_map.mp B;have:=List.mem_range.mp J;obtain⟨r,z⟩:=TY (rs:=C.rs) (n:=(k:Int)) (by lia) (by lia);simp_all[DN,xY z,G,z]
 rw[<- pN]at q;refine⟨_,q,?_,λn B=>?_⟩
 ·refine zaK (zc3 ..) ?_
  rw[zam,zcG];exact zaj _
 ·have:=(List.mem_filter.mp B).2
  cases z:mC C.rs n with
  | none=>simp[-zad,-zac,aA,aC,z]at this
  | some r=>simp[-zad,-zac,aA,aC,z]at this;exact⟨r,rfl,this⟩
theorem BS{C:Bk}(B:OkB C){j c:Int}(U:0<=j)(N:j<(C.kinds.length:Int)):∃(e:Int) (w:List Int),lG [bB C,.int j,.int c]=some (.tup [.int e,tupI w])/\gw C.rs j w=some e:=by
 suffices h:∃d,lG [bB C,.int j,.int c]=some d/\∃(e:Int) (w:List Int),d=.tup [.int e,tupI w]/\gw C.rs j w=some e by
  obtain⟨d,h1,e,w,rfl,h2⟩:=h;exact⟨e,w,h1,h2⟩
 have k6:=B.k6;refine dQ ?_;unfold rZ;rw[aH (aL (d:=tupI []) (by ac_rfl))];refine sO (λn ρ=>∃(e c:Int) (w:List Int) (o:Option D),ρ=[some (bB C),some (.int e),some (.int c),some (tupI w),o]/\gw C.rs j w=some e/\n=(6-e).toNat) (λρ=>∃(e c:Int) (w:List Int) (o:Option D),ρ=[some (bB C),some (.int e),some (.int c),some (tupI w),o]/\gw C.rs j w=some e) (6-j).toNat (by lia) ⟨j,c,[],none,by ac_rfl,rfl,rfl⟩ ?_ ?_
 ·rintro n ρ ⟨e,c,w,o,rfl,g,hn⟩
  by_cases G:0<c%3
  ·refine .inl ⟨by simp_all[bT,G],?_⟩
   have s:=dR B g U N;obtain⟨q,Y,ll,hl⟩:=rF (C:=C) (i:=0) (get:=(·.j)) (e:=e) (λr=>W3) none;have W:=B.gr.len;have rm:b8 [.int (C.rs.length:Int)]=some (aS 0 1 C.rs.length):=cV (by lia);have zz:aU C.rs.length=true:=decide_eq_true (by lia);rw[aH (aL (d:=.lst (q.map .int)) (by simp_all[DN,rm,bG,zz,iG,Y]))];by_cases J:q.length=0
   ·exact .inr ⟨.tup [.int e,tupI w],by simp_all[J],e,w,rfl,g⟩
   ·have F:(0:Int)<(q.length:Int):=by lia
    obtain⟨v,hv,hm⟩:=gD (ns:=q) (k:=c/3%(q.length:Int)) (zau _ (zaT F)) (zaw _ F);obtain⟨r,z,M⟩:=hl v (zav hm);have up:=(B.gr.jk r (qS z)).2.1;refine .inl ⟨(6-r.k).toNat,[some (bB C),some (.int r.k),some (.int (c/7)),some (tupI (w++[v])),some (.lst (q.map .int))],?_,?_,r.k,c/7,w++[v],_,rfl,Q0 g z M,rfl⟩
    ·have ah:r.j=e:=M
     lia
    ·have zw:aU (w.length+1)=true:=decide_eq_true (by lia)
     have ea:gN (w.map D.int++[.int v]) (w.length:Int)=some (.int v):=bR (by simp[-zad,-zac,aA,aC]);rw[aH (ρ':=[some (bB C),some (.int e),some (.int c),some (tupI w),some (.lst (q.map .int))]) (by simp_all[J])];rw[aH (aL (d:=tupI (w++[v])) (by simp_all[fP,bT F,hv,tupI,zw]))];rw[aH (aL (d:=.int r.k) (by simp_all[DN,tupI,ea,xY z,WU]))]
     ac_rfl
  ·exact .inr ⟨by simp_all[bT,G],e,c,w,o,rfl,g⟩
 ·rintro ρ ⟨e,c,w,o,rfl,g⟩
  exact⟨_,by simp[-zad,-zac,aA,aC],e,w,rfl,g⟩
theorem JF{rs:List Ro}{n f:Int}{w:List Int}{r:Ro}(q:mC rs n=some r)(h:gw rs r.k w=some f):gw rs r.j (n::w)=some f:=by
 show((mC rs n).bind λs=>if s.j=r.j then gw rs s.k w else none)=_;rw[q];show(if r.j=r.j then gw rs r.k w else none)=_;rw[if_pos rfl];exact h
theorem CO{C:Bk}(B:OkB C){k c:Int}(k0:0<=k)(k1:k<(C.kinds.length:Int)):∃(j:Int) (w:List Int),lE [bB C,.int k,.int c]=some (.tup [.int j,tupI w])/\gw C.rs j w=some k/\0<=j/\j<(C.kinds.length:Int):=by
 suffices h:∃d,lE [bB C,.int k,.int c]=some d/\∃(j:Int) (w:List Int),d=.tup [.int j,tupI w]/\gw C.rs j w=some k/\0<=j/\j<(C.kinds.length:Int) by
  obtain⟨d,h1,e,w,rfl,h2⟩:=h;exact⟨e,w,h1,h2⟩
 have k6:=B.k6;refine dQ ?_;unfold sJ;rw[aH (aL (d:=tupI []) (by ac_rfl))];refine sO (λn ρ=>∃(e c:Int) (w:List Int) (o:Option D),ρ=[some (bB C),some (.int e),some (.int c),some (tupI w),o]/\gw C.rs e w=some k/\0<=e/\e<(C.kinds.length:Int)/\n=e.toNat) (λρ=>∃(e c:Int) (w:List Int) (o:Option D),ρ=[some (bB C),some (.int e),some (.int c),some (tupI w),o]/\gw C.rs e w=some k/\0<=e/\e<(C.kinds.length:Int)) k.toNat (by lia) ⟨k,c,[],none,by ac_rfl,rfl,k0,k1,rfl⟩ ?_ ?_
 ·rintro n ρ ⟨e,c,w,o,rfl,g,J,F,hn⟩
  by_cases N:0<c%3
  ·refine .inl ⟨by simp_all[bT,N],?_⟩
   have s:=dR B g J F;obtain⟨q,el,ll,hl⟩:=rF (C:=C) (i:=1) (get:=(·.k)) (e:=e) (λr=>WU) none;have Y:=B.gr.len;have rm:b8 [.int (C.rs.length:Int)]=some (aS 0 1 C.rs.length):=cV (by lia);have zz:aU C.rs.length=true:=decide_eq_true (by lia);rw[aH (aL (d:=.lst (q.map .int)) (by simp_all[DN,rm,bG,zz,iG,el]))];by_cases U:q.length=0
   ·exact .inr ⟨.tup [.int e,tupI w],by simp_all[U],e,w,rfl,g,J,F⟩
   ·have G:(0:Int)<(q.length:Int):=by lia
    obtain⟨v,hv,hm⟩:=gD (ns:=q) (k:=c/3%(q.length:Int)) (zau _ (zaT G)) (zaw _ G);obtain⟨r,z,hj⟩:=hl v (zav hm);have W:=B.gr.jk r (qS z);have M:r.k=e:=hj;refine .inl ⟨r.j.toNat,[some (bB C),some (.int r.j),some (.int (c/7)),some (tupI (v::w)),some (.lst (q.map .int))],by lia,?_,r.j,c/7,v::w,_,rfl,JF z (by rw[M];exact g),W.1,by lia,rfl⟩;have zw:aU (1+w.length)=true:=decide_eq_true (by lia);rw[aH (ρ':=[some (bB C),some (.int e),some (.int c),some (tupI w),some (.lst (q.map .int))]) (by simp_all[U])];rw[aH (aL (d:=tupI (v::w)) (by simp_all[fP,bT G,hv,tupI,zw]))];rw[aH (aL (d:=.int r.j) (by simp_all[DN,tupI,at0,xY z,W3]))]
    ac_rfl
  ·exact .inr ⟨by simp_all[bT,N],e,c,w,o,rfl,g,J,F⟩
 ·rintro ρ ⟨e,c,w,o,rfl,g⟩
  exact⟨_,by simp[-zad,-zac,aA,aC],e,w,rfl,g⟩
theorem vM{C:Bk}{w:List Int}(h:∀n∈w,∃r,mC C.rs n=some r):∃ns:List Int,bD (aR 0) fQ (a7 aJ (a7 aJ (a7 aJ (aD 1) (eC (.int 2))) (aD 0)) (eC (.int 4))) (w.map .int) [none,some (bB C)]=some (ns.map .int)/\ns.sum=gL C.rs w:=by
 refine⟨w.map λn=>match mC C.rs n with|some r=>r.p|none=>0,?_,rfl⟩;rw[zaq];refine zC w none λn z=>?_
 obtain⟨r,q⟩:=h n z;simp_all[DN,xY q,qaf,q]
theorem rK{C:Bk}{w:List Int}(h:∀n∈w,∃r,mC C.rs n=some r)(z:w.length<=100):lJ [bB C,tupI w]=some (.int (gL C.rs w)):=by
 obtain⟨ns,e,hs⟩:=vM h;have q:aU w.length=true:=decide_eq_true (by lia);refine aG ?_;simp_all[sQ,aE,tupI,iG,q,e,hs]
theorem eB{R:List D->Option D}{q:Str}{pre:List D}{v w:List Int}(G:gN (pre++[tupI w]) 0=some (.str q))(J:¬ q = "let")(N:pre.length<=10)(hw:w.length+v.length<=100):bF 3 (eL R) [.tup (pre++[tupI w]),tupI v]=some (.tup (pre++[tupI (w++v)])):=by
 have a:gN (pre++[tupI w]) (pre.length:Int)=some (tupI w):=bR (by rw[zdj (zaj _),Nat.sub_self];rfl);have z:aU (pre.length+1)=true:=decide_eq_true (by lia);have M:=G6 (as:=pre) (bs:=[tupI w]);have B:dN (tupI w) (tupI v)=some (tupI (w++v)):=by
  have F:aU (w.length+v.length)=true:=decide_eq_true (by lia);simp_all[tupI,F]
 have e:((pre++[tupI w]).length:Int)-1=(pre.length:Int):=by simp[-zad,-zac,aA,aC]
 refine aG ?_;unfold eL;rw[aH (aL (d:=.int (pre.length:Int)) (by rw[<- e];rfl))];simp_all[aE,G,J,M,a,B,z]
theorem vA{v:List Int}(z:v.length<=6):∀(n:Nat) (g:Rg),size g<=n->Short g->gK 3 eL n [rd g,tupI v]=some (rd (beh g v))
 | 0,g,h,_=>by cases g <;> simp[-zad,-zac,aA,aC,size]at h
 | n+1,.name x j w,h,s=>eB (pre:=[.str "name",.str x]) at0 i5 (by simp[-zad,-zac,aA,aC]) (by have:w.length<=6:=s;lia)
 | n+1,.num m j w,h,s=>eB (pre:=[.str "number",.int m,.int j]) at0 g7 (by simp[-zad,-zac,aA,aC]) (by have:w.length<=6:=s;lia)
 | n+1,.use1 u nm p w,h,s=>eB (pre:=[.str "use",.int (u:Int),.tup [rd p]]) at0 oF (by simp[-zad,-zac,aA,aC]) (by have:w.length<=6:=s.2;lia)
 | n+1,.use2 u nm p q w,h,s=>eB (pre:=[.str "use",.int (u:Int),.tup [rd p,rd q]]) at0 oF (by simp[-zad,-zac,aA,aC]) (by have:w.length<=6:=s.2.2;lia)
 | n+1,.lett x j p q,h,s=>by
  have ih:=vA z n q (by simp only[size]at h;lia) s.2;have B:cutD [.str "let",.str x,.int j,rd p,rd q] none (some 4)=[.str "let",.str x,.int j,rd p]:=rfl;have F:aU 5=true:=rfl;refine aG ?_;simp_all[eL,aE,rd,beh,at0,qj,B,ih,F]
 | n+1,.pick c k p q r w,h,s=>eB (pre:=[.str "pick",.int c,.int k,rd p,rd q,rd r]) at0 g8 (by simp[-zad,-zac,aA,aC]) (by have:w.length<=6:=s.2.2.2;lia)
 | n+1,.again c k x p q w,h,s=>eB (pre:=[.str "again",.int c,.int k,.str x,rd p,rd q]) at0 fT (by simp[-zad,-zac,aA,aC]) (by have:w.length<=6:=s.2.2;lia)
theorem wQ{g:Rg}{v:List Int}(q:size g<=24)(s:Short g)(z:v.length<=6):mK [rd g,tupI v]=some (rd (beh g v)):=vA z 24 g q s
noncomputable def bL(p:Str×Int):D:=.tup [.str p.1,.int p.2]
def bE(C:Bk)(g:Rg)(k r:Int):D:=.tup [pt g,rd g,.int k,.int (size g:Int),.int (lets g),.int r,.int (cost C g)]
theorem l9{C:Bk}{g:Rg}{k r:Int}:aJ (bE C g k r) (.int 0)=some (pt g):=by unfold bE;rw[q_itT];exact at0
theorem oJ{C:Bk}{g:Rg}{k r:Int}:aJ (bE C g k r) (.int 1)=some (rd g):=by unfold bE;rw[q_itT];exact at1
theorem oK{C:Bk}{g:Rg}{k r:Int}:aJ (bE C g k r) (.int 2)=some (.int k):=by unfold bE;rw[q_itT];exact at2
theorem qaJ{C:Bk}{g:Rg}{k r:Int}:aJ (bE C g k r) (.int 3)=some (.int (size g:Int)):=by unfold bE;rw[q_itT];exact SA
theorem qaC{C:Bk}{g:Rg}{k r:Int}:aJ (bE C g k r) (.int 4)=some (.int (lets g)):=by unfold bE;rw[q_itT];exact qj
theorem qaH{C:Bk}{g:Rg}{k r:Int}:aJ (bE C g k r) (.int 5)=some (.int r):=by unfold bE;rw[q_itT];exact at5
theorem qaj{C:Bk}{g:Rg}{k r:Int}:aJ (bE C g k r) (.int 6)=some (.int (cost C g)):=by unfold bE;rw[q_itT];exact qk
theorem rP{j:Int}:∀(kn:List (Str×Int)) (o p:Option D),∃ss:List Str,bD (k7 2 (d7 (aR 0) (d7 (aR 1) uE))) (qC (a7 qJ (aD 1) (aD 2))) (aD 0) (kn.map bL) [o,p,some (.int j)]=some (ss.map .str)/\∀s∈ss,(s,j)∈kn
 | [],o,p=>⟨[],rfl,λ_ h=>nomatch h⟩
 | (x,i)::kn,o,p=>by
  obtain⟨ss,e,hs⟩:=rP (j:=j) kn (some (.str x)) (some (.int i));by_cases h:i=j
  ·refine⟨x::ss,by simp[-zad,-zac,aA,aC,bD,bL,h]at e ⊢;simp_all[e],λs q=>?_⟩
   rcases List.mem_cons.mp q with z|z
   ·rw[z,h];exact zat ..
   ·exact zap _ (hs s z)
  ·exact⟨ss,by simp[-zad,-zac,aA,aC,bD,bL,h]at e ⊢;simp_all[e],λs q=>zap _ (hs s q)⟩
theorem dH{C:Bk}(B:OkB C){kn:List (Str×Int)}{k c:Int}(hl:kn.length<=100)(k0:0<=k)(k1:k<(C.kinds.length:Int))(c0:0<=c)(c1:c<10^60):∃g,bM [bB C,.lst (kn.map bL),.int k,.int c]=some (bE C g k 0)/\WF C kn g k/\size g=1/\lets g=0/\∀U N,NF U N g:=by
 suffices h:∃d,bM [bB C,.lst (kn.map bL),.int k,.int c]=some d/\∃g,d=bE C g k 0/\WF C kn g k/\size g=1/\lets g=0/\∀U N,NF U N g by
  obtain⟨d,h1,g,rfl,h2⟩:=h;exact⟨g,h1,h2⟩
 have ad:(10:Int)^60=1000000000000000000000000000000000000000000000000000000000000:=by decide +kernel
 obtain⟨j,w,eb,q,J,W⟩:=CO B (k:=k) (c:=c/5) k0 k1;have sh:=dR B q J W;obtain⟨ss,es,hs⟩:=rP (j:=j) kn none none;have zk:aU kn.length=true:=decide_eq_true (by lia);have ec:=rK (C:=C) (xV q) (by lia);have Y:0<C.M:=by have:=B.M3;lia
 refine dQ ?_;unfold rV;rw[aH (ρ':=[some (bB C),some (.lst (kn.map bL)),some (.int k),some (.int c),some (.int j),some (tupI w),none,none,none,none]) (by ac_rfl)];rw[aH (aL (d:=.lst (ss.map .str)) (by simp_all[zk,iG,es]))];rw[aH (aL (d:=.int (gL C.rs w)) (by ac_rfl))];have num:∃d,dC (dU 9 (a7 eJ (a7 cR (a7 gO (aD 3) (eC (.int 11))) (eC (.int 982451653))) (a7 aJ (aD 0) (eC (.int 0)))))
   (IX (eY (aB (eY (aB (eC (.str "number")) (aB (aD 9) (aB (aD 4) aW)))) (aB (eY (aB (eC (.str "number")) (aB (aD 9) (aB (aD 4) (aB (aD 5) aW))))) (aB (aD 2) (aB (eC (.int 1)) (aB (eC (.int 0)) (aB (eC (.int 0)) (aB (aD 7) aW)))))))))
   [some (bB C),some (.lst (kn.map bL)),some (.int k),some (.int c),some (.int j),some (tupI w),some (.lst (ss.map .str)),some (.int (gL C.rs w)),none,none]=some (.rt d)/\∃g,d=bE C g k 0/\WF C kn g k/\size g=1/\lets g=0/\∀U N,NF U N g:=by
  have mu:cR (.int (c/11)) (.int 982451653)=some (.int (c/11*982451653)):=b9 (by lia) (by lia) (by decide +kernel) (by decide +kernel);have n0:=zau (c/11*982451653) (zaT Y);have n1:=zaw (c/11*982451653) Y;rw[aH (aL (d:=.int (c/11*982451653%C.M)) (by ac_rfl))];exact⟨_,by simp[-zad,-zac,aA,aC];rfl,.num (c/11*982451653%C.M) j w,by ac_rfl,⟨⟨n0,n1⟩,⟨J,W⟩,q⟩,rfl,rfl,λ_ _=>trivial⟩
 by_cases h1:1<c%5
 ·by_cases h2:ss.length=0
  ·rw[aH (ρ':=[some (bB C),some (.lst (kn.map bL)),some (.int k),some (.int c),some (.int j),some (tupI w),some (.lst (ss.map .str)),some (.int (gL C.rs w)),none,none]) (by simp_all[bT,h1,h2])]
   exact num
  ·have G:(0:Int)<(ss.length:Int):=by lia
   have F:0<ss.length:=by lia
   obtain⟨d,hm,_,hd⟩:=uC (l:=ss.map D.str) (k:=c/7%(ss.length:Int)) (zau _ (zaT G)) (by rw[zam];exact zaw _ G);obtain⟨s,z,rfl⟩:=List.mem_map.mp hm;refine⟨bE C (.name s j w) k 0,uB ?_,.name s j w,rfl,⟨hs s z,q⟩,rfl,rfl,λ_ _=>trivial⟩;simp_all[bT,h1,F,fP,bT G,hd,bE,pt,rd,size,lets,cost]
 ·rw[aH (ρ':=[some (bB C),some (.lst (kn.map bL)),some (.int k),some (.int c),some (.int j),some (tupI w),some (.lst (ss.map .str)),some (.int (gL C.rs w)),none,none]) (by ac_rfl)]
  exact num
local macro_rules | `(tactic|ac_rfl) => `(tactic|(with_reducible first|exact l9|exact oJ|exact oK|exact qaJ|exact qaC|exact uM|exact DN|exact qI|exact DJ|exact uL|exact IT|exact RO|exact at5|exact qk))
structure S7 where
 p:D
 q:D
 k:D
 a:Int
 b:Int
 r:Int
 c:Int
noncomputable def sD(s:S7):D:=.tup [s.p,s.q,s.k,.int s.a,.int s.b,.int s.r,.int s.c]
theorem s_3{s:S7}:aJ (sD s) (.int 3)=some (.int s.a):=by unfold sD;rw[q_itT];exact SA
theorem s_4{s:S7}:aJ (sD s) (.int 4)=some (.int s.b):=by unfold sD;rw[q_itT];exact qj
theorem s_5{s:S7}:aJ (sD s) (.int 5)=some (.int s.r):=by unfold sD;rw[q_itT];exact at5
theorem s_6{s:S7}:aJ (sD s) (.int 6)=some (.int s.c):=by unfold sD;rw[q_itT];exact qk
noncomputable def yC(w:Str):Int:=if w = "let" then 1 else 0
theorem lF{w0:Str}{l:List D}{q k:D}{ss:List S7}{own:Int}(Y:ss.length<=10):∃r:Int,aV [.tup (.str w0::l),q,k,.lst (ss.map sD),.int own]=some (.tup [.tup (.str w0::l),q,k,.int (1+(ss.map (·.a)).sum),.int (yC w0+(ss.map (·.b)).sum),.int r,.int (own+(ss.map (·.c)).sum)]):=by
 suffices h:∃d,aV [.tup (.str w0::l),q,k,.lst (ss.map sD),.int own]=some d/\∃r:Int,d=.tup [.tup (.str w0::l),q,k,.int (1+(ss.map (·.a)).sum),.int (yC w0+(ss.map (·.b)).sum),.int r,.int (own+(ss.map (·.c)).sum)] by
  obtain⟨d,e,r,rfl⟩:=h;exact⟨r,e⟩
 refine dQ ?_;unfold rL;rw[aH (aL (d:=.int 1) (by simp[-zad,-zac,aA,aC]))];rw[aH (aL (d:=.int (yC w0)) (by by_cases h:w0 = "let" <;> simp_all[aE,at0,yC,h]))];rw[aH (aL (d:=.int 0) (by simp[-zad,-zac,aA,aC]))];refine j9 (items:=aS 0 1 ss.length) (by simp_all[aE,cV (show ss.length<=1000000 by lia)]) (λi ρ=>∃(r:Int) (B F:Option D),ρ=[some (.tup (.str w0::l)),some q,some k,some (.lst (ss.map sD)),some (.int (own+((ss.take i).map (·.c)).sum)),some (.int (1+((ss.take i).map (·.a)).sum)),some (.int (yC w0+((ss.take i).map (·.b)).sum)),some (.int r),B,F]) ⟨0,none,none,by simp_all[aE]⟩ ?_ ?_
 ·rintro i x ρ hx ⟨r,B,F,rfl⟩
  obtain⟨M,rfl⟩:=bW hx;have W:(0:Int)+(i:Int)*1=(i:Int):=by lia
  rw[W];obtain⟨s,hs⟩:∃s,ss[i]?=some s:=⟨ss[i],zaR M⟩;have N:gN (ss.map sD) (i:Int)=some (sD s):=bR (by rw[zaB,hs];rfl);have U:(ss.take (i+1))=ss.take i++[s]:=by rw[zc0,hs];rfl
  rw[U];simp only[zaO,zak,zb8,List.sum_append_int,zbm,List.sum_nil,Int.add_zero];generalize ((ss.take i).map (·.a)).sum=A;generalize ((ss.take i).map (·.b)).sum=Bb;generalize ((ss.take i).map (·.c)).sum=Cc;have q3:=s_3 (s:=s);have q4:=s_4 (s:=s);have q5:=s_5 (s:=s);have q6:=s_6 (s:=s);have J:∃z:Int,aQ FV (aB (aD 7) (aB (a7 dN (a7 aJ (aD 9) (eC (.int 5))) (aQ BB (aB (W1 (a7 qJ (a7 aJ (aD 0) (eC (.int 0))) (eC (.str "again"))) (a7 qJ (aD 8) (eC (.int 1)))) aW))) aW)) [some (.tup (.str w0::l)),some q,some k,some (.lst (ss.map sD)),some (.int (own+Cc)),some (.int (1+A+s.a)),some (.int (yC w0+Bb+s.b)),some (.int r),some (.int (i:Int)),some (sD s)]=some (.int z):=by
   by_cases G:w0 = "again"
   ·by_cases h1:(i:Int)=1
    ·exact⟨_,by simp_all[at0,s_5,G,h1];rfl⟩
    ·exact⟨_,by simp_all[at0,s_5,G,h1];rfl⟩
   ·exact⟨_,by simp_all[at0,s_5,G];rfl⟩
  obtain⟨z,J⟩:=J;refine⟨[some (.tup (.str w0::l)),some q,some k,some (.lst (ss.map sD)),some (.int (own+(Cc+s.c))),some (.int (1+(A+s.a))),some (.int (yC w0+(Bb+s.b))),some (.int z),some (.int (i:Int)),some (sD s)],?_,z,_,_,rfl⟩;show(aR 8 _ _).bind _=_;rw[q_name,aA,<- zdK,<- zdK,<- zdK];rw[aH (aL (d:=sD s) (by ac_rfl))];rw[aH (aL (d:=.int (1+A+s.a)) (by ac_rfl))];rw[aH (aL (d:=.int (yC w0+Bb+s.b)) (by ac_rfl))];rw[aH (aL (d:=.int z) (by exact J))]
  ac_rfl
 ·rintro ρ ⟨r,B,F,rfl⟩
  rw[bG,zbz];exact⟨_,by simp[-zad,-zac,aA,aC],r,rfl⟩
def sG(C:Bk)(g:Rg)(k r:Int):S7:=⟨pt g,rd g,.int k,size g,lets g,r,cost C g⟩
structure Gs(U:List Str)(C:Bk)(kn:List (Str×Int))(g:Rg)(k:Int)(n:Nat):Prop where
 wf:WF C kn g k
 k0:0<=k
 k1:k<(C.kinds.length:Int)
 sz:size g<=n
 nf:NF U (kn.map (·.1)) g
theorem X8{C:Bk}{w0:Str}{l:List D}{q k:D}{g1:Rg}{k1 r1 own:Int}:∃r:Int,aV [.tup (.str w0::l),q,k,.lst [bE C g1 k1 r1],.int own]=some (.tup [.tup (.str w0::l),q,k,.int (1+(size g1:Int)),.int (yC w0+lets g1),.int r,.int (own+cost C g1)]):=by
 obtain⟨r,h⟩:=lF (w0:=w0) (l:=l) (q:=q) (k:=k) (ss:=[sG C g1 k1 r1]) (own:=own) (by simp[-zad,-zac,aA,aC]);exact⟨r,by simpa[sG,sD,bE]using h⟩
theorem NH{C:Bk}{w0:Str}{l:List D}{q k:D}{g1 g2:Rg}{k1 r1 k2 r2 own:Int}:∃r:Int,aV [.tup (.str w0::l),q,k,.lst [bE C g1 k1 r1,bE C g2 k2 r2],.int own]=some (.tup [.tup (.str w0::l),q,k,.int (1+((size g1:Int)+(size g2:Int))),.int (yC w0+(lets g1+lets g2)),.int r,.int (own+(cost C g1+cost C g2))]):=by
 obtain⟨r,h⟩:=lF (w0:=w0) (l:=l) (q:=q) (k:=k) (ss:=[sG C g1 k1 r1,sG C g2 k2 r2]) (own:=own) (by simp[-zad,-zac,aA,aC]);exact⟨r,by simpa[sG,sD,bE]using h⟩
theorem XQ{C:Bk}{w0:Str}{l:List D}{q k:D}{g1 g2 g3:Rg}{k1 r1 k2 r2 k3 r3 own:Int}:∃r:Int,aV [.tup (.str w0::l),q,k,.lst [bE C g1 k1 r1,bE C g2 k2 r2,bE C g3 k3 r3],.int own]=some (.tup [.tup (.str w0::l),q,k,.int (1+((size g1:Int)+((size g2:Int)+(size g3:Int)))),.int (yC w0+(lets g1+(lets g2+lets g3))),.int r,.int (own+(cost C g1+(cost C g2+cost C g3)))]):=by
 obtain⟨r,h⟩:=lF (w0:=w0) (l:=l) (q:=q) (k:=k) (ss:=[sG C g1 k1 r1,sG C g2 k2 r2,sG C g3 k3 r3]) (own:=own) (by simp[-zad,-zac,aA,aC]);exact⟨r,by simpa[sG,sD,bE]using h⟩
theorem FQ:yC "use" = 0:=by decide
theorem KU:yC "pick" = 0:=by decide
theorem HH:yC "again" = 0:=by decide
theorem PX:yC "let" = 1:=by decide
theorem qT{rs:List Ro}:gL rs []=0:=rfl
theorem MP{C:Bk}{v:Nat}{m:Mk}(h:C.makes[v]?=some m):mpr C v=m.pr:=by unfold mpr;rw[h];rfl
theorem mG{U:List Str}{C:Bk}(B:OkB C){kn:List (Str×Int)}(K:OkN C kn){g:Rg}{k r c:Int}{n:Nat}(G:Gs U C kn g k n)(hn:n<=24):∃g' z,iN [bB C,bE C g k r,.int c]=some (bE C g' z r)/\Gs U C kn g' z n/\size g'=size g/\lets g'=lets g:=by
 obtain⟨e,w,J,q⟩:=BS B (j:=k) (c:=c) G.k0 G.k1;have s:=dR B q G.k0 G.k1;have sh:=G.wf.short B K;have Y:=wQ (g:=g) (v:=w) (by have:=G.sz;lia) sh.1 s.1;have M:=rK (C:=C) (xV q) (by lia);refine⟨beh g w,e,aG ?_,⟨G.wf.beh q,s.2.1,s.2.2,by rw[nC];exact G.sz,G.nf.beh⟩,nC g w,tH g w⟩;unfold mP;rw[aH (ρ':=[some (bB C),some (bE C g k r),some (.int c),some (.int e),some (tupI w)]) (by simp_all[aE,oK,J])];have W:yA (bE C g k r) (some 3) (some 6)=some (.tup [.int (size g:Int),.int (lets g),.int r]):=rfl;have F:aU 6=true:=rfl;have N:aU 7=true:=rfl;simp_all[l9,oJ,qaj,Y,M,W,F,N];simp_all[bE,MX,nC,tH,AU]
theorem nP{C:Bk}{v:Nat}{m:Mk}(h:C.makes[v]?=some m):gN (C.makes.map kM) (v:Int)=some (kM m):=bR (by rw[zaB,h];rfl)
noncomputable def JA(p:Nat×Nat):D:=.tup [.int (p.1:Int),.int (p.2:Int)]
theorem QC{C:Bk}{v:Nat}{m:Mk}(z:C.makes[v]?=some m){g:Rg}{k1 r1:Int}:∃r,aV [.tup [.str "use",.str m.nm,.tup [pt g]],.tup [.str "use",.int (v:Int),.tup [rd g],.tup []],.int m.g,.lst [bE C g k1 r1],.int m.pr]=some (bE C (.use1 v m.nm g []) m.g r):=by
 obtain⟨r,h⟩:=X8 (C:=C) (w0 := "use") (l:=[.str m.nm,.tup [pt g]]) (q:=.tup [.str "use",.int (v:Int),.tup [rd g],.tup []]) (k:=.int m.g) (g1:=g) (k1:=k1) (r1:=r1) (own:=m.pr);exact⟨r,h.trans (by simp_all[bE,pt,rd,size,lets,cost,tupI,MP z,qT,FQ])⟩
theorem D4{C:Bk}{v:Nat}{m:Mk}(z:C.makes[v]?=some m){g g':Rg}{k1 r1 k2 r2:Int}:∃r,aV [.tup [.str "use",.str m.nm,.tup [pt g,pt g']],.tup [.str "use",.int (v:Int),.tup [rd g,rd g'],.tup []],.int m.g,.lst [bE C g k1 r1,bE C g' k2 r2],.int m.pr]=some (bE C (.use2 v m.nm g g' []) m.g r):=by
 obtain⟨r,h⟩:=NH (C:=C) (w0 := "use") (l:=[.str m.nm,.tup [pt g,pt g']]) (q:=.tup [.str "use",.int (v:Int),.tup [rd g,rd g'],.tup []]) (k:=.int m.g) (g1:=g) (k1:=k1) (r1:=r1) (g2:=g') (k2:=k2) (r2:=r2) (own:=m.pr);exact⟨r,h.trans (by simp_all[bE,pt,rd,size,lets,cost,tupI,MP z,qT,FQ])⟩
theorem MS{C:Bk}{x:Str}{j k:Int}{g g':Rg}{k1 r1 k2 r2:Int}:∃r,aV [.tup [.str "let",.str x,pt g,pt g'],.tup [.str "let",.str x,.int j,rd g,rd g'],.int k,.lst [bE C g k1 r1,bE C g' k2 r2],.int 0]=some (bE C (.lett x j g g') k r):=by
 obtain⟨r,h⟩:=NH (C:=C) (w0 := "let") (l:=[.str x,pt g,pt g']) (q:=.tup [.str "let",.str x,.int j,rd g,rd g']) (k:=.int k) (g1:=g) (k1:=k1) (r1:=r1) (g2:=g') (k2:=k2) (r2:=r2) (own:=0);exact⟨r,h.trans (by simp_all[bE,pt,rd,size,lets,cost,PX])⟩
theorem y9{C:Bk}{x:Str}{n j k:Int}{g g':Rg}{k1 r1 k2 r2:Int}:∃r,aV [.tup [.str "again",.int n,.int j,.str x,pt g,pt g'],.tup [.str "again",.int n,.int j,.str x,rd g,rd g',.tup []],.int k,.lst [bE C g k1 r1,bE C g' k2 r2],.int 0]=some (bE C (.again n j x g g' []) k r):=by
 obtain⟨r,h⟩:=NH (C:=C) (w0 := "again") (l:=[.int n,.int j,.str x,pt g,pt g']) (q:=.tup [.str "again",.int n,.int j,.str x,rd g,rd g',.tup []]) (k:=.int k) (g1:=g) (k1:=k1) (r1:=r1) (g2:=g') (k2:=k2) (r2:=r2) (own:=0);exact⟨r,h.trans (by simp_all[bE,pt,rd,size,lets,cost,tupI,qT,HH])⟩
theorem w9{C:Bk}{c j k:Int}{g g' g2:Rg}{k1 r1 k2 r2 k3 r3:Int}:∃r,aV [.tup [.str "pick",.int c,.int j,pt g,pt g',pt g2],.tup [.str "pick",.int c,.int j,rd g,rd g',rd g2,.tup []],.int k,.lst [bE C g k1 r1,bE C g' k2 r2,bE C g2 k3 r3],.int 0]=some (bE C (.pick c j g g' g2 []) k r):=by
 obtain⟨r,h⟩:=XQ (C:=C) (w0 := "pick") (l:=[.int c,.int j,pt g,pt g',pt g2]) (q:=.tup [.str "pick",.int c,.int j,rd g,rd g',rd g2,.tup []]) (k:=.int k) (g1:=g) (k1:=k1) (r1:=r1) (g2:=g') (k2:=k2) (r2:=r2) (g3:=g2) (k3:=k3) (r3:=r3) (own:=0);exact⟨r,h.trans (by simp_all[bE,pt,rd,size,lets,cost,tupI,qT,KU])⟩
theorem xI{bk K s c B F q R nm J pd:D}{o:Option D}{z G zs ps rs:List D}(h1:aJ q (.int 1)=some (.tup z))(h0:aJ q (.int 0)=some nm)(h2:aJ q (.int 2)=some J)(W:aJ q (.int 4)=some pd)(tl:z.length<=2)(U:zs.length<=2)(N:bD (aR 0) fQ (aQ bM (aB (aD 1) (aB (aD 2) (aB (aD 0) (aB (a7 gO (aD 3) (eC (.int 6))) aW))))) z [none,some bk,some K,some c]=some G)(pu:mB (.lst G) F s=some (.lst zs))
  (c0:bD (aR 0) fQ (a7 aJ (aD 0) (eC (.int 0))) zs [none]=some ps) (c1:bD (aR 0) fQ (a7 aJ (aD 0) (eC (.int 1))) zs [none]=some rs) (Y:aV [.tup [.str "use",nm,.tup ps],.tup [.str "use",B,.tup rs,.tup []],J,.lst zs,pd]=some R) :
  dC (dU 8 (dS [none,some 0,some 1,some 3] (fU (a7 aJ (aD 7) (eC (.int 1)))) (aR 0) fQ (aQ bM (aB (aD 1) (aB (aD 2) (aB (aD 0) (aB (a7 gO (aD 3) (eC (.int 6))) aW)))))))
   (dC (DR 8 (aD 6) (aD 2))
   (dC (dU 9 (eY (aB (eC (.str "use")) (aB (a7 aJ (aD 7) (eC (.int 0))) (aB (aQ kE (aB (dS [none] (fU (aD 8)) (aR 0) fQ (a7 aJ (aD 0) (eC (.int 0)))) aW)) aW)))))
   (dC (dU 10 (eY (aB (eC (.str "use")) (aB (aD 5) (aB (aQ kE (aB (dS [none] (fU (aD 8)) (aR 0) fQ (a7 aJ (aD 0) (eC (.int 1)))) aW)) (aB (eY aW) aW))))))
   (IX (aQ aV (aB (aD 9) (aB (aD 10) (aB (a7 aJ (aD 7) (eC (.int 2))) (aB (aD 8) (aB (a7 aJ (aD 7) (eC (.int 4))) aW)))))))))) [some bk,some K,some s,some c,o,some B,some F,some q,none,none,none]=some (.rt R):=by
 have M:bD (aR 0) fQ (aQ bM (aB (aD 1) (aB (aD 2) (aB (aD 0) (aB (a7 gO (aD 3) (eC (.int 6))) aW))))) z (iG [none,some 0,some 1,some 3] [some bk,some K,some s,some c,o,some B,some F,some q,none,none,none])=some G:=N
 ac_rfl
theorem KO{U:List Str}{C:Bk}(B:OkB C){kn:List (Str×Int)}(hk:kn.length<=100){g:Rg}{k r c:Int}{n:Nat}(G:Gs U C kn g k n)(c0:0<=c)(c1:c<10^60){v a:Nat}{m:Mk}(N:C.makes[v]?=some m)(q:m.takes[a]?=some k)(o:Option D) :
  ∃g' k' M,dC (dU 8 (dS [none,some 0,some 1,some 3] (fU (a7 aJ (aD 7) (eC (.int 1)))) (aR 0) fQ (aQ bM (aB (aD 1) (aB (aD 2) (aB (aD 0) (aB (a7 gO (aD 3) (eC (.int 6))) aW)))))))
   (dC (DR 8 (aD 6) (aD 2))
   (dC (dU 9 (eY (aB (eC (.str "use")) (aB (a7 aJ (aD 7) (eC (.int 0))) (aB (aQ kE (aB (dS [none] (fU (aD 8)) (aR 0) fQ (a7 aJ (aD 0) (eC (.int 0)))) aW)) aW)))))
   (dC (dU 10 (eY (aB (eC (.str "use")) (aB (aD 5) (aB (aQ kE (aB (dS [none] (fU (aD 8)) (aR 0) fQ (a7 aJ (aD 0) (eC (.int 1)))) aW)) (aB (eY aW) aW))))))
   (IX (aQ aV (aB (aD 9) (aB (aD 10) (aB (a7 aJ (aD 7) (eC (.int 2))) (aB (aD 8) (aB (a7 aJ (aD 7) (eC (.int 4))) aW)))))))))) [some (bB C),some (.lst (kn.map bL)),some (bE C g k r),some (.int c),o,some (.int (v:Int)),some (.int (a:Int)),some (kM m),none,none,none]=some (.rt (bE C g' k' M))/\Gs U C kn g' k' (n+2):=by
 have W:=zav N;have ak:(10:Int)^60=1000000000000000000000000000000000000000000000000000000000000:=by decide +kernel
 have Y:=B.gb m W;have tb:=B.tb m W;have sz:=G.sz;rcases B.tk m W with⟨t,J⟩|⟨t,u,J⟩
 ·rw[J]at q tb
  have m1:aJ (kM m) (.int 1)=some (.tup [.int t]):=by rw[uL,J];rfl
  have F:=tb t (by simp[-zad,-zac,aA,aC]);obtain⟨g2,e2,w2,s2,l2,n2⟩:=dH B (kn:=kn) (k:=t) (c:=c/6) hk F.1 F.2 (by lia) (by lia)
  match a,q with
  | 0,q=>
   have z:t=k:=by simpa using q
   subst z;obtain⟨M,eo⟩:=QC N (g:=g) (k1:=t) (r1:=r);have pu:mB (.lst [bE C g2 t 0]) (.int 0) (bE C g t r)=some (.lst [bE C g t r]):=lT (by decide) (by simp[-zad,-zac,aA,aC]);exact⟨.use1 v m.nm g [],m.g,M,xI (bk:=bB C) (K:=.lst (kn.map bL)) (c:=.int c) m1 DJ IT RO (by simp[-zad,-zac,aA,aC]) (by simp[-zad,-zac,aA,aC]) (by ac_rfl) pu (by ac_rfl) (by ac_rfl) eo,⟨⟨m,t,N,rfl,J,G.wf,rfl⟩,Y.1,Y.2,by simp only[size];lia,G.nf⟩⟩
  | a+1,q=>simp[-zad,-zac,aA,aC]at q
 ·rw[J]at q tb
  have m1:aJ (kM m) (.int 1)=some (.tup [.int t,.int u]):=by rw[uL,J];rfl
  have F:=tb t (by simp[-zad,-zac,aA,aC]);have aa:=tb u (by simp[-zad,-zac,aA,aC]);obtain⟨g2,e2,w2,s2,l2,n2⟩:=dH B (kn:=kn) (k:=t) (c:=c/6) hk F.1 F.2 (by lia) (by lia);obtain⟨g3,e3,w3,s3,l3,n3⟩:=dH B (kn:=kn) (k:=u) (c:=c/6) hk aa.1 aa.2 (by lia) (by lia)
  match a,q with
  | 0,q=>
   have z:t=k:=by simpa using q
   subst z;obtain⟨M,eo⟩:=D4 N (g:=g) (k1:=t) (r1:=r) (g':=g3) (k2:=u) (r2:=0);have pu:mB (.lst [bE C g2 t 0,bE C g3 u 0]) (.int 0) (bE C g t r)=some (.lst [bE C g t r,bE C g3 u 0]):=lT (by decide) (by simp[-zad,-zac,aA,aC]);exact⟨.use2 v m.nm g g3 [],m.g,M,xI (bk:=bB C) (K:=.lst (kn.map bL)) (c:=.int c) m1 DJ IT RO (by simp[-zad,-zac,aA,aC]) (by simp[-zad,-zac,aA,aC]) (by ac_rfl) pu (by ac_rfl) (by ac_rfl) eo,⟨⟨m,t,u,N,rfl,J,G.wf,w3,rfl⟩,Y.1,Y.2,by simp only[size];lia,⟨G.nf,n3 _ _⟩⟩⟩
  | 1,q=>
   have z:u=k:=by simpa using q
   subst z;obtain⟨M,eo⟩:=D4 N (g:=g2) (k1:=t) (r1:=0) (g':=g) (k2:=u) (r2:=r);have pu:mB (.lst [bE C g2 t 0,bE C g3 u 0]) (.int 1) (bE C g u r)=some (.lst [bE C g2 t 0,bE C g u r]):=lT (by decide) (by simp[-zad,-zac,aA,aC]);exact⟨.use2 v m.nm g2 g [],m.g,M,xI (bk:=bB C) (K:=.lst (kn.map bL)) (c:=.int c) m1 DJ IT RO (by simp[-zad,-zac,aA,aC]) (by simp[-zad,-zac,aA,aC]) (by ac_rfl) pu (by ac_rfl) (by ac_rfl) eo,⟨⟨m,t,u,N,rfl,J,w2,G.wf,rfl⟩,Y.1,Y.2,by simp only[size];lia,⟨n2 _ _,G.nf⟩⟩⟩
  | a+2,q=>simp[-zad,-zac,aA,aC]at q
theorem Gs.mono{U:List Str}{C:Bk}{kn:List (Str×Int)}{g:Rg}{k:Int}{n n':Nat}(G:Gs U C kn g k n)(h:n<=n'):Gs U C kn g k n':=⟨G.wf,G.k0,G.k1,zaK G.sz h,G.nf⟩
theorem CU{U:List Str}{C:Bk}(B:OkB C){kn:List (Str×Int)}(hk:kn.length<=100){g:Rg}{k r c:Int}{n:Nat}(G:Gs U C kn g k n)(c0:0<=c)(c1:c<10^60):∃g' F M,lC [bB C,.lst (kn.map bL),bE C g k r,.int c]=some (bE C g' F M)/\Gs U C kn g' F (n+2):=by
 suffices h:∃d,lC [bB C,.lst (kn.map bL),bE C g k r,.int c]=some d/\∃g' F M,d=bE C g' F M/\Gs U C kn g' F (n+2) by
  obtain⟨d,h1,g',F,M,rfl,h2⟩:=h;exact⟨g',F,M,h1,h2⟩
 have ml:=B.ml;refine dQ ?_;unfold sT;rw[aH (aL (d:=.lst []) (by simp[-zad,-zac,aA,aC]))];refine j9 (items:=aS 0 1 C.makes.length) (by simp_all[aE,qI,cV (show C.makes.length<=1000000 by lia)]) (λi ρ=>∃(ps:List (Nat×Nat)) (o5 q:Option D),ρ=[some (bB C),some (.lst (kn.map bL)),some (bE C g k r),some (.int c),some (.lst (ps.map JA)),o5,q,none,none,none,none]/\(∀p∈ps,∃m,C.makes[p.1]?=some m/\m.takes[p.2]?=some k)/\ps.length<=2*i) ⟨[],none,none,by simp_all[aE],(λ_ h=>nomatch h),by simp[-zad,-zac,aA,aC]⟩ ?_ ?_
 ·rintro i x ρ hx ⟨ps,o5,q,rfl,W,hl⟩
  obtain⟨J,rfl⟩:=bW hx;have e0:(0:Int)+(i:Int)*1=(i:Int):=by lia
  rw[e0];obtain⟨m,N⟩:∃m,C.makes[i]?=some m:=⟨C.makes[i],zaR J⟩;have al:=zav N;have tl:m.takes.length<=2:=by rcases B.tk m al with⟨t,et⟩|⟨t,u,et⟩ <;> rw[et] <;> simp[-zad,-zac,aA,aC]
  obtain⟨ρ',e,ag,ah,rfl,ae,ad⟩:=xW (g:=aR 6) (b:=BJ (qC (a7 qJ (a7 aJ (a7 aJ (a7 aJ (a7 aJ (aD 0) (eC (.int 3))) (aD 5)) (eC (.int 1))) (aD 6)) (a7 aJ (aD 2) (eC (.int 2))))) (IN 4 (eY (aB (aD 5) (aB (aD 6) aW)))) SD) (items:=aS 0 1 m.takes.length) (ρ:=[some (bB C),some (.lst (kn.map bL)),some (bE C g k r),some (.int c),some (.lst (ps.map JA)),some (.int (i:Int)),q,none,none,none,none]) (λj ρ=>∃(ps:List (Nat×Nat)) (q:Option D),ρ=[some (bB C),some (.lst (kn.map bL)),some (bE C g k r),some (.int c),some (.lst (ps.map JA)),some (.int (i:Int)),q,none,none,none,none]/\(∀p∈ps,∃m,C.makes[p.1]?=some m/\m.takes[p.2]?=some k)/\ps.length<=2*i+j) ⟨ps,q,rfl,W,hl⟩ (by
   rintro j x ρ hx ⟨ps,q,rfl,W,hl⟩;obtain⟨J,rfl⟩:=bW hx;have e0:(0:Int)+(j:Int)*1=(j:Int):=by lia
   rw[e0];obtain⟨t,ht⟩:∃t,m.takes[j]?=some t:=⟨m.takes[j],zaR J⟩;have Y:gN (m.takes.map D.int) (j:Int)=some (.int t):=bR (by rw[zaB,ht];rfl);have hz:aU ps.length=true:=decide_eq_true (by lia);by_cases h:t=k
   ·refine⟨[some (bB C),some (.lst (kn.map bL)),some (bE C g k r),some (.int c),some (.lst ((ps++[(i,j)]).map JA)),some (.int (i:Int)),some (.int (j:Int)),none,none,none,none],?_,ps++[(i,j)],_,rfl,λp af=>?_,by simp[-zad,-zac,aA,aC];lia⟩
    ·simp_all[turn,qI,nP N,uL,tupI,Y,oK,h,hz,JA]
    ·rcases List.mem_append.mp af with z|z
     ·exact W p z
     ·rw[List.mem_singleton.mp z];exact⟨m,N,by rw[<- h];exact ht⟩
   ·refine⟨[some (bB C),some (.lst (kn.map bL)),some (bE C g k r),some (.int c),some (.lst (ps.map JA)),some (.int (i:Int)),some (.int (j:Int)),none,none,none,none],?_,ps,_,rfl,W,by lia⟩
    simp_all[turn,qI,nP N,uL,tupI,Y,oK,h])
  rw[bG]at ad;refine⟨_,?_,ag,some (.int (i:Int)),ah,rfl,ae,by lia⟩;show(aR 5 _ _).bind _=_;rw[q_name,aA,q_for];have hf:lR b8 (aB (aQ gM (aB (a7 aJ (a7 aJ (a7 aJ (aD 0) (eC (.int 3))) (aD 5)) (eC (.int 1))) aW)) aW) [some (bB C),some (.lst (kn.map bL)),some (bE C g k r),some (.int c),some (.lst (ps.map JA)),some (.int (i:Int)),q,none,none,none,none]=some (aS 0 1 m.takes.length):=by
   simp_all[qI,nP N,uL,tupI,cV (show m.takes.length<=1000000 by lia)]
  exact(congrArg (λz=>zcF z _) hf).trans e
 ·rintro ρ ⟨ps,o5,q,rfl,W,hl⟩
  rw[bG]at hl;by_cases h0:ps.length=0
  ·exact⟨bE C g k r,uB (by simp_all[h0]),g,k,r,rfl,G.mono (by lia)⟩
  ·have lp:(0:Int)<(ps.length:Int):=by lia
   obtain⟨d,N,_,hd⟩:=uC (l:=ps.map JA) (k:=c%(ps.length:Int)) (zau _ (zaT lp)) (by rw[zam];exact zaw _ lp);obtain⟨⟨v,a⟩,ak,rfl⟩:=List.mem_map.mp N;obtain⟨m,aa,ha⟩:=W _ ak;obtain⟨g',F,M,e,G'⟩:=KO B hk (r:=r) G c0 c1 aa ha (some (.lst (ps.map JA)));rw[aH (ρ':=[some (bB C),some (.lst (kn.map bL)),some (bE C g k r),some (.int c),some (.lst (ps.map JA)),o5,q,none,none,none,none]) (by simp_all[h0])];rw[aH (ρ':=[some (bB C),some (.lst (kn.map bL)),some (bE C g k r),some (.int c),some (.lst (ps.map JA)),some (.int (v:Int)),some (.int (a:Int)),none,none,none,none]) (by simp_all[bT lp,hd];simp_all[JA])];rw[aH (aL (d:=kM m) (by simp_all[qI,nP aa]))];exact⟨_,e,g',F,M,rfl,G'⟩
theorem lI{bk K s R p0 p1 p2 W r1 r2 Y J N B G F:D}{y a k c z:Int}{L:List D}(ha:eJ (.int y) (.int 3)=some (.int a))(hs:aJ s (.int 2)=some (.int k))(M:aJ bk (.int 1)=some (.tup L))(hq:∃q:Int,eJ (.int (y/3)) (.int (L.length:Int))=some (.int q)/\((a=0/\c=k/\z=q)\/(¬ a=0/\c=q/\z=k)))(e0:bM [bk,K,.int c,.int (y/5)]=some Y)(e1:bM [bk,K,.int z,.int (y/7)]=some J)(e2:bM [bk,K,.int z,.int (y/11)]=some N)(pu:mB (.lst ([Y,J]++[N])) (.int a) s=some (.lst [B,G,F]))
  (a0:aJ B (.int 0)=some p0) (a1:aJ G (.int 0)=some p1) (a2:aJ F (.int 0)=some p2) (b0:aJ B (.int 1)=some W) (b1:aJ G (.int 1)=some r1) (b2:aJ F (.int 1)=some r2) (eo:aV [.tup [.str "pick",.int c,.int z,p0,p1,p2],.tup [.str "pick",.int c,.int z,W,r1,r2,.tup []],.int z,.lst [B,G,F],.int 0]=some R):iK [bk,K,s,.int y]=some R:=by
 refine aG ?_;unfold mN;rw[aH (aL (d:=.int a) (by ac_rfl)),aH (aL (d:=.int k) (by ac_rfl)),aH (aL (d:=.int k) (by ac_rfl))];have ei:BJ (qC (a7 qJ (aD 4) (eC (.int 0)))) (dU 6 (a7 eJ (a7 gO (aD 3) (eC (.int 3))) (aQ gM (aB (a7 aJ (aD 0) (eC (.int 1))) aW)))) (dU 5 (a7 eJ (a7 gO (aD 3) (eC (.int 3))) (aQ gM (aB (a7 aJ (aD 0) (eC (.int 1))) aW)))) [some bk,some K,some s,some (.int y),some (.int a),some (.int k),some (.int k),none,none]=some (.nx [some bk,some K,some s,some (.int y),some (.int a),some (.int c),some (.int z),none,none]):=by
  obtain⟨q,U,⟨h,rfl,rfl⟩|⟨h,rfl,rfl⟩⟩:=hq
  ·simp_all[h,M,fP,U]
  ·simp_all[h,M,fP,U]
 refine Eq.trans (aH ei) ?_
 ac_rfl
theorem wI{U:List Str}{C:Bk}(B:OkB C){kn:List (Str×Int)}(hk:kn.length<=100){g:Rg}{k r y:Int}{n:Nat}(G:Gs U C kn g k n)(y0:0<=y)(y1:y<10^60):∃g' k' M,iK [bB C,.lst (kn.map bL),bE C g k r,.int y]=some (bE C g' k' M)/\Gs U C kn g' k' (n+3):=by
 have aq:(10:Int)^60=1000000000000000000000000000000000000000000000000000000000000:=by decide +kernel
 have mp:(0:Int)<(C.kinds.length:Int):=by have:=B.k1;lia
 have F:=zau (y/3) (zaT mp);have J:=zaw (y/3) mp;have sz:=G.sz;have dm:∀ {a:Int},y%3=a->eJ (.int y) (.int 3)=some (.int a):=λ{a} h=>by rw[bT (by decide),h]
 have dq:eJ (.int (y/3)) (.int ((C.kinds.map D.str).length:Int))=some (.int (y/3%(C.kinds.length:Int))):=by rw[zam];exact bT mp
 have N:∀(k:Int),0<=k->k<(C.kinds.length:Int)->∀c:Int,0<=c->c<10^60->_:=λk h0 h1 c c0 c1=>dH B (kn:=kn) (k:=k) (c:=c) hk h0 h1 c0 c1
 generalize y/3%(C.kinds.length:Int)=q at F J dq;by_cases h:y%3=0
 ·obtain⟨z,e0,w0,s0,l0,o0⟩:=N k G.k0 G.k1 (y/5) (by lia) (by lia)
  obtain⟨g1,e1,w1,s1,l1,o1⟩:=N q F J (y/7) (by lia) (by lia);obtain⟨g2,e2,w2,s2,l2,o2⟩:=N q F J (y/11) (by lia) (by lia);obtain⟨M,Y⟩:=w9 (C:=C) (c:=k) (j:=q) (k:=q) (g:=g) (k1:=k) (r1:=r) (g':=g1) (k2:=q) (r2:=0) (g2:=g2) (k3:=q) (r3:=0);have W:mB (.lst [bE C z k 0,bE C g1 q 0,bE C g2 q 0]) (.int 0) (bE C g k r)=some (.lst [bE C g k r,bE C g1 q 0,bE C g2 q 0]):=lT (by decide) (by simp[-zad,-zac,aA,aC]);exact⟨.pick k q g g1 g2 [],q,M,lI (dm h) oK uM ⟨q,dq,.inl ⟨rfl,rfl,rfl⟩⟩ e0 e1 e2 W l9 l9 l9 oJ oJ oJ Y,⟨⟨⟨G.k0,G.k1⟩,⟨F,J⟩,G.wf,w1,w2,rfl⟩,F,J,by simp only[size];lia,⟨G.nf,o1 _ _,o2 _ _⟩⟩⟩
 ·obtain⟨z,e0,w0,s0,l0,o0⟩:=N q F J (y/5) (by lia) (by lia)
  obtain⟨g1,e1,w1,s1,l1,o1⟩:=N k G.k0 G.k1 (y/7) (by lia) (by lia);obtain⟨g2,e2,w2,s2,l2,o2⟩:=N k G.k0 G.k1 (y/11) (by lia) (by lia);rcases(by lia:y%3=1\/y%3=2)with h|h
  ·obtain⟨M,Y⟩:=w9 (C:=C) (c:=q) (j:=k) (k:=k) (g:=z) (k1:=q) (r1:=0) (g':=g) (k2:=k) (r2:=r) (g2:=g2) (k3:=k) (r3:=0)
   have W:mB (.lst [bE C z q 0,bE C g1 k 0,bE C g2 k 0]) (.int 1) (bE C g k r)=some (.lst [bE C z q 0,bE C g k r,bE C g2 k 0]):=lT (by decide) (by simp[-zad,-zac,aA,aC]);exact⟨.pick q k z g g2 [],k,M,lI (dm h) oK uM ⟨q,dq,.inr ⟨by decide,rfl,rfl⟩⟩ e0 e1 e2 W l9 l9 l9 oJ oJ oJ Y,⟨⟨⟨F,J⟩,⟨G.k0,G.k1⟩,w0,G.wf,w2,rfl⟩,G.k0,G.k1,by simp only[size];lia,⟨o0 _ _,G.nf,o2 _ _⟩⟩⟩
  ·obtain⟨M,Y⟩:=w9 (C:=C) (c:=q) (j:=k) (k:=k) (g:=z) (k1:=q) (r1:=0) (g':=g1) (k2:=k) (r2:=0) (g2:=g) (k3:=k) (r3:=r)
   have W:mB (.lst [bE C z q 0,bE C g1 k 0,bE C g2 k 0]) (.int 2) (bE C g k r)=some (.lst [bE C z q 0,bE C g1 k 0,bE C g k r]):=lT (by decide) (by simp[-zad,-zac,aA,aC]);exact⟨.pick q k z g1 g [],k,M,lI (dm h) oK uM ⟨q,dq,.inr ⟨by decide,rfl,rfl⟩⟩ e0 e1 e2 W l9 l9 l9 oJ oJ oJ Y,⟨⟨⟨F,J⟩,⟨G.k0,G.k1⟩,w0,w1,G.wf,rfl⟩,G.k0,G.k1,by simp only[size];lia,⟨o0 _ _,o1 _ _,G.nf⟩⟩⟩
theorem EY{kn:List (Str×Int)}{x:Str}{k:Int}(z:kn.length<=99):dN (.lst (kn.map bL)) (.lst [.tup [.str x,.int k]])=some (.lst ((kn++[(x,k)]).map bL)):=by
 have q:aU (kn.length+1)=true:=decide_eq_true (by lia);simp_all[q,bL]
theorem vO{kn:List (Str×Int)}{x:Str×Int}:∀p∈kn++[x],p∈x::kn:=λp q=>by
 rcases List.mem_append.mp q with z|z
 ·exact zap _ z
 ·rw[List.mem_singleton.mp z];exact zat ..
theorem wL{U:List Str}{C:Bk}(B:OkB C){kn:List (Str×Int)}(hk:kn.length<=99){g:Rg}{k r y:Int}{x:Str}{n:Nat}(hx:x∉kn.map (·.1))(M:x∈U)(G:Gs U C kn g k n)(y0:0<=y)(y1:y<10^60):∃g' F q,mL [bB C,.lst (kn.map bL),bE C g k r,.str x,.int y]=some (bE C g' F q)/\Gs U C kn g' F (n+2):=by
 have W:(10:Int)^60=1000000000000000000000000000000000000000000000000000000000000:=by decide +kernel
 have a0:=zau y (show(4:Int)≠0 by decide);have J:=zaw y (show(0:Int)<4 by decide);have sz:=G.sz;obtain⟨z,N,w0,s0,l0,Y⟩:=dH B (kn:=kn++[(x,k)]) (k:=k) (c:=y/4) (by simp[-zad,-zac,aA,aC];lia) G.k0 G.k1 (by lia) (by lia);obtain⟨q,eo⟩:=y9 (C:=C) (x:=x) (n:=y%4) (j:=k) (k:=k) (g:=g) (k1:=k) (r1:=r) (g':=z) (k2:=k) (r2:=0);refine⟨.again (y%4) k x g z [],k,q,aG ?_,⟨⟨⟨a0,J⟩,⟨G.k0,G.k1⟩,G.wf,w0.mono vO,rfl⟩,G.k0,G.k1,by simp only[size];lia,⟨G.nf,⟨hx,M⟩,Y _ _⟩⟩⟩;have ks:=EY (x:=x) (k:=k) hk;generalize D.lst ((kn++[(x,k)]).map bL)=K at ks N;generalize D.lst (kn.map bL)=K0 at ks;unfold mO
 ac_rfl
theorem yK{U:List Str}{C:Bk}(B:OkB C){kn:List (Str×Int)}(hk:kn.length<=99){g:Rg}{k r y:Int}{x:Str}{n:Nat}(hx:x∉kn.map (·.1))(Y:x∈U)(G:Gs U C kn g k n)(y0:0<=y)(y1:y<10^60):∃g' J q,pI [bB C,.lst (kn.map bL),bE C g k r,.str x,.int y]=some (bE C g' J q)/\Gs U C kn g' J (n+2):=by
 have ab:(10:Int)^60=1000000000000000000000000000000000000000000000000000000000000:=by decide +kernel
 have z:(0:Int)<(C.kinds.length:Int):=by have:=B.k1;lia
 have M:=zau y (zaT z);have N:=zaw y z;have sz:=G.sz;obtain⟨F,e0,w0,s0,l0,W⟩:=dH B (kn:=kn++[(x,k)]) (k:=y%(C.kinds.length:Int)) (c:=y/4) (by simp[-zad,-zac,aA,aC];lia) M N (by lia) (by lia);obtain⟨q,eo⟩:=MS (C:=C) (x:=x) (j:=k) (k:=y%(C.kinds.length:Int)) (g:=g) (k1:=k) (r1:=r) (g':=F) (k2:=y%(C.kinds.length:Int)) (r2:=0);have dk:eJ (.int y) (.int ((C.kinds.map D.str).length:Int))=some (.int (y%(C.kinds.length:Int))):=by rw[zam];exact bT z
 refine⟨.lett x k g F,y%(C.kinds.length:Int),q,aG ?_,⟨⟨G.wf,w0.mono vO⟩,M,N,by simp only[size];lia,⟨G.nf,⟨hx,Y⟩,W _ _⟩⟩⟩;have ks:=EY (x:=x) (k:=k) hk;generalize D.lst ((kn++[(x,k)]).map bL)=K at ks e0;generalize D.lst (kn.map bL)=K0 at ks;unfold pR
 ac_rfl
theorem wO{U:List Str}{C:Bk}(B:OkB C){kn:List (Str×Int)}(hk:kn.length<=99){g:Rg}{j k r y:Int}{x:Str}{n:Nat}(hx:x∉kn.map (·.1))(Y:x∈U)(G:Gs U C ((x,j)::kn) g k n)(N:0<=j)(M:j<(C.kinds.length:Int))(y0:0<=y)(y1:y<10^60):∃g' J q,iL [bB C,.lst (kn.map bL),bE C g k r,bL (x,j),.int y]=some (bE C g' J q)/\Gs U C kn g' J (n+2):=by
 suffices h:∃d,iL [bB C,.lst (kn.map bL),bE C g k r,bL (x,j),.int y]=some d/\∃g' J q,d=bE C g' J q/\Gs U C kn g' J (n+2) by
  obtain⟨d,h1,g',J,q,rfl,h2⟩:=h;exact⟨g',J,q,h1,h2⟩
 have af:(10:Int)^60=1000000000000000000000000000000000000000000000000000000000000:=by decide +kernel
 have sz:=G.sz;obtain⟨F,e0,w0,s0,l0,o0⟩:=dH B (kn:=kn) (k:=j) (c:=y/8) (by lia) N M (by lia) (by lia);refine dQ ?_;unfold mH;rw[aH (ρ':=[some (bB C),some (.lst (kn.map bL)),some (bE C g k r),some (bL (x,j)),some (.int y),some (.str x),some (.int j),none,none,none,none,none]) (by simp_all[aE];simp_all[bL])];rw[aH (aL (d:=bE C F j 0) (by simp_all[fP,e0]))];rw[aH (aL (d:=.lst [bE C F j 0,bE C g k r]) (by simp[-zad,-zac,aA,aC]))];have hl:∃d,dC (dU 9 (eY (aB (eC (.str "let")) (aB (aD 5) (aB (aD 6) (aB (a7 aJ (aD 7) (eC (.int 1))) (aB (a7 aJ (aD 2) (eC (.int 1))) aW)))))))
   (IX (aQ aV (aB (eY (aB (eC (.str "let")) (aB (aD 5) (aB (a7 aJ (aD 7) (eC (.int 0))) (aB (a7 aJ (aD 2) (eC (.int 0))) aW))))) (aB (aD 9) (aB (a7 aJ (aD 2) (eC (.int 2))) (aB (aD 8) (aB (eC (.int 0)) aW))))))) [some (bB C),some (.lst (kn.map bL)),some (bE C g k r),some (bL (x,j)),some (.int y),some (.str x),some (.int j),some (bE C F j 0),some (.lst [bE C F j 0,bE C g k r]),none,none,none]=some (.rt d)/\∃g' J q,d=bE C g' J q/\Gs U C kn g' J (n+2):=by
  obtain⟨q,eo⟩:=MS (C:=C) (x:=x) (j:=j) (k:=k) (g:=F) (k1:=j) (r1:=0) (g':=g) (k2:=k) (r2:=r);refine⟨bE C (.lett x j F g) k q,?_,.lett x j F g,k,q,rfl,⟨⟨w0,G.wf⟩,G.k0,G.k1,by simp only[size];lia,⟨o0 _ _,⟨hx,Y⟩,G.nf⟩⟩⟩
  ac_rfl
 have done:∀b:Bool,TH (qC (a7 qJ (a7 eJ (aD 4) (eC (.int 2))) (eC (.int 0)))) (TH (qC (a7 uX (aD 6) (a7 aJ (aD 2) (eC (.int 2))))) (qC (a7 BD (a7 aJ (aD 2) (eC (.int 5))) (eC (.int 1))))) [some (bB C),some (.lst (kn.map bL)),some (bE C g k r),some (bL (x,j)),some (.int y),some (.str x),some (.int j),some (bE C F j 0),some (.lst [bE C F j 0,bE C g k r]),none,none,none]=some b->(b=false->j=k)->∃d,dC (BJ (TH (qC (a7 qJ (a7 eJ (aD 4) (eC (.int 2))) (eC (.int 0)))) (TH (qC (a7 uX (aD 6) (a7 aJ (aD 2) (eC (.int 2))))) (qC (a7 BD (a7 aJ (aD 2) (eC (.int 5))) (eC (.int 1)))))) (dC (dU 9 (eY (aB (eC (.str "let")) (aB (aD 5) (aB (aD 6) (aB (a7 aJ (aD 7) (eC (.int 1))) (aB (a7 aJ (aD 2) (eC (.int 1))) aW)))))))
   (IX (aQ aV (aB (eY (aB (eC (.str "let")) (aB (aD 5) (aB (a7 aJ (aD 7) (eC (.int 0))) (aB (a7 aJ (aD 2) (eC (.int 0))) aW))))) (aB (aD 9) (aB (a7 aJ (aD 2) (eC (.int 2))) (aB (aD 8) (aB (eC (.int 0)) aW)))))))) SD)
   (dC (dU 10 (a7 eJ (a7 gO (aD 4) (eC (.int 2))) (eC (.int 4))))
   (dC (dU 11 (eY (aB (eC (.str "again")) (aB (aD 10) (aB (aD 6) (aB (aD 5) (aB (a7 aJ (aD 7) (eC (.int 0))) (aB (a7 aJ (aD 2) (eC (.int 0))) aW))))))))
   (IX (aQ aV (aB (aD 11) (aB (eY (aB (eC (.str "again")) (aB (aD 10) (aB (aD 6) (aB (aD 5) (aB (a7 aJ (aD 7) (eC (.int 1))) (aB (a7 aJ (aD 2) (eC (.int 1))) (aB (eY aW) aW)))))))) (aB (aD 6) (aB (aD 8) (aB (eC (.int 0)) aW))))))))) [some (bB C),some (.lst (kn.map bL)),some (bE C g k r),some (bL (x,j)),some (.int y),some (.str x),some (.int j),some (bE C F j 0),some (.lst [bE C F j 0,bE C g k r]),none,none,none]=some (.rt d)/\∃g' J q,d=bE C g' J q/\Gs U C kn g' J (n+2):=by
  intro b hb hj;refine FP b hb (λ_=>hl) λhf=>?_
  have W:=hj hf;subst W;have a0:=zau (y/2) (show(4:Int)≠0 by decide);have a1:=zaw (y/2) (show(0:Int)<4 by decide);obtain⟨q,eo⟩:=y9 (C:=C) (x:=x) (n:=y/2%4) (j:=j) (k:=j) (g:=F) (k1:=j) (r1:=0) (g':=g) (k2:=j) (r2:=r);refine⟨bE C (.again (y/2%4) j x F g []) j q,?_,.again (y/2%4) j x F g [],j,q,rfl,⟨⟨⟨a0,a1⟩,⟨N,M⟩,w0,G.wf,rfl⟩,N,M,by simp only[size];lia,⟨o0 _ _,⟨hx,Y⟩,G.nf⟩⟩⟩
  ac_rfl
 by_cases h1:y%2=0
 ·exact done true (by simp_all[bT,h1]) (λz=>nomatch z)
 ·by_cases h2:j=k
  ·exact done (decide (1<r)) (by simp_all[bT,h1,oK,h2,qaH]) λ_=>h2
  ·exact done true (by simp_all[bT,h1,oK,h2]) (λz=>nomatch z)
theorem Q4{p q:Str×Int}(h:bL p=bL q):p=q:=by
 unfold bL at h;injection h with h
 injection h with h1 h2
 injection h2 with h2 _
 injection h1 with h1
 injection h2 with h2
 exact Prod.ext h1 h2
theorem SE{p q:Str×Int}:uX (bL p) (bL q)=some (.bl (decide (p≠q))):=by
 have o:∀p:Str×Int,fF (bL p)=true:=λp=>(eqN.tup (n:=0) (l:=[.str p.1,.int p.2]) (by
  intro d hd;rcases List.mem_cons.mp hd with z|z
  ·rw[z];exact eqN.str
  ·rw[List.mem_singleton.mp z];exact eqN.int)).ok (by decide)
 unfold uX GF;rw[if_pos (.inr ⟨rfl,rfl,o p,o q⟩)];by_cases h:p=q
 ·subst h;simp[-zad,-zac,aA,aC]
 ·have h2:¬ bL p=bL q:=λz=>h (Q4 z)
  simp_all[h,h2]
theorem vN{q:Str×Int}{left:List (Str×Int)}:∀(kn:List (Str×Int)) (o:Option D),bD (aR 0) (qC (a7 uX (aD 0) (a7 aJ (aD 1) (eC (.int 0))))) (aD 0) (kn.map bL) [o,some (.lst ((q::left).map bL))]=some ((kn.filter λp=>decide (p≠q)).map bL)
 | [],o=>rfl
 | p::kn,o=>by
  have ih:=vN (q:=q) (left:=left) kn (some (bL p));by_cases h:p=q
  ·simp[-zad,-zac,aA,aC,bD,at0,SE,h]at ih ⊢;simp_all[ih]
  ·simp[-zad,-zac,aA,aC,bD,at0,SE,h]at ih ⊢;simp_all[ih]
theorem CT{B:Type}[DecidableEq B]{q:B}{P L:List B}(J:q∉P)(F:q∉L):(P++q::L).filter (λp=>decide (p≠q))=P++L:=by
 have f:∀ {l:List B},q∉l->l.filter (λp=>decide (p≠q))=l:=λ{l} h=>List.filter_eq_self.mpr λa G=>decide_eq_true λz=>h (z ▸ G)
 rw[List.filter_append,zca,if_neg (by simp[-zad,-zac,aA,aC]),f J,f F]
structure Sc(nms:List Str)(kn:List (Str×Int)):Prop where
 nd:(kn.map (·.1)).Nodup
 sub:∀p∈kn,p.1∈nms.take 5
theorem Sc.out{nms:List Str}(F:nms.Nodup){kn:List (Str×Int)}(S:Sc nms kn){i:Nat}(hi:5<=i){x:Str}(hx:nms[i]?=some x):x∉kn.map (·.1):=λz=>by
 obtain⟨p,G,e⟩:=List.mem_map.mp z;have h1:=S.sub p G;rw[e]at h1;obtain⟨j,q⟩:=List.mem_iff_getElem?.mp h1;have M:=(List.getElem?_eq_some_iff.mp q).1;rw[zbU]at M;rw[List.getElem?_take_of_lt (by lia)]at q;obtain⟨N,B⟩:=List.getElem?_eq_some_iff.mp q;obtain⟨U,J⟩:=List.getElem?_eq_some_iff.mp hx;have:=(zdT F).mp (B.trans J.symm)
 lia
def Now(C:Bk)(nms:List Str)(P:List (Str×Int))(m:Nat)(q:D):Prop:=∃g k r left,q=.tup [bE C g k r,.lst (left.map bL),.lst ((P++left).map bL)]/\Gs nms C (P++left) g k (15-2*m)/\OkN C (P++left)/\left.length=m/\m<=2/\P.length<=3/\Sc nms (P++left)
theorem rG{C:Bk}(B:OkB C){nms:List Str}(h8:nms.length=8)(ae:nms.Nodup){P:List (Str×Int)}{m:Nat}{ac:D}{y:Int}(y0:0<=y)(y1:y<10^60)(N:Now C nms P m ac):∃Y M,iR [bB C,.lst (nms.map .str),ac,.int y]=some Y/\Now C nms P M Y/\M<=m/\(4<y%7->0<m->M<m):=by
 suffices h:∃d,iR [bB C,.lst (nms.map .str),ac,.int y]=some d/\∃M,Now C nms P M d/\M<=m/\(4<y%7->0<m->M<m) by
  obtain⟨d,h1,M,h2⟩:=h;exact⟨d,M,h1,h2⟩
 have be:(10:Int)^60=1000000000000000000000000000000000000000000000000000000000000:=by decide +kernel
 obtain⟨g,k,r,left,rfl,G,K,U,ar,ah,S⟩:=N;have aa:(P++left).length<=10:=by rw[zbb];lia
 have zk:aU (P++left).length=true:=decide_eq_true (by lia);refine dQ ?_;unfold sR;rw[aH (ρ':=[some (bB C),some (.lst (nms.map .str)),some (.tup [bE C g k r,.lst (left.map bL),.lst ((P++left).map bL)]),some (.int y),some (bE C g k r),some (.lst (left.map bL)),some (.lst ((P++left).map bL)),none,none]) (by ac_rfl)];refine FP (decide (4<y%7) && decide (0<left.length)) ?_ ?_ ?_
 ·by_cases h1:4<y%7 <;> simp_all[bT,h1]
 ·intro W
  rw[zaP]at W;have h1:4<y%7:=of_decide_eq_true W.1;have h2:0<left.length:=of_decide_eq_true W.2
  match left,h2,U,K,S,G,zk,aa with
  | (x,j)::left,h2,U,K,S,G,zk,aa=>
   have es:=vN (q:=(x,j)) (left:=left) (P++(x,j)::left) none;have nd:=S.nd;rw[zaO,zak,zej]at nd;have ai:=List.nodup_cons.mp nd.2.1;have x1:x∉P.map (·.1):=λz=>nd.2.2 _ z _ (zat ..) rfl
   have x2:x∉left.map (·.1):=ai.1;have q1:(x,j)∉P:=λz=>x1 (List.mem_map.mpr ⟨_,z,rfl⟩)
   have q2:(x,j)∉left:=λz=>x2 (List.mem_map.mpr ⟨_,z,rfl⟩)
   rw[CT q1 q2]at es;have lj:=K (x,j) (by simp[-zad,-zac,aA,aC]);have hx:x∉(P++left).map (·.1):=by
    rw[zaO];intro z;rcases List.mem_append.mp z with z|z
    ·exact x1 z
    ·exact x2 z
   have aq:∀p∈P++(x,j)::left,p∈(x,j)::(P++left):=λp hp=>by
    rcases List.mem_append.mp hp with z|z
    ·exact zap _ (zbC _ z)
    ·rcases List.mem_cons.mp z with z|z
     ·rw[z];exact zat ..
     ·exact zap _ (zaX _ z)
   have af:∀y∈((x,j)::(P++left)).map (·.1),y∈(P++(x,j)::left).map (·.1):=λy hy=>by
    simp only[zak,zaO,zaV,List.mem_append]at hy ⊢;rcases hy with z|z|z
    ·exact .inr (.inl z)
    ·exact .inl z
    ·exact .inr (.inr z)
   rw[zbb,zaz]at aa;obtain⟨g',k',r',ec,G'⟩:=wO B (kn:=P++left) (by rw[zbb];lia) (g:=g) (j:=j) (k:=k) (r:=r) (y:=y/7) (x:=x) (n:=15-2*m) hx (List.mem_of_mem_take (S.sub (x,j) (by simp[-zad,-zac,aA,aC]))) ⟨G.wf.mono aq,G.k0,G.k1,G.sz,G.nf.anti af⟩ lj.1 lj.2 (by lia) (by lia);have ms:∀p∈P++left,p∈P++(x,j)::left:=λp hp=>by
    rcases List.mem_append.mp hp with z|z
    ·exact zbC _ z
    ·exact zaX _ (zap _ z)
   rw[aH (aL (d:=.lst ((P++left).map bL)) (by
    generalize (P++(x,j)::left)=kn at es zk;simp_all[zk,iG];simp[-zad,-zac,aA,aC]at es;simp_all[es]))]
   have ax:left.length+1=m:=U;have cc:cutD (((x,j)::left).map bL) (some 1) none=left.map bL:=by
    rw[zak];unfold _root_.P.cutD;have s1:HT.sIx (bL (x,j)::left.map bL).length 0 (some 1)=1:=by
     unfold HT.sIx;simp[-zad,-zac,aA,aC]
    have s2:HT.sIx (bL (x,j)::left.map bL).length (bL (x,j)::left.map bL).length none=left.length+1:=by
     unfold HT.sIx;simp[-zad,-zac,aA,aC]
    rw[s1,s2];show(left.map bL).take (left.length+1-1)=_;rw[Nat.add_sub_cancel,zbZ (by simp[-zad,-zac,aA,aC])]
   refine⟨.tup [bE C g' k' r',.lst (left.map bL),.lst ((P++left).map bL)],?_,left.length,⟨g',k',r',left,rfl,G'.mono (by lia),λp hp=>K p (ms p hp),rfl,by lia,ah,⟨by rw[zaO,zej];exact⟨nd.1,ai.2,λa ha b W=>nd.2.2 a ha b (zap _ W)⟩,λp hp=>S.sub p (ms p hp)⟩⟩,by lia,λ_ _=>by lia⟩;rw[zak]at cc;have cs:yA (.lst (bL (x,j)::left.map bL)) (some 1) none=some (.lst (left.map bL)):=by
    show some (D.lst _)=_;rw[cc]
   rw[zak]
   ac_rfl
 ·intro W
  obtain⟨g1,k1,ew,G1,sg,lg⟩:=mG B K (r:=r) (c:=y/50) G (by lia);rw[aH (aL (d:=bE C g1 k1 r) (by ac_rfl))];rw[aH (aL (d:=.int 2) (by simp[-zad,-zac,aA,aC]))];refine fZ (λρ=>∃F:Int,ρ=[some (bB C),some (.lst (nms.map .str)),some (.tup [bE C g k r,.lst (left.map bL),.lst ((P++left).map bL)]),some (.int y),some (bE C g1 k1 r),some (.lst (left.map bL)),some (.lst ((P++left).map bL)),none,some (.int F)]) ?_ ?_
  ·by_cases h:(4:Int)<(C.kinds.length:Int)
   ·have dg:BD (.int ((C.kinds.map D.str).length:Int)) (.int 4)=some (.bl true):=by simp_all[h]
    exact⟨_,by ac_rfl,1,rfl⟩
   ·have dg:BD (.int ((C.kinds.map D.str).length:Int)) (.int 4)=some (.bl false):=by simp_all[h]
    exact⟨_,by ac_rfl,2,rfl⟩
  ·rintro ρ ⟨F,rfl⟩
   have n5:∃s:Str,gN (nms.map D.str) 5=some (.str s)/\s∉(P++left).map (·.1)/\s∈nms:=by
    obtain⟨s,hs⟩:∃s,nms[5]?=some s:=⟨nms[5],zaR (by lia)⟩;exact⟨s,bR (j:=5) (by rw[zaB,hs];rfl),S.out ae (i:=5) (by decide) hs,zav hs⟩
   have n6:∃s:Str,gN (nms.map D.str) 6=some (.str s)/\s∉(P++left).map (·.1)/\s∈nms:=by
    obtain⟨s,hs⟩:∃s,nms[6]?=some s:=⟨nms[6],zaR (by lia)⟩;exact⟨s,bR (j:=6) (by rw[zaB,hs];rfl),S.out ae (i:=6) (by decide) hs,zav hs⟩
   obtain⟨x5,n5,al,ao⟩:=n5;obtain⟨x6,n6,as,an⟩:=n6;have dl:gM [.lst (left.map bL)]=some (.int (left.length:Int)):=by simp[-zad,-zac,aA,aC]
   have nh:¬ (4<y%7/\0<left.length):=λ⟨a,b⟩=>by rw[decide_eq_true a,decide_eq_true b]at W;cases W
   refine fZ (λρ=>∃g2 k2 r2,ρ=[some (bB C),some (.lst (nms.map .str)),some (.tup [bE C g k r,.lst (left.map bL),.lst ((P++left).map bL)]),some (.int y),some (bE C g2 k2 r2),some (.lst (left.map bL)),some (.lst ((P++left).map bL)),none,some (.int F)]/\Gs nms C (P++left) g2 k2 (15-2*m)) ?_ ?_
   ·by_cases h9:size g1<9
    ·have G8:Gs nms C (P++left) g1 k1 8:=⟨G1.wf,G1.k0,G1.k1,by lia,G1.nf⟩
     have am:(size g1:Int)<9:=by lia
     by_cases h3:y%7<3
     ·obtain⟨g2,k2,r2,e2,J⟩:=CU B (by lia) (r:=r) (c:=y/7) G8 (by lia) (by lia)
      exact⟨_,by ac_rfl,g2,k2,r2,rfl,J.mono (by lia)⟩
     ·by_cases h4:y%7=3
      ·obtain⟨g2,k2,r2,e2,J⟩:=wI B (by lia) (r:=r) (y:=y/7) G8 (by lia) (by lia)
       exact⟨_,by ac_rfl,g2,k2,r2,rfl,J.mono (by lia)⟩
      ·by_cases h5:y%7=4
       ·obtain⟨g2,k2,r2,e2,J⟩:=wL B (by lia) (r:=r) (y:=y/7) (x:=x5) al ao G8 (by lia) (by lia)
        exact⟨_,by ac_rfl,g2,k2,r2,rfl,J.mono (by lia)⟩
       ·by_cases h6:lets g1+(left.length:Int)<F
        ·obtain⟨g2,k2,r2,e2,J⟩:=yK B (by lia) (r:=r) (y:=y/7) (x:=x6) as an G8 (by lia) (by lia)
         exact⟨_,by ac_rfl,g2,k2,r2,rfl,J.mono (by lia)⟩
        ·exact⟨_,by ac_rfl,g1,k1,r,rfl,G1⟩
    ·have am:¬ (size g1:Int)<9:=by lia
     exact⟨_,by ac_rfl,g1,k1,r,rfl,G1⟩
   ·rintro ρ ⟨g2,k2,r2,rfl,J⟩
    exact⟨_,by simp[-zad,-zac,aA,aC],m,⟨g2,k2,r2,left,rfl,J,K,U,ar,ah,S⟩,zaj _,λa b=>absurd ⟨a,by lia⟩ nh⟩
theorem OkN.snoc{C:Bk}{kn:List (Str×Int)}{p:Str×Int}(h:OkN C kn)(a:0<=p.2/\p.2<(C.kinds.length:Int)):OkN C (kn++[p]):=λq B=>by
 rcases List.mem_append.mp B with z|z
 ·exact h q z
 ·rw[List.mem_singleton.mp z];exact a
theorem OkN.app{C:Bk}{kn B:List (Str×Int)}(h:OkN C kn)(h':OkN C B):OkN C (kn++B):=λq F=>by
 rcases List.mem_append.mp F with z|z
 ·exact h q z
 ·exact h' q z
theorem SR{nms:List Str}{i:Int}(z:0<=i)(h:i<(nms.length:Int)):∃s:Str,gN (nms.map D.str) i=some (.str s)/\nms[i.toNat]?=some s:=by
 obtain⟨j,rfl⟩:∃j:Nat,i=(j:Int):=⟨i.toNat,by lia⟩;have q:j<nms.length:=by lia
 exact⟨nms[j],bR (by rw[zaB,zaR q];rfl),by rw[zbx];exact zaR q⟩
theorem yD{ns:List Int}{C:Bk}(B:OkB C){nms:List Str}(h8:nms.length=8):∃ps,jC [.lst (ns.map .int),bB C,.lst (nms.map .str)]=some (.lst (ps.map bL))/\OkN C ps/\ps.length<=3/\ps.map (·.1)=nms.take ps.length:=by
 suffices h:∃d,jC [.lst (ns.map .int),bB C,.lst (nms.map .str)]=some d/\∃ps,d=.lst (ps.map bL)/\OkN C ps/\ps.length<=3/\ps.map (·.1)=nms.take ps.length by
  obtain⟨d,h1,ps,rfl,h2⟩:=h;exact⟨ps,h1,h2⟩
 obtain⟨f,N⟩:=dI ns;have J:=(N 17 (by decide) (by decide)).1;have G:(0:Int)<(C.kinds.length:Int):=by have:=B.k1;lia
 have a0:=zau (f 17) (show(4:Int)≠0 by decide);have a1:=zaw (f 17) (show(0:Int)<4 by decide);refine dQ ?_;unfold pW;rw[aH (aL (d:=.lst []) (by simp[-zad,-zac,aA,aC]))];refine j9 (items:=aS 0 1 (f 17%4).toNat) (by simp_all[aE,J,bT,dZ a0 (show f 17%4<=1000000 by lia)]) (λi ρ=>∃(ps:List (Str×Int)) (o:Option D),ρ=[some (.lst (ns.map .int)),some (bB C),some (.lst (nms.map .str)),some (.lst (ps.map bL)),o]/\OkN C ps/\ps.length=i/\ps.map (·.1)=nms.take i) ⟨[],none,by ac_rfl,(λ_ h=>nomatch h),rfl,by simp[-zad,-zac,aA,aC]⟩ ?_ ?_
 ·rintro i x ρ hx ⟨ps,o,rfl,K,F,q⟩
  obtain⟨Y,rfl⟩:=bW hx;have M:0<=(0:Int)+(i:Int)*1/\(0:Int)+(i:Int)*1<=3:=by lia
  have z:((0:Int)+(i:Int)*1).toNat=i:=by lia
  generalize (0:Int)+(i:Int)*1=I at M z;have W:=(N (18+I) (by lia) (by lia)).1;obtain⟨s,es,hs⟩:=SR (nms:=nms) (i:=I) M.1 (by rw[h8];lia);rw[z]at hs;have U:aU ps.length=true:=decide_eq_true (by lia);refine⟨[some (.lst (ns.map .int)),some (bB C),some (.lst (nms.map .str)),some (.lst ((ps++[(s,f (18+I)%(C.kinds.length:Int))]).map bL)),some (.int I)],?_,_,_,rfl,K.snoc ⟨zau _ (zaT G),zaw _ G⟩,by simp_all[F],by rw[zaO,q,zc0,hs];rfl⟩;simp_all[turn,es,W,uM,bT G,U,bL]
 ·rintro ρ ⟨ps,o,rfl,K,F,q⟩
  rw[bG]at F q;exact⟨_,by simp[-zad,-zac,aA,aC],ps,rfl,K,by lia,by rw[q,F]⟩
theorem yM{ns:List Int}{C:Bk}(B:OkB C){nms:List Str}(h8:nms.length=8){ps:List (Str×Int)}(ae:nms.Nodup)(P:OkN C ps)(Y:ps.length<=3)(ad:ps.map (·.1)=nms.take ps.length):∃W m,jI [.lst (ns.map .int),bB C,.lst (nms.map .str),.lst (ps.map bL)]=some W/\Now C nms ps m W:=by
 suffices h:∃d,jI [.lst (ns.map .int),bB C,.lst (nms.map .str),.lst (ps.map bL)]=some d/\∃m,Now C nms ps m d by
  obtain⟨d,h1,m,h2⟩:=h;exact⟨d,m,h1,h2⟩
 obtain⟨f,hf⟩:=dI ns;have ag:=(hf 17 (by decide) (by decide)).1;have J:=hf 24 (by decide) (by decide);have mp:(0:Int)<(C.kinds.length:Int):=by have:=B.k1;lia
 have aq:(10:Int)^60=1000000000000000000000000000000000000000000000000000000000000:=by decide +kernel
 have U:∀y:Int,0<=y%(C.kinds.length:Int)/\y%(C.kinds.length:Int)<(C.kinds.length:Int):=λy=>⟨zau _ (zaT mp),zaw _ mp⟩
 have a0:=zau (f 17/4) (show(3:Int)≠0 by decide);have a1:=zaw (f 17/4) (show(0:Int)<3 by decide);have N:∃q:Int,0<=q/\q<=2/\aQ uK (aB (a7 eJ (a7 gO (aQ bN (aB (aD 0) (aB (eC (.int 17)) aW))) (eC (.int 4))) (eC (.int 3))) (aB (a7 dN (eC (.int 1)) (aQ BB (aB (a7 qe (aQ gM (aB (a7 aJ (aD 1) (eC (.int 1))) aW)) (eC (.int 5))) aW))) aW)) [some (.lst (ns.map .int)),some (bB C),some (.lst (nms.map .str)),some (.lst (ps.map bL)),some (.lst []),none,none,none]=some (.int q):=by
  refine⟨_,?_,?_,by simp_all[ag,fP,bT,uM];rfl⟩
  ·split <;> split <;> lia
  ·split <;> split <;> lia
 obtain⟨q,q0,q2,eq⟩:=N;refine dQ ?_;unfold oQ;rw[aH (aL (d:=.lst []) (by simp[-zad,-zac,aA,aC]))];refine j9 (items:=aS 0 1 q.toNat) (by
  rw[q_lR];have:aB (aQ uK (aB (a7 eJ (a7 gO (aQ bN (aB (aD 0) (aB (eC (.int 17)) aW))) (eC (.int 4))) (eC (.int 3))) (aB (a7 dN (eC (.int 1)) (aQ BB (aB (a7 qe (aQ gM (aB (a7 aJ (aD 1) (eC (.int 1))) aW)) (eC (.int 5))) aW))) aW))) aW (List.set (aE 8 [.lst (ns.map .int),bB C,.lst (nms.map .str),.lst (ps.map bL)]) 4 (some (.lst [])))=some [.int q]:=by
   rw[q_lcons];have z:=eq;show((aQ uK _) [some (.lst (ns.map .int)),some (bB C),some (.lst (nms.map .str)),some (.lst (ps.map bL)),some (.lst []),none,none,none]).bind _=_;rw[z];rfl
  rw[this,aA];exact dZ q0 (by lia)) (λi ρ=>∃(F:List (Str×Int)) (o:Option D),ρ=[some (.lst (ns.map .int)),some (bB C),some (.lst (nms.map .str)),some (.lst (ps.map bL)),some (.lst (F.map bL)),o,none,none]/\OkN C F/\F.length=i/\F.map (·.1)=(nms.drop 3).take i) ⟨[],none,by ac_rfl,(λ_ h=>nomatch h),rfl,by simp[-zad,-zac,aA,aC]⟩ ?_ ?_
 ·rintro i x ρ hx ⟨F,o,rfl,K,hl,G⟩
  obtain⟨al,rfl⟩:=bW hx;have hI:0<=(0:Int)+(i:Int)*1/\(0:Int)+(i:Int)*1<=3:=by lia
  have M:(3+((0:Int)+(i:Int)*1)).toNat=3+i:=by lia
  generalize (0:Int)+(i:Int)*1=I at hI M;have fI:=(hf (21+I) (by lia) (by lia)).1;obtain⟨s,es,hs⟩:=SR (nms:=nms) (i:=3+I) (by lia) (by rw[h8];lia);rw[M]at hs;have hz:aU F.length=true:=decide_eq_true (by lia);refine⟨[some (.lst (ns.map .int)),some (bB C),some (.lst (nms.map .str)),some (.lst (ps.map bL)),some (.lst ((F++[(s,f (21+I)%(C.kinds.length:Int))]).map bL)),some (.int I),none,none],?_,_,_,rfl,K.snoc (U _),by simp_all[hl],by rw[zaO,G,zc0,List.getElem?_drop,hs];rfl⟩;simp_all[turn,es,fI,uM,bT mp,hz,bL]
 ·rintro ρ ⟨F,o,rfl,K,hl,G⟩
  rw[bG]at hl G;have hz:aU (ps.length+F.length)=true:=decide_eq_true (by lia);have sb:((ps++F).map (·.1)).Sublist (nms.take 5):=by
   rw[zaO,ad,G];have e5:nms.take 5=nms.take 3++(nms.drop 3).take 2:=by rw[<- List.take_add]
   rw[e5];exact(zeq Y).append (zeq (by lia))
  have Sk:Sc nms (ps++F):=⟨sb.nodup ((zdk ..).nodup ae),λp Y=>sb.subset (List.mem_map.mpr ⟨p,Y,rfl⟩)⟩;rw[aH (aL (d:=.lst ((ps++F).map bL)) (by simp_all[hz]))];rw[aH (aL (d:=.int (f 24%(C.kinds.length:Int))) (by simp_all[J.1,uM,bT mp]))];obtain⟨g,eg,wg,sg,lg,ng⟩:=dH B (kn:=ps++F) (k:=f 24%(C.kinds.length:Int)) (c:=f 24/6) (by simp[-zad,-zac,aA,aC];lia) (U _).1 (U _).2 (by lia) (by lia);refine⟨.tup [bE C g (f 24%(C.kinds.length:Int)) 0,.lst (F.map bL),.lst ((ps++F).map bL)],?_,F.length,g,_,0,F,rfl,⟨wg,(U _).1,(U _).2,by lia,ng _ _⟩,P.app K,rfl,by lia,Y,Sk⟩;generalize (ps++F).map bL=Kd at eg;simp_all[J.1,fP,eg]
theorem BV{ns:List Int}(F:ns.length<=63):∃v:Int,rN [.lst (ns.map .int)]=some (.int v)/\0<=v/\v<=37:=by
 obtain⟨f,z⟩:=dI ns;have q:=(z 17 (by decide) (by decide)).1;have a0:=zau (f 17/12) (show(8:Int)≠0 by decide);have B:=zaw (f 17/12) (show(0:Int)<8 by decide);refine⟨if f 17/12%8>(ns.length:Int)-26 then f 17/12%8 else(ns.length:Int)-26,aG ?_,?_,?_⟩
 ·simp_all[sC,aE,q,fP,bT]
 ·split <;> lia
 ·split <;> lia
theorem yL{ns:List Int}(hn:ns.length<=63){C:Bk}(B:OkB C){nms:List Str}(h8:nms.length=8){ps:List (Str×Int)}(M:nms.Nodup)(P:OkN C ps)(hp:ps.length<=3)(aa:ps.map (·.1)=nms.take ps.length):∃g k r,jF [.lst (ns.map .int),bB C,.lst (nms.map .str),.lst (ps.map bL)]=some (bE C g k r)/\Gs nms C ps g k 15:=by
 suffices h:∃d,jF [.lst (ns.map .int),bB C,.lst (nms.map .str),.lst (ps.map bL)]=some d/\∃g k r,d=bE C g k r/\Gs nms C ps g k 15 by
  obtain⟨d,h1,g,k,r,rfl,h2⟩:=h;exact⟨g,k,r,h1,h2⟩
 obtain⟨f,hf⟩:=dI ns;have an:=(hf 25 (by decide) (by decide)).1;obtain⟨q,m,eb,N⟩:=yM (ns:=ns) B h8 M P hp aa;obtain⟨v,ev,v0,v1⟩:=BV hn;have ao:(10:Int)^60=1000000000000000000000000000000000000000000000000000000000000:=by decide +kernel
 refine dQ ?_;unfold oP;rw[aH (aL (d:=q) (by ac_rfl))];refine j9 (items:=aS 0 1 v.toNat) (by simp_all[aE,ev,dZ v0 (show v<=1000000 by lia)]) (λi ρ=>∃(q:D) (m:Nat) (o:Option D),ρ=[some (.lst (ns.map .int)),some (bB C),some (.lst (nms.map .str)),some (.lst (ps.map bL)),some q,o]/\Now C nms ps m q) ⟨q,m,none,by ac_rfl,N⟩ ?_ ?_
 ·rintro i x ρ hx ⟨q,m,o,rfl,N⟩
  obtain⟨W,rfl⟩:=bW hx;have hI:0<=(0:Int)+(i:Int)*1/\(0:Int)+(i:Int)*1<=37:=by lia
  generalize (0:Int)+(i:Int)*1=I at hI;have fI:=hf (26+I) (by lia) (by lia);obtain⟨z,m',es,N',_⟩:=rG B h8 M fI.2.1 fI.2.2 N;exact⟨[some (.lst (ns.map .int)),some (bB C),some (.lst (nms.map .str)),some (.lst (ps.map bL)),some z,some (.int I)],by simp_all[turn,fI.1,es],z,m',_,rfl,N'⟩
 ·rintro ρ ⟨q,m,o,rfl,N⟩
  have J:m<=2:=by obtain⟨g,k,r,left,rfl,G,K,F,J,_⟩:=N;exact J
  have b0:=zau (f 25/3) (show(16:Int)≠0 by decide);have b1:=zaw (f 25/3) (show(0:Int)<16 by decide);have mu:cR (.int 7) (.int (f 25/3%16))=some (.int (7*(f 25/3%16))):=b9 (by decide +kernel) (by decide +kernel) (by lia) (by lia);refine G5 (λm ρ=>∃(q:D) (o:Option D),ρ=[some (.lst (ns.map .int)),some (bB C),some (.lst (nms.map .str)),some (.lst (ps.map bL)),some q,o]/\Now C nms ps m q) (λρ=>∃(q:D) (o:Option D),ρ=[some (.lst (ns.map .int)),some (bB C),some (.lst (nms.map .str)),some (.lst (ps.map bL)),some q,o]/\Now C nms ps 0 q) m (by lia) ⟨q,o,rfl,N⟩ ?_ ?_
  ·rintro m ρ ⟨q,o,rfl,N⟩
   obtain⟨g,k,r,left,en,G,K,F,J,rest⟩:=N;have N:Now C nms ps m q:=⟨g,k,r,left,en,G,K,F,J,rest⟩;have el:aJ q (.int 1)=some (.lst (left.map bL)):=by rw[en,q_itT];exact at1
   by_cases h0:0<m
   ·refine .inl ⟨by simp_all[el,F,h0],?_⟩
    obtain⟨z,m',es,N',_,W⟩:=rG B h8 M (y:=6+7*(f 25/3%16)) (by lia) (by lia) N;exact⟨m',[some (.lst (ns.map .int)),some (bB C),some (.lst (nms.map .str)),some (.lst (ps.map bL)),some z,o],W (by lia) h0,by ac_rfl,z,o,rfl,N'⟩
   ·have U:m=0:=by lia
    refine .inr ⟨by simp_all[el,F,U],q,o,rfl,U ▸ N⟩
  ·rintro ρ ⟨q,o,rfl,g,k,r,left,rfl,G,K,F,_,_,S⟩
   have Y:left=[]:=List.length_eq_zero_iff.mp F;subst Y;rw[zbs]at G;obtain⟨g1,k1,ew,G1,_,_⟩:=mG B P (r:=r) (c:=f 25) (G.mono (show 15-2*0<=15 by lia)) (by lia);exact⟨bE C g1 k1 r,by ac_rfl,g1,k1,r,rfl,G1⟩
theorem all1{P:D->Prop}{a:D}(h:P a):∀d∈[a],P d:=λd hd=>by rw[List.mem_singleton.mp hd];exact h
theorem eV{P:D->Prop}{a:D}{l:List D}(h:P a)(t:∀d∈l,P d):∀d∈a::l,P d:=λd hd=>by
 rcases List.mem_cons.mp hd with z|z
 ·rw[z];exact h
 ·exact t d z
theorem iA{w:List Int}{n:Nat}:eqN (n+1) (tupI w):=(eqN.tup (n:=0) λd hd=>by obtain⟨i,_,rfl⟩:=List.mem_map.mp hd;exact eqN.int).mono (by lia)
theorem gH:∀g:Rg,eqN (2*size g+2) (rd g)
 | .name x j w=>(eqN.tup (n:=1) (eV .str (eV .str (all1 iA)))).mono (by simp only[size];lia)
 | .num m j w=>(eqN.tup (n:=1) (eV .str (eV .int (eV .int (all1 iA))))).mono (by simp only[size];lia)
 | .use1 v nm p w=>(eqN.tup (n:=2*size p+3) (eV .str (eV .int (eV (eqN.tup (n:=2*size p+2) (all1 (gH p))) (all1 iA))))).mono (by simp only[size];lia)
 | .use2 v nm p q w=>(eqN.tup (n:=2*(size p+size q)+3) (eV .str (eV .int (eV (eqN.tup (n:=2*(size p+size q)+2) (eV ((gH p).mono (by lia)) (all1 ((gH q).mono (by lia))))) (all1 iA))))).mono (by simp only[size];lia)
 | .lett x j p q=>(eqN.tup (n:=2*(size p+size q)+2) (eV .str (eV .str (eV .int (eV ((gH p).mono (by lia)) (all1 ((gH q).mono (by lia)))))))).mono (by simp only[size];lia)
 | .pick c k p q r w=>(eqN.tup (n:=2*(size p+(size q+size r))+2) (eV .str (eV .int (eV .int (eV ((gH p).mono (by lia)) (eV ((gH q).mono (by lia)) (eV ((gH r).mono (by lia)) (all1 iA)))))))).mono (by simp only[size];lia)
 | .again n k x p q w=>(eqN.tup (n:=2*(size p+size q)+2) (eV .str (eV .int (eV .int (eV .str (eV ((gH p).mono (by lia)) (eV ((gH q).mono (by lia)) (all1 iA)))))))).mono (by simp only[size];lia)
theorem MB:∀g:Rg,∃l,rd g=.tup l
 | .name ..=>⟨_,rfl⟩
 | .num ..=>⟨_,rfl⟩
 | .use1 ..=>⟨_,rfl⟩
 | .use2 ..=>⟨_,rfl⟩
 | .lett ..=>⟨_,rfl⟩
 | .pick ..=>⟨_,rfl⟩
 | .again ..=>⟨_,rfl⟩
theorem YY{g:Rg}(h:size g<=24):uX (rd g) (rd g)=some (.bl false):=by
 have o:=(gH g).ok (by lia);obtain⟨l,e⟩:=MB g;rw[e]at o ⊢;unfold uX GF;rw[if_pos (.inr ⟨rfl,rfl,o,o⟩)];simp[-zad,-zac,aA,aC]
noncomputable def ch:Rg->D
 | .use1 v _ _ _=>.int (v:Int)
 | .use2 v _ _ _ _=>.int (v:Int)
 | .lett _ j _ _=>.int j
 | _=>.non
def ir:Rg->List D
 | .use1 _ _ p _=>[rd p]
 | .use2 _ _ p q _=>[rd p,rd q]
 | .lett _ _ p q=>[rd p,rd q]
 | .pick _ _ p q r _=>[rd p,rd q,rd r]
 | .again _ _ _ p q _=>[rd p,rd q]
 | _=>[]
def wy:Rg->List Int
 | .name _ _ w=>w
 | .num _ _ w=>w
 | .use1 _ _ _ w=>w
 | .use2 _ _ _ _ w=>w
 | .lett _ _ _ _=>[]
 | .pick _ _ _ _ _ w=>w
 | .again _ _ _ _ _ w=>w
theorem V2{a b c d e:D}:cutD [a,b,c,d,e] (some 3) (some 5)=[d,e]:=rfl
theorem T8{a b c d e f g:D}:cutD [a,b,c,d,e,f,g] (some 3) (some 6)=[d,e,f]:=rfl
theorem UR{a b c d e f g:D}:cutD [a,b,c,d,e,f,g] (some 4) (some 6)=[e,f]:=rfl
theorem UA{a b c d:D}:cutD [a,b,c,d] (some 2) (some 4)=[c,d]:=rfl
theorem VY{a b c d e f:D}:cutD [a,b,c,d,e,f] (some 3) (some 6)=[d,e,f]:=rfl
theorem UO{a b c d e f:D}:cutD [a,b,c,d,e,f] (some 4) (some 6)=[e,f]:=rfl
theorem yP:∀g:Rg,jO [rd g]=some (ch g)
 | .name ..=>aG (by simp_all[c7,aE,rd,ch,at0,lU,i5])
 | .num ..=>aG (by simp_all[c7,aE,rd,ch,at0,kG,g7])
 | .use1 ..=>aG (by simp_all[c7,aE,rd,ch,at0,at1])
 | .use2 ..=>aG (by simp_all[c7,aE,rd,ch,at0,at1])
 | .lett ..=>aG (by simp_all[c7,aE,rd,ch,at0,at2,kB])
 | .pick ..=>aG (by simp_all[c7,aE,rd,ch,at0,jY,g8])
 | .again ..=>aG (by simp_all[c7,aE,rd,ch,at0,kF,fT])
theorem nV:∀g:Rg,eZ [rd g]=some (.tup (ir g))
 | .name ..=>aG (by simp_all[bO,aE,rd,ir,at0,lU,i5,xN,mT])
 | .num ..=>aG (by simp_all[bO,aE,rd,ir,at0,kG,g7,xB,m9])
 | .use1 ..=>aG (by simp_all[bO,aE,rd,ir,at0,at2])
 | .use2 ..=>aG (by simp_all[bO,aE,rd,ir,at0,at2])
 | .lett ..=>aG (by simp_all[bO,aE,rd,ir,at0,kB,V2])
 | .pick ..=>aG (by simp_all[bO,aE,rd,ir,at0,jY,g8,T8])
 | .again ..=>aG (by simp_all[bO,aE,rd,ir,at0,kF,fT,wY,UR])
theorem KS:∀g:Rg,sX [rd g]=some (tupI (wy g))
 | .name ..=>aG (by simp_all[fO,aE,rd,wy,at0,i5,at2])
 | .num ..=>aG (by simp_all[fO,aE,rd,wy,at0,g7,SA])
 | .use1 ..=>aG (by simp_all[fO,aE,rd,wy,at0,oF,SA])
 | .use2 ..=>aG (by simp_all[fO,aE,rd,wy,at0,oF,SA])
 | .lett ..=>aG (by simp_all[fO,aE,rd,wy,at0,tupI])
 | .pick ..=>aG (by simp_all[fO,aE,rd,wy,at0,g8,qk])
 | .again ..=>aG (by simp_all[fO,aE,rd,wy,at0,fT,qk])
theorem sz5:aU 5=true:=rfl
def Cons(d:List (Key×D))(kn:List (Str×Int)):Prop:=∀p∈kn,eW d (.inr p.1:Key)=some (.int p.2)
theorem qO{κ:Type}[DecidableEq κ](l:List (κ×D))(k j:κ)(e:D):eW (putD l k e) j=if j=k then some e else eW l j:=by
 unfold putD;by_cases h:(l.any λp=>decide (p.1=k))=true
 ·rw[if_pos h]
  unfold eW;by_cases B:j=k
  ·subst B
   rw[if_pos rfl];induction l with
   | nil=>simp[-zad,-zac,aA,aC]at h
   | cons p l ih=>
    rw[zak,zbw];by_cases q:p.1=j
    ·simp_all[q]
    ·have:(l.any λp=>decide (p.1=j))=true:=by simpa[q]using h
     simp_all[q];simpa using ih this
  ·rw[if_neg B]
   clear h;induction l with
   | nil=>rfl
   | cons p l ih=>
    rw[zak,zbw,zbw];by_cases q:p.1=k
    ·have:¬ k=j:=λz=>B z.symm
     simp_all[q,this];simpa using ih
    ·by_cases F:p.1=j
     ·simp_all[q,F,B]
     ·simp_all[q,F]
      simpa using ih
 ·rw[if_neg h]
  unfold eW;rw[List.find?_append];by_cases B:j=k
  ·subst B
   rw[if_pos rfl];have:l.find? (λp=>decide (p.1=j))=none:=by
    rw[List.find?_eq_none];intro p q G;exact h (List.any_eq_true.mpr ⟨p,q,G⟩)
   rw[this];simp[-zad,-zac,aA,aC]
  ·rw[if_neg B]
   cases e2:l.find? (λp=>decide (p.1=j))with
   | some u=>simp[-zad,-zac,aA,aC]
   | none=>simp_all[zaU B]
theorem Cons.put{d:List (Key×D)}{kn:List (Str×Int)}(h:Cons d kn){x:Str}{j:Int}(hx:x∉kn.map (·.1)):Cons (putD d (.inr x) (.int j)) ((x,j)::kn):=λp q=>by
 rw[qO];rcases List.mem_cons.mp q with z|z
 ·rw[z,if_pos rfl]
 ·rw[if_neg,h p z]
  intro e;injection e with e
  exact hx (List.mem_map.mpr ⟨p,z,e⟩)
theorem SX{d:List (Key×D)}{x:Str}{e:D}(h:eW d (.inr x:Key)=some e):aJ (.dK d) (.str x)=some e:=by
 show((W5 (.str x)).map λk=>eW d k).join=_;show(some (eW d (.inr x:Key))).join=_;rw[h];rfl
theorem M0{d:List (Key×D)}{x:Str}{e:D}(h:d.length<=1000):mB (.dK d) (.str x) e=some (.dK (putD d (.inr x) e)):=by
 have q:mB (.dK d) (.str x) e=(if aU d.length=true then some (.dK (putD d (.inr x) e))else none):=rfl;rw[q,if_pos (show aU d.length=true from decide_eq_true (by lia))]
theorem sY{d:List (Key×D)}{k:Key}{e:D}:(putD d k e).length<=d.length+1:=by
 unfold putD;split <;> simp[-zad,-zac,aA,aC]
theorem ES{d:List (Key×D)}:gF [.dK d]=some (.dK d):=rfl
theorem CQ{d:List (Key×D)}{p c:D}{i:Int}(h:cN [p,.int i]=some .non):dD [.dK d,p,.int i,c]=some (.dK d):=aG (by simp_all[fH,aE,h,gW])
theorem HL{d:List (Key×D)}{x:Str}{j:Int}{p q:D}(z:d.length<=1000):dD [.dK d,.tup [.str "let",.str x,p,q],.int 1,.int j]=some (.dK (putD d (.inr x) (.int j))):=by
 have h:cN [.tup [.str "let",.str x,p,q],.int 1]=some (.str x):=aG (by simp_all[bJ,aE,at0,at1]);exact aG (by simp_all[fH,aE,h,gW,ES,at0,M0 z])
theorem yJ{d:List (Key×D)}{x:Str}{n k:Int}{p q c:D}(z:d.length<=1000):dD [.dK d,.tup [.str "again",.int n,.int k,.str x,p,q],.int 1,c]=some (.dK (putD d (.inr x) (.int k))):=by
 have h:cN [.tup [.str "again",.int n,.int k,.str x,p,q],.int 1]=some (.str x):=aG (by simp_all[bJ,aE,at0,SA,fT]);exact aG (by simp_all[fH,aE,h,gW,ES,at0,at2,fT,M0 z])
def nI:Sm->Int
 | none=>0
 | some p=>p.1
theorem E6(a b:Sm):nI (pZ a b)=nI a*nI b:=by
 cases a <;> cases b <;> simp_all[pZ,nI]
theorem HR(a b:Sm):nI (dB a b)=nI a+nI b:=by
 cases a <;> cases b <;> simp_all[dB,nI]
noncomputable def mE:List Int->Int
 | []=>1
 | x::l=>x*mE l
theorem xC(l m:List Int):mE (l++m)=mE l*mE m:=by
 induction l with
 | nil=>simp_all[mE]
 | cons x l ih=>rw[zcZ,mE,mE,ih,Int.mul_assoc]
theorem EI:∀(l:List Sm) (t:Sm),nI (l.foldl pZ t)=nI t*mE (l.map nI)
 | [],t=>by simp_all[mE]
 | a::l,t=>by rw[zcI,EI l,E6,zak,mE,Int.mul_assoc]
theorem C2(C:Bk)(j k:Int):nI (NW C j k)=((bX C.rs k 8 j).length:Int):=by
 unfold NW;split
 ·rename_i h;rw[h];rfl
 ·rfl
theorem fJ(C:Bk)(own j k:Int)(l:List Sm):nI (csum C own j k l)=mE (l.map nI++[((bX C.rs k 8 j).length:Int)]):=by
 unfold csum;rw[EI,E6,C2,xC];simp only[nI,mE,Int.one_mul,Int.mul_one];exact Int.mul_comm _ _
def NN(l:List Int):Prop:=∀x∈l,0<=x
theorem DB:∀ {l:List Int},NN l->0<=mE l
 | [],_=>by decide
 | x::l,h=>zcY (h x (zat ..)) (DB λy q=>h y (zap _ q))
theorem kQ{q:Type}(f:q->Sm):∀(l:List q) (t:Sm),nI (l.foldl (λt v=>dB t (f v)) t)=nI t+(l.map λv=>nI (f v)).sum
 | [],t=>by simp[-zad,-zac,aA,aC]
 | a::l,t=>by rw[zcI,kQ f l,HR,zak,zbm,zdK]
theorem oG{q:Type}{f:q->Int}:∀ {l:List q},(∀v∈l,0<=f v)->0<=(l.map f).sum
 | [],_=>by simp[-zad,-zac,aA,aC]
 | a::l,h=>by
  rw[zak,zbm];have:=h a (zat ..);have:=oG (l:=l) λv z=>h v (zap _ z)
  lia
theorem eQ(C:Bk)(own j k:Int){l:List Sm}(h:NN (l.map nI)):0<=nI (csum C own j k l):=by
 rw[fJ];refine DB λx hx=>?_
 rcases List.mem_append.mp hx with z|z
 ·exact h x z
 ·rw[List.mem_singleton.mp z];lia
theorem NN1{a:Int}(h:0<=a):NN [a]:=λx hx=>by rw[List.mem_singleton.mp hx];exact h
theorem XE{a b:Int}(h:0<=a)(h':0<=b):NN [a,b]:=λx hx=>by
 rcases List.mem_cons.mp hx with z|z
 ·rw[z];exact h
 ·exact NN1 h' x z
theorem NN3{a b c:Int}(h:0<=a)(h':0<=b)(h2:0<=c):NN [a,b,c]:=λx hx=>by
 rcases List.mem_cons.mp hx with z|z
 ·rw[z];exact h
 ·exact XE h' h2 x z
theorem cJ(C:Bk):∀(p:Pa) (e:fR) (k:Int),0<=nI (aX C p e k)
 | .name x,e,k=>eQ C _ _ _ (l:=[]) λ_ h=>nomatch h
 | .num _ j,e,k=>eQ C _ _ _ (l:=[]) λ_ h=>nomatch h
 | .use1 nm p,e,k=>by
  rw[aX,kQ];have:=oG (l:=nS C nm 1) (f:=λv=>nI (csum C (mpr C v) (dF C v) k [aX C p e (aT C v 0)])) λv _=>eQ _ _ _ _ (NN1 (cJ C p e _))
  simp only[nI,zbL]at *;exact this
 | .use2 nm p q,e,k=>by
  rw[aX,kQ];have:=oG (l:=nS C nm 2) (f:=λv=>nI (csum C (mpr C v) (dF C v) k [aX C p e (aT C v 0),aX C q e (aT C v 1)])) λv _=>eQ _ _ _ _ (XE (cJ C p e _) (cJ C q e _))
  simp only[nI,zbL]at *;exact this
 | .lett x p q,e,k=>by
  rw[aX,kQ];have:=oG (l:=zas C.kinds.length) (f:=λ(j:Nat)=>nI (csum C 0 k k [aX C p e (j:Int),aX C q (eX e x (j:Int)) k])) λv _=>eQ _ _ _ _ (XE (cJ C p e _) (cJ C q _ _))
  simp only[nI,zbL]at *;exact this
 | .pick c k' p q r,e,k=>eQ _ _ _ _ (NN3 (cJ C p e _) (cJ C q e _) (cJ C r e _))
 | .again n k' x p q,e,k=>eQ _ _ _ _ (XE (cJ C p e _) (cJ C q _ _))
noncomputable def cL:Int->List (Int×Int)->Int
 | n,[]=>n
 | n,p::l=>cL (n*p.2+p.1) l
noncomputable def gJ:Int->List Int->List Int->List Int
 | _,[],acc=>acc
 | n,s::l,acc=>gJ (n/s) l (n%s::acc)
def TF(l:List (Int×Int)):Prop:=∀p∈l,0<=p.1/\p.1<p.2
theorem u9:∀(l:List (Int×Int)) (n:Int) (t acc:List Int),TF l->gJ (cL n l) ((l.map (·.2)).reverse++t) acc=gJ n t (l.map (·.1)++acc)
 | [],n,t,acc,_=>rfl
 | (a,s)::l,n,t,acc,h=>by
  have q:=h (a,s) (zat ..);simp only at q;rw[cL,zak,zd7,List.append_assoc];have ih:=u9 l (n*s+a) ([s]++t) acc λp q=>h p (zap _ q)
  rw[ih];show gJ ((n*s+a)/s) t ((n*s+a)%s::(l.map (·.1)++acc))=_;have B:(n*s+a)/s=n:=by
   rw[Int.add_comm,Int.add_mul_ediv_right _ _ (by lia),Int.ediv_eq_zero_of_lt q.1 q.2,zbL]
  have z:(n*s+a)%s=a:=by
   rw[Int.add_comm,Int.add_mul_emod_self_right,Int.emod_eq_of_lt q.1 q.2]
  rw[B,z];rfl
theorem zL:∀(l:List (Int×Int)) (n:Int),0<=n->TF l->0<=cL n l/\cL n l+1<=(n+1)*mE (l.map (·.2))
 | [],n,h0,_=>by simp_all[cL,mE,h0]
 | (a,s)::l,n,h0,h=>by
  have q:=h (a,s) (zat ..);simp only at q;have F:0<=n*s+a:=Int.add_nonneg (zcY h0 (by lia)) q.1;obtain⟨z,B⟩:=zL l (n*s+a) F λp q=>h p (zap _ q)
  refine⟨z,zct B ?_⟩;have G:0<=mE (l.map (·.2)):=DB λx hx=>by
   obtain⟨p,q,rfl⟩:=List.mem_map.mp hx;have:=h p (zap _ q);lia
  rw[zak,mE,<- Int.mul_assoc];refine zer ?_ G;rw[Int.add_mul];simp only;lia
def kU(C:Bk)(j k:Int)(w:List Int):Int×Int:=(((bX C.rs k 8 j).idxOf w:Nat),((bX C.rs k 8 j).length:Int))
def uV(l:List Nat)(v:Nat)(f:Nat->Sm):Int:=((l.filter λu=>decide (u<v)).map λu=>nI (f u)).sum
def cA(C:Bk):Rg->fR->Int->Int
 | .name x _ w,e,k=>cL 0 [kU C (e x) k w]
 | .num _ j w,_,k=>cL 0 [kU C j k w]
 | .use1 v nm p w,e,k=>uV (nS C nm 1) v (λv=>csum C (mpr C v) (dF C v) k [aX C (pa p) e (aT C v 0)])+cL 0 [(cA C p e (aT C v 0),nI (aX C (pa p) e (aT C v 0))),kU C (dF C v) k w]
 | .use2 v nm p q w,e,k=>uV (nS C nm 2) v (λv=>csum C (mpr C v) (dF C v) k [aX C (pa p) e (aT C v 0),aX C (pa q) e (aT C v 1)])+cL 0 [(cA C p e (aT C v 0),nI (aX C (pa p) e (aT C v 0))),(cA C q e (aT C v 1),nI (aX C (pa q) e (aT C v 1))),kU C (dF C v) k w]
 | .lett x j p q,e,k=>uV (zas C.kinds.length) j.toNat (λ(j:Nat)=>csum C 0 k k [aX C (pa p) e (j:Int),aX C (pa q) (eX e x (j:Int)) k])+cL 0 [(cA C p e j,nI (aX C (pa p) e j)),(cA C q (eX e x j) k,nI (aX C (pa q) (eX e x j) k)),kU C k k []]
 | .pick c k' p q r w,e,k=>cL 0 [(cA C p e c,nI (aX C (pa p) e c)),(cA C q e k',nI (aX C (pa q) e k')),(cA C r e k',nI (aX C (pa r) e k')),kU C k' k w]
 | .again _ k' x p q w,e,k=>cL 0 [(cA C p e k',nI (aX C (pa p) e k')),(cA C q (eX e x k') k',nI (aX C (pa q) (eX e x k') k')),kU C k' k w]
def EC(e:fR)(kn:List (Str×Int)):Prop:=∀p∈kn,e p.1=p.2
theorem EC.put{e:fR}{kn:List (Str×Int)}(h:EC e kn){x:Str}{j:Int}(hx:x∉kn.map (·.1)):EC (eX e x j) ((x,j)::kn):=λp B=>by
 unfold eX;rcases List.mem_cons.mp B with z|z
 ·rw[z,if_pos rfl]
 ·rw[if_neg λq=>hx (List.mem_map.mpr ⟨p,z,q⟩)];exact h p z
theorem kC{C:Bk}(B:OkB C){j k:Int}{w:List Int}(z:0<=j)(k1:k<(C.kinds.length:Int))(h:gw C.rs j w=some k):0<=(kU C j k w).1/\(kU C j k w).1<(kU C j k w).2:=by
 have q:=B.k6;have m:=mX B.gr (n:=8) (by lia) h;have:=zes m;exact⟨by unfold kU;simp only;lia,by unfold kU;simp only;lia⟩
theorem nR{l:List (Int×Int)}(h:TF l):0<=cL 0 l/\cL 0 l<mE (l.map (·.2)):=by
 have:=zL l 0 (by decide) h;rw[zbL,Int.one_mul]at this;exact⟨this.1,by lia⟩
theorem DP{a:Int×Int}(h:0<=a.1/\a.1<a.2):TF [a]:=λp q=>by rw[List.mem_singleton.mp q];exact h
theorem uW{a:Int×Int}{l:List (Int×Int)}(h:0<=a.1/\a.1<a.2)(t:TF l):TF (a::l):=λp q=>by
 rcases List.mem_cons.mp q with z|z
 ·rw[z];exact h
 ·exact t p z
theorem C4{l:List Nat}(F:l.Pairwise (·<·)){v:Nat}(J:v∈l){f:Nat->Sm}(G:∀u,0<=nI (f u)){x:Int}(U:0<=x)(hx:x<nI (f v)):0<=uV l v f+x/\uV l v f+x<nI (l.foldl (λt v=>dB t (f v)) none):=by
 rw[kQ];have M:0<=uV l v f:=oG λu _=>G u
 refine⟨by lia,?_⟩;have:uV l v f+nI (f v)<=(l.map λv=>nI (f v)).sum:=by
  clear hx M;unfold uV;induction l with
  | nil=>cases J
  | cons a l ih=>
   rw[List.pairwise_cons]at F;rw[zak,zbm];by_cases e:v=a
   ·subst e
    have z:((v::l).filter λu=>decide (u<v))=[]:=by
     rw[List.filter_eq_nil_iff];intro u N;rcases List.mem_cons.mp N with q|q
     ·rw[q];simp[-zad,-zac,aA,aC]
     ·have:=F.1 u q;simp[-zad,-zac,aA,aC];lia
    rw[z];have:=oG (l:=l) (f:=λv=>nI (f v)) λu _=>G u
    simp[-zad,-zac,aA,aC];lia
   ·have B:=(List.mem_cons.mp J).resolve_left e
    have la:=F.1 v B;rw[zca,if_pos (by simpa using la),zak,zbm];have:=ih F.2 B
    lia
 simp only[nI,zbL]at *;lia
theorem iM(n:Nat):(zas n).Pairwise (·<·):=List.pairwise_lt_range
theorem gQ(C:Bk)(nm:Str)(n:Nat):(nS C nm n).Pairwise (·<·):=(iM _).filter _
theorem mV{C:Bk}{v:Nat}{m:Mk}{n:Nat}(h:C.makes[v]?=some m)(q:m.takes.length=n):v∈nS C m.nm n:=by
 refine List.mem_filter.mpr ⟨List.mem_range.mpr (List.getElem?_eq_some_iff.mp h).1,?_⟩;rw[h];simp_all[q]
theorem eO{C:Bk}{v:Nat}{m:Mk}(h:C.makes[v]?=some m)(i:Nat):aT C v i=(m.takes[i]?).getD 0:=by unfold aT;rw[h];rfl
theorem fN{C:Bk}{v:Nat}{m:Mk}(h:C.makes[v]?=some m):dF C v=m.g:=by unfold dF;rw[h];rfl
theorem gE{U:List Str}{C:Bk}(B:OkB C):∀ {g:Rg} {kn:List (Str×Int)} {e:fR} {k:Int},OkN C kn->WF C kn g k->NF U (kn.map (·.1)) g->EC e kn->0<=cA C g e k/\cA C g e k<nI (aX C (pa g) e k)
 | .name x j w,kn,e,k,K,W,_,c=>by
  have s:=WF.short B K W;obtain⟨a,b⟩:=W;have ex:e x=j:=c _ a;have h:=nR (DP (kC B (K _ a).1 s.2.2 b));simp only[cA,pa,aX,fJ,ex];exact h
 | .num n j w,kn,e,k,K,W,_,c=>by
  have s:=WF.short B K W;obtain⟨a,b,d⟩:=W;have h:=nR (DP (kC B b.1 s.2.2 d));simp only[cA,pa,aX,fJ];exact h
 | .use1 v nm p w,kn,e,k,K,W,F,c=>by
  have s:=WF.short B K W;obtain⟨m,t,a,b,d,G,f⟩:=W;subst b;have et:aT C v 0=t:=by rw[eO a,d];rfl
  have N:=fN a;have Y:=zav a;have z:=gE B (g:=p) K G F c;rw[<- et]at z;have h:=nR (uW (a:=(cA C p e (aT C v 0),nI (aX C (pa p) e (aT C v 0)))) z (DP (kC B (B.gb m Y).1 s.2.2 f)));rw[<- N]at h;refine C4 (gQ C m.nm 1) (mV a (by rw[d];rfl)) (f:=λv=>csum C (mpr C v) (dF C v) k [aX C (pa p) e (aT C v 0)]) (λu=>eQ _ _ _ _ (NN1 (cJ ..))) h.1 ?_;simp only[fJ];exact h.2
 | .use2 v nm p q w,kn,e,k,K,W,F,c=>by
  have s:=WF.short B K W;obtain⟨m,t,u,a,b,d,G,M,f⟩:=W;subst b;have et:aT C v 0=t:=by rw[eO a,d];rfl
  have eu:aT C v 1=u:=by rw[eO a,d];rfl
  have N:=fN a;have Y:=zav a;have z:=gE B (g:=p) K G F.1 c;have J:=gE B (g:=q) K M F.2 c;rw[<- et]at z;rw[<- eu]at J;have h:=nR (uW (a:=(cA C p e (aT C v 0),nI (aX C (pa p) e (aT C v 0)))) z (uW (a:=(cA C q e (aT C v 1),nI (aX C (pa q) e (aT C v 1)))) J (DP (kC B (B.gb m Y).1 s.2.2 f))));rw[<- N]at h;refine C4 (gQ C m.nm 2) (mV a (by rw[d];rfl)) (f:=λv=>csum C (mpr C v) (dF C v) k [aX C (pa p) e (aT C v 0),aX C (pa q) e (aT C v 1)]) (λu=>eQ _ _ _ _ (XE (cJ ..) (cJ ..))) h.1 ?_;simp only[fJ];exact h.2
 | .lett x j p q,kn,e,k,K,W,F,c=>by
  have s:=WF.short B K W;obtain⟨G,M⟩:=W;have sp:=WF.short B K G;have z:=gE B (g:=p) K G F.1 c;have J:=gE B (g:=q) (K.cons sp.2.1 sp.2.2) M F.2.2 (c.put F.2.1.1);have ej:((j.toNat:Nat):Int)=j:=by lia
  have h:=nR (uW (a:=(cA C p e j,nI (aX C (pa p) e j))) z (uW (a:=(cA C q (eX e x j) k,nI (aX C (pa q) (eX e x j) k))) J (DP (kC B s.2.1 s.2.2 (w:=[]) rfl))));refine C4 (iM C.kinds.length) (List.mem_range.mpr (by lia)) (f:=λ(j:Nat)=>csum C 0 k k [aX C (pa p) e (j:Int),aX C (pa q) (eX e x (j:Int)) k]) (λu=>eQ _ _ _ _ (XE (cJ ..) (cJ ..))) h.1 ?_;simp only[fJ,ej];exact h.2
 | .pick c' k' p q r w,kn,e,k,K,W,F,c=>by
  have s:=WF.short B K W;obtain⟨a,b,G,M,wr,f⟩:=W;have z:=gE B (g:=p) K G F.1 c;have J:=gE B (g:=q) K M F.2.1 c;have i3:=gE B (g:=r) K wr F.2.2 c;have h:=nR (uW (a:=(cA C p e c',nI (aX C (pa p) e c'))) z (uW (a:=(cA C q e k',nI (aX C (pa q) e k'))) J (uW (a:=(cA C r e k',nI (aX C (pa r) e k'))) i3 (DP (kC B b.1 s.2.2 f)))));simp only[cA,pa,aX,fJ];exact h
 | .again n k' x p q w,kn,e,k,K,W,F,c=>by
  have s:=WF.short B K W;obtain⟨a,b,G,M,f⟩:=W;have z:=gE B (g:=p) K G F.1 c;have J:=gE B (g:=q) (K.cons b.1 b.2) M F.2.2 (c.put F.2.1.1);have h:=nR (uW (a:=(cA C p e k',nI (aX C (pa p) e k'))) z (uW (a:=(cA C q (eX e x k') k',nI (aX C (pa q) (eX e x k') k'))) J (DP (kC B b.1 s.2.2 f))));simp only[cA,pa,aX,fJ];exact h
def kids:Pa->List Pa
 | .use1 _ p=>[p]
 | .use2 _ p q=>[p,q]
 | .lett _ p q=>[p,q]
 | .pick _ _ p q r=>[p,q,r]
 | .again _ _ _ p q=>[p,q]
 | _=>[]
def R9(C:Bk)(p:Pa)(l:List D):D:=.ob CN [("part",bI p),("below",.lst l),("names",.lst ((aP p).map .str)),("found",.mem (DM (bB C) (bI p)) (FF (bB C) (bI p)))]
def dE(C:Bk):Pa->D
 | .name x=>R9 C (.name x) []
 | .num n j=>R9 C (.num n j) []
 | .use1 nm p=>R9 C (.use1 nm p) [dE C p]
 | .use2 nm p q=>R9 C (.use2 nm p q) [dE C p,dE C q]
 | .lett x p q=>R9 C (.lett x p q) [dE C p,dE C q]
 | .pick c k p q r=>R9 C (.pick c k p q r) [dE C p,dE C q,dE C r]
 | .again n k x p q=>R9 C (.again n k x p q) [dE C p,dE C q]
theorem t4(C:Bk)(p:Pa):dE C p=R9 C p ((kids p).map (dE C)):=by cases p <;> rfl
noncomputable def hid:Pa->Nat->Option Str
 | .lett x _ _,1=>some x
 | .again _ _ x _ _,1=>some x
 | _,_=>none
noncomputable def oS:Option Str->D
 | none=>.non
 | some x=>.str x
theorem nK:∀p:Pa,iV [bI p]=some (.tup ((kids p).map bI))
 | .name ..=>aG (by simp_all[gR,aE,bI,kids,at0,lU,i5,xN,mT])
 | .num ..=>aG (by simp_all[gR,aE,bI,kids,at0,kG,g7,xB,m9])
 | .use1 ..=>aG (by simp_all[gR,aE,bI,kids,at0,at2])
 | .use2 ..=>aG (by simp_all[gR,aE,bI,kids,at0,at2])
 | .lett ..=>aG (by simp_all[gR,aE,bI,kids,at0,kB,UA])
 | .pick ..=>aG (by simp_all[gR,aE,bI,kids,at0,jY,g8,VY])
 | .again ..=>aG (by simp_all[gR,aE,bI,kids,at0,kF,fT,wY,UO])
theorem AD:¬ ("use" : Str) = "again" := by decide
theorem LQ:¬ ("pick" : Str) = "again" := by decide
theorem GT{p:D}{i:Nat}(h:¬ i=1):cN [p,.int (i:Int)]=some .non:=aG (by
 have h':¬ ((i:Int)=1):=λz=>h (by lia)
 simp_all[bJ,aE,h'])
theorem zD(p:Pa)(i:Nat):cN [bI p,.int (i:Int)]=some (oS (hid p i)):=by
 by_cases h:i=1
 ·subst h
  cases p with
  | name x=>exact aG (by simp_all[bJ,aE,bI,hid,oS,at0,i5,mT])
  | num n j=>exact aG (by simp_all[bJ,aE,bI,hid,oS,at0,g7,m9])
  | use1 nm p=>exact aG (by simp_all[bJ,aE,bI,hid,oS,at0,oF,AD])
  | use2 nm p q=>exact aG (by simp_all[bJ,aE,bI,hid,oS,at0,oF,AD])
  | lett x p q=>exact aG (by simp_all[bJ,aE,bI,hid,oS,at0,at1])
  | pick c k p q r=>exact aG (by simp_all[bJ,aE,bI,hid,oS,at0,g8,LQ])
  | again n k x p q=>exact aG (by simp_all[bJ,aE,bI,hid,oS,at0,SA,fT])
 ·rw[GT h]
  have:hid p i=none:=by
   unfold hid;split
   ·exact absurd rfl h
   ·exact absurd rfl h
   ·rfl
  rw[this];rfl
theorem BP{x:Str}{l:List Str}:nJ (.str x) (.lst (l.map .str))=some (.bl (!decide (x∈l))):=by
 have h1:(l.map D.str).all fF=true:=by
  rw[List.all_map];exact List.all_eq_true.mpr λx _=>rfl
 show xT (.str x) (.lst (l.map .str))=_;unfold xT RQ;dsimp only;rw[if_pos ⟨rfl,h1⟩];simp only[aC];congr 3;rw[List.any_map];by_cases h:x∈l
 ·rw[decide_eq_true h]
  exact List.any_eq_true.mpr ⟨x,h,by simp[-zad,-zac,aA,aC]⟩
 ·rw[decide_eq_false h]
  refine List.any_eq_false.mpr λy q=>?_
  simp[-zad,-zac,aA,aC];rintro rfl;exact h q
theorem ne_sn{x:Str}:uX (.str x) .non=some (.bl true):=by
 unfold uX GF;rw[if_pos (.inl rfl)];simp[-zad,-zac,aA,aC]
theorem YO{x:Str}{h:Option Str}:uX (.str x) (oS h)=some (.bl (!decide (some x=h))):=by
 cases h with
 | none=>rw[show oS none=D.non from rfl,ne_sn];simp[-zad,-zac,aA,aC]
 | some y=>rw[show oS (some y)=D.str y from rfl,q_neS];simp[-zad,-zac,aA,aC]
theorem sV{h:Option Str}{acc:List Str}:∀(l:List Str) (o:Option D),bD (aR 0) (IW (qC (a7 uX (aD 0) (aD 1))) (qC (a7 nJ (aD 0) (aD 2)))) (aD 0) (l.map .str) [o,some (oS h),some (.lst (acc.map .str))]=some ((l.filter λx=>!decide (some x=h) && !decide (x∈acc)).map .str)
 | [],o=>rfl
 | x::l,o=>by
  have ih:=sV (h:=h) (acc:=acc) l (some (.str x));have e:=YO (x:=x) (h:=h);have q:=BP (x:=x) (l:=acc);generalize oS h=dh at *;rw[zak,bD];by_cases h1:some x=h
  ·simp_all[e,q,h1,ih]
  ·by_cases h2:x∈acc
   ·simp_all[e,q,h1,h2,ih]
   ·simp_all[e,q,h1,h2,ih]
def accN(p:Pa):Nat->List Pa->List Str->List Str
 | _,[],acc=>acc
 | i,q::l,acc=>accN p (i+1) l (fE (hid p i) acc (aP q))
theorem OL(p:Pa)(h:∀x,p≠.name x):aP p=accN p 0 (kids p) []:=by
 cases p with
 | name x=>exact absurd rfl (h x)
 | _=>rfl
theorem dM{h:Option Str}{acc l:List Str}:(fE h acc l).length<=acc.length+l.length:=by
 unfold fE;rw[zbb];have:=zc3 (λx=>!decide (some x=h) && !decide (x∈acc)) l
 lia
theorem dX:∀p:Pa,(aP p).length<=psz p
 | .name x=>zaj 1
 | .num _ _=>by simp_all[aP,psz]
 | .use1 _ p=>by
  have:=dX p;have:=dM (h:=none) (acc:=[]) (l:=aP p);simp only[aP,psz,zbF]at *;lia
 | .use2 _ p q=>by
  have:=dX p;have:=dX q;have:=dM (h:=none) (acc:=[]) (l:=aP p);have:=dM (h:=none) (acc:=fE none [] (aP p)) (l:=aP q);simp only[aP,psz,zbF]at *;lia
 | .lett x p q=>by
  have:=dX p;have:=dX q;have:=dM (h:=none) (acc:=[]) (l:=aP p);have:=dM (h:=some x) (acc:=fE none [] (aP p)) (l:=aP q);simp only[aP,psz,zbF]at *;lia
 | .pick _ _ p q r=>by
  have:=dX p;have:=dX q;have:=dX r;have:=dM (h:=none) (acc:=[]) (l:=aP p);have:=dM (h:=none) (acc:=fE none [] (aP p)) (l:=aP q);have:=dM (h:=none) (acc:=fE none (fE none [] (aP p)) (aP q)) (l:=aP r);simp only[aP,psz,zbF]at *;lia
 | .again _ _ x p q=>by
  have:=dX p;have:=dX q;have:=dM (h:=none) (acc:=[]) (l:=aP p);have:=dM (h:=some x) (acc:=fE none [] (aP p)) (l:=aP q);simp only[aP,psz,zbF]at *;lia
def RV:Pa->Str
 | .name _ => "name"
 | .num _ _ => "number"
 | .use1 _ _ => "use"
 | .use2 _ _ _ => "use"
 | .lett _ _ _ => "let"
 | .pick _ _ _ _ _ => "pick"
 | .again _ _ _ _ _ => "again"
theorem M5(p:Pa):aJ (bI p) (.int 0)=some (.str (RV p)):=by
 cases p <;> (unfold bI;rw[q_itT];exact at0)
theorem JL(p:Pa)(h:∀x,p≠.name x):¬ RV p = "name" := by
 cases p with
 | name x=>exact absurd rfl (h x)
 | num _ _=>exact(by decide:¬ ("number" : Str) = "name")
 | use1 _ _=>exact(by decide:¬ ("use" : Str) = "name")
 | use2 _ _ _=>exact(by decide:¬ ("use" : Str) = "name")
 | lett _ _ _=>exact(by decide:¬ ("let" : Str) = "name")
 | pick _ _ _ _ _=>exact(by decide:¬ ("pick" : Str) = "name")
 | again _ _ _ _ _=>exact(by decide:¬ ("again" : Str) = "name")
theorem kS(C:Bk)(p:Pa):uY CN "part" (dE C p)=some (bI p):=by rw[t4];rfl
theorem LP(C:Bk)(p:Pa):uY CN "below" (dE C p)=some (.lst ((kids p).map (dE C))):=by rw[t4];rfl
theorem AB(C:Bk)(p:Pa):uY CN "names" (dE C p)=some (.lst ((aP p).map .str)):=by rw[t4];rfl
theorem LJ(C:Bk)(p:Pa):uY CN "found" (dE C p)=some (.mem (DM (bB C) (bI p)) (FF (bB C) (bI p))):=by rw[t4];rfl
theorem zK(p:Pa):∀(l:List Pa) (j i:Nat) (acc:List Str) (q:Pa),l[i]?=some q->accN p j (l.take (i+1)) acc=fE (hid p (j+i)) (accN p j (l.take i) acc) (aP q)
 | [],j,i,acc,q,h=>by simp[-zad,-zac,aA,aC]at h
 | a::l,j,0,acc,q,h=>by
  have:a=q:=by simpa using h
  subst this;rfl
 | a::l,j,i+1,acc,q,h=>by
  have ih:=zK p l (j+1) i (fE (hid p j) acc (aP a)) q (by simpa using h);rw[zcu,zcu,accN,accN,ih,show j+1+i=j+(i+1) by lia]
theorem FC(p:Pa):∀(l:List Pa) (j:Nat) (acc:List Str),(accN p j l acc).length<=acc.length+(l.map psz).sum
 | [],j,acc=>by simp_all[accN]
 | a::l,j,acc=>by
  have:=FC p l (j+1) (fE (hid p j) acc (aP a));have:=dM (h:=hid p j) (acc:=acc) (l:=aP a);have:=dX a;rw[accN,zak,zbm];lia
theorem eP(p:Pa):((kids p).map psz).sum+1=psz p:=by
 cases p <;> simp_all[kids,psz] <;> lia
theorem EO{q:Pa}:∀ {l:List Pa},q∈l->psz q<=(l.map psz).sum
 | [],h=>nomatch h
 | a::l,h=>by
  rw[zak,zbm];rcases List.mem_cons.mp h with z|z
  ·rw[z];lia
  ·have:=EO z;lia
theorem gG{p q:Pa}(h:q∈kids p):psz q<psz p:=by
 have:=EO h;have:=eP p;lia
theorem KZ(l:List Pa)(i:Nat):((l.take i).map psz).sum<=(l.map psz).sum:=by
 induction l generalizing i with
 | nil=>simp[-zad,-zac,aA,aC]
 | cons a l ih=>
  cases i with
  | zero=>simp[-zad,-zac,aA,aC]
  | succ i=>have:=ih i;simp only[zcu,zak,zbm];lia
theorem OQ(C:Bk)(p:Pa)(hs:psz p<=100):eN [bI p,.lst ((kids p).map (dE C))]=some (.lst ((aP p).map .str)):=by
 by_cases W:∃x,p=.name x
 ·obtain⟨x,rfl⟩:=W
  exact aG (by simp_all[iJ,aE,bI,aP,at0,at1])
 have B:∀x,p≠.name x:=λx e=>W ⟨x,e⟩
 have tg:=JL p B;refine aG ?_;unfold iJ;have w:=zD p;have ta:=M5 p;have sm:=eP p;have ac:=FC p;rw[OL p B];have ek:=@zK p (kids p) 0;have sz:∀q∈kids p,psz q<psz p:=λq F=>gG F
 have tk:=KZ (kids p);generalize kids p=ks at *;generalize bI p=pd at *;rw[aH (ρ':=aE 6 [pd,.lst (ks.map (dE C))]) (by simp_all[aE,ta,tg])];rw[aH (aL (d:=.lst []) (by simp[-zad,-zac,aA,aC]))];refine fY (items:=gI 0 (ks.map (dE C))) (by simp_all[aE]) (λi ρ=>∃M G J,ρ=[some pd,some (.lst (ks.map (dE C))),some (.lst ((accN p 0 (ks.take i) []).map .str)),M,G,J]) ⟨none,none,none,by simp_all[aE,accN]⟩ ?_ ?_
 ·rintro i y ρ hy ⟨M,G,J,rfl⟩
  obtain⟨z,N,rfl⟩:=h7 hy;rw[zaB]at N;obtain⟨q,F,rfl⟩:=map_some N;rw[zaS];have U:=ek i [] q F;rw[zaS]at U;have wi:=w i;have cn:=sV (h:=hid p i) (acc:=accN p 0 (ks.take i) []) (aP q) none;have nn:=AB C q;have Y:=ac (ks.take i) 0 [];have l2:=tk i;have l3:=dX q;have l4:=sz q (zav F);have l5:=zc3 (λx=>!decide (some x=hid p i) && !decide (x∈accN p 0 (ks.take i) [])) (aP q);have z1:aU (aP q).length=true:=decide_eq_true (by lia);refine⟨[some pd,some (.lst (ks.map (dE C))),some (.lst ((accN p 0 (ks.take (i+1)) []).map .str)),some (.int (i:Int)),some (dE C q),some (oS (hid p i))],?_,_,_,_,rfl⟩;rw[U];unfold fE;have z2:aU ((accN p 0 (ks.take i) []).length+((aP q).filter λx=>!decide (some x=hid p i) && !decide (x∈accN p 0 (ks.take i) [])).length)=true:=decide_eq_true (by simp only[zbF]at Y;lia);generalize (aP q).filter (λx=>!decide (some x=hid p i) && !decide (x∈accN p 0 (ks.take i) []))=fl' at *;simp_all[-zaq,turn,wi,dP,nn,WR,iG,z1,cn,z2]
 ·rintro ρ' ⟨M,G,J,rfl⟩
  rw[fA,zam,zbz];simp[-zad,-zac,aA,aC]
theorem xZ(C:Bk):∀(m:Nat) (p:Pa),psz p<=m->psz p<=100->qB m (bB C) (bI p)=some (dE C p)
 | 0,p,h,_=>by have:=eP p;lia
 | m+1,p,h,h1=>by
  have ih:∀q∈kids p,qB m (bB C) (bI q)=some (dE C q):=λq B=>xZ C m q (by have:=gG B;lia) (by have:=gG B;lia)
  have wi:=nK p;have G:=OQ C p h1;have M:(kids p).length<=3:=by cases p <;> simp_all[kids]
  have F:∀(l:List Pa) (o:Option D),(∀q∈l,qB m (bB C) (bI q)=some (dE C q))->bD (aR 0) fQ (eNew (qB m) (λ_=>some (bB C)) (aD 0)) (l.map bI) [o]=some (l.map (dE C)):=λl=>by
   induction l with
   | nil=>exact λ_ _=>rfl
   | cons a l il=>
    intro o B;have e:=il (some (bI a)) λq h=>B q (zap _ h)
    have J:=B a (zat ..);rw[zak,bD];simp_all[eNew,J,e]
  have z:aU (kids p).length=true:=decide_eq_true (by lia);have c:=F (kids p) none ih;rw[t4];show FW CN _ eN (DM (bB C)) (FF (bB C)) (bI p)=_;unfold FW R9;have fb:dS [none] (fU (aQ iV (aB (aD 1) aW))) (aR 0) fQ (eNew (qB m) (λ_=>some (bB C)) (aD 0)) [none,some (bI p)]=some (.lst ((kids p).map (dE C))):=by
   simp_all[wi,iG,z,c]
  rw[fb,aA,G,aA]
theorem fK(a:Sm):cZ [memD a]=some (.int (nI a)):=by
 cases a with
 | none=>exact aG (by ac_rfl)
 | some p=>exact aG (by ac_rfl)
theorem KI(a b:Sm):nB [memD a,memD b]=some (memD (dB a b)):=by
 cases a with
 | none=>
  cases b with
  | none=>exact aG (by ac_rfl)
  | some q=>exact aG (by ac_rfl)
 | some p=>
  cases b with
  | none=>exact aG (by ac_rfl)
  | some q=>
   have e:(if q.2<p.2 then q.2 else p.2)=min p.2 q.2:=by split <;> lia
   exact aG (by simp_all[AR,aE,memD,dB,gW,at0,at1,uK,e])
theorem L6{a b:Sm}(z:∀p,a=some p->0<=p.1/\p.1<10^250)(B:∀p,b=some p->0<=p.1/\p.1<10^250):MC [memD a,memD b]=some (memD (pZ a b)):=by
 cases a with
 | none=>
  cases b with
  | none=>exact aG (by ac_rfl)
  | some q=>exact aG (by ac_rfl)
 | some p=>
  cases b with
  | none=>exact aG (by ac_rfl)
  | some q=>
   have h1:=z p rfl;have h2:=B q rfl;have m:cR (.int p.1) (.int q.1)=some (.int (p.1*q.1)):=b9 (zc6 (by decide) h1.1) h1.2 (zc6 (by decide) h2.1) h2.2;exact aG (by simp_all[MI,aE,memD,pZ,gW,at0,at1,m])
def bV(C:Bk):Pa->List D
 | .use1 nm _=>(nS C nm 1).map λ(v:Nat)=>.int (v:Int)
 | .use2 nm _ _=>(nS C nm 2).map λ(v:Nat)=>.int (v:Int)
 | .lett _ _ _=>(zas C.kinds.length).map λ(v:Nat)=>.int (v:Int)
 | _=>[.non]
noncomputable def BC(p:Mk->Bool):Nat->List Mk->List Nat
 | _,[]=>[]
 | k,m::ms=>if p m then k::BC p (k+1) ms else BC p (k+1) ms
theorem EG(p:Mk->Bool):∀(ms:List Mk) (k:Nat),BC p k ms=((zas ms.length).filter λv=>match ms[v]? with
 | some m=>p m
 | none=>false).map (·+k)
 | [],k=>rfl
 | m::ms,k=>by
  rw[BC,EG p ms (k+1),zaz,List.range_succ_eq_map,zca,List.filter_map];have e:(λv=>match (m::ms)[v]? with
   | some m=>p m
   | none=>false) ∘ Nat.succ=λv=>match ms[v]? with
   | some m=>p m
   | none=>false:=by funext v;rfl
  rw[e];have q:∀L:List Nat,((L.map Nat.succ).map (·+k))=L.map (·+(k+1)):=λL=>by
   rw[zaq];congr 1;funext v;show v.succ+k=v+(k+1);lia
  show _=List.map (·+k) (if p m=true then _ else _);cases hp:p m with
  | true=>rw[if_pos rfl,if_pos rfl,zak,q,zaS]
  | false=>rw[if_neg zaA,if_neg zaA,q]
theorem oA{nm:Str}{l:List D}{pd:D}(h1:aJ pd (.int 1)=some (.str nm))(h2:aJ pd (.int 2)=some (.tup l)):∀(ms:List Mk) (k:Nat) (o o1:Option D),bD (k7 2 (d7 (aR 0) (d7 (aR 1) uE))) (IW (qC (a7 qJ (a7 aJ (aD 1) (eC (.int 0))) (a7 aJ (aD 2) (eC (.int 1))))) (qC (a7 qJ (aQ gM (aB (a7 aJ (aD 1) (eC (.int 1))) aW)) (aQ gM (aB (a7 aJ (aD 2) (eC (.int 2))) aW))))) (aD 0) (gI k (ms.map kM)) [o,o1,some pd]=some ((BC (λm=>decide (m.nm=nm) && decide (m.takes.length=l.length)) k ms).map λ(v:Nat)=>.int (v:Int))
 | [],k,o,o1=>rfl
 | m::ms,k,o,o1=>by
  have ih:=oA h1 h2 ms (k+1) (some (.int (k:Int))) (some (kM m));have z:gM [tupI m.takes]=some (.int (m.takes.length:Int)):=by simp_all[tupI]
  rw[zak,gI,bD,BC];generalize (BC (λm=>decide (m.nm=nm) && decide (m.takes.length=l.length)) (k+1) ms)=R at *;by_cases B:m.nm=nm
  ·by_cases F:m.takes.length=l.length
   ·simp_all[-zaq,turn,DJ,uL,h1,h2,z,B,F,ih]
   ·have q:¬ (m.takes.length:Int)=(l.length:Int):=by lia
    simp_all[-zaq,turn,DJ,uL,h1,h2,z,B,F,q,ih]
  ·simp_all[-zaq,turn,DJ,uL,h1,h2,z,B,ih]
theorem AY(C:Bk)(nm:Str)(n:Nat):BC (λm=>decide (m.nm=nm) && decide (m.takes.length=n)) 0 C.makes=nS C nm n:=by
 rw[EG,show(λx:Nat=>x+0)=id from rfl,List.map_id];rfl
theorem nW{C:Bk}(B:OkB C)(p:Pa):eG [bB C,bI p]=some (.lst (bV C p)):=by
 have J:=B.k6;have G:=B.ml;have z:aU C.makes.length=true:=decide_eq_true (by lia);have F:xX (.int (C.kinds.length:Int))=some (.lst (aS 0 1 C.kinds.length)):=by
  have:=O5 (i:=(C.kinds.length:Int)) (by lia) (by lia)
  rwa [zbx]at this
 cases p with
 | name x=>exact aG (by simp_all[eE,aE,bI,bV,at0,lU,i5])
 | num n j=>exact aG (by simp_all[eE,aE,bI,bV,at0,kG,g7])
 | use1 nm p=>
  have c:=oA (pd:=bI (.use1 nm p)) (nm:=nm) (l:=[bI p]) (by rw[bI,q_itT];exact at1) (by rw[bI,q_itT];exact at2) C.makes 0 none none;rw[List.length_singleton,AY]at c;simp only[bI]at c;exact aG (by simp_all[-zaq,eE,aE,bI,bV,at0,qI,iG,z,fA,c])
 | use2 nm p q=>
  have c:=oA (pd:=bI (.use2 nm p q)) (nm:=nm) (l:=[bI p,bI q]) (by rw[bI,q_itT];exact at1) (by rw[bI,q_itT];exact at2) C.makes 0 none none;rw[show([bI p,bI q]:List D).length=2 from rfl,AY]at c;simp only[bI]at c;exact aG (by simp_all[-zaq,eE,aE,bI,bV,at0,qI,iG,z,fA,c])
 | lett x p q=>
  have er:aS 0 1 C.kinds.length=(zas C.kinds.length).map λ(v:Nat)=>D.int (v:Int):=by
   rw[pN,zaq];rfl
  rw[er]at F;exact aG (by simp_all[-zaq,eE,aE,bI,bV,at0,kB,uM,F])
 | pick c k p q r=>exact aG (by simp_all[eE,aE,bI,bV,at0,jY,g8])
 | again n k x p q=>exact aG (by simp_all[eE,aE,bI,bV,at0,kF,fT])
theorem CH{C:Bk}{d:List (Key×D)}{x:Str}{j:Int}{k c:D}(h:eW d (.inr x:Key)=some (.int j)):bC [bB C,.dK d,bI (.name x),k,c]=some (.int j):=by
 have e:=SX h;exact aG (by simp_all[cE,aE,bI,at0,at1,e])
theorem HF{C:Bk}{d:List (Key×D)}{n j:Int}{k c:D}:bC [bB C,.dK d,bI (.num n j),k,c]=some (.int j):=
 aG (by simp_all[cE,aE,bI,at0,at2,kG,g7,(by decide:¬ ("number" : Str) = "name")])
theorem DW:¬ ("use" : Str) = "name" := by decide
theorem BL{C:Bk}{d:List (Key×D)}{nm:Str}{p:Pa}{k:D}{v:Nat}{m:Mk}(h:C.makes[v]?=some m):bC [bB C,.dK d,bI (.use1 nm p),k,.int (v:Int)]=some (.int m.g):=by
 have e:=nP h;exact aG (by simp_all[-zaq,cE,aE,bI,at0,DW,qI,e,IT])
theorem B9{C:Bk}{d:List (Key×D)}{nm:Str}{p q:Pa}{k:D}{v:Nat}{m:Mk}(h:C.makes[v]?=some m):bC [bB C,.dK d,bI (.use2 nm p q),k,.int (v:Int)]=some (.int m.g):=by
 have e:=nP h;exact aG (by simp_all[-zaq,cE,aE,bI,at0,DW,qI,e,IT])
theorem GW{C:Bk}{d:List (Key×D)}{x:Str}{p q:Pa}{k c:D}:bC [bB C,.dK d,bI (.lett x p q),k,c]=some k:=
 aG (by simp_all[cE,aE,bI,at0,kB,(by decide:¬ ("let" : Str) = "name")])
theorem BM{C:Bk}{d:List (Key×D)}{B z:Int}{p q r:Pa}{k c:D}:bC [bB C,.dK d,bI (.pick B z p q r),k,c]=some (.int z):=
 aG (by simp_all[cE,aE,bI,at0,at2,jY,g8,(by decide:¬ ("pick" : Str) = "name")])
theorem yO{C:Bk}{d:List (Key×D)}{n z:Int}{x:Str}{p q:Pa}{k c:D}:bC [bB C,.dK d,bI (.again n z x p q),k,c]=some (.int z):=
 aG (by simp_all[cE,aE,bI,at0,at2,kF,fT,(by decide:¬ ("again" : Str) = "name")])
theorem GL{C:Bk}{x:Str}{k c:D}:bP [bB C,bI (.name x),k,c]=some (tupI []):=aG (by simp_all[bY,aE,bI,at0,lU,i5,xN,mT,tupI])
theorem JS{C:Bk}{n j:Int}{k c:D}:bP [bB C,bI (.num n j),k,c]=some (tupI []):=aG (by simp_all[bY,aE,bI,at0,kG,g7,xB,m9,tupI])
theorem IG{C:Bk}{nm:Str}{p:Pa}{k:D}{v:Nat}{m:Mk}(h:C.makes[v]?=some m):bP [bB C,bI (.use1 nm p),k,.int (v:Int)]=some (tupI m.takes):=by
 have e:=nP h;exact aG (by simp_all[-zaq,bY,aE,bI,at0,qI,e,uL])
theorem GI{C:Bk}{nm:Str}{p q:Pa}{k:D}{v:Nat}{m:Mk}(h:C.makes[v]?=some m):bP [bB C,bI (.use2 nm p q),k,.int (v:Int)]=some (tupI m.takes):=by
 have e:=nP h;exact aG (by simp_all[-zaq,bY,aE,bI,at0,qI,e,uL])
theorem JU{C:Bk}{x:Str}{p q:Pa}{k j:Int}:bP [bB C,bI (.lett x p q),.int k,.int j]=some (tupI [j,k]):=aG (by simp_all[bY,aE,bI,at0,kB,tupI])
theorem GM{C:Bk}{B z:Int}{p q r:Pa}{k c:D}:bP [bB C,bI (.pick B z p q r),k,c]=some (tupI [B,z,z]):=aG (by simp_all[bY,aE,bI,at0,at1,at2,jY,g8,tupI])
theorem BZ{C:Bk}{n z:Int}{x:Str}{p q:Pa}{k c:D}:bP [bB C,bI (.again n z x p q),k,c]=some (tupI [z,z]):=aG (by simp_all[bY,aE,bI,at0,at2,kF,fT,wY,tupI])
def DS(C:Bk)(hd:Nat->D):Nat->List Pa->List Int->List D
 | i,q::l,k::ks=>.tup [dE C q,hd i,.int k]::DS C hd (i+1) l ks
 | _,_,_=>[]
theorem yY{C:Bk}{hd:Nat->D}:∀(l:List Pa) (ks:List Int) (j i:Nat) (q:Pa) (k:Int),l[i]?=some q->ks[i]?=some k->DS C hd j (l.take (i+1)) ks=DS C hd j (l.take i) ks++[.tup [dE C q,hd (j+i),.int k]]
 | [],ks,j,i,q,k,h,_=>by simp[-zad,-zac,aA,aC]at h
 | a::l,[],j,i,q,k,_,h=>by simp[-zad,-zac,aA,aC]at h
 | a::l,b::ks,j,0,q,k,h,h'=>by
  have z:a=q:=by simpa using h
  have B:b=k:=by simpa using h'
  subst z B;rfl
 | a::l,b::ks,j,i+1,q,k,h,h'=>by
  have ih:=yY (C:=C) (hd:=hd) l ks (j+1) i q k (by simpa using h) (by simpa using h');rw[zcu,zcu,DS,DS,ih,show j+1+i=j+(i+1) by lia];rfl
theorem EB{C:Bk}{hd:Nat->D}:∀(l:List Pa) (ks:List Int) (j:Nat),(DS C hd j l ks).length<=l.length
 | [],ks,j=>by cases ks <;> simp_all[DS]
 | a::l,[],j=>by ac_rfl
 | a::l,b::ks,j=>by have:=EB (C:=C) (hd:=hd) l ks (j+1);simp only[DS,zaz];lia
theorem P9{C:Bk}{at_:D}{p:Pa}{d:List (Key×D)}{k c:D}{ks:List Int}{hd:Nat->D}(hb:uY CA "book" at_=some (bB C))(hk:bP [bB C,bI p,k,c]=some (tupI ks))(hl:(kids p).length<=ks.length)(W:∀i,i<(kids p).length->dD [.dK d,bI p,.int (i:Int),c]=some (hd i)):gS [at_,dE C p,.dK d,k,c]=some (.lst (DS C hd 0 (kids p) ks)):=by
 refine aG ?_;unfold E5;have np:=kS C p;have nb:=LP C p;have h3:(kids p).length<=3:=by cases p <;> simp_all[kids]
 generalize kids p=l at *;generalize dE C p=nd at *;generalize bI p=pd at *;rw[aH (aL (d:=tupI ks) (by ac_rfl))];rw[aH (aL (d:=.lst []) (by simp[-zad,-zac,aA,aC]))];refine fY (items:=gI 0 (l.map (dE C))) (by ac_rfl) (λi ρ=>∃J G,ρ=[some at_,some nd,some (.dK d),some k,some c,some (tupI ks),some (.lst (DS C hd 0 (l.take i) ks)),J,G]) ⟨none,none,by ac_rfl⟩ ?_ ?_
 ·rintro i y ρ U ⟨J,G,rfl⟩
  obtain⟨z,M,rfl⟩:=h7 U;rw[zaB]at M;obtain⟨q,N,rfl⟩:=map_some M;rw[zaS];have hi:=(List.getElem?_eq_some_iff.mp N).1;obtain⟨F,B⟩:∃F,ks[i]?=some F:=⟨ks[i],zaR (by lia)⟩;have e:=yY (C:=C) (hd:=hd) l ks 0 i q F N B;rw[zaS]at e;have hx:=W i hi;have Y:gN (ks.map D.int) (i:Int)=some (.int F):=bR (by rw[zaB,B];rfl);have ln:=EB (C:=C) (hd:=hd) (l.take i) ks 0;have z1:aU (DS C hd 0 (l.take i) ks).length=true:=decide_eq_true (by rw[zbU]at ln;lia);refine⟨[some at_,some nd,some (.dK d),some k,some c,some (tupI ks),some (.lst (DS C hd 0 (l.take (i+1)) ks)),some (.int (i:Int)),some (dE C q)],?_,_,_,rfl⟩;rw[e];generalize DS C hd 0 (l.take i) ks=sp at *;simp_all[-zaq,turn,dP,np,hx,tupI,Y,z1]
 ·rintro ρ' ⟨J,G,rfl⟩
  rw[fA,zam,zbz];simp[-zad,-zac,aA,aC]
def Small(a:Sm):Prop:=∀p,a=some p->0<=p.1/\p.1<10^250
def SQ(C:Bk)(p:Pa)(c:D)(own:Int):Prop:=(RV p = "use" /\ ∃(v:Nat) (m:Mk),c=.int (v:Int)/\C.makes[v]?=some m/\own=m.pr)\/(¬ RV p = "use" /\ own=0)
theorem KF(a:Sm):FZ (memD a) .non=some (.bl a.isSome):=by cases a <;> rfl
theorem SN{L:LT}{j k:Int}{e:D}(h:eW L ([.inl j,.inl k]:List Key)=some e):aJ (.dT L) (.tup [.int j,.int k])=some e:=by
 show(some (eW L ([.inl j,.inl k]:List Key))).join=_;rw[h];rfl
theorem wN{C:Bk}{at_:D}{L2:LT}{p:Pa}{d:List (Key×D)}{k j own:Int}{c:D}{R:List D->Option D}{Rs:List (D×D×D×Sm)}(Y:uY CA "book" at_=some (bB C))(hs:uY CA "spans" at_=some (.dT L2))(hv:eW L2 ([.inl j,.inl k]:List Key)=some (memD (NW C j k)))(ho:SQ C p c own)
  (hg:bC [bB C,.dK d,bI p,.int k,c]=some (.int j)) (N:gS [at_,dE C p,.dK d,.int k,c]=some (.lst (Rs.map λr=>.tup [r.1,r.2.1,r.2.2.1]))) (W:∀r∈Rs,R [at_,r.1,r.2.1,r.2.2.1]=some (memD r.2.2.2)) (h0:Small (NW C j k)) (h1:∀r∈Rs,Small r.2.2.2) (h2:∀i,Small (csum C own j k ((Rs.map (·.2.2.2)).take i))) :
  bF 10 (cC R) [at_,dE C p,.dK d,.int k,c]=some (memD (csum C own j k (Rs.map (·.2.2.2)))):=by
 refine aG ?_;unfold cC;have np:=kS C p;have tg:=M5 p;generalize dE C p=nd at *;have e1:(qi (qC (a7 qJ (a7 aJ (dP CN "part" (aD 1)) (eC (.int 0))) (eC (.str "use")))) (a7 aJ (a7 aJ (a7 aJ (dP CA "book" (aD 0)) (eC (.int 3))) (aD 4)) (eC (.int 4))) (eC (.int 0))) (aE 10 [at_,nd,.dK d,.int k,c])=some (.int own):=by
  rcases ho with⟨t,v,m,rfl,q,rfl⟩|⟨t,rfl⟩
  ·have e:=nP q
   ac_rfl
  ·ac_rfl
 rw[aH (aL (d:=.int own) e1)];have M:=L6 (a:=some (1,own)) (b:=NW C j k) (λp N=>by cases N;exact⟨(by decide:(0:Int)<=1),(by decide:(1:Int)<10^250)⟩) h0;have e0:memD (some (1,own))=.tup [.int 1,.int own]:=rfl;rw[e0]at M;have es:=SN hv;rw[aH (aL (d:=memD (csum C own j k [])) (by simp_all[aE,dP,np,Y,hs,hg,es,M,csum]))];refine fY (items:=Rs.map λr=>.tup [r.1,r.2.1,r.2.2.1]) (by ac_rfl) (λi ρ=>∃z B F,ρ=[some at_,some nd,some (.dK d),some (.int k),some c,some (.int own),some (memD (csum C own j k ((Rs.map (·.2.2.2)).take i))),z,B,F]) ⟨none,none,none,by ac_rfl⟩ ?_ ?_
 ·rintro i y ρ J ⟨z,B,F,rfl⟩
  rw[zaB]at J;obtain⟨r,G,rfl⟩:=map_some J;have q:=zav G;have er:=W r q;have U:(Rs.map (·.2.2.2)).take (i+1)=(Rs.map (·.2.2.2)).take i++[r.2.2.2]:=by
   rw[zcd,zaB,G];rfl
  have ec:csum C own j k ((Rs.map (·.2.2.2)).take (i+1))=pZ (csum C own j k ((Rs.map (·.2.2.2)).take i)) r.2.2.2:=by
   rw[U];unfold csum;rw[List.foldl_append];rfl
  have bb:=L6 (h2 i) (h1 r q);have nn:=KF (csum C own j k ((Rs.map (·.2.2.2)).take i));refine⟨[some at_,some nd,some (.dK d),some (.int k),some c,some (.int own),some (memD (csum C own j k ((Rs.map (·.2.2.2)).take (i+1)))),some r.1,some r.2.1,some r.2.2.1],?_,_,_,_,rfl⟩;rw[ec];generalize csum C own j k ((Rs.map (·.2.2.2)).take i)=t at *;cases t with
  | none=>
   have i0:gW (memD none)=true:=rfl
   ac_rfl
  | some t=>
   have i0:gW (memD (some t))=false:=rfl
   ac_rfl
 ·rintro ρ' ⟨z,B,F,rfl⟩
  rw[zam,zbZ (by rw[zam];exact zaj _)];simp[-zad,-zac,aA,aC]
theorem CS(l:List Int):intsOf (l.map .int)=some l:=by
 induction l with
 | nil=>rfl
 | cons i l ih=>show(intsOf (l.map .int)).map (i::·)=_;rw[ih];rfl
theorem rX{d:List (Key×D)}{e:fR}:∀(l:List Str) (o:Option D),(∀x∈l,eW d (.inr x:Key)=some (.int (e x)))->bD (aR 0) fQ (a7 aJ (aD 1) (aD 0)) (l.map .str) [o,some (.dK d)]=some ((l.map e).map .int)
 | [],o,_=>rfl
 | x::l,o,h=>by
  have ih:=rX l (some (.str x)) λy q=>h y (zap _ q)
  have z:=SX (h x (zat ..));rw[zak,bD];simp_all[-zaq,z,ih]
theorem BQ{C:Bk}(B:OkB C){at_:D}{p:Pa}{d:List (Key×D)}{k:Int}{e:fR}{R:List D->Option D}{f:D->Sm}(M:uY CA "book" at_=some (bB C))(U:0<=k/\k<(C.kinds.length:Int))(hd:∀x∈aP p,eW d (.inr x:Key)=some (.int (e x)))(Y:∀x∈aP p,0<=e x/\e x<(C.kinds.length:Int))(h8:(aP p).length<=8)
  (F:∀c∈bV C p,bF 10 (cC R) [at_,dE C p,.dK d,.int k,c]=some (memD (f c))) (N:(bV C p).foldl (λt c=>dB t (f c)) none=aX C p e k):bF 7 (iB R) [at_,dE C p,.dK d,.int k]=some (memD (aX C p e k)):=by
 refine aG ?_;unfold iB;have np:=kS C p;have nn:=AB C p;have nf:=LJ C p;have wc:=nW B p;have G:=rX (d:=d) (e:=e) (aP p) none hd;have z1:aU (aP p).length=true:=decide_eq_true (by lia);have W:qt (.tup [.int k,.tup (((aP p).map e).map .int)])=some (.inl k,((aP p).map e).map .inl):=by
  show(intsOf _).map _=_;rw[CS];rfl
 have fk:=X3 C p k ((aP p).map e);have dm:=Y1 (C:=C) (p:=p) (k:=k) (l:=(aP p).map e) U (by rw[zam]) λj hj=>by
  obtain⟨x,hx,rfl⟩:=List.mem_map.mp hj;exact Y x hx
 have dl:=V6 (C:=C) (p:=p) B.k6 h8;have cg:=b6 C p (IU (aP p) ((aP p).map e)) e k λx hx=>AM e hx
 rw[cg]at fk;generalize dE C p=nd at *;rw[aH (aL (d:=.tup [.int k,.tup (((aP p).map e).map .int)]) (by simp_all[-zaq,aE,dP,nn,iG,z1,G]))];rw[show(aE 7 [at_,nd,.dK d,.int k]).set 4 (some (.tup [.int k,.tup (((aP p).map e).map .int)]))=[some at_,some nd,some (.dK d),some (.int k),some (.tup [.int k,.tup (((aP p).map e).map .int)]),none,none]from rfl];have lp:=xW (g:=aR 6) (b:=dU 5 (aQ nB (aB (aD 5) (aB (aQ (bF 10 (cC R)) (aB (aD 0) (aB (aD 1) (aB (aD 2) (aB (aD 3) (aB (aD 6) aW)))))) aW)))) (items:=bV C p) (ρ:=[some at_,some nd,some (.dK d),some (.int k),some (.tup [.int k,.tup (((aP p).map e).map .int)]),some .non,none])
  (λi ρ => ∃q, ρ = [some at_, some nd, some (.dK d), some (.int k), some (.tup [.int k, .tup (((aP p).map e).map .int)]), some (memD (((bV C p).take i).foldl (λt c => dB t (f c)) none)), q]) ⟨none, rfl⟩ (by
   rintro i c ρ hi ⟨q,rfl⟩;have ec:=F c (zav hi);have J:(bV C p).take (i+1)=(bV C p).take i++[c]:=by rw[zcd,hi];rfl
   have ee:=KI (((bV C p).take i).foldl (λt c=>dB t (f c)) none) (f c);refine⟨[some at_,some nd,some (.dK d),some (.int k),some (.tup [.int k,.tup (((aP p).map e).map .int)]),some (memD (((bV C p).take (i+1)).foldl (λt c=>dB t (f c)) none)),some c],?_,_,rfl⟩;rw[J,List.foldl_append];generalize ((bV C p).take i).foldl (λt c=>dB t (f c)) none=t at *;simp_all[-zaq,turn,ec,ee])
 obtain⟨ρ',z,q,rfl⟩:=lp;rw[zbz,N]at z;unfold SJ;have f2:(BE (fU (aQ eG (aB (dP CA "book" (aD 0)) (aB (dP CN "part" (aD 1)) aW)))) (aR 6) (dU 5 (aQ nB (aB (aD 5) (aB (aQ (bF 10 (cC R)) (aB (aD 0) (aB (aD 1) (aB (aD 2) (aB (aD 3) (aB (aD 6) aW)))))) aW))))) [some at_,some nd,some (.dK d),some (.int k),some (.tup [.int k,.tup (((aP p).map e).map .int)]),some .non,none]=some (.nx [some at_,some nd,some (.dK d),some (.int k),some (.tup [.int k,.tup (((aP p).map e).map .int)]),some (memD (aX C p e k)),q]):=by
  rw[q_for];have:fU (aQ eG (aB (dP CA "book" (aD 0)) (aB (dP CN "part" (aD 1)) aW))) [some at_,some nd,some (.dK d),some (.int k),some (.tup [.int k,.tup (((aP p).map e).map .int)]),some .non,none]=some (bV C p):=by simp_all[dP,M,np,wc]
  rw[this];exact z
 have f1:(dU 5 (eC .non)) [some at_,some nd,some (.dK d),some (.int k),some (.tup [.int k,.tup (((aP p).map e).map .int)]),none,none]=some (.nx [some at_,some nd,some (.dK d),some (.int k),some (.tup [.int k,.tup (((aP p).map e).map .int)]),some .non,none]):=rfl;show(aD 1 [some at_,some nd,some (.dK d),some (.int k),some (.tup [.int k,.tup (((aP p).map e).map .int)]),none,none]).bind _=_;rw[show aD 1 [some at_,some nd,some (.dK d),some (.int k),some (.tup [.int k,.tup (((aP p).map e).map .int)]),none,none]=some nd from rfl,aA,nf,aA];dsimp only;rw[show aD 4 [some at_,some nd,some (.dK d),some (.int k),some (.tup [.int k,.tup (((aP p).map e).map .int)]),none,none]=some (.tup [.int k,.tup (((aP p).map e).map .int)])from rfl,aA,W,aA,f1,aA];dsimp only;rw[f2,aA];dsimp only;rw[show aD 5 [some at_,some nd,some (.dK d),some (.int k),some (.tup [.int k,.tup (((aP p).map e).map .int)]),some (memD (aX C p e k)),q]=some (memD (aX C p e k))from rfl,aA,if_pos ⟨dm,dl,by rw[fk],rfl,rfl⟩]
theorem MW{C:Bk}{M many k:Int}(g:GR M many C.rs):∀(n:Nat) (x:Int),k-x<(n:Int)->0<n->k-x<=5->gK 6 lX n [bB C,.int x,.int k]=some (.lst ((bX C.rs k n x).map tupI))
 | 0,x,_,h,_=>absurd h (zb4 0)
 | n+1,x,hn,_,h5=>by
  have IH:∀y:Int,k-y<(n:Int)->0<n->k-y<=5->gK 6 lX n [bB C,.int y,.int k]=some (.lst ((bX C.rs k n y).map tupI)):=λy=>MW g n y
  show bF 6 (lX (gK 6 lX n)) _=_;generalize gK 6 lX n=R at IH ⊢;refine aG ?_;unfold lX bX;by_cases e:x=k
  ·rw[if_pos e]
   ac_rfl
  rw[if_neg e];rw[aH (ρ':=aE 6 [bB C,.int x,.int k]) (by ac_rfl)];rw[aH (aL (d:=.lst []) (by simp[-zad,-zac,aA,aC]))];refine fY (items:=gI 0 (C.rs.map mD)) (by ac_rfl) (λi ρ=>∃N J,ρ=[some (bB C),some (.int x),some (.int k),some (.lst ((fl (λi r=>if r.j=x/\r.k<=k then(bX C.rs k n r.k).map λw=>(i:Int)::w else []) 0 (C.rs.take i)).map tupI)),N,J]) ⟨none,none,by ac_rfl⟩ ?_ ?_
  ·rintro i y ρ hy ⟨N,J,rfl⟩
   obtain⟨z,Y,rfl⟩:=h7 hy;rw[zaB]at Y;obtain⟨r,U,rfl⟩:=map_some Y;rw[zaS];have gr:=g.jk r (zav U);have hi:i<C.rs.length:=(List.getElem?_eq_some_iff.mp U).1;have gl:=g.len;refine⟨[some (bB C),some (.int x),some (.int k),some (.lst ((fl (λi r=>if r.j=x/\r.k<=k then(bX C.rs k n r.k).map λw=>(i:Int)::w else []) 0 (C.rs.take (i+1))).map tupI)),some (.int (i:Int)),some (mD r)],?_,_,_,rfl⟩;rw[PV U];by_cases q:r.j=x/\r.k<=k
   ·have W:(fl (λi r=>if r.j=x/\r.k<=k then(bX C.rs k n r.k).map λw=>(i:Int)::w else []) 0 (C.rs.take i)).length<=12*12^4:=by
     refine zaK (jX (B:=12^4) λt F er=>?_) (Nat.mul_le_mul_right _ (by simp[-zad,-zac,aA,aC];lia));split
     ·rw[zam]
      have G:C.rs[t]?=some F:=by rw[List.getElem?_take]at er;split at er;exact er;cases er
      have ad:=g.jk F (zav G);exact jT g n F.k 4 (by lia)
     ·exact zaI _
    rw[if_pos q];generalize fl (λi r=>if r.j=x/\r.k<=k then(bX C.rs k n r.k).map λw=>(i:Int)::w else []) 0 (C.rs.take i)=told at W;have ih:=IH r.k (by lia) (by lia) (by lia);have al:=jT g n r.k 4 (k:=k) (by lia);have cm:=rJ (t:=(i:Int)) (bX C.rs k n r.k) none λw hw=>by
     have:=lW g (lH hw);lia
    have z1:aU (bX C.rs k n r.k).length=true:=decide_eq_true (by lia);have z2:aU (told.length+(bX C.rs k n r.k).length)=true:=decide_eq_true (by lia);simp_all[-zaq,turn,W3,WU,q.1,q.2,WR,ih,iG,z1,cm,z2]
   ·rw[if_neg q,zbs]
    by_cases h1:r.j=x
    ·have h2:¬ r.k<=k:=λz=>q ⟨h1,z⟩
     ac_rfl
    ·ac_rfl
  ·rintro ρ' ⟨N,J,rfl⟩
   rw[fA,zam,zbz];simp[-zad,-zac,aA,aC]
theorem yF{C:Bk}{w:List Int}(h:∀n∈w,∃r,mC C.rs n=some r)(z:w.length<=100):jM [bB C,tupI w]=some (.int (gL C.rs w)):=by
 obtain⟨ns,e,hs⟩:=vM h;have q:aU w.length=true:=decide_eq_true (by lia);refine aG ?_;simp_all[pP,aE,tupI,iG,q,e,hs]
theorem oX{C:Bk}:∀(ws:List (List Int)) (o:Option D),(∀w∈ws,(∀n∈w,∃r,mC C.rs n=some r)/\w.length<=100)->bD (aR 0) fQ (aQ jM (aB (aD 1) (aB (aD 0) aW))) (ws.map tupI) [o,some (bB C)]=some ((ws.map (gL C.rs)).map .int)
 | [],o,_=>rfl
 | w::ws,o,h=>by
  have ih:=oX ws (some (tupI w)) λv q=>h v (zap _ q)
  have e:=yF (h w (zat ..)).1 (h w (zat ..)).2;rw[zak,bD];simp_all[-zaq,e,ih]
theorem CK{C:Bk}(B:OkB C){j k:Int}(J:0<=j)(k1:k<(C.kinds.length:Int)):cP [bB C,.lst ((bX C.rs k 8 j).map tupI)]=some (memD (NW C j k)):=by
 have M:=B.k6;have G:=jT B.gr (k:=k) 8 j 5 (by lia);have hw:∀w∈bX C.rs k 8 j,(∀n∈w,∃r,mC C.rs n=some r)/\w.length<=100:=λw hw=>by
  have g:=lH hw;have:=lW B.gr g;exact⟨xV g,by lia⟩
 have c:=oX (bX C.rs k 8 j) none hw;have z:aU (bX C.rs k 8 j).length=true:=decide_eq_true (by lia);refine aG ?_;unfold rR NW;generalize bX C.rs k 8 j=ws at *;rw[aH (aL (d:=.lst ((ws.map (gL C.rs)).map .int)) (by simp_all[-zaq,aE,iG,z,c]))];by_cases h:ws.length=0
 ·rw[if_pos h]
  have:ws=[]:=List.length_eq_zero_iff.mp h;subst this
  ac_rfl
 ·rw[if_neg h]
  have e:=N2 (ns:=ws.map (gL C.rs)) (λz=>h (by rw[List.map_eq_nil_iff]at z;rw[z];rfl));have F:(0:Int)<(ws.length:Int):=by lia
  have q:¬ ws=[]:=λz=>h (by rw[z];rfl)
  simp_all[-zaq,aE,e,F,q,memD]
theorem nZ{z:Type}{f:D->z->Option z}(I:Nat->z->Prop):∀(l:List D) (k:Nat) (a:z),I k a->(∀i x a,l[i]?=some x->I (k+i) a->∃q,f x a=some q/\I (k+i+1) q)->∃q,kZ f l a=some q/\I (k+l.length) q
 | [],k,a,h,_=>⟨a,rfl,h⟩
 | x::l,k,a,h,s=>by
  obtain⟨F,J,h1⟩:=s 0 x a rfl h;obtain⟨B,M,h2⟩:=nZ I l (k+1) F h1 λi y b G N=>by
   have:=s (i+1) y b (by simpa using G) (by rw[show k+(i+1)=k+1+i by lia];exact N);rw[show k+(i+1)+1=k+1+i+1 by lia]at this;exact this
  refine⟨B,?_,by rw[zaz,show k+(l.length+1)=k+1+l.length by lia];exact h2⟩;show(f x a).bind (kZ f l)=some B;rw[J];exact M
theorem AW{l:LT}{k:List Key}{e:D}:(putD l k e).length<=l.length+1:=by
 unfold putD;split <;> simp[-zad,-zac,aA,aC]
def IQ(C:Bk)(P:Int->Int->Prop)(p:LT×LT):Prop:=∀j k,P j k->eW p.1 ([.inl j,.inl k]:List Key)=some (.lst ((bX C.rs k 8 j).map tupI))/\eW p.2 ([.inl j,.inl k]:List Key)=some (memD (NW C j k))
theorem QJ{C:Bk}(B:OkB C):∃W L2,tZ CA gA gZ cP (bB C)=some (.ob CA [("book",bB C),("routes",.dT W),("spans",.dT L2)])/\IQ C (λj k=>(0<=j/\j<(C.kinds.length:Int))/\0<=k/\k<(C.kinds.length:Int)) (W,L2):=by
 have k6:=B.k6;have g:gA (bB C)=some (aS 0 1 C.kinds.length):=by
  unfold gA;simp_all[uM,cV (show C.kinds.length<=1000000 by lia)]
 have step:∀(j k:Int) (p:LT×LT),(0<=j/\j<(C.kinds.length:Int))->(0<=k/\k<(C.kinds.length:Int))->p.1.length<=100->p.2.length<=100->lV gZ cP (bB C) (.int j) (.int k) p=some (putD p.1 ([.inl j,.inl k]:List Key) (.lst ((bX C.rs k 8 j).map tupI)),putD p.2 ([.inl j,.inl k]:List Key) (memD (NW C j k))):=λj k p hj hk M Y=>by
  have w:gZ [bB C,.int j,.int k]=some (.lst ((bX C.rs k 8 j).map tupI)):=MW B.gr 8 j (by lia) (by decide) (by lia);have ws:=CK B hj.1 hk.2;unfold lV;rw[w,aA,show TB (.tup [.int j,.int k])=some ([.inl j,.inl k]:List Key)from rfl,aA,if_pos ⟨decide_eq_true (by lia),decide_eq_true (by lia)⟩,qO,if_pos rfl,aA,ws];rfl
 have inner:∀(j:Nat) (p:LT×LT),j<C.kinds.length->p.1.length<=6*j->p.2.length<=6*j->IQ C (λa b=>(0<=a/\a<(j:Int))/\0<=b/\b<(C.kinds.length:Int)) p->∃p',kZ (lV gZ cP (bB C) (.int (j:Int))) (aS 0 1 C.kinds.length) p=some p'/\p'.1.length<=6*(j+1)/\p'.2.length<=6*(j+1)/\IQ C (λa b=>(0<=a/\a<((j+1:Nat):Int))/\0<=b/\b<(C.kinds.length:Int)) p':=λj p hj M Y ok=>by
  obtain⟨p',e,a1,a2,a3⟩:=nZ (f:=lV gZ cP (bB C) (.int (j:Int))) (λi q=>q.1.length<=6*j+i/\q.2.length<=6*j+i/\IQ C (λa b=>((0<=a/\a<(j:Int))/\0<=b/\b<(C.kinds.length:Int))\/(a=(j:Int)/\0<=b/\b<(i:Int))) q) (aS 0 1 C.kinds.length) 0 p ⟨M,Y,λa b h=>by rcases h with h|h;exact ok a b h;lia⟩ (by
   intro i x q hx ⟨U,J,G⟩;obtain⟨F,rfl⟩:=bW hx;rw[zaS]at *;rw[show(0:Int)+(i:Int)*1=(i:Int) by lia];have ak:=AW (l:=q.1) (k:=([.inl (j:Int),.inl (i:Int)]:List Key)) (e:=.lst ((bX C.rs (i:Int) 8 (j:Int)).map tupI));have ai:=AW (l:=q.2) (k:=([.inl (j:Int),.inl (i:Int)]:List Key)) (e:=memD (NW C (j:Int) (i:Int)));refine⟨_,step (j:Int) (i:Int) q ⟨by lia,by lia⟩ ⟨by lia,by lia⟩ (by lia) (by lia),by simp only;lia,by simp only;lia,λa b h=>?_⟩;simp only[qO];by_cases z:a=(j:Int)/\b=(i:Int)
   ·rw[z.1,z.2,if_pos rfl,if_pos rfl];exact⟨rfl,rfl⟩
   ·have N:¬ ([.inl a,.inl b]:List Key)=[.inl (j:Int),.inl (i:Int)]:=λq=>z (by simpa using q)
    rw[if_neg N,if_neg N];refine G a b ?_;rcases h with h|h
    ·exact .inl h
    ·exact .inr ⟨h.1,h.2.1,by lia⟩)
  rw[bG,zaS]at a1 a2 a3;refine⟨p',e,by lia,by lia,λa b h=>a3 a b ?_⟩;by_cases z:a=(j:Int)
  ·exact .inr ⟨z,h.2⟩
  ·exact .inl ⟨⟨h.1.1,by lia⟩,h.2⟩
 obtain⟨p',e,_,_,ok⟩:=nZ (f:=λj p=>(gA (bB C)).bind λks=>kZ (lV gZ cP (bB C) j) ks p) (λi q=>q.1.length<=6*i/\q.2.length<=6*i/\IQ C (λa b=>(0<=a/\a<(i:Int))/\0<=b/\b<(C.kinds.length:Int)) q) (aS 0 1 C.kinds.length) 0 ([],[]) ⟨zaj _,zaj _,λa b h=>by lia⟩ (by
  intro i x q hx ⟨U,J,G⟩;obtain⟨F,rfl⟩:=bW hx;rw[zaS]at *;rw[show(0:Int)+(i:Int)*1=(i:Int) by lia];obtain⟨p',e,c1,c2,c3⟩:=inner i q F U J G;exact⟨p',by rw[g];exact e,c1,c2,c3⟩)
 rw[bG,zaS]at ok;refine⟨p'.1,p'.2,?_,ok⟩;unfold tZ;rw[g,aA,<- g,e];rfl
theorem vJ{M many:Int}{rs:List Ro}(g:GR M many rs){k:Int}:∀(n:Nat) (x:Int),(bX rs k n x).length<=12^n
 | 0,x=>zaI _
 | n+1,x=>by
  unfold bX;split
  ·exact Nat.pos_of_ne_zero (zbq (Nat.pow_pos (by decide)))
  ·refine zaK (jX (B:=12^n) λi r q=>?_) ?_
   ·split
    ·rw[zam];exact vJ g n r.k
    ·exact zaI _
   ·rw[Nat.pow_succ,Nat.mul_comm];exact Nat.mul_le_mul_left _ g.len
noncomputable def TT(m:Nat):Int:=((10000000000^m:Nat):Int)
theorem MD(m n:Nat):TT (m+n)=TT m*TT n:=by unfold TT;rw[Nat.pow_add,Int.natCast_mul]
theorem OP{m n:Nat}(h:m<=n):TT m<=TT n:=Int.ofNat_le.mpr (Nat.pow_le_pow_right (by decide) h)
theorem FY(m:Nat):0<=TT m:=Int.natCast_nonneg _
def LeT(m:Nat)(a:Int):Prop:=0<=a/\a<=TT m
theorem LeT.mul{m n:Nat}{a b:Int}(h:LeT m a)(k:LeT n b):LeT (m+n) (a*b):=⟨zcY h.1 k.1,by rw[MD];exact Int.mul_le_mul h.2 k.2 k.1 (FY m)⟩
theorem LeT.mono{m n:Nat}{a:Int}(h:LeT m a)(k:m<=n):LeT n a:=⟨h.1,zct h.2 (OP k)⟩
theorem LeT.one:LeT 0 1:=⟨by decide,by unfold TT;exact zdL _⟩
theorem tT{a:Sm}{m:Nat}(h:LeT m (nI a))(z:m<=16):Small a:=λp q=>by
 subst q;have b:=(h.mono z).2;have c:TT 16<10^250:=by decide +kernel
 exact⟨h.1,Int.lt_of_le_of_lt b c⟩
noncomputable def cI:D->Int
 | .int v=>v
 | _=>0
def NP(C:Bk):Pa->D->Int
 | .use1 ..,c=>mpr C (cI c).toNat
 | .use2 ..,c=>mpr C (cI c).toNat
 | _,_=>0
def d8(C:Bk):Pa->fR->Int->D->Int
 | .name x,e,_,_=>e x
 | .num _ j,_,_,_=>j
 | .use1 ..,_,_,c=>dF C (cI c).toNat
 | .use2 ..,_,_,c=>dF C (cI c).toNat
 | .lett ..,_,k,_=>k
 | .pick _ k' ..,_,_,_=>k'
 | .again _ k' ..,_,_,_=>k'
def uO(C:Bk):Pa->Int->D->List Int
 | .use1 ..,_,c=>[aT C (cI c).toNat 0]
 | .use2 ..,_,c=>[aT C (cI c).toNat 0,aT C (cI c).toNat 1]
 | .lett ..,k,c=>[cI c,k]
 | .pick c' k' ..,_,_=>[c',k',k']
 | .again _ k' ..,_,_=>[k',k']
 | _,_,_=>[]
def IS:Pa->D->Int
 | .lett ..,c=>cI c
 | .again _ k' ..,_=>k'
 | _,_=>0
def XG(p:Pa)(e:fR)(c:D)(i:Nat):fR:=match hid p i with
 | none=>e
 | some x=>eX e x (IS p c)
def SC(p:Pa)(d:List (Key×D))(c:D)(i:Nat):List (Key×D):=match hid p i with
 | none=>d
 | some x=>putD d (.inr x) (.int (IS p c))
abbrev Sb:=Pa×List (Key×D)×fR×Int
def DU(hd:Nat->List (Key×D))(ev:Nat->fR):Nat->List Pa->List Int->List Sb
 | i,q::l,k::ks=>(q,hd i,ev i,k)::DU hd ev (i+1) l ks
 | _,_,_=>[]
def qK(C:Bk)(s:Sb):Sm:=aX C s.1 s.2.2.1 s.2.2.2
def sb(C:Bk)(p:Pa)(d:List (Key×D))(e:fR)(k:Int)(c:D):List Sb:=DU (SC p d c) (XG p e c) 0 (kids p) (uO C p k c)
def BI(C:Bk)(p:Pa)(d:List (Key×D))(e:fR)(k:Int)(c:D):Sm:=csum C (NP C p c) (d8 C p e k c) k ((sb C p d e k c).map (qK C))
theorem EM(C:Bk)(p:Pa)(d:List (Key×D))(e:fR)(k:Int):(bV C p).foldl (λt c=>dB t (BI C p d e k c)) none=aX C p e k:=by
 cases p with
 | name x=>simp only[bV,aX,zcI,zdM];cases h:BI C (.name x) d e k .non <;> exact h.symm
 | num n j=>simp only[bV,aX,zcI,zdM];cases h:BI C (.num n j) d e k .non <;> exact h.symm
 | use1 nm p=>simp only[bV,aX,List.foldl_map];rfl
 | use2 nm p q=>simp only[bV,aX,List.foldl_map];rfl
 | lett x p q=>simp only[bV,aX,List.foldl_map];rfl
 | pick c' k' p q r=>simp only[bV,aX,zcI,zdM];cases h:BI C (.pick c' k' p q r) d e k .non <;> exact h.symm
 | again n k' x p q=>simp only[bV,aX,zcI,zdM];cases h:BI C (.again n k' x p q) d e k .non <;> exact h.symm
theorem kP{hd:Nat->List (Key×D)}{ev:Nat->fR}:∀ {l:List Pa} {ks:List Int} {j i:Nat} {s:Sb},(DU hd ev j l ks)[i]?=some s->∃q k,l[i]?=some q/\ks[i]?=some k/\s=(q,hd (j+i),ev (j+i),k)
 | [],ks,j,i,s,h=>by cases ks <;> simp[-zad,-zac,aA,aC,DU]at h
 | q::l,[],j,i,s,h=>by simp[-zad,-zac,aA,aC,DU]at h
 | q::l,k::ks,j,0,s,h=>by
  have:(q,hd j,ev j,k)=s:=by simpa[DU]using h
  exact⟨q,k,rfl,rfl,this.symm⟩
 | q::l,k::ks,j,i+1,s,h=>by
  obtain⟨z,F,h1,h2,B⟩:=kP (l:=l) (ks:=ks) (j:=j+1) (i:=i) (s:=s) (by simpa[DU]using h);exact⟨z,F,by simpa using h1,by simpa using h2,by rw[B,show j+1+i=j+(i+1) by lia]⟩
theorem EK{hd:Nat->List (Key×D)}{ev:Nat->fR}:∀ {l:List Pa} {ks:List Int} {j:Nat},l.length=ks.length->(DU hd ev j l ks).length=l.length
 | [],ks,j,h=>by cases ks <;> rfl
 | q::l,[],j,h=>by simp[-zad,-zac,aA,aC]at h
 | q::l,k::ks,j,h=>by rw[DU,zaz,zaz,EK (by simpa using h)]
theorem wV{hd:Nat->List (Key×D)}{ev:Nat->fR}:∀(l:List Pa) (ks:List Int) (j:Nat),((DU hd ev j l ks).map λs=>psz s.1).sum<=(l.map psz).sum
 | [],ks,j=>by cases ks <;> simp_all[DU]
 | q::l,[],j=>by simp_all[DU]
 | q::l,k::ks,j=>by
  have:=wV (hd:=hd) (ev:=ev) l ks (j+1);simp only[DU,zak,zbm];lia
theorem EA{C:Bk}{hd:Nat->List (Key×D)}{ev:Nat->fR}:∀(l:List Pa) (ks:List Int) (j:Nat),DS C (λi=>.dK (hd i)) j l ks=(DU hd ev j l ks).map λs=>.tup [dE C s.1,.dK s.2.1,.int s.2.2.2]
 | [],ks,j=>by cases ks <;> rfl
 | q::l,[],j=>rfl
 | q::l,k::ks,j=>by rw[DS,DU,zak,EA l ks (j+1)]
theorem oI{C:Bk}{p:Pa}{d:List (Key×D)}{e:fR}{k:Int}{c:D}{s:Sb}(h:s∈sb C p d e k c):s.1∈kids p:=by
 obtain⟨i,hi⟩:=zce h;obtain⟨q,z,h1,h2,rfl⟩:=kP hi;exact zav h1
theorem mS{C:Bk}:∀(l:List Sb) (i:Nat),(∀s∈l,LeT (psz s.1) (nI (qK C s)))->LeT (l.map λs=>psz s.1).sum (mE (((l.map (qK C)).take i).map nI))
 | [],i,_=>by simp only[zb8,List.take_nil,mE,List.sum_nil];exact .one
 | s::l,0,h=>by simp only[List.take_zero,zb8,mE];exact LeT.one.mono (zaI _)
 | s::l,i+1,h=>by
  simp only[zak,zcu,mE,zbm];exact(h s (zat ..)).mul (mS l i λt q=>h t (zap _ q))
theorem Q2{C:Bk}(B:OkB C)(p:Pa):(bV C p).length<=6:=by
 have z:=B.k6;have q:=B.ml;have u:∀nm n,(nS C nm n).length<=6:=λnm n=>by
  unfold nS;refine zaK (zc3 ..) ?_;rw[zcG];exact q
 cases p <;> simp_all[bV] <;> first|exact u _ _|lia
theorem R4{C:Bk}(B:OkB C)(j k:Int):((bX C.rs k 8 j).length:Int)<=429981696:=Int.ofNat_le.mpr (vJ B.gr 8 j)
theorem SG{C:Bk}(B:OkB C){own j k:Int}{l:List Sm}{m:Nat}(h:LeT m (mE (l.map nI))):0<=nI (csum C own j k l)/\nI (csum C own j k l)<=TT m*429981696:=by
 rw[fJ,xC];have e:mE [((bX C.rs k 8 j).length:Int)]=((bX C.rs k 8 j).length:Int):=by simp_all[mE]
 rw[e];have a:=R4 B j k;exact⟨zcY h.1 (by lia),Int.mul_le_mul h.2 a (by lia) (FY m)⟩
theorem MV{q:Type}{f:q->Int}{c:Int}:∀ {l:List q},(∀v∈l,f v<=c)->(l.map f).sum<=(l.length:Int)*c
 | [],_=>by simp[-zad,-zac,aA,aC]
 | a::l,h=>by
  have h1:=h a (zat ..);have h2:=MV (l:=l) λv z=>h v (zap _ z)
  rw[zak,zbm,zaz,Int.natCast_succ,Int.add_mul];lia
theorem MJ(m:Nat):TT (m+1)=TT m*10000000000:=by rw[MD];rfl
theorem kR{C:Bk}(B:OkB C):∀(n:Nat) (p:Pa),psz p<=n->∀(e:fR) (k:Int),LeT (psz p) (nI (aX C p e k))
 | 0,p,h,_,_=>by have:=eP p;lia
 | n+1,p,h,e,k=>by
  refine⟨cJ C p e k,?_⟩;rw[<- EM C p [] e k,kQ];have ks:=eP p;have F:=Q2 B p;have q:∀c∈bV C p,nI (BI C p [] e k c)<=TT ((kids p).map psz).sum*429981696:=λc _=>by
   have a:=mS (C:=C) (sb C p [] e k c) (sb C p [] e k c).length λs hs=>kR B n s.1 (by have:=gG (oI hs);lia) _ _
   rw[zbZ (by rw[zam];exact zaj _)]at a;exact(SG B (a.mono (wV ..))).2
  have:=MV q;rw[<- ks,MJ];have G:=FY ((kids p).map psz).sum;generalize TT ((kids p).map psz).sum=T at *;have z:((bV C p).length:Int)*(T*429981696)<=6*(T*429981696):=zer (by lia) (by lia);rw[show nI (none:Sm)=0 from rfl];lia
theorem JJ{C:Bk}(B:OkB C){own j k:Int}{l:List Sb}{m:Nat}(z:(l.map λs=>psz s.1).sum+1<=m)(q:m<=16)(i:Nat):LeT m (nI (csum C own j k ((l.map (qK C)).take i)))/\Small (csum C own j k ((l.map (qK C)).take i)):=by
 have a:=SG B (own:=own) (j:=j) (k:=k) (mS (C:=C) l i λs _=>kR B _ s.1 (zaj _) _ _);have b:LeT ((l.map λs=>psz s.1).sum+1) (nI (csum C own j k ((l.map (qK C)).take i))):=⟨a.1,by
  rw[MJ];have F:=FY (l.map λs=>psz s.1).sum
  lia⟩
 exact⟨b.mono z,tT (b.mono z) q⟩
def PaOk(C:Bk)(U:List Str):Pa->Prop
 | .name x=>x∈U
 | .num _ j=>0<=j/\j<(C.kinds.length:Int)
 | .use1 _ p=>PaOk C U p
 | .use2 _ p q=>PaOk C U p/\PaOk C U q
 | .lett x p q=>x∈U/\PaOk C U p/\PaOk C U q
 | .pick c k p q r=>(0<=c/\c<(C.kinds.length:Int))/\(0<=k/\k<(C.kinds.length:Int))/\PaOk C U p/\PaOk C U q/\PaOk C U r
 | .again _ k x p q=>(0<=k/\k<(C.kinds.length:Int))/\x∈U/\PaOk C U p/\PaOk C U q
theorem R5{z:Type}{a q:z}{i:Nat}(h:[a][i]?=some q):i=0/\q=a:=by
 cases i with
 | zero=>exact⟨rfl,by simpa using h.symm⟩
 | succ i=>simp[-zad,-zac,aA,aC]at h
theorem DK{z:Type}{a b q:z}{i:Nat}(h:[a,b][i]?=some q):(i=0/\q=a)\/(i=1/\q=b):=by
 cases i with
 | zero=>exact .inl ⟨rfl,by simpa using h.symm⟩
 | succ i=>have:=R5 (a:=b) (q:=q) (i:=i) (by simpa using h);exact .inr ⟨by lia,this.2⟩
theorem get3{B:Type}{a b c q:B}{i:Nat}(h:[a,b,c][i]?=some q):(i=0/\q=a)\/(i=1/\q=b)\/(i=2/\q=c):=by
 cases i with
 | zero=>exact .inl ⟨rfl,by simpa using h.symm⟩
 | succ i=>
  rcases DK (a:=b) (b:=c) (q:=q) (i:=i) (by simpa using h)with z|z
  ·exact .inr (.inl ⟨by lia,z.2⟩)
  ·exact .inr (.inr ⟨by lia,z.2⟩)
theorem DY{p q:Pa}{i:Nat}{x:Str}(z:(kids p)[i]?=some q)(hx:x∈aP q)(B:some x≠hid p i):x∈aP p:=by
 cases p with
 | name y=>simp[-zad,-zac,aA,aC,kids]at z
 | num n j=>simp[-zad,-zac,aA,aC,kids]at z
 | use1 nm p=>obtain⟨rfl,rfl⟩:=R5 z;simp only[aP,a9];exact .inr ⟨hx,by simp[-zad,-zac,aA,aC]⟩
 | use2 nm p q=>
  simp only[aP,a9];rcases DK z with⟨rfl,rfl⟩|⟨rfl,rfl⟩
  ·exact .inl (.inr ⟨hx,by simp[-zad,-zac,aA,aC]⟩)
  ·exact .inr ⟨hx,by simp[-zad,-zac,aA,aC]⟩
 | lett y p q=>
  simp only[aP,a9];rcases DK z with⟨rfl,rfl⟩|⟨rfl,rfl⟩
  ·exact .inl (.inr ⟨hx,by simp[-zad,-zac,aA,aC]⟩)
  ·exact .inr ⟨hx,B⟩
 | pick c k p q r=>
  simp only[aP,a9];rcases get3 z with⟨rfl,rfl⟩|⟨rfl,rfl⟩|⟨rfl,rfl⟩
  ·exact .inl (.inl (.inr ⟨hx,by simp[-zad,-zac,aA,aC]⟩))
  ·exact .inl (.inr ⟨hx,by simp[-zad,-zac,aA,aC]⟩)
  ·exact .inr ⟨hx,by simp[-zad,-zac,aA,aC]⟩
 | again n k y p q=>
  simp only[aP,a9];rcases DK z with⟨rfl,rfl⟩|⟨rfl,rfl⟩
  ·exact .inl (.inr ⟨hx,by simp[-zad,-zac,aA,aC]⟩)
  ·exact .inr ⟨hx,B⟩
theorem PaOk.kid{C:Bk}{U:List Str}{p q:Pa}(h:PaOk C U p)(z:q∈kids p):PaOk C U q:=by
 cases p with
 | name y=>cases z
 | num n j=>cases z
 | use1 nm p=>rw[List.mem_singleton.mp z];exact h
 | use2 nm p q=>simp[-zad,-zac,aA,aC,kids]at z;rcases z with rfl|rfl;exact h.1;exact h.2
 | lett y p q=>simp[-zad,-zac,aA,aC,kids]at z;rcases z with rfl|rfl;exact h.2.1;exact h.2.2
 | pick c k p q r=>simp[-zad,-zac,aA,aC,kids]at z;rcases z with rfl|rfl|rfl;exact h.2.2.1;exact h.2.2.2.1;exact h.2.2.2.2
 | again n k y p q=>simp[-zad,-zac,aA,aC,kids]at z;rcases z with rfl|rfl;exact h.2.2.1;exact h.2.2.2
theorem PaOk.nms{C:Bk}{U:List Str}:∀ {p:Pa},PaOk C U p->∀x∈aP p,x∈U
 | .name y,h,x,hx=>by rw[List.mem_singleton.mp hx];exact h
 | .num _ _,h,x,hx=>by cases hx
 | .use1 _ p,h,x,hx=>by
  simp[-zad,-zac,aA,aC,aP,a9]at hx;exact PaOk.nms (p:=p) h x hx
 | .use2 _ p q,h,x,hx=>by
  simp[-zad,-zac,aA,aC,aP,a9]at hx;rcases hx with z|z
  ·exact PaOk.nms h.1 x z
  ·exact PaOk.nms h.2 x z
 | .lett _ p q,h,x,hx=>by
  simp[-zad,-zac,aA,aC,aP,a9]at hx;rcases hx with z|z
  ·exact PaOk.nms h.2.1 x z
  ·exact PaOk.nms h.2.2 x z.1
 | .pick _ _ p q r,h,x,hx=>by
  simp[-zad,-zac,aA,aC,aP,a9]at hx;rcases hx with(z|z)|z
  ·exact PaOk.nms h.2.2.1 x z
  ·exact PaOk.nms h.2.2.2.1 x z
  ·exact PaOk.nms h.2.2.2.2 x z
 | .again _ _ _ p q,h,x,hx=>by
  simp[-zad,-zac,aA,aC,aP,a9]at hx;rcases hx with z|z
  ·exact PaOk.nms h.2.2.1 x z
  ·exact PaOk.nms h.2.2.2 x z.1
theorem cQ{h:Option Str}{a l:List Str}(z:a.Nodup)(q:l.Nodup):(fE h a l).Nodup:=by
 unfold fE;refine List.nodup_append.mpr ⟨z,q.filter _,λx hx y B e=>?_⟩;have:=(List.mem_filter.mp B).2;subst e;simp[-zad,-zac,aA,aC,hx]at this
theorem cU:∀p:Pa,(aP p).Nodup
 | .name y=>by simp_all[aP]
 | .num _ _=>by simp_all[aP]
 | .use1 _ p=>cQ .nil (cU p)
 | .use2 _ p q=>cQ (cQ .nil (cU p)) (cU q)
 | .lett _ p q=>cQ (cQ .nil (cU p)) (cU q)
 | .pick _ _ p q r=>cQ (cQ (cQ .nil (cU p)) (cU q)) (cU r)
 | .again _ _ _ p q=>cQ (cQ .nil (cU p)) (cU q)
theorem PaOk.n8{C:Bk}{U:List Str}{p:Pa}(h:PaOk C U p)(q:U.length<=8):(aP p).length<=8:=zaK (sN (cU p) h.nms) q
theorem g9{C:Bk}{nm:Str}{n:Nat}{c:D}(h:c∈(nS C nm n).map λ(v:Nat)=>D.int (v:Int)):∃(v:Nat) (m:Mk),c=.int (v:Int)/\C.makes[v]?=some m/\m.nm=nm/\m.takes.length=n:=by
 obtain⟨v,q,rfl⟩:=List.mem_map.mp h;have:=(List.mem_filter.mp q).2;cases e:C.makes[v]? with
 | none=>rw[e]at this;cases this
 | some m=>
  rw[e]at this;simp[-zad,-zac,aA,aC]at this;exact⟨v,m,rfl,e,this.1,this.2⟩
theorem xU{C:Bk}{c:D}(h:c∈(zas C.kinds.length).map λ(v:Nat)=>D.int (v:Int)):∃v:Nat,c=.int (v:Int)/\v<C.kinds.length:=by
 obtain⟨v,q,rfl⟩:=List.mem_map.mp h;exact⟨v,rfl,List.mem_range.mp q⟩
theorem d5(v:Nat):(cI (.int (v:Int))).toNat=v:=zbx v
structure PI'(C:Bk)(U:List Str)(p:Pa)(d:List (Key×D))(e:fR)(k:Int):Prop where
 ok:PaOk C U p
 k0:0<=k
 k1:k<(C.kinds.length:Int)
 hd:∀x∈aP p,eW d (.inr x:Key)=some (.int (e x))
 he:∀x∈aP p,0<=e x/\e x<(C.kinds.length:Int)
 dl:d.length+psz p<=1000
theorem L7{C:Bk}{v:Nat}{m:Mk}(h:C.makes[v]?=some m)(l:m.takes.length=1):m.takes=[aT C v 0]:=by
 rw[eO h];obtain⟨a,e⟩:∃a,m.takes=[a]:=List.length_eq_one_iff.mp l;rw[e];rfl
theorem MG{C:Bk}{v:Nat}{m:Mk}(h:C.makes[v]?=some m)(l:m.takes.length=2):m.takes=[aT C v 0,aT C v 1]:=by
 rw[eO h,eO h]
 match e:m.takes,l with
 | [a,b],_=>rfl
theorem M8{C:Bk}(B:OkB C){U:List Str}{p:Pa}{k:Int}{c:D}(h:PaOk C U p)(k0:0<=k)(k1:k<(C.kinds.length:Int))(G:c∈bV C p):(uO C p k c).length=(kids p).length/\∀j∈uO C p k c,0<=j/\j<(C.kinds.length:Int):=by
 cases p with
 | name y=>exact⟨rfl,λ_ h=>nomatch h⟩
 | num n j=>exact⟨rfl,λ_ h=>nomatch h⟩
 | use1 nm p=>
  obtain⟨v,m,rfl,F,_,J⟩:=g9 G;refine⟨rfl,?_⟩;have t:=L7 F J;simp only[uO,d5];rw[<- t];exact B.tb m (zav F)
 | use2 nm p q=>
  obtain⟨v,m,rfl,F,_,J⟩:=g9 G;refine⟨rfl,?_⟩;have t:=MG F J;simp only[uO,d5];rw[<- t];exact B.tb m (zav F)
 | lett y p q=>
  obtain⟨v,rfl,M⟩:=xU G;refine⟨rfl,λj z=>?_⟩;simp[-zad,-zac,aA,aC,uO,cI]at z
  lia
 | pick c' k' p q r=>
  refine⟨rfl,λj z=>?_⟩;simp[-zad,-zac,aA,aC,uO]at z;rcases z with rfl|rfl
  ·exact h.1
  ·exact h.2.1
 | again n k' y p q=>
  refine⟨rfl,λj z=>?_⟩;simp[-zad,-zac,aA,aC,uO]at z;rw[z];exact h.1
theorem WP{C:Bk}{U:List Str}{p:Pa}{c:D}{i:Nat}{x:Str}(h:PaOk C U p)(z:c∈bV C p)(q:hid p i=some x):0<=IS p c/\IS p c<(C.kinds.length:Int):=by
 unfold hid at q;split at q
 ·obtain⟨v,rfl,B⟩:=xU z
  simp only[IS,cI];lia
 ·exact h.1
 ·cases q
theorem PI'.kid{C:Bk}(B:OkB C){U:List Str}{p:Pa}{d:List (Key×D)}{e:fR}{k:Int}{c:D}(h:PI' C U p d e k)(W:c∈bV C p){i:Nat}{q:Pa}{M:Int}(J:(kids p)[i]?=some q)(hk:(uO C p k c)[i]?=some M):PI' C U q (SC p d c i) (XG p e c i) M:=by
 have N:=zav J;have sz:=gG N;have G:=(M8 B h.ok h.k0 h.k1 W).2 M (zav hk);have dl:=h.dl;unfold SC XG;cases e1:hid p i with
 | none=>
  have F:∀x∈aP q,x∈aP p:=λx hx=>DY J hx (by rw[e1];simp[-zad,-zac,aA,aC])
  exact⟨h.ok.kid N,G.1,G.2,λx hx=>h.hd x (F x hx),λx hx=>h.he x (F x hx),by simp only;lia⟩
 | some y=>
  have F:∀x∈aP q,¬ x=y->x∈aP p:=λx hx n=>DY J hx (by rw[e1];intro z;injection z with z;exact n z)
  have Y:=WP h.ok W e1;refine⟨h.ok.kid N,G.1,G.2,λx hx=>?_,λx hx=>?_,?_⟩
  ·simp only[qO,eX]
   by_cases z:x=y
   ·rw[if_pos (by rw[z]),if_pos z]
   ·rw[if_neg (λw=>z (by injection w)),if_neg z];exact h.hd x (F x hx z)
  ·simp only[eX]
   by_cases z:x=y
   ·rw[if_pos z];exact Y
   ·rw[if_neg z];exact h.he x (F x hx z)
  ·have:=sY (d:=d) (k:=.inr y) (e:=.int (IS p c))
   simp only;lia
theorem RA{C:Bk}{p:Pa}{d:List (Key×D)}{c:D}(q:d.length<=1000)(z:c∈bV C p)(i:Nat):dD [.dK d,bI p,.int (i:Int),c]=some (.dK (SC p d c i)):=by
 have w:=zD p i;cases e1:hid p i with
 | none=>
  rw[e1]at w;rw[CQ w];unfold SC;rw[e1]
 | some y=>
  unfold SC;rw[e1];unfold hid at e1;split at e1
  ·cases e1
   obtain⟨v,rfl,B⟩:=xU z;exact HL q
  ·cases e1
   exact yJ q
  ·cases e1
theorem NB{C:Bk}{U:List Str}{p:Pa}{d:List (Key×D)}{e:fR}{k:Int}{c:D}(h:PI' C U p d e k)(B:c∈bV C p):bC [bB C,.dK d,bI p,.int k,c]=some (.int (d8 C p e k c)):=by
 cases p with
 | name x=>exact CH (h.hd x (List.mem_singleton.mpr rfl))
 | num n j=>exact HF
 | use1 nm p=>
  obtain⟨v,m,rfl,z,_,_⟩:=g9 B;rw[BL z];simp only[d8,d5,fN z]
 | use2 nm p q=>
  obtain⟨v,m,rfl,z,_,_⟩:=g9 B;rw[B9 z];simp only[d8,d5,fN z]
 | lett y p q=>exact GW
 | pick c' k' p q r=>exact BM
 | again n k' y p q=>exact yO
theorem qae{C:Bk}{p:Pa}{k:Int}{c:D}(B:c∈bV C p):bP [bB C,bI p,.int k,c]=some (tupI (uO C p k c)):=by
 cases p with
 | name x=>exact GL
 | num n j=>exact JS
 | use1 nm p=>
  obtain⟨v,m,rfl,z,_,F⟩:=g9 B;rw[IG z,L7 z F];simp only[uO,d5]
 | use2 nm p q=>
  obtain⟨v,m,rfl,z,_,F⟩:=g9 B;rw[GI z,MG z F];simp only[uO,d5]
 | lett y p q=>
  obtain⟨v,rfl,G⟩:=xU B;exact JU
 | pick c' k' p q r=>exact GM
 | again n k' y p q=>exact BZ
theorem xR{C:Bk}(B:OkB C){U:List Str}{p:Pa}{d:List (Key×D)}{e:fR}{k:Int}{c:D}(h:PI' C U p d e k)(F:c∈bV C p):0<=d8 C p e k c/\d8 C p e k c<(C.kinds.length:Int):=by
 cases p with
 | name x=>exact h.he x (List.mem_singleton.mpr rfl)
 | num n j=>exact h.ok
 | use1 nm p=>
  obtain⟨v,m,rfl,z,_,_⟩:=g9 F;simp only[d8,d5,fN z];exact B.gb m (zav z)
 | use2 nm p q=>
  obtain⟨v,m,rfl,z,_,_⟩:=g9 F;simp only[d8,d5,fN z];exact B.gb m (zav z)
 | lett y p q=>exact⟨h.k0,h.k1⟩
 | pick c' k' p q r=>exact h.ok.2.1
 | again n k' y p q=>exact h.ok.1
def AtD(C:Bk)(at_:D):Prop:=∃q L2,at_=.ob CA [("book",bB C),("routes",.dT q),("spans",.dT L2)]/\IQ C (λj k=>(0<=j/\j<(C.kinds.length:Int))/\0<=k/\k<(C.kinds.length:Int)) (q,L2)
theorem AtD.book{C:Bk}{at_:D}(h:AtD C at_):uY CA "book" at_=some (bB C):=by
 obtain⟨q,L2,rfl,_⟩:=h;rfl
theorem NA{C:Bk}(B:OkB C){U:List Str}{at_:D}(A:AtD C at_){p:Pa}{d:List (Key×D)}{e:fR}{k:Int}{c:D}(h:PI' C U p d e k)(q:c∈bV C p):gS [at_,dE C p,.dK d,.int k,c]=some (.lst ((sb C p d e k c).map λs=>.tup [dE C s.1,.dK s.2.1,.int s.2.2.2])):=by
 have z:=h.dl;rw[P9 (hd:=λi=>.dK (SC p d c i)) A.book (qae q) (by rw[(M8 B h.ok h.k0 h.k1 q).1];exact zaj _) λi _=>RA (by lia) q i];rw[EA (ev:=XG p e c)];rfl
theorem WB{C:Bk}{p:Pa}{c:D}(B:c∈bV C p):SQ C p c (NP C p c):=by
 cases p with
 | name x=>exact .inr ⟨lU,rfl⟩
 | num n j=>exact .inr ⟨kG,rfl⟩
 | use1 nm p=>
  obtain⟨v,m,rfl,z,_,_⟩:=g9 B;exact .inl ⟨rfl,v,m,rfl,z,by simp only[NP,d5,mpr,z];rfl⟩
 | use2 nm p q=>
  obtain⟨v,m,rfl,z,_,_⟩:=g9 B;exact .inl ⟨rfl,v,m,rfl,z,by simp only[NP,d5,mpr,z];rfl⟩
 | lett y p q=>exact .inr ⟨kB,rfl⟩
 | pick c' k' p q r=>exact .inr ⟨jY,rfl⟩
 | again n k' y p q=>exact .inr ⟨kF,rfl⟩
theorem MA{C:Bk}{p:Pa}{d:List (Key×D)}{e:fR}{k:Int}{c:D}:((sb C p d e k c).map λs=>psz s.1).sum+1<=psz p:=by
 have a:=wV (hd:=SC p d c) (ev:=XG p e c) (kids p) (uO C p k c) 0;have b:=eP p;unfold sb;lia
theorem C9{C:Bk}(B:OkB C){U:List Str}{at_:D}(A:AtD C at_){p:Pa}{d:List (Key×D)}{e:fR}{k:Int}{c:D}{R:List D->Option D}(h:PI' C U p d e k)(z:c∈bV C p)(sz:psz p<=16)(M:∀s∈sb C p d e k c,PI' C U s.1 s.2.1 s.2.2.1 s.2.2.2->psz s.1<psz p->R [at_,dE C s.1,.dK s.2.1,.int s.2.2.2]=some (memD (qK C s))) :
  bF 10 (cC R) [at_,dE C p,.dK d,.int k,c]=some (memD (BI C p d e k c)):=by
 have J:=xR B h z;have hs:=NA B A h z;have bk:=A.book;have ss:=MA (C:=C) (p:=p) (d:=d) (e:=e) (k:=k) (c:=c);obtain⟨Y,L2,rfl,ok⟩:=A;have F:∀s∈sb C p d e k c,PI' C U s.1 s.2.1 s.2.2.1 s.2.2.2/\psz s.1<psz p:=λs hs=>by
  obtain⟨i,hi⟩:=zce hs;have N:=gG (oI hs);obtain⟨q,W,h1,h2,rfl⟩:=kP hi;rw[zaS];exact⟨h.kid B z h1 h2,N⟩
 have:=wN (C:=C) (p:=p) (d:=d) (k:=k) (j:=d8 C p e k c) (own:=NP C p c) (c:=c) (R:=R) (L2:=L2) (Rs:=(sb C p d e k c).map λs=>(dE C s.1,.dK s.2.1,.int s.2.2.2,qK C s)) bk rfl (ok _ _ ⟨J,h.k0,h.k1⟩).2 (WB z) (NB h z) (by rw[hs,zaq];rfl)
  (λr G => by
   obtain⟨s,hs,rfl⟩:=List.mem_map.mp G;exact M s hs (F s hs).1 (F s hs).2) (tT (m:=1) ⟨by rw[C2];lia,by rw[C2];exact zct (R4 B _ _) (by decide)⟩ (by decide)) (λr G=>by
   obtain⟨s,hs,rfl⟩:=List.mem_map.mp G;exact tT (kR B _ s.1 (zaj _) _ _) (by have:=(F s hs).2;lia)) λi=>by
   rw[zaq];exact(JJ B ss sz i).2
 rw[this,zaq];rfl
theorem A9{C:Bk}(B:OkB C){U:List Str}(q:U.length<=8){at_:D}(A:AtD C at_):∀(n:Nat) (p:Pa) (d:List (Key×D)) (e:fR) (k:Int),psz p<=n->psz p<=16->PI' C U p d e k->gK 7 iB n [at_,dE C p,.dK d,.int k]=some (memD (aX C p e k))
 | 0,p,d,e,k,h,_,_=>by have:=eP p;lia
 | n+1,p,d,e,k,h,h16,I=>by
  show bF 7 (iB (gK 7 iB n)) _=_;exact BQ B A.book ⟨I.k0,I.k1⟩ I.hd I.he (I.ok.n8 q) (f:=BI C p d e k) (λc z=>C9 B A I z h16 λs _ F G=>A9 B q A n s.1 s.2.1 s.2.2.1 s.2.2.2 (by lia) (by lia) F) (EM C p d e k)
def cM:Rg->List Rg
 | .use1 _ _ p _=>[p]
 | .use2 _ _ p q _=>[p,q]
 | .lett _ _ p q=>[p,q]
 | .pick _ _ p q r _=>[p,q,r]
 | .again _ _ _ p q _=>[p,q]
 | _=>[]
theorem xH(g:Rg):kids (pa g)=(cM g).map pa:=by cases g <;> rfl
theorem EV(g:Rg):ir g=(cM g).map rd:=by cases g <;> rfl
theorem xQ{g q:Rg}(h:q∈cM g):size q<size g:=by
 rw[<- b7,<- b7];exact gG (by rw[xH];exact List.mem_map.mpr ⟨q,h,rfl⟩)
def nU(l:List D)(c:D)(f:D->Sm):Int:=((l.filter λu=>decide (cI u<cI c)).map λu=>nI (f u)).sum
def wF(C:Bk):List Rg->List Sb->List (Int×Int)
 | g::l,s::m=>(cA C g s.2.2.1 s.2.2.2,nI (qK C s))::wF C l m
 | _,_=>[]
theorem w4(l:List Nat)(v:Nat){j:Int}(q:j.toNat=v)(f:D->Sm):nU (l.map λ(v:Nat)=>D.int (v:Int)) (.int j) f=uV l v λu=>f (.int (u:Int)):=by
 unfold nU uV;rw[List.filter_map,zaq];have:((λu=>decide (cI u<cI (.int j))) ∘ λ(v:Nat)=>D.int (v:Int))=λu:Nat=>decide (u<v):=by
  funext u;show decide ((u:Int)<j)=decide (u<v);congr 1;exact propext ⟨λh=>by lia,λh=>by lia⟩
 rw[this];rfl
theorem qN(f:D->Sm):nU [.non] .non f=0:=rfl
theorem FR(C:Bk)(g:Rg)(d:List (Key×D))(e:fR)(k:Int):cA C g e k=nU (bV C (pa g)) (ch g) (BI C (pa g) d e k)+cL 0 (wF C (cM g) (sb C (pa g) d e k (ch g))++[kU C (d8 C (pa g) e k (ch g)) k (wy g)]):=by
 cases g with
 | name x j w=>simp only[bV,pa,ch,qN,zbL];rfl
 | num n j w=>simp only[bV,pa,ch,qN,zbL];rfl
 | use1 v nm p w=>simp only[bV,pa,ch,w4 _ v (zbx v)];rfl
 | use2 v nm p q w=>simp only[bV,pa,ch,w4 _ v (zbx v)];rfl
 | lett x j p q=>simp only[bV,pa,ch,w4 _ j.toNat rfl];rfl
 | pick c k' p q r w=>simp only[bV,pa,ch,qN,zbL];rfl
 | again n k' x p q w=>simp only[bV,pa,ch,qN,zbL];rfl
structure WI(C:Bk)(U:List Str)(kn:List (Str×Int))(g:Rg)(d:List (Key×D))(e:fR)(k:Int):Prop where
 wf:WF C kn g k
 nf:NF U (kn.map (·.1)) g
 ok:OkN C kn
 ec:EC e kn
 cd:Cons d kn
 un:∀p∈kn,p.1∈U
 dl:d.length+size g<=1000
theorem uN{C:Bk}(B:OkB C){U:List Str}:∀ {g:Rg} {kn:List (Str×Int)} {N:List Str} {k:Int},WF C kn g k->NF U N g->OkN C kn->(∀p∈kn,p.1∈U)->PaOk C U (pa g)
 | .name x j w,kn,N,k,W,_,_,hu=>hu _ W.1
 | .num n j w,kn,N,k,W,_,_,_=>W.2.1
 | .use1 v nm p w,kn,N,k,⟨m,t,a,b,c,d,f⟩,F,K,hu=>uN B (g:=p) d F K hu
 | .use2 v nm p q w,kn,N,k,⟨m,t,u,a,b,c,d,d2,f⟩,F,K,hu=>⟨uN B (g:=p) d F.1 K hu,uN B (g:=q) d2 F.2 K hu⟩
 | .lett x j p q,kn,N,k,⟨a,b⟩,F,K,hu=>⟨F.2.1.2,uN B (g:=p) a F.1 K hu,uN B (g:=q) b F.2.2 (K.cons (a.short B K).2.1 (a.short B K).2.2) λp G=>by
   rcases List.mem_cons.mp G with z|z
   ·rw[z];exact F.2.1.2
   ·exact hu p z⟩
 | .pick c k' p q r w,kn,N,k,⟨a,b,c1,c2,c3,d⟩,F,K,hu=>⟨a,b,uN B (g:=p) c1 F.1 K hu,uN B (g:=q) c2 F.2.1 K hu,uN B (g:=r) c3 F.2.2 K hu⟩
 | .again n k' x p q w,kn,N,k,⟨a,b,c1,c2,d⟩,F,K,hu=>⟨b,F.2.1.2,uN B (g:=p) c1 F.1 K hu,uN B (g:=q) c2 F.2.2 (K.cons b.1 b.2) λp G=>by
   rcases List.mem_cons.mp G with z|z
   ·rw[z];exact F.2.1.2
   ·exact hu p z⟩
theorem fS{C:Bk}:∀ {g:Rg} {kn:List (Str×Int)} {k:Int},WF C kn g k->∀x∈aP (pa g),∃j,(x,j)∈kn
 | .name x j w,kn,k,W,y,hy=>⟨j,by rw[List.mem_singleton.mp hy];exact W.1⟩
 | .num n j w,kn,k,W,y,hy=>by cases hy
 | .use1 v nm p w,kn,k,⟨m,t,a,b,c,d,f⟩,y,hy=>by
  simp[-zad,-zac,aA,aC,pa,aP,a9]at hy;exact fS (g:=p) d y hy
 | .use2 v nm p q w,kn,k,⟨m,t,u,a,b,c,d,d2,f⟩,y,hy=>by
  simp[-zad,-zac,aA,aC,pa,aP,a9]at hy;rcases hy with z|z
  ·exact fS d y z
  ·exact fS d2 y z
 | .lett x j p q,kn,k,⟨a,b⟩,y,hy=>by
  simp[-zad,-zac,aA,aC,pa,aP,a9]at hy;rcases hy with z|z
  ·exact fS a y z
  ·obtain⟨i,hi⟩:=fS b y z.1
   rcases List.mem_cons.mp hi with w|w
   ·injection w with w1 w2;exact absurd w1 z.2
   ·exact⟨i,w⟩
 | .pick c k' p q r w,kn,k,⟨a,b,c1,c2,c3,d⟩,y,hy=>by
  simp[-zad,-zac,aA,aC,pa,aP,a9]at hy;rcases hy with(z|z)|z
  ·exact fS c1 y z
  ·exact fS c2 y z
  ·exact fS c3 y z
 | .again n k' x p q w,kn,k,⟨a,b,c1,c2,d⟩,y,hy=>by
  simp[-zad,-zac,aA,aC,pa,aP,a9]at hy;rcases hy with z|z
  ·exact fS c1 y z
  ·obtain⟨i,hi⟩:=fS c2 y z.1
   rcases List.mem_cons.mp hi with w|w
   ·injection w with w1 w2;exact absurd w1 z.2
   ·exact⟨i,w⟩
theorem WI.pi{C:Bk}(B:OkB C){U:List Str}{kn:List (Str×Int)}{g:Rg}{d:List (Key×D)}{e:fR}{k:Int}(h:WI C U kn g d e k):PI' C U (pa g) d e k:=by
 have s:=WF.short B h.ok h.wf;refine⟨uN B h.wf h.nf h.ok h.un,s.2.1,s.2.2,λx hx=>?_,λx hx=>?_,by rw[b7];exact h.dl⟩
 ·obtain⟨j,q⟩:=fS h.wf x hx
  rw[show e x=j from h.ec _ q];exact h.cd _ q
 ·obtain⟨j,q⟩:=fS h.wf x hx
  rw[show e x=j from h.ec _ q];exact h.ok _ q
theorem uA{C:Bk}(B:OkB C){kn:List (Str×Int)}{g:Rg}{k:Int}(K:OkN C kn)(W:WF C kn g k):ch g∈bV C (pa g):=by
 cases g with
 | name x j w=>exact List.mem_singleton.mpr rfl
 | num n j w=>exact List.mem_singleton.mpr rfl
 | use1 v nm p w=>
  obtain⟨m,t,a,rfl,c,d,f⟩:=W;exact List.mem_map.mpr ⟨v,mV a (by rw[c];rfl),rfl⟩
 | use2 v nm p q w=>
  obtain⟨m,t,u,a,rfl,c,d,f⟩:=W;exact List.mem_map.mpr ⟨v,mV a (by rw[c];rfl),rfl⟩
 | lett x j p q=>
  have s:=WF.short B K W.1;refine List.mem_map.mpr ⟨j.toNat,List.mem_range.mpr (by lia),?_⟩;show D.int ((j.toNat:Nat):Int)=.int j;congr 1;lia
 | pick c k' p q r w=>exact List.mem_singleton.mpr rfl
 | again n k' x p q w=>exact List.mem_singleton.mpr rfl
theorem CY{C:Bk}{kn:List (Str×Int)}{g:Rg}{e:fR}{k:Int}(E:EC e kn)(W:WF C kn g k):gw C.rs (d8 C (pa g) e k (ch g)) (wy g)=some k:=by
 cases g with
 | name x j w=>show gw C.rs (e x) w=_;rw[E _ W.1];exact W.2
 | num n j w=>exact W.2.2
 | use1 v nm p w=>
  obtain⟨m,t,a,rfl,c,d,f⟩:=W;simp only[pa,ch,d8,d5,fN a];exact f
 | use2 v nm p q w=>
  obtain⟨m,t,u,a,rfl,c,d,z,f⟩:=W;simp only[pa,ch,d8,d5,fN a];exact f
 | lett x j p q=>rfl
 | pick c k' p q r w=>exact W.2.2.2.2.2
 | again n k' x p q w=>exact W.2.2.2.2
theorem WI.kid{C:Bk}(B:OkB C){U:List Str}{kn:List (Str×Int)}{g:Rg}{d:List (Key×D)}{e:fR}{k:Int}(h:WI C U kn g d e k){i:Nat}{q:Rg}{J:Int}(Y:(cM g)[i]?=some q)(M:(uO C (pa g) k (ch g))[i]?=some J):∃ac,WI C U ac q (SC (pa g) d (ch g) i) (XG (pa g) e (ch g) i) J:=by
 have sz:=xQ (zav Y);obtain⟨W,F,K,E,N,un,dl⟩:=h;have put:∀ {x:Str} {j:Int} {q:Rg} {J:Int},size q<size g->WF C ((x,j)::kn) q J->0<=j/\j<(C.kinds.length:Int)->x∉kn.map (·.1)/\x∈U->NF U (x::kn.map (·.1)) q->WI C U ((x,j)::kn) q (putD d (.inr x) (.int j)) (eX e x j) J:=λ{x j q J} sz w hj hx f=>⟨w,f,K.cons hj.1 hj.2,E.put hx.1,N.put hx.1,λp hp=>by
   rcases List.mem_cons.mp hp with z|z
   ·rw[z];exact hx.2
   ·exact un p z,by have:=sY (d:=d) (k:=.inr x) (e:=.int j);lia⟩
 cases g with
 | name x j w=>simp[-zad,-zac,aA,aC,cM]at Y
 | num n j w=>simp[-zad,-zac,aA,aC,cM]at Y
 | use1 v nm p w=>
  obtain⟨m,t,a,rfl,c,wp,f⟩:=W;obtain⟨rfl,rfl⟩:=R5 Y;have G:J=aT C (cI (.int (v:Int))).toNat 0:=(R5 M).2;rw[d5,eO a,c]at G;subst G;exact⟨kn,wp,F,K,E,N,un,by show d.length+_<=_;lia⟩
 | use2 v nm p q w=>
  obtain⟨m,t,u,a,rfl,c,wp,wq,f⟩:=W;rcases DK Y with⟨rfl,rfl⟩|⟨rfl,rfl⟩
  ·have G:J=aT C (cI (.int (v:Int))).toNat 0:=by simpa[pa,uO,ch]using M.symm
   rw[d5,eO a,c]at G;subst G;exact⟨kn,wp,F.1,K,E,N,un,by show d.length+_<=_;lia⟩
  ·have G:J=aT C (cI (.int (v:Int))).toNat 1:=by simpa[pa,uO,ch]using M.symm
   rw[d5,eO a,c]at G;subst G;exact⟨kn,wq,F.2,K,E,N,un,by show d.length+_<=_;lia⟩
 | lett x j p q=>
  have s:=WF.short B K W.1;rcases DK Y with⟨rfl,rfl⟩|⟨rfl,rfl⟩
  ·have G:J=j:=by simpa[pa,uO,ch,cI]using M.symm
   subst G;exact⟨kn,W.1,F.1,K,E,N,un,by show d.length+_<=_;lia⟩
  ·have G:J=k:=by simpa[pa,uO,ch,cI]using M.symm
   subst G;exact⟨_,put sz W.2 s.2 F.2.1 F.2.2⟩
 | pick c k' p q r w=>
  obtain⟨a,b,wp,wq,wr,f⟩:=W;rcases get3 Y with⟨rfl,rfl⟩|⟨rfl,rfl⟩|⟨rfl,rfl⟩
  ·have G:J=c:=by simpa[pa,uO,ch]using M.symm
   subst G;exact⟨kn,wp,F.1,K,E,N,un,by show d.length+_<=_;lia⟩
  ·have G:J=k':=by simpa[pa,uO,ch]using M.symm
   subst G;exact⟨kn,wq,F.2.1,K,E,N,un,by show d.length+_<=_;lia⟩
  ·have G:J=k':=by simpa[pa,uO,ch]using M.symm
   subst G;exact⟨kn,wr,F.2.2,K,E,N,un,by show d.length+_<=_;lia⟩
 | again n k' x p q w=>
  obtain⟨a,b,wp,wq,f⟩:=W;rcases DK Y with⟨rfl,rfl⟩|⟨rfl,rfl⟩
  ·have G:J=k':=by simpa[pa,uO,ch]using M.symm
   subst G;exact⟨kn,wp,F.1,K,E,N,un,by show d.length+_<=_;lia⟩
  ·have G:J=k':=by simpa[pa,uO,ch]using M.symm
   subst G;exact⟨_,put sz wq b F.2.1 F.2.2⟩
theorem ER{g:Gv}{b:Sv}{d:D}:∀ {items:List D} {ρ:cY} (t:Nat) (I:Nat->cY->Prop),I 0 ρ->t<items.length->(∀i x ρ,i<t->items[i]?=some x->I i ρ->∃ρ',turn g b x ρ=some (.nx ρ')/\I (i+1) ρ')->(∀x ρ,items[t]?=some x->I t ρ->turn g b x ρ=some (.rt d))->kL g b items ρ=some (.rt d)
 | [],ρ,t,I,_,h,_,_=>by simp[-zad,-zac,aA,aC]at h
 | x::l,ρ,0,I,h0,_,_,h2=>by
  have B:=h2 x ρ rfl h0;unfold turn at B;obtain⟨q,J,F⟩:=bind_some B;unfold kL;rw[J];show(b q).bind _=_;rw[F];rfl
 | x::l,ρ,t+1,I,h0,hl,h1,h2=>by
  obtain⟨ρ',B,z⟩:=h1 0 x ρ (by lia) rfl h0;have ih:=ER (items:=l) (ρ:=ρ') t (λi=>I (i+1)) z (by simpa using hl) (λi y ρ hi G z=>h1 (i+1) y ρ (by lia) (by simpa using G) z) λy ρ G z=>h2 y ρ (by simpa using G) z
  unfold turn at B;obtain⟨q,J,F⟩:=bind_some B;unfold kL;rw[J];show(b q).bind _=_;rw[F];exact ih
theorem vE:∀ {l:List D} {t:Nat} {c:D},l.Pairwise (λa b=>cI a<cI b)->l[t]?=some c->l.filter (λu=>decide (cI u<cI c))=l.take t
 | [],t,c,_,h=>by simp[-zad,-zac,aA,aC]at h
 | a::l,0,c,hl,h=>by
  have:a=c:=by simpa using h
  subst this;rw[List.take_zero,List.filter_eq_nil_iff];intro u B;rcases List.mem_cons.mp B with z|z
  ·rw[z];simp[-zad,-zac,aA,aC]
  ·have:=(List.pairwise_cons.mp hl).1 u z;simp[-zad,-zac,aA,aC];lia
 | a::l,t+1,c,hl,h=>by
  have q:l[t]?=some c:=by simpa using h
  have:=(List.pairwise_cons.mp hl).1 c (zav q);rw[zca,if_pos (by simpa using this),zcu,vE (List.pairwise_cons.mp hl).2 q]
theorem jG{l:List Nat}(h:l.Pairwise (·<·)):(l.map λ(v:Nat)=>D.int (v:Int)).Pairwise λa b=>cI a<cI b:=by
 rw[List.pairwise_map];exact h.imp λ{a b} h=>by show(a:Int)<(b:Int);lia
theorem B4(C:Bk)(p:Pa):(bV C p).Pairwise λa b=>cI a<cI b:=by
 cases p with
 | use1 nm p=>exact jG (gQ ..)
 | use2 nm p q=>exact jG (gQ ..)
 | lett x p q=>exact jG (iM _)
 | _=>exact List.pairwise_singleton ..
def eK(l:List D)(f:D->Sm)(i:Nat):Int:=((l.take i).map λu=>nI (f u)).sum
theorem AE{l:List D}{f:D->Sm}{i:Nat}{c:D}(h:l[i]?=some c):eK l f (i+1)=eK l f i+nI (f c):=by
 unfold eK;rw[zcd,h,zaO,zeg];simp[-zad,-zac,aA,aC]
theorem zN{l:List D}{f:D->Sm}(q:∀c,0<=nI (f c)){i:Nat}:∀ {j:Nat},i<=j->eK l f i<=eK l f j
 | 0,h=>by rw[show i=0 by lia];exact zdL _
 | j+1,h=>by
  by_cases e:i=j+1
  ·rw[e];exact zdL _
  ·have ih:=zN q (l:=l) (i:=i) (j:=j) (by lia)
   cases hc:l[j]? with
   | some c=>have:=AE (f:=f) hc;have:=q c;lia
   | none=>
    have:l.length<=j:=List.getElem?_eq_none_iff.mp hc;have e:eK l f (j+1)=eK l f j:=by unfold eK;rw[zbZ (by lia),zbZ this]
    lia
theorem VX(C:Bk)(p:Pa)(d:List (Key×D))(e:fR)(k:Int)(c:D):0<=nI (BI C p d e k c):=eQ _ _ _ _ λx hx=>by
 rw[zaq]at hx;obtain⟨s,_,rfl⟩:=List.mem_map.mp hx;exact cJ ..
theorem Q1{C:Bk}{p:Pa}{t:Nat}{c:D}{f:D->Sm}(h:(bV C p)[t]?=some c):nU (bV C p) c f=eK (bV C p) f t:=by
 unfold nU eK;rw[vE (B4 C p) h]
theorem WI.num{C:Bk}(B:OkB C){U:List Str}{kn:List (Str×Int)}{g:Rg}{d:List (Key×D)}{e:fR}{k:Int}(h:WI C U kn g d e k):0<=cA C g e k/\cA C g e k<nI (aX C (pa g) e k):=gE B h.ok h.wf h.nf h.ec
theorem FH{C:Bk}:∀ {gs:List Rg} {m:List Sb} {i:Nat} {x:Int×Int},(wF C gs m)[i]?=some x->∃g s,gs[i]?=some g/\m[i]?=some s/\x=(cA C g s.2.2.1 s.2.2.2,nI (qK C s))
 | [],m,i,x,h=>by cases m <;> simp[-zad,-zac,aA,aC,wF]at h
 | g::gs,[],i,x,h=>by simp[-zad,-zac,aA,aC,wF]at h
 | g::gs,s::m,0,x,h=>⟨g,s,rfl,rfl,by simpa[wF]using h.symm⟩
 | g::gs,s::m,i+1,x,h=>by
  obtain⟨g',s',a,b,c⟩:=FH (C:=C) (gs:=gs) (m:=m) (i:=i) (x:=x) (by simpa[wF]using h);exact⟨g',s',by simpa using a,by simpa using b,c⟩
theorem WI.at{C:Bk}(B:OkB C){U:List Str}{kn:List (Str×Int)}{g:Rg}{d:List (Key×D)}{e:fR}{k:Int}(h:WI C U kn g d e k){i:Nat}{q:Rg}{s:Sb}(F:(cM g)[i]?=some q)(hs:(sb C (pa g) d e k (ch g))[i]?=some s):s.1=pa q/\∃z,WI C U z q s.2.1 s.2.2.1 s.2.2.2:=by
 obtain⟨p,G,h1,h2,rfl⟩:=kP hs;rw[xH,zaB,F]at h1;rw[zaS];exact⟨by simpa using h1.symm,h.kid B F h2⟩
theorem DE{C:Bk}(B:OkB C){U:List Str}{kn:List (Str×Int)}{g:Rg}{d:List (Key×D)}{e:fR}{k:Int}(h:WI C U kn g d e k):(sb C (pa g) d e k (ch g)).length=(cM g).length:=by
 have I:=h.pi B;have:=(M8 B I.ok I.k0 I.k1 (uA B h.ok h.wf)).1;unfold sb;rw[EK this.symm,xH,zam]
theorem qM{C:Bk}:∀ {gs:List Rg} {m:List Sb},m.length=gs.length->(wF C gs m).map (·.2)=m.map λs=>nI (qK C s)
 | [],m,h=>by rw[List.length_eq_zero_iff.mp h];rfl
 | g::gs,[],h=>by simp[-zad,-zac,aA,aC]at h
 | g::gs,s::m,h=>by rw[wF,zak,zak,qM (by simpa using h)]
def oM(C:Bk)(g:Rg)(d:List (Key×D))(e:fR)(k:Int):List (Int×Int):=wF C (cM g) (sb C (pa g) d e k (ch g))++[kU C (d8 C (pa g) e k (ch g)) k (wy g)]
theorem WI.inr{C:Bk}(B:OkB C){U:List Str}{kn:List (Str×Int)}{g:Rg}{d:List (Key×D)}{e:fR}{k:Int}(h:WI C U kn g d e k):TF (oM C g d e k):=λx hx=>by
 rcases List.mem_append.mp hx with z|z
 ·obtain⟨i,hi⟩:=zce z
  obtain⟨q,s,h1,h2,rfl⟩:=FH hi;obtain⟨G,F,w⟩:=h.at B h1 h2;have:=w.num B;unfold qK;rw[G];exact this
 ·have I:=h.pi B
  have b:=xR B I (uA B h.ok h.wf);rw[List.mem_singleton.mp z];exact kC B b.1 I.k1 (CY h.ec h.wf)
theorem WI.join{C:Bk}(B:OkB C){U:List Str}{kn:List (Str×Int)}{g:Rg}{d:List (Key×D)}{e:fR}{k:Int}(h:WI C U kn g d e k):0<=cL 0 (oM C g d e k)/\cL 0 (oM C g d e k)<nI (BI C (pa g) d e k (ch g)):=by
 have:=nR (h.inr B);refine⟨this.1,zc6 this.2 ?_⟩;unfold oM BI;rw[fJ,zaO,qM (DE B h),zaq];exact zdL _
theorem KN{l:List (Int×Int)}(hl:l.length<=100)(h:TF l)(hb:∀i,mE ((l.take i).map (·.2))<10^250)(hs:∀p∈l,p.2<10^250):tM [.lst (l.map λp=>.int p.1),.lst (l.map λp=>.int p.2)]=some (.int (cL 0 l)):=by
 refine aG ?_;unfold AI;have zg:∀l:List (Int×Int),iF (l.map λp=>.int p.1) (l.map λp=>.int p.2)=l.map λp=>.tup [.int p.1,.int p.2]:=λl=>by
  induction l with
  | nil=>rfl
  | cons a l ih=>rw[zak,zak,iF,ih,zak]
 have U:∀(l:List (Int×Int)) (n:Int) (p:Int×Int),cL n (l++[p])=cL n l*p.2+p.1:=λl=>by
  induction l with
  | nil=>intro n p;rfl
  | cons a l ih=>intro n p;exact ih _ p
 have z:=zg l;have W:(aE 5 [.lst (l.map λp=>.int p.1),.lst (l.map λp=>.int p.2)]).set 2 (some (.int 0))=[some (.lst (l.map λp=>.int p.1)),some (.lst (l.map λp=>.int p.2)),some (.int 0),none,none]:=rfl;rw[aH (aL (d:=.int 0) rfl),W];generalize (l.map λp=>D.int p.1)=X at z ⊢;generalize (l.map λp=>D.int p.2)=Y at z ⊢;refine fY (items:=l.map λp=>.tup [.int p.1,.int p.2]) (by simp_all[z]) (λi ρ=>∃B F,ρ=[some (.lst X),some (.lst Y),some (.int (cL 0 (l.take i))),B,F]) ⟨none,none,rfl⟩ ?_ ?_
 ·rintro i y ρ G ⟨B,F,rfl⟩
  rw[zaB]at G;obtain⟨p,M,rfl⟩:=map_some G;have J:=zav M;have et:l.take (i+1)=l.take i++[p]:=by rw[zcd,M];rfl
  have a:=nR (l:=l.take i) λq N=>h q (List.mem_of_mem_take N)
  have b:=hb i;have c:=hs p J;have c0:=h p J;have m:cR (.int (cL 0 (l.take i))) (.int p.2)=some (.int (cL 0 (l.take i)*p.2)):=b9 (zc6 (by decide +kernel) a.1) (Int.lt_trans a.2 b) (zc6 (by decide +kernel) (zct c0.1 (Int.le_of_lt c0.2))) c;refine⟨[some (.lst X),some (.lst Y),some (.int (cL 0 (l.take (i+1)))),some (.int p.1),some (.int p.2)],?_,_,_,rfl⟩;rw[et,U];simp_all[turn,m]
 ·rintro ρ' ⟨B,F,rfl⟩
  rw[zam,zbz];simp[-zad,-zac,aA,aC]
noncomputable def uI:Int->List Int->Int
 | n,[]=>n
 | n,s::l=>uI (n/s) l
theorem vK:∀(l:List Int) (s n:Int) (acc:List Int),gJ n (l++[s]) acc=uI n l%s::gJ n l acc
 | [],s,n,acc=>rfl
 | a::l,s,n,acc=>vK l s (n/a) (n%a::acc)
theorem vZ:∀(l:List Int) (s n:Int),uI n (l++[s])=uI n l/s
 | [],s,n=>rfl
 | a::l,s,n=>vZ l s (n/a)
theorem zF:∀(l:List Int) (n:Int) (acc:List Int),(gJ n l acc).length=l.length+acc.length
 | [],n,acc=>by simp_all[gJ]
 | a::l,n,acc=>by rw[gJ,zF l];simp[-zad,-zac,aA,aC];lia
theorem LL{l:List Int}(M:l.length<=100)(hs:∀s∈l,0<s/\s<10^500)(n:Int):sW [.int n,.lst (l.map .int)]=some (.lst ((gJ n l.reverse []).map .int)):=by
 refine aG ?_;unfold zS;have Y:(aE 5 [.int n,.lst (l.map .int)]).set 2 (some (.lst []))=[some (.int n),some (.lst (l.map .int)),some (.lst []),none,none]:=rfl;rw[aH (aL (d:=.lst []) rfl),Y,aH (aL (d:=.int n) rfl)];have er:(l.map D.int).reverse=l.reverse.map D.int:=by rw[List.map_reverse]
 have G:∀s∈l.reverse,0<s/\s<10^500:=λs h=>hs s (List.mem_reverse.mp h)
 have z:l.reverse.length<=100:=by rw[List.length_reverse];exact M
 generalize l.reverse=m at er G z ⊢;generalize l.map D.int=X at er ⊢;refine fY (items:=m.map .int) (by simp_all[ZV,er]) (λi ρ=>∃q,ρ=[some (.int n),some (.lst X),some (.lst ((gJ n (m.take i) []).map .int)),some (.int (uI n (m.take i))),q]) ⟨none,rfl⟩ ?_ ?_
 ·rintro i y ρ F ⟨q,rfl⟩
  rw[zaB]at F;obtain⟨s,B,rfl⟩:=map_some F;have h:=G s (zav B);have et:m.take (i+1)=m.take i++[s]:=by rw[zcd,B];rfl
  have W:=zF (m.take i) n [];have J:aU (gJ n (m.take i) []).length=true:=decide_eq_true (by rw[W,zbU];simp[-zad,-zac,aA,aC];lia);refine⟨[some (.int n),some (.lst X),some (.lst ((gJ n (m.take (i+1)) []).map .int)),some (.int (uI n (m.take (i+1)))),some (.int s)],?_,_,rfl⟩;rw[et,vK,vZ];generalize gJ n (m.take i) []=P1 at J ⊢;generalize uI n (m.take i)=r;have N:WV 2 (eC (D.int 0)) (a7 eJ (aD 3) (aD 4)) [some (.int n),some (.lst X),some (.lst (P1.map .int)),some (.int r),some (.int s)]=some (.nx [some (.int n),some (.lst X),some (.lst (.int (r%s)::P1.map .int)),some (.int r),some (.int s)]):=by
   unfold WV;simp_all[bT h.1,J]
  have U:aR 4 (.int s) [some (.int n),some (.lst X),some (.lst (P1.map .int)),some (.int r),q]=some [some (.int n),some (.lst X),some (.lst (P1.map .int)),some (.int r),some (.int s)]:=rfl;unfold turn;rw[U,aA,aH N,aL (d:=.int (r/s)) (by simp_all[VD h.1 h.2])];rfl
 ·rintro ρ' ⟨q,rfl⟩
  rw[zam,zbz];simp[-zad,-zac,aA,aC]
theorem sF{C:Bk}{at_:D}:∀(l:List Sb) (o1 o2 o3:Option D),(∀s∈l,cG [at_,dE C s.1,.dK s.2.1,.int s.2.2.2]=some (memD (qK C s)))->bD (k7 3 (d7 (aR 0) (d7 (aR 1) (d7 (aR 2) uE)))) fQ (aQ cZ (aB (aQ cG (aB (aD 3) (aB (aD 0) (aB (aD 1) (aB (aD 2) aW))))) aW)) (l.map λs=>.tup [dE C s.1,.dK s.2.1,.int s.2.2.2]) [o1,o2,o3,some at_]=some ((l.map λs=>nI (qK C s)).map .int)
 | [],o1,o2,o3,_=>rfl
 | s::l,o1,o2,o3,h=>by
  have ih:=sF l (some (dE C s.1)) (some (.dK s.2.1)) (some (.int s.2.2.2)) λt q=>h t (zap _ q)
  have e:=h s (zat ..);have n:=fK (qK C s);rw[zak,bD];simp_all[-zaq,e,n,ih]
theorem D5{C:Bk}{at_:D}{l:List Sb}{rs:List D}(B:l.length<=100)(h:∀s∈l,cG [at_,dE C s.1,.dK s.2.1,.int s.2.2.2]=some (memD (qK C s))):nN [at_,.lst (l.map λs=>.tup [dE C s.1,.dK s.2.1,.int s.2.2.2]),.lst rs]=some (.lst (((l.map λs=>nI (qK C s))++[(rs.length:Int)]).map .int)):=by
 have c:=sF l none none none h;have z:aU l.length=true:=decide_eq_true (by lia);have q:aU (l.length+1)=true:=decide_eq_true (by lia);refine aG ?_;unfold FG;simp_all[-zaq,aE,iG,z,q,c]
theorem D3{C:Bk}{at_:D}(A:AtD C at_){j k:Int}(z:0<=j/\j<(C.kinds.length:Int))(B:0<=k/\k<(C.kinds.length:Int)):∃r,uY CA "routes" at_=some r/\aJ r (.tup [.int j,.int k])=some (.lst ((bX C.rs k 8 j).map tupI)):=by
 obtain⟨q,L2,rfl,ok⟩:=A;exact⟨.dT q,rfl,SN (ok j k ⟨z,B⟩).1⟩
theorem PZ{q:List (List Int)}{w:List Int}(h:w∈q)(B:aU q.length=true):lZ (.lst (q.map tupI)) (tupI w)=some (.int ((q.idxOf w:Nat):Int)):=by
 obtain⟨as,bs,rfl,z⟩:=List.eq_append_cons_of_mem h;rw[HJ z B];congr 3;rw[List.idxOf_append,if_neg z,List.idxOf_cons_self,zaS]
theorem oC{m:Nat}{a:Int}(h:LeT m a)(q:m<=16):a<10^250:=Int.lt_of_le_of_lt (h.mono q).2 (by decide +kernel)
theorem KM{C:Bk}(B:OkB C){l:List Sb}(z:(l.map λs=>psz s.1).sum+1<=16){x:Int}(F:0<=x)(q:x<=429981696)(i:Nat):mE (((l.map λs=>nI (qK C s))++[x]).take i)<10^250:=by
 have a:=mS (C:=C) l i λs _=>kR B _ s.1 (zaj _) _ _
 have e:((l.map (qK C)).take i).map nI=(l.map λs=>nI (qK C s)).take i:=by rw[List.map_take,zaq];rfl
 rw[e]at a;by_cases h:i<=l.length
 ·rw[List.take_append_of_le_length (by rw[zam];exact h)]
  exact oC a (by lia)
 ·rw[zbZ (by rw[zam];lia)]at a
  rw[zbZ (by simp[-zad,-zac,aA,aC];lia),xC];have b:LeT 1 (mE [x]):=by
   rw[show mE [x]=x by simp_all[mE]];exact⟨F,zct q (by decide)⟩
  exact oC (a.mul b) z
theorem wW{C:Bk}:∀(gs:List Rg) (m:List Sb),wF C gs m=(gs.zip m).map λz=>(cA C z.1 z.2.2.2.1 z.2.2.2.2,nI (qK C z.2))
 | [],m=>by cases m <;> rfl
 | g::gs,[]=>rfl
 | g::gs,s::m=>by rw[wF,wW gs m];rfl
theorem D9{C:Bk}:∀(gs:List Rg) (m:List Sb),iF (gs.map rd) (m.map λs=>.tup [dE C s.1,.dK s.2.1,.int s.2.2.2])=(gs.zip m).map λz=>.tup [rd z.1,.tup [dE C z.2.1,.dK z.2.2.1,.int z.2.2.2.2]]
 | [],m=>by cases m <;> rfl
 | g::gs,[]=>rfl
 | g::gs,s::m=>by rw[zak,zak,iF,D9 gs m];rfl
theorem QR{C:Bk}{g:Rg}{c:D}(h:c∈bV C (pa g)):(c=.non/\ch g=.non)\/∃u v:Int,c=.int u/\ch g=.int v:=by
 cases g with
 | use1 v nm p w=>obtain⟨u,_,rfl⟩:=List.mem_map.mp h;exact .inr ⟨_,_,rfl,rfl⟩
 | use2 v nm p q w=>obtain⟨u,_,rfl⟩:=List.mem_map.mp h;exact .inr ⟨_,_,rfl,rfl⟩
 | lett x j p q=>obtain⟨u,_,rfl⟩:=List.mem_map.mp h;exact .inr ⟨_,_,rfl,rfl⟩
 | _=>exact .inl ⟨List.mem_singleton.mp h,rfl⟩
theorem G0(l:List D)(c b:D)(f:D->Sm):nU (l++[c]) b f=nU l b f+if cI c<cI b then nI (f c)else 0:=by
 unfold nU;rw[List.filter_append,zaO,zeg];by_cases h:cI c<cI b
 ·rw[if_pos h,zca,if_pos (by simpa using h)];simp[-zad,-zac,aA,aC]
 ·rw[if_neg h,zca,if_neg (by simpa using h)];simp[-zad,-zac,aA,aC]
theorem zip_get{g:Rg}{l:List Sb}{i:Nat}{z:Rg×Sb}(h:((cM g).zip l)[i]?=some z):(cM g)[i]?=some z.1/\l[i]?=some z.2:=by
 rw[List.getElem?_zip_eq_some]at h;exact h
abbrev Y5:=D×D×D×D×D
theorem BN{R:List D->Option D}{at_ N G F M B bk pd r bd ab:D}{wi J:Int}{q kr SP SZ wl:List D}{f:D->Sm}{Y:List Y5}(hb:uY CA "book" at_=some bk)(np:uY CN "part" N=some pd)(co:jO [M]=some B)(wc:eG [bk,pd]=some (.lst q))(cs:∀c∈q,eM [at_,N,G,F,c]=some (memD (f c)))(ck:∀c∈q,(c=.non/\B=.non)\/∃u v:Int,c=.int u/\B=.int v)
  (sp:gS [at_,N,G,F,B]=some (.lst SP)) (er:uY CA "routes" at_=some r) (bg:bC [bk,G,pd,F,B]=some bd) (ew:aJ r (.tup [bd,F])=some (.lst wl)) (ao:eZ [M]=some (.tup kr)) (zr:iF kr SP=Y.map λy=>.tup [y.1,.tup [y.2.1,y.2.2.1,y.2.2.2.1]]) (zl:Y.length<=3) (kf:∀y∈Y,R [at_,y.2.1,y.2.2.1,y.2.2.2.1,y.1]=some y.2.2.2.2) (ix:lZ (.lst wl) ab=some (.int wi)) (wo:sX [M]=some ab) (zs:nN [at_,.lst SP,.lst wl]=some (.lst SZ)) (jn:tM [.lst (Y.map (·.2.2.2.2)++[.int wi]),.lst SZ]=some (.int J)) :
  c8 R (aE 13 [at_,N,G,F,M])=some (.rt (.int (nU q B f+J))):=by
 unfold c8;rw[aH (aL (d:=B) (by ac_rfl))];rw[aH (aL (d:=.int 0) rfl)];refine fY (items:=q) (by ac_rfl) (λi ρ=>∃o7,ρ=[some at_,some N,some G,some F,some M,some B,some (.int (nU (q.take i) B f)),o7,none,none,none,none,none]) ⟨none,rfl⟩ ?_ ?_
 ·rintro i c ρ hc ⟨o7,rfl⟩
  have hm:=zav hc;have et:q.take (i+1)=q.take i++[c]:=by rw[zcd,hc];rfl
  refine⟨[some at_,some N,some G,some F,some M,some B,some (.int (nU (q.take (i+1)) B f)),some c,none,none,none,none,none],?_,_,rfl⟩;rw[et,G0];have ec:=cs c hm;have en:=fK (f c);rcases ck c hm with⟨rfl,rfl⟩|⟨u,v,rfl,rfl⟩
  ·rw[if_neg (show ¬ cI .non<cI .non by decide),Int.add_zero];ac_rfl
  ·by_cases ac:u<v
   ·rw[if_pos (show cI (.int u)<cI (.int v)from ac)];ac_rfl
   ·rw[if_neg (show ¬ cI (.int u)<cI (.int v)from ac),Int.add_zero];ac_rfl
 ·rintro ρ' ⟨o7,rfl⟩
  rw[zbz];rw[aH (aL (d:=.lst SP) (by ac_rfl))];rw[aH (aL (d:=.lst wl) (by ac_rfl))];rw[aH (aL (d:=.lst []) rfl)];refine fY (items:=Y.map λy=>.tup [y.1,.tup [y.2.1,y.2.2.1,y.2.2.2.1]]) (by ac_rfl) (λi ρ=>∃U W,ρ=[some at_,some N,some G,some F,some M,some B,some (.int (nU q B f)),o7,some (.lst SP),some (.lst wl),some (.lst ((Y.take i).map (·.2.2.2.2))),U,W]) ⟨none,none,rfl⟩ ?_ ?_
  ·rintro i y ρ hy ⟨U,W,rfl⟩
   rw[zaB]at hy;obtain⟨z,hz,rfl⟩:=map_some hy;have et:Y.take (i+1)=Y.take i++[z]:=by rw[zcd,hz];rfl
   have ek:=kf z (zav hz);refine⟨[some at_,some N,some G,some F,some M,some B,some (.int (nU q B f)),o7,some (.lst SP),some (.lst wl),some (.lst ((Y.take (i+1)).map (·.2.2.2.2))),some z.1,some (.tup [z.2.1,z.2.2.1,z.2.2.2.1])],?_,_,_,rfl⟩;rw[et,zaO];have z2:((Y.take i).map (·.2.2.2.2)).length<=1000000:=by rw[zam,zbU];lia
   ac_rfl
  ·rintro ρ' ⟨U,W,rfl⟩
   rw[zam,zbz];have z2:(Y.map (·.2.2.2.2)).length<=1000000:=by rw[zam];lia
   ac_rfl
theorem zG{C:Bk}(B:OkB C){U:List Str}(hU:U.length<=8){at_:D}(A:AtD C at_):∀(n:Nat) (g:Rg) (kn:List (Str×Int)) (d:List (Key×D)) (e:fR) (k:Int),size g<=n->size g<=16->WI C U kn g d e k->gK 13 c8 n [at_,dE C (pa g),.dK d,.int k,rd g]=some (.int (cA C g e k))
 | 0,g,kn,d,e,k,h,_,_=>by have:=eP (pa g);rw[b7]at this;lia
 | n+1,g,kn,d,e,k,h,h16,w=>by
  have IH:∀q,size q<size g->∀F d' e' k',WI C U F q d' e' k'->gK 13 c8 n [at_,dE C (pa q),.dK d',.int k',rd q]=some (.int (cA C q e' k')):=λq hq F d' e' k' w'=>zG B hU A n q F d' e' k' (by lia) (by lia) w'
  show bF 13 (c8 (gK 13 c8 n)) _=_;generalize gK 13 c8 n=R at IH ⊢;refine aG ?_;have I:=w.pi B;have N:=uA B w.ok w.wf;have co:=yP g;have wc:=nW B (pa g);have sp:=NA B A I N;have bg:=NB I N;have bo:=xR B I N;have wk:=CY w.ec w.wf;have hb:=A.book;have np:=kS C (pa g);obtain⟨r,er,ew⟩:=D3 A bo ⟨I.k0,I.k1⟩;have aa:=nV g;rw[EV]at aa;have wo:=KS g;have ps:psz (pa g)<=16:=by rw[b7];exact h16
  have sm:∀c∈bV C (pa g),∀s∈sb C (pa g) d e k c,PI' C U s.1 s.2.1 s.2.2.1 s.2.2.2->psz s.1<psz (pa g)->cG [at_,dE C s.1,.dK s.2.1,.int s.2.2.2]=some (memD (qK C s)):=λc M s _ hI hz=>A9 B hU A 16 s.1 s.2.1 s.2.2.1 s.2.2.2 (by lia) (by lia) hI
  have cs:∀c∈bV C (pa g),eM [at_,dE C (pa g),.dK d,.int k,c]=some (memD (BI C (pa g) d e k c)):=λc M=>C9 B A I M ps (sm c M)
  have sl:=DE B w;have k3:(cM g).length<=3:=by cases g <;> simp_all[cM]
  have zs:=D5 (C:=C) (at_:=at_) (l:=sb C (pa g) d e k (ch g)) (rs:=(bX C.rs k 8 (d8 C (pa g) e k (ch g))).map tupI) (by lia) λs hs=>by
   obtain⟨i,hi⟩:=zce hs;have sk:=gG (oI hs);obtain⟨q,kk,h1,h2,rfl⟩:=kP hi;exact sm _ N _ hs (by rw[zaS];exact I.kid B N h1 h2) sk
  have ss:=MA (C:=C) (p:=pa g) (d:=d) (e:=e) (k:=k) (c:=ch g);have l8:=R4 B (d8 C (pa g) e k (ch g)) k;have G:(oM C g d e k).map (·.2)=(sb C (pa g) d e k (ch g)).map (λs=>nI (qK C s))++[((bX C.rs k 8 (d8 C (pa g) e k (ch g))).length:Int)]:=by
   unfold oM;rw[zaO,qM sl];rfl
  have nl:(oM C g d e k).length=(cM g).length+1:=by
   have:=congrArg zbu G;simp[-zad,-zac,aA,aC]at this;lia
  have jn:=KN (l:=oM C g d e k) (by lia) (w.inr B) (λi=>by
   rw[List.map_take,G];exact KM B (by lia) (by lia) l8 i) λp hp=>by
   have W:p.2∈(oM C g d e k).map (·.2):=List.mem_map.mpr ⟨p,hp,rfl⟩;rw[G]at W;rcases List.mem_append.mp W with z|z
   ·obtain⟨s,hs,e1⟩:=List.mem_map.mp z
    rw[<- e1];exact oC (kR B _ s.1 (zaj _) _ _) (by have:=gG (oI hs);lia)
   ·rw[List.mem_singleton.mp z]
    exact oC (m:=1) ⟨by lia,zct l8 (by decide)⟩ (by decide)
  rw[show((oM C g d e k).map λp=>D.int p.2)=((sb C (pa g) d e k (ch g)).map (λs=>nI (qK C s))++[((bX C.rs k 8 (d8 C (pa g) e k (ch g))).length:Int)]).map .int by rw[<- G,zaq];rfl]at jn;rw[zam]at zs;have k6:=B.k6;have al:=jT B.gr (k:=k) 8 (d8 C (pa g) e k (ch g)) 5 (by have:=I.k1;lia);have ix:=PZ (w:=wy g) (mX B.gr (n:=8) (by have:=I.k1;lia) wk) (decide_eq_true (by lia));have zr:=D9 (C:=C) (cM g) (sb C (pa g) d e k (ch g));rw[FR C g d e k];have ad:(wF C (cM g) (sb C (pa g) d e k (ch g))++[kU C (d8 C (pa g) e k (ch g)) k (wy g)])=oM C g d e k:=rfl;rw[ad];have ah:(oM C g d e k).map (λp=>D.int p.1)=(((cM g).zip (sb C (pa g) d e k (ch g))).map λz=>D.int (cA C z.1 z.2.2.2.1 z.2.2.2.2))++[.int ((bX C.rs k 8 (d8 C (pa g) e k (ch g))).idxOf (wy g):Nat)]:=by
   unfold oM;rw[zaO,wW,zaq];rfl
  rw[ah]at jn;refine BN (f:=BI C (pa g) d e k) (J:=cL 0 (oM C g d e k)) (Y:=((cM g).zip (sb C (pa g) d e k (ch g))).map λz=>(rd z.1,dE C z.2.1,.dK z.2.2.1,.int z.2.2.2.2,.int (cA C z.1 z.2.2.2.1 z.2.2.2.2))) hb np co wc cs (λc M=>QR M) sp er bg ew aa (by rw[zr,zaq];rfl) (by rw[zam,zek];lia) (λy hy=>?_) ix wo zs (by rw[zaq];exact jn);obtain⟨z,hz,rfl⟩:=List.mem_map.mp hy;obtain⟨i,hi⟩:=zce hz;obtain⟨a,b⟩:=zip_get hi;obtain⟨e1,F,w'⟩:=w.at B a b;show R [at_,dE C z.2.1,.dK z.2.2.1,.int z.2.2.2.2,rd z.1]=_;rw[e1];exact IH z.1 (xQ (zav a)) F _ _ _ w'
theorem mR{q:Str}{l ks pre rs:List D}{c w:D}(G:gN l 0=some (.str q))(J:¬ q = "use")(U:¬ q = "let")(N:iV [.tup l]=some (.tup ks))(B:cutD l none (some ((l.length:Int)-(ks.length:Int)))=pre)(z:pre.length+rs.length<=1000):gP [.tup l,c,.lst rs,w]=some (.tup (pre++rs++[w])):=by
 have M:aU (pre.length+rs.length)=true:=decide_eq_true (by lia);have F:aU (pre.length+rs.length+1)=true:=decide_eq_true (by lia);exact aG (by simp_all[fL,aE,G,J,U,N,B,M,F])
theorem yG:∀g:Rg,gP [bI (pa g),ch g,.lst (ir g),tupI (wy g)]=some (rd g)
 | .name x j w=>mR (ks:=[]) (pre:=[_,_]) (rs:=[]) at0 lU i5 (nK (.name x)) rfl (zcs rfl)
 | .num n j w=>mR (ks:=[]) (pre:=[_,_,_]) (rs:=[]) at0 kG g7 (nK (.num n j)) rfl (zcs rfl)
 | .use1 ..=>aG (by simp_all[fL,aE,pa,bI,ch,ir,wy,rd,at0])
 | .use2 ..=>aG (by simp_all[fL,aE,pa,bI,ch,ir,wy,rd,at0])
 | .lett ..=>aG (by simp_all[fL,aE,pa,bI,ch,ir,wy,rd,at0,at1,kB,sz5])
 | .pick c k p q r w=>mR (ks:=[_,_,_]) (pre:=[_,_,_]) (rs:=[rd p,rd q,rd r]) at0 jY g8 (nK (.pick c k (pa p) (pa q) (pa r))) rfl (zcs rfl)
 | .again c k x p q w=>mR (ks:=[_,_]) (pre:=[_,_,_,_]) (rs:=[rd p,rd q]) at0 kF fT (nK (.again c k x (pa p) (pa q))) rfl (zcs rfl)
theorem AS{C:Bk}:∀(gs:List Rg) (m:List Sb) (x:D),m.length=gs.length->iF (((wF C gs m).map λp=>.int p.1)++[x]) (m.map λs=>.tup [dE C s.1,.dK s.2.1,.int s.2.2.2])=(gs.zip m).map λz=>.tup [.int (cA C z.1 z.2.2.2.1 z.2.2.2.2),.tup [dE C z.2.1,.dK z.2.2.1,.int z.2.2.2.2]]
 | [],m,x,h=>by rw[List.length_eq_zero_iff.mp h];rfl
 | g::gs,[],x,h=>by simp[-zad,-zac,aA,aC]at h
 | g::gs,s::m,x,h=>by rw[wF,zak,zak,zcZ,iF,AS gs m x (by simpa using h)];rfl
theorem PH{C:Bk}{gs:List Rg}{m:List Sb}(h:m.length=gs.length):(wF C gs m).length=gs.length:=by
 rw[wW,zam,zek];lia
theorem MY:∀(gs:List Rg) (m:List Sb),m.length=gs.length->(gs.zip m).map (λz=>rd z.1)=gs.map rd
 | [],m,h=>rfl
 | g::gs,[],h=>by simp[-zad,-zac,aA,aC]at h
 | g::gs,s::m,h=>by rw[zdZ,zak,zak,MY gs m (by simpa using h)]
theorem JB{R:List D->Option D}{at_ W N F J Jd bk pd r bd M rg:D}{wi:Int}{SP SZ G wl U:List D}{Y:List Y5}(hb:uY CA "book" at_=some bk)(np:uY CN "part" W=some pd)(sp:gS [at_,W,N,F,J]=some (.lst SP))(er:uY CA "routes" at_=some r)(bg:bC [bk,N,pd,F,J]=some bd)(ew:aJ r (.tup [bd,F])=some (.lst wl))(zs:nN [at_,.lst SP,.lst wl]=some (.lst SZ))(ai:sW [Jd,.lst SZ]=some (.lst G))(zn:iF G SP=Y.map λy=>.tup [y.1,.tup [y.2.1,y.2.2.1,y.2.2.2.1]])(zl:Y.length<=3)(kf:∀y∈Y,R [at_,y.2.1,y.2.2.1,y.2.2.2.1,y.1]=some y.2.2.2.2)(zr:Y.map (·.2.2.2.2)=U)(ah:gN G (SP.length:Int)=some (.int wi))(ix:gN wl wi=some M)(ae:gP [pd,J,.lst U,M]=some rg) :
  fG R (aE 12 [at_,W,N,F,J,Jd])=some (.rt rg):=by
 unfold fG;rw[aH (aL (d:=.lst SP) (by ac_rfl))];rw[aH (aL (d:=.lst wl) (by ac_rfl))];rw[aH (aL (d:=.lst G) (by ac_rfl))];rw[aH (aL (d:=.lst []) rfl)];refine fY (items:=Y.map λy=>.tup [y.1,.tup [y.2.1,y.2.2.1,y.2.2.2.1]]) (by ac_rfl) (λi ρ=>∃q B,ρ=[some at_,some W,some N,some F,some J,some Jd,some (.lst SP),some (.lst wl),some (.lst G),some (.lst ((Y.take i).map (·.2.2.2.2))),q,B]) ⟨none,none,rfl⟩ ?_ ?_
 ·rintro i y ρ hy ⟨q,B,rfl⟩
  rw[zaB]at hy;obtain⟨z,hz,rfl⟩:=map_some hy;have et:Y.take (i+1)=Y.take i++[z]:=by rw[zcd,hz];rfl
  have ek:=kf z (zav hz);refine⟨[some at_,some W,some N,some F,some J,some Jd,some (.lst SP),some (.lst wl),some (.lst G),some (.lst ((Y.take (i+1)).map (·.2.2.2.2))),some z.1,some (.tup [z.2.1,z.2.2.1,z.2.2.2.1])],?_,_,_,rfl⟩;rw[et,zaO];have z2:((Y.take i).map (·.2.2.2.2)).length<=1000000:=by rw[zam,zbU];lia
  ac_rfl
 ·rintro ρ' ⟨q,B,rfl⟩
  rw[zam,zbz,zr]
  ac_rfl
theorem uR{C:Bk}(B:OkB C){U:List Str}(hU:U.length<=8){at_:D}(A:AtD C at_){g:Rg}{kn:List (Str×Int)}{d:List (Key×D)}{e:fR}{k:Int}{R:List D->Option D}(ab:size g<=16)(w:WI C U kn g d e k)(IH:∀q,size q<size g->∀G d' e' k',WI C U G q d' e' k'->R [at_,dE C (pa q),.dK d',.int k',.int (cA C q e' k')]=some (rd q)) :
  bF 12 (fG R) [at_,dE C (pa g),.dK d,.int k,ch g,.int (cL 0 (oM C g d e k))]=some (rd g):=by
 refine aG ?_;have I:=w.pi B;have N:=uA B w.ok w.wf;have sp:=NA B A I N;have bg:=NB I N;have bo:=xR B I N;have wk:=CY w.ec w.wf;have hb:=A.book;have np:=kS C (pa g);obtain⟨r,er,ew⟩:=D3 A bo ⟨I.k0,I.k1⟩;have J:=DE B w;have k3:(cM g).length<=3:=by cases g <;> simp_all[cM]
 have ps:psz (pa g)<=16:=by rw[b7];exact ab
 have zs:=D5 (C:=C) (at_:=at_) (l:=sb C (pa g) d e k (ch g)) (rs:=(bX C.rs k 8 (d8 C (pa g) e k (ch g))).map tupI) (by lia) λs hs=>by
  obtain⟨i,hi⟩:=zce hs;have sk:=gG (oI hs);obtain⟨q,kk,h1,h2,rfl⟩:=kP hi;exact A9 B hU A 16 _ _ _ _ (by simp only at sk ⊢;lia) (by simp only at sk ⊢;lia) (by rw[zaS];exact I.kid B N h1 h2)
 have l8:=R4 B (d8 C (pa g) e k (ch g)) k;have F:(oM C g d e k).map (·.2)=(sb C (pa g) d e k (ch g)).map (λs=>nI (qK C s))++[((bX C.rs k 8 (d8 C (pa g) e k (ch g))).length:Int)]:=by
  unfold oM;rw[zaO,qM J];rfl
 have nl:(oM C g d e k).length=(cM g).length+1:=by
  have:=congrArg zbu F;simp[-zad,-zac,aA,aC]at this;lia
 have inr:=w.inr B;have pd:=LL (l:=(oM C g d e k).map (·.2)) (by rw[zam];lia) (λs hs=>by
  obtain⟨p,hp,W⟩:=List.mem_map.mp hs;have a:=inr p hp;refine⟨by lia,?_⟩;rw[F]at hs;refine Int.lt_trans ?_ (show(10:Int)^250<10^500 by decide +kernel);rcases List.mem_append.mp hs with z|z
  ·obtain⟨s,hs,W⟩:=List.mem_map.mp z
   rw[<- W];exact oC (kR B _ s.1 (zaj _) _ _) (by have:=gG (oI hs);lia)
  ·rw[List.mem_singleton.mp z]
   exact oC (m:=1) ⟨by lia,zct l8 (by decide)⟩ (by decide)) (cL 0 (oM C g d e k))
 have pj:=u9 (oM C g d e k) 0 [] [] inr;rw[zbs,zbs]at pj;rw[pj,show gJ 0 [] ((oM C g d e k).map (·.1))=(oM C g d e k).map (·.1)from rfl,F]at pd;rw[zam]at zs;have k6:=B.k6;have wm:=mX B.gr (n:=8) (by have:=I.k1;lia) wk;have ix:gN ((bX C.rs k 8 (d8 C (pa g) e k (ch g))).map tupI) (((bX C.rs k 8 (d8 C (pa g) e k (ch g))).idxOf (wy g):Nat):Int)=some (tupI (wy g)):=bR (by
  rw[zaB,zaR (zes wm),List.getElem_idxOf];rfl)
 have zn:=AS (C:=C) (cM g) (sb C (pa g) d e k (ch g)) (.int ((bX C.rs k 8 (d8 C (pa g) e k (ch g))).idxOf (wy g):Nat)) J;have ad:((oM C g d e k).map (·.1)).map D.int=(((wF C (cM g) (sb C (pa g) d e k (ch g))).map λp=>D.int p.1)++[.int ((bX C.rs k 8 (d8 C (pa g) e k (ch g))).idxOf (wy g):Nat)]):=by
  unfold oM;rw[zaq,zaO];rfl
 rw[ad]at pd;have M:((wF C (cM g) (sb C (pa g) d e k (ch g))).map λp=>D.int p.1).length=(sb C (pa g) d e k (ch g)).length:=by rw[zam,PH J,J]
 have aa:gN (((wF C (cM g) (sb C (pa g) d e k (ch g))).map λp=>D.int p.1)++[.int ((bX C.rs k 8 (d8 C (pa g) e k (ch g))).idxOf (wy g):Nat)]) ((sb C (pa g) d e k (ch g)).length:Int)=some (.int ((bX C.rs k 8 (d8 C (pa g) e k (ch g))).idxOf (wy g):Nat)):=bR (by
  rw[zdj (by lia),M,Nat.sub_self];rfl)
 refine JB (Y:=((cM g).zip (sb C (pa g) d e k (ch g))).map λz=>(.int (cA C z.1 z.2.2.2.1 z.2.2.2.2),dE C z.2.1,.dK z.2.2.1,.int z.2.2.2.2,rd z.1)) hb np sp er bg ew zs pd (by rw[zn,zaq];rfl) (by rw[zam,zek];lia) (λy hy=>?_) (by rw[zaq];exact(MY (cM g) (sb C (pa g) d e k (ch g)) J).trans (EV g).symm) (by rw[zam];exact aa) ix (yG g);obtain⟨z,hz,rfl⟩:=List.mem_map.mp hy;obtain⟨i,hi⟩:=zce hz;obtain⟨a,b⟩:=zip_get hi;obtain⟨W,G,w'⟩:=w.at B a b;show R [at_,dE C z.2.1,.dK z.2.2.1,.int z.2.2.2.2,.int _]=_;rw[W];exact IH z.1 (xQ (zav a)) G _ _ _ w'
theorem LW{C:Bk}(B:OkB C){U:List Str}(M:U.length<=8){at_:D}(A:AtD C at_):∀(n:Nat) (g:Rg) (kn:List (Str×Int)) (d:List (Key×D)) (e:fR) (k:Int),size g<=n->size g<=16->WI C U kn g d e k->gK 8 fB n [at_,dE C (pa g),.dK d,.int k,.int (cA C g e k)]=some (rd g)
 | 0,g,kn,d,e,k,h,_,_=>by have:=eP (pa g);rw[b7]at this;lia
 | n+1,g,kn,d,e,k,h,h16,w=>by
  show bF 8 (fB (gK 8 fB n)) _=_;have tc:=uR B M A (R:=gK 8 fB n) h16 w λq hq W d' e' k' w'=>LW B M A n q W d' e' k' (by lia) (by lia) w'
  generalize gK 8 fB n=R at tc ⊢;refine aG ?_;have I:=w.pi B;have cm:=uA B w.ok w.wf;have wc:=nW B (pa g);have hb:=A.book;have np:=kS C (pa g);have ps:psz (pa g)<=16:=by rw[b7];exact h16
  have Y:∀c∈bV C (pa g),eM [at_,dE C (pa g),.dK d,.int k,c]=some (memD (BI C (pa g) d e k c)):=λc z=>C9 B A I z ps λs _ hI hz=>A9 B M A 16 s.1 s.2.1 s.2.2.1 s.2.2.2 (by lia) (by lia) hI
  obtain⟨t,F⟩:=zce cm;have bp:=Q1 (f:=BI C (pa g) d e k) F;have jn:=w.join B;have nn:=VX C (pa g) d e k;rw[FR C g d e k,bp,show(wF C (cM g) (sb C (pa g) d e k (ch g))++[kU C (d8 C (pa g) e k (ch g)) k (wy g)])=oM C g d e k from rfl];generalize cL 0 (oM C g d e k)=J at *;generalize BI C (pa g) d e k=f at *;generalize bV C (pa g)=chs at *;generalize ch g=cg at *;generalize dE C (pa g)=nd at *;generalize rd g=rg at *;unfold fB;rw[aH (aL (d:=.int (eK chs f t+J)) rfl)];refine uB ?_;rw[q_for];have ei:fU (aQ eG (aB (dP CA "book" (aD 0)) (aB (dP CN "part" (aD 1)) aW))) ((aE 8 [at_,nd,.dK d,.int k,.int (eK chs f t+J)]).set 5 (some (.int (eK chs f t+J))))=some chs:=by ac_rfl
  rw[ei];refine ER t (λi ρ=>∃G N,ρ=[some at_,some nd,some (.dK d),some (.int k),some (.int (eK chs f t+J)),some (.int (eK chs f t+J-eK chs f i)),G,N]) ⟨none,none,by rw[show eK chs f 0=0 from rfl,Int.sub_zero];rfl⟩ (List.getElem?_eq_some_iff.mp F).1 ?_ ?_
  ·rintro i c ρ hi z ⟨G,N,rfl⟩
   have ec:=Y c (zav z);have en:=fK (f c);have s:=AE (f:=f) z;have m:=zN nn (l:=chs) (i:=i+1) (j:=t) (by lia);have lt:¬ eK chs f t+J-eK chs f i<nI (f c):=by lia
   refine⟨[some at_,some nd,some (.dK d),some (.int k),some (.int (eK chs f t+J)),some (.int (eK chs f t+J-eK chs f (i+1))),some c,some (.int (nI (f c)))],?_,_,_,rfl⟩;rw[s,show eK chs f t+J-(eK chs f i+nI (f c))=eK chs f t+J-eK chs f i-nI (f c) by lia];generalize eK chs f t+J-eK chs f i=x at lt ⊢
   ac_rfl
  ·rintro c ρ z ⟨G,N,rfl⟩
   have:c=cg:=by rw[F]at z;injection z with z;exact z.symm
   subst this;have ec:=Y c (zav F);have en:=fK (f c);rw[show eK chs f t+J-eK chs f t=J by lia];have lt:=jn.2
   ac_rfl
def qr(p:Str×Int):Key×D:=(.inr p.1,.int p.2)
theorem DZ:∀l:List (Str×Int),DI (l.map bL)=some (l.map qr)
 | []=>rfl
 | p::l=>by
  show(W5 (.str p.1)).bind _=_;show(some (.inr p.1:Key)).bind _=_;rw[aA,DZ l];rfl
theorem u6:∀(l kn:List (Str×Int)) (acc:List (Key×D)),Cons acc kn->(l.map (·.1)++kn.map (·.1)).Nodup->Cons (k9 acc (l.map qr)) (l++kn)
 | [],kn,acc,h,_=>h
 | p::l,kn,acc,h,nd=>by
  rw[zak,zcZ,List.nodup_cons]at nd;have G:p.1∉kn.map (·.1):=λz=>nd.1 (zaX _ z)
  have h2:=h.put (j:=p.2) G;have B:(l.map (·.1)++((p.1,p.2)::kn).map (·.1)).Nodup:=by
   have a:=List.nodup_append.mp nd.2;rw[zak,zej];refine⟨a.1,List.nodup_cons.mpr ⟨G,a.2.1⟩,λy J z M=>?_⟩;rcases List.mem_cons.mp M with e|e
   ·intro w;exact nd.1 (zbC _ (by rw[<- e,<- w];exact J))
   ·exact a.2.2 y J z e
  have ih:=u6 l ((p.1,p.2)::kn) (putD acc (.inr p.1) (.int p.2)) h2 B;show Cons (k9 (putD acc (.inr p.1) (.int p.2)) (l.map qr)) _;intro q F;refine ih q ?_;rw[zcZ]at F;rcases List.mem_cons.mp F with z|z
  ·rw[z];exact zaX _ (zat ..)
  ·rcases List.mem_append.mp z with z|z
   ·exact zbC _ z
   ·exact zaX _ (zap _ z)
theorem y6:∀(l:List (Key×D)) (acc:List (Key×D)),(k9 acc l).length<=acc.length+l.length
 | [],acc=>by show acc.length<=_;simp[-zad,-zac,aA,aC]
 | p::l,acc=>by
  have:=y6 l (putD acc p.1 p.2);have:=sY (d:=acc) (k:=p.1) (e:=p.2);show(k9 (putD acc p.1 p.2) l).length<=_;rw[zaz];lia
theorem CF{l:List (Str×Int)}(B:(l.map (·.1)).Nodup)(G:l.length<=100):∃d,gF [.lst (l.map bL)]=some (.dK d)/\gF [.tup (l.map bL)]=some (.dK d)/\Cons d l/\d.length<=100:=by
 have F:aU (l.map bL).length=true:=decide_eq_true (by rw[zam];lia);have q:gF [.lst (l.map bL)]=(if aU (l.map bL).length=true then(DI (l.map bL)).map λkvs=>D.dK (k9 [] kvs)else none):=rfl;have z:gF [.tup (l.map bL)]=(if aU (l.map bL).length=true then(DI (l.map bL)).map λkvs=>D.dK (k9 [] kvs)else none):=rfl;rw[if_pos F,DZ,aC]at q z;have c:=u6 l [] [] (λ_ h=>nomatch h) (by simpa using B);rw[zbs]at c;have:=y6 (l.map qr) [];simp[-zad,-zac,aA,aC]at this;exact⟨_,q,z,c,by lia⟩
theorem eqN.lst{n:Nat}{l:List D}(h:∀d∈l,eqN n d):eqN (n+1) (.lst l):=by
 obtain⟨xs,e,a,b⟩:=eqN.list h;refine⟨.lst xs,?_,a,?_⟩
 ·rw[iH,e];rfl
 ·show My.l7 xs+1<=n+1
  lia
theorem VI(l:List (Str×Int)):uX (.lst (l.map bL)) (.lst (l.map bL))=some (.bl false):=by
 have o:=(eqN.lst (n:=1) (l:=l.map bL) λd hd=>by
  obtain⟨p,_,rfl⟩:=List.mem_map.mp hd;exact eqN.tup (n:=0) (eV .str (all1 .int))).ok (by decide)
 unfold uX GF;rw[if_pos (.inr ⟨rfl,rfl,o,o⟩)];simp[-zad,-zac,aA,aC]
theorem names8(ns:List Int):∃nms:List Str,nms.length=8/\nms.Nodup/\bD (aR 0) fQ (aQ bZ (aB (aQ bN (aB (aD 1) (aB (eC (.int 23)) aW))) (aB (aD 0) aW))) (aS 0 1 8) [none,some (.lst (ns.map .int))]=some (nms.map .str):=by
 obtain⟨f,M⟩:=dI ns;have q:=(M 23 (by decide) (by decide)).1;obtain⟨nm,e,inj⟩:=OX (f 23);have G:=jS (K:=8) (f:=aQ bZ (aB (aQ bN (aB (aD 1) (aB (eC (.int 23)) aW))) (aB (aD 0) aW))) (rest:=[some (.lst (ns.map .int))]) (F:=λi=>.str (nm i)) (λi U i1=>by simp_all[q,e i U (by lia)]) (zas 8) none λk W=>List.mem_range.mp W
 have er:aS 0 1 8=(zas 8).map λ(k:Nat)=>D.int (k:Int):=by
  rw[fV,zaq];rfl
 refine⟨(zas 8).map λ(k:Nat)=>nm (k:Int),by simp[-zad,-zac,aA,aC],?_,?_⟩
 ·refine List.nodup_iff_pairwise_ne.mpr ?_
  rw[List.pairwise_map];refine List.Pairwise.imp_of_mem ?_ (List.nodup_range (n:=8));intro a b J N B z;have Y:=List.mem_range.mp J;have b1:=List.mem_range.mp N;have:=inj (a:Int) (b:Int) (by lia) (by lia) z;exact B (by lia)
 ·rw[er,zaq]
  exact G
def yB(d:List (Key×D)):fR:=λx=>match eW d (.inr x:Key)with
 | some (.int j)=>j
 | _=>0
theorem X0{d:List (Key×D)}{kn:List (Str×Int)}(h:Cons d kn):EC (yB d) kn:=λp q=>by unfold yB;rw[h p q]
theorem xK{C:Bk}(B:OkB C):∃at_,tZ CA gA gZ cP (bB C)=some at_/\AtD C at_:=by
 obtain⟨q,L2,e,ok⟩:=QJ B;exact⟨_,e,q,L2,rfl,ok⟩
theorem pU{C:Bk}(B:OkB C){U:List Str}(G:U.length<=8){z:D}{d:List (Key×D)}(hd:gF [z]=some (.dK d)){kn:List (Str×Int)}{g:Rg}{k:Int}(q:size g<=16)(w:WI C U kn g d (yB d) k):pK [bB C,z,pt g,.int k,rd g]=some (.int (cA C g (yB d) k)):=by
 obtain⟨at_,J,A⟩:=xK B;have M:=xZ C 16 (pa g) (by rw[b7];exact q) (by rw[b7];lia);have F:jN [at_,dE C (pa g),.dK d,.int k,rd g]=some (.int (cA C g (yB d) k)):=zG B G A 16 g kn d (yB d) k q q w;rw[iE];refine aG ?_;unfold pG;generalize dE C (pa g)=nd at *;generalize rd g=rg at *;simp_all[aE,eNew,J,M,F,hd]
theorem WJ{C:Bk}(B:OkB C){U:List Str}(G:U.length<=8){z:D}{d:List (Key×D)}(hd:gF [z]=some (.dK d)){kn:List (Str×Int)}{g:Rg}{k:Int}(q:size g<=16)(w:WI C U kn g d (yB d) k):M6 [bB C,z,pt g,.int k,.int (cA C g (yB d) k)]=some (rd g):=by
 obtain⟨at_,J,A⟩:=xK B;have M:=xZ C 16 (pa g) (by rw[b7];exact q) (by rw[b7];lia);have F:oB [at_,dE C (pa g),.dK d,.int k,.int (cA C g (yB d) k)]=some (rd g):=LW B G A 16 g kn d (yB d) k q q w;have W:=(w.num B).1;rw[iE];refine aG ?_;unfold MK;generalize dE C (pa g)=nd at *;generalize rd g=rg at *;generalize cA C g (yB d) k=n at *;have N:¬ n<0:=by lia
 simp_all[aE,eNew,J,M,F,hd,N]
theorem LG{C:Bk}(B:OkB C){U:List Str}(Y:U.length<=8){G:D}{d:List (Key×D)}(hd:gF [G]=some (.dK d)){p:Pa}{e:fR}{k:Int}(q:psz p<=16)(w:PI' C U p d e k):zH [bB C,G,bI p]=some (.lst ((zas C.kinds.length).map λ(j:Nat)=>.int (nI (aX C p e (j:Int))))):=by
 obtain⟨at_,e1,A⟩:=xK B;have k6:=B.k6;have e2:=xZ C 16 p q (by lia);have W:∀i:Int,0<=i->i<(C.kinds.length:Int)->cG [at_,dE C p,.dK d,.int i]=some (memD (aX C p e i)):=λi M J=>A9 B Y A 16 p d e i q q ⟨w.ok,M,J,w.hd,w.he,w.dl⟩
 generalize dE C p=nd at *;have ed:=jS (K:=C.kinds.length) (f:=aQ cZ (aB (aQ cG (aB (aD 1) (aB (aD 2) (aB (aQ gF (aB (aD 3) aW)) (aB (aD 0) aW))))) aW)) (rest:=[some at_,some nd,some G]) (F:=λi=>.int (nI (aX C p e i))) (λi M J=>by
  have n:=fK (aX C p e i);simp_all[hd,W i M J,n]) (zas C.kinds.length) none λk hk=>List.mem_range.mp hk
 have er:aS 0 1 C.kinds.length=(zas C.kinds.length).map λ(k:Nat)=>D.int (k:Int):=by
  rw[fV,zaq];rfl
 have N:b8 [.int (C.kinds.length:Int)]=some (aS 0 1 C.kinds.length):=cV (by lia);have z:aU C.kinds.length=true:=decide_eq_true (by lia);rw[er]at N;refine aG ?_;unfold AN;rw[aH (aL (d:=at_) (by simp_all[aE,eNew,e1]))];rw[aH (aL (d:=nd) (by simp_all[aE,eNew,e2]))];simp_all[-zaq,aE,uM,N,iG,z,ed]
theorem RN(n:Int):oN [.int n]=some (.bl true):=aG (by simp_all[oR,aE])
theorem Y0(ns:List Int)(hn:ns.length<=63):bF 8 M9 [.lst (ns.map .int)]=some (.bl true):=by
 obtain⟨C,hC,B⟩:=B8 ns;obtain⟨nms,h8,F,en⟩:=names8 ns;obtain⟨ps,ep,P,N,q⟩:=yD (ns:=ns) B h8;obtain⟨g,k,r,eg,G⟩:=yL hn B h8 F P N q;have k6:=B.k6;have gs:=G.sz;have r8:b8 [.int 8]=some (aS 0 1 8):=cV (n:=8) (by decide);have z8:aU 8=true:=rfl;have M:(ps.map (·.1)).Nodup:=by rw[q];exact(zdk ..).nodup F
 obtain⟨d,dl,U,cd,ld⟩:=CF M (by lia);have w:WI C nms ps g d (yB d) k:=⟨G.wf,G.nf,P,X0 cd,cd,λp N=>(zdk ..).subset (q ▸ List.mem_map.mpr ⟨p,N,rfl⟩),by lia⟩;have J:nms.length<=8:=by lia
 have nl:=pU B J dl (by lia) w;have nt:=pU B J U (by lia) w;have tl:=WJ B J dl (by lia) w;have ct:=LG B J U (by rw[b7];lia) (w.pi B);rw[<- iE]at ct;have nn:=w.num B;have nr:=YY (g:=g) (by lia);have nk:=VI ps;obtain⟨ao,W⟩:=MB g;have z:gN ((zas C.kinds.length).map λ(j:Nat)=>D.int (nI (aX C (pa g) (yB d) (j:Int)))) k=some (.int (nI (aX C (pa g) (yB d) k))):=by
  have k0:=G.k0;have k1:=G.k1;have Y:((k.toNat:Nat):Int)=k:=by lia
  have:((zas C.kinds.length).map λ(j:Nat)=>D.int (nI (aX C (pa g) (yB d) (j:Int))))[k.toNat]?=some (.int (nI (aX C (pa g) (yB d) k))):=by
   rw[zaB,zcW (by lia),zac,Y]
  have:=bR this
  rwa [Y]at this
 generalize ((zas C.kinds.length).map λ(j:Nat)=>D.int (nI (aX C (pa g) (yB d) (j:Int))))=CL at *;generalize cA C g (yB d) k=n at *;have wh:=RN n;refine aG ?_;unfold M9;rw[aH (aL (d:=bB C) (by simp_all[aE,hC]))];rw[aH (aL (d:=.lst (nms.map .str)) (by simp_all[aE,r8,bG,z8,iG,en]))];rw[aH (aL (d:=.lst (ps.map bL)) (by simp_all[aE,ep]))];rw[aH (aL (d:=bE C g k r) (by simp_all[aE,eg]))];generalize ps.map bL=pl at *;rw[aH (aL (d:=.lst pl) (by simp_all[aE]))];rw[aH (aL (d:=.int n) (by simp_all[aE,l9,oJ,oK,nl]))];have n0:¬ n<0:=by lia
 have n1:¬ nI (aX C (pa g) (yB d) k)<=n:=by lia
 rw[aH (Z0 (f:=IX (eC (.bl false))) (g:=SD) (c:=_) (by simp_all[aE,wh,n0,l9,oK,ct,z,n1]))];rw[aH (ρ':=[some (.lst (ns.map .int)),some (bB C),some (.lst (nms.map .str)),some (.lst pl),some (bE C g k r),some (.lst pl),some (.int n),some (rd g)]) (by simp_all[aE,l9,oK,tl])];have ti:BA "tuple" (rd g)=true:=by rw[W];rfl
 have no:qH (rd g)=true:=by rw[W];rfl
 rw[aH (ρ':=[some (.lst (ns.map .int)),some (bB C),some (.lst (nms.map .str)),some (.lst pl),some (bE C g k r),some (.lst pl),some (.int n),some (rd g)]) (by simp_all[ti,no,oJ,nr,nk])];simp_all[l9,oK,nt]
theorem qay:Bds top tab:=by
 unfold tab
 repeat (refine Bds.cons ?_ ?_;· (repeat intro _);rfl)
 exact Bds.nil
theorem WE{l:zea}{w:World}{K:zae}{h:Heap}{mg:Str->Option Value}{fa:Addr}{k:Nat}(X:K.In h)(G:h.Ns zaJ mg)(ad:mg "law" = some (.ref fa))(D:Des K top tab)(B:Nos K blt)(J:Gis K gis)
  {Y:Addr} {ab U:Option Addr} {ac:Array (Option Value)} {aa N M z q F:Value} (a0:zbY K zaJ "law" = some (some (.ref Y))) (l0:K.lookup Y=some ⟨aa,ab,.func (zbg "law" "law" (dW s_law) (bQ s_law) (aM s_law) .none N M z U q F),ac⟩) (c0:zco K q "law" = true) (k0:zbE K (.ref Y)=true)
  (oqNode:ObQ K "Node" "Node.__init__" (inClass (top 19) 0) CN ["part", "below", "names", "found"])
  (oqAtlas:ObQ K "Atlas" "Atlas.__init__" (inClass (top 21) 0) CA ["book", "routes", "spans"])
  (ok:∀base:Heap,K.In base->base.Ns zaJ mg->Txt K mg->My.BodyOk l.prog w K mg base "law" s_law ["script", "tome", "names", "pairs", "state", "handed", "n", "found"] k (My.A8 K)) :
  ∃fd:zbe,(∀(s:zab) (v:Value),BindsTo s fd ⟨[v],[]⟩ [("script",v)])/\∀base:Heap,K.In base->base.Ns zaJ mg->FnOk l.prog w K mg base u3 (k+1) fa fd ["script"] (My.A8 K):=by
 have e:=ad.symm.trans (zdJ X G a0);cases e;have F0:=C5 (st:=s_law) l0 c0 k0;have T:Txt K mg:=⟨Des.d X G D qay,λx hx=>PySem.W.mg_none_of X G (B x hx),Gis.d X G J,oqNode.t X G λ_ _ _ _ _ _ _ _=>rfl,oqAtlas.t X G λ_ _ _ _ _ _ _ _=>rfl⟩;refine⟨zbg "law" "law" (dW s_law) (bQ s_law) (aM s_law) .none N M z U q F,λs v=>.of_eq rfl,λbase kb nb=>?_⟩;exact(ok base kb nb T).fn F0 sc_law (λvs H Q E h=>by obtain⟨a,ns,e,_⟩:=h;rw[e];rfl)
end Law
namespace PySem.W.Fast
theorem tw4891087039121496380:0=0:=rfl
theorem tw11205544988475259175:0=0:=rfl
theorem tw8277974707999895202:0=0:=rfl
theorem tw10389351711333398717:0=0:=rfl
theorem tw3309629150289147273:0=0:=rfl
theorem tw1054444127835082749:0=0:=rfl
theorem tw11885376414780914140:0=0:=rfl
theorem tw9981451416635051341:0=0:=rfl
theorem tw212034274271893463:0=0:=rfl
theorem tw11518028472247464348:0=0:=rfl
theorem tw7538602972432958575:0=0:=rfl
theorem tw11723585702860038681:0=0:=rfl
theorem tw14119944174132024862:0=0:=rfl
theorem tw10947422017501035930:0=0:=rfl
theorem tw7316468428591748763:0=0:=rfl
theorem tw8070760096508781202:0=0:=rfl
theorem tw9731348746856862105:0=0:=rfl
theorem tw7452551302548781304:0=0:=rfl
theorem tw4567448305236832970:0=0:=rfl
theorem tw10540889228223622598:0=0:=rfl
theorem tw4923736647137447794:0=0:=rfl
theorem tw1537155644169527024:0=0:=rfl
theorem tw12148760819653158946:0=0:=rfl
theorem tw7695992037463823448:0=0:=rfl
theorem tw10711876889147919101:0=0:=rfl
theorem tw13420394943780861456:0=0:=rfl
theorem tw9146739580131975143:0=0:=rfl
theorem tw155152757071729524:0=0:=rfl
theorem tw17827405590885921342:0=0:=rfl
theorem tw9259072323197433453:0=0:=rfl
theorem tw900240142347168806:0=0:=rfl
theorem tw11721317903574584708:0=0:=rfl
theorem tw15504402487589928338:0=0:=rfl
theorem tw16865481667231007373:0=0:=rfl
theorem tw15665960463096112203:0=0:=rfl
theorem tw8101921864840804982:0=0:=rfl
theorem tw15811098574014111329:0=0:=rfl
theorem tw9906451561748882970:0=0:=rfl
theorem tw5668954514217617673:0=0:=rfl
theorem tw7983385784758046605:0=0:=rfl
theorem tw6121575538061707965:0=0:=rfl
theorem tw16368153131118585307:0=0:=rfl
theorem tw5384204989762230660:0=0:=rfl
theorem tw16642155152019658517:0=0:=rfl
theorem tw12076800150294760069:0=0:=rfl
theorem tw9725653742879873035:0=0:=rfl
theorem tw5657303675501644907:0=0:=rfl
theorem tw715439593087858563:0=0:=rfl
theorem tw16135785541658088090:0=0:=rfl
theorem tw2308959593125583767:0=0:=rfl
theorem tw15739864207856994240:0=0:=rfl
theorem tw10952759830799981858:0=0:=rfl
theorem tw17304996041287771210:0=0:=rfl
theorem tw5648614624783971502:0=0:=rfl
theorem tw1569747196025167611:0=0:=rfl
theorem tw11865110648647578894:0=0:=rfl
theorem tw13916602597912753908:0=0:=rfl
theorem tw5446433493159350295:0=0:=rfl
theorem tw5898377221612840155:0=0:=rfl
theorem tw17323869101897841859:0=0:=rfl
theorem tw2188117734030466867:0=0:=rfl
theorem tw7663710462932349:0=0:=rfl
theorem tw14954455538180812926:0=0:=rfl
theorem tw10775476359906040502:0=0:=rfl
theorem tw14582399717903726061:0=0:=rfl
theorem tw758835068228514673:0=0:=rfl
theorem tw7878243447475794351:0=0:=rfl
theorem tw13827144402096877974:0=0:=rfl
theorem tw10339295086642996484:0=0:=rfl
theorem tw1461859462486588413:0=0:=rfl
theorem tw304841469488162853:0=0:=rfl
theorem tw6349752082923974591:0=0:=rfl
theorem tw66633416246061692:0=0:=rfl
theorem tw4501923895118530417:0=0:=rfl
theorem tw14486559914942640275:0=0:=rfl
theorem tw13833464242298705256:0=0:=rfl
theorem tw1019475094659279466:0=0:=rfl
theorem tw3153231283598607789:0=0:=rfl
theorem tw8022582372750283589:0=0:=rfl
theorem tw13381420894105652088:0=0:=rfl
theorem tw17148133882641190112:0=0:=rfl
theorem tw6718733816808270973:0=0:=rfl
theorem tw2937450776910715016:0=0:=rfl
theorem tw10455416049942919787:0=0:=rfl
theorem tw5588267500353074651:0=0:=rfl
theorem tw6363493869953704462:0=0:=rfl
theorem tw8583930013546032228:0=0:=rfl
theorem tw11678652163691775010:0=0:=rfl
theorem tw3880618664253586810:0=0:=rfl
theorem tw9951910247976067179:0=0:=rfl
theorem tw9820063273929740058:0=0:=rfl
theorem tw15629886654988979761:0=0:=rfl
theorem tw15418981774002151377:0=0:=rfl
theorem tw9823259455132297154:0=0:=rfl
theorem tw11916789593128999787:0=0:=rfl
theorem tw16800850584051150002:0=0:=rfl
theorem tw11163701089808657242:0=0:=rfl
theorem tw745879402822458599:0=0:=rfl
theorem tw17714293336049540163:0=0:=rfl
theorem tw14639370747610171694:0=0:=rfl
theorem tw7744259624715209983:0=0:=rfl
theorem tw3112691464441317619:0=0:=rfl
theorem tw14486787975967848073:0=0:=rfl
theorem tw1398489683793110805:0=0:=rfl
theorem tw3955445528872683913:0=0:=rfl
theorem tw11511829418536315978:0=0:=rfl
theorem tw10938715930694268135:0=0:=rfl
theorem tw15785725462157411741:0=0:=rfl
theorem tw6340371764116871899:0=0:=rfl
theorem tw12482286437383749623:0=0:=rfl
theorem tw15360583566033491581:0=0:=rfl
theorem tw2598293744975489243:0=0:=rfl
theorem tw9089689584736300078:0=0:=rfl
theorem tw14899717273968106502:0=0:=rfl
theorem tw3284834960042698058:0=0:=rfl
theorem tw17119042691529741661:0=0:=rfl
theorem tw8355349931116980892:0=0:=rfl
theorem tw6500772995852312935:0=0:=rfl
theorem tw3258263644444717548:0=0:=rfl
theorem tw10565931190157522418:0=0:=rfl
theorem tw15713108912334655569:0=0:=rfl
theorem tw3258098436405768161:0=0:=rfl
theorem tw9703814420971349855:0=0:=rfl
theorem tw11431230808481322152:0=0:=rfl
theorem tw12862859777456845975:0=0:=rfl
theorem tw8072080481060456587:0=0:=rfl
theorem tw7455388008267784944:0=0:=rfl
theorem tw8623181995762182071:0=0:=rfl
theorem tw17583530310362180619:0=0:=rfl
theorem tw2991445824059572371:0=0:=rfl
theorem tw8230659013864528837:0=0:=rfl
theorem tw17313268628220003925:0=0:=rfl
theorem tw15886000719381169850:0=0:=rfl
theorem tw4073191929547068212:0=0:=rfl
theorem tw6554106434289933133:0=0:=rfl
theorem tw1091029209715715975:0=0:=rfl
theorem tw9988549920748157928:0=0:=rfl
theorem tw717362622417185345:0=0:=rfl
theorem tw11516085920720414022:0=0:=rfl
theorem tw11578529584155690546:0=0:=rfl
theorem tw9132437349454791523:0=0:=rfl
theorem tw12243175710904068367:0=0:=rfl
theorem tw7924706898510702040:0=0:=rfl
theorem tw18289846603543604482:0=0:=rfl
theorem tw4050508885210122182:0=0:=rfl
theorem tw17475351750211917686:0=0:=rfl
theorem tw11849843078911437053:0=0:=rfl
theorem tw17198451761937874049:0=0:=rfl
theorem tw7152735354871711866:0=0:=rfl
theorem tw10635114548120864838:0=0:=rfl
theorem tw2543734776184742037:0=0:=rfl
theorem tw2625063754632089878:0=0:=rfl
theorem tw12050431732559333270:0=0:=rfl
theorem tw6591659140137796964:0=0:=rfl
theorem tw15880268825455342019:0=0:=rfl
theorem tw13693064821945766846:0=0:=rfl
theorem tw5851185242722262542:0=0:=rfl
theorem tw18079189963331782420:0=0:=rfl
theorem tw16730901846571595020:0=0:=rfl
theorem tw9273889212065101132:0=0:=rfl
theorem tw7697090096470233872:0=0:=rfl
theorem tw11712681685316837560:0=0:=rfl
theorem tw13096239914353376392:0=0:=rfl
theorem tw14279475373496114580:0=0:=rfl
theorem tw17580701251353071931:0=0:=rfl
theorem tw1351249531386061880:0=0:=rfl
theorem tw11178762880132218480:0=0:=rfl
theorem tw12548624272872799076:0=0:=rfl
theorem tw67993069666438260:0=0:=rfl
theorem tw10431190136914038859:0=0:=rfl
theorem tw17457867856901335200:0=0:=rfl
theorem tw15343586584703825737:0=0:=rfl
theorem tw4746388760828486096:0=0:=rfl
theorem tw15078672212652635115:0=0:=rfl
theorem tw2054431077827187446:0=0:=rfl
theorem tw4207600464736776075:0=0:=rfl
theorem tw8990207815291049995:0=0:=rfl
theorem tw768025008380690097:0=0:=rfl
theorem tw307360075456225631:0=0:=rfl
theorem tw3307942069107358351:0=0:=rfl
theorem tw6824882754201624790:0=0:=rfl
theorem tw445518053735665181:0=0:=rfl
theorem tw15855148011143961176:0=0:=rfl
theorem tw11003418322395731538:0=0:=rfl
theorem tw7684298001517003449:0=0:=rfl
theorem tw16759096768352652445:0=0:=rfl
theorem tw650411822994141797:0=0:=rfl
theorem tw15697916319396817976:0=0:=rfl
theorem tw8980079763979663531:0=0:=rfl
theorem tw17903261512640100272:0=0:=rfl
theorem tw15983697446681436971:0=0:=rfl
theorem tw13110741243619411972:0=0:=rfl
theorem tw2424026349649392218:0=0:=rfl
theorem tw15039266294043310905:0=0:=rfl
theorem tw13874055253492920427:0=0:=rfl
theorem tw9021003404014396750:0=0:=rfl
theorem tw2503878787875812074:0=0:=rfl
theorem tw12808438226280124043:0=0:=rfl
theorem tw11636601691328594690:0=0:=rfl
theorem tw845576163021176956:0=0:=rfl
theorem tw4467405641033460455:0=0:=rfl
theorem tw13185842432748773566:0=0:=rfl
theorem tw10402212447557139510:0=0:=rfl
theorem tw2756530271181551908:0=0:=rfl
theorem tw12800285938413133038:0=0:=rfl
theorem tw8326979029173313254:0=0:=rfl
theorem tw5902829318736441419:0=0:=rfl
theorem tw5309014477930932184:0=0:=rfl
theorem tw13098259252565522616:0=0:=rfl
theorem tw15888014732422901548:0=0:=rfl
theorem tw13747644637860180998:0=0:=rfl
theorem tw3712279599459010884:0=0:=rfl
theorem tw15591692625452858335:0=0:=rfl
theorem tw18411426639862061440:0=0:=rfl
theorem tw178536940338197472:0=0:=rfl
theorem tw15306325751568074324:0=0:=rfl
theorem tw10318985140192734516:0=0:=rfl
theorem tw10702295674193517075:0=0:=rfl
theorem tw4375518195958425207:0=0:=rfl
theorem tw15281438111652050386:0=0:=rfl
theorem tw3694492560789226538:0=0:=rfl
theorem tw4676988525196517338:0=0:=rfl
theorem tw12294506577294211645:0=0:=rfl
theorem tw1458216979890094852:0=0:=rfl
theorem tw2711012766898138573:0=0:=rfl
theorem tw13749023790039676323:0=0:=rfl
theorem tw18174311808152404001:0=0:=rfl
theorem tw12266543885292958662:0=0:=rfl
theorem tw13780414339032219325:0=0:=rfl
theorem tw11350298527218075000:0=0:=rfl
theorem tw14033968824475213779:0=0:=rfl
theorem tw7048189813695594133:0=0:=rfl
theorem tw11688152065104608387:0=0:=rfl
theorem tw9104209759512602048:0=0:=rfl
theorem tw3061924993918120892:0=0:=rfl
theorem tw12741714026286034583:0=0:=rfl
theorem tw8112032741489285053:0=0:=rfl
theorem tw3458858111298381101:0=0:=rfl
theorem tw2865166934478874644:0=0:=rfl
theorem tw7273983949533963927:0=0:=rfl
theorem tw3285941149715091659:0=0:=rfl
theorem tw14663623108340683592:0=0:=rfl
theorem tw12236131627666826848:0=0:=rfl
theorem tw15488932535212847350:0=0:=rfl
theorem tw8105632827875218603:0=0:=rfl
theorem tw4883482803403003049:0=0:=rfl
theorem tw11793085364822275893:0=0:=rfl
theorem tw3727660565811387160:0=0:=rfl
theorem tw822652713095427250:0=0:=rfl
theorem tw8884117048043181467:0=0:=rfl
theorem tw8135475546020485744:0=0:=rfl
theorem tw4912674813079131650:0=0:=rfl
theorem tw2606991424997048051:0=0:=rfl
theorem tw494205106920492103:0=0:=rfl
theorem tw9181855115274618433:0=0:=rfl
theorem tw4447423677747111483:0=0:=rfl
theorem tw14463076652289976682:0=0:=rfl
theorem tw13280713210241701765:0=0:=rfl
theorem tw16782822668214175987:0=0:=rfl
theorem tw13939960757928689081:0=0:=rfl
theorem tw362639201604719080:0=0:=rfl
theorem tw2329109057373479457:0=0:=rfl
theorem tw7997878865248517065:0=0:=rfl
theorem tw4981889092614765112:0=0:=rfl
theorem tw11586529570552269623:0=0:=rfl
theorem tw7330643379804517900:0=0:=rfl
theorem tw7541815016779430651:0=0:=rfl
theorem tw4471355858429239215:0=0:=rfl
end PySem.W.Fast
open PySem PySem.W PyProof.Rows
set_option maxRecDepth 100000 in
set_option maxHeartbeats 0 in
theorem PySem.Challenge.cw_chiefway_k46_whole_every_reading_is_told_holds : PySem.Challenge.rw_chiefway_k46_whole_every_reading_is_told.Holds := by
 w_on;o_law;k_head;(case hw=>w_witness2)
 k_fill
 refine My.walk (l:=PySem.Challenge.rw_chiefway_k46_whole_every_reading_is_told) (k:=72) (by decide) rfl rfl (λw h Y=>PySem.W.kIn_of Y) ?F
 case F=>
  intro w mg N h U G z;refine' Law.WE (k:=71) U G z ?D ?B ?J ?a0 ?l0 ?c0 ?k0 ?oqNode ?oqAtlas ?ok
  (case D=>unfold Law.tab;(repeat (apply P.Des.cons;(case a=>k_is);(case l=>k_is);(case c=>k_is);(case k=>k_is)));exact P.Des.nil)
  (case B=>unfold Law.blt;(repeat (apply P.Nos.cons;(case a=>k_is)));exact P.Nos.nil)
  (case J=>unfold Law.gis;(repeat (apply P.Gis.cons;(case a=>k_is)));exact P.Gis.nil)
  (case a0=>k_is)
  (case l0=>k_is)
  (case c0=>k_is)
  (case k0=>k_is)
  (case oqNode=>refine' P.obq ?a ?m1 ?m2 ?m3 ?m4 ?m5 ?m6 ?m7 ?m8 ?l ?c ?k ?n;(case a=>k_is);(case m1=>k_is);(case m2=>k_is);(case m3=>k_is);(case m4=>k_is);(case m5=>k_is);(case m6=>k_is);(case m7=>k_is);(case m8=>k_is);(case l=>k_is);(case c=>k_is);(case k=>k_is);(case n=>(repeat (apply P.Fas.cons;(case a=>k_is)));exact P.Fas.nil))
  (case oqAtlas=>refine' P.obq ?a ?m1 ?m2 ?m3 ?m4 ?m5 ?m6 ?m7 ?m8 ?l ?c ?k ?n;(case a=>k_is);(case m1=>k_is);(case m2=>k_is);(case m3=>k_is);(case m4=>k_is);(case m5=>k_is);(case m6=>k_is);(case m7=>k_is);(case m8=>k_is);(case l=>k_is);(case c=>k_is);(case k=>k_is);(case n=>(repeat (apply P.Fas.cons;(case a=>k_is)));exact P.Fas.nil))
  (case ok=>exact λbase kb nb T=>P.VN (f:=Law.M9) (O':=[]) rfl (λN M A q s H E hr=>Law.S0.2 T N M A q s H E hr) Law.Y0)
