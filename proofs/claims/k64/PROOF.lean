import PyProof.Rows.All
import OpenK.KLine
import OpenK.KWalk
import OpenK.KMake
import OpenK.KGet
import OpenK.KCall
import OpenK.KDescr
import OpenK.Peek
import Wide.Line
import Wide.BytesRules
import Wide.ObjOpen
import KE.KDictOf
import KE.KIsAll
import KE.KItem
import KE.KRevIter
import KE.KUnpack
import KE.KEqDict
import PyProof.EqAt
import PyProof.EqKinds
import PyProof.TupleCall
import KE.KNestM
import KE.KLam
import KE.KMinKey
import PySem.Challenge.RW_chiefway_k64_whole_the_first_of_the_chea
set_option compiler.extract_closed false
set_option bootstrap.genMatcherCode false
set_option genSizeOf false
set_option tactic.hygienic false
set_option autoImplicit true
set_option relaxedAutoImplicit true
noncomputable section
set_option Elab.async false
set_option linter.all false
set_option maxRecDepth 100000
local macro_rules(kind:=«term{_}»)|`({$xs,*})=>`(⟨$xs,*⟩)
open Option renaming some → bw, none → bz
open Bool renaming true → ca, false → cf
def ci:=@if_pos
def cj:=@if_neg
open PySem renaming wpAny_bind → zaa, Shared → zac, wpAny_pure → zaf, starEach → zag, Program → zai, sizeLine → zal, Around → zan, compareOp → zaA, swapsWith → zaF, mainGlobals → zaH, bootBuiltins → zaI, backTo → zaJ, binaryOp → zaP, attributeBase → zaR, wpAny_field → zaT, pyNext → zaW, assignEach → za3, IsPair → za4, wpAny_mono → za7, sysModules → za9, rawInt → zbc, foldedSetIterable → zbd, relabel → zbf, wpAny_holding → zbg, wpAny_seqItems → zbh, assign → zbi, codeAny → zbj, FuncData → zbk, wpAny_call_entry → zbo, mem_of_lookup → zbz, getItem → zbA, wpAny_setField_rec → zbD, IsEnum → zbE, holding → zbJ, NameKind → zbN, IsPart → zbP, wpAny_callSpecial?_slot → zbQ, wpAny_newObj_type → zbR, sliceBounds → zbS, wpAny_rule → zbV, behindInMarks → zbX, wpAny_pyIter_list → zbZ, wpAny_pyIter_tuple → zb0, wpAny_loadPart' → zb4, Builtin → zb8, tupleKind → zca, PassesOwn → zcc, bindArgs → zcd, cellsFrom → zce, wpAny_letGo → zcj, tupleKeyHash → zcq, wpAny_truthy_bool → zcr, entryOfKey → zcs, wpAny_passesOwn → zct, valueAt → zcw, callerA → zcx, DictEntry → zcy, wpAny_tryCatch → zcz, plainId_quiet → zcA, wpAny_isInstance → zcG, codeAny_mono → zcJ, wpAny_typeOf → zcK, call_meets → zcL, wpAny_attempt → zcN, wpAny_specialOf → zcZ, wpAny_forIn_list → zc0, builtinsNs → zc2, wpAny_standAt → zc3, sizeLine_eq → zc5, wpAny_Call_Name_kw → zc6, closureFor → zc9, seqItems? → zda, codeAny_builtin → zdg, wpAny_execs_nil → zdq, swapsWithSole → zdr, swappedStores → zds, letOwnedTupleGo → zdt, subscripted → zdD, wpAny_typeNameOfWhole_keyiter → zdJ, wpAny_typeNameOf_keyiter → zdK, wpAny_setField → zdL, firstArgMember → zdN, wpAny_onRaise → zdQ, getattributeRaised → zdX, wpAny_tupleItemsOf → zd4, isSubtype_tuple_tuple → zd6, noFill_tuple_add → zeg, tupleKind_room_in1 → zep, wpAny_dictEntries → zer, wpAny_dictEpoch → zes, wpAny_updateSeq_pair → zew, wpAny_updateSeq → zeG
open Option renaming map_some → zab, bind_some → zad, bind → zcR
open PySem.W renaming Frag → zae, fnOf → zbe, kia_one → zbp, findIn → zby, keepIn → zbM, nsIn → zbU, emptyDict → zb1, instObj → zcb, codeIn → zcv, mg_of → zdk, plainGet → zdu, hasDictIn → zdv, kitOne → zdw, kitx_dict → zdx, kla_fn → zdZ, methodObj → zd7, plainOver → zea, takerIn → zeb, makesIn → zec, OpenLaw → zeq, codeHdIn → zeD, kla_obj → zeE
open Nat renaming le_refl → zah, ne_of_lt → zaE, le_trans → zaL, zero_le → zaM, zero_add → zaN, lt_of_lt_of_le → zaQ, ne_of_gt → zbb, lt_irrefl → zbt, le_of_ble_eq_true → zcB, lt_succ_self → zcI, le_of_lt → zdp, lt_of_le_of_lt → zdH, not_lt_zero → zeB
open List renaming map_cons → zaj, length_map → zak, mem_of_getElem? → zap, mem_cons_of_mem → zaq, mem_cons_self → zar, map_map → zas, range → zau, getElem?_map → zav, size_toArray → zay, length_cons → zaB, getElem?_eq_getElem → zaG, map_append → zaO, mem_cons → zaX, mem_append_right → zaY, not_mem_nil → zaZ, sum_cons → za5, length_append → zbm, length → zbq, take_length → zbv, find?_cons → zbB, take_of_length_le → zbF, getElem?_of_mem → zbG, mem_append_left → zbH, getElem?_set_ne → zbI, lookup → zbK, append_nil → zbL, length_nil → zbO, length_take → zb3, lookup_cons → zb7, map_nil → zcf, any_cons → zcg, filter_cons → zch, take_succ → zcn, replicate → zcu, foldl_cons → zcD, take_succ_cons → zcE, getElem?_set_self → zcH, length_range → zcS, length_set → zc8, getElem?_range → zdc, cons_append → zde, take_add_one → zdf, forall_mem_cons → zdj, length_filter_le → zdl, getD_eq_getElem?_getD → zdm, getElem?_append_right → zdy, take_sublist → zdz, replicate_succ → zdE, flatten_cons → zdF, drop_eq_getElem_cons → zdT, foldl_nil → zd2, filterMap_cons → zd8, getElem_inj → zd9, of_mem_zip → zed, getElem?_append_left → zee, zip_cons_cons → zef, length_drop → zel, reverse_cons → zen, forIn_cons → zeu, drop_length → zex, sum_append → zey, pairwise_map → zez, getElem_mem → zeA, nodup_append → zeI, map_eq_nil_iff → zeJ, length_zip → zeK, take_sublist_take_left → zeR, idxOf_lt_length_of_mem → zeS
open PySem.Heap renaming get?_push_of_some → zam, lt_size → zao, get?_push_size → zaC, SameBut → za6, size_push → zb2, IsTuple → zdb, IsList → zdS, get?_update_self → zem
open Int renaming emod_nonneg → zat, emod_lt_of_pos → zaw, ne_of_gt → zaU, le_refl → zbr, zero_add → zbw, toNat_natCast → zbC, le_trans → zcm, mul_nonneg → zdd, add_assoc → zdn, lt_of_lt_of_le → zdo, mul_assoc → zd0, mul_le_mul_of_nonneg_right → zd1
open PySem.Value renaming ref → zax, none → za8, int → zcF, str → zcW, bool → zcX
open Option.some renaming inj → zaz
open Bool renaming false_ne_true → zaD, and_eq_true → zaS, false_eq_true → zbs, not_true → zb9, eq_iff_iff → zc1, not_eq_true → zdU, or_eq_true → zdV
open PyProof.Rows renaming envOfC → zaK, kindOf → zbl, IntsAre → zbn, AllBare → zbW, callWith_type1 → zc4, slot_tuple_getitem → zdB
open Ne renaming symm → zaV
open True renaming intro → za0
open PySem.Str renaming ofString → za1, join → zcV
open Or renaming inl → za2, inr → zbT
open False renaming elim → zba
open PySem.NameKind renaming free → zbu
open Sum renaming inl → zbx, inr → zco
open Array renaming length_toList → zbY, toList_append → zdY, forIn_toList → zd5, getElem?_toList → zet
open PySem.Obj renaming mapSeq → zb5, data_mapFields → zdM
open PySem.Shared renaming heap → zb6
open PySem.Builtin.SmallTypes renaming nextOf → zci, ownedTupleIsFree → zcP, ownedTupleHandOut → zdR
open Classical renaming propDecidable → zck
open Eq renaming trans → zcl
open PySem.Builtin.Tuple renaming tupleHashOf → zcp, tupleExact → zdC, tupleItemsOf → zd3
open PySem.F renaming plain_min_loop → zcC, plainAttrs_list → zdi, slot_dict_keyiterator_next → zdI, slot_tuple_iterator_next → zdO, slot_zip_next → zdP, slot_enumerate_next → zdW, slot_tuple_add → zeh, entry_tuple_add → zei, args_tuple_add_2 → zej, entry_min_loop → zeF, entry_dict_keyiterator_next → zeL, args_dict_keyiterator_next_1 → zeM, entry_tuple_iterator_next → zeO, args_tuple_iterator_next_1 → zeP
open ForInStep renaming yield → zcM
open PySem.Heap.SameBut renaming update → zcO
open PySem.Walks renaming list → zcQ
open MonadExcept renaming tryCatch → zcT
open Subtype renaming val → zcU
open PySem.Paired renaming length → zcY
open PySem.SeqAt renaming EqAt → zc7
open PySem.Around renaming under_plainId → zdh
open PySem.Builtin.Slice renaming slicePlaces → zdA, sliceAdjust → zek
open List.Pairwise renaming nil → zdG
open PySem.Builtin.List renaming listTooLong → zeo
open PySem.PassesOwn renaming never → zeC
open List.cons renaming injEq → zeH
open PySem.Builtin.Dict_items renaming ownsTuple → zeN
open PySem.Builtin.Builtins renaming bindParams → zeQ
noncomputable section
namespace L2
open PySem PySem.Spec PyProof.Rows
abbrev Key:=Sum Int Str
noncomputable def yD:Key->Value->Bool
 |.inl k,v=>Value.isInt k v
 |.inr x,v=>Value.isStrOf x v
noncomputable def qcu(w:World):Key->Int
 |.inl k=>hashInt k
 |.inr x=>hashStr w x
def cU:∀ {k:Key} {v:Value},yD k v=ca->(∃i t,k=zbx i/\v=zcF i t)\/(∃x t,k=zco x/\v=zcW x t)
 |.inl i,v,h=>by
  obtain⟨t,e⟩:=Value.isInt_shape (k:=i) (v:=v) h;exact .inl {i,t,rfl,e}
 |.inr x,v,h=>by
  obtain⟨t,e⟩:=Value.isStrOf_shape (x:=x) (v:=v) h;exact .inr {x,t,rfl,e}
def JT(i:Int)(t:Tok):yD (.inl i) (.int i t)=ca:=by simp[yD,Value.isInt]
def JY(x:Str)(t:Tok):yD (.inr x) (.str x t)=ca:=by simp[yD,Value.isStrOf]
def XM(a b:Int):decide ((zbx a:Key)=zbx b)=(a == b):=by
 by_cases e:a=b
 .subst e;simp
 .have h:¬ (zbx a:Key)=zbx b:=λq=>e (Sum.inl.inj q)
  rw[decide_eq_false h];exact(beq_eq_false_iff_ne.mpr e).symm
def WR(a b:Str):decide ((zco a:Key)=zco b)=decide (a=b):=by
 by_cases e:a=b
 .subst e;simp
 .have h:¬ (zco a:Key)=zco b:=λq=>e (Sum.inr.inj q)
  rw[decide_eq_false h,decide_eq_false e]
def XX(a:Int)(b:Str):decide ((zbx a:Key)=zco b)=cf:=decide_eq_false λq=>nomatch q
def XQ(a:Str)(b:Int):decide ((zco a:Key)=zbx b)=cf:=decide_eq_false λq=>nomatch q
def bE(prog:zai)(w:World):PySem.KeyKind prog w Key where
 is:=yD
 hash:=qcu w
 inj:=λv a b G B=>by
  rcases cU G with⟨i,t,rfl,rfl⟩|⟨x,t,rfl,rfl⟩
  .rcases cU B with⟨j,u,rfl,e⟩|⟨y,u,rfl,e⟩
   .injection e with e1 _;rw[e1]
   .exact nomatch e
  .rcases cU B with⟨j,u,rfl,e⟩|⟨y,u,rfl,e⟩
   .exact nomatch e
   .injection e with e1 _;rw[e1]
 byValue:=λk v h=>by
  rcases cU h with⟨i,t,rfl,rfl⟩|⟨x,t,rfl,rfl⟩ <;> rfl
 pyHash:=λz h=>by
  rcases cU z with⟨i,t,rfl,rfl⟩|⟨x,t,rfl,rfl⟩
  .exact wpAny_pyHash_int h
  .exact wpAny_pyHash_str h
 eqBool:=λF z h=>by
  rcases cU F with⟨i,t,rfl,rfl⟩|⟨x,t,rfl,rfl⟩
  .rcases cU z with⟨j,u,rfl,rfl⟩|⟨y,u,rfl,rfl⟩
   .rw[XM]at h;exact wpAny_eqBool_int h
   .rw[XX]at h;exact SeqAt.EqAt.int_str i t y u _ _ _ _ h
  .rcases cU z with⟨j,u,rfl,rfl⟩|⟨y,u,rfl,rfl⟩
   .rw[XQ]at h;exact SeqAt.EqAt.str_int x t j u _ _ _ _ h
   .rw[WR]at h;exact wpAny_eqBool_str h
 «strs»:=λk x t v h=>by
  rcases cU h with⟨i,u,rfl,e⟩|⟨y,u,rfl,e⟩
  .exact nomatch e
  .injection e with e1 _
   subst e1;cases v <;> rfl
def AS(prog:zai)(w:World)(i:Int)(t:Tok):(bE prog w).is (.inl i) (.int i t)=ca:=JT i t
def AW(prog:zai)(w:World)(x:Str)(t:Tok):(bE prog w).is (.inr x) (.str x t)=ca:=JY x t
inductive V where
 | non|bl (b:Bool)|int (i:Int)|str (x:Str)|byt (b:Array UInt8)|flt (b:UInt64)|ref (a:Addr)|ty (n:String)
 deriving DecidableEq
def RelV:V->Value->Prop
 |.non,u=>u=za8
 |.bl b,u=>u=zcX b
 |.int i,u=>∃t,u=zcF i t
 |.str x,u=>∃t,u=zcW x t
 |.byt b,u=>∃t,u=Value.bytes b t
 |.flt b,u=>∃t,u=Value.float b t
 |.ref a,u=>u=zax a
 |.ty n,u=>u=Value.type n
abbrev Vals:List V->List Value->Prop:=Paired RelV
theorem Vals.length(r:Vals xs us):xs.length=us.length:=zcY r
theorem Vals.get:∀ {xs:List V} {us:List Value} {i:Nat} {x:V},Vals xs us->xs[i]?=bw x->∃u,us[i]?=bw u/\RelV x u
 |_,_,_,_,.nil,e=>by simp at e
 |_,_,0,_,.cons r _,e=>by simp at e;subst e;exact{_,rfl,r}
 |_,_,i+1,x,.cons _ t,e=>by
  obtain⟨u,h1,h2⟩:=Vals.get (i:=i) (x:=x) t (by simpa using e);exact{u,by simpa using h1,h2}
theorem Vals.set(r:RelV x u):∀ {xs:List V} {us:List Value} (i:Nat),Vals xs us->Vals (xs.set i x) (us.set i u)
 |_,_,_,.nil=>.nil
 |_,_,0,.cons _ t=>.cons r t
 |_,_,i+1,.cons q t=>.cons q<|Vals.set r i t
theorem Vals.append:∀ {xs ys:List V} {us ws:List Value},Vals xs us->Vals ys ws->Vals (xs++ys) (us++ws)
 |_,_,_,_,.nil,s=>s
 |_,_,_,_,.cons r t,s=>.cons r<|Vals.append t s
theorem Vals.take:∀ {xs:List V} {us:List Value} (n:Nat),Vals xs us->Vals (xs.take n) (us.take n)
 |_,_,0,_=>.nil
 |_,_,_+1,.nil=>.nil
 |_,_,n+1,.cons r t=>.cons r<|Vals.take n t
theorem Vals.drop:∀ {xs:List V} {us:List Value} (n:Nat),Vals xs us->Vals (xs.drop n) (us.drop n)
 |_,_,0,r=>r
 |_,_,_+1,.nil=>.nil
 |_,_,n+1,.cons _ t=>Vals.drop n t
def RelO:Option V->Option Value->Prop
 |some v,bw u=>RelV v u
 |none,bz=>True
 |_,_=>False
def KV{κ:Type}:List (κ×V)->List (κ×Value)->Prop:=Paired λ(p:κ×V) (q:κ×Value)=>p.1=q.1/\RelV p.2 q.2
noncomputable def kV:Key->V
 |.inl i=>.int i
 |.inr x=>.str x
section
variable {prog:zai}{w:World}{K:Type}[DecidableEq K](knd:KeyKind prog w K)
def NestIs(h:Heap)(k:K×List K)(a:Addr):Prop:=∃o n v b,h.get? a=bw o/\o.cls=.type "tuple" /\ o.data=.seq #[v,.ref b] n/\knd.is k.1 v=ca/\IsTupleKey knd h k.2 b
noncomputable def vI(k:K×List K):Int:=reduceHash<|zcp [knd.hash k.1,zcq knd k.2]
variable {knd}{A:zan}{E:Value->zac->Prop}{s:zac}
def NestIs.typeIs{k:K×List K}{a:Addr}(x:NestIs knd s.heap k a):s.TypeIs (.ref a) "tuple" := let ⟨o,_,_,_,ho,hc,_⟩:=x;{o,ho,hc}
theorem NestIs.inj{h:Heap}{a:Addr}{x y:K×List K}(hx:NestIs knd h x a)(M:NestIs knd h y a):x=y:=by
 obtain⟨o,n,v,b,U,_,hd,hi,N⟩:=hx;obtain⟨o',Y,v',W,F,_,z,G,B⟩:=M;obtain rfl:o=o':=zaz<|U.symm.trans F;rw[hd]at z;injection z with h1 _
 simp at h1;obtain⟨rfl,rfl⟩:=h1;exact Prod.ext (knd.inj _ _ _ hi G)<|N.inj B
theorem NestIs.keeps{h h':Heap}{k:K×List K}{a d:Addr}{o:Obj}{es ep}(x:NestIs knd h k a)(G:h.get? d=bw o)(hd:o.data=.dict es ep)(hs:za6 d h h'):NestIs knd h' k a:=by
 obtain⟨o',n,v,b,B,M,z,hi,N⟩:=x;have F:a≠d:=by
  rintro rfl;obtain rfl:o'=o:=zaz<|B.symm.trans G;rw[hd]at z;exact nomatch z
 exact{o',n,v,b,(hs.2 a F).trans B,M,z,hi,N.keeps G hd hs}
def KC{k:K×List K}{a:Addr}{Q:Int->zac->Prop}(G:A.units+1<cLine)(B:NestIs knd s.heap k a)(h:Q (vI knd k) {s with toks:=s.toks+(k.2.length+3)}) :
  wpAny (model prog w) A (pyHash<|.ref a) Q E s:=by
 have hT:=B.typeIs;obtain⟨o,n,v,b,N,_,hd,hi,M⟩:=B;unfold pyHash
 first|unfold pyHashByItsType|skip
 first|refine zaa (wpAny_cRoomFor_or (.inr<|by lia) ?_)|skip
 refine zaa<|zcZ hT F.slot_tuple_hash.lookup ?_;show wpAny _ _ (if(bw (Value.builtin "tuple.__hash__") == bw za8)=ca then _ else _) Q E s;rw[cj<|by rw[beq_builtin_none];exact zaD];refine zaa<|zcZ hT F.slot_tuple_hash.lookup ?_;show wpAny _ _ (callSpecialIfBoundUnlessNone? (.ref a) "__hash__" _ >>= _) Q E s;refine zaa<|wpAny_callSpecialIfBoundUnlessNone?_slot hT F.slot_tuple_hash<|zbo F.slot_tuple_hash hT F.entry_tuple_hash ?_<|F.args_tuple_hash_1 _;show wpAny _ _ (zd3 (.ref a) >>= _) _ _ s;refine zaa<|zd4 N hd ?_;refine zaa ?_;rw[<- zd5];refine zc0 _
  (λrest (c:Array Int) s'=>(rest=[v,.ref b]/\c=#[]/\s'=s)\/(rest=[.ref b]/\c=#[knd.hash k.1]/\s'={s with toks:=s.toks+1})\/(rest=[]/\c=#[knd.hash k.1,zcq knd k.2]/\s'={s with toks:=s.toks+(k.2.length+2)}))
  _ ?_ ?_ _ _ (.inl {rfl,rfl,rfl})
 .rintro x rest c s' (⟨e,rfl,rfl⟩|⟨e,rfl,rfl⟩|⟨e,_⟩)
  .cases e
   refine zaa<|knd.pyHash hi ?_
   first
    | exact zaf<|.inr<|.inl {rfl,rfl,rfl}
    | exact zaa<|zaf<|zaf<|.inr<|.inl {rfl,rfl,rfl}
  .cases e
   refine zaa<|wpAny_pyHash_tuple (knd:=knd) (ks:=k.2) ?_ M ?_
   .exact G
   .have e:({s with toks:=s.toks+1+(k.2.length+1)}:zac)={s with toks:=s.toks+(k.2.length+2)}:=by congr 1;lia
    show wpAny _ _ _ _ _ {s with toks:=s.toks+1+(k.2.length+1)};rw[e]
    first
     | exact zaf<|.inr<|.inr {rfl,rfl,rfl}
     | exact zaa<|zaf<|zaf<|.inr<|.inr {rfl,rfl,rfl}
  .cases e
 .rintro c s' (⟨e,_⟩|⟨e,_⟩|⟨e,rfl,rfl⟩)
  .cases e
  .cases e
  show wpAny _ _ (retInt<|zcp [knd.hash k.1,zcq knd k.2]) _ _ _;refine wpAny_ret_mkInt ?_;show wpAny _ _ (if(decide (-(2:Int)^63<=zcp [knd.hash k.1,zcq knd k.2]) && decide (zcp [knd.hash k.1,zcq knd k.2]<2^63))=ca then _ else _) Q E _;unfold vI reduceHash at h;by_cases z:(decide (-(2:Int)^63<=zcp [knd.hash k.1,zcq knd k.2]) && decide (zcp [knd.hash k.1,zcq knd k.2]<2^63))=ca
  .rw[ci z]
   rw[ci z]at h;exact zaf<|by simpa[Nat.add_assoc]using h
  .rw[cj z]
   rw[cj z]at h;exact zaa<|zbV<|zaf<|by simpa[Nat.add_assoc]using h
def yO{x y:K×List K}{a b:Addr}{P:Fin->zac->Prop}(hu:A.units<cLine)(hx:NestIs knd s.heap x a)(hy:NestIs knd s.heap y b)(h:P (.done<|.ret<|.bool<|decide (x=y)) s) :
  wpAny (model prog w) A (zb8.«tuple.__eq__» {[.ref a,.ref b],[]}) P E s:=by
 have G:=hy.typeIs;obtain⟨oa,na,va,ba,U,_,M,aa,F⟩:=hx;obtain⟨ob,nb,vb,bb,ab,_,N,ac,Y⟩:=hy;show wpAny _ _ (isInstance (.ref b) (.type "tuple") >>= _) _ _ s;refine zaa<|zcG G zd6 ?_;simp only[zb9,zbs,if_false];refine zaa<|zd4 U M ?_;refine zaa<|zd4 ab N ?_;refine zaa ?_;have ex:decide (x=y)=(decide (x.1=y.1) && decide (x.2=y.2)):=by
  rw[zc1,decide_eq_true_iff,zaS,decide_eq_true_iff,decide_eq_true_iff];exact{λe=>by rw[e];exact{rfl,rfl},λe=>Prod.ext e.1 e.2}
 rw[ex]at h;refine zc0 _
  (λrest r s'=>r.1=bz/\s'=s/\(rest=[(va,vb),(.ref ba,.ref bb)]\/(rest=[(.ref ba,.ref bb)]/\x.1=y.1)\/(rest=[]/\x.1=y.1/\x.2=y.2)))
  _ ?_ ?_ _ _ {rfl,rfl,.inl rfl}
 .rintro⟨u,v⟩ rest r s' ⟨W,rfl,e|⟨e,B⟩|⟨e,_⟩⟩
  .cases e
   refine zaa<|knd.eqBool (a:=x.1) (b:=y.1) aa ac ?_;by_cases z:x.1=y.1
   .rw[decide_eq_true z]
    simp only[zb9,zbs,if_false];exact zaf {rfl,rfl,.inr<|.inl {trivial,z}}
   .rw[decide_eq_false z]at h ⊢
    simp only[Bool.not_false,if_true];exact zaa<|zaf<|zaf<|zaf h
  .cases e
   refine zaa<|wpAny_eqBool_tuple (knd:=knd) hu F Y ?_;by_cases z:x.2=y.2
   .rw[decide_eq_true z]
    simp only[zb9,zbs,if_false];exact zaf {rfl,rfl,.inr<|.inr {trivial,B,z}}
   .rw[decide_eq_false z,Bool.and_false]at h
    rw[decide_eq_false z];simp only[Bool.not_false,if_true];exact zaa<|zaf<|zaf<|zaf h
  .cases e
 .rintro⟨r1,r2⟩ s' ⟨W,rfl,e|⟨e,_⟩|⟨_,B,e2⟩⟩
  .cases e
  .cases e
  simp only at W;subst W;refine zaf ?_;rw[decide_eq_true B,decide_eq_true e2]at h;exact h
def TC{x y:K×List K}{a b:Addr}{Q:Bool->zac->Prop}(G:A.units+1<cLine)(hx:NestIs knd s.heap x a)(B:NestIs knd s.heap y b)(h:Q (decide (x=y)) s) :
  wpAny (model prog w) A (eqBool (.ref a)<|.ref b) Q E s:=by
 unfold eqBool
 try with_reducible refine zbg ?_
 show wpAny _ _ (if(zax a == zax b)=ca then _ else _) Q E s;by_cases z:(zax a == zax b)=ca
 .rw[ci z]
  have e:a=b:=by have:=eq_of_beq z;injection this
  subst e;obtain rfl:=hx.inj B;exact zaa<|zbV<|zaf<|by simpa using h
 .rw[cj z]
  exact zaa (wpAny_richCompare_same_room (op:=.Eq) hx.typeIs B.typeIs F.slot_tuple_eq
   (zbo F.slot_tuple_eq hx.typeIs F.entry_tuple_eq (yO (show A.in1.units<cLine from G) hx B {_,rfl,(λe=>nomatch e),zcr h})<|F.args_tuple_eq_2 _ _) (by lia))
def JU(n:Nat){ks:List K}{a:Addr}{Q:Bool->zac->Prop}(M:IsTupleKey knd s.heap ks a)(h:Q ca s):wpAny (model prog w) A (eqIsQuiet (n+1)<|.ref a) Q E s:=by
 have hT:=M.typeIs;obtain⟨o,items,m,N,_,hd,hi⟩:=M;unfold eqIsQuiet;refine zaa<|zcZ hT F.slot_tuple_eq.lookup ?_;show wpAny _ _ (isInstance (.ref a) (.type "tuple") >>= _) _ _ s;refine zaa<|zcG hT zd6 ?_;simp only[zb9,zbs,if_false];refine zaa<|zbh N hd ?_;refine zaa ?_;show wpAny _ _ (forIn items _ _) _ _ s;rw[<- zd5];refine zc0 _ (λrest r s'=>r.1=bz/\s'=s/\∀v∈rest,carriedByValue v=ca) _ ?_ ?_ _ _ {rfl,rfl,hi.byValue}
 .rintro v rest r s' ⟨G,rfl,z⟩
  rw[eqIsQuiet_byValue _<|z v zar];refine zaa<|zaf ?_;simp only[zb9,zbs,if_false];exact zaf {rfl,rfl,λu B=>z u<|zaq _ B}
 .rintro⟨r1,r2⟩ s' ⟨G,rfl,_⟩
  simp only at G;subst G;exact zaf h
def DU{k:K×List K}{a:Addr}{Q:Bool->zac->Prop}(B:NestIs knd s.heap k a)(h:Q ca s):wpAny (model prog w) A (eqIsQuiet 8<|.ref a) Q E s:=by
 have hT:=B.typeIs;obtain⟨o,m,v,b,G,_,hd,hi,M⟩:=B;unfold eqIsQuiet;refine zaa<|zcZ hT F.slot_tuple_eq.lookup ?_;show wpAny _ _ (isInstance (.ref a) (.type "tuple") >>= _) _ _ s;refine zaa<|zcG hT zd6 ?_;simp only[zb9,zbs,if_false];refine zaa<|zbh G hd ?_;refine zaa ?_;show wpAny _ _ (forIn _ _ _) _ _ s;rw[<- zd5];refine zc0 _ (λrest r s'=>r.1=bz/\s'=s/\(rest=[v,.ref b]\/rest=[.ref b]\/rest=[])) _ ?_ ?_ _ _ {rfl,rfl,.inl rfl}
 .rintro u rest r s' ⟨z,rfl,e|e|e⟩
  .cases e
   rw[eqIsQuiet_byValue _<|knd.byValue _ _ hi];refine zaa<|zaf ?_;simp only[zb9,zbs,if_false];exact zaf {rfl,rfl,.inr<|.inl trivial}
  .cases e
   refine zaa<|JU _ M ?_;simp only[zb9,zbs,if_false];exact zaf {rfl,rfl,.inr<|.inr trivial}
  .cases e
 .rintro⟨r1,r2⟩ s' ⟨z,rfl,_⟩
  simp only at z;subst z;exact zaf h
end
def dE{prog:zai}{w:World}{K:Type}[DecidableEq K](knd:KeyKind prog w K):HeapKind prog w (K×List K) where
 is:=NestIs knd
 hash:=vI knd
 draws:=λk=>k.2.length+3
 room:=λA=>A.units+1<cLine
 inj:=λhx B=>hx.inj B
 keeps:=λx G hd hs=>x.keeps G hd hs
 pyHash:=λz F h=>KC z F h
 eqBool:=λz hx B h=>TC z hx B h
 quiet:=λF h=>DU F h
noncomputable abbrev kO:Addr:=282
noncomputable abbrev tbP:Pos:={218,26,218,64}
noncomputable abbrev LN:Str := "cheapest_choice.<locals>.<lambda>"
def QG(o:Obj):Prop:=∃vs t,o.data=.fields vs/\vs[1]?=bw (.str LN t)
inductive HO where
 | memo (dom:List<|Key×List Key) (f:Key×List Key->Option (Int×Int)) (p:Option<|Key×List Key)
 /-- a list -/
 | lst (xs:List V)
 /-- a tuple (never changes) -/
 | tup (xs:List V)
 /-- a dict whose keys are ints and texts;one whose keys are tuples of ints and texts (the empty one is both) -/
 | dK (kvs:List<|Key×V)|dT (kvs:List<|List Key×V)
 /-- a set of ints: its members, its size -/
 | set (S:Int->Bool) (n:Nat)
 /-- an instance of the class at C, its dict at dx, its attributes -/
 | ins (C dx:Addr) (fs:List<|Str×V)
 /-- the dict of the instance at x -/
 | own (x:Addr)
 /-- the dict of an exception -/
 | xd (fs:List<|Str×V)
 /-- a bound method, f of x -/
 | met (f x:Addr)
 /-- a range object lo, lo+1, .. below hi -/
 | rng (lo hi:Int)
 /-- a thing that is known to the object (the script;a dict while a loop walks it): read, never written while it is so -/
 | frz (o:Obj) (u:HO)
 /-- a code object's table -/
 | tbl (ps:Array Value)
 /-- any other thing, by what is true of its one object (a def of one's own: SetO a S n:=HO.ext λh => ..) -/
 | ext (φ:Heap->Prop)
abbrev Hp:=Addr->Option HO
noncomputable def upd(H:Hp)(a:Addr)(o:HO):Hp:=λb=>if b=a then bw o else H b
def MemV(H:Hp):Option (Int×Int)->Value->Prop
 |none,v=>v=.none
 |some p,v=>∃b,v=.ref b/\H b=bw (.tup [.int p.1,.int p.2])
def aJ:upd H a o a=bw o:=by unfold upd;rw[ci rfl]
def aG(h:b≠a):upd H a o b=H b:=by unfold upd;rw[cj h]
def Q4:upd (upd H a o) a u=upd H a u:=by
 funext b;unfold upd;split <;> rfl
def rW{H:Hp}{a b:Addr}{o u:HO}(h:H a=bw o)(h':H b=bw u)(d:o≠u):a≠b:=by
 intro e;subst e;rw[h]at h';exact d<|zaz h'
def aY{H:Hp}{a b:Addr}{o:HO}(h:H a=bw o)(h':H b=bz):a≠b:=by
 intro e;subst e;rw[h]at h';cases h'
section
variable (P:zai)(w:World)
def IsTupN(h:Heap)(a:Addr)(items:Array Value):Prop:=∃o,h.get? a=bw o/\o.cls=.type "tuple" /\ ∃n,o.data=.seq items n/\o.dict=bz
def IsTupN.tup{h:Heap}{a:Addr}{items:Array Value}(x:IsTupN h a items):IsTup h a items:=let ⟨o,e,c,n,d,_⟩:=x;⟨o,e,c,n,d⟩
theorem IsTupN.lt(x:IsTupN h a items):a<h.objs.size:=x.tup.lt
def IsTupN.new(h:Heap)(items:Array Value):IsTupN (h.push {cls:=.type "tuple",data:=.seq items}) h.objs.size items:={_,zaC _ rfl,rfl,_,rfl,rfl}
def ObjOk(H:Hp)(h:Heap)(a:Addr):HO->Prop
 |.lst xs=>xs.length<=zal/\∃(its:List Value) (n:Nat),Vals xs its/\h.get? a=bw {cls:=.type "list",data:=.seq its.toArray n}
 |.tup xs=>xs.length<=zal/\∃its:List Value,Vals xs its/\IsTupN h a its.toArray
 |.dK kvs=>kvs.length<=zal/\(a == za9)=cf/\∃vs,KV kvs vs/\h.DictOf (bE P w) a vs
 |.dT kvs=>kvs.length<=zal/\(a == za9)=cf/\∃xs:List (List Key×Addr×Value),
   Paired (λ(p:List Key×V) (q:List Key×Addr×Value)=>p.1=q.1/\H q.2.1=bw (.tup<|p.1.map kV)/\RelV p.2 q.2.2) kvs xs /\
   ∃o es ep,h.get? a=bw o/\o.ExactDict/\o.data=.dict es ep/\es.toList=xs.map (zcs<|zca<|bE P w)/\(xs.map (·.1)).Nodup
 |.set S n=>h.SetOf (intKind P w) a S n
 |.memo dom f p=>(a == za9)=cf/\∃xs:List ((Key×List Key)×Addr×Value),(∀x∈xs,x.1∈dom/\(∃b,H x.2.1=bw (.tup [kV x.1.1,.ref b])/\H b=bw (.tup<|x.1.2.map kV))/\MemV H (f x.1) x.2.2)/\(∀k,p=bw k->∃q,atKey xs k=bw q) /\
   ∃o es ep,h.get? a=bw o/\o.ExactDict/\o.data=.dict es ep/\es.toList=xs.map (zcs<|dE<|bE P w)/\(xs.map (·.1)).Nodup
 |.ins C dx fs=>H dx=bw (.own a)/\fs.length<=1000/\dx≠a/\h.get? a=bw (zcb C dx) /\
   ∃mA,h.Ns1 dx mA/\(∀f,RelO (fs.lookup f)<|mA f)/\PySem.Within mA (fs.map (·.1))
 |.own _=>∃o,h.get? a=bw o
 |.xd fs=>∃mA,h.Ns1 a mA/\∀f,RelO (fs.lookup f)<|mA f
 |.rng lo hi=>∃t u v,h.get? a=bw {cls:=.type "range",data:=.fields #[.int lo t,.int hi u,.int 1 v]}
 |.frz o u=>h.get? a=bw o/\ObjOk H h a u
 |.tbl _=>∃rl:Array Value,h.get? a=bw {cls:=.none,data:=.fields rl}/\TriplesOk rl.toList/\(codeAmong tbP rl.toList=bz\/∃c oc,codeAmong tbP rl.toList=bw (.ref c)/\H c=bw (.frz oc<|.own a)/\QG oc)
 |.met f x=>h.get? a=bw (zd7 (.ref f)<|.ref x)
 |.ext φ=>φ h/\(∃o,h.get? a=bw o)/\∀h1 h2:Heap,φ h1->(∀o,h1.get? a=bw o->h2.get? a=bw o)->φ h2
def HOk(H:Hp)(h:Heap):Prop:=∀a o,H a=bw o->ObjOk P w H h a o
end
section
variable {P:zai}{w:World}{H H':Hp}{h h':Heap}{a:Addr}{o:HO}
theorem ObjOk.lt(x:ObjOk P w H h a o):a<h.objs.size:=by
 cases o with
 |lst xs=>obtain⟨_,_,_,_,e⟩:=x;exact zao e
 |tup xs=>obtain⟨_,_,_,p⟩:=x;exact p.lt
 |dK kvs=>obtain⟨_,_,_,_,o,_,_,e,_⟩:=x;exact zao e
 |dT kvs=>obtain⟨_,_,_,_,o,_,_,e,_⟩:=x;exact zao e
 |set S n=>obtain⟨o,_,_,_,e,_⟩:=x;exact zao e
 |memo dom f p=>obtain⟨_,_,_,_,o,_,_,e,_⟩:=x;exact zao e
 |ins C dx fs=>obtain⟨_,_,_,e,_⟩:=x;exact zao e
 |own y=>obtain⟨_,e⟩:=x;exact zao e
 |xd fs=>obtain⟨_,⟨_,_,_,e,_⟩,_⟩:=x;exact zao e
 |rng lo hi=>obtain⟨_,_,_,e⟩:=x;exact zao e
 |frz ob u=>obtain⟨e,_⟩:=x;exact zao e
 |tbl ps=>obtain⟨_,e,_⟩:=x;exact zao e
 |met f y=>exact zao<|show h.get? a=bw _ from x
 |ext φ=>obtain⟨_,⟨_,e⟩,_⟩:=x;exact zao e
theorem Paired.mapP{z β:Type}{F G:z->β->Prop}:∀ {l₁:List z} {l₂:List β},Paired F l₁ l₂->(∀a b,F a b->G a b)->Paired G l₁ l₂
 |_,_,.nil,_=>.nil
 |_,_,.cons r t,f=>.cons (f _ _ r)<|Paired.mapP t f
def ObjOk.stay(x:ObjOk P w H h a o)(k:∀b u,(b=a\/H b=bw (.own a))->h.get? b=bw u->h'.get? b=bw u)
  (ho:∀b,H b=bw (.own a)->H' b=bw (.own a)) (M:∀b xs,H b=bw (.tup xs)->H' b=bw (.tup xs)) (U:∀b o u,H b=bw (.frz o u)->H' b=bw (.frz o u)):ObjOk P w H' h' a o:=by
 induction o with
 |lst xs=>obtain⟨z,F,n,r,e⟩:=x;exact{z,F,n,r,k _ _ (.inl rfl) e}
 |tup xs=>obtain⟨z,F,r,B,e,c⟩:=x;exact{z,F,r,B,k _ _ (.inl rfl) e,c}
 |dK kvs=>obtain⟨z,y,vs,r,B,es,ep,e,c⟩:=x;exact{z,y,vs,r,B,es,ep,k _ _ (.inl rfl) e,c}
 |dT kvs=>
  obtain⟨z,y,xs,r,B,es,ep,e,c⟩:=x;exact{z,y,xs,Paired.mapP r λp q z=>{z.1,M _ _ z.2.1,z.2.2},B,es,ep,k _ _ (.inl rfl) e,c}
 |set S n=>obtain⟨B,es,ep,t,e,c⟩:=x;exact{B,es,ep,t,k _ _ (.inl rfl) e,c}
 |memo dom f p=>
  obtain⟨y,xs,r,Y,B,es,ep,e,c⟩:=x;refine{y,xs,λx hx=>?_,Y,B,es,ep,k _ _ (.inl rfl) e,c};obtain⟨d,⟨b,q1,q2⟩,m⟩:=r x hx;refine{d,{b,M _ _ q1,M _ _ q2},?_};revert m;cases f x.1 with
  |none=>exact id
  |some p=>exact λ⟨c,N,G⟩=>{c,N,M _ _ G}
 |ins C dx fs=>
  obtain⟨d,z,W,e,mA,⟨od,es,ep,G,c⟩,r⟩:=x;exact{ho _ d,z,W,k _ _ (.inl rfl) e,mA,{od,es,ep,k _ _ (.inr d) G,c},r}
 |own y=>obtain⟨B,e⟩:=x;exact{B,k _ _ (.inl rfl) e}
 |xd fs=>obtain⟨mA,⟨od,es,ep,e,c⟩,r⟩:=x;exact{mA,{od,es,ep,k _ _ (.inl rfl) e,c},r}
 |rng lo hi=>obtain⟨t,u,v,e⟩:=x;exact{t,u,v,k _ _ (.inl rfl) e}
 |frz B u ih=>obtain⟨e,q⟩:=x;exact{k _ _ (.inl rfl) e,ih q}
 |tbl ps=>
  obtain⟨ps,e,t,r⟩:=x;refine{ps,k _ _ (.inl rfl) e,t,r.imp id ?_};rintro⟨c,oc,N,G,e3⟩;exact{c,oc,N,U _ _ _ G,e3}
 |met f y=>
  have e:h.get? a=bw (zd7 (.ref f)<|.ref y):=x;show h'.get? a=bw (zd7 (.ref f)<|.ref y);exact k a _ (.inl rfl) e
 |ext φ=>obtain⟨p,⟨o,e⟩,st⟩:=x;exact{st _ _ p λo q=>k _ _ (.inl rfl) q,{o,k _ _ (.inl rfl) e},st}
theorem HOk.lt(x:HOk P w H h)(e:H a=bw o):a<h.objs.size:=(x a o e).lt
def HOk.fresh(x:HOk P w H h)(e:h.objs.size<=a):H a=bz:=by
 cases q:H a with
 |none=>rfl
 |some u=>exact absurd (zaQ (x.lt q) e)<|zbt _
def HOk.kept(x:HOk P w H h)(k:∀b u,h.get? b=bw u->h'.get? b=bw u):HOk P w H h':=λa o e=>
 (x a o e).stay (λb u _ q=>k b u q) (λ_ q=>q) (λ_ _ q=>q) λ_ _ _ q=>q
def HOk.laid(x:HOk P w H h)(k:∀b u,h.get? b=bw u->h'.get? b=bw u)(F:h.objs.size<=a)(new:ObjOk P w (upd H a o) h' a o):HOk P w (upd H a o) h':=λb u e=>by
 have z:=x.fresh F;by_cases B:b=a
 .subst B;rw[aJ]at e;cases e;exact new
 .rw[aG B]at e
  exact(x b u e).stay (λc v _ q=>k c v q) (λc q=>by rw[aG<|aY q z];exact q) (λc xs q=>by rw[aG<|aY q z];exact q) λc _ _ q=>by rw[aG<|aY q z];exact q
end
def Rd(H:Hp)(a:Addr)(u:HO):Prop:=H a=bw u\/∃o,H a=bw (.frz o u)
def Rd.ok(r:Rd H a u)(x:HOk P w H h):ObjOk P w H h a u:=by
 rcases r with r|⟨o,r⟩
 .exact x a u r
 .obtain⟨_,q⟩:=x a _ r
  exact q
def Mut:Option HO->Prop
 |some (.lst _)=>True
 |some (.dK _)=>True
 |some (.dT _)=>True
 |some (.set _ _)=>True
 |some (.memo _ _ _)=>True
 |some (.ins _ _ _)=>True
 |some (.ext _)=>True
 |_=>False
section
variable {P:zai}{w:World}{H:Hp}{h h':Heap}{x e:Addr}{o':HO}
def HOk.write(ok:HOk P w H h)(G:Mut<|H x)(he:e=x\/H e=bw (.own x))(k:∀b u,b≠e->h.get? b=bw u->h'.get? b=bw u)(W:∃u,h'.get? e=bw u)
  (new:ObjOk P w (upd H x o') h' x o'):HOk P w (upd H x o') h':=λb u q=>by
 have F:∀c y,H c=bw (.own y)->c≠x:=λc y r z=>by subst z;rw[r]at G;exact G
 have M:∀c xs,H c=bw (.tup xs)->c≠x:=λc xs r z=>by subst z;rw[r]at G;exact G
 by_cases U:b=x
 .subst U;rw[aJ]at q;cases q;exact new
 .rw[aG U]at q
  by_cases B:b=e
  .have Y:H b=bw (.own x):=by
    rcases he with z|z
    .exact absurd (B.trans z) U
    .rw[B];exact z
   rw[q]at Y;cases Y;obtain⟨v,hv⟩:=W;exact{v,by rw[B];exact hv}
  .refine(ok b u q).stay (λc v N r=>k c v ?_ r) (λc r=>by rw[aG<|F c b r];exact r) (λc xs r=>by rw[aG<|M c xs r];exact r) λc _ _ r=>by rw[aG λz=>by subst z;rw[r]at G;exact G];exact r
   rcases N with rfl|N
   .exact B
   .rintro rfl
    rcases he with z|z
    .exact F c b N z
    .rw[N]at z;cases z;exact U rfl
end
structure Un(fs ex:List Addr)(H H':Hp)(h h':Heap):Prop where
 keep:∀b o,h.get? b=bw o->H b=bz->b∉fs->b∉ex->h'.get? b=bw o
 slot:∀b o,h.get? b=bw o->H b=bz->b∈fs->b∉ex->∃sl,h'.get? b=bw {o with slots:=sl}
 free:∀b o,h.get? b=bw o->H b=bz->b∉ex->H' b=bz
 there:∀b o,h.get? b=bw o->b∉ex->∃o',h'.get? b=bw o'
 tups:∀b xs,H b=bw (.tup xs)->H' b=bw (.tup xs)
 frzs:∀b o u,H b=bw (.frz o u)->H' b=bw (.frz o u)
 tbls:∀b ps,H b=bw (.tbl ps)->∃more,H' b=bw (.tbl<|ps++more)
section
variable {fs fs' ex ex':List Addr}{H H1 H2:Hp}{h h1 h2 h':Heap}{a x e:Addr}{o:HO}
def Un.any(u:Un fs ex H H1 h h1)(q:h.get? b=bw ob)(n:H b=bz)(hx:b∉ex):∃B,h1.get? b=bw {ob with slots:=B}:=by
 by_cases z:b∈fs
 .exact u.slot b ob q n z hx
 .exact{ob.slots,u.keep b ob q n z hx}
def Un.kept(k:∀b u,h.get? b=bw u->h'.get? b=bw u):Un fs ex H H h h':=
 {λb z q _ _ _=>k b z q,λb z q _ _ _=>{z.slots,k b z q},λ_ _ _ n _=>n,λb z q _=>⟨z,k b z q⟩,λ_ _ q=>q,λ_ _ _ q=>q,λ_ ps q=>{#[],by rw[q];simp}}
def Un.refl:Un fs ex H H h h:=Un.kept λ_ _ q=>q
def Un.laid(k:∀b u,h.get? b=bw u->h'.get? b=bw u)(B:h.objs.size<=a)(z:H a=bz):Un fs ex H (upd H a o) h h' where
 keep:=λb u q _ _ _=>k b u q
 slot:=λb u q _ _ _=>{u.slots,k b u q}
 free:=λb u q n _=>by rw[aG<|zaE<|zaQ (zao q) B];exact n
 there:=λb u q _=>{u,k b u q}
 tups:=λb xs q=>by rw[aG<|aY q z];exact q
 frzs:=λb u xs q=>by rw[aG<|aY q z];exact q
 tbls:=λb ps q=>{#[],by rw[aG<|aY q z,q];simp}
def Un.write(F:Mut<|H x)(U:e=x\/H e=bw (.own x))(k:∀b u,b≠e->h.get? b=bw u->h'.get? b=bw u)(G:∃u,h'.get? e=bw u):Un fs ex H (upd H x o) h h':=by
 have hx:∀b,H b=bz->b≠x:=λb n z=>by subst z;rw[n]at F;exact F
 have N:∀b,H b=bz->b≠e:=λb n z=>by
  subst z;rcases U with r|r
  .exact hx b n r
  .rw[n]at r;cases r
 have M:∀b u,H b=bw u->¬ Mut (bw u)->b≠x:=λb u q nm z=>by subst z;rw[q]at F;exact nm F
 refine⟨λb u q n _ _=>k b u (N b n) q,λb u q n _ _=>{u.slots,k b u (N b n) q},λb u q n _=>by rw[aG<|hx b n];exact n,λb u q _=>?_,
  λb xs q=>by rw[aG<|M b _ q λz=>z];exact q,λb u xs q=>by rw[aG<|M b _ q λz=>z];exact q,λb ps q=>{#[],by rw[aG<|M b _ q λz=>z,q];simp}⟩
 by_cases B:b=e
 .subst B;exact G
 .exact{u,k b u B q}
end
noncomputable def trk(h:Heap)(H:Hp):List Addr:=(zau h.objs.size).filter λa=>(H a).isSome
def AJ(h:Heap)(H:Hp):Heap:=PySem.W.hideAll h<|trk h H
def KJ(h:Heap)(H:Hp):(AJ h H).objs.size=h.objs.size:=PySem.W.hideAll_size _ _
def N9(e:h.get? b=bw o)(n:H b=bz):(AJ h H).get? b=bw o:=
 PySem.W.hideAll_get _ e λz=>by
  have q:(H b).isSome=ca:=(List.mem_filter.mp z).2;rw[n]at q;simp at q
def SX(e:(AJ h H).get? b=bw o):h.get? b=bw o/\H b=bz:=by
 have B:h.get? b=bw o:=PySem.W.of_hideAll (trk h H) e;refine{B,?_};cases q:H b with
 |none=>rfl
 |some x=>
  have F:b∈trk h H:=List.mem_filter.mpr {List.mem_range.mpr<|zao B,by simp[q]};have z:(AJ h H).get? b=bz:=PySem.W.hideAll_none (trk h H) F;rw[z]at e;cases e
noncomputable def SG(g h:Heap)(L:Addr):List<|Addr×Obj:=(zau h.objs.size).filterMap λa=>if a=L\/(g.get? a).isSome=ca then bz else(h.get? a).map λo=>(a,o)
def rest(g h:Heap)(L d:Addr):List<|Addr×Obj:=(SG g h L).filter λp=>decide (p.1≠d)
abbrev BmA(mg:Str->Option Value)(h:Heap):Prop:=∃bm ob,mg "__builtins__" = bw (.ref bm)/\bm≠zc2/\h.get? bm=bw ob/\ob.cls=.type "module" /\ ob.dict=bw zc2/\ob.data=.plain
structure Mod(K:zae)(mg:Str->Option Value)(base:Heap):Prop where
 kin:K.In base
 glob:base.Ns zaH mg
 blt:∃mb,base.Ns zc2 mb/\∀x:Str,x ≠ "__name__" -> mb x=zaI x
 nolimit:base.NoLimit
 bm:BmA mg base
structure Cx where
 prog:zai
 w:World
 K:zae
 mg:Str->Option Value
 base:Heap
 A:zan
 N:List Str
 s₀:zac
 H₀:Hp
 env:Env
 outer:List Env
 stack:List Env
 ex:List Addr
 fn:Str->Bool
 calm:Bool
 pn:List<|Addr×Obj
 xe:Value->zac->Prop
noncomputable def frs(l:List Env):List Addr:=l.filterMap (·.frame)
abbrev Cx.fs(X:Cx):List Addr:=frs X.outer
def Z7(sc:Scope)(x:Str):Prop:=sc.names.lookup x=bw .local\/sc.names.lookup x=bw .cell\/sc.names.lookup x=bw .free
def Loc(sc:Scope)(x:Str):Prop:=sc.names.lookup x=bw .local\/sc.names.lookup x=bw .cell
def Look(env:Env)(h:Heap)(m:Str->Option Value)(x:Str)(u:Value):Prop:=
 (env.kindOf x=bw .local/\m x=bw u)\/((env.kindOf x=bw .cell\/env.kindOf x=bw .free)/\∃c,env.cells.lookup x=bw c/\h.IsCell c (bw u))
structure Cx.Ok(X:Cx):Prop where
 mod:Mod X.K X.mg X.base
 kind:X.env.scope.kind=.function
 glob:X.env.globals=zaH
 blt:X.env.builtins=zc2
 above:X.s₀.heap.objs.size<=X.env.locals
 inj:∀x y c,X.env.cells.lookup x=bw c->X.env.cells.lookup y=bw c->x=y
 has:∀x,(X.env.kindOf x=bw .cell\/X.env.kindOf x=bw .free)->∃c,X.env.cells.lookup x=bw c
 cab:∀x c,X.fn x=ca->X.env.cells.lookup x=bw c->X.s₀.heap.objs.size<=c
 hd:X.calm=ca->X.A.handled=bz
 frames:X.A.frames=bw X.stack
 stk:X.stack=X.outer\/(X.stack=X.env::X.outer/\X.env.frame=bw X.env.locals)
 exf:∀b∈X.ex,b≠X.env.locals/\∀x c,X.env.cells.lookup x=bw c->c≠b
 bs:∀b o,X.base.get? b=bw o->X.s₀.heap.get? b=bw o/\X.H₀ b=bz
 bsz:X.base.objs.size<=X.s₀.heap.objs.size
 noex:∀b o,X.base.get? b=bw o->b∉X.ex
 exfs:∀b∈X.ex,b∉X.fs
 funs:X.s₀.heap.FunFrames X.base X.outer
 frf:∀b∈X.fs,X.H₀ b=bz
 tb:∃ps,X.H₀ kO=bw (.tbl ps)
structure Inv(X:Cx)(pins:List<|Addr×Obj)(σ:List<|Option V)(H:Hp)(s:zac):Prop where
 ok:X.Ok
 os:s.os=X.s₀.os
 bare:zbW s.gens
 base:Un X.fs X.ex X.H₀ H X.s₀.heap s.heap
 loc:∃m,s.heap.Ns X.env.locals m/\∀(i:Nat) (x:Str) (v:V),X.N[i]?=bw x->σ[i]?=bw (bw v)->Z7 X.env.scope x->∃u,RelV v u/\Look X.env s.heap m x u
 cell:∀x c,X.env.cells.lookup x=bw c->∃v,s.heap.IsCell c v
 free:H X.env.locals=bz
 freeC:∀x c,X.env.cells.lookup x=bw c->H c=bz
 pin:∀p∈X.pn++pins,s.heap.get? p.1=bw p.2/\H p.1=bz/\p.1≠X.env.locals/\p.1∉X.fs/\∀v,p.2.data≠.cell v
 hok:HOk X.prog X.w H s.heap
 len:σ.length=X.N.length
section
variable {X:Cx}{pins:List (Addr×Obj)}{σ:List (Option V)}{H H':Hp}{s:zac}{h':Heap}
def Cx.Ok.nofr(ok:X.Ok)(e:X.base.get? b=bw o):b∉X.fs:=λz=>by
 have:=(ok.funs.mem z).1;rw[e]at this;cases this
theorem Inv.bs(I:Inv X pins σ H s):∀b o,X.base.get? b=bw o->s.heap.get? b=bw o/\H b=bz:=λb o e=>
 {I.base.keep b o (I.ok.bs b o e).1 (I.ok.bs b o e).2 (I.ok.nofr e)<|I.ok.noex b o e,I.base.free b o (I.ok.bs b o e).1 (I.ok.bs b o e).2<|I.ok.noex b o e}
def Inv.bk(I:Inv X pins σ H s):∀b o,X.base.get? b=bw o->s.heap.get? b=bw o:=λb o e=>(I.bs b o e).1
theorem Inv.mod(I:Inv X pins σ H s):Mod X.K X.mg X.base:=I.ok.mod
def Inv.kIn(I:Inv X pins σ H s):X.K.In s.heap:=I.ok.mod.kin.keeps I.bk
theorem Inv.lt(I:Inv X pins σ H s):X.env.locals<s.heap.objs.size:=let ⟨_,hn,_⟩:=I.loc;hn.lt
def Inv.sz(I:Inv X pins σ H s):X.s₀.heap.objs.size<=s.heap.objs.size:=zaL I.ok.above<|zdp I.lt
def Inv.nofs(I:Inv X pins σ H s)(h:s.heap.objs.size<=a):a∉X.fs:=λB=>by
 obtain⟨_,o,z,_⟩:=I.ok.funs.mem B;exact absurd (zaQ (zao z)<|zaL I.sz h)<|zbt _
def Inv.cne(I:Inv X pins σ H s):∀x c,X.env.cells.lookup x=bw c->c≠X.env.locals:=λx c e z=>by
 obtain⟨v,o,G,hd⟩:=I.cell x c e;obtain⟨m,⟨o',es,ep,F,B,_⟩,_⟩:=I.loc;rw[z,F]at G;cases G;rw[B]at hd;cases hd
theorem Inv.funs(I:Inv X pins σ H s):s.heap.FunFrames X.base X.outer:=by
 have all:∀(l:List Env),(∀b∈frs l,b∈X.fs)->X.s₀.heap.FunFrames X.base l->s.heap.FunFrames X.base l:=by
  intro l;induction l with
  |nil=>intro _ _;trivial
  |cons env r ih=>
   intro hs M;obtain⟨U,⟨L,o,B,N,W,hd⟩,Y⟩:=M;have F:L∈X.fs:=hs L (by unfold frs;rw[zd8,B];exact zar);obtain⟨sl,e⟩:=I.base.slot L o W (I.ok.frf L F) F λz=>I.ok.exfs L z F
   exact{U,{L,_,B,N,e,hd},ih (λb G=>hs b<|by unfold frs;rw[zd8,B];exact zaq _ G) Y}
 exact all X.outer (λ_ G=>G) I.ok.funs
theorem Inv.stack(I:Inv X pins σ H s):s.heap.FunFrames X.base X.stack:=by
 rcases I.ok.stk with e|⟨e,B⟩
 .rw[e];exact I.funs
 .rw[e]
  obtain⟨m,z,_⟩:=I.loc;refine .cons (by rw[I.ok.kind];decide) B z ?_ I.funs;exact Heap.get?_none_of_le<|zaL I.ok.bsz I.ok.above
def Inv.stkSub(I:Inv X pins σ H s):∀b∈frs X.stack,b∈X.env.locals::X.fs:=λb z=>by
 rcases I.ok.stk with e|⟨e,B⟩
 .rw[e]at z;exact zaq _ z
 .rw[e]at z
  unfold frs at z;rw[zd8,B]at z;exact z
def Inv.stkFree(I:Inv X pins σ H s):∀b∈frs X.stack,H b=bz:=λb B=>by
 rcases List.mem_cons.mp (I.stkSub b B)with e|B
 .rw[e];exact I.free
 .obtain⟨_,o,F,_⟩:=I.ok.funs.mem B
  exact I.base.free b o F (I.ok.frf b B) λz=>I.ok.exfs b z B
def Inv.step{g':Array GenState}{t':Nat}{d':Drawn}{ch:List Addr}(I:Inv X pins σ H s)
  (M:∀b∈ch,(b∈X.ex\/X.s₀.heap.objs.size<=b)/\b≠X.env.locals/\(∀x c,X.env.cells.lookup x=bw c->c≠b)/\∀p∈X.pn++pins,p.1≠b)
  (F:∀b o,b≠X.env.locals->b∉X.fs->b∉ch->s.heap.get? b=bw o->H b=bz->h'.get? b=bw o)
  (W:∀b o,b≠X.env.locals->b∈X.fs->b∉ch->s.heap.get? b=bw o->H b=bz->∃sl,h'.get? b=bw {o with slots:=sl}) (free:∀b o,b∉ch->s.heap.get? b=bw o->H b=bz->H' b=bz)
  (there:∀b o,b∉ch->s.heap.get? b=bw o->∃o',h'.get? b=bw o')
  (ac:∀b xs,H b=bw (.tup xs)->H' b=bw (.tup xs)) (ae:∀b o u,H b=bw (.frz o u)->H' b=bw (.frz o u)) (ab:∀b ps,H b=bw (.tbl ps)->∃more,H' b=bw (.tbl<|ps++more))
  (ns:∀m,s.heap.Ns X.env.locals m->h'.Ns X.env.locals m) (ag:HOk X.prog X.w H' h') (hg:zbW g') :
  Inv X pins σ H' {s with heap:=h',gens:=g',drawn:=d',toks:=t'}:=by
 have af:∀b o,X.s₀.heap.get? b=bw o->b≠X.env.locals:=λb o e=>zaE<|zaQ (zao e) I.ok.above
 have U:∀b o,X.s₀.heap.get? b=bw o->b∉X.ex->b∉ch:=λb o e hx Y=>by
  rcases(M b Y).1 with z|z
  .exact hx z
  .exact absurd (zaQ (zao e) z)<|zbt _
 have B:∀x c,X.env.cells.lookup x=bw c->∀v,s.heap.IsCell c v->h'.IsCell c v:=by
  rintro x c e v ⟨o,ho,hd⟩;have G:c∉ch:=λz=>(M c z).2.2.1 x c e rfl
  by_cases hc:c∈X.fs
  .obtain⟨sl,q⟩:=W c o (I.cne x c e) hc G ho (I.freeC x c e)
   exact{_,q,hd}
  .exact{o,F c o (I.cne x c e) hc G ho<|I.freeC x c e,hd}
 refine{I.ok,I.os,hg,{λb o e n Y hx=>?_,λb o e n Y hx=>?_,λb o e n hx=>?_,λb o e hx=>?_,λb xs e=>ac b xs<|I.base.tups b xs e,λb o xs e=>ae b o xs<|I.base.frzs b o xs e,λb ps e=>?_},?_,λx c e=>?_,?_,λx c e=>?_,λp hp=>?_,ag,I.len}
 .exact F b o (af b o e) Y (U b o e hx) (I.base.keep b o e n Y hx)<|I.base.free b o e n hx
 .obtain⟨sl,N⟩:=I.base.slot b o e n Y hx
  obtain⟨ah,e2⟩:=W b _ (af b o e) Y (U b o e hx) N<|I.base.free b o e n hx;exact{ah,e2}
 .obtain⟨o',N⟩:=I.base.there b o e hx
  exact free b o' (U b o e hx) N<|I.base.free b o e n hx
 .obtain⟨o',N⟩:=I.base.there b o e hx
  exact there b o' (U b o e hx) N
 .obtain⟨m1,N⟩:=I.base.tbls b ps e
  obtain⟨m2,e2⟩:=ab b _ N;exact{m1++m2,by rw[e2,Array.append_assoc]}
 .obtain⟨m,hn,hl⟩:=I.loc
  refine{m,ns m hn,λi x v N e2 e3=>?_};obtain⟨u,r,l⟩:=hl i x v N e2 e3;refine{u,r,?_};rcases l with l|⟨k,c,e,z⟩
  .exact .inl l
  .exact .inr {k,c,e,B x c e _ z}
 .obtain⟨v,z⟩:=I.cell x c e
  exact{v,B x c e v z}
 .obtain⟨m,⟨o,_,_,ho,_⟩,_⟩:=I.loc
  exact free _ o (λz=>(M _ z).2.1 rfl) ho I.free
 .obtain⟨v,o,ho,hd⟩:=I.cell x c e
  exact free c o (λz=>(M c z).2.2.1 x c e rfl) ho<|I.freeC x c e
 .obtain⟨e,n,ne,nf,d⟩:=I.pin p hp
  have G:p.1∉ch:=λz=>(M p.1 z).2.2.2 p hp rfl
  exact{F p.1 p.2 ne nf G e n,free p.1 p.2 G e n,ne,nf,d}
def Inv.un{t':Nat}(I:Inv X pins σ H s)(u:Un X.fs [] H H' s.heap h')(F:HOk X.prog X.w H' h'):Inv X pins σ H' {s with heap:=h',toks:=t'}:=by
 obtain⟨m,⟨o,es,ep,U,r⟩,_⟩:=id I.loc;obtain⟨sl,Y⟩:=u.any U I.free (by simp);exact I.step (g':=s.gens) (d':=s.drawn) (ch:=[]) (λ_ z=>nomatch z) (λb o _ M _ e n=>u.keep b o e n M<|by simp) (λb o _ M _ e n=>u.slot b o e n M<|by simp) (λb o _ e n=>u.free b o e n<|by simp) (λb o _ e=>u.there b o e<|by simp) u.tups u.frzs u.tbls (λm' hm=>by
  obtain⟨o',G,N,B,W⟩:=hm;rw[U]at B;cases B;exact{_,G,N,Y,W}) F I.bare
def Inv.call{g':Array GenState}{t':Nat}{d':Drawn}{ch:List Addr}(I:Inv X pins σ H s)(u:Un (frs X.stack) ch H H' s.heap h')(M:HOk X.prog X.w H' h')(hg:zbW g')
  (G:∀b∈ch,(b∈X.ex\/X.s₀.heap.objs.size<=b)/\b≠X.env.locals/\(∀x c,X.env.cells.lookup x=bw c->c≠b)/\∀p∈X.pn++pins,p.1≠b) :
  Inv X pins σ H' {s with heap:=h',gens:=g',drawn:=d',toks:=t'}:=by
 obtain⟨m,⟨o,es,ep,Y,r⟩,_⟩:=id I.loc;obtain⟨sl,W⟩:=u.any Y I.free λz=>(G _ z).2.1 rfl
 exact I.step (ch:=ch) G (λb o W hb B e n=>u.keep b o e n (λz=>(List.mem_cons.mp<|I.stkSub b z).elim W hb) B) (λb o _ _ B e n=>u.any e n B) (λb o B e n=>u.free b o e n B) (λb o B e=>u.there b o e B) u.tups u.frzs u.tbls (λm' hm=>by
  obtain⟨o',N,U,F,r'⟩:=hm;rw[Y]at F;cases F;exact{_,N,U,W,r'}) M hg
def Inv.turned{t':Nat}{it:Addr}(I:Inv X pins σ H s)(k:∀b o,b≠it->s.heap.get? b=bw o->h'.get? b=bw o)(M:H it=bz)(G:it≠X.env.locals)
  (h1:it∈X.ex\/X.s₀.heap.objs.size<=it) (h2:∀x c,X.env.cells.lookup x=bw c->c≠it) (N:∀p∈X.pn++pins,p.1≠it):Inv X pins σ H {s with heap:=h',toks:=t'}:=by
 have F:∀b u,H b=bw u->b≠it:=λb u e z=>by rw[z,M]at e;cases e
 refine I.step (g':=s.gens) (d':=s.drawn) (ch:=[it]) (λb Y=>?_) (λb o _ _ B e _=>k b o (λz=>B<|by simp[z]) e) (λb o _ _ B e _=>{o.slots,k b o (λz=>B<|by simp[z]) e}) (λ_ _ _ _ n=>n)
  (λb o B e=>{o,k b o (λz=>B<|by simp[z]) e}) (λ_ _ e=>e) (λ_ _ _ e=>e) (λb ps e=>{#[],by rw[e];simp}) (λm W=>?_) (λb u e=>?_) I.bare
 .have e:b=it:=by simpa using Y
  subst e;exact{h1,G,h2,N}
 .obtain⟨o,es,ep,U,r⟩:=W
  exact{o,es,ep,k _ o (zaV G) U,r}
 .refine(I.hok b u e).stay (λc v B q=>k c v ?_ q) (λ_ q=>q) (λ_ _ q=>q) λ_ _ _ q=>q
  rcases B with z|z
  .rw[z];exact F b u e
  .exact F c _ z
def Inv.tok(I:Inv X pins σ H s)(t:Nat):Inv X pins σ H {s with toks:=t}:=I.un (h':=s.heap) (t':=t) Un.refl I.hok
theorem Inv.kept(I:Inv X pins σ H s)(k:∀b u,s.heap.get? b=bw u->h'.get? b=bw u):Inv X pins σ H {s with heap:=h',toks:=t'}:=I.un (Un.kept k)<|I.hok.kept k
theorem Inv.laid(I:Inv X pins σ H s)(k:∀b u,s.heap.get? b=bw u->h'.get? b=bw u)(z:s.heap.objs.size<=a)(new:ObjOk X.prog X.w (upd H a o) h' a o) :
  Inv X pins σ (upd H a o) {s with heap:=h',toks:=t'}:=I.un (Un.laid k z<|I.hok.fresh z)<|I.hok.laid k z new
theorem Inv.write(I:Inv X pins σ H s)(F:Mut<|H x)(B:e=x\/H e=bw (.own x))(k:∀b u,b≠e->s.heap.get? b=bw u->h'.get? b=bw u)(z:∃u,h'.get? e=bw u)
  (new:ObjOk X.prog X.w (upd H x o) h' x o):Inv X pins σ (upd H x o) {s with heap:=h',toks:=t'}:=I.un (Un.write F B k z)<|I.hok.write F B k z new
def Inv.pins_of(I:Inv X pins σ H s)(h:∀p∈pins',s.heap.get? p.1=bw p.2/\H p.1=bz/\p.1≠X.env.locals/\p.1∉X.fs/\∀v,p.2.data≠.cell v):Inv X pins' σ H s:=
 {I.ok,I.os,I.bare,I.base,I.loc,I.cell,I.free,I.freeC,λp B=>(List.mem_append.mp B).elim (λz=>I.pin p<|zbH _ z)<|h p,I.hok,I.len}
def A9{N:List Str}(F:N.Nodup){i j:Nat}{x:Str}(a:N[i]?=bw x)(b:N[j]?=bw x):i=j:=by
 obtain⟨h1,B⟩:=List.getElem?_eq_some_iff.mp a;obtain⟨h2,z⟩:=List.getElem?_eq_some_iff.mp b;exact(zd9 F).mp<|B.trans z.symm
def xJ{M:Model}{A:zan}{E:Value->zac->Prop}{i:Nat}{x:Str}{v:V}{u:Value}{Q:Unit->zac->Prop}(I:Inv X pins σ H s)(hN:X.N.Nodup)(hi:X.N[i]?=bw x)(hx:Loc X.env.scope x)(r:RelV v u)
  (h:∀s',Inv X pins (σ.set i<|bw v) H s'->(∃a,za6 a s.heap s'.heap/\(a=X.env.locals\/X.env.cells.lookup x=bw a))->Q () s') (hf:X.fn x=ca\/X.env.scope.names.lookup x=bw .local:=by first|exact .inl rfl|exact .inr rfl|assumption):wpAny M A (storeName X.env x u) Q E s:=by
 obtain⟨m,hn,hl⟩:=id I.loc;have ae:(X.env.scope.kind == .class || (X.env.scope.kind == .module && X.env.locals != X.env.globals))=cf:=by rw[I.ok.kind];rfl
 have aa:i<σ.length:=by rw[I.len];exact(List.getElem?_eq_some_iff.mp hi).1
 have cne:=I.cne;have F:∀ {a:Addr} {h':Heap},(∃o,s.heap.get? a=bw o/\H a=bz)->za6 a s.heap h'->HOk X.prog X.w H h':=λ{a h'} ha hs b ob e=>by
  obtain⟨_,_,U⟩:=ha;refine(I.hok b ob e).stay (λc w' G q=>(hs.2 c ?_).trans q) (λ_ q=>q) (λ_ _ q=>q) λ_ _ _ q=>q
  rintro rfl;rcases G with rfl|G
  .rw[U]at e;cases e
  .rw[U]at G;cases G
 rcases hx with Y|Y
 .refine wpAny_storeName_local Y hn (λh' aq hs=>?_) ae
  obtain⟨oL,_,_,ar,_⟩:=id hn;refine h _ {I.ok,I.os,I.bare,{λb o e n hb hx=>?_,λb o e n hb hx=>?_,I.base.free,λb o e hx=>?_,I.base.tups,I.base.frzs,I.base.tbls},{_,aq,λj y v' B W e3=>?_},λy c e=>?_,I.free,I.freeC,λp hp=>?_,F {oL,ar,I.free} hs,by simpa using I.len} {_,hs,.inl rfl}
  .exact(hs.2 b<|zaE<|zaQ (zao e) I.ok.above).trans<|I.base.keep b o e n hb hx
  .obtain⟨sl,B⟩:=I.base.slot b o e n hb hx
   exact{sl,(hs.2 b<|zaE<|zaQ (zao e) I.ok.above).trans B}
  .obtain⟨o',B⟩:=I.base.there b o e hx
   exact{o',(hs.2 b<|zaE<|zaQ (zao e) I.ok.above).trans B}
  .by_cases hj:j=i
   .subst hj
    rw[hi]at B;cases B;rw[zcH aa]at W;cases W;exact{u,r,.inl {Y,by simp}}
   .rw[zbI<|zaV hj]at W
    obtain⟨u',r',q⟩:=hl j y v' B W e3;refine{u',r',?_};rcases q with⟨k,e⟩|⟨k,c,e,z⟩
    .refine .inl {k,?_}
     have:y≠x:=λe=>hj<|A9 hN B<|e ▸ hi
     simp[this,e]
    .exact .inr {k,c,e,z.sameBut hs<|cne y c e}
  .obtain⟨w',z⟩:=I.cell y c e
   exact{w',z.sameBut hs<|cne y c e}
  .obtain⟨e,n,ne,nf,d⟩:=I.pin p hp
   exact{(hs.2 p.1 ne).trans e,n,ne,nf,d}
 .have ab:X.fn x=ca:=by
   rcases hf with z|z
   .exact z
   .rw[z]at Y;cases Y
  obtain⟨c,G⟩:=I.ok.has x<|.inl Y;obtain⟨w',z⟩:=I.cell x c G;refine wpAny_storeName_cell I.ok.kind Y G z λh' ag hs=>?_;obtain⟨oc,af,ah⟩:=id z;refine h {s with heap:=h'} {I.ok,I.os,I.bare,{λb o e n hb hx=>?_,λb o e n hb hx=>?_,I.base.free,λb o e hx=>?_,I.base.tups,I.base.frzs,I.base.tbls},{m,hn.sameBut hs<|zaV<|cne x c G,λj y v' B W e3=>?_},λy c' e=>?_,I.free,I.freeC,λp hp=>?_,F {oc,af,I.freeC x c G} hs,by simpa using I.len} {c,hs,.inr G}
  .exact(hs.2 b<|zaE<|zaQ (zao e)<|I.ok.cab x c ab G).trans<|I.base.keep b o e n hb hx
  .obtain⟨sl,B⟩:=I.base.slot b o e n hb hx
   exact{sl,(hs.2 b<|zaE<|zaQ (zao e)<|I.ok.cab x c ab G).trans B}
  .obtain⟨o',B⟩:=I.base.there b o e hx
   exact{o',(hs.2 b<|zaE<|zaQ (zao e)<|I.ok.cab x c ab G).trans B}
  .by_cases hj:j=i
   .subst hj
    rw[hi]at B;cases B;rw[zcH aa]at W;cases W;exact{u,r,.inr {.inl Y,c,G,ag}}
   .rw[zbI<|zaV hj]at W
    obtain⟨u',r',q⟩:=hl j y v' B W e3;refine{u',r',?_};rcases q with q|⟨k,c',e,z'⟩
    .exact .inl q
    .refine .inr {k,c',e,z'.sameBut hs ?_}
     rintro rfl;exact hj<|A9 hN B<|I.ok.inj _ _ _ e G ▸ hi
  .by_cases ai:c'=c
   .subst ai;exact{_,ag}
   .obtain⟨w2,z2⟩:=I.cell y c' e
    exact{w2,z2.sameBut hs ai}
  .obtain⟨e,n,ne,nf,d⟩:=I.pin p hp
   refine{(hs.2 p.1 ?_).trans e,n,ne,nf,d};intro q;rw[q,af]at e;have q':oc=p.2:=zaz e;exact d w'<|by rw[<- q'];exact ah
def B9(I:Inv X pins σ H s)(B:X.N.Nodup)(hi:X.N[i]?=bw x)(hx:Loc X.env.scope x)(r:RelV v u)
  (h:∀s',Inv X pins (σ.set i<|bw v) H s'->Q () s') (z:X.fn x=ca\/X.env.scope.names.lookup x=bw .local:=by first|exact .inl rfl|exact .inr rfl|assumption):wpAny M A (storeName X.env x u) Q E s:=
 xJ I B hi hx r (λs' F _=>h s' F) z
def Inv.call'(I:Inv X pins σ H s)(G:s'.os=s.os)(u:Un (frs X.stack) ch H H' s.heap s'.heap)(z:HOk X.prog X.w H' s'.heap)(F:zbW s'.gens)
  (B:∀b∈ch,(b∈X.ex\/X.s₀.heap.objs.size<=b)/\b≠X.env.locals/\(∀x c,X.env.cells.lookup x=bw c->c≠b)/\∀p∈X.pn++pins,p.1≠b):Inv X pins σ H' s':=by
 obtain⟨h',g',d',t',o'⟩:=s';have e:o'=s.os:=G;subst e;exact I.call (g':=g') (t':=t') (d':=d') u z F B
end
abbrev XK:=Value->Option Addr->Hp->Prop
abbrev St:=List<|Option V
abbrev VK:=V->Hp->Prop
abbrev TE:=St->Hp->VK->Prop
abbrev TT:=St->Hp->(Bool->Hp->Prop)->Prop
abbrev TA:=St->Hp->(List V->Hp->Prop)->Prop
structure Ends where
 nx:St->Hp->Prop
 rt:VK
 bk:St->Hp->Prop:=λ_ _=>False
 ct:St->Hp->Prop:=λ_ _=>False
abbrev TS:=Ends->St->Hp->Prop
inductive EP(X:Cx)(pins:List<|Addr×Obj)(σ:St)(Q:VK)(u:Value)(s':zac):Prop
 | mk (v:V) (H':Hp) (i:Inv X pins σ H' s') (r:RelV v u) (q:Q v H'):EP X pins σ Q u s'
inductive TP(X:Cx)(pins:List<|Addr×Obj)(σ:St)(Q:Bool->Hp->Prop)(b:Bool)(s':zac):Prop
 | mk (H':Hp) (i:Inv X pins σ H' s') (q:Q b H'):TP X pins σ Q b s'
inductive AP(X:Cx)(pins:List<|Addr×Obj)(σ:St)(Q:List V->Hp->Prop)(us:List Value)(s':zac):Prop
 | mk (vs:List V) (H':Hp) (i:Inv X pins σ H' s') (r:Vals vs us) (q:Q vs H'):AP X pins σ Q us s'
def SP(X:Cx)(pins:List<|Addr×Obj)(D:Ends)(f:Flow)(s':zac):Prop:=
 match f with
 |.next=>∃σ' H',Inv X pins σ' H' s'/\D.nx σ' H'
 |.brk=>∃σ' H',Inv X pins σ' H' s'/\D.bk σ' H'
 |.cont=>∃σ' H',Inv X pins σ' H' s'/\D.ct σ' H'
 |.ret u=>∃v σ' H',Inv X pins σ' H' s'/\RelV v u/\D.rt v H'
def PE(X:Cx)(e:Expr)(t:TE):Prop:=
 ∀(pins:List<|Addr×Obj) (s:zac) (σ:St) (H:Hp) (Q:VK),Inv X pins σ H s->t σ H Q->wpAny (model X.prog X.w) X.A (eval e X.env) (EP X pins σ Q) X.xe s
def PT(X:Cx)(e:Expr)(t:TT):Prop:=
 ∀(pins:List<|Addr×Obj) (s:zac) (σ:St) (H:Hp) (Q:Bool->Hp->Prop),Inv X pins σ H s->t σ H Q->wpAny (model X.prog X.w) X.A (isTrue e X.env<|eval e X.env) (TP X pins σ Q) X.xe s
def PW(X:Cx)(e:Expr)(t:TT):Prop:=
 ∀(whole:Sem Value) (pins:List<|Addr×Obj) (s:zac) (σ:St) (H:Hp) (Q:Bool->Hp->Prop),Inv X pins σ H s->t σ H Q->wpAny (model X.prog X.w) X.A (isTrue e X.env whole) (TP X pins σ Q) X.xe s
def PW.pt{X:Cx}{e:Expr}{t:TT}(h:PW X e t):PT X e t:=h _
def PA(X:Cx)(es:List Expr)(t:TA):Prop:=
 ∀(pos:Pos) (pins:List<|Addr×Obj) (s:zac) (σ:St) (H:Hp) (Q:List V->Hp->Prop),Inv X pins σ H s->t σ H Q->wpAny (model X.prog X.w) X.A (spliced<|zaJ pos<|zag es X.env) (AP X pins σ Q) X.xe s
def PS(X:Cx)(st:Stmt)(t:TS):Prop:=
 ∀(pins:List<|Addr×Obj) (s:zac) (σ:St) (H:Hp) (D:Ends),Inv X pins σ H s->t D σ H->wpAny (model X.prog X.w) X.A (exec st X.env) (SP X pins D) X.xe s
def PSs(X:Cx)(st:List Stmt)(t:TS):Prop:=
 ∀(pins:List<|Addr×Obj) (s:zac) (σ:St) (H:Hp) (D:Ends),Inv X pins σ H s->t D σ H->wpAny (model X.prog X.w) X.A (execs st X.env) (SP X pins D) X.xe s
def c8{z:Type}{t:Sem z}{Q B:z->zac->Prop}{M:Model}{A:zan}{E:Value->zac->Prop}{s:zac}(h:wpAny M A t Q E s)(F:∀a s,Q a s->B a s):wpAny M A t B E s:=za7 h F λ_ _ x=>x
section
variable {X:Cx}
def dI(i:Nat):TE:=λσ H Q=>∃v,σ[i]?=bw (bw v)/\Q v H
def tC(v:V):TE:=λ_ H Q=>Q v H
def XB(Y:X.N[i]?=bw x)(W:Z7 X.env.scope x)(hd:(x == ("__debug__" : Str))=cf:=by decide)(F:(x == ("__classdict__" : Str))=cf:=by decide):PE X (.Name x pos)<|dI i:=by
 intro pins s σ H Q I h;obtain⟨v,e,h⟩:=h;obtain⟨m,U,M⟩:=I.loc;obtain⟨u,r,l⟩:=M i x v Y e W;have fin:EP X pins σ Q u s:={v,H,I,r,h};rcases l with⟨B,hm⟩|⟨B,c,G,z⟩
 .exact wpAny_Name (wpAny_loadName_local I.ok.kind B U hm fin) hd
 .rcases B with B|B
  .exact wpAny_Name (wpAny_loadName_cell I.ok.kind B G z fin) hd
  .exact wpAny_Name (wpAny_loadName_free I.ok.kind B G z fin F) hd
def ZD{i j pos}:PE X (.Constant (.int i) j pos)<|tC<|.int i:=λ_ _ _ H _ I h=>wpAny_Constant_int {.int i,H,I.tok _,{_,rfl},h}
def qq{b j pos}:PE X (.Constant (.bool b) j pos)<|tC<|.bl b:=λ_ _ _ H _ I h=>Constant_bool {.bl b,H,I,rfl,h}
def W2{j pos}:PE X (.Constant .none j pos)<|tC .non:=λ_ _ _ H _ I h=>Constant_none {.non,H,I,rfl,h}
def X3{x j pos}:PE X (.Constant (.str x) j pos)<|tC<|.str x:=λ_ _ _ H _ I h=>Calls.Constant_str {.str x,H,I.tok _,{_,rfl},h}
def Gl(X:Cx)(x:Str):Prop:=X.env.kindOf x=bw .globalImplicit
def GC(I:Inv X pins σ H s)(z:Gl X x)(B:X.mg x=bw u)(h:Q u s)
  (hd:(x == ("__debug__" : Str))=cf:=by decide):wpAny (model X.prog X.w) X.A (eval (.Name x pos) X.env) Q E s:=
 Calls.Name_function_global I.ok.kind z (Calls.loadGlobal_global (by rw[I.ok.glob];exact I.mod.glob.keeps I.bk) B h) hd
def l7{E:Value->zac->Prop}{pins:List (Addr×Obj)}{s:zac}{σ:St}{H:Hp}{x:Str}{u:Value}{pos:Pos}{Q:Value->zac->Prop}(I:Inv X pins σ H s)(F:Gl X x)(G:X.mg x=bz)(B:zaI x=bw u)(h:Q u s)
  (z:x ≠ "__name__" := by decide) (hd:(x == ("__debug__" : Str))=cf:=by decide):wpAny (model X.prog X.w) X.A (eval (.Name x pos) X.env) Q E s:=by
 obtain⟨M,h1,h2⟩:=I.mod.blt;exact Calls.Name_function_global I.ok.kind F (Calls.loadGlobal_builtin (by rw[I.ok.glob];exact I.mod.glob.keeps I.bk) G (by rw[I.ok.blt];exact h1.keeps I.bk) ((h2 x z).trans B) h) hd
def RZ(z:Gl X x)(G:X.mg x=bz)(F:zaI x=bw u)(r:RelV v u)(B:x ≠ "__name__" := by decide)(hd:(x == ("__debug__" : Str))=cf:=by decide):PE X (.Name x pos)<|tC v:=
 λ_ _ _ H _ I h=>l7 I z G F {v,H,I,r,h} B hd
variable {a b:Expr}{ta tb:TE}{pos:Pos}
def PC(X:Cx)(op:CmpOp)(a b:Expr)(t:TE):Prop:=
 ∀(pins:List<|Addr×Obj) (s:zac) (σ:St) (H:Hp) (Q:VK),Inv X pins σ H s->t σ H Q->
  wpAny (model X.prog X.w) X.A (eval a X.env) (λv B=>wpAny (model X.prog X.w) X.A (eval b X.env) (λu z=>wpAny (model X.prog X.w) X.A (zaA op v u) (EP X pins σ Q) X.xe z) X.xe B) X.xe s
def tB(t:TE):TT:=λσ H Q=>t σ H λx H1=>∃c,x=.bl c/\Q c H1
def WQ{op:CmpOp}{t:TE}(h:PC X op a b t)(h1:zbX op b=cf:=by first|exact nobehind _ (by decide) (by decide)|rfl):PT X (.Compare a [op] [b] pos)<|tB t:=by
 intro pins s σ H Q I hw;refine wpAny_isTrue_Compare1 (c8 (h pins s σ H _ I hw) λv G h1=>c8 h1 λu M h2=>c8 h2 λc F ⟨x,H1,z,r1,B⟩=>?_) h1;obtain⟨d,rfl,q⟩:=B;cases r1;exact zcr {H1,z,q}
def YD{e:Expr}{t:TE}(h:PE X e t)(G:∀z,isTrue e X.env z=(do let v <- z;standAt e.pos;zbJ [v]<|truthy v):=by intro _;rfl):PT X e<|tB t:=by
 intro pins s σ H Q I hw;refine isTrue_plain (c8 (h pins s σ H _ I hw) λv M ⟨x,H1,B,r1,F⟩=>?_)<|G _;obtain⟨d,rfl,q⟩:=F;cases r1;exact zcr {H1,B,q}
variable {tA tB':TT}{rest:List Expr}
def qcq(t u:TT):TT:=λσ H Q=>t σ H λc H1=>if c=ca then u σ H1 Q else Q cf H1
def tOr(t u:TT):TT:=λσ H Q=>t σ H λc H1=>if c=ca then Q ca H1 else u σ H1 Q
def qbO(t:TT):TT:=λσ H Q=>t σ H λc H1=>Q (!c) H1
def T2(z:PT X a tA):PW X (.BoolOp .And [a] pos) tA:=by
 intro B pins s σ H Q I h;refine isTrue_and<|c8 (z pins s σ H Q I h) λc F e=>?_;cases c with
 |true=>exact isTrue_and_nil e
 |false=>exact e
def XH(z:PT X a tA):PW X (.BoolOp .Or [a] pos) tA:=by
 intro B pins s σ H Q I h;refine isTrue_or<|c8 (z pins s σ H Q I h) λc F e=>?_;cases c with
 |false=>exact isTrue_or_nil e
 |true=>exact e
def WL(F:PT X a tA)(N:PW X (.BoolOp .And (b::rest) pos) tB'):PW X (.BoolOp .And (a::b::rest) pos)<|qcq tA tB':=by
 intro M pins s σ H Q I h;refine isTrue_and<|c8 (F pins s σ H _ I h) λc G ⟨H1,z,B⟩=>?_;cases c with
 |true=>exact N M pins G σ H1 Q z B
 |false=>exact{H1,z,B}
def qaI(F:PT X a tA)(N:PW X (.BoolOp .Or (b::rest) pos) tB'):PW X (.BoolOp .Or (a::b::rest) pos)<|tOr tA tB':=by
 intro M pins s σ H Q I h;refine isTrue_or<|c8 (F pins s σ H _ I h) λc G ⟨H1,z,B⟩=>?_;cases c with
 |true=>exact{H1,z,B}
 |false=>exact N M pins G σ H1 Q z B
def YS(z:PT X a tA):PT X (.UnaryOp .Not a pos)<|qbO tA:=by
 intro pins s σ H Q I h;exact isTrue_not<|c8 (z pins s σ H (λc H1=>Q (!c) H1) I h) λ_ _ ⟨H',i,q⟩=>⟨H',i,q⟩
def qaN(ta tb:TE):TE:=λσ H Q=>ta σ H λx H1=>∃c,x=.bl c/\if c=ca then tb σ H1 Q else Q (.bl cf) H1
def qaF(ta:TE):TE:=λσ H Q=>ta σ H λx H1=>∃c,x=.bl c/\Q (.bl<|!c) H1
def ZH{op}(h:PE X a t):PE X (.BoolOp op [a] pos) t:=λpins s σ H Q I hw=>BoolOp_one<|h pins s σ H Q I hw
def X4(F:PE X a ta)(M:PE X (.BoolOp .And (b::rest) pos) tb):PE X (.BoolOp .And (a::b::rest) pos)<|qaN ta tb:=by
 intro pins s σ H Q I h;refine BoolOp_and<|c8 (F pins s σ H _ I h) λv G ⟨x,H1,B,r1,z⟩=>?_;obtain⟨c,rfl,z⟩:=z;cases r1;refine zcr ?_;cases c with
 |true=>exact M pins G σ H1 Q B z
 |false=>exact{.bl cf,H1,B,rfl,z}
def WV(F:PE X a ta):PE X (.UnaryOp .Not a pos)<|qaF ta:=by
 intro pins s σ H Q I h;refine UnaryOp_<|c8 (F pins s σ H _ I h) λv G ⟨x,H1,B,r1,z⟩=>?_;obtain⟨c,rfl,z⟩:=z;cases r1;exact not_of<|zcr {.bl<|!c,H1,B,rfl,z}
def tIf(t:TT)(ta tb:TE):TE:=λσ H Q=>t σ H λc H1=>if c=ca then ta σ H1 Q else tb σ H1 Q
def NA{c:Expr}(G:PT X c tA)(M:PE X a ta)(N:PE X b tb):PE X (.IfExp c a b pos)<|tIf tA ta tb:=by
 intro pins s σ H Q I h;refine wpAny_IfExp<|c8 (G pins s σ H _ I h) λd B ⟨H1,z,F⟩=>?_;cases d with
 |true=>exact M pins B σ H1 Q z F
 |false=>exact N pins B σ H1 Q z F
end
def SqL(K:zae)(H:Hp)(a:Addr)(xs:List V):Prop:=
 Rd H a (.lst xs) \/
  ∃(o:Obj) (its:Array Value) (n:Nat),K.lookup a=bw o/\o.cls=.type "list" /\ o.dict=bz/\o.data=.seq its n/\its.size<=zal/\Vals xs its.toList
def SqT(K:zae)(H:Hp)(a:Addr)(xs:List V):Prop:=
 Rd H a (.tup xs) \/
  ∃(o:Obj) (its:Array Value) (n:Nat),K.lookup a=bw o/\o.cls=.type "tuple" /\ o.data=.seq its n/\its.size<=zal/\Vals xs its.toList
noncomputable def qbS:Value->Option V
 |.none=>bw .non
 |.bool b=>bw<|.bl b
 |.int i _=>bw<|.int i
 |.str x _=>bw<|.str x
 |.bytes b _=>bw<|.byt b
 |.float b _=>bw<|.flt b
 |.ref a=>bw<|.ref a
 |.type n=>bw<|.ty n
 |_=>bz
def RelV.abs(r:RelV x u):qbS u=bw x:=by
 cases x with
 |non=>cases r;rfl
 |bl _=>cases r;rfl
 |int _=>obtain⟨t,rfl⟩:=r;rfl
 |str _=>obtain⟨t,rfl⟩:=r;rfl
 |byt _=>obtain⟨t,rfl⟩:=r;rfl
 |flt _=>obtain⟨t,rfl⟩:=r;rfl
 |ref _=>cases r;rfl
 |ty _=>cases r;rfl
def RelV.inj(r:RelV x u)(q:RelV y u):x=y:=zaz<|r.abs.symm.trans q.abs
theorem Vals.inj:∀ {xs ys:List V} {us:List Value},Vals xs us->Vals ys us->xs=ys
 |_,_,_,.nil,.nil=>rfl
 |_,_,_,.cons r t,.cons r' t'=>by rw[r.inj r',Vals.inj t t']
section
variable {X:Cx}{pins:List (Addr×Obj)}{σ:St}{H:Hp}{s:zac}{a:Addr}{xs ys:List V}
def SqL.of{K:zae}(h:H a=bw (.lst xs)):SqL K H a xs:=.inl<|.inl h
def Inv.list(I:Inv X pins σ H s)(h:SqL X.K H a xs):∃B:List Value,Vals xs B/\PlainL s.heap a B.toArray/\xs.length<=zal:=by
 rcases h with h|⟨o,B,n,F,G,hd,hs,M,r⟩
 .obtain⟨z,B,n,r,e⟩:=h.ok I.hok
  exact{B,r,{_,n,e,rfl,rfl,rfl},z}
 .refine{B.toList,r,{o,n,I.kIn a o F,G,hd,by simpa using hs},?_}
  have e:=r.length;simp only[zbY]at e
  lia
def Inv.tuple(I:Inv X pins σ H s)(h:SqT X.K H a xs):∃B:List Value,Vals xs B/\IsTup s.heap a B.toArray/\xs.length<=zal:=by
 rcases h with h|⟨o,B,n,F,G,hs,M,r⟩
 .obtain⟨z,B,r,p⟩:=h.ok I.hok
  exact{B,r,p.tup,z}
 .refine{B.toList,r,{o,I.kIn a o F,G,n,by simpa using hs},?_}
  have e:=r.length;simp only[zbY]at e
  lia
def Inv.list_inj(I:Inv X pins σ H s)(h:SqL X.K H a xs)(h':SqL X.K H a ys):xs=ys:=by
 obtain⟨z,r,⟨o,n,e,_,_,d⟩,_⟩:=I.list h;obtain⟨its',F,⟨o',G,B,_,_,d'⟩,_⟩:=I.list h';rw[e]at B;cases B;rw[d]at d';injection d' with d1 _
 have:z=its':=by simpa using congrArg Array.toList d1
 subst this;exact r.inj F
def Inv.tuple_inj(I:Inv X pins σ H s)(h:SqT X.K H a xs)(h':SqT X.K H a ys):xs=ys:=by
 obtain⟨z,r,⟨o,e,_,n,d⟩,_⟩:=I.tuple h;obtain⟨its',F,⟨o',B,_,G,d'⟩,_⟩:=I.tuple h';rw[e]at B;cases B;rw[d]at d';injection d' with d1 _
 have:z=its':=by simpa using congrArg Array.toList d1
 subst this;exact r.inj F
end
noncomputable abbrev Cx.wish(X:Cx)(E:Value->zac->Prop):Cx:={X with xe:=E}
abbrev Cx.nox(X:Cx):Cx:=X.wish λ_ _=>False
theorem Cx.Ok.wish{X:Cx}(ok:X.Ok)(E:Value->zac->Prop):(X.wish E).Ok:=
 {ok.mod,ok.kind,ok.glob,ok.blt,ok.above,ok.inj,ok.has,ok.cab,ok.hd,ok.frames,ok.stk,ok.exf,ok.bs,ok.bsz,ok.noex,ok.exfs,ok.funs,ok.frf,ok.tb}
def Cx.Ok.unwish{X:Cx}{E:Value->zac->Prop}(ok:(X.wish E).Ok):X.Ok:=
 {ok.mod,ok.kind,ok.glob,ok.blt,ok.above,ok.inj,ok.has,ok.cab,ok.hd,ok.frames,ok.stk,ok.exf,ok.bs,ok.bsz,ok.noex,ok.exfs,ok.funs,ok.frf,ok.tb}
section
variable {X:Cx}{pins:List (Addr×Obj)}{σ:St}{H:Hp}{s:zac}{E:Value->zac->Prop}
theorem Inv.wish(I:Inv X pins σ H s)(E:Value->zac->Prop):Inv (X.wish E) pins σ H s:={I.ok.wish E,I.os,I.bare,I.base,I.loc,I.cell,I.free,I.freeC,I.pin,I.hok,I.len}
theorem Inv.unwish(I:Inv (X.wish E) pins σ H s):Inv X pins σ H s:={I.ok.unwish,I.os,I.bare,I.base,I.loc,I.cell,I.free,I.freeC,I.pin,I.hok,I.len}
theorem SP.unwish(h:SP (X.wish E) pins D f s'):SP X pins D f s':=by
 cases f with
 |next=>obtain⟨z,H',I,q⟩:=h;exact{z,H',I.unwish,q}
 |brk=>obtain⟨z,H',I,q⟩:=h;exact{z,H',I.unwish,q}
 |cont=>obtain⟨z,H',I,q⟩:=h;exact{z,H',I.unwish,q}
 |ret u=>obtain⟨v,z,H',I,r,q⟩:=h;exact{v,z,H',I.unwish,r,q}
theorem PSs.nox{st:List Stmt}{t:TS}(h:PSs X.nox st t):PSs X st t:=λpins s σ H D I hw=>
 za7 (h pins s σ H D (I.wish _) hw) (λ_ _ q=>q.unwish) λ_ _ z=>zba z
end
section
variable {X:Cx}{st:Stmt}{rest:List Stmt}{t u:TS}{e:Expr}{te:TE}{pos:Pos}
def qas:TS:=λD σ H=>D.nx σ H
def qbk(t u:TS):TS:=λD σ H=>t {D with nx:=u D} σ H
def G3:PSs X [] qas:=λ_ _ σ H _ I h=>zdq {σ,H,I,h}
def eB(h1:PS X st t)(h2:PSs X rest u):PSs X (st::rest)<|qbk t u:=by
 intro pins s σ H D I h;refine wpAny_execs_cons<|c8 (h1 pins s σ H {D with nx:=u D} I h) λf B q=>?_;cases f with
 |next=>
  obtain⟨z,H',F,q⟩:=q;exact h2 pins B z H' D F q
 |ret v=>exact q
 |brk=>exact q
 |cont=>exact q
def jW(h1:PS X st t):PSs X [st] t:=by
 intro pins s σ H D I h;refine wpAny_execs_cons<|c8 (h1 pins s σ H D I h) λf z q=>?_;cases f with
 |next=>exact zdq q
 |ret v=>exact q
 |brk=>exact q
 |cont=>exact q
def Inv.quiet(I:Inv X pins σ H s):interactive X.env=cf:=by simp[interactive,I.ok.kind]
def qaC(te:TE):TS:=λD σ H=>te σ H λ_ H1=>D.nx σ H1
def zE(z:PE X e te)(hs:zaF e bz pos.line X.env=pure cf:=by rfl):PS X (.Expr e pos)<|qaC te:=by
 intro pins s σ H D I h;exact wpAny_Expr_any (c8 (z pins s σ H _ I h) λv G ⟨x,H1,B,r1,F⟩=>{σ,H1,B,F}) I.quiet hs
def qbo(te:TE):TS:=λD σ H=>te σ H D.rt
def PM(z:PE X e te):PS X (.Return (bw e) pos)<|qbo te:=by
 intro pins s σ H D I h;exact wpAny_Return_some<|c8 (z pins s σ H _ I h) λv G ⟨x,H1,B,r1,F⟩=>{x,σ,H1,B,r1,F}
def qb5(c:TT)(t u:TS):TS:=λD σ H=>c σ H λb H1=>if b=ca then t D σ H1 else u D σ H1
def VW{c:Expr}{a b:List Stmt}{tc:TT}(G:PT X c tc)(M:PSs X a t)(N:PSs X b u):PS X (.If c a b pos)<|qb5 tc t u:=by
 intro pins s σ H D I h;refine wpAny_If<|c8 (G pins s σ H _ I h) λd B ⟨H1,z,F⟩=>?_;cases d with
 |true=>exact M pins B σ H1 D z F
 |false=>exact N pins B σ H1 D z F
end
abbrev TG:=V->St->Hp->(St->Hp->Prop)->Prop
abbrev WJ:=List V->St->Hp->(St->Hp->Prop)->Prop
def PG(X:Cx)(z:Expr)(t:TG):Prop:=
 ∀(pins:List<|Addr×Obj) (s:zac) (σ:St) (H:Hp) (v:V) (u:Value) (Q:St->Hp->Prop),Inv X pins σ H s->RelV v u->t v σ H Q->
  wpAny (model X.prog X.w) X.A (zbi z X.env u) (λ_ s'=>∃B H',Inv X pins B H' s'/\Q B H') X.xe s
def PGs(X:Cx)(ts:List Expr)(t:WJ):Prop:=
 ∀(pins:List<|Addr×Obj) (s:zac) (σ:St) (H:Hp) (vs:List V) (us:List Value) (Q:St->Hp->Prop),Inv X pins σ H s->Vals vs us->t vs σ H Q->
  wpAny (model X.prog X.w) X.A (assignInOrder ((za3 ts X.env).map (·.2)) us) (λ_ s'=>∃z H',Inv X pins z H' s'/\Q z H') X.xe s
abbrev QR:=V->V->V->Hp->(Hp->Prop)->Prop
def VC(X:Cx)(t:QR):Prop:=
 ∀(pins:List<|Addr×Obj) (s:zac) (σ:St) (H:Hp) (o i v:V) (ov iv u:Value) (Q:Hp->Prop),Inv X pins σ H s->RelV o ov->RelV i iv->RelV v u->t o i v H Q->
  wpAny (model X.prog X.w) X.A (setItem ov iv u) (λ_ s'=>∃H',Inv X pins σ H' s'/\Q H') X.xe s
section
variable {X:Cx}{pos:Pos}
def kI(i:Nat):TG:=λv σ H Q=>Q (σ.set i<|bw v) H
def iC(B:X.N.Nodup)(hi:X.N[i]?=bw x)(hx:Loc X.env.scope x)(z:X.fn x=ca\/X.env.scope.names.lookup x=bw .local:=by first|exact .inl rfl|exact .inr rfl|assumption):PG X (.Name x pos)<|kI i:=by
 intro pins s σ H v u Q I r h;exact wpAny_assign_Name<|B9 I B hi hx r (λs' F=>{_,H,F,h}) z
def qb2:WJ:=λvs σ H Q=>vs=[]/\Q σ H
def V5(t:TG)(u:WJ):WJ:=λvs σ H Q=>∃v r,vs=v::r/\t v σ H λz H'=>u r z H' Q
def RS:PGs X [] qb2:=by
 intro pins s σ H vs z Q I r h;obtain⟨e,h⟩:=h;subst e;cases r;exact assignInOrder_nil {σ,H,I,h}
def lP{e:Expr}{es:List Expr}{t:TG}{u:WJ}(h1:PG X e t)(h2:PGs X es u)
  (hs:(za3 (e::es) X.env).map (·.2)=zbi e X.env::(za3 es X.env).map (·.2):=by rfl):PGs X (e::es)<|V5 t u:=by
 intro pins s σ H vs U Q I r h;obtain⟨v,N,F,h⟩:=h;subst F;cases r with
 |cons r rr=>
  rw[hs];refine assignInOrder_cons<|c8 (h1 pins s σ H _ _ _ I r h) λ_ G ⟨z,H1,B,M⟩=>?_;exact h2 pins G z H1 _ _ Q B rr M
def qbb(K:zae)(n:Nat)(t:WJ):TG:=λv σ H Q=>∃a xs,v=.ref a/\SqT K H a xs/\xs.length=n/\t xs σ H Q
def FC(M:X.calm=ca)(h:PGs X es t)
  (G:(za3 es X.env).length=n:=by rfl) (z:(za3 es X.env).findIdx? (·.1)=bz:=by rfl):PG X (.Tuple es k pos)<|qbb X.K n t:=by
 intro pins s σ H v u Q I r hw;obtain⟨a,xs,U,hq,F,hw⟩:=hw;subst U;cases r;obtain⟨Y,B,W,hz⟩:=I.tuple hq;refine assign_Tuple_tuple (I.ok.hd M) W (by simp[G,<- F,B.length]) z λh' hx=>?_
 have N:Inv X pins σ H {s with heap:=h'}:=I.kept (t':=s.toks) λb o e=>hx b o (zaE<|zao e) e
 exact h pins _ σ H xs _ Q N (by simpa using B) hw
def ZW(to z:TE)(t:QR):TG:=λv σ H Q=>to σ H λo H1=>z σ H1 λi H2=>t o i v H2 λB=>Q σ B
def OU{o i:Expr}{to F:TE}{t:QR}(ho:PE X o to)(hi:PE X i F)(hs:VC X t)
  (G:∀v, zbi (.Subscript o i pos) X.env v = (do
   let z <- zbJ [v]<|eval o X.env;let B <- zbJ [v,z]<|eval i X.env
   standAt pos
   zbJ [v,z,B] (setItem z B v)
   release [v,z,B] []):=by intro _;rfl):PG X (.Subscript o i pos)<|ZW to F t:=by
 intro pins s σ H v u Q I r h;rw[G];refine zaa<|zbg<|c8 (ho pins s σ H _ I h) λz Y ⟨x,H1,N,r1,q1⟩=>?_;refine zaa<|zbg<|c8 (hi pins Y σ H1 _ N q1) λB s2 ⟨y,H2,W,r2,q2⟩=>?_;refine zaa<|zc3<|zaa<|zbg<|c8 (hs pins s2 σ H2 x y v z B u _ W r1 r2 r q2) λ_ s3 ⟨H3,M,U⟩=>?_;exact wpAny_release {σ,H3,M,U}
def QN(te:TE)(g:TG):TS:=λD σ H=>te σ H λx H1=>g x σ H1 D.nx
def OX{tg e:Expr}{te:TE}{g:TG}(M:PE X e te)(B:PG X tg g)(hs:zdr [tg] e pos.line X.env=pure cf:=by rfl)(hw:zds [tg] e X.env=pure bz:=by rfl)
  (h1:(za3 [tg] X.env).map (·.2)=[zbi tg X.env]:=by rfl):PS X (.Assign [tg] e pos)<|QN te g:=by
 intro pins s σ H D I h;refine wpAny_Assign_stores (c8 (M pins s σ H _ I h) λv F ⟨x,H1,z,r1,G⟩=>?_) hs hw;rw[h1];exact c8 (B pins F σ H1 x v _ z r1 G) λ_ N q=>q
def PR{i:Nat}{x:Str}{e:Expr}{te:TE}{pos':Pos}(M:X.N.Nodup)(hi:X.N[i]?=bw x)(hx:Loc X.env.scope x)(U:PE X e te)(hs:zaF e (bw<|.Name x pos') pos.line X.env=pure cf:=by rfl)(z:X.fn x=ca\/X.env.scope.names.lookup x=bw .local:=by first|exact .inl rfl|exact .inr rfl|assumption) :
  PS X (.Assign [.Name x pos'] e pos) (QN te<|kI i):=by
 intro pins s σ H D I h;refine wpAny_Assign_Name (c8 (U pins s σ H _ I h) λv W ⟨y,H1,B,r1,G⟩=>?_) hs;exact B9 B M hi hx r1 (λY F=>{_,H1,F,G}) z
end
section
variable {X:Cx}{pos:Pos}
def XN(c:TT)(tb:TS):TS:=λD σ H=>∃W:Nat->St->Hp->Prop,(∃m,W m σ H)/\∀m σ H,W m σ H->
 c σ H λb H1=>if b=ca then ∃N:St->Hp->Prop,(∀z H',N z H'->∃B,B<m/\W B z H')/\tb {D with nx:=N,ct:=N,bk:=D.nx} σ H1 else D.nx σ H1
def M2{c:Expr}{F:List Stmt}{tc:TT}{tb:TS}(hp:zcc (model X.prog X.w) X.A X.env X.xe)(hc:PT X c tc)(hb:PSs X F tb):PS X (.While c F [] pos)<|XN tc tb:=by
 intro pins s σ H D I h;obtain⟨W,⟨m0,w0⟩,turn⟩:=h;refine wpAny_While<|codeAny_whileLoop (λn s'=>∃M H',Inv X pins M H' s'/\W n M H') ?_ m0 {σ,H,I,w0};rintro n s1 ⟨B,H1,I1,w1⟩;refine zct hp<|c8 (hc pins s1 B H1 _ I1<|turn n B H1 w1) λb s2 ⟨H2,I2,Y⟩=>?_;cases b with
 |true=>
  obtain⟨N,hN,Y⟩:=Y;rw[ci rfl];refine zct hp<|c8 (hb pins s2 B H2 _ I2 Y) λf s3 U=>?_;cases f with
  |next=>
   obtain⟨z,G,I3,n3⟩:=U;obtain⟨m',hm,w3⟩:=hN z G n3;exact{m',hm,z,G,I3,w3}
  |cont=>
   obtain⟨z,G,I3,n3⟩:=U;obtain⟨m',hm,w3⟩:=hN z G n3;exact{m',hm,z,G,I3,w3}
  |brk=>exact U
  |ret v=>exact U
 |false=>
  rw[cj zaD];exact zdq {B,H2,I2,Y}
end
structure It where
 go:Nat->Hp->Prop
 yld:Nat->Hp->V->Hp->Prop
 stop:Nat->Hp->Prop
def i9(X:Cx)(pins:List<|Addr×Obj)(H:Hp)(b:Addr):Prop:=
 H b=bz/\b≠X.env.locals/\b∉X.fs/\(b∈X.ex\/X.s₀.heap.objs.size<=b)/\(∀x c,X.env.cells.lookup x=bw c->c≠b)/\∀p∈X.pn++pins,p.1≠b
def Inv.fpOk(I:Inv X pins σ H s)(B:s.heap.objs.size<=b)(F:H' b=bz):i9 X pins H' b:=by
 refine{F,zbb<|zaQ I.lt B,I.nofs B,.inr<|zaL I.sz B,λx c e z=>?_,λp G z=>?_}
 .obtain⟨v,q⟩:=I.cell x c e
  exact absurd (zaQ q.lt<|by rw[z];exact B)<|zbt _
 .exact absurd (zaQ (zao (I.pin p G).1)<|by rw[z];exact B)<|zbt _
structure Turn(P:zai)(w:World)(K:zae)(tg:Expr)(J:It)(fp:List Addr)(it:Addr)(tn:Nat->Heap->Prop):Prop where
 mem:it∈fp
 obj:∀i h,tn i h->∀b∈fp,∃o,h.get? b=bw o/\∀v,o.data≠.cell v
 keep:∀i h h',tn i h->(∀b∈fp,∀o,h.get? b=bw o->h'.get? b=bw o)->tn i h'
 item:∀(X:Cx),X.prog=P->X.w=w->X.K=K->X.calm=ca->∀(i:Nat) (pins:List<|Addr×Obj) (s:zac) (σ:St) (H:Hp) (E:Value->zac->Prop),Inv X pins σ H s->(∀b∈fp,i9 X pins H b)->tn i s.heap->J.go i H->
  wpAny (model P w) X.A (zaW<|.ref it) (λr s1=>∃u,r=bw u /\
   wpAny (model P w) X.A (zdt tg (.ref it) u) (λ_ s2=>∃x H',Inv X pins σ H' s2/\RelV x u/\J.yld i H x H'/\tn (i+1) s2.heap/\∀b∈fp,H' b=bz) E s1) E s
 done:∀(X:Cx),X.prog=P->X.w=w->X.K=K->X.calm=ca->∀(i:Nat) (pins:List<|Addr×Obj) (s:zac) (σ:St) (H:Hp) (E:Value->zac->Prop),Inv X pins σ H s->(∀b∈fp,i9 X pins H b)->tn i s.heap->J.stop i H->
  wpAny (model P w) X.A (zaW<|.ref it) (λr s1=>r=bz/\Inv X pins σ H s1) E s
 self:∀(A:zan) (i:Nat) (s:zac) (Q:Value->zac->Prop) (E:Value->zac->Prop),tn i s.heap->Q (.ref it) s->wpAny (model P w) A (pyIter<|.ref it) Q E s
abbrev TI:=St->Hp->(It->Hp->Prop)->Prop
def PIE(X:Cx)(pins:List<|Addr×Obj)(σ:St)(tg:Expr)(R:It->Hp->Prop)(z:Value)(B:zac):Prop:=
 ∃(it:Addr) (fp:List Addr) (tn:Nat->Heap->Prop) (J:It) (H':Hp),z=.ref it/\Inv X pins σ H' B/\Turn X.prog X.w X.K tg J fp it tn/\tn 0 B.heap/\(∀b∈fp,i9 X pins H' b)/\R J H'
def PI(X:Cx)(tg z:Expr)(wi:TI):Prop:=
 ∀(pins:List<|Addr×Obj) (s:zac) (σ:St) (H:Hp) (R:It->Hp->Prop),Inv X pins σ H s->wi σ H R->
  wpAny (model X.prog X.w) X.A (eval z X.env) (λv B=>wpAny (model X.prog X.w) X.A (pyIter v) (PIE X pins σ tg R) X.xe B) X.xe s
def v9(B:s.heap.get? it=bw o)(G:o.cls=.type n)(hd:o.data=.fields vs)
    (F:["enumerate", "zip", "dict_itemiterator", "dict_reverseitemiterator", "odict_iterator", "itertools.zip_longest", "itertools.pairwise"].contains n=cf) (z:Q () s):wpAny M A (zdt tg (.ref it) u) Q E s:=by
  unfold zdt;cases tg <;> first
    | exact zaf z
    | (cases u <;> first
        | exact zaf z
        | (refine zaa (wpAny_load B ?_)
           rw[G,hd];show wpAny M A (if(["enumerate", "zip", "dict_itemiterator", "dict_reverseitemiterator", "odict_iterator", "itertools.zip_longest", "itertools.pairwise"].contains n && vs[0]? == bw (zbc _))=ca then _ else _) Q E s;rw[cj<|by intro h;rw[F,Bool.false_and]at h;cases h];exact zaf z))
noncomputable def Itl(K:zae)(a:Addr):It:=
 {λi H=>∃xs x,SqL K H a xs/\xs[i]?=bw x,λi H x H'=>H'=H/\∀xs,SqL K H a xs->xs[i]?=bw x,λi H=>∃xs,SqL K H a xs/\xs.length<=i}
noncomputable def Itt(K:zae)(a:Addr):It:=
 {λi H=>∃xs x,SqT K H a xs/\xs[i]?=bw x,λi H x H'=>H'=H/\∀xs,SqT K H a xs->xs[i]?=bw x,λi H=>∃xs,SqT K H a xs/\xs.length<=i}
noncomputable def Itr(lo:Int)(n:Nat):It:={λi _=>i<n,λi H x H'=>H'=H/\x=.int (lo+i),λi _=>n<=i}
def JE{P:zai}{w:World}{K:zae}{tg:Expr}(a it:Addr):Turn P w K tg (Itl K a) [it] it (λi h=>h.IsListIter it a i) where
 mem:=by simp
 obj:=λi h st b B=>by
  have e:b=it:=by simpa using B
  subst e;obtain⟨o,e,c,d⟩:=st;exact{o,e,λv z=>by rw[d]at z;cases z}
 keep:=λi h h' st k=>st.at λo e=>k it (by simp) o e
 item:=by
  intro X hP hw hK hc i pins s σ H E I G st Y;subst hP hw hK;obtain⟨xs,x,M,hx⟩:=Y;obtain⟨ac,rv,p,hz⟩:=I.list M;obtain⟨u,hu,ru⟩:=rv.get hx;obtain⟨N,f1,f2,U,W,f5⟩:=G it (by simp);refine wpAny_pyNext_list_item st p.isList (x:=u) (by simpa using hu) λh' F sb=>?_
  have I1:Inv X pins σ H {s with heap:=h'}:=I.turned (t':=s.toks) (λb o B e=>(sb.2 b B).trans e) N f1 U W f5;obtain⟨o,e,c,d⟩:=id F;exact{u,rfl,v9 (s:={s with heap:=h'}) e c d (by decide) {x,H,I1,ru,{rfl,λys hy=>by rw[I.list_inj hy M];exact hx},F,λb B=>(G b B).1}}
 done:=by
  intro X hP hw hK hc i pins s σ H E I G st Y;subst hP hw hK;obtain⟨xs,M,hx⟩:=Y;obtain⟨ac,rv,p,hz⟩:=I.list M;obtain⟨N,f1,f2,U,W,f5⟩:=G it (by simp);have hl:=rv.length;exact wpAny_pyNext_list_end (I.ok.hd hc) st p.isList (by simp;lia) λh' eb=>{rfl,I.turned (t':=s.toks) (λb o B e=>eb b o B e) N f1 U W f5}
 self:=λ_ _ _ _ _ st h=>wpAny_pyIter_listiter st h
def ED{P:zai}{w:World}{K:zae}{tg:Expr}(a it:Addr):Turn P w K tg (Itt K a) [it] it (λi h=>h.IsTupleIter it a i) where
 mem:=by simp
 obj:=λi h st b F=>by
  have e:b=it:=by simpa using F
  subst e;obtain⟨o,e,c,d⟩:=st;exact{o,e,λv z=>by rw[d]at z;cases z}
 keep:=λi h h' st k=>st.at λo e=>k it (by simp) o e
 item:=by
  intro X hP hw hK hc i pins s σ H E I M st hg;subst hP hw hK;obtain⟨xs,x,N,hx⟩:=hg;obtain⟨B,rv,p,hz⟩:=I.tuple N;obtain⟨u,hu,ru⟩:=rv.get hx;obtain⟨U,f1,f2,W,Y,f5⟩:=M it (by simp);refine wpAny_pyNext_tuple_item st (show s.heap.IsTuple a B.toArray from p) (x:=u) (by simpa using hu) λh' G sb=>?_
  have I1:Inv X pins σ H {s with heap:=h'}:=I.turned (t':=s.toks) (λb o F e=>(sb.2 b F).trans e) U f1 W Y f5;obtain⟨o,e,c,d⟩:=id G;exact{u,rfl,v9 (s:={s with heap:=h'}) e c d (by decide) {x,H,I1,ru,{rfl,λys hy=>by rw[I.tuple_inj hy N];exact hx},G,λb F=>(M b F).1}}
 done:=by
  intro X hP hw hK hc i pins s σ H E I M st hg;subst hP hw hK;obtain⟨xs,N,hx⟩:=hg;obtain⟨B,rv,p,hz⟩:=I.tuple N;obtain⟨U,f1,f2,W,Y,f5⟩:=M it (by simp);have hl:=rv.length;exact wpAny_pyNext_tuple_end (I.ok.hd hc) st (show s.heap.IsTuple a B.toArray from p) (by simp;lia) λh' eb=>{rfl,I.turned (t':=s.toks) (λb o F e=>eb b o F e) U f1 W Y f5}
 self:=λ_ _ _ _ _ st h=>wpAny_pyIter_tupleiter st h
def EZ{P:zai}{w:World}{K:zae}{tg:Expr}(it:Addr)(lo:Int)(n:Nat):Turn P w K tg (Itr lo n) [it] it (λi h=>IsRangeIter h it (lo+(i:Nat)*1) ((n:Int)-(i:Nat)) 1) where
 mem:=by simp
 obj:=λi h st b B=>by
  have e:b=it:=by simpa using B
  subst e;exact⟨_,st,λv z=>by
   have z':Data.fields _=Data.cell v:=z;cases z'⟩
 keep:=λi h h' st k=>k it (by simp) _ st
 item:=by
  intro X hP hw hK M i pins s σ H E I G st U;subst hP hw hK;obtain⟨f0,f1,f2,f3,N,Y⟩:=G it (by simp);have W:=Walks.range (prog:=X.prog) (w:=X.w) (I.ok.hd M) it lo 1 n;refine W.item i s _ _ U st λv h' tk hv F kk=>?_
  obtain⟨t,rfl⟩:=hv;have I1:Inv X pins σ H {s with heap:=h',toks:=tk}:=I.turned (λb o B e=>kk b o (by simpa using B) e) f0 f1 f3 N Y;refine{_,rfl,v9 (s:={s with heap:=h',toks:=tk}) (n := "range_iterator") F rfl rfl (by decide) {.int<|lo+i,H,I1,{t,?_},{rfl,rfl},F,λb B=>(G b B).1}};rw[Int.mul_one]
 done:=by
  intro X hP hw hK M i pins s σ H E I G st U;subst hP hw hK;obtain⟨f0,f1,f2,f3,N,Y⟩:=G it (by simp);exact wpAny_pyNext_range_end (I.ok.hd M) st (by have:n<=i:=U;lia) λh' eb=>{rfl,I.turned (t':=s.toks) (λb o B e=>eb b o B e) f0 f1 f3 N Y}
 self:=λ_ _ _ _ _ st h=>wpAny_pyIter_rangeiter st h
section
variable {X:Cx}{tg:Expr}
def qz(K:zae)(tl:TE):TI:=λσ H R=>tl σ H λx H1=>∃a,x=.ref a/\(∃xs,SqL K H1 a xs)/\R (Itl K a) H1
def qcn(K:zae)(tl:TE):TI:=λσ H R=>tl σ H λx H1=>∃a,x=.ref a/\(∃xs,SqT K H1 a xs)/\R (Itt K a) H1
def R1{l:Expr}{tl:TE}(F:PE X l tl):PI X tg l<|qz X.K tl:=by
 intro pins s σ H R I h;refine c8 (F pins s σ H _ I h) λv B ⟨x,H1,z,r1,M⟩=>?_
 obtain⟨a,e,⟨xs,N⟩,q⟩:=M;subst e;cases r1;obtain⟨G,Y,p,W⟩:=z.list N;refine zbZ p.isList ?_;refine{B.heap.objs.size,[B.heap.objs.size],_,_,H1,rfl,z.kept (t':=B.toks) λb o e=>zam _ e,JE a _,{_,zaC _ rfl,rfl,rfl},λb U=>?_,q};have e:b=B.heap.objs.size:=by simpa using U
 subst e;exact z.fpOk (zah _)<|z.hok.fresh<|zah _
def XZ{l:Expr}{tl:TE}(G:PE X l tl):PI X tg l<|qcn X.K tl:=by
 intro pins s σ H R I h;refine c8 (G pins s σ H _ I h) λv z ⟨x,H1,B,r1,M⟩=>?_
 obtain⟨a,e,⟨xs,N⟩,q⟩:=M;subst e;cases r1;obtain⟨F,Y,p,W⟩:=B.tuple N;refine zb0 (show z.heap.IsTuple a F.toArray from p) ?_;refine{z.heap.objs.size,[z.heap.objs.size],_,_,H1,rfl,B.kept (t':=z.toks) λb o e=>zam _ e,ED a _,{_,zaC _ rfl,rfl,rfl},λb U=>?_,q};have e:b=z.heap.objs.size:=by simpa using U
 subst e;exact B.fpOk (zah _)<|B.hok.fresh<|zah _
def MF{pins:List (Addr×Obj)}{σ:St}{H:Hp}{s:zac}{R:It->Hp->Prop}{E:Value->zac->Prop}{lo hi:Int}{t u v:Tok}{tk:Nat}(I:Inv X pins σ H s)(h1:-(2^62)<=lo)(h2:lo<2^62)(B:-(2^62)<=hi)(G:hi<2^62)
  (q:R (Itr lo (hi-lo).toNat) H):wpAny (model X.prog X.w) X.A (pyIter<|.ref s.heap.objs.size) (PIE X pins σ tg R) E {s with heap:=s.heap.push {cls:=.type "range",data:=.fields #[.int lo t,.int hi u,.int 1 v]},toks:=tk}:=by
 refine wpAny_pyIter_range (IsRange.new ..) (small_one h1 h2 B G) ?_;have z:Inv X pins σ H {s with heap:=s.heap.push {cls:=.type "range",data:=.fields #[.int lo t,.int hi u,.int 1 v]},toks:=tk}:=I.kept λb o e=>zam _ e
 refine⟨(s.heap.push {cls:=.type "range",data:=.fields #[.int lo t,.int hi u,.int 1 v]}).objs.size,[(s.heap.push {cls:=.type "range",data:=.fields #[.int lo t,.int hi u,.int 1 v]}).objs.size],_,_,H,rfl,
  z.kept (t':=tk) λb o e=>zam _ e,EZ _ lo (hi-lo).toNat,?_,λb N=>?_,q⟩
 .have F:lo+((0:Nat):Int)*1=lo:=by simp
  have M:(((hi-lo).toNat:Nat):Int)-((0:Nat):Int)=Builtin.Range.rangeSize lo hi 1:=by rw[rangeSize_one];split <;> lia
  show IsRangeIter _ _ (lo+((0:Nat):Int)*1) ((((hi-lo).toNat:Nat):Int)-((0:Nat):Int)) 1;rw[F,M];exact zaC _ rfl
 .have e:b=(s.heap.push {cls:=.type "range",data:=.fields #[.int lo t,.int hi u,.int 1 v]}).objs.size:=by simpa using N
  subst e;exact z.fpOk (zah _)<|z.hok.fresh<|zah _
def qaU(ta:TA):TI:=λσ H R=>ta σ H λvs H1=>∃j:Int,vs=[.int j]/\-(2^62)<=j/\j<2^62/\R (Itr 0 j.toNat) H1
def J8{a:Expr}{ta:TA}{p pos:Pos}(G:Gl X "range")(N:X.mg "range" = bz)(B:PA X [a] ta)(hs:zag [a] X.env=[(cf,eval a X.env)]:=by rfl):PI X tg (.Call (.Name "range" p) [a] [] pos)<|qaU ta:=by
 intro pins s σ H R I h;refine Call_<|l7 I G N boot_range<|zc4 (c8 (B pos pins s σ H _ I h) λW U ⟨vs,H1,F,r1,z⟩=>?_) hs rfl;obtain⟨j,e,z,M,q⟩:=z;subst e;cases r1 with
 |cons r rr=>
  cases rr;obtain⟨t,rfl⟩:=r;exact call_range_1<|MF F (by lia) (by lia) z M<|by simpa using q
def qcj(wi:TI)(g:TG)(tb:TS):TS:=λD σ H=>wi σ H λJ H1=>∃W:Nat->Nat->St->Hp->Prop,(∃m,W 0 m σ H1)/\∀i m σ H,W i m σ H->
 (J.stop i H/\D.nx σ H)\/(J.go i H/\∃N:St->Hp->Prop,(∀z H',N z H'->∃F,F<m/\W (i+1) F z H')/\∀x H',J.yld i H x H'->g x σ H' λB H2=>tb {D with nx:=N,ct:=N,bk:=D.nx} B H2)
noncomputable def vP(fp:List Addr)(h:Heap):List<|Addr×Obj:=fp.filterMap λb=>(h.get? b).map λo=>(b,o)
def jQ(z:b∈fp)(e:h.get? b=bw o):(b,o)∈vP fp h:=List.mem_filterMap.mpr {b,z,by rw[e];rfl}
def JJ(B:p∈vP fp h):p.1∈fp/\h.get? p.1=bw p.2:=by
 obtain⟨b,F,e⟩:=List.mem_filterMap.mp B;cases q:h.get? b with
 |none=>rw[q]at e;cases e
 |some o=>
  rw[q]at e;have z:(b,o)=p:=zaz e;subst z;exact{F,q}
def Inv.pinned(I:Inv X pins σ H s)(G:∀b∈fp,i9 X pins H b)(N:∀b∈fp,∃o,s.heap.get? b=bw o/\∀v,o.data≠.cell v):Inv X (pins++vP fp s.heap) σ H s:=
 I.pins_of λp M=>(List.mem_append.mp M).elim (λz=>I.pin p<|zaY _ z) λz=>by
  obtain⟨F,e⟩:=JJ z;obtain⟨U,f1,f2,_⟩:=G p.1 F;obtain⟨o,B,d⟩:=N p.1 F;rw[e]at B;cases B;exact{e,U,f1,f2,d}
def Inv.unpinned(I:Inv X (pins++pl) σ H s):Inv X pins σ H s:=I.pins_of λp z=>I.pin p<|zaY _<|zbH _ z
def PL{ab:Expr}{ac:List Stmt}{wi:TI}{g:TG}{tb:TS}{pos:Pos}(hp:zcc (model X.prog X.w) X.A X.env X.xe)(hc:X.calm=ca)(hi:PI X tg ab wi)(hg:PG X tg g)(G:PSs X ac tb)
  (hs:∀x,zbd ab X.env x=pure x:=by intro _;rfl):PS X (.For tg ab ac [] pos)<|qcj wi g tb:=by
 intro pins s σ H D I h;refine wpAny_For (c8 (hi pins s σ H _ I h) λv s1 h1=>c8 h1 λaz s2 h2=>?_) hs;obtain⟨it,fp,tn,J,H2,e,I2,T,al,f2,W,⟨m0,w0⟩,turn⟩:=h2;subst e
 -- what stays true of the iterator's objects through the loop
 have U:∀ {H':Hp},(∀b∈fp,H' b=bz)->∀b∈fp,i9 X pins H' b:=λhn b G=>{hn b G,(f2 b G).2}
 refine codeAny_forLoop_any (λn s'=>∃i M H',Inv X pins M H' s'/\tn i s'.heap/\(∀b∈fp,H' b=bz)/\W i n M H') ?_ m0 {0,σ,H2,I2,al,λb G=>(f2 b G).1,w0};rintro n s3 ⟨i,B,H3,I3,af,aj,w3⟩;rcases turn i n B H3 w3 with⟨ai,qn⟩|⟨go,N,hN,step⟩
 .refine zct hp (c8 (T.done X rfl rfl rfl hc i pins s3 B H3 X.xe I3 (U aj) af ai) λr s4 ⟨hr,I4⟩=>?_)
  subst hr;exact zdq {B,H3,I4,qn}
 .refine zct hp (c8 (T.item X rfl rfl rfl hc i pins s3 B H3 X.xe I3 (U aj) af go) λr s4 ⟨u,hr,h4⟩=>?_)
  subst hr;refine zct hp<|c8 h4 λ_ s5 ⟨x,H5,I5,r5,y5,ae,am⟩=>?_;have ap:=I5.pinned (U am)<|T.obj _ _ ae;refine zct hp<|c8 (hg _ s5 B H5 x u _ ap r5<|step x H5 y5) λ_ s6 ⟨an,H6,I6,q6⟩=>?_;refine zct hp<|c8 (G _ s6 an H6 _ I6 q6) λf s7 q7=>?_;have aa:∀ {z:St} {F:Hp},Inv X (pins++vP fp s5.heap) z F s7->N z F->∃m,m<n/\∃i M H',Inv X pins M H' s7/\tn i s7.heap/\(∀b∈fp,H' b=bz)/\W i m M H':=λ{z F} Y n7=>by
   obtain⟨m',hm,w7⟩:=hN z F n7;refine{m',hm,i+1,z,F,Y.unpinned,T.keep _ _ _ ae λb G o e=>(Y.pin (b,o)<|zaY _<|zaY _<|jQ G e).1,λb G=>?_,w7};obtain⟨o,e,d⟩:=T.obj _ _ ae b G;exact(Y.pin (b,o)<|zaY _<|zaY _<|jQ G e).2.1
  cases f with
  |next=>obtain⟨z,F,Y,n7⟩:=q7;exact aa Y n7
  |cont=>obtain⟨z,F,Y,n7⟩:=q7;exact aa Y n7
  |brk=>obtain⟨z,F,Y,q7⟩:=q7;exact{z,F,Y.unpinned,q7}
  |ret v=>obtain⟨x7,z,F,Y,r7,q7⟩:=q7;exact{x7,z,F,Y.unpinned,r7,q7}
end
abbrev R2:=V->V->Hp->VK->Prop
def OpR(X:Cx)(f:Value->Value->Sem Value)(r:R2):Prop:=
 ∀(pins:List<|Addr×Obj) (s:zac) (σ:St) (H:Hp) (x y:V) (v u:Value) (Q:VK),Inv X pins σ H s->RelV x v->RelV y u->r x y H Q->
  wpAny (model X.prog X.w) X.A (f v u) (EP X pins σ Q) X.xe s
def CallR(X:Cx)(f:Value)(r:List V->Hp->VK->Prop):Prop:=
 ∀(pins:List<|Addr×Obj) (s:zac) (σ:St) (H:Hp) (xs:List V) (us:List Value) (Q:VK),Inv X pins σ H s->Vals xs us->r xs H Q->
  wpAny (model X.prog X.w) X.A (call f us) (EP X pins σ Q) X.xe s
def tOp(r:R2)(ta tb:TE):TE:=λσ H Q=>ta σ H λx H1=>tb σ H1 λy H2=>r x y H2 Q
def rI(C:Int->Int->Prop)(g:Int->Int->V):R2:=λx y H Q=>∃i j,x=.int i/\y=.int j/\C i j/\Q (g i j) H
def Q0(g:Int->Int->V):R2:=λx y H Q=>∃i j,x=.int i/\y=.int j/\Q (g i j) H
section
variable {X:Cx}{a b c:Expr}{ta tb tc:TE}{pos:Pos}
def ZU(M:PE X a ta)(hb:PE X b tb){pins:List (Addr×Obj)}{s:zac}{σ:St}{H:Hp}{R:V->V->Hp->Prop}(I:Inv X pins σ H s)
  (h:ta σ H λx H1=>tb σ H1 λy H2=>R x y H2) {Q:Value->zac->Prop} {f:Value->Value->Sem Value}
  (G:∀v u F x y H2,Inv X pins σ H2 F->RelV x v->RelV y u->R x y H2->wpAny (model X.prog X.w) X.A (f v u) Q X.xe F) :
  wpAny (model X.prog X.w) X.A (eval a X.env) (λv B=>wpAny (model X.prog X.w) X.A (eval b X.env) (λu z=>wpAny (model X.prog X.w) X.A (f v u) Q X.xe z) X.xe B) X.xe s:=by
 refine c8 (M pins s σ H _ I h) λv W ⟨x,H1,N,r1,Y⟩=>?_
 refine c8 (hb pins W σ H1 _ N Y) λu F ⟨y,H2,U,r2,q2⟩=>?_
 exact G v u F x y H2 U r1 r2 q2
def qaT{op:Operator}{r:R2}(G:OpR X (zaP op) r)(z:PE X a ta)(U:PE X b tb):PE X (.BinOp a op b pos)<|tOp r ta tb:=by
 intro pins s σ H Q I h;exact wpAny_BinOp<|ZU z U I h λv u N x y H2 B M F q=>G pins N σ H2 x y v u Q B M F q
def opI{f:Value->Value->Sem Value}{C:Int->Int->Prop}{g:Int->Int->Int}
  (z:∀(i j:Int) (t u:Tok) (s:zac) (Q:Value->zac->Prop) (E:Value->zac->Prop),C i j->Q (.int (g i j) s.toks) {s with toks:=s.toks+1}->wpAny (model X.prog X.w) X.A (f (.int i t)<|.int j u) Q E s) :
  OpR X f (rI C λi j=>.int<|g i j):=by
 intro pins s σ H x y v u Q I B G h;obtain⟨i,j,rfl,rfl,F,q⟩:=h;obtain⟨t,rfl⟩:=B;obtain⟨t',rfl⟩:=G;exact z i j t t' s _ _ F {.int<|g i j,H,I.tok _,{_,rfl},q}
def qa9{f:Value->Value->Sem Value}{g:Int->Int->Int}
  (z:∀(i j:Int) (t u:Tok) (s:zac) (Q:Value->zac->Prop) (E:Value->zac->Prop),Q (.int (g i j) s.toks) {s with toks:=s.toks+1}->wpAny (model X.prog X.w) X.A (f (.int i t)<|.int j u) Q E s) :
  OpR X f (Q0 λi j=>.int<|g i j):=by
 intro pins s σ H x y v u Q I B F h;obtain⟨i,j,rfl,rfl,q⟩:=h;obtain⟨t,rfl⟩:=B;obtain⟨t',rfl⟩:=F;exact z i j t t' s _ _ {.int<|g i j,H,I.tok _,{_,rfl},q}
def U3{f:Value->Value->Sem Value}{g:Int->Int->Bool}
  (z:∀(i j:Int) (t u:Tok) (s:zac) (Q:Value->zac->Prop) (E:Value->zac->Prop),Q (.bool<|g i j) s->wpAny (model X.prog X.w) X.A (f (.int i t)<|.int j u) Q E s) :
  OpR X f (Q0 λi j=>.bl<|g i j):=by
 intro pins s σ H x y v u Q I B F h;obtain⟨i,j,rfl,rfl,q⟩:=h;obtain⟨t,rfl⟩:=B;obtain⟨t',rfl⟩:=F;exact z i j t t' s _ _ {.bl<|g i j,H,I,rfl,q}
def VD(i j:Int):Prop:=0<j/\j<1073741824
def U2(i j:Int):Prop:=0<=j/\j<=1000000/\i.natAbs<2^64
def YE:OpR X (zaP .Add)<|Q0 λi j=>.int<|i+j:=qa9 λ_ _ _ _ _ _ _ q=>add_int q
def YB:OpR X (zaP .Sub)<|Q0 λi j=>.int<|i-j:=qa9 λ_ _ _ _ _ _ _ q=>sub_int q
def S9:OpR X (zaP .FloorDiv)<|rI VD λi j=>.int<|i/j:=opI λi j _ _ _ _ _ z q=>by
 have h1:(0:Int)<j:=z.1;have h2:j<1073741824:=z.2;exact floordiv_int (by lia) (by rw[Int.fdiv_eq_ediv_of_nonneg i<|by lia];exact q)<|.inl<|PyProof.noPylong_small<|by lia
def YQ:OpR X (zaP .Mod)<|rI (λ_ j=>0<j) λi j=>.int<|i%j:=opI λi j _ _ _ _ _ z q=>by
 have h1:(0:Int)<j:=z;exact mod_int' (by lia)<|by rw[Int.fmod_eq_emod_of_nonneg i<|by lia];exact q
def Y9:OpR X (zaP .Pow)<|rI U2 λi j=>.int<|i^j.toNat:=opI λ_ _ _ _ _ _ _ z q=>pow_int_small z.1 z.2.1 z.2.2 q
end
noncomputable def Z0:V->V->Bool
 |.non,.non=>ca | .non,.int _=>ca | .int _,.non=>ca | .non,.bl _=>ca | .bl _,.non=>ca | .non,.str _=>ca | .str _,.non=>ca
 |.int _,.int _=>ca | .bl _,.bl _=>ca | .str _,.str _=>ca | .byt _,.byt _=>ca
 |.int _,.str _=>ca | .str _,.int _=>ca | .bl _,.str _=>ca | .str _,.bl _=>ca
 |_,_=>cf
def rEq:R2:=λx y H Q=>Z0 x y=ca/\Q (.bl<|decide (x=y)) H
def rNe:R2:=λx y H Q=>Z0 x y=ca/\Q (.bl<|!decide (x=y)) H
def HD:decide (V.int i=V.int j)=(i == j):=by
 rw[zc1];simp
def PZ:decide (V.bl i=V.bl j)=(i == j):=by
 rw[zc1];simp
def GJ:decide (V.str i=V.str j)=(i == j):=by
 rw[zc1];simp
def HQ:decide (V.byt i=V.byt j)=(i.toList == j.toList):=by
 rw[zc1];cases i;cases j;simp
section
variable {X:Cx}{a b c:Expr}{ta tb tc:TE}{pos:Pos}
def bQ(I:Inv X pins σ H s)(q:Q (.bl k) H)(e:k=k'):EP X pins σ Q (.bool k') s:=by
 subst e;exact{.bl k,H,I,rfl,q}
def qr:OpR X (zaA .Eq) rEq:=by
 intro pins s σ H x y v u Q I B z h;obtain⟨hs,q⟩:=h;cases x with
 |non=>
  cases B;cases y with
  |non=>cases z;exact PySem.EqNone.eq_none_none<|bQ I q<|by simp
  |bl j=>cases z;exact PySem.EqNone.eq_none_bool<|bQ I q<|by simp
  |int j=>obtain⟨t',rfl⟩:=z;exact PySem.EqNone.eq_none_int<|bQ I q<|by simp
  |str j=>obtain⟨t',rfl⟩:=z;exact PySem.EqNone.eq_none_str<|bQ I q<|by simp
  |_=>exact absurd (show cf=ca from hs) zaD
 |bl i=>
  cases B;cases y with
  |non=>cases z;exact PySem.EqNone.eq_bool_none<|bQ I q<|by simp
  |bl j=>cases z;exact eq_bool<|bQ I q PZ
  |str j=>obtain⟨t',rfl⟩:=z;exact PySem.EqMixed.eq_bool_str<|bQ I q<|by simp
  |_=>exact absurd (show cf=ca from hs) zaD
 |int i=>
  obtain⟨t,rfl⟩:=B;cases y with
  |non=>cases z;exact PySem.EqNone.eq_int_none<|bQ I q<|by simp
  |int j=>obtain⟨t',rfl⟩:=z;exact eq_int<|bQ I q HD
  |str j=>obtain⟨t',rfl⟩:=z;exact PySem.EqMixed.eq_int_str<|bQ I q<|by simp
  |_=>exact absurd (show cf=ca from hs) zaD
 |str i=>
  obtain⟨t,rfl⟩:=B;cases y with
  |non=>cases z;exact PySem.EqNone.eq_str_none<|bQ I q<|by simp
  |bl j=>cases z;exact PySem.EqMixed.eq_str_bool<|bQ I q<|by simp
  |int j=>obtain⟨t',rfl⟩:=z;exact PySem.EqMixed.eq_str_int<|bQ I q<|by simp
  |str j=>obtain⟨t',rfl⟩:=z;exact eq_str<|bQ I q GJ
  |_=>exact absurd (show cf=ca from hs) zaD
 |byt i=>
  obtain⟨t,rfl⟩:=B;cases y with
  |byt j=>obtain⟨t',rfl⟩:=z;exact PySem.W.eq_bytes<|bQ I q HQ
  |_=>exact absurd (show cf=ca from hs) zaD
 |_=>cases y <;> exact absurd (show cf=ca from hs) zaD
def qaJ:OpR X (zaA .NotEq) rNe:=by
 intro pins s σ H x y v u Q I B z h;obtain⟨hs,q⟩:=h;cases x with
 |non=>
  cases B;cases y with
  |non=>cases z;exact PySem.EqNone.ne_none_none<|bQ I q<|by simp
  |bl j=>cases z;exact PySem.EqNone.ne_none_bool<|bQ I q<|by simp
  |int j=>obtain⟨t',rfl⟩:=z;exact PySem.EqNone.ne_none_int<|bQ I q<|by simp
  |str j=>obtain⟨t',rfl⟩:=z;exact PySem.EqNone.ne_none_str<|bQ I q<|by simp
  |_=>exact absurd (show cf=ca from hs) zaD
 |bl i=>
  cases B;cases y with
  |non=>cases z;exact PySem.EqNone.ne_bool_none<|bQ I q<|by simp
  |bl j=>cases z;exact ne_bool<|bQ I q<|congrArg not PZ
  |str j=>obtain⟨t',rfl⟩:=z;exact PySem.EqMixed.ne_bool_str<|bQ I q<|by simp
  |_=>exact absurd (show cf=ca from hs) zaD
 |int i=>
  obtain⟨t,rfl⟩:=B;cases y with
  |non=>cases z;exact PySem.EqNone.ne_int_none<|bQ I q<|by simp
  |int j=>obtain⟨t',rfl⟩:=z;exact ne_int<|bQ I q<|congrArg not HD
  |str j=>obtain⟨t',rfl⟩:=z;exact PySem.EqMixed.ne_int_str<|bQ I q<|by simp
  |_=>exact absurd (show cf=ca from hs) zaD
 |str i=>
  obtain⟨t,rfl⟩:=B;cases y with
  |non=>cases z;exact PySem.EqNone.ne_str_none<|bQ I q<|by simp
  |bl j=>cases z;exact PySem.EqMixed.ne_str_bool<|bQ I q<|by simp
  |int j=>obtain⟨t',rfl⟩:=z;exact PySem.EqMixed.ne_str_int<|bQ I q<|by simp
  |str j=>obtain⟨t',rfl⟩:=z;exact ne_str<|bQ I q<|congrArg not GJ
  |_=>exact absurd (show cf=ca from hs) zaD
 |byt i=>
  obtain⟨t,rfl⟩:=B;cases y with
  |byt j=>obtain⟨t',rfl⟩:=z;exact PySem.W.ne_bytes<|bQ I q<|congrArg not HQ
  |_=>exact absurd (show cf=ca from hs) zaD
 |_=>cases y <;> exact absurd (show cf=ca from hs) zaD
def qt:OpR X (zaA .Lt)<|Q0 λi j=>.bl<|decide (i<j):=U3 λ_ _ _ _ _ _ _ q=>lt_int q
def qau:OpR X (zaA .LtE)<|Q0 λi j=>.bl<|decide (i<=j):=U3 λ_ _ _ _ _ _ _ q=>le_int q
def qak:OpR X (zaA .Gt)<|Q0 λi j=>.bl<|decide (j<i):=U3 λ_ _ _ _ _ _ _ q=>gt_int q
def qae:OpR X (zaA .GtE)<|Q0 λi j=>.bl<|decide (j<=i):=U3 λ_ _ _ _ _ _ _ q=>ge_int q
def X9:OpR X (zaA .Is) λx y H Q=>y=.non/\Q (.bl<|decide (x=.non)) H:=by
 intro pins s σ H x y v u Q I z B h;obtain⟨rfl,q⟩:=h;cases B;refine is_none_gen<|bQ I q ?_;cases x <;> first
  | (cases z;rfl)
  | (obtain⟨t,rfl⟩:=z;rfl)
def R4:OpR X (zaA .IsNot) λx y H Q=>y=.non/\Q (.bl<|!decide (x=.non)) H:=by
 intro pins s σ H x y v u Q I z B h;obtain⟨rfl,q⟩:=h;cases B;refine isnot_none_gen<|bQ I q ?_;cases x <;> first
  | (cases z;rfl)
  | (obtain⟨t,rfl⟩:=z;rfl)
def OpR.or(h:OpR X f r)(h':OpR X f r'):OpR X f λx y H Q=>r x y H Q\/r' x y H Q:=by
 intro pins s σ H x y v u Q I z B q;rcases q with q|q
 .exact h pins s σ H x y v u Q I z B q
 .exact h' pins s σ H x y v u Q I z B q
def PV(b:Expr)(h:op≠.In:=by decide)(h2:op≠.NotIn:=by decide):zbX op b=cf:=by
 have B:(op == CmpOp.In)=cf:=by cases op <;> first|rfl|exact absurd rfl h
 have z:(op == CmpOp.NotIn)=cf:=by cases op <;> first|rfl|exact absurd rfl h2
 cases b <;> simp[zbX,B,z]
def SF(M:OpR X (zaA op) r)(z:PE X a ta)(B:PE X b tb)(W:zbX op b=cf):PE X (.Compare a [op] [b] pos)<|tOp r ta tb:=by
 intro pins s σ H Q I h;exact wpAny_Compare1 (ZU z B I h λv u U x y H2 F N G q=>M pins U σ H2 x y v u Q F N G q) W
def qaS(t:TE):TT:=λσ H Q=>t σ H λx H'=>∃k,x=.bl k/\Q k H'
def Q6{op:CmpOp}{r:R2}(Y:OpR X (zaA op) r)(B:PE X a ta)(U:PE X b tb)(hm:zbX op b=cf):PT X (.Compare a [op] [b] pos)<|qaS<|tOp r ta tb:=by
 intro pins s σ H Q I h;refine wpAny_isTrue_Compare1 (c8 (B pins s σ H _ I h) λv W ⟨x,H1,G,r1,q1⟩=>c8 (U pins W σ H1 _ G q1) λu s2 ⟨y,H2,N,r2,q2⟩=>
  c8 (Y pins s2 σ H2 x y v u _ N r1 r2 q2) λc s3 ⟨z,H3,F,r3,k,e,M⟩=>?_) hm
 subst e;cases r3;exact zcr {H3,F,M}
def vW:(zal:Nat)<2^63:=by rw[zc5];decide
def EV:OpR X (zaP .Add) λx y H Q=>∃i j,x=.str i/\y=.str j/\i.length+j.length<=zal/\Q (.str<|i++j) H:=by
 intro pins s σ H x y v u Q I B F h;obtain⟨i,j,rfl,rfl,z,q⟩:=h;obtain⟨t,rfl⟩:=B;obtain⟨t',rfl⟩:=F;exact add_str (λt' tk=>{.str<|i++j,H,I.tok _,{_,rfl},q}) z
def vals1(r:Vals [x] us):∃u,us=[u]/\RelV x u:=by
 cases r with
 |cons r1 r2=>cases r2;exact{_,rfl,r1}
def vals2(r:Vals [x,y] us):∃u z,us=[u,z]/\RelV x u/\RelV y z:=by
 cases r with
 |cons r1 r2=>
  cases r2 with
  |cons r3 r4=>cases r4;exact{_,_,rfl,r1,r3}
def JO(B:X.calm=ca):CallR X (.builtin "max") λxs H Q=>∃i j,xs=[.int i,.int j]/\Q (.int<|if j>i then j else i) H:=by
 intro pins s σ H xs F Q I r h;obtain⟨i,j,rfl,q⟩:=h;obtain⟨u,G,rfl,⟨t,rfl⟩,⟨t',rfl⟩⟩:=vals2 r;refine max_two_ints (I.ok.hd B) λh' tk k=>{_,H,I.kept k,?_,q}
 by_cases z:j>i
 .rw[ci z,ci z];exact{_,rfl}
 .rw[cj z,cj z];exact{_,rfl}
def K4(B:X.calm=ca):CallR X (.builtin "min") λxs H Q=>∃i j,xs=[.int i,.int j]/\Q (.int<|if j<i then j else i) H:=by
 intro pins s σ H xs F Q I r h;obtain⟨i,j,rfl,q⟩:=h;obtain⟨u,G,rfl,⟨t,rfl⟩,⟨t',rfl⟩⟩:=vals2 r;refine min_two_ints (I.ok.hd B) λh' tk k=>{_,H,I.kept k,?_,q}
 by_cases z:j<i
 .rw[ci z,ci z];exact{_,rfl}
 .rw[cj z,cj z];exact{_,rfl}
def JI:CallR X (.type "int") λxs H Q=>(∃i,xs=[.int i]/\Q (.int i) H)\/∃k,xs=[.bl k]/\Q (.int<|if k then 1 else 0) H:=by
 intro pins s σ H xs z Q I r h;rcases h with⟨i,rfl,q⟩|⟨k,rfl,q⟩
 .obtain⟨u,rfl,t,rfl⟩:=vals1 r
  exact call_int_int {.int i,H,I,{_,rfl},q}
 .obtain⟨u,rfl,r1⟩:=vals1 r
  cases r1;exact call_int_bool {.int<|if k then 1 else 0,H,I.tok _,{_,rfl},q}
def qcm(K:zae)(x:V)(H:Hp)(n:Nat):Prop:=
 match x with
 |.str y=>y.length<=zal/\n=y.length
 |.byt y=>y.size<=zal/\n=y.size
 |.ref p=>(∃xs,SqL K H p xs/\n=xs.length)\/∃xs,SqT K H p xs/\n=xs.length
 |_=>False
def vA:CallR X (.builtin "len") λxs H Q=>∃x n,xs=[x]/\qcm X.K x H n/\Q (.int n) H:=by
 intro pins s σ H xs us Q I r h;obtain⟨x,n,rfl,e,q⟩:=h;obtain⟨u,rfl,N⟩:=vals1 r;have hl:=vW;have hs:zal=16777216:=zc5;cases x with
 |str y=>
  obtain⟨t,rfl⟩:=N;obtain⟨Y,B⟩:y.length<=zal/\n=y.length:=e;subst B;exact len_str (by lia) {.int _,H,I.tok _,{_,rfl},q}
 |byt y=>
  obtain⟨t,rfl⟩:=N;obtain⟨Y,B⟩:y.size<=zal/\n=y.size:=e;subst B;exact PySem.W.len_bytes (by lia) {.int _,H,I.tok _,{_,rfl},q}
 |ref p=>
  cases N;have B:(∃xs,SqL X.K H p xs/\n=xs.length)\/∃xs,SqT X.K H p xs/\n=xs.length:=e;rcases B with⟨xs,hx,B⟩|⟨xs,hx,B⟩
  .subst B
   obtain⟨M,G,F,U⟩:=I.list hx;have z:=G.length;exact Calls.call_len_list F.isList (by simp only[zay];lia) {.int xs.length,H,I.tok _,{_,by simp only[zay];rw[z]},q}
  .subst B
   obtain⟨M,G,F,U⟩:=I.tuple hx;have z:=G.length;exact len_tuple F (by simp only[zay];lia) {.int xs.length,H,I.tok _,{_,by simp only[zay];rw[z]},q}
 |_=>exact(show False from e).elim
end
structure ObjM(h:Heap)(x dx C:Addr)(mA:Str->Option Value):Prop where
 obj:h.get? x=bw (zcb C dx)
 ns:h.Ns1 dx mA
 ne:dx≠x
set_option tactic.hygienic true in
def JW{h:Heap}{dx:Addr}{mA:Str->Option Value}(n:h.Ns1 dx mA):∃od,h.get? dx=bw od/\∀name,PySem.W.lookIn name od=bw (mA name):=by
 obtain⟨o,es,ep,N,hd,G,_,U⟩:=n;refine{o,N,λname=>?_};have e:=U name;unfold nsFind findBy at e;rw[<- Array.find?_toList]at e;unfold PySem.W.lookIn;rw[hd];dsimp only;split
 .rename_i y q
  rw[q]at e;exact congrArg bw e
 .rename_i q
  rw[q]at e;have a:es.toList.any (·.refKey)=cf:=by
   rw[List.any_eq_false];intro y F;obtain⟨z,t,B⟩:=G y<|Array.mem_toList_iff.mp F;simp[DictEntry.refKey,B]
  have M:¬ es.toList.any (·.refKey)=ca:=by rw[a];exact zaD
  rw[cj M];exact congrArg bw e
def ObjM.look(I:ObjM h x dx C mA):∃od,PySem.W.InstAt h x (zcb C dx) C (bw od)/\∀name,PySem.W.lookIn name od=bw (mA name):=
 let ⟨od,ho,hl⟩:=JW I.ns
 {od,{I.obj,rfl,rfl,ho},hl}
section
variable {prog:zai}{w:World}{A:zan}{E:Value->zac->Prop}{s:zac}{K:zae}{x dx C f:Addr}{mA:Str->Option Value}{name:Str}{v:Value}
def RV(X:K.In s.heap)(I:ObjM s.heap x dx C mA)(N:zdu K C name=ca)(M:zdv K C=ca)
  (F:zby K (.ref C) name=bw bz) (G:mA name=bw v) (z:PySem.W.handedIn v=ca) (h:Q v {s with toks:=s.toks+1}) :
  wpAny (model prog w) A (getAttr (.ref x) name expr) Q E s:=by
 obtain⟨od,J,B⟩:=I.look;exact PySem.W.get_value X J (PySem.W.plainGet_of N).1 (PySem.W.findObj_own M F rfl<|by rw[B,G]) z h
def RB(X:K.In s.heap)(I:ObjM s.heap x dx C mA)
  (hs:zby K (.ref C) "__setattr__" = bw (bw<|.builtin "object.__setattr__")) (hp:zea K C=ca) (ht:zeb K C name=bw bz) (hh:zdv K C=ca)
  (hw:PySem.Within mA ns) (hsz:ns.length<=zal)
  (h:∀h',ObjM h' x dx C (λy=>if y=name then bw v else mA y)->za6 dx s.heap h'->Q () {s with heap:=h',toks:=s.toks+2}) :
  wpAny (model prog w) A (setAttr (.ref x) name v) Q E s:=by
 obtain⟨od,J,hl⟩:=I.look;refine PySem.W.set_plain X J hs<|PySem.W.osa_open (s:={s with toks:=s.toks+1}) (r:=bz) X J hp ht λb=>?_;obtain⟨cd,Y,N⟩:=PySem.W.any_some hh;have hx:s.heap.get? x=bw {.ref C,bw dx,.plain,#[]}:=I.obj;refine zaa<|zaf<|zaa<|zaa<|wpAny_loadPart hx<|zaa<|PySem.W.Looks.here (s:={s with toks:=s.toks+1}) (PySem.W.looks_clsIn X Y) ?_;rw[N];refine zaf (a:=bw dx)<|zaa<|zaf<|zaa ?_;refine wpAny_nsSet1 (s:={s with toks:=s.toks+1}) I.ns λh' B z=>?_
 obtain⟨oD,aa,U,M,G,F⟩:=B.count<|PySem.Within.cons name v hw;refine zaa<|wpAny_lookBehind M (by rw[G];exact pastItsLine_dict<|zaL F<|by rw[zaB];lia) ?_;exact zaf<|h _ {(z.2 _<|zaV I.ne).trans I.obj,B,I.ne} z
def N7(X:K.In s.heap)(F:zec K C=ca)
  (hi:zby K (.ref C) "__init__" = bw (bw<|.ref f)) (B:PySem.W.typeIn K (.ref f)=bw (.type "function"))
  (h:zbj (model prog w) (A.under<|.builtin "type.__call__" {.ref C::vs, kw}) (.call (.ref f) {.ref (s.heap.objs.size+1)::vs, kw}) (PySem.W.InitBack (s.heap.objs.size+1) R)
   {s with heap:=(s.heap.push zb1).push (zcb C s.heap.objs.size)}) :
  zbj (model prog w) A (.call (.ref C) {vs,kw}) R s:=by
 obtain⟨M,g,d,t,G⟩:=s;exact PySem.W.make_core (PySem.W.makes_of X F) (PySem.W.looks_findIn X hi) (λz=>PySem.W.bind_fn X z B) (.inl rfl) h
end
noncomputable def kG(f:Str)(v:V):List (Str×V)->List (Str×V)
 |[]=>[(f,v)]
 |(g,x)::r=>if g=f then(g,v)::r else(g,x)::kG f v r
theorem qP(f g:Str)(v:V):∀fs:List (Str×V),(kG f v fs).lookup g=if g=f then bw v else fs.lookup g
 |[]=>by
  show zbK g [(f,v)]=_;by_cases h:g=f
  .have z:(g == f)=ca:=beq_iff_eq.mpr h
   simp only[zbK,z,ci h]
  .have z:(g == f)=cf:=beq_eq_false_iff_ne.mpr h
   simp only[zbK,z,cj h]
 |(k,x)::r=>by
  have ih:=qP f g v r;rw[show kG f v ((k,x)::r)=(if k=f then(k,v)::r else(k,x)::kG f v r)from rfl];by_cases B:k=f
  .rw[ci B]
   by_cases h:g=k
   .have z:(g == k)=ca:=beq_iff_eq.mpr h
    simp only[zbK,z,ci<|h.trans B]
   .have z:(g == k)=cf:=beq_eq_false_iff_ne.mpr h
    simp only[zbK,z,cj λe:g=f=>h<|e.trans B.symm]
  .rw[cj B]
   by_cases h:g=k
   .have z:(g == k)=ca:=beq_iff_eq.mpr h
    simp only[zbK,z,cj λe:g=f=>B<|h.symm.trans e]
   .have z:(g == k)=cf:=beq_eq_false_iff_ne.mpr h
    simp only[zbK,z];exact ih
theorem qA(f:Str)(v:V):∀fs:List (Str×V),f∈(kG f v fs).map (·.1)/\∀g,g∈fs.map (·.1)->g∈(kG f v fs).map (·.1)
 |[]=>{by simp[kG],λg h=>by simp at h}
 |(k,x)::r=>by
  obtain⟨F,B⟩:=qA f v r;rw[show kG f v ((k,x)::r)=(if k=f then(k,v)::r else(k,x)::kG f v r)from rfl];by_cases z:k=f
  .rw[ci z]
   subst z;exact{by simp,λg h=>by simpa using h}
  .rw[cj z]
   refine{?_,λg h=>?_}
   .rw[zaj]
    exact zaq _ F
   .rw[zaj]at h ⊢
    rcases List.mem_cons.mp h with e|e
    .exact List.mem_cons.mpr<|.inl e
    .exact zaq _<|B g e
theorem rR(f:Str)(v:V):∀fs:List (Str×V),(kG f v fs).length<=fs.length+1
 |[]=>by simp[kG]
 |(k,x)::r=>by
  have ih:=rR f v r;rw[show kG f v ((k,x)::r)=(if k=f then(k,v)::r else(k,x)::kG f v r)from rfl];by_cases z:k=f
  .rw[ci z,zaB,zaB];lia
  .rw[cj z,zaB,zaB];lia
def RelO.some_of(r:RelO (bw v) o):∃u,o=bw u/\RelV v u:=by
 cases o with
 |none=>exact(show False from r).elim
 |some u=>exact{u,rfl,r}
def JL(r:RelV v u):PySem.W.handedIn u=ca:=by
 cases v with
 |non=>cases(show u=za8 from r);rfl
 |bl b=>cases(show u=zcX b from r);rfl
 |int i=>obtain⟨t,e⟩:=(show ∃t,u=zcF i t from r);cases e;rfl
 |str x=>obtain⟨t,e⟩:=(show ∃t,u=zcW x t from r);cases e;rfl
 |byt b=>obtain⟨t,e⟩:=(show ∃t,u=Value.bytes b t from r);cases e;rfl
 |flt b=>obtain⟨t,e⟩:=(show ∃t,u=Value.float b t from r);cases e;rfl
 |ref a=>cases(show u=zax a from r);rfl
 |ty n=>cases(show u=Value.type n from r);rfl
section
variable {P:zai}{w:World}{H H':Hp}{h h':Heap}{a C dx:Addr}{fs fs':List (Str×V)}
def y3(B:HOk P w H h)(e:H a=bw (.ins C dx fs)):∃mA,ObjM h a dx C mA/\(∀f,RelO (fs.lookup f)<|mA f)/\PySem.Within mA (fs.map (·.1))/\fs.length<=1000/\H dx=bw (.own a):=by
 obtain⟨d,z,F,G,mA,n,r,q⟩:=(show ObjOk P w H h a (.ins C dx fs)from B a _ e);exact{mA,{G,n,F},r,q,z,d}
end
structure Cls(K:zae)(C:Addr):Prop where
 pg:zdu K C Str.empty=ca
 hd:zdv K C=ca
 po:zea K C=ca
 sa:zby K (.ref C) "__setattr__" = bw (bw<|.builtin "object.__setattr__")
def Cls.get{K:zae}{C:Addr}(c:Cls K C)(f:Str):zdu K C f=ca:=c.pg
def NoAttr(K:zae)(C:Addr)(f:Str):Prop:=zby K (.ref C) f=bw bz
def NoAttr.taker{K:zae}{C:Addr}{f:Str}(n:NoAttr K C f):zeb K C f=bw bz:=by
 unfold zeb;rw[show zby K (.ref C) f=bw bz from n];rfl
section
variable {X:Cx}{pins:List (Addr×Obj)}{σ:St}{H:Hp}{s:zac}{a C dx:Addr}{fs:List (Str×V)}{f:Str}{v:V}{A:zan}{E:Value->zac->Prop}
def EH(I:Inv X pins σ H s)(e:H a=bw (.ins C dx fs))(c:Cls X.K C)(n:NoAttr X.K C f)(l:fs.lookup f=bw v)
  (h:∀u s',Inv X pins σ H s'->RelV v u->Q u s'):wpAny (model X.prog X.w) A (getAttr (.ref a) f b) Q E s:=by
 obtain⟨mA,O,r,_,_,_⟩:=y3 I.hok e;obtain⟨u,B,z⟩:=RelO.some_of (v:=v) (o:=mA f) (by rw[<- l];exact r f);exact RV I.kIn O (c.get f) c.hd n B (JL z)<|h u _ (I.tok _) z
def D8(I:Inv X pins σ H s)(e:H a=bw (.ins C dx fs))(c:Cls X.K C)(n:NoAttr X.K C f)(U:fs.length<1000)(G:RelV y u)
  (h:∀s',Inv X pins σ (upd H a<|.ins C dx<|kG f y fs) s'->Q () s'):wpAny (model X.prog X.w) A (setAttr (.ref a) f u) Q E s:=by
 obtain⟨mA,O,r,wi,_,B⟩:=y3 I.hok e;have F:(fs.map (·.1)).length<=zal:=by rw[zak,zc5];lia
 refine RB I.kIn O c.sa c.po n.taker c.hd wi F λh' O' sb=>h _ ?_
 have hd:∃o,h'.get? dx=bw o:=let ⟨o,_,_,e',_⟩:=O'.ns;{o,e'};refine I.write (x:=a) (e:=dx) (by rw[e];exact za0) (.inr B) (λb q N z=>(sb.2 b N).trans z) hd ?_;refine{by rw[aG O.ne];exact B,?_,O.ne,O'.obj,_,O'.ns,λg=>?_,λg M=>?_}
 .have:=rR f y fs;lia
 .show RelO ((kG f y fs).lookup g) (if g=f then bw u else mA g)
  rw[qP];by_cases q:g=f
  .rw[ci q,ci q];exact G
  .rw[cj q,cj q];exact r g
 .by_cases q:g=f
  .rw[q];exact(qA f y fs).1
  .refine(qA f y fs).2 g (wi g λz=>M ?_)
   show(if g=f then bw u else mA g)=bz;rw[cj q];exact z
def Inv.made(I:Inv X pins σ H s):Inv X pins σ (upd (upd H s.heap.objs.size<|.own<|s.heap.objs.size+1) (s.heap.objs.size+1)<|.ins C s.heap.objs.size [])
  {s with heap:=(s.heap.push zb1).push (zcb C s.heap.objs.size)}:=by
 have z:(s.heap.push zb1).get? s.heap.objs.size=bw zb1:=zaC s.heap rfl;have N:((s.heap.push zb1).push<|zcb C s.heap.objs.size).get? (s.heap.objs.size+1)=bw (zcb C s.heap.objs.size):=by
  have:=zaC (s.heap.push zb1) (o:=zcb C s.heap.objs.size) rfl
  rwa [zb2]at this
 have U:(s.heap.push zb1).Ns s.heap.objs.size λ_=>bz:={zb1,#[],_,z,rfl,(λe M=>absurd M<|by simp),λ_=>rfl};have G:=I.laid (a:=s.heap.objs.size) (o:=.own<|s.heap.objs.size+1) (h':=s.heap.push zb1) (t':=s.toks) (λb u q=>zam _ q) (zah _) {_,z};refine G.laid (a:=s.heap.objs.size+1) (o:=.ins C s.heap.objs.size []) (t':=s.toks) (λb u q=>zam _ q) (Nat.le_of_eq<|zb2 _ _) ?_;have B:s.heap.objs.size≠s.heap.objs.size+1:=zaE<|zcI _;refine{by rw[aG B,aJ],zaM _,B,N,λ_=>bz,(Heap.Ns1.of_empty U).at λo q=>zam _ q,λ_=>za0,λy F=>absurd rfl F}
def SS{prog:zai}{w:World}{env:Env}{e:Expr}{f:Str}{pos:Pos}{s:zac}{Q:Value->zac->Prop}(B:zaR e f env (eval e env)=eval e env)
  (h:wpAny (model prog w) A (eval e env) (λo z=>wpAny (model prog w) A (getAttr o f ca) Q E z) E s):wpAny (model prog w) A (eval (.Attribute e f pos) env) Q E s:=
 Attribute_any_ h (by rw[arm_eval_Attribute,B])
end
def qbq(K:zae)(ta:TE)(f:Str):TE:=λσ H Q=>ta σ H λx H1=>∃a C dx fs v,x=.ref a/\H1 a=bw (.ins C dx fs)/\Cls K C/\NoAttr K C f/\fs.lookup f=bw v/\Q v H1
def qbR(K:zae)(ta tv:TE)(f:Str):TS:=λD σ H=>tv σ H λy H1=>ta σ H1 λx H2=>∃a C dx fs,x=.ref a/\H2 a=bw (.ins C dx fs)/\Cls K C/\NoAttr K C f/\fs.length<1000 /\
 D.nx σ (upd H2 a<|.ins C dx<|kG f y fs)
section
variable {X:Cx}{o e value:Expr}{f:Str}{pos pos' tpos:Pos}{ta tv:TE}
def lW(M:PE X e ta)(U:zaR e f X.env (eval e X.env)=eval e X.env):PE X (.Attribute e f pos)<|qbq X.K ta f:=by
 intro pins s σ H Q I h;refine SS U<|c8 (M pins s σ H _ I h) λu W ⟨x,H1,F,N,a,C,dx,fs,v,ex,z,c,n,l,q⟩=>?_;subst ex;obtain rfl:u=zax a:=N;exact EH F z c n l λY s2 G B=>{v,H1,G,B,q}
def vY(F:PE X o ta)(N:PE X value tv)(hs:zaF value (bw<|.Attribute o f pos') pos.line X.env=pure cf):PS X (.Assign [.Attribute o f pos'] value pos)<|qbR X.K ta tv f:=by
 intro pins s σ H D I h;refine plainObj_wpAny_Assign_Attribute (c8 (N pins s σ H _ I h) λu Y ⟨y,H1,M,W,q⟩=>c8 (F pins Y σ H1 _ M q) λz s2 ⟨x,H2,U,rx,a,C,dx,fs,ex,B,c,n,l,q2⟩=>?_) hs;subst ex;obtain rfl:z=zax a:=rx;exact D8 U B c n l W λs3 G=>{σ,_,G,q2}
end
section
variable {X:Cx}{pins:List (Addr×Obj)}{σ:St}{H:Hp}{s:zac}{A:zan}{E:Value->zac->Prop}{Q:Value->zac->Prop}{c:Value}{b:Bool}
inductive TyOf(K:zae)(H:Hp):V->Value->Prop where
 | non:TyOf K H .non<|.type "NoneType"
 | bl (x:Bool):TyOf K H (.bl x)<|.type "bool"
 | int (i:Int):TyOf K H (.int i)<|.type "int"
 | str (x:Str):TyOf K H (.str x)<|.type "str"
 | flt (x:UInt64):TyOf K H (.flt x)<|.type "float"
 | lst {a:Addr} {xs:List V} (e:H a=bw (.lst xs)):TyOf K H (.ref a)<|.type "list"
 | frz {a:Addr} {o:Obj} {xs:List V} (e:H a=bw (.frz o<|.lst xs)):TyOf K H (.ref a)<|.type "list"
 | tup {a:Addr} {xs:List V} (e:H a=bw (.tup xs)):TyOf K H (.ref a)<|.type "tuple"
 | dK {a:Addr} {kvs:List (Key×V)} (e:H a=bw (.dK kvs)):TyOf K H (.ref a)<|.type "dict"
 | dT {a:Addr} {kvs:List (List Key×V)} (e:H a=bw (.dT kvs)):TyOf K H (.ref a)<|.type "dict"
 | ins {a C dx:Addr} {fs:List (Str×V)} (e:H a=bw (.ins C dx fs)) (cl:Cls K C) (ha:zby K (.ref C) "__class__" = bw (bw<|.builtin "object.__class__"))
   (hn:PySem.W.specialIn K (.builtin "object.__class__") "__get__" = bw (bw<|.builtin "getset_descriptor.__get__")) (htk:PySem.W.takesIn K (.builtin "object.__class__")=bw ca)
   (hm:PySem.W.mroIn K C (.type "object")=bw ca):TyOf K H (.ref a)<|.ref C
def JF(I:Inv X pins σ H s)(B:RelV x u)(ty:TyOf X.K H x t)(e:zdw X.K t c=bw b)(h:∀tk,Q (.bool b) {s with toks:=tk}) :
  wpAny (model X.prog X.w) A (call (.builtin "isinstance") [u,c]) Q E s:=by
 cases ty with
 |non=>cases(show u=za8 from B);exact zbp PySem.W.kitx_none I.kIn za0 e (λz=>nomatch z) h
 |bl y=>cases(show u=zcX y from B);exact zbp PySem.W.kitx_bool I.kIn za0 e (λz=>nomatch z) h
 |int i=>obtain⟨t,q⟩:=(show ∃t,u=zcF i t from B);cases q;exact zbp PySem.W.kitx_int I.kIn za0 e (λz=>nomatch z) h
 |str y=>obtain⟨t,q⟩:=(show ∃t,u=zcW y t from B);cases q;exact zbp PySem.W.kitx_str I.kIn za0 e (λz=>nomatch z) h
 |flt y=>obtain⟨t,q⟩:=(show ∃t,u=Value.float y t from B);cases q;exact zbp PySem.W.kitx_float I.kIn za0 e (λz=>nomatch z) h
 |@lst a xs ea=>
  cases(show u=zax a from B);obtain⟨_,_,n,_,h1⟩:=(show ObjOk X.prog X.w H s.heap a (.lst xs)from I.hok a _ ea);exact zbp PySem.W.kitx_list I.kIn {_,h1,rfl} e (λz=>nomatch z) h
 |@frz a ob xs ea=>
  cases(show u=zax a from B);obtain⟨_,_,_,n,_,h1⟩:=(show ObjOk X.prog X.w H s.heap a (.frz ob<|.lst xs)from I.hok a _ ea);exact zbp PySem.W.kitx_list I.kIn {_,h1,rfl} e (λz=>nomatch z) h
 |@tup a xs ea=>
  cases(show u=zax a from B);obtain⟨_,_,_,p⟩:=(show ObjOk X.prog X.w H s.heap a (.tup xs)from I.hok a _ ea);obtain⟨o,h1,h2,_⟩:=p;exact zbp PySem.W.kitx_tuple I.kIn {o,h1,h2} e (λz=>nomatch z) h
 |@dK a kvs ea=>
  cases(show u=zax a from B);obtain⟨_,_,vs,_,p⟩:=(show ObjOk X.prog X.w H s.heap a (.dK kvs)from I.hok a _ ea);obtain⟨o,es,ep,h1,h2,_⟩:=p;exact zbp zdx I.kIn {o,h1,h2.1} e (λz=>nomatch z) h
 |@dT a kvs ea=>
  cases(show u=zax a from B);obtain⟨_,_,xs,_,o,es,ep,h1,h2,_⟩:=(show ObjOk X.prog X.w H s.heap a (.dT kvs)from I.hok a _ ea);exact zbp zdx I.kIn {o,h1,h2.1} e (λz=>nomatch z) h
 |@ins a C dx fs ea cl ha hn htk hm=>
  cases(show u=zax a from B);obtain⟨mA,O,_⟩:=y3 I.hok ea;obtain⟨od,J,_⟩:=O.look;exact zbp (PySem.W.kitx_own (cl.get _) cl.hd ha hn htk hm) I.kIn J e (λz=>nomatch z) h
end
structure Room(k:Nat)(A:zan):Prop where
 hd:A.handled=bz
 dp:A.depth+3*k+5<recursionLimit
 un:A.units+16*k+200<cLine
def Room.mono(r:Room k A)(h:j<=k):Room j A:={r.hd,by have:=r.dp;lia,by have:=r.un;lia}
theorem Room.deeper(r:Room (k+1) A)(env:Env):Room k<|A.deeper env:=
 {r.hd,by have:=r.dp;show A.depth+1+3*k+5<_;lia,by have:=r.un;show A.units+3+16*k+200<_;lia}
theorem Room.in1(r:Room (k+1) A):Room k A.in1:=
 {r.hd,by have:=r.dp;show A.depth+3*k+5<_;lia,by have:=r.un;show A.units+1+16*k+200<_;lia}
def EE{A:zan}{C:Addr}{z:List Value}{kw:List (Str×Value)}:(A.under<|.builtin "type.__call__" {.ref C::z,kw}).depth=A.depth+1:=by
 first|rfl|simp[Around.under,Code.weight,Code.isCreation,Code.isGuard,Code.isCaller,Code.frames,Code.isFrame,guardIds]
def EU{A:zan}{C:Addr}{z:List Value}{kw:List (Str×Value)}:(A.under<|.builtin "type.__call__" {.ref C::z,kw}).units=A.units+1:=by
 first|rfl|simp[Around.under,Code.cUnits,Code.frames,Code.isFrame]
def Room.make(r:Room (k+1) A)(C:Addr)(z:List Value)(kw:List<|Str×Value):Room k<|A.under<|.builtin "type.__call__" {.ref C::z,kw}:=
 {r.hd,by have:=r.dp;rw[EE];lia,by have:=r.un;rw[EU];lia}
theorem Room.depth(r:Room k A):A.depth<recursionLimit:=by have:=r.dp;lia
theorem Room.units(r:Room k A):A.units+64<cLine:=by have:=r.un;lia
def Room.units0(r:Room k A):A.units<cLine:=by have:=r.un;lia
def U1:TA:=λ_ H Q=>Q [] H
def yE(ta:TE)(z:TA):TA:=λσ H Q=>ta σ H λx H1=>z σ H1 λxs H2=>Q (x::xs) H2
section
variable {X:Cx}{e:Expr}{es:List Expr}{te:TE}{t:TA}{pos:Pos}
def fK:PA X [] U1:=λ_ _ _ _ H Q I h=>Calls.spliced_nil {[],H,I,.nil,h}
def cR(z:PE X e te)(U:PA X es t)(hs:zag (e::es) X.env=(cf,eval e X.env)::zag es X.env:=by rfl):PA X (e::es)<|yE te t:=by
 intro pos pins s σ H Q I h;rw[hs];show wpAny _ _ (spliced<|(cf,eval e X.env)::zaJ pos (zag es X.env)) _ _ s;refine Calls.spliced_cons<|c8 (z pins s σ H _ I h) λu G ⟨x,H1,B,r1,M⟩=>?_;exact c8 (U pos pins G σ H1 _ B M) λW Y ⟨xs,H2,F,r2,N⟩=>{x::xs,H2,F,.cons r1 r2,N}
def qcp(t:TA):TE:=λσ H Q=>t σ H λxs H1=>xs.length<=zal/\∀p,H1 p=bz->Q (.ref p) (upd H1 p<|.tup xs)
def qcl(t:TA):TE:=λσ H Q=>t σ H λxs H1=>xs.length<=zal/\∀p,H1 p=bz->Q (.ref p) (upd H1 p<|.lst xs)
def YW{x1}(h:PA X es t):PE X (.Tuple es x1 pos)<|qcp t:=by
 intro pins s σ H Q I M;refine wpAny_Tuple_spliced<|c8 (h pos pins s σ H _ I M) λN B ⟨xs,H1,F,r,z,q⟩=>{by rw[<- r.length];exact z,?_};have G:H1 B.heap.objs.size=bz:=F.hok.fresh<|zah _;refine{.ref B.heap.objs.size,upd H1 B.heap.objs.size<|.tup xs,F.laid (t':=B.toks) (λb u e=>zam _ e) (zah _) ?_,rfl,q _ G};exact{z,N,r,{_,zaC _ rfl,rfl,_,rfl,rfl}}
def W8(h:PA X es t):PE X (.List es pos)<|qcl t:=by
 intro pins s σ H Q I M;refine wpAny_List_spliced<|c8 (h pos pins s σ H _ I M) λN B ⟨xs,H1,F,r,z,q⟩=>{by rw[<- r.length];exact z,?_};have G:H1 B.heap.objs.size=bz:=F.hok.fresh<|zah _;refine{.ref B.heap.objs.size,upd H1 B.heap.objs.size<|.lst xs,F.laid (t':=B.toks) (λb u e=>zam _ e) (zah _) ?_,rfl,q _ G};exact{z,N,0,r,zaC _ rfl}
end
abbrev Sp:=List V->Hp->VK->XK->Prop
abbrev LO:=List Env->Hp->zac->XK->Value->zac->Prop
structure Env0(P:zai)(w:World)(K:zae)(mg:Str->Option Value)(base:Heap)(A:zan)(outer:List Env)(s:zac)(H:Hp):Prop where
 frames:A.frames=bw outer
 mod:Mod K mg base
 bs:∀b o,base.get? b=bw o->s.heap.get? b=bw o/\H b=bz
 bsz:base.objs.size<=s.heap.objs.size
 funs:s.heap.FunFrames base outer
 frf:∀b∈frs outer,H b=bz
 tb:∃ps,H kO=bw (.tbl ps)
 hok:HOk P w H s.heap
 bare:zbW s.gens
def CE(z:List Env)(P:zai)(w:World)(H:Hp)(s:zac)(Q:VK)(u:Value)(s':zac):Prop:=
 ∃v H',s'.os=s.os/\zbW s'.gens/\Un (frs z) [] H H' s.heap s'.heap/\HOk P w H' s'.heap/\RelV v u/\Q v H'
def CR(CX:LO)(outer:List Env)(P:zai)(w:World)(H:Hp)(s:zac)(Q:VK)(E:XK)(r:Result)(s':zac):Prop:=
 match r with
 |.ok (.ret u)=>CE outer P w H s Q u s'
 |.ok _=>False
 |.error e=>CX outer H s E e s'
structure FnOk(P:zai)(w:World)(K:zae)(mg:Str->Option Value)(base:Heap)(CX:LO)(k:Nat)(f:Addr)(fd:zbk)(ps:List Str)(sp:Sp):Prop where
 len:∀vs H Q E,sp vs H Q E->vs.length=ps.length
 run:∀(A:zan) (outer:List Env) (s:zac) (H:Hp) (args:Args) (us:List Value) (vs:List V) (Q:VK) (E:XK),Room k A->Env0 P w K mg base A outer s H->BindsTo s fd args (ps.zip us)->Vals vs us->sp vs H Q E->
  zbj (model P w) A (.call (.ref f) args) (CR CX outer P w H s Q E) s
def Env0.make{P:zai}{w:World}{K:zae}{mg:Str->Option Value}{base:Heap}{A:zan}{z:List Env}{s:zac}{H:Hp}(e:Env0 P w K mg base A z s H)(C:Addr)(B:List Value)(kw:List<|Str×Value) :
  Env0 P w K mg base (A.under<|.builtin "type.__call__" {.ref C::B,kw}) z s H:={by first|exact e.frames|(simpa[Around.under,Code.envs,Code.isFrame,pushEnvs]using e.frames),e.mod,e.bs,e.bsz,e.funs,e.frf,e.tb,e.hok,e.bare}
theorem Env0.in1{P:zai}{w:World}{K:zae}{mg:Str->Option Value}{base:Heap}{A:zan}{z:List Env}{s:zac}{H:Hp}(e:Env0 P w K mg base A z s H) :
  Env0 P w K mg base A.in1 z s H:={e.frames,e.mod,e.bs,e.bsz,e.funs,e.frf,e.tb,e.hok,e.bare}
section
variable {X:Cx}{pins:List (Addr×Obj)}{σ:St}{H:Hp}{s s':zac}
def Inv.env0(I:Inv X pins σ H s):Env0 X.prog X.w X.K X.mg X.base X.A X.stack s H:=
 {I.ok.frames,I.ok.mod,I.bs,zaL I.ok.bsz I.sz,I.stack,I.stkFree,(let ⟨_,e⟩:=I.ok.tb;let ⟨_,e'⟩:=I.base.tbls _ _ e;{_,e'}),I.hok,I.bare}
def Inv.after(I:Inv X pins σ H s)(h:CE X.stack X.prog X.w H s Q u s'):EP X pins σ Q u s':=by
 obtain⟨v,H',M,B,un,F,r,q⟩:=h;obtain⟨N,g,d,t,G⟩:=s';obtain rfl:G=s.os:=M;exact{v,H',I.call (h':=N) (g':=g) (d':=d) (t':=t) (ch:=[]) un F B λb z=>absurd z<|by simp,r,q}
end
def qaZ(sp:Sp)(dvs:List V)(E:XK)(t:TA):TE:=λσ H Q=>t σ H λvs H1=>sp (vs++dvs) H1 Q E
def qaj(C:Addr)(sp:Sp)(dvs:List V)(E:XK)(t:TA):TE:=λσ H Q=>t σ H λvs H1=>∀x dx,H1 x=bz->H1 dx=bz->dx≠x->
 sp (.ref x::(vs++dvs)) (upd (upd H1 dx<|.own x) x<|.ins C dx []) (λv H2=>v=.non/\Q (.ref x) H2) E
def Binds(K:zae)(fd:zbk)(ps:List Str)(ds:List Value):Prop:=
 ∀(s:zac) (us:List Value),K.In s.heap->(us++ds).length=ps.length->BindsTo s fd {us,[]} (ps.zip<|us++ds)
def Binds.all{K:zae}{fd:zbk}{ps:List Str}(h:∀z:List Value,z.length=ps.length->zcd fd {z,[]}=pure (ps.zip z)):Binds K fd ps []:=λs z _ B=>by
 rw[zbL]at B ⊢;exact .of_eq<|h z B
def vR(CX:LO)(X:Cx)(E:XK):Prop:=∀(pins:List<|Addr×Obj) (σ:St) (H:Hp) (s:zac) (e:Value) (s':zac),Inv X pins σ H s->CX X.stack H s E e s'->X.xe e s'
section
variable {X:Cx}{CX:LO}{k:Nat}{f C:Addr}{fd:zbk}{ps:List Str}{sp:Sp}{dvs:List V}{ds:List Value}{E:XK}{x m:Str}{p pos apos:Pos}{e o:Expr}{es:List Expr}{ta:TE}{t:TA}
def YU(F:FnOk X.prog X.w X.K X.mg X.base CX k f fd ps sp)(G:Room k X.A)(M:Binds X.K fd ps ds)(hd:Vals dvs ds)(hx:vR CX X E)
  (I:Inv X pins σ H s) (r:Vals vs us) (h:sp (vs++dvs) H Q E):wpAny (model X.prog X.w) X.A (call (.ref f) us) (EP X pins σ Q) X.xe s:=by
 have r2:Vals (vs++dvs)<|us++ds:=r.append hd;have B:(us++ds).length=ps.length:=by rw[<- r2.length];exact F.len _ _ _ _ h
 refine wpAny_call<|zcJ (F.run X.A X.stack s H {us,[]} (us++ds) (vs++dvs) Q E G I.env0 (M s us I.kIn B) r2 h) λr s' z=>?_;cases r with
 |error e=>exact hx pins σ H s e s' I z
 |ok fl=>
  cases fl with
  |ret u=>exact I.after z
  |next=>exact zba z
  |brk=>exact zba z
  |cont=>exact zba z
def zG(F:FnOk X.prog X.w X.K X.mg X.base CX k f fd ps sp)(hr:Room k X.A)(Y:Gl X x)(hm:X.mg x=bw (.ref f))(N:zbM X.K (.ref f)=ca)(U:Binds X.K fd ps ds)(hd:Vals dvs ds)(hx:vR CX X E)
  (M:PA X (e::es) t) (z:(x == ("__debug__" : Str))=cf:=by decide) (he:zag (e::es) X.env=(cf,eval e X.env)::zag es X.env:=by rfl) (B:(zaJ pos<|zag es X.env).any (·.1)=cf:=by rfl) :
  PE X (.Call (.Name x p) (e::es) [] pos) (qaZ sp dvs E t):=by
 intro pins s σ H Q I h;refine zc6<|GC I Y hm ?_ z;refine PySem.W.callWith_K (h₀:=X.base) I.ok.mod.kin N (c8 (M pos pins s σ H _ I h) λus s1 ⟨vs,H1,G,r,q⟩=>{G.kIn,?_}) he B;exact YU F hr U hd hx G r q
structure Mk(K:zae)(C f:Addr):Prop where
 makes:zec K C=ca
 init:zby K (.ref C) "__init__" = bw (bw<|.ref f)
 fn:PySem.W.isFn K (.ref f)=ca
 kp:zbM K (.ref C)=ca
def M4(M:Mk X.K C f)(F:FnOk X.prog X.w X.K X.mg X.base CX k f fd ps sp)(Y:Room (k+1) X.A)(hb:Binds X.K fd ps ds)(hd:Vals dvs ds)
  (hx:vR CX X E) (I:Inv X pins σ H s) (r:Vals vs us)
  (h:∀x dx,H x=bz->H dx=bz->dx≠x->sp (.ref x::(vs++dvs)) (upd (upd H dx<|.own x) x<|.ins C dx []) (λv H2=>v=.non/\Q (.ref x) H2) E) :
  wpAny (model X.prog X.w) X.A (call (.ref C) us) (EP X pins σ Q) X.xe s:=by
 have G:=h (s.heap.objs.size+1) s.heap.objs.size (I.hok.fresh<|Nat.le_succ _) (I.hok.fresh<|zah _)<|zaE<|zcI _;have B:=Inv.made (C:=C) I;have r2:Vals (V.ref (s.heap.objs.size+1)::(vs++dvs))<|zax (s.heap.objs.size+1)::(us++ds):=.cons rfl<|r.append hd;have N:(zax (s.heap.objs.size+1)::us++ds).length=ps.length:=by
  have e:=r2.length;rw[F.len _ _ _ _ G]at e;exact e.symm
 refine wpAny_call (N7 (f:=f) I.kIn M.makes M.init (beq_iff_eq.mp M.fn)<|zcJ (F.run _ X.stack _ _ {zax (s.heap.objs.size+1)::us,[]} (zax (s.heap.objs.size+1)::(us++ds)) _ _ E (Y.make C us [])
  (B.env0.make C us []) (hb _ (zax (s.heap.objs.size+1)::us) B.kIn N) r2 G) λr s' z=>?_)
 cases r with
 |error e=>exact hx pins σ _ _ e s' B z
 |ok fl=>
  cases fl with
  |ret u=>
   obtain⟨v,H',U,rv,ev,W⟩:=B.after z;subst ev;exact{rv,{V.ref<|s.heap.objs.size+1,H',U,rfl,W}}
  |next=>exact zba z
  |brk=>exact zba z
  |cont=>exact zba z
def T9(M:Mk X.K C f)(F:FnOk X.prog X.w X.K X.mg X.base CX k f fd ps sp)(hr:Room (k+1) X.A)(Y:Gl X x)(hm:X.mg x=bw (.ref C))(U:Binds X.K fd ps ds)(hd:Vals dvs ds)(hx:vR CX X E)
  (N:PA X (e::es) t) (z:(x == ("__debug__" : Str))=cf:=by decide) (he:zag (e::es) X.env=(cf,eval e X.env)::zag es X.env:=by rfl) (B:(zaJ pos<|zag es X.env).any (·.1)=cf:=by rfl) :
  PE X (.Call (.Name x p) (e::es) [] pos) (qaj C sp dvs E t):=by
 intro pins s σ H Q I h;refine zc6<|GC I Y hm ?_ z;refine PySem.W.callWith_K (h₀:=X.base) I.ok.mod.kin M.kp (c8 (N pos pins s σ H _ I h) λus s1 ⟨vs,H1,G,r,q⟩=>{G.kIn,?_}) he B;exact M4 M F hr U hd hx G r q
end
structure FnScope(N P:List Str)(sc:Scope):Prop where
 kind:sc.kind=.function
 co:sc.isCoroutine=cf
 gen:sc.isGenerator=cf
 nd:N.Nodup
 pre:N.take P.length=P
 par:∀x∈P,sc.names.lookup x=bw .local\/sc.names.lookup x=bw .cell
 nofree:∀y∈sc.names,y.2≠.free
theorem xM{zbl:Str->Option zbN}:∀ {binds:List (Str×Value)} {m:Str->Option Value},(∀v,(x,v)∉binds)->bindL zbl binds m x=m x
 |[],_,_=>rfl
 |(n,v)::r,m,h=>by
  unfold bindL;rw[xM λw hw=>h w<|zaq _ hw];split
  .have:x≠n:=by rintro rfl;exact h v zar
   simp[this]
  .rfl
theorem w4{zbl:Str->Option zbN}:∀ {binds:List (Str×Value)} {m:Str->Option Value},(∀v,(x,v)∉binds)->bindC zbl binds m x=m x
 |[],_,_=>rfl
 |(n,v)::r,m,h=>by
  unfold bindC;rw[w4 λw hw=>h w<|zaq _ hw];split
  .rfl
  .have:x≠n:=by rintro rfl;exact h v zar
   simp[this]
theorem xV{zbl:Str->Option zbN}{x:Str}{v:Value}:∀ {P:List Str} {vs:List Value} {i:Nat} {m:Str->Option Value},P.Nodup->P[i]?=bw x->vs[i]?=bw v->zbl x=bw .local->
  bindL zbl (P.zip vs) m x=bw v
 |[],_,_,_,_,h,_,_=>by simp at h
 |_::_,[],_,_,_,_,h,_=>by simp at h
 |p::P,w::vs,0,m,nd,h1,h2,hk=>by
  simp at h1 h2;subst h1;subst h2;show bindL zbl ((p,w)::P.zip vs) m p=_;unfold bindL;rw[xM λv z=>(List.nodup_cons.mp nd).1 (zed z).1,ci hk];simp
 |p::P,w::vs,i+1,m,nd,h1,h2,hk=>by
  show bindL zbl ((p,w)::P.zip vs) m x=_;unfold bindL;exact xV (i:=i) (List.nodup_cons.mp nd).2 (by simpa using h1) (by simpa using h2) hk
theorem w9{zbl:Str->Option zbN}{x:Str}{v:Value}:∀ {P:List Str} {vs:List Value} {i:Nat} {m:Str->Option Value},P.Nodup->P[i]?=bw x->vs[i]?=bw v->zbl x≠bw .local->
  bindC zbl (P.zip vs) m x=bw v
 |[],_,_,_,_,h,_,_=>by simp at h
 |_::_,[],_,_,_,_,h,_=>by simp at h
 |p::P,w::vs,0,m,nd,h1,h2,hk=>by
  simp at h1 h2;subst h1;subst h2;show bindC zbl ((p,w)::P.zip vs) m p=_;unfold bindC;rw[w4 λv z=>(List.nodup_cons.mp nd).1 (zed z).1,cj hk];simp
 |p::P,w::vs,i+1,m,nd,h1,h2,hk=>by
  show bindC zbl ((p,w)::P.zip vs) m x=_;unfold bindC;exact w9 (i:=i) (List.nodup_cons.mp nd).2 (by simpa using h1) (by simpa using h2) hk
noncomputable def start(N:List Str)(vs:List V):St:=vs.map bw++zcu (N.length-vs.length) bz
noncomputable def i8(CX:LO)(P:zai)(w:World)(K:zae)(mg:Str->Option Value)(base:Heap)(N:List Str)(z:Str)(scope:Scope)(f:Addr)(F:Value)(A:zan)(outer:List Env)(s:zac)(H:Hp)(E:XK):Cx where
 prog:=P
 w:=w
 K:=K
 mg:=mg
 base:=base
 A:=A.deeper<|zaK z scope s.heap.objs.size f F
 N:=N
 s₀:=s
 H₀:=H
 env:=zaK z scope s.heap.objs.size f F
 outer:=outer
 stack:=zaK z scope s.heap.objs.size f F::outer
 ex:=[]
 calm:=ca
 fn:=λ_=>ca
 pn:=[]
 xe:=λe s'=>wpAny (model P w) (A.deeper<|zaK z scope s.heap.objs.size f F) (leaving (zaK z scope s.heap.objs.size f F) e) (λ_ B=>CX outer H s E e B) (λG B=>CX outer H s E G B) s'
def oU{sc:Scope}{n:Nat}{x:Str}(h:sc.names.lookup x=bw .cell):∃c,(zce n sc.names []).lookup x=bw c:=by
 have q:=PySem.W.cellsFrom_some sc.names n []<|.inl h;exact Option.isSome_iff_exists.mp q
def JH{CX:LO}{P:zai}{w:World}{K:zae}{mg:Str->Option Value}{base:Heap}{N ps:List Str}{F:Str}{scope:Scope}{f:Addr}{cd:Value}{A:zan}{B:List Env}{s s1:zac}{H:Hp}{E:XK}{us:List Value}{vs:List V}
  (S:FnScope N ps scope) (hd:A.handled=bz) (G:Env0 P w K mg base A B s H) (hl:vs.length=ps.length) (r:Vals vs us)
  (x:InCallC s s.heap.objs.size (bindL (zaK F scope s.heap.objs.size f cd).kindOf (ps.zip us) λ_=>bz) (zce (s.heap.objs.size+1) scope.names []) (bindC (zaK F scope s.heap.objs.size f cd).kindOf (ps.zip us) λ_=>bz) s1) :
  Inv (i8 CX P w K mg base N F scope f cd A B s H E) [] (start N vs) H s1:=by
 have af:ps.length<=N.length:=by have:=congrArg zbq S.pre;rw[zb3]at this;lia
 obtain⟨h1,tk,rfl,hk⟩:=x.done;have M:∀b:Addr,b∉(i8 CX P w K mg base N F scope f cd A B s H E).ex:=λb z=>absurd (show b∈([]:List Addr)from z)<|by simp
 refine⟨{G.mod,S.kind,rfl,rfl,zah _,λy z c h1 h2=>?_,λy U=>?_,λy c _ h=>?_,λ_=>hd,Around.frames_deeper G.frames,.inr {rfl,rfl},λb z=>absurd z<|M b,G.bs,G.bsz,λb _ _=>M b,λb z=>absurd z<|M b,G.funs,G.frf,G.tb},
  rfl,G.bare,Un.kept hk,{_,x.toInCall.ns,λi y v h1 h2 h3=>?_},λy c h=>{_,x.cell y c h},G.hok.fresh<|zah _,λy c h=>?_,λp W=>absurd (show p∈([]:List<|Addr×Obj)from W)<|by simp,G.hok.kept hk,?_⟩
 .exact name_of_addr x.apart (zbz h1)<|zbz h2
 .have U:scope.names.lookup y=bw .cell\/scope.names.lookup y=bw .free:=U
  rcases U with U|U
  .exact oU U
  .exact absurd rfl<|S.nofree _<|zbz U
 .exact zdp<|x.above y c<|zbz h
 .have hi:i<vs.length:=by
   unfold start at h2;by_cases hi:i<vs.length
   .exact hi
   .rw[zdy<|by simpa using hi]at h2
    rw[List.getElem?_replicate]at h2;split at h2 <;> cases h2
  have ha:vs[i]?=bw v:=by
   unfold start at h2;rw[zee (by simpa using hi),zav]at h2;cases e:vs[i]? with
   |none=>rw[e]at h2;cases h2
   |some a=>rw[e]at h2;cases h2;rfl
  obtain⟨u,hu,rv⟩:=r.get ha;have W:ps[i]?=bw y:=by
   rw[<- S.pre,List.getElem?_take_of_lt<|by lia];exact h1
  have Y:ps.Nodup:=by rw[<- S.pre];exact S.nd.sublist<|zdz _ _
  refine{u,rv,?_};rcases S.par y (zap W)with k|k
  .exact .inl {k,xV Y W hu k}
  .obtain⟨c,e⟩:=oU (n:=s.heap.objs.size+1) k
   refine .inr {.inl k,c,e,?_};have q:=x.cell y c e;rw[w9 Y W hu<|by show scope.names.lookup y≠_;rw[k];decide]at q;exact q
 .exact G.hok.fresh<|zdp<|x.above y c<|zbz h
 .unfold start
  show _=N.length;rw[zbm,zak,List.length_replicate]
  lia
def VZ{CX:LO}{P:zai}{w:World}{K:zae}{mg:Str->Option Value}{base:Heap}{k:Nat}{f:Addr}{name B:Str}{G:Arguments}{M:List Stmt}{scope:Scope}{dV kV ac pm F ct oc:Value}{an od:Option Addr}
  {af:Array (Option Value)} {N ps:List Str} {sp:Sp} (lk:K.lookup f=bw {oc,od,.func<|zbe name B G M scope dV kV ac pm an F ct,af}) (ae:zcv K F B=ca) (S:FnScope N ps scope)
  (ab:∀vs H Q E,sp vs H Q E->vs.length=ps.length)
  (aa:∀(A:zan) (z:List Env) (s:zac) (H:Hp) (vs:List V) (Q:VK) (E:XK), Room k (A.deeper<|zaK B scope s.heap.objs.size f F) -> sp vs H Q E ->
   ∃t,PSs (i8 CX P w K mg base N B scope f F A z s H E) M t/\t {nx:=λ_ H'=>Q .non H',rt:=Q} (start N vs) H) :
  FnOk P w K mg base CX (k+1) f (zbe name B G M scope dV kV ac pm an F ct) ps sp:=by
 refine{ab,λA z s H args us vs Q E hr e0 hb r hsp=>?_};have hl:=ab _ _ _ _ hsp;have KX:K.In s.heap:=e0.mod.kin.keeps λb o e=>(e0.bs b o e).1
 have ai:s.heap.NoLimit:=e0.mod.nolimit.keeps λb o e=>(e0.bs b o e).1
 have Y:∀y∈ps.zip us,scope.names.lookup y.1=bw .local\/(scope.names.lookup y.1=bw .cell/\((zce (s.heap.objs.size+1) scope.names []).lookup y.1).isSome=ca):=by
  rintro⟨n,v⟩ hy;rcases S.par n (zed hy).1 with q|q
  .exact .inl q
  .exact .inr {q,PySem.W.cellsFrom_some _ _ _<|.inl q}
 refine codeAny_call_function hr.depth (KX _ _ lk) rfl S.co S.gen rfl (PySem.W.codeRec_of KX ae)<|hb _ _ _ _ ?_;refine wpAny_newFunctionEnv_cells S.kind Y λenv he s1 x=>?_
 subst he;refine{ai.keeps x.toInCall.keep,codeAny_func ?_};obtain⟨t,ht,hq⟩:=aa A z s H vs Q E (hr.deeper _) hsp;have I:Inv (i8 CX P w K mg base N B scope f F A z s H E) [] (start N vs) H s1:=JH S hr.hd e0 hl r x;refine za7 (ht [] s1 (start N vs) H _ I hq) (λfl s' hs=>?_) λe s' hs=>hs
 have fin:∀ {U:St} {H':Hp} {v:V} {u:Value},Inv (i8 CX P w K mg base N B scope f F A z s H E) [] U H' s'->RelV v u->Q v H'->CE z P w H s Q u s':=
  λ{U H' v u} J rv q=>{v,H',J.os,J.bare,J.base,J.hok,rv,q}
 cases fl with
 |ret u=>
  obtain⟨v,U,H',J,rv,q⟩:=hs;exact fin J rv q
 |next=>
  obtain⟨U,H',J,q⟩:=hs;exact fin (v:=V.non) (u:=za8) J rfl q
 |brk=>
  obtain⟨_,_,_,q⟩:=hs;exact zba q
 |cont=>
  obtain⟨_,_,_,q⟩:=hs;exact zba q
section
variable {X:Cx}{x:Str}{p pos:Pos}{e:Expr}{es:List Expr}{t:TA}{id T:String}{r:List V->Hp->VK->Prop}
def tCB(r:List V->Hp->VK->Prop)(t:TA):TE:=λσ H Q=>t σ H λvs H1=>r vs H1 Q
def BQ(G:CallR X (.builtin id) r)(W:Gl X x)(hm:X.mg x=bz)(U:zaI x=bw (.builtin id))(M:PA X (e::es) t)(F:x ≠ "__name__" := by decide)(z:(x == ("__debug__" : Str))=cf:=by decide)
  (he:zag (e::es) X.env=(cf,eval e X.env)::zag es X.env:=by rfl) (B:(zaJ pos<|zag es X.env).any (·.1)=cf:=by rfl):PE X (.Call (.Name x p) (e::es) [] pos)<|tCB r t:=by
 intro pins s σ H Q I h;refine zc6<|l7 I W hm U ?_ F z;exact PyProof.Rows.callWith_builtin1 (c8 (M pos pins s σ H _ I h) λus Y ⟨vs,H1,N,r1,q1⟩=>G pins Y σ H1 vs us Q N r1 q1) he B
def mH(G:CallR X (.type T) r)(W:Gl X x)(hm:X.mg x=bz)(U:zaI x=bw (.type T))(M:PA X (e::es) t)(F:x ≠ "__name__" := by decide)(z:(x == ("__debug__" : Str))=cf:=by decide)
  (he:zag (e::es) X.env=(cf,eval e X.env)::zag es X.env:=by rfl) (B:(zaJ pos<|zag es X.env).any (·.1)=cf:=by rfl):PE X (.Call (.Name x p) (e::es) [] pos)<|tCB r t:=by
 intro pins s σ H Q I h;refine zc6<|l7 I W hm U ?_ F z;exact zc4 (c8 (M pos pins s σ H _ I h) λus Y ⟨vs,H1,N,r1,q1⟩=>G pins Y σ H1 vs us Q N r1 q1) he B
end
end L2
namespace HT
open PySem PyProof.Rows
noncomputable def lexLt:List Int->List Int->Bool
 |[],[]=>cf
 |[],_::_=>ca
 |_::_,[]=>cf
 |x::xs,y::ys=>if x=y then lexLt xs ys else decide (x<y)
def ET(x y:Int)(xs ys:List Int):lexLt (x::xs) (y::ys)=if x=y then lexLt xs ys else decide (x<y):=rfl
def wN:lexLt [] []=cf:=rfl
def tK(y:Int)(ys:List Int):lexLt [] (y::ys)=ca:=rfl
def tM(x:Int)(xs:List Int):lexLt (x::xs) []=cf:=rfl
def N4(A:zan)(s:zac)(a:Int)(t:Tok)(c:Int)(u:Tok):∃e,zc7 A s (.int a t) (.int c u) e/\(e=ca↔a=c):=
 {(a == c),SeqAt.EqAt.int_int a t c u,by simp}
def L7(A:zan)(s:zac)(a:Int)(t:Tok)(c:Int)(u:Tok)(prog:zai)(w:World)(E:Value->zac->Prop)(Q:Value->zac->Prop)(h:Q (.bool<|decide (a<c)) s) :
  wpAny (model prog w) A (richCompare .Lt (.int a t)<|.int c u) Q E s:=
 (PyProof.Rows.lt_int h:wpAny (model prog w) A (zaA .Lt (.int a t)<|.int c u) Q E s)
section
open PySem.SeqAt
open PySem.AutoSeq1 (wpAny_loadPart')
open PySem.MeetsSeq PySem.MeetsSeq2 PySem.MeetsSeq3
def wQ(l b:Addr)(items z:Array Value)(n n2:Nat)(dd af:Option Addr)(sl ae:Array<|Option Value)(ns ms:List Int)(hi:zbn items.toList ns)(hj:zbn z.toList ms) :
  Meets (zb8.«tuple.__lt__» {[.ref l,.ref b],[]})
   (λ_ R s => s.heap.get? l = bw {cls := .type "tuple", dict:=dd, data := .seq items n, slots:=sl} /\ s.heap.get? b = bw {cls := .type "tuple", dict:=af, data := .seq z n2, slots:=ae} /\
    R (.ok<|.ret<|.bool<|lexLt ns ms) s):=
 .of_wp λprog w A R s h=>by
  obtain⟨hp,g,d,tk,os⟩:=s;obtain⟨hl,hb,h⟩:=h;have f2:=AutoSeq1.sub_tuple_tuple;have z1:items.size=ns.length:=by rw[<- hi.length];simp
  have z2:z.size=ms.length:=by rw[<- hj.length];simp
  wp_walk using zb4 hl,zb4 hb,zc0 _ (λrest b s'=>b.1=bz/\s'={hp,g,d,tk,os}/\∃(vs ws:List Value) (G F:List Int),rest=vs.zip ws /\
   zbn vs G/\zbn ws F/\G.length+z.size=F.length+items.size/\R (.ok<|.ret<|.bool<|lexLt G F) {hp,g,d,tk,os}) _
  case turn=>
   rintro⟨y,x⟩ rest b s' ⟨aa,rfl,vs,ws,G,F,M,Y,N,B,U⟩;cases Y with
   |nil=>rw[List.zip_nil_left]at M;cases M
   |cons a t hvi'=>
    cases N with
    |nil=>rw[List.zip_nil_right]at M;cases M
    |cons c u hwi'=>
     rw[zef]at M;injection M with hyx hrest
     injection hyx with hy hx
     subst hy hx;rw[ET]at U;simp only[zaB]at B;obtain⟨e,he,W⟩:=N4 A.in1 {hp,g,d,tk,os} a t c u;refine zaa<|he prog w _ _ ?_;cases e with
     |true=>
      rw[ci<|W.mp rfl]at U
      wp_walk
      exact{rfl,rfl,_,_,_,_,hrest,hvi',hwi',by lia,U}
     |false=>
      rw[cj λq=>absurd (W.mpr q) zaD]at U;have ad:=L7 A.in1 {hp,g,d,tk,os} a t c u prog w
      wp_walk using ad
      exact{_,rfl,by simpa using U}
  case fin=>
   rintro⟨b1,b2⟩ s' ⟨aa,rfl,vs,ws,G,F,M,Y,N,B,U⟩;simp only at aa;subst aa;have hv:lexLt G F=decide (items.size<z.size):=by
    cases Y with
    |nil=>
     cases N with
     |nil=>
      simp only[zbO]at B;rw[wN];exact(decide_eq_false<|by lia).symm
     |cons c u hw=>
      simp only[zbO,zaB]at B;rw[tK];exact(decide_eq_true<|by lia).symm
    |cons a t hv=>
     cases N with
     |nil=>
      simp only[zbO,zaB]at B;rw[tM];exact(decide_eq_false<|by lia).symm
     |cons c u hw=>
      rw[zef]at M;cases M
   rw[hv]at U
   wp_walk
   exact{_,rfl,by simpa[Builtin.Tuple.tupleCompareSizes]using U}
  case h=>
   exact{rfl,rfl,items.toList,z.toList,ns,ms,rfl,hi,hj,by lia,h}
end
section
variable {prog:zai}{w:World}{A:zan}{E:Value->zac->Prop}{s:zac}
def D5(hl:IsTup s.heap l items)(hb:IsTup s.heap b items2)(hi:zbn items.toList ns)(hj:zbn items2.toList ms)
  (hu:A.units<cLine) (h:Q (.bool<|lexLt ns ms) s):wpAny (model prog w) A (zaA .Lt (.ref l)<|.ref b) Q E s:=by
 obtain⟨⟨cls,dd,data,sl⟩,Y,W,n,hd⟩:=id hl;obtain⟨⟨aa,N,U,M⟩,z,B,n2,G⟩:=id hb;simp only at W hd B G;subst W hd B G;exact richCompare_meets_room (op:=.Lt) {_,Y,rfl} {_,z,rfl} PySem.F.slot_tuple_lt PySem.F.entry_tuple_lt (PySem.F.args_tuple_lt_2 _ _) (wQ l b items items2 n n2 dd N sl M ns ms hi hj)
  {Y,z,show zcX (lexLt ns ms)≠Value.notImplemented/\Q (.bool<|lexLt ns ms) s from{(λx=>nomatch x),h}} hu
def SO(ht:IsTup s.heap t vs.toArray)(hb:IsTup s.heap b ws.toArray)(hv:vs≠[])
  (h1:ws=[]->Q (.ref t) s) (h2:ws≠[]->Q (.ref s.heap.objs.size) {s with heap:=s.heap.push {cls:=.type "tuple",data:=.seq (vs++ws).toArray} })
  (hsz:vs.length+ws.length<=zal):wpAny (model prog w) A (zaP .Add (.ref t)<|.ref b) Q E s:=by
 obtain⟨⟨cls,dd,data,sl⟩,N,Y,n,hd⟩:=id ht;obtain⟨⟨ad,G,U,F⟩,z,B,W,M⟩:=id hb;simp only at Y hd B M;subst Y hd B M;have e:vs.toArray++ws.toArray=(vs++ws).toArray:=by simp
 by_cases hw:ws=[]
 .exact concat_meets {_,N,rfl} {_,z,rfl} zeg seq_tuple_add zeh zei (zej _ _)
   (tuple_addW1 t b vs.toArray ws.toArray n W dd G sl F (by simpa using hv)<|by simp[hw]) {N,z,h1 hw}
 .refine concat_meets {_,N,rfl} {_,z,rfl} zeg seq_tuple_add zeh zei (zej _ _)
   (tuple_addW2 t b vs.toArray ws.toArray n W dd G sl F (by simpa using hv) (by simpa using hw)<|by rw[zay,zay];exact hsz) {N,z,?_}
  rw[e];exact h2 hw
noncomputable def sIx(n d:Nat):Option Int->Nat
 |none=>d
 |some v=>if v<0 then(v+(n:Int)).toNat else min v.toNat n
def WZ(n d:Nat)(hd:d<=n)(o:Option Int):sIx n d o<=n:=by
 cases o with
 |none=>exact hd
 |some v=>
  show(if v<0 then(v+(n:Int)).toNat else min v.toNat n)<=n;by_cases z:v<0
  .rw[ci z];lia
  .rw[cj z];exact Nat.min_le_right _ _
def F9(v:Int)(n d:Nat):(if v<0 then max (v+(n:Int)) 0 else min v (n:Int))=((sIx n d<|bw v:Nat):Int):=by
 show(if v<0 then max (v+(n:Int)) 0 else min v (n:Int))=(((if v<0 then(v+(n:Int)).toNat else min v.toNat n):Nat):Int);by_cases z:v<0
 .simp only[ci z];lia
 .simp only[cj z];lia
def D9(lo hi:Option Int)(n:Nat):zek lo hi 1 (n:Int)=(((sIx n 0 lo:Nat):Int),((sIx n n hi:Nat):Int)):=by
 have h1:¬ ((1:Int)<0):=by lia
 unfold zek;simp only[h1,if_false];refine Prod.ext ?_ ?_
 .cases lo with
  |none=>rfl
  |some v=>exact F9 v n 0
 .cases hi with
  |none=>rfl
  |some v=>exact F9 v n n
def D3(i j:Nat):zdA (i:Int) (j:Int) 1=j-i:=by
 unfold zdA;have h1:(1:Int)>0:=by lia
 simp only[h1,if_true,Int.ediv_one];split <;> lia
def uC(p:zbP v o)(h:Q o s):wpAny (model prog w) A (Builtin.Slice.slicePartIndex v) Q E s:=by
 cases p with
 |none=>exact slicePart_none h
 |int i t=>exact slicePart_int h
def iU{M:Addr}{F G:Value}{lo hi:Option Int}{n:Nat}{Q:Int×Int×Nat->zac->Prop}(hs:s.heap.IsSliceOf M F G .none)(U:zbP F lo)(N:zbP G hi)
  (h:Q (((sIx n 0 lo:Nat):Int),1,sIx n n hi-sIx n 0 lo) s):wpAny (model prog w) A (Builtin.Slice.sliceApplied (.ref M)<|pure (n:Int)) Q E s:=by
 obtain⟨Y,B,W,z⟩:=id hs;unfold Builtin.Slice.sliceApplied Builtin.Slice.sliceFields;refine zaa<|zaa<|zaT B z (x:=F) rfl<|zaa<|zaT B z (x:=G) rfl<|zaa<|zaT B z (x:=.none) rfl<|zaf ?_;refine zaa<|slicePart_none ?_;show wpAny _ _ (if((1:Int) == 0)=ca then _ else _) _ _ s;rw[cj<|by decide];refine zaa<|uC U<|zaa<|uC N<|zaa<|zaf ?_;show wpAny _ _ (match zek lo hi 1 (n:Int)with|(lo,hi)=>pure (lo,(1:Int),zdA lo hi 1)) _ _ s;rw[D9 lo hi n];show wpAny _ _ (pure (((sIx n 0 lo:Nat):Int),(1:Int),zdA ((sIx n 0 lo:Nat):Int) ((sIx n n hi:Nat):Int) 1)) _ _ s;rw[D3];exact zaf h
def NZ(xs:Array Value)(i k:Nat):((zau k).filterMap λ(m:Nat)=>xs[((i:Int)+(m:Int)*1).toNat]?).toArray=((xs.toList.drop i).take k).toArray:=by
 have e:(λ(m:Nat)=>xs[((i:Int)+(m:Int)*1).toNat]?)=λm=>xs[i+m]?:=by
  funext m;have:((i:Int)+(m:Int)*1).toNat=i+m:=by lia
  rw[this]
 rw[e];have:=pick_run xs i k;rw[List.filterMap_map]at this;have z:((λx=>xs[x]?) ∘ λx=>i+x)=λm=>xs[i+m]?:=rfl
 rw[z]at this;rw[this]
def nT{t G:Addr}{items:Array Value}{W Y:Value}{lo hi:Option Int}{Q:Value->zac->Prop}(B:IsTup s.heap t items)(hs:s.heap.IsSliceOf G W Y .none)(pl:zbP W lo)(pu:zbP Y hi)
  (hw:¬ (sIx items.size 0 lo=0/\sIx items.size items.size hi=items.size))
  (h:Q (.ref s.heap.objs.size) {s with heap:=s.heap.push {cls:=.type "tuple",data:=.seq ((items.toList.drop<|sIx items.size 0 lo).take<|sIx items.size items.size hi-sIx items.size 0 lo).toArray} })
  (hsz:items.size<=zal):wpAny (model prog w) A (zbA (.ref t)<|.ref G) Q E s:=by
 have z:sizeOk<|.seq ((items.toList.drop<|sIx items.size 0 lo).take<|sIx items.size items.size hi-sIx items.size 0 lo).toArray:=by
  show((items.toList.drop<|sIx items.size 0 lo).take<|sIx items.size items.size hi-sIx items.size 0 lo).toArray.size<=zal;rw[zay,zb3,zel,zbY]
  lia
 have hj:sIx items.size items.size hi<=items.size:=WZ _ _ (zah _) hi;obtain⟨os,U,F,ad⟩:=id hs;have M:s.TypeIs (.ref G) "slice" := {os,U,F};unfold zbA
 try with_reducible refine zbg ?_
 first|refine zaa (zaf ?_)|skip
 refine zaa<|wpAny_sequenceKey B.typeIs (by decide) ?_;refine zaa (zbQ (name:=za1 "__getitem__") B.typeIs zdB
  (zbo zdB B.typeIs entry_tuple_getitem ?_<|args_tuple_getitem _ _))
 show wpAny _ _ (zd3 (.ref t) >>= _) _ _ s;refine zaa<|tupleItemsOf_ B ?_;refine zaa<|zcK M ?_;rw[ci<|by decide];refine zaa<|iU hs pl pu ?_;have N:¬ ((((sIx items.size 0 lo:Nat):Int) == 0 && (1:Int) == 1 && (sIx items.size items.size hi-sIx items.size 0 lo) == items.size)=ca):=by
  intro q;rw[zaS,zaS]at q;have q1:((sIx items.size 0 lo:Nat):Int)=0:=eq_of_beq q.1.1;have q2:sIx items.size items.size hi-sIx items.size 0 lo=items.size:=eq_of_beq q.2;exact hw {by lia,by lia}
 show wpAny _ _ (if(((sIx items.size 0 lo:Nat):Int) == 0 && (1:Int) == 1 && (sIx items.size items.size hi-sIx items.size 0 lo) == items.size)=ca then _ else _) _ _ s;rw[cj N,NZ]
 first
  | exact zaa (m:=zdC _)<|zbR (zaf {_,rfl,zaf h}) z
  | exact zaa (m:=zdC _)<|zbR (zaa<|zaf<|zaf {_,rfl,zaf h}) z
  | exact zaa<|zaa (m:=zdC _)<|zbR (zaf<|zaf {_,rfl,zaf h}) z
  | exact zaa<|zaa (m:=zdC _)<|zbR (zaf {_,rfl,zaf h}) z
end
end HT
namespace L2
open PySem PySem.Spec PyProof.Rows
abbrev TO:=St->Hp->(Option Int->Hp->Prop)->Prop
def PO(X:Cx)(e:Option Expr)(t:TO):Prop:=
 ∀(pins:List<|Addr×Obj) (s:zac) (σ:St) (H:Hp) (Q:Option Int->Hp->Prop),Inv X pins σ H s->t σ H Q->
  wpAny (model X.prog X.w) X.A (evalPart e X.env) (λu s'=>∃o H',Inv X pins σ H' s'/\zbP u o/\Q o H') X.xe s
def UE:TO:=λ_ H Q=>Q bz H
def qay(t:TE):TO:=λσ H Q=>t σ H λx H1=>∃i,x=.int i/\Q (bw i) H1
def intsAre_of:∀ {z:List Value},Vals (ns.map V.int) z->zbn z ns:=by
 induction ns with
 |nil=>intro z r;rw[zcf]at r;cases r;exact .nil
 |cons n ns ih=>
  intro z r;rw[zaj]at r;cases r with
  |cons r1 r2=>
   obtain⟨t,e⟩:=r1;subst e;exact .cons n t<|ih r2
section
variable {X:Cx}{e:Expr}{te:TE}{lo hi:Option Expr}{tl th:TO}{pos p2:Pos}
def T1:PO X bz UE:=by
 intro pins s σ H Q I h;rw[evalPart_none];exact zaf {bz,H,I,.none,h}
def T3(h:PE X e te):PO X (bw e)<|qay te:=by
 intro pins s σ H Q I hw;rw[evalPart_some];refine c8 (h pins s σ H _ I hw) λu F ⟨x,H1,z,r1,B⟩=>?_
 obtain⟨i,rfl,q⟩:=B;obtain⟨t,rfl⟩:=r1;exact{bw i,H1,z,.int i t,q}
def SlR(X:Cx)(r:V->Option Int->Option Int->Hp->VK->Prop):Prop:=
 ∀(pins:List<|Addr×Obj) (s:zac) (σ:St) (H:Hp) (x:V) (v vl vu:Value) (lo hi:Option Int) (sl:Addr) (Q:VK),Inv X pins σ H s->RelV x v->s.heap.IsSliceOf sl vl vu .none->zbP vl lo->zbP vu hi->r x lo hi H Q->
  ∃T id,typeLookup (.type T) "__getitem__" = pure (bw<|.builtin id)/\s.TypeIs v T/\wpAny (model X.prog X.w) X.A (zbA v<|.ref sl) (EP X pins σ Q) X.xe s
def SlR.or(h:SlR X r)(h':SlR X r'):SlR X λx lo hi H Q=>r x lo hi H Q\/r' x lo hi H Q:=by
 intro pins s σ H x v G M lo hi F Q I N hs B z q;rcases q with q|q
 .exact h pins s σ H x v G M lo hi F Q I N hs B z q
 .exact h' pins s σ H x v G M lo hi F Q I N hs B z q
def tSl(r:V->Option Int->Option Int->Hp->VK->Prop)(te:TE)(tl th:TO):TE:=λσ H Q=>te σ H λx H1=>tl σ H1 λl H2=>th σ H2 λu z=>r x l u z Q
def NJ(hr:SlR X r)(he:PE X e te)(hl:PO X lo tl)(W:PO X hi th):PE X (.Subscript e (.Slice lo hi bz p2) pos)<|tSl r te tl th:=by
 intro pins s σ H Q I h;refine Subscript_<|c8 (he pins s σ H _ I h) λv s1 ⟨x,H1,N,r1,q1⟩=>?_;refine wpAny_Slice<|c8 (hl pins s1 σ H1 _ N q1) λF s2 ⟨l,H2,I2,pl,q2⟩=>c8 (W pins s2 σ H2 _ I2 q2) λB z ⟨u,G,M,pu,Y⟩=>?_;rw[evalPart_none];refine zaf ?_;have U:Inv X pins σ G {z with heap:=z.heap.push {cls:=.type "slice",data:=.fields #[F,B,.none]} }:=M.kept (t':=z.toks) λb ob q=>zam _ q
 obtain⟨T,id,hT,ht,hg⟩:=hr pins {z with heap:=z.heap.push {cls:=.type "slice",data:=.fields #[F,B,.none]} } σ G x v F B l u z.heap.objs.size Q U r1 (Heap.IsSliceOf.new ..) pl pu Y;show wpAny (model X.prog X.w) X.A (subscriptTail e (.Slice lo hi bz p2) v<|.ref z.heap.objs.size) (EP X pins σ Q) X.xe {z with heap:=z.heap.push {cls:=.type "slice",data:=.fields #[F,B,.none]} };exact tail_any (ops:=[.ref z.heap.objs.size,v]) ht hT hg<|by with_unfolding_all rfl
def wV(xs:List V)(lo hi:Option Int):List V:=(xs.drop<|HT.sIx xs.length 0 lo).take<|HT.sIx xs.length xs.length hi-HT.sIx xs.length 0 lo
def qY(xs:List V)(lo hi:Option Int):(wV xs lo hi).length<=xs.length:=by
 unfold wV;rw[zb3,zel]
 lia
def qbh(K:zae):V->Option Int->Option Int->Hp->VK->Prop:=λx lo hi H Q=>∃a xs,x=.ref a/\SqT K H a xs /\
 ¬ (HT.sIx xs.length 0 lo=0/\HT.sIx xs.length xs.length hi=xs.length)/\∀p,H p=bz->Q (.ref p) (upd H p<|.tup<|wV xs lo hi)
def XG:SlR X<|qbh X.K:=by
 intro pins s σ H x v Y vu lo hi W Q I U hs N M h;obtain⟨a,xs,rfl,hx,hw,q⟩:=h;cases U;obtain⟨B,r,G,F⟩:=I.tuple hx;have z:B.toArray.size=xs.length:=by rw[zay];exact r.length.symm
 refine{"tuple",_,PyProof.Rows.slot_tuple_getitem.lookup,G.typeIs,?_};refine HT.nT G hs N M (by rw[z];exact hw) ?_ (by rw[z];exact F);rw[z];refine{.ref s.heap.objs.size,_,I.laid (t':=s.toks) (o:=.tup<|wV xs lo hi) (λb ob q=>zam _ q) (zah _) ?_,rfl,q _<|I.hok.fresh<|zah _};exact{zaL (qY xs lo hi) F,_,(r.drop<|HT.sIx xs.length 0 lo).take<|HT.sIx xs.length xs.length hi-HT.sIx xs.length 0 lo,IsTupN.new _ _}
def qci(K:zae):R2:=λx y H Q=>∃a b ns ms,x=.ref a/\y=.ref b/\SqT K H a (ns.map V.int)/\SqT K H b (ms.map V.int)/\Q (.bl<|HT.lexLt ns ms) H
def ZL(M:X.A.units<cLine):OpR X (zaA .Lt)<|qci X.K:=by
 intro pins s σ H x y v u Q I Y U h;obtain⟨a,b,ns,ms,rfl,rfl,G,hb,q⟩:=h;cases Y;cases U;obtain⟨B,r1,F,_⟩:=I.tuple G;obtain⟨z,r2,p2,_⟩:=I.tuple hb;have W:zbn B.toArray.toList ns:=intsAre_of r1;have N:zbn z.toArray.toList ms:=intsAre_of r2;exact HT.D5 F p2 W N M {.bl<|HT.lexLt ns ms,H,I,rfl,q}
def qaW(K:zae):R2:=λx y H Q=>∃a b xs ys,x=.ref a/\y=.ref b/\SqT K H a xs/\SqT K H b ys/\xs≠[]/\xs.length+ys.length<=zal /\
 (ys=[]->Q (.ref a) H)/\(ys≠[]->∀p,H p=bz->Q (.ref p) (upd H p<|.tup<|xs++ys))
def Vals.nil_iff(r:Vals xs us):us=[]↔xs=[]:=by
 cases r with
 |nil=>simp
 |cons _ _=>simp
def Q9:OpR X (zaP .Add)<|qaW X.K:=by
 intro pins s σ H x y v u Q I rx U h;obtain⟨a,b,xs,ys,rfl,rfl,M,hb,hx,B,W,Y⟩:=h;cases rx;cases U;obtain⟨N,r1,G,_⟩:=I.tuple M;obtain⟨F,r2,p2,_⟩:=I.tuple hb;refine HT.SO G p2 (λz=>hx<|r1.nil_iff.mp z) (λz=>{.ref a,H,I,rfl,W<|r2.nil_iff.mp z}) (λz=>?_) (by rw[<- r1.length,<- r2.length];exact B);refine{.ref s.heap.objs.size,_,I.laid (t':=s.toks) (o:=.tup<|xs++ys) (λb ob q=>zam _ q) (zah _) ?_,rfl,Y (λw=>z<|r2.nil_iff.mpr w) _<|I.hok.fresh<|zah _};exact{by rw[zbm];exact B,_,r1.append r2,IsTupN.new _ _}
end
noncomputable def QZ(n:Nat)(i:Int):Option Nat:=if 0<=i then(if i<n then bw i.toNat else bz)else if -(n:Int)<=i then bw (i+n).toNat else bz
def hW{α:Type}(xs:List α)(i:Int):Option α:=(QZ xs.length i).bind λj=>xs[j]?
def GP(h:QZ n i=bw j):seqIndex? i n=bw j/\j<n/\-(n:Int)<=i/\i<n:=by
 unfold QZ at h;by_cases z:0<=i
 .rw[ci z]at h
  by_cases h1:i<n
  .rw[ci h1]at h
   have e:i.toNat=j:=zaz h;exact{by rw[seqIndex_of z h1,e],by lia,by lia,h1}
  .rw[cj h1]at h;cases h
 .rw[cj z]at h
  by_cases h1:-(n:Int)<=i
  .rw[ci h1]at h
   have e:(i+n).toNat=j:=zaz h;exact{by rw[seqIndex_neg (by lia) h1,e],by lia,h1,by lia}
  .rw[cj h1]at h;cases h
def y6{z:Type}{xs:List z}{i:Int}{v:z}(h:hW xs i=bw v):∃j,seqIndex? i xs.length=bw j/\xs[j]?=bw v/\j<xs.length/\-(xs.length:Int)<=i/\i<xs.length:=by
 unfold hW at h;cases e:QZ xs.length i with
 |none=>rw[e]at h;cases h
 |some j=>
  rw[e]at h;obtain⟨h1,h2,F,B⟩:=GP e;exact{j,h1,h,h2,F,B}
def bY{z:Type}{xs:List z}{j:Nat}{v:z}(h:xs[j]?=bw v):hW xs (j:Int)=bw v:=by
 have B:j<xs.length:=(List.getElem?_eq_some_iff.mp h).1;have e:QZ xs.length (j:Int)=bw j:=by
  unfold QZ;rw[ci<|by lia,ci<|by lia];simp
 unfold hW;rw[e];exact h
def zR(b:Expr):Prop:=∀o i,zdD b cf o i=operate [o,i] (zbA o i)
def IxR(X:Cx)(r:R2):Prop:=
 ∀(value slice:Expr) (pins:List<|Addr×Obj) (s:zac) (σ:St) (H:Hp) (x y:V) (v u:Value) (Q:VK),Inv X pins σ H s->RelV x v->RelV y u->r x y H Q->
  zdD slice cf v u=operate [v,u] (zbA v u)->wpAny (model X.prog X.w) X.A (subscriptTail value slice v u) (EP X pins σ Q) X.xe s
def MtR(X:Cx)(id:String)(r:V->List V->Hp->VK->Prop):Prop:=
 ∀(pins:List<|Addr×Obj) (s:zac) (σ:St) (H:Hp) (x:V) (xs:List V) (v:Value) (us:List Value) (Q:VK),Inv X pins σ H s->RelV x v->Vals xs us->r x xs H Q->
  wpAny (model X.prog X.w) X.A (call (.builtin id)<|v::us) (EP X pins σ Q) X.xe s
section
variable {X:Cx}{a b:Expr}{ta tb:TE}{pos:Pos}
def IxR.or(h:IxR X r)(h':IxR X r'):IxR X λx y H Q=>r x y H Q\/r' x y H Q:=by
 intro value z pins s σ H x y v u Q I B F q hs;rcases q with q|q
 .exact h value z pins s σ H x y v u Q I B F q hs
 .exact h' value z pins s σ H x y v u Q I B F q hs
def qaH(G:IxR X r)(z:PE X a ta)(U:PE X b tb)(hs:zR b):PE X (.Subscript a b pos)<|tOp r ta tb:=by
 intro pins s σ H Q I h;exact Subscript_<|ZU z U I h λv u N x y H2 B M F q=>G a b pins N σ H2 x y v u Q B M F q<|hs _ _
def qbl(K:zae):R2:=λx y H Q=>∃p xs i v,x=.ref p/\y=.int i/\SqL K H p xs/\hW xs i=bw v/\Q v H
def qa7(K:zae):R2:=λx y H Q=>∃p xs i v,x=.ref p/\y=.int i/\SqT K H p xs/\hW xs i=bw v/\Q v H
def qa1:R2:=λx y H Q=>∃z i c,x=.str z/\y=.int i/\z.length<=zal/\hW z.cps.toList i=bw c/\Q (.str {#[c]}) H
def SC:IxR X<|qbl X.K:=by
 intro value M pins s σ H x y v u Q I rx ry h hs;obtain⟨p,xs,i,z,rfl,rfl,hq,he,q⟩:=h;cases rx;obtain⟨t,rfl⟩:=ry;obtain⟨F,r,B,hz⟩:=I.list hq;obtain⟨j,h1,h2,h3,h4,h5⟩:=y6 he;obtain⟨w,U,G⟩:=r.get h2;have Y:=r.length;have hn:=vW;have fin:EP X pins σ Q w s:={z,H,I,G,q};by_cases W:0<=i
 .have N:i.toNat=j:=by
   rw[seqIndex_of W h5]at h1;exact zaz h1
  exact item_listR B.isList W (by lia) (by rw[N];simpa using U) fin hs
 .have N:(i+(F.toArray.size:Int)).toNat=j:=by
   rw[seqIndex_neg (by lia) h4]at h1;rw[zay,<- Y];exact zaz h1
  exact subscriptTail_builtinR (x:=w) B.isList.typeIs slot_list_getitem.lookup
   (wpAny_getItem_list_neg (Q:=λr s'=>r=w/\EP X pins σ Q r s') B.isList (by lia) (by rw[zay] <;> lia) (by lia) (by rw[N];simpa using U) {rfl,fin}) hs
def XY:IxR X<|qa7 X.K:=by
 intro value F pins s σ H x y v u Q I rx W h hs;obtain⟨p,xs,i,z,rfl,rfl,Y,he,q⟩:=h;cases rx;obtain⟨t,rfl⟩:=W;obtain⟨N,r,G,hz⟩:=I.tuple Y;obtain⟨j,h1,h2,h3,h4,h5⟩:=y6 he;obtain⟨w,U,B⟩:=r.get h2;have M:=r.length;have hn:=vW;have fin:EP X pins σ Q w s:={z,H,I,B,q};exact subscriptTail_builtinR (x:=w) G.typeIs slot_tuple_getitem.lookup
  (getItem_tuple (j:=j) (Q:=λr s'=>r=w/\EP X pins σ Q r s') G (by lia) (by lia) (by rw[zay,<- M];exact h1) (by simpa using U) {rfl,fin}) hs
def XI:IxR X qa1:=by
 intro value B pins s σ H x y v u Q I rx U h hs;obtain⟨z,i,c,rfl,rfl,hz,W,q⟩:=h;obtain⟨t,rfl⟩:=rx;obtain⟨t',rfl⟩:=U;obtain⟨j,h1,h2,h3,N,G⟩:=y6 W;have F:z.cps.toList.length=z.length:=by simp[Str.length]
 rw[F]at h1 N G;have hn:=vW;exact tail_any (typeIs_str s z t) slot_str_getitem.lookup (getItem_str (c:=c) (by
  have M:decide (i < -(2^63:Int))=cf:=decide_eq_false (by lia);have Y:decide (i ≥ 2^63)=cf:=decide_eq_false (by lia);rw[M,Y,Bool.or_false]) (by rw[h1];simpa using h2) {.str {#[c]},H,I.tok _,{_,rfl},q}) hs
def rIx(K:zae):R2:=λx y H Q=>qbl K x y H Q\/qa7 K x y H Q\/qa1 x y H Q
def W4:IxR X<|rIx X.K:=SC.or<|XY.or XI
def DQ(z:List Value)(n j:Nat)(u:Value):zb5 (·.setIfInBounds j u) {cls:=.type "list",data:=.seq z.toArray n}={cls:=.type "list",data:=.seq (z.set j u).toArray n}:=by
 simp[zb5]
theorem Inv.lst{pins:List (Addr×Obj)}{σ:St}{H:Hp}{s:zac}{p:Addr}{xs:List V}(I:Inv X pins σ H s)(h:H p=bw (.lst xs)) :
  ∃(B:List Value) (n:Nat),Vals xs B/\s.heap.get? p=bw {cls:=.type "list",data:=.seq B.toArray n}/\xs.length<=zal:=by
 obtain⟨z,B,n,r,e⟩:=I.hok p _ h;exact{B,n,r,e,z}
def Inv.lstUpd{pins:List (Addr×Obj)}{xs ys:List V}{z its':List Value}{n B:Nat}{f:Obj->Obj}(I:Inv X pins σ H s)(h:H p=bw (.lst xs))
  (M:s.heap.get? p=bw {cls:=.type "list",data:=.seq z.toArray n}) (F:f {cls:=.type "list",data:=.seq z.toArray n}={cls:=.type "list",data:=.seq its'.toArray B}) (r:Vals ys its') (G:ys.length<=zal) (t:Nat) :
  Inv X pins σ (upd H p<|.lst ys) {s with heap:=s.heap.update p f,toks:=t}:=by
 have e:(s.heap.update p f).get? p=bw {cls:=.type "list",data:=.seq its'.toArray B}:=by
  rw[zem f M (by rw[F] <;> rfl),F]
 refine I.write (x:=p) (e:=p) (by rw[h];trivial) (.inl rfl) (λb u N q=>(Heap.get?_update_other _ _<|zaV N).trans q) {_,e} ?_;exact{G,its',B,r,e}
def qy:V->V->V->Hp->(Hp->Prop)->Prop:=λo i v H Q=>∃p xs k j,o=.ref p/\i=.int k/\H p=bw (.lst xs)/\QZ xs.length k=bw j/\Q (upd H p<|.lst<|xs.set j v)
def set_list:VC X qy:=by
 intro pins s σ H o i v ov iv u Q I ro ri rv h;obtain⟨p,xs,k,j,rfl,rfl,N,hj,q⟩:=h;cases ro;obtain⟨t,rfl⟩:=ri;obtain⟨z,n,r,G,hz⟩:=I.lst N;obtain⟨h1,h2,M,U⟩:=GP hj;have B:=r.length;have hn:=vW;have Y:Inv X pins σ (upd H p<|.lst<|xs.set j v) {s with heap:=s.heap.update p (zb5 (·.setIfInBounds j u))}:=
  I.lstUpd N G (DQ z n j u) (r.set rv j) (by rw[zc8];exact hz) s.toks
 by_cases h0:0<=k
 .have F:k.toNat=j:=by
   rw[seqIndex_of h0 U]at h1;exact zaz h1
  exact PySem.W.ki_setAt G h0 (by lia) (by rw[zay,<- B];exact U)<|by rw[F];exact{_,Y,q}
 .have F:(k+(z.toArray.size:Int)).toNat=j:=by
   rw[seqIndex_neg (by lia) M]at h1;rw[zay,<- B];exact zaz h1
  exact PySem.W.ki_setBack G (by lia) (by rw[zay,<- B];exact M) (by lia)<|by rw[F];exact{_,Y,q}
def yT(lo hi:Option Int)(n:Nat):(zbS lo hi bz n).1=((HT.sIx n 0 lo:Nat):Int)/\(zbS lo hi bz n).2.1=((HT.sIx n n hi:Nat):Int)/\(zbS lo hi bz n).2.2=1:=by
 refine{?_,?_,rfl}
 .cases lo with
  |none=>simp[zbS,HT.sIx]
  |some i=>
   simp only[zbS,HT.sIx,Option.getD_none,show(1:Int)>0 by decide,if_true];by_cases h:i<0
   .simp only[h,if_true] <;> lia
   .simp only[h,if_false] <;> lia
 .cases hi with
  |none=>simp[zbS,HT.sIx]
  |some i=>
   simp only[zbS,HT.sIx,Option.getD_none,show(1:Int)>0 by decide,if_true];by_cases h:i<0
   .simp only[h,if_true] <;> lia
   .simp only[h,if_false] <;> lia
def wL(z:List Value)(lo hi:Option Int):slicePick z.toArray lo hi bz=((z.drop<|HT.sIx z.length 0 lo).take<|HT.sIx z.length z.length hi-HT.sIx z.length 0 lo).toArray:=by
 obtain⟨h1,h2,B⟩:=yT lo hi z.toArray.size;unfold slicePick;rw[h1,h2,B];simp only[sliceRange_one,pick_run,zay] <;> rfl
def qbP(K:zae):V->Option Int->Option Int->Hp->VK->Prop:=λx lo hi H Q=>∃a xs,x=.ref a/\SqL K H a xs/\∀p,H p=bz->Q (.ref p) (upd H p<|.lst<|wV xs lo hi)
def UK:SlR X<|qbP X.K:=by
 intro pins s σ H x v Y vu lo hi W Q I U hs G F h;obtain⟨a,xs,rfl,hx,q⟩:=h;cases U;obtain⟨N,r,B,M⟩:=I.list hx;have z:=r.length;refine{"list",_,slot_list_getitem.lookup,B.isList.typeIs,?_};refine wpAny_getItem_list_slice B.isList hs G F .none (by simp) ?_ (by rw[zay] <;> lia);rw[wL,<- z];refine{.ref s.heap.objs.size,_,I.laid (t':=s.toks) (o:=.lst<|wV xs lo hi) (λb ob q=>zam _ q) (zah _) ?_,rfl,q _<|I.hok.fresh<|zah _};exact{zaL (qY xs lo hi) M,_,0,(r.drop<|HT.sIx xs.length 0 lo).take<|HT.sIx xs.length xs.length hi-HT.sIx xs.length 0 lo,zaC _ rfl}
def yN:OpR X (zaA .NotIn) λx y H Q=>∃i j,x=.str i/\y=.str j/\Q (.bl<|!(!(Builtin.Str.occurrences j i 0 j.length 1).isEmpty)) H:=by
 intro pins s σ H x y v u Q I z B h;obtain⟨i,j,rfl,rfl,q⟩:=h;obtain⟨t,rfl⟩:=z;obtain⟨t',rfl⟩:=B;exact notIn_str {.bl _,H,I,rfl,q}
def yS:CallR X (.type "list") λxs H Q=>∃p ys,xs=[.ref p]/\(SqL X.K H p ys\/SqT X.K H p ys)/\∀l,H l=bz->Q (.ref l) (upd H l<|.lst ys):=by
 intro pins s σ H xs us Q I r h;obtain⟨p,ys,rfl,U,q⟩:=h;obtain⟨u,rfl,rx⟩:=vals1 r;cases rx;have fin:∀(z:List Value),Vals ys z->ys.length<=zal->∀(h':Heap) (B:Nat),(∀b o',s.heap.get? b=bw o'->h'.get? b=bw o')->
   h'.get? s.heap.objs.size=bw {cls:=.type "list",dict:=bz,data:=.seq z.toArray B,slots:=#[]}->EP X pins σ Q (.ref s.heap.objs.size) {s with heap:=h'}:=λz F M h' B G e=>
  {.ref s.heap.objs.size,_,I.laid (t':=s.toks) G (zah _)<|show ObjOk X.prog X.w _ h' _ (.lst ys)from{M,z,B,F,e},rfl,q _<|I.hok.fresh<|zah _}
 rcases U with U|U
 .obtain⟨z,F,W,M⟩:=I.list U
  have N:=F.length;obtain⟨o,ho,Y,n,hd⟩:=W.isList;exact call_list_seq p (.inl rfl) ho Y hd (λh' B G e=>fin z F M h' B G e)<|by simp only[zay] <;> lia
 .obtain⟨z,F,W,M⟩:=I.tuple U
  have N:=F.length;obtain⟨o,ho,Y,n,hd⟩:=W;exact call_list_seq p (.inr rfl) ho Y hd (λh' B G e=>fin z F M h' B G e)<|by simp only[zay] <;> lia
def wM:CallR X (.type "tuple") λxs H Q=>∃p ys,xs=[.ref p]/\((SqL X.K H p ys/\∀l,H l=bz->Q (.ref l) (upd H l<|.tup ys))\/(SqT X.K H p ys/\Q (.ref p) H)):=by
 intro pins s σ H xs us Q I r h;obtain⟨p,ys,rfl,h⟩:=h;obtain⟨u,rfl,rx⟩:=vals1 r;cases rx;rcases h with⟨G,q⟩|⟨G,q⟩
 .obtain⟨z,F,B,M⟩:=I.list G
  have U:=F.length;refine call_tuple_list B.isList (λh' W=>?_) (by simp only[zay] <;> lia);have N:Inv X pins σ H {s with heap:=h'}:=I.kept (t':=s.toks) W;have Y:Inv X pins σ (upd H h'.objs.size<|.tup ys) {s with heap:=h'.push {cls:=.type "tuple",data:=.seq z.toArray} }:=
   N.laid (t':=s.toks) (λb o e=>zam _ e) (zah _) (show ObjOk X.prog X.w _ _ _ (.tup ys)from{M,z,F,IsTupN.new _ _})
  exact{.ref h'.objs.size,_,Y,rfl,q _<|N.hok.fresh<|zah _}
 .obtain⟨z,F,B,M⟩:=I.tuple G
  exact call_tuple_same B {.ref p,H,I,rfl,q}
def tyV(K:zae)(T:String)(x:V)(H:Hp):Prop:=match x with
 |.str _=>T = "str"
 |.int _=>T = "int"
 |.ref p=>(T = "list" /\ ∃xs,SqL K H p xs)\/(T = "tuple" /\ ∃o,K.lookup p=bw o/\o.cls=.type "tuple" /\ o.dict=bz) \/
   (T = "dict" /\ ((∃kvs,H p=bw (.dK kvs))\/∃kvs,H p=bw (.dT kvs)))\/(T = "set" /\ ∃S n,H p=bw (.set S n))
 |_=>False
def XT(I:Inv X pins σ H s)(r:RelV x v)(ty:tyV X.K T x H) :
  s.TypeIs v T/\∀a,v=.ref a->∃M,s.heap.get? a=bw M/\M.dict=bz:=by
 cases x with
 |str z=>
  obtain⟨t,rfl⟩:=r;cases(show T = "str" from ty);exact{typeIs_str s z t,λ_ e=>nomatch e}
 |int i=>
  obtain⟨t,rfl⟩:=r;cases(show T = "int" from ty);exact{typeIs_int s i t,λ_ e=>nomatch e}
 |ref p=>
  cases r;rcases ty with⟨rfl,xs,W⟩|⟨rfl,o,B,N,hd⟩|⟨rfl,B⟩|⟨rfl,S,n,B⟩
  .obtain⟨U,_,G,_⟩:=I.list W
   refine{G.isList.typeIs,λa e=>?_};cases e;obtain⟨o,n,e,c,hd,_⟩:=G;exact⟨o,e,hd⟩
  .refine{{o,I.kIn p o B,N},λa e=>?_}
   cases e;exact{o,I.kIn _ o B,hd}
  .have z:∃o,s.heap.get? p=bw o/\o.ExactDict:=by
    rcases B with⟨kvs,B⟩|⟨kvs,B⟩
    .obtain⟨_,_,_,_,o,_,_,e,ex,_⟩:=I.hok p _ B
     exact⟨o,e,ex⟩
    .obtain⟨_,_,_,_,o,_,_,e,ex,_⟩:=I.hok p _ B
     exact⟨o,e,ex⟩
   obtain⟨o,e,ex⟩:=z;refine{{o,e,ex.1},λa F=>?_};cases F;exact{o,e,ex.2.1}
  .obtain⟨o,_,_,_,e,ex,_⟩:=I.hok p _ B
   refine{{o,e,ex.1},λa F=>?_};cases F;exact{o,e,ex.2.1}
 |_=>exact zba ty
def qd(K:zae)(T:String)(r:V->List V->Hp->VK->Prop)(to:TE)(t:TA):TE:=λσ H Q=>to σ H λx H1=>tyV K T x H1/\t σ H1 λxs H2=>r x xs H2 Q
variable {o e:Expr}{es:List Expr}{to:TE}{t:TA}{name:Str}{apos cpos:Pos}{T id:String}{r:V->List V->Hp->VK->Prop}
def yG(pa:PlainAttrs T)(M:Slot T name id)(N:typeOf (.builtin id)=pure (.type "method_descriptor"))(hm:MtR X id r)(ho:PE X o to)(Y:PA X (e::es) t)
  (B:zaR o name X.env (eval o X.env)=eval o X.env:=by rfl)
  (G:((zaJ cpos<|zag (e::es) X.env).all (λx => !x.1) && (backToKw cpos<|keywordEach [] X.env).all (λx => x.1.isSome)
   && decide ((e::es).length+([]:List Keyword).length+(if([]:List Keyword).isEmpty then 0 else 1)<30))=ca:=by rfl)
  (F:(apos.endLine == cpos.line)=ca:=by rfl) (hs:zag (e::es) X.env=(cf,eval e X.env)::zag es X.env:=by rfl) (z:(zaJ cpos<|zag es X.env).any (·.1)=cf:=by rfl) :
  PE X (.Call (.Attribute o name apos) (e::es) [] cpos) (qd X.K T r to t):=by
 intro pins s σ H Q I h;refine wpAny_Call_method_late B G F rfl<|c8 (ho pins s σ H _ I h) λv s1 ⟨x,H1,W,r1,ty,q1⟩=>?_;obtain⟨h1,h2⟩:=XT W r1 ty;refine{T,id,pa,M,N,h1,h2,?_};have U:=Y cpos pins s1 σ H1 _ W q1;rw[hs]at U ⊢;refine Calls.callWith_builtin (by show(cf || (zaJ cpos<|zag es X.env).any (·.1))=cf;rw[z] <;> rfl)<|Calls.evalArgs_plain ?_;exact c8 U λus s2 ⟨vs,H2,I2,r2,q2⟩=>hm pins s2 σ H2 x vs v us Q I2 r1 r2 q2
end
def MtM(X:Cx)(id:String)(r:V->List V->Hp->VK->Prop):Prop:=
 ∀(pins:List<|Addr×Obj) (s:zac) (σ:St) (H:Hp) (x:V) (xs:List V) (v:Value) (us:List Value) (Q:VK),Inv X pins σ H s->RelV x v->Vals xs us->r x xs H Q->
  wpAny (model X.prog X.w) X.A (call (.builtin id)<|v::us) (EP X pins σ Q) X.xe s
def Vals.one:∀ {x:V} {us:List Value},Vals [x] us->∃u,us=[u]/\RelV x u
 |_,_,.cons r .nil=>{_,rfl,r}
section
variable {X:Cx}{pins:List (Addr×Obj)}{σ:St}{H:Hp}{s:zac}{l b:Addr}{xs ys zs:List V}
def Inv.lset{z its':List Value}{n:Nat}{f:Array Value->Array Value}{t':Nat}(I:Inv X pins σ H s)(M:H l=bw (.lst xs))
  (e:s.heap.get? l=bw {cls:=.type "list",data:=.seq z.toArray n}) (B:f z.toArray=its'.toArray) (N:Vals ys its') (F:ys.length<=zal) :
  Inv X pins σ (upd H l<|.lst ys) {s with heap:=s.heap.update l<|zb5 f,toks:=t'}:=by
 have q:=PySem.IsL.update e f;rw[B]at q;refine I.write (x:=l) (e:=l) (by rw[M];exact trivial) (.inl rfl) (λW u U G=>(Heap.get?_update_other s.heap (zb5 f)<|zaV U).trans G) {_,q} ?_;exact{F,its',_,N,q}
def Inv.lnew(I:Inv X pins σ H s)(B:Vals ys its)(z:ys.length<=zal) :
  Inv X pins σ (upd H s.heap.objs.size<|.lst ys) {s with heap:=s.heap.push {cls:=.type "list",data:=.seq its.toArray},toks:=t'}:=
 I.laid (λ_ _ q=>zam _ q) (zah _) {z,its,0,B,zaC _ rfl}
theorem Inv.fresh(I:Inv X pins σ H s):H s.heap.objs.size=bz:=I.hok.fresh<|zah _
def Inv.lstM(I:Inv X pins σ H s)(F:H l=bw (.lst xs)):xs.length<=zal/\∃(B:List Value) (n:Nat),Vals xs B/\xs.length=B.length/\s.heap.get? l=bw {cls:=.type "list",data:=.seq B.toArray n}:=by
 obtain⟨z,B,n,r,e⟩:=I.hok l _ F;exact{z,B,n,r,r.length,e}
def MA(h:n<=zal):zeo n=cf:=by
 unfold zeo;exact decide_eq_false<|by lia
end
section
variable {X:Cx}
def HY:V->List V->Hp->VK->Prop:=λx vs H Q=>∃l xs y,x=.ref l/\vs=[y]/\H l=bw (.lst xs)/\xs.length<zal/\Q .non (upd H l<|.lst<|xs++[y])
def xQ:MtM X "list.append" HY:=by
 intro pins s σ H x vs v us Q I U N h;obtain⟨l,xs,y,rfl,rfl,G,Y,q⟩:=h;cases U;obtain⟨u,rfl,M⟩:=N.one;obtain⟨z,B,n,r,W,e⟩:=I.lstM G;refine zcL F.slot_list_append {_,e,rfl} F.entry_list_append (F.args_list_append_2 _ _) (PySem.list_append l B.toArray n u<|by rw[zay];lia) {e,?_};refine{.non,_,I.lset (its':=B++[u]) G e (by simp) (r.append<|.cons M .nil) ?_,rfl,q};rw[zbm,List.length_singleton]
 lia
end
section
variable {κ:Type}[DecidableEq κ]
noncomputable def pQ(kvs:List<|κ×V)(k:κ):Option V:=(kvs.find? λz=>decide (z.1=k)).map (·.2)
noncomputable def putK(kvs:List<|κ×V)(k:κ)(v:V):List<|κ×V:=
 if(kvs.any λz=>decide (z.1=k))=ca then kvs.map (λz=>if z.1=k then(z.1,v)else z)else kvs++[(k,v)]
def oW{p:κ×V}{r:List (κ×V)}{k:κ}(e:p.1=k):pQ (p::r) k=bw p.2:=by simp[pQ,zbB,e]
def oY{p:κ×V}{r:List (κ×V)}{k:κ}(e:¬ p.1=k):pQ (p::r) k=pQ r k:=by simp[pQ,zbB,e]
theorem B6(k:κ):∀kvs:List (κ×V),(kvs.any λz=>decide (z.1=k))=(pQ kvs k).isSome
 |[]=>rfl
 |p::r=>by
  rw[zcg];by_cases e:p.1=k
  .simp only[oW e,decide_eq_true e,Bool.true_or,Option.isSome_some]
  .rw[oY e,decide_eq_false e,Bool.false_or];exact B6 k r
def gE(kvs:List<|κ×V)(k:κ)(v:V):(putK kvs k v).length<=kvs.length+1:=by
 unfold putK;split
 .rw[zak];lia
 .rw[zbm,zaB,zbO];lia
def RelO.isSome_eq(r:RelO o u):o.isSome=u.isSome:=by
 cases o with
 |none=>cases u with
  |none=>rfl
  |some _=>exact(show False from r).elim
 |some _=>cases u with
  |none=>exact(show False from r).elim
  |some _=>rfl
def KV.val(r:KV kvs vs)(k:κ):RelO (pQ kvs k)<|zcw vs k:=by
 unfold KV at r;induction r with
 |nil=>exact za0
 |@cons p q ps qs h t ih=>
  obtain⟨h1,h2⟩:=h;by_cases e:p.1=k
  .have B:q.1=k:=h1.symm.trans e
   have b:zcw (q::qs) k=bw q.2:=by simp[zcw,zbB,B]
   rw[oW e,b];exact h2
  .have B:¬ q.1=k:=λz=>e (h1.trans z)
   have b:zcw (q::qs) k=zcw qs k:=by simp[zcw,zbB,B]
   rw[oY e,b];exact ih
theorem KV.any(r:KV kvs vs)(k:κ):(kvs.any λz=>decide (z.1=k))=vs.any λz=>decide (z.1=k):=by
 unfold KV at r;induction r with
 |nil=>rfl
 |cons h t ih=>rw[zcg,zcg,ih,h.1]
def KV.repl(r:KV kvs vs)(k:κ)(F:RelV y u) :
  KV (kvs.map λB=>if B.1=k then(B.1,y)else B) (vs.map λB=>if B.1=k then(B.1,u)else B):=by
 unfold KV at r ⊢;induction r with
 |nil=>exact .nil
 |@cons p q ps qs h t ih=>
  rw[zaj,zaj];refine .cons ?_ ih;obtain⟨h1,h2⟩:=h;by_cases e:p.1=k
  .rw[ci e,ci<|h1.symm.trans e];exact{h1,F}
  .rw[cj e,cj λz=>e<|h1.trans z];exact{h1,h2}
def KV.put(r:KV kvs vs)(k:κ)(z:RelV y u):KV (putK kvs k y)<|stored vs k u:=by
 unfold putK stored;rw[r.any k];by_cases e:(vs.any λB=>decide (B.1=k))=ca
 .rw[ci e,ci e];exact r.repl k z
 .rw[cj e,cj e];exact Paired.snoc r {rfl,z}
theorem KV.length(r:KV kvs vs):kvs.length=vs.length:=zcY r
end
def yL(r:RelV (kV k) u):(bE P w).is k u=ca:=by
 cases k with
 |inl i=>obtain⟨t,e⟩:=(show ∃t,u=zcF i t from r);subst e;exact AS P w i t
 |inr x=>obtain⟨t,e⟩:=(show ∃t,u=zcW x t from r);subst e;exact AW P w x t
theorem xH:∀ {ks:List Key} {us:List Value},Vals (ks.map kV) us->ItemsAre (bE P w) ks us
 |[],_,r=>by rw[zcf]at r;cases r;exact .nil
 |k::ks,_,r=>by
  rw[zaj]at r;cases r with
  |cons h t=>exact .cons (yL h)<|xH t
abbrev KT(H:Hp):List (List Key×V)->List (List Key×Addr×Value)->Prop:=Paired λp q=>p.1=q.1/\H q.2.1=bw (.tup<|p.1.map kV)/\RelV p.2 q.2.2
def KT.val(r:KT H kvs xs)(k:List Key):RelO (pQ kvs k)<|(atKey xs k).map (·.2):=by
 induction r with
 |nil=>exact za0
 |@cons p q ps qs h t ih=>
  obtain⟨h1,_,h2⟩:=h;by_cases e:p.1=k
  .have B:q.1=k:=h1.symm.trans e
   have b:atKey (q::qs) k=bw q.2:=by simp[atKey,zbB,B]
   rw[oW e,b];exact h2
  .have B:¬ q.1=k:=λz=>e (h1.trans z)
   have b:atKey (q::qs) k=atKey qs k:=by simp[atKey,zbB,B]
   rw[oY e,b];exact ih
def KT.repl(r:KT H kvs xs)(k:List Key)(G:RelV y u) :
  KT H (kvs.map λB=>if B.1=k then(B.1,y)else B) (xs.map<|putAt k u):=by
 induction r with
 |nil=>exact .nil
 |@cons p q ps qs h t ih=>
  rw[zaj,zaj];refine .cons ?_ ih;obtain⟨h1,h2,F⟩:=h;unfold putAt;by_cases e:p.1=k
  .rw[ci e,ci<|h1.symm.trans e];exact{h1,h2,G}
  .rw[cj e,cj λz=>e<|h1.trans z];exact{h1,h2,F}
def KT.put(r:KT H kvs xs)(k:List Key)(F:H b=bw (.tup<|k.map kV))(z:RelV y u) :
  KT H (putK kvs k y) (storedH xs k b u):=by
 have e:(kvs.any λB=>decide (B.1=k))=(atKey xs k).isSome:=by
  rw[B6,(r.val k).isSome_eq,Option.isSome_map]
 unfold putK storedH;rw[e];by_cases q:(atKey xs k).isSome=ca
 .rw[ci q,ci q];exact r.repl k z
 .rw[cj q,cj q];exact Paired.snoc r {rfl,F,z}
def KT.keeps(r:KT H kvs xs)(B:∀b ys,H b=bw (.tup ys)->H' b=bw (.tup ys)):KT H' kvs xs:=
 Paired.mapP r λ_ _ z=>{z.1,B _ _ z.2.1,z.2.2}
section
variable {P:zai}{w:World}{H:Hp}{h:Heap}{a:Addr}
def V4(ok:HOk P w H h)(e:Rd H a u):ObjOk P w H h a u:=e.ok ok
def yH(ok:HOk P w H h)(e:Rd H a<|.dK kvs):kvs.length<=zal/\(a == za9)=cf/\∃vs,KV kvs vs/\h.DictOf (bE P w) a vs:=
 show ObjOk P w H h a (.dK kvs)from V4 ok e
def VT(ok:HOk P w H h)(e:H a=bw (.dK kvs)):kvs.length<=zal/\(a == za9)=cf/\∃vs,KV kvs vs/\h.DictOf (bE P w) a vs:=yH ok<|.inl e
def qF(ok:HOk P w H h)(e:H a=bw (.tup<|ks.map kV)):(zca<|bE P w).is h ks a:=by
 obtain⟨_,z,r,o,h1,h2,n,B⟩:=(show ObjOk P w H h a (.tup<|ks.map kV)from ok a _ e);exact{o,z.toArray,n,h1,h2,B.1,by simpa using xH r}
def IJ(ok:HOk P w H h)(e:Rd H a<|.dT kvs):kvs.length<=zal/\(a == za9)=cf /\
  ∃xs,KT H kvs xs/\h.DictOfH (zca<|bE P w) a xs:=by
 obtain⟨z,y,xs,r,o,es,ep,h1,h2,G,F,B⟩:=(show ObjOk P w H h a (.dT kvs)from V4 ok e);refine{z,y,xs,r,o,es,ep,h1,h2,G,F,λx hx=>?_,B};have all:∀ {l:List (List Key×V)} {m:List (List Key×Addr×Value)},KT H l m->∀x∈m,(zca<|bE P w).is h x.1 x.2.1:=by
  intro l m q;induction q with
  |nil=>intro x hx;exact nomatch hx
  |@cons p q ps qs hq t ih=>
   intro x hx;rcases List.mem_cons.mp hx with e|hx
   .subst e
    exact qF ok<|by rw[<- hq.1];exact hq.2.1
   .exact ih x hx
 exact all r x hx
def VS(ok:HOk P w H h)(e:H a=bw (.dT kvs)):kvs.length<=zal/\(a == za9)=cf /\
  ∃xs,KT H kvs xs/\h.DictOfH (zca<|bE P w) a xs:=IJ ok<|.inl e
end
def DGet(H:Hp)(a:Addr)(y:V)(r:Option V):Prop:=
 (∃kvs k,Rd H a (.dK kvs)/\y=kV k/\r=pQ kvs k)\/∃kvs k b,Rd H a (.dT kvs)/\y=.ref b/\H b=bw (.tup<|k.map kV)/\r=pQ kvs k
def DPut(H:Hp)(a:Addr)(y v:V)(H':Hp):Prop:=
 (∃kvs k,H a=bw (.dK kvs)/\y=kV k/\kvs.length<zal/\H'=upd H a (.dK<|putK kvs k v)) \/
 ∃kvs k b,H a=bw (.dT kvs)/\y=.ref b/\H b=bw (.tup<|k.map kV)/\kvs.length<zal/\H'=upd H a (.dT<|putK kvs k v)
def DPut.k{H:Hp}{a:Addr}{kvs:List (Key×V)}{k:Key}{v:V}(e:H a=bw (.dK kvs))(z:kvs.length<zal):DPut H a (kV k) v<|upd H a<|.dK<|putK kvs k v:=.inl {kvs,k,e,rfl,z,rfl}
def DPut.t{H:Hp}{a b:Addr}{kvs:List (List Key×V)}{k:List Key}{v:V}(e:H a=bw (.dT kvs))(z:H b=bw (.tup<|k.map kV))(B:kvs.length<zal) :
  DPut H a (.ref b) v (upd H a<|.dT<|putK kvs k v):=.inr {kvs,k,b,e,rfl,z,B,rfl}
section
variable {X:Cx}{pins:List (Addr×Obj)}{σ:St}{H:Hp}{s:zac}{a:Addr}{y v:V}{u r:Value}{o:Option V}{A:zan}{E:Value->zac->Prop}
def Inv.big(I:Inv X pins σ H s):za9<s.heap.objs.size:=by
 have h:zaH<s.heap.objs.size:=(I.mod.glob.keeps I.bk).lt;exact Nat.lt_trans (by decide) h
def K1(Y:A.units+1<cLine)(I:Inv X pins σ H s)(g:DGet H a y<|bw v)(W:RelV y u)(h:∀G s',Inv X pins σ H s'->RelV v G->Q G s') :
  wpAny (model X.prog X.w) A (zbA (.ref a) u) Q E s:=by
 rcases g with⟨kvs,k,e,U,l⟩|⟨kvs,k,b,e,U,eb,l⟩
 .subst U
  obtain⟨z,hd,vs,B,N⟩:=yH I.hok e;obtain⟨G,hw,F⟩:=RelO.some_of (v:=v) (o:=zcw vs k) (by rw[l];exact B.val k);exact wpAny_getItem_of (yL W) N.mapOf hw<|h G _ (I.tok _) F
 .subst U
  cases(show u=zax b from W);obtain⟨z,hd,xs,B,N⟩:=IJ I.hok e;obtain⟨G,hw,F⟩:=RelO.some_of (v:=v) (o:=(atKey xs k).map (·.2)) (by rw[l];exact B.val k);obtain⟨p,hp,M⟩:=Option.map_eq_some_iff.mp hw;refine wpAny_getItem_heap (zep Y) (qF I.hok eb) N hp ?_;rw[M];exact h G _ (I.tok _) F
def UC(U:A.units+1<cLine)(I:Inv X pins σ H s)(g:DGet H a y o)(M:RelV y u)(h:∀s',Inv X pins σ H s'->Q (.bool<|!o.isSome) s') :
  wpAny (model X.prog X.w) A (zaA .NotIn u<|.ref a) Q E s:=by
 rcases g with⟨kvs,k,e,G,l⟩|⟨kvs,k,b,e,G,N,l⟩
 .subst G
  obtain⟨z,hd,vs,B,F⟩:=yH I.hok e;refine wpAny_notIn_of (yL M) hd F.mapOf ?_;rw[<- (B.val k).isSome_eq,<- l];exact h _<|I.tok _
 .subst G
  cases(show u=zax b from M);obtain⟨z,hd,xs,B,F⟩:=IJ I.hok e;refine wpAny_notIn_heap (zep U) (qF I.hok N) hd F ?_;have q:=(B.val k).isSome_eq;rw[Option.isSome_map]at q;rw[<- q,<- l];exact h _<|I.tok _
def pH(I:Inv X pins σ H s)(F:Mut<|H a)(hs:za6 a s.heap h')(B:∃q,h'.get? a=bw q)(new:ObjOk X.prog X.w (upd H a ob) h' a ob) :
  Inv X pins σ (upd H a ob) {s with heap:=h',toks:=t'}:=
 I.write (x:=a) (e:=a) F (.inl rfl) (λb q G z=>(hs.2 b G).trans z) B new
def P7(z:kvs.length<=zal)(hd:(a == za9)=cf)(B:KV kvs vs)(F:h'.DictOf (bE P w) a vs) :
  ObjOk P w H' h' a (.dK kvs):={z,hd,vs,B,F}
def KG(hu:A.units+1<cLine)(I:Inv X pins σ H s)(g:DPut H a y v H')(ry:RelV y u)(rv:RelV v r)(h:∀s',Inv X pins σ H' s'->Q () s') :
  wpAny (model X.prog X.w) A (setItem (.ref a) u r) Q E s:=by
 rcases g with⟨kvs,k,e,Y,l,W⟩|⟨kvs,k,b,e,Y,eb,l,W⟩
 .subst Y W
  obtain⟨z,hd,vs,B,U⟩:=VT I.hok e;have N:vs.length<=zal:=by rw[<- B.length];exact z
  have M:(putK kvs k v).length<=zal:=by have:=gE kvs k v;lia
  refine wpAny_setItem_pairs (hsz:=N) (yL ry) U λh' F hs=>h _ ?_
  have he:∃q,h'.get? a=bw q:=let ⟨q,_,_,G,_⟩:=F;⟨q,G⟩;exact pH I (by rw[e];exact za0) hs he<|P7 M hd (B.put k rv) F
 .subst Y W
  cases(show u=zax b from ry);obtain⟨z,hd,xs,B,U⟩:=VS I.hok e;have N:xs.length<=zal:=by rw[<- zcY B];exact z
  have M:(putK kvs k v).length<=zal:=by have:=gE kvs k v;lia
  refine wpAny_setItem_heap (hsz:=N) (zep hu) (qF I.hok eb) U λh' F hs=>h _ ?_
  obtain⟨q,es,ep,G,h2,h3,h4,_,h5⟩:=F;refine pH I (by rw[e];exact za0) hs ⟨q,G⟩ {M,hd,_,(B.put k eb rv).keeps λc ys ec=>?_,q,es,ep,G,h2,h3,h4,h5};rw[aG<|rW ec e λz=>nomatch z];exact ec
end
section
variable {X:Cx}{pins:List (Addr×Obj)}{σ:St}{H:Hp}{s:zac}{a:Addr}{kvs:List (Key×V)}{k:Key}{u:Value}{A:zan}{E:Value->zac->Prop}
def qal(I:Inv X pins σ H s)(e:Rd H a<|.dK kvs)(h:∀t s',Inv X pins σ H s'->Q (.int kvs.length t) s'):wpAny (model X.prog X.w) A (call (.builtin "len") [.ref a]) Q E s:=by
 obtain⟨z,hd,vs,B,F⟩:=yH I.hok e;refine call_len_dict hd F (by rw[<- B.length];rw[zc5]at z;lia) ?_;rw[<- B.length];exact h _ _<|I.tok _
end
def LC(i:Expr):Prop:=∀B z,zdD i cf B z=operate [B,z] (zbA B z)
def GZ{E:Value->zac->Prop}{T id:String}{Q:Value->zac->Prop}
  (U:typeLookup (.type T) "__getitem__" = pure (bw<|.builtin id)) (hs:LC slice)
  (h:wpAny (model prog w) A (eval value env) (λo F=>wpAny (model prog w) A (eval slice env) (λi z=>z.TypeIs o T/\wpAny (model prog w) A (zbA o i) Q E z) E F) E s) :
  wpAny (model prog w) A (eval (.Subscript value slice pos) env) Q E s:=by
 refine Subscript_<|za7 h (λo F M=>za7 M (λi z B=>?_) λ_ _ x=>x) λ_ _ x=>x;obtain⟨hT,B⟩:=B;unfold subscriptTail;refine zaa ?_;rw[getitemInPython_of_ne hT.not_modules];refine zaa<|zcZ hT U ?_;have fin:wpAny (model prog w) A (zdD slice cf o i) (λr G=>wpAny (model prog w) A (letTemporaryGo value o r >>= λ_=>pure r) Q E G) E z:=by
  rw[hs o i];exact wpAny_operating<|za7 B (λr G N=>zaa<|wpAny_letTemporaryGo<|zaf N) λ_ _ x=>x
 first
  | exact zaf<|zaa fin
  | exact zaa<|zaf<|zaa fin
  | exact zaa fin
def A3(I:Inv X pins σ H s)(g:DGet H a y o):s.TypeIs (.ref a) "dict" := by
 rcases g with⟨kvs,k,e,_,_⟩|⟨kvs,k,b,e,_,_,_⟩
 .obtain⟨_,_,vs,_,z⟩:=yH I.hok e
  exact z.typeIs
 .obtain⟨_,_,xs,_,z⟩:=IJ I.hok e
  exact z.typeIs
def VR(td ty:TE):TE:=λσ H Q=>td σ H λx H1=>ty σ H1 λy H2=>∃a v,x=.ref a/\DGet H2 a y (bw v)/\Q v H2
def qaB(td ty tv:TE):TS:=λD σ H=>tv σ H λv H1=>td σ H1 λx H2=>ty σ H2 λy B=>∃a z,x=.ref a/\DPut B a y v z/\D.nx σ z
section
variable {X:Cx}{o i e value:Expr}{pos pos' tpos:Pos}{td ty tv:TE}
def GD(G:X.A.units+1<cLine)(Y:PE X o td)(hi:PE X i ty)(hs:LC i):PE X (.Subscript o i pos)<|VR td ty:=by
 intro pins s σ H Q I h;refine GZ PySem.F.slot_dict_getitem.lookup hs<|c8 (Y pins s σ H _ I h) λu W ⟨x,H1,N,rx,q1⟩=>c8 (hi pins W σ H1 _ N q1) λiv s2 ⟨y,H2,B,U,a,v,ex,g,q2⟩=>?_;subst ex;obtain rfl:u=zax a:=rx;exact{A3 B g,K1 G B g U λw' s3 M z=>{v,H2,M,z,q2}}
def zM(M:X.A.units+1<cLine)(Y:PE X o td)(hi:PE X i ty)(hv:PE X value tv)(hs:zaF value (bw<|.Subscript o i pos') pos.line X.env=pure cf) :
  PS X (.Assign [.Subscript o i pos'] value pos) (qaB td ty tv):=by
 intro pins s σ H D I h;refine wpAny_Assign_Subscript (c8 (hv pins s σ H _ I h) λr s1 ⟨v,H1,B,rv,q1⟩=>c8 (Y pins s1 σ H1 _ B q1) λu s2 ⟨x,H2,U,rx,q2⟩=>c8 (hi pins s2 σ H2 _ U q2) λiv s3 ⟨y,H3,z,W,a,F,ex,g,N⟩=>?_) hs;subst ex;obtain rfl:u=zax a:=rx;exact KG M z g W rv λs4 G=>{σ,F,G,N}
end
def M8(h:Heap)(z:za9<h.objs.size):ObjOk P w H (h.push {cls:=.type "dict",data:=.dict #[]}) h.objs.size<|.dK []:=
 {zaM _,beq_eq_false_iff_ne.mpr<|zaV<|zaE z,[],.nil,Heap.DictOf.new h}
def BF(h:Heap)(z:za9<h.objs.size):ObjOk P w H (h.push {cls:=.type "dict",data:=.dict #[]}) h.objs.size<|.dT []:=
 {zaM _,beq_eq_false_iff_ne.mpr<|zaV<|zaE z,[],.nil,_,#[],0,zaC _ rfl,{rfl,rfl,rfl},rfl,rfl,List.nodup_nil}
def XF:TE:=λ_ H Q=>∀p,H p=bz->Q (.ref p) (upd H p<|.dT [])
section
variable {X:Cx}{pos:Pos}
def BS:PE X (.Dict [] [] pos) XF:=λpins s σ H Q I h=>
 wpAny_Dict_empty {.ref s.heap.objs.size,_,I.laid (a:=s.heap.objs.size) (o:=.dT []) (t':=s.toks) (λ_ _ q=>zam _ q) (zah _)<|BF s.heap I.big,rfl,h _<|I.hok.fresh<|zah _}
end
def IsD(H:Hp)(a:Addr):Prop:=(∃kvs,Rd H a<|.dK kvs)\/∃kvs,Rd H a<|.dT kvs
end L2
namespace Att
open PySem PySem.W PySem.Calls PyProof.Rows
def sF:∀(ns:List Int) (vs:List Value),WellAll P h vs (ns.map WData.int)->zbn vs ns:=by
 intro ns;induction ns with
 |nil=>
  intro vs w;rw[zcf]at w;cases w;exact .nil
 |cons n ns ih=>
  intro vs w;rw[zaj]at w;cases w with
  |cons a b=>
   cases a;exact .cons _ _<|ih _ b
def KR{l:OpenLaw}{n:Nat}(Y:l.most=bw n){P:Params}{h:Heap}{args:List WData}{B:List Value}
  (z:l.row.toRowW.claim.pre args=ca) (N:WellAll P h B args) :
  ∃a vs ns,B=[zax a]/\args=[WData.list<|ns.map WData.int]/\h.get? a=bw {cls:=.type "list",data:=.seq vs.toArray}/\zbn vs ns/\ns.length<=n:=by
 have U:WShape.hasAll [] args [.list .int]=ca:=(pre_splitW z).1;have W:l.pre.holds [] {args:=args}=ca:=(pre_splitW z).2;obtain⟨d,r,rfl,h1,h2⟩:=hasAllW_cons U;obtain rfl:=hasAllW_nil h2;obtain⟨xs,rfl,h3⟩:=hasW_list h1;obtain⟨ns,rfl⟩:=items_int h3;have F:ns.length<=n:=by
  unfold OpenLaw.pre at W;have M:(WTm.not<|.lt (.lit<|.int (n:Int))<|.len<|.arg 0).holds [] {args:=[.list<|ns.map .int]}=ca:=by
   have M:=(holds_andW W).1;rw[Y]at M;exact M
  have G:=condW_of M<|w_not<|w_lt w_lit<|w_len_list<|w_arg rfl;rw[zak]at G;refine Nat.le_of_not_lt λq=>?_
  have q':(n:Int)<((ns.length:Nat):Int):=by lia
  first
   | (rw[decide_eq_true q']at G;exact absurd G<|by decide)
   | (simp at G;lia)
 cases N with
 |cons w1 w2=>
  cases w2;cases w1 with
  |list ho hall=>exact{_,_,ns,rfl,rfl,ho,sF ns _ hall,F}
def KP(l:OpenLaw)(args:List WData):l.row.toRowW.claim.post args (.bool ca) args=ca:=
 postW_of (r:=l.row.toRowW) (X:=(ca == ca))
  (show WShape.has [] (.bool ca) .bool=ca by first|rfl|decide|simp[WShape.has,WShape.arms,WShape.armsAll])
  (show(WTm.eq .res<|.lit<|.bool ca).value [] {args:=args,res:=bw<|.bool ca,after:=args}=bw (.bool<|ca == ca)from w_eq_bool (w_res rfl) w_lit) rfl
def AM{l:OpenLaw}{n:Nat}{q:zai}{B:List Str}{XP:(Str->Option Value)->Heap->Prop}{YP:World->Heap->Prop}{d:DefRec}
  (hn:l.most=bw n) (ah:d.params.defaults=[])
  (call:∀(w:World) (F z:zac) (mg mb:Str -> Option Value) (W:Addr) (o:Obj) (pm cd M:Value) (a:Addr) (vs:List Value) (ns:List Int),
   Ground q B [] XP w F mg mb z.heap->YP w z.heap->
   z.heap.get? W=bw o->o.data=.func (docDef d.name d.params d.body d.scope pm cd M)->z.heap.CodeRec cd d.name->mg d.name=bw (.ref W)->
   z.heap.get? a=bw {cls:=.type "list",data:=.seq vs.toArray}->zbn vs ns->ns.length<=n->z.gens=#[]->
   zbj (model l.prog w) zcx (.call (.ref W) {[.ref a],[]}) (λr s'=>r=.ok (.ret<|.bool ca)/\OldK z.heap s'.heap/\s'.os=z.os/\zbW s'.gens) z) :
  WalkO q B XP YP l.row.toRowW d [] (λf vs=>PySem.call f vs):=by
 intro w F z mg mb G Y W o pm cd M dV kV ho hd ae hD af hg args am as U al ar ad aq;obtain rfl:dV=.none:=Dflts.none hD ah;obtain rfl:kV=.none:=Dflts.noKw hD;obtain⟨a,vs,ns,rfl,rfl,ab,N,aa⟩:=KR hn U ad;refine enter_call<|zcJ (call w F z mg mb W o pm cd M a vs ns G Y ho (fd_plain hd) ae af ab N aa hg) λr s' hq=>?_;obtain⟨rfl,h2,h3,h4⟩:=hq;exact{.inl {.bool ca,.bool ca,[],rfl,λ_=>rfl,.bool ca,KP l _,λ_=>{zdG,λ_ hm=>(nomatch hm)}},h2,h3,h4}
end Att
namespace L2
open PySem PySem.Spec PyProof.Rows
theorem w6:∀ {vs:List Value} {ns:List Int},zbn vs ns->Vals (ns.map V.int) vs
 |_,_,.nil=>.nil
 |_,_,.cons n t h=>.cons {t,rfl}<|w6 h
def Only(H:Hp):Prop:=∀b,H b=bz\/(∃o xs,H b=bw (.frz o<|.lst xs))\/∃ps,H b=bw (.tbl ps)
abbrev YT(h:Heap):Prop:=h.get? kO=bw {cls:=.none,data:=.fields #[]}/\isCodeTable h kO
def N6{P:zai}{w:World}{K:zae}{mg mb:Str->Option Value}{CX:LO}{k:Nat}{fa a:Addr}{fd:zbk}{x:Str}{sp:Sp}{B:zac}{vs:List Value}{ns:List Int}
  (KX:K.In B.heap) (ag:B.heap.Ns zaH mg) (G:B.heap.Ns zc2 mb) (aw:∀x:Str,x ≠ "__name__" -> mb x=zaI x) (ak:B.heap.NoLimit) (hg:B.gens=#[])
  (Y:B.heap.get? a=bw {cls:=.type "list",data:=.seq vs.toArray}) (hi:zbn vs ns) (hl:ns.length<=zal) (hr:Room k zcx)
  (F:∀base:Heap,K.In base->base.Ns zaH mg->FnOk P w K mg base CX k fa fd [x] sp) (ad:∀(s:zac) (u:Value),BindsTo s fd {[u],[]} [(x,u)])
  (hsp:∀H:Hp,Only H->SqL K H a (ns.map V.int)->sp [.ref a] H (λv _=>v=.bl ca) λ_ _ _=>False)
  (ap:∀H e s',CX [] H B (λ_ _ _=>False) e s'->False) (hT:YT B.heap) (az:K.lookup kO=bz) (as:BmA mg B.heap) :
  zbj (model P w) zcx (.call (.ref fa) {[.ref a],[]}) (λr s'=>r=.ok (.ret<|.bool ca)/\OldK B.heap s'.heap/\s'.os=B.os/\zbW s'.gens) B:=by
 have rv:=w6 hi;have aj:=hi.length;have af:a≠kO:=λz=>by rw[z,hT.1]at Y;cases Y
 -- from an abstract heap in which nothing but the script may be tracked
 have ab:∀H:Hp,Only H->SqL K H a (ns.map V.int)->HOk P w H B.heap->(∀b,H b≠bz->b=a\/b=kO)->(H a≠bz->K.lookup a=bz)->(∃ps,H kO=bw (.tbl ps))->
   zbj (model P w) zcx (.call (.ref fa) {[.ref a],[]}) (λr s'=>r=.ok (.ret<|.bool ca)/\OldK B.heap s'.heap/\s'.os=B.os/\zbW s'.gens) B:=by
  intro H hO hS ac hA hK aq;have M:∀ {b:Addr} {o:Obj},B.heap.get? b=bw o->H b=bz->(AJ B.heap H).get? b=bw o:=λe n=>N9 e n
  have am:∀ {b:Addr} {o:Obj} {es:Array zcy} {ep:Nat},B.heap.get? b=bw o->o.data=.dict es ep->H b=bz:=λ{b o es ep} e d=>by
   cases q:H b with
   |none=>rfl
   |some u=>
    rcases hA b (by rw[q];simp)with e'|e'
    .subst e'
     rw[Y]at e;cases e;have d':Data.seq vs.toArray _=Data.dict es ep:=d;cases d'
    .rw[e',hT.1]at e;cases e
     have d':Data.fields #[]=Data.dict es ep:=d;cases d'
  have W:∀ {b:Addr} {m:Str->Option Value},B.heap.Ns b m->(AJ B.heap H).Ns b m:=λ{b m} ⟨o,es,ep,e,d,r⟩=>{o,es,ep,M e<|am e d,d,r}
  have ai:K.In<|AJ B.heap H:=λb o e=>M (KX b o e) (by
   cases q:H b with
   |none=>rfl
   |some u=>
    rcases hA b (by rw[q];simp)with e'|e'
    .subst e'
     rw[hK<|by rw[q];simp]at e;cases e
    .rw[e',az]at e;cases e)
  have hM:Mod K mg<|AJ B.heap H:=⟨ai,W ag,{mb,W G,aw},(let ⟨mc,h1,h2⟩:=ak;{mc,W h1,h2}),(let ⟨bm,ob,b1,b2,b3,b4⟩:=as;⟨bm,ob,b1,b2,M b3 (by
   cases q:H bm with
   |none=>rfl
   |some u=>
    rcases hA bm (by rw[q];simp)with e'|e'
    .rw[e',Y]at b3;cases b3;cases b4.2.2
    .rw[e',hT.1]at b3;cases b3;cases b4.2.2),b4⟩)⟩
  have e0:Env0 P w K mg (AJ B.heap H) zcx [] B H:={rfl,hM,λb o e=>SX e,Nat.le_of_eq<|KJ _ _,trivial,λb G=>absurd (show b∈([]:List Addr)from G)<|by simp,aq,ac,.of_eq hg};refine zcJ ((F _ ai<|W ag).run zcx [] B H {[.ref a],[]} [.ref a] [.ref a] _ _ hr e0 (ad B<|.ref a) (.cons rfl .nil)<|hsp H hO hS) λr s' h=>?_
  cases r with
  |error e=>exact(ap H e s' h).elim
  |ok fl=>
   cases fl with
   |next=>exact zba h
   |brk=>exact zba h
   |cont=>exact zba h
   |ret u=>
    obtain⟨v,H',os,ah,un,aa,r',q⟩:=h;have q':v=.bl ca:=q;subst q';obtain rfl:u=zcX ca:=r';refine{rfl,{λb o e=>?_,λb o e=>un.there b o e<|by simp},os,ah};cases q:H b with
    |none=>exact .inl<|un.keep b o e q (by intro z;exact absurd (show b∈([]:List Addr)from z)<|by simp)<|by simp
    |some u=>
     rcases hO b with z|⟨ob,xs,z⟩|⟨ps,z⟩
     .rw[q]at z;cases z
     .have z2:=un.frzs b ob _ z
      obtain⟨e1,_⟩:=ac b _ z;obtain⟨e2,_⟩:=aa b _ z2;rw[e]at e1;cases e1;exact .inl e2
     .obtain⟨more,z2⟩:=un.tbls b ps z
      obtain⟨p1,e1,_⟩:=ac b _ z;obtain⟨p2,e2,_⟩:=aa b _ z2;rcases hA b (by rw[q];simp)with e'|e'
      .subst e'
       rw[Y]at e1;cases e1
      .subst e'
       rw[hT.1]at e;cases e;exact .inr<|.inl {hT.2,rfl,#[],p2,rfl,by rw[e2];simp}
 cases hk:K.lookup a with
 |some o=>
  -- the script is one of the module's own objects
  have e:=KX a o hk;rw[Y]at e;cases e;refine ab (λb=>if b=kO then bw (.tbl #[])else bz) (λb=>?_) (.inr {_,vs.toArray,_,hk,rfl,rfl,rfl,by rw[zay,aj];exact hl,by simpa using rv}) (λb u z=>?_) (λb z=>?_) (λz=>?_) {_,ci rfl}
  .by_cases G:b=kO
   .exact .inr<|.inr {_,ci G}
   .exact .inl<|cj G
  .by_cases G:b=kO
   .have N:=(ci G).symm.trans z
    cases N;rw[G];exact{#[],hT.1,trivial,.inl rfl}
   .have N:=(cj G).symm.trans z
    cases N
  .by_cases G:b=kO
   .exact .inr G
   .exact absurd (cj G) z
  .exact absurd (cj af) z
 |none=>
  refine ab (λb=>if b=a then bw (.frz {cls:=.type "list",data:=.seq vs.toArray}<|.lst<|ns.map V.int)else if b=kO then bw (.tbl #[])else bz) (λb=>?_) (.inl<|.inr {{cls:=.type "list",data:=.seq vs.toArray},ci rfl}) (λb u z=>?_) (λb z=>?_) (λ_=>hk) {#[],(cj<|zaV af).trans<|ci rfl}
  .by_cases G:b=a
   .exact .inr<|.inl {_,_,ci G}
   .by_cases U:b=kO
    .exact .inr<|.inr {_,(cj G).trans<|ci U}
    .exact .inl<|(cj G).trans<|cj U
  .by_cases G:b=a
   .have N:=(ci G).symm.trans z
    cases N;subst G;exact{Y,by rw[zak];exact hl,vs,_,rv,Y}
   .by_cases U:b=kO
    .have N:=((cj G).trans<|ci U).symm.trans z
     cases N;rw[U];exact{#[],hT.1,trivial,.inl rfl}
    .have N:=((cj G).trans<|cj U).symm.trans z
     cases N
  .by_cases G:b=a
   .exact .inl G
   .by_cases U:b=kO
    .exact .inr U
    .exact absurd ((cj G).trans<|cj U) z
def UH{l:zeq}{n k:Nat}{q:zai}{B:List Str}{XP:(Str->Option Value)->Heap->Prop}{YP:World->Heap->Prop}{d:DefRec}{K:Params->zae}{CX:World->LO}{sp:World->Sp}{x:Str}
  (hn:l.most=bw n) (ab:n<=zal) (ag:d.params.defaults=[]) (hr:Room k zcx)
  (hY:∀(w:World) (h:Heap),YP w h->(K w.params).In h) (ah:∀(w:World) (h:Heap),YP w h->YT h) (ad:∀p,(K p).lookup kO=bz)
  (F:∀(w:World) (mg:Str -> Option Value) (fa:Addr) (h:Heap), (K w.params).In h -> h.Ns zaH mg -> mg d.name = bw (.ref fa) ->
   ∃fd:zbk,(∀(s:zac) (u:Value),BindsTo s fd {[u],[]} [(x,u)]) /\
    ∀base:Heap,(K w.params).In base->base.Ns zaH mg->FnOk l.prog w (K w.params) mg base (CX w) k fa fd [x] (sp w))
  (hsp:∀(w:World) (H:Hp) (a:Addr) (ns:List Int),ns.length<=n->Only H->SqL (K w.params) H a (ns.map V.int)->sp w [.ref a] H (λv _=>v=.bl ca) λ_ _ _=>False)
  (ac:∀(w:World) (H:Hp) (s:zac) (e:Value) (s':zac),CX w [] H s (λ_ _ _=>False) e s'->False) :
  PySem.W.WalkO q B XP YP l.row.toRowW d [] (λf vs=>PySem.call f vs):=by
 refine Att.AM hn ag λw aj U mg mb fa o pm cd ar a vs ns G Y ho hd an af N M z hg=>?_
 have KX:=hY w _ Y;obtain⟨fd,hb,hF⟩:=F w mg fa _ KX G.T.g af;exact N6 KX G.T.g G.T.b G.T.builtins G.T.nolimit hg N M (zaL z ab) hr hF hb (λH hO hS=>hsp w H a ns z hO hS) (λH e s'=>ac w H U e s') (ah w _ Y) (ad _) G.T.bmain
noncomputable def inClass(s:Stmt)(j:Nat):Stmt:=match s with
 |.ClassDef _ _ _ body _ _ _ _ _ _ _=>body.getD j<|.Pass {0,0,0,0}
 |_=>.Pass {0,0,0,0}
noncomputable def eG(s:Stmt):Arguments:=match s with
 |.FunctionDef _ a _ _ _ _ _ _ _ _=>a
 |_=>{posonlyargs:=[],args:=[],vararg:=bz,kwonlyargs:=[],kw_defaults:=[],kwarg:=bz,defaults:=[]}
noncomputable def bM(s:Stmt):List Stmt:=match s with
 |.FunctionDef _ _ b _ _ _ _ _ _ _=>b
 |_=>[]
noncomputable def aK(s:Stmt):Scope:=match s with
 |.FunctionDef _ _ _ _ _ _ sc _ _ _=>sc
 |_=>{kind:=.function,names:=[],isGenerator:=cf,isCoroutine:=cf}
abbrev wK:LO:=λ_ _ _ _ _ _=>False
abbrev E0:XK:=λ_ _ _=>False
def IC:vR wK X E0:=λ_ _ _ _ _ _ _ h=>h.elim
structure Fun(K:zae)(x qual:Str)(st:Stmt)(f:Addr)(fd:zbk):Prop where
 ex:∃(oc:Value) (od:Option Addr) (kV doc pm:Value) (an:Option Addr) (cdv ct:Value) (osl:Array<|Option Value),
  fd=zbe x qual (eG st) (bM st) (aK st) .none kV doc pm an cdv ct/\K.lookup f=bw {oc,od,.func fd,osl}/\zcv K cdv qual=ca
 kp:zbM K (.ref f)=ca
section
variable {P:zai}{w:World}{K:zae}{mg:Str->Option Value}{base:Heap}
def Fun.ok{x B:Str}{st:Stmt}{f:Addr}{fd:zbk}{N ps:List Str}{k:Nat}{sp:Sp}(F:Fun K x B st f fd)(S:FnScope N ps<|aK st)(W:∀vs H Q E,sp vs H Q E->vs.length=ps.length)
  (M:∀(G:Value) (A:zan) (z:List Env) (s:zac) (H:Hp) (vs:List V) (Q:VK) (E:XK), Room k (A.deeper<|zaK B (aK st) s.heap.objs.size f G) -> sp vs H Q E ->
   ∃t,PSs (i8 wK P w K mg base N B (aK st) f G A z s H E).nox (bM st) t/\t {nx:=λ_ H'=>Q .non H',rt:=Q} (start N vs) H):FnOk P w K mg base wK (k+1) f fd ps sp:=by
 obtain⟨oc,od,kV,Y,pm,an,G,ct,aa,rfl,lk,U⟩:=F.ex;refine VZ lk U S W λA z s H vs Q E hr hsp=>?_
 obtain⟨t,h,q⟩:=M G A z s H vs Q E hr hsp;exact{t,h.nox,q}
def Fun.binds{x z:Str}{st:Stmt}{f:Addr}{fd:zbk}{ps:List Str}(F:Fun K x z st f fd)
  (h:∀(kV G N:Value) (M:Option Addr) (B ct:Value) (us:List Value),us.length=ps.length->zcd (zbe x z (eG st) (bM st) (aK st) .none kV G N M B ct) {us,[]}=pure (ps.zip us)):Binds K fd ps []:=by
 obtain⟨Y,od,kV,G,N,M,B,ct,W,rfl,lk,U⟩:=F.ex;exact .all<|h kV G N M B ct
def FN{x z:Str}{st:Stmt}{f:Addr}{U:Value}{od M:Option Addr}{G:Array (Option Value)}{kV F N B ct:Value}(l:K.lookup f=bw {U,od,.func<|zbe x z (eG st) (bM st) (aK st) .none kV F N M B ct,G})
  (c:zcv K B z=ca) (k:zbM K (.ref f)=ca):Fun K x z st f<|zbe x z (eG st) (bM st) (aK st) .none kV F N M B ct:={{U,od,kV,F,N,M,B,ct,G,rfl,l,c},k}
end
def pM(z:Room k A):A.units+1<cLine:=zdH (Nat.add_le_add_left (by decide:1<=64) _) z.units
section
variable {X:Cx}
def pv(i:Nat)(F:X.N[i]?=bw x:=by rfl)(B:Z7 X.env.scope x:=by first|exact za2 rfl|exact zbT (za2 rfl)|exact zbT<|zbT rfl)(hd:(x == ("__debug__" : Str))=cf:=by decide)
  (z:(x == ("__classdict__" : Str))=cf:=by decide):PE X (.Name x pos)<|dI i:=XB F B hd z
end
def qbW{A B:Prop}(h:B):if cf=ca then A else B:=by
 rw[cj zaD];exact h
def qbN{A B:Prop}(h:A):if ca=ca then A else B:=by
 rw[ci rfl];exact h
def Same(H H':Hp):Prop:=∀b o,H b=bw o->H' b=bw o
end L2
set_option maxHeartbeats 4000000
open PySem PySem.Spec PyProof.Rows L2
namespace My
def FR(i j:Int):Prop:=(-(10^250)<i/\i<10^250)/\-(10^250)<j/\j<10^250
def B5(h1:-(10^250)<i)(h2:i<10^250):Builtin.Int.intBits i<=2^20:=by
 have h:i.natAbs<10^250:=by lia
 have e:(10:Nat)^250<=2^(4*250):=by
  rw[Nat.pow_mul];exact Nat.pow_le_pow_left (by decide) 250
 exact zaL (PyProof.Rows.intBits_le<|zaQ h e)<|by decide
section
variable {X:Cx}
def UA:OpR X (zaP .Mult)<|rI FR λi j=>.int<|i*j:=opI λ_ _ _ _ _ _ _ z q=>mul_int q<|IntMulOk.of_bits (B5 z.1.1 z.1.2)<|B5 z.2.1 z.2.2
def qbM(K:zae):List V->Hp->VK->Prop:=λxs H Q=>∃x n t b,xs=[x,.ty n]/\TyOf K H x t/\zdw K t (.type n)=bw b/\Q (.bl b) H
def N8:CallR X (.builtin "isinstance")<|qbM X.K:=by
 intro pins s σ H xs z Q I r h;obtain⟨x,n,t,b,rfl,ty,e,q⟩:=h;obtain⟨u,B,rfl,r1,r2⟩:=vals2 r;cases r2;exact JF I r1 ty e λtk=>{.bl b,H,I.tok tk,rfl,q}
end
structure Ok(P:zai)(w:World)(K:zae)(mg:Str->Option Value)(base:Heap)(x:Str)(k:Nat)(ps:List Str)(sp:Sp):Prop where
 ex:∃f fd,zbM K (.ref f)=ca/\Binds K fd ps []/\mg x=bw (.ref f)/\FnOk P w K mg base wK k f fd ps sp
structure DefAt(K:zae)(mg:Str->Option Value)(x:Str)(st:Stmt)(ps:List Str):Prop where
 ex:∃f fd,Fun K x x st f fd/\Binds K fd ps []/\mg x=bw (.ref f)
def XS(sp:Sp)(t:TA):TE:=λσ H Q=>t σ H λvs H1=>sp vs H1 Q E0
section
variable {X:Cx}{x:Str}{k:Nat}{ps:List Str}{sp:Sp}{e:Expr}{es:List Expr}{t:TA}{p pos:Pos}
def M7(O:Ok X.prog X.w X.K X.mg X.base x k ps sp)(W:Room k X.A)(U:Gl X x)(G:PA X (e::es) t)(z:(x == ("__debug__" : Str))=cf:=by decide)
  (Y:zag (e::es) X.env=(cf,eval e X.env)::zag es X.env:=by rfl) (B:(zaJ pos<|zag es X.env).any (·.1)=cf:=by rfl) :
  PE X (.Call (.Name x p) (e::es) [] pos) (XS sp t):=by
 obtain⟨f,fd,M,N,hm,F⟩:=O.ex;have h:=zG (p:=p) (pos:=pos) F W U hm M N .nil IC G z Y B;intro pins s σ H Q I hw;refine h pins s σ H Q I ?_;have e:(λ(vs:List V) (H1:Hp)=>sp (vs++[]) H1 Q E0)=λvs H1=>sp vs H1 Q E0:=by
  funext vs H1;rw[zbL]
 show t σ H λvs H1=>sp (vs++[]) H1 Q E0
 rw[e];exact hw
end
section
variable {P:zai}{w:World}{K:zae}{mg:Str->Option Value}{base:Heap}
def BodyOk(P:zai)(w:World)(K:zae)(mg:Str->Option Value)(base:Heap)(x:Str)(st:Stmt)(N:List Str)(k:Nat)(sp:Sp):Prop:=
 ∀(f:Addr) (cdv:Value) (A:zan) (outer:List Env) (s:zac) (H:Hp) (vs:List V) (Q:VK) (E:XK),Room k (A.deeper<|zaK x (aK st) s.heap.objs.size f cdv)->sp vs H Q E->
   ∃t,PSs (i8 wK P w K mg base N x (aK st) f cdv A outer s H E).nox (bM st) t/\t {nx:=λ_ H'=>Q .non H',rt:=Q} (start N vs) H
def BodyOk.fn{x:Str}{st:Stmt}{N ps:List Str}{k:Nat}{sp:Sp}{f:Addr}{fd:zbk}(z:BodyOk P w K mg base x st N k sp)(F:Fun K x x st f fd)(S:FnScope N ps<|aK st)(M:∀vs H Q E,sp vs H Q E->vs.length=ps.length) :
  FnOk P w K mg base wK (k+1) f fd ps sp:=F.ok S M λG A B s H vs Q E U h=>z f G A B s H vs Q E U h
def BodyOk.ok{x:Str}{st:Stmt}{N ps:List Str}{k:Nat}{sp:Sp}(z:BodyOk P w K mg base x st N k sp)(D:DefAt K mg x st ps)(S:FnScope N ps<|aK st)(G:∀vs H Q E,sp vs H Q E->vs.length=ps.length) :
  Ok P w K mg base x (k+1) ps sp:=by
 obtain⟨f,fd,F,B,M⟩:=D.ex;exact{f,fd,F.kp,B,M,z.fn F S G}
end
def C9(K:zae):Sp:=λvs H Q _=>∃(a:Addr) (ns:List Int),vs=[.ref a]/\SqL K H a (ns.map V.int)/\ns.length<=63/\∀H',Q (.bl ca) H'
def walk{l:zeq}{q:zai}{B:List Str}{XP:(Str->Option Value)->Heap->Prop}{M:World->Heap->Prop}{d:DefRec}{K:Params->zae}{k:Nat}(hk:k<=100)(hn:l.most=bw 63)(G:d.params.defaults=[])
  (hY:∀(w:World) (h:Heap),M w h->(K w.params).In h) (N:∀(w:World) (h:Heap),M w h->YT h) (U:∀p,(K p).lookup kO=bz)
  (F:∀(w:World) (mg:Str -> Option Value) (fa:Addr) (h:Heap), (K w.params).In h -> h.Ns zaH mg -> mg d.name = bw (.ref fa) ->
   ∃fd:zbk,(∀(s:zac) (u:Value),BindsTo s fd {[u],[]} [("script",u)])/\∀base:Heap,(K w.params).In base->base.Ns zaH mg->FnOk l.prog w (K w.params) mg base wK k fa fd ["script"] (C9<|K w.params)) :
  PySem.W.WalkO q B XP M l.row.toRowW d [] (λf vs=>PySem.call f vs):=
 L2.UH (n:=63) (k:=k) (x := "script") (CX:=λ_=>wK) (sp:=λw=>C9<|K w.params) hn (by decide) G (Room.mono (k:=100) {rfl,by decide,by decide} hk) hY N U F (λ_ _ a ns Y _ hS=>{a,ns,rfl,hS,Y,λ_=>rfl}) λ_ _ _ _ _ z=>z
def LZ(h:H p=bz):Same H<|upd H p o:=λb u e=>by
 rw[aG<|aY e h];exact e
noncomputable def num(c:Int):Int:=if c%3=0 then c/3%21-10 else c/3%(2*10^60-1)-(10^60-1)
def boot_len:zaI "len" = bw (.builtin "len"):=by decide +kernel
def boot_max:zaI "max" = bw (.builtin "max"):=by decide +kernel
def boot_min:zaI "min" = bw (.builtin "min"):=by decide +kernel
def boot_isinstance:zaI "isinstance" = bw (.builtin "isinstance"):=by decide +kernel
def boot_int:zaI "int" = bw (.type "int"):=by decide +kernel
def boot_bool:zaI "bool" = bw (.type "bool"):=by decide +kernel
def boot_tuple:zaI "tuple" = bw (.type "tuple"):=by decide +kernel
def boot_list:zaI "list" = bw (.type "list"):=by decide +kernel
def boot_dict:zaI "dict" = bw (.type "dict"):=by decide +kernel
def boot_range:zaI "range" = bw (.type "range"):=by decide +kernel
def boot_zip:zaI "zip" = bw (.type "zip"):=by decide +kernel
def boot_sum:zaI "sum" = bw (.builtin "sum"):=by decide +kernel
end My
namespace My
open PySem.SeqAt
inductive Dx where
 | non|bl (b:Bool)|int (i:Int)|str (x:Str)|tup (l:List Dx)|lst (l:List Dx)
mutual
noncomputable def Rep(K:zae)(H:Hp):Dx->V->Prop
 |.non,v=>v=.non
 |.bl b,v=>v=.bl b
 |.int i,v=>v=.int i
 |.str x,v=>v=.str x
 |.tup l,v=>∃a xs,v=.ref a/\SqT K H a xs/\RepL K H l xs
 |.lst l,v=>∃a xs,v=.ref a/\SqL K H a xs/\RepL K H l xs
noncomputable def RepL(K:zae)(H:Hp):List Dx->List V->Prop
 |[],vs=>vs=[]
 |d::ds,vs=>∃x xs,vs=x::xs/\Rep K H d x/\RepL K H ds xs
end
section
variable {K:zae}{H H':Hp}
def RepL.cons(h1:Rep K H d v)(h2:RepL K H ds vs):RepL K H (d::ds)<|v::vs:=by
 rw[RepL];exact{v,vs,rfl,h1,h2}
theorem RepL.length:∀ {ds:List Dx} {vs:List V},RepL K H ds vs->vs.length=ds.length
 |[],vs,h=>by rw[RepL]at h;rw[h];rfl
 |d::ds,vs,h=>by
  rw[RepL]at h;obtain⟨x,xs,rfl,_,h2⟩:=h;rw[zaB,zaB,RepL.length h2]
theorem RepL.get':∀ {ds:List Dx} {vs:List V} {i:Nat} {d:Dx},RepL K H ds vs->ds[i]?=bw d->∃v,vs[i]?=bw v/\Rep K H d v
 |[],vs,i,d,h,e=>by simp at e
 |d'::ds,vs,i,d,h,e=>by
  rw[RepL]at h;obtain⟨x,xs,rfl,h1,h2⟩:=h;cases i with
  |zero=>simp at e;subst e;exact{x,rfl,h1}
  |succ i=>exact RepL.get' (i:=i) (ds:=ds) h2<|by simpa using e
theorem RepL.append:∀ {ds es:List Dx} {vs us:List V},RepL K H ds vs->RepL K H es us->RepL K H (ds++es) (vs++us)
 |[],es,vs,us,h,h'=>by rw[RepL]at h;rw[h];exact h'
 |d::ds,es,vs,us,h,h'=>by
  rw[RepL]at h;obtain⟨x,xs,rfl,h1,h2⟩:=h;exact RepL.cons h1<|RepL.append h2 h'
mutual
noncomputable def Dx.dep:Dx->Nat
 |.tup l=>pS l+1
 |.lst l=>pS l+1
 |.non=>0
 |.bl _=>0
 |.int _=>0
 |.str _=>0
noncomputable def pS:List Dx->Nat
 |[]=>0
 |d::ds=>max d.dep<|pS ds
end
mutual
noncomputable def Dx.nb:Dx->Bool
 |.bl _=>cf
 |.tup l=>IX l
 |.lst l=>IX l
 |.non=>ca
 |.int _=>ca
 |.str _=>ca
noncomputable def IX:List Dx->Bool
 |[]=>ca
 |d::ds=>d.nb && IX ds
end
theorem GV:∀ {ds:List Dx} {i:Nat} {d:Dx},ds[i]?=bw d->d.dep<=pS ds
 |[],i,d,e=>by simp at e
 |d'::ds,0,d,e=>by simp at e;subst e;rw[pS];lia
 |d'::ds,i+1,d,e=>by
  have:=GV (ds:=ds) (i:=i) (by simpa using e);rw[pS];lia
theorem E6:∀ {ds:List Dx} {i:Nat} {d:Dx},IX ds=ca->ds[i]?=bw d->d.nb=ca
 |[],i,d,_,e=>by simp at e
 |d'::ds,0,d,h,e=>by simp at e;subst e;rw[IX,zaS]at h;exact h.1
 |d'::ds,i+1,d,h,e=>by
  rw[IX,zaS]at h;exact E6 h.2<|by simpa using e
end
section
variable {X:Cx}{pins:List (Addr×Obj)}{σ:L2.St}{H:Hp}{s:zac}
def HF(I:Inv X pins σ H s)(h1:SqL X.K H a xs)(h2:SqT X.K H a ys):False:=by
 obtain⟨F,_,⟨o,n,e,c,_⟩,_⟩:=I.list h1;obtain⟨its',_,⟨o',B,z,_⟩,_⟩:=I.tuple h2;rw[e]at B;cases B;rw[c]at z;exact absurd z<|by decide
mutual
theorem Rep.inj(I:Inv X pins σ H s):∀(d e:Dx) (v:V),Rep X.K H d v->Rep X.K H e v->d=e
 |.non,e,v,h,h'=>by
  rw[Rep]at h;subst h;cases e <;> (rw[Rep]at h') <;> first|rfl|(cases h';done)|(obtain⟨_,_,z,_⟩:=h';cases z)
 |.bl b,e,v,h,h'=>by
  rw[Rep]at h;subst h;cases e <;> (rw[Rep]at h') <;> first|(cases h';rfl)|(cases h';done)|(obtain⟨_,_,z,_⟩:=h';cases z)
 |.int i,e,v,h,h'=>by
  rw[Rep]at h;subst h;cases e <;> (rw[Rep]at h') <;> first|(cases h';rfl)|(cases h';done)|(obtain⟨_,_,z,_⟩:=h';cases z)
 |.str x,e,v,h,h'=>by
  rw[Rep]at h;subst h;cases e <;> (rw[Rep]at h') <;> first|(cases h';rfl)|(cases h';done)|(obtain⟨_,_,z,_⟩:=h';cases z)
 |.tup l,e,v,h,h'=>by
  rw[Rep]at h;obtain⟨a,xs,rfl,h1,h2⟩:=h;cases e with
  |tup m=>
   rw[Rep]at h';obtain⟨b,ys,B,F,G⟩:=h';cases B;have M:=I.tuple_inj h1 F;subst M;rw[RepL.inj I l m xs h2 G]
  |lst m=>
   rw[Rep]at h';obtain⟨b,ys,B,F,G⟩:=h';cases B;exact(HF I F h1).elim
  |non=>rw[Rep]at h';cases h'
  |bl b=>rw[Rep]at h';cases h'
  |int i=>rw[Rep]at h';cases h'
  |str x=>rw[Rep]at h';cases h'
 |.lst l,e,v,h,h'=>by
  rw[Rep]at h;obtain⟨a,xs,rfl,h1,h2⟩:=h;cases e with
  |lst m=>
   rw[Rep]at h';obtain⟨b,ys,B,F,G⟩:=h';cases B;have M:=I.list_inj h1 F;subst M;rw[RepL.inj I l m xs h2 G]
  |tup m=>
   rw[Rep]at h';obtain⟨b,ys,B,F,G⟩:=h';cases B;exact(HF I h1 F).elim
  |non=>rw[Rep]at h';cases h'
  |bl b=>rw[Rep]at h';cases h'
  |int i=>rw[Rep]at h';cases h'
  |str x=>rw[Rep]at h';cases h'
theorem RepL.inj(I:Inv X pins σ H s):∀(ds es:List Dx) (vs:List V),RepL X.K H ds vs->RepL X.K H es vs->ds=es
 |[],es,vs,h,h'=>by
  rw[RepL]at h;subst h;cases es with
  |nil=>rfl
  |cons e es=>rw[RepL]at h';obtain⟨_,_,z,_⟩:=h';cases z
 |d::ds,es,vs,h,h'=>by
  rw[RepL]at h;obtain⟨x,xs,rfl,h1,h2⟩:=h;cases es with
  |nil=>rw[RepL]at h';cases h'
  |cons e es=>
   rw[RepL]at h';obtain⟨_,_,z,F,B⟩:=h';cases z;rw[Rep.inj I d e x h1 F,RepL.inj I ds es xs h2 B]
end
end
open Classical in
def zH:∀(ds es:List Dx),((zau<|min ds.length es.length).all (λj=>decide (ds.getD j .non=es.getD j .non)) && ds.length == es.length)=decide (ds=es):=by
 intro ds es;by_cases h:ds=es
 .subst h
  simp
 .rw[decide_eq_false h]
  by_cases z:ds.length=es.length
  .simp only[z,Nat.min_self,beq_self_eq_true,Bool.and_true]
   rw[Bool.eq_false_iff];intro B;rw[List.all_eq_true]at B;refine h<|List.ext_getElem z λi h1 h2=>?_;have:=of_decide_eq_true<|B i<|List.mem_range.mpr h2;simpa[List.getD,h1,h2]using this
  .have:(ds.length == es.length)=cf:=by simpa using z
   rw[this,Bool.and_false]
open Classical in
def CS(ds es:List Dx)(h:ds.length=es.length):((zau ds.length).all λj=>decide (ds.getD j .non=es.getD j .non))=decide (ds=es):=by
 have:=zH ds es;rw[h,Nat.min_self,beq_self_eq_true,Bool.and_true]at this;rw[h];exact this
section
variable {X:Cx}{pins:List (Addr×Obj)}{σ:L2.St}{H:Hp}{s:zac}
def EqAt.to(h:EqAt A s u v b)(e:b=c):EqAt A s u v c:=e ▸ h
open Classical in
def oR(I:Inv X pins σ H s){n:Nat}(ih:∀(A:zan) (d e:Dx) (x y:V) (u v:Value),d.dep<=n->A.units+n<cLine->d.nb=ca->e.nb=ca->Rep X.K H d x->Rep X.K H e y->RelV x u->RelV y v->EqAt A s u v (decide (d=e)))
  {A:zan} {ds es:List Dx} {xs ys:List V} {z vs:List Value} (hd:pS ds<=n) (hu:A.units+(n+1)<cLine) (h1:IX ds=ca) (h2:IX es=ca) (r1:RepL X.K H ds xs) (r2:RepL X.K H es ys) (G:Vals xs z) (F:Vals ys vs) :
  ∀j (h1:j<z.toArray.size) (h2:j<vs.toArray.size),EqAt A.in1 s z.toArray[j] vs.toArray[j]<|decide (ds.getD j .non=es.getD j .non):=by
 intro j j1 j2;have l1:=r1.length;have l2:=r2.length;have l3:=G.length;have l4:=F.length;have k1:j<z.length:=by simpa using j1
 have k2:j<vs.length:=by simpa using j2
 have B:ds[j]?=bw (ds.getD j .non):=by simp[List.getD,show j<ds.length by lia]
 have M:es[j]?=bw (es.getD j .non):=by simp[List.getD,show j<es.length by lia]
 obtain⟨x,ex,rx⟩:=r1.get' B;obtain⟨y,ey,Y⟩:=r2.get' M;obtain⟨u,N,ru⟩:=G.get ex;obtain⟨v,ev,rv⟩:=F.get ey;have W:z.toArray[j]=u:=by
  rw[zaG k1]at N;simpa using zaz N
 have U:vs.toArray[j]=v:=by
  rw[zaG k2]at ev;simpa using zaz ev
 rw[W,U];exact ih A.in1 _ _ x y u v (zaL (GV B) hd) (by show A.units+1+n<cLine;lia) (E6 h1 B) (E6 h2 M) rx Y ru rv
end
section
variable {X:Cx}{pins:List (Addr×Obj)}{σ:L2.St}{H:Hp}{s:zac}
def PlainL.isList(p:PlainL h a its):h.IsList a its:=by
 obtain⟨o,n,e,c,_,d⟩:=p;exact⟨o,e,c,n,d⟩
open Classical in
def sQ(I:Inv X pins σ H s) :
  ∀(n:Nat) (A:zan) (d e:Dx) (x y:V) (u v:Value),d.dep<=n->A.units+n<cLine->d.nb=ca->e.nb=ca->Rep X.K H d x->Rep X.K H e y->RelV x u->RelV y v->EqAt A s u v (decide (d=e)):=by
 intro n;induction n with
 |zero=>
  intro A d e x y u v hd hu Y N r1 r2 ru F;have B:A.units<cLine:=by lia
  cases d with
  |bl b=>rw[Dx.nb]at Y;cases Y
  |tup l=>rw[Dx.dep]at hd;lia
  |lst l=>rw[Dx.dep]at hd;lia
  |non=>
   rw[Rep]at r1;subst r1;cases ru;cases e with
   |bl b=>rw[Dx.nb]at N;cases N
   |non=>rw[Rep]at r2;subst r2;cases F;exact EqAt.to (EqAt.same _)<|by simp
   |int i=>rw[Rep]at r2;subst r2;obtain⟨t,rfl⟩:=F;exact EqAt.to (EqAt.none_int _ _)<|by simp
   |str i=>rw[Rep]at r2;subst r2;obtain⟨t,rfl⟩:=F;exact EqAt.to (EqAt.none_str _ _)<|by simp
   |tup l=>
    rw[Rep]at r2;obtain⟨a,xs,rfl,h1,_⟩:=r2;cases F;obtain⟨M,_,G,_⟩:=I.tuple h1;exact EqAt.to (EqAt.none_tuple G B)<|by simp
   |lst l=>
    rw[Rep]at r2;obtain⟨a,xs,rfl,h1,_⟩:=r2;cases F;obtain⟨M,_,G,_⟩:=I.list h1;exact EqAt.to (EqAt.none_list G.isList B)<|by simp
  |int i=>
   rw[Rep]at r1;subst r1;obtain⟨t,rfl⟩:=ru;cases e with
   |bl b=>rw[Dx.nb]at N;cases N
   |non=>rw[Rep]at r2;subst r2;cases F;exact EqAt.to (EqAt.int_none _ _)<|by simp
   |int j=>rw[Rep]at r2;subst r2;obtain⟨t',rfl⟩:=F;exact EqAt.to (EqAt.int_int _ _ _ _)<|by simp[Bool.beq_eq_decide_eq]
   |str j=>rw[Rep]at r2;subst r2;obtain⟨t',rfl⟩:=F;exact EqAt.to (EqAt.int_str _ _ _ _)<|by simp
   |tup l=>
    rw[Rep]at r2;obtain⟨a,xs,rfl,h1,_⟩:=r2;cases F;obtain⟨M,_,G,_⟩:=I.tuple h1;exact EqAt.to (EqAt.int_tuple _ _ G B)<|by simp
   |lst l=>
    rw[Rep]at r2;obtain⟨a,xs,rfl,h1,_⟩:=r2;cases F;obtain⟨M,_,G,_⟩:=I.list h1;exact EqAt.to (EqAt.int_list _ _ G.isList B)<|by simp
  |str i=>
   rw[Rep]at r1;subst r1;obtain⟨t,rfl⟩:=ru;cases e with
   |bl b=>rw[Dx.nb]at N;cases N
   |non=>rw[Rep]at r2;subst r2;cases F;exact EqAt.to (EqAt.str_none _ _)<|by simp
   |int j=>rw[Rep]at r2;subst r2;obtain⟨t',rfl⟩:=F;exact EqAt.to (EqAt.str_int _ _ _ _)<|by simp
   |str j=>rw[Rep]at r2;subst r2;obtain⟨t',rfl⟩:=F;exact EqAt.to (EqAt.str_str _ _ _ _)<|by simp[Bool.beq_eq_decide_eq]
   |tup l=>
    rw[Rep]at r2;obtain⟨a,xs,rfl,h1,_⟩:=r2;cases F;obtain⟨M,_,G,_⟩:=I.tuple h1;exact EqAt.to (EqAt.str_tuple _ _ G B)<|by simp
   |lst l=>
    rw[Rep]at r2;obtain⟨a,xs,rfl,h1,_⟩:=r2;cases F;obtain⟨M,_,G,_⟩:=I.list h1;exact EqAt.to (EqAt.str_list _ _ G.isList B)<|by simp
 |succ n ih=>
  intro A d e x y u v hd hu Y N r1 r2 ru F;have B:A.units<cLine:=by lia
  cases d with
  |bl b=>rw[Dx.nb]at Y;cases Y
  |non=>exact ih A _ e x y u v (by rw[Dx.dep];lia) (by lia) Y N r1 r2 ru F
  |int i=>exact ih A _ e x y u v (by rw[Dx.dep];lia) (by lia) Y N r1 r2 ru F
  |str i=>exact ih A _ e x y u v (by rw[Dx.dep];lia) (by lia) Y N r1 r2 ru F
  |tup l=>
   have ac:=r1;rw[Rep]at r1;obtain⟨a,xs,rfl,h1,q1⟩:=r1;cases ru;obtain⟨M,v1,G,_⟩:=I.tuple h1;cases e with
   |bl b=>rw[Dx.nb]at N;cases N
   |non=>rw[Rep]at r2;subst r2;cases F;exact EqAt.to (EqAt.tuple_none G B)<|by simp
   |int j=>rw[Rep]at r2;subst r2;obtain⟨t',rfl⟩:=F;exact EqAt.to (EqAt.tuple_int _ _ G B)<|by simp
   |str j=>rw[Rep]at r2;subst r2;obtain⟨t',rfl⟩:=F;exact EqAt.to (EqAt.tuple_str _ _ G B)<|by simp
   |lst m=>
    rw[Rep]at r2;obtain⟨b,ys,rfl,h2,q2⟩:=r2;cases F;obtain⟨U,v2,W,_⟩:=I.list h2;exact EqAt.to (EqAt.tuple_list G W.isList B)<|by simp
   |tup m=>
    by_cases hv:v=zax a
    .subst hv
     obtain rfl:y=V.ref a:=RelV.inj F rfl;have:=Rep.inj I _ _ _ ac r2;rw[this];exact EqAt.to (EqAt.same _)<|by simp
    .rw[Rep]at r2;obtain⟨b,ys,rfl,h2,q2⟩:=r2;cases F
     obtain⟨U,v2,W,_⟩:=I.tuple h2;rw[Dx.dep]at hd;rw[Dx.nb]at Y N;refine EqAt.to (EqAt.of_refs (λz=>hv<|by rw[z])<|RcAt.tuples G W B<|oR I ih (by lia) hu Y N q1 q2 v1 v2) ?_;have e1:M.toArray.size=l.length:=by rw[zay,<- v1.length,q1.length]
     have e2:U.toArray.size=m.length:=by rw[zay,<- v2.length,q2.length]
     rw[e1,e2,zH];simp
  |lst l=>
   have ac:=r1;rw[Rep]at r1;obtain⟨a,xs,rfl,h1,q1⟩:=r1;cases ru;obtain⟨M,v1,G,_⟩:=I.list h1;cases e with
   |bl b=>rw[Dx.nb]at N;cases N
   |non=>rw[Rep]at r2;subst r2;cases F;exact EqAt.to (EqAt.list_none G.isList B)<|by simp
   |int j=>rw[Rep]at r2;subst r2;obtain⟨t',rfl⟩:=F;exact EqAt.to (EqAt.list_int _ _ G.isList B)<|by simp
   |str j=>rw[Rep]at r2;subst r2;obtain⟨t',rfl⟩:=F;exact EqAt.to (EqAt.list_str _ _ G.isList B)<|by simp
   |tup m=>
    rw[Rep]at r2;obtain⟨b,ys,rfl,h2,q2⟩:=r2;cases F;obtain⟨U,v2,W,_⟩:=I.tuple h2;exact EqAt.to (EqAt.list_tuple G.isList W B)<|by simp
   |lst m=>
    by_cases hv:v=zax a
    .subst hv
     obtain rfl:y=V.ref a:=RelV.inj F rfl;have:=Rep.inj I _ _ _ ac r2;rw[this];exact EqAt.to (EqAt.same _)<|by simp
    .rw[Rep]at r2;obtain⟨b,ys,rfl,h2,q2⟩:=r2;cases F
     obtain⟨U,v2,W,_⟩:=I.list h2;rw[Dx.dep]at hd;rw[Dx.nb]at Y N;have e1:M.toArray.size=l.length:=by rw[zay,<- v1.length,q1.length]
     have e2:U.toArray.size=m.length:=by rw[zay,<- v2.length,q2.length]
     by_cases hl:l.length=m.length
     .refine EqAt.to (EqAt.of_refs (λz=>hv<|by rw[z])<|RcAt.lists G.isList W.isList (by rw[e1,e2,hl]) B<|oR I ih (by lia) hu Y N q1 q2 v1 v2) ?_
      rw[e1,CS _ _ hl];simp
     .refine EqAt.to (EqAt.of_refs (λz=>hv<|by rw[z])<|RcAt.lists_lengths G.isList W.isList (by rw[e1,e2];simpa using hl) B) ?_
      rw[decide_eq_false];intro z;cases z;exact hl rfl
end
noncomputable def Dx.seq:Dx->Bool
 |.tup _=>ca | .lst _=>ca | .non=>cf | .bl _=>cf | .int _=>cf | .str _=>cf
open Classical in
def qbc(K:zae)(neg:Bool):R2:=λx y H Q=>∃d e,Rep K H d x/\Rep K H e y/\d.seq=ca/\e.seq=ca/\d.nb=ca/\e.nb=ca/\d.dep<=60/\Q (.bl<|if neg then !decide (d=e)else decide (d=e)) H
section
variable {X:Cx}{pins:List (Addr×Obj)}{σ:L2.St}{H:Hp}{s:zac}
open Classical in
def V9(I:Inv X pins σ H s)(hu:X.A.units+64<cLine)(r1:Rep X.K H d x)(r2:Rep X.K H e y)(q1:d.seq=ca)(N:e.seq=ca)(n1:d.nb=ca)(n2:e.nb=ca)(hd:d.dep<=60)(ru:RelV x u)(rv:RelV y v) :
  RcAt X.A s u v (decide (d=e))/\RcNeAt X.A s u v (!decide (d=e)):=by
 have F:X.A.units<cLine:=by lia
 cases d with
 |bl b=>cases q1
 |non=>cases q1
 |int b=>cases q1
 |str b=>cases q1
 |tup l=>
  rw[Rep]at r1;obtain⟨a,xs,rfl,h1,k1⟩:=r1;cases ru;obtain⟨Y,v1,M,_⟩:=I.tuple h1;have U:Y.toArray.size=l.length:=by rw[zay,<- v1.length,k1.length]
  cases e with
  |bl b=>cases N
  |non=>cases N
  |int b=>cases N
  |str b=>cases N
  |tup m=>
   rw[Rep]at r2;obtain⟨b,ys,rfl,h2,k2⟩:=r2;cases rv;obtain⟨G,W,B,_⟩:=I.tuple h2;have e2:G.toArray.size=m.length:=by rw[zay,<- W.length,k2.length]
   rw[Dx.dep]at hd;rw[Dx.nb]at n1 n2;have he:=oR I (sQ I 60) (A:=X.A) (by lia) (by lia) n1 n2 k1 k2 v1 W;have a1:=RcAt.tuples M B F he;have a2:=RcNeAt.tuples M B F he;rw[U,e2,zH]at a1 a2;have z:decide (Dx.tup l=Dx.tup m)=decide (l=m):=by simp
   rw[z];exact{a1,a2}
  |lst m=>
   rw[Rep]at r2;obtain⟨b,ys,rfl,h2,k2⟩:=r2;cases rv;obtain⟨G,W,B,_⟩:=I.list h2;have z:decide (Dx.tup l=Dx.lst m)=cf:=by simp
   rw[z];exact{RcAt.tuple_list M B.isList F,RcNeAt.tuple_list M B.isList F}
 |lst l=>
  rw[Rep]at r1;obtain⟨a,xs,rfl,h1,k1⟩:=r1;cases ru;obtain⟨Y,v1,M,_⟩:=I.list h1;have U:Y.toArray.size=l.length:=by rw[zay,<- v1.length,k1.length]
  cases e with
  |bl b=>cases N
  |non=>cases N
  |int b=>cases N
  |str b=>cases N
  |tup m=>
   rw[Rep]at r2;obtain⟨b,ys,rfl,h2,k2⟩:=r2;cases rv;obtain⟨G,W,B,_⟩:=I.tuple h2;have z:decide (Dx.lst l=Dx.tup m)=cf:=by simp
   rw[z];exact{RcAt.list_tuple M.isList B F,RcNeAt.list_tuple M.isList B F}
  |lst m=>
   rw[Rep]at r2;obtain⟨b,ys,rfl,h2,k2⟩:=r2;cases rv;obtain⟨G,W,B,_⟩:=I.list h2;have e2:G.toArray.size=m.length:=by rw[zay,<- W.length,k2.length]
   rw[Dx.dep]at hd;rw[Dx.nb]at n1 n2;have z:decide (Dx.lst l=Dx.lst m)=decide (l=m):=by simp
   rw[z];by_cases hl:l.length=m.length
   .have he:=oR I (sQ I 60) (A:=X.A) (by lia) (by lia) n1 n2 k1 k2 v1 W
    have a1:=RcAt.lists M.isList B.isList (by rw[U,e2,hl]) F he;have a2:=RcNeAt.lists M.isList B.isList (by rw[U,e2,hl]) F he;rw[U,CS _ _ hl]at a1 a2;exact{a1,a2}
   .have z2:decide (l=m)=cf:=decide_eq_false λz=>hl (by rw[z])
    rw[z2];exact{RcAt.lists_lengths M.isList B.isList (by rw[U,e2];simpa using hl) F,RcNeAt.lists_lengths M.isList B.isList (by rw[U,e2];simpa using hl) F}
end
section
variable {X:Cx}
def WO(B:X.A.units+64<cLine):OpR X (zaA .Eq)<|qbc X.K cf:=by
 intro pins s σ H x y v u Q I U F h;obtain⟨d,e,r1,r2,M,N,G,z,hd,q⟩:=h;exact(V9 I B r1 r2 M N G z hd U F).1 X.prog X.w X.xe _ {.bl _,H,I,rfl,q}
def Y1(B:X.A.units+64<cLine):OpR X (zaA .NotEq)<|qbc X.K ca:=by
 intro pins s σ H x y v u Q I U F h;obtain⟨d,e,r1,r2,M,N,G,z,hd,q⟩:=h;exact(V9 I B r1 r2 M N G z hd U F).2 X.prog X.w X.xe _ {.bl _,H,I,rfl,q}
end
section
variable {K:zae}{H H':Hp}
theorem HC{z:Type}{f:z->Dx}(h:∀x,(f x).nb=ca):∀l:List z,IX (l.map f)=ca
 |[]=>by rw[zcf,IX]
 |x::l=>by rw[zaj,IX,h x,HC h l];rfl
theorem CQ{z:Type}{f:z->Dx}{n:Nat}(h:∀x,(f x).dep<=n):∀l:List z,pS (l.map f)<=n
 |[]=>by rw[zcf,pS];lia
 |x::l=>by
  have a:=h x;have b:=CQ h l;rw[zaj,pS]
  lia
end
noncomputable def aZ(X:Cx)(N:List Str)(scope:Scope)(z:List<|Str×Addr)(C:Addr)(s:zac)(H:Hp)(fp:List Addr):Cx where
 prog:=X.prog
 w:=X.w
 K:=X.K
 mg:=X.mg
 base:=X.base
 A:=X.A
 N:=N
 s₀:=s
 H₀:=H
 env:=compEnvC scope z C X.env
 outer:=X.stack
 stack:=X.stack
 ex:=fp
 fn:=λ_=>cf
 calm:=X.calm
 pn:=[]
 xe:=λ_ _=>False
def F5(X:Cx)(z:List Expr)(t:TT):Prop:=
 ∀(pins:List<|Addr×Obj) (s:zac) (σ:L2.St) (H:Hp) (Q:Bool->Hp->Prop),Inv X pins σ H s->t σ H Q->
  wpAny (model X.prog X.w) X.A (forIn z ca λc r=>if r=ca then do let ok <- isTrue c X.env<|eval c X.env;pure (zcM ok)else pure<|zcM r) (TP X pins σ Q) X.xe s
def qcr:TT:=λ_ H Q=>Q ca H
def R0:F5 X [] qcr:=λpins s σ H Q I h=>wpAny_tests_nil {H,I,h}
def RE(h:PT X c t):F5 X [c] t:=λpins s σ H Q I hw=>wpAny_tests_one<|h pins s σ H Q I hw
structure Clo(X:Cx)(N:List Str)(scope:Scope)(cl:List<|Str×Addr):Prop where
 clos:zc9 scope X.env=pure cl
 kind:scope.kind=.function
 nocell:∀y∈scope.names,y.2≠.cell
 names:∀y∈scope.names,y.2=.local->scope.names.lookup y.1=bw .local
 sub:∀x c,cl.lookup x=bw c->X.env.cells.lookup x=bw c
 has:∀x,((zbf scope X.env).names.lookup x=bw .cell\/(zbf scope X.env).names.lookup x=bw .free)->∃c,cl.lookup x=bw c
def Start(X:Cx)(N:List Str)(scope:Scope)(σ z:L2.St):Prop:=
 z.length=N.length/\∀(j:Nat) (x:Str) (v:V),N[j]?=bw x->z[j]?=bw (bw v)->Z7 (zbf scope X.env) x->¬ (zbf scope X.env).names.lookup x=bw .local/\∃i:Nat,X.N[i]?=bw x/\σ[i]?=bw (bw v)/\(X.env.kindOf x=bw .cell\/X.env.kindOf x=bw .free)
def DB(wi:TI)(g:TG)(tt:TT)(te:TE)(S:L2.St->L2.St->Prop):TE:=λσ H Q=>∃F,S σ F/\wi σ H λJ H1=>∀D,H1 D=bz->∃W:Nat->Nat->L2.St->List V->Hp->Prop,(∃m,W 0 m F []<|upd H1 D<|.lst []) /\
 ∀i m G B H2,W i m G B H2->(J.stop i H2/\Q (.ref D) H2)\/(J.go i H2/\B.length<zal/\∀x U,J.yld i H2 x U->g x G U λz H4=>tt z H4 λok N=>
  if ok=ca then te z N λv Y=>Y D=bw (.lst B)/\∃M,M<m/\W (i+1) M z (B++[v]) (upd Y D<|.lst<|B++[v])else N D=bw (.lst B)/\∃M,M<m/\W (i+1) M z B N)
section
variable {X:Cx}
def SW(B:Inv X pins σ H3 s3)(G:Clo X N scope cl)(ff:∀b∈fp,i9 X pins H3 b)(fe:∀b∈fp,∃o,s3.heap.get? b=bw o) :
  (aZ X N scope cl s3.heap.objs.size s3 H3 fp).Ok where
 mod:=B.ok.mod
 kind:=G.kind
 glob:=B.ok.glob
 blt:=B.ok.blt
 above:=zah _
 inj:=λx y c h1 h2=>B.ok.inj x y c (G.sub x c h1)<|G.sub y c h2
 has:=λx h=>G.has x h
 cab:=λx c h _=>nomatch h
 hd:=B.ok.hd
 frames:=B.ok.frames
 stk:=.inl rfl
 exf:=λb F=>by
  obtain⟨o,e⟩:=fe b F;exact{zaE<|zao e,λx c h=>(ff b F).2.2.2.2.1 x c<|G.sub x c h}
 bs:=B.bs
 bsz:=zaL B.ok.bsz B.sz
 noex:=λb o e F=>by
  rcases(ff b F).2.2.2.1 with z|z
  .exact B.ok.noex b o e z
  .exact absurd (zaQ (zao e) B.ok.bsz)<|Nat.not_lt.mpr z
 exfs:=λb F z=>by
  rcases List.mem_cons.mp (B.stkSub b z)with q|q
  .exact(ff b F).2.1 q
  .exact(ff b F).2.2.1 q
 funs:=B.stack
 frf:=B.stkFree
 tb:=B.env0.tb
def NP(F:Inv X pins σ H3 s3)(U:Clo X N scope cl)(ff:∀b∈fp,i9 X pins H3 b)(fe:∀b∈fp,∃o,s3.heap.get? b=bw o)
  (st:Start X N scope σ σ') (ho:s4.os=s3.os) (hg:s4.gens=s3.gens) (W:∀b o,s3.heap.get? b=bw o->s4.heap.get? b=bw o) (hn:s4.heap.Ns s3.heap.objs.size m) :
  Inv (aZ X N scope cl s3.heap.objs.size s3 H3 fp) [] σ' H3 s4 where
 ok:=SW F U ff fe
 os:=ho
 bare:=by rw[hg];exact F.bare
 base:=Un.kept W
 loc:=by
  refine{m,hn,λj x v h1 h2 B=>?_};obtain⟨nl,i,Y,e2,z⟩:=st.2 j x v h1 h2 B;obtain⟨m0,ag,aa⟩:=F.loc;have ac:Z7 X.env.scope x:=by
   rcases z with z|z
   .exact .inr<|.inl z
   .exact .inr<|.inr z
  obtain⟨u,ru,l⟩:=aa i x v Y e2 ac;refine{u,ru,?_};rcases l with⟨lk,_⟩|⟨_,c,hc,G⟩
  .rcases z with z|z <;> (rw[lk]at z;cases z)
  .have kk:(zbf scope X.env).names.lookup x=bw .cell\/(zbf scope X.env).names.lookup x=bw .free:=by
    rcases B with B|B|B
    .exact absurd B nl
    .exact .inl B
    .exact .inr B
   obtain⟨c',M⟩:=U.has x kk;have ec:=U.sub x c' M;rw[hc]at ec;cases ec;obtain⟨o,ad,ab⟩:=G;exact .inr {kk,c,M,o,W c o ad,ab}
 cell:=λx c e=>by
  obtain⟨v,o,Y,d1⟩:=F.cell x c<|U.sub x c e;exact{v,o,W c o Y,d1}
 free:=F.hok.fresh<|zah _
 freeC:=λx c e=>F.freeC x c<|U.sub x c e
 pin:=λp hp=>nomatch hp
 hok:=F.hok.kept W
 len:=st.1
def comp_back(Y:Inv X pins σ H3 s3)(ff:∀b∈fp,i9 X pins H3 b)
  (B:Inv (aZ X N scope cl s3.heap.objs.size s3 H3 fp) [] σ5 H5 s5) (hs:za6 s3.heap.objs.size s5.heap h'):Inv X pins σ H5 {s5 with heap:=h'}:=by
 have G:∀b o,s3.heap.get? b=bw o->b≠s3.heap.objs.size:=λb o e=>zaE<|zao e
 have u:=B.base;refine Y.call' (s':={s5 with heap:=h'}) (ch:=fp) B.os {λb o e n F hx=>?_,λb o e n F hx=>?_,u.free,λb o e hx=>?_,u.tups,u.frzs,u.tbls} ?_ B.bare λb F=>?_
 .exact(hs.2 b<|G b o e).trans<|u.keep b o e n F hx
 .obtain⟨sl,q⟩:=u.slot b o e n F hx
  exact{sl,(hs.2 b<|G b o e).trans q}
 .obtain⟨o',q⟩:=u.there b o e hx
  exact{o',(hs.2 b<|G b o e).trans q}
 .intro b ob e
  have M:H5 s3.heap.objs.size=bz:=B.free;refine(B.hok b ob e).stay (λc w' U q=>(hs.2 c ?_).trans q) (λ_ q=>q) (λ_ _ q=>q) λ_ _ _ q=>q
  rintro rfl;rcases U with z|z
  .subst z;rw[M]at e;cases e
  .rw[M]at z;cases z
 .obtain⟨_,f1,_,f3,W,f5⟩:=ff b F
  exact{f3,f1,W,f5}
def JD(I:Nat->zac->Prop)
  (turn:∀n s, I n s -> wpAny (model prog w) A (zaW it) (λr B => match r with
   |none=>R (.ok .next) B
   |some v=>wpAny (model prog w) A (zdt target it v) (λ_ z=>wpAny (model prog w) A (zbi target env v) (λ_ G=>
     wpAny (model prog w) A (forIn ifs ca λc r=>if r=ca then do let ok <- isTrue c env<|eval c env;pure (zcM ok)else pure<|zcM r) (λok F=>
      if ok=ca then wpAny (model prog w) A (eval elt env) (λx W=>
       wpAny (model prog w) A (call (.builtin "list.append") [acc,x]) (λ_ U=>∃m,m<n/\I m U) (λ_ _=>False) W) (λ_ _=>False) F
      else ∃m,m<n/\I m F) (λ_ _=>False) G) (λ_ _=>False) z) (λ_ _=>False) B) (λ_ _=>False) s)
  (n:Nat) (h:I n s) :
  zbj (model prog w) A (.compLoop (.ListComp elt [{target,iter,ifs,0}] scope pos) 0 it acc env) R s:=by
 refine codeAny_loop rfl I (λn s hI=>?_) n h;show wpAny _ A ((compTurn (.ListComp elt [{target,iter,ifs,0}] scope pos) 0 it acc env).onRaise λx=>do noteFrame x env;theTreesLotGoes x) _ _ s;refine wpAny_noted ?_;rw[compTurn_list];have ff:∀(e:Value) (s':zac),False->notedBy (model prog w) A env (λe s'=>R (.error e) s') e s':=λ_ _ h=>h.elim
 refine zaa<|zc3<|zaa<|za7 (turn n s hI) (λr B M=>?_) ff;cases r with
 |none=>exact zaf M
 |some v=>
  refine zaa<|za7 M (λ_ z Y=>?_) ff;refine zaa<|za7 Y (λ_ G ac=>zaa<|za7 ac (λok F N=>?_) ff) ff;cases ok with
  |false=>exact zaf {rfl,N}
  |true=>
   exact zaa<|zaa<|za7 N (λx W ab=>zaa<|za7 ab (λ_ U aa=>zaf<|zaf {rfl,aa}) ff) ff
def xO{ao tg an:Expr}{aq:List Expr}{scope:Scope}{pos:Pos}{N:List Str}{cl:List (Str×Addr)}{wi:TI}{g:TG}{tt:TT}{te:TE}{RR:Value->Addr->Result->zac->Prop}{pins:List (Addr×Obj)}{σ ak:L2.St}{Q:VK}{J:It}{H2:Hp}{F:zac}{it:Addr}{fp:List Addr}{tn:Nat->Heap->Prop}{E:Value->zac->Prop}
  (hc:X.calm=ca) (cc:Clo X N scope cl) (hg:∀C s H fp,PG (aZ X N scope cl C s H fp) tg g) (ht:∀C s H fp,F5 (aZ X N scope cl C s H fp) aq tt) (he:∀C s H fp,PE (aZ X N scope cl C s H fp) ao te)
  (I2:Inv X pins σ H2 F) (T:Turn X.prog X.w X.K tg J fp it tn) (ar:tn 0 F.heap) (f2:∀b∈fp,i9 X pins H2 b) (sS:Start X N scope σ ak)
  (q2:∀D, H2 D = bz -> ∃W:Nat -> Nat -> L2.St -> List V -> Hp -> Prop, (∃m, W 0 m ak []<|upd H2 D<|.lst []) /\
   ∀i m U M H2,W i m U M H2->(J.stop i H2/\Q (.ref D) H2)\/(J.go i H2/\M.length<zal/\∀x G,J.yld i H2 x G->g x U G λaj H4=>tt aj H4 λok H5=>
    if ok=ca then te aj H5 λv H6=>H6 D=bw (.lst M)/\∃m',m'<m/\W (i+1) m' aj (M++[v]) (upd H6 D<|.lst<|M++[v])else H5 D=bw (.lst M)/\∃m',m'<m/\W (i+1) m' aj M H5))
  (bi:∀(s3 s5:zac) (G H5:Hp) (aa:L2.St) (D:Addr),Inv X pins σ G s3->(∀b∈fp,i9 X pins G b)->Inv (aZ X N scope cl s3.heap.objs.size s3 G fp) [] aa H5 s5->Q (.ref D) H5->RR (.ref D) s3.heap.objs.size (.ok .next) s5) :
  wpAny (model X.prog X.w) X.A (newList []) (λacc a8=>wpAny (model X.prog X.w) X.A (newFunctionEnv scope X.env.globals cl [] X.env.qual bz .none<|bw X.env) (λam a0=>
   zbj (model X.prog X.w) X.A (.compStart (.ListComp ao [{tg,an,aq,0}] scope pos) 0 (.ref it) acc {am with scope:=zbf scope X.env}) (RR acc am.locals) a0) E a8) E F:=by
 refine zbR<|wpAny_newFunctionEnv cc.nocell (by intro y hy;simp at hy) (λh1 ai ag=>?_) cc.kind;dsimp only at ai ag ⊢;have I3:Inv X pins σ (upd H2 F.heap.objs.size<|.lst []) {F with heap:=F.heap.push {cls:=.type "list",dict:=bz,data:=.seq ([]:List Value).toArray} }:=I2.lnew (t':=F.toks) .nil<|zaM _;have hD:H2 F.heap.objs.size=bz:=I2.fresh;have bj:∀b∈fp,b≠F.heap.objs.size:=λb B=>by
  obtain⟨o,e,_⟩:=T.obj 0 _ ar b B;exact zaE<|zao e
 have fe:∀b∈fp,∃o,(F.heap.push {cls:=.type "list",dict:=bz,data:=.seq ([]:List Value).toArray}).get? b=bw o:=λb B=>by
  obtain⟨o,e,_⟩:=T.obj 0 _ ar b B;exact{o,zam _ e}
 have f3:∀b∈fp,i9 X pins (upd H2 F.heap.objs.size<|.lst []) b:=λb B=>{by rw[aG<|bj b B];exact(f2 b B).1,(f2 b B).2}
 obtain⟨W,⟨m0,w0⟩,turn⟩:=q2 F.heap.objs.size hD;have bm:(upd H2 F.heap.objs.size<|.lst []) F.heap.objs.size=bw (.lst []):=aJ;generalize hs3:({F with heap:=F.heap.push {cls:=.type "list",dict:=bz,data:=.seq ([]:List Value).toArray} }:zac)=s3 at I3;have e3:F.heap.push {cls:=.type "list",dict:=bz,data:=.seq ([]:List Value).toArray}=s3.heap:=by rw[<- hs3]
 rw[e3]at ai ag fe ⊢;generalize F.heap.objs.size=D at *;generalize upd H2 D (.lst [])=G at *;have aw:∀b o,s3.heap.get? b=bw o->h1.get? b=bw o:=λb o e=>(ag.2 b<|zaE<|zao e).trans<|zam _ e
 have a1:tn 0 s3.heap:=by
  refine T.keep 0 _ _ ar λb B o e=>?_
  rw[<- e3];exact zam _ e
 have al:∀s4:zac,s4={F with heap:=h1,toks:=F.toks+([]:List<|Str×Value).length}->
   zbj (model X.prog X.w) X.A (.compLoop (.ListComp ao [{tg,an,aq,0}] scope pos) 0 (.ref it) (.ref D)<|compEnvC scope cl s3.heap.objs.size X.env) (RR (.ref D) s3.heap.objs.size) s4:=by
  rintro s4 rfl;have I4:Inv (aZ X N scope cl s3.heap.objs.size s3 G fp) [] ak G {F with heap:=h1,toks:=F.toks+([]:List<|Str×Value).length}:=
   NP (m:=λx=>([]:List<|Str×Value).reverse.lookup x) I3 cc f3 fe sS (by rw[<- hs3]) (by rw[<- hs3]) aw ai
  have ap:∀ {H':Hp},(∀b∈fp,H' b=bz)->∀b∈fp,i9 (aZ X N scope cl s3.heap.objs.size s3 G fp) [] H' b:=λhn b B=>by
   have ok:=I4.ok;exact{hn b B,(ok.exf b B).1,ok.exfs b B,.inl B,(ok.exf b B).2,λp hp=>nomatch hp}
  refine JD (λn s'=>∃i U M H',Inv (aZ X N scope cl s3.heap.objs.size s3 G fp) [] U H' s'/\tn i s'.heap/\(∀b∈fp,H' b=bz)/\H' D=bw (.lst M)/\W i n U M H') ?_ m0 {0,ak,[],G,I4,T.keep 0 _ _ a1 λb B o e=>aw b o e,λb B=>(f3 b B).1,bm,w0};rintro n s5 ⟨i,aa,M,H5,I5,a4,a5,cL,w5⟩;rcases turn i n aa M H5 w5 with⟨az,qn⟩|⟨go,ay,step⟩
  .refine c8 (T.done (aZ X N scope cl s3.heap.objs.size s3 G fp) rfl rfl rfl hc i [] s5 aa H5 _ I5 (ap a5) a4 az) λr s6 ⟨hr,I6⟩=>?_
   subst hr;exact bi s3 s6 G H5 aa D I3 f3 I6 qn
  .refine c8 (T.item (aZ X N scope cl s3.heap.objs.size s3 G fp) rfl rfl rfl hc i [] s5 aa H5 _ I5 (ap a5) a4 go) λr s6 ⟨u,hr,h6⟩=>?_
   subst hr;refine c8 h6 λ_ s7 ⟨x,H7,I7,r7,y7,as,ba⟩=>?_
   have bn:=I7.pinned (ap ba)<|T.obj _ _ as;refine c8 (hg _ _ _ _ _ s7 aa H7 x u _ bn r7<|step x H7 y7) λ_ s8 ⟨Y,H8,I8,q8⟩=>?_
   refine c8 (ht _ _ _ _ _ s8 Y H8 _ I8 q8) λok s9 ⟨H9,I9,q9⟩=>?_
   have fin:∀ {ad:zac} {ac:Hp} {vs:List V},Inv (aZ X N scope cl s3.heap.objs.size s3 G fp) ([]++vP fp s7.heap) Y ac ad->ac D=bw (.lst vs)->(∃m',m'<n/\W (i+1) m' Y vs ac)->
     ∃m,m<n/\∃i U M H',Inv (aZ X N scope cl s3.heap.objs.size s3 G fp) [] U H' ad/\tn i ad.heap/\(∀b∈fp,H' b=bz)/\H' D=bw (.lst M)/\W i m U M H':=λ{ad ac vs} ah hd ⟨m',hm,bc⟩=>by
    refine{m',hm,i+1,Y,vs,ac,ah.unpinned,T.keep _ _ _ as λb B o e=>(ah.pin (b,o)<|zaY _<|zaY _<|jQ B e).1,λb B=>?_,hd,bc};obtain⟨o,e,d⟩:=T.obj _ _ as b B;exact(ah.pin (b,o)<|zaY _<|zaY _<|jQ B e).2.1
   cases ok with
   |false=>
    rw[cj zaD]at q9 ⊢;exact fin I9 q9.1 q9.2
   |true=>
    rw[ci rfl]at q9 ⊢;refine c8 (he _ _ _ _ _ s9 Y H9 _ I9 q9) λy ad ⟨v,ac,ah,bh,a3,bb⟩=>?_
    refine c8 (xQ (X:=aZ X N scope cl s3.heap.objs.size s3 G fp) _ ad Y ac (.ref D) [v] (.ref D) [y] (λ_ au=>au D=bw (.lst<|M++[v])/\∃m',m'<n/\W (i+1) m' Y (M++[v]) au) ah rfl (.cons bh .nil) {D,M,v,rfl,rfl,a3,ay,aJ,bb}) λ_ cy ⟨z,au,bf,_,ax,bo⟩=>?_
    exact fin bf ax bo
 exact codeAny_compStart_list (al _ rfl)<|T.self X.A 0 _ _ _ (T.keep 0 _ _ a1 λb B o e=>aw b o e)<|al _ rfl
def HL{F tg z:Expr}{B:List Expr}{scope:Scope}{pos:Pos}{N:List Str}{G:List (Str×Addr)}{wi:TI}{g:TG}{tt:TT}{te:TE}
  (hc:X.calm=ca) (M:Clo X N scope G) (hi:PI X tg z wi) (hg:∀C s H fp,PG (aZ X N scope G C s H fp) tg g) (ht:∀C s H fp,F5 (aZ X N scope G C s H fp) B tt) (he:∀C s H fp,PE (aZ X N scope G C s H fp) F te)
  (hs:∀x,zbd z X.env x=pure x:=by intro _;rfl) :
  PE X (.ListComp F [{tg,z,B,0}] scope pos) (DB wi g tt te<|Start X N scope):=by
 intro pins s σ H Q I h;obtain⟨ai,sS,hw⟩:=h;rw[eval_ListComp];refine wpAny_comprehension_free (use:=bz) rfl hs M.clos M.kind M.names<|c8 (hi pins s σ H _ I hw) λv s1 h1=>c8 h1 λac s2 h2=>?_;obtain⟨it,fp,tn,J,H2,e,I2,T,U,f2,q2⟩:=h2;subst e;refine xO (wi:=wi) (Q:=Q) (RR:=λacc C=>compPost (model X.prog X.w) X.A X.xe bz (EP X pins σ Q) acc C) hc M hg ht he I2 T U f2 sS q2 ?_;intro s3 s5 H3 H5 ae D I3 f3 Y q;obtain⟨m,hn,_⟩:=id Y.loc;exact{m,hn,λh' W=>{.ref D,H5,comp_back I3 f3 Y W,rfl,q}}
end
end My
namespace My
open PySem PySem.W PyProof.Rows
structure Ord(n:Nat)(lt:Nat->Nat->Bool):Prop where
 irr:∀i,i<n->lt i i=cf
 tr:∀i j k,i<n->j<n->k<n->lt i j=ca->lt j k=ca->lt i k=ca
 tot:∀i j,i<n->j<n->i≠j->lt i j=ca\/lt j i=ca
section
variable {n:Nat}{lt:Nat->Nat->Bool}(O:Ord n lt)
include O
end
end My
namespace My
open PySem.W
section
variable {prog:zai}{w:World}{A:zan}{E:Value->zac->Prop}{s:zac}{it d:Addr}{i ep:Nat}{od:Obj}{es:Array zcy}
def RawD(h:Heap)(d:Addr)(es:Array zcy)(ep:Nat):Prop:=∃o,h.get? d=bw o/\o.ExactDict/\o.data=.dict es ep
def RawD.typ(x:RawD s.heap d es ep):s.TypeIs (.ref d) "dict" := let ⟨o,a,b,_⟩:=x;{o,a,b.1}
def M5(hd:(d == za9)=cf)(z:RawD s.heap d es ep)
  (B:Q (.ref s.heap.objs.size) {s with heap:=s.heap.push {cls:=.type "dict_keyiterator",data:=.fields #[.ref d,.int 0 0,.int es.size 0,.int ep 0]} }):wpAny (model prog w) A (pyIter<|.ref d) Q E s:=by
 have tt:=z.typ;obtain⟨o,g1,g2,g3⟩:=z;refine wpAny_pyIter_slot tt PySem.F.slot_dict_iter<|zbo PySem.F.slot_dict_iter tt PySem.F.entry_dict_iter ?_<|PySem.F.args_dict_iter_1 _;unfold zb8.«dict.__iter__»;refine zaa ?_;unfold Builtin.Dict.dictSlotNone;refine zaa<|wpAny_notOrdered_dict tt ?_;show wpAny _ _ (pure<|zax d) _ _ s;refine zaf ?_;show wpAny _ _ (Builtin.Dict.showsAll d >>= _) _ _ s;unfold Builtin.Dict.showsAll;rw[cj<|by rw[hd];exact zaD];refine zaa<|zaf<|zaa<|zer g1 g3<|zaa<|zes g1 g3 ?_;refine zaa<|zbR<|zaf {_,rfl, "dict_keyiterator",_,{_,zaC _ rfl,rfl},PySem.F.slot_dict_keyiterator_next.lookup,?_};simpa[zbc]using B
def N1(z:s.heap.IsKeyIter it d i es.size ep)(M:RawD s.heap d es ep)(hx:i<es.size)
  (G:∀h',h'.IsKeyIter it d (i+1) es.size ep->za6 it s.heap h'->Q (bw es[i].key) {s with heap:=h'}):wpAny (model prog w) A (zaW<|.ref it) Q E s:=by
 have tt:=z.typeIs;obtain⟨o,B,F,hd⟩:=id z;obtain⟨od,g1,g2,g3⟩:=M;unfold zaW;refine zaa<|zcN<|zbQ (name:=za1 "__next__") tt zdI<|zbo zdI tt zeL ?_<|zeM _;refine zaa<|zaf<|zaa<|zaa ?_
 first|refine zaa (zdJ tt<|zaf ?_)|refine zaa<|zdK tt<|zaf ?_
 refine zaa<|wpAny_fieldsOf B hd ?_;simp only[show zeN "dict_keyiterator" = cf by decide,zbs,if_false];show wpAny _ _ (if(zax d == za8)=ca then _ else _) _ _ s;rw[cj<|show ¬ ((zax d == za8)=ca)from zaD];refine zaa<|zaf<|zaa<|zer g1 g3 ?_;rw[cj<|by simp];refine zaa<|zaf<|zaa<|zes g1 g3 ?_;rw[cj<|by simp];refine zaf ?_;simp only[show ¬ ((i:Int)<0)from by lia,if_false,zbC,Array.getElem?_eq_getElem hx];refine zaa ?_;first|refine zaa (zdJ tt<|zaf ?_)|refine zaa<|zdK tt<|zaf ?_
 refine zaa<|wpAny_isOneOf_keyiter tt ?_;show wpAny _ _ (setField (.ref it) 1 (zbc<|(i:Int)+1) >>= _) _ _ s;refine zaa<|zdL B hd (by simp) ?_;have nx:(s.heap.update it<|Obj.mapFields (·.setIfInBounds 1 (zbc<|(i:Int)+1))).IsKeyIter it d (i+1) es.size ep:={_,zem _ B<|Obj.isFreed_of_fields<|zdM hd _,(Obj.cls_mapFields ..).trans F,by rw[zdM hd];simp[zbc]};refine zaa<|zbg<|zaa<|wpAny_isOneOf_keyiter (s:={s with heap:=s.heap.update it (Obj.mapFields (·.setIfInBounds 1 (zbc<|(i:Int)+1)))}) nx.typeIs ?_;show wpAny _ _ (pure es[i].key) _ _ _;exact zaf<|zaf {_,rfl,zaf<|G _ nx<|zcO ..}
def UQ(G:A.handled=bz)(z:s.heap.IsKeyIter it d i es.size ep)(M:RawD s.heap d es ep)(hx:es.size<=i)
  (F:∀h',Heap.ExtBut it s.heap h'->Q bz {s with heap:=h'}):wpAny (model prog w) A (zaW<|.ref it) Q E s:=by
 have tt:=z.typeIs;obtain⟨o,B,N,hd⟩:=id z;obtain⟨od,g1,g2,g3⟩:=M;unfold zaW;refine zaa<|zcN<|zbQ (name:=za1 "__next__") tt zdI<|zbo zdI tt zeL ?_<|zeM _;refine zaa<|zaf<|zaa<|zaa ?_
 first|refine zaa (zdJ tt<|zaf ?_)|refine zaa<|zdK tt<|zaf ?_
 refine zaa<|wpAny_fieldsOf B hd ?_;simp only[show zeN "dict_keyiterator" = cf by decide,zbs,if_false];show wpAny _ _ (if(zax d == za8)=ca then _ else _) _ _ s;rw[cj<|show ¬ ((zax d == za8)=ca)from zaD];refine zaa<|zaf<|zaa<|zer g1 g3 ?_;rw[cj<|by simp];refine zaa<|zaf<|zaa<|zes g1 g3 ?_;rw[cj<|by simp];refine zaf ?_;simp only[show ¬ ((i:Int)<0)from by lia,if_false,zbC,Array.getElem?_eq_none hx];refine zaa ?_;first|refine zaa (zdJ tt<|zaf ?_)|refine zaa<|zdK tt<|zaf ?_
 show wpAny _ _ (setField (.ref it) 0 .none >>= _) _ _ s;refine zaa<|zdL B hd (by simp) ?_;show wpAny _ _ (newExc (.type "StopIteration") [] >>= _) _ _ _;refine zaa ?_;simp only[newExc,newTuple];refine zaa (zbR ?_<|by size_fits);refine zaa (m:=zdN _ _)<|wpAny_of_eq (a:=za8) (by first|rfl|(simp only[zdN];rfl)) ?_
 refine zbR ?_ (by size_fits);simp only[raiseNew];refine zaa<|wpAny_handled ?_;rw[show A.in1.handled=bz from G];refine zaa<|zaf<|wpAny_throw ?_;refine zaa<|zcG (T := "StopIteration") (b:=ca) {_,zaC _ rfl,rfl} isSubtype_stop ?_;exact zaf<|F _<|((zcO ..).extBut.push _).push _
end
end My
namespace My
open PySem.SeqAt PySem.W
def K2{prog:zai}{w:World}{A:zan}{E:Value->zac->Prop}{s:zac}{t F:Addr}{items:Array Value}{N U:Value}{lo hi:Option Int}{Q:Value->zac->Prop}(z:IsTup s.heap t items)(hs:s.heap.IsSliceOf F N U .none)(Y:zbP N lo)(W:zbP U hi)
  (hw:HT.sIx items.size 0 lo=0/\HT.sIx items.size items.size hi=items.size) (h:Q (.ref t) s):wpAny (model prog w) A (zbA (.ref t)<|.ref F) Q E s:=by
 obtain⟨os,M,B,ab⟩:=id hs;have tt:s.TypeIs (.ref F) "slice" := {os,M,B};unfold zbA;try with_reducible refine zbg ?_
 first|refine zaa (zaf ?_)|skip
 refine zaa<|wpAny_sequenceKey z.typeIs (by decide) ?_;refine zaa<|zbQ (name:=za1 "__getitem__") z.typeIs zdB<|zbo zdB z.typeIs entry_tuple_getitem ?_<|args_tuple_getitem _ _;show wpAny _ _ (zd3 (.ref t) >>= _) _ _ s;refine zaa<|tupleItemsOf_ z<|zaa<|zcK tt ?_;rw[ci<|by decide];refine zaa<|HT.iU hs Y W ?_;have G:(((HT.sIx items.size 0 lo:Nat):Int) == 0 && (1:Int) == 1 && (HT.sIx items.size items.size hi-HT.sIx items.size 0 lo) == items.size)=ca:=by
  rw[hw.1,hw.2];simp
 show wpAny _ _ (if(((HT.sIx items.size 0 lo:Nat):Int) == 0 && (1:Int) == 1 && (HT.sIx items.size items.size hi-HT.sIx items.size 0 lo) == items.size)=ca then _ else _) _ _ s;rw[ci G];refine zaa (m:=Builtin.Tuple.tupleIsExact _) ?_;unfold Builtin.Tuple.tupleIsExact;refine zaa<|zcK z.typeIs<|zaf ?_;rw[ci<|by decide];exact zaa<|zbV<|zaf {_,rfl,zaf h}
section
variable {X:Cx}
def qbr(K:zae):V->Option Int->Option Int->Hp->VK->Prop:=λx lo hi H Q=>∃a xs,x=.ref a/\SqT K H a xs/\(HT.sIx xs.length 0 lo=0/\HT.sIx xs.length xs.length hi=xs.length)/\Q (.ref a) H
def SL:SlR X<|qbr X.K:=by
 intro pins s σ H x v Y vu lo hi W Q I N hs M G h;obtain⟨a,xs,rfl,hx,hw,q⟩:=h;cases N;obtain⟨B,r,F,U⟩:=I.tuple hx;have z:B.toArray.size=xs.length:=by rw[zay];exact r.length.symm
 exact{"tuple",_,PyProof.Rows.slot_tuple_getitem.lookup,F.typeIs,K2 F hs M G (by rw[z];exact hw) {.ref a,H,I,rfl,q}}
def RP:SlR X λx lo hi H Q=>qbh X.K x lo hi H Q\/qbr X.K x lo hi H Q:=XG.or SL
end
def vQ(x:ObjOk P w H h d<|.dT kvs):(d == za9)=cf/\kvs.length<=zal/\∃es ep,RawD h d es ep/\es.size=kvs.length /\
  ∀(j:Nat) (p:List Key×V),kvs[j]?=bw p->∃(e:zcy) (b:Addr),es[j]?=bw e/\e.key=.ref b/\H b=bw (.tup<|p.1.map kV)/\RelV p.2 e.val/\e.hash=(zca<|bE P w).hash p.1:=by
 obtain⟨z,y,xs,r,o,es,ep,h1,h2,M,F,h5⟩:=x;have hl:xs.length=kvs.length:=(zcY r).symm;have B:es.size=kvs.length:=by
  have:=congrArg zbq F;rw[zbY,zak]at this
  lia
 have get:∀ {kvs:List (List Key×V)} {xs:List (List Key×Addr×Value)},Paired (λ(p:List Key×V) (q:List Key×Addr×Value)=>p.1=q.1/\H q.2.1=bw (.tup<|p.1.map kV)/\RelV p.2 q.2.2) kvs xs->
   ∀(j:Nat) (p:List Key×V),kvs[j]?=bw p->∃q,xs[j]?=bw q/\p.1=q.1/\H q.2.1=bw (.tup<|p.1.map kV)/\RelV p.2 q.2.2:=by
  intro kvs xs r;induction r with
  |nil=>intro j p e;simp at e
  |cons h t ih=>
   intro j p e;cases j with
   |zero=>simp at e;subst e;exact{_,rfl,h}
   |succ j=>exact ih j p<|by simpa using e
 refine{y,z,es,ep,{o,h1,h2,M},B,λj p e=>?_};obtain⟨q,N,W,Y,U⟩:=get r j p e;have G:es[j]?=bw (zcs (zca<|bE P w) q):=by
  rw[<- zet,F,zav,N];rfl
 exact{_,q.2.1,G,rfl,Y,U,by show(zca<|bE P w).hash q.1=_;rw[W]}
def ItD(d:Addr)(o:Obj)(kvs:List<|List Key×V):It:=
 {λi H=>H d=bw (.frz o<|.dT kvs)/\i<kvs.length,λi H x H'=>H'=H/\∃k v b,kvs[i]?=bw (k,v)/\x=.ref b/\H b=bw (.tup<|k.map kV),λi H=>H d=bw (.frz o<|.dT kvs)/\kvs.length<=i}
def J0{P:zai}{w:World}{K:zae}{tg:Expr}(d it:Addr)(o:Obj)(kvs:List<|List Key×V)(es:Array zcy)(ep:Nat)(hd:o.data=.dict es ep)(an:es.size=kvs.length):Turn P w K tg (ItD d o kvs) [it] it (λi h=>h.IsKeyIter it d i es.size ep) where
 mem:=by simp
 obj:=λi h st b F=>by
  have e:b=it:=by simpa using F
  subst e;obtain⟨o,N,e2,e3⟩:=st;exact{o,N,λv z=>by rw[e3]at z;cases z}
 keep:=λi h h' st k=>st.at λo e=>k it (by simp) o e
 item:=by
  intro X hP hw hK hc i pins s σ H E I U st hg;subst hP hw hK;obtain⟨h1,h2⟩:=hg;obtain⟨g1,g2⟩:=(show ObjOk X.prog X.w H s.heap d (.frz o<|.dT kvs)from I.hok d _ h1);obtain⟨_,_,ag,ae,⟨o',r1,r2,r3⟩,M,B⟩:=vQ g2;rw[g1]at r1;cases r1;rw[hd]at r3;injection r3 with r4 r5
  subst r4 r5;obtain⟨W,f1,f2,Y,f4,f5⟩:=U it (by simp);have hi:i<es.size:=by lia
  refine N1 st {o,g1,r2,hd} hi λh' G sb=>?_
  have I1:Inv X pins σ H {s with heap:=h'}:=I.turned (t':=s.toks) (λb o F e=>(sb.2 b F).trans e) W f1 Y f4 f5;obtain⟨e,b,N,e2,e3,_⟩:=B i _<|zaG h2;have ee:es[i]=e:=by
   rw[Array.getElem?_eq_getElem hi]at N;exact zaz N
  obtain⟨o2,q1,q2,q3⟩:=id G;refine{_,rfl,v9 (s:={s with heap:=h'}) (n := "dict_keyiterator") q1 q2 q3 (by decide) {.ref b,H,I1,?_,{rfl,kvs[i].1,kvs[i].2,b,zaG h2,rfl,e3},G,λc F=>(U c F).1}};rw[ee,e2];rfl
 done:=by
  intro X hP hw hK hc i pins s σ H E I U st hg;subst hP hw hK;obtain⟨h1,h2⟩:=hg;obtain⟨g1,g2⟩:=(show ObjOk X.prog X.w H s.heap d (.frz o<|.dT kvs)from I.hok d _ h1);obtain⟨_,_,ag,ae,⟨o',r1,r2,r3⟩,M,B⟩:=vQ g2;rw[g1]at r1;cases r1;obtain⟨W,f1,f2,Y,f4,f5⟩:=U it (by simp);exact UQ (I.ok.hd hc) st {o,g1,r2,hd} (by lia) λh' eb=>{rfl,I.turned (t':=s.toks) (λb o F e=>eb b o F e) W f1 Y f4 f5}
 self:=λ_ _ _ _ _ st h=>wpAny_pyIter_keyiter st h
def EN(I:Inv X pins σ H s)(hd:H d=bw (.dT kvs))(G:s.heap.get? d=bw o):Inv X pins σ (upd H d<|.frz o<|.dT kvs) s:=by
 have B:∀b u,H b=bw u->(∀z,u≠.dT z)->b≠d:=λb u e n z=>by
  subst z;rw[hd]at e;exact n kvs (zaz e).symm
 have J:=I.un (h':=s.heap) (t':=s.toks) (H':=upd H d<|.frz o<|.dT kvs) ⟨λb u q _ _ _=>q,λb u q _ _ _=>{u.slots,q},λb u q n _=>by rw[aG λz=>by rw[z,hd]at n;cases n];exact n,λb u q _=>{u,q},
  λb xs q=>by rw[aG<|B b _ q λz h=>by cases h];exact q,λb u xs q=>by rw[aG<|B b _ q λz h=>by cases h];exact q,λb ps q=>{#[],by rw[aG (B b _ q λz h=>by cases h),q];simp}⟩ (λb u e=>?_)
 .exact J
 .have st:∀ {b:Addr} {u:HO},ObjOk X.prog X.w H s.heap b u->ObjOk X.prog X.w (upd H d<|.frz o<|.dT kvs) s.heap b u:=λx=>x.stay (λ_ _ _ q=>q) (λc q=>by rw[aG<|B c _ q λz h=>by cases h];exact q) (λc xs q=>by rw[aG<|B c _ q λz h=>by cases h];exact q) λc _ _ q=>by rw[aG<|B c _ q λz h=>by cases h];exact q
  by_cases F:b=d
  .subst F
   rw[aJ]at e;cases e;exact{G,st<|I.hok b _ hd}
  .rw[aG F]at e
   exact st<|I.hok b u e
end My
namespace My
open PySem.SeqAt
abbrev Tm:=List Int×Int
noncomputable def look(z:List Tm)(k:List Int):Option Int:=(z.find? λt=>decide (t.1=k)).map (·.2)
noncomputable def put(z:List Tm)(k:List Int)(c:Int):List Tm:=if(z.any λt=>decide (t.1=k))=ca then z.map (λt=>if t.1=k then(t.1,c)else t)else z++[(k,c)]
def qbi(z:List Tm)(t:Tm):List Tm:=put z t.1<|(look z t.1).getD 0+t.2
def W6(ts:List Tm):List Tm:=ts.foldl qbi []
noncomputable def qaK(M:Int)(z:List Tm):List Tm:=(z.filter λt=>decide (t.2%M≠0)).map λt=>(t.1,t.2%M)
def TS(H H':Hp):Prop:=∀b xs,H b=bw (.tup xs)->H' b=bw (.tup xs)
def UU:∀ns:List Int,IX (ns.map Dx.int)=ca:=λns=>HC (f:=Dx.int) (λ_=>by rw[Dx.nb]) ns
def MY:∀ns:List Int,pS (ns.map Dx.int)<=0:=λns=>CQ (f:=Dx.int) (λ_=>by rw[Dx.dep];exact zah _) ns
noncomputable def hT(ns:List Int):Int:=reduceHash<|zcp<|ns.map hashInt
end My
namespace My
noncomputable def itN(t:Bool):String:=if t=ca then "tuple_iterator" else "list_iterator"
noncomputable def sqN(t:Bool):String:=if t=ca then "tuple" else "list"
def SIt(t:Bool)(h:Heap)(i l:Addr)(k:Nat):Prop:=∃o,h.get? i=bw o/\o.cls=.type (itN t)/\o.data=.fields #[.ref l,.int k 0]
def SSq(t:Bool)(h:Heap)(l:Addr)(xs:Array Value):Prop:=∃o,h.get? l=bw o/\o.cls=.type (sqN t)/\∃n,o.data=.seq xs n
def SIt.to(x:SIt t h i l k)(e:∀o,h.get? i=bw o->h'.get? i=bw o):SIt t h' i l k:=let ⟨o,ho,r⟩:=x;{o,e o ho,r}
def SSq.to(x:SSq t h l xs)(e:∀o,h.get? l=bw o->h'.get? l=bw o):SSq t h' l xs:=let ⟨o,ho,r⟩:=x;{o,e o ho,r}
section
variable {prog:zai}{w:World}{A:zan}{E:Value->zac->Prop}{s:zac}
def next_item(B:SIt t s.heap it l i)(N:SSq t s.heap l xs)(hx:xs[i]?=bw x)
  (U:∀h',SIt t h' it l (i+1)->za6 it s.heap h'->Q x {s with heap:=h'}):wpAny (model prog w) A (zci<|.ref it) Q E s:=by
 cases t with
 |false=>exact wpAny_nextOf_list_item (it:=it) (l:=l) (items:=xs) B N hx U
 |true=>
  have z:s.heap.IsTupleIter it l i:=B;obtain⟨o,F,W,hd⟩:=B;obtain⟨Y,M,_,nl,G⟩:=N;unfold zci;refine zaa<|zbQ (name:=za1 "__next__") z.typeIs zdO<|zbo zdO z.typeIs zeO ?_<|zeP _;show wpAny _ _ (field (.ref it) 0 >>= _) _ _ _;refine zaa<|zaT F hd (x:=.ref l) rfl ?_;show wpAny _ _ (if(zax l == za8)=ca then _ else _) _ _ _;rw[cj<|show ¬ ((zax l == za8)=ca)from zaD];show wpAny _ _ (field (.ref it) 1 >>= _) _ _ _;refine zaa<|zaT F hd (x:=.int i 0) rfl ?_;show wpAny _ _ (zda (.ref l) >>= _) _ _ _;refine zaa<|zbh M G ?_;simp only[zbC,hx];refine zaa<|zdL F hd (by simp)<|zaf {x,rfl,zaf<|U _ {_,zem _ F<|Obj.isFreed_of_fields<|zdM hd _,(Obj.cls_mapFields ..).trans W,by rw[zdM hd];simp[zbc]}<|zcO ..}
def next_end(G:A.handled=bz)(B:SIt t s.heap it l i)(U:SSq t s.heap l xs)(hx:xs[i]?=bz)
  (W:∀h' e,Heap.ExtBut it s.heap h'->(∃o,h'.get? e=bw o/\o.cls=.type "StopIteration")->E (.ref e) {s with heap:=h'}):wpAny (model prog w) A (zci<|.ref it) Q E s:=by
 cases t with
 |false=>exact wpAny_nextOf_list_end (it:=it) (l:=l) (items:=xs) G B U hx W
 |true=>
  have z:s.heap.IsTupleIter it l i:=B;obtain⟨o,N,Y,hd⟩:=B;obtain⟨ol,M,_,nl,F⟩:=U;unfold zci;refine zaa<|zbQ (name:=za1 "__next__") z.typeIs zdO<|zbo zdO z.typeIs zeO ?_<|zeP _;show wpAny _ _ (field (.ref it) 0 >>= _) _ _ _;refine zaa<|zaT N hd (x:=.ref l) rfl ?_;show wpAny _ _ (if(zax l == za8)=ca then _ else _) _ _ _;rw[cj<|show ¬ ((zax l == za8)=ca)from zaD];show wpAny _ _ (field (.ref it) 1 >>= _) _ _ _;refine zaa<|zaT N hd (x:=.int i 0) rfl ?_;show wpAny _ _ (zda (.ref l) >>= _) _ _ _;refine zaa<|zbh M F ?_;simp only[zbC,hx];refine zaa<|zbV<|zaa<|zdL N hd (by simp) ?_;show wpAny _ _ (newExc (.type "StopIteration") [] >>= _) _ _ _;refine zaa ?_;simp only[newExc,newTuple];refine zaa (zbR ?_<|by size_fits);refine zaa (m:=zdN _ _)<|wpAny_of_eq (a:=za8) (by first|rfl|(simp only[zdN];rfl)) ?_;refine zbR ?_ (by size_fits);simp only[raiseNew]
  refine zaa<|wpAny_handled ?_;first|rw[show A.in1.handled=bz from G]|rw[G]
  refine zaa<|zaf<|wpAny_throw ?_;exact W _ _ (((zcO ..).extBut.push _).push _) {_,zaC _ rfl,rfl}
structure ZA(z TI TO i1 i2 l1 l2:Addr):Prop where
 z1:TI≠z
 z2:TO≠z
 z3:i1≠z
 z4:i2≠z
 z5:TI≠TO
 z6:TI≠i1
 z7:TI≠i2
 z8:TO≠i1
 z9:TO≠i2
 za:i1≠i2
 zb:l1≠z/\l1≠TO/\l1≠i1/\l1≠i2
 zc:l2≠z/\l2≠TO/\l2≠i1/\l2≠i2
def NL{t1 t2:Bool}{z TI TO Y W l1 l2:Addr}{k1 k2:Nat}{xs ys:Array Value}{x y a b:Value}{Q:Option Value->zac->Prop}(D:ZA z TI TO Y W l1 l2)
  (hz:IsZip s.heap z TI TO .none) (az:za4 s.heap TI (.ref Y)<|.ref W) (a6:za4 s.heap TO a b) (h1:SIt t1 s.heap Y l1 k1) (h2:SIt t2 s.heap W l2 k2) (a5:SSq t1 s.heap l1 xs) (ax:SSq t2 s.heap l2 ys) (hx:xs[k1]?=bw x) (hy:ys[k2]?=bw y)
  (hQ:∀h',IsZip h' z TI TO (zbc s.heap.objs.size)->za4 h' TO x y->SIt t1 h' Y l1 (k1+1)->SIt t2 h' W l2 (k2+1)->za4 h' s.heap.objs.size x y->h'.objs.size=s.heap.objs.size+1->(∀c o,c≠z->c≠TO->c≠Y->c≠W->s.heap.get? c=bw o->h'.get? c=bw o)->Q (bw<|.ref s.heap.objs.size) {s with heap:=h'}) :
  wpAny (model prog w) A (zaW<|.ref z) Q E s:=by
 have hT:s.TypeIs (.ref z) "zip" := {_,hz,rfl};unfold zaW;refine zaa<|zcN<|zbQ (name:=za1 "__next__") hT zdP<|zbo zdP hT F.entry_zip_next ?_<|F.args_zip_next_1 _;show wpAny _ _ (field (.ref z) 2 >>= _) _ _ s;refine zaa<|zaT hz rfl (x:=.bool cf) rfl ?_;show wpAny _ _ (field (.ref z) 3 >>= _) _ _ s;refine zaa<|zaT hz rfl (x:=.ref TI) rfl<|zaa<|zbh az rfl ?_;show wpAny _ _ (zcP (.ref z) >>= _) _ _ s;refine zaa ?_;unfold zcP;refine zaa<|zaT hz rfl (x:=.none) rfl<|zaf ?_;simp only[if_true];refine zaa<|zbV<|zaa<|zaT hz rfl (x:=.ref TO) rfl<|zaa<|zbD hz (by simp) λha ab sa=>?_;replace ab:IsZip ha z TI TO .ellipsis:=ab;refine zaa ?_;simp only[List.zipIdx_cons,List.zipIdx_nil,zeu,List.forIn_nil];refine zaa<|zaa<|zdQ ?_;show wpAny _ _ (zci (.ref Y) >>= _) _ _ {s with heap:=ha};have ea:=sa.extBut;refine zaa<|next_item (t:=t1) (xs:=xs) (h1.to λo e=>ea _ _ D.z3 e) (a5.to λo e=>ea _ _ D.zb.1 e) hx λhb a4 sb=>zaf ?_;have eb:=sb.extBut;have aa:za4 hb TO a b:=eb _ _ D.z8<|ea _ _ D.z2 a6;refine zaa<|zbh aa rfl<|zaa<|zew aa λhc M sc=>?_;replace M:za4 hc TO x b:=M;have ec:=sc.extBut;refine zaa<|zcj<|zaf ?_;refine zaa<|zaa<|zdQ ?_;show wpAny _ _ (zci (.ref W) >>= _) _ _ {s with heap:=hc};refine zaa<|next_item (t:=t2) (xs:=ys) (h2.to λo e=>ec _ _ D.z9.symm<|eb _ _ D.za.symm<|ea _ _ D.z4 e) (ax.to λo e=>ec _ _ D.zc.2.1<|eb _ _ D.zc.2.2.1<|ea _ _ D.zc.1 e) hy λhd a8 sd=>zaf ?_;have ed:=sd.extBut;have U:za4 hd TO x b:=ed _ _ D.z9 M;refine zaa<|zbh U rfl<|zaa<|zew U λB G se=>?_;replace G:za4 B TO x y:=G;have ee:=se.extBut;refine zaa<|zcj<|zaf<|zaf ?_;refine zaa<|zbh G rfl<|zaa<|wpAny_newTuple ?_;have hsz:B.objs.size=s.heap.objs.size:=by rw[se.1,sd.1,sc.1,sb.1,sa.1]
 have ak:IsZip B z TI TO .ellipsis:=ee _ _ D.z2.symm<|ed _ _ D.z4.symm<|ec _ _ D.z2.symm<|eb _ _ D.z3.symm ab;have a1:∀c o,c≠z->c≠TO->c≠Y->c≠W->s.heap.get? c=bw o->B.get? c=bw o:=λc o c1 c2 c3 c4 e=>ee _ _ c2<|ed _ _ c4<|ec _ _ c2<|eb _ _ c3<|ea _ _ c1 e
 have aw:SIt t1 B Y l1<|k1+1:=a4.to λo e=>ee _ _ D.z8.symm<|ed _ _ D.za<|ec _ _ D.z8.symm e
 have a3:SIt t2 B W l2<|k2+1:=a8.to λo e=>ee _ _ D.z9.symm e
 have am:z<B.objs.size:=zao ak;show wpAny _ _ (zdR (.ref z) (.ref B.objs.size) >>= _) _ _ _;refine zaa ?_;unfold zdR;have a0:IsZip (B.push {cls:=.type "tuple",data:=.seq #[x,y]}) z TI TO .ellipsis:=zam _ ak;refine zaa<|zbD a0 (by simp) λhg ad sg=>?_;replace ad:IsZip hg z TI TO<|zbc B.objs.size:=ad;refine zbD ad (by simp) λhi N si=>?_;replace N:IsZip hi z TI TO<|zbc B.objs.size:=N
 have up:∀c o,c≠z->B.get? c=bw o->hi.get? c=bw o:=λc o c1 e=>si.extBut _ _ c1<|sg.extBut _ _ c1<|zam _ e
 have ao:za4 hi B.objs.size x y:=si.extBut _ _ (zbb am)<|sg.extBut _ _ (zbb am)<|zaC _ rfl;have ai:hi.objs.size=B.objs.size+1:=by rw[si.1,sg.1,zb2]
 rw[hsz]at N ao ai;refine zaf {_,rfl,zaf ?_};show Q (bw<|.ref B.objs.size) _;rw[hsz];exact hQ hi N (up _ _ D.z2 G) (aw.to λo e=>up _ o D.z3 e) (a3.to λo e=>up _ o D.z4 e) ao ai λc o c1 c2 c3 c4 e=>up c o c1<|a1 c o c1 c2 c3 c4 e
def NH{t1 t2:Bool}{z TI TO i1 Y l1 l2:Addr}{k1 k2:Nat}{xs ys:Array Value}{a b:Value}{Q:Option Value->zac->Prop}(hh:A.handled=bz)(D:ZA z TI TO i1 Y l1 l2)
  (hz:IsZip s.heap z TI TO .none) (ao:za4 s.heap TI (.ref i1)<|.ref Y) (au:za4 s.heap TO a b) (h1:SIt t1 s.heap i1 l1 k1) (h2:SIt t2 s.heap Y l2 k2) (ah:SSq t1 s.heap l1 xs) (am:SSq t2 s.heap l2 ys) (aj:xs[k1]?=bz\/ys[k2]?=bz)
  (hQ:∀h',(∀c o,c≠z->c≠TO->c≠i1->c≠Y->s.heap.get? c=bw o->h'.get? c=bw o)->Q bz {s with heap:=h'}):wpAny (model prog w) A (zaW<|.ref z) Q E s:=by
 have hT:s.TypeIs (.ref z) "zip" := {_,hz,rfl};have fin:∀(h':Heap) (e:Addr),(∀c o,c≠z->c≠TO->c≠i1->c≠Y->s.heap.get? c=bw o->h'.get? c=bw o)->(∃o,h'.get? e=bw o/\o.cls=.type "StopIteration")->wpAny (model prog w) A (do if <- isInstance (.ref e) (.type "StopIteration")then pure bz else throw<|.ref e) Q E {s with heap:=h'}:=λh' e hk he=>by
  obtain⟨o,ho,hc⟩:=he;refine zaa<|zcG (T := "StopIteration") (b:=ca) {o,ho,hc} isSubtype_stop ?_;exact zaf<|hQ _ hk
 unfold zaW;refine zaa<|zcN<|zbQ (name:=za1 "__next__") hT zdP<|zbo zdP hT F.entry_zip_next ?_<|F.args_zip_next_1 _;show wpAny _ _ (field (.ref z) 2 >>= _) _ _ s;refine zaa<|zaT hz rfl (x:=.bool cf) rfl ?_;show wpAny _ _ (field (.ref z) 3 >>= _) _ _ s;refine zaa<|zaT hz rfl (x:=.ref TI) rfl<|zaa<|zbh ao rfl ?_;show wpAny _ _ (zcP (.ref z) >>= _) _ _ s;refine zaa ?_;unfold zcP;refine zaa<|zaT hz rfl (x:=.none) rfl<|zaf ?_;simp only[if_true];refine zaa<|zbV<|zaa<|zaT hz rfl (x:=.ref TO) rfl<|zaa<|zbD hz (by simp) λha M sa=>?_;replace M:IsZip ha z TI TO .ellipsis:=M;refine zaa ?_;simp only[List.zipIdx_cons,List.zipIdx_nil,zeu,List.forIn_nil];refine zaa<|zaa<|zdQ ?_;show wpAny _ _ (zci (.ref i1) >>= _) _ _ {s with heap:=ha};have N:=sa.extBut;cases hx:xs[k1]? with
 |none=>
  refine zaa<|next_end (t:=t1) (xs:=xs) hh (h1.to λo e=>N _ _ D.z3 e) (ah.to λo e=>N _ _ D.zb.1 e) hx λhb e sb he=>?_;obtain⟨oe,B,G⟩:=he;have ae:IsZip hb z TI TO .ellipsis:=sb _ _ D.z3.symm M;have W:e≠z:=λq=>by subst q;rw[ae]at B;cases B;simp at G
  exact zbD ae (by simp) λhc _ sc=>fin hc e (λc o c1 _ c3 _ q=>sc.extBut _ _ c1<|sb _ _ c3<|N _ _ c1 q) {oe,sc.extBut _ _ W B,G}
 |some x=>
  have hy:ys[k2]?=bz:=by rcases aj with h|h;rw[hx]at h;cases h;exact h
  refine zaa<|next_item (t:=t1) (xs:=xs) (h1.to λo e=>N _ _ D.z3 e) (ah.to λo e=>N _ _ D.zb.1 e) hx λhb ba sb=>zaf ?_;have eb:=sb.extBut;have U:za4 hb TO a b:=eb _ _ D.z8<|N _ _ D.z2 au;refine zaa<|zbh U rfl<|zaa<|zew U λhc a0 sc=>?_;have ec:=sc.extBut;refine zaa<|zcj<|zaf ?_;refine zaa<|zaa<|zdQ ?_;show wpAny _ _ (zci (.ref Y) >>= _) _ _ {s with heap:=hc};refine zaa<|next_end (t:=t2) (xs:=ys) hh (h2.to λo e=>ec _ _ D.z9.symm<|eb _ _ D.za.symm<|N _ _ D.z4 e) (am.to λo e=>ec _ _ D.zc.2.1<|eb _ _ D.zc.2.2.1<|N _ _ D.zc.1 e) hy λhd e sd he=>?_;obtain⟨oe,B,G⟩:=he;have ai:IsZip hd z TI TO .ellipsis:=sd _ _ D.z4.symm<|ec _ _ D.z2.symm<|eb _ _ D.z3.symm M;have W:e≠z:=λq=>by subst q;rw[ai]at B;cases B;simp at G
  exact zbD ai (by simp) λhf _ sf=>fin hf e (λc o c1 c2 c3 c4 q=>sf.extBut _ _ c1<|sd _ _ c4<|ec _ _ c2<|eb _ _ c3<|N _ _ c1 q) {oe,sf.extBut _ _ W B,G}
abbrev IY(t:Bool)(l:Addr):Obj:={cls:=.type<|itN t,data:=.fields #[.ref l,.int 0 0]}
abbrev Z8(t1 t2:Bool)(h:Heap)(l1 l2:Addr):Heap:=(h.push<|IY t1 l1).push<|IY t2 l2
abbrev zh4(t1 t2:Bool)(h:Heap)(l1 l2:Addr):Heap:=((Z8 t1 t2 h l1 l2).push {cls:=.type "tuple",data:=.seq #[.ref h.objs.size,.ref (h.push<|IY t1 l1).objs.size]}).push {cls:=.type "tuple",data:=.seq #[.none,.none]}
abbrev qg(t1 t2:Bool)(h:Heap)(l1 l2:Addr):Heap:=(zh4 t1 t2 h l1 l2).push {cls:=.type "zip",data:=.fields #[.none,.bool cf,.bool cf,.ref (Z8 t1 t2 h l1 l2).objs.size,.ref ((Z8 t1 t2 h l1 l2).push {cls:=.type "tuple",data:=.seq #[.ref h.objs.size,.ref (h.push<|IY t1 l1).objs.size]}).objs.size]}
def SK(Y t2:Bool)(G U:Addr)(xs ys:Array Value):Meets (zb8.«zip.__new__» {[.type "zip",.ref G,.ref U],[]}) λ_ R s=>SSq Y s.heap G xs/\SSq t2 s.heap U ys/\R (.ok<|.ret<|.ref (zh4 Y t2 s.heap G U).objs.size) {s with heap:=qg Y t2 s.heap G U}:=
 .of_wp λprog w A R s h=>by
  obtain⟨N,g,d,tk,W⟩:=s;obtain⟨M,ab,h⟩:=h;have ac:=sub_zip;have F:SSq t2 (N.push<|IY Y G) U ys:=ab.to λo e=>zam _ e
  cases Y <;> cases t2
  .have z:zdS (zb6 {N,g,d,tk,W}) G xs:=M
   have B:zdS (zb6 {N.push {cls:=.type "list_iterator",data:=.fields #[.ref G,.int 0 0]},g,d,tk,W}) U ys:=F
   wp_walk using zbZ z,zbZ B
   exact{_,rfl,h}
  .have z:zdS (zb6 {N,g,d,tk,W}) G xs:=M
   have B:zdb (zb6 {N.push {cls:=.type "list_iterator",data:=.fields #[.ref G,.int 0 0]},g,d,tk,W}) U ys:=F
   wp_walk using zbZ z,zb0 B
   exact{_,rfl,h}
  .have z:zdb (zb6 {N,g,d,tk,W}) G xs:=M
   have B:zdS (zb6 {N.push {cls:=.type "tuple_iterator",data:=.fields #[.ref G,.int 0 0]},g,d,tk,W}) U ys:=F
   wp_walk using zb0 z,zbZ B
   exact{_,rfl,h}
  .have z:zdb (zb6 {N,g,d,tk,W}) G xs:=M
   have B:zdb (zb6 {N.push {cls:=.type "tuple_iterator",data:=.fields #[.ref G,.int 0 0]},g,d,tk,W}) U ys:=F
   wp_walk using zb0 z,zb0 B
   exact{_,rfl,h}
def NX(M:SSq t1 s.heap l1 xs)(B:SSq t2 s.heap l2 ys)
  (h:∀h', IsZip h' (s.heap.objs.size+4) (s.heap.objs.size+2) (s.heap.objs.size+3) .none -> za4 h' (s.heap.objs.size+2) (.ref s.heap.objs.size) (.ref<|s.heap.objs.size+1) -> za4 h' (s.heap.objs.size+3) .none .none ->
   SIt t1 h' s.heap.objs.size l1 0->SIt t2 h' (s.heap.objs.size+1) l2 0->(∀c o,s.heap.get? c=bw o->h'.get? c=bw o)->Q (.ref<|s.heap.objs.size+4) {s with heap:=h'}):wpAny (model prog w) A (call (.type "zip") [.ref l1,.ref l2]) Q E s:=by
 refine callType_new F.called_zip (by decide) (F.typeCall_zip_2 _ _) (F.newCall_zip_2 _ _) (λN=>F.args_object_init_3 N _ _) F.entry_zip_new (SK t1 t2 l1 l2 xs ys) {M,B,?_};have U:(s.heap.push<|IY t1 l1).objs.size=s.heap.objs.size+1:=zb2 ..;have G:(Z8 t1 t2 s.heap l1 l2).objs.size=s.heap.objs.size+2:=by rw[zb2,U]
 have z:((Z8 t1 t2 s.heap l1 l2).push {cls:=.type "tuple",data:=.seq #[.ref s.heap.objs.size,.ref (s.heap.push<|IY t1 l1).objs.size]}).objs.size=s.heap.objs.size+3:=by rw[zb2,G]
 have Y:(zh4 t1 t2 s.heap l1 l2).objs.size=s.heap.objs.size+4:=by rw[zb2,z]
 have W:(qg t1 t2 s.heap l1 l2).get? (zh4 t1 t2 s.heap l1 l2).objs.size=bw _:=zaC _ rfl;have g4:(qg t1 t2 s.heap l1 l2).get? ((Z8 t1 t2 s.heap l1 l2).push {cls:=.type "tuple",data:=.seq #[.ref s.heap.objs.size,.ref (s.heap.push<|IY t1 l1).objs.size]}).objs.size=bw _:=zam _<|zaC _ rfl;have g3:(qg t1 t2 s.heap l1 l2).get? (Z8 t1 t2 s.heap l1 l2).objs.size=bw _:=zam _<|zam _<|zaC _ rfl;have g2:(qg t1 t2 s.heap l1 l2).get? (s.heap.push<|IY t1 l1).objs.size=bw (IY t2 l2):=zam _<|zam _<|zam _<|zaC _ rfl;have g1:(qg t1 t2 s.heap l1 l2).get? s.heap.objs.size=bw (IY t1 l1):=zam _<|zam _<|zam _<|zam _<|zaC _ rfl;show _/\_;rw[G,z,Y]at W;rw[U,G]at g3;rw[z]at g4;rw[U]at g2;rw[Y];exact{{_,W,rfl},h _ W g3 g4 {_,g1,rfl,rfl} {_,g2,rfl,rfl} λc o x=>zam _<|zam _<|zam _<|zam _<|zam _ x}
end
def DK(K:zae)(t:Bool)(H:Hp)(a:Addr)(xs:List V):Prop:=if t=ca then SqT K H a xs else SqL K H a xs
def ItZ(K:zae)(z F:Bool)(G B:Addr):It:=
 ⟨λi H => ∃xs ys, DK K z H G xs /\ DK K F H B ys /\ i<xs.length /\ i<ys.length, λi H x H' => ∃p u v, x = .ref p /\ H p = bz /\ H' = upd H p (.tup [u, v]) /\ ∀xs ys, DK K z H G xs -> DK K F H B ys -> xs[i]? = bw u /\ ys[i]? = bw v,
  λi H=>∃xs ys,DK K z H G xs/\DK K F H B ys/\(xs.length<=i\/ys.length<=i)⟩
def jX(I:Inv X pins σ H s)(h:DK X.K t H a xs):∃z:List Value,Vals xs z/\SSq t s.heap a z.toArray:=by
 cases t with
 |true=>
  obtain⟨z,r,p,_⟩:=I.tuple<|show SqT X.K H a xs from h;exact⟨z,r,p⟩
 |false=>
  obtain⟨z,r,p,_⟩:=I.list<|show SqL X.K H a xs from h;exact{z,r,PlainL.isList p}
def zJ(I:Inv X pins σ H s)(h:DK X.K t H a xs)(h':DK X.K t H a ys):xs=ys:=by
 cases t with
 |true=>exact I.tuple_inj (show SqT X.K H a xs from h) h'
 |false=>exact I.list_inj (show SqL X.K H a xs from h) h'
def jR{pins:List (Addr×Obj)}{t':Nat}{fp:List Addr}(I:Inv X pins σ H s)(F:∀b∈fp,i9 X pins H b)(k:∀b o,b∉fp->s.heap.get? b=bw o->h'.get? b=bw o):Inv X pins σ H {s with heap:=h',toks:=t'}:=by
 have B:∀b u,H b=bw u->b∉fp:=λb u e z=>by rw[(F b z).1]at e;cases e
 refine I.call' (s':={s with heap:=h',toks:=t'}) (ch:=fp) rfl {λb o e _ _ hx=>k b o hx e,λb o e _ _ hx=>{o.slots,k b o hx e},λ_ _ _ n _=>n,λb o e hx=>⟨o,k b o hx e⟩,λ_ _ q=>q,λ_ _ _ q=>q,λb ps q=>{#[],by rw[q];simp}} (λb u e=>?_) I.bare λb W=>?_
 .refine(I.hok b u e).stay (λc v G q=>k c v ?_ q) (λ_ q=>q) (λ_ _ q=>q) λ_ _ _ q=>q
  rcases G with z|z
  .rw[z];exact B b u e
  .exact B c _ z
 .obtain⟨_,f1,_,U,M,N⟩:=F b W
  exact{U,f1,M,N}
def MN{P:zai}{w:World}{K:zae}{ah:List Expr}{x1}{tp:Pos}(t1 t2:Bool){z TI TO i1 Y l1 l2:Addr}(D:ZA z TI TO i1 Y l1 l2) :
  Turn P w K (.Tuple ah x1 tp) (ItZ K t1 t2 l1 l2) [z,TI,TO,i1,Y] z (λi h=>IsZip h z TI TO .none/\za4 h TI (.ref i1) (.ref Y)/\(∃a b,za4 h TO a b)/\SIt t1 h i1 l1 i/\SIt t2 h Y l2 i) where
 mem:=by simp
 obj:=by
  rintro i h ⟨U,G,⟨a,b,M⟩,⟨o1,e1,_,d1⟩,⟨o2,e2,_,d2⟩⟩ c B;simp only[zaX,zaZ,or_false]at B;rcases B with rfl|rfl|rfl|rfl|rfl
  .exact{_,U,λv q=>by cases q}
  .exact{_,G,λv q=>by cases q}
  .exact{_,M,λv q=>by cases q}
  .exact{o1,e1,λv q=>by rw[d1]at q;cases q}
  .exact{o2,e2,λv q=>by rw[d2]at q;cases q}
 keep:=λi h h' ⟨U,G,⟨a,b,M⟩,s1,s2⟩ k=>{k z (by simp) _ U,k TI (by simp) _ G,{a,b,k TO (by simp) _ M},s1.to λo e=>k i1 (by simp) o e,s2.to λo e=>k Y (by simp) o e}
 item:=by
  intro X hP hw hK B i pins s σ H E I hf st hg;subst hP hw hK;obtain⟨U,G,⟨a,b,M⟩,s1,s2⟩:=st;obtain⟨xs,ys,q1,q2,AL,ap⟩:=hg;obtain⟨ai,r1,p1⟩:=jX I q1;obtain⟨af,r2,p2⟩:=jX I q2;have e1:xs[i]?=bw xs[i]:=by simp[AL]
  have e2:ys[i]?=bw ys[i]:=by simp[ap]
  obtain⟨u,eu,ru⟩:=r1.get e1;obtain⟨v,ev,rv⟩:=r2.get e2;refine NL D U G M s1 s2 p1 p2 (x:=u) (y:=v) (by simpa using eu) (by simpa using ev) λh' a1 a2 a3 a4 a5 a6 W=>{_,rfl,?_}
  refine wpAny_letOwnedTupleGo_zip (s:={s with heap:=h'}) a1 λh2 ao sb=>?_
  have zz:∀c,c∈[z,TI,TO,i1,Y]->c<s.heap.objs.size:=λc B=>by
   simp only[zaX,zaZ,or_false]at B;rcases B with rfl|rfl|rfl|rfl|rfl
   .exact zao U
   .exact zao G
   .exact zao M
   .obtain⟨o,e,_⟩:=s1;exact zao e
   .obtain⟨o,e,_⟩:=s2;exact zao e
  have N:∀c o,c≠z->h'.get? c=bw o->h2.get? c=bw o:=λc o B e=>sb.extBut _ _ B e
  have I1:Inv X pins σ H {s with heap:=h2,toks:=s.toks}:=jR I hf λc o B e=>by
   simp only[zaX,zaZ,or_false,not_or]at B;exact N c o B.1<|W c o B.1 B.2.2.1 B.2.2.2.1 B.2.2.2.2 e
  have F:H s.heap.objs.size=bz:=I.fresh;have an:za4 h2 s.heap.objs.size u v:=N _ _ (zbb<|zz z<|by simp) a5;have I2:Inv X pins σ (upd H s.heap.objs.size<|.tup [xs[i],ys[i]]) {s with heap:=h2}:=by
   have aq:HOk X.prog X.w (upd H s.heap.objs.size<|.tup [xs[i],ys[i]]) h2:=λc ob e=>by
    by_cases B:c=s.heap.objs.size
    .subst B;rw[aJ]at e;cases e
     exact{by show 2<=zal;decide,[u,v],.cons ru<|.cons rv .nil,_,an,rfl,0,rfl,rfl}
    .rw[aG B]at e
     exact(I1.hok c ob e).stay (λ_ _ _ q=>q) (λd q=>by rw[aG<|aY q F];exact q) (λd ad q=>by rw[aG<|aY q F];exact q) λd _ _ q=>by rw[aG<|aY q F];exact q
   refine I.call' (s':={s with heap:=h2}) (ch:=[z,TI,TO,i1,Y]) rfl {λc o e _ _ hx=>?_,λc o e _ _ hx=>{o.slots,?_},λc o e n hx=>by rw[aG<|zaE<|zao e];exact n,λc o e hx=>{o,?_},λc ad q=>by rw[aG<|aY q F];exact q,λc o' u' q=>by rw[aG<|aY q F];exact q,λc ps q=>{#[],by rw[aG<|aY q F,q];simp}} aq I.bare λb hb=>?_
   .simp only[zaX,zaZ,or_false,not_or]at hx
    exact N c o hx.1<|W c o hx.1 hx.2.2.1 hx.2.2.2.1 hx.2.2.2.2 e
   .simp only[zaX,zaZ,or_false,not_or]at hx
    exact N c o hx.1<|W c o hx.1 hx.2.2.1 hx.2.2.2.1 hx.2.2.2.2 e
   .simp only[zaX,zaZ,or_false,not_or]at hx
    exact N c o hx.1<|W c o hx.1 hx.2.2.1 hx.2.2.2.1 hx.2.2.2.2 e
   .obtain⟨_,f1,_,f3,f4,f5⟩:=hf b hb
    exact{f3,f1,f4,f5}
  refine{.ref s.heap.objs.size,_,I2,rfl,{_,_,_,rfl,F,rfl,λbi ad g1 g2=>by rw[<- zJ I q1 g1,<- zJ I q2 g2];exact{e1,e2}},{ao,N _ _ D.z1<|W _ _ D.z1 D.z5 D.z6 D.z7 G,{_,_,N _ _ D.z2 a2},a3.to λo e=>N _ o D.z3 e,a4.to λo e=>N _ o D.z4 e},λc B=>?_};rw[aG<|zaE<|zz c B];exact(hf c B).1
 done:=by
  intro X hP hw hK B i pins s σ H E I hf st hg;subst hP hw hK;obtain⟨U,G,⟨a,b,M⟩,s1,s2⟩:=st;obtain⟨xs,ys,q1,q2,ae⟩:=hg;obtain⟨ai,r1,p1⟩:=jX I q1;obtain⟨af,r2,p2⟩:=jX I q2;have n1:=r1.length;have n2:=r2.length;refine NH (I.ok.hd B) D U G M s1 s2 p1 p2 (ae.imp (λh=>by simp;lia) λh=>by simp;lia) λh' W=>{rfl,jR (t':=s.toks) I hf λc o B e=>?_}
  simp only[zaX,zaZ,or_false,not_or]at B;exact W c o B.1 B.2.2.1 B.2.2.2.1 B.2.2.2.2 e
 self:=λ_ _ _ _ _ st h=>wpAny_pyIter_zip st.1 h
def qaD(n B z:Nat)(h1:B<n)(h2:z<n):ZA (n+4) (n+2) (n+3) n (n+1) B z:={(show(n+2:Nat)≠n+4 by lia),(show(n+3:Nat)≠n+4 by lia),(show(n:Nat)≠n+4 by lia),(show(n+1:Nat)≠n+4 by lia),(show(n+2:Nat)≠n+3 by lia),(show(n+2:Nat)≠n by lia),(show(n+2:Nat)≠n+1 by lia),(show(n+3:Nat)≠n by lia),(show(n+3:Nat)≠n+1 by lia),(show(n:Nat)≠n+1 by lia),{(show(B:Nat)≠n+4 by lia),(show(B:Nat)≠n+3 by lia),(show(B:Nat)≠n by lia),(show(B:Nat)≠n+1 by lia)},{(show(z:Nat)≠n+4 by lia),(show(z:Nat)≠n+3 by lia),(show(z:Nat)≠n by lia),(show(z:Nat)≠n+1 by lia)}}
def qcf(K:zae)(ta:TA):TI:=λσ H R=>ta σ H λvs H1=>∃F G B z xs ys,vs=[.ref B,.ref z]/\DK K F H1 B xs/\DK K G H1 z ys/\R (ItZ K F G B z) H1
def YG{G:List Expr}{x1}(hg:Gl X "zip")(hm:X.mg "zip" = bz)(ha:PA X [a,b] ta)(hs:zag [a,b] X.env=[(cf,eval a X.env),(cf,eval b X.env)]:=by rfl)(F:zag [b] X.env=[(cf,eval b X.env)]:=by rfl) :
  PI X (.Tuple G x1 tp) (.Call (.Name "zip" p) [a,b] [] pos) (qcf X.K ta):=by
 intro pins s σ H R I h;refine Call_ (l7 I hg hm My.boot_zip<|zc4 (c8 (ha pos pins s σ H _ I h) λus z ⟨vs,H1,B,r1,U⟩=>?_) (by rw[hs,F])<|by rw[F];rfl);obtain⟨t1,t2,l1,l2,xs,ys,rfl,U,q2,q⟩:=U;obtain⟨u,v,rfl,ru,rv⟩:=vals2 r1;cases ru;cases rv;obtain⟨af,_,p1⟩:=jX B U;obtain⟨ab,_,p2⟩:=jX B q2;have b1:l1<z.heap.objs.size:=by obtain⟨o,e,_⟩:=p1;exact zao e
 have b2:l2<z.heap.objs.size:=by obtain⟨o,e,_⟩:=p2;exact zao e
 refine NX p1 p2 λh' hz N Y W aa k=>?_
 refine wpAny_pyIter_zip hz ?_;have D:ZA (z.heap.objs.size+4) (z.heap.objs.size+2) (z.heap.objs.size+3) z.heap.objs.size (z.heap.objs.size+1) l1 l2:=qaD _ _ _ b1 b2;refine{_,[_,_,_,_,_],_,_,H1,rfl,B.kept (t':=z.toks) k,MN t1 t2 D,{hz,N,{_,_,Y},W,aa},λc M=>B.fpOk ?_<|B.hok.fresh ?_,q}
 .simp only[zaX,zaZ,or_false]at M
  rcases M with rfl|rfl|rfl|rfl|rfl <;> lia
 .simp only[zaX,zaZ,or_false]at M
  rcases M with rfl|rfl|rfl|rfl|rfl <;> lia
end My
namespace P
inductive D where
 | non|bl (b:Bool)|int (i:Int)|str (x:Str)|tup (l:List D)|lst (l:List D)
 | dK (l:List<|Key×D)|dT (l:List<|List Key×D)
 | ob (C:Addr) (fs:List<|Str×D)|mem (dom:List<|Key×List Key) (f:Key×List Key->Option (Int×Int))
abbrev Av:=Addr->Prop
section
variable (A:Av)(H:Hp)
mutual
/-- a heap bears a value that stays (the things that may still be written are in A) -/
inductive Rep:D->V->Prop where
 | non:Rep .non .non
 | bl (b:Bool):Rep (.bl b)<|.bl b
 | int (i:Int):Rep (.int i)<|.int i
 | str (x:Str):Rep (.str x)<|.str x
 | tup {l:List D} {a:Addr} {xs:List V} (h:H a=bw (.tup xs)) (r:RepL l xs):Rep (.tup l)<|.ref a
 | lst {l:List D} {a:Addr} {xs:List V} (n:¬ A a) (h:Rd H a<|.lst xs) (r:RepL l xs):Rep (.lst l)<|.ref a
 | dK {l:List (Key×D)} {a:Addr} {xs:List (Key×V)} (n:¬ A a) (h:Rd H a<|.dK xs) (e:xs.map (·.1)=l.map (·.1)) (r:RepL (l.map (·.2))<|xs.map (·.2)):Rep (.dK l)<|.ref a
 | dT {l:List (List Key×D)} {a:Addr} {xs:List (List Key×V)} (n:¬ A a) (h:Rd H a<|.dT xs) (e:xs.map (·.1)=l.map (·.1)) (r:RepL (l.map (·.2))<|xs.map (·.2)):Rep (.dT l)<|.ref a
 | ob {C a dx:Addr} {fs:List (Str×D)} {vs:List (Str×V)} (n:¬ A a) (h:H a=bw (.ins C dx vs)) (e:vs.map (·.1)=fs.map (·.1)) (r:RepL (fs.map (·.2))<|vs.map (·.2)):Rep (.ob C fs)<|.ref a
 | mem {dom:List (Key×List Key)} {f:Key×List Key->Option (Int×Int)} {a:Addr} (h:H a=bw (.memo dom f bz)):Rep (.mem dom f)<|.ref a
inductive RepL:List D->List V->Prop where
 | nil:RepL [] []
 | cons {d:D} {v:V} {ds:List D} {vs:List V} (h:Rep d v) (t:RepL ds vs):RepL (d::ds)<|v::vs
end
inductive RepB:D->V->Prop where
 | of {d:D} {v:V} (h:Rep A H d v):RepB d v
 | lst {l:List D} {a:Addr} {xs:List V} (h:Rd H a<|.lst xs) (r:RepL A H l xs):RepB (.lst l)<|.ref a
 | dK {l:List (Key×D)} {a:Addr} {xs:List (Key×V)} (h:Rd H a<|.dK xs) (e:xs.map (·.1)=l.map (·.1)) (r:RepL A H (l.map (·.2))<|xs.map (·.2)):RepB (.dK l)<|.ref a
 | dT {l:List (List Key×D)} {a:Addr} {xs:List (List Key×V)} (h:Rd H a<|.dT xs) (e:xs.map (·.1)=l.map (·.1)) (r:RepL A H (l.map (·.2))<|xs.map (·.2)):RepB (.dT l)<|.ref a
inductive Own:D->Addr->Prop where
 | lst {l:List D} {a:Addr} {xs:List V} (h:H a=bw (.lst xs)) (r:RepL A H l xs):Own (.lst l) a
 | dK {l:List (Key×D)} {a:Addr} {xs:List (Key×V)} (h:H a=bw (.dK xs)) (e:xs.map (·.1)=l.map (·.1)) (r:RepL A H (l.map (·.2))<|xs.map (·.2)):Own (.dK l) a
 | dT {l:List (List Key×D)} {a:Addr} {xs:List (List Key×V)} (h:H a=bw (.dT xs)) (e:xs.map (·.1)=l.map (·.1)) (r:RepL A H (l.map (·.2))<|xs.map (·.2)):Own (.dT l) a
end
def Kp:HO->Prop
 |.tup _=>True | .lst _=>True | .ins _ _ _=>True | .memo _ _ _=>True|_=>False
structure Ext(A:Av)(H H':Hp):Prop where
 rd:∀b u,Rd H b u->Rd H' b u
 kp:∀b u,Kp u->H b=bw u->H' b=bw u
 ow:∀b u,A b->H b=bw u->H' b=bw u
 fz:∀b o u,H b=bw (.frz o u)->H' b=bw (.frz o u)
def Ext.refl(A:Av)(H:Hp):Ext A H H:={λ_ _ h=>h,λ_ _ _ h=>h,λ_ _ _ h=>h,λ_ _ _ h=>h}
def Ext.trans(a:Ext A H H1)(b:Ext A H1 H2):Ext A H H2:=
 {λc u h=>b.rd c u<|a.rd c u h,λc u k h=>b.kp c u k<|a.kp c u k h,λc u n h=>b.ow c u n<|a.ow c u n h,λc o u h=>b.fz c o u<|a.fz c o u h}
def Ext.mono(h:Ext A H H')(s:∀a,A' a->A a):Ext A' H H':={h.rd,h.kp,λb u n e=>h.ow b u (s b n) e,h.fz}
def Ext.same(h:Same H H'):Ext A H H':=
 {λb u r=>by rcases r with r|⟨o,r⟩;exact .inl<|h _ _ r;exact .inr {o,h _ _ r},λb u _ r=>h _ _ r,λb u _ r=>h _ _ r,λb o u r=>h _ _ r}
def Ext.tp(x:Ext A H H')(b:Addr)(xs:List V)(h:H b=bw (.tup xs)):H' b=bw (.tup xs):=x.kp b _ trivial h
def Ext.new(h:H p=bz):Ext A H<|upd H p o:=Ext.same<|My.LZ h
mutual
theorem Rep.ext(x:Ext A H H'):Rep A H d v->Rep A H' d v
 |.non=>.non
 |.bl b=>.bl b
 |.int i=>.int i
 |.str s=>.str s
 |.tup h r=>.tup (x.tp _ _ h)<|RepL.ext x r
 |.lst n h r=>.lst n (x.rd _ _ h)<|RepL.ext x r
 |.dK n h e r=>.dK n (x.rd _ _ h) e<|RepL.ext x r
 |.dT n h e r=>.dT n (x.rd _ _ h) e<|RepL.ext x r
 |.ob n h e r=>.ob n (x.kp _ _ trivial h) e<|RepL.ext x r
 |.mem h=>.mem<|x.kp _ _ trivial h
theorem RepL.ext(x:Ext A H H'):RepL A H ds vs->RepL A H' ds vs
 |.nil=>.nil
 |.cons h t=>.cons (Rep.ext x h)<|RepL.ext x t
end
theorem RepB.ext(x:Ext A H H'):RepB A H d v->RepB A H' d v
 |.of h=>.of<|h.ext x
 |.lst h r=>.lst (x.rd _ _ h)<|r.ext x
 |.dK h e r=>.dK (x.rd _ _ h) e<|r.ext x
 |.dT h e r=>.dT (x.rd _ _ h) e<|r.ext x
theorem Own.ext(x:Ext A H H')(z:A a):Own A H d a->Own A H' d a
 |.lst h r=>.lst (x.ow _ _ z h)<|r.ext x
 |.dK h e r=>.dK (x.ow _ _ z h) e<|r.ext x
 |.dT h e r=>.dT (x.ow _ _ z h) e<|r.ext x
def Own.b:Own A H d a->RepB A H d (.ref a)
 |.lst h r=>.lst (.inl h) r
 |.dK h e r=>.dK (.inl h) e r
 |.dT h e r=>.dT (.inl h) e r
mutual
/-- avoid other things: those that were not there, or fewer -/
theorem Rep.av(x:∀a,A' a->A a\/H a=bz):Rep A H d v->Rep A' H d v
 |.non=>.non
 |.bl b=>.bl b
 |.int i=>.int i
 |.str s=>.str s
 |.tup h r=>.tup h<|RepL.av x r
 |.lst n h r=>.lst (λz=>(x _ z).elim n λz=>by rcases h with h|⟨o,h⟩ <;> (rw[z]at h;cases h)) h<|RepL.av x r
 |.dK n h e r=>.dK (λz=>(x _ z).elim n λz=>by rcases h with h|⟨o,h⟩ <;> (rw[z]at h;cases h)) h e<|RepL.av x r
 |.dT n h e r=>.dT (λz=>(x _ z).elim n λz=>by rcases h with h|⟨o,h⟩ <;> (rw[z]at h;cases h)) h e<|RepL.av x r
 |.ob n h e r=>.ob (λz=>(x _ z).elim n λz=>by rw[z]at h;cases h) h e<|RepL.av x r
 |.mem h=>.mem h
theorem RepL.av(x:∀a,A' a->A a\/H a=bz):RepL A H ds vs->RepL A' H ds vs
 |.nil=>.nil
 |.cons h t=>.cons (Rep.av x h)<|RepL.av x t
end
def qe:HO->Prop
 |.lst _=>True | .dK _=>True | .dT _=>True|_=>False
def iN(n:b≠a)(h:Rd H b u):Rd (upd H a o) b u:=by
 rcases h with h|⟨x,h⟩
 .exact .inl<|by rw[aG n];exact h
 .exact .inr {x,by rw[aG n];exact h}
mutual
theorem Rep.put(G:A a)(B:H a=bw u)(F:qe u):Rep A H d v->Rep A (upd H a o) d v
 |.non=>.non
 |.bl b=>.bl b
 |.int i=>.int i
 |.str s=>.str s
 |.tup (a:=b) h r=>.tup (by rw[aG λz=>by subst z;rw[B]at h;cases h;exact F];exact h)<|RepL.put G B F r
 |.lst (a:=b) n h r=>.lst n (iN (λz=>n<|by rw[z];exact G) h)<|RepL.put G B F r
 |.dK (a:=b) n h e r=>.dK n (iN (λz=>n<|by rw[z];exact G) h) e<|RepL.put G B F r
 |.dT (a:=b) n h e r=>.dT n (iN (λz=>n<|by rw[z];exact G) h) e<|RepL.put G B F r
 |.ob (a:=b) n h e r=>.ob n (by rw[aG λz=>by subst z;rw[B]at h;cases h;exact F];exact h) e<|RepL.put G B F r
 |.mem (a:=b) h=>.mem<|by rw[aG λz=>by subst z;rw[B]at h;cases h;exact F];exact h
theorem RepL.put(F:A a)(z:H a=bw u)(B:qe u):RepL A H ds vs->RepL A (upd H a o) ds vs
 |.nil=>.nil
 |.cons h t=>.cons (Rep.put F z B h)<|RepL.put F z B t
end
theorem Own.put{A:Av}{H:Hp}{a b:Addr}{o u:HO}(B:A a)(z:H a=bw u)(F:qe u)(G:b≠a){d:D}:Own A H d b->Own A (upd H a o) d b
 |.lst h r=>.lst (by rw[aG G];exact h)<|r.put B z F
 |.dK h e r=>.dK (by rw[aG G];exact h) e<|r.put B z F
 |.dT h e r=>.dT (by rw[aG G];exact h) e<|r.put B z F
theorem Own.av(x:∀a,A' a->A a\/H a=bz):Own A H d a->Own A' H d a
 |.lst h r=>.lst h<|r.av x
 |.dK h e r=>.dK h e<|r.av x
 |.dT h e r=>.dT h e<|r.av x
def Own.rep(n:¬ A a):Own A H d a->Rep A H d (.ref a)
 |.lst h r=>.lst n (.inl h) r
 |.dK h e r=>.dK n (.inl h) e r
 |.dT h e r=>.dT n (.inl h) e r
section
variable {A:Av}{H:Hp}
theorem RepL.length:∀ {ds:List D} {vs:List V},RepL A H ds vs->vs.length=ds.length
 |_,_,.nil=>rfl
 |_,_,.cons _ t=>by rw[zaB,zaB,RepL.length t]
theorem RepL.get:∀ {ds:List D} {vs:List V} {i:Nat} {v:V},RepL A H ds vs->vs[i]?=bw v->∃d,ds[i]?=bw d/\Rep A H d v
 |_,_,i,v,.nil,e=>by simp at e
 |_,_,0,v,.cons h t,e=>by simp at e;subst e;exact{_,rfl,h}
 |_,_,i+1,v,.cons h t,e=>RepL.get (i:=i) t<|by simpa using e
theorem RepL.get':∀ {ds:List D} {vs:List V} {i:Nat} {d:D},RepL A H ds vs->ds[i]?=bw d->∃v,vs[i]?=bw v/\Rep A H d v
 |_,_,i,v,.nil,e=>by simp at e
 |_,_,0,v,.cons h t,e=>by simp at e;subst e;exact{_,rfl,h}
 |_,_,i+1,v,.cons h t,e=>RepL.get' (i:=i) t<|by simpa using e
theorem RepL.append:∀ {ds es:List D} {vs us:List V},RepL A H ds vs->RepL A H es us->RepL A H (ds++es) (vs++us)
 |_,_,_,_,.nil,s=>s
 |_,_,_,_,.cons h t,s=>.cons h<|RepL.append t s
theorem RepL.take:∀ {ds:List D} {vs:List V} (n:Nat),RepL A H ds vs->RepL A H (ds.take n) (vs.take n)
 |_,_,0,_=>by simp;exact .nil
 |_,_,n+1,.nil=>.nil
 |_,_,n+1,.cons h t=>.cons h<|RepL.take n t
theorem RepL.drop:∀ {ds:List D} {vs:List V} (n:Nat),RepL A H ds vs->RepL A H (ds.drop n) (vs.drop n)
 |_,_,0,r=>r
 |_,_,n+1,.nil=>.nil
 |_,_,n+1,.cons h t=>RepL.drop n t
theorem RepL.set:∀ {ds:List D} {vs:List V} {d:D} {v:V} (n:Nat),Rep A H d v->RepL A H ds vs->RepL A H (ds.set n d) (vs.set n v)
 |_,_,_,_,_,_,.nil=>.nil
 |_,_,_,_,0,r,.cons h t=>.cons r t
 |_,_,_,_,n+1,r,.cons h t=>.cons h<|RepL.set n r t
def RepB.int_inv(h:RepB A H (.int i) v):v=.int i:=by cases h with|of h=>cases h;rfl
def RepB.bl_inv(h:RepB A H (.bl i) v):v=.bl i:=by cases h with|of h=>cases h;rfl
def RepB.str_inv(h:RepB A H (.str i) v):v=.str i:=by cases h with|of h=>cases h;rfl
def RepB.non_inv(h:RepB A H .non v):v=.non:=by cases h with|of h=>cases h;rfl
def RepB.tup_inv(h:RepB A H (.tup l) v):∃a xs,v=.ref a/\H a=bw (.tup xs)/\RepL A H l xs:=by
 cases h with|of h=>cases h with|tup h r=>exact{_,_,rfl,h,r}
def RepB.ob_inv{C:Addr}{fs:List (Str×D)}{v:V}(h:RepB A H (.ob C fs) v):∃a dx vs,v=.ref a/\H a=bw (.ins C dx vs)/\vs.map (·.1)=fs.map (·.1)/\RepL A H (fs.map (·.2)) (vs.map (·.2)):=by
 cases h with
 |of h=>cases h with
  |ob n h e r=>exact{_,_,_,rfl,h,e,r}
def RepB.mem_inv{dom:List (Key×List Key)}{f:Key×List Key->Option (Int×Int)}{v:V}(h:RepB A H (.mem dom f) v):∃a,v=.ref a/\H a=bw (.memo dom f bz):=by
 cases h with
 |of h=>cases h with
  |mem h=>exact{_,rfl,h}
def RepB.lst_inv(h:RepB A H (.lst l) v):∃a xs,v=.ref a/\Rd H a (.lst xs)/\RepL A H l xs:=by
 cases h with
 |of h=>cases h with|lst n h r=>exact{_,_,rfl,h,r}
 |lst h r=>exact{_,_,rfl,h,r}
def RepB.dK_inv(h:RepB A H (.dK l) v):∃a xs,v=.ref a/\Rd H a (.dK xs)/\xs.map (·.1)=l.map (·.1)/\RepL A H (l.map (·.2)) (xs.map (·.2)):=by
 cases h with
 |of h=>cases h with|dK n h e r=>exact{_,_,rfl,h,e,r}
 |dK h e r=>exact{_,_,rfl,h,e,r}
def RepB.dT_inv(h:RepB A H (.dT l) v):∃a xs,v=.ref a/\Rd H a (.dT xs)/\xs.map (·.1)=l.map (·.1)/\RepL A H (l.map (·.2)) (xs.map (·.2)):=by
 cases h with
 |of h=>cases h with|dT n h e r=>exact{_,_,rfl,h,e,r}
 |dT h e r=>exact{_,_,rfl,h,e,r}
end
abbrev dH:=List<|Option D
inductive Fact where
 | rep (d:D) (v:V)|fz (a:Addr) (o:Obj) (u:HO)
def Fact.Holds(A:Av)(H:Hp):Fact->Prop
 |.rep d v=>Rep A H d v
 |.fz a o u=>H a=bw (.frz o u)
theorem Fact.ext(x:Ext A H H'):∀ {p:Fact},p.Holds A H->p.Holds A H'
 |.rep _ _,h=>Rep.ext x h
 |.fz _ _ _,h=>x.fz _ _ _ h
theorem Fact.av(x:∀a,A' a->A a\/H a=bz):∀ {p:Fact},p.Holds A H->p.Holds A' H
 |.rep _ _,h=>Rep.av x h
 |.fz _ _ _,h=>h
theorem Fact.put(G:A a)(B:H a=bw u)(F:qe u):∀ {p:Fact},p.Holds A H->p.Holds A (upd H a o)
 |.rep _ _,h=>Rep.put G B F h
 |.fz b q w,h=>by
  have h:H b=bw (.frz q w):=h;show upd H a o b=bw (.frz q w);rw[aG λz=>by subst z;rw[B]at h;cases h;exact F];exact h
structure ST(H0:Hp)(A0 A:Av)(E:List Fact)(O:List Nat)(σ:L2.St)(H:Hp)(ρ:dH):Prop where
 ex:Ext A0 H0 H
 sub:∀a,A0 a->A a
 l0:∀a,A0 a->H0 a≠bz
 live:∀a,A a->H a≠bz
 len:σ.length=ρ.length
 val:∀i d,ρ[i]?=bw (bw d)->i∉O->∃v,σ[i]?=bw (bw v)/\Rep A H d v
 own:∀i d,ρ[i]?=bw (bw d)->i∈O->∃a,σ[i]?=bw (bw<|.ref a)/\A a/\H0 a=bz/\Own A H d a
 inj:∀i j d d' a,i∈O->j∈O->ρ[i]?=bw (bw d)->ρ[j]?=bw (bw d')->σ[i]?=bw (bw<|.ref a)->σ[j]?=bw (bw<|.ref a)->i=j
 ext:∀p∈E,p.Holds A H
section
variable {H0:Hp}{A0 A:Av}{E:List Fact}{O:List Nat}{σ:L2.St}{H H':Hp}{ρ:dH}
theorem ST.mono(s:ST H0 A0 A E O σ H ρ)(x:Ext A H H'):ST H0 A0 A E O σ H' ρ where
 ex:=s.ex.trans<|x.mono s.sub
 sub:=s.sub
 l0:=s.l0
 live:=λa B=>by
  have:=s.live a B;cases e:H a with
  |none=>exact absurd e this
  |some u=>rw[x.ow a u B e];exact λz=>nomatch z
 len:=s.len
 val:=λi d h n=>by obtain⟨v,h1,h2⟩:=s.val i d h n;exact{v,h1,h2.ext x}
 own:=λi d h n=>by obtain⟨a,h1,h2,M,F⟩:=s.own i d h n;exact{a,h1,h2,M,F.ext x h2}
 inj:=s.inj
 ext:=λp G=>Fact.ext x (s.ext p G)
def ST.more(s:ST H0 A0 A E O σ H ρ)(h:Rep A H d v):ST H0 A0 A (.rep d v::E) O σ H ρ:=
 {s with ext:=λp z=>by rcases List.mem_cons.mp z with e|e;rw[e];exact h;exact s.ext p e}
def ST.less(s:ST H0 A0 A E O σ H ρ)(h:∀p∈E',p∈E):ST H0 A0 A E' O σ H ρ:=
 {s with ext:=λp z=>s.ext p (h p z)}
def fE(h:(ρ.set i o)[j]?=bw (bw d)):(j=i/\o=bw d/\i<ρ.length)\/(j≠i/\ρ[j]?=bw (bw d)):=by
 rw[List.getElem?_set]at h;by_cases e:i=j
 .rw[ci e]at h
  by_cases l:i<ρ.length
  .rw[ci l]at h
   exact .inl {e.symm,zaz h,l}
  .rw[cj l]at h;cases h
 .rw[cj e]at h
  exact .inr {λz=>e z.symm,h}
def sig_set(h:i<σ.length):(σ.set i<|bw v)[i]?=bw (bw v):=by simp[h]
def nK(h:j≠i):(σ.set i<|bw v)[j]?=σ[j]?:=by rw[zbI<|zaV h]
def ST.put(s:ST H0 A0 A E O σ H ρ)(h:Rep A H d v)(n:i∉O):ST H0 A0 A E O (σ.set i<|bw v) H (ρ.set i<|bw d) where
 ex:=s.ex
 sub:=s.sub
 l0:=s.l0
 live:=s.live
 len:=by simp[s.len]
 val:=λj d' h' F=>by
  rcases fE h' with⟨e,B,l⟩|⟨e,B⟩
  .subst e;cases B;exact{v,sig_set (by rw[s.len];exact l),h}
  .obtain⟨w,h1,h2⟩:=s.val j d' B F;exact{w,by rw[nK e];exact h1,h2}
 own:=λj d' h' F=>by
  rcases fE h' with⟨e,B,l⟩|⟨e,B⟩
  .subst e;exact absurd F n
  .obtain⟨w,h1,h2⟩:=s.own j d' B F;exact{w,by rw[nK e];exact h1,h2}
 inj:=λj k d1 d2 a W M h1 h2 G N=>by
  have Y:j≠i:=λz=>n<|z ▸ W
  have U:k≠i:=λz=>n<|z ▸ M
  rcases fE h1 with⟨e,_⟩|⟨_,h1⟩
  .exact absurd e Y
  rcases fE h2 with⟨e,_⟩|⟨_,h2⟩
  .exact absurd e U
  exact s.inj j k d1 d2 a W M h1 h2 (by rw[nK Y]at G;exact G)<|by rw[nK U]at N;exact N
 ext:=s.ext
def ST.shut(s:ST H0 A0 A E O σ H ρ)(h:∀i,i∈O'->i∈O):∃A',ST H0 A0 A' E O' σ H ρ:=by
 let F:Av:=λa=>∃i d,i∈O/\i∉O'/\ρ[i]?=bw (bw d)/\σ[i]?=bw (bw<|.ref a)
 have cut:∀a,(A a/\¬ F a)->A a\/H a=bz:=λa z=>.inl z.1
 refine{λa=>A a/\¬ F a,s.ex,λa M=>{s.sub a M,?_},s.l0,λa M=>s.live a M.1,s.len,λi d hi n=>?_,λi d hi n=>?_,λi j d d' a hi hj=>s.inj i j d d' a (h i hi)<|h j hj,λp hp=>Fact.av cut<|s.ext p hp}
 .rintro⟨i,d,h1,h2,Y,h4⟩
  obtain⟨b,B,G,U,N⟩:=s.own i d Y h1;rw[h4]at B;cases B;exact s.l0 a M U
 .by_cases W:i∈O
  .obtain⟨a,B,G,U,N⟩:=s.own i d hi W
   exact{.ref a,B,(N.av cut).rep λz=>z.2 {i,d,W,n,hi,B}}
  .obtain⟨v,B,G⟩:=s.val i d hi W
   exact{v,B,G.av cut}
 .obtain⟨a,B,G,U,N⟩:=s.own i d hi (h i n)
  refine{a,B,{G,?_},U,N.av cut};rintro⟨j,d',h1,h2,Y,h4⟩;have:=s.inj i j d d' a (h i n) h1 hi Y B h4;subst this;exact h2 n
end
abbrev Ev:=dH->Option D
abbrev Bv:=dH->Option Bool
abbrev Lv:=dH->Option (List D)
abbrev RR:=Av->Hp->D->V->Prop
inductive tD(R:RR)(O:List Nat)(f:Ev)(σ:L2.St)(H:Hp)(Q:VK):Prop
 | mk (H0:Hp) (A0 A:Av) (E:List Fact) (ρ:dH) (d:D) (st:ST H0 A0 A E O σ H ρ) (e:f ρ=bw d) (q:∀v H',Ext A H H'->R A H' d v->Q v H'):tD R O f σ H Q
inductive tDT(O:List Nat)(g:Bv)(σ:L2.St)(H:Hp)(Q:Bool->Hp->Prop):Prop
 | mk (H0:Hp) (A0 A:Av) (E:List Fact) (ρ:dH) (b:Bool) (st:ST H0 A0 A E O σ H ρ) (e:g ρ=bw b) (q:∀H',Ext A H H'->Q b H'):tDT O g σ H Q
def PD(X:Cx)(O:List Nat)(e:Expr)(f:Ev):Prop:=PE X e<|tD Rep O f
def PB(X:Cx)(O:List Nat)(e:Expr)(f:Ev):Prop:=PE X e<|tD RepB O f
def wX(X:Cx)(O:List Nat)(e:Expr)(g:Bv):Prop:=PT X e<|tDT O g
def PDW(X:Cx)(O:List Nat)(e:Expr)(g:Bv):Prop:=PW X e<|tDT O g
theorem PDW.pt(h:PDW X O e g):wX X O e g:=PW.pt h
inductive RL(R:RR)(A:Av)(H:Hp):List D->List V->Prop where
 | nil:RL R A H [] []
 | cons {d v ds vs} (h:R A H d v) (t:RL R A H ds vs):RL R A H (d::ds)<|v::vs
inductive tDA(R:RR)(O:List Nat)(f:Lv)(σ:L2.St)(H:Hp)(Q:List V->Hp->Prop):Prop
 | mk (H0:Hp) (A0 A:Av) (E:List Fact) (ρ:dH) (ds:List D) (st:ST H0 A0 A E O σ H ρ) (e:f ρ=bw ds) (q:∀vs H',Ext A H H'->RL R A H' ds vs->Q vs H'):tDA R O f σ H Q
def DJ(X:Cx)(O:List Nat)(es:List Expr)(f:Lv):Prop:=PA X es<|tDA Rep O f
def yM(X:Cx)(O:List Nat)(es:List Expr)(f:Lv):Prop:=PA X es<|tDA RepB O f
section
variable {X:Cx}{O:List Nat}
def PE.mono(h:PE X e t)(x:∀σ H Q,t' σ H Q->t σ H Q):PE X e t':=λpins s σ H Q I w=>h pins s σ H Q I<|x σ H Q w
def PT.mono(h:PT X e t)(x:∀σ H Q,t' σ H Q->t σ H Q):PT X e t':=λpins s σ H Q I w=>h pins s σ H Q I<|x σ H Q w
def PW.mono(h:PW X e t)(x:∀σ H Q,t' σ H Q->t σ H Q):PW X e t':=λz pins s σ H Q I w=>h z pins s σ H Q I<|x σ H Q w
def PA.mono(h:PA X es t)(x:∀σ H Q,t' σ H Q->t σ H Q):PA X es t':=λpos pins s σ H Q I w=>h pos pins s σ H Q I<|x σ H Q w
def PD.b{e:Expr}{f:Ev}(h:PD X O e f):PB X O e f:=PE.mono h λσ H Q ⟨H0,A0,A,E,ρ,d,st,e,q⟩=>{H0,A0,A,E,ρ,d,st,e,λv H' x r=>q v H' x<|.of r}
theorem RL.toL:∀ {ds:List D} {vs:List V},RL Rep A H ds vs->RepL A H ds vs
 |_,_,.nil=>.nil
 |_,_,.cons h t=>.cons h<|RL.toL t
noncomputable def aD(i:Nat):Ev:=λρ=>(ρ[i]?).join
noncomputable def eC(d:D):Ev:=λ_=>bw d
def bZ{ρ:dH}{i:Nat}{d:D}(h:(ρ[i]?).join=bw d):ρ[i]?=bw (bw d):=by
 cases e:ρ[i]? with
 |none=>rw[e]at h;cases h
 |some o=>rw[e]at h;cases o with
  |none=>cases h
  |some x=>cases h;rfl
def vV{e:Expr}(i:Nat)(h:PE X e<|dI i)(n:i∉O):PD X O e<|aD i:=PE.mono h <| by
 rintro σ H Q ⟨H0,A0,A,E,ρ,d,st,e,q⟩;obtain⟨v,z,r⟩:=st.val i d (bZ e) n;exact{v,z,q v H (Ext.refl _ _) r}
def YC{e:Expr}(i:Nat)(h:PE X e<|dI i):PB X O e<|aD i:=PE.mono h <| by
 rintro σ H Q ⟨H0,A0,A,E,ρ,d,st,e,q⟩;by_cases n:i∈O
 .obtain⟨a,z,_,_,r⟩:=st.own i d (bZ e) n
  exact{_,z,q _ H (Ext.refl _ _) r.b}
 .obtain⟨v,z,r⟩:=st.val i d (bZ e) n
  exact{v,z,q v H (Ext.refl _ _)<|.of r}
def ZE{i j pos}:PD X O (.Constant (.int i) j pos)<|eC<|.int i:=PE.mono ZD λσ H Q ⟨H0,A0,A,E,ρ,d,st,e,q⟩=>by cases e;exact q _ H (Ext.refl _ _)<|.int _
def qan{i j pos}:PD X O (.Constant (.bool i) j pos)<|eC<|.bl i:=PE.mono qq λσ H Q ⟨H0,A0,A,E,ρ,d,st,e,q⟩=>by cases e;exact q _ H (Ext.refl _ _)<|.bl _
def W9{i j pos}:PD X O (.Constant (.str i) j pos)<|eC<|.str i:=PE.mono X3 λσ H Q ⟨H0,A0,A,E,ρ,d,st,e,q⟩=>by cases e;exact q _ H (Ext.refl _ _)<|.str _
def YK{j pos}:PD X O (.Constant .none j pos)<|eC .non:=PE.mono W2 λσ H Q ⟨H0,A0,A,E,ρ,d,st,e,q⟩=>by cases e;exact q _ H (Ext.refl _ _) .non
def Live(A:Av)(H:Hp):Prop:=∀a,A a->H a≠bz
inductive rD(g:D->D->Option D)(x y:V)(H:Hp)(Q:VK):Prop
 | mk (A:Av) (dx dy d:D) (lv:Live A H) (rx:RepB A H dx x) (ry:RepB A H dy y) (e:g dx dy=bw d) (q:∀v H',Ext A H H'->Rep A H' d v->Q v H'):rD g x y H Q
def mT(X:Cx)(f:Value->Value->Sem Value)(g:D->D->Option D):Prop:=OpR X f<|rD g
def OpR.mono(h:OpR X f r)(x:∀a b H Q,r' a b H Q->r a b H Q):OpR X f r':=λpins s σ H a b v u Q I B z w=>h pins s σ H a b v u Q I B z<|x a b H Q w
noncomputable def bF(g:D->D->Option D)(z fb:Ev):Ev:=λρ=>(z ρ).bind λx=>(fb ρ).bind λy=>g x y
def bind_some{z β:Type}{o:Option z}{f:z->Option β}{b:β}(h:o.bind f=bw b):∃a,o=bw a/\f a=bw b:=by
 cases o with
 |none=>cases h
 |some a=>exact{a,rfl,h}
def zZ{g:D->D->Option D}{G fb:Ev}{σ:L2.St}{H:Hp}{Q:VK}(h:tD Rep O (bF g G fb) σ H Q):tOp (rD g) (tD RepB O G) (tD RepB O fb) σ H Q:=by
 obtain⟨H0,A0,A,E,ρ,d,st,e,q⟩:=h;obtain⟨x,ex,e⟩:=bind_some e;obtain⟨y,U,e⟩:=bind_some e;exact{H0,A0,A,E,ρ,x,st,ex,λv H1 F r1=>{H0,A0,A,E,ρ,y,st.mono F,U,λw H2 B r2=>{A,x,y,d,(st.mono<|F.trans B).live,r1.ext B,r2,e,λz M N r3=>q z M ((F.trans B).trans N) r3}}}
def bN(z:mT X (zaP op) g)(B:PB X O a fa)(F:PB X O b fb):PD X O (.BinOp a op b pos)<|bF g fa fb:=
 PE.mono (qaT z B F) λσ H Q h=>zZ h
def Y8(B:mT X (zaA op) g)(z:PB X O a fa)(G:PB X O b fb)(F:zbX op b=cf):PD X O (.Compare a [op] [b] pos)<|bF g fa fb:=
 PE.mono (SF B z G F) λσ H Q h=>zZ h
noncomputable def VM:D->Option Bool
 |.bl b=>bw b
 |_=>bz
def vL(h:VM d=bw b):d=.bl b:=by
 cases d <;> cases h;rfl
def sA(f:Ev):Bv:=λρ=>(f ρ).bind VM
def CG{f:Ev}{σ:L2.St}{H:Hp}{Q:Bool->Hp->Prop}(h:tDT O (sA f) σ H Q):tD Rep O f σ H λx H'=>∃k,x=.bl k/\Q k H':=by
 obtain⟨H0,A0,A,E,ρ,b,st,e,q⟩:=h;obtain⟨x,ex,e⟩:=bind_some e;rw[vL e]at ex;exact{H0,A0,A,E,ρ,_,st,ex,λv H1 z r1=>{b,RepB.bl_inv<|.of r1,q H1 z}}
def GN(B:mT X (zaA op) g)(z:PB X O a fa)(G:PB X O b fb)(F:zbX op b=cf):wX X O (.Compare a [op] [b] pos)<|sA<|bF g fa fb:=
 PT.mono (Q6 B z G F) λσ H Q h=>zZ<|CG h
def RW(h:PD X O e f)(B:∀z,isTrue e X.env z=(do let v <- z;standAt e.pos;zbJ [v]<|truthy v):=by intro _;rfl):wX X O e<|sA f:=
 PT.mono (YD h B) λσ H Q h=>CG h
noncomputable def QV(g:Bv):Bv:=λρ=>(g ρ).map (!·)
noncomputable def LG(g h:Bv):Bv:=λρ=>(g ρ).bind λb=>if b=ca then h ρ else bw cf
noncomputable def WE(g h:Bv):Bv:=λρ=>(g ρ).bind λb=>if b=ca then bw ca else h ρ
def UP(h:wX X O a g):wX X O (.UnaryOp .Not a pos)<|QV g:=PT.mono (YS h) <| by
 rintro σ H Q ⟨H0,A0,A,E,ρ,b,st,e,q⟩;unfold QV at e;cases z:g ρ with
 |none=>rw[z]at e;cases e
 |some c=>rw[z]at e;cases e;exact⟨H0,A0,A,E,ρ,c,st,z,q⟩
def L8(h:wX X O a g):PDW X O (.BoolOp .And [a] pos) g:=T2 h
def RO(h:wX X O a g):PDW X O (.BoolOp .Or [a] pos) g:=XH h
def R6{a b:Expr}{rest:List Expr}{pos:Pos}{g k:Bv}(F:wX X O a g)(G:PDW X O (.BoolOp .And (b::rest) pos) k):PDW X O (.BoolOp .And (a::b::rest) pos)<|LG g k:=
 PW.mono (WL F G) <| by
  rintro σ H Q ⟨H0,A0,A,E,ρ,b,st,e,q⟩;obtain⟨x,ex,e⟩:=bind_some e;refine{H0,A0,A,E,ρ,x,st,ex,λH1 z=>?_};cases x with
  |false=>rw[cj zaD]at e ⊢;cases e;exact q H1 z
  |true=>rw[ci rfl]at e ⊢;exact{H0,A0,A,E,ρ,b,st.mono z,e,λH2 B=>q H2<|z.trans B}
def W3{a b:Expr}{rest:List Expr}{pos:Pos}{g k:Bv}(F:wX X O a g)(G:PDW X O (.BoolOp .Or (b::rest) pos) k):PDW X O (.BoolOp .Or (a::b::rest) pos)<|WE g k:=
 PW.mono (qaI F G) <| by
  rintro σ H Q ⟨H0,A0,A,E,ρ,b,st,e,q⟩;obtain⟨x,ex,e⟩:=bind_some e;refine{H0,A0,A,E,ρ,x,st,ex,λH1 z=>?_};cases x with
  |true=>rw[ci rfl]at e ⊢;cases e;exact q H1 z
  |false=>rw[cj zaD]at e ⊢;exact{H0,A0,A,E,ρ,b,st.mono z,e,λH2 B=>q H2<|z.trans B}
def QU(f g:Ev):Ev:=λρ=>(f ρ).bind λx=>(VM x).bind λb=>if b=ca then g ρ else bw<|.bl cf
def qa2(f:Ev):Ev:=λρ=>(f ρ).bind λx=>(VM x).map λb=>.bl<|!b
noncomputable def eIf(c:Bv)(f g:Ev):Ev:=λρ=>(c ρ).bind λb=>if b=ca then f ρ else g ρ
def X1{op}(h:PD X O a f):PD X O (.BoolOp op [a] pos) f:=ZH h
def XE{a b:Expr}{rest:List Expr}{pos:Pos}{f g:Ev}(B:PD X O a f)(M:PD X O (.BoolOp .And (b::rest) pos) g):PD X O (.BoolOp .And (a::b::rest) pos)<|QU f g:=
 PE.mono (X4 B M) <| by
  rintro σ H Q ⟨H0,A0,A,E,ρ,d,st,e,q⟩;obtain⟨x,ex,e⟩:=bind_some e;obtain⟨b,F,e⟩:=bind_some e;rw[vL F]at ex;refine{H0,A0,A,E,ρ,_,st,ex,λv H1 z r1=>{b,RepB.bl_inv<|.of r1,?_}};cases b with
  |false=>rw[cj zaD]at e ⊢;cases e;exact q _ H1 z<|.bl _
  |true=>rw[ci rfl]at e ⊢;exact{H0,A0,A,E,ρ,d,st.mono z,e,λw H2 G=>q w H2<|z.trans G}
def X8{a:Expr}{pos:Pos}{f:Ev}(F:PD X O a f):PD X O (.UnaryOp .Not a pos)<|qa2 f:=
 PE.mono (WV F) <| by
  rintro σ H Q ⟨H0,A0,A,E,ρ,d,st,e,q⟩;obtain⟨x,ex,e⟩:=bind_some e;cases z:VM x with
  |none=>rw[z]at e;cases e
  |some b=>
   rw[z]at e;cases e;rw[vL z]at ex;exact{H0,A0,A,E,ρ,_,st,ex,λv H1 B r1=>{b,RepB.bl_inv<|.of r1,q _ H1 B<|.bl _}}
def VX{c a b:Expr}{pos:Pos}{g:Bv}{f k:Ev}(F:wX X O c g)(G:PD X O a f)(N:PD X O b k):PD X O (.IfExp c a b pos)<|eIf g f k:=
 PE.mono (NA F G N) <| by
  rintro σ H Q ⟨H0,A0,A,E,ρ,d,st,e,q⟩;obtain⟨b,M,e⟩:=bind_some e;refine{H0,A0,A,E,ρ,b,st,M,λH1 z=>?_};cases b with
  |true=>rw[ci rfl]at e ⊢;exact{H0,A0,A,E,ρ,d,st.mono z,e,λw H2 B=>q w H2<|z.trans B}
  |false=>rw[cj zaD]at e ⊢;exact{H0,A0,A,E,ρ,d,st.mono z,e,λw H2 B=>q w H2<|z.trans B}
end
section
variable {X:Cx}{O:List Nat}
noncomputable def aX:Lv:=λ_=>bw []
noncomputable def aC(f:Ev)(g:Lv):Lv:=λρ=>(f ρ).bind λx=>(g ρ).bind λxs=>bw<|x::xs
def T5:DJ X O [] aX:=PA.mono fK λσ H Q ⟨H0,A0,A,E,ρ,d,st,e,q⟩=>by cases e;exact q [] H (Ext.refl _ _) .nil
def GU:yM X O [] aX:=PA.mono fK λσ H Q ⟨H0,A0,A,E,ρ,d,st,e,q⟩=>by cases e;exact q [] H (Ext.refl _ _) .nil
def CP(G:∀A H H' d v,Ext A H H'->R A H d v->R A H' d v)(h:tDA R O (aC f g) σ H Q):yE (tD R O f) (tDA R O g) σ H Q:=by
 obtain⟨H0,A0,A,E,ρ,d,st,e,q⟩:=h;obtain⟨x,ex,e⟩:=bind_some e;obtain⟨xs,z,e⟩:=bind_some e;cases e;exact{H0,A0,A,E,ρ,x,st,ex,λv H1 F r1=>{H0,A0,A,E,ρ,xs,st.mono F,z,λvs H2 B r2=>q (v::vs) H2 (F.trans B)<|.cons (G _ _ _ _ _ B r1) r2}}
def M1(B:PD X O e f)(z:DJ X O es g)(hs:zag (e::es) X.env=(cf,eval e X.env)::zag es X.env:=by rfl):DJ X O (e::es)<|aC f g:=
 PA.mono (cR B z hs) λσ H Q h=>CP (λ_ _ _ _ _ x r=>r.ext x) h
def BO(B:PB X O e f)(z:yM X O es g)(hs:zag (e::es) X.env=(cf,eval e X.env)::zag es X.env:=by rfl):yM X O (e::es)<|aC f g:=
 PA.mono (cR B z hs) λσ H Q h=>CP (λ_ _ _ _ _ x r=>r.ext x) h
inductive tF(O:List Nat)(f:Ev)(σ:L2.St)(H:Hp)(Q:VK):Prop
 | mk (H0:Hp) (A0 A:Av) (E:List Fact) (ρ:dH) (d:D) (st:ST H0 A0 A E O σ H ρ) (e:f ρ=bw d) (q:∀a H',Ext A H H'->H a=bz->¬ A a->Own (λb=>A b\/b=a) H' d a->Q (.ref a) H'):tF O f σ H Q
def PF(X:Cx)(O:List Nat)(e:Expr)(f:Ev):Prop:=PE X e<|tF O f
def PF.d(h:PF X O e f):PD X O e f:=PE.mono h λσ H Q ⟨H0,A0,A,E,ρ,d,st,e,q⟩=>
 {H0,A0,A,E,ρ,d,st,e,λa H' x n z o=>q _ H' x<|(o.av (A':=A) λb B=>.inl<|.inl B).rep z}
def RepL.fresh(n:H p=bz)(r:RepL A H ds vs):RepL (λb=>A b\/b=p) (upd H p o) ds vs:=by
 have r1:RepL (λb=>A b\/b=p) H ds vs:=r.av λb z=>by
  rcases z with z|z
  .exact .inl z
  .exact .inr<|z ▸ n
 exact r1.ext<|Ext.new n
def Ext.free(x:Ext A H H')(n:H' p=bz):H p=bz:=by
 cases e:H p with
 |none=>rfl
 |some u=>rcases x.rd p u (.inl e)with h|⟨o,h⟩ <;> (rw[n]at h;cases h)
noncomputable def fQ(g:Lv):Ev:=λρ=>(g ρ).map .tup
noncomputable def QM(g:Lv):Ev:=λρ=>(g ρ).map .lst
theorem RL.length:∀ {ds:List D} {vs:List V},RL R A H ds vs->vs.length=ds.length
 |_,_,.nil=>rfl
 |_,_,.cons _ t=>by rw[zaB,zaB,RL.length t]
noncomputable def a9(n:Nat):Bool:=decide (n<=1000000)
def iG(h:a9 n=ca):n<=zal:=zaL (of_decide_eq_true h)<|by decide
def jV(h:a9 n=ca):n<zal:=zdH (of_decide_eq_true h)<|by decide
def map_some{z β:Type}{o:Option z}{f:z->β}{b:β}(h:o.map f=bw b):∃a,o=bw a/\f a=b:=by
 cases o with
 |none=>cases h
 |some a=>exact{a,rfl,zaz h}
def Len(g:Lv)(n:Nat):Prop:=∀ρ ds,g ρ=bw ds->ds.length=n
def R8:Len aX 0:=λρ ds h=>by cases h;rfl
def LP(h:Len g n):Len (aC f g)<|n+1:=λρ ds e=>by
 obtain⟨x,ex,e⟩:=bind_some e;obtain⟨xs,z,e⟩:=bind_some e;cases e;rw[zaB,h ρ xs z]
def qE{es:List Expr}{z}{pos:Pos}{g:Lv}(h:DJ X O es g)(G:∀ρ ds,g ρ=bw ds->ds.length<=100):PD X O (.Tuple es z pos)<|fQ g:=PE.mono (YW h) <| by
 rintro σ H Q ⟨H0,A0,A,E,ρ,d,st,e,q⟩;obtain⟨ds,B,rfl⟩:=map_some e;refine{H0,A0,A,E,ρ,ds,st,B,λvs H1 z r1=>{by rw[r1.length];exact zaL (G ρ ds B)<|by decide,λp F=>?_}};exact q _ _ (z.trans<|Ext.new F)<|.tup aJ<|r1.toL.ext<|Ext.new F
def QA{es:List Expr}{pos:Pos}{g:Lv}(h:DJ X O es g)(M:∀ρ ds,g ρ=bw ds->ds.length<=100):PF X O (.List es pos)<|QM g:=PE.mono (W8 h) <| by
 rintro σ H Q ⟨H0,A0,A,E,ρ,d,st,e,q⟩;obtain⟨ds,G,rfl⟩:=map_some e;refine{H0,A0,A,E,ρ,ds,st,G,λvs H1 F r1=>{by rw[r1.length];exact zaL (M ρ ds G)<|by decide,λp B=>?_}};exact q p _ (F.trans<|Ext.new B) (F.free B) (λz=>(st.mono F).live p z B)<|.lst aJ<|r1.toL.fresh B
inductive rC(g:List D->Option D)(xs:List V)(H:Hp)(Q:VK):Prop
 | mk (A:Av) (ds:List D) (d:D) (lv:Live A H) (r:RL RepB A H ds xs) (e:g ds=bw d) (q:∀v H',Ext A H H'->Rep A H' d v->Q v H'):rC g xs H Q
inductive rCF(g:List D->Option D)(xs:List V)(H:Hp)(Q:VK):Prop
 | mk (A:Av) (ds:List D) (d:D) (lv:Live A H) (r:RL RepB A H ds xs) (e:g ds=bw d) (q:∀a H',Ext A H H'->H a=bz->¬ A a->Own (λb=>A b\/b=a) H' d a->Q (.ref a) H'):rCF g xs H Q
def l9(X:Cx)(f:Value)(g:List D->Option D):Prop:=CallR X f<|rC g
def ID(X:Cx)(f:Value)(g:List D->Option D):Prop:=CallR X f<|rCF g
def CallR.mono(h:CallR X f r)(x:∀a H Q,r' a H Q->r a H Q):CallR X f r':=λpins s σ H a v Q I z w=>h pins s σ H a v Q I z<|x a H Q w
noncomputable def aR(g:List D->Option D)(f:Lv):Ev:=λρ=>(f ρ).bind g
def xC(h:tD Rep O (aR g f) σ H Q):tCB (rC g) (tDA RepB O f) σ H Q:=by
 obtain⟨H0,A0,A,E,ρ,d,st,e,q⟩:=h;obtain⟨ds,F,e⟩:=bind_some e;exact{H0,A0,A,E,ρ,ds,st,F,λvs H1 z r1=>{A,ds,d,(st.mono z).live,r1,e,λv H2 B r2=>q v H2 (z.trans B) r2}}
def KD(h:tF O (aR g f) σ H Q):tCB (rCF g) (tDA RepB O f) σ H Q:=by
 obtain⟨H0,A0,A,E,ρ,d,st,e,q⟩:=h;obtain⟨ds,F,e⟩:=bind_some e;exact{H0,A0,A,E,ρ,ds,st,F,λvs H1 z r1=>{A,ds,d,(st.mono z).live,r1,e,λa H2 B n G o=>q a H2 (z.trans B) (z.free n) G o}}
section
variable {x:Str}{id T:String}{g:List D->Option D}{e:Expr}{es:List Expr}{f:Lv}{p pos:Pos}
def LV(G:l9 X (.builtin id) g)(U:Gl X x)(Y:X.mg x=bz)(N:zaI x=bw (.builtin id))(M:yM X O (e::es) f)(F:x ≠ "__name__" := by decide)(z:(x == ("__debug__" : Str))=cf:=by decide)
  (W:zag (e::es) X.env=(cf,eval e X.env)::zag es X.env:=by rfl) (B:(zaJ pos<|zag es X.env).any (·.1)=cf:=by rfl) :
  PD X O (.Call (.Name x p) (e::es) [] pos) (aR g f):=PE.mono (BQ G U Y N M F z W B) λσ H Q h=>xC h
def JV(G:l9 X (.type T) g)(U:Gl X x)(Y:X.mg x=bz)(N:zaI x=bw (.type T))(M:yM X O (e::es) f)(F:x ≠ "__name__" := by decide)(z:(x == ("__debug__" : Str))=cf:=by decide)
  (W:zag (e::es) X.env=(cf,eval e X.env)::zag es X.env:=by rfl) (B:(zaJ pos<|zag es X.env).any (·.1)=cf:=by rfl) :
  PD X O (.Call (.Name x p) (e::es) [] pos) (aR g f):=PE.mono (mH G U Y N M F z W B) λσ H Q h=>xC h
def KF(G:ID X (.type T) g)(U:Gl X x)(Y:X.mg x=bz)(N:zaI x=bw (.type T))(M:yM X O (e::es) f)(F:x ≠ "__name__" := by decide)(z:(x == ("__debug__" : Str))=cf:=by decide)
  (W:zag (e::es) X.env=(cf,eval e X.env)::zag es X.env:=by rfl) (B:(zaJ pos<|zag es X.env).any (·.1)=cf:=by rfl) :
  PF X O (.Call (.Name x p) (e::es) [] pos) (aR g f):=PE.mono (mH G U Y N M F z W B) λσ H Q h=>KD h
end
def spD(n:Nat)(F:List D->Option D):Sp:=λvs H Q _=>∃A ds d,Live A H/\RepL A H ds vs/\vs.length=n/\F ds=bw d/\∀v H',Ext A H H'->Rep A H' d v->Q v H'
def Fn(P:zai)(w:World)(K:zae)(mg:Str->Option Value)(base:Heap)(x:Str)(k:Nat)(ps:List Str)(F:List D->Option D):Prop:=My.Ok P w K mg base x k ps<|spD ps.length F
def R7(O':Fn X.prog X.w X.K X.mg X.base x k ps F)(hr:Room k X.A)(Y:Gl X x)(U:DJ X O (e::es) f)(N:∀ρ ds,f ρ=bw ds->ds.length=ps.length)(z:(x == ("__debug__" : Str))=cf:=by decide)
  (he:zag (e::es) X.env=(cf,eval e X.env)::zag es X.env:=by rfl) (B:(zaJ pos<|zag es X.env).any (·.1)=cf:=by rfl) :
  PD X O (.Call (.Name x p) (e::es) [] pos) (aR F f):=PE.mono (My.M7 O' hr Y U z he B) λσ H Q ⟨H0,A0,A,E,ρ,d,st,e,q⟩=>by
 obtain⟨ds,G,e⟩:=bind_some e;exact{H0,A0,A,E,ρ,ds,st,G,λvs H1 M r1=>{A,ds,d,(st.mono M).live,r1.toL,by rw[r1.length];exact N ρ ds G,e,λv H2 W r2=>q v H2 (M.trans W) r2}}
def IxR.mono(h:IxR X r)(x:∀a b H Q,r' a b H Q->r a b H Q):IxR X r':=λF B pins s σ H a b v u Q I G z w=>h F B pins s σ H a b v u Q I G z<|x a b H Q w
def dIx:D->D->Option D
 |.lst l,.int i=>hW l i
 |.tup l,.int i=>hW l i
 |.str z,.int i=>if a9 z.length then(hW z.cps.toList i).map λc=>.str {#[c]}else bz
 |_,_=>bz
def RepL.at(r:RepL A H ds vs)(h:hW ds i=bw d):∃v,hW vs i=bw v/\Rep A H d v:=by
 obtain⟨j,G,B⟩:=bind_some h;obtain⟨v,F,z⟩:=r.get' B;refine{v,?_,z};unfold hW;rw[r.length,G];exact F
def nn{z:Type}{a:z}{P:Prop}(h:(bz:Option z)=bw a):P:=nomatch h
def ff{P:Prop}(h:cf=ca):P:=nomatch h
def qb4:IxR X<|rD dIx:=IxR.mono W4 <| by
 rintro x y H Q ⟨A,dx,G,d,W,U,M,e,q⟩;cases dx with
 |lst l=>
  cases G with
  |int i=>
   have:=M.int_inv;subst this;obtain⟨a,xs,rfl,h,r⟩:=U.lst_inv;obtain⟨v,B,N⟩:=r.at e;exact .inl {a,xs,i,v,rfl,rfl,.inl h,B,q v H (Ext.refl _ _) N}
  |_=>exact nn e
 |tup l=>
  cases G with
  |int i=>
   have:=M.int_inv;subst this;obtain⟨a,xs,rfl,h,r⟩:=U.tup_inv;obtain⟨v,B,N⟩:=r.at e;exact .inr<|.inl {a,xs,i,v,rfl,rfl,.inl<|.inl h,B,q v H (Ext.refl _ _) N}
  |_=>exact nn e
 |str z=>
  cases G with
  |int i=>
   have:=M.int_inv;subst this;have:=U.str_inv;subst this;simp only[dIx]at e;by_cases F:a9 z.length=ca
   .rw[ci F]at e
    obtain⟨c,B,rfl⟩:=map_some e;exact .inr<|.inr {z,i,c,rfl,rfl,iG F,B,q _ H (Ext.refl _ _)<|.str _}
   .rw[cj F]at e;exact nn e
  |_=>exact nn e
 |_=>exact nn e
abbrev Ov:=dH->Option (Option Int)
inductive tDO(O:List Nat)(g:Ov)(σ:L2.St)(H:Hp)(Q:Option Int->Hp->Prop):Prop
 | mk (H0:Hp) (A0 A:Av) (E:List Fact) (ρ:dH) (o:Option Int) (st:ST H0 A0 A E O σ H ρ) (e:g ρ=bw o) (q:∀H',Ext A H H'->Q o H'):tDO O g σ H Q
def WH(X:Cx)(O:List Nat)(e:Option Expr)(g:Ov):Prop:=PO X e<|tDO O g
def PO.mono(h:PO X e t)(x:∀σ H Q,t' σ H Q->t σ H Q):PO X e t':=λpins s σ H Q I w=>h pins s σ H Q I<|x σ H Q w
noncomputable def IQ:Ov:=λ_=>bw bz
noncomputable def Z6:D->Option Int
 |.int i=>bw i
 |_=>bz
def CB(h:Z6 d=bw i):d=.int i:=by cases d <;> cases h;rfl
def yB(f:Ev):Ov:=λρ=>(f ρ).bind λd=>(Z6 d).map bw
def MI:WH X O bz IQ:=PO.mono T1 λσ H Q ⟨H0,A0,A,E,ρ,d,st,e,q⟩=>by cases e;exact q H<|Ext.refl _ _
def M9{e:Expr}{f:Ev}(h:PD X O e f):WH X O (bw e)<|yB f:=PO.mono (T3 h) <| by
 rintro σ H Q ⟨H0,A0,A,E,ρ,d,st,e,q⟩;obtain⟨x,ex,e⟩:=bind_some e;obtain⟨i,z,rfl⟩:=map_some e;rw[CB z]at ex;exact{H0,A0,A,E,ρ,_,st,ex,λv H1 B r1=>{i,RepB.int_inv<|.of r1,q H1 B}}
def cutD(xs:List D)(lo hi:Option Int):List D:=(xs.drop<|HT.sIx xs.length 0 lo).take<|HT.sIx xs.length xs.length hi-HT.sIx xs.length 0 lo
def RepL.cut{ds:List D}{vs:List V}{lo hi:Option Int}(r:RepL A H ds vs):RepL A H (cutD ds lo hi)<|wV vs lo hi:=by
 unfold cutD wV;rw[r.length];exact(r.drop _).take _
noncomputable def Z9(g:D->Option Int->Option Int->Option D)(f:Ev)(a b:Ov):Ev:=λρ=>(f ρ).bind λx=>(a ρ).bind λlo=>(b ρ).bind λhi=>g x lo hi
inductive rS(g:D->Option Int->Option Int->Option D)(x:V)(lo hi:Option Int)(H:Hp)(Q:VK):Prop
 | mk (A:Av) (dx d:D) (lv:Live A H) (r:RepB A H dx x) (e:g dx lo hi=bw d) (q:∀v H',Ext A H H'->Rep A H' d v->Q v H'):rS g x lo hi H Q
inductive rSF(g:D->Option Int->Option Int->Option D)(x:V)(lo hi:Option Int)(H:Hp)(Q:VK):Prop
 | mk (A:Av) (dx d:D) (lv:Live A H) (r:RepB A H dx x) (e:g dx lo hi=bw d) (q:∀a H',Ext A H H'->H a=bz->¬ A a->Own (λb=>A b\/b=a) H' d a->Q (.ref a) H'):rSF g x lo hi H Q
def SlR.mono(h:SlR X r)(x:∀a b c H Q,r' a b c H Q->r a b c H Q):SlR X r':=λpins s σ H a v G M lo hi F Q I N hs B z w=>h pins s σ H a v G M lo hi F Q I N hs B z<|x a lo hi H Q w
def qcs:D->Option Int->Option Int->Option D
 |.tup l,lo,hi=>bw<|.tup<|cutD l lo hi
 |_,_,_=>bz
def qa5:D->Option Int->Option Int->Option D
 |.lst l,lo,hi=>bw<|.lst<|cutD l lo hi
 |_,_,_=>bz
def OE{lo hi:Option Expr}{g:D->Option Int->Option Int->Option D}{a b:Ov}(hr:SlR X<|rS g)(he:PB X O e f)(M:WH X O lo a)(U:WH X O hi b):PD X O (.Subscript e (.Slice lo hi bz p2) pos)<|Z9 g f a b:=
 PE.mono (NJ hr he M U) <| by
  rintro σ H Q ⟨H0,A0,A,E,ρ,d,st,e,q⟩;obtain⟨x,ex,e⟩:=bind_some e;obtain⟨l,N,e⟩:=bind_some e;obtain⟨h,G,e⟩:=bind_some e;exact{H0,A0,A,E,ρ,x,st,ex,λv H1 B r1=>{H0,A0,A,E,ρ,l,st.mono B,N,λH2 z=>{H0,A0,A,E,ρ,h,st.mono<|B.trans z,G,λH3 F=>{A,x,d,(st.mono<|(B.trans z).trans F).live,r1.ext<|z.trans F,e,λv W Y r4=>q v W (((B.trans z).trans F).trans Y) r4}}}}
def qca:SlR X<|rS qcs:=SlR.mono My.RP <| by
 rintro x lo hi H Q ⟨A,dx,d,G,F,e,q⟩;cases dx with
 |tup l=>
  obtain⟨a,xs,rfl,h,r⟩:=F.tup_inv;cases e;by_cases w:HT.sIx xs.length 0 lo=0/\HT.sIx xs.length xs.length hi=xs.length
  .refine .inr {a,xs,rfl,.inl<|.inl h,w,q _ H (Ext.refl _ _)<|.tup h ?_}
   have B:wV xs lo hi=xs:=by unfold wV;rw[w.1,w.2];simp
   rw[<- B];exact r.cut
  .exact .inl {a,xs,rfl,.inl<|.inl h,w,λp z=>q _ _ (Ext.new z)<|.tup aJ<|r.cut.ext<|Ext.new z}
 |_=>exact nn e
def qbT:SlR X<|rSF qa5:=SlR.mono UK <| by
 rintro x lo hi H Q ⟨A,dx,d,G,F,e,q⟩;cases dx with
 |lst l=>
  obtain⟨a,xs,rfl,h,r⟩:=F.lst_inv;cases e;exact{a,xs,rfl,.inl h,λp B=>q p _ (Ext.new B) B (λz=>G p z B)<|.lst aJ<|r.cut.fresh B}
 |_=>exact nn e
end
inductive Out where
 | nx (ρ:dH)|rt (d:D)|bk (ρ:dH)|ct (ρ:dH)
abbrev Sv:=dH->Option Out
structure Lp where
 ob:List Nat
 oc:List Nat
def qco(L:Lp)(H0:Hp)(A0:Av)(E:List Fact)(O':List Nat)(T:Ends):Out->Prop
 |.nx ρ=>∀A σ H,ST H0 A0 A E O' σ H ρ->T.nx σ H
 |.rt d=>∀v H,Ext A0 H0 H->Rep A0 H d v->T.rt v H
 |.bk ρ=>∀A σ H,ST H0 A0 A E L.ob σ H ρ->T.bk σ H
 |.ct ρ=>∀A σ H,ST H0 A0 A E L.oc σ H ρ->T.ct σ H
inductive tS(L:Lp)(O:List Nat)(f:Sv)(O':List Nat)(T:Ends)(σ:L2.St)(H:Hp):Prop
 | mk (H0:Hp) (A0 A:Av) (E:List Fact) (ρ:dH) (out:Out) (st:ST H0 A0 A E O σ H ρ) (e:f ρ=bw out) (p:qco L H0 A0 E O' T out):tS L O f O' T σ H
def kR(X:Cx)(L:Lp)(O:List Nat)(st:Stmt)(f:Sv)(O':List Nat):Prop:=PS X st<|tS L O f O'
def eL(X:Cx)(L:Lp)(O:List Nat)(st:List Stmt)(f:Sv)(O':List Nat):Prop:=PSs X st<|tS L O f O'
section
variable {X:Cx}{L:Lp}{O O' O2:List Nat}
def PS.mono{st:Stmt}{t t':TS}(h:PS X st t)(x:∀T σ H,t' T σ H->t T σ H):PS X st t':=λpins s σ H T I w=>h pins s σ H T I<|x T σ H w
def PSs.mono{st:List Stmt}{t t':TS}(h:PSs X st t)(x:∀T σ H,t' T σ H->t T σ H):PSs X st t':=λpins s σ H T I w=>h pins s σ H T I<|x T σ H w
noncomputable def Sub(a b:List Nat):Bool:=a.all λi=>b.contains i
def Sub.mem(h:Sub a b=ca)(i:Nat)(hi:i∈a):i∈b:=by
 have:=(List.all_eq_true.mp h) i hi;simpa using this
noncomputable def VG:Sv:=λρ=>bw<|.nx ρ
noncomputable def dR(f g:Sv):Sv:=λρ=>(f ρ).bind λo=>match o with
 |.nx ρ'=>g ρ'
 |o=>bw o
def HX(h:Sub O' O=ca:=by rfl):eL X L O [] VG O':=PSs.mono G3 <| by
 rintro T σ H ⟨H0,A0,A,E,ρ,out,st,e,p⟩;cases e;obtain⟨A',z⟩:=st.shut<|Sub.mem h;exact p A' σ H z
def R5(h:tS L O (dR f g) O' T σ H):qbk (tS L O f O2) (tS L O2 g O') T σ H:=by
 obtain⟨H0,A0,A,E,ρ,out,st,e,p⟩:=h;obtain⟨o,B,e⟩:=bind_some e;refine{H0,A0,A,E,ρ,o,st,B,?_};cases o with
 |nx ρ'=>exact λA' F H' z=>{H0,A0,A',E,ρ',out,z,e,p}
 |rt d=>cases e;exact p
 |bk d=>cases e;exact p
 |ct d=>cases e;exact p
def NR{st:Stmt}{rest:List Stmt}{f g:Sv}(h1:kR X L O st f O2)(h2:eL X L O2 rest g O'):eL X L O (st::rest) (dR f g) O':=PSs.mono (eB h1 h2) λT σ H h=>R5 h
def aN{st:Stmt}{f:Sv}(h1:kR X L O st f O'):eL X L O [st] f O':=jW h1
noncomputable def LJ(f:Ev):Sv:=λρ=>(f ρ).map .rt
def RY{e:Expr}{pos:Pos}{f:Ev}(z:PD X O e f):kR X L O (.Return (bw e) pos) (LJ f) O':=PS.mono (PM z) <| by
 rintro T σ H ⟨H0,A0,A,E,ρ,out,st,e,p⟩;obtain⟨d,B,rfl⟩:=map_some e;exact{H0,A0,A,E,ρ,d,st,B,λv H' x r=>p v H' (st.mono x).ex<|r.av λa F=>.inl<|st.sub a F}
noncomputable def DO(c:Bv)(f g:Sv):Sv:=λρ=>(c ρ).bind λb=>if b=ca then f ρ else g ρ
def E9{c:Expr}{a b:List Stmt}{pos:Pos}{g:Bv}{f k:Sv}(B:wX X O c g)(F:eL X L O a f O')(M:eL X L O b k O'):kR X L O (.If c a b pos) (DO g f k) O':=PS.mono (VW B F M) <| by
 rintro T σ H ⟨H0,A0,A,E,ρ,out,st,e,p⟩;obtain⟨b,G,e⟩:=bind_some e;refine{H0,A0,A,E,ρ,b,st,G,λH1 z=>?_};cases b with
 |true=>rw[ci rfl]at e ⊢;exact{H0,A0,A,E,ρ,out,st.mono z,e,p}
 |false=>rw[cj zaD]at e ⊢;exact{H0,A0,A,E,ρ,out,st.mono z,e,p}
noncomputable def eO(i:Nat)(f:Ev):Sv:=λρ=>(f ρ).map λd=>.nx<|ρ.set i<|bw d
def Sub.er{a b:List Nat}{i j:Nat}(h:Sub a (b.filter (· != i))=ca)(z:j∈a):j∈b/\j≠i:=by
 have:=Sub.mem h j z;rw[List.mem_filter]at this;exact{this.1,by simpa using this.2}
def HA{i:Nat}{x:Str}{e:Expr}{pos pos':Pos}{f:Ev}(W:X.N.Nodup)(hi:X.N[i]?=bw x)(hx:Loc X.env.scope x)(he:PD X O e f)(h:Sub O' (O.filter (· != i))=ca:=by rfl)
  (hs:zaF e (bw<|.Name x pos') pos.line X.env=pure cf:=by rfl) (G:X.fn x=ca\/X.env.scope.names.lookup x=bw .local:=by first|exact .inl rfl|exact .inr rfl):kR X L O (.Assign [.Name x pos'] e pos) (eO i f) O':=
 PS.mono (PR W hi hx he hs G) <| by
  rintro T σ H ⟨H0,A0,A,E,ρ,out,st,e,p⟩;obtain⟨d,M,rfl⟩:=map_some e;refine{H0,A0,A,E,ρ,d,st,M,λv H' x r=>?_}
  -- i leaves what may be written ahead of the store: the value is borne by fewer too
  have F:=(st.mono x).more r;obtain⟨A',B⟩:=F.shut (O':=O') λj Y=>(Sub.er h Y).1
  exact p A' _ H'<|(B.put (B.ext _<|zar ..) λz=>(Sub.er h z).2 rfl).less λq U=>zaq _ U
def Own.there:Own A H d a->H a≠bz
 |.lst h _=>by rw[h];exact λz=>nomatch z
 |.dK h _ _=>by rw[h];exact λz=>nomatch z
 |.dT h _ _=>by rw[h];exact λz=>nomatch z
def ST.own_put(s:ST H0 A0 A E O σ H ρ)(x:Ext A H H')(n:H a=bz)(na:¬ A a)(o:Own (λb=>A b\/b=a) H' d a)(ni:i∉O) :
  ST H0 A0 (λb=>A b\/b=a) E (i::O) (σ.set i<|bw<|.ref a) H' (ρ.set i<|bw d):=by
 have s':=s.mono x;have n0:H0 a=bz:=s.ex.free n
 -- whatever was borne ahead avoids a
 have M:Ext (λb=>A b\/b=a) H H':={x.rd,x.kp,λb u B e=>B.elim (λB=>x.ow b u B e) λB=>(by subst B;rw[n]at e;exact nomatch e),x.fz};have aa:∀ {p:Fact},p.Holds A H->p.Holds (λb=>A b\/b=a) H':=λr=>Fact.ext M (Fact.av (A':=λb=>A b\/b=a) (λb B=>by
   rcases B with B|B
   .exact .inl B
   .exact .inr<|B ▸ n) r)
 have up:∀ {d:D} {v:V},Rep A H d v->Rep (λb=>A b\/b=a) H' d v:=λr=>by
  have r1:Rep (λb=>A b\/b=a) H _ _:=r.av λb B=>by
   rcases B with B|B
   .exact .inl B
   .exact .inr<|B ▸ n
  exact r1.ext M
 have Y:∀ {d:D} {b:Addr},A b->Own A H d b->Own (λc=>A c\/c=a) H' d b:=λB r=>by
  have r1:Own (λc=>A c\/c=a) H _ _:=r.av λb B=>by
   rcases B with B|B
   .exact .inl B
   .exact .inr<|B ▸ n
  exact r1.ext M<|.inl B
 have ha:H' a≠bz:=o.there;refine{s'.ex,λb B=>.inl<|s.sub b B,s.l0,λb B=>?_,by simp[s.len],λj d' h' U=>?_,λj d' h' U=>?_,λj k N d2 b hj hk h1 h2 G W=>?_,λp hp=>aa<|s.ext p hp}
 .rcases B with B|B
  .exact s'.live b B
  .subst B;exact ha
 .rcases fE h' with⟨e,F,l⟩|⟨e,F⟩
  .exact absurd (List.mem_cons.mpr<|.inl e) U
  .obtain⟨w,h1,h2⟩:=s.val j d' F λz=>U (zaq _ z)
   exact{w,by rw[nK e];exact h1,up h2}
 .rcases fE h' with⟨e,F,l⟩|⟨e,F⟩
  .subst e;cases F
   exact{a,sig_set (by rw[s.len];exact l),.inr rfl,n0,o}
  .rcases List.mem_cons.mp U with z|z
   .exact absurd z e
   .obtain⟨w,h1,h2,G,W⟩:=s.own j d' F z
    exact{w,by rw[nK e];exact h1,.inl h2,G,Y h2 W}
 .have key:∀ {j:Nat} {N:D},j∈i::O->(ρ.set i<|bw d)[j]?=bw (bw N)->(σ.set i<|bw<|.ref a)[j]?=bw (bw<|.ref b)->(j=i/\b=a)\/(j≠i/\j∈O/\ρ[j]?=bw (bw N)/\σ[j]?=bw (bw<|.ref b)/\b≠a):=by
   intro j N hj h1 G;rcases fE h1 with⟨e,F,l⟩|⟨e,F⟩
   .subst e
    rw[sig_set<|by rw[s.len];exact l]at G;cases G;exact .inl {rfl,rfl}
   .rcases List.mem_cons.mp hj with z|z
    .exact absurd z e
    .rw[nK e]at G
     obtain⟨w,q1,q2,_⟩:=s.own j N F z;rw[G]at q1;cases q1;exact .inr {e,z,F,G,λz=>na<|z ▸ q2}
  rcases key hj h1 G with⟨e1,F⟩|⟨e1,F,e3,e4,e5⟩
  .rcases key hk h2 W with⟨f1,f2⟩|⟨f1,f2,f3,f4,f5⟩
   .rw[e1,f1]
   .exact absurd F f5
  .rcases key hk h2 W with⟨f1,f2⟩|⟨f1,f2,f3,f4,f5⟩
   .exact absurd f2 e5
   .exact s.inj j k N d2 b F f2 e3 f3 e4 f4
def MU{i:Nat}{x:Str}{e:Expr}{pos pos':Pos}{f:Ev}(W:X.N.Nodup)(hi:X.N[i]?=bw x)(hx:Loc X.env.scope x)(Y:PF X O e f)(h:Sub O' (i::O)=ca:=by rfl)(G:O.contains i=cf:=by rfl)
  (hs:zaF e (bw<|.Name x pos') pos.line X.env=pure cf:=by rfl) (M:X.fn x=ca\/X.env.scope.names.lookup x=bw .local:=by first|exact .inl rfl|exact .inr rfl):kR X L O (.Assign [.Name x pos'] e pos) (eO i f) O':=
 PS.mono (PR W hi hx Y hs M) <| by
  rintro T σ H ⟨H0,A0,A,E,ρ,out,st,e,p⟩;obtain⟨d,U,rfl⟩:=map_some e;refine{H0,A0,A,E,ρ,d,st,U,λa H' x n na o=>?_};have F:i∉O:=λz=>by
   have:O.contains i=ca:=by simpa using z
   rw[G]at this;cases this
  obtain⟨A1,B⟩:=(st.own_put x n na o F).shut<|Sub.mem h;exact p A1 _ H' B
def Ext.upN{A:Av}{H H':Hp}{D:Addr}{o:HO}(x:Ext A H H')(n:H D=bz):Ext A H<|upd H' D o:=by
 have B:∀b,H b≠bz->b≠D:=λb F z=>F<|by rw[z];exact n
 exact⟨λb w r=>iN (B b<|by rcases r with r|⟨_,r⟩ <;> (rw[r];exact λz=>nomatch z))<|x.rd b w r,
  λb xs k r=>by rw[aG<|B b<|by rw[r];exact λz=>nomatch z];exact x.kp b xs k r,
  λb w n r=>by rw[aG<|B b<|by rw[r];exact λz=>nomatch z];exact x.ow b w n r,
  λb q w r=>by rw[aG<|B b<|by rw[r];exact λz=>nomatch z];exact x.fz b q w r⟩
def ST.write(s:ST H0 A0 A E O σ H ρ)(hi:ρ[i]?=bw (bw d))(hO:i∈O)(hs:σ[i]?=bw (bw<|.ref a))(N:A a)(h0:H0 a=bz)(U:H a=bw u)(ob:qe u)(hn:Own A (upd H a o) d' a) :
  ST H0 A0 A E O σ (upd H a o) (ρ.set i<|bw d'):=by
 refine{s.ex.upN h0,s.sub,s.l0,λb hb=>?_,by simp[s.len],λj G h' F=>?_,λj G h' F=>?_,λj k M G b hj hk h1 h2 W Y=>?_,λp hp=>Fact.put N U ob<|s.ext p hp}
 .by_cases e:b=a
  .subst e;rw[aJ];exact λz=>nomatch z
  .rw[aG e];exact s.live b hb
 .rcases fE h' with⟨e,B,l⟩|⟨e,B⟩
  .subst e;exact absurd hO F
  .obtain⟨w,h1,h2⟩:=s.val j G B F
   exact{w,h1,h2.put N U ob}
 .rcases fE h' with⟨e,B,l⟩|⟨e,B⟩
  .subst e;cases B;exact{a,hs,N,h0,hn}
  .obtain⟨b,h1,h2,W,Y⟩:=s.own j G B F
   refine{b,h1,h2,W,Y.put N U ob λz=>?_};subst z;exact e<|s.inj j i G d b F hO B hi h1 hs
 .have key:∀ {j:Nat} {M:D},(ρ.set i<|bw d')[j]?=bw (bw M)->∃d0,ρ[j]?=bw (bw d0):=by
   intro j M h;rcases fE h with⟨e,_,_⟩|⟨_,e⟩
   .subst e;exact{d,hi}
   .exact⟨M,e⟩
  obtain⟨x,hx⟩:=key h1;obtain⟨y,hy⟩:=key h2;exact s.inj j k x y b hj hk hx hy W Y
noncomputable def mem(O:List Nat)(i:Nat):Bool:=O.contains i
def iM(h:mem O i=ca):i∈O:=by simpa[mem]using h
def K6(i:Nat)(f:Ev):Sv:=λρ=>(aD i ρ).bind λx=>match x with
 |.lst l=>(f ρ).bind λd=>if a9 l.length then bw (.nx<|ρ.set i<|bw<|.lst<|l++[d])else bz
 |_=>bz
def EY{o e:Expr}{i:Nat}{apos cpos pos:Pos}{f:Ev}(ho:PE X o<|dI i)(he:PD X O e f)(G:mem O i=ca)(W:PE X (.Call (.Attribute o "append" apos) [e] [] cpos)<|qd X.K "list" HY (dI i)<|yE (tD Rep O f) U1)
  (hs:zaF (.Call (.Attribute o "append" apos) [e] [] cpos) bz pos.line X.env=pure cf:=by rfl) (h:Sub O' O=ca:=by rfl):kR X L O (.Expr (.Call (.Attribute o "append" apos) [e] [] cpos) pos) (K6 i f) O':=
 PS.mono (zE W hs) <| by
  rintro T σ H ⟨H0,A0,A,E,ρ,out,st,e,p⟩;obtain⟨x,ex,e⟩:=bind_some e;cases x with
  |lst l=>
   obtain⟨d,U,e⟩:=bind_some e;by_cases F:a9 l.length=ca
   .rw[ci F]at e
    cases e;obtain⟨a,N,z,Y,e4⟩:=st.own i _ (bZ ex)<|iM G;cases e4 with
    |lst h4 r4=>
     refine{_,N,.inl {rfl,_,SqL.of h4},H0,A0,A,E,ρ,d,st,U,λv H' x r=>{a,_,v,rfl,rfl,x.ow _ _ z h4,by rw[r4.length];exact jV F,?_}};have M:=x.ow _ _ z h4;obtain⟨A',B⟩:=((st.mono x).write (o:=.lst _) (bZ ex) (iM G) N z Y M trivial (.lst aJ<|((r4.ext x).append<|.cons r .nil).put z M trivial)).shut<|Sub.mem h;exact p A' σ _ B
   .rw[cj F]at e;cases e
  |_=>exact nn e
noncomputable def Z4:D->Option Key
 |.int i=>bw<|.inl i
 |.str x=>bw<|.inr x
 |_=>bz
def QO:List D->Option (List Key)
 |[]=>bw []
 |d::ds=>(Z4 d).bind λk=>(QO ds).bind λks=>bw<|k::ks
def WK:D->Option (List Key)
 |.tup l=>QO l
 |_=>bz
noncomputable def fO{κ:Type}[DecidableEq κ](l:List<|κ×D)(k:κ):Option D:=(l.find? λp=>decide (p.1=k)).map (·.2)
noncomputable def putD{κ:Type}[DecidableEq κ](l:List<|κ×D)(k:κ)(d:D):List<|κ×D:=if l.any (λp=>decide (p.1=k))then l.map (λp=>if p.1=k then(p.1,d)else p)else l++[(k,d)]
end
section
variable {A:Av}{H:Hp}
section
variable {κ:Type}[DecidableEq κ]
abbrev PP(A:Av)(H:Hp):List (κ×D)->List (κ×V)->Prop:=Paired λ(p:κ×D) (q:κ×V)=>p.1=q.1/\Rep A H p.2 q.2
theorem wD:∀ {l:List (κ×D)} {xs:List (κ×V)},xs.map (·.1)=l.map (·.1)->RepL A H (l.map (·.2)) (xs.map (·.2))->PP A H l xs
 |[],[],_,_=>.nil
 |[],_::_,e,_=>by cases e
 |_::_,[],e,_=>by cases e
 |p::l,q::xs,e,r=>by
  rw[zaj,zaj]at e r;injection e with e1 e2
  cases r with
  |cons h t=>exact .cons {e1.symm,h}<|wD e2 t
theorem x9:∀ {l:List (κ×D)} {xs:List (κ×V)},PP A H l xs->xs.map (·.1)=l.map (·.1)/\RepL A H (l.map (·.2)) (xs.map (·.2))
 |_,_,.nil=>{rfl,.nil}
 |_,_,.cons h t=>by
  obtain⟨e,r⟩:=x9 t;exact{by rw[zaj,zaj,h.1,e],.cons h.2 r}
def OW(k:κ)(h:PP A H l xs):(fO l k=bz/\pQ xs k=bz)\/∃d v,fO l k=bw d/\pQ xs k=bw v/\Rep A H d v:=by
 induction h with
 |nil=>exact .inl {rfl,rfl}
 |@cons p q l xs h t ih=>
  by_cases e:p.1=k
  .refine .inr {p.2,q.2,?_,oW<|h.1 ▸ e,h.2}
   simp[fO,zbB,e]
  .have B:¬ q.1=k:=λz=>e (h.1.trans z)
   have a:fO (p::l) k=fO l k:=by simp[fO,zbB,e]
   rw[a,oY B];exact ih
def Y7(k:κ)(h:PP A H l xs):(l.any λp=>decide (p.1=k))=xs.any λp=>decide (p.1=k):=by
 induction h with
 |nil=>rfl
 |cons h t ih=>rw[zcg,zcg,ih,h.1]
def W5(k:κ)(r:Rep A H d v)(h:PP A H l xs):PP A H (l.map λp=>if p.1=k then(p.1,d)else p)<|xs.map λp=>if p.1=k then(p.1,v)else p:=by
 induction h with
 |nil=>exact .nil
 |@cons p q l xs h t ih=>
  rw[zaj,zaj];refine .cons ?_ ih;by_cases e:p.1=k
  .rw[ci e,ci<|h.1 ▸ e];exact{h.1,r}
  .rw[cj e,cj λz=>e<|h.1.trans z];exact h
def W1(h:PP A H l xs)(h':PP A H m ys):PP A H (l++m)<|xs++ys:=by
 induction h with
 |nil=>exact h'
 |cons h t ih=>exact .cons h ih
def vZ(k:κ)(r:Rep A H d v)(h:PP A H l xs):PP A H (putD l k d)<|putK xs k v:=by
 unfold putD putK;rw[Y7 k h];by_cases e:(xs.any λp=>decide (p.1=k))=ca
 .rw[ci e,ci e];exact W5 k r h
 .rw[cj e,cj e];exact W1 h<|.cons {rfl,r} .nil
end
def sO(h:Z4 d=bw k)(r:RepB A H d v):v=kV k:=by
 cases d <;> cases h
 .exact r.int_inv
 .exact r.str_inv
theorem BK:∀ {ds:List D} {ks:List Key} {vs:List V},QO ds=bw ks->RepL A H ds vs->vs=ks.map kV
 |_,_,_,h,.nil=>by cases h;rfl
 |_,_,_,h,.cons r t=>by
  obtain⟨k,B,h⟩:=bind_some h;obtain⟨ks,z,h⟩:=bind_some h;cases h;rw[zaj,sO B<|.of r,BK z t]
set_option tactic.hygienic true in
def tG(h:WK d=bw k)(r:RepB A H d v):∃b,v=.ref b/\H b=bw (.tup<|k.map kV):=by
 cases d <;> try cases h
 rename_i l;obtain⟨a,xs,rfl,h1,h2⟩:=r.tup_inv;exact{a,rfl,by rw[h1,BK h h2]}
def pP:D->D->Option (Option D)
 |.dK l,k=>(Z4 k).map λk=>fO l k
 |.dT l,k=>(WK k).map λk=>fO l k
 |_,_=>bz
def u9{d k:D}{x y:V}{o:Option D}(h:pP d k=bw o)(N:RepB A H d x)(M:RepB A H k y):∃a F,x=.ref a/\IsD H a/\DGet H a y F/\((o=bz/\F=bz)\/∃z v,o=bw z/\F=bw v/\Rep A H z v):=by
 cases d with
 |dK l=>
  obtain⟨B,G,rfl⟩:=map_some h;obtain⟨a,xs,rfl,h1,e,r⟩:=N.dK_inv;have:=sO G M;subst this;refine{a,_,rfl,.inl {xs,h1},.inl {xs,B,h1,rfl,rfl},OW B<|wD e r}
 |dT l=>
  obtain⟨B,G,rfl⟩:=map_some h;obtain⟨a,xs,rfl,h1,e,r⟩:=N.dT_inv;obtain⟨b,rfl,U⟩:=tG G M;exact{a,_,rfl,.inr {xs,h1},.inr {xs,B,b,h1,rfl,U,rfl},OW B<|wD e r}
 |_=>exact nn h
end
section
variable {X:Cx}{O O':List Nat}{L:Lp}
def PE.or(h:PE X e t)(k:PE X e u):PE X e λσ H Q=>t σ H Q\/u σ H Q:=λpins s σ H Q I w=>w.elim (h pins s σ H Q I)<|k pins s σ H Q I
def aL(d k:D):Option D:=match d with
 |.dK _=>(pP d k).join
 |.dT _=>(pP d k).join
 |_=>dIx d k
def uO{z:Type}{o:Option (Option z)}{d:z}(h:o.join=bw d):o=bw (bw d):=by
 cases o with
 |none=>cases h
 |some o=>cases o with
  |none=>cases h
  |some x=>cases h;rfl
def CV{F fb:Ev}{σ:L2.St}{H:Hp}{Q:VK}(h:tD Rep O (bF (λd k=>(pP d k).join) F fb) σ H Q):VR (tD RepB O F) (tD RepB O fb) σ H Q:=by
 obtain⟨H0,A0,A,E,ρ,d,st,e,q⟩:=h;obtain⟨x,ex,e⟩:=bind_some e;obtain⟨y,W,e⟩:=bind_some e;refine{H0,A0,A,E,ρ,x,st,ex,λv H1 M r1=>{H0,A0,A,E,ρ,y,st.mono M,W,λw H2 G r2=>?_}};obtain⟨a,ov,U,_,g,B⟩:=u9 (uO e) (r1.ext G) r2;rcases B with⟨B,_⟩|⟨z,N,B,Y,r3⟩
 .cases B
 .cases B;subst Y
  exact{a,N,U,g,q N H2 (M.trans G) r3}
def Q2(G:X.A.units+1<cLine)(B:PB X O a fa)(F:PB X O b fb)(hs:zR b):PD X O (.Subscript a b pos)<|bF aL fa fb:=
 PE.mono (PE.or (qaH qb4 B F hs)<|GD G B F hs) <| by
  rintro σ H Q ⟨H0,A0,A,E,ρ,d,st,e,q⟩;obtain⟨x,ex,z⟩:=bind_some e;obtain⟨y,M,z⟩:=bind_some z;have key:∀g:D->D->Option D,g x y=bw d->tD Rep O (bF g fa fb) σ H Q:=λg h=>{H0,A0,A,E,ρ,d,st,by unfold bF;rw[ex,M];exact h,q}
  cases x with
  |dK l=>exact .inr<|CV<|key _ z
  |dT l=>exact .inr<|CV<|key _ z
  |_=>exact .inl<|zZ<|key dIx z
def nQ(d k e:D):Option D:=match d with
 |.dK l=>(Z4 k).bind λk=>if a9 l.length then bw (.dK<|putD l k e)else bz
 |.dT l=>(WK k).bind λk=>if a9 l.length then bw (.dT<|putD l k e)else bz
 |.lst l=>(Z6 k).bind λk=>(QZ l.length k).map λj=>.lst<|l.set j e
 |_=>bz
def FZ(i:Nat)(fk fe:Ev):Sv:=λρ=>(fe ρ).bind λe=>(aD i ρ).bind λx=>(fk ρ).bind λk=>(nQ x k e).map λd=>.nx<|ρ.set i<|bw d
def PS.or{st:Stmt}{t u:TS}(h:PS X st t)(k:PS X st u):PS X st λT σ H=>t T σ H\/u T σ H:=λpins s σ H T I w=>w.elim (h pins s σ H T I)<|k pins s σ H T I
def SU{o k value:Expr}{i:Nat}{pos pos':Pos}{fk fe:Ev}(F:X.A.units+1<cLine)(ho:PE X o<|dI i)(hk:PB X O k fk)(hv:PD X O value fe)(hO:mem O i=ca)(h:Sub O' O=ca:=by rfl)
  (hs:zaF value (bw<|.Subscript o k pos') pos.line X.env=pure cf:=by rfl) (ah:zdr [.Subscript o k pos'] value pos.line X.env=pure cf:=by rfl) (hw:zds [.Subscript o k pos'] value X.env=pure bz:=by rfl)
  (hg:∀ {to ti:TE} {t:QR},PE X o to->PE X k ti->VC X t->PG X (.Subscript o k pos') (ZW to ti t):=by intro _ _ _ a b c;exact OU a b c) :
  kR X L O (.Assign [.Subscript o k pos'] value pos) (FZ i fk fe) O':=
 PS.mono (PS.or (zM F ho hk hv hs)<|OX hv (hg ho hk set_list) ah hw) <| by
  rintro T σ H ⟨H0,A0,A,E,ρ,out,st,e,p⟩;obtain⟨z,ez,e⟩:=bind_some e;obtain⟨x,ex,e⟩:=bind_some e;obtain⟨y,ey,e⟩:=bind_some e;obtain⟨d,ed,rfl⟩:=map_some e;obtain⟨a,e1,N,e3,e4⟩:=st.own i _ (bZ ex)<|iM hO;cases x with
  |dK l=>
   obtain⟨kk,e5,M⟩:=bind_some ed;by_cases Y:a9 l.length=ca
   .rw[ci Y]at M;cases M
    refine .inl {H0,A0,A,E,ρ,z,st,ez,λv H1 U r1=>{_,e1,H0,A0,A,E,ρ,y,st.mono U,ey,λw H2 W r2=>?_}};have B:=U.trans W;cases e4 with
    |@dK _ _ xs h4 ee r4=>
     have F:=B.ow _ _ N h4;have hl:xs.length=l.length:=by have:=congrArg zbq ee;simpa using this
     have:=sO e5 r2;subst this;refine{a,_,rfl,DPut.k F (by rw[hl];exact jV Y),?_};obtain⟨e7,r7⟩:=x9<|vZ kk (r1.ext W)<|wD ee<|r4.ext B;obtain⟨A',G⟩:=((st.mono B).write (o:=.dK _) (bZ ex) (iM hO) e1 N e3 F trivial (.dK aJ e7<|r7.put N F trivial)).shut<|Sub.mem h;exact p A' σ _ G
   .rw[cj Y]at M;cases M
  |dT l=>
   obtain⟨kk,e5,M⟩:=bind_some ed;by_cases Y:a9 l.length=ca
   .rw[ci Y]at M;cases M
    refine .inl {H0,A0,A,E,ρ,z,st,ez,λv H1 U r1=>{_,e1,H0,A0,A,E,ρ,y,st.mono U,ey,λw H2 W r2=>?_}};have B:=U.trans W;cases e4 with
    |@dT _ _ xs h4 ee r4=>
     have F:=B.ow _ _ N h4;have hl:xs.length=l.length:=by have:=congrArg zbq ee;simpa using this
     obtain⟨b,rfl,hb⟩:=tG e5 r2;refine{a,_,rfl,DPut.t F hb (by rw[hl];exact jV Y),?_};obtain⟨e7,r7⟩:=x9<|vZ kk (r1.ext W)<|wD ee<|r4.ext B;obtain⟨A',G⟩:=((st.mono B).write (o:=.dT _) (bZ ex) (iM hO) e1 N e3 F trivial (.dT aJ e7<|r7.put N F trivial)).shut<|Sub.mem h;exact p A' σ _ G
   .rw[cj Y]at M;cases M
  |lst l=>
   obtain⟨kk,e5,M⟩:=bind_some ed;obtain⟨j,e7,rfl⟩:=map_some M;refine .inr {H0,A0,A,E,ρ,z,st,ez,λv H1 U r1=>{_,e1,H0,A0,A,E,ρ,y,st.mono U,ey,λw H2 W r2=>?_}};have B:=U.trans W;cases e4 with
   |@lst _ _ xs h4 r4=>
    have F:=B.ow _ _ N h4;rw[CB e5]at r2;have:=r2.int_inv;subst this;refine{a,xs,kk,j,rfl,rfl,F,by rw[r4.length];exact e7,?_};obtain⟨A',G⟩:=((st.mono B).write (o:=.lst _) (bZ ex) (iM hO) e1 N e3 F trivial (.lst aJ<|((r4.ext B).set j<|r1.ext W).put N F trivial)).shut<|Sub.mem h;exact p A' σ _ G
  |_=>cases ed
noncomputable def LI(g:Int->Int->Option D):D->D->Option D
 |.int i,.int j=>g i j
 |_,_=>bz
def uZ(h:LI g x y=bw d):∃i j,x=.int i/\y=.int j/\g i j=bw d:=by
 cases x with
 |int i=>
  cases y with
  |int j=>exact{_,_,rfl,rfl,h}
  |_=>exact nn h
 |_=>exact nn h
def vU{f:Value->Value->Sem Value}{C:Int->Int->Prop}[∀i j,Decidable<|C i j]{g:Int->Int->Int}(h:OpR X f<|rI C λi j=>.int<|g i j):mT X f<|LI λi j=>if C i j then bw (.int<|g i j)else bz:=
 OpR.mono h <| by
  rintro x y H Q ⟨A,dx,M,d,N,G,F,e,q⟩;obtain⟨i,j,rfl,rfl,z⟩:=uZ e;have:=G.int_inv;subst this;have:=F.int_inv;subst this;by_cases B:C i j
  .rw[ci B]at z;cases z
   exact{i,j,rfl,rfl,B,q _ H (Ext.refl _ _)<|.int _}
  .rw[cj B]at z;cases z
def RI{f:Value->Value->Sem Value}{g:Int->Int->Int}(h:OpR X f<|Q0 λi j=>.int<|g i j):mT X f<|LI λi j=>bw<|.int<|g i j:=
 OpR.mono h <| by
  rintro x y H Q ⟨A,dx,F,d,G,B,z,e,q⟩;obtain⟨i,j,rfl,rfl,e⟩:=uZ e;have:=B.int_inv;subst this;have:=z.int_inv;subst this;cases e;exact{i,j,rfl,rfl,q _ H (Ext.refl _ _)<|.int _}
def CU{f:Value->Value->Sem Value}{g:Int->Int->Bool}(h:OpR X f<|Q0 λi j=>.bl<|g i j):mT X f<|LI λi j=>bw<|.bl<|g i j:=
 OpR.mono h <| by
  rintro x y H Q ⟨A,dx,F,d,G,B,z,e,q⟩;obtain⟨i,j,rfl,rfl,e⟩:=uZ e;have:=B.int_inv;subst this;have:=z.int_inv;subst this;cases e;exact{i,j,rfl,rfl,q _ H (Ext.refl _ _)<|.bl _}
instance:∀i j,Decidable<|My.FR i j:=λi j=>by unfold My.FR;infer_instance
instance:∀i j,Decidable<|VD i j:=λi j=>by unfold VD;infer_instance
instance:∀i j,Decidable<|U2 i j:=λi j=>by unfold U2;infer_instance
def ZX:D->D->Option D:=LI λi j=>bw<|.int<|i-j
def IB:D->D->Option D:=LI λi j=>if My.FR i j then bw (.int<|i*j)else bz
def dZ:D->D->Option D:=LI λi j=>if 0<j then bw (.int<|i%j)else bz
def i7:D->D->Option D:=LI λi j=>if VD i j then bw (.int<|i/j)else bz
def QX:D->D->Option D:=LI λi j=>if U2 i j then bw (.int<|i^j.toNat)else bz
def DF:D->D->Option D:=LI λi j=>bw<|.bl<|decide (j<i)
def ZV:D->D->Option D:=LI λi j=>bw<|.bl<|decide (j<=i)
def Y4:mT X (zaP .Sub) ZX:=RI YB
def YV:mT X (zaP .Mult) IB:=vU My.UA
def iP:mT X (zaP .Mod) dZ:=vU YQ
def FL:mT X (zaP .FloorDiv) i7:=vU S9
def X0:mT X (zaP .Pow) QX:=vU Y9
def qax:mT X (zaA .Gt) DF:=CU qak
def qaP:mT X (zaA .GtE) ZV:=CU qae
def ZQ(f:Ev):Ev:=λρ=>(f ρ).bind λd=>(Z6 d).map λi=>.int<|-i
end
section
variable {X:Cx}{L:Lp}{O O':List Nat}
noncomputable def U4:Sv:=λ_=>bz
def J9{st:Stmt}:kR X L O st U4 O':=λ_ _ _ _ _ _ ⟨_,_,_,_,_,_,_,e,_⟩=>nomatch e
abbrev Gv:=D->dH->Option dH
inductive tDG(O:List Nat)(g:Gv)(v:V)(σ:L2.St)(H:Hp)(Q:L2.St->Hp->Prop):Prop
 | mk (H0:Hp) (A0 A:Av) (E:List Fact) (ρ:dH) (d:D) (ρ':dH) (st:ST H0 A0 A E O σ H ρ) (r:Rep A H d v) (e:g d ρ=bw ρ') (q:∀σ',ST H0 A0 A E O σ' H ρ'->Q σ' H):tDG O g v σ H Q
def DL(X:Cx)(O:List Nat)(tg:Expr)(g:Gv):Prop:=PG X tg<|tDG O g
abbrev WG:=List D->dH->Option dH
inductive tDGs(O:List Nat)(g:WG)(vs:List V)(σ:L2.St)(H:Hp)(Q:L2.St->Hp->Prop):Prop
 | mk (H0:Hp) (A0 A:Av) (E:List Fact) (ρ:dH) (ds:List D) (ρ':dH) (st:ST H0 A0 A E O σ H ρ) (r:RepL A H ds vs) (e:g ds ρ=bw ρ') (q:∀σ',ST H0 A0 A E O σ' H ρ'->Q σ' H):tDGs O g vs σ H Q
def FS(X:Cx)(O:List Nat)(ts:List Expr)(g:WG):Prop:=PGs X ts<|tDGs O g
def PG.mono(h:PG X tg t)(x:∀v σ H Q,t' v σ H Q->t v σ H Q):PG X tg t':=λpins s σ H v u Q I r w=>h pins s σ H v u Q I r<|x v σ H Q w
def PGs.mono(h:PGs X ts t)(x:∀v σ H Q,t' v σ H Q->t v σ H Q):PGs X ts t':=λpins s σ H v u Q I r w=>h pins s σ H v u Q I r<|x v σ H Q w
noncomputable def aQ(i:Nat):Gv:=λd ρ=>bw<|ρ.set i<|bw d
def oT(h:PG X tg<|kI i)(n:O.contains i=cf:=by rfl):DL X O tg<|aQ i:=PG.mono h <| by
 rintro v σ H Q ⟨H0,A0,A,E,ρ,d,ρ',st,r,e,q⟩;cases e;exact q _ (st.put r λz=>by
  have:O.contains i=ca:=by simpa using z
  rw[n]at this;cases this)
noncomputable def pN:WG:=λds ρ=>match ds with
 |[]=>bw ρ
 |_=>bz
noncomputable def c7(g:Gv)(k:WG):WG:=λds ρ=>match ds with
 |d::ds=>(g d ρ).bind λρ'=>k ds ρ'
 |_=>bz
def MK:FS X O [] pN:=PGs.mono RS <| by
 rintro v σ H Q ⟨H0,A0,A,E,ρ,ds,ρ',st,r,e,q⟩;cases r with
 |nil=>cases e;exact{rfl,q _ st}
 |cons _ _=>cases e
def iW(G:∀ {t:TG} {u:WJ},PG X e t->PGs X es u->PGs X (e::es) (V5 t u))(h1:DL X O e g)(h2:FS X O es k):FS X O (e::es)<|c7 g k:=
 PGs.mono (G h1 h2) <| by
  rintro v σ H Q ⟨H0,A0,A,E,ρ,ds,ρ',st,r,e,q⟩;cases r with
  |nil=>cases e
  |cons h t=>
   obtain⟨z,F,e⟩:=bind_some e;exact{_,_,rfl,H0,A0,A,E,ρ,_,z,st,h,F,λM B=>{H0,A0,A,E,z,_,ρ',B,t,e,q}}
noncomputable def kJ(n:Nat)(k:WG):Gv:=λd ρ=>match d with
 |.tup l=>if l.length=n then k l ρ else bz
 |_=>bz
def HW(F:PG X tg<|qbb X.K n<|tDGs O k):DL X O tg<|kJ n k:=PG.mono F <| by
 rintro v σ H Q ⟨H0,A0,A,E,ρ,d,ρ',st,r,e,q⟩;cases d with
 |tup l=>
  obtain⟨a,xs,rfl,h,B⟩:=RepB.tup_inv<|.of r;by_cases z:l.length=n
  .simp only[kJ,ci z]at e
   exact{a,xs,rfl,.inl<|.inl h,by rw[B.length];exact z,H0,A0,A,E,ρ,l,ρ',st,B,e,q}
  .simp only[kJ,cj z]at e;cases e
 |_=>exact nn e
noncomputable def VB(f:Ev)(g:Gv):Sv:=λρ=>(f ρ).bind λd=>(g d ρ).map .nx
def pF(N:PD X O e f)(M:DL X O tg g)(hs:zdr [tg] e pos.line X.env=pure cf:=by rfl)(hw:zds [tg] e X.env=pure bz:=by rfl)(h:Sub O' O=ca:=by rfl)(h1:(za3 [tg] X.env).map (·.2)=[zbi tg X.env]:=by rfl)(h1:(za3 [tg] X.env).map (·.2)=[zbi tg X.env]:=by rfl)(h1:(za3 [tg] X.env).map (·.2)=[zbi tg X.env]:=by rfl)(h1:(za3 [tg] X.env).map (·.2)=[zbi tg X.env]:=by rfl):kR X L O (.Assign [tg] e pos) (VB f g) O':=
 PS.mono (OX N M hs hw h1) <| by
  rintro T σ H ⟨H0,A0,A,E,ρ,out,st,e,p⟩;obtain⟨d,G,e⟩:=bind_some e;obtain⟨ρ',U,rfl⟩:=map_some e;refine{H0,A0,A,E,ρ,d,st,G,λv H' x r=>{H0,A0,A,E,ρ,d,ρ',st.mono x,r,U,λF B=>?_}};obtain⟨A',z⟩:=B.shut<|Sub.mem h;exact p A' F H' z
def K9(J:It)(z:List Fact)(items:List D):Prop:=
 ∀(A:Av) (H:Hp),Live A H->(∀p∈z,p.Holds A H)->∀i,(items.length<=i->J.stop i H)/\∀d,items[i]?=bw d->J.go i H/\∀x H',J.yld i H x H'->Ext A H H'/\Rep A H' d x
inductive tDI(O:List Nat)(f:Lv)(σ:L2.St)(H:Hp)(R:It->Hp->Prop):Prop
 | mk (H0:Hp) (A0 A:Av) (E:List Fact) (ρ:dH) (items:List D) (st:ST H0 A0 A E O σ H ρ) (e:f ρ=bw items) (q:∀J H' E1,Ext A H H'->(∀p∈E1,p.Holds A H')->K9 J E1 items->R J H'):tDI O f σ H R
def PDI(X:Cx)(O:List Nat)(tg e:Expr)(f:Lv):Prop:=PI X tg e<|tDI O f
def PI.mono(h:PI X tg e t)(x:∀σ H Q,t' σ H Q->t σ H Q):PI X tg e t':=λpins s σ H Q I w=>h pins s σ H Q I<|x σ H Q w
def PI.or(h:PI X tg e t)(k:PI X tg e u):PI X tg e λσ H Q=>t σ H Q\/u σ H Q:=λpins s σ H Q I w=>w.elim (h pins s σ H Q I)<|k pins s σ H Q I
def S4{a:Addr}{l:List D}{K:zae}:K9 (Itl K a) [.rep (.lst l)<|.ref a] l:=by
 intro A H F h i;have r:Rep A H (.lst l)<|.ref a:=h _<|List.mem_singleton.mpr rfl;obtain⟨G,xs,e,h1,B⟩:=RepB.lst_inv<|.of r;cases e;refine{λhi=>{xs,.inl h1,by rw[B.length];exact hi},λd hd=>?_};obtain⟨v,z,r1⟩:=B.get' hd;refine{{xs,v,.inl h1,z},λx H' y=>?_};obtain⟨rfl,y⟩:=y;have:=y xs<|.inl h1;rw[z]at this;cases this;exact{Ext.refl _ _,r1}
def WT{a:Addr}{l:List D}{K:zae}:K9 (Itt K a) [.rep (.tup l)<|.ref a] l:=by
 intro A H F h i;have r:Rep A H (.tup l)<|.ref a:=h _<|List.mem_singleton.mpr rfl;obtain⟨G,xs,e,h1,B⟩:=RepB.tup_inv<|.of r;cases e;refine{λhi=>{xs,.inl<|.inl h1,by rw[B.length];exact hi},λd hd=>?_};obtain⟨v,z,r1⟩:=B.get' hd;refine{{xs,v,.inl<|.inl h1,z},λx H' y=>?_};obtain⟨rfl,y⟩:=y;have:=y xs<|.inl<|.inl h1;rw[z]at this;cases this;exact{Ext.refl _ _,r1}
noncomputable def aS(lo c:Int)(n:Nat):List D:=(zau n).map λ(i:Nat)=>.int<|lo+(i:Int)*c
def bL(lo c:Int)(n:Nat):(aS lo c n).length=n:=by simp[aS]
def cA{lo c:Int}{n i:Nat}(h:(aS lo c n)[i]?=bw d):i<n/\d=.int (lo+(i:Int)*c):=by
 unfold aS at h;rw[zav]at h;by_cases hi:i<n
 .rw[zdc hi]at h;cases h;exact{hi,rfl}
 .rw[List.getElem?_eq_none<|by simpa using hi]at h;cases h
def OK{lo:Int}{n:Nat}:K9 (Itr lo n) []<|aS lo 1 n:=by
 intro A H z h i;refine{λhi=>by rw[bL]at hi;exact hi,λd hd=>?_};obtain⟨hi,rfl⟩:=cA hd;exact{hi,λx H' ⟨e,y⟩=>by subst e y;rw[Int.mul_one];exact{Ext.refl _ _,.int _}}
noncomputable def rX(i:Int):Bool:=decide (-1000000<=i) && decide (i<=1000000)
def cQ:List D->Option (List D)
 |[.int j]=>if rX j then bw (aS 0 1 j.toNat)else bz
 |_=>bz
def BM(h:rX i=ca):-(2^62)<=i/\i<2^62:=by
 simp only[rX,zaS,decide_eq_true_eq]at h
 lia
noncomputable def lR(g:List D->Option (List D))(f:Lv):Lv:=λρ=>(f ρ).bind g
def RL.one(r:RL R A H [d] vs):∃v,vs=[v]/\R A H d v:=by
 cases r with|cons h t=>cases t;exact{_,rfl,h}
def RL.two(r:RL R A H [d,e] vs):∃v w,vs=[v,w]/\R A H d v/\R A H e w:=by
 cases r with|cons h t=>obtain⟨w,rfl,h2⟩:=RL.one t;exact{_,w,rfl,h,h2}
def yX(h:cQ ds=bw l):∃j,ds=[.int j]/\rX j=ca/\l=aS 0 1 j.toNat:=by
 unfold cQ at h;split at h
 .split at h
  .cases h;exact{_,rfl,by assumption,rfl}
  .cases h
 .cases h
section
variable {tg a b c:Expr}{f:Lv}{p pos:Pos}
def EK(F:Gl X "range")(M:X.mg "range" = bz)(z:yM X O [a] f)(hs:zag [a] X.env=[(cf,eval a X.env)]:=by rfl):PDI X O tg (.Call (.Name "range" p) [a] [] pos)<|lR cQ f:=PI.mono (J8 F M z hs) <| by
 rintro σ H R ⟨H0,A0,A,E,ρ,items,st,e,q⟩;obtain⟨ds,B,e⟩:=bind_some e;refine{H0,A0,A,E,ρ,ds,st,B,λvs H1 G r1=>?_};obtain⟨j,rfl,h,rfl⟩:=yX e;obtain⟨v,rfl,h1⟩:=r1.one;have:=h1.int_inv;subst this;exact{j,rfl,(BM h).1,(BM h).2,q _ H1 [] G (λ_ h=>nomatch h) OK}
end
noncomputable def LB:Key->D
 |.inl i=>.int i
 |.inr x=>.str x
def QT(f:Ev):Lv:=λρ=>(f ρ).bind λd=>match d with
 |.lst l=>bw l
 |.tup l=>bw l
 |.dT l=>bw<|l.map λp=>.tup<|p.1.map LB
 |_=>bz
theorem vH:∀k:List Key,RepL A H (k.map LB) (k.map kV)
 |[]=>.nil
 |.inl i::k=>.cons (.int i)<|vH k
 |.inr x::k=>.cons (.str x)<|vH k
def WU(tl:TE):TI:=λσ H R=>tl σ H λx H1=>∃d kvs,x=.ref d/\((H1 d=bw (.dT kvs)/\∀o,R (My.ItD d o kvs)<|upd H1 d<|.frz o<|.dT kvs)\/∃o,H1 d=bw (.frz o<|.dT kvs)/\R (My.ItD d o kvs) H1)
def MZ(U:PE X l tl):PI X tg l<|WU tl:=by
 intro pins s σ H R I h;refine c8 (U pins s σ H _ I h) λv z ⟨x,H1,G,r1,W⟩=>?_
 obtain⟨d,kvs,rfl,q⟩:=W;cases r1;have key:∀(o:Obj) (H2:Hp),(d == za9)=cf->Inv X pins σ H2 z->z.heap.get? d=bw o->ObjOk X.prog X.w H2 z.heap d (.dT kvs)->R (My.ItD d o kvs) H2->wpAny (model X.prog X.w) X.A (pyIter<|.ref d) (PIE X pins σ tg R) X.xe z:=λo H2 lo B N ok q=>by
  obtain⟨_,_,es,ep,⟨o',r1,r2,r3⟩,F,_⟩:=My.vQ ok;rw[N]at r1;cases r1;refine My.M5 lo {o,N,r2,r3} ?_;refine{z.heap.objs.size,[z.heap.objs.size],_,_,_,rfl,B.kept (t':=z.toks) λb o e=>zam _ e,My.J0 d _ o kvs es ep r3 F,{_,zaC _ rfl,rfl,rfl},λb Y=>?_,q};have e:b=z.heap.objs.size:=by simpa using Y
  subst e;exact B.fpOk (zah _)<|B.hok.fresh<|zah _
 rcases q with⟨hd,q⟩|⟨o,hd,q⟩
 .have ok:=(show ObjOk X.prog X.w H1 z.heap d (.dT kvs)from G.hok d _ hd)
  obtain⟨lo,_,es,ep,⟨o,r1,r2,r3⟩,F,_⟩:=My.vQ ok;have B:=My.EN G hd r1;have M:=(show ObjOk X.prog X.w _ z.heap d (.frz o<|.dT kvs)from B.hok d _ aJ);exact key o _ lo B r1 M.2<|q o
 .have ok:=(show ObjOk X.prog X.w H1 z.heap d (.frz o<|.dT kvs)from G.hok d _ hd)
  obtain⟨lo,_⟩:=My.vQ ok.2;exact key o H1 lo G ok.1 ok.2 q
def GE{a:Addr}{o:Obj}{xs:List (List Key×V)}{l:List (List Key×D)}(e:xs.map (·.1)=l.map (·.1)):K9 (My.ItD a o xs) [.fz a o<|.dT xs]<|l.map λp=>.tup<|p.1.map LB:=by
 intro A H W h i;have z:H a=bw (.frz o<|.dT xs):=h _<|List.mem_singleton.mpr rfl;have U:xs.length=l.length:=by have:=congrArg zbq e;simpa using this
 refine{λhi=>{z,by rw[zak]at hi;lia},λd hd=>?_};rw[zav]at hd;obtain⟨p,B,rfl⟩:=map_some hd;have hi:i<l.length:=(List.getElem?_eq_some_iff.mp B).1;refine{{z,by lia},λx H' ⟨M,k,v,b,N,G,F⟩=>?_};subst M G;have:k=p.1:=by
  have h1:(xs.map (·.1))[i]?=bw k:=by rw[zav,N];rfl
  rw[e,zav,B]at h1;exact(zaz h1).symm
 subst this;exact{Ext.refl _ _,.tup F<|vH _}
def TK(n:¬ A d)(hd:H d=bw u)(B:qe u)(F:¬ Kp u):Ext A H (upd H d<|.frz o u) where
 rd:=λb w r=>by
  by_cases e:b=d
  .subst e
   rcases r with r|⟨q,r⟩
   .rw[hd]at r;cases r;exact .inr {o,aJ}
   .rw[hd]at r;cases r;exact B.elim
  .exact iN e r
 kp:=λb w k r=>by rw[aG λz=>by subst z;rw[hd]at r;cases r;exact F k];exact r
 ow:=λb w G r=>by rw[aG λz=>n<|by rw[<- z];exact G];exact r
 fz:=λb q w r=>by rw[aG λz=>by subst z;rw[hd]at r;cases r;exact B];exact r
def UB(h:PD X O e f):PDI X O tg e<|QT f:=PI.mono (PI.or (PI.or (R1 h)<|XZ h)<|MZ h) <| by
 rintro σ H R ⟨H0,A0,A,E,ρ,items,st,e,q⟩;obtain⟨d,G,e⟩:=bind_some e;cases d with
 |lst l=>
  cases e;refine .inl<|.inl {H0,A0,A,E,ρ,_,st,G,λv H1 F r1=>?_};obtain⟨a,xs,rfl,h1,M⟩:=RepB.lst_inv<|.of r1;exact{a,rfl,{xs,.inl h1},q _ H1 [.rep (.lst items)<|.ref a] F (λp B=>by rw[List.mem_singleton.mp B];exact r1) S4}
 |tup l=>
  cases e;refine .inl<|.inr {H0,A0,A,E,ρ,_,st,G,λv H1 F r1=>?_};obtain⟨a,xs,rfl,h1,M⟩:=RepB.tup_inv<|.of r1;exact{a,rfl,{xs,.inl<|.inl h1},q _ H1 [.rep (.tup items)<|.ref a] F (λp B=>by rw[List.mem_singleton.mp B];exact r1) WT}
 |dT l=>
  cases e;refine .inr {H0,A0,A,E,ρ,_,st,G,λv H1 F r1=>?_};cases r1 with
  |@dT _ a xs n h ee M=>
   refine{a,xs,rfl,?_};rcases h with h|⟨o,h⟩
   .refine .inl {h,λo=>q _ _ [.fz a o<|.dT xs] (F.trans<|TK n h trivial λz=>z) (λp B=>by rw[List.mem_singleton.mp B];exact aJ)<|GE ee}
   .exact .inr {o,h,q _ H1 [.fz a o<|.dT xs] F (λp B=>by rw[List.mem_singleton.mp B];exact h)<|GE ee}
 |_=>exact nn e
noncomputable def mE(g:Gv)(body:Sv):List D->dH->Option Out
 |[],ρ=>bw<|.nx ρ
 |x::xs,ρ=>(g x ρ).bind λρ1=>(body ρ1).bind λo=>match o with
  |.nx ρ2=>mE g body xs ρ2
  |.ct ρ2=>mE g body xs ρ2
  |.bk ρ2=>bw<|.nx ρ2
  |.rt d=>bw<|.rt d
def DI(f:Lv)(g:Gv)(z:Sv):Sv:=λρ=>(f ρ).bind λitems=>mE g z items ρ
def ST.both(s:ST H0 A0 A E O σ H ρ)(h:∀p∈E1,p.Holds A H):ST H0 A0 A (E1++E) O σ H ρ:=
 {s with ext:=λp z=>by rcases List.mem_append.mp z with e|e;exact h p e;exact s.ext p e}
def UJ(hp:zcc (model X.prog X.w) X.A X.env X.xe)(hc:X.calm=ca)(hi:PDI X O tg iter f)(hg:DL X O1 tg g)(hb:eL X {Ob,O1} O1 body b O1)(h1:Sub O1 O=ca)(h2:Sub O' O1=ca)(h3:Sub O' Ob=ca)
  (hs:∀x,zbd iter X.env x=pure x:=by intro _;rfl):kR X L O (.For tg iter body [] pos) (DI f g b) O':=PS.mono (PL hp hc hi hg hb hs) λT σ H ⟨H0,A0,A,E,ρ,out,st,e,p⟩=>by
 obtain⟨items,e1,e⟩:=bind_some e;refine{H0,A0,A,E,ρ,items,st,e1,λJ H1 M x1 ac J1=>?_};obtain⟨A1,ad⟩:=((st.mono x1).both ac).shut<|Sub.mem h1;refine{λi m σ H=>m=items.length-i/\i<=items.length/\∃ρ A,ST H0 A0 A (M++E) O1 σ H ρ/\mE g b (items.drop i) ρ=bw out,{items.length,by simp,zaM _,ρ,A1,ad,e},?_};rintro i m σ H ⟨rfl,az,ρ,A,st,e⟩;have hE:∀p∈M,p.Holds A H:=λp hp=>st.ext p<|zbH _ hp
 obtain⟨W,go⟩:=J1 A H st.live hE i;have fin:∀ {O2:List Nat} {A:Av} {σ:L2.St} {H:Hp} {ρ:dH},Sub O' O2=ca->ST H0 A0 A (M++E) O2 σ H ρ->(∀A σ H,ST H0 A0 A E O' σ H ρ->T.nx σ H)->T.nx σ H:=λhs st k=>by
  obtain⟨B,aa⟩:=(st.less (E':=E) λq hq=>zaY _ hq).shut<|Sub.mem hs;exact k B _ _ aa
 by_cases F:i<items.length
 .have ed:items[i]?=bw items[i]:=by simp[F]
  obtain⟨af,hy⟩:=go _ ed;rw[zdT F]at e;obtain⟨N,eg,e⟩:=bind_some e;obtain⟨o,eo,e⟩:=bind_some e;refine .inr {af,λU H'=>∃z B,ST H0 A0 B (M++E) O1 U H' z/\mE g b (items.drop<|i+1) z=bw out,λU H' ⟨z,B,G,e2⟩=>{items.length-(i+1),by lia,rfl,F,z,B,G,e2},λx H' y=>?_};obtain⟨x2,r2⟩:=hy x H' y;refine{H0,A0,A,M++E,ρ,_,N,st.mono x2,r2,eg,λas s1=>{H0,A0,A,M++E,N,o,s1,eo,?_}};cases o with
  |nx z=>exact λB Y H2 G=>{z,B,G,e}
  |ct z=>exact λB Y H2 G=>{z,B,G,e}
  |bk z=>cases e;exact λB Y H2 G=>fin h3 G p
  |rt d=>cases e;exact p
 .have ae:i=items.length:=by lia
  subst ae;rw[zex]at e;cases e;exact .inl {W<|zah _,fin h2 st p}
end
noncomputable def iS(cells:List<|Str×Addr):List (Str×zbN)->List (Str×Addr)->List (Str×Addr)
 |[],cs=>cs
 |(x,k)::r,cs=>iS cells r<|if k == .free then(x,(cells.lookup x).getD 0)::cs else cs
theorem xX:∀(names:List<|Str×zbN) (z:List<|Str×Addr),(∀y∈names,y.2=.free->∃c,env.cells.lookup y.1=bw c)->
  (forIn names z λ(p:Str×zbN) (r:List (Str×Addr))=>if(p.2 == .free)=ca then(do let c <- cellOf env p.1;pure<|zcM<|(p.1,c)::r)else(pure<|zcM r:Sem _))=(pure<|iS env.cells names z:Sem _)
 |[],z,_=>by simp[iS]
 |(x,k)::r,z,h=>by
  have ih:=λz=>xX r z λy M=>h y<|zaq _ M
  rw[zeu];by_cases e:(k == zbu)=ca
  .have F:k=.free:=by simpa using e
   obtain⟨c,G⟩:=h (x,k) (zar ..) F;have B:env.cells.lookup x=bw c:=G;simp only[e,if_true,iS];have:cellOf env x=pure c:=by unfold cellOf;rw[B]
   rw[this];simp only[pure_bind,B,Option.getD_some];exact ih _
  .simp only[e,iS]
   simp only[zbs,if_false,pure_bind];exact ih _
def GQ(h:∀y∈scope.names,y.2=.free->∃c,env.cells.lookup y.1=bw c):zc9 scope env=pure (iS env.cells scope.names []):=by
 have:=xX scope.names [] h;unfold zc9;simp only[bind_pure];exact this
theorem vG:∀ {names:List (Str×zbN)} {cs:List (Str×Addr)} {c:Addr},(iS cells names cs).lookup x=bw c->(∃z,cs.lookup x=bw z/\c=z)\/((x,zbu)∈names/\c=(cells.lookup x).getD 0)
 |[],cs,c,h=>.inl {c,h,rfl}
 |(y,k)::r,cs,c,h=>by
  rw[iS]at h;rcases vG h with⟨z,h1,h2⟩|⟨h1,h2⟩
  .by_cases e:(k == zbu)=ca
   .rw[ci e,zb7]at h1
    by_cases ex:(x == y)=ca
    .rw[ex]at h1
     have B:x=y:=by simpa using ex
     have F:k=.free:=by simpa using e
     subst B F;cases h1;exact .inr {zar ..,h2}
    .rw[zdU]at ex
     rw[ex]at h1;exact .inl {z,h1,h2}
   .rw[cj e]at h1
    exact .inl {z,h1,h2}
  .exact .inr {zaq _ h1,h2}
theorem u4:∀ {names:List (Str×zbN)} {cs:List (Str×Addr)},((x,zbu)∈names\/∃c,cs.lookup x=bw c)->∃c,(iS cells names cs).lookup x=bw c
 |[],cs,h=>h.elim (λh=>nomatch h) id
 |(y,k)::r,cs,h=>by
  rw[iS];apply u4;rcases h with h|⟨c,h⟩
  .rcases List.mem_cons.mp h with e|e
   .cases e
    refine .inr {(cells.lookup x).getD 0,?_};simp[zb7]
   .exact .inl e
  .right
   by_cases e:(k == zbu)=ca
   .rw[ci e,zb7]
    by_cases ex:(x == y)=ca
    .rw[ex];exact{_,rfl}
    .rw[zdU]at ex;rw[ex];exact⟨c,h⟩
   .rw[cj e];exact⟨c,h⟩
theorem gT{z:Type}{v:z}:∀ {l:List (Str×z)},l.lookup x=bw v->(x,v)∈l
 |(y,w)::r,h=>by
  rw[zb7]at h;by_cases ex:(x == y)=ca
  .rw[ex]at h;cases h;rw[show x=y by simpa using ex];exact zar ..
  .rw[zdU]at ex;rw[ex]at h;exact zaq _<|gT h
noncomputable def DE(names z:List<|Str×zbN):Bool:=
 names.all λy=>y.2 != .cell && (y.2 != .local || names.lookup y.1 == bw .local) && (y.2 != .free || z.lookup y.1 == bw .cell)
def E7{X:Cx}{N:List Str}{scope:Scope}{n:Nat}(hk:scope.kind=.function)(h:DE scope.names X.env.scope.names=ca)(hc:X.env.cells=zce n X.env.scope.names []):My.Clo X N scope<|iS X.env.cells scope.names []:=by
 have h':=List.all_eq_true.mp h;have Y:∀y∈scope.names,y.2≠.cell:=λy G=>by
  have:=h' y G;simp only[zaS]at this;simpa using this.1.1
 have c2:∀y∈scope.names,y.2=.local->scope.names.lookup y.1=bw .local:=λy G e=>by
  have:=h' y G;simp only[zaS,zdV]at this;rcases this.1.2 with z|z
  .rw[e]at z;exact absurd z<|by decide
  .simpa using z
 have c3:∀y∈scope.names,y.2=.free->∃c,X.env.cells.lookup y.1=bw c:=λy G e=>by
  have:=h' y G;simp only[zaS,zdV]at this;rcases this.2 with z|z
  .rw[e]at z;exact absurd z<|by decide
  .rw[hc];exact oU (sc:=X.env.scope)<|by simpa using z
 have F:∀x,((zbf scope X.env).names.lookup x=bw .cell\/(zbf scope X.env).names.lookup x=bw .free)->(x,zbu)∈scope.names:=λx hx=>by
  have key:∀U,(U=NameKind.cell\/U=zbu)->(x,U)∈(zbf scope X.env).names->(x,zbu)∈scope.names:=λU W hm=>by
   obtain⟨⟨y,k⟩,G,e⟩:=List.mem_map.mp hm;dsimp only at e;by_cases B:(k == zbu && X.env.scope.kind == .function && X.env.kindOf y == bw .cell)=ca
   .rw[ci B]at e
    have:k=.free:=by simp only[zaS]at B;simpa using B.1.1
    cases e;subst this;exact G
   .rw[cj B]at e
    cases e;rcases W with z|z
    .exact absurd z<|Y _ G
    .subst z;exact G
  rcases hx with hx|hx
  .exact key _ (.inl rfl)<|gT hx
  .exact key _ (.inr rfl)<|gT hx
 refine{GQ c3,hk,Y,c2,λx c e=>?_,λx hx=>u4<|.inl<|F x hx};rcases vG e with⟨c',z,_⟩|⟨z1,z2⟩
 .cases z
 .obtain⟨c0,M⟩:=c3 _ z1 rfl
  have M:X.env.cells.lookup x=bw c0:=M;rw[z2,M];rfl
def dX(X:Cx)(scope:Scope):List Str->List (Option Nat)->Prop
 |[],[]=>True
 |_::N,bz::ms=>dX X scope N ms
 |x::N,bw i::ms=>(X.N[i]?=bw x/\((zbf scope X.env).names.lookup x == bw NameKind.local)=cf/\(X.env.kindOf x=bw .cell\/X.env.kindOf x=bw .free))/\dX X scope N ms
 |_,_=>False
noncomputable def kK{z:Type}(ms:List<|Option Nat)(σ:List<|Option z):List<|Option z:=ms.map λo=>o.bind λi=>(σ[i]?).join
theorem lD:∀ {N:List Str} {ms:List (Option Nat)},dX X scope N ms->ms.length=N.length/\∀(j:Nat) (x:Str) (i:Nat),N[j]?=bw x->ms[j]?=bw (bw i)->X.N[i]?=bw x/\(zbf scope X.env).names.lookup x≠bw .local/\(X.env.kindOf x=bw .cell\/X.env.kindOf x=bw .free)
 |[],[],_=>{rfl,λj x i h _=>by simp at h}
 |y::N,bz::ms,h=>by
  obtain⟨l,g⟩:=lD (N:=N) (ms:=ms) h;refine{by simp[l],λj x i h1 h2=>?_};cases j with
  |zero=>simp at h2
  |succ j=>exact g j x i (by simpa using h1)<|by simpa using h2
 |y::N,bw k::ms,h=>by
  obtain⟨l,g⟩:=lD (N:=N) (ms:=ms) h.2;refine{by simp[l],λj x i h1 h2=>?_};cases j with
  |zero=>simp at h1 h2;subst h1 h2;exact{h.1.1,λz=>by have:=h.1.2.1;rw[z]at this;exact absurd this<|by decide,h.1.2.2}
  |succ j=>exact g j x i (by simpa using h1)<|by simpa using h2
 |[],_::_,h=>h.elim
 |_::_,[],h=>h.elim
def iE{B:Type}{ms:List (Option Nat)}{σ:List (Option B)}{j:Nat}{v:B}(h:(kK ms σ)[j]?=bw (bw v)):∃i:Nat,ms[j]?=bw (bw i)/\σ[i]?=bw (bw v):=by
 unfold kK at h;rw[zav]at h;obtain⟨o,F,z⟩:=map_some h;cases o with
 |none=>cases z
 |some i=>exact{i,F,uO z}
def MG{N:List Str}{ms:List (Option Nat)}(h:dX X scope N ms)(σ:L2.St):My.Start X N scope σ<|kK ms σ:=by
 obtain⟨l,g⟩:=lD h;refine{by unfold kK;rw[zak];exact l,λj x v h1 h2 _=>?_};obtain⟨i,B,z⟩:=iE h2;obtain⟨a,b,c⟩:=g j x i h1 B;exact⟨b,i,a,z,c⟩
def ST.inner{E:List Fact}{O:List Nat}(s:ST H0 A0 A E O σ H ρ)(ms:List<|Option Nat)(n:∀i,bw i∈ms->i∉O):ST H0 A0 A E [] (kK ms σ) H (kK ms ρ) where
 ex:=s.ex
 sub:=s.sub
 l0:=s.l0
 live:=s.live
 len:=by simp[kK]
 val:=λj d h _=>by
  obtain⟨i,z,B⟩:=iE h;obtain⟨v,F,r⟩:=s.val i d B<|n i<|zap z;refine{v,?_,r};unfold kK;rw[zav,z];show bw ((σ[i]?).join)=_;rw[F];rfl
 own:=λj d _ h=>nomatch h
 inj:=λi j d d' a hi=>nomatch hi
 ext:=s.ext
noncomputable def bD(g:Gv)(c:Bv)(f:Ev):List D->dH->Option (List D)
 |[],_=>bw []
 |x::xs,ρ=>(g x ρ).bind λρ1=>(c ρ1).bind λb=>if b=ca then(f ρ1).bind λd=>(bD g c f xs ρ1).bind λds=>bw (d::ds)else bD g c f xs ρ1
def eJ(ms:List<|Option Nat)(it:Lv)(g:Gv)(c:Bv)(f:Ev):Ev:=λρ=>(it ρ).bind λitems=>if a9 items.length then(bD g c f items<|kK ms ρ).map .lst else bz
noncomputable def fP:Bv:=λ_=>bw ca
def L6:My.F5 X []<|tDT O fP:=λpins s σ H Q I ⟨H0,A0,A,E,ρ,b,st,e,q⟩=>My.R0 pins s σ H Q I<|by cases e;exact q H<|Ext.refl _ _
def ME(h:wX X O c g):My.F5 X [c]<|tDT O g:=My.RE h
section
variable {X:Cx}{O:List Nat}
def GOk(Oi:List Nat)(g:Gv)(G:TG):Prop:=∀ {H0:Hp} {A0 A:Av} {E:List Fact} {σ:L2.St} {H:Hp} {ρ ρ':dH} {x:V} {d:D} {Q:L2.St->Hp->Prop},ST H0 A0 A E Oi σ H ρ->Rep A H d x->g d ρ=bw ρ'->(∀z,ST H0 A0 A E Oi z H ρ'->(∀j∈Oi,z[j]?=σ[j]?/\ρ'[j]?=ρ[j]?)->Q z H)->G x σ H Q
def CI(ay:dX X scope N ms)(a5:∀ {H0:Hp} {A0 A:Av} {E:List Fact} {σ:L2.St} {H:Hp} {ρ:dH},ST H0 A0 A E O σ H ρ->ST H0 A0 A E Oi (kK ms σ) H (kK ms ρ))(hG:GOk Oi g G)(σ:L2.St)(H:Hp)(Q:VK) :
  tF O (eJ ms it g c f) σ H Q->My.DB (tDI O it) G (tDT Oi c) (tD Rep Oi f) (My.Start X N scope) σ H Q:=λ⟨H0,A0,A,E,ρ,d,st,e,q⟩=>by
 obtain⟨items,e1,e⟩:=bind_some e;by_cases hz:a9 items.length=ca
 case neg=>rw[cj hz]at e;cases e
 rw[ci hz]at e;obtain⟨ds,e2,rfl⟩:=map_some e;refine{kK ms σ,MG ay σ,H0,A0,A,E,ρ,items,st,e1,λJ H1 E1 x1 ax J1 D hD=>?_};have W:=a5<|(st.mono x1).both ax;have nA:¬ A D:=λz=>W.live D z hD
 have n0:H D=bz:=x1.free hD
 -- the state of the block: the list that grows stands outside all that is borne
 refine{λi m aj us H2=>m=items.length-i/\i<=items.length/\∃ae done rest,ST H0 A0 (λb=>A b\/b=D) (E1++E) Oi aj H2 ae/\H2 D=bw (.lst us)/\Ext A H H2/\RepL (λb=>A b\/b=D) H2 done us/\bD g c f (items.drop i) ae=bw rest/\done++rest=ds/\done.length<=i/\∀j∈Oi,∀d a,ae[j]?=bw (bw d)->aj[j]?=bw (bw<|.ref a)->a≠D,{items.length,by simp,zaM _,kK ms ρ,[],ds,?_,aJ,x1.trans<|Ext.new hD,.nil,e2,rfl,zah _,λj aa d a h1 h2 z=>?_},?_}
 .have up:∀a,(A a\/a=D)->A a\/H1 a=bz:=λa B=>B.imp id λz=>by rw[z];exact hD
  refine{W.ex.trans<|Ext.new hD,λa B=>.inl<|W.sub a B,W.l0,λa B=>?_,W.len,λi d h n=>?_,λi d h n=>?_,W.inj,λp hp=>Fact.ext (Ext.new hD)<|Fact.av up<|W.ext p hp}
  .rcases B with B|B
   .rw[aG λz=>by subst z;exact nA B];exact W.live a B
   .subst B;rw[aJ];exact λz=>nomatch z
  .obtain⟨v,h1,h2⟩:=W.val i d h n
   exact{v,h1,(h2.av up).ext (Ext.new hD)}
  .obtain⟨a,h1,h2,h3,h4⟩:=W.own i d h n
   exact{a,h1,.inl h2,h3,(h4.av up).ext (Ext.new hD) (.inl h2)}
 .obtain⟨a',g1,g2,_⟩:=W.own j d h1 aa
  rw[h2]at g1;cases g1;exact nA<|z ▸ g2
 .rintro i m aj us H2 ⟨rfl,b0,ae,done,rest,s2,ah,x2,ad,F,ed,az,a1⟩
  obtain⟨ap,go⟩:=J1 _ H2 s2.live (λp hp=>s2.ext p<|zbH _ hp) i;by_cases M:i<items.length
  .have eg:items[i]?=bw items[i]:=by simp[M]
   obtain⟨bf,hy⟩:=go _ eg;rw[zdT M]at F;obtain⟨U,e3,F⟩:=bind_some F;obtain⟨b,e4,F⟩:=bind_some F;have an:us.length<zal:=by
    rw[ad.length];exact zdH az<|zaQ M<|iG hz
   refine .inr {bf,an,λx H3 y=>?_};obtain⟨x3,r3⟩:=hy x H3 y;refine hG (s2.mono x3) r3 e3 λaw s3 same=>{H0,A0,_,E1++E,U,b,s3,e4,λH5 x5=>?_}
   have Y:∀j∈Oi,∀d a,U[j]?=bw (bw d)->aw[j]?=bw (bw<|.ref a)->a≠D:=λj aa d a h1 h2=>a1 j aa d a (by rw[<- (same j aa).2,h1])<|by rw[<- (same j aa).1,h2]
   have ac:=x3.trans x5;have aq:H5 D=bw (.lst us):=ac.ow D _ (.inr rfl) ah;have am:Ext A H H5:=x2.trans<|ac.mono λa B=>.inl B;cases b with
   |false=>
    rw[cj zaD]at F;exact qbW {aq,items.length-(i+1),by lia,rfl,M,U,done,rest,s3.mono x5,aq,am,ad.ext ac,F,ed,by lia,Y}
   |true=>
    rw[ci rfl]at F;refine qbN ?_;obtain⟨d,e6,F⟩:=bind_some F;obtain⟨ai,e7,F⟩:=bind_some F;cases F;refine{H0,A0,_,E1++E,U,d,s3.mono x5,e6,λv H6 x6 r6=>?_};have ao:=ac.trans x6;have ab:H6 D=bw (.lst us):=ao.ow D _ (.inr rfl) ah;have s6:=s3.mono<|x5.trans x6;refine{ab,items.length-(i+1),by lia,rfl,M,U,done++[d],ai,{s6.ex.upN<|st.ex.free n0,s6.sub,s6.l0,λa B=>?_,s6.len,λi d h n=>?_,λi d h n=>?_,s6.inj,λp hp=>Fact.put (.inr rfl) ab trivial (s6.ext p hp)},aJ,(am.trans<|x6.mono λa B=>.inl B).upN n0,((ad.ext ao).append<|.cons r6 .nil).put (.inr rfl) ab trivial,e7,by rw[<- ed];simp,by rw[zbm];show done.length+1<=i+1;lia,Y}
    .by_cases z:a=D
     .subst z;rw[aJ];exact λz=>nomatch z
     .rw[aG z];exact s6.live a B
    .obtain⟨v,h1,h2⟩:=s6.val i d h n
     exact{v,h1,h2.put (.inr rfl) ab trivial}
    .obtain⟨a,h1,h2,h3,h4⟩:=s6.own i d h n
     exact{a,h1,h2,h3,h4.put (.inr rfl) ab trivial (Y i n d a h h1)}
  .have a8:i=items.length:=by lia
   subst a8;rw[zex]at F;cases F;rw[zbL]at ed;subst ed;exact .inl {ap<|zah _,q D H2 x2 n0 nA<|.lst ah ad}
def uY(F:dX X scope N ms)(G:(ms.all λo=>match o with|some i=>!O.contains i|none=>ca)=ca)(σ:L2.St)(H:Hp)(Q:VK) :
  tF O (eJ ms it g c f) σ H Q->My.DB (tDI O it) (tDG [] g) (tDT [] c) (tD Rep [] f) (My.Start X N scope) σ H Q:=
 CI F (λs=>s.inner ms λi hi z=>by
  have:=List.all_eq_true.mp G _ hi;simp only[Bool.not_eq_true']at this;have U:O.contains i=ca:=by simpa using z
  rw[U]at this;cases this) (λs r e q=>{_,_,_,_,_,_,_,s,r,e,λB M=>q B M λj h=>nomatch h}) σ H Q
def UG
  (F:X.calm=ca) (M:My.Clo X N scope cl) (z:dX X scope N ms) (B:(ms.all λo=>match o with|some i=>!O.contains i|none=>ca)=ca) (hi:PDI X O tg iter it) (U:∀C s H fp,DL (My.aZ X N scope cl C s H fp) [] tg g)
  (G:∀C s H fp,My.F5 (My.aZ X N scope cl C s H fp) ifs<|tDT [] c) (W:∀C s H fp,PD (My.aZ X N scope cl C s H fp) [] elt f) (hs:∀x,zbd iter X.env x=pure x:=by intro _;rfl) :
  PF X O (.ListComp elt [{tg,iter,ifs,0}] scope pos) (eJ ms it g c f):=PE.mono (My.HL F M hi U G W hs)<|uY z B
noncomputable def aE(n:Nat)(ds:List D):dH:=ds.map bw++zcu (n-ds.length) bz
def bA(n:Nat)(f:Sv)(ds:List D):Option D:=(f<|aE n ds).bind λo=>match o with
 |.rt d=>bw d
 |.nx _=>bw .non
 |_=>bz
def ST.begun(z:Live A H)(r:RepL A H ds vs):ST H A A [] [] (L2.start N vs) H (aE N.length ds) where
 ex:=Ext.refl _ _
 sub:=λ_ h=>h
 l0:=z
 live:=z
 len:=by unfold L2.start aE;simp[r.length]
 val:=λi d h _=>by
  unfold aE at h;by_cases hi:i<ds.length
  .rw[zee (by simpa using hi),zav]at h
   obtain⟨d',B,G⟩:=map_some h;cases G;obtain⟨v,M,r3⟩:=r.get' B;refine{v,?_,r3};unfold L2.start;rw[zee (by rw[zak,r.length];exact hi),zav,M];rfl
  .rw[zdy (by simpa using hi),List.getElem?_replicate]at h
   split at h <;> cases h
 own:=λi d _ h=>nomatch h
 inj:=λi j d d' a hi=>nomatch hi
 ext:=λp F=>nomatch F
def DD{P:zai}{w:World}{K:zae}{mg:Str->Option Value}{base:Heap}{x:Str}{st:Stmt}{N ps:List Str}{k:Nat}{f:Sv}{O':List Nat}(Df:My.DefAt K mg x st ps)(S:FnScope N ps<|aK st)
  (h:∀(F:Addr) (B:Value) (A:zan) (z:List Env) (s:zac) (H:Hp) (E:XK),Room k (A.deeper<|zaK x (aK st) s.heap.objs.size F B)->∃g,eL (i8 wK P w K mg base N x (aK st) F B A z s H E).nox {[],[]} [] (bM st) g O'/\g=f) :
  Fn P w K mg base x (k+1) ps (bA N.length f):=by
 refine My.BodyOk.ok (λF B A z s H vs Q E hr hsp=>?_) Df S (λvs H Q E hsp=>by obtain⟨A,ds,d,_,_,e,_⟩:=hsp;exact e);obtain⟨M,ds,d,lv,r,e,Y,q⟩:=hsp;obtain⟨o,eo,G⟩:=bind_some Y;obtain⟨g,W,rfl⟩:=h F B A z s H E hr;refine{_,W,H,M,M,[],_,o,ST.begun lv r,eo,?_};cases o with
 |nx ρ=>cases G;exact λA2 ad H2 s2=>q .non H2 s2.ex .non
 |rt d'=>cases G;exact λv H2 U r2=>q v H2 U r2
 |bk _=>cases G
 |ct _=>cases G
noncomputable def OZ(K:zae):Bool:=K.all λp=>match p.2.cls with
 |.type "list" => cf
 |_=>ca
def J6{K:zae}(h:OZ K=ca){a:Addr}{o:Obj}(e:K.lookup a=bw o):o.cls≠.type "list" := λz=>by
 have m:∀ {K:zae},K.lookup a=bw o->(a,o)∈K:=by
  intro K;induction K with
  |nil=>intro e;cases e
  |cons p r ih=>
   intro e;rw[zb7]at e;by_cases q:(a == p.1)=ca
   .rw[q]at e;cases e;rw[show a=p.1 by simpa using q];exact zar ..
   .rw[zdU]at q;rw[q]at e;exact zaq _<|ih e
 have:=List.all_eq_true.mp h _<|m e;dsimp only at this;rw[z]at this;exact absurd this<|by decide
def ZI{P:zai}{w:World}{K:zae}{mg:Str->Option Value}{base:Heap}{st:Stmt}{N:List Str}{k:Nat}{f:Sv}{O':List Nat}(hK:OZ K=ca)
  (h:∀(M:Addr) (F:Value) (A:zan) (B:List Env) (s:zac) (H:Hp) (E:XK),Room k (A.deeper<|zaK "law" (aK st) s.heap.objs.size M F)->∃g,eL (i8 wK P w K mg base N "law" (aK st) M F A B s H E).nox {[],[]} [] (bM st) g O'/\g=f)
  (hv:∀ns:List Int,ns.length<=63->bA N.length f [.lst<|ns.map .int]=bw (.bl ca)):My.BodyOk P w K mg base "law" st N k<|My.C9 K:=by
 refine λM F A B s H vs Q E hr hsp=>?_
 obtain⟨a,ns,rfl,W,Y,q⟩:=hsp;have hR:Rd H a<|.lst<|ns.map V.int:=by
  rcases W with W|⟨o,_,_,e,c,_⟩
  .exact W
  .exact absurd c<|J6 hK e
 have lv:Live (λ_=>False) H:=λa h=>h.elim
 have G:∀ns:List Int,RepL (λ_=>False) H (ns.map .int)<|ns.map V.int:=λns=>by
  induction ns with
  |nil=>exact .nil
  |cons n ns ih=>exact .cons (.int n) ih
 obtain⟨o,eo,U⟩:=bind_some<|hv ns Y;obtain⟨g,hg,rfl⟩:=h M F A B s H E hr;refine{_,hg,H,λ_=>False,λ_=>False,[],_,o,ST.begun lv<|.cons (.lst (λz=>z) hR<|G ns) .nil,eo,?_};cases o with
 |nx ρ=>cases U
 |rt d'=>cases U;exact λv H2 x2 r2=>by cases r2;exact q _
 |bk _=>cases U
 |ct _=>cases U
end
mutual
noncomputable def kH:D->Option My.Dx
 |.non=>bw .non
 |.bl b=>bw<|.bl b
 |.int i=>bw<|.int i
 |.str x=>bw<|.str x
 |.tup l=>(kM l).map .tup
 |.lst l=>(kM l).map .lst
 |.dK _=>bz
 |.dT _=>bz
 |.ob _ _=>bz
 |.mem _ _=>bz
noncomputable def kM:List D->Option (List My.Dx)
 |[]=>bw []
 |d::ds=>(kH d).bind λx=>(kM ds).bind λxs=>bw<|x::xs
end
mutual
theorem pL:∀ {d e:D} {x:My.Dx},kH d=bw x->kH e=bw x->d=e
 |.non,e,x,h,k=>by cases h;cases e <;> simp[kH]at k <;> first|rfl|(obtain⟨_,_,z⟩:=k;cases z)
 |.bl b,e,x,h,k=>by cases h;cases e <;> simp[kH]at k <;> first|(rw[k])|(obtain⟨_,_,z⟩:=k;cases z)
 |.int b,e,x,h,k=>by cases h;cases e <;> simp[kH]at k <;> first|(rw[k])|(obtain⟨_,_,z⟩:=k;cases z)
 |.str b,e,x,h,k=>by cases h;cases e <;> simp[kH]at k <;> first|(rw[k])|(obtain⟨_,_,z⟩:=k;cases z)
 |.tup l,e,x,h,k=>by
  rw[kH]at h;obtain⟨xs,h1,rfl⟩:=map_some h;cases e with
  |tup m=>
   rw[kH]at k;obtain⟨ys,k1,k2⟩:=map_some k;cases k2;rw[vF h1 k1]
  |lst m=>rw[kH]at k;obtain⟨ys,k1,k2⟩:=map_some k;cases k2
  |_=>simp[kH]at k
 |.lst l,e,x,h,k=>by
  rw[kH]at h;obtain⟨xs,h1,rfl⟩:=map_some h;cases e with
  |lst m=>
   rw[kH]at k;obtain⟨ys,k1,k2⟩:=map_some k;cases k2;rw[vF h1 k1]
  |tup m=>rw[kH]at k;obtain⟨ys,k1,k2⟩:=map_some k;cases k2
  |_=>simp[kH]at k
 |.dK _,e,x,h,k=>by rw[kH]at h;cases h
 |.dT _,e,x,h,k=>by rw[kH]at h;cases h
 |.ob _ _,e,x,h,k=>by rw[kH]at h;cases h
 |.mem _ _,e,x,h,k=>by rw[kH]at h;cases h
theorem vF:∀ {d e:List D} {x:List My.Dx},kM d=bw x->kM e=bw x->d=e
 |[],e,x,h,k=>by
  rw[kM]at h;cases h;cases e with
  |nil=>rfl
  |cons e es=>
   rw[kM]at k;obtain⟨_,_,k⟩:=bind_some k;obtain⟨_,_,k⟩:=bind_some k;cases k
 |d::ds,e,x,h,k=>by
  rw[kM]at h;obtain⟨y,h1,h⟩:=bind_some h;obtain⟨ys,h2,h⟩:=bind_some h;cases h;cases e with
  |nil=>rw[kM]at k;cases k
  |cons e es=>
   rw[kM]at k;obtain⟨z,k1,k⟩:=bind_some k;obtain⟨zs,k2,k⟩:=bind_some k;cases k;rw[pL h1 k1,vF h2 k2]
end
mutual
theorem tI{K:zae}{A:Av}{H:Hp}:∀ {d:D} {x:My.Dx} {v:V},kH d=bw x->Rep A H d v->My.Rep K H x v
 |.non,x,v,h,r=>by cases h;cases r;rw[My.Rep]
 |.bl b,x,v,h,r=>by cases h;cases r;rw[My.Rep]
 |.int b,x,v,h,r=>by cases h;cases r;rw[My.Rep]
 |.str b,x,v,h,r=>by cases h;cases r;rw[My.Rep]
 |.tup l,x,v,h,r=>by
  rw[kH]at h;obtain⟨xs,h1,rfl⟩:=map_some h;cases r with
  |tup hh rl=>rw[My.Rep];exact{_,_,rfl,.inl<|.inl hh,oX h1 rl}
 |.lst l,x,v,h,r=>by
  rw[kH]at h;obtain⟨xs,h1,rfl⟩:=map_some h;cases r with
  |lst n hh rl=>rw[My.Rep];exact{_,_,rfl,.inl hh,oX h1 rl}
 |.dK _,x,v,h,r=>by rw[kH]at h;cases h
 |.dT _,x,v,h,r=>by rw[kH]at h;cases h
theorem oX{K:zae}{A:Av}{H:Hp}:∀ {d:List D} {x:List My.Dx} {v:List V},kM d=bw x->RepL A H d v->My.RepL K H x v
 |[],x,v,h,r=>by rw[kM]at h;cases h;cases r;rw[My.RepL]
 |d::ds,x,v,h,r=>by
  rw[kM]at h;obtain⟨y,h1,h⟩:=bind_some h;obtain⟨ys,h2,h⟩:=bind_some h;cases h;cases r with
  |cons r rs=>rw[My.RepL];exact{_,_,rfl,tI h1 r,oX h2 rs}
end
def iY{K:zae}{A:Av}{H:Hp}{d:D}{x:My.Dx}{v:V}(h:kH d=bw x)(r:RepB A H d v):My.Rep K H x v:=by
 cases r with
 |of r=>exact tI h r
 |lst hh rl=>
  rw[kH]at h;obtain⟨xs,h1,rfl⟩:=map_some h;rw[My.Rep];exact{_,_,rfl,.inl hh,oX h1 rl}
 |dK=>rw[kH]at h;cases h
 |dT=>rw[kH]at h;cases h
def fX(d:D):Bool:=match kH d with
 |some x=>x.nb && decide (x.dep<=60)
 |none=>cf
noncomputable def ZY:D->Bool
 |.tup _=>ca | .lst _=>ca|_=>cf
noncomputable def WC:D->D->Bool
 |.non,.non=>ca | .non,.int _=>ca | .int _,.non=>ca | .non,.bl _=>ca | .bl _,.non=>ca | .non,.str _=>ca | .str _,.non=>ca
 |.int _,.int _=>ca | .bl _,.bl _=>ca | .str _,.str _=>ca
 |.int _,.str _=>ca | .str _,.int _=>ca | .bl _,.str _=>ca | .str _,.bl _=>ca
 |_,_=>cf
open Classical in
def LM(d e:D):Option Bool:=if WC d e=ca\/(ZY d=ca/\ZY e=ca/\fX d=ca/\fX e=ca)then bw (decide (d=e))else bz
def kQ(d e:D):Option D:=(LM d e).map .bl
def AK(d e:D):Option D:=(LM d e).map λb=>.bl<|!b
def P5(h:WC d e=ca)(r:RepB A H d v)(s:RepB A H e w):Z0 v w=ca/\(v=w↔d=e):=by
 cases d with
 |non=>have:=r.non_inv;subst this;cases e <;> first|exact ff h|(have:=s.non_inv;subst this;exact{rfl,by simp})|(have:=s.int_inv;subst this;exact{rfl,by simp})|(have:=s.bl_inv;subst this;exact{rfl,by simp})|(have:=s.str_inv;subst this;exact{rfl,by simp})
 |int i=>have:=r.int_inv;subst this;cases e <;> first|exact ff h|(have:=s.non_inv;subst this;exact{rfl,by simp})|(have:=s.int_inv;subst this;exact{rfl,by simp})|(have:=s.bl_inv;subst this;exact{rfl,by simp})|(have:=s.str_inv;subst this;exact{rfl,by simp})
 |bl b=>have:=r.bl_inv;subst this;cases e <;> first|exact ff h|(have:=s.non_inv;subst this;exact{rfl,by simp})|(have:=s.int_inv;subst this;exact{rfl,by simp})|(have:=s.bl_inv;subst this;exact{rfl,by simp})|(have:=s.str_inv;subst this;exact{rfl,by simp})
 |str x=>have:=r.str_inv;subst this;cases e <;> first|exact ff h|(have:=s.non_inv;subst this;exact{rfl,by simp})|(have:=s.int_inv;subst this;exact{rfl,by simp})|(have:=s.bl_inv;subst this;exact{rfl,by simp})|(have:=s.str_inv;subst this;exact{rfl,by simp})
 |_=>exact ff h
section
variable {X:Cx}{O:List Nat}
def OpR.orM(h:OpR X f r)(h':OpR X f r')(x:∀a b H Q,r2 a b H Q->r a b H Q\/r' a b H Q):OpR X f r2:=OpR.mono (OpR.or h h') x
def lZ(h:fX d=ca):∃x,kH d=bw x/\x.nb=ca/\x.dep<=60:=by
 unfold fX at h;cases e:kH d with
 |none=>rw[e]at h;cases h
 |some x=>rw[e]at h;simp only[zaS,decide_eq_true_eq]at h;exact{x,rfl,h.1,h.2}
def IV(h:ZY d=ca)(e:kH d=bw x):x.seq=ca:=by
 cases d with
 |tup l=>rw[kH]at e;obtain⟨xs,_,rfl⟩:=map_some e;rfl
 |lst l=>rw[kH]at e;obtain⟨xs,_,rfl⟩:=map_some e;rfl
 |_=>exact ff h
set_option tactic.hygienic true in
def qaz(hu:X.A.units+64<cLine):mT X (zaA .Eq) kQ:=OpR.orM qr (My.WO hu) <| by
 rintro x y H Q ⟨A,dx,U,d,lv,Y,W,e,q⟩;obtain⟨b,F,rfl⟩:=map_some e;unfold LM at F;split at F
 case isFalse=>cases F
 rename_i hc;cases F;rcases hc with hs|⟨s1,s2,k1,k2⟩
 .left
  obtain⟨h1,h2⟩:=P5 hs Y W;refine{h1,?_};have:decide (x=y)=@decide (dx=U) (zck _):=decide_eq_decide.mpr h2;rw[this];exact q _ H (Ext.refl _ _)<|.bl _
 .right
  obtain⟨N,G,a2,a3⟩:=lZ k1;obtain⟨M,B,b2,b3⟩:=lZ k2;refine{N,M,iY G Y,iY B W,IV s1 G,IV s2 B,a2,b2,a3,?_};have:@decide (N=M) (zck _)=@decide (dx=U) (zck _):=decide_eq_decide.mpr {λz=>pL G<|z ▸ B,λz=>by subst z;rw[G]at B;exact zaz B};show Q (.bl<|@decide (N=M) (zck _)) H;rw[this];exact q _ H (Ext.refl _ _)<|.bl _
set_option tactic.hygienic true in
def qaR(hu:X.A.units+64<cLine):mT X (zaA .NotEq) AK:=OpR.orM qaJ (My.Y1 hu) <| by
 rintro x y H Q ⟨A,dx,U,d,lv,Y,W,e,q⟩;obtain⟨b,F,rfl⟩:=map_some e;unfold LM at F;split at F
 case isFalse=>cases F
 rename_i hc;cases F;rcases hc with hs|⟨s1,s2,k1,k2⟩
 .left
  obtain⟨h1,h2⟩:=P5 hs Y W;refine{h1,?_};have:decide (x=y)=@decide (dx=U) (zck _):=decide_eq_decide.mpr h2;rw[this];exact q _ H (Ext.refl _ _)<|.bl _
 .right
  obtain⟨N,G,a2,a3⟩:=lZ k1;obtain⟨M,B,b2,b3⟩:=lZ k2;refine{N,M,iY G Y,iY B W,IV s1 G,IV s2 B,a2,b2,a3,?_};have:@decide (N=M) (zck _)=@decide (dx=U) (zck _):=decide_eq_decide.mpr {λz=>pL G<|z ▸ B,λz=>by subst z;rw[G]at B;exact zaz B};show Q (.bl<|!@decide (N=M) (zck _)) H;rw[this];exact q _ H (Ext.refl _ _)<|.bl _
noncomputable def iI:D->Bool
 |.non=>ca|_=>cf
def Z1(d e:D):Option D:=if iI e then bw (.bl<|iI d)else bz
def IU(d e:D):Option D:=if iI e then bw (.bl<|!iI d)else bz
def GW(r:RepB A H d v):decide (v=.non)=iI d:=by
 cases d with
 |non=>have:=r.non_inv;subst this;rfl
 |bl b=>have:=r.bl_inv;subst this;rfl
 |int b=>have:=r.int_inv;subst this;rfl
 |str b=>have:=r.str_inv;subst this;rfl
 |tup l=>obtain⟨_,_,rfl,_⟩:=r.tup_inv;rfl
 |lst l=>obtain⟨_,_,rfl,_⟩:=r.lst_inv;rfl
 |dK l=>obtain⟨_,_,rfl,_⟩:=r.dK_inv;rfl
 |dT l=>obtain⟨_,_,rfl,_⟩:=r.dT_inv;rfl
 |ob C l=>obtain⟨_,_,_,rfl,_⟩:=r.ob_inv;rfl
 |mem d f=>obtain⟨_,rfl,_⟩:=r.mem_inv;rfl
def WP:mT X (zaA .Is) Z1:=OpR.mono X9 <| by
 rintro x y H Q ⟨A,dx,F,d,G,B,z,e,q⟩;unfold Z1 at e;cases F with
 |non=>cases e;have:=z.non_inv;subst this;exact{rfl,by rw[GW B];exact q _ H (Ext.refl _ _)<|.bl _}
 |_=>exact nn e
def US:mT X (zaA .IsNot) IU:=OpR.mono R4 <| by
 rintro x y H Q ⟨A,dx,F,d,G,B,z,e,q⟩;unfold IU at e;cases F with
 |non=>cases e;have:=z.non_inv;subst this;exact{rfl,by rw[GW B];exact q _ H (Ext.refl _ _)<|.bl _}
 |_=>exact nn e
def Inv.lstR(I:Inv X pins σ H s)(F:Rd H l<|.lst xs):xs.length<=zal/\∃(z:List Value) (n:Nat),Vals xs z/\xs.length=z.length/\s.heap.get? l=bw {cls:=.type "list",data:=.seq z.toArray n}:=by
 obtain⟨B,z,n,r,e⟩:=(show ObjOk X.prog X.w H s.heap l (.lst xs)from F.ok I.hok);exact{B,z,n,r,r.length,e}
def qat:R2:=λx y H Q=>∃l b xs zs,x=.ref l/\y=.ref b/\Rd H l (.lst xs)/\Rd H b (.lst zs)/\xs.length+zs.length<=zal/\∀p,H p=bz->Q (.ref p) (upd H p<|.lst<|xs++zs)
def UR:OpR X (zaP .Add) qat:=by
 intro pins s σ H x y v u Q I rx W h;obtain⟨l,b,xs,zs,rfl,rfl,U,G,hz,q⟩:=h;cases rx;cases W;obtain⟨z,F,n,r,hl,e⟩:=Inv.lstR I U;obtain⟨z2,B,n2,r2,N,Y⟩:=Inv.lstR I G;refine PySem.P.add_list e Y ?_ (by rw[zay,zay];lia);have M:F.toArray++B.toArray=(F++B).toArray:=by simp
 rw[M];exact{.ref _,_,I.lnew (t':=s.toks) (r.append r2) (by rw[zbm];lia),rfl,q _ I.fresh}
end
section
variable {X:Cx}{O:List Nat}
def RepL.nil_iff(r:RepL A H ds vs):vs=[]↔ds=[]:=by cases r <;> simp
def yF:D->D->Option D
 |.int i,.int j=>bw<|.int<|i+j
 |.str i,.str j=>if a9 (i.length+j.length)then bw (.str<|i++j)else bz
 |.lst l,.lst m=>if a9 (l.length+m.length)then bw (.lst<|l++m)else bz
 |.tup (a::l),.tup m=>if a9 (l.length+1+m.length)then bw (.tup<|a::l++m)else bz
 |_,_=>bz
def YN:mT X (zaP .Add) yF:=OpR.mono (OpR.or (OpR.or YE EV)<|OpR.or UR Q9) <| by
 rintro x y H Q ⟨A,dx,G,d,U,N,M,e,q⟩;cases dx with
 |int i=>
  cases G with
  |int j=>cases e;have:=N.int_inv;subst this;have:=M.int_inv;subst this;exact .inl<|.inl {i,j,rfl,rfl,q _ H (Ext.refl _ _)<|.int _}
  |_=>exact nn e
 |str i=>
  cases G with
  |str j=>
   simp only[yF]at e;by_cases B:a9 (i.length+j.length)=ca
   .rw[ci B]at e;cases e;have:=N.str_inv;subst this;have:=M.str_inv;subst this
    exact .inl<|.inr {i,j,rfl,rfl,iG B,q _ H (Ext.refl _ _)<|.str _}
   .rw[cj B]at e;cases e
  |_=>exact nn e
 |lst l=>
  cases G with
  |lst m=>
   simp only[yF]at e;by_cases B:a9 (l.length+m.length)=ca
   .rw[ci B]at e;cases e
    obtain⟨a,xs,rfl,h1,r1⟩:=N.lst_inv;obtain⟨b,ys,rfl,h2,r2⟩:=M.lst_inv;exact .inr<|.inl {a,b,xs,ys,rfl,rfl,h1,h2,by rw[r1.length,r2.length];exact iG B,λp F=>q _ _ (Ext.new F)<|.lst (λz=>U p z F) (.inl aJ)<|(r1.append r2).ext (Ext.new F)}
   .rw[cj B]at e;cases e
  |_=>exact nn e
 |tup l=>
  cases l with
  |nil=>cases G <;> exact nn e
  |cons a0 l=>
   cases G with
   |tup m=>
    simp only[yF]at e;by_cases B:a9 (l.length+1+m.length)=ca
    .rw[ci B]at e;cases e
     obtain⟨a,xs,rfl,h1,r1⟩:=N.tup_inv;obtain⟨b,ys,rfl,h2,r2⟩:=M.tup_inv;refine .inr<|.inr {a,b,xs,ys,rfl,rfl,.inl<|.inl h1,.inl<|.inl h2,λz=>(by have:=r1.nil_iff.mp z;cases this),by rw[r1.length,r2.length];exact iG B,λz=>?_,λ_ p F=>q _ _ (Ext.new F)<|.tup aJ<|(r1.append r2).ext (Ext.new F)};refine q _ H (Ext.refl _ _)<|.tup h1 ?_;have:=r2.nil_iff.mp z;subst this;rw[zbL];exact r1
    .rw[cj B]at e;cases e
   |_=>exact nn e
 |_=>exact nn e
noncomputable def kD:List D->Option (List Int)
 |[]=>bw []
 |.int i::ds=>(kD ds).map (i::·)
 |_=>bz
theorem gU:∀ {ds:List D} {ns:List Int} {vs:List V},kD ds=bw ns->RepL A H ds vs->vs=ns.map V.int
 |[],ns,vs,h,r=>by cases h;cases r;rfl
 |.int i::ds,ns,vs,h,r=>by
  obtain⟨ms,h1,rfl⟩:=map_some h;cases r with
  |cons r rs=>cases r;rw[gU h1 rs];rfl
def VI:D->D->Option D
 |.int i,.int j=>bw<|.bl<|decide (i<j)
 |.tup l,.tup m=>(kD l).bind λns=>(kD m).map λms=>.bl<|HT.lexLt ns ms
 |_,_=>bz
def ZJ(G:X.A.units<cLine):mT X (zaA .Lt) VI:=OpR.mono (OpR.or qt<|ZL G) <| by
 rintro x y H Q ⟨A,dx,z,d,U,F,B,e,q⟩;cases dx with
 |int i=>
  cases z with
  |int j=>cases e;have:=F.int_inv;subst this;have:=B.int_inv;subst this;exact .inl {i,j,rfl,rfl,q _ H (Ext.refl _ _)<|.bl _}
  |_=>exact nn e
 |tup l=>
  cases z with
  |tup m=>
   obtain⟨ns,M,e⟩:=bind_some e;obtain⟨ms,N,rfl⟩:=map_some e;obtain⟨a,xs,rfl,h1,r1⟩:=F.tup_inv;obtain⟨b,ys,rfl,h2,r2⟩:=B.tup_inv;have:=gU M r1;subst this;have:=gU N r2;subst this;exact .inr {a,b,ns,ms,rfl,rfl,.inl<|.inl h1,.inl<|.inl h2,q _ H (Ext.refl _ _)<|.bl _}
  |_=>exact nn e
 |_=>exact nn e
open Classical in
def U0(x y:D):Option Bool:=match y with
 |.dK _=>(pP y x).map (·.isSome)
 |.dT _=>(pP y x).map (·.isSome)
 |.lst l=>if fX x=ca/\l.all fX=ca then bw (l.any λd=>decide (d=x))else bz
 |.tup l=>if fX x=ca/\l.all fX=ca then bw (l.any λd=>decide (d=x))else bz
 |_=>bz
def zW(x y:D):Option D:=(U0 x y).map λb=>.bl<|!b
open Classical in
def B1(I:Inv X pins σ H s)(hu:Ar.units+60<cLine)(kx:fX x=ca)(rx:RepB A H x v)(ru:RelV v u)(kl:l.all fX=ca)(rl:RepL A H l xs)(rv:Vals xs B) :
  ∃f:Value->Bool,(∀y∈B,zc7 Ar s y u<|f y)/\B.any f=l.any λd=>decide (d=x):=by
 obtain⟨F,G,a2,a3⟩:=lZ kx;have Y:My.Rep X.K H F v:=iY G rx;let g:Value->Bool:=λy=>decide (∃w z,RelV w y/\My.Rep X.K H z w/\z=F)
 have one:∀ {d:D} {w:V} {y:Value},fX d=ca->Rep A H d w->RelV w y->g y=decide (d=x)/\zc7 Ar s y u (g y):=by
  intro d w y kd rd W;obtain⟨z,U,b2,b3⟩:=lZ kd;have M:My.Rep X.K H z w:=tI U rd;have e:g y=decide (z=F):=by
   refine decide_eq_decide.mpr {λ⟨w',z',q1,q2,q3⟩=>?_,λe=>{w,z,W,M,e}};have:=RelV.inj W q1;subst this;rw[My.Rep.inj I _ _ _ M q2,q3]
  have N:decide (z=F)=decide (d=x):=decide_eq_decide.mpr {λq=>pL U<|q ▸ G,λq=>by subst q;rw[U]at G;exact zaz G};refine{e.trans N,?_};rw[e];exact My.sQ I 60 Ar z F w v y u b3 hu b2 a2 M Y W ru
 refine{g,?_,?_}
 .intro y hy
  obtain⟨j,hj⟩:=List.mem_iff_getElem?.mp hy;have ad:=rv.length;have am:j<B.length:=(List.getElem?_eq_some_iff.mp hj).1;have hx:xs[j]?=bw (xs[j]'(by lia)):=zaG (by lia);obtain⟨u',e1,r1⟩:=rv.get hx;rw[hj]at e1;cases e1;obtain⟨d,N,r2⟩:=rl.get hx;exact(one (List.all_eq_true.mp kl _<|zap N) r2 r1).2
 .have all:∀(l:List D) (xs:List V) (B:List Value),l.all fX=ca->RepL A H l xs->Vals xs B->B.any g=l.any λd=>decide (d=x):=by
   intro l;induction l with
   |nil=>intro xs B _ r v;cases r;cases v;rfl
   |cons d l ih=>
    intro xs B k r v;cases r with
    |cons h t=>
     cases v with
     |cons r rs=>
      rw[List.all_cons,zaS]at k;rw[zcg,zcg,(one k.1 h r).1,ih _ _ k.2 t rs]
  exact all l xs B kl rl rv
open Classical in
def R9(I:Inv X pins σ H s)(hu:Ar.units+60<cLine)(kx:fX x=ca)(rx:RepB A H x v)(ru:RelV v u)(kl:l.all fX=ca)(rl:RepL A H l xs)(rv:Vals xs its) :
  ∃f:Value->Bool,(∀y∈its,zc7 Ar s y u<|f y)/\∀(j:Nat) (d:D) (y:Value),l[j]?=bw d->its[j]?=bw y->f y=decide (d=x):=by
 obtain⟨F,M,a2,a3⟩:=lZ kx;have aa:My.Rep X.K H F v:=iY M rx;let g:Value->Bool:=λy=>decide (∃w z,RelV w y/\My.Rep X.K H z w/\z=F)
 have one:∀ {d:D} {w:V} {y:Value},fX d=ca->Rep A H d w->RelV w y->g y=decide (d=x)/\zc7 Ar s y u (g y):=by
  intro d w y kd rd Y;obtain⟨z,W,b2,b3⟩:=lZ kd;have U:My.Rep X.K H z w:=tI W rd;have e:g y=decide (z=F):=by
   refine decide_eq_decide.mpr {λ⟨w',z',q1,q2,q3⟩=>?_,λe=>{w,z,Y,U,e}};have:=RelV.inj Y q1;subst this;rw[My.Rep.inj I _ _ _ U q2,q3]
  have B:decide (z=F)=decide (d=x):=decide_eq_decide.mpr {λq=>pL W<|q ▸ M,λq=>by subst q;rw[W]at M;exact zaz M};refine{e.trans B,?_};rw[e];exact My.sQ I 60 Ar z F w v y u b3 hu b2 a2 U aa Y ru
 refine{g,?_,?_}
 .intro y N
  obtain⟨j,hj⟩:=List.mem_iff_getElem?.mp N;have ad:=rv.length;have al:j<its.length:=(List.getElem?_eq_some_iff.mp hj).1;have hx:xs[j]?=bw (xs[j]'(by lia)):=zaG (by lia);obtain⟨u',G,r1⟩:=rv.get hx;rw[hj]at G;cases G;obtain⟨d,B,r2⟩:=rl.get hx;exact(one (List.all_eq_true.mp kl _<|zap B) r2 r1).2
 .intro j d y hd N
  obtain⟨w,G,r1⟩:=rl.get' hd;obtain⟨u',B,r2⟩:=rv.get G;rw[N]at B;cases B;exact(one (List.all_eq_true.mp kl _<|zap hd) r1 r2).1
set_option tactic.hygienic true in
def LU(hu:X.A.units+64<cLine):mT X (zaA .NotIn) zW:=by
 intro pins s σ H x y v u Q I M N h;obtain⟨A,dx,dy,d,lv,Y,W,e,q⟩:=h;obtain⟨b,z,rfl⟩:=map_some e;have fin:∀k,k=(!b)->EP X pins σ Q (.bool k) s:=λk hk=>{.bl<|!b,H,I,by rw[hk];rfl,q _ H (Ext.refl _ _)<|.bl _}
 have aa:X.A.units+1<cLine:=by lia
 have dict:∀o,pP dy dx=bw o->o.isSome=b->wpAny (model X.prog X.w) X.A (zaA .NotIn v u) (EP X pins σ Q) X.xe s:=λo F B=>by
  obtain⟨a,ov,rfl,_,g,e3⟩:=u9 F W Y;cases N;refine UC aa I g M λs' I'=>{.bl<|!b,H,I',?_,q _ H (Ext.refl _ _)<|.bl _}
  have:ov.isSome=b:=by rw[<- B];rcases e3 with⟨rfl,rfl⟩|⟨_,_,rfl,rfl,_⟩ <;> rfl
  rw[this];rfl
 cases dy with
 |dK l=>obtain⟨o,F,B⟩:=map_some z;exact dict o F B
 |dT l=>obtain⟨o,F,B⟩:=map_some z;exact dict o F B
 |lst l=>
  simp only[U0]at z;split at z
  case isFalse=>cases z
  rename_i hc;cases z;obtain⟨a,xs,rfl,h1,r1⟩:=W.lst_inv;cases N;obtain⟨U,r,G,hz⟩:=I.list<|.inl h1;obtain⟨f,f1,f2⟩:=B1 (Ar:=X.A.in1) I (by show X.A.units+1+60<cLine;lia) hc.1 Y M hc.2 r1 r;refine SeqAt.notIn_listAt f (My.PlainL.isList G) (λw hw=>f1 w<|by simpa using hw)<|fin _ ?_;rw[<- f2];simp
 |tup l=>
  simp only[U0]at z;split at z
  case isFalse=>cases z
  rename_i hc;cases z;obtain⟨a,xs,rfl,h1,r1⟩:=W.tup_inv;cases N;obtain⟨U,r,G,hz⟩:=I.tuple<|.inl<|.inl h1;obtain⟨f,f1,f2⟩:=B1 (Ar:=X.A.in1) I (by show X.A.units+1+60<cLine;lia) hc.1 Y M hc.2 r1 r;refine SeqAt.notIn_tupleAt f G (λw hw=>f1 w<|by simpa using hw)<|fin _ ?_;rw[<- f2];simp
 |_=>cases z
def hZ:List D->Option D
 |[.lst l]=>bw<|.int l.length
 |[.tup l]=>bw<|.int l.length
 |[.str z]=>if a9 z.length then bw (.int z.length)else bz
 |[.dK l]=>bw<|.int l.length
 |_=>bz
def YF:l9 X (.builtin "len") hZ:=by
 intro pins s σ H xs G Q I r h;obtain⟨A,ds,d,Y,B,e,q⟩:=h
 match ds,B,e with
 |[.lst l],B,e=>
  cases e;obtain⟨v,rfl,h1⟩:=B.one;obtain⟨a,xs,rfl,h2,r2⟩:=h1.lst_inv;exact vA pins s σ H _ G Q I r {_,_,rfl,.inl {xs,.inl h2,rfl},by rw[r2.length];exact q _ H (Ext.refl _ _)<|.int _}
 |[.tup l],B,e=>
  cases e;obtain⟨v,rfl,h1⟩:=B.one;obtain⟨a,xs,rfl,h2,r2⟩:=h1.tup_inv;exact vA pins s σ H _ G Q I r {_,_,rfl,.inr {xs,.inl<|.inl h2,rfl},by rw[r2.length];exact q _ H (Ext.refl _ _)<|.int _}
 |[.str z],B,e=>
  simp only[hZ]at e;by_cases F:a9 z.length=ca
  .rw[ci F]at e;cases e
   obtain⟨v,rfl,h1⟩:=B.one;have:=h1.str_inv;subst this;exact vA pins s σ H _ G Q I r {_,_,rfl,{iG F,rfl},q _ H (Ext.refl _ _)<|.int _}
  .rw[cj F]at e;cases e
 |[.dK l],B,e=>
  cases e;obtain⟨v,rfl,h1⟩:=B.one;obtain⟨a,xs,rfl,h2,W,r2⟩:=h1.dK_inv;obtain⟨u,rfl,N⟩:=vals1 r;cases N;have M:xs.length=l.length:=by have:=congrArg zbq W;simpa using this
  exact qal I h2 λt s' U=>{.int xs.length,H,U,{t,rfl},by rw[M];exact q _ H (Ext.refl _ _)<|.int _}
 |[],_,e=>cases e
 |[.non],_,e=>cases e
 |[.bl _],_,e=>cases e
 |[.int _],_,e=>cases e
 |[.dT _],_,e=>cases e
 |_::_::_,_,e=>simp[hZ]at e
noncomputable def C7:List D->Option D
 |[.int i,.int j]=>bw<|.int<|if j<i then j else i
 |_=>bz
noncomputable def yI:List D->Option D
 |[.int i,.int j]=>bw<|.int<|if j>i then j else i
 |_=>bz
def CC{ds:List D}{g:Int->Int->D}(h:(match ds with|[.int i,.int j]=>bw (g i j)|_=>bz)=bw d):∃i j,ds=[.int i,.int j]/\d=g i j:=by
 split at h
 .cases h;exact{_,_,rfl,rfl}
 .cases h
def S6(z:X.calm=ca):l9 X (.builtin "min") C7:=CallR.mono (K4 z) <| by
 rintro xs H Q ⟨A,ds,d,B,r,e,q⟩;obtain⟨i,j,rfl,rfl⟩:=CC (g:=λi j=>.int<|if j<i then j else i) e;obtain⟨v,w,rfl,h1,h2⟩:=r.two;have:=h1.int_inv;subst this;have:=h2.int_inv;subst this;exact{i,j,rfl,q _ H (Ext.refl _ _)<|.int _}
def TZ(z:X.calm=ca):l9 X (.builtin "max") yI:=CallR.mono (JO z) <| by
 rintro xs H Q ⟨A,ds,d,B,r,e,q⟩;obtain⟨i,j,rfl,rfl⟩:=CC (g:=λi j=>.int<|if j>i then j else i) e;obtain⟨v,w,rfl,h1,h2⟩:=r.two;have:=h1.int_inv;subst this;have:=h2.int_inv;subst this;exact{i,j,rfl,q _ H (Ext.refl _ _)<|.int _}
noncomputable def lX:List D->Option D
 |[.lst l]=>bw<|.tup l
 |[.tup l]=>bw<|.tup l
 |_=>bz
noncomputable def IP:List D->Option D
 |[.lst l]=>bw<|.lst l
 |[.tup l]=>bw<|.lst l
 |_=>bz
def GI{ds:List D}{g:List D->D}(h:(match ds with|[.lst l]=>bw (g l)|[.tup l]=>bw (g l)|_=>bz)=bw d):∃l,(ds=[.lst l]\/ds=[.tup l])/\d=g l:=by
 split at h
 .cases h;exact{_,.inl rfl,rfl}
 .cases h;exact{_,.inr rfl,rfl}
 .cases h
def lU:l9 X (.type "tuple") lX:=CallR.mono wM <| by
 rintro xs H Q ⟨A,ds,d,F,r,e,q⟩;obtain⟨l,B,rfl⟩:=GI (g:=.tup) e;rcases B with rfl|rfl
 .obtain⟨v,rfl,h1⟩:=r.one
  obtain⟨a,xs,rfl,h2,r2⟩:=h1.lst_inv;exact{a,xs,rfl,.inl {.inl h2,λp z=>q _ _ (Ext.new z)<|.tup aJ<|r2.ext<|Ext.new z}}
 .obtain⟨v,rfl,h1⟩:=r.one
  obtain⟨a,xs,rfl,h2,r2⟩:=h1.tup_inv;exact{a,xs,rfl,.inr {.inl<|.inl h2,q _ H (Ext.refl _ _)<|.tup h2 r2}}
def UT:ID X (.type "list") IP:=CallR.mono yS <| by
 rintro xs H Q ⟨A,ds,d,F,r,e,q⟩;obtain⟨l,G,rfl⟩:=GI (g:=.lst) e;rcases G with rfl|rfl
 .obtain⟨v,rfl,h1⟩:=r.one
  obtain⟨a,xs,rfl,h2,r2⟩:=h1.lst_inv;exact{a,xs,rfl,.inl<|.inl h2,λp B=>q p _ (Ext.new B) B (λz=>F p z B)<|.lst aJ<|r2.fresh B}
 .obtain⟨v,rfl,h1⟩:=r.one
  obtain⟨a,xs,rfl,h2,r2⟩:=h1.tup_inv;exact{a,xs,rfl,.inr<|.inl<|.inl h2,λp B=>q p _ (Ext.new B) B (λz=>F p z B)<|.lst aJ<|r2.fresh B}
end
section
variable {X:Cx}{O:List Nat}
def tyN:D->String
 |.non => "NoneType" | .bl _ => "bool" | .int _ => "int" | .str _ => "str" | .tup _ => "tuple" | .lst _ => "list" | .dK _ => "dict" | .dT _ => "dict" | .ob _ _ => "" | .mem _ _ => ""
def wH:D->Bool
 |.ob _ _=>cf | .mem _ _=>cf|_=>ca
def qb7(K:zae):List V->Hp->VK->Prop:=λxs H Q=>∃A d x n b,xs=[x,.ty n]/\wH d=ca/\RepB A H d x/\zdw K (.type<|tyN d) (.type n)=bw b/\Q (.bl b) H
def OB:CallR X (.builtin "isinstance")<|qb7 X.K:=by
 intro pins s σ H xs M Q I r h;obtain⟨A,d,x,n,b,rfl,G,B,e,q⟩:=h;have F:∀t,TyOf X.K H x t->t=.type (tyN d)->wpAny (model X.prog X.w) X.A (call (.builtin "isinstance") M) (EP X pins σ Q) X.xe s:=λt N W=>by
  subst W;exact My.N8 pins s σ H _ M Q I r {x,n,_,b,rfl,N,e,q}
 cases d with
 |non=>have:=B.non_inv;subst this;exact F _ .non rfl
 |bl c=>have:=B.bl_inv;subst this;exact F _ (.bl c) rfl
 |int c=>have:=B.int_inv;subst this;exact F _ (.int c) rfl
 |str c=>have:=B.str_inv;subst this;exact F _ (.str c) rfl
 |tup l=>obtain⟨a,xs,rfl,h1,_⟩:=B.tup_inv;exact F _ (.tup h1) rfl
 |lst l=>
  obtain⟨a,xs,rfl,h1,_⟩:=B.lst_inv;rcases h1 with h1|⟨o,h1⟩
  .exact F _ (.lst h1) rfl
  .exact F _ (.frz h1) rfl
 |dK l=>
  obtain⟨a,xs,rfl,h1,_⟩:=B.dK_inv;obtain⟨u,U,rfl,r1,r2⟩:=vals2 r;cases r1;cases r2;obtain⟨_,_,vs,_,p⟩:=(show ObjOk X.prog X.w H s.heap a (.dK xs)from h1.ok I.hok);obtain⟨o,es,ep,h1,h2,_⟩:=p;exact zbp zdx I.kIn {o,h1,h2.1} e (λz=>nomatch z) λtk=>{.bl b,H,I.tok tk,rfl,q}
 |dT l=>
  obtain⟨a,xs,rfl,h1,_⟩:=B.dT_inv;obtain⟨u,U,rfl,r1,r2⟩:=vals2 r;cases r1;cases r2;obtain⟨_,_,xs,_,o,es,ep,h1,h2,_⟩:=(show ObjOk X.prog X.w H s.heap a (.dT xs)from h1.ok I.hok);exact zbp zdx I.kIn {o,h1,h2.1} e (λz=>nomatch z) λtk=>{.bl b,H,I.tok tk,rfl,q}
 |ob _ _=>cases G
 |mem _ _=>cases G
noncomputable def FT(n:String)(d:D):Bool:=match d with
 |.non=>cf
 |.bl _=>n == "bool" || n == "int"
 |.int _=>n == "int"
 |.str _=>n == "str"
 |.tup _=>n == "tuple"
 |.lst _=>n == "list"
 |.dK _=>n == "dict"
 |.dT _=>n == "dict"
 |_=>cf
def Kit(n:String):Prop:=∀(K:zae) (d:D),wH d=ca->zdw K (.type<|tyN d) (.type n)=bw (FT n d)
def RH:Kit "int" := λK d h=>by cases d <;> first|rfl|cases h
def MO:Kit "bool" := λK d h=>by cases d <;> first|rfl|cases h
def VE(n:String)(f:Ev):Ev:=λρ=>(f ρ).bind λd=>if wH d=ca then bw (.bl<|FT n d)else bz
def PQ(G:Kit n)(N:Gl X "isinstance")(Y:X.mg "isinstance" = bz)(B:Gl X x)(F:X.mg x=bz)(hb:zaI x=bw (.type n))(W:PB X O e f)(z:x ≠ "__name__" := by decide)(hd:(x == ("__debug__" : Str))=cf:=by decide)
  (h1:zag [e,.Name x p2] X.env=(cf,eval e X.env)::zag [.Name x p2] X.env:=by rfl) (h2:(zaJ pos<|zag [.Name x p2] X.env).any (·.1)=cf:=by rfl) (M:zag [.Name x p2] X.env=(cf,eval (.Name x p2) X.env)::zag [] X.env:=by rfl) :
  PD X O (.Call (.Name "isinstance" p) [e,.Name x p2] [] pos) (VE n f):=
 PE.mono (BQ OB N Y My.boot_isinstance (cR W (cR (RZ (v:=.ty n) B F hb rfl z hd) fK M) h1) (by decide) (by decide) h1 h2) <| by
  rintro σ H Q ⟨H0,A0,A,E,ρ,d,st,e,q⟩;obtain⟨x,ex,e⟩:=bind_some e;by_cases z:wH x=ca
  .rw[ci z]at e
   cases e;exact{H0,A0,A,E,ρ,x,st,ex,λv H1 U r1=>{A,x,v,n,_,rfl,z,r1,G _ _ z,q _ H1 U<|.bl _}}
  .rw[cj z]at e;cases e
def ins{α:Type}(p:List Int×α):List (List Int×α)->List (List Int×α)
 |[]=>[p]
 |q::r=>if HT.lexLt p.1 q.1=ca then p::q::r else q::ins p r
noncomputable def VQ(g:D->Option D)(f:Ev):Ev:=λρ=>(f ρ).bind g
end
def sH:D->Option Int->Option Int->Option D
 |.tup l,lo,hi=>bw<|.tup<|cutD l lo hi
 |.lst l,lo,hi=>bw<|.lst<|cutD l lo hi
 |_,_,_=>bz
def qck:SlR X<|rS sH:=SlR.mono (SlR.or qca<|SlR.mono qbT λx lo hi H Q (h:rS qa5 x lo hi H Q)=>by
  obtain⟨A,dx,d,z,B,e,q⟩:=h;exact{A,dx,d,z,B,e,λa H' x n F o=>q _ H' x<|(o.av (A':=A) λb G=>.inl<|.inl G).rep F}) λx lo hi H Q ⟨A,dx,d,z,B,e,q⟩=>by
 cases dx with
 |tup l=>exact .inl {A,_,d,z,B,e,q}
 |lst l=>exact .inr {A,_,d,z,B,e,q}
 |_=>exact nn e
section
variable {ρ:dH}{f g:Ev}{d x y:D}{i j:Int}{k:Nat}
@[simp] theorem q_seq{f g:Sv}:dR f g ρ=(f ρ).bind λo=>match o with | .nx ρ'=>g ρ'|o=>bw o:=rfl
@[simp] theorem q_set:eO k f ρ=(f ρ).map λd=>.nx<|ρ.set k<|bw d:=rfl
@[simp] theorem q_if{c:Bv}{f g:Sv}:DO c f g ρ=(c ρ).bind λb=>if b=ca then f ρ else g ρ:=rfl
@[simp] theorem q_rt:LJ f ρ=(f ρ).map .rt:=rfl
@[simp] theorem q_nx:VG ρ=bw (.nx ρ):=rfl
@[simp] theorem q_bad:U4 ρ=bz:=rfl
@[simp] theorem q_asg{g:Gv}:VB f g ρ=(f ρ).bind λd=>(g d ρ).map .nx:=rfl
@[simp] theorem q_for{f:Lv}{g:Gv}{b:Sv}:DI f g b ρ=(f ρ).bind λitems=>mE g b items ρ:=rfl
@[simp] theorem q_app:K6 k f ρ=(aD k ρ).bind λx=>match x with
 |.lst l=>(f ρ).bind λd=>if a9 l.length then bw (.nx<|ρ.set k<|bw<|.lst<|l++[d])else bz
 |_=>bz:=rfl
@[simp] theorem q_put:FZ k f g ρ=(g ρ).bind λe=>(aD k ρ).bind λx=>(f ρ).bind λq=>(nQ x q e).map λd=>.nx<|ρ.set k<|bw d:=rfl
@[simp] theorem q_var:aD k ρ=(ρ[k]?).join:=rfl
@[simp] theorem q_c:eC d ρ=bw d:=rfl
@[simp] theorem q_op:bF o f g ρ=(f ρ).bind λx=>(g ρ).bind λy=>o x y:=rfl
@[simp] theorem q_call:aR F l ρ=(l ρ).bind F:=rfl
@[simp] theorem q_lnil:aX ρ=bw []:=rfl
@[simp] theorem q_lcons:aC f l ρ=(f ρ).bind λx=>(l ρ).bind λxs=>bw<|x::xs:=rfl
@[simp] theorem q_tup:fQ l ρ=(l ρ).map .tup:=rfl
@[simp] theorem q_lst:QM l ρ=(l ρ).map .lst:=rfl
@[simp] theorem q_bind:VQ o f ρ=(f ρ).bind o:=rfl
@[simp] theorem q_bof:sA f ρ=(f ρ).bind VM:=rfl
@[simp] theorem q_asB:VM (.bl b)=bw b:=rfl
@[simp] theorem q_asI:Z6 (.int i)=bw i:=rfl
@[simp] theorem q_bnot:QV c ρ=(c ρ).map (!·):=rfl
@[simp] theorem q_band:LG a b ρ=(a ρ).bind λx=>if x=ca then b ρ else bw cf:=rfl
@[simp] theorem q_bor:WE a b ρ=(a ρ).bind λx=>if x=ca then bw ca else b ρ:=rfl
@[simp] theorem q_and:QU f g ρ=(f ρ).bind λx=>(VM x).bind λb=>if b=ca then g ρ else bw<|.bl cf:=rfl
@[simp] theorem q_not:qa2 f ρ=(f ρ).bind λx=>(VM x).map λb=>.bl<|!b:=rfl
@[simp] theorem q_neg:ZQ f ρ=(f ρ).bind λd=>(Z6 d).map λi=>.int<|-i:=rfl
@[simp] theorem q_ifx:eIf c f g ρ=(c ρ).bind λb=>if b=ca then f ρ else g ρ:=rfl
@[simp] theorem q_isi:VE n f ρ=(f ρ).bind λd=>if wH d=ca then bw (.bl<|FT n d)else bz:=rfl
@[simp] theorem no_int:wH (.int i)=ca:=rfl
@[simp] theorem no_tup{l:List D}:wH (.tup l)=ca:=rfl
@[simp] theorem no_lst{l:List D}:wH (.lst l)=ca:=rfl
@[simp] theorem no_bl{b:Bool}:wH (.bl b)=ca:=rfl
@[simp] theorem no_str{x:Str}:wH (.str x)=ca:=rfl
@[simp] theorem no_non:wH .non=ca:=rfl
@[simp] theorem q_sl:Z9 o f a b ρ=(f ρ).bind λx=>(a ρ).bind λlo=>(b ρ).bind λhi=>o x lo hi:=rfl
@[simp] theorem q_oN:IQ ρ=bw bz:=rfl
@[simp] theorem q_oS:yB f ρ=(f ρ).bind λd=>(Z6 d).map bw:=rfl
@[simp] theorem q_lR:lR o l ρ=(l ρ).bind o:=rfl
@[simp] theorem q_lSeq:QT f ρ=(f ρ).bind λd=>match d with
 |.lst l=>bw l
 |.tup l=>bw l
 |.dT l=>bw<|l.map λp=>.tup<|p.1.map LB
 |_=>bz:=rfl
@[simp] theorem q_comp{ms:List (Option Nat)}{it:Lv}{g:Gv}{c:Bv}:eJ ms it g c f ρ=(it ρ).bind λitems=>if a9 items.length then(bD g c f items<|kK ms ρ).map .lst else bz:=rfl
@[simp] theorem q_yes:fP ρ=bw ca:=rfl
@[simp] theorem q_name:aQ k d ρ=bw (ρ.set k<|bw d):=rfl
@[simp] theorem q_gnil:pN [] ρ=bw ρ:=rfl
@[simp] theorem q_gcons{g:Gv}{h:WG}{ds:List D}:c7 g h (d::ds) ρ=(g d ρ).bind λρ'=>h ds ρ':=rfl
@[simp] theorem q_gtup:kJ n h (.tup l) ρ=if l.length=n then h l ρ else bz:=rfl
@[simp] theorem q_sub:ZX (.int i) (.int j)=bw (.int<|i-j):=rfl
@[simp] theorem q_addI:yF (.int i) (.int j)=bw (.int<|i+j):=rfl
@[simp] theorem q_ltI:VI (.int i) (.int j)=bw (.bl<|decide (i<j)):=rfl
@[simp] theorem q_gtI:DF (.int i) (.int j)=bw (.bl<|decide (j<i)):=rfl
@[simp] theorem q_geI:ZV (.int i) (.int j)=bw (.bl<|decide (j<=i)):=rfl
@[simp] theorem q_eqI:kQ (.int i) (.int j)=bw (.bl<|decide (i=j)):=by
 unfold kQ LM;rw[ci<|.inl rfl];simp
@[simp] theorem q_neI:AK (.int i) (.int j)=bw (.bl<|!decide (i=j)):=by
 unfold AK LM;rw[ci<|.inl rfl];simp
@[simp] theorem q_eqB:kQ (.bl a) (.bl b)=bw (.bl<|decide (a=b)):=by
 unfold kQ LM;rw[ci<|.inl rfl];simp
@[simp] theorem q_neB:AK (.bl a) (.bl b)=bw (.bl<|!decide (a=b)):=by
 unfold AK LM;rw[ci<|.inl rfl];simp
def bU(h:0<j):dZ (.int i) (.int j)=bw (.int<|i%j):=ci h
def i5(h:0<j)(h2:j<1073741824):i7 (.int i) (.int j)=bw (.int<|i/j):=ci {h,h2}
def qa0(h:My.FR i j):IB (.int i) (.int j)=bw (.int<|i*j):=ci h
def IN(h:0<=j)(h2:j<=1000000)(z:i.natAbs<2^64):QX (.int i) (.int j)=bw (.int<|i^j.toNat):=ci {h,h2,z}
@[simp] theorem q_isN:Z1 d .non=bw (.bl<|iI d):=rfl
@[simp] theorem q_notN:IU d .non=bw (.bl<|!iI d):=rfl
@[simp] theorem q_lenL:hZ [.lst l]=bw (.int l.length):=rfl
@[simp] theorem q_lenT:hZ [.tup l]=bw (.int l.length):=rfl
@[simp] theorem q_min:C7 [.int i,.int j]=bw (.int<|if j<i then j else i):=rfl
@[simp] theorem q_max:yI [.int i,.int j]=bw (.int<|if j>i then j else i):=rfl
@[simp] theorem q_tuL:lX [.lst l]=bw (.tup l):=rfl
@[simp] theorem q_tuT:lX [.tup l]=bw (.tup l):=rfl
@[simp] theorem q_liL:IP [.lst l]=bw (.lst l):=rfl
@[simp] theorem q_liT:IP [.tup l]=bw (.lst l):=rfl
@[simp] theorem q_slT{l:List D}{lo hi:Option Int}:sH (.tup l) lo hi=bw (.tup<|cutD l lo hi):=rfl
@[simp] theorem q_slL{l:List D}{lo hi:Option Int}:sH (.lst l) lo hi=bw (.lst<|cutD l lo hi):=rfl
@[simp] theorem q_itL:aL (.lst l) (.int i)=hW l i:=rfl
@[simp] theorem q_itT:aL (.tup l) (.int i)=hW l i:=rfl
@[simp] theorem q_itD:aL (.dT l) d=(pP (.dT l) d).join:=rfl
@[simp] theorem isi_int_int:FT "int" (.int i)=ca:=rfl
@[simp] theorem isi_bool_int:FT "bool" (.int i)=cf:=rfl
@[simp] theorem isi_tuple_tup:FT "tuple" (.tup l)=ca:=rfl
@[simp] theorem isi_list_lst:FT "list" (.lst l)=ca:=rfl
end
noncomputable def turn(g:Gv)(b:Sv)(x:D):Sv:=λρ=>(g x ρ).bind b
def AA(I:Nat->dH->Prop)(h0:I 0 ρ)(hs:∀i x ρ,items[i]?=bw x->I i ρ->∃ρ',turn g b x ρ=bw (.nx ρ')/\I (i+1) ρ'):∃ρ',mE g b items ρ=bw (.nx ρ')/\I items.length ρ':=by
 have M:∀(m:List D) (k:Nat) (ρ:dH),items.drop k=m->k<=items.length->I k ρ->∃ρ',mE g b m ρ=bw (.nx ρ')/\I items.length ρ':=by
  intro m;induction m with
  |nil=>
   intro k ρ e W h;have:items.length<=k:=by rw[List.drop_eq_nil_iff]at e;exact e
   have:k=items.length:=by lia
   subst this;exact{ρ,rfl,h}
  |cons x m ih=>
   intro k ρ e W h;have B:k<items.length:=by
    rcases Nat.lt_or_ge k items.length with z|z
    .exact z
    .rw[List.drop_eq_nil_iff.mpr z]at e;cases e
   rw[zdT B]at e;injection e with e1 e2
   obtain⟨ρ',h1,h2⟩:=hs k x ρ (by rw[<- e1];simp[B]) h;obtain⟨G,U,Y⟩:=ih (k+1) ρ' e2 B h2;refine{G,?_,Y};unfold turn at h1;obtain⟨F,N,z2⟩:=bind_some h1;unfold mE;rw[N];show(b F).bind _=_;rw[z2];exact U
 exact M items 0 ρ rfl (zaM _) h0
def aF(h:f (aE n ds)=bw (.rt d)):bA n f ds=bw d:=by
 unfold bA;rw[h];rfl
def aH(h:f ρ=bw (.nx ρ')):dR f g ρ=g ρ':=by
 unfold dR;rw[h];rfl
def qG(h:f ρ=bw (.rt d)):dR f g ρ=bw (.rt d):=by
 unfold dR;rw[h];rfl
def qb3(h:c ρ=bw ca):DO c f g ρ=f ρ:=by
 unfold DO;rw[h];rfl
def qbg(h:c ρ=bw cf):DO c f g ρ=g ρ:=by
 unfold DO;rw[h];rfl
def aM(h:f ρ=bw d):eO k f ρ=bw (.nx<|ρ.set k<|bw d):=by
 unfold eO;rw[h];rfl
def qbZ(h:f ρ=bw d):LJ f ρ=bw (.rt d):=by
 unfold LJ;rw[h];rfl
def f7{f:Lv}{g:Gv}{b rest:Sv}{ρ:dH}{items:List D}{out:Option Out}(B:f ρ=bw items)(I:Nat->dH->Prop)(z:I 0 ρ)(hs:∀i x ρ,items[i]?=bw x->I i ρ->∃ρ',turn g b x ρ=bw (.nx ρ')/\I (i+1) ρ')(k:∀ρ',I items.length ρ'->rest ρ'=out):dR (DI f g b) rest ρ=out:=by
 obtain⟨ρ',e,h⟩:=AA (g:=g) (b:=b) I z hs;rw[aH<|by rw[q_for,B];exact e];exact k ρ' h
open My (look put W6 qbi qaK)
noncomputable def tupI(k:List Int):D:=.tup<|k.map .int
theorem xZ:∀k:List Int,QO (k.map .int)=bw (k.map zbx)
 |[]=>rfl
 |i::k=>by rw[zaj,QO,xZ k];rfl
@[simp] theorem asT_tupI(k:List Int):WK (tupI k)=bw (k.map zbx):=xZ k
theorem BY{z:Type}{f:z->D}{g:z->My.Dx}(h:∀a,kH (f a)=bw (g a)):∀l:List z,kM (l.map f)=bw (l.map g)
 |[]=>rfl
 |a::l=>by rw[zaj,kM,h a,BY h l];rfl
def gW{ns:List Int}{k:Int}(B:0<=k)(h:k<(ns.length:Int)):∃c,hW (ns.map D.int) k=bw (.int c)/\ns[k.toNat]?=bw c:=by
 obtain⟨j,rfl⟩:∃j:Nat,k=(j:Int):={k.toNat,by lia};have z:j<ns.length:=by lia
 exact{ns[j],bY<|by simp[z],by simp[z]}
noncomputable def iH:D->Option (List D)
 |.lst l=>bw l
 |.tup l=>bw l
 |_=>bz
noncomputable def i6:List D->List D->List D
 |x::xs,y::ys=>.tup [x,y]::i6 xs ys
 |_,_=>[]
def U9(f:Lv):Lv:=λρ=>(f ρ).bind λds=>match ds with
 |[a,b]=>(iH a).bind λxs=>(iH b).map λys=>i6 xs ys
 |_=>bz
theorem BU:∀ {xs ys:List D} {i:Nat} {d:D},(i6 xs ys)[i]?=bw d->∃x y,xs[i]?=bw x/\ys[i]?=bw y/\d=.tup [x,y]
 |[],_,i,d,h=>by simp[i6]at h
 |_::_,[],i,d,h=>by simp[i6]at h
 |x::xs,y::ys,0,d,h=>by simp[i6]at h;exact{x,y,rfl,rfl,h.symm}
 |x::xs,y::ys,i+1,d,h=>BU (xs:=xs) (ys:=ys) (i:=i)<|by simpa[i6]using h
theorem BB:∀ {xs ys:List D} {i:Nat},(i6 xs ys).length<=i->xs.length<=i\/ys.length<=i
 |[],_,i,_=>.inl<|zaM _
 |_::_,[],i,_=>.inr<|zaM _
 |x::xs,y::ys,0,h=>by simp[i6]at h
 |x::xs,y::ys,i+1,h=>(BB (xs:=xs) (ys:=ys) (i:=i)<|by simpa[i6]using h).imp (λz=>by simpa using z) λz=>by simpa using z
def zL{A:Av}{H:Hp}{K:zae}{d:D}{l:List D}{v:V}(h:iH d=bw l)(r:Rep A H d v):∃t a xs,v=.ref a/\My.DK K t H a xs/\RepL A H l xs/\∀A' H',Rep A' H' d v->∃ys,My.DK K t H' a ys/\RepL A' H' l ys:=by
 cases d with
 |lst m=>
  cases h;obtain⟨a,xs,rfl,h1,r1⟩:=RepB.lst_inv<|.of r;refine{cf,a,xs,rfl,.inl h1,r1,λA' H' z=>?_};obtain⟨B,ys,e,h2,r2⟩:=RepB.lst_inv<|.of z;cases e;exact{ys,.inl h2,r2}
 |tup m=>
  cases h;obtain⟨a,xs,rfl,h1,r1⟩:=RepB.tup_inv<|.of r;refine{ca,a,xs,rfl,.inl<|.inl h1,r1,λA' H' z=>?_};obtain⟨B,ys,e,h2,r2⟩:=RepB.tup_inv<|.of z;cases e;exact{ys,.inl<|.inl h2,r2}
 |_=>exact nn h
set_option tactic.hygienic true in
def TN{X:Cx}{O:List Nat}{M:List Expr}{x1}{tp:Pos}{a b:Expr}{f:Lv}{p pos:Pos}(hg:Gl X "zip")(hm:X.mg "zip" = bz)(ha:DJ X O [a,b] f)(hs:zag [a,b] X.env=[(cf,eval a X.env),(cf,eval b X.env)]:=by rfl)(Y:zag [b] X.env=[(cf,eval b X.env)]:=by rfl) :
  PDI X O (.Tuple M x1 tp) (.Call (.Name "zip" p) [a,b] [] pos) (U9 f):=PI.mono (My.YG hg hm ha hs Y) λσ H R ⟨H0,A0,A,E,ρ,items,st,e,q⟩=>by
 obtain⟨ds,e1,e⟩:=bind_some e;refine{H0,A0,A,E,ρ,ds,st,e1,λvs H1 x1 r1=>?_};split at e
 case h_2=>cases e
 rename_i da db;obtain⟨xs,e2,e⟩:=bind_some e;obtain⟨ys,e3,rfl⟩:=map_some e;obtain⟨v,w,rfl,r2,r3⟩:=r1.two;obtain⟨t1,W,us,rfl,q1,_,k1⟩:=zL (K:=X.K) e2 r2;obtain⟨t2,U,ws,rfl,q2,_,k2⟩:=zL (K:=X.K) e3 r3;refine{t1,t2,W,U,us,ws,rfl,q1,q2,q _ H1 [.rep da<|.ref W,.rep db<|.ref U] x1 (λp hp=>?_) ?_}
 .rcases List.mem_cons.mp hp with z|z
  .rw[z];exact r2
  .rw[List.mem_singleton.mp z];exact r3
 .intro A' H' lv hE i
  have a1:Rep A' H' da<|.ref W:=hE (.rep da<|.ref W)<|zar ..;have a2:Rep A' H' db<|.ref U:=hE (.rep db<|.ref U)<|zaq _<|zar ..;obtain⟨F,g1,G⟩:=k1 A' H' a1;obtain⟨B,g2,N⟩:=k2 A' H' a2;refine{λhi=>{F,B,g1,g2,(BB hi).imp (λz=>by rw[G.length];exact z) λz=>by rw[N.length];exact z},λd hd=>?_};obtain⟨x,y,ex,ey,rfl⟩:=BU hd;obtain⟨u,eu,ru⟩:=G.get' ex;obtain⟨w,ew,ab⟩:=N.get' ey;refine{{F,B,g1,g2,(List.getElem?_eq_some_iff.mp eu).1,(List.getElem?_eq_some_iff.mp ew).1},λx' H2 ⟨p,u',w',e4,n,e5,e6⟩=>?_};subst e4 e5;obtain⟨z1,z2⟩:=e6 F B g1 g2;rw[eu]at z1;cases z1;rw[ew]at z2;cases z2;exact{Ext.new n,.tup aJ<|.cons (ru.ext<|Ext.new n)<|.cons (ab.ext<|Ext.new n) .nil}
@[simp] theorem q_zip:U9 f ρ=(f ρ).bind λds=>match ds with
 |[a,b]=>(iH a).bind λxs=>(iH b).map λys=>i6 xs ys
 |_=>bz:=rfl
@[simp] theorem q_seqL:iH (.lst l)=bw l:=rfl
@[simp] theorem q_seqT:iH (.tup l)=bw l:=rfl
theorem FD(h1:-A<a)(h2:a<A)(G:-B<b)(F:b<B):-(A*B)<a*b/\a*b<A*B:=by
 have e:(a*b).natAbs<(A*B).natAbs:=by
  rw[Int.natAbs_mul,Int.natAbs_mul];exact Nat.mul_lt_mul_of_lt_of_le (by lia) (by lia)<|by lia
 have z:0<=A*B:=zdd (by lia)<|by lia
 lia
end P
namespace P
def JB(vs:List Int):fX (.lst<|vs.map .int)=ca/\fX (.tup<|vs.map .int)=ca:=by
 have e:kM (vs.map D.int)=bw (vs.map My.Dx.int):=BY (g:=My.Dx.int) (λ_=>rfl) vs;have n:=My.UU vs;have d:=My.MY vs;constructor
 .unfold fX
  rw[kH,e];show(My.Dx.nb _ && decide (My.Dx.dep _<=60))=ca;rw[My.Dx.nb,My.Dx.dep,n,Bool.true_and];exact decide_eq_true<|by lia
 .unfold fX
  rw[kH,e];show(My.Dx.nb _ && decide (My.Dx.dep _<=60))=ca;rw[My.Dx.nb,My.Dx.dep,n,Bool.true_and];exact decide_eq_true<|by lia
noncomputable def pick{α:Type}(l:List α)(lo hi st:Option Int):List α:=(sliceRange (zbS lo hi st l.length).1 (zbS lo hi st l.length).2.1 (zbS lo hi st l.length).2.2).filterMap (l[·]?)
section
variable {X:Cx}{O:List Nat}
open Classical in
def nJ(d x:D):Option D:=match d with
 |.lst l=>if fX x=ca/\l.all fX=ca/\a9 l.length=ca then(l.findIdx? λy=>decide (y=x)).map λ(j:Nat)=>.int (j:Int)else bz
 |_=>bz
set_option tactic.hygienic true in
open Classical in
def L4(hu:X.A.units+64<cLine):MtM X "list.index" λv vs H Q=>∃A d x y d',vs=[y]/\Live A H/\RepB A H d v/\RepB A H x y/\nJ d x=bw d'/\∀v H',Ext A H H'->Rep A H' d' v->Q v H':=by
 intro pins s σ H v vs u us Q I rv ru h;obtain⟨A,d,x,y,d',rfl,lv,rd,rx,e,q⟩:=h;obtain⟨w,rfl,ab⟩:=ru.one;cases d with
 |lst l=>
  simp only[nJ]at e;split at e
  case isFalse=>cases e
  rename_i hc;obtain⟨j,ej,rfl⟩:=map_some e;obtain⟨a,xs,rfl,h1,r1⟩:=rd.lst_inv;cases rv;obtain⟨_,B,n,r,G,eo⟩:=Inv.lstR I h1;obtain⟨f,f1,f2⟩:=R9 (Ar:=X.A.in1) I (by show X.A.units+1+60<cLine;lia) hc.1 rx ab hc.2.1 r1 r;obtain⟨hj,U,aa⟩:=List.findIdx?_eq_some_iff_getElem.mp ej;have M:j<B.length:=by rw[<- G,r1.length];exact hj
  have hsz:=iG hc.2.2;have Y:(j:Int)<2^63-1:=by
   have:(zal:Nat)<2^62:=by decide
   lia
  refine zcL F.slot_list_index {_,eo,rfl} F.entry_list_index (F.args_list_index_2 _ _) (PySem.SeqAt.list_indexAt a B.toArray n bz #[] w f j (by simpa using M) Y ?_ ?_) {eo,λz hz=>f1 z (by simpa using hz),?_}
  .rw[f2 j _ _ (zaG hj)<|by simp[M]]
   exact U
  .intro m hm W
   have N:m<l.length:=by lia
   have ac:m<B.length:=by simpa using hm
   rw[f2 m _ _ (zaG N)<|by simp[ac]];have:=aa m W;simpa using this
  .exact{.int j,H,I.tok _,{_,rfl},q _ H (Ext.refl _ _)<|.int _}
 |_=>exact nn e
def OL(F:X.A.units+64<cLine)(M:PB X O o f)(N:PB X O e g)
  (G:∀ {r:V->List V->Hp->VK->Prop} {to:TE} {t:TA},MtR X "list.index" r->PE X o to->PA X [e] t->PE X (.Call (.Attribute o "index" apos) [e] [] cpos) (qd X.K "list" r to t)) (hs:zag [e] X.env=(cf,eval e X.env)::zag [] X.env:=by rfl) :
  PD X O (.Call (.Attribute o "index" apos) [e] [] cpos) (bF nJ f g):=PE.mono (G (L4 F) M<|cR N fK hs) λσ H Q ⟨H0,A0,A,E,ρ,d,st,e,q⟩=>by
 obtain⟨x,ex,e⟩:=bind_some e;obtain⟨y,Y,e⟩:=bind_some e;refine{H0,A0,A,E,ρ,x,st,ex,λv H1 B r1=>{?_,H0,A0,A,E,ρ,y,st.mono B,Y,λw H2 z r2=>{A,x,y,w,d,rfl,(st.mono<|B.trans z).live,r1.ext z,r2,e,λv U W r3=>q v U ((B.trans z).trans W) r3}}};cases x with
 |lst l=>obtain⟨a,xs,rfl,h1,_⟩:=r1.lst_inv;exact .inl {rfl,xs,.inl h1}
 |_=>exact nn e
end
end P
namespace My
open PySem.SeqAt
section
variable {X:Cx}
def Inv.gone(I:Inv X pins σ H s)(f:i9 X pins H C)(hs:za6 C s.heap h'):Inv X pins σ H {s with heap:=h'}:=by
 obtain⟨F,f1,f2,W,M,N⟩:=f;refine I.call' (s':={s with heap:=h'}) (ch:=[C]) rfl {λb o e n B hx=>?_,λb o e n B hx=>?_,λ_ _ _ n _=>n,λb o e hx=>?_,λ_ _ q=>q,λ_ _ _ q=>q,λ_ ps q=>{#[],by simpa using q}} ?_ I.bare λb B=>?_
 .exact(hs.2 b λz=>hx<|z ▸ List.mem_singleton.mpr rfl).trans e
 .exact{o.slots,(hs.2 b λz=>hx<|z ▸ List.mem_singleton.mpr rfl).trans e}
 .exact{o,(hs.2 b λz=>hx<|z ▸ List.mem_singleton.mpr rfl).trans e}
 .intro b U e
  refine(I.hok b U e).stay (λc Y G q=>(hs.2 c ?_).trans q) (λ_ q=>q) (λ_ _ q=>q) λ_ _ _ q=>q
  rintro rfl;rcases G with z|z
  .subst z;rw[F]at e;cases e
  .rw[F]at z;cases z
 .rw[List.mem_singleton.mp B]
  exact{W,f1,M,N}
def GT(hN:X.N.Nodup)(ac:X.N[i]?=bw x)(hx:Loc X.env.scope x)
  (hc:X.calm=ca) (F:Clo X N scope cl) (hi:PI X tg iter wi) (hg:∀C s H fp,PG (aZ X N scope cl C s H fp) tg g) (ht:∀C s H fp,F5 (aZ X N scope cl C s H fp) ifs tt) (he:∀C s H fp,PE (aZ X N scope cl C s H fp) elt te)
  (hs:∀x,zbd iter X.env x=pure x:=by intro _;rfl) (aa:zaF (.ListComp elt [{tg,iter,ifs,0}] scope pos) (bw<|.Name x pos') spos.line X.env=pure ca:=by rfl)
  (hf:X.fn x=ca\/X.env.scope.names.lookup x=bw .local:=by first|exact .inl rfl|exact .inr rfl) :
  PS X (.Assign [.Name x pos'] (.ListComp elt [{tg,iter,ifs,0}] scope pos) spos) (QN (DB wi g tt te<|Start X N scope)<|kI i):=by
 intro pins s σ H D I h;obtain⟨aq,sS,hw⟩:=h;rw[exec_Assign_Name_used _ _ _ _ aa];refine zaa<|zc3<|zaa ?_;show wpAny _ X.A (do let _ <- comprehension (.ListComp elt [{tg,iter,ifs,0}] scope pos) scope X.env _ (newList []) cf (eval iter X.env)<|bw<|zbi (.Name x pos') X.env) _ _ s;refine zaa (za7 (wpAny_comprehension_free (use:=bw<|zbi (.Name x pos') X.env) (Q:=λ_ s'=>SP X pins D .next s') rfl hs F.clos F.kind F.names
  (c8 (hi pins s σ H _ I hw) λv s1 h1=>c8 h1 λai s2 h2=>?_)) (λ_ s' hq=>zaf<|zaf hq) λ_ _ e=>e)
 obtain⟨it,fp,tn,J,H2,e,I2,T,M,f2,q2⟩:=h2;subst e;refine xO (wi:=wi) (Q:=λv H1=>kI i v σ H1 D.nx) (RR:=λacc C=>compPost (model X.prog X.w) X.A X.xe (bw<|zbi (.Name x pos') X.env) (λ_ s'=>SP X pins D .next s') acc C) hc F hg ht he I2 T M f2 sS q2 ?_
 intro s3 s5 H3 G al D1 I3 f3 U q;obtain⟨m,hn,_⟩:=id U.loc;have I6:Inv X pins σ G s5:=comp_back I3 f3 U<|Heap.SameBut.refl _ _;have W:i9 X pins G s3.heap.objs.size:=I3.fpOk (zah _) U.free;show wpAny _ X.A (zbi (.Name x pos') X.env<|.ref D1) _ _ s5;refine wpAny_assign_Name<|xJ (v:=.ref D1) I6 hN ac hx rfl (λs7 I7 ⟨a,ab,B⟩=>?_) hf;have ne:s3.heap.objs.size≠a:=λz=>by
  rcases B with B|B
  .exact W.2.1<|z.trans B
  .exact W.2.2.2.2.1 x a B z.symm
 exact{m,Heap.Ns.sameBut hn ab ne,λh' Y=>{_,G,Inv.gone I7 W Y,q}}
end
end My
namespace P
open PySem.SeqAt
section
variable {X:Cx}{O O':List Nat}{L:Lp}
def D7(M:PS X (.Assign [.Name x pos'] e pos)<|QN (tD Rep O f)<|kI i)(h:Sub O' (O.filter (· != i))=ca):kR X L O (.Assign [.Name x pos'] e pos) (eO i f) O':=
 PS.mono M <| by
  rintro T σ H ⟨H0,A0,A,E,ρ,out,st,e,p⟩;obtain⟨d,G,rfl⟩:=map_some e;refine{H0,A0,A,E,ρ,d,st,G,λv H' x r=>?_};have F:=(st.mono x).more r;obtain⟨A',B⟩:=F.shut (O':=O') λj U=>(Sub.er h U).1
  exact p A' _ H'<|(B.put (B.ext _<|zar ..) λz=>(Sub.er h z).2 rfl).less λq N=>zaq _ N
def A7(N:PS X (.Assign [.Name x pos'] e pos)<|QN (tF O f)<|kI i)(h:Sub O' (i::O)=ca)(G:O.contains i=cf):kR X L O (.Assign [.Name x pos'] e pos) (eO i f) O':=
 PS.mono N <| by
  rintro T σ H ⟨H0,A0,A,E,ρ,out,st,e,p⟩;obtain⟨d,M,rfl⟩:=map_some e;refine{H0,A0,A,E,ρ,d,st,M,λa H' x n W o=>?_};have F:i∉O:=λz=>by
   have:O.contains i=ca:=by simpa using z
   rw[G]at this;cases this
  obtain⟨U,B⟩:=(st.own_put x n W o F).shut<|Sub.mem h;exact p U _ H' B
def qap:tD Rep O f σ H Q->tF O f σ H Q:=λ⟨H0,A0,A,E,ρ,d,st,e,q⟩=>
 {H0,A0,A,E,ρ,d,st,e,λa H' x n z o=>q _ H' x<|(o.av (A':=A) λb B=>.inl<|.inl B).rep z}
def MH(hN:X.N.Nodup)(B:X.N[i]?=bw x)(hx:Loc X.env.scope x)
  (M:X.calm=ca) (Y:My.Clo X N scope cl) (F:dX X scope N ms) (G:(ms.all λo=>match o with|some i=>!O.contains i|none=>ca)=ca) (hi:PDI X O tg iter it) (hg:∀C s H fp,DL (My.aZ X N scope cl C s H fp) [] tg g)
  (W:∀C s H fp,My.F5 (My.aZ X N scope cl C s H fp) ifs<|tDT [] c) (he:∀C s H fp,PD (My.aZ X N scope cl C s H fp) [] elt f) (h:Sub O' (O.filter (· != i))=ca:=by rfl) (hs:∀x,zbd iter X.env x=pure x:=by intro _;rfl)
  (z:zaF (.ListComp elt [{tg,iter,ifs,0}] scope pos) (bw<|.Name x pos') spos.line X.env=pure ca:=by rfl) (U:X.fn x=ca\/X.env.scope.names.lookup x=bw .local:=by first|exact .inl rfl|exact .inr rfl) :
  kR X L O (.Assign [.Name x pos'] (.ListComp elt [{tg,iter,ifs,0}] scope pos) spos) (eO i<|eJ ms it g c f) O':=
 D7 (PS.mono (My.GT hN B hx M Y hi hg W he hs z U) λT σ H w=>uY F G _ _ _<|qap w) h
def KW(hN:X.N.Nodup)(B:X.N[i]?=bw x)(hx:Loc X.env.scope x)
  (U:X.calm=ca) (cc:My.Clo X N scope cl) (G:dX X scope N ms) (M:(ms.all λo=>match o with|some i=>!O.contains i|none=>ca)=ca) (hi:PDI X O tg iter it) (hg:∀C s H fp,DL (My.aZ X N scope cl C s H fp) [] tg g)
  (Y:∀C s H fp,My.F5 (My.aZ X N scope cl C s H fp) ifs<|tDT [] c) (he:∀C s H fp,PD (My.aZ X N scope cl C s H fp) [] elt f) (h:Sub O' (i::O)=ca:=by rfl) (F:O.contains i=cf:=by rfl) (hs:∀x,zbd iter X.env x=pure x:=by intro _;rfl)
  (z:zaF (.ListComp elt [{tg,iter,ifs,0}] scope pos) (bw<|.Name x pos') spos.line X.env=pure ca:=by rfl) (W:X.fn x=ca\/X.env.scope.names.lookup x=bw .local:=by first|exact .inl rfl|exact .inr rfl) :
  kR X L O (.Assign [.Name x pos'] (.ListComp elt [{tg,iter,ifs,0}] scope pos) spos) (eO i<|eJ ms it g c f) O':=
 A7 (PS.mono (My.GT hN B hx U cc hi hg Y he hs z W) λT σ H w=>uY G M _ _ _ w) h F
end
end P
namespace My
open PySem.SeqAt
def qbp(K:zae)(n:Nat)(t:WJ):TG:=λv σ H Q=>∃a xs,v=.ref a/\(SqT K H a xs\/SqL K H a xs)/\xs.length=n/\t xs σ H Q
def v7(N:X.calm=ca)(h:PGs X es t)
  (M:(za3 es X.env).length=n:=by rfl) (B:(za3 es X.env).findIdx? (·.1)=bz:=by rfl):PG X (.Tuple es k pos)<|qbp X.K n t:=by
 intro pins s σ H v u Q I r hw;obtain⟨a,xs,e1,z,G,hw⟩:=hw;subst e1;rcases z with z|z
 .exact FC N h M B pins s σ H _ u Q I r {a,xs,rfl,z,G,hw}
 .cases r
  obtain⟨F,U,ht,hz⟩:=I.list z;have hsz:(za3 es X.env).length=F.toArray.size:=by simp[M,<- G,U.length]
  rw[assign_Tuple];refine zaa<|zc3 ?_;unfold unpack;rw[hsz,B];refine zaa<|zbg<|PySem.W.kun_itemsOf (I.ok.hd N) (My.PlainL.isList ht) λh' hx=>?_;have Y:Inv X pins σ H {s with heap:=h'}:=I.kept (t':=s.toks) λb o e=>hx b o (zaE<|zao e) e
  exact h pins _ σ H xs _ Q Y (by simpa using U) hw
end My
namespace P
open PySem.SeqAt
noncomputable def v8(n:Nat)(k:WG):Gv:=λd ρ=>match d with
 |.tup l=>if l.length=n then k l ρ else bz
 |.lst l=>if l.length=n then k l ρ else bz
 |_=>bz
def pA(F:PG X tg<|My.qbp X.K n<|tDGs O k):DL X O tg<|v8 n k:=PG.mono F <| by
 rintro v σ H Q ⟨H0,A0,A,E,ρ,d,ρ',st,r,e,q⟩;cases d with
 |tup l=>
  obtain⟨a,xs,rfl,h,B⟩:=RepB.tup_inv<|.of r;by_cases z:l.length=n
  .simp only[v8,ci z]at e
   exact{a,xs,rfl,.inl<|.inl<|.inl h,by rw[B.length];exact z,H0,A0,A,E,ρ,l,ρ',st,B,e,q}
  .simp only[v8,cj z]at e;cases e
 |lst l=>
  obtain⟨a,xs,rfl,h,B⟩:=RepB.lst_inv<|.of r;by_cases z:l.length=n
  .simp only[v8,ci z]at e
   exact{a,xs,rfl,.inr<|.inl h,by rw[B.length];exact z,H0,A0,A,E,ρ,l,ρ',st,B,e,q}
  .simp only[v8,cj z]at e;cases e
 |_=>exact nn e
@[simp] theorem q_gseqT:v8 n h (.tup l) ρ=if l.length=n then h l ρ else bz:=rfl
@[simp] theorem q_gseqL:v8 n h (.lst l) ρ=if l.length=n then h l ρ else bz:=rfl
end P
namespace P
def j9{f:Lv}{g:Gv}{b rest:Sv}{ρ:dH}{items:List D}{R:D->Prop}(B:f ρ=bw items)(I:Nat->dH->Prop)(z:I 0 ρ)(hs:∀i x ρ,items[i]?=bw x->I i ρ->∃ρ',turn g b x ρ=bw (.nx ρ')/\I (i+1) ρ')(k:∀ρ',I items.length ρ'->∃d,rest ρ'=bw (.rt d)/\R d):∃d,dR (DI f g b) rest ρ=bw (.rt d)/\R d:=by
 obtain⟨ρ',e,h⟩:=AA (g:=g) (b:=b) I z hs;rw[aH<|by rw[q_for,B];exact e];exact k ρ' h
def eD{n:Nat}{ds:List D}{R:D->Prop}(h:∃d,f (aE n ds)=bw (.rt d)/\R d):∃d,bA n f ds=bw d/\R d:=by
 obtain⟨d,e,r⟩:=h;exact{d,aF e,r}
def M6(h:tupI a=tupI b):a=b:=by
 have g:∀ {a b:List Int},a.map D.int=b.map D.int->a=b:=by
  intro a;induction a with
  |nil=>intro b h;cases b with
   |nil=>rfl
   |cons _ _=>cases h
  |cons x a ih=>intro b h;cases b with
   |nil=>cases h
   |cons y b=>
    rw[zaj,zaj]at h;injection h with h1 h2
    rw[D.int.inj h1,ih h2]
 exact g<|D.tup.inj h
def HE(k:List Int):fX (tupI k)=ca:=(JB k).2
open Classical in
def KS(h:v∉as)(B:a9 (as++v::bs).length=ca):nJ (.lst<|(as++v::bs).map tupI) (tupI v)=bw (.int (as.length:Int)):=by
 unfold nJ;have a:((as++v::bs).map tupI).all fX=ca:=List.all_eq_true.mpr λx hx=>by
  obtain⟨w,_,rfl⟩:=List.mem_map.mp hx;exact HE w
 dsimp only;rw[ci {HE v,a,by rw[zak];exact B}];have e:((as++v::bs).map tupI).findIdx? (λy=>decide (y=tupI v))=bw as.length:=by
  clear a B;induction as with
  |nil=>simp[List.findIdx?_cons]
  |cons x as ih=>
   have F:¬ tupI x=tupI v:=λz=>h<|by rw[M6 z];exact zar ..
   rw[zde,zaj,List.findIdx?_cons,cj (by simpa using F),ih λz=>h<|zaq _ z];rfl
 rw[e];rfl
def KQ:cutD (as++bs) bz (bw (as.length:Int))=as:=by
 have e:HT.sIx (as++bs).length (as++bs).length (bw (as.length:Int))=as.length:=by
  unfold HT.sIx;simp
  try lia
 unfold cutD;rw[e];show((as++bs).drop 0).take (as.length-0)=as;simp
end P
namespace My
section
variable {X:Cx}
theorem rB(ns:List Int):∀n,n<=ns.length->preSum (λi=>(ns[i]?).getD 0) n=(ns.take n).sum
 |0,_=>by simp[preSum]
 |n+1,h=>by
  have e:ns[n]?=bw (ns[n]'(by lia)):=by simp
  rw[preSum,rB ns n<|by lia,zdf,List.sum_append_int,e];simp
def BG{ns:List Int}{z:List Value}(r:Vals (ns.map V.int) z){i:Nat}(h:z[i]?=bw v):∃t,v=.int ((ns[i]?).getD 0) t:=by
 have B:=r.length;rw[zak]at B;have hi:i<ns.length:=by rw[B];exact(List.getElem?_eq_some_iff.mp h).1
 have e:(ns.map V.int)[i]?=bw (.int ns[i]):=by simp[hi]
 obtain⟨u,F,G⟩:=r.get e;rw[h]at F;cases F;obtain⟨t,rfl⟩:=G;exact{t,by simp[hi]}
def JZ(hc:X.calm=ca):CallR X (.builtin "sum") λxs H Q=>∃(p:Addr) (ns:List Int),xs=[.ref p]/\SqL X.K H p (ns.map V.int)/\Q (.int ns.sum) H:=by
 intro pins s σ H xs us Q I r h;obtain⟨p,ns,rfl,hq,q⟩:=h;obtain⟨u,rfl,rx⟩:=vals1 r;cases rx;obtain⟨B,r',pl,hz⟩:=I.list hq;have Y:s.heap.IsList p B.toArray:=pl.isList;obtain⟨o,ho,ag,n,hd⟩:=id Y;have U:p≠s.heap.objs.size:=zaE<|zao ho;have W:=(zcQ (prog:=X.prog) (w:=X.w) (A:=X.A.in1) (I.ok.hd hc) s.heap.objs.size p U B.toArray).toS;refine call_sum_walkAnyS<|zbZ Y ?_;refine{s.heap.objs.size,_,_,_,_,_,_,(λi=>(ns[i]?).getD 0),rfl,W,{{_,zaC _ rfl,rfl,rfl},Y.at λo e=>zam _ e},λb F=>?_,λi v hP=>BG r' (by simpa using hP),λs' t' G=>?_}
 .rcases List.mem_cons.mp F with rfl|F
  .exact zao<|zaC _ rfl
  .obtain rfl:=List.mem_singleton.mp F
   exact zao<|zam _ ho
 .obtain⟨h',g',d',N,M⟩:=s'
  have e1:g'=s.gens:=G.gens;have e2:d'=s.drawn:=G.drawn;have e3:M=s.os:=G.os;subst e1 e2 e3;have hk:∀b o,s.heap.get? b=bw o->h'.get? b=bw o:=λb o e=>G.heap b o (λF=>absurd (zao e)<|(List.mem_singleton.mp F) ▸ zbt _)<|zam _ e
  refine{.int ns.sum,H,I.kept (t':=N) hk,{t',?_},q};have z:=r'.length;rw[zak]at z;rw[zay,<- z,rB ns ns.length<|zah _,zbv]
def RU:OpR X (zaP .Add) λx y H Q=>∃a b ys,x=.ref a/\y=.ref b/\SqT X.K H a []/\SqT X.K H b ys/\Q (.ref b) H:=by
 intro pins s σ H x y v u Q I rx ry h;obtain⟨a,b,ys,rfl,rfl,ha,hb,q⟩:=h;cases rx;cases ry;obtain⟨ac,r1,p1,_⟩:=I.tuple ha;obtain⟨z,r2,p2,_⟩:=I.tuple hb;have e1:ac=[]:=r1.nil_iff.mpr rfl;subst e1;obtain⟨⟨cls,dd,data,sl⟩,ho,hc,n,hd⟩:=p1;obtain⟨⟨M,ab,B,aa⟩,F,U,n2,ad⟩:=p2;have Y:cls=.type "tuple" := hc;have W:data=.seq #[] n:=hd;have N:M=.type "tuple" := U;have G:B=.seq z.toArray n2:=ad;subst Y W N G;exact concat_meets {_,ho,rfl} {_,F,rfl} zeg seq_tuple_add zeh zei (zej _ _)
  (tuple_addW0 a b #[] z.toArray n n2 dd ab sl aa rfl) {ho,F,.ref b,H,I,rfl,q}
def BX:V->List V->Hp->VK->Prop:=λx vs H Q=>∃l b xs zs,x=.ref l/\vs=[.ref b]/\H l=bw (.lst xs)/\Rd H b (.lst zs)/\xs.length+zs.length<=zal/\Q .non (upd H l<|.lst<|xs++zs)
def uJ:MtM X "list.extend" BX:=by
 intro pins s σ H x vs v us Q I rx rv h;obtain⟨l,b,xs,zs,rfl,rfl,N,U,hz,q⟩:=h;cases rx;obtain⟨u,rfl,ru⟩:=rv.one;cases ru;obtain⟨z,G,n,r,hl,e⟩:=I.lstM N;obtain⟨z2,B,Y,r2,W,e2⟩:=P.Inv.lstR I U;have hsz:G.toArray.size+B.toArray.size<=zal:=by rw[zay,zay];lia
 have M:¬ (!G.toArray.isEmpty && zeo (G.toArray.size+B.toArray.size))=ca:=by
  rw[MA hsz,Bool.and_false];exact zaD
 refine zcL F.slot_list_extend {_,e,rfl} F.entry_list_extend (F.args_list_extend_2 _ _)
  (AutoSeq1.list_extend_list_list_0 l G.toArray n b B.toArray Y M (by rw[zay];lia)<|by lia) {e,e2,?_}
 refine{.non,_,I.lset (its':=G++B) N e (by simp) (r.append r2) ?_,rfl,q};rw[zbm]
 lia
end
end My
namespace P
def aA{z β:Type}(a:z)(f:z->Option β):(bw a).bind f=f a:=by rw[zad]
def aB{z β:Type}(a:z)(f:z->β):(bw a).map f=bw (f a):=by rw[zab]
section
variable {X:Cx}{O O':List Nat}{L:Lp}
noncomputable def FQ:List D->Option D
 |[.int i]=>bw<|.int i
 |[.bl b]=>bw<|.int<|if b then 1 else 0
 |_=>bz
def XD:l9 X (.type "int") FQ:=CallR.mono JI <| by
 rintro xs H Q ⟨A,ds,d,B,r,e,q⟩;unfold FQ at e;split at e
 .cases e
  obtain⟨v,rfl,z⟩:=r.one;cases z.int_inv;exact .inl {_,rfl,q _ H (Ext.refl _ _)<|.int _}
 .cases e
  obtain⟨v,rfl,z⟩:=r.one;cases z.bl_inv;exact .inr {_,rfl,q _ H (Ext.refl _ _)<|.int _}
 .cases e
@[simp] theorem q_intB:FQ [.bl b]=bw (.int<|if b then 1 else 0):=rfl
@[simp] theorem q_intI:FQ [.int i]=bw (.int i):=rfl
open Classical in
def cV:D->D->Option D:=LI λi j=>if My.FR i j then bw (.int<|i*j)else bz
def HN:cV=IB:=by
 unfold cV IB;congr 1
def cN:mT X (zaP .Mult) cV:=by rw[HN];exact YV
def WY(h:My.FR i j):cV (.int i) (.int j)=bw (.int<|i*j):=by rw[HN];exact qa0 h
def cG(h:-(10^250)<i)(h1:i<10^250)(h2:-(10^250)<j)(z:j<10^250):cV (.int i) (.int j)=bw (.int<|i*j):=WY {{h,h1},h2,z}
def U5:List D->Option D
 |[.lst l]=>(kD l).map λns=>.int ns.sum
 |_=>bz
def PY(z:X.calm=ca):l9 X (.builtin "sum") U5:=CallR.mono (My.JZ z) <| by
 rintro xs H Q ⟨A,ds,d,G,r,e,q⟩;unfold U5 at e;split at e
 .obtain⟨ns,B,rfl⟩:=map_some e
  obtain⟨v,rfl,F⟩:=r.one;obtain⟨a,M,rfl,h1,r1⟩:=F.lst_inv;rw[gU B r1]at h1;exact{a,ns,rfl,.inl h1,q _ H (Ext.refl _ _)<|.int _}
 .cases e
theorem kY:∀ns:List Int,kD (ns.map .int)=bw ns
 |[]=>rfl
 |n::ns=>by rw[zaj,kD,kY ns];rfl
@[simp] theorem q_sum{ns:List Int}:U5 [.lst<|ns.map .int]=bw (.int ns.sum):=by unfold U5;simp only[kY];rfl
def eE(x y:D):Option D:=match x,y with
 |.tup l,.tup m=>if a9 (l.length+m.length)then bw (.tup<|l++m)else bz
 |x,y=>yF x y
set_option tactic.hygienic true in
def eI:mT X (zaP .Add) eE:=OpR.mono (OpR.or YN My.RU) <| by
 rintro x y H Q ⟨A,dx,M,d,G,B,z,e,q⟩;unfold eE at e;split at e
 .rename_i l m
  cases l with
  |nil=>
   by_cases F:a9 (([]:List D).length+m.length)=ca
   .rw[ci F]at e
    cases e;obtain⟨a,xs,rfl,h1,r1⟩:=B.tup_inv;obtain⟨b,ys,rfl,h2,r2⟩:=z.tup_inv;cases r1;exact .inr {a,b,ys,rfl,rfl,.inl<|.inl h1,.inl<|.inl h2,q _ H (Ext.refl _ _)<|.tup h2 r2}
   .rw[cj F]at e;cases e
  |cons a l=>
   refine .inl {A,_,_,d,G,B,z,?_,q};rw[<- e];rfl
 .exact .inl {A,_,_,d,G,B,z,e,q}
@[simp] theorem q_addAI:eE (.int i) (.int j)=bw (.int<|i+j):=rfl
@[simp] theorem q_addAT:eE (.tup l) (.tup m)=if a9 (l.length+m.length)then bw (.tup<|l++m)else bz:=rfl
@[simp] theorem q_addAL:eE (.lst l) (.lst m)=if a9 (l.length+m.length)then bw (.lst<|l++m)else bz:=rfl
@[simp] theorem q_addAS:eE (.str l) (.str m)=if a9 (l.length+m.length)then bw (.str<|l++m)else bz:=rfl
def U6(i:Nat)(f:Ev):Sv:=λρ=>(aD i ρ).bind λx=>match x with
 |.lst l=>(f ρ).bind λd=>match d with
  |.lst m=>if a9 (l.length+m.length)then bw (.nx<|ρ.set i<|bw<|.lst<|l++m)else bz
  |_=>bz
 |_=>bz
def uK(ho:PE X o<|dI i)(he:PD X O e f)(G:mem O i=ca)(Y:PE X (.Call (.Attribute o "extend" apos) [e] [] cpos)<|qd X.K "list" My.BX (dI i)<|yE (tD Rep O f) U1)
  (hs:zaF (.Call (.Attribute o "extend" apos) [e] [] cpos) bz pos.line X.env=pure cf:=by rfl) (h:Sub O' O=ca:=by rfl):kR X L O (.Expr (.Call (.Attribute o "extend" apos) [e] [] cpos) pos) (U6 i f) O':=
 PS.mono (zE Y hs) <| by
  rintro T σ H ⟨H0,A0,A,E,ρ,out,st,e,p⟩;obtain⟨x,ex,e⟩:=bind_some e;cases x with
  |lst l=>
   obtain⟨d,W,e⟩:=bind_some e;cases d with
   |lst m=>
    dsimp only at e;by_cases F:a9 (l.length+m.length)=ca
    .rw[ci F]at e
     cases e;obtain⟨a,N,z,e3,e4⟩:=st.own i _ (bZ ex)<|iM G;cases e4 with
     |lst h4 r4=>
      refine{_,N,.inl {rfl,_,SqL.of h4},H0,A0,A,E,ρ,_,st,W,λv H' x r=>?_};obtain⟨b,zs,rfl,hb,U⟩:=RepB.lst_inv<|.of r;refine{a,b,_,zs,rfl,rfl,x.ow _ _ z h4,hb,by rw[r4.length,U.length];exact iG F,?_};have M:=x.ow _ _ z h4;obtain⟨A',B⟩:=((st.mono x).write (o:=.lst _) (bZ ex) (iM G) N z e3 M trivial (.lst aJ<|((r4.ext x).append U).put z M trivial)).shut<|Sub.mem h;exact p A' σ _ B
    .rw[cj F]at e;cases e
   |_=>exact nn e
  |_=>exact nn e
noncomputable def fJ(c:Bv)(b:Sv):Nat->dH->Option Out
 |0,_=>bz
 |n+1,ρ=>(c ρ).bind λt=>if t=ca then(b ρ).bind λo=>match o with
   |.nx ρ'=>fJ c b n ρ'
   |.ct ρ'=>fJ c b n ρ'
   |.bk ρ'=>bw<|.nx ρ'
   |.rt d=>bw<|.rt d
  else bw<|.nx ρ
def nL(c:Bv)(b:Sv):Sv:=λρ=>fJ c b 100000 ρ
def JM(hp:zcc (model X.prog X.w) X.A X.env X.xe)(Y:wX X O1 c g)(hb:eL X {Ob,O1} O1 body b O1)(h1:Sub O1 O=ca)(h2:Sub O' O1=ca)(h3:Sub O' Ob=ca) :
  kR X L O (.While c body [] pos) (nL g b) O':=PS.mono (M2 hp Y hb) λT σ H ⟨H0,A0,A,E,ρ,out,st,e,p⟩=>by
 obtain⟨A1,U⟩:=st.shut<|Sub.mem h1;refine{λm σ H=>∃ρ A,ST H0 A0 A E O1 σ H ρ/\fJ g b m ρ=bw out,{100000,ρ,A1,U,e},?_};rintro m σ H ⟨ρ,A,st,e⟩;cases m with
 |zero=>cases e
 |succ m=>
  obtain⟨t,et,e⟩:=bind_some e;refine{H0,A0,A,E,ρ,t,st,et,λH1 W=>?_};have fin:∀ {O2:List Nat} {A:Av} {σ:L2.St} {H:Hp} {ρ:dH},Sub O' O2=ca->ST H0 A0 A E O2 σ H ρ->(∀A σ H,ST H0 A0 A E O' σ H ρ->T.nx σ H)->T.nx σ H:=λhs st k=>by
   obtain⟨B,N⟩:=st.shut<|Sub.mem hs;exact k B _ _ N
  cases t with
  |true=>
   rw[ci rfl]at e;dsimp only;rw[ci rfl];obtain⟨o,eo,e⟩:=bind_some e;refine{λG H'=>∃z B,ST H0 A0 B E O1 G H' z/\fJ g b m z=bw out,λG H' ⟨z,B,F,e2⟩=>{m,zcI m,z,B,F,e2},H0,A0,A,E,ρ,o,st.mono W,eo,?_};cases o with
   |nx z=>exact λB M H2 F=>{z,B,F,e}
   |ct z=>exact λB M H2 F=>{z,B,F,e}
   |bk z=>cases e;exact λB M H2 F=>fin h3 F p
   |rt d=>cases e;exact p
  |false=>
   rw[cj zaD]at e;dsimp only;rw[cj zaD];cases e;exact fin h2 (st.mono W) p
end
def G9{P:zai}{w:World}{K:zae}{mg:Str->Option Value}{base:Heap}{x:Str}{st:Stmt}{N ps:List Str}{k:Nat}(F:My.DefAt K mg x st ps)(S:FnScope N ps<|aK st):Fn P w K mg base x (k+1) ps λ_=>bz:=
 My.BodyOk.ok (k:=k) (N:=N) (λU G A B s H vs Q E W ⟨M,ds,d,Y,r,e,z,q⟩=>nomatch z) F S (λvs H Q E ⟨M,ds,d,_,_,e,z,_⟩=>nomatch z)
def eK(n:Nat)(b:(List D->Option D)->Sv):Nat->List D->Option D
 |0=>λ_=>bz
 |m+1=>bA n<|b<|eK n b m
end P
namespace My
open AutoSeq1 (wpAny_loadPart')
set_option tactic.hygienic true in
def J2(l:Addr)(items:Array Value)(n:Nat)(B:Option Addr)(M:Array<|Option Value) :
  Meets (zb8.«enumerate.__new__» {[.type "enumerate",.ref l],[]}) (λ_ R s=>s.heap.get? l=bw {cls:=.type "tuple",dict:=B,data:=.seq items n,slots:=M} /\
   R (.ok<|.ret<|.ref (s.heap.push {cls:=.type "tuple_iterator",data:=.fields #[.ref l,.int 0 0]}).objs.size)
    {s with heap:=(s.heap.push {cls:=.type "tuple_iterator",data:=.fields #[.ref l,.int 0 0]}).push {cls:=.type "enumerate",data:=.fields #[.none,.bool cf,.ref s.heap.objs.size,zbc 0,.none,.none]} }):=
 .of_wp λprog w A R s h=>by
  obtain⟨U,g,d,tk,N⟩:=s;obtain⟨z,h⟩:=h;have G:=sub_enumerate;have F:zdb (zb6 ⟨U,g,d,tk,N⟩) l items:={_,z,rfl,n,rfl}
  wp_walk using zb4 z
  refine wpAny_stack_any λst=>zaf ?_
  split
  .rename_i c _ _ _ _ _
   cases(c == Value.type "enumerate")
   .wp_walk using zb4 z,zb0 F
    exact{_,rfl,h}
   .wp_walk using zb4 z,zb0 F
    exact{_,rfl,h}
  .wp_walk using zb4 z,zb0 F
   exact{_,rfl,h}
section
variable {prog:zai}{w:World}{A:zan}{E:Value->zac->Prop}{s:zac}
def JK(hl:SSq t s.heap l xs)
  (h:∀h',zbE h' (s.heap.objs.size+1) s.heap.objs.size 0 .none->SIt t h' s.heap.objs.size l 0->(∀b o,s.heap.get? b=bw o->h'.get? b=bw o)->Q (.ref<|s.heap.objs.size+1) {s with heap:=h'}) :
  wpAny (model prog w) A (call (.type "enumerate") [.ref l]) Q E s:=by
 obtain⟨⟨cls,G,data,W⟩,Y,hc,n,hd⟩:=hl;have N:cls=.type (sqN t):=hc;have U:data=.seq xs n:=hd;subst N U;have M:(s.heap.push<|IY t l).objs.size=s.heap.objs.size+1:=zb2 ..;have fin:zbE ((s.heap.push<|IY t l).push {cls:=.type "enumerate",data:=.fields #[.none,.bool cf,.ref s.heap.objs.size,zbc 0,.none,.none]}) (s.heap.objs.size+1) s.heap.objs.size 0 .none:=by
  have:=zaC (s.heap.push<|IY t l) (o:={cls:=.type "enumerate",data:=.fields #[.none,.bool cf,.ref s.heap.objs.size,zbc 0,.none,.none]}) rfl;rw[M]at this;exact this
 have q:=h _ fin {_,zam _<|zaC _ rfl,rfl,rfl} λb o x=>zam _<|zam _ x
 cases t with
 |false=>
  refine callType_new F.called_enumerate (by decide) (F.typeCall_enumerate_1 _) (F.newCall_enumerate_1 _) (λz=>F.args_object_init_2 z _) F.entry_enumerate_new (meets_enumerate_newL l xs n G W) {Y,?_};have B:(s.heap.push {cls:=.type "list_iterator",data:=.fields #[.ref l,.int 0 0]}).objs.size=s.heap.objs.size+1:=M;show _/\_;rw[B];exact{{_,fin,rfl},q}
 |true=>
  refine callType_new F.called_enumerate (by decide) (F.typeCall_enumerate_1 _) (F.newCall_enumerate_1 _) (λz=>F.args_object_init_2 z _) F.entry_enumerate_new (J2 l xs n G W) {Y,?_};have B:(s.heap.push {cls:=.type "tuple_iterator",data:=.fields #[.ref l,.int 0 0]}).objs.size=s.heap.objs.size+1:=M;show _/\_;rw[B];exact{{_,fin,rfl},q}
def KA{t:Bool}{e it l:Addr}{i:Nat}{items:Array Value}{x al:Value}{Q:Value->zac->Prop}
  (he:zbE s.heap e it i al) (az:SIt t s.heap it l i) (hl:SSq t s.heap l items) (hx:items[i]?=bw x) (ak:e≠it)
  (hQ:∀h', IsEnumOut h' e it ((i:Int)+1) x s.heap.objs.size -> SIt t h' it l (i+1) ->
   h'.get? s.heap.objs.size=bw {cls:=.type "tuple",data:=.seq #[.int i s.toks,x]}->h'.objs.size=s.heap.objs.size+1->
   (∀b o,b≠e->b≠it->s.heap.get? b=bw o->h'.get? b=bw o)->Q (.ref s.heap.objs.size) {s with heap:=h',toks:=s.toks+1}) :
  wpAny (model prog w) A (zb8.«enumerate.__next__» {[.ref e],[]}) (λfin s'=>∃v,fin=.done (.ret v)/\Q v s') E s:=by
 obtain⟨hp,g,d,tk,os⟩:=s;show wpAny _ _ (field (.ref e) 2 >>= _) _ _ _;refine zaa<|zaT he rfl (x:=.ref it) rfl ?_;refine zaa<|next_item az hl hx λU aj N=>?_;replace N:za6 it hp U:=N;have aa:zbE U e it i al:=(N.2 e ak).trans he;show wpAny _ _ (field (.ref e) 3 >>= _) _ _ ⟨U,g,d,tk,os⟩;refine zaa<|zaT aa rfl (x:=zbc i) rfl ?_;show wpAny _ _ (field (.ref e) 4 >>= _) _ _ ⟨U,g,d,tk,os⟩;refine zaa<|zaT aa rfl (x:=.none) rfl ?_;show wpAny _ _ (mkInt i >>= _) _ _ ⟨U,g,d,tk,os⟩;refine zaa<|wpAny_mkInt ?_;show wpAny _ _ (setField (.ref e) 3 (zbc<|(i:Int)+1) >>= _) _ _ {U,g,d,tk+1,os};refine zaa<|zbD aa (by simp) λad ab z=>?_;replace z:za6 e U ad:=z;replace ab:zbE ad e it ((i:Int)+1) al:=ab;show wpAny _ _ (setField (.ref e) 4 .none >>= _) _ _ {ad,g,d,tk+1,os};refine zaa<|zbD ab (by simp) λW Y B=>?_;replace B:za6 e ad W:=B;replace Y:zbE W e it ((i:Int)+1) al:=Y;show wpAny _ _ (newTuple [.int i tk,x] >>= _) _ _ {W,g,d,tk+1,os};refine zaa<|wpAny_newTuple ?_;have ac:zbE (W.push {cls:=.type "tuple",data:=.seq #[.int i tk,x]}) e it ((i:Int)+1) al:=zam _ Y;generalize hh₄:W.push {cls:=.type "tuple",data:=.seq #[.int i tk,x]}=h₄ at ac;have hsz:W.objs.size=hp.objs.size:=by rw[B.1,z.1,N.1]
 have ax:e<hp.objs.size:=zao he;have as:h₄.get? hp.objs.size=bw {cls:=.type "tuple",data:=.seq #[.int i tk,x]}:=by rw[<- hh₄,<- hsz];exact zaC _ rfl
 have au:h₄.objs.size=hp.objs.size+1:=by rw[<- hh₄,zb2,hsz]
 have ar:∀b o,b≠e->b≠it->hp.get? b=bw o->h₄.get? b=bw o:=λb o ae aw hb=>by
  rw[<- hh₄];exact zam _<|B.extBut b o ae<|z.extBut b o ae<|N.extBut b o aw hb
 have ao:SIt t h₄ it l<|i+1:=by
  rw[<- hh₄];exact aj.to λo q=>zam _<|B.extBut it o (zaV ak)<|z.extBut it o (zaV ak) q
 show wpAny _ _ (zcP (.ref e) >>= _) _ _ {h₄,g,d,tk+1,os};rw[hsz];clear hh₄ Y B ab z aa N aj hsz W ad U;refine zaa ?_
 .unfold zcP
  refine zaa<|zaT ac rfl (x:=.none) rfl<|zaf ?_;simp only[if_true];refine zaa<|zbV ?_;refine zaa<|zaT ac rfl (x:=al) rfl ?_;refine zaa<|zbD ac (by simp) λai ah G=>?_;replace G:za6 e h₄ ai:=G;replace ah:zbE ai e it ((i:Int)+1) x:=ah;show wpAny _ _ (zdR (.ref e) (.ref hp.objs.size) >>= _) _ _ {ai,g,d,tk+1,os};refine zaa ?_
  .unfold zdR
   refine zaa<|zbD ah (by simp) λam ag M=>?_;replace M:za6 e ai am:=M;replace ag:IsEnumOut am e it ((i:Int)+1) x hp.objs.size:=ag;refine zbD ag (by simp) λan af F=>?_
   replace F:za6 e am an:=F;replace af:IsEnumOut an e it ((i:Int)+1) x hp.objs.size:=af;refine zaa<|zcj<|zaf {_,rfl,hQ an af ?_ ?_ ?_ ?_}
   .exact ao.to λo q=>F.extBut it o (zaV ak)<|M.extBut it o (zaV ak)<|G.extBut it o (zaV ak) q
   .exact F.extBut _ _ (zbb ax)<|M.extBut _ _ (zbb ax)<|G.extBut _ _ (zbb ax) as
   .rw[F.1,M.1,G.1,au]
   .exact λb o ae aw hb=>F.extBut b o ae<|M.extBut b o ae<|G.extBut b o ae<|ar b o ae aw hb
def JR{t:Bool}{e it l:Addr}{i:Nat}{items:Array Value}{x B:Value}{Q:Option Value->zac->Prop}
  (M:zbE s.heap e it i B) (z:SIt t s.heap it l i) (N:SSq t s.heap l items) (hx:items[i]?=bw x) (G:e≠it)
  (U:∀h', IsEnumOut h' e it ((i:Int)+1) x s.heap.objs.size -> SIt t h' it l (i+1) ->
   h'.get? s.heap.objs.size=bw {cls:=.type "tuple",data:=.seq #[.int i s.toks,x]}->h'.objs.size=s.heap.objs.size+1->
   (∀b o,b≠e->b≠it->s.heap.get? b=bw o->h'.get? b=bw o)->Q (bw<|.ref s.heap.objs.size) {s with heap:=h',toks:=s.toks+1}) :
  wpAny (model prog w) A (zaW<|.ref e) Q E s:=by
 have hT:s.TypeIs (.ref e) "enumerate" := {_,M,rfl};unfold zaW;exact zaa (zcN<|zbQ (name:=za1 "__next__") hT zdW
  (zbo zdW hT F.entry_enumerate_next
   (KA M z N hx G λh' a b c d k=>zaf<|U h' a b c d k) (F.args_enumerate_next_1 _)))
def OI{t:Bool}{i:Nat}{items:Array Value}{Q:Option Value->zac->Prop}(Y:A.handled=bz)
  (M:zbE s.heap e it i old) (z:SIt t s.heap it l i) (N:SSq t s.heap l items) (hx:items[i]?=bz)
  (W:∀h',Heap.ExtBut it s.heap h'->Q bz {s with heap:=h'}):wpAny (model prog w) A (zaW<|.ref e) Q E s:=by
 have hT:s.TypeIs (.ref e) "enumerate" := {_,M,rfl};unfold zaW;refine zaa (zcN<|zbQ (name:=za1 "__next__") hT zdW
  (zbo zdW hT F.entry_enumerate_next ?_<|F.args_enumerate_next_1 _))
 show wpAny _ _ (field (.ref e) 2 >>= _) _ _ _;refine zaa<|zaT M rfl (x:=.ref it) rfl ?_;refine zaa<|next_end Y z N hx λh' x B G=>?_;obtain⟨o,ho,U⟩:=G;refine zaa<|zcG (T := "StopIteration") (b:=ca) {o,ho,U} isSubtype_stop ?_;exact zaf<|W _ B
end
def ItE(K:zae)(t:Bool)(l:Addr):It:=
 ⟨λi H => ∃xs, DK K t H l xs /\ i<xs.length, λi H x H' => ∃p u, x = .ref p /\ H p = bz /\ H' = upd H p (.tup [.int (i:Int), u]) /\ ∀xs, DK K t H l xs -> xs[i]? = bw u,
  λi H=>∃xs,DK K t H l xs/\xs.length<=i⟩
def KY{P:zai}{w:World}{K:zae}{aa:List Expr}{x1}{tp:Pos}(t:Bool){e it l:Addr}(Y:e≠it) :
  Turn P w K (.Tuple aa x1 tp) (ItE K t l) [e,it] e (λi h=>(∃F,zbE h e it (i:Nat) F)/\SIt t h it l i) where
 mem:=by simp
 obj:=by
  rintro i h ⟨⟨F,G⟩,⟨o1,e1,_,d1⟩⟩ c z;simp only[zaX,zaZ,or_false]at z;rcases z with rfl|rfl
  .exact{_,G,λv q=>by cases q}
  .exact{o1,e1,λv q=>by rw[d1]at q;cases q}
 keep:=λi h h' ⟨⟨F,G⟩,N⟩ k=>{{F,k e (by simp) _ G},N.to λo q=>k it (by simp) o q}
 item:=by
  intro X hP hw hK z i pins s σ H E I W st hg;subst hP hw hK;obtain⟨⟨F,G⟩,N⟩:=st;obtain⟨xs,q1,AL⟩:=hg;obtain⟨ab,r1,p1⟩:=jX I q1;have e1:xs[i]?=bw xs[i]:=by simp[AL]
  obtain⟨u,eu,ru⟩:=r1.get e1;refine JR G N p1 (x:=u) (by simpa using eu) Y λh' a1 a2 a3 a4 M=>{_,rfl,?_}
  refine wpAny_letOwnedTupleGo_enum (s:={s with heap:=h',toks:=s.toks+1}) a1 λh2 ag sb=>?_
  have zz:∀c,c∈[e,it]->c<s.heap.objs.size:=λc z=>by
   simp only[zaX,zaZ,or_false]at z;rcases z with rfl|rfl
   .exact zao G
   .obtain⟨o,q,_⟩:=N;exact zao q
  have U:∀c o,c≠e->h'.get? c=bw o->h2.get? c=bw o:=λc o z q=>sb.extBut _ _ z q
  have I1:Inv X pins σ H {s with heap:=h2,toks:=s.toks+1}:=jR I W λc o z q=>by
   simp only[zaX,zaZ,or_false,not_or]at z;exact U c o z.1<|M c o z.1 z.2 q
  have B:H s.heap.objs.size=bz:=I.fresh;have af:h2.get? s.heap.objs.size=bw {cls:=.type "tuple",data:=.seq #[.int i s.toks,u]}:=U _ _ (zbb<|zz e<|by simp) a3;have I2:Inv X pins σ (upd H s.heap.objs.size<|.tup [.int (i:Int),xs[i]]) {s with heap:=h2,toks:=s.toks+1}:=by
   have ai:HOk X.prog X.w (upd H s.heap.objs.size<|.tup [.int (i:Int),xs[i]]) h2:=λc ob q=>by
    by_cases z:c=s.heap.objs.size
    .subst z;rw[aJ]at q;cases q
     exact{by show 2<=zal;decide,[.int i s.toks,u],.cons {_,rfl}<|.cons ru .nil,_,af,rfl,0,rfl,rfl}
    .rw[aG z]at q
     exact(I1.hok c ob q).stay (λ_ _ _ q=>q) (λd q=>by rw[aG<|aY q B];exact q) (λd ae q=>by rw[aG<|aY q B];exact q) λd _ _ q=>by rw[aG<|aY q B];exact q
   refine I.call' (s':={s with heap:=h2,toks:=s.toks+1}) (ch:=[e,it]) rfl {λc o q _ _ hx=>?_,λc o q _ _ hx=>{o.slots,?_},λc o q n hx=>by rw[aG<|zaE<|zao q];exact n,λc o q hx=>{o,?_},λc ae q=>by rw[aG<|aY q B];exact q,λc o' u' q=>by rw[aG<|aY q B];exact q,λc ps q=>{#[],by rw[aG<|aY q B,q];simp}} ai I.bare λb hb=>?_
   .simp only[zaX,zaZ,or_false,not_or]at hx
    exact U c o hx.1<|M c o hx.1 hx.2 q
   .simp only[zaX,zaZ,or_false,not_or]at hx
    exact U c o hx.1<|M c o hx.1 hx.2 q
   .simp only[zaX,zaZ,or_false,not_or]at hx
    exact U c o hx.1<|M c o hx.1 hx.2 q
   .obtain⟨_,f1,_,f3,f4,f5⟩:=W b hb
    exact{f3,f1,f4,f5}
  refine{.ref s.heap.objs.size,_,I2,rfl,{_,_,rfl,B,rfl,λau g1=>by rw[<- zJ I q1 g1];exact e1},{{_,ag},a2.to λo q=>U _ o (zaV Y) q},λc z=>?_};rw[aG<|zaE<|zz c z];exact(W c z).1
 done:=by
  intro X hP hw hK z i pins s σ H E I W st hg;subst hP hw hK;obtain⟨⟨F,G⟩,N⟩:=st;obtain⟨xs,q1,am⟩:=hg;obtain⟨ab,r1,p1⟩:=jX I q1;have n1:=r1.length;refine OI (I.ok.hd z) G N p1 (by simp;lia) λh' M=>{rfl,jR (t':=s.toks) I W λc o z q=>?_}
  simp only[zaX,zaZ,or_false,not_or]at z;exact M c o z.2 q
 self:=λ_ _ _ _ _ st h=>let ⟨⟨_,G⟩,_⟩:=st;wpAny_pyIter_enum G h
def boot_enumerate:zaI "enumerate" = bw (.type "enumerate"):=by first|rfl|decide +kernel
def qam(K:zae)(ta:TA):TI:=λσ H R=>ta σ H λvs H1=>∃t l xs,vs=[.ref l]/\DK K t H1 l xs/\R (ItE K t l) H1
def UV{X:Cx}{z:List Expr}{x1}{tp:Pos}{a:Expr}{ta:TA}{p pos:Pos}(hg:Gl X "enumerate")(hm:X.mg "enumerate" = bz)(ha:PA X [a] ta)(hs:zag [a] X.env=[(cf,eval a X.env)]:=by rfl) :
  PI X (.Tuple z x1 tp) (.Call (.Name "enumerate" p) [a] [] pos) (qam X.K ta):=by
 intro pins s σ H R I h;refine Call_<|l7 I hg hm boot_enumerate<|zc4 (c8 (ha pos pins s σ H _ I h) λus M ⟨vs,H1,F,r1,N⟩=>?_) (by rw[hs];rfl) rfl;obtain⟨t,l,xs,rfl,N,q⟩:=N;obtain⟨u,rfl,ru⟩:=vals1 r1;cases ru;obtain⟨U,_,Y⟩:=jX F N;refine JK Y λh' W G k=>?_
 refine wpAny_pyIter_enum W ?_;have D:M.heap.objs.size+1≠M.heap.objs.size:=by lia
 refine{_,[_,_],_,_,H1,rfl,F.kept (t':=M.toks) k,KY t D,{{_,W},G},λc B=>F.fpOk ?_<|F.hok.fresh ?_,q}
 .simp only[zaX,zaZ,or_false]at B
  rcases B with rfl|rfl <;> lia
 .simp only[zaX,zaZ,or_false]at B
  rcases B with rfl|rfl <;> lia
end My
namespace P
noncomputable def g8:Nat->List D->List D
 |_,[]=>[]
 |k,x::xs=>.tup [.int (k:Int),x]::g8 (k+1) xs
def IS(f:Lv):Lv:=λρ=>(f ρ).bind λds=>match ds with
 |[a]=>(iH a).map<|g8 0
 |_=>bz
theorem iX:∀ {xs:List D} {k i:Nat} {d:D},(g8 k xs)[i]?=bw d->∃x,xs[i]?=bw x/\d=.tup [.int ((k+i:Nat):Int),x]
 |[],k,i,d,h=>by simp[g8]at h
 |x::xs,k,0,d,h=>by simp[g8]at h;exact{x,rfl,h.symm}
 |x::xs,k,i+1,d,h=>by
  obtain⟨y,B,z⟩:=iX (xs:=xs) (k:=k+1) (i:=i) (by simpa[g8]using h);exact{y,by simpa using B,by rw[z];congr 4;lia}
theorem fV:∀(xs:List D) (k:Nat),(g8 k xs).length=xs.length
 |[],_=>rfl
 |x::xs,k=>by simp[g8,fV xs]
set_option tactic.hygienic true in
def OH{G}(hg:Gl X "enumerate")(hm:X.mg "enumerate" = bz)(ha:DJ X O [a] f)(hs:zag [a] X.env=[(cf,eval a X.env)]:=by rfl) :
  PDI X O (.Tuple elts G tp) (.Call (.Name "enumerate" p) [a] [] pos) (IS f):=PI.mono (My.UV hg hm ha hs) λσ H R ⟨H0,A0,A,E,ρ,items,st,e,q⟩=>by
 obtain⟨ds,W,e⟩:=bind_some e;refine{H0,A0,A,E,ρ,ds,st,W,λvs H1 G r1=>?_};split at e
 case h_2=>cases e
 rename_i da;obtain⟨xs,e2,rfl⟩:=map_some e;obtain⟨v,rfl,r2⟩:=r1.one;obtain⟨t1,F,us,rfl,q1,_,k1⟩:=zL (K:=X.K) e2 r2;refine{t1,F,us,rfl,q1,q _ H1 [.rep da<|.ref F] G (λp Y=>?_) ?_}
 .rw[List.mem_singleton.mp Y];exact r2
 .intro A' H' lv hE i
  have a1:Rep A' H' da<|.ref F:=hE (.rep da<|.ref F)<|zar ..;obtain⟨z,g1,B⟩:=k1 A' H' a1;refine{λhi=>{z,g1,by rw[B.length];rw[fV]at hi;exact hi},λd hd=>?_};obtain⟨x,ex,rfl⟩:=iX hd;obtain⟨u,N,ru⟩:=B.get' ex;refine{{z,g1,(List.getElem?_eq_some_iff.mp N).1},λx' H2 ⟨p,u',e4,n,U,e6⟩=>?_};subst e4 U;have M:=e6 z g1;rw[N]at M;cases M;rw[zaN];exact{Ext.new n,.tup aJ<|.cons (.int _)<|.cons (ru.ext<|Ext.new n) .nil}
@[simp] theorem q_enum:IS f ρ=(f ρ).bind λds=>match ds with
 |[a]=>(iH a).map<|g8 0
 |_=>bz:=rfl
end P
namespace P
open L2
structure Ro where
 j:Int
 k:Int
 a:Int
 b:Int
 p:Int
structure GR(M many:Int)(rs:List Ro):Prop where
 len:rs.length<=12
 jk:∀r∈rs,0<=r.j/\r.j<r.k/\r.k<many
 ab:∀r∈rs,(0<=r.a/\r.a<M)/\0<=r.b/\r.b<M
 pr:∀r∈rs,0<=r.p/\r.p<=10^30
noncomputable def kN(rs:List Ro)(n:Int):Option Ro:=if 0<=n then rs[n.toNat]? else bz
def sZ(h:kN rs n=bw r):r∈rs:=by
 unfold kN at h;split at h
 .exact zap h
 .cases h
set_option tactic.hygienic true in
def QC(h:kN rs n=bw r):0<=n/\n<(rs.length:Int):=by
 unfold kN at h;split at h
 .rename_i h0
  have:=(List.getElem?_eq_some_iff.mp h).1
  lia
 .cases h
def ZG(z:0<=n)(h:n<(rs.length:Int)):∃r,kN rs n=bw r:=by
 unfold kN;rw[ci z];have:n.toNat<rs.length:=by lia
 exact{rs[n.toNat],by simp[this]}
def gw(rs:List Ro):Int->List Int->Option Int
 |at_,[]=>bw at_
 |at_,n::w=>(kN rs n).bind λr=>if r.j=at_ then gw rs r.k w else bz
theorem qD:∀ {at_:Int} {v w:List Int},gw rs at_ (v++w)=(gw rs at_ v).bind λe=>gw rs e w
 |at_,[],w=>rfl
 |at_,n::v,w=>by
  show((kN rs n).bind λr=>if r.j=at_ then gw rs r.k (v++w)else bz)=_;cases e:kN rs n with
  |none=>simp[gw,e]
  |some r=>
   by_cases h:r.j=at_
   .simp[gw,e,h,qD (v:=v) (w:=w)]
   .simp[gw,e,h]
def S0(h:gw rs at_ w=bw e)(B:kN rs n=bw r)(z:r.j=e):gw rs at_ (w++[n])=bw r.k:=by
 rw[qD,h];simp[gw,B,z]
theorem gY:∀ {at_ e:Int} {w:List Int},gw rs at_ w=bw e->∀n∈w,∃r,kN rs n=bw r
 |at_,e,[],_,n,h=>nomatch h
 |at_,e,m::w,h,n,hn=>by
  unfold gw at h;cases er:kN rs m with
  |none=>rw[er]at h;cases h
  |some r=>
   rw[er]at h;simp only[zcR]at h;split at h
   .rcases List.mem_cons.mp hn with z|z
    .rw[z];exact{r,er}
    .exact gY h n z
   .cases h
theorem kF(g:GR M many rs):∀ {at_ e:Int} {w:List Int},gw rs at_ w=bw e->at_+(w.length:Int)<=e
 |at_,e,[],h=>by cases h;simp
 |at_,e,m::w,h=>by
  unfold gw at h;cases er:kN rs m with
  |none=>rw[er]at h;cases h
  |some r=>
   rw[er]at h;simp only[zcR]at h;split at h
   .have:=kF g h
    have:=(g.jk r<|sZ er).2.1;simp only[zaB];lia
   .cases h
def cE(rs:List Ro)(w:List Int):Int:=(w.map λn=>match kN rs n with|some r=>r.p|none=>0).sum
def eT:cE rs (v++w)=cE rs v+cE rs w:=by
 unfold cE;rw[zaO,zey]
theorem WD(g:GR M many rs):∀ {at_ e:Int} {w:List Int},gw rs at_ w=bw e->at_<many->e<many
 |at_,e,[],h,hl=>by cases h;exact hl
 |at_,e,m::w,h,hl=>by
  unfold gw at h;cases er:kN rs m with
  |none=>rw[er]at h;cases h
  |some r=>
   rw[er]at h;simp only[zcR]at h;split at h
   .exact WD g h (g.jk r<|sZ er).2.2
   .cases h
noncomputable def fl{α:Type}(h:Nat->Ro->List α):Nat->List Ro->List α
 |_,[]=>[]
 |m,r::rs=>h m r++fl h (m+1) rs
noncomputable def sg(q:Nat->Ro->Int):Nat->List Ro->Int
 |_,[]=>0
 |m,r::rs=>q m r+sg q (m+1) rs
theorem zY{F:Type}{h:Nat->Ro->List F}{a:F}:∀ {rs:List Ro} {m:Nat},a∈fl h m rs↔∃i r,rs[i]?=bw r/\a∈h (m+i) r
 |[],m=>by simp[fl]
 |r::rs,m=>by
  unfold fl;rw[List.mem_append,zY (rs:=rs) (m:=m+1)];constructor
  .rintro(z|⟨i,B,e,z⟩)
   .exact{0,r,rfl,z}
   .exact{i+1,B,by simpa using e,by rw[show m+(i+1)=m+1+i by lia];exact z}
  .rintro⟨i,B,e,z⟩
   cases i with
   |zero=>simp at e;subst e;exact .inl z
   |succ i=>exact .inr {i,B,by simpa using e,by rw[show m+1+i=m+(i+1) by lia];exact z}
theorem xK{z:Type}{h:Nat->Ro->List z}:∀ {a b:List Ro} {m:Nat},fl h m (a++b)=fl h m a++fl h (m+a.length) b
 |[],b,m=>by simp[fl]
 |r::a,b,m=>by
  show h m r++fl h (m+1) (a++b)=(h m r++fl h (m+1) a)++_;rw[xK,List.append_assoc,zaB,show m+1+a.length=m+(a.length+1) by lia]
def UI{z:Type}{h:Nat->Ro->List z}{rs:List Ro}{i:Nat}{r:Ro}(e:rs[i]?=bw r):fl h 0 (rs.take<|i+1)=fl h 0 (rs.take i)++h i r:=by
 have hi:i<rs.length:=(List.getElem?_eq_some_iff.mp e).1;rw[zdf,e,xK];have:(rs.take i).length=i:=by simp;lia
 simp[this,fl]
theorem HS{G:Type}{R:G->G->Prop}{h:Nat->Ro->List G}:∀ {rs:List Ro} {m:Nat},(∀i r,rs[i]?=bw r->(h (m+i) r).Pairwise R)->(∀i j r z,i<j->rs[i]?=bw r->rs[j]?=bw z->∀a∈h (m+i) r,∀b∈h (m+j) z,R a b)->(fl h m rs).Pairwise R
 |[],m,_,_=>zdG
 |r::rs,m,h1,h2=>by
  unfold fl;rw[List.pairwise_append];refine{h1 0 r rfl,HS (rs:=rs) (m:=m+1) (λi z e=>?_) λi j z M U e N a F b B=>?_,λa F b B=>?_}
  .have:=h1 (i+1) z (by simpa using e)
   rw[show m+1+i=m+(i+1) by lia];exact this
  .rw[show m+1+i=m+(i+1) by lia]at F
   rw[show m+1+j=m+(j+1) by lia]at B;exact h2 (i+1) (j+1) z M (by lia) (by simpa using e) (by simpa using N) a F b B
  .obtain⟨j,z,e,B⟩:=zY.mp B
   rw[show m+1+j=m+(j+1) by lia]at B;exact h2 0 (j+1) r z (by lia) rfl (by simpa using e) a F b B
def bK(rs:List Ro)(k:Int):Nat->Int->List (List Int)
 |0,_=>[]
 |n+1,x=>if x=k then [[]]else fl (λi r=>if r.j=x/\r.k<=k then(bK rs k n r.k).map λw=>(i:Int)::w else []) 0 rs
def GY{rs:List Ro}{i:Nat}:kN rs (i:Int)=rs[i]?:=by unfold kN;rw[ci<|by lia];simp
set_option tactic.hygienic true in
theorem fT{rs:List Ro}{k:Int}:∀ {n:Nat} {x:Int} {w:List Int},w∈bK rs k n x->gw rs x w=bw k
 |0,x,w,h=>nomatch h
 |n+1,x,w,h=>by
  unfold bK at h;split at h
  .rename_i e
   rw[List.mem_singleton.mp h,e];rfl
  .obtain⟨i,r,e,hw⟩:=zY.mp h
   rw[zaN]at hw;split at hw
   .rename_i hc
    obtain⟨v,z,rfl⟩:=List.mem_map.mp hw;have:=fT z;simp[gw,GY,e,hc.1,this]
   .cases hw
set_option tactic.hygienic true in
theorem i4(g:GR M many rs):∀ {n:Nat} {x:Int} {w:List Int},k-x<(n:Int)->gw rs x w=bw k->w∈bK rs k n x
 |0,x,w,hn,h=>by have:=kF g h;simp at hn;lia
 |n+1,x,w,hn,h=>by
  unfold bK;cases w with
  |nil=>cases h;rw[ci rfl];exact List.mem_singleton.mpr rfl
  |cons m v=>
   have z:=kF g h;simp only[zaB]at z;rw[cj<|by lia];unfold gw at h;cases er:kN rs m with
   |none=>rw[er]at h;cases h
   |some r=>
    rw[er]at h;simp only[zcR]at h;split at h
    .rename_i hj
     have G:=QC er;obtain⟨i,rfl⟩:∃i:Nat,m=(i:Int):={m.toNat,by lia};rw[GY]at er;have B:=(g.jk r<|zap er).2.1;have F:=kF g h;refine zY.mpr {i,r,er,?_};rw[zaN,ci {hj,by lia}];exact List.mem_map.mpr {v,i4 g (by simp at hn;lia) h,rfl}
    .cases h
theorem qR{rs:List Ro}{k:Int}:∀(n:Nat) (x:Int),(bK rs k n x).Pairwise λa b=>HT.lexLt a b=ca
 |0,x=>zdG
 |n+1,x=>by
  unfold bK;split
  .exact List.pairwise_singleton _ _
  .refine HS (λi r _=>?_) (λi j r G F _ _ a z b B=>?_)
   .split
    .rw[zez]
     refine(qR n r.k).imp λ{a b} h=>?_
     show(if _=_ then HT.lexLt a b else _)=ca;rw[ci rfl];exact h
    .exact zdG
   .split at z
    .split at B
     .obtain⟨u,_,rfl⟩:=List.mem_map.mp z
      obtain⟨v,_,rfl⟩:=List.mem_map.mp B;show(if _=_ then HT.lexLt u v else _)=ca;rw[cj<|by lia];exact decide_eq_true<|by lia
     .cases B
    .cases z
theorem xI:∀a:List Int,HT.lexLt a a=cf
 |[]=>rfl
 |x::a=>by show(if x=x then HT.lexLt a a else _)=cf;rw[ci rfl];exact xI a
def tU(n:Nat)(x:Int):(bK rs k n x).Nodup:=
 (qR n x).imp λ{a b} h e=>by rw[e,xI]at h;cases h
theorem tX{B:Type}[DecidableEq B]:∀ {l K:List B},l.Nodup->(∀x∈l,x∈K)->l.length<=K.length
 |[],K,_,_=>zaM _
 |a::l,K,h,hs=>by
  have z:=hs a<|zar ..;have h2:=List.nodup_cons.mp h;have:=tX (l:=l) (K:=K.erase a) h2.2 λx hx=>(List.mem_erase_of_ne λe=>h2.1<|by rw[<- e];exact hx).mpr<|hs x<|zaq _ hx
  rw[List.length_erase_of_mem z]at this;have:=List.length_pos_of_mem z;simp only[zaB];lia
theorem lJ{F:Type}{h:Nat->Ro->List F}{B:Nat}:∀ {rs:List Ro} {m:Nat},(∀i r,rs[i]?=bw r->(h (m+i) r).length<=B)->(fl h m rs).length<=rs.length*B
 |[],m,_=>by simp[fl]
 |r::rs,m,hb=>by
  unfold fl;rw[zbm,zaB,Nat.succ_mul];have h1:=hb 0 r rfl;have h2:=lJ (h:=h) (B:=B) (rs:=rs) (m:=m+1) λi z e=>by
   have:=hb (i+1) z (by simpa using e);rw[show m+1+i=m+(i+1) by lia];exact this
  simp only[Nat.add_zero]at h1
  lia
set_option tactic.hygienic true in
theorem lK{M many:Int}{rs:List Ro}(g:GR M many rs){k:Int}:∀(n:Nat) (x:Int) (d:Nat),k-x<=(d:Int)->(bK rs k n x).length<=12^d
 |0,x,d,_=>zaM _
 |n+1,x,d,hd=>by
  unfold bK;split
  .exact Nat.one_le_pow _ _<|by decide
  .by_cases hx:x<k
   .obtain⟨e,rfl⟩:∃e,d=e+1:={d-1,by lia}
    refine zaL (lJ (B:=12^e) λi r er=>?_) ?_
    .split
     .rename_i hc
      rw[zak];have z:=g.jk r<|zap er;exact lK g n r.k e<|by lia
     .exact zaM _
    .rw[Nat.pow_succ,Nat.mul_comm]
     exact Nat.mul_le_mul_left _ g.len
   .refine zaL (lJ (B:=0) λi r er=>?_) (by simp)
    split
    .rename_i hc
     have z:=g.jk r<|zap er
     lia
    .exact zaM _
end P
namespace P
def dC{n:Nat}(h:n<=1000000):cQ [.int (n:Int)]=bw (aS 0 1 n):=by
 show(if rX (n:Int)then _ else _)=_;rw[ci<|by simp only[rX,zaS,decide_eq_true_eq];lia];simp
def eQ(z:0<=y)(h:y<=1000000):cQ [.int y]=bw (aS 0 1 y.toNat):=by
 show(if rX y then _ else _)=_;rw[ci<|by simp only[rX,zaS,decide_eq_true_eq];lia]
def MQ(h:v.length+w.length<=1000000):eE (tupI v) (tupI w)=bw (tupI<|v++w):=by
 unfold tupI;rw[q_addAT,ci<|by simp only[a9,zak];exact decide_eq_true h,zaO]
noncomputable def mU(r:Ro):D:=.tup [.int r.j,.int r.k,.int r.a,.int r.b,.int r.p]
def AC(h:kN rs n=bw r):hW (rs.map mU) n=bw (mU r):=by
 have z:=QC h;obtain⟨j,rfl⟩:∃j:Nat,n=(j:Int):={n.toNat,by lia};unfold kN at h;rw[ci<|by lia]at h;refine bY ?_;rw[zav];simp at h;rw[h];rfl
def at0:hW (a::l) 0=bw a:=bY (j:=0) rfl
def at1:hW (a::b::l) 1=bw b:=bY (j:=1) rfl
def at2:hW (a::b::c::l) 2=bw c:=bY (j:=2) rfl
def VL:hW (a::b::c::d::l) 3=bw d:=bY (j:=3) rfl
def at4:hW (a::b::c::d::e::l) 4=bw e:=bY (j:=4) rfl
def qbd:aL (mU r) (.int 0)=bw (.int r.j):=by simp[mU,at0]
def qbj:aL (mU r) (.int 1)=bw (.int r.k):=by simp[mU,at1]
def qct:aL (mU r) (.int 4)=bw (.int r.p):=by simp[mU,at4]
theorem lN{K:Nat}{f:Ev}{rest:List (Option D)}{F:Int->D}(h:∀k:Int,0<=k->k<(K:Int)->f (bw (.int k)::rest)=bw (F k)):∀(l:List Nat) (o:Option D),(∀k∈l,k<K)->bD (aQ 0) fP f (l.map λ(k:Nat)=>D.int (k:Int)) (o::rest)=bw (l.map λ(k:Nat)=>F (k:Int))
 |[],o,_=>rfl
 |k::l,o,hl=>by
  have ih:=lN h l (bw<|.int (k:Int)) λm B=>hl m<|zaq _ B
  have z:=h (k:Int) (by lia) (by have:=hl k<|zar ..;lia);simp[bD,z,ih]
theorem tY:∀(ws:List<|List Int) (o:Option D),(∀w∈ws,w.length<=1000)->bD (aQ 0) fP (bF eE (fQ<|aC (aD 1) aX)<|aD 0) (ws.map tupI) [o,bw<|.int t]=bw ((ws.map λw=>t::w).map tupI)
 |[],o,_=>rfl
 |w::ws,o,h=>by
  have ih:=tY (t:=t) ws (bw<|tupI w) λv B=>h v<|zaq _ B
  have z:=MQ (v:=[t]) (w:=w) (by have:=h w<|zar ..;simp;lia);have tt:D.tup [.int t]=tupI [t]:=rfl;simp only[List.singleton_append]at z;simp[-zas,bD,tt,z,ih]
end P
namespace My
noncomputable def qbn(a:Bool):String:=if a=ca then "str_ascii_iterator" else "str_iterator"
noncomputable def ItS(x:Str):It:={λi H=>i<x.cps.size,λi H y H'=>H'=H/\∃c,x.cps[i]?=bw c/\y=.str {#[c]},λi H=>x.cps.size<=i}
def LY{P:zai}{w:World}{K:zae}{tg:Expr}(a:Bool)(x:Str)(t:Tok)(it:Addr):Turn P w K tg (ItS x) [it] it (λi h=>h.IsStrIter it (qbn a) x t i) where
 mem:=by simp
 obj:=λi h st b B=>by
  have e:b=it:=by simpa using B
  subst e;obtain⟨o,e,c,d⟩:=st;exact{o,e,λv z=>by rw[d]at z;cases z}
 keep:=λi h h' st k=>let ⟨o,ho,r⟩:=st;{o,k it (by simp) o ho,r}
 item:=by
  intro X hP hw hK Y i pins s σ H E I G st hg;subst hP hw hK;obtain⟨U,f1,f2,W,M,N⟩:=G it (by simp);have hi:i<x.cps.size:=hg;have hx:x.cps[i]?=bw x.cps[i]:=by simp[hi]
  cases a with
  |true=>
   refine wpAny_pyNext_ascii_item st hx λh' F sb=>?_
   have I1:Inv X pins σ H {s with heap:=h',toks:=s.toks+1}:=I.turned (t':=s.toks+1) (λb o B e=>(sb.2 b B).trans e) U f1 W M N;obtain⟨o,e,c,d⟩:=id F;exact{_,rfl,v9 (s:={s with heap:=h',toks:=s.toks+1}) e c d (by decide) {.str {#[x.cps[i]]},H,I1,{_,rfl},{rfl,_,hx,rfl},F,λb B=>(G b B).1}}
  |false=>
   refine wpAny_pyNext_wide_item st hx λh' F sb=>?_
   have I1:Inv X pins σ H {s with heap:=h',toks:=s.toks+1}:=I.turned (t':=s.toks+1) (λb o B e=>(sb.2 b B).trans e) U f1 W M N;obtain⟨o,e,c,d⟩:=id F;exact{_,rfl,v9 (s:={s with heap:=h',toks:=s.toks+1}) e c d (by decide) {.str {#[x.cps[i]]},H,I1,{_,rfl},{rfl,_,hx,rfl},F,λb B=>(G b B).1}}
 done:=by
  intro X hP hw hK Y i pins s σ H E I G st hg;subst hP hw hK;obtain⟨U,f1,f2,W,M,N⟩:=G it (by simp);have hi:x.cps.size<=i:=hg;have hx:x.cps[i]?=bz:=by simp[hi]
  cases a with
  |true=>exact wpAny_pyNext_ascii_end (I.ok.hd Y) st hx λh' eb=>{rfl,I.turned (t':=s.toks) (λb o B e=>eb b o B e) U f1 W M N}
  |false=>exact wpAny_pyNext_wide_end (I.ok.hd Y) st hx λh' eb=>{rfl,I.turned (t':=s.toks) (λb o B e=>eb b o B e) U f1 W M N}
 self:=λ_ _ _ _ _ st h=>by
  cases a with
  |true=>exact wpAny_pyIter_striter_ascii st h
  |false=>exact wpAny_pyIter_striter_wide st h
def qce(tl:TE):TI:=λσ H R=>tl σ H λx H1=>∃y,x=.str y/\R (ItS y) H1
section
variable {X:Cx}{tg:Expr}
def YI{l:Expr}{tl:TE}(F:PE X l tl):PI X tg l<|qce tl:=by
 intro pins s σ H R I h;refine c8 (F pins s σ H _ I h) λv z ⟨x,H1,B,r1,G⟩=>?_
 obtain⟨y,rfl,q⟩:=G;obtain⟨t,rfl⟩:=r1;have fin:∀a:Bool,PIE X pins σ tg R (.ref z.heap.objs.size) {z with heap:=z.heap.push {cls:=.type<|qbn a,data:=.fields #[.str y t,.int 0 0]} }:=λa=>by
  refine{z.heap.objs.size,[z.heap.objs.size],_,_,H1,rfl,B.kept (t':=z.toks) λb o e=>zam _ e,LY a y t _,{_,zaC _ rfl,rfl,rfl},λb M=>?_,q};have e:b=z.heap.objs.size:=by simpa using M
  subst e;exact B.fpOk (zah _)<|B.hok.fresh<|zah _
 cases ha:y.cps.all (·<128)
 .exact wpAny_pyIter_wide ha<|fin cf
 .exact wpAny_pyIter_ascii ha<|fin ca
def JN:OpR X (zaA .LtE) λx y H Q=>∃i j,x=.str i/\y=.str j/\Q (.bl<|!decide (j.cps.toList<i.cps.toList)) H:=by
 intro pins s σ H x y v u Q I z B h;obtain⟨i,j,rfl,rfl,q⟩:=h;obtain⟨t,rfl⟩:=z;obtain⟨t',rfl⟩:=B;exact PySem.P.le_str {.bl _,H,I,rfl,q}
theorem BW:∀ {ss:List Str} {its:List Value},Vals (ss.map V.str) its->StrsAre its ss
 |[],_,.nil=>.nil
 |x::ss,_,.cons r t=>by
  obtain⟨k,rfl⟩:=r;exact .cons x k<|BW t
def rJoin(K:zae):V->List V->Hp->VK->Prop:=λx vs H Q=>∃(sep:Str) (p:Addr) (ss:List Str),x=.str sep/\vs=[.ref p]/\SqL K H p (ss.map V.str)/\(ss.map (·.length)).sum+ss.length*sep.length<=16777216/\Q (.str<|Txt.join sep ss) H
def Q5:MtM X "str.join"<|rJoin X.K:=by
 intro pins s σ H x vs v Y Q I W U h;obtain⟨sep,p,ss,rfl,rfl,N,F,q⟩:=h;obtain⟨t,rfl⟩:=W;obtain⟨u,rfl,M⟩:=U.one;cases M;obtain⟨z,G,B,_⟩:=I.list N;exact join_list (items:=z.toArray) B.isList (by simpa using BW G) F λt' k=>{.str<|Txt.join sep ss,H,I.kept (t':=k) λ_ _ e=>e,{_,rfl},q}
end
end My
namespace P
section
variable {X:Cx}{O O':List Nat}{L:Lp}
noncomputable def QP:List D->Option (List Str)
 |[]=>bw []
 |.str b::l=>(QP l).map (b::·)
 |_=>bz
theorem CJ:∀ {ds:List D} {ns:List Str} {vs:List V},QP ds=bw ns->RepL A H ds vs->vs=ns.map V.str
 |[],_,_,e,.nil=>by cases e;rfl
 |d::ds,ns,_,e,.cons h t=>by
  cases d with
  |str b=>
   obtain⟨m,z,rfl⟩:=map_some e;cases RepB.str_inv (.of h);rw[CJ z t];rfl
  |_=>exact nn e
theorem xS:∀bs:List Str,QP (bs.map .str)=bw bs
 |[]=>rfl
 |b::bs=>by rw[zaj,QP,xS bs];rfl
def IT:D->D->Option D
 |.str sep,.lst l=>(QP l).bind λss=>if(ss.map (·.length)).sum+ss.length*sep.length<=16777216 then bw (.str<|Txt.join sep ss)else bz
 |_,_=>bz
set_option tactic.hygienic true in
def RD(N:PB X O o fo)(U:PB X O e fe)(M:∀ {to:TE} {t:TA},PE X o to->PA X [e] t->PE X (.Call (.Attribute o "join" apos) [e] [] cpos) (qd X.K "str" (My.rJoin X.K) to t))(hs:zag [e] X.env=(cf,eval e X.env)::zag [] X.env:=by rfl):PD X O (.Call (.Attribute o "join" apos) [e] [] cpos)<|bF IT fo fe:=
 PE.mono (M N<|BO U GU hs) <| by
  rintro σ H Q ⟨H0,A0,A,E,ρ,d,st,e,q⟩;obtain⟨x,ex,e⟩:=bind_some e;obtain⟨y,W,e⟩:=bind_some e;refine{H0,A0,A,E,ρ,x,st,ex,λv H1 F r1=>?_};unfold IT at e;split at e
  .rename_i sep l _
   obtain⟨ss,es,e⟩:=bind_some e;by_cases z:(ss.map (·.length)).sum+ss.length*sep.length<=16777216
   .rw[ci z]at e
    cases e;cases r1.str_inv;refine{rfl,H0,A0,A,E,ρ,[.lst l],st.mono F,by unfold aC aX;rw[W];rfl,λvs H2 G r2=>?_};obtain⟨w,rfl,B⟩:=r2.one;obtain⟨p,Y,rfl,h1,r3⟩:=B.lst_inv;rw[CJ es r3]at h1;exact{sep,p,ss,rfl,rfl,.inl h1,z,q _ H2 (F.trans G)<|.str _}
   .rw[cj z]at e;cases e
  .cases e
def XW(h:(ss.map (·.length)).sum+ss.length*sep.length<=16777216):IT (.str sep) (.lst<|ss.map .str)=bw (.str<|Txt.join sep ss):=by
 unfold IT;simp only[xS,zcR];rw[ci h]
noncomputable def VA:D->D->Option D
 |.int i,.int j=>bw<|.bl<|decide (i<=j)
 |.str i,.str j=>bw<|.bl<|!decide (j.cps.toList<i.cps.toList)
 |_,_=>bz
def ZP:mT X (zaA .LtE) VA:=OpR.mono (OpR.or qau My.JN) <| by
 rintro x y H Q ⟨A,dx,F,d,G,B,z,e,q⟩;unfold VA at e;split at e
 .cases e
  cases B.int_inv;cases z.int_inv;exact .inl {_,_,rfl,rfl,q _ H (Ext.refl _ _)<|.bl _}
 .cases e
  cases B.str_inv;cases z.str_inv;exact .inr {_,_,rfl,rfl,q _ H (Ext.refl _ _)<|.bl _}
 .cases e
@[simp] theorem q_leAI:VA (.int i) (.int j)=bw (.bl<|decide (i<=j)):=rfl
@[simp] theorem q_leAS:VA (.str i) (.str j)=bw (.bl<|!decide (j.cps.toList<i.cps.toList)):=rfl
def pI(x y:D):Option D:=match x,y with
 |.str i,.str j=>bw<|.bl<|!(!(Builtin.Str.occurrences j i 0 j.length 1).isEmpty)
 |x,y=>zW x y
def K5(F:X.A.units+64<cLine):mT X (zaA .NotIn) pI:=OpR.mono (OpR.or (LU F) yN) <| by
 rintro x y H Q ⟨A,dx,M,d,G,B,z,e,q⟩;unfold pI at e;split at e
 .cases e
  cases B.str_inv;cases z.str_inv;exact .inr {_,_,rfl,rfl,q _ H (Ext.refl _ _)<|.bl _}
 .exact .inl {A,_,_,d,G,B,z,e,q}
noncomputable def signs(x:Str):List D:=x.cps.toList.map λc=>.str {#[c]}
def YM:K9 (My.ItS x) []<|signs x:=by
 intro A H N U i;have z:(signs x).length=x.cps.size:=by simp[signs]
 refine{λhi=>by rw[z]at hi;exact hi,λd hd=>?_};have hi:i<x.cps.size:=by rw[<- z];exact(List.getElem?_eq_some_iff.mp hd).1
 refine{hi,λy H' ⟨e,c,B,M⟩=>?_};subst e M;have:d=.str {#[c]}:=by
  unfold signs at hd;rw[zav]at hd;obtain⟨F,G,rfl⟩:=map_some hd;have:x.cps[i]?=bw F:=by rw[<- zet];exact G
  rw[B]at this;cases this;rfl
 subst this;exact{Ext.refl _ _,.str _}
def gH(f:Ev):Lv:=λρ=>(f ρ).bind λd=>match d with
 |.lst l=>bw l
 |.tup l=>bw l
 |.dT l=>bw<|l.map λp=>.tup<|p.1.map LB
 |.str x=>bw<|signs x
 |_=>bz
@[simp] theorem q_lSeqA:gH f ρ=(f ρ).bind λd=>match d with
 |.lst l=>bw l
 |.tup l=>bw l
 |.dT l=>bw<|l.map λp=>.tup<|p.1.map LB
 |.str x=>bw<|signs x
 |_=>bz:=rfl
def NO(h:PD X O e f):PDI X O tg e<|gH f:=PI.mono (PI.or (UB h)<|My.YI h) <| by
 rintro σ H R ⟨H0,A0,A,E,ρ,items,st,e,q⟩;obtain⟨d,z,e⟩:=bind_some e;cases d with
 |str x=>
  cases e;refine .inr {H0,A0,A,E,ρ,_,st,z,λv H1 B r1=>?_};cases RepB.str_inv (.of r1);exact{x,rfl,q _ H1 [] B (λp F=>nomatch F) YM}
 |lst l=>exact .inl {H0,A0,A,E,ρ,items,st,by unfold QT;rw[z];exact e,q}
 |tup l=>exact .inl {H0,A0,A,E,ρ,items,st,by unfold QT;rw[z];exact e,q}
 |dT l=>exact .inl {H0,A0,A,E,ρ,items,st,by unfold QT;rw[z];exact e,q}
 |_=>exact nn e
end
structure GInt(mg:Str->Option Value)(x:Str)(i:Int):Prop where
 ex:∃t,mg x=bw (.int i t)
@[simp] theorem q_eqS:kQ (.str a) (.str b)=bw (.bl<|decide (a=b)):=by
 unfold kQ LM;rw[ci<|.inl rfl];by_cases h:a=b
 .subst h;simp
 .have h2:¬ D.str a=D.str b:=λz=>h (by injection z)
  simp[h]
@[simp] theorem q_neS:AK (.str a) (.str b)=bw (.bl<|!decide (a=b)):=by
 unfold AK LM;rw[ci<|.inl rfl];by_cases h:a=b
 .subst h;simp
 .have h2:¬ D.str a=D.str b:=λz=>h (by injection z)
  simp[h]
def gR{f rest:Sv}{ρ:dH}{R:D->Prop}(W:dH->Prop)(h:∃ρ',f ρ=bw (.nx ρ')/\W ρ')(k:∀ρ',W ρ'->∃d,rest ρ'=bw (.rt d)/\R d):∃d,dR f rest ρ=bw (.rt d)/\R d:=by
 obtain⟨ρ',e,w⟩:=h;rw[aH e];exact k ρ' w
def G7{c:Bv}{f rest:Sv}{ρ:dH}{R:D->Prop}(b:Bool)(z:c ρ=bw b)(F:b=ca->∃d,f ρ=bw (.rt d)/\R d)(B:b=cf->∃d,rest ρ=bw (.rt d)/\R d):∃d,dR (DO c f VG) rest ρ=bw (.rt d)/\R d:=by
 cases b with
 |true=>
  obtain⟨d,e,r⟩:=F rfl;exact{d,qG (by rw[qb3 z];exact e),r}
 |false=>
  rw[aH (ρ':=ρ)<|by rw[qbg z];rfl];exact B rfl
def eqN(n:Nat)(d:D):Prop:=∃x,kH d=bw x/\x.nb=ca/\x.dep<=n
def eqN.ok(h:eqN n d)(z:n<=60):fX d=ca:=by
 obtain⟨x,e,a,b⟩:=h;unfold fX;rw[e];show(x.nb && decide (x.dep<=60))=ca;rw[a,decide_eq_true<|by lia];rfl
theorem eqN.int:eqN n<|.int i:={.int i,rfl,rfl,zaM _}
theorem eqN.str:eqN n<|.str s:={.str s,rfl,rfl,zaM _}
theorem eqN.list:∀ {l:List D},(∀d∈l,eqN n d)->∃xs,kM l=bw xs/\My.IX xs=ca/\My.pS xs<=n
 |[],_=>{[],rfl,rfl,zaM _}
 |d::l,h=>by
  obtain⟨x,e,a,b⟩:=h d<|zar ..;obtain⟨xs,z,F,G⟩:=eqN.list (l:=l) λq B=>h q<|zaq _ B
  refine{x::xs,?_,?_,?_}
  .rw[kM,e,z];rfl
  .show(x.nb && My.IX xs)=ca
   rw[a,F];rfl
  .show max x.dep (My.pS xs)<=n
   lia
theorem eqN.tup(h:∀d∈l,eqN n d):eqN (n+1)<|.tup l:=by
 obtain⟨xs,e,a,b⟩:=eqN.list h;refine{.tup xs,?_,a,?_}
 .rw[kH,e];rfl
 .show My.pS xs+1<=n+1
  lia
theorem BE{z:Type}{rest:List (Option D)}{g h:z->D}:∀(l:List z) (o:Option D),(∀a∈l,f (bw (g a)::rest)=bw (h a))->bD (aQ 0) fP f (l.map g) (o::rest)=bw (l.map h)
 |[],o,_=>rfl
 |a::l,o,hf=>by
  have ih:=BE (f:=f) (rest:=rest) (g:=g) (h:=h) l (bw<|g a) λb B=>hf b<|zaq _ B
  have F:=hf a<|zar ..;simp[-zad,-zab,aA,aB,bD,F,ih]
theorem zU{f:Ev}{rest:List (Option D)}{R:D->Prop}:∀(l:List D) (o:Option D),(∀a∈l,∃d,f (bw a::rest)=bw d/\R d)->∃ds,bD (aQ 0) fP f l (o::rest)=bw ds/\ds.length=l.length/\∀d∈ds,R d
 |[],o,_=>{[],rfl,rfl,λ_ h=>nomatch h}
 |a::l,o,hf=>by
  obtain⟨ds,e,B,M⟩:=zU (f:=f) (rest:=rest) (R:=R) l (bw a) λb N=>hf b<|zaq _ N
  obtain⟨d,F,rd⟩:=hf a<|zar ..;refine{d::ds,by simp[-zad,-zab,aA,aB,bD,F,e],by simp[B],λq G=>?_};rcases List.mem_cons.mp G with z|z
  .rw[z];exact rd
  .exact M q z
def nM(z:0<=k)(h:k<(l.length:Int)):nQ (.lst l) (.int k) e=bw (.lst<|l.set k.toNat e):=by
 show(QZ l.length k).map _=_;unfold QZ;rw[ci z,ci h];rfl
def at_of(z:0<=k)(h:l[k.toNat]?=bw d):hW l k=bw d:=by
 obtain⟨j,rfl⟩:∃j:Nat,k=(j:Int):={k.toNat,by lia};exact bY<|by simpa using h
def wC(B:0<=k)(h:k<(l.length:Int)):∃d,d∈l/\l[k.toNat]?=bw d/\hW l k=bw d:=by
 have z:k.toNat<l.length:=by lia
 have e:l[k.toNat]?=bw l[k.toNat]:=zaG z;exact{l[k.toNat],zeA z,e,at_of B e}
def x8(hd:d∈aS 0 1 n):∃i:Int,d=.int i/\0<=i/\i<(n:Int):=by
 unfold aS at hd;obtain⟨j,z,rfl⟩:=List.mem_map.mp hd;have:=List.mem_range.mp z;exact{0+(j:Int)*1,rfl,by lia,by lia}
theorem GS:∀ {l:List D},(∀d∈l,∃s:Str,d=.str s)->∃ss:List Str,l=ss.map .str
 |[],_=>{[],rfl}
 |d::l,h=>by
  obtain⟨s,rfl⟩:=h d<|zar ..;obtain⟨ss,e⟩:=GS (l:=l) λq z=>h q<|zaq _ z
  exact{s::ss,by rw[e];rfl}
theorem HV(I:Nat->dH->Prop)(J:dH->Prop)(h:∀n ρ,I n ρ->(c ρ=bw ca/\∃m ρ',m<n/\b ρ=bw (.nx ρ')/\I m ρ')\/(c ρ=bw cf/\J ρ)):∀(fuel n:Nat) (ρ:dH),n<fuel->I n ρ->∃ρ',fJ c b fuel ρ=bw (.nx ρ')/\J ρ'
 |0,n,ρ,hn,_=>absurd hn<|zeB n
 |fuel+1,n,ρ,hn,hi=>by
  rcases h n ρ hi with⟨z,m,ρ',N,M,G⟩|⟨z,F⟩
  .obtain⟨B,e,F⟩:=HV I J h fuel m ρ' (by lia) G
   refine{B,?_,F};unfold fJ;rw[z,aA,ci rfl,M,aA];exact e
  .refine{ρ,?_,F}
   unfold fJ;rw[z,aA,cj zaD]
def J7{c:Bv}{b rest:Sv}{ρ:dH}{R:D->Prop}(I:Nat->dH->Prop)(J:dH->Prop)(n:Nat)(B:n<100000)(F:I n ρ)(h:∀n ρ,I n ρ->(c ρ=bw ca/\∃m ρ',m<n/\b ρ=bw (.nx ρ')/\I m ρ')\/(c ρ=bw cf/\J ρ))(k:∀ρ',J ρ'->∃d,rest ρ'=bw (.rt d)/\R d):∃d,dR (nL c b) rest ρ=bw (.rt d)/\R d:=by
 obtain⟨ρ',e,G⟩:=HV I J h 100000 n ρ B F;have z:nL c b ρ=bw (.nx ρ'):=e;rw[aH z];exact k ρ' G
def PD.pe(h:PD X O e f):PE X e<|tD Rep O f:=h
noncomputable def isStar:Expr->Bool
 |.Starred ..=>ca
 |_=>cf
def cJ(h:isStar e=cf):zag (e::es) env=(cf,eval e env)::zag es env:=by
 cases e <;> first|rfl|cases h
theorem iD:∀ {es:List Expr},(es.all λe=>!isStar e)=ca->(zaJ pos<|zag es env).any (·.1)=cf
 |[],_=>by simp[zag,zaJ]
 |e::es,h=>by
  rw[List.all_cons,zaS]at h;have B:isStar e=cf:=by cases z:isStar e;rfl;rw[z]at h;exact absurd h.1<|by decide
  have ih:=iD (pos:=pos) (env:=env) (es:=es) h.2;rw[cJ B];simp only[zaJ,zaj,zcg,Bool.false_or]at ih ⊢;exact ih
end P
namespace My
open PySem.SeqAt
def kS:entryFor table "dict.update.loop" = bw zb8.«dict.update.loop»:=entryFor_of_tree<|by kernel_rfl
def d5:plainId "dict.update.loop" = ca:=by decide +kernel
def tN:typeLookup (.type "list") (za1 "keys")=pure bz:=by rw[typeLookup_type,builtinLookup_eq_fast];kernel_rfl
def sC:typeLookup (.type "tuple") (za1 "keys")=pure bz:=by rw[typeLookup_type,builtinLookup_eq_fast];kernel_rfl
section
variable {prog:zai}{w:World}{A:zan}{E:Value->zac->Prop}{s:zac}
def tL(hx:s.heap.get? a=bw o)(M:o.cls=.type "list")(z:o.data=.seq xs k)(hd:o.dict=bz)(U:A.handled=bz)
  (h:∀h' tk,(∀b o,s.heap.get? b=bw o->h'.get? b=bw o)->Q bz {s with heap:=h',toks:=tk}):wpAny (model prog w) A (getAttr? (.ref a) "keys") Q E s:=by
 obtain⟨c,N,W,sl⟩:=o;simp only at M z hd;subst M z hd;obtain⟨hp,g,d,tk,Y⟩:=s;have hT:∀G,({hp,g,d,G,Y}:zac).TypeIs (.ref a) "list" := λ_=>{_,hx,rfl}
 have f1:=sub_AttributeError;have f3:=PySem.F.slot_list_getattribute.lookup;have f4:=PySem.F.slot_list_getattribute.bind<|.ref a;have f5:=am_list_getattr_none;unfold getAttr? getAttrBy? getAttrBy
 repeat (any_goals (first|assumption|exact hT _|((with_reducible show wpAny _ _ (call (Value.builtin "list.__getattribute__") _ _) _ _ _);refine zcL PySem.F.slot_list_getattribute (hT _) am_entry_list_getattribute (PySem.F.args_list_getattribute_2 _ _) (meets_getattribute_miss_list a xs k sl (za1 "keys") _ tN (by decide)<|by size_fits) {hx,U,λh' G e B=>?_})|wp_step))
 obtain⟨t',u',he⟩:=B.there;show wpAny _ _ (zdX _ _ _ _ _ _ _) _ _ _;unfold zdX
 repeat (any_goals (first|assumption|wp_step))
 exact h _ _ B.keeps
def sE(hx:s.heap.get? a=bw o)(M:o.cls=.type "tuple")(z:o.data=.seq xs k)(hd:o.dict=bz)(U:A.handled=bz)
  (h:∀h' tk,(∀b o,s.heap.get? b=bw o->h'.get? b=bw o)->Q bz {s with heap:=h',toks:=tk}):wpAny (model prog w) A (getAttr? (.ref a) "keys") Q E s:=by
 obtain⟨c,N,W,sl⟩:=o;simp only at M z hd;subst M z hd;obtain⟨hp,g,d,tk,Y⟩:=s;have hT:∀G,({hp,g,d,G,Y}:zac).TypeIs (.ref a) "tuple" := λ_=>{_,hx,rfl}
 have f1:=sub_AttributeError;have f3:=PySem.F.slot_tuple_getattribute.lookup;have f4:=PySem.F.slot_tuple_getattribute.bind<|.ref a;have f5:=am_tuple_getattr_none;unfold getAttr? getAttrBy? getAttrBy
 repeat (any_goals (first|assumption|exact hT _|((with_reducible show wpAny _ _ (call (Value.builtin "tuple.__getattribute__") _ _) _ _ _);refine zcL PySem.F.slot_tuple_getattribute (hT _) am_entry_tuple_getattribute (PySem.F.args_tuple_getattribute_2 _ _) (meets_getattribute_miss_tuple a xs k sl (za1 "keys") _ sC (by decide)<|by size_fits) {hx,U,λh' G e B=>?_})|wp_step))
 obtain⟨t',u',he⟩:=B.there;show wpAny _ _ (zdX _ _ _ _ _ _ _) _ _ _;unfold zdX
 repeat (any_goals (first|assumption|wp_step))
 exact h _ _ B.keeps
end
section
variable {X:Cx}{pins:List (Addr×Obj)}{σ:L2.St}{H:Hp}{s:zac}{a:Addr}{y v:V}{u r:Value}{A:zan}{E:Value->zac->Prop}
def KI(hu:A.units+1<cLine)(I:Inv X pins σ H s)(g:DPut H a y v H')(ry:RelV y u)(rv:RelV v r)(h:∀h' t',Inv X pins σ H' {s with heap:=h',toks:=t'}->za6 a s.heap h'->Q () {s with heap:=h',toks:=t'}) :
  wpAny (model X.prog X.w) A (dictSet a u r) Q E s:=by
 rcases g with⟨kvs,k,e,Y,l,W⟩|⟨kvs,k,b,e,Y,eb,l,W⟩
 .subst Y W
  obtain⟨z,hd,vs,B,U⟩:=VT I.hok e;have N:vs.length<=zal:=by rw[<- B.length];exact z
  have M:(putK kvs k v).length<=zal:=by have:=gE kvs k v;lia
  refine wpAny_dictSet_pairs (hsz:=N) (yL ry) U λh' F hs=>h _ _ ?_ hs
  have he:∃q,h'.get? a=bw q:=let ⟨q,_,_,G,_⟩:=F;⟨q,G⟩;exact pH I (by rw[e];exact za0) hs he<|P7 M hd (B.put k rv) F
 .subst Y W
  cases(show u=zax b from ry);obtain⟨z,hd,xs,B,U⟩:=VS I.hok e;have N:xs.length<=zal:=by rw[<- zcY B];exact z
  have M:(putK kvs k v).length<=zal:=by have:=gE kvs k v;lia
  refine wpAny_dictSet_heap (hsz:=N) (show A.units<cLine by lia) (qF I.hok eb) U λh' F hs=>h _ _ ?_ hs
  obtain⟨q,es,ep,G,h2,h3,h4,_,h5⟩:=F;refine pH I (by rw[e];exact za0) hs ⟨q,G⟩ {M,hd,_,(B.put k eb rv).keeps λc ys ec=>?_,q,es,ep,G,h2,h3,h4,h5};rw[aG<|rW ec e λz=>nomatch z];exact ec
end
inductive Puts(d:Addr):Hp->List (V×V)->Hp->Prop where
 | nil {H:Hp}:Puts d H [] H
 | cons {H H1 H2:Hp} {y v:V} {l:List (V×V)} (h:DPut H d y v H1) (t:Puts d H1 l H2):Puts d H ((y,v)::l) H2
def CW(g:DPut H a y v H'):(∃u,H a=bw u/\(∀xs,u≠.tup xs)/\∀o w,u≠.frz o w)/\∀b,b≠a->H' b=H b:=by
 rcases g with⟨kvs,k,e,G,l,B⟩|⟨kvs,k,b,e,G,M,l,B⟩
 .subst B;exact{{_,e,(λ_ z=>nomatch z),(λ_ _ z=>nomatch z)},λb F=>aG F}
 .subst B;exact{{_,e,(λ_ z=>nomatch z),(λ_ _ z=>nomatch z)},λb F=>aG F}
def ND{K:zae}{H H':Hp}{a:Addr}{y v:V}(g:DPut H a y v H'){b:Addr}{xs:List V}(h:SqT K H b xs):SqT K H' b xs:=by
 obtain⟨⟨u,e,B,F⟩,same⟩:=CW g;rcases h with(h|⟨o,h⟩)|h
 .exact .inl<|.inl<|by rw[same b λz=>by rw[z,e]at h;exact B _<|zaz h];exact h
 .exact .inl<|.inr {o,by rw[same b λz=>by rw[z,e]at h;exact F _ _<|zaz h];exact h}
 .exact .inr h
section
variable {X:Cx}{pins:List (Addr×Obj)}{σ:L2.St}{A:zan}{R:Result->zac->Prop}{it d:Addr}{fp:List Addr}{n:Nat}{P:Nat->Value->Prop}{St:Nat->Heap->Prop}{H2:Hp}
theorem mX(W:Walks X.prog X.w A.in1 it fp [it] n P St)(hd:d∉fp)(hu:A.in1.units+1<cLine)(fin:∀s',Inv X pins σ H2 s'->R (.ok<|.ret .none) s'):∀(l:List<|V×V) (j:Nat) (s:zac) (H:Hp) (t:Tok) (i:Int),n-j=l.length->j<=n->St j s.heap->Inv X pins σ H s->i9 X pins H it->
  (∀(m:Nat) (p:V×V) (v:Value),l[m]?=bw p->P (j+m) v->∃b,v=.ref b/\SqT X.K H b [p.1,p.2])->Puts d H l H2->
  zbj (model X.prog X.w) A (.builtin "dict.update.loop" {[.ref d,.ref it,.int i t,.none],[]}) R s
 |[],j,s,H,t,i,hn,hj,st,I,fo,facts,pu=>by
  cases pu;obtain⟨F,f1,f2,G,M,N⟩:=fo;have e:j=n:=by simp at hn;lia
  subst e;refine zdg kS ?_;rw[zdh d5 _];show wpAny _ A.in1 (zaW (.ref it) >>= λ_=>_) _ _ s;refine zaa<|W.done s _ _ st λh1 tk same=>?_;show wpAny _ _ (Builtin.Dict.addKeywords d [] >>= _) _ _ _;exact zaa<|zaf<|zaf<|fin _<|I.turned (t':=tk) (λb o hb e=>same b o (by simpa using hb) e) F f1 G M N
 |(y,v)::l,j,s,H,t,i,hn,hj,st,I,fo,facts,pu=>by
  obtain⟨F,f1,f2,G,M,N⟩:=id fo;cases pu with
  |@cons _ H1 _ _ _ _ dp pu=>
  have lt:j<n:=by rw[zaB]at hn;lia
  refine zdg kS ?_;rw[zdh d5 _];show wpAny _ A.in1 (zaW (.ref it) >>= λ_=>_) _ _ s;refine zaa<|W.item j s _ _ lt st λv1 h1 tk pv U same=>?_;obtain⟨b,rfl,sq⟩:=facts 0 (y,v) v1 rfl pv;have I1:Inv X pins σ H {s with heap:=h1,toks:=tk}:=I.turned (t':=tk) (λb o hb e=>same b o (by simpa using hb) e) F f1 G M N;obtain⟨ao,rv,ht,hz⟩:=I1.tuple sq;cases rv with
  |@cons _ u _ us ru rt=>
  cases rt with
  |@cons _ r _ us2 rr rt2=>
  cases rt2;obtain⟨o,ho,hc,nn,Y⟩:=id ht;show wpAny _ A.in1 (zbJ [zax b] _ >>= λ_=>_) _ _ _;refine zaa<|zbg ?_;refine zaa<|zcz ?_;unfold Builtin.Dict.pairItems;refine zaa<|zcK ht.typeIs ?_;rw[ci<|by decide];refine zaa<|zbh ho Y<|zaf ?_;show wpAny _ A.in1 (zbJ [u,r]<|dictSet d u r) _ _ _;refine zbg<|KI hu I1 dp ru rr λh2 t2 I2 sb=>?_;obtain⟨⟨uo,eu,_,_⟩,B⟩:=CW dp;have nd:it≠d:=λz=>by rw[<- z,F]at eu;cases eu
  refine zaf {zcA d5 _,mX W hd hu fin l (j+1) _ H1 _ _ (by rw[zaB]at hn;lia) lt (W.frame _ _ _ U λb bf o eb=>?_) I2 {by rw[B it nd];exact F,f1,f2,G,M,N} (λm p v2 hm hp=>?_) pu}
  .exact(sb.2 b λz=>hd<|z ▸ bf).trans eb
  .obtain⟨c,e,sq⟩:=facts (m+1) p v2 (by simpa using hm) (by rw[show j+(m+1)=j+1+m by lia];exact hp)
   exact{c,e,ND dp sq}
end
section
variable {X:Cx}
def Src(X:Cx)(H:Hp)(p:Addr)(ys:List V):Prop:=SqL X.K H p ys\/Rd H p (.tup ys)
def DZ(hc:X.calm=ca)(hu:X.A.units+64<cLine):CallR X (.type "dict") λxs H Q=>∃p ys l,xs=[.ref p]/\Src X H p ys/\l.length=ys.length/\(∀(m:Nat) (pr:V×V),l[m]?=bw pr->∃b,ys[m]?=bw (.ref b)/\SqT X.K H b [pr.1,pr.2]) /\
  ∀q,H q=bz->∃H2,(Puts q (upd H q<|.dK []) l H2\/Puts q (upd H q<|.dT []) l H2)/\Q (.ref q) H2:=by
 intro pins s σ H xs us Q I r h;obtain⟨p,ys,l,rfl,ay,hl,al,q⟩:=h;obtain⟨u,rfl,rx⟩:=vals1 r;cases rx;obtain⟨H2,pu,q⟩:=q s.heap.objs.size<|I.hok.fresh<|zah _;refine callType_codes (Q₁:=λao ad=>ao=.ref s.heap.objs.size/\ad={s with heap:=s.heap.push {cls:=.type "dict",data:=.dict #[]} }) PySem.F.kt_called_dict (PySem.F.kt_typeCall_dict_1 _) PySem.F.entry_dict_init (kt_code_dict_new _ {rfl,rfl}) ?_;rintro ao ad ⟨rfl,rfl⟩;have n1:(s.heap.push {cls:=.type "dict",data:=.dict #[]}).get? s.heap.objs.size=bw {cls:=.type "dict",data:=.dict #[]}:=zaC _ rfl;have t1:Shared.TypeIs {s with heap:=s.heap.push {cls:=.type "dict",data:=.dict #[]} } (.ref s.heap.objs.size) "dict" := {_,n1,rfl};refine{t1,PySem.F.args_dict_init_2 _ _,?_};unfold zb8.«dict.__init__»;refine zaa ?_;unfold Builtin.Dict.selfAndRest;refine zaa<|wpAny_notOrdered_dict t1 ?_;show wpAny _ _ (pure (s.heap.objs.size,[zax p])) _ _ _;refine zaf ?_;show wpAny _ _ (Builtin.Dict.updateFrom "dict.__init__" s.heap.objs.size (.ref p) [] .none) _ _ _;unfold Builtin.Dict.updateFrom;obtain⟨u0,a5,IK,pu⟩:∃u0:HO,(u0=.dK []\/u0=.dT [])/\Inv X pins σ (upd H s.heap.objs.size u0) {s with heap:=s.heap.push {cls:=.type "dict",data:=.dict #[]} }/\Puts s.heap.objs.size (upd H s.heap.objs.size u0) l H2:=by
  rcases pu with pu|pu
  .exact{_,.inl rfl,I.laid (a:=s.heap.objs.size) (o:=.dK []) (h':=s.heap.push {cls:=.type "dict",data:=.dict #[]}) (t':=s.toks) (λ_ _ q=>zam _ q) (zah _)<|M8 s.heap I.big,pu}
  .exact{_,.inr rfl,I.laid (a:=s.heap.objs.size) (o:=.dT []) (h':=s.heap.push {cls:=.type "dict",data:=.dict #[]}) (t':=s.toks) (λ_ _ q=>zam _ q) (zah _)<|BF s.heap I.big,pu}
 have am:∀b u,H b=bw u->b≠s.heap.objs.size:=λb u e z=>zbt _<|by have:=(I.hok b u e).lt;rw[z]at this;exact this
 have an:∀ {b:Addr} {zs:List V},SqT X.K H b zs->SqT X.K (upd H s.heap.objs.size u0) b zs:=λ{b zs} h=>by
  rcases h with(h|⟨o,h⟩)|h
  .exact .inl<|.inl<|by rw[aG<|am _ _ h];exact h
  .exact .inl<|.inr {o,by rw[aG<|am _ _ h];exact h}
  .exact .inr h
 have aj:∀ {o:Obj},s.heap.get? p=bw o->p<s.heap.objs.size:=λe=>zao e
 rcases ay with sq|sq
 .obtain⟨aa,rv,pl,hz⟩:=I.list sq
  obtain⟨o,n,ho,M,ai,U⟩:=id pl;have Y:=rv.length;have G:(s.heap.push {cls:=.type "dict",data:=.dict #[]}).get? p=bw o:=zam _ ho;refine zaa<|zcK (s:={s with heap:=s.heap.push {cls:=.type "dict",data:=.dict #[]} }) ⟨o,G,M⟩ ?_;rw[ci<|by decide];refine zaa<|tL (s:={s with heap:=s.heap.push {cls:=.type "dict",data:=.dict #[]} }) G M U ai (I.ok.hd hc) λh' tk B=>?_;simp only[Option.isNone_none,if_true];refine zaa<|zbV<|zaa<|zbZ (s:={s with heap:=h',toks:=tk}) (items:=aa.toArray) {o,B _ _ G,M,n,U} ?_;have N:Inv X pins σ (upd H s.heap.objs.size u0) {s with heap:=h',toks:=tk}:=IK.kept (t':=tk) B;have ae:Inv X pins σ (upd H s.heap.objs.size u0) {s with heap:=h'.push {cls:=.type "list_iterator",data:=.fields #[.ref p,.int 0 0]},toks:=tk}:=N.kept (t':=tk) λb o e=>zam _ e
  have lp:p<h'.objs.size:=zao<|B _ _ G;have ld:s.heap.objs.size<h'.objs.size:=zao<|B _ _ n1;have W:=zcQ (prog:=X.prog) (w:=X.w) (A:=X.A.in1.in1) (I.ok.hd hc) h'.objs.size p (zaE lp) aa.toArray;refine zaf {zcA d5 _,mX (X:=X) (pins:=pins) (σ:=σ) (H2:=H2) W (d:=s.heap.objs.size) ?_ (by show X.A.units+1+1+1<cLine;lia) ?_ l 0 _ _ _ _ ?_ (zaM _) ?_ ae ?_ ?_ pu}
  .intro z
   rcases List.mem_cons.mp z with z|z
   .exact zaE ld z
   .exact zbb (aj ho)<|List.mem_singleton.mp z
  .exact λs' I'=>{rfl,.ref s.heap.objs.size,H2,I',rfl,q}
  .rw[zay,<- Y,hl];lia
  .exact{{_,zaC _ rfl,rfl,rfl},{o,zam _<|B _ _ G,M,n,U}}
  .exact N.fpOk (zah _)<|N.hok.fresh<|zah _
  .intro m pr v hm hv
   obtain⟨b,e1,e2⟩:=al m pr hm;rw[zaN]at hv;refine{b,?_,an e2};obtain⟨w',hw,ah⟩:=rv.get e1;rw[List.getElem?_toArray,hw]at hv;cases(show w'=zax b from ah);exact(zaz hv).symm
 .obtain⟨hz,aa,rv,o,ho,M,n,U,ai⟩:=(show ObjOk X.prog X.w H s.heap p (.tup ys)from sq.ok I.hok)
  have Y:=rv.length;have G:(s.heap.push {cls:=.type "dict",data:=.dict #[]}).get? p=bw o:=zam _ ho;refine zaa<|zcK (s:={s with heap:=s.heap.push {cls:=.type "dict",data:=.dict #[]} }) ⟨o,G,M⟩ ?_;rw[ci<|by decide];refine zaa<|sE (s:={s with heap:=s.heap.push {cls:=.type "dict",data:=.dict #[]} }) G M U ai (I.ok.hd hc) λh' tk B=>?_;simp only[Option.isNone_none,if_true];refine zaa<|zbV<|zaa<|zb0 (s:={s with heap:=h',toks:=tk}) (items:=aa.toArray) {o,B _ _ G,M,n,U} ?_;have N:Inv X pins σ (upd H s.heap.objs.size u0) {s with heap:=h',toks:=tk}:=IK.kept (t':=tk) B;have ae:Inv X pins σ (upd H s.heap.objs.size u0) {s with heap:=h'.push {cls:=.type "tuple_iterator",data:=.fields #[.ref p,.int 0 0]},toks:=tk}:=N.kept (t':=tk) λb o e=>zam _ e
  have lp:p<h'.objs.size:=zao<|B _ _ G;have ld:s.heap.objs.size<h'.objs.size:=zao<|B _ _ n1;have W:=Walks.tuple (prog:=X.prog) (w:=X.w) (A:=X.A.in1.in1) (I.ok.hd hc) h'.objs.size p (zaE lp) aa.toArray;refine zaf {zcA d5 _,mX (X:=X) (pins:=pins) (σ:=σ) (H2:=H2) W (d:=s.heap.objs.size) ?_ (by show X.A.units+1+1+1<cLine;lia) ?_ l 0 _ _ _ _ ?_ (zaM _) ?_ ae ?_ ?_ pu}
  .intro z
   rcases List.mem_cons.mp z with z|z
   .exact zaE ld z
   .exact zbb (aj ho)<|List.mem_singleton.mp z
  .exact λs' I'=>{rfl,.ref s.heap.objs.size,H2,I',rfl,q}
  .rw[zay,<- Y,hl];lia
  .exact{{_,zaC _ rfl,rfl,rfl},{o,zam _<|B _ _ G,M,n,U}}
  .exact N.fpOk (zah _)<|N.hok.fresh<|zah _
  .intro m pr v hm hv
   obtain⟨b,e1,e2⟩:=al m pr hm;rw[zaN]at hv;refine{b,?_,an e2};obtain⟨w',hw,ah⟩:=rv.get e1;rw[List.getElem?_toArray,hw]at hv;cases(show w'=zax b from ah);exact(zaz hv).symm
end
section
variable {X:Cx}
def DV:CallR X (.type "dict") λxs H Q=>∃d kvs,xs=[.ref d]/\Rd H d (.dK kvs)/\∀p,H p=bz->Q (.ref p) (upd H p<|.dK kvs):=by
 intro pins s σ H xs W Q I r h;obtain⟨d,kvs,rfl,hd,q⟩:=h;obtain⟨u,rfl,M⟩:=vals1 r;cases M;obtain⟨z,y,vs,B,N⟩:=yH I.hok hd;have G:vs.length<=zal:=by rw[<- B.length];exact z
 refine kt_call_dict (knd:=bE X.prog X.w) y N G λh' F sb=>?_
 refine{.ref s.heap.objs.size,_,I.laid (t':=s.toks) (o:=.dK kvs) (λb U q=>(sb.2 b<|zaE<|zao q).trans<|zam _ q) (zah _) {z,beq_eq_false_iff_ne.mpr<|zaV<|zaE I.big,vs,B,F},rfl,q _<|I.hok.fresh<|zah _}
def ZK(h:H2 q=bw u)(k:∀b,b≠q->H2 b=H b):H2=upd H q u:=funext λb=>by
 by_cases e:b=q
 .subst e;rw[aJ];exact h
 .rw[aG e];exact k b e
def vX{κ:Type}[DecidableEq κ](kvs more:List<|κ×V):List<|κ×V:=more.foldl (λacc z=>putK acc z.1 z.2) kvs
theorem P0:∀(prs:List<|Key×V) (H:Hp) (xs:List<|Key×V),H q=bw (.dK xs)->xs.length+prs.length<zal->∃H2,Puts q H (prs.map λp=>(kV p.1,p.2)) H2/\H2 q=bw (.dK<|vX xs prs)/\∀b,b≠q->H2 b=H b
 |[],H,xs,e,hl=>{H,.nil,e,λ_ _=>rfl}
 |p::prs,H,xs,e,hl=>by
  have G:=gE xs p.1 p.2;rw[zaB]at hl;obtain⟨H2,B,F,k⟩:=P0 prs (upd H q<|.dK<|putK xs p.1 p.2) (putK xs p.1 p.2) aJ (by lia);exact{H2,.cons (DPut.k e<|by lia) B,F,λb z=>(k b z).trans<|aG z}
end
end My
namespace P
section
variable {X:Cx}{A:Av}{H:Hp}
def FX:List D->Option (List<|Key×D)
 |[]=>bw []
 |.tup [k,v]::l=>(Z4 k).bind λkk=>(FX l).map λr=>(kk,v)::r
 |_=>bz
def mR{κ:Type}[DecidableEq κ](l more:List<|κ×D):List<|κ×D:=more.foldl (λm p=>putD m p.1 p.2) l
def T4{κ:Type}[DecidableEq κ]{more:List (κ×D)}{ys:List (κ×V)}(h:PP A H more ys):∀ {l:List (κ×D)} {xs:List (κ×V)},PP A H l xs->PP A H (mR l more) (My.vX xs ys):=by
 induction h with
 |nil=>intro l xs q;exact q
 |@cons p q ps qs h t ih=>
  intro l xs z;have:=ih<|vZ p.1 h.2 z;rw[show mR l (p::ps)=mR (putD l p.1 p.2) ps from rfl,show My.vX xs (q::qs)=My.vX (putK xs q.1 q.2) qs from rfl,<- h.1];exact this
set_option tactic.hygienic true in
theorem C0:∀ {l:List D} {kvs:List (Key×D)} {xs:List V},FX l=bw kvs->RepL A H l xs->∃z:List (Key×V),PP A H kvs z/\z.length=xs.length/\∀(m:Nat) (B:V×V),(z.map λp=>(kV p.1,p.2))[m]?=bw B->∃b,xs[m]?=bw (.ref b)/\H b=bw (.tup [B.1,B.2])
 |_,kvs,_,e,.nil=>by cases e;exact{[],.nil,rfl,λm B h=>by simp at h}
 |d::l,kvs,v::xs,e,.cons h t=>by
  unfold FX at e;split at e
  .cases ‹_::_=[]›
  .rename_i k w l' heq
   injection heq with h1 h2
   subst h1 h2;obtain⟨U,N,e⟩:=bind_some e;obtain⟨r,Y,rfl⟩:=map_some e;obtain⟨z,W,G,hm⟩:=C0 Y t;obtain⟨a,zs,rfl,M,F⟩:=RepB.tup_inv<|.of h;cases F with
   |@cons _ z1 _ zs1 q1 F=>
   cases F with
   |@cons _ z2 _ zs2 q2 F=>
   cases F;have ek:=sO N<|.of q1;subst ek;refine{(U,z2)::z,.cons {rfl,q2} W,by simp[G],λm B h=>?_};cases m with
   |zero=>simp at h;subst h;exact{a,rfl,M}
   |succ m=>exact hm m B<|by simpa using h
  .cases e
noncomputable def VN:D->Option (List D)
 |.lst l=>bw l
 |.tup l=>bw l
 |_=>bz
def gJ:List D->Option D
 |[.dK l]=>bw<|.dK l
 |[d]=>(VN d).bind λl=>if a9 l.length then(FX l).map λkvs=>.dK (mR [] kvs)else bz
 |_=>bz
def OM(h:VN d=bw l)(r:RepB A H d v):∃p ys,v=.ref p/\My.Src X H p ys/\RepL A H l ys:=by
 cases d with
 |lst m=>cases h;obtain⟨a,xs,rfl,h1,h2⟩:=r.lst_inv;exact{a,xs,rfl,.inl<|.inl h1,h2}
 |tup m=>cases h;obtain⟨a,xs,rfl,h1,h2⟩:=r.tup_inv;exact{a,xs,rfl,.inr<|.inl h1,h2}
 |_=>exact nn h
def szL(h:a9 n=ca):0+n<zal:=by rw[zaN];exact jV h
set_option tactic.hygienic true in
def lM(hc:X.calm=ca)(hu:X.A.units+64<cLine):ID X (.type "dict") gJ:=by
 intro pins s σ H xs us Q I r h;obtain⟨A,ds,d,lv,rl,e,q⟩:=h;unfold gJ at e;split at e
 .cases e
  obtain⟨v,rfl,h1⟩:=rl.one;obtain⟨a,ys,rfl,h2,U,r3⟩:=h1.dK_inv;exact My.DV pins s σ H _ us Q I r {a,ys,rfl,h2,λp M=>q p _ (Ext.new M) M (λz=>lv p z M)<|.dK aJ U<|r3.fresh M}
 .obtain⟨l,e1,e⟩:=bind_some e
  split at e
  .rename_i hz
   obtain⟨kvs,e2,rfl⟩:=map_some e;obtain⟨v,rfl,h1⟩:=rl.one;obtain⟨p,ys,rfl,W,G⟩:=OM (X:=X) e1 h1;obtain⟨B,pp,Y,hm⟩:=C0 e2 G;have F:=G.length;refine My.DZ hc hu pins s σ H _ us Q I r {p,ys,B.map λp=>(kV p.1,p.2),rfl,W,by rw[zak];exact Y,λm pr h=>?_,λa N=>?_}
   .obtain⟨b,x1,x2⟩:=hm m pr h
    exact{b,x1,.inl<|.inl x2}
   .obtain⟨H2,pu,U,k⟩:=My.P0 B (upd H a<|.dK []) [] aJ (by rw[Y,F];exact szL hz)
    have eH:H2=upd H a (.dK<|My.vX [] B):=My.ZK U λb hb=>(k b hb).trans<|aG hb
    obtain⟨f1,f2⟩:=x9<|T4 pp<|Paired.nil;refine{H2,.inl pu,?_};rw[eH];exact q a _ (Ext.new N) N (λz=>lv a z N)<|.dK aJ f1<|f2.fresh N
  .cases e
 .cases e
end
end P
namespace My
open PySem.SeqAt
theorem GA:∀ {xs:List V} {us:List Value},xs.length=us.length->(∀(j:Nat) (x:V) (u:Value),xs[j]?=bw x->us[j]?=bw u->RelV x u)->Vals xs us
 |[],[],_,_=>.nil
 |[],_::_,h,_=>by simp at h
 |_::_,[],h,_=>by simp at h
 |x::xs,u::us,h,k=>.cons (k 0 x u rfl rfl)<|GA (by simpa using h) λj y v B z=>k (j+1) y v (by simpa using B)<|by simpa using z
section
variable {X:Cx}
def NW:CallR X (.type "range") λxs H Q=>∃i,xs=[.int i]/\∀p,H p=bz->Q (.ref p) (upd H p<|.rng 0 i):=by
 intro pins s σ H xs z Q I r h;obtain⟨i,rfl,q⟩:=h;obtain⟨u,rfl,t,rfl⟩:=vals1 r;exact call_range_1 {.ref s.heap.objs.size,_,I.laid (t':=s.toks+1+1) (o:=.rng 0 i) (λb B q=>zam _ q) (zah _) {_,_,_,zaC _ rfl},rfl,q _<|I.hok.fresh<|zah _}
def D4(N:X.calm=ca):CallR X (.type "list") λxs H Q=>∃p i,xs=[.ref p]/\H p=bw (.rng 0 i)/\0<=i/\i<=1000000/\∀l,H l=bz->Q (.ref l) (upd H l<|.lst<|(zau i.toNat).map λ(j:Nat)=>V.int (j:Int)):=by
 intro pins s σ H xs us Q I r h;obtain⟨p,i,rfl,U,i0,i1,q⟩:=h;obtain⟨u,rfl,Y⟩:=vals1 r;cases Y;obtain⟨t,u,v,W⟩:=(show ObjOk X.prog X.w H s.heap p (.rng 0 i)from I.hok p _ U);refine call_list_range (n:=i.toNat) (I.ok.hd N) W (small_one (by lia) (by lia) (by lia)<|by lia) (by rw[rangeSize_one];split <;> lia) (by lia) λh' tk acc c z M items=>?_
 refine{.ref s.heap.objs.size,_,I.laid (t':=tk) (o:=.lst<|(zau i.toNat).map λ(j:Nat)=>V.int (j:Int)) z (zah _) {by rw[zak,zcS,zc5];lia,acc.toList,c,GA ?_ λj x u F G=>?_,by simpa using M},rfl,q _<|I.hok.fresh<|zah _}
 .rw[zak,zcS,zbY,items.1]
 .rw[zet]at G
  obtain⟨t,rfl⟩:=items.2 j u G;rw[zav]at F;obtain⟨k,B,rfl⟩:=P.map_some F;have:k=j:=by
   rw[zdc]at B
   .exact(zaz B).symm
   .have:=(List.getElem?_eq_some_iff.mp B).1;rwa [zcS]at this
  subst this;exact{t,by rw[show(0:Int)+(k:Int)*1=(k:Int) by lia]}
end
end My
namespace P
section
variable {X:Cx}{O:List Nat}
def AF(d:D):Option D:=match d with
 |.int i=>if 0<=i/\i<=1000000 then bw (.lst<|aS 0 1 i.toNat)else bz
 |_=>bz
def SH(z:0<=i)(h1:i<=1000000):AF (.int i)=bw (.lst<|aS 0 1 i.toNat):=ci {z,h1}
def EM(n:Nat):RepL A H (aS 0 1 n)<|(zau n).map λ(j:Nat)=>V.int (j:Int):=by
 unfold aS;have:∀l:List Nat,RepL A H (l.map λ(j:Nat)=>D.int<|0+(j:Int)*1)<|l.map λ(j:Nat)=>V.int (j:Int):=λl=>by
  induction l with
  |nil=>exact .nil
  |cons j l ih=>
   rw[zaj,zaj,show(0:Int)+(j:Int)*1=(j:Int) by lia];exact .cons (.int _) ih
 exact this _
set_option tactic.hygienic true in
def MT(hc:X.calm=ca)(N:Gl X "list")(F:X.mg "list" = bz)(G:Gl X "range")(M:X.mg "range" = bz)(he:PB X O e f)(hs:isStar e=cf) :
  PF X O (.Call (.Name "list" p) [.Call (.Name "range" p2) [e] [] pos2] [] pos) (VQ AF f):=
 PE.mono (mH (My.D4 hc) N F My.boot_list (cR (mH My.NW G M My.boot_range (cR he fK<|cJ hs) (by decide) (by decide) (cJ hs)<|iD rfl) fK<|cJ rfl) (by decide) (by decide) (cJ rfl)<|iD rfl) <| by
  rintro σ H Q ⟨H0,A0,A,E,ρ,d,st,B,q⟩;obtain⟨x,ex,B⟩:=bind_some B;refine{H0,A0,A,E,ρ,x,st,ex,λv H1 U r1=>?_};unfold AF at B;split at B
  .rename_i i
   split at B
   .rename_i hi
    cases B;have:=r1.int_inv;subst this;refine{i,rfl,λa ha=>{a,i,rfl,aJ,hi.1,hi.2,λl W=>?_}};have Y:H1 l=bz:=(Ext.new (A:=A) (o:=HO.rng 0 i) ha).free W;exact q l _ (U.trans<|(Ext.new ha).trans<|Ext.new W) (U.free Y) (λz=>(st.mono U).live l z Y)<|.lst aJ<|EM _
   .cases B
  .cases B
end
section
variable {X:Cx}{O:List Nat}{e:Expr}{es:List Expr}
def nS(B:PD X O e f)(z:DJ X O es g)(hs:isStar e=cf:=by rfl):DJ X O (e::es)<|aC f g:=M1 B z<|cJ hs
def Z5(B:PB X O e f)(z:yM X O es g)(hs:isStar e=cf:=by rfl):yM X O (e::es)<|aC f g:=BO B z<|cJ hs
def lc(h:Len g n):Len (aC f g)<|n+1:=LP h
def l0:Len aX 0:=R8
variable {x:Str}{id T:String}{g:List D->Option D}{f:Lv}{p pos:Pos}
def cB(F:l9 X (.builtin id) g)(W:X.mg x=bz)(M:zaI x=bw (.builtin id))(G:yM X O (e::es) f)(U:Gl X x:=by rfl)(B:x ≠ "__name__" := by decide)(z:(x == ("__debug__" : Str))=cf:=by decide)(hs:isStar e=cf:=by rfl)(N:(es.all λe=>!isStar e)=ca:=by rfl) :
  PD X O (.Call (.Name x p) (e::es) [] pos) (aR g f):=LV F U W M G B z (cJ hs)<|iD N
def qh(F:l9 X (.type T) g)(W:X.mg x=bz)(M:zaI x=bw (.type T))(G:yM X O (e::es) f)(U:Gl X x:=by rfl)(B:x ≠ "__name__" := by decide)(z:(x == ("__debug__" : Str))=cf:=by decide)(hs:isStar e=cf:=by rfl)(N:(es.all λe=>!isStar e)=ca:=by rfl) :
  PD X O (.Call (.Name x p) (e::es) [] pos) (aR g f):=JV F U W M G B z (cJ hs)<|iD N
def qk(F:ID X (.type T) g)(W:X.mg x=bz)(M:zaI x=bw (.type T))(G:yM X O (e::es) f)(U:Gl X x:=by rfl)(B:x ≠ "__name__" := by decide)(z:(x == ("__debug__" : Str))=cf:=by decide)(hs:isStar e=cf:=by rfl)(N:(es.all λe=>!isStar e)=ca:=by rfl) :
  PF X O (.Call (.Name x p) (e::es) [] pos) (aR g f):=KF F U W M G B z (cJ hs)<|iD N
def cD(O':Fn X.prog X.w X.K X.mg X.base x k ps F)(U:Room k X.A)(G:DJ X O (e::es) f)(B:Len f ps.length)(N:Gl X x:=by rfl)(z:(x == ("__debug__" : Str))=cf:=by decide)(hs:isStar e=cf:=by rfl)(M:(es.all λe=>!isStar e)=ca:=by rfl) :
  PD X O (.Call (.Name x p) (e::es) [] pos) (aR F f):=R7 O' U N G B z (cJ hs)<|iD M
def cn{L:Lp}{B O2 O3:List Nat}{st:Stmt}{z:List Stmt}{f g:Sv}(h:kR X L B st f O2)(k:eL X L O2 z g O3):eL X L B (st::z) (dR f g) O3:=NR h k
end
def ZOk(P:zai)(w:World)(K:zae)(mg:Str->Option Value)(base:Heap)(N:List Str)(x:Str)(st:Stmt)(k:Nat)(b:Sv):Prop:=
 ∀(fa:Addr) (cdv:Value) (A:zan) (outer:List Env) (s:zac) (H:Hp) (E:XK),Room k (A.deeper<|zaK x (aK st) s.heap.objs.size fa cdv)->∃g,eL (i8 wK P w K mg base N x (aK st) fa cdv A outer s H E).nox {[],[]} [] (bM st) g []/\g=b
end P
namespace My
def qa6(i j:Int):Prop:=(-(10^250*10^250)<i/\i<10^250*10^250)/\-(10^250*10^250)<j/\j<10^250*10^250
end My
namespace P
instance:∀i j,Decidable<|My.qa6 i j:=λi j=>by unfold My.qa6;infer_instance
end P
namespace My
open PySem.SeqAt
def V2(h:(zbf scope env).names.lookup x=bw k'):(x,k')∈scope.names\/(k'=.cell/\(x,zbu)∈scope.names):=by
 obtain⟨⟨y,k⟩,B,e⟩:=List.mem_map.mp<|zbz h;dsimp only at e;by_cases z:(k == zbu && env.scope.kind == .function && env.kindOf y == bw .cell)=ca
 .rw[ci z]at e
  have:k=.free:=by simp only[zaS]at z;simpa using z.1.1
  cases e;subst this;exact .inr {rfl,B}
 .rw[cj z]at e
  cases e;exact .inl B
end My
namespace P
noncomputable def inO(O:List Nat)(ms:List<|Option Nat):List Nat:=(zau ms.length).filter λj=>(((ms[j]?).join).map O.contains).getD cf
def sY:j∈inO O ms↔∃i,ms[j]?=bw (bw i)/\i∈O:=by
 unfold inO;rw[List.mem_filter];constructor
 .rintro⟨_,h⟩
  cases e:ms[j]? with
  |none=>rw[e]at h;cases h
  |some o=>
   cases o with
   |none=>rw[e]at h;cases h
   |some i=>rw[e]at h;exact{i,rfl,by simpa using h}
 .rintro⟨i,h,hi⟩
  refine{List.mem_range.mpr ?_,by rw[h];simpa using hi};obtain⟨l,_⟩:=List.getElem?_eq_some_iff.mp h;exact l
def OP{z:Type}{ms:List (Option Nat)}{σ:List (Option z)}{j i:Nat}{v:z}(h:ms[j]?=bw (bw i))(e:σ[i]?=bw (bw v)):(kK ms σ)[j]?=bw (bw v):=by
 unfold kK;rw[zav,h];show bw ((σ[i]?).join)=_;rw[e];rfl
def ST.innerO{H0:Hp}{A0 A:Av}{E:List Fact}{O Oi:List Nat}{σ:L2.St}{H:Hp}{ρ:dH}(s:ST H0 A0 A E O σ H ρ)(ms:List<|Option Nat)(W:inO O ms=Oi)(hj:∀j∈Oi,∀k∈Oi,ms[j]?=ms[k]?->j=k):ST H0 A0 A E Oi (kK ms σ) H (kK ms ρ) where
 ex:=s.ex
 sub:=s.sub
 l0:=s.l0
 live:=s.live
 len:=by simp[kK]
 val:=λj d h n=>by
  obtain⟨i,F,U⟩:=iE h;obtain⟨v,e3,r⟩:=s.val i d U λz=>n<|W ▸ sY.mpr {i,F,z}
  exact{v,OP F e3,r}
 own:=λj d h n=>by
  obtain⟨i,F,U⟩:=iE h;obtain⟨i',B,Y⟩:=sY.mp<|W.symm ▸ n;rw[F]at B;cases B;obtain⟨a,h1,h2⟩:=s.own i d U Y;exact{a,OP F h1,h2}
 inj:=λj k d d' a G M h1 h2 h3 h4=>by
  obtain⟨i,F,U⟩:=iE h1;obtain⟨l,f1,f2⟩:=iE h2;obtain⟨i2,g1,g2⟩:=iE h3;rw[F]at g1;cases g1;obtain⟨l2,k1,k2⟩:=iE h4;rw[f1]at k1;cases k1;obtain⟨i',B,Y⟩:=sY.mp<|W.symm ▸ G;rw[F]at B;cases B;obtain⟨l',N,lO⟩:=sY.mp<|W.symm ▸ M;rw[f1]at N;cases N;have:=s.inj i l d d' a Y lO U f2 g2 k2;subst this;exact hj j G k M<|F.trans f1.symm
 ext:=s.ext
section
variable {X:Cx}{O Oi:List Nat}
def JC(G:dX X scope N ms)(U:inO O ms=Oi)(B:∀j∈Oi,∀k∈Oi,ms[j]?=ms[k]?->j=k)(F:t∉Oi)(σ:L2.St)(H:Hp)(Q:VK) :
  tF O (eJ ms it (aQ t) c f) σ H Q->My.DB (tDI O it) (kI t) (tDT Oi c) (tD Rep Oi f) (My.Start X N scope) σ H Q:=
 CI G (λs=>s.innerO ms U B) (λs r e q=>by
  cases e;have M:∀j∈Oi,t≠j:=λj B z=>F<|z ▸ B
  exact q _ (s.put r F) λj B=>{zbI<|M j B,zbI<|M j B}) σ H Q
def BN
  (F:X.calm=ca) (U:My.Clo X N scope cl) (z:dX X scope N ms) (G:inO O ms=Oi) (Y:∀j∈Oi,∀k∈Oi,ms[j]?=ms[k]?->j=k) (B:t∉Oi) (hi:PDI X O tg iter it) (W:∀C s H fp,PG (My.aZ X N scope cl C s H fp) tg<|kI t)
  (M:∀C s H fp,My.F5 (My.aZ X N scope cl C s H fp) ifs<|tDT Oi c) (he:∀C s H fp,PD (My.aZ X N scope cl C s H fp) Oi elt f) (hs:∀x,zbd iter X.env x=pure x:=by intro _;rfl) :
  PF X O (.ListComp elt [{tg,iter,ifs,0}] scope pos) (eJ ms it (aQ t) c f):=PE.mono (My.HL F U hi W M he hs)<|JC z G Y B
def GO(hk:scope.kind=.function)(h:DE scope.names X.env.scope.names=ca)(hh:∀x,X.env.scope.names.lookup x=bw .cell->∃c,X.env.cells.lookup x=bw c):My.Clo X N scope<|iS X.env.cells scope.names []:=by
 have h':=List.all_eq_true.mp h;have M:∀y∈scope.names,y.2≠.cell:=λy G=>by
  have:=h' y G;simp only[zaS]at this;simpa using this.1.1
 have Y:∀y∈scope.names,y.2=.local->scope.names.lookup y.1=bw .local:=λy G e=>by
  have:=h' y G;simp only[zaS,zdV]at this;rcases this.1.2 with z|z
  .rw[e]at z;exact absurd z<|by decide
  .simpa using z
 have U:∀y∈scope.names,y.2=.free->∃c,X.env.cells.lookup y.1=bw c:=λy G e=>by
  have:=h' y G;simp only[zaS,zdV]at this;rcases this.2 with z|z
  .rw[e]at z;exact absurd z<|by decide
  .exact hh _<|by simpa using z
 have B:∀x,((zbf scope X.env).names.lookup x=bw .cell\/(zbf scope X.env).names.lookup x=bw .free)->(x,zbu)∈scope.names:=λx hx=>by
  rcases hx with hx|hx
  .rcases My.V2 hx with z|⟨_,z⟩
   .exact absurd rfl<|M _ z
   .exact z
  .rcases My.V2 hx with z|⟨z,_⟩
   .exact z
   .cases z
 refine{GQ U,hk,M,Y,λx c e=>?_,λx hx=>u4<|.inl<|B x hx};rcases vG e with⟨c',z,_⟩|⟨W,z2⟩
 .cases z
 .obtain⟨c0,F⟩:=U _ W rfl
  have F:X.env.cells.lookup x=bw c0:=F;rw[z2,F];rfl
def G5(z:X.env.cells=zce n X.env.scope.names []):∀x,X.env.scope.names.lookup x=bw .cell->∃c,X.env.cells.lookup x=bw c:=λx h=>by
 rw[z];exact oU (sc:=X.env.scope) h
end
end P
namespace P
def Fe(K:zae)(x:Str)(st:Stmt)(f:Addr):Prop:=∃fd,Fun K x x st f fd
def Fe.mk{K:zae}{x:Str}{st:Stmt}{f:Addr}{N:Value}{od G:Option Addr}{F:Array (Option Value)}{kV B M z ct:Value}(l:K.lookup f=bw {N,od,.func<|zbe x x (eG st) (bM st) (aK st) .none kV B M G z ct,F})(c:zcv K z x=ca)(k:zbM K (.ref f)=ca):Fe K x st f:={_,FN l c k}
def Fe.d{K:zae}{mg:Str->Option Value}{x:Str}{st:Stmt}{f:Addr}{ps:List Str}(h:Fe K x st f)(a:mg x=bw (.ref f))(z:∀(kV doc pm:Value) (an:Option Addr) (cdv ct:Value) (us:List Value),us.length=ps.length->zcd (zbe x x (eG st) (bM st) (aK st) .none kV doc pm an cdv ct) {us,[]}=pure (ps.zip us)):My.DefAt K mg x st ps:=let ⟨fd,F⟩:=h;{{f,fd,F,F.binds z,a}}
end P
namespace My
noncomputable def AH(ns:List Int):Int:=(ns[argBest (λi j=>decide ((ns[i]?).getD 0<(ns[j]?).getD 0))<|ns.length-1]?).getD 0
section
variable {X:Cx}
def OJ(z:ns≠[]):AH ns∈ns:=by
 have B:∀(f:Nat->Nat->Bool) k,argBest f k<=k:=λf k=>by
  induction k with
  |zero=>exact zah _
  |succ k ih=>rw[argBest];split <;> lia
 have h:=List.length_pos_iff.mpr z;have a:=B (λi j=>decide ((ns[i]?).getD 0<(ns[j]?).getD 0))<|ns.length-1;unfold AH;rw[zaG<|by lia];exact zeA _
end
end My
namespace P
section
variable {X:Cx}{L:Lp}{O O':List Nat}
def c0{B O3:List Nat}{st:Stmt}{z:List Stmt}{f g:Sv}(h:kR X L B st f [])(k:eL X L [] z g O3):eL X L B (st::z) (dR f g) O3:=cn h k
def ss(i:Nat)(B:X.N.Nodup)(z:PD X O e f)(hi:X.N[i]?=bw x:=by rfl)(hx:Loc X.env.scope x:=by exact za2 rfl)(h:Sub O' (O.filter (· != i))=ca:=by rfl)(hs:zaF e (bw<|.Name x pos') pos.line X.env=pure cf:=by rfl)(F:X.fn x=ca\/X.env.scope.names.lookup x=bw .local:=by first|exact .inl rfl|exact .inr rfl):kR X L O (.Assign [.Name x pos'] e pos) (eO i f) O':=HA B hi hx z h hs F
def gc(h1:DL X O e g)(h2:FS X O es k)(a:(za3 (e::es) X.env).map (·.2)=zbi e X.env::(za3 es X.env).map (·.2):=by rfl):FS X O (e::es)<|c7 g k:=iW (λx y=>lP x y a) h1 h2
def gu(n:Nat)(h:FS X O es k)(z:X.calm=ca:=by rfl)(a:(za3 es X.env).length=n:=by rfl)(b:List.findIdx? (λx=>x.fst) (za3 es X.env)=bz:=by rfl):DL X O (.Tuple es j pos)<|kJ n k:=HW<|FC z h a b
def tc(z:mT X (zaA op) g)(B:PB X O a fa)(F:PB X O b fb)(h1:op≠CmpOp.In:=by decide)(h2:op≠CmpOp.NotIn:=by decide):wX X O (.Compare a [op] [b] pos)<|sA<|bF g fa fb:=GN z B F<|PV _ h1 h2
end
variable {X:Cx}{O:List Nat}{e:Expr}
end P
namespace P
section
variable {X:Cx}{L:Lp}{O O':List Nat}
def cO(O2:List Nat){B O3:List Nat}{st:Stmt}{z:List Stmt}{f g:Sv}(h:kR X L B st f O2)(k:eL X L O2 z g O3):eL X L B (st::z) (dR f g) O3:=cn h k
def wt{x1}(h:DJ X O es g)(z:Len g es.length)(B:Nat.ble es.length 100=ca:=by rfl):PD X O (.Tuple es x1 pos)<|fQ g:=qE h λρ ds k=>by rw[z ρ ds k];exact zcB B
def wl(h:DJ X O es g)(z:Len g es.length)(B:Nat.ble es.length 100=ca:=by rfl):PF X O (.List es pos)<|QM g:=QA h λρ ds k=>by rw[z ρ ds k];exact zcB B
def wE(O':Fn X.prog X.w X.K X.mg X.base x k ps F)(W:Room j X.A)(G:DJ X O (e::es) f)(B:Len f ps.length)(M:k<=j)(U:Gl X x:=by rfl)(z:(x == ("__debug__" : Str))=cf:=by decide)(hs:isStar e=cf:=by rfl)(N:(es.all λe=>!isStar e)=ca:=by rfl):PD X O (.Call (.Name x p) (e::es) [] pos)<|aR F f:=cD O' (W.mono M) G B U z hs N
def qbY{e:Expr}{es:List Expr}{f:Lv}{p pos:Pos}(G:X.mg "len" = bz)(B:yM X O (e::es) f)(z:Gl X "len")(hs:isStar e=cf)(F:((es:List Expr).all λe=>!isStar e)=ca):PD X O (.Call (.Name "len" p) (e::es) [] pos)<|aR hZ f:=cB YF G My.boot_len B z (by decide) (by decide) hs F
def qcw{e:Expr}{es:List Expr}{f:Lv}{p pos:Pos}(G:X.mg "tuple" = bz)(B:yM X O (e::es) f)(z:Gl X "tuple")(hs:isStar e=cf)(F:((es:List Expr).all λe=>!isStar e)=ca):PD X O (.Call (.Name "tuple" p) (e::es) [] pos)<|aR lX f:=qh lU G My.boot_tuple B z (by decide) (by decide) hs F
def qcb{e:Expr}{es:List Expr}{f:Lv}{p pos:Pos}(G:X.mg "int" = bz)(B:yM X O (e::es) f)(z:Gl X "int")(hs:isStar e=cf)(F:((es:List Expr).all λe=>!isStar e)=ca):PD X O (.Call (.Name "int" p) (e::es) [] pos)<|aR FQ f:=qh XD G My.boot_int B z (by decide) (by decide) hs F
def qch{e:Expr}{es:List Expr}{f:Lv}{p pos:Pos}(G:X.mg "list" = bz)(B:yM X O (e::es) f)(z:Gl X "list")(hs:isStar e=cf)(F:((es:List Expr).all λe=>!isStar e)=ca):PF X O (.Call (.Name "list" p) (e::es) [] pos)<|aR IP f:=qk UT G My.boot_list B z (by decide) (by decide) hs F
def qx{z:Expr}{e:Expr}{es:List Expr}{f:Lv}{p pos:Pos}(B:X.calm=ca)(N:X.mg "min" = bz)(F:yM X O [e,z] f)(M:Gl X "min")(hs:isStar e=cf)(G:(([z]:List Expr).all λe=>!isStar e)=ca):PD X O (.Call (.Name "min" p) [e,z] [] pos)<|aR C7 f:=cB (S6 B) N My.boot_min F M (by decide) (by decide) hs G
def qav{z:Expr}{e:Expr}{es:List Expr}{f:Lv}{p pos:Pos}(B:X.calm=ca)(N:X.mg "max" = bz)(F:yM X O [e,z] f)(M:Gl X "max")(hs:isStar e=cf)(G:(([z]:List Expr).all λe=>!isStar e)=ca):PD X O (.Call (.Name "max" p) [e,z] [] pos)<|aR yI f:=cB (TZ B) N My.boot_max F M (by decide) (by decide) hs G
def qar{e:Expr}{f:Ev}{p p2 pos:Pos}(M:PB X O e f)(N:X.mg "isinstance" = bz)(B:X.mg "int" = bz)(G:Gl X "isinstance")(z:Gl X "int")(h1:zag [e,.Name "int" p2] X.env=(cf,eval e X.env)::zag [.Name "int" p2] X.env)(h2:(zaJ pos<|zag [.Name "int" p2] X.env).any (·.1)=cf)(F:zag [.Name "int" p2] X.env=(cf,eval (.Name "int" p2) X.env)::zag [] X.env):PD X O (.Call (.Name "isinstance" p) [e,.Name "int" p2] [] pos)<|VE "int" f:=PQ RH G N z B My.boot_int M (by decide) (by decide) h1 h2 F
def YH{e:Expr}{f:Ev}{p p2 pos:Pos}(M:PB X O e f)(N:X.mg "isinstance" = bz)(B:X.mg "bool" = bz)(G:Gl X "isinstance")(z:Gl X "bool")(h1:zag [e,.Name "bool" p2] X.env=(cf,eval e X.env)::zag [.Name "bool" p2] X.env)(h2:(zaJ pos<|zag [.Name "bool" p2] X.env).any (·.1)=cf)(F:zag [.Name "bool" p2] X.env=(cf,eval (.Name "bool" p2) X.env)::zag [] X.env):PD X O (.Call (.Name "isinstance" p) [e,.Name "bool" p2] [] pos)<|VE "bool" f:=PQ MO G N z B My.boot_bool M (by decide) (by decide) h1 h2 F
def rSl{e:Expr}{lo hi:Option Expr}{p2 pos:Pos}{f:Ev}{a b:Ov}(F:PB X O e f)(B:WH X O lo a)(z:WH X O hi b):PD X O (.Subscript e (.Slice lo hi bz p2) pos)<|Z9 sH f a b:=OE qck F B z
def rIt{a b:Expr}{pos:Pos}{z fb:Ev}(B:X.A.units+1<cLine)(F:PB X O a z)(G:PB X O b fb)(hs:zR b:=by exact λ_ _=>rfl):PD X O (.Subscript a b pos)<|bF aL z fb:=Q2 B F G hs
def qcv{a b:Expr}{pos:Pos}{z fb:Ev}{j:Nat}(F:Room j X.A)(B:PB X O a z)(M:PB X O b fb)(G:zbX .NotIn b=cf):wX X O (.Compare a [.NotIn] [b] pos)<|sA<|bF pI z fb:=GN (K5 F.units) B M G
def rCm{a b:Expr}{op:CmpOp}{pos:Pos}{g:D->D->Option D}{z fb:Ev}(B:mT X (zaA op) g)(F:PB X O a z)(G:PB X O b fb)(h1:op≠CmpOp.In)(h2:op≠CmpOp.NotIn):PD X O (.Compare a [op] [b] pos)<|bF g z fb:=Y8 B F G<|PV _ h1 h2
def xEq{j:Nat}(z:Room j X.A):mT X (zaA .Eq) kQ:=qaz z.units
def xNe{j:Nat}(z:Room j X.A):mT X (zaA .NotEq) AK:=qaR z.units
def xLt{j:Nat}(z:Room j X.A):mT X (zaA .Lt) VI:=ZJ z.units0
def At(l:List Str)(x:Str)(i:Nat):Prop:=l[i]?=bw x
def at_(i:Nat){l:List Str}{x:Str}(h:l[i]?=bw x:=by eq_refl):At l x i:=h
def vB{i:Nat}{x:Str}{p:Pos}(h:At X.N x i)(z:Z7 X.env.scope x)(hd:(x == ("__debug__" : Str))=cf)(B:(x == ("__classdict__" : Str))=cf):PB X O (.Name x p)<|aD i:=YC i<|pv i h z hd B
def vD{i:Nat}{x:Str}{p:Pos}(h:At X.N x i)(n:O.contains i=cf)(z:Z7 X.env.scope x)(hd:(x == ("__debug__" : Str))=cf)(B:(x == ("__classdict__" : Str))=cf):PD X O (.Name x p)<|aD i:=vV i (pv i h z hd B)<|by simpa using n
def gV{i:Nat}{x:Str}{pos:Pos}(h:At X.N x i)(n:O.contains i=cf)(z:X.N.Nodup)(hx:Loc X.env.scope x)(B:X.fn x=ca\/X.env.scope.names.lookup x=bw .local):DL X O (.Name x pos)<|aQ i:=oT (iC z h hx B) n
def aI(i:Nat)(z:PD X O e f:=by trivial)(B:X.N.Nodup:=by assumption)(hi:X.N[i]?=bw x:=by rfl)(hx:Loc X.env.scope x:=by first|exact za2 rfl|exact zbT rfl)(h:Sub O' (O.filter (· != i))=ca:=by rfl)(hs:zaF e (bw<|.Name x pos') pos.line X.env=pure cf:=by rfl)(F:X.fn x=ca\/X.env.scope.names.lookup x=bw .local:=by first|exact .inl rfl|exact .inr rfl):kR X L O (.Assign [.Name x pos'] e pos) (eO i f) O':=HA B hi hx z h hs F
def eS(i:Nat)(z:PF X O e f:=by trivial)(F:X.N.Nodup:=by assumption)(hi:X.N[i]?=bw x:=by rfl)(hx:Loc X.env.scope x:=by first|exact za2 rfl|exact zbT rfl)(h:Sub O' (i::O)=ca:=by rfl)(B:O.contains i=cf:=by rfl)(hs:zaF e (bw<|.Name x pos') pos.line X.env=pure cf:=by rfl)(G:X.fn x=ca\/X.env.scope.names.lookup x=bw .local:=by first|exact .inl rfl|exact .inr rfl):kR X L O (.Assign [.Name x pos'] e pos) (eO i f) O':=MU F hi hx z h B hs G
def mB(i:Nat)(G:PD X O e f:=by trivial)(B:PE X o<|dI i:=by exact pv _)(N:mem O i=ca:=by rfl)(W:zaR o "append" X.env (eval o X.env)=eval o X.env:=by rfl)(M:((((zaJ cpos<|zag [e] X.env).all λx=>!x.fst) && (backToKw cpos<|keywordEach [] X.env).all λx=>x.fst.isSome) && decide (([e].length+([]:List Keyword).length+if([]:List Keyword).isEmpty=ca then 0 else 1)<30))=ca:=by rfl)(U:(apos.endLine == cpos.line)=ca:=by rfl)(z:zag [e] X.env=(cf,eval e X.env)::zag [] X.env:=by rfl)(Y:((zaJ cpos<|zag [] X.env).any λx=>x.fst)=cf:=by rfl)(hs:zaF (.Call (.Attribute o "append" apos) [e] [] cpos) bz pos.line X.env=pure cf:=by rfl)(h:Sub O' O=ca:=by rfl):kR X L O (.Expr (.Call (.Attribute o "append" apos) [e] [] cpos) pos) (K6 i f) O':=EY B G N (yG zdi PySem.F.slot_list_append PySem.F.type_list_append xQ B (cR (PD.pe G) fK (hs:=z)) W M U z Y) hs h
def aO(z:PD X O e f:=by trivial):eL X L O [.Return (bw e) pos] (LJ f) O':=aN<|RY z
def QS(F:eL X L O a f O')(z:eL X L O b k O')(B:wX X O c g:=by trivial):kR X L O (.If c a b pos) (DO g f k) O':=E9 B F z
def aV(B:eL X L O a f O')(z:wX X O c g:=by trivial)(h:Sub O' O=ca:=by rfl):kR X L O (.If c a [] pos) (DO g f VG) O':=E9 z B<|HX h
def Z2{st:Stmt}:eL X L O [st] U4 O':=aN J9
def qaw{c:Expr}{st:Stmt}{pos:Pos}{g:Bv}(z:wX X O c g:=by trivial)(h:Sub O' O=ca:=by rfl):kR X L O (.If c [st] [] pos) (DO g U4 VG) O':=E9 z Z2<|HX h
def dY(z B:List Nat)(U:eL X {B,z} z body b z)(hi:PDI X O tg iter f:=by trivial)(N:DL X z tg g:=by trivial)(M:zcc (model X.prog X.w) X.A X.env X.xe:=by exact zeC)(F:X.calm=ca:=by rfl)(h1:Sub z O=ca:=by rfl)(h2:Sub O' z=ca:=by rfl)(G:Sub O' B=ca:=by rfl)(hs:∀x,zbd iter X.env x=pure x:=by intro _;rfl):kR X L O (.For tg iter body [] pos) (DI f g b) O':=UJ M F hi N U h1 h2 G hs
def QJ(z B:List Nat)(N:eL X {B,z} z body b z)(F:wX X z c g:=by trivial)(M:zcc (model X.prog X.w) X.A X.env X.xe:=by exact zeC)(h1:Sub z O=ca:=by rfl)(h2:Sub O' z=ca:=by rfl)(G:Sub O' B=ca:=by rfl):kR X L O (.While c body [] pos) (nL g b) O':=JM M F N h1 h2 G
def C8(i:Nat)(M:PD X O value fe:=by trivial)(G:PB X O k fk:=by trivial)(F:X.A.units+1<cLine:=by assumption)(U:PE X o<|dI i:=by exact pv _)(B:mem O i=ca:=by rfl)(h:Sub O' O=ca:=by rfl)(hs:zaF value (bw<|.Subscript o k pos') pos.line X.env=pure cf:=by rfl)(z:zdr [.Subscript o k pos'] value pos.line X.env=pure cf:=by rfl)(hw:zds [.Subscript o k pos'] value X.env=pure bz:=by rfl)
  (N:∀ {to ti:TE} {t:QR},PE X o to->PE X k ti->VC X t->PG X (.Subscript o k pos') (ZW to ti t):=by intro _ _ _ a b c;exact OU a b c):kR X L O (.Assign [.Subscript o k pos'] value pos) (FZ i fk fe) O':=SU F U G M B h hs z hw N
def fH(σ:zac)(N:List Str)(ms:List<|Option Nat)(hi:PDI X O tg iter it:=by trivial)(U:∀C s H fp,N.Nodup->DL (My.aZ X N scope (iS X.env.cells scope.names []) C s H fp) [] tg g:=by intros;trivial)(M:∀C s H fp,My.F5 (My.aZ X N scope (iS X.env.cells scope.names []) C s H fp) ifs<|tDT [] c:=by intros;trivial)(Y:∀C s H fp,PD (My.aZ X N scope (iS X.env.cells scope.names []) C s H fp) [] elt f:=by intros;trivial)
  (hx:X.env.cells=zce (σ.heap.objs.size+1) X.env.scope.names []:=by rfl) (z:dX X scope N ms:=by repeat' first|exact za0|exact rfl|exact za2 rfl|constructor) (W:N.Nodup:=by decide)
  (F:X.calm=ca:=by rfl) (G:scope.kind=.function:=by rfl) (h:DE scope.names X.env.scope.names=ca:=by rfl) (B:(ms.all λo=>match o with|some i=>!O.contains i|none=>ca)=ca:=by rfl) (hs:∀x,zbd iter X.env x=pure x:=by intro _;rfl):PF X O (.ListComp elt [{tg,iter,ifs,0}] scope pos)<|eJ ms it g c f:=UG F (E7 G h hx) z B hi (λC s H fp=>U C s H fp W) M Y hs
def j7(i:Nat)(σ:zac)(N:List Str)(ms:List<|Option Nat)(hi:PDI X O tg iter it:=by trivial)(hg:∀C s H fp,N.Nodup->DL (My.aZ X N scope (iS X.env.cells scope.names []) C s H fp) [] tg g:=by intros;trivial)(ht:∀C s H fp,My.F5 (My.aZ X N scope (iS X.env.cells scope.names []) C s H fp) ifs<|tDT [] c:=by intros;trivial)(he:∀C s H fp,PD (My.aZ X N scope (iS X.env.cells scope.names []) C s H fp) [] elt f:=by intros;trivial)
  (hx:X.env.cells=zce (σ.heap.objs.size+1) X.env.scope.names []:=by rfl) (G:dX X scope N ms:=by repeat' first|exact za0|exact rfl|exact za2 rfl|constructor) (hN:N.Nodup:=by decide)
  (W:X.calm=ca:=by rfl) (hk:scope.kind=.function:=by rfl) (h:DE scope.names X.env.scope.names=ca:=by rfl) (U:(ms.all λo=>match o with|some i=>!O.contains i|none=>ca)=ca:=by rfl) (hs:∀x,zbd iter X.env x=pure x:=by intro _;rfl)
  (hX:X.N.Nodup:=by assumption) (F:X.N[i]?=bw x:=by rfl) (M:Loc X.env.scope x:=by first|exact za2 rfl|exact zbT rfl) (z:Sub O' (O.filter (· != i))=ca:=by rfl) (B:zaF (.ListComp elt [{tg,iter,ifs,0}] scope pos) (bw<|.Name x pos') spos.line X.env=pure ca:=by rfl) (Y:X.fn x=ca\/X.env.scope.names.lookup x=bw .local:=by first|exact .inl rfl|exact .inr rfl) :
  kR X L O (.Assign [.Name x pos'] (.ListComp elt [{tg,iter,ifs,0}] scope pos) spos) (eO i<|eJ ms it g c f) O':=MH hX F M W (E7 hk h hx) G U hi (λC s H fp=>hg C s H fp hN) ht he z hs B Y
def UZ(i:Nat)(σ:zac)(N:List Str)(ms:List<|Option Nat)(hi:PDI X O tg iter it:=by trivial)(hg:∀C s H fp,N.Nodup->DL (My.aZ X N scope (iS X.env.cells scope.names []) C s H fp) [] tg g:=by intros;trivial)(ht:∀C s H fp,My.F5 (My.aZ X N scope (iS X.env.cells scope.names []) C s H fp) ifs<|tDT [] c:=by intros;trivial)(he:∀C s H fp,PD (My.aZ X N scope (iS X.env.cells scope.names []) C s H fp) [] elt f:=by intros;trivial)
  (hx:X.env.cells=zce (σ.heap.objs.size+1) X.env.scope.names []:=by rfl) (M:dX X scope N ms:=by repeat' first|exact za0|exact rfl|exact za2 rfl|constructor) (hN:N.Nodup:=by decide)
  (Y:X.calm=ca:=by rfl) (hk:scope.kind=.function:=by rfl) (h:DE scope.names X.env.scope.names=ca:=by rfl) (W:(ms.all λo=>match o with|some i=>!O.contains i|none=>ca)=ca:=by rfl) (hs:∀x,zbd iter X.env x=pure x:=by intro _;rfl)
  (hX:X.N.Nodup:=by assumption) (F:X.N[i]?=bw x:=by rfl) (U:Loc X.env.scope x:=by first|exact za2 rfl|exact zbT rfl) (z:Sub O' (i::O)=ca:=by rfl) (G:O.contains i=cf:=by rfl) (B:zaF (.ListComp elt [{tg,iter,ifs,0}] scope pos) (bw<|.Name x pos') spos.line X.env=pure ca:=by rfl) (hf:X.fn x=ca\/X.env.scope.names.lookup x=bw .local:=by first|exact .inl rfl|exact .inr rfl) :
  kR X L O (.Assign [.Name x pos'] (.ListComp elt [{tg,iter,ifs,0}] scope pos) spos) (eO i<|eJ ms it g c f) O':=KW hX F U Y (E7 hk h hx) M W hi (λC s H fp=>hg C s H fp hN) ht he z G hs B hf
end
def fx{Q:zai}{w:World}{K:zae}{mg:Str->Option Value}{base:Heap}{x:Str}{k:Nat}{ps:List Str}{F:List D->Option D}(B:List D->Option D)(h:Fn Q w K mg base x k ps F)(e:F=B:=by rfl):Fn Q w K mg base x k ps B:=e ▸ h
def ZR:List Str->(List Value->Prop)->Prop
 |[],Q=>Q []
 |_::ps,Q=>∀u,ZR ps λus=>Q<|u::us
def UD{ps:List Str}{Q:List Value->Prop}(h:ZR ps Q){z:List Value}(e:z.length=ps.length):Q z:=by
 induction ps generalizing z Q with
 |nil=>rw[List.length_eq_zero_iff.mp e];exact h
 |cons a ps ih=>
  cases z with
  |nil=>cases e
  |cons u z=>exact ih (h u)<|Nat.succ.inj e
def Bd(st:Stmt)(x:Str)(ps:List Str):Prop:=∀(kV doc pm:Value) (an:Option Addr) (cdv ct:Value),ZR ps λz=>zcd (zbe x x (eG st) (bM st) (aK st) .none kV doc pm an cdv ct) {z,[]}=pure (ps.zip z)
def De(K:zae)(x:Str)(st:Stmt):Prop:=∃f,zbU K zaH x=bw (bw<|.ref f)/\Fe K x st f
def Des(K:zae)(tp:Nat->Stmt)(t:List<|Str×Nat×List Str):Prop:=∀p∈t,De K p.1<|tp p.2.1
def Des.nil{K:zae}{tp:Nat->Stmt}:Des K tp []:=λ_ h=>nomatch h
def Des.cons{K:zae}{tp:Nat->Stmt}{x:Str}{i:Nat}{ps:List Str}{t:List (Str×Nat×List Str)}{f:Addr}{N:Value}{od G:Option Addr}{F:Array (Option Value)}{kV B M z ct:Value}(a:zbU K zaH x=bw (bw<|.ref f))(l:K.lookup f=bw {N,od,.func<|zbe x x (eG<|tp i) (bM<|tp i) (aK<|tp i) .none kV B M G z ct,F})(c:zcv K z x=ca)(k:zbM K (.ref f)=ca)(r:Des K tp t):Des K tp<|(x,i,ps)::t:=
 zdj.2 {{f,a,Fe.mk l c k},r}
def Bds(tp:Nat->Stmt)(t:List<|Str×Nat×List Str):Prop:=∀p∈t,Bd (tp p.2.1) p.1 p.2.2
def Bds.nil:Bds tp []:=λ_ h=>nomatch h
def Bds.cons(a:Bd (tp i) x ps)(r:Bds tp t):Bds tp<|(x,i,ps)::t:=zdj.2 ⟨a,r⟩
theorem Des.d{K:zae}{h:Heap}{mg:Str->Option Value}{tp:Nat->Stmt}{t:List (Str×Nat×List Str)}(X:K.In h)(G:h.Ns zaH mg)(D:Des K tp t)(B:Bds tp t):∀p∈t,My.DefAt K mg p.1 (tp p.2.1) p.2.2:=λp M=>let ⟨_,a,e⟩:=D p M;e.d (zdk X G a) λkV F U N z ct W=>UD<|B p M kV F U N z ct
def Nos(K:zae)(t:List Str):Prop:=∀x∈t,zbU K zaH x=bw bz
def Nos.nil{K:zae}:Nos K []:=λ_ h=>nomatch h
def Nos.cons{K:zae}{x:Str}{t:List Str}(a:zbU K zaH x=bw bz)(r:Nos K t):Nos K<|x::t:=zdj.2 ⟨a,r⟩
def Gis(K:zae)(t:List<|Str×Int):Prop:=∀p∈t,∃k,zbU K zaH p.1=bw (bw<|.int p.2 k)
def Gis.nil{K:zae}:Gis K []:=λ_ h=>nomatch h
def Gis.cons{K:zae}{x:Str}{n:Int}{k:Tok}{t:List (Str×Int)}(a:zbU K zaH x=bw (bw<|.int n k))(r:Gis K t):Gis K<|(x,n)::t:=zdj.2 {⟨k,a⟩,r}
def Gis.d{K:zae}{h:Heap}{mg:Str->Option Value}{t:List (Str×Int)}(X:K.In h)(G:h.Ns zaH mg)(D:Gis K t):∀p∈t,GInt mg p.1 p.2:=λp z=>let ⟨_,a⟩:=D p z;{{_,zdk X G a}}
noncomputable def mon:List Int->List Int->Int
 |e::es,v::vs=>v^e.toNat*mon es vs
 |_,_=>1
def ev(vs:List Int)(F:List My.Tm):Int:=(F.map λt=>t.2*mon t.1 vs).sum
noncomputable def pw(S:Nat->Int)(a:Int):Nat->Int
 |0=>0
 |n+1=>pw S a n+a^n*S n
noncomputable def la(k:List Int):Int:=(k.getLast?).getD 0
section
variable {ρ ρ':dH}{f g:Ev}{a b:Bv}{l:Lv}{x y d r:D}{xs:List D}{i j:Int}{k:Nat}{s t:Sv}{o:Option Out}
def Y6(h:ρ[k]?=bw (bw x)):aD k ρ=bw x:=by unfold aD;rw[h];rfl
def qb1:eC x ρ=bw x:=rfl
def IE{w:D->D->Option D}(F:f ρ=bw x)(z:g ρ=bw y)(B:w x y=bw r):bF w f g ρ=bw r:=by unfold bF;rw[F,aA,z,aA,B]
def UX{F:List D->Option D}(h:l ρ=bw xs)(k:F xs=bw r):aR F l ρ=bw r:=by unfold aR;rw[h,aA,k]
def TV(h:f ρ=bw x)(k:l ρ=bw xs):aC f l ρ=bw (x::xs):=by unfold aC;rw[h,aA,k,aA]
def XA(h:l ρ=bw xs):fQ l ρ=bw (.tup xs):=by unfold fQ;rw[h,aB]
def W0(h:l ρ=bw xs):QM l ρ=bw (.lst xs):=by unfold QM;rw[h,aB]
def QK(h:f ρ=bw (.int i)):yB f ρ=bw (bw i):=by unfold yB;rw[h,aA];rfl
def QF{w:D->Option Int->Option Int->Option D}{u v:Ov}{p q:Option Int}(G:f ρ=bw x)(z:u ρ=bw p)(F:v ρ=bw q)(B:w x p q=bw r):Z9 w f u v ρ=bw r:=by unfold Z9;rw[G,aA,z,aA,F,aA,B]
def YY{c:Bool}(h:f ρ=bw (.bl c)):sA f ρ=bw c:=by unfold sA;rw[h,aA];rfl
def WW{c:Bool}(h:a ρ=bw c):QV a ρ=bw (!c):=by unfold QV;rw[h,aB]
noncomputable def Z3{α:Type}(c:Bool)(u v:α):α:=if c=ca then u else v
def qa3{z:Type}{c:Bool}{u v w:z}(h:c=ca)(k:u=w):Z3 c u v=w:=(ci h).trans k
def qbe{z:Type}{c:Bool}{u v w:z}(h:c=cf)(k:v=w):Z3 c u v=w:=(cj<|by rw[h];exact nofun).trans k
def YL{c:Bool}{z:Option Bool}(h:a ρ=bw c)(k:Z3 c (b ρ) (bw cf)=z):LG a b ρ=z:=by unfold LG;rw[h,aA];exact k
def qv{c:Bool}{z:Option Bool}(h:a ρ=bw c)(k:Z3 c (bw ca) (b ρ)=z):WE a b ρ=z:=by unfold WE;rw[h,aA];exact k
def qaL{c:Bool}(h:a ρ=bw c)(k:Z3 c (s ρ) (t ρ)=o):DO a s t ρ=o:=by unfold DO;rw[h,aA];exact k
noncomputable def sq(p:Out)(t:Sv):Option Out:=match p with
 |.nx ρ=>t ρ
 |p=>bw p
def ZO{p:Out}(h:s ρ=bw p)(k:sq p t=o):dR s t ρ=o:=by unfold dR;rw[h,aA];exact k
def qaq(k:t ρ=o):sq (.nx ρ) t=o:=k
def qaA(h:f ρ=bw x):LJ f ρ=bw (.rt x):=qbZ h
def ZF{w:Gv}(h:f ρ=bw x)(k:w x ρ=bw ρ'):VB f w ρ=bw (.nx ρ'):=by unfold VB;rw[h,aA,k,aB]
def O6(h:aD k ρ=bw (.lst xs))(e:f ρ=bw x)(z:xs.length<=1000000):K6 k f ρ=bw (.nx<|ρ.set k<|bw<|.lst<|xs++[x]):=by
 unfold K6;rw[h,aA];show(f ρ).bind _=_;rw[e,aA];exact ci<|decide_eq_true z
def qaM(h:hW xs i=bw x):aL (.lst xs) (.int i)=bw x:=h
def YO(h:hW xs i=bw x):aL (.tup xs) (.int i)=bw x:=h
def SN{ms:List (Option Nat)}{w:Gv}{ds:List D}(h:l ρ=bw xs)(z:xs.length<=1000000)(e:bD w a f xs (kK ms ρ)=bw ds):eJ ms l w a f ρ=bw (.lst ds):=by unfold eJ;rw[h,aA];exact(ci<|decide_eq_true z).trans<|by rw[e,aB]
def YA{w:Gv}:bD w a f [] ρ=bw []:=rfl
def RJ{w:Gv}{ds:List D}(h:w x ρ=bw ρ')(k:a ρ'=bw ca)(e:f ρ'=bw y)(r:bD w a f xs ρ'=bw ds):bD w a f (x::xs) ρ=bw (y::ds):=by rw[bD,h,aA,k,aA,ci rfl,e,aA,r,aA]
def IM{w:Gv}(h:w x ρ=bw ρ')(k:s ρ'=o):turn w s x ρ=o:=by unfold turn;rw[h,aA,k]
def zB{w:Gv}{Q:dH->Prop}(h:turn w s x ρ=bw (.nx ρ'))(k:Q ρ'):∃ρ',turn w s x ρ=bw (.nx ρ')/\Q ρ':={_,h,k}
def WM{w:Gv}(h:l ρ=bw xs)(k:mE w s xs ρ=o):DI l w s ρ=o:=by unfold DI;rw[h,aA,k]
def ZC{w:Gv}:mE w s [] ρ=bw (.nx ρ):=rfl
def Q8{w:Gv}(h:turn w s x ρ=bw (.nx ρ'))(k:mE w s xs ρ'=o):mE w s (x::xs) ρ=o:=by
 unfold turn at h;obtain⟨B,F,z⟩:=bind_some h;unfold mE;rw[F,aA,z,aA];exact k
def TY{ys:List D}(h:l ρ=bw [x])(e:(iH x).map (g8 0)=bw ys):IS l ρ=bw ys:=by unfold IS;rw[h,aA];exact e
def qaf{w:List D->Option (List D)}{ys:List D}(h:l ρ=bw xs)(k:w xs=bw ys):lR w l ρ=bw ys:=by unfold lR;rw[h,aA,k]
end
end P
namespace My
open PySem.SeqAt
def GX:V->List V->Hp->VK->Prop:=λx vs H Q=>∃l xs i y,x=.ref l/\vs=[.int i,y]/\H l=bw (.lst xs)/\0<=i/\i<=(xs.length:Int)/\xs.length<zal/\Q .non (upd H l<|.lst<|xs.take i.toNat++y::xs.drop i.toNat)
theorem w8:∀ {xs:List V} {us:List Value} (n:Nat),Vals xs us->Vals (xs.take n) (us.take n)
 |_,_,0,_=>by simp;exact .nil
 |_,_,n+1,.nil=>.nil
 |_,_,n+1,.cons h t=>.cons h<|w8 n t
theorem xW:∀ {xs:List V} {us:List Value} (n:Nat),Vals xs us->Vals (xs.drop n) (us.drop n)
 |_,_,0,r=>r
 |_,_,n+1,.nil=>.nil
 |_,_,n+1,.cons h t=>xW n t
def KZ:MtM X "list.insert" GX:=by
 intro pins s σ H x vs v us Q I W Y h;obtain⟨l,xs,i,y,rfl,rfl,M,h0,h1,hz,q⟩:=h;cases W;obtain⟨u1,N,rfl,r1,r2⟩:=vals2 Y;obtain⟨t,rfl⟩:=r1;obtain⟨z,B,n,r,hl,e⟩:=I.lstM M;have G:¬ (!Builtin.List.listFitsIndex i)=ca:=by
  have hs:zal<=2^40:=by decide
  rw[fitsIndex_both (by lia)<|by lia];decide
 refine zcL F.slot_list_insert {_,e,rfl} F.entry_list_insert (F.args_list_insert_3 _ _ _) (AutoListH.list_insert_list_int_val_1 l B.toArray n i t N G<|by rw[zay];lia) {e,?_};refine{.non,_,I.lset (its':=B.take i.toNat++N::B.drop i.toNat) M e ?_ ((w8 _ r).append<|.cons r2<|xW _ r) ?_,rfl,q}
 .have U:min i.toNat B.length=i.toNat:=by lia
  simp only[zay,cj<|show ¬ i<0 by lia,U];apply Array.ext';simp;exact zbF<|by simp
 .simp only[zbm,zaB,zb3,zel]
  lia
end My
namespace P
section
variable {X:Cx}{L:Lp}{O O':List Nat}
def ZS(i:Nat)(fk fe:Ev):Sv:=λρ=>(aD i ρ).bind λx=>(fk ρ).bind λk=>(fe ρ).bind λd=>match x,k with
 |.lst l,.int j=>if a9 l.length=ca/\0<=j/\j<=(l.length:Int)then bw (.nx<|ρ.set i<|bw<|.lst<|l.take j.toNat++d::l.drop j.toNat)else bz
 |_,_=>bz
def D6(ho:PE X o<|dI i)(h1:PD X O F fk)(h2:PD X O B fe)(U:mem O i=ca)(hp:PE X (.Call (.Attribute o "insert" apos) [F,B] [] cpos)<|qd X.K "list" My.GX (dI i)<|yE (tD Rep O fk)<|yE (tD Rep O fe) U1)
  (hs:zaF (.Call (.Attribute o "insert" apos) [F,B] [] cpos) bz pos.line X.env=pure cf:=by rfl) (h:Sub O' O=ca:=by rfl):kR X L O (.Expr (.Call (.Attribute o "insert" apos) [F,B] [] cpos) pos) (ZS i fk fe) O':=
 PS.mono (zE hp hs) <| by
  rintro T σ H ⟨H0,A0,A,E,ρ,out,st,e,p⟩;obtain⟨x,ex,e⟩:=bind_some e;obtain⟨k,ek,e⟩:=bind_some e;obtain⟨d,ed,e⟩:=bind_some e;cases x with
  |lst l=>
   cases k with
   |int j=>
    by_cases G:a9 l.length=ca/\0<=j/\j<=(l.length:Int)
    .replace e:(if a9 l.length=ca/\0<=j/\j<=(l.length:Int)then bw (Out.nx<|ρ.set i<|bw<|.lst<|l.take j.toNat++d::l.drop j.toNat)else bz)=bw out:=e
     rw[ci G]at e;cases e;obtain⟨a,F,B,e3,e4⟩:=st.own i _ (bZ ex)<|iM U;cases e4 with
     |lst h4 r4=>
      refine{_,F,.inl {rfl,_,SqL.of h4},H0,A0,A,E,ρ,_,st,ek,λv H1 W r1=>{H0,A0,A,E,ρ,d,st.mono W,ed,λY H2 x2 r2=>?_}};have:=RepB.int_inv<|.of r1;subst this;have z:=W.trans x2;have N:=z.ow _ _ B h4;refine{a,_,j,Y,rfl,rfl,N,G.2.1,by rw[r4.length];exact G.2.2,by rw[r4.length];exact jV G.1,?_};obtain⟨A',M⟩:=((st.mono z).write (o:=.lst _) (bZ ex) (iM U) F B e3 N trivial (.lst aJ<|(((r4.ext z).take j.toNat).append<|.cons r2<|(r4.ext z).drop j.toNat).put B N trivial)).shut<|Sub.mem h;exact p A' σ _ M
    .replace e:(if a9 l.length=ca/\0<=j/\j<=(l.length:Int)then bw (Out.nx<|ρ.set i<|bw<|.lst<|l.take j.toNat++d::l.drop j.toNat)else bz)=bw out:=e
     rw[cj G]at e;cases e
   |_=>exact nn e
  |_=>exact nn e
end
end P
namespace My
abbrev NK:=Key×List Key
abbrev Mf:=NK->Option (Int×Int)
section
variable {P:zai}{w:World}{H:Hp}{h:Heap}{a b:Addr}{dom:List NK}{f:Mf}{p:Option NK}
def tE(ok:HOk P w H h)(e:H a=bw (.tup [kV k.1,.ref b]))(z:H b=bw (.tup<|k.2.map kV)):(dE<|bE P w).is h k a:=by
 obtain⟨_,B,r,o,h1,h2,n,F⟩:=(show ObjOk P w H h a (.tup [kV k.1,.ref b])from ok a _ e);cases r with
 |cons r1 r=>
  cases r with
  |cons r2 r=>
   cases r;cases(show _=zax b from r2);exact{o,n,_,b,h1,h2,F.1,yL r1,qF ok z}
def Ent(H:Hp)(dom:List NK)(f:Mf)(x:NK×Addr×Value):Prop:=x.1∈dom/\(∃b,H x.2.1=bw (.tup [kV x.1.1,.ref b])/\H b=bw (.tup<|x.1.2.map kV))/\MemV H (f x.1) x.2.2
def DA(ok:HOk P w H h)(e:H a=bw (.memo dom f p)):(a == za9)=cf/\∃xs,(∀x∈xs,Ent H dom f x)/\(∀k,p=bw k->∃q,atKey xs k=bw q)/\h.DictOfH (dE<|bE P w) a xs:=by
 obtain⟨y,xs,r,M,o,es,ep,h1,h2,B,G,z⟩:=(show ObjOk P w H h a (.memo dom f p)from ok a _ e);refine{y,xs,r,M,o,es,ep,h1,h2,B,G,λx hx=>?_,z};obtain⟨_,⟨b,F,N⟩,_⟩:=r x hx;exact tE ok F N
def wC{xs:List (NK×Addr×Value)}{k:NK}{q:Addr×Value}(h:atKey xs k=bw q):(k,q)∈xs:=by
 unfold atKey at h;obtain⟨x,hx,e⟩:=Option.map_eq_some_iff.mp h;have:=List.mem_of_find?_eq_some hx;have z:x.1=k:=by simpa using List.find?_some hx
 rw[<- z,<- e];exact this
end
def MemW(H:Hp):Option (Int×Int)->V->Prop
 |none,v=>v=.non
 |some p,v=>∃b,v=.ref b/\H b=bw (.tup [.int p.1,.int p.2])
def MemV.of(h:MemV H r u):∃v,RelV v u/\MemW H r v:=by
 cases r with
 |none=>exact{.non,h,rfl}
 |some p=>obtain⟨b,B,z⟩:=h;exact{.ref b,B,b,rfl,z}
def MemW.to(h:MemW H r v)(z:RelV v u):MemV H r u:=by
 cases r with
 |none=>cases(show v=.non from h);exact z
 |some p=>obtain⟨b,F,B⟩:=h;subst F;exact{b,z,B}
def mD(H:Hp)(k:NK)(y:V):Prop:=∃c b,y=.ref c/\H c=bw (.tup [kV k.1,.ref b])/\H b=bw (.tup<|k.2.map kV)
section
variable {X:Cx}{pins:List (Addr×Obj)}{σ:L2.St}{H:Hp}{s:zac}{a:Addr}{y v:V}{u r:Value}{A:zan}{E:Value->zac->Prop}{dom:List NK}{f:Mf}{p:Option NK}{k:NK}
def Y3(I:Inv X pins σ H s)(e:H a=bw (.memo dom f p)):s.TypeIs (.ref a) "dict" := by
 obtain⟨_,_,_,_,o,es,ep,h1,h2,_⟩:=DA I.hok e;exact{o,h1,h2.1}
def zQ(I:Inv X pins σ H s)(e:H a=bw (.memo dom f p))(h:∀xs:List (NK×Addr×Value),(∀k,p=bw k->∃q,atKey xs k=bw q)->s.heap.DictOfH (dE<|bE X.prog X.w) a xs->∀k,p'=bw k->∃q,atKey xs k=bw q):Inv X pins σ (upd H a<|.memo dom f p') {s with toks:=t'}:=by
 obtain⟨y,xs,r,hp,o,es,ep,h1,h2,h3,h4,h5⟩:=(show ObjOk X.prog X.w H s.heap a (.memo dom f p)from I.hok a _ e);obtain⟨_,B,W,M,U⟩:=DA I.hok e;have G:∀b ys,H b=bw (.tup ys)->upd H a (.memo dom f p') b=bw (.tup ys):=λb ys z=>by rw[aG<|rW z e λq=>nomatch q];exact z
 obtain⟨o',F,N,g1,g2,g3,g4,_,g5⟩:=id U;refine I.write (x:=a) (e:=a) (h':=s.heap) (t':=t') (by rw[e];exact za0) (.inl rfl) (λ_ _ _ z=>z) {o',g1} {y,B,λx hx=>?_,h B M U,o',F,N,g1,g2,g3,g4,g5};obtain⟨d,⟨b,q1,q2⟩,m⟩:=W x hx;refine{d,{b,G _ _ q1,G _ _ q2},?_};revert m;cases f x.1 with
 |none=>exact id
 |some p=>exact λ⟨c,Y,e2⟩=>{c,Y,G _ _ e2}
def RG{Q:Value->zac->Prop}(hu:A.units+2<cLine)(I:Inv X pins σ H s)(e:H a=bw (.memo dom f p))(ky:mD H k y)(ry:RelV y u)(h1:∀s',Inv X pins σ (upd H a<|.memo dom f bz) s'->Q (.bool ca) s')(h2:∀s',Inv X pins σ (upd H a<|.memo dom f<|bw k) s'->Q (.bool cf) s') :
  wpAny (model X.prog X.w) A (zaA .NotIn u<|.ref a) Q E s:=by
 obtain⟨c,b,rfl,e1,e2⟩:=ky;cases(show u=zax c from ry);obtain⟨hd,xs,rr,hp,dd⟩:=DA I.hok e;refine wpAny_notIn_heap (knd:=dE<|bE X.prog X.w) (show A.in1.units+1<cLine from hu) (tE I.hok e1 e2) hd dd ?_;have B:∀ys,s.heap.DictOfH (dE<|bE X.prog X.w) a ys->∀q,atKey xs k=bw q->∃q,atKey ys k=bw q:=λys F q M=>by
  obtain⟨o,es,ep,g1,g2,g3,g4,g5,g6⟩:=dd;obtain⟨o',ap,ao,N,j2,U,j4,j5,j6⟩:=F;rw[g1]at N;cases N;rw[g3]at U;cases U;have he:xs.map (zcs<|dE<|bE X.prog X.w)=ys.map (zcs<|dE<|bE X.prog X.w):=g4.symm.trans j4;have W:=wC M;obtain⟨i,hi⟩:=List.mem_iff_getElem?.mp W;have Y:(ys.map<|zcs<|dE<|bE X.prog X.w)[i]?=bw (zcs (dE<|bE X.prog X.w) (k,q)):=by rw[<- he,zav,hi];rfl
  rw[zav]at Y;obtain⟨z,hz,ez⟩:=Option.map_eq_some_iff.mp Y;have ka:z.2.1=q.1:=by
   have:=congrArg DictEntry.key ez;injection this
  have kk:z.1=k:=(dE<|bE X.prog X.w).inj (h:=s.heap) (a:=q.1) (ka ▸ j5 z (zap hz))<|g5 _ W;exact{z.2,atKey_of_get j6 (i:=i)<|by rw[hz,<- kk]}
 cases M:atKey xs k with
 |none=>exact h1 _<|zQ (p':=bz) I e λ_ _ _ k G=>by cases G
 |some q=>exact h2 _<|zQ I e λys _ F k' G=>by cases G;exact B ys F q M
def JS{Q:Value->zac->Prop}(G:A.units+2<cLine)(I:Inv X pins σ H s)(e:H a=bw (.memo dom f<|bw k))(F:mD H k y)(Y:RelV y u)(h:∀v z s',Inv X pins σ H s'->RelV v z->MemW H (f k) v->Q z s') :
  wpAny (model X.prog X.w) A (zbA (.ref a) u) Q E s:=by
 obtain⟨c,b,rfl,M,e2⟩:=F;cases(show u=zax c from Y);obtain⟨hd,xs,rr,U,W⟩:=DA I.hok e;obtain⟨q,B⟩:=U k rfl;refine wpAny_getItem_heap (knd:=dE<|bE X.prog X.w) (show A.in1.units+1<cLine from G) (tE I.hok M e2) W B ?_;obtain⟨_,_,m⟩:=rr _<|wC B;obtain⟨v,rv,N⟩:=MemV.of m;exact h v _ _ (I.tok _) rv N
theorem HP:∀ {l:List NK},x∈l->(l.filter λy=>decide (y≠x)).length<l.length
 |[],h=>nomatch h
 |y::l,h=>by
  by_cases e:y=x
  .rw[List.filter_cons_of_neg<|by simp[e]]
   exact Nat.lt_succ_of_le<|zdl _ _
  .rw[List.filter_cons_of_pos<|by simp[e],zaB,zaB]
   exact Nat.succ_lt_succ<|HP<|(List.mem_cons.mp h).resolve_left λz=>e z.symm
theorem few:∀ {xs dom:List NK},xs.Nodup->(∀x∈xs,x∈dom)->xs.length<=dom.length
 |[],_,_,_=>zaM _
 |x::xs,dom,B,h=>by
  have B:=List.nodup_cons.mp B;have i:=few (xs:=xs) (dom:=dom.filter λy=>decide (y≠x)) B.2 λy F=>List.mem_filter.mpr {h y<|zaq _ F,decide_eq_true λz=>B.1<|by rw[<- z];exact F}
  have:=HP<|h x<|zar ..;rw[zaB];lia
set_option tactic.hygienic true in
def KB{Q:Unit->zac->Prop}(hu:A.units+2<cLine)(I:Inv X pins σ H s)(e:H a=bw (.memo dom f p))(ky:mD H k y)(hk:k∈dom)(hl:dom.length<zal)(mv:MemW H (f k) v)(ry:RelV y u)(rv:RelV v r)(h:∀s',Inv X pins σ (upd H a<|.memo dom f<|bw k) s'->Q () s') :
  wpAny (model X.prog X.w) A (setItem (.ref a) u r) Q E s:=by
 obtain⟨c,b,rfl,F,M⟩:=ky;cases(show u=zax c from ry);obtain⟨hd,xs,N,hp,dd⟩:=DA I.hok e;have nd:(xs.map (·.1)).Nodup:=by obtain⟨_,_,_,_,_,_,_,_,z⟩:=dd;exact z
 have B:xs.length<=zal:=by
  have:=few nd (λx hx=>by obtain⟨y,G,rfl⟩:=List.mem_map.mp hx;exact(N y G).1);rw[zak]at this
  lia
 refine wpAny_setItem_heap (knd:=dE<|bE X.prog X.w) (hsz:=B) (show A.in1.units+1<cLine from hu) (tE I.hok F M) dd λh' W hs=>h _ ?_
 obtain⟨q,es,ep,hq,h2,h3,h4,_,h5⟩:=W;have U:∀b ys,H b=bw (.tup ys)->upd H a (.memo dom f<|bw k) b=bw (.tup ys):=λb ys z=>by rw[aG<|rW z e λq=>nomatch q];exact z
 have all:∀x∈storedH xs k c r,Ent H dom f x:=λx hx=>by
  unfold storedH at hx;split at hx
  .obtain⟨y,G,rfl⟩:=List.mem_map.mp hx
   unfold putAt;split
   .rename_i _ hyk
    obtain⟨a1,a2,a3⟩:=N y G;exact{a1,a2,by rw[hyk];exact mv.to rv}
   .exact N y G
  .rcases List.mem_append.mp hx with z|z
   .exact N x z
   .rw[List.mem_singleton.mp z];exact{hk,{b,F,M},mv.to rv}
 refine pH I (by rw[e];exact za0) hs {q,hq} {hd,_,λx hx=>?_,λk' Y=>?_,q,es,ep,hq,h2,h3,h4,h5}
 .obtain⟨d,⟨b,q1,q2⟩,m⟩:=all x hx
  refine{d,{b,U _ _ q1,U _ _ q2},?_};revert m;cases f x.1 with
  |none=>exact id
  |some p=>exact λ⟨c,F,M⟩=>{c,F,U _ _ M}
 .cases Y
  have:∃q,(k,q)∈storedH xs k c r:=by
   unfold storedH;split
   .rename_i hh
    obtain⟨z,B⟩:=Option.isSome_iff_exists.mp hh;exact{(z.1,r),List.mem_map.mpr {(k,z),wC B,by unfold putAt;rw[ci rfl]}}
   .exact{(c,r),zaY _<|List.mem_singleton.mpr rfl}
  obtain⟨z,B⟩:=this;obtain⟨i,hi⟩:=List.mem_iff_getElem?.mp B;exact{z,atKey_of_get h5 hi}
end
end My
namespace P
open My
def tJ(C:Addr)(x:Str):D->Option D
 |.ob C' fs=>if C'=C then fs.lookup x else bz
 |_=>bz
def dF(C:Addr)(x:Str)(f:Ev):Ev:=λρ=>(f ρ).bind<|tJ C x
theorem sJ:∀ {fs:List (Str×D)} {vs:List (Str×V)} {d:D},vs.map (·.1)=fs.map (·.1)->RepL A H (fs.map (·.2)) (vs.map (·.2))->fs.lookup x=bw d->∃v,vs.lookup x=bw v/\Rep A H d v
 |[],[],_,_,_,h=>nomatch h
 |[],_::_,_,e,_,_=>nomatch e
 |_::_,[],_,e,_,_=>nomatch e
 |(a,d0)::fs,(b,v0)::vs,d,e,r,h=>by
  injection e with z e2
  have z:b=a:=z;subst z;cases r with
  |cons r1 r2=>
   by_cases q:(x == b)=ca
   .rw[zb7,q]at h
    cases h;exact{v0,by rw[zb7,q],r1}
   .rw[zb7,Bool.eq_false_iff.mpr q]at h
    obtain⟨v,B,F⟩:=sJ e2 r2 h;exact{v,by rw[zb7,Bool.eq_false_iff.mpr q];exact B,F}
section
variable {X:Cx}{O:List Nat}
set_option tactic.hygienic true in
def mL(c:Cls X.K C)(n:NoAttr X.K C x)(N:PB X O e f)(W:zaR e x X.env (eval e X.env)=eval e X.env:=by rfl):PD X O (.Attribute e x pos)<|dF C x f:=
 PE.mono (lW N W) <| by
  rintro σ H Q ⟨H0,A0,A,E,ρ,d,st,e,q⟩;obtain⟨y,F,z⟩:=bind_some e;cases y with
  |ob C' fs=>
   unfold tJ at z;dsimp only at z;split at z
   .rename_i hC
    subst hC;refine{H0,A0,A,E,ρ,_,st,F,λv H1 G r1=>?_};obtain⟨a,dx,vs,rfl,h,U,r⟩:=r1.ob_inv;obtain⟨v,B,M⟩:=sJ U r z;exact{a,_,dx,vs,v,rfl,h,c,n,B,q v H1 G M}
   .cases z
  |_=>cases z
end
def UF(ty td:TE):TE:=λσ H Q=>ty σ H λy H1=>td σ H1 λx H2=>∃a dom f p k,x=.ref a/\H2 a=bw (.memo dom f p)/\mD H2 k y/\Q (.bl ca) (upd H2 a<|.memo dom f bz)/\Q (.bl cf) (upd H2 a<|.memo dom f<|bw k)
def qaO(td ty tv:TE):TS:=λD σ H=>tv σ H λv H1=>td σ H1 λx H2=>ty σ H2 λy z=>∃a dom f p k,x=.ref a/\z a=bw (.memo dom f p)/\mD z k y/\k∈dom/\dom.length<zal/\MemW z (f k) v/\D.nx σ (upd z a<|.memo dom f<|bw k)
def V6(td ty:TE):TE:=λσ H Q=>td σ H λx H1=>ty σ H1 λy H2=>∃a dom f k,x=.ref a/\H2 a=bw (.memo dom f<|bw k)/\mD H2 k y/\∀v,MemW H2 (f k) v->Q v (upd H2 a<|.memo dom f bz)
section
variable {X:Cx}{o i e value:Expr}{pos pos' tpos:Pos}{td ty tv:TE}
def JG(M:X.A.units+2<cLine)(hi:PE X i ty)(ho:PE X o td):PC X .NotIn i o<|UF ty td:=by
 intro pins s σ H Q I h;refine c8 (hi pins s σ H _ I h) λiv Y ⟨y,H1,N,W,q1⟩=>c8 (ho pins Y σ H1 _ N q1) λu s2 ⟨x,H2,U,rx,a,dom,f,p,k,ex,g,G,qa,B⟩=>?_
 subst ex;obtain rfl:u=zax a:=rx;exact RG M U g G W (λF z=>{.bl ca,_,z,rfl,qa}) λF z=>{.bl cf,_,z,rfl,B}
def RX(N:X.A.units+2<cLine)(ho:PE X o td)(hi:PE X i ty)(hv:PE X value tv)(hs:zaF value (bw<|.Subscript o i pos') pos.line X.env=pure cf) :
  PS X (.Assign [.Subscript o i pos'] value pos) (qaO td ty tv):=by
 intro pins s σ H D I h;refine wpAny_Assign_Subscript (c8 (hv pins s σ H _ I h) λr s1 ⟨v,H1,B,rv,q1⟩=>c8 (ho pins s1 σ H1 _ B q1) λu s2 ⟨x,H2,W,rx,q2⟩=>c8 (hi pins s2 σ H2 _ W q2) λiv s3 ⟨y,H3,z,Y,a,dom,f,p,k,ex,g,ky,kd,G,F,U⟩=>?_) hs;subst ex;obtain rfl:u=zax a:=rx;exact KB N z g ky kd G F Y rv λs4 M=>{σ,_,M,U}
def RA(M:X.A.units+2<cLine)(ho:PE X o td)(hi:PE X i ty)(hs:LC i):PE X (.Subscript o i pos)<|V6 td ty:=by
 intro pins s σ H Q I h;refine GZ PySem.F.slot_dict_getitem.lookup hs<|c8 (ho pins s σ H _ I h) λu s1 ⟨x,H1,Y,rx,q1⟩=>c8 (hi pins s1 σ H1 _ Y q1) λiv s2 ⟨y,H2,B,ry,a,dom,f,k,ex,g,N,q2⟩=>?_;subst ex;obtain rfl:u=zax a:=rx;exact{Y3 B g,JS M B g N ry λv w' G U z mw=>{v,_,zQ (p':=bz) (t':=G.toks) U g (λ_ _ _ k W=>by cases W),z,q2 v mw}}
end
noncomputable def intsOf:List D->Option (List Int)
 |[]=>bw []
 |.int i::l=>(intsOf l).map (i::·)
 |_=>bz
def nkD:D->Option NK
 |.tup [.int i,.tup l]=>(intsOf l).map λns=>(.inl i,ns.map .inl)
 |_=>bz
noncomputable def memD:Option (Int×Int)->D
 |none=>.non
 |some p=>.tup [.int p.1,.int p.2]
open Classical in
def VO(C:Addr)(nz kz tz:Nat)(f1 f2:Sv):Sv:=λρ=>(aD nz ρ).bind λnd=>(tJ C "found" nd).bind λm=>match m with
 |.mem dom f=>(aD kz ρ).bind λkd=>(nkD kd).bind λk=>(f1 ρ).bind λo=>match o with
  |.nx ρ1=>(f2 ρ1).bind λo=>match o with
   |.nx ρ2=>(aD tz ρ2).bind λt=>if k∈dom/\dom.length<zal/\t=memD (f k)/\ρ2[nz]?=ρ[nz]?/\ρ2[kz]?=ρ[kz]? then bw (.rt t)else bz
   |_=>bz
  |_=>bz
 |_=>bz
theorem ints_rep:∀ {l:List D} {vs:List V} {ns:List Int},intsOf l=bw ns->RepL A H l vs->vs=(ns.map zbx:List Key).map kV
 |[],vs,ns,h,r=>by cases h;cases r;rfl
 |.int i::l,vs,ns,h,r=>by
  obtain⟨ms,e,rfl⟩:=map_some<|show(intsOf l).map (i::·)=bw ns from h;cases r with
  |cons r1 r2=>cases r1;rw[ints_rep e r2];rfl
set_option tactic.hygienic true in
def TQ(h:nkD d=bw k)(r:Rep A H d v):mD H k v:=by
 unfold nkD at h;split at h
 .rename_i i l
  obtain⟨ns,e,rfl⟩:=map_some h;cases r with
  |tup h1 r1=>
   cases r1 with
   |cons a1 r1=>
    cases a1;cases r1 with
    |cons a2 r1=>
     cases r1;cases a2 with
     |tup h2 r2=>exact{_,_,rfl,h1,by rw[h2,ints_rep e r2]}
 .cases h
def UO(h:Rep A H (memD r) v):MemW H r v:=by
 cases r with
 |none=>cases h;rfl
 |some p=>
  cases h with
  |tup h1 r1=>
   cases r1 with
   |cons a1 r1=>
    cases a1;cases r1 with
    |cons a2 r1=>cases a2;cases r1;exact{_,rfl,h1}
def UW(h:MemW H r v):Rep A H (memD r) v:=by
 cases r with
 |none=>cases(show v=.non from h);exact .non
 |some p=>obtain⟨b,rfl,e⟩:=h;exact .tup e<|.cons (.int _)<|.cons (.int _) .nil
set_option tactic.hygienic true in
def PU(h:H a=bw o):upd H a o=H:=by
 funext b;unfold upd;split
 .rename_i q;rw[q,h]
 .rfl
def X5(h:mD H k v)(e:H a=bw o)(n:∀xs,o≠.tup xs):mD (upd H a o') k v:=by
 obtain⟨c,b,rfl,F,B⟩:=h;exact{c,b,rfl,by rw[aG<|rW F e λz=>n _ z.symm];exact F,by rw[aG<|rW B e λz=>n _ z.symm];exact B}
section
variable {X:Cx}{L:Lp}{O':List Nat}
set_option tactic.hygienic true in
def N3(N M tz:Nat)(c:Cls X.K C)(n:NoAttr X.K C "found")(hu:X.A.units+2<cLine)(h1:kR X {[],[]} [] aa f1 [])(h2:kR X {[],[]} [] F f2 [])
  (aw:PE X n1<|dI N) (al:PE X n2<|dI N) (ax:PE X n3<|dI N) (a2:PE X k1<|dI M) (ay:PE X k2<|dI M) (am:PE X k3<|dI M) (ht:PE X te<|dI tz) (hs:LC k3)
  (b1:zaR n1 "found" X.env (eval n1 X.env)=eval n1 X.env:=by rfl) (b2:zaR n2 "found" X.env (eval n2 X.env)=eval n2 X.env:=by rfl) (b3:zaR n3 "found" X.env (eval n3 X.env)=eval n3 X.env:=by rfl)
  (hm:zbX .NotIn (.Attribute n1 "found" p1)=cf:=by rfl) (hw:zaF te (bw<|.Subscript (.Attribute n2 "found" p2) k2 p3) p4.line X.env=pure cf:=by rfl) :
  eL X L [] [.If (.Compare k1 [.NotIn] [.Attribute n1 "found" p1] p5) [aa,F,.Assign [.Subscript (.Attribute n2 "found" p2) k2 p3] te p4] [] p6,.Return (bw<|.Subscript (.Attribute n3 "found" p7) k3 p8) p9] (VO C N M tz f1 f2) O':=
 PSs.mono (eB (VW (WQ (JG hu a2<|lW aw b1) hm) (eB h1<|eB h2<|jW<|RX hu (lW al b2) ay ht hw) G3)<|jW<|PM<|RA hu (lW ax b3) am hs) <| by
  rintro T σ H ⟨H0,A0,A,E,ρ,out,st,e,ad⟩;obtain⟨nd,en,e⟩:=bind_some e;obtain⟨m,em,e⟩:=bind_some e;cases m with
  |mem dom f=>
   obtain⟨kd,ek,e⟩:=bind_some e;obtain⟨k,kk,e⟩:=bind_some e;obtain⟨o1,aj,e⟩:=bind_some e;cases o1 with
   |nx ρ1=>
    obtain⟨o2,a3,e⟩:=bind_some e;cases o2 with
    |nx ρ2=>
     obtain⟨t,et,e⟩:=bind_some e;split at e
     .rename_i hh
      obtain⟨hd,hl,tm,r1,r2⟩:=hh;cases e;subst tm;cases nd with
      |ob C' fs=>
       unfold tJ at em;dsimp only at em;split at em
       .rename_i hC
        subst hC
        -- what is true wherever the node and the key stand
        have U:∀ {A:Av} {σ:L2.St} {H:Hp} {ρ':dH},ST H0 A0 A E [] σ H ρ'->ρ'[N]?=ρ[N]?->ρ'[M]?=ρ[M]?->∃a dx vs B G,σ[N]?=bw (bw<|.ref a)/\σ[M]?=bw (bw G)/\H a=bw (.ins C' dx vs)/\vs.lookup ("found" : Str)=bw (V.ref B)/\H B=bw (.memo dom f bz)/\mD H k G:=λ{A σ H ρ'} st q1 q2=>by
         obtain⟨v,ev,rv⟩:=st.val N _ (q1.trans<|bZ en) (λz=>nomatch z);obtain⟨G,ap,rk⟩:=st.val M _ (q2.trans<|bZ ek) (λz=>nomatch z);obtain⟨a,dx,vs,rfl,h,ao,r⟩:=RepB.ob_inv<|.of rv;obtain⟨w,hw,a5⟩:=sJ ao r em;obtain⟨B,rfl,an⟩:=RepB.mem_inv<|.of a5;exact{a,dx,vs,B,G,ev,ap,h,hw,an,TQ kk rk}
        have W:∀ {A:Av} {σ:L2.St} {H:Hp} {ρ':dH},ST H0 A0 A E [] σ H ρ'->∀ {a dx:Addr} {vs:List (Str×V)} {B:Addr} {G:V},σ[N]?=bw (bw<|.ref a)->σ[M]?=bw (bw G)->H a=bw (.ins C' dx vs)->vs.lookup ("found" : Str)=bw (V.ref B)->H B=bw (.memo dom f bz)->mD H k G->qbo (V6 (qbq X.K (dI N) "found")<|dI M) T σ (upd H B<|.memo dom f<|bw k):=λ{A σ H ρ'} st {a dx vs B G} e1 e2 e3 e4 Y e6=>by
         refine{_,e1,a,C',dx,vs,_,rfl,by rw[aG<|rW e3 Y λz=>nomatch z];exact e3,c,n,e4,G,e2,B,dom,f,k,rfl,aJ,X5 e6 Y (λ_ z=>nomatch z),λv mw=>?_};rw[Q4,PU Y];have au:MemW H (f k) v:=by
          revert mw;cases f k with
          |none=>exact id
          |some p=>exact λ⟨b,q1,q2⟩=>⟨b,q1,by
            by_cases z:b=B
            .subst z;rw[aJ]at q2;cases q2
            .rw[aG z]at q2;exact q2⟩
         exact ad v H st.ex<|UW au
        obtain⟨a,dx,vs,B,G,e1,e2,e3,e4,Y,e6⟩:=U st rfl rfl;refine{G,e2,_,e1,a,C',dx,vs,_,rfl,e3,c,n,e4,B,dom,f,bz,k,rfl,Y,e6,{ca,rfl,?_},{cf,rfl,?_}}
        .rw[PU Y]
         dsimp only;rw[ci rfl];refine{H0,A0,A,E,ρ,_,st,aj,λA1 br H1 aa=>{H0,A0,A1,E,ρ1,_,aa,a3,λA2 bt H2 F=>?_}};obtain⟨tv,a1,rt⟩:=F.val tz _ (bZ et) (λz=>nomatch z);obtain⟨a',as,a4,ak,az,g1,g2,g3,g4,g5,g6⟩:=U F r1 r2;exact{tv,a1,_,g1,a',C',as,a4,_,rfl,g3,c,n,g4,az,g2,ak,dom,f,bz,k,rfl,g5,g6,hd,hl,UO rt,W F g1 g2 g3 g4 g5 g6}
        .dsimp only
         rw[cj zaD];exact W st e1 e2 e3 e4 Y e6
       .cases em
      |_=>cases em
     .cases e
    |_=>exact nn e
   |_=>exact nn e
  |_=>exact nn e
end
structure Exx(x:Addr)(A:Av)(H H':Hp):Prop where
 rd:∀b u,b≠x->Rd H b u->Rd H' b u
 kp:∀b u,b≠x->Kp u->H b=bw u->H' b=bw u
 ow:∀b u,b≠x->A b->H b=bw u->H' b=bw u
 fz:∀b o u,b≠x->H b=bw (.frz o u)->H' b=bw (.frz o u)
section
variable {x:Addr}{A A':Av}{H H' H2:Hp}
def Exx.trans(a:Exx x A H H')(b:Exx x A H' H2):Exx x A H H2:=
 {λc u n h=>b.rd c u n<|a.rd c u n h,λc u n k h=>b.kp c u n k<|a.kp c u n k h,λc u n k h=>b.ow c u n k<|a.ow c u n k h,λc o u n h=>b.fz c o u n<|a.fz c o u n h}
def Exx.of(a:Ext A H H'):Exx x A H H':={λc u _ h=>a.rd c u h,λc u _ k h=>a.kp c u k h,λc u _ k h=>a.ow c u k h,λc o u _ h=>a.fz c o u h}
def Exx.put:Exx x A H<|upd H x o:={λb u n h=>iN n h,λb u n _ h=>by rw[aG n];exact h,λb u n _ h=>by rw[aG n];exact h,λb o u n h=>by rw[aG n];exact h}
def Exx.ext(a:Exx x A H H')(n:H x=bz):Ext A H H':=
 have B:∀b,H b≠bz->b≠x:=λb F z=>F<|by rw[z];exact n
 ⟨λb u r => a.rd b u (B b<|by rcases r with r|⟨_, r⟩ <;> (rw[r];exact λz => nomatch z)) r, λb u k r => a.kp b u (B b<|by rw[r];exact λz => nomatch z) k r,
  λb u k r=>a.ow b u (B b<|by rw[r];exact λz=>nomatch z) k r,λb o u r=>a.fz b o u (B b<|by rw[r];exact λz=>nomatch z) r⟩
mutual
/-- an object that is under way is written -/
theorem Rep.putI(B:A a)(F:H a=bw (.ins C dx fs)):Rep A H d v->Rep A (upd H a o) d v
 |.non=>.non
 |.bl b=>.bl b
 |.int i=>.int i
 |.str s=>.str s
 |.tup (a:=b) h r=>.tup (by rw[aG λz=>by subst z;rw[F]at h;cases h];exact h)<|RepL.putI B F r
 |.lst (a:=b) n h r=>.lst n (iN (λz=>n<|by rw[z];exact B) h)<|RepL.putI B F r
 |.dK (a:=b) n h e r=>.dK n (iN (λz=>n<|by rw[z];exact B) h) e<|RepL.putI B F r
 |.dT (a:=b) n h e r=>.dT n (iN (λz=>n<|by rw[z];exact B) h) e<|RepL.putI B F r
 |.ob (a:=b) n h e r=>.ob n (by rw[aG λz=>n<|by rw[z];exact B];exact h) e<|RepL.putI B F r
 |.mem (a:=b) h=>.mem<|by rw[aG λz=>by subst z;rw[F]at h;cases h];exact h
theorem RepL.putI(B:A a)(z:H a=bw (.ins C dx fs)):RepL A H ds vs->RepL A (upd H a o) ds vs
 |.nil=>.nil
 |.cons h t=>.cons (Rep.putI B z h)<|RepL.putI B z t
end
end
structure IO(K:zae)(H0:Hp)(A:Av)(x C dx:Addr)(ds:List<|Str×D)(σ:L2.St)(H:Hp)(ρ:dH):Prop where
 cls:Cls K C
 ax:A x
 live:Live A H
 hx:∃fs:List (Str×V),H x=bw (.ins C dx fs)/\fs.map (·.1)=ds.map (·.1)/\RepL A H (ds.map (·.2)) (fs.map (·.2))
 s0:σ[0]?=bw (bw<|.ref x)
 len:σ.length=ρ.length
 val:∀(i:Nat) (d:D),ρ[i]?=bw (bw d)->∃v,σ[i]?=bw (bw v)/\Rep A H d v
 ke:Exx x A H0 H
section
variable {K:zae}{H0:Hp}{A:Av}{x C dx:Addr}{ds:List (Str×D)}{σ:L2.St}{H H':Hp}{ρ:dH}
def IO.st(s:IO K H0 A x C dx ds σ H ρ):ST H A A [] [] σ H ρ:=
 {Ext.refl _ _,λ_ z=>z,s.live,s.live,s.len,λi d h _=>s.val i d h,(λj d _ h=>nomatch h),(λj k d d' a h=>nomatch h),(λq B=>nomatch B)}
theorem IO.ext(s:IO K H0 A x C dx ds σ H ρ)(e:Ext A H H'):IO K H0 A x C dx ds σ H' ρ:=
 {s.cls,s.ax,(s.st.mono e).live,by obtain⟨fs,h,m,r⟩:=s.hx;exact{fs,e.ow _ _ s.ax h,m,r.ext e},s.s0,s.len,λi d h=>(s.st.mono e).val i d h (λz=>nomatch z),s.ke.trans<|.of e}
theorem vJ:∀ {fs:List (Str×V)},f∉fs.map (·.1)->kG f v fs=fs++[(f,v)]
 |[],_=>rfl
 |(g,y)::fs,h=>by
  have h1:¬ g=f:=λz=>h<|by rw[zaj,z];exact zar ..
  have h2:f∉fs.map (·.1):=λz=>h<|zaq _ z
  rw[kG,cj h1,vJ h2];rfl
def RepL.snoc{ds:List D}{vs:List V}(r:RepL A H ds vs)(h:Rep A H d v):RepL A H (ds++[d])<|vs++[v]:=r.append<|.cons h .nil
theorem IO.put(s:IO K H0 A x C dx ds σ H ρ)(B:f∉ds.map (·.1))(r:Rep A H d v):∃fs,H x=bw (.ins C dx fs)/\fs.length=ds.length/\IO K H0 A x C dx (ds++[(f,d)]) σ (upd H x<|.ins C dx<|kG f v fs) ρ:=by
 obtain⟨fs,h,m,F⟩:=s.hx;refine{fs,h,by have:=congrArg zbq m;simpa using this,s.cls,s.ax,λa G z=>?_,{_,aJ,?_,?_},s.s0,s.len,λi d h'=>?_,s.ke.trans .put}
 .by_cases q:a=x
  .subst q;rw[aJ]at z;cases z
  .rw[aG q]at z;exact s.live a G z
 .rw[vJ (by rw[m];exact B),zaO,zaO,m];rfl
 .rw[vJ (by rw[m];exact B),zaO,zaO]
  exact RepL.putI s.ax h<|F.snoc r
 .obtain⟨v,e,q⟩:=s.val i d h'
  exact{v,e,q.putI s.ax h}
end
inductive tIO(K:zae)(f:Str)(fe:Ev)(T:Ends)(σ:L2.St)(H:Hp):Prop
 | mk (H0:Hp) (A:Av) (x C dx:Addr) (ds:List<|Str×D) (ρ:dH) (d:D) (st:IO K H0 A x C dx ds σ H ρ) (e:fe ρ=bw d) (nf:NoAttr K C f) (lf:ds.length<1000) (hf:f∉ds.map (·.1))
  (n:∀H',IO K H0 A x C dx (ds++[(f,d)]) σ H' ρ->T.nx σ H'):tIO K f fe T σ H
inductive tIC(K:zae)(f h:Str)(F:List D->Option D)(fe:Ev)(T:Ends)(σ:L2.St)(H:Hp):Prop
 | mk (H0:Hp) (A:Av) (x C dx:Addr) (ds:List<|Str×D) (ρ:dH) (d1 d2 d:D) (st:IO K H0 A x C dx ds σ H ρ) (e1:fe ρ=bw d1) (e2:ds.lookup h=bw d2) (e:F [d1,d2]=bw d) (nf:NoAttr K C f) (nh:NoAttr K C h) (lf:ds.length<1000) (hf:f∉ds.map (·.1))
  (n:∀H',IO K H0 A x C dx (ds++[(f,d)]) σ H' ρ->T.nx σ H'):tIC K f h F fe T σ H
inductive tIM(K:zae)(f:Str)(dom:List NK)(g:Mf)(T:Ends)(σ:L2.St)(H:Hp):Prop
 | mk (H0:Hp) (A:Av) (x C dx:Addr) (ds:List<|Str×D) (ρ:dH) (st:IO K H0 A x C dx ds σ H ρ) (nf:NoAttr K C f) (lf:ds.length<1000) (hf:f∉ds.map (·.1))
  (n:∀H',IO K H0 A x C dx (ds++[(f,.mem dom g)]) σ H' ρ->T.nx σ H'):tIM K f dom g T σ H
def qai(dom:List NK)(g:Mf):TE:=λ_ H Q=>∀p,H p=bz->Q (.ref p) (upd H p<|.memo dom g bz)
section
variable {X:Cx}
def SD:PE X (.Dict [] [] pos)<|qai dom g:=λpins s σ H Q I h=>
 wpAny_Dict_empty ⟨.ref s.heap.objs.size,_,I.laid (a:=s.heap.objs.size) (o:=.memo dom g bz) (t':=s.toks) (λ_ _ q=>zam _ q) (zah _)
  {beq_eq_false_iff_ne.mpr<|zaV<|zaE I.big,[],(λ_ z=>nomatch z),(λ_ z=>nomatch z),_,#[],0,zaC _ rfl,{rfl,rfl,rfl},rfl,rfl,List.nodup_nil},rfl,h _<|I.hok.fresh<|zah _⟩
def FA(B:PE X o<|dI 0)(G:PD X [] e fe)(hs:zaF e (bw<|.Attribute o f pos') pos.line X.env=pure cf:=by rfl):PS X (.Assign [.Attribute o f pos'] e pos)<|tIO X.K f fe:=
 PS.mono (vY B G hs) λT σ H ⟨H0,A,x,C,dx,ds,ρ,d,st,e,nf,U,z,n⟩=>
  ⟨H, A, A, [], ρ, d, st.st, e, λv H1 F r1 => by
   obtain⟨fs,h,N,M⟩:=(st.ext F).put z r1;exact{_,st.s0,x,C,dx,fs,rfl,h,st.cls,nf,by lia,n _ M}⟩
def TH(B:PE X o<|dI 0)(hs:zaF (.Dict [] [] p) (bw<|.Attribute o f pos') pos.line X.env=pure cf:=by rfl):PS X (.Assign [.Attribute o f pos'] (.Dict [] [] p) pos)<|tIM X.K f dom g:=
 PS.mono (vY B (SD (dom:=dom) (g:=g)) hs) <| by
  rintro T σ H ⟨H0,A,x,C,dx,ds,ρ,st,nf,N,z,n⟩ q F;obtain⟨fs,h,M,G⟩:=(st.ext<|Ext.new (o:=.memo dom g bz) F).put z<|.mem<|aJ (H:=H) (a:=q);exact{_,st.s0,x,C,dx,fs,rfl,h,st.cls,nf,by lia,n _ G}
def TL(FF:Fn X.prog X.w X.K X.mg X.base g k ps F)(hp:ps.length=2)(hr:Room k X.A)(hg:Gl X g)(ho:PE X o<|dI 0)(B:PE X o2<|dI 0)(he:PD X [] e fe)
  (hb:zaR o2 h X.env (eval o2 X.env)=eval o2 X.env:=by rfl) (M:(g == ("__debug__" : Str))=cf:=by decide) (h1:zag [e,.Attribute o2 h p2] X.env=(cf,eval e X.env)::zag [.Attribute o2 h p2] X.env:=by rfl) (h2:(zaJ cpos<|zag [.Attribute o2 h p2] X.env).any (·.1)=cf:=by rfl) (h3:zag [.Attribute o2 h p2] X.env=(cf,eval (.Attribute o2 h p2) X.env)::zag [] X.env:=by rfl)
  (hs:zaF (.Call (.Name g p) [e,.Attribute o2 h p2] [] cpos) (bw<|.Attribute o f pos') pos.line X.env=pure cf:=by rfl):PS X (.Assign [.Attribute o f pos'] (.Call (.Name g p) [e,.Attribute o2 h p2] [] cpos) pos)<|tIC X.K f h F fe:=by
 obtain⟨fa,fd,Y,N,hm,FO⟩:=My.Ok.ex FF;refine PS.mono (vY ho (zG FO hr hg hm Y N .nil IC (cR he (cR (lW B hb) fK h3) h1) M h1 h2) hs) λT σ H ⟨H0,A,x,C,dx,ds,ρ,W,d2,d,st,e1,e2,e,nf,nh,lf,hf,n⟩=>?_
 refine{H,A,A,[],ρ,W,st.st,e1,λv H1 x1 r1=>?_};have z:=st.ext x1;obtain⟨fs,hx,m,rr⟩:=z.hx;obtain⟨v2,G,U⟩:=sJ m rr e2;refine{_,z.s0,x,C,dx,fs,v2,rfl,hx,z.cls,nh,G,?_};refine{A,[W,d2],d,z.live,.cons r1<|.cons U .nil,hp.symm,e,λv3 H3 x3 r3=>?_};obtain⟨fs',h',hl,s2⟩:=(z.ext x3).put hf r3;exact{_,z.s0,x,C,dx,fs',rfl,h',z.cls,nf,by lia,n _ s2}
end
def qc(C:Addr)(G:D->D->Option D):Sp:=λvs H Q _=>∃(A:Av) (H1:Hp) (x dx:Addr) (v:V) (b d0 d:D),vs=[.ref x,v]/\H=upd (upd H1 dx<|.own x) x (.ins C dx [])/\H1 x=bz/\H1 dx=bz/\dx≠x/\Live A H1/\Rep A H1 d0 v/\G b d0=bw d/\∀H2,Ext A H1 H2->Rep A H2 d (.ref x)->Q .non H2
structure MkO(P:zai)(w:World)(K:zae)(mg:Str->Option Value)(base:Heap)(k:Nat)(x:Str)(C:Addr)(p:Str)(G:D->D->Option D):Prop where
 ex:∃f fd,mg x=bw (.ref C)/\Mk K C f/\Binds K fd ["self",p] []/\FnOk P w K mg base wK k f fd ["self",p] (qc C G)
noncomputable def eNew(G:D->D->Option D)(β f:Ev):Ev:=λρ=>(β ρ).bind λb=>(f ρ).bind<|G b
section
variable {X:Cx}{O:List Nat}
def kC(M:MkO X.prog X.w X.K X.mg X.base k x C p G)(hr:Room (k+1) X.A)(hg:Gl X x)(he:PD X O e fe)(z:(x == ("__debug__" : Str))=cf:=by decide)
  (h1:zag [e] X.env=(cf,eval e X.env)::zag [] X.env:=by rfl) (h2:(zaJ pos<|zag [] X.env).any (·.1)=cf:=by rfl):PD X O (.Call (.Name x pp) [e] [] pos)<|eNew G β fe:=by
 obtain⟨f,fd,hm,mk,hb,FO⟩:=M.ex;refine PE.mono (T9 mk FO hr hg hm hb .nil IC (cR he fK h1) z h1 h2) λσ H Q ⟨H0,A0,A,E,ρ,d,st,e,q⟩=>?_
 obtain⟨b,eb,e⟩:=bind_some e;obtain⟨B,e0,e1⟩:=bind_some e;refine{H0,A0,A,E,ρ,B,st,e0,λv H1 F r1=>λU dx n1 N Y=>?_};exact{A,H1,U,dx,v,b,B,d,rfl,rfl,n1,N,Y,(st.mono F).live,r1,e1,λH2 W r2=>{rfl,q _ H2 (F.trans W) r2}}
end
structure ObT(K:zae)(mg:Str->Option Value)(x q p:Str)(st:Stmt)(C:Addr)(fs:List Str):Prop where
 cls:Cls K C
 na:∀a∈fs,NoAttr K C a
 ex:∃f fd,mg x=bw (.ref C)/\Mk K C f/\Binds K fd ["self",p] []/\Fun K "__init__" q st f fd
section
variable {P:zai}{w:World}{K:zae}{mg:Str->Option Value}{base:Heap}
def ObT.mko{x q p:Str}{st:Stmt}{C:Addr}{fs N:List Str}{k:Nat}{G:D->D->Option D}(T:ObT K mg x q p st C fs)(S:FnScope N ["self",p]<|aK st)
  (h:∀(fa:Addr) (B:Value) (A:zan) (z:List Env) (s:zac) (H:Hp) (E:XK),Room k (A.deeper<|zaK q (aK st) s.heap.objs.size fa B)->∀(vs:List V) (Q:VK),qc C G vs H Q E->∃t,PSs (i8 wK P w K mg base N q (aK st) fa B A z s H E).nox (bM st) t/\t {nx:=λ_ H'=>Q .non H',rt:=Q} (start N vs) H) :
  MkO P w K mg base (k+1) x C p G:=by
 obtain⟨f,fd,Y,M,U,F⟩:=T.ex;exact{f,fd,Y,M,U,F.ok S (λvs H Q E hsp=>by obtain⟨_,_,_,_,_,_,_,_,rfl,_⟩:=hsp;rfl) λB A z s H vs Q E W hsp=>h f B A z s H E W vs Q hsp}
end
def IO.begun{K:zae}{C x dx:Addr}{A:Av}{H1:Hp}{v:V}{G:D}(cls:Cls K C)(F:H1 x=bz)(N:H1 dx=bz)(ne:dx≠x)(lv:Live A H1)(r:Rep A H1 G v)(m:List<|Option V)(hm:∀o∈m,o=bz):IO K H1 (λb=>A b\/b=x) x C dx [] (bw (.ref x)::bw v::m) (upd (upd H1 dx<|.own x) x<|.ins C dx [])<|bz::bw G::m.map λ_=>bz:=by
 have nx:upd H1 dx (.own x) x=bz:=by rw[aG ne.symm];exact F
 have U:Ext (λb=>A b\/b=x) H1<|upd (upd H1 dx<|.own x) x<|.ins C dx []:=(Ext.new N).trans<|Ext.new nx;have Y:Rep (λb=>A b\/b=x) (upd (upd H1 dx<|.own x) x<|.ins C dx []) G v:=(r.av (A':=λb=>A b\/b=x) λa B=>B.imp id λz=>by rw[z];exact F).ext U;refine{cls,.inr rfl,λa B z=>?_,{[],aJ,rfl,.nil},rfl,by simp,λi d h=>?_,.of U}
 .rcases B with B|rfl
  .have M:=lv a B
   have a1:a≠x:=λq=>M<|by rw[q];exact F
   have W:a≠dx:=λq=>M<|by rw[q];exact N
   rw[aG a1,aG W]at z;exact M z
  .rw[aJ]at z;cases z
 .match i,h with
  |1,h=>cases h;exact{v,rfl,Y}
  |i+2,h=>
   have:(m.map λ_=>(bz:Option D))[i]?=bw (bw d):=h;rw[zav]at this;obtain⟨_,_,q⟩:=Option.map_eq_some_iff.mp this;cases q
def IO.done{K:zae}{C x dx:Addr}{A:Av}{H1 H2:Hp}{ds:List (Str×D)}{σ:L2.St}{ρ:dH}(s:IO K H1 (λb=>A b\/b=x) x C dx ds σ H2 ρ)(F:H1 x=bz)(G:Live A H1):Ext A H1 H2/\Rep A H2 (.ob C ds) (.ref x):=by
 refine{(s.ke.ext F).mono λa B=>.inl B,?_};obtain⟨fs,h,m,r⟩:=s.hx;exact .ob (λz=>G x z F) h m<|r.av λa B=>.inl<|.inl B
def IL(C:Addr)(fb:Ev)(F:List D->Option D)(B:D->List NK)(ff:D->Mf)(z:D):Option D:=(fb [bz,bw z]).bind λb=>(F [z,b]).bind λns=>bw<|.ob C [("part",z),("below",b),("names",ns),("found",.mem (B z)<|ff z)]
section
variable {X:Cx}
def J3{C:Addr}{k:Nat}{gp:List Str}{o1 o2 o3 F Y e1 e2 M:Expr}{g:Str}{fb:D->Ev}{Nm:List D->Option D}{dm:D->D->List NK}{ff:D->D->Mf}{a1 a2 a3 a4 p1 p2 p3 p4 q2 G c3 d4:Pos}(cls:Cls X.K C)(N:∀a∈(["part", "below", "names", "found"]:List Str),NoAttr X.K C a)(FF:Fn X.prog X.w X.K X.mg X.base g k gp Nm)(hp:gp.length=2)(hr:Room k X.A)(hg:Gl X g)
  (ak:PE X o1<|dI 0) (W:PE X o2<|dI 0) (aa:PE X o3<|dI 0) (al:PE X F<|dI 0) (aj:PE X Y<|dI 0) (ad:PD X [] e1<|aD 1) (af:∀b,PD X [] e2<|fb b) (am:PD X [] M<|aD 1)
  (hb:zaR F "below" X.env (eval F X.env)=eval F X.env:=by rfl) (ag:(g == ("__debug__" : Str))=cf:=by decide) (h1:zag [M,.Attribute F "below" G] X.env=(cf,eval M X.env)::zag [.Attribute F "below" G] X.env:=by rfl) (h2:(zaJ c3<|zag [.Attribute F "below" G] X.env).any (·.1)=cf:=by rfl) (h3:zag [.Attribute F "below" G] X.env=(cf,eval (.Attribute F "below" G) X.env)::zag [] X.env:=by rfl)
  (s1:zaF e1 (bw<|.Attribute o1 "part" a1) p1.line X.env=pure cf:=by rfl) (s2:zaF e2 (bw<|.Attribute o2 "below" a2) p2.line X.env=pure cf:=by rfl) (s3:zaF (.Call (.Name g q2) [M,.Attribute F "below" G] [] c3) (bw<|.Attribute o3 "names" a3) p3.line X.env=pure cf:=by rfl) (s4:zaF (.Dict [] [] d4) (bw<|.Attribute Y "found" a4) p4.line X.env=pure cf:=by rfl)
  {vs:List V} {H:Hp} {Q:VK} {E:XK} (hsp:qc C (λb=>IL C (fb b) Nm (dm b)<|ff b) vs H Q E) {R:VK}:∃t,PSs X [.Assign [.Attribute o1 "part" a1] e1 p1,.Assign [.Attribute o2 "below" a2] e2 p2,.Assign [.Attribute o3 "names" a3] (.Call (.Name g q2) [M,.Attribute F "below" G] [] c3) p3,.Assign [.Attribute Y "found" a4] (.Dict [] [] d4) p4] t/\t {nx:=λ_ H'=>Q .non H',rt:=R} (vs.map bw) H:=by
 obtain⟨A,H1,x,dx,v,bb,B,d,rfl,rfl,n1,n2,ne,lv,rp,U,q⟩:=hsp;obtain⟨b,eb,U⟩:=bind_some U;obtain⟨ns,en,U⟩:=bind_some U;cases U;refine{_,eB (FA ak ad s1)<|eB (FA W (af bb) s2)<|eB (TL FF hp hr hg aa al am hb ag h1 h2 h3 s3)<|jW<|TH (dom:=dm bb B) (g:=ff bb B) aj s4,?_};have I0:=IO.begun cls n1 n2 ne lv rp [] (λ_ z=>nomatch z);refine{H1,_,x,C,dx,[],_,B,I0,rfl,N _<|by simp,by simp,by simp,λH2 I2=>?_};refine{H1,_,x,C,dx,_,_,b,I2,eb,N _<|by simp,by simp,(show("below" : Str)∉(["part"]:List Str) by decide),λH3 I3=>?_};refine{H1,_,x,C,dx,_,_,B,b,ns,I3,rfl,rfl,en,N _<|by simp,N _<|by simp,by simp,(show("names" : Str)∉(["part", "below"]:List Str) by decide),λH4 I4=>?_};refine{H1,_,x,C,dx,_,_,I4,N _<|by simp,by simp,(show("found" : Str)∉(["part", "below", "names"]:List Str) by decide),λH5 I5=>?_};obtain⟨x5,r5⟩:=I5.done n1 lv;exact q H5 x5 r5
end
noncomputable def mS{α:Type}(f:D->α->Option α):List D->α->Option α
 |[],a=>bw a
 |x::l,a=>(f x a).bind<|mS f l
abbrev LT:=List<|List Key×D
def lQ(e:Ext A Hs H1)(n:H1 r=bz)(H:Hp)(o:HO)(x:Ext A Hs H):Ext A Hs (upd H r o) where
 rd:=λb u h=>by
  by_cases q:b=r
  .subst q;rcases e.rd _ _ h with z|⟨_,z⟩ <;> (rw[n]at z;cases z)
  .exact iN q<|x.rd _ _ h
 kp:=λb u k h=>by
  by_cases q:b=r
  .subst q;have z:=e.kp _ _ k h;rw[n]at z;cases z
  .rw[aG q];exact x.kp _ _ k h
 ow:=λb u k h=>by
  by_cases q:b=r
  .subst q;have z:=e.ow _ _ k h;rw[n]at z;cases z
  .rw[aG q];exact x.ow _ _ k h
 fz:=λb o u h=>by
  by_cases q:b=r
  .subst q;have z:=e.fz _ _ _ h;rw[n]at z;cases z
  .rw[aG q];exact x.fz _ _ _ h
structure IA(K:zae)(Hs:Hp)(A0 A:Av)(x C dx r s:Addr)(bk:D)(E:List Fact)(p:LT×LT)(σ:L2.St)(H:Hp)(ρ:dH):Prop where
 cls:Cls K C
 nr:NoAttr K C "routes"
 ns:NoAttr K C "spans"
 av:∀b,A b->A0 b\/b=x\/b=r\/b=s
 a0:∀b,A0 b->A b
 ax:A x
 ar:A r
 at':A s
 ne:r≠s
 fr:∀H o,Ext A0 Hs H->Ext A0 Hs (upd H r o)
 fs:∀H o,Ext A0 Hs H->Ext A0 Hs (upd H s o)
 live:Live A H
 hx:∃vb,H x=bw (.ins C dx [("book",vb),("routes",.ref r),("spans",.ref s)])/\Rep A H bk vb
 o1:Own A H (.dT p.1) r
 o2:Own A H (.dT p.2) s
 s0:σ[0]?=bw (bw<|.ref x)
 len:σ.length=ρ.length
 val:∀(i:Nat) (d:D),ρ[i]?=bw (bw d)->∃v,σ[i]?=bw (bw v)/\Rep A H d v
 fx:∀q∈E,q.Holds A H
 ke:Ext A0 Hs H
section
variable {K:zae}{Hs:Hp}{A0 A:Av}{x C dx r s:Addr}{bk:D}{E:List Fact}{p:LT×LT}{σ:L2.St}{H H':Hp}{ρ:dH}
def IA.st(t:IA K Hs A0 A x C dx r s bk E p σ H ρ):ST H A A E [] σ H ρ:=
 {Ext.refl _ _,λ_ z=>z,t.live,t.live,t.len,λi d h _=>t.val i d h,(λj d _ h=>nomatch h),(λj k d d' a h=>nomatch h),t.fx}
theorem IA.ext(t:IA K Hs A0 A x C dx r s bk E p σ H ρ)(e:Ext A H H'):IA K Hs A0 A x C dx r s bk E p σ H' ρ:=
 {t with live:=(t.st.mono e).live,hx:=by obtain⟨B,h,q⟩:=t.hx;exact{B,e.ow _ _ t.ax h,q.ext e},o1:=t.o1.ext e t.ar,o2:=t.o2.ext e t.at',val:=λi d h=>(t.st.mono e).val i d h (λz=>nomatch z),fx:=(t.st.mono e).ext,ke:=t.ke.trans (e.mono t.a0)}
def IA.more(t:IA K Hs A0 A x C dx r s bk E p σ H ρ)(h:∀q∈E1,q.Holds A H):IA K Hs A0 A x C dx r s bk (E1++E) p σ H ρ:=
 {t with fx:=λq z=>(List.mem_append.mp z).elim (h q) (t.fx q)}
def IA.less(t:IA K Hs A0 A x C dx r s bk E p σ H ρ)(h:∀q∈E1,q∈E):IA K Hs A0 A x C dx r s bk E1 p σ H ρ:=
 {t with fx:=λq z=>t.fx q (h q z)}
theorem IA.set(t:IA K Hs A0 A x C dx r s bk E p σ H ρ)(h:Rep A H d v)(n:i≠0):IA K Hs A0 A x C dx r s bk E p (σ.set i<|bw v) H<|ρ.set i<|bw d:=
 {t with
  s0:=by rw[zbI n];exact t.s0
  len:=by rw[zc8,zc8];exact t.len
  val:=λj e h'=>by
   rcases fE h' with⟨rfl,z,l⟩|⟨B,z⟩
   .cases z
    exact{v,by rw[zcH<|by rw[t.len];exact l],h}
   .rw[zbI B.symm];exact t.val j e z}
def CO(B:Live A H):Live A<|upd H a o:=λb F z=>by
 by_cases q:b=a
 .subst q;rw[aJ]at z;cases z
 .rw[aG q]at z;exact B b F z
def IA.put1(t:IA K Hs A0 A x C dx r s bk E p σ H ρ):∃xs,H r=bw (.dT xs)/\xs.length=p.1.length/\∀B w v,Rep A H w v->IA K Hs A0 A x C dx r s bk E (putD p.1 B w,p.2) σ (upd H r<|.dT<|putK xs B v) ρ:=by
 cases t.o1 with
 |@dT _ _ xs h e rl=>
  refine{xs,h,by have:=congrArg zbq e;simpa using this,λB w v F=>?_};obtain⟨U,M⟩:=x9<|vZ B F<|wD e rl;obtain⟨Y,hx,W⟩:=t.hx;exact {t with
   live:=CO t.live
   hx:={Y,by rw[aG λz=>by rw[z,h]at hx;cases hx];exact hx,W.put t.ar h trivial}
   o1:=.dT aJ U<|M.put t.ar h trivial
   o2:=t.o2.put t.ar h trivial t.ne.symm
   val:=λi d hi=>by obtain⟨v,G,q⟩:=t.val i d hi;exact{v,G,q.put t.ar h trivial}
   fx:=λq N=>Fact.put t.ar h trivial (t.fx q N)
   ke:=t.fr _ _ t.ke}
def IA.put2(t:IA K Hs A0 A x C dx r s bk E p σ H ρ):∃xs,H s=bw (.dT xs)/\xs.length=p.2.length/\∀B w v,Rep A H w v->IA K Hs A0 A x C dx r s bk E (p.1,putD p.2 B w) σ (upd H s<|.dT<|putK xs B v) ρ:=by
 cases t.o2 with
 |@dT _ _ xs h e rl=>
  refine{xs,h,by have:=congrArg zbq e;simpa using this,λB w v F=>?_};obtain⟨U,M⟩:=x9<|vZ B F<|wD e rl;obtain⟨Y,hx,W⟩:=t.hx;exact {t with
   live:=CO t.live
   hx:={Y,by rw[aG λz=>by rw[z,h]at hx;cases hx];exact hx,W.put t.at' h trivial}
   o1:=t.o1.put t.at' h trivial t.ne
   o2:=.dT aJ U<|M.put t.at' h trivial
   val:=λi d hi=>by obtain⟨v,G,q⟩:=t.val i d hi;exact{v,G,q.put t.at' h trivial}
   fx:=λq N=>Fact.put t.at' h trivial (t.fx q N)
   ke:=t.fs _ _ t.ke}
def IA.done(t:IA K Hs A0 A x C dx r s bk E p σ H ρ)(W:Live A0 Hs)(G:¬ A0 x)(F:¬ A0 r)(B:¬ A0 s):Ext A0 Hs H/\Rep A0 H (.ob C [("book",bk),("routes",.dT p.1),("spans",.dT p.2)]) (.ref x):=by
 obtain⟨U,h,M⟩:=t.hx;have z:∀b,A0 b->A b\/H b=bz:=λb N=>.inl<|t.a0 b N
 exact{t.ke,.ob G h rfl<|.cons (M.av z)<|.cons ((t.o1.av z).rep F)<|.cons ((t.o2.av z).rep B) .nil}
inductive tA1(K:zae)(fk fv:Ev)(T:Ends)(σ:L2.St)(H:Hp):Prop
 | mk (Hs:Hp) (A0 A:Av) (x C dx r s:Addr) (bk:D) (E:List Fact) (p:LT×LT) (ρ:dH) (kd w:D) (kk:List Key) (st:IA K Hs A0 A x C dx r s bk E p σ H ρ) (ek:fk ρ=bw kd) (et:WK kd=bw kk) (ew:fv ρ=bw w) (sz:a9 p.1.length=ca)
  (n:∀H',IA K Hs A0 A x C dx r s bk E (putD p.1 kk w,p.2) σ H' ρ->T.nx σ H'):tA1 K fk fv T σ H
inductive tA2(K:zae)(fk fe:Ev)(F:List D->Option D)(T:Ends)(σ:L2.St)(H:Hp):Prop
 | mk (Hs:Hp) (A0 A:Av) (x C dx r s:Addr) (bk:D) (E:List Fact) (p:LT×LT) (ρ:dH) (kd w d z:D) (kk:List Key) (st:IA K Hs A0 A x C dx r s bk E p σ H ρ) (ek:fk ρ=bw kd) (et:WK kd=bw kk) (ev:fO p.1 kk=bw w) (ed:fe ρ=bw d) (ez:F [d,w]=bw z) (sz:a9 p.2.length=ca)
  (n:∀H',IA K Hs A0 A x C dx r s bk E (p.1,putD p.2 kk z) σ H' ρ->T.nx σ H'):tA2 K fk fe F T σ H
end
section
variable {X:Cx}
def SA(N:X.A.units+1<cLine)(ho:PE X o<|dI 0)(U:PB X [] k fk)(W:PD X [] value fv)(B:zaR o "routes" X.env (eval o X.env)=eval o X.env:=by rfl)
  (hs:zaF value (bw<|.Subscript (.Attribute o "routes" p1) k p2) pos.line X.env=pure cf:=by rfl):PS X (.Assign [.Subscript (.Attribute o "routes" p1) k p2] value pos)<|tA1 X.K fk fv:=
 PS.mono (zM N (lW ho B) U W hs) <| by
  rintro T σ H ⟨Hs,A0,A,x,C,dx,r,s,bk,E,p,ρ,M,w,kk,st,ek,et,Y,sz,n⟩;refine{_,A,A,E,ρ,w,st.st,Y,λv H1 x1 r1=>?_};have z:=st.ext x1;obtain⟨vb,hx,_⟩:=z.hx;refine{_,z.s0,x,C,dx,_,.ref r,rfl,hx,z.cls,z.nr,rfl,_,A,A,E,ρ,M,z.st,ek,λy H2 F r2=>?_};have s2:=z.ext F;obtain⟨xs,h,G,go⟩:=s2.put1;obtain⟨b,rfl,B⟩:=tG et r2;exact{r,_,rfl,DPut.t h B (by rw[G];exact jV sz),n _<|go kk w v<|r1.ext F}
def SM(FF:Fn X.prog X.w X.K X.mg X.base g kn ps F)(hp:ps.length=2)(hr:Room kn X.A)(hg:Gl X g)(hu:X.A.units+1<cLine)(ho:PE X o<|dI 0)(N:PE X o2<|dI 0)(hk:PB X [] k fk)(ab:PB X [] k2 fk)(he:PD X [] e fe)(hn:LC k2)
  (hb:zaR o "spans" X.env (eval o X.env)=eval o X.env:=by rfl) (ad:zaR o2 "routes" X.env (eval o2 X.env)=eval o2 X.env:=by rfl) (U:(g == ("__debug__" : Str))=cf:=by decide)
  (h1:zag [e,.Subscript (.Attribute o2 "routes" p3) k2 p4] X.env=(cf,eval e X.env)::zag [.Subscript (.Attribute o2 "routes" p3) k2 p4] X.env:=by rfl) (h2:(zaJ cp<|zag [.Subscript (.Attribute o2 "routes" p3) k2 p4] X.env).any (·.1)=cf:=by rfl) (h3:zag [.Subscript (.Attribute o2 "routes" p3) k2 p4] X.env=(cf,eval (.Subscript (.Attribute o2 "routes" p3) k2 p4) X.env)::zag [] X.env:=by rfl)
  (hs:zaF (.Call (.Name g gp) [e,.Subscript (.Attribute o2 "routes" p3) k2 p4] [] cp) (bw<|.Subscript (.Attribute o "spans" p1) k p2) pos.line X.env=pure cf:=by rfl) :
  PS X (.Assign [.Subscript (.Attribute o "spans" p1) k p2] (.Call (.Name g gp) [e,.Subscript (.Attribute o2 "routes" p3) k2 p4] [] cp) pos) (tA2 X.K fk fe F):=by
 obtain⟨fa,fd,Y,W,hm,FO⟩:=My.Ok.ex FF;refine PS.mono (zM hu (lW ho hb) hk (zG FO hr hg hm Y W .nil IC (cR he (cR (GD hu (lW N ad) ab hn) fK h3) h1) U h1 h2) hs) λT σ H ⟨Hs,A0,A,x,C,dx,r,s,bk,E,p,ρ,kd,w,d,z,kk,st,ek,et,ev,ed,ez,sz,n⟩=>?_
 refine{_,A,A,E,ρ,d,st.st,ed,λv1 H1 x1 r1=>?_};have G:=st.ext x1;obtain⟨vb,hx,_⟩:=G.hx;refine{_,G.s0,x,C,dx,_,.ref r,rfl,hx,G.cls,G.nr,rfl,_,A,A,E,ρ,kd,G.st,ek,λy H2 x2 r2=>?_};have s2:=G.ext x2;obtain⟨a,ov,e1,_,dg,M⟩:=u9 (d:=.dT p.1) (k:=kd) (o:=bw w) (by simp only[pP,et,zab,ev]) s2.o1.b r2;rcases M with⟨M,_⟩|⟨w',v2,M,e3,r3⟩
 .cases M
 .cases M;subst e3;cases e1
  refine{r,v2,rfl,dg,?_};refine{A,[d,w],z,s2.live,.cons (r1.ext x2)<|.cons r3 .nil,hp.symm,ez,λv3 H3 x3 r4=>?_};have B:=s2.ext x3;obtain⟨be,ae,_⟩:=B.hx;refine{_,B.s0,x,C,dx,_,.ref s,rfl,ae,B.cls,B.ns,rfl,_,A,A,E,ρ,kd,B.st,ek,λy4 H4 x4 r5=>?_};have s4:=B.ext x4;obtain⟨xs,h,hl,go⟩:=s4.put2;obtain⟨b,rfl,hb⟩:=tG et r5;exact{s,_,rfl,DPut.t h hb (by rw[hl];exact jV sz),n _<|go kk z v3<|r4.ext x4}
inductive tAF(K:zae)(f:Lv)(i:Nat)(tb:TS)(T:Ends)(σ:L2.St)(H:Hp):Prop
 | mk (Hs:Hp) (A0 A:Av) (x C dx r s:Addr) (bk:D) (E:List Fact) (p out:LT×LT) (ρ:dH) (items:List D) (step:D->LT×LT->Option (LT×LT)) (R:dH->Prop) (st:IA K Hs A0 A x C dx r s bk E p σ H ρ) (h0:R ρ) (e:f ρ=bw items) (fo:mS step items p=bw out)
  (turn:∀E' σ H ρ d p p' T',R ρ->step d p=bw p'->IA K Hs A0 A x C dx r s bk E' p σ H (ρ.set i<|bw d)->(∀σ H ρ,R ρ->IA K Hs A0 A x C dx r s bk E' p' σ H ρ->T'.nx σ H)->tb T' σ H)
  (n:∀σ H ρ,R ρ->IA K Hs A0 A x C dx r s bk E out σ H ρ->T.nx σ H):tAF K f i tb T σ H
def P2(hp:zcc (model X.prog X.w) X.A X.env X.xe)(hc:X.calm=ca)(hi:PDI X [] tg iter f)(hg:PG X tg<|kI i)(hb:PSs X body tb)(hn:i≠0:=by decide)
  (hs:∀x,zbd iter X.env x=pure x:=by intro _;rfl):PS X (.For tg iter body [] pos)<|tAF X.K f i tb:=
 PS.mono (PL hp hc hi hg hb hs) <| by
  rintro T σ H ⟨Hs,A0,A,x,C,dx,r,s,bk,E,p,out,ρ,items,step,R,st,h0,e,fo,turn,n⟩;refine{_,A,A,E,ρ,items,st.st,e,λJ H1 E1 x1 M J1=>?_};have W:=(st.ext x1).more M;refine{λi m σ H=>m=items.length-i/\i<=items.length/\∃ρ p,R ρ/\IA X.K Hs A0 A x C dx r s bk (E1++E) p σ H ρ/\mS step (items.drop i) p=bw out,{items.length,by simp,zaM _,ρ,p,h0,W,fo},?_};rintro i m σ H ⟨rfl,ax,ρ,p,hR,st,e⟩;obtain⟨G,go⟩:=J1 A H st.live (λq U=>st.fx q<|zbH _ U) i;by_cases B:i<items.length
  .have ed:items[i]?=bw items[i]:=by simp[B]
   obtain⟨ab,hy⟩:=go _ ed;rw[zdT B]at e;obtain⟨p1,es,e⟩:=bind_some e;refine .inr {ab,λF H'=>∃z p2,R z/\IA X.K Hs A0 A x C dx r s bk (E1++E) p2 F H' z/\mS step (items.drop<|i+1) p2=bw out,λF H' ⟨z,p2,r2,s2,e2⟩=>{items.length-(i+1),by lia,rfl,B,z,p2,r2,s2,e2},λy H' N=>?_};obtain⟨x2,r2⟩:=hy y H' N;exact turn _ _ _ ρ _ p p1 _ hR es ((st.ext x2).set r2 hn) λaf H3 Y R3 i3=>{Y,p1,R3,i3,e}
  .have aa:i=items.length:=by lia
   subst aa;rw[zex]at e;cases e;exact .inl {G<|zah _,n _ _ ρ hR<|st.less λq U=>zaY _ U}
end
def nG(F M:List D->Option D)(bk j k:D)(p:LT×LT):Option<|LT×LT:=(F [bk,j,k]).bind λw=>(WK<|.tup [j,k]).bind λB=>if a9 p.1.length=ca/\a9 p.2.length=ca then(fO (putD p.1 B w) B).bind λG=>(M [bk,G]).map λz=>(putD p.1 B w,putD p.2 B z)else bz
def vO(C:Addr)(g:D->Option (List D))(B F:List D->Option D)(bk:D):Option D:=(g bk).bind λz=>(mS (λj p=>(g bk).bind λks=>mS (nG B F bk j) ks p) z ([],[])).map λp=>.ob C [("book",bk),("routes",.dT p.1),("spans",.dT p.2)]
def NG{K:zae}{Hs:Hp}{A0:Av}{x C dx r s:Addr}{bk:D}{G:V}{σ:L2.St}{H:Hp}{ρ:dH}(nr:NoAttr K C "routes")(ns:NoAttr K C "spans")(t:IO K Hs (λb=>A0 b\/b=x) x C dx [("book",bk)] σ H ρ)(n1:Hs x=bz)(nx:¬ A0 x)(hx:H x=bw (.ins C dx [("book",G)]))(rb:Rep (λb=>A0 b\/b=x) H bk G)
  (M:H r=bz) (hs:upd (upd H r<|.dT []) x (.ins C dx [("book",G),("routes",.ref r)]) s=bz):IA K Hs A0 (λb=>A0 b\/b=x\/b=r\/b=s) x C dx r s bk [] ([],[]) σ (upd (upd (upd (upd H r<|.dT []) x<|.ins C dx [("book",G),("routes",.ref r)]) s<|.dT []) x<|.ins C dx [("book",G),("routes",.ref r),("spans",.ref s)]) ρ/\¬ A0 r/\¬ A0 s:=by
 have Y:s≠x:=λz=>by rw[z,aJ]at hs;cases hs
 have B:upd H r (.dT []) s=bz:=by rw[aG Y]at hs;exact hs
 have sr:s≠r:=λz=>by rw[z,aJ]at B;cases B
 have F:H s=bz:=by rw[aG sr]at B;exact B
 have rx:r≠x:=λz=>by rw[z,hx]at M;cases M
 have U:Ext A0 Hs H:=(t.ke.ext n1).mono λb N=>.inl N
 have ar:¬ A0 r:=λz=>t.live r (.inl z) M
 have ab:¬ A0 s:=λz=>t.live s (.inl z) F
 have up:∀a,(A0 a\/a=x\/a=r\/a=s)->(A0 a\/a=x)\/H a=bz:=λa ha=>by
  rcases ha with h|h|h|h
  .exact .inl<|.inl h
  .exact .inl<|.inr h
  .exact .inr<|by rw[h];exact M
  .exact .inr<|by rw[h];exact F
 have key:∀d v,Rep (λb=>A0 b\/b=x) H d v->Rep (λb=>A0 b\/b=x\/b=r\/b=s) (upd (upd (upd (upd H r<|.dT []) x<|.ins C dx [("book",G),("routes",.ref r)]) s<|.dT []) x<|.ins C dx [("book",G),("routes",.ref r),("spans",.ref s)]) d v:=λd v h=>by
  have h1:=(h.av up).ext (Ext.new (o:=.dT []) M);have h2:=h1.putI (a:=x) (o:=.ins C dx [("book",G),("routes",.ref r)]) (.inr<|.inl rfl) (by rw[aG rx.symm];exact hx);have h3:=h2.ext<|Ext.new (o:=.dT []) hs;exact h3.putI (a:=x) (.inr<|.inl rfl)<|by rw[aG Y.symm];exact aJ
 refine{{t.cls,nr,ns,λb N=>N,λb N=>.inl N,.inr<|.inl rfl,.inr<|.inr<|.inl rfl,.inr<|.inr<|.inr rfl,sr.symm,lQ U M,lQ U F,λb N z=>?_,{G,aJ,key _ _ rb},.dT (xs:=[]) ?_ rfl .nil,.dT (xs:=[]) ?_ rfl .nil,t.s0,t.len,λi d h=>?_,(λ_ z=>nomatch z),?_},ar,ab}
 .by_cases W:b=x
  .rw[W,aJ]at z;cases z
  .rw[aG W]at z
   by_cases q2:b=s
   .rw[q2,aJ]at z;cases z
   .rw[aG q2,aG W]at z
    by_cases q3:b=r
    .rw[q3,aJ]at z;cases z
    .rw[aG q3]at z
     rcases N with h|h|h|h
     .exact t.live b (.inl h) z
     .exact W h
     .exact q3 h
     .exact q2 h
 .rw[aG rx,aG sr.symm,aG rx,aJ]
 .rw[aG Y,aJ]
 .obtain⟨v,e,q⟩:=t.val i d h
  exact{v,e,key _ _ q}
 .have fx:=lQ (Ext.refl A0 Hs) n1
  exact fx _ _<|lQ U F _ _<|fx _ _<|lQ U M _ _ U
section
variable {X:Cx}
set_option tactic.hygienic true in
def DW{C:Addr}{kn:Nat}{gp:List Str}{g2:Str}{o0 o1 o2 o3 o4 F e0 e5 k3 k4 N value aa U Y ad:Expr}{g:D->Option (List D)}{f1 f2:Lv}{fk fv fe:Ev}{F1 F2:List D->Option D}{a0 a1 a2 a3 a4 a5 b3 b4 b5 p0 p1 p2 p3 p4 p5 p6 d1 d2 c5 q5:Pos}(cls:Cls X.K C)(na:∀a∈(["book", "routes", "spans"]:List Str),NoAttr X.K C a)(FF:Fn X.prog X.w X.K X.mg X.base g2 kn gp F2)(ax:gp.length=2)(hr:Room kn X.A)(bb:Gl X g2)(hu:X.A.units+1<cLine)
  (hp:zcc (model X.prog X.w) X.A X.env X.xe) (hc:X.calm=ca)
  (h0:PE X o0<|dI 0) (h1:PE X o1<|dI 0) (h2:PE X o2<|dI 0) (h3:PE X o3<|dI 0) (h4:PE X o4<|dI 0) (h5:PE X F<|dI 0) (bg:PD X [] e0<|aD 1) (bj:PDI X [] Y aa f1) (ba:PDI X [] ad U f2) (bt:PG X Y<|kI 2) (bd:PG X ad<|kI 3) (bf:PB X [] k3 fk) (bu:PB X [] k4 fk) (bm:PB X [] N fk) (hv:PD X [] value fv) (a8:PD X [] e5 fe) (hn:LC N)
  (a6:∀ {ρ:dH} {bk:D},ρ[1]?=bw (bw bk)->f1 ρ=g bk) (b0:∀ {ρ:dH} {bk:D},ρ[1]?=bw (bw bk)->f2 ρ=g bk) (aj:∀ {ρ:dH} {j k:D},ρ[2]?=bw (bw j)->ρ[3]?=bw (bw k)->fk ρ=bw (.tup [j,k])) (bn:∀ {ρ:dH} {bk j k:D},ρ[1]?=bw (bw bk)->ρ[2]?=bw (bw j)->ρ[3]?=bw (bw k)->fv ρ=F1 [bk,j,k]) (bc:∀ {ρ:dH} {bk:D},ρ[1]?=bw (bw bk)->fe ρ=bw bk)
  (bx:zaR o3 "routes" X.env (eval o3 X.env)=eval o3 X.env:=by rfl) (ap:zaR o4 "spans" X.env (eval o4 X.env)=eval o4 X.env:=by rfl) (bq:zaR F "routes" X.env (eval F X.env)=eval F X.env:=by rfl) (aq:(g2 == ("__debug__" : Str))=cf:=by decide)
  (z1:zag [e5,.Subscript (.Attribute F "routes" a5) N b5] X.env=(cf,eval e5 X.env)::zag [.Subscript (.Attribute F "routes" a5) N b5] X.env:=by rfl) (z2:(zaJ c5<|zag [.Subscript (.Attribute F "routes" a5) N b5] X.env).any (·.1)=cf:=by rfl) (z3:zag [.Subscript (.Attribute F "routes" a5) N b5] X.env=(cf,eval (.Subscript (.Attribute F "routes" a5) N b5) X.env)::zag [] X.env:=by rfl)
  (s0:zaF e0 (bw<|.Attribute o0 "book" a0) p0.line X.env=pure cf:=by rfl) (s1:zaF (.Dict [] [] d1) (bw<|.Attribute o1 "routes" a1) p1.line X.env=pure cf:=by rfl) (s2:zaF (.Dict [] [] d2) (bw<|.Attribute o2 "spans" a2) p2.line X.env=pure cf:=by rfl)
  (s3:zaF value (bw<|.Subscript (.Attribute o3 "routes" a3) k3 b3) p3.line X.env=pure cf:=by rfl) (s4:zaF (.Call (.Name g2 q5) [e5,.Subscript (.Attribute F "routes" a5) N b5] [] c5) (bw<|.Subscript (.Attribute o4 "spans" a4) k4 b4) p4.line X.env=pure cf:=by rfl)
  (y1:∀x,zbd aa X.env x=pure x:=by intro _;rfl) (y2:∀x,zbd U X.env x=pure x:=by intro _;rfl)
  {vs:List V} {H:Hp} {Q:VK} {E:XK} (hsp:qc C (λ_=>vO C g F1 F2) vs H Q E) {R:VK} :
  ∃t,PSs X [.Assign [.Attribute o0 "book" a0] e0 p0,.Assign [.Attribute o1 "routes" a1] (.Dict [] [] d1) p1,.Assign [.Attribute o2 "spans" a2] (.Dict [] [] d2) p2,
   .For Y aa [.For ad U [.Assign [.Subscript (.Attribute o3 "routes" a3) k3 b3] value p3,.Assign [.Subscript (.Attribute o4 "spans" a4) k4 b4] (.Call (.Name g2 q5) [e5,.Subscript (.Attribute F "routes" a5) N b5] [] c5) p4] [] p5] [] p6] t /\
   t {nx:=λ_ H'=>Q .non H',rt:=R} (vs.map bw++[bz,bz]) H:=by
 obtain⟨A,H1,x,dx,v,_,bk,d,rfl,rfl,n1,n2,ne,lv,rp,ed,q⟩:=hsp;obtain⟨js,ej,ed⟩:=bind_some ed;obtain⟨out,eo,ed⟩:=map_some ed;subst ed;refine{_,eB (FA h0 bg s0)<|eB (vY h1 BS s1)<|eB (vY h2 BS s2)<|jW<|P2 hp hc bj bt (jW<|P2 hp hc ba bd (eB (SA hu h3 bf hv bx s3)<|jW<|SM FF ax hr bb hu h4 h5 bu bm a8 hn ap bq aq z1 z2 z3 s4) (by decide) y2) (by decide) y1,?_};have nx:¬ A x:=λz=>lv x z n1
 have I0:=IO.begun cls n1 n2 ne lv rp [bz,bz] (λo ho=>by simpa using ho);refine{H1,_,x,C,dx,[],_,bk,I0,rfl,na _<|by simp,by simp,by simp,λH2 I2=>λr ae=>?_};obtain⟨fs,hx,em,rr⟩:=I2.hx;obtain⟨W,rfl,rb⟩:∃W,fs=[(("book" : Str),W)]/\Rep (λb=>A b\/b=x) H2 bk W:=by
  match fs,em,rr with
  |[(f,W)],em,rr=>
   have:f = "book" := by simpa using em
   subst this;cases rr with
   |cons h _=>exact{W,rfl,h}
  |[],em,_=>exact nomatch em
  |_::_::_,em,_=>simp at em
 have rx:r≠x:=λz=>by rw[z,hx]at ae;cases ae
 refine{_,I2.s0,x,C,dx,_,rfl,by rw[aG rx.symm];exact hx,cls,na _<|by simp,by simp,λs bp=>?_};have G:upd (upd H2 r<|.dT []) x (.ins C dx [("book",W),("routes",.ref r)]) s=bz:=bp;have sx:s≠x:=λz=>by rw[z,aJ]at G;cases G
 refine{_,I2.s0,x,C,dx,[("book",W),("routes",.ref r)],rfl,by rw[aG sx.symm];exact aJ,cls,na _<|by simp,by simp,?_};obtain⟨J,ar,bv⟩:=NG (na _<|by simp) (na _<|by simp) I2 n1 nx hx rb ae G;refine{H1,A,_,x,C,dx,r,s,bk,[],([],[]),out,_,js,_,λρ=>ρ.length=4/\ρ[1]?=bw (bw bk),J,{rfl,rfl},by rw[a6 (bk:=bk) rfl];exact ej,eo,λE' σ H ρ j p p' T' M B I n=>?_,λσ H ρ M I=>?_}
 .obtain⟨ks,ek,hf⟩:=bind_some B
  have b1:(ρ.set 2<|bw j)[1]?=bw (bw bk):=by rw[zbI<|by decide];exact M.2
  refine{H1,A,_,x,C,dx,r,s,bk,E',p,p',_,ks,nG F1 F2 bk j,λρ=>ρ.length=4/\ρ[1]?=bw (bw bk)/\ρ[2]?=bw (bw j),I,{by rw[zc8];exact M.1,b1,by rw[zcH<|by lia]},by rw[b0 b1];exact ek,hf,λE2 σ H ρ k p p' T' M B I n=>?_,λσ H ρ M I=>n σ H ρ {M.1,M.2.1} I};have c1:(ρ.set 3<|bw k)[1]?=bw (bw bk):=by rw[zbI<|by decide];exact M.2.1
  have c2:(ρ.set 3<|bw k)[2]?=bw (bw j):=by rw[zbI<|by decide];exact M.2.2
  have c3:(ρ.set 3<|bw k)[3]?=bw (bw k):=by rw[zcH<|by lia]
  obtain⟨w,ew,B⟩:=bind_some B;obtain⟨kk,am,B⟩:=bind_some B;split at B
  .rename_i sz
   obtain⟨w',az,B⟩:=bind_some B;obtain⟨z,ez,rfl⟩:=map_some B;refine{H1,A,_,x,C,dx,r,s,bk,E2,p,_,_,w,kk,I,aj c2 c3,am,by rw[bn c1 c2 c3];exact ew,sz.1,λH' I'=>?_};exact{H1,A,_,x,C,dx,r,s,bk,E2,_,_,_,w',bk,z,kk,I',aj c2 c3,am,az,bc c1,ez,sz.2,λH' I'=>n _ _ _ {by rw[zc8];exact M.1,c1,c2} I'}
  .cases B
 .obtain⟨x5,r5⟩:=I.done lv nx ar bv
  exact q _ x5 r5
end
def Fas(K:zae)(C:Addr)(fs:List Str):Prop:=∀a∈fs,NoAttr K C a
def Fas.nil{K:zae}{C:Addr}:Fas K C []:=λ_ h=>nomatch h
def Fas.cons{K:zae}{C:Addr}{x:Str}{fs:List Str}(a:zby K (.ref C) x=bw bz)(r:Fas K C fs):Fas K C<|x::fs:=zdj.2 ⟨a,r⟩
structure ObQ(K:zae)(x q:Str)(st:Stmt)(C:Addr)(fs:List Str):Prop where
 cls:Cls K C
 na:Fas K C fs
 ex:∃f fd,zbU K zaH x=bw (bw<|.ref C)/\Mk K C f/\Fun K "__init__" q st f fd
def obq{K:zae}{x q:Str}{st:Stmt}{C f:Addr}{fs:List Str}{N:Value}{od G:Option Addr}{F:Array (Option Value)}{kV B M z ct:Value}(a:zbU K zaH x=bw (bw<|.ref C))(m1:zec K C=ca)(m2:zby K (.ref C) "__init__" = bw (bw<|.ref f))(m3:PySem.W.isFn K (.ref f)=ca)(m4:zbM K (.ref C)=ca)(m5:zdu K C Str.empty=ca)(m6:zdv K C=ca)(m7:zea K C=ca)(m8:zby K (.ref C) "__setattr__" = bw (bw<|.builtin "object.__setattr__"))
  (l:K.lookup f=bw {N,od,.func<|zbe "__init__" q (eG st) (bM st) (aK st) .none kV B M G z ct,F}) (c:zcv K z q=ca) (k:zbM K (.ref f)=ca) (n:Fas K C fs):ObQ K x q st C fs:={{m5,m6,m7,m8},n,f,_,a,{m1,m2,m3,m4},FN l c k}
def ObQ.t{K:zae}{h:Heap}{mg:Str->Option Value}{x q p:Str}{st:Stmt}{C:Addr}{fs:List Str}(Q:ObQ K x q st C fs)(X:K.In h)(G:h.Ns zaH mg)(b:∀(kV B N:Value) (M:Option Addr) (z ct:Value) (u v:Value),zcd (zbe "__init__" q (eG st) (bM st) (aK st) .none kV B N M z ct) {[u,v],[]}=pure ((["self",p]:List Str).zip [u,v])):ObT K mg x q p st C fs:=by
 obtain⟨f,fd,a,m,F⟩:=Q.ex;exact{Q.cls,Q.na,f,fd,zdk X G a,m,F.binds (ps:=["self",p]) λkV B N M z ct W U=>match W,U with|[u,v],_=>b kV B N M z ct u v,F}
def QB(h:qc C G vs H Q E):start N vs=vs.map bw++zcu (N.length-2) bz:=by
 obtain⟨_,_,_,_,_,_,_,_,rfl,_⟩:=h;rfl
def RT(h:qc C G vs H Q E)(n:N.length=2):start N vs=vs.map bw:=by
 rw[QB h,n];exact zbL _
def rZ(h:ρ[i]?=bw (bw d)):aD i ρ=bw d:=by unfold aD;rw[h];rfl
def hu2(z:Room k A):A.units+2<cLine:=zdH (Nat.add_le_add_left (by decide:2<=64) _) z.units
end P
namespace My
noncomputable def qbs(K:zae)(a:Addr)(n:Nat):It:=
 {λi H=>∃xs x,SqL K H a xs/\i<n/\xs[n-1-i]?=bw x,λi H x H'=>H'=H/\∀xs,SqL K H a xs->xs[n-1-i]?=bw x,λi H=>n<=i}
def NB{P:zai}{w:World}{K:zae}{tg:Expr}(a it:Addr)(n:Nat):Turn P w K tg (qbs K a n) [it] it (λi h=>i<=n/\h.IsRevIter it a ((n:Int)-1-(i:Int))) where
 mem:=by simp
 obj:=λi h st b B=>by
  have e:b=it:=by simpa using B
  subst e;obtain⟨_,o,e,c,d⟩:=st;exact{o,e,λv z=>by rw[d]at z;cases z}
 keep:=λi h h' st k=>{st.1,st.2.at λo e=>k it (by simp) o e}
 item:=by
  intro X hP hw hK hc i pins s σ H E I M st hg;subst hP hw hK;obtain⟨xs,x,hq,hi,hx⟩:=hg;obtain⟨al,rv,p,hz⟩:=I.list hq;obtain⟨u,hu,ru⟩:=rv.get hx;obtain⟨N,f1,f2,U,Y,f5⟩:=M it (by simp);have W:s.heap.IsRevIter it a ((n-1-i:Nat):Int):=by
   have e:((n-1-i:Nat):Int)=(n:Int)-1-(i:Int):=by lia
   rw[e];exact st.2
  refine wpAny_pyNext_rev_item W p.isList (x:=u) (by simpa using hu) λh' G sb=>?_
  have I1:Inv X pins σ H {s with heap:=h'}:=I.turned (t':=s.toks) (λb o B e=>(sb.2 b B).trans e) N f1 U Y f5;obtain⟨o,e,c,d⟩:=id G;refine{u,rfl,v9 (s:={s with heap:=h'}) e c d (by decide) {x,H,I1,ru,{rfl,λys hy=>by rw[I.list_inj hy hq];exact hx},{hi,?_},λb B=>(M b B).1}};have e:(n:Int)-1-((i+1:Nat):Int)=((n-1-i:Nat):Int)-1:=by lia
  rw[e];exact G
 done:=by
  intro X hP hw hK hc i pins s σ H E I M st hg;subst hP hw hK;obtain⟨N,f1,f2,U,Y,f5⟩:=M it (by simp);have hn:n<=i:=hg;have e:(n:Int)-1-(i:Int)=-1:=by have:=st.1;lia
  have F:=st.2;rw[e]at F;exact wpAny_pyNext_rev_end (I.ok.hd hc) F λh' eb=>{rfl,I.turned (t':=s.toks) (λb o B e=>eb b o B e) N f1 U Y f5}
 self:=λ_ _ _ _ _ st h=>wpAny_pyIter_revIter st.2 h
def boot_reversed:zaI "reversed" = bw (.type "reversed"):=by first|rfl|decide +kernel
def qb0(K:zae)(ta:TA):TI:=λσ H R=>ta σ H λvs H1=>∃l xs,vs=[.ref l]/\SqL K H1 l xs/\R (qbs K l xs.length) H1
def YJ{X:Cx}{tg:Expr}{a:Expr}{ta:TA}{p pos:Pos}(Y:Gl X "reversed")(hm:X.mg "reversed" = bz)(U:PA X [a] ta)(hs:zag [a] X.env=[(cf,eval a X.env)]:=by rfl) :
  PI X tg (.Call (.Name "reversed" p) [a] [] pos) (qb0 X.K ta):=by
 intro pins s σ H R I h;refine Call_<|l7 I Y hm boot_reversed<|zc4 (c8 (U pos pins s σ H _ I h) λus G ⟨vs,H1,F,r1,M⟩=>?_) (by rw[hs];rfl) rfl;obtain⟨l,xs,rfl,M,q⟩:=M;obtain⟨u,rfl,W⟩:=vals1 r1;cases W;obtain⟨z,rv,N,hz⟩:=F.list M;have hl:=rv.length;refine call_reversed_list N.isList ?_;have B:(G.heap.push<|revObj l<|(z.toArray.size:Int)-1).IsRevIter G.heap.objs.size l<|(xs.length:Int)-1-((0:Nat):Int):=by
  refine{_,zaC _ rfl,rfl,?_};have e:(z.toArray.size:Int)-1=(xs.length:Int)-1-((0:Nat):Int):=by simp;lia
  rw[<- e];rfl
 refine wpAny_pyIter_revIter B ?_;refine{_,[_],_,_,H1,rfl,F.kept (t':=G.toks) λb o e=>zam _ e,NB l _ xs.length,{zaM _,B},λb hb=>?_,q};have e:b=G.heap.objs.size:=by simpa using hb
 subst e;exact F.fpOk (zah _)<|F.hok.fresh<|zah _
end My
namespace P
noncomputable def qbf(f:Lv):Lv:=λρ=>(f ρ).bind λds=>match ds with
 |[.lst l]=>bw l.reverse
 |_=>bz
set_option tactic.hygienic true in
def T7(Y:Gl X "reversed")(hm:X.mg "reversed" = bz)(N:DJ X O [a] f)(hs:zag [a] X.env=[(cf,eval a X.env)]:=by rfl) :
  PDI X O tg (.Call (.Name "reversed" p) [a] [] pos) (qbf f):=PI.mono (My.YJ Y hm N hs) λσ H R ⟨H0,A0,A,E,ρ,items,st,e,q⟩=>by
 obtain⟨ds,B,e⟩:=bind_some e;refine{H0,A0,A,E,ρ,ds,st,B,λvs H1 x1 r1=>?_};split at e
 case h_2=>cases e
 rename_i l;cases e;obtain⟨v,rfl,r2⟩:=r1.one;obtain⟨a,xs,rfl,h1,rl⟩:=RepB.lst_inv<|.of r2;have G:=rl.length;refine{a,xs,rfl,.inl h1,q _ H1 [.rep (.lst l)<|.ref a] x1 (λp W=>by rw[List.mem_singleton.mp W];exact r2) ?_};intro A' H' lv hE i;have a1:Rep A' H' (.lst l)<|.ref a:=hE _<|List.mem_singleton.mpr rfl;obtain⟨a',ys,e,h2,z⟩:=RepB.lst_inv<|.of a1;cases e;have M:=z.length;refine{λhi=>(show xs.length<=i by rw[List.length_reverse]at hi;lia),λd hd=>?_};have hi:i<l.length:=by have:=(List.getElem?_eq_some_iff.mp hd).1;simpa using this
 have F:l[xs.length-1-i]?=bw d:=by rw[List.getElem?_reverse hi]at hd;rw[G];exact hd
 obtain⟨v,B,r1⟩:=z.get' F;refine{{ys,v,.inl h2,by lia,B},λx U y=>?_};obtain⟨rfl,y⟩:=y;have:=y ys<|.inl h2;rw[B]at this;cases this;exact{Ext.refl _ _,r1}
def II(i j:Int):Prop:=0<j/\j<10^500
instance:∀i j,Decidable<|II i j:=λi j=>by unfold II;infer_instance
def MX{j:Int}(z:0<j)(h:j<10^500):j.natAbs.log2<9000:=by
 have a:j.natAbs≠0:=by lia
 refine(Nat.log2_lt a).mpr ?_;have b:(10:Nat)^500<2^9000:=by decide +kernel
 have c:(j.natAbs:Int)<((10^500:Nat):Int):=by
  rw[Int.natAbs_of_nonneg<|Int.le_of_lt z,show((10^500:Nat):Int)=(10:Int)^500 from by decide +kernel];exact h
 exact Nat.lt_trans (Int.ofNat_lt.mp c) b
section
variable {X:Cx}
def OA:OpR X (zaP .FloorDiv)<|rI II λi j=>.int<|i/j:=opI λi j _ _ _ _ _ z q=>floordiv_int (zaU z.1) (by rw[Int.fdiv_eq_ediv_of_nonneg i<|Int.le_of_lt z.1];exact q)<|.inl<|PyProof.noPylong_of_log2<|MX z.1 z.2
def QL:D->D->Option D:=LI λi j=>if II i j then bw (.int<|i/j)else bz
def HU:mT X (zaP .FloorDiv) QL:=vU OA
def OO(h:0<j)(h2:j<10^500):QL (.int i) (.int j)=bw (.int<|i/j):=ci {h,h2}
end
end P
namespace My
section
variable {X:Cx}
def DR(hc:X.calm=ca)(I:Inv X pins σ H s)(hq:SqL X.K H p<|ns.map V.int)(hn:ns≠[])(q:Q (.int<|AH ns) H) :
  wpAny (model X.prog X.w) X.A (call (.builtin "min") [.ref p]) (EP X pins σ Q) X.xe s:=by
 obtain⟨B,N,pl,hz⟩:=I.list hq;have G:s.heap.IsList p B.toArray:=pl.isList;obtain⟨o,ho,ad,n,hd⟩:=id G;have lt:=zao ho;have W:=(zcQ (prog:=X.prog) (w:=X.w) (A:=X.A.in1) (I.ok.hd hc) s.heap.objs.size p (zaE lt) B.toArray).toS;have F:=N.length;rw[zak]at F;have sz:B.toArray.size=ns.length:=by rw[zay];exact F.symm
 have U:∀(i:Nat) (v:Value),B.toArray[i]?=bw v->∃t,v=zcF ((ns[i]?).getD 0) t:=λi v M=>BG N<|by simpa using M
 refine call_min_walkS<|zbZ G {s.heap.objs.size,_,_,_,_,_,_,_,rfl,W,{{_,zaC _ rfl,rfl,rfl},G.at λo e=>zam _ e},λb hb=>?_,by rw[sz];exact List.length_pos_iff.mpr hn,CmpOf.ints_lt (λi=>(ns[i]?).getD 0) U,λv s' M Y=>?_}
 .rw[size_push']
  rcases List.mem_cons.mp hb with z|z
  .rw[z];exact zcI _
  .rw[List.mem_singleton.mp z];exact Nat.lt_succ_of_lt lt
 .obtain⟨t,rfl⟩:=U _ v M
  rw[Moved.eq_with Y];refine{.int<|AH ns,H,I.kept (t':=s'.toks) λb o e=>Y.heap b o (λz=>zaE (zao e)<|List.mem_singleton.mp z)<|zam _ e,{t,?_},q};rw[sz];rfl
end
end My
namespace P
section
variable {X:Cx}
def FB:List D->Option D
 |[.lst l]=>(kD l).bind λns=>if ns=[]then bz else bw<|.int<|My.AH ns
 |_=>bz
set_option tactic.hygienic true in
def NV(z:X.calm=ca):l9 X (.builtin "min") FB:=by
 intro pins s σ H xs N Q I r h;obtain⟨A,ds,d,M,G,e,q⟩:=h;unfold FB at e;split at e
 .rename_i l
  obtain⟨ns,F,e⟩:=bind_some e;split at e
  .cases e
  .rename_i hn
   cases e;obtain⟨v,rfl,h1⟩:=G.one;obtain⟨a,ys,rfl,h2,r3⟩:=h1.lst_inv;rw[gU F r3]at h2;obtain⟨u,rfl,B⟩:=vals1 r;cases B;exact My.DR z I (.inl h2) hn<|q _ H (Ext.refl _ _)<|.int _
 .cases e
def SV(h:ns≠[]):FB [.lst<|ns.map .int]=bw (.int<|My.AH ns):=by
 show(kD<|ns.map .int).bind _=_;rw[kY,aA,cj h]
end
section
variable {ρ ρ':dH}{f g:Ev}{a b:Bv}{l:Lv}{x y d r:D}{xs ys zs:List D}{i j:Int}{k:Nat}{s t:Sv}{o:Option Out}
def qw{C:Addr}{n:Str}(h:f ρ=bw x)(k:tJ C n x=bw r):dF C n f ρ=bw r:=by unfold dF;rw[h,aA,k]
def qaa(h:f ρ=bw x)(k:iH x=bw xs):gH f ρ=bw xs:=by
 unfold gH;rw[h,aA];cases x <;> first|exact k|cases k
def XJ(h:l ρ=bw [x,y])(k:iH x=bw xs)(k2:iH y=bw ys)(e:i6 xs ys=zs):U9 l ρ=bw zs:=by
 unfold U9;rw[h,aA];show(iH x).bind _=_;rw[k,aA,k2,aB,e]
def qp{c:Bool}{z:Option D}(h:a ρ=bw c)(k:Z3 c (f ρ) (g ρ)=z):eIf a f g ρ=z:=by unfold eIf;rw[h,aA];exact k
def P8(z:g ρ=bw d)(hx:aD k ρ=bw x)(B:f ρ=bw y)(h:nQ x y d=bw r):FZ k f g ρ=bw (.nx<|ρ.set k<|bw r):=by unfold FZ;rw[z,aA,hx,aA,B,aA,h,aB]
def X7{c:Bool}{z:Option D}(h:f ρ=bw (.bl c))(k:Z3 c (g ρ) (bw<|.bl cf)=z):QU f g ρ=z:=by unfold QU;rw[h,aA];exact k
def qaE{i j:Nat}:kJ 2 (c7 (aQ i)<|c7 (aQ j) pN) (.tup [x,y]) ρ=bw ((ρ.set i<|bw x).set j<|bw y):=rfl
def qag{i j k:Nat}{z:D}:kJ 3 (c7 (aQ i)<|c7 (aQ j)<|c7 (aQ k) pN) (.tup [x,y,z]) ρ=bw (((ρ.set i<|bw x).set j<|bw y).set k<|bw z):=rfl
def qcc:aQ k x ρ=bw (ρ.set k<|bw x):=rfl
end
end P
namespace My
structure LamOk(X:Cx)(params:Arguments)(scope:Scope)(pos:Pos)(cl:List<|Str×Addr):Prop where
 cd:∃c,X.env.code=.ref c/\zeD X.K c kO=ca
 pos:pos=tbP
 qual:X.env.qual ++ "<lambda>" = LN
 clo:zc9 scope X.env=pure cl
 dfl:defaultsOf params X.env=([],[])
def qcd(H H':Hp)(c:Addr):Prop:=H'=H\/∃z,H c=bz/\H'=upd H c (.frz z<|.own kO)
def LamC(H:Hp)(c:Addr):Prop:=∃z,H c=bw (.frz z<|.own kO)/\QG z
def LamC.un(x:LamC H c)(u:Un fs ex H H' h h'):LamC H' c:=let ⟨oc,e,z⟩:=x;{oc,u.frzs _ _ _ e,z}
def LamC.rec(x:LamC H c)(ok:HOk P w H h):h.CodeRec (.ref c) LN:=by
 obtain⟨B,e,vs,t,z,F⟩:=x;obtain⟨g,_⟩:=ok _ _ e;exact{c,B,vs,t,rfl,g,z,F}
def MP
  (I:Inv X pins σ H s) (L:LamOk X params scope pos cl)
  (h:∀(q c:Addr) (pm M:Value) (H':Hp) (h':Heap) (tk:Tok), Inv X pins σ H' {s with heap:=h', toks:=tk} -> Un X.fs [] H H' s.heap h' ->
   h'.get? q=bw (zeE "<lambda>" LN params body scope cl pm c M)->H' q=bz->q∉X.fs->X.env.locals<q->s.heap.objs.size<=q->LamC H' c->qcd H H' c->Q (.ref q) {s with heap:=h',toks:=tk}) :
  wpAny (model X.prog X.w) X.A (eval (.Lambda params body scope pos) X.env) Q E s:=by
 obtain⟨c0,N,hC⟩:=L.cd;have C:PySem.W.CodeHd s.heap c0 kO:=PySem.W.codeHd_of_K I.kIn hC;have G:s.heap.Ns zaH X.mg:=I.mod.glob.keeps I.bk;obtain⟨ps,hH⟩:=I.env0.tb;obtain⟨rl,e,t,r⟩:=I.hok _ _ hH;have ao:zaH≠kO:=λz=>by
  obtain⟨o,es,ep,e',hd,_⟩:=G;rw[z,e]at e';cases e';cases hd
 have B:s.heap.BuiltinsAt X.mg kO:=by
  obtain⟨bm,ob,b1,b2,b3,b4⟩:=I.mod.bm;have b3:=I.bk _ _ b3;refine{bm,ob,b1,b2,λz=>?_,λz=>?_,b3,b4}
  .obtain⟨o,es,ep,e',hd,_⟩:=G
   rw[z,e']at b3;cases b3;rw[hd]at b4;cases b4.2.2
  .rw[z,e]at b3;cases b3;cases b4.2.2
 refine PySem.W.kla_eval L.dfl ?_;rw[L.qual];rcases r with hn|⟨c,U,e1,e2,cr⟩
 .refine PySem.W.kla_makeFunction L.clo I.ok.glob G N C e t (by rw[L.pos];exact hn) ao B λY M h' tk hx aa af ah ai=>?_
  generalize hF:zeE "<lambda>" LN params body scope cl ((X.mg "__name__").getD .none) Y M=F;obtain⟨_,U,vs,tq,z,g1,g2,g3⟩:=ah;cases z;have co:QG U:={vs,tq,g2,g3};have kp:∀b o,b≠kO->s.heap.get? b=bw o->(h'.push F).get? b=bw o:=λb o n q=>zam _<|hx b o n q
  have ag:H Y=bz:=I.hok.fresh aa;have cP:Y≠kO:=zbb<|zaQ (zao e) aa;have nP:∀b,H b=bz->b≠kO:=λb n z=>by rw[z,hH]at n;cases n
  have nC:∀b o,s.heap.get? b=bw o->b≠Y:=λb o q=>zaE<|zaQ (zao q) aa
  have up:∀b u,H b=bw u->upd H Y (.frz U<|.own kO) b=bw u:=λb u q=>by rw[aG<|aY q ag];exact q
  have un:Un X.fs [] H (upd H Y<|.frz U<|.own kO) s.heap<|h'.push F:=by
   refine⟨λb o q n _ _=>kp b o (nP b n) q,λb o q n _ _=>{o.slots,kp b o (nP b n) q},λb o q n _=>by rw[aG<|nC b o q];exact n,λb o q _=>?_,
    λb xs q=>up b _ q,λb o u q=>up b _ q,λb ps q=>{#[],by rw[up b _ q];simp}⟩
   by_cases hb:b=kO
   .exact{_,by rw[hb];exact zam _ ai}
   .exact{o,kp b o hb q}
  have an:HOk X.prog X.w (upd H Y<|.frz U<|.own kO)<|h'.push F:=by
   intro b u q;by_cases hc:b=Y
   .subst hc
    rw[aJ]at q;cases q;exact{zam _ g1,U,zam _ g1}
   .rw[aG hc]at q
    by_cases hb:b=kO
    .subst hb
     rw[hH]at q;cases q;refine{_,zam _ ai,?_,.inr {Y,U,?_,aJ,co}}
     .rw[zdY];exact TriplesOk_snoc _ _ _ _ t
     .rw[zdY,<- L.pos];exact codeAmong_snoc _ t<|by rw[L.pos];exact hn
    .refine(I.hok b u q).stay (λc v ad r=>kp c v ?_ r) (λc r=>up c _ r) (λc xs r=>up c _ r) λc o u r=>up c _ r
     rcases ad with rfl|ad
     .exact hb
     .exact rW ad hH λz=>by cases z
  have sz:s.heap.objs.size<=h'.objs.size:=zaL aa<|zdp af;refine h _ Y ((X.mg "__name__").getD .none) M _ _ tk (I.un un an) un (by rw[hF];exact zaC _<|by rw[<- hF];rfl) ?_ (I.nofs sz) (zaQ I.lt sz) sz {U,aJ,co}<|.inr {U,ag,rfl};rw[aG<|zbb af];exact I.hok.fresh sz
 .refine PySem.W.kla_makeFunctionHit L.clo I.ok.glob G N C e t (by rw[L.pos];exact e1) B λM h' tk hk hsz=>?_
  have kp:∀b o,s.heap.get? b=bw o->(h'.push {cls:=.type "function",data:=.func (zdZ "<lambda>" LN params body scope cl ((X.mg "__name__").getD .none) (.ref c) M)}).get? b=bw o:=λb o q=>zam _<|hk b o q
  exact h _ c ((X.mg "__name__").getD .none) M H _ tk (I.un (Un.kept kp)<|I.hok.kept kp) (Un.kept kp) (zaC _ rfl) (I.hok.fresh hsz) (I.nofs hsz) (zaQ I.lt hsz) hsz {U,e2,cr}<|.inl rfl
abbrev qI(scope:Scope)(cl:List<|Str×Addr)(q c L:Addr):Env:=PySem.W.envX LN scope L q (.ref c) cl
def DC(P:zai)(w:World)(K:zae)(mg:Str->Option Value)(base:Heap)(N:List Str)(scope:Scope)(z:List<|Str×Addr)(q c:Addr)(A:zan)(outer:List Env)(s:zac)(H:Hp):Cx where
 prog:=P
 w:=w
 K:=K
 mg:=mg
 base:=base
 A:=A.deeper<|qI scope z q c s.heap.objs.size
 N:=N
 s₀:=s
 H₀:=H
 env:=qI scope z q c s.heap.objs.size
 outer:=outer
 stack:=qI scope z q c s.heap.objs.size::outer
 ex:=[]
 calm:=ca
 fn:=λ_=>cf
 pn:=[]
 xe:=λ_ _=>False
structure LamS(scope:Scope)(x:Str)(cl:List<|Str×Addr):Prop where
 kind:scope.kind=.function
 co:scope.isCoroutine=cf
 gen:scope.isGenerator=cf
 nocell:∀y∈scope.names,y.2≠.cell
 par:scope.names.lookup x=bw .local
 inj:∀y z c,cl.lookup y=bw c->cl.lookup z=bw c->y=z
 has:∀y,scope.names.lookup y=bw .free->∃c,cl.lookup y=bw c
def WB(z:List<|Str×Addr)(H:Hp)(h:Heap):Prop:=∀y c,z.lookup y=bw c->(∃v,h.IsCell c v)/\H c=bz
def qa4(N:List Str)(scope:Scope)(x:Str)(u:Value)(B:List<|Str×Addr)(h:Heap)(σ:L2.St):Prop:=
 σ.length=N.length/\∀(i:Nat) (y:Str) (v:V),N[i]?=bw y->σ[i]?=bw (bw v)->(y=x/\RelV v u)\/(scope.names.lookup y=bw .free/\∃z c,RelV v z/\B.lookup y=bw c/\h.IsCell c (bw z))
def Q7{K:zae}{u:Value}{σ:L2.St}{h1:Heap}{tk:Tok}
  (B:Env0 P w K mg base A outer s H) (hd:A.handled=bz) (S:LamS scope x cl) (C:WB cl H s.heap) (V:qa4 N scope x u cl s.heap σ)
  (M:∀b o,s.heap.get? b=bw o->h1.get? b=bw o) (Y:h1.Ns s.heap.objs.size λy=>[(x,u)].lookup y) :
  Inv (DC P w K mg base N scope cl q c A outer s H) [] σ H {s with heap:=h1,toks:=tk}:=by
 have F:∀b:Addr,b∉(DC P w K mg base N scope cl q c A outer s H).ex:=λb z=>absurd (show b∈([]:List Addr)from z)<|by simp
 refine⟨{B.mod,S.kind,rfl,rfl,zah _,S.inj,λy G=>?_,(λ_ _ h _=>nomatch h),λ_=>hd,Around.frames_deeper B.frames,.inr {rfl,rfl},λb z=>absurd z<|F b,B.bs,B.bsz,λb _ _=>F b,λb z=>absurd z<|F b,B.funs,B.frf,B.tb},
  rfl,B.bare,Un.kept M,{_,Y,λi y v h1 h2 h3=>?_},λy a h=>?_,B.hok.fresh<|zah _,λy a h=>(C y a h).2,λp hp=>absurd (show p∈([]:List<|Addr×Obj)from hp)<|by simp,B.hok.kept M,V.1⟩
 .rcases G with G|G
  .exact absurd rfl<|S.nocell _<|zbz<|show scope.names.lookup y=bw .cell from G
  .exact S.has y G
 .rcases V.2 i y v h1 h2 with⟨rfl,r⟩|⟨f,u',a,r,e,z⟩
  .exact{u,r,.inl {S.par,by simp[zbK]}}
  .obtain⟨o,U,W⟩:=z
   exact{u',r,.inr {.inr f,a,e,o,M _ _ U,W}}
 .obtain⟨⟨v,o,U,W⟩,_⟩:=C y a h
  exact{v,o,M _ _ U,W}
def LQ{K:zae}{u pm G:Value}{σ:L2.St}
  {F:Arguments} {B:Expr} {t:TE} {Q:VK} {k:Nat} (hr:Room k A) (U:Env0 P w K mg base A outer s H) (ho:s.heap.get? q=bw (zeE "<lambda>" LN F B scope cl pm c G)) (hc:LamC H c)
  (S:LamS scope x cl) (C:WB cl H s.heap) (V:qa4 N scope x u cl s.heap σ) (hb:zcd (zdZ "<lambda>" LN F B scope cl pm (.ref c) G) {[u],[]}=pure [(x,u)])
  (ht:PE (DC P w K mg base N scope cl q c A outer s H) B t) (h:t σ H Q) :
  zbj (model P w) A (.call (.ref q) {[u],[]}) (λr s'=>∃v,r=.ok (.ret v)/\CE outer P w H s Q v s') s:=by
 refine PySem.W.kla_callFunE (by have:=hr.dp;lia) ho rfl S.co S.gen rfl (hc.rec U.hok) ?_;rw[hb];have aa:s.heap.NoLimit:=U.mod.nolimit.keeps λb o e=>(U.bs b o e).1
 refine zaf<|wpAny_newFunctionEnv S.nocell (λy hy=>by rw[List.mem_singleton.mp hy];exact S.par) (λh1 Y M=>{aa.fresh _ M,?_}) S.kind;have hk:∀b o,s.heap.get? b=bw o->h1.get? b=bw o:=λb o e=>M.extBut b o (zaE<|zao e)<|zam _ e
 show zbj _ _ (.expr B<|qI scope cl q c s.heap.objs.size) _ _;have I:=Q7 (q:=q) (c:=c) (tk:=s.toks+1) U hr.hd S C V hk Y;refine PySem.W.kla_codeExpr<|za7 (ht [] _ σ H Q I h) (λv s' hv=>?_) λ_ _ z=>z.elim;obtain⟨v',H',J,rv,q'⟩:=hv;exact{v,rfl,v',H',J.os,J.bare,J.base,J.hok,rv,q'}
structure LS(X:Cx)(pins:List<|Addr×Obj)(σ:L2.St)(J:Hp->Prop)(l q c S It:Addr)(fo:Obj)(j:Nat)(H:Hp)(s:zac):Prop where
 inv:Inv X pins σ H s
 jj:J H
 fn:s.heap.get? q=bw fo
 fnn:H q=bz
 lc:LamC H c
 it:s.heap.IsListIter It l j
 itn:H It=bz
 sn:H S=bz
structure LF(X:Cx)(pins:List<|Addr×Obj)(q S It:Addr):Prop where
 i:∀H:Hp,H It=bz->i9 X pins H It
 s:∀H:Hp,H S=bz->i9 X pins H S
 ql:q≠X.env.locals
 qf:q∉X.fs
 si:S≠It
 qi:q≠It
 qs:q≠S
section
variable {X:Cx}{pins:List (Addr×Obj)}{σ:L2.St}{J:Hp->Prop}{l q c S It:Addr}{fo:Obj}{xs:List V}{kf:Nat->Int}{Q:VK}
def Inv.nst{H:Hp}{s:zac}{b:Addr}(I:Inv X pins σ H s)(h1:b≠X.env.locals)(h2:b∉X.fs):b∉frs X.stack:=λz=>(List.mem_cons.mp<|I.stkSub b z).elim h1 h2
def Inv.fp{H:Hp}{s:zac}{h':Heap}{t':Nat}{b:Addr}(I:Inv X pins σ H s)(f:i9 X pins H b)(k:∀a o,a≠b->s.heap.get? a=bw o->h'.get? a=bw o):Inv X pins σ H {s with heap:=h',toks:=t'}:=
 I.turned k f.1 f.2.1 f.2.2.2.1 f.2.2.2.2.1 f.2.2.2.2.2
def LS.lst{j:Nat}{H:Hp}{s:zac}(x:LS X pins σ J l q c S It fo j H s)(N:∀H,J H->SqL X.K H l xs):∃B:List Value,Vals xs B/\s.heap.IsList l B.toArray/\l≠It:=by
 obtain⟨B,r,⟨o,n,e,h1,h2,G⟩,_⟩:=x.inv.list<|N H x.jj;refine{B,r,{o,e,h1,n,G},λz=>?_};obtain⟨o',F,M,_⟩:=x.it;rw[z,F]at e;cases e;rw[M]at h1;exact absurd h1<|by simp
abbrev MR(X:Cx)(pins:List<|Addr×Obj)(σ:L2.St)(Q:VK):Result->zac->Prop:=λr s'=>match r with | .ok (.ret v)=>EP X pins σ Q v s' | .ok _=>False | .error e=>X.xe e s'
abbrev KT(X:Cx)(pins:List<|Addr×Obj)(σ:L2.St)(J:Hp->Prop)(q c:Addr)(fo:Obj)(xs:List V)(kf:Nat->Int):Prop:=
 ∀(j:Nat) (u:Value) (v:V) (s:zac) (H:Hp),Inv X pins σ H s->J H->s.heap.get? q=bw fo->H q=bz->LamC H c->xs[j]?=bw v->RelV v u->
  zbj (model X.prog X.w) X.A.in1 (.call (.ref q) {[u],[]}) (λr s'=>∃w,r=.ok (.ret w)/\CE X.stack X.prog X.w H s (λv' H'=>v'=.int (kf j)/\J H') w s') s
def LS.key{j k:Nat}{H:Hp}{s:zac}{w:Value}{s':zac}{M:Obj}(F:LF X pins q S It)(x:LS X pins σ J l q c S It fo j H s)(hs:s.heap.get? S=bw M)(h:CE X.stack X.prog X.w H s (λv' H'=>v'=.int (kf k)/\J H') w s') :
  ∃t H',w=.int (kf k) t/\LS X pins σ J l q c S It fo j H' s'/\s'.heap.get? S=bw M:=by
 obtain⟨v,H',ho,hg,un,G,rv,rfl,Y⟩:=h;obtain⟨t,rfl⟩:=rv;have I':Inv X pins σ H' s':=x.inv.call' (ch:=[]) ho un G hg λ_ z=>nomatch z
 have U:=F.i H x.itn;have W:=F.s H x.sn;have B:∀b o,s.heap.get? b=bw o->H b=bz->b≠X.env.locals->b∉X.fs->s'.heap.get? b=bw o:=λb o e n h1 h2=>un.keep b o e n (Inv.nst x.inv h1 h2)<|by simp
 obtain⟨oI,N,i2,i3⟩:=x.it;exact{t,H',rfl,{I',Y,B _ _ x.fn x.fnn F.ql F.qf,un.free _ _ x.fn x.fnn<|by simp,x.lc.un un,{oI,B _ _ N x.itn U.2.1 U.2.2.1,i2,i3},un.free _ _ N x.itn<|by simp,un.free _ _ hs x.sn<|by simp},B _ _ hs x.sn W.2.1 W.2.2.1}
def LS.put{j:Nat}{H:Hp}{s:zac}{vs:Array Value}{n:Nat}(F:LF X pins q S It)(x:LS X pins σ J l q c S It fo j H s)(hs:s.heap.get? S=bw (seqObj "list" vs n))(g:Array Value->Array Value) :
  LS X pins σ J l q c S It fo j H {s with heap:=s.heap.update S (zb5 g)}/\∃M,(s.heap.update S<|zb5 g).get? S=bw (seqObj "list" (g vs) M):=by
 have z:=zcO s.heap S<|zb5 g;obtain⟨B,U,G,N⟩:=x.it;exact{{Inv.fp (t':=s.toks) x.inv (F.s H x.sn) λa o n e=>(z.2 a n).trans e,x.jj,(z.2 q F.qs).trans x.fn,x.fnn,x.lc,{B,(z.2 It F.si.symm).trans U,G,N},x.itn,x.sn},_,get?_update_seq hs g}
def LS.turn{j i:Nat}{H:Hp}{s:zac}{h':Heap}{tk:Nat}(F:LF X pins q S It)(x:LS X pins σ J l q c S It fo j H s)(k:∀b o,b∉[It]->s.heap.get? b=bw o->h'.get? b=bw o)(hi:h'.IsListIter It l i) :
  LS X pins σ J l q c S It fo i H {s with heap:=h',toks:=tk}:=
 {Inv.fp x.inv (F.i H x.itn) λa o n e=>k a o (by simpa using n) e,x.jj,k _ _ (by simpa using F.qi) x.fn,x.fnn,x.lc,hi,x.itn,x.sn}
def LW(hc:X.calm=ca)(F:LF X pins q S It)(hp:∀H,J H->SqL X.K H l xs)(turn:KT X pins σ J q c fo xs kf)
  (hQ:∀i v H,xs[i]?=bw v->(∀j,j<xs.length->kf i<=kf j/\(j<i->kf i<kf j))->J H->Q v H) :
  ∀(r j i:Nat) (s:zac) (H:Hp) (vb:Value) (vi:V) (tb:Tok) (n:Nat),xs.length-(j+1)=r->j+1<=xs.length->LS X pins σ J l q c S It fo (j+1) H s->s.heap.get? S=bw (seqObj "list" #[vb,.int (kf i) tb] n)->
   xs[i]?=bw vi->RelV vi vb->i<=j->(∀B,B<=j->kf i<=kf B/\(B<i->kf i<kf B))->
   zbj (model X.prog X.w) X.A (.builtin "min.loop" {[.ref It,.ref q,.ref S],[]}) (MR X pins σ Q) s:=by
 have M:(toString "min" ++ toString ".loop" : String) = "min.loop" := by decide
 intro r;induction r with
 |zero=>
  intro j i s H vb vi tb n hr hj L hs hv rv am hb;have aq:j+1=xs.length:=by lia
  obtain⟨z,rr,hl,Y⟩:=L.lst hp;have W:=zcQ (prog:=X.prog) (w:=X.w) (A:=X.A.in1) (L.inv.ok.hd hc) It l Y z.toArray;have hsz:z.toArray.size=xs.length:=by rw[zay];exact rr.length.symm
  refine zdg zeF ?_;rw[zdh zcC _];show wpAny _ X.A.in1 (zda (.ref S) >>= _) _ _ _;refine zaa<|zbh hs rfl ?_;show wpAny _ X.A.in1 (zcT (zaW<|.ref It) _ >>= _) _ _ _;refine zaa<|zcz<|W.done _ _ _ {by rw[hsz,<- aq];exact L.it,hl} λh' U G=>?_;have aa:=G S _ (by simpa using F.si) hs;have I1:Inv X pins σ H {s with heap:=h',toks:=U}:=Inv.fp L.inv (F.i H L.itn) λa o n e=>G a o (by simpa using n) e
  have s1:=zcO h' S<|zb5 λ_=>(#[]:Array Value);show wpAny _ X.A.in1 (updateSeq S (λ_=>#[]) >>= _) _ _ _;refine zaa ?_;refine zeG aa rfl<|zaa<|zcj<|zaf ?_;exact{vi,H,Inv.fp (t':=U) I1 (F.s H L.sn) λa o n e=>(s1.2 a n).trans e,rv,hQ i vi H hv (λB ah=>hb B<|by lia) L.jj}
 |succ r ih=>
  intro j i s H vb vi tb n hr hj L hs hv rv am hb;have N:j+1<xs.length:=by lia
  obtain⟨z,rr,hl,Y⟩:=L.lst hp;have W:=zcQ (prog:=X.prog) (w:=X.w) (A:=X.A.in1) (L.inv.ok.hd hc) It l Y z.toArray;have hsz:z.toArray.size=xs.length:=by rw[zay];exact rr.length.symm
  refine zdg zeF ?_;rw[zdh zcC _];show wpAny _ X.A.in1 (zda (.ref S) >>= _) _ _ _;refine zaa<|zbh hs rfl ?_;show wpAny _ X.A.in1 (zcT (zaW<|.ref It) _ >>= _) _ _ _;refine zaa<|zcz<|W.item (j+1) _ _ _ (by rw[hsz];exact N) {L.it,hl} λv h' U hP af G=>?_;have ar:z[j+1]?=bw v:=by simpa using hP
  obtain⟨y,hy⟩:∃y,xs[j+1]?=bw y:={_,zaG N};obtain⟨v2,e2,ry⟩:=rr.get hy;rw[ar]at e2;cases e2;have L1:=L.turn (tk:=U) F G af.1;have aa:=G S _ (by simpa using F.si) hs;show wpAny _ X.A.in1 (zcT (zbJ [v]<|call (.ref q) [v]) _ >>= _) _ _ _;refine zaa<|zcz<|zbg<|wpAny_call<|zcJ (turn (j+1) v y _ H L1.inv L1.jj L1.fn L1.fnn L1.lc hy ry) λr s2 he=>?_;obtain⟨w,rfl,he⟩:=he;obtain⟨t2,H2,rfl,L2,ab⟩:=L1.key F aa he;show wpAny _ X.A.in1 (zcT (zbJ [v,.int (kf<|j+1) t2]<|richCompare .Lt (.int (kf<|j+1) t2) (.int (kf i) tb) >>= _) _ >>= _) _ _ _;refine zaa<|zcz<|zbg<|zaa<|CmpOf.ints_lt (prog:=X.prog) (w:=X.w) (A:=X.A.in1) (P:=λi v=>∃t,v=.int (kf i) t) kf (λi v h=>h) (j+1) i _ _ _ _ _ {t2,rfl} {tb,rfl} ?_;refine zaa<|zbg<|zcr ?_;refine zaa<|zcj<|zaf ?_;by_cases ai:kf (j+1)<kf i
  .simp only[ai,decide_true,if_true]
   refine zaa ?_;refine zeG ab rfl<|zaa<|zcj ?_;rw[M];obtain⟨L3,n3,al⟩:=L2.put F ab λ_=>#[v,.int (kf<|j+1) t2]
   refine zaf {zcA zcC _,ih (j+1) (j+1) _ H2 v y t2 n3 (by lia) N L3 al hy ry (zah _) λB ah=>?_};by_cases e:B=j+1
   .subst e;exact{by lia,λ_=>by lia}
   .have:=(hb B<|by lia).1
    exact{by lia,λ_=>by lia}
  .simp only[ai,decide_false,zbs,if_false]
   refine zaa<|zcj ?_;rw[M];refine zaf {zcA zcC _,ih (j+1) i _ H2 vb vi tb n (by lia) N L2 ab hv rv (by lia) λB ah=>?_};by_cases e:B=j+1
   .subst e;exact{by lia,λ_=>by lia}
   .exact hb B<|by lia
end
section
variable {X:Cx}{pins:List (Addr×Obj)}{σ:L2.St}{J:Hp->Prop}{l q c:Addr}{fo:Obj}{xs:List V}{kf:Nat->Int}{Q:VK}{H:Hp}{s:zac}
def MV(hc:X.calm=ca)(I:Inv X pins σ H s)(hJ:J H)(hf:s.heap.get? q=bw fo)(hn:H q=bz)(hL:LamC H c)(ql:q≠X.env.locals)(qf:q∉X.fs)(hp:∀H,J H->SqL X.K H l xs)(B:0<xs.length)(turn:KT X pins σ J q c fo xs kf)
  (hQ:∀i v H,xs[i]?=bw v->(∀j,j<xs.length->kf i<=kf j/\(j<i->kf i<kf j))->J H->Q v H) :
  wpAny (model X.prog X.w) X.A (call (.builtin "min") [.ref l] [(za1 "key",.ref q)]) (EP X pins σ Q) X.xe s:=by
 have z:(toString "min" ++ toString ".loop" : String) = "min.loop" := by decide
 obtain⟨Y,bg,⟨o0,n0,e0,ao,bd,ap⟩,_⟩:=I.list<|hp H hJ;have ai:s.heap.IsList l Y.toArray:={o0,e0,ao,n0,ap};refine kmk_tree PySem.F.kind_min PySem.F.plain_min PySem.F.entry_min (kmk_min_key _ _) ?_;show wpAny _ X.A.in1 (zeQ "min" ["key", "default"] 0 {[],[(za1 "key",.ref q)]} >>= _) _ _ s;refine zaa<|wpAny_of_eq (show zeQ "min" ["key", "default"] 0 {[],[(za1 "key",.ref q)]}=pure [bw<|.ref q,bz]from rfl) ?_;refine zaa<|zaf ?_;refine zaa<|zbZ ai ?_;refine zaa<|wpAny_newList ?_<|zaM _;rw[z];have hS:(s.heap.push {cls:=.type "list_iterator",data:=.fields #[.ref l,.int 0 0]}).objs.size=s.heap.objs.size+1:=size_push' ..;have gI:((s.heap.push {cls:=.type "list_iterator",data:=.fields #[.ref l,.int 0 0]}).push<|seqObj "list" #[] 0).get? s.heap.objs.size=bw {cls:=.type "list_iterator",data:=.fields #[.ref l,.int 0 0]}:=
  zam _ (zaC _ rfl)
 have gS:((s.heap.push {cls:=.type "list_iterator",data:=.fields #[.ref l,.int 0 0]}).push<|seqObj "list" #[] 0).get? (s.heap.push {cls:=.type "list_iterator",data:=.fields #[.ref l,.int 0 0]}).objs.size=bw (seqObj "list" #[] 0):=zaC _ rfl;have kp:∀b o,s.heap.get? b=bw o->((s.heap.push {cls:=.type "list_iterator",data:=.fields #[.ref l,.int 0 0]}).push<|seqObj "list" #[] 0).get? b=bw o:=λb o e=>zam _<|zam _ e
 have lq:=zao hf;have F:LF X pins q (s.heap.push {cls:=.type "list_iterator",data:=.fields #[.ref l,.int 0 0]}).objs.size s.heap.objs.size:=
  {λH' n=>I.fpOk (zah _) n,λH' n=>I.fpOk (by rw[hS];exact Nat.le_succ _) n,ql,qf,by rw[hS];exact zbb<|zcI _,zaE lq,by rw[hS];exact zaE<|Nat.lt_succ_of_lt lq}
 refine zaf {zcA zcC _,?_};have L0:LS X pins σ J l q c (s.heap.push {cls:=.type "list_iterator",data:=.fields #[.ref l,.int 0 0]}).objs.size s.heap.objs.size fo 0 H
   {s with heap:=(s.heap.push {cls:=.type "list_iterator",data:=.fields #[.ref l,.int 0 0]}).push (seqObj "list" #[] 0)}:=
  {I.kept (t':=s.toks) kp,hJ,kp _ _ hf,hn,hL,{_,gI,rfl,rfl},I.hok.fresh<|zah _,I.hok.fresh<|by rw[hS];exact Nat.le_succ _}
 revert L0 gS F;generalize (s.heap.push {cls:=.type "list_iterator",data:=.fields #[.ref l,.int 0 0]}).objs.size=S;generalize s.heap.objs.size=It;intro gS F L0;obtain⟨G,rr,hl,al⟩:=L0.lst hp;have W:=zcQ (prog:=X.prog) (w:=X.w) (A:=X.A.in1) (I.ok.hd hc) It l al G.toArray;have hsz:G.toArray.size=xs.length:=by rw[zay];exact rr.length.symm
 refine zdg zeF ?_;rw[zdh zcC _];show wpAny _ X.A.in1 (zda (.ref _) >>= _) _ _ _;refine zaa<|zbh gS rfl ?_;show wpAny _ X.A.in1 (zcT (zaW<|.ref It) _ >>= _) _ _ _;refine zaa<|zcz<|W.item 0 _ _ _ (by rw[hsz];exact B) {L0.it,hl} λv h' aj hP N U=>?_;have am:G[0]?=bw v:=by simpa using hP
 obtain⟨y,hy⟩:∃y,xs[0]?=bw y:={_,zaG B};obtain⟨v2,e2,ry⟩:=rr.get hy;rw[am]at e2;cases e2;have M:=L0.turn (tk:=aj) F U N.1;have an:=U S _ (by simpa using F.si) gS;show wpAny _ X.A.in1 (zcT (zbJ [v]<|call (.ref q) [v]) _ >>= _) _ _ _;refine zaa<|zcz<|zbg<|wpAny_call<|zcJ (turn 0 v y _ H M.inv M.jj M.fn M.fnn M.lc hy ry) λr s2 he=>?_;obtain⟨w,rfl,he⟩:=he;obtain⟨t2,H2,rfl,L2,aa⟩:=M.key F an he;show wpAny _ X.A.in1 (updateSeq S (λ_=>#[v,.int (kf 0) t2]) >>= _) _ _ _;refine zaa ?_;refine zeG aa rfl ?_;rw[z];obtain⟨L3,n3,ae⟩:=L2.put F aa λ_=>#[v,.int (kf 0) t2]
 refine zaf {zcA zcC _,LW hc F hp turn hQ _ 0 0 _ H2 v y t2 n3 rfl B L3 ae hy ry (zah _) λj' be=>?_};have e:j'=0:=by lia
 subst e;exact{by lia,λh=>absurd h<|zbt _}
end
end My
namespace P
noncomputable def LD(k:D->Option Int)(best:D)(bn:Int):List D->Option D
 |[]=>bw best
 |d::l=>(k d).bind λn=>if n<bn then LD k d n l else LD k best bn l
def yC(k:D->Option Int):D->Option D
 |.lst (d::l)=>(k d).bind λn=>LD k d n l
 |_=>bz
noncomputable def intOf:Option D->Option Int
 |some (.int n)=>bw n
 |_=>bz
noncomputable def h7(k:D->Option Int)(L:List D)(j:Nat):Int:=((L[j]?).bind k).getD 0
def pJ(h:L[j]?=bw d)(e:k d=bw n):h7 k L j=n:=by unfold h7;rw[h];show(k d).getD 0=n;rw[e];rfl
theorem mI:∀(l:List D) (p:Nat) (best:D) (bn:Int) (i:Nat),L.drop p=l->LD k best bn l=bw r->L[i]?=bw best->k best=bw bn->i<p->
  (∀j,j<p->(∃d n,L[j]?=bw d/\k d=bw n)/\h7 k L i<=h7 k L j/\(j<i->h7 k L i<h7 k L j))->
  (∀(j:Nat) (d:D),L[j]?=bw d->∃n,k d=bw n)/\∃m:Nat,L[m]?=bw r/\∀j,j<L.length->h7 k L m<=h7 k L j/\(j<m->h7 k L m<h7 k L j)
 |[],p,best,bn,i,hd,h,hi,hb,hip,hp=>by
  cases h;have N:L.length<=p:=List.drop_eq_nil_iff.mp hd;refine{λj d e=>?_,i,hi,λj M=>(hp j<|by lia).2};obtain⟨⟨d',n,B,U⟩,_⟩:=hp j<|zaQ (List.getElem?_eq_some_iff.mp e).1 N;rw[e]at B;cases B;exact⟨n,U⟩
 |d::l,p,best,bn,i,hd,h,hi,hb,hip,hp=>by
  obtain⟨n,B,h⟩:=bind_some h;have G:L[p]?=bw d:=by rw[<- List.head?_drop,hd];rfl
  have F:L.drop (p+1)=l:=by rw[<- List.tail_drop,hd];rfl
  have W:h7 k L p=n:=pJ G B;have Y:h7 k L i=bn:=pJ hi hb;split at h
  .refine mI l (p+1) d n p F h G B (zcI _) λj M=>?_
   by_cases q:j=p
   .subst q;exact{{d,n,G,B},zbr _,λz=>absurd z<|zbt _}
   .obtain⟨a,b,c⟩:=hp j (by lia)
    exact{a,by lia,λ_=>by lia}
  .refine mI l (p+1) best bn i F h hi hb (by lia) λj M=>?_
   by_cases q:j=p
   .subst q;exact{{d,n,G,B},by lia,λz=>absurd z<|by lia}
   .exact hp j<|by lia
def EG(h:yC k (.lst L)=bw r):0<L.length/\(∀(j:Nat) (d:D),L[j]?=bw d->k d=bw (h7 k L j))/\∀i:Nat,i<L.length->(∀j,j<L.length->h7 k L i<=h7 k L j/\(j<i->h7 k L i<h7 k L j))->L[i]?=bw r:=by
 cases L with
 |nil=>cases h
 |cons d l=>
  obtain⟨n,F,h⟩:=bind_some<|show(k d).bind _=bw r from h;have k0:h7 k (d::l) 0=n:=pJ (d:=d) rfl F;obtain⟨h1,m,h2,M⟩:=mI (k:=k) (L:=d::l) l 1 d n 0 rfl h rfl F (by lia) λj W=>by
   have:j=0:=by lia
   subst this;exact{{d,n,rfl,F},zbr _,λz=>absurd z<|zbt _}
  refine{Nat.succ_pos _,λj d' e=>?_,λi hi N=>?_}
  .obtain⟨U,G⟩:=h1 j d' e
   rw[G,pJ e G]
  .have B:=(List.getElem?_eq_some_iff.mp h2).1
   have a:=N m B;have b:=M i hi;have:i=m:=by
    rcases Nat.lt_trichotomy i m with z|z|z
    .have:=b.2 z;lia
    .exact z
    .have:=a.2 z;lia
   rw[this];exact h2
def DP(h:intOf o=bw n):o=bw (.int n):=by
 unfold intOf at h;split at h
 .cases h;rfl
 .cases h
def TX(hc:X.calm=ca)(hg:Gl X "min")(hm:X.mg "min" = bz)(he:PB X O e fe)(hs:isStar e=cf)
  (hr:Room (k+1) X.A.in1) (hL:∀a,X.env.cells.lookup y=bw a->My.LamOk X params scope lpos [(y,a)]) (hS:∀a,My.LamS scope x [(y,a)]) (hy:X.N[iy]?=bw y) (hO:iy∉O) (hk:X.env.kindOf y=bw .cell) (hf:scope.names.lookup y=bw .free)
  (hb:∀(cl:List<|Str×Addr) (pm Y u:Value) (c:Addr),zcd (zdZ "<lambda>" LN params body scope cl pm (.ref c) Y) {[u],[]}=pure [(x,u)])
  (M:∀(cl:List<|Str×Addr) (q c:Addr) (A:zan) (s:zac) (H:Hp),Room k (A.deeper<|My.qI scope cl q c s.heap.objs.size)->PD (My.DC X.prog X.w X.K X.mg X.base [x,y] scope cl q c A X.stack s H) [] body fb) :
  PD X O (.Call (.Name "min" p) [e] [{bw "key",.Lambda params body scope lpos,kp}] pos) (λρ=>(fe ρ).bind λd=>yC (λone=>intOf<|fb [bw one,(ρ[iy]?).join]) d):=by
 intro pins s σ H Q I h;obtain⟨H0,A0,A,E,ρ,d,st,W,q⟩:=h;obtain⟨xl,ex,W⟩:=bind_some W;refine zc6 (l7 I hg hm My.boot_min ?_ (by decide)<|by decide);refine PyProof.Rows.callWith_kw (c8 (cR he fK (cJ hs) pos pins s σ H (λvs H1=>∃v,vs=[v]/\RepB A H1 xl v/\Ext A H H1) I {H0,A0,A,E,ρ,xl,st,ex,λv H1 x1 r1=>{v,rfl,r1,x1}}) λus s1 ⟨vs,H1,I1,r1,v,ev,rv,x1⟩=>?_) (by rw[cJ hs];rfl) (iD<|by simp[hs]);subst ev;obtain⟨L,rfl⟩:∃L,xl=.lst L:=by
  unfold yC at W;split at W
  .exact{_,rfl}
  .cases W
 obtain⟨ap,aq,ab⟩:=EG W;obtain⟨l,xs,rfl,hl,rl⟩:=rv.lst_inv;obtain⟨u,rfl,ru⟩:=vals1 r1;cases ru;obtain⟨a,ha⟩:=I1.ok.has y<|.inl hk;have aa:∀B F,([(y,a)]:List<|Str×Addr).lookup B=bw F->X.env.cells.lookup B=bw F:=λB F z=>by
  have:=zbz z;cases List.mem_singleton.mp this;exact ha
 show wpAny _ _ (evalAll<|(do let v <- eval (.Lambda params body scope lpos) X.env;standAt pos;pure v)::[]) _ _ s1;refine wpAny_evalAll_cons<|zaa ?_;refine My.MP I1 (hL a ha) λq' c pm Y H2 h2 tk I2 un az ag ak ay bx a2 hH=>?_
 refine zaa<|zc3<|zaf<|wpAny_evalAll_nil ?_;show wpAny _ _ (call (.builtin "min") [.ref l] [(za1 "key",.ref q')]) _ _ _;have x2:Ext A H1 H2:=by
  rcases hH with rfl|⟨oc,hn,rfl⟩
  .exact Ext.refl _ _
  .exact Ext.new hn
 have am:xs.length=L.length:=rl.length;refine My.MV (J:=λH'=>Ext A H2 H') (xs:=xs) (kf:=h7 (λone=>intOf<|fb [bw one,(ρ[iy]?).join]) L) hc I2 (Ext.refl _ _) az ag a2 (zbb ay) ak (λH' z=>.inl<|z.rd _ _<|x2.rd _ _ hl) (by rw[am];exact ap) ?_ λi v H' hi a1 z=>?_
 .intro j u v s3 H3 I3 hJ ar bt au hj an
  obtain⟨d',e',r'⟩:=rl.get hj;have G:=st.mono<|(x1.trans x2).trans hJ;refine My.LQ (N:=[x,y]) (σ:=[bw v,(σ[iy]?).join]) (Q:=λU H'=>U=.int (h7 (λone=>intOf<|fb [bw one,(ρ[iy]?).join]) L j)/\Ext A H2 H') hr I3.env0.in1 ar au (hS a) (λB F z=>{I3.cell B F<|aa B F z,I3.freeC B F<|aa B F z}) {rfl,λi B U h1 h2=>?_} (hb _ _ _ _ _) (M _ _ _ _ _ _<|hr.deeper _) ?_
  .match i,h1,h2 with
   |0,h1,h2=>cases h1;cases h2;exact .inl {rfl,an}
   |1,h1,h2=>
    cases h1;have as:σ[iy]?=bw (bw U):=by
     have z:(σ[iy]?).join=bw U:=zaz h2;cases q:σ[iy]? with
     |none=>rw[q]at z;cases z
     |some o=>rw[q]at z;exact congrArg bw z
    obtain⟨m,hn,ah⟩:=I3.loc;obtain⟨u',r,look⟩:=ah iy y U hy as<|.inr<|.inl hk;rcases look with⟨lk,_⟩|⟨_,c1,e1,z⟩
    .rw[hk]at lk;cases lk
    .rw[ha]at e1;cases e1
     exact .inr {hf,u',a,r,by simp[zbK],z}
  .refine{H3,A,A,[],[bw d',(ρ[iy]?).join],.int<|h7 (λone=>intOf<|fb [bw one,(ρ[iy]?).join]) L j,{Ext.refl _ _,λ_ z=>z,G.live,G.live,rfl,λi d2 h1 _=>?_,(λ_ _ _ z=>nomatch z),(λ_ _ _ _ _ z=>nomatch z),(λ_ z=>nomatch z)},DP<|aq j d' e',λU H' z r=>{by cases r;rfl,hJ.trans z}}
   match i,h1 with
   |0,h1=>cases h1;exact{v,rfl,r'.ext<|x2.trans hJ}
   |1,h1=>
    have aw:ρ[iy]?=bw (bw d2):=by
     have z:(ρ[iy]?).join=bw d2:=zaz h1;cases q:ρ[iy]? with
     |none=>rw[q]at z;cases z
     |some o=>rw[q]at z;exact congrArg bw z
    obtain⟨v2,e2,r2⟩:=G.val iy d2 aw hO;exact{v2,by show bw ((σ[iy]?).join)=_;rw[e2];rfl,r2}
 .obtain⟨d',e',r'⟩:=rl.get hi
  have il:=(List.getElem?_eq_some_iff.mp hi).1;have:=ab i (by lia) λj hj=>a1 j<|by lia
  rw[e']at this;cases this;exact q v H' ((x1.trans x2).trans z)<|r'.ext<|x2.trans z
def IR(K:zae)(z:Value):Prop:=∃c,z=.ref c/\zeD K c kO=ca
structure LamT(K:zae)(mg:Str->Option Value)(x:Str):Prop where
 cd:∃f o fd,mg x=bw (.ref f)/\K.lookup f=bw o/\o.data=.func fd/\IR K fd.code
def XC{K:zae}{st:Stmt}(Df:My.DefAt K mg x st ps)(L:LamT K mg x)(S:FnScope N ps<|aK st)
  (h:∀(fa:Addr) (G:Value) (A:zan) (z:List Env) (s:zac) (H:Hp) (E:XK),IR K G->Room k (A.deeper<|zaK x (aK st) s.heap.objs.size fa G)->∃g,eL (i8 wK P w K mg base N x (aK st) fa G A z s H E).nox {[],[]} [] (bM st) g O'/\g=f) :
  Fn P w K mg base x (k+1) ps (bA N.length f):=by
 obtain⟨Y,fd,F,B,W⟩:=Df.ex;obtain⟨oc,od,kV,ak,pm,an,G,ct,af,rfl,lk,U⟩:=F.ex;obtain⟨f2,o2,ae,e1,M,e3,lc⟩:=L.cd;cases W.symm.trans e1;cases lk.symm.trans M;cases e3;refine{Y,_,F.kp,B,W,VZ lk U S (λvs H Q E hsp=>by obtain⟨A,ds,d,_,_,e,_⟩:=hsp;exact e) λA z s H vs Q E hr hsp=>?_};obtain⟨A1,ds,d,lv,r,e,eF,q⟩:=hsp;obtain⟨o,eo,M⟩:=bind_some eF;obtain⟨g,hg,rfl⟩:=h Y G A z s H E lc hr;refine{_,PSs.nox hg,H,A1,A1,[],_,o,ST.begun lv r,eo,?_};cases o with
 |nx ρ=>cases M;exact λA2 ap H2 s2=>q .non H2 s2.ex .non
 |rt d'=>cases M;exact λv H2 x2 r2=>q v H2 x2 r2
 |bk _=>cases M
 |ct _=>cases M
def qad(z:Nat)(fb fe:Ev):Ev:=λρ=>(fe ρ).bind λd=>yC (λone=>intOf<|fb [bw one,(ρ[z]?).join]) d
def qaY(W:scope.kind=.function)(co:scope.isCoroutine=cf)(G:scope.isGenerator=cf)(M:scope.names.lookup x=bw .local)(Y:(scope.names.all λp=>p.2 != .cell)=ca)(U:(scope.names.all λp=>p.2 != .free || p.1 == y)=ca)(a:Addr):My.LamS scope x [(y,a)]:=by
 refine{W,co,G,λz F e=>?_,M,λz1 z2 c h1 h2=>?_,λz F=>?_}
 .have:=List.all_eq_true.mp Y z F
  rw[e]at this;cases this
 .have N:=List.mem_singleton.mp (zbz h1)
  have B:=List.mem_singleton.mp<|zbz h2;injection N with N;injection B with B;rw[N,B]
 .have:=List.all_eq_true.mp U _ (zbz F)
  have:z=y:=by simpa using this
  exact{a,by rw[this];simp[zbK]}
def YZ(x y:Str)(G k:Nat)(U:IR X.K X.env.code)(hr:Room j X.A)(hj:k+2<=j)(hm:X.mg "min" = bz)(he:PB X O e fe:=by trivial)
  (B:∀(F:List<|Str×Addr) (q c:Addr) (A:zan) (s:zac) (H:Hp),Room k (A.deeper<|My.qI scope F q c s.heap.objs.size)->[x,y].Nodup->PD (My.DC X.prog X.w X.K X.mg X.base [x,y] scope F q c A X.stack s H) [] body fb:=by intros;trivial) (nd:[x,y].Nodup:=by decide)
  (hc:X.calm=ca:=by rfl) (hg:Gl X "min" := by rfl) (hs:isStar e=cf:=by rfl) (hp:lpos=tbP:=by rfl) (hq:X.env.qual ++ "<lambda>" = LN:=by rfl) (M:∀a,X.env.cells.lookup y=bw a->zc9 scope X.env=pure [(y,a)]:=by intro a h;cases h;rfl) (hd:defaultsOf params X.env=([],[]):=by rfl)
  (s1:scope.kind=.function:=by rfl) (s2:scope.isCoroutine=cf:=by rfl) (s3:scope.isGenerator=cf:=by rfl) (s4:scope.names.lookup x=bw .local:=by rfl) (s5:(scope.names.all λp=>p.2 != .cell)=ca:=by rfl) (s6:(scope.names.all λp=>p.2 != .free || p.1 == y)=ca:=by rfl)
  (Y:X.N[G]?=bw y:=by rfl) (W:O.contains G=cf:=by rfl) (hk:X.env.kindOf y=bw .cell:=by rfl) (hf:scope.names.lookup y=bw .free:=by rfl) (hb:∀(F:List<|Str×Addr) (pm ctv u:Value) (c:Addr),zcd (zdZ "<lambda>" LN params body scope F pm (.ref c) ctv) {[u],[]}=pure [(x,u)]:=by intros;rfl) :
  PD X O (.Call (.Name "min" p) [e] [{bw "key",.Lambda params body scope lpos,kp}] pos) (qad G fb fe):=by
 obtain⟨c,e1,e2⟩:=U;exact TX (k:=k) hc hg hm he hs (Room.in1<|hr.mono hj) (λa ha=>{{c,e1,e2},hp,hq,M a ha,hd}) (λa=>qaY s1 s2 s3 s4 s5 s6 a) Y (λz=>by rw[List.contains_iff_mem.mpr z]at W;cases W) hk hf hb λF q c A s H r=>B F q c A s H r nd
end P
namespace Law
def Ten:(10:Int)^60=1000000000000000000000000000000000000000000000000000000000000:=by decide +kernel
open P
local macro_rules | `(tactic|ac_rfl) => `(tactic|first
 | (with_reducible first|exact qb1|exact qcc|exact qaE|exact qag|exact at0|exact at1|exact at2|exact VL|exact YA|exact ZC|exact rfl|assumption)
 | ((with_reducible apply Y6);exact rfl)
 | (with_reducible first|apply qaq|apply ZO|apply IE|apply TV|apply UX|apply aM|apply XA|apply W0|apply QF|apply QK|apply ZF|apply qaA|apply qaL|apply YY|apply SN|apply RJ|apply WM|apply Q8|apply IM|apply TY|apply qaa|apply qw|apply XJ|apply qp|apply X7|apply P8|apply qaf|apply WW|apply YL|apply qv|apply O6) <;> ac_rfl
 | ((with_reducible apply qa3);(with_reducible first|exact rfl|(apply decide_eq_true;assumption));ac_rfl)
 | ((with_reducible apply qbe);(with_reducible first|exact rfl|(apply decide_eq_false;assumption));ac_rfl)
 | (with_reducible apply qa3) <;> ac_rfl
 | (with_reducible apply qbe) <;> ac_rfl
 | (with_reducible first|apply bU|apply i5|apply q_eqI|apply qaM|apply YO|apply decide_eq_true|apply decide_eq_false) <;> ac_rfl
 | (show bD _ _ _ _ _=_;assumption)
 | (apply aM <;> ac_rfl)
 | (apply O6 <;> ac_rfl)
 | (apply P8 <;> ac_rfl)
 | exact rfl
 | exact zcB rfl
 | decide
 | lia)
local macro_rules | `(tactic|simp_all[$xs,*]) => `(tactic|simp[-zad, -zab, aA, aB, $xs,*])
local macro_rules|`(tactic|simp_all)=>`(tactic|simp[-zad,-zab,aA,aB])
abbrev CN:Addr:=132
abbrev CA:Addr:=158
def at5{a b c d e f:D}{l:List D}:hW (a::b::c::d::e::f::l) 5=bw f:=bY (j:=5) rfl
def qj{a b c d e f g:D}{l:List D}:hW (a::b::c::d::e::f::g::l) 6=bw g:=bY (j:=6) rfl
structure Mk where
 nm:Str
 takes:List Int
 g:Int
 f:D
 pr:Int
def mF(m:Mk):D:=.tup [.str m.nm,tupI m.takes,.int m.g,m.f,.int m.pr]
structure Bk where
 M:Int
 kinds:List Str
 rs:List Ro
 makes:List Mk
def bB(C:Bk):D:=.tup [.int C.M,.tup<|C.kinds.map .str,.tup<|C.rs.map mU,.tup<|C.makes.map mF]
structure OkB(C:Bk):Prop where
 M3:3<=C.M
 M60:C.M<10^60
 k1:1<=C.kinds.length
 k6:C.kinds.length<=6
 gr:GR C.M (C.kinds.length:Int) C.rs
 tk:∀m∈C.makes,(∃t,m.takes=[t])\/∃t u,m.takes=[t,u]
 tb:∀m∈C.makes,∀t∈m.takes,0<=t/\t<(C.kinds.length:Int)
 gb:∀m∈C.makes,0<=m.g/\m.g<(C.kinds.length:Int)
 ml:C.makes.length<=6
 mp:∀m∈C.makes,0<=m.pr
inductive Rg where
 | name (x:Str) (j:Int) (w:List Int)
 | num (n j:Int) (w:List Int)
 | use1 (v:Nat) (nm:Str) (p:Rg) (w:List Int)
 | use2 (v:Nat) (nm:Str) (p q:Rg) (w:List Int)
 | lett (x:Str) (j:Int) (p q:Rg)
 | pick (c k:Int) (p q r:Rg) (w:List Int)
 | again (n k:Int) (x:Str) (p q:Rg) (w:List Int)
def pt:Rg->D
 |.name x _ _=>.tup [.str "name",.str x]
 |.num n j _=>.tup [.str "number",.int n,.int j]
 |.use1 _ nm p _=>.tup [.str "use",.str nm,.tup [pt p]]
 |.use2 _ nm p q _=>.tup [.str "use",.str nm,.tup [pt p,pt q]]
 |.lett x _ p q=>.tup [.str "let",.str x,pt p,pt q]
 |.pick c k p q r _=>.tup [.str "pick",.int c,.int k,pt p,pt q,pt r]
 |.again n k x p q _=>.tup [.str "again",.int n,.int k,.str x,pt p,pt q]
def rd:Rg->D
 |.name x _ w=>.tup [.str "name",.str x,tupI w]
 |.num n j w=>.tup [.str "number",.int n,.int j,tupI w]
 |.use1 v _ p w=>.tup [.str "use",.int (v:Int),.tup [rd p],tupI w]
 |.use2 v _ p q w=>.tup [.str "use",.int (v:Int),.tup [rd p,rd q],tupI w]
 |.lett x j p q=>.tup [.str "let",.str x,.int j,rd p,rd q]
 |.pick c k p q r w=>.tup [.str "pick",.int c,.int k,rd p,rd q,rd r,tupI w]
 |.again n k x p q w=>.tup [.str "again",.int n,.int k,.str x,rd p,rd q,tupI w]
def beh:Rg->List Int->Rg
 |.name x j w,v=>.name x j<|w++v
 |.num n j w,v=>.num n j<|w++v
 |.use1 u nm p w,v=>.use1 u nm p<|w++v
 |.use2 u nm p q w,v=>.use2 u nm p q<|w++v
 |.lett x j p q,v=>.lett x j p<|beh q v
 |.pick c k p q r w,v=>.pick c k p q r<|w++v
 |.again n k x p q w,v=>.again n k x p q<|w++v
def size:Rg->Nat
 |.name _ _ _=>1
 |.num _ _ _=>1
 |.use1 _ _ p _=>1+size p
 |.use2 _ _ p q _=>1+(size p+size q)
 |.lett _ _ p q=>1+(size p+size q)
 |.pick _ _ p q r _=>1+(size p+(size q+size r))
 |.again _ _ _ p q _=>1+(size p+size q)
def lets:Rg->Int
 |.name _ _ _=>0
 |.num _ _ _=>0
 |.use1 _ _ p _=>lets p
 |.use2 _ _ p q _=>lets p+lets q
 |.lett _ _ p q=>1+(lets p+lets q)
 |.pick _ _ p q r _=>lets p+(lets q+lets r)
 |.again _ _ _ p q _=>lets p+lets q
noncomputable def mpr(C:Bk)(v:Nat):Int:=((C.makes[v]?).map Mk.pr).getD 0
def cost(C:Bk):Rg->Int
 |.name _ _ w=>cE C.rs w
 |.num _ _ w=>cE C.rs w
 |.use1 v _ p w=>mpr C v+cE C.rs w+cost C p
 |.use2 v _ p q w=>mpr C v+cE C.rs w+(cost C p+cost C q)
 |.lett _ _ p q=>cost C p+cost C q
 |.pick _ _ p q r w=>cE C.rs w+(cost C p+(cost C q+cost C r))
 |.again _ _ _ p q w=>cE C.rs w+(cost C p+cost C q)
def WF(C:Bk):List (Str×Int)->Rg->Int->Prop
 |kn,.name x j w,e=>(x,j)∈kn/\gw C.rs j w=bw e
 |kn,.num n j w,e=>(0<=n/\n<C.M)/\(0<=j/\j<(C.kinds.length:Int))/\gw C.rs j w=bw e
 |kn,.use1 v nm p w,e=>∃m t,C.makes[v]?=bw m/\m.nm=nm/\m.takes=[t]/\WF C kn p t/\gw C.rs m.g w=bw e
 |kn,.use2 v nm p q w,e=>∃m t u,C.makes[v]?=bw m/\m.nm=nm/\m.takes=[t,u]/\WF C kn p t/\WF C kn q u/\gw C.rs m.g w=bw e
 |kn,.lett x j p q,e=>WF C kn p j/\WF C ((x,j)::kn) q e
 |kn,.pick c k p q r w,e=>(0<=c/\c<(C.kinds.length:Int))/\(0<=k/\k<(C.kinds.length:Int))/\WF C kn p c/\WF C kn q k/\WF C kn r k/\gw C.rs k w=bw e
 |kn,.again n k x p q w,e=>(0<=n/\n<4)/\(0<=k/\k<(C.kinds.length:Int))/\WF C kn p k/\WF C ((x,k)::kn) q k/\gw C.rs k w=bw e
def WF.mono{C:Bk}{g:Rg}:∀ {kn kn':List (Str×Int)} {e:Int},WF C kn g e->(∀p∈kn,p∈kn')->WF C kn' g e:=by
 have G:∀ {x:Str×Int} {kn kn':List (Str×Int)},(∀p∈kn,p∈kn')->∀p∈x::kn,p∈x::kn':=λh y M=>(List.mem_cons.mp M).elim (λz=>z ▸ zar ..) λz=>zaq _<|h y z
 induction g with
 |name x j w=>exact λW h=>{h _ W.1,W.2}
 |num n j w=>exact λW _=>W
 |use1 v nm p w ih=>rintro _ _ _ ⟨m,t,a,b,c,d,f⟩ h;exact{m,t,a,b,c,ih d h,f}
 |use2 v nm p q w ih ih2=>rintro _ _ _ ⟨m,t,u,a,b,c,d,U,f⟩ h;exact{m,t,u,a,b,c,ih d h,ih2 U h,f}
 |lett x j p q ih ih2=>exact λW h=>{ih W.1 h,ih2 W.2<|G h}
 |pick c k p q r w ih ih2 ih3=>rintro _ _ _ ⟨a,b,B,F,N,d⟩ h;exact{a,b,ih B h,ih2 F h,ih3 N h,d}
 |again n k x p q w ih ih2=>rintro _ _ _ ⟨a,b,B,F,d⟩ h;exact{a,b,ih B h,ih2 F<|G h,d}
def yJ{rs:List Ro}{j e f:Int}{v w:List Int}(h:gw rs j v=bw e)(k:gw rs e w=bw f):gw rs j (v++w)=bw f:=by
 rw[qD,h];exact k
def WF.beh{C:Bk}{v:List Int}{f:Int}{g:Rg}:∀ {kn:List (Str×Int)} {e:Int},WF C kn g e->gw C.rs e v=bw f->WF C kn (beh g v) f:=by
 induction g with
 |name x j w=>exact λW h=>{W.1,yJ W.2 h}
 |num n j w=>exact λW h=>{W.1,W.2.1,yJ W.2.2 h}
 |use1 u nm p w=>rintro _ _ ⟨m,t,a,b,c,d,f⟩ h;exact{m,t,a,b,c,d,yJ f h}
 |use2 u nm p q w=>rintro _ _ ⟨m,t,G,a,b,c,d,M,f⟩ h;exact{m,t,G,a,b,c,d,M,yJ f h}
 |lett x j p q _ ih=>exact λW h=>{W.1,ih W.2 h}
 |pick c k p q r w=>rintro _ _ ⟨a,b,z,B,F,d⟩ h;exact{a,b,z,B,F,yJ d h}
 |again n k x p q w=>rintro _ _ ⟨a,b,z,B,d⟩ h;exact{a,b,z,B,yJ d h}
theorem oM:∀(g:Rg) (v:List Int),size (beh g v)=size g
 |.name ..,_=>rfl
 |.num ..,_=>rfl
 |.use1 ..,_=>rfl
 |.use2 ..,_=>rfl
 |.lett x j p q,v=>by rw[beh,size,size,oM q v]
 |.pick ..,_=>rfl
 |.again ..,_=>rfl
theorem u5:∀(g:Rg) (v:List Int),lets (beh g v)=lets g
 |.name ..,_=>rfl
 |.num ..,_=>rfl
 |.use1 ..,_=>rfl
 |.use2 ..,_=>rfl
 |.lett x j p q,v=>by rw[beh,lets,lets,u5 q v]
 |.pick ..,_=>rfl
 |.again ..,_=>rfl
theorem OS:∀(g:Rg) (v:List Int),pt (beh g v)=pt g
 |.name ..,_=>rfl
 |.num ..,_=>rfl
 |.use1 ..,_=>rfl
 |.use2 ..,_=>rfl
 |.lett x j p q,v=>by rw[beh,pt,pt,OS q v]
 |.pick ..,_=>rfl
 |.again ..,_=>rfl
theorem C4{C:Bk}:∀(g:Rg) (v:List Int),cost C (beh g v)=cost C g+cE C.rs v
 |.name ..,_=>by simp only[beh,cost,eT]
 |.num ..,_=>by simp only[beh,cost,eT]
 |.use1 ..,_=>by simp only[beh,cost,eT];lia
 |.use2 ..,_=>by simp only[beh,cost,eT];lia
 |.lett x j p q,v=>by simp only[beh,cost,C4 q v];lia
 |.pick ..,_=>by simp only[beh,cost,eT];lia
 |.again ..,_=>by simp only[beh,cost,eT];lia
def LK(C:Bk):Rg->Prop
 |.name _ _ w=>∀n∈w,∃r,kN C.rs n=bw r
 |.num _ _ w=>∀n∈w,∃r,kN C.rs n=bw r
 |.use1 v _ p w=>(∃m,C.makes[v]?=bw m)/\LK C p/\∀n∈w,∃r,kN C.rs n=bw r
 |.use2 v _ p q w=>(∃m,C.makes[v]?=bw m)/\LK C p/\LK C q/\∀n∈w,∃r,kN C.rs n=bw r
 |.lett _ _ p q=>LK C p/\LK C q
 |.pick _ _ p q r w=>LK C p/\LK C q/\LK C r/\∀n∈w,∃r,kN C.rs n=bw r
 |.again _ _ _ p q w=>LK C p/\LK C q/\∀n∈w,∃r,kN C.rs n=bw r
theorem WF.fit{C:Bk}:∀ {g:Rg} {kn:List (Str×Int)} {e:Int},WF C kn g e->LK C g
 |.name x j w,kn,e,⟨a,b⟩=>gY b
 |.num n j w,kn,e,⟨a,b,c⟩=>gY c
 |.use1 v nm p w,kn,e,⟨m,t,a,b,c,d,f⟩=>{{m,a},d.fit,gY f}
 |.use2 v nm p q w,kn,e,⟨m,t,u,a,b,c,d,d2,f⟩=>{{m,a},d.fit,d2.fit,gY f}
 |.lett x j p q,kn,e,⟨a,b⟩=>{a.fit,b.fit}
 |.pick c k p q r w,kn,e,⟨a,b,c1,c2,c3,d⟩=>{c1.fit,c2.fit,c3.fit,gY d}
 |.again n k x p q w,kn,e,⟨a,b,c1,c2,d⟩=>{c1.fit,c2.fit,gY d}
def Short:Rg->Prop
 |.name _ _ w=>w.length<=6
 |.num _ _ w=>w.length<=6
 |.use1 _ _ p w=>Short p/\w.length<=6
 |.use2 _ _ p q w=>Short p/\Short q/\w.length<=6
 |.lett _ _ p q=>Short p/\Short q
 |.pick _ _ p q r w=>Short p/\Short q/\Short r/\w.length<=6
 |.again _ _ _ p q w=>Short p/\Short q/\w.length<=6
def eN{C:Bk}(B:OkB C){j e:Int}{w:List Int}(h:gw C.rs j w=bw e)(F:0<=j)(z:j<(C.kinds.length:Int)):w.length<=6/\0<=e/\e<(C.kinds.length:Int):=by
 have a:=kF B.gr h;have b:=WD B.gr h z;have:=B.k6;exact{by lia,by lia,b}
def OkN(C:Bk)(kn:List<|Str×Int):Prop:=∀p∈kn,0<=p.2/\p.2<(C.kinds.length:Int)
def OkN.cons{C:Bk}{kn:List (Str×Int)}{x:Str}{j:Int}(h:OkN C kn)(a:0<=j)(b:j<(C.kinds.length:Int)):OkN C<|(x,j)::kn:=λp B=>by
 rcases List.mem_cons.mp B with z|z
 .rw[z];exact⟨a,b⟩
 .exact h p z
def WF.short{C:Bk}(B:OkB C){g:Rg}:∀ {kn:List (Str×Int)} {e:Int},OkN C kn->WF C kn g e->Short g/\0<=e/\e<(C.kinds.length:Int):=by
 induction g with
 |name x j w=>exact λK W=>eN B W.2 (K _ W.1).1 (K _ W.1).2
 |num n j w=>exact λK W=>eN B W.2.2 W.2.1.1 W.2.1.2
 |use1 v nm p w ih=>
  rintro _ _ K ⟨m,t,a,b,c,d,f⟩;have z:=zap a;have s:=eN B f (B.gb m z).1 (B.gb m z).2;exact{{(ih K d).1,s.1},s.2}
 |use2 v nm p q w ih ih2=>
  rintro _ _ K ⟨m,t,u,a,b,c,d,Y,f⟩;have z:=zap a;have s:=eN B f (B.gb m z).1 (B.gb m z).2;exact{{(ih K d).1,(ih2 K Y).1,s.1},s.2}
 |lett x j p q ih ih2=>
  intro _ _ K W;have M:=ih K W.1;have N:=ih2 (K.cons M.2.1 M.2.2) W.2;exact{{M.1,N.1},N.2}
 |pick c k p q r w ih ih2 ih3=>
  rintro _ _ K ⟨a,b,F,G,U,d⟩;have s:=eN B d b.1 b.2;exact{{(ih K F).1,(ih2 K G).1,(ih3 K U).1,s.1},s.2}
 |again n k x p q w ih ih2=>
  rintro _ _ K ⟨a,b,F,G,d⟩;have s:=eN B d b.1 b.2;exact{{(ih K F).1,(ih2 (K.cons b.1 b.2) G).1,s.1},s.2}
def NF(U:List Str):List Str->Rg->Prop
 |_,.name _ _ _=>True
 |_,.num _ _ _=>True
 |N,.use1 _ _ p _=>NF U N p
 |N,.use2 _ _ p q _=>NF U N p/\NF U N q
 |N,.lett x _ p q=>NF U N p/\(x∉N/\x∈U)/\NF U (x::N) q
 |N,.pick _ _ p q r _=>NF U N p/\NF U N q/\NF U N r
 |N,.again _ _ x p q _=>NF U N p/\(x∉N/\x∈U)/\NF U (x::N) q
theorem NF.anti{U:List Str}:∀ {g:Rg} {N N':List Str},NF U N g->(∀y∈N',y∈N)->NF U N' g
 |.name ..,_,_,_,_=>trivial
 |.num ..,_,_,_,_=>trivial
 |.use1 u nm p w,N,N',h,k=>NF.anti (g:=p) (N:=N) h k
 |.use2 ..,N,N',⟨a,b⟩,k=>{NF.anti a k,NF.anti b k}
 |.lett x j p q,N,N',⟨a,b,c⟩,k=>{NF.anti a k,{λz=>b.1<|k _ z,b.2},NF.anti c λy B=>(List.mem_cons.mp B).elim (λz=>z ▸ zar ..) λz=>zaq _<|k y z}
 |.pick ..,N,N',⟨a,b,c⟩,k=>{NF.anti a k,NF.anti b k,NF.anti c k}
 |.again n k' x p q w,N,N',⟨a,b,c⟩,k=>{NF.anti a k,{λz=>b.1<|k _ z,b.2},NF.anti c λy B=>(List.mem_cons.mp B).elim (λz=>z ▸ zar ..) λz=>zaq _<|k y z}
theorem NF.beh{U:List Str}{v:List Int}:∀ {g:Rg} {N:List Str},NF U N g->NF U N (beh g v)
 |.name ..,_,_=>trivial
 |.num ..,_,_=>trivial
 |.use1 ..,N,h=>h
 |.use2 ..,N,h=>h
 |.lett x j p q,N,⟨a,b,c⟩=>{a,b,c.beh}
 |.pick ..,N,h=>h
 |.again ..,N,h=>h
inductive Pa where
 | name (x:Str)
 | num (n j:Int)
 | use1 (nm:Str) (p:Pa)
 | use2 (nm:Str) (p q:Pa)
 | lett (x:Str) (p q:Pa)
 | pick (c k:Int) (p q r:Pa)
 | again (n k:Int) (x:Str) (p q:Pa)
def pa:Rg->Pa
 |.name x _ _=>.name x
 |.num n j _=>.num n j
 |.use1 _ nm p _=>.use1 nm<|pa p
 |.use2 _ nm p q _=>.use2 nm (pa p)<|pa q
 |.lett x _ p q=>.lett x (pa p)<|pa q
 |.pick c k p q r _=>.pick c k (pa p) (pa q)<|pa r
 |.again n k x p q _=>.again n k x (pa p)<|pa q
def bO:Pa->D
 |.name x=>.tup [.str "name",.str x]
 |.num n j=>.tup [.str "number",.int n,.int j]
 |.use1 nm p=>.tup [.str "use",.str nm,.tup [bO p]]
 |.use2 nm p q=>.tup [.str "use",.str nm,.tup [bO p,bO q]]
 |.lett x p q=>.tup [.str "let",.str x,bO p,bO q]
 |.pick c k p q r=>.tup [.str "pick",.int c,.int k,bO p,bO q,bO r]
 |.again n k x p q=>.tup [.str "again",.int n,.int k,.str x,bO p,bO q]
def psz:Pa->Nat
 |.name _=>1
 |.num _ _=>1
 |.use1 _ p=>1+psz p
 |.use2 _ p q=>1+(psz p+psz q)
 |.lett _ p q=>1+(psz p+psz q)
 |.pick _ _ p q r=>1+(psz p+(psz q+psz r))
 |.again _ _ _ p q=>1+(psz p+psz q)
theorem bJ:∀g:Rg,psz (pa g)=size g
 |.name ..=>rfl
 |.num ..=>rfl
 |.use1 _ _ p _=>by simp only[pa,psz,size,bJ p]
 |.use2 _ _ p q _=>by simp only[pa,psz,size,bJ p,bJ q]
 |.lett _ _ p q=>by simp only[pa,psz,size,bJ p,bJ q]
 |.pick _ _ p q r _=>by simp only[pa,psz,size,bJ p,bJ q,bJ r]
 |.again _ _ _ p q _=>by simp only[pa,psz,size,bJ p,bJ q]
theorem gO:∀g:Rg,pt g=bO (pa g)
 |.name ..=>rfl
 |.num ..=>rfl
 |.use1 _ _ p _=>by simp only[pa,bO,pt,gO p]
 |.use2 _ _ p q _=>by simp only[pa,bO,pt,gO p,gO q]
 |.lett _ _ p q=>by simp only[pa,bO,pt,gO p,gO q]
 |.pick _ _ p q r _=>by simp only[pa,bO,pt,gO p,gO q,gO r]
 |.again _ _ _ p q _=>by simp only[pa,bO,pt,gO p,gO q]
def zA:∀ {p q:Pa},bO p=bO q->p=q:=by
 intro p;induction p with
 |name x=>intro q h;cases q <;> simp[-zad,-zab,aA,aB,bO]at h ⊢ <;> exact h
 |num n j=>intro q h;cases q <;> simp[-zad,-zab,aA,aB,bO]at h ⊢ <;> exact h
 |use1 nm p ih=>intro q h;cases q <;> simp[-zad,-zab,aA,aB,bO]at h ⊢ <;> exact{h.1,ih h.2}
 |use2 nm p q ih1 ih2=>intro q h;cases q <;> simp[-zad,-zab,aA,aB,bO]at h ⊢ <;> exact{h.1,ih1 h.2.1,ih2 h.2.2}
 |lett x p q ih1 ih2=>intro q h;cases q <;> simp[-zad,-zab,aA,aB,bO]at h ⊢ <;> exact{h.1,ih1 h.2.1,ih2 h.2.2}
 |pick c k p q r ih1 ih2 ih3=>intro q h;cases q <;> simp[-zad,-zab,aA,aB,bO]at h ⊢ <;> first|exact{h.1,h.2.1,ih1 h.2.2.1,ih2 h.2.2.2.1,ih3 h.2.2.2.2}|exact absurd h.1<|by decide
 |again n k x p q ih1 ih2=>intro q h;cases q <;> simp[-zad,-zab,aA,aB,bO]at h ⊢ <;> first|exact{h.1,h.2.1,h.2.2.1,ih1 h.2.2.2.1,ih2 h.2.2.2.2}|exact absurd h.1<|by decide
theorem oZ{z:Type}{f:z->D}(h:∀a b,f a=f b->a=b):∀ {l m:List z},l.map f=m.map f->l=m
 |[],[],_=>rfl
 |[],_::_,e=>nomatch e
 |_::_,[],e=>nomatch e
 |a::l,b::m,e=>by injection e with e1 e2;rw[h _ _ e1,oZ h e2]
def RF(a b:Mk)(h:mF a=mF b):a=b:=by
 unfold mF tupI at h;simp only[D.tup.injEq,zeH,D.str.injEq,D.int.injEq,and_true]at h;obtain⟨h1,h2,F,B,z⟩:=h;have:=oZ (f:=D.int) (λ_ _ e=>by injection e) h2;cases a;cases b;simp only at *;subst h1 F B z this;rfl
def SR(a b:Ro)(h:mU a=mU b):a=b:=by
 unfold mU at h;simp only[D.tup.injEq,zeH,D.int.injEq,and_true]at h;obtain⟨h1,h2,F,B,z⟩:=h;cases a;cases b;simp only at *;subst h1 h2 F B z;rfl
def zI{a b:Bk}(h:bB a=bB b):a=b:=by
 unfold bB at h;simp only[D.tup.injEq,zeH,D.int.injEq,and_true]at h;obtain⟨h1,h2,z,B⟩:=h;have G:=oZ (f:=D.str) (λ_ _ e=>by injection e) h2;have M:=oZ SR z;have F:=oZ RF B;cases a;cases b;simp only at *;subst h1 G M F;rfl
noncomputable def fY(h:Option Str)(acc l:List Str):List Str:=acc++l.filter λx=>!decide (bw x=h) && !decide (x∈acc)
def aP:Pa->List Str
 |.name x=>[x]
 |.num _ _=>[]
 |.use1 _ p=>fY bz []<|aP p
 |.use2 _ p q=>fY bz (fY bz []<|aP p)<|aP q
 |.lett x p q=>fY (bw x) (fY bz []<|aP p)<|aP q
 |.pick _ _ p q r=>fY bz (fY bz (fY bz []<|aP p)<|aP q)<|aP r
 |.again _ _ x p q=>fY (bw x) (fY bz []<|aP p)<|aP q
abbrev Sm:=Option<|Int×Int
noncomputable def mC:Sm->Sm->Sm
 |some a,bw b=>bw (a.1*b.1,a.2+b.2)
 |_,_=>bz
noncomputable def b6:Sm->Sm->Sm
 |some a,bw b=>bw (a.1+b.1,min a.2 b.2)
 |none,b=>b
 |a,bz=>a
def F4(C:Bk)(j k:Int):Sm:=
 if(bK C.rs k 8 j).length=0 then bz else bw (((bK C.rs k 8 j).length:Int),My.AH<|(bK C.rs k 8 j).map<|cE C.rs)
def csum(C:Bk)(own j k:Int)(z:List Sm):Sm:=z.foldl mC<|mC (bw (1,own))<|F4 C j k
abbrev hV:=Str->Int
noncomputable def fN(e:hV)(x:Str)(j:Int):hV:=λy=>if y=x then j else e y
noncomputable def aT(C:Bk)(v i:Nat):Int:=(((C.makes[v]?).map Mk.takes).getD [])[i]?.getD 0
noncomputable def dW(C:Bk)(v:Nat):Int:=((C.makes[v]?).map Mk.g).getD 0
noncomputable def pT(C:Bk)(nm:Str)(n:Nat):List Nat:=(zau C.makes.length).filter λv=>match C.makes[v]? with
 |some m=>decide (m.nm=nm) && decide (m.takes.length=n)
 |none=>cf
def aU(C:Bk):Pa->hV->Int->Sm
 |.name x,e,k=>csum C 0 (e x) k []
 |.num _ j,_,k=>csum C 0 j k []
 |.use1 nm p,e,k=>(pT C nm 1).foldl (λt v=>b6 t<|csum C (mpr C v) (dW C v) k [aU C p e<|aT C v 0]) bz
 |.use2 nm p q,e,k=>(pT C nm 2).foldl (λt v=>b6 t<|csum C (mpr C v) (dW C v) k [aU C p e<|aT C v 0,aU C q e<|aT C v 1]) bz
 |.lett x p q,e,k=>(zau C.kinds.length).foldl (λt (j:Nat)=>b6 t<|csum C 0 k k [aU C p e (j:Int),aU C q (fN e x (j:Int)) k]) bz
 |.pick c k' p q r,e,k=>csum C 0 k' k [aU C p e c,aU C q e k',aU C r e k']
 |.again _ k' x p q,e,k=>csum C 0 k' k [aU C p e k',aU C q (fN e x k') k']
def bC{h:Option Str}{acc l:List Str}{x:Str}:x∈fY h acc l↔x∈acc\/(x∈l/\bw x≠h):=by
 unfold fY;by_cases hx:x∈acc <;> simp_all[hx]
theorem cK(C:Bk):∀(p:Pa) (e f:hV) (k:Int),(∀x∈aP p,e x=f x)->aU C p e k=aU C p f k
 |.name x,e,f,k,h=>by simp only[aU,h x<|by simp_all[aP]]
 |.num _ j,e,f,k,h=>rfl
 |.use1 nm p,e,f,k,h=>by
  have a:=λk=>cK C p e f k λx hx=>h x<|by simp only[aP,bC];exact .inr {hx,by simp_all}
  simp only[aU,a]
 |.use2 nm p q,e,f,k,h=>by
  have a:=λk=>cK C p e f k λx hx=>h x<|by simp only[aP,bC];exact .inl<|.inr {hx,by simp_all}
  have b:=λk=>cK C q e f k λx hx=>h x<|by simp only[aP,bC];exact .inr {hx,by simp_all}
  simp only[aU,a,b]
 |.lett y p q,e,f,k,h=>by
  have a:=λk=>cK C p e f k λx hx=>h x<|by simp only[aP,bC];exact .inl<|.inr {hx,by simp_all}
  have b:=λj k=>cK C q (fN e y j) (fN f y j) k λx hx=>by
   unfold fN;by_cases z:x=y
   .rw[ci z,ci z]
   .rw[cj z,cj z];exact h x<|by simp only[aP,bC];exact .inr {hx,by simpa using z}
  simp only[aU,a,b]
 |.pick c k' p q r,e,f,k,h=>by
  have a:=λk=>cK C p e f k λx hx=>h x<|by simp only[aP,bC];exact .inl<|.inl<|.inr {hx,by simp_all}
  have b:=λk=>cK C q e f k λx hx=>h x<|by simp only[aP,bC];exact .inl<|.inr {hx,by simp_all}
  have c:=λk=>cK C r e f k λx hx=>h x<|by simp only[aP,bC];exact .inr {hx,by simp_all}
  simp only[aU,a,b,c]
 |.again n k' y p q,e,f,k,h=>by
  have a:=λk=>cK C p e f k λx hx=>h x<|by simp only[aP,bC];exact .inl<|.inr {hx,by simp_all}
  have b:=λj k=>cK C q (fN e y j) (fN f y j) k λx hx=>by
   unfold fN;by_cases z:x=y
   .rw[ci z,ci z]
   .rw[cj z,cj z];exact h x<|by simp only[aP,bC];exact .inr {hx,by simpa using z}
  simp only[aU,a,b]
def LH:List Str->List Int->hV
 |x::xs,j::js=>fN (LH xs js) x j
 |_,_=>λ_=>0
theorem BV(e:hV):∀ {xs:List Str} {x:Str},x∈xs->LH xs (xs.map e) x=e x
 |[],_,h=>nomatch h
 |y::ys,x,h=>by
  show fN (LH ys<|ys.map e) y (e y) x=e x;unfold fN;by_cases z:x=y
  .rw[ci z,z]
  .rw[cj z];exact BV e<|(List.mem_cons.mp h).resolve_left z
noncomputable def ZZ:Key->Int
 |.inl i=>i
 |.inr _=>0
noncomputable def yK(m:Nat):Nat->List (List Int)
 |0=>[[]]
 |n+1=>(yK m n).flatMap λl=>(zau m).map λ(j:Nat)=>(j:Int)::l
theorem xG(m:Nat):∀n,(yK m n).length=m^n
 |0=>rfl
 |n+1=>by
  have h:∀L:List (List Int),(L.flatMap λl=>(zau m).map λ(j:Nat)=>(j:Int)::l).length=L.length*m:=λL=>by
   induction L with
   |nil=>simp_all
   |cons a L ih=>rw[List.flatMap_cons,zbm,ih,zak,zcS,zaB,Nat.succ_mul,Nat.add_comm]
  rw[yK,h,xG m n,Nat.pow_succ]
theorem xA(m:Nat):∀ {n:Nat} {l:List Int},l.length=n->(∀j∈l,0<=j/\j<(m:Int))->l∈yK m n
 |0,[],_,_=>by simp_all[yK]
 |n+1,j::l,hl,h=>by
  have a:=xA m (n:=n) (l:=l) (by simpa using hl) λi hi=>h i<|zaq _ hi
  have b:=h j<|zar ..;refine List.mem_flatMap.mpr {l,a,List.mem_map.mpr {j.toNat,List.mem_range.mpr<|by lia,?_}};rw[show((j.toNat:Nat):Int)=j by lia]
open Classical in
def FF(b p:D):My.Mf:=λk=>if h:∃q:Bk×Pa,b=bB q.1/\p=bO q.2 then aU h.choose.1 h.choose.2 (LH (aP h.choose.2)<|k.2.map ZZ) (ZZ k.1)else bz
open Classical in
def DM(b p:D):List My.NK:=if h:∃q:Bk×Pa,b=bB q.1/\p=bO q.2 then(yK h.choose.1.kinds.length<|(aP h.choose.2).length+1).map λl=>match l with
 |j::l=>(.inl j,l.map .inl)
 |[]=>(.inl 0,[])else []
def qah(C:Bk)(p:Pa)(k:Int)(l:List Int):FF (bB C) (bO p) (.inl k,l.map .inl)=aU C p (LH (aP p) l) k:=by
 have h:∃q:Bk×Pa,bB C=bB q.1/\bO p=bO q.2:={(C,p),rfl,rfl};unfold FF;rw[dif_pos h];have B:=zI h.choose_spec.1;have z:=zA h.choose_spec.2;rw[<- B,<- z,zas];have e:(ZZ ∘ zbx:Int->Int)=id:=rfl;rw[e,List.map_id];rfl
def qo{C:Bk}{p:Pa}{k:Int}{l:List Int}(N:0<=k/\k<(C.kinds.length:Int))(F:l.length=(aP p).length)(h:∀j∈l,0<=j/\j<(C.kinds.length:Int)):((.inl k,l.map .inl):My.NK)∈DM (bB C) (bO p):=by
 have B:∃q:Bk×Pa,bB C=bB q.1/\bO p=bO q.2:={(C,p),rfl,rfl};unfold DM;rw[dif_pos B];have G:=zI B.choose_spec.1;have U:=zA B.choose_spec.2;rw[<- G,<- U];refine List.mem_map.mpr {k::l,xA _ (by rw[zaB,F]) λj M=>?_,rfl};rcases List.mem_cons.mp M with z|z
 .rw[z];exact N
 .exact h j z
def ZN{C:Bk}{p:Pa}(B:C.kinds.length<=6)(M:(aP p).length<=8):(DM (bB C)<|bO p).length<zal:=by
 have z:∃q:Bk×Pa,bB C=bB q.1/\bO p=bO q.2:={(C,p),rfl,rfl};unfold DM;rw[dif_pos z];have F:=zI z.choose_spec.1;have G:=zA z.choose_spec.2;rw[<- F,<- G,zak,xG];have a:C.kinds.length^((aP p).length+1)<=6^((aP p).length+1):=Nat.pow_le_pow_left B _;have b:(6:Nat)^((aP p).length+1)<=6^9:=Nat.pow_le_pow_right (by decide) (by lia);have c:(6:Nat)^9<zal:=by decide
 lia
noncomputable def top(i:Nat):Stmt:=PySem.Challenge.pw_chiefway_k64_whole_the_first_of_the_chea.main.body.getD i<|.Pass {0,0,0,0}
abbrev s_law:Stmt:=top 71
noncomputable abbrev tb(x:Str)(i:Nat)(ps:List Str):=(x,i,ps)
def tab:List<|Str×Nat×List Str:=[tb "_law_cell" 43 ["script", "k"],tb "_law_price" 45 ["cell"],tb "_law_road" 46 ["cell", "M", "j", "k"],tb "_law_roads" 47 ["script", "M", "many"],tb "_law_name" 44 ["cell", "n"],tb "_law_shape" 48 ["cell", "M", "n"],tb "_law_makes" 49 ["script", "M", "many"],tb "_law_book" 50 ["script"],tb "_law_heads" 64 ["script", "tome", "names"],tb "_law_back" 52 ["tome", "k", "cell"],tb "_law_cost" 53 ["tome", "way"],tb "_law_leaf" 55 ["tome", "known", "kind", "cell"],tb "_law_begun" 65 ["script", "tome", "names", "pairs"],tb "_law_walk" 51 ["tome", "j", "cell"],tb "_law_behind" 54 ["reading", "way"],tb "_law_walked" 62 ["tome", "state", "cell"],tb "_law_many" 66 ["script"],tb "_law_over" 56 ["part", "reading", "kind", "states", "cost"],tb "_law_used" 57 ["tome", "known", "state", "cell"],tb "_law_closed" 61 ["tome", "known", "state", "pair", "cell"],tb "_law_picked" 58 ["tome", "known", "state", "cell"],tb "_law_around" 59 ["tome", "known", "state", "name", "cell"],tb "_law_named" 60 ["tome", "known", "state", "name", "cell"],tb "_law_step" 63 ["tome", "names", "now", "cell"],tb "_law_grown" 67 ["script", "tome", "names", "pairs"],tb "choices" 10 ["book", "part"],tb "either" 24 ["one", "other"],tb "both" 23 ["one", "other"],tb "inner_kinds" 11 ["book", "part", "kind", "choice"],tb "name_within" 5 ["part", "number"],tb "inner_heads" 12 ["heads", "part", "number", "choice"],tb "spots" 27 ["atlas", "node", "heads", "kind", "choice"],tb "way_begins" 13 ["book", "heads", "part", "kind", "choice"],tb "sum_at" 25 ["atlas", "node", "heads", "kind"],tb "choice_sum" 26 ["atlas", "node", "heads", "kind", "choice"],tb "inner" 4 ["part"],tb "assembled" 17 ["part", "choice", "readings", "way"],tb "way_price" 8 ["book", "way"],tb "cheapest_at" 40 ["atlas", "node", "heads", "kind"],tb "cheapest_choice" 41 ["atlas", "node", "heads", "kind", "choice"],tb "ways" 7 ["book", "j", "k"],tb "ways_sum" 22 ["book", "routes"],tb "names_used" 20 ["part", "below"],tb "cheapest" 39 ["book", "heads", "part", "kind"],tb "choice_of" 14 ["reading"],tb "inner_readings" 15 ["reading"],tb "joined" 35 ["numbers", "many"],tb "way_of" 16 ["reading"],tb "number_in" 28 ["total"],tb "sizes" 33 ["atlas", "places", "routes"],tb "number_at" 37 ["atlas", "node", "heads", "kind", "reading"],tb "number_of" 36 ["book", "heads", "part", "kind", "reading"],tb "_law_priced" 70 ["tome", "reading"],tb "_law_number" 68 ["script"],tb "counts" 29 ["book", "heads", "part"],tb "_law_whole" 69 ["found"],tb "parted" 34 ["n", "many"],tb "told_at" 31 ["atlas", "node", "heads", "kind", "n"],tb "told_choice" 32 ["atlas", "node", "heads", "kind", "choice", "n"],tb "told" 30 ["book", "heads", "part", "kind", "n"]]
noncomputable def blt:List Str:=["bool", "dict", "enumerate", "int", "isinstance", "len", "list", "max", "min", "range", "reversed", "sum", "tuple", "zip"]
noncomputable def gis:List<|Str×Int:=[]
def sc_law:FnScope ["script", "tome", "names", "pairs", "state", "part", "kind", "best", "first", "size", "cost", "n", "some", "one", "other"] ["script"]<|aK s_law:={rfl,rfl,rfl,by decide +kernel,rfl,by decide +kernel,by decide +kernel}
structure Txt(K:zae)(mg:Str->Option Value):Prop where
 d:∀p∈tab,My.DefAt K mg p.1 (top p.2.1) p.2.2
 b:∀x∈blt,mg x=bz
 g:∀p∈gis,GInt mg p.1 p.2
 o_Node:ObT K mg "Node" "Node.__init__" "part" (inClass (top 19) 0) CN ["part", "below", "names", "found"]
 o_Atlas:ObT K mg "Atlas" "Atlas.__init__" "book" (inClass (top 21) 0) CA ["book", "routes", "spans"]
 l:LamT K mg "cheapest_choice"
def Txt.n{K:zae}{mg:Str->Option Value}(T:Txt K mg){x:Str}(h:x∈blt:=by decide +kernel):mg x=bz:=T.b x h
abbrev Tx(P:zai)(w:World)(K:zae)(mg:Str->Option Value)(base:Heap):Prop:=Txt K mg
abbrev Zt(x:Str)(ps:List Str)(k n:Nat):Type:={b:Sv // ∀ {P:zai} {w:World} {K:zae} {mg:Str->Option Value} {base:Heap},Tx P w K mg base->Fn P w K mg base x k ps (bA n b)}
def gN(N:List Str)(i:Nat){x:Str}{ps:List Str}{k:Nat}{b:Sv}(h:∀ {P:zai} {w:World} {K:zae} {mg:Str->Option Value} {base:Heap} {F:Addr} {B:Value} {A:zan} {z:List Env} {H:Hp} {E:XK} (T:Tx P w K mg base) (s:zac) (nd:N.Nodup) (G:Room k<|A.deeper<|zaK x (aK<|top i) s.heap.objs.size F B) (hu:(A.deeper<|zaK x (aK<|top i) s.heap.objs.size F B).units+1<cLine),∃g,eL (i8 wK P w K mg base N x (aK<|top i) F B A z s H E).nox {[],[]} [] (bM<|top i) g []/\g=b)(m:(x,i,ps)∈tab:=by decide +kernel)(sc:FnScope N ps<|aK<|top i:=by exact{rfl,rfl,rfl,by decide +kernel,rfl,by decide +kernel,by decide +kernel}):Zt x ps (k+1) N.length:={b,λT=>DD (T.d _ m) sc λF B A z s H E G=>h T s sc.nd G<|pM G}
abbrev Zr(x:Str)(ps:List Str)(k n m:Nat):Type:={b:(List D->Option D)->Sv // ∀ {P:zai} {w:World} {K:zae} {mg:Str->Option Value} {base:Heap},Tx P w K mg base->Fn P w K mg base x (k+m+1) ps (eK n b m)}
def AG(N:List Str)(i:Nat){x:Str}{ps:List Str}{k m:Nat}{b:(List D->Option D)->Sv}(h:∀ {P:zai} {w:World} {K:zae} {mg:Str->Option Value} {base:Heap} {fa:Addr} {cdv:Value} {A:zan} {outer:List Env} {H:Hp} {E:XK} (T:Tx P w K mg base) (R:List D->Option D) (j:Nat) (hj:k<=j) (ih:Fn P w K mg base x j ps R) (s:zac) (nd:N.Nodup) (hr:Room j<|A.deeper<|zaK x (aK<|top i) s.heap.objs.size fa cdv) (hu:(A.deeper<|zaK x (aK<|top i) s.heap.objs.size fa cdv).units+1<cLine),∃g,eL (i8 wK P w K mg base N x (aK<|top i) fa cdv A outer s H E).nox {[],[]} [] (bM<|top i) g []/\g=b R)(me:(x,i,ps)∈tab:=by decide +kernel)(sc:FnScope N ps<|aK<|top i:=by exact{rfl,rfl,rfl,by decide +kernel,rfl,by decide +kernel,by decide +kernel}):Zr x ps k N.length m:=⟨b,λT=>by
 induction m with
 |zero=>exact G9 (T.d _ me) sc
 |succ m ih=>exact DD (T.d _ me) sc λfa cdv A outer s H E hr=>h T _ (k+m+1) (by lia) ih s sc.nd hr<|pM hr⟩
local macro_rules | `(tactic|exists $x:ident) => `(tactic|(refine' (?f:∀y:(List D -> Option D) -> Sv, zcU $x = y -> (List D -> Option D) -> Sv) _ ?h;(case h => unfold $x;(try unfold AG);(try dsimp only);try exact rfl);(case f => exact λy _ => y)))
local macro_rules | `(tactic|exists $x:ident) => `(tactic|(refine' (?f:∀y:Sv, zcU $x = y -> Sv) _ ?h;(case h => unfold $x;(try unfold gN);(try dsimp only);try exact rfl);(case f => exact λy _ => y)))
def S8{X:Cx}{O:List Nat}{e:Expr}{f:Ev}{pos:Pos}(T:Txt X.K X.mg)(z:PB X O e f)(B:zaR e "part" X.env (eval e X.env)=eval e X.env):PD X O (.Attribute e "part" pos)<|dF CN "part" f:=mL T.o_Node.cls (T.o_Node.na _<|by decide) z B
def N2{X:Cx}{O:List Nat}{e:Expr}{f:Ev}{pos:Pos}(T:Txt X.K X.mg)(z:PB X O e f)(B:zaR e "below" X.env (eval e X.env)=eval e X.env):PD X O (.Attribute e "below" pos)<|dF CN "below" f:=mL T.o_Node.cls (T.o_Node.na _<|by decide) z B
def NC{X:Cx}{O:List Nat}{e:Expr}{f:Ev}{pos:Pos}(T:Txt X.K X.mg)(z:PB X O e f)(B:zaR e "names" X.env (eval e X.env)=eval e X.env):PD X O (.Attribute e "names" pos)<|dF CN "names" f:=mL T.o_Node.cls (T.o_Node.na _<|by decide) z B
def Q3{X:Cx}{O:List Nat}{e:Expr}{f:Ev}{pos:Pos}(T:Txt X.K X.mg)(z:PB X O e f)(B:zaR e "book" X.env (eval e X.env)=eval e X.env):PD X O (.Attribute e "book" pos)<|dF CA "book" f:=mL T.o_Atlas.cls (T.o_Atlas.na _<|by decide) z B
def J4{X:Cx}{O:List Nat}{e:Expr}{f:Ev}{pos:Pos}(T:Txt X.K X.mg)(z:PB X O e f)(B:zaR e "routes" X.env (eval e X.env)=eval e X.env):PD X O (.Attribute e "routes" pos)<|dF CA "routes" f:=mL T.o_Atlas.cls (T.o_Atlas.na _<|by decide) z B
def ML{X:Cx}{O:List Nat}{e:Expr}{f:Ev}{pos:Pos}(T:Txt X.K X.mg)(z:PB X O e f)(B:zaR e "spans" X.env (eval e X.env)=eval e X.env):PD X O (.Attribute e "spans" pos)<|dF CA "spans" f:=mL T.o_Atlas.cls (T.o_Atlas.na _<|by decide) z B
local macro_rules | `(tactic|trivial) => `(tactic|first
 | exact rfl
 | assumption
 | (show PD _ _ _ _;first|(apply vD <;> trivial)|(apply wE <;> trivial)|((first|apply ZE|apply bN|apply rSl|apply rIt|apply qbY|apply wt|apply qan|apply W9|apply YK|apply qcw|apply qcb|apply qx|apply qav|apply qar|apply YH|apply S8|apply N2|apply NC|apply Q3|apply J4|apply ML|apply rCm|apply X1|apply XE|apply X8|apply VX|apply PF.d) <;> trivial))
 | (show PB _ _ _ _;first|(apply vB <;> trivial)|(apply PD.b <;> trivial))
 | (show DJ _ _ _ _;((first|apply T5|apply nS) <;> trivial))
 | (show yM _ _ _ _;((first|apply GU|apply Z5) <;> trivial))
 | (show Len _ _;((first|apply l0|apply lc) <;> trivial))
 | (show mT _ _ _;((first|apply eI|apply iP|apply FL|apply Y4|apply qax|apply qaP|apply ZP|apply X0|apply WP|apply US|apply xEq|apply xNe|apply xLt) <;> trivial))
 | (show At _ _ _;first|exact at_ 0|exact at_ 1|exact at_ 2|exact at_ 3|exact at_ 4|exact at_ 5|exact at_ 6|exact at_ 7|exact at_ 8|exact at_ 9|exact at_ 10|exact at_ 11|exact at_ 12|exact at_ 13|exact at_ 14)
 | (show wX _ _ _ _;first|((first|apply qcv|apply tc|apply UP) <;> trivial)|(apply PDW.pt <;> trivial)|(apply RW <;> trivial))
 | (show PDW _ _ _ _;((first|apply RO|apply W3|apply L8|apply R6) <;> trivial))
 | (show WH _ _ _ _;((first|apply MI|apply M9) <;> trivial))
 | (show PDI _ _ _ _ _;((first|apply EK|apply TN|apply OH|apply T7|apply NO) <;> trivial))
 | (show DL _ _ _ _;first|(apply gV <;> trivial)|(apply gu 2 <;> trivial)|(apply gu 3 <;> trivial))
 | (show FS _ _ _ _;((first|apply MK|apply gc) <;> trivial))
 | (show My.F5 _ _ _;((first|apply L6|apply ME) <;> trivial))
 | (show PF _ _ _ _;((first|apply wl|apply qch) <;> trivial))
 | rfl
 | exact Txt.n (by assumption)
 | exact .inl rfl
 | exact .inr rfl
 | exact .inr (.inl rfl)
 | exact .inr (.inr rfl)
 | exact λ_=>rfl
 | exact λ_ _=>rfl
 | (with_unfolding_all rfl)
 | (constructor <;> rfl)
 | exact zah _
 | (refine zaL ?_ (by assumption);decide))
seal PD PB PF DJ yM wX PDW PDI WH kR eL Fn mT zaA zaP
def dP:Zt "_law_cell" ["script", "k"] 1 3:=gN ["script", "k", "near"] 43 λT s F B z=>by exact{_,(c0 (aV aO)<|c0 (aI 2<|bN eI (by trivial)<|PD.b<|bN cN (by trivial)<|by trivial)<|c0 (aV<|aN<|aI 2<|bN eI (by trivial)<|PD.b<|bN cN (PD.b<|bN cN (by trivial)<|by trivial)<|by trivial)<|aO<|bN FL (PD.b<|bN iP (PD.b<|bN cN (by trivial)<|by trivial)<|by trivial)<|by trivial),rfl}
def jL:Sv:=by exists dP
def b8:=bA 3 jL
def lI:Zt "_law_price" ["cell"] 1 1:=gN ["cell"] 45 λT s F B z=>by exact{_,(c0 (aV aO)<|aO<|bN iP (PD.b<|bN cN (by trivial)<|by trivial)<|by trivial),rfl}
def kX:Sv:=by exists lI
def kZ:=bA 1 kX
def uI:Zt "_law_road" ["cell", "M", "j", "k"] 2 6:=gN ["cell", "M", "j", "k", "a", "b"] 46 λT s F B z=>by have:=fx kZ<|lI.2 T;exact{_,(c0 (aI 4<|bN iP (PD.b<|bN cN (by trivial)<|by trivial)<|by trivial)<|c0 (aI 5<|bN iP (PD.b<|bN eI (by trivial)<|PD.b<|bN cN (by trivial)<|by trivial)<|by trivial)<|c0 (aV<|aN<|aI 4)<|c0 (aV<|aN<|aI 5) aO),rfl}
def t5:Sv:=by exists uI
def nD:=bA 6 t5
def qZ:Zt "_law_roads" ["script", "M", "many"] 3 9:=gN ["script", "M", "many", "cell", "roads", "n", "near", "j", "k"] 47 λT s F B z=>by have:=fx b8<|dP.2 T;have:=fx nD<|uI.2 T;exact{_,(c0 (aI 3)<|cO [4] (eS 4)<|c0 (dY [4] []<|cO [4] (aI 6)<|aN<|aV<|cO [4] (aI 7)<|cO [4] (aI 8)<|cO [4] (aV<|cO [4] (aI 7)<|aN<|aI 8)<|aN<|mB 4) aO),rfl}
def rU:Sv:=by exists qZ
def lA:=bA 9 rU
def jM:Zt "_law_name" ["cell", "n"] 1 6:=gN ["cell", "n", "many", "some", "letters", "at"] 44 λT s G B z=>by exact{_,(c0 (aI 0)<|c0 (aI 2)<|c0 (aI 3)<|c0 (aV<|aN<|aI 3)<|cO [4] (eS 4<|fH s ["k", "cell", "some"] [bz,bw 0,bw 3] (by trivial) (by intros;trivial) (by intros;trivial) λ_ _ _ _=>(bN iP (PD.b<|bN eI (PD.b<|bN FL (by trivial)<|PD.b<|bN eI (by trivial)<|PD.b<|bN cN (by trivial)<|by trivial)<|PD.b<|bN cN (by trivial)<|by trivial)<|by trivial))<|c0 (QS (cO [4] (aI 2)<|aN<|C8 4)<|cO [4] (aI 5)<|aN<|C8 4)<|aO<|RD (by trivial) (PD.b<|PF.d<|fH s ["k", "some", "letters"] [bz,bw 3,bw 4]) λa b=>(yG PySem.F.plainAttrs_str PySem.F.slot_str_join PySem.F.type_str_join My.Q5 a b)),rfl}
def uV:Sv:=by exists jM
def cM:=bA 6 uV
def rT:Zt "_law_shape" ["cell", "M", "n"] 1 8:=gN ["cell", "M", "n", "some", "terms", "k", "near", "c"] 48 λT s F B z=>by exact{_,(c0 (j7 3 s ["k"] [bz])<|c0 (aV<|aN<|j7 3 s ["k"] [bz])<|cO [4] (eS 4)<|c0 (dY [4] []<|cO [4] (aI 6<|bN eI (by trivial)<|PD.b<|bN cN (by trivial)<|by trivial)<|cO [4] (aI 7<|bN iP (PD.b<|bN cN (by trivial)<|by trivial)<|by trivial)<|aN<|aV<|aN<|mB 4) aO),rfl}
def qM:Sv:=by exists rT
def lH:=bA 8 qM
def rP:Zt "_law_makes" ["script", "M", "many"] 2 10:=gN ["script", "M", "many", "cell", "makes", "n", "near", "takes", "name", "shape"] 49 λT s F B z=>by have:=fx b8<|dP.2 T;have:=fx cM<|jM.2 T;have:=fx kZ<|lI.2 T;have:=fx lH<|rT.2 T;exact{_,(c0 (aI 3)<|cO [4] (eS 4)<|c0 (dY [4] []<|cO [4] (aI 6)<|cO [4] (aI 7)<|cO [4] (aV<|aN<|aI 7)<|cO [4] (aV<|aN<|aI 7)<|cO [4] (aI 8)<|cO [4] (aI 9)<|aN<|mB 4) aO),rfl}
def qS:Sv:=by exists rP
def lB:=bA 10 qS
def t6:Zt "_law_book" ["script"] 4 5:=gN ["script", "cell", "M", "many", "kinds"] 50 λT s F B z=>by have:=fx b8<|dP.2 T;have:=fx lB<|rP.2 T;have:=fx cM<|jM.2 T;have:=fx lA<|qZ.2 T;exact{_,(c0 (aI 1)<|c0 (aI 2<|bN eI (by trivial)<|PD.b<|bN cN (by trivial)<|by trivial)<|c0 (aV<|aN<|aI 2<|bN eI (by trivial)<|PD.b<|bN cN (by trivial)<|by trivial)<|c0 (aI 3)<|c0 (aV<|aN<|aI 3)<|c0 (aI 4<|qh lU T.n My.boot_tuple<|Z5 (PD.b<|PF.d<|fH s ["k", "script"] [bz,bw 0])<|by trivial) aO),rfl}
def uN:Sv:=by exists t6
def nB:=bA 5 uN
def rJ:Zt "_law_heads" ["script", "tome", "names"] 2 5:=gN ["script", "tome", "names", "pairs", "k"] 64 λT s F B z=>by have:=fx b8<|dP.2 T;exact{_,(cO [3] (eS 3)<|c0 (dY [3] []<|aN<|mB 3) aO),rfl}
def rK:Sv:=by exists rJ
def k7:=bA 5 rK
def tZ:Zt "_law_back" ["tome", "k", "cell"] 1 5:=gN ["tome", "k", "cell", "way", "some"] 52 λT s F B z=>by exact{_,(c0 (aI 3)<|c0 (QJ [] []<|c0 (j7 4 s ["n", "tome", "k"] [bz,bw 0,bw 1])<|c0 (aV aO)<|c0 (aI 3)<|c0 (aI 1)<|aN<|aI 2) aO),rfl}
def tW:Sv:=by exists tZ
def mW:=bA 5 tW
def jN:Zt "_law_cost" ["tome", "way"] 1 2:=gN ["tome", "way"] 53 λT s F B z=>by exact{_,(aO<|cB (PY rfl) T.n My.boot_sum<|Z5 (PD.b<|PF.d<|fH s ["n", "tome"] [bz,bw 0])<|by trivial),rfl}
def uW:Sv:=by exists jN
def jP:=bA 2 uW
def eR:Zt "_law_leaf" ["tome", "known", "kind", "cell"] 2 10:=gN ["tome", "known", "kind", "cell", "j", "way", "some", "cost", "name", "n"] 55 λT s z F B=>by have:=fx mW<|tZ.2 T;have:=fx jP<|jN.2 T;exact{_,(c0 (pF (by trivial)<|pA<|My.v7 (n:=2) rfl<|iW (λa b=>(lP a b)) (oT<|iC (i:=4) z rfl<|zbT rfl)<|by trivial)<|c0 (j7 6 s ["name", "at", "j"] [bz,bz,bw 4])<|c0 (aI 7)<|c0 (aV<|c0 (aI 8) aO)<|c0 (aI 9<|bN iP (PD.b<|bN cN (by trivial)<|by trivial)<|by trivial) aO),rfl}
def uA:Sv:=by exists eR
def bR:=bA 10 uA
def rA:Zt "_law_begun" ["script", "tome", "names", "pairs"] 3 8:=gN ["script", "tome", "names", "pairs", "left", "k", "known", "kind"] 65 λT s F B z=>by have:=fx b8<|dP.2 T;have:=fx bR<|eR.2 T;exact{_,(cO [4] (eS 4)<|c0 (dY [4] []<|aN<|mB 4)<|c0 (aI 6)<|c0 (aI 7) aO),rfl}
def rV:Sv:=by exists rA
def kU:=bA 8 rV
def tO:Zt "_law_walk" ["tome", "j", "cell"] 1 5:=gN ["tome", "j", "cell", "way", "some"] 51 λT s F B z=>by exact{_,(c0 (aI 3)<|c0 (QJ [] []<|c0 (j7 4 s ["n", "tome", "j"] [bz,bw 0,bw 1])<|c0 (aV aO)<|c0 (aI 3)<|c0 (aI 1)<|aN<|aI 2) aO),rfl}
def uL:Sv:=by exists tO
def mV:=bA 5 uL
def nU:Zr "_law_behind" ["reading", "way"] 0 3 24:=AG ["reading", "way", "last"] 54 λT R j B ih s G F z=>by exact{_,(c0 (aI 2)<|c0 (aV aO) aO),rfl}
def fB:(List D->Option D)->Sv:=by exists nU
def oE:=eK 3 fB 24
def jJ:Zt "_law_walked" ["tome", "state", "cell"] 26 5:=gN ["tome", "state", "cell", "kind", "way"] 62 λT s F B z=>by have:=fx oE<|nU.2 T;have:=fx jP<|jN.2 T;have:=fx mV<|tO.2 T;exact{_,(c0 (pF (by trivial)<|pA<|My.v7 (n:=2) rfl<|by trivial) aO),rfl}
def oC:Sv:=by exists jJ
def jF:=bA 5 oC
def uB:Zt "_law_many" ["script"] 2 1:=gN ["script"] 66 λT s F B z=>by have:=fx b8<|dP.2 T;exact{_,aO,rfl}
def uF:Sv:=by exists uB
def uE:=bA 1 uF
def fU:Zt "_law_over" ["part", "reading", "kind", "states", "cost"] 1 10:=gN ["part", "reading", "kind", "states", "cost", "parts", "lets", "rounds", "k", "one"] 56 λT s F B z=>by exact{_,(c0 (aI 5)<|c0 (aI 6)<|c0 (aI 7)<|c0 (dY [] []<|c0 (aI 9)<|c0 (aI 5)<|c0 (aI 6)<|c0 (aI 7)<|aN<|aI 4) aO),rfl}
def uG:Sv:=by exists fU
def aW:=bA 10 uG
def uU:Zt "_law_used" ["tome", "known", "state", "cell"] 3 11:=gN ["tome", "known", "state", "cell", "some", "v", "at", "make", "row", "part", "reading"] 57 λT s F B z=>by have:=fx bR<|eR.2 T;have:=fx aW<|fU.2 T;exact{_,(cO [4] (eS 4)<|c0 (dY [4] []<|aN<|dY [4] [4]<|aN<|aV<|aN<|mB 4)<|c0 (aV aO)<|c0 (pF (by trivial)<|pA<|My.v7 (n:=2) rfl<|by trivial)<|c0 (aI 7)<|cO [8] (UZ 8 s ["kind", "tome", "known", "cell"] [bz,bw 0,bw 1,bw 3])<|c0 (C8 8)<|c0 (aI 9<|qE (nS (by trivial)<|nS (by trivial)<|nS (qh lU T.n My.boot_tuple<|Z5 (PD.b<|PF.d<|fH s ["one"] [bz])<|by trivial)<|by trivial) λρ ds h=>(by have:=(lc<|lc<|lc l0) ρ ds h;lia))<|c0 (aI 10<|qE (nS (by trivial)<|nS (by trivial)<|nS (qh lU T.n My.boot_tuple<|Z5 (PD.b<|PF.d<|fH s ["one"] [bz])<|by trivial)<|by trivial) λρ ds h=>(by have:=(lc<|lc<|lc<|lc l0) ρ ds h;lia)) aO),rfl}
def t7:Sv:=by exists uU
def mY:=bA 11 t7
def oB:Zt "_law_closed" ["tome", "known", "state", "pair", "cell"] 3 12:=gN ["tome", "known", "state", "pair", "cell", "name", "j", "one", "row", "reading", "n", "part"] 61 λT s F B z=>by have:=fx bR<|eR.2 T;have:=fx aW<|fU.2 T;exact{_,(c0 (pF (by trivial)<|pA<|My.v7 (n:=2) rfl<|by trivial)<|c0 (aI 7)<|c0 (aI 8)<|c0 (aV<|c0 (aI 9) aO)<|c0 (aI 10)<|c0 (aI 11) aO),rfl}
def nZ:Sv:=by exists oB
def jH:=bA 12 nZ
def oF:Zt "_law_picked" ["tome", "known", "state", "cell"] 3 9:=gN ["tome", "known", "state", "cell", "at", "c", "k", "row", "part"] 58 λT s F B z=>by have:=fx bR<|eR.2 T;have:=fx aW<|fU.2 T;exact{_,(c0 (aI 4)<|c0 (aI 5)<|c0 (aI 6)<|c0 (QS (aN<|aI 6)<|aN<|aI 5)<|cO [7] (eS 7)<|cO [7] (mB 7)<|c0 (C8 7)<|c0 (aI 8) aO),rfl}
def n9:Sv:=by exists oF
def jI:=bA 9 n9
def oH:Zt "_law_around" ["tome", "known", "state", "name", "cell"] 3 9:=gN ["tome", "known", "state", "name", "cell", "k", "n", "two", "part"] 59 λT s F B z=>by have:=fx bR<|eR.2 T;have:=fx aW<|fU.2 T;exact{_,(c0 (aI 5)<|c0 (aI 6)<|c0 (aI 7)<|c0 (aI 8) aO),rfl}
def nY:Sv:=by exists oH
def nW:=bA 9 nY
def rQ:Zt "_law_named" ["tome", "known", "state", "name", "cell"] 3 8:=gN ["tome", "known", "state", "name", "cell", "k", "two", "reading"] 60 λT s F B z=>by have:=fx bR<|eR.2 T;have:=fx aW<|fU.2 T;exact{_,(c0 (aI 5)<|c0 (aI 6)<|c0 (aI 7) aO),rfl}
def rF:Sv:=by exists rQ
def qV:=bA 8 rF
def m9:Zt "_law_step" ["tome", "names", "now", "cell"] 27 9:=gN ["tome", "names", "now", "cell", "state", "left", "known", "rest", "most"] 63 λT s z F B=>by have:=fx nW<|oH.2 T;have:=fx jH<|oB.2 T;have:=fx qV<|rQ.2 T;have:=fx jI<|oF.2 T;have:=fx mY<|uU.2 T;have:=fx jF<|jJ.2 T;exact{_,(c0 (pF (by trivial)<|pA<|My.v7 (n:=3) rfl<|iW (λa b=>(lP a b)) (by trivial)<|iW (λa b=>(lP a b)) (oT<|iC (i:=5) z rfl<|zbT rfl)<|by trivial)<|c0 (aV<|c0 (j7 7 s ["pair", "left"] [bz,bw 5]) aO)<|c0 (aI 4)<|c0 (aI 8)<|c0 (aV<|aN<|aI 8)<|c0 (QS (aN<|aI 4)<|aN<|QS (aN<|aI 4)<|aN<|QS (aN<|aI 4)<|aN<|aV<|aN<|aI 4) aO),rfl}
def uQ:Sv:=by exists m9
def jO:=bA 9 uQ
def qX:Zt "_law_grown" ["script", "tome", "names", "pairs"] 28 6:=gN ["script", "tome", "names", "pairs", "now", "k"] 67 λT s F z B=>by have:=fx kU<|rA.2 T;have:=fx b8<|dP.2 T;have:=fx uE<|uB.2 T;have:=fx jO<|m9.2 T;have:=fx jF<|jJ.2 T;exact{_,(c0 (aI 4)<|c0 (dY [] []<|aN<|aI 4)<|c0 (QJ [] []<|aN<|aI 4<|cD (fx jO<|m9.2 T) (z.mono<|by decide) (nS (by trivial)<|nS (by trivial)<|nS (by trivial)<|nS (bN eI (by trivial)<|PD.b<|bN cN (by trivial)<|by trivial)<|by trivial)<|lc<|lc<|lc<|lc l0) aO),rfl}
def rH:Sv:=by exists qX
def lE:=bA 6 rH
def iV:Zt "choices" ["book", "part"] 1 2:=gN ["book", "part"] 10 λT s F B z=>by exact{_,(c0 (aV<|aO<|PF.d<|fH s ["v", "make", "part"] [bz,bz,bw 1])<|c0 (aV<|aO<|PF.d<|MT rfl (by rfl) T.n (by rfl) T.n (by trivial) rfl) aO),rfl}
def eX:Sv:=by exists iV
def dU:=bA 2 eX
def CH:Zt "either" ["one", "other"] 1 2:=gN ["one", "other"] 24 λT s F B z=>by exact{_,(c0 (aV aO) aO),rfl}
def BR:Sv:=by exists CH
def oK:=bA 2 BR
def OY:Zt "both" ["one", "other"] 1 2:=gN ["one", "other"] 23 λT s F B z=>by exact{_,(c0 (aV aO)<|aO<|qE (nS (bN cN (by trivial)<|by trivial)<|by trivial) λρ ds h=>(by have:=(lc<|lc l0) ρ ds h;lia)),rfl}
def P4:Sv:=by exists OY
def PX:=bA 2 P4
def mN:Zt "inner_kinds" ["book", "part", "kind", "choice"] 1 4:=gN ["book", "part", "kind", "choice"] 11 λT s F B z=>by exact{_,(c0 (aV aO)<|c0 (aV aO)<|c0 (aV aO)<|c0 (aV aO) aO),rfl}
def cH:Sv:=by exists mN
def bW:=bA 4 cH
def iK:Zt "name_within" ["part", "number"] 1 2:=gN ["part", "number"] 5 λT s F B z=>by exact{_,(c0 (aV aO)<|c0 (aV aO)<|c0 (aV aO) aO),rfl}
def bP:Sv:=by exists iK
def cW:=bA 2 bP
def mO:Zt "inner_heads" ["heads", "part", "number", "choice"] 2 6:=gN ["heads", "part", "number", "choice", "x", "more"] 12 λT s F z B=>by have:=fx cW<|iK.2 T;exact{_,(c0 (aI 4)<|c0 (aV aO)<|cO [5] (eS 5<|qk (lM rfl z.units) T.n My.boot_dict<|by trivial)<|c0 (C8 5) aO),rfl}
def f6:Sv:=by exists mO
def dS:=bA 6 f6
def pD:Zt "spots" ["atlas", "node", "heads", "kind", "choice"] 3 9:=gN ["atlas", "node", "heads", "kind", "choice", "kinds", "places", "number", "one"] 27 λT s F B z=>by have:=fx dS<|mO.2 T;have:=fx bW<|mN.2 T;exact{_,(c0 (aI 5)<|cO [6] (eS 6)<|c0 (dY [6] []<|aN<|mB 6) aO),rfl}
def GM:Sv:=by exists pD
def gB:=bA 9 GM
def e8:Zt "way_begins" ["book", "heads", "part", "kind", "choice"] 1 5:=gN ["book", "heads", "part", "kind", "choice"] 13 λT s F B z=>by exact{_,(c0 (aV aO)<|c0 (aV aO)<|c0 (aV aO) aO),rfl}
def cS:Sv:=by exists e8
def a7:=bA 5 cS
abbrev Zv(x:Str)(ps:List Str)(k n:Nat):Type:={b:(List D->Option D)->Sv // ∀ {P:zai} {w:World} {K:zae} {mg:Str->Option Value} {base:Heap},Tx P w K mg base->∀(R:List D->Option D) (j:Nat),k<=j->Fn P w K mg base "sum_at" j ["atlas", "node", "heads", "kind"] R->Fn P w K mg base x (j+1) ps (bA n<|b R)}
def qbm(N:List Str)(i:Nat){x:Str}{ps:List Str}{k:Nat}{b:(List D->Option D)->Sv}(h:∀ {P:zai} {w:World} {K:zae} {mg:Str->Option Value} {base:Heap} {F:Addr} {B:Value} {A:zan} {z:List Env} {H:Hp} {E:XK} (T:Tx P w K mg base) (R:List D->Option D) (j:Nat) (M:k<=j) (ih:Fn P w K mg base "sum_at" j ["atlas", "node", "heads", "kind"] R) (s:zac) (nd:N.Nodup) (G:Room (j)<|A.deeper<|zaK x (aK<|top i) s.heap.objs.size F B) (hu:(A.deeper<|zaK x (aK<|top i) s.heap.objs.size F B).units+1<cLine),∃g,eL (i8 wK P w K mg base N x (aK<|top i) F B A z s H E).nox {[],[]} [] (bM<|top i) g []/\g=b R)(U:(x,i,ps)∈tab:=by decide +kernel)(sc:FnScope N ps<|aK<|top i:=by exact{rfl,rfl,rfl,by decide +kernel,rfl,by decide +kernel,by decide +kernel}):Zv x ps k N.length:={b,λT R j M ih=>DD (T.d _ U) sc λF B A z s H E G=>h T R j M ih s sc.nd G<|pM G}
local macro_rules | `(tactic|exists $x:ident) => `(tactic|(refine' (?f:∀y:(List D -> Option D) -> Sv, zcU $x = y -> (List D -> Option D) -> Sv) _ ?h;(case h => unfold $x;(try unfold qbm);(try unfold AG);(try dsimp only);try exact rfl);(case f => exact λy _ => y)))
def fA:Zv "choice_sum" ["atlas", "node", "heads", "kind", "choice"] 3 10:=qbm ["atlas", "node", "heads", "kind", "choice", "own_price", "total", "one", "known", "at"] 26 λT R j B ih s G F z=>by have:=fx PX<|OY.2 T;have:=fx gB<|pD.2 T;have:=fx a7<|e8.2 T;exact{_,(c0 (aI 5)<|c0 (aI 6)<|c0 (dY [] []<|aN<|aV<|aN<|aI 6) aO),rfl}
def cT:(List D->Option D)->Sv:=by exists fA
abbrev Zw(x:Str)(ps:List Str)(k n m:Nat):Type:={b:(List D->Option D)->Sv // ∀ {P:zai} {w:World} {K:zae} {mg:Str->Option Value} {base:Heap},Tx P w K mg base->Fn P w K mg base x (k+2*m+1) ps (eK n b m)}
def LA(N:List Str)(i:Nat){x:Str}{ps:List Str}{k m:Nat}{b:(List D->Option D)->Sv}(h:∀ {P:zai} {w:World} {K:zae} {mg:Str->Option Value} {base:Heap} {fa:Addr} {cdv:Value} {A:zan} {outer:List Env} {H:Hp} {E:XK} (T:Tx P w K mg base) (R:List D->Option D) (j:Nat) (hj:k<=j) (hj1:k<=j+1) (ih:Fn P w K mg base x j ps R) (s:zac) (nd:N.Nodup) (hr:Room (j+1)<|A.deeper<|zaK x (aK<|top i) s.heap.objs.size fa cdv) (hu:(A.deeper<|zaK x (aK<|top i) s.heap.objs.size fa cdv).units+1<cLine),∃g,eL (i8 wK P w K mg base N x (aK<|top i) fa cdv A outer s H E).nox {[],[]} [] (bM<|top i) g []/\g=b R)(me:(x,i,ps)∈tab:=by decide +kernel)(sc:FnScope N ps<|aK<|top i:=by exact{rfl,rfl,rfl,by decide +kernel,rfl,by decide +kernel,by decide +kernel}):Zw x ps k N.length m:=⟨b,λT=>by
 induction m with
 |zero=>exact G9 (T.d _ me) sc
 |succ m ih=>exact DD (T.d _ me) sc λfa cdv A outer s H E hr=>h T _ (k+2*m+1) (by lia) (by lia) ih s sc.nd hr<|pM hr⟩
local macro_rules | `(tactic|exists $x:ident) => `(tactic|(refine' (?f:∀y:(List D -> Option D) -> Sv, zcU $x = y -> (List D -> Option D) -> Sv) _ ?h;(case h => unfold $x;(try unfold LA);(try unfold AG);(try dsimp only);try exact rfl);(case f => exact λy _ => y)))
def gF:Zw "sum_at" ["atlas", "node", "heads", "kind"] 3 7 16:=LA ["atlas", "node", "heads", "kind", "key", "total", "choice"] 25 λT R j B G ih s N F M=>by have:=fx dU<|iV.2 T;have:=fx oK<|CH.2 T;have z:=fx (bA 10<|cT R)<|fA.2 T R j B ih;exact{_,(c0 (aI 4<|qE (nS (by trivial)<|nS (qh lU T.n My.boot_tuple<|Z5 (PD.b<|PF.d<|fH s ["x", "heads"] [bz,bw 2])<|by trivial)<|by trivial) λρ ds h=>(by have:=(lc<|lc l0) ρ ds h;lia))<|N3 1 4 5 T.o_Node.cls (T.o_Node.na _<|by decide) (hu2 F) (aI 5) (dY [] []<|aN<|aI 5) (pv 1) (pv 1) (pv 1) (pv 4) (pv 4) (pv 4) (pv 5) λ_ _=>rfl),rfl}
def iZ:(List D->Option D)->Sv:=by exists gF
def b7:=eK 7 iZ 16
def dO:=bA 10<|cT b7
def zT:Zt "inner" ["part"] 1 1:=gN ["part"] 4 λT s F B z=>by exact{_,(c0 (aV aO)<|c0 (aV aO)<|c0 (aV aO)<|c0 (aV aO) aO),rfl}
def iF:Sv:=by exists zT
def jT:=bA 1 iF
def k9:Zt "assembled" ["part", "choice", "readings", "way"] 2 4:=gN ["part", "choice", "readings", "way"] 17 λT s F B z=>by have:=fx jT<|zT.2 T;exact{_,(c0 (aV aO)<|c0 (aV aO) aO),rfl}
def gC:Sv:=by exists k9
def eU:=bA 4 gC
def kW:Zt "way_price" ["book", "way"] 1 2:=gN ["book", "way"] 8 λT s F B z=>by exact{_,(aO<|cB (PY rfl) T.n My.boot_sum<|Z5 (PD.b<|PF.d<|fH s ["number", "book"] [bz,bw 0])<|by trivial),rfl}
def qU:Sv:=by exists kW
def d6:=bA 2 qU
abbrev Zv1(x:Str)(ps:List Str)(k n:Nat):Type:={b:(List D->Option D)->Sv // ∀ {P:zai} {w:World} {K:zae} {mg:Str->Option Value} {base:Heap},Tx P w K mg base->∀(R:List D->Option D) (j:Nat),k<=j->Fn P w K mg base "cheapest_at" j ["atlas", "node", "heads", "kind"] R->Fn P w K mg base x (j+1) ps (bA n<|b R)}
def VY(N:List Str)(i:Nat){x:Str}{ps:List Str}{k:Nat}{b:(List D->Option D)->Sv}(h:∀ {P:zai} {w:World} {K:zae} {mg:Str->Option Value} {base:Heap} {G:Addr} {z:Value} {A:zan} {B:List Env} {H:Hp} {E:XK} (T:Tx P w K mg base) (R:List D->Option D) (j:Nat) (U:k<=j) (ih:Fn P w K mg base "cheapest_at" j ["atlas", "node", "heads", "kind"] R) (s:zac) (nd:N.Nodup) (M:Room (j)<|A.deeper<|zaK x (aK<|top i) s.heap.objs.size G z) (hu:(A.deeper<|zaK x (aK<|top i) s.heap.objs.size G z).units+1<cLine) (F:IR K z),∃g,eL (i8 wK P w K mg base N x (aK<|top i) G z A B s H E).nox {[],[]} [] (bM<|top i) g []/\g=b R)(hx : "cheapest_choice" = x:=by rfl)(W:(x,i,ps)∈tab:=by decide +kernel)(sc:FnScope N ps<|aK<|top i:=by exact{rfl,rfl,rfl,by decide +kernel,rfl,by decide +kernel,by decide +kernel}):Zv1 x ps k N.length:={b,λT R j U ih=>XC (T.d _ W) (hx ▸ T.l) sc λG z A B s H E F M=>h T R j U ih s sc.nd M (pM M) F}
local macro_rules | `(tactic|exists $x:ident) => `(tactic|(refine' (?f:∀y:(List D -> Option D) -> Sv, zcU $x = y -> (List D -> Option D) -> Sv) _ ?h;(case h => unfold $x;(try unfold VY);(try unfold AG);(try unfold LA);(try dsimp only);try exact rfl);(case f => exact λy _ => y)))
def iA:Zv1 "cheapest_choice" ["atlas", "node", "heads", "kind", "choice"] 37 8:=VY ["atlas", "node", "heads", "kind", "choice", "readings", "routes", "way"] 41 λT R j B ih s M F G z=>by have:=fx eU<|k9.2 T;have:=fx gB<|pD.2 T;have:=fx a7<|e8.2 T;have:=fx d6<|kW.2 T;exact{_,(c0 (j7 5 s ["one", "known", "at", "atlas"] [bz,bz,bz,bw 0])<|c0 (aI 6)<|c0 (aI 7<|YZ "one" "atlas" 0 1 z F (zaL (by decide) B) T.n) aO),rfl}
def eY:(List D->Option D)->Sv:=by exists iA
def iL:Zw "cheapest_at" ["atlas", "node", "heads", "kind"] 37 7 16:=LA ["atlas", "node", "heads", "kind", "total", "choice", "one"] 40 λT R j B F ih s M N G=>by have:=fx dO<|fA.2 T b7 _ (by decide)<|fx b7<|gF.2 T;have:=fx dU<|iV.2 T;have:=fx b7<|gF.2 T;have z:=fx (bA 8<|eY R)<|iA.2 T R j B ih;exact{_,(c0 (aI 4)<|c0 (dY [] []<|c0 (aI 6)<|aN<|aV aO) Z2),rfl}
def cX:(List D->Option D)->Sv:=by exists iL
def iJ:=eK 7 cX 16
def P6:Zr "ways" ["book", "j", "k"] 0 6 8:=AG ["book", "j", "k", "told", "number", "road"] 7 λT R j G ih s z M B=>by exact{_,(c0 (aV aO)<|cO [3] (eS 3)<|c0 (dY [3] [] (aN<|aV<|aN<|uK (i:=3) (pv 3) (PF.d<|fH s ["way", "number"] [bz,bw 4]) rfl<|yG zdi PySem.F.slot_list_extend PySem.F.type_list_extend My.uJ (pv 3)<|cR (PD.pe<|PF.d<|fH s ["way", "number"] [bz,bw 4]) fK) (by trivial)<|HW<|FC (n:=2) rfl<|iW (λa b=>(lP a b)) (oT<|iC (i:=4) z rfl<|zbT rfl)<|by trivial) aO),rfl}
def nN:(List D->Option D)->Sv:=by exists P6
def iQ:=eK 6 nN 8
def mZ:Zt "ways_sum" ["book", "routes"] 2 3:=gN ["book", "routes", "prices"] 22 λT s F B z=>by have:=fx d6<|kW.2 T;exact{_,(c0 (j7 2 s ["way", "book"] [bz,bw 0])<|aO<|VX (by trivial) (qE (nS (by trivial)<|nS (cB (NV rfl) T.n My.boot_min<|by trivial)<|by trivial) λρ ds h=>(by have:=(lc<|lc l0) ρ ds h;lia))<|by trivial),rfl}
def uX:Sv:=by exists mZ
def cZ:=bA 3 uX
def sc_Atlas:FnScope ["self", "book", "j", "k"] ["self", "book"]<|aK<|inClass (top 21) 0:={rfl,rfl,rfl,by decide +kernel,rfl,by decide +kernel,by decide +kernel}
def gA(bk:D):Option<|List D:=(lR cQ<|aC (aR hZ<|aC (bF aL (aD 1)<|eC<|.int 1) aX) aX) [bz,bw bk]
def oO{P:zai}{w:World}{K:zae}{mg:Str->Option Value}{base:Heap}(T:Tx P w K mg base):MkO P w K mg base 10 "Atlas" CA "book" λ_=>vO CA gA iQ cZ:=T.o_Atlas.mko sc_Atlas λW G A z s H E N vs Q hsp=>by
  have U:=pM N;have M:=sc_Atlas.nd;have:=fx iQ<|P6.2 T;have:=fx cZ<|mZ.2 T;rw[QB hsp];exact DW (X:=(i8 wK P w K mg base ["self", "book", "j", "k"] "Atlas.__init__" (aK<|inClass (top 21) 0) W G A z s H E).nox) (f1:=(lR cQ<|aC (aR hZ<|aC (bF aL (aD 1)<|eC<|.int 1) aX) aX)) (f2:=(lR cQ<|aC (aR hZ<|aC (bF aL (aD 1)<|eC<|.int 1) aX) aX)) (fk:=(fQ<|aC (aD 2)<|aC (aD 3) aX)) (fv:=(aR iQ<|aC (aD 1)<|aC (aD 2)<|aC (aD 3) aX)) (fe:=aD 1) T.o_Atlas.cls T.o_Atlas.na (fx cZ<|mZ.2 T) rfl (N.mono<|by decide) rfl U zeC rfl (pv 0) (pv 0) (pv 0) (pv 0) (pv 0) (pv 0) (vV 1 (pv 1)<|by decide) (by trivial) (by trivial) (iC (i:=2) M rfl<|za2 rfl) (iC (i:=3) M rfl<|za2 rfl) (by trivial) (by trivial) (by trivial) (by trivial) (vV 1 (pv 1)<|by decide) (λ_ _=>rfl)
   (λh=>by have e:=rZ h;have B:∀bk:D,aD 1 [bz,bw bk]=bw bk:=λ_=>rfl;simp only[gA,lR,aR,aC,bF,e,B];rfl) (λh=>by have e:=rZ h;have B:∀bk:D,aD 1 [bz,bw bk]=bw bk:=λ_=>rfl;simp only[gA,lR,aR,aC,bF,e,B];rfl) (λh h'=>by have e:=rZ h;have F:=rZ h';simp only[fQ,aC,aX,e,F];rfl) (λh h' h2=>by have e:=rZ h;have F:=rZ h';have B:=rZ h2;simp only[aR,aC,aX,e,F,B];rfl) (λh=>rZ h) (hsp:=hsp)
def jB:Zt "names_used" ["part", "below"] 2 6:=gN ["part", "below", "names", "number", "node", "hidden"] 20 λT s U W M=>by have:=fx cW<|iK.2 T;exact{_,(c0 (aV aO)<|cO [2] (eS 2)<|c0 (dY [2] []<|cO [2] (aI 5)<|aN<|uK (i:=2) (pv 2) (PF.d<|BN (N:=["x", "hidden", "names"]) (ms:=[bz,bw 5,bw 2]) (t:=0) (Oi:=[2]) rfl (GO rfl rfl<|G5 (n:=s.heap.objs.size+1) rfl) {{rfl,rfl,za2 rfl},{{rfl,rfl,za2 rfl},trivial}} rfl (by decide) (by decide) (by trivial) (λ_ _ _ _=>(iC (i:=0) (show(["x", "hidden", "names"]:List Str).Nodup from by decide) rfl<|za2 rfl)) (λG B H1 z=>(by trivial)) λG B H1 z=>(by trivial)) rfl<|yG zdi PySem.F.slot_list_extend PySem.F.type_list_extend My.uJ (pv 2)<|cR (PD.pe<|PF.d<|BN (N:=["x", "hidden", "names"]) (ms:=[bz,bw 5,bw 2]) (t:=0) (Oi:=[2]) rfl (GO rfl rfl<|G5 (n:=s.heap.objs.size+1) rfl) {{rfl,rfl,za2 rfl},{{rfl,rfl,za2 rfl},trivial}} rfl (by decide) (by decide) (by trivial) (λ_ _ _ _=>(iC (i:=0) (show(["x", "hidden", "names"]:List Str).Nodup from by decide) rfl<|za2 rfl)) (λG B H1 z=>(by trivial)) λG B H1 z=>(by trivial)) fK) aO),rfl}
def jD:Sv:=by exists jB
def eZ:=bA 6 jD
def sc_Node:FnScope ["self", "part"] ["self", "part"]<|aK<|inClass (top 19) 0:={rfl,rfl,rfl,by decide +kernel,rfl,by decide +kernel,by decide +kernel}
def rY:Nat->D->D->Option D
 |0,_=>λ_=>bz
 |m+1,b=>IL CN (eJ [bz] (gH<|aR jT<|aC (aD 1) aX) (aQ 0) fP<|eNew (rY m) (λ_=>bw b)<|aD 0) eZ (DM b)<|FF b
theorem pB{P:zai}{w:World}{K:zae}{mg:Str->Option Value}{base:Heap}(T:Tx P w K mg base):∀m,MkO P w K mg base (3+2*m) "Node" CN "part" (rY m)
 |0=>T.o_Node.mko sc_Node λG B A z s H E F vs Q hsp=>by
  obtain⟨_,_,_,_,_,_,_,_,_,_,_,_,_,_,_,h,_⟩:=hsp;cases h
 |m+1=>T.o_Node.mko (k:=3+2*m+1) sc_Node λG B A z s H E F vs Q hsp=>by
  have M:=pM F;have N:=sc_Node.nd;have U:3<=3+2*m+1:=(by lia);have:=fx jT<|zT.2 T;have:=fx eZ<|jB.2 T;rw[RT hsp rfl];exact J3 (X:=(i8 wK P w K mg base ["self", "part"] "Node.__init__" (aK<|inClass (top 19) 0) G B A z s H E).nox) (fb:=λb=>(eJ [bz] (gH<|aR jT<|aC (aD 1) aX) (aQ 0) fP<|eNew (rY m) (λ_=>bw b)<|aD 0)) T.o_Node.cls T.o_Node.na (fx eZ<|jB.2 T) rfl (F.mono<|by lia) rfl (pv 0) (pv 0) (pv 0) (pv 0) (pv 0) (vV 1 (pv 1)<|by decide) (λb=>by exact(PF.d<|fH s ["one"] [bz] (by trivial) (by intros;trivial) (by intros;trivial) λ_ _ _ _=>(kC (β:=λ_=>bw b) (pB T m) (F.mono<|by lia) rfl<|by trivial))) (vV 1 (pv 1)<|by decide) (hsp:=hsp)
def uH:Zt "cheapest" ["book", "heads", "part", "kind"] 71 4:=gN ["book", "heads", "part", "kind"] 39 λT s F z B=>by have:=fx iJ<|iL.2 T;exact{_,(aO<|cD (fx iJ<|iL.2 T) (z.mono<|by decide) (nS (kC (β:=eC .non) (oO T) (z.mono<|by decide) rfl<|by trivial)<|nS (kC (β:=aD 0) (pB T 16) (z.mono<|by decide) rfl<|by trivial)<|nS (PF.d<|qk (lM rfl z.units) T.n My.boot_dict<|by trivial)<|by trivial)<|lc<|lc<|lc<|lc l0),rfl}
def tT:Sv:=by exists uH
def tV:=bA 4 tT
def rN:Zt "choice_of" ["reading"] 1 1:=gN ["reading"] 14 λT s F B z=>by exact{_,(c0 (aV aO)<|c0 (aV aO) aO),rfl}
def dM:Sv:=by exists rN
def lC:=bA 1 dM
def iT:Zt "inner_readings" ["reading"] 1 1:=gN ["reading"] 15 λT s F B z=>by exact{_,(c0 (aV aO)<|c0 (aV aO)<|c0 (aV aO)<|c0 (aV aO) aO),rfl}
def bS:Sv:=by exists iT
def fR:=bA 1 bS
def B7:Zt "joined" ["numbers", "many"] 1 5:=gN ["numbers", "many", "n", "number", "size"] 35 λT s F B z=>by exact{_,(c0 (aI 2)<|c0 (dY [] []<|aN<|aI 2<|bN eI (PD.b<|bN cN (by trivial)<|by trivial)<|by trivial) aO),rfl}
def BC:Sv:=by exists B7
def vK:=bA 5 BC
def CY:Zt "way_of" ["reading"] 1 1:=gN ["reading"] 16 λT s F B z=>by exact{_,aO,rfl}
def gG:Sv:=by exists CY
def u6:=bA 1 gG
def eW:Zt "number_in" ["total"] 1 1:=gN ["total"] 28 λT s F B z=>by exact{_,aO,rfl}
def AO:Sv:=by exists eW
def dN:=bA 1 AO
def zF:Zt "sizes" ["atlas", "places", "routes"] 37 3:=gN ["atlas", "places", "routes"] 33 λT s F B z=>by have:=fx dN<|eW.2 T;have:=fx b7<|gF.2 T;exact{_,(aO<|bN eI (PD.b<|PF.d<|fH s ["one", "known", "at", "atlas"] [bz,bz,bz,bw 0])<|by trivial),rfl}
def G0:Sv:=by exists zF
def mJ:=bA 3 G0
def lF:Zr "number_at" ["atlas", "node", "heads", "kind", "reading"] 37 13 16:=AG ["atlas", "node", "heads", "kind", "reading", "chosen", "n", "choice", "places", "routes", "numbers", "one", "spot"] 37 λT R j G ih s M z B=>by have:=fx lC<|rN.2 T;have:=fx dO<|fA.2 T b7 _ (by decide)<|fx b7<|gF.2 T;have:=fx dU<|iV.2 T;have:=fx fR<|iT.2 T;have:=fx vK<|B7.2 T;have:=fx dN<|eW.2 T;have:=fx mJ<|zF.2 T;have:=fx gB<|pD.2 T;have:=fx a7<|e8.2 T;have:=fx u6<|CY.2 T;exact{_,(c0 (aI 5)<|c0 (aI 6)<|c0 (dY [] []<|aN<|aV<|aN<|aI 6)<|c0 (aI 8)<|c0 (aI 9)<|cO [10] (eS 10)<|cO [10] (dY [10] [10]<|aN<|mB 10)<|c0 (mB 10<|OL z.units (by trivial) (by trivial) λm h k=>(yG zdi PySem.F.slot_list_index PySem.F.type_list_index m h k)) aO),rfl}
def dJ:(List D->Option D)->Sv:=by exists lF
def kT:=eK 13 dJ 16
def qT:Zt "number_of" ["book", "heads", "part", "kind", "reading"] 55 5:=gN ["book", "heads", "part", "kind", "reading"] 36 λT s F z B=>by have:=fx kT<|lF.2 T;exact{_,(aO<|cD (fx kT<|lF.2 T) (z.mono<|by decide) (nS (kC (β:=eC .non) (oO T) (z.mono<|by decide) rfl<|by trivial)<|nS (kC (β:=aD 0) (pB T 16) (z.mono<|by decide) rfl<|by trivial)<|nS (PF.d<|qk (lM rfl z.units) T.n My.boot_dict<|by trivial)<|by trivial)<|lc<|lc<|lc<|lc<|lc l0),rfl}
def rE:Sv:=by exists qT
def qQ:=bA 5 rE
def oA:Zr "_law_priced" ["tome", "reading"] 1 6 16:=AG ["tome", "reading", "word", "inside", "cost", "one"] 70 λT R j B ih s G F z=>by have:=fx jP<|jN.2 T;exact{_,(c0 (aI 2)<|c0 (aI 3)<|c0 (aI 4)<|c0 (aV<|c0 (aI 3)<|aN<|aI 4)<|c0 (aV<|aN<|aI 3)<|c0 (aV<|aN<|aI 3)<|c0 (aV<|aN<|aI 3)<|c0 (aV<|aN<|aI 4)<|c0 (dY [] []<|aN<|aI 4) aO),rfl}
def bI:(List D->Option D)->Sv:=by exists oA
def jC:=eK 6 bI 16
def oG:Zt "_law_number" ["script"] 1 3:=gN ["script", "n", "cell"] 68 λT s F B z=>by exact{_,(c0 (aI 1)<|c0 (dY [] []<|aN<|aI 1<|bN iP (PD.b<|bN eI (PD.b<|bN cN (by trivial)<|by trivial)<|by trivial)<|by trivial) aO),rfl}
def nX:Sv:=by exists oG
def jE:=bA 3 nX
def A8:Zt "counts" ["book", "heads", "part"] 37 5:=gN ["book", "heads", "part", "atlas", "node"] 29 λT s F z B=>by have:=fx dN<|eW.2 T;have:=fx b7<|gF.2 T;exact{_,(c0 (aI 3<|kC (β:=eC .non) (oO T) (z.mono<|by decide) rfl<|by trivial)<|c0 (aI 4<|kC (β:=aD 0) (pB T 16) (z.mono<|by decide) rfl<|by trivial)<|aO<|PF.d<|fH s ["kind", "atlas", "node", "heads"] [bz,bw 3,bw 4,bw 1] (by trivial) (by intros;trivial) (by intros;trivial) λ_ _ _ _=>(cD (fx dN<|eW.2 T) (z.mono<|by decide) (nS (cD (fx b7<|gF.2 T) (z.mono<|by decide) (nS (by trivial)<|nS (by trivial)<|nS (PF.d<|qk (lM rfl z.units) T.n My.boot_dict<|by trivial)<|by trivial)<|lc<|lc<|lc<|lc l0)<|by trivial)<|lc l0)),rfl}
def BL:Sv:=by exists A8
def C2:=bA 5 BL
def qW:Zt "_law_whole" ["found"] 1 1:=gN ["found"] 69 λT s F B z=>by exact{_,aO,rfl}
def AZ:Sv:=by exists qW
def qK:=bA 1 AZ
def BI:Zt "parted" ["n", "many"] 1 5:=gN ["n", "many", "numbers", "rest", "size"] 34 λT s G B z=>by exact{_,(cO [2] (eS 2)<|cO [2] (aI 3)<|c0 (dY [2] []<|cO [2] (D6 (i:=2) (pv 2) (by trivial) (by trivial) rfl<|yG zdi PySem.F.slot_list_insert PySem.F.type_list_insert My.KZ (pv 2)<|cR (PD.pe<|by trivial)<|cR (PD.pe<|by trivial) fK)<|aN<|aI 3<|bN HU (by trivial)<|by trivial) aO),rfl}
def BP:Sv:=by exists BI
def vM:=bA 5 BP
abbrev Zv2(x:Str)(ps:List Str)(k n:Nat):Type:={b:(List D->Option D)->Sv // ∀ {P:zai} {w:World} {K:zae} {mg:Str->Option Value} {base:Heap},Tx P w K mg base->∀(R:List D->Option D) (j:Nat),k<=j->Fn P w K mg base "told_at" j ["atlas", "node", "heads", "kind", "n"] R->Fn P w K mg base x (j+1) ps (bA n<|b R)}
def V3(N:List Str)(i:Nat){x:Str}{ps:List Str}{k:Nat}{b:(List D->Option D)->Sv}(h:∀ {P:zai} {w:World} {K:zae} {mg:Str->Option Value} {base:Heap} {F:Addr} {B:Value} {A:zan} {z:List Env} {H:Hp} {E:XK} (T:Tx P w K mg base) (R:List D->Option D) (j:Nat) (M:k<=j) (ih:Fn P w K mg base "told_at" j ["atlas", "node", "heads", "kind", "n"] R) (s:zac) (nd:N.Nodup) (G:Room (j)<|A.deeper<|zaK x (aK<|top i) s.heap.objs.size F B) (hu:(A.deeper<|zaK x (aK<|top i) s.heap.objs.size F B).units+1<cLine),∃g,eL (i8 wK P w K mg base N x (aK<|top i) F B A z s H E).nox {[],[]} [] (bM<|top i) g []/\g=b R)(U:(x,i,ps)∈tab:=by decide +kernel)(sc:FnScope N ps<|aK<|top i:=by exact{rfl,rfl,rfl,by decide +kernel,rfl,by decide +kernel,by decide +kernel}):Zv2 x ps k N.length:={b,λT R j M ih=>DD (T.d _ U) sc λF B A z s H E G=>h T R j M ih s sc.nd G<|pM G}
local macro_rules | `(tactic|exists $x:ident) => `(tactic|(refine' (?f:∀y:(List D -> Option D) -> Sv, zcU $x = y -> (List D -> Option D) -> Sv) _ ?h;(case h => unfold $x;(try unfold V3);(try unfold AG);(try unfold LA);(try dsimp only);try exact rfl);(case f => exact λy _ => y)))
def mP:Zv2 "told_choice" ["atlas", "node", "heads", "kind", "choice", "n"] 37 12:=V3 ["atlas", "node", "heads", "kind", "choice", "n", "places", "routes", "numbers", "readings", "number", "spot"] 32 λT R j B ih s G F z=>by have:=fx eU<|k9.2 T;have:=fx vM<|BI.2 T;have:=fx mJ<|zF.2 T;have:=fx gB<|pD.2 T;have:=fx a7<|e8.2 T;exact{_,(c0 (aI 6)<|c0 (aI 7)<|c0 (aI 8)<|cO [9] (eS 9)<|c0 (dY [9] []<|aN<|mB 9) aO),rfl}
def fZ:(List D->Option D)->Sv:=by exists mP
def pY:Zw "told_at" ["atlas", "node", "heads", "kind", "n"] 37 8 16:=LA ["atlas", "node", "heads", "kind", "n", "rest", "choice", "many"] 31 λT R j B F ih s M N G=>by have:=fx dO<|fA.2 T b7 _ (by decide)<|fx b7<|gF.2 T;have:=fx dU<|iV.2 T;have:=fx dN<|eW.2 T;have z:=fx (bA 12<|fZ R)<|mP.2 T R j B ih;exact{_,(c0 (aI 5)<|c0 (dY [] []<|c0 (aI 7)<|c0 (aV aO)<|aN<|aI 5) Z2),rfl}
def fW:(List D->Option D)->Sv:=by exists pY
def pW:=eK 8 fW 16
def P9:Zt "told" ["book", "heads", "part", "kind", "n"] 71 5:=gN ["book", "heads", "part", "kind", "n"] 30 λT s F z B=>by have:=fx pW<|pY.2 T;exact{_,(c0 qaw<|aO<|cD (fx pW<|pY.2 T) (z.mono<|by decide) (nS (kC (β:=eC .non) (oO T) (z.mono<|by decide) rfl<|by trivial)<|nS (kC (β:=aD 0) (pB T 16) (z.mono<|by decide) rfl<|by trivial)<|nS (PF.d<|qk (lM rfl z.units) T.n My.boot_dict<|by trivial)<|by trivial)<|lc<|lc<|lc<|lc<|lc l0),rfl}
def ON:Sv:=by exists P9
def FH:=bA 5 ON
def VU:{b:Sv // ∀ {P:zai} {w:World} {K:zae} {mg:Str->Option Value} {base:Heap},Tx P w K mg base->ZOk P w K mg base ["script", "tome", "names", "pairs", "state", "part", "kind", "best", "first", "size", "cost", "n", "some", "one", "other"] "law" s_law 71 b}:={_,λT G B A z s H E F=>by have M:=pM F;have N:=sc_law.nd;have:=fx tV<|uH.2 T;have:=fx C2<|A8.2 T;have:=fx nB<|t6.2 T;have:=fx b8<|dP.2 T;have:=fx lE<|qX.2 T;have:=fx k7<|rJ.2 T;have:=fx cM<|jM.2 T;have:=fx jE<|oG.2 T;have:=fx jC<|oA.2 T;have:=fx qK<|qW.2 T;have:=fx qQ<|qT.2 T;have:=fx FH<|P9.2 T;exact{_,(c0 (aI 1)<|c0 (j7 2 s ["k", "script"] [bz,bw 0])<|c0 (aI 3)<|c0 (aI 4)<|c0 (aI 5)<|c0 (aI 6)<|c0 (aI 7)<|c0 (aI 8)<|c0 (aI 9)<|c0 (aI 10)<|c0 (aV aO)<|c0 (aI 11)<|c0 (aI 12<|PF.d<|QA (nS (by trivial)<|nS (bN iP (PD.b<|bN HU (by trivial)<|by trivial)<|by trivial)<|by trivial) λρ ds h=>(by have:=(lc<|lc<|lc<|lc l0) ρ ds h;lia))<|c0 (dY [] []<|c0 (aI 14)<|aN<|aV aO) aO),rfl}}
def QI:Sv:=by exists VU
def d8(ns:List Int):∃f:Int->Int,∀k:Int,0<=k->k<=1000->b8 [.lst<|ns.map .int,.int k]=bw (.int<|f k)/\0<=f k/\f k<10^60:=by
 have h:∀k:Int,∃c:Int,0<=k->k<=1000->b8 [.lst<|ns.map .int,.int k]=bw (.int c)/\0<=c/\c<10^60:=λk=>by
  by_cases U:0<=k
  .by_cases h1:k<=1000
   .by_cases F:k<(ns.length:Int)
    .obtain⟨c,N,_⟩:=gW U F
     have c0:=zat c (show(10^60:Int)≠0 by decide +kernel);have M:=zaw c (show(0:Int)<10^60 by decide +kernel);refine{c%10^60,λ_ _=>{aF ?_,c0,M}};simp_all[jL,aE,F,N,IN,bU]
    .have fin:∀y:Int,(0<=y%2147483647/11)/\y%2147483647/11<10^60:=λy=>by
      have a:=zat y (show(2147483647:Int)≠0 by decide);have b:=zaw y (show(0:Int)<2147483647 by decide);generalize y%2147483647=z at a b;have:(10:Int)^60=1000000000000000000000000000000000000000000000000000000000000:=by decide +kernel
      lia
     have m1:cV (.int k) (.int k)=bw (.int<|k*k):=cG (by lia) (by lia) (by lia) (by lia);have W:=FD (show -(10000:Int)<k by lia) (show k<10000 by lia) (show -(10000:Int)<k by lia) (show k<10000 by lia);generalize k*k=p at m1 W;by_cases G:(0:Int)<(ns.length:Int)
     .have B:0<ns.length:=by lia
      have m5:cV (.int 5) (.int k)=bw (.int<|5*k):=cG (by decide +kernel) (by decide +kernel) (by lia) (by lia);have i0:=zat k<|zaU G;have i1:=zaw k G;obtain⟨c,N,_⟩:=gW i0 i1;have c0:=zat c (show(1000003:Int)≠0 by decide);have M:=zaw c (show(0:Int)<1000003 by decide);generalize hx:c%1000003=x at c0 M;have m3:cV (.int<|5*k) (.int x)=bw (.int<|5*k*x):=cG (by lia) (by lia) (by lia) (by lia);have Y:=FD (show -(100000:Int)<5*k by lia) (show 5*k<100000 by lia) (show -(1000000000:Int)<x by lia) (show x<1000000000 by lia);generalize 5*k*x=y at m3 Y;have m4:cV (.int<|3+p+y) (.int 69621)=bw (.int<|(3+p+y)*69621):=cG (by lia) (by lia) (by decide +kernel) (by decide +kernel);refine{(3+p+y)*69621%2147483647/11,λ_ _=>{aF ?_,(fin _).1,(fin _).2}};simp_all[jL,aE,F,m1,B,m5,N,bU G,bU,i5,hx,m3,m4]
     .have B:¬ 0<ns.length:=by lia
      have m4:cV (.int<|3+p) (.int 69621)=bw (.int<|(3+p)*69621):=cG (by lia) (by lia) (by decide +kernel) (by decide +kernel);refine{(3+p)*69621%2147483647/11,λ_ _=>{aF ?_,(fin _).1,(fin _).2}};simp_all[jL,aE,F,m1,B,bU,i5,m4]
   .exact{0,λ_ z=>absurd z h1}
  .exact{0,λz=>absurd z U}
 exact{λk=>(h k).choose,λk=>(h k).choose_spec}
def TB{ss:List Str}(h:∀s∈ss,∃n,s={#[n]}):(ss.map (·.length)).sum=ss.length:=by
 induction ss with
 |nil=>rfl
 |cons s ss ih=>
  obtain⟨n,rfl⟩:=h s<|zar ..;rw[zaj,za5,ih λt z=>h t<|zaq _ z,zaB];show 1+ss.length=ss.length+1
  lia
def gP(n:Nat):aS 0 1 n=((zau n).map λ(j:Nat)=>(j:Int)).map D.int:=by
 unfold aS;rw[zas];refine List.map_congr_left λa _=>?_
 show D.int _=D.int _;have:(0:Int)+(a:Int)*1=(a:Int):=by lia
 rw[this]
noncomputable def sg(S:Str)(i:Int):Nat:=S.cps.toList.getD i.toNat 0
def RM(G:z.length<=1000)(M:0<=i)(h:i<(z.length:Int)):aL (.str z) (.int i)=bw (.str {#[sg z i]}):=by
 obtain⟨j,rfl⟩:∃j:Nat,i=(j:Int):={i.toNat,by lia};have B:j<z.cps.toList.length:=by rw[zbY];show j<z.length;lia
 have e:hW z.cps.toList (j:Int)=bw z.cps.toList[j]:=bY (by simp_all[B]);have F:sg z (j:Int)=z.cps.toList[j]:=by
  unfold sg;rw[zbC,zdm,zaG B];rfl
 rw[F];show(if a9 z.length then(hW z.cps.toList (j:Int)).map (λc=>D.str {#[c]})else bz)=_;rw[ci<|show a9 z.length=ca from decide_eq_true<|by lia,e];rfl
theorem join_ones:∀l:List Nat,(zcV ""<|l.map λg=>({#[g]}:Str)).cps.toList=l
 |[]=>rfl
 |[g]=>rfl
 |g::g'::l=>by
  have ih:=join_ones<|g'::l;show(({#[g]}:Str) ++ "" ++ zcV "" ((g'::l).map λg=>({#[g]}:Str))).cps.toList=_;have e:∀a b:Str,(a++b).cps=a.cps++b.cps:=λ_ _=>rfl
  rw[e,e,zdY,zdY,ih];rfl
def N5:Txt.join sep ys=zcV sep ys:=by
 have:=join_closes (sep:=sep) (sep':=sep) (ys:=ys) rfl;simpa using this
def MM(l:List Nat):((l.map λg=>({#[g]}:Str)).map (·.length)).sum=l.length:=by
 rw[TB (ss:=l.map λg=>({#[g]}:Str)) λs hs=>by obtain⟨g,_,rfl⟩:=List.mem_map.mp hs;exact{g,rfl},zak]
noncomputable def S1:Str := "abcdfghjklmnopqrstuvwxyz"
noncomputable def S2:Str := "abcdfghjklmnopqrstuvwxyz" ++ "ei"
def FI:S1.length=24:=by decide +kernel
def O8:S2.length=26:=by decide +kernel
def qac:S1.cps.toList.Nodup:=by decide +kernel
def qab:S2.cps.toList.Nodup:=by decide +kernel
def O7(h:S.cps.toList.Nodup)(M:0<=i)(N:i<(S.length:Int))(G:0<=j)(U:j<(S.length:Int))(e:sg S i=sg S j):i=j:=by
 have F:i.toNat<S.cps.toList.length:=by rw[zbY];show i.toNat<S.length;lia
 have B:j.toNat<S.cps.toList.length:=by rw[zbY];show j.toNat<S.length;lia
 unfold sg at e;rw[zdm,zaG F,zdm,zaG B]at e;have z:S.cps.toList[i.toNat]=S.cps.toList[j.toNat]:=e;have:=(zd9 h).mp z
 lia
def NmP(x n:Int)(s:Str):Prop:=(x%3=0->(s.length:Int)=1+n%8)/\(¬ x%3=0->∃(S:Str) (L a b:Int),((S=S1/\L=24/\¬ 5<1+x/3%8)\/(S=S2/\L=26/\5<1+x/3%8))/\a=x/24%(1+x/3%8)/\b=(x/(31+7*a)+a*a)%L/\s.cps.toList[a.toNat]?=bw (sg S<|(b+n)%L))
def YX(U:0<=n/\n<=7)(hm:0<=m/\m<=7)(a:NmP x n s)(b:NmP x m s):n=m:=by
 by_cases h:x%3=0
 .have:=a.1 h
  have:=b.1 h
  lia
 .obtain⟨S,L,p,q,N,rfl,rfl,e⟩:=a.2 h
  obtain⟨S',Y,p',W,B,rfl,rfl,M⟩:=b.2 h;rw[e]at M;have G:=zaz M;rcases N with⟨rfl,rfl,z⟩|⟨rfl,rfl,z⟩
  .rcases B with⟨rfl,rfl,F⟩|⟨rfl,rfl,F⟩
   .generalize (x/(31+7*(x/24%(1+x/3%8)))+x/24%(1+x/3%8)*(x/24%(1+x/3%8)))%24=q at G
    have l:=FI;have:=O7 qac (zat _<|by decide) (by rw[l];exact zaw _<|by decide) (zat _<|by decide) (by rw[l];exact zaw _<|by decide) G
    lia
   .exact absurd F z
  .rcases B with⟨rfl,rfl,F⟩|⟨rfl,rfl,F⟩
   .exact absurd z F
   .generalize (x/(31+7*(x/24%(1+x/3%8)))+x/24%(1+x/3%8)*(x/24%(1+x/3%8)))%26=q at G
    have l:=O8;have:=O7 qab (zat _<|by decide) (by rw[l];exact zaw _<|by decide) (zat _<|by decide) (by rw[l];exact zaw _<|by decide) G
    lia
def qO(h0:0<=n)(h1:n<=1000):∃s:Str,cM [.int c,.int n]=bw (.str s)/\NmP (c%10^9) n s:=by
 suffices h:∃d,cM [.int c,.int n]=bw d/\∃s:Str,d=.str s/\NmP (c%10^9) n s by
  obtain⟨d,e,s,rfl,h⟩:=h;exact⟨s,e,h⟩
 refine eD ?_;unfold uV;have c0:=zat c (show(10^9:Int)≠0 by decide);have c1:=zaw c (show(0:Int)<10^9 by decide);rw[aH<|aM (d:=.int<|c%10^9)<|by ac_rfl];generalize c%10^9=x at c0 c1;have m0:=zat (x/3) (show(8:Int)≠0 by decide);have m1:=zaw (x/3) (show(0:Int)<8 by decide);rw[aH<|aM (d:=.int<|1+x/3%8)<|by ac_rfl];generalize hm:1+x/3%8=many;rw[aH<|aM (d:=.str "abcdfghjklmnopqrstuvwxyz")<|by simp_all];refine gR (λρ=>∃(S:Str) (L:Int),(S.length:Int)=L/\24<=L/\L<=26/\(x%3=0\/(S=S1/\L=24/\¬ 5<many)\/(S=S2/\L=26/\5<many))/\ρ=[bw<|.int x,bw<|.int n,bw<|.int many,bw<|.str S,bz,bz]) ?_ ?_
 .have x0:=zat x (show(3:Int)≠0 by decide)
  by_cases M:0<x%3
  .by_cases h5:5<many
   .refine{_,?_,S2,26,by rw[O8];rfl,by decide,by decide,.inr<|.inr {rfl,rfl,h5},rfl}
    have z:a9 (("abcdfghjklmnopqrstuvwxyz" : Str).length+("ei" : Str).length)=ca:=by decide
    ac_rfl
   .exact{_,by ac_rfl,S1,24,by rw[FI];rfl,by decide,by decide,.inr<|.inl {rfl,rfl,h5},rfl}
  .exact{_,by ac_rfl,S1,24,by rw[FI];rfl,by decide,by decide,.inl<|by lia,rfl}
 .rintro ρ ⟨S,L,ac,s1,s2,hS,rfl⟩
  have sL:hZ [.str S]=bw (.int L):=by rw[<- ac];exact ci<|decide_eq_true<|by lia
  have sp:(0:Int)<L:=by lia
  have sl:(S.length:Int)=L:=ac;have r8:cQ [.int 8]=bw (aS 0 1 8):=dC (n:=8) (by decide);have el:bD (aQ 0) fP (bF dZ (bF eE (bF i7 (aD 1)<|bF eE (eC<|.int 31)<|bF cV (eC<|.int 7)<|aD 0)<|bF cV (aD 0)<|aD 0)<|aR hZ<|aC (aD 2) aX) (aS 0 1 8) [bz,bw<|.int x,bw<|.str S]=bw (((zau 8).map λ(k:Nat)=>(x/(31+7*(k:Int))+(k:Int)*(k:Int))%L).map .int):=by
   have:=lN (K:=8) (f:=bF dZ (bF eE (bF i7 (aD 1)<|bF eE (eC<|.int 31)<|bF cV (eC<|.int 7)<|aD 0)<|bF cV (aD 0)<|aD 0)<|aR hZ<|aC (aD 2) aX) (rest:=[bw<|.int x,bw<|.str S]) (F:=λi=>.int<|(x/(31+7*i)+i*i)%L) (λi i0 i1=>by
    have q1:cV (.int 7) (.int i)=bw (.int<|7*i):=cG (by decide +kernel) (by decide +kernel) (by lia) (by lia);have q2:cV (.int i) (.int i)=bw (.int<|i*i):=cG (by lia) (by lia) (by lia) (by lia);have q3:i7 (.int x) (.int<|31+7*i)=bw (.int<|x/(31+7*i)):=i5 (by lia)<|by lia
    ac_rfl) (zau 8) bz λk hk=>List.mem_range.mp hk
   rw[zas];have er:aS 0 1 8=(zau 8).map λ(k:Nat)=>D.int (k:Int):=by
    rw[gP,zas];rfl
   rw[er];exact this
  have ab:∀i∈(zau 8).map λ(k:Nat)=>(x/(31+7*(k:Int))+(k:Int)*(k:Int))%L,0<=i/\i<L:=λi hi=>by
   obtain⟨k,_,rfl⟩:=List.mem_map.mp hi;exact{zat _<|zaU sp,zaw _ sp}
  have aa:∀a:Int,0<=a->a<8->((zau 8).map λ(k:Nat)=>(x/(31+7*(k:Int))+(k:Int)*(k:Int))%L)[a.toNat]?=bw ((x/(31+7*a)+a*a)%L):=λa a0 a8=>by
   obtain⟨j,rfl⟩:∃j:Nat,a=(j:Int):={a.toNat,by lia};rw[zbC,zav,zdc<|by lia];rfl
  have W:((zau 8).map λ(k:Nat)=>(x/(31+7*(k:Int))+(k:Int)*(k:Int))%L).length=8:=by simp_all
  rw[aH<|aM (d:=.lst<|((zau 8).map λ(k:Nat)=>(x/(31+7*(k:Int))+(k:Int)*(k:Int))%L).map .int)<|by
   simp only[q_comp,q_lR,q_lcons,q_lnil,q_c,aA,r8,bL,a9,kK];exact congrArg (Option.map D.lst) el]
  generalize ((zau 8).map λ(k:Nat)=>(x/(31+7*(k:Int))+(k:Int)*(k:Int))%L)=is at ab aa W;refine gR (λρ=>∃(B:List Int) (m:Int) (o:Option D),0<=m/\m<=8/\B.length=8/\(∀j∈B,0<=j/\j<L)/\(x%3=0->m=1+n%8)/\(¬ x%3=0->m=many/\B[(x/24%many).toNat]?=bw (((x/(31+7*(x/24%many))+(x/24%many)*(x/24%many))%L+n)%L))/\ρ=[bw<|.int x,bw<|.int n,bw<|.int m,bw<|.str S,bw<|.lst<|B.map .int,o]) ?_ ?_
  .have put:∀k y:Int,0<=k->k<8->(is.set k.toNat<|y%L).length=8/\(∀j∈is.set k.toNat (y%L),0<=j/\j<L)/\nQ (.lst<|is.map .int) (.int k) (.int<|y%L)=bw (.lst<|(is.set k.toNat<|y%L).map .int):=λk y k0 k8=>by
    refine{by simp_all[W],λj U=>?_,?_}
    .rcases List.mem_or_eq_of_mem_set U with z|z
     .exact ab j z
     .rw[z];exact{zat _<|zaU sp,zaw _ sp}
    .rw[nM k0<|by simp_all[W];lia,List.map_set]
   by_cases M:x%3=0
   .have n0:=zat n (show(8:Int)≠0 by decide)
    have n1:=zaw n (show(0:Int)<8 by decide);obtain⟨v,hv,_⟩:=gW (ns:=is) (k:=1+n%8-1) (by lia) (by rw[W];lia);obtain⟨j8,U,ej⟩:=put (1+n%8-1) (v+n/8) (by lia) (by lia);refine{_,?_,is.set (1+n%8-1).toNat<|(v+n/8)%L,1+n%8,bz,by lia,by lia,j8,U,λ_=>rfl,λz=>absurd M z,rfl}
    ac_rfl
   .have Y:0<many:=by lia
    have a0:=zat (x/24)<|zaU Y;have a1:=zaw (x/24) Y;have ha:=aa (x/24%many) a0 (by lia);obtain⟨v,hv,G⟩:=gW (ns:=is) (k:=x/24%many) a0 (by rw[W];lia);rw[ha]at G;have aj:=zaz G;obtain⟨j8,U,ej⟩:=put (x/24%many) (v+n) a0 (by lia);refine{_,?_,is.set (x/24%many).toNat<|(v+n)%L,many,bw<|.int<|x/24%many,by lia,by lia,j8,U,λz=>absurd z M,λ_=>{rfl,?_},rfl}
    .ac_rfl
    .rw[zcH (by rw[W];lia),aj]
  .rintro ρ ⟨B,m,o,m0,m8,j8,U,hA,hB,rfl⟩
   have rm:cQ [.int m]=bw (aS 0 1 m.toNat):=eQ m0 (by lia);have ed:=lN (K:=m.toNat) (f:=bF aL (aD 1)<|bF aL (aD 2)<|aD 0) (rest:=[bw<|.str S,bw<|.lst<|B.map .int]) (F:=λi=>.str {#[sg S<|B.getD i.toNat 0]}) (λi i0 i1=>by
    obtain⟨v,hv,G⟩:=gW (ns:=B) (k:=i) i0 (by rw[j8];lia);have b:=U v<|zap G;have e:B.getD i.toNat 0=v:=by rw[zdm,G];rfl
    have az:=RM (z:=S) (by lia) b.1 (by rw[sl];exact b.2);rw[e]
    ac_rfl) (zau m.toNat) bz λk hk=>List.mem_range.mp hk
   have er:aS 0 1 m.toNat=(zau m.toNat).map λ(k:Nat)=>D.int (k:Int):=by
    rw[gP,zas];rfl
   have es:((zau m.toNat).map λ(k:Nat)=>D.str {#[sg S<|B.getD ((k:Int)).toNat 0]})=(((zau m.toNat).map λ(k:Nat)=>sg S<|B.getD k 0).map λg=>({#[g]}:Str)).map .str:=by
    rw[zas,zas];rfl
   rw[<- er,es]at ed;have hl:((zau m.toNat).map λ(k:Nat)=>sg S<|B.getD k 0).length=m.toNat:=by simp_all
   have N:∀a:Int,0<=a->a<m->((zau m.toNat).map λ(k:Nat)=>sg S<|B.getD k 0)[a.toNat]?=bw (sg S<|B.getD a.toNat 0):=λa a0 am=>by
    rw[zav,zdc<|by lia];rfl
   generalize ((zau m.toNat).map λ(k:Nat)=>sg S<|B.getD k 0)=gs at ed hl N;have jn:=XW (sep := "") (ss:=gs.map λg=>({#[g]}:Str)) (by
    rw[MM,zak];show gs.length+gs.length*0<=_
    lia)
   rw[N5]at jn;have zz:a9 m.toNat=ca:=decide_eq_true (by lia);have jo:=join_ones gs;generalize (gs.map λg=>({#[g]}:Str))=ss at ed jn jo;refine{.str<|zcV "" ss,?_,_,rfl,λM=>?_,λM=>?_}
   .simp_all[rm,bL,zz,kK,ed,jn]
   .have e1:=hA M
    have:(zcV "" ss).length=m.toNat:=by
     show(zcV "" ss).cps.size=_;rw[<- zbY,jo,hl]
    lia
   .obtain⟨em,ej⟩:=hB M
    have ad:(S=S1/\L=24/\¬ 5<many)\/(S=S2/\L=26/\5<many):=hS.resolve_left M;have Y:0<many:=by lia
    have a0:=zat (x/24)<|zaU Y;have a1:=zaw (x/24) Y;rw[<- hm]at ad em ej a0 a1;refine{S,L,_,_,ad,rfl,rfl,?_};rw[jo,N _ a0<|by lia,zdm,ej];rfl
def t8(z:0<=n)(h1:n<=1000):∃s:Str,cM [.int c,.int n]=bw (.str s):=by
 obtain⟨s,h,_⟩:=qO (c:=c) z h1;exact⟨s,h⟩
def TF(c:Int):∃f:Int->Str,(∀n,0<=n->n<=7->cM [.int c,.int n]=bw (.str<|f n))/\∀n m,(0<=n/\n<=7)->(0<=m/\m<=7)->f n=f m->n=m:=by
 have h:∀n:Int,∃s:Str,0<=n->n<=7->cM [.int c,.int n]=bw (.str s)/\NmP (c%10^9) n s:=λn=>by
  by_cases F:0<=n/\n<=7
  .obtain⟨s,e,p⟩:=qO (c:=c) (n:=n) F.1 (by lia)
   exact{s,λ_ _=>⟨e,p⟩}
  .exact{"",λa b=>absurd ⟨a,b⟩ F}
 refine{λn=>(h n).choose,λn a b=>((h n).choose_spec a b).1,λn m z B e=>?_};have p:=((h n).choose_spec z.1 z.2).2;have q:=((h m).choose_spec B.1 B.2).2;have G:(h n).choose=(h m).choose:=e;rw[G]at p;exact YX z B p q
def qN(G:0<=c)(h1:c<10^61):∃p:Int,kZ [.int c]=bw (.int p)/\0<=p/\p<=10^30:=by
 have B:(10:Int)^30=1000000000000000000000000000000:=by decide +kernel
 by_cases h:c%2=0
 .have a:=zat (c/2) (show(3:Int)≠0 by decide)
  have b:=zaw (c/2) (show(0:Int)<3 by decide);exact{c/2%3,aF<|by simp_all[kX,aE,bU,i5,h],a,by lia}
 .have F:cV (.int<|c/2) (.int 982451653)=bw (.int<|c/2*982451653):=cG (by lia) (by lia) (by decide +kernel) (by decide +kernel)
  have a:=zat (c/2*982451653) (show(1000000000000000000000000000000:Int)≠0 by decide);have b:=zaw (c/2*982451653) (show(0:Int)<1000000000000000000000000000000 by decide);have pw:QX (.int 10) (.int 30)=bw (.int 1000000000000000000000000000000):=IN (by decide) (by decide) (by decide);have z:dZ (.int<|c/2*982451653) (.int 1000000000000000000000000000000)=bw (.int<|c/2*982451653%1000000000000000000000000000000):=bU (by decide);exact{_,aF<|by simp_all[kX,aE,bU,i5,h,F,pw,z],a,by lia}
def uT(hM:3<=M)(h0:0<=c)(h1:c<10^60):∃r:Ro,nD [.int c,.int M,.int j,.int k]=bw (mU r)/\r.j=j/\r.k=k/\((0<=r.a/\r.a<M)/\0<=r.b/\r.b<M)/\0<=r.p/\r.p<=10^30:=by
 suffices h:∃d,nD [.int c,.int M,.int j,.int k]=bw d/\∃r:Ro,d=mU r/\r.j=j/\r.k=k/\((0<=r.a/\r.a<M)/\0<=r.b/\r.b<M)/\0<=r.p/\r.p<=10^30 by
  obtain⟨d,e,r,rfl,h⟩:=h;exact⟨r,e,h⟩
 have Y:=Ten
 have z:0<M:=by lia
 refine eD ?_;unfold t5;have m1:cV (.int<|c/40+1) (.int 48271)=bw (.int<|(c/40+1)*48271):=cG (by lia) (by lia) (by decide +kernel) (by decide +kernel);have m2:cV (.int<|c/640) (.int 69621)=bw (.int<|c/640*69621):=cG (by lia) (by lia) (by decide +kernel) (by decide +kernel);have a0:=zat ((c/40+1)*48271)<|zaU z;have G:=zaw ((c/40+1)*48271) z;have F:=zat (c/9+c/640*69621)<|zaU z;have B:=zaw (c/9+c/640*69621) z;rw[aH<|aM (d:=.int<|(c/40+1)*48271%M)<|by ac_rfl];rw[aH<|aM (d:=.int<|(c/9+c/640*69621)%M)<|by ac_rfl];generalize (c/40+1)*48271%M=a at a0 G;generalize (c/9+c/640*69621)%M=b at F B;refine gR (λρ=>∃a:Int,(0<=a/\a<M)/\ρ=[bw<|.int c,bw<|.int M,bw<|.int j,bw<|.int k,bw<|.int a,bw<|.int b]) ?_ ?_
 .by_cases h:c%5=0
  .exact{_,by ac_rfl,1,{by decide,by lia},rfl}
  .exact{_,by ac_rfl,a,⟨a0,G⟩,rfl}
 .rintro ρ ⟨a,U,rfl⟩
  refine gR (λρ=>∃b:Int,(0<=b/\b<M)/\ρ=[bw<|.int c,bw<|.int M,bw<|.int j,bw<|.int k,bw<|.int a,bw<|.int b]) ?_ ?_
  .by_cases h:c%3=0
   .exact{_,by ac_rfl,0,{by decide,by lia},rfl}
   .exact{_,by ac_rfl,b,{F,B},rfl}
  .rintro ρ ⟨b,hb,rfl⟩
   obtain⟨p,ep,W,N⟩:=qN (c:=c/16) (by lia) (by lia);exact{mU ⟨j,k,a,b,p⟩,by simp_all[i5,ep,mU],_,rfl,rfl,rfl,{U,hb},W,N}
def A4{ns:List Int}{M many:Int}(hM:3<=M)(hm:1<=many/\many<=6):∃rs:List Ro,lA [.lst<|ns.map .int,.int M,.int many]=bw (.tup<|rs.map mU)/\GR M many rs:=by
 suffices h:∃d,lA [.lst<|ns.map .int,.int M,.int many]=bw d/\∃rs:List Ro,d=.tup (rs.map mU)/\GR M many rs by
  obtain⟨d,e,r,rfl,h⟩:=h;exact⟨r,e,h⟩
 obtain⟨f,hf⟩:=d8 ns;have f2:=(hf 2 (by decide)<|by decide).1;refine eD ?_;unfold rU;rw[aH<|aM (d:=.int<|f 2)<|by ac_rfl];generalize f 2=c2;rw[aH<|aM (d:=.lst [])<|by simp_all];have z0:=zat c2 (show(7:Int)≠0 by decide);have z1:=zaw c2 (show(0:Int)<7 by decide);refine j9 (items:=aS 0 1 (c2%7).toNat) (by simp_all[aE,bU,eQ z0<|show c2%7<=1000000 by lia]) (λi ρ=>∃(rs:List Ro) (W Y U N:Option D),ρ=[bw<|.lst<|ns.map .int,bw<|.int M,bw<|.int many,bw<|.int c2,bw<|.lst<|rs.map mU,W,Y,U,N]/\rs.length<=i/\i<=6/\GR M many rs) {[],bz,bz,bz,bz,by ac_rfl,by simp_all,by decide,{by simp_all,λ_ h=>(nomatch h),λ_ h=>(nomatch h),λ_ h=>(nomatch h)}} ?_ ?_
 .rintro i x ρ hx ⟨rs,W,Y,U,N,rfl,hl,hi,g⟩
  obtain⟨ag,rfl⟩:=cA hx;have hI:0<=(0:Int)+(i:Int)*1/\(0:Int)+(i:Int)*1<=6:=by lia
  generalize (0:Int)+(i:Int)*1=I at hI;have G:=hf (3+I) (by lia) (by lia);generalize f (3+I)=near at G;have f1:=G.1;by_cases h1:1<many
  .have F:0<many-1:=by lia
   have j0:=zat near<|zaU F;have j1:=zaw near F;have dj:dZ (.int near) (.int<|many-1)=bw (.int<|near%(many-1)):=bU F;generalize near%(many-1)=j at j0 j1 dj;have kp:0<many-1-j:=by lia
   have k0:=zat (near/8)<|zaU kp;have k1:=zaw (near/8) kp;have dk:dZ (.int<|near/8) (.int<|many-1-j)=bw (.int<|near/8%(many-1-j)):=bU kp;generalize near/8%(many-1-j)=k at k0 k1 dk;have u0:=zat I<|zaU F;have u1:=zaw I F;have du:dZ (.int I) (.int<|many-1)=bw (.int<|I%(many-1)):=bU F;generalize I%(many-1)=u at u0 u1 du;have hz:(rs.map mU).length<=1000000:=by rw[zak];lia
   have dg:DF (.int many) (.int 1)=bw (.bl ca):=by simp_all[h1]
   have me:∀r,(rs++[r]).map mU=rs.map mU++[mU r]:=λr=>by simp_all
   have fin:∀r:Ro,(0<=r.j/\r.j<r.k/\r.k<many)->((0<=r.a/\r.a<M)/\0<=r.b/\r.b<M)->(0<=r.p/\r.p<=10^30)->GR M many (rs++[r]):=λr a b c=>by
    have app:∀ {P:Ro->Prop},(∀r∈rs,P r)->P r->∀y∈rs++[r],P y:=λh1 h2 y hy=>by
     rcases List.mem_append.mp hy with z|z
     .exact h1 y z
     .rw[List.mem_singleton.mp z];exact h2
    exact{by simp_all;lia,app g.jk a,app g.ab b,app g.pr c}
   by_cases h2:c2/7%2=1
   .obtain⟨r,er,rj,rk,B,rp⟩:=uT (c:=near) (M:=M) (j:=u) (k:=u+1) hM G.2.1 G.2.2
    refine{[bw<|.lst<|ns.map .int,bw<|.int M,bw<|.int many,bw<|.int c2,bw<|.lst<|(rs++[r]).map mU,bw<|.int I,bw<|.int near,bw<|.int u,bw<|.int<|u+1],?_,_,_,_,_,_,rfl,by simp_all;lia,by lia,fin r (by lia) B rp};have de:kQ (.int<|c2/7%2) (.int 1)=bw (.bl ca):=by simp_all[h2]
    rw[me]
    ac_rfl
   .obtain⟨r,er,rj,rk,B,rp⟩:=uT (c:=near) (M:=M) (j:=j) (k:=j+1+k) hM G.2.1 G.2.2
    refine{[bw<|.lst<|ns.map .int,bw<|.int M,bw<|.int many,bw<|.int c2,bw<|.lst<|(rs++[r]).map mU,bw<|.int I,bw<|.int near,bw<|.int j,bw<|.int<|j+1+k],?_,_,_,_,_,_,rfl,by simp_all;lia,by lia,fin r (by lia) B rp};have de:kQ (.int<|c2/7%2) (.int 1)=bw (.bl cf):=by simp_all[h2]
    rw[me]
    ac_rfl
  .refine{[bw<|.lst<|ns.map .int,bw<|.int M,bw<|.int many,bw<|.int c2,bw<|.lst<|rs.map mU,bw<|.int I,bw<|.int near,U,N],?_,rs,_,_,_,_,rfl,by lia,by lia,g}
   have dg:DF (.int many) (.int 1)=bw (.bl cf):=by simp_all[h1]
   ac_rfl
 .rintro ρ ⟨rs,W,Y,U,N,rfl,hl,hi,g⟩
  exact{_,by simp_all,rs,rfl,g}
def rG(hM:3<=M)(U:0<=c)(h1:c<10^60):∃l,lH [.int c,.int M,.int n]=bw (.tup l):=by
 suffices h:∃d,lH [.int c,.int M,.int n]=bw d/\∃l,d=.tup l by
  obtain⟨d,e,l,rfl⟩:=h;exact⟨l,e⟩
 have Y:=Ten
 have Mp:0<M:=by lia
 refine eD ?_;unfold qM;have r3:cQ [.int 3]=bw [.int 0,.int 1,.int 2]:=rfl;have s3:a9 3=ca:=rfl;have s9:a9 9=ca:=rfl;rw[aH<|aM (d:=.lst [.tup [.int 0],.tup [.int 1],.tup [.int 2]])<|by ac_rfl];refine gR (λρ=>∃es:List D,1<=es.length/\es.length<=9/\ρ=[bw<|.int c,bw<|.int M,bw<|.int n,bw<|.lst es,bz,bz,bz,bz]) ?_ ?_
 .by_cases h:n=2
  .subst h
   obtain⟨es,ee,le,_⟩:=zU (f:=fQ<|aC (bF i7 (aD 0)<|eC<|.int 3)<|aC (bF dZ (aD 0)<|eC<|.int 3) aX) (rest:=[]) (R:=λ_=>True) (aS 0 1 9) bz λa ha=>by
    obtain⟨i,rfl,i0,i1⟩:=x8 ha;exact{.tup [.int<|i/3,.int<|i%3],by ac_rfl,trivial}
   have r9:cQ [.int 9]=bw (aS 0 1 9):=dC (n:=9) (by decide);rw[bL]at le;exact{[bw<|.int c,bw<|.int M,bw<|.int 2,bw<|.lst es,bz,bz,bz,bz],by simp_all[aE,r9,s9,kK,bL,ee],es,by lia,by lia,rfl}
  .exact{_,by ac_rfl,[.tup [.int 0],.tup [.int 1],.tup [.int 2]],by simp_all,by simp_all,rfl}
 .rintro ρ ⟨es,e1,e9,rfl⟩
  rw[aH<|aM (d:=.lst [])<|by simp_all];refine j9 (items:=aS 0 1 es.length) (by simp_all[dC<|show es.length<=1000000 by lia]) (λi ρ=>∃(l:List D) (B F N:Option D),ρ=[bw<|.int c,bw<|.int M,bw<|.int n,bw<|.lst es,bw<|.lst l,B,F,N]/\l.length<=i) {[],bz,bz,bz,by simp_all,by simp_all} ?_ ?_
  .rintro i x ρ hx ⟨l,B,F,N,rfl,hl⟩
   obtain⟨W,rfl⟩:=cA hx;have e0:(0:Int)+(i:Int)*1=(i:Int):=by lia
   rw[e0];have hI:(i:Int)<=9:=by lia
   obtain⟨d,_,_,ed⟩:=wC (l:=es) (k:=(i:Int)) (by lia) (by lia);have G:(0:Int)<=(i:Int):=by lia
   generalize (i:Int)=I at hI ed G;have m1:cV (.int I) (.int I)=bw (.int<|I*I):=cG (by lia) (by lia) (by lia) (by lia);have b1:=FD (show -(100:Int)<I by lia) (show I<100 by lia) (show -(100:Int)<I by lia) (show I<100 by lia);have d1:i7 (.int c) (.int<|I+2)=bw (.int<|c/(I+2)):=i5 (by lia) (by lia);have c0:0<=c/(I+2):=Int.ediv_nonneg U (by lia);have c1:c/(I+2)<=c:=Int.ediv_le_self _ U;generalize c/(I+2)=y at d1 c0 c1;generalize I*I=z at m1 b1;have m2:cV (.int<|(y+z)/3+1) (.int 48271)=bw (.int<|((y+z)/3+1)*48271):=cG (by lia) (by lia) (by decide +kernel) (by decide +kernel);have hz:a9 l.length=ca:=decide_eq_true (by lia);by_cases a1:0<(y+z)%3
   .by_cases a2:0<((y+z)/3+1)*48271%M
    .refine{[bw<|.int c,bw<|.int M,bw<|.int n,bw<|.lst es,bw<|.lst<|l++[.tup [d,.int<|((y+z)/3+1)*48271%M]],bw<|.int I,bw<|.int<|y+z,bw<|.int<|((y+z)/3+1)*48271%M],?_,_,_,_,_,rfl,by simp_all;lia}
     ac_rfl
    .refine{[bw<|.int c,bw<|.int M,bw<|.int n,bw<|.lst es,bw<|.lst l,bw<|.int I,bw<|.int<|y+z,bw<|.int<|((y+z)/3+1)*48271%M],?_,_,_,_,_,rfl,by lia}
     ac_rfl
   .refine{[bw<|.int c,bw<|.int M,bw<|.int n,bw<|.lst es,bw<|.lst l,bw<|.int I,bw<|.int<|y+z,bw<|.int<|((y+z)/3+1)*48271%M],?_,_,_,_,_,rfl,by lia}
    ac_rfl
  .rintro ρ ⟨l,B,F,N,rfl,hl⟩
   exact{_,by simp_all,l,rfl}
structure OkMs(many:Int)(ms:List Mk):Prop where
 tk:∀m∈ms,(∃t,m.takes=[t])\/∃t u,m.takes=[t,u]
 tb:∀m∈ms,∀t∈m.takes,0<=t/\t<many
 gb:∀m∈ms,0<=m.g/\m.g<many
 mp:∀m∈ms,0<=m.pr
def AQ{ns:List Int}{M many:Int}(hM:3<=M)(hm:1<=many/\many<=6):∃ms:List Mk,lB [.lst<|ns.map .int,.int M,.int many]=bw (.tup<|ms.map mF)/\OkMs many ms/\ms.length<=6:=by
 suffices h:∃d,lB [.lst<|ns.map .int,.int M,.int many]=bw d/\∃ms:List Mk,d=.tup (ms.map mF)/\OkMs many ms/\ms.length<=6 by
  obtain⟨d,e,r,rfl,h⟩:=h;exact⟨r,e,h⟩
 have aj:=Ten
 have ai:(10:Int)^61=10000000000000000000000000000000000000000000000000000000000000:=by decide +kernel
 obtain⟨f,Y⟩:=d8 ns;have f9:=(Y 9 (by decide)<|by decide).1;have aq:=(Y 15 (by decide)<|by decide).1;have W:0<many:=by lia
 refine eD ?_;unfold qS;rw[aH<|aM (d:=.int<|f 9)<|by ac_rfl];generalize f 9=c9;rw[aH<|aM (d:=.lst [])<|by simp_all];have z0:=zat c9 (show(6:Int)≠0 by decide);have z1:=zaw c9 (show(0:Int)<6 by decide);refine j9 (items:=aS 0 1 (c9%6).toNat) (by simp_all[aE,bU,eQ z0<|show c9%6<=1000000 by lia]) (λi ρ=>∃(ms:List Mk) (U o6 N F G:Option D),ρ=[bw<|.lst<|ns.map .int,bw<|.int M,bw<|.int many,bw<|.int c9,bw<|.lst<|ms.map mF,U,o6,N,F,G]/\ms.length=i/\i<=6/\OkMs many ms) {[],bz,bz,bz,bz,bz,by ac_rfl,rfl,by decide,{λ_ h=>(nomatch h),λ_ h=>(nomatch h),λ_ h=>(nomatch h),λ_ h=>(nomatch h)}} ?_ ?_
 .rintro i x ρ hx ⟨ms,U,o6,N,F,G,rfl,hl,hi,K⟩
  obtain⟨ag,rfl⟩:=cA hx;have hI:0<=(0:Int)+(i:Int)*1/\(0:Int)+(i:Int)*1<=6:=by lia
  generalize (0:Int)+(i:Int)*1=I at hI;have fI:=Y (10+I) (by lia) (by lia);generalize f (10+I)=near at fI;have hz:(ms.map mF).length<=1000000:=by rw[zak];lia
  have n0:=zat (near/2) (show(3:Int)≠0 by decide);have n1:=zaw (near/2) (show(0:Int)<3 by decide);obtain⟨nm,ap⟩:=t8 (c:=f 15) (n:=near/2%3/2) (by lia) (by lia);obtain⟨p,ep,p0,p1⟩:=qN (c:=near/17) (by lia) (by lia);have B:∀y:Int,0<=y%many/\y%many<many:=λy=>{zat _<|zaU W,zaw _ W}
  have fin:∀m:Mk,((∃t,m.takes=[t])\/∃t u,m.takes=[t,u])->(∀t∈m.takes,0<=t/\t<many)->(0<=m.g/\m.g<many)->0<=m.pr->OkMs many (ms++[m]):=λm a b c c2=>by
   have app:∀ {P:Mk->Prop},(∀r∈ms,P r)->P m->∀y∈ms++[m],P y:=λh1 h2 y hy=>by
    rcases List.mem_append.mp hy with z|z
    .exact h1 y z
    .rw[List.mem_singleton.mp z];exact h2
   exact{app K.tk a,app K.tb b,app K.gb c,app K.mp c2}
  have ht:∃t u:Int,(0<=t/\t<many)/\(0<=u/\u<many)/\dR (eO 7<|fQ<|aC (bF dZ (bF eE (aD 5)<|bF i7 (aD 3)<|eC<|.int 6)<|aD 2)<|aC (bF dZ (bF i7 (aD 6)<|eC<|.int 6)<|aD 2) aX) (DO (sA<|bF kQ (bF dZ (bF i7 (aD 6)<|eC<|.int 36)<|eC<|.int 3)<|eC<|.int 0) (eO 7<|fQ<|aC (bF dZ (bF i7 (aD 6)<|eC<|.int 7)<|aD 2)<|aC (bF dZ (bF i7 (aD 6)<|eC<|.int 6)<|aD 2) aX) VG) [bw<|.lst<|ns.map .int,bw<|.int M,bw<|.int many,bw<|.int c9,bw<|.lst<|ms.map mF,bw<|.int I,bw<|.int near,N,F,G]=bw (.nx [bw<|.lst<|ns.map .int,bw<|.int M,bw<|.int many,bw<|.int c9,bw<|.lst<|ms.map mF,bw<|.int I,bw<|.int near,bw<|.tup [.int t,.int u],F,G]):=by
   by_cases h3:near/36%3=0
   .exact{near/7%many,near/6%many,B _,B _,by ac_rfl}
   .exact{(I+c9/6)%many,near/6%many,B _,B _,by ac_rfl}
  obtain⟨t,u,tb,ub,et⟩:=ht;have es:∀ {g h k:Sv} {ρ:dH},dR g (dR h k) ρ=dR (dR g h) k ρ:=by
   intro g h k ρ;unfold dR;cases g ρ with
   |none=>rfl
   |some o=>cases o <;> rfl
  have f1:=fI.1;have dm:dZ (.int<|near/12) (.int many)=bw (.int<|near/12%many):=bU W;by_cases h2:near%2=0
  .obtain⟨l,el⟩:=rG (c:=near/5) (M:=M) (n:=1) hM (by lia) (by lia)
   refine{[bw<|.lst<|ns.map .int,bw<|.int M,bw<|.int many,bw<|.int c9,bw<|.lst<|(ms++[({nm,[t],near/12%many,.tup l,p}:Mk)]).map mF,bw<|.int I,bw<|.int near,bw<|.tup [.int t],bw<|.str nm,bw<|.tup l],?_,_,_,_,_,_,_,rfl,by simp_all[hl],by lia,fin _ (.inl {t,rfl}) (by simpa using tb) (B _) p0};show(aQ 5 _ _).bind _=_;rw[q_name,aA,aH<|aM (d:=.int near)<|by ac_rfl,es,aH<|by exact et];have de:kQ (.int<|near%2) (.int 0)=bw (.bl ca):=by simp_all[h2]
   have cs:sH (.tup [.int t,.int u]) bz (bw 1)=bw (.tup [.int t]):=rfl;have dl:hZ [.tup [.int t]]=bw (.int 1):=rfl;rw[show(ms++[({nm,[t],near/12%many,.tup l,p}:Mk)]).map mF=ms.map mF++[.tup [.str nm,.tup [.int t],.int<|near/12%many,.tup l,.int p]] by simp_all[mF,tupI]]
   ac_rfl
  .obtain⟨l,el⟩:=rG (c:=near/5) (M:=M) (n:=2) hM (by lia) (by lia)
   refine{[bw<|.lst<|ns.map .int,bw<|.int M,bw<|.int many,bw<|.int c9,bw<|.lst<|(ms++[({nm,[t,u],near/12%many,.tup l,p}:Mk)]).map mF,bw<|.int I,bw<|.int near,bw<|.tup [.int t,.int u],bw<|.str nm,bw<|.tup l],?_,_,_,_,_,_,_,rfl,by simp_all[hl],by lia,fin _ (.inr {t,u,rfl}) (by simp_all;exact{tb,ub}) (B _) p0};show(aQ 5 _ _).bind _=_;rw[q_name,aA,aH<|aM (d:=.int near)<|by ac_rfl,es,aH<|by exact et];have de:kQ (.int<|near%2) (.int 0)=bw (.bl cf):=by simp_all[h2]
   have dl:hZ [.tup [.int t,.int u]]=bw (.int 2):=rfl;rw[show(ms++[({nm,[t,u],near/12%many,.tup l,p}:Mk)]).map mF=ms.map mF++[.tup [.str nm,.tup [.int t,.int u],.int<|near/12%many,.tup l,.int p]] by simp_all[mF,tupI]]
   ac_rfl
 .rintro ρ ⟨ms,U,o6,N,F,G,rfl,hl,hi,K⟩
  exact{_,by simp_all,ms,rfl,K,by lia}
def DS(ns:List Int):∃C:Bk,nB [.lst<|ns.map .int]=bw (bB C)/\OkB C:=by
 suffices h:∃d,nB [.lst<|ns.map .int]=bw d/\∃C:Bk,d=bB C/\OkB C by
  obtain⟨d,e,C,rfl,h⟩:=h;exact⟨C,e,h⟩
 obtain⟨f,F⟩:=d8 ns;have f0:=(F 0 (by decide)<|by decide).1;have f1:=(F 1 (by decide)<|by decide).1;have ak:=(F 16 (by decide)<|by decide).1;refine eD ?_;unfold uN;generalize f 0=c at f0;rw[aH<|aM (d:=.int c)<|by ac_rfl];have N:(10:Int)^59=100000000000000000000000000000000000000000000000000000000000:=by decide +kernel
 have ad:=Ten
 have w0:=zat (c/4) (show(10^59:Int)≠0 by decide +kernel);have w1:=zaw (c/4) (show(0:Int)<10^59 by decide +kernel);have dw:dZ (.int<|c/4) (.int<|10^59)=bw (.int<|c/4%10^59):=bU (by decide +kernel);generalize c/4%10^59=w at w0 w1 dw;have mw:cV (.int 2) (.int w)=bw (.int<|2*w):=cG (by decide +kernel) (by decide +kernel) (by lia) (by lia);have pw:QX (.int 10) (.int 59)=bw (.int<|10^59):=IN (by decide) (by decide) (by decide);rw[N]at dw pw;rw[aH<|aM (d:=.int<|3+2*w)<|by ac_rfl];refine gR (λρ=>∃M:Int,3<=M/\M<10^60/\ρ=[bw<|.lst<|ns.map .int,bw<|.int c,bw<|.int M,bz,bz]) ?_ ?_
 .by_cases hc:c%4=0
  .have v0:=zat (c/4) (show(4:Int)≠0 by decide)
   have v1:=zaw (c/4) (show(0:Int)<4 by decide);have mv:cV (.int 2) (.int<|c/4%4)=bw (.int<|2*(c/4%4)):=cG (by decide +kernel) (by decide +kernel) (by lia) (by lia);exact{_,by ac_rfl,3+2*(c/4%4),by lia,by lia,rfl}
  .exact{_,by ac_rfl,3+2*w,by lia,by lia,rfl}
 .rintro ρ ⟨M,G,W,rfl⟩
  have n0:=zat (f 1) (show(4:Int)≠0 by decide);have n1:=zaw (f 1) (show(0:Int)<4 by decide);rw[aH<|aM (d:=.int<|1+f 1%4)<|by ac_rfl];refine gR (λρ=>∃many:Int,(1<=many/\many<=6)/\ρ=[bw<|.lst<|ns.map .int,bw<|.int c,bw<|.int M,bw<|.int many,bz]) ?_ ?_
  .by_cases h5:f 1/4%8=5
   .exact{_,by ac_rfl,6,by decide,rfl}
   .exact{_,by ac_rfl,1+f 1%4,by lia,rfl}
  .rintro ρ ⟨many,Y,rfl⟩
   have rm:cQ [.int many]=bw (aS 0 1 many.toNat):=eQ (by lia) (by lia);obtain⟨ks,ek,lk,U⟩:=zU (f:=aR cM<|aC (aR b8<|aC (aD 1)<|aC (eC<|.int 16) aX)<|aC (aD 0) aX) (rest:=[bw<|.lst<|ns.map .int]) (R:=λd=>∃s:Str,d=.str s) (aS 0 1 many.toNat) bz λa ha=>by
    obtain⟨i,rfl,i0,i1⟩:=x8 ha;obtain⟨s,hs⟩:=t8 (c:=f 16) (n:=i) i0 (by lia);exact{_,by ac_rfl,s,rfl}
   obtain⟨z,rfl⟩:=GS U;have am:z.length=many.toNat:=by rw[zak,bL]at lk;exact lk
   have zz:a9 many.toNat=ca:=decide_eq_true (by lia);rw[aH<|aM (d:=.tup<|z.map .str)<|by simp_all[rm,bL,zz,kK,ek]];obtain⟨rs,er,gr⟩:=A4 (ns:=ns) (M:=M) (many:=many) G Y;obtain⟨ms,em,K,ml⟩:=AQ (ns:=ns) (M:=M) (many:=many) G Y;have B:(z.length:Int)=many:=by lia
   refine{bB ⟨M,z,rs,ms⟩,by simp_all[er,em,bB],_,rfl,{G,W,by show 1<=z.length;lia,by show z.length<=6;lia,?_,K.tk,?_,?_,ml,K.mp}}
   .show GR M (z.length:Int) rs
    rw[B];exact gr
   .show ∀m∈ms,∀t∈m.takes,0<=t/\t<(z.length:Int)
    rw[B];exact K.tb
   .show ∀m∈ms,0<=m.g/\m.g<(z.length:Int)
    rw[B];exact K.gb
def lY:¬ ("name" : Str) = "use" := by decide
def g7:¬ ("name" : Str) = "let" := by decide
def sT:¬ ("name" : Str) = "pick" := by decide
def lL:¬ ("name" : Str) = "again" := by decide
def jZ:¬ ("number" : Str) = "use" := by decide
def gK:¬ ("number" : Str) = "let" := by decide
def sP:¬ ("number" : Str) = "pick" := by decide
def lT:¬ ("number" : Str) = "again" := by decide
def iR:¬ ("use" : Str) = "let" := by decide
def kA:¬ ("let" : Str) = "use" := by decide
def kE:¬ ("pick" : Str) = "use" := by decide
def gL:¬ ("pick" : Str) = "let" := by decide
def kB:¬ ("again" : Str) = "use" := by decide
def fM:¬ ("again" : Str) = "let" := by decide
def sU:¬ ("again" : Str) = "pick" := by decide
theorem GL{R:D->Prop}(I:Nat->dH->Prop)(J:dH->Prop)(h:∀n ρ,I n ρ->(c ρ=bw ca/\((∃m ρ',m<n/\b ρ=bw (.nx ρ')/\I m ρ')\/∃d,b ρ=bw (.rt d)/\R d))\/(c ρ=bw cf/\J ρ)):∀(fuel n:Nat) (ρ:dH),n<fuel->I n ρ->(∃ρ',fJ c b fuel ρ=bw (.nx ρ')/\J ρ')\/∃d,fJ c b fuel ρ=bw (.rt d)/\R d
 |0,n,ρ,hn,_=>absurd hn<|zeB n
 |fuel+1,n,ρ,hn,hi=>by
  rcases h n ρ hi with⟨z,⟨m,ρ',U,B,N⟩|⟨d,B,G⟩⟩|⟨z,M⟩
  .rcases GL I J h fuel m ρ' (by lia) N with⟨F,e,M⟩|⟨d,e,G⟩
   .refine .inl {F,?_,M}
    unfold fJ;rw[z,aA,ci rfl,B,aA];exact e
   .refine .inr {d,?_,G}
    unfold fJ;rw[z,aA,ci rfl,B,aA];exact e
  .refine .inr {d,?_,G}
   unfold fJ;rw[z,aA,ci rfl,B,aA]
  .refine .inl {ρ,?_,M}
   unfold fJ;rw[z,aA,cj zaD]
def tQ{c:Bv}{b rest:Sv}{ρ:dH}{R:D->Prop}(I:Nat->dH->Prop)(J:dH->Prop)(n:Nat)(B:n<100000)(G:I n ρ)(h:∀n ρ,I n ρ->(c ρ=bw ca/\((∃m ρ',m<n/\b ρ=bw (.nx ρ')/\I m ρ')\/∃d,b ρ=bw (.rt d)/\R d))\/(c ρ=bw cf/\J ρ))(k:∀ρ',J ρ'->∃d,rest ρ'=bw (.rt d)/\R d):∃d,dR (nL c b) rest ρ=bw (.rt d)/\R d:=by
 rcases GL I J h 100000 n ρ B G with⟨ρ',e,F⟩|⟨d,e,M⟩
 .have z:nL c b ρ=bw (.nx ρ'):=e
  rw[aH z];exact k ρ' F
 .have z:nL c b ρ=bw (.rt d):=e
  exact{d,qG z,M}
def FY:aL (bB C) (.int 1)=bw (.tup<|C.kinds.map .str):=by unfold bB;rw[q_itT];exact at1
def QQ:aL (bB C) (.int 2)=bw (.tup<|C.rs.map mU):=by unfold bB;rw[q_itT];exact at2
def wW:aL (bB C) (.int 3)=bw (.tup<|C.makes.map mF):=by unfold bB;rw[q_itT];exact VL
def FU:aL (mF m) (.int 0)=bw (.str m.nm):=by unfold mF;rw[q_itT];exact at0
def AI:aL (mF m) (.int 1)=bw (tupI m.takes):=by unfold mF;rw[q_itT];exact at1
def K7:aL (mF m) (.int 2)=bw (.int m.g):=by unfold mF;rw[q_itT];exact at2
def VF:aL (mF m) (.int 4)=bw (.int m.pr):=by unfold mF;rw[q_itT];exact at4
def rM(n:Nat):aS 0 1 n=((zau n).map λ(j:Nat)=>(j:Int)).map D.int:=by
 unfold aS;rw[zas];refine List.map_congr_left λa _=>?_
 show D.int _=D.int _;have:(0:Int)+(a:Int)*1=(a:Int):=by lia
 rw[this]
theorem B4{c:Bv}{rest:List (Option D)}{p:Int->Bool}:∀(l:List Int) (o:Option D),(∀n∈l,c (bw (.int n)::rest)=bw (p n))->bD (aQ 0) c (aD 0) (l.map .int) (o::rest)=bw ((l.filter p).map .int)
 |[],o,_=>rfl
 |n::l,o,h=>by
  have ih:=B4 (c:=c) (rest:=rest) (p:=p) l (bw<|.int n) λm B=>h m<|zaq _ B
  have z:=h n<|zar ..;cases hp:p n with
  |true=>simp_all[bD,z,hp,ih]
  |false=>simp_all[bD,z,hp,ih]
def uS{C:Bk}{i:Int}{get:Ro->Int}{e:Int}(M:∀r,aL (mU r) (.int i)=bw (.int<|get r))(o:Option D):∃F:List Int,bD (aQ 0) (sA<|bF kQ (bF aL (bF aL (bF aL (aD 1)<|eC<|.int 2)<|aD 0)<|eC<|.int i)<|aD 2) (aD 0) (aS 0 1 C.rs.length) [o,bw<|bB C,bw<|.int e]=bw (F.map .int)/\F.length<=C.rs.length/\∀n∈F,∃r,kN C.rs n=bw r/\get r=e:=by
 have key:=B4 (c:=sA<|bF kQ (bF aL (bF aL (bF aL (aD 1)<|eC<|.int 2)<|aD 0)<|eC<|.int i)<|aD 2) (rest:=[bw<|bB C,bw<|.int e]) (p:=λn=>match kN C.rs n with|some r=>decide (get r=e)|none=>cf) ((zau C.rs.length).map λ(j:Nat)=>(j:Int)) o λn B=>by
  obtain⟨k,G,rfl⟩:=List.mem_map.mp B;have:=List.mem_range.mp G;obtain⟨r,z⟩:=ZG (rs:=C.rs) (n:=(k:Int)) (by lia) (by lia);simp_all[QQ,AC z,M,z]
 rw[<- rM]at key;refine{_,key,?_,λn B=>?_}
 .refine zaL (zdl ..) ?_
  rw[zak,zcS];exact zah _
 .have:=(List.mem_filter.mp B).2
  cases z:kN C.rs n with
  |none=>simp[-zad,-zab,aA,aB,z]at this
  |some r=>simp[-zad,-zab,aA,aB,z]at this;exact{r,rfl,this}
def DY{C:Bk}(B:OkB C){j c:Int}(j0:0<=j)(Y:j<(C.kinds.length:Int)):∃(e:Int) (w:List Int),mV [bB C,.int j,.int c]=bw (.tup [.int e,tupI w])/\gw C.rs j w=bw e:=by
 suffices h:∃d,mV [bB C,.int j,.int c]=bw d/\∃(e:Int) (w:List Int),d=.tup [.int e,tupI w]/\gw C.rs j w=bw e by
  obtain⟨d,h1,e,w,rfl,h2⟩:=h;exact{e,w,h1,h2}
 have k6:=B.k6;refine eD ?_;unfold uL;rw[aH<|aM (d:=tupI [])<|by ac_rfl];refine tQ (λn ρ=>∃(e c:Int) (w:List Int) (o:Option D),ρ=[bw<|bB C,bw<|.int e,bw<|.int c,bw<|tupI w,o]/\gw C.rs j w=bw e/\n=(6-e).toNat) (λρ=>∃(e c:Int) (w:List Int) (o:Option D),ρ=[bw<|bB C,bw<|.int e,bw<|.int c,bw<|tupI w,o]/\gw C.rs j w=bw e) (6-j).toNat (by lia) {j,c,[],bz,by ac_rfl,rfl,rfl} ?_ ?_
 .rintro n ρ ⟨e,c,w,o,rfl,g,hn⟩
  by_cases M:0<c%3
  .refine .inl {by simp_all[bU,M],?_}
   have s:=eN B g j0 Y;obtain⟨z,el,ll,hl⟩:=uS (C:=C) (i:=0) (get:=(·.j)) (e:=e) (λr=>qbd) bz;have W:=B.gr.len;have b2:=@QQ C;have rm:cQ [.int ((C.rs.map mU).length:Int)]=bw (aS 0 1 C.rs.length):=by rw[zak];exact dC<|by lia
   have zz:(aS 0 1 C.rs.length).length<=1000000:=by rw[bL];lia
   rw[aH<|aM (d:=.lst<|z.map .int)<|by ac_rfl];by_cases U:z.length=0
   .exact .inr {.tup [.int e,tupI w],by simp_all[U],e,w,rfl,g}
   .have G:(0:Int)<(z.length:Int):=by lia
    obtain⟨v,hv,hm⟩:=gW (ns:=z) (k:=c/3%(z.length:Int)) (zat _<|zaU G)<|zaw _ G;obtain⟨r,F,N⟩:=hl v<|zap hm;have up:=(B.gr.jk r<|sZ F).2.1;refine .inl {(6-r.k).toNat,[bw<|bB C,bw<|.int r.k,bw<|.int<|c/7,bw<|tupI<|w++[v],bw<|.lst<|z.map .int],?_,?_,r.k,c/7,w++[v],_,rfl,S0 g F N,rfl}
    .have ae:r.j=e:=N
     lia
    .have ad:eE (tupI w) (.tup [.int v])=bw (tupI<|w++[v]):=by
      unfold tupI;rw[zaO];exact ci<|decide_eq_true<|show(w.map D.int).length+1<=1000000 by rw[zak];lia
     have ea:aL (tupI<|w++[v]) (.int ((w.length+1:Nat)-1:Int))=bw (.int v):=by
      unfold tupI;rw[show((w.length+1:Nat)-1:Int)=(w.length:Int) by lia];exact bY<|by simp_all
     have dl:hZ [tupI<|w++[v]]=bw (.int ((w.length+1:Nat):Int)):=by simp_all[tupI]
     have de:kQ (.int ((z.map D.int).length:Int)) (.int 0)=bw (.bl cf):=by simp_all[U]
     have md:dZ (.int<|c/3) (.int ((z.map D.int).length:Int))=bw (.int<|c/3%(z.length:Int)):=by rw[zak];exact bU G
     have ar:=AC F;have rk:=@qbj r;rw[aH (ρ':=[bw<|bB C,bw<|.int e,bw<|.int c,bw<|tupI w,bw<|.lst<|z.map .int])<|by ac_rfl];rw[aH<|aM (d:=tupI<|w++[v])<|by ac_rfl];rw[aH<|aM (d:=.int r.k)<|by ac_rfl]
     ac_rfl
  .exact .inr {by simp_all[bU,M],e,c,w,o,rfl,g}
 .rintro ρ ⟨e,c,w,o,rfl,g⟩
  exact{_,by simp_all,e,w,rfl,g}
def MJ(z:kN rs n=bw r)(h:gw rs r.k w=bw f):gw rs r.j (n::w)=bw f:=by
 show((kN rs n).bind λs=>if s.j=r.j then gw rs s.k w else bz)=_;rw[z];show(if r.j=r.j then gw rs r.k w else bz)=_;rw[ci rfl];exact h
def EW{C:Bk}(B:OkB C){k c:Int}(k0:0<=k)(k1:k<(C.kinds.length:Int)):∃(j:Int) (w:List Int),mW [bB C,.int k,.int c]=bw (.tup [.int j,tupI w])/\gw C.rs j w=bw k/\0<=j/\j<(C.kinds.length:Int):=by
 suffices h:∃d,mW [bB C,.int k,.int c]=bw d/\∃(j:Int) (w:List Int),d=.tup [.int j,tupI w]/\gw C.rs j w=bw k/\0<=j/\j<(C.kinds.length:Int) by
  obtain⟨d,h1,e,w,rfl,h2⟩:=h;exact{e,w,h1,h2}
 have k6:=B.k6;refine eD ?_;unfold tW;rw[aH<|aM (d:=tupI [])<|by ac_rfl];refine tQ (λn ρ=>∃(e c:Int) (w:List Int) (o:Option D),ρ=[bw<|bB C,bw<|.int e,bw<|.int c,bw<|tupI w,o]/\gw C.rs e w=bw k/\0<=e/\e<(C.kinds.length:Int)/\n=e.toNat) (λρ=>∃(e c:Int) (w:List Int) (o:Option D),ρ=[bw<|bB C,bw<|.int e,bw<|.int c,bw<|tupI w,o]/\gw C.rs e w=bw k/\0<=e/\e<(C.kinds.length:Int)) k.toNat (by lia) {k,c,[],bz,by ac_rfl,rfl,k0,k1,rfl} ?_ ?_
 .rintro n ρ ⟨e,c,w,o,rfl,g,U,F,hn⟩
  by_cases W:0<c%3
  .refine .inl {by simp_all[bU,W],?_}
   have s:=eN B g U F;obtain⟨z,el,ll,hl⟩:=uS (C:=C) (i:=1) (get:=(·.k)) (e:=e) (λr=>qbj) bz;have aa:=B.gr.len;have b2:=@QQ C;have rm:cQ [.int ((C.rs.map mU).length:Int)]=bw (aS 0 1 C.rs.length):=by rw[zak];exact dC<|by lia
   have zz:(aS 0 1 C.rs.length).length<=1000000:=by rw[bL];lia
   rw[aH<|aM (d:=.lst<|z.map .int)<|by ac_rfl];by_cases Y:z.length=0
   .exact .inr {.tup [.int e,tupI w],by simp_all[Y],e,w,rfl,g,U,F}
   .have M:(0:Int)<(z.length:Int):=by lia
    obtain⟨v,hv,hm⟩:=gW (ns:=z) (k:=c/3%(z.length:Int)) (zat _<|zaU M)<|zaw _ M;obtain⟨r,G,hj⟩:=hl v<|zap hm;have up:=B.gr.jk r<|sZ G;have N:r.k=e:=hj;refine .inl {r.j.toNat,[bw<|bB C,bw<|.int r.j,bw<|.int<|c/7,bw<|tupI<|v::w,bw<|.lst<|z.map .int],by lia,?_,r.j,c/7,v::w,_,rfl,MJ G (by rw[N];exact g),up.1,by lia,rfl};have ad:eE (.tup [.int v]) (tupI w)=bw (tupI<|v::w):=ci (decide_eq_true<|show 1+(w.map D.int).length<=1000000 by rw[zak];lia);have ea:aL (tupI<|v::w) (.int 0)=bw (.int v):=at0;have de:kQ (.int ((z.map D.int).length:Int)) (.int 0)=bw (.bl cf):=by simp_all[Y]
    have md:dZ (.int<|c/3) (.int ((z.map D.int).length:Int))=bw (.int<|c/3%(z.length:Int)):=by rw[zak];exact bU M
    have ar:=AC G;have rk:=@qbd r;rw[aH (ρ':=[bw<|bB C,bw<|.int e,bw<|.int c,bw<|tupI w,bw<|.lst<|z.map .int])<|by ac_rfl];rw[aH<|aM (d:=tupI<|v::w)<|by ac_rfl];rw[aH<|aM (d:=.int r.j)<|by ac_rfl]
    ac_rfl
  .exact .inr {by simp_all[bU,W],e,c,w,o,rfl,g,U,F}
 .rintro ρ ⟨e,c,w,o,rfl,g⟩
  exact{_,by simp_all,e,w,rfl,g}
def xN(h:∀n∈w,∃r,kN C.rs n=bw r):∃ns:List Int,bD (aQ 0) fP (bF aL (bF aL (bF aL (aD 1)<|eC<|.int 2)<|aD 0)<|eC<|.int 4) (w.map .int) [bz,bw<|bB C]=bw (ns.map .int)/\ns.sum=cE C.rs w:=by
 refine{w.map λn=>match kN C.rs n with|some r=>r.p|none=>0,?_,rfl};rw[zas];refine BE w bz λn B=>?_
 obtain⟨r,z⟩:=h n B;simp_all[QQ,AC z,qct,z]
def d7(h:∀n∈w,∃r,kN C.rs n=bw r)(B:w.length<=100):jP [bB C,tupI w]=bw (.int<|cE C.rs w):=by
 obtain⟨ns,e,hs⟩:=xN h;have z:a9 w.length=ca:=decide_eq_true (by lia);refine aF ?_;simp_all[uW,aE,tupI,kK,z,e,hs]
def eV{R:List D->Option D}{pre:List D}{v w:List Int}(N:hW (pre++[tupI w]) 0=bw (.str tag))(M:¬ tag = "let")(U:pre.length<=10)(hw:w.length+v.length<=100):bA 3 (fB R) [.tup<|pre++[tupI w],tupI v]=bw (.tup<|pre++[tupI<|w++v]):=by
 have a:hW (pre++[tupI w]) (pre.length:Int)=bw (tupI w):=bY (by rw[zdy<|zah _,Nat.sub_self];rfl);have z:a9 (pre.length+1)=ca:=decide_eq_true (by lia);have G:=KQ (as:=pre) (bs:=[tupI w]);have B:eE (tupI w) (tupI v)=bw (tupI<|w++v):=by
  have F:a9 (w.length+v.length)=ca:=decide_eq_true (by lia);simp_all[tupI,F]
 have e:((pre++[tupI w]).length:Int)-1=(pre.length:Int):=by simp_all
 refine aF ?_;unfold fB;rw[aH<|aM (d:=.int (pre.length:Int))<|by rw[<- e];rfl];simp_all[aE,N,M,G,a,B,z]
theorem wY{v:List Int}(B:v.length<=6):∀(n:Nat) (g:Rg),size g<=n->Short g->eK 3 fB n [rd g,tupI v]=bw (rd<|beh g v)
 |0,g,h,_=>by cases g <;> simp[-zad,-zab,aA,aB,size]at h
 |n+1,.name x j w,h,s=>eV (pre:=[.str "name",.str x]) at0 g7 (by simp_all)<|by have:w.length<=6:=s;lia
 |n+1,.num m j w,h,s=>eV (pre:=[.str "number",.int m,.int j]) at0 gK (by simp_all)<|by have:w.length<=6:=s;lia
 |n+1,.use1 u nm p w,h,s=>eV (pre:=[.str "use",.int (u:Int),.tup [rd p]]) at0 iR (by simp_all)<|by have:w.length<=6:=s.2;lia
 |n+1,.use2 u nm p q w,h,s=>eV (pre:=[.str "use",.int (u:Int),.tup [rd p,rd q]]) at0 iR (by simp_all)<|by have:w.length<=6:=s.2.2;lia
 |n+1,.lett x j p q,h,s=>by
  have ih:=wY B n q (by simp only[size]at h;lia) s.2;have z:cutD [.str "let",.str x,.int j,rd p,rd q] bz (bw 4)=[.str "let",.str x,.int j,rd p]:=rfl;have F:a9 5=ca:=rfl;refine aF ?_;simp_all[fB,aE,rd,beh,at0,at4,z,ih,F]
 |n+1,.pick c k p q r w,h,s=>eV (pre:=[.str "pick",.int c,.int k,rd p,rd q,rd r]) at0 gL (by simp_all)<|by have:w.length<=6:=s.2.2.2;lia
 |n+1,.again c k x p q w,h,s=>eV (pre:=[.str "again",.int c,.int k,.str x,rd p,rd q]) at0 fM (by simp_all)<|by have:w.length<=6:=s.2.2;lia
def yU(z:size g<=24)(s:Short g)(B:v.length<=6):oE [rd g,tupI v]=bw (rd<|beh g v):=wY B 24 g z s
noncomputable def bX(p:Str×Int):D:=.tup [.str p.1,.int p.2]
def bG(C:Bk)(g:Rg)(k r:Int):D:=.tup [pt g,rd g,.int k,.int (size g:Int),.int<|lets g,.int r,.int<|cost C g]
def wG:aL (bG C g k r) (.int 0)=bw (pt g):=by unfold bG;rw[q_itT];exact at0
def wF:aL (bG C g k r) (.int 1)=bw (rd g):=by unfold bG;rw[q_itT];exact at1
def DH:aL (bG C g k r) (.int 2)=bw (.int k):=by unfold bG;rw[q_itT];exact at2
def qb6:aL (bG C g k r) (.int 3)=bw (.int (size g:Int)):=by unfold bG;rw[q_itT];exact VL
def qbX:aL (bG C g k r) (.int 4)=bw (.int<|lets g):=by unfold bG;rw[q_itT];exact at4
def qbV:aL (bG C g k r) (.int 5)=bw (.int r):=by unfold bG;rw[q_itT];exact at5
def qb9:aL (bG C g k r) (.int 6)=bw (.int<|cost C g):=by unfold bG;rw[q_itT];exact qj
theorem uD:∀(kn:List<|Str×Int) (o p:Option D),∃ss:List Str,bD (kJ 2<|c7 (aQ 0)<|c7 (aQ 1) pN) (sA<|bF kQ (aD 1)<|aD 2) (aD 0) (kn.map bX) [o,p,bw<|.int j]=bw (ss.map .str)/\∀s∈ss,(s,j)∈kn
 |[],o,p=>{[],rfl,λ_ h=>nomatch h}
 |(x,i)::kn,o,p=>by
  obtain⟨ss,e,hs⟩:=uD (j:=j) kn (bw<|.str x)<|bw<|.int i;by_cases h:i=j
  .refine{x::ss,by simp[-zad,-zab,aA,aB,bD,bX,h]at e ⊢;simp_all[e],λs B=>?_}
   rcases List.mem_cons.mp B with z|z
   .rw[z,h];exact zar ..
   .exact zaq _<|hs s z
  .exact{ss,by simp[-zad,-zab,aA,aB,bD,bX,h]at e ⊢;simp_all[e],λs B=>zaq _<|hs s B}
def d9(B:OkB C)(hl:kn.length<=100)(k0:0<=k)(k1:k<(C.kinds.length:Int))(c0:0<=c)(c1:c<10^60):∃g,bR [bB C,.lst<|kn.map bX,.int k,.int c]=bw (bG C g k 0)/\WF C kn g k/\size g=1/\lets g=0/\∀U N,NF U N g:=by
 suffices h:∃d,bR [bB C,.lst<|kn.map bX,.int k,.int c]=bw d/\∃g,d=bG C g k 0/\WF C kn g k/\size g=1/\lets g=0/\∀U N,NF U N g by
  obtain⟨d,h1,g,rfl,h2⟩:=h;exact{g,h1,h2}
 have af:=Ten
 obtain⟨j,w,eb,z,Y,j1⟩:=EW B (k:=k) (c:=c/5) k0 k1;have sh:=eN B z Y j1;obtain⟨ss,es,hs⟩:=uD (j:=j) kn bz bz;have zk:a9 kn.length=ca:=decide_eq_true (by lia);have ec:=d7 (C:=C) (gY z) (by lia);have Mp:0<C.M:=by have:=B.M3;lia
 refine eD ?_;unfold uA;rw[aH (ρ':=[bw<|bB C,bw<|.lst<|kn.map bX,bw<|.int k,bw<|.int c,bw<|.int j,bw<|tupI w,bz,bz,bz,bz])<|by ac_rfl];rw[aH<|aM (d:=.lst<|ss.map .str)<|by simp_all[zk,kK,es]];rw[aH<|aM (d:=.int<|cE C.rs w)<|by ac_rfl];have num:∃d,dR (eO 9<|bF dZ (bF cV (bF i7 (aD 3)<|eC<|.int 11)<|eC<|.int 982451653)<|bF aL (aD 0)<|eC<|.int 0)
   (LJ<|fQ<|aC (fQ<|aC (eC<|.str "number")<|aC (aD 9)<|aC (aD 4) aX)<|aC (fQ<|aC (eC<|.str "number")<|aC (aD 9)<|aC (aD 4)<|aC (aD 5) aX)<|aC (aD 2)<|aC (eC<|.int 1)<|aC (eC<|.int 0)<|aC (eC<|.int 0)<|aC (aD 7) aX)
   [bw<|bB C,bw<|.lst<|kn.map bX,bw<|.int k,bw<|.int c,bw<|.int j,bw<|tupI w,bw<|.lst<|ss.map .str,bw<|.int<|cE C.rs w,bz,bz]=bw (.rt d)/\∃g,d=bG C g k 0/\WF C kn g k/\size g=1/\lets g=0/\∀U N,NF U N g:=by
  have mu:cV (.int<|c/11) (.int 982451653)=bw (.int<|c/11*982451653):=cG (by lia) (by lia) (by decide +kernel) (by decide +kernel);have n0:=zat (c/11*982451653)<|zaU Mp;have n1:=zaw (c/11*982451653) Mp;rw[aH<|aM (d:=.int<|c/11*982451653%C.M)<|by ac_rfl];exact{_,by simp_all;rfl,.num (c/11*982451653%C.M) j w,by ac_rfl,{{n0,n1},{Y,j1},z},rfl,rfl,λ_ _=>trivial}
 by_cases h1:1<c%5
 .by_cases h2:ss.length=0
  .rw[aH (ρ':=[bw<|bB C,bw<|.lst<|kn.map bX,bw<|.int k,bw<|.int c,bw<|.int j,bw<|tupI w,bw<|.lst<|ss.map .str,bw<|.int<|cE C.rs w,bz,bz])<|by simp_all[bU,h1,h2]]
   exact num
  .have F:(0:Int)<(ss.length:Int):=by lia
   have G:0<ss.length:=by lia
   obtain⟨d,hm,_,hd⟩:=wC (l:=ss.map D.str) (k:=c/7%(ss.length:Int)) (zat _<|zaU F) (by rw[zak];exact zaw _ F);obtain⟨s,W,rfl⟩:=List.mem_map.mp hm;refine{bG C (.name s j w) k 0,qG ?_,.name s j w,rfl,{hs s W,z},rfl,rfl,λ_ _=>trivial};simp_all[bU,h1,G,i5,bU F,hd,bG,pt,rd,size,lets,cost]
 .rw[aH (ρ':=[bw<|bB C,bw<|.lst<|kn.map bX,bw<|.int k,bw<|.int c,bw<|.int j,bw<|tupI w,bw<|.lst<|ss.map .str,bw<|.int<|cE C.rs w,bz,bz])<|by ac_rfl]
  exact num
local macro_rules | `(tactic|ac_rfl) => `(tactic|(with_reducible first|exact wG|exact wF|exact DH|exact qb6|exact qbX|exact FY|exact QQ|exact wW|exact FU|exact AI|exact K7|exact VF|exact at5|exact qj))
structure S7 where
 p:D
 q:D
 k:D
 a:Int
 b:Int
 r:Int
 c:Int
noncomputable def sD(s:S7):D:=.tup [s.p,s.q,s.k,.int s.a,.int s.b,.int s.r,.int s.c]
def s_3:aL (sD s) (.int 3)=bw (.int s.a):=by unfold sD;rw[q_itT];exact VL
def s_4:aL (sD s) (.int 4)=bw (.int s.b):=by unfold sD;rw[q_itT];exact at4
def s_5:aL (sD s) (.int 5)=bw (.int s.r):=by unfold sD;rw[q_itT];exact at5
def s_6:aL (sD s) (.int 6)=bw (.int s.c):=by unfold sD;rw[q_itT];exact qj
noncomputable def AL(w:Str):Int:=if w = "let" then 1 else 0
def nF{w0:Str}{l:List D}{q k:D}{ss:List S7}{own:Int}(hl:ss.length<=10):∃r:Int,aW [.tup<|.str w0::l,q,k,.lst<|ss.map sD,.int own]=bw (.tup [.tup<|.str w0::l,q,k,.int<|1+(ss.map (·.a)).sum,.int<|AL w0+(ss.map (·.b)).sum,.int r,.int<|own+(ss.map (·.c)).sum]):=by
 suffices h:∃d,aW [.tup<|.str w0::l,q,k,.lst<|ss.map sD,.int own]=bw d/\∃r:Int,d=.tup [.tup<|.str w0::l,q,k,.int<|1+(ss.map (·.a)).sum,.int<|AL w0+(ss.map (·.b)).sum,.int r,.int<|own+(ss.map (·.c)).sum] by
  obtain⟨d,e,r,rfl⟩:=h;exact⟨r,e⟩
 refine eD ?_;unfold uG;rw[aH<|aM (d:=.int 1)<|by simp_all];rw[aH<|aM (d:=.int<|AL w0)<|by by_cases h:w0 = "let" <;> simp_all[aE,at0,AL,h]];rw[aH<|aM (d:=.int 0)<|by simp_all];refine j9 (items:=aS 0 1 ss.length) (by simp_all[aE,dC<|show ss.length<=1000000 by lia]) (λi ρ=>∃(r:Int) (G F:Option D),ρ=[bw<|.tup<|.str w0::l,bw q,bw k,bw<|.lst<|ss.map sD,bw<|.int<|own+((ss.take i).map (·.c)).sum,bw<|.int<|1+((ss.take i).map (·.a)).sum,bw<|.int<|AL w0+((ss.take i).map (·.b)).sum,bw<|.int r,G,F]) {0,bz,bz,by simp_all[aE]} ?_ ?_
 .rintro i x ρ hx ⟨r,G,F,rfl⟩
  obtain⟨B,rfl⟩:=cA hx;have U:(0:Int)+(i:Int)*1=(i:Int):=by lia
  rw[U];obtain⟨s,hs⟩:∃s,ss[i]?=bw s:={ss[i],zaG B};have N:hW (ss.map sD) (i:Int)=bw (sD s):=bY (by rw[zav,hs];rfl);have W:(ss.take<|i+1)=ss.take i++[s]:=by rw[zdf,hs];rfl
  rw[W];simp only[zaO,zaj,zcf,List.sum_append_int,za5,List.sum_nil,Int.add_zero];generalize ((ss.take i).map (·.a)).sum=A;generalize ((ss.take i).map (·.b)).sum=Bb;generalize ((ss.take i).map (·.c)).sum=Cc;have q3:=s_3 (s:=s);have q4:=s_4 (s:=s);have q5:=s_5 (s:=s);have q6:=s_6 (s:=s);have M:∃z:Int,aR yI (aC (aD 7)<|aC (bF eE (bF aL (aD 9)<|eC<|.int 5)<|aR FQ<|aC (QU (bF kQ (bF aL (aD 0)<|eC<|.int 0)<|eC<|.str "again")<|bF kQ (aD 8)<|eC<|.int 1) aX) aX) [bw<|.tup<|.str w0::l,bw q,bw k,bw<|.lst<|ss.map sD,bw<|.int<|own+Cc,bw<|.int<|1+A+s.a,bw<|.int<|AL w0+Bb+s.b,bw<|.int r,bw<|.int (i:Int),bw<|sD s]=bw (.int z):=by
   obtain⟨b,hb⟩:∃b,kQ (.str w0) (.str "again")=bw (.bl b):={_,by simp_all;rfl};obtain⟨b2,Y⟩:∃b,kQ (.int (i:Int)) (.int 1)=bw (.bl b):={_,by simp_all;rfl};cases b <;> exact{_,by ac_rfl}
  obtain⟨z,M⟩:=M;refine{[bw<|.tup<|.str w0::l,bw q,bw k,bw<|.lst<|ss.map sD,bw<|.int<|own+(Cc+s.c),bw<|.int<|1+(A+s.a),bw<|.int<|AL w0+(Bb+s.b),bw<|.int z,bw<|.int (i:Int),bw<|sD s],?_,z,_,_,rfl};show(aQ 8 _ _).bind _=_;rw[q_name,aA,<- zdn,<- zdn,<- zdn];rw[aH<|aM (d:=sD s)<|by ac_rfl];rw[aH<|aM (d:=.int<|1+A+s.a)<|by ac_rfl];rw[aH<|aM (d:=.int<|AL w0+Bb+s.b)<|by ac_rfl];rw[aH<|aM (d:=.int z)<|by exact M]
  ac_rfl
 .rintro ρ ⟨r,G,F,rfl⟩
  rw[bL,zbv];exact{_,by simp_all,r,rfl}
def sG(C:Bk)(g:Rg)(k r:Int):S7:={pt g,rd g,.int k,size g,lets g,r,cost C g}
structure Gs(U:List Str)(C:Bk)(kn:List<|Str×Int)(g:Rg)(k:Int)(n:Nat):Prop where
 wf:WF C kn g k
 k0:0<=k
 k1:k<(C.kinds.length:Int)
 sz:size g<=n
 nf:NF U (kn.map (·.1)) g
def qaG{C:Bk}{l:List D}{g1:Rg}{k1 r1 own:Int}:∃r:Int,aW [.tup<|.str w0::l,q,k,.lst [bG C g1 k1 r1],.int own]=bw (.tup [.tup<|.str w0::l,q,k,.int<|1+(size g1:Int),.int<|AL w0+lets g1,.int r,.int<|own+cost C g1]):=by
 obtain⟨r,h⟩:=nF (w0:=w0) (l:=l) (q:=q) (k:=k) (ss:=[sG C g1 k1 r1]) (own:=own) (by simp_all);exact{r,by simpa[sG,sD,bG]using h}
def QH{C:Bk}{l:List D}{g1 g2:Rg}{k1 r1 k2 r2 own:Int}:∃r:Int,aW [.tup<|.str w0::l,q,k,.lst [bG C g1 k1 r1,bG C g2 k2 r2],.int own]=bw (.tup [.tup<|.str w0::l,q,k,.int<|1+((size g1:Int)+(size g2:Int)),.int<|AL w0+(lets g1+lets g2),.int r,.int<|own+(cost C g1+cost C g2)]):=by
 obtain⟨r,h⟩:=nF (w0:=w0) (l:=l) (q:=q) (k:=k) (ss:=[sG C g1 k1 r1,sG C g2 k2 r2]) (own:=own) (by simp_all);exact{r,by simpa[sG,sD,bG]using h}
def qaQ{C:Bk}{l:List D}{g1 g2 g3:Rg}{k1 r1 k2 r2 k3 r3 own:Int}:∃r:Int,aW [.tup<|.str w0::l,q,k,.lst [bG C g1 k1 r1,bG C g2 k2 r2,bG C g3 k3 r3],.int own]=bw (.tup [.tup<|.str w0::l,q,k,.int<|1+((size g1:Int)+((size g2:Int)+(size g3:Int))),.int<|AL w0+(lets g1+(lets g2+lets g3)),.int r,.int<|own+(cost C g1+(cost C g2+cost C g3))]):=by
 obtain⟨r,h⟩:=nF (w0:=w0) (l:=l) (q:=q) (k:=k) (ss:=[sG C g1 k1 r1,sG C g2 k2 r2,sG C g3 k3 r3]) (own:=own) (by simp_all);exact{r,by simpa[sG,sD,bG]using h}
def HM:AL "use" = 0:=by decide
def MW:AL "pick" = 0:=by decide
def KN:AL "again" = 0:=by decide
def S5:AL "let" = 1:=by decide
def tH:cE rs []=0:=rfl
def O5(h:C.makes[v]?=bw m):mpr C v=m.pr:=by unfold mpr;rw[h];rfl
def nV(B:OkB C)(K:OkN C kn)(G:Gs U C kn g k n)(hn:n<=24):∃g' F,jF [bB C,bG C g k r,.int c]=bw (bG C g' F r)/\Gs U C kn g' F n/\size g'=size g/\lets g'=lets g:=by
 obtain⟨e,w,W,z⟩:=DY B (j:=k) (c:=c) G.k0 G.k1;have s:=eN B z G.k0 G.k1;have sh:=G.wf.short B K;have M:=yU (g:=g) (v:=w) (by have:=G.sz;lia) sh.1 s.1;have ec:=d7 (C:=C) (gY z) (by lia);refine{beh g w,e,aF ?_,{G.wf.beh z,s.2.1,s.2.2,by rw[oM];exact G.sz,G.nf.beh},oM g w,u5 g w};unfold oC;rw[aH (ρ':=[bw<|bB C,bw<|bG C g k r,bw<|.int c,bw<|.int e,bw<|tupI w])<|by simp_all[aE,DH,W]];have Y:sH (bG C g k r) (bw 3) (bw 6)=bw (.tup [.int (size g:Int),.int<|lets g,.int r]):=rfl;have N:a9 6=ca:=rfl;have z7:a9 7=ca:=rfl;simp_all[wG,wF,qb9,M,ec,Y,N,z7];simp_all[bG,OS,oM,u5,C4]
def mQ{C:Bk}{v:Nat}{m:Mk}(h:C.makes[v]?=bw m):hW (C.makes.map mF) (v:Int)=bw (mF m):=bY<|by rw[zav,h];rfl
noncomputable def F6(p:Nat×Nat):D:=.tup [.int (p.1:Int),.int (p.2:Int)]
def SQ{C:Bk}{v:Nat}{m:Mk}(z:C.makes[v]?=bw m){g:Rg}{k1 r1:Int}:∃r,aW [.tup [.str "use",.str m.nm,.tup [pt g]],.tup [.str "use",.int (v:Int),.tup [rd g],.tup []],.int m.g,.lst [bG C g k1 r1],.int m.pr]=bw (bG C (.use1 v m.nm g []) m.g r):=by
 obtain⟨r,h⟩:=qaG (C:=C) (w0 := "use") (l:=[.str m.nm,.tup [pt g]]) (q:=.tup [.str "use",.int (v:Int),.tup [rd g],.tup []]) (k:=.int m.g) (g1:=g) (k1:=k1) (r1:=r1) (own:=m.pr);exact{r,h.trans<|by simp_all[bG,pt,rd,size,lets,cost,tupI,O5 z,tH,HM]}
def GK{C:Bk}{v:Nat}{m:Mk}(z:C.makes[v]?=bw m){g g':Rg}{k1 r1 k2 r2:Int}:∃r,aW [.tup [.str "use",.str m.nm,.tup [pt g,pt g']],.tup [.str "use",.int (v:Int),.tup [rd g,rd g'],.tup []],.int m.g,.lst [bG C g k1 r1,bG C g' k2 r2],.int m.pr]=bw (bG C (.use2 v m.nm g g' []) m.g r):=by
 obtain⟨r,h⟩:=QH (C:=C) (w0 := "use") (l:=[.str m.nm,.tup [pt g,pt g']]) (q:=.tup [.str "use",.int (v:Int),.tup [rd g,rd g'],.tup []]) (k:=.int m.g) (g1:=g) (k1:=k1) (r1:=r1) (g2:=g') (k2:=k2) (r2:=r2) (own:=m.pr);exact{r,h.trans<|by simp_all[bG,pt,rd,size,lets,cost,tupI,O5 z,tH,HM]}
def PK:∃r,aW [.tup [.str "let",.str x,pt g,pt g'],.tup [.str "let",.str x,.int j,rd g,rd g'],.int k,.lst [bG C g k1 r1,bG C g' k2 r2],.int 0]=bw (bG C (.lett x j g g') k r):=by
 obtain⟨r,h⟩:=QH (C:=C) (w0 := "let") (l:=[.str x,pt g,pt g']) (q:=.tup [.str "let",.str x,.int j,rd g,rd g']) (k:=.int k) (g1:=g) (k1:=k1) (r1:=r1) (g2:=g') (k2:=k2) (r2:=r2) (own:=0);exact{r,h.trans<|by simp_all[bG,pt,rd,size,lets,cost,S5]}
def C6:∃r,aW [.tup [.str "again",.int n,.int j,.str x,pt g,pt g'],.tup [.str "again",.int n,.int j,.str x,rd g,rd g',.tup []],.int k,.lst [bG C g k1 r1,bG C g' k2 r2],.int 0]=bw (bG C (.again n j x g g' []) k r):=by
 obtain⟨r,h⟩:=QH (C:=C) (w0 := "again") (l:=[.int n,.int j,.str x,pt g,pt g']) (q:=.tup [.str "again",.int n,.int j,.str x,rd g,rd g',.tup []]) (k:=.int k) (g1:=g) (k1:=k1) (r1:=r1) (g2:=g') (k2:=k2) (r2:=r2) (own:=0);exact{r,h.trans<|by simp_all[bG,pt,rd,size,lets,cost,tupI,tH,KN]}
def yY:∃r,aW [.tup [.str "pick",.int c,.int j,pt g,pt g',pt g2],.tup [.str "pick",.int c,.int j,rd g,rd g',rd g2,.tup []],.int k,.lst [bG C g k1 r1,bG C g' k2 r2,bG C g2 k3 r3],.int 0]=bw (bG C (.pick c j g g' g2 []) k r):=by
 obtain⟨r,h⟩:=qaQ (C:=C) (w0 := "pick") (l:=[.int c,.int j,pt g,pt g',pt g2]) (q:=.tup [.str "pick",.int c,.int j,rd g,rd g',rd g2,.tup []]) (k:=.int k) (g1:=g) (k1:=k1) (r1:=r1) (g2:=g') (k2:=k2) (r2:=r2) (g3:=g2) (k3:=k3) (r3:=r3) (own:=0);exact{r,h.trans<|by simp_all[bG,pt,rd,size,lets,cost,tupI,tH,MW]}
def zC{bk K s c G F z R nm M pd:D}{o:Option D}{ts B zs ps rs:List D}(h1:aL z (.int 1)=bw (.tup ts))(h0:aL z (.int 0)=bw nm)(h2:aL z (.int 2)=bw M)(h4:aL z (.int 4)=bw pd)(tl:ts.length<=2)(zl:zs.length<=2)(U:bD (aQ 0) fP (aR bR<|aC (aD 1)<|aC (aD 2)<|aC (aD 0)<|aC (bF i7 (aD 3)<|eC<|.int 6) aX) ts [bz,bw bk,bw K,bw c]=bw B)(W:nQ (.lst B) F s=bw (.lst zs))
  (c0:bD (aQ 0) fP (bF aL (aD 0)<|eC<|.int 0) zs [bz]=bw ps) (Y:bD (aQ 0) fP (bF aL (aD 0)<|eC<|.int 1) zs [bz]=bw rs) (eo:aW [.tup [.str "use",nm,.tup ps],.tup [.str "use",G,.tup rs,.tup []],M,.lst zs,pd]=bw R) :
  dR (eO 8<|eJ [bz,bw 0,bw 1,bw 3] (gH<|bF aL (aD 7)<|eC<|.int 1) (aQ 0) fP<|aR bR<|aC (aD 1)<|aC (aD 2)<|aC (aD 0)<|aC (bF i7 (aD 3)<|eC<|.int 6) aX)
   (dR (FZ 8 (aD 6)<|aD 2)
   (dR (eO 9<|fQ<|aC (eC<|.str "use")<|aC (bF aL (aD 7)<|eC<|.int 0)<|aC (aR lX<|aC (eJ [bz] (gH<|aD 8) (aQ 0) fP<|bF aL (aD 0)<|eC<|.int 0) aX) aX)
   (dR (eO 10<|fQ<|aC (eC<|.str "use")<|aC (aD 5)<|aC (aR lX<|aC (eJ [bz] (gH<|aD 8) (aQ 0) fP<|bF aL (aD 0)<|eC<|.int 1) aX)<|aC (fQ aX) aX)
   (LJ<|aR aW<|aC (aD 9)<|aC (aD 10)<|aC (bF aL (aD 7)<|eC<|.int 2)<|aC (aD 8)<|aC (bF aL (aD 7)<|eC<|.int 4) aX)))) [bw bk,bw K,bw s,bw c,o,bw G,bw F,bw z,bz,bz,bz]=bw (.rt R):=by
 have N:bD (aQ 0) fP (aR bR<|aC (aD 1)<|aC (aD 2)<|aC (aD 0)<|aC (bF i7 (aD 3)<|eC<|.int 6) aX) ts (kK [bz,bw 0,bw 1,bw 3] [bw bk,bw K,bw s,bw c,o,bw G,bw F,bw z,bz,bz,bz])=bw B:=U
 ac_rfl
def MS{U:List Str}{C:Bk}(B:OkB C){kn:List (Str×Int)}(hk:kn.length<=100){g:Rg}{k r c:Int}{n:Nat}(G:Gs U C kn g k n)(c0:0<=c)(c1:c<10^60){v a:Nat}{m:Mk}(hm:C.makes[v]?=bw m)(z:m.takes[a]?=bw k)(o:Option D) :
  ∃g' k' Y,dR (eO 8<|eJ [bz,bw 0,bw 1,bw 3] (gH<|bF aL (aD 7)<|eC<|.int 1) (aQ 0) fP<|aR bR<|aC (aD 1)<|aC (aD 2)<|aC (aD 0)<|aC (bF i7 (aD 3)<|eC<|.int 6) aX)
   (dR (FZ 8 (aD 6)<|aD 2)
   (dR (eO 9<|fQ<|aC (eC<|.str "use")<|aC (bF aL (aD 7)<|eC<|.int 0)<|aC (aR lX<|aC (eJ [bz] (gH<|aD 8) (aQ 0) fP<|bF aL (aD 0)<|eC<|.int 0) aX) aX)
   (dR (eO 10<|fQ<|aC (eC<|.str "use")<|aC (aD 5)<|aC (aR lX<|aC (eJ [bz] (gH<|aD 8) (aQ 0) fP<|bF aL (aD 0)<|eC<|.int 1) aX)<|aC (fQ aX) aX)
   (LJ<|aR aW<|aC (aD 9)<|aC (aD 10)<|aC (bF aL (aD 7)<|eC<|.int 2)<|aC (aD 8)<|aC (bF aL (aD 7)<|eC<|.int 4) aX)))) [bw<|bB C,bw<|.lst<|kn.map bX,bw<|bG C g k r,bw<|.int c,o,bw<|.int (v:Int),bw<|.int (a:Int),bw<|mF m,bz,bz,bz]=bw (.rt<|bG C g' k' Y)/\Gs U C kn g' k' (n+2):=by
 have W:=zap hm;have ak:=Ten
 have gb:=B.gb m W;have tb:=B.tb m W;have sz:=G.sz;rcases B.tk m W with⟨t,N⟩|⟨t,u,N⟩
 .rw[N]at z tb
  have m1:aL (mF m) (.int 1)=bw (.tup [.int t]):=by rw[AI,N];rfl
  have F:=tb t (by simp_all);obtain⟨g2,e2,w2,s2,l2,n2⟩:=d9 B (kn:=kn) (k:=t) (c:=c/6) hk F.1 F.2 (by lia)<|by lia
  match a,z with
  |0,z=>
   have M:t=k:=by simpa using z
   subst M;obtain⟨Y,eo⟩:=SQ hm (g:=g) (k1:=t) (r1:=r);have pu:nQ (.lst [bG C g2 t 0]) (.int 0) (bG C g t r)=bw (.lst [bG C g t r]):=nM (by decide) (by simp_all);exact{.use1 v m.nm g [],m.g,Y,zC (bk:=bB C) (K:=.lst<|kn.map bX) (c:=.int c) m1 FU K7 VF (by simp_all) (by simp_all) (by ac_rfl) pu (by ac_rfl) (by ac_rfl) eo,{{m,t,hm,rfl,N,G.wf,rfl},gb.1,gb.2,by simp only[size];lia,G.nf}}
  |a+1,z=>simp[-zad,-zab,aA,aB]at z
 .rw[N]at z tb
  have m1:aL (mF m) (.int 1)=bw (.tup [.int t,.int u]):=by rw[AI,N];rfl
  have F:=tb t (by simp_all);have ac:=tb u (by simp_all);obtain⟨g2,e2,w2,s2,l2,n2⟩:=d9 B (kn:=kn) (k:=t) (c:=c/6) hk F.1 F.2 (by lia) (by lia);obtain⟨g3,e3,w3,s3,l3,n3⟩:=d9 B (kn:=kn) (k:=u) (c:=c/6) hk ac.1 ac.2 (by lia)<|by lia
  match a,z with
  |0,z=>
   have M:t=k:=by simpa using z
   subst M;obtain⟨Y,eo⟩:=GK hm (g:=g) (k1:=t) (r1:=r) (g':=g3) (k2:=u) (r2:=0);have pu:nQ (.lst [bG C g2 t 0,bG C g3 u 0]) (.int 0) (bG C g t r)=bw (.lst [bG C g t r,bG C g3 u 0]):=nM (by decide) (by simp_all);exact{.use2 v m.nm g g3 [],m.g,Y,zC (bk:=bB C) (K:=.lst<|kn.map bX) (c:=.int c) m1 FU K7 VF (by simp_all) (by simp_all) (by ac_rfl) pu (by ac_rfl) (by ac_rfl) eo,{{m,t,u,hm,rfl,N,G.wf,w3,rfl},gb.1,gb.2,by simp only[size];lia,{G.nf,n3 _ _}}}
  |1,z=>
   have M:u=k:=by simpa using z
   subst M;obtain⟨Y,eo⟩:=GK hm (g:=g2) (k1:=t) (r1:=0) (g':=g) (k2:=u) (r2:=r);have pu:nQ (.lst [bG C g2 t 0,bG C g3 u 0]) (.int 1) (bG C g u r)=bw (.lst [bG C g2 t 0,bG C g u r]):=nM (by decide) (by simp_all);exact{.use2 v m.nm g2 g [],m.g,Y,zC (bk:=bB C) (K:=.lst<|kn.map bX) (c:=.int c) m1 FU K7 VF (by simp_all) (by simp_all) (by ac_rfl) pu (by ac_rfl) (by ac_rfl) eo,{{m,t,u,hm,rfl,N,w2,G.wf,rfl},gb.1,gb.2,by simp only[size];lia,{n2 _ _,G.nf}}}
  |a+2,z=>simp[-zad,-zab,aA,aB]at z
def Gs.mono(G:Gs U C kn g k n)(h:n<=n'):Gs U C kn g k n':={G.wf,G.k0,G.k1,zaL G.sz h,G.nf}
def EL{U:List Str}{C:Bk}(B:OkB C){kn:List (Str×Int)}(hk:kn.length<=100){g:Rg}{k r c:Int}{n:Nat}(G:Gs U C kn g k n)(c0:0<=c)(c1:c<10^60):∃g' M W,mY [bB C,.lst<|kn.map bX,bG C g k r,.int c]=bw (bG C g' M W)/\Gs U C kn g' M (n+2):=by
 suffices h:∃d,mY [bB C,.lst<|kn.map bX,bG C g k r,.int c]=bw d/\∃g' M W,d=bG C g' M W/\Gs U C kn g' M (n+2) by
  obtain⟨d,h1,g',M,W,rfl,h2⟩:=h;exact{g',M,W,h1,h2}
 have ml:=B.ml;refine eD ?_;unfold t7;rw[aH<|aM (d:=.lst [])<|by simp_all];refine j9 (items:=aS 0 1 C.makes.length) (by simp_all[aE,wW,dC<|show C.makes.length<=1000000 by lia]) (λi ρ=>∃(ps:List<|Nat×Nat) (o5 F:Option D),ρ=[bw<|bB C,bw<|.lst<|kn.map bX,bw<|bG C g k r,bw<|.int c,bw<|.lst<|ps.map F6,o5,F,bz,bz,bz,bz]/\(∀p∈ps,∃m,C.makes[p.1]?=bw m/\m.takes[p.2]?=bw k)/\ps.length<=2*i) {[],bz,bz,by simp_all[aE],(λ_ h=>nomatch h),by simp_all} ?_ ?_
 .rintro i x ρ hx ⟨ps,o5,F,rfl,Y,hl⟩
  obtain⟨N,rfl⟩:=cA hx;have e0:(0:Int)+(i:Int)*1=(i:Int):=by lia
  rw[e0];obtain⟨m,hm⟩:∃m,C.makes[i]?=bw m:={C.makes[i],zaG N};have ag:=zap hm;have tl:m.takes.length<=2:=by rcases B.tk m ag with⟨t,et⟩|⟨t,u,et⟩ <;> rw[et] <;> simp_all
  obtain⟨ρ',e,ak,aj,rfl,ah,ae⟩:=AA (g:=aQ 6) (b:=DO (sA<|bF kQ (bF aL (bF aL (bF aL (bF aL (aD 0)<|eC<|.int 3)<|aD 5)<|eC<|.int 1)<|aD 6)<|bF aL (aD 2)<|eC<|.int 2) (K6 4<|fQ<|aC (aD 5)<|aC (aD 6) aX) VG) (items:=aS 0 1 m.takes.length) (ρ:=[bw<|bB C,bw<|.lst<|kn.map bX,bw<|bG C g k r,bw<|.int c,bw<|.lst<|ps.map F6,bw<|.int (i:Int),F,bz,bz,bz,bz]) (λj ρ=>∃(ps:List<|Nat×Nat) (F:Option D),ρ=[bw<|bB C,bw<|.lst<|kn.map bX,bw<|bG C g k r,bw<|.int c,bw<|.lst<|ps.map F6,bw<|.int (i:Int),F,bz,bz,bz,bz]/\(∀p∈ps,∃m,C.makes[p.1]?=bw m/\m.takes[p.2]?=bw k)/\ps.length<=2*i+j) {ps,F,rfl,Y,hl} (by
   rintro j x ρ hx ⟨ps,F,rfl,Y,hl⟩;obtain⟨N,rfl⟩:=cA hx;have e0:(0:Int)+(j:Int)*1=(j:Int):=by lia
   rw[e0];obtain⟨t,ht⟩:∃t,m.takes[j]?=bw t:={m.takes[j],zaG N};have af:hW (m.takes.map D.int) (j:Int)=bw (.int t):=bY (by rw[zav,ht];rfl);have hz:(ps.map F6).length<=1000000:=by rw[zak];lia
   have e3:=mQ hm;have ap:aL (tupI m.takes) (.int (j:Int))=bw (.int t):=af;by_cases h:t=k
   .refine{[bw<|bB C,bw<|.lst<|kn.map bX,bw<|bG C g k r,bw<|.int c,bw<|.lst<|(ps++[(i,j)]).map F6,bw<|.int (i:Int),bw<|.int (j:Int),bz,bz,bz,bz],?_,ps++[(i,j)],_,rfl,λp al=>?_,by simp_all;lia}
    .have de:kQ (.int t) (.int k)=bw (.bl ca):=by simp_all[h]
     rw[show(ps++[(i,j)]).map F6=ps.map F6++[.tup [.int (i:Int),.int (j:Int)]] by simp_all[F6]]
     ac_rfl
    .rcases List.mem_append.mp al with z|z
     .exact Y p z
     .rw[List.mem_singleton.mp z];exact{m,hm,by rw[<- h];exact ht}
   .refine{[bw<|bB C,bw<|.lst<|kn.map bX,bw<|bG C g k r,bw<|.int c,bw<|.lst<|ps.map F6,bw<|.int (i:Int),bw<|.int (j:Int),bz,bz,bz,bz],?_,ps,_,rfl,Y,by lia}
    have de:kQ (.int t) (.int k)=bw (.bl cf):=by simp_all[h]
    ac_rfl)
  rw[bL]at ae;refine{_,?_,ak,bw<|.int (i:Int),aj,rfl,ah,by lia};show(aQ 5 _ _).bind _=_;rw[q_name,aA,q_for];have hf:lR cQ (aC (aR hZ<|aC (bF aL (bF aL (bF aL (aD 0)<|eC<|.int 3)<|aD 5)<|eC<|.int 1) aX) aX) [bw<|bB C,bw<|.lst<|kn.map bX,bw<|bG C g k r,bw<|.int c,bw<|.lst<|ps.map F6,bw<|.int (i:Int),F,bz,bz,bz,bz]=bw (aS 0 1 m.takes.length):=by
   simp_all[wW,mQ hm,AI,tupI,dC<|show m.takes.length<=1000000 by lia]
  exact(congrArg (λz=>zcR z _) hf).trans e
 .rintro ρ ⟨ps,o5,F,rfl,Y,hl⟩
  rw[bL]at hl;by_cases h0:ps.length=0
  .exact{bG C g k r,qG<|by simp_all[h0],g,k,r,rfl,G.mono<|by lia}
  .have lp:(0:Int)<(ps.length:Int):=by lia
   obtain⟨d,hm,_,hd⟩:=wC (l:=ps.map F6) (k:=c%(ps.length:Int)) (zat _<|zaU lp) (by rw[zak];exact zaw _ lp);obtain⟨⟨v,a⟩,ai,rfl⟩:=List.mem_map.mp hm;obtain⟨m,ab,ha⟩:=Y _ ai;obtain⟨g',M,W,e,G'⟩:=MS B hk (r:=r) G c0 c1 ab ha<|bw<|.lst<|ps.map F6;rw[aH (ρ':=[bw<|bB C,bw<|.lst<|kn.map bX,bw<|bG C g k r,bw<|.int c,bw<|.lst<|ps.map F6,o5,F,bz,bz,bz,bz])<|by simp_all[h0]];rw[aH (ρ':=[bw<|bB C,bw<|.lst<|kn.map bX,bw<|bG C g k r,bw<|.int c,bw<|.lst<|ps.map F6,bw<|.int (v:Int),bw<|.int (a:Int),bz,bz,bz,bz])<|by simp_all[bU lp,hd];simp_all[F6]];rw[aH<|aM (d:=mF m)<|by simp_all[wW,mQ ab]];exact{_,e,g',M,W,rfl,G'}
def nE{bk K s R M p1 p2 r0 r1 r2 Y N W G B F:D}{y a k c z:Int}{L:List D}(ha:dZ (.int y) (.int 3)=bw (.int a))(hs:aL s (.int 2)=bw (.int k))(hb:aL bk (.int 1)=bw (.tup L))(hq:∃q:Int,dZ (.int<|y/3) (.int (L.length:Int))=bw (.int q)/\((a=0/\c=k/\z=q)\/(¬ a=0/\c=q/\z=k)))(e0:bR [bk,K,.int c,.int<|y/5]=bw Y)(e1:bR [bk,K,.int z,.int<|y/7]=bw N)(e2:bR [bk,K,.int z,.int<|y/11]=bw W)(pu:nQ (.lst<|[Y,N]++[W]) (.int a) s=bw (.lst [G,B,F]))
  (a0:aL G (.int 0)=bw M) (a1:aL B (.int 0)=bw p1) (a2:aL F (.int 0)=bw p2) (b0:aL G (.int 1)=bw r0) (b1:aL B (.int 1)=bw r1) (b2:aL F (.int 1)=bw r2) (eo:aW [.tup [.str "pick",.int c,.int z,M,p1,p2],.tup [.str "pick",.int c,.int z,r0,r1,r2,.tup []],.int z,.lst [G,B,F],.int 0]=bw R):jI [bk,K,s,.int y]=bw R:=by
 refine aF ?_;unfold n9;rw[aH<|aM (d:=.int a)<|by ac_rfl,aH<|aM (d:=.int k)<|by ac_rfl,aH<|aM (d:=.int k)<|by ac_rfl];have ei:DO (sA<|bF kQ (aD 4)<|eC<|.int 0) (eO 6<|bF dZ (bF i7 (aD 3)<|eC<|.int 3)<|aR hZ<|aC (bF aL (aD 0)<|eC<|.int 1) aX) (eO 5<|bF dZ (bF i7 (aD 3)<|eC<|.int 3)<|aR hZ<|aC (bF aL (aD 0)<|eC<|.int 1) aX) [bw bk,bw K,bw s,bw<|.int y,bw<|.int a,bw<|.int k,bw<|.int k,bz,bz]=bw (.nx [bw bk,bw K,bw s,bw<|.int y,bw<|.int a,bw<|.int c,bw<|.int z,bz,bz]):=by
  obtain⟨q,U,⟨h,rfl,rfl⟩|⟨h,rfl,rfl⟩⟩:=hq
  .simp_all[h,hb,i5,U]
  .simp_all[h,hb,i5,U]
 refine zcl (aH ei) ?_
 ac_rfl
def yQ(B:OkB C)(hk:kn.length<=100)(G:Gs U C kn g k n)(y0:0<=y)(y1:y<10^60):∃g' k' N,jI [bB C,.lst<|kn.map bX,bG C g k r,.int y]=bw (bG C g' k' N)/\Gs U C kn g' k' (n+3):=by
 have am:=Ten
 have mp:(0:Int)<(C.kinds.length:Int):=by have:=B.k1;lia
 have F:=zat (y/3)<|zaU mp;have M:=zaw (y/3) mp;have sz:=G.sz;have dm:∀ {a:Int},y%3=a->dZ (.int y) (.int 3)=bw (.int a):=λ{a} h=>by rw[bU<|by decide,h]
 have dq:dZ (.int<|y/3) (.int ((C.kinds.map D.str).length:Int))=bw (.int<|y/3%(C.kinds.length:Int)):=by rw[zak];exact bU mp
 have W:∀(k:Int),0<=k->k<(C.kinds.length:Int)->∀c:Int,0<=c->c<10^60->_:=λk h0 h1 c c0 c1=>d9 B (kn:=kn) (k:=k) (c:=c) hk h0 h1 c0 c1
 generalize y/3%(C.kinds.length:Int)=q at F M dq;by_cases h:y%3=0
 .obtain⟨z,e0,w0,s0,l0,o0⟩:=W k G.k0 G.k1 (y/5) (by lia) (by lia)
  obtain⟨g1,e1,w1,s1,l1,o1⟩:=W q F M (y/7) (by lia) (by lia);obtain⟨g2,e2,w2,s2,l2,o2⟩:=W q F M (y/11) (by lia) (by lia);obtain⟨N,eo⟩:=yY (C:=C) (c:=k) (j:=q) (k:=q) (g:=g) (k1:=k) (r1:=r) (g':=g1) (k2:=q) (r2:=0) (g2:=g2) (k3:=q) (r3:=0);have Y:nQ (.lst [bG C z k 0,bG C g1 q 0,bG C g2 q 0]) (.int 0) (bG C g k r)=bw (.lst [bG C g k r,bG C g1 q 0,bG C g2 q 0]):=nM (by decide) (by simp_all);exact{.pick k q g g1 g2 [],q,N,nE (dm h) DH FY {q,dq,.inl {rfl,rfl,rfl}} e0 e1 e2 Y wG wG wG wF wF wF eo,{{{G.k0,G.k1},{F,M},G.wf,w1,w2,rfl},F,M,by simp only[size];lia,{G.nf,o1 _ _,o2 _ _}}}
 .obtain⟨z,e0,w0,s0,l0,o0⟩:=W q F M (y/5) (by lia) (by lia)
  obtain⟨g1,e1,w1,s1,l1,o1⟩:=W k G.k0 G.k1 (y/7) (by lia) (by lia);obtain⟨g2,e2,w2,s2,l2,o2⟩:=W k G.k0 G.k1 (y/11) (by lia) (by lia);rcases(by lia:y%3=1\/y%3=2)with h|h
  .obtain⟨N,eo⟩:=yY (C:=C) (c:=q) (j:=k) (k:=k) (g:=z) (k1:=q) (r1:=0) (g':=g) (k2:=k) (r2:=r) (g2:=g2) (k3:=k) (r3:=0)
   have Y:nQ (.lst [bG C z q 0,bG C g1 k 0,bG C g2 k 0]) (.int 1) (bG C g k r)=bw (.lst [bG C z q 0,bG C g k r,bG C g2 k 0]):=nM (by decide) (by simp_all);exact{.pick q k z g g2 [],k,N,nE (dm h) DH FY {q,dq,.inr {by decide,rfl,rfl}} e0 e1 e2 Y wG wG wG wF wF wF eo,{{{F,M},{G.k0,G.k1},w0,G.wf,w2,rfl},G.k0,G.k1,by simp only[size];lia,{o0 _ _,G.nf,o2 _ _}}}
  .obtain⟨N,eo⟩:=yY (C:=C) (c:=q) (j:=k) (k:=k) (g:=z) (k1:=q) (r1:=0) (g':=g1) (k2:=k) (r2:=0) (g2:=g) (k3:=k) (r3:=r)
   have Y:nQ (.lst [bG C z q 0,bG C g1 k 0,bG C g2 k 0]) (.int 2) (bG C g k r)=bw (.lst [bG C z q 0,bG C g1 k 0,bG C g k r]):=nM (by decide) (by simp_all);exact{.pick q k z g1 g [],k,N,nE (dm h) DH FY {q,dq,.inr {by decide,rfl,rfl}} e0 e1 e2 Y wG wG wG wF wF wF eo,{{{F,M},{G.k0,G.k1},w0,w1,G.wf,rfl},G.k0,G.k1,by simp only[size];lia,{o0 _ _,o1 _ _,G.nf}}}
def F8(B:kn.length<=99):eE (.lst<|kn.map bX) (.lst [.tup [.str x,.int k]])=bw (.lst<|(kn++[(x,k)]).map bX):=by
 have z:a9 (kn.length+1)=ca:=decide_eq_true (by lia);simp_all[z,bX]
def xE:∀p∈kn++[x],p∈x::kn:=λp B=>by
 rcases List.mem_append.mp B with z|z
 .exact zaq _ z
 .rw[List.mem_singleton.mp z];exact zar ..
def yP(B:OkB C)(N:kn.length<=99)(hx:x∉kn.map (·.1))(hU:x∈U)(G:Gs U C kn g k n)(y0:0<=y)(y1:y<10^60):∃g' F z,nW [bB C,.lst<|kn.map bX,bG C g k r,.str x,.int y]=bw (bG C g' F z)/\Gs U C kn g' F (n+2):=by
 have ac:=Ten
 have a0:=zat y (show(4:Int)≠0 by decide);have a1:=zaw y (show(0:Int)<4 by decide);have sz:=G.sz;obtain⟨M,W,w0,s0,l0,Y⟩:=d9 B (kn:=kn++[(x,k)]) (k:=k) (c:=y/4) (by simp_all;lia) G.k0 G.k1 (by lia) (by lia);obtain⟨z,eo⟩:=C6 (C:=C) (x:=x) (n:=y%4) (j:=k) (k:=k) (g:=g) (k1:=k) (r1:=r) (g':=M) (k2:=k) (r2:=0);refine{.again (y%4) k x g M [],k,z,aF ?_,{{{a0,a1},{G.k0,G.k1},G.wf,w0.mono xE,rfl},G.k0,G.k1,by simp only[size];lia,{G.nf,{hx,hU},Y _ _}}};have ks:=F8 (x:=x) (k:=k) N;generalize D.lst ((kn++[(x,k)]).map bX)=K at ks W;generalize D.lst (kn.map bX)=K0 at ks;unfold nY
 ac_rfl
def AR(B:OkB C)(hk:kn.length<=99)(hx:x∉kn.map (·.1))(hU:x∈U)(G:Gs U C kn g k n)(y0:0<=y)(y1:y<10^60):∃g' N F,qV [bB C,.lst<|kn.map bX,bG C g k r,.str x,.int y]=bw (bG C g' N F)/\Gs U C kn g' N (n+2):=by
 have ae:=Ten
 have z:(0:Int)<(C.kinds.length:Int):=by have:=B.k1;lia
 have M:=zat y<|zaU z;have Y:=zaw y z;have sz:=G.sz;obtain⟨W,e0,w0,s0,l0,o0⟩:=d9 B (kn:=kn++[(x,k)]) (k:=y%(C.kinds.length:Int)) (c:=y/4) (by simp_all;lia) M Y (by lia) (by lia);obtain⟨F,eo⟩:=PK (C:=C) (x:=x) (j:=k) (k:=y%(C.kinds.length:Int)) (g:=g) (k1:=k) (r1:=r) (g':=W) (k2:=y%(C.kinds.length:Int)) (r2:=0);have dk:dZ (.int y) (.int ((C.kinds.map D.str).length:Int))=bw (.int<|y%(C.kinds.length:Int)):=by rw[zak];exact bU z
 refine{.lett x k g W,y%(C.kinds.length:Int),F,aF ?_,{{G.wf,w0.mono xE},M,Y,by simp only[size];lia,{G.nf,{hx,hU},o0 _ _}}};have ks:=F8 (x:=x) (k:=k) hk;generalize D.lst ((kn++[(x,k)]).map bX)=K at ks e0;generalize D.lst (kn.map bX)=K0 at ks;unfold rF
 ac_rfl
def yR(B:OkB C)(hk:kn.length<=99)(hx:x∉kn.map (·.1))(hU:x∈U)(G:Gs U C ((x,j)::kn) g k n)(j0:0<=j)(Y:j<(C.kinds.length:Int))(y0:0<=y)(y1:y<10^60):∃g' N F,jH [bB C,.lst<|kn.map bX,bG C g k r,bX (x,j),.int y]=bw (bG C g' N F)/\Gs U C kn g' N (n+2):=by
 suffices h:∃d,jH [bB C,.lst<|kn.map bX,bG C g k r,bX (x,j),.int y]=bw d/\∃g' N F,d=bG C g' N F/\Gs U C kn g' N (n+2) by
  obtain⟨d,h1,g',N,F,rfl,h2⟩:=h;exact{g',N,F,h1,h2}
 have ad:=Ten
 have sz:=G.sz;obtain⟨M,e0,w0,s0,l0,o0⟩:=d9 B (kn:=kn) (k:=j) (c:=y/8) (by lia) j0 Y (by lia) (by lia);refine eD ?_;unfold nZ;rw[aH (ρ':=[bw<|bB C,bw<|.lst<|kn.map bX,bw<|bG C g k r,bw<|bX (x,j),bw<|.int y,bw<|.str x,bw<|.int j,bz,bz,bz,bz,bz])<|by simp_all[aE];simp_all[bX]];rw[aH<|aM (d:=bG C M j 0)<|by simp_all[i5,e0]];rw[aH<|aM (d:=.lst [bG C M j 0,bG C g k r])<|by simp_all];have hl:∃d,dR (eO 9<|fQ<|aC (eC<|.str "let")<|aC (aD 5)<|aC (aD 6)<|aC (bF aL (aD 7)<|eC<|.int 1)<|aC (bF aL (aD 2)<|eC<|.int 1) aX)
   (LJ<|aR aW<|aC (fQ<|aC (eC<|.str "let")<|aC (aD 5)<|aC (bF aL (aD 7)<|eC<|.int 0)<|aC (bF aL (aD 2)<|eC<|.int 0) aX)<|aC (aD 9)<|aC (bF aL (aD 2)<|eC<|.int 2)<|aC (aD 8)<|aC (eC<|.int 0) aX) [bw<|bB C,bw<|.lst<|kn.map bX,bw<|bG C g k r,bw<|bX (x,j),bw<|.int y,bw<|.str x,bw<|.int j,bw<|bG C M j 0,bw<|.lst [bG C M j 0,bG C g k r],bz,bz,bz]=bw (.rt d)/\∃g' N F,d=bG C g' N F/\Gs U C kn g' N (n+2):=by
  obtain⟨F,eo⟩:=PK (C:=C) (x:=x) (j:=j) (k:=k) (g:=M) (k1:=j) (r1:=0) (g':=g) (k2:=k) (r2:=r);refine{bG C (.lett x j M g) k F,?_,.lett x j M g,k,F,rfl,{{w0,G.wf},G.k0,G.k1,by simp only[size];lia,{o0 _ _,{hx,hU},G.nf}}}
  ac_rfl
 have done:∀b:Bool,WE (sA<|bF kQ (bF dZ (aD 4)<|eC<|.int 2)<|eC<|.int 0) (WE (sA<|bF AK (aD 6)<|bF aL (aD 2)<|eC<|.int 2)<|sA<|bF DF (bF aL (aD 2)<|eC<|.int 5)<|eC<|.int 1) [bw<|bB C,bw<|.lst<|kn.map bX,bw<|bG C g k r,bw<|bX (x,j),bw<|.int y,bw<|.str x,bw<|.int j,bw<|bG C M j 0,bw<|.lst [bG C M j 0,bG C g k r],bz,bz,bz]=bw b->(b=cf->j=k)->∃d,dR (DO (WE (sA<|bF kQ (bF dZ (aD 4)<|eC<|.int 2)<|eC<|.int 0)<|WE (sA<|bF AK (aD 6)<|bF aL (aD 2)<|eC<|.int 2)<|sA<|bF DF (bF aL (aD 2)<|eC<|.int 5)<|eC<|.int 1) (dR (eO 9<|fQ<|aC (eC<|.str "let")<|aC (aD 5)<|aC (aD 6)<|aC (bF aL (aD 7)<|eC<|.int 1)<|aC (bF aL (aD 2)<|eC<|.int 1) aX)
   (LJ<|aR aW<|aC (fQ<|aC (eC<|.str "let")<|aC (aD 5)<|aC (bF aL (aD 7)<|eC<|.int 0)<|aC (bF aL (aD 2)<|eC<|.int 0) aX)<|aC (aD 9)<|aC (bF aL (aD 2)<|eC<|.int 2)<|aC (aD 8)<|aC (eC<|.int 0) aX)) VG)
   (dR (eO 10<|bF dZ (bF i7 (aD 4)<|eC<|.int 2)<|eC<|.int 4)
   (dR (eO 11<|fQ<|aC (eC<|.str "again")<|aC (aD 10)<|aC (aD 6)<|aC (aD 5)<|aC (bF aL (aD 7)<|eC<|.int 0)<|aC (bF aL (aD 2)<|eC<|.int 0) aX)
   (LJ<|aR aW<|aC (aD 11)<|aC (fQ<|aC (eC<|.str "again")<|aC (aD 10)<|aC (aD 6)<|aC (aD 5)<|aC (bF aL (aD 7)<|eC<|.int 1)<|aC (bF aL (aD 2)<|eC<|.int 1)<|aC (fQ aX) aX)<|aC (aD 6)<|aC (aD 8)<|aC (eC<|.int 0) aX))) [bw<|bB C,bw<|.lst<|kn.map bX,bw<|bG C g k r,bw<|bX (x,j),bw<|.int y,bw<|.str x,bw<|.int j,bw<|bG C M j 0,bw<|.lst [bG C M j 0,bG C g k r],bz,bz,bz]=bw (.rt d)/\∃g' N F,d=bG C g' N F/\Gs U C kn g' N (n+2):=by
  intro b hb hj;refine G7 b hb (λ_=>hl) λhf=>?_
  have W:=hj hf;subst W;have a0:=zat (y/2) (show(4:Int)≠0 by decide);have a1:=zaw (y/2) (show(0:Int)<4 by decide);obtain⟨F,eo⟩:=C6 (C:=C) (x:=x) (n:=y/2%4) (j:=j) (k:=j) (g:=M) (k1:=j) (r1:=0) (g':=g) (k2:=j) (r2:=r);refine{bG C (.again (y/2%4) j x M g []) j F,?_,.again (y/2%4) j x M g [],j,F,rfl,{{{a0,a1},{j0,Y},w0,G.wf,rfl},j0,Y,by simp only[size];lia,{o0 _ _,{hx,hU},G.nf}}}
  ac_rfl
 by_cases h1:y%2=0
 .exact done ca (by simp_all[bU,h1]) λz=>nomatch z
 .by_cases h2:j=k
  .exact done (decide (1<r)) (by simp_all[bU,h1,DH,h2,qbV]) λ_=>h2
  .exact done ca (by simp_all[bU,h1,DH,h2]) λz=>nomatch z
def Q1(h:bX p=bX q):p=q:=by
 unfold bX at h;injection h with h
 injection h with h1 h2
 injection h2 with h2 _
 injection h1 with h1
 injection h2 with h2
 exact Prod.ext h1 h2
def VP:AK (bX p) (bX q)=bw (.bl<|decide (p≠q)):=by
 have o:∀p:Str×Int,fX (bX p)=ca:=λp=>(eqN.tup (n:=0) (l:=[.str p.1,.int p.2]) (by
  intro d hd;rcases List.mem_cons.mp hd with z|z
  .rw[z];exact eqN.str
  .rw[List.mem_singleton.mp z];exact eqN.int)).ok (by decide)
 unfold AK LM;rw[ci<|.inr {rfl,rfl,o p,o q}];by_cases h:p=q
 .subst h;simp_all
 .have h2:¬ bX p=bX q:=λz=>h (Q1 z)
  simp_all[h,h2]
theorem xR:∀(kn:List<|Str×Int) (o:Option D),bD (aQ 0) (sA<|bF AK (aD 0)<|bF aL (aD 1)<|eC<|.int 0) (aD 0) (kn.map bX) [o,bw<|.lst<|(q::left).map bX]=bw ((kn.filter λp=>decide (p≠q)).map bX)
 |[],o=>rfl
 |p::kn,o=>by
  have ih:=xR (q:=q) (left:=left) kn<|bw<|bX p;by_cases h:p=q
  .simp[-zad,-zab,aA,aB,bD,at0,VP,h]at ih ⊢;simp_all[ih]
  .simp[-zad,-zab,aA,aB,bD,at0,VP,h]at ih ⊢;simp_all[ih]
def DT{B:Type}[DecidableEq B]{q:B}{P L:List B}(G:q∉P)(F:q∉L):(P++q::L).filter (λp=>decide (p≠q))=P++L:=by
 have f:∀ {l:List B},q∉l->l.filter (λp=>decide (p≠q))=l:=λ{l} h=>List.filter_eq_self.mpr λa M=>decide_eq_true λz=>h<|z ▸ M
 rw[List.filter_append,zch,cj<|by simp_all,f G,f F]
structure Sc(nms:List Str)(kn:List<|Str×Int):Prop where
 nd:(kn.map (·.1)).Nodup
 sub:∀p∈kn,p.1∈nms.take 5
def Sc.out(G:nms.Nodup)(S:Sc nms kn)(hi:5<=i)(hx:nms[i]?=bw x):x∉kn.map (·.1):=λz=>by
 obtain⟨p,N,e⟩:=List.mem_map.mp z;have h1:=S.sub p N;rw[e]at h1;obtain⟨j,B⟩:=List.mem_iff_getElem?.mp h1;have U:=(List.getElem?_eq_some_iff.mp B).1;rw[zb3]at U;rw[List.getElem?_take_of_lt<|by lia]at B;obtain⟨Y,F⟩:=List.getElem?_eq_some_iff.mp B;obtain⟨W,M⟩:=List.getElem?_eq_some_iff.mp hx;have:=(zd9 G).mp<|F.trans M.symm
 lia
def Now(C:Bk)(nms:List Str)(P:List<|Str×Int)(m:Nat)(z:D):Prop:=∃g k r left,z=.tup [bG C g k r,.lst<|left.map bX,.lst<|(P++left).map bX]/\Gs nms C (P++left) g k (15-2*m)/\OkN C (P++left)/\left.length=m/\m<=2/\P.length<=3/\Sc nms (P++left)
def tR{C:Bk}(B:OkB C){nms:List Str}(h8:nms.length=8)(ae:nms.Nodup){P:List (Str×Int)}{m:Nat}{y:Int}(y0:0<=y)(y1:y<10^60)(N:Now C nms P m now):∃aa U,jO [bB C,.lst<|nms.map .str,now,.int y]=bw aa/\Now C nms P U aa/\U<=m/\(4<y%7->0<m->U<m):=by
 suffices h:∃d,jO [bB C,.lst<|nms.map .str,now,.int y]=bw d/\∃U,Now C nms P U d/\U<=m/\(4<y%7->0<m->U<m) by
  obtain⟨d,h1,U,h2⟩:=h;exact{d,U,h1,h2}
 have a6:=Ten
 obtain⟨g,k,r,left,rfl,G,K,W,ao,ai,S⟩:=N;have ac:(P++left).length<=10:=by rw[zbm];lia
 have zk:a9 (P++left).length=ca:=decide_eq_true (by lia);refine eD ?_;unfold uQ;rw[aH (ρ':=[bw<|bB C,bw<|.lst<|nms.map .str,bw<|.tup [bG C g k r,.lst<|left.map bX,.lst<|(P++left).map bX],bw<|.int y,bw<|bG C g k r,bw<|.lst<|left.map bX,bw<|.lst<|(P++left).map bX,bz,bz])<|by ac_rfl];refine G7 (decide (4<y%7) && decide (0<left.length)) ?_ ?_ ?_
 .by_cases h1:4<y%7 <;> simp_all[bU,h1]
 .intro Y
  rw[zaS]at Y;have h1:4<y%7:=of_decide_eq_true Y.1;have h2:0<left.length:=of_decide_eq_true Y.2
  match left,h2,W,K,S,G,zk,ac with
  |(x,j)::left,h2,W,K,S,G,zk,ac=>
   have es:=xR (q:=(x,j)) (left:=left) (P++(x,j)::left) bz;have nd:=S.nd;rw[zaO,zaj,zeI]at nd;have af:=List.nodup_cons.mp nd.2.1;have x1:x∉P.map (·.1):=λz=>nd.2.2 _ z _ (zar ..) rfl
   have x2:x∉left.map (·.1):=af.1;have q1:(x,j)∉P:=λz=>x1<|List.mem_map.mpr {_,z,rfl}
   have q2:(x,j)∉left:=λz=>x2<|List.mem_map.mpr {_,z,rfl}
   rw[DT q1 q2]at es;have lj:=K (x,j) (by simp_all);have hx:x∉(P++left).map (·.1):=by
    rw[zaO];intro z;rcases List.mem_append.mp z with z|z
    .exact x1 z
    .exact x2 z
   have am:∀p∈P++(x,j)::left,p∈(x,j)::(P++left):=λp hp=>by
    rcases List.mem_append.mp hp with z|z
    .exact zaq _<|zbH _ z
    .rcases List.mem_cons.mp z with z|z
     .rw[z];exact zar ..
     .exact zaq _<|zaY _ z
   have ah:∀y∈((x,j)::(P++left)).map (·.1),y∈(P++(x,j)::left).map (·.1):=λy hy=>by
    simp only[zaj,zaO,zaX,List.mem_append]at hy ⊢;rcases hy with z|z|z
    .exact .inr<|.inl z
    .exact .inl z
    .exact .inr<|.inr z
   rw[zbm,zaB]at ac;obtain⟨g',k',r',ec,G'⟩:=yR B (kn:=P++left) (by rw[zbm];lia) (g:=g) (j:=j) (k:=k) (r:=r) (y:=y/7) (x:=x) (n:=15-2*m) hx (List.mem_of_mem_take<|S.sub (x,j)<|by simp_all) {G.wf.mono am,G.k0,G.k1,G.sz,G.nf.anti ah} lj.1 lj.2 (by lia) (by lia);have ms:∀p∈P++left,p∈P++(x,j)::left:=λp hp=>by
    rcases List.mem_append.mp hp with z|z
    .exact zbH _ z
    .exact zaY _<|zaq _ z
   rw[aH<|aM (d:=.lst<|(P++left).map bX)<|by
    generalize (P++(x,j)::left)=kn at es zk;simp_all[zk,kK];simp[-zad,-zab,aA,aB]at es;simp_all[es]]
   have ay:left.length+1=m:=W;have cc:cutD (((x,j)::left).map bX) (bw 1) bz=left.map bX:=by
    rw[zaj];unfold _root_.P.cutD;have s1:HT.sIx (bX (x,j)::left.map bX).length 0 (bw 1)=1:=by
     unfold HT.sIx;simp_all
    have s2:HT.sIx (bX (x,j)::left.map bX).length (bX (x,j)::left.map bX).length bz=left.length+1:=by
     unfold HT.sIx;simp_all
    rw[s1,s2];show(left.map bX).take (left.length+1-1)=_;rw[Nat.add_sub_cancel,zbF<|by simp_all]
   refine{.tup [bG C g' k' r',.lst<|left.map bX,.lst<|(P++left).map bX],?_,left.length,{g',k',r',left,rfl,G'.mono<|by lia,λp hp=>K p<|ms p hp,rfl,by lia,ai,{by rw[zaO,zeI];exact{nd.1,af.2,λa ha b Y=>nd.2.2 a ha b<|zaq _ Y},λp hp=>S.sub p<|ms p hp}},by lia,λ_ _=>by lia};rw[zaj]at cc;have cs:sH (.lst<|bX (x,j)::left.map bX) (bw 1) bz=bw (.lst<|left.map bX):=by
    show bw (D.lst _)=_;rw[cc]
   rw[zaj]
   ac_rfl
 .intro Y
  obtain⟨g1,k1,ew,G1,sg,lg⟩:=nV B K (r:=r) (c:=y/50) G (by lia);rw[aH<|aM (d:=bG C g1 k1 r)<|by ac_rfl];rw[aH<|aM (d:=.int 2)<|by simp_all];refine gR (λρ=>∃F:Int,ρ=[bw<|bB C,bw<|.lst<|nms.map .str,bw<|.tup [bG C g k r,.lst<|left.map bX,.lst<|(P++left).map bX],bw<|.int y,bw<|bG C g1 k1 r,bw<|.lst<|left.map bX,bw<|.lst<|(P++left).map bX,bz,bw<|.int F]) ?_ ?_
  .by_cases h:(4:Int)<(C.kinds.length:Int)
   .have dg:DF (.int ((C.kinds.map D.str).length:Int)) (.int 4)=bw (.bl ca):=by simp_all[h]
    exact{_,by ac_rfl,1,rfl}
   .have dg:DF (.int ((C.kinds.map D.str).length:Int)) (.int 4)=bw (.bl cf):=by simp_all[h]
    exact{_,by ac_rfl,2,rfl}
  .rintro ρ ⟨F,rfl⟩
   have n5:∃s:Str,hW (nms.map D.str) 5=bw (.str s)/\s∉(P++left).map (·.1)/\s∈nms:=by
    obtain⟨s,hs⟩:∃s,nms[5]?=bw s:={nms[5],zaG<|by lia};exact{s,bY (j:=5) (by rw[zav,hs];rfl),S.out ae (i:=5) (by decide) hs,zap hs}
   have n6:∃s:Str,hW (nms.map D.str) 6=bw (.str s)/\s∉(P++left).map (·.1)/\s∈nms:=by
    obtain⟨s,hs⟩:∃s,nms[6]?=bw s:={nms[6],zaG<|by lia};exact{s,bY (j:=6) (by rw[zav,hs];rfl),S.out ae (i:=6) (by decide) hs,zap hs}
   obtain⟨x5,n5,as,ar⟩:=n5;obtain⟨x6,n6,aq,al⟩:=n6;have dl:hZ [.lst<|left.map bX]=bw (.int (left.length:Int)):=by simp_all
   have nh:¬ (4<y%7/\0<left.length):=λ⟨a,b⟩=>by rw[decide_eq_true a,decide_eq_true b]at Y;cases Y
   refine gR (λρ=>∃g2 k2 r2,ρ=[bw<|bB C,bw<|.lst<|nms.map .str,bw<|.tup [bG C g k r,.lst<|left.map bX,.lst<|(P++left).map bX],bw<|.int y,bw<|bG C g2 k2 r2,bw<|.lst<|left.map bX,bw<|.lst<|(P++left).map bX,bz,bw<|.int F]/\Gs nms C (P++left) g2 k2 (15-2*m)) ?_ ?_
   .by_cases h9:size g1<9
    .have G8:Gs nms C (P++left) g1 k1 8:={G1.wf,G1.k0,G1.k1,by lia,G1.nf}
     have ap:(size g1:Int)<9:=by lia
     by_cases h3:y%7<3
     .obtain⟨g2,k2,r2,e2,M⟩:=EL B (by lia) (r:=r) (c:=y/7) G8 (by lia) (by lia)
      exact{_,by ac_rfl,g2,k2,r2,rfl,M.mono<|by lia}
     .by_cases h4:y%7=3
      .obtain⟨g2,k2,r2,e2,M⟩:=yQ B (by lia) (r:=r) (y:=y/7) G8 (by lia) (by lia)
       exact{_,by ac_rfl,g2,k2,r2,rfl,M.mono<|by lia}
      .by_cases h5:y%7=4
       .obtain⟨g2,k2,r2,e2,M⟩:=yP B (by lia) (r:=r) (y:=y/7) (x:=x5) as ar G8 (by lia) (by lia)
        exact{_,by ac_rfl,g2,k2,r2,rfl,M.mono<|by lia}
       .by_cases h6:lets g1+(left.length:Int)<F
        .obtain⟨g2,k2,r2,e2,M⟩:=AR B (by lia) (r:=r) (y:=y/7) (x:=x6) aq al G8 (by lia) (by lia)
         exact{_,by ac_rfl,g2,k2,r2,rfl,M.mono<|by lia}
        .exact{_,by ac_rfl,g1,k1,r,rfl,G1}
    .have ap:¬ (size g1:Int)<9:=by lia
     exact{_,by ac_rfl,g1,k1,r,rfl,G1}
   .rintro ρ ⟨g2,k2,r2,rfl,M⟩
    exact{_,by simp_all,m,{g2,k2,r2,left,rfl,M,K,W,ao,ai,S},zah _,λa b=>absurd {a,by lia} nh}
def OkN.snoc(h:OkN C kn)(a:0<=p.2/\p.2<(C.kinds.length:Int)):OkN C<|kn++[p]:=λq B=>by
 rcases List.mem_append.mp B with z|z
 .exact h q z
 .rw[List.mem_singleton.mp z];exact a
def OkN.app(h:OkN C kn)(h':OkN C kn'):OkN C<|kn++kn':=λq B=>by
 rcases List.mem_append.mp B with z|z
 .exact h q z
 .exact h' q z
def V7{nms:List Str}{i:Int}(B:0<=i)(h:i<(nms.length:Int)):∃s:Str,hW (nms.map D.str) i=bw (.str s)/\nms[i.toNat]?=bw s:=by
 obtain⟨j,rfl⟩:∃j:Nat,i=(j:Int):={i.toNat,by lia};have z:j<nms.length:=by lia
 exact{nms[j],bY (by rw[zav,zaG z];rfl),by rw[zbC];exact zaG z}
def AX{ns:List Int}{C:Bk}(B:OkB C){nms:List Str}(Y:nms.length=8):∃ps,k7 [.lst<|ns.map .int,bB C,.lst<|nms.map .str]=bw (.lst<|ps.map bX)/\OkN C ps/\ps.length<=3/\ps.map (·.1)=nms.take ps.length:=by
 suffices h:∃d,k7 [.lst<|ns.map .int,bB C,.lst<|nms.map .str]=bw d/\∃ps,d=.lst (ps.map bX)/\OkN C ps/\ps.length<=3/\ps.map (·.1)=nms.take ps.length by
  obtain⟨d,h1,ps,rfl,h2⟩:=h;exact{ps,h1,h2}
 obtain⟨f,N⟩:=d8 ns;have aa:=(N 17 (by decide)<|by decide).1;have M:(0:Int)<(C.kinds.length:Int):=by have:=B.k1;lia
 have a0:=zat (f 17) (show(4:Int)≠0 by decide);have a1:=zaw (f 17) (show(0:Int)<4 by decide);refine eD ?_;unfold rK;rw[aH<|aM (d:=.lst [])<|by simp_all];refine j9 (items:=aS 0 1 (f 17%4).toNat) (by have r:=eQ a0 (show f 17%4<=1000000 by lia);ac_rfl) (λi ρ=>∃(ps:List<|Str×Int) (o:Option D),ρ=[bw<|.lst<|ns.map .int,bw<|bB C,bw<|.lst<|nms.map .str,bw<|.lst<|ps.map bX,o]/\OkN C ps/\ps.length=i/\ps.map (·.1)=nms.take i) {[],bz,by ac_rfl,(λ_ h=>nomatch h),rfl,by simp_all} ?_ ?_
 .rintro i x ρ hx ⟨ps,o,rfl,K,G,z⟩
  obtain⟨W,rfl⟩:=cA hx;have U:0<=(0:Int)+(i:Int)*1/\(0:Int)+(i:Int)*1<=3:=by lia
  have F:((0:Int)+(i:Int)*1).toNat=i:=by lia
  generalize (0:Int)+(i:Int)*1=I at U F;have fI:=(N (18+I) (by lia)<|by lia).1;obtain⟨s,es,hs⟩:=V7 (nms:=nms) (i:=I) U.1 (by rw[Y];lia);rw[F]at hs;have hz:(ps.map bX).length<=1000000:=by rw[zak];lia
  have md:dZ (.int<|f<|18+I) (.int ((C.kinds.map D.str).length:Int))=bw (.int<|f (18+I)%(C.kinds.length:Int)):=by rw[zak];exact bU M
  apply zB
  .exact IM rfl<|by ac_rfl
  refine{ps++[(s,f (18+I)%(C.kinds.length:Int))],_,by rw[zaO];rfl,K.snoc {zat _<|zaU M,zaw _ M},by simp_all[G],by rw[zaO,z,zdf,hs];rfl}
 .rintro ρ ⟨ps,o,rfl,K,G,z⟩
  rw[bL]at G z;exact{_,by simp_all,ps,rfl,K,by lia,by rw[z,G]}
def AV{ns:List Int}{C:Bk}(B:OkB C){nms:List Str}(h8:nms.length=8){ps:List (Str×Int)}(Y:nms.Nodup)(P:OkN C ps)(W:ps.length<=3)(ac:ps.map (·.1)=nms.take ps.length):∃N m,kU [.lst<|ns.map .int,bB C,.lst<|nms.map .str,.lst<|ps.map bX]=bw N/\Now C nms ps m N:=by
 suffices h:∃d,kU [.lst<|ns.map .int,bB C,.lst<|nms.map .str,.lst<|ps.map bX]=bw d/\∃m,Now C nms ps m d by
  obtain⟨d,h1,m,h2⟩:=h;exact{d,m,h1,h2}
 obtain⟨f,hf⟩:=d8 ns;have an:=(hf 17 (by decide)<|by decide).1;have ad:=hf 24 (by decide) (by decide);have U:(0:Int)<(C.kinds.length:Int):=by have:=B.k1;lia
 have ah:=Ten
 have G:∀y:Int,0<=y%(C.kinds.length:Int)/\y%(C.kinds.length:Int)<(C.kinds.length:Int):=λy=>{zat _<|zaU U,zaw _ U}
 have a0:=zat (f 17/4) (show(3:Int)≠0 by decide);have a1:=zaw (f 17/4) (show(0:Int)<3 by decide);obtain⟨b,hb⟩:∃b,VI (.int ((C.kinds.map D.str).length:Int)) (.int 5)=bw (.bl b):={_,rfl};obtain⟨e,he,e0,e1⟩:∃e:Int,FQ [.bl b]=bw (.int e)/\0<=e/\e<=1:=by cases b <;> exact{_,rfl,by decide,by decide}
 obtain⟨q,eq,q0,q2⟩:∃q:Int,C7 [.int<|f 17/4%3,.int<|1+e]=bw (.int q)/\0<=q/\q<=2:={_,q_min,by split <;> lia,by split <;> lia};refine eD ?_;unfold rV;rw[aH<|aM (d:=.lst [])<|by simp_all];refine j9 (items:=aS 0 1 q.toNat) (by have r:=eQ q0 (show q<=1000000 by lia);ac_rfl) (λi ρ=>∃(z:List<|Str×Int) (o:Option D),ρ=[bw<|.lst<|ns.map .int,bw<|bB C,bw<|.lst<|nms.map .str,bw<|.lst<|ps.map bX,bw<|.lst<|z.map bX,o,bz,bz]/\OkN C z/\z.length=i/\z.map (·.1)=(nms.drop 3).take i) {[],bz,by ac_rfl,(λ_ h=>nomatch h),rfl,by simp_all} ?_ ?_
 .rintro i x ρ hx ⟨z,o,rfl,K,hl,F⟩
  obtain⟨af,rfl⟩:=cA hx;have hI:0<=(0:Int)+(i:Int)*1/\(0:Int)+(i:Int)*1<=3:=by lia
  have M:(3+((0:Int)+(i:Int)*1)).toNat=3+i:=by lia
  generalize (0:Int)+(i:Int)*1=I at hI M;have fI:=(hf (21+I) (by lia)<|by lia).1;obtain⟨s,es,hs⟩:=V7 (nms:=nms) (i:=3+I) (by lia) (by rw[h8];lia);rw[M]at hs;have hz:(z.map bX).length<=1000000:=by rw[zak];lia
  have md:dZ (.int<|f<|21+I) (.int ((C.kinds.map D.str).length:Int))=bw (.int<|f (21+I)%(C.kinds.length:Int)):=by rw[zak];exact bU U
  apply zB
  .exact IM rfl<|by ac_rfl
  refine{z++[(s,f (21+I)%(C.kinds.length:Int))],_,by rw[zaO];rfl,K.snoc<|G _,by simp_all[hl],by rw[zaO,F,zdf,List.getElem?_drop,hs];rfl}
 .rintro ρ ⟨z,o,rfl,K,hl,F⟩
  rw[bL]at hl F;have hz:a9 (ps.length+z.length)=ca:=decide_eq_true (by lia);have sb:((ps++z).map (·.1)).Sublist<|nms.take 5:=by
   rw[zaO,ac,F];have e5:nms.take 5=nms.take 3++(nms.drop 3).take 2:=by rw[<- List.take_add]
   rw[e5];exact(zeR W).append<|zeR<|by lia
  have Sk:Sc nms<|ps++z:={sb.nodup<|(zdz ..).nodup Y,λp W=>sb.subset<|List.mem_map.mpr {p,W,rfl}};rw[aH<|aM (d:=.lst<|(ps++z).map bX)<|by simp_all[hz]];have md:dZ (.int<|f 24) (.int ((C.kinds.map D.str).length:Int))=bw (.int<|f 24%(C.kinds.length:Int)):=by rw[zak];exact bU U
  have ao:=ad.1;rw[aH<|aM (d:=.int<|f 24%(C.kinds.length:Int))<|by ac_rfl];obtain⟨g,eg,wg,sg,lg,ng⟩:=d9 B (kn:=ps++z) (k:=f 24%(C.kinds.length:Int)) (c:=f 24/6) (by simp_all;lia) (G _).1 (G _).2 (by lia) (by lia);refine{.tup [bG C g (f 24%(C.kinds.length:Int)) 0,.lst<|z.map bX,.lst<|(ps++z).map bX],?_,z.length,g,_,0,z,rfl,{wg,(G _).1,(G _).2,by lia,ng _ _},P.app K,rfl,by lia,W,Sk}
  ac_rfl
def EX{ns:List Int}(F:ns.length<=63):∃v:Int,uE [.lst<|ns.map .int]=bw (.int v)/\0<=v/\v<=37:=by
 obtain⟨f,B⟩:=d8 ns;have z:=(B 17 (by decide)<|by decide).1;have a0:=zat (f 17/12) (show(8:Int)≠0 by decide);have G:=zaw (f 17/12) (show(0:Int)<8 by decide);refine{if f 17/12%8>(ns.length:Int)-26 then f 17/12%8 else(ns.length:Int)-26,aF ?_,?_,?_}
 .simp_all[uF,aE,z,i5,bU]
 .split <;> lia
 .split <;> lia
def AU{ns:List Int}(hn:ns.length<=63){C:Bk}(B:OkB C){nms:List Str}(h8:nms.length=8){ps:List (Str×Int)}(W:nms.Nodup)(P:OkN C ps)(hp:ps.length<=3)(af:ps.map (·.1)=nms.take ps.length):∃g k r,lE [.lst<|ns.map .int,bB C,.lst<|nms.map .str,.lst<|ps.map bX]=bw (bG C g k r)/\Gs nms C ps g k 15:=by
 suffices h:∃d,lE [.lst<|ns.map .int,bB C,.lst<|nms.map .str,.lst<|ps.map bX]=bw d/\∃g k r,d=bG C g k r/\Gs nms C ps g k 15 by
  obtain⟨d,h1,g,k,r,rfl,h2⟩:=h;exact{g,k,r,h1,h2}
 obtain⟨f,hf⟩:=d8 ns;have ap:=(hf 25 (by decide)<|by decide).1;obtain⟨z,m,eb,N⟩:=AV (ns:=ns) B h8 W P hp af;obtain⟨v,ev,v0,v1⟩:=EX hn;have an:=Ten
 refine eD ?_;unfold rH;rw[aH<|aM (d:=z)<|by ac_rfl];refine j9 (items:=aS 0 1 v.toNat) (by have r:=eQ v0 (show v<=1000000 by lia);ac_rfl) (λi ρ=>∃(z:D) (m:Nat) (o:Option D),ρ=[bw<|.lst<|ns.map .int,bw<|bB C,bw<|.lst<|nms.map .str,bw<|.lst<|ps.map bX,bw z,o]/\Now C nms ps m z) {z,m,bz,by ac_rfl,N} ?_ ?_
 .rintro i x ρ hx ⟨z,m,o,rfl,N⟩
  obtain⟨Y,rfl⟩:=cA hx;have hI:0<=(0:Int)+(i:Int)*1/\(0:Int)+(i:Int)*1<=37:=by lia
  generalize (0:Int)+(i:Int)*1=I at hI;have fI:=hf (26+I) (by lia) (by lia);obtain⟨F,m',es,N',_⟩:=tR B h8 W fI.2.1 fI.2.2 N;have:=fI.1;apply zB
  .exact IM rfl<|by ac_rfl
  exact{F,m',_,rfl,N'}
 .rintro ρ ⟨z,m,o,rfl,N⟩
  have U:m<=2:=by obtain⟨g,k,r,left,rfl,G,K,M,U,_⟩:=N;exact U
  have b0:=zat (f 25/3) (show(16:Int)≠0 by decide);have b1:=zaw (f 25/3) (show(0:Int)<16 by decide);have mu:cV (.int 7) (.int<|f 25/3%16)=bw (.int<|7*(f 25/3%16)):=cG (by decide +kernel) (by decide +kernel) (by lia) (by lia);refine J7 (λm ρ=>∃(z:D) (o:Option D),ρ=[bw<|.lst<|ns.map .int,bw<|bB C,bw<|.lst<|nms.map .str,bw<|.lst<|ps.map bX,bw z,o]/\Now C nms ps m z) (λρ=>∃(z:D) (o:Option D),ρ=[bw<|.lst<|ns.map .int,bw<|bB C,bw<|.lst<|nms.map .str,bw<|.lst<|ps.map bX,bw z,o]/\Now C nms ps 0 z) m (by lia) {z,o,rfl,N} ?_ ?_
  .rintro m ρ ⟨z,o,rfl,N⟩
   obtain⟨g,k,r,left,en,G,K,M,U,rest⟩:=N;have N:Now C nms ps m z:={g,k,r,left,en,G,K,M,U,rest};have el:aL z (.int 1)=bw (.lst<|left.map bX):=by rw[en,q_itT];exact at1
   by_cases h0:0<m
   .refine .inl {by simp_all[el,M,h0],?_}
    obtain⟨F,m',es,N',_,Y⟩:=tR B h8 W (y:=6+7*(f 25/3%16)) (by lia) (by lia) N;exact{m',[bw<|.lst<|ns.map .int,bw<|bB C,bw<|.lst<|nms.map .str,bw<|.lst<|ps.map bX,bw F,o],Y (by lia) h0,by ac_rfl,F,o,rfl,N'}
   .have aa:m=0:=by lia
    refine .inr {by simp_all[el,M,aa],z,o,rfl,aa ▸ N}
  .rintro ρ ⟨z,o,rfl,g,k,r,left,rfl,G,K,M,_,_,S⟩
   have ad:left=[]:=List.length_eq_zero_iff.mp M;subst ad;rw[zbL]at G;obtain⟨g1,k1,ew,G1,_,_⟩:=nV B P (r:=r) (c:=f 25) (G.mono<|show 15-2*0<=15 by lia) (by lia);exact{bG C g1 k1 r,by ac_rfl,g1,k1,r,rfl,G1}
noncomputable def ch:Rg->D
 |.use1 v _ _ _=>.int (v:Int)
 |.use2 v _ _ _ _=>.int (v:Int)
 |.lett _ j _ _=>.int j
 |_=>.non
def ir:Rg->List D
 |.use1 _ _ p _=>[rd p]
 |.use2 _ _ p q _=>[rd p,rd q]
 |.lett _ _ p q=>[rd p,rd q]
 |.pick _ _ p q r _=>[rd p,rd q,rd r]
 |.again _ _ _ p q _=>[rd p,rd q]
 |_=>[]
def wy:Rg->List Int
 |.name _ _ w=>w
 |.num _ _ w=>w
 |.use1 _ _ _ w=>w
 |.use2 _ _ _ _ w=>w
 |.lett _ _ _ _=>[]
 |.pick _ _ _ _ _ w=>w
 |.again _ _ _ _ _ w=>w
def X6:cutD [a,b,c,d,e] (bw 3) (bw 5)=[d,e]:=rfl
def XR:cutD [a,b,c,d,e,f,g] (bw 3) (bw 6)=[d,e,f]:=rfl
def Y2:cutD [a,b,c,d,e,f,g] (bw 4) (bw 6)=[e,f]:=rfl
def W7:cutD [a,b,c,d] (bw 2) (bw 4)=[c,d]:=rfl
def XO:cutD [a,b,c,d,e,f] (bw 3) (bw 6)=[d,e,f]:=rfl
def Y0:cutD [a,b,c,d,e,f] (bw 4) (bw 6)=[e,f]:=rfl
def AN:∀g:Rg,lC [rd g]=bw (ch g)
 |.name ..=>aF<|by simp_all[dM,aE,rd,ch,at0,lY,g7]
 |.num ..=>aF<|by simp_all[dM,aE,rd,ch,at0,jZ,gK]
 |.use1 ..=>aF<|by simp_all[dM,aE,rd,ch,at0,at1]
 |.use2 ..=>aF<|by simp_all[dM,aE,rd,ch,at0,at1]
 |.lett ..=>aF<|by simp_all[dM,aE,rd,ch,at0,at2,kA]
 |.pick ..=>aF<|by simp_all[dM,aE,rd,ch,at0,kE,gL]
 |.again ..=>aF<|by simp_all[dM,aE,rd,ch,at0,kB,fM]
def pV:∀g:Rg,fR [rd g]=bw (.tup<|ir g)
 |.name ..=>aF<|by simp_all[bS,aE,rd,ir,at0,lY,g7,sT,lL]
 |.num ..=>aF<|by simp_all[bS,aE,rd,ir,at0,jZ,gK,sP,lT]
 |.use1 ..=>aF<|by simp_all[bS,aE,rd,ir,at0,at2]
 |.use2 ..=>aF<|by simp_all[bS,aE,rd,ir,at0,at2]
 |.lett ..=>aF<|by simp_all[bS,aE,rd,ir,at0,kA,X6]
 |.pick ..=>aF<|by simp_all[bS,aE,rd,ir,at0,kE,gL,XR]
 |.again ..=>aF<|by simp_all[bS,aE,rd,ir,at0,kB,fM,sU,Y2]
def L9:∀g:Rg,u6 [rd g]=bw (tupI<|wy g)
 |.name ..=>aF<|by simp_all[gG,aE,rd,wy,at0,g7,at2]
 |.num ..=>aF<|by simp_all[gG,aE,rd,wy,at0,gK,VL]
 |.use1 ..=>aF<|by simp_all[gG,aE,rd,wy,at0,iR,VL]
 |.use2 ..=>aF<|by simp_all[gG,aE,rd,wy,at0,iR,VL]
 |.lett ..=>aF<|by simp_all[gG,aE,rd,wy,at0,tupI]
 |.pick ..=>aF<|by simp_all[gG,aE,rd,wy,at0,gL,qj]
 |.again ..=>aF<|by simp_all[gG,aE,rd,wy,at0,fM,qj]
def sz5:a9 5=ca:=rfl
def Cons(d:List<|Key×D)(kn:List<|Str×Int):Prop:=∀p∈kn,fO d (.inr p.1:Key)=bw (.int p.2)
def sR{κ:Type}[DecidableEq κ](l:List<|κ×D)(k j:κ)(e:D):fO (putD l k e) j=if j=k then bw e else fO l j:=by
 unfold putD;by_cases h:(l.any λp=>decide (p.1=k))=ca
 .rw[ci h]
  unfold fO;by_cases F:j=k
  .subst F
   rw[ci rfl];induction l with
   |nil=>simp[-zad,-zab,aA,aB]at h
   |cons p l ih=>
    rw[zaj,zbB];by_cases B:p.1=j
    .simp_all[B]
    .have:(l.any λp=>decide (p.1=j))=ca:=by simpa[B]using h
     simp_all[B];simpa using ih this
  .rw[cj F]
   clear h;induction l with
   |nil=>rfl
   |cons p l ih=>
    rw[zaj,zbB,zbB];by_cases B:p.1=k
    .have:¬ k=j:=λz=>F z.symm
     simp_all[B,this];simpa using ih
    .by_cases G:p.1=j
     .simp_all[B,G,F]
     .simp_all[B,G]
      simpa using ih
 .rw[cj h]
  unfold fO;rw[List.find?_append];by_cases F:j=k
  .subst F
   rw[ci rfl];have:l.find? (λp=>decide (p.1=j))=bz:=by
    rw[List.find?_eq_none];intro p B M;exact h<|List.any_eq_true.mpr {p,B,M}
   rw[this];simp_all
  .rw[cj F]
   cases e2:l.find? (λp=>decide (p.1=j))with
   |some u=>simp_all
   |none=>simp_all[zaV F]
def Cons.put(h:Cons d kn)(hx:x∉kn.map (·.1)):Cons (putD d (.inr x)<|.int j)<|(x,j)::kn:=λp B=>by
 rw[sR];rcases List.mem_cons.mp B with z|z
 .rw[z,ci rfl]
 .rw[cj,h p z]
  intro e;injection e with e
  exact hx<|List.mem_map.mpr ⟨p,z,e⟩
def V0(h:fO d (.inr x:Key)=bw e):aL (.dK d) (.str x)=bw e:=by
 show((Z4<|.str x).map λk=>fO d k).join=_;show(bw<|fO d (.inr x:Key)).join=_;rw[h];rfl
def OT(h:d.length<=1000):nQ (.dK d) (.str x) e=bw (.dK<|putD d (.inr x) e):=by
 have z:nQ (.dK d) (.str x) e=(if a9 d.length=ca then bw (.dK<|putD d (.inr x) e)else bz):=rfl;rw[z,ci<|show a9 d.length=ca from decide_eq_true<|by lia]
def u3{d:List (Key×D)}:(putD d k e).length<=d.length+1:=by
 unfold putD;split <;> simp_all
def G6:gJ [.dK d]=bw (.dK d):=rfl
def D0(h:cW [p,.int i]=bw .non):dS [.dK d,p,.int i,c]=bw (.dK d):=aF<|by simp_all[f6,aE,h,iI]
def JX(z:d.length<=1000):dS [.dK d,.tup [.str "let",.str x,p,q],.int 1,.int j]=bw (.dK<|putD d (.inr x)<|.int j):=by
 have h:cW [.tup [.str "let",.str x,p,q],.int 1]=bw (.str x):=aF (by simp_all[bP,aE,at0,at1]);exact aF<|by simp_all[f6,aE,h,iI,G6,at0,OT z]
def AY(z:d.length<=1000):dS [.dK d,.tup [.str "again",.int n,.int k,.str x,p,q],.int 1,c]=bw (.dK<|putD d (.inr x)<|.int k):=by
 have h:cW [.tup [.str "again",.int n,.int k,.str x,p,q],.int 1]=bw (.str x):=aF (by simp_all[bP,aE,at0,VL,fM]);exact aF<|by simp_all[f6,aE,h,iI,G6,at0,at2,fM,OT z]
noncomputable def nI:Sm->Int
 |none=>0
 |some p=>p.1
def G4(a b:Sm):nI (mC a b)=nI a*nI b:=by
 cases a <;> cases b <;> simp_all[mC,nI]
def JP(a b:Sm):nI (b6 a b)=nI a+nI b:=by
 cases a <;> cases b <;> simp_all[b6,nI]
noncomputable def jA:List Int->Int
 |[]=>1
 |x::l=>x*jA l
def zN(l m:List Int):jA (l++m)=jA l*jA m:=by
 induction l with
 |nil=>simp_all[jA]
 |cons x l ih=>rw[zde,jA,jA,ih,zd0]
theorem GB:∀(l:List Sm) (t:Sm),nI (l.foldl mC t)=nI t*jA (l.map nI)
 |[],t=>by simp_all[jA]
 |a::l,t=>by rw[zcD,GB l,G4,zaj,jA,zd0]
set_option tactic.hygienic true in
def FG(C:Bk)(j k:Int):nI (F4 C j k)=((bK C.rs k 8 j).length:Int):=by
 unfold F4;split
 .rename_i h;rw[h];rfl
 .rfl
def fF(C:Bk)(own j k:Int)(l:List Sm):nI (csum C own j k l)=jA (l.map nI++[((bK C.rs k 8 j).length:Int)]):=by
 unfold csum;rw[GB,G4,FG,zN];simp only[nI,jA,Int.one_mul,Int.mul_one];exact Int.mul_comm _ _
def NN(l:List Int):Prop:=∀x∈l,0<=x
theorem AD:∀ {l:List Int},NN l->0<=jA l
 |[],_=>by decide
 |x::l,h=>zdd (h x<|zar ..)<|AD λy z=>h y<|zaq _ z
theorem jU{z:Type}(f:z->Sm):∀(l:List z) (t:Sm),nI (l.foldl (λt v=>b6 t<|f v) t)=nI t+(l.map λv=>nI<|f v).sum
 |[],t=>by simp_all
 |a::l,t=>by rw[zcD,jU f l,JP,zaj,za5,zdn]
theorem qH{z:Type}{f:z->Int}:∀ {l:List z},(∀v∈l,0<=f v)->0<=(l.map f).sum
 |[],_=>by simp_all
 |a::l,h=>by
  rw[zaj,za5];have:=h a<|zar ..;have:=qH (l:=l) λv B=>h v<|zaq _ B
  lia
def fG(C:Bk)(own j k:Int)(h:NN<|l.map nI):0<=nI (csum C own j k l):=by
 rw[fF];refine AD λx hx=>?_
 rcases List.mem_append.mp hx with z|z
 .exact h x z
 .rw[List.mem_singleton.mp z];lia
def NN1(h:0<=a):NN [a]:=λx hx=>by rw[List.mem_singleton.mp hx];exact h
def qm(h:0<=a)(h':0<=b):NN [a,b]:=λx hx=>by
 rcases List.mem_cons.mp hx with z|z
 .rw[z];exact h
 .exact NN1 h' x z
def NN3(h:0<=a)(h':0<=b)(h2:0<=c):NN [a,b,c]:=λx hx=>by
 rcases List.mem_cons.mp hx with z|z
 .rw[z];exact h
 .exact qm h' h2 x z
theorem cF(C:Bk):∀(p:Pa) (e:hV) (k:Int),0<=nI (aU C p e k)
 |.name x,e,k=>fG C _ _ _ (l:=[]) λ_ h=>nomatch h
 |.num _ j,e,k=>fG C _ _ _ (l:=[]) λ_ h=>nomatch h
 |.use1 nm p,e,k=>by
  rw[aU,jU];have:=qH (l:=pT C nm 1) (f:=λv=>nI<|csum C (mpr C v) (dW C v) k [aU C p e<|aT C v 0]) λv _=>fG _ _ _ _<|NN1<|cF C p e _
  simp only[nI,zbw]at *;exact this
 |.use2 nm p q,e,k=>by
  rw[aU,jU];have:=qH (l:=pT C nm 2) (f:=λv=>nI<|csum C (mpr C v) (dW C v) k [aU C p e<|aT C v 0,aU C q e<|aT C v 1]) λv _=>fG _ _ _ _<|qm (cF C p e _)<|cF C q e _
  simp only[nI,zbw]at *;exact this
 |.lett x p q,e,k=>by
  rw[aU,jU];have:=qH (l:=zau C.kinds.length) (f:=λ(j:Nat)=>nI<|csum C 0 k k [aU C p e (j:Int),aU C q (fN e x (j:Int)) k]) λv _=>fG _ _ _ _<|qm (cF C p e _)<|cF C q _ _
  simp only[nI,zbw]at *;exact this
 |.pick c k' p q r,e,k=>fG _ _ _ _<|NN3 (cF C p e _) (cF C q e _)<|cF C r e _
 |.again n k' x p q,e,k=>fG _ _ _ _<|qm (cF C p e _)<|cF C q _ _
noncomputable def bV:Int->List (Int×Int)->Int
 |n,[]=>n
 |n,p::l=>bV (n*p.2+p.1) l
noncomputable def g9:Int->List Int->List Int->List Int
 |_,[],acc=>acc
 |n,s::l,acc=>g9 (n/s) l<|n%s::acc
def VJ(l:List<|Int×Int):Prop:=∀p∈l,0<=p.1/\p.1<p.2
theorem xP:∀(l:List<|Int×Int) (n:Int) (t acc:List Int),VJ l->g9 (bV n l) ((l.map (·.2)).reverse++t) acc=g9 n t (l.map (·.1)++acc)
 |[],n,t,acc,_=>rfl
 |(a,s)::l,n,t,acc,h=>by
  have z:=h (a,s)<|zar ..;simp only at z;rw[bV,zaj,zen,List.append_assoc];have ih:=xP l (n*s+a) ([s]++t) acc λp z=>h p<|zaq _ z
  rw[ih];show g9 ((n*s+a)/s) t ((n*s+a)%s::(l.map (·.1)++acc))=_;have F:(n*s+a)/s=n:=by
   rw[Int.add_comm,Int.add_mul_ediv_right _ _<|by lia,Int.ediv_eq_zero_of_lt z.1 z.2,zbw]
  have B:(n*s+a)%s=a:=by
   rw[Int.add_comm,Int.add_mul_emod_self_right,Int.emod_eq_of_lt z.1 z.2]
  rw[F,B];rfl
theorem CT:∀(l:List<|Int×Int) (n:Int),0<=n->VJ l->0<=bV n l/\bV n l+1<=(n+1)*jA (l.map (·.2))
 |[],n,h0,_=>by simp_all[bV,jA,h0]
 |(a,s)::l,n,h0,h=>by
  have z:=h (a,s)<|zar ..;simp only at z;have G:0<=n*s+a:=Int.add_nonneg (zdd h0<|by lia) z.1;obtain⟨M,B⟩:=CT l (n*s+a) G λp z=>h p<|zaq _ z
  refine{M,zcm B ?_};have F:0<=jA (l.map (·.2)):=AD λx hx=>by
   obtain⟨p,z,rfl⟩:=List.mem_map.mp hx;have:=h p<|zaq _ z;lia
  rw[zaj,jA,<- zd0];refine zd1 ?_ F;rw[Int.add_mul];simp only;lia
def kL(C:Bk)(j k:Int)(w:List Int):Int×Int:=(((bK C.rs k 8 j).idxOf w:Nat),((bK C.rs k 8 j).length:Int))
def wR(l:List Nat)(v:Nat)(f:Nat->Sm):Int:=((l.filter λu=>decide (u<v)).map λu=>nI<|f u).sum
def b9(C:Bk):Rg->hV->Int->Int
 |.name x _ w,e,k=>bV 0 [kL C (e x) k w]
 |.num _ j w,_,k=>bV 0 [kL C j k w]
 |.use1 v nm p w,e,k=>wR (pT C nm 1) v (λv=>csum C (mpr C v) (dW C v) k [aU C (pa p) e<|aT C v 0])+bV 0 [(b9 C p e<|aT C v 0,nI<|aU C (pa p) e<|aT C v 0),kL C (dW C v) k w]
 |.use2 v nm p q w,e,k=>wR (pT C nm 2) v (λv=>csum C (mpr C v) (dW C v) k [aU C (pa p) e<|aT C v 0,aU C (pa q) e<|aT C v 1])+bV 0 [(b9 C p e<|aT C v 0,nI<|aU C (pa p) e<|aT C v 0),(b9 C q e<|aT C v 1,nI<|aU C (pa q) e<|aT C v 1),kL C (dW C v) k w]
 |.lett x j p q,e,k=>wR (zau C.kinds.length) j.toNat (λ(j:Nat)=>csum C 0 k k [aU C (pa p) e (j:Int),aU C (pa q) (fN e x (j:Int)) k])+bV 0 [(b9 C p e j,nI<|aU C (pa p) e j),(b9 C q (fN e x j) k,nI<|aU C (pa q) (fN e x j) k),kL C k k []]
 |.pick c k' p q r w,e,k=>bV 0 [(b9 C p e c,nI<|aU C (pa p) e c),(b9 C q e k',nI<|aU C (pa q) e k'),(b9 C r e k',nI<|aU C (pa r) e k'),kL C k' k w]
 |.again _ k' x p q w,e,k=>bV 0 [(b9 C p e k',nI<|aU C (pa p) e k'),(b9 C q (fN e x k') k',nI<|aU C (pa q) (fN e x k') k'),kL C k' k w]
def EC(e:hV)(kn:List<|Str×Int):Prop:=∀p∈kn,e p.1=p.2
def EC.put(h:EC e kn)(hx:x∉kn.map (·.1)):EC (fN e x j)<|(x,j)::kn:=λp B=>by
 unfold fN;rcases List.mem_cons.mp B with z|z
 .rw[z,ci rfl]
 .rw[cj λq=>hx<|List.mem_map.mpr ⟨p,z,q⟩];exact h p z
def lV(B:OkB C)(z:0<=j)(k1:k<(C.kinds.length:Int))(h:gw C.rs j w=bw k):0<=(kL C j k w).1/\(kL C j k w).1<(kL C j k w).2:=by
 have F:=B.k6;have m:=i4 B.gr (n:=8) (by lia) h;have:=zeS m;exact{by unfold kL;simp only;lia,by unfold kL;simp only;lia}
def pO(h:VJ l):0<=bV 0 l/\bV 0 l<jA (l.map (·.2)):=by
 have:=CT l 0 (by decide) h;rw[zbw,Int.one_mul]at this;exact{this.1,by lia}
def FV(h:0<=a.1/\a.1<a.2):VJ [a]:=λp z=>by rw[List.mem_singleton.mp z];exact h
def wI(h:0<=a.1/\a.1<a.2)(t:VJ l):VJ<|a::l:=λp B=>by
 rcases List.mem_cons.mp B with z|z
 .rw[z];exact h
 .exact t p z
def E8{l:List Nat}(F:l.Pairwise (·<·)){v:Nat}(M:v∈l){f:Nat->Sm}(G:∀u,0<=nI (f u)){x:Int}(W:0<=x)(hx:x<nI (f v)):0<=wR l v f+x/\wR l v f+x<nI (l.foldl (λt v=>b6 t<|f v) bz):=by
 rw[jU];have N:0<=wR l v f:=qH λu _=>G u
 refine{by lia,?_};have:wR l v f+nI (f v)<=(l.map λv=>nI<|f v).sum:=by
  clear hx N;unfold wR;induction l with
  |nil=>cases M
  |cons a l ih=>
   rw[List.pairwise_cons]at F;rw[zaj,za5];by_cases e:v=a
   .subst e
    have z:((v::l).filter λu=>decide (u<v))=[]:=by
     rw[List.filter_eq_nil_iff];intro u U;rcases List.mem_cons.mp U with q|q
     .rw[q];simp_all
     .have:=F.1 u q;simp_all;lia
    rw[z];have:=qH (l:=l) (f:=λv=>nI<|f v) λu _=>G u
    simp_all;lia
   .have B:=(List.mem_cons.mp M).resolve_left e
    have la:=F.1 v B;rw[zch,ci (by simpa using la),zaj,za5];have:=ih F.2 B
    lia
 simp only[nI,zbw]at *;lia
def jK(n:Nat):(zau n).Pairwise (·<·):=List.pairwise_lt_range
def iB(C:Bk)(nm:Str)(n:Nat):(pT C nm n).Pairwise (·<·):=(jK _).filter _
def oJ(h:C.makes[v]?=bw m)(z:m.takes.length=n):v∈pT C m.nm n:=by
 refine List.mem_filter.mpr {List.mem_range.mpr (List.getElem?_eq_some_iff.mp h).1,?_};rw[h];simp_all[z]
def fD(h:C.makes[v]?=bw m)(i:Nat):aT C v i=(m.takes[i]?).getD 0:=by unfold aT;rw[h];rfl
def eM(h:C.makes[v]?=bw m):dW C v=m.g:=by unfold dW;rw[h];rfl
theorem gX(B:OkB C):∀ {g:Rg} {kn:List (Str×Int)} {e:hV} {k:Int},OkN C kn->WF C kn g k->NF U (kn.map (·.1)) g->EC e kn->0<=b9 C g e k/\b9 C g e k<nI (aU C (pa g) e k)
 |.name x j w,kn,e,k,K,W,_,c=>by
  have s:=WF.short B K W;obtain⟨a,b⟩:=W;have ex:e x=j:=c _ a;have h:=pO<|FV<|lV B (K _ a).1 s.2.2 b;simp only[b9,pa,aU,fF,ex];exact h
 |.num n j w,kn,e,k,K,W,_,c=>by
  have s:=WF.short B K W;obtain⟨a,b,d⟩:=W;have h:=pO<|FV<|lV B b.1 s.2.2 d;simp only[b9,pa,aU,fF];exact h
 |.use1 v nm p w,kn,e,k,K,W,F,c=>by
  have s:=WF.short B K W;obtain⟨m,t,a,b,d,G,f⟩:=W;subst b;have Y:aT C v 0=t:=by rw[fD a,d];rfl
  have eg:=eM a;have hm:=zap a;have z:=gX B (g:=p) K G F c;rw[<- Y]at z;have h:=pO<|wI (a:=(b9 C p e<|aT C v 0,nI<|aU C (pa p) e<|aT C v 0)) z<|FV<|lV B (B.gb m hm).1 s.2.2 f;rw[<- eg]at h;refine E8 (iB C m.nm 1) (oJ a<|by rw[d];rfl) (f:=λv=>csum C (mpr C v) (dW C v) k [aU C (pa p) e<|aT C v 0]) (λu=>fG _ _ _ _<|NN1<|cF ..) h.1 ?_;simp only[fF];exact h.2
 |.use2 v nm p q w,kn,e,k,K,W,F,c=>by
  have s:=WF.short B K W;obtain⟨m,t,u,a,b,d,G,N,f⟩:=W;subst b;have Y:aT C v 0=t:=by rw[fD a,d];rfl
  have eu:aT C v 1=u:=by rw[fD a,d];rfl
  have eg:=eM a;have hm:=zap a;have z:=gX B (g:=p) K G F.1 c;have M:=gX B (g:=q) K N F.2 c;rw[<- Y]at z;rw[<- eu]at M;have h:=pO<|wI (a:=(b9 C p e<|aT C v 0,nI<|aU C (pa p) e<|aT C v 0)) z<|wI (a:=(b9 C q e<|aT C v 1,nI<|aU C (pa q) e<|aT C v 1)) M<|FV<|lV B (B.gb m hm).1 s.2.2 f;rw[<- eg]at h;refine E8 (iB C m.nm 2) (oJ a<|by rw[d];rfl) (f:=λv=>csum C (mpr C v) (dW C v) k [aU C (pa p) e<|aT C v 0,aU C (pa q) e<|aT C v 1]) (λu=>fG _ _ _ _<|qm (cF ..)<|cF ..) h.1 ?_;simp only[fF];exact h.2
 |.lett x j p q,kn,e,k,K,W,F,c=>by
  have s:=WF.short B K W;obtain⟨G,N⟩:=W;have sp:=WF.short B K G;have z:=gX B (g:=p) K G F.1 c;have M:=gX B (g:=q) (K.cons sp.2.1 sp.2.2) N F.2.2<|c.put F.2.1.1;have ej:((j.toNat:Nat):Int)=j:=by lia
  have h:=pO<|wI (a:=(b9 C p e j,nI<|aU C (pa p) e j)) z<|wI (a:=(b9 C q (fN e x j) k,nI<|aU C (pa q) (fN e x j) k)) M<|FV<|lV B s.2.1 s.2.2 (w:=[]) rfl;refine E8 (jK C.kinds.length) (List.mem_range.mpr<|by lia) (f:=λ(j:Nat)=>csum C 0 k k [aU C (pa p) e (j:Int),aU C (pa q) (fN e x (j:Int)) k]) (λu=>fG _ _ _ _<|qm (cF ..)<|cF ..) h.1 ?_;simp only[fF,ej];exact h.2
 |.pick c' k' p q r w,kn,e,k,K,W,F,c=>by
  have s:=WF.short B K W;obtain⟨a,b,G,N,wr,f⟩:=W;have z:=gX B (g:=p) K G F.1 c;have M:=gX B (g:=q) K N F.2.1 c;have i3:=gX B (g:=r) K wr F.2.2 c;have h:=pO<|wI (a:=(b9 C p e c',nI<|aU C (pa p) e c')) z<|wI (a:=(b9 C q e k',nI<|aU C (pa q) e k')) M<|wI (a:=(b9 C r e k',nI<|aU C (pa r) e k')) i3<|FV<|lV B b.1 s.2.2 f;simp only[b9,pa,aU,fF];exact h
 |.again n k' x p q w,kn,e,k,K,W,F,c=>by
  have s:=WF.short B K W;obtain⟨a,b,G,N,f⟩:=W;have z:=gX B (g:=p) K G F.1 c;have M:=gX B (g:=q) (K.cons b.1 b.2) N F.2.2<|c.put F.2.1.1;have h:=pO<|wI (a:=(b9 C p e k',nI<|aU C (pa p) e k')) z<|wI (a:=(b9 C q (fN e x k') k',nI<|aU C (pa q) (fN e x k') k')) M<|FV<|lV B b.1 s.2.2 f;simp only[b9,pa,aU,fF];exact h
def kids:Pa->List Pa
 |.use1 _ p=>[p]
 |.use2 _ p q=>[p,q]
 |.lett _ p q=>[p,q]
 |.pick _ _ p q r=>[p,q,r]
 |.again _ _ _ p q=>[p,q]
 |_=>[]
def VH(C:Bk)(p:Pa)(l:List D):D:=.ob CN [("part",bO p),("below",.lst l),("names",.lst<|(aP p).map .str),("found",.mem (DM (bB C)<|bO p)<|FF (bB C)<|bO p)]
def dA(C:Bk):Pa->D
 |.name x=>VH C (.name x) []
 |.num n j=>VH C (.num n j) []
 |.use1 nm p=>VH C (.use1 nm p) [dA C p]
 |.use2 nm p q=>VH C (.use2 nm p q) [dA C p,dA C q]
 |.lett x p q=>VH C (.lett x p q) [dA C p,dA C q]
 |.pick c k p q r=>VH C (.pick c k p q r) [dA C p,dA C q,dA C r]
 |.again n k x p q=>VH C (.again n k x p q) [dA C p,dA C q]
def v6(C:Bk)(p:Pa):dA C p=VH C p ((kids p).map<|dA C):=by cases p <;> rfl
noncomputable def hid:Pa->Nat->Option Str
 |.lett x _ _,1=>bw x
 |.again _ _ x _ _,1=>bw x
 |_,_=>bz
noncomputable def oS:Option Str->D
 |none=>.non
 |some x=>.str x
def pK:∀p:Pa,jT [bO p]=bw (.tup<|(kids p).map bO)
 |.name ..=>aF<|by simp_all[iF,aE,bO,kids,at0,lY,g7,sT,lL]
 |.num ..=>aF<|by simp_all[iF,aE,bO,kids,at0,jZ,gK,sP,lT]
 |.use1 ..=>aF<|by simp_all[iF,aE,bO,kids,at0,at2]
 |.use2 ..=>aF<|by simp_all[iF,aE,bO,kids,at0,at2]
 |.lett ..=>aF<|by simp_all[iF,aE,bO,kids,at0,kA,W7]
 |.pick ..=>aF<|by simp_all[iF,aE,bO,kids,at0,kE,gL,XO]
 |.again ..=>aF<|by simp_all[iF,aE,bO,kids,at0,kB,fM,sU,Y0]
def oN:¬ ("use" : Str) = "again" := by decide
def CK:¬ ("pick" : Str) = "again" := by decide
def JQ{p:D}{i:Nat}(h:¬ i=1):cW [p,.int (i:Int)]=bw .non:=aF (by
 have h':¬ ((i:Int)=1):=λz=>h<|by lia
 simp_all[bP,aE,h'])
def BJ(p:Pa)(i:Nat):cW [bO p,.int (i:Int)]=bw (oS<|hid p i):=by
 by_cases h:i=1
 .subst h
  cases p with
  |name x=>exact aF<|by simp_all[bP,aE,bO,hid,oS,at0,g7,lL]
  |num n j=>exact aF<|by simp_all[bP,aE,bO,hid,oS,at0,gK,lT]
  |use1 nm p=>exact aF<|by simp_all[bP,aE,bO,hid,oS,at0,iR,oN]
  |use2 nm p q=>exact aF<|by simp_all[bP,aE,bO,hid,oS,at0,iR,oN]
  |lett x p q=>exact aF<|by simp_all[bP,aE,bO,hid,oS,at0,at1]
  |pick c k p q r=>exact aF<|by simp_all[bP,aE,bO,hid,oS,at0,gL,CK]
  |again n k x p q=>exact aF<|by simp_all[bP,aE,bO,hid,oS,at0,VL,fM]
 .rw[JQ h]
  have:hid p i=bz:=by
   unfold hid;split
   .exact absurd rfl h
   .exact absurd rfl h
   .rfl
  rw[this];rfl
def EF{x:Str}{l:List Str}:pI (.str x) (.lst<|l.map .str)=bw (.bl<|!decide (x∈l)):=by
 have h1:(l.map D.str).all fX=ca:=by
  rw[List.all_map];exact List.all_eq_true.mpr λx _=>rfl
 show zW (.str x) (.lst<|l.map .str)=_;unfold zW U0;dsimp only;rw[ci {rfl,h1}];simp only[aB];congr 3;rw[List.any_map];by_cases h:x∈l
 .rw[decide_eq_true h]
  exact List.any_eq_true.mpr {x,h,by simp_all}
 .rw[decide_eq_false h]
  refine List.any_eq_false.mpr λy z=>?_
  simp_all;rintro rfl;exact h z
def ne_sn:AK (.str x) .non=bw (.bl ca):=by
 unfold AK LM;rw[ci<|.inl rfl];simp_all
def qaV:AK (.str x) (oS h)=bw (.bl<|!decide (bw x=h)):=by
 cases h with
 |none=>rw[show oS bz=D.non from rfl,ne_sn];simp_all
 |some y=>rw[show oS (bw y)=D.str y from rfl,q_neS];simp_all
theorem tP{h:Option Str}{acc:List Str}:∀(l:List Str) (o:Option D),bD (aQ 0) (LG (sA<|bF AK (aD 0)<|aD 1)<|sA<|bF pI (aD 0)<|aD 2) (aD 0) (l.map .str) [o,bw<|oS h,bw<|.lst<|acc.map .str]=bw ((l.filter λx=>!decide (bw x=h) && !decide (x∈acc)).map .str)
 |[],o=>rfl
 |x::l,o=>by
  have ih:=tP (h:=h) (acc:=acc) l<|bw<|.str x;have e:=qaV (x:=x) (h:=h);have z:=EF (x:=x) (l:=acc);generalize oS h=dh at *;rw[zaj,bD];by_cases h1:bw x=h
  .simp_all[e,z,h1,ih]
  .by_cases h2:x∈acc
   .simp_all[e,z,h1,h2,ih]
   .simp_all[e,z,h1,h2,ih]
def accN(p:Pa):Nat->List Pa->List Str->List Str
 |_,[],acc=>acc
 |i,q::l,acc=>accN p (i+1) l<|fY (hid p i) acc<|aP q
def TR(p:Pa)(h:∀x,p≠.name x):aP p=accN p 0 (kids p) []:=by
 cases p with
 |name x=>exact absurd rfl<|h x
 |_=>rfl
def eA:(fY h acc l).length<=acc.length+l.length:=by
 unfold fY;rw[zbm];have:=zdl (λx=>!decide (bw x=h) && !decide (x∈acc)) l
 lia
theorem eP:∀p:Pa,(aP p).length<=psz p
 |.name x=>zah 1
 |.num _ _=>by simp_all[aP,psz]
 |.use1 _ p=>by
  have:=eP p;have:=eA (h:=bz) (acc:=[]) (l:=aP p);simp only[aP,psz,zbO]at *;lia
 |.use2 _ p q=>by
  have:=eP p;have:=eP q;have:=eA (h:=bz) (acc:=[]) (l:=aP p);have:=eA (h:=bz) (acc:=fY bz []<|aP p) (l:=aP q);simp only[aP,psz,zbO]at *;lia
 |.lett x p q=>by
  have:=eP p;have:=eP q;have:=eA (h:=bz) (acc:=[]) (l:=aP p);have:=eA (h:=bw x) (acc:=fY bz []<|aP p) (l:=aP q);simp only[aP,psz,zbO]at *;lia
 |.pick _ _ p q r=>by
  have:=eP p;have:=eP q;have:=eP r;have:=eA (h:=bz) (acc:=[]) (l:=aP p);have:=eA (h:=bz) (acc:=fY bz []<|aP p) (l:=aP q);have:=eA (h:=bz) (acc:=fY bz (fY bz []<|aP p)<|aP q) (l:=aP r);simp only[aP,psz,zbO]at *;lia
 |.again _ _ x p q=>by
  have:=eP p;have:=eP q;have:=eA (h:=bz) (acc:=[]) (l:=aP p);have:=eA (h:=bw x) (acc:=fY bz []<|aP p) (l:=aP q);simp only[aP,psz,zbO]at *;lia
def U7:Pa->Str
 |.name _ => "name"
 |.num _ _ => "number"
 |.use1 _ _ => "use"
 |.use2 _ _ _ => "use"
 |.lett _ _ _ => "let"
 |.pick _ _ _ _ _ => "pick"
 |.again _ _ _ _ _ => "again"
def OQ(p:Pa):aL (bO p) (.int 0)=bw (.str<|U7 p):=by
 cases p <;> (unfold bO;rw[q_itT];exact at0)
def NS(p:Pa)(h:∀x,p≠.name x):¬ U7 p = "name" := by
 cases p with
 |name x=>exact absurd rfl<|h x
 |num _ _=>exact(by decide:¬ ("number" : Str) = "name")
 |use1 _ _=>exact(by decide:¬ ("use" : Str) = "name")
 |use2 _ _ _=>exact(by decide:¬ ("use" : Str) = "name")
 |lett _ _ _=>exact(by decide:¬ ("let" : Str) = "name")
 |pick _ _ _ _ _=>exact(by decide:¬ ("pick" : Str) = "name")
 |again _ _ _ _ _=>exact(by decide:¬ ("again" : Str) = "name")
def jS(C:Bk)(p:Pa):tJ CN "part" (dA C p)=bw (bO p):=by rw[v6];rfl
def OG(C:Bk)(p:Pa):tJ CN "below" (dA C p)=bw (.lst<|(kids p).map<|dA C):=by rw[v6];rfl
def C5(C:Bk)(p:Pa):tJ CN "names" (dA C p)=bw (.lst<|(aP p).map .str):=by rw[v6];rfl
def N0(C:Bk)(p:Pa):tJ CN "found" (dA C p)=bw (.mem (DM (bB C)<|bO p)<|FF (bB C)<|bO p):=by rw[v6];rfl
theorem BZ(p:Pa):∀(l:List Pa) (j i:Nat) (acc:List Str) (q:Pa),l[i]?=bw q->accN p j (l.take<|i+1) acc=fY (hid p<|j+i) (accN p j (l.take i) acc) (aP q)
 |[],j,i,acc,q,h=>by simp[-zad,-zab,aA,aB]at h
 |a::l,j,0,acc,q,h=>by
  have:a=q:=by simpa using h
  subst this;rfl
 |a::l,j,i+1,acc,q,h=>by
  have ih:=BZ p l (j+1) i (fY (hid p j) acc<|aP a) q (by simpa using h);rw[zcE,zcE,accN,accN,ih,show j+1+i=j+(i+1) by lia]
theorem HB(p:Pa):∀(l:List Pa) (j:Nat) (acc:List Str),(accN p j l acc).length<=acc.length+(l.map psz).sum
 |[],j,acc=>by simp_all[accN]
 |a::l,j,acc=>by
  have:=HB p l (j+1)<|fY (hid p j) acc<|aP a;have:=eA (h:=hid p j) (acc:=acc) (l:=aP a);have:=eP a;rw[accN,zaj,za5];lia
def dD(p:Pa):((kids p).map psz).sum+1=psz p:=by
 cases p <;> simp_all[kids,psz] <;> lia
theorem HR:∀ {l:List Pa},q∈l->psz q<=(l.map psz).sum
 |[],h=>nomatch h
 |a::l,h=>by
  rw[zaj,za5];rcases List.mem_cons.mp h with z|z
  .rw[z];lia
  .have:=HR z;lia
def gZ(h:q∈kids p):psz q<psz p:=by
 have:=HR h;have:=dD p;lia
def NM(l:List Pa)(i:Nat):((l.take i).map psz).sum<=(l.map psz).sum:=by
 induction l generalizing i with
 |nil=>simp_all
 |cons a l ih=>
  cases i with
  |zero=>simp_all
  |succ i=>have:=ih i;simp only[zcE,zaj,za5];lia
def UL(C:Bk)(p:Pa)(hs:psz p<=100):eZ [bO p,.lst<|(kids p).map<|dA C]=bw (.lst<|(aP p).map .str):=by
 by_cases U:∃x,p=.name x
 .obtain⟨x,rfl⟩:=U
  exact aF<|by simp_all[jD,aE,bO,aP,at0,at1]
 have B:∀x,p≠.name x:=λx e=>U ⟨x,e⟩
 have tg:=NS p B;refine aF ?_;unfold jD;have w:=BJ p;have ta:=OQ p;have sm:=dD p;have ac:=HB p;rw[TR p B];have ek:=@BZ p (kids p) 0;have sz:∀q∈kids p,psz q<psz p:=λq F=>gZ F
 have tk:=NM<|kids p;generalize kids p=ks at *;generalize bO p=pd at *;rw[aH (ρ':=aE 6 [pd,.lst<|ks.map<|dA C])<|by simp_all[aE,ta,tg]];rw[aH<|aM (d:=.lst [])<|by simp_all];refine f7 (items:=g8 0<|ks.map<|dA C) (by simp_all[aE]) (λi ρ=>∃M N G,ρ=[bw pd,bw<|.lst<|ks.map<|dA C,bw<|.lst<|(accN p 0 (ks.take i) []).map .str,M,N,G]) {bz,bz,bz,by simp_all[aE,accN]} ?_ ?_
 .rintro i y ρ hy ⟨M,N,G,rfl⟩
  obtain⟨z,Y,rfl⟩:=iX hy;rw[zav]at Y;obtain⟨q,F,rfl⟩:=map_some Y;rw[zaN];have W:=ek i [] q F;rw[zaN]at W;have wi:=w i;have cn:=tP (h:=hid p i) (acc:=accN p 0 (ks.take i) []) (aP q) bz;have nn:=C5 C q;have l1:=ac (ks.take i) 0 [];have l2:=tk i;have l3:=eP q;have l4:=sz q<|zap F;have l5:=zdl (λx=>!decide (bw x=hid p i) && !decide (x∈accN p 0 (ks.take i) []))<|aP q;have z1:a9 (aP q).length=ca:=decide_eq_true (by lia);refine{[bw pd,bw<|.lst<|ks.map<|dA C,bw<|.lst<|(accN p 0 (ks.take<|i+1) []).map .str,bw<|.int (i:Int),bw<|dA C q,bw<|oS<|hid p i],?_,_,_,_,rfl};rw[W];unfold fY;have z2:a9 ((accN p 0 (ks.take i) []).length+((aP q).filter λx=>!decide (bw x=hid p i) && !decide (x∈accN p 0 (ks.take i) [])).length)=ca:=decide_eq_true (by simp only[zbO]at l1;lia);generalize (aP q).filter (λx=>!decide (bw x=hid p i) && !decide (x∈accN p 0 (ks.take i) []))=fl' at *;simp_all[-zas,turn,wi,dF,nn,U6,kK,z1,cn,z2]
 .rintro ρ' ⟨M,N,G,rfl⟩
  rw[fV,zak,zbv];simp_all
theorem vN(C:Bk):∀(m:Nat) (p:Pa),psz p<=m->psz p<=100->rY m (bB C) (bO p)=bw (dA C p)
 |0,p,h,_=>by have:=dD p;lia
 |m+1,p,h,h1=>by
  have ih:∀q∈kids p,rY m (bB C) (bO q)=bw (dA C q):=λq B=>vN C m q (by have:=gZ B;lia)<|by have:=gZ B;lia
  have wi:=pK p;have G:=UL C p h1;have N:(kids p).length<=3:=by cases p <;> simp_all[kids]
  have M:∀(l:List Pa) (o:Option D),(∀q∈l,rY m (bB C) (bO q)=bw (dA C q))->bD (aQ 0) fP (eNew (rY m) (λ_=>bw<|bB C)<|aD 0) (l.map bO) [o]=bw (l.map<|dA C):=λl=>by
   induction l with
   |nil=>exact λ_ _=>rfl
   |cons a l il=>
    intro o B;have e:=il (bw<|bO a) λq h=>B q<|zaq _ h
    have F:=B a<|zar ..;rw[zaj,bD];simp_all[eNew,F,e]
  have z:a9 (kids p).length=ca:=decide_eq_true (by lia);have c:=M (kids p) bz ih;rw[v6];show IL CN _ eZ (DM<|bB C) (FF<|bB C) (bO p)=_;unfold IL VH;have fb:eJ [bz] (gH<|aR jT<|aC (aD 1) aX) (aQ 0) fP (eNew (rY m) (λ_=>bw<|bB C)<|aD 0) [bz,bw<|bO p]=bw (.lst<|(kids p).map<|dA C):=by
   simp_all[wi,kK,z,c]
  rw[fb,aA,G,aA]
def gD(a:Sm):dN [memD a]=bw (.int<|nI a):=by
 cases a with
 |none=>exact aF<|by ac_rfl
 |some p=>exact aF<|by ac_rfl
def LR(a b:Sm):oK [memD a,memD b]=bw (memD<|b6 a b):=by
 cases a with
 |none=>
  cases b with
  |none=>exact aF<|by ac_rfl
  |some q=>exact aF<|by ac_rfl
 |some p=>
  cases b with
  |none=>exact aF<|by ac_rfl
  |some q=>
   have e:(if q.2<p.2 then q.2 else p.2)=min p.2 q.2:=by split <;> lia
   exact aF<|by simp_all[BR,aE,memD,b6,iI,at0,at1,C7,e]
def QE(z:∀p,a=bw p->0<=p.1/\p.1<10^250)(B:∀p,b=bw p->0<=p.1/\p.1<10^250):PX [memD a,memD b]=bw (memD<|mC a b):=by
 cases a with
 |none=>
  cases b with
  |none=>exact aF<|by ac_rfl
  |some q=>exact aF<|by ac_rfl
 |some p=>
  cases b with
  |none=>exact aF<|by ac_rfl
  |some q=>
   have h1:=z p rfl;have h2:=B q rfl;have m:cV (.int p.1) (.int q.1)=bw (.int<|p.1*q.1):=cG (zdo (by decide) h1.1) h1.2 (zdo (by decide) h2.1) h2.2;exact aF<|by simp_all[P4,aE,memD,mC,iI,at0,at1,m]
def bH(C:Bk):Pa->List D
 |.use1 nm _=>(pT C nm 1).map λ(v:Nat)=>.int (v:Int)
 |.use2 nm _ _=>(pT C nm 2).map λ(v:Nat)=>.int (v:Int)
 |.lett _ _ _=>(zau C.kinds.length).map λ(v:Nat)=>.int (v:Int)
 |_=>[.non]
noncomputable def DG(p:Mk->Bool):Nat->List Mk->List Nat
 |_,[]=>[]
 |k,m::ms=>if p m then k::DG p (k+1) ms else DG p (k+1) ms
theorem HZ(p:Mk->Bool):∀(ms:List Mk) (k:Nat),DG p k ms=((zau ms.length).filter λv=>match ms[v]? with
 |some m=>p m
 |none=>cf).map (·+k)
 |[],k=>rfl
 |m::ms,k=>by
  rw[DG,HZ p ms<|k+1,zaB,List.range_succ_eq_map,zch,List.filter_map];have e:(λv=>match (m::ms)[v]? with
   |some m=>p m
   |none=>cf) ∘ Nat.succ=λv=>match ms[v]? with
   |some m=>p m
   |none=>cf:=by funext v;rfl
  rw[e];have z:∀L:List Nat,((L.map Nat.succ).map (·+k))=L.map (·+(k+1)):=λL=>by
   rw[zas];congr 1;funext v;show v.succ+k=v+(k+1);lia
  show _=List.map (·+k) (if p m=ca then _ else _);cases hp:p m with
  |true=>rw[ci rfl,ci rfl,zaj,z,zaN]
  |false=>rw[cj zaD,cj zaD,z]
theorem pZ(h1:aL pd (.int 1)=bw (.str nm))(h2:aL pd (.int 2)=bw (.tup l)):∀(ms:List Mk) (k:Nat) (o o1:Option D),bD (kJ 2<|c7 (aQ 0)<|c7 (aQ 1) pN) (LG (sA<|bF kQ (bF aL (aD 1)<|eC<|.int 0)<|bF aL (aD 2)<|eC<|.int 1)<|sA<|bF kQ (aR hZ<|aC (bF aL (aD 1)<|eC<|.int 1) aX)<|aR hZ<|aC (bF aL (aD 2)<|eC<|.int 2) aX) (aD 0) (g8 k<|ms.map mF) [o,o1,bw pd]=bw ((DG (λm=>decide (m.nm=nm) && decide (m.takes.length=l.length)) k ms).map λ(v:Nat)=>.int (v:Int))
 |[],k,o,o1=>rfl
 |m::ms,k,o,o1=>by
  have ih:=pZ h1 h2 ms (k+1) (bw<|.int (k:Int))<|bw<|mF m;have z:hZ [tupI m.takes]=bw (.int (m.takes.length:Int)):=by simp_all[tupI]
  rw[zaj,g8,bD,DG];generalize (DG (λm=>decide (m.nm=nm) && decide (m.takes.length=l.length)) (k+1) ms)=R at *;by_cases F:m.nm=nm
  .by_cases G:m.takes.length=l.length
   .simp_all[-zas,turn,FU,AI,h1,h2,z,F,G,ih]
   .have B:¬ (m.takes.length:Int)=(l.length:Int):=by lia
    simp_all[-zas,turn,FU,AI,h1,h2,z,F,G,B,ih]
  .simp_all[-zas,turn,FU,AI,h1,h2,z,F,ih]
def C3(C:Bk)(nm:Str)(n:Nat):DG (λm=>decide (m.nm=nm) && decide (m.takes.length=n)) 0 C.makes=pT C nm n:=by
 rw[HZ,show(λx:Nat=>x+0)=id from rfl,List.map_id];rfl
def mG(B:OkB C)(p:Pa):dU [bB C,bO p]=bw (.lst<|bH C p):=by
 have M:=B.k6;have G:=B.ml;have F:a9 C.makes.length=ca:=decide_eq_true (by lia);have z:AF (.int (C.kinds.length:Int))=bw (.lst<|aS 0 1 C.kinds.length):=by
  have:=SH (i:=(C.kinds.length:Int)) (by lia)<|by lia
  rwa [zbC]at this
 cases p with
 |name x=>exact aF<|by simp_all[eX,aE,bO,bH,at0,lY,g7]
 |num n j=>exact aF<|by simp_all[eX,aE,bO,bH,at0,jZ,gK]
 |use1 nm p=>
  have c:=pZ (pd:=bO<|.use1 nm p) (nm:=nm) (l:=[bO p]) (by rw[bO,q_itT];exact at1) (by rw[bO,q_itT];exact at2) C.makes 0 bz bz;rw[List.length_singleton,C3]at c;simp only[bO]at c;exact aF<|by simp_all[-zas,eX,aE,bO,bH,at0,wW,kK,F,fV,c]
 |use2 nm p q=>
  have c:=pZ (pd:=bO<|.use2 nm p q) (nm:=nm) (l:=[bO p,bO q]) (by rw[bO,q_itT];exact at1) (by rw[bO,q_itT];exact at2) C.makes 0 bz bz;rw[show([bO p,bO q]:List D).length=2 from rfl,C3]at c;simp only[bO]at c;exact aF<|by simp_all[-zas,eX,aE,bO,bH,at0,wW,kK,F,fV,c]
 |lett x p q=>
  have er:aS 0 1 C.kinds.length=(zau C.kinds.length).map λ(v:Nat)=>D.int (v:Int):=by
   rw[rM,zas];rfl
  rw[er]at z;exact aF<|by simp_all[-zas,eX,aE,bO,bH,at0,kA,FY,z]
 |pick c k p q r=>exact aF<|by simp_all[eX,aE,bO,bH,at0,kE,gL]
 |again n k x p q=>exact aF<|by simp_all[eX,aE,bO,bH,at0,kB,fM]
def EI(h:fO d (.inr x:Key)=bw (.int j)):a7 [bB C,.dK d,bO<|.name x,k,c]=bw (.int j):=by
 have e:=V0 h;exact aF<|by simp_all[cS,aE,bO,at0,at1,e]
def JA:a7 [bB C,.dK d,bO<|.num n j,k,c]=bw (.int j):=
 aF (by simp_all[cS,aE,bO,at0,at2,jZ,gK,(by decide:¬ ("number" : Str) = "name")])
def HG:¬ ("use" : Str) = "name" := by decide
def EA{C:Bk}{d:List (Key×D)}{nm:Str}{p:Pa}{k:D}{v:Nat}{m:Mk}(h:C.makes[v]?=bw m):a7 [bB C,.dK d,bO<|.use1 nm p,k,.int (v:Int)]=bw (.int m.g):=by
 have e:=mQ h;exact aF<|by simp_all[-zas,cS,aE,bO,at0,HG,wW,e,K7]
def ER{C:Bk}{d:List (Key×D)}{nm:Str}{p q:Pa}{k:D}{v:Nat}{m:Mk}(h:C.makes[v]?=bw m):a7 [bB C,.dK d,bO<|.use2 nm p q,k,.int (v:Int)]=bw (.int m.g):=by
 have e:=mQ h;exact aF<|by simp_all[-zas,cS,aE,bO,at0,HG,wW,e,K7]
def KH:a7 [bB C,.dK d,bO<|.lett x p q,k,c]=bw k:=
 aF (by simp_all[cS,aE,bO,at0,kA,(by decide:¬ ("let" : Str) = "name")])
def E4:a7 [bB C,.dK d,bO<|.pick c' k' p q r,k,c]=bw (.int k'):=
 aF (by simp_all[cS,aE,bO,at0,at2,kE,gL,(by decide:¬ ("pick" : Str) = "name")])
def A6:a7 [bB C,.dK d,bO<|.again n k' x p q,k,c]=bw (.int k'):=
 aF (by simp_all[cS,aE,bO,at0,at2,kB,fM,(by decide:¬ ("again" : Str) = "name")])
def KU:bW [bB C,bO<|.name x,k,c]=bw (tupI []):=aF<|by simp_all[cH,aE,bO,at0,lY,g7,sT,lL,tupI]
def M0:bW [bB C,bO<|.num n j,k,c]=bw (tupI []):=aF<|by simp_all[cH,aE,bO,at0,jZ,gK,sP,lT,tupI]
def J5{C:Bk}{nm:Str}{p:Pa}{k:D}{v:Nat}{m:Mk}(h:C.makes[v]?=bw m):bW [bB C,bO<|.use1 nm p,k,.int (v:Int)]=bw (tupI m.takes):=by
 have e:=mQ h;exact aF<|by simp_all[-zas,cH,aE,bO,at0,wW,e,AI]
def KM{C:Bk}{nm:Str}{p q:Pa}{k:D}{v:Nat}{m:Mk}(h:C.makes[v]?=bw m):bW [bB C,bO<|.use2 nm p q,k,.int (v:Int)]=bw (tupI m.takes):=by
 have e:=mQ h;exact aF<|by simp_all[-zas,cH,aE,bO,at0,wW,e,AI]
def OD:bW [bB C,bO<|.lett x p q,.int k,.int j]=bw (tupI [j,k]):=aF<|by simp_all[cH,aE,bO,at0,kA,tupI]
def K3:bW [bB C,bO<|.pick c' k' p q r,k,c]=bw (tupI [c',k',k']):=aF<|by simp_all[cH,aE,bO,at0,at1,at2,kE,gL,tupI]
def DX:bW [bB C,bO<|.again n k' x p q,k,c]=bw (tupI [k',k']):=aF<|by simp_all[cH,aE,bO,at0,at2,kB,fM,sU,tupI]
def F7(C:Bk)(hd:Nat->D):Nat->List Pa->List Int->List D
 |i,q::l,k::ks=>.tup [dA C q,hd i,.int k]::F7 C hd (i+1) l ks
 |_,_,_=>[]
theorem B3:∀(l:List Pa) (ks:List Int) (j i:Nat) (q:Pa) (k:Int),l[i]?=bw q->ks[i]?=bw k->F7 C hd j (l.take<|i+1) ks=F7 C hd j (l.take i) ks++[.tup [dA C q,hd<|j+i,.int k]]
 |[],ks,j,i,q,k,h,_=>by simp[-zad,-zab,aA,aB]at h
 |a::l,[],j,i,q,k,_,h=>by simp[-zad,-zab,aA,aB]at h
 |a::l,b::ks,j,0,q,k,h,h'=>by
  have B:a=q:=by simpa using h
  have z:b=k:=by simpa using h'
  subst B z;rfl
 |a::l,b::ks,j,i+1,q,k,h,h'=>by
  have ih:=B3 (C:=C) (hd:=hd) l ks (j+1) i q k (by simpa using h) (by simpa using h');rw[zcE,zcE,F7,F7,ih,show j+1+i=j+(i+1) by lia];rfl
theorem HK:∀(l:List Pa) (ks:List Int) (j:Nat),(F7 C hd j l ks).length<=l.length
 |[],ks,j=>by cases ks <;> simp_all[F7]
 |a::l,[],j=>by ac_rfl
 |a::l,b::ks,j=>by have:=HK (C:=C) (hd:=hd) l ks<|j+1;simp only[F7,zaB];lia
def T8{C:Bk}{at_:D}{p:Pa}{d:List (Key×D)}{k c:D}{ks:List Int}{hd:Nat->D}(hb:tJ CA "book" at_=bw (bB C))(hk:bW [bB C,bO p,k,c]=bw (tupI ks))(hl:(kids p).length<=ks.length)(hh:∀i,i<(kids p).length->dS [.dK d,bO p,.int (i:Int),c]=bw (hd i)):gB [at_,dA C p,.dK d,k,c]=bw (.lst<|F7 C hd 0 (kids p) ks):=by
 refine aF ?_;unfold GM;have np:=jS C p;have nb:=OG C p;have h3:(kids p).length<=3:=by cases p <;> simp_all[kids]
 generalize kids p=l at *;generalize dA C p=nd at *;generalize bO p=pd at *;rw[aH<|aM (d:=tupI ks)<|by ac_rfl];rw[aH<|aM (d:=.lst [])<|by simp_all];refine f7 (items:=g8 0<|l.map<|dA C) (by ac_rfl) (λi ρ=>∃G M,ρ=[bw at_,bw nd,bw<|.dK d,bw k,bw c,bw<|tupI ks,bw<|.lst<|F7 C hd 0 (l.take i) ks,G,M]) {bz,bz,by ac_rfl} ?_ ?_
 .rintro i y ρ Y ⟨G,M,rfl⟩
  obtain⟨z,N,rfl⟩:=iX Y;rw[zav]at N;obtain⟨q,U,rfl⟩:=map_some N;rw[zaN];have hi:=(List.getElem?_eq_some_iff.mp U).1;obtain⟨F,B⟩:∃F,ks[i]?=bw F:={ks[i],zaG<|by lia};have e:=B3 (C:=C) (hd:=hd) l ks 0 i q F U B;rw[zaN]at e;have hx:=hh i hi;have ek:hW (ks.map D.int) (i:Int)=bw (.int F):=bY (by rw[zav,B];rfl);have ln:=HK (C:=C) (hd:=hd) (l.take i) ks 0;have W:a9 (F7 C hd 0 (l.take i) ks).length=ca:=decide_eq_true (by rw[zb3]at ln;lia);refine{[bw at_,bw nd,bw<|.dK d,bw k,bw c,bw<|tupI ks,bw<|.lst<|F7 C hd 0 (l.take<|i+1) ks,bw<|.int (i:Int),bw<|dA C q],?_,_,_,rfl};rw[e];generalize F7 C hd 0 (l.take i) ks=sp at *;simp_all[-zas,turn,dF,np,hx,tupI,ek,W]
 .rintro ρ' ⟨G,M,rfl⟩
  rw[fV,zak,zbv];simp_all
def Small(a:Sm):Prop:=∀p,a=bw p->0<=p.1/\p.1<10^250
def WA(C:Bk)(p:Pa)(c:D)(own:Int):Prop:=(U7 p = "use" /\ ∃(v:Nat) (m:Mk),c=.int (v:Int)/\C.makes[v]?=bw m/\own=m.pr)\/(¬ U7 p = "use" /\ own=0)
def NQ(a:Sm):IU (memD a) .non=bw (.bl a.isSome):=by cases a <;> rfl
def V1(h:fO L ([.inl j,.inl k]:List Key)=bw e):aL (.dT L) (.tup [.int j,.int k])=bw e:=by
 show(bw<|fO L ([.inl j,.inl k]:List Key)).join=_;rw[h];rfl
def yV{C:Bk}{at_:D}{L2:LT}{p:Pa}{d:List (Key×D)}{k j own:Int}{c:D}{R:List D->Option D}{Rs:List (D×D×D×Sm)}(hb:tJ CA "book" at_=bw (bB C))(hs:tJ CA "spans" at_=bw (.dT L2))(hv:fO L2 ([.inl j,.inl k]:List Key)=bw (memD<|F4 C j k))(ho:WA C p c own)
  (hg:a7 [bB C,.dK d,bO p,.int k,c]=bw (.int j)) (U:gB [at_,dA C p,.dK d,.int k,c]=bw (.lst<|Rs.map λr=>.tup [r.1,r.2.1,r.2.2.1])) (hR:∀r∈Rs,R [at_,r.1,r.2.1,r.2.2.1]=bw (memD r.2.2.2)) (h0:Small<|F4 C j k) (h1:∀r∈Rs,Small r.2.2.2) (h2:∀i,Small<|csum C own j k<|(Rs.map (·.2.2.2)).take i) :
  bA 10 (cT R) [at_,dA C p,.dK d,.int k,c]=bw (memD<|csum C own j k<|Rs.map (·.2.2.2)):=by
 refine aF ?_;unfold cT;have np:=jS C p;have tg:=OQ p;generalize dA C p=nd at *;have Y:(eIf (sA<|bF kQ (bF aL (dF CN "part"<|aD 1)<|eC<|.int 0)<|eC<|.str "use") (bF aL (bF aL (bF aL (dF CA "book"<|aD 0)<|eC<|.int 3)<|aD 4)<|eC<|.int 4)<|eC<|.int 0) (aE 10 [at_,nd,.dK d,.int k,c])=bw (.int own):=by
  rcases ho with⟨t,v,m,rfl,z,rfl⟩|⟨t,rfl⟩
  .have e:=mQ z
   ac_rfl
  .ac_rfl
 rw[aH<|aM (d:=.int own) Y];have M:=QE (a:=bw (1,own)) (b:=F4 C j k) (λp U=>by cases U;exact{(by decide:(0:Int)<=1),(by decide:(1:Int)<10^250)}) h0;have e0:memD (bw (1,own))=.tup [.int 1,.int own]:=rfl;rw[e0]at M;have es:=V1 hv;rw[aH<|aM (d:=memD<|csum C own j k [])<|by simp_all[aE,dF,np,hb,hs,hg,es,M,csum]];refine f7 (items:=Rs.map λr=>.tup [r.1,r.2.1,r.2.2.1]) (by ac_rfl) (λi ρ=>∃G B F,ρ=[bw at_,bw nd,bw<|.dK d,bw<|.int k,bw c,bw<|.int own,bw<|memD<|csum C own j k<|(Rs.map (·.2.2.2)).take i,G,B,F]) {bz,bz,bz,by ac_rfl} ?_ ?_
 .rintro i y ρ N ⟨G,B,F,rfl⟩
  rw[zav]at N;obtain⟨r,W,rfl⟩:=map_some N;have z:=zap W;have er:=hR r z;have et:(Rs.map (·.2.2.2)).take (i+1)=(Rs.map (·.2.2.2)).take i++[r.2.2.2]:=by
   rw[zcn,zav,W];rfl
  have ec:csum C own j k ((Rs.map (·.2.2.2)).take<|i+1)=mC (csum C own j k<|(Rs.map (·.2.2.2)).take i) r.2.2.2:=by
   rw[et];unfold csum;rw[List.foldl_append];rfl
  have bb:=QE (h2 i)<|h1 r z;have nn:=NQ<|csum C own j k<|(Rs.map (·.2.2.2)).take i;refine{[bw at_,bw nd,bw<|.dK d,bw<|.int k,bw c,bw<|.int own,bw<|memD<|csum C own j k<|(Rs.map (·.2.2.2)).take<|i+1,bw r.1,bw r.2.1,bw r.2.2.1],?_,_,_,_,rfl};rw[ec];generalize csum C own j k ((Rs.map (·.2.2.2)).take i)=t at *;cases t with
  |none=>
   have i0:iI (memD bz)=ca:=rfl
   ac_rfl
  |some t=>
   have i0:iI (memD<|bw t)=cf:=rfl
   ac_rfl
 .rintro ρ' ⟨G,B,F,rfl⟩
  rw[zak,zbF<|by rw[zak];exact zah _];simp_all
def E3(l:List Int):intsOf (l.map .int)=bw l:=by
 induction l with
 |nil=>rfl
 |cons i l ih=>show(intsOf<|l.map .int).map (i::·)=_;rw[ih];rfl
theorem uM:∀(l:List Str) (o:Option D),(∀x∈l,fO d (.inr x:Key)=bw (.int<|e x))->bD (aQ 0) fP (bF aL (aD 1)<|aD 0) (l.map .str) [o,bw<|.dK d]=bw ((l.map e).map .int)
 |[],o,_=>rfl
 |x::l,o,h=>by
  have ih:=uM l (bw<|.str x) λy z=>h y<|zaq _ z
  have B:=V0<|h x<|zar ..;rw[zaj,bD];simp_all[-zas,B,ih]
def E5{C:Bk}(B:OkB C){at_:D}{p:Pa}{d:List (Key×D)}{k:Int}{e:hV}{R:List D->Option D}{f:D->Sm}(hb:tJ CA "book" at_=bw (bB C))(M:0<=k/\k<(C.kinds.length:Int))(hd:∀x∈aP p,fO d (.inr x:Key)=bw (.int<|e x))(he:∀x∈aP p,0<=e x/\e x<(C.kinds.length:Int))(h8:(aP p).length<=8)
  (Y:∀c∈bH C p,bA 10 (cT R) [at_,dA C p,.dK d,.int k,c]=bw (memD<|f c)) (hf:(bH C p).foldl (λt c=>b6 t<|f c) bz=aU C p e k):bA 7 (iZ R) [at_,dA C p,.dK d,.int k]=bw (memD<|aU C p e k):=by
 refine aF ?_;unfold iZ;have U:=jS C p;have nn:=C5 C p;have nf:=N0 C p;have wc:=mG B p;have cm:=uM (d:=d) (e:=e) (aP p) bz hd;have z1:a9 (aP p).length=ca:=decide_eq_true (by lia);have kk:nkD (.tup [.int k,.tup<|((aP p).map e).map .int])=bw (.inl k,((aP p).map e).map .inl):=by
  show(intsOf _).map _=_;rw[E3];rfl
 have fk:=qah C p k<|(aP p).map e;have G:=qo (C:=C) (p:=p) (k:=k) (l:=(aP p).map e) M (by rw[zak]) λj hj=>by
  obtain⟨x,hx,rfl⟩:=List.mem_map.mp hj;exact he x hx
 have W:=ZN (C:=C) (p:=p) B.k6 h8;have cg:=cK C p (LH (aP p)<|(aP p).map e) e k λx hx=>BV e hx
 rw[cg]at fk;generalize dA C p=nd at *;rw[aH<|aM (d:=.tup [.int k,.tup<|((aP p).map e).map .int])<|by simp_all[-zas,aE,dF,nn,kK,z1,cm]];rw[show(aE 7 [at_,nd,.dK d,.int k]).set 4 (bw<|.tup [.int k,.tup<|((aP p).map e).map .int])=[bw at_,bw nd,bw<|.dK d,bw<|.int k,bw<|.tup [.int k,.tup<|((aP p).map e).map .int],bz,bz]from rfl];have lp:=AA (g:=aQ 6) (b:=eO 5<|aR oK<|aC (aD 5)<|aC (aR (bA 10<|cT R)<|aC (aD 0)<|aC (aD 1)<|aC (aD 2)<|aC (aD 3)<|aC (aD 6) aX) aX) (items:=bH C p) (ρ:=[bw at_,bw nd,bw<|.dK d,bw<|.int k,bw<|.tup [.int k,.tup<|((aP p).map e).map .int],bw .non,bz])
  (λi ρ => ∃z, ρ = [bw at_, bw nd, bw<|.dK d, bw<|.int k, bw<|.tup [.int k, .tup<|((aP p).map e).map .int], bw<|memD<|((bH C p).take i).foldl (λt c => b6 t<|f c) bz, z]) {bz, rfl} (by
   rintro i c ρ hi ⟨z,rfl⟩;have ec:=Y c<|zap hi;have N:(bH C p).take (i+1)=(bH C p).take i++[c]:=by rw[zcn,hi];rfl
   have ee:=LR (((bH C p).take i).foldl (λt c=>b6 t<|f c) bz)<|f c;refine{[bw at_,bw nd,bw<|.dK d,bw<|.int k,bw<|.tup [.int k,.tup<|((aP p).map e).map .int],bw<|memD<|((bH C p).take<|i+1).foldl (λt c=>b6 t<|f c) bz,bw c],?_,_,rfl};rw[N,List.foldl_append];generalize ((bH C p).take i).foldl (λt c=>b6 t<|f c) bz=t at *;simp_all[-zas,turn,ec,ee])
 obtain⟨ρ',F,z,rfl⟩:=lp;rw[zbv,hf]at F;unfold VO;have f2:(DI (gH<|aR dU<|aC (dF CA "book"<|aD 0)<|aC (dF CN "part"<|aD 1) aX) (aQ 6)<|eO 5<|aR oK<|aC (aD 5)<|aC (aR (bA 10<|cT R)<|aC (aD 0)<|aC (aD 1)<|aC (aD 2)<|aC (aD 3)<|aC (aD 6) aX) aX) [bw at_,bw nd,bw<|.dK d,bw<|.int k,bw<|.tup [.int k,.tup<|((aP p).map e).map .int],bw .non,bz]=bw (.nx [bw at_,bw nd,bw<|.dK d,bw<|.int k,bw<|.tup [.int k,.tup<|((aP p).map e).map .int],bw<|memD<|aU C p e k,z]):=by
  rw[q_for];have:gH (aR dU<|aC (dF CA "book"<|aD 0)<|aC (dF CN "part"<|aD 1) aX) [bw at_,bw nd,bw<|.dK d,bw<|.int k,bw<|.tup [.int k,.tup<|((aP p).map e).map .int],bw .non,bz]=bw (bH C p):=by simp_all[dF,hb,U,wc]
  rw[this];exact F
 have f1:(eO 5<|eC .non) [bw at_,bw nd,bw<|.dK d,bw<|.int k,bw<|.tup [.int k,.tup<|((aP p).map e).map .int],bz,bz]=bw (.nx [bw at_,bw nd,bw<|.dK d,bw<|.int k,bw<|.tup [.int k,.tup<|((aP p).map e).map .int],bw .non,bz]):=rfl;show(aD 1 [bw at_,bw nd,bw<|.dK d,bw<|.int k,bw<|.tup [.int k,.tup<|((aP p).map e).map .int],bz,bz]).bind _=_;rw[show aD 1 [bw at_,bw nd,bw<|.dK d,bw<|.int k,bw<|.tup [.int k,.tup<|((aP p).map e).map .int],bz,bz]=bw nd from rfl,aA,nf,aA];dsimp only;rw[show aD 4 [bw at_,bw nd,bw<|.dK d,bw<|.int k,bw<|.tup [.int k,.tup<|((aP p).map e).map .int],bz,bz]=bw (.tup [.int k,.tup<|((aP p).map e).map .int])from rfl,aA,kk,aA,f1,aA];dsimp only;rw[f2,aA];dsimp only;rw[show aD 5 [bw at_,bw nd,bw<|.dK d,bw<|.int k,bw<|.tup [.int k,.tup<|((aP p).map e).map .int],bw<|memD<|aU C p e k,z]=bw (memD<|aU C p e k)from rfl,aA,ci {G,W,by rw[fk],rfl,rfl}]
def qu(h:turn w s x ρ=bw (.nx ρ1))(k:ρ1=ρ2):turn w s x ρ=bw (.nx ρ2):=k ▸ h
def ZM(h:aD k ρ=bw (.lst xs))(e:f ρ=bw (.lst ys))(z:xs.length+ys.length<=1000000):U6 k f ρ=bw (.nx<|ρ.set k<|bw<|.lst<|xs++ys):=by
 unfold U6;rw[h,aA];show(f ρ).bind _=_;rw[e,aA];exact ci<|decide_eq_true z
local macro_rules | `(tactic|ac_rfl) => `(tactic|(with_reducible apply ZM) <;> ac_rfl)
theorem O0(g:GR M many C.rs):∀(n:Nat) (x:Int),k-x<(n:Int)->0<n->k-x<=5->eK 6 nN n [bB C,.int x,.int k]=bw (.lst<|(bK C.rs k n x).map tupI)
 |0,x,_,h,_=>absurd h<|zbt 0
 |n+1,x,hn,_,h5=>by
  have IH:∀y:Int,k-y<(n:Int)->0<n->k-y<=5->eK 6 nN n [bB C,.int y,.int k]=bw (.lst<|(bK C.rs k n y).map tupI):=λy=>O0 g n y
  show bA 6 (nN<|eK 6 nN n) _=_;generalize eK 6 nN n=R at IH ⊢;refine aF ?_;unfold nN bK;by_cases e:x=k
  .rw[ci e]
   ac_rfl
  rw[cj e];rw[aH (ρ':=aE 6 [bB C,.int x,.int k])<|by ac_rfl];rw[aH<|aM (d:=.lst [])<|by simp_all];refine f7 (items:=g8 0<|C.rs.map mU) (by ac_rfl) (λi ρ=>∃W G,ρ=[bw<|bB C,bw<|.int x,bw<|.int k,bw<|.lst<|(fl (λi r=>if r.j=x/\r.k<=k then(bK C.rs k n r.k).map λw=>(i:Int)::w else []) 0<|C.rs.take i).map tupI,W,G]) {bz,bz,by ac_rfl} ?_ ?_
  .rintro i y ρ hy ⟨W,G,rfl⟩
   obtain⟨z,hz,rfl⟩:=iX hy;rw[zav]at hz;obtain⟨r,U,rfl⟩:=map_some hz;rw[zaN];have gr:=g.jk r<|zap U;have hi:i<C.rs.length:=(List.getElem?_eq_some_iff.mp U).1;have gl:=g.len;refine{[bw<|bB C,bw<|.int x,bw<|.int k,bw<|.lst<|(fl (λi r=>if r.j=x/\r.k<=k then(bK C.rs k n r.k).map λw=>(i:Int)::w else []) 0<|C.rs.take<|i+1).map tupI,bw<|.int (i:Int),bw<|mU r],?_,_,_,rfl};rw[UI U];by_cases F:r.j=x/\r.k<=k
   .have aa:(fl (λi r=>if r.j=x/\r.k<=k then(bK C.rs k n r.k).map λw=>(i:Int)::w else []) 0<|C.rs.take i).length<=12*12^4:=by
     refine zaL (lJ (B:=12^4) λt N er=>?_) (Nat.mul_le_mul_right _<|by simp_all;lia);split
     .rw[zak]
      have Y:C.rs[t]?=bw N:=by rw[List.getElem?_take]at er;split at er;exact er;cases er
      have ae:=g.jk N<|zap Y;exact lK g n N.k 4<|by lia
     .exact zaM _
    rw[ci F];generalize fl (λi r=>if r.j=x/\r.k<=k then(bK C.rs k n r.k).map λw=>(i:Int)::w else []) 0 (C.rs.take i)=told at aa;have ih:=IH r.k (by lia) (by lia) (by lia);have al:=lK g n r.k 4 (k:=k) (by lia);have cm:=tY (t:=(i:Int)) (bK C.rs k n r.k) bz λw hw=>by
     have:=kF g<|fT hw;lia
    have z1:((bK C.rs k n r.k).map tupI).length<=1000000:=by rw[zak];lia
    have z2:(told.map tupI).length+(((bK C.rs k n r.k).map λw=>(i:Int)::w).map tupI).length<=1000000:=by rw[zak,zak,zak];lia
    obtain⟨c1,c2⟩:=F;rw[zaO];apply qu
    .ac_rfl
    .rfl
   .rw[cj F,zbL]
    by_cases h1:r.j=x
    .have h2:¬ r.k<=k:=λz=>F {h1,z}
     ac_rfl
    .ac_rfl
  .rintro ρ' ⟨W,G,rfl⟩
   rw[fV,zak,zbv];simp_all
def rL(h:∀n∈w,∃r,kN C.rs n=bw r)(B:w.length<=100):d6 [bB C,tupI w]=bw (.int<|cE C.rs w):=by
 obtain⟨ns,e,hs⟩:=xN h;have z:a9 w.length=ca:=decide_eq_true (by lia);refine aF ?_;simp_all[qU,aE,tupI,kK,z,e,hs]
theorem rO:∀(ws:List<|List Int) (o:Option D),(∀w∈ws,(∀n∈w,∃r,kN C.rs n=bw r)/\w.length<=100)->bD (aQ 0) fP (aR d6<|aC (aD 1)<|aC (aD 0) aX) (ws.map tupI) [o,bw<|bB C]=bw ((ws.map<|cE C.rs).map .int)
 |[],o,_=>rfl
 |w::ws,o,h=>by
  have ih:=rO ws (bw<|tupI w) λv z=>h v<|zaq _ z
  have e:=rL (h w<|zar ..).1 (h w<|zar ..).2;rw[zaj,bD];simp_all[-zas,e,ih]
def EB(B:OkB C)(M:0<=j)(k1:k<(C.kinds.length:Int)):cZ [bB C,.lst<|(bK C.rs k 8 j).map tupI]=bw (memD<|F4 C j k):=by
 have N:=B.k6;have U:=lK B.gr (k:=k) 8 j 5 (by lia);have hw:∀w∈bK C.rs k 8 j,(∀n∈w,∃r,kN C.rs n=bw r)/\w.length<=100:=λw hw=>by
  have g:=fT hw;have:=kF B.gr g;exact{gY g,by lia}
 have c:=rO (bK C.rs k 8 j) bz hw;have z:a9 (bK C.rs k 8 j).length=ca:=decide_eq_true (by lia);refine aF ?_;unfold uX F4;generalize bK C.rs k 8 j=ws at *;rw[aH<|aM (d:=.lst<|(ws.map<|cE C.rs).map .int)<|by simp_all[-zas,aE,kK,z,c]];by_cases h:ws.length=0
 .rw[ci h]
  have:ws=[]:=List.length_eq_zero_iff.mp h;subst this
  ac_rfl
 .rw[cj h]
  have e:=SV (ns:=ws.map<|cE C.rs) (λz=>h<|by rw[zeJ]at z;rw[z];rfl);have F:(0:Int)<(ws.length:Int):=by lia
  have G:¬ ws=[]:=λz=>h<|by rw[z];rfl
  simp_all[-zas,aE,e,F,G,memD]
theorem qC{B:Type}{f:D->B->Option B}(I:Nat->B->Prop):∀(l:List D) (k:Nat) (a:B),I k a->(∀i x a,l[i]?=bw x->I (k+i) a->∃z,f x a=bw z/\I (k+i+1) z)->∃z,mS f l a=bw z/\I (k+l.length) z
 |[],k,a,h,_=>{a,rfl,h}
 |x::l,k,a,h,s=>by
  obtain⟨N,M,h1⟩:=s 0 x a rfl h;obtain⟨F,U,h2⟩:=qC I l (k+1) N h1 λi y b G W=>by
   have:=s (i+1) y b (by simpa using G) (by rw[show k+(i+1)=k+1+i by lia];exact W);rw[show k+(i+1)+1=k+1+i+1 by lia]at this;exact this
  refine{F,?_,by rw[zaB,show k+(l.length+1)=k+1+l.length by lia];exact h2};show(f x a).bind (mS f l)=bw F;rw[M];exact U
def CF{l:LT}{k:List Key}:(putD l k e).length<=l.length+1:=by
 unfold putD;split <;> simp_all
def K8(C:Bk)(P:Int->Int->Prop)(p:LT×LT):Prop:=∀j k,P j k->fO p.1 ([.inl j,.inl k]:List Key)=bw (.lst<|(bK C.rs k 8 j).map tupI)/\fO p.2 ([.inl j,.inl k]:List Key)=bw (memD<|F4 C j k)
def SE{C:Bk}(B:OkB C):∃U L2,vO CA gA iQ cZ (bB C)=bw (.ob CA [("book",bB C),("routes",.dT U),("spans",.dT L2)])/\K8 C (λj k=>(0<=j/\j<(C.kinds.length:Int))/\0<=k/\k<(C.kinds.length:Int)) (U,L2):=by
 have k6:=B.k6;have g:gA (bB C)=bw (aS 0 1 C.kinds.length):=by
  unfold gA;simp_all[FY,dC<|show C.kinds.length<=1000000 by lia]
 have step:∀(j k:Int) (p:LT×LT),(0<=j/\j<(C.kinds.length:Int))->(0<=k/\k<(C.kinds.length:Int))->p.1.length<=100->p.2.length<=100->nG iQ cZ (bB C) (.int j) (.int k) p=bw (putD p.1 ([.inl j,.inl k]:List Key)<|.lst<|(bK C.rs k 8 j).map tupI,putD p.2 ([.inl j,.inl k]:List Key)<|memD<|F4 C j k):=λj k p hj hk l1 l2=>by
  have w:iQ [bB C,.int j,.int k]=bw (.lst<|(bK C.rs k 8 j).map tupI):=O0 B.gr 8 j (by lia) (by decide) (by lia);have ws:=EB B hj.1 hk.2;unfold nG;rw[w,aA,show WK (.tup [.int j,.int k])=bw ([.inl j,.inl k]:List Key)from rfl,aA,ci {decide_eq_true<|by lia,decide_eq_true<|by lia},sR,ci rfl,aA,ws];rfl
 have inner:∀(j:Nat) (p:LT×LT),j<C.kinds.length->p.1.length<=6*j->p.2.length<=6*j->K8 C (λa b=>(0<=a/\a<(j:Int))/\0<=b/\b<(C.kinds.length:Int)) p->∃p',mS (nG iQ cZ (bB C)<|.int (j:Int)) (aS 0 1 C.kinds.length) p=bw p'/\p'.1.length<=6*(j+1)/\p'.2.length<=6*(j+1)/\K8 C (λa b=>(0<=a/\a<((j+1:Nat):Int))/\0<=b/\b<(C.kinds.length:Int)) p':=λj p hj l1 l2 ok=>by
  obtain⟨p',e,a1,a2,Y⟩:=qC (f:=nG iQ cZ (bB C)<|.int (j:Int)) (λi q=>q.1.length<=6*j+i/\q.2.length<=6*j+i/\K8 C (λa b=>((0<=a/\a<(j:Int))/\0<=b/\b<(C.kinds.length:Int))\/(a=(j:Int)/\0<=b/\b<(i:Int))) q) (aS 0 1 C.kinds.length) 0 p {l1,l2,λa b h=>by rcases h with h|h;exact ok a b h;lia} (by
   intro i x q hx ⟨W,M,G⟩;obtain⟨F,rfl⟩:=cA hx;rw[zaN]at *;rw[show(0:Int)+(i:Int)*1=(i:Int) by lia];have af:=CF (l:=q.1) (k:=([.inl (j:Int),.inl (i:Int)]:List Key)) (e:=.lst<|(bK C.rs (i:Int) 8 (j:Int)).map tupI);have ag:=CF (l:=q.2) (k:=([.inl (j:Int),.inl (i:Int)]:List Key)) (e:=memD<|F4 C (j:Int) (i:Int));refine{_,step (j:Int) (i:Int) q {by lia,by lia} {by lia,by lia} (by lia)<|by lia,by simp only;lia,by simp only;lia,λa b h=>?_};simp only[sR];by_cases z:a=(j:Int)/\b=(i:Int)
   .rw[z.1,z.2,ci rfl,ci rfl];exact{rfl,rfl}
   .have N:¬ ([.inl a,.inl b]:List Key)=[.inl (j:Int),.inl (i:Int)]:=λq=>z (by simpa using q)
    rw[cj N,cj N];refine G a b ?_;rcases h with h|h
    .exact .inl h
    .exact .inr {h.1,h.2.1,by lia})
  rw[bL,zaN]at a1 a2 Y;refine{p',e,by lia,by lia,λa b h=>Y a b ?_};by_cases z:a=(j:Int)
  .exact .inr {z,h.2}
  .exact .inl {{h.1.1,by lia},h.2}
 obtain⟨p',e,_,_,ok⟩:=qC (f:=λj p=>(gA<|bB C).bind λks=>mS (nG iQ cZ (bB C) j) ks p) (λi q=>q.1.length<=6*i/\q.2.length<=6*i/\K8 C (λa b=>(0<=a/\a<(i:Int))/\0<=b/\b<(C.kinds.length:Int)) q) (aS 0 1 C.kinds.length) 0 ([],[]) {zah _,zah _,λa b h=>by lia} (by
  intro i x q hx ⟨W,M,G⟩;obtain⟨F,rfl⟩:=cA hx;rw[zaN]at *;rw[show(0:Int)+(i:Int)*1=(i:Int) by lia];obtain⟨p',e,c1,c2,c3⟩:=inner i q F W M G;exact{p',by rw[g];exact e,c1,c2,c3})
 rw[bL,zaN]at ok;refine{p'.1,p'.2,?_,ok};unfold vO;rw[g,aA,<- g,e];rfl
theorem xD(g:GR M many rs):∀(n:Nat) (x:Int),(bK rs k n x).length<=12^n
 |0,x=>zaM _
 |n+1,x=>by
  unfold bK;split
  .exact Nat.pos_of_ne_zero<|zbb<|Nat.pow_pos<|by decide
  .refine zaL (lJ (B:=12^n) λi r z=>?_) ?_
   .split
    .rw[zak];exact xD g n r.k
    .exact zaM _
   .rw[Nat.pow_succ,Nat.mul_comm];exact Nat.mul_le_mul_left _ g.len
noncomputable def TT(m:Nat):Int:=((10000000000^m:Nat):Int)
def O9(m n:Nat):TT (m+n)=TT m*TT n:=by unfold TT;rw[Nat.pow_add,Int.natCast_mul]
def UY(h:m<=n):TT m<=TT n:=Int.ofNat_le.mpr<|Nat.pow_le_pow_right (by decide) h
def IW(m:Nat):0<=TT m:=Int.natCast_nonneg _
def LeT(m:Nat)(a:Int):Prop:=0<=a/\a<=TT m
def LeT.mul(h:LeT m a)(k:LeT n b):LeT (m+n)<|a*b:={zdd h.1 k.1,by rw[O9];exact Int.mul_le_mul h.2 k.2 k.1<|IW m}
def LeT.mono(h:LeT m a)(k:m<=n):LeT n a:={h.1,zcm h.2<|UY k}
def LeT.one:LeT 0 1:={by decide,by unfold TT;exact zbr _}
def vC(h:LeT m<|nI a)(B:m<=16):Small a:=λp z=>by
 subst z;have b:=(h.mono B).2;have c:TT 16<10^250:=by decide +kernel
 exact{h.1,Int.lt_of_le_of_lt b c}
noncomputable def cI:D->Int
 |.int v=>v
 |_=>0
def nO(C:Bk):Pa->D->Int
 |.use1 ..,c=>mpr C (cI c).toNat
 |.use2 ..,c=>mpr C (cI c).toNat
 |_,_=>0
def cC(C:Bk):Pa->hV->Int->D->Int
 |.name x,e,_,_=>e x
 |.num _ j,_,_,_=>j
 |.use1 ..,_,_,c=>dW C (cI c).toNat
 |.use2 ..,_,_,c=>dW C (cI c).toNat
 |.lett ..,_,k,_=>k
 |.pick _ k' ..,_,_,_=>k'
 |.again _ k' ..,_,_,_=>k'
def DN(C:Bk):Pa->Int->D->List Int
 |.use1 ..,_,c=>[aT C (cI c).toNat 0]
 |.use2 ..,_,c=>[aT C (cI c).toNat 0,aT C (cI c).toNat 1]
 |.lett ..,k,c=>[cI c,k]
 |.pick c' k' ..,_,_=>[c',k',k']
 |.again _ k' ..,_,_=>[k',k']
 |_,_,_=>[]
def FW:Pa->D->Int
 |.lett ..,c=>cI c
 |.again _ k' ..,_=>k'
 |_,_=>0
def LL(p:Pa)(e:hV)(c:D)(i:Nat):hV:=match hid p i with
 |none=>e
 |some x=>fN e x<|FW p c
def IZ(p:Pa)(d:List<|Key×D)(c:D)(i:Nat):List<|Key×D:=match hid p i with
 |none=>d
 |some x=>putD d (.inr x)<|.int<|FW p c
abbrev Sb:=Pa×List (Key×D)×hV×Int
def F3(hd:Nat->List (Key×D))(ev:Nat->hV):Nat->List Pa->List Int->List Sb
 |i,q::l,k::ks=>(q,hd i,ev i,k)::F3 hd ev (i+1) l ks
 |_,_,_=>[]
def kP(C:Bk)(s:Sb):Sm:=aU C s.1 s.2.2.1 s.2.2.2
def sb(C:Bk)(p:Pa)(d:List<|Key×D)(e:hV)(k:Int)(c:D):List Sb:=F3 (IZ p d c) (LL p e c) 0 (kids p)<|DN C p k c
def nR(C:Bk)(p:Pa)(d:List<|Key×D)(e:hV)(k:Int)(c:D):Sm:=csum C (nO C p c) (cC C p e k c) k<|(sb C p d e k c).map<|kP C
def pE(C:Bk)(p:Pa)(d:List<|Key×D)(e:hV)(k:Int):(bH C p).foldl (λt c=>b6 t<|nR C p d e k c) bz=aU C p e k:=by
 cases p with
 |name x=>simp only[bH,aU,zcD,zd2];cases h:nR C (.name x) d e k .non <;> exact h.symm
 |num n j=>simp only[bH,aU,zcD,zd2];cases h:nR C (.num n j) d e k .non <;> exact h.symm
 |use1 nm p=>simp only[bH,aU,List.foldl_map];rfl
 |use2 nm p q=>simp only[bH,aU,List.foldl_map];rfl
 |lett x p q=>simp only[bH,aU,List.foldl_map];rfl
 |pick c' k' p q r=>simp only[bH,aU,zcD,zd2];cases h:nR C (.pick c' k' p q r) d e k .non <;> exact h.symm
 |again n k' x p q=>simp only[bH,aU,zcD,zd2];cases h:nR C (.again n k' x p q) d e k .non <;> exact h.symm
theorem gQ{hd:Nat->List (Key×D)}{ev:Nat->hV}:∀ {l:List Pa} {ks:List Int} {j i:Nat} {s:Sb},(F3 hd ev j l ks)[i]?=bw s->∃q k,l[i]?=bw q/\ks[i]?=bw k/\s=(q,hd<|j+i,ev<|j+i,k)
 |[],ks,j,i,s,h=>by cases ks <;> simp[-zad,-zab,aA,aB,F3]at h
 |q::l,[],j,i,s,h=>by simp[-zad,-zab,aA,aB,F3]at h
 |q::l,k::ks,j,0,s,h=>by
  have:(q,hd j,ev j,k)=s:=by simpa[F3]using h
  exact{q,k,rfl,rfl,this.symm}
 |q::l,k::ks,j,i+1,s,h=>by
  obtain⟨B,z,h1,h2,F⟩:=gQ (l:=l) (ks:=ks) (j:=j+1) (i:=i) (s:=s) (by simpa[F3]using h);exact{B,z,by simpa using h1,by simpa using h2,by rw[F,show j+1+i=j+(i+1) by lia]}
theorem pC{hd:Nat->List (Key×D)}{ev:Nat->hV}:∀ {l:List Pa} {ks:List Int} {j:Nat},l.length=ks.length->(F3 hd ev j l ks).length=l.length
 |[],ks,j,h=>by cases ks <;> rfl
 |q::l,[],j,h=>by simp[-zad,-zab,aA,aB]at h
 |q::l,k::ks,j,h=>by rw[F3,zaB,zaB,pC<|by simpa using h]
theorem y9{hd:Nat->List (Key×D)}{ev:Nat->hV}:∀(l:List Pa) (ks:List Int) (j:Nat),((F3 hd ev j l ks).map λs=>psz s.1).sum<=(l.map psz).sum
 |[],ks,j=>by cases ks <;> simp_all[F3]
 |q::l,[],j=>by simp_all[F3]
 |q::l,k::ks,j=>by
  have:=y9 (hd:=hd) (ev:=ev) l ks<|j+1;simp only[F3,zaj,za5];lia
theorem GH{C:Bk}{hd:Nat->List (Key×D)}{ev:Nat->hV}:∀(l:List Pa) (ks:List Int) (j:Nat),F7 C (λi=>.dK<|hd i) j l ks=(F3 hd ev j l ks).map λs=>.tup [dA C s.1,.dK s.2.1,.int s.2.2.2]
 |[],ks,j=>by cases ks <;> rfl
 |q::l,[],j=>rfl
 |q::l,k::ks,j=>by rw[F7,F3,zaj,GH l ks<|j+1]
def AE(h:s∈sb C p d e k c):s.1∈kids p:=by
 obtain⟨i,hi⟩:=zbG h;obtain⟨q,z,h1,h2,rfl⟩:=gQ hi;exact zap h1
theorem oQ:∀(l:List Sb) (i:Nat),(∀s∈l,LeT (psz s.1)<|nI<|kP C s)->LeT (l.map λs=>psz s.1).sum (jA<|((l.map<|kP C).take i).map nI)
 |[],i,_=>by simp only[zcf,List.take_nil,jA,List.sum_nil];exact .one
 |s::l,0,h=>by simp only[List.take_zero,zcf,jA];exact LeT.one.mono<|zaM _
 |s::l,i+1,h=>by
  simp only[zaj,zcE,jA,za5];exact(h s<|zar ..).mul<|oQ l i λt z=>h t<|zaq _ z
def RC(B:OkB C)(p:Pa):(bH C p).length<=6:=by
 have F:=B.k6;have z:=B.ml;have u:∀nm n,(pT C nm n).length<=6:=λnm n=>by
  unfold pT;refine zaL (zdl ..) ?_;rw[zcS];exact z
 cases p <;> simp_all[bH] <;> first|exact u _ _|lia
def U8(B:OkB C)(j k:Int):((bK C.rs k 8 j).length:Int)<=429981696:=Int.ofNat_le.mpr<|xD B.gr 8 j
def V8(B:OkB C)(h:LeT m<|jA<|l.map nI):0<=nI (csum C own j k l)/\nI (csum C own j k l)<=TT m*429981696:=by
 rw[fF,zN];have e:jA [((bK C.rs k 8 j).length:Int)]=((bK C.rs k 8 j).length:Int):=by simp_all[jA]
 rw[e];have a:=U8 B j k;exact{zdd h.1<|by lia,Int.mul_le_mul h.2 a (by lia)<|IW m}
theorem O4{z:Type}{f:z->Int}{c:Int}:∀ {l:List z},(∀v∈l,f v<=c)->(l.map f).sum<=(l.length:Int)*c
 |[],_=>by simp_all
 |a::l,h=>by
  have h1:=h a<|zar ..;have h2:=O4 (l:=l) λv B=>h v<|zaq _ B
  rw[zaj,za5,zaB,Int.natCast_succ,Int.add_mul];lia
def QD(m:Nat):TT (m+1)=TT m*10000000000:=by rw[O9];rfl
theorem mM{C:Bk}(B:OkB C):∀(n:Nat) (p:Pa),psz p<=n->∀(e:hV) (k:Int),LeT (psz p) (nI<|aU C p e k)
 |0,p,h,_,_=>by have:=dD p;lia
 |n+1,p,h,e,k=>by
  refine{cF C p e k,?_};rw[<- pE C p [] e k,jU];have ks:=dD p;have F:=RC B p;have z:∀c∈bH C p,nI (nR C p [] e k c)<=TT ((kids p).map psz).sum*429981696:=λc _=>by
   have a:=oQ (C:=C) (sb C p [] e k c) (sb C p [] e k c).length λs hs=>mM B n s.1 (by have:=gZ<|AE hs;lia) _ _
   rw[zbF<|by rw[zak];exact zah _]at a;exact(V8 B<|a.mono<|y9 ..).2
  have:=O4 z;rw[<- ks,QD];have M:=IW ((kids p).map psz).sum;generalize TT ((kids p).map psz).sum=T at *;have G:((bH C p).length:Int)*(T*429981696)<=6*(T*429981696):=zd1 (by lia) (by lia);rw[show nI (bz:Sm)=0 from rfl];lia
def NY{C:Bk}(B:OkB C){own j k:Int}{l:List Sb}{m:Nat}(F:(l.map λs=>psz s.1).sum+1<=m)(z:m<=16)(i:Nat):LeT m (nI<|csum C own j k<|(l.map<|kP C).take i)/\Small (csum C own j k<|(l.map<|kP C).take i):=by
 have a:=V8 B (own:=own) (j:=j) (k:=k)<|oQ (C:=C) l i λs _=>mM B _ s.1 (zah _) _ _;have b:LeT ((l.map λs=>psz s.1).sum+1)<|nI<|csum C own j k<|(l.map<|kP C).take i:=⟨a.1,by
  rw[QD];have G:=IW (l.map λs=>psz s.1).sum
  lia⟩
 exact{b.mono F,vC (b.mono F) z}
def PaOk(C:Bk)(U:List Str):Pa->Prop
 |.name x=>x∈U
 |.num _ j=>0<=j/\j<(C.kinds.length:Int)
 |.use1 _ p=>PaOk C U p
 |.use2 _ p q=>PaOk C U p/\PaOk C U q
 |.lett x p q=>x∈U/\PaOk C U p/\PaOk C U q
 |.pick c k p q r=>(0<=c/\c<(C.kinds.length:Int))/\(0<=k/\k<(C.kinds.length:Int))/\PaOk C U p/\PaOk C U q/\PaOk C U r
 |.again _ k x p q=>(0<=k/\k<(C.kinds.length:Int))/\x∈U/\PaOk C U p/\PaOk C U q
def QW{z:Type}{a q:z}{i:Nat}(h:[a][i]?=bw q):i=0/\q=a:=by
 cases i with
 |zero=>exact{rfl,by simpa using h.symm}
 |succ i=>simp[-zad,-zab,aA,aB]at h
def wU{z:Type}{a b q:z}{i:Nat}(h:[a,b][i]?=bw q):(i=0/\q=a)\/(i=1/\q=b):=by
 cases i with
 |zero=>exact .inl {rfl,by simpa using h.symm}
 |succ i=>have:=QW (a:=b) (q:=q) (i:=i) (by simpa using h);exact .inr {by lia,this.2}
def get3{B:Type}{a b c q:B}{i:Nat}(h:[a,b,c][i]?=bw q):(i=0/\q=a)\/(i=1/\q=b)\/(i=2/\q=c):=by
 cases i with
 |zero=>exact .inl {rfl,by simpa using h.symm}
 |succ i=>
  rcases wU (a:=b) (b:=c) (q:=q) (i:=i) (by simpa using h)with z|z
  .exact .inr<|.inl {by lia,z.2}
  .exact .inr<|.inr {by lia,z.2}
def sN{p q:Pa}{i:Nat}{x:Str}(z:(kids p)[i]?=bw q)(hx:x∈aP q)(B:bw x≠hid p i):x∈aP p:=by
 cases p with
 |name y=>simp[-zad,-zab,aA,aB,kids]at z
 |num n j=>simp[-zad,-zab,aA,aB,kids]at z
 |use1 nm p=>obtain⟨rfl,rfl⟩:=QW z;simp only[aP,bC];exact .inr {hx,by simp_all}
 |use2 nm p q=>
  simp only[aP,bC];rcases wU z with⟨rfl,rfl⟩|⟨rfl,rfl⟩
  .exact .inl<|.inr {hx,by simp_all}
  .exact .inr {hx,by simp_all}
 |lett y p q=>
  simp only[aP,bC];rcases wU z with⟨rfl,rfl⟩|⟨rfl,rfl⟩
  .exact .inl<|.inr {hx,by simp_all}
  .exact .inr {hx,B}
 |pick c k p q r=>
  simp only[aP,bC];rcases get3 z with⟨rfl,rfl⟩|⟨rfl,rfl⟩|⟨rfl,rfl⟩
  .exact .inl<|.inl<|.inr {hx,by simp_all}
  .exact .inl<|.inr {hx,by simp_all}
  .exact .inr {hx,by simp_all}
 |again n k y p q=>
  simp only[aP,bC];rcases wU z with⟨rfl,rfl⟩|⟨rfl,rfl⟩
  .exact .inl<|.inr {hx,by simp_all}
  .exact .inr {hx,B}
def PaOk.kid(h:PaOk C U p)(z:q∈kids p):PaOk C U q:=by
 cases p with
 |name y=>cases z
 |num n j=>cases z
 |use1 nm p=>rw[List.mem_singleton.mp z];exact h
 |use2 nm p q=>simp[-zad,-zab,aA,aB,kids]at z;rcases z with rfl|rfl;exact h.1;exact h.2
 |lett y p q=>simp[-zad,-zab,aA,aB,kids]at z;rcases z with rfl|rfl;exact h.2.1;exact h.2.2
 |pick c k p q r=>simp[-zad,-zab,aA,aB,kids]at z;rcases z with rfl|rfl|rfl;exact h.2.2.1;exact h.2.2.2.1;exact h.2.2.2.2
 |again n k y p q=>simp[-zad,-zab,aA,aB,kids]at z;rcases z with rfl|rfl;exact h.2.2.1;exact h.2.2.2
theorem PaOk.nms:∀ {p:Pa},PaOk C U p->∀x∈aP p,x∈U
 |.name y,h,x,hx=>by rw[List.mem_singleton.mp hx];exact h
 |.num _ _,h,x,hx=>by cases hx
 |.use1 _ p,h,x,hx=>by
  simp[-zad,-zab,aA,aB,aP,bC]at hx;exact PaOk.nms (p:=p) h x hx
 |.use2 _ p q,h,x,hx=>by
  simp[-zad,-zab,aA,aB,aP,bC]at hx;rcases hx with z|z
  .exact PaOk.nms h.1 x z
  .exact PaOk.nms h.2 x z
 |.lett _ p q,h,x,hx=>by
  simp[-zad,-zab,aA,aB,aP,bC]at hx;rcases hx with z|z
  .exact PaOk.nms h.2.1 x z
  .exact PaOk.nms h.2.2 x z.1
 |.pick _ _ p q r,h,x,hx=>by
  simp[-zad,-zab,aA,aB,aP,bC]at hx;rcases hx with(z|z)|z
  .exact PaOk.nms h.2.2.1 x z
  .exact PaOk.nms h.2.2.2.1 x z
  .exact PaOk.nms h.2.2.2.2 x z
 |.again _ _ _ p q,h,x,hx=>by
  simp[-zad,-zab,aA,aB,aP,bC]at hx;rcases hx with z|z
  .exact PaOk.nms h.2.2.1 x z
  .exact PaOk.nms h.2.2.2 x z.1
def cY(F:a.Nodup)(z:l.Nodup):(fY h a l).Nodup:=by
 unfold fY;refine List.nodup_append.mpr {F,z.filter _,λx hx y B e=>?_};have:=(List.mem_filter.mp B).2;subst e;simp[-zad,-zab,aA,aB,hx]at this
theorem dB:∀p:Pa,(aP p).Nodup
 |.name y=>by simp_all[aP]
 |.num _ _=>by simp_all[aP]
 |.use1 _ p=>cY .nil<|dB p
 |.use2 _ p q=>cY (cY .nil<|dB p)<|dB q
 |.lett _ p q=>cY (cY .nil<|dB p)<|dB q
 |.pick _ _ p q r=>cY (cY (cY .nil<|dB p)<|dB q)<|dB r
 |.again _ _ _ p q=>cY (cY .nil<|dB p)<|dB q
def PaOk.n8(h:PaOk C U p)(z:U.length<=8):(aP p).length<=8:=zaL (tX (dB p) h.nms) z
def gM(h:c∈(pT C nm n).map λ(v:Nat)=>D.int (v:Int)):∃(v:Nat) (m:Mk),c=.int (v:Int)/\C.makes[v]?=bw m/\m.nm=nm/\m.takes.length=n:=by
 obtain⟨v,z,rfl⟩:=List.mem_map.mp h;have:=(List.mem_filter.mp z).2;cases e:C.makes[v]? with
 |none=>rw[e]at this;cases this
 |some m=>
  rw[e]at this;simp[-zad,-zab,aA,aB]at this;exact{v,m,rfl,e,this.1,this.2}
def vT{C:Bk}(h:c∈(zau C.kinds.length).map λ(v:Nat)=>D.int (v:Int)):∃v:Nat,c=.int (v:Int)/\v<C.kinds.length:=by
 obtain⟨v,z,rfl⟩:=List.mem_map.mp h;exact{v,rfl,List.mem_range.mp z}
def dQ(v:Nat):(cI<|.int (v:Int)).toNat=v:=zbC v
structure PI'(C:Bk)(U:List Str)(p:Pa)(d:List<|Key×D)(e:hV)(k:Int):Prop where
 ok:PaOk C U p
 k0:0<=k
 k1:k<(C.kinds.length:Int)
 hd:∀x∈aP p,fO d (.inr x:Key)=bw (.int<|e x)
 he:∀x∈aP p,0<=e x/\e x<(C.kinds.length:Int)
 dl:d.length+psz p<=1000
def FK(h:C.makes[v]?=bw m)(l:m.takes.length=1):m.takes=[aT C v 0]:=by
 rw[fD h];obtain⟨a,e⟩:∃a,m.takes=[a]:=List.length_eq_one_iff.mp l;rw[e];rfl
def FP(h:C.makes[v]?=bw m)(l:m.takes.length=2):m.takes=[aT C v 0,aT C v 1]:=by
 rw[fD h,fD h]
 match e:m.takes,l with
 |[a,b],_=>rfl
def yA(B:OkB C)(h:PaOk C U p)(k0:0<=k)(k1:k<(C.kinds.length:Int))(M:c∈bH C p):(DN C p k c).length=(kids p).length/\∀j∈DN C p k c,0<=j/\j<(C.kinds.length:Int):=by
 cases p with
 |name y=>exact{rfl,λ_ h=>nomatch h}
 |num n j=>exact{rfl,λ_ h=>nomatch h}
 |use1 nm p=>
  obtain⟨v,m,rfl,F,_,G⟩:=gM M;refine{rfl,?_};have t:=FK F G;simp only[DN,dQ];rw[<- t];exact B.tb m<|zap F
 |use2 nm p q=>
  obtain⟨v,m,rfl,F,_,G⟩:=gM M;refine{rfl,?_};have t:=FP F G;simp only[DN,dQ];rw[<- t];exact B.tb m<|zap F
 |lett y p q=>
  obtain⟨v,rfl,N⟩:=vT M;refine{rfl,λj z=>?_};simp[-zad,-zab,aA,aB,DN,cI]at z
  lia
 |pick c' k' p q r=>
  refine{rfl,λj z=>?_};simp[-zad,-zab,aA,aB,DN]at z;rcases z with rfl|rfl
  .exact h.1
  .exact h.2.1
 |again n k' y p q=>
  refine{rfl,λj z=>?_};simp[-zad,-zab,aA,aB,DN]at z;rw[z];exact h.1
def PJ(h:PaOk C U p)(B:c∈bH C p)(z:hid p i=bw x):0<=FW p c/\FW p c<(C.kinds.length:Int):=by
 unfold hid at z;split at z
 .obtain⟨v,rfl,F⟩:=vT B
  simp only[FW,cI];lia
 .exact h.1
 .cases z
theorem PI'.kid(B:OkB C)(h:PI' C U p d e k)(W:c∈bH C p)(M:(kids p)[i]?=bw q)(hk:(DN C p k c)[i]?=bw kk):PI' C U q (IZ p d c i) (LL p e c i) kk:=by
 have N:=zap M;have sz:=gZ N;have G:=(yA B h.ok h.k0 h.k1 W).2 kk<|zap hk;have dl:=h.dl;unfold IZ LL;cases e1:hid p i with
 |none=>
  have F:∀x∈aP q,x∈aP p:=λx hx=>sN M hx<|by rw[e1];simp_all
  exact{h.ok.kid N,G.1,G.2,λx hx=>h.hd x<|F x hx,λx hx=>h.he x<|F x hx,by simp only;lia}
 |some y=>
  have F:∀x∈aP q,¬ x=y->x∈aP p:=λx hx n=>sN M hx<|by rw[e1];intro z;injection z with z;exact n z
  have Y:=PJ h.ok W e1;refine{h.ok.kid N,G.1,G.2,λx hx=>?_,λx hx=>?_,?_}
  .simp only[sR,fN]
   by_cases z:x=y
   .rw[ci (by rw[z]),ci z]
   .rw[cj (λw=>z<|by injection w),cj z];exact h.hd x<|F x hx z
  .simp only[fN]
   by_cases z:x=y
   .rw[ci z];exact Y
   .rw[cj z];exact h.he x<|F x hx z
  .have:=u3 (d:=d) (k:=.inr y) (e:=.int<|FW p c)
   simp only;lia
def RQ(z:d.length<=1000)(B:c∈bH C p)(i:Nat):dS [.dK d,bO p,.int (i:Int),c]=bw (.dK<|IZ p d c i):=by
 have w:=BJ p i;cases e1:hid p i with
 |none=>
  rw[e1]at w;rw[D0 w];unfold IZ;rw[e1]
 |some y=>
  unfold IZ;rw[e1];unfold hid at e1;split at e1
  .cases e1
   obtain⟨v,rfl,F⟩:=vT B;exact JX z
  .cases e1
   exact AY z
  .cases e1
def IG(h:PI' C U p d e k)(B:c∈bH C p):a7 [bB C,.dK d,bO p,.int k,c]=bw (.int<|cC C p e k c):=by
 cases p with
 |name x=>exact EI<|h.hd x<|List.mem_singleton.mpr rfl
 |num n j=>exact JA
 |use1 nm p=>
  obtain⟨v,m,rfl,z,_,_⟩:=gM B;rw[EA z];simp only[cC,dQ,eM z]
 |use2 nm p q=>
  obtain⟨v,m,rfl,z,_,_⟩:=gM B;rw[ER z];simp only[cC,dQ,eM z]
 |lett y p q=>exact KH
 |pick c' k' p q r=>exact E4
 |again n k' y p q=>exact A6
def qb8(F:c∈bH C p):bW [bB C,bO p,.int k,c]=bw (tupI<|DN C p k c):=by
 cases p with
 |name x=>exact KU
 |num n j=>exact M0
 |use1 nm p=>
  obtain⟨v,m,rfl,z,_,B⟩:=gM F;rw[J5 z,FK z B];simp only[DN,dQ]
 |use2 nm p q=>
  obtain⟨v,m,rfl,z,_,B⟩:=gM F;rw[KM z,FP z B];simp only[DN,dQ]
 |lett y p q=>
  obtain⟨v,rfl,G⟩:=vT F;exact OD
 |pick c' k' p q r=>exact K3
 |again n k' y p q=>exact DX
def nH(B:OkB C)(h:PI' C U p d e k)(F:c∈bH C p):0<=cC C p e k c/\cC C p e k c<(C.kinds.length:Int):=by
 cases p with
 |name x=>exact h.he x<|List.mem_singleton.mpr rfl
 |num n j=>exact h.ok
 |use1 nm p=>
  obtain⟨v,m,rfl,z,_,_⟩:=gM F;simp only[cC,dQ,eM z];exact B.gb m<|zap z
 |use2 nm p q=>
  obtain⟨v,m,rfl,z,_,_⟩:=gM F;simp only[cC,dQ,eM z];exact B.gb m<|zap z
 |lett y p q=>exact{h.k0,h.k1}
 |pick c' k' p q r=>exact h.ok.2.1
 |again n k' y p q=>exact h.ok.1
def AtD(C:Bk)(at_:D):Prop:=∃z L2,at_=.ob CA [("book",bB C),("routes",.dT z),("spans",.dT L2)]/\K8 C (λj k=>(0<=j/\j<(C.kinds.length:Int))/\0<=k/\k<(C.kinds.length:Int)) (z,L2)
def AtD.book{C:Bk}{at_:D}(h:AtD C at_):tJ CA "book" at_=bw (bB C):=by
 obtain⟨z,L2,rfl,_⟩:=h;rfl
def IF{C:Bk}(B:OkB C){U:List Str}{at_:D}(A:AtD C at_){p:Pa}{d:List (Key×D)}{e:hV}{k:Int}{c:D}(h:PI' C U p d e k)(z:c∈bH C p):gB [at_,dA C p,.dK d,.int k,c]=bw (.lst<|(sb C p d e k c).map λs=>.tup [dA C s.1,.dK s.2.1,.int s.2.2.2]):=by
 have F:=h.dl;rw[T8 (hd:=λi=>.dK<|IZ p d c i) A.book (qb8 z) (by rw[(yA B h.ok h.k0 h.k1 z).1];exact zah _) λi _=>RQ (by lia) z i];rw[GH (ev:=LL p e c)];rfl
def WN(B:c∈bH C p):WA C p c<|nO C p c:=by
 cases p with
 |name x=>exact .inr {lY,rfl}
 |num n j=>exact .inr {jZ,rfl}
 |use1 nm p=>
  obtain⟨v,m,rfl,z,_,_⟩:=gM B;exact .inl {rfl,v,m,rfl,z,by simp only[nO,dQ,mpr,z];rfl}
 |use2 nm p q=>
  obtain⟨v,m,rfl,z,_,_⟩:=gM B;exact .inl {rfl,v,m,rfl,z,by simp only[nO,dQ,mpr,z];rfl}
 |lett y p q=>exact .inr {kA,rfl}
 |pick c' k' p q r=>exact .inr {kE,rfl}
 |again n k' y p q=>exact .inr {kB,rfl}
def P3:((sb C p d e k c).map λs=>psz s.1).sum+1<=psz p:=by
 have a:=y9 (hd:=IZ p d c) (ev:=LL p e c) (kids p) (DN C p k c) 0;have b:=dD p;unfold sb;lia
def AB{C:Bk}(B:OkB C){U:List Str}{at_:D}(A:AtD C at_){p:Pa}{d:List (Key×D)}{e:hV}{k:Int}{c:D}{R:List D->Option D}(h:PI' C U p d e k)(z:c∈bH C p)(sz:psz p<=16)(W:∀s∈sb C p d e k c,PI' C U s.1 s.2.1 s.2.2.1 s.2.2.2->psz s.1<psz p->R [at_,dA C s.1,.dK s.2.1,.int s.2.2.2]=bw (memD<|kP C s)) :
  bA 10 (cT R) [at_,dA C p,.dK d,.int k,c]=bw (memD<|nR C p d e k c):=by
 have M:=nH B h z;have hs:=IF B A h z;have bk:=A.book;have ss:=P3 (C:=C) (p:=p) (d:=d) (e:=e) (k:=k) (c:=c);obtain⟨L1,L2,rfl,ok⟩:=A;have F:∀s∈sb C p d e k c,PI' C U s.1 s.2.1 s.2.2.1 s.2.2.2/\psz s.1<psz p:=λs hs=>by
  obtain⟨i,hi⟩:=zbG hs;have N:=gZ<|AE hs;obtain⟨q,Y,h1,h2,rfl⟩:=gQ hi;rw[zaN];exact{h.kid B z h1 h2,N}
 have:=yV (C:=C) (p:=p) (d:=d) (k:=k) (j:=cC C p e k c) (own:=nO C p c) (c:=c) (R:=R) (L2:=L2) (Rs:=(sb C p d e k c).map λs=>(dA C s.1,.dK s.2.1,.int s.2.2.2,kP C s)) bk rfl (ok _ _ {M,h.k0,h.k1}).2 (WN z) (IG h z) (by rw[hs,zas];rfl)
  (λr G => by
   obtain⟨s,hs,rfl⟩:=List.mem_map.mp G;exact W s hs (F s hs).1 (F s hs).2) (vC (m:=1) {by rw[FG];lia,by rw[FG];exact zcm (U8 B _ _)<|by decide}<|by decide) (λr G=>by
   obtain⟨s,hs,rfl⟩:=List.mem_map.mp G;exact vC (mM B _ s.1 (zah _) _ _)<|by have:=(F s hs).2;lia) λi=>by
   rw[zas];exact(NY B ss sz i).2
 rw[this,zas];rfl
theorem wA{C:Bk}(B:OkB C){U:List Str}(z:U.length<=8){at_:D}(A:AtD C at_):∀(n:Nat) (p:Pa) (d:List<|Key×D) (e:hV) (k:Int),psz p<=n->psz p<=16->PI' C U p d e k->eK 7 iZ n [at_,dA C p,.dK d,.int k]=bw (memD<|aU C p e k)
 |0,p,d,e,k,h,_,_=>by have:=dD p;lia
 |n+1,p,d,e,k,h,h16,I=>by
  show bA 7 (iZ<|eK 7 iZ n) _=_;exact E5 B A.book {I.k0,I.k1} I.hd I.he (I.ok.n8 z) (f:=nR C p d e k) (λc G=>AB B A I G h16 λs _ F M=>wA B z A n s.1 s.2.1 s.2.2.1 s.2.2.2 (by lia) (by lia) F)<|pE C p d e k
def bT:Rg->List Rg
 |.use1 _ _ p _=>[p]
 |.use2 _ _ p q _=>[p,q]
 |.lett _ _ p q=>[p,q]
 |.pick _ _ p q r _=>[p,q,r]
 |.again _ _ _ p q _=>[p,q]
 |_=>[]
def zD(g:Rg):kids (pa g)=(bT g).map pa:=by cases g <;> rfl
def zS(g:Rg):ir g=(bT g).map rd:=by cases g <;> rfl
def sI(h:q∈bT g):size q<size g:=by
 rw[<- bJ,<- bJ];exact gZ<|by rw[zD];exact List.mem_map.mpr {q,h,rfl}
def pR(l:List D)(c:D)(f:D->Sm):Int:=((l.filter λu=>decide (cI u<cI c)).map λu=>nI<|f u).sum
def wJ(C:Bk):List Rg->List Sb->List (Int×Int)
 |g::l,s::m=>(b9 C g s.2.2.1 s.2.2.2,nI<|kP C s)::wJ C l m
 |_,_=>[]
def yZ(l:List Nat)(v:Nat)(z:j.toNat=v)(f:D->Sm):pR (l.map λ(v:Nat)=>D.int (v:Int)) (.int j) f=wR l v λu=>f<|.int (u:Int):=by
 unfold pR wR;rw[List.filter_map,zas];have:((λu=>decide (cI u<cI (.int j))) ∘ λ(v:Nat)=>D.int (v:Int))=λu:Nat=>decide (u<v):=by
  funext u;show decide ((u:Int)<j)=decide (u<v);congr 1;exact propext {λh=>by lia,λh=>by lia}
 rw[this];rfl
def sW(f:D->Sm):pR [.non] .non f=0:=rfl
def pG(C:Bk)(g:Rg)(d:List<|Key×D)(e:hV)(k:Int):b9 C g e k=pR (bH C<|pa g) (ch g) (nR C (pa g) d e k)+bV 0 (wJ C (bT g) (sb C (pa g) d e k<|ch g)++[kL C (cC C (pa g) e k<|ch g) k<|wy g]):=by
 cases g with
 |name x j w=>simp only[bH,pa,ch,sW,zbw];rfl
 |num n j w=>simp only[bH,pa,ch,sW,zbw];rfl
 |use1 v nm p w=>simp only[bH,pa,ch,yZ _ v<|zbC v];rfl
 |use2 v nm p q w=>simp only[bH,pa,ch,yZ _ v<|zbC v];rfl
 |lett x j p q=>simp only[bH,pa,ch,yZ _ j.toNat rfl];rfl
 |pick c k' p q r w=>simp only[bH,pa,ch,sW,zbw];rfl
 |again n k' x p q w=>simp only[bH,pa,ch,sW,zbw];rfl
structure WI(C:Bk)(U:List Str)(kn:List<|Str×Int)(g:Rg)(d:List<|Key×D)(e:hV)(k:Int):Prop where
 wf:WF C kn g k
 nf:NF U (kn.map (·.1)) g
 ok:OkN C kn
 ec:EC e kn
 cd:Cons d kn
 un:∀p∈kn,p.1∈U
 dl:d.length+size g<=1000
def qbU(B:OkB C):∀ {kn:List (Str×Int)} {N:List Str} {k:Int},WF C kn g k->NF U N g->OkN C kn->(∀p∈kn,p.1∈U)->PaOk C U (pa g):=by
 have up:∀ {x:Str} {j:Int} {kn:List (Str×Int)},x∈U->(∀p∈kn,p.1∈U)->∀p∈(x,j)::kn,p.1∈U:=λhx G p hp=>by
  rcases List.mem_cons.mp hp with z|z
  .rw[z];exact hx
  .exact G p z
 induction g with
 |name x j w=>exact λW _ _ G=>G _ W.1
 |num n j w=>exact λW _ _ _=>W.2.1
 |use1 v nm p w ih=>rintro _ _ _ ⟨m,t,a,b,c,d,f⟩ F K G;exact ih d F K G
 |use2 v nm p q w ih ih2=>rintro _ _ _ ⟨m,t,u,a,b,c,d,d2,f⟩ F K G;exact{ih d F.1 K G,ih2 d2 F.2 K G}
 |lett x j p q ih ih2=>exact λW F K G=>{F.2.1.2,ih W.1 F.1 K G,ih2 W.2 F.2.2 (K.cons (W.1.short B K).2.1 (W.1.short B K).2.2)<|up F.2.1.2 G}
 |pick c k' p q r w ih ih2 ih3=>rintro _ _ _ ⟨a,b,M,Y,c3,d⟩ F K G;exact{a,b,ih M F.1 K G,ih2 Y F.2.1 K G,ih3 c3 F.2.2 K G}
 |again n k' x p q w ih ih2=>rintro _ _ _ ⟨a,b,M,Y,d⟩ F K G;exact{b,F.2.1.2,ih M F.1 K G,ih2 Y F.2.2 (K.cons b.1 b.2)<|up F.2.1.2 G}
def FJ:∀ {kn:List (Str×Int)} {k:Int},WF C kn g k->∀x∈aP (pa g),∃j,(x,j)∈kn:=by
 have cut:∀ {x y:Str} {j:Int} {kn:List (Str×Int)},(∃i,(y,i)∈(x,j)::kn)->¬ y=x->∃i,(y,i)∈kn:=λh z=>by
  obtain⟨i,hi⟩:=h;rcases List.mem_cons.mp hi with w|w
  .injection w with w1 w2;exact absurd w1 z
  .exact⟨i,w⟩
 induction g with
 |name x j w=>exact λW y B=>{j,by rw[List.mem_singleton.mp B];exact W.1}
 |num n j w=>exact λ_ y B=>nomatch B
 |use1 v nm p w ih=>
  rintro _ _ ⟨m,t,a,b,c,d,f⟩ y B;simp[-zad,-zab,aA,aB,pa,aP,bC]at B;exact ih d y B
 |use2 v nm p q w ih ih2=>
  rintro _ _ ⟨m,t,u,a,b,c,d,N,f⟩ y B;simp[-zad,-zab,aA,aB,pa,aP,bC]at B;exact B.elim (ih d y)<|ih2 N y
 |lett x j p q ih ih2=>
  rintro _ _ ⟨a,b⟩ y B;simp[-zad,-zab,aA,aB,pa,aP,bC]at B;exact B.elim (ih a y) λz=>cut (ih2 b y z.1) z.2
 |pick c k' p q r w ih ih2 ih3=>
  rintro _ _ ⟨a,b,F,G,M,d⟩ y B;simp[-zad,-zab,aA,aB,pa,aP,bC]at B;exact B.elim (λz=>z.elim (ih F y)<|ih2 G y)<|ih3 M y
 |again n k' x p q w ih ih2=>
  rintro _ _ ⟨a,b,F,G,d⟩ y B;simp[-zad,-zab,aA,aB,pa,aP,bC]at B;exact B.elim (ih F y) λz=>cut (ih2 G y z.1) z.2
def WI.pi(B:OkB C)(h:WI C U kn g d e k):PI' C U (pa g) d e k:=by
 have s:=WF.short B h.ok h.wf;refine{qbU B h.wf h.nf h.ok h.un,s.2.1,s.2.2,λx hx=>?_,λx hx=>?_,by rw[bJ];exact h.dl}
 .obtain⟨j,z⟩:=FJ h.wf x hx
  rw[show e x=j from h.ec _ z];exact h.cd _ z
 .obtain⟨j,z⟩:=FJ h.wf x hx
  rw[show e x=j from h.ec _ z];exact h.ok _ z
def jY(B:OkB C)(K:OkN C kn)(W:WF C kn g k):ch g∈bH C (pa g):=by
 cases g with
 |name x j w=>exact List.mem_singleton.mpr rfl
 |num n j w=>exact List.mem_singleton.mpr rfl
 |use1 v nm p w=>
  obtain⟨m,t,a,rfl,c,d,f⟩:=W;exact List.mem_map.mpr {v,oJ a (by rw[c];rfl),rfl}
 |use2 v nm p q w=>
  obtain⟨m,t,u,a,rfl,c,d,f⟩:=W;exact List.mem_map.mpr {v,oJ a (by rw[c];rfl),rfl}
 |lett x j p q=>
  have s:=WF.short B K W.1;refine List.mem_map.mpr {j.toNat,List.mem_range.mpr<|by lia,?_};show D.int ((j.toNat:Nat):Int)=.int j;congr 1;lia
 |pick c k' p q r w=>exact List.mem_singleton.mpr rfl
 |again n k' x p q w=>exact List.mem_singleton.mpr rfl
def v4(E:EC e kn)(W:WF C kn g k):gw C.rs (cC C (pa g) e k<|ch g) (wy g)=bw k:=by
 cases g with
 |name x j w=>show gw C.rs (e x) w=_;rw[E _ W.1];exact W.2
 |num n j w=>exact W.2.2
 |use1 v nm p w=>
  obtain⟨m,t,a,rfl,c,d,f⟩:=W;simp only[pa,ch,cC,dQ,eM a];exact f
 |use2 v nm p q w=>
  obtain⟨m,t,u,a,rfl,c,d,z,f⟩:=W;simp only[pa,ch,cC,dQ,eM a];exact f
 |lett x j p q=>rfl
 |pick c k' p q r w=>exact W.2.2.2.2.2
 |again n k' x p q w=>exact W.2.2.2.2
def WI.kid(B:OkB C)(h:WI C U kn g d e k)(hq:(bT g)[i]?=bw q)(N:(DN C (pa g) k<|ch g)[i]?=bw G):∃ad,WI C U ad q (IZ (pa g) d (ch g) i) (LL (pa g) e (ch g) i) G:=by
 have sz:=sI<|zap hq;obtain⟨W,F,K,E,Y,un,dl⟩:=h;have put:∀ {x:Str} {j:Int} {q:Rg} {G:Int},size q<size g->WF C ((x,j)::kn) q G->0<=j/\j<(C.kinds.length:Int)->x∉kn.map (·.1)/\x∈U->NF U (x::kn.map (·.1)) q->WI C U ((x,j)::kn) q (putD d (.inr x)<|.int j) (fN e x j) G:=λ{x j q G} sz w hj hx f=>⟨w,f,K.cons hj.1 hj.2,E.put hx.1,Y.put hx.1,λp hp=>by
   rcases List.mem_cons.mp hp with z|z
   .rw[z];exact hx.2
   .exact un p z,by have:=u3 (d:=d) (k:=.inr x) (e:=.int j);lia⟩
 cases g with
 |name x j w=>simp[-zad,-zab,aA,aB,bT]at hq
 |num n j w=>simp[-zad,-zab,aA,aB,bT]at hq
 |use1 v nm p w=>
  obtain⟨m,t,a,rfl,c,wp,f⟩:=W;obtain⟨rfl,rfl⟩:=QW hq;have M:G=aT C (cI<|.int (v:Int)).toNat 0:=(QW N).2;rw[dQ,fD a,c]at M;subst M;exact{kn,wp,F,K,E,Y,un,by show d.length+_<=_;lia}
 |use2 v nm p q w=>
  obtain⟨m,t,u,a,rfl,c,wp,wq,f⟩:=W;rcases wU hq with⟨rfl,rfl⟩|⟨rfl,rfl⟩
  .have M:G=aT C (cI<|.int (v:Int)).toNat 0:=(zaz<|show bw (aT C (cI<|.int (v:Int)).toNat 0)=bw G from N).symm
   rw[dQ,fD a,c]at M;subst M;exact{kn,wp,F.1,K,E,Y,un,by show d.length+_<=_;lia}
  .have M:G=aT C (cI<|.int (v:Int)).toNat 1:=(zaz<|show bw (aT C (cI<|.int (v:Int)).toNat 1)=bw G from N).symm
   rw[dQ,fD a,c]at M;subst M;exact{kn,wq,F.2,K,E,Y,un,by show d.length+_<=_;lia}
 |lett x j p q=>
  have s:=WF.short B K W.1;rcases wU hq with⟨rfl,rfl⟩|⟨rfl,rfl⟩
  .have M:G=j:=(zaz<|show bw (j)=bw G from N).symm
   subst M;exact{kn,W.1,F.1,K,E,Y,un,by show d.length+_<=_;lia}
  .have M:G=k:=(zaz<|show bw (k)=bw G from N).symm
   subst M;exact{_,put sz W.2 s.2 F.2.1 F.2.2}
 |pick c k' p q r w=>
  obtain⟨a,b,wp,wq,wr,f⟩:=W;rcases get3 hq with⟨rfl,rfl⟩|⟨rfl,rfl⟩|⟨rfl,rfl⟩
  .have M:G=c:=(zaz<|show bw (c)=bw G from N).symm
   subst M;exact{kn,wp,F.1,K,E,Y,un,by show d.length+_<=_;lia}
  .have M:G=k':=(zaz<|show bw (k')=bw G from N).symm
   subst M;exact{kn,wq,F.2.1,K,E,Y,un,by show d.length+_<=_;lia}
  .have M:G=k':=(zaz<|show bw (k')=bw G from N).symm
   subst M;exact{kn,wr,F.2.2,K,E,Y,un,by show d.length+_<=_;lia}
 |again n k' x p q w=>
  obtain⟨a,b,wp,wq,f⟩:=W;rcases wU hq with⟨rfl,rfl⟩|⟨rfl,rfl⟩
  .have M:G=k':=(zaz<|show bw (k')=bw G from N).symm
   subst M;exact{kn,wp,F.1,K,E,Y,un,by show d.length+_<=_;lia}
  .have M:G=k':=(zaz<|show bw (k')=bw G from N).symm
   subst M;exact{_,put sz wq b F.2.1 F.2.2}
theorem zP:∀ {items:List D} {ρ:dH} (t:Nat) (I:Nat->dH->Prop),I 0 ρ->t<items.length->(∀i x ρ,i<t->items[i]?=bw x->I i ρ->∃ρ',turn g b x ρ=bw (.nx ρ')/\I (i+1) ρ')->(∀x ρ,items[t]?=bw x->I t ρ->turn g b x ρ=bw (.rt d))->mE g b items ρ=bw (.rt d)
 |[],ρ,t,I,_,h,_,_=>by simp[-zad,-zab,aA,aB]at h
 |x::l,ρ,0,I,h0,_,_,h2=>by
  have F:=h2 x ρ rfl h0;unfold turn at F;obtain⟨z,G,N⟩:=bind_some F;unfold mE;rw[G];show(b z).bind _=_;rw[N];rfl
 |x::l,ρ,t+1,I,h0,hl,h1,h2=>by
  obtain⟨ρ',F,B⟩:=h1 0 x ρ (by lia) rfl h0;have ih:=zP (items:=l) (ρ:=ρ') t (λi=>I<|i+1) B (by simpa using hl) (λi y ρ hi M B=>h1 (i+1) y ρ (by lia) (by simpa using M) B) λy ρ M B=>h2 y ρ (by simpa using M) B
  unfold turn at F;obtain⟨z,G,N⟩:=bind_some F;unfold mE;rw[G];show(b z).bind _=_;rw[N];exact ih
theorem xT:∀ {l:List D} {t:Nat} {c:D},l.Pairwise (λa b=>cI a<cI b)->l[t]?=bw c->l.filter (λu=>decide (cI u<cI c))=l.take t
 |[],t,c,_,h=>by simp[-zad,-zab,aA,aB]at h
 |a::l,0,c,hl,h=>by
  have:a=c:=by simpa using h
  subst this;rw[List.take_zero,List.filter_eq_nil_iff];intro u F;rcases List.mem_cons.mp F with z|z
  .rw[z];simp_all
  .have:=(List.pairwise_cons.mp hl).1 u z;simp_all;lia
 |a::l,t+1,c,hl,h=>by
  have B:l[t]?=bw c:=by simpa using h
  have:=(List.pairwise_cons.mp hl).1 c<|zap B;rw[zch,ci (by simpa using this),zcE,xT (List.pairwise_cons.mp hl).2 B]
def lG{l:List Nat}(h:l.Pairwise (·<·)):(l.map λ(v:Nat)=>D.int (v:Int)).Pairwise λa b=>cI a<cI b:=by
 rw[zez];exact h.imp λ{a b} h=>by show(a:Int)<(b:Int);lia
def EJ(C:Bk)(p:Pa):(bH C p).Pairwise λa b=>cI a<cI b:=by
 cases p with
 |use1 nm p=>exact lG<|iB ..
 |use2 nm p q=>exact lG<|iB ..
 |lett x p q=>exact lG<|jK _
 |_=>exact List.pairwise_singleton ..
def dG(l:List D)(f:D->Sm)(i:Nat):Int:=((l.take i).map λu=>nI<|f u).sum
def oP(h:l[i]?=bw c):dG l f (i+1)=dG l f i+nI (f c):=by
 unfold dG;rw[zcn,h,zaO,zey];simp_all
theorem u7(z:∀c,0<=nI (f c)):∀ {j:Nat},i<=j->dG l f i<=dG l f j
 |0,h=>by rw[show i=0 by lia];exact zbr _
 |j+1,h=>by
  by_cases e:i=j+1
  .rw[e];exact zbr _
  .have ih:=u7 z (l:=l) (i:=i) (j:=j) (by lia)
   cases hc:l[j]? with
   |some c=>have:=oP (f:=f) hc;have:=z c;lia
   |none=>
    have:l.length<=j:=List.getElem?_eq_none_iff.mp hc;have e:dG l f (j+1)=dG l f j:=by unfold dG;rw[zbF<|by lia,zbF this]
    lia
def FE(C:Bk)(p:Pa)(d:List<|Key×D)(e:hV)(k:Int)(c:D):0<=nI (nR C p d e k c):=fG _ _ _ _ λx hx=>by
 rw[zas]at hx;obtain⟨s,_,rfl⟩:=List.mem_map.mp hx;exact cF ..
def sX(h:(bH C p)[t]?=bw c):pR (bH C p) c f=dG (bH C p) f t:=by
 unfold pR dG;rw[xT (EJ C p) h]
def SJ(C:Bk)(p:Pa)(d:List<|Key×D)(e:hV)(k:Int):dG (bH C p) (nR C p d e k) (bH C p).length=nI (aU C p e k):=by
 rw[<- pE C p d e k,jU];unfold dG;rw[zbv];simp_all[nI]
def WI.num(B:OkB C)(h:WI C U kn g d e k):0<=b9 C g e k/\b9 C g e k<nI (aU C (pa g) e k):=gX B h.ok h.wf h.nf h.ec
theorem sV:∀ {gs:List Rg} {m:List Sb} {i:Nat} {x:Int×Int},(wJ C gs m)[i]?=bw x->∃g s,gs[i]?=bw g/\m[i]?=bw s/\x=(b9 C g s.2.2.1 s.2.2.2,nI<|kP C s)
 |[],m,i,x,h=>by cases m <;> simp[-zad,-zab,aA,aB,wJ]at h
 |g::gs,[],i,x,h=>by simp[-zad,-zab,aA,aB,wJ]at h
 |g::gs,s::m,0,x,h=>{g,s,rfl,rfl,by simpa[wJ]using h.symm}
 |g::gs,s::m,i+1,x,h=>by
  obtain⟨g',s',a,b,c⟩:=sV (C:=C) (gs:=gs) (m:=m) (i:=i) (x:=x) (by simpa[wJ]using h);exact{g',s',by simpa using a,by simpa using b,c}
def WI.at{C:Bk}(B:OkB C){U:List Str}{kn:List (Str×Int)}{g:Rg}{d:List (Key×D)}{e:hV}{k:Int}(h:WI C U kn g d e k){i:Nat}{q:Rg}{s:Sb}(F:(bT g)[i]?=bw q)(hs:(sb C (pa g) d e k<|ch g)[i]?=bw s):s.1=pa q/\∃z,WI C U z q s.2.1 s.2.2.1 s.2.2.2:=by
 obtain⟨p,G,h1,h2,rfl⟩:=gQ hs;rw[zD,zav,F]at h1;rw[zaN];exact{by simpa using h1.symm,h.kid B F h2}
def v5(B:OkB C)(h:WI C U kn g d e k):(sb C (pa g) d e k<|ch g).length=(bT g).length:=by
 have I:=h.pi B;have:=(yA B I.ok I.k0 I.k1<|jY B h.ok h.wf).1;unfold sb;rw[pC this.symm,zD,zak]
theorem mK:∀ {gs:List Rg} {m:List Sb},m.length=gs.length->(wJ C gs m).map (·.2)=m.map λs=>nI (kP C s)
 |[],m,h=>by rw[List.length_eq_zero_iff.mp h];rfl
 |g::gs,[],h=>by simp[-zad,-zab,aA,aB]at h
 |g::gs,s::m,h=>by rw[wJ,zaj,zaj,mK<|by simpa using h]
def qJ(C:Bk)(g:Rg)(d:List<|Key×D)(e:hV)(k:Int):List<|Int×Int:=wJ C (bT g) (sb C (pa g) d e k<|ch g)++[kL C (cC C (pa g) e k<|ch g) k<|wy g]
def WI.inr{C:Bk}(B:OkB C){U:List Str}{kn:List (Str×Int)}{g:Rg}{d:List (Key×D)}{e:hV}{k:Int}(h:WI C U kn g d e k):VJ<|qJ C g d e k:=λx hx=>by
 rcases List.mem_append.mp hx with z|z
 .obtain⟨i,hi⟩:=zbG z
  obtain⟨q,s,h1,h2,rfl⟩:=sV hi;obtain⟨G,F,w⟩:=h.at B h1 h2;have:=w.num B;unfold kP;rw[G];exact this
 .have I:=h.pi B
  have b:=nH B I<|jY B h.ok h.wf;rw[List.mem_singleton.mp z];exact lV B b.1 I.k1<|v4 h.ec h.wf
def WI.join(B:OkB C)(h:WI C U kn g d e k):0<=bV 0 (qJ C g d e k)/\bV 0 (qJ C g d e k)<nI (nR C (pa g) d e k<|ch g):=by
 have:=pO<|h.inr B;refine{this.1,zdo this.2 ?_};unfold qJ nR;rw[fF,zaO,mK<|v5 B h,zas];exact zbr _
def MC(hl:l.length<=100)(h:VJ l)(hb:∀i,jA ((l.take i).map (·.2))<10^250)(hs:∀p∈l,p.2<10^250):vK [.lst<|l.map λp=>.int p.1,.lst<|l.map λp=>.int p.2]=bw (.int<|bV 0 l):=by
 refine aF ?_;unfold BC;have U:∀l:List (Int×Int),i6 (l.map λp=>.int p.1) (l.map λp=>.int p.2)=l.map λp=>.tup [.int p.1,.int p.2]:=λl=>by
  induction l with
  |nil=>rfl
  |cons a l ih=>rw[zaj,zaj,i6,ih,zaj]
 have W:∀(l:List<|Int×Int) (n:Int) (p:Int×Int),bV n (l++[p])=bV n l*p.2+p.1:=λl=>by
  induction l with
  |nil=>intro n p;rfl
  |cons a l ih=>intro n p;exact ih _ p
 have F:=U l;have e1:(aE 5 [.lst<|l.map λp=>.int p.1,.lst<|l.map λp=>.int p.2]).set 2 (bw<|.int 0)=[bw<|.lst<|l.map λp=>.int p.1,bw<|.lst<|l.map λp=>.int p.2,bw<|.int 0,bz,bz]:=rfl;rw[aH<|aM (d:=.int 0) rfl,e1];generalize (l.map λp=>D.int p.1)=X at F ⊢;generalize (l.map λp=>D.int p.2)=Y at F ⊢;refine f7 (items:=l.map λp=>.tup [.int p.1,.int p.2]) (by simp_all[F]) (λi ρ=>∃B z,ρ=[bw<|.lst X,bw<|.lst Y,bw<|.int<|bV 0<|l.take i,B,z]) {bz,bz,rfl} ?_ ?_
 .rintro i y ρ G ⟨B,z,rfl⟩
  rw[zav]at G;obtain⟨p,M,rfl⟩:=map_some G;have N:=zap M;have et:l.take (i+1)=l.take i++[p]:=by rw[zcn,M];rfl
  have a:=pO (l:=l.take i) λq hq=>h q<|List.mem_of_mem_take hq
  have b:=hb i;have c:=hs p N;have c0:=h p N;have m:cV (.int<|bV 0<|l.take i) (.int p.2)=bw (.int<|bV 0 (l.take i)*p.2):=cG (zdo (by decide +kernel) a.1) (Int.lt_trans a.2 b) (zdo (by decide +kernel)<|zcm c0.1<|Int.le_of_lt c0.2) c;refine{[bw<|.lst X,bw<|.lst Y,bw<|.int<|bV 0<|l.take<|i+1,bw<|.int p.1,bw<|.int p.2],?_,_,_,rfl};rw[et,W];simp_all[turn,m]
 .rintro ρ' ⟨B,z,rfl⟩
  rw[zak,zbv];simp_all
noncomputable def wB:Int->List Int->Int
 |n,[]=>n
 |n,s::l=>wB (n/s) l
theorem xF:∀(l:List Int) (s n:Int) (acc:List Int),g9 n (l++[s]) acc=wB n l%s::g9 n l acc
 |[],s,n,acc=>rfl
 |a::l,s,n,acc=>xF l s (n/a)<|n%a::acc
theorem xY:∀(l:List Int) (s n:Int),wB n (l++[s])=wB n l/s
 |[],s,n=>rfl
 |a::l,s,n=>xY l s<|n/a
theorem BD:∀(l:List Int) (n:Int) (acc:List Int),(g9 n l acc).length=l.length+acc.length
 |[],n,acc=>by simp_all[g9]
 |a::l,n,acc=>by rw[g9,BD l];simp_all;lia
def NE{l:List Int}(U:l.length<=100)(hs:∀s∈l,0<s/\s<10^500)(n:Int):vM [.int n,.lst<|l.map .int]=bw (.lst<|(g9 n l.reverse []).map .int):=by
 refine aF ?_;unfold BP;have e1:(aE 5 [.int n,.lst<|l.map .int]).set 2 (bw<|.lst [])=[bw<|.int n,bw<|.lst<|l.map .int,bw<|.lst [],bz,bz]:=rfl;rw[aH<|aM (d:=.lst []) rfl,e1,aH<|aM (d:=.int n) rfl];have er:(l.map D.int).reverse=l.reverse.map D.int:=by rw[List.map_reverse]
 have N:∀s∈l.reverse,0<s/\s<10^500:=λs h=>hs s<|List.mem_reverse.mp h
 have B:l.reverse.length<=100:=by rw[List.length_reverse];exact U
 generalize l.reverse=m at er N B ⊢;generalize l.map D.int=X at er ⊢;refine f7 (items:=m.map .int) (by simp_all[qbf,er]) (λi ρ=>∃z,ρ=[bw<|.int n,bw<|.lst X,bw<|.lst<|(g9 n (m.take i) []).map .int,bw<|.int<|wB n<|m.take i,z]) {bz,rfl} ?_ ?_
 .rintro i y ρ G ⟨z,rfl⟩
  rw[zav]at G;obtain⟨s,M,rfl⟩:=map_some G;have h:=N s<|zap M;have et:m.take (i+1)=m.take i++[s]:=by rw[zcn,M];rfl
  have Y:=BD (m.take i) n [];have F:a9 (g9 n (m.take i) []).length=ca:=decide_eq_true (by rw[Y,zb3];simp_all;lia);refine{[bw<|.int n,bw<|.lst X,bw<|.lst<|(g9 n (m.take<|i+1) []).map .int,bw<|.int<|wB n<|m.take<|i+1,bw<|.int s],?_,_,rfl};rw[et,xF,xY];generalize g9 n (m.take i) []=P1 at F ⊢;generalize wB n (m.take i)=r;have W:ZS 2 (eC<|D.int 0) (bF dZ (aD 3)<|aD 4) [bw<|.int n,bw<|.lst X,bw<|.lst<|P1.map .int,bw<|.int r,bw<|.int s]=bw (.nx [bw<|.int n,bw<|.lst X,bw<|.lst<|.int (r%s)::P1.map .int,bw<|.int r,bw<|.int s]):=by
   unfold ZS;simp_all[bU h.1,F]
  have eg:aQ 4 (.int s) [bw<|.int n,bw<|.lst X,bw<|.lst<|P1.map .int,bw<|.int r,z]=bw [bw<|.int n,bw<|.lst X,bw<|.lst<|P1.map .int,bw<|.int r,bw<|.int s]:=rfl;unfold turn;rw[eg,aA,aH W,aM (d:=.int<|r/s)<|by simp_all[OO h.1 h.2]];rfl
 .rintro ρ' ⟨z,rfl⟩
  rw[zak,zbv];simp_all
theorem uP{C:Bk}{at_:D}:∀(l:List Sb) (o1 o2 o3:Option D),(∀s∈l,b7 [at_,dA C s.1,.dK s.2.1,.int s.2.2.2]=bw (memD<|kP C s))->bD (kJ 3<|c7 (aQ 0)<|c7 (aQ 1)<|c7 (aQ 2) pN) fP (aR dN<|aC (aR b7<|aC (aD 3)<|aC (aD 0)<|aC (aD 1)<|aC (aD 2) aX) aX) (l.map λs=>.tup [dA C s.1,.dK s.2.1,.int s.2.2.2]) [o1,o2,o3,bw at_]=bw ((l.map λs=>nI<|kP C s).map .int)
 |[],o1,o2,o3,_=>rfl
 |s::l,o1,o2,o3,h=>by
  have ih:=uP l (bw<|dA C s.1) (bw<|.dK s.2.1) (bw<|.int s.2.2.2) λt z=>h t<|zaq _ z
  have e:=h s<|zar ..;have n:=gD<|kP C s;rw[zaj,bD];simp_all[-zas,e,n,ih]
def T6{C:Bk}{at_:D}{l:List Sb}{rs:List D}(F:l.length<=100)(h:∀s∈l,b7 [at_,dA C s.1,.dK s.2.1,.int s.2.2.2]=bw (memD<|kP C s)):mJ [at_,.lst<|l.map λs=>.tup [dA C s.1,.dK s.2.1,.int s.2.2.2],.lst rs]=bw (.lst<|((l.map λs=>nI<|kP C s)++[(rs.length:Int)]).map .int):=by
 have c:=uP l bz bz bz h;have z:a9 l.length=ca:=decide_eq_true (by lia);have B:a9 (l.length+1)=ca:=decide_eq_true (by lia);refine aF ?_;unfold G0;simp_all[-zas,aE,kK,z,B,c]
def zV{C:Bk}{at_:D}(A:AtD C at_){j k:Int}(F:0<=j/\j<(C.kinds.length:Int))(z:0<=k/\k<(C.kinds.length:Int)):∃r,tJ CA "routes" at_=bw r/\aL r (.tup [.int j,.int k])=bw (.lst<|(bK C.rs k 8 j).map tupI):=by
 obtain⟨B,L2,rfl,ok⟩:=A;exact{.dT B,rfl,V1 (ok j k {F,z}).1}
def TU{ws:List (List Int)}{w:List Int}(h:w∈ws)(B:a9 ws.length=ca):nJ (.lst<|ws.map tupI) (tupI w)=bw (.int ((ws.idxOf w:Nat):Int)):=by
 obtain⟨as,bs,rfl,z⟩:=List.eq_append_cons_of_mem h;rw[KS z B];congr 3;rw[List.idxOf_append,cj z,List.idxOf_cons_self,zaN]
def vS(h:LeT m a)(z:m<=16):a<10^250:=Int.lt_of_le_of_lt (h.mono z).2<|by decide +kernel
def LX{C:Bk}(B:OkB C){l:List Sb}(F:(l.map λs=>psz s.1).sum+1<=16){x:Int}(G:0<=x)(z:x<=429981696)(i:Nat):jA (((l.map λs=>nI<|kP C s)++[x]).take i)<10^250:=by
 have a:=oQ (C:=C) l i λs _=>mM B _ s.1 (zah _) _ _
 have e:((l.map<|kP C).take i).map nI=(l.map λs=>nI<|kP C s).take i:=by rw[List.map_take,zas];rfl
 rw[e]at a;by_cases h:i<=l.length
 .rw[List.take_append_of_le_length<|by rw[zak];exact h]
  exact vS a<|by lia
 .rw[zbF<|by rw[zak];lia]at a
  rw[zbF<|by simp_all;lia,zN];have b:LeT 1<|jA [x]:=by
   rw[show jA [x]=x by simp_all[jA]];exact{G,zcm z<|by decide}
  exact vS (a.mul b) F
theorem y8:∀(gs:List Rg) (m:List Sb),wJ C gs m=(gs.zip m).map λz=>(b9 C z.1 z.2.2.2.1 z.2.2.2.2,nI<|kP C z.2)
 |[],m=>by cases m <;> rfl
 |g::gs,[]=>rfl
 |g::gs,s::m=>by rw[wJ,y8 gs m];rfl
theorem HH:∀(gs:List Rg) (m:List Sb),i6 (gs.map rd) (m.map λs=>.tup [dA C s.1,.dK s.2.1,.int s.2.2.2])=(gs.zip m).map λz=>.tup [rd z.1,.tup [dA C z.2.1,.dK z.2.2.1,.int z.2.2.2.2]]
 |[],m=>by cases m <;> rfl
 |g::gs,[]=>rfl
 |g::gs,s::m=>by rw[zaj,zaj,i6,HH gs m];rfl
def S3(h:c∈bH C (pa g)):(c=.non/\ch g=.non)\/∃u v:Int,c=.int u/\ch g=.int v:=by
 cases g with
 |use1 v nm p w=>obtain⟨u,_,rfl⟩:=List.mem_map.mp h;exact .inr {_,_,rfl,rfl}
 |use2 v nm p q w=>obtain⟨u,_,rfl⟩:=List.mem_map.mp h;exact .inr {_,_,rfl,rfl}
 |lett x j p q=>obtain⟨u,_,rfl⟩:=List.mem_map.mp h;exact .inr {_,_,rfl,rfl}
 |_=>exact .inl {List.mem_singleton.mp h,rfl}
def KO(l:List D)(c b:D)(f:D->Sm):pR (l++[c]) b f=pR l b f+if cI c<cI b then nI (f c)else 0:=by
 unfold pR;rw[List.filter_append,zaO,zey];by_cases h:cI c<cI b
 .rw[ci h,zch,ci<|by simpa using h];simp_all
 .rw[cj h,zch,cj<|by simpa using h];simp_all
def zip_get{g:Rg}{l:List Sb}{i:Nat}{z:Rg×Sb}(h:((bT g).zip l)[i]?=bw z):(bT g)[i]?=bw z.1/\l[i]?=bw z.2:=by
 rw[List.getElem?_zip_eq_some]at h;exact h
abbrev Y5:=D×D×D×D×D
def ES{R:List D->Option D}{at_ N U G M F bk pd r bd ad:D}{wi J:Int}{B kr SP SZ wl:List D}{f:D->Sm}{Y:List Y5}(hb:tJ CA "book" at_=bw bk)(np:tJ CN "part" N=bw pd)(co:lC [M]=bw F)(wc:dU [bk,pd]=bw (.lst B))(cs:∀c∈B,dO [at_,N,U,G,c]=bw (memD<|f c))(ck:∀c∈B,(c=.non/\F=.non)\/∃u v:Int,c=.int u/\F=.int v)
  (sp:gB [at_,N,U,G,F]=bw (.lst SP)) (er:tJ CA "routes" at_=bw r) (bg:a7 [bk,U,pd,G,F]=bw bd) (ew:aL r (.tup [bd,G])=bw (.lst wl)) (an:fR [M]=bw (.tup kr)) (zr:i6 kr SP=Y.map λy=>.tup [y.1,.tup [y.2.1,y.2.2.1,y.2.2.2.1]]) (zl:Y.length<=3) (kf:∀y∈Y,R [at_,y.2.1,y.2.2.1,y.2.2.2.1,y.1]=bw y.2.2.2.2) (ix:nJ (.lst wl) ad=bw (.int wi)) (wo:u6 [M]=bw ad) (zs:mJ [at_,.lst SP,.lst wl]=bw (.lst SZ)) (jn:vK [.lst<|Y.map (·.2.2.2.2)++[.int wi],.lst SZ]=bw (.int J)) :
  dJ R (aE 13 [at_,N,U,G,M])=bw (.rt<|.int<|pR B F f+J):=by
 unfold dJ;rw[aH<|aM (d:=F)<|by ac_rfl];rw[aH<|aM (d:=.int 0) rfl];refine f7 (items:=B) (by ac_rfl) (λi ρ=>∃o7,ρ=[bw at_,bw N,bw U,bw G,bw M,bw F,bw<|.int<|pR (B.take i) F f,o7,bz,bz,bz,bz,bz]) {bz,rfl} ?_ ?_
 .rintro i c ρ hc ⟨o7,rfl⟩
  have hm:=zap hc;have et:B.take (i+1)=B.take i++[c]:=by rw[zcn,hc];rfl
  refine{[bw at_,bw N,bw U,bw G,bw M,bw F,bw<|.int<|pR (B.take<|i+1) F f,bw c,bz,bz,bz,bz,bz],?_,_,rfl};rw[et,KO];have ec:=cs c hm;have en:=gD<|f c;rcases ck c hm with⟨rfl,rfl⟩|⟨u,v,rfl,rfl⟩
  .rw[cj<|show ¬ cI .non<cI .non by decide,Int.add_zero];ac_rfl
  .by_cases ab:u<v
   .rw[ci<|show cI (.int u)<cI (.int v)from ab];ac_rfl
   .rw[cj<|show ¬ cI (.int u)<cI (.int v)from ab,Int.add_zero];ac_rfl
 .rintro ρ' ⟨o7,rfl⟩
  rw[zbv];rw[aH<|aM (d:=.lst SP)<|by ac_rfl];rw[aH<|aM (d:=.lst wl)<|by ac_rfl];rw[aH<|aM (d:=.lst []) rfl];refine f7 (items:=Y.map λy=>.tup [y.1,.tup [y.2.1,y.2.2.1,y.2.2.2.1]]) (by ac_rfl) (λi ρ=>∃aa W,ρ=[bw at_,bw N,bw U,bw G,bw M,bw F,bw<|.int<|pR B F f,o7,bw<|.lst SP,bw<|.lst wl,bw<|.lst<|(Y.take i).map (·.2.2.2.2),aa,W]) {bz,bz,rfl} ?_ ?_
  .rintro i y ρ hy ⟨aa,W,rfl⟩
   rw[zav]at hy;obtain⟨z,hz,rfl⟩:=map_some hy;have et:Y.take (i+1)=Y.take i++[z]:=by rw[zcn,hz];rfl
   have ek:=kf z<|zap hz;refine{[bw at_,bw N,bw U,bw G,bw M,bw F,bw<|.int<|pR B F f,o7,bw<|.lst SP,bw<|.lst wl,bw<|.lst<|(Y.take<|i+1).map (·.2.2.2.2),bw z.1,bw<|.tup [z.2.1,z.2.2.1,z.2.2.2.1]],?_,_,_,rfl};rw[et,zaO];have z2:((Y.take i).map (·.2.2.2.2)).length<=1000000:=by rw[zak,zb3];lia
   ac_rfl
  .rintro ρ' ⟨aa,W,rfl⟩
   rw[zak,zbv];have z2:(Y.map (·.2.2.2.2)).length<=1000000:=by rw[zak];lia
   ac_rfl
def PN{C:Bk}(B:OkB C){U:List Str}(hU:U.length<=8){at_:D}(A:AtD C at_){g:Rg}{kn:List (Str×Int)}{d:List (Key×D)}{e:hV}{k:Int}(M:size g<=16)(w:WI C U kn g d e k):(qJ C g d e k).map (·.2)=(sb C (pa g) d e k<|ch g).map (λs=>nI<|kP C s)++[((bK C.rs k 8<|cC C (pa g) e k<|ch g).length:Int)]/\(qJ C g d e k).length<=4/\(∀p∈qJ C g d e k,p.2<10^250)/\mJ [at_,.lst<|(sb C (pa g) d e k<|ch g).map λs=>.tup [dA C s.1,.dK s.2.1,.int s.2.2.2],.lst<|(bK C.rs k 8<|cC C (pa g) e k<|ch g).map tupI]=bw (.lst<|((qJ C g d e k).map (·.2)).map .int):=by
 have cm:=jY B w.ok w.wf;have Y:=v5 B w;have k3:(bT g).length<=3:=by cases g <;> simp_all[bT]
 have ps:psz (pa g)<=16:=by rw[bJ];exact M
 have zs:=T6 (C:=C) (at_:=at_) (l:=sb C (pa g) d e k<|ch g) (rs:=(bK C.rs k 8<|cC C (pa g) e k<|ch g).map tupI) (by lia) λs hs=>by
  obtain⟨i,hi⟩:=zbG hs;have N:=gZ<|AE hs;obtain⟨q,kk,h1,h2,rfl⟩:=gQ hi;exact wA B hU A 16 _ _ _ _ (by simp only at N ⊢;lia) (by simp only at N ⊢;lia)<|by rw[zaN];exact(w.pi B).kid B cm h1 h2
 have F:(qJ C g d e k).map (·.2)=(sb C (pa g) d e k<|ch g).map (λs=>nI<|kP C s)++[((bK C.rs k 8<|cC C (pa g) e k<|ch g).length:Int)]:=by
  unfold qJ;rw[zaO,mK Y];rfl
 refine{F,?_,λp hp=>?_,by rw[F];rw[zak]at zs;exact zs}
 .have:=congrArg zbq F
  simp[-zad,-zab,aA,aB]at this;lia
 .have G:p.2∈(qJ C g d e k).map (·.2):=List.mem_map.mpr {p,hp,rfl}
  rw[F]at G;rcases List.mem_append.mp G with z|z
  .obtain⟨s,hs,W⟩:=List.mem_map.mp z
   rw[<- W];exact vS (mM B _ s.1 (zah _) _ _)<|by have:=gZ<|AE hs;lia
  .rw[List.mem_singleton.mp z]
   exact vS (m:=1) {by lia,zcm (U8 B _ _)<|by decide}<|by decide
theorem CD{C:Bk}(B:OkB C){U:List Str}(hU:U.length<=8){at_:D}(A:AtD C at_):∀(n:Nat) (g:Rg) (kn:List<|Str×Int) (d:List<|Key×D) (e:hV) (k:Int),size g<=n->size g<=16->WI C U kn g d e k->eK 13 dJ n [at_,dA C<|pa g,.dK d,.int k,rd g]=bw (.int<|b9 C g e k)
 |0,g,kn,d,e,k,h,_,_=>by have:=dD<|pa g;rw[bJ]at this;lia
 |n+1,g,kn,d,e,k,h,h16,w=>by
  have IH:∀q,size q<size g->∀F d' W M,WI C U F q d' W M->eK 13 dJ n [at_,dA C<|pa q,.dK d',.int M,rd q]=bw (.int<|b9 C q W M):=λq hq F d' W M w'=>CD B hU A n q F d' W M (by lia) (by lia) w'
  show bA 13 (dJ<|eK 13 dJ n) _=_;generalize eK 13 dJ n=R at IH ⊢;refine aF ?_;have I:=w.pi B;have cm:=jY B w.ok w.wf;have co:=AN g;have wc:=mG B<|pa g;have sp:=IF B A I cm;have bg:=IG I cm;have bo:=nH B I cm;have wk:=v4 w.ec w.wf;have hb:=A.book;have np:=jS C<|pa g;obtain⟨r,er,ew⟩:=zV A bo {I.k0,I.k1};have N:=pV g;rw[zS]at N;have wo:=L9 g;have ps:psz (pa g)<=16:=by rw[bJ];exact h16
  have sm:∀c∈bH C (pa g),∀s∈sb C (pa g) d e k c,PI' C U s.1 s.2.1 s.2.2.1 s.2.2.2->psz s.1<psz (pa g)->b7 [at_,dA C s.1,.dK s.2.1,.int s.2.2.2]=bw (memD<|kP C s):=λc G s _ hI hz=>wA B hU A 16 s.1 s.2.1 s.2.2.1 s.2.2.2 (by lia) (by lia) hI
  have cs:∀c∈bH C (pa g),dO [at_,dA C<|pa g,.dK d,.int k,c]=bw (memD<|nR C (pa g) d e k c):=λc G=>AB B A I G ps<|sm c G
  have k3:(bT g).length<=3:=by cases g <;> simp_all[bT]
  obtain⟨ac,nl,nb,zs⟩:=PN B hU A h16 w;have ss:=P3 (C:=C) (p:=pa g) (d:=d) (e:=e) (k:=k) (c:=ch g);have l8:=U8 B (cC C (pa g) e k<|ch g) k;have jn:=MC (l:=qJ C g d e k) (by lia) (w.inr B) (λi=>by
   rw[List.map_take,ac];exact LX B (by lia) (by lia) l8 i) nb
  rw[zas]at zs;have k6:=B.k6;have al:=lK B.gr (k:=k) 8 (cC C (pa g) e k<|ch g) 5 (by have:=I.k1;lia);have ix:=TU (w:=wy g) (i4 B.gr (n:=8) (by have:=I.k1;lia) wk) (decide_eq_true<|by lia);have zr:=HH (C:=C) (bT g)<|sb C (pa g) d e k<|ch g;rw[pG C g d e k];have aa:(wJ C (bT g) (sb C (pa g) d e k<|ch g)++[kL C (cC C (pa g) e k<|ch g) k<|wy g])=qJ C g d e k:=rfl;rw[aa];have ad:(qJ C g d e k).map (λp=>D.int p.1)=(((bT g).zip<|sb C (pa g) d e k<|ch g).map λz=>D.int<|b9 C z.1 z.2.2.2.1 z.2.2.2.2)++[.int ((bK C.rs k 8<|cC C (pa g) e k<|ch g).idxOf<|wy g:Nat)]:=by
   unfold qJ;rw[zaO,y8,zas];rfl
  rw[ad]at jn;refine ES (f:=nR C (pa g) d e k) (J:=bV 0<|qJ C g d e k) (Y:=((bT g).zip<|sb C (pa g) d e k<|ch g).map λz=>(rd z.1,dA C z.2.1,.dK z.2.2.1,.int z.2.2.2.2,.int<|b9 C z.1 z.2.2.2.1 z.2.2.2.2)) hb np co wc cs (λc G=>S3 G) sp er bg ew N (by rw[zr,zas];rfl) (by rw[zak,zeK];lia) (λy hy=>?_) ix wo zs (by rw[zas];exact jn);obtain⟨z,hz,rfl⟩:=List.mem_map.mp hy;obtain⟨i,hi⟩:=zbG hz;obtain⟨a,b⟩:=zip_get hi;obtain⟨e1,F,w'⟩:=w.at B a b;show R [at_,dA C z.2.1,.dK z.2.2.1,.int z.2.2.2.2,rd z.1]=_;rw[e1];exact IH z.1 (sI<|zap a) F _ _ _ w'
def oV{l ks pre rs:List D}(N:hW l 0=bw (.str tag))(M:¬ tag = "use")(B:¬ tag = "let")(W:jT [.tup l]=bw (.tup ks))(F:cutD l bz (bw<|(l.length:Int)-(ks.length:Int))=pre)(z:pre.length+rs.length<=1000):eU [.tup l,c,.lst rs,w]=bw (.tup<|pre++rs++[w]):=by
 have G:a9 (pre.length+rs.length)=ca:=decide_eq_true (by lia);have U:a9 (pre.length+rs.length+1)=ca:=decide_eq_true (by lia);exact aF<|by simp_all[gC,aE,N,M,B,W,F,G,U]
def qL:∀g:Rg,eU [bO<|pa g,ch g,.lst<|ir g,tupI<|wy g]=bw (rd g)
 |.name x j w=>oV (ks:=[]) (pre:=[_,_]) (rs:=[]) at0 lY g7 (pK<|.name x) rfl<|zcB rfl
 |.num n j w=>oV (ks:=[]) (pre:=[_,_,_]) (rs:=[]) at0 jZ gK (pK<|.num n j) rfl<|zcB rfl
 |.use1 ..=>aF<|by simp_all[gC,aE,pa,bO,ch,ir,wy,rd,at0]
 |.use2 ..=>aF<|by simp_all[gC,aE,pa,bO,ch,ir,wy,rd,at0]
 |.lett ..=>aF<|by simp_all[gC,aE,pa,bO,ch,ir,wy,rd,at0,at1,kA,sz5]
 |.pick c k p q r w=>oV (ks:=[_,_,_]) (pre:=[_,_,_]) (rs:=[rd p,rd q,rd r]) at0 kE gL (pK<|.pick c k (pa p) (pa q)<|pa r) rfl<|zcB rfl
 |.again c k x p q w=>oV (ks:=[_,_]) (pre:=[_,_,_,_]) (rs:=[rd p,rd q]) at0 kB fM (pK<|.again c k x (pa p)<|pa q) rfl<|zcB rfl
theorem CZ:∀(gs:List Rg) (m:List Sb) (x:D),m.length=gs.length->i6 (((wJ C gs m).map λp=>.int p.1)++[x]) (m.map λs=>.tup [dA C s.1,.dK s.2.1,.int s.2.2.2])=(gs.zip m).map λz=>.tup [.int<|b9 C z.1 z.2.2.2.1 z.2.2.2.2,.tup [dA C z.2.1,.dK z.2.2.1,.int z.2.2.2.2]]
 |[],m,x,h=>by rw[List.length_eq_zero_iff.mp h];rfl
 |g::gs,[],x,h=>by simp[-zad,-zab,aA,aB]at h
 |g::gs,s::m,x,h=>by rw[wJ,zaj,zaj,zde,i6,CZ gs m x<|by simpa using h];rfl
def TJ(h:m.length=gs.length):(wJ C gs m).length=gs.length:=by
 rw[y8,zak,zeK];lia
theorem PH:∀(gs:List Rg) (m:List Sb),m.length=gs.length->(gs.zip m).map (λz=>rd z.1)=gs.map rd
 |[],m,h=>rfl
 |g::gs,[],h=>by simp[-zad,-zab,aA,aB]at h
 |g::gs,s::m,h=>by rw[zef,zaj,zaj,PH gs m<|by simpa using h]
def L5{at_ W dd N M Jd bk pd r bd aa rg:D}{SP SZ G wl U:List D}{Y:List Y5}(hb:tJ CA "book" at_=bw bk)(np:tJ CN "part" W=bw pd)(sp:gB [at_,W,dd,N,M]=bw (.lst SP))(er:tJ CA "routes" at_=bw r)(bg:a7 [bk,dd,pd,N,M]=bw bd)(ew:aL r (.tup [bd,N])=bw (.lst wl))(zs:mJ [at_,.lst SP,.lst wl]=bw (.lst SZ))(am:vM [Jd,.lst SZ]=bw (.lst G))(zn:i6 G SP=Y.map λy=>.tup [y.1,.tup [y.2.1,y.2.2.1,y.2.2.2.1]])(zl:Y.length<=3)(kf:∀y∈Y,R [at_,y.2.1,y.2.2.1,y.2.2.2.1,y.1]=bw y.2.2.2.2)(zr:Y.map (·.2.2.2.2)=U)(al:hW G (SP.length:Int)=bw (.int wi))(ix:hW wl wi=bw aa)(ah:eU [pd,M,.lst U,aa]=bw rg) :
  fZ R (aE 12 [at_,W,dd,N,M,Jd])=bw (.rt rg):=by
 unfold fZ;rw[aH<|aM (d:=.lst SP)<|by ac_rfl];rw[aH<|aM (d:=.lst wl)<|by ac_rfl];rw[aH<|aM (d:=.lst G)<|by ac_rfl];rw[aH<|aM (d:=.lst []) rfl];refine f7 (items:=Y.map λy=>.tup [y.1,.tup [y.2.1,y.2.2.1,y.2.2.2.1]]) (by ac_rfl) (λi ρ=>∃B F,ρ=[bw at_,bw W,bw dd,bw N,bw M,bw Jd,bw<|.lst SP,bw<|.lst wl,bw<|.lst G,bw<|.lst<|(Y.take i).map (·.2.2.2.2),B,F]) {bz,bz,rfl} ?_ ?_
 .rintro i y ρ hy ⟨B,F,rfl⟩
  rw[zav]at hy;obtain⟨z,hz,rfl⟩:=map_some hy;have et:Y.take (i+1)=Y.take i++[z]:=by rw[zcn,hz];rfl
  have ek:=kf z<|zap hz;refine{[bw at_,bw W,bw dd,bw N,bw M,bw Jd,bw<|.lst SP,bw<|.lst wl,bw<|.lst G,bw<|.lst<|(Y.take<|i+1).map (·.2.2.2.2),bw z.1,bw<|.tup [z.2.1,z.2.2.1,z.2.2.2.1]],?_,_,_,rfl};rw[et,zaO];have z2:((Y.take i).map (·.2.2.2.2)).length<=1000000:=by rw[zak,zb3];lia
  ac_rfl
 .rintro ρ' ⟨B,F,rfl⟩
  rw[zak,zbv,zr]
  ac_rfl
def wO(B:OkB C)(hU:U.length<=8){at_:D}(A:AtD C at_){g:Rg}{kn:List (Str×Int)}(W:size g<=16)(w:WI C U kn g d e k)(IH:∀q,size q<size g->∀F d' e' k',WI C U F q d' e' k'->R [at_,dA C<|pa q,.dK d',.int k',.int<|b9 C q e' k']=bw (rd q)) :
  bA 12 (fZ R) [at_,dA C<|pa g,.dK d,.int k,ch g,.int<|bV 0<|qJ C g d e k]=bw (rd g):=by
 refine aF ?_;have I:=w.pi B;have cm:=jY B w.ok w.wf;have sp:=IF B A I cm;have bg:=IG I cm;have bo:=nH B I cm;have wk:=v4 w.ec w.wf;have hb:=A.book;have np:=jS C<|pa g;obtain⟨r,er,ew⟩:=zV A bo {I.k0,I.k1};have M:=v5 B w;have k3:(bT g).length<=3:=by cases g <;> simp_all[bT]
 obtain⟨an,nl,nb,zs⟩:=PN B hU A W w;have inr:=w.inr B;have pd:=NE (l:=(qJ C g d e k).map (·.2)) (by rw[zak];lia) (λs hs=>by
  obtain⟨p,hp,N⟩:=List.mem_map.mp hs;have a:=inr p hp;exact{by lia,by rw[<- N];exact Int.lt_trans (nb p hp)<|by decide +kernel}) (bV 0<|qJ C g d e k)
 have pj:=xP (qJ C g d e k) 0 [] [] inr;rw[zbL,zbL]at pj;rw[pj,show g9 0 [] ((qJ C g d e k).map (·.1))=(qJ C g d e k).map (·.1)from rfl]at pd;have k6:=B.k6;have wm:=i4 B.gr (n:=8) (by have:=I.k1;lia) wk;have ix:hW ((bK C.rs k 8<|cC C (pa g) e k<|ch g).map tupI) (((bK C.rs k 8<|cC C (pa g) e k<|ch g).idxOf<|wy g:Nat):Int)=bw (tupI<|wy g):=bY (by
  rw[zav,zaG<|zeS wm,List.getElem_idxOf];rfl)
 have zn:=CZ (C:=C) (bT g) (sb C (pa g) d e k<|ch g) (.int ((bK C.rs k 8<|cC C (pa g) e k<|ch g).idxOf<|wy g:Nat)) M;have ab:((qJ C g d e k).map (·.1)).map D.int=(((wJ C (bT g)<|sb C (pa g) d e k<|ch g).map λp=>D.int p.1)++[.int ((bK C.rs k 8<|cC C (pa g) e k<|ch g).idxOf<|wy g:Nat)]):=by
  unfold qJ;rw[zas,zaO];rfl
 rw[ab]at pd;have G:((wJ C (bT g)<|sb C (pa g) d e k<|ch g).map λp=>D.int p.1).length=(sb C (pa g) d e k<|ch g).length:=by rw[zak,TJ M,M]
 have ac:hW (((wJ C (bT g)<|sb C (pa g) d e k<|ch g).map λp=>D.int p.1)++[.int ((bK C.rs k 8<|cC C (pa g) e k<|ch g).idxOf<|wy g:Nat)]) ((sb C (pa g) d e k<|ch g).length:Int)=bw (.int ((bK C.rs k 8<|cC C (pa g) e k<|ch g).idxOf<|wy g:Nat)):=bY (by
  rw[zdy<|by lia,G,Nat.sub_self];rfl)
 refine L5 (Y:=((bT g).zip<|sb C (pa g) d e k<|ch g).map λz=>(.int<|b9 C z.1 z.2.2.2.1 z.2.2.2.2,dA C z.2.1,.dK z.2.2.1,.int z.2.2.2.2,rd z.1)) hb np sp er bg ew zs pd (by rw[zn,zas];rfl) (by rw[zak,zeK];lia) (λy hy=>?_) (by rw[zas];exact(PH (bT g) (sb C (pa g) d e k<|ch g) M).trans (zS g).symm) (by rw[zak];exact ac) ix<|qL g;obtain⟨z,hz,rfl⟩:=List.mem_map.mp hy;obtain⟨i,hi⟩:=zbG hz;obtain⟨a,b⟩:=zip_get hi;obtain⟨N,F,w'⟩:=w.at B a b;show R [at_,dA C z.2.1,.dK z.2.2.1,.int z.2.2.2.2,.int _]=_;rw[N];exact IH z.1 (sI<|zap a) F _ _ _ w'
theorem OV(B:OkB C)(G:U.length<=8){at_:D}(A:AtD C at_):∀(n:Nat) (g:Rg) (kn:List<|Str×Int) (d:List<|Key×D) (e:hV) (k:Int),size g<=n->size g<=16->WI C U kn g d e k->eK 8 fW n [at_,dA C<|pa g,.dK d,.int k,.int<|b9 C g e k]=bw (rd g)
 |0,g,kn,d,e,k,h,_,_=>by have:=dD<|pa g;rw[bJ]at this;lia
 |n+1,g,kn,d,e,k,h,h16,w=>by
  show bA 8 (fW<|eK 8 fW n) _=_;have tc:=wO B G A (R:=eK 8 fW n) h16 w λq hq M d' e' k' w'=>OV B G A n q M d' e' k' (by lia) (by lia) w'
  generalize eK 8 fW n=R at tc ⊢;refine aF ?_;have I:=w.pi B;have cm:=jY B w.ok w.wf;have wc:=mG B<|pa g;have hb:=A.book;have np:=jS C<|pa g;have ps:psz (pa g)<=16:=by rw[bJ];exact h16
  have Y:∀c∈bH C (pa g),dO [at_,dA C<|pa g,.dK d,.int k,c]=bw (memD<|nR C (pa g) d e k c):=λc z=>AB B A I z ps λs _ hI hz=>wA B G A 16 s.1 s.2.1 s.2.2.1 s.2.2.2 (by lia) (by lia) hI
  obtain⟨t,F⟩:=zbG cm;have bp:=sX (f:=nR C (pa g) d e k) F;have jn:=w.join B;have nn:=FE C (pa g) d e k;rw[pG C g d e k,bp,show(wJ C (bT g) (sb C (pa g) d e k<|ch g)++[kL C (cC C (pa g) e k<|ch g) k<|wy g])=qJ C g d e k from rfl];generalize bV 0 (qJ C g d e k)=J at *;generalize nR C (pa g) d e k=f at *;generalize bH C (pa g)=chs at *;generalize ch g=cg at *;generalize dA C (pa g)=nd at *;generalize rd g=rg at *;unfold fW;rw[aH<|aM (d:=.int<|dG chs f t+J) rfl];refine qG ?_;rw[q_for];have ei:gH (aR dU<|aC (dF CA "book"<|aD 0)<|aC (dF CN "part"<|aD 1) aX) ((aE 8 [at_,nd,.dK d,.int k,.int<|dG chs f t+J]).set 5<|bw<|.int<|dG chs f t+J)=bw chs:=by ac_rfl
  rw[ei];refine zP t (λi ρ=>∃N W,ρ=[bw at_,bw nd,bw<|.dK d,bw<|.int k,bw<|.int<|dG chs f t+J,bw<|.int<|dG chs f t+J-dG chs f i,N,W]) {bz,bz,by rw[show dG chs f 0=0 from rfl,Int.sub_zero];rfl} (List.getElem?_eq_some_iff.mp F).1 ?_ ?_
  .rintro i c ρ hi z ⟨N,W,rfl⟩
   have ec:=Y c<|zap z;have en:=gD<|f c;have s:=oP (f:=f) z;have m:=u7 nn (l:=chs) (i:=i+1) (j:=t) (by lia);have lt:¬ dG chs f t+J-dG chs f i<nI (f c):=by lia
   refine{[bw at_,bw nd,bw<|.dK d,bw<|.int k,bw<|.int<|dG chs f t+J,bw<|.int<|dG chs f t+J-dG chs f (i+1),bw c,bw<|.int<|nI<|f c],?_,_,_,rfl};rw[s,show dG chs f t+J-(dG chs f i+nI (f c))=dG chs f t+J-dG chs f i-nI (f c) by lia];generalize dG chs f t+J-dG chs f i=x at lt ⊢
   ac_rfl
  .rintro c ρ z ⟨N,W,rfl⟩
   have:c=cg:=by rw[F]at z;injection z with z;exact z.symm
   subst this;have ec:=Y c<|zap F;have en:=gD<|f c;rw[show dG chs f t+J-dG chs f t=J by lia];have lt:=jn.2
   ac_rfl
theorem qB:∀(l:List<|Int×Int) (n:Int),bV n l=n*jA (l.map (·.2))+bV 0 l
 |[],n=>by simp_all[bV,jA]
 |(a,s)::l,n=>by
  rw[bV,qB l,bV,qB l<|0*s+a,zaj,jA,Int.zero_mul,zbw,Int.add_mul,zd0,zdn]
theorem digits:∀(l:List Int) (r:Int),NN l->0<=r->r<jA l->∃zs:List (Int×Int),zs.map (·.2)=l/\VJ zs/\bV 0 zs=r
 |[],r,_,h0,h1=>{[],rfl,(λ_ h=>by cases h),by simp[-zad,-zab,aA,aB,jA]at h1;show(0:Int)=r;lia}
 |s::l,r,hn,h0,h1=>by
  have B:NN l:=λx hx=>hn x<|zaq _ hx
  have M:=AD B;have W:=hn s<|zar ..;rw[jA]at h1;have G:0<jA l:=by
   rcases Int.lt_or_eq_of_le M with z|z
   .exact z
   .rw[<- z,Int.mul_zero]at h1;lia
  obtain⟨zs,F,N,U⟩:=digits l (r%jA l) B (zat _<|by lia)<|zaw _ G;refine{(r/jA l,s)::zs,by rw[zaj,F],wI {Int.ediv_nonneg h0 M,Int.ediv_lt_of_lt_mul G h1} N,?_};rw[bV,qB,F,U,Int.zero_mul,zbw];have:=Int.mul_ediv_add_emod r<|jA l;rw[Int.mul_comm]at this;exact this
theorem BA(G:∀c,0<=nI (f c))(F:0<=n):∀m,n<dG l f m->∃t c,l[t]?=bw c/\dG l f t<=n/\n<dG l f t+nI (f c)
 |0,h=>by simp[-zad,-zab,aA,aB,dG]at h;lia
 |m+1,h=>by
  by_cases z:n<dG l f m
  .exact BA G F m z
  .cases hc:l[m]? with
   |some c=>rw[oP hc]at h;exact{m,c,hc,by lia,h}
   |none=>
    have B:l.length<=m:=List.getElem?_eq_none_iff.mp hc;have e:dG l f (m+1)=dG l f m:=by unfold dG;rw[zbF<|by lia,zbF B]
    lia
def PaW(C:Bk)(U:List Str):List Str->Pa->Prop
 |_,.name _=>True
 |_,.num n _=>0<=n/\n<C.M
 |N,.use1 _ p=>PaW C U N p
 |N,.use2 _ p q=>PaW C U N p/\PaW C U N q
 |N,.lett x p q=>PaW C U N p/\(x∉N/\x∈U)/\PaW C U (x::N) q
 |N,.pick _ _ p q r=>PaW C U N p/\PaW C U N q/\PaW C U N r
 |N,.again n _ x p q=>(0<=n/\n<4)/\PaW C U N p/\(x∉N/\x∈U)/\PaW C U (x::N) q
def paw:∀ {kn:List (Str×Int)} {N:List Str} {k:Int},WF C kn g k->NF U N g->PaW C U N (pa g):=by
 induction g with
 |name x j w=>exact λ_ _=>trivial
 |num n j w=>exact λW _=>W.1
 |use1 v nm p w ih=>rintro _ _ _ ⟨m,t,a,b,c,d,f⟩ F;exact ih d F
 |use2 v nm p q w ih ih2=>rintro _ _ _ ⟨m,t,u,a,b,c,d,G,f⟩ F;exact{ih d F.1,ih2 G F.2}
 |lett x j p q ih ih2=>exact λW F=>{ih W.1 F.1,F.2.1,ih2 W.2 F.2.2}
 |pick c k' p q r w ih ih2 ih3=>rintro _ _ _ ⟨a,b,B,z,M,d⟩ F;exact{ih B F.1,ih2 z F.2.1,ih3 M F.2.2}
 |again n k' x p q w ih ih2=>rintro _ _ _ ⟨a,b,B,z,d⟩ F;exact{a,ih B F.1,F.2.1,ih2 z F.2.2}
theorem PaW.nf:∀ {g:Rg} {N:List Str},PaW C U N (pa g)->NF U N g
 |.name x j w,N,h=>trivial
 |.num n j w,N,h=>trivial
 |.use1 v nm p w,N,h=>PaW.nf (g:=p) h
 |.use2 v nm p q w,N,h=>{PaW.nf h.1,PaW.nf h.2}
 |.lett x j p q,N,h=>{PaW.nf h.1,h.2.1,PaW.nf h.2.2}
 |.pick c k' p q r w,N,h=>{PaW.nf h.1,PaW.nf h.2.1,PaW.nf h.2.2}
 |.again n k' x p q w,N,h=>{PaW.nf h.2.1,h.2.2.1,PaW.nf h.2.2.2}
def QY(kn:List<|Str×Int)(p:Pa)(c:D)(i:Nat):List<|Str×Int:=match hid p i with
 |none=>kn
 |some x=>(x,FW p c)::kn
structure SI(C:Bk)(U:List Str)(kn:List<|Str×Int)(p:Pa)(d:List<|Key×D)(e:hV)(k:Int):Prop where
 pi:PI' C U p d e k
 pw:PaW C U (kn.map (·.1)) p
 nk:∀x∈aP p,(x,e x)∈kn
def PaW.kid(h:PaW C U (kn.map (·.1)) p)(z:(kids p)[i]?=bw q):PaW C U ((QY kn p c i).map (·.1)) q:=by
 cases p with
 |name y=>simp[-zad,-zab,aA,aB,kids]at z
 |num n j=>simp[-zad,-zab,aA,aB,kids]at z
 |use1 nm p=>obtain⟨rfl,rfl⟩:=QW z;exact h
 |use2 nm p q=>rcases wU z with⟨rfl,rfl⟩|⟨rfl,rfl⟩;exact h.1;exact h.2
 |lett y p q=>rcases wU z with⟨rfl,rfl⟩|⟨rfl,rfl⟩;exact h.1;exact h.2.2
 |pick c k p q r=>rcases get3 z with⟨rfl,rfl⟩|⟨rfl,rfl⟩|⟨rfl,rfl⟩;exact h.1;exact h.2.1;exact h.2.2
 |again n k y p q=>rcases wU z with⟨rfl,rfl⟩|⟨rfl,rfl⟩;exact h.2.1;exact h.2.2.2
theorem SI.kid(B:OkB C)(h:SI C U kn p d e k)(M:c∈bH C p)(F:(kids p)[i]?=bw q)(G:(DN C p k c)[i]?=bw kk):SI C U (QY kn p c i) q (IZ p d c i) (LL p e c i) kk:=by
 refine{h.pi.kid B M F G,h.pw.kid F,λx hx=>?_};unfold LL QY;cases e1:hid p i with
 |none=>exact h.nk x<|sN F hx<|by rw[e1];simp_all
 |some y=>
  simp only[fN];by_cases z:x=y
  .rw[ci z,z];exact zar ..
  .rw[cj z]
   exact zaq _<|h.nk x<|sN F hx<|by rw[e1];intro w;injection w with w;exact z w
def qa8{z:Type}{l:List z}(h:l.length=1):∃a,l=[a]:=List.length_eq_one_iff.mp h
def ZT{z:Type}{l:List z}(h:l.length=2):∃a b,l=[a,b]:=by
 match l,h with
 |[a,b],_=>exact{a,b,rfl}
def qcg{z:Type}{l:List z}(h:l.length=3):∃a b c,l=[a,b,c]:=by
 match l,h with
 |[a,b,c],_=>exact{a,b,c,rfl}
def UM(B:OkB C)(h:gw C.rs k w=bw k):w=[]:=by
 have:=kF B.gr h;exact List.length_eq_zero_iff.mp<|by lia
def build{C:Bk}(B:OkB C){U:List Str}{kn:List (Str×Int)}{p:Pa}{d:List (Key×D)}{e:hV}{k:Int}(h:SI C U kn p d e k){c:D}(N:c∈bH C p){gs:List Rg}(M:gs.length=(kids p).length)(F:∀(i:Nat) (q:Rg) (kk:Int),gs[i]?=bw q->(DN C p k c)[i]?=bw kk->(kids p)[i]?=bw (pa q)/\WF C (QY kn p c i) q kk){w:List Int}(hw:gw C.rs (cC C p e k c) w=bw k) :
  ∃g,pa g=p/\ch g=c/\bT g=gs/\wy g=w/\WF C kn g k:=by
 cases p with
 |name x=>
  refine{.name x (e x) w,rfl,(List.mem_singleton.mp N).symm,(List.length_eq_zero_iff.mp M).symm,rfl,h.nk x<|List.mem_singleton.mpr rfl,hw}
 |num n j=>exact{.num n j w,rfl,(List.mem_singleton.mp N).symm,(List.length_eq_zero_iff.mp M).symm,rfl,h.pw,h.pi.ok,hw}
 |use1 nm p=>
  obtain⟨v,m,rfl,Y,en,hl⟩:=gM N;obtain⟨a,rfl⟩:=qa8 M;have z:=F 0 a _ rfl rfl;have t:=FK Y hl;simp only[cC,dQ,eM Y]at hw;have G:p=pa a:=by simpa[kids]using z.1
  rw[dQ]at z;exact{.use1 v nm a w,by rw[G];rfl,rfl,rfl,rfl,m,_,Y,en,t,z.2,hw}
 |use2 nm p q=>
  obtain⟨v,m,rfl,Y,en,hl⟩:=gM N;obtain⟨a,b,rfl⟩:=ZT M;have z:=F 0 a _ rfl rfl;have h1:=F 1 b _ rfl rfl;have t:=FP Y hl;simp only[cC,dQ,eM Y]at hw;have G:p=pa a:=by simpa[kids]using z.1
  have W:q=pa b:=by simpa[kids]using h1.1
  rw[dQ]at z h1;exact{.use2 v nm a b w,by rw[G,W];rfl,rfl,rfl,rfl,m,_,_,Y,en,t,z.2,h1.2,hw}
 |lett x p q=>
  obtain⟨v,rfl,hv⟩:=vT N;obtain⟨a,b,rfl⟩:=ZT M;have z:=F 0 a _ rfl rfl;have h1:=F 1 b _ rfl rfl;have G:p=pa a:=by simpa[kids]using z.1
  have W:q=pa b:=by simpa[kids]using h1.1
  exact{.lett x (v:Int) a b,by rw[G,W];rfl,rfl,rfl,(UM B hw).symm,z.2,h1.2}
 |pick c' k' p q r=>
  obtain⟨a,b,c1,rfl⟩:=qcg M;have z:=F 0 a _ rfl rfl;have h1:=F 1 b _ rfl rfl;have h2:=F 2 c1 _ rfl rfl;have G:p=pa a:=by simpa[kids]using z.1
  have W:q=pa b:=by simpa[kids]using h1.1
  have e2:r=pa c1:=by simpa[kids]using h2.1
  exact{.pick c' k' a b c1 w,by rw[G,W,e2];rfl,(List.mem_singleton.mp N).symm,rfl,rfl,h.pi.ok.1,h.pi.ok.2.1,z.2,h1.2,h2.2,hw}
 |again n k' x p q=>
  obtain⟨a,b,rfl⟩:=ZT M;have z:=F 0 a _ rfl rfl;have h1:=F 1 b _ rfl rfl;have G:p=pa a:=by simpa[kids]using z.1
  have W:q=pa b:=by simpa[kids]using h1.1
  exact{.again n k' x a b w,by rw[G,W];rfl,(List.mem_singleton.mp N).symm,rfl,rfl,h.pw.1,h.pi.ok.1,z.2,h1.2,hw}
theorem CM:∀ {gs:List Rg} {l:List Sb} {zs:List (Int×Int)},gs.length=l.length->zs.length=l.length->(∀(i:Nat) (q:Rg) (s:Sb) (z:Int×Int),gs[i]?=bw q->l[i]?=bw s->zs[i]?=bw z->z=(b9 C q s.2.2.1 s.2.2.2,nI<|kP C s))->wJ C gs l=zs
 |[],l,zs,h1,h2,_=>by
  have:l=[]:=List.length_eq_zero_iff.mp h1.symm;subst this;rw[List.length_eq_zero_iff.mp h2];rfl
 |g::gs,[],zs,h1,_,_=>by simp[-zad,-zab,aA,aB]at h1
 |g::gs,s::l,[],_,h2,_=>by simp[-zad,-zab,aA,aB]at h2
 |g::gs,s::l,z::zs,h1,h2,h=>by
  rw[wJ,h 0 g s z rfl rfl rfl,CM (by simpa using h1) (by simpa using h2) λi q s z a b c=>h (i+1) q s z (by simpa using a) (by simpa using b)<|by simpa using c]
theorem zO{F β:Type}(P:Nat->β->F->Prop):∀(l:List β) (j:Nat),(∀i b,l[i]?=bw b->∃a,P (j+i) b a)->∃as:List F,as.length=l.length/\∀(i:Nat) (b:β) (a:F),l[i]?=bw b->as[i]?=bw a->P (j+i) b a
 |[],j,_=>{[],rfl,λi b a h=>by simp[-zad,-zab,aA,aB]at h}
 |b::l,j,h=>by
  obtain⟨a,M⟩:=h 0 b rfl;obtain⟨as,h1,h2⟩:=zO P l (j+1) λi b B=>by
   have:=h (i+1) b<|by simpa using B
   rwa [show j+(i+1)=j+1+i by lia]at this
  refine{a::as,by simp_all[h1],λi G N B z=>?_};cases i with
  |zero=>cases B;cases z;exact M
  |succ i=>have:=h2 i G N (by simpa using B) (by simpa using z);rwa [show j+1+i=j+(i+1) by lia]at this
theorem qba{C:Bk}(B:OkB C){U:List Str}:∀(m:Nat) (p:Pa) (kn:List<|Str×Int) (d:List<|Key×D) (e:hV) (k n:Int),psz p<=m->SI C U kn p d e k->0<=n->n<nI (aU C p e k)->∃g,pa g=p/\WF C kn g k/\b9 C g e k=n
 |0,p,kn,d,e,k,n,h,_,_,_=>by have:=dD p;lia
 |m+1,p,kn,d,e,k,n,h,S,n0,n1=>by
  rw[<- SJ C p d e k]at n1;obtain⟨t,c,ht,a1,a2⟩:=BA (FE C p d e k) n0 _ n1;have Y:=zap ht;have kl:=yA B S.pi.ok S.pi.k0 S.pi.k1 Y;have sl:(sb C p d e k c).length=(kids p).length:=pC kl.1.symm;have e1:nI (nR C p d e k c)=jA ((sb C p d e k c).map (λs=>nI<|kP C s)++[((bK C.rs k 8<|cC C p e k c).length:Int)]):=by
   unfold nR;rw[fF,zas];rfl
  rw[e1]at a2;obtain⟨zs,z1,z2,z3⟩:=digits ((sb C p d e k c).map (λs=>nI<|kP C s)++[((bK C.rs k 8<|cC C p e k c).length:Int)]) (n-dG (bH C p) (nR C p d e k) t) (λx hx=>by
   rcases List.mem_append.mp hx with z|z
   .obtain⟨s,_,rfl⟩:=List.mem_map.mp z;exact cF ..
   .rw[List.mem_singleton.mp z];lia) (by lia) (by lia)
  obtain⟨ys,w,rfl,y1,y2⟩:=List.map_eq_append_iff.mp z1;obtain⟨F,rfl⟩:∃x,w=[x]:=by
   have:=congrArg zbq y2;simp[-zad,-zab,aA,aB]at this;exact qa8 this
  have ac:F.2=((bK C.rs k 8<|cC C p e k c).length:Int):=by simpa using y2
  have wr:=z2 F<|zaY _<|List.mem_singleton.mpr rfl;have yl:ys.length=(sb C p d e k c).length:=by have:=congrArg zbq y1;simpa using this
  -- the kids
  obtain⟨gs,g1,g2⟩:=zO (λi (s:Sb) q=>pa q=s.1/\WF C (QY kn p c i) q s.2.2.2/\∀z,ys[i]?=bw z->z=(b9 C q s.2.2.1 s.2.2.2,nI<|kP C s)) (sb C p d e k c) 0 λi s hs=>by
   obtain⟨q,kk,h1,h2,rfl⟩:=gQ hs;rw[zaN];have hi:=(List.getElem?_eq_some_iff.mp hs).1;have N:ys[i]?=bw ys[i]:=zaG (by lia);have zi:=z2 ys[i]<|zbH _<|zap N;have G:(ys[i]).2=nI (kP C (q,IZ p d c<|0+i,LL p e c<|0+i,kk)):=by
    have a:=congrArg (λl=>l[i]?) y1;simp only[zav,N,hs,zab]at a;injection a
   rw[zaN]at G;obtain⟨g,b1,b2,b3⟩:=qba B m q (QY kn p c i) (IZ p d c i) (LL p e c i) kk (ys[i]).1 (by have:=gZ<|zap h1;lia) (S.kid B Y h1 h2) zi.1 (by rw[G]at zi;exact zi.2);refine{g,b1,b2,λz M=>?_};rw[N]at M;cases M;rw[b3,<- G]
  -- the way
  have wi:F.1.toNat<(bK C.rs k 8<|cC C p e k c).length:=by lia
  have wm:=zeA wi;have wg:=fT wm;have ix:(bK C.rs k 8<|cC C p e k c).idxOf (bK C.rs k 8<|cC C p e k c)[F.1.toNat]=F.1.toNat:=List.Nodup.idxOf_getElem (tU 8 _) F.1.toNat wi;obtain⟨g,q1,q2,q3,q4,q5⟩:=build B S Y (gs:=gs) (by rw[g1,sl]) (λi q kk W hk=>by
   have hi:=(List.getElem?_eq_some_iff.mp W).1;have hs:(sb C p d e k c)[i]?=bw (sb C p d e k c)[i]:=zaG (by lia);have:=g2 i _ q hs W;rw[zaN]at this;obtain⟨q',am,h1,h2,h3⟩:=gQ hs;rw[h3]at this;rw[hk]at h2;cases h2;exact{by rw[h1,this.1],this.2.1}) wg
  refine{g,q1,q5,?_};rw[pG C g d e k,q1,q2,q3,q4,sX ht];have nz:wJ C gs (sb C p d e k c)=ys:=CM g1 yl λi q s z W hs N=>by
   have:=(g2 i s q hs W).2.2;rw[zaN]at this;exact this z N
  rw[nz];have ww:kL C (cC C p e k c) k (bK C.rs k 8<|cC C p e k c)[F.1.toNat]=F:=by
   unfold kL;rw[ix];exact Prod.ext (by simp only;lia) ac.symm
  rw[ww,z3];lia
def yW(ns:List Int):∃v:Int,jE [.lst<|ns.map .int]=bw (.int v)/\0<=v:=by
 suffices h:∃d,jE [.lst<|ns.map .int]=bw d/\∃v:Int,d=.int v/\0<=v by
  obtain⟨d,h1,v,rfl,h2⟩:=h;exact{v,h1,h2}
 have z:=Ten
 have pw:QX (.int 10) (.int 60)=bw (.int 1000000000000000000000000000000000000000000000000000000000000):=by
  rw[IN (by decide) (by decide)<|by decide];exact congrArg (λx=>bw<|D.int x) z
 refine eD ?_;unfold nX;rw[aH<|aM (d:=.int 7)<|by simp_all];refine j9 (items:=ns.map .int) (by simp_all[aE]) (λi ρ=>∃(v:Int) (o:Option D),ρ=[bw<|.lst<|ns.map .int,bw<|.int v,o]/\0<=v/\v<10^60) {7,bz,by simp_all[aE],by decide,by decide +kernel} ?_ ?_
 .rintro i x ρ hx ⟨v,o,rfl,B,F⟩
  rw[zav]at hx;obtain⟨c,_,rfl⟩:=Option.map_eq_some_iff.mp hx;have b:(10:Int)^60<10^250:=by decide +kernel
  have G:cV (.int v) (.int 1000003)=bw (.int<|v*1000003):=cG (by lia) (by lia) (by decide +kernel) (by decide +kernel);refine{[bw<|.lst<|ns.map .int,bw<|.int<|(v*1000003+c)%1000000000000000000000000000000000000000000000000000000000000,bw<|.int c],?_,_,_,rfl,zat _<|by decide,?_}
  .simp_all[turn,G,pw,bU]
  .rw[z];exact zaw _<|by decide
 .rintro ρ ⟨v,o,rfl,B,F⟩
  exact{_,by simp_all,v,rfl,B}
noncomputable def knK(p:Str×Int):Key×D:=(.inr p.1,.int p.2)
theorem HJ:∀l:List (Str×Int),FX (l.map bX)=bw (l.map knK)
 |[]=>rfl
 |p::l=>by
  show(Z4<|.str p.1).bind _=_;show(bw (.inr p.1:Key)).bind _=_;rw[aA,HJ l];rfl
theorem wZ:∀(l kn:List<|Str×Int) (acc:List<|Key×D),Cons acc kn->(l.map (·.1)++kn.map (·.1)).Nodup->Cons (mR acc<|l.map knK) (l++kn)
 |[],kn,acc,h,_=>h
 |p::l,kn,acc,h,nd=>by
  rw[zaj,zde,List.nodup_cons]at nd;have G:p.1∉kn.map (·.1):=λz=>nd.1<|zaY _ z
  have h2:=h.put (j:=p.2) G;have B:(l.map (·.1)++((p.1,p.2)::kn).map (·.1)).Nodup:=by
   have a:=List.nodup_append.mp nd.2;rw[zaj,zeI];refine{a.1,List.nodup_cons.mpr {G,a.2.1},λy F z N=>?_};rcases List.mem_cons.mp N with e|e
   .intro w;exact nd.1<|zbH _<|by rw[<- e,<- w];exact F
   .exact a.2.2 y F z e
  have ih:=wZ l ((p.1,p.2)::kn) (putD acc (.inr p.1)<|.int p.2) h2 B;show Cons (mR (putD acc (.inr p.1)<|.int p.2)<|l.map knK) _;intro q M;refine ih q ?_;rw[zde]at M;rcases List.mem_cons.mp M with z|z
  .rw[z];exact zaY _<|zar ..
  .rcases List.mem_append.mp z with z|z
   .exact zbH _ z
   .exact zaY _<|zaq _ z
theorem B0:∀(l:List<|Key×D) (acc:List<|Key×D),(mR acc l).length<=acc.length+l.length
 |[],acc=>by show acc.length<=_;simp_all
 |p::l,acc=>by
  have:=B0 l<|putD acc p.1 p.2;have:=u3 (d:=acc) (k:=p.1) (e:=p.2);show(mR (putD acc p.1 p.2) l).length<=_;rw[zaB];lia
def D2(F:(l.map (·.1)).Nodup)(M:l.length<=100):∃d,gJ [.lst<|l.map bX]=bw (.dK d)/\gJ [.tup<|l.map bX]=bw (.dK d)/\Cons d l/\d.length<=100:=by
 have G:a9 (l.map bX).length=ca:=decide_eq_true (by rw[zak];lia);have z:gJ [.lst<|l.map bX]=(if a9 (l.map bX).length=ca then(FX<|l.map bX).map λkvs=>D.dK (mR [] kvs)else bz):=rfl;have B:gJ [.tup<|l.map bX]=(if a9 (l.map bX).length=ca then(FX<|l.map bX).map λkvs=>D.dK (mR [] kvs)else bz):=rfl;rw[ci G,HJ,aB]at z B;have c:=wZ l [] [] (λ_ h=>nomatch h) (by simpa using F);rw[zbL]at c;have:=B0 (l.map knK) [];simp[-zad,-zab,aA,aB]at this;exact{_,z,B,c,by lia}
def names8(ns:List Int):∃nms:List Str,nms.length=8/\nms.Nodup/\bD (aQ 0) fP (aR cM<|aC (aR b8<|aC (aD 1)<|aC (eC<|.int 23) aX)<|aC (aD 0) aX) (aS 0 1 8) [bz,bw<|.lst<|ns.map .int]=bw (nms.map .str):=by
 obtain⟨f,N⟩:=d8 ns;have B:=(N 23 (by decide)<|by decide).1;obtain⟨nm,e,inj⟩:=TF<|f 23;have U:=lN (K:=8) (f:=aR cM<|aC (aR b8<|aC (aD 1)<|aC (eC<|.int 23) aX)<|aC (aD 0) aX) (rest:=[bw<|.lst<|ns.map .int]) (F:=λi=>.str<|nm i) (λi Y i1=>by simp_all[B,e i Y<|by lia]) (zau 8) bz λk W=>List.mem_range.mp W
 have er:aS 0 1 8=(zau 8).map λ(k:Nat)=>D.int (k:Int):=by
  rw[gP,zas];rfl
 refine{(zau 8).map λ(k:Nat)=>nm (k:Int),by simp_all,?_,?_}
 .refine List.nodup_iff_pairwise_ne.mpr ?_
  rw[zez];refine List.Pairwise.imp_of_mem ?_<|List.nodup_range (n:=8);intro a b M hb G z;have a1:=List.mem_range.mp M;have b1:=List.mem_range.mp hb;have:=inj (a:Int) (b:Int) (by lia) (by lia) z;exact G<|by lia
 .rw[er,zas]
  exact U
def pU(d:List<|Key×D):hV:=λx=>match fO d (.inr x:Key)with
 |some (.int j)=>j
 |_=>0
def qaX(h:Cons d kn):EC (pU d) kn:=λp z=>by unfold pU;rw[h p z]
def sM(B:OkB C):∃at_,vO CA gA iQ cZ (bB C)=bw at_/\AtD C at_:=by
 obtain⟨z,L2,e,ok⟩:=SE B;exact{_,e,z,L2,rfl,ok}
def A5(B:OkB C)(G:U.length<=8)(hd:gJ [Hd]=bw (.dK d))(z:size g<=16)(w:WI C U kn g d (pU d) k):qQ [bB C,Hd,pt g,.int k,rd g]=bw (.int<|b9 C g (pU d) k):=by
 obtain⟨at_,F,A⟩:=sM B;have M:=vN C 16 (pa g) (by rw[bJ];exact z) (by rw[bJ];lia);have N:kT [at_,dA C<|pa g,.dK d,.int k,rd g]=bw (.int<|b9 C g (pU d) k):=CD B G A 16 g kn d (pU d) k z z w;rw[gO];refine aF ?_;unfold rE;generalize dA C (pa g)=nd at *;generalize rd g=rg at *;simp_all[aE,eNew,F,M,N,hd]
def X2(B:OkB C)(G:U.length<=8)(hd:gJ [Hd]=bw (.dK d))(z:size g<=16)(w:WI C U kn g d (pU d) k):FH [bB C,Hd,pt g,.int k,.int<|b9 C g (pU d) k]=bw (rd g):=by
 obtain⟨at_,F,A⟩:=sM B;have N:=vN C 16 (pa g) (by rw[bJ];exact z) (by rw[bJ];lia);have W:pW [at_,dA C<|pa g,.dK d,.int k,.int<|b9 C g (pU d) k]=bw (rd g):=OV B G A 16 g kn d (pU d) k z z w;have Y:=(w.num B).1;rw[gO];refine aF ?_;unfold ON;generalize dA C (pa g)=nd at *;generalize rd g=rg at *;generalize b9 C g (pU d) k=n at *;have M:¬ n<0:=by lia
 simp_all[aE,eNew,F,N,W,hd,M]
def MB(B:OkB C)(hU:U.length<=8)(hd:gJ [Hd]=bw (.dK d))(G:psz p<=16)(w:PI' C U p d e k):C2 [bB C,Hd,bO p]=bw (.lst<|(zau C.kinds.length).map λ(j:Nat)=>.int<|nI<|aU C p e (j:Int)):=by
 obtain⟨at_,e1,A⟩:=sM B;have k6:=B.k6;have e2:=vN C 16 p G (by lia);have e3:∀i:Int,0<=i->i<(C.kinds.length:Int)->b7 [at_,dA C p,.dK d,.int i]=bw (memD<|aU C p e i):=λi M N=>wA B hU A 16 p d e i G G {w.ok,M,N,w.hd,w.he,w.dl}
 generalize dA C p=nd at *;have Y:=lN (K:=C.kinds.length) (f:=aR dN<|aC (aR b7<|aC (aD 1)<|aC (aD 2)<|aC (aR gJ<|aC (aD 3) aX)<|aC (aD 0) aX) aX) (rest:=[bw at_,bw nd,bw Hd]) (F:=λi=>.int<|nI<|aU C p e i) (λi M N=>by
  have n:=gD<|aU C p e i;simp_all[hd,e3 i M N,n]) (zau C.kinds.length) bz λk hk=>List.mem_range.mp hk
 have er:aS 0 1 C.kinds.length=(zau C.kinds.length).map λ(k:Nat)=>D.int (k:Int):=by
  rw[gP,zas];rfl
 have W:cQ [.int (C.kinds.length:Int)]=bw (aS 0 1 C.kinds.length):=dC (by lia);have z:a9 C.kinds.length=ca:=decide_eq_true (by lia);rw[er]at W;refine aF ?_;unfold BL;rw[aH<|aM (d:=at_)<|by simp_all[aE,eNew,e1]];rw[aH<|aM (d:=nd)<|by simp_all[aE,eNew,e2]];simp_all[-zas,aE,FY,W,kK,z,Y]
def RN(n:Int):qK [.int n]=bw (.bl ca):=aF<|by ac_rfl
def Pos(a:Sm):Prop:=∀p,a=bw p->0<p.1/\0<=p.2
def B2(z:l≠[]):My.AH l∈l/\∀x∈l,My.AH l<=x:=by
 refine{My.OJ z,λx hx=>?_};obtain⟨i,hi⟩:=zbG hx;have B:=(List.getElem?_eq_some_iff.mp hi).1;have a:=(argBest_lt (λi=>(l[i]?).getD 0)<|l.length-1).2 i (by lia);simp only[hi,Option.getD_some]at a;exact a
theorem vE{M:Type}{f:M->Sm}:∀ {l:List M} {t:Sm} {q:Int×Int},t=bw q\/(∃c∈l,f c=bw q)->∃r,l.foldl (λt c=>b6 t<|f c) t=bw r/\r.2<=q.2
 |[],t,q,h=>by
  rcases h with h|⟨c,F,_⟩
  .exact{q,h,zbr _}
  .cases F
 |c::l,t,q,h=>by
  rw[zcD];have B:∀ {G:Int×Int},b6 t (f c)=bw G->G.2<=q.2->∃r,l.foldl (λt c=>b6 t<|f c) (b6 t<|f c)=bw r/\r.2<=q.2:=λ{G} W Y=>by
   obtain⟨r,a,b⟩:=vE (f:=f) (l:=l) (t:=b6 t<|f c)<|.inl W;exact{r,a,zcm b Y}
  rcases h with h|⟨U,F,N⟩
  .subst h
   cases e:f c with
   |none=>rw[e]at B;exact B rfl<|zbr _
   |some y=>rw[e]at B;exact B rfl<|by show min q.2 y.2<=q.2;lia
  .rcases List.mem_cons.mp F with z|z
   .subst z
    rw[N]at B ⊢;cases t with
    |none=>exact B rfl<|zbr _
    |some x=>exact B rfl<|by show min x.2 q.2<=q.2;lia
   .exact vE<|.inr ⟨U,z,N⟩
theorem t9:∀(l:List<|Int×Int) (p:Int×Int),∃q,(l.map bw).foldl mC (bw p)=bw q/\q.2=p.2+(l.map (·.2)).sum
 |[],p=>{p,rfl,by simp_all}
 |x::l,p=>by
  obtain⟨q,a,b⟩:=t9 l (p.1*x.1,p.2+x.2);refine{q,a,?_};rw[b,zaj,za5];simp only;lia
def zK(C:Bk)(g:Rg):cost C g=nO C (pa g) (ch g)+cE C.rs (wy g)+((bT g).map<|cost C).sum:=by
 cases g with
 |name x j w=>simp_all[cost,nO,wy,bT,pa]
 |num n j w=>simp_all[cost,nO,wy,bT,pa]
 |use1 v nm p w=>simp_all[cost,nO,wy,bT,pa,ch,cI]
 |use2 v nm p q w=>simp_all[cost,nO,wy,bT,pa,ch,cI]
 |lett x j p q=>simp_all[cost,nO,wy,bT,pa,cE]
 |pick c k p q r w=>simp_all[cost,nO,wy,bT,pa]
 |again n k x p q w=>simp_all[cost,nO,wy,bT,pa]
theorem lS(B:OkB C):∀(n:Nat) (g:Rg) (kn:List<|Str×Int) (d:List<|Key×D) (e:hV) (k:Int),size g<=n->WI C U kn g d e k->∃q,aU C (pa g) e k=bw q/\q.2<=cost C g/\∃r,nR C (pa g) d e k (ch g)=bw r/\q.2<=r.2/\r.2<=cost C g
 |0,g,kn,d,e,k,h,_=>by have:=dD<|pa g;rw[bJ]at this;lia
 |n+1,g,kn,d,e,k,h,w=>by
  have I:=w.pi B;have cm:=jY B w.ok w.wf;have k6:=B.k6;have bo:=nH B I cm;have M:=i4 B.gr (n:=8) (by have:=I.k1;lia)<|v4 w.ec w.wf;have sl:=v5 B w;have kid:∀(gs:List Rg) (l:List Sb),gs.length=l.length->(∀(i:Nat) (q:Rg) (s:Sb),gs[i]?=bw q->l[i]?=bw s->∃x,kP C s=bw x/\x.2<=cost C q)->∃xs:List (Int×Int),l.map (kP C)=xs.map bw/\(xs.map (·.2)).sum<=(gs.map<|cost C).sum:=by
   intro gs;induction gs with
   |nil=>intro l G _;have:l=[]:=List.length_eq_zero_iff.mp G.symm;subst this;exact{[],rfl,zbr _}
   |cons q gs ih=>
    intro l G Y;cases l with
    |nil=>simp[-zad,-zab,aA,aB]at G
    |cons s l=>
     obtain⟨x,a1,a2⟩:=Y 0 q s rfl rfl;obtain⟨xs,b1,b2⟩:=ih l (by simpa using G) λi q s F hs=>Y (i+1) q s (by simpa using F)<|by simpa using hs
     refine{x::xs,by rw[zaj,zaj,a1,b1],?_};simp only[zaj,za5];lia
  obtain⟨xs,x1,x2⟩:=kid (bT g) (sb C (pa g) d e k<|ch g) sl.symm λi q s F hs=>by
   obtain⟨e1,N,w'⟩:=w.at B F hs;obtain⟨x,a,b,_⟩:=lS B n q N s.2.1 s.2.2.1 s.2.2.2 (by have:=sI<|zap F;lia) w';exact{x,by unfold kP;rw[e1];exact a,b}
  have sp:∃y,F4 C (cC C (pa g) e k<|ch g) k=bw y/\y.2<=cE C.rs (wy g):=by
   unfold F4;have W:¬ (bK C.rs k 8<|cC C (pa g) e k<|ch g).length=0:=λz=>by rw[List.length_eq_zero_iff.mp z]at M;cases M
   rw[cj W];refine{_,rfl,(B2 (l:=(bK C.rs k 8<|cC C (pa g) e k<|ch g).map<|cE C.rs) λz=>W<|by rw[zeJ]at z;rw[z];rfl).2 _<|List.mem_map.mpr {_,M,rfl}}
  obtain⟨y,y1,y2⟩:=sp;have ec:∃q,nR C (pa g) d e k (ch g)=bw q/\q.2<=cost C g:=by
   unfold nR csum;rw[y1,x1];obtain⟨q,a,b⟩:=t9 xs (1*y.1,nO C (pa g) (ch g)+y.2);refine{q,a,?_};rw[b,zK];simp only;lia
  obtain⟨q,q1,q2⟩:=ec;obtain⟨r,r1,r2⟩:=vE (l:=bH C<|pa g) (t:=bz) (f:=nR C (pa g) d e k)<|.inr {ch g,cm,q1};rw[pE]at r1;exact{r,r1,zcm r2 q2,q,q1,r2,q2}
def GF:¬ ("use" : Str) = "pick" := by decide
def SY:¬ ("let" : Str) = "pick" := by decide
def OC:¬ ("let" : Str) = "again" := by decide
def ts(h:¬ a=b):kQ (.str a) (.str b)=bw (.bl cf):=by simp_all[h]
def tt(a:Str):kQ (.str a) (.str a)=bw (.bl ca):=by simp_all
def tn{a b:Str}(h:¬ a=b):AK (.str a) (.str b)=bw (.bl ca):=by simp_all[h]
def tm(a:Str):AK (.str a) (.str a)=bw (.bl cf):=by simp_all
theorem jG{C:Bk}:∀(n:Nat) (g:Rg),size g<=n->LK C g->Short g->eK 6 bI n [bB C,rd g]=bw (.int<|cost C g)
 |0,g,h,_,_=>by have:=dD<|pa g;rw[bJ]at this;lia
 |n+1,g,h,F,S=>by
  have z:∀q,size q<size g->LK C q->Short q->eK 6 bI n [bB C,rd q]=bw (.int<|cost C q):=λq hq f s=>jG n q (by lia) f s
  show bA 6 (bI<|eK 6 bI n) _=_;generalize eK 6 bI n=R at z ⊢;cases g with
  |name x j w=>
   have e:=d7 (C:=C) F (by have:=S;simp only[Short]at this;lia);have W:=ts lY;have G:=ts g7;have N:=ts sT;have M:=ts lL;have U:=tn g7;refine aF (zcl (b:=bw<|.rt<|.int<|0+cE C.rs w) ?_<|by simp_all[cost]);unfold bI rd
   ac_rfl
  |num m j w=>
   have e:=d7 (C:=C) F (by have:=S;simp only[Short]at this;lia);have W:=ts jZ;have G:=ts gK;have N:=ts sP;have M:=ts lT;have U:=tn gK;refine aF (zcl (b:=bw<|.rt<|.int<|0+cE C.rs w) ?_<|by simp_all[cost]);unfold bI rd
   ac_rfl
  |use1 v nm p w=>
   obtain⟨⟨m,hm⟩,fp,B⟩:=F;have e:=d7 (C:=C) B (by have:=S.2;lia);have i:=z p (by simp only[size];lia) fp S.1;have em:=mQ hm;have W:=tt "use";have G:=ts iR;have N:=ts GF;have M:=ts oN;have U:=tn iR;have ep:mpr C v=m.pr:=by unfold mpr;rw[hm];rfl
   refine aF (zcl (b:=bw<|.rt<|.int<|m.pr+cE C.rs w+cost C p) ?_<|by simp_all[cost,ep]);unfold bI rd
   ac_rfl
  |use2 v nm p q w=>
   obtain⟨⟨m,hm⟩,fp,Y,B⟩:=F;have e:=d7 (C:=C) B (by have:=S.2.2;lia);have i:=z p (by simp only[size];lia) fp S.1;have i2:=z q (by simp only[size];lia) Y S.2.1;have em:=mQ hm;have W:=tt "use";have G:=ts iR;have N:=ts GF;have M:=ts oN;have U:=tn iR;have ep:mpr C v=m.pr:=by unfold mpr;rw[hm];rfl
   refine aF (zcl (b:=bw<|.rt<|.int<|m.pr+cE C.rs w+cost C p+cost C q) ?_<|by simp_all[cost,ep];lia);unfold bI rd
   ac_rfl
  |lett x j p q=>
   have i:=z p (by simp only[size];lia) F.1 S.1;have i2:=z q (by simp only[size];lia) F.2 S.2;have W:=ts kA;have G:=tt "let";have N:=ts SY;have M:=ts OC;have U:=tm "let";have cs:sH (.tup [.str "let",.str x,.int j,rd p,rd q]) (bw 3) bz=bw (.tup [rd p,rd q]):=rfl;refine aF (zcl (b:=bw<|.rt<|.int<|0+cost C p+cost C q) ?_<|by simp_all[cost]);unfold bI rd
   ac_rfl
  |pick c k p q r w=>
   obtain⟨fp,Y,fr,B⟩:=F;have e:=d7 (C:=C) B (by have:=S.2.2.2;lia);have i:=z p (by simp only[size];lia) fp S.1;have i2:=z q (by simp only[size];lia) Y S.2.1;have i3:=z r (by simp only[size];lia) fr S.2.2.1;have W:=ts kE;have G:=ts gL;have N:=tt "pick";have M:=ts CK;have U:=tn gL;have cs:sH (.tup [.str "pick",.int c,.int k,rd p,rd q,rd r,tupI w]) (bw 3) (bw 6)=bw (.tup [rd p,rd q,rd r]):=rfl;refine aF (zcl (b:=bw<|.rt<|.int<|0+cE C.rs w+cost C p+cost C q+cost C r) ?_<|by simp_all[cost];lia);unfold bI rd
   ac_rfl
  |again m k x p q w=>
   obtain⟨fp,Y,B⟩:=F;have e:=d7 (C:=C) B (by have:=S.2.2;lia);have i:=z p (by simp only[size];lia) fp S.1;have i2:=z q (by simp only[size];lia) Y S.2.1;have W:=ts kB;have G:=ts fM;have N:=ts sU;have M:=tt "again";have U:=tn fM;have cs:sH (.tup [.str "again",.int m,.int k,.str x,rd p,rd q,tupI w]) (bw 4) (bw 6)=bw (.tup [rd p,rd q]):=rfl;refine aF (zcl (b:=bw<|.rt<|.int<|0+cE C.rs w+cost C p+cost C q) ?_<|by simp_all[cost];lia);unfold bI rd
   ac_rfl
def WI.si(B:OkB C)(w:WI C U kn g d e k):SI C U kn (pa g) d e k:=⟨w.pi B,paw w.wf w.nf,λx hx=>by
 obtain⟨j,z⟩:=FJ w.wf x hx;rw[w.ec _ z];exact z⟩
structure NI(C:Bk)(U:List Str)(kn:List<|Str×Int)(p:Pa)(d:List<|Key×D)(e:hV)(k:Int):Prop where
 s:SI C U kn p d e k
 ok:OkN C kn
 ec:EC e kn
 cd:Cons d kn
 un:∀p∈kn,p.1∈U
def NI.wi(h:NI C U kn p d e k)(z:pa g=p)(w:WF C kn g k):WI C U kn g d e k:={w,PaW.nf (by rw[z];exact h.s.pw),h.ok,h.ec,h.cd,h.un,by rw[<- bJ,z];exact h.s.pi.dl}
def PaW.fresh(h:PaW C U N p)(z:hid p i=bw x):x∉N/\x∈U:=by
 unfold hid at z;split at z
 .cases z;exact h.2.1
 .cases z;exact h.2.2.1
 .cases z
theorem NI.kid(B:OkB C)(h:NI C U kn p d e k)(F:c∈bH C p)(M:(kids p)[i]?=bw q)(G:(DN C p k c)[i]?=bw kk):NI C U (QY kn p c i) q (IZ p d c i) (LL p e c i) kk:=by
 have s:=h.s.kid B F M G;revert s;unfold QY IZ LL;cases e1:hid p i with
 |none=>exact λs=>{s,h.ok,h.ec,h.cd,h.un}
 |some y=>
  have f:=h.s.pw.fresh e1;have b:=PJ h.s.pi.ok F e1;exact λs=>{s,h.ok.cons b.1 b.2,h.ec.put f.1,h.cd.put f.1,λp N=>(List.mem_cons.mp N).elim (λz=>by rw[z];exact f.2)<|h.un p}
def Bst(C:Bk)(U:List Str)(kn:List<|Str×Int)(p:Pa)(d:List<|Key×D)(e:hV)(k x:Int)(m:Rg):Prop:=pa m=p/\WF C kn m k/\cost C m=x/\∀g z,pa g=p->WI C U z g d e k->cost C g=x->b9 C m e k<=b9 C g e k
theorem pX:∀ {l:List Sm} {t:Sm} {r:Int×Int},l.foldl mC t=bw r->∃(p:Int×Int) (xs:List<|Int×Int),t=bw p/\l=xs.map bw/\r.2=p.2+(xs.map (·.2)).sum
 |[],t,r,h=>{r,[],h,rfl,by simp_all}
 |a::l,t,r,h=>by
  obtain⟨p,xs,h1,rfl,z⟩:=pX (l:=l) (t:=mC t a) h
  match t,a,h1 with
  |some x,bw y,h1=>cases h1;exact{x,y::xs,rfl,rfl,by rw[z,zaj,za5];simp only;lia}
theorem BH{B:Type}{f:B->Sm}:∀ {l:List B} {t:Sm} {r:Int×Int},l.foldl (λt c=>b6 t<|f c) t=bw r->(∃p,t=bw p/\p.2=r.2)\/∃c∈l,∃p,f c=bw p/\p.2=r.2
 |[],t,r,h=>.inl {r,h,rfl}
 |c::l,t,r,h=>by
  rcases BH (l:=l) (t:=b6 t<|f c) h with⟨p,h1,h2⟩|⟨F,G,z⟩
  .cases ec:f c with
   |none=>rw[ec]at h1;cases t with
    |none=>cases h1
    |some x=>cases h1;exact .inl {_,rfl,h2}
   |some y=>rw[ec]at h1;cases t with
    |none=>cases h1;exact .inr {c,zar ..,_,ec,h2}
    |some x=>
     cases h1;simp only at h2;by_cases z:x.2<=y.2
     .exact .inl {x,rfl,by lia}
     .exact .inr {c,zar ..,y,ec,by lia}
  .exact .inr {F,zaq _ G,z}
theorem B8{G:Type}{P:G->Prop}:∀ {l:List G},(∃c∈l,P c)->∃(t:Nat) (c:G),l[t]?=bw c/\P c/\∀(i:Nat) (B:G),i<t->l[i]?=bw B->¬ P B
 |[],h=>by obtain⟨c,M,_⟩:=h;cases M
 |a::l,h=>by
  by_cases z:P a
  .exact{0,a,rfl,z,λi B hi=>absurd hi<|zeB i}
  .obtain⟨c,M,N⟩:=h
   rcases List.mem_cons.mp M with w|w
   .exact absurd (w ▸ N) z
   .obtain⟨t,c,h1,h2,U⟩:=B8 (P:=P) (l:=l) ⟨c,w,N⟩
    refine{t+1,c,h1,h2,λi B hi F=>?_};cases i with
    |zero=>cases F;exact z
    |succ i=>exact U i B (by lia) F
theorem xU:∀ {l m:List (Int×Int)} {a b:Int},a<=b->l.map (·.2)=m.map (·.2)->NN (l.map (·.2))->(∀(i:Nat) (x y:Int×Int),l[i]?=bw x->m[i]?=bw y->x.1<=y.1)->bV a l<=bV b m
 |[],[],a,b,h,_,_,_=>h
 |[],_::_,_,_,_,e,_,_=>nomatch e
 |_::_,[],_,_,_,e,_,_=>nomatch e
 |x::l,y::m,a,b,h,e,n,hk=>by
  have G:x.2=y.2:=(List.cons.inj e).1;have N:=hk 0 x y rfl rfl;have h1:=zd1 h<|n x.2<|zar ..;refine xU (a:=a*x.2+x.1) (b:=b*y.2+y.1) ?_ (List.cons.inj e).2 (λz B=>n z<|zaq _ B) λi u v F M=>hk (i+1) u v F M
  rw[<- G];lia
theorem join_snoc:∀(l:List<|Int×Int) (a:Int) (x:Int×Int),bV a (l++[x])=bV a l*x.2+x.1
 |[],_,_=>rfl
 |y::l,a,x=>join_snoc l (a*y.2+y.1) x
theorem xB:∀ {xs ys:List Int},xs.length=ys.length->(∀(i:Nat) (a b:Int),xs[i]?=bw a->ys[i]?=bw b->a<=b)->xs.sum<=ys.sum/\(ys.sum<=xs.sum->∀(i:Nat) (a b:Int),xs[i]?=bw a->ys[i]?=bw b->a=b)
 |[],ys,h,_=>by
  have:ys=[]:=List.length_eq_zero_iff.mp h.symm;subst this;exact{zbr _,λ_ i a b z=>nomatch z}
 |x::xs,[],h,_=>nomatch h
 |x::xs,y::ys,h,hk=>by
  have N:=hk 0 x y rfl rfl;obtain⟨M,G⟩:=xB (xs:=xs) (ys:=ys) (Nat.succ.inj h) λi a b B F=>hk (i+1) a b B F
  rw[za5,za5];refine{by lia,λz i a b B F=>?_};cases i with
  |zero=>cases B;cases F;lia
  |succ i=>exact G (by lia) i a b B F
set_option tactic.hygienic true in
def EQ(B:OkB C)(h:NI C U kn p d e k)(ht:(bH C p)[t]?=bw c)(hq:aU C p e k=bw q)(hr:nR C p d e k c=bw r)(as:r.2=q.2)(hf:∀(i:Nat) (c':D),i<t->(bH C p)[i]?=bw c'->¬ ∃r',nR C p d e k c'=bw r'/\r'.2=q.2)
 (gl:gs.length = (sb C p d e k c).length) (hg:∀(i:Nat) (s:Sb) (m:Rg), (sb C p d e k c)[i]? = bw s -> gs[i]? = bw m -> ∃x, kP C s = bw x /\ Bst C U (QY kn p c i) s.1 s.2.1 s.2.2.1 s.2.2.2 x.2 m) (hw:(bK C.rs k 8<|cC C p e k c)[j]? = bw w) (hl:∀(i:Nat) (F:List Int), (bK C.rs k 8<|cC C p e k c)[i]? = bw F -> cE C.rs w <= cE C.rs F /\ (i<j -> cE C.rs w<cE C.rs F)) :
  ∃m,ch m=c/\bT m=gs/\wy m=w/\Bst C U kn p d e k q.2 m:=by
 have hc:=zap ht;have kl:=yA B h.s.pi.ok h.s.pi.k0 h.s.pi.k1 hc;have sl:(sb C p d e k c).length=(kids p).length:=pC kl.1.symm;obtain⟨m,m1,m2,m3,m4,m5⟩:=build B h.s hc (gs:=gs) (by rw[gl,sl]) (λi q kk hq hk=>by
  have hi:=(List.getElem?_eq_some_iff.mp hq).1;have hs:(sb C p d e k c)[i]?=bw (sb C p d e k c)[i]:=zaG (by lia);obtain⟨x,_,b1,N,_⟩:=hg i _ q hs hq;obtain⟨q',bn,h1,h2,h3⟩:=gQ hs;rw[h3]at b1 N;rw[hk]at h2;cases h2;exact{by rw[h1,b1],N}) (fT<|zap hw)
 obtain⟨p0,xs,e1,e2,e3⟩:=pX hr;have px:∀(i:Nat) (s:Sb) (x:Int×Int),(sb C p d e k c)[i]?=bw s->kP C s=bw x->(xs.map (·.2))[i]?=bw x.2:=λi s x hs hx=>by
  have a:=congrArg (λl=>l[i]?) e2;simp only[zav,hs,zab,hx]at a;rw[zav];cases z:xs[i]? with
  |none=>rw[z]at a;cases a
  |some y=>rw[z]at a;cases a;rfl
 have xl:xs.length=(sb C p d e k c).length:=by have:=congrArg zbq e2;simpa using this.symm
 have p2:p0.2=nO C p c+cE C.rs w:=by
  unfold F4 at e1;split at e1
  .cases e1
  .rename_i ne
   cases e1;have lo:=B2 (l:=(bK C.rs k 8<|cC C p e k c).map<|cE C.rs) λz=>ne<|by rw[zeJ]at z;rw[z];rfl
   obtain⟨F,aq,ew⟩:=List.mem_map.mp lo.1;obtain⟨i,hi⟩:=zbG aq;have a1:=(hl i F hi).1;have a2:=lo.2 _<|List.mem_map.mpr {w,zap hw,rfl};simp only
   lia
 have cm:cost C m=q.2:=by
  rw[zK,m1,m2,m3,m4,<- as,e3,p2];congr 2;refine List.ext_getElem? λi=>?_
  cases z:gs[i]? with
  |none=>rw[zav,z,List.getElem?_eq_none<|by have:=List.getElem?_eq_none_iff.mp z;rw[zak];lia];rfl
  |some g=>
   have hi:=(List.getElem?_eq_some_iff.mp z).1;have hs:(sb C p d e k c)[i]?=bw (sb C p d e k c)[i]:=zaG (by lia);obtain⟨x,hx,_,_,b3,_⟩:=hg i _ g hs z;rw[px i _ x hs hx,zav,z,<- b3];rfl
 refine{m,m2,m3,m4,m1,m5,cm,λg ao g1 F g3=>?_};have jm:=(h.wi m1 m5).join B;have jg:=F.join B;obtain⟨q',a1,a2,r',a3,a4,a5⟩:=lS B _ g ao d e k (zah _) F;obtain⟨t',G⟩:=zbG<|jY B F.ok F.wf;have wg:=i4 B.gr (n:=8) (by have:=h.s.pi.k1;have:=B.k6;have:=nH B (F.pi B)<|jY B F.ok F.wf;lia)<|v4 F.ec F.wf;have M:=λ(i:Nat) (q:Rg) (s:Sb)=>F.at B (i:=i) (q:=q) (s:=s)
 have Y:=v5 B F;have ce:=zK C g;unfold qJ at jm jg;rw[pG C m d e k,pG C g d e k];rw[g1]at a1 a3 G wg M Y jg ce ⊢;rw[m1,m2,m3,m4]at jm ⊢;rw[hq]at a1;cases a1;rw[sX ht,sX G];rcases Nat.lt_trichotomy t' t with z|z|z
 .exact absurd {r',a3,by lia}<|hf t' _ z G
 .subst z
  rw[ht]at G;have ec:ch g=c:=(zaz G).symm;rw[ec]at wg M Y ce ⊢;obtain⟨iw,aa⟩:=zbG wg;have lw:=hl iw _ aa;have ti:=xB (xs:=xs.map (·.2)) (ys:=(bT g).map<|cost C) (by rw[zak,zak];lia) λi a b ha hb=>by
   have hi:=(List.getElem?_eq_some_iff.mp ha).1;rw[zak]at hi;have hs:(sb C p d e k c)[i]?=bw (sb C p d e k c)[i]:=zaG (by lia);rw[zav]at hb;obtain⟨y,hy,rfl⟩:=map_some hb;obtain⟨f1,W,w2⟩:=M i y _ hy hs;obtain⟨x,x1,x2,_⟩:=lS B _ y W _ _ _ (zah _) w2;rw[<- f1]at x1;rw[px i _ x hs x1]at ha;cases ha;exact x2
  have tw:cE C.rs (wy g)=cE C.rs w:=by lia
  have te:=ti.2 (by lia);refine Int.add_le_add_left ?_ _;rw[join_snoc,join_snoc];refine Int.add_le_add (zd1 (xU (zbr 0) ?_ ?_ ?_)<|Int.natCast_nonneg _) ?_
  .rw[mK gl.symm,mK Y]
  .rw[mK gl.symm]
   intro x hx;obtain⟨s,_,rfl⟩:=List.mem_map.mp hx;exact cF ..
  .intro i x y hx hy
   obtain⟨gm,s,b1,N,rfl⟩:=sV hx;obtain⟨gg,s',b3,b4,rfl⟩:=sV hy;rw[N]at b4;cases b4;obtain⟨x,x1,_,_,x4,x5⟩:=hg i s gm N b1;obtain⟨f1,W,w2⟩:=M i gg s b3 N;exact x5 gg W f1.symm w2 (te i _ _ (px i s x N x1)<|by rw[zav,b3];rfl).symm
  .have a:=List.Nodup.idxOf_getElem (tU (rs:=C.rs) (k:=k) 8<|cC C p e k c)
   have i1:=(List.getElem?_eq_some_iff.mp hw);have i2:=(List.getElem?_eq_some_iff.mp aa);have j1:=a j i1.1;have j2:=a iw i2.1;rw[i1.2]at j1;rw[i2.2]at j2;show(((bK C.rs k 8<|cC C p e k c).idxOf w:Nat):Int)<=(((bK C.rs k 8<|cC C p e k c).idxOf<|wy g:Nat):Int);rw[j1,j2];by_cases z:iw<j
   .have:=lw.2 z;lia
   .lia
 .have mo:=u7 (FE C p d e k) (l:=bH C p) (i:=t+1) (j:=t') z
  have s:=oP (f:=nR C p d e k) ht
  lia
theorem GG:∀(l:List D) (b:D) (n:Int),(∀d∈l,∃n,k d=bw n)->∃r,LD k b n l=bw r
 |[],b,n,_=>{b,rfl}
 |d::l,b,n,h=>by
  obtain⟨m,e⟩:=h d<|zar ..;unfold LD;rw[e,aA];split <;> exact GG l _ _ λx hx=>h x<|zaq _ hx
def UN{ws:List (List Int)}(N:¬ ws.length=0)(F:∀w∈ws,f (tupI w)=bw (cE rs w)):∃w j,yC f (.lst<|ws.map tupI)=bw (tupI w)/\ws[j]?=bw w/\∀(i:Nat) (B:List Int),ws[i]?=bw B->cE rs w<=cE rs B/\(i<j->cE rs w<cE rs B):=by
 cases ws with
 |nil=>exact absurd rfl N
 |cons w0 l=>
  have G:=F w0<|zar ..;obtain⟨r,er⟩:=GG (k:=f) (l.map tupI) (tupI w0) (cE rs w0) λd hd=>by
   obtain⟨w,hw,rfl⟩:=List.mem_map.mp hd;exact{_,F w<|zaq _ hw}
  obtain⟨_,j,M,U⟩:=mI (L:=(w0::l).map tupI) (l.map tupI) 1 (tupI w0) (cE rs w0) 0 rfl er rfl G Nat.one_pos λj M=>by
   have:j=0:=by lia
   subst this;exact{{_,_,rfl,G},zbr _,λz=>absurd z<|zbt _}
  have kf:∀(i:Nat) (w:List Int),(w0::l)[i]?=bw w->h7 f ((w0::l).map tupI) i=cE rs w:=λi w hw=>pJ (by rw[zav,hw];rfl)<|F w<|zap hw
  rw[zav]at M;obtain⟨w,hw,rfl⟩:=map_some M;refine{w,j,?_,hw,λi B hi=>?_}
  .show(f<|tupI w0).bind _=_
   rw[G,aA];exact er
  .have:=U i (by rw[zak];exact(List.getElem?_eq_some_iff.mp hi).1)
   rwa [kf j w hw,kf i B hi]at this
theorem uR{at_:D}:∀(l:List Sb) (gs:List Rg) (o1 o2 o3:Option D),gs.length=l.length->(∀(i:Nat) (s:Sb) (m:Rg),l[i]?=bw s->gs[i]?=bw m->R [at_,dA C s.1,.dK s.2.1,.int s.2.2.2]=bw (rd m))->bD (kJ 3<|c7 (aQ 0)<|c7 (aQ 1)<|c7 (aQ 2) pN) fP (aR R<|aC (aD 3)<|aC (aD 0)<|aC (aD 1)<|aC (aD 2) aX) (l.map λs=>.tup [dA C s.1,.dK s.2.1,.int s.2.2.2]) [o1,o2,o3,bw at_]=bw (gs.map rd)
 |[],[],o1,o2,o3,_,_=>rfl
 |[],_::_,_,_,_,h,_=>nomatch h
 |_::_,[],_,_,_,h,_=>nomatch h
 |s::l,g::gs,o1,o2,o3,hl,h=>by
  have ih:=uR l gs (bw<|dA C s.1) (bw<|.dK s.2.1) (bw<|.int s.2.2.2) (Nat.succ.inj hl) λi s m a b=>h (i+1) s m a b
  have e:=h 0 s g rfl rfl;rw[zaj,bD];simp_all[-zas,e,ih]
def KL{at_ N U M G bk pd r W F Y:D}{SP wl B:List D}(hb:tJ CA "book" at_=bw bk)(np:tJ CN "part" N=bw pd)(sp:gB [at_,N,U,M,G]=bw (.lst SP))(sz:SP.length<=1000000)(cp:bD (kJ 3<|c7 (aQ 0)<|c7 (aQ 1)<|c7 (aQ 2) pN) fP (aR R<|aC (aD 3)<|aC (aD 0)<|aC (aD 1)<|aC (aD 2) aX) SP [bz,bz,bz,bw at_]=bw B)(er:tJ CA "routes" at_=bw r)(bg:a7 [bk,U,pd,M,G]=bw W)(ew:aL r (.tup [W,M])=bw (.lst wl))(mw:yC (λone=>intOf<|aR d6 (aC (dF CA "book"<|aD 1)<|aC (aD 0) aX) [bw one,bw at_]) (.lst wl)=bw F)(aa:eU [pd,G,.lst B,F]=bw Y) :
  bA 8 (eY R) [at_,N,U,M,G]=bw Y:=by
 refine aF ?_;unfold eY;have z:a9 SP.length=ca:=decide_eq_true sz;rw[aH<|aM (d:=.lst B)<|by simp_all[aE,sp,kK,z,cp]];rw[aH<|aM (d:=.lst wl)<|by ac_rfl];rw[aH<|aM (d:=F) mw]
 ac_rfl
theorem HI(B:OkB C){U:List Str}(hU:U.length<=8){at_:D}(A:AtD C at_):∀(n:Nat) (p:Pa) (kn:List<|Str×Int) (d:List<|Key×D) (e:hV) (k:Int) (q:Int×Int),psz p<=n->psz p<=16->NI C U kn p d e k->aU C p e k=bw q->∃m,eK 7 cX n [at_,dA C p,.dK d,.int k]=bw (rd m)/\Bst C U kn p d e k q.2 m
 |0,p,kn,d,e,k,q,h,_,_,_=>by have:=dD p;lia
 |n+1,p,kn,d,e,k,q,h,h16,N,hq=>by
  have I:=N.s.pi;obtain⟨t,c,W,⟨r,hr,Y⟩,hf⟩:=B8 (l:=bH C p) (P:=λc=>∃r,nR C p d e k c=bw r/\r.2=q.2) (by
   have z:=hq;rw[<- pE C p d e k]at z;rcases BH z with⟨_,y,_⟩|y
   .cases y
   .exact y)
  have G:=zap W;obtain⟨p0,xs,e1,e2,_⟩:=pX hr;obtain⟨gs,g1,g2⟩:=zO (λi (s:Sb) m=>eK 7 cX n [at_,dA C s.1,.dK s.2.1,.int s.2.2.2]=bw (rd m)/\∃x,kP C s=bw x/\Bst C U (QY kn p c i) s.1 s.2.1 s.2.2.1 s.2.2.2 x.2 m) (sb C p d e k c) 0 λi s hs=>by
   obtain⟨x,hx⟩:∃x,kP C s=bw x:=by
    have z:kP C s∈xs.map bw:=e2 ▸ List.mem_map.mpr {s,zap hs,rfl};obtain⟨x,_,z⟩:=List.mem_map.mp z;exact{x,z.symm}
   obtain⟨q',kk,h1,h2,rfl⟩:=gQ hs;have sz:=gZ<|zap h1;rw[zaN]at hx ⊢;obtain⟨m,a,b⟩:=HI B hU A n q' (QY kn p c i) _ _ kk x (by lia) (by lia) (N.kid B G h1 h2) hx;exact{m,a,x,hx,b}
  show ∃m,bA 7 (cX<|eK 7 cX n) _=_/\_;generalize eK 7 cX n=R at g2 ⊢;have bo:=nH B I G;obtain⟨ro,er,ew⟩:=zV A bo {I.k0,I.k1};have hb:=A.book;have np:=jS C p;obtain⟨w,j,mw,hw,hl⟩:=UN (rs:=C.rs) (ws:=bK C.rs k 8<|cC C p e k c) (f:=λone=>intOf<|aR d6 (aC (dF CA "book"<|aD 1)<|aC (aD 0) aX) [bw one,bw at_]) (λz=>by
   unfold F4 at e1;rw[ci z]at e1;cases e1) λw hw=>by
   have g:=fT hw;have:=kF B.gr g;have k6:=B.k6;have:=I.k1;have wp:=rL (C:=C) (gY g) (by lia);have:aR d6 (aC (dF CA "book"<|aD 1)<|aC (aD 0) aX) [bw<|tupI w,bw at_]=bw (.int<|cE C.rs w):=by ac_rfl
   show intOf _=_;rw[this];rfl
  obtain⟨m,m2,m3,m4,bm⟩:=EQ B N W hq hr Y hf g1 (λi s m hs hm=>by
   have:=(g2 i s m hs hm).2
   rwa [zaN]at this) hw hl
  refine{m,?_,bm};have sp:=IF B A I G;have kl:=yA B I.ok I.k0 I.k1 G;have sl:(sb C p d e k c).length=(kids p).length:=pC kl.1.symm;have k3:(kids p).length<=3:=by cases p <;> simp_all[kids]
  have as:=qL m;rw[bm.1,m2,zS,m3,m4]at as;have tc:=KL (R:=R) hb np sp (by rw[zak];lia) (uR _ gs bz bz bz g1 λi s m hs hm=>(g2 i s m hs hm).1) er (IG I G) ew mw as;have wc:=mG B p;have cs:∀c∈bH C p,dO [at_,dA C p,.dK d,.int k,c]=bw (memD<|nR C p d e k c):=λc G=>AB B A I G h16 λs _ hI hz=>wA B hU A 16 s.1 s.2.1 s.2.2.1 s.2.2.2 (by lia) (by lia) hI
  have su:b7 [at_,dA C p,.dK d,.int k]=bw (memD<|aU C p e k):=wA B hU A 16 p d e k h16 h16 I;rw[hq]at su;refine aF ?_;generalize nR C p d e k=f at *;generalize bH C p=chs at *;generalize dA C p=nd at *;generalize rd m=rg at *;unfold cX;rw[aH<|aM (d:=memD<|bw q)<|by ac_rfl];refine qG ?_;rw[q_for];have ei:gH (aR dU<|aC (dF CA "book"<|aD 0)<|aC (dF CN "part"<|aD 1) aX) ((aE 7 [at_,nd,.dK d,.int k]).set 4<|bw<|memD<|bw q)=bw chs:=by ac_rfl
  rw[ei];refine zP t (λi ρ=>∃o5 o6,ρ=[bw at_,bw nd,bw<|.dK d,bw<|.int k,bw<|memD<|bw q,o5,o6]) {bz,bz,rfl} (List.getElem?_eq_some_iff.mp W).1 ?_ ?_
  .rintro i M ρ hi F ⟨o5,o6,rfl⟩
   have ec:=cs M<|zap F;have ef:=hf i M hi F;refine{[bw at_,bw nd,bw<|.dK d,bw<|.int k,bw<|memD<|bw q,bw M,bw<|memD<|f M],?_,_,_,rfl};cases e:f M with
   |none=>rw[e]at ec;ac_rfl
   |some r'=>
    rw[e]at ec;have ne:¬ r'.2=q.2:=λz=>ef {r',e,z}
    have dn:kQ (.int r'.2) (.int q.2)=bw (.bl cf):=by simp_all[ne]
    ac_rfl
  .rintro M ρ F ⟨o5,o6,rfl⟩
   rw[W]at F;cases F;have ec:=cs c<|zap W;rw[hr]at ec;have dy:kQ (.int r.2) (.int q.2)=bw (.bl ca):=by simp_all[Y]
   ac_rfl
def EO(B:OkB C)(N:U.length<=8)(hd:gJ [Hd]=bw (.dK d))(z:size g<=16)(w:WI C U kn g d (pU d) k):∃m q,tV [bB C,Hd,bO<|pa g,.int k]=bw (rd m)/\aU C (pa g) (pU d) k=bw q/\q.2<=cost C g/\Bst C U kn (pa g) d (pU d) k q.2 m:=by
 obtain⟨at_,G,A⟩:=sM B;have e2:=vN C 16 (pa g) (by rw[bJ];exact z) (by rw[bJ];lia);obtain⟨q,F,W,_⟩:=lS B _ g kn d (pU d) k (zah _) w;obtain⟨m,e3,M⟩:=HI B N A 16 (pa g) kn d (pU d) k q (by rw[bJ];exact z) (by rw[bJ];exact z) {w.si B,w.ok,w.ec,w.cd,w.un} F;refine{m,q,aF ?_,F,W,M};generalize dA C (pa g)=nd at *;generalize rd m=rg at *;unfold tT;have Y:iJ [at_,nd,.dK d,.int k]=bw rg:=e3;simp_all[aE,eNew,G,e2,Y,hd]
def MD(B:OkB C)(w:WI C U kn g d e k)(G:0<=n)(z:n<nI (aU C (pa g) e k)):∃g',pa g'=pa g/\size g'=size g/\WI C U kn g' d e k/\b9 C g' e k=n:=by
 have s:=w.si B;obtain⟨g',h1,h2,F⟩:=qba B (psz<|pa g) (pa g) kn d e k n (zah _) s G z;have N:NI C U kn (pa g) d e k:={s,w.ok,w.ec,w.cd,w.un};exact{g',h1,by rw[<- bJ,h1,bJ],N.wi h1 h2,F}
def NT{n:Nat}{F:Int->D}(k0:0<=k)(k1:k<(n:Int)):hW ((zau n).map λ(j:Nat)=>F (j:Int)) k=bw (F k):=by
 have z:((k.toNat:Nat):Int)=k:=by lia
 have:((zau n).map λ(j:Nat)=>F (j:Int))[k.toNat]?=bw (F k):=by
  rw[zav,zdc<|by lia,zab,z]
 have:=bY this
 rwa [z]at this
def qao(ns:List Int)(hn:ns.length<=63):bA 15 QI [.lst<|ns.map .int]=bw (.bl ca):=by
 obtain⟨C,hC,B⟩:=DS ns;obtain⟨nms,h8,Y,en⟩:=names8 ns;obtain⟨ps,ep,P,hp,U⟩:=AX (ns:=ns) B h8;obtain⟨g,k,r,eg,G⟩:=AU hn B h8 Y P hp U;obtain⟨v,ev,v0⟩:=yW ns;have gs:=G.sz;have ag:=G.k0;have ai:=G.k1;have r8:cQ [.int 8]=bw (aS 0 1 8):=dC (n:=8) (by decide);have z8:a9 8=ca:=rfl;have aj:(ps.map (·.1)).Nodup:=by rw[U];exact(zdz ..).nodup Y
 obtain⟨d,dl,dt,cd,ld⟩:=D2 aj (by lia);have w:WI C nms ps g d (pU d) k:={G.wf,G.nf,P,qaX cd,cd,λp hp=>(zdz ..).subset<|U ▸ List.mem_map.mpr {p,hp,rfl},by lia};have hU:nms.length<=8:=by lia
 have pz:psz (pa g)<=16:=by rw[bJ];lia
 have ct:=MB B hU dl pz<|w.pi B;obtain⟨m,q,cb,q1,q2,m1,m2,m3,m4⟩:=EO B hU dl (by lia) w;have N:NI C nms ps (pa g) d (pU d) k:={w.si B,w.ok,w.ec,w.cd,w.un};have wm:=N.wi m1 m2;have sm:size m=size g:=by rw[<- bJ,m1,bJ]
 have no:=A5 B hU dl (by lia) wm;rw[gO,m1]at no;rw[<- gO]at ct cb no;have nm:=wm.num B;have pr:jC [bB C,rd m]=_:=jG 16 m (by lia) m2.fit (WF.short B P m2).1;have tk:∀n,0<=n->n<nI (aU C (pa g) (pU d) k)->∃rg x,FH [bB C,.lst<|ps.map bX,pt g,.int k,.int n]=bw rg/\jC [bB C,rg]=bw (.int x)/\q.2<=x/\(x=q.2->b9 C m (pU d) k<=n):=λn n0 n1=>by
  obtain⟨g',a,b,c,e⟩:=MD B w n0 n1;have t:=X2 B hU dl (by lia) c;rw[e,gO,a,<- gO]at t;obtain⟨q',y1,y2,_⟩:=lS B _ g' ps d (pU d) k (zah _) c;rw[a,q1]at y1;cases y1;exact{_,_,t,jG 16 g' (by lia) c.wf.fit (WF.short B c.ok c.wf).1,y2,λz=>e ▸ m4 g' ps a c z}
 have zb:=vS (mM B _ (pa g) (zah _) (pU d) k) pz;have ac:hW ((zau C.kinds.length).map λ(j:Nat)=>D.int<|nI<|aU C (pa g) (pU d) (j:Int)) k=bw (.int<|nI<|aU C (pa g) (pU d) k):=NT (F:=λi=>.int<|nI<|aU C (pa g) (pU d) i) ag ai;rw[m1]at nm;rw[m3]at pr;generalize ((zau C.kinds.length).map λ(j:Nat)=>D.int<|nI<|aU C (pa g) (pU d) (j:Int))=CL at *;generalize nI (aU C (pa g) (pU d) k)=z at *;generalize b9 C m (pU d) k=f at *;generalize rd m=rm at *;refine aF ?_;unfold QI;rw[aH<|aM (d:=bB C)<|by ac_rfl];rw[aH<|aM (d:=.lst<|nms.map .str)<|by ac_rfl];rw[aH<|aM (d:=.lst<|ps.map bX)<|by ac_rfl];rw[aH<|aM (d:=bG C g k r)<|by ac_rfl];have s6:aL (bG C g k r) (.int 6)=bw (.int<|cost C g):=by unfold bG;rw[q_itT];exact qj
 generalize ps.map bX=pl at *;rw[aH<|aM (d:=pt g)<|by ac_rfl];generalize pt g=pg at *;have s2:=DH (C:=C) (g:=g) (k:=k) (r:=r);generalize bG C g k r=sd at *;rw[aH (ρ':=[bw<|.lst<|ns.map .int,bw<|bB C,bw<|.lst<|nms.map .str,bw<|.lst pl,bw sd,bw pg,bw<|.int k,bz,bz,bz,bz,bz,bz,bz,bz])<|by ac_rfl];rw[aH (ρ':=[bw<|.lst<|ns.map .int,bw<|bB C,bw<|.lst<|nms.map .str,bw<|.lst pl,bw sd,bw pg,bw<|.int k,bw rm,bz,bz,bz,bz,bz,bz,bz])<|by ac_rfl];rw[aH (ρ':=[bw<|.lst<|ns.map .int,bw<|bB C,bw<|.lst<|nms.map .str,bw<|.lst pl,bw sd,bw pg,bw<|.int k,bw rm,bw<|.int f,bz,bz,bz,bz,bz,bz])<|by ac_rfl];rw[aH (ρ':=[bw<|.lst<|ns.map .int,bw<|bB C,bw<|.lst<|nms.map .str,bw<|.lst pl,bw sd,bw pg,bw<|.int k,bw rm,bw<|.int f,bw<|.int z,bz,bz,bz,bz,bz])<|by ac_rfl];rw[aH (ρ':=[bw<|.lst<|ns.map .int,bw<|bB C,bw<|.lst<|nms.map .str,bw<|.lst pl,bw sd,bw pg,bw<|.int k,bw rm,bw<|.int f,bw<|.int z,bw<|.int q.2,bz,bz,bz,bz])<|by ac_rfl];have wh:=RN f;have d1:VI (.int f) (.int 0)=bw (.bl cf):=by simp_all;lia
 have d2:ZV (.int f) (.int z)=bw (.bl cf):=by simp_all;lia
 have d3:VI (.int<|cost C g) (.int q.2)=bw (.bl cf):=by simp_all;lia
 rw[aH<|qbg (f:=LJ<|eC<|.bl cf) (g:=VG) (c:=_)<|by ac_rfl];rw[aH (ρ':=[bw<|.lst<|ns.map .int,bw<|bB C,bw<|.lst<|nms.map .str,bw<|.lst pl,bw sd,bw pg,bw<|.int k,bw rm,bw<|.int f,bw<|.int z,bw<|.int q.2,bw<|.int v,bz,bz,bz])<|by ac_rfl];have zp:0<z:=by lia
 have e1:dZ (.int v) (.int z)=bw (.int<|v%z):=bU zp;have e2:QL (.int v) (.int z)=bw (.int<|v/z):=OO zp (Int.lt_trans zb<|by decide +kernel);have e3:dZ (.int<|v/z) (.int z)=bw (.int<|v/z%z):=bU zp;have e4:ZX (.int f) (.int 1)=bw (.int<|f-1):=rfl;obtain⟨a,e5,a0⟩:∃a:Int,yI [.int 0,.int<|f-1]=bw (.int a)/\0<=a/\a<z:={_,rfl,by split <;> lia,by split <;> lia};obtain⟨b,e6,b0⟩:∃b:Int,yI [.int 1,.int f]=bw (.int b)/\0<b/\b<=z:={_,rfl,by split <;> lia,by split <;> lia};have e7:dZ (.int v) (.int b)=bw (.int<|v%b):=bU b0.1;obtain⟨l,el,L⟩:∃l:List Int,[D.int<|v%z,.int<|v/z%z,.int a,.int<|v%b]=l.map .int/\∀i∈l,0<=i/\i<z:=⟨[v%z,v/z%z,a,v%b],rfl,by
  have a1:=zaw v b0.1;have a2:=zat v (show b≠0 by lia);intro i hi;simp only[zaX,zaZ,or_false]at hi;rcases hi with rfl|rfl|rfl|rfl
  .exact{zat _<|by lia,zaw _ zp}
  .exact{zat _<|by lia,zaw _ zp}
  .exact a0
  .lia⟩
 rw[aH (ρ':=[bw<|.lst<|ns.map .int,bw<|bB C,bw<|.lst<|nms.map .str,bw<|.lst pl,bw sd,bw pg,bw<|.int k,bw rm,bw<|.int f,bw<|.int z,bw<|.int q.2,bw<|.int v,bw<|.lst [.int<|v%z,.int<|v/z%z,.int a,.int<|v%b],bz,bz])<|by ac_rfl,el];refine f7 (items:=l.map .int) (by ac_rfl) (λi ρ=>∃W M,ρ=[bw<|.lst<|ns.map .int,bw<|bB C,bw<|.lst<|nms.map .str,bw<|.lst pl,bw sd,bw pg,bw<|.int k,bw rm,bw<|.int f,bw<|.int z,bw<|.int q.2,bw<|.int v,bw<|.lst<|l.map .int,W,M]) {bz,bz,rfl} ?_ ?_
 .rintro i x ρ hx ⟨W,M,rfl⟩
  rw[zav]at hx;obtain⟨n,hy,rfl⟩:=map_some hx;have hn:=L n<|zap hy;obtain⟨rg,x,t1,t2,t3,t4⟩:=tk n hn.1 hn.2;refine{[bw<|.lst<|ns.map .int,bw<|bB C,bw<|.lst<|nms.map .str,bw<|.lst pl,bw sd,bw pg,bw<|.int k,bw rm,bw<|.int f,bw<|.int z,bw<|.int q.2,bw<|.int v,bw<|.lst<|l.map .int,bw<|.int n,bw<|.int x],?_,_,_,rfl};have c1:VI (.int x) (.int q.2)=bw (.bl cf):=by simp_all;lia
  by_cases c:n<f
  .have c2:VI (.int n) (.int f)=bw (.bl ca):=by simp_all[c]
   have c3:kQ (.int x) (.int q.2)=bw (.bl cf):=by simp_all;lia
   ac_rfl
  .have c2:VI (.int n) (.int f)=bw (.bl cf):=by simp_all[c]
   ac_rfl
 .rintro ρ ⟨W,M,rfl⟩
  ac_rfl
def qbQ:Bds top tab:=by
 unfold tab
 repeat (refine Bds.cons ?_ ?_;· (repeat intro _);rfl)
 exact Bds.nil
def WX{l:zeq}{w:World}{K:zae}{h:Heap}{mg:Str->Option Value}{fa:Addr}{k:Nat}(X:K.In h)(G:h.Ns zaH mg)(ai:mg "law" = bw (.ref fa))(D:Des K top tab)(B:Nos K blt)(J:Gis K gis)
  {f0:Addr} {ac F:Option Addr} {aj:Array (Option Value)} {al N U Y z M:Value} (a0:zbU K zaH "law" = bw (bw<|.ref f0)) (l0:K.lookup f0=bw {al,ac,.func<|zbe "law" "law" (eG s_law) (bM s_law) (aK s_law) .none N U Y F z M,aj}) (c0:zcv K z "law" = ca) (k0:zbM K (.ref f0)=ca)
  (oqNode:ObQ K "Node" "Node.__init__" (inClass (top 19) 0) CN ["part", "below", "names", "found"])
  (oqAtlas:ObQ K "Atlas" "Atlas.__init__" (inClass (top 21) 0) CA ["book", "routes", "spans"])
  {fL cL:Addr} {ab ah:Option Addr} {ak:Array (Option Value)} {an ad ae ag am:Value} (la:zbU K zaH "cheapest_choice" = bw (bw<|.ref fL)) (ll:K.lookup fL=bw {an,ab,.func<|zbe "cheapest_choice" "cheapest_choice" (eG<|top 41) (bM<|top 41) (aK<|top 41) .none ad ae ag ah (.ref cL) am,ak}) (lc:zeD K cL kO=ca)
  (ok:∀base:Heap,K.In base->base.Ns zaH mg->Txt K mg->My.BodyOk l.prog w K mg base "law" s_law ["script", "tome", "names", "pairs", "state", "part", "kind", "best", "first", "size", "cost", "n", "some", "one", "other"] k (My.C9 K)) :
  ∃fd:zbk,(∀(s:zac) (v:Value),BindsTo s fd {[v],[]} [("script",v)])/\∀base:Heap,K.In base->base.Ns zaH mg->FnOk l.prog w K mg base wK (k+1) fa fd ["script"] (My.C9 K):=by
 have e:=ai.symm.trans<|zdk X G a0;cases e;have F0:=FN (st:=s_law) l0 c0 k0;have T:Txt K mg:={Des.d X G D qbQ,λx hx=>PySem.W.mg_none_of X G<|B x hx,Gis.d X G J,oqNode.t X G λ_ _ _ _ _ _ _ _=>rfl,oqAtlas.t X G λ_ _ _ _ _ _ _ _=>rfl,{_,_,_,zdk X G la,ll,rfl,cL,rfl,lc}};refine{zbe "law" "law" (eG s_law) (bM s_law) (aK s_law) .none N U Y F z M,λs v=>.of_eq rfl,λbase kb nb=>?_};exact(ok base kb nb T).fn F0 sc_law λvs H Q E h=>by obtain⟨a,ns,e,_⟩:=h;rw[e];rfl
end Law
set_option genInjectivity false in
structure PySem.W.Fast:Prop where(tw8525071587901668418 tw6150518582496717800 tw3073158869751497255 tw4205922614687599074 tw14580528491028153906 tw2332153093601843198 tw11776403188897551217 tw1818838956625158255 tw6703696309815237416 tw16911435480065728224 tw2080851374363253224 tw17012432389348219332 tw5189557663114213203 tw10451621170753489608 tw14595937514738411532 tw13704227924257954247 tw8106040069983867184 tw11945326096481960141 tw12524307535815754313 tw12142434965359277697 tw6655335555596880555 tw17500050586750131796 tw6959649563159145032 tw15677956471563031810 tw17406795194692492562 tw17724171644943253904 tw12062528571762667846 tw12884467849528568481 tw11092587971188265604 tw9057405626915362159 tw4805239353524723052 tw14343867093292279648 tw16754967870881617607 tw9866954607342062572 tw17770824207731864622 tw11186253833076998692 tw16520615684787770631 tw17091575969221850728 tw4822862117533211067 tw5019069470667770066 tw9156271321997481676 tw3387273796337956008 tw1226672782972548113 tw3428174124891216129 tw7414007161184442657 tw9977722743726921050 tw10199492600505954827 tw6551866445330244234 tw18224056718979032794 tw14789315877011539641 tw3378879088243543056 tw8757947593283190072 tw14260535659361725914 tw6635142132172838756 tw18350574219388388156 tw17264328831816736392 tw12213228503555708928 tw17901572651555186525 tw15274455409883890367 tw10914305724160226637 tw9523348943983642017 tw9972276021524957770 tw1225046244118152809 tw10886218374902065500 tw11284971327123128972 tw16168913053729631496 tw13361691716933195817 tw1387658478973246385 tw1530616632742400764 tw427204171578561392 tw15203171437002236929 tw5245659713739044418 tw9891333418395444361 tw3371777202094833540 tw603827676223861728 tw10164099784031436938 tw10157070406810043420 tw3566752299147870874 tw1620939905883692134 tw18064627486955963341 tw6709500418869248751 tw3373430398902193824 tw8257417060283310385 tw15893325281112756535 tw3248837105888202455 tw14463123404724287014 tw10144767816137021846 tw8804224630061387023 tw17225107437406912251 tw6940345190564131373 tw5201081774790871888 tw4476752466033887367 tw1369014439729485685 tw2080454964933989121 tw2556716047222662169 tw10507606371418680498 tw4676447834392787911 tw974635253887174450 tw17828095129817214204 tw12068883610193678860 tw4810493285874540491 tw9709854521832560377 tw10763841364926907150 tw12865270777112284690 tw16397443586417797649 tw10505157244664504606 tw6179055560248482048 tw2731528997011280619 tw7850865011436121507 tw6597175768290048625 tw13627138031644236778 tw15005737122265627802 tw8428081302489564963 tw7532804713520258341 tw13111498982772493077 tw16450590231610105396 tw4814824390920579522 tw2260138992525510640 tw8137129207019349279 tw4370170167061641182 tw3381023453863157665 tw6375974634056263462 tw16217688296939367837 tw15371733663444182209 tw10875037424079095623 tw12347257171151151652 tw7655680704237837482 tw16432387180296144108 tw4093153461876222839 tw4510715858304643973 tw14129515662358323983 tw16054084727203116174 tw8783037004287972231 tw5134901388748645767 tw5429537219407381556 tw13737429641488224418 tw16967191785081327760 tw4281172794705750261 tw18131137371089667393 tw10325206942443655239 tw3123447951020296190 tw6567401663770016438 tw2549561624129025485 tw14933117284016078882 tw17585700136413512414 tw4833790881118731320 tw3172633935658086583 tw13717195150570613895 tw8651903633057366473 tw13724611805638060631 tw14938162493982311653 tw17007505293082914106 tw8314349641241864987 tw375632664216639500 tw6289111267540704737 tw11817366861896086359 tw14364105376743947211 tw1996609264315206409 tw7435465877957430480 tw11695427803838884734 tw9363756469703446823 tw6101295831613848376 tw17325757609476417046 tw7785925947569953517 tw8138579280527473307 tw15943821024969861284 tw15406747300228429271 tw13945266325596147287 tw12163626889045940191 tw1872225674235729454 tw16642250133646741992 tw1620494140411427558 tw673456126339115545 tw5778979547728154254 tw3747852174781566734 tw10033628090125343842 tw17399249326151127803 tw1514648228661840448 tw11962753701894975097 tw6243238496772422609 tw4611297603832532780 tw2434231468161224284 tw4767241015050696798 tw2612400229807001594 tw15429368417752344399 tw72597795655957744 tw8736591752349083405 tw14860556832971261033 tw5465579598239693365 tw14286885100403520529 tw6984214767740892284 tw8498521426981964416 tw7958830465413553479 tw2289461909430355628 tw7433152274894677129 tw2234429538837289826 tw12557620714893359294 tw1805215018528837602 tw1015242477297835266 tw8017104913439179255 tw3132730800867513988 tw2039883303161604818 tw14521402323002320081 tw18317712328153136513 tw3899416977843216062 tw15379060675186360901 tw6521409823335141762 tw14515257944401536020 tw14543667733338928789 tw1883885107805776258 tw5880379985746558350 tw11597417365059917315 tw170833164319743639 tw16332303184407758026 tw3252595585582294486 tw7740271499482585653 tw12642799791270666276 tw17588695287369258173 tw7445962816448022782 tw2583719236508071261 tw14537221542244658302 tw4285095465801221031 tw2758278344844972856 tw13635618543881630226 tw1885010768603184397 tw8028549278840898832 tw1330751341532929336 tw7707938324189749664 tw18026445593899016348 tw4082076473410701830 tw15564188828255221535 tw10843592983365219863 tw1115035624898262127 tw8948644619154755798 tw4681239177652475188 tw7404456999548369772 tw15474155433925355882 tw5128724311718299745 tw16324691315030253098 tw9519864204589635250 tw15983285772669090996 tw4376849399937649777 tw16195071708467833996 tw16732405722409034543 tw7572226045239335164 tw3715622481881612125 tw17085041303131651778 tw5429290540527107446 tw6056832397323649747 tw540919870672392600 tw14260322685952569864 tw2907642606768132664 tw12657365826526231305 tw10606157093945376068 tw6907302219856280033 tw11090991496110863948 tw4214862344450304770 tw4905891646294125178 tw4526913880512906912 tw11689345912488975952 tw8257336954897955712 tw11484280503592070 tw15188700194822171513 tw8326678651401563340 tw926226135557108051 tw8808862932848255417 tw2308497028402983329 tw3868147705892664195 tw16184482900128506497 tw16714571972656942553 tw15769725556298054388 tw6430124945615767052 tw16675274238983012627 tw3986103534498207875 tw9764488134550051601 tw2685489272371785477 tw18326424637277512321 tw17011999677912836681 tw15969957508665798798 tw13661752926473607268 tw13719390185028022129 tw3001643704489821293 tw7001734041912014865 tw14178234774981651475 tw341191276906629087 tw5938675969562053179 tw4121265829725443820 tw14097358603372607764 tw6622459676153338545 tw6556101267430439192 tw1806609155890117466 tw4625949302076201001 tw14726996068202083322 tw5572994967676539231 tw12404781034096281807 tw9152204338731319213 tw14173190433226191004 tw16695732113518505842 tw10279996102001437297 tw3764485615772554333 tw13190787471561602169 tw13806459359390035807 tw9667765601741810492 tw800151697091974419 tw5877665934906471064 tw14416871654684061306 tw2678422315342182136:True)
open PySem PySem.W PyProof.Rows
set_option maxRecDepth 100000 in
set_option maxHeartbeats 0 in
theorem PySem.Challenge.cw_chiefway_k64_whole_the_first_of_the_chea_holds : PySem.Challenge.rw_chiefway_k64_whole_the_first_of_the_chea.Holds := by
 w_on;o_law;k_head;(case hw=>w_witness2)
 k_fill
 refine My.walk (l:=PySem.Challenge.rw_chiefway_k64_whole_the_first_of_the_chea) (k:=72) (by decide) rfl rfl (λw h Y=>PySem.W.km_in_of Y) (λw h Y=>{PySem.W.km_tabs_of Y L2.kO<|List.mem_singleton.mpr rfl,((PySem.W.codeHd_of_K (c:=284) (P:=L2.kO) (PySem.W.km_in_of Y)<|by kernel_rfl).tab<|PySem.W.km_tabs_of Y L2.kO<|List.mem_singleton.mpr rfl).isCodeTable}) (by intro p;kernel_rfl) ?F
 case F=>
  intro w mg U h KX G M;refine' Law.WX (k:=71) KX G M ?D ?B ?J ?a0 ?l0 ?c0 ?k0 ?oqNode ?oqAtlas ?la ?ll ?lc ?ok
  (case D=>unfold Law.tab;(repeat (apply P.Des.cons;(case a=>k_is);(case l=>k_is);(case c=>k_is);(case k=>k_is)));exact P.Des.nil)
  (case B=>unfold Law.blt;(repeat (apply P.Nos.cons;(case a=>k_is)));exact P.Nos.nil)
  (case J=>unfold Law.gis;(repeat (apply P.Gis.cons;(case a=>k_is)));exact P.Gis.nil)
  (case oqNode=>refine' P.obq ?a ?m1 ?m2 ?m3 ?m4 ?m5 ?m6 ?m7 ?m8 ?l ?c ?k ?n;(case a=>k_is);(case m1=>k_is);(case m2=>k_is);(case m3=>k_is);(case m4=>k_is);(case m5=>k_is);(case m6=>k_is);(case m7=>k_is);(case m8=>k_is);(case l=>k_is);(case c=>k_is);(case k=>k_is);(case n=>(repeat (apply P.Fas.cons;(case a=>k_is)));exact P.Fas.nil))
  (case oqAtlas=>refine' P.obq ?a ?m1 ?m2 ?m3 ?m4 ?m5 ?m6 ?m7 ?m8 ?l ?c ?k ?n;(case a=>k_is);(case m1=>k_is);(case m2=>k_is);(case m3=>k_is);(case m4=>k_is);(case m5=>k_is);(case m6=>k_is);(case m7=>k_is);(case m8=>k_is);(case l=>k_is);(case c=>k_is);(case k=>k_is);(case n=>(repeat (apply P.Fas.cons;(case a=>k_is)));exact P.Fas.nil))
  (case a0=>k_is)
  (case l0=>k_is)
  (case c0=>k_is)
  (case k0=>k_is)
  (case la=>k_is)
  (case ll=>k_is)
  (case lc=>kernel_rfl)
  (case ok=>exact λbase kb nb T=>P.ZI (f:=Law.QI) (O':=[]) rfl (λU N A z s H E hr=>Law.VU.2 T U N A z s H E hr) Law.qao)
